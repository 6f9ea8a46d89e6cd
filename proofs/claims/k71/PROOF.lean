import PyProof.Rows.All
import Wide.All
import OpenK.AllK
import Wide.FinOn
import PyProof.EqAt
import PyProof.EqKinds
import PyProof.NeKinds
import PyProof.TupleCall
import PyProof.Rows.SortWalk
import KE.KDictSum
import PyProof.SetKind
import PyProof.DictKinds
import PyProof.MeetsSeq2
import PyProof.SetRoads
import PyProof.SetNew
import PyProof.Rows.SetFrom
import KE.KDictList
import PyProof.EnumFor
import PyProof.EnumStmt
import PyProof.EnumMake
import KE.KRevIter
import PyProof.Draws
import PyProof.CollectIter
import PyProof.TupleOfGen
import PyProof.TupleOps
import KE.KEqDict
import PyProof.WalkInts
import PyProof.ZipIter
import KE.KSortTup
import PySem.Challenge.RW_spacewright_k71_things_moved
set_option Elab.async false
set_option linter.all false
set_option maxRecDepth 100000
set_option maxHeartbeats 4000000
noncomputable section
abbrev xFr:=PySem.W.Frag
theorem xAa:type_of%@List.length_map:=@List.length_map
theorem xAb:type_of%@List.length_append:=@List.length_append
theorem xAc:type_of%@List.mem_of_getElem?:=@List.mem_of_getElem?
theorem xAd:type_of%@PySem.wpAny_bind:=@PySem.wpAny_bind
theorem xAe:type_of%@PySem.wpAny_pure:=@PySem.wpAny_pure
theorem xAf:type_of%@PySem.Heap.get?_push_of_some:=@PySem.Heap.get?_push_of_some
theorem xAg:type_of%@Nat.le_refl:=@Nat.le_refl
theorem xAh:type_of%@Array.length_toList:=@Array.length_toList
theorem xAi:type_of%@List.map_append:=@List.map_append
theorem xAj:type_of%@List.mem_append:=@List.mem_append
theorem xAk:type_of%@List.getElem?_eq_getElem:=@List.getElem?_eq_getElem
theorem xAl:type_of%@PySem.Heap.get?_push_size:=@PySem.Heap.get?_push_size
theorem xAm:type_of%@List.mem_singleton:=@List.mem_singleton
theorem xAn:type_of%@List.length_take:=@List.length_take
theorem xAo:type_of%@List.length_cons:=@List.length_cons
theorem xAp:type_of%@List.size_toArray:=@List.size_toArray
theorem xAq:type_of%@List.getElem?_eq_some_iff:=@List.getElem?_eq_some_iff
theorem xAr:type_of%@List.mem_cons_self:=@List.mem_cons_self
theorem xAs:type_of%@List.mem_cons_of_mem:=@List.mem_cons_of_mem
theorem xAt:type_of%@List.length_singleton:=@List.length_singleton
theorem xAu:type_of%@List.take_length:=@List.take_length
theorem xAv:type_of%@List.mem_cons:=@List.mem_cons
theorem xAw:type_of%@List.getElem?_map:=@List.getElem?_map
theorem xAx:type_of%@List.append_assoc:=@List.append_assoc
theorem xAy:type_of%@Bool.false_ne_true:=@Bool.false_ne_true
theorem xAz:type_of%@Bool.false_eq_true:=@Bool.false_eq_true
theorem xA0:type_of%@Nat.ne_of_lt:=@Nat.ne_of_lt
theorem xA1:type_of%@PySem.Heap.lt_size:=@PySem.Heap.lt_size
theorem xA2:type_of%@List.mem_map:=@List.mem_map
theorem xA3:type_of%@Option.map_eq_some_iff:=@Option.map_eq_some_iff
theorem xBc:type_of%@Nat.lt_of_lt_of_le:=@Nat.lt_of_lt_of_le
theorem xBd:type_of%@decide_eq_true:=@decide_eq_true
theorem xBj:type_of%@List.mem_of_mem_take:=@List.mem_of_mem_take
theorem xBn:type_of%@Nat.zero_le:=@Nat.zero_le
theorem xBo:type_of%@Nat.lt_irrefl:=@Nat.lt_irrefl
theorem xBq:type_of%@List.nodup_append:=@List.nodup_append
theorem xBs:type_of%@List.map_cons:=@List.map_cons
theorem xBt:type_of%@List.mem_append_right:=@List.mem_append_right
theorem xBu:type_of%@Int.le_refl:=@Int.le_refl
theorem xBv:type_of%@List.not_mem_nil:=@List.not_mem_nil
theorem xBw:type_of%@List.mem_append_left:=@List.mem_append_left
theorem xBx:type_of%@List.take_append_drop:=@List.take_append_drop
theorem xBz:type_of%@List.getD_eq_getElem?_getD:=@List.getD_eq_getElem?_getD
theorem xB0:type_of%@List.append_nil:=@List.append_nil
theorem xB1:type_of%@Array.toList_append:=@Array.toList_append
theorem xB2:type_of%@List.drop_eq_getElem_cons:=@List.drop_eq_getElem_cons
theorem xB3:type_of%@Option.some.inj:=@Option.some.inj
theorem xB6:type_of%@List.extract_eq_drop_take:=@List.extract_eq_drop_take
theorem xCb:type_of%@List.nodup_cons:=@List.nodup_cons
theorem xCc:type_of%@List.map_map:=@List.map_map
theorem xCd:type_of%@PyProof.Rows.wpS_bind:=@PyProof.Rows.wpS_bind
theorem xCe:type_of%@PyProof.Rows.wpS_pure:=@PyProof.Rows.wpS_pure
theorem xCf:type_of%@if_neg:=@if_neg
theorem xCg:type_of%@if_pos:=@if_pos
namespace L2
open PySem PySem.Spec PyProof.Rows
abbrev Key:=Sum Int Str
def keyIs:Key→Value→Bool
 | .inl k,v=>Value.isInt k v
 | .inr x,v=>Value.isStrOf x v
def keyH (w:World):Key→Int
 | .inl k=>hashInt k
 | .inr x=>hashStr w x
theorem aA:∀ {k:Key} {v:Value},keyIs k v=true→(∃ i t,k=Sum.inl i∧v=Value.int i t)∨(∃ x t,k=Sum.inr x∧v=Value.str x t)
 | .inl i,v,h=>by
  obtain ⟨t,e⟩:=Value.isInt_shape (k:=i) (v:=v) h
  exact .inl ⟨i,t,rfl,e⟩
 | .inr x,v,h=>by
  obtain ⟨t,e⟩:=Value.isStrOf_shape (x:=x) (v:=v) h
  exact .inr ⟨x,t,rfl,e⟩
theorem ii (i:Int) (t:Tok):keyIs (.inl i) (.int i t)=true:=by simp [keyIs,Value.isInt]
theorem ig (x:Str) (t:Tok):keyIs (.inr x) (.str x t)=true:=by simp [keyIs,Value.isStrOf]
theorem nu (a b:Int):decide ((Sum.inl a:Key)=Sum.inl b)=(a == b):=by
 by_cases e:a=b
 ·subst e;simp
 ·have h:¬ (Sum.inl a:Key)=Sum.inl b:=fun q=>e (Sum.inl.inj q)
  rw [decide_eq_false h]
  exact (beq_eq_false_iff_ne.mpr e).symm
theorem nj (a b:Str):decide ((Sum.inr a:Key)=Sum.inr b)=decide (a=b):=by
 by_cases e:a=b
 ·subst e;simp
 ·have h:¬ (Sum.inr a:Key)=Sum.inr b:=fun q=>e (Sum.inr.inj q)
  rw [decide_eq_false h,decide_eq_false e]
theorem nr (a:Int) (b:Str):decide ((Sum.inl a:Key)=Sum.inr b)=false:=decide_eq_false (fun q=>nomatch q)
theorem no (a:Str) (b:Int):decide ((Sum.inr a:Key)=Sum.inl b)=false:=decide_eq_false (fun q=>nomatch q)
def mixKind (prog:Program) (w:World):PySem.KeyKind prog w Key where
 is:=keyIs
 hash:=keyH w
 inj:=fun v a b ha hb=>by
  rcases aA ha with ⟨i,t,rfl,rfl⟩ | ⟨x,t,rfl,rfl⟩
  ·rcases aA hb with ⟨j,u,rfl,e⟩ | ⟨y,u,rfl,e⟩
   ·injection e with e1 _;rw [e1]
   ·exact nomatch e
  ·rcases aA hb with ⟨j,u,rfl,e⟩ | ⟨y,u,rfl,e⟩
   ·exact nomatch e
   ·injection e with e1 _;rw [e1]
 byValue:=fun k v h=>by
  rcases aA h with ⟨i,t,rfl,rfl⟩ | ⟨x,t,rfl,rfl⟩ <;> rfl
 pyHash:=fun hv h=>by
  rcases aA hv with ⟨i,t,rfl,rfl⟩ | ⟨x,t,rfl,rfl⟩
  ·exact wpAny_pyHash_int h
  ·exact wpAny_pyHash_str h
 eqBool:=fun hu hv h=>by
  rcases aA hu with ⟨i,t,rfl,rfl⟩ | ⟨x,t,rfl,rfl⟩
  ·rcases aA hv with ⟨j,u,rfl,rfl⟩ | ⟨y,u,rfl,rfl⟩
   ·rw [nu] at h;exact wpAny_eqBool_int h
   ·rw [nr] at h;exact SeqAt.EqAt.int_str i t y u _ _ _ _ h
  ·rcases aA hv with ⟨j,u,rfl,rfl⟩ | ⟨y,u,rfl,rfl⟩
   ·rw [no] at h;exact SeqAt.EqAt.str_int x t j u _ _ _ _ h
   ·rw [nj] at h;exact wpAny_eqBool_str h
 «strs»:=fun k x t v h=>by
  rcases aA h with ⟨i,u,rfl,e⟩ | ⟨y,u,rfl,e⟩
  ·exact nomatch e
  ·injection e with e1 _
   subst e1
   cases v <;> rfl
theorem fw (prog:Program) (w:World) (i:Int) (t:Tok):(mixKind prog w).is (.inl i) (.int i t)=true:=ii i t
theorem fv (prog:Program) (w:World) (x:Str) (t:Tok):(mixKind prog w).is (.inr x) (.str x t)=true:=ig x t
end L2
namespace L2
open PySem PySem.Spec PyProof.Rows
inductive V where
 | non | bl (b:Bool) | int (i:Int) | str (x:Str) | byt (b:Array UInt8) | flt (b:UInt64) | ref (a:Addr) | ty (n:String)
 deriving DecidableEq
def RelV:V→Value→Prop
 | .non,u=>u=Value.none
 | .bl b,u=>u=Value.bool b
 | .int i,u=>∃ t,u=Value.int i t
 | .str x,u=>∃ t,u=Value.str x t
 | .byt b,u=>∃ t,u=Value.bytes b t
 | .flt b,u=>∃ t,u=Value.float b t
 | .ref a,u=>u=Value.ref a
 | .ty n,u=>u=Value.type n
abbrev Vals:List V→List Value→Prop:=Paired RelV
theorem Vals.length {xs:List V} {us:List Value} (r:Vals xs us):xs.length=us.length:=Paired.length r
theorem Vals.get:∀ {xs:List V} {us:List Value} {i:Nat} {x:V},Vals xs us→xs[i]?=some x→∃ u,us[i]?=some u∧RelV x u
 | _,_,_,_,.nil,e=>by simp at e
 | _,_,0,_,.cons r _,e=>by simp at e;subst e;exact ⟨_,rfl,r⟩
 | _,_,i+1,x,.cons _ t,e=>by
  obtain ⟨u,h1,h2⟩:=Vals.get (i:=i) (x:=x) t (by simpa using e)
  exact ⟨u,by simpa using h1,h2⟩
theorem Vals.set {x:V} {u:Value} (r:RelV x u):∀ {xs:List V} {us:List Value} (i:Nat),Vals xs us→Vals (xs.set i x) (us.set i u)
 | _,_,_,.nil=>.nil
 | _,_,0,.cons _ t=>.cons r t
 | _,_,i+1,.cons q t=>.cons q (Vals.set r i t)
theorem Vals.append:∀ {xs ys:List V} {us ws:List Value},Vals xs us→Vals ys ws→Vals (xs++ys) (us++ws)
 | _,_,_,_,.nil,s=>s
 | _,_,_,_,.cons r t,s=>.cons r (Vals.append t s)
theorem Vals.take:∀ {xs:List V} {us:List Value} (n:Nat),Vals xs us→Vals (xs.take n) (us.take n)
 | _,_,0,_=>.nil
 | _,_,_+1,.nil=>.nil
 | _,_,n+1,.cons r t=>.cons r (Vals.take n t)
theorem Vals.drop:∀ {xs:List V} {us:List Value} (n:Nat),Vals xs us→Vals (xs.drop n) (us.drop n)
 | _,_,0,r=>r
 | _,_,_+1,.nil=>.nil
 | _,_,n+1,.cons _ t=>Vals.drop n t
def RelO:Option V→Option Value→Prop
 | some v,some u=>RelV v u
 | none,none=>True
 | _,_=>False
def KV {κ:Type}:List (κ×V)→List (κ×Value)→Prop:=Paired fun (p:κ×V) (q:κ×Value)=>p.1=q.1∧RelV p.2 q.2
def kV:Key→V
 | .inl i=>.int i
 | .inr x=>.str x
inductive HO where
 
 | lst (xs:List V)
 
 | tup (xs:List V)
 
 | dK (kvs:List (Key×V)) | dT (kvs:List (List Key×V))
 
 | set (S:Int→Bool) (n:Nat)
 
 | ins (C dx:Addr) (fs:List (Str×V))
 
 | own (x:Addr)
 
 | xd (fs:List (Str×V))
 
 | met (f x:Addr)
 
 | rng (lo hi:Int)
 
 | frz (o:Obj) (u:HO)
 
 | tbl (ps:Array Value)
 
 | ext (φ:Heap→Prop)
abbrev Hp:=Addr→Option HO
def upd (H:Hp) (a:Addr) (o:HO):Hp:=fun b=>if b=a then some o else H b
theorem ac {H:Hp} {a:Addr} {o:HO}:upd H a o a=some o:=by unfold upd;rw [xCg rfl]
theorem ag {H:Hp} {a b:Addr} {o:HO} (h:b≠a):upd H a o b=H b:=by unfold upd;rw [xCf h]
theorem oY {H:Hp} {a b:Addr} {o u:HO} (h:H a=some o) (h':H b=some u) (d:o≠u):a≠b:=by
 intro e;subst e;rw [h] at h';exact d (xB3 h')
theorem aF {H:Hp} {a b:Addr} {o:HO} (h:H a=some o) (h':H b=none):a≠b:=by
 intro e;subst e;rw [h] at h';cases h'
section
variable (P:Program) (w:World)
def ObjOk (H:Hp) (h:Heap) (a:Addr):HO→Prop
 | .lst xs=>xs.length≤sizeLine∧∃ (its:List Value) (n:Nat),Vals xs its∧h.get? a=some { cls:=.type "list",data:=.seq its.toArray n }
 | .tup xs=>xs.length≤sizeLine∧∃ its:List Value,Vals xs its∧IsTup h a its.toArray
 | .dK kvs=>kvs.length≤sizeLine∧(a == sysModules)=false∧∃ vs,KV kvs vs∧h.DictOf (mixKind P w) a vs
 | .dT kvs=>kvs.length≤sizeLine∧(a == sysModules)=false∧∃ xs:List (List Key×Addr×Value),
   Paired (fun (p:List Key×V) (q:List Key×Addr×Value)=>p.1=q.1∧H q.2.1=some (.tup (p.1.map kV))∧RelV p.2 q.2.2) kvs xs ∧
   ∃ o es ep,h.get? a=some o∧o.ExactDict∧o.data = .dict es ep∧es.toList=xs.map (entryOfKey (tupleKind (mixKind P w)))∧(xs.map (·.1)).Nodup
 | .set S n=>h.SetOf (intKind P w) a S n
 | .ins C dx fs=>H dx=some (.own a)∧fs.length≤1000∧dx≠a∧h.get? a=some (PySem.W.instObj C dx) ∧
   ∃ mA,h.Ns1 dx mA∧(∀ f,RelO (fs.lookup f) (mA f))∧PySem.Within mA (fs.map (·.1))
 | .own _=>∃ o,h.get? a=some o
 | .xd fs=>∃ mA,h.Ns1 a mA∧∀ f,RelO (fs.lookup f) (mA f)
 | .rng lo hi=>∃ t u v,h.get? a=some { cls:=.type "range",data:=.fields #[.int lo t,.int hi u,.int 1 v] }
 | .frz o u=>h.get? a=some o∧ObjOk H h a u
 | .tbl ps=>h.get? a=some { cls:=.none,data:=.fields ps }
 | .met f x=>h.get? a=some (PySem.W.methodObj (.ref f) (.ref x))
 | .ext φ=>φ h∧(∃ o,h.get? a=some o)∧∀ h1 h2:Heap,φ h1→(∀ o,h1.get? a=some o→h2.get? a=some o)→φ h2
def HOk (H:Hp) (h:Heap):Prop:=∀ a o,H a=some o→ObjOk P w H h a o
end
section
variable {P:Program} {w:World} {H H':Hp} {h h':Heap} {a:Addr} {o:HO}
theorem ObjOk.lt (x:ObjOk P w H h a o):a<h.objs.size:=by
 cases o with
 | lst xs=>obtain ⟨_,_,_,_,e⟩:=x;exact xA1 e
 | tup xs=>obtain ⟨_,_,_,p⟩:=x;exact p.lt
 | dK kvs=>obtain ⟨_,_,_,_,o,_,_,e,_⟩:=x;exact xA1 e
 | dT kvs=>obtain ⟨_,_,_,_,o,_,_,e,_⟩:=x;exact xA1 e
 | set S n=>obtain ⟨o,_,_,_,e,_⟩:=x;exact xA1 e
 | ins C dx fs=>obtain ⟨_,_,_,e,_⟩:=x;exact xA1 e
 | own y=>obtain ⟨_,e⟩:=x;exact xA1 e
 | xd fs=>obtain ⟨_,⟨_,_,_,e,_⟩,_⟩:=x;exact xA1 e
 | rng lo hi=>obtain ⟨_,_,_,e⟩:=x;exact xA1 e
 | frz ob u=>obtain ⟨e,_⟩:=x;exact xA1 e
 | tbl ps=>exact xA1 (show h.get? a=some _ from x)
 | met f y=>exact xA1 (show h.get? a=some _ from x)
 | ext φ=>obtain ⟨_,⟨_,e⟩,_⟩:=x;exact xA1 e
theorem Paired.mapP {α β:Type} {F G:α→β→Prop}:∀ {l₁:List α} {l₂:List β},Paired F l₁ l₂→(∀ a b,F a b→G a b)→Paired G l₁ l₂
 | _,_,.nil,_=>.nil
 | _,_,.cons r t,f=>.cons (f _ _ r) (Paired.mapP t f)
theorem ObjOk.stay (x:ObjOk P w H h a o) (k:∀ b u,(b=a∨H b=some (.own a))→h.get? b=some u→h'.get? b=some u)
  (ho:∀ b,H b=some (.own a)→H' b=some (.own a)) (ht:∀ b xs,H b=some (.tup xs)→H' b=some (.tup xs)):ObjOk P w H' h' a o:=by
 induction o with
 | lst xs=>obtain ⟨z,its,n,r,e⟩:=x;exact ⟨z,its,n,r,k _ _ (.inl rfl) e⟩
 | tup xs=>obtain ⟨z,its,r,ob,e,c⟩:=x;exact ⟨z,its,r,ob,k _ _ (.inl rfl) e,c⟩
 | dK kvs=>obtain ⟨z,y,vs,r,ob,es,ep,e,c⟩:=x;exact ⟨z,y,vs,r,ob,es,ep,k _ _ (.inl rfl) e,c⟩
 | dT kvs =>
  obtain ⟨z,y,xs,r,ob,es,ep,e,c⟩:=x
  exact ⟨z,y,xs,Paired.mapP r fun p q z=>⟨z.1,ht _ _ z.2.1,z.2.2⟩,ob,es,ep,k _ _ (.inl rfl) e,c⟩
 | set S n=>obtain ⟨ob,es,ep,t,e,c⟩:=x;exact ⟨ob,es,ep,t,k _ _ (.inl rfl) e,c⟩
 | ins C dx fs =>
  obtain ⟨d,z,ne,e,mA,⟨od,es,ep,e2,c⟩,r⟩:=x
  exact ⟨ho _ d,z,ne,k _ _ (.inl rfl) e,mA,⟨od,es,ep,k _ _ (.inr d) e2,c⟩,r⟩
 | own y=>obtain ⟨ob,e⟩:=x;exact ⟨ob,k _ _ (.inl rfl) e⟩
 | xd fs=>obtain ⟨mA,⟨od,es,ep,e,c⟩,r⟩:=x;exact ⟨mA,⟨od,es,ep,k _ _ (.inl rfl) e,c⟩,r⟩
 | rng lo hi=>obtain ⟨t,u,v,e⟩:=x;exact ⟨t,u,v,k _ _ (.inl rfl) e⟩
 | frz ob u ih=>obtain ⟨e,q⟩:=x;exact ⟨k _ _ (.inl rfl) e,ih q⟩
 | tbl ps =>
  have e:h.get? a=some { cls:=.none,data:=.fields ps }:=x
  show h'.get? a=some { cls:=.none,data:=.fields ps }
  exact k a _ (.inl rfl) e
 | met f y =>
  have e:h.get? a=some (PySem.W.methodObj (.ref f) (.ref y)):=x
  show h'.get? a=some (PySem.W.methodObj (.ref f) (.ref y))
  exact k a _ (.inl rfl) e
 | ext φ=>obtain ⟨p,⟨o,e⟩,st⟩:=x;exact ⟨st _ _ p fun o q=>k _ _ (.inl rfl) q,⟨o,k _ _ (.inl rfl) e⟩,st⟩
theorem HOk.lt (x:HOk P w H h) (e:H a=some o):a<h.objs.size:=(x a o e).lt
theorem HOk.fresh (x:HOk P w H h) (e:h.objs.size≤a):H a=none:=by
 cases q:H a with
 | none=>rfl
 | some u=>exact absurd (xBc (x.lt q) e) (xBo _)
theorem HOk.kept (x:HOk P w H h) (k:∀ b u,h.get? b=some u→h'.get? b=some u):HOk P w H h':=fun a o e =>
 (x a o e).stay (fun b u _ q=>k b u q) (fun _ q=>q) fun _ _ q=>q
theorem HOk.laid (x:HOk P w H h) (k:∀ b u,h.get? b=some u→h'.get? b=some u) (hp:h.objs.size≤a) (new:ObjOk P w (upd H a o) h' a o):HOk P w (upd H a o) h':=fun b u e=>by
 have hn:=x.fresh hp
 by_cases hb:b=a
 ·subst hb;rw [ac] at e;cases e;exact new
 ·rw [ag hb] at e
  exact (x b u e).stay (fun c v _ q=>k c v q) (fun c q=>by rw [ag (aF q hn)];exact q) fun c xs q=>by rw [ag (aF q hn)];exact q
end
def Rd (H:Hp) (a:Addr) (u:HO):Prop:=H a=some u∨∃ o,H a=some (.frz o u)
theorem Rd.of {H:Hp} {a:Addr} {u:HO} (h:H a=some u):Rd H a u:=.inl h
theorem Rd.ok {P:Program} {w:World} {H:Hp} {h:Heap} {a:Addr} {u:HO} (r:Rd H a u) (x:HOk P w H h):ObjOk P w H h a u:=by
 rcases r with r | ⟨o,r⟩
 ·exact x a u r
 ·obtain ⟨_,q⟩:=x a _ r
  exact q
def Mut:Option HO→Prop
 | some (.lst _)=>True
 | some (.dK _)=>True
 | some (.dT _)=>True
 | some (.set _ _)=>True
 | some (.ins _ _ _)=>True
 | some (.ext _)=>True
 | _=>False
section
variable {P:Program} {w:World} {H:Hp} {h h':Heap} {x e:Addr} {o':HO}
theorem HOk.write (ok:HOk P w H h) (mu:Mut (H x)) (he:e=x∨H e=some (.own x)) (k:∀ b u,b≠e→h.get? b=some u→h'.get? b=some u) (heo:∃ u,h'.get? e=some u)
  (new:ObjOk P w (upd H x o') h' x o'):HOk P w (upd H x o') h':=fun b u q=>by
 have nown:∀ c y,H c=some (.own y)→c≠x:=fun c y r z=>by subst z;rw [r] at mu;exact mu
 have ntup:∀ c xs,H c=some (.tup xs)→c≠x:=fun c xs r z=>by subst z;rw [r] at mu;exact mu
 by_cases hb:b=x
 ·subst hb;rw [ac] at q;cases q;exact new
 ·rw [ag hb] at q
  by_cases hbe:b=e
  ·have q':H b=some (.own x):=by
    rcases he with z | z
    ·exact absurd (hbe.trans z) hb
    ·rw [hbe];exact z
   rw [q] at q';cases q'
   obtain ⟨v,hv⟩:=heo
   exact ⟨v,by rw [hbe];exact hv⟩
  ·refine (ok b u q).stay (fun c v hc r=>k c v ?_ r) (fun c r=>by rw [ag (nown c b r)];exact r) fun c xs r=>by rw [ag (ntup c xs r)];exact r
   rcases hc with rfl | hc
   ·exact hbe
   ·rintro rfl
    rcases he with z | z
    ·exact nown c b hc z
    ·rw [hc] at z;cases z;exact hb rfl
end
structure Un (fs ex:List Addr) (H H':Hp) (h h':Heap):Prop where
 keep:∀ b o,h.get? b=some o→H b=none→b ∉ fs→b ∉ ex→h'.get? b=some o
 slot:∀ b o,h.get? b=some o→H b=none→b∈fs→b ∉ ex→∃ sl,h'.get? b=some { o with slots:=sl }
 free:∀ b o,h.get? b=some o→H b=none→b ∉ ex→H' b=none
 there:∀ b o,h.get? b=some o→b ∉ ex→∃ o',h'.get? b=some o'
 tups:∀ b xs,H b=some (.tup xs)→H' b=some (.tup xs)
 frzs:∀ b o u,H b=some (.frz o u)→H' b=some (.frz o u)
 tbls:∀ b ps,H b=some (.tbl ps)→∃ more,H' b=some (.tbl (ps++more))
section
variable {fs fs' ex ex':List Addr} {H H1 H2:Hp} {h h1 h2 h':Heap} {a x e:Addr} {o:HO}
theorem Un.any (u:Un fs ex H H1 h h1) {b:Addr} {ob:Obj} (q:h.get? b=some ob) (n:H b=none) (hx:b ∉ ex):∃ sl,h1.get? b=some { ob with slots:=sl }:=by
 by_cases hb:b∈fs
 ·exact u.slot b ob q n hb hx
 ·exact ⟨ob.slots,u.keep b ob q n hb hx⟩
theorem Un.kept (k:∀ b u,h.get? b=some u→h'.get? b=some u):Un fs ex H H h h' :=
 ⟨fun b ob q _ _ _=>k b ob q,fun b ob q _ _ _=>⟨ob.slots,k b ob q⟩,fun _ _ _ n _=>n,fun b ob q _=>⟨ob,k b ob q⟩,fun _ _ q=>q,fun _ _ _ q=>q,fun _ ps q=>⟨#[],by rw [q];simp⟩⟩
theorem Un.refl:Un fs ex H H h h:=Un.kept fun _ _ q=>q
theorem Un.laid (k:∀ b u,h.get? b=some u→h'.get? b=some u) (hp:h.objs.size≤a) (hn:H a=none):Un fs ex H (upd H a o) h h' where
 keep:=fun b u q _ _ _=>k b u q
 slot:=fun b u q _ _ _=>⟨u.slots,k b u q⟩
 free:=fun b u q n _=>by rw [ag (xA0 (xBc (xA1 q) hp))];exact n
 there:=fun b u q _=>⟨u,k b u q⟩
 tups:=fun b xs q=>by rw [ag (aF q hn)];exact q
 frzs:=fun b u xs q=>by rw [ag (aF q hn)];exact q
 tbls:=fun b ps q=>⟨#[],by rw [ag (aF q hn),q];simp⟩
theorem Un.write (mu:Mut (H x)) (he:e=x∨H e=some (.own x)) (k:∀ b u,b≠e→h.get? b=some u→h'.get? b=some u) (heo:∃ u,h'.get? e=some u):Un fs ex H (upd H x o) h h':=by
 have hx:∀ b,H b=none→b≠x:=fun b n z=>by subst z;rw [n] at mu;exact mu
 have hb:∀ b,H b=none→b≠e:=fun b n z=>by
  subst z
  rcases he with r | r
  ·exact hx b n r
  ·rw [n] at r;cases r
 have hm:∀ b u,H b=some u→¬ Mut (some u)→b≠x:=fun b u q nm z=>by subst z;rw [q] at mu;exact nm mu
 refine ⟨fun b u q n _ _=>k b u (hb b n) q,fun b u q n _ _=>⟨u.slots,k b u (hb b n) q⟩,fun b u q n _=>by rw [ag (hx b n)];exact n,fun b u q _=>?_,
  fun b xs q=>by rw [ag (hm b _ q fun z=>z)];exact q,fun b u xs q=>by rw [ag (hm b _ q fun z=>z)];exact q,fun b ps q=>⟨#[],by rw [ag (hm b _ q fun z=>z),q];simp⟩⟩
 by_cases hbe:b=e
 ·subst hbe;exact heo
 ·exact ⟨u,k b u hbe q⟩
end
def trk (h:Heap) (H:Hp):List Addr:=(List.range h.objs.size).filter fun a=>(H a).isSome
def hidT (h:Heap) (H:Hp):Heap:=PySem.W.hideAll h (trk h H)
theorem im (h:Heap) (H:Hp):(hidT h H).objs.size=h.objs.size:=PySem.W.hideAll_size _ _
theorem jm {h:Heap} {H:Hp} {b:Addr} {o:Obj} (e:h.get? b=some o) (n:H b=none):(hidT h H).get? b=some o :=
 PySem.W.hideAll_get _ e fun hm=>by
  have q:(H b).isSome=true:=(List.mem_filter.mp hm).2
  rw [n] at q;simp at q
theorem kL {h:Heap} {H:Hp} {b:Addr} {o:Obj} (e:(hidT h H).get? b=some o):h.get? b=some o∧H b=none:=by
 have e':h.get? b=some o:=PySem.W.of_hideAll (trk h H) e
 refine ⟨e',?_⟩
 cases q:H b with
 | none=>rfl
 | some x =>
  have hm:b∈trk h H:=List.mem_filter.mpr ⟨List.mem_range.mpr (xA1 e'),by simp [q]⟩
  have z:(hidT h H).get? b=none:=PySem.W.hideAll_none (trk h H) hm
  rw [z] at e;cases e
end L2
namespace L2
open PySem PySem.Spec PyProof.Rows
structure Mod (K:xFr) (mg:Str→Option Value) (base:Heap):Prop where
 kin:K.In base
 glob:base.Ns mainGlobals mg
 blt:∃ mb,base.Ns builtinsNs mb∧∀ x:Str,x≠"__name__"→mb x=bootBuiltins x
 nolimit:base.NoLimit
structure Cx where
 prog:Program
 w:World
 K:xFr
 mg:Str→Option Value
 base:Heap
 A:Around
 N:List Str
 s₀:Shared
 H₀:Hp
 env:Env
 outer:List Env
 stack:List Env
 ex:List Addr
 fn:Str→Bool
 calm:Bool
 pn:List (Addr×Obj)
 xe:Value→Shared→Prop
def frs (l:List Env):List Addr:=l.filterMap (·.frame)
abbrev Cx.fs (X:Cx):List Addr:=frs X.outer
def Vis (sc:Scope) (x:Str):Prop:=sc.names.lookup x=some .local∨sc.names.lookup x=some .cell∨sc.names.lookup x=some .free
def Loc (sc:Scope) (x:Str):Prop:=sc.names.lookup x=some .local∨sc.names.lookup x=some .cell
def Look (env:Env) (h:Heap) (m:Str→Option Value) (x:Str) (u:Value):Prop :=
 (env.kindOf x=some .local∧m x=some u)∨((env.kindOf x=some .cell∨env.kindOf x=some .free)∧∃ c,env.cells.lookup x=some c∧h.IsCell c (some u))
structure Cx.Ok (X:Cx):Prop where
 mod:Mod X.K X.mg X.base
 kind:X.env.scope.kind = .function
 glob:X.env.globals=mainGlobals
 blt:X.env.builtins=builtinsNs
 above:X.s₀.heap.objs.size≤X.env.locals
 inj:∀ x y c,X.env.cells.lookup x=some c→X.env.cells.lookup y=some c→x=y
 has:∀ x,(X.env.kindOf x=some .cell∨X.env.kindOf x=some .free)→∃ c,X.env.cells.lookup x=some c
 cab:∀ x c,X.fn x=true→X.env.cells.lookup x=some c→X.s₀.heap.objs.size≤c
 hd:X.calm=true→X.A.handled=none
 frames:X.A.frames=some X.stack
 stk:X.stack=X.outer∨(X.stack=X.env::X.outer∧X.env.frame=some X.env.locals)
 exf:∀ b∈X.ex,b≠X.env.locals∧∀ x c,X.env.cells.lookup x=some c→c≠b
 bs:∀ b o,X.base.get? b=some o→X.s₀.heap.get? b=some o∧X.H₀ b=none
 bsz:X.base.objs.size≤X.s₀.heap.objs.size
 noex:∀ b o,X.base.get? b=some o→b ∉ X.ex
 exfs:∀ b∈X.ex,b ∉ X.fs
 funs:X.s₀.heap.FunFrames X.base X.outer
 frf:∀ b∈X.fs,X.H₀ b=none
structure Inv (X:Cx) (pins:List (Addr×Obj)) (σ:List (Option V)) (H:Hp) (s:Shared):Prop where
 ok:X.Ok
 os:s.os=X.s₀.os
 bare:AllBare s.gens
 base:Un X.fs X.ex X.H₀ H X.s₀.heap s.heap
 loc:∃ m,s.heap.Ns X.env.locals m∧∀ (i:Nat) (x:Str) (v:V),X.N[i]?=some x→σ[i]?=some (some v)→Vis X.env.scope x→∃ u,RelV v u∧Look X.env s.heap m x u
 cell:∀ x c,X.env.cells.lookup x=some c→∃ v,s.heap.IsCell c v
 free:H X.env.locals=none
 freeC:∀ x c,X.env.cells.lookup x=some c→H c=none
 pin:∀ p∈X.pn++pins,s.heap.get? p.1=some p.2∧H p.1=none∧p.1≠X.env.locals∧p.1 ∉ X.fs∧∀ v,p.2.data≠.cell v
 hok:HOk X.prog X.w H s.heap
 len:σ.length=X.N.length
section
variable {X:Cx} {pins:List (Addr×Obj)} {σ:List (Option V)} {H H':Hp} {s:Shared} {h':Heap}
theorem Cx.Ok.nofr (ok:X.Ok) {b:Addr} {o:Obj} (e:X.base.get? b=some o):b ∉ X.fs:=fun hb=>by
 have:=(ok.funs.mem hb).1
 rw [e] at this;cases this
theorem Inv.bs (I:Inv X pins σ H s):∀ b o,X.base.get? b=some o→s.heap.get? b=some o∧H b=none:=fun b o e =>
 ⟨I.base.keep b o (I.ok.bs b o e).1 (I.ok.bs b o e).2 (I.ok.nofr e) (I.ok.noex b o e),I.base.free b o (I.ok.bs b o e).1 (I.ok.bs b o e).2 (I.ok.noex b o e)⟩
theorem Inv.bk (I:Inv X pins σ H s):∀ b o,X.base.get? b=some o→s.heap.get? b=some o:=fun b o e=>(I.bs b o e).1
theorem Inv.mod (I:Inv X pins σ H s):Mod X.K X.mg X.base:=I.ok.mod
theorem Inv.kIn (I:Inv X pins σ H s):X.K.In s.heap:=I.ok.mod.kin.keeps I.bk
theorem Inv.lt (I:Inv X pins σ H s):X.env.locals<s.heap.objs.size:=let ⟨_,hn,_⟩:=I.loc;hn.lt
theorem Inv.sz (I:Inv X pins σ H s):X.s₀.heap.objs.size≤s.heap.objs.size:=Nat.le_trans I.ok.above (Nat.le_of_lt I.lt)
theorem Inv.nofs (I:Inv X pins σ H s) {a:Addr} (h:s.heap.objs.size≤a):a ∉ X.fs:=fun hb=>by
 obtain ⟨_,o,ho,_⟩:=I.ok.funs.mem hb
 exact absurd (xBc (xA1 ho) (Nat.le_trans I.sz h)) (xBo _)
theorem Inv.cne (I:Inv X pins σ H s):∀ x c,X.env.cells.lookup x=some c→c≠X.env.locals:=fun x c e z=>by
 obtain ⟨v,o,ho,hd⟩:=I.cell x c e
 obtain ⟨m,⟨o',es,ep,ho',hd',_⟩,_⟩:=I.loc
 rw [z,ho'] at ho;cases ho;rw [hd'] at hd;cases hd
theorem Inv.funs (I:Inv X pins σ H s):s.heap.FunFrames X.base X.outer:=by
 have all:∀ (l:List Env),(∀ b∈frs l,b∈X.fs)→X.s₀.heap.FunFrames X.base l→s.heap.FunFrames X.base l:=by
  intro l
  induction l with
  | nil=>intro _ _;trivial
  | cons env r ih =>
   intro hs hl
   obtain ⟨hk,⟨L,o,hf,hn,ho,hd⟩,hr⟩:=hl
   have hL:L∈X.fs:=hs L (by unfold frs;rw [List.filterMap_cons,hf];exact xAr)
   obtain ⟨sl,e⟩:=I.base.slot L o ho (I.ok.frf L hL) hL fun z=>I.ok.exfs L z hL
   exact ⟨hk,⟨L,_,hf,hn,e,hd⟩,ih (fun b hb=>hs b (by unfold frs;rw [List.filterMap_cons,hf];exact xAs _ hb)) hr⟩
 exact all X.outer (fun _ hb=>hb) I.ok.funs
theorem Inv.stack (I:Inv X pins σ H s):s.heap.FunFrames X.base X.stack:=by
 rcases I.ok.stk with e | ⟨e,hf⟩
 ·rw [e];exact I.funs
 ·rw [e]
  obtain ⟨m,hn,_⟩:=I.loc
  refine .cons (by rw [I.ok.kind];decide) hf hn ?_ I.funs
  exact Heap.get?_none_of_le (Nat.le_trans I.ok.bsz I.ok.above)
theorem Inv.stkSub (I:Inv X pins σ H s):∀ b∈frs X.stack,b∈X.env.locals::X.fs:=fun b hb=>by
 rcases I.ok.stk with e | ⟨e,hf⟩
 ·rw [e] at hb;exact xAs _ hb
 ·rw [e] at hb
  unfold frs at hb
  rw [List.filterMap_cons,hf] at hb
  exact hb
theorem Inv.stkFree (I:Inv X pins σ H s):∀ b∈frs X.stack,H b=none:=fun b hb=>by
 rcases xAv.mp (I.stkSub b hb) with e | hb
 ·rw [e];exact I.free
 ·obtain ⟨_,o,ho,_⟩:=I.ok.funs.mem hb
  exact I.base.free b o ho (I.ok.frf b hb) fun z=>I.ok.exfs b z hb
theorem Inv.step {g':Array GenState} {t':Nat} {d':Drawn} {ch:List Addr} (I:Inv X pins σ H s)
  (hch:∀ b∈ch,(b∈X.ex∨X.s₀.heap.objs.size≤b)∧b≠X.env.locals∧(∀ x c,X.env.cells.lookup x=some c→c≠b)∧∀ p∈X.pn++pins,p.1≠b)
  (keep:∀ b o,b≠X.env.locals→b ∉ X.fs→b ∉ ch→s.heap.get? b=some o→H b=none→h'.get? b=some o)
  (slot:∀ b o,b≠X.env.locals→b∈X.fs→b ∉ ch→s.heap.get? b=some o→H b=none→∃ sl,h'.get? b=some { o with slots:=sl }) (free:∀ b o,b ∉ ch→s.heap.get? b=some o→H b=none→H' b=none)
  (there:∀ b o,b ∉ ch→s.heap.get? b=some o→∃ o',h'.get? b=some o')
  (tups:∀ b xs,H b=some (.tup xs)→H' b=some (.tup xs)) (frzs:∀ b o u,H b=some (.frz o u)→H' b=some (.frz o u)) (tbls:∀ b ps,H b=some (.tbl ps)→∃ more,H' b=some (.tbl (ps++more)))
  (ns:∀ m,s.heap.Ns X.env.locals m→h'.Ns X.env.locals m) (hok:HOk X.prog X.w H' h') (hg:AllBare g') :
  Inv X pins σ H' { s with heap:=h',gens:=g',drawn:=d',toks:=t' }:=by
 have neL:∀ b o,X.s₀.heap.get? b=some o→b≠X.env.locals:=fun b o e=>xA0 (xBc (xA1 e) I.ok.above)
 have neC:∀ b o,X.s₀.heap.get? b=some o→b ∉ X.ex→b ∉ ch:=fun b o e hx hb=>by
  rcases (hch b hb).1 with z | z
  ·exact hx z
  ·exact absurd (xBc (xA1 e) z) (xBo _)
 have cellK:∀ x c,X.env.cells.lookup x=some c→∀ v,s.heap.IsCell c v→h'.IsCell c v:=fun x c e v ⟨o,ho,hd⟩=>by
  have nch:c ∉ ch:=fun z=>(hch c z).2.2.1 x c e rfl
  by_cases hc:c∈X.fs
  ·obtain ⟨sl,q⟩:=slot c o (I.cne x c e) hc nch ho (I.freeC x c e)
   exact ⟨_,q,hd⟩
  ·exact ⟨o,keep c o (I.cne x c e) hc nch ho (I.freeC x c e),hd⟩
 refine ⟨I.ok,I.os,hg,⟨fun b o e n hb hx=>?_,fun b o e n hb hx=>?_,fun b o e n hx=>?_,fun b o e hx=>?_,fun b xs e=>tups b xs (I.base.tups b xs e),fun b o xs e=>frzs b o xs (I.base.frzs b o xs e),fun b ps e=>?_⟩,?_,fun x c e=>?_,?_,fun x c e=>?_,fun p hp=>?_,hok,I.len⟩
 ·exact keep b o (neL b o e) hb (neC b o e hx) (I.base.keep b o e n hb hx) (I.base.free b o e n hx)
 ·obtain ⟨sl,e1⟩:=I.base.slot b o e n hb hx
  obtain ⟨sl',e2⟩:=slot b _ (neL b o e) hb (neC b o e hx) e1 (I.base.free b o e n hx)
  exact ⟨sl',e2⟩
 ·obtain ⟨o',e1⟩:=I.base.there b o e hx
  exact free b o' (neC b o e hx) e1 (I.base.free b o e n hx)
 ·obtain ⟨o',e1⟩:=I.base.there b o e hx
  exact there b o' (neC b o e hx) e1
 ·obtain ⟨m1,e1⟩:=I.base.tbls b ps e
  obtain ⟨m2,e2⟩:=tbls b _ e1
  exact ⟨m1++m2,by rw [e2,Array.append_assoc]⟩
 ·obtain ⟨m,hn,hl⟩:=I.loc
  refine ⟨m,ns m hn,fun i x v e1 e2 e3=>?_⟩
  obtain ⟨u,r,l⟩:=hl i x v e1 e2 e3
  refine ⟨u,r,?_⟩
  rcases l with l | ⟨k,c,e,z⟩
  ·exact .inl l
  ·exact .inr ⟨k,c,e,cellK x c e _ z⟩
 ·obtain ⟨v,z⟩:=I.cell x c e
  exact ⟨v,cellK x c e v z⟩
 ·obtain ⟨m,⟨o,_,_,ho,_⟩,_⟩:=I.loc
  exact free _ o (fun z=>(hch _ z).2.1 rfl) ho I.free
 ·obtain ⟨v,o,ho,hd⟩:=I.cell x c e
  exact free c o (fun z=>(hch c z).2.2.1 x c e rfl) ho (I.freeC x c e)
 ·obtain ⟨e,n,ne,nf,d⟩:=I.pin p hp
  have nch:p.1 ∉ ch:=fun z=>(hch p.1 z).2.2.2 p hp rfl
  exact ⟨keep p.1 p.2 ne nf nch e n,free p.1 p.2 nch e n,ne,nf,d⟩
theorem Inv.un {t':Nat} (I:Inv X pins σ H s) (u:Un X.fs [] H H' s.heap h') (hok:HOk X.prog X.w H' h'):Inv X pins σ H' { s with heap:=h',toks:=t' }:=by
 obtain ⟨m,⟨o,es,ep,ho,r⟩,_⟩:=id I.loc
 obtain ⟨sl,hL⟩:=u.any ho I.free (by simp)
 exact I.step (g':=s.gens) (d':=s.drawn) (ch:=[]) (fun _ z=>nomatch z) (fun b o _ hb _ e n=>u.keep b o e n hb (by simp)) (fun b o _ hb _ e n=>u.slot b o e n hb (by simp)) (fun b o _ e n=>u.free b o e n (by simp)) (fun b o _ e=>u.there b o e (by simp)) u.tups u.frzs u.tbls (fun m' hm=>by
  obtain ⟨o',es',ep',ho',r'⟩:=hm
  rw [ho] at ho';cases ho'
  exact ⟨_,es',ep',hL,r'⟩) hok I.bare
theorem Inv.call {g':Array GenState} {t':Nat} {d':Drawn} {ch:List Addr} (I:Inv X pins σ H s) (u:Un (frs X.stack) ch H H' s.heap h') (hok:HOk X.prog X.w H' h') (hg:AllBare g')
  (hch:∀ b∈ch,(b∈X.ex∨X.s₀.heap.objs.size≤b)∧b≠X.env.locals∧(∀ x c,X.env.cells.lookup x=some c→c≠b)∧∀ p∈X.pn++pins,p.1≠b) :
  Inv X pins σ H' { s with heap:=h',gens:=g',drawn:=d',toks:=t' }:=by
 obtain ⟨m,⟨o,es,ep,ho,r⟩,_⟩:=id I.loc
 obtain ⟨sl,hL⟩:=u.any ho I.free fun z=>(hch _ z).2.1 rfl
 exact I.step (ch:=ch) hch (fun b o hL hb hc e n=>u.keep b o e n (fun z=>(xAv.mp (I.stkSub b z)).elim hL hb) hc) (fun b o _ _ hc e n=>u.any e n hc) (fun b o hc e n=>u.free b o e n hc) (fun b o hc e=>u.there b o e hc) u.tups u.frzs u.tbls (fun m' hm=>by
  obtain ⟨o',es',ep',ho',r'⟩:=hm
  rw [ho] at ho';cases ho'
  exact ⟨_,es',ep',hL,r'⟩) hok hg
theorem Inv.turned {t':Nat} {it:Addr} (I:Inv X pins σ H s) (k:∀ b o,b≠it→s.heap.get? b=some o→h'.get? b=some o) (hn:H it=none) (hL:it≠X.env.locals)
  (h1:it∈X.ex∨X.s₀.heap.objs.size≤it) (h2:∀ x c,X.env.cells.lookup x=some c→c≠it) (h3:∀ p∈X.pn++pins,p.1≠it):Inv X pins σ H { s with heap:=h',toks:=t' }:=by
 have nit:∀ b u,H b=some u→b≠it:=fun b u e z=>by rw [z,hn] at e;cases e
 refine I.step (g':=s.gens) (d':=s.drawn) (ch:=[it]) (fun b hb=>?_) (fun b o _ _ hc e _=>k b o (fun z=>hc (by simp [z])) e) (fun b o _ _ hc e _=>⟨o.slots,k b o (fun z=>hc (by simp [z])) e⟩) (fun _ _ _ _ n=>n)
  (fun b o hc e=>⟨o,k b o (fun z=>hc (by simp [z])) e⟩) (fun _ _ e=>e) (fun _ _ _ e=>e) (fun b ps e=>⟨#[],by rw [e];simp⟩) (fun m hm=>?_) (fun b u e=>?_) I.bare
 ·have e:b=it:=by simpa using hb
  subst e
  exact ⟨h1,hL,h2,h3⟩
 ·obtain ⟨o,es,ep,ho,r⟩:=hm
  exact ⟨o,es,ep,k _ o (Ne.symm hL) ho,r⟩
 ·refine (I.hok b u e).stay (fun c v hc q=>k c v ?_ q) (fun _ q=>q) fun _ _ q=>q
  rcases hc with z | z
  ·rw [z];exact nit b u e
  ·exact nit c _ z
theorem Inv.tok (I:Inv X pins σ H s) (t:Nat):Inv X pins σ H { s with toks:=t }:=I.un (h':=s.heap) (t':=t) Un.refl I.hok
theorem Inv.kept {t':Nat} (I:Inv X pins σ H s) (k:∀ b u,s.heap.get? b=some u→h'.get? b=some u):Inv X pins σ H { s with heap:=h',toks:=t' }:=I.un (Un.kept k) (I.hok.kept k)
theorem Inv.laid {a:Addr} {o:HO} {t':Nat} (I:Inv X pins σ H s) (k:∀ b u,s.heap.get? b=some u→h'.get? b=some u) (hp:s.heap.objs.size≤a) (new:ObjOk X.prog X.w (upd H a o) h' a o) :
  Inv X pins σ (upd H a o) { s with heap:=h',toks:=t' }:=I.un (Un.laid k hp (I.hok.fresh hp)) (I.hok.laid k hp new)
theorem Inv.write {x e:Addr} {o:HO} {t':Nat} (I:Inv X pins σ H s) (mu:Mut (H x)) (he:e=x∨H e=some (.own x)) (k:∀ b u,b≠e→s.heap.get? b=some u→h'.get? b=some u) (heo:∃ u,h'.get? e=some u)
  (new:ObjOk X.prog X.w (upd H x o) h' x o):Inv X pins σ (upd H x o) { s with heap:=h',toks:=t' }:=I.un (Un.write mu he k heo) (I.hok.write mu he k heo new)
theorem Inv.pins_of {pins':List (Addr×Obj)} (I:Inv X pins σ H s) (h:∀ p∈pins',s.heap.get? p.1=some p.2∧H p.1=none∧p.1≠X.env.locals∧p.1 ∉ X.fs∧∀ v,p.2.data≠.cell v):Inv X pins' σ H s :=
 ⟨I.ok,I.os,I.bare,I.base,I.loc,I.cell,I.free,I.freeC,fun p hp=>(xAj.mp hp).elim (fun z=>I.pin p (xBw _ z)) (h p),I.hok,I.len⟩
theorem fu {N:List Str} (hN:N.Nodup) {i j:Nat} {x:Str} (a:N[i]?=some x) (b:N[j]?=some x):i=j:=by
 obtain ⟨h1,e1⟩:=xAq.mp a
 obtain ⟨h2,e2⟩:=xAq.mp b
 exact (List.getElem_inj hN).mp (e1.trans e2.symm)
theorem dZ {M:Model} {A:Around} {E:Value→Shared→Prop} {i:Nat} {x:Str} {v:V} {u:Value} {Q:Unit→Shared→Prop} (I:Inv X pins σ H s) (hN:X.N.Nodup) (hi:X.N[i]?=some x) (hx:Loc X.env.scope x) (r:RelV v u)
  (h:∀ s',Inv X pins (σ.set i (some v)) H s'→(∃ a,Heap.SameBut a s.heap s'.heap∧(a=X.env.locals∨X.env.cells.lookup x=some a))→Q () s') (hf:X.fn x=true∨X.env.scope.names.lookup x=some .local:=by first | exact .inl rfl | exact .inr rfl | assumption):wpAny M A (storeName X.env x u) Q E s:=by
 obtain ⟨m,hn,hl⟩:=id I.loc
 have hcls:(X.env.scope.kind == .class || (X.env.scope.kind == .module && X.env.locals != X.env.globals))=false:=by rw [I.ok.kind];rfl
 have hiσ:i<σ.length:=by rw [I.len];exact (xAq.mp hi).1
 have cne:=I.cne
 have tracked:∀ {a:Addr} {h':Heap},(∃ o,s.heap.get? a=some o∧H a=none)→Heap.SameBut a s.heap h'→HOk X.prog X.w H h':=fun {a h'} ha hs b ob e=>by
  obtain ⟨_,_,hfree⟩:=ha
  refine (I.hok b ob e).stay (fun c w' hc q=>(hs.2 c ?_).trans q) (fun _ q=>q) fun _ _ q=>q
  rintro rfl
  rcases hc with rfl | hc
  ·rw [hfree] at e;cases e
  ·rw [hfree] at hc;cases hc
 rcases hx with hk | hk
 ·refine wpAny_storeName_local hk hn (fun h' hn' hs=>?_) hcls
  obtain ⟨oL,_,_,hoL,_⟩:=id hn
  refine h _ ⟨I.ok,I.os,I.bare,⟨fun b o e n hb hx=>?_,fun b o e n hb hx=>?_,I.base.free,fun b o e hx=>?_,I.base.tups,I.base.frzs,I.base.tbls⟩,⟨_,hn',fun j y v' e1 e2 e3=>?_⟩,fun y c e=>?_,I.free,I.freeC,fun p hp=>?_,tracked ⟨oL,hoL,I.free⟩ hs,by simpa using I.len⟩ ⟨_,hs,.inl rfl⟩
  ·exact (hs.2 b (xA0 (xBc (xA1 e) I.ok.above))).trans (I.base.keep b o e n hb hx)
  ·obtain ⟨sl,e1⟩:=I.base.slot b o e n hb hx
   exact ⟨sl,(hs.2 b (xA0 (xBc (xA1 e) I.ok.above))).trans e1⟩
  ·obtain ⟨o',e1⟩:=I.base.there b o e hx
   exact ⟨o',(hs.2 b (xA0 (xBc (xA1 e) I.ok.above))).trans e1⟩
  ·by_cases hj:j=i
   ·subst hj
    rw [hi] at e1;cases e1
    rw [List.getElem?_set_self hiσ] at e2
    cases e2
    exact ⟨u,r,.inl ⟨hk,by simp⟩⟩
   ·rw [List.getElem?_set_ne (Ne.symm hj)] at e2
    obtain ⟨u',r',q⟩:=hl j y v' e1 e2 e3
    refine ⟨u',r',?_⟩
    rcases q with ⟨k,e⟩ | ⟨k,c,e,z⟩
    ·refine .inl ⟨k,?_⟩
     have:y≠x:=fun e=>hj (fu hN e1 (e ▸ hi))
     simp [this,e]
    ·exact .inr ⟨k,c,e,z.sameBut hs (cne y c e)⟩
  ·obtain ⟨w',z⟩:=I.cell y c e
   exact ⟨w',z.sameBut hs (cne y c e)⟩
  ·obtain ⟨e,n,ne,nf,d⟩:=I.pin p hp
   exact ⟨(hs.2 p.1 ne).trans e,n,ne,nf,d⟩
 ·have hfn:X.fn x=true:=by
   rcases hf with z | z
   ·exact z
   ·rw [z] at hk;cases hk
  obtain ⟨c,hc⟩:=I.ok.has x (.inl hk)
  obtain ⟨w',z⟩:=I.cell x c hc
  refine wpAny_storeName_cell I.ok.kind hk hc z (fun h' hc' hs=>?_)
  obtain ⟨oc,hoc,hocd⟩:=id z
  refine h { s with heap:=h' } ⟨I.ok,I.os,I.bare,⟨fun b o e n hb hx=>?_,fun b o e n hb hx=>?_,I.base.free,fun b o e hx=>?_,I.base.tups,I.base.frzs,I.base.tbls⟩,⟨m,hn.sameBut hs (Ne.symm (cne x c hc)),fun j y v' e1 e2 e3=>?_⟩,fun y c' e=>?_,I.free,I.freeC,fun p hp=>?_,tracked ⟨oc,hoc,I.freeC x c hc⟩ hs,by simpa using I.len⟩ ⟨c,hs,.inr hc⟩
  ·exact (hs.2 b (xA0 (xBc (xA1 e) (I.ok.cab x c hfn hc)))).trans (I.base.keep b o e n hb hx)
  ·obtain ⟨sl,e1⟩:=I.base.slot b o e n hb hx
   exact ⟨sl,(hs.2 b (xA0 (xBc (xA1 e) (I.ok.cab x c hfn hc)))).trans e1⟩
  ·obtain ⟨o',e1⟩:=I.base.there b o e hx
   exact ⟨o',(hs.2 b (xA0 (xBc (xA1 e) (I.ok.cab x c hfn hc)))).trans e1⟩
  ·by_cases hj:j=i
   ·subst hj
    rw [hi] at e1;cases e1
    rw [List.getElem?_set_self hiσ] at e2
    cases e2
    exact ⟨u,r,.inr ⟨.inl hk,c,hc,hc'⟩⟩
   ·rw [List.getElem?_set_ne (Ne.symm hj)] at e2
    obtain ⟨u',r',q⟩:=hl j y v' e1 e2 e3
    refine ⟨u',r',?_⟩
    rcases q with q | ⟨k,c',e,z'⟩
    ·exact .inl q
    ·refine .inr ⟨k,c',e,z'.sameBut hs ?_⟩
     rintro rfl
     exact hj (fu hN e1 (I.ok.inj _ _ _ e hc ▸ hi))
  ·by_cases hcc:c'=c
   ·subst hcc;exact ⟨_,hc'⟩
   ·obtain ⟨w2,z2⟩:=I.cell y c' e
    exact ⟨w2,z2.sameBut hs hcc⟩
  ·obtain ⟨e,n,ne,nf,d⟩:=I.pin p hp
   refine ⟨(hs.2 p.1 ?_).trans e,n,ne,nf,d⟩
   intro q
   rw [q,hoc] at e
   have q':oc=p.2:=xB3 e
   exact d w' (by rw [← q'];exact hocd)
theorem e7 {M:Model} {A:Around} {E:Value→Shared→Prop} {i:Nat} {x:Str} {v:V} {u:Value} {Q:Unit→Shared→Prop} (I:Inv X pins σ H s) (hN:X.N.Nodup) (hi:X.N[i]?=some x) (hx:Loc X.env.scope x) (r:RelV v u)
  (h:∀ s',Inv X pins (σ.set i (some v)) H s'→Q () s') (hf:X.fn x=true∨X.env.scope.names.lookup x=some .local:=by first | exact .inl rfl | exact .inr rfl | assumption):wpAny M A (storeName X.env x u) Q E s :=
 dZ I hN hi hx r (fun s' I' _=>h s' I') hf
theorem Inv.call' {s':Shared} {ch:List Addr} (I:Inv X pins σ H s) (ho:s'.os=s.os) (u:Un (frs X.stack) ch H H' s.heap s'.heap) (hok:HOk X.prog X.w H' s'.heap) (hg:AllBare s'.gens)
  (hch:∀ b∈ch,(b∈X.ex∨X.s₀.heap.objs.size≤b)∧b≠X.env.locals∧(∀ x c,X.env.cells.lookup x=some c→c≠b)∧∀ p∈X.pn++pins,p.1≠b):Inv X pins σ H' s':=by
 obtain ⟨h',g',d',t',o'⟩:=s'
 have e:o'=s.os:=ho
 subst e
 exact I.call (g':=g') (t':=t') (d':=d') u hok hg hch
end
abbrev XK:=Value→Option Addr→Hp→Prop
abbrev St:=List (Option V)
abbrev VK:=V→Hp→Prop
abbrev TE:=St→Hp→VK→Prop
abbrev TT:=St→Hp→(Bool→Hp→Prop)→Prop
abbrev TA:=St→Hp→(List V→Hp→Prop)→Prop
structure Ends where
 nx:St→Hp→Prop
 rt:VK
 bk:St→Hp→Prop:=fun _ _=>False
 ct:St→Hp→Prop:=fun _ _=>False
abbrev TS:=Ends→St→Hp→Prop
def EP (X:Cx) (pins:List (Addr×Obj)) (σ:St) (Q:VK) (u:Value) (s':Shared):Prop:=∃ v H',Inv X pins σ H' s'∧RelV v u∧Q v H'
def TP (X:Cx) (pins:List (Addr×Obj)) (σ:St) (Q:Bool→Hp→Prop) (b:Bool) (s':Shared):Prop:=∃ H',Inv X pins σ H' s'∧Q b H'
def AP (X:Cx) (pins:List (Addr×Obj)) (σ:St) (Q:List V→Hp→Prop) (us:List Value) (s':Shared):Prop:=∃ vs H',Inv X pins σ H' s'∧Vals vs us∧Q vs H'
def SP (X:Cx) (pins:List (Addr×Obj)) (D:Ends) (f:Flow) (s':Shared):Prop :=
 match f with
 | .next=>∃ σ' H',Inv X pins σ' H' s'∧D.nx σ' H'
 | .brk=>∃ σ' H',Inv X pins σ' H' s'∧D.bk σ' H'
 | .cont=>∃ σ' H',Inv X pins σ' H' s'∧D.ct σ' H'
 | .ret u=>∃ v σ' H',Inv X pins σ' H' s'∧RelV v u∧D.rt v H'
def PE (X:Cx) (e:Expr) (t:TE):Prop :=
 ∀ (pins:List (Addr×Obj)) (s:Shared) (σ:St) (H:Hp) (Q:VK),Inv X pins σ H s→t σ H Q→wpAny (model X.prog X.w) X.A (eval e X.env) (EP X pins σ Q) X.xe s
def PT (X:Cx) (e:Expr) (t:TT):Prop :=
 ∀ (pins:List (Addr×Obj)) (s:Shared) (σ:St) (H:Hp) (Q:Bool→Hp→Prop),Inv X pins σ H s→t σ H Q→wpAny (model X.prog X.w) X.A (isTrue e X.env (eval e X.env)) (TP X pins σ Q) X.xe s
def PW (X:Cx) (e:Expr) (t:TT):Prop :=
 ∀ (whole:Sem Value) (pins:List (Addr×Obj)) (s:Shared) (σ:St) (H:Hp) (Q:Bool→Hp→Prop),Inv X pins σ H s→t σ H Q→wpAny (model X.prog X.w) X.A (isTrue e X.env whole) (TP X pins σ Q) X.xe s
theorem PW.pt {X:Cx} {e:Expr} {t:TT} (h:PW X e t):PT X e t:=h _
def PA (X:Cx) (es:List Expr) (t:TA):Prop :=
 ∀ (pos:Pos) (pins:List (Addr×Obj)) (s:Shared) (σ:St) (H:Hp) (Q:List V→Hp→Prop),Inv X pins σ H s→t σ H Q→wpAny (model X.prog X.w) X.A (spliced (backTo pos (starEach es X.env))) (AP X pins σ Q) X.xe s
def PS (X:Cx) (st:Stmt) (t:TS):Prop :=
 ∀ (pins:List (Addr×Obj)) (s:Shared) (σ:St) (H:Hp) (D:Ends),Inv X pins σ H s→t D σ H→wpAny (model X.prog X.w) X.A (exec st X.env) (SP X pins D) X.xe s
def PSs (X:Cx) (st:List Stmt) (t:TS):Prop :=
 ∀ (pins:List (Addr×Obj)) (s:Shared) (σ:St) (H:Hp) (D:Ends),Inv X pins σ H s→t D σ H→wpAny (model X.prog X.w) X.A (execs st X.env) (SP X pins D) X.xe s
theorem thn {α:Type} {t:Sem α} {Q Q':α→Shared→Prop} {M:Model} {A:Around} {E:Value→Shared→Prop} {s:Shared} (h:wpAny M A t Q E s) (hQ:∀ a s,Q a s→Q' a s):wpAny M A t Q' E s:=wpAny_mono h hQ fun _ _ x=>x
end L2
namespace L2
open PySem PySem.Spec PyProof.Rows
section
variable {X:Cx}
def tVar (i:Nat):TE:=fun σ H Q=>∃ v,σ[i]?=some (some v)∧Q v H
def tC (v:V):TE:=fun _ H Q=>Q v H
theorem mH {i:Nat} {x:Str} {pos:Pos} (hN:X.N[i]?=some x) (hv:Vis X.env.scope x) (hd:(x == ("__debug__":Str))=false:=by decide) (hcd:(x == ("__classdict__":Str))=false:=by decide):PE X (.Name x pos) (tVar i):=by
 intro pins s σ H Q I h
 obtain ⟨v,e,h⟩:=h
 obtain ⟨m,hn,hl⟩:=I.loc
 obtain ⟨u,r,l⟩:=hl i x v hN e hv
 have fin:EP X pins σ Q u s:=⟨v,H,I,r,h⟩
 rcases l with ⟨hk,hm⟩ | ⟨hk,c,hc,hcell⟩
 ·exact wpAny_Name (wpAny_loadName_local I.ok.kind hk hn hm fin) hd
 ·rcases hk with hk | hk
  ·exact wpAny_Name (wpAny_loadName_cell I.ok.kind hk hc hcell fin) hd
  ·exact wpAny_Name (wpAny_loadName_free I.ok.kind hk hc hcell fin hcd) hd
theorem mP {i j pos}:PE X (.Constant (.int i) j pos) (tC (.int i)):=fun _ _ _ H _ I h=>wpAny_Constant_int ⟨.int i,H,I.tok _,⟨_,rfl⟩,h⟩
theorem oR {b j pos}:PE X (.Constant (.bool b) j pos) (tC (.bl b)):=fun _ _ _ H _ I h=>Constant_bool ⟨.bl b,H,I,rfl,h⟩
theorem mM {j pos}:PE X (.Constant .none j pos) (tC .non):=fun _ _ _ H _ I h=>Constant_none ⟨.non,H,I,rfl,h⟩
theorem mJ {x j pos}:PE X (.Constant (.str x) j pos) (tC (.str x)):=fun _ _ _ H _ I h=>Calls.Constant_str ⟨.str x,H,I.tok _,⟨_,rfl⟩,h⟩
def Gl (X:Cx) (x:Str):Prop:=X.env.kindOf x=some .globalImplicit
theorem eQ {E:Value→Shared→Prop} {pins:List (Addr×Obj)} {s:Shared} {σ:St} {H:Hp} {x:Str} {u:Value} {pos:Pos} {Q:Value→Shared→Prop} (I:Inv X pins σ H s) (hg:Gl X x) (hm:X.mg x=some u) (h:Q u s)
  (hd:(x == ("__debug__":Str))=false:=by decide):wpAny (model X.prog X.w) X.A (eval (.Name x pos) X.env) Q E s :=
 Calls.Name_function_global I.ok.kind hg (Calls.loadGlobal_global (by rw [I.ok.glob];exact I.mod.glob.keeps I.bk) hm h) hd
theorem cS {E:Value→Shared→Prop} {pins:List (Addr×Obj)} {s:Shared} {σ:St} {H:Hp} {x:Str} {u:Value} {pos:Pos} {Q:Value→Shared→Prop} (I:Inv X pins σ H s) (hg:Gl X x) (hm:X.mg x=none) (hv:bootBuiltins x=some u) (h:Q u s)
  (hn:x≠"__name__":=by decide) (hd:(x == ("__debug__":Str))=false:=by decide):wpAny (model X.prog X.w) X.A (eval (.Name x pos) X.env) Q E s:=by
 obtain ⟨mb,h1,h2⟩:=I.mod.blt
 exact Calls.Name_function_global I.ok.kind hg (Calls.loadGlobal_builtin (by rw [I.ok.glob];exact I.mod.glob.keeps I.bk) hm (by rw [I.ok.blt];exact h1.keeps I.bk) ((h2 x hn).trans hv) h) hd
theorem ku {x:Str} {v:V} {u:Value} {pos:Pos} (hg:Gl X x) (hm:X.mg x=none) (hv:bootBuiltins x=some u) (r:RelV v u) (hn:x≠"__name__":=by decide) (hd:(x == ("__debug__":Str))=false:=by decide):PE X (.Name x pos) (tC v) :=
 fun _ _ _ H _ I h=>cS I hg hm hv ⟨v,H,I,r,h⟩ hn hd
variable {a b:Expr} {ta tb:TE} {pos:Pos}
def PC (X:Cx) (op:CmpOp) (a b:Expr) (t:TE):Prop :=
 ∀ (pins:List (Addr×Obj)) (s:Shared) (σ:St) (H:Hp) (Q:VK),Inv X pins σ H s→t σ H Q →
  wpAny (model X.prog X.w) X.A (eval a X.env) (fun v s₁=>wpAny (model X.prog X.w) X.A (eval b X.env) (fun u s₂=>wpAny (model X.prog X.w) X.A (compareOp op v u) (EP X pins σ Q) X.xe s₂) X.xe s₁) X.xe s
theorem nobehind (b:Expr) {op:CmpOp} (h:op≠.In) (h2:op≠.NotIn):behindInMarks op b=false:=by
 have e1:(op == CmpOp.In)=false:=by cases op <;> first | rfl | exact absurd rfl h
 have e2:(op == CmpOp.NotIn)=false:=by cases op <;> first | rfl | exact absurd rfl h2
 cases b <;> simp [behindInMarks,e1,e2]
def tB (t:TE):TT:=fun σ H Q=>t σ H fun x H1=>∃ c,x = .bl c∧Q c H1
theorem mv {op:CmpOp} {t:TE} (h:PC X op a b t) (h1:behindInMarks op b=false:=by first | exact nobehind _ (by decide) (by decide) | rfl):PT X (.Compare a [op] [b] pos) (tB t):=by
 intro pins s σ H Q I hw
 refine wpAny_isTrue_Compare1 (thn (h pins s σ H _ I hw) fun v s1 h1=>thn h1 fun u s2 h2=>thn h2 fun c s3 ⟨x,H1,I1,r1,q1⟩=>?_) h1
 obtain ⟨d,rfl,q⟩:=q1
 cases r1
 exact wpAny_truthy_bool ⟨H1,I1,q⟩
theorem mr {e:Expr} {t:TE} (h:PE X e t) (he:∀ whole,isTrue e X.env whole=(do let v ← whole;standAt e.pos;holding [v] (truthy v)):=by intro _;rfl):PT X e (tB t):=by
 intro pins s σ H Q I hw
 refine isTrue_plain (thn (h pins s σ H _ I hw) fun v s1 ⟨x,H1,I1,r1,q1⟩=>?_) (he _)
 obtain ⟨d,rfl,q⟩:=q1
 cases r1
 exact wpAny_truthy_bool ⟨H1,I1,q⟩
variable {tA tB':TT} {rest:List Expr}
def tOr (t u:TT):TT:=fun σ H Q=>t σ H fun c H1=>if c=true then Q true H1 else u σ H1 Q
def tNot (t:TT):TT:=fun σ H Q=>t σ H fun c H1=>Q (!c) H1
theorem mq (ha:PT X a tA):PW X (.BoolOp .Or [a] pos) tA:=by
 intro wh pins s σ H Q I h
 refine isTrue_or (thn (ha pins s σ H Q I h) fun c s1 e=>?_)
 cases c with
 | false=>exact isTrue_or_nil e
 | true=>exact e
theorem oB (ha:PT X a tA) (hb:PW X (.BoolOp .Or (b::rest) pos) tB'):PW X (.BoolOp .Or (a::b::rest) pos) (tOr tA tB'):=by
 intro wh pins s σ H Q I h
 refine isTrue_or (thn (ha pins s σ H _ I h) fun c s1 ⟨H1,I1,q1⟩=>?_)
 cases c with
 | true=>exact ⟨H1,I1,q1⟩
 | false=>exact hb wh pins s1 σ H1 Q I1 q1
theorem mt (ha:PT X a tA):PT X (.UnaryOp .Not a pos) (tNot tA):=by
 intro pins s σ H Q I h
 exact isTrue_not (ha pins s σ H (fun c H1=>Q (!c) H1) I h)
def tAndV (ta tb:TE):TE:=fun σ H Q=>ta σ H fun x H1=>∃ c,x = .bl c∧if c=true then tb σ H1 Q else Q (.bl false) H1
def tNotV (ta:TE):TE:=fun σ H Q=>ta σ H fun x H1=>∃ c,x = .bl c∧Q (.bl (!c)) H1
theorem mK {op} {t:TE} (h:PE X a t):PE X (.BoolOp op [a] pos) t:=fun pins s σ H Q I hw=>BoolOp_one (h pins s σ H Q I hw)
theorem mT (ha:PE X a ta) (hb:PE X (.BoolOp .And (b::rest) pos) tb):PE X (.BoolOp .And (a::b::rest) pos) (tAndV ta tb):=by
 intro pins s σ H Q I h
 refine BoolOp_and (thn (ha pins s σ H _ I h) fun v s1 ⟨x,H1,I1,r1,q1⟩=>?_)
 obtain ⟨c,rfl,q1⟩:=q1
 cases r1
 refine wpAny_truthy_bool ?_
 cases c with
 | true=>exact hb pins s1 σ H1 Q I1 q1
 | false=>exact ⟨.bl false,H1,I1,rfl,q1⟩
theorem mL (ha:PE X a ta):PE X (.UnaryOp .Not a pos) (tNotV ta):=by
 intro pins s σ H Q I h
 refine UnaryOp_ (thn (ha pins s σ H _ I h) fun v s1 ⟨x,H1,I1,r1,q1⟩=>?_)
 obtain ⟨c,rfl,q1⟩:=q1
 cases r1
 exact not_of (wpAny_truthy_bool ⟨.bl (!c),H1,I1,rfl,q1⟩)
end
end L2
namespace L2
open PySem PySem.Spec PyProof.Rows
def SqL (K:xFr) (H:Hp) (a:Addr) (xs:List V):Prop :=
 Rd H a (.lst xs) ∨
  ∃ (o:Obj) (its:Array Value) (n:Nat),K.lookup a=some o∧o.cls = .type "list"∧o.dict=none∧o.data = .seq its n∧its.size≤sizeLine∧Vals xs its.toList
def SqT (K:xFr) (H:Hp) (a:Addr) (xs:List V):Prop :=
 Rd H a (.tup xs) ∨
  ∃ (o:Obj) (its:Array Value) (n:Nat),K.lookup a=some o∧o.cls = .type "tuple"∧o.data = .seq its n∧its.size≤sizeLine∧Vals xs its.toList
def absV:Value→Option V
 | .none=>some .non
 | .bool b=>some (.bl b)
 | .int i _=>some (.int i)
 | .str x _=>some (.str x)
 | .bytes b _=>some (.byt b)
 | .float b _=>some (.flt b)
 | .ref a=>some (.ref a)
 | .type n=>some (.ty n)
 | _=>none
theorem RelV.abs {x:V} {u:Value} (r:RelV x u):absV u=some x:=by
 cases x with
 | non=>cases r;rfl
 | bl _=>cases r;rfl
 | int _=>obtain ⟨t,rfl⟩:=r;rfl
 | str _=>obtain ⟨t,rfl⟩:=r;rfl
 | byt _=>obtain ⟨t,rfl⟩:=r;rfl
 | flt _=>obtain ⟨t,rfl⟩:=r;rfl
 | ref _=>cases r;rfl
 | ty _=>cases r;rfl
theorem RelV.inj {x y:V} {u:Value} (r:RelV x u) (q:RelV y u):x=y:=xB3 (r.abs.symm.trans q.abs)
theorem Vals.inj:∀ {xs ys:List V} {us:List Value},Vals xs us→Vals ys us→xs=ys
 | _,_,_,.nil,.nil=>rfl
 | _,_,_,.cons r t,.cons r' t'=>by rw [r.inj r',Vals.inj t t']
section
variable {X:Cx} {pins:List (Addr×Obj)} {σ:St} {H:Hp} {s:Shared} {a:Addr} {xs ys:List V}
theorem SqL.of {K:xFr} (h:H a=some (.lst xs)):SqL K H a xs:=.inl (.inl h)
theorem SqT.of {K:xFr} (h:H a=some (.tup xs)):SqT K H a xs:=.inl (.inl h)
theorem Inv.list (I:Inv X pins σ H s) (h:SqL X.K H a xs):∃ its:List Value,Vals xs its∧PlainL s.heap a its.toArray∧xs.length≤sizeLine:=by
 rcases h with h | ⟨o,its,n,hk,hc,hd,hs,hz,r⟩
 ·obtain ⟨z,its,n,r,e⟩:=h.ok I.hok
  exact ⟨its,r,⟨_,n,e,rfl,rfl,rfl⟩,z⟩
 ·refine ⟨its.toList,r,⟨o,n,I.kIn a o hk,hc,hd,by simpa using hs⟩,?_⟩
  have e:=r.length
  simp only [xAh] at e
  omega
theorem Inv.tuple (I:Inv X pins σ H s) (h:SqT X.K H a xs):∃ its:List Value,Vals xs its∧IsTup s.heap a its.toArray∧xs.length≤sizeLine:=by
 rcases h with h | ⟨o,its,n,hk,hc,hs,hz,r⟩
 ·obtain ⟨z,its,r,p⟩:=h.ok I.hok
  exact ⟨its,r,p,z⟩
 ·refine ⟨its.toList,r,⟨o,I.kIn a o hk,hc,n,by simpa using hs⟩,?_⟩
  have e:=r.length
  simp only [xAh] at e
  omega
theorem Inv.list_inj (I:Inv X pins σ H s) (h:SqL X.K H a xs) (h':SqL X.K H a ys):xs=ys:=by
 obtain ⟨its,r,⟨o,n,e,_,_,d⟩,_⟩:=I.list h
 obtain ⟨its',r',⟨o',n',e',_,_,d'⟩,_⟩:=I.list h'
 rw [e] at e';cases e'
 rw [d] at d'
 injection d' with d1 _
 have:its=its':=by simpa using congrArg Array.toList d1
 subst this
 exact r.inj r'
end
abbrev Cx.wish (X:Cx) (E:Value→Shared→Prop):Cx:={ X with xe:=E }
abbrev Cx.nox (X:Cx):Cx:=X.wish fun _ _=>False
theorem Cx.Ok.wish {X:Cx} (ok:X.Ok) (E:Value→Shared→Prop):(X.wish E).Ok :=
 ⟨ok.mod,ok.kind,ok.glob,ok.blt,ok.above,ok.inj,ok.has,ok.cab,ok.hd,ok.frames,ok.stk,ok.exf,ok.bs,ok.bsz,ok.noex,ok.exfs,ok.funs,ok.frf⟩
theorem Cx.Ok.unwish {X:Cx} {E:Value→Shared→Prop} (ok:(X.wish E).Ok):X.Ok :=
 ⟨ok.mod,ok.kind,ok.glob,ok.blt,ok.above,ok.inj,ok.has,ok.cab,ok.hd,ok.frames,ok.stk,ok.exf,ok.bs,ok.bsz,ok.noex,ok.exfs,ok.funs,ok.frf⟩
section
variable {X:Cx} {pins:List (Addr×Obj)} {σ:St} {H:Hp} {s:Shared} {E:Value→Shared→Prop}
theorem Inv.wish (I:Inv X pins σ H s) (E:Value→Shared→Prop):Inv (X.wish E) pins σ H s:=⟨I.ok.wish E,I.os,I.bare,I.base,I.loc,I.cell,I.free,I.freeC,I.pin,I.hok,I.len⟩
theorem Inv.unwish (I:Inv (X.wish E) pins σ H s):Inv X pins σ H s:=⟨I.ok.unwish,I.os,I.bare,I.base,I.loc,I.cell,I.free,I.freeC,I.pin,I.hok,I.len⟩
theorem SP.unwish {D:Ends} {f:Flow} {s':Shared} (h:SP (X.wish E) pins D f s'):SP X pins D f s':=by
 cases f with
 | next=>obtain ⟨σ',H',I,q⟩:=h;exact ⟨σ',H',I.unwish,q⟩
 | brk=>obtain ⟨σ',H',I,q⟩:=h;exact ⟨σ',H',I.unwish,q⟩
 | cont=>obtain ⟨σ',H',I,q⟩:=h;exact ⟨σ',H',I.unwish,q⟩
 | ret u=>obtain ⟨v,σ',H',I,r,q⟩:=h;exact ⟨v,σ',H',I.unwish,r,q⟩
theorem PSs.nox {st:List Stmt} {t:TS} (h:PSs X.nox st t):PSs X st t:=fun pins s σ H D I hw =>
 wpAny_mono (h pins s σ H D (I.wish _) hw) (fun _ _ q=>q.unwish) fun _ _ z=>False.elim z
end
section
variable {X:Cx} {st:Stmt} {rest:List Stmt} {t u:TS} {e:Expr} {te:TE} {pos:Pos}
def tNext:TS:=fun D σ H=>D.nx σ H
def tSeq (t u:TS):TS:=fun D σ H=>t { D with nx:=u D } σ H
theorem j8:PSs X [] tNext:=fun _ _ σ H _ I h=>wpAny_execs_nil ⟨σ,H,I,h⟩
theorem iP (h1:PS X st t) (h2:PSs X rest u):PSs X (st::rest) (tSeq t u):=by
 intro pins s σ H D I h
 refine wpAny_execs_cons (thn (h1 pins s σ H { D with nx:=u D } I h) fun f s1 q=>?_)
 cases f with
 | next =>
  obtain ⟨σ',H',I',q⟩:=q
  exact h2 pins s1 σ' H' D I' q
 | ret v=>exact q
 | brk=>exact q
 | cont=>exact q
theorem j7 (h1:PS X st t):PSs X [st] t:=by
 intro pins s σ H D I h
 refine wpAny_execs_cons (thn (h1 pins s σ H D I h) fun f s1 q=>?_)
 cases f with
 | next=>exact wpAny_execs_nil q
 | ret v=>exact q
 | brk=>exact q
 | cont=>exact q
theorem Inv.quiet {pins:List (Addr×Obj)} {σ:St} {H:Hp} {s:Shared} (I:Inv X pins σ H s):interactive X.env=false:=by simp [interactive,I.ok.kind]
def tDrop (te:TE):TS:=fun D σ H=>te σ H fun _ H1=>D.nx σ H1
theorem j9 (he:PE X e te) (hs:swapsWith e none pos.line X.env=pure false:=by rfl):PS X (.Expr e pos) (tDrop te):=by
 intro pins s σ H D I h
 exact wpAny_Expr_any (thn (he pins s σ H _ I h) fun v s1 ⟨x,H1,I1,r1,q1⟩=>⟨σ,H1,I1,q1⟩) I.quiet hs
def tRet (te:TE):TS:=fun D σ H=>te σ H D.rt
theorem my (he:PE X e te):PS X (.Return (some e) pos) (tRet te):=by
 intro pins s σ H D I h
 exact wpAny_Return_some (thn (he pins s σ H _ I h) fun v s1 ⟨x,H1,I1,r1,q1⟩=>⟨x,σ,H1,I1,r1,q1⟩)
def tIfS (c:TT) (t u:TS):TS:=fun D σ H=>c σ H fun b H1=>if b=true then t D σ H1 else u D σ H1
theorem oF {c:Expr} {a b:List Stmt} {tc:TT} (hc:PT X c tc) (ha:PSs X a t) (hb:PSs X b u):PS X (.If c a b pos) (tIfS tc t u):=by
 intro pins s σ H D I h
 refine wpAny_If (thn (hc pins s σ H _ I h) fun d s1 ⟨H1,I1,q1⟩=>?_)
 cases d with
 | true=>exact ha pins s1 σ H1 D I1 q1
 | false=>exact hb pins s1 σ H1 D I1 q1
end
abbrev TG:=V→St→Hp→(St→Hp→Prop)→Prop
abbrev TGs:=List V→St→Hp→(St→Hp→Prop)→Prop
def PG (X:Cx) (target:Expr) (t:TG):Prop :=
 ∀ (pins:List (Addr×Obj)) (s:Shared) (σ:St) (H:Hp) (v:V) (u:Value) (Q:St→Hp→Prop),Inv X pins σ H s→RelV v u→t v σ H Q →
  wpAny (model X.prog X.w) X.A (assign target X.env u) (fun _ s'=>∃ σ' H',Inv X pins σ' H' s'∧Q σ' H') X.xe s
def PGs (X:Cx) (ts:List Expr) (t:TGs):Prop :=
 ∀ (pins:List (Addr×Obj)) (s:Shared) (σ:St) (H:Hp) (vs:List V) (us:List Value) (Q:St→Hp→Prop),Inv X pins σ H s→Vals vs us→t vs σ H Q →
  wpAny (model X.prog X.w) X.A (assignInOrder ((assignEach ts X.env).map (·.2)) us) (fun _ s'=>∃ σ' H',Inv X pins σ' H' s'∧Q σ' H') X.xe s
abbrev TSet:=V→V→V→Hp→(Hp→Prop)→Prop
def PSet (X:Cx) (t:TSet):Prop :=
 ∀ (pins:List (Addr×Obj)) (s:Shared) (σ:St) (H:Hp) (o i v:V) (ov iv u:Value) (Q:Hp→Prop),Inv X pins σ H s→RelV o ov→RelV i iv→RelV v u→t o i v H Q →
  wpAny (model X.prog X.w) X.A (setItem ov iv u) (fun _ s'=>∃ H',Inv X pins σ H' s'∧Q H') X.xe s
section
variable {X:Cx} {pos:Pos}
def gName (i:Nat):TG:=fun v σ H Q=>Q (σ.set i (some v)) H
theorem kj {i:Nat} {x:Str} (hN:X.N.Nodup) (hi:X.N[i]?=some x) (hx:Loc X.env.scope x) (hf:X.fn x=true∨X.env.scope.names.lookup x=some .local:=by first | exact .inl rfl | exact .inr rfl | assumption):PG X (.Name x pos) (gName i):=by
 intro pins s σ H v u Q I r h
 exact wpAny_assign_Name (e7 I hN hi hx r (fun s' I'=>⟨_,H,I',h⟩) hf)
def gNil:TGs:=fun vs σ H Q=>vs=[]∧Q σ H
def gCons (t:TG) (u:TGs):TGs:=fun vs σ H Q=>∃ v r,vs=v::r∧t v σ H fun σ' H'=>u r σ' H' Q
theorem ki:PGs X [] gNil:=by
 intro pins s σ H vs us Q I r h
 obtain ⟨e,h⟩:=h
 subst e
 cases r
 exact assignInOrder_nil ⟨σ,H,I,h⟩
theorem iX {e:Expr} {es:List Expr} {t:TG} {u:TGs} (h1:PG X e t) (h2:PGs X es u)
  (hs:(assignEach (e::es) X.env).map (·.2)=assign e X.env::(assignEach es X.env).map (·.2):=by rfl):PGs X (e::es) (gCons t u):=by
 intro pins s σ H vs us Q I r h
 obtain ⟨v,vr,e1,h⟩:=h
 subst e1
 cases r with
 | cons r rr =>
  rw [hs]
  refine assignInOrder_cons (thn (h1 pins s σ H _ _ _ I r h) fun _ s1 ⟨σ1,H1,I1,q1⟩=>?_)
  exact h2 pins s1 σ1 H1 _ _ Q I1 rr q1
def gTup (K:xFr) (n:Nat) (t:TGs):TG:=fun v σ H Q=>∃ a xs,v = .ref a∧SqT K H a xs∧xs.length=n∧t xs σ H Q
theorem mE {es:List Expr} {k:Nat} {t:TGs} {n:Nat} (hc:X.calm=true) (h:PGs X es t)
  (hn:(assignEach es X.env).length=n:=by rfl) (hst:(assignEach es X.env).findIdx? (·.1)=none:=by rfl):PG X (.Tuple es k pos) (gTup X.K n t):=by
 intro pins s σ H v u Q I r hw
 obtain ⟨a,xs,e1,hq,hl,hw⟩:=hw
 subst e1
 cases r
 obtain ⟨its,rv,ht,hz⟩:=I.tuple hq
 refine assign_Tuple_tuple (I.ok.hd hc) ht (by simp [hn,← hl,rv.length]) hst fun h' hx=>?_
 have I1:Inv X pins σ H { s with heap:=h' }:=I.kept (t':=s.toks) fun b o e=>hx b o (xA0 (xA1 e)) e
 exact h pins _ σ H xs _ Q I1 (by simpa using rv) hw
def gSub (to ti:TE) (t:TSet):TG:=fun v σ H Q=>to σ H fun o H1=>ti σ H1 fun i H2=>t o i v H2 fun H3=>Q σ H3
theorem mF {o i:Expr} {to ti:TE} {t:TSet} (ho:PE X o to) (hi:PE X i ti) (hs:PSet X t)
  (ha:∀ v,assign (.Subscript o i pos) X.env v=(do
   let ov ← holding [v] (eval o X.env)
   let iv ← holding [v,ov] (eval i X.env)
   standAt pos
   holding [v,ov,iv] (setItem ov iv v)
   release [v,ov,iv] []):=by intro _;rfl):PG X (.Subscript o i pos) (gSub to ti t):=by
 intro pins s σ H v u Q I r h
 rw [ha]
 refine xAd (wpAny_holding (thn (ho pins s σ H _ I h) fun ov s1 ⟨x,H1,I1,r1,q1⟩=>?_))
 refine xAd (wpAny_holding (thn (hi pins s1 σ H1 _ I1 q1) fun iv s2 ⟨y,H2,I2,r2,q2⟩=>?_))
 refine xAd (wpAny_standAt (xAd (wpAny_holding (thn (hs pins s2 σ H2 x y v ov iv u _ I2 r1 r2 r q2) fun _ s3 ⟨H3,I3,q3⟩=>?_))))
 exact wpAny_release ⟨σ,H3,I3,q3⟩
def tAsg (te:TE) (g:TG):TS:=fun D σ H=>te σ H fun x H1=>g x σ H1 D.nx
theorem mC {tg e:Expr} {te:TE} {g:TG} (he:PE X e te) (hg:PG X tg g) (hs:swapsWithSole [tg] e pos.line X.env=pure false:=by rfl) (hw:swappedStores [tg] e X.env=pure none:=by rfl)
  (h1:(assignEach [tg] X.env).map (·.2)=[assign tg X.env]:=by rfl):PS X (.Assign [tg] e pos) (tAsg te g):=by
 intro pins s σ H D I h
 refine wpAny_Assign_stores (thn (he pins s σ H _ I h) fun v s1 ⟨x,H1,I1,r1,q1⟩=>?_) hs hw
 rw [h1]
 exact thn (hg pins s1 σ H1 x v _ I1 r1 q1) fun _ s2 q=>q
theorem mw {i:Nat} {x:Str} {e:Expr} {te:TE} {pos':Pos} (hN:X.N.Nodup) (hi:X.N[i]?=some x) (hx:Loc X.env.scope x) (he:PE X e te) (hs:swapsWith e (some (.Name x pos')) pos.line X.env=pure false:=by rfl) (hf:X.fn x=true∨X.env.scope.names.lookup x=some .local:=by first | exact .inl rfl | exact .inr rfl | assumption) :
  PS X (.Assign [.Name x pos'] e pos) (tAsg te (gName i)):=by
 intro pins s σ H D I h
 refine wpAny_Assign_Name (thn (he pins s σ H _ I h) fun v s1 ⟨y,H1,I1,r1,q1⟩=>?_) hs
 exact e7 I1 hN hi hx r1 (fun s2 I2=>⟨_,H1,I2,q1⟩) hf
end
section
variable {X:Cx} {pos:Pos}
def tWhile (c:TT) (tb:TS):TS:=fun D σ H=>∃ W:Nat→St→Hp→Prop,(∃ m,W m σ H)∧∀ m σ H,W m σ H →
 c σ H fun b H1=>if b=true then ∃ N:St→Hp→Prop,(∀ σ' H',N σ' H'→∃ m',m'<m∧W m' σ' H')∧tb { D with nx:=N,ct:=N,bk:=D.nx } σ H1 else D.nx σ H1
theorem iQ {c:Expr} {body:List Stmt} {tc:TT} {tb:TS} (hp:PassesOwn (model X.prog X.w) X.A X.env X.xe) (hc:PT X c tc) (hb:PSs X body tb):PS X (.While c body [] pos) (tWhile tc tb):=by
 intro pins s σ H D I h
 obtain ⟨W,⟨m0,w0⟩,turn⟩:=h
 refine wpAny_While (codeAny_whileLoop (fun n s'=>∃ σ' H',Inv X pins σ' H' s'∧W n σ' H') ?_ m0 ⟨σ,H,I,w0⟩)
 rintro n s1 ⟨σ1,H1,I1,w1⟩
 refine wpAny_passesOwn hp (thn (hc pins s1 σ1 H1 _ I1 (turn n σ1 H1 w1)) fun b s2 ⟨H2,I2,q2⟩=>?_)
 cases b with
 | true =>
  obtain ⟨N,hN,q2⟩:=q2
  rw [xCg rfl]
  refine wpAny_passesOwn hp (thn (hb pins s2 σ1 H2 _ I2 q2) fun f s3 q3=>?_)
  cases f with
  | next =>
   obtain ⟨σ3,H3,I3,n3⟩:=q3
   obtain ⟨m',hm,w3⟩:=hN σ3 H3 n3
   exact ⟨m',hm,σ3,H3,I3,w3⟩
  | cont =>
   obtain ⟨σ3,H3,I3,n3⟩:=q3
   obtain ⟨m',hm,w3⟩:=hN σ3 H3 n3
   exact ⟨m',hm,σ3,H3,I3,w3⟩
  | brk=>exact q3
  | ret v=>exact q3
 | false =>
  rw [xCf xAy]
  exact wpAny_execs_nil ⟨σ1,H2,I2,q2⟩
end
structure It where
 go:Nat→Hp→Prop
 yld:Nat→Hp→V→Hp→Prop
 stop:Nat→Hp→Prop
def FpOk (X:Cx) (pins:List (Addr×Obj)) (H:Hp) (b:Addr):Prop :=
 H b=none∧b≠X.env.locals∧b ∉ X.fs∧(b∈X.ex∨X.s₀.heap.objs.size≤b)∧(∀ x c,X.env.cells.lookup x=some c→c≠b)∧∀ p∈X.pn++pins,p.1≠b
theorem Inv.fpOk {X:Cx} {pins:List (Addr×Obj)} {σ:St} {H H':Hp} {s:Shared} {b:Addr} (I:Inv X pins σ H s) (hb:s.heap.objs.size≤b) (hn:H' b=none):FpOk X pins H' b:=by
 refine ⟨hn,Nat.ne_of_gt (xBc I.lt hb),I.nofs hb,.inr (Nat.le_trans I.sz hb),fun x c e z=>?_,fun p hp z=>?_⟩
 ·obtain ⟨v,q⟩:=I.cell x c e
  exact absurd (xBc q.lt (by rw [z];exact hb)) (xBo _)
 ·exact absurd (xBc (xA1 (I.pin p hp).1) (by rw [z];exact hb)) (xBo _)
structure Turn (P:Program) (w:World) (K:xFr) (tg:Expr) (J:It) (fp:List Addr) (it:Addr) (tn:Nat→Heap→Prop):Prop where
 mem:it∈fp
 obj:∀ i h,tn i h→∀ b∈fp,∃ o,h.get? b=some o∧∀ v,o.data≠.cell v
 keep:∀ i h h',tn i h→(∀ b∈fp,∀ o,h.get? b=some o→h'.get? b=some o)→tn i h'
 item:∀ (X:Cx),X.prog=P→X.w=w→X.K=K→X.calm=true→∀ (i:Nat) (pins:List (Addr×Obj)) (s:Shared) (σ:St) (H:Hp) (E:Value→Shared→Prop),Inv X pins σ H s→(∀ b∈fp,FpOk X pins H b)→tn i s.heap→J.go i H →
  wpAny (model P w) X.A (pyNext (.ref it)) (fun r s1=>∃ u,r=some u ∧
   wpAny (model P w) X.A (letOwnedTupleGo tg (.ref it) u) (fun _ s2=>∃ x H',Inv X pins σ H' s2∧RelV x u∧J.yld i H x H'∧tn (i+1) s2.heap∧∀ b∈fp,H' b=none) E s1) E s
 done:∀ (X:Cx),X.prog=P→X.w=w→X.K=K→X.calm=true→∀ (i:Nat) (pins:List (Addr×Obj)) (s:Shared) (σ:St) (H:Hp) (E:Value→Shared→Prop),Inv X pins σ H s→(∀ b∈fp,FpOk X pins H b)→tn i s.heap→J.stop i H →
  wpAny (model P w) X.A (pyNext (.ref it)) (fun r s1=>r=none∧Inv X pins σ H s1) E s
 self:∀ (A:Around) (i:Nat) (s:Shared) (Q:Value→Shared→Prop) (E:Value→Shared→Prop),tn i s.heap→Q (.ref it) s→wpAny (model P w) A (pyIter (.ref it)) Q E s
abbrev TI:=St→Hp→(It→Hp→Prop)→Prop
def PIE (X:Cx) (pins:List (Addr×Obj)) (σ:St) (tg:Expr) (R:It→Hp→Prop) (itv:Value) (s2:Shared):Prop :=
 ∃ (it:Addr) (fp:List Addr) (tn:Nat→Heap→Prop) (J:It) (H':Hp),itv = .ref it∧Inv X pins σ H' s2∧Turn X.prog X.w X.K tg J fp it tn∧tn 0 s2.heap∧(∀ b∈fp,FpOk X pins H' b)∧R J H'
def PI (X:Cx) (tg iter:Expr) (wi:TI):Prop :=
 ∀ (pins:List (Addr×Obj)) (s:Shared) (σ:St) (H:Hp) (R:It→Hp→Prop),Inv X pins σ H s→wi σ H R →
  wpAny (model X.prog X.w) X.A (eval iter X.env) (fun v s1=>wpAny (model X.prog X.w) X.A (pyIter v) (PIE X pins σ tg R) X.xe s1) X.xe s
theorem jn {M:Model} {A:Around} {E:Value→Shared→Prop} {s:Shared} {tg:Expr} {it:Addr} {u:Value} {o:Obj} {n:String} {vs:Array Value} {Q:Unit→Shared→Prop} (ho:s.heap.get? it=some o) (hc:o.cls = .type n) (hd:o.data = .fields vs)
  (hn:["enumerate","zip","dict_itemiterator","dict_reverseitemiterator","odict_iterator","itertools.zip_longest","itertools.pairwise"].contains n=false) (hQ:Q () s):wpAny M A (letOwnedTupleGo tg (.ref it) u) Q E s:=by
 unfold letOwnedTupleGo
 cases tg <;> first
  | exact xAe hQ
  | (cases u <;> first
    | exact xAe hQ
    | (refine xAd (wpAny_load ho ?_)
       rw [hc,hd]
       show wpAny M A (if (["enumerate","zip","dict_itemiterator","dict_reverseitemiterator","odict_iterator","itertools.zip_longest","itertools.pairwise"].contains n && vs[0]? == some (rawInt _))=true then _ else _) Q E s
       rw [xCf (by intro h;rw [hn,Bool.false_and] at h;cases h)]
       exact xAe hQ))
def Itl (K:xFr) (a:Addr):It :=
 ⟨fun i H=>∃ xs x,SqL K H a xs∧xs[i]?=some x,fun i H x H'=>H'=H∧∀ xs,SqL K H a xs→xs[i]?=some x,fun i H=>∃ xs,SqL K H a xs∧xs.length≤i⟩
def Itr (lo:Int) (n:Nat):It:=⟨fun i _=>i<n,fun i H x H'=>H'=H∧x = .int (lo+i),fun i _=>n≤i⟩
theorem gZ {P:Program} {w:World} {K:xFr} {tg:Expr} (a it:Addr):Turn P w K tg (Itl K a) [it] it (fun i h=>h.IsListIter it a i) where
 mem:=by simp
 obj:=fun i h st b hb=>by
  have e:b=it:=by simpa using hb
  subst e
  obtain ⟨o,e,c,d⟩:=st
  exact ⟨o,e,fun v z=>by rw [d] at z;cases z⟩
 keep:=fun i h h' st k=>st.at fun o e=>k it (by simp) o e
 item:=by
  intro X hP hw hK hc i pins s σ H E I hf st hg
  subst hP hw hK
  obtain ⟨xs,x,hq,hx⟩:=hg
  obtain ⟨its,rv,p,hz⟩:=I.list hq
  obtain ⟨u,hu,ru⟩:=rv.get hx
  obtain ⟨f0,f1,f2,f3,f4,f5⟩:=hf it (by simp)
  refine wpAny_pyNext_list_item st p.isList (x:=u) (by simpa using hu) fun h' st' sb=>?_
  have I1:Inv X pins σ H { s with heap:=h' }:=I.turned (t':=s.toks) (fun b o hb e=>(sb.2 b hb).trans e) f0 f1 f3 f4 f5
  obtain ⟨o,e,c,d⟩:=id st'
  exact ⟨u,rfl,jn (s:={ s with heap:=h' }) e c d (by decide) ⟨x,H,I1,ru,⟨rfl,fun ys hy=>by rw [I.list_inj hy hq];exact hx⟩,st',fun b hb=>(hf b hb).1⟩⟩
 done:=by
  intro X hP hw hK hc i pins s σ H E I hf st hg
  subst hP hw hK
  obtain ⟨xs,hq,hx⟩:=hg
  obtain ⟨its,rv,p,hz⟩:=I.list hq
  obtain ⟨f0,f1,f2,f3,f4,f5⟩:=hf it (by simp)
  have hl:=rv.length
  exact wpAny_pyNext_list_end (I.ok.hd hc) st p.isList (by simp;omega) fun h' eb=>⟨rfl,I.turned (t':=s.toks) (fun b o hb e=>eb b o hb e) f0 f1 f3 f4 f5⟩
 self:=fun _ _ _ _ _ st h=>wpAny_pyIter_listiter st h
theorem fR {P:Program} {w:World} {K:xFr} {tg:Expr} (it:Addr) (lo:Int) (n:Nat):Turn P w K tg (Itr lo n) [it] it (fun i h=>IsRangeIter h it (lo+(i:Nat) * 1) ((n:Int) - (i:Nat)) 1) where
 mem:=by simp
 obj:=fun i h st b hb=>by
  have e:b=it:=by simpa using hb
  subst e
  exact ⟨_,st,fun v z=>by
   have z':Data.fields _=Data.cell v:=z
   cases z'⟩
 keep:=fun i h h' st k=>k it (by simp) _ st
 item:=by
  intro X hP hw hK hc i pins s σ H E I hf st hg
  subst hP hw hK
  obtain ⟨f0,f1,f2,f3,f4,f5⟩:=hf it (by simp)
  have W:=Walks.range (prog:=X.prog) (w:=X.w) (I.ok.hd hc) it lo 1 n
  refine W.item i s _ _ hg st fun v h' tk hv st' kk=>?_
  obtain ⟨t,rfl⟩:=hv
  have I1:Inv X pins σ H { s with heap:=h',toks:=tk }:=I.turned (fun b o hb e=>kk b o (by simpa using hb) e) f0 f1 f3 f4 f5
  refine ⟨_,rfl,jn (s:={ s with heap:=h',toks:=tk }) (n:="range_iterator") st' rfl rfl (by decide) ⟨.int (lo+i),H,I1,⟨t,?_⟩,⟨rfl,rfl⟩,st',fun b hb=>(hf b hb).1⟩⟩
  rw [Int.mul_one]
 done:=by
  intro X hP hw hK hc i pins s σ H E I hf st hg
  subst hP hw hK
  obtain ⟨f0,f1,f2,f3,f4,f5⟩:=hf it (by simp)
  exact wpAny_pyNext_range_end (I.ok.hd hc) st (by have:n≤i:=hg;omega) fun h' eb=>⟨rfl,I.turned (t':=s.toks) (fun b o hb e=>eb b o hb e) f0 f1 f3 f4 f5⟩
 self:=fun _ _ _ _ _ st h=>wpAny_pyIter_rangeiter st h
end L2
namespace L2
open PySem PySem.Spec PyProof.Rows
section
variable {X:Cx} {tg:Expr}
def iList (K:xFr) (tl:TE):TI:=fun σ H R=>tl σ H fun x H1=>∃ a,x = .ref a∧(∃ xs,SqL K H1 a xs)∧R (Itl K a) H1
theorem kg {l:Expr} {tl:TE} (hl:PE X l tl):PI X tg l (iList X.K tl):=by
 intro pins s σ H R I h
 refine thn (hl pins s σ H _ I h) fun v s1 ⟨x,H1,I1,r1,q1⟩=>?_
 obtain ⟨a,e,⟨xs,hq⟩,q⟩:=q1
 subst e
 cases r1
 obtain ⟨its,rv,p,hz⟩:=I1.list hq
 refine wpAny_pyIter_list p.isList ?_
 refine ⟨s1.heap.objs.size,[s1.heap.objs.size],_,_,H1,rfl,I1.kept (t':=s1.toks) fun b o e=>xAf _ e,gZ a _,⟨_,xAl _ rfl,rfl,rfl⟩,fun b hb=>?_,q⟩
 have e:b=s1.heap.objs.size:=by simpa using hb
 subst e
 exact I1.fpOk (xAg _) (I1.hok.fresh (xAg _))
theorem fe {pins:List (Addr×Obj)} {σ:St} {H:Hp} {s:Shared} {R:It→Hp→Prop} {E:Value→Shared→Prop} {lo hi:Int} {t u v:Tok} {tk:Nat} (I:Inv X pins σ H s) (h1:-(2 ^ 62)≤lo) (h2:lo<2 ^ 62) (h3:-(2 ^ 62)≤hi) (h4:hi<2 ^ 62)
  (q:R (Itr lo (hi - lo).toNat) H):wpAny (model X.prog X.w) X.A (pyIter (.ref s.heap.objs.size)) (PIE X pins σ tg R) E { s with heap:=s.heap.push { cls:=.type "range",data:=.fields #[.int lo t,.int hi u,.int 1 v] },toks:=tk }:=by
 refine wpAny_pyIter_range (IsRange.new ..) (small_one h1 h2 h3 h4) ?_
 have I1:Inv X pins σ H { s with heap:=s.heap.push { cls:=.type "range",data:=.fields #[.int lo t,.int hi u,.int 1 v] },toks:=tk }:=I.kept fun b o e=>xAf _ e
 refine ⟨(s.heap.push { cls:=.type "range",data:=.fields #[.int lo t,.int hi u,.int 1 v] }).objs.size,[(s.heap.push { cls:=.type "range",data:=.fields #[.int lo t,.int hi u,.int 1 v] }).objs.size],_,_,H,rfl,
  I1.kept (t':=tk) fun b o e=>xAf _ e,fR _ lo (hi - lo).toNat,?_,fun b hb=>?_,q⟩
 ·have e1:lo+((0:Nat):Int) * 1=lo:=by simp
  have e2:(((hi - lo).toNat:Nat):Int) - ((0:Nat):Int)=Builtin.Range.rangeSize lo hi 1:=by rw [rangeSize_one];split <;> omega
  show IsRangeIter _ _ (lo+((0:Nat):Int) * 1) ((((hi - lo).toNat:Nat):Int) - ((0:Nat):Int)) 1
  rw [e1,e2]
  exact xAl _ rfl
 ·have e:b=(s.heap.push { cls:=.type "range",data:=.fields #[.int lo t,.int hi u,.int 1 v] }).objs.size:=by simpa using hb
  subst e
  exact I1.fpOk (xAg _) (I1.hok.fresh (xAg _))
def iRng1 (ta:TA):TI:=fun σ H R=>ta σ H fun vs H1=>∃ j:Int,vs=[.int j]∧-(2 ^ 62)≤j∧j<2 ^ 62∧R (Itr 0 j.toNat) H1
def iRng2 (ta:TA):TI:=fun σ H R=>ta σ H fun vs H1=>∃ i j:Int,vs=[.int i,.int j]∧(-(2 ^ 62)≤i∧i<2 ^ 62∧-(2 ^ 62)≤j∧j<2 ^ 62)∧R (Itr i (j - i).toNat) H1
theorem hW {a:Expr} {ta:TA} {p pos:Pos} (hg:Gl X "range") (hm:X.mg "range"=none) (ha:PA X [a] ta) (hs:starEach [a] X.env=[(false,eval a X.env)]:=by rfl):PI X tg (.Call (.Name "range" p) [a] [] pos) (iRng1 ta):=by
 intro pins s σ H R I h
 refine Call_ (cS I hg hm boot_range (PyProof.Rows.callWith_type1 (thn (ha pos pins s σ H _ I h) fun us s1 ⟨vs,H1,I1,r1,q1⟩=>?_) hs rfl))
 obtain ⟨j,e,q1,q2,q⟩:=q1
 subst e
 cases r1 with
 | cons r rr =>
  cases rr
  obtain ⟨t,rfl⟩:=r
  exact call_range_1 (fe I1 (by omega) (by omega) q1 q2 (by simpa using q))
theorem hV {a b:Expr} {ta:TA} {p pos:Pos} (hg:Gl X "range") (hm:X.mg "range"=none) (ha:PA X [a,b] ta) (hs:starEach [a,b] X.env=[(false,eval a X.env),(false,eval b X.env)]:=by rfl) (hs2:starEach [b] X.env=[(false,eval b X.env)]:=by rfl) :
  PI X tg (.Call (.Name "range" p) [a,b] [] pos) (iRng2 ta):=by
 intro pins s σ H R I h
 refine Call_ (cS I hg hm boot_range (PyProof.Rows.callWith_type1 (thn (ha pos pins s σ H _ I h) fun us s1 ⟨vs,H1,I1,r1,q1⟩=>?_) (by rw [hs,hs2]) (by rw [hs2];rfl)))
 obtain ⟨i,j,e,⟨q1,q2,q3,q4⟩,q⟩:=q1
 subst e
 cases r1 with
 | cons r rr =>
  cases rr with
  | cons r' rr =>
   cases rr
   obtain ⟨t,rfl⟩:=r
   obtain ⟨t',rfl⟩:=r'
   exact call_range_2 (fe I1 q1 q2 q3 q4 q)
def tFor (wi:TI) (g:TG) (tb:TS):TS:=fun D σ H=>wi σ H fun J H1=>∃ W:Nat→Nat→St→Hp→Prop,(∃ m,W 0 m σ H1)∧∀ i m σ H,W i m σ H →
 (J.stop i H∧D.nx σ H)∨(J.go i H∧∃ N:St→Hp→Prop,(∀ σ' H',N σ' H'→∃ m',m'<m∧W (i+1) m' σ' H')∧∀ x H',J.yld i H x H'→g x σ H' fun σ2 H2=>tb { D with nx:=N,ct:=N,bk:=D.nx } σ2 H2)
def pinsAt (fp:List Addr) (h:Heap):List (Addr×Obj):=fp.filterMap fun b=>(h.get? b).map fun o=>(b,o)
theorem bL {fp:List Addr} {h:Heap} {b:Addr} {o:Obj} (hb:b∈fp) (e:h.get? b=some o):(b,o)∈pinsAt fp h:=List.mem_filterMap.mpr ⟨b,hb,by rw [e];rfl⟩
theorem ic {fp:List Addr} {h:Heap} {p:Addr×Obj} (hp:p∈pinsAt fp h):p.1∈fp∧h.get? p.1=some p.2:=by
 obtain ⟨b,hb,e⟩:=List.mem_filterMap.mp hp
 cases q:h.get? b with
 | none=>rw [q] at e;cases e
 | some o =>
  rw [q] at e
  have e':(b,o)=p:=xB3 e
  subst e'
  exact ⟨hb,q⟩
theorem Inv.pinned {pins:List (Addr×Obj)} {σ:St} {H:Hp} {s:Shared} {fp:List Addr} (I:Inv X pins σ H s) (hf:∀ b∈fp,FpOk X pins H b) (ho:∀ b∈fp,∃ o,s.heap.get? b=some o∧∀ v,o.data≠.cell v):Inv X (pins++pinsAt fp s.heap) σ H s :=
 I.pins_of fun p hp=>(xAj.mp hp).elim (fun z=>I.pin p (xBt _ z)) fun z=>by
  obtain ⟨hb,e⟩:=ic z
  obtain ⟨f0,f1,f2,_⟩:=hf p.1 hb
  obtain ⟨o,e',d⟩:=ho p.1 hb
  rw [e] at e';cases e'
  exact ⟨e,f0,f1,f2,d⟩
theorem Inv.unpinned {pins pl:List (Addr×Obj)} {σ:St} {H:Hp} {s:Shared} (I:Inv X (pins++pl) σ H s):Inv X pins σ H s:=I.pins_of fun p hp=>I.pin p (xBt _ (xBw _ hp))
theorem mz {iter:Expr} {body:List Stmt} {wi:TI} {g:TG} {tb:TS} {pos:Pos} (hp:PassesOwn (model X.prog X.w) X.A X.env X.xe) (hc:X.calm=true) (hi:PI X tg iter wi) (hg:PG X tg g) (hb:PSs X body tb)
  (hs:∀ x,foldedSetIterable iter X.env x=pure x:=by intro _;rfl):PS X (.For tg iter body [] pos) (tFor wi g tb):=by
 intro pins s σ H D I h
 refine wpAny_For (thn (hi pins s σ H _ I h) fun v s1 h1=>thn h1 fun itv s2 h2=>?_) hs
 obtain ⟨it,fp,tn,J,H2,e,I2,T,st2,f2,W,⟨m0,w0⟩,turn⟩:=h2
 subst e
 -- what stays true of the iterator's objects through the loop
 have stat:∀ {H':Hp},(∀ b∈fp,H' b=none)→∀ b∈fp,FpOk X pins H' b:=fun hn b hb=>⟨hn b hb,(f2 b hb).2⟩
 refine codeAny_forLoop_any (fun n s'=>∃ i σ' H',Inv X pins σ' H' s'∧tn i s'.heap∧(∀ b∈fp,H' b=none)∧W i n σ' H') ?_ m0 ⟨0,σ,H2,I2,st2,fun b hb=>(f2 b hb).1,w0⟩
 rintro n s3 ⟨i,σ3,H3,I3,st3,fr3,w3⟩
 rcases turn i n σ3 H3 w3 with ⟨stop,qn⟩ | ⟨go,N,hN,step⟩
 ·refine wpAny_passesOwn hp (thn (T.done X rfl rfl rfl hc i pins s3 σ3 H3 X.xe I3 (stat fr3) st3 stop) fun r s4 ⟨hr,I4⟩=>?_)
  subst hr
  exact wpAny_execs_nil ⟨σ3,H3,I4,qn⟩
 ·refine wpAny_passesOwn hp (thn (T.item X rfl rfl rfl hc i pins s3 σ3 H3 X.xe I3 (stat fr3) st3 go) fun r s4 ⟨u,hr,h4⟩=>?_)
  subst hr
  refine wpAny_passesOwn hp (thn h4 fun _ s5 ⟨x,H5,I5,r5,y5,st5,fr5⟩=>?_)
  have I5':=I5.pinned (stat fr5) (T.obj _ _ st5)
  refine wpAny_passesOwn hp (thn (hg _ s5 σ3 H5 x u _ I5' r5 (step x H5 y5)) fun _ s6 ⟨σ6,H6,I6,q6⟩=>?_)
  refine wpAny_passesOwn hp (thn (hb _ s6 σ6 H6 _ I6 q6) fun f s7 q7=>?_)
  have again:∀ {σ7:St} {H7:Hp},Inv X (pins++pinsAt fp s5.heap) σ7 H7 s7→N σ7 H7→∃ m,m<n∧∃ i σ' H',Inv X pins σ' H' s7∧tn i s7.heap∧(∀ b∈fp,H' b=none)∧W i m σ' H':=fun {σ7 H7} I7 n7=>by
   obtain ⟨m',hm,w7⟩:=hN σ7 H7 n7
   refine ⟨m',hm,i+1,σ7,H7,I7.unpinned,T.keep _ _ _ st5 fun b hb o e=>(I7.pin (b,o) (xBt _ (xBt _ (bL hb e)))).1,fun b hb=>?_,w7⟩
   obtain ⟨o,e,d⟩:=T.obj _ _ st5 b hb
   exact (I7.pin (b,o) (xBt _ (xBt _ (bL hb e)))).2.1
  cases f with
  | next=>obtain ⟨σ7,H7,I7,n7⟩:=q7;exact again I7 n7
  | cont=>obtain ⟨σ7,H7,I7,n7⟩:=q7;exact again I7 n7
  | brk=>obtain ⟨σ7,H7,I7,q7⟩:=q7;exact ⟨σ7,H7,I7.unpinned,q7⟩
  | ret v=>obtain ⟨x7,σ7,H7,I7,r7,q7⟩:=q7;exact ⟨x7,σ7,H7,I7.unpinned,r7,q7⟩
end
end L2
namespace L2
open PySem PySem.Spec PyProof.Rows
abbrev R2:=V→V→Hp→VK→Prop
def OpR (X:Cx) (f:Value→Value→Sem Value) (r:R2):Prop :=
 ∀ (pins:List (Addr×Obj)) (s:Shared) (σ:St) (H:Hp) (x y:V) (v u:Value) (Q:VK),Inv X pins σ H s→RelV x v→RelV y u→r x y H Q →
  wpAny (model X.prog X.w) X.A (f v u) (EP X pins σ Q) X.xe s
def CallR (X:Cx) (f:Value) (r:List V→Hp→VK→Prop):Prop :=
 ∀ (pins:List (Addr×Obj)) (s:Shared) (σ:St) (H:Hp) (xs:List V) (us:List Value) (Q:VK),Inv X pins σ H s→Vals xs us→r xs H Q →
  wpAny (model X.prog X.w) X.A (call f us) (EP X pins σ Q) X.xe s
def tOp (r:R2) (ta tb:TE):TE:=fun σ H Q=>ta σ H fun x H1=>tb σ H1 fun y H2=>r x y H2 Q
def rI (C:Int→Int→Prop) (g:Int→Int→V):R2:=fun x y H Q=>∃ i j,x = .int i∧y = .int j∧C i j∧Q (g i j) H
def rI0 (g:Int→Int→V):R2:=fun x y H Q=>∃ i j,x = .int i∧y = .int j∧Q (g i j) H
section
variable {X:Cx} {a b c:Expr} {ta tb tc:TE} {pos:Pos}
theorem binT (ha:PE X a ta) (hb:PE X b tb) {pins:List (Addr×Obj)} {s:Shared} {σ:St} {H:Hp} {R:V→V→Hp→Prop} (I:Inv X pins σ H s)
  (h:ta σ H fun x H1=>tb σ H1 fun y H2=>R x y H2) {Q:Value→Shared→Prop} {f:Value→Value→Sem Value}
  (hf:∀ v u s2 x y H2,Inv X pins σ H2 s2→RelV x v→RelV y u→R x y H2→wpAny (model X.prog X.w) X.A (f v u) Q X.xe s2) :
  wpAny (model X.prog X.w) X.A (eval a X.env) (fun v s₁=>wpAny (model X.prog X.w) X.A (eval b X.env) (fun u s₂=>wpAny (model X.prog X.w) X.A (f v u) Q X.xe s₂) X.xe s₁) X.xe s:=by
 refine thn (ha pins s σ H _ I h) fun v s1 ⟨x,H1,I1,r1,q1⟩=>?_
 refine thn (hb pins s1 σ H1 _ I1 q1) fun u s2 ⟨y,H2,I2,r2,q2⟩=>?_
 exact hf v u s2 x y H2 I2 r1 r2 q2
theorem oI {op:Operator} {r:R2} (ho:OpR X (binaryOp op) r) (ha:PE X a ta) (hb:PE X b tb):PE X (.BinOp a op b pos) (tOp r ta tb):=by
 intro pins s σ H Q I h
 exact wpAny_BinOp (binT ha hb I h fun v u s2 x y H2 I2 rx ry q=>ho pins s2 σ H2 x y v u Q I2 rx ry q)
theorem opI {f:Value→Value→Sem Value} {C:Int→Int→Prop} {g:Int→Int→Int}
  (rule:∀ (i j:Int) (t u:Tok) (s:Shared) (Q:Value→Shared→Prop) (E:Value→Shared→Prop),C i j→Q (.int (g i j) s.toks) { s with toks:=s.toks+1 }→wpAny (model X.prog X.w) X.A (f (.int i t) (.int j u)) Q E s) :
  OpR X f (rI C fun i j=>.int (g i j)):=by
 intro pins s σ H x y v u Q I rx ry h
 obtain ⟨i,j,rfl,rfl,hc,q⟩:=h
 obtain ⟨t,rfl⟩:=rx
 obtain ⟨t',rfl⟩:=ry
 exact rule i j t t' s _ _ hc ⟨.int (g i j),H,I.tok _,⟨_,rfl⟩,q⟩
theorem opI0 {f:Value→Value→Sem Value} {g:Int→Int→Int}
  (rule:∀ (i j:Int) (t u:Tok) (s:Shared) (Q:Value→Shared→Prop) (E:Value→Shared→Prop),Q (.int (g i j) s.toks) { s with toks:=s.toks+1 }→wpAny (model X.prog X.w) X.A (f (.int i t) (.int j u)) Q E s) :
  OpR X f (rI0 fun i j=>.int (g i j)):=by
 intro pins s σ H x y v u Q I rx ry h
 obtain ⟨i,j,rfl,rfl,q⟩:=h
 obtain ⟨t,rfl⟩:=rx
 obtain ⟨t',rfl⟩:=ry
 exact rule i j t t' s _ _ ⟨.int (g i j),H,I.tok _,⟨_,rfl⟩,q⟩
theorem opB0 {f:Value→Value→Sem Value} {g:Int→Int→Bool}
  (rule:∀ (i j:Int) (t u:Tok) (s:Shared) (Q:Value→Shared→Prop) (E:Value→Shared→Prop),Q (.bool (g i j)) s→wpAny (model X.prog X.w) X.A (f (.int i t) (.int j u)) Q E s) :
  OpR X f (rI0 fun i j=>.bl (g i j)):=by
 intro pins s σ H x y v u Q I rx ry h
 obtain ⟨i,j,rfl,rfl,q⟩:=h
 obtain ⟨t,rfl⟩:=rx
 obtain ⟨t',rfl⟩:=ry
 exact rule i j t t' s _ _ ⟨.bl (g i j),H,I,rfl,q⟩
def CDiv (i j:Int):Prop:=0<j∧j<1073741824
def CPow (i j:Int):Prop:=0≤j∧j≤1000000∧i.natAbs<2 ^ 64
def CMul (i j:Int):Prop:=(-(2 ^ 64)<i∧i<2 ^ 64)∨(-(2 ^ 64)<j∧j<2 ^ 64)
theorem CMul.ok {i j:Int} (h:CMul i j):IntMulOk i j:=by
 rcases h with ⟨h1,h2⟩ | ⟨h1,h2⟩
 ·exact .of_left (intBits_le_64 h1 h2)
 ·exact .of_right (intBits_le_64 h1 h2)
theorem aV:OpR X (binaryOp .Add) (rI0 fun i j=>.int (i+j)):=opI0 fun _ _ _ _ _ _ _ q=>add_int q
theorem cR:OpR X (binaryOp .Sub) (rI0 fun i j=>.int (i - j)):=opI0 fun _ _ _ _ _ _ _ q=>sub_int q
theorem i8:OpR X (binaryOp .Mult) (rI CMul fun i j=>.int (i * j)):=opI fun _ _ _ _ _ _ _ hc q=>mul_int q hc.ok
theorem bg:OpR X (binaryOp .FloorDiv) (rI CDiv fun i j=>.int (i / j)):=opI fun i j _ _ _ _ _ hc q=>by
 have h1:(0:Int)<j:=hc.1
 have h2:j<1073741824:=hc.2
 exact floordiv_int (by omega) (by rw [Int.fdiv_eq_ediv_of_nonneg i (by omega)];exact q) (.inl (PyProof.noPylong_small (by omega)))
theorem aQ:OpR X (binaryOp .Mod) (rI (fun _ j=>0<j) fun i j=>.int (i % j)):=opI fun i j _ _ _ _ _ hc q=>by
 have h1:(0:Int)<j:=hc
 exact mod_int' (by omega) (by rw [Int.fmod_eq_emod_of_nonneg i (by omega)];exact q)
theorem i7:OpR X (binaryOp .Pow) (rI CPow fun i j=>.int (i ^ j.toNat)):=opI fun _ _ _ _ _ _ _ hc q=>pow_int_small hc.1 hc.2.1 hc.2.2 q
end
def scal:V→V→Bool
 | .non,.non=>true | .non,.int _=>true | .int _,.non=>true | .non,.bl _=>true | .bl _,.non=>true | .non,.str _=>true | .str _,.non=>true
 | .int _,.int _=>true | .bl _,.bl _=>true | .str _,.str _=>true | .byt _,.byt _=>true
 | .int _,.str _=>true | .str _,.int _=>true | .bl _,.str _=>true | .str _,.bl _=>true
 | _,_=>false
def rEq:R2:=fun x y H Q=>scal x y=true∧Q (.bl (decide (x=y))) H
def rNe:R2:=fun x y H Q=>scal x y=true∧Q (.bl (!decide (x=y))) H
theorem gS {i j:Int}:decide (V.int i=V.int j)=(i == j):=by
 rw [Bool.eq_iff_iff]
 simp
theorem jz {i j:Bool}:decide (V.bl i=V.bl j)=(i == j):=by
 rw [Bool.eq_iff_iff]
 simp
theorem gR {i j:Str}:decide (V.str i=V.str j)=(i == j):=by
 rw [Bool.eq_iff_iff]
 simp
theorem gT {i j:Array UInt8}:decide (V.byt i=V.byt j)=(i.toList == j.toList):=by
 rw [Bool.eq_iff_iff]
 cases i
 cases j
 simp
section
variable {X:Cx} {a b c:Expr} {ta tb tc:TE} {pos:Pos}
theorem ak {pins:List (Addr×Obj)} {σ:St} {H:Hp} {s:Shared} {Q:VK} {k k':Bool} (I:Inv X pins σ H s) (q:Q (.bl k) H) (e:k=k'):EP X pins σ Q (.bool k') s:=by
 subst e
 exact ⟨.bl k,H,I,rfl,q⟩
theorem ce:OpR X (compareOp .Eq) rEq:=by
 intro pins s σ H x y v u Q I rx ry h
 obtain ⟨hs,q⟩:=h
 cases x with
 | non =>
  cases rx
  cases y with
  | non=>cases ry;exact PySem.EqNone.eq_none_none (ak I q (by simp))
  | bl j=>cases ry;exact PySem.EqNone.eq_none_bool (ak I q (by simp))
  | int j=>obtain ⟨t',rfl⟩:=ry;exact PySem.EqNone.eq_none_int (ak I q (by simp))
  | str j=>obtain ⟨t',rfl⟩:=ry;exact PySem.EqNone.eq_none_str (ak I q (by simp))
  | _=>exact absurd (show false=true from hs) xAy
 | bl i =>
  cases rx
  cases y with
  | non=>cases ry;exact PySem.EqNone.eq_bool_none (ak I q (by simp))
  | bl j=>cases ry;exact eq_bool (ak I q jz)
  | str j=>obtain ⟨t',rfl⟩:=ry;exact PySem.EqMixed.eq_bool_str (ak I q (by simp))
  | _=>exact absurd (show false=true from hs) xAy
 | int i =>
  obtain ⟨t,rfl⟩:=rx
  cases y with
  | non=>cases ry;exact PySem.EqNone.eq_int_none (ak I q (by simp))
  | int j=>obtain ⟨t',rfl⟩:=ry;exact eq_int (ak I q gS)
  | str j=>obtain ⟨t',rfl⟩:=ry;exact PySem.EqMixed.eq_int_str (ak I q (by simp))
  | _=>exact absurd (show false=true from hs) xAy
 | str i =>
  obtain ⟨t,rfl⟩:=rx
  cases y with
  | non=>cases ry;exact PySem.EqNone.eq_str_none (ak I q (by simp))
  | bl j=>cases ry;exact PySem.EqMixed.eq_str_bool (ak I q (by simp))
  | int j=>obtain ⟨t',rfl⟩:=ry;exact PySem.EqMixed.eq_str_int (ak I q (by simp))
  | str j=>obtain ⟨t',rfl⟩:=ry;exact eq_str (ak I q gR)
  | _=>exact absurd (show false=true from hs) xAy
 | byt i =>
  obtain ⟨t,rfl⟩:=rx
  cases y with
  | byt j=>obtain ⟨t',rfl⟩:=ry;exact PySem.W.eq_bytes (ak I q gT)
  | _=>exact absurd (show false=true from hs) xAy
 | _=>cases y <;> exact absurd (show false=true from hs) xAy
theorem dH:OpR X (compareOp .NotEq) rNe:=by
 intro pins s σ H x y v u Q I rx ry h
 obtain ⟨hs,q⟩:=h
 cases x with
 | non =>
  cases rx
  cases y with
  | non=>cases ry;exact PySem.EqNone.ne_none_none (ak I q (by simp))
  | bl j=>cases ry;exact PySem.EqNone.ne_none_bool (ak I q (by simp))
  | int j=>obtain ⟨t',rfl⟩:=ry;exact PySem.EqNone.ne_none_int (ak I q (by simp))
  | str j=>obtain ⟨t',rfl⟩:=ry;exact PySem.EqNone.ne_none_str (ak I q (by simp))
  | _=>exact absurd (show false=true from hs) xAy
 | bl i =>
  cases rx
  cases y with
  | non=>cases ry;exact PySem.EqNone.ne_bool_none (ak I q (by simp))
  | bl j=>cases ry;exact ne_bool (ak I q (congrArg not jz))
  | str j=>obtain ⟨t',rfl⟩:=ry;exact PySem.EqMixed.ne_bool_str (ak I q (by simp))
  | _=>exact absurd (show false=true from hs) xAy
 | int i =>
  obtain ⟨t,rfl⟩:=rx
  cases y with
  | non=>cases ry;exact PySem.EqNone.ne_int_none (ak I q (by simp))
  | int j=>obtain ⟨t',rfl⟩:=ry;exact ne_int (ak I q (congrArg not gS))
  | str j=>obtain ⟨t',rfl⟩:=ry;exact PySem.EqMixed.ne_int_str (ak I q (by simp))
  | _=>exact absurd (show false=true from hs) xAy
 | str i =>
  obtain ⟨t,rfl⟩:=rx
  cases y with
  | non=>cases ry;exact PySem.EqNone.ne_str_none (ak I q (by simp))
  | bl j=>cases ry;exact PySem.EqMixed.ne_str_bool (ak I q (by simp))
  | int j=>obtain ⟨t',rfl⟩:=ry;exact PySem.EqMixed.ne_str_int (ak I q (by simp))
  | str j=>obtain ⟨t',rfl⟩:=ry;exact ne_str (ak I q (congrArg not gR))
  | _=>exact absurd (show false=true from hs) xAy
 | byt i =>
  obtain ⟨t,rfl⟩:=rx
  cases y with
  | byt j=>obtain ⟨t',rfl⟩:=ry;exact PySem.W.ne_bytes (ak I q (congrArg not gT))
  | _=>exact absurd (show false=true from hs) xAy
 | _=>cases y <;> exact absurd (show false=true from hs) xAy
theorem i9:OpR X (compareOp .Lt) (rI0 fun i j=>.bl (decide (i<j))):=opB0 fun _ _ _ _ _ _ _ q=>lt_int q
theorem oS:OpR X (compareOp .Gt) (rI0 fun i j=>.bl (decide (j<i))):=opB0 fun _ _ _ _ _ _ _ q=>gt_int q
theorem mX:OpR X (compareOp .Is) (fun x y H Q=>y = .non∧Q (.bl (decide (x = .non))) H):=by
 intro pins s σ H x y v u Q I rx ry h
 obtain ⟨rfl,q⟩:=h
 cases ry
 refine is_none_gen (ak I q ?_)
 cases x <;> first
  | (cases rx;rfl)
  | (obtain ⟨t,rfl⟩:=rx;rfl)
theorem kA:OpR X (compareOp .IsNot) (fun x y H Q=>y = .non∧Q (.bl (!decide (x = .non))) H):=by
 intro pins s σ H x y v u Q I rx ry h
 obtain ⟨rfl,q⟩:=h
 cases ry
 refine isnot_none_gen (ak I q ?_)
 cases x <;> first
  | (cases rx;rfl)
  | (obtain ⟨t,rfl⟩:=rx;rfl)
theorem nomark (b:Expr) {op:CmpOp} (h:op≠.In:=by decide) (h2:op≠.NotIn:=by decide):behindInMarks op b=false:=by
 have e1:(op == CmpOp.In)=false:=by cases op <;> first | rfl | exact absurd rfl h
 have e2:(op == CmpOp.NotIn)=false:=by cases op <;> first | rfl | exact absurd rfl h2
 cases b <;> simp [behindInMarks,e1,e2]
theorem kr {op:CmpOp} {r:R2} (ho:OpR X (compareOp op) r) (ha:PE X a ta) (hb:PE X b tb) (hm:behindInMarks op b=false):PE X (.Compare a [op] [b] pos) (tOp r ta tb):=by
 intro pins s σ H Q I h
 exact wpAny_Compare1 (binT ha hb I h fun v u s2 x y H2 I2 rx ry q=>ho pins s2 σ H2 x y v u Q I2 rx ry q) hm
def tTest (t:TE):TT:=fun σ H Q=>t σ H fun x H'=>∃ k,x = .bl k∧Q k H'
theorem j6 {op:CmpOp} {r:R2} (ho:OpR X (compareOp op) r) (ha:PE X a ta) (hb:PE X b tb) (hm:behindInMarks op b=false):PT X (.Compare a [op] [b] pos) (tTest (tOp r ta tb)):=by
 intro pins s σ H Q I h
 refine wpAny_isTrue_Compare1 (thn (ha pins s σ H _ I h) fun v s1 ⟨x,H1,I1,r1,q1⟩=>thn (hb pins s1 σ H1 _ I1 q1) fun u s2 ⟨y,H2,I2,r2,q2⟩ =>
  thn (ho pins s2 σ H2 x y v u _ I2 r1 r2 q2) fun c s3 ⟨z,H3,I3,r3,k,e,q3⟩=>?_) hm
 subst e
 cases r3
 exact wpAny_truthy_bool ⟨H3,I3,q3⟩
theorem line63:(sizeLine:Nat)<2 ^ 63:=by rw [sizeLine_eq];decide
theorem vals1 {x:V} {us:List Value} (r:Vals [x] us):∃ u,us=[u]∧RelV x u:=by
 cases r with
 | cons r1 r2=>cases r2;exact ⟨_,rfl,r1⟩
theorem vals2 {x y:V} {us:List Value} (r:Vals [x,y] us):∃ u w',us=[u,w']∧RelV x u∧RelV y w':=by
 cases r with
 | cons r1 r2 =>
  cases r2 with
  | cons r3 r4=>cases r4;exact ⟨_,_,rfl,r1,r3⟩
def LenV (K:xFr) (x:V) (H:Hp) (n:Nat):Prop :=
 match x with
 | .str y=>y.length≤sizeLine∧n=y.length
 | .byt y=>y.size≤sizeLine∧n=y.size
 | .ref p=>(∃ xs,SqL K H p xs∧n=xs.length)∨∃ xs,SqT K H p xs∧n=xs.length
 | _=>False
theorem jC:CallR X (.builtin "len") (fun xs H Q=>∃ x n,xs=[x]∧LenV X.K x H n∧Q (.int n) H):=by
 intro pins s σ H xs us Q I r h
 obtain ⟨x,n,rfl,e,q⟩:=h
 obtain ⟨u,rfl,rx⟩:=vals1 r
 have hl:=line63
 have hs:sizeLine=16777216:=sizeLine_eq
 cases x with
 | str y =>
  obtain ⟨t,rfl⟩:=rx
  obtain ⟨hy,e'⟩:y.length≤sizeLine∧n=y.length:=e
  subst e'
  exact len_str (by omega) ⟨.int _,H,I.tok _,⟨_,rfl⟩,q⟩
 | byt y =>
  obtain ⟨t,rfl⟩:=rx
  obtain ⟨hy,e'⟩:y.size≤sizeLine∧n=y.size:=e
  subst e'
  exact PySem.W.len_bytes (by omega) ⟨.int _,H,I.tok _,⟨_,rfl⟩,q⟩
 | ref p =>
  cases rx
  have e':(∃ xs,SqL X.K H p xs∧n=xs.length)∨∃ xs,SqT X.K H p xs∧n=xs.length:=e
  rcases e' with ⟨xs,hx,e'⟩ | ⟨xs,hx,e'⟩
  ·subst e'
   obtain ⟨its,r',pl,hz⟩:=I.list hx
   have hlen:=r'.length
   exact Calls.call_len_list pl.isList (by simp only [xAp];omega) ⟨.int xs.length,H,I.tok _,⟨_,by simp only [xAp];rw [hlen]⟩,q⟩
  ·subst e'
   obtain ⟨its,r',pl,hz⟩:=I.tuple hx
   have hlen:=r'.length
   exact len_tuple pl (by simp only [xAp];omega) ⟨.int xs.length,H,I.tok _,⟨_,by simp only [xAp];rw [hlen]⟩,q⟩
 | _=>exact (show False from e).elim
end
end L2
namespace L2
open PySem PySem.Spec PyProof.Rows
structure ObjM (h:Heap) (x dx C:Addr) (mA:Str→Option Value):Prop where
 obj:h.get? x=some (PySem.W.instObj C dx)
 ns:h.Ns1 dx mA
 ne:dx≠x
theorem ie {h:Heap} {dx:Addr} {mA:Str→Option Value} (n:h.Ns1 dx mA):∃ od,h.get? dx=some od∧∀ name,PySem.W.lookIn name od=some (mA name):=by
 obtain ⟨o,es,ep,ho,hd,hk,_,hm⟩:=n
 refine ⟨o,ho,fun name=>?_⟩
 have e:=hm name
 unfold nsFind findBy at e
 rw [← Array.find?_toList] at e
 unfold PySem.W.lookIn
 rw [hd]
 dsimp only
 split
 ·rename_i y q
  rw [q] at e
  exact congrArg some e
 ·rename_i q
  rw [q] at e
  have a:es.toList.any (·.refKey)=false:=by
   rw [List.any_eq_false]
   intro y hy
   obtain ⟨z,t,hkey⟩:=hk y (Array.mem_toList_iff.mp hy)
   simp [DictEntry.refKey,hkey]
  have a':¬ es.toList.any (·.refKey)=true:=by rw [a];exact xAy
  rw [xCf a']
  exact congrArg some e
theorem ObjM.look {h:Heap} {x dx C:Addr} {mA:Str→Option Value} (I:ObjM h x dx C mA):∃ od,PySem.W.InstAt h x (PySem.W.instObj C dx) C (some od)∧∀ name,PySem.W.lookIn name od=some (mA name) :=
 let ⟨od,ho,hl⟩:=ie I.ns
 ⟨od,⟨I.obj,rfl,rfl,ho⟩,hl⟩
section
variable {prog:Program} {w:World} {A:Around} {E:Value→Shared→Prop} {s:Shared} {K:xFr} {x dx C f:Addr} {mA:Str→Option Value} {name:Str} {v:Value}
theorem kM {expr:Bool} {Q:Value→Shared→Prop} (X:K.In s.heap) (I:ObjM s.heap x dx C mA) (hg:PySem.W.plainGet K C name=true) (hh:PySem.W.hasDictIn K C=true)
  (ha:PySem.W.findIn K (.ref C) name=some none) (hv:mA name=some v) (hv':PySem.W.handedIn v=true) (h:Q v { s with toks:=s.toks+1 }) :
  wpAny (model prog w) A (getAttr (.ref x) name expr) Q E s:=by
 obtain ⟨od,J,hl⟩:=I.look
 exact PySem.W.get_value X J (PySem.W.plainGet_of hg).1 (PySem.W.findObj_own hh ha rfl (by rw [hl,hv])) hv' h
theorem jo {pl:Sem Bool} {Q:Value×List Value→Shared→Prop} (X:K.In s.heap) (I:ObjM s.heap x dx C mA) (hg:PySem.W.plainGet K C name=true)
  (hf:PySem.W.findIn K (.ref C) name=some (some (.ref f))) (ht:PySem.W.isFn K (.ref f)=true) (hv:mA name=none) (h:Q (.ref f,[.ref x]) s) :
  wpAny (model prog w) A (getMethod (.ref x) name pl) Q E s:=by
 obtain ⟨od,J,hl⟩:=I.look
 exact PySem.W.method_fn X J (PySem.W.plainGet_of hg).1 (PySem.W.plainGet_of hg).2 hf (beq_iff_eq.mp ht) (by show (PySem.W.lookIn name od).map (·.isSome)=some false;rw [hl,hv];rfl) h
theorem jM {ns:List Str} {Q:Unit→Shared→Prop} (X:K.In s.heap) (I:ObjM s.heap x dx C mA)
  (hs:PySem.W.findIn K (.ref C) "__setattr__"=some (some (.builtin "object.__setattr__"))) (hp:PySem.W.plainOver K C=true) (ht:PySem.W.takerIn K C name=some none) (hh:PySem.W.hasDictIn K C=true)
  (hw:PySem.Within mA ns) (hsz:ns.length≤sizeLine)
  (h:∀ h',ObjM h' x dx C (fun y=>if y=name then some v else mA y)→Heap.SameBut dx s.heap h'→Q () { s with heap:=h',toks:=s.toks+2 }) :
  wpAny (model prog w) A (setAttr (.ref x) name v) Q E s:=by
 obtain ⟨od,J,hl⟩:=I.look
 refine PySem.W.set_plain X J hs (PySem.W.osa_open (s:={ s with toks:=s.toks+1 }) (r:=none) X J hp ht fun b=>?_)
 obtain ⟨cd,hc,hd'⟩:=PySem.W.any_some hh
 have hx:s.heap.get? x=some ⟨.ref C,some dx,.plain,#[]⟩:=I.obj
 refine xAd (xAe (xAd (xAd (wpAny_loadPart hx (xAd (PySem.W.Looks.here (s:={ s with toks:=s.toks+1 }) (PySem.W.looks_clsIn X hc) ?_))))))
 rw [hd']
 refine xAe (a:=some dx) (xAd (xAe (xAd ?_)))
 refine wpAny_nsSet1 (s:={ s with toks:=s.toks+1 }) I.ns fun h' hn2 hs2=>?_
 obtain ⟨oD,esD,epD,hoD,hdD,hcD⟩:=hn2.count (PySem.Within.cons name v hw)
 refine xAd (wpAny_lookBehind hoD (by rw [hdD];exact pastItsLine_dict (Nat.le_trans hcD (by rw [xAo];omega))) ?_)
 exact xAe (h _ ⟨(hs2.2 _ (Ne.symm I.ne)).trans I.obj,hn2,I.ne⟩ hs2)
theorem jg {R:Result→Shared→Prop} {vs:List Value} {kw:List (Str×Value)} (X:K.In s.heap) (hm:PySem.W.makesIn K C=true)
  (hi:PySem.W.findIn K (.ref C) "__init__"=some (some (.ref f))) (hf:PySem.W.typeIn K (.ref f)=some (.type "function"))
  (h:codeAny (model prog w) (A.under (.builtin "type.__call__" ⟨.ref C::vs,kw⟩)) (.call (.ref f) ⟨.ref (s.heap.objs.size+1)::vs,kw⟩) (PySem.W.InitBack (s.heap.objs.size+1) R)
   { s with heap:=(s.heap.push PySem.W.emptyDict).push (PySem.W.instObj C s.heap.objs.size) }) :
  codeAny (model prog w) A (.call (.ref C) ⟨vs,kw⟩) R s:=by
 obtain ⟨hh,g,d,t,os⟩:=s
 exact PySem.W.make_core (PySem.W.makes_of X hm) (PySem.W.looks_findIn X hi) (fun self=>PySem.W.bind_fn X self hf) (.inl rfl) h
end
def putF (f:Str) (v:V):List (Str×V)→List (Str×V)
 | []=>[(f,v)]
 | (g,x)::r=>if g=f then (g,v)::r else (g,x)::putF f v r
theorem cZ (f g:Str) (v:V):∀ fs:List (Str×V),(putF f v fs).lookup g=if g=f then some v else fs.lookup g
 | []=>by
  show List.lookup g [(f,v)]=_
  by_cases h:g=f
  ·have hb:(g == f)=true:=beq_iff_eq.mpr h
   simp only [List.lookup,hb,xCg h]
  ·have hb:(g == f)=false:=beq_eq_false_iff_ne.mpr h
   simp only [List.lookup,hb,xCf h]
 | (k,x)::r=>by
  have ih:=cZ f g v r
  rw [show putF f v ((k,x)::r)=(if k=f then (k,v)::r else (k,x)::putF f v r) from rfl]
  by_cases hk:k=f
  ·rw [xCg hk]
   by_cases h:g=k
   ·have hb:(g == k)=true:=beq_iff_eq.mpr h
    simp only [List.lookup,hb,xCg (h.trans hk)]
   ·have hb:(g == k)=false:=beq_eq_false_iff_ne.mpr h
    simp only [List.lookup,hb,xCf (fun e:g=f=>h (e.trans hk.symm))]
  ·rw [xCf hk]
   by_cases h:g=k
   ·have hb:(g == k)=true:=beq_iff_eq.mpr h
    simp only [List.lookup,hb,xCf (fun e:g=f=>hk (h.symm.trans e))]
   ·have hb:(g == k)=false:=beq_eq_false_iff_ne.mpr h
    simp only [List.lookup,hb]
    exact ih
theorem cT (f:Str) (v:V):∀ fs:List (Str×V),f∈(putF f v fs).map (·.1)∧∀ g,g∈fs.map (·.1)→g∈(putF f v fs).map (·.1)
 | []=>⟨by simp [putF],fun g h=>by simp at h⟩
 | (k,x)::r=>by
  obtain ⟨i1,i2⟩:=cT f v r
  rw [show putF f v ((k,x)::r)=(if k=f then (k,v)::r else (k,x)::putF f v r) from rfl]
  by_cases hk:k=f
  ·rw [xCg hk]
   subst hk
   exact ⟨by simp,fun g h=>by simpa using h⟩
  ·rw [xCf hk]
   refine ⟨?_,fun g h=>?_⟩
   ·rw [xBs]
    exact xAs _ i1
   ·rw [xBs] at h ⊢
    rcases xAv.mp h with e | e
    ·exact xAv.mpr (.inl e)
    ·exact xAs _ (i2 g e)
theorem c0 (f:Str) (v:V):∀ fs:List (Str×V),(putF f v fs).length≤fs.length+1
 | []=>by simp [putF]
 | (k,x)::r=>by
  have ih:=c0 f v r
  rw [show putF f v ((k,x)::r)=(if k=f then (k,v)::r else (k,x)::putF f v r) from rfl]
  by_cases hk:k=f
  ·rw [xCg hk,xAo,xAo];omega
  ·rw [xCf hk,xAo,xAo];omega
theorem RelO.some_of {v:V} {o:Option Value} (r:RelO (some v) o):∃ u,o=some u∧RelV v u:=by
 cases o with
 | none=>exact (show False from r).elim
 | some u=>exact ⟨u,rfl,r⟩
theorem RelO.none_of {o:Option Value} (r:RelO none o):o=none:=by
 cases o with
 | none=>rfl
 | some u=>exact (show False from r).elim
theorem io {v:V} {u:Value} (r:RelV v u):PySem.W.handedIn u=true:=by
 cases v with
 | non=>cases (show u=Value.none from r);rfl
 | bl b=>cases (show u=Value.bool b from r);rfl
 | int i=>obtain ⟨t,e⟩:=(show ∃ t,u=Value.int i t from r);cases e;rfl
 | str x=>obtain ⟨t,e⟩:=(show ∃ t,u=Value.str x t from r);cases e;rfl
 | byt b=>obtain ⟨t,e⟩:=(show ∃ t,u=Value.bytes b t from r);cases e;rfl
 | flt b=>obtain ⟨t,e⟩:=(show ∃ t,u=Value.float b t from r);cases e;rfl
 | ref a=>cases (show u=Value.ref a from r);rfl
 | ty n=>cases (show u=Value.type n from r);rfl
section
variable {P:Program} {w:World} {H H':Hp} {h h':Heap} {a C dx:Addr} {fs fs':List (Str×V)}
theorem dh (hok:HOk P w H h) (e:H a=some (.ins C dx fs)):∃ mA,ObjM h a dx C mA∧(∀ f,RelO (fs.lookup f) (mA f))∧PySem.Within mA (fs.map (·.1))∧fs.length≤1000∧H dx=some (.own a):=by
 obtain ⟨d,z,ne,ob,mA,n,r,q⟩:=(show ObjOk P w H h a (.ins C dx fs) from hok a _ e)
 exact ⟨mA,⟨ob,n,ne⟩,r,q,z,d⟩
end
structure Cls (K:xFr) (C:Addr):Prop where
 pg:PySem.W.plainGet K C Str.empty=true
 hd:PySem.W.hasDictIn K C=true
 po:PySem.W.plainOver K C=true
 sa:PySem.W.findIn K (.ref C) "__setattr__"=some (some (.builtin "object.__setattr__"))
theorem Cls.get {K:xFr} {C:Addr} (c:Cls K C) (f:Str):PySem.W.plainGet K C f=true:=c.pg
def NoAttr (K:xFr) (C:Addr) (f:Str):Prop:=PySem.W.findIn K (.ref C) f=some none
theorem NoAttr.taker {K:xFr} {C:Addr} {f:Str} (n:NoAttr K C f):PySem.W.takerIn K C f=some none:=by
 unfold PySem.W.takerIn
 rw [show PySem.W.findIn K (.ref C) f=some none from n]
 rfl
structure Meth (K:xFr) (C:Addr) (m:Str) (f:Addr):Prop where
 at_:PySem.W.findIn K (.ref C) m=some (some (.ref f))
 fn:PySem.W.isFn K (.ref f)=true
 kp:PySem.W.keepIn K (.ref f)=true
section
variable {X:Cx} {pins:List (Addr×Obj)} {σ:St} {H:Hp} {s:Shared} {a C dx:Addr} {fs:List (Str×V)} {f:Str} {v:V} {A:Around} {E:Value→Shared→Prop}
theorem gk {b:Bool} {Q:Value→Shared→Prop} (I:Inv X pins σ H s) (e:H a=some (.ins C dx fs)) (c:Cls X.K C) (n:NoAttr X.K C f) (l:fs.lookup f=some v)
  (h:∀ u s',Inv X pins σ H s'→RelV v u→Q u s'):wpAny (model X.prog X.w) A (getAttr (.ref a) f b) Q E s:=by
 obtain ⟨mA,O,r,_,_,_⟩:=dh I.hok e
 obtain ⟨u,hu,ru⟩:=RelO.some_of (v:=v) (o:=mA f) (by rw [← l];exact r f)
 exact kM I.kIn O (c.get f) c.hd n hu (io ru) (h u _ (I.tok _) ru)
theorem dL {m:Str} {g:Addr} {pl:Sem Bool} {Q:Value×List Value→Shared→Prop} (I:Inv X pins σ H s) (e:H a=some (.ins C dx fs)) (c:Cls X.K C) (k:Meth X.K C m g) (l:fs.lookup m=none)
  (h:Q (.ref g,[.ref a]) s):wpAny (model X.prog X.w) A (getMethod (.ref a) m pl) Q E s:=by
 obtain ⟨mA,O,r,_,_,_⟩:=dh I.hok e
 have hn:mA m=none:=RelO.none_of (by rw [← l];exact r m)
 exact jo I.kIn O (c.get m) k.at_ k.fn hn h
theorem fT {y:V} {u:Value} {Q:Unit→Shared→Prop} (I:Inv X pins σ H s) (e:H a=some (.ins C dx fs)) (c:Cls X.K C) (n:NoAttr X.K C f) (hl:fs.length<1000) (ry:RelV y u)
  (h:∀ s',Inv X pins σ (upd H a (.ins C dx (putF f y fs))) s'→Q () s'):wpAny (model X.prog X.w) A (setAttr (.ref a) f u) Q E s:=by
 obtain ⟨mA,O,r,wi,_,ho⟩:=dh I.hok e
 have hz:(fs.map (·.1)).length≤sizeLine:=by rw [xAa,sizeLine_eq];omega
 refine jM I.kIn O c.sa c.po n.taker c.hd wi hz fun h' O' sb=>h _ ?_
 have hd:∃ o,h'.get? dx=some o:=let ⟨o,_,_,e',_⟩:=O'.ns;⟨o,e'⟩
 refine I.write (x:=a) (e:=dx) (by rw [e];exact True.intro) (.inr ho) (fun b q hb z=>(sb.2 b hb).trans z) hd ?_
 refine ⟨by rw [ag O.ne];exact ho,?_,O.ne,O'.obj,_,O'.ns,fun g=>?_,fun g hg=>?_⟩
 ·have:=c0 f y fs;omega
 ·show RelO ((putF f y fs).lookup g) (if g=f then some u else mA g)
  rw [cZ]
  by_cases q:g=f
  ·rw [xCg q,xCg q];exact ry
  ·rw [xCf q,xCf q];exact r g
 ·by_cases q:g=f
  ·rw [q];exact (cT f y fs).1
  ·refine (cT f y fs).2 g (wi g fun z=>hg ?_)
   show (if g=f then some u else mA g)=none
   rw [xCf q];exact z
theorem Inv.made (I:Inv X pins σ H s):Inv X pins σ (upd (upd H s.heap.objs.size (.own (s.heap.objs.size+1))) (s.heap.objs.size+1) (.ins C s.heap.objs.size []))
  { s with heap:=(s.heap.push PySem.W.emptyDict).push (PySem.W.instObj C s.heap.objs.size) }:=by
 have e1:(s.heap.push PySem.W.emptyDict).get? s.heap.objs.size=some PySem.W.emptyDict:=xAl s.heap rfl
 have e2:((s.heap.push PySem.W.emptyDict).push (PySem.W.instObj C s.heap.objs.size)).get? (s.heap.objs.size+1)=some (PySem.W.instObj C s.heap.objs.size):=by
  have:=xAl (s.heap.push PySem.W.emptyDict) (o:=PySem.W.instObj C s.heap.objs.size) rfl
  rwa [Heap.size_push] at this
 have e3:(s.heap.push PySem.W.emptyDict).Ns s.heap.objs.size (fun _=>none):=⟨PySem.W.emptyDict,#[],_,e1,rfl,(fun e he=>absurd he (by simp)),fun _=>rfl⟩
 have I1:=I.laid (a:=s.heap.objs.size) (o:=.own (s.heap.objs.size+1)) (h':=s.heap.push PySem.W.emptyDict) (t':=s.toks) (fun b u q=>xAf _ q) (xAg _) ⟨_,e1⟩
 refine I1.laid (a:=s.heap.objs.size+1) (o:=.ins C s.heap.objs.size []) (t':=s.toks) (fun b u q=>xAf _ q) (Nat.le_of_eq (Heap.size_push _ _)) ?_
 have ne:s.heap.objs.size≠s.heap.objs.size+1:=xA0 (Nat.lt_succ_self _)
 refine ⟨by rw [ag ne,ac],xBn _,ne,e2,fun _=>none,(Heap.Ns1.of_empty e3).at fun o q=>xAf _ q,fun _=>True.intro,fun y hy=>absurd rfl hy⟩
theorem kS {prog:Program} {w:World} {env:Env} {e:Expr} {f:Str} {pos:Pos} {s:Shared} {Q:Value→Shared→Prop} (hb:attributeBase e f env (eval e env)=eval e env)
  (h:wpAny (model prog w) A (eval e env) (fun o s₁=>wpAny (model prog w) A (getAttr o f true) Q E s₁) E s):wpAny (model prog w) A (eval (.Attribute e f pos) env) Q E s :=
 Attribute_any_ h (by rw [arm_eval_Attribute,hb])
end
def tFld (K:xFr) (ta:TE) (f:Str):TE:=fun σ H Q=>ta σ H fun x H1=>∃ a C dx fs v,x = .ref a∧H1 a=some (.ins C dx fs)∧Cls K C∧NoAttr K C f∧fs.lookup f=some v∧Q v H1
def sFld (K:xFr) (ta tv:TE) (f:Str):TS:=fun D σ H=>tv σ H fun y H1=>ta σ H1 fun x H2=>∃ a C dx fs,x = .ref a∧H2 a=some (.ins C dx fs)∧Cls K C∧NoAttr K C f∧fs.length<1000 ∧
 D.nx σ (upd H2 a (.ins C dx (putF f y fs)))
section
variable {X:Cx} {o e value:Expr} {f:Str} {pos pos' tpos:Pos} {ta tv:TE}
theorem mQ (he:PE X e ta) (hb:attributeBase e f X.env (eval e X.env)=eval e X.env):PE X (.Attribute e f pos) (tFld X.K ta f):=by
 intro pins s σ H Q I h
 refine kS hb (thn (he pins s σ H _ I h) fun u s1 ⟨x,H1,I1,rx,a,C,dx,fs,v,ex,ea,c,n,l,q⟩=>?_)
 subst ex
 obtain rfl:u=Value.ref a:=rx
 exact gk I1 ea c n l fun u' s2 I2 ru=>⟨v,H1,I2,ru,q⟩
theorem mB (ha:PE X o ta) (hv:PE X value tv) (hs:swapsWith value (some (.Attribute o f pos')) pos.line X.env=pure false):PS X (.Assign [.Attribute o f pos'] value pos) (sFld X.K ta tv f):=by
 intro pins s σ H D I h
 refine plainObj_wpAny_Assign_Attribute (thn (hv pins s σ H _ I h) fun u s1 ⟨y,H1,I1,ry,q⟩=>thn (ha pins s1 σ H1 _ I1 q) fun ov s2 ⟨x,H2,I2,rx,a,C,dx,fs,ex,ea,c,n,l,q2⟩=>?_) hs
 subst ex
 obtain rfl:ov=Value.ref a:=rx
 exact fT I2 ea c n l ry fun s3 I3=>⟨σ,_,I3,q2⟩
end
section
variable {X:Cx} {pins:List (Addr×Obj)} {σ:St} {H:Hp} {s:Shared} {A:Around} {E:Value→Shared→Prop} {Q:Value→Shared→Prop} {c:Value} {b:Bool}
inductive TyOf (K:xFr) (H:Hp):V→Value→Prop where
 | non:TyOf K H .non (.type "NoneType")
 | bl (x:Bool):TyOf K H (.bl x) (.type "bool")
 | int (i:Int):TyOf K H (.int i) (.type "int")
 | str (x:Str):TyOf K H (.str x) (.type "str")
 | flt (x:UInt64):TyOf K H (.flt x) (.type "float")
 | lst {a:Addr} {xs:List V} (e:H a=some (.lst xs)):TyOf K H (.ref a) (.type "list")
 | frz {a:Addr} {o:Obj} {xs:List V} (e:H a=some (.frz o (.lst xs))):TyOf K H (.ref a) (.type "list")
 | tup {a:Addr} {xs:List V} (e:H a=some (.tup xs)):TyOf K H (.ref a) (.type "tuple")
 | dK {a:Addr} {kvs:List (Key×V)} (e:H a=some (.dK kvs)):TyOf K H (.ref a) (.type "dict")
 | dT {a:Addr} {kvs:List (List Key×V)} (e:H a=some (.dT kvs)):TyOf K H (.ref a) (.type "dict")
 | ins {a C dx:Addr} {fs:List (Str×V)} (e:H a=some (.ins C dx fs)) (cl:Cls K C) (ha:PySem.W.findIn K (.ref C) "__class__"=some (some (.builtin "object.__class__")))
   (hn:PySem.W.specialIn K (.builtin "object.__class__") "__get__"=some (some (.builtin "getset_descriptor.__get__"))) (htk:PySem.W.takesIn K (.builtin "object.__class__")=some true)
   (hm:PySem.W.mroIn K C (.type "object")=some true):TyOf K H (.ref a) (.ref C)
theorem ij {x:V} {u t:Value} (I:Inv X pins σ H s) (rx:RelV x u) (ty:TyOf X.K H x t) (e:PySem.W.kitOne X.K t c=some b) (h:∀ tk,Q (.bool b) { s with toks:=tk }) :
  wpAny (model X.prog X.w) A (call (.builtin "isinstance") [u,c]) Q E s:=by
 cases ty with
 | non=>cases (show u=Value.none from rx);exact PySem.W.kia_one PySem.W.kitx_none I.kIn True.intro e (fun z=>nomatch z) h
 | bl y=>cases (show u=Value.bool y from rx);exact PySem.W.kia_one PySem.W.kitx_bool I.kIn True.intro e (fun z=>nomatch z) h
 | int i=>obtain ⟨t,q⟩:=(show ∃ t,u=Value.int i t from rx);cases q;exact PySem.W.kia_one PySem.W.kitx_int I.kIn True.intro e (fun z=>nomatch z) h
 | str y=>obtain ⟨t,q⟩:=(show ∃ t,u=Value.str y t from rx);cases q;exact PySem.W.kia_one PySem.W.kitx_str I.kIn True.intro e (fun z=>nomatch z) h
 | flt y=>obtain ⟨t,q⟩:=(show ∃ t,u=Value.float y t from rx);cases q;exact PySem.W.kia_one PySem.W.kitx_float I.kIn True.intro e (fun z=>nomatch z) h
 | @lst a xs ea =>
  cases (show u=Value.ref a from rx)
  obtain ⟨_,_,n,_,h1⟩:=(show ObjOk X.prog X.w H s.heap a (.lst xs) from I.hok a _ ea)
  exact PySem.W.kia_one PySem.W.kitx_list I.kIn ⟨_,h1,rfl⟩ e (fun z=>nomatch z) h
 | @frz a ob xs ea =>
  cases (show u=Value.ref a from rx)
  obtain ⟨_,_,_,n,_,h1⟩:=(show ObjOk X.prog X.w H s.heap a (.frz ob (.lst xs)) from I.hok a _ ea)
  exact PySem.W.kia_one PySem.W.kitx_list I.kIn ⟨_,h1,rfl⟩ e (fun z=>nomatch z) h
 | @tup a xs ea =>
  cases (show u=Value.ref a from rx)
  obtain ⟨_,_,_,p⟩:=(show ObjOk X.prog X.w H s.heap a (.tup xs) from I.hok a _ ea)
  obtain ⟨o,h1,h2,_⟩:=p
  exact PySem.W.kia_one PySem.W.kitx_tuple I.kIn ⟨o,h1,h2⟩ e (fun z=>nomatch z) h
 | @dK a kvs ea =>
  cases (show u=Value.ref a from rx)
  obtain ⟨_,_,vs,_,p⟩:=(show ObjOk X.prog X.w H s.heap a (.dK kvs) from I.hok a _ ea)
  obtain ⟨o,es,ep,h1,h2,_⟩:=p
  exact PySem.W.kia_one PySem.W.kitx_dict I.kIn ⟨o,h1,h2.1⟩ e (fun z=>nomatch z) h
 | @dT a kvs ea =>
  cases (show u=Value.ref a from rx)
  obtain ⟨_,_,xs,_,o,es,ep,h1,h2,_⟩:=(show ObjOk X.prog X.w H s.heap a (.dT kvs) from I.hok a _ ea)
  exact PySem.W.kia_one PySem.W.kitx_dict I.kIn ⟨o,h1,h2.1⟩ e (fun z=>nomatch z) h
 | @ins a C dx fs ea cl ha hn htk hm =>
  cases (show u=Value.ref a from rx)
  obtain ⟨mA,O,_⟩:=dh I.hok ea
  obtain ⟨od,J,_⟩:=O.look
  exact PySem.W.kia_one (PySem.W.kitx_own (cl.get _) cl.hd ha hn htk hm) I.kIn J e (fun z=>nomatch z) h
end
end L2
namespace L2
open PySem PySem.Spec PyProof.Rows
structure Room (k:Nat) (A:Around):Prop where
 hd:A.handled=none
 dp:A.depth+3 * k+5<recursionLimit
 un:A.units+16 * k+200<cLine
 gd:A.guards=some []
theorem Room.mono {j k:Nat} {A:Around} (r:Room k A) (h:j≤k):Room j A:=⟨r.hd,by have:=r.dp;omega,by have:=r.un;omega,r.gd⟩
theorem Room.deeper {k:Nat} {A:Around} (r:Room (k+1) A) (env:Env):Room k (A.deeper env) :=
 ⟨r.hd,by have:=r.dp;show A.depth+1+3 * k+5<_;omega,by have:=r.un;show A.units+3+16 * k+200<_;omega,r.gd⟩
theorem gf {A:Around} {C:Addr} {us:List Value} {kw:List (Str×Value)}:(A.under (.builtin "type.__call__" ⟨.ref C::us,kw⟩)).depth=A.depth+1:=by
 first | rfl | simp [Around.under,Code.weight,Code.isCreation,Code.isGuard,Code.isCaller,Code.frames,Code.isFrame,guardIds]
theorem ge {A:Around} {C:Addr} {us:List Value} {kw:List (Str×Value)}:(A.under (.builtin "type.__call__" ⟨.ref C::us,kw⟩)).units=A.units+1:=by
 first | rfl | simp [Around.under,Code.cUnits,Code.frames,Code.isFrame]
theorem fE {A:Around} {C:Addr} {us:List Value} {kw:List (Str×Value)}:(A.under (.builtin "type.__call__" ⟨.ref C::us,kw⟩)).guards=A.guards:=by
 first | rfl | simp [Around.under,Code.weight,Code.isCreation,Code.isGuard,Code.isCaller,Code.frames,Code.isFrame,guardIds]
theorem Room.make {k:Nat} {A:Around} (r:Room (k+1) A) (C:Addr) (us:List Value) (kw:List (Str×Value)):Room k (A.under (.builtin "type.__call__" ⟨.ref C::us,kw⟩)) :=
 ⟨r.hd,by have:=r.dp;rw [gf];omega,by have:=r.un;rw [ge];omega,fE.trans r.gd⟩
theorem Room.depth {k:Nat} {A:Around} (r:Room k A):A.depth<recursionLimit:=by have:=r.dp;omega
theorem Room.units {k:Nat} {A:Around} (r:Room k A):A.units+64<cLine:=by have:=r.un;omega
theorem Room.units0 {k:Nat} {A:Around} (r:Room k A):A.units<cLine:=by have:=r.un;omega
def tNil:TA:=fun _ H Q=>Q [] H
def tCons (ta:TE) (tr:TA):TA:=fun σ H Q=>ta σ H fun x H1=>tr σ H1 fun xs H2=>Q (x::xs) H2
section
variable {X:Cx} {e:Expr} {es:List Expr} {te:TE} {t:TA} {pos:Pos}
theorem mW:PA X [] tNil:=fun _ _ _ _ H Q I h=>Calls.spliced_nil ⟨[],H,I,.nil,h⟩
theorem ky (ha:PE X e te) (hr:PA X es t) (hs:starEach (e::es) X.env=(false,eval e X.env)::starEach es X.env:=by rfl):PA X (e::es) (tCons te t):=by
 intro pos pins s σ H Q I h
 rw [hs]
 show wpAny _ _ (spliced ((false,eval e X.env)::backTo pos (starEach es X.env))) _ _ s
 refine Calls.spliced_cons (thn (ha pins s σ H _ I h) fun u s1 ⟨x,H1,I1,r1,q1⟩=>?_)
 exact thn (hr pos pins s1 σ H1 _ I1 q1) fun us s2 ⟨xs,H2,I2,r2,q2⟩=>⟨x::xs,H2,I2,.cons r1 r2,q2⟩
def tTup (t:TA):TE:=fun σ H Q=>t σ H fun xs H1=>xs.length≤sizeLine∧∀ p,H1 p=none→Q (.ref p) (upd H1 p (.tup xs))
def tLst (t:TA):TE:=fun σ H Q=>t σ H fun xs H1=>xs.length≤sizeLine∧∀ p,H1 p=none→Q (.ref p) (upd H1 p (.lst xs))
theorem mI {x1} (h:PA X es t):PE X (.Tuple es x1 pos) (tTup t):=by
 intro pins s σ H Q I hq
 refine wpAny_Tuple_spliced (thn (h pos pins s σ H _ I hq) fun us s1 ⟨xs,H1,I1,r,z,q⟩=>⟨by rw [← r.length];exact z,?_⟩)
 have hf:H1 s1.heap.objs.size=none:=I1.hok.fresh (xAg _)
 refine ⟨.ref s1.heap.objs.size,upd H1 s1.heap.objs.size (.tup xs),I1.laid (t':=s1.toks) (fun b u e=>xAf _ e) (xAg _) ?_,rfl,q _ hf⟩
 exact ⟨z,us,r,⟨_,xAl _ rfl,rfl,_,rfl⟩⟩
theorem mN (h:PA X es t):PE X (.List es pos) (tLst t):=by
 intro pins s σ H Q I hq
 refine wpAny_List_spliced (thn (h pos pins s σ H _ I hq) fun us s1 ⟨xs,H1,I1,r,z,q⟩=>⟨by rw [← r.length];exact z,?_⟩)
 have hf:H1 s1.heap.objs.size=none:=I1.hok.fresh (xAg _)
 refine ⟨.ref s1.heap.objs.size,upd H1 s1.heap.objs.size (.lst xs),I1.laid (t':=s1.toks) (fun b u e=>xAf _ e) (xAg _) ?_,rfl,q _ hf⟩
 exact ⟨z,us,0,r,xAl _ rfl⟩
end
abbrev Sp:=List V→Hp→VK→XK→Prop
abbrev CXT:=List Env→Hp→Shared→XK→Value→Shared→Prop
structure Env0 (P:Program) (w:World) (K:xFr) (mg:Str→Option Value) (base:Heap) (A:Around) (outer:List Env) (s:Shared) (H:Hp):Prop where
 frames:A.frames=some outer
 mod:Mod K mg base
 bs:∀ b o,base.get? b=some o→s.heap.get? b=some o∧H b=none
 bsz:base.objs.size≤s.heap.objs.size
 funs:s.heap.FunFrames base outer
 frf:∀ b∈frs outer,H b=none
 hok:HOk P w H s.heap
 bare:AllBare s.gens
def CE (outer:List Env) (P:Program) (w:World) (H:Hp) (s:Shared) (Q:VK) (u:Value) (s':Shared):Prop :=
 ∃ v H',s'.os=s.os∧AllBare s'.gens∧Un (frs outer) [] H H' s.heap s'.heap∧HOk P w H' s'.heap∧RelV v u∧Q v H'
def CR (CX:CXT) (outer:List Env) (P:Program) (w:World) (H:Hp) (s:Shared) (Q:VK) (E:XK) (r:Result) (s':Shared):Prop :=
 match r with
 | .ok (.ret u)=>CE outer P w H s Q u s'
 | .ok _=>False
 | .error e=>CX outer H s E e s'
structure FnOk (P:Program) (w:World) (K:xFr) (mg:Str→Option Value) (base:Heap) (CX:CXT) (k:Nat) (f:Addr) (fd:FuncData) (ps:List Str) (sp:Sp):Prop where
 len:∀ vs H Q E,sp vs H Q E→vs.length=ps.length
 run:∀ (A:Around) (outer:List Env) (s:Shared) (H:Hp) (args:Args) (us:List Value) (vs:List V) (Q:VK) (E:XK),Room k A→Env0 P w K mg base A outer s H→BindsTo s fd args (ps.zip us)→Vals vs us→sp vs H Q E →
  codeAny (model P w) A (.call (.ref f) args) (CR CX outer P w H s Q E) s
theorem Env0.make {P:Program} {w:World} {K:xFr} {mg:Str→Option Value} {base:Heap} {A:Around} {outer:List Env} {s:Shared} {H:Hp} (e:Env0 P w K mg base A outer s H) (C:Addr) (us:List Value) (kw:List (Str×Value)) :
  Env0 P w K mg base (A.under (.builtin "type.__call__" ⟨.ref C::us,kw⟩)) outer s H:=⟨by first | exact e.frames | (simpa [Around.under,Code.envs,Code.isFrame,pushEnvs] using e.frames),e.mod,e.bs,e.bsz,e.funs,e.frf,e.hok,e.bare⟩
section
variable {X:Cx} {pins:List (Addr×Obj)} {σ:St} {H:Hp} {s s':Shared}
theorem Inv.env0 (I:Inv X pins σ H s):Env0 X.prog X.w X.K X.mg X.base X.A X.stack s H :=
 ⟨I.ok.frames,I.ok.mod,I.bs,Nat.le_trans I.ok.bsz I.sz,I.stack,I.stkFree,I.hok,I.bare⟩
theorem Inv.after {Q:VK} {u:Value} (I:Inv X pins σ H s) (h:CE X.stack X.prog X.w H s Q u s'):EP X pins σ Q u s':=by
 obtain ⟨v,H',os,bare,un,hok,r,q⟩:=h
 obtain ⟨hh,g,d,t,os'⟩:=s'
 obtain rfl:os'=s.os:=os
 exact ⟨v,H',I.call (h':=hh) (g':=g) (d':=d) (t':=t) (ch:=[]) un hok bare (fun b z=>absurd z (by simp)),r,q⟩
end
def tCall (sp:Sp) (dvs:List V) (E:XK) (t:TA):TE:=fun σ H Q=>t σ H fun vs H1=>sp (vs++dvs) H1 Q E
def tMeth (C:Addr) (m:Str) (sp:Sp) (dvs:List V) (E:XK) (ta:TE) (t:TA):TE:=fun σ H Q=>ta σ H fun x H1=>∃ a dx fs,x = .ref a∧H1 a=some (.ins C dx fs)∧fs.lookup m=none ∧
 t σ H1 fun vs H2=>sp (x::(vs++dvs)) H2 Q E
def tMake (C:Addr) (sp:Sp) (dvs:List V) (E:XK) (t:TA):TE:=fun σ H Q=>t σ H fun vs H1=>∀ x dx,H1 x=none→H1 dx=none→dx≠x →
 sp (.ref x::(vs++dvs)) (upd (upd H1 dx (.own x)) x (.ins C dx [])) (fun v H2=>v = .non∧Q (.ref x) H2) E
def Binds (K:xFr) (fd:FuncData) (ps:List Str) (ds:List Value):Prop :=
 ∀ (s:Shared) (us:List Value),K.In s.heap→(us++ds).length=ps.length→BindsTo s fd ⟨us,[]⟩ (ps.zip (us++ds))
theorem Binds.all {K:xFr} {fd:FuncData} {ps:List Str} (h:∀ us:List Value,us.length=ps.length→bindArgs fd ⟨us,[]⟩=pure (ps.zip us)):Binds K fd ps []:=fun s us _ hl=>by
 rw [xB0] at hl ⊢
 exact .of_eq (h us hl)
def Passes (CX:CXT) (X:Cx) (E:XK):Prop:=∀ (pins:List (Addr×Obj)) (σ:St) (H:Hp) (s:Shared) (e:Value) (s':Shared),Inv X pins σ H s→CX X.stack H s E e s'→X.xe e s'
section
variable {X:Cx} {CX:CXT} {k:Nat} {f C:Addr} {fd:FuncData} {ps:List Str} {sp:Sp} {dvs:List V} {ds:List Value} {E:XK} {x m:Str} {p pos apos:Pos} {e o:Expr} {es:List Expr} {ta:TE} {t:TA}
theorem fU {pins:List (Addr×Obj)} {σ:St} {H:Hp} {s:Shared} {Q:VK} {us:List Value} {vs:List V} (F:FnOk X.prog X.w X.K X.mg X.base CX k f fd ps sp) (hr:Room k X.A) (hb:Binds X.K fd ps ds) (hd:Vals dvs ds) (hx:Passes CX X E)
  (I:Inv X pins σ H s) (r:Vals vs us) (h:sp (vs++dvs) H Q E):wpAny (model X.prog X.w) X.A (call (.ref f) us) (EP X pins σ Q) X.xe s:=by
 have r2:Vals (vs++dvs) (us++ds):=r.append hd
 have hl:(us++ds).length=ps.length:=by rw [← r2.length];exact F.len _ _ _ _ h
 refine wpAny_call (codeAny_mono (F.run X.A X.stack s H ⟨us,[]⟩ (us++ds) (vs++dvs) Q E hr I.env0 (hb s us I.kIn hl) r2 h) fun r s' hq=>?_)
 cases r with
 | error e=>exact hx pins σ H s e s' I hq
 | ok fl =>
  cases fl with
  | ret u=>exact I.after hq
  | next=>exact False.elim hq
  | brk=>exact False.elim hq
  | cont=>exact False.elim hq
theorem kt (F:FnOk X.prog X.w X.K X.mg X.base CX k f fd ps sp) (hr:Room k X.A) (hg:Gl X x) (hm:X.mg x=some (.ref f)) (hk:PySem.W.keepIn X.K (.ref f)=true) (hb:Binds X.K fd ps ds) (hd:Vals dvs ds) (hx:Passes CX X E)
  (ha:PA X (e::es) t) (hdb:(x == ("__debug__":Str))=false:=by decide) (he:starEach (e::es) X.env=(false,eval e X.env)::starEach es X.env:=by rfl) (hpl:(backTo pos (starEach es X.env)).any (·.1)=false:=by rfl) :
  PE X (.Call (.Name x p) (e::es) [] pos) (tCall sp dvs E t):=by
 intro pins s σ H Q I h
 refine wpAny_Call_Name_kw (eQ I hg hm ?_ hdb)
 refine PySem.W.callWith_K (h₀:=X.base) I.ok.mod.kin hk (thn (ha pos pins s σ H _ I h) fun us s1 ⟨vs,H1,I1,r,q⟩=>⟨I1.kIn,?_⟩) he hpl
 exact fU F hr hb hd hx I1 r q
theorem kl {pl:Sem Bool} (he:PE X o ta) (c:Cls X.K C) (hm:Meth X.K C m f) (F:FnOk X.prog X.w X.K X.mg X.base CX k f fd ps sp) (hr:Room k X.A) (hb:Binds X.K fd ps ds) (hd:Vals dvs ds) (hx:Passes CX X E) (ha:PA X (e::es) t)
  (hst:starEach (e::es) X.env=(false,eval e X.env)::starEach es X.env:=by rfl) (hpl:(backTo pos (starEach es X.env)).any (·.1)=false:=by rfl)
  (ht:eval (.Call (.Attribute o m apos) (e::es) [] pos) X.env=(do
   let ov ← eval o X.env
   standAt apos.atName
   let (f,first) ← holding [ov] (getMethod ov m pl)
   callWith pos f first (backTo pos (starEach (e::es) X.env)) (backToKw pos (keywordEach [] X.env))):=by rfl) :
  PE X (.Call (.Attribute o m apos) (e::es) [] pos) (tMeth C m sp dvs E ta t):=by
 intro pins s σ H Q I h
 refine PySem.W.methodCall_KW (pl:=pl) (thn (he pins s σ H _ I h) fun u s1 ⟨x,H1,I1,rx,a,dx,fs,ex,ea,l,q⟩=>?_) ht
 subst ex
 obtain rfl:u=Value.ref a:=rx
 refine dL I1 ea c hm l ?_
 refine PySem.W.callWith_K (first:=[.ref a]) (h₀:=X.base) I.ok.mod.kin hm.kp (thn (ha pos pins s1 σ H1 _ I1 q) fun us s2 ⟨vs,H2,I2,r,q2⟩=>⟨I2.kIn,?_⟩) hst hpl
 exact fU (us:=.ref a::us) (vs:=.ref a::vs) F hr hb hd hx I2 (.cons rfl r) q2
theorem iZ {pl:Sem Bool} (he:PE X o ta) (c:Cls X.K C) (hm:Meth X.K C m f) (F:FnOk X.prog X.w X.K X.mg X.base CX k f fd ps sp) (hr:Room k X.A) (hb:Binds X.K fd ps ds) (hd:Vals dvs ds) (hx:Passes CX X E)
  (ht:eval (.Call (.Attribute o m apos) [] [] pos) X.env=(do
   let ov ← eval o X.env
   standAt apos.atName
   let (f,first) ← holding [ov] (getMethod ov m pl)
   callWith pos f first (backTo pos (starEach [] X.env)) (backToKw pos (keywordEach [] X.env))):=by rfl) :
  PE X (.Call (.Attribute o m apos) [] [] pos) (tMeth C m sp dvs E ta tNil):=by
 intro pins s σ H Q I h
 refine PySem.W.methodCall_KW (pl:=pl) (thn (he pins s σ H _ I h) fun u s1 ⟨x,H1,I1,rx,a,dx,fs,ex,ea,l,q⟩=>?_) ht
 subst ex
 obtain rfl:u=Value.ref a:=rx
 refine dL I1 ea c hm l ?_
 exact PySem.W.callWith_K0 (first:=[.ref a]) I1.kIn hm.kp (fU (us:=[.ref a]) (vs:=[.ref a]) F hr hb hd hx I1 (.cons rfl .nil) q)
structure Mk (K:xFr) (C f:Addr):Prop where
 makes:PySem.W.makesIn K C=true
 init:PySem.W.findIn K (.ref C) "__init__"=some (some (.ref f))
 fn:PySem.W.isFn K (.ref f)=true
 kp:PySem.W.keepIn K (.ref C)=true
theorem fc {pins:List (Addr×Obj)} {σ:St} {H:Hp} {s:Shared} {Q:VK} {us:List Value} {vs:List V} (M:Mk X.K C f) (F:FnOk X.prog X.w X.K X.mg X.base CX k f fd ps sp) (hr:Room (k+1) X.A) (hb:Binds X.K fd ps ds) (hd:Vals dvs ds)
  (hx:Passes CX X E) (I:Inv X pins σ H s) (r:Vals vs us)
  (h:∀ x dx,H x=none→H dx=none→dx≠x→sp (.ref x::(vs++dvs)) (upd (upd H dx (.own x)) x (.ins C dx [])) (fun v H2=>v = .non∧Q (.ref x) H2) E) :
  wpAny (model X.prog X.w) X.A (call (.ref C) us) (EP X pins σ Q) X.xe s:=by
 have hq:=h (s.heap.objs.size+1) s.heap.objs.size (I.hok.fresh (Nat.le_succ _)) (I.hok.fresh (xAg _)) (xA0 (Nat.lt_succ_self _))
 have I2:=Inv.made (C:=C) I
 have r2:Vals (V.ref (s.heap.objs.size+1)::(vs++dvs)) (Value.ref (s.heap.objs.size+1)::(us++ds)):=.cons rfl (r.append hd)
 have hl:(Value.ref (s.heap.objs.size+1)::us++ds).length=ps.length:=by
  have e:=r2.length
  rw [F.len _ _ _ _ hq] at e
  exact e.symm
 refine wpAny_call (jg (f:=f) I.kIn M.makes M.init (beq_iff_eq.mp M.fn) (codeAny_mono (F.run _ X.stack _ _ ⟨Value.ref (s.heap.objs.size+1)::us,[]⟩ (Value.ref (s.heap.objs.size+1)::(us++ds)) _ _ E (hr.make C us [])
  (I2.env0.make C us []) (hb _ (Value.ref (s.heap.objs.size+1)::us) I2.kIn hl) r2 hq) fun r s' hq'=>?_))
 cases r with
 | error e=>exact hx pins σ _ _ e s' I2 hq'
 | ok fl =>
  cases fl with
  | ret u =>
   obtain ⟨v,H',I3,rv,ev,q3⟩:=I2.after hq'
   subst ev
   exact ⟨rv,⟨V.ref (s.heap.objs.size+1),H',I3,rfl,q3⟩⟩
  | next=>exact False.elim hq'
  | brk=>exact False.elim hq'
  | cont=>exact False.elim hq'
theorem km (M:Mk X.K C f) (F:FnOk X.prog X.w X.K X.mg X.base CX k f fd ps sp) (hr:Room (k+1) X.A) (hg:Gl X x) (hm:X.mg x=some (.ref C)) (hb:Binds X.K fd ps ds) (hd:Vals dvs ds) (hx:Passes CX X E)
  (ha:PA X (e::es) t) (hdb:(x == ("__debug__":Str))=false:=by decide) (he:starEach (e::es) X.env=(false,eval e X.env)::starEach es X.env:=by rfl) (hpl:(backTo pos (starEach es X.env)).any (·.1)=false:=by rfl) :
  PE X (.Call (.Name x p) (e::es) [] pos) (tMake C sp dvs E t):=by
 intro pins s σ H Q I h
 refine wpAny_Call_Name_kw (eQ I hg hm ?_ hdb)
 refine PySem.W.callWith_K (h₀:=X.base) I.ok.mod.kin M.kp (thn (ha pos pins s σ H _ I h) fun us s1 ⟨vs,H1,I1,r,q⟩=>⟨I1.kIn,?_⟩) he hpl
 exact fc M F hr hb hd hx I1 r q
theorem i3 (M:Mk X.K C f) (F:FnOk X.prog X.w X.K X.mg X.base CX k f fd ps sp) (hr:Room (k+1) X.A) (hg:Gl X x) (hm:X.mg x=some (.ref C)) (hb:Binds X.K fd ps ds) (hd:Vals dvs ds) (hx:Passes CX X E)
  (hdb:(x == ("__debug__":Str))=false:=by decide):PE X (.Call (.Name x p) [] [] pos) (tMake C sp dvs E tNil):=by
 intro pins s σ H Q I h
 refine wpAny_Call_Name_kw (eQ I hg hm ?_ hdb)
 exact PySem.W.callWith_K0 I.kIn M.kp (fc (us:=[]) M F hr hb hd hx I .nil h)
end
structure FnScope (N P:List Str) (sc:Scope):Prop where
 kind:sc.kind = .function
 co:sc.isCoroutine=false
 gen:sc.isGenerator=false
 nd:N.Nodup
 pre:N.take P.length=P
 par:∀ x∈P,sc.names.lookup x=some .local∨sc.names.lookup x=some .cell
 nofree:∀ y∈sc.names,y.2≠.free
theorem ez {kindOf:Str→Option NameKind} {x:Str}:∀ {binds:List (Str×Value)} {m:Str→Option Value},(∀ v,(x,v) ∉ binds)→bindL kindOf binds m x=m x
 | [],_,_=>rfl
 | (n,v)::r,m,h=>by
  unfold bindL
  rw [ez fun w hw=>h w (xAs _ hw)]
  split
  ·have:x≠n:=by rintro rfl;exact h v xAr
   simp [this]
  ·rfl
theorem eB {kindOf:Str→Option NameKind} {x:Str}:∀ {binds:List (Str×Value)} {m:Str→Option Value},(∀ v,(x,v) ∉ binds)→bindC kindOf binds m x=m x
 | [],_,_=>rfl
 | (n,v)::r,m,h=>by
  unfold bindC
  rw [eB fun w hw=>h w (xAs _ hw)]
  split
  ·rfl
  ·have:x≠n:=by rintro rfl;exact h v xAr
   simp [this]
theorem eA {kindOf:Str→Option NameKind} {x:Str} {v:Value}:∀ {P:List Str} {vs:List Value} {i:Nat} {m:Str→Option Value},P.Nodup→P[i]?=some x→vs[i]?=some v→kindOf x=some .local →
  bindL kindOf (P.zip vs) m x=some v
 | [],_,_,_,_,h,_,_=>by simp at h
 | _::_,[],_,_,_,_,h,_=>by simp at h
 | p::P,w::vs,0,m,nd,h1,h2,hk=>by
  simp at h1 h2;subst h1;subst h2
  show bindL kindOf ((p,w)::P.zip vs) m p=_
  unfold bindL
  rw [ez fun v hv=>(xCb.mp nd).1 (List.of_mem_zip hv).1,xCg hk]
  simp
 | p::P,w::vs,i+1,m,nd,h1,h2,hk=>by
  show bindL kindOf ((p,w)::P.zip vs) m x=_
  unfold bindL
  exact eA (i:=i) (xCb.mp nd).2 (by simpa using h1) (by simpa using h2) hk
theorem eC {kindOf:Str→Option NameKind} {x:Str} {v:Value}:∀ {P:List Str} {vs:List Value} {i:Nat} {m:Str→Option Value},P.Nodup→P[i]?=some x→vs[i]?=some v→kindOf x≠some .local →
  bindC kindOf (P.zip vs) m x=some v
 | [],_,_,_,_,h,_,_=>by simp at h
 | _::_,[],_,_,_,_,h,_=>by simp at h
 | p::P,w::vs,0,m,nd,h1,h2,hk=>by
  simp at h1 h2;subst h1;subst h2
  show bindC kindOf ((p,w)::P.zip vs) m p=_
  unfold bindC
  rw [eB fun v hv=>(xCb.mp nd).1 (List.of_mem_zip hv).1,xCf hk]
  simp
 | p::P,w::vs,i+1,m,nd,h1,h2,hk=>by
  show bindC kindOf ((p,w)::P.zip vs) m x=_
  unfold bindC
  exact eC (i:=i) (xCb.mp nd).2 (by simpa using h1) (by simpa using h2) hk
def start (N:List Str) (vs:List V):St:=vs.map some++List.replicate (N.length - vs.length) none
def cxOf (CX:CXT) (P:Program) (w:World) (K:xFr) (mg:Str→Option Value) (base:Heap) (N:List Str) (qual:Str) (scope:Scope) (f:Addr) (cd:Value) (A:Around) (outer:List Env) (s:Shared) (H:Hp) (E:XK):Cx where
 prog:=P
 w:=w
 K:=K
 mg:=mg
 base:=base
 A:=A.deeper (envOfC qual scope s.heap.objs.size f cd)
 N:=N
 s₀:=s
 H₀:=H
 env:=envOfC qual scope s.heap.objs.size f cd
 outer:=outer
 stack:=envOfC qual scope s.heap.objs.size f cd::outer
 ex:=[]
 calm:=true
 fn:=fun _=>true
 pn:=[]
 xe:=fun e s'=>wpAny (model P w) (A.deeper (envOfC qual scope s.heap.objs.size f cd)) (leaving (envOfC qual scope s.heap.objs.size f cd) e) (fun _ s''=>CX outer H s E e s'') (fun e' s''=>CX outer H s E e' s'') s'
theorem fP {sc:Scope} {n:Nat} {x:Str} (h:sc.names.lookup x=some .cell):∃ c,(cellsFrom n sc.names []).lookup x=some c:=by
 have q:=PySem.W.cellsFrom_some sc.names n [] (.inl h)
 exact Option.isSome_iff_exists.mp q
theorem ik {CX:CXT} {P:Program} {w:World} {K:xFr} {mg:Str→Option Value} {base:Heap} {N ps:List Str} {qual:Str} {scope:Scope} {f:Addr} {cd:Value} {A:Around} {outer:List Env} {s s1:Shared} {H:Hp} {E:XK} {us:List Value} {vs:List V}
  (S:FnScope N ps scope) (hd:A.handled=none) (e0:Env0 P w K mg base A outer s H) (hl:vs.length=ps.length) (r:Vals vs us)
  (x:InCallC s s.heap.objs.size (bindL (envOfC qual scope s.heap.objs.size f cd).kindOf (ps.zip us) fun _=>none) (cellsFrom (s.heap.objs.size+1) scope.names []) (bindC (envOfC qual scope s.heap.objs.size f cd).kindOf (ps.zip us) fun _=>none) s1) :
  Inv (cxOf CX P w K mg base N qual scope f cd A outer s H E) [] (start N vs) H s1:=by
 have hpl:ps.length≤N.length:=by have:=congrArg List.length S.pre;rw [xAn] at this;omega
 obtain ⟨h1,tk,rfl,hk⟩:=x.done
 have noA:∀ b:Addr,b ∉ (cxOf CX P w K mg base N qual scope f cd A outer s H E).ex:=fun b z=>absurd (show b∈([]:List Addr) from z) (by simp)
 refine ⟨⟨e0.mod,S.kind,rfl,rfl,xAg _,fun y z c h1 h2=>?_,fun y hy=>?_,fun y c _ h=>?_,fun _=>hd,Around.frames_deeper e0.frames,.inr ⟨rfl,rfl⟩,fun b z=>absurd z (noA b),e0.bs,e0.bsz,fun b _ _=>noA b,fun b z=>absurd z (noA b),e0.funs,e0.frf⟩,
  rfl,e0.bare,Un.kept hk,⟨_,x.toInCall.ns,fun i y v h1 h2 h3=>?_⟩,fun y c h=>⟨_,x.cell y c h⟩,e0.hok.fresh (xAg _),fun y c h=>?_,fun p hp=>absurd (show p∈([]:List (Addr×Obj)) from hp) (by simp),e0.hok.kept hk,?_⟩
 ·exact name_of_addr x.apart (PySem.mem_of_lookup h1) (PySem.mem_of_lookup h2)
 ·have hy:scope.names.lookup y=some .cell∨scope.names.lookup y=some .free:=hy
  rcases hy with hy | hy
  ·exact fP hy
  ·exact absurd rfl (S.nofree _ (PySem.mem_of_lookup hy))
 ·exact Nat.le_of_lt (x.above y c (PySem.mem_of_lookup h))
 ·have hi:i<vs.length:=by
   unfold start at h2
   by_cases hi:i<vs.length
   ·exact hi
   ·rw [List.getElem?_append_right (by simpa using hi)] at h2
    rw [List.getElem?_replicate] at h2
    split at h2 <;> cases h2
  have ha:vs[i]?=some v:=by
   unfold start at h2
   rw [List.getElem?_append_left (by simpa using hi),xAw] at h2
   cases e:vs[i]? with
   | none=>rw [e] at h2;cases h2
   | some a=>rw [e] at h2;cases h2;rfl
  obtain ⟨u,hu,rv⟩:=r.get ha
  have hp:ps[i]?=some y:=by
   rw [← S.pre,List.getElem?_take_of_lt (by omega)];exact h1
  have ndP:ps.Nodup:=by rw [← S.pre];exact S.nd.sublist (List.take_sublist _ _)
  refine ⟨u,rv,?_⟩
  rcases S.par y (xAc hp) with k | k
  ·exact .inl ⟨k,eA ndP hp hu k⟩
  ·obtain ⟨c,e⟩:=fP (n:=s.heap.objs.size+1) k
   refine .inr ⟨.inl k,c,e,?_⟩
   have q:=x.cell y c e
   rw [eC ndP hp hu (by show scope.names.lookup y≠_;rw [k];decide)] at q
   exact q
 ·exact e0.hok.fresh (Nat.le_of_lt (x.above y c (PySem.mem_of_lookup h)))
 ·unfold start
  show _=N.length
  rw [xAb,xAa,List.length_replicate]
  omega
theorem o7 {CX:CXT} {P:Program} {w:World} {K:xFr} {mg:Str→Option Value} {base:Heap} {k:Nat} {f:Addr} {name qual:Str} {params:Arguments} {body:List Stmt} {scope:Scope} {dV kV doc pm cdv ct oc:Value} {an od:Option Addr}
  {osl:Array (Option Value)} {N ps:List Str} {sp:Sp} (lk:K.lookup f=some ⟨oc,od,.func (PySem.W.fnOf name qual params body scope dV kV doc pm an cdv ct),osl⟩) (hcd:PySem.W.codeIn K cdv qual=true) (S:FnScope N ps scope)
  (len:∀ vs H Q E,sp vs H Q E→vs.length=ps.length)
  (hbody:∀ (A:Around) (outer:List Env) (s:Shared) (H:Hp) (vs:List V) (Q:VK) (E:XK),Room k (A.deeper (envOfC qual scope s.heap.objs.size f cdv))→sp vs H Q E →
   ∃ t,PSs (cxOf CX P w K mg base N qual scope f cdv A outer s H E) body t∧t { nx:=fun _ H'=>Q .non H',rt:=Q } (start N vs) H) :
  FnOk P w K mg base CX (k+1) f (PySem.W.fnOf name qual params body scope dV kV doc pm an cdv ct) ps sp:=by
 refine ⟨len,fun A outer s H args us vs Q E hr e0 hb r hsp=>?_⟩
 have hl:=len _ _ _ _ hsp
 have KX:K.In s.heap:=e0.mod.kin.keeps fun b o e=>(e0.bs b o e).1
 have lim:s.heap.NoLimit:=e0.mod.nolimit.keeps fun b o e=>(e0.bs b o e).1
 have hkind:∀ y∈ps.zip us,scope.names.lookup y.1=some .local∨(scope.names.lookup y.1=some .cell∧((cellsFrom (s.heap.objs.size+1) scope.names []).lookup y.1).isSome=true):=fun ⟨n,v⟩ hy=>by
  rcases S.par n (List.of_mem_zip hy).1 with q | q
  ·exact .inl q
  ·exact .inr ⟨q,PySem.W.cellsFrom_some _ _ _ (.inl q)⟩
 refine codeAny_call_function hr.depth (KX _ _ lk) rfl S.co S.gen rfl (PySem.W.codeRec_of KX hcd) (hb _ _ _ _ ?_)
 refine wpAny_newFunctionEnv_cells S.kind hkind fun env he s1 x=>?_
 subst he
 refine ⟨lim.keeps x.toInCall.keep,codeAny_func ?_⟩
 obtain ⟨t,ht,hq⟩:=hbody A outer s H vs Q E (hr.deeper _) hsp
 have I:Inv (cxOf CX P w K mg base N qual scope f cdv A outer s H E) [] (start N vs) H s1:=ik S hr.hd e0 hl r x
 refine wpAny_mono (ht [] s1 (start N vs) H _ I hq) (fun fl s' hs=>?_) fun e s' hs=>hs
 have fin:∀ {σ':St} {H':Hp} {v:V} {u:Value},Inv (cxOf CX P w K mg base N qual scope f cdv A outer s H E) [] σ' H' s'→RelV v u→Q v H'→CE outer P w H s Q u s' :=
  fun {σ' H' v u} J rv q=>⟨v,H',J.os,J.bare,J.base,J.hok,rv,q⟩
 cases fl with
 | ret u =>
  obtain ⟨v,σ',H',J,rv,q⟩:=hs
  exact fin J rv q
 | next =>
  obtain ⟨σ',H',J,q⟩:=hs
  exact fin (v:=V.non) (u:=Value.none) J rfl q
 | brk =>
  obtain ⟨_,_,_,q⟩:=hs
  exact False.elim q
 | cont =>
  obtain ⟨_,_,_,q⟩:=hs
  exact False.elim q
end L2
namespace L2
open PySem PySem.Spec PyProof.Rows
section
variable {X:Cx} {x:Str} {p pos:Pos} {e:Expr} {es:List Expr} {t:TA} {id T:String} {r:List V→Hp→VK→Prop}
def tCB (r:List V→Hp→VK→Prop) (t:TA):TE:=fun σ H Q=>t σ H fun vs H1=>r vs H1 Q
theorem i5 (hc:CallR X (.builtin id) r) (hg:Gl X x) (hm:X.mg x=none) (hv:bootBuiltins x=some (.builtin id)) (ha:PA X (e::es) t) (hn:x≠"__name__":=by decide) (hdb:(x == ("__debug__":Str))=false:=by decide)
  (he:starEach (e::es) X.env=(false,eval e X.env)::starEach es X.env:=by rfl) (hpl:(backTo pos (starEach es X.env)).any (·.1)=false:=by rfl):PE X (.Call (.Name x p) (e::es) [] pos) (tCB r t):=by
 intro pins s σ H Q I h
 refine wpAny_Call_Name_kw (cS I hg hm hv ?_ hn hdb)
 exact PyProof.Rows.callWith_builtin1 (thn (ha pos pins s σ H _ I h) fun us s1 ⟨vs,H1,I1,r1,q1⟩=>hc pins s1 σ H1 vs us Q I1 r1 q1) he hpl
theorem hX (hc:CallR X (.type T) r) (hg:Gl X x) (hm:X.mg x=none) (hv:bootBuiltins x=some (.type T)) (ha:PA X (e::es) t) (hn:x≠"__name__":=by decide) (hdb:(x == ("__debug__":Str))=false:=by decide)
  (he:starEach (e::es) X.env=(false,eval e X.env)::starEach es X.env:=by rfl) (hpl:(backTo pos (starEach es X.env)).any (·.1)=false:=by rfl):PE X (.Call (.Name x p) (e::es) [] pos) (tCB r t):=by
 intro pins s σ H Q I h
 refine wpAny_Call_Name_kw (cS I hg hm hv ?_ hn hdb)
 exact PyProof.Rows.callWith_type1 (thn (ha pos pins s σ H _ I h) fun us s1 ⟨vs,H1,I1,r1,q1⟩=>hc pins s1 σ H1 vs us Q I1 r1 q1) he hpl
end
end L2
namespace HT
open PySem PyProof.Rows
section
open PySem.SeqAt
open PySem.AutoSeq1 (wpAny_loadPart')
open PySem.MeetsSeq PySem.MeetsSeq2 PySem.MeetsSeq3
end
section
variable {prog:Program} {w:World} {A:Around} {E:Value→Shared→Prop} {s:Shared}
def sIx (n d:Nat):Option Int→Nat
 | none=>d
 | some v=>if v<0 then (v+(n:Int)).toNat else min v.toNat n
theorem sIx_none (n d:Nat):sIx n d none=d:=rfl
theorem sIx_nat (n d k:Nat):sIx n d (some (k:Int))=min k n:=by
 show (if (k:Int)<0 then ((k:Int)+(n:Int)).toNat else min (k:Int).toNat n)=min k n
 rw [xCf (by omega),Int.toNat_natCast]
theorem lH (n d:Nat) (hd:d≤n) (o:Option Int):sIx n d o≤n:=by
 cases o with
 | none=>exact hd
 | some v =>
  show (if v<0 then (v+(n:Int)).toNat else min v.toNat n)≤n
  by_cases hv:v<0
  ·rw [xCg hv];omega
  ·rw [xCf hv];exact Nat.min_le_right _ _
theorem gV (v:Int) (n d:Nat):(if v<0 then max (v+(n:Int)) 0 else min v (n:Int))=((sIx n d (some v):Nat):Int):=by
 show (if v<0 then max (v+(n:Int)) 0 else min v (n:Int))=(((if v<0 then (v+(n:Int)).toNat else min v.toNat n):Nat):Int)
 by_cases hv:v<0
 ·simp only [xCg hv];omega
 ·simp only [xCf hv];omega
theorem gu (lo hi:Option Int) (n:Nat):Builtin.Slice.sliceAdjust lo hi 1 (n:Int)=(((sIx n 0 lo:Nat):Int),((sIx n n hi:Nat):Int)):=by
 have h1:¬ ((1:Int)<0):=by omega
 unfold Builtin.Slice.sliceAdjust
 simp only [h1,if_false]
 refine Prod.ext ?_ ?_
 ·cases lo with
  | none=>rfl
  | some v=>exact gV v n 0
 ·cases hi with
  | none=>rfl
  | some v=>exact gV v n n
theorem f8 (i j:Nat):Builtin.Slice.slicePlaces (i:Int) (j:Int) 1=j - i:=by
 unfold Builtin.Slice.slicePlaces
 have h1:(1:Int) > 0:=by omega
 simp only [h1,if_true,Int.ediv_one]
 split <;> omega
theorem dr {v:Value} {o:Option Int} {Q:Option Int→Shared→Prop} (p:IsPart v o) (h:Q o s):wpAny (model prog w) A (Builtin.Slice.slicePartIndex v) Q E s:=by
 cases p with
 | none=>exact slicePart_none h
 | int i t=>exact slicePart_int h
theorem cM {sl:Addr} {vl vu:Value} {lo hi:Option Int} {n:Nat} {Q:Int×Int×Nat→Shared→Prop} (hs:s.heap.IsSliceOf sl vl vu .none) (pl:IsPart vl lo) (pu:IsPart vu hi)
  (h:Q (((sIx n 0 lo:Nat):Int),1,sIx n n hi - sIx n 0 lo) s):wpAny (model prog w) A (Builtin.Slice.sliceApplied (.ref sl) (pure (n:Int))) Q E s:=by
 obtain ⟨os,hos,hcs,hds⟩:=id hs
 unfold Builtin.Slice.sliceApplied Builtin.Slice.sliceFields
 refine xAd (xAd (wpAny_field hos hds (x:=vl) rfl (xAd (wpAny_field hos hds (x:=vu) rfl (xAd (wpAny_field hos hds (x:=.none) rfl (xAe ?_)))))))
 refine xAd (slicePart_none ?_)
 show wpAny _ _ (if ((1:Int) == 0)=true then _ else _) _ _ s
 rw [xCf (by decide)]
 refine xAd (dr pl (xAd (dr pu (xAd (xAe ?_)))))
 show wpAny _ _ (match Builtin.Slice.sliceAdjust lo hi 1 (n:Int) with | (lo,hi)=>pure (lo,(1:Int),Builtin.Slice.slicePlaces lo hi 1)) _ _ s
 rw [gu lo hi n]
 show wpAny _ _ (pure (((sIx n 0 lo:Nat):Int),(1:Int),Builtin.Slice.slicePlaces ((sIx n 0 lo:Nat):Int) ((sIx n n hi:Nat):Int) 1)) _ _ s
 rw [f8]
 exact xAe h
theorem iW (xs:Array Value) (i k:Nat):((List.range k).filterMap fun (m:Nat)=>xs[((i:Int)+(m:Int) * 1).toNat]?).toArray=((xs.toList.drop i).take k).toArray:=by
 have e:(fun (m:Nat)=>xs[((i:Int)+(m:Int) * 1).toNat]?)=fun m=>xs[i+m]?:=by
  funext m
  have:((i:Int)+(m:Int) * 1).toNat=i+m:=by omega
  rw [this]
 rw [e]
 have:=pick_run xs i k
 rw [List.filterMap_map] at this
 have e2:((fun x=>xs[x]?) ∘ fun x=>i+x)=fun m=>xs[i+m]?:=rfl
 rw [e2] at this
 rw [this]
theorem getItem_tuple_cut {t sl:Addr} {items:Array Value} {vl vu:Value} {lo hi:Option Int} {Q:Value→Shared→Prop} (ht:IsTup s.heap t items) (hs:s.heap.IsSliceOf sl vl vu .none) (pl:IsPart vl lo) (pu:IsPart vu hi)
  (hw:¬ (sIx items.size 0 lo=0∧sIx items.size items.size hi=items.size))
  (h:Q (.ref s.heap.objs.size) { s with heap:=s.heap.push { cls:=.type "tuple",data:=.seq ((items.toList.drop (sIx items.size 0 lo)).take (sIx items.size items.size hi - sIx items.size 0 lo)).toArray } })
  (hsz:items.size≤sizeLine):wpAny (model prog w) A (getItem (.ref t) (.ref sl)) Q E s:=by
 have htake:sizeOk (.seq ((items.toList.drop (sIx items.size 0 lo)).take (sIx items.size items.size hi - sIx items.size 0 lo)).toArray):=by
  show ((items.toList.drop (sIx items.size 0 lo)).take (sIx items.size items.size hi - sIx items.size 0 lo)).toArray.size≤sizeLine
  rw [xAp,xAn,List.length_drop,xAh]
  omega
 have hj:sIx items.size items.size hi≤items.size:=lH _ _ (xAg _) hi
 obtain ⟨os,hos,hcs,hds⟩:=id hs
 have hTs:s.TypeIs (.ref sl) "slice":=⟨os,hos,hcs⟩
 unfold getItem
 try with_reducible refine wpAny_holding ?_
 first | refine xAd (xAe ?_) | skip
 refine xAd (wpAny_sequenceKey ht.typeIs (by decide) ?_)
 refine xAd (wpAny_callSpecial?_slot (name:=Str.ofString "__getitem__") ht.typeIs PyProof.Rows.slot_tuple_getitem
  (wpAny_call_entry PyProof.Rows.slot_tuple_getitem ht.typeIs entry_tuple_getitem ?_ (args_tuple_getitem _ _)))
 show wpAny _ _ (Builtin.Tuple.tupleItemsOf (.ref t) >>= _) _ _ s
 refine xAd (tupleItemsOf_ ht ?_)
 refine xAd (wpAny_typeOf hTs ?_)
 rw [xCg (by decide)]
 refine xAd (cM hs pl pu ?_)
 have hno:¬ ((((sIx items.size 0 lo:Nat):Int) == 0 && (1:Int) == 1 && (sIx items.size items.size hi - sIx items.size 0 lo) == items.size)=true):=by
  intro q
  rw [Bool.and_eq_true,Bool.and_eq_true] at q
  have q1:((sIx items.size 0 lo:Nat):Int)=0:=eq_of_beq q.1.1
  have q2:sIx items.size items.size hi - sIx items.size 0 lo=items.size:=eq_of_beq q.2
  exact hw ⟨by omega,by omega⟩
 show wpAny _ _ (if (((sIx items.size 0 lo:Nat):Int) == 0 && (1:Int) == 1 && (sIx items.size items.size hi - sIx items.size 0 lo) == items.size)=true then _ else _) _ _ s
 rw [xCf hno,iW]
 first
  | exact xAd (m:=Builtin.Tuple.tupleExact _) (wpAny_newObj_type (xAe ⟨_,rfl,xAe h⟩) htake)
  | exact xAd (m:=Builtin.Tuple.tupleExact _) (wpAny_newObj_type (xAd (xAe (xAe ⟨_,rfl,xAe h⟩))) htake)
  | exact xAd (xAd (m:=Builtin.Tuple.tupleExact _) (wpAny_newObj_type (xAe (xAe ⟨_,rfl,xAe h⟩)) htake))
  | exact xAd (xAd (m:=Builtin.Tuple.tupleExact _) (wpAny_newObj_type (xAe ⟨_,rfl,xAe h⟩) htake))
end
end HT
namespace L2
open PySem PySem.Spec PyProof.Rows
abbrev TO:=St→Hp→(Option Int→Hp→Prop)→Prop
def PO (X:Cx) (e:Option Expr) (t:TO):Prop :=
 ∀ (pins:List (Addr×Obj)) (s:Shared) (σ:St) (H:Hp) (Q:Option Int→Hp→Prop),Inv X pins σ H s→t σ H Q →
  wpAny (model X.prog X.w) X.A (evalPart e X.env) (fun u s'=>∃ o H',Inv X pins σ H' s'∧IsPart u o∧Q o H') X.xe s
def tNoPart:TO:=fun _ H Q=>Q none H
def tPart (t:TE):TO:=fun σ H Q=>t σ H fun x H1=>∃ i,x = .int i∧Q (some i) H1
theorem gi {ns:List Int}:∀ {us:List Value},Vals (ns.map V.int) us→IntsAre us ns:=by
 induction ns with
 | nil=>intro us r;rw [List.map_nil] at r;cases r;exact .nil
 | cons n ns ih =>
  intro us r
  rw [xBs] at r
  cases r with
  | cons r1 r2 =>
   obtain ⟨t,e⟩:=r1
   subst e
   exact .cons n t (ih r2)
section
variable {X:Cx} {e:Expr} {te:TE} {lo hi:Option Expr} {tl th:TO} {pos p2:Pos}
theorem ke:PO X none tNoPart:=by
 intro pins s σ H Q I h
 rw [evalPart_none]
 exact xAe ⟨none,H,I,.none,h⟩
theorem kc (h:PE X e te):PO X (some e) (tPart te):=by
 intro pins s σ H Q I hw
 rw [evalPart_some]
 refine thn (h pins s σ H _ I hw) fun u s1 ⟨x,H1,I1,r1,q1⟩=>?_
 obtain ⟨i,rfl,q⟩:=q1
 obtain ⟨t,rfl⟩:=r1
 exact ⟨some i,H1,I1,.int i t,q⟩
def SlR (X:Cx) (r:V→Option Int→Option Int→Hp→VK→Prop):Prop :=
 ∀ (pins:List (Addr×Obj)) (s:Shared) (σ:St) (H:Hp) (x:V) (v vl vu:Value) (lo hi:Option Int) (sl:Addr) (Q:VK),Inv X pins σ H s→RelV x v→s.heap.IsSliceOf sl vl vu .none→IsPart vl lo→IsPart vu hi→r x lo hi H Q →
  ∃ T id,typeLookup (.type T) "__getitem__"=pure (some (.builtin id))∧s.TypeIs v T∧wpAny (model X.prog X.w) X.A (getItem v (.ref sl)) (EP X pins σ Q) X.xe s
def tSl (r:V→Option Int→Option Int→Hp→VK→Prop) (te:TE) (tl th:TO):TE:=fun σ H Q=>te σ H fun x H1=>tl σ H1 fun l H2=>th σ H2 fun u H3=>r x l u H3 Q
theorem iY {r:V→Option Int→Option Int→Hp→VK→Prop} (hr:SlR X r) (he:PE X e te) (hl:PO X lo tl) (hu:PO X hi th):PE X (.Subscript e (.Slice lo hi none p2) pos) (tSl r te tl th):=by
 intro pins s σ H Q I h
 refine Subscript_ (thn (he pins s σ H _ I h) fun v s1 ⟨x,H1,I1,r1,q1⟩=>?_)
 refine wpAny_Slice (thn (hl pins s1 σ H1 _ I1 q1) fun vl s2 ⟨l,H2,I2,pl,q2⟩=>thn (hu pins s2 σ H2 _ I2 q2) fun vu s3 ⟨u,H3,I3,pu,q3⟩=>?_)
 rw [evalPart_none]
 refine xAe ?_
 have I4:Inv X pins σ H3 { s3 with heap:=s3.heap.push { cls:=.type "slice",data:=.fields #[vl,vu,.none] } }:=I3.kept (t':=s3.toks) fun b ob q=>xAf _ q
 obtain ⟨T,id,hT,ht,hg⟩:=hr pins { s3 with heap:=s3.heap.push { cls:=.type "slice",data:=.fields #[vl,vu,.none] } } σ H3 x v vl vu l u s3.heap.objs.size Q I4 r1 (Heap.IsSliceOf.new ..) pl pu q3
 show wpAny (model X.prog X.w) X.A (subscriptTail e (.Slice lo hi none p2) v (.ref s3.heap.objs.size)) (EP X pins σ Q) X.xe { s3 with heap:=s3.heap.push { cls:=.type "slice",data:=.fields #[vl,vu,.none] } }
 exact tail_any (ops:=[.ref s3.heap.objs.size,v]) ht hT hg (by with_unfolding_all rfl)
def cutV (xs:List V) (lo hi:Option Int):List V:=(xs.drop (HT.sIx xs.length 0 lo)).take (HT.sIx xs.length xs.length hi - HT.sIx xs.length 0 lo)
theorem c5 (xs:List V) (lo hi:Option Int):(cutV xs lo hi).length≤xs.length:=by
 unfold cutV
 rw [xAn,List.length_drop]
 omega
def rSlT (K:xFr):V→Option Int→Option Int→Hp→VK→Prop:=fun x lo hi H Q=>∃ a xs,x = .ref a∧SqT K H a xs ∧
 ¬ (HT.sIx xs.length 0 lo=0∧HT.sIx xs.length xs.length hi=xs.length)∧∀ p,H p=none→Q (.ref p) (upd H p (.tup (cutV xs lo hi)))
theorem lG:SlR X (rSlT X.K):=by
 intro pins s σ H x v vl vu lo hi sl Q I rx hs pl pu h
 obtain ⟨a,xs,rfl,hx,hw,q⟩:=h
 cases rx
 obtain ⟨its,r,ht,hz⟩:=I.tuple hx
 have hlen:its.toArray.size=xs.length:=by rw [xAp];exact r.length.symm
 refine ⟨"tuple",_,PyProof.Rows.slot_tuple_getitem.lookup,ht.typeIs,?_⟩
 refine HT.getItem_tuple_cut ht hs pl pu (by rw [hlen];exact hw) ?_ (by rw [hlen];exact hz)
 rw [hlen]
 refine ⟨.ref s.heap.objs.size,_,I.laid (t':=s.toks) (o:=.tup (cutV xs lo hi)) (fun b ob q=>xAf _ q) (xAg _) ?_,rfl,q _ (I.hok.fresh (xAg _))⟩
 exact ⟨Nat.le_trans (c5 xs lo hi) hz,_,(r.drop (HT.sIx xs.length 0 lo)).take (HT.sIx xs.length xs.length hi - HT.sIx xs.length 0 lo),IsTup.new _ _⟩
theorem Vals.nil_iff {xs:List V} {us:List Value} (r:Vals xs us):us=[]↔xs=[]:=by
 cases r with
 | nil=>simp
 | cons _ _=>simp
end
end L2
namespace L2
open PySem PySem.Spec PyProof.Rows
def ixN (n:Nat) (i:Int):Option Nat:=if 0≤i then (if i<n then some i.toNat else none) else if -(n:Int)≤i then some (i+n).toNat else none
def atI {α:Type} (xs:List α) (i:Int):Option α:=(ixN xs.length i).bind fun j=>xs[j]?
theorem gK {n:Nat} {i:Int} {j:Nat} (h:ixN n i=some j):seqIndex? i n=some j∧j<n∧-(n:Int)≤i∧i<n:=by
 unfold ixN at h
 by_cases h0:0≤i
 ·rw [xCg h0] at h
  by_cases h1:i<n
  ·rw [xCg h1] at h
   have e:i.toNat=j:=xB3 h
   exact ⟨by rw [seqIndex_of h0 h1,e],by omega,by omega,h1⟩
  ·rw [xCf h1] at h;cases h
 ·rw [xCf h0] at h
  by_cases h1:-(n:Int)≤i
  ·rw [xCg h1] at h
   have e:(i+n).toNat=j:=xB3 h
   exact ⟨by rw [seqIndex_neg (by omega) h1,e],by omega,h1,by omega⟩
  ·rw [xCf h1] at h;cases h
theorem gW {α:Type} {xs:List α} {i:Int} {v:α} (h:atI xs i=some v):∃ j,seqIndex? i xs.length=some j∧xs[j]?=some v∧j<xs.length∧-(xs.length:Int)≤i∧i<xs.length:=by
 unfold atI at h
 cases e:ixN xs.length i with
 | none=>rw [e] at h;cases h
 | some j =>
  rw [e] at h
  obtain ⟨h1,h2,h3,h4⟩:=gK e
  exact ⟨j,h1,h,h2,h3,h4⟩
theorem au {α:Type} {xs:List α} {j:Nat} {v:α} (h:xs[j]?=some v):atI xs (j:Int)=some v:=by
 have hj:j<xs.length:=(xAq.mp h).1
 have e:ixN xs.length (j:Int)=some j:=by
  unfold ixN
  rw [xCg (by omega),xCg (by omega)];simp
 unfold atI;rw [e];exact h
def PlainIx (b:Expr):Prop:=∀ o i,subscripted b false o i=operate [o,i] (getItem o i)
def IxR (X:Cx) (r:R2):Prop :=
 ∀ (value slice:Expr) (pins:List (Addr×Obj)) (s:Shared) (σ:St) (H:Hp) (x y:V) (v u:Value) (Q:VK),Inv X pins σ H s→RelV x v→RelV y u→r x y H Q →
  subscripted slice false v u=operate [v,u] (getItem v u)→wpAny (model X.prog X.w) X.A (subscriptTail value slice v u) (EP X pins σ Q) X.xe s
def MtR (X:Cx) (id:String) (r:V→List V→Hp→VK→Prop):Prop :=
 ∀ (pins:List (Addr×Obj)) (s:Shared) (σ:St) (H:Hp) (x:V) (xs:List V) (v:Value) (us:List Value) (Q:VK),Inv X pins σ H s→RelV x v→Vals xs us→r x xs H Q →
  wpAny (model X.prog X.w) X.A (call (.builtin id) (v::us)) (EP X pins σ Q) X.xe s
section
variable {X:Cx} {a b:Expr} {ta tb:TE} {pos:Pos}
theorem oK {r:R2} (hr:IxR X r) (ha:PE X a ta) (hb:PE X b tb) (hs:PlainIx b):PE X (.Subscript a b pos) (tOp r ta tb):=by
 intro pins s σ H Q I h
 exact Subscript_ (binT ha hb I h fun v u s2 x y H2 I2 rx ry q=>hr a b pins s2 σ H2 x y v u Q I2 rx ry q (hs _ _))
def rIxL (K:xFr):R2:=fun x y H Q=>∃ p xs i v,x = .ref p∧y = .int i∧SqL K H p xs∧atI xs i=some v∧Q v H
def rIxT (K:xFr):R2:=fun x y H Q=>∃ p xs i v,x = .ref p∧y = .int i∧SqT K H p xs∧atI xs i=some v∧Q v H
theorem aH:IxR X (rIxL X.K):=by
 intro value slice pins s σ H x y v u Q I rx ry h hs
 obtain ⟨p,xs,i,z,rfl,rfl,hq,he,q⟩:=h
 cases rx
 obtain ⟨t,rfl⟩:=ry
 obtain ⟨its,r,pl,hz⟩:=I.list hq
 obtain ⟨j,h1,h2,h3,h4,h5⟩:=gW he
 obtain ⟨w,ew,rw'⟩:=r.get h2
 have hl:=r.length
 have hn:=line63
 have fin:EP X pins σ Q w s:=⟨z,H,I,rw',q⟩
 by_cases h0:0≤i
 ·have hj:i.toNat=j:=by
   rw [seqIndex_of h0 h5] at h1
   exact xB3 h1
  exact item_listR pl.isList h0 (by omega) (by rw [hj];simpa using ew) fin hs
 ·have hj:(i+(its.toArray.size:Int)).toNat=j:=by
   rw [seqIndex_neg (by omega) h4] at h1
   rw [xAp,← hl]
   exact xB3 h1
  exact subscriptTail_builtinR (x:=w) pl.isList.typeIs slot_list_getitem.lookup
   (wpAny_getItem_list_neg (Q:=fun r s'=>r=w∧EP X pins σ Q r s') pl.isList (by omega) (by rw [xAp] <;> omega) (by omega) (by rw [hj];simpa using ew) ⟨rfl,fin⟩) hs
theorem aX:IxR X (rIxT X.K):=by
 intro value slice pins s σ H x y v u Q I rx ry h hs
 obtain ⟨p,xs,i,z,rfl,rfl,hq,he,q⟩:=h
 cases rx
 obtain ⟨t,rfl⟩:=ry
 obtain ⟨its,r,pl,hz⟩:=I.tuple hq
 obtain ⟨j,h1,h2,h3,h4,h5⟩:=gW he
 obtain ⟨w,ew,rw'⟩:=r.get h2
 have hl:=r.length
 have hn:=line63
 have fin:EP X pins σ Q w s:=⟨z,H,I,rw',q⟩
 exact subscriptTail_builtinR (x:=w) pl.typeIs slot_tuple_getitem.lookup
  (getItem_tuple (j:=j) (Q:=fun r s'=>r=w∧EP X pins σ Q r s') pl (by omega) (by omega) (by rw [xAp,← hl];exact h1) (by simpa using ew) ⟨rfl,fin⟩) hs
theorem gc (its:List Value) (n j:Nat) (u:Value):Obj.mapSeq (·.setIfInBounds j u) { cls:=.type "list",data:=.seq its.toArray n }={ cls:=.type "list",data:=.seq (its.set j u).toArray n }:=by
 simp [Obj.mapSeq]
theorem Inv.lst {pins:List (Addr×Obj)} {σ:St} {H:Hp} {s:Shared} {p:Addr} {xs:List V} (I:Inv X pins σ H s) (h:H p=some (.lst xs)) :
  ∃ (its:List Value) (n:Nat),Vals xs its∧s.heap.get? p=some { cls:=.type "list",data:=.seq its.toArray n }∧xs.length≤sizeLine:=by
 obtain ⟨z,its,n,r,e⟩:=I.hok p _ h
 exact ⟨its,n,r,e,z⟩
theorem Inv.lstUpd {pins:List (Addr×Obj)} {σ:St} {H:Hp} {s:Shared} {p:Addr} {xs ys:List V} {its its':List Value} {n n':Nat} {f:Obj→Obj} (I:Inv X pins σ H s) (h:H p=some (.lst xs))
  (ho:s.heap.get? p=some { cls:=.type "list",data:=.seq its.toArray n }) (hf:f { cls:=.type "list",data:=.seq its.toArray n }={ cls:=.type "list",data:=.seq its'.toArray n' }) (r:Vals ys its') (hz:ys.length≤sizeLine) (t:Nat) :
  Inv X pins σ (upd H p (.lst ys)) { s with heap:=s.heap.update p f,toks:=t }:=by
 have e:(s.heap.update p f).get? p=some { cls:=.type "list",data:=.seq its'.toArray n' }:=by
  rw [Heap.get?_update_self f ho (by rw [hf] <;> rfl),hf]
 refine I.write (x:=p) (e:=p) (by rw [h];trivial) (.inl rfl) (fun b u hb q=>(Heap.get?_update_other _ _ (Ne.symm hb)).trans q) ⟨_,e⟩ ?_
 exact ⟨hz,its',n',r,e⟩
def rSetL:V→V→V→Hp→(Hp→Prop)→Prop:=fun o i v H Q=>∃ p xs k j,o = .ref p∧i = .int k∧H p=some (.lst xs)∧ixN xs.length k=some j∧Q (upd H p (.lst (xs.set j v)))
theorem dt:PSet X rSetL:=by
 intro pins s σ H o i v ov iv u Q I ro ri rv h
 obtain ⟨p,xs,k,j,rfl,rfl,hp,hj,q⟩:=h
 cases ro
 obtain ⟨t,rfl⟩:=ri
 obtain ⟨its,n,r,ho,hz⟩:=I.lst hp
 obtain ⟨h1,h2,h3,h4⟩:=gK hj
 have hl:=r.length
 have hn:=line63
 have I':Inv X pins σ (upd H p (.lst (xs.set j v))) { s with heap:=s.heap.update p (Obj.mapSeq (·.setIfInBounds j u)) } :=
  I.lstUpd hp ho (gc its n j u) (r.set rv j) (by rw [List.length_set];exact hz) s.toks
 by_cases h0:0≤k
 ·have hk:k.toNat=j:=by
   rw [seqIndex_of h0 h4] at h1
   exact xB3 h1
  exact PySem.W.ki_setAt ho h0 (by omega) (by rw [xAp,← hl];exact h4) (by rw [hk];exact ⟨_,I',q⟩)
 ·have hk:(k+(its.toArray.size:Int)).toNat=j:=by
   rw [seqIndex_neg (by omega) h3] at h1
   rw [xAp,← hl]
   exact xB3 h1
  exact PySem.W.ki_setBack ho (by omega) (by rw [xAp,← hl];exact h3) (by omega) (by rw [hk];exact ⟨_,I',q⟩)
theorem eE (lo hi:Option Int) (n:Nat):(sliceBounds lo hi none n).1=((HT.sIx n 0 lo:Nat):Int)∧(sliceBounds lo hi none n).2.1=((HT.sIx n n hi:Nat):Int)∧(sliceBounds lo hi none n).2.2=1:=by
 refine ⟨?_,?_,rfl⟩
 ·cases lo with
  | none=>simp [sliceBounds,HT.sIx]
  | some i =>
   simp only [sliceBounds,HT.sIx,Option.getD_none,show (1:Int) > 0 by decide,if_true]
   by_cases h:i<0
   ·simp only [h,if_true] <;> omega
   ·simp only [h,if_false] <;> omega
 ·cases hi with
  | none=>simp [sliceBounds,HT.sIx]
  | some i =>
   simp only [sliceBounds,HT.sIx,Option.getD_none,show (1:Int) > 0 by decide,if_true]
   by_cases h:i<0
   ·simp only [h,if_true] <;> omega
   ·simp only [h,if_false] <;> omega
theorem dX (its:List Value) (lo hi:Option Int):slicePick its.toArray lo hi none=((its.drop (HT.sIx its.length 0 lo)).take (HT.sIx its.length its.length hi - HT.sIx its.length 0 lo)).toArray:=by
 obtain ⟨h1,h2,h3⟩:=eE lo hi its.toArray.size
 unfold slicePick
 rw [h1,h2,h3]
 simp only [sliceRange_one,pick_run,xAp] <;> rfl
def rSlL (K:xFr):V→Option Int→Option Int→Hp→VK→Prop:=fun x lo hi H Q=>∃ a xs,x = .ref a∧SqL K H a xs∧∀ p,H p=none→Q (.ref p) (upd H p (.lst (cutV xs lo hi)))
theorem c9:SlR X (rSlL X.K):=by
 intro pins s σ H x v vl vu lo hi sl Q I rx hs pl pu h
 obtain ⟨a,xs,rfl,hx,q⟩:=h
 cases rx
 obtain ⟨its,r,ht,hz⟩:=I.list hx
 have hlen:=r.length
 refine ⟨"list",_,slot_list_getitem.lookup,ht.isList.typeIs,?_⟩
 refine wpAny_getItem_list_slice ht.isList hs pl pu .none (by simp) ?_ (by rw [xAp] <;> omega)
 rw [dX,← hlen]
 refine ⟨.ref s.heap.objs.size,_,I.laid (t':=s.toks) (o:=.lst (cutV xs lo hi)) (fun b ob q=>xAf _ q) (xAg _) ?_,rfl,q _ (I.hok.fresh (xAg _))⟩
 exact ⟨Nat.le_trans (c5 xs lo hi) hz,_,0,(r.drop (HT.sIx xs.length 0 lo)).take (HT.sIx xs.length xs.length hi - HT.sIx xs.length 0 lo),xAl _ rfl⟩
def flatV:V→Bool
 | .non=>true
 | .bl _=>true
 | .int _=>true
 | .str _=>true
 | _=>false
def eqV:V→V→Bool
 | .non,.non=>true
 | .bl a,.bl b=>a == b
 | .bl a,.int b=>(if a then 1 else 0) == b
 | .int a,.bl b=>a == (if b then 1 else 0)
 | .int a,.int b=>a == b
 | .str a,.str b=>a == b
 | _,_=>false
theorem jv {A:Around} {s:Shared} {y x:V} {u v:Value} (ry:RelV y u) (rx:RelV x v) (fy:flatV y=true) (fx:flatV x=true):SeqAt.EqAt A s u v (eqV y x):=by
 cases y with
 | non =>
  cases ry
  cases x with
  | non=>cases rx;exact SeqAt.EqAt.same _
  | bl b=>cases rx;exact SeqAt.EqAt.none_bool b
  | int b=>obtain ⟨t,rfl⟩:=rx;exact SeqAt.EqAt.none_int b t
  | str b=>obtain ⟨t,rfl⟩:=rx;exact SeqAt.EqAt.none_str b t
  | _=>exact absurd (show false=true from fx) xAy
 | bl a =>
  cases ry
  cases x with
  | non=>cases rx;exact SeqAt.EqAt.bool_none a
  | bl b=>cases rx;exact SeqAt.EqAt.bool_bool a b
  | int b=>obtain ⟨t,rfl⟩:=rx;exact SeqAt.EqAt.bool_int a b t
  | str b=>obtain ⟨t,rfl⟩:=rx;exact SeqAt.EqAt.bool_str a b t
  | _=>exact absurd (show false=true from fx) xAy
 | int a =>
  obtain ⟨t',rfl⟩:=ry
  cases x with
  | non=>cases rx;exact SeqAt.EqAt.int_none a t'
  | bl b=>cases rx;exact SeqAt.EqAt.int_bool a t' b
  | int b=>obtain ⟨t,rfl⟩:=rx;exact SeqAt.EqAt.int_int a t' b t
  | str b=>obtain ⟨t,rfl⟩:=rx;exact SeqAt.EqAt.int_str a t' b t
  | _=>exact absurd (show false=true from fx) xAy
 | str a =>
  obtain ⟨t',rfl⟩:=ry
  cases x with
  | non=>cases rx;exact SeqAt.EqAt.str_none a t'
  | bl b=>cases rx;exact SeqAt.EqAt.str_bool a t' b
  | int b=>obtain ⟨t,rfl⟩:=rx;exact SeqAt.EqAt.str_int a t' b t
  | str b=>obtain ⟨t,rfl⟩:=rx;exact SeqAt.EqAt.str_str a t' b t
  | _=>exact absurd (show false=true from fx) xAy
 | _=>exact absurd (show false=true from fy) xAy
theorem eX:CallR X (.type "list") (fun xs H Q=>∃ p ys,xs=[.ref p]∧(SqL X.K H p ys∨SqT X.K H p ys)∧∀ l,H l=none→Q (.ref l) (upd H l (.lst ys))):=by
 intro pins s σ H xs us Q I r h
 obtain ⟨p,ys,rfl,hq,q⟩:=h
 obtain ⟨u,rfl,rx⟩:=vals1 r
 cases rx
 have fin:∀ (its:List Value),Vals ys its→ys.length≤sizeLine→∀ (h':Heap) (c':Nat),(∀ b o',s.heap.get? b=some o'→h'.get? b=some o') →
   h'.get? s.heap.objs.size=some { cls:=.type "list",dict:=none,data:=.seq its.toArray c',slots:=#[] }→EP X pins σ Q (.ref s.heap.objs.size) { s with heap:=h' }:=fun its r' hz h' c' kp e =>
  ⟨.ref s.heap.objs.size,_,I.laid (t':=s.toks) kp (xAg _) (show ObjOk X.prog X.w _ h' _ (.lst ys) from ⟨hz,its,c',r',e⟩),rfl,q _ (I.hok.fresh (xAg _))⟩
 rcases hq with hq | hq
 ·obtain ⟨its,r',pl,hz⟩:=I.list hq
  have hlen:=r'.length
  obtain ⟨o,ho,hc,n,hd⟩:=pl.isList
  exact call_list_seq p (.inl rfl) ho hc hd (fun h' c' kp e=>fin its r' hz h' c' kp e) (by simp only [xAp] <;> omega)
 ·obtain ⟨its,r',pl,hz⟩:=I.tuple hq
  have hlen:=r'.length
  obtain ⟨o,ho,hc,n,hd⟩:=pl
  exact call_list_seq p (.inr rfl) ho hc hd (fun h' c' kp e=>fin its r' hz h' c' kp e) (by simp only [xAp] <;> omega)
def tyV (K:xFr) (T:String) (x:V) (H:Hp):Prop:=match x with
 | .str _=>T="str"
 | .int _=>T="int"
 | .ref p=>(T="list"∧∃ xs,SqL K H p xs)∨(T="tuple"∧∃ o,K.lookup p=some o∧o.cls = .type "tuple"∧o.dict=none) ∨
   (T="dict"∧((∃ kvs,H p=some (.dK kvs))∨∃ kvs,H p=some (.dT kvs)))∨(T="set"∧∃ S n,H p=some (.set S n))
 | _=>False
theorem iy {pins:List (Addr×Obj)} {σ:St} {H:Hp} {s:Shared} {T:String} {x:V} {v:Value} (I:Inv X pins σ H s) (r:RelV x v) (ty:tyV X.K T x H) :
  s.TypeIs v T∧∀ a,v = .ref a→∃ ob,s.heap.get? a=some ob∧ob.dict=none:=by
 cases x with
 | str z =>
  obtain ⟨t,rfl⟩:=r
  cases (show T="str" from ty)
  exact ⟨typeIs_str s z t,fun _ e=>nomatch e⟩
 | int i =>
  obtain ⟨t,rfl⟩:=r
  cases (show T="int" from ty)
  exact ⟨typeIs_int s i t,fun _ e=>nomatch e⟩
 | ref p =>
  cases r
  rcases ty with ⟨rfl,xs,hq⟩ | ⟨rfl,o,hk,hc,hd⟩ | ⟨rfl,hk⟩ | ⟨rfl,S,n,hk⟩
  ·obtain ⟨its,_,pl,_⟩:=I.list hq
   refine ⟨pl.isList.typeIs,fun a e=>?_⟩
   cases e
   obtain ⟨o,n,e,c,hd,_⟩:=pl
   exact ⟨o,e,hd⟩
  ·refine ⟨⟨o,I.kIn p o hk,hc⟩,fun a e=>?_⟩
   cases e
   exact ⟨o,I.kIn _ o hk,hd⟩
  ·have z:∃ o,s.heap.get? p=some o∧o.ExactDict:=by
    rcases hk with ⟨kvs,hk⟩ | ⟨kvs,hk⟩
    ·obtain ⟨_,_,_,_,o,_,_,e,ex,_⟩:=I.hok p _ hk
     exact ⟨o,e,ex⟩
    ·obtain ⟨_,_,_,_,o,_,_,e,ex,_⟩:=I.hok p _ hk
     exact ⟨o,e,ex⟩
   obtain ⟨o,e,ex⟩:=z
   refine ⟨⟨o,e,ex.1⟩,fun a e2=>?_⟩
   cases e2
   exact ⟨o,e,ex.2.1⟩
  ·obtain ⟨o,_,_,_,e,ex,_⟩:=I.hok p _ hk
   refine ⟨⟨o,e,ex.1⟩,fun a e2=>?_⟩
   cases e2
   exact ⟨o,e,ex.2.1⟩
 | _=>exact False.elim ty
def tBM0 (K:xFr) (T:String) (r:V→List V→Hp→VK→Prop) (to:TE):TE:=fun σ H Q=>to σ H fun x H1=>tyV K T x H1∧r x [] H1 Q
def tBM (K:xFr) (T:String) (r:V→List V→Hp→VK→Prop) (to:TE) (t:TA):TE:=fun σ H Q=>to σ H fun x H1=>tyV K T x H1∧t σ H1 fun xs H2=>r x xs H2 Q
variable {o e:Expr} {es:List Expr} {to:TE} {t:TA} {name:Str} {apos cpos:Pos} {T id:String} {r:V→List V→Hp→VK→Prop}
theorem mS (pa:PlainAttrs T) (slot:Slot T name id) (hty:typeOf (.builtin id)=pure (.type "method_descriptor")) (hm:MtR X id r) (ho:PE X o to)
  (hbase:attributeBase o name X.env (eval o X.env)=eval o X.env:=by rfl) (hline:(apos.endLine == cpos.line)=true:=by rfl):PE X (.Call (.Attribute o name apos) [] [] cpos) (tBM0 X.K T r to):=by
 intro pins s σ H Q I h
 refine wpAny_Call_method0_late hbase hline (thn (ho pins s σ H _ I h) fun v s1 ⟨x,H1,I1,r1,ty,q1⟩=>?_)
 obtain ⟨h1,h2⟩:=iy I1 r1 ty
 exact ⟨T,id,pa,slot,hty,h1,h2,Calls.callWith_builtin rfl (PySem.evalArgs_none (hm pins s1 σ H1 x [] v [] Q I1 r1 .nil q1))⟩
theorem oQ (pa:PlainAttrs T) (slot:Slot T name id) (hty:typeOf (.builtin id)=pure (.type "method_descriptor")) (hm:MtR X id r) (ho:PE X o to) (ha:PA X (e::es) t)
  (hbase:attributeBase o name X.env (eval o X.env)=eval o X.env:=by rfl)
  (hfew:((backTo cpos (starEach (e::es) X.env)).all (fun x=>!x.1) && (backToKw cpos (keywordEach [] X.env)).all (fun x=>x.1.isSome)
   && decide ((e::es).length+([]:List Keyword).length+(if ([]:List Keyword).isEmpty then 0 else 1)<30))=true:=by rfl)
  (hline:(apos.endLine == cpos.line)=true:=by rfl) (hs:starEach (e::es) X.env=(false,eval e X.env)::starEach es X.env:=by rfl) (hplain:(backTo cpos (starEach es X.env)).any (·.1)=false:=by rfl) :
  PE X (.Call (.Attribute o name apos) (e::es) [] cpos) (tBM X.K T r to t):=by
 intro pins s σ H Q I h
 refine wpAny_Call_method_late hbase hfew hline rfl (thn (ho pins s σ H _ I h) fun v s1 ⟨x,H1,I1,r1,ty,q1⟩=>?_)
 obtain ⟨h1,h2⟩:=iy I1 r1 ty
 refine ⟨T,id,pa,slot,hty,h1,h2,?_⟩
 have hA:=ha cpos pins s1 σ H1 _ I1 q1
 rw [hs] at hA ⊢
 refine Calls.callWith_builtin (by show (false || (backTo cpos (starEach es X.env)).any (·.1))=false;rw [hplain] <;> rfl) (Calls.evalArgs_plain ?_)
 exact thn hA fun us s2 ⟨vs,H2,I2,r2,q2⟩=>hm pins s2 σ H2 x vs v us Q I2 r1 r2 q2
end
end L2
namespace L2
open PySem PySem.Spec PyProof.Rows
def MtM (X:Cx) (id:String) (r:V→List V→Hp→VK→Prop):Prop :=
 ∀ (pins:List (Addr×Obj)) (s:Shared) (σ:St) (H:Hp) (x:V) (xs:List V) (v:Value) (us:List Value) (Q:VK),Inv X pins σ H s→RelV x v→Vals xs us→r x xs H Q →
  wpAny (model X.prog X.w) X.A (call (.builtin id) (v::us)) (EP X pins σ Q) X.xe s
theorem Vals.one:∀ {x:V} {us:List Value},Vals [x] us→∃ u,us=[u]∧RelV x u
 | _,_,.cons r .nil=>⟨_,rfl,r⟩
theorem Vals.two:∀ {x y:V} {us:List Value},Vals [x,y] us→∃ u v,us=[u,v]∧RelV x u∧RelV y v
 | _,_,_,.cons r (.cons q .nil)=>⟨_,_,rfl,r,q⟩
theorem Vals.zero:∀ {us:List Value},Vals [] us→us=[]
 | _,.nil=>rfl
theorem Vals.dropLast {xs:List V} {us:List Value} (h:Vals xs us):Vals xs.dropLast us.dropLast:=by
 induction h with
 | nil=>exact .nil
 | cons r t ih =>
  cases t with
  | nil=>exact .nil
  | cons q t'=>exact .cons r ih
theorem gn {α:Type} (l:List α):l.eraseIdx (l.length - 1)=l.dropLast:=by
 induction l with
 | nil=>rfl
 | cons a r ih =>
  cases r with
  | nil=>rfl
  | cons b r =>
   have e:(a::b::r).length - 1=((b::r).length - 1)+1:=by
    have h1:(a::b::r).length=r.length+2:=rfl
    have h2:(b::r).length=r.length+1:=rfl
    omega
   rw [e,List.eraseIdx_cons_succ,ih]
   all_goals rfl
section
variable {X:Cx} {pins:List (Addr×Obj)} {σ:St} {H:Hp} {s:Shared} {l b:Addr} {xs ys zs:List V}
theorem Inv.lset {its its':List Value} {n:Nat} {f:Array Value→Array Value} {t':Nat} (I:Inv X pins σ H s) (hH:H l=some (.lst xs))
  (e:s.heap.get? l=some { cls:=.type "list",data:=.seq its.toArray n }) (hf:f its.toArray=its'.toArray) (hv:Vals ys its') (hz:ys.length≤sizeLine) :
  Inv X pins σ (upd H l (.lst ys)) { s with heap:=s.heap.update l (Obj.mapSeq f),toks:=t' }:=by
 have q:=PySem.IsL.update e f
 rw [hf] at q
 refine I.write (x:=l) (e:=l) (by rw [hH];exact trivial) (.inl rfl) (fun b' u hb hu=>(Heap.get?_update_other s.heap (Obj.mapSeq f) (Ne.symm hb)).trans hu) ⟨_,q⟩ ?_
 exact ⟨hz,its',_,hv,q⟩
theorem Inv.lnew {its:List Value} {t':Nat} (I:Inv X pins σ H s) (hv:Vals ys its) (hz:ys.length≤sizeLine) :
  Inv X pins σ (upd H s.heap.objs.size (.lst ys)) { s with heap:=s.heap.push { cls:=.type "list",data:=.seq its.toArray },toks:=t' } :=
 I.laid (fun _ _ q=>xAf _ q) (xAg _) ⟨hz,its,0,hv,xAl _ rfl⟩
theorem Inv.fresh (I:Inv X pins σ H s):H s.heap.objs.size=none:=I.hok.fresh (xAg _)
theorem Inv.lstM (I:Inv X pins σ H s) (hH:H l=some (.lst xs)):xs.length≤sizeLine∧∃ (its:List Value) (n:Nat),Vals xs its∧xs.length=its.length∧s.heap.get? l=some { cls:=.type "list",data:=.seq its.toArray n }:=by
 obtain ⟨z,its,n,r,e⟩:=I.hok l _ hH
 exact ⟨z,its,n,r,r.length,e⟩
theorem notLongL {n:Nat} (h:n≤sizeLine):Builtin.List.listTooLong n=false:=by
 unfold Builtin.List.listTooLong
 exact decide_eq_false (by omega)
end
section
variable {X:Cx}
def rAppend:V→List V→Hp→VK→Prop:=fun x vs H Q=>∃ l xs y,x = .ref l∧vs=[y]∧H l=some (.lst xs)∧xs.length<sizeLine∧Q .non (upd H l (.lst (xs++[y])))
theorem aS:MtM X "list.append" rAppend:=by
 intro pins s σ H x vs v us Q I rx rv h
 obtain ⟨l,xs,y,rfl,rfl,hH,hz,q⟩:=h
 cases rx
 obtain ⟨u,rfl,ru⟩:=rv.one
 obtain ⟨z,its,n,r,hl,e⟩:=I.lstM hH
 refine call_meets F.slot_list_append ⟨_,e,rfl⟩ F.entry_list_append (F.args_list_append_2 _ _) (PySem.list_append l its.toArray n u (by rw [xAp];omega)) ⟨e,?_⟩
 refine ⟨.non,_,I.lset (its':=its++[u]) hH e (by simp) (r.append (.cons ru .nil)) ?_,rfl,q⟩
 rw [xAb,xAt]
 omega
def rExtend:V→List V→Hp→VK→Prop:=fun x vs H Q=>∃ l b xs zs,x = .ref l∧vs=[.ref b]∧H l=some (.lst xs)∧H b=some (.lst zs)∧xs.length+zs.length≤sizeLine∧Q .non (upd H l (.lst (xs++zs)))
theorem d9:MtM X "list.extend" rExtend:=by
 intro pins s σ H x vs v us Q I rx rv h
 obtain ⟨l,b,xs,zs,rfl,rfl,hH,hB,hz,q⟩:=h
 cases rx
 obtain ⟨u,rfl,ru⟩:=rv.one
 cases ru
 obtain ⟨z,its,n,r,hl,e⟩:=I.lstM hH
 obtain ⟨z2,its2,n2,r2,hl2,e2⟩:=I.lstM hB
 have hsz:its.toArray.size+its2.toArray.size≤sizeLine:=by rw [xAp,xAp];omega
 have hlong:¬ (!its.toArray.isEmpty && Builtin.List.listTooLong (its.toArray.size+its2.toArray.size))=true:=by
  rw [notLongL hsz,Bool.and_false]
  exact xAy
 refine call_meets F.slot_list_extend ⟨_,e,rfl⟩ F.entry_list_extend (F.args_list_extend_2 _ _)
  (AutoSeq1.list_extend_list_list_0 l its.toArray n b its2.toArray n2 hlong (by rw [xAp];omega) (by omega)) ⟨e,e2,?_⟩
 refine ⟨.non,_,I.lset (its':=its++its2) hH e (by simp) (r.append r2) ?_,rfl,q⟩
 rw [xAb]
 omega
def rPop:V→List V→Hp→VK→Prop:=fun x vs H Q=>∃ l xs y,x = .ref l∧vs=[]∧H l=some (.lst xs)∧xs[xs.length - 1]?=some y∧Q y (upd H l (.lst xs.dropLast))
theorem ni:MtM X "list.pop" rPop:=by
 intro pins s σ H x vs v us Q I rx rv h
 obtain ⟨l,xs,y,rfl,rfl,hH,hy,q⟩:=h
 cases rx
 have hus:=rv.zero
 subst hus
 obtain ⟨z,its,n,r,hl,e⟩:=I.lstM hH
 obtain ⟨u,hu,ru⟩:=r.get hy
 have hy':its.toArray[its.toArray.size - 1]?=some u:=by
  show its.toArray[its.length - 1]?=some u
  rw [← Array.getElem?_toList,← hl]
  exact hu
 refine call_meets F.slot_list_pop ⟨_,e,rfl⟩ F.entry_list_pop (F.args_list_pop_1 _) (MeetsSeq.list_pop_last l its.toArray n u hy' (by rw [xAp];omega)) ⟨e,?_⟩
 refine ⟨y,_,I.lset (its':=its.dropLast) hH e ?_ r.dropLast ?_,ru,q⟩
 ·show its.toArray.eraseIdxIfInBounds (its.toArray.size - 1)=its.dropLast.toArray
  rw [xAp,List.eraseIdxIfInBounds_toArray,gn]
 ·rw [List.length_dropLast]
  omega
def rCat:R2:=fun x y H Q=>∃ l b xs zs,x = .ref l∧y = .ref b∧H l=some (.lst xs)∧H b=some (.lst zs)∧xs.length+zs.length≤sizeLine∧∀ p,H p=none→Q (.ref p) (upd H p (.lst (xs++zs)))
theorem mZ:OpR X (binaryOp .Add) rCat:=by
 intro pins s σ H x y v u Q I rx ry h
 obtain ⟨l,b,xs,zs,rfl,rfl,hH,hB,hz,q⟩:=h
 cases rx
 cases ry
 obtain ⟨z,its,n,r,hl,e⟩:=I.lstM hH
 obtain ⟨z2,its2,n2,r2,hl2,e2⟩:=I.lstM hB
 refine PySem.P.add_list e e2 ?_ (by rw [xAp,xAp];omega)
 have ea:its.toArray++its2.toArray=(its++its2).toArray:=by simp
 rw [ea]
 exact ⟨.ref _,_,I.lnew (t':=s.toks) (r.append r2) (by rw [xAb];omega),rfl,q _ I.fresh⟩
end
section
variable {prog:Program} {w:World} {A:Around} {E:Value→Shared→Prop} {s:Shared}
set_option maxRecDepth 100000 in
end
end L2
namespace L2
open PySem PySem.Spec PyProof.Rows
section
variable {κ:Type} [DecidableEq κ]
def valV (kvs:List (κ×V)) (k:κ):Option V:=(kvs.find? fun kv=>decide (kv.1=k)).map (·.2)
def putK (kvs:List (κ×V)) (k:κ) (v:V):List (κ×V) :=
 if (kvs.any fun kv=>decide (kv.1=k))=true then kvs.map (fun kv=>if kv.1=k then (kv.1,v) else kv) else kvs++[(k,v)]
theorem cq {p:κ×V} {r:List (κ×V)} {k:κ} (e:p.1=k):valV (p::r) k=some p.2:=by simp [valV,List.find?_cons,e]
theorem bN {p:κ×V} {r:List (κ×V)} {k:κ} (e:¬ p.1=k):valV (p::r) k=valV r k:=by simp [valV,List.find?_cons,e]
theorem dl (k:κ):∀ kvs:List (κ×V),(kvs.any fun kv=>decide (kv.1=k))=(valV kvs k).isSome
 | []=>rfl
 | p::r=>by
  rw [List.any_cons]
  by_cases e:p.1=k
  ·simp only [cq e,xBd e,Bool.true_or,Option.isSome_some]
  ·rw [bN e,decide_eq_false e,Bool.false_or];exact dl k r
theorem bV (kvs:List (κ×V)) (k:κ) (v:V):(putK kvs k v).length≤kvs.length+1:=by
 unfold putK
 split
 ·rw [xAa];omega
 ·rw [xAb,xAo,List.length_nil];omega
theorem cD {kvs:List (κ×V)} {k:κ} (v:V) (h:valV kvs k=none):putK kvs k v=kvs++[(k,v)]:=by
 unfold putK
 rw [dl,h]
 exact xCf (by decide)
theorem RelO.isSome_eq {o:Option V} {u:Option Value} (r:RelO o u):o.isSome=u.isSome:=by
 cases o with
 | none=>cases u with
  | none=>rfl
  | some _=>exact (show False from r).elim
 | some _=>cases u with
  | none=>exact (show False from r).elim
  | some _=>rfl
theorem KV.val {kvs:List (κ×V)} {vs:List (κ×Value)} (r:KV kvs vs) (k:κ):RelO (valV kvs k) (valueAt vs k):=by
 unfold KV at r
 induction r with
 | nil=>exact True.intro
 | @cons p q ps qs h t ih =>
  obtain ⟨h1,h2⟩:=h
  by_cases e:p.1=k
  ·have e':q.1=k:=h1.symm.trans e
   have b:valueAt (q::qs) k=some q.2:=by simp [valueAt,List.find?_cons,e']
   rw [cq e,b];exact h2
  ·have e':¬ q.1=k:=fun z=>e (h1.trans z)
   have b:valueAt (q::qs) k=valueAt qs k:=by simp [valueAt,List.find?_cons,e']
   rw [bN e,b];exact ih
theorem KV.any {kvs:List (κ×V)} {vs:List (κ×Value)} (r:KV kvs vs) (k:κ):(kvs.any fun kv=>decide (kv.1=k))=vs.any fun kv=>decide (kv.1=k):=by
 unfold KV at r
 induction r with
 | nil=>rfl
 | cons h t ih=>rw [List.any_cons,List.any_cons,ih,h.1]
theorem KV.repl {kvs:List (κ×V)} {vs:List (κ×Value)} (r:KV kvs vs) (k:κ) {y:V} {u:Value} (ry:RelV y u) :
  KV (kvs.map fun kv=>if kv.1=k then (kv.1,y) else kv) (vs.map fun kv=>if kv.1=k then (kv.1,u) else kv):=by
 unfold KV at r ⊢
 induction r with
 | nil=>exact .nil
 | @cons p q ps qs h t ih =>
  rw [xBs,xBs]
  refine .cons ?_ ih
  obtain ⟨h1,h2⟩:=h
  by_cases e:p.1=k
  ·rw [xCg e,xCg (h1.symm.trans e)];exact ⟨h1,ry⟩
  ·rw [xCf e,xCf (fun z=>e (h1.trans z))];exact ⟨h1,h2⟩
theorem KV.put {kvs:List (κ×V)} {vs:List (κ×Value)} (r:KV kvs vs) (k:κ) {y:V} {u:Value} (ry:RelV y u):KV (putK kvs k y) (stored vs k u):=by
 unfold putK stored
 rw [r.any k]
 by_cases e:(vs.any fun kv=>decide (kv.1=k))=true
 ·rw [xCg e,xCg e];exact r.repl k ry
 ·rw [xCf e,xCf e];exact Paired.snoc r ⟨rfl,ry⟩
theorem KV.keys {kvs:List (κ×V)} {vs:List (κ×Value)} (r:KV kvs vs):kvs.map (·.1)=vs.map (·.1):=by
 unfold KV at r
 induction r with
 | nil=>rfl
 | cons h t ih=>rw [xBs,xBs,ih,h.1]
theorem KV.length {kvs:List (κ×V)} {vs:List (κ×Value)} (r:KV kvs vs):kvs.length=vs.length:=Paired.length r
end
theorem fG {P:Program} {w:World} {k:Key} {u:Value} (r:RelV (kV k) u):(mixKind P w).is k u=true:=by
 cases k with
 | inl i=>obtain ⟨t,e⟩:=(show ∃ t,u=Value.int i t from r);subst e;exact fw P w i t
 | inr x=>obtain ⟨t,e⟩:=(show ∃ t,u=Value.str x t from r);subst e;exact fv P w x t
theorem eh {P:Program} {w:World}:∀ {ks:List Key} {us:List Value},Vals (ks.map kV) us→ItemsAre (mixKind P w) ks us
 | [],_,r=>by rw [List.map_nil] at r;cases r;exact .nil
 | k::ks,_,r=>by
  rw [xBs] at r
  cases r with
  | cons h t=>exact .cons (fG h) (eh t)
abbrev KT (H:Hp):List (List Key×V)→List (List Key×Addr×Value)→Prop:=Paired fun p q=>p.1=q.1∧H q.2.1=some (.tup (p.1.map kV))∧RelV p.2 q.2.2
theorem KT.val {H:Hp} {kvs:List (List Key×V)} {xs:List (List Key×Addr×Value)} (r:KT H kvs xs) (k:List Key):RelO (valV kvs k) ((atKey xs k).map (·.2)):=by
 induction r with
 | nil=>exact True.intro
 | @cons p q ps qs h t ih =>
  obtain ⟨h1,_,h2⟩:=h
  by_cases e:p.1=k
  ·have e':q.1=k:=h1.symm.trans e
   have b:atKey (q::qs) k=some q.2:=by simp [atKey,List.find?_cons,e']
   rw [cq e,b];exact h2
  ·have e':¬ q.1=k:=fun z=>e (h1.trans z)
   have b:atKey (q::qs) k=atKey qs k:=by simp [atKey,List.find?_cons,e']
   rw [bN e,b];exact ih
theorem KT.repl {H:Hp} {kvs:List (List Key×V)} {xs:List (List Key×Addr×Value)} (r:KT H kvs xs) (k:List Key) {y:V} {u:Value} (ry:RelV y u) :
  KT H (kvs.map fun kv=>if kv.1=k then (kv.1,y) else kv) (xs.map (putAt k u)):=by
 induction r with
 | nil=>exact .nil
 | @cons p q ps qs h t ih =>
  rw [xBs,xBs]
  refine .cons ?_ ih
  obtain ⟨h1,h2,h3⟩:=h
  unfold putAt
  by_cases e:p.1=k
  ·rw [xCg e,xCg (h1.symm.trans e)];exact ⟨h1,h2,ry⟩
  ·rw [xCf e,xCf (fun z=>e (h1.trans z))];exact ⟨h1,h2,h3⟩
theorem KT.put {H:Hp} {kvs:List (List Key×V)} {xs:List (List Key×Addr×Value)} (r:KT H kvs xs) (k:List Key) {b:Addr} {y:V} {u:Value} (hb:H b=some (.tup (k.map kV))) (ry:RelV y u) :
  KT H (putK kvs k y) (storedH xs k b u):=by
 have e:(kvs.any fun kv=>decide (kv.1=k))=(atKey xs k).isSome:=by
  rw [dl,(r.val k).isSome_eq,Option.isSome_map]
 unfold putK storedH
 rw [e]
 by_cases q:(atKey xs k).isSome=true
 ·rw [xCg q,xCg q];exact r.repl k ry
 ·rw [xCf q,xCf q];exact Paired.snoc r ⟨rfl,hb,ry⟩
theorem KT.keeps {H H':Hp} {kvs:List (List Key×V)} {xs:List (List Key×Addr×Value)} (r:KT H kvs xs) (ht:∀ b ys,H b=some (.tup ys)→H' b=some (.tup ys)):KT H' kvs xs :=
 Paired.mapP r fun _ _ z=>⟨z.1,ht _ _ z.2.1,z.2.2⟩
section
variable {P:Program} {w:World} {H:Hp} {h:Heap} {a:Addr}
theorem kT {u:HO} (ok:HOk P w H h) (e:Rd H a u):ObjOk P w H h a u:=e.ok ok
theorem em {kvs:List (Key×V)} (ok:HOk P w H h) (e:Rd H a (.dK kvs)):kvs.length≤sizeLine∧(a == sysModules)=false∧∃ vs,KV kvs vs∧h.DictOf (mixKind P w) a vs :=
 show ObjOk P w H h a (.dK kvs) from kT ok e
theorem jw {kvs:List (Key×V)} (ok:HOk P w H h) (e:H a=some (.dK kvs)):kvs.length≤sizeLine∧(a == sysModules)=false∧∃ vs,KV kvs vs∧h.DictOf (mixKind P w) a vs:=em ok (.inl e)
theorem eR {ks:List Key} (ok:HOk P w H h) (e:H a=some (.tup (ks.map kV))):(tupleKind (mixKind P w)).is h ks a:=by
 obtain ⟨_,its,r,o,h1,h2,n,h3⟩:=(show ObjOk P w H h a (.tup (ks.map kV)) from ok a _ e)
 exact ⟨o,its.toArray,n,h1,h2,h3,by simpa using eh r⟩
theorem gQ {kvs:List (List Key×V)} (ok:HOk P w H h) (e:Rd H a (.dT kvs)):kvs.length≤sizeLine∧(a == sysModules)=false ∧
  ∃ xs,KT H kvs xs∧h.DictOfH (tupleKind (mixKind P w)) a xs:=by
 obtain ⟨z,y,xs,r,o,es,ep,h1,h2,h3,h4,h5⟩:=(show ObjOk P w H h a (.dT kvs) from kT ok e)
 refine ⟨z,y,xs,r,o,es,ep,h1,h2,h3,h4,fun x hx=>?_,h5⟩
 have all:∀ {l:List (List Key×V)} {m:List (List Key×Addr×Value)},KT H l m→∀ x∈m,(tupleKind (mixKind P w)).is h x.1 x.2.1:=by
  intro l m q
  induction q with
  | nil=>intro x hx;exact nomatch hx
  | @cons p q ps qs hq t ih =>
   intro x hx
   rcases xAv.mp hx with e | hx
   ·subst e
    exact eR ok (by rw [← hq.1];exact hq.2.1)
   ·exact ih x hx
 exact all r x hx
theorem o8 {kvs:List (List Key×V)} (ok:HOk P w H h) (e:H a=some (.dT kvs)):kvs.length≤sizeLine∧(a == sysModules)=false ∧
  ∃ xs,KT H kvs xs∧h.DictOfH (tupleKind (mixKind P w)) a xs:=gQ ok (.inl e)
end
def DGet (H:Hp) (a:Addr) (y:V) (r:Option V):Prop :=
 (∃ kvs k,Rd H a (.dK kvs)∧y=kV k∧r=valV kvs k)∨∃ kvs k b,Rd H a (.dT kvs)∧y = .ref b∧H b=some (.tup (k.map kV))∧r=valV kvs k
def DPut (H:Hp) (a:Addr) (y v:V) (H':Hp):Prop :=
 (∃ kvs k,H a=some (.dK kvs)∧y=kV k∧kvs.length<sizeLine∧H'=upd H a (.dK (putK kvs k v))) ∨
 ∃ kvs k b,H a=some (.dT kvs)∧y = .ref b∧H b=some (.tup (k.map kV))∧kvs.length<sizeLine∧H'=upd H a (.dT (putK kvs k v))
section
variable {X:Cx} {pins:List (Addr×Obj)} {σ:St} {H:Hp} {s:Shared} {a:Addr} {y v:V} {u r:Value} {o:Option V} {A:Around} {E:Value→Shared→Prop}
theorem Inv.big (I:Inv X pins σ H s):sysModules<s.heap.objs.size:=by
 have h:mainGlobals<s.heap.objs.size:=(I.mod.glob.keeps I.bk).lt
 exact Nat.lt_trans (by decide) h
theorem ir {Q:Value→Shared→Prop} (hu:A.units+1<cLine) (I:Inv X pins σ H s) (g:DGet H a y (some v)) (ry:RelV y u) (h:∀ w' s',Inv X pins σ H s'→RelV v w'→Q w' s') :
  wpAny (model X.prog X.w) A (getItem (.ref a) u) Q E s:=by
 rcases g with ⟨kvs,k,e,ey,l⟩ | ⟨kvs,k,b,e,ey,eb,l⟩
 ·subst ey
  obtain ⟨z,hd,vs,rel,dd⟩:=em I.hok e
  obtain ⟨w',hw,rw'⟩:=RelO.some_of (v:=v) (o:=valueAt vs k) (by rw [l];exact rel.val k)
  exact wpAny_getItem_of (fG ry) dd.mapOf hw (h w' _ (I.tok _) rw')
 ·subst ey
  cases (show u=Value.ref b from ry)
  obtain ⟨z,hd,xs,rel,dd⟩:=gQ I.hok e
  obtain ⟨w',hw,rw'⟩:=RelO.some_of (v:=v) (o:=(atKey xs k).map (·.2)) (by rw [l];exact rel.val k)
  obtain ⟨p,hp,hp2⟩:=xA3.mp hw
  refine wpAny_getItem_heap (tupleKind_room_in1 hu) (eR I.hok eb) dd hp ?_
  rw [hp2]
  exact h w' _ (I.tok _) rw'
theorem kP {Q:Value→Shared→Prop} (hu:A.units+1<cLine) (I:Inv X pins σ H s) (g:DGet H a y o) (ry:RelV y u) (h:∀ s',Inv X pins σ H s'→Q (.bool (!o.isSome)) s') :
  wpAny (model X.prog X.w) A (compareOp .NotIn u (.ref a)) Q E s:=by
 rcases g with ⟨kvs,k,e,ey,l⟩ | ⟨kvs,k,b,e,ey,eb,l⟩
 ·subst ey
  obtain ⟨z,hd,vs,rel,dd⟩:=em I.hok e
  refine wpAny_notIn_of (fG ry) hd dd.mapOf ?_
  rw [← (rel.val k).isSome_eq,← l]
  exact h _ (I.tok _)
 ·subst ey
  cases (show u=Value.ref b from ry)
  obtain ⟨z,hd,xs,rel,dd⟩:=gQ I.hok e
  refine wpAny_notIn_heap (tupleKind_room_in1 hu) (eR I.hok eb) hd dd ?_
  have q:=(rel.val k).isSome_eq
  rw [Option.isSome_map] at q
  rw [← q,← l]
  exact h _ (I.tok _)
theorem eV {h':Heap} {t':Nat} {ob:HO} (I:Inv X pins σ H s) (mu:Mut (H a)) (hs:Heap.SameBut a s.heap h') (he:∃ q,h'.get? a=some q) (new:ObjOk X.prog X.w (upd H a ob) h' a ob) :
  Inv X pins σ (upd H a ob) { s with heap:=h',toks:=t' } :=
 I.write (x:=a) (e:=a) mu (.inl rfl) (fun b q hb z=>(hs.2 b hb).trans z) he new
theorem jy {P:Program} {w:World} {H':Hp} {h':Heap} {kvs:List (Key×V)} {vs:List (Key×Value)} (z:kvs.length≤sizeLine) (hd:(a == sysModules)=false) (rel:KV kvs vs) (dd:h'.DictOf (mixKind P w) a vs) :
  ObjOk P w H' h' a (.dK kvs):=⟨z,hd,vs,rel,dd⟩
theorem iq {H':Hp} {Q:Unit→Shared→Prop} (hu:A.units+1<cLine) (I:Inv X pins σ H s) (g:DPut H a y v H') (ry:RelV y u) (rv:RelV v r) (h:∀ s',Inv X pins σ H' s'→Q () s') :
  wpAny (model X.prog X.w) A (setItem (.ref a) u r) Q E s:=by
 rcases g with ⟨kvs,k,e,ey,l,eH⟩ | ⟨kvs,k,b,e,ey,eb,l,eH⟩
 ·subst ey eH
  obtain ⟨z,hd,vs,rel,dd⟩:=jw I.hok e
  have hz:vs.length≤sizeLine:=by rw [← rel.length];exact z
  have hl:(putK kvs k v).length≤sizeLine:=by have:=bV kvs k v;omega
  refine wpAny_setItem_pairs (hsz:=hz) (fG ry) dd fun h' dd' hs=>h _ ?_
  have he:∃ q,h'.get? a=some q:=let ⟨q,_,_,hq,_⟩:=dd';⟨q,hq⟩
  exact eV I (by rw [e];exact True.intro) hs he (jy hl hd (rel.put k rv) dd')
 ·subst ey eH
  cases (show u=Value.ref b from ry)
  obtain ⟨z,hd,xs,rel,dd⟩:=o8 I.hok e
  have hz:xs.length≤sizeLine:=by rw [← Paired.length rel];exact z
  have hl:(putK kvs k v).length≤sizeLine:=by have:=bV kvs k v;omega
  refine wpAny_setItem_heap (hsz:=hz) (tupleKind_room_in1 hu) (eR I.hok eb) dd fun h' dd' hs=>h _ ?_
  obtain ⟨q,es,ep,hq,h2,h3,h4,_,h5⟩:=dd'
  refine eV I (by rw [e];exact True.intro) hs ⟨q,hq⟩ ⟨hl,hd,_,(rel.put k eb rv).keeps fun c ys ec=>?_,q,es,ep,hq,h2,h3,h4,h5⟩
  rw [ag (oY ec e (fun z=>nomatch z))]
  exact ec
end
section
variable {X:Cx} {pins:List (Addr×Obj)} {σ:St} {H:Hp} {s:Shared} {a:Addr} {kvs:List (Key×V)} {k:Key} {u:Value} {A:Around} {E:Value→Shared→Prop}
theorem o9 {Q:Value→Shared→Prop} (I:Inv X pins σ H s) (e:Rd H a (.dK kvs)) (h:∀ t s',Inv X pins σ H s'→Q (.int kvs.length t) s'):wpAny (model X.prog X.w) A (call (.builtin "len") [.ref a]) Q E s:=by
 obtain ⟨z,hd,vs,rel,dd⟩:=em I.hok e
 refine call_len_dict hd dd (by rw [← rel.length];rw [sizeLine_eq] at z;omega) ?_
 rw [← rel.length]
 exact h _ _ (I.tok _)
end
def NoSl (i:Expr):Prop:=∀ ov iv,subscripted i false ov iv=operate [ov,iv] (getItem ov iv)
theorem jJ {prog:Program} {w:World} {A:Around} {E:Value→Shared→Prop} {s:Shared} {env:Env} {value slice:Expr} {pos:Pos} {T id:String} {Q:Value→Shared→Prop}
  (hl:typeLookup (.type T) "__getitem__"=pure (some (.builtin id))) (hs:NoSl slice)
  (h:wpAny (model prog w) A (eval value env) (fun o s₁=>wpAny (model prog w) A (eval slice env) (fun i s₂=>s₂.TypeIs o T∧wpAny (model prog w) A (getItem o i) Q E s₂) E s₁) E s) :
  wpAny (model prog w) A (eval (.Subscript value slice pos) env) Q E s:=by
 refine Subscript_ (wpAny_mono h (fun o s₁ h₁=>wpAny_mono h₁ (fun i s₂ h₂=>?_) fun _ _ x=>x) fun _ _ x=>x)
 obtain ⟨hT,h₂⟩:=h₂
 unfold subscriptTail
 refine xAd ?_
 rw [getitemInPython_of_ne hT.not_modules]
 refine xAd (wpAny_specialOf hT hl ?_)
 have fin:wpAny (model prog w) A (subscripted slice false o i) (fun r s₃=>wpAny (model prog w) A (letTemporaryGo value o r >>= fun _=>pure r) Q E s₃) E s₂:=by
  rw [hs o i]
  exact wpAny_operating (wpAny_mono h₂ (fun r s₃ h₃=>xAd (wpAny_letTemporaryGo (xAe h₃))) fun _ _ x=>x)
 first
  | exact xAe (xAd fin)
  | exact xAd (xAe (xAd fin))
  | exact xAd fin
theorem fK {X:Cx} {pins:List (Addr×Obj)} {σ:St} {H:Hp} {s:Shared} {a:Addr} {y:V} {o:Option V} (I:Inv X pins σ H s) (g:DGet H a y o):s.TypeIs (.ref a) "dict":=by
 rcases g with ⟨kvs,k,e,_,_⟩ | ⟨kvs,k,b,e,_,_,_⟩
 ·obtain ⟨_,_,vs,_,dd⟩:=em I.hok e
  exact dd.typeIs
 ·obtain ⟨_,_,xs,_,dd⟩:=gQ I.hok e
  exact dd.typeIs
def tDGet (td ty:TE):TE:=fun σ H Q=>td σ H fun x H1=>ty σ H1 fun y H2=>∃ a v,x = .ref a∧DGet H2 a y (some v)∧Q v H2
def tDNotIn (ty td:TE):TE:=fun σ H Q=>ty σ H fun y H1=>td σ H1 fun x H2=>∃ a o,x = .ref a∧DGet H2 a y o∧Q (.bl (!o.isSome)) H2
def sDPut (td ty tv:TE):TS:=fun D σ H=>tv σ H fun v H1=>td σ H1 fun x H2=>ty σ H2 fun y H3=>∃ a H4,x = .ref a∧DPut H3 a y v H4∧D.nx σ H4
section
variable {X:Cx} {o i e value:Expr} {pos pos' tpos:Pos} {td ty tv:TE}
theorem kq (hu:X.A.units+1<cLine) (ho:PE X o td) (hi:PE X i ty) (hs:NoSl i):PE X (.Subscript o i pos) (tDGet td ty):=by
 intro pins s σ H Q I h
 refine jJ PySem.F.slot_dict_getitem.lookup hs (thn (ho pins s σ H _ I h) fun u s1 ⟨x,H1,I1,rx,q1⟩=>thn (hi pins s1 σ H1 _ I1 q1) fun iv s2 ⟨y,H2,I2,ry,a,v,ex,g,q2⟩=>?_)
 subst ex
 obtain rfl:u=Value.ref a:=rx
 exact ⟨fK I2 g,ir hu I2 g ry fun w' s3 I3 rw'=>⟨v,H2,I3,rw',q2⟩⟩
theorem hZ (hu:X.A.units+1<cLine) (hi:PE X i ty) (ho:PE X o td):PC X .NotIn i o (tDNotIn ty td):=by
 intro pins s σ H Q I h
 refine thn (hi pins s σ H _ I h) fun iv s1 ⟨y,H1,I1,ry,q1⟩=>thn (ho pins s1 σ H1 _ I1 q1) fun u s2 ⟨x,H2,I2,rx,a,ov,ex,g,q2⟩=>?_
 subst ex
 obtain rfl:u=Value.ref a:=rx
 exact kP hu I2 g ry fun s3 I3=>⟨.bl (!ov.isSome),H2,I3,rfl,q2⟩
theorem ka (hu:X.A.units+1<cLine) (ho:PE X o td) (hi:PE X i ty) (hv:PE X value tv) (hs:swapsWith value (some (.Subscript o i pos')) pos.line X.env=pure false) :
  PS X (.Assign [.Subscript o i pos'] value pos) (sDPut td ty tv):=by
 intro pins s σ H D I h
 refine wpAny_Assign_Subscript (thn (hv pins s σ H _ I h) fun r s1 ⟨v,H1,I1,rv,q1⟩=>thn (ho pins s1 σ H1 _ I1 q1) fun u s2 ⟨x,H2,I2,rx,q2⟩=>thn (hi pins s2 σ H2 _ I2 q2) fun iv s3 ⟨y,H3,I3,ry,a,H4,ex,g,q3⟩=>?_) hs
 subst ex
 obtain rfl:u=Value.ref a:=rx
 exact iq hu I3 g ry rv fun s4 I4=>⟨σ,H4,I4,q3⟩
end
theorem fJ {P:Program} {w:World} {H:Hp} (h:Heap) (hb:sysModules<h.objs.size):ObjOk P w H (h.push { cls:=.type "dict",data:=.dict #[] }) h.objs.size (.dK []) :=
 ⟨xBn _,beq_eq_false_iff_ne.mpr (Ne.symm (xA0 hb)),[],.nil,Heap.DictOf.new h⟩
def tDNewK:TE:=fun _ H Q=>∀ p,H p=none→Q (.ref p) (upd H p (.dK []))
section
variable {X:Cx} {pos:Pos}
theorem i4:PE X (.Dict [] [] pos) tDNewK:=fun pins s σ H Q I h =>
 wpAny_Dict_empty ⟨.ref s.heap.objs.size,_,I.laid (a:=s.heap.objs.size) (o:=.dK []) (t':=s.toks) (fun _ _ q=>xAf _ q) (xAg _) (fJ s.heap I.big),rfl,h _ (I.hok.fresh (xAg _))⟩
end
def tPairs:List (TE×TE)→St→Hp→(List (V×V)→Hp→Prop)→Prop
 | [],_,H,Q=>Q [] H
 | (tk,tv)::r,σ,H,Q=>tk σ H fun x H1=>tv σ H1 fun y H2=>tPairs r σ H2 fun ps H3=>Q ((x,y)::ps) H3
abbrev VV:List (V×V)→List (Value×Value)→Prop:=Paired fun p q=>RelV p.1 q.1∧RelV p.2 q.2
def PPs (X:Cx) (pos:Pos) (keys:List (Option Expr)) (values:List Expr) (trs:List (TE×TE)):Prop :=
 ∀ (pins:List (Addr×Obj)) (s:Shared) (σ:St) (H:Hp) (Q:List (V×V)→Hp→Prop),Inv X pins σ H s→tPairs trs σ H Q →
  wpAny (model X.prog X.w) X.A (evalPairs (pairTrees keys values X.env pos)) (fun vs s'=>∃ ps H',Inv X pins σ H' s'∧VV ps vs∧Q ps H') X.xe s
theorem kb {X:Cx} {pos:Pos}:PPs X pos [] [] []:=fun pins s σ H Q I h=>pairTrees_nil_walk ⟨[],H,I,.nil,h⟩
theorem iT {X:Cx} {pos:Pos} {k v:Expr} {ks:List (Option Expr)} {vs:List Expr} {tk tv:TE} {trs:List (TE×TE)} (hk:PE X k tk) (hv:PE X v tv) (hr:PPs X pos ks vs trs) :
  PPs X pos (some k::ks) (v::vs) ((tk,tv)::trs):=fun pins s σ H Q I h =>
 pairTrees_cons_walk (thn (hk pins s σ H _ I h) fun u s1 ⟨x,H1,I1,rx,q1⟩=>thn (hv pins s1 σ H1 _ I1 q1) fun w2 s2 ⟨y,H2,I2,ry,q2⟩ =>
  thn (hr pins s2 σ H2 _ I2 q2) fun ws s3 ⟨ps,H3,I3,rel,q3⟩=>⟨(x,y)::ps,H3,I3,.cons ⟨rx,ry⟩ rel,q3⟩)
def mergeK (kvs more:List (Key×V)):List (Key×V):=more.foldl (fun acc kv=>putK acc kv.1 kv.2) kvs
theorem KV.merge:∀ {more:List (Key×V)} {rs:List (Key×Value)} {kvs:List (Key×V)} {vs:List (Key×Value)},KV more rs→KV kvs vs→KV (mergeK kvs more) (merged vs rs):=by
 intro more rs kvs vs r
 unfold KV at r
 induction r generalizing kvs vs with
 | nil=>intro q;exact q
 | @cons p q ps qs h t ih =>
  intro r0
  have e:KV (putK kvs p.1 p.2) (stored vs q.1 q.2):=by
   have:=r0.put p.1 h.2
   rw [← h.1];exact this
  exact ih e
theorem cf:∀ (more kvs:List (Key×V)),(mergeK kvs more).length≤kvs.length+more.length
 | [],kvs=>by show kvs.length≤kvs.length+0;omega
 | p::r,kvs=>by
  have h1:=cf r (putK kvs p.1 p.2)
  have h2:=bV kvs p.1 p.2
  show (mergeK (putK kvs p.1 p.2) r).length≤_
  rw [xAo];omega
theorem dR {P:Program} {w:World}:∀ {kvs:List (Key×V)} {ws:List (Value×Value)},VV (kvs.map fun kv=>(kV kv.1,kv.2)) ws→∃ rs,Carries (mixKind P w) ws rs∧KV kvs rs
 | [],_,r=>by rw [List.map_nil] at r;cases r;exact ⟨[],True.intro,.nil⟩
 | p::kvs,_,r=>by
  rw [xBs] at r
  cases r with
  | @cons a b as bs h t =>
   obtain ⟨rs,c,q⟩:=dR (P:=P) (w:=w) t
   obtain ⟨b1,b2⟩:=b
   exact ⟨(p.1,b2)::rs,⟨fG h.1,rfl,c⟩,.cons ⟨rfl,h.2⟩ q⟩
def tDisp (trs:List (TE×TE)):TE:=fun σ H Q=>∀ p,H p=none→tPairs trs σ (upd H p (.dK [])) fun ps H2=>H2 p=some (.dK [])∧∃ kvs:List (Key×V),ps=kvs.map (fun kv=>(kV kv.1,kv.2))∧kvs.length≤15∧Q (.ref p) (upd H2 p (.dK (mergeK [] kvs)))
theorem kn {X:Cx} {pos:Pos} {keys:List (Option Expr)} {values:List Expr} {trs:List (TE×TE)} (h:PPs X pos keys values trs) (hall:keys.all (·.isSome)=true) (hl:keys.length=values.length) (h0:keys≠[])
  (h15:keys.length≤15):PE X (.Dict keys values pos) (tDisp trs):=by
 intro pins s σ H Q I q
 have hn:=I.hok.fresh (xAg s.heap.objs.size)
 have I1:=I.laid (a:=s.heap.objs.size) (o:=.dK []) (h':=s.heap.push { cls:=.type "dict",data:=.dict #[] }) (t':=s.toks) (fun _ _ q=>xAf _ q) (xAg _) (fJ s.heap I.big)
 refine wpAny_Dict_walk (knd:=mixKind X.prog X.w) hall hl h0 h15 (thn (h pins _ σ _ _ I1 (q _ hn)) fun ws s2 ⟨ps,H2,I2,rel,e,kvs,ep,lk,q2⟩=>?_)
 subst ep
 obtain ⟨rs,c,rk⟩:=dR (P:=X.prog) (w:=X.w) rel
 obtain ⟨z,hd,vs0,r0,dd⟩:=jw I2.hok e
 cases r0
 refine ⟨rs,c,dd,fun h' dd' hs=>⟨.ref s.heap.objs.size,_,?_,rfl,q2⟩⟩
 have hz:(mergeK [] kvs).length≤sizeLine:=by
  have h1:=cf kvs []
  rw [List.length_nil] at h1
  rw [sizeLine_eq];omega
 have he:∃ q,h'.get? s.heap.objs.size=some q:=let ⟨q,_,_,hq,_⟩:=dd';⟨q,hq⟩
 exact eV I2 (by rw [e];exact True.intro) hs he (jy hz hd (rk.merge .nil) dd')
end L2
namespace Att
open PySem PySem.W PySem.Calls PyProof.Rows
theorem c8 {P:Params} {h:Heap}:∀ (ns:List Int) (vs:List Value),WellAll P h vs (ns.map WData.int)→IntsAre vs ns:=by
 intro ns
 induction ns with
 | nil =>
  intro vs w
  rw [List.map_nil] at w
  cases w
  exact .nil
 | cons n ns ih =>
  intro vs w
  rw [xBs] at w
  cases w with
  | cons a b =>
   cases a
   exact .cons _ _ (ih _ b)
theorem g8 {l:OpenLaw} {n:Nat} (hn:l.most=some n) {P:Params} {h:Heap} {args:List WData} {vals:List Value}
  (hpre:l.row.toRowW.claim.pre args=true) (hwl:WellAll P h vals args) :
  ∃ a vs ns,vals=[Value.ref a]∧args=[WData.list (ns.map WData.int)]∧h.get? a=some { cls:=.type "list",data:=.seq vs.toArray }∧IntsAre vs ns∧ns.length≤n:=by
 have hsh:WShape.hasAll [] args [.list .int]=true:=(pre_splitW hpre).1
 have hc:l.pre.holds [] { args:=args }=true:=(pre_splitW hpre).2
 obtain ⟨d,r,rfl,h1,h2⟩:=hasAllW_cons hsh
 obtain rfl:=hasAllW_nil h2
 obtain ⟨xs,rfl,h3⟩:=hasW_list h1
 obtain ⟨ns,rfl⟩:=items_int h3
 have hlen:ns.length≤n:=by
  unfold OpenLaw.pre at hc
  have h4:(WTm.not (.lt (.lit (.int (n:Int))) (.len (.arg 0)))).holds [] { args:=[.list (ns.map .int)] }=true:=by
   have h4:=(holds_andW hc).1
   rw [hn] at h4
   exact h4
  have h5:=condW_of h4 (w_not (w_lt w_lit (w_len_list (w_arg rfl))))
  rw [xAa] at h5
  refine Nat.le_of_not_lt fun q=>?_
  have q':(n:Int)<((ns.length:Nat):Int):=by omega
  first
   | (rw [xBd q'] at h5;exact absurd h5 (by decide))
   | (simp at h5;omega)
 cases hwl with
 | cons w1 w2 =>
  cases w2
  cases w1 with
  | list ho hall=>exact ⟨_,_,ns,rfl,rfl,ho,c8 ns _ hall,hlen⟩
theorem hU (l:OpenLaw) (args:List WData):l.row.toRowW.claim.post args (.bool true) args=true :=
 postW_of (r:=l.row.toRowW) (X:=(true == true))
  (show WShape.has [] (.bool true) .bool=true by first | rfl | decide | simp [WShape.has,WShape.arms,WShape.armsAll])
  (show (WTm.eq .res (.lit (.bool true))).value [] { args:=args,res:=some (.bool true),after:=args }=some (.bool (true == true)) from w_eq_bool (w_res rfl) w_lit) rfl
theorem attach_call {l:OpenLaw} {n:Nat} {q:Program} {loose:List Str} {XP:(Str→Option Value)→Heap→Prop} {YP:World→Heap→Prop} {d:DefRec}
  (hn:l.most=some n) (hdf:d.params.defaults=[])
  (call:∀ (w:World) (s₀ s₁:Shared) (mg mb:Str→Option Value) (fa:Addr) (o:Obj) (pm cd doc:Value) (a:Addr) (vs:List Value) (ns:List Int),
   Ground q loose [] XP w s₀ mg mb s₁.heap→YP w s₁.heap →
   s₁.heap.get? fa=some o→o.data = .func (docDef d.name d.params d.body d.scope pm cd doc)→s₁.heap.CodeRec cd d.name→mg d.name=some (.ref fa) →
   s₁.heap.get? a=some { cls:=.type "list",data:=.seq vs.toArray }→IntsAre vs ns→ns.length≤n→s₁.gens=#[] →
   codeAny (model l.prog w) callerA (.call (.ref fa) ⟨[.ref a],[]⟩) (fun r s'=>r = .ok (.ret (.bool true))∧OldK s₁.heap s'.heap∧s'.os=s₁.os∧AllBare s'.gens) s₁) :
  WalkO q loose XP YP l.row.toRowW d [] (fun f vs=>PySem.call f vs):=by
 intro w s₀ s₁ mg mb G Y fa o pm cd doc dV kV ho hd hcd hD hmg hg args vals as hpre hlay hrd hwl hlo
 obtain rfl:dV = .none:=Dflts.none hD hdf
 obtain rfl:kV = .none:=Dflts.noKw hD
 obtain ⟨a,vs,ns,rfl,rfl,hobj,hints,hlen⟩:=g8 hn hpre hwl
 refine enter_call (codeAny_mono (call w s₀ s₁ mg mb fa o pm cd doc a vs ns G Y ho (fd_plain hd) hcd hmg hobj hints hlen hg) fun r s' hq=>?_)
 obtain ⟨rfl,h2,h3,h4⟩:=hq
 exact ⟨.inl ⟨.bool true,.bool true,[],rfl,fun _=>rfl,.bool true,hU l _,fun _=>⟨List.Pairwise.nil,fun _ hm=>(nomatch hm)⟩⟩,h2,h3,h4⟩
end Att
namespace L2
open PySem PySem.Spec PyProof.Rows
theorem cK:∀ {vs:List Value} {ns:List Int},IntsAre vs ns→Vals (ns.map V.int) vs
 | _,_,.nil=>.nil
 | _,_,.cons n t h=>.cons ⟨t,rfl⟩ (cK h)
def Only (H:Hp):Prop:=∀ b,H b=none∨∃ o xs,H b=some (.frz o (.lst xs))
theorem jj {P:Program} {w:World} {K:xFr} {mg mb:Str→Option Value} {CX:CXT} {k:Nat} {fa a:Addr} {fd:FuncData} {x:Str} {sp:Sp} {s₁:Shared} {vs:List Value} {ns:List Int}
  (KX:K.In s₁.heap) (hns:s₁.heap.Ns mainGlobals mg) (hb:s₁.heap.Ns builtinsNs mb) (hbb:∀ x:Str,x≠"__name__"→mb x=bootBuiltins x) (hlim:s₁.heap.NoLimit) (hg:s₁.gens=#[])
  (ha:s₁.heap.get? a=some { cls:=.type "list",data:=.seq vs.toArray }) (hi:IntsAre vs ns) (hl:ns.length≤sizeLine) (hr:Room k callerA)
  (F:∀ base:Heap,K.In base→base.Ns mainGlobals mg→FnOk P w K mg base CX k fa fd [x] sp) (hbind:∀ (s:Shared) (u:Value),BindsTo s fd ⟨[u],[]⟩ [(x,u)])
  (hsp:∀ H:Hp,Only H→SqL K H a (ns.map V.int)→sp [.ref a] H (fun v _=>v = .bl true) fun _ _ _=>False)
  (hCX:∀ H e s',CX [] H s₁ (fun _ _ _=>False) e s'→False) :
  codeAny (model P w) callerA (.call (.ref fa) ⟨[.ref a],[]⟩) (fun r s'=>r = .ok (.ret (.bool true))∧OldK s₁.heap s'.heap∧s'.os=s₁.os∧AllBare s'.gens) s₁:=by
 have rv:=cK hi
 have lenV:=hi.length
 -- from an abstract heap in which nothing but the script may be tracked
 have core:∀ H:Hp,Only H→SqL K H a (ns.map V.int)→HOk P w H s₁.heap→(∀ b,H b≠none→b=a)→(H a≠none→K.lookup a=none) →
   codeAny (model P w) callerA (.call (.ref fa) ⟨[.ref a],[]⟩) (fun r s'=>r = .ok (.ret (.bool true))∧OldK s₁.heap s'.heap∧s'.os=s₁.os∧AllBare s'.gens) s₁:=by
  intro H hO hS hok hA hK
  have base_of:∀ {b:Addr} {o:Obj},s₁.heap.get? b=some o→H b=none→(hidT s₁.heap H).get? b=some o:=fun e n=>jm e n
  have noA:∀ {b:Addr} {o:Obj} {es:Array DictEntry} {ep:Nat},s₁.heap.get? b=some o→o.data = .dict es ep→H b=none:=fun {b o es ep} e d=>by
   cases q:H b with
   | none=>rfl
   | some u =>
    have e':b=a:=hA b (by rw [q];simp)
    subst e'
    rw [ha] at e;cases e
    have d':Data.seq vs.toArray _=Data.dict es ep:=d
    cases d'
  have nsK:∀ {b:Addr} {m:Str→Option Value},s₁.heap.Ns b m→(hidT s₁.heap H).Ns b m:=fun {b m} ⟨o,es,ep,e,d,r⟩=>⟨o,es,ep,base_of e (noA e d),d,r⟩
  have hKb:K.In (hidT s₁.heap H):=fun b o e=>base_of (KX b o e) (by
   cases q:H b with
   | none=>rfl
   | some u =>
    have e':b=a:=hA b (by rw [q];simp)
    subst e'
    rw [hK (by rw [q];simp)] at e;cases e)
  have hM:Mod K mg (hidT s₁.heap H):=⟨hKb,nsK hns,⟨mb,nsK hb,hbb⟩,let ⟨mc,h1,h2⟩:=hlim;⟨mc,nsK h1,h2⟩⟩
  have e0:Env0 P w K mg (hidT s₁.heap H) callerA [] s₁ H:=⟨rfl,hM,fun b o e=>kL e,Nat.le_of_eq (im _ _),trivial,fun b hb=>absurd (show b∈([]:List Addr) from hb) (by simp),hok,.of_eq hg⟩
  refine codeAny_mono ((F _ hKb (nsK hns)).run callerA [] s₁ H ⟨[.ref a],[]⟩ [.ref a] [.ref a] _ _ hr e0 (hbind s₁ (.ref a)) (.cons rfl .nil) (hsp H hO hS)) fun r s' h=>?_
  cases r with
  | error e=>exact (hCX H e s' h).elim
  | ok fl =>
   cases fl with
   | next=>exact False.elim h
   | brk=>exact False.elim h
   | cont=>exact False.elim h
   | ret u =>
    obtain ⟨v,H',os,bare,un,hok',r',q⟩:=h
    have q':v = .bl true:=q
    subst q'
    obtain rfl:u=Value.bool true:=r'
    refine ⟨rfl,OldK.of_keep fun b o e=>?_,os,bare⟩
    cases q:H b with
    | none=>exact un.keep b o e q (by intro z;exact absurd (show b∈([]:List Addr) from z) (by simp)) (by simp)
    | some u =>
     rcases hO b with z | ⟨ob,xs,z⟩
     ·rw [q] at z;cases z
     ·have z2:=un.frzs b ob _ z
      obtain ⟨e1,_⟩:=hok b _ z
      obtain ⟨e2,_⟩:=hok' b _ z2
      rw [e] at e1;cases e1
      exact e2
 cases hk:K.lookup a with
 | some o =>
  -- the script is one of the module's own objects
  have e:=KX a o hk
  rw [ha] at e
  cases e
  refine core (fun _=>none) (fun _=>.inl rfl) (.inr ⟨_,vs.toArray,_,hk,rfl,rfl,rfl,by rw [xAp,lenV];exact hl,by simpa using rv⟩) (fun b u z=>by have z':(none:Option HO)=some u:=z;cases z') (fun b z=>absurd rfl z) fun z=>absurd rfl z
 | none =>
  refine core (fun b=>if b=a then some (.frz { cls:=.type "list",data:=.seq vs.toArray } (.lst (ns.map V.int))) else none) (fun b=>?_) (.inl (.inr ⟨{ cls:=.type "list",data:=.seq vs.toArray },xCg rfl⟩)) (fun b u z=>?_) (fun b z=>?_) fun _=>hk
  ·by_cases hb:b=a
   ·exact .inr ⟨_,_,xCg hb⟩
   ·exact .inl (xCf hb)
  ·by_cases hb:b=a
   ·have z':=(xCg hb).symm.trans z
    cases z'
    subst hb
    exact ⟨ha,by rw [xAa];exact hl,vs,_,rv,ha⟩
   ·have z':=(xCf hb).symm.trans z
    cases z'
  ·by_cases hb:b=a
   ·exact hb
   ·exact absurd (xCf hb) z
end L2
namespace L2
open PySem PySem.Spec PyProof.Rows
theorem walk_of {l:PySem.W.OpenLaw} {n k:Nat} {q:Program} {loose:List Str} {XP:(Str→Option Value)→Heap→Prop} {YP:World→Heap→Prop} {d:DefRec} {K:Params→xFr} {CX:World→CXT} {sp:World→Sp} {x:Str}
  (hn:l.most=some n) (hn2:n≤sizeLine) (hdf:d.params.defaults=[]) (hr:Room k callerA)
  (hY:∀ (w:World) (h:Heap),YP w h→(K w.params).In h)
  (F:∀ (w:World) (mg:Str→Option Value) (fa:Addr) (h:Heap),(K w.params).In h→h.Ns mainGlobals mg→mg d.name=some (.ref fa) →
   ∃ fd:FuncData,(∀ (s:Shared) (u:Value),BindsTo s fd ⟨[u],[]⟩ [(x,u)]) ∧
    ∀ base:Heap,(K w.params).In base→base.Ns mainGlobals mg→FnOk l.prog w (K w.params) mg base (CX w) k fa fd [x] (sp w))
  (hsp:∀ (w:World) (H:Hp) (a:Addr) (ns:List Int),ns.length≤n→Only H→SqL (K w.params) H a (ns.map V.int)→sp w [.ref a] H (fun v _=>v = .bl true) fun _ _ _=>False)
  (hCX:∀ (w:World) (H:Hp) (s:Shared) (e:Value) (s':Shared),CX w [] H s (fun _ _ _=>False) e s'→False) :
  PySem.W.WalkO q loose XP YP l.row.toRowW d [] (fun f vs=>PySem.call f vs):=by
 refine Att.attach_call hn hdf fun w s₀ s₁ mg mb fa o pm cd doc a vs ns G Y ho hd hcd hmg hobj hints hlen hg=>?_
 have KX:=hY w _ Y
 obtain ⟨fd,hb,hF⟩:=F w mg fa _ KX G.T.g hmg
 exact jj KX G.T.g G.T.b G.T.builtins G.T.nolimit hg hobj hints (Nat.le_trans hlen hn2) hr hF hb (fun H hO hS=>hsp w H a ns hlen hO hS) fun H e s'=>hCX w H s₁ e s'
end L2
namespace L2
open PySem PySem.Spec PyProof.Rows
def inClass (s:Stmt) (j:Nat):Stmt:=match s with
 | .ClassDef _ _ _ body _ _ _ _ _ _ _=>body.getD j (.Pass ⟨0,0,0,0⟩)
 | _=>.Pass ⟨0,0,0,0⟩
def defArgs (s:Stmt):Arguments:=match s with
 | .FunctionDef _ a _ _ _ _ _ _ _ _=>a
 | _=>{ posonlyargs:=[],args:=[],vararg:=none,kwonlyargs:=[],kw_defaults:=[],kwarg:=none,defaults:=[] }
def defBody (s:Stmt):List Stmt:=match s with
 | .FunctionDef _ _ b _ _ _ _ _ _ _=>b
 | _=>[]
def defScope (s:Stmt):Scope:=match s with
 | .FunctionDef _ _ _ _ _ _ sc _ _ _=>sc
 | _=>{ kind:=.function,names:=[],isGenerator:=false,isCoroutine:=false }
abbrev CX0:CXT:=fun _ _ _ _ _ _=>False
abbrev E0:XK:=fun _ _ _=>False
theorem pass0 {X:Cx}:Passes CX0 X E0:=fun _ _ _ _ _ _ _ h=>h.elim
structure Fun (K:xFr) (x qual:Str) (st:Stmt) (f:Addr) (fd:FuncData):Prop where
 ex:∃ (oc:Value) (od:Option Addr) (kV doc pm:Value) (an:Option Addr) (cdv ct:Value) (osl:Array (Option Value)),
  fd=PySem.W.fnOf x qual (defArgs st) (defBody st) (defScope st) .none kV doc pm an cdv ct∧K.lookup f=some ⟨oc,od,.func fd,osl⟩∧PySem.W.codeIn K cdv qual=true
 kp:PySem.W.keepIn K (.ref f)=true
section
variable {P:Program} {w:World} {K:xFr} {mg:Str→Option Value} {base:Heap}
theorem Fun.ok {x qual:Str} {st:Stmt} {f:Addr} {fd:FuncData} {N ps:List Str} {k:Nat} {sp:Sp} (F:Fun K x qual st f fd) (S:FnScope N ps (defScope st)) (len:∀ vs H Q E,sp vs H Q E→vs.length=ps.length)
  (hbody:∀ (cdv:Value) (A:Around) (outer:List Env) (s:Shared) (H:Hp) (vs:List V) (Q:VK) (E:XK),Room k (A.deeper (envOfC qual (defScope st) s.heap.objs.size f cdv))→sp vs H Q E →
   ∃ t,PSs (cxOf CX0 P w K mg base N qual (defScope st) f cdv A outer s H E).nox (defBody st) t∧t { nx:=fun _ H'=>Q .non H',rt:=Q } (start N vs) H):FnOk P w K mg base CX0 (k+1) f fd ps sp:=by
 obtain ⟨oc,od,kV,doc,pm,an,cdv,ct,osl,rfl,lk,hcd⟩:=F.ex
 refine o7 lk hcd S len fun A outer s H vs Q E hr hsp=>?_
 obtain ⟨t,h,q⟩:=hbody cdv A outer s H vs Q E hr hsp
 exact ⟨t,h.nox,q⟩
theorem Fun.binds {x qual:Str} {st:Stmt} {f:Addr} {fd:FuncData} {ps:List Str} (F:Fun K x qual st f fd)
  (h:∀ (kV doc pm:Value) (an:Option Addr) (cdv ct:Value) (us:List Value),us.length=ps.length→bindArgs (PySem.W.fnOf x qual (defArgs st) (defBody st) (defScope st) .none kV doc pm an cdv ct) ⟨us,[]⟩=pure (ps.zip us)):Binds K fd ps []:=by
 obtain ⟨oc,od,kV,doc,pm,an,cdv,ct,osl,rfl,lk,hcd⟩:=F.ex
 exact .all (h kV doc pm an cdv ct)
theorem aN {x qual:Str} {st:Stmt} {f:Addr} {oc:Value} {od an:Option Addr} {osl:Array (Option Value)} {kV doc pm cdv ct:Value} (l:K.lookup f=some ⟨oc,od,.func (PySem.W.fnOf x qual (defArgs st) (defBody st) (defScope st) .none kV doc pm an cdv ct),osl⟩)
  (c:PySem.W.codeIn K cdv qual=true) (k:PySem.W.keepIn K (.ref f)=true):Fun K x qual st f (PySem.W.fnOf x qual (defArgs st) (defBody st) (defScope st) .none kV doc pm an cdv ct):=⟨⟨oc,od,kV,doc,pm,an,cdv,ct,osl,rfl,l,c⟩,k⟩
end
theorem cg {A:Around} {k:Nat} (hr:Room k A):A.units+1<cLine:=Nat.lt_of_le_of_lt (Nat.add_le_add_left (by decide:1≤64) _) hr.units
theorem small1000 {n:Nat} (h:n≤1000):n<sizeLine:=Nat.lt_of_le_of_lt h (by decide)
def Same (H H':Hp):Prop:=∀ b o,H b=some o→H' b=some o
theorem Same.refl (H:Hp):Same H H:=fun _ _ h=>h
theorem Same.trans {H H1 H2:Hp} (a:Same H H1) (b:Same H1 H2):Same H H2:=fun c o h=>b c o (a c o h)
theorem Same.free {H H':Hp} (e:Same H H') {l:Addr} (h:H' l=Option.none):H l=Option.none:=by
 cases q:H l with
 | none=>rfl
 | some o =>
  rw [e l o q] at h
  cases h
theorem Same.seq {K:xFr} {H H':Hp} {a:Addr} {xs:List V} (e:Same H H') (h:SqL K H a xs):SqL K H' a xs:=by
 rcases h with (h | ⟨o,h⟩) | h
 ·exact .inl (.inl (e _ _ h))
 ·exact .inl (.inr ⟨o,e _ _ h⟩)
 ·exact .inr h
section
variable {X:Cx}
theorem iu:CallR X (.builtin "len") (fun xs H Q=>∃ a kvs,xs=[V.ref a]∧H a=some (.dK kvs)∧Q (.int kvs.length) H):=by
 intro pins s σ H xs us Q I r h
 obtain ⟨a,kvs,rfl,ha,q⟩:=h
 obtain ⟨u,rfl,ru⟩:=vals1 r
 cases ru
 exact o9 I (.inl ha) fun t s' I'=>⟨.int kvs.length,H,I',⟨t,rfl⟩,q⟩
end
end L2
namespace L2
open PySem PySem.Spec PyProof.Rows
def cxComp (X:Cx) (N:List Str) (scope:Scope) (cl:List (Str×Addr)) (C:Addr) (s:Shared) (H:Hp) (fp:List Addr):Cx where
 prog:=X.prog
 w:=X.w
 K:=X.K
 mg:=X.mg
 base:=X.base
 A:=X.A
 N:=N
 s₀:=s
 H₀:=H
 env:=compEnvC scope cl C X.env
 outer:=X.stack
 stack:=X.stack
 ex:=fp
 fn:=fun _=>false
 calm:=X.calm
 pn:=[]
 xe:=fun _ _=>False
theorem cY {env:Env} {scope:Scope} {y:Str} {k:NameKind} (h:(relabel scope env).names.lookup y=some k):∃ k0,(y,k0)∈scope.names∧(k=k0∨(k0 = .free∧k = .cell)):=by
 unfold relabel at h
 dsimp only at h
 revert h
 generalize scope.names=l
 intro h
 induction l with
 | nil=>simp at h
 | cons a r ih =>
  obtain ⟨n,k1⟩:=a
  rw [xBs] at h
  by_cases hc:(k1 == NameKind.free && env.scope.kind == .function && env.kindOf n == some .cell)=true
  ·dsimp only at h
   rw [xCg hc] at h
   rw [List.lookup_cons] at h
   by_cases e:y == n
   ·rw [e] at h
    have e':y=n:=eq_of_beq e
    subst e'
    have hk:k1 = .free:=by
     rw [Bool.and_eq_true,Bool.and_eq_true] at hc
     exact eq_of_beq hc.1.1
    subst hk
    exact ⟨.free,xAr,.inr ⟨rfl,(xB3 h).symm⟩⟩
   ·rw [Bool.eq_false_iff.mpr e] at h
    obtain ⟨k0,m,z⟩:=ih h
    exact ⟨k0,xAs _ m,z⟩
  ·dsimp only at h
   rw [xCf hc] at h
   rw [List.lookup_cons] at h
   by_cases e:y == n
   ·rw [e] at h
    have e':y=n:=eq_of_beq e
    subst e'
    exact ⟨k1,xAr,.inl (xB3 h).symm⟩
   ·rw [Bool.eq_false_iff.mpr e] at h
    obtain ⟨k0,m,z⟩:=ih h
    exact ⟨k0,xAs _ m,z⟩
theorem b8 {env:Env} {scope:Scope} {y:Str} (h:scope.names.lookup y=some .free):(relabel scope env).names.lookup y=some .cell∨(relabel scope env).names.lookup y=some .free:=by
 unfold relabel
 dsimp only
 revert h
 generalize scope.names=l
 intro h
 induction l with
 | nil=>simp at h
 | cons a r ih =>
  obtain ⟨n,k1⟩:=a
  rw [xBs]
  rw [List.lookup_cons] at h
  by_cases hc:(k1 == NameKind.free && env.scope.kind == .function && env.kindOf n == some .cell)=true
  ·dsimp only
   rw [xCg hc]
   rw [List.lookup_cons]
   by_cases e:y == n
   ·rw [e];exact .inl rfl
   ·rw [Bool.eq_false_iff.mpr e] at h ⊢
    exact ih h
  ·dsimp only
   rw [xCf hc]
   rw [List.lookup_cons]
   by_cases e:y == n
   ·rw [e] at h ⊢
    exact .inr h
   ·rw [Bool.eq_false_iff.mpr e] at h ⊢
    exact ih h
def capV (σ:St) (fr:List Nat):St:=fr.map fun k=>(σ[k]?).join
end L2
namespace L2
open PySem PySem.Spec PyProof.Rows
end L2
namespace L2
open PySem PySem.Spec PyProof.Rows
section
variable {X:Cx}
theorem iw:CallR X (.builtin "isinstance") (fun xs H Q=>∃ x n t b,xs=[x,V.ty n]∧TyOf X.K H x t∧PySem.W.kitOne X.K t (.type n)=some b∧Q (.bl b) H):=by
 intro pins s σ H xs us Q I r h
 obtain ⟨x,n,t,b,rfl,ty,e,q⟩:=h
 obtain ⟨u,u2,rfl,ru,ru2⟩:=vals2 r
 cases (show u2=Value.type n from ru2)
 exact ij I ru ty e fun tk=>⟨.bl b,H,I.tok tk,rfl,q⟩
theorem bH:bootBuiltins "isinstance"=some (.builtin "isinstance"):=by decide +kernel
theorem ju {x:V} (h:flatV x=true):eqV x x=true:=by
 cases x <;> first | rfl | (exact absurd (show false=true from h) (by decide)) | (simp [eqV])
end
theorem small {n:Nat} (h:n≤1000):n≤sizeLine:=Nat.le_of_lt (small1000 h)
theorem am {H:Hp} {p:Addr} (h:H p=none) (o:HO):Same H (upd H p o):=fun b u q=>by rw [ag (aF q h)];exact q
end L2
namespace L2
open PySem PySem.Spec PyProof.Rows
theorem bb {xs:List V} {us:List Value} (r:Vals xs us) {j:Nat} (hj:j<us.toArray.size):∃ x,xs[j]?=some x∧RelV x us.toArray[j]:=by
 rw [xAp] at hj
 have jx:j<xs.length:=by rw [r.length];exact hj
 obtain ⟨u,e,q⟩:=r.get (xAk jx)
 refine ⟨xs[j],xAk jx,?_⟩
 rw [List.getElem_toArray]
 have:us[j]=u:=(xAq.mp e).2
 rw [this]
 exact q
end L2
namespace L2
open PySem PySem.Spec PyProof.Rows
end L2
namespace L2
open PySem PySem.Spec PyProof.Rows PySem.Builtin PySem.Builtin.ObjectAttr
end L2
namespace L2
open PySem PySem.Spec PyProof.Rows PySem.Builtin PySem.Builtin.ObjectAttr
end L2
namespace L2
open PySem PySem.Spec PyProof.Rows PySem.Builtin PySem.Builtin.ObjectAttr
end L2
namespace L2
open PySem PySem.Spec PyProof.Rows PySem.Builtin PySem.Builtin.ObjectAttr
theorem ObjOk.there {P:Program} {w:World} {H:Hp} {h:Heap} {a:Addr} {o:HO} (x:ObjOk P w H h a o):∃ u,h.get? a=some u:=by
 cases o with
 | lst xs=>obtain ⟨_,_,_,_,e⟩:=x;exact ⟨_,e⟩
 | tup xs=>obtain ⟨_,_,_,ob,e,_⟩:=x;exact ⟨_,e⟩
 | dK kvs=>obtain ⟨_,_,_,_,o,_,_,e,_⟩:=x;exact ⟨_,e⟩
 | dT kvs=>obtain ⟨_,_,_,_,o,_,_,e,_⟩:=x;exact ⟨_,e⟩
 | set S n=>obtain ⟨o,_,_,_,e,_⟩:=x;exact ⟨_,e⟩
 | ins C dx fs=>obtain ⟨_,_,_,e,_⟩:=x;exact ⟨_,e⟩
 | own y=>obtain ⟨_,e⟩:=x;exact ⟨_,e⟩
 | xd fs=>obtain ⟨_,⟨_,_,_,e,_⟩,_⟩:=x;exact ⟨_,e⟩
 | rng lo hi=>obtain ⟨_,_,_,e⟩:=x;exact ⟨_,e⟩
 | frz ob u=>obtain ⟨e,_⟩:=x;exact ⟨_,e⟩
 | tbl ps=>exact ⟨_,(show h.get? a=some _ from x)⟩
 | met f y=>exact ⟨_,(show h.get? a=some _ from x)⟩
 | ext φ=>obtain ⟨_,e,_⟩:=x;exact e
section
variable {X:Cx} {pins:List (Addr×Obj)} {σ:St} {H:Hp} {s:Shared} {h':Heap}
theorem Inv.laidN {a:Addr} {o:HO} {t':Nat} (I:Inv X pins σ H s) (k:∀ b u,s.heap.get? b=some u→h'.get? b=some u) (hf:s.heap.get? a=none) (new:ObjOk X.prog X.w (upd H a o) h' a o) :
  H a=none∧Inv X pins σ (upd H a o) { s with heap:=h',toks:=t' }:=by
 have hn:H a=none:=by
  cases q:H a with
  | none=>rfl
  | some u =>
   obtain ⟨v,e⟩:=(I.hok a u q).there
   rw [hf] at e
   cases e
 refine ⟨hn,I.un ⟨fun b u q _ _ _=>k b u q,fun b u q _ _ _=>⟨u.slots,k b u q⟩,fun b u q n _=>?_,fun b u q _=>⟨u,k b u q⟩,fun b xs q=>?_,fun b u xs q=>?_,fun b ps q=>⟨#[],?_⟩⟩ fun b u e=>?_⟩
 ·rw [ag (fun z=>by rw [z,hf] at q;cases q)]
  exact n
 ·rw [ag (aF q hn)];exact q
 ·rw [ag (aF q hn)];exact q
 ·rw [ag (aF q hn),q,Array.append_empty]
 ·by_cases hb:b=a
  ·subst hb;rw [ac] at e;cases e;exact new
  ·rw [ag hb] at e
   exact (I.hok b u e).stay (fun c v _ q=>k c v q) (fun c q=>by rw [ag (aF q hn)];exact q) fun c xs q=>by rw [ag (aF q hn)];exact q
end
end L2
namespace L2
open PySem PySem.Spec PyProof.Rows PySem.Builtin PySem.Builtin.ObjectAttr
end L2
namespace L2
open PySem PySem.Spec PyProof.Rows PySem.Builtin PySem.Builtin.ObjectAttr
end L2
namespace L2
open PySem PySem.Spec PyProof.Rows PySem.Builtin PySem.Builtin.ObjectAttr
end L2
namespace L2
open PySem PySem.Spec PyProof.Rows PySem.Builtin PySem.Builtin.ObjectAttr
end L2
namespace L2
open PySem PySem.Spec PyProof.Rows
inductive Al (H:Hp):Nat→V→V→Prop where
 | flat {n:Nat} {x:V}:flatV x=true→Al H n x x
 | same {n:Nat} {a:Addr}:Al H n (.ref a) (.ref a)
 | tup {n:Nat} {a b:Addr} {xs ys:List V}:H a=some (.tup xs)→H b=some (.tup ys)→xs.length=ys.length→(∀ (j:Nat) (x y:V),xs[j]?=some x→ys[j]?=some y→Al H n x y)→Al H (n+1) (.ref a) (.ref b)
 | lst {n:Nat} {a b:Addr} {xs ys:List V}:H a=some (.lst xs)→H b=some (.lst ys)→xs.length=ys.length→(∀ (j:Nat) (x y:V),xs[j]?=some x→ys[j]?=some y→Al H n x y)→Al H (n+1) (.ref a) (.ref b)
theorem eZ {P:Program} {w:World} {H:Hp} {s:Shared} (hok:HOk P w H s.heap) {n:Nat} {x y:V} (h:Al H n x y):∀ {A:Around} {u v:Value},RelV x u→RelV y v→A.units+n<cLine→SeqAt.EqAt A s u v true:=by
 induction h with
 | @flat n x f =>
  intro A u v r1 r2 _
  have:=jv (A:=A) (s:=s) r1 r2 f f
  rw [ju f] at this
  exact this
 | @same n a =>
  intro A u v r1 r2 _
  cases (show u=Value.ref a from r1)
  cases (show v=Value.ref a from r2)
  exact SeqAt.EqAt.same _
 | @tup n a b xs ys ea eb el _ ih =>
  intro A u v r1 r2 hu
  cases (show u=Value.ref a from r1)
  cases (show v=Value.ref b from r2)
  by_cases hab:a=b
  ·subst hab
   exact SeqAt.EqAt.same _
  ·obtain ⟨_,its,q1,t1⟩:=(show ObjOk P w H s.heap a (.tup xs) from hok a _ ea)
   obtain ⟨_,its2,q2,t2⟩:=(show ObjOk P w H s.heap b (.tup ys) from hok b _ eb)
   have he:∀ j (h1:j<its.toArray.size) (h2:j<its2.toArray.size),SeqAt.EqAt A.in1 s its.toArray[j] its2.toArray[j] ((fun _=>true) j):=fun j j1 j2=>by
    obtain ⟨x1,e1,g1⟩:=bb q1 j1
    obtain ⟨y1,e2,g2⟩:=bb q2 j2
    exact ih j x1 y1 e1 e2 g1 g2 (by show A.units+1+n<cLine;omega)
   refine SeqAt.EqAt.of_refs hab ?_
   have:=SeqAt.RcAt.tuples (e:=fun _=>true) t1 t2 (by omega) he
   have ev:((List.range (min its.toArray.size its2.toArray.size)).all (fun _=>true) && its.toArray.size == its2.toArray.size)=true:=by
    rw [xAp,xAp,← q1.length,← q2.length,el]
    simp
   rw [ev] at this
   exact this
 | @lst n a b xs ys ea eb el _ ih =>
  intro A u v r1 r2 hu
  cases (show u=Value.ref a from r1)
  cases (show v=Value.ref b from r2)
  by_cases hab:a=b
  ·subst hab
   exact SeqAt.EqAt.same _
  ·obtain ⟨_,its,n1,q1,t1⟩:=(show ObjOk P w H s.heap a (.lst xs) from hok a _ ea)
   obtain ⟨_,its2,n2,q2,t2⟩:=(show ObjOk P w H s.heap b (.lst ys) from hok b _ eb)
   have he:∀ j (h1:j<its.toArray.size) (h2:j<its2.toArray.size),SeqAt.EqAt A.in1 s its.toArray[j] its2.toArray[j] ((fun _=>true) j):=fun j j1 j2=>by
    obtain ⟨x1,e1,g1⟩:=bb q1 j1
    obtain ⟨y1,e2,g2⟩:=bb q2 j2
    exact ih j x1 y1 e1 e2 g1 g2 (by show A.units+1+n<cLine;omega)
   refine SeqAt.EqAt.of_refs hab ?_
   have es:its.toArray.size=its2.toArray.size:=by rw [xAp,xAp,← q1.length,← q2.length,el]
   have:=SeqAt.RcAt.lists (e:=fun _=>true) ⟨_,t1,rfl,_,rfl⟩ ⟨_,t2,rfl,_,rfl⟩ es (by omega) he
   have ev:(List.range its.toArray.size).all (fun _=>true)=true:=List.all_eq_true.mpr fun _ _=>rfl
   rw [ev] at this
   exact this
section
variable {X:Cx}
def rAl (b:Bool):R2:=fun x y H Q=>∃ p q xs ys n,x = .ref p∧y = .ref q∧H p=some (.tup xs)∧H q=some (.tup ys)∧xs.length=ys.length∧n≤30∧(∀ (j:Nat) (x y:V),xs[j]?=some x→ys[j]?=some y→Al H n x y)∧Q (.bl b) H
theorem eK (hu:X.A.units+40<cLine):OpR X (compareOp .NotEq) (rAl false):=by
 intro pins s σ H x y v u Q I rx ry h
 obtain ⟨a,b,xs,ys,n,rfl,rfl,ea,eb,el,hn,al,q⟩:=h
 cases (show v=Value.ref a from rx)
 cases (show u=Value.ref b from ry)
 obtain ⟨_,its,q1,t1⟩:=(show ObjOk X.prog X.w H s.heap a (.tup xs) from I.hok a _ ea)
 obtain ⟨_,its2,q2,t2⟩:=(show ObjOk X.prog X.w H s.heap b (.tup ys) from I.hok b _ eb)
 have he:∀ j (h1:j<its.toArray.size) (h2:j<its2.toArray.size),SeqAt.EqAt X.A.in1 s its.toArray[j] its2.toArray[j] ((fun _=>true) j):=fun j j1 j2=>by
  obtain ⟨x1,e1,g1⟩:=bb q1 j1
  obtain ⟨y1,e2,g2⟩:=bb q2 j2
  exact eZ I.hok (al j x1 y1 e1 e2) g1 g2 (by show X.A.units+1+n<cLine;omega)
 refine (SeqAt.RcNeAt.tuples (e:=fun _=>true) t1 t2 (by omega) he) X.prog X.w X.xe _ ?_
 refine ak I q ?_
 rw [xAp,xAp,← q1.length,← q2.length,el]
 simp
theorem kB (hu:X.A.units+40<cLine):OpR X (compareOp .Eq) (rAl true):=by
 intro pins s σ H x y v u Q I rx ry h
 obtain ⟨a,b,xs,ys,n,rfl,rfl,ea,eb,el,hn,al,q⟩:=h
 cases (show v=Value.ref a from rx)
 cases (show u=Value.ref b from ry)
 obtain ⟨_,its,q1,t1⟩:=(show ObjOk X.prog X.w H s.heap a (.tup xs) from I.hok a _ ea)
 obtain ⟨_,its2,q2,t2⟩:=(show ObjOk X.prog X.w H s.heap b (.tup ys) from I.hok b _ eb)
 have he:∀ j (h1:j<its.toArray.size) (h2:j<its2.toArray.size),SeqAt.EqAt X.A.in1 s its.toArray[j] its2.toArray[j] ((fun _=>true) j):=fun j j1 j2=>by
  obtain ⟨x1,e1,g1⟩:=bb q1 j1
  obtain ⟨y1,e2,g2⟩:=bb q2 j2
  exact eZ I.hok (al j x1 y1 e1 e2) g1 g2 (by show X.A.units+1+n<cLine;omega)
 refine SeqAt.eq_tupleAt (e:=fun _=>true) t1 t2 (by omega) he ?_
 refine ak I q ?_
 rw [xAp,xAp,← q1.length,← q2.length,el]
 simp
end
def Kept (fp:List Addr) (H H':Hp):Prop:=∀ b o,H b=some o→b ∉ fp→H' b=some o
section
variable {fp fq:List Addr} {H H1 H2:Hp}
theorem Kept.refl:Kept fp H H:=fun _ _ e _=>e
theorem Kept.of (s:Same H H1):Kept fp H H1:=fun b o e _=>s b o e
theorem Kept.trans (a:Kept fp H H1) (b:Kept fp H1 H2):Kept fp H H2:=fun c o e n=>b c o (a c o e n) n
theorem Kept.mono (a:Kept fp H H1) (h:∀ b∈fp,b∈fq):Kept fq H H1:=fun c o e n=>a c o e fun z=>n (h c z)
theorem Kept.put {a:Addr} {o:HO} (h:a∈fp):Kept fp H (upd H a o):=fun c u e n=>by
 have ne:c≠a:=fun z=>n (by rw [z];exact h)
 rw [ag ne]
 exact e
end
end L2
namespace Tim
open PySem PyProof.Rows
def Inc (xs:Array Keyed) (lo hi:Nat):Prop:=∀ i j,lo≤i→i≤j→j<hi→K xs i≤K xs j
def Dec (xs:Array Keyed) (lo hi:Nat):Prop:=∀ i j,lo≤i→i≤j→j<hi→K xs j≤K xs i
def Off (xs ys:Array Keyed) (lo hi:Nat):Prop:=∀ i,(i<lo∨hi≤i)→K xs i=K ys i
theorem Off.refl {xs:Array Keyed} {lo hi:Nat}:Off xs xs lo hi:=fun _ _=>rfl
theorem Off.trans {xs ys zs:Array Keyed} {lo hi:Nat} (a:Off xs ys lo hi) (b:Off ys zs lo hi):Off xs zs lo hi:=fun i h=>(a i h).trans (b i h)
theorem Off.wide {xs ys:Array Keyed} {lo hi lo' hi':Nat} (a:Off xs ys lo hi) (h1:lo'≤lo) (h2:hi≤hi'):Off xs ys lo' hi':=fun i h=>a i (by omega)
structure SB (a₀:Array Keyed) (st:SortSt):Prop where
 perm:(arrOf st).Perm a₀
 kind:kindOf st=oneType'
 failed:failedOf st=none
theorem SB.size {a₀:Array Keyed} {st:SortSt} (h:SB a₀ st):(arrOf st).size=a₀.size:=h.perm.size_eq
theorem SB.set {a₀:Array Keyed} {st:SortSt} (h:SB a₀ st) {xs:Array Keyed} (hp:xs.Perm (arrOf st)):SB a₀ (setArr st xs):=⟨hp.trans h.perm,h.kind,h.failed⟩
theorem eS {a:Array Keyed} (h:IntKeys a) {i:Nat} (hi:i<a.size):∃ t q,a[i]?=some (.int (K a i) t,q):=by
 have e:a[i]?=some a[i]:=getElem?_pos _ i hi
 obtain ⟨n,t,hn⟩:=h a[i] (by simp)
 refine ⟨t,a[i].2,?_⟩
 unfold K
 rw [e,show a[i]=(.int n t,a[i].2) from Prod.ext hn rfl]
 rfl
theorem IntKeys.perm {a b:Array Keyed} (h:IntKeys a) (p:b.Perm a):IntKeys b:=fun q hq=>h q ((Array.perm_iff_toList_perm.mp p).mem_iff.mp hq)
section
variable {prog:Program} {w:World} {A:Around} {E:Value→Shared→Prop} {s:Shared} {a₀:Array Keyed}
theorem gJ {st:SortSt} {x y:Keyed} {a b:Int} {t u:Tok} {Q:Option Bool→SortSt→Prop} (hk:kindOf st=oneType') (hx:x.1 = .int a t) (hy:y.1 = .int b u) (h:Q (some (decide (a<b))) st):wpS (model prog w) A E s (lt' x y) Q st:=by
 rw [lt'_eq]
 refine xCd (wpS_get ?_)
 rw [hk,keyLt'_oneType,hx,hy]
 refine xCd (wpS_lift (wpAny_attempt (oneLt_int ⟨rfl,?_⟩)))
 exact xCe h
theorem cE {st:SortSt} {i j:Nat} {Q:Option Bool→SortSt→Prop} (hB:SB a₀ st) (h0:IntKeys a₀) (hi:i<a₀.size) (hj:j<a₀.size)
  (h:Q (some (decide (K (arrOf st) i<K (arrOf st) j))) st):wpS (model prog w) A E s (ltAt' i j) Q st:=by
 obtain ⟨t,p,e1⟩:=eS (IntKeys.perm h0 hB.perm) (show i<(arrOf st).size by rw [hB.size];exact hi)
 obtain ⟨u,q,e2⟩:=eS (IntKeys.perm h0 hB.perm) (show j<(arrOf st).size by rw [hB.size];exact hj)
 exact wpS_ltAt hB.kind e1 e2 h
theorem ax {st:SortSt} {arr:Array Keyed} {i:Nat} {Q:Keyed→SortSt→Prop} (hi:i<arr.size) (h:Q arr[i] st):wpS (model prog w) A E s (elem' arr i) Q st:=by
 rw [elem'_eq,getElem?_pos _ i hi]
 exact xCe h
theorem asc_ok {st:SortSt} {lo n₀ nrem:Nat} {Q:Option (Option Nat)×Nat→SortSt→Prop} (h0:IntKeys a₀) (hn:lo+nrem≤a₀.size) (h1:1≤n₀) (h2:n₀≤nrem) (hB:SB a₀ st) (hs:Inc (arrOf st) lo (lo+n₀))
  (h:∀ n,n₀≤n→n≤nrem→Inc (arrOf st) lo (lo+n)→(n=nrem∨K (arrOf st) (lo+n)<K (arrOf st) (lo+n - 1))→Q (none,n) st) :
  wpS (model prog w) A E s (forIn [n₀:nrem] ((none,n₀):Option (Option Nat)×Nat) fun _ z=>do
   let x ← ltAt' (lo+z.snd) (lo+z.snd - 1)
   match x with
   | some smaller=>if smaller=true then pure (ForInStep.done (none,z.snd)) else pure (ForInStep.yield (none,z.snd+1))
   | _=>pure (ForInStep.done (some none,z.snd))) Q st:=by
 refine wpS_forRange (I:=fun x c st'=>st'=st∧c=(none,x)∧Inc (arrOf st) lo (lo+x)) ?step ?fin ⟨rfl,rfl,hs⟩
 case fin =>
  rintro c st' ⟨rfl,rfl,hs'⟩
  rw [show max n₀ nrem=nrem by omega] at hs' ⊢
  exact h nrem h2 (xAg _) hs' (.inl rfl)
 case step =>
  rintro x c st' hax hxn ⟨rfl,rfl,hs'⟩
  dsimp only
  refine xCd (cE hB h0 (by omega) (by omega) ?_)
  by_cases hl:K (arrOf st') (lo+x)<K (arrOf st') (lo+x - 1)
  ·simp only [hl,decide_true,if_true]
   exact xCe (h x hax (by omega) hs' (.inr hl))
  ·simp only [hl,decide_false,xAz,if_false]
   refine xCe ⟨rfl,rfl,fun i j hi hij hj=>?_⟩
   by_cases hjx:j<lo+x
   ·exact hs' i j hi hij hjx
   ·have hj':j=lo+x:=by omega
    subst hj'
    by_cases hi':i=lo+x
    ·rw [hi'];exact xBu _
    ·exact Int.le_trans (hs' i (lo+x - 1) hi (by omega) (by omega)) (Int.not_lt.mp hl)
end
end Tim
namespace Tim
open PySem PyProof.Rows
structure R (a₀:Array Keyed) (p:Array (Nat×Nat×Nat)) (xs₀:Array Keyed) (lo hi:Nat) (st:SortSt):Prop where
 b:SB a₀ st
 p:pendingOf st=p
 o:Off (arrOf st) xs₀ lo hi
section
variable {prog:Program} {w:World} {A:Around} {E:Value→Shared→Prop} {s:Shared} {a₀ xs₀:Array Keyed} {p:Array (Nat×Nat×Nat)} {lo hi:Nat} {st:SortSt}
theorem R.mirror (h:R a₀ p xs₀ lo hi st) {i j:Nat} (h1:lo≤i) (h2:j≤hi) (h3:j≤a₀.size):R a₀ p xs₀ lo hi (setArr st (mirror (arrOf st) i j ((j - i) / 2))):=by
 refine ⟨h.b.set (mirror_perm _ _ _ _),h.p,fun k hk=>?_⟩
 show K (PyProof.Rows.mirror (arrOf st) i j ((j - i) / 2)) k=_
 rw [K_mirror (by rw [h.b.size];exact h3),xCf (by omega)]
 exact h.o k hk
theorem R.turned (hR:R a₀ p xs₀ lo hi st) {n:Nat} (hn:lo+n≤a₀.size) (hd:Dec (arrOf st) lo (lo+n)):Inc (arrOf (setArr st (PyProof.Rows.mirror (arrOf st) lo (lo+n) ((lo+n - lo) / 2)))) lo (lo+n):=by
 intro i j hi hle hj
 have hsz:lo+n≤(arrOf st).size:=by rw [hR.b.size];omega
 show K (PyProof.Rows.mirror (arrOf st) lo (lo+n) ((lo+n - lo) / 2)) i≤K (PyProof.Rows.mirror (arrOf st) lo (lo+n) ((lo+n - lo) / 2)) j
 rw [K_mirror hsz,K_mirror hsz,xCg (by omega),xCg (by omega)]
 exact hd _ _ (by omega) (by omega) (by omega)
theorem desc_ok {n nrem:Nat} {Q:Option (Option Nat)×Nat×Nat→SortSt→Prop} (h0:IntKeys a₀) (hn:lo+nrem≤a₀.size) (hh:lo+nrem≤hi) (h1:1≤n) (h2:n≤nrem) (hR:R a₀ p xs₀ lo hi st) (hd:Dec (arrOf st) lo (lo+n))
  (h:∀ m eqs st',R a₀ p xs₀ lo hi st'→n≤m→m≤nrem→Dec (arrOf st') lo (lo+m)→eqs+1≤m→(∀ i,lo+m - (eqs+1)≤i→i<lo+m→K (arrOf st') i=K (arrOf st') (lo+m - 1))→Q (none,m,eqs) st') :
  wpS (model prog w) A E s (forIn [n:nrem] ((none,n,0):Option (Option Nat)×Nat×Nat) fun _ z=>do
   let x ← ltAt' (lo+z.snd.fst) (lo+z.snd.fst - 1)
   match x with
   | some smaller =>
    if smaller=true then
     if z.snd.snd > 0 then do
      let _ ← reverseSlice' (lo+z.snd.fst - (z.snd.snd+1)) (lo+z.snd.fst)
      pure (ForInStep.yield (none,z.snd.fst+1,0))
     else pure (ForInStep.yield (none,z.snd.fst+1,0))
    else do
     let x ← ltAt' (lo+z.snd.fst - 1) (lo+z.snd.fst)
     match x with
     | some larger =>
      if larger=true then pure (ForInStep.done (none,z.snd.fst,z.snd.snd))
      else pure (ForInStep.yield (none,z.snd.fst+1,z.snd.snd+1))
     | _=>pure (ForInStep.done (some none,z.snd.fst,z.snd.snd))
   | _=>pure (ForInStep.done (some none,z.snd.fst,z.snd.snd))) Q st:=by
 refine wpS_forRange (I:=fun x c st'=>∃ eqs,c=(none,x,eqs)∧R a₀ p xs₀ lo hi st'∧Dec (arrOf st') lo (lo+x)∧eqs+1≤x ∧
   (∀ i,lo+x - (eqs+1)≤i→i<lo+x→K (arrOf st') i=K (arrOf st') (lo+x - 1))) ?step ?fin ⟨0,rfl,hR,hd,by omega,fun i h1 h2=>by congr 1;omega⟩
 case fin =>
  rintro c st' ⟨eqs,rfl,hC,hd',hcap,hflat⟩
  rw [show max n nrem=nrem by omega] at hd' hcap hflat ⊢
  exact h nrem eqs st' hC h2 (xAg _) hd' hcap hflat
 case step =>
  rintro x c st' hfrom hto ⟨eqs,rfl,hC,hd',hcap,hflat⟩
  dsimp only
  have hsz:lo+x≤(arrOf st').size:=by rw [hC.b.size];omega
  refine xCd (cE hC.b h0 (by omega) (by omega) ?_)
  by_cases ql:K (arrOf st') (lo+x)<K (arrOf st') (lo+x - 1)
  ·simp only [decide_true,if_true,ql]
   have grow:∀ xs:Array Keyed,(∀ k,K xs k=K (arrOf st') k)→Dec xs lo (lo+(x+1)):=by
    intro xs hk i j hi hle hj
    rw [hk,hk]
    by_cases hjx:j<lo+x
    ·exact hd' i j hi hle hjx
    ·have hj':j=lo+x:=by omega
     subst hj'
     by_cases hi':i=lo+x
     ·rw [hi'];exact xBu _
     ·exact Int.le_trans (Int.le_of_lt ql) (hd' i (lo+x - 1) hi (by omega) (by omega))
   by_cases hpos:eqs > 0
   ·rw [xCg hpos]
    refine xCd (wpS_reverse (xCe ⟨0,rfl,hC.mirror (by omega) (by omega) (by omega),grow _ (K_mirror_equal hsz hflat),by omega,fun i h1 h2=>by congr 1;omega⟩))
   ·rw [xCf hpos]
    exact xCe ⟨0,rfl,hC,grow _ (fun _=>rfl),by omega,fun i h1 h2=>by congr 1;omega⟩
  ·simp only [decide_false,xAz,if_false,ql]
   refine xCd (cE hC.b h0 (by omega) (by omega) ?_)
   by_cases qg:K (arrOf st') (lo+x - 1)<K (arrOf st') (lo+x)
   ·simp only [qg,decide_true,if_true]
    exact xCe (h x eqs st' hC hfrom (by omega) hd' hcap hflat)
   ·simp only [qg,decide_false,xAz,if_false]
    have hsame:K (arrOf st') (lo+x)=K (arrOf st') (lo+x - 1):=by omega
    refine xCe ⟨eqs+1,rfl,hC,fun i j hi hle hj=>?_,by omega,fun i h1 h2=>?_⟩
    ·by_cases hjx:j<lo+x
     ·exact hd' i j hi hle hjx
     ·have hj':j=lo+x:=by omega
      subst hj'
      by_cases hi':i=lo+x
      ·rw [hi'];exact xBu _
      ·rw [hsame];exact hd' i (lo+x - 1) hi (by omega) (by omega)
    ·rw [show lo+(x+1) - 1=lo+x by omega]
     by_cases hix:i=lo+x
     ·subst hix;rfl
     ·rw [hsame];exact hflat i (by omega) (by omega)
theorem fN {nrem:Nat} {Q:Option Nat→SortSt→Prop} (h0:IntKeys a₀) (hn:lo+nrem≤a₀.size) (hh:lo+nrem≤hi) (h1:1≤nrem) (hR:R a₀ p xs₀ lo hi st)
  (h:∀ m st',R a₀ p xs₀ lo hi st'→1≤m→m≤nrem→Inc (arrOf st') lo (lo+m)→Q (some m) st'):wpS (model prog w) A E s (countRun' lo nrem) Q st:=by
 rw [countRun'_eq]
 have one:Inc (arrOf st) lo (lo+1):=fun i j hi hle hj=>by
  obtain rfl:i=j:=by omega
  exact xBu _
 refine xCd (asc_ok h0 hn (xAg 1) h1 hR.b one fun n hn1 hn2 hrun hor=>?_)
 dsimp only
 by_cases hmore:n=nrem
 ·rw [xCg (by simpa using hmore)]
  exact xCe (h n st hR hn1 hn2 hrun)
 ·rw [xCf (by simpa using hmore)]
  have hlt:K (arrOf st) (lo+n)<K (arrOf st) (lo+n - 1):=hor.resolve_left hmore
  by_cases hbig:n > 1
  ·rw [xCg hbig]
   refine xCd (cE hR.b h0 (by omega) (by omega) ?_)
   by_cases qr:K (arrOf st) lo<K (arrOf st) (lo+n - 1)
   ·simp only [qr,decide_true,if_true]
    exact xCe (h n st hR hn1 hn2 hrun)
   ·simp only [qr,decide_false,xAz,if_false]
    have hsz:lo+n≤(arrOf st).size:=by rw [hR.b.size];omega
    have hev:∀ k,lo≤k→k<lo+n→K (arrOf st) k=K (arrOf st) (lo+n - 1):=by
     intro k hk1 hk
     have a1:=hrun lo k (by omega) hk1 hk
     have a2:=hrun k (lo+n - 1) hk1 (by omega) (by omega)
     omega
    have hD:Dec (arrOf (setArr st (mirror (arrOf st) lo (lo+n) ((lo+n - lo) / 2)))) lo (lo+(n+1)):=by
     intro i j hi hle hj
     show K (PyProof.Rows.mirror (arrOf st) _ _ _) j≤K (PyProof.Rows.mirror (arrOf st) _ _ _) i
     rw [K_mirror_equal hsz hev,K_mirror_equal hsz hev]
     by_cases hjn:j<lo+n
     ·rw [hev i (by omega) (by omega),hev j (by omega) hjn];exact xBu _
     ·have hj':j=lo+n:=by omega
      subst hj'
      by_cases hi':i=lo+n
      ·rw [hi'];exact xBu _
      ·rw [hev i (by omega) (by omega)];exact Int.le_of_lt hlt
    refine xCd (wpS_reverse ?_)
    refine xCd (wpS_lift (wpAny_rule ⟨rfl,?_⟩))
    refine xCd (desc_ok h0 hn hh (by omega) (show n+1≤nrem by omega) (hR.mirror (i:=lo) (j:=lo+n) (xAg _) (by omega) (by omega)) hD fun m eqs st' hC hma hmb hd' hcap hflat=>?_)
    dsimp only
    have hsz2:lo+m≤(arrOf st').size:=by rw [hC.b.size];omega
    have fin:∀ st2,R a₀ p xs₀ lo hi st2→Dec (arrOf st2) lo (lo+m)→Inc (arrOf (setArr st2 (mirror (arrOf st2) lo (lo+m) ((lo+m - lo) / 2)))) lo (lo+m):=fun st2 hR2 hd2=>hR2.turned (by omega) hd2
    by_cases hpos:eqs > 0
    ·rw [xCg hpos]
     have hR3:=hC.mirror (i:=lo+m - (eqs+1)) (j:=lo+m) (by omega) (by omega) (by omega)
     refine xCd (wpS_reverse (xCd (wpS_reverse ?_)))
     refine xCd (asc_ok h0 hn (by omega) hmb (hR3.mirror (i:=lo) (j:=lo+m) (xAg _) (by omega) (by omega)).b (fin _ hR3 ?_) fun m' hm1' hm2' hsm _=>xCe (h m' _ (hR3.mirror (xAg _) (by omega) (by omega)) (by omega) hm2' hsm))
     intro i j hi hle hj
     show K (mirror (arrOf st') _ _ _) j≤K (mirror (arrOf st') _ _ _) i
     rw [K_mirror_equal hsz2 hflat,K_mirror_equal hsz2 hflat]
     exact hd' i j hi hle hj
    ·rw [xCf hpos]
     refine xCd (wpS_reverse ?_)
     exact xCd (asc_ok h0 hn (by omega) hmb (hC.mirror (i:=lo) (j:=lo+m) (xAg _) (by omega) (by omega)).b (fin _ hC hd') fun m' hm1' hm2' hsm _=>xCe (h m' _ (hC.mirror (xAg _) (by omega) (by omega)) (by omega) hm2' hsm))
  ·rw [xCf hbig]
   have hn1':n=1:=by omega
   subst hn1'
   have hD:Dec (arrOf st) lo (lo+(1+1)):=by
    intro i j hi hle hj
    by_cases hi':i=j
    ·subst hi';exact xBu _
    ·have hi0:i=lo:=by omega
     have hj1:j=lo+1:=by omega
     subst hi0;subst hj1
     exact Int.le_of_lt hlt
   refine xCd (wpS_lift (wpAny_rule ⟨rfl,?_⟩))
   refine xCd (desc_ok h0 hn hh (by omega) (show 1+1≤nrem by omega) hR hD fun m eqs st' hC hma hmb hd' hcap hflat=>?_)
   dsimp only
   have hsz2:lo+m≤(arrOf st').size:=by rw [hC.b.size];omega
   have fin:∀ st2,R a₀ p xs₀ lo hi st2→Dec (arrOf st2) lo (lo+m)→Inc (arrOf (setArr st2 (mirror (arrOf st2) lo (lo+m) ((lo+m - lo) / 2)))) lo (lo+m):=fun st2 hR2 hd2=>hR2.turned (by omega) hd2
   by_cases hpos:eqs > 0
   ·rw [xCg hpos]
    have hR3:=hC.mirror (i:=lo+m - (eqs+1)) (j:=lo+m) (by omega) (by omega) (by omega)
    refine xCd (wpS_reverse (xCd (wpS_reverse ?_)))
    refine xCd (asc_ok h0 hn (by omega) hmb (hR3.mirror (i:=lo) (j:=lo+m) (xAg _) (by omega) (by omega)).b (fin _ hR3 ?_) fun m' hm1' hm2' hsm _=>xCe (h m' _ (hR3.mirror (xAg _) (by omega) (by omega)) (by omega) hm2' hsm))
    intro i j hi hle hj
    show K (mirror (arrOf st') _ _ _) j≤K (mirror (arrOf st') _ _ _) i
    rw [K_mirror_equal hsz2 hflat,K_mirror_equal hsz2 hflat]
    exact hd' i j hi hle hj
   ·rw [xCf hpos]
    refine xCd (wpS_reverse ?_)
    exact xCd (asc_ok h0 hn (by omega) hmb (hC.mirror (i:=lo) (j:=lo+m) (xAg _) (by omega) (by omega)).b (fin _ hC hd') fun m' hm1' hm2' hsm _=>xCe (h m' _ (hC.mirror (xAg _) (by omega) (by omega)) (by omega) hm2' hsm))
end
end Tim
namespace Tim
open PySem PyProof.Rows
section
variable {prog:Program} {w:World} {A:Around} {E:Value→Shared→Prop} {s:Shared} {a₀ xs₀:Array Keyed} {p:Array (Nat×Nat×Nat)} {lo hi:Nat} {st:SortSt}
theorem R.bubble (h:R a₀ p xs₀ lo hi st) {i d:Nat} (h1:lo≤i - d) (hd:d≤i) (h2:i<hi) (h3:i<a₀.size):R a₀ p xs₀ lo hi (setArr st (bubble (arrOf st) i d)):=by
 refine ⟨h.b.set (bubble_perm _ _ _),h.p,fun k hk=>?_⟩
 show K (PyProof.Rows.bubble (arrOf st) i d) k=_
 rw [K_bubble (by rw [h.b.size];exact h3) hd,xCf (by omega),xCf (by omega)]
 exact h.o k hk
theorem ix {n ok:Nat} {Q:Bool→SortSt→Prop} (h0:IntKeys a₀) (hn:lo+n≤a₀.size) (hh:lo+n≤hi) (hok:ok≤n) (hR:R a₀ p xs₀ lo hi st) (hs:Inc (arrOf st) lo (lo+ok))
  (h:∀ st',R a₀ p xs₀ lo hi st'→Inc (arrOf st') lo (lo+n)→Q true st'):wpS (model prog w) A E s (binarySort' lo n ok) Q st:=by
 rw [binarySort'_eq]
 refine xCd (wpS_mono (wpS_forRange (I:=fun k c st'=>c=(none,())∧R a₀ p xs₀ lo hi st'∧Inc (arrOf st') lo (lo+min k n))
  (Q:=fun c st'=>c=(none,())∧R a₀ p xs₀ lo hi st'∧Inc (arrOf st') lo (lo+n)) ?step ?fin ?init) ?post)
 case post =>
  rintro c st' ⟨rfl,hC,hd'⟩
  exact xCe (h st' hC hd')
 case init =>
  refine ⟨rfl,hR,fun i j hi hle hj=>?_⟩
  by_cases h1:ok=0
  ·obtain rfl:i=j:=by omega
   exact xBu _
  ·exact hs i j hi hle (by omega)
 case fin =>
  rintro c st' ⟨hc,hC,hd'⟩
  refine ⟨hc,hC,?_⟩
  rwa [show min (max (max ok 1) n) n=n by omega] at hd'
 case step =>
  rintro k c st' hak1 hkn1 ⟨rfl,hC,hd'⟩
  rw [show min k n=k by omega] at hd'
  have hk:lo+k<a₀.size:=by omega
  refine xCd (wpS_mono (wpS_forRange (I:=fun x c st''=>st''=st'∧∃ l r,c=(none,l,r)∧l≤r∧r≤k∧r - l≤k - x ∧
    (∀ i,lo≤i→i<lo+l→K (arrOf st') i≤K (arrOf st') (lo+k))∧(∀ i,lo+r≤i→i<lo+k→K (arrOf st') (lo+k)<K (arrOf st') i))
   (Q:=fun c st''=>st''=st'∧∃ l r,c=(none,l,r)∧l≤k ∧
    (∀ i,lo≤i→i<lo+l→K (arrOf st') i≤K (arrOf st') (lo+k))∧(∀ i,lo+l≤i→i<lo+k→K (arrOf st') (lo+k)<K (arrOf st') i)) ?istep ?ifin ?iinit) ?ipost)
  case iinit=>exact ⟨rfl,0,k,rfl,by omega,by omega,by omega,fun i _ hi=>by omega,fun i h1 h2=>by omega⟩
  case ifin =>
   rintro c st'' ⟨rfl,l,r,rfl,hlr1,hrk1,hm,hlow,hupp⟩
   obtain rfl:l=r:=by omega
   exact ⟨rfl,l,l,rfl,hrk1,hlow,hupp⟩
  case istep =>
   rintro x c st'' _ hxk1 ⟨rfl,l,r,rfl,hlr1,hrk1,hm,hlow,hupp⟩
   dsimp only
   by_cases hge:l ≥ r
   ·rw [xCg hge]
    obtain rfl:l=r:=by omega
    exact xCe ⟨rfl,l,l,rfl,hrk1,hlow,hupp⟩
   ·rw [xCf hge]
    refine xCd (cE hC.b h0 hk (by omega) ?_)
    by_cases ql:K (arrOf st'') (lo+k)<K (arrOf st'') (lo+(l+r) / 2)
    ·simp only [decide_true,if_true,ql]
     refine xCe ⟨rfl,l,(l+r) / 2,rfl,by omega,by omega,by omega,hlow,fun i h1 h2=>?_⟩
     exact Int.lt_of_lt_of_le ql (hd' _ _ (by omega) h1 h2)
    ·simp only [decide_false,xAz,if_false,ql]
     refine xCe ⟨rfl,(l+r) / 2+1,r,rfl,by omega,by omega,by omega,fun i h1 h2=>?_,hupp⟩
     exact Int.le_trans (hd' i (lo+(l+r) / 2) h1 (by omega) (by omega)) (Int.not_lt.mp ql)
  case ipost =>
   rintro c st'' ⟨rfl,l,r,rfl,hlk1,hlow,hupp⟩
   show wpS _ _ _ _ (do moveDown' (lo+k) (lo+l);pure (ForInStep.yield (none,()))) _ _
   rw [moveDown'_eq]
   refine xCd (wpS_modify (xCe ⟨rfl,hC.bubble (by omega) (by omega) (by omega) hk,?_⟩))
   rw [show min (k+1) n=k+1 by omega]
   have hks:lo+k<(arrOf st'').size:=by rw [hC.b.size];exact hk
   intro i j hi hle hj
   show K (PyProof.Rows.bubble (arrOf st'') (lo+k) (lo+k - (lo+l))) i≤K (PyProof.Rows.bubble (arrOf st'') (lo+k) (lo+k - (lo+l))) j
   rw [K_bubble hks (by omega),K_bubble hks (by omega),show lo+k - (lo+k - (lo+l))=lo+l by omega]
   repeat' split
   all_goals first
    | (exfalso;omega)
    | exact xBu _
    | exact hlow _ (by omega) (by omega)
    | exact Int.le_of_lt (hupp _ (by omega) (by omega))
    | exact hd' _ _ (by omega) (by omega) (by omega)
end
def gallop':Bool→Keyed→Array Keyed→Nat→Nat→Nat→StateT SortSt Sem (Option Nat):=sortPriv% PySem.Builtin.gallop
theorem gm (left:Bool) (key:Keyed) (arr:Array Keyed) (base n hint:Nat):gallop' left key arr base n hint=(do
 let bey (v:Nat):StateT SortSt Sem (Option Bool):=do
  let u ← elem' arr (base+v)
  if left then lt' u key else return (← lt' key u).map (!·)
 let mut la:=0
 let mut of:=1
 let mut u:=0
 let mut v:=0
 let some r0 ← bey hint | return none
 if r0 then
  let mx:=n - hint
  for _ in [0:n] do
   if of ≥ mx then break
   let some mo ← bey (hint+of) | return none
   if !mo then break
   la:=of
   of:=2 * of+1
  u:=hint+la+1
  v:=hint+min of mx
 else
  let mx:=hint+1
  for _ in [0:n] do
   if of ≥ mx then break
   let some fo ← bey (hint - of) | return none
   if fo then break
   la:=of
   of:=2 * of+1
  u:=hint+1 - min of mx
  v:=hint - la
 for _ in [0:n] do
  if u ≥ v then break
  let md:=u+(v - u) / 2
  let some mo ← bey md | return none
  if mo then u:=md+1 else v:=md
 return some v):=rfl
end Tim
namespace Tim
open PySem PyProof.Rows
def look (left:Bool) (key:Keyed) (arr:Array Keyed) (j:Nat):StateT SortSt Sem (Option Bool):=do
 let x ← elem' arr j
 if left=true then lt' x key
  else do
   let y ← lt' key x
   pure (Option.map (fun x=>!x) y)
def Bt (left:Bool) (k:Int) (arr:Array Keyed) (j:Nat):Bool:=if left then decide (K arr j<k) else !decide (k<K arr j)
theorem Bt.anti {left:Bool} {k:Int} {arr:Array Keyed} {lo hi i j:Nat} (h:Inc arr lo hi) (h1:lo≤i) (hij:i≤j) (h2:j<hi) (b:Bt left k arr j=true):Bt left k arr i=true:=by
 have:=h i j h1 hij h2
 unfold Bt at b ⊢
 cases left
 ·simp only [xAz,if_false,Bool.not_eq_true',decide_eq_false_iff_not] at b ⊢
  omega
 ·simp only [if_true,decide_eq_true_eq] at b ⊢
  omega
theorem Bt.anti' {left:Bool} {k:Int} {arr:Array Keyed} {lo hi i j:Nat} (h:Inc arr lo hi) (h1:lo≤i) (hij:i≤j) (h2:j<hi) (b:Bt left k arr i=false):Bt left k arr j=false:=by
 cases e:Bt left k arr j with
 | false=>rfl
 | true=>rw [Bt.anti h h1 hij h2 e] at b;cases b
section
variable {prog:Program} {w:World} {A:Around} {E:Value→Shared→Prop} {s:Shared} {st:SortSt} {left:Bool} {key:Keyed} {arr:Array Keyed} {base n hint:Nat} {k:Int} {t:Tok}
theorem bZ {j:Nat} {Q:Option Bool→SortSt→Prop} (hk:kindOf st=oneType') (hI:IntKeys arr) (hkey:key.1 = .int k t) (hj:j<arr.size) (h:Q (some (Bt left k arr j)) st) :
  wpS (model prog w) A E s (look left key arr j) Q st:=by
 unfold look
 obtain ⟨u,q,e⟩:=eS hI hj
 have e2:arr[j]=(.int (K arr j) u,q):=by
  rw [getElem?_pos _ j hj] at e
  exact xB3 e
 refine xCd (ax hj ?_)
 rw [e2]
 cases left
 ·rw [xCf xAy]
  refine xCd (gJ hk hkey rfl (xCe ?_))
  exact h
 ·rw [xCg rfl]
  exact gJ hk rfl hkey h
theorem gw {lo₀ hi₀:Nat} {Q:Option (Option Nat)×Nat×Nat→SortSt→Prop} (hk:kindOf st=oneType') (hI:IntKeys arr) (hkey:key.1 = .int k t) (hn:base+n≤arr.size) (hs:Inc arr base (base+n))
  (h1:lo₀≤hi₀) (h2:hi₀≤n) (hl:∀ i,i<lo₀→Bt left k arr (base+i)=true) (hr:∀ i,hi₀≤i→i<n→Bt left k arr (base+i)=false)
  (h:∀ m,m≤n→(∀ i,i<m→Bt left k arr (base+i)=true)→(∀ i,m≤i→i<n→Bt left k arr (base+i)=false)→Q (none,m,m) st) :
  wpS (model prog w) A E s (forIn [0:n] ((none,lo₀,hi₀):Option (Option Nat)×Nat×Nat) fun x z =>
   if z.snd.fst ≥ z.snd.snd then pure (ForInStep.done (none,z.snd.fst,z.snd.snd))
   else do
    let x ← look left key arr (base+(z.snd.fst+(z.snd.snd - z.snd.fst) / 2))
    match x with
     | some more =>
      if more=true then pure (ForInStep.yield (none,z.snd.fst+(z.snd.snd - z.snd.fst) / 2+1,z.snd.snd))
      else pure (ForInStep.yield (none,z.snd.fst,z.snd.fst+(z.snd.snd - z.snd.fst) / 2))
     | x=>pure (ForInStep.done (some none,z.snd.fst,z.snd.snd))) Q st:=by
 refine wpS_forRange (I:=fun x c st'=>st'=st∧∃ lo hi,c=(none,lo,hi)∧lo≤hi∧hi≤n∧hi - lo≤n - x∧(∀ i,i<lo→Bt left k arr (base+i)=true)∧(∀ i,hi≤i→i<n→Bt left k arr (base+i)=false)) ?step ?fin ⟨rfl,lo₀,hi₀,rfl,h1,h2,by omega,hl,hr⟩
 case fin =>
  rintro c st' ⟨rfl,lo,hi,rfl,a1,a2,a3,a4,a5⟩
  obtain rfl:lo=hi:=by omega
  exact h lo a2 a4 a5
 case step =>
  rintro x c st' _ hx ⟨rfl,lo,hi,rfl,a1,a2,a3,a4,a5⟩
  dsimp only
  by_cases hge:lo ≥ hi
  ·rw [xCg hge]
   obtain rfl:lo=hi:=by omega
   exact xCe (h lo a2 a4 a5)
  ·rw [xCf hge]
   refine xCd (bZ (j:=base+(lo+(hi - lo) / 2)) hk hI hkey (by omega) ?_)
   cases e:Bt left k arr (base+(lo+(hi - lo) / 2)) with
   | true =>
    simp only [if_true]
    refine xCe ⟨rfl,lo+(hi - lo) / 2+1,hi,rfl,by omega,by omega,by omega,fun i hi'=>?_,a5⟩
    exact Bt.anti (j:=base+(lo+(hi - lo) / 2)) hs (by omega) (by omega) (by omega) e
   | false =>
    simp only [xAz,if_false]
    refine xCe ⟨rfl,lo,lo+(hi - lo) / 2,rfl,by omega,by omega,by omega,a4,fun i h1' h2'=>?_⟩
    exact Bt.anti' (i:=base+(lo+(hi - lo) / 2)) hs (by omega) (by omega) (by omega) e
theorem bt {Q:Option Nat→SortSt→Prop} (hk:kindOf st=oneType') (hI:IntKeys arr) (hkey:key.1 = .int k t) (hn:base+n≤arr.size) (hs:Inc arr base (base+n)) (hh:hint<n)
  (h:∀ m,m≤n→(∀ i,i<m→Bt left k arr (base+i)=true)→(∀ i,m≤i→i<n→Bt left k arr (base+i)=false)→Q (some m) st) :
  wpS (model prog w) A E s (gallop' left key arr base n hint) Q st:=by
 rw [gm]
 dsimp only
 refine xCd (bZ (j:=base+hint) hk hI hkey (by omega) ?_)
 cases e0:Bt left k arr (base+hint) with
 | true =>
  simp only [if_true]
  refine xCd (wpS_mono (wpS_forRange (I:=fun x c st'=>st'=st∧∃ la of,c=(none,la,of)∧la<of∧hint+la<n∧x+1≤of∧Bt left k arr (base+(hint+la))=true)
   (Q:=fun c st'=>st'=st∧∃ la of,c=(none,la,of)∧la<of∧hint+la<n∧Bt left k arr (base+(hint+la))=true∧(n - hint≤of∨(hint+of<n∧Bt left k arr (base+(hint+of))=false))) ?step ?fin ⟨rfl,0,1,rfl,by omega,by omega,by omega,e0⟩) ?post)
  case fin =>
   rintro c st' ⟨rfl,la,of,rfl,b1,b2,b3,b4⟩
   exact ⟨rfl,la,of,rfl,b1,b2,b4,.inl (by omega)⟩
  case step =>
   rintro x c st' _ hx ⟨rfl,la,of,rfl,b1,b2,b3,b4⟩
   dsimp only
   by_cases hge:of ≥ n - hint
   ·rw [xCg hge]
    exact xCe ⟨rfl,la,of,rfl,b1,b2,b4,.inl hge⟩
   ·rw [xCf hge]
    refine xCd (bZ (j:=base+(hint+of)) hk hI hkey (by omega) ?_)
    cases e1:Bt left k arr (base+(hint+of)) with
    | true =>
     simp only [Bool.not_true,xAz,if_false]
     exact xCe ⟨rfl,of,2 * of+1,rfl,by omega,by omega,by omega,e1⟩
    | false =>
     simp only [Bool.not_false,if_true]
     exact xCe ⟨rfl,la,of,rfl,b1,b2,b4,.inr ⟨by omega,e1⟩⟩
  case post =>
   rintro c st' ⟨rfl,la,of,rfl,b1,b2,b4,b5⟩
   dsimp only
   refine xCd (gw (lo₀:=hint+la+1) (hi₀:=hint+min of (n - hint)) hk hI hkey hn hs (by omega) (by omega) (fun i hi=>Bt.anti (j:=base+(hint+la)) hs (by omega) (by omega) (by omega) b4) (fun i h1 h2=>?_) fun m m1 m2 m3=>xCe (h m m1 m2 m3))
   rcases b5 with b5 | ⟨b5,b6⟩
   ·omega
   ·exact Bt.anti' (i:=base+(hint+of)) hs (by omega) (by omega) (by omega) b6
 | false =>
  simp only [xAz,if_false]
  refine xCd (wpS_mono (wpS_forRange (I:=fun x c st'=>st'=st∧∃ la of,c=(none,la,of)∧la<of∧la≤hint∧x+1≤of∧Bt left k arr (base+(hint - la))=false)
   (Q:=fun c st'=>st'=st∧∃ la of,c=(none,la,of)∧la<of∧la≤hint∧Bt left k arr (base+(hint - la))=false∧(hint+1≤of∨(of≤hint∧Bt left k arr (base+(hint - of))=true))) ?step ?fin ⟨rfl,0,1,rfl,by omega,by omega,by omega,e0⟩) ?post)
  case fin =>
   rintro c st' ⟨rfl,la,of,rfl,b1,b2,b3,b4⟩
   exact ⟨rfl,la,of,rfl,b1,b2,b4,.inl (by omega)⟩
  case step =>
   rintro x c st' _ hx ⟨rfl,la,of,rfl,b1,b2,b3,b4⟩
   dsimp only
   by_cases hge:of ≥ hint+1
   ·rw [xCg hge]
    exact xCe ⟨rfl,la,of,rfl,b1,b2,b4,.inl hge⟩
   ·rw [xCf hge]
    refine xCd (bZ (j:=base+(hint - of)) hk hI hkey (by omega) ?_)
    cases e1:Bt left k arr (base+(hint - of)) with
    | true =>
     simp only [if_true]
     exact xCe ⟨rfl,la,of,rfl,b1,b2,b4,.inr ⟨by omega,e1⟩⟩
    | false =>
     simp only [xAz,if_false]
     exact xCe ⟨rfl,of,2 * of+1,rfl,by omega,by omega,by omega,e1⟩
  case post =>
   rintro c st' ⟨rfl,la,of,rfl,b1,b2,b4,b5⟩
   dsimp only
   refine xCd (gw (lo₀:=hint+1 - min of (hint+1)) (hi₀:=hint - la) hk hI hkey hn hs (by omega) (by omega) (fun i hi=>?_) (fun i h1 h2=>Bt.anti' (i:=base+(hint - la)) hs (by omega) (by omega) (by omega) b4) fun m m1 m2 m3=>xCe (h m m1 m2 m3))
   rcases b5 with b5 | ⟨b5,b6⟩
   ·omega
   ·exact Bt.anti (j:=base+(hint - of)) hs (by omega) (by omega) (by omega) b6
end
end Tim
namespace Tim
open PySem PyProof.Rows
def mergeLo':Array Keyed→Array Keyed→StateT SortSt Sem (Array Keyed):=sortPriv% PySem.Builtin.mergeLo
abbrev setG (st:SortSt) (g:Nat):SortSt:=SortSt.mk' (kindOf st) (arrOf st) (pendingOf st) g (failedOf st)
abbrev Z1:=Option (Array Keyed)×Array Keyed×Nat×Nat×Nat×Nat
abbrev Z2:=Option (Array Keyed)×Array Keyed×Nat×Nat×Nat×Nat×Nat
abbrev Z0:=Option (Array Keyed)×Array Keyed×Nat×Nat×Nat
def fin (a b o:Array Keyed) (i j:Nat):Array Keyed:=o++a.extract i a.size++b.extract j b.size
def las (a b o:Array Keyed) (i j:Nat):Array Keyed:=o++b.extract j b.size++a.extract i a.size
def l1 (a b:Array Keyed) (g:Nat) (z:Z1):StateT SortSt Sem (ForInStep Z1):=do
 let u ← elem' b z.2.2.2.1
 let v ← elem' a z.2.2.1
 let q ← lt' u v
 match q with
 | some q =>
  if q=true then do
   let u ← elem' b z.2.2.2.1
   if (z.2.2.2.1+1 == b.size)=true then pure (.done (some (fin a b (z.2.1.push u) z.2.2.1 (z.2.2.2.1+1)),z.2.1.push u,z.2.2.1,z.2.2.2.1+1,0,z.2.2.2.2.2+1))
   else if z.2.2.2.2.2+1 ≥ g then pure (.done (none,z.2.1.push u,z.2.2.1,z.2.2.2.1+1,0,z.2.2.2.2.2+1))
   else pure (.yield (none,z.2.1.push u,z.2.2.1,z.2.2.2.1+1,0,z.2.2.2.2.2+1))
  else do
   let u ← elem' a z.2.2.1
   if (z.2.2.1+1+1 == a.size)=true then pure (.done (some (las a b (z.2.1.push u) (z.2.2.1+1) z.2.2.2.1),z.2.1.push u,z.2.2.1+1,z.2.2.2.1,z.2.2.2.2.1+1,0))
   else if z.2.2.2.2.1+1 ≥ g then pure (.done (none,z.2.1.push u,z.2.2.1+1,z.2.2.2.1,z.2.2.2.2.1+1,0))
   else pure (.yield (none,z.2.1.push u,z.2.2.1+1,z.2.2.2.1,z.2.2.2.2.1+1,0))
 | _=>pure (.done (some (fin a b z.2.1 z.2.2.1 z.2.2.2.1),z.2.1,z.2.2.1,z.2.2.2.1,z.2.2.2.2.1,z.2.2.2.2.2))
def l4 (a b o:Array Keyed) (i j g x y:Nat):StateT SortSt Sem (ForInStep Z2):=do
 let u ← elem' a i
 if (i+1+1 == a.size)=true then pure (.done (some (las a b (o.push u) (i+1) j),o.push u,i+1,j,g,x,y))
 else if (decide (x<7) && decide (y<7))=true then pure (.done (none,o.push u,i+1,j,g,x,y))
 else pure (.yield (none,o.push u,i+1,j,g,x,y))
def l3 (a b o:Array Keyed) (i j g x y:Nat):StateT SortSt Sem (ForInStep Z2):=do
 let u ← elem' b j
 if (j+1 == b.size)=true then pure (.done (some (fin a b (o.push u) i (j+1)),o.push u,i,j+1,g,x,y))
 else do
  let v ← elem' a i
  let q ← gallop' true v b (j+1) (b.size - (j+1)) 0
  match q with
  | some k =>
   if k > 0 then
    if (j+1+k == b.size)=true then pure (.done (some (fin a b (o.push u++b.extract (j+1) (j+1+k)) i (j+1+k)),o.push u++b.extract (j+1) (j+1+k),i,j+1+k,g,x,k))
    else l4 a b (o.push u++b.extract (j+1) (j+1+k)) i (j+1+k) g x k
   else l4 a b (o.push u) i (j+1) g x k
  | _=>pure (.done (some (fin a b (o.push u) i (j+1)),o.push u,i,j+1,g,x,y))
def l2 (a b o:Array Keyed) (i j g x y:Nat):StateT SortSt Sem (ForInStep Z2):=do
 modify fun st=>setG st g
 let u ← elem' b j
 let q ← gallop' false u a i (a.size - i) 0
 match q with
 | some k =>
  if k > 0 then
   if (i+k+1 == a.size)=true then pure (.done (some (las a b (o++a.extract i (i+k)) (i+k) j),o++a.extract i (i+k),i+k,j,g,k,y))
   else if (i+k == a.size)=true then pure (.done (some (fin a b (o++a.extract i (i+k)) (i+k) j),o++a.extract i (i+k),i+k,j,g,k,y))
   else l3 a b (o++a.extract i (i+k)) (i+k) j g k y
  else l3 a b o i j g k y
 | _=>pure (.done (some (fin a b o i j),o,i,j,g,x,y))
def l0 (a b:Array Keyed) (z:Z0):StateT SortSt Sem (ForInStep Z0):=do
 let y ← forIn [0:a.size+b.size] ((none,z.2.1,z.2.2.1,z.2.2.2.1,0,0):Z1) fun _ y=>l1 a b z.2.2.2.2 y
 match y.1 with
 | some r=>pure (.done (some r,y.2.1,y.2.2.1,y.2.2.2.1,z.2.2.2.2))
 | none=>do
  liftM (rule "list.sort.gallop")
  let x ← forIn [0:a.size+b.size] ((none,y.2.1,y.2.2.1,y.2.2.2.1,z.2.2.2.2+1,y.2.2.2.2.1,y.2.2.2.2.2):Z2) fun _ x =>
   if x.2.2.2.2.1 > 1 then l2 a b x.2.1 x.2.2.1 x.2.2.2.1 (x.2.2.2.2.1 - 1) x.2.2.2.2.2.1 x.2.2.2.2.2.2 else l2 a b x.2.1 x.2.2.1 x.2.2.2.1 x.2.2.2.2.1 x.2.2.2.2.2.1 x.2.2.2.2.2.2
  match x.1 with
  | some r=>pure (.done (some r,x.2.1,x.2.2.1,x.2.2.2.1,x.2.2.2.2.1))
  | none=>do
   modify fun st=>setG st (x.2.2.2.2.1+1)
   pure (.yield (none,x.2.1,x.2.2.1,x.2.2.2.1,x.2.2.2.2.1+1))
theorem eO (a b:Array Keyed):mergeLo' a b=(do
 rule "list.sort.merge-lo"
 let T:=a.size+b.size
 let fi (o:Array Keyed) (i j:Nat):=o++a.extract i a.size++b.extract j b.size
 let la (o:Array Keyed) (i j:Nat):=o++b.extract j b.size++a.extract i a.size
 let mut o:Array Keyed:=#[← elem' b 0]
 let mut i:=0
 let mut j:=1
 if j == b.size then return fi o i j
 if i+1 == a.size then return la o i j
 let mut g:=gallopOf (← get)
 for _ in [0:T] do
  let mut x:=0
  let mut y:=0
  for _ in [0:T] do
   let some q ← lt' (← elem' b j) (← elem' a i) | return fi o i j
   if q then
    o:=o.push (← elem' b j);j:=j+1;y:=y+1;x:=0
    if j == b.size then return fi o i j
    if y ≥ g then break
   else
    o:=o.push (← elem' a i);i:=i+1;x:=x+1;y:=0
    if i+1 == a.size then return la o i j
    if x ≥ g then break
  rule "list.sort.gallop"
  g:=g+1
  for _ in [0:T] do
   if g > 1 then g:=g - 1
   modify fun st=>setG st g
   let some k ← gallop' false (← elem' b j) a i (a.size - i) 0 | return fi o i j
   x:=k
   if k > 0 then
    o:=o++a.extract i (i+k);i:=i+k
    if i+1 == a.size then return la o i j
    if i == a.size then return fi o i j
   o:=o.push (← elem' b j);j:=j+1
   if j == b.size then return fi o i j
   let some k ← gallop' true (← elem' a i) b j (b.size - j) 0 | return fi o i j
   y:=k
   if k > 0 then
    o:=o++b.extract j (j+k);j:=j+k
    if j == b.size then return fi o i j
   o:=o.push (← elem' a i);i:=i+1
   if i+1 == a.size then return la o i j
   if x<7 && y<7 then break
  g:=g+1
  modify fun st=>setG st g
 unsupported "internal:list.sort.merge-bound"):=rfl
theorem fA (a b:Array Keyed):mergeLo' a b=(do
 liftM (rule "list.sort.merge-lo")
 let u ← elem' b 0
 if (1 == b.size)=true then pure (fin a b #[u] 0 1)
 else if (0+1 == a.size)=true then pure (las a b #[u] 0 1)
 else do
  let st ← get
  let z ← forIn [0:a.size+b.size] ((none,#[u],0,1,gallopOf st):Z0) fun _ z=>l0 a b z
  match z.1 with
  | some r=>pure r
  | none=>liftM (unsupported "internal:list.sort.merge-bound":Sem (Array Keyed))):=by
 rw [eO]
 dsimp only
 congr 1;funext _;congr 1;funext u
 congr 1
 congr 1
 congr 1;funext st
 congr 1
 ·congr 1;funext _ z
  unfold l0
  congr 1
  funext y
  obtain ⟨r,y⟩:=y
  cases r with
  | some r=>rfl
  | none =>
   dsimp only
   congr 1
   funext _
   congr 1
   funext x
   obtain ⟨r,x⟩:=x
   cases r <;> rfl
 ·funext z
  obtain ⟨r,z⟩:=z
  cases r <;> rfl
end Tim
namespace Tim
open PySem PyProof.Rows
def le' (p q:Keyed):Prop:=numOf p.1≤numOf q.1
structure M3 (L O A B:List Keyed):Prop where
 pm:(O++(A++B)).Perm L
 so:O.Pairwise le'
 sa:A.Pairwise le'
 sb:B.Pairwise le'
 ca:∀ x∈O,∀ y∈A,le' x y
 cb:∀ x∈O,∀ y∈B,le' x y
section
variable {L O A B:List Keyed}
theorem gG {l:List Keyed} (h:l.Pairwise le') (k:Nat):(l.take k).Pairwise le'∧(l.drop k).Pairwise le'∧∀ x∈l.take k,∀ y∈l.drop k,le' x y:=by
 rw [← xBx k l,List.pairwise_append] at h
 simpa using h
theorem M3.takeA (m:M3 L O A B) (k:Nat) (h:∀ x∈A.take k,∀ y∈B,le' x y):M3 L (O++A.take k) (A.drop k) B:=by
 obtain ⟨t1,t2,t3⟩:=gG m.sa k
 refine ⟨?_,List.pairwise_append.mpr ⟨m.so,t1,fun x hx y hy=>m.ca x hx y (xBj hy)⟩,t2,m.sb,fun x hx y hy=>?_,fun x hx y hy=>?_⟩
 ·refine List.Perm.trans (List.Perm.of_eq ?_) m.pm
  rw [xAx,← xAx (A.take k),xBx]
 ·rcases xAj.mp hx with z | z
  ·exact m.ca x z y (List.mem_of_mem_drop hy)
  ·exact t3 x z y hy
 ·rcases xAj.mp hx with z | z
  ·exact m.cb x z y hy
  ·exact h x z y hy
theorem M3.swap (m:M3 L O A B):M3 L O B A:=⟨(List.Perm.append_left O List.perm_append_comm).trans m.pm,m.so,m.sb,m.sa,m.cb,m.ca⟩
theorem M3.takeB (m:M3 L O A B) (k:Nat) (h:∀ y∈B.take k,∀ x∈A,le' y x):M3 L (O++B.take k) A (B.drop k):=(m.swap.takeA k h).swap
theorem M3.all (m:M3 L O A B) (h:∀ x∈A,∀ y∈B,le' x y):(O++A++B).Perm L∧(O++A++B).Pairwise le':=by
 rw [xAx]
 refine ⟨m.pm,List.pairwise_append.mpr ⟨m.so,List.pairwise_append.mpr ⟨m.sa,m.sb,h⟩,fun x hx y hy=>?_⟩⟩
 rcases xAj.mp hy with z | z
 ·exact m.ca x hx y z
 ·exact m.cb x hx y z
end
def RS (a b r:Array Keyed):Prop:=r.toList.Perm (a.toList++b.toList)∧r.toList.Pairwise le'
structure Cb (a b:Array Keyed):Prop where
 ia:IntKeys a
 ib:IntKeys b
 sa:a.toList.Pairwise le'
 sb:b.toList.Pairwise le'
 la:∀ y∈b.toList,numOf y.1≤K a (a.size - 1)
abbrev MM (a b o:Array Keyed) (i j:Nat):Prop:=M3 (a.toList++b.toList) o.toList (a.toList.drop i) (b.toList.drop j)
section
variable {a b o:Array Keyed} {i j:Nat}
theorem js (a:Array Keyed) (i k:Nat):(a.extract i (i+k)).toList=(a.toList.drop i).take k:=by
 rw [Array.toList_extract,xB6,Nat.add_sub_cancel_left]
theorem dj (a:Array Keyed) (i:Nat):(a.extract i a.size).toList=a.toList.drop i:=by
 rw [Array.toList_extract,xB6,List.take_of_length_le]
 rw [List.length_drop,xAh]
 exact xAg _
theorem fI:(fin a b o i j).toList=o.toList++a.toList.drop i++b.toList.drop j:=by
 unfold fin
 rw [xB1,xB1,dj,dj]
theorem jk:(las a b o i j).toList=o.toList++b.toList.drop j++a.toList.drop i:=by
 unfold las
 rw [xB1,xB1,dj,dj]
theorem dM (hi:i<a.size):(a.toList.drop i).take 1=[a[i]]∧(a.toList.drop i).drop 1=a.toList.drop (i+1):=by
 have hl:i<a.toList.length:=by rw [xAh];exact hi
 rw [xB2 hl]
 exact ⟨by simp,rfl⟩
theorem MM.pa (m:MM a b o i j) (hi:i<a.size) (h:∀ y∈b.toList.drop j,le' a[i] y):MM a b (o.push a[i]) (i+1) j:=by
 obtain ⟨e1,e2⟩:=dM hi
 have:=M3.takeA m 1 (by rw [e1];intro x hx;have e:=xAm.mp hx;rw [e];exact h)
 rw [e1,e2] at this
 show M3 _ (o.push a[i]).toList _ _
 rw [Array.toList_push]
 exact this
theorem MM.pb (m:MM a b o i j) (hj:j<b.size) (h:∀ x∈a.toList.drop i,le' b[j] x):MM a b (o.push b[j]) i (j+1):=by
 obtain ⟨e1,e2⟩:=dM hj
 have:=M3.takeB m 1 (by rw [e1];intro x hx;have e:=xAm.mp hx;rw [e];exact h)
 rw [e1,e2] at this
 show M3 _ (o.push b[j]).toList _ _
 rw [Array.toList_push]
 exact this
theorem MM.ea (m:MM a b o i j) (k:Nat) (h:∀ x∈(a.toList.drop i).take k,∀ y∈b.toList.drop j,le' x y):MM a b (o++a.extract i (i+k)) (i+k) j:=by
 have:=M3.takeA m k h
 rw [List.drop_drop] at this
 show M3 _ (o++a.extract i (i+k)).toList _ _
 rw [xB1,js]
 exact this
theorem MM.eb (m:MM a b o i j) (k:Nat) (h:∀ y∈(b.toList.drop j).take k,∀ x∈a.toList.drop i,le' y x):MM a b (o++b.extract j (j+k)) i (j+k):=by
 have:=M3.takeB m k h
 rw [List.drop_drop] at this
 show M3 _ (o++b.extract j (j+k)).toList _ _
 rw [xB1,js]
 exact this
theorem dN {n:Nat} (h:a.size≤n):a.toList.drop n=[]:=List.drop_eq_nil_of_le (by rw [xAh];exact h)
theorem MM.finB (m:MM a b o i j) (h:b.size≤j):RS a b (fin a b o i j):=by
 unfold RS
 rw [fI]
 exact M3.all m (by rw [dN h];exact fun _ _ _ z=>nomatch z)
theorem MM.finA (m:MM a b o i j) (h:a.size≤i):RS a b (fin a b o i j):=by
 unfold RS
 rw [fI]
 exact M3.all m (by rw [dN h];exact fun _ z=>nomatch z)
theorem MM.last (m:MM a b o i j) (c:Cb a b) (h:i+1=a.size):RS a b (las a b o i j):=by
 unfold RS
 rw [jk]
 refine M3.all (M3.swap m) fun y hy x hx=>?_
 have hi:i<a.size:=by omega
 obtain ⟨e1,e2⟩:=dM hi
 have e3:a.toList.drop i=[a[i]]:=by
  rw [← xBx 1 (a.toList.drop i),e1,e2,dN (by omega)]
  rfl
 rw [e3] at hx
 obtain rfl:x=a[i]:=by simpa using hx
 have:=c.la y (List.mem_of_mem_drop hy)
 rw [show a.size - 1=i by omega,K_eq hi] at this
 exact this
theorem cB (h:a.toList.Pairwise le'):Inc a 0 a.size:=fun i j _ hij hj=>by
 by_cases e:i=j
 ·rw [e];exact xBu _
 ·have hi:i<a.size:=by omega
  have:=(List.pairwise_iff_getElem.mp h) i j (by simpa using hi) (by simpa using hj) (by omega)
  rw [K_eq hi,K_eq hj]
  simpa [le'] using this
theorem pM (h:Inc a 0 a.size):a.toList.Pairwise le':=by
 rw [List.pairwise_iff_getElem]
 intro i j hi hj hij
 have hi':i<a.size:=by simpa using hi
 have hj':j<a.size:=by simpa using hj
 have:=h i j (xBn _) (Nat.le_of_lt hij) hj'
 rw [K_eq hi',K_eq hj'] at this
 simpa [le'] using this
theorem aW {y:Keyed} (h:y∈a.toList.drop i):∃ n,i≤n∧n<a.size∧numOf y.1=K a n:=by
 obtain ⟨n,hn,e⟩:=List.mem_iff_getElem.mp h
 rw [List.length_drop,xAh] at hn
 rw [List.getElem_drop] at e
 have h1:i+n<a.size:=by omega
 refine ⟨i+n,by omega,h1,?_⟩
 rw [K_eq h1,← e]
 simp
theorem bz {y:Keyed} {k:Nat} (h:y∈(a.toList.drop i).take k):∃ n,n<k∧i+n<a.size∧numOf y.1=K a (i+n):=by
 obtain ⟨n,hn,e⟩:=List.mem_iff_getElem.mp h
 rw [xAn,List.length_drop,xAh] at hn
 rw [List.getElem_take,List.getElem_drop] at e
 have h1:i+n<a.size:=by omega
 refine ⟨n,by omega,h1,?_⟩
 rw [K_eq h1,← e]
 simp
structure Sg (st₀ st:SortSt):Prop where
 k:kindOf st=oneType'
 a:arrOf st=arrOf st₀
 p:pendingOf st=pendingOf st₀
 f:failedOf st=failedOf st₀
theorem Sg.set {st₀ st:SortSt} (h:Sg st₀ st) (g:Nat):Sg st₀ (setG st g):=⟨h.k,h.a,h.p,h.f⟩
def Gd (a b:Array Keyed) (n:Nat) (r:Option (Array Keyed)) (o:Array Keyed) (i j:Nat):Prop:=match r with
 | some r=>RS a b r
 | none=>i+1<a.size∧j<b.size∧MM a b o i j∧n≤i+j
theorem gd {n:Nat} (h1:i+1<a.size) (h2:j<b.size) (m:MM a b o i j) (h4:n≤i+j):Gd a b n none o i j:=⟨h1,h2,m,h4⟩
section
variable {prog:Program} {w:World} {A:Around} {E:Value→Shared→Prop} {s:Shared} {st st₀:SortSt}
theorem bh (h:IntKeys a) (hi:i<a.size):∃ t,a[i].1 = .int (K a i) t:=by
 obtain ⟨t,q,e⟩:=eS h hi
 rw [getElem?_pos _ i hi] at e
 exact ⟨t,by rw [xB3 e]⟩
theorem o3 {g x y:Nat} {Q:ForInStep Z1→SortSt→Prop} (c:Cb a b) (hk:kindOf st=oneType') (hi:i+1<a.size) (hj:j<b.size) (m:MM a b o i j)
  (hd:∀ z,Gd a b (i+j+1) z.1 z.2.1 z.2.2.1 z.2.2.2.1→Q (.done z) st) (hy:∀ z:Z1,z.1=none→Gd a b (i+j+1) none z.2.1 z.2.2.1 z.2.2.2.1→Q (.yield z) st) :
  wpS (model prog w) A E s (l1 a b g (none,o,i,j,x,y)) Q st:=by
 unfold l1
 dsimp only
 have hi':i<a.size:=by omega
 obtain ⟨t1,e1⟩:=bh c.ia hi'
 obtain ⟨t2,e2⟩:=bh c.ib hj
 refine xCd (ax hj (xCd (ax hi' (xCd (gJ hk e2 e1 ?_)))))
 by_cases q:K b j<K a i
 ·simp only [q,decide_true,if_true]
  refine xCd (ax hj ?_)
  have m2:=m.pb hj fun x hx=>by
   obtain ⟨n,h1,h2,h3⟩:=aW hx
   have:=cB c.sa i n (xBn _) h1 h2
   show numOf b[j].1≤_
   rw [h3,← K_eq hj]
   omega
  by_cases q2:j+1=b.size
  ·rw [xCg (by simpa using q2)]
   exact xCe (hd _ (m2.finB (by omega)))
  ·rw [xCf (by simpa using q2)]
   by_cases q3:y+1 ≥ g
   ·rw [xCg q3]
    exact xCe (hd _ (gd (i:=i) (j:=j+1) hi (by omega) m2 (by omega)))
   ·rw [xCf q3]
    exact xCe (hy _ rfl (gd (i:=i) (j:=j+1) hi (by omega) m2 (by omega)))
 ·simp only [q,decide_false,xAz,if_false]
  refine xCd (ax hi' ?_)
  have m2:=m.pa hi' fun x hx=>by
   obtain ⟨n,h1,h2,h3⟩:=aW hx
   have:=cB c.sb j n (xBn _) h1 h2
   show numOf a[i].1≤_
   rw [h3,← K_eq hi']
   omega
  by_cases q2:i+1+1=a.size
  ·rw [xCg (by simpa using q2)]
   exact xCe (hd _ (m2.last c (by omega)))
  ·rw [xCf (by simpa using q2)]
   by_cases q3:x+1 ≥ g
   ·rw [xCg q3]
    exact xCe (hd _ (gd (i:=i+1) (j:=j) (by omega) hj m2 (by omega)))
   ·rw [xCf q3]
    exact xCe (hy _ rfl (gd (i:=i+1) (j:=j) (by omega) hj m2 (by omega)))
theorem lg {g x y n:Nat} {Q:ForInStep Z2→SortSt→Prop} (c:Cb a b) (hi:i+1<a.size) (hj:j<b.size) (m:MM a b o i j) (hle:∀ n,j≤n→n<b.size→K a i≤K b n) (hn:n≤i+j+1)
  (hd:∀ z,Gd a b n z.1 z.2.1 z.2.2.1 z.2.2.2.1→Q (.done z) st) (hy:∀ z:Z2,z.1=none→Gd a b n none z.2.1 z.2.2.1 z.2.2.2.1→Q (.yield z) st) :
  wpS (model prog w) A E s (l4 a b o i j g x y) Q st:=by
 unfold l4
 have hi':i<a.size:=by omega
 refine xCd (ax hi' ?_)
 have m2:=m.pa hi' fun x hx=>by
  obtain ⟨n,h1,h2,h3⟩:=aW hx
  show numOf a[i].1≤_
  rw [h3,← K_eq hi']
  exact hle n h1 h2
 by_cases q2:i+1+1=a.size
 ·rw [xCg (by simpa using q2)]
  exact xCe (hd _ (m2.last c (by omega)))
 ·rw [xCf (by simpa using q2)]
  by_cases q3:(decide (x<7) && decide (y<7))=true
  ·rw [xCg q3]
   exact xCe (hd _ (gd (i:=i+1) (j:=j) (by omega) hj m2 (by omega)))
  ·rw [xCf q3]
   exact xCe (hy _ rfl (gd (i:=i+1) (j:=j) (by omega) hj m2 (by omega)))
theorem lh {g x y n:Nat} {Q:ForInStep Z2→SortSt→Prop} (c:Cb a b) (hk:kindOf st=oneType') (hi:i+1<a.size) (hj:j<b.size) (m:MM a b o i j) (hle:∀ n,i≤n→n<a.size→K b j≤K a n) (hn:n≤i+j+1)
  (hd:∀ z,Gd a b n z.1 z.2.1 z.2.2.1 z.2.2.2.1→Q (.done z) st) (hy:∀ z:Z2,z.1=none→Gd a b n none z.2.1 z.2.2.1 z.2.2.2.1→Q (.yield z) st) :
  wpS (model prog w) A E s (l3 a b o i j g x y) Q st:=by
 unfold l3
 have hi':i<a.size:=by omega
 refine xCd (ax hj ?_)
 have m2:=m.pb hj fun x hx=>by
  obtain ⟨n,h1,h2,h3⟩:=aW hx
  show numOf b[j].1≤_
  rw [h3,← K_eq hj]
  exact hle n h1 h2
 by_cases q2:j+1=b.size
 ·rw [xCg (by simpa using q2)]
  exact xCe (hd _ (m2.finB (by omega)))
 ·rw [xCf (by simpa using q2)]
  obtain ⟨t1,e1⟩:=bh c.ia hi'
  refine xCd (ax hi' (xCd (bt (left:=true) (arr:=b) (base:=j+1) (n:=b.size - (j+1)) (hint:=0) hk c.ib e1 (by omega) ?_ (by omega) fun k hk1 hk2 hk3=>?_)))
  ·intro u v _ huv hv
   exact cB c.sb u v (xBn _) huv (by omega)
  ·dsimp only
   have lo:∀ n,j+1+k≤n→n<b.size→K a i≤K b n:=fun n h1 h2=>by
    have:=hk3 (n - (j+1)) (by omega) (by omega)
    rw [show j+1+(n - (j+1))=n by omega] at this
    unfold Bt at this
    simp only [if_true,decide_eq_false_iff_not] at this
    omega
   by_cases q3:k > 0
   ·rw [xCg q3]
    have m3:=m2.eb k fun y hy x hx=>by
     obtain ⟨n,h1,h2,h3⟩:=bz hy
     obtain ⟨n',h1',h2',h3'⟩:=aW hx
     have z1:=hk2 n h1
     have z2:=cB c.sa i n' (xBn _) h1' h2'
     unfold Bt at z1
     simp only [if_true,decide_eq_true_eq] at z1
     show numOf y.1≤numOf x.1
     rw [h3,h3']
     omega
    by_cases q4:j+1+k=b.size
    ·rw [xCg (by simpa using q4)]
     exact xCe (hd _ (m3.finB (by omega)))
    ·rw [xCf (by simpa using q4)]
     exact lg c hi (by omega) m3 lo (by omega) hd hy
   ·rw [xCf q3]
    obtain rfl:k=0:=by omega
    exact lg c hi (by omega) m2 lo (by omega) hd hy
theorem li {g x y n:Nat} {Q:ForInStep Z2→SortSt→Prop} (c:Cb a b) (hS:Sg st₀ st) (hi:i+1<a.size) (hj:j<b.size) (m:MM a b o i j) (hn:n≤i+j+1)
  (hd:∀ z st,Sg st₀ st→Gd a b n z.1 z.2.1 z.2.2.1 z.2.2.2.1→Q (.done z) st) (hy:∀ (z:Z2) st,Sg st₀ st→z.1=none→Gd a b n none z.2.1 z.2.2.1 z.2.2.2.1→Q (.yield z) st) :
  wpS (model prog w) A E s (l2 a b o i j g x y) Q st:=by
 unfold l2
 have hi':i<a.size:=by omega
 have hS2:=hS.set g
 refine xCd (wpS_modify ?_)
 obtain ⟨t1,e1⟩:=bh c.ib hj
 refine xCd (ax hj (xCd (bt (left:=false) (arr:=a) (base:=i) (n:=a.size - i) (hint:=0) hS2.k c.ia e1 (by omega) ?_ (by omega) fun k hk1 hk2 hk3=>?_)))
 ·intro u v _ huv hv
  exact cB c.sa u v (xBn _) huv (by omega)
 ·dsimp only
  have lo:∀ n,i+k≤n→n<a.size→K b j≤K a n:=fun n h1 h2=>by
   have:=hk3 (n - i) (by omega) (by omega)
   rw [show i+(n - i)=n by omega] at this
   unfold Bt at this
   simp only [xAz,if_false,Bool.not_eq_false',decide_eq_true_eq] at this
   omega
  by_cases q3:k > 0
  ·rw [xCg q3]
   have m3:=m.ea k fun x hx y hy=>by
    obtain ⟨n,h1,h2,h3⟩:=bz hx
    obtain ⟨n',h1',h2',h3'⟩:=aW hy
    have z1:=hk2 n h1
    have z2:=cB c.sb j n' (xBn _) h1' h2'
    unfold Bt at z1
    simp only [xAz,if_false,Bool.not_eq_true',decide_eq_false_iff_not] at z1
    show numOf x.1≤numOf y.1
    rw [h3,h3']
    omega
   by_cases q4:i+k+1=a.size
   ·rw [xCg (by simpa using q4)]
    exact xCe (hd _ _ hS2 (m3.last c q4))
   ·rw [xCf (by simpa using q4)]
    by_cases q5:i+k=a.size
    ·rw [xCg (by simpa using q5)]
     exact xCe (hd _ _ hS2 (m3.finA (by omega)))
    ·rw [xCf (by simpa using q5)]
     exact lh c hS2.k (by omega) hj m3 lo (by omega) (fun z=>hd z _ hS2) (fun z=>hy z _ hS2)
  ·rw [xCf q3]
   obtain rfl:k=0:=by omega
   exact lh c hS2.k hi hj m lo (by omega) (fun z=>hd z _ hS2) (fun z=>hy z _ hS2)
theorem o4 {g n:Nat} {Q:ForInStep Z0→SortSt→Prop} (c:Cb a b) (hS:Sg st₀ st) (hi:i+1<a.size) (hj:j<b.size) (m:MM a b o i j) (hn:n≤i+j)
  (hd:∀ r z st,Sg st₀ st→RS a b r→Q (.done (some r,z)) st) (hy:∀ o i j g st,Sg st₀ st→Gd a b (n+1) none o i j→Q (.yield (none,o,i,j,g)) st) :
  wpS (model prog w) A E s (l0 a b (none,o,i,j,g)) Q st:=by
 unfold l0
 dsimp only
 refine xCd (wpS_mono (wpS_forRange (I:=fun t z st'=>st'=st∧z.1=none∧Gd a b (n+t) none z.2.1 z.2.2.1 z.2.2.2.1) (Q:=fun z st'=>st'=st∧Gd a b (n+1) z.1 z.2.1 z.2.2.1 z.2.2.2.1) ?step ?fin ⟨rfl,rfl,hi,hj,m,by omega⟩) ?post)
 case fin =>
  rintro ⟨r,z⟩ st' ⟨rfl,e,h1,h2,h3,h4⟩
  obtain rfl:r=none:=e
  dsimp only at h1 h2 h3 h4 ⊢
  exact ⟨rfl,h1,h2,h3,by omega⟩
 case step =>
  rintro t ⟨r,o',i',j',x',y'⟩ st' _ ht ⟨rfl,e,h1,h2,h3,h4⟩
  obtain rfl:r=none:=e
  dsimp only at h1 h2 h3 h4
  refine o3 c hS.k h1 h2 h3 (fun z hz=>⟨rfl,?_⟩) (fun z e hz=>⟨rfl,e,?_⟩)
  ·cases er:z.1 with
   | some r=>rw [er] at hz;exact hz
   | none=>rw [er] at hz;exact ⟨hz.1,hz.2.1,hz.2.2.1,by have:=hz.2.2.2;omega⟩
  ·exact ⟨hz.1,hz.2.1,hz.2.2.1,by have:=hz.2.2.2;omega⟩
 case post =>
  rintro ⟨r,o',i',j',x',y'⟩ st' ⟨rfl,hg⟩
  cases r with
  | some r=>exact xCe (hd _ _ _ hS hg)
  | none =>
   obtain ⟨h1,h2,h3,h4⟩:=hg
   dsimp only at h1 h2 h3 h4 ⊢
   refine xCd (wpS_lift (wpAny_rule ⟨rfl,?_⟩))
   refine xCd (wpS_mono (wpS_forRange (I:=fun t z st'=>Sg st₀ st'∧z.1=none∧Gd a b (n+1) none z.2.1 z.2.2.1 z.2.2.2.1) (Q:=fun z st'=>Sg st₀ st'∧Gd a b (n+1) z.1 z.2.1 z.2.2.1 z.2.2.2.1) ?step2 ?fin2 ⟨hS,rfl,h1,h2,h3,h4⟩) ?post2)
   case fin2 =>
    rintro ⟨r,z⟩ st' ⟨hS',e,hg⟩
    obtain rfl:r=none:=e
    exact ⟨hS',hg⟩
   case step2 =>
    rintro t ⟨r,o',i',j',g',x',y'⟩ st' _ ht ⟨hS',e,h1,h2,h3,h4⟩
    obtain rfl:r=none:=e
    dsimp only at h1 h2 h3 h4 ⊢
    by_cases hg:g' > 1
    ·rw [xCg hg]
     exact li c hS' h1 h2 h3 (by omega) (fun z st2 hS2 hz=>⟨hS2,hz⟩) (fun z st2 hS2 e hz=>⟨hS2,e,hz⟩)
    ·rw [xCf hg]
     exact li c hS' h1 h2 h3 (by omega) (fun z st2 hS2 hz=>⟨hS2,hz⟩) (fun z st2 hS2 e hz=>⟨hS2,e,hz⟩)
   case post2 =>
    rintro ⟨r,o',i',j',g',x',y'⟩ st' ⟨hS',hg⟩
    cases r with
    | some r=>exact xCe (hd _ _ _ hS' hg)
    | none=>exact xCd (wpS_modify (xCe (hy _ _ _ _ _ (hS'.set _) hg)))
theorem f9 {Q:Array Keyed→SortSt→Prop} (c:Cb a b) (hS:Sg st₀ st) (ha:0<a.size) (hb:0<b.size) (h0:K b 0≤K a 0) (h:∀ r st,Sg st₀ st→RS a b r→Q r st):wpS (model prog w) A E s (mergeLo' a b) Q st:=by
 rw [fA]
 refine xCd (wpS_lift (wpAny_rule ⟨rfl,?_⟩))
 refine xCd (ax hb ?_)
 have m0:MM a b #[] 0 0:=⟨by simp,by simp,by simpa using c.sa,by simpa using c.sb,fun _ z=>(by simp at z),fun _ z=>(by simp at z)⟩
 have m1:MM a b #[b[0]] 0 1:=m0.pb hb fun x hx=>by
  obtain ⟨n,h1,h2,h3⟩:=aW hx
  have:=cB c.sa 0 n (xBn _) h1 h2
  show numOf b[0].1≤_
  rw [h3,← K_eq hb]
  omega
 by_cases q1:1=b.size
 ·rw [xCg (by simpa using q1)]
  exact xCe (h _ _ hS (m1.finB (by omega)))
 ·rw [xCf (by simpa using q1)]
  by_cases q2:0+1=a.size
  ·rw [xCg (by simpa using q2)]
   exact xCe (h _ _ hS (m1.last c q2))
  ·rw [xCf (by simpa using q2)]
   refine xCd (wpS_get ?_)
   refine xCd (wpS_mono (wpS_forRange (I:=fun t z st'=>Sg st₀ st'∧z.1=none∧Gd a b (t+1) none z.2.1 z.2.2.1 z.2.2.2.1) (Q:=fun z st'=>Sg st₀ st'∧∃ r,z.1=some r∧RS a b r) ?step ?fin ⟨hS,rfl,gd (i:=0) (j:=1) (by omega) (by omega) m1 (by omega)⟩) ?post)
   case fin =>
    rintro z st' ⟨_,_,h1,h2,_,h4⟩
    omega
   case step =>
    rintro t ⟨r,o',i',j',g'⟩ st' _ ht ⟨hS',e,h1,h2,h3,h4⟩
    obtain rfl:r=none:=e
    dsimp only at h1 h2 h3 h4 ⊢
    exact o4 c hS' h1 h2 h3 h4 (fun r z st2 hS2 hr=>⟨hS2,r,rfl,hr⟩) (fun o i j g st2 hS2 hz=>⟨hS2,rfl,hz⟩)
   case post =>
    rintro ⟨r,z⟩ st' ⟨hS',r',e,hr⟩
    obtain rfl:r=some r':=e
    exact xCe (h _ _ hS' hr)
end
end
end Tim
namespace Tim
open PySem PyProof.Rows
def mergeHi':Array Keyed→Array Keyed→StateT SortSt Sem (Array Keyed):=sortPriv% PySem.Builtin.mergeHi
abbrev Y1:=Option (Array Keyed)×Nat×Nat×Array Keyed×Nat×Nat
abbrev Y2:=Option (Array Keyed)×Nat×Nat×Array Keyed×Nat×Nat×Nat
abbrev Y0:=Option (Array Keyed)×Nat×Nat×Array Keyed×Nat
def fin2 (a b:Array Keyed) (o:Array Keyed) (i j:Nat):Array Keyed:=a.extract 0 i++b.extract 0 j++o.reverse
def fst2 (a b:Array Keyed) (o:Array Keyed) (i j:Nat):Array Keyed:=b.extract 0 j++a.extract 0 i++o.reverse
def h1 (a b:Array Keyed) (g:Nat) (z:Y1):StateT SortSt Sem (ForInStep Y1):=do
 let u ← elem' b (z.2.2.1 - 1)
 let v ← elem' a (z.2.1 - 1)
 let q ← lt' u v
 match q with
 | some q =>
  if q=true then do
   let u ← elem' a (z.2.1 - 1)
   if (z.2.1 - 1 == 0)=true then pure (.done (some (fin2 a b (z.2.2.2.1.push u) (z.2.1 - 1) z.2.2.1),z.2.1 - 1,z.2.2.1,z.2.2.2.1.push u,z.2.2.2.2.1+1,0))
   else if z.2.2.2.2.1+1 ≥ g then pure (.done (none,z.2.1 - 1,z.2.2.1,z.2.2.2.1.push u,z.2.2.2.2.1+1,0))
   else pure (.yield (none,z.2.1 - 1,z.2.2.1,z.2.2.2.1.push u,z.2.2.2.2.1+1,0))
  else do
   let u ← elem' b (z.2.2.1 - 1)
   if (z.2.2.1 - 1 == 1)=true then pure (.done (some (fst2 a b (z.2.2.2.1.push u) z.2.1 (z.2.2.1 - 1)),z.2.1,z.2.2.1 - 1,z.2.2.2.1.push u,0,z.2.2.2.2.2+1))
   else if z.2.2.2.2.2+1 ≥ g then pure (.done (none,z.2.1,z.2.2.1 - 1,z.2.2.2.1.push u,0,z.2.2.2.2.2+1))
   else pure (.yield (none,z.2.1,z.2.2.1 - 1,z.2.2.2.1.push u,0,z.2.2.2.2.2+1))
 | _=>pure (.done (some (fin2 a b z.2.2.2.1 z.2.1 z.2.2.1),z.2.1,z.2.2.1,z.2.2.2.1,z.2.2.2.2.1,z.2.2.2.2.2))
def h4 (a b:Array Keyed) (i j:Nat) (o:Array Keyed) (g x y:Nat):StateT SortSt Sem (ForInStep Y2):=do
 let u ← elem' a (i - 1)
 if (i - 1 == 0)=true then pure (.done (some (fin2 a b (o.push u) (i - 1) j),i - 1,j,o.push u,g,x,y))
 else if (decide (x<7) && decide (y<7))=true then pure (.done (none,i - 1,j,o.push u,g,x,y))
 else pure (.yield (none,i - 1,j,o.push u,g,x,y))
def h3 (a b:Array Keyed) (i j:Nat) (o:Array Keyed) (g x y:Nat):StateT SortSt Sem (ForInStep Y2):=do
 let u ← elem' b (j - 1)
 if (j - 1 == 1)=true then pure (.done (some (fst2 a b (o.push u) i (j - 1)),i,j - 1,o.push u,g,x,y))
 else do
  let v ← elem' a (i - 1)
  let q ← gallop' true v b 0 (j - 1) (j - 1 - 1)
  match q with
  | some k =>
   if j - 1 - k > 0 then
    if (k == 1)=true then pure (.done (some (fst2 a b (o.push u++(b.extract k (j - 1)).reverse) i k),i,k,o.push u++(b.extract k (j - 1)).reverse,g,x,j - 1 - k))
    else if (k == 0)=true then pure (.done (some (fin2 a b (o.push u++(b.extract k (j - 1)).reverse) i k),i,k,o.push u++(b.extract k (j - 1)).reverse,g,x,j - 1 - k))
    else h4 a b i k (o.push u++(b.extract k (j - 1)).reverse) g x (j - 1 - k)
   else h4 a b i (j - 1) (o.push u) g x (j - 1 - k)
  | _=>pure (.done (some (fin2 a b (o.push u) i (j - 1)),i,j - 1,o.push u,g,x,y))
def h2 (a b:Array Keyed) (i j:Nat) (o:Array Keyed) (g x y:Nat):StateT SortSt Sem (ForInStep Y2):=do
 modify fun st=>setG st g
 let u ← elem' b (j - 1)
 let q ← gallop' false u a 0 i (i - 1)
 match q with
 | some k =>
  if i - k > 0 then
   if (k == 0)=true then pure (.done (some (fin2 a b (o++(a.extract k i).reverse) k j),k,j,o++(a.extract k i).reverse,g,i - k,y))
   else h3 a b k j (o++(a.extract k i).reverse) g (i - k) y
  else h3 a b i j o g (i - k) y
 | _=>pure (.done (some (fin2 a b o i j),i,j,o,g,x,y))
def h0 (a b:Array Keyed) (z:Y0):StateT SortSt Sem (ForInStep Y0):=do
 let y ← forIn [0:a.size+b.size] ((none,z.2.1,z.2.2.1,z.2.2.2.1,0,0):Y1) fun _ y=>h1 a b z.2.2.2.2 y
 match y.1 with
 | some r=>pure (.done (some r,y.2.1,y.2.2.1,y.2.2.2.1,z.2.2.2.2))
 | none=>do
  liftM (rule "list.sort.gallop")
  let x ← forIn [0:a.size+b.size] ((none,y.2.1,y.2.2.1,y.2.2.2.1,z.2.2.2.2+1,y.2.2.2.2.1,y.2.2.2.2.2):Y2) fun _ x =>
   if x.2.2.2.2.1 > 1 then h2 a b x.2.1 x.2.2.1 x.2.2.2.1 (x.2.2.2.2.1 - 1) x.2.2.2.2.2.1 x.2.2.2.2.2.2 else h2 a b x.2.1 x.2.2.1 x.2.2.2.1 x.2.2.2.2.1 x.2.2.2.2.2.1 x.2.2.2.2.2.2
  match x.1 with
  | some r=>pure (.done (some r,x.2.1,x.2.2.1,x.2.2.2.1,x.2.2.2.2.1))
  | none=>do
   modify fun st=>setG st (x.2.2.2.2.1+1)
   pure (.yield (none,x.2.1,x.2.2.1,x.2.2.2.1,x.2.2.2.2.1+1))
theorem eP (a b:Array Keyed):mergeHi' a b=(do
 rule "list.sort.merge-hi"
 let T:=a.size+b.size
 let fi (o:Array Keyed) (i j:Nat):=a.extract 0 i++b.extract 0 j++o.reverse
 let la (o:Array Keyed) (i j:Nat):=b.extract 0 j++a.extract 0 i++o.reverse
 let mut i:=a.size - 1
 let mut j:=b.size
 let mut o:Array Keyed:=#[← elem' a i]
 if i == 0 then return fi o i j
 if j == 1 then return la o i j
 let mut g:=gallopOf (← get)
 for _ in [0:T] do
  let mut x:=0
  let mut y:=0
  for _ in [0:T] do
   let some q ← lt' (← elem' b (j - 1)) (← elem' a (i - 1)) | return fi o i j
   if q then
    i:=i - 1;o:=o.push (← elem' a i);x:=x+1;y:=0
    if i == 0 then return fi o i j
    if x ≥ g then break
   else
    j:=j - 1;o:=o.push (← elem' b j);y:=y+1;x:=0
    if j == 1 then return la o i j
    if y ≥ g then break
  rule "list.sort.gallop"
  g:=g+1
  for _ in [0:T] do
   if g > 1 then g:=g - 1
   modify fun st=>setG st g
   let some k ← gallop' false (← elem' b (j - 1)) a 0 i (i - 1) | return fi o i j
   let d:=i - k
   x:=d
   if d > 0 then
    o:=o++(a.extract k i).reverse;i:=k
    if i == 0 then return fi o i j
   j:=j - 1;o:=o.push (← elem' b j)
   if j == 1 then return la o i j
   let some k ← gallop' true (← elem' a (i - 1)) b 0 j (j - 1) | return fi o i j
   let d:=j - k
   y:=d
   if d > 0 then
    o:=o++(b.extract k j).reverse;j:=k
    if j == 1 then return la o i j
    if j == 0 then return fi o i j
   i:=i - 1;o:=o.push (← elem' a i)
   if i == 0 then return fi o i j
   if x<7 && y<7 then break
  g:=g+1
  modify fun st=>setG st g
 unsupported "internal:list.sort.merge-bound"):=rfl
theorem fC (a b:Array Keyed):mergeHi' a b=(do
 liftM (rule "list.sort.merge-hi")
 let u ← elem' a (a.size - 1)
 if (a.size - 1 == 0)=true then pure (fin2 a b #[u] (a.size - 1) b.size)
 else if (b.size == 1)=true then pure (fst2 a b #[u] (a.size - 1) b.size)
 else do
  let st ← get
  let z ← forIn [0:a.size+b.size] ((none,a.size - 1,b.size,#[u],gallopOf st):Y0) fun _ z=>h0 a b z
  match z.1 with
  | some r=>pure r
  | none=>liftM (unsupported "internal:list.sort.merge-bound":Sem (Array Keyed))):=by
 rw [eP]
 dsimp only
 congr 1;funext _;congr 1;funext u
 congr 1
 congr 1
 congr 1;funext st
 congr 1
 ·congr 1;funext _ z
  unfold h0
  congr 1
  funext y
  obtain ⟨r,y⟩:=y
  cases r with
  | some r=>rfl
  | none =>
   dsimp only
   congr 1
   funext _
   congr 1
   funext x
   obtain ⟨r,x⟩:=x
   cases r <;> rfl
 ·funext z
  obtain ⟨r,z⟩:=z
  cases r <;> rfl
end Tim
namespace Tim
open PySem PyProof.Rows
structure N3 (L A B O:List Keyed):Prop where
 pm:(A++(B++O)).Perm L
 so:O.Pairwise le'
 sa:A.Pairwise le'
 sb:B.Pairwise le'
 ca:∀ x∈A,∀ y∈O,le' x y
 cb:∀ x∈B,∀ y∈O,le' x y
section
variable {L O A B:List Keyed}
theorem N3.takeA (m:N3 L A B O) (k:Nat) (h:∀ x∈A.drop k,∀ y∈B,le' y x):N3 L (A.take k) B (A.drop k++O):=by
 obtain ⟨t1,t2,t3⟩:=gG m.sa k
 refine ⟨?_,List.pairwise_append.mpr ⟨t2,m.so,fun x hx y hy=>m.ca x (List.mem_of_mem_drop hx) y hy⟩,t1,m.sb,fun x hx y hy=>?_,fun x hx y hy=>?_⟩
 ·refine List.Perm.trans ?_ m.pm
  have e:(A++(B++O))=A.take k++(A.drop k++(B++O)):=by rw [← xAx (A.take k),xBx]
  rw [e]
  refine List.Perm.append_left _ ?_
  rw [← xAx,← xAx]
  exact List.Perm.append_right _ List.perm_append_comm
 ·rcases xAj.mp hy with z | z
  ·exact t3 x hx y z
  ·exact m.ca x (xBj hx) y z
 ·rcases xAj.mp hy with z | z
  ·exact h y z x hx
  ·exact m.cb x hx y z
theorem N3.swap (m:N3 L A B O):N3 L B A O:=⟨by
  refine List.Perm.trans ?_ m.pm
  rw [← xAx,← xAx]
  exact List.Perm.append_right _ List.perm_append_comm,m.so,m.sb,m.sa,m.cb,m.ca⟩
theorem N3.takeB (m:N3 L A B O) (k:Nat) (h:∀ y∈B.drop k,∀ x∈A,le' x y):N3 L A (B.take k) (B.drop k++O):=(m.swap.takeA k h).swap
theorem N3.all (m:N3 L A B O) (h:∀ x∈A,∀ y∈B,le' x y):(A++B++O).Perm L∧(A++B++O).Pairwise le':=by
 rw [xAx]
 refine ⟨m.pm,List.pairwise_append.mpr ⟨m.sa,List.pairwise_append.mpr ⟨m.sb,m.so,m.cb⟩,fun x hx y hy=>?_⟩⟩
 rcases xAj.mp hy with z | z
 ·exact h x hx y z
 ·exact m.ca x hx y z
end
abbrev NN (a b o:Array Keyed) (i j:Nat):Prop:=N3 (a.toList++b.toList) (a.toList.take i) (b.toList.take j) o.toList.reverse
structure Db (a b:Array Keyed):Prop extends Cb a b where
 fb:∀ x∈a.toList,K b 0≤numOf x.1
section
variable {a b o:Array Keyed} {i j:Nat}
theorem gP (a:Array Keyed) (i:Nat):(a.extract 0 i).toList=a.toList.take i:=by
 rw [Array.toList_extract,xB6,List.drop_zero,Nat.sub_zero]
theorem lr (a:Array Keyed) (k i:Nat) (h:k≤i) (hi:i≤a.size):(a.extract k i).toList=(a.toList.take i).drop k:=by
 rw [Array.toList_extract,xB6,List.drop_take]
theorem ei:(fin2 a b o i j).toList=a.toList.take i++b.toList.take j++o.toList.reverse:=by
 unfold fin2
 rw [xB1,xB1,gP,gP,Array.toList_reverse]
theorem ip:(fst2 a b o i j).toList=b.toList.take j++a.toList.take i++o.toList.reverse:=by
 unfold fst2
 rw [xB1,xB1,gP,gP,Array.toList_reverse]
theorem dq (h0:0<i) (hi:i≤a.size):(a.toList.take i).drop (i - 1)=[a[i - 1]]∧(a.toList.take i).take (i - 1)=a.toList.take (i - 1):=by
 have hl:i - 1<a.toList.length:=by rw [xAh];omega
 refine ⟨?_,by rw [List.take_take];congr 1;omega⟩
 rw [List.drop_take,xB2 hl,show i - (i - 1)=1 by omega]
 simp
theorem NN.pa (m:NN a b o i j) (h0:0<i) (hi:i≤a.size) (h:∀ y∈b.toList.take j,le' y a[i - 1]):NN a b (o.push a[i - 1]) (i - 1) j:=by
 obtain ⟨e1,e2⟩:=dq h0 hi
 have:=N3.takeA m (i - 1) (by rw [e1];intro x hx;have e:=xAm.mp hx;rw [e];exact h)
 rw [e1,e2] at this
 change N3 _ _ _ (o.push a[i - 1]).toList.reverse
 rw [Array.toList_push,List.reverse_append]
 exact this
theorem NN.pb (m:NN a b o i j) (h0:0<j) (hj:j≤b.size) (h:∀ x∈a.toList.take i,le' x b[j - 1]):NN a b (o.push b[j - 1]) i (j - 1):=by
 obtain ⟨e1,e2⟩:=dq h0 hj
 have:=N3.takeB m (j - 1) (by rw [e1];intro x hx;have e:=xAm.mp hx;rw [e];exact h)
 rw [e1,e2] at this
 change N3 _ _ _ (o.push b[j - 1]).toList.reverse
 rw [Array.toList_push,List.reverse_append]
 exact this
theorem NN.ea (m:NN a b o i j) (k:Nat) (hk:k≤i) (hi:i≤a.size) (h:∀ x∈(a.toList.take i).drop k,∀ y∈b.toList.take j,le' y x):NN a b (o++(a.extract k i).reverse) k j:=by
 have:=N3.takeA m k h
 rw [List.take_take,Nat.min_eq_left hk] at this
 change N3 _ _ _ (o++(a.extract k i).reverse).toList.reverse
 rw [xB1,Array.toList_reverse,List.reverse_append,List.reverse_reverse,lr a k i hk hi]
 exact this
theorem NN.eb (m:NN a b o i j) (k:Nat) (hk:k≤j) (hj:j≤b.size) (h:∀ y∈(b.toList.take j).drop k,∀ x∈a.toList.take i,le' x y):NN a b (o++(b.extract k j).reverse) i k:=by
 have:=N3.takeB m k h
 rw [List.take_take,Nat.min_eq_left hk] at this
 change N3 _ _ _ (o++(b.extract k j).reverse).toList.reverse
 rw [xB1,Array.toList_reverse,List.reverse_append,List.reverse_reverse,lr b k j hk hj]
 exact this
theorem NN.finA (m:NN a b o i j) (h:i=0):RS a b (fin2 a b o i j):=by
 unfold RS
 rw [ei]
 exact N3.all m (by rw [h,List.take_zero];exact fun _ z=>nomatch z)
theorem NN.finB (m:NN a b o i j) (h:j=0):RS a b (fin2 a b o i j):=by
 unfold RS
 rw [ei]
 exact N3.all m (by rw [h,List.take_zero];exact fun _ _ _ z=>nomatch z)
theorem NN.first (m:NN a b o i j) (c:Db a b) (hb:0<b.size) (h:j=1):RS a b (fst2 a b o i j):=by
 unfold RS
 rw [ip]
 refine N3.all (N3.swap m) fun y hy x hx=>?_
 subst h
 have e:b.toList.take 1=[b[0]]:=by
  have:=(dq (a:=b) (i:=1) (by omega) (by omega)).1
  simpa using this
 rw [e] at hy
 have ey:=xAm.mp hy
 have:=c.fb x (xBj hx)
 rw [K_eq hb] at this
 rw [ey]
 exact this
theorem aZ {y:Keyed} (h:y∈a.toList.take i):∃ n,n<i∧n<a.size∧numOf y.1=K a n:=by
 have h':y∈(a.toList.drop 0).take i:=by rw [List.drop_zero];exact h
 obtain ⟨n,h1,h2,h3⟩:=bz h'
 rw [Nat.zero_add] at h2 h3
 exact ⟨n,h1,h2,h3⟩
theorem eg {y:Keyed} {k:Nat} (h:y∈(a.toList.take i).drop k):∃ n,k≤n∧n<i∧n<a.size∧numOf y.1=K a n:=by
 rw [List.drop_take] at h
 obtain ⟨n,h1,h2,h3⟩:=bz h
 exact ⟨k+n,by omega,by omega,h2,h3⟩
def Hd (a b:Array Keyed) (n:Nat) (r:Option (Array Keyed)) (i j:Nat) (o:Array Keyed):Prop:=match r with
 | some r=>RS a b r
 | none=>(0<i∧i≤a.size)∧(1<j∧j≤b.size)∧NN a b o i j∧i+j+n≤a.size+b.size
theorem hdd {n:Nat} (h1:0<i∧i≤a.size) (h2:1<j∧j≤b.size) (m:NN a b o i j) (h4:i+j+n≤a.size+b.size):Hd a b n none i j o:=⟨h1,h2,m,h4⟩
section
variable {prog:Program} {w:World} {A:Around} {E:Value→Shared→Prop} {s:Shared} {st st₀:SortSt}
theorem o5 {g x y n:Nat} {Q:ForInStep Y1→SortSt→Prop} (c:Db a b) (hk:kindOf st=oneType') (hi:0<i∧i≤a.size) (hj:1<j∧j≤b.size) (m:NN a b o i j) (hn:i+j+n≤a.size+b.size+1)
  (hd:∀ z,Hd a b n z.1 z.2.1 z.2.2.1 z.2.2.2.1→Q (.done z) st) (hy:∀ z:Y1,z.1=none→Hd a b n none z.2.1 z.2.2.1 z.2.2.2.1→Q (.yield z) st) :
  wpS (model prog w) A E s (h1 a b g (none,i,j,o,x,y)) Q st:=by
 unfold h1
 dsimp only
 have hi':i - 1<a.size:=by omega
 have hj':j - 1<b.size:=by omega
 obtain ⟨t1,e1⟩:=bh c.ia hi'
 obtain ⟨t2,e2⟩:=bh c.ib hj'
 refine xCd (ax hj' (xCd (ax hi' (xCd (gJ hk e2 e1 ?_)))))
 by_cases q:K b (j - 1)<K a (i - 1)
 ·simp only [q,decide_true,if_true]
  refine xCd (ax hi' ?_)
  have m2:=m.pa hi.1 hi.2 fun y hy=>by
   obtain ⟨n,g1,g2,g3⟩:=aZ hy
   have:=cB c.sb n (j - 1) (xBn _) (by omega) hj'
   show _≤numOf a[i - 1].1
   rw [g3,← K_eq hi']
   omega
  by_cases q2:i - 1=0
  ·rw [xCg (by simpa using q2)]
   exact xCe (hd _ (m2.finA q2))
  ·rw [xCf (by simpa using q2)]
   by_cases q3:x+1 ≥ g
   ·rw [xCg q3]
    exact xCe (hd _ (hdd (i:=i - 1) (j:=j) (by omega) hj m2 (by omega)))
   ·rw [xCf q3]
    exact xCe (hy _ rfl (hdd (i:=i - 1) (j:=j) (by omega) hj m2 (by omega)))
 ·simp only [q,decide_false,xAz,if_false]
  refine xCd (ax hj' ?_)
  have m2:=m.pb (by omega) hj.2 fun x hx=>by
   obtain ⟨n,g1,g2,g3⟩:=aZ hx
   have:=cB c.sa n (i - 1) (xBn _) (by omega) hi'
   show _≤numOf b[j - 1].1
   rw [g3,← K_eq hj']
   omega
  by_cases q2:j - 1=1
  ·rw [xCg (by simpa using q2)]
   exact xCe (hd _ (m2.first c (by omega) q2))
  ·rw [xCf (by simpa using q2)]
   by_cases q3:y+1 ≥ g
   ·rw [xCg q3]
    exact xCe (hd _ (hdd (i:=i) (j:=j - 1) hi (by omega) m2 (by omega)))
   ·rw [xCf q3]
    exact xCe (hy _ rfl (hdd (i:=i) (j:=j - 1) hi (by omega) m2 (by omega)))
theorem lj {g x y n:Nat} {Q:ForInStep Y2→SortSt→Prop} (c:Db a b) (hi:0<i∧i≤a.size) (hj:1<j∧j≤b.size) (m:NN a b o i j) (hle:∀ n,n<j→K b n≤K a (i - 1)) (hn:i+j+n≤a.size+b.size+1)
  (hd:∀ z,Hd a b n z.1 z.2.1 z.2.2.1 z.2.2.2.1→Q (.done z) st) (hy:∀ z:Y2,z.1=none→Hd a b n none z.2.1 z.2.2.1 z.2.2.2.1→Q (.yield z) st) :
  wpS (model prog w) A E s (h4 a b i j o g x y) Q st:=by
 unfold h4
 have hi':i - 1<a.size:=by omega
 refine xCd (ax hi' ?_)
 have m2:=m.pa hi.1 hi.2 fun y hy=>by
  obtain ⟨n,g1,g2,g3⟩:=aZ hy
  show _≤numOf a[i - 1].1
  rw [g3,← K_eq hi']
  exact hle n g1
 by_cases q2:i - 1=0
 ·rw [xCg (by simpa using q2)]
  exact xCe (hd _ (m2.finA q2))
 ·rw [xCf (by simpa using q2)]
  by_cases q3:(decide (x<7) && decide (y<7))=true
  ·rw [xCg q3]
   exact xCe (hd _ (hdd (i:=i - 1) (j:=j) (by omega) hj m2 (by omega)))
  ·rw [xCf q3]
   exact xCe (hy _ rfl (hdd (i:=i - 1) (j:=j) (by omega) hj m2 (by omega)))
theorem lm {g x y n:Nat} {Q:ForInStep Y2→SortSt→Prop} (c:Db a b) (hk:kindOf st=oneType') (hi:0<i∧i≤a.size) (hj:1<j∧j≤b.size) (m:NN a b o i j) (hle:∀ n,n<i→K a n≤K b (j - 1)) (hn:i+j+n≤a.size+b.size+1)
  (hd:∀ z,Hd a b n z.1 z.2.1 z.2.2.1 z.2.2.2.1→Q (.done z) st) (hy:∀ z:Y2,z.1=none→Hd a b n none z.2.1 z.2.2.1 z.2.2.2.1→Q (.yield z) st) :
  wpS (model prog w) A E s (h3 a b i j o g x y) Q st:=by
 unfold h3
 have hi':i - 1<a.size:=by omega
 have hj':j - 1<b.size:=by omega
 refine xCd (ax hj' ?_)
 have m2:=m.pb (by omega) hj.2 fun x hx=>by
  obtain ⟨n,g1,g2,g3⟩:=aZ hx
  show _≤numOf b[j - 1].1
  rw [g3,← K_eq hj']
  exact hle n g1
 by_cases q2:j - 1=1
 ·rw [xCg (by simpa using q2)]
  exact xCe (hd _ (m2.first c (by omega) q2))
 ·rw [xCf (by simpa using q2)]
  obtain ⟨t1,e1⟩:=bh c.ia hi'
  refine xCd (ax hi' (xCd (bt (left:=true) (arr:=b) (base:=0) (n:=j - 1) (hint:=j - 1 - 1) hk c.ib e1 (by omega) ?_ (by omega) fun k hk1 hk2 hk3=>?_)))
  ·intro u v _ huv hv
   exact cB c.sb u v (xBn _) huv (by omega)
  ·dsimp only
   have lo:∀ n,n<k→K b n≤K a (i - 1):=fun n g1=>by
    have:=hk2 n g1
    rw [Nat.zero_add] at this
    unfold Bt at this
    simp only [if_true,decide_eq_true_eq] at this
    omega
   by_cases q3:j - 1 - k > 0
   ·rw [xCg q3]
    have m3:=m2.eb k (by omega) (by omega) fun y hy x hx=>by
     obtain ⟨n,g1,g2,g3,g4⟩:=eg hy
     obtain ⟨n',g1',g2',g3'⟩:=aZ hx
     have z1:=hk3 n g1 g2
     have z2:=cB c.sa n' (i - 1) (xBn _) (by omega) hi'
     rw [Nat.zero_add] at z1
     unfold Bt at z1
     simp only [if_true,decide_eq_false_iff_not] at z1
     show numOf x.1≤numOf y.1
     rw [g4,g3']
     omega
    by_cases q4:k=1
    ·rw [xCg (by simpa using q4)]
     exact xCe (hd _ (m3.first c (by omega) q4))
    ·rw [xCf (by simpa using q4)]
     by_cases q5:k=0
     ·rw [xCg (by simpa using q5)]
      exact xCe (hd _ (m3.finB q5))
     ·rw [xCf (by simpa using q5)]
      exact lj c hi (by omega) m3 lo (by omega) hd hy
   ·rw [xCf q3]
    obtain rfl:k=j - 1:=by omega
    exact lj c hi (by omega) m2 lo (by omega) hd hy
theorem lq {g x y n:Nat} {Q:ForInStep Y2→SortSt→Prop} (c:Db a b) (hS:Sg st₀ st) (hi:0<i∧i≤a.size) (hj:1<j∧j≤b.size) (m:NN a b o i j) (hn:i+j+n≤a.size+b.size+1)
  (hd:∀ z st,Sg st₀ st→Hd a b n z.1 z.2.1 z.2.2.1 z.2.2.2.1→Q (.done z) st) (hy:∀ (z:Y2) st,Sg st₀ st→z.1=none→Hd a b n none z.2.1 z.2.2.1 z.2.2.2.1→Q (.yield z) st) :
  wpS (model prog w) A E s (h2 a b i j o g x y) Q st:=by
 unfold h2
 have hj':j - 1<b.size:=by omega
 have hS2:=hS.set g
 refine xCd (wpS_modify ?_)
 obtain ⟨t1,e1⟩:=bh c.ib hj'
 refine xCd (ax hj' (xCd (bt (left:=false) (arr:=a) (base:=0) (n:=i) (hint:=i - 1) hS2.k c.ia e1 (by omega) ?_ (by omega) fun k hk1 hk2 hk3=>?_)))
 ·intro u v _ huv hv
  exact cB c.sa u v (xBn _) huv (by omega)
 ·dsimp only
  have lo:∀ n,n<k→K a n≤K b (j - 1):=fun n g1=>by
   have:=hk2 n g1
   rw [Nat.zero_add] at this
   unfold Bt at this
   simp only [xAz,if_false,Bool.not_eq_true',decide_eq_false_iff_not] at this
   omega
  by_cases q3:i - k > 0
  ·rw [xCg q3]
   have m3:=m.ea k (by omega) hi.2 fun x hx y hy=>by
    obtain ⟨n,g1,g2,g3,g4⟩:=eg hx
    obtain ⟨n',g1',g2',g3'⟩:=aZ hy
    have z1:=hk3 n g1 g2
    have z2:=cB c.sb n' (j - 1) (xBn _) (by omega) hj'
    rw [Nat.zero_add] at z1
    unfold Bt at z1
    simp only [xAz,if_false,Bool.not_eq_false',decide_eq_true_eq] at z1
    show numOf y.1≤numOf x.1
    rw [g4,g3']
    omega
   by_cases q4:k=0
   ·rw [xCg (by simpa using q4)]
    exact xCe (hd _ _ hS2 (m3.finA q4))
   ·rw [xCf (by simpa using q4)]
    exact lm c hS2.k (by omega) hj m3 lo (by omega) (fun z=>hd z _ hS2) (fun z=>hy z _ hS2)
  ·rw [xCf q3]
   obtain rfl:k=i:=by omega
   exact lm c hS2.k hi hj m lo hn (fun z=>hd z _ hS2) (fun z=>hy z _ hS2)
theorem o6 {g n:Nat} {Q:ForInStep Y0→SortSt→Prop} (c:Db a b) (hS:Sg st₀ st) (hi:0<i∧i≤a.size) (hj:1<j∧j≤b.size) (m:NN a b o i j) (hn:i+j+n≤a.size+b.size)
  (hd:∀ r z st,Sg st₀ st→RS a b r→Q (.done (some r,z)) st) (hy:∀ i j o g st,Sg st₀ st→Hd a b (n+1) none i j o→Q (.yield (none,i,j,o,g)) st) :
  wpS (model prog w) A E s (h0 a b (none,i,j,o,g)) Q st:=by
 unfold h0
 dsimp only
 refine xCd (wpS_mono (wpS_forRange (I:=fun t z st'=>st'=st∧z.1=none∧Hd a b (n+t) none z.2.1 z.2.2.1 z.2.2.2.1) (Q:=fun z st'=>st'=st∧Hd a b (n+1) z.1 z.2.1 z.2.2.1 z.2.2.2.1) ?step ?fin ⟨rfl,rfl,hi,hj,m,hn⟩) ?post)
 case fin =>
  rintro ⟨r,z⟩ st' ⟨rfl,e,g1,g2,g3,g4⟩
  obtain rfl:r=none:=e
  dsimp only at g1 g2 g3 g4 ⊢
  exact ⟨rfl,g1,g2,g3,by omega⟩
 case step =>
  rintro t ⟨r,i',j',o',x',y'⟩ st' _ ht ⟨rfl,e,g1,g2,g3,g4⟩
  obtain rfl:r=none:=e
  dsimp only at g1 g2 g3 g4
  refine o5 (n:=n+(t+1)) c hS.k g1 g2 g3 (by omega) (fun z hz=>⟨rfl,?_⟩) (fun z e hz=>⟨rfl,e,hz⟩)
  cases er:z.1 with
  | some r=>rw [er] at hz;exact hz
  | none=>rw [er] at hz;exact ⟨hz.1,hz.2.1,hz.2.2.1,by have:=hz.2.2.2;omega⟩
 case post =>
  rintro ⟨r,i',j',o',x',y'⟩ st' ⟨rfl,hg⟩
  cases r with
  | some r=>exact xCe (hd _ _ _ hS hg)
  | none =>
   obtain ⟨g1,g2,g3,g4⟩:=hg
   dsimp only at g1 g2 g3 g4 ⊢
   refine xCd (wpS_lift (wpAny_rule ⟨rfl,?_⟩))
   refine xCd (wpS_mono (wpS_forRange (I:=fun t z st'=>Sg st₀ st'∧z.1=none∧Hd a b (n+1) none z.2.1 z.2.2.1 z.2.2.2.1) (Q:=fun z st'=>Sg st₀ st'∧Hd a b (n+1) z.1 z.2.1 z.2.2.1 z.2.2.2.1) ?step2 ?fin2 ⟨hS,rfl,g1,g2,g3,g4⟩) ?post2)
   case fin2 =>
    rintro ⟨r,z⟩ st' ⟨hS',e,hg⟩
    obtain rfl:r=none:=e
    exact ⟨hS',hg⟩
   case step2 =>
    rintro t ⟨r,i',j',o',g',x',y'⟩ st' _ ht ⟨hS',e,g1,g2,g3,g4⟩
    obtain rfl:r=none:=e
    dsimp only at g1 g2 g3 g4 ⊢
    by_cases hg:g' > 1
    ·rw [xCg hg]
     exact lq c hS' g1 g2 g3 (by omega) (fun z st2 hS2 hz=>⟨hS2,hz⟩) (fun z st2 hS2 e hz=>⟨hS2,e,hz⟩)
    ·rw [xCf hg]
     exact lq c hS' g1 g2 g3 (by omega) (fun z st2 hS2 hz=>⟨hS2,hz⟩) (fun z st2 hS2 e hz=>⟨hS2,e,hz⟩)
   case post2 =>
    rintro ⟨r,i',j',o',g',x',y'⟩ st' ⟨hS',hg⟩
    cases r with
    | some r=>exact xCe (hd _ _ _ hS' hg)
    | none=>exact xCd (wpS_modify (xCe (hy _ _ _ _ _ (hS'.set _) hg)))
theorem ga {Q:Array Keyed→SortSt→Prop} (c:Db a b) (hS:Sg st₀ st) (ha:0<a.size) (hb:0<b.size) (h:∀ r st,Sg st₀ st→RS a b r→Q r st):wpS (model prog w) A E s (mergeHi' a b) Q st:=by
 rw [fC]
 refine xCd (wpS_lift (wpAny_rule ⟨rfl,?_⟩))
 have ha':a.size - 1<a.size:=by omega
 refine xCd (ax ha' ?_)
 have m0:NN a b #[] a.size b.size:=by
  have e1:a.toList.take a.size=a.toList:=List.take_of_length_le (by simp)
  have e2:b.toList.take b.size=b.toList:=List.take_of_length_le (by simp)
  refine ⟨?_,by simp,by rw [e1];exact c.sa,by rw [e2];exact c.sb,fun _ _ _ z=>(by simp at z),fun _ _ _ z=>(by simp at z)⟩
  rw [e1,e2]
  simp
 have m1:NN a b #[a[a.size - 1]] (a.size - 1) b.size:=m0.pa ha (xAg _) fun y hy=>by
  have:=c.la y (xBj hy)
  show _≤numOf a[a.size - 1].1
  rw [← K_eq ha']
  exact this
 by_cases q1:a.size - 1=0
 ·rw [xCg (by simpa using q1)]
  exact xCe (h _ _ hS (m1.finA q1))
 ·rw [xCf (by simpa using q1)]
  by_cases q2:b.size=1
  ·rw [xCg (by simpa using q2)]
   exact xCe (h _ _ hS (m1.first c hb q2))
  ·rw [xCf (by simpa using q2)]
   refine xCd (wpS_get ?_)
   refine xCd (wpS_mono (wpS_forRange (I:=fun t z st'=>Sg st₀ st'∧z.1=none∧Hd a b (t+1) none z.2.1 z.2.2.1 z.2.2.2.1) (Q:=fun z st'=>Sg st₀ st'∧∃ r,z.1=some r∧RS a b r) ?step ?fin ⟨hS,rfl,hdd (i:=a.size - 1) (j:=b.size) (by omega) (by omega) m1 (by omega)⟩) ?post)
   case fin =>
    rintro z st' ⟨_,_,g1,g2,_,g4⟩
    omega
   case step =>
    rintro t ⟨r,i',j',o',g'⟩ st' _ ht ⟨hS',e,g1,g2,g3,g4⟩
    obtain rfl:r=none:=e
    dsimp only at g1 g2 g3 g4 ⊢
    exact o6 c hS' g1 g2 g3 g4 (fun r z st2 hS2 hr=>⟨hS2,r,rfl,hr⟩) (fun i j o g st2 hS2 hz=>⟨hS2,rfl,hz⟩)
   case post =>
    rintro ⟨r,z⟩ st' ⟨hS',r',e,hr⟩
    obtain rfl:r=some r':=e
    exact xCe (h _ _ hS' hr)
end
end
end Tim
namespace Tim
open PySem PyProof.Rows
theorem fD (i:Nat):mergeAt' i=(do
 let s ← get
 let (some (sa,na,pw),some (sb,nb,_)):=((pendingOf s)[i]?,(pendingOf s)[i+1]?) | unsupported "internal:list.sort.pending"
 set (setPending s (((pendingOf s).setIfInBounds i (sa,na+nb,pw)).eraseIdxIfInBounds (i+1)))
 let some k ← gallop' false (← elem' (arrOf s) sb) (arrOf s) sa na 0 | return false
 let (sa,na):=(sa+k,na - k)
 if na == 0 then return true
 let some nb ← gallop' true (← elem' (arrOf s) (sa+na - 1)) (arrOf s) sb nb (nb - 1) | return false
 if nb == 0 then return true
 let x:=(arrOf s).extract sa sb
 let y:=(arrOf s).extract sb (sb+nb)
 let r ← if na≤nb then mergeLo' x y else mergeHi' x y
 modify fun s=>setArr s (r.toList.zipIdx.foldl (fun a (p,j)=>a.setIfInBounds (sa+j) p) (arrOf s))
 return (failedOf (← get)).isNone):=rfl
theorem eJ:∀ (l:List Keyed) (n p:Nat) (xs:Array Keyed),p+n+l.length≤xs.size→((l.zipIdx n).foldl (fun a x=>a.setIfInBounds (p+x.snd) x.fst) xs).size=xs.size ∧
  ∀ k,((l.zipIdx n).foldl (fun a x=>a.setIfInBounds (p+x.snd) x.fst) xs)[k]?=if p+n≤k∧k<p+n+l.length then l[k - (p+n)]? else xs[k]?
 | [],n,p,xs,_=>⟨rfl,fun k=>by rw [xCf (by simp only [List.length_nil];omega)];rfl⟩
 | v::l,n,p,xs,h=>by
  rw [xAo] at h
  rw [List.zipIdx_cons,List.foldl_cons]
  obtain ⟨e1,e2⟩:=eJ l (n+1) p (xs.setIfInBounds (p+n) v) (by rw [Array.size_setIfInBounds];omega)
  refine ⟨by rw [e1,Array.size_setIfInBounds],fun k=>?_⟩
  rw [e2,Array.getElem?_setIfInBounds,xAo]
  by_cases c1:p+n=k
  ·subst c1
   rw [xCf (by omega),xCg rfl,xCg (by omega),xCg (by omega),Nat.sub_self]
   rfl
  ·by_cases c2:p+(n+1)≤k∧k<p+(n+1)+l.length
   ·rw [xCg c2,xCg (by omega),show k - (p+n)=(k - (p+(n+1)))+1 by omega]
    rfl
   ·rw [xCf c2,xCf c1,xCf (by omega)]
def put (xs:Array Keyed) (p:Nat) (r:Array Keyed):Array Keyed:=r.toList.zipIdx.foldl (fun a x=>a.setIfInBounds (p+x.snd) x.fst) xs
theorem iL {xs r:Array Keyed} {p:Nat} (h:p+r.size≤xs.size):(put xs p r).toList=xs.toList.take p++(r.toList++xs.toList.drop (p+r.size)):=by
 obtain ⟨e1,e2⟩:=eJ r.toList 0 p xs (by rw [xAh];omega)
 apply List.ext_getElem?
 intro k
 have:(put xs p r).toList[k]?=(put xs p r)[k]?:=by simp
 rw [this]
 show ((r.toList.zipIdx 0).foldl (fun a x=>a.setIfInBounds (p+x.snd) x.fst) xs)[k]?=_
 rw [e2,Nat.add_zero,xAh]
 have lt:(xs.toList.take p).length=p:=by rw [xAn,xAh];omega
 by_cases c1:k<p
 ·rw [xCf (by omega),List.getElem?_append_left (by omega),List.getElem?_take,xCg c1]
  simp
 ·rw [List.getElem?_append_right (by omega),lt]
  by_cases c2:k<p+r.size
  ·rw [xCg (by omega),List.getElem?_append_left (by rw [xAh];omega)]
  ·rw [xCf (by omega),List.getElem?_append_right (by rw [xAh];omega),List.getElem?_drop,xAh,show p+r.size+(k - p - r.size)=k by omega]
   simp
theorem oC {xs r:Array Keyed} {p:Nat} (h:p+r.size≤xs.size) (k:Nat):K (put xs p r) k=if p≤k∧k<p+r.size then K r (k - p) else K xs k:=by
 obtain ⟨e1,e2⟩:=eJ r.toList 0 p xs (by rw [xAh];omega)
 have e:=e2 k
 rw [Nat.add_zero,xAh] at e
 by_cases c:p≤k∧k<p+r.size
 ·rw [xCg c] at e ⊢
  refine K_congr (e.trans ?_)
  simp
 ·rw [xCf c] at e ⊢
  exact K_congr e
theorem iK {xs r:Array Keyed} {p m q:Nat} (h1:p≤m) (h2:m≤q) (h:q≤xs.size) (hr:RS (xs.extract p m) (xs.extract m q) r):r.size=q - p∧(put xs p r).Perm xs:=by
 have hs:r.size=q - p:=by
  have:=hr.1.length_eq
  rw [xAb,xAh,xAh,xAh,Array.size_extract,Array.size_extract] at this
  omega
 refine ⟨hs,Array.perm_iff_toList_perm.mpr ?_⟩
 rw [iL (by omega)]
 have e:xs.toList=xs.toList.take p++(((xs.extract p m).toList++(xs.extract m q).toList)++xs.toList.drop (p+r.size)):=by
  rw [Array.toList_extract,Array.toList_extract,xB6,xB6]
  have a1:xs.toList.drop m=(xs.toList.drop m).take (q - m)++xs.toList.drop q:=by
   rw [show xs.toList.drop q=(xs.toList.drop m).drop (q - m) by rw [List.drop_drop];congr 1;omega,xBx]
  have a2:xs.toList.drop p=(xs.toList.drop p).take (m - p)++xs.toList.drop m:=by
   rw [show xs.toList.drop m=(xs.toList.drop p).drop (m - p) by rw [List.drop_drop];congr 1;omega,xBx]
  rw [show p+r.size=q by omega,xAx,← a1,← a2,xBx]
 have hp:=List.Perm.append_left (xs.toList.take p) (List.Perm.append_right (xs.toList.drop (p+r.size)) hr.1)
 exact hp.trans (List.Perm.of_eq e.symm)
theorem ej {xs:Array Keyed} {p q i:Nat} (hq:q≤xs.size) (hi:i<q - p):K (xs.extract p q) i=K xs (p+i):=by
 refine K_congr ?_
 rw [Array.getElem?_extract,xCg (by omega)]
theorem gN {xs:Array Keyed} {p q:Nat} (h:IntKeys xs):IntKeys (xs.extract p q):=fun v hv=>by
 rw [Array.toList_extract,xB6] at hv
 exact h v (List.mem_of_mem_drop (xBj hv))
theorem di {xs:Array Keyed} {p q:Nat} {v:Keyed} (hv:v∈(xs.extract p q).toList):∃ n,p≤n∧n<q∧n<xs.size∧numOf v.1=K xs n:=by
 rw [Array.toList_extract,xB6] at hv
 obtain ⟨n,h1,h2,h3⟩:=bz hv
 exact ⟨p+n,by omega,by omega,h2,h3⟩
theorem jt {xs:Array Keyed} {p q:Nat} (hq:q≤xs.size) (h:Inc xs p q):(xs.extract p q).toList.Pairwise le':=by
 refine pM fun i j _ hij hj=>?_
 rw [Array.size_extract] at hj
 rw [ej hq (by omega),ej hq (by omega)]
 exact h _ _ (by omega) (by omega) (by omega)
section
variable {prog:Program} {w:World} {A:Around} {E:Value→Shared→Prop} {s:Shared} {st:SortSt} {a₀:Array Keyed}
theorem jH {σ:Type} {M:Model} {s' st':σ} {Q:PUnit→σ→Prop} (h:Q ⟨⟩ s'):wpS M A E s (set s':StateT σ Sem PUnit) Q st':=by
 unfold wpS
 rw [StateT.run_set]
 exact xAe ⟨rfl,h⟩
theorem gb {i sa na nb pa pb:Nat} {Q:Bool→SortSt→Prop} (h0:IntKeys a₀) (hB:SB a₀ st) (e1:(pendingOf st)[i]?=some (sa,na,pa)) (e2:(pendingOf st)[i+1]?=some (sa+na,nb,pb)) (hna:0<na) (hnb:0<nb) (hz:sa+na+nb≤a₀.size)
  (ha:Inc (arrOf st) sa (sa+na)) (hb:Inc (arrOf st) (sa+na) (sa+na+nb))
  (h:∀ st',SB a₀ st'→pendingOf st'=((pendingOf st).setIfInBounds i (sa,na+nb,pa)).eraseIdxIfInBounds (i+1)→Off (arrOf st') (arrOf st) sa (sa+na+nb)→Inc (arrOf st') sa (sa+na+nb)→Q true st') :
  wpS (model prog w) A E s (mergeAt' i) Q st:=by
 rw [fD]
 dsimp only
 refine xCd (wpS_get ?_)
 rw [e1,e2]
 dsimp only
 refine xCd (jH ?_)
 have hI:=IntKeys.perm h0 hB.perm
 have hsz:=hB.size
 have hS:Sg (setPending st (((pendingOf st).setIfInBounds i (sa,na+nb,pa)).eraseIdxIfInBounds (i+1))) (setPending st (((pendingOf st).setIfInBounds i (sa,na+nb,pa)).eraseIdxIfInBounds (i+1))):=⟨hB.kind,rfl,rfl,rfl⟩
 have hB1:SB a₀ (setPending st (((pendingOf st).setIfInBounds i (sa,na+nb,pa)).eraseIdxIfInBounds (i+1))):=⟨hB.perm,hB.kind,hB.failed⟩
 have hsb:sa+na<(arrOf st).size:=by omega
 obtain ⟨t1,k1⟩:=bh hI hsb
 refine xCd (ax hsb (xCd (bt (left:=false) (arr:=arrOf st) (base:=sa) (n:=na) (hint:=0) hS.k hI k1 (by omega) ha hna fun k hk1 hk2 hk3=>?_)))
 dsimp only
 have lo1:∀ n,sa≤n→n<sa+k→K (arrOf st) n≤K (arrOf st) (sa+na):=fun n g1 g2=>by
  have:=hk2 (n - sa) (by omega)
  rw [show sa+(n - sa)=n by omega] at this
  unfold Bt at this
  simp only [xAz,if_false,Bool.not_eq_true',decide_eq_false_iff_not] at this
  omega
 have lo2:∀ n,sa+k≤n→n<sa+na→K (arrOf st) (sa+na)≤K (arrOf st) n:=fun n g1 g2=>by
  have:=hk3 (n - sa) (by omega) (by omega)
  rw [show sa+(n - sa)=n by omega] at this
  unfold Bt at this
  simp only [xAz,if_false,Bool.not_eq_false',decide_eq_true_eq] at this
  omega
 by_cases q1:na - k=0
 ·rw [xCg (by simpa using q1)]
  refine xCe (h _ hB1 rfl .refl fun u v hu huv hv=>?_)
  change K (arrOf st) u≤K (arrOf st) v
  by_cases c1:v<sa+na
  ·exact ha u v hu huv c1
  ·by_cases c2:sa+na≤u
   ·exact hb u v c2 huv hv
   ·have z1:=lo1 u hu (by omega)
    have z2:=hb (sa+na) v (xAg _) (by omega) hv
    omega
 ·rw [xCf (by simpa using q1)]
  have hl:sa+k+(na - k) - 1<(arrOf st).size:=by omega
  obtain ⟨t2,k2⟩:=bh hI hl
  refine xCd (ax hl (xCd (bt (left:=true) (arr:=arrOf st) (base:=sa+na) (n:=nb) (hint:=nb - 1) hS.k hI k2 (by omega) hb (by omega) fun m hm1 hm2 hm3=>?_)))
  dsimp only
  have el:sa+k+(na - k) - 1=sa+na - 1:=by omega
  rw [el] at hm2 hm3
  have up1:∀ n,sa+na≤n→n<sa+na+m→K (arrOf st) n≤K (arrOf st) (sa+na - 1):=fun n g1 g2=>by
   have:=hm2 (n - (sa+na)) (by omega)
   rw [show sa+na+(n - (sa+na))=n by omega] at this
   unfold Bt at this
   simp only [if_true,decide_eq_true_eq] at this
   omega
  have up2:∀ n,sa+na+m≤n→n<sa+na+nb→K (arrOf st) (sa+na - 1)≤K (arrOf st) n:=fun n g1 g2=>by
   have:=hm3 (n - (sa+na)) (by omega) (by omega)
   rw [show sa+na+(n - (sa+na))=n by omega] at this
   unfold Bt at this
   simp only [if_true,decide_eq_false_iff_not] at this
   omega
  by_cases q2:m=0
  ·rw [xCg (by simpa using q2)]
   refine xCe (h _ hB1 rfl .refl fun u v hu huv hv=>?_)
   change K (arrOf st) u≤K (arrOf st) v
   by_cases c1:v<sa+na
   ·exact ha u v hu huv c1
   ·by_cases c2:sa+na≤u
    ·exact hb u v c2 huv hv
    ·have z1:=ha u (sa+na - 1) hu (by omega) (by omega)
     have z2:=up2 v (by omega) hv
     omega
  ·rw [xCf (by simpa using q2)]
   have inA:Inc (arrOf st) (sa+k) (sa+na):=fun u v hu huv hv=>ha u v (by omega) huv hv
   have inB:Inc (arrOf st) (sa+na) (sa+na+m):=fun u v hu huv hv=>hb u v hu huv (by omega)
   have zA:((arrOf st).extract (sa+k) (sa+na)).size=na - k:=by rw [Array.size_extract];omega
   have zB:((arrOf st).extract (sa+na) (sa+na+m)).size=m:=by rw [Array.size_extract];omega
   have c:Db ((arrOf st).extract (sa+k) (sa+na)) ((arrOf st).extract (sa+na) (sa+na+m)):=by
    refine ⟨⟨gN hI,gN hI,jt (by omega) inA,jt (by omega) inB,fun y hy=>?_⟩,fun x hx=>?_⟩
    ·obtain ⟨n,g1,g2,g3,g4⟩:=di hy
     rw [zA,ej (by omega) (by omega),g4,show sa+k+(na - k - 1)=sa+na - 1 by omega]
     exact up1 n g1 g2
    ·obtain ⟨n,g1,g2,g3,g4⟩:=di hx
     rw [ej (by omega) (by omega),g4,Nat.add_zero]
     exact lo2 n g1 g2
   have done:∀ (r:Array Keyed) (st2:SortSt),Sg (setPending st (((pendingOf st).setIfInBounds i (sa,na+nb,pa)).eraseIdxIfInBounds (i+1))) st2→RS ((arrOf st).extract (sa+k) (sa+na)) ((arrOf st).extract (sa+na) (sa+na+m)) r →
     wpS (model prog w) A E s (do
      modify fun s=>setArr s (List.foldl (fun a x=>a.setIfInBounds (sa+k+x.snd) x.fst) (arrOf s) r.toList.zipIdx)
      let z ← get
      pure (failedOf z).isNone) Q st2:=by
    intro r st2 hS2 hr
    refine xCd (wpS_modify (xCd (wpS_get ?_)))
    have ea:arrOf st2=arrOf st:=hS2.a
    obtain ⟨hrs,hpm⟩:=iK (p:=sa+k) (m:=sa+na) (q:=sa+na+m) (by omega) (by omega) (by omega) hr
    have rK:∀ n,n<r.size→(∃ u,sa+k≤u∧u<sa+na+m∧K r n=K (arrOf st) u):=fun n hn=>by
     have:r[n]∈r.toList:=by simp
     have this:=hr.1.mem_iff.mp this
     rw [K_eq hn]
     rcases xAj.mp this with z | z
     ·obtain ⟨u,g1,g2,g3,g4⟩:=di z
      exact ⟨u,g1,by omega,g4⟩
     ·obtain ⟨u,g1,g2,g3,g4⟩:=di z
      exact ⟨u,by omega,g2,g4⟩
    have rI:=cB hr.2
    have hfail:failedOf st2=none:=hS2.f.trans hB.failed
    change wpS (model prog w) A E s (pure (failedOf st2).isNone) Q (setArr st2 (put (arrOf st2) (sa+k) r))
    rw [hfail]
    have pK:=oC (xs:=arrOf st) (r:=r) (p:=sa+k) (by omega)
    refine xCe (h _ ⟨?_,hS2.k,hfail⟩ hS2.p (fun u hu=>?_) fun u v hu huv hv=>?_)
    ·change (put (arrOf st2) (sa+k) r).Perm a₀
     rw [ea]
     exact hpm.trans hB.perm
    ·change K (put (arrOf st2) (sa+k) r) u=_
     rw [ea,pK,xCf (by omega)]
    ·change K (put (arrOf st2) (sa+k) r) u≤K (put (arrOf st2) (sa+k) r) v
     rw [ea,pK,pK]
     by_cases cu:sa+k≤u∧u<sa+k+r.size
     ·rw [xCg cu]
      by_cases cv:sa+k≤v∧v<sa+k+r.size
      ·rw [xCg cv]
       exact rI _ _ (xBn _) (by omega) (by omega)
      ·rw [xCf cv]
       obtain ⟨n,g1,g2,g3⟩:=rK (u - (sa+k)) (by omega)
       rw [g3]
       have z2:=up2 v (by omega) hv
       by_cases cn:n<sa+na
       ·have:=ha n (sa+na - 1) (by omega) (by omega) (by omega)
        omega
       ·have:=up1 n (by omega) g2
        omega
     ·rw [xCf cu]
      by_cases cv:sa+k≤v∧v<sa+k+r.size
      ·rw [xCg cv]
       obtain ⟨n,g1,g2,g3⟩:=rK (v - (sa+k)) (by omega)
       rw [g3]
       by_cases cn:n<sa+na
       ·exact ha u n hu (by omega) cn
       ·have z1:=lo1 u hu (by omega)
        have:=hb (sa+na) n (xAg _) (by omega) (by omega)
        omega
      ·rw [xCf cv]
       by_cases c1:v<sa+na
       ·exact ha u v hu huv c1
       ·by_cases c2:sa+na≤u
        ·exact hb u v c2 huv hv
        ·have z1:=ha u (sa+na - 1) hu (by omega) (by omega)
         have z2:=up2 v (by omega) hv
         omega
   have fbK:K ((arrOf st).extract (sa+na) (sa+na+m)) 0≤K ((arrOf st).extract (sa+k) (sa+na)) 0:=by
    rw [ej (by omega) (by omega),ej (by omega) (by omega),Nat.add_zero,Nat.add_zero]
    exact lo2 (sa+k) (xAg _) (by omega)
   by_cases q3:na - k≤m
   ·rw [xCg q3]
    exact xCd (f9 c.toCb hS (by omega) (by omega) fbK fun r st2 hS2 hr=>done r st2 hS2 hr)
   ·rw [xCf q3]
    exact xCd (ga c hS (by omega) (by omega) fun r st2 hS2 hr=>done r st2 hS2 hr)
end
end Tim
namespace Tim
open PySem PyProof.Rows
def Rn (xs:Array Keyed):List (Nat×Nat×Nat)→Nat→Nat→Prop
 | [],lo,hi=>lo=hi
 | (s,n,_)::r,lo,hi=>s=lo∧0<n∧Inc xs lo (lo+n)∧Rn xs r (lo+n) hi
theorem Rn.len {xs:Array Keyed}:∀ {l:List (Nat×Nat×Nat)} {lo hi:Nat},Rn xs l lo hi→lo+l.length≤hi
 | [],_,_,h=>Nat.le_of_eq h
 | (_,n,_)::r,lo,hi,⟨_,h2,_,h4⟩=>by
  have:=Rn.len h4
  rw [xAo]
  omega
theorem Rn.like {xs ys:Array Keyed}:∀ {l:List (Nat×Nat×Nat)} {lo hi:Nat},Rn xs l lo hi→(∀ i,lo≤i→i<hi→K ys i=K xs i)→Rn ys l lo hi
 | [],_,_,h,_=>h
 | (_,n,_)::r,lo,hi,⟨h1,h2,h3,h4⟩,e=>by
  have:=Rn.len h4
  refine ⟨h1,h2,fun i j hi' hij hj=>?_,Rn.like h4 fun i g1 g2=>e i (by omega) g2⟩
  rw [e i hi' (by omega),e j (by omega) (by omega)]
  exact h3 i j hi' hij hj
theorem Rn.app {xs:Array Keyed} {r:List (Nat×Nat×Nat)}:∀ {l:List (Nat×Nat×Nat)} {lo hi:Nat},Rn xs (l++r) lo hi↔∃ m,Rn xs l lo m∧Rn xs r m hi
 | [],lo,hi=>⟨fun h=>⟨lo,rfl,h⟩,fun ⟨m,h1,h2⟩=>by rw [show lo=m from h1];exact h2⟩
 | (s,n,p)::l,lo,hi=>by
  constructor
  ·rintro ⟨h1,h2,h3,h4⟩
   obtain ⟨m,g1,g2⟩:=Rn.app.mp h4
   exact ⟨m,⟨h1,h2,h3,g1⟩,g2⟩
  ·rintro ⟨m,⟨h1,h2,h3,h4⟩,h5⟩
   exact ⟨h1,h2,h3,Rn.app.mpr ⟨m,h4,h5⟩⟩
theorem lF {α:Type} {l:List α} {i:Nat} (h:i+1<l.length):∃ x y,l[i]?=some x∧l[i+1]?=some y∧l=l.take i++x::y::l.drop (i+2):=by
 refine ⟨l[i],l[i+1],xAk (by omega),xAk h,?_⟩
 rw [← xB2,← xB2,xBx]
theorem jI {α:Type} {l:List α} {i:Nat} {x y v:α} (h:i+1<l.length) (e:l=l.take i++x::y::l.drop (i+2)):(l.set i v).eraseIdx (i+1)=l.take i++v::l.drop (i+2):=by
 have hl:(l.take i).length=i:=by rw [xAn];omega
 have e2:l.set i v=l.take i++v::y::l.drop (i+2):=by
  conv=>lhs;rw [e]
  rw [List.set_append,xCf (by rw [hl];omega),hl,Nat.sub_self]
  rfl
 rw [e2,List.eraseIdx_append_of_length_le (by omega),hl,show i+1 - i=1 by omega]
 rfl
section
variable {prog:Program} {w:World} {A:Around} {E:Value→Shared→Prop} {s:Shared} {st:SortSt} {a₀:Array Keyed} {hi:Nat}
theorem dI {i:Nat} {Q:Bool→SortSt→Prop} (h0:IntKeys a₀) (hB:SB a₀ st) (hr:Rn (arrOf st) (pendingOf st).toList 0 hi) (hz:hi≤a₀.size) (hi':i+1<(pendingOf st).size)
  (h:∀ st',SB a₀ st'→Rn (arrOf st') (pendingOf st').toList 0 hi→(pendingOf st').size+1=(pendingOf st).size→Off (arrOf st') (arrOf st) 0 hi→Q true st'):wpS (model prog w) A E s (mergeAt' i) Q st:=by
 have hl:i+1<(pendingOf st).toList.length:=by rw [xAh];exact hi'
 obtain ⟨⟨sa,na,pa⟩,⟨sb,nb,pb⟩,e1,e2,e⟩:=lF hl
 have hr2:=hr
 rw [e] at hr2
 obtain ⟨m,r1,g1,g2,g3,g4,g5,g6,g7⟩:=Rn.app.mp hr2
 subst g1
 subst g4
 have l1:=Rn.len r1
 have l7:=Rn.len g7
 refine gb (i:=i) (sa:=sa) (na:=na) (nb:=nb) (pa:=pa) (pb:=pb) h0 hB (by rw [← e1];simp) (by rw [← e2];simp) g2 g5 (by omega) g3 g6 fun st' hB' hp ho hI=>?_
 have e3:(pendingOf st').toList=(pendingOf st).toList.take i++(sa,na+nb,pa)::(pendingOf st).toList.drop (i+2):=by
  rw [hp,← jI hl e]
  simp
 refine h st' hB' ?_ ?_ (ho.wide (xBn _) (by omega))
 ·rw [e3]
  refine Rn.app.mpr ⟨sa,r1.like fun k _ g=>ho k (by omega),rfl,by omega,?_,?_⟩
  ·rw [show sa+(na+nb)=sa+na+nb by omega]
   exact hI
  ·rw [show sa+(na+nb)=sa+na+nb by omega]
   exact g7.like fun k g _=>ho k (by omega)
 ·have:=congrArg List.length e3
  rw [xAh,xAb,xAo,xAn,List.length_drop,xAh] at this
  omega
theorem c7 {size pw:Nat} {Q:Option Unit×Unit→SortSt→Prop} (h0:IntKeys a₀) (hB:SB a₀ st) (hr:Rn (arrOf st) (pendingOf st).toList 0 hi) (hz:hi≤a₀.size) (hp:0<(pendingOf st).size)
  (h:∀ st',SB a₀ st'→Rn (arrOf st') (pendingOf st').toList 0 hi→0<(pendingOf st').size→Off (arrOf st') (arrOf st) 0 hi→Q (none,()) st') :
  wpS (model prog w) A E s (forIn [0:size] ((none,()):Option Unit×Unit) fun _ _=>do
   let z ← get
   match (if (pendingOf z).size > 1 then (pendingOf z)[(pendingOf z).size - 2]? else none) with
   | some (_,_,older) =>
    if older≤pw then pure (ForInStep.done (none,()))
    else do
     let q ← mergeAt' ((pendingOf z).size - 2)
     if (!q)=true then pure (ForInStep.done (some (),())) else pure (ForInStep.yield (none,()))
   | _=>pure (ForInStep.done (none,()))) Q st:=by
 refine wpS_forRange (I:=fun _ c st'=>c=(none,())∧SB a₀ st'∧Rn (arrOf st') (pendingOf st').toList 0 hi∧0<(pendingOf st').size∧Off (arrOf st') (arrOf st) 0 hi) ?step ?fin ⟨rfl,hB,hr,hp,.refl⟩
 case fin =>
  rintro c st' ⟨rfl,b1,b2,b3,b4⟩
  exact h st' b1 b2 b3 b4
 case step =>
  rintro x c st' _ _ ⟨rfl,b1,b2,b3,b4⟩
  refine xCd (wpS_get ?_)
  by_cases q:(pendingOf st').size > 1
  ·rw [xCg q,getElem?_pos _ _ (by omega)]
   dsimp only
   split
   ·exact xCe (h st' b1 b2 b3 b4)
   ·refine xCd (dI h0 b1 b2 hz (by omega) fun st2 c1 c2 c3 c4=>?_)
    exact xCe ⟨rfl,c1,c2,by omega,c4.trans b4⟩
  ·rw [xCf q]
   exact xCe (h st' b1 b2 b3 b4)
end
end Tim
namespace Tim
open PySem PyProof.Rows
theorem fQ {p:Array (Nat×Nat×Nat)} {y:Nat×Nat×Nat} (h:p.back?=some y):0<p.size:=by
 rcases Nat.eq_zero_or_pos p.size with z | z
 ·rw [Array.eq_empty_of_size_eq_zero z] at h
  simp at h
 ·exact z
theorem grown {st:SortSt} {lo n q:Nat} (h:Rn (arrOf st) (pendingOf st).toList 0 lo) (hn:0<n) (hI:Inc (arrOf st) lo (lo+n)):Rn (arrOf (setPending st ((pendingOf st).push (lo,n,q)))) (pendingOf (setPending st ((pendingOf st).push (lo,n,q)))).toList 0 (lo+n):=by
 change Rn (arrOf st) ((pendingOf st).push (lo,n,q)).toList 0 (lo+n)
 rw [Array.toList_push]
 exact Rn.app.mpr ⟨lo,h,rfl,hn,hI,rfl⟩
theorem Rn.repow {xs:Array Keyed} {f:Nat×Nat×Nat→Nat×Nat×Nat} (hf:∀ x,(f x).1=x.1∧(f x).2.1=x.2.1):∀ {l:List (Nat×Nat×Nat)} {i lo hi:Nat},Rn xs l lo hi→Rn xs (l.modify i f) lo hi
 | [],i,_,_,h=>by rw [List.modify_nil];exact h
 | (s,n,p)::r,0,lo,hi,⟨h1,h2,h3,h4⟩=>by
  rw [List.modify_zero_cons]
  obtain ⟨e1,e2⟩:=hf (s,n,p)
  generalize f (s,n,p)=y at e1 e2
  obtain ⟨s',n',p'⟩:=y
  dsimp only at e1 e2
  subst e1 e2
  exact ⟨h1,h2,h3,h4⟩
 | (s,n,p)::r,i+1,lo,hi,⟨h1,h2,h3,h4⟩=>by
  rw [List.modify_succ_cons]
  exact ⟨h1,h2,h3,Rn.repow hf h4⟩
theorem repow {st:SortSt} {lo q i:Nat} (h:Rn (arrOf st) (pendingOf st).toList 0 lo):Rn (arrOf (setPending st ((pendingOf st).modify i fun x=>(x.fst,x.2.fst,q)))) (pendingOf (setPending st ((pendingOf st).modify i fun x=>(x.fst,x.2.fst,q)))).toList 0 lo:=by
 change Rn (arrOf st) ((pendingOf st).modify i fun x=>(x.fst,x.2.fst,q)).toList 0 lo
 rw [Array.toList_modify]
 exact Rn.repow (f:=fun x=>(x.fst,x.2.fst,q)) (fun _=>⟨rfl,rfl⟩) h
theorem pick {c:Prop} [Decidable c] {n m:Nat} (h:n+1<m):(if c then n - 1 else n)+1<m:=by
 split
 ·omega
 ·omega
section
variable {prog:Program} {w:World} {A:Around} {E:Value→Shared→Prop} {s:Shared} {st:SortSt} {a₀:Array Keyed}
theorem e8 {Q:Unit→SortSt→Prop} (h0:IntKeys a₀) (hB:SB a₀ st) (hp:pendingOf st=#[]) (h2:2≤a₀.size) (h:∀ st',(arrOf st').Perm a₀→failedOf st'=none→SortedTo (arrOf st') a₀.size→Q () st'):wpS (model prog w) A E s sortRuns' Q st:=by
 rw [sortRuns'_eq]
 refine xCd (wpS_get ?_)
 dsimp only
 rw [hB.size]
 refine xCd (wpS_mono (wpS_forRange (I:=fun x c st'=>c.1=none∧SB a₀ st'∧Rn (arrOf st') (pendingOf st').toList 0 c.2∧c.2≤a₀.size∧x≤c.2)
  (Q:=fun c st'=>c=(none,a₀.size)∧SB a₀ st'∧Rn (arrOf st') (pendingOf st').toList 0 a₀.size) ?step ?fin ⟨rfl,hB,by rw [hp];rfl,by omega,by omega⟩) ?post)
 case fin =>
  rintro ⟨r,lo⟩ st' ⟨e,b1,b2,b3,b4⟩
  obtain rfl:r=none:=e
  dsimp only at b2 b3 b4
  obtain rfl:lo=a₀.size:=by omega
  exact ⟨rfl,b1,b2⟩
 case step =>
  rintro x ⟨r,lo⟩ st' _ hx ⟨e,b1,b2,b3,b4⟩
  obtain rfl:r=none:=e
  dsimp only at b2 b3 b4 ⊢
  by_cases q1:lo ≥ a₀.size
  ·rw [xCg q1]
   obtain rfl:lo=a₀.size:=by omega
   exact xCe ⟨rfl,b1,b2⟩
  ·rw [xCf q1]
   have hR:R a₀ (pendingOf st') (arrOf st') lo a₀.size st':=⟨b1,rfl,.refl⟩
   refine xCd (fN (nrem:=a₀.size - lo) h0 (by omega) (by omega) (by omega) hR fun m st2 hR2 m1 m2 hI2=>?_)
   have r2:Rn (arrOf st2) (pendingOf st2).toList 0 lo:=by
    rw [hR2.p]
    exact b2.like fun i _ g=>hR2.o i (by omega)
   dsimp only
   by_cases q2:m<minRun' a₀.size a₀.size 0
   ·rw [xCg q2]
    refine xCd (wpS_lift (wpAny_rule ⟨rfl,?_⟩))
    refine xCd (ix (n:=min (a₀.size - lo) (minRun' a₀.size a₀.size 0)) h0 (by omega) (by omega) (by omega) hR2 hI2 fun st3 hR3 hI3=>?_)
    have r3:Rn (arrOf st3) (pendingOf st3).toList 0 lo:=by
     rw [hR3.p]
     exact b2.like fun i _ g=>hR3.o i (by omega)
    rw [xCf (by simp)]
    generalize hn:min (a₀.size - lo) (minRun' a₀.size a₀.size 0)=n at hI3 ⊢
    have hn1:0<n∧lo+n≤a₀.size:=by omega
    refine xCd (wpS_get ?_)
    cases hbk:(pendingOf st3).back? with
    | none =>
     dsimp only
     refine xCd (wpS_modify (xCe ⟨rfl,⟨hR3.b.perm,hR3.b.kind,hR3.b.failed⟩,?_,by omega,by omega⟩))
     exact grown r3 (by omega) hI3
    | some y =>
     obtain ⟨s1,n1,p1⟩:=y
     dsimp only
     refine xCd (c7 h0 hR3.b r3 (by omega) (fQ hbk) fun st5 c1 c2 c3 c4=>?_)
     dsimp only
     refine xCd (wpS_modify (xCd (wpS_modify (xCe ⟨rfl,⟨c1.perm,c1.kind,c1.failed⟩,?_,by omega,by omega⟩))))
     refine grown (st:=setPending st5 ((pendingOf st5).modify ((pendingOf st5).size - 1) fun x=>(x.fst,x.2.fst,_))) (repow c2) (by omega) fun u v hu huv hv=>?_
     change K (arrOf st5) u≤K (arrOf st5) v
     rw [c4 u (by omega),c4 v (by omega)]
     exact hI3 u v hu huv hv
   ·rw [xCf q2]
    refine xCd (wpS_get ?_)
    cases hbk:(pendingOf st2).back? with
    | none =>
     dsimp only
     refine xCd (wpS_modify (xCe ⟨rfl,⟨hR2.b.perm,hR2.b.kind,hR2.b.failed⟩,?_,by omega,by omega⟩))
     exact grown r2 (by omega) hI2
    | some y =>
     obtain ⟨s1,n1,p1⟩:=y
     dsimp only
     refine xCd (c7 h0 hR2.b r2 (by omega) (fQ hbk) fun st5 c1 c2 c3 c4=>?_)
     dsimp only
     refine xCd (wpS_modify (xCd (wpS_modify (xCe ⟨rfl,⟨c1.perm,c1.kind,c1.failed⟩,?_,by omega,by omega⟩))))
     refine grown (st:=setPending st5 ((pendingOf st5).modify ((pendingOf st5).size - 1) fun x=>(x.fst,x.2.fst,_))) (repow c2) (by omega) fun u v hu huv hv=>?_
     change K (arrOf st5) u≤K (arrOf st5) v
     rw [c4 u (by omega),c4 v (by omega)]
     exact hI2 u v hu huv hv
 case post =>
  rintro c st' ⟨rfl,b1,b2⟩
  dsimp only
  have hlen:=Rn.len b2
  rw [xAh,Nat.zero_add] at hlen
  refine xCd (wpS_mono (wpS_forRange (I:=fun x c st2=>c=(none,())∧SB a₀ st2∧Rn (arrOf st2) (pendingOf st2).toList 0 a₀.size∧((pendingOf st2).size≤1∨(pendingOf st2).size+x≤a₀.size))
   (Q:=fun c st2=>c=(none,())∧SB a₀ st2∧Rn (arrOf st2) (pendingOf st2).toList 0 a₀.size∧(pendingOf st2).size≤1) ?step2 ?fin2 ⟨rfl,b1,b2,.inr (by omega)⟩) ?post2)
  case fin2 =>
   rintro c st2 ⟨e,c1,c2,c3⟩
   exact ⟨e,c1,c2,by omega⟩
  case step2 =>
   rintro x c st2 _ hx ⟨rfl,c1,c2,c3⟩
   refine xCd (wpS_get ?_)
   by_cases q:(pendingOf st2).size≤1
   ·rw [xCg q]
    exact xCe ⟨rfl,c1,c2,q⟩
   ·rw [xCf q]
    have key:∀ i,i+1<(pendingOf st2).size→wpS (model prog w) A E s (mergeAt' i) (fun b st3=>b=true∧SB a₀ st3∧Rn (arrOf st3) (pendingOf st3).toList 0 a₀.size∧(pendingOf st3).size+1=(pendingOf st2).size) st2 :=
     fun i hi=>dI h0 c1 c2 (xAg _) hi fun st3 d1 d2 d3 _=>⟨rfl,d1,d2,d3⟩
    refine xCd (wpS_mono (key _ ?_) ?_)
    ·exact pick (by omega)
    ·rintro b st3 ⟨rfl,d1,d2,d3⟩
     rw [xCf (by simp)]
     exact xCe ⟨rfl,d1,d2,by omega⟩
  case post2 =>
   rintro c st2 ⟨rfl,c1,c2,c3⟩
   refine xCe (h st2 c1.perm c1.failed ?_)
   rw [← xAh] at c3
   generalize (pendingOf st2).toList=l at c2 c3
   match l,c2,c3 with
   | [],c2,_=>exact absurd (show 0=a₀.size from c2) (by omega)
   | [(s',n',p')],⟨_,_,g3,g4⟩,_ =>
    have g4':0+n'=a₀.size:=g4
    intro i j hij hj
    exact g3 i j (xBn _) hij (by omega)
end
end Tim
namespace Tim
open PySem PyProof.Rows
section
variable {prog:Program} {w:World} {A:Around} {E:Value→Shared→Prop} {s:Shared}
theorem tree_any {a:Addr} {vs:List Value} {ns:List Int} {n:Nat} {P:Fin→Shared→Prop} (ho:s.heap.get? a=some (seqObj "list" vs.toArray n)) (hI:IntsAre vs ns) (hz:vs.length≤sizeLine)
  (h:∀ (out:Array Value) (ns':List Int),IntsAre out.toList ns'→ns'.Perm ns→ns'.Pairwise (·≤·)→P (.done (.ret .none)) { s with heap:=sortedHeap s.heap a vs out }):wpAny (model prog w) A (Builtin.«list.sort» ⟨[.ref a],[]⟩) P E s:=by
 rw [list_sort_plain]
 have hlt:a<s.heap.objs.size:=xA1 ho
 have hz1:vs.toArray.size≤sizeLine:=by rw [xAp];exact hz
 refine xAd (listItems_at ho rfl (xAd (listUpdate_at ho rfl ?_ hz1 (xBn _))))
 obtain ⟨e1,g1⟩:∃ e1,(s.heap.update a (Obj.mapSeq fun _=>#[])).get? a=some (seqObj "list" #[] e1):=⟨_,get?_update_seq ho (fun _=>#[])⟩
 refine xAd (seqEpoch_at g1 rfl (xAd (wpAny_newTuple (xAd (wpAny_newList (wpAny_holding ?_))))))
 have g6:(((s.heap.update a (Obj.mapSeq fun _=>#[])).push (seqObj "tuple" vs.toArray 0)).push (seqObj "list" #[] 0)).get? a=some (seqObj "list" #[] e1):=by
  rw [Heap.get?_push_ne _ _ _ (by rw [size_push',Heap.size_update];exact xA0 (Nat.lt_succ_of_lt hlt)),Heap.get?_push_ne _ _ _ (by rw [Heap.size_update];exact xA0 hlt)]
  exact g1
 change wpAny (model prog w) A _ P E { s with heap:=((s.heap.update a (Obj.mapSeq fun _=>#[])).push (seqObj "tuple" vs.toArray 0)).push (seqObj "list" #[] 0) }
 dsimp only
 have last:∀ st':SortSt,(arrOf st').Perm (pairsOf vs)→SortedTo (arrOf st') (pairsOf vs).size→P (.done (.ret .none)) { s with heap:=sortedHeap s.heap a vs ((arrOf st').map (·.2)) }:=fun st' q1 q2=>by
  obtain ⟨ns',z1,z2,z3⟩:=sorted_out hI q1 q2
  exact h _ ns' z1 z2 z3
 by_cases few:vs.toArray.size<2
 ·rw [xCg few,xCg few]
  refine xAd (xAe ?_)
  rw [StateT.run_pure]
  refine xAd (xAe ?_)
  dsimp only
  refine xAd (seqEpoch_at g6 rfl (xAd (listUpdate_at g6 rfl ?_ (xBn _) ?_)))
  ·simp only [bne_self_eq_false,xAz,if_false]
   refine xAe (last (SortSt.mk' general' (vs.toArray.zip vs.toArray) #[] 7 none) (Array.Perm.refl _) fun i j hij hj=>?_)
   rw [pairsOf_size,← xAp] at hj
   obtain rfl:i=j:=by omega
   exact xBu _
  ·rw [Array.size_map]
   change (pairsOf vs).size≤_
   rw [pairsOf_size]
   omega
 ·rw [xCf few,xCf few]
  obtain ⟨v1,v2,rest,rfl⟩:∃ v1 v2 rest,vs=v1::v2::rest:=by
   match vs,few with
   | [],few=>simp at few
   | [_],few=>simp at few
   | v1::v2::rest,_=>exact ⟨v1,v2,rest,rfl⟩
  rw [keyKind_ints hI]
  refine xAd (xAe ?_)
  refine xAd (wpAny_mono (e8 (a₀:=pairsOf (v1::v2::rest)) (st:=SortSt.mk' oneType' ((v1::v2::rest).toArray.zip (v1::v2::rest).toArray) #[] 7 none)
   (Q:=fun _ st'=>(arrOf st').Perm (pairsOf (v1::v2::rest))∧failedOf st'=none∧SortedTo (arrOf st') (pairsOf (v1::v2::rest)).size) hI.intKeys ⟨Array.Perm.refl _,rfl,rfl⟩ rfl (by rw [pairsOf_size];simp) fun st' q1 q2 q3=>⟨q1,q2,q3⟩) ?_ fun _ _ e=>e)
  rintro ⟨⟨⟩,st'⟩ s' ⟨rfl,hp,hf,hs⟩
  dsimp only
  refine xAd (seqEpoch_at g6 rfl (xAd (listUpdate_at g6 rfl ?_ (xBn _) ?_)))
  ·rw [hf]
   simp only [bne_self_eq_false,xAz,if_false]
   exact xAe (last st' hp hs)
  ·refine Nat.le_trans (Nat.le_of_eq ((Array.size_map ..).trans (hp.size_eq.trans (pairsOf_size _)))) ?_
   omega
end
end Tim
namespace L2
open PySem PySem.Spec PyProof.Rows
end L2
namespace L2
open PySem PySem.Spec PyProof.Rows
section
variable {X:Cx}
theorem gh {kvs:List (Key×V)} {vs:List (Key×Value)} {ns:List Int} {P:Program} {w:World} {acc:Array Value} (rel:KV kvs vs) (hk:kvs.map (·.1)=ns.map Sum.inl)
  (hi:acc.size=vs.length) (hv:∀ (i:Nat) (v:Value),acc[i]?=some v→∃ k x,vs[i]?=some (k,x)∧(mixKind P w).is k v=true):Vals (ns.map V.int) acc.toList:=by
 have hkeys:vs.map (·.1)=ns.map Sum.inl:=by rw [← rel.keys];exact hk
 have hlen:ns.length=vs.length:=by
  have:=congrArg List.length hkeys
  rw [xAa,xAa] at this
  exact this.symm
 have gen:∀ (l:List Value) (ms:List Int),l.length=ms.length→(∀ (i:Nat) (v:Value),l[i]?=some v→∃ m t,ms[i]?=some m∧v=Value.int m t)→Vals (ms.map V.int) l:=by
  intro l
  induction l with
  | nil =>
   intro ms h _
   cases ms with
   | nil=>exact .nil
   | cons _ _=>simp at h
  | cons v l ih =>
   intro ms h q
   cases ms with
   | nil=>simp at h
   | cons m ms =>
    obtain ⟨m',t,e1,e2⟩:=q 0 v rfl
    cases e1
    exact .cons ⟨t,e2⟩ (ih ms (by simpa using h) fun i u e=>q (i+1) u e)
 refine gen acc.toList ns (by rw [xAh];omega) fun i v e=>?_
 obtain ⟨k,x,e1,e2⟩:=hv i v (by rw [← Array.getElem?_toList];exact e)
 have e3:(vs.map (·.1))[i]?=some k:=by rw [xAw,e1];rfl
 rw [hkeys,xAw] at e3
 cases en:ns[i]? with
 | none=>rw [en] at e3;cases e3
 | some m =>
  rw [en] at e3
  cases e3
  rcases aA (show keyIs (Sum.inl m) v=true from e2) with ⟨i',t,z1,z2⟩ | ⟨x',t,z1,z2⟩
  ·cases z1
   exact ⟨m,t,rfl,z2⟩
  ·cases z1
theorem eW (hc:X.calm=true):CallR X (.builtin "sorted") (fun xs H Q=>∃ (d:Addr) (kvs:List (Key×V)) (ns:List Int),xs=[.ref d]∧Rd H d (.dK kvs)∧kvs.map (·.1)=ns.map Sum.inl ∧
  ∀ (l:Addr) (ns':List Int),H l=none→ns'.Perm ns→ns'.Pairwise (·≤·)→Q (.ref l) (upd H l (.lst (ns'.map V.int)))):=by
 intro pins s σ H xs us Q I r h
 obtain ⟨d,kvs,ns,rfl,hd,hk,q⟩:=h
 obtain ⟨u,rfl,ru⟩:=vals1 r
 obtain rfl:u=Value.ref d:=ru
 obtain ⟨hz,lo,vs,rel,dd⟩:=em I.hok hd
 obtain ⟨ep,hat⟩:=dd.dictAt
 have hlv:=rel.length
 refine Calls.call_function_entry kind_sorted plain_sorted entry_sorted (args_sorted1 _) ?_
 unfold Builtin.«sorted»
 refine xAd (m:=checkCount "sorted" 1 1 _) (xAe ?_)
 refine xAd (PySem.W.kdu_collect (A:=X.A.in1) (PySem.W.kdl_dict (knd:=mixKind X.prog X.w) (kvs:=vs) (ep:=ep) lo) (I.ok.hd hc) hat (by omega) fun h' tk acc hkeep hacc=>?_)
 have va:=gh rel hk hacc.1 (fun i v e=>hacc.2 i v e)
 have hla:=va.length
 rw [xAa] at hla
 have hln:ns.length=kvs.length:=by
  have:=congrArg List.length hk
  rw [xAa,xAa] at this
  exact this.symm
 have hzl:acc.toList.length≤sizeLine:=by omega
 refine xAd (wpAny_newList ?_ hzl)
 have gL:(h'.push (seqObj "list" acc.toList.toArray 0)).get? h'.objs.size=some (seqObj "list" acc.toList.toArray 0):=xAl _ rfl
 refine xAd (wpAny_holding (wpAny_call_entry slot_list_sort ⟨_,gL,rfl⟩ entry_list_sort (Tim.tree_any gL (gi va) hzl fun out ns' q1 q2 q3=>⟨_,rfl,?_⟩) (args_list_sort _)))
 refine xAe ⟨_,rfl,?_⟩
 have keepAll:∀ b o,s.heap.get? b=some o→(sortedHeap (h'.push (seqObj "list" acc.toList.toArray 0)) h'.objs.size acc.toList out).get? b=some o:=fun b o e=>by
  have hb:=xA1 (hkeep b o e)
  rw [sortedHeap_old (xA0 hb) (by rw [size_push'];exact Nat.lt_succ_of_lt hb)]
  exact xAf _ (hkeep b o e)
 obtain ⟨e,g⟩:=sortedHeap_at (vs:=acc.toList) (out:=out) gL
 have hfr:s.heap.get? h'.objs.size=none:=by
  cases z:s.heap.get? h'.objs.size with
  | none=>rfl
  | some o=>exact absurd (xA1 (hkeep _ _ z)) (xBo _)
 have new:ObjOk X.prog X.w (upd H h'.objs.size (.lst (ns'.map V.int))) (sortedHeap (h'.push (seqObj "list" acc.toList.toArray 0)) h'.objs.size acc.toList out) h'.objs.size (.lst (ns'.map V.int)):=by
  refine ⟨?_,out.toList,e,cK q1,?_⟩
  ·rw [xAa,q2.length_eq]
   omega
  ·rw [g,Array.toArray_toList]
 obtain ⟨hfree,I2⟩:=Inv.laidN (t':=tk) I keepAll hfr new
 exact ⟨.ref h'.objs.size,_,I2,rfl,q _ ns' hfree q2 q3⟩
end
end L2
namespace L2
open PySem PySem.Spec PyProof.Rows
structure CapsG (X:Cx) (scope:Scope) (cl:List (Str×Addr)) (ls N:List Str) (fr:List Nat):Prop where
 clos:closureFor scope X.env=pure cl
 cell:∀ y∈scope.names,y.2≠.cell
 kind:scope.kind = .function
 names:∀ y∈scope.names,y.2 = .local→scope.names.lookup y.1=some .local
 sub:∀ y c,cl.lookup y=some c→X.env.cells.lookup y=some c
 has:∀ y∈scope.names,y.2 = .free→∃ c,cl.lookup y.1=some c
 caps:∀ (j:Nat) (y:Str),N[j]?=some y→∃ k c,fr[j]?=some k∧X.N[k]?=some y∧Vis X.env.scope y∧X.env.kindOf y≠some .local∧cl.lookup y=some c∧(scope.names.lookup y=some .free)
 len:N.length=fr.length
theorem gq {prog:Program} {w:World} {A:Around} {R:Result→Shared→Prop} {s:Shared} {elt target iter:Expr} {ifs:List Expr} {scope:Scope} {pos:Pos} {it acc:Value} {env:Env} (J:Nat→Shared→Prop)
  (go:∀ n s,J n s→wpAny (model prog w) A (pyNext it) (fun r s1=>match r with
   | none=>R (.ok .next) s1
   | some v=>wpAny (model prog w) A (letOwnedTupleGo target it v) (fun _ s2=>wpAny (model prog w) A (assign target env v) (fun _ s3 =>
     wpAny (model prog w) A (forIn ifs true fun c r=>if r=true then do let ok ← isTrue c env (eval c env);pure (ForInStep.yield ok) else pure (ForInStep.yield r)) (fun ok s4 =>
      if ok=true then wpAny (model prog w) A (eval elt env) (fun x s5=>wpAny (model prog w) A (call (.builtin "list.append") [acc,x]) (fun _ s6=>∃ m,m<n∧J m s6) (notedBy (model prog w) A env fun e s'=>R (.error e) s') s5) (notedBy (model prog w) A env fun e s'=>R (.error e) s') s4
      else ∃ m,m<n∧J m s4) (notedBy (model prog w) A env fun e s'=>R (.error e) s') s3) (notedBy (model prog w) A env fun e s'=>R (.error e) s') s2) (notedBy (model prog w) A env fun e s'=>R (.error e) s') s1) (notedBy (model prog w) A env fun e s'=>R (.error e) s') s)
  (n:Nat) (h:J n s):codeAny (model prog w) A (.compLoop (.ListComp elt [⟨target,iter,ifs,0⟩] scope pos) 0 it acc env) R s:=by
 refine codeAny_loop rfl J (fun n s hJ=>?_) n h
 change wpAny _ A ((compTurn (.ListComp elt [⟨target,iter,ifs,0⟩] scope pos) 0 it acc env).onRaise (fun x=>do noteFrame x env;theTreesLotGoes x)) _ _ s
 refine wpAny_noted ?_
 rw [compTurn_list]
 refine xAd (wpAny_standAt (xAd (wpAny_mono (go n s hJ) (fun r s1 h1=>?_) fun _ _ z=>z)))
 cases r with
 | none=>exact xAe h1
 | some v =>
  refine xAd (wpAny_mono h1 (fun _ s2 h2=>?_) fun _ _ z=>z)
  refine xAd (wpAny_mono h2 (fun _ s3 h3=>xAd (wpAny_mono h3 (fun ok s4 h4=>?_) fun _ _ z=>z)) fun _ _ z=>z)
  cases ok with
  | false=>exact xAe ⟨rfl,h4⟩
  | true=>exact xAd (xAd (wpAny_mono h4 (fun x s5 h5=>xAd (wpAny_mono h5 (fun _ s6 h6=>xAe (xAe ⟨rfl,h6⟩)) fun _ _ z=>z)) fun _ _ z=>z))
def PTs (X:Cx) (ifs:List Expr) (t:TT):Prop :=
 ∀ (pins:List (Addr×Obj)) (s:Shared) (σ:St) (H:Hp) (Q:Bool→Hp→Prop),Inv X pins σ H s→t σ H Q →
  wpAny (model X.prog X.w) X.A (forIn ifs true fun c r=>if r=true then do let ok ← isTrue c X.env (eval c X.env);pure (ForInStep.yield ok) else pure (ForInStep.yield r)) (TP X pins σ Q) X.xe s
def tYes:TT:=fun _ H Q=>Q true H
theorem j5 {X:Cx}:PTs X [] tYes:=fun _ _ _ H _ I h=>wpAny_tests_nil ⟨H,I,h⟩
theorem j4 {X:Cx} {c:Expr} {t:TT} (h:PT X c t):PTs X [c] t:=fun pins s σ H Q I q=>wpAny_tests_one (h pins s σ H Q I q)
def tLCg (wi:TI) (m:Nat) (fr:List Nat) (g:TG) (tc:TT) (te:TE):TE:=fun σ H Q=>wi σ H fun J H1=>∀ D,H1 D=none→∃ W:Nat→Nat→List V→Hp→Prop,(∃ k,W 0 k [] (upd H1 D (.lst [])))∧∀ i k ys H,W i k ys H→H D=some (.lst ys) ∧
 ((J.stop i H∧Q (.ref D) H)∨(J.go i H∧ys.length<sizeLine∧∃ N:List V→Hp→Prop,(∀ ys' H',N ys' H'→∃ k',k'<k∧W (i+1) k' ys' H') ∧
  ∀ x H',J.yld i H x H'→g x (List.replicate m none++capV σ fr) H' fun σ2 H2=>σ2.drop m=capV σ fr∧σ2.length=m+fr.length ∧
   tc σ2 H2 fun b H3=>H3 D=some (.lst ys)∧if b=true then te σ2 H3 fun v H4=>H4 D=some (.lst ys)∧N (ys++[v]) (upd H4 D (.lst (ys++[v]))) else N ys H3))
theorem Inv.forget {X:Cx} {pins:List (Addr×Obj)} {σ σ':St} {H:Hp} {s:Shared} (I:Inv X pins σ H s) (hl:σ'.length=σ.length) (h:∀ (i:Nat) (v:V),σ'[i]?=some (some v)→σ[i]?=some (some v)):Inv X pins σ' H s :=
 ⟨I.ok,I.os,I.bare,I.base,let ⟨m,h1,h2⟩:=I.loc;⟨m,h1,fun i x v e1 e2 e3=>h2 i x v e1 (h i v e2) e3⟩,I.cell,I.free,I.freeC,I.pin,I.hok,hl.trans I.len⟩
theorem ft {m:Nat} {cs:St} {i:Nat} {v:V} (h:(List.replicate m none++cs)[i]?=some (some v)):m≤i∧cs[i - m]?=some (some v):=by
 by_cases hi:i<m
 ·rw [List.getElem?_append_left (by simpa using hi),List.getElem?_replicate,xCg hi] at h
  cases h
 ·rw [List.getElem?_append_right (by simp;omega),List.length_replicate] at h
  exact ⟨by omega,h⟩
section
variable {X:Cx} {elt tg iter:Expr} {ifs:List Expr} {pos:Pos} {scope:Scope} {cl:List (Str×Addr)} {ls N:List Str} {fr:List Nat} {wi:TI} {g:TG} {tc:TT} {te:TE}
theorem jB {pins:List (Addr×Obj)} {σ:St} {H:Hp} {s:Shared} {fp:List Addr} {C:Addr} (cp:CapsG X scope cl ls N fr) (I:Inv X pins σ H s) (hC:s.heap.objs.size≤C) (hf:∀ b∈fp,FpOk X pins H b) (hl:∀ b∈fp,b<s.heap.objs.size) :
  (cxComp X (ls++N) scope cl C s H fp).Ok where
 mod:=I.ok.mod
 kind:=cp.kind
 glob:=I.ok.glob
 blt:=I.ok.blt
 above:=hC
 inj:=fun y z c e1 e2=>I.ok.inj y z c (cp.sub y c e1) (cp.sub z c e2)
 has:=fun y h=>by
  have h':(relabel scope X.env).names.lookup y=some .cell∨(relabel scope X.env).names.lookup y=some .free:=h
  rcases h' with h' | h'
  ·obtain ⟨k0,m,z | ⟨z,_⟩⟩:=cY h'
   ·subst z
    exact absurd rfl (cp.cell _ m)
   ·subst z
    exact cp.has _ m rfl
  ·obtain ⟨k0,m,z | ⟨_,z⟩⟩:=cY h'
   ·subst z
    exact cp.has _ m rfl
   ·cases z
 cab:=fun _ _ e=>absurd e xAy
 hd:=I.ok.hd
 frames:=I.ok.frames
 stk:=.inl rfl
 exf:=fun b hb=>⟨xA0 (xBc (hl b hb) hC),fun y c e z=>(hf b hb).2.2.2.2.1 y c (cp.sub y c e) z⟩
 bs:=I.bs
 bsz:=Nat.le_trans I.ok.bsz I.sz
 noex:=fun b o e hb=>by
  have q:=hf b hb
  rcases q.2.2.2.1 with z | z
  ·exact I.ok.noex b o e z
  ·have:=xA1 (I.ok.bs b o e).1
   exact absurd (xBc this z) (xBo _)
 exfs:=fun b hb z=>by
  have q:=hf b hb
  rcases xAv.mp (I.stkSub b z) with z' | z'
  ·exact q.2.1 z'
  ·exact q.2.2.1 z'
 funs:=I.stack
 frf:=I.stkFree
theorem fO {pos':Pos} {pins:List (Addr×Obj)} {s:Shared} {σ:St} {H:Hp} {Q:VK} {use:Option (Value→Sem Unit)} {QQ:Value→Shared→Prop} (hc:X.calm=true) (cp:CapsG X scope cl ls N fr) (hi:PI X tg iter wi) (hg:∀ C s H fp,PG (cxComp X (ls++N) scope cl C s H fp) tg g) (ht:∀ C s H fp,PTs (cxComp X (ls++N) scope cl C s H fp) ifs tc) (he:∀ C s H fp,PE (cxComp X (ls++N) scope cl C s H fp) elt te)
  (hs:∀ v,foldedSetIterable iter X.env v=pure v) (I:Inv X pins σ H s) (h:tLCg wi ls.length fr g tc te σ H Q)
  (fin:∀ (B C:Addr) (H':Hp) (s4:Shared) (m:Str→Option Value),Inv X pins σ H' s4→FpOk X pins H' C→s4.heap.Ns C m→Q (.ref B) H'→compPost (model X.prog X.w) X.A X.xe use QQ (.ref B) C (.ok .next) s4) :
  wpAny (model X.prog X.w) X.A (comprehension (.ListComp elt [⟨tg,iter,ifs,0⟩] scope pos) scope X.env pos' (newList []) false (eval iter X.env) use) QQ X.xe s:=by
 refine wpAny_comprehension_free (use:=use) rfl hs cp.clos cp.kind cp.names (thn (hi pins s σ H _ I h) fun v s1 h1=>thn h1 fun itv s2 h2=>?_)
 obtain ⟨it,fp,tn,J,H2,e,I2,T,st2,f2,R⟩:=h2
 subst e
 have hfl:∀ b∈fp,b<s2.heap.objs.size:=fun b hb=>let ⟨o,e,_⟩:=T.obj _ _ st2 b hb;xA1 e
 refine wpAny_newObj_type (wpAny_newFunctionEnv cp.cell (by intro y hy;simp at hy) (fun h1 hns1 hsb1=>?_) cp.kind)
 dsimp only at hns1 hsb1 ⊢
 generalize hG:s2.heap.push { cls:=.type "list",dict:=none,data:=.seq ([]:List Value).toArray }=G2 at hns1 hsb1 ⊢
 have hCs:G2.objs.size=s2.heap.objs.size+1:=by rw [← hG,Heap.size_push]
 have hDC:s2.heap.objs.size≠G2.objs.size:=by rw [hCs];exact xA0 (Nat.lt_succ_self _)
 have hCle:s2.heap.objs.size≤G2.objs.size:=by rw [hCs];exact Nat.le_succ _
 have old:∀ b o,s2.heap.get? b=some o→h1.get? b=some o:=fun b o e=>hsb1.extBut b o (xA0 (xBc (xA1 e) hCle)) (xAf _ (hG ▸ xAf _ e))
 have hacc:h1.get? s2.heap.objs.size=some { cls:=.type "list",dict:=none,data:=.seq ([]:List Value).toArray }:=hsb1.extBut _ _ hDC (xAf _ (hG ▸ xAl _ rfl))
 have hDn:H2 s2.heap.objs.size=none:=I2.hok.fresh (xAg _)
 have hCn:H2 G2.objs.size=none:=I2.hok.fresh hCle
 obtain ⟨W,⟨m0,w0⟩,turn⟩:=R s2.heap.objs.size hDn
 have okY:=jB (C:=G2.objs.size) cp I2 hCle f2 hfl
 have I3:Inv (cxComp X (ls++N) scope cl G2.objs.size s2 H2 fp) [] (List.replicate ls.length none++capV σ fr) (upd H2 s2.heap.objs.size (.lst [])) { s2 with heap:=h1,toks:=s2.toks+([]:List (Str×Value)).length }:=by
  refine ⟨okY,rfl,I2.bare,Un.laid old (xAg _) hDn,⟨_,hns1,fun i y v e1 e2 e3=>?_⟩,fun y c e=>?_,?_,fun y c e=>?_,(fun p hp=>nomatch hp),I2.hok.laid old (xAg _) ⟨xBn _,[],0,.nil,hacc⟩,?_⟩
  ·obtain ⟨hm,e2'⟩:=ft e2
   have e1':N[i - ls.length]?=some y:=by
    have e1'':(ls++N)[i]?=some y:=e1
    rw [List.getElem?_append_right hm] at e1''
    exact e1''
   obtain ⟨k,c,g1,g2,g3,g4,g5,g6⟩:=cp.caps _ y e1'
   have e4:σ[k]?=some (some v):=by
    unfold capV at e2'
    rw [xAw,g1] at e2'
    have e5:(σ[k]?).join=some v:=xB3 e2'
    cases z:σ[k]? with
    | none=>rw [z] at e5;cases e5
    | some o=>rw [z] at e5;exact congrArg some e5
   obtain ⟨m2,_,hl2⟩:=I2.loc
   obtain ⟨u,r,lk⟩:=hl2 k y v g2 e4 g3
   refine ⟨u,r,.inr ⟨b8 g6,c,g5,?_⟩⟩
   rcases lk with ⟨lk,_⟩ | ⟨_,c',lk1,o,lk2,lk3⟩
   ·exact absurd lk g4
   ·have:=cp.sub y c g5
    rw [lk1] at this
    cases this
    exact ⟨o,old _ _ lk2,lk3⟩
  ·obtain ⟨v,o,e1,e2⟩:=I2.cell y c (cp.sub y c e)
   exact ⟨v,o,old _ _ e1,e2⟩
  ·show upd H2 s2.heap.objs.size (.lst []) G2.objs.size=none
   rw [ag (Ne.symm hDC)]
   exact hCn
  ·obtain ⟨v,o,e1,e2⟩:=I2.cell y c (cp.sub y c e)
   rw [ag (xA0 (xA1 e1))]
   exact I2.freeC y c (cp.sub y c e)
  ·change (List.replicate ls.length none++capV σ fr).length=(ls++N).length
   unfold capV
   rw [xAb,xAb,List.length_replicate,xAa,cp.len]
 have stat:∀ {H':Hp},(∀ b∈fp,H' b=none)→∀ b∈fp,FpOk (cxComp X (ls++N) scope cl G2.objs.size s2 H2 fp) [] H' b:=fun hn b hb =>
  ⟨hn b hb,xA0 (xBc (hfl b hb) hCle),okY.exfs b hb,.inl hb,(okY.exf b hb).2,fun p hp=>nomatch hp⟩
 have loop:∀ s3:Shared,s3={ s2 with heap:=h1,toks:=s2.toks+([]:List (Str×Value)).length } →
   codeAny (model X.prog X.w) X.A (.compLoop (.ListComp elt [⟨tg,iter,ifs,0⟩] scope pos) 0 (.ref it) (.ref s2.heap.objs.size) (compEnvC scope cl G2.objs.size X.env))
    (compPost (model X.prog X.w) X.A X.xe use QQ (.ref s2.heap.objs.size) G2.objs.size) s3:=by
  rintro s3 rfl
  refine gq (fun n s'=>∃ i ys H',Inv (cxComp X (ls++N) scope cl G2.objs.size s2 H2 fp) [] (List.replicate ls.length none++capV σ fr) H' s'∧tn i s'.heap∧(∀ b∈fp,H' b=none)∧W i n ys H') ?_ m0
   ⟨0,[],_,I3,T.keep _ _ _ st2 (fun b hb o e=>old b o e),fun b hb=>by rw [ag (xA0 (hfl b hb))];exact (f2 b hb).1,w0⟩
  rintro n s' ⟨i,ys,H',IY,st,frn,w'⟩
  obtain ⟨hD,hh⟩:=turn i n ys H' w'
  rcases hh with ⟨stop,q⟩ | ⟨go,hz,Nx,hN,step⟩
  ·refine wpAny_mono (T.done (cxComp X (ls++N) scope cl G2.objs.size s2 H2 fp) rfl rfl rfl hc i [] s' _ H' (fun _ _=>False) IY (stat frn) st stop) (fun r s4 h4=>?_) (fun _ _ z=>z.elim)
   obtain ⟨hr,I4⟩:=h4
   subst hr
   obtain ⟨mY,hnY,_⟩:=I4.loc
   have I5:Inv X pins σ H' s4:=Inv.call' (s:=s2) (H:=H2) (ch:=fp) I2 I4.os I4.base I4.hok I4.bare (fun b hb=>⟨(f2 b hb).2.2.2.1,(f2 b hb).2.1,(f2 b hb).2.2.2.2.1,(f2 b hb).2.2.2.2.2⟩)
   exact fin _ _ H' s4 mY I5 (I2.fpOk hCle I4.free) hnY q
  ·refine wpAny_mono (T.item (cxComp X (ls++N) scope cl G2.objs.size s2 H2 fp) rfl rfl rfl hc i [] s' _ H' (fun _ _=>False) IY (stat frn) st go) (fun r s4 h4=>?_) (fun _ _ z=>z.elim)
   obtain ⟨u,hr,h4⟩:=h4
   subst hr
   refine wpAny_mono h4 (fun _ s5 h5=>?_) (fun _ _ z=>z.elim)
   obtain ⟨xv,H5,I5,r5,y5,st5,fr5⟩:=h5
   have I5':=I5.pinned (stat fr5) (T.obj _ _ st5)
   refine wpAny_mono (hg G2.objs.size s2 H2 fp _ s5 _ H5 xv u _ I5' r5 (step xv H5 y5)) (fun _ s6 h6=>?_) (fun _ _ z=>z.elim)
   obtain ⟨σ6,H6,I6,c6,l6,t6⟩:=h6
   have back:∀ {H7:Hp} {s7:Shared},Inv (cxComp X (ls++N) scope cl G2.objs.size s2 H2 fp) ([]++pinsAt fp s5.heap) σ6 H7 s7→Inv (cxComp X (ls++N) scope cl G2.objs.size s2 H2 fp) [] (List.replicate ls.length none++capV σ fr) H7 s7∧tn (i+1) s7.heap∧∀ b∈fp,H7 b=none:=fun {H7 s7} I7=>by
    refine ⟨I7.unpinned.forget ?_ (fun j v e=>?_),T.keep _ _ _ st5 fun b hb o e=>(I7.pin (b,o) (xBt _ (xBt _ (bL hb e)))).1,fun b hb=>?_⟩
    ·rw [l6,xAb,List.length_replicate]
     unfold capV
     rw [xAa]
    ·obtain ⟨hm,e'⟩:=ft e
     rw [← c6,List.getElem?_drop] at e'
     rw [show j=ls.length+(j - ls.length) by omega]
     exact e'
    ·obtain ⟨o,e,d⟩:=T.obj _ _ st5 b hb
     exact (I7.pin (b,o) (xBt _ (xBt _ (bL hb e)))).2.1
   refine wpAny_mono (ht G2.objs.size s2 H2 fp _ s6 _ H6 _ I6 t6) (fun ok s7 h7=>?_) (fun _ _ z=>z.elim)
   obtain ⟨H7,I7,hD7,h7⟩:=h7
   cases ok with
   | false =>
    rw [xCf xAy] at h7 ⊢
    obtain ⟨k',hk,w8⟩:=hN _ _ h7
    obtain ⟨b1,b2,b3⟩:=back I7
    exact ⟨k',hk,i+1,ys,H7,b1,b2,b3,w8⟩
   | true =>
    rw [xCg rfl] at h7 ⊢
    refine wpAny_mono (he G2.objs.size s2 H2 fp _ s7 _ H7 _ I7 h7) (fun xv' s8 h8=>?_) (fun _ _ z=>z.elim)
    obtain ⟨v8,H8,I8,r8,hD8,n8⟩:=h8
    refine wpAny_mono (aS (X:=cxComp X (ls++N) scope cl G2.objs.size s2 H2 fp) _ s8 _ H8 (.ref s2.heap.objs.size) [v8] (.ref s2.heap.objs.size) [xv'] (fun v' H9=>H9=upd H8 s2.heap.objs.size (.lst (ys++[v8]))) I8 rfl (.cons r8 .nil) ⟨s2.heap.objs.size,ys,v8,rfl,rfl,hD8,hz,rfl⟩) (fun _ s9 h9=>?_) (fun _ _ z=>z.elim)
    obtain ⟨v9,H9,I9,_,rfl⟩:=h9
    obtain ⟨k',hk,w9⟩:=hN _ _ n8
    obtain ⟨b1,b2,b3⟩:=back I9
    exact ⟨k',hk,i+1,ys++[v8],_,b1,b2,b3,w9⟩
 exact codeAny_compStart_list (loop _ rfl) (T.self _ 0 _ _ _ (T.keep _ _ _ st2 (fun b hb o e=>old b o e)) (loop _ rfl))
theorem mO (hc:X.calm=true) (cp:CapsG X scope cl ls N fr) (hi:PI X tg iter wi) (hg:∀ C s H fp,PG (cxComp X (ls++N) scope cl C s H fp) tg g) (ht:∀ C s H fp,PTs (cxComp X (ls++N) scope cl C s H fp) ifs tc) (he:∀ C s H fp,PE (cxComp X (ls++N) scope cl C s H fp) elt te)
  (hs:∀ v,foldedSetIterable iter X.env v=pure v:=by intro _;rfl):PE X (.ListComp elt [⟨tg,iter,ifs,0⟩] scope pos) (tLCg wi ls.length fr g tc te):=by
 intro pins s σ H Q I h
 rw [eval_ListComp]
 refine fO (use:=none) (QQ:=EP X pins σ Q) hc cp hi hg ht he hs I h fun B C H' s4 m I4 f4 n4 q4=>⟨m,n4,fun h' sb=>?_⟩
 exact ⟨.ref B,H',I4.turned (t':=s4.toks) (fun b o hb e=>sb.extBut b o hb e) f4.1 f4.2.1 f4.2.2.2.1 f4.2.2.2.2.1 f4.2.2.2.2.2,rfl,q4⟩
theorem iR {i:Nat} {y:Str} {py spos:Pos} (hN:X.N.Nodup) (hiy:X.N[i]?=some y) (hy:X.env.scope.names.lookup y=some .local) (hc:X.calm=true) (cp:CapsG X scope cl ls N fr) (hi:PI X tg iter wi) (hg:∀ C s H fp,PG (cxComp X (ls++N) scope cl C s H fp) tg g) (ht:∀ C s H fp,PTs (cxComp X (ls++N) scope cl C s H fp) ifs tc) (he:∀ C s H fp,PE (cxComp X (ls++N) scope cl C s H fp) elt te)
  (hs:∀ v,foldedSetIterable iter X.env v=pure v:=by intro _;rfl) (hsw:swapsWith (.ListComp elt [⟨tg,iter,ifs,0⟩] scope pos) (some (.Name y py)) spos.line X.env=pure true:=by rfl) :
  PS X (.Assign [.Name y py] (.ListComp elt [⟨tg,iter,ifs,0⟩] scope pos) spos) (tAsg (tLCg wi ls.length fr g tc te) (gName i)):=by
 intro pins s σ H D I h
 rw [exec_Assign_Name_used _ _ _ _ hsw]
 refine xAd (wpAny_standAt (xAd ?_))
 change wpAny _ X.A (do let _ ← comprehension (.ListComp elt [⟨tg,iter,ifs,0⟩] scope pos) scope X.env _ (newList []) false (eval iter X.env) (some (assign (.Name y py) X.env))) _ _ s
 refine xAd (wpAny_mono (fO (use:=some (assign (.Name y py) X.env)) (QQ:=fun _ s'=>SP X pins D .next s') hc cp hi hg ht he hs I h fun B C H' s4 m I4 f4 n4 q4=>?_) (fun _ s' z=>xAe (xAe z)) fun _ _ z=>z)
 change wpAny _ X.A (assign (.Name y py) X.env (.ref B)) _ _ _
 refine wpAny_assign_Name (dZ I4 hN hiy (.inl hy) (v:=.ref B) rfl (fun s5 I5 ⟨a,sb5,ha⟩=>?_) (.inr hy))
 have aC:C≠a:=by
  rcases ha with ha | ha
  ·rw [ha];exact f4.2.1
  ·exact fun z=>f4.2.2.2.2.1 _ _ ha z.symm
 refine ⟨m,n4.sameBut sb5 aC,fun h' sb=>⟨_,H',?_,q4⟩⟩
 exact I5.turned (t':=s5.toks) (fun b o hb e=>sb.extBut b o hb e) f4.1 f4.2.1 f4.2.2.2.1 f4.2.2.2.2.1 f4.2.2.2.2.2
end
structure CapOne (X:Cx) (scope:Scope) (cl:List (Str×Addr)) (y:Str) (k:Nat):Prop where
 ex:∃ c,cl.lookup y=some c∧X.env.cells.lookup y=some c
 at':X.N[k]?=some y
 cell:X.env.scope.names.lookup y=some .cell
 free:scope.names.lookup y=some .free
theorem dJ {α:Type} {y:Str} {c:α}:∀ {l:List (Str×α)},l.lookup y=some c→(y,c)∈l
 | [],h=>by simp at h
 | (z,d)::r,h=>by
  rw [List.lookup_cons] at h
  by_cases e:y == z
  ·rw [e] at h
   cases xB3 h
   rw [eq_of_beq e]
   exact xAr
  ·rw [Bool.eq_false_iff.mpr e] at h
   exact xAs _ (dJ h)
theorem CapsG.mk' {X:Cx} {scope:Scope} {cl:List (Str×Addr)} {ls N:List Str} {fr:List Nat} (clos:closureFor scope X.env=pure cl) (cell:∀ y∈scope.names,y.2≠.cell) (kind:scope.kind = .function)
  (names:∀ y∈scope.names,y.2 = .local→scope.names.lookup y.1=some .local) (h:Paired (CapOne X scope cl) N fr) (has:∀ y∈scope.names,y.2 = .free→y.1∈N) (hk:cl.map (·.1)=N):CapsG X scope cl ls N fr:=by
 have get:∀ {N:List Str} {fr:List Nat},Paired (CapOne X scope cl) N fr→∀ (j:Nat) (y:Str),N[j]?=some y→∃ k,fr[j]?=some k∧CapOne X scope cl y k:=by
  intro N fr h
  induction h with
  | nil=>intro j y e;simp at e
  | cons hd tl ih =>
   intro j y e
   cases j with
   | zero=>simp at e;subst e;exact ⟨_,rfl,hd⟩
   | succ j=>exact ih j y (by simpa using e)
 have mem:∀ y∈N,∃ k,CapOne X scope cl y k:=fun y hy=>by
  obtain ⟨j,e⟩:=List.mem_iff_getElem?.mp hy
  obtain ⟨k,_,c⟩:=get h j y e
  exact ⟨k,c⟩
 refine ⟨clos,cell,kind,names,fun y c e=>?_,fun y hy e=>?_,fun j y e=>?_,h.length⟩
 ·have hy:y∈N:=by
   rw [← hk]
   have:=dJ e
   exact xA2.mpr ⟨_,this,rfl⟩
  obtain ⟨k,⟨c',e1,e2⟩,_⟩:=mem y hy
  rw [e] at e1
  cases e1
  exact e2
 ·obtain ⟨k,⟨c',e1,e2⟩,_⟩:=mem _ (has y hy e)
  exact ⟨c',e1⟩
 ·obtain ⟨k,e1,⟨c,e2,e3⟩,g1,g2,g3⟩:=get h j y e
  refine ⟨k,c,e1,g1,.inr (.inl g2),fun q=>?_,e2,g3⟩
  have q':X.env.scope.names.lookup y=some .local:=q
  rw [g2] at q'
  cases q'
end L2
namespace L2
open PySem PySem.Spec PyProof.Rows
inductive D where
 | int (i:Int) | str (x:Str) | bl (b:Bool) | non | tup (ds:List D)
mutual
def Rp (H:Hp):D→V→Prop
 | .int i,v=>v = .int i
 | .str x,v=>v = .str x
 | .bl b,v=>v = .bl b
 | .non,v=>v = .non
 | .tup ds,v=>∃ p vs,v = .ref p∧H p=some (.tup vs)∧Rps H ds vs
def Rps (H:Hp):List D→List V→Prop
 | [],vs=>vs=[]
 | d::ds,vs=>∃ v r,vs=v::r∧Rp H d v∧Rps H ds r
end
def TLe (H H':Hp):Prop:=∀ p xs,H p=some (.tup xs)→H' p=some (.tup xs)
theorem TLe.trans {H H1 H2:Hp} (a:TLe H H1) (b:TLe H1 H2):TLe H H2:=fun p xs e=>b p xs (a p xs e)
theorem TLe.of {H H':Hp} (s:Same H H'):TLe H H':=fun p xs e=>s p _ e
mutual
theorem Rp.le {H H':Hp} (s:TLe H H'):∀ {d:D} {v:V},Rp H d v→Rp H' d v
 | .int _,_,h=>h
 | .str _,_,h=>h
 | .bl _,_,h=>h
 | .non,_,h=>h
 | .tup _,_,h=>by
  obtain ⟨p,vs,e,hp,hs⟩:=h
  exact ⟨p,vs,e,s _ _ hp,Rps.le s hs⟩
theorem Rps.le {H H':Hp} (s:TLe H H'):∀ {ds:List D} {vs:List V},Rps H ds vs→Rps H' ds vs
 | [],_,h=>h
 | _::_,_,h=>by
  obtain ⟨v,r,e,h1,h2⟩:=h
  exact ⟨v,r,e,Rp.le s h1,Rps.le s h2⟩
end
theorem Rp.mono {H H':Hp} {d:D} {v:V} (h:Rp H d v) (s:Same H H'):Rp H' d v:=h.le (.of s)
theorem Rps.mono {H H':Hp} {ds:List D} {vs:List V} (h:Rps H ds vs) (s:Same H H'):Rps H' ds vs:=h.le (.of s)
theorem Rps.length {H:Hp}:∀ {ds:List D} {vs:List V},Rps H ds vs→vs.length=ds.length
 | [],_,h=>by rw [show _=[] from h];rfl
 | _::_,_,h=>by
  obtain ⟨v,r,e,_,h2⟩:=h
  rw [e,xAo,Rps.length h2,xAo]
theorem Rps.get {H:Hp}:∀ {ds:List D} {vs:List V},Rps H ds vs→∀ {i:Nat} {d:D},ds[i]?=some d→∃ v,vs[i]?=some v∧Rp H d v
 | [],_,_,_,_,e=>by simp at e
 | d::ds,_,h,i,d',e=>by
  obtain ⟨v,r,rfl,h1,h2⟩:=h
  cases i with
  | zero=>simp at e;subst e;exact ⟨v,rfl,h1⟩
  | succ i=>exact Rps.get h2 (by simpa using e)
theorem Rps.get' {H:Hp} {ds:List D} {vs:List V} (h:Rps H ds vs) {i:Nat} {v:V} (e:vs[i]?=some v):∃ d,ds[i]?=some d∧Rp H d v:=by
 have hi:i<vs.length:=(xAq.mp e).1
 have hl:=h.length
 obtain ⟨v',e',r⟩:=h.get (i:=i) (xAk (by omega))
 rw [e] at e'
 cases e'
 exact ⟨_,xAk (by omega),r⟩
theorem Rps.app {H:Hp}:∀ {ds es:List D} {vs us:List V},Rps H ds vs→Rps H es us→Rps H (ds++es) (vs++us)
 | [],_,_,_,h,g=>by rw [show _=[] from h];exact g
 | _::_,_,_,_,h,g=>by
  obtain ⟨v,r,rfl,h1,h2⟩:=h
  exact ⟨v,r++_,rfl,h1,Rps.app h2 g⟩
theorem Rps.one {H:Hp} {d:D} {v:V} (h:Rp H d v):Rps H [d] [v]:=⟨v,[],rfl,h,rfl⟩
theorem Rps.drop {H:Hp}:∀ (n:Nat) {ds:List D} {vs:List V},Rps H ds vs→Rps H (ds.drop n) (vs.drop n)
 | 0,_,_,h=>h
 | _+1,[],_,h=>by rw [show _=[] from h];rfl
 | n+1,_::_,_,h=>by
  obtain ⟨v,r,rfl,h1,h2⟩:=h
  exact Rps.drop n h2
theorem Rps.take {H:Hp}:∀ (n:Nat) {ds:List D} {vs:List V},Rps H ds vs→Rps H (ds.take n) (vs.take n)
 | 0,_,_,_=>rfl
 | _+1,[],_,h=>by rw [show _=[] from h];rfl
 | n+1,_::_,_,h=>by
  obtain ⟨v,r,rfl,h1,h2⟩:=h
  exact ⟨v,r.take n,rfl,h1,Rps.take n h2⟩
def LD (H:Hp) (l:Addr) (ds:List D):Prop:=∃ vs,H l=some (.lst vs)∧Rps H ds vs
theorem LD.mono {H H':Hp} {l:Addr} {ds:List D} (h:LD H l ds) (s:Same H H'):LD H' l ds:=let ⟨vs,e,r⟩:=h;⟨vs,s _ _ e,r.mono s⟩
theorem LD.kept {H H':Hp} {fp:List Addr} {l:Addr} {ds:List D} (h:LD H l ds) (k:Kept fp H H') (t:TLe H H') (n:l ∉ fp):LD H' l ds:=let ⟨vs,e,r⟩:=h;⟨vs,k _ _ e n,r.le t⟩
def NoT (fp:List Addr) (H:Hp):Prop:=∀ a∈fp,∀ xs,H a≠some (.tup xs)
theorem Kept.tle {H H':Hp} {fp:List Addr} (k:Kept fp H H') (n:NoT fp H):TLe H H':=fun p xs e=>k p _ e fun z=>n p z xs e
theorem TLe.upd {H:Hp} {a:Addr} {o:HO} (h:∀ xs,H a≠some (.tup xs)):TLe H (upd H a o):=fun p xs e=>by
 have:p≠a:=fun z=>h xs (by rw [← z];exact e)
 rw [ag this]
 exact e
mutual
def D.dep:D→Nat
 | .tup ds=>D.deps ds+1
 | _=>0
def D.deps:List D→Nat
 | []=>0
 | d::ds=>max (D.dep d) (D.deps ds)
end
theorem Al.up {H:Hp} {n:Nat} {x y:V} (h:Al H n x y):∀ {m:Nat},n≤m→Al H m x y:=by
 induction h with
 | flat f=>intro m _;exact .flat f
 | same=>intro m _;exact .same
 | @tup n a b xs ys ea eb el _ ih =>
  intro m hm
  obtain ⟨k,rfl⟩:∃ k,m=k+1:=⟨m - 1,by omega⟩
  exact .tup ea eb el fun j x y e1 e2=>ih j x y e1 e2 (by omega)
 | @lst n a b xs ys ea eb el _ ih =>
  intro m hm
  obtain ⟨k,rfl⟩:∃ k,m=k+1:=⟨m - 1,by omega⟩
  exact .lst ea eb el fun j x y e1 e2=>ih j x y e1 e2 (by omega)
mutual
theorem Rp.al {H:Hp}:∀ {d:D} {x y:V},Rp H d x→Rp H d y→Al H (D.dep d) x y
 | .int _,_,_,h,g=>by rw [show _=_ from h,show _=_ from g];exact .flat rfl
 | .str _,_,_,h,g=>by rw [show _=_ from h,show _=_ from g];exact .flat rfl
 | .bl _,_,_,h,g=>by rw [show _=_ from h,show _=_ from g];exact .flat rfl
 | .non,_,_,h,g=>by rw [show _=_ from h,show _=_ from g];exact .flat rfl
 | .tup ds,_,_,h,g=>by
  obtain ⟨p,vs,rfl,hp,hs⟩:=h
  obtain ⟨q,us,rfl,hq,gs⟩:=g
  have:=Rps.al hs gs
  refine .tup hp hq (by rw [hs.length,gs.length]) fun j x y e1 e2=>this j x y e1 e2
theorem Rps.al {H:Hp}:∀ {ds:List D} {vs us:List V},Rps H ds vs→Rps H ds us→∀ (j:Nat) (x y:V),vs[j]?=some x→us[j]?=some y→Al H (D.deps ds) x y
 | [],_,_,h,_,j,x,y,e1,_=>by rw [show _=[] from h] at e1;simp at e1
 | d::ds,_,_,h,g,j,x,y,e1,e2=>by
  obtain ⟨v,r,rfl,h1,h2⟩:=h
  obtain ⟨v',r',rfl,g1,g2⟩:=g
  cases j with
  | zero =>
   simp at e1 e2
   subst e1 e2
   exact (Rp.al h1 g1).up (by simp only [D.deps];omega)
  | succ j=>exact (Rps.al h2 g2 j x y (by simpa using e1) (by simpa using e2)).up (by simp only [D.deps];omega)
end
section
variable {X:Cx}
def rAlL (b:Bool):R2:=fun x y H Q=>∃ p q xs ys n,x = .ref p∧y = .ref q∧H p=some (.lst xs)∧H q=some (.lst ys)∧xs.length=ys.length∧n≤30∧(∀ (j:Nat) (x y:V),xs[j]?=some x→ys[j]?=some y→Al H n x y)∧Q (.bl b) H
theorem fm (hu:X.A.units+40<cLine):OpR X (compareOp .NotEq) (rAlL false):=by
 intro pins s σ H x y v u Q I rx ry h
 obtain ⟨a,b,xs,ys,n,rfl,rfl,ea,eb,el,hn,al,q⟩:=h
 cases (show v=Value.ref a from rx)
 cases (show u=Value.ref b from ry)
 obtain ⟨_,its,n1,q1,t1⟩:=(show ObjOk X.prog X.w H s.heap a (.lst xs) from I.hok a _ ea)
 obtain ⟨_,its2,n2,q2,t2⟩:=(show ObjOk X.prog X.w H s.heap b (.lst ys) from I.hok b _ eb)
 have he:∀ j (h1:j<its.toArray.size) (h2:j<its2.toArray.size),SeqAt.EqAt X.A.in1 s its.toArray[j] its2.toArray[j] ((fun _=>true) j):=fun j j1 j2=>by
  obtain ⟨x1,e1,g1⟩:=bb q1 j1
  obtain ⟨y1,e2,g2⟩:=bb q2 j2
  exact eZ I.hok (al j x1 y1 e1 e2) g1 g2 (by show X.A.units+1+n<cLine;omega)
 have es:its.toArray.size=its2.toArray.size:=by rw [xAp,xAp,← q1.length,← q2.length,el]
 refine (SeqAt.RcNeAt.lists (e:=fun _=>true) ⟨_,t1,rfl,_,rfl⟩ ⟨_,t2,rfl,_,rfl⟩ es (by omega) he) X.prog X.w X.xe _ ?_
 refine ak I q ?_
 simp
end
end L2
namespace L2
open PySem PySem.Spec PyProof.Rows
def nNewT (xs:List V) (H:Hp) (Q:VK):Prop:=xs.length≤sizeLine∧∀ p,H p=none→Q (.ref p) (upd H p (.tup xs))
def nNewL (xs:List V) (H:Hp) (Q:VK):Prop:=xs.length≤sizeLine∧∀ p,H p=none→Q (.ref p) (upd H p (.lst xs))
def cLen (K:xFr):List V→Hp→VK→Prop:=fun xs H Q=>∃ x n,xs=[x]∧LenV K x H n∧Q (.int n) H
def cLenD:List V→Hp→VK→Prop:=fun xs H Q=>∃ a kvs,xs=[V.ref a]∧H a=some (.dK kvs)∧Q (.int kvs.length) H
def cList (K:xFr):List V→Hp→VK→Prop:=fun xs H Q=>∃ p ys,xs=[.ref p]∧(SqL K H p ys∨SqT K H p ys)∧∀ l,H l=none→Q (.ref l) (upd H l (.lst ys))
def cIsT (K:xFr):List V→Hp→VK→Prop:=fun xs H Q=>∃ x n t b,xs=[x,V.ty n]∧TyOf K H x t∧PySem.W.kitOne K t (.type n)=some b∧Q (.bl b) H
section
variable {X:Cx}
theorem aO:CallR X (.builtin "len") (cLen X.K):=jC
theorem kR:CallR X (.builtin "len") cLenD:=iu
theorem kQ:CallR X (.type "list") (cList X.K):=eX
theorem cV:CallR X (.builtin "isinstance") (cIsT X.K):=iw
end
def nIsN:R2:=fun x y H Q=>y = .non∧Q (.bl (decide (x = .non))) H
theorem i6 {X:Cx}:OpR X (compareOp .Is) nIsN:=mX
def nNotN:R2:=fun x y H Q=>y = .non∧Q (.bl (!decide (x = .non))) H
theorem kz {X:Cx}:OpR X (compareOp .IsNot) nNotN:=kA
def nDGet (x y:V) (H:Hp) (Q:VK):Prop:=∃ a v,x = .ref a∧DGet H a y (some v)∧Q v H
def nDIn (neg:Bool) (x y:V) (H:Hp) (Q:VK):Prop:=∃ a o,x = .ref a∧DGet H a y o∧Q (.bl (if neg then !o.isSome else o.isSome)) H
def nDPut (x y v:V) (H:Hp) (Q:Hp→Prop):Prop:=∃ a H4,x = .ref a∧DPut H a y v H4∧Q H4
def nBM (K:xFr) (T:String) (r:V→List V→Hp→VK→Prop) (t:TA) (x:V) (σ:St) (H:Hp) (Q:VK):Prop:=tyV K T x H∧t σ H fun xs H2=>r x xs H2 Q
def nBM0 (K:xFr) (T:String) (r:V→List V→Hp→VK→Prop) (x:V) (H:Hp) (Q:VK):Prop:=tyV K T x H∧r x [] H Q
section
variable {t u:TS} {te ta tb tv:TE} {tt:TT} {tas:TA} {g:TG} {Dn:Ends} {σ:St} {H:Hp} {Q:VK} {QB:Bool→Hp→Prop} {QA:List V→Hp→Prop} {QS:St→Hp→Prop} {K:xFr} {x y:V} {p a:Addr} {xs ys:List V}
theorem nQ (h:t { Dn with nx:=u Dn } σ H):tSeq t u Dn σ H:=h
theorem lT (h:Dn.nx σ H):tNext Dn σ H:=h
theorem ot (h:te σ H fun x H1=>g x σ H1 Dn.nx):tAsg te g Dn σ H:=h
theorem du {i:Nat} {v:V} (h:QS (σ.set i (some v)) H):gName i v σ H QS:=h
theorem lW {n:Nat} {tg:TGs} (e:H p=some (.tup xs)) (hn:xs.length=n) (h:tg xs σ H QS):gTup K n tg (.ref p) σ H QS:=⟨p,xs,rfl,.of e,hn,h⟩
theorem jW {tg:TG} {tgs:TGs} (h:tg x σ H fun σ' H'=>tgs xs σ' H' QS):gCons tg tgs (x::xs) σ H QS:=⟨x,xs,rfl,h⟩
theorem lX (h:QS σ H):gNil [] σ H QS:=⟨rfl,h⟩
theorem nR (h:te σ H Dn.rt):tRet te Dn σ H:=h
theorem lY (h:te σ H fun _ H1=>Dn.nx σ H1):tDrop te Dn σ H:=h
theorem og (h:tt σ H fun b H1=>if b=true then t Dn σ H1 else u Dn σ H1):tIfS tt t u Dn σ H:=h
theorem lM (h:te σ H fun x H'=>∃ k,x=V.bl k∧QB k H'):tTest te σ H QB:=h
theorem jQ (h:te σ H fun x H'=>∃ k,x=V.bl k∧QB k H'):tB te σ H QB:=h
theorem pF {k:Bool} {QK:Bool→Prop} (h:QK k):∃ k',V.bl k=V.bl k'∧QK k':=⟨k,rfl,h⟩
theorem pk {r:R2} (h:ta σ H fun x H1=>tb σ H1 fun y H2=>r x y H2 Q):tOp r ta tb σ H Q:=h
theorem nK {i:Nat} {v:V} (e:σ[i]?=some (some v)) (h:Q v H):tVar i σ H Q:=⟨v,e,h⟩
theorem r_c {v:V} (h:Q v H):tC v σ H Q:=h
theorem pH {f:Int→Int→V} {i j:Int} (h:Q (f i j) H):rI0 f (.int i) (.int j) H Q:=⟨i,j,rfl,rfl,h⟩
theorem r_I {C:Int→Int→Prop} {f:Int→Int→V} {i j:Int} (c:C i j) (h:Q (f i j) H):rI C f (.int i) (.int j) H Q:=⟨i,j,rfl,rfl,c,h⟩
theorem ol {i j:Int} (h:Q (.bl (decide (i=j))) H):rEq (.int i) (.int j) H Q:=⟨rfl,by rw [show decide (V.int i=V.int j)=decide (i=j) from by simp];exact h⟩
theorem nZ {i j:Int} (h:Q (.bl (!decide (i=j))) H):rNe (.int i) (.int j) H Q:=⟨rfl,by rw [show decide (V.int i=V.int j)=decide (i=j) from by simp];exact h⟩
theorem nY {x y:Str} (h:Q (.bl (!decide (x=y))) H):rNe (.str x) (.str y) H Q:=⟨rfl,by rw [show decide (V.str x=V.str y)=decide (x=y) from by simp];exact h⟩
theorem oa (h:Q (.bl (decide (x = .non))) H):nIsN x .non H Q:=⟨rfl,h⟩
theorem lS (h:Q (.bl (!decide (x = .non))) H):nNotN x .non H Q:=⟨rfl,h⟩
theorem kX {i:Int} {v:V} (e:H p=some (.tup xs)) (at':atI xs i=some v) (h:Q v H):rIxT K (.ref p) (.int i) H Q:=⟨p,xs,i,v,rfl,rfl,.of e,at',h⟩
theorem a9 {i:Int} {v:V} (e:H p=some (.lst xs)) (at':atI xs i=some v) (h:Q v H):rIxL K (.ref p) (.int i) H Q:=⟨p,xs,i,v,rfl,rfl,.of e,at',h⟩
theorem nW (h:QA [] H):tNil σ H QA:=h
theorem mf (h:te σ H fun x H1=>tas σ H1 fun xs H2=>QA (x::xs) H2):tCons te tas σ H QA:=h
theorem nV (h:tt σ H fun c H1=>QB (!c) H1):tNot tt σ H QB:=h
theorem pj {tt':TT} (h:tt σ H fun c H1=>if c=true then QB true H1 else tt' σ H1 QB):tOr tt tt' σ H QB:=h
theorem mj (h:ta σ H fun x H1=>∃ c,x=V.bl c∧if c=true then tb σ H1 Q else Q (.bl false) H1):tAndV ta tb σ H Q:=h
theorem lR (h:ta σ H fun x H1=>∃ c,x=V.bl c∧Q (.bl (!c)) H1):tNotV ta σ H Q:=h
theorem nJ (h:QB true H):tYes σ H QB:=h
theorem mh {sp:Sp} {dvs:List V} {E:XK} (h:tas σ H fun vs H1=>sp (vs++dvs) H1 Q E):tCall sp dvs E tas σ H Q:=h
theorem pD {r:List V→Hp→VK→Prop} (h:tas σ H fun vs H1=>r vs H1 Q):tCB r tas σ H Q:=h
theorem nO (h:tas σ H fun xs H1=>nNewT xs H1 Q):tTup tas σ H Q:=h
theorem n6 (h:tas σ H fun xs H1=>nNewL xs H1 Q):tLst tas σ H Q:=h
theorem bj (h:∀ p H2,Same H H2→H p=none→H2 p=some (.tup xs)→Q (.ref p) H2) (hl:xs.length≤1000:=by first | decide | simp):nNewT xs H Q:=⟨small hl,fun p hp=>h p _ (am hp _) hp ac⟩
theorem aK (h:∀ p H2,Same H H2→H p=none→H2 p=some (.lst xs)→Q (.ref p) H2) (hl:xs.length≤1000:=by first | decide | simp):nNewL xs H Q:=⟨small hl,fun p hp=>h p _ (am hp _) hp ac⟩
theorem lV (e:H p=some (.lst ys)) (h:Q (.int ys.length) H):cLen K [.ref p] H Q:=⟨_,_,rfl,.inl ⟨ys,.of e,rfl⟩,h⟩
theorem lU (e:H p=some (.tup ys)) (h:Q (.int ys.length) H):cLen K [.ref p] H Q:=⟨_,_,rfl,.inr ⟨ys,.of e,rfl⟩,h⟩
theorem jT (e:H p=some (.lst ys)) (h:∀ l H2,Same H H2→H l=none→H2 l=some (.lst ys)→Q (.ref l) H2):cList K [.ref p] H Q:=⟨p,ys,rfl,.inl (.of e),fun l hl=>h l _ (am hl _) hl ac⟩
theorem me (h:ta σ H fun x H1=>tb σ H1 fun y H2=>nDGet x y H2 Q):tDGet ta tb σ H Q:=h
theorem aD {kvs:List (Key×V)} {k:Str} {v:V} (e:H a=some (.dK kvs)) (hv:valV kvs (.inr k)=some v) (h:Q v H):nDGet (.ref a) (.str k) H Q:=⟨a,v,rfl,.inl ⟨kvs,.inr k,.inl e,rfl,hv.symm⟩,h⟩
theorem gA {kvs:List (Key×V)} {k:Int} {v:V} (e:H a=some (.dK kvs)) (hv:valV kvs (.inl k)=some v) (h:Q v H):nDGet (.ref a) (.int k) H Q:=⟨a,v,rfl,.inl ⟨kvs,.inl k,.inl e,rfl,hv.symm⟩,h⟩
theorem l9 (h:tb σ H fun y H1=>ta σ H1 fun x H2=>nDIn true x y H2 Q):tDNotIn tb ta σ H Q:=h
theorem iE {neg:Bool} {kvs:List (Key×V)} {k:Int} (e:H a=some (.dK kvs)) (h:Q (.bl (if neg then !(valV kvs (.inl k)).isSome else (valV kvs (.inl k)).isSome)) H):nDIn neg (.ref a) (.int k) H Q:=⟨a,_,rfl,.inl ⟨kvs,.inl k,.inl e,rfl,rfl⟩,h⟩
theorem lZ (h:tv σ H fun v H1=>ta σ H1 fun x H2=>tb σ H2 fun y H3=>nDPut x y v H3 fun H4=>Dn.nx σ H4):sDPut ta tb tv Dn σ H:=h
theorem jX {QH:Hp→Prop} {kvs:List (Key×V)} {k:Str} (e:H a=some (.dK kvs)) (hl:kvs.length≤1000) (h:QH (upd H a (.dK (putK kvs (.inr k) x)))):nDPut (.ref a) (.str k) x H QH:=⟨a,_,rfl,.inl ⟨kvs,.inr k,e,rfl,small1000 hl,rfl⟩,h⟩
theorem de {QH:Hp→Prop} {kvs:List (Key×V)} {k:Int} (e:H a=some (.dK kvs)) (hl:kvs.length<sizeLine) (h:QH (upd H a (.dK (putK kvs (.inl k) x)))):nDPut (.ref a) (.int k) x H QH:=⟨a,_,rfl,.inl ⟨kvs,.inl k,e,rfl,hl,rfl⟩,h⟩
theorem fY (h:∀ p H2,Same H H2→H p=none→H2 p=some (.dK [])→Q (.ref p) H2):tDNewK σ H Q:=fun p hp=>h p _ (am hp _) hp ac
variable {r:V→List V→Hp→VK→Prop} {T:String}
theorem pE {to:TE} (h:to σ H fun x H1=>nBM K T r tas x σ H1 Q):tBM K T r to tas σ H Q:=h
theorem oq {to:TE} (h:to σ H fun x H1=>nBM0 K T r x H1 Q):tBM0 K T r to σ H Q:=h
theorem oo (e:H p=some (.lst xs)) (h:tas σ H fun ys H2=>r (.ref p) ys H2 Q):nBM K "list" r tas (.ref p) σ H Q:=⟨.inl ⟨rfl,_,.of e⟩,h⟩
theorem mi (e:H p=some (.lst xs)) (h:r (.ref p) [] H Q):nBM0 K "list" r (.ref p) H Q:=⟨.inl ⟨rfl,_,.of e⟩,h⟩
theorem bi (e:H p=some (.lst xs)) (hl:xs.length<sizeLine) (h:Q .non (upd H p (.lst (xs++[y])))):rAppend (.ref p) [y] H Q:=⟨p,xs,y,rfl,rfl,e,hl,h⟩
theorem ff {b:Addr} (e:H p=some (.lst xs)) (e2:H b=some (.lst ys)) (hl:xs.length+ys.length≤sizeLine) (h:Q .non (upd H p (.lst (xs++ys)))):rExtend (.ref p) [.ref b] H Q:=⟨p,b,xs,ys,rfl,rfl,e,e2,hl,h⟩
theorem om {b:Addr} (e:H p=some (.lst xs)) (e2:H b=some (.lst ys)) (hl:xs.length+ys.length≤sizeLine) (h:∀ l H2,Same H H2→H l=none→H2 l=some (.lst (xs++ys))→Q (.ref l) H2):rCat (.ref p) (.ref b) H Q :=
 ⟨p,b,xs,ys,rfl,rfl,e,e2,hl,fun l hl=>h l _ (am hl _) hl ac⟩
theorem eF {A B:Prop} {b:Bool} (e:b=true) (h:A):if b=true then A else B:=by rw [xCg e];exact h
theorem bB {A B:Prop} {b:Bool} (e:b=false) (h:B):if b=true then A else B:=by rw [e,xCf xAy];exact h
end
structure Wk (J:It) (P:Hp→Prop) (n:Nat) (Y:Nat→Hp→V→Hp→Prop):Prop where
 go:∀ i H,P H→i<n→J.go i H
 yld:∀ i H x H',P H→i<n→J.yld i H x H'→Y i H x H'
 stop:∀ H,P H→J.stop n H
theorem bn {K:xFr} {a:Addr} {xs:List V}:Wk (Itl K a) (fun H=>SqL K H a xs) xs.length (fun i H x H'=>H'=H∧xs[i]?=some x) :=
 ⟨fun i H p h=>⟨xs,xs[i],p,by simp [h]⟩,fun i H x H' p h y=>⟨y.1,y.2 xs p⟩,fun H p=>⟨xs,p,xAg _⟩⟩
theorem bM {lo:Int} {n:Nat}:Wk (Itr lo n) (fun _=>True) n (fun i H x H'=>H'=H∧x = .int (lo+i)) :=
 ⟨fun i H _ h=>h,fun i H x H' _ h y=>y,fun H _=>xAg _⟩
section
variable {J:It} {P:Hp→Prop} {n:Nat} {Y:Nat→Hp→V→Hp→Prop} {g:TG} {tb:TS} {Dn:Ends} {σ:St} {H:Hp}
def nFor (J:It) (g:TG) (tb:TS) (Dn:Ends) (σ:St) (H:Hp):Prop:=∃ W:Nat→Nat→St→Hp→Prop,(∃ m,W 0 m σ H)∧∀ i m σ H,W i m σ H →
 (J.stop i H∧Dn.nx σ H)∨(J.go i H∧∃ N:St→Hp→Prop,(∀ σ' H',N σ' H'→∃ m',m'<m∧W (i+1) m' σ' H')∧∀ x H',J.yld i H x H'→g x σ H' fun σ2 H2=>tb { Dn with nx:=N,ct:=N,bk:=Dn.nx } σ2 H2)
theorem oi {wi:TI} (h:wi σ H fun J H1=>nFor J g tb Dn σ H1):tFor wi g tb Dn σ H:=h
theorem nz (wk:Wk J P n Y) (Pv:Nat→St→Hp→Prop) (h0:Pv 0 σ H) (hP:∀ i σ H,i≤n→Pv i σ H→P H)
  (hs:∀ i σ H x H',i<n→Pv i σ H→Y i H x H'→g x σ H' fun σ2 H2=>tb { Dn with nx:=Pv (i+1),ct:=Pv (i+1),bk:=Dn.nx } σ2 H2) (hd:∀ σ H,Pv n σ H→Dn.nx σ H):nFor J g tb Dn σ H:=by
 refine ⟨fun i m σ H=>m=n - i∧i≤n∧Pv i σ H,⟨n,by simp,xBn _,h0⟩,?_⟩
 rintro i m σ H ⟨rfl,hi,p⟩
 have q:=hP i σ H hi p
 by_cases hlt:i<n
 ·exact .inr ⟨wk.go i H q hlt,Pv (i+1),fun σ' H' p'=>⟨n - (i+1),by omega,rfl,hlt,p'⟩,fun x H' y=>hs i σ H x H' hlt p (wk.yld i H x H' q hlt y)⟩
 ·have e:i=n:=by omega
  subst e
  exact .inl ⟨wk.stop H q,hd σ H p⟩
def nLC (J:It) (m:Nat) (cs:St) (g:TG) (tc:TT) (te:TE) (H:Hp) (Q:VK):Prop:=∀ D,H D=none→∃ W:Nat→Nat→List V→Hp→Prop,(∃ k,W 0 k [] (upd H D (.lst [])))∧∀ i k ys H,W i k ys H→H D=some (.lst ys) ∧
 ((J.stop i H∧Q (.ref D) H)∨(J.go i H∧ys.length<sizeLine∧∃ N:List V→Hp→Prop,(∀ ys' H',N ys' H'→∃ k',k'<k∧W (i+1) k' ys' H') ∧
  ∀ x H',J.yld i H x H'→g x (List.replicate m none++cs) H' fun σ2 H2=>σ2.drop m=cs∧σ2.length=m+cs.length ∧
   tc σ2 H2 fun b H3=>H3 D=some (.lst ys)∧if b=true then te σ2 H3 fun v H4=>H4 D=some (.lst ys)∧N (ys++[v]) (upd H4 D (.lst (ys++[v]))) else N ys H3))
theorem pr {wi:TI} {m:Nat} {fr:List Nat} {tc:TT} {te:TE} {Q:VK} (h:wi σ H fun J H1=>nLC J m (capV σ fr) g tc te H1 Q):tLCg wi m fr g tc te σ H Q:=by
 have e:(capV σ fr).length=fr.length:=by unfold capV;rw [xAa]
 unfold nLC at h
 rw [e] at h
 exact h
theorem cF {m:Nat} {cs:St} {tc:TT} {te:TE} {Q:VK} (wk:Wk J P n Y) (Pv:Addr→Nat→List V→Hp→Prop) (h0:∀ D,H D=none→Pv D 0 [] (upd H D (.lst [])))
  (hP:∀ D i ys H,i≤n→Pv D i ys H→H D=some (.lst ys)∧ys.length<sizeLine∧P H)
  (hs:∀ D i ys H x H',i<n→Pv D i ys H→Y i H x H'→g x (List.replicate m none++cs) H' fun σ2 H2=>σ2.drop m=cs∧σ2.length=m+cs.length ∧
   tc σ2 H2 fun b H3=>H3 D=some (.lst ys)∧if b=true then te σ2 H3 fun v H4=>H4 D=some (.lst ys)∧Pv D (i+1) (ys++[v]) (upd H4 D (.lst (ys++[v]))) else Pv D (i+1) ys H3)
  (hd:∀ D ys H,Pv D n ys H→Q (.ref D) H):nLC J m cs g tc te H Q:=by
 intro D hD
 refine ⟨fun i k ys H=>k=n - i∧i≤n∧Pv D i ys H,⟨n,by simp,xBn _,h0 D hD⟩,?_⟩
 rintro i k ys H ⟨rfl,hi,p⟩
 obtain ⟨q1,q2,q3⟩:=hP D i ys H hi p
 refine ⟨q1,?_⟩
 by_cases hlt:i<n
 ·exact .inr ⟨wk.go i H q3 hlt,q2,Pv D (i+1),fun ys' H' p'=>⟨n - (i+1),by omega,rfl,hlt,p'⟩,fun x H' y=>hs D i ys H x H' hlt p (wk.yld i H x H' q3 hlt y)⟩
 ·have e:i=n:=by omega
  subst e
  exact .inl ⟨wk.stop H q3,hd D ys H p⟩
variable {K:xFr} {tl:TE} {tas:TA} {R:It→Hp→Prop} {a:Addr} {xs:List V}
def nIterL (K:xFr) (x:V) (H:Hp) (R:It→Hp→Prop):Prop:=∃ a,x = .ref a∧(∃ xs,SqL K H a xs)∧R (Itl K a) H
def nIterR (vs:List V) (H:Hp) (R:It→Hp→Prop):Prop:=∃ j:Int,vs=[.int j]∧-(2 ^ 62)≤j∧j<2 ^ 62∧R (Itr 0 j.toNat) H
theorem pB (h:tl σ H fun x H1=>nIterL K x H1 R):iList K tl σ H R:=h
theorem pA (h:tas σ H fun vs H1=>nIterR vs H1 R):iRng1 tas σ H R:=h
theorem jU (e:H a=some (.lst xs)) (h:R (Itl K a) H):nIterL K (.ref a) H R:=⟨a,rfl,⟨xs,.of e⟩,h⟩
theorem db {j:Int} (h1:-(2 ^ 62)≤j) (h2:j<2 ^ 62) (h:R (Itr 0 j.toNat) H):nIterR [.int j] H R:=⟨j,rfl,h1,h2,h⟩
end
end L2
namespace L2
open PySem PySem.Spec PyProof.Rows
section
variable {prog:Program} {w:World} {A:Around} {E:Value→Shared→Prop} {s:Shared}
theorem dP {it l:Addr} {items:Array Value} (hne:l≠it):∀ (n i:Nat) (s:Shared) (Q:List Value→Shared→Prop),s.heap.IsListIter it l i→s.heap.IsList l items→i+n≤items.size →
  (∀ h',h'.IsListIter it l (i+n)→Heap.SameBut it s.heap h'→Q ((items.toList.drop i).take n) { s with heap:=h' })→wpAny (model prog w) A (draw (.ref it) n) Q E s
 | 0,i,s,Q,hit,_,_,hQ=>by
  change wpAny _ _ (pure []) Q E s
  exact xAe (by simpa using hQ s.heap hit (Heap.SameBut.refl ..))
 | n+1,i,s,Q,hit,hl,hle,hQ=>by
  have lt:i<items.size:=by omega
  change wpAny _ _ (pyNext (.ref it) >>= _) Q E s
  refine xAd (wpAny_pyNext_list_item hit hl (x:=items[i]) (by simp [lt]) fun h1 it1 sb1=>?_)
  refine xAd (wpAny_holding (dP hne n (i+1) _ _ it1 (hl.at fun o e=>(sb1.2 l hne).trans e) (by omega) fun h2 it2 sb2=>xAe ?_))
  have hd:items.toList.drop i=items[i]::items.toList.drop (i+1):=by simp [xB2,lt]
  have:=hQ h2 (by rw [show i+(n+1)=i+1+n by omega];exact it2) (sb1.trans sb2)
  rw [hd,List.take_succ_cons] at this
  exact this
theorem eD {l:Addr} {items:Array Value} {targets:List (Bool×(Value→Sem Unit))} {Q:Unit→Shared→Prop} (hh:A.handled=none) (hl:s.heap.IsList l items)
  (hn:targets.length=items.size) (hstar:targets.findIdx? (·.1)=none)
  (h:∀ h',Heap.ExtBut s.heap.objs.size s.heap h'→wpAny (model prog w) A (assignInOrder (targets.map (·.2)) items.toList) Q E { s with heap:=h' }) :
  wpAny (model prog w) A (unpack (.ref l) targets) Q E s:=by
 unfold unpack
 rw [hn,hstar]
 refine xAd (wpAny_holding ?_)
 have lt:l≠s.heap.objs.size:=by obtain ⟨o,ho,_⟩:=hl;exact xA0 (xA1 ho)
 unfold unpackItems
 refine xAd ?_
 unfold notIterableAtAll
 refine xAd (wpAny_specialOf hl.typeIs PySem.F.slot_list_iter.lookup ?_)
 refine xAe ?_
 simp only [xAz,if_false]
 refine xAd (wpAny_holding (wpAny_pyIter_list hl ?_))
 refine xAd (wpAny_holding (dP lt items.size 0 _ _ ⟨_,xAl _ rfl,rfl,rfl⟩ (hl.push _) (by omega) fun h1 it1 sb1=>?_))
 have hall:List.take items.size (List.drop 0 items.toList)=items.toList:=by
  rw [List.drop_zero]
  exact List.take_of_length_le (by simp)
 rw [hall,xCf (by simp)]
 have hl1:h1.IsList l items:=(hl.push _).at fun o e=>(sb1.2 l lt).trans e
 refine xAd (wpAny_holding (wpAny_pyNext_list_end hh it1 hl1 (by simp) fun h2 e2=>?_))
 simp only [Option.isSome_none,xAz,if_false]
 exact xAe (h h2 fun b o hb e=>e2 b o hb (sb1.extBut b o hb (xAf _ e)))
end
section
variable {X:Cx} {pos:Pos}
def gLst (K:xFr) (n:Nat) (t:TGs):TG:=fun v σ H Q=>∃ a xs,v = .ref a∧SqL K H a xs∧xs.length=n∧t xs σ H Q
theorem mG {es:List Expr} {k:Nat} {t:TGs} {n:Nat} (hc:X.calm=true) (h:PGs X es t)
  (hn:(assignEach es X.env).length=n:=by rfl) (hst:(assignEach es X.env).findIdx? (·.1)=none:=by rfl):PG X (.Tuple es k pos) (gLst X.K n t):=by
 intro pins s σ H v u Q I r hw
 obtain ⟨a,xs,e1,hq,hl,hw⟩:=hw
 subst e1
 cases r
 obtain ⟨its,rv,ht,hz⟩:=I.list hq
 rw [assign_Tuple]
 refine xAd (wpAny_standAt (eD (I.ok.hd hc) ht.isList (by simp [hn,← hl,rv.length]) hst fun h' hx=>?_))
 have I1:Inv X pins σ H { s with heap:=h' }:=I.kept (t':=s.toks) fun b o e=>hx b o (xA0 (xA1 e)) e
 exact h pins _ σ H xs _ Q I1 (by simpa using rv) hw
theorem fX {K:xFr} {n:Nat} {tg:TGs} {p:Addr} {xs:List V} {σ:St} {H:Hp} {QS:St→Hp→Prop} (e:H p=some (.lst xs)) (hn:xs.length=n) (h:tg xs σ H QS):gLst K n tg (.ref p) σ H QS:=⟨p,xs,rfl,.of e,hn,h⟩
end
end L2
namespace L2
open PySem PySem.Spec PyProof.Rows
section
variable {X:Cx} {a b:Expr} {es:List Expr} {ta tb:TE} {tas:TA} {pos p2:Pos} {k:Nat}
def tL0 (K:xFr) (neg:Bool) (ta:TE):TE:=fun σ H Q=>ta σ H fun x H1=>∃ l xs,x = .ref l∧SqL K H1 l xs∧Q (.bl (if neg then !xs.isEmpty else xs.isEmpty)) H1
theorem mU (hu:X.A.units<cLine) (ha:PE X a ta):PC X .NotEq a (.List [] p2) (tL0 X.K true ta):=by
 intro pins s σ H Q I h
 refine thn (ha pins s σ H _ I h) fun v s1 ⟨x,H1,I1,r1,l,xs,e,hq,q⟩=>?_
 subst e
 cases r1
 refine wpAny_List_spliced (Calls.spliced_nil ⟨xBn _,?_⟩)
 obtain ⟨its,rv,pl,hz⟩:=I1.list hq
 have I3:Inv X pins σ H1 { s1 with heap:=s1.heap.push { cls:=.type "list",data:=.seq ([]:List Value).toArray } }:=I1.kept (t':=s1.toks) fun b o e=>xAf _ e
 have p1:=(pl.isList.push { cls:=.type "list",data:=.seq ([]:List Value).toArray })
 have p2:(s1.heap.push { cls:=.type "list",data:=.seq ([]:List Value).toArray }).IsList s1.heap.objs.size ([]:List Value).toArray:=⟨_,xAl _ rfl,rfl,_,rfl⟩
 cases xs with
 | nil =>
  have e:its=[]:=rv.nil_iff.mpr rfl
  subst e
  exact (SeqAt.RcNeAt.lists (s:={ s1 with heap:=s1.heap.push { cls:=.type "list",data:=.seq ([]:List Value).toArray } }) (e:=fun _=>true) p1 p2 rfl hu (fun j h1=>by simp at h1)) X.prog X.w X.xe _ (ak I3 q rfl)
 | cons y ys =>
  have hl:=rv.length
  exact (SeqAt.RcNeAt.lists_lengths (s:={ s1 with heap:=s1.heap.push { cls:=.type "list",data:=.seq ([]:List Value).toArray } }) p1 p2 (by rw [xAp,xAp,← hl];rfl) hu) X.prog X.w X.xe _ (ak I3 q rfl)
def nL0 (K:xFr) (neg:Bool) (x:V) (H:Hp) (Q:VK):Prop:=∃ l xs,x = .ref l∧SqL K H l xs∧Q (.bl (if neg then !xs.isEmpty else xs.isEmpty)) H
theorem pG {K:xFr} {neg:Bool} {σ:St} {H:Hp} {Q:VK} (h:ta σ H fun x H1=>nL0 K neg x H1 Q):tL0 K neg ta σ H Q:=h
theorem ow {K:xFr} {l:Addr} {xs:List V} {H:Hp} {Q:VK} (e:H l=some (.lst xs)) (h:Q (.bl (!xs.isEmpty)) H):nL0 K true (.ref l) H Q:=⟨l,xs,rfl,.of e,h⟩
theorem ou {K:xFr} {l:Addr} {xs:List V} {H:Hp} {Q:VK} (e:H l=some (.lst xs)) (h:Q (.bl xs.isEmpty) H):nL0 K false (.ref l) H Q:=⟨l,xs,rfl,.of e,h⟩
theorem mV (hu:X.A.units<cLine) (ha:PE X a ta):PC X .Eq a (.List [] p2) (tL0 X.K false ta):=by
 intro pins s σ H Q I h
 refine thn (ha pins s σ H _ I h) fun v s1 ⟨x,H1,I1,r1,l,xs,e,hq,q⟩=>?_
 subst e
 cases r1
 refine wpAny_List_spliced (Calls.spliced_nil ⟨xBn _,?_⟩)
 obtain ⟨its,rv,pl,hz⟩:=I1.list hq
 have I3:Inv X pins σ H1 { s1 with heap:=s1.heap.push { cls:=.type "list",data:=.seq ([]:List Value).toArray } }:=I1.kept (t':=s1.toks) fun b o e=>xAf _ e
 have p1:=(pl.isList.push { cls:=.type "list",data:=.seq ([]:List Value).toArray })
 have p2:(s1.heap.push { cls:=.type "list",data:=.seq ([]:List Value).toArray }).IsList s1.heap.objs.size ([]:List Value).toArray:=⟨_,xAl _ rfl,rfl,_,rfl⟩
 cases xs with
 | nil =>
  have e:its=[]:=rv.nil_iff.mpr rfl
  subst e
  exact SeqAt.eq_listAt (s:={ s1 with heap:=s1.heap.push { cls:=.type "list",data:=.seq ([]:List Value).toArray } }) (e:=fun _=>true) p1 p2 rfl hu (fun j h1=>by simp at h1) (ak I3 q rfl)
 | cons y ys =>
  have hl:=rv.length
  exact SeqAt.eq_list_lengthsAt (s:={ s1 with heap:=s1.heap.push { cls:=.type "list",data:=.seq ([]:List Value).toArray } }) p1 p2 (by rw [xAp,xAp,← hl];rfl) hu (ak I3 q rfl)
end
section
variable {P:Program} {w:World} {K:xFr} {mg:Str→Option Value} {base:Heap}
structure Cal (P:Program) (w:World) (K:xFr) (mg:Str→Option Value) (base:Heap) (x:Str) (k:Nat) (ps:List Str) (sp:Sp):Prop where
 ex:∃ (f:Addr) (fd:FuncData),FnOk P w K mg base CX0 k f fd ps sp∧Binds K fd ps []∧mg x=some (.ref f)∧PySem.W.keepIn K (.ref f)=true
structure Dn (K:xFr) (mg:Str→Option Value) (x:Str) (st:Stmt) (ps:List Str):Prop where
 ex:∃ (f:Addr) (fd:FuncData),Fun K x x st f fd∧Binds K fd ps []∧mg x=some (.ref f)
theorem Dn.ok {x:Str} {st:Stmt} {sc:Scope} {N ps:List Str} {k:Nat} {sp:Sp} (F:Dn K mg x st ps) (S:FnScope N ps sc) (hsc:defScope st=sc) (len:∀ vs H Q E,sp vs H Q E→vs.length=ps.length)
  (hbody:∀ (f:Addr) (cdv:Value) (A:Around) (outer:List Env) (s:Shared) (H:Hp) (vs:List V) (Q:VK) (E:XK),Room k (A.deeper (envOfC x sc s.heap.objs.size f cdv))→sp vs H Q E →
   ∃ t,PSs (cxOf CX0 P w K mg base N x sc f cdv A outer s H E).nox (defBody st) t∧t { nx:=fun _ H'=>Q .non H',rt:=Q } (start N vs) H):Cal P w K mg base x (k+1) ps sp:=by
 subst hsc
 obtain ⟨f,fd,F1,F2,F3⟩:=F.ex
 exact ⟨f,fd,F1.ok S len (fun cdv A outer s H vs Q E hr h=>hbody f cdv A outer s H vs Q E hr h),F2,F3,F1.kp⟩
end
section
variable {X:Cx} {x:Str} {k k':Nat} {ps:List Str} {sp:Sp} {p pos:Pos} {e:Expr} {es:List Expr} {t:TA}
theorem mR (c:Cal X.prog X.w X.K X.mg X.base x k ps sp) (hr:Room k' X.A) (hg:Gl X x) (ha:PA X (e::es) t) (hk:k≤k':=by omega)
  (hs:starEach (e::es) X.env=(false,eval e X.env)::starEach es X.env:=by rfl) (hplain:(backTo pos (starEach es X.env)).any (·.1)=false:=by rfl) (hd:(x == ("__debug__":Str))=false:=by decide):PE X (.Call (.Name x p) (e::es) [] pos) (tCall sp [] E0 t):=by
 obtain ⟨f,fd,h1,h2,h3,h4⟩:=c.ex
 exact kt h1 (hr.mono hk) hg h3 h4 h2 .nil pass0 ha (hdb:=hd) (he:=hs) (hpl:=hplain)
end
end L2
namespace L2
open PySem PySem.Spec PyProof.Rows
def noStar:Expr→Bool
 | .Starred _ _=>false
 | _=>true
theorem av {e:Expr} {es:List Expr} {env:Env} (h:noStar e=true):starEach (e::es) env=(false,eval e env)::starEach es env:=by
 cases e <;> first | rfl | cases h
theorem bD {pos:Pos} {env:Env}:∀ {es:List Expr},es.all noStar=true→(backTo pos (starEach es env)).any (·.1)=false
 | [],_=>rfl
 | e::es,h=>by
  rw [List.all_cons,Bool.and_eq_true] at h
  rw [av h.1]
  change (false || (backTo pos (starEach es env)).any (·.1))=false
  rw [bD h.2]
  rfl
def noComp:Expr→Bool
 | .ListComp ..=>false
 | .SetComp ..=>false
 | .DictComp ..=>false
 | _=>true
theorem dg {e:Expr} {t:Option Expr} {l:Nat} {env:Env} (h:noComp e=true):swapsWith e t l env=pure false:=by
 cases e <;> first | rfl | cases h
def noCall:Expr→Bool
 | .Call ..=>false
 | _=>true
theorem eN {o:Expr} {f:Str} {env:Env} {x:Sem Value} (h:noCall o=true):attributeBase o f env x=x:=by
 cases o <;> first | rfl | cases h
section
variable {X:Cx} {e o:Expr} {es:List Expr} {te to:TE} {t:TA} {pos p apos cpos:Pos} {x name:Str} {id T:String} {i:Nat} {r:List V→Hp→VK→Prop}
theorem pJ (ha:PE X e te) (hr:PA X es t) (h:noStar e=true:=by rfl):PA X (e::es) (tCons te t):=ky ha hr (av h)
theorem oP (hc:CallR X (.builtin id) r) (hg:Gl X x) (hm:X.mg x=none) (hv:bootBuiltins x=some (.builtin id)) (ha:PA X (e::es) t) (h:(e::es).all noStar=true:=by rfl) (hn:x≠"__name__":=by decide) (hdb:(x == ("__debug__":Str))=false:=by decide):PE X (.Call (.Name x p) (e::es) [] pos) (tCB r t):=by
 rw [List.all_cons,Bool.and_eq_true] at h
 exact i5 hc hg hm hv ha hn hdb (av h.1) (bD h.2)
theorem oO (hc:CallR X (.type T) r) (hg:Gl X x) (hm:X.mg x=none) (hv:bootBuiltins x=some (.type T)) (ha:PA X (e::es) t) (h:(e::es).all noStar=true:=by rfl) (hn:x≠"__name__":=by decide) (hdb:(x == ("__debug__":Str))=false:=by decide):PE X (.Call (.Name x p) (e::es) [] pos) (tCB r t):=by
 rw [List.all_cons,Bool.and_eq_true] at h
 exact hX hc hg hm hv ha hn hdb (av h.1) (bD h.2)
variable {k k':Nat} {ps:List Str} {sp:Sp}
theorem oM (c:Cal X.prog X.w X.K X.mg X.base x k ps sp) (hr:Room k' X.A) (hg:Gl X x) (ha:PA X (e::es) t) (hk:k≤k':=by omega) (h:(e::es).all noStar=true:=by rfl) (hd:(x == ("__debug__":Str))=false:=by decide):PE X (.Call (.Name x p) (e::es) [] pos) (tCall sp [] E0 t):=by
 rw [List.all_cons,Bool.and_eq_true] at h
 exact mR c hr hg ha hk (av h.1) (bD h.2) hd
theorem oE {pos':Pos} (hN:X.N.Nodup) (hi:X.N[i]?=some x) (hx:Loc X.env.scope x) (he:PE X e te) (h:noComp e=true:=by rfl) (hf:X.fn x=true∨X.env.scope.names.lookup x=some .local:=by first | exact .inl rfl | exact .inr rfl | assumption) :
  PS X (.Assign [.Name x pos'] e pos) (tAsg te (gName i)):=mw hN hi hx he (dg h) hf
theorem oG (he:PE X e te) (h:noComp e=true:=by rfl):PS X (.Expr e pos) (tDrop te):=j9 he (dg h)
variable {rm:V→List V→Hp→VK→Prop}
theorem pI (pa:PlainAttrs T) (slot:Slot T name id) (hty:typeOf (.builtin id)=pure (.type "method_descriptor")) (hm:MtR X id rm) (ho:PE X o to) (ha:PA X [e] t) (h:noCall o=true:=by rfl) (h2:noStar e=true:=by rfl) (hline:(apos.endLine == cpos.line)=true:=by rfl) :
  PE X (.Call (.Attribute o name apos) [e] [] cpos) (tBM X.K T rm to t) :=
 oQ pa slot hty hm ho ha (eN h) (by rw [av h2];rfl) hline (av h2) rfl
theorem oJ (pa:PlainAttrs T) (slot:Slot T name id) (hty:typeOf (.builtin id)=pure (.type "method_descriptor")) (hm:MtR X id rm) (ho:PE X o to) (h:noCall o=true:=by rfl) (hline:(apos.endLine == cpos.line)=true:=by rfl) :
  PE X (.Call (.Attribute o name apos) [] [] cpos) (tBM0 X.K T rm to):=mS pa slot hty hm ho (eN h) hline
theorem oH {tg:Expr} {ta:TA} (hg:Gl X "range") (hm:X.mg "range"=none) (ha:PA X [e] ta) (h:noStar e=true:=by rfl):PI X tg (.Call (.Name "range" p) [e] [] pos) (iRng1 ta):=hW hg hm ha (av h)
end
end L2
namespace L2
open PySem PySem.Spec PyProof.Rows
theorem Same.upd_new {H H1:Hp} {a:Addr} {o:HO} (s:Same H H1) (h:H a=none):Same H (upd H1 a o):=fun b u e=>by
 rw [ag (aF e h)]
 exact s b u e
end L2
namespace L2
open PySem PySem.Spec PyProof.Rows
structure QE (X:Cx) (e:Expr) (t:TE):Prop where
 h:PE X e t
structure QT (X:Cx) (e:Expr) (t:TT):Prop where
 h:PT X e t
structure QW (X:Cx) (e:Expr) (t:TT):Prop where
 h:PW X e t
structure QC (X:Cx) (op:CmpOp) (a b:Expr) (t:TE):Prop where
 h:PC X op a b t
structure QA (X:Cx) (es:List Expr) (t:TA):Prop where
 h:PA X es t
structure QS (X:Cx) (st:Stmt) (t:TS):Prop where
 h:PS X st t
structure QSs (X:Cx) (st:List Stmt) (t:TS):Prop where
 h:PSs X st t
structure QG (X:Cx) (e:Expr) (t:TG):Prop where
 h:PG X e t
structure QGs (X:Cx) (es:List Expr) (t:TGs):Prop where
 h:PGs X es t
structure QI (X:Cx) (tg iter:Expr) (wi:TI):Prop where
 h:PI X tg iter wi
structure QO (X:Cx) (e:Option Expr) (t:TO):Prop where
 h:PO X e t
structure QPs (X:Cx) (pos:Pos) (ks:List (Option Expr)) (vs:List Expr) (trs:List (TE×TE)):Prop where
 h:PPs X pos ks vs trs
structure QTs (X:Cx) (ifs:List Expr) (t:TT):Prop where
 h:PTs X ifs t
section
variable {X:Cx} {e a b c o:Expr} {es:List Expr} {te ta tb tc to:TE} {t u:TA} {pos p p2 apos cpos px:Pos} {x y name:Str} {id T:String} {i j k:Nat} {st:Stmt} {sts:List Stmt} {ts us:TS} {tt tt':TT}
theorem qv (i:Nat) (hN:X.N[i]?=some x:=by rfl) (hv:Vis X.env.scope x:=by first | exact Or.inl rfl | exact Or.inr (Or.inl rfl) | exact Or.inr (Or.inr rfl)) (hd:(x == ("__debug__":Str))=false:=by decide)
  (hcd:(x == ("__classdict__":Str))=false:=by decide):QE X (.Name x pos) (tVar i):=⟨mH hN hv hd hcd⟩
theorem ad {n:Int} {j:Nat}:QE X (.Constant (.int n) j pos) (tC (.int n)):=⟨mP⟩
theorem cA {n:Bool} {j:Nat}:QE X (.Constant (.bool n) j pos) (tC (.bl n)):=⟨oR⟩
theorem ck {j:Nat}:QE X (.Constant .none j pos) (tC .non):=⟨mM⟩
theorem ah {n:Str} {j:Nat}:QE X (.Constant (.str n) j pos) (tC (.str n)):=⟨mJ⟩
theorem bW {v:V} {w:Value} (hg:Gl X x) (hm:X.mg x=none) (hv:bootBuiltins x=some w) (r:RelV v w) (hn:x≠"__name__":=by decide) (hd:(x == ("__debug__":Str))=false:=by decide):QE X (.Name x pos) (tC v):=⟨ku hg hm hv r hn hd⟩
theorem aj {op:Operator} {r:R2} (ho:OpR X (binaryOp op) r) (ha:QE X a ta) (hb:QE X b tb):QE X (.BinOp a op b pos) (tOp r ta tb):=⟨oI ho ha.h hb.h⟩
theorem br {op:CmpOp} {r:R2} (ho:OpR X (compareOp op) r) (ha:QE X a ta) (hb:QE X b tb) (hm:behindInMarks op b=false):QE X (.Compare a [op] [b] pos) (tOp r ta tb):=⟨kr ho ha.h hb.h hm⟩
theorem aw {op:CmpOp} {r:R2} (ho:OpR X (compareOp op) r) (ha:QE X a ta) (hb:QE X b tb) (hm:behindInMarks op b=false):QT X (.Compare a [op] [b] pos) (tTest (tOp r ta tb)):=⟨j6 ho ha.h hb.h hm⟩
theorem dw {op:CmpOp} (h:QC X op a b te) (h1:behindInMarks op b=false:=by first | exact nobehind _ (by decide) (by decide) | rfl):QT X (.Compare a [op] [b] pos) (tB te):=⟨mv h.h h1⟩
theorem ci (h:QE X e te) (he:∀ whole,isTrue e X.env whole=(do let v ← whole;standAt e.pos;holding [v] (truthy v)):=by intro _;rfl):QT X e (tB te):=⟨mr h.h he⟩
theorem eG (h:QT X a tt):QT X (.UnaryOp .Not a pos) (tNot tt):=⟨mt h.h⟩
theorem cN (h:QT X a tt):QW X (.BoolOp .Or [a] pos) tt:=⟨mq h.h⟩
theorem dv {rest:List Expr} (ha:QT X a tt) (hb:QW X (.BoolOp .Or (b::rest) pos) tt'):QW X (.BoolOp .Or (a::b::rest) pos) (tOr tt tt'):=⟨oB ha.h hb.h⟩
theorem QW.pt (h:QW X e tt):QT X e tt:=⟨h.h.pt⟩
theorem dA {op:BoolOp} (h:QE X a te):QE X (.BoolOp op [a] pos) te:=⟨mK h.h⟩
theorem cP {rest:List Expr} (ha:QE X a ta) (hb:QE X (.BoolOp .And (b::rest) pos) tb):QE X (.BoolOp .And (a::b::rest) pos) (tAndV ta tb):=⟨mT ha.h hb.h⟩
theorem mm (h:QE X a ta):QE X (.UnaryOp .Not a pos) (tNotV ta):=⟨mL h.h⟩
theorem ab:QA X [] tNil:=⟨mW⟩
theorem ae (ha:QE X e te) (hr:QA X es t) (h:noStar e=true:=by rfl):QA X (e::es) (tCons te t):=⟨pJ ha.h hr.h h⟩
theorem bm {k:Nat} (h:QA X es t):QE X (.Tuple es k pos) (tTup t):=⟨mI h.h⟩
theorem aJ (h:QA X es t):QE X (.List es pos) (tLst t):=⟨mN h.h⟩
theorem j0:QPs X pos [] [] []:=⟨kb⟩
theorem fh {kx v:Expr} {ks:List (Option Expr)} {vs:List Expr} {tk tv:TE} {trs:List (TE×TE)} (hk:QE X kx tk) (hv:QE X v tv) (hr:QPs X pos ks vs trs):QPs X pos (some kx::ks) (v::vs) ((tk,tv)::trs):=⟨iT hk.h hv.h hr.h⟩
theorem j3 {ks:List (Option Expr)} {vs:List Expr} {trs:List (TE×TE)} (h:QPs X pos ks vs trs) (hall:ks.all (·.isSome)=true) (hl:ks.length=vs.length) (h0:ks≠[]) (h15:ks.length≤15):QE X (.Dict ks vs pos) (tDisp trs):=⟨kn h.h hall hl h0 h15⟩
theorem dD:QE X (.Dict [] [] pos) tDNewK:=⟨i4⟩
theorem eI:QO X none tNoPart:=⟨ke⟩
theorem bI (h:QE X e te):QO X (some e) (tPart te):=⟨kc h.h⟩
theorem bT {lo hi:Option Expr} {tl th:TO} {r:V→Option Int→Option Int→Hp→VK→Prop} (hr:SlR X r) (he:QE X e te) (hl:QO X lo tl) (hu:QO X hi th):QE X (.Subscript e (.Slice lo hi none p2) pos) (tSl r te tl th):=⟨iY hr he.h hl.h hu.h⟩
def noSlice:Expr→Bool
 | .Slice ..=>false
 | _=>true
theorem fj (h:noSlice b=true):PlainIx b:=fun o i=>by cases b <;> first | rfl | cases h
theorem aE {r:R2} (hr:IxR X r) (ha:QE X a ta) (hb:QE X b tb) (h:noSlice b=true:=by rfl):QE X (.Subscript a b pos) (tOp r ta tb):=⟨oK hr ha.h hb.h (fj h)⟩
theorem ap (hu:X.A.units+1<cLine) (ho:QE X o ta) (hi:QE X b tb) (h:noSlice b=true:=by rfl):QE X (.Subscript o b pos) (tDGet ta tb):=⟨kq hu ho.h hi.h (fj h)⟩
theorem d8 (hu:X.A.units+1<cLine) (hi:QE X b tb) (ho:QE X o ta):QC X .NotIn b o (tDNotIn tb ta):=⟨hZ hu hi.h ho.h⟩
theorem mn (hu:X.A.units<cLine) (ha:QE X a ta):QC X .NotEq a (.List [] p2) (tL0 X.K true ta):=⟨mU hu ha.h⟩
theorem iJ (hu:X.A.units<cLine) (ha:QE X a ta):QC X .Eq a (.List [] p2) (tL0 X.K false ta):=⟨mV hu ha.h⟩
variable {r:List V→Hp→VK→Prop} {rm:V→List V→Hp→VK→Prop} {ps:List Str} {sp:Sp} {k':Nat}
theorem aI (hc:CallR X (.builtin id) r) (hg:Gl X x) (hm:X.mg x=none) (hv:bootBuiltins x=some (.builtin id)) (ha:QA X (e::es) t) (h:(e::es).all noStar=true:=by rfl) (hn:x≠"__name__":=by decide) (hdb:(x == ("__debug__":Str))=false:=by decide):QE X (.Call (.Name x p) (e::es) [] pos) (tCB r t):=⟨oP hc hg hm hv ha.h h hn hdb⟩
theorem oA (hc:CallR X (.type T) r) (hg:Gl X x) (hm:X.mg x=none) (hv:bootBuiltins x=some (.type T)) (ha:QA X (e::es) t) (h:(e::es).all noStar=true:=by rfl) (hn:x≠"__name__":=by decide) (hdb:(x == ("__debug__":Str))=false:=by decide):QE X (.Call (.Name x p) (e::es) [] pos) (tCB r t):=⟨oO hc hg hm hv ha.h h hn hdb⟩
theorem ba (c:Cal X.prog X.w X.K X.mg X.base x k ps sp) (hr:Room k' X.A) (hg:Gl X x) (ha:QA X (e::es) t) (hk:k≤k':=by omega) (h:(e::es).all noStar=true:=by rfl) (hd:(x == ("__debug__":Str))=false:=by decide):QE X (.Call (.Name x p) (e::es) [] pos) (tCall sp [] E0 t):=⟨oM c hr hg ha.h hk h hd⟩
theorem dB (pa:PlainAttrs T) (slot:Slot T name id) (hty:typeOf (.builtin id)=pure (.type "method_descriptor")) (hm:MtR X id rm) (ho:QE X o to) (ha:QA X [e] t) (h:noCall o=true:=by rfl) (h2:noStar e=true:=by rfl) (hline:(apos.endLine == cpos.line)=true:=by rfl) :
  QE X (.Call (.Attribute o name apos) [e] [] cpos) (tBM X.K T rm to t):=⟨pI pa slot hty hm ho.h ha.h h h2 hline⟩
theorem oz (pa:PlainAttrs T) (slot:Slot T name id) (hty:typeOf (.builtin id)=pure (.type "method_descriptor")) (hm:MtR X id rm) (ho:QE X o to) (h:noCall o=true:=by rfl) (hline:(apos.endLine == cpos.line)=true:=by rfl) :
  QE X (.Call (.Attribute o name apos) [] [] cpos) (tBM0 X.K T rm to):=⟨oJ pa slot hty hm ho.h h hline⟩
variable {tg iter elt:Expr} {g:TG} {gs:TGs} {wi:TI} {tas:TA}
theorem ai (hN:X.N.Nodup) (hi:X.N[i]?=some x) (hx:Loc X.env.scope x) (hf:X.fn x=true∨X.env.scope.names.lookup x=some .local:=by first | exact .inl rfl | exact .inr rfl | assumption):QG X (.Name x pos) (gName i):=⟨kj hN hi hx hf⟩
theorem bJ:QGs X [] gNil:=⟨ki⟩
theorem jG {env:Env} (h:noStar e=true):(assignEach (e::es) env).map (·.2)=assign e env::(assignEach es env).map (·.2):=by
 cases e <;> first | rfl | cases h
theorem az (h1:QG X e g) (h2:QGs X es gs) (h:noStar e=true:=by rfl):QGs X (e::es) (gCons g gs):=⟨iX h1.h h2.h (jG h)⟩
theorem gX {env:Env} (h:noStar e=true):assignEach (e::es) env=(false,assign e env)::assignEach es env:=by
 cases e <;> first | rfl | cases h
theorem cJ {env:Env}:∀ {es:List Expr},es.all noStar=true→(assignEach es env).length=es.length∧(assignEach es env).findIdx? (·.1)=none
 | [],_=>⟨rfl,rfl⟩
 | e::es,h=>by
  rw [List.all_cons,Bool.and_eq_true] at h
  obtain ⟨h1,h2⟩:=cJ (env:=env) h.2
  rw [gX h.1]
  refine ⟨by rw [xAo,h1,xAo],?_⟩
  rw [List.findIdx?_cons,h2]
  rfl
theorem fZ {k:Nat} (hc:X.calm=true) (h:QGs X es gs) (hs:es.all noStar=true:=by rfl):QG X (.Tuple es k pos) (gTup X.K es.length gs):=⟨mE hc h.h (cJ hs).1 (cJ hs).2⟩
theorem f7 {k:Nat} (hc:X.calm=true) (h:QGs X es gs) (hs:es.all noStar=true:=by rfl):QG X (.Tuple es k pos) (gLst X.K es.length gs):=⟨mG hc h.h (cJ hs).1 (cJ hs).2⟩
theorem f6 {ti:TE} {tset:TSet} (ho:QE X o to) (hi:QE X b ti) (hs:PSet X tset) (ha:noSlice b=true:=by rfl):QG X (.Subscript o b pos) (gSub to ti tset):=⟨mF ho.h hi.h hs (by intro _;cases b <;> first | rfl | cases ha)⟩
theorem bq (h:QE X e te):QI X tg e (iList X.K te):=⟨kg h.h⟩
theorem gD (hg:Gl X "range") (hm:X.mg "range"=none) (ha:QA X [e] tas) (h:noStar e=true:=by rfl):QI X tg (.Call (.Name "range" p) [e] [] pos) (iRng1 tas):=⟨oH hg hm ha.h h⟩
theorem ox (hg:Gl X "range") (hm:X.mg "range"=none) (ha:QA X [a,b] tas) (h:noStar a=true:=by rfl) (h2:noStar b=true:=by rfl):QI X tg (.Call (.Name "range" p) [a,b] [] pos) (iRng2 tas) :=
 ⟨hV hg hm ha.h (by rw [av h,av h2];rfl) (by rw [av h2];rfl)⟩
theorem bp:QTs X [] tYes:=⟨j5⟩
theorem jZ (h:QT X c tt):QTs X [c] tt:=⟨j4 h.h⟩
variable {scope:Scope} {cl:List (Str×Addr)} {ls N:List Str} {fr:List Nat} {ifs:List Expr}
def noSet:Expr→Bool
 | .Set ..=>false
 | _=>true
theorem eM (h:noSet e=true):∀ (env:Env) (v:Value),foldedSetIterable e env v=pure v:=fun env v=>by cases e <;> first | rfl | cases h
theorem dC (hc:X.calm=true) (cp:CapsG X scope cl ls N fr) (hi:QI X tg iter wi) (hg:∀ C s H fp,QG (cxComp X (ls++N) scope cl C s H fp) tg g) (ht:∀ C s H fp,QTs (cxComp X (ls++N) scope cl C s H fp) ifs tt) (he:∀ C s H fp,QE (cxComp X (ls++N) scope cl C s H fp) elt te) (h:noSet iter=true:=by rfl) :
  QE X (.ListComp elt [⟨tg,iter,ifs,0⟩] scope pos) (tLCg wi ls.length fr g tt te):=⟨mO hc cp hi.h (fun C s H fp=>(hg C s H fp).h) (fun C s H fp=>(ht C s H fp).h) (fun C s H fp=>(he C s H fp).h) (eM h _)⟩
theorem bQ {py spos:Pos} (hN:X.N.Nodup) (hiy:X.N[i]?=some y) (hy:X.env.scope.names.lookup y=some .local) (hc:X.calm=true) (cp:CapsG X scope cl ls N fr) (hi:QI X tg iter wi) (hg:∀ C s H fp,QG (cxComp X (ls++N) scope cl C s H fp) tg g) (ht:∀ C s H fp,QTs (cxComp X (ls++N) scope cl C s H fp) ifs tt) (he:∀ C s H fp,QE (cxComp X (ls++N) scope cl C s H fp) elt te) (h:noSet iter=true:=by rfl)
  (hsw:swapsWith (.ListComp elt [⟨tg,iter,ifs,0⟩] scope pos) (some (.Name y py)) spos.line X.env=pure true:=by rfl):QS X (.Assign [.Name y py] (.ListComp elt [⟨tg,iter,ifs,0⟩] scope pos) spos) (tAsg (tLCg wi ls.length fr g tt te) (gName i)) :=
 ⟨iR hN hiy hy hc cp hi.h (fun C s H fp=>(hg C s H fp).h) (fun C s H fp=>(ht C s H fp).h) (fun C s H fp=>(he C s H fp).h) (eM h _) hsw⟩
theorem aG:QSs X [] tNext:=⟨j8⟩
theorem aa (h1:QS X st ts) (h2:QSs X sts us):QSs X (st::sts) (tSeq ts us):=⟨iP h1.h h2.h⟩
theorem af (h1:QS X st ts):QSs X [st] ts:=⟨j7 h1.h⟩
theorem ao {pos':Pos} (hN:X.N.Nodup) (hi:X.N[i]?=some x) (hx:Loc X.env.scope x) (he:QE X e te) (h:noComp e=true:=by rfl) (hf:X.fn x=true∨X.env.scope.names.lookup x=some .local:=by first | exact .inl rfl | exact .inr rfl | assumption) :
  QS X (.Assign [.Name x pos'] e pos) (tAsg te (gName i)):=⟨oE hN hi hx he.h h hf⟩
theorem bS (he:QE X e te) (h:noComp e=true:=by rfl):QS X (.Expr e pos) (tDrop te):=⟨oG he.h h⟩
theorem aq (he:QE X e te):QS X (.Return (some e) pos) (tRet te):=⟨my he.h⟩
variable {body orelse:List Stmt}
theorem aR (hc:QT X c tt) (ha:QSs X body ts) (hb:QSs X orelse us):QS X (.If c body orelse pos) (tIfS tt ts us):=⟨oF hc.h ha.h hb.h⟩
theorem fg (hp:PassesOwn (model X.prog X.w) X.A X.env X.xe) (hc:QT X c tt) (hb:QSs X body ts):QS X (.While c body [] pos) (tWhile tt ts):=⟨iQ hp hc.h hb.h⟩
theorem bR (hp:PassesOwn (model X.prog X.w) X.A X.env X.xe) (hc:X.calm=true) (hi:QI X tg iter wi) (hg:QG X tg g) (hb:QSs X body ts) (h:noSet iter=true:=by rfl):QS X (.For tg iter body [] pos) (tFor wi g ts):=⟨mz hp hc hi.h hg.h hb.h (eM h _)⟩
theorem cj (he:QE X e te) (hg:QG X tg g) (hs:swapsWithSole [tg] e pos.line X.env=pure false:=by rfl) (hw:swappedStores [tg] e X.env=pure none:=by rfl) (h1:noStar tg=true:=by rfl):QS X (.Assign [tg] e pos) (tAsg te g) :=
 ⟨mC he.h hg.h hs hw (by rw [gX h1];rfl)⟩
theorem cz {value:Expr} {tv:TE} {pos':Pos} (hu:X.A.units+1<cLine) (ho:QE X o ta) (hi:QE X b tb) (hv:QE X value tv) (h:noComp value=true:=by rfl):QS X (.Assign [.Subscript o b pos'] value pos) (sDPut ta tb tv):=⟨ka hu ho.h hi.h hv.h (dg h)⟩
end
end L2
namespace L2
open PySem PySem.Spec PyProof.Rows
end L2
namespace L2
open PySem PySem.Spec PyProof.Rows
namespace Atom
end Atom
end L2
namespace L2
open PySem PySem.Spec PyProof.Rows
theorem jN {l:List Int} (h:l.Pairwise (·≤·)) (nd:l.Nodup):l.Pairwise (·<·):=by
 induction l with
 | nil=>exact .nil
 | cons x r ih =>
  rw [List.pairwise_cons] at h ⊢
  rw [xCb] at nd
  exact ⟨fun y hy=>by
   have a:=h.1 y hy
   have b:x≠y:=fun z=>nd.1 (by rw [z];exact hy)
   omega,ih h.2 nd.2⟩
def DKeys (H:Hp) (a:Addr) (ks:List Int):Prop:=∃ kvs,H a=some (.dK kvs)∧kvs.map (·.1)=ks.map Sum.inl
end L2
namespace L2
open PySem PySem.Spec PyProof.Rows
def cSortedD:List V→Hp→VK→Prop:=fun xs H Q=>∃ (d:Addr) (kvs:List (Key×V)) (ns:List Int),xs=[.ref d]∧Rd H d (.dK kvs)∧kvs.map (·.1)=ns.map Sum.inl ∧
  ∀ (l:Addr) (ns':List Int),H l=none→ns'.Perm ns→ns'.Pairwise (·≤·)→Q (.ref l) (upd H l (.lst (ns'.map V.int)))
theorem dQ {X:Cx} (hc:X.calm=true):CallR X (.builtin "sorted") cSortedD:=eW hc
theorem d7 {H:Hp} {Q:VK} {d:Addr} {ks:List Int} (e:DKeys H d ks) (nd:ks.Nodup) (h:∀ (l:Addr) (ns:List Int) (H2:Hp),Same H H2→H l=none→H2 l=some (.lst (ns.map V.int))→ns.Pairwise (·<·)→(∀ k,k∈ns↔k∈ks)→Q (.ref l) H2):cSortedD [.ref d] H Q:=by
 obtain ⟨kvs,h1,h2⟩:=e
 exact ⟨d,kvs,ks,rfl,.inl h1,h2,fun l ns' hl hp hw=>h l ns' _ (am hl _) hl ac (jN hw (hp.nodup_iff.mpr nd)) fun k=>hp.mem_iff⟩
section
variable {c:TT} {tb:TS} {Dn:Ends} {σ:St} {H:Hp}
def nWh (Pv:Nat→St→Hp→Prop) (m:Nat) (tb:TS) (Dn:Ends) (σ:St) (b:Bool) (H:Hp):Prop :=
 if b=true then ∃ N:St→Hp→Prop,(∀ σ' H',N σ' H'→∃ m',m'<m∧Pv m' σ' H')∧tb { Dn with nx:=N,ct:=N,bk:=Dn.nx } σ H else Dn.nx σ H
theorem gx (Pv:Nat→St→Hp→Prop) (m:Nat) (h0:Pv m σ H) (hs:∀ m σ H,Pv m σ H→c σ H (nWh Pv m tb Dn σ)):tWhile c tb Dn σ H:=⟨Pv,⟨m,h0⟩,hs⟩
theorem pf {Pv:Nat→St→Hp→Prop} {m:Nat} {b:Bool} (h1:b=true→tb { Dn with nx:=fun σ' H'=>∃ m',m'<m∧Pv m' σ' H',ct:=fun σ' H'=>∃ m',m'<m∧Pv m' σ' H',bk:=Dn.nx } σ H) (h2:b=false→Dn.nx σ H):nWh Pv m tb Dn σ b H:=by
 unfold nWh
 cases b with
 | true=>rw [xCg rfl];exact ⟨_,fun _ _ z=>z,h1 rfl⟩
 | false=>rw [xCf xAy];exact h2 rfl
end
theorem b9 {A B:Prop} {b:Bool} (h1:b=true→A) (h2:b=false→B):if b=true then A else B:=by
 cases b with
 | true=>rw [xCg rfl];exact h1 rfl
 | false=>rw [xCf xAy];exact h2 rfl
end L2
namespace L2
open PySem PySem.Spec PyProof.Rows
theorem Rps.mapGet {α:Type} {f:α→D} {H:Hp} {l:List α} {vs:List V} (h:Rps H (l.map f) vs) {i:Nat} {x:α} (e:l[i]?=some x):∃ v,vs[i]?=some v∧Rp H (f x) v:=h.get (by rw [xAw,e];rfl)
theorem Rps.mapGet' {α:Type} {f:α→D} {H:Hp} {l:List α} {vs:List V} (h:Rps H (l.map f) vs) {i:Nat} {v:V} (e:vs[i]?=some v):∃ x,l[i]?=some x∧Rp H (f x) v:=by
 obtain ⟨d,e1,r⟩:=h.get' e
 rw [xAw] at e1
 cases q:l[i]? with
 | none=>rw [q] at e1;cases e1
 | some x =>
  rw [q] at e1
  cases e1
  exact ⟨x,rfl,r⟩
theorem Rps.mapLen {α:Type} {f:α→D} {H:Hp} {l:List α} {vs:List V} (h:Rps H (l.map f) vs):vs.length=l.length:=by rw [h.length,xAa]
end L2
namespace L2
open PySem PySem.Spec PyProof.Rows
theorem pe {α:Type} {x:α} {r:List α}:atI (x::r) 0=some x:=au (j:=0) rfl
theorem lB {α:Type} {x y:α} {r:List α}:atI (x::y::r) 1=some y:=au (j:=1) rfl
end L2
namespace L2
open PySem PySem.Spec PyProof.Rows
section
variable {K:xFr} {H:Hp} {Q:VK} {p:Addr} {xs:List V} {b:Bool} {n:String}
theorem dc (e:H p=some (.tup xs)) (k:PySem.W.kitOne K (.type "tuple") (.type n)=some b) (h:Q (.bl b) H):cIsT K [.ref p,.ty n] H Q:=⟨_,_,_,b,rfl,.tup e,k,h⟩
theorem cy {i:Int} (k:PySem.W.kitOne K (.type "int") (.type n)=some b) (h:Q (.bl b) H):cIsT K [.int i,.ty n] H Q:=⟨_,_,_,b,rfl,.int i,k,h⟩
end
end L2
namespace L2
open PySem PySem.Spec PyProof.Rows
section
variable {te:TE} {tl th:TO} {σ:St} {H:Hp} {Q:VK} {K:xFr} {p:Addr} {xs:List V} {lo hi:Option Int}
theorem jR {r:V→Option Int→Option Int→Hp→VK→Prop} (h:te σ H fun x H1=>tl σ H1 fun l H2=>th σ H2 fun u H3=>r x l u H3 Q):tSl r te tl th σ H Q:=h
theorem iD {QO:Option Int→Hp→Prop} (h:QO none H):tNoPart σ H QO:=h
theorem lQ {QO:Option Int→Hp→Prop} (h:te σ H fun x H1=>∃ i,x=V.int i∧QO (some i) H1):tPart te σ H QO:=h
theorem oe {i:Int} {QI:Int→Prop} (h:QI i):∃ i',V.int i=V.int i'∧QI i':=⟨i,rfl,h⟩
theorem kW (e:H p=some (.lst xs)) (h:∀ l H2,Same H H2→H l=none→H2 l=some (.lst (cutV xs lo hi))→Q (.ref l) H2):rSlL K (.ref p) lo hi H Q:=⟨p,xs,rfl,.of e,fun l hl=>h l _ (am hl _) hl ac⟩
theorem fM {d:Int} (h:0≤d):cutV xs none (some d)=xs.take d.toNat:=by
 unfold cutV
 have e:HT.sIx xs.length xs.length (some d)=min d.toNat xs.length:=by
  change (if d<0 then (d+(xs.length:Int)).toNat else min d.toNat xs.length)=_
  rw [xCf (by omega)]
 rw [e,HT.sIx_none,List.drop_zero,Nat.sub_zero]
 rcases Nat.le_total d.toNat xs.length with h | h
 ·rw [Nat.min_eq_left h]
 ·rw [Nat.min_eq_right h,List.take_of_length_le (xAg _),List.take_of_length_le h]
end
end L2
namespace L2
open PySem PySem.Spec PyProof.Rows
section
variable {P:Program} {w:World} {K:xFr} {mg:Str→Option Value} {base:Heap}
theorem Fun.okS {x:Str} {st:Stmt} {sc:Scope} {f:Addr} {fd:FuncData} {N ps:List Str} {k:Nat} {sp:Sp} (F:Fun K x x st f fd) (S:FnScope N ps sc) (hsc:defScope st=sc) (len:∀ vs H Q E,sp vs H Q E→vs.length=ps.length)
  (hbody:∀ (cdv:Value) (A:Around) (outer:List Env) (s:Shared) (H:Hp) (vs:List V) (Q:VK) (E:XK),Room k (A.deeper (envOfC x sc s.heap.objs.size f cdv))→sp vs H Q E →
   ∃ t,PSs (cxOf CX0 P w K mg base N x sc f cdv A outer s H E).nox (defBody st) t∧t { nx:=fun _ H'=>Q .non H',rt:=Q } (start N vs) H):FnOk P w K mg base CX0 (k+1) f fd ps sp:=by
 subst hsc
 exact F.ok S len hbody
end
section
variable {trs:List (TE×TE)} {tk tv:TE} {σ:St} {H:Hp} {Q:VK} {QP:List (V×V)→Hp→Prop}
def nDisp (p:Addr) (Q:VK) (ps:List (V×V)) (H:Hp):Prop:=H p=some (.dK [])∧∃ kvs:List (Key×V),ps=kvs.map (fun kv=>(kV kv.1,kv.2))∧kvs.length≤15∧Q (.ref p) (upd H p (.dK (mergeK [] kvs)))
theorem ma (h:∀ p H1,Same H H1→H p=none→H1 p=some (.dK [])→tPairs trs σ H1 (nDisp p Q)):tDisp trs σ H Q:=fun p hp=>h p _ (am hp _) hp ac
theorem jS (h:tk σ H fun k H1=>tv σ H1 fun v H2=>tPairs trs σ H2 fun ps H3=>QP ((k,v)::ps) H3):tPairs ((tk,tv)::trs) σ H QP:=h
theorem lP (h:QP [] H):tPairs [] σ H QP:=h
theorem jY {p:Addr} {ps:List (V×V)} (kvs:List (Key×V)) (e:H p=some (.dK [])) (hp:ps=kvs.map (fun kv=>(kV kv.1,kv.2))) (hl:kvs.length≤15) (h:Q (.ref p) (upd H p (.dK (mergeK [] kvs)))):nDisp p Q ps H:=⟨e,kvs,hp,hl,h⟩
variable {p q:Addr} {b:Bool}
theorem ml {ns:List Int} (e1:H p=some (.lst (ns.map V.int))) (e2:H q=some (.lst (ns.map V.int))) (h:Q (.bl b) H):rAlL b (.ref p) (.ref q) H Q :=
 ⟨p,q,_,_,0,rfl,rfl,e1,e2,rfl,by decide,fun j x y h1 h2=>by
  rw [h1] at h2
  cases h2
  obtain ⟨k,_,rfl⟩:=xA2.mp (xAc h1)
  exact .flat rfl,h⟩
theorem ld {ds:List D} {u v:V} (h1:Rp H (.tup ds) u) (h2:Rp H (.tup ds) v) (hd:D.deps ds≤30) (h:Q (.bl b) H):rAl b u v H Q:=by
 obtain ⟨p,xs,rfl,e1,r1⟩:=h1
 obtain ⟨q,ys,rfl,e2,r2⟩:=h2
 exact ⟨p,q,xs,ys,D.deps ds,rfl,rfl,e1,e2,by rw [r1.length,r2.length],hd,Rps.al r1 r2,h⟩
end
end L2
namespace SetA
open PySem PySem.SetTable
end SetA
namespace SetA
open PySem PySem.SetTable
end SetA
namespace SetA
open PySem PySem.SetTable
end SetA
namespace SetA
open PySem PySem.SetTable
end SetA
namespace SetA
open PySem PySem.SetTable
end SetA
namespace SetA
open PySem PySem.Spec PySem.SetTable PyProof.Rows
end SetA
namespace SetA
open PySem PySem.Spec PySem.SetTable PyProof.Rows
end SetA
namespace L2
open PySem PySem.Spec PyProof.Rows SetA
end L2
namespace L2
open PySem PySem.Spec PyProof.Rows
section
variable {X:Cx} {pins:List (Addr×Obj)} {σ:St} {H:Hp} {s:Shared} {h':Heap}
theorem Inv.turnedL {t':Nat} {fp:List Addr} (I:Inv X pins σ H s) (k:∀ b o,b ∉ fp→s.heap.get? b=some o→h'.get? b=some o) (hf:∀ b∈fp,FpOk X pins H b):Inv X pins σ H { s with heap:=h',toks:=t' }:=by
 have nit:∀ b u,H b=some u→b ∉ fp:=fun b u e z=>by rw [(hf b z).1] at e;cases e
 refine I.step (g':=s.gens) (d':=s.drawn) (ch:=fp) (fun b hb=>?_) (fun b o _ _ hc e _=>k b o hc e) (fun b o _ _ hc e _=>⟨o.slots,k b o hc e⟩) (fun _ _ _ _ n=>n)
  (fun b o hc e=>⟨o,k b o hc e⟩) (fun _ _ e=>e) (fun _ _ _ e=>e) (fun b ps e=>⟨#[],by rw [e];simp⟩) (fun m hm=>?_) (fun b u e=>?_) I.bare
 ·obtain ⟨f0,f1,f2,f3,f4,f5⟩:=hf b hb
  exact ⟨f3,f1,f4,f5⟩
 ·obtain ⟨o,es,ep,ho,r⟩:=hm
  exact ⟨o,es,ep,k _ o (fun z=>(hf _ z).2.1 rfl) ho,r⟩
 ·refine (I.hok b u e).stay (fun c v hc q=>k c v ?_ q) (fun _ q=>q) fun _ _ q=>q
  rcases hc with z | z
  ·rw [z];exact nit b u e
  ·exact nit c _ z
end
end L2
namespace L2
open PySem PySem.Spec PyProof.Rows SetA
end L2
namespace L2
open PySem PySem.Spec PyProof.Rows PySem.AutoSeq1
theorem gF {X:Cx} {K:xFr} {es:List Expr} {gs:TGs} {pos:Pos} {k:Nat} (e:X.K=K) (hc:X.calm=true) (h:QGs X es gs) (hs:es.all noStar=true:=by rfl):QG X (.Tuple es k pos) (gTup K es.length gs):=by
 subst e
 exact fZ hc h hs
end L2
namespace RevA
open PySem PySem.Spec PyProof.Rows
end RevA
namespace L2
open PySem PySem.Spec PyProof.Rows
end L2
namespace RevA
open PySem PySem.Spec PyProof.Rows
end RevA
namespace L2
open PySem PySem.Spec PyProof.Rows RevA
end L2
namespace RevA
open PySem PySem.Spec PyProof.Rows
open AutoSeq1 (wpAny_loadPart')
end RevA
namespace L2
open PySem PySem.Spec PyProof.Rows RevA
end L2
namespace SetA
open PySem PySem.Spec PySem.SetTable PyProof.Rows
end SetA
namespace SetA
open PySem PySem.Spec PySem.SetTable PyProof.Rows
end SetA
namespace L2
open PySem PySem.Spec PyProof.Rows SetA
end L2
namespace L2
open PySem PySem.Spec PyProof.Rows
theorem nP {K:xFr} {H:Hp} {Q:VK} {p:Addr} {xs:List V} {lo hi:Option Int} (e:H p=some (.tup xs)) (nw:¬ (HT.sIx xs.length 0 lo=0∧HT.sIx xs.length xs.length hi=xs.length)) (h:∀ l H2,Same H H2→H l=none→H2 l=some (.tup (cutV xs lo hi))→Q (.ref l) H2):rSlT K (.ref p) lo hi H Q :=
 ⟨p,xs,rfl,.of e,nw,fun l hl=>h l _ (am hl _) hl ac⟩
end L2
namespace L2
open PySem PySem.Spec PyProof.Rows
end L2
namespace L2
open PySem PySem.Spec PyProof.Rows
section
variable {J:It} {P:Hp→Prop} {n:Nat} {Y:Nat→Hp→V→Hp→Prop} {g:TG} {tb:TS} {Dn E:Ends} {σ:St} {H:Hp} {N:St→Hp→Prop} {A:Ends→Prop}
structure EA (Dn:Ends) (N:St→Hp→Prop) (E:Ends):Prop where
 nx:∀ σ H,N σ H→E.nx σ H
 ct:∀ σ H,N σ H→E.ct σ H
 bk:∀ σ H,Dn.nx σ H→E.bk σ H
 rt:∀ v H,Dn.rt v H→E.rt v H
def WE (Dn:Ends) (N:St→Hp→Prop) (A:Ends→Prop):Prop:=∀ E,EA Dn N E→A E
theorem pi (h:∀ E,EA Dn N E→A E):WE Dn N A:=h
theorem pL (h:EA Dn N E) (n:N σ H):E.nx σ H:=h.nx σ H n
theorem bC (wk:Wk J P n Y) (Pv:Nat→St→Hp→Prop) (h0:Pv 0 σ H) (hP:∀ i σ H,i≤n→Pv i σ H→P H)
  (hs:∀ (E:Ends) i,EA Dn (Pv (i+1)) E→∀ σ H x H',i<n→Pv i σ H→Y i H x H'→g x σ H' fun σ2 H2=>tb E σ2 H2) (hd:∀ σ H,Pv n σ H→Dn.nx σ H):nFor J g tb Dn σ H :=
 nz wk Pv h0 hP (fun i σ H x H' a b c=>hs { Dn with nx:=Pv (i+1),ct:=Pv (i+1),bk:=Dn.nx } i ⟨fun _ _ z=>z,fun _ _ z=>z,fun _ _ z=>z,fun _ _ z=>z⟩ σ H x H' a b c) hd
theorem kU {Pv:Nat→St→Hp→Prop} {m:Nat} {b:Bool} (h1:b=true→WE Dn (fun σ' H'=>∃ m',m'<m∧Pv m' σ' H') fun E=>tb E σ H) (h2:b=false→Dn.nx σ H):nWh Pv m tb Dn σ b H :=
 pf (fun e=>h1 e _ ⟨fun _ _ z=>z,fun _ _ z=>z,fun _ _ z=>z,fun _ _ z=>z⟩) h2
end
theorem len1 {α:Type} {us:List α} (h:us.length=1):∃ x0,us=[x0]:=by
 cases us with
 | nil=>cases h
 | cons a r =>
  cases r with
  | nil=>exact ⟨a,rfl⟩
  | cons b r=>cases h
theorem len2 {α:Type} {us:List α} (h:us.length=2):∃ x0 x1,us=[x0,x1]:=by
 cases us with
 | nil=>cases h
 | cons a r =>
  obtain ⟨x1,rfl⟩:=len1 (Nat.succ.inj h)
  exact ⟨a,x1,rfl⟩
theorem len3 {α:Type} {us:List α} (h:us.length=3):∃ x0 x1 x2,us=[x0,x1,x2]:=by
 cases us with
 | nil=>cases h
 | cons a r =>
  obtain ⟨x1,x2,rfl⟩:=len2 (Nat.succ.inj h)
  exact ⟨a,x1,x2,rfl⟩
theorem len4 {α:Type} {us:List α} (h:us.length=4):∃ x0 x1 x2 x3,us=[x0,x1,x2,x3]:=by
 cases us with
 | nil=>cases h
 | cons a r =>
  obtain ⟨x1,x2,x3,rfl⟩:=len3 (Nat.succ.inj h)
  exact ⟨a,x1,x2,x3,rfl⟩
end L2
namespace L2
open PySem PySem.Spec PyProof.Rows
end L2
namespace L2
open PySem PySem.Spec PyProof.Rows
end L2
namespace L2
open PySem PySem.Spec PyProof.Rows
theorem jp {P:Program} {w:World} {H:Hp} {h:Heap} {d:Addr} {o:Obj} {es:Array DictEntry} {ep:Nat} {kvs:List (Key×V)} (hok:HOk P w H h) (e:H d=some (.frz o (.dK kvs))) (ho:o.data = .dict es ep):∃ vs,KV kvs vs∧h.DictAt (mixKind P w) d vs ep:=by
 obtain ⟨h1,_,_,vs,rel,o',es',ep',h2,h3,h4,h5⟩:=(show ObjOk P w H h d (.frz o (.dK kvs)) from hok d _ e)
 rw [h1] at h2
 cases h2
 rw [ho] at h4
 cases h4
 exact ⟨vs,rel,o,es,h1,h3,ho,h5⟩
end L2
namespace L2
open PySem
end L2
namespace L2
open PySem PySem.Spec PyProof.Rows SetA
def Itk (d:Addr) (o:Obj) (kvs:List (Key×V)):It :=
 ⟨fun i H=>i<kvs.length∧H d=some (.frz o (.dK kvs)),fun i H x H'=>H'=H∧(kvs.map fun p=>kV p.1)[i]?=some x,fun i H=>i=kvs.length∧H d=some (.frz o (.dK kvs))⟩
theorem jP {k:Key} {v:Value} (h:keyIs k v=true):RelV (kV k) v:=by
 rcases aA h with ⟨i,t,rfl,rfl⟩ | ⟨x,t,rfl,rfl⟩
 ·exact ⟨t,rfl⟩
 ·exact ⟨t,rfl⟩
theorem g0 {P:Program} {w:World} {K:xFr} {tg:Expr} (d it:Addr) (o:Obj) (kvs:List (Key×V)) (es:Array DictEntry) (ep:Nat) (ho:o.data = .dict es ep):Turn P w K tg (Itk d o kvs) [it] it (fun i h=>h.IsKeyIter it d i kvs.length ep) where
 mem:=by simp
 obj:=fun i h st b hb=>by
  have e:b=it:=by simpa using hb
  subst e
  obtain ⟨o2,e2,_,d2⟩:=st
  exact ⟨o2,e2,fun v z=>by rw [d2] at z;cases z⟩
 keep:=fun i h h' st k=>st.at fun o e=>k it (by simp) o e
 item:=by
  intro X hP hw hK hc i pins s σ H E I hf st hg
  subst hP hw hK
  obtain ⟨hin,hd⟩:=hg
  obtain ⟨vs,rel,hat⟩:=jp I.hok hd ho
  have hl:=rel.length
  have hk:(vs.map (·.1))[i]?=some (kvs[i]'hin).1:=by rw [← rel.keys,xAw,xAk hin];rfl
  rw [xAw] at hk
  obtain ⟨⟨k,v⟩,hkv,e⟩:=xA3.mp hk
  have e:k=(kvs[i]'hin).1:=e
  obtain ⟨f0,f1,f2,f3,f4,f5⟩:=hf it (by simp)
  rw [hl] at st
  refine wpAny_pyNext_dict_item st hat hkv fun key h' hkey st' sb=>?_
  have I1:Inv X pins σ H { s with heap:=h' }:=I.turned (t':=s.toks) (fun b o hb e=>(sb.2 b hb).trans e) f0 f1 f3 f4 f5
  obtain ⟨o2,e2,c2,d2⟩:=id st'
  refine ⟨key,rfl,jn (s:={ s with heap:=h' }) (n:="dict_keyiterator") e2 c2 d2 (by decide) ⟨kV k,H,I1,jP hkey,⟨rfl,?_⟩,?_,fun b hb=>(hf b hb).1⟩⟩
  ·rw [xAw,xAk hin,e]
   rfl
  ·rw [hl]
   exact st'
 done:=by
  intro X hP hw hK hc i pins s σ H E I hf st hg
  subst hP hw hK
  obtain ⟨rfl,hd⟩:=hg
  obtain ⟨vs,rel,hat⟩:=jp I.hok hd ho
  have hl:=rel.length
  obtain ⟨f0,f1,f2,f3,f4,f5⟩:=hf it (by simp)
  rw [hl] at st
  exact wpAny_pyNext_dict_end (I.ok.hd hc) st hat (List.getElem?_eq_none (xAg _)) fun h' eb=>⟨rfl,I.turned (t':=s.toks) (fun b o hb e=>eb b o hb e) f0 f1 f3 f4 f5⟩
 self:=fun _ _ _ _ _ st h=>wpAny_pyIter_keyiter st h
def nIterK (x:V) (H:Hp) (R:It→Hp→Prop):Prop:=∃ d kvs,x = .ref d∧H d=some (.dK kvs)∧∀ o,R (Itk d o kvs) (upd H d (.frz o (.dK kvs)))
def iKeys (te:TE):TI:=fun σ H R=>te σ H fun x H1=>nIterK x H1 R
section
variable {X:Cx} {e tg o:Expr} {te td:TE} {apos cpos:Pos}
theorem kh (he:PE X e te):PI X tg e (iKeys te):=by
 intro pins s σ H R I h
 refine thn (he pins s σ H _ I h) fun u s1 ⟨x,H1,I1,r1,q1⟩=>?_
 obtain ⟨d,kvs,rfl,hd,q⟩:=q1
 obtain rfl:u=Value.ref d:=r1
 obtain ⟨z,hs,vs,rel,dd⟩:=jw I1.hok hd
 obtain ⟨o,es,ep,ho,hx,hdat,hr⟩:=id dd
 have hl:=rel.length
 have hat:s1.heap.DictAt (mixKind X.prog X.w) d vs ep:=⟨o,es,ho,hx,hdat,hr⟩
 refine wpAny_pyIter_dict hs hat ?_
 have I2:Inv X pins σ (upd H1 d (.frz o (.dK kvs))) { s1 with heap:=s1.heap,toks:=s1.toks } :=
  I1.write (x:=d) (e:=d) (o:=.frz o (.dK kvs)) (t':=s1.toks) (by rw [hd];exact True.intro) (.inl rfl) (fun b u _ e=>e) ⟨o,ho⟩ ⟨ho,z,hs,vs,rel,dd⟩
 have I3:Inv X pins σ (upd H1 d (.frz o (.dK kvs))) s1:=I2
 have hfr:upd H1 d (.frz o (.dK kvs)) s1.heap.objs.size=none:=I3.hok.fresh (xAg _)
 refine ⟨s1.heap.objs.size,[s1.heap.objs.size],_,_,_,rfl,I3.kept (t':=s1.toks) fun b o e=>xAf _ e,g0 d _ o kvs es ep hdat,⟨_,xAl _ rfl,rfl,by rw [hl];rfl⟩,fun b hb=>?_,q o⟩
 have e:b=s1.heap.objs.size:=by simpa using hb
 subst e
 exact I3.fpOk (xAg _) hfr
theorem gE (h:QE X e te):QI X tg e (iKeys te):=⟨kh h.h⟩
end
section
variable {K:xFr} {td te:TE} {σ:St} {H:Hp} {Q:VK} {R:It→Hp→Prop} {v d p a b:Addr} {kvs:List (Key×V)} {xs:List V} {w:World}
theorem pC (h:te σ H fun x H1=>nIterK x H1 R):iKeys te σ H R:=h
theorem gz (e2:H d=some (.dK kvs)) (h:∀ o,R (Itk d o kvs) (upd H d (.frz o (.dK kvs)))):nIterK (.ref d) H R:=⟨d,kvs,rfl,e2,h⟩
theorem gv {o:Obj}:Wk (Itk d o kvs) (fun H=>H d=some (.frz o (.dK kvs))) kvs.length (fun i H x H'=>H'=H∧(kvs.map fun p=>kV p.1)[i]?=some x) :=
 ⟨fun i H p h=>⟨h,p⟩,fun i H x H' p h y=>y,fun H p=>⟨rfl,p⟩⟩
theorem df {k:Int} {v:V} (e:Rd H a (.dK kvs)) (hv:valV kvs (.inl k)=some v) (h:Q v H):nDGet (.ref a) (.int k) H Q:=⟨a,v,rfl,.inl ⟨kvs,.inl k,e,rfl,hv.symm⟩,h⟩
end
end L2
namespace L2
open PySem
end L2
namespace L2
open PySem PySem.Spec PyProof.Rows
section
variable {P:Program} {w:World} {K:xFr} {mg:Str→Option Value} {base:Heap}
structure Cs (K:xFr) (C:Addr) (fs:List Str):Prop where
 c:Cls K C
 n:∀ f∈fs,NoAttr K C f
structure Mal (P:Program) (w:World) (K:xFr) (mg:Str→Option Value) (base:Heap) (C:Addr) (m:Str) (k:Nat) (ps:List Str) (sp:Sp):Prop where
 c:Cls K C
 ex:∃ (f:Addr) (fd:FuncData),Meth K C m f∧FnOk P w K mg base CX0 k f fd ps sp∧Binds K fd ps []
structure Ini (P:Program) (w:World) (K:xFr) (mg:Str→Option Value) (base:Heap) (C:Addr) (x:Str) (k:Nat) (ps:List Str) (sp:Sp):Prop where
 at':mg x=some (.ref C)
 ex:∃ (f:Addr) (fd:FuncData),Mk K C f∧FnOk P w K mg base CX0 k f fd ps sp∧Binds K fd ps []
structure Dm (K:xFr) (f:Addr) (fd:FuncData) (m qual:Str) (st:Stmt) (ps:List Str):Prop where
 fn:Fun K m qual st f fd
 bd:Binds K fd ps []
theorem Dm.ok {f:Addr} {fd:FuncData} {m qual:Str} {st:Stmt} {sc:Scope} {N ps:List Str} {k:Nat} {sp:Sp} (F:Dm K f fd m qual st ps) (S:FnScope N ps sc) (hsc:defScope st=sc) (len:∀ vs H Q E,sp vs H Q E→vs.length=ps.length)
  (hbody:∀ (f:Addr) (cdv:Value) (A:Around) (outer:List Env) (s:Shared) (H:Hp) (vs:List V) (Q:VK) (E:XK),Room k (A.deeper (envOfC qual sc s.heap.objs.size f cdv))→sp vs H Q E →
   ∃ t,PSs (cxOf CX0 P w K mg base N qual sc f cdv A outer s H E).nox (defBody st) t∧t { nx:=fun _ H'=>Q .non H',rt:=Q } (start N vs) H):FnOk P w K mg base CX0 (k+1) f fd ps sp∧Binds K fd ps []:=by
 subst hsc
 exact ⟨F.fn.ok S len (fun cdv A outer s H vs Q E hr h=>hbody f cdv A outer s H vs Q E hr h),F.bd⟩
end
section
variable {X:Cx} {C:Addr} {m x f:Str} {k k':Nat} {ps:List Str} {sp:Sp} {p pos pos' apos:Pos} {o e value:Expr} {es:List Expr} {t:TA} {ta tv:TE}
theorem cc (ho:QE X o ta) (c:Mal X.prog X.w X.K X.mg X.base C m k ps sp) (hr:Room k' X.A) (ha:QA X (e::es) t) (hk:k≤k':=by omega) (h:(e::es).all noStar=true:=by rfl) (h2:noCall o=true:=by rfl)
  (ht:∃ pl,eval (.Call (.Attribute o m apos) (e::es) [] pos) X.env=(do
   let ov ← eval o X.env
   standAt apos.atName
   let (f,first) ← holding [ov] (getMethod ov m pl)
   callWith pos f first (backTo pos (starEach (e::es) X.env)) (backToKw pos (keywordEach [] X.env))):=by exact ⟨_,rfl⟩):QE X (.Call (.Attribute o m apos) (e::es) [] pos) (tMeth C m sp [] E0 ta t):=by
 obtain ⟨f,fd,h1,h3,h4⟩:=c.ex
 obtain ⟨pl,ht⟩:=ht
 rw [List.all_cons,Bool.and_eq_true] at h
 exact ⟨kl (pl:=pl) ho.h c.c h1 h3 (hr.mono hk) h4 .nil pass0 ha.h (hst:=av h.1) (hpl:=bD h.2) (ht:=ht)⟩
theorem bK (ho:QE X o ta) (c:Mal X.prog X.w X.K X.mg X.base C m k ps sp) (hr:Room k' X.A) (hk:k≤k':=by omega) (h2:noCall o=true:=by rfl)
  (ht:∃ pl,eval (.Call (.Attribute o m apos) [] [] pos) X.env=(do
   let ov ← eval o X.env
   standAt apos.atName
   let (f,first) ← holding [ov] (getMethod ov m pl)
   callWith pos f first (backTo pos (starEach [] X.env)) (backToKw pos (keywordEach [] X.env))):=by exact ⟨_,rfl⟩):QE X (.Call (.Attribute o m apos) [] [] pos) (tMeth C m sp [] E0 ta tNil):=by
 obtain ⟨f,fd,h1,h3,h4⟩:=c.ex
 obtain ⟨pl,ht⟩:=ht
 exact ⟨iZ (pl:=pl) ho.h c.c h1 h3 (hr.mono hk) h4 .nil pass0 (ht:=ht)⟩
theorem oy (c:Ini X.prog X.w X.K X.mg X.base C x k ps sp) (hr:Room k' X.A) (hg:Gl X x) (ha:QA X (e::es) t) (hk:k+1≤k':=by omega) (h:(e::es).all noStar=true:=by rfl) (hd:(x == ("__debug__":Str))=false:=by decide):QE X (.Call (.Name x p) (e::es) [] pos) (tMake C sp [] E0 t):=by
 obtain ⟨f,fd,h1,h3,h4⟩:=c.ex
 rw [List.all_cons,Bool.and_eq_true] at h
 exact ⟨km h1 h3 (hr.mono hk) hg c.at' h4 .nil pass0 ha.h (hdb:=hd) (he:=av h.1) (hpl:=bD h.2)⟩
theorem iI (c:Ini X.prog X.w X.K X.mg X.base C x k ps sp) (hr:Room k' X.A) (hg:Gl X x) (hk:k+1≤k':=by omega) (hd:(x == ("__debug__":Str))=false:=by decide):QE X (.Call (.Name x p) [] [] pos) (tMake C sp [] E0 tNil):=by
 obtain ⟨f,fd,h1,h3,h4⟩:=c.ex
 exact ⟨i3 h1 h3 (hr.mono hk) hg c.at' h4 .nil pass0 (hdb:=hd)⟩
theorem aM (he:QE X e ta) (h:noCall e=true:=by rfl):QE X (.Attribute e f pos) (tFld X.K ta f):=⟨mQ he.h (eN h)⟩
theorem dz (ha:QE X o ta) (hv:QE X value tv) (h:noComp value=true:=by rfl):QS X (.Assign [.Attribute o f pos'] value pos) (sFld X.K ta tv f):=⟨mB ha.h hv.h (dg h)⟩
end
section
variable {K:xFr} {σ:St} {H:Hp} {Q:VK} {ta tv:TE} {t:TA} {C a dx:Addr} {fs:List (Str×V)} {f m:Str} {v y:V} {sp:Sp} {E:XK} {Dn:Ends} {ns:List Str}
def nFld (K:xFr) (f:Str) (x:V) (H:Hp) (Q:VK):Prop:=∃ a C dx fs v,x = .ref a∧H a=some (.ins C dx fs)∧Cls K C∧NoAttr K C f∧fs.lookup f=some v∧Q v H
theorem oj (h:ta σ H fun x H1=>nFld K f x H1 Q):tFld K ta f σ H Q:=h
theorem aL (e:H a=some (.ins C dx fs)) (c:Cs K C ns) (hf:f∈ns) (l:fs.lookup f=some v) (h:Q v H):nFld K f (.ref a) H Q:=⟨a,C,dx,fs,v,rfl,e,c.c,c.n f hf,l,h⟩
def nFldS (K:xFr) (f:Str) (x y:V) (H:Hp) (R:Hp→Prop):Prop:=∃ a C dx fs,x = .ref a∧H a=some (.ins C dx fs)∧Cls K C∧NoAttr K C f∧fs.length<1000∧R (upd H a (.ins C dx (putF f y fs)))
theorem lN (h:tv σ H fun y H1=>ta σ H1 fun x H2=>nFldS K f x y H2 fun H3=>Dn.nx σ H3):sFld K ta tv f Dn σ H:=h
theorem cx {R:Hp→Prop} (e:H a=some (.ins C dx fs)) (c:Cs K C ns) (hf:f∈ns) (l:fs.length<1000) (h:R (upd H a (.ins C dx (putF f y fs)))):nFldS K f (.ref a) y H R:=⟨a,C,dx,fs,rfl,e,c.c,c.n f hf,l,h⟩
def nMe (C:Addr) (m:Str) (sp:Sp) (E:XK) (t:TA) (x:V) (σ:St) (H:Hp) (Q:VK):Prop:=∃ a dx fs,x = .ref a∧H a=some (.ins C dx fs)∧fs.lookup m=none∧t σ H fun vs H2=>sp (x::(vs++[])) H2 Q E
theorem pq (h:ta σ H fun x H1=>nMe C m sp E t x σ H1 Q):tMeth C m sp [] E ta t σ H Q:=h
theorem a7 (e:H a=some (.ins C dx fs)) (l:fs.lookup m=none) (h:t σ H fun vs H2=>sp (.ref a::(vs++[])) H2 Q E):nMe C m sp E t (.ref a) σ H Q:=⟨a,dx,fs,rfl,e,l,h⟩
theorem pp (h:t σ H fun vs H1=>∀ x dx,H1 x=none→H1 dx=none→dx≠x→sp (.ref x::(vs++[])) (upd (upd H1 dx (.own x)) x (.ins C dx [])) (fun v H2=>v = .non∧Q (.ref x) H2) E):tMake C sp [] E t σ H Q:=h
end
end L2
namespace L2
open PySem PySem.Spec PyProof.Rows
def Itz (K:xFr) (a b:Addr):It :=
 ⟨fun i H=>∃ xs ys x y,SqL K H a xs∧SqL K H b ys∧xs[i]?=some x∧ys[i]?=some y,
  fun i H x H'=>∃ (p:Addr) (u v:V),x = .ref p∧H p=none∧H'=upd H p (.tup [u,v])∧(∀ xs,SqL K H a xs→xs[i]?=some u)∧∀ ys,SqL K H b ys→ys[i]?=some v,
  fun i H=>∃ xs ys,SqL K H a xs∧SqL K H b ys∧(xs.length≤i∨ys.length≤i)⟩
theorem iz {P:Program} {w:World} {K:xFr} {elts:List Expr} {k:Nat} {pos:Pos} (a b z TI TO i1 i2:Addr) (D:ZipApart z TI TO i1 i2 a b) :
  Turn P w K (.Tuple elts k pos) (Itz K a b) [z,TI,TO,i1,i2] z (fun i h=>IsZip h z TI TO .none∧IsPair h TI (.ref i1) (.ref i2)∧(∃ x y,IsPair h TO x y)∧h.IsListIter i1 a i∧h.IsListIter i2 b i) where
 mem:=by simp
 obj:=fun i h st c hc=>by
  obtain ⟨q1,q2,⟨x,y,q3⟩,⟨o1,q4,_,d4⟩,o2,q5,_,d5⟩:=st
  simp only [xAv,xBv,or_false] at hc
  rcases hc with rfl | rfl | rfl | rfl | rfl
  ·exact ⟨_,q1,fun v z=>by cases z⟩
  ·exact ⟨_,q2,fun v z=>by cases z⟩
  ·exact ⟨_,q3,fun v z=>by cases z⟩
  ·exact ⟨o1,q4,fun v z=>by rw [d4] at z;cases z⟩
  ·exact ⟨o2,q5,fun v z=>by rw [d5] at z;cases z⟩
 keep:=fun i h h' st k=>by
  obtain ⟨q1,q2,⟨x,y,q3⟩,q4,q5⟩:=st
  exact ⟨k z (by simp) _ q1,k TI (by simp) _ q2,⟨x,y,k TO (by simp) _ q3⟩,q4.at fun o e=>k i1 (by simp) o e,q5.at fun o e=>k i2 (by simp) o e⟩
 item:=by
  intro X hP hw hK hc i pins s σ H E I hf st hg
  subst hP hw hK
  obtain ⟨xs,ys,x,y,hq,hr,hx,hy⟩:=hg
  obtain ⟨its,rv,p,hz⟩:=I.list hq
  obtain ⟨jts,sv,p2,hz2⟩:=I.list hr
  obtain ⟨u,hu,ru⟩:=rv.get hx
  obtain ⟨v,hv,rw'⟩:=sv.get hy
  obtain ⟨q1,q2,⟨x0,y0,q3⟩,q4,q5⟩:=st
  have lz:z<s.heap.objs.size:=xA1 q1
  have lI:TI<s.heap.objs.size:=xA1 q2
  have lO:TO<s.heap.objs.size:=xA1 q3
  have l1:i1<s.heap.objs.size:=by obtain ⟨_,e,_⟩:=q4;exact xA1 e
  have l2:i2<s.heap.objs.size:=by obtain ⟨_,e,_⟩:=q5;exact xA1 e
  have h0:H s.heap.objs.size=none:=I.hok.fresh (xAg _)
  refine wpAny_pyNext_zip_item D q1 q2 q3 q4 q5 p.isList p2.isList (x:=u) (y:=v) (by simpa using hu) (by simpa using hv) fun h1 a1 a2 a3 a4 a5 a6 hk=>?_
  have I1:Inv X pins σ (upd H s.heap.objs.size (.tup [x,y])) { s with heap:=s.heap.push { cls:=.type "tuple",data:=.seq #[u,v] },toks:=s.toks }:=by
   refine I.laid (fun b o e=>xAf _ e) (xAg _) ⟨by simp [sizeLine_eq],[u,v],.cons ru (.cons rw' .nil),_,xAl _ rfl,rfl,_,rfl⟩
  refine ⟨_,rfl,wpAny_letOwnedTupleGo_zip (s:={ s with heap:=h1 }) a1 fun h2 b1 hs2=>?_⟩
  have hs2':Heap.SameBut z h1 h2:=hs2
  have fp':∀ b∈[z,TI,TO,i1,i2],FpOk X pins (upd H s.heap.objs.size (.tup [x,y])) b:=fun b hb=>by
   obtain ⟨f0,f⟩:=hf b hb
   refine ⟨?_,f⟩
   rw [ag]
   ·exact f0
   ·simp only [xAv,xBv,or_false] at hb
    rcases hb with rfl | rfl | rfl | rfl | rfl <;> exact xA0 (by assumption)
  have I2:=Inv.turnedL (t':=s.toks) (h':=h2) (fp:=[z,TI,TO,i1,i2]) I1 (fun b o hb eb=>?_) fp'
  ·refine ⟨.ref s.heap.objs.size,_,I2,rfl,⟨_,x,y,rfl,h0,rfl,fun ys hy=>by rw [I.list_inj hy hq];exact hx,fun ys hy'=>by rw [I.list_inj hy' hr];exact hy⟩,⟨b1,?_,⟨u,v,?_⟩,?_,?_⟩,fun b hb=>(fp' b hb).1⟩
   ·exact (hs2'.2 TI D.TIz).trans (hk _ _ D.TIz D.TITO D.TIi1 D.TIi2 q2)
   ·exact (hs2'.2 TO D.TOz).trans a2
   ·exact a3.at fun o e=>(hs2'.2 i1 D.i1z).trans e
   ·exact a4.at fun o e=>(hs2'.2 i2 D.i2z).trans e
  ·simp only [xAv,xBv,or_false,not_or] at hb
   rw [hs2'.2 b hb.1]
   by_cases zz:b=s.heap.objs.size
   ·subst zz
    rw [show h1.get? s.heap.objs.size=_ from a5]
    rw [← eb]
    exact (xAl _ rfl).symm
   ·refine hk b o hb.1 hb.2.2.1 hb.2.2.2.1 hb.2.2.2.2 ?_
    exact (Heap.get?_push_cases eb).elim (fun y=>absurd y.1 zz) id
 done:=by
  intro X hP hw hK hc i pins s σ H E I hf st hg
  subst hP hw hK
  obtain ⟨xs,ys,hq,hr,hx⟩:=hg
  obtain ⟨its,rv,p,hz⟩:=I.list hq
  obtain ⟨jts,sv,p2,hz2⟩:=I.list hr
  have hl:=rv.length
  have hl2:=sv.length
  obtain ⟨q1,q2,⟨x0,y0,q3⟩,q4,q5⟩:=st
  refine wpAny_pyNext_zip_end (I.ok.hd hc) D q1 q2 q3 q4 q5 p.isList p2.isList ?_ fun h' eb=>⟨rfl,Inv.turnedL (t':=s.toks) (fp:=[z,TI,TO,i1,i2]) I (fun b o hb e=>?_) hf⟩
  ·rcases hx with h | h
   ·exact .inl (by simp;omega)
   ·exact .inr (by simp;omega)
  ·simp only [xAv,xBv,or_false,not_or] at hb
   exact eb b o hb.1 hb.2.2.1 hb.2.2.2.1 hb.2.2.2.2 e
 self:=fun _ _ _ _ _ st h=>wpAny_pyIter_zip st.1 h
theorem gY (n l l2:Nat) (h1:l<n) (h2:l2<n):ZipApart (n+4) (n+2) (n+3) n (n+1) l l2:=by
 constructor <;> first | exact xA0 (by omega) | exact Nat.ne_of_gt (by omega)
theorem jE:bootBuiltins "zip"=some (.type "zip"):=by decide +kernel
section
variable {X:Cx}
def nIterZ (K:xFr) (vs:List V) (H:Hp) (R:It→Hp→Prop):Prop:=∃ a b,vs=[.ref a,.ref b]∧(∃ xs,SqL K H a xs)∧(∃ ys,SqL K H b ys)∧R (Itz K a b) H
def iZip (K:xFr) (ta:TA):TI:=fun σ H R=>ta σ H fun vs H1=>nIterZ K vs H1 R
theorem mD {a b:Expr} {ta:TA} {p pos pt:Pos} {elts:List Expr} {k:Nat} (hg:Gl X "zip") (hm:X.mg "zip"=none) (ha:PA X [a,b] ta) (hs:starEach [a,b] X.env=(false,eval a X.env)::starEach [b] X.env) (hs2:starEach [b] X.env=[(false,eval b X.env)]) :
  PI X (.Tuple elts k pt) (.Call (.Name "zip" p) [a,b] [] pos) (iZip X.K ta):=by
 intro pins s σ H R I h
 refine Call_ (cS I hg hm jE (PyProof.Rows.callWith_type1 (thn (ha pos pins s σ H _ I h) fun us s1 ⟨vs,H1,I1,r1,q1⟩=>?_) hs (by rw [hs2];rfl)))
 obtain ⟨l,l2,e,⟨xs,hq⟩,⟨ys,hr⟩,q⟩:=q1
 subst e
 cases r1 with
 | cons r rr =>
  cases rr with
  | cons r2 rr =>
   cases rr
   cases r
   cases r2
   obtain ⟨its,rv,pl,hz⟩:=I1.list hq
   obtain ⟨jts,sv,pl2,hz2⟩:=I1.list hr
   have t1:l<s1.heap.objs.size:=by obtain ⟨o,_,e,_⟩:=pl;exact xA1 e
   have t2:l2<s1.heap.objs.size:=by obtain ⟨o,_,e,_⟩:=pl2;exact xA1 e
   refine call_zip_2 pl.isList pl2.isList fun h' a1 a2 a3 a4 a5 hsz hk=>?_
   refine wpAny_pyIter_zip a1 ?_
   have I2:Inv X pins σ H1 { s1 with heap:=h' }:=I1.kept (t':=s1.toks) hk
   refine ⟨s1.heap.objs.size+4,[s1.heap.objs.size+4,s1.heap.objs.size+2,s1.heap.objs.size+3,s1.heap.objs.size,s1.heap.objs.size+1],_,_,H1,rfl,I2,iz l l2 _ _ _ _ _ ?_,⟨a1,a2,⟨_,_,a3⟩,a4,a5⟩,fun b hb=>?_,q⟩
   ·exact gY _ _ _ t1 t2
   ·have hb':s1.heap.objs.size≤b:=by
     simp only [xAv,xBv,or_false] at hb
     rcases hb with rfl | rfl | rfl | rfl | rfl <;> omega
    exact I1.fpOk hb' (I1.hok.fresh hb')
theorem iG {a b:Expr} {tas:TA} {p pos pt:Pos} {elts:List Expr} {k:Nat} (hg:Gl X "zip") (hm:X.mg "zip"=none) (ha:QA X [a,b] tas) (h:noStar a=true:=by rfl) (h2:noStar b=true:=by rfl):QI X (.Tuple elts k pt) (.Call (.Name "zip" p) [a,b] [] pos) (iZip X.K tas) :=
 ⟨mD hg hm ha.h (av h) (by rw [av h2];rfl)⟩
end
section
variable {K:xFr} {σ:St} {H:Hp} {R:It→Hp→Prop} {tas:TA} {a b:Addr} {xs ys:List V}
theorem pz (h:tas σ H fun vs H1=>nIterZ K vs H1 R):iZip K tas σ H R:=h
theorem gy (e:H a=some (.lst xs)) (e2:H b=some (.lst ys)) (h:R (Itz K a b) H):nIterZ K [.ref a,.ref b] H R:=⟨a,b,rfl,⟨xs,.of e⟩,⟨ys,.of e2⟩,h⟩
theorem lD (hl:xs.length=ys.length):Wk (Itz K a b) (fun H=>SqL K H a xs∧SqL K H b ys) xs.length (fun i H x H'=>∃ (p:Addr) (u v:V),x = .ref p∧H p=none∧H'=upd H p (.tup [u,v])∧xs[i]?=some u∧ys[i]?=some v) :=
 ⟨fun i H p h=>⟨xs,ys,xs[i],ys[i]'(by omega),p.1,p.2,by simp [h],by simp⟩,fun i H x H' p h ⟨q,u,v,y1,y2,y3,y4,y5⟩=>⟨q,u,v,y1,y2,y3,y4 xs p.1,y5 ys p.2⟩,fun H p=>⟨xs,ys,p.1,p.2,.inl (xAg _)⟩⟩
end
end L2
namespace SortP
open PySem PySem.W PyProof.Rows
section
variable {n:Nat} {key:Nat→Int} {s:Shared} {cmp:Nat→Nat→(Bool→Shared→Prop)→Shared→Prop} {p:Array Nat}
def Asks (n:Nat) (key:Nat→Int) (s:Shared) (cmp:Nat→Nat→(Bool→Shared→Prop)→Shared→Prop):Prop:=∀ i j (C:Bool→Shared→Prop),i<n→j<n→i≠j→C (decide (key i<key j)) s→cmp i j C s
def Inj (n:Nat) (key:Nat→Int):Prop:=∀ i j,i<n→j<n→i≠j→key i≠key j
def kp (key:Nat→Int) (p:Array Nat) (i:Nat):Int:=key (p.getD i 0)
def Pm (n:Nat) (p:Array Nat):Prop:=p.toList.Perm (List.range n)
def Up (key:Nat→Int) (p:Array Nat) (m:Nat):Prop:=∀ i j,i<j→j<m→kp key p i<kp key p j
def Dn (key:Nat→Int) (p:Array Nat) (m:Nat):Prop:=∀ i j,i<j→j<m→kp key p j<kp key p i
theorem gl (p:Array Nat) (i:Nat):p.getD i 0=p[i]?.getD 0:=by simp
theorem fF {q:Array Nat} {i j:Nat} (h:p[i]?=q[j]?):kp key p i=kp key q j:=by unfold kp;rw [gl,gl,h]
theorem Pm.size (h:Pm n p):p.size=n:=by
 have:=h.length_eq
 simpa using this
theorem Pm.at (h:Pm n p) {i:Nat} (hi:i<n):∃ x,p[i]?=some x∧p.getD i 0=x∧x<n:=by
 have hs:=h.size
 refine ⟨p[i]'(by omega),by simp [hs,hi],by rw [gl];simp [hs,hi],?_⟩
 have:p[i]'(by omega)∈p.toList:=by simp
 exact List.mem_range.mp (h.mem_iff.mp this)
theorem Pm.lt (h:Pm n p) {i:Nat} (hi:i<n):p.getD i 0<n:=by
 obtain ⟨x,_,e,l⟩:=h.at hi
 rw [e]
 exact l
theorem Pm.ne (h:Pm n p) {i j:Nat} (hi:i<n) (hj:j<n) (hij:i≠j):p.getD i 0≠p.getD j 0:=by
 obtain ⟨x,e1,e2,_⟩:=h.at hi
 obtain ⟨y,g1,g2,_⟩:=h.at hj
 rw [e2,g2]
 rintro rfl
 have nd:p.toList.Nodup:=h.symm.nodup List.nodup_range
 have hs:=h.size
 have l1:p.toList[i]?=some x:=by simpa using e1
 have l2:p.toList[j]?=some x:=by simpa using g1
 exact hij ((List.getElem?_inj (by simpa [hs] using hi) nd).mp (l1.trans l2.symm))
theorem Pm.kne (h:Pm n p) (hk:Inj n key) {i j:Nat} (hi:i<n) (hj:j<n) (hij:i≠j):kp key p i≠kp key p j:=hk _ _ (h.lt hi) (h.lt hj) (h.ne hi hj hij)
theorem Asks.two (ha:Asks n key s cmp) (h:Pm n p) {i j:Nat} {C:Bool→Shared→Prop} (hi:i<n) (hj:j<n) (hij:i≠j) (hc:C (decide (kp key p i<kp key p j)) s):cmp (p.getD i 0) (p.getD j 0) C s:=ha _ _ C (h.lt hi) (h.lt hj) (h.ne hi hj hij) hc
theorem asc_ok {Q:Nat→Shared→Prop} (ha:Asks n key s cmp) (hk:Inj n key) (hp:Pm n p):∀ f m,1≤m→m+f≤n→Up key p m→(∀ m',m≤m'→m'≤m+f→Up key p m'→(m'=m+f∨kp key p m'<kp key p (m' - 1))→Q m' s)→(kas_asc p f m).kasWp cmp Q s
 | 0,m,_,_,hu,h=>h m (xAg _) (xAg _) hu (.inl rfl)
 | f+1,m,h1,h2,hu,h=>by
  change cmp (p.getD m 0) (p.getD (m - 1) 0) (fun c s'=>(if c=true then KasT.ret m else kas_asc p f (m+1)).kasWp cmp Q s') s
  refine ha.two hp (by omega) (by omega) (by omega) ?_
  by_cases c:kp key p m<kp key p (m - 1)
  ·rw [xBd c,xCg rfl]
   exact h m (xAg _) (by omega) hu (.inr c)
  ·rw [decide_eq_false c,xCf xAy]
   refine asc_ok ha hk hp f (m+1) (by omega) (by omega) (fun i j hij hj=>?_) fun m' a b u o=>h m' (by omega) (by omega) u (by omega)
   by_cases hjm:j<m
   ·exact hu i j hij hjm
   ·obtain rfl:j=m:=by omega
    have ne:=hp.kne hk (show j<n by omega) (show j - 1<n by omega) (by omega)
    by_cases hi:i=j - 1
    ·rw [hi];omega
    ·have:=hu i (j - 1) (by omega) (by omega)
     omega
theorem desc_ok {Q:Array Nat×Nat×Nat→Shared→Prop} (ha:Asks n key s cmp) (hk:Inj n key) (hp:Pm n p):∀ f m,2≤m→m+f≤n→Dn key p m→(∀ m',m≤m'→m'≤m+f→Dn key p m'→Q (p,m',0) s)→(kas_desc f p m 0).kasWp cmp Q s
 | 0,m,_,_,hu,h=>h m (xAg _) (xAg _) hu
 | f+1,m,h1,h2,hu,h=>by
  have ne:=hp.kne hk (show m<n by omega) (show m - 1<n by omega) (by omega)
  change cmp (p.getD m 0) (p.getD (m - 1) 0) (fun c s'=>(if c=true then (if 0 > 0 then kas_desc f (kas_rev p (m - (0+1)) m) (m+1) 0 else kas_desc f p (m+1) 0) else KasT.ask (p.getD (m - 1) 0) (p.getD m 0) fun d=>if d=true then KasT.ret (p,m,0) else kas_desc f p (m+1) (0+1)).kasWp cmp Q s') s
  refine ha.two hp (by omega) (by omega) (by omega) ?_
  by_cases c:kp key p m<kp key p (m - 1)
  ·rw [xBd c,xCg rfl,xCf (xBo 0)]
   refine desc_ok ha hk hp f (m+1) (by omega) (by omega) (fun i j hij hj=>?_) fun m' a b u=>h m' (by omega) (by omega) u
   by_cases hjm:j<m
   ·exact hu i j hij hjm
   ·obtain rfl:j=m:=by omega
    by_cases hi:i=j - 1
    ·rw [hi];exact c
    ·have:=hu i (j - 1) (by omega) (by omega)
     omega
  ·rw [decide_eq_false c,xCf xAy]
   change cmp (p.getD (m - 1) 0) (p.getD m 0) (fun d s'=>(if d=true then KasT.ret (p,m,0) else kas_desc f p (m+1) (0+1)).kasWp cmp Q s') s
   refine ha.two hp (by omega) (by omega) (by omega) ?_
   rw [xBd (by omega),xCg rfl]
   exact h m (xAg _) (by omega) hu
theorem iB (hp:Pm n p) {m:Nat} (hm:m≤n) (i:Nat):kp key (kas_rev p 0 m) i=if i<m then kp key p (m - 1 - i) else kp key p i:=by
 have e:=getElem?_mirror_all (xs:=p) (i:=0) (j:=m) (by rw [hp.size];exact hm) i
 by_cases h:i<m
 ·rw [xCg h]
  rw [xCg (by omega)] at e
  exact fF (by rw [show m - 1 - i=0+m - 1 - i by omega];exact e)
 ·rw [xCf h]
  rw [xCf (by omega)] at e
  exact fF e
theorem iA (hp:Pm n p) (m:Nat):Pm n (kas_rev p 0 m):=(Array.perm_iff_toList_perm.mp (mirror_perm p 0 m _)).trans hp
theorem lJ (hp:Pm n p) {m:Nat} (hm:m≤n) (hd:Dn key p m):Up key (kas_rev p 0 m) m:=fun i j hij hj=>by
 rw [iB hp hm,iB hp hm,xCg (by omega),xCg hj]
 exact hd _ _ (by omega) (by omega)
theorem jA {Q:Nat×Array Nat→Shared→Prop} (ha:Asks n key s cmp) (hk:Inj n key) (hp:Pm n p) (h2:2≤n) (h:∀ m p',1≤m→m≤n→Pm n p'→Up key p' m→Q (m,p') s):(kas_count n p).kasWp cmp Q s:=by
 unfold kas_count
 rw [KasT.kasWp_bind]
 refine asc_ok ha hk hp (n - 1) 1 (xAg _) (by omega) (fun i j hij hj=>by omega) fun m h1 hm hu ho=>?_
 by_cases e:(m == n)=true
 ·rw [xCg e]
  have:m=n:=by simpa using e
  exact h m p (by omega) (by omega) hp hu
 ·rw [xCf e]
  have e':m≠n:=by simpa using e
  by_cases g:m > 1
  ·rw [xCg g]
   change cmp (p.getD 0 0) (p.getD (m - 1) 0) (fun c s'=>(if c=true then KasT.ret (m,p) else kas_descPart m n (kas_rev p 0 m)).kasWp cmp Q s') s
   refine ha.two hp (by omega) (by omega) (by omega) ?_
   rw [xBd (hu 0 (m - 1) (by omega) (by omega)),xCg rfl]
   exact h m p (by omega) (by omega) hp hu
  ·rw [xCf g]
   obtain rfl:m=1:=by omega
   unfold kas_descPart
   rw [KasT.kasWp_bind]
   have c:kp key p 1<kp key p 0:=by
    rcases ho with ho | ho
    ·omega
    ·exact ho
   refine desc_ok ha hk hp (n - (1+1)) 2 (xAg _) (by omega) (fun i j hij hj=>?_) fun m' a b hd=>?_
   ·obtain rfl:j=1:=by omega
    obtain rfl:i=0:=by omega
    exact c
   ·rw [xCf (xBo 0)]
    unfold kas_tail3
    rw [KasT.kasWp_bind]
    have hm':m'≤n:=by omega
    exact asc_ok ha hk (iA hp m') (n - m') m' (by omega) (by omega) (lJ hp hm' hd) fun m2 a2 b2 u2 _=>h m2 _ (by omega) (by omega) (iA hp m') u2
theorem dG {Q:Nat→Shared→Prop} (ha:Asks n key s cmp) (hk:Inj n key) (hp:Pm n p) {k:Nat} (hkn:k<n) (hu:Up key p k):∀ f l r,l≤r→r≤k→r - l≤f→(∀ i,i<l→kp key p i<kp key p k)→(∀ i,r≤i→i<k→kp key p k<kp key p i) →
  (∀ l',l'≤k→(∀ i,i<l'→kp key p i<kp key p k)→(∀ i,l'≤i→i<k→kp key p k<kp key p i)→Q l' s)→(kas_place p k f l r).kasWp cmp Q s
 | 0,l,r,h1,h2,h3,a,b,h=>by
  obtain rfl:l=r:=by omega
  exact h l h2 a b
 | f+1,l,r,h1,h2,h3,a,b,h=>by
  unfold kas_place
  by_cases g:l ≥ r
  ·rw [xCg g]
   obtain rfl:l=r:=by omega
   exact h l h2 a b
  ·rw [xCf g]
   change cmp (p.getD k 0) (p.getD ((l+r) / 2) 0) (fun c s'=>(if c=true then kas_place p k f l ((l+r) / 2) else kas_place p k f ((l+r) / 2+1) r).kasWp cmp Q s') s
   refine ha.two hp hkn (by omega) (by omega) ?_
   have ne:=hp.kne hk hkn (show (l+r) / 2<n by omega) (by omega)
   by_cases c:kp key p k<kp key p ((l+r) / 2)
   ·rw [xBd c,xCg rfl]
    refine dG ha hk hp hkn hu f l ((l+r) / 2) (by omega) (by omega) (by omega) a (fun i i1 i2=>?_) h
    by_cases z:i=(l+r) / 2
    ·rw [z];exact c
    ·have:=hu ((l+r) / 2) i (by omega) i2
     omega
   ·rw [decide_eq_false c,xCf xAy]
    refine dG ha hk hp hkn hu f ((l+r) / 2+1) r (by omega) (by omega) (by omega) (fun i i1=>?_) b h
    by_cases z:i=(l+r) / 2
    ·rw [z];omega
    ·have:=hu i ((l+r) / 2) (by omega) (by omega)
     omega
theorem jD (hp:Pm n p) {k d:Nat} (hk:k<n) (hd:d≤k) (i:Nat):kp key (bubble p k d) i=if i=k - d then kp key p k else if k - d<i∧i≤k then kp key p (i - 1) else kp key p i:=by
 have e:=getElem?_bubble (xs:=p) (by rw [hp.size];exact hk) d hd i
 repeat' split at e
 ·rw [xCg (by assumption)];exact fF e
 ·rw [xCf (by assumption),xCg (by assumption)];exact fF e
 ·rw [xCf (by assumption),xCf (by assumption)];exact fF e
theorem nF (hp:Pm n p) (k d:Nat):Pm n (bubble p k d):=(Array.perm_iff_toList_perm.mp (bubble_perm p k d)).trans hp
theorem jF {Q:Array Nat→Shared→Prop} (ha:Asks n key s cmp) (hk:Inj n key) (h:∀ p',Pm n p'→Up key p' n→Q p' s):∀ f k (p:Array Nat),Pm n p→k+f=n→Up key p k→(kas_bin f p k).kasWp cmp Q s
 | 0,k,p,hp,h1,hu=>h p hp (by rw [← h1];exact hu)
 | f+1,k,p,hp,h1,hu=>by
  unfold kas_bin
  rw [KasT.kasWp_bind]
  refine dG ha hk hp (by omega) hu k 0 k (xBn _) (xAg _) (by omega) (fun i hi=>by omega) (fun i a b=>by omega) fun l hl a b=>?_
  refine jF ha hk h f (k+1) _ (nF hp k (k - l)) (by omega) fun i j hij hj=>?_
  rw [jD hp (by omega) (by omega),jD hp (by omega) (by omega),show k - (k - l)=l by omega]
  repeat' split
  all_goals first
   | (exfalso;omega)
   | exact a _ (by omega)
   | exact b _ (by omega) (by omega)
   | exact hu _ _ (by omega) (by omega)
theorem jL {Q:Array Nat→Shared→Prop} (ha:Asks n key s cmp) (hk:Inj n key) (h2:2≤n) (h:∀ p',Pm n p'→Up key p' n→Q p' s):(kas_sort n).kasWp cmp Q s:=by
 unfold kas_sort
 rw [KasT.kasWp_bind]
 refine jA ha hk (show Pm n (List.toArray (List.range n)) from .refl _) h2 fun m p' h1 hm hp hu=>?_
 by_cases g:m<n
 ·rw [xCg g]
  refine jF ha hk h (n - max m 1) (max m 1) p' hp (by omega) (by rw [show max m 1=m by omega];exact hu)
 ·rw [xCf g]
  obtain rfl:m=n:=by omega
  exact h p' hp hu
end
end SortP
namespace SortP
open PySem PySem.W PyProof.Rows
def PairAt (h:Heap) (r:Addr×Int×Int):Prop:=∃ o t u k,h.get? r.1=some o∧o.cls = .type "tuple"∧o.data = .seq #[.int r.2.1 t,.int r.2.2 u] k
theorem firsts {h:Heap}:∀ {rs:List (Addr×Int×Int)},(∀ r∈rs,PairAt h r)→∃ fs,KatTups h (rs.map fun r=>Value.ref r.1) fs∧fs.length=rs.length∧∀ v∈fs,∃ i t,v=Value.int i t
 | [],_=>⟨[],.nil,rfl,fun v hv=>nomatch hv⟩
 | r::rs,hr=>by
  obtain ⟨fs,f1,f2,f3⟩:=firsts fun x hx=>hr x (xAs _ hx)
  obtain ⟨o,t,u,k,e1,e2,e3⟩:=hr r (xAr ..)
  refine ⟨.int r.2.1 t::fs,.cons e1 e2 e3 rfl f1,by rw [xAo,f2,xAo],fun v hv=>?_⟩
  rcases xAv.mp hv with rfl | hv
  ·exact ⟨_,_,rfl⟩
  ·exact f3 v hv
def r0:Addr×Int×Int:=(0,0,0)
theorem eT {rs:List (Addr×Int×Int)} {i:Nat} (hi:i<rs.length):(rs.map fun r=>Value.ref r.1).getD i Value.none = .ref (rs.getD i r0).1:=by
 rw [xBz,xBz,xAw,xAk hi]
 rfl
theorem fH {rs:List (Addr×Int×Int)} {i:Nat} (hi:i<rs.length):rs.getD i r0∈rs:=by
 rw [xBz,xAk hi]
 exact List.getElem_mem hi
section
variable {prog:Program} {w:World} {A:Around} {E:Value→Shared→Prop} {s:Shared}
theorem gt {rs:List (Addr×Int×Int)} (hr:∀ r∈rs,PairAt s.heap r) (hd:(rs.map (·.2.1)).Nodup):Asks rs.length (fun i=>(rs.getD i r0).2.1) s (kas_ask prog w A (tuples' true) (rs.map fun r=>Value.ref r.1)):=by
 intro i j C hi hj hij hc
 unfold kas_ask
 rw [eT hi,eT hj]
 obtain ⟨o,t,u,k,e1,e2,e3⟩:=hr _ (fH hi)
 obtain ⟨o',t',u',k',g1,g2,g3⟩:=hr _ (fH hj)
 have ne:(rs.getD i r0).2.1≠(rs.getD j r0).2.1:=by
  intro z
  have a1:(rs.map (·.2.1))[i]?=some (rs.getD i r0).2.1:=by
   rw [xAw,xBz,xAk hi]
   rfl
  have a2:(rs.map (·.2.1))[j]?=some (rs.getD j r0).2.1:=by
   rw [xAw,xBz,xAk hj]
   rfl
  rw [← z] at a2
  exact hij ((List.getElem?_inj (by rw [xAa];exact hi) hd).mp (a1.trans a2.symm))
 refine kat_lt e1 e3 g1 g3 ?_
 refine kat_cons (wpAny_eqBool_int ?_)
 rw [show ((rs.getD i r0).2.1 == (rs.getD j r0).2.1)=false by simpa using ne]
 refine kat_no ?_
 exact oneLt_int hc
theorem fS {a:Addr} {rs:List (Addr×Int×Int)} {n:Nat} {P:PySem.Fin→Shared→Prop} (ho:s.heap.get? a=some (seqObj "list" (rs.map fun r=>Value.ref r.1).toArray n)) (hr:∀ r∈rs,PairAt s.heap r) (h64:rs.length<64) (hd:(rs.map (·.2.1)).Nodup)
  (h:∀ rs':List (Addr×Int×Int),rs'.Perm rs→rs'.Pairwise (fun x y=>x.2.1<y.2.1)→P (.done (.ret .none)) { s with heap:=sortedHeap s.heap a (rs.map fun r=>Value.ref r.1) (rs'.map fun r=>Value.ref r.1).toArray }):wpAny (model prog w) A (Builtin.«list.sort» ⟨[.ref a],[]⟩) P E s:=by
 rw [list_sort_plain]
 have hlt:a<s.heap.objs.size:=xA1 ho
 have hz0:(64:Nat)≤sizeLine:=by rw [sizeLine_eq];decide
 have hz1:(rs.map fun r=>Value.ref r.1).toArray.size≤sizeLine:=by rw [xAp,xAa];omega
 refine xAd (listItems_at ho rfl (xAd (listUpdate_at ho rfl ?_ hz1 (xBn _))))
 obtain ⟨e1,g1⟩:∃ e1,(s.heap.update a (Obj.mapSeq fun _=>#[])).get? a=some (seqObj "list" #[] e1):=⟨_,get?_update_seq ho (fun _=>#[])⟩
 refine xAd (seqEpoch_at g1 rfl (xAd (wpAny_newTuple (xAd (wpAny_newList (wpAny_holding ?_))))))
 have old:∀ b o,b≠a→s.heap.get? b=some o→(((s.heap.update a (Obj.mapSeq fun _=>#[])).push (seqObj "tuple" (rs.map fun r=>Value.ref r.1).toArray 0)).push (seqObj "list" #[] 0)).get? b=some o:=fun b o hb e=>by
  refine xAf _ (xAf _ ?_)
  rw [Heap.get?_update_ne _ _ _ _ hb]
  exact e
 have g6:(((s.heap.update a (Obj.mapSeq fun _=>#[])).push (seqObj "tuple" (rs.map fun r=>Value.ref r.1).toArray 0)).push (seqObj "list" #[] 0)).get? a=some (seqObj "list" #[] e1):=by
  exact xAf _ (xAf _ g1)
 change wpAny (model prog w) A _ P E { s with heap:=((s.heap.update a (Obj.mapSeq fun _=>#[])).push (seqObj "tuple" (rs.map fun r=>Value.ref r.1).toArray 0)).push (seqObj "list" #[] 0) }
 dsimp only
 by_cases few:(rs.map fun r=>Value.ref r.1).toArray.size<2
 ·rw [xCg few,xCg few]
  refine xAd (xAe ?_)
  rw [StateT.run_pure]
  refine xAd (xAe ?_)
  dsimp only
  have few':rs.length<2:=by rw [xAp,xAa] at few;exact few
  have eo:((rs.map fun r=>Value.ref r.1).toArray.zip (rs.map fun r=>Value.ref r.1).toArray).map (·.2)=(rs.map fun r=>Value.ref r.1).toArray:=by
   apply Array.toList_inj.mp
   rw [Array.toList_map,Array.toList_zip]
   exact List.map_snd_zip (xAg _)
  refine xAd (seqEpoch_at g6 rfl (xAd (listUpdate_at g6 rfl ?_ (xBn _) ?_)))
  ·simp only [bne_self_eq_false,xAz,if_false]
   have q:=h rs (.refl _) (by
    rcases rs with _ | ⟨r,_ | ⟨r',rs⟩⟩
    ·exact .nil
    ·exact List.pairwise_singleton _ _
    ·rw [xAo,xAo] at few';omega)
   rw [← eo] at q
   exact xAe q
  ·refine Nat.le_trans (Nat.le_of_eq ?_) (Nat.le_succ_of_le hz1)
   exact congrArg Array.size eo
 ·rw [xCf few,xCf few]
  have h2:2≤rs.length:=by rw [xAp,xAa] at few;omega
  have hra:∀ r∈rs,PairAt (((s.heap.update a (Obj.mapSeq fun _=>#[])).push (seqObj "tuple" (rs.map fun r=>Value.ref r.1).toArray 0)).push (seqObj "list" #[] 0)) r:=fun r hm=>by
   obtain ⟨o,t,u,k,q1,q2,q3⟩:=hr r hm
   refine ⟨o,t,u,k,old _ _ (fun z=>?_) q1,q2,q3⟩
   rw [z,ho] at q1
   cases q1
   exact absurd (show Value.type "list"=Value.type "tuple" from q2) (by decide)
  obtain ⟨fs,f1,f2,f3⟩:=firsts hra
  refine xAd (kat_kind (T:=.type "int") f1 (by omega) (fun v hv=>?_) rfl ?_)
  ·obtain ⟨i,t,rfl⟩:=f3 v hv
   exact .now
  refine xAd (wpAny_mono (kat_run (vs:=rs.map fun r=>Value.ref r.1) (ks:=rs.map fun r=>Value.ref r.1) (G:=fun p s'=>s'={ s with heap:=((s.heap.update a (Obj.mapSeq fun _=>#[])).push (seqObj "tuple" (rs.map fun r=>Value.ref r.1).toArray 0)).push (seqObj "list" #[] 0) }∧Pm rs.length p∧Up (fun i=>(rs.getD i r0).2.1) p rs.length) (Q:=fun st' s'=>∃ p:Array Nat,arrOf st'=p.map (kas_item ((rs.map fun r=>Value.ref r.1).toArray.zip (rs.map fun r=>Value.ref r.1).toArray))∧failedOf st'=none∧s'={ s with heap:=((s.heap.update a (Obj.mapSeq fun _=>#[])).push (seqObj "tuple" (rs.map fun r=>Value.ref r.1).toArray 0)).push (seqObj "list" #[] 0) }∧Pm rs.length p∧Up (fun i=>(rs.getD i r0).2.1) p rs.length)
   rfl (by rw [xAa];exact h2) (by rw [xAa];exact h64) (fun p' st' s' a1 a2 a3 a4=>⟨p',a2,a3,a4⟩) ?_) ?_ fun _ _ e=>e)
  ·rw [xAa]
   refine jL (gt hra hd) ?_ h2 fun p' hp hu=>⟨rfl,hp,hu⟩
   intro i j hi hj hij z
   have a1:(rs.map (·.2.1))[i]?=some (rs.getD i r0).2.1:=by
    rw [xAw,xBz,xAk hi]
    rfl
   have a2:(rs.map (·.2.1))[j]?=some (rs.getD j r0).2.1:=by
    rw [xAw,xBz,xAk hj]
    rfl
   dsimp only at z
   rw [← z] at a2
   exact hij ((List.getElem?_inj (by rw [xAa];exact hi) hd).mp (a1.trans a2.symm))
  rintro ⟨⟨⟩,st'⟩ s' ⟨p,har,hf,rfl,hp,hu⟩
  dsimp only
  have hs:=hp.size
  have hout:(arrOf st').map (·.2)=((p.toList.map fun i=>rs.getD i r0).map fun r=>Value.ref r.1).toArray:=by
   rw [kat_snds rfl har]
   congr 1
   rw [xCc]
   refine List.map_congr_left fun i hi=>?_
   exact eT (List.mem_range.mp (hp.mem_iff.mp hi))
  have hpr:(p.toList.map fun i=>rs.getD i r0).Perm rs:=by
   refine (hp.map _).trans (.of_eq ?_)
   refine List.ext_getElem? fun i=>?_
   rw [xAw]
   by_cases hi:i<rs.length
   ·rw [List.getElem?_range hi,xAk hi]
    simp [hi]
   ·rw [List.getElem?_eq_none (by simpa using hi),List.getElem?_eq_none (by omega)]
    rfl
  have hpw:(p.toList.map fun i=>rs.getD i r0).Pairwise (fun x y=>x.2.1<y.2.1):=by
   rw [List.pairwise_map,List.pairwise_iff_getElem]
   intro i j hi hj hij
   have hi':i<p.size:=by simpa using hi
   have hj':j<p.size:=by simpa using hj
   have:=hu i j hij (by omega)
   unfold kp at this
   rw [show p.getD i 0=p.toList[i] by simp [hi'],show p.getD j 0=p.toList[j] by simp [hj']] at this
   exact this
  refine xAd (seqEpoch_at g6 rfl (xAd (listUpdate_at g6 rfl ?_ (xBn _) ?_)))
  ·rw [hf]
   simp only [bne_self_eq_false,xAz,if_false]
   have q:=h _ hpr hpw
   rw [← hout] at q
   exact xAe q
  ·rw [hout,xAp,xAa,hpr.length_eq]
   omega
end
end SortP
namespace SortP
open PySem PySem.W PyProof.Rows
section
variable {prog:Program} {w:World} {A:Around} {E:Value→Shared→Prop} {s:Shared}
theorem sorted_pairs {l:Addr} {rs:List (Addr×Int×Int)} {Q:Value→Shared→Prop} (hl:s.heap.IsList l (rs.map fun r=>Value.ref r.1).toArray) (hr:∀ r∈rs,PairAt s.heap r) (h64:rs.length<64) (hd:(rs.map (·.2.1)).Nodup)
  (h:∀ rs':List (Addr×Int×Int),rs'.Perm rs→rs'.Pairwise (fun x y=>x.2.1<y.2.1)→Q (.ref (s.heap.objs.size+1)) { s with heap:=sortedAll s.heap (rs.map fun r=>Value.ref r.1) (rs'.map fun r=>Value.ref r.1).toArray }):wpAny (model prog w) A (call (.builtin "sorted") [.ref l]) Q E s:=by
 have hz0:(64:Nat)≤sizeLine:=by rw [sizeLine_eq];decide
 refine Calls.call_function_entry kind_sorted plain_sorted entry_sorted (args_sorted1 _) ?_
 unfold Builtin.«sorted»
 refine xAd (m:=checkCount "sorted" 1 1 _) (xAe (xAd (collect_list hl (xAd (wpAny_newList ?_)) (by rw [xAa];omega))))
 have hsz:((s.heap.push (seqObj "list" #[] 0)).update s.heap.objs.size (Obj.mapSeq (·++(rs.map fun r=>Value.ref r.1).toArray))).objs.size=s.heap.objs.size+1:=by rw [Heap.size_update,size_push']
 have gL:(((s.heap.push (seqObj "list" #[] 0)).update s.heap.objs.size (Obj.mapSeq (·++(rs.map fun r=>Value.ref r.1).toArray))).push (seqObj "list" (rs.map fun r=>Value.ref r.1).toArray 0)).get? (s.heap.objs.size+1)=some (seqObj "list" (rs.map fun r=>Value.ref r.1).toArray 0):=by
  rw [← hsz]
  exact xAl _ rfl
 have keep:∀ b o,s.heap.get? b=some o→(((s.heap.push (seqObj "list" #[] 0)).update s.heap.objs.size (Obj.mapSeq (·++(rs.map fun r=>Value.ref r.1).toArray))).push (seqObj "list" (rs.map fun r=>Value.ref r.1).toArray 0)).get? b=some o:=fun b o q=>by
  have hlt:b<s.heap.objs.size:=xA1 q
  refine xAf _ ?_
  rw [Heap.get?_update_ne _ _ _ _ (xA0 hlt),Heap.get?_push_ne _ _ _ (xA0 hlt)]
  exact q
 change wpAny _ _ _ _ _ { s with heap:=((s.heap.push (seqObj "list" #[] 0)).update s.heap.objs.size (Obj.mapSeq (·++(rs.map fun r=>Value.ref r.1).toArray))).push (seqObj "list" (rs.map fun r=>Value.ref r.1).toArray 0) }
 rw [hsz]
 refine xAd (wpAny_holding (wpAny_call_entry slot_list_sort ⟨_,gL,rfl⟩ entry_list_sort (fS gL (fun r hm=>?_) h64 hd fun rs' q1 q2=>⟨_,rfl,?_⟩) (args_list_sort _)))
 ·obtain ⟨o,t,u,k,q1,q2,q3⟩:=hr r hm
  exact ⟨o,t,u,k,keep _ _ q1,q2,q3⟩
 ·exact xAe ⟨_,rfl,h rs' q1 q2⟩
end
end SortP
namespace L2
open PySem PySem.Spec PyProof.Rows
def PairsAt (H:Hp) (rs:List (Addr×Int×Int)):Prop:=∀ r∈rs,H r.1=some (.tup [.int r.2.1,.int r.2.2])
def cSortedP (K:xFr):List V→Hp→VK→Prop:=fun xs H Q=>∃ (p:Addr) (rs:List (Addr×Int×Int)),xs=[.ref p]∧SqL K H p (rs.map fun r=>V.ref r.1)∧PairsAt H rs∧rs.length<64∧(rs.map (·.2.1)).Nodup ∧
 ∀ (l:Addr) (rs':List (Addr×Int×Int)),H l=none→rs'.Perm rs→rs'.Pairwise (fun x y=>x.2.1<y.2.1)→Q (.ref l) (upd H l (.lst (rs'.map fun r=>V.ref r.1)))
theorem dY:∀ {rs:List (Addr×Int×Int)} {us:List Value},Vals (rs.map fun r=>V.ref r.1) us→us=rs.map fun r=>Value.ref r.1
 | [],_,h=>by cases h;rfl
 | r::rs,_,h=>by
  cases h with
  | cons a b =>
   rw [dY b,show _=Value.ref r.1 from a]
   rfl
theorem d6:∀ (rs:List (Addr×Int×Int)),Vals (rs.map fun r=>V.ref r.1) (rs.map fun r=>Value.ref r.1)
 | []=>.nil
 | r::rs=>.cons rfl (d6 rs)
section
variable {X:Cx}
theorem gp:CallR X (.builtin "sorted") (cSortedP X.K):=by
 intro pins s σ H xs us Q I r h
 obtain ⟨p,rs,rfl,hS,hp,h64,hd,q⟩:=h
 obtain ⟨u,rfl,ru⟩:=vals1 r
 obtain rfl:u=Value.ref p:=ru
 obtain ⟨its,r1,t1,z1⟩:=I.list hS
 obtain rfl:=dY r1
 refine SortP.sorted_pairs t1.isList (fun r hm=>?_) h64 hd fun rs' q1 q2=>?_
 ·obtain ⟨_,jts,v1,o,e1,e2,k,e3⟩:=(show ObjOk X.prog X.w H s.heap r.1 (.tup _) from I.hok r.1 _ (hp r hm))
  obtain ⟨v,w,rfl,⟨t,rfl⟩,u,rfl⟩:=v1.two
  exact ⟨o,t,u,k,e1,e2,e3⟩
 ·obtain ⟨e,g⟩:=sortedAll_at s.heap (rs.map fun r=>Value.ref r.1) (rs'.map fun r=>Value.ref r.1).toArray
  have hfree:H (s.heap.objs.size+1)=none:=I.hok.fresh (Nat.le_succ _)
  refine ⟨.ref (s.heap.objs.size+1),_,I.laid (a:=s.heap.objs.size+1) (o:=.lst (rs'.map fun r=>V.ref r.1)) (t':=s.toks) (fun _ _=>sortedAll_old) (Nat.le_succ _) ?_,rfl,q _ rs' hfree q1 q2⟩
  refine ⟨?_,rs'.map fun r=>Value.ref r.1,e,d6 rs',g⟩
  rw [xAa,q1.length_eq]
  rw [xAa] at z1
  exact z1
end
theorem g9 {K:xFr} {H:Hp} {Q:VK} {p:Addr} {rs:List (Addr×Int×Int)} (e:H p=some (.lst (rs.map fun r=>V.ref r.1))) (hp:PairsAt H rs) (h64:rs.length<64) (hd:(rs.map (·.2.1)).Nodup)
  (h:∀ (l:Addr) (rs':List (Addr×Int×Int)) (H2:Hp),Same H H2→H l=none→H2 l=some (.lst (rs'.map fun r=>V.ref r.1))→rs'.Perm rs→rs'.Pairwise (fun x y=>x.2.1<y.2.1)→Q (.ref l) H2):cSortedP K [.ref p] H Q :=
 ⟨p,rs,rfl,.of e,hp,h64,hd,fun l rs' hl h1 h2=>h l rs' _ (am hl _) hl ac h1 h2⟩
def rIndex:V→List V→Hp→VK→Prop:=fun x vs H Q=>∃ (l:Addr) (ws:List Str) (y:Str) (j:Nat),x = .ref l∧vs=[.str y]∧H l=some (.lst (ws.map V.str))∧ws[j]?=some y∧(∀ i:Nat,i<j→ws[i]?≠some y)∧Q (.int (j:Nat)) H
theorem jV {H:Hp} {Q:VK} {l:Addr} {ws:List Str} {y:Str} {j:Nat} (e:H l=some (.lst (ws.map V.str))) (h1:ws[j]?=some y) (h2:∀ i:Nat,i<j→ws[i]?≠some y) (h:Q (.int (j:Nat)) H):rIndex (.ref l) [.str y] H Q:=⟨l,ws,y,j,rfl,rfl,e,h1,h2,h⟩
def isText (y:Str):Value→Bool
 | .str x _=>decide (x=y)
 | _=>false
section
variable {X:Cx}
def cSum (K:xFr):List V→Hp→VK→Prop:=fun xs H Q=>∃ (p:Addr) (ns:List Int),xs=[.ref p]∧SqL K H p (ns.map V.int)∧∀ m:Int,m=ns.sum→Q (.int m) H
theorem je:MtR X "list.index" rIndex:=by
 intro pins s σ H x vs v us Q I rx rv h
 obtain ⟨l,ws,y,j,rfl,rfl,hH,hit,hno,q⟩:=h
 cases rx
 obtain ⟨u,rfl,⟨t,rfl⟩⟩:=rv.one
 obtain ⟨z,its,n,r,hl,e⟩:=I.lstM hH
 rw [xAa] at hl z
 have at':∀ (i:Nat) (hi:i<its.length),∃ x t,ws[i]?=some x∧its[i]=Value.str x t:=fun i hi=>by
  have hw:i<ws.length:=by omega
  obtain ⟨u2,e2,t2,r2⟩:=r.get (i:=i) (x:=.str ws[i]) (by rw [xAw,xAk hw];rfl)
  rw [xAk hi] at e2
  cases e2
  exact ⟨_,t2,xAk hw,r2⟩
 have hj:j<ws.length:=(xAq.mp hit).1
 have hb:(ws.length:Int)<2 ^ 63 - 1:=by
  have:=sizeLine_eq
  omega
 refine call_meets PySem.F.slot_list_index ⟨_,e,rfl⟩ PySem.F.entry_list_index (PySem.F.args_list_index_2 _ _)
  (SeqAt.list_indexAt l its.toArray n none #[] (.str y t) (isText y) j (by rw [xAp];omega) (by omega) ?_ ?_) ⟨e,fun v hv=>?_,⟨.int (j:Nat),H,I.kept (t':=s.toks+1) fun b o e=>e,⟨_,rfl⟩,q⟩⟩
 ·obtain ⟨x,t2,h1,h2⟩:=at' j (by omega)
  change isText y its[j]=true
  rw [h2]
  rw [hit] at h1
  cases h1
  simp [isText]
 ·intro m hm hlt
  obtain ⟨x,t2,h1,h2⟩:=at' m (by omega)
  change isText y its[m]=false
  rw [h2]
  have:x≠y:=fun z=>hno m hlt (by rw [h1,z])
  simp [isText,this]
 ·have hv':v∈its:=by simpa using hv
  obtain ⟨i,hi,rfl⟩:=List.getElem_of_mem hv'
  obtain ⟨x,t2,h1,h2⟩:=at' i hi
  rw [h2]
  have:=jv (A:=X.A.in1) (s:=s) (y:=.str x) (x:=.str y) ⟨t2,rfl⟩ ⟨t,rfl⟩ rfl rfl
  rw [show eqV (.str x) (.str y)=isText y (.str x t2) from rfl] at this
  exact this
theorem gH (ns:List Int):∀ k,k≤ns.length→preSum (fun i=>ns.getD i 0) k=(ns.take k).sum
 | 0,_=>rfl
 | k+1,h=>by
  rw [preSum,gH ns k (by omega),List.take_succ,List.sum_append,xAk (by omega),xBz,xAk (by omega)]
  simp
theorem nE (hc:X.calm=true):CallR X (.builtin "sum") (cSum X.K):=by
 intro pins s σ H xs us Q I r h
 obtain ⟨p,ns,rfl,hS,q⟩:=h
 obtain ⟨u,rfl,ru⟩:=vals1 r
 obtain rfl:u=Value.ref p:=ru
 obtain ⟨its,r1,t1,z1⟩:=I.list hS
 have hl:=r1.length
 rw [xAa] at hl
 have hlt:p<s.heap.objs.size:=by
  obtain ⟨o,_,e,_⟩:=t1
  exact xA1 e
 have hval:∀ (i:Nat) (v:Value),its.toArray[i]?=some v→∃ t,v=Value.int (ns.getD i 0) t:=fun i v e=>by
  have e':its[i]?=some v:=by simpa using e
  have hi:i<ns.length:=by rw [hl];exact (xAq.mp e').1
  obtain ⟨u,hu,ru⟩:=r1.get (i:=i) (x:=.int ns[i]) (by rw [xAw,xAk hi];rfl)
  rw [e'] at hu
  cases hu
  obtain ⟨t,ht⟩:=ru
  refine ⟨t,?_⟩
  rw [ht,xBz,xAk hi]
  rfl
 refine call_sum_walkAnyS (wpAny_pyIter_list t1.isList ?_)
 refine ⟨s.heap.objs.size,[s.heap.objs.size,p],[s.heap.objs.size],_,_,_,_,fun i=>ns.getD i 0,rfl,(Walks.list (A:=X.A.in1) (I.ok.hd hc) s.heap.objs.size p (xA0 hlt) its.toArray).toS,⟨⟨_,xAl _ rfl,rfl,rfl⟩,t1.isList.push _⟩,fun b hb=>?_,hval,fun s' t' hm=>?_⟩
 ·change b<(s.heap.push _).objs.size
  rw [Heap.size_push]
  simp only [xAv,xBv,or_false] at hb
  rcases hb with rfl | rfl
  ·exact Nat.lt_succ_self _
  ·exact Nat.lt_succ_of_lt hlt
 ·obtain ⟨hp,g,d,tk,os⟩:=s'
  obtain ⟨m1,m2,m3,m4,m5⟩:=hm
  cases m2
  cases m3
  cases m4
  refine ⟨.int _,H,I.kept (t':=tk) fun b o e=>m1 b o ?_ (xAf _ e),⟨_,rfl⟩,q _ ?_⟩
  ·rw [xAm]
   exact xA0 (xA1 e)
  ·rw [xAp,← hl,gH ns _ (xAg _),xAu]
end
end L2
namespace Mov
open PySem L2
inductive Nt where
 | num (i:Int) | th (k:Nat)
structure Th where
 kind:Str
 word:D
 vals:List Nt
instance:Inhabited Th:=⟨⟨"",.non,[]⟩⟩
def Nt.d:Nt→D
 | .num i=>.int i
 | .th k=>.tup [.str "thing",.int k]
def Nt.at (f:Nat→Nat):Nt→D
 | .num i=>.int i
 | .th k=>.tup [.str "at",.int (f k)]
def Nt.rf:Nt→List Nat
 | .num _=>[]
 | .th k=>[k]
inductive Cl where
 | h (t:Th) | v (n:Nt)
def Cl.as (f:Nat→Nat):Cl→D
 | .h t=>.tup [.str t.kind,t.word,.int t.vals.length]
 | .v n=>n.at f
def Cl.rf:Cl→List Nat
 | .h _=>[]
 | .v n=>n.rf
abbrev Ths:=List Th
def tg (T:Ths) (k:Nat):Th:=T.getD k default
def size (T:Ths) (k:Nat):Nat:=(tg T k).vals.length+1
def place (T:Ths):List Nat→Nat→Nat
 | [],_=>0
 | j::o,k=>if j=k then 0 else size T j+place T o k
def b1 (T:Ths) (k:Nat):List Cl:=.h (tg T k)::(tg T k).vals.map .v
def fl (T:Ths):List Nat→List Cl
 | []=>[]
 | k::o=>b1 T k++fl T o
variable {T:Ths} {o e a b:List Nat} {k j m:Nat} {f g:Nat→Nat}
theorem a8:(b1 T k).length=size T k:=by simp [b1,size]
theorem aU:fl T (o++e)=fl T o++fl T e:=by
 induction o with
 | nil=>rfl
 | cons x o ih=>rw [List.cons_append,fl,ih,fl,xAx]
theorem eU:fl T [k]=b1 T k:=by simp [fl]
theorem bG (h:k∈o):place T (o++e) k=place T o k:=by
 induction o with
 | nil=>cases h
 | cons x o ih =>
  rw [List.cons_append,place,place]
  by_cases z:x=k
  ·rw [xCg z,xCg z]
  ·rw [xCf z,xCf z,ih ((xAv.mp h).resolve_left fun y=>z y.symm)]
theorem bX (h:k ∉ o):place T (o++k::e) k=(fl T o).length:=by
 induction o with
 | nil=>simp [place,fl]
 | cons x o ih =>
  rw [xAv,not_or] at h
  rw [List.cons_append,place,xCf fun z=>h.1 z.symm,ih h.2,fl,xAb,a8]
theorem iV (h:k∈o):place T o k+size T k≤(fl T o).length:=by
 induction o with
 | nil=>cases h
 | cons x o ih =>
  rw [place,fl,xAb,a8]
  by_cases z:x=k
  ·rw [xCg z,z];omega
  ·rw [xCf z]
   have:=ih ((xAv.mp h).resolve_left fun y=>z y.symm)
   omega
theorem cw:0<size T k:=by unfold size;omega
theorem cQ (h:k∈o) (h2:j∈o) (e:place T o k=place T o j):k=j:=by
 induction o with
 | nil=>cases h
 | cons x o ih =>
  rw [place,place] at e
  by_cases z:x=k
  ·by_cases y:x=j
   ·exact z.symm.trans y
   ·rw [xCg z,xCf y] at e
    have:=cw (T:=T) (k:=x)
    omega
  ·by_cases y:x=j
   ·rw [xCf z,xCg y] at e
    have:=cw (T:=T) (k:=x)
    omega
   ·rw [xCf z,xCf y] at e
    exact ih ((xAv.mp h).resolve_left fun q=>z q.symm) ((xAv.mp h2).resolve_left fun q=>y q.symm) (by omega)
theorem jf {n:Nt} (h:Cl.v n∈fl T o):∃ k∈o,n∈(tg T k).vals:=by
 induction o with
 | nil=>cases h
 | cons x o ih =>
  rw [fl,xAj] at h
  rcases h with h | h
  ·refine ⟨x,xAr ..,?_⟩
   unfold b1 at h
   rcases xAv.mp h with z | z
   ·cases z
   ·obtain ⟨n',h1,h2⟩:=xA2.mp z
    cases h2
    exact h1
  ·obtain ⟨k,h1,h2⟩:=ih h
   exact ⟨k,xAs _ h1,h2⟩
theorem nC {n:Nt} (hk:k∈o) (h:n∈(tg T k).vals):Cl.v n∈fl T o:=by
 induction o with
 | nil=>cases hk
 | cons x o ih =>
  rw [fl,xAj]
  rcases xAv.mp hk with rfl | hk
  ·exact .inl (xAs _ (List.mem_map_of_mem h))
  ·exact .inr (ih hk)
theorem dW {c:Cl} (h:∀ k∈c.rf,f k=g k):c.as f=c.as g:=by
 cases c with
 | h t=>rfl
 | v n =>
  cases n with
  | num i=>rfl
  | th k =>
   have e:f k=g k:=h k (by simp [Cl.rf,Nt.rf])
   simp [Cl.as,Nt.at,e]
theorem dU {n:Nt} (h:∀ k∈n.rf,f k=g k):n.at f=n.at g:=dW (c:=.v n) h
theorem gM (nd:o.Nodup) (h:k∈o):∃ a b,o=a++k::b∧k ∉ a∧place T o k=(fl T a).length:=by
 obtain ⟨a,b,rfl⟩:=List.append_of_mem h
 have:k ∉ a:=fun z=>by
  rw [xBq] at nd
  exact nd.2.2 k z k (xAr ..) rfl
 exact ⟨a,b,rfl,this,bX this⟩
theorem jr (h:o=a++k::b):(fl T o)[(fl T a).length]?=some (.h (tg T k)):=by
 rw [h,aU,List.getElem?_append_right (xAg _),Nat.sub_self,fl]
 rfl
theorem nA (h:o=a++k::b) (i:Nat) (hi:i<(tg T k).vals.length):(fl T o)[(fl T a).length+1+i]?=some (.v (tg T k).vals[i]):=by
 rw [h,aU,List.getElem?_append_right (by omega),fl,List.getElem?_append_left (by rw [a8];unfold size;omega),show (fl T a).length+1+i - (fl T a).length=i+1 by omega]
 unfold b1
 rw [List.getElem?_cons_succ,xAw,xAk hi]
 rfl
theorem kN (h:o=a++k::b):((fl T o).drop ((fl T a).length+1)).take (tg T k).vals.length=(tg T k).vals.map .v:=by
 rw [h,aU,List.drop_append,List.drop_eq_nil_of_le (by omega),List.nil_append,show (fl T a).length+1 - (fl T a).length=1 by omega,fl]
 unfold b1
 rw [List.cons_append,List.drop_succ_cons,List.drop_zero,List.take_append,List.take_of_length_le (by simp),xAa,Nat.sub_self,List.take_zero,xB0]
structure Hs (T:Ths) (o:List Nat) (cs:List D):Prop where
 nd:o.Nodup
 lt:∀ k∈o,k<T.length
 cl:∀ k∈o,∀ n∈(tg T k).vals,∀ j∈n.rf,j∈o
 cs:cs=(fl T o).map (Cl.as (place T o))
theorem Hs.len {cs:List D} (h:Hs T o cs):cs.length=(fl T o).length:=by rw [h.cs,xAa]
theorem Hs.hd {cs:List D} (h:Hs T o cs) (hk:k∈o):cs[place T o k]?=some (.tup [.str (tg T k).kind,(tg T k).word,.int (tg T k).vals.length]):=by
 obtain ⟨a,b,e,na,ep⟩:=gM (T:=T) h.nd hk
 rw [h.cs,xAw,ep,jr e]
 rfl
theorem Hs.sl {cs:List D} (h:Hs T o cs) (hk:k∈o):(cs.drop (place T o k+1)).take (tg T k).vals.length=(tg T k).vals.map (Nt.at (place T o)):=by
 obtain ⟨a,b,e,na,ep⟩:=gM (T:=T) h.nd hk
 rw [h.cs,ep,← List.map_drop,← List.map_take,kN e,xCc]
 rfl
theorem Hs.bd {cs:List D} (h:Hs T o cs) (hk:k∈o):place T o k+1+(tg T k).vals.length≤cs.length:=by
 rw [h.len]
 have:=iV (T:=T) hk
 unfold size at this
 omega
theorem dm {t:Th} (h:k<T.length):tg (T++[t]) k=tg T k:=by
 unfold tg
 rw [xBz,xBz,List.getElem?_append_left h]
theorem cL {t:Th}:tg (T++[t]) T.length=t:=by
 unfold tg
 rw [xBz,List.getElem?_append_right (xAg _),Nat.sub_self]
 rfl
theorem cG {T':Ths} (h:∀ k∈o,tg T' k=tg T k):fl T' o=fl T o:=by
 induction o with
 | nil=>rfl
 | cons x o ih =>
  rw [fl,fl,ih fun k hk=>h k (xAs _ hk)]
  unfold b1
  rw [h x (xAr ..)]
theorem cX {T':Ths} (h:∀ k∈o,size T' k=size T k):place T' o k=place T o k:=by
 induction o with
 | nil=>rfl
 | cons x o ih=>rw [place,place,ih fun k hk=>h k (xAs _ hk),h x (xAr ..)]
theorem Hs.lay {cs:List D} (h:Hs T o cs) {t:Th} (hr:∀ n∈t.vals,∀ j∈n.rf,j∈o) :
  Hs (T++[t]) (o++[T.length]) (cs++.tup [.str t.kind,t.word,.int t.vals.length]::t.vals.map (Nt.at (place T o)))∧(∀ k∈o,place (T++[t]) (o++[T.length]) k=place T o k)∧place (T++[t]) (o++[T.length]) T.length=cs.length:=by
 have nk:T.length ∉ o:=fun z=>xBo _ (h.lt _ z)
 have e1:∀ k∈o,tg (T++[t]) k=tg T k:=fun k hk=>dm (h.lt k hk)
 have e2:∀ k∈o,place (T++[t]) (o++[T.length]) k=place T o k:=fun k hk=>by
  rw [bG hk]
  exact cX fun k hk=>by unfold size;rw [e1 k hk]
 have e3:place (T++[t]) (o++[T.length]) T.length=cs.length:=by rw [bX nk,cG e1,h.len]
 refine ⟨⟨?_,?_,?_,?_⟩,e2,e3⟩
 ·rw [xBq]
  exact ⟨h.nd,by simp,fun a ha b hb=>by rw [xAm.mp hb];exact fun z=>nk (z ▸ ha)⟩
 ·intro k hk
  rw [xAb,xAt]
  rcases xAj.mp hk with hk | hk
  ·have:=h.lt k hk;omega
  ·rw [xAm.mp hk];omega
 ·intro k hk n hn j hj
  rcases xAj.mp hk with hk | hk
  ·rw [e1 k hk] at hn
   exact xBw _ (h.cl k hk n hn j hj)
  ·rw [xAm.mp hk,cL] at hn
   exact xBw _ (hr n hn j hj)
 ·rw [aU,eU,cG e1,xAi,h.cs]
  congr 1
  ·refine List.map_congr_left fun c hc=>dW fun k hk=>?_
   cases c with
   | h t=>cases hk
   | v n =>
    obtain ⟨k',h1,h2⟩:=jf hc
    exact (e2 k (h.cl k' h1 n h2 k hk)).symm
  ·unfold b1
   rw [cL,xBs,xCc]
   congr 1
   refine List.map_congr_left fun n hn=>dU fun k hk=>(e2 k (hr n hn k hk)).symm
theorem bO {t:Th} (h:j<T.length):tg (T.set j t) k=if j=k then t else tg T k:=by
 unfold tg
 rw [xBz,List.getElem?_set]
 by_cases z:j=k
 ·rw [xCg z,xCg z,xCg (by omega)];rfl
 ·rw [xCf z,xCf z,xBz]
theorem Hs.put {cs:List D} (h:Hs T o cs) (hk:k∈o) (h1:(tg T k).vals.length=1) {n:Nt} (hn:∀ j∈n.rf,j∈o) :
  Hs (T.set k ⟨(tg T k).kind,(tg T k).word,[n]⟩) o (cs.set (place T o k+1) (n.at (place T o)))∧∀ j,place (T.set k ⟨(tg T k).kind,(tg T k).word,[n]⟩) o j=place T o j:=by
 have hl:=h.lt k hk
 have sz:∀ j,size (T.set k ⟨(tg T k).kind,(tg T k).word,[n]⟩) j=size T j:=fun j=>by
  unfold size
  rw [bO hl]
  by_cases z:k=j
  ·rw [xCg z,← z,h1];rfl
  ·rw [xCf z]
 have ep:∀ j,place (T.set k ⟨(tg T k).kind,(tg T k).word,[n]⟩) o j=place T o j:=fun j=>cX fun i _=>sz i
 refine ⟨⟨h.nd,fun j hj=>by rw [List.length_set];exact h.lt j hj,fun j hj m hm i hi=>?_,?_⟩,ep⟩
 ·rw [bO hl] at hm
  by_cases z:k=j
  ·rw [xCg z] at hm
   rw [xAm.mp hm] at hi
   exact hn i hi
  ·rw [xCf z] at hm
   exact h.cl j hj m hm i hi
 ·obtain ⟨a,b,e,na,epl⟩:=gM (T:=T) h.nd hk
  have nd:=h.nd
  rw [e,xBq] at nd
  have nb:k ∉ b:=(xCb.mp nd.2.1).1
  have fa:fl (T.set k ⟨(tg T k).kind,(tg T k).word,[n]⟩) a=fl T a:=cG fun j hj=>by rw [bO hl,xCf (fun z=>na (by rw [z];exact hj))]
  have fb:fl (T.set k ⟨(tg T k).kind,(tg T k).word,[n]⟩) b=fl T b:=cG fun j hj=>by rw [bO hl,xCf (fun z=>nb (by rw [z];exact hj))]
  have ef:(place (T.set k ⟨(tg T k).kind,(tg T k).word,[n]⟩) o)=place T o:=funext ep
  obtain ⟨x,hx⟩:∃ x,(tg T k).vals=[x]:=List.length_eq_one_iff.mp h1
  rw [ef,h.cs,epl,e,aU,aU,fl,fl,fa,fb]
  unfold b1
  rw [bO hl,xCg rfl,hx]
  simp only [xAi,xBs,List.map_nil,List.cons_append,List.nil_append]
  rw [List.set_append_right _ _ (by rw [xAa];omega),xAa,show (fl T a).length+1 - (fl T a).length=1 by omega]
  simp [Cl.as,hx]
def Gr (T:Ths) (R o:List Nat):Prop:=∀ K:Nat→Prop,(∀ r∈R,K r)→(∀ k,K k→∀ n∈(tg T k).vals,∀ j∈n.rf,K j)→∀ k∈o,K k
def push (o:List Nat):Nt→List Nat
 | .num _=>o
 | .th k=>if k∈o then o else o++[k]
theorem dE {n:Nt}:∃ e,push o n=o++e:=by
 cases n with
 | num i=>exact ⟨[],by simp [push]⟩
 | th k =>
  by_cases h:k∈o
  ·exact ⟨[],by simp [push,h]⟩
  ·exact ⟨[k],by simp [push,h]⟩
theorem dF {n:Nt}:∀ k∈n.rf,k∈push o n:=by
 intro k hk
 cases n with
 | num i=>cases hk
 | th k' =>
  obtain rfl:=xAm.mp hk
  by_cases h:k∈o
  ·simp [push,h]
  ·simp [push,h]
theorem iM {n:Nt} (h:k∈o):k∈push o n:=by
 obtain ⟨e,q⟩:=dE (o:=o) (n:=n)
 rw [q]
 exact xBw _ h
def mix (T:Ths) (f:Nat→Nat) (o:List Nat) (m:Nat):List D:=((fl T o).take m).map (Cl.as (place T o))++((fl T o).drop m).map (Cl.as f)
structure Ms (T:Ths) (f:Nat→Nat) (ord R o:List Nat) (m:Nat) (cs:List D):Prop where
 nd:o.Nodup
 sub:∀ k∈o,k∈ord
 gr:Gr T R o
 sc:∀ c∈(fl T o).take m,∀ k∈c.rf,k∈o
 le:m≤(fl T o).length
 cs:cs=mix T f o m
theorem Ms.nil {ord R:List Nat}:Ms T f ord R [] 0 []:=⟨.nil,fun k hk=>(nomatch hk),fun K _ _ k hk=>(nomatch hk),fun c hc=>by simp [fl] at hc,xBn _,rfl⟩
theorem Ms.len {ord R:List Nat} {cs:List D} (h:Ms T f ord R o m cs):cs.length=(fl T o).length:=by
 rw [h.cs]
 unfold mix
 rw [xAb,xAa,xAa,← xAb,xBx]
theorem Ms.at {ord R:List Nat} {cs:List D} {c:Cl} (h:Ms T f ord R o m cs) (hc:(fl T o)[m]?=some c):cs[m]?=some (c.as f):=by
 have hm:m<(fl T o).length:=(xAq.mp hc).1
 rw [h.cs]
 unfold mix
 rw [List.getElem?_append_right (by rw [xAa,xAn];omega),xAa,xAn,Nat.min_eq_left (by omega),Nat.sub_self,xAw,List.getElem?_drop,Nat.add_zero,hc]
 rfl
theorem Ms.new {ord R:List Nat} {cs:List D} (h:Ms T f ord R o m cs) (hk:k ∉ o) (hs:k∈ord) (hg:k∈R∨∃ n,Cl.v n∈fl T o∧k∈n.rf):Ms T f ord R (o++[k]) m (cs++(b1 T k).map (Cl.as f)):=by
 have el:(fl T (o++[k])).take m=(fl T o).take m:=by rw [aU,List.take_append,show m - (fl T o).length=0 by have:=h.le;omega,List.take_zero,xB0]
 refine ⟨?_,?_,?_,?_,?_,?_⟩
 ·rw [xBq]
  exact ⟨h.nd,by simp,fun a ha b hb=>by rw [xAm.mp hb];exact fun z=>hk (z ▸ ha)⟩
 ·intro j hj
  rcases xAj.mp hj with hj | hj
  ·exact h.sub j hj
  ·rw [xAm.mp hj];exact hs
 ·intro K k1 k2 j hj
  rcases xAj.mp hj with hj | hj
  ·exact h.gr K k1 k2 j hj
  ·rw [xAm.mp hj]
   rcases hg with hg | ⟨n,h1,h2⟩
   ·exact k1 k hg
   ·obtain ⟨k',q1,q2⟩:=jf h1
    exact k2 k' (h.gr K k1 k2 k' q1) n q2 k h2
 ·intro c hc j hj
  rw [el] at hc
  exact xBw _ (h.sc c hc j hj)
 ·rw [aU,xAb]
  have:=h.le
  omega
 ·rw [h.cs]
  unfold mix
  rw [el,aU,eU,List.drop_append,show m - (fl T o).length=0 by have:=h.le;omega,List.drop_zero,xAi,xAx]
  congr 1
  exact List.map_congr_left fun c hc=>dW fun j hj=>(bG (h.sc c hc j hj)).symm
theorem Ms.step {ord R:List Nat} {cs:List D} {n:Nt} (h:Ms T f ord R o m cs) (hc:(fl T o)[m]?=some (.v n)) (hn:∀ k∈n.rf,k∈o):Ms T f ord R o (m+1) (cs.set m (n.at (place T o))):=by
 have hm:m<(fl T o).length:=(xAq.mp hc).1
 have et:(fl T o).take (m+1)=(fl T o).take m++[.v n]:=by rw [List.take_succ,hc];rfl
 refine ⟨h.nd,h.sub,h.gr,fun c hc' j hj=>?_,hm,?_⟩
 ·rw [et] at hc'
  rcases xAj.mp hc' with z | z
  ·exact h.sc c z j hj
  ·rw [xAm.mp z] at hj
   exact hn j hj
 ·have ed:(fl T o).drop m = .v n::(fl T o).drop (m+1):=by
   rw [xB2 hm]
   congr 1
   exact (xAq.mp hc).2
  rw [h.cs]
  unfold mix
  rw [et,ed,xAi,xBs,List.set_append_right _ _ (by rw [xAa,xAn];omega),xAa,xAn,Nat.min_eq_left (by omega),Nat.sub_self,List.set_cons_zero,xBs,List.map_nil,xAx]
  rfl
theorem Ms.skip {ord R:List Nat} {cs:List D} {t:Th} (h:Ms T f ord R o m cs) (hc:(fl T o)[m]?=some (.h t)):Ms T f ord R o (m+1) cs:=by
 have hm:m<(fl T o).length:=(xAq.mp hc).1
 have et:(fl T o).take (m+1)=(fl T o).take m++[.h t]:=by rw [List.take_succ,hc];rfl
 refine ⟨h.nd,h.sub,h.gr,fun c hc' j hj=>?_,hm,?_⟩
 ·rw [et] at hc'
  rcases xAj.mp hc' with z | z
  ·exact h.sc c z j hj
  ·rw [xAm.mp z] at hj
   cases hj
 ·have ed:(fl T o).drop m = .h t::(fl T o).drop (m+1):=by
   rw [xB2 hm]
   congr 1
   exact (xAq.mp hc).2
  rw [h.cs]
  unfold mix
  rw [et,ed,xAi,xBs,xBs,List.map_nil,xAx]
  rfl
theorem Ms.fin {ord R:List Nat} {cs:List D} (h:Ms T f ord R o m cs) (hm:(fl T o).length≤m) (hl:∀ k∈ord,k<T.length):Hs T o cs:=by
 have hc:∀ c∈fl T o,∀ k∈c.rf,k∈o:=fun c hc k hk=>h.sc c (by rw [List.take_of_length_le hm];exact hc) k hk
 refine ⟨h.nd,fun k hk=>hl k (h.sub k hk),fun k hk n hn j hj=>hc (.v n) (nC hk hn) j hj,?_⟩
 rw [h.cs]
 unfold mix
 rw [List.take_of_length_le hm,List.drop_eq_nil_of_le hm,List.map_nil,xB0]
def Bd (T:Ths) (o:List Nat) (m d:Nat):Prop:=∃ a b,o=a++b∧m=(fl T a).length∧d=a.length
theorem Bd.lt {d:Nat} (h:Bd T o m d) (hm:m<(fl T o).length):∃ a k b,o=a++k::b∧m=(fl T a).length∧d=a.length:=by
 obtain ⟨a,b,rfl,rfl,rfl⟩:=h
 cases b with
 | nil=>rw [xB0] at hm;omega
 | cons k b=>exact ⟨a,k,b,rfl,rfl,rfl⟩
theorem Bd.next (h:o=a++k::b):Bd T o ((fl T a).length+1+(tg T k).vals.length) (a.length+1):=by
 refine ⟨a++[k],b,by rw [h];simp,?_,by simp⟩
 rw [aU,eU,xAb,a8]
 unfold size
 omega
theorem cr:∀ {o ord:List Nat},o.Nodup→(∀ k∈o,k∈ord)→o.length≤ord.length
 | [],_,_,_=>xBn _
 | x::o,ord,nd,h=>by
  obtain ⟨a,b,rfl⟩:=List.append_of_mem (h x (xAr ..))
  rw [xCb] at nd
  have:=cr (o:=o) (ord:=a++b) nd.2 fun k hk=>by
   have:=h k (xAs _ hk)
   rw [xAj,xAv] at this
   rw [xAj]
   rcases this with z | z | z
   ·exact .inl z
   ·exact absurd (z ▸ hk) nd.1
   ·exact .inr z
  rw [xAb] at this
  rw [xAo,xAb,xAo]
  omega
theorem cU:∀ {o ord:List Nat},o.Nodup→(∀ k∈o,k∈ord)→(fl T o).length≤(fl T ord).length
 | [],_,_,_=>xBn _
 | x::o,ord,nd,h=>by
  obtain ⟨a,b,rfl⟩:=List.append_of_mem (h x (xAr ..))
  rw [xCb] at nd
  have:=cU (o:=o) (ord:=a++b) nd.2 fun k hk=>by
   have:=h k (xAs _ hk)
   rw [xAj,xAv] at this
   rw [xAj]
   rcases this with z | z | z
   ·exact .inl z
   ·exact absurd (z ▸ hk) nd.1
   ·exact .inr z
  rw [aU,xAb] at this
  rw [fl,aU,fl,xAb,xAb,xAb]
  omega
theorem jh:o.length≤(fl T o).length:=by
 induction o with
 | nil=>exact xBn _
 | cons x o ih =>
  rw [fl,xAb,a8,xAo]
  have:=cw (T:=T) (k:=x)
  omega
theorem Ms.lens {f:Nat→Nat} {ord R:List Nat} {cs cs2:List D} (h:Ms T f ord R o m cs2) (hs:Hs T ord cs):cs2.length≤cs.length∧o.length≤cs.length:=by
 rw [h.len,hs.len]
 have:=cU (T:=T) h.nd h.sub
 have:=jh (T:=T) (o:=o)
 omega
theorem Hs.blk {cs:List D} (h:Hs T o cs) (hk:k∈o):(cs.drop (place T o k)).take ((tg T k).vals.length+1)=(b1 T k).map (Cl.as (place T o)):=by
 obtain ⟨a,b,e,na,ep⟩:=gM (T:=T) h.nd hk
 rw [h.cs,ep,← List.map_drop,← List.map_take,e,aU,List.drop_append,List.drop_eq_nil_of_le (xAg _),List.nil_append,Nat.sub_self,List.drop_zero,fl,List.take_append,List.take_of_length_le (by rw [a8];exact xAg _),a8,show (tg T k).vals.length+1 - size T k=0 by unfold size;omega,List.take_zero,xB0]
end Mov
namespace L2
open PySem PySem.Spec PyProof.Rows
def Thw (H0 H H':Hp):Prop:=H'=H∨∃ d o kvs,H d=some (.frz o (.dK kvs))∧(∀ o u,H0 d≠some (.frz o u))∧H'=upd H d (.dK kvs)
section
variable {X:Cx} {pins:List (Addr×Obj)} {σ:St} {H H':Hp} {s:Shared}
theorem Inv.thaw (I:Inv X pins σ H s) (t:Thw X.H₀ H H'):Inv X pins σ H' s:=by
 rcases t with rfl | ⟨d,o,kvs,hd,h0,rfl⟩
 ·exact I
 have nn:∀ {b:Addr},H b=none→upd H d (.dK kvs) b=none:=fun {b} e=>by rw [ag (fun z=>by rw [z,hd] at e;cases e)];exact e
 have nt:∀ {b:Addr} {xs:List V},H b=some (.tup xs)→upd H d (.dK kvs) b=some (.tup xs):=fun {b xs} e=>by rw [ag (fun z=>by rw [z,hd] at e;cases e)];exact e
 refine ⟨I.ok,I.os,I.bare,⟨I.base.keep,I.base.slot,fun b ob e n hx=>nn (I.base.free b ob e n hx),I.base.there,fun b xs e=>nt (I.base.tups b xs e),fun b ob u e=>?_,fun b ps e=>?_⟩,I.loc,I.cell,nn I.free,fun x c e=>nn (I.freeC x c e),fun p hp=>?_,fun b u e=>?_,I.len⟩
 ·rw [ag (fun z=>h0 ob u (by rw [← z];exact e))]
  exact I.base.frzs b ob u e
 ·obtain ⟨m,e1⟩:=I.base.tbls b ps e
  refine ⟨m,?_⟩
  rw [ag (fun z=>by rw [z,hd] at e1;cases e1)]
  exact e1
 ·obtain ⟨e,n,r⟩:=I.pin p hp
  exact ⟨e,nn n,r⟩
 ·have own:∀ {c y:Addr},H c=some (.own y)→upd H d (.dK kvs) c=some (.own y):=fun {c y} q=>by rw [ag (fun z=>by rw [z,hd] at q;cases q)];exact q
  by_cases hb:b=d
  ·subst hb
   rw [ac] at e
   cases e
   obtain ⟨_,q⟩:=(show ObjOk X.prog X.w H s.heap b (.frz o (.dK kvs)) from I.hok b _ hd)
   exact ObjOk.stay q (fun _ _ _ q=>q) (fun _ q=>own q) fun _ _ q=>nt q
  ·rw [ag hb] at e
   exact (I.hok b u e).stay (fun _ _ _ q=>q) (fun _ q=>own q) fun _ _ q=>nt q
def tThaw (H0:Hp) (ts:TS):TS:=fun Dn σ H=>ts { Dn with nx:=fun σ' H'=>∃ H'',Thw H0 H' H''∧Dn.nx σ' H'' } σ H
theorem gB {st:Stmt} {ts:TS} (h:QS X st ts):QS X st (tThaw X.H₀ ts):=⟨fun pins s σ H D I hh=>by
 refine thn (h.h pins s σ H _ I hh) fun f s' sp=>?_
 cases f with
 | next =>
  obtain ⟨σ',H',I',H'',t,n⟩:=sp
  exact ⟨σ',H'',I'.thaw t,n⟩
 | brk=>exact sp
 | cont=>exact sp
 | ret u=>exact sp⟩
end
theorem lL {H0:Hp} {ts:TS} {Dn:Ends} {σ:St} {H:Hp} (h:ts { Dn with nx:=fun σ' H'=>∃ H'',Thw H0 H' H''∧Dn.nx σ' H'' } σ H):tThaw H0 ts Dn σ H:=h
end L2
namespace K71
open PySem L2 Mov
local macro_rules | `(tactic| walk_at "rd1")=>`(tactic| first
 | (with_reducible first | apply nQ | apply lN | apply oj | apply pq | apply pp | apply pz | apply lL | apply og | apply ot | apply du | apply nR | apply lY | apply lT | apply r_c | apply lM | apply jQ | apply pk | apply pF | apply pH | apply ol | apply nY | apply nZ | apply mf | apply nW | apply nO | apply n6 | apply mh | apply pD | apply nV | apply pj | apply mj | apply lR | apply nJ | apply me | apply l9 | apply lZ | apply pE | apply oq | apply pG | apply oa | apply lS | apply jS | apply lP | apply pC | apply jR | apply iD | apply lQ | apply oe | apply oi | apply pr | apply pB | apply pA | apply jW | apply lX | (apply pi;intro _ _))
 | ((with_reducible first | refine' pL ?hh1 ?_ | refine' jU ?hh1 ?_ | refine' oo ?hh1 ?_ | refine' mi ?hh1 ?_ | refine' lV ?hh1 ?_ | refine' ow ?hh1 ?_);(case hh1=>assumption))
 | ((with_reducible first | refine' lU ?hh1 ?_ | refine' ou ?hh1 ?_);(case hh1=>assumption))
 | ((with_reducible refine' nK ?hh1 ?_);(case hh1=>rfl))
 | ((with_reducible first | refine' kX ?hh1 ?hh2 ?_ | refine' lW ?hh1 ?hh2 ?_);(case hh1=>assumption);(case hh2=>rfl))
 | ((with_reducible refine' a9 ?hh1 ?hh2 ?_);(case hh1=>assumption);(case hh2=>rfl))
 | ((with_reducible refine' eF ?hh1 ?_);(case hh1=>decide +kernel)) | ((with_reducible refine' bB ?hh1 ?_);(case hh1=>decide +kernel))
 | ((with_reducible refine' aD ?hh1 ?hh2 ?_);(case hh1=>assumption);(case hh2=>(with_reducible first | exact dig_number | exact dig_seed))))
local macro_rules | `(tactic| k_go)=>`(tactic| repeat walk_at "rd1")
def top (i:Nat):Stmt:=PySem.Challenge.pw_spacewright_k71_things_moved.main.body.getD i (.Pass ⟨0,0,0,0⟩)
structure Txt (K:xFr) (mg:Str→Option Value) (C O:Addr):Prop where
 zlen:mg "len"=none
 zlist:mg "list"=none
 ztuple:mg "tuple"=none
 zsorted:mg "sorted"=none
 zisinstance:mg "isinstance"=none
 zrange:mg "range"=none
 zint:mg "int"=none
 zzip:mg "zip"=none
 zsum:mg "sum"=none
 zbool:mg "bool"=none
 kTT:PySem.W.kitOne K (.type "tuple") (.type "tuple")=some true
 kTI:PySem.W.kitOne K (.type "tuple") (.type "int")=some false
 kIT:PySem.W.kitOne K (.type "int") (.type "tuple")=some false
 kII:PySem.W.kitOne K (.type "int") (.type "int")=some true
 kIB:PySem.W.kitOne K (.type "int") (.type "bool")=some false
 cH:Cs K C ["cells"]
 cO:Cs K O ["left","cells","places"]
theorem a0:bootBuiltins "len"=some (.builtin "len"):=by decide +kernel
theorem nH:bootBuiltins "list"=some (.type "list"):=by decide +kernel
theorem dk:bootBuiltins "tuple"=some (.type "tuple"):=by decide +kernel
theorem dS:bootBuiltins "sorted"=some (.builtin "sorted"):=by decide +kernel
theorem pd:bootBuiltins "int"=some (.type "int"):=by decide +kernel
theorem pc:bootBuiltins "sum"=some (.builtin "sum"):=by decide +kernel
theorem nI:bootBuiltins "bool"=some (.type "bool"):=by decide +kernel
abbrev sIsn:Stmt:=top 1
abbrev bx:Stmt:=inClass (top 3) 0
abbrev bu:Stmt:=inClass (top 3) 1
abbrev bF:Stmt:=inClass (top 3) 2
abbrev bv:Stmt:=inClass (top 3) 3
abbrev bE:Stmt:=inClass (top 3) 4
abbrev bw:Stmt:=inClass (top 3) 5
abbrev aP:Stmt:=inClass (top 4) 0
abbrev ar:Stmt:=inClass (top 4) 1
abbrev ay:Stmt:=inClass (top 4) 2
abbrev sLnumber:Stmt:=top 6
abbrev sLvalue:Stmt:=top 7
abbrev sLat:Stmt:=top 8
abbrev sLlaid:Stmt:=top 9
abbrev sLput:Stmt:=top 10
abbrev sLtells:Stmt:=top 11
abbrev sLwalked:Stmt:=top 12
abbrev sLmoved:Stmt:=top 13
abbrev sLchained:Stmt:=top 14
abbrev slaw:Stmt:=top 15
section
variable {P:Program} {w:World} {K:xFr} {mg:Str→Option Value} {base:Heap} {C O:Addr}
structure Hb (H:Hp) (C x L:Addr) (cs:List D):Prop where
 ob:∃ dx,H x=some (.ins C dx [("cells",.ref L)])
 ls:LD H L cs
theorem Hb.same {H H':Hp} {C x L:Addr} {cs:List D} (h:Hb H C x L cs) (s:Same H H'):Hb H' C x L cs:=⟨let ⟨dx,e⟩:=h.ob;⟨dx,s _ _ e⟩,h.ls.mono s⟩
theorem Hb.ne {H:Hp} {C x L:Addr} {cs:List D} (h:Hb H C x L cs):x≠L:=fun z=>by
 obtain ⟨vs,e,_⟩:=h.ls
 obtain ⟨dx,e2⟩:=h.ob
 rw [z,e] at e2
 cases e2
theorem Hb.len {H:Hp} {C x L:Addr} {cs:List D} (h:Hb H C x L cs):∃ vs,H L=some (.lst vs)∧Rps H cs vs∧vs.length=cs.length:=by
 obtain ⟨vs,e,r⟩:=h.ls
 exact ⟨vs,e,r,r.length⟩
theorem aB {H:Hp} {l:Addr} {vs ws:List V} (e:H l=some (.lst vs)):TLe H (upd H l (.lst ws)):=.upd fun xs z=>by rw [e] at z;cases z
theorem bA {H:Hp} {l:Addr} {ds:List D} (h:LD H l ds):∃ vs,H l=some (.lst vs)∧Rps H ds vs∧vs.length=ds.length:=by
 obtain ⟨vs,e,r⟩:=h
 exact ⟨vs,e,r,r.length⟩
theorem big (n:Nat) (h:n≤100000):n<sizeLine:=by rw [sizeLine_eq];omega
abbrev atD (i:Nat):D:=.tup [.str "at",.int i]
theorem eY {H:Hp} {p:Addr} {i:Nat} (e:H p=some (.tup [.str "at",.int i])):Rp H (atD i) (.ref p):=⟨p,_,rfl,e,_,_,rfl,rfl,_,_,rfl,rfl,rfl⟩
theorem cm {H:Hp} {v:V} {i:Nat} (h:Rp H (atD i) v):∃ p,v = .ref p∧H p=some (.tup [.str "at",.int i]):=by
 obtain ⟨p,vs,rfl,e,v1,r1,rfl,h1,v2,r2,rfl,h2,h3⟩:=h
 rw [show v1=_ from h1,show v2=_ from h2,show r2=_ from h3] at e
 exact ⟨p,rfl,e⟩
def spIsn:Sp:=fun vs H Q _=>∃ (v:V) (n:Nt) (f:Nat→Nat),vs=[v]∧Rp H (n.at f) v∧(∀ i,n = .num i→Q (.bl true) H)∧∀ k,n = .th k→Q (.bl false) H
def gisn:Scope:={ kind:=.function,names:=[("thing",.local),("isinstance",.globalImplicit),("int",.globalImplicit),("bool",.globalImplicit)],isGenerator:=false,isCoroutine:=false,more:=[] }
theorem scisn:FnScope ["thing"] ["thing"] gisn:=⟨rfl,rfl,rfl,by decide +kernel,rfl,by decide +kernel,by decide +kernel⟩
theorem ng (F:Dn K mg "is_number" sIsn ["thing"]) (T:Txt K mg C O):Cal P w K mg base "is_number" 1 ["thing"] spIsn:=by
 refine F.ok scisn rfl (fun vs H Q E h=>?_) (fun f cdv A outer s H vs Q E hr h=>?_)
 ·obtain ⟨v,n,f,rfl,_⟩:=h
  rfl
 ·obtain ⟨v,n,f0,rfl,hv,q1,q2⟩:=h
  refine' ⟨?tt,QSs.h ?hh,?gg⟩
  case hh=>exact (af (aq (cP (aI cV rfl T.zisinstance bH (ae (qv 0) (ae (bW (v:=.ty "int") rfl T.zint pd rfl) ab))) (dA (mm (aI cV rfl T.zisinstance bH (ae (qv 0) (ae (bW (v:=.ty "bool") rfl T.zbool nI rfl) ab))))))))
  cases n with
  | num i =>
   obtain rfl:v = .int i:=hv
   k_go
   refine cy T.kII ?_
   k_go
   refine cy T.kIB ?_
   k_go
   exact q1 i rfl
  | th k =>
   obtain ⟨p,rfl,hp⟩:=cm hv
   k_go
   refine dc hp T.kTI ?_
   k_go
   exact q2 k rfl
end
section
variable {P:Program} {w:World} {K:xFr} {mg:Str→Option Value} {base:Heap} {C O:Addr}
def spHI (C:Addr):Sp:=fun vs H Q _=>∃ (x dx:Addr),vs=[.ref x]∧H x=some (.ins C dx [])∧∀ (L:Addr) (H':Hp),Kept [x] H H'→H L=none→Hb H' C x L []→Q .non H'
def ghi:Scope:={ kind:=.function,names:=[("self",.local)],isGenerator:=false,isCoroutine:=false,more:=[] }
theorem schi:FnScope ["self"] ["self"] ghi:=⟨rfl,rfl,rfl,by decide +kernel,rfl,by decide +kernel,by decide +kernel⟩
theorem oW {f:Addr} {fd:FuncData} (F:Dm K f fd "__init__" "Heap.__init__" bx ["self"]) (T:Txt K mg C O):FnOk P w K mg base CX0 1 f fd ["self"] (spHI C)∧Binds K fd ["self"] []:=by
 refine F.ok schi rfl (fun vs H Q E h=>?_) (fun f cdv A outer s H vs Q E hr h=>?_)
 ·obtain ⟨x,dx,rfl,_⟩:=h
  rfl
 ·obtain ⟨x,dx,rfl,hx,q⟩:=h
  refine' ⟨?tt,QSs.h ?hh,?gg⟩
  case hh=>exact (af (dz (qv 0) (aJ ab)))
  k_go
  refine aK fun L H1 s1 n1 h1=>?_
  k_go
  refine cx (s1 _ _ hx) T.cH (by simp) (by simp) ?_
  k_go
  have nx:L≠x:=fun z=>by rw [z,hx] at n1;cases n1
  refine q L _ ((Kept.of s1).trans (.put (by simp))) n1 ⟨⟨dx,ac⟩,_,(by rw [ag nx];exact h1),rfl⟩
end
section
variable {P:Program} {w:World} {K:xFr} {mg:Str→Option Value} {base:Heap} {C O:Addr}
def spUsed (C:Addr):Sp:=fun vs H Q _=>∃ (x L:Addr) (cs:List D),vs=[.ref x]∧Hb H C x L cs∧Q (.int cs.length) H
def gused:Scope:={ kind:=.function,names:=[("self",.local),("len",.globalImplicit)],isGenerator:=false,isCoroutine:=false,more:=[] }
theorem scused:FnScope ["self"] ["self"] gused:=⟨rfl,rfl,rfl,by decide +kernel,rfl,by decide +kernel,by decide +kernel⟩
theorem kC {f:Addr} {fd:FuncData} (F:Dm K f fd "used" "Heap.used" bu ["self"]) (T:Txt K mg C O):FnOk P w K mg base CX0 1 f fd ["self"] (spUsed C)∧Binds K fd ["self"] []:=by
 refine F.ok scused rfl (fun vs H Q E h=>?_) (fun f cdv A outer s H vs Q E hr h=>?_)
 ·obtain ⟨x,L,cs,rfl,_⟩:=h
  rfl
 ·obtain ⟨x,L,cs,rfl,hb,q⟩:=h
  refine' ⟨?tt,QSs.h ?hh,?gg⟩
  case hh=>exact (af (aq (aI aO rfl T.zlen a0 (ae (aM (qv 0)) ab))))
  obtain ⟨dx,hx⟩:=hb.ob
  obtain ⟨vs,hL,hr',hl⟩:=hb.len
  k_go
  refine aL hx T.cH (by simp) rfl ?_
  k_go
  rw [hl]
  exact q
end
section
variable {P:Program} {w:World} {K:xFr} {mg:Str→Option Value} {base:Heap} {C O:Addr}
def spLay (C:Addr):Sp:=fun vs H Q _=>∃ (x L b:Addr) (cs ds:List D) (kd:Str) (wd:D) (wv:V),vs=[.ref x,.str kd,wv,.ref b]∧Hb H C x L cs∧Rp H wd wv∧LD H b ds∧b≠L∧cs.length+ds.length≤99999 ∧
 ∀ (v:V) (H':Hp),Kept [L] H H'→Hb H' C x L (cs++.tup [.str kd,wd,.int ds.length]::ds)→Rp H' (atD cs.length) v→Q v H'
def glay:Scope:={ kind:=.function,names:=[("self",.local),("kind",.local),("word",.local),("values",.local),("place",.local),("len",.globalImplicit)],isGenerator:=false,isCoroutine:=false,more:=[] }
theorem sclay:FnScope ["self","kind","word","values","place"] ["self","kind","word","values"] glay:=⟨rfl,rfl,rfl,by decide +kernel,rfl,by decide +kernel,by decide +kernel⟩
theorem m9 {f:Addr} {fd:FuncData} (F:Dm K f fd "lay" "Heap.lay" bF ["self","kind","word","values"]) (T:Txt K mg C O):FnOk P w K mg base CX0 1 f fd ["self","kind","word","values"] (spLay C)∧Binds K fd ["self","kind","word","values"] []:=by
 refine F.ok sclay rfl (fun vs H Q E h=>?_) (fun f cdv A outer s H vs Q E hr h=>?_)
 ·obtain ⟨x,L,b,cs,ds,kd,wd,wv,rfl,_⟩:=h
  rfl
 ·obtain ⟨x,L,b,cs,ds,kd,wd,wv,rfl,hb,hw,hd,hn,hl,q⟩:=h
  refine' ⟨?tt,QSs.h ?hh,?gg⟩
  case hh=>exact (aa (ao (i:=4) sclay.nd rfl (Or.inl rfl) (aI aO rfl T.zlen a0 (ae (aM (qv 0)) ab)))
   (aa (bS (dB PySem.F.plainAttrs_list PySem.F.slot_list_append PySem.F.type_list_append aS (aM (qv 0)) (ae (bm (ae (qv 1) (ae (qv 2) (ae (aI aO rfl T.zlen a0 (ae (qv 3) ab)) ab)))) ab)))
   (aa (bS (dB PySem.F.plainAttrs_list PySem.F.slot_list_extend PySem.F.type_list_extend d9 (aM (qv 0)) (ae (qv 3) ab)))
   (af (aq (bm (ae ah (ae (qv 4) ab))))))))
  obtain ⟨dx,hx⟩:=hb.ob
  obtain ⟨vs,hL,hr',hlv⟩:=hb.len
  obtain ⟨us,hB,hr2,hlu⟩:=bA hd
  k_go
  refine aL hx T.cH (by simp) rfl ?_
  k_go
  refine aL hx T.cH (by simp) rfl ?_
  k_go
  refine bj fun p H1 s1 n1 h1=>?_
  have hL1:=s1 _ _ hL
  k_go
  refine bi hL1 (big _ (by omega)) ?_
  have t2:TLe H1 (upd H1 L (.lst (vs++[.ref p]))):=aB hL1
  have hx2:upd H1 L (.lst (vs++[.ref p])) x=some (.ins C dx [("cells",.ref L)]):=by rw [ag hb.ne];exact s1 _ _ hx
  have hB2:upd H1 L (.lst (vs++[.ref p])) b=some (.lst us):=by rw [ag hn];exact s1 _ _ hB
  have hL2:upd H1 L (.lst (vs++[.ref p])) L=some (.lst (vs++[.ref p])):=ac
  have k2:Kept [L] H (upd H1 L (.lst (vs++[.ref p]))):=(Kept.of s1).trans (.put (by simp))
  generalize upd H1 L (.lst (vs++[.ref p]))=H2 at t2 hx2 hB2 hL2 k2
  k_go
  refine aL hx2 T.cH (by simp) rfl ?_
  k_go
  refine ff hL2 hB2 (Nat.le_of_lt (big _ (by simp only [xAb,xAt];omega))) ?_
  have t3:TLe H2 (upd H2 L (.lst (vs++[.ref p]++us))):=aB hL2
  have k3:Kept [L] H (upd H2 L (.lst (vs++[.ref p]++us))):=k2.trans (.put (by simp))
  have hx3:upd H2 L (.lst (vs++[.ref p]++us)) x=some (.ins C dx [("cells",.ref L)]):=by rw [ag hb.ne];exact hx2
  have hL3:upd H2 L (.lst (vs++[.ref p]++us)) L=some (.lst (vs++[.ref p]++us)):=ac
  generalize upd H2 L (.lst (vs++[.ref p]++us))=H3 at t3 k3 hx3 hL3
  have tt:=(TLe.of s1).trans (t2.trans t3)
  k_go
  refine bj fun p2 H4 s4 n4 h4=>?_
  k_go
  refine q (.ref p2) H4 (k3.trans (.of s4)) ⟨⟨dx,s4 _ _ hx3⟩,_,s4 _ _ hL3,?_⟩ (eY (by rw [h4,hlv]))
  rw [xAx]
  refine (hr'.le tt |>.mono s4).app ⟨_,_,rfl,⟨p,_,rfl,s4 _ _ (t3 _ _ (t2 _ _ h1)),_,_,rfl,rfl,_,_,rfl,(hw.le tt).mono s4,_,_,rfl,(show V.int us.length=V.int ds.length by rw [hlu]),rfl⟩,(hr2.le tt).mono s4⟩
end
section
variable {P:Program} {w:World} {K:xFr} {mg:Str→Option Value} {base:Heap} {C O:Addr}
theorem gU {xs:List V} {a b:Nat} (h:a≤b) (hb:b≤xs.length):cutV xs (some (a:Int)) (some (b:Int))=(xs.drop a).take (b - a):=by
 unfold cutV
 rw [HT.sIx_nat,HT.sIx_nat,Nat.min_eq_left hb,Nat.min_eq_left (Nat.le_trans h hb)]
abbrev hdD (t:Th):D:=.tup [.str t.kind,t.word,.int t.vals.length]
theorem gj {H:Hp} {v:V} {t:Th} (h:Rp H (hdD t) v):∃ p wv,v = .ref p∧H p=some (.tup [.str t.kind,wv,.int t.vals.length])∧Rp H t.word wv:=by
 obtain ⟨p,vs,rfl,e,v1,r1,rfl,h1,v2,r2,rfl,h2,v3,r3,rfl,h3,h4⟩:=h
 rw [show v1=_ from h1,show v3=_ from h3,show r3=_ from h4] at e
 exact ⟨p,v2,rfl,e,h2⟩
def spSeen (C:Addr):Sp:=fun vs H Q _=>∃ (x L:Addr) (cs:List D) (v:V) (T:Ths) (o:List Nat) (k:Nat),vs=[.ref x,v]∧Hb H C x L cs∧Hs T o cs∧k∈o∧Rp H (atD (place T o k)) v ∧
 ∀ (p l:Addr) (wv:V) (H':Hp),Same H H'→H p=none→H l=none→H' p=some (.tup [.str (tg T k).kind,wv,.ref l])→Rp H' (tg T k).word wv→LD H' l ((tg T k).vals.map (Nt.at (place T o)))→Q (.ref p) H'
def gseen:Scope:={ kind:=.function,names:=[("self",.local),("value",.local),("first",.local),("kind",.local),("word",.local),("many",.local)],isGenerator:=false,isCoroutine:=false,more:=[] }
theorem scseen:FnScope ["self","value","first","kind","word","many"] ["self","value"] gseen:=⟨rfl,rfl,rfl,by decide +kernel,rfl,by decide +kernel,by decide +kernel⟩
theorem kD {f:Addr} {fd:FuncData} (F:Dm K f fd "seen" "Heap.seen" bv ["self","value"]) (T:Txt K mg C O):FnOk P w K mg base CX0 1 f fd ["self","value"] (spSeen C)∧Binds K fd ["self","value"] []:=by
 refine F.ok scseen rfl (fun vs H Q E h=>?_) (fun f cdv A outer s H vs Q E hr h=>?_)
 ·obtain ⟨x,L,cs,v,t,o,k,rfl,_⟩:=h
  rfl
 ·obtain ⟨x,L,cs,v,t,o,k,rfl,hb,hs,hk,hv,q⟩:=h
  refine' ⟨?tt,QSs.h ?hh,?gg⟩
  case hh=>exact (aa (ao (i:=2) scseen.nd rfl (Or.inl rfl) (aE aX (qv 1) ad))
   (aa (cj (aE aH (aM (qv 0)) (qv 2)) (fZ rfl (az (ai (i:=3) scseen.nd rfl (Or.inl rfl)) (az (ai (i:=4) scseen.nd rfl (Or.inl rfl)) (az (ai (i:=5) scseen.nd rfl (Or.inl rfl)) bJ)))))
   (af (aq (bm (ae (qv 3) (ae (qv 4) (ae (bT c9 (aM (qv 0)) (bI (aj aV (qv 2) ad)) (bI (aj aV (aj aV (qv 2) ad) (qv 5)))) ab))))))))
  obtain ⟨dx,hx⟩:=hb.ob
  obtain ⟨vs,hL,hr',hlv⟩:=hb.len
  obtain ⟨pv,rfl,hpv⟩:=cm hv
  obtain ⟨u,hu1,hu2⟩:=hr'.get (hs.hd hk)
  obtain ⟨ph,wv,rfl,hph,hw⟩:=gj hu2
  have hbd:=hs.bd hk
  k_go
  refine aL hx T.cH (by simp) rfl ?_
  k_go
  refine a9 hL (au hu1) ?_
  k_go
  refine aL hx T.cH (by simp) rfl ?_
  k_go
  refine kW hL fun l H1 s1 n1 h1=>?_
  k_go
  refine bj fun p H2 s2 n2 h2=>?_
  k_go
  refine q p l wv H2 (s1.trans s2) (s1.free n2) n1 h2 ((hw.mono s1).mono s2) ⟨_,s2 _ _ h1,?_⟩
  rw [show ((place t o k:Nat):Int)+1=((place t o k+1:Nat):Int) by omega,show ((place t o k+1:Nat):Int)+((tg t k).vals.length:Int)=((place t o k+1+(tg t k).vals.length:Nat):Int) by omega,gU (by omega) (by omega)]
  have:=((hr'.mono s1).mono s2).drop (place t o k+1) |>.take (tg t k).vals.length
  rw [hs.sl hk] at this
  rw [show place t o k+1+(tg t k).vals.length - (place t o k+1)=(tg t k).vals.length by omega]
  exact this
end
section
variable {P:Program} {w:World} {K:xFr} {mg:Str→Option Value} {base:Heap} {C O:Addr}
theorem fW {to ti:TE} {t:TSet} {v:V} {σ:St} {H:Hp} {QS:St→Hp→Prop} (h:to σ H fun o H1=>ti σ H1 fun i H2=>t o i v H2 fun H3=>QS σ H3):gSub to ti t v σ H QS:=h
theorem fV {H:Hp} {p:Addr} {xs:List V} {k:Nat} {v:V} {R:Hp→Prop} (e:H p=some (.lst xs)) (hk:k<xs.length) (h:R (upd H p (.lst (xs.set k v)))):rSetL (.ref p) (.int (k:Int)) v H R :=
 ⟨p,xs,k,k,rfl,rfl,e,by unfold ixN;rw [xCg (by omega),xCg (by omega),Int.toNat_natCast],h⟩
theorem Rps.set {H:Hp} {d:D} {v:V} (h:Rp H d v):∀ {ds:List D} {vs:List V} (i:Nat),Rps H ds vs→Rps H (ds.set i d) (vs.set i v)
 | [],_,i,z=>by rw [show _=[] from z];rfl
 | _::_,_,0,z=>by
  obtain ⟨u,r,rfl,_,h2⟩:=z
  exact ⟨_,_,rfl,h,h2⟩
 | _::_,_,i+1,z=>by
  obtain ⟨u,r,rfl,h1,h2⟩:=z
  exact ⟨_,_,rfl,h1,Rps.set h i h2⟩
def spPut (C:Addr):Sp:=fun vs H Q _=>∃ (x L:Addr) (cs:List D) (v u:V) (p:Nat) (d:D),vs=[.ref x,v,u]∧Hb H C x L cs∧Rp H (atD p) v∧Rp H d u∧p+1<cs.length∧∀ H':Hp,Kept [L] H H'→Hb H' C x L (cs.set (p+1) d)→Q .non H'
def gput:Scope:={ kind:=.function,names:=[("self",.local),("value",.local),("inside",.local)],isGenerator:=false,isCoroutine:=false,more:=[] }
theorem scput:FnScope ["self","value","inside"] ["self","value","inside"] gput:=⟨rfl,rfl,rfl,by decide +kernel,rfl,by decide +kernel,by decide +kernel⟩
theorem m7 {f:Addr} {fd:FuncData} (F:Dm K f fd "put" "Heap.put" bE ["self","value","inside"]) (T:Txt K mg C O):FnOk P w K mg base CX0 1 f fd ["self","value","inside"] (spPut C)∧Binds K fd ["self","value","inside"] []:=by
 refine F.ok scput rfl (fun vs H Q E h=>?_) (fun f cdv A outer s H vs Q E hr h=>?_)
 ·obtain ⟨x,L,cs,v,u,p,d,rfl,_⟩:=h
  rfl
 ·obtain ⟨x,L,cs,v,u,p,d,rfl,hb,hv,hd,hp,q⟩:=h
  refine' ⟨?tt,QSs.h ?hh,?gg⟩
  case hh=>exact (af (cj (qv 2) (f6 (aM (qv 0)) (aj aV (aE aX (qv 1) ad) ad) dt)))
  obtain ⟨dx,hx⟩:=hb.ob
  obtain ⟨vs,hL,hr',hlv⟩:=hb.len
  obtain ⟨pv,rfl,hpv⟩:=cm hv
  k_go
  refine fW ?_
  k_go
  refine aL hx T.cH (by simp) rfl ?_
  k_go
  rw [show ((p:Nat):Int)+1=((p+1:Nat):Int) by omega]
  refine fV hL (by omega) ?_
  k_go
  exact q _ (.put (by simp)) ⟨⟨dx,by rw [ag hb.ne];exact hx⟩,_,ac,(Rps.set hd _ hr').le (aB hL)⟩
end
section
variable {P:Program} {w:World} {K:xFr} {mg:Str→Option Value} {base:Heap} {C O:Addr}
def plk (T:Ths) (f:Nat→Nat) (o' o:List Nat):List (Key×V):=o.map fun k=>(.inl (f k:Int),.int (place T o' k))
theorem iU {T:Ths} {f:Nat→Nat} {o' o:List Nat} {k:Nat} (inj:∀ j∈o,f j=f k→j=k) (h:k∈o):valV (plk T f o' o) (.inl (f k:Int))=some (.int (place T o' k)):=by
 induction o with
 | nil=>cases h
 | cons x o ih =>
  by_cases z:f x=f k
  ·have e:=inj x (xAr ..) z
   rw [← e]
   exact cq rfl
  ·rw [show plk T f o' (x::o)=(.inl (f x:Int),.int (place T o' x))::plk T f o' o from rfl,bN (by simp only [Sum.inl.injEq];omega)]
   exact ih (fun j hj=>inj j (xAs _ hj)) ((xAv.mp h).resolve_left fun y=>z (by rw [y]))
theorem gI {T:Ths} {f:Nat→Nat} {o' o:List Nat} {i:Nat} (h:∀ j∈o,f j≠i):valV (plk T f o' o) (.inl (i:Int))=none:=by
 induction o with
 | nil=>rfl
 | cons x o ih =>
  have:=h x (xAr ..)
  rw [show plk T f o' (x::o)=(.inl (f x:Int),.int (place T o' x))::plk T f o' o from rfl,bN (by simp only [Sum.inl.injEq];omega)]
  exact ih fun j hj=>h j (xAs _ hj)
theorem kf {T:Ths} {f:Nat→Nat} {o:List Nat} {k:Nat}:plk T f (o++[k]) (o++[k])=plk T f o o++[(.inl (f k:Int),.int (place T (o++[k]) k))]:=by
 unfold plk
 rw [xAi]
 congr 1
 exact List.map_congr_left fun j hj=>by rw [bG hj]
structure Ob (H:Hp) (O x L M N:Addr) (cs cs2:List D) (kvs:List (Key×V)):Prop where
 ob:∃ dx,H x=some (.ins O dx [("left",.ref L),("cells",.ref M),("places",.ref N)])
 l1:LD H L cs
 l2:LD H M cs2
 pl:H N=some (.dK kvs)
 ne:M≠L
section
variable {H H':Hp} {x L M N:Addr} {cs cs2:List D} {kvs:List (Key×V)}
theorem Ob.same (h:Ob H O x L M N cs cs2 kvs) (s:Same H H'):Ob H' O x L M N cs cs2 kvs:=⟨let ⟨dx,e⟩:=h.ob;⟨dx,s _ _ e⟩,h.l1.mono s,h.l2.mono s,s _ _ h.pl,h.ne⟩
theorem Ob.tle (h:Ob H O x L M N cs cs2 kvs) (k:Kept [M,N] H H'):TLe H H':=k.tle fun a ha xs z=>by
 simp only [xAv,xBv,or_false] at ha
 rcases ha with rfl | rfl
 ·obtain ⟨vs,e,_⟩:=h.l2
  rw [e] at z;cases z
 ·rw [h.pl] at z;cases z
theorem Ob.xn (h:Ob H O x L M N cs cs2 kvs):x≠M∧x≠N∧M≠N∧L≠N:=by
 obtain ⟨dx,e⟩:=h.ob
 obtain ⟨vs,e2,_⟩:=h.l2
 obtain ⟨us,e4,_⟩:=h.l1
 have e3:=h.pl
 refine ⟨fun z=>?_,fun z=>?_,fun z=>?_,fun z=>?_⟩
 ·rw [z,e2] at e;cases e
 ·rw [z,e3] at e;cases e
 ·rw [z,e3] at e2;cases e2
 ·rw [z,e3] at e4;cases e4
end
def spOI (O:Addr):Sp:=fun vs H Q _=>∃ (x dx L:Addr) (cs:List D),vs=[.ref x,.ref L]∧H x=some (.ins O dx [])∧LD H L cs∧∀ (M N:Addr) (H':Hp),Kept [x] H H'→H M=none→H N=none→Ob H' O x L M N cs [] []→Q .non H'
def goi:Scope:={ kind:=.function,names:=[("self",.local),("left",.local)],isGenerator:=false,isCoroutine:=false,more:=[] }
theorem scoi:FnScope ["self","left"] ["self","left"] goi:=⟨rfl,rfl,rfl,by decide +kernel,rfl,by decide +kernel,by decide +kernel⟩
theorem oU {f:Addr} {fd:FuncData} (F:Dm K f fd "__init__" "OtherHalf.__init__" aP ["self","left"]) (T:Txt K mg C O):FnOk P w K mg base CX0 1 f fd ["self","left"] (spOI O)∧Binds K fd ["self","left"] []:=by
 refine F.ok scoi rfl (fun vs H Q E h=>?_) (fun f cdv A outer s H vs Q E hr h=>?_)
 ·obtain ⟨x,dx,L,cs,rfl,_⟩:=h
  rfl
 ·obtain ⟨x,dx,L,cs,rfl,hx,hd,q⟩:=h
  refine' ⟨?tt,QSs.h ?hh,?gg⟩
  case hh=>exact (aa (dz (qv 0) (qv 1))
   (aa (dz (qv 0) (aJ ab))
   (af (dz (qv 0) dD))))
  have nL:L≠x:=fun z=>by obtain ⟨vs,e,_⟩:=hd;rw [z,hx] at e;cases e
  k_go
  refine cx hx T.cO (by simp) (by simp) ?_
  have k1:Kept [x] H (upd H x (.ins O dx (putF "left" (.ref L) []))):=.put (by simp)
  have hx1:upd H x (.ins O dx (putF "left" (.ref L) [])) x=some (.ins O dx [("left",.ref L)]):=ac
  have d1:LD (upd H x (.ins O dx (putF "left" (.ref L) []))) L cs:=hd.kept k1 (.upd fun xs z=>by rw [hx] at z;cases z) (by simp [nL])
  have f1:∀ b,b≠x→upd H x (.ins O dx (putF "left" (.ref L) [])) b=none→H b=none:=fun b hb z=>by rw [ag hb] at z;exact z
  generalize upd H x (.ins O dx (putF "left" (.ref L) []))=H1 at k1 hx1 d1 f1
  k_go
  refine aK fun M H2 s2 n2 h2=>?_
  k_go
  have nM:M≠x:=fun z=>by rw [z,hx1] at n2;cases n2
  have hx2:=s2 _ _ hx1
  refine cx hx2 T.cO (by simp) (by simp) ?_
  have k3:Kept [x] H2 (upd H2 x (.ins O dx (putF "cells" (.ref M) [("left",.ref L)]))):=.put (by simp)
  have hx3:upd H2 x (.ins O dx (putF "cells" (.ref M) [("left",.ref L)])) x=some (.ins O dx [("left",.ref L),("cells",.ref M)]):=ac
  have d3:LD (upd H2 x (.ins O dx (putF "cells" (.ref M) [("left",.ref L)]))) L cs:=(d1.mono s2).kept k3 (.upd fun xs z=>by rw [hx2] at z;cases z) (by simp [nL])
  have m3:=k3 _ _ h2 (by simp [nM])
  have f3:∀ b,b≠x→upd H2 x (.ins O dx (putF "cells" (.ref M) [("left",.ref L)])) b=none→H2 b=none:=fun b hb z=>by rw [ag hb] at z;exact z
  generalize upd H2 x (.ins O dx (putF "cells" (.ref M) [("left",.ref L)]))=H3 at k3 hx3 d3 m3 f3
  k_go
  refine fY fun N H4 s4 n4 h4=>?_
  k_go
  have nN:N≠x:=fun z=>by rw [z,hx3] at n4;cases n4
  have hx4:=s4 _ _ hx3
  refine cx hx4 T.cO (by simp) (by simp) ?_
  have k5:Kept [x] H4 (upd H4 x (.ins O dx (putF "places" (.ref N) [("left",.ref L),("cells",.ref M)]))):=.put (by simp)
  k_go
  have kk:Kept [x] H (upd H4 x (.ins O dx (putF "places" (.ref N) [("left",.ref L),("cells",.ref M)]))):=k1.trans ((Kept.of s2).trans (k3.trans ((Kept.of s4).trans k5)))
  refine q M N _ kk (f1 M nM n2) (f1 N nN (s2.free (f3 N nN n4))) ⟨⟨dx,ac⟩,(d3.mono s4).kept k5 (.upd fun xs z=>by rw [hx4] at z;cases z) (by simp [nL]),⟨[],k5 _ _ (s4 _ _ m3) (by simp [nM]),rfl⟩,k5 _ _ h4 (by simp [nN]),fun z=>?_⟩
  obtain ⟨vs,e,_⟩:=d1
  rw [z,e] at n2
  cases n2
end
section
variable {P:Program} {w:World} {K:xFr} {mg:Str→Option Value} {base:Heap} {C O:Addr}
theorem da {tt:TT} {t u rest:TS} {Dn:Ends} {σ:St} {H:Hp} (R:St→Hp→Prop) (core:∀ σ' H',R σ' H'→rest Dn σ' H') (h:(∀ σ' H',R σ' H'→rest Dn σ' H')→tIfS tt t u { Dn with nx:=rest Dn } σ H):tSeq (tIfS tt t u) rest Dn σ H:=h core
def spMv (O:Addr):Sp:=fun vs H Q _=>∃ (x L M N:Addr) (cs cs2:List D) (v:V) (n:Nt) (T:Ths) (ord R o:List Nat) (m:Nat),vs=[.ref x,v]∧Ob H O x L M N cs cs2 (plk T (place T ord) o o)∧Hs T ord cs∧Ms T (place T ord) ord R o m cs2∧Rp H (n.at (place T ord)) v∧(∀ k∈n.rf,k∈ord)∧((∀ k∈n.rf,k∈R)∨Cl.v n∈fl T o)∧cs.length≤50000 ∧
 ∀ (u:V) (H':Hp) (cs2':List D),Kept [M,N] H H'→Ob H' O x L M N cs cs2' (plk T (place T ord) (push o n) (push o n))→Ms T (place T ord) ord R (push o n) m cs2'→Rp H' (n.at (place T (push o n))) u→Q u H'
def gmv:Scope:={ kind:=.function,names:=[("self",.local),("value",.local),("first",.local),("is_number",.globalImplicit),("len",.globalImplicit)],isGenerator:=false,isCoroutine:=false,more:=[] }
theorem scmv:FnScope ["self","value","first"] ["self","value"] gmv:=⟨rfl,rfl,rfl,by decide +kernel,rfl,by decide +kernel,by decide +kernel⟩
theorem oV {f:Addr} {fd:FuncData} (F:Dm K f fd "moved_value" "OtherHalf.moved_value" ar ["self","value"]) (T:Txt K mg C O) (c_is_number:Cal P w K mg base "is_number" 1 ["thing"] spIsn):FnOk P w K mg base CX0 2 f fd ["self","value"] (spMv O)∧Binds K fd ["self","value"] []:=by
 refine F.ok scmv rfl (fun vs H Q E h=>?_) (fun f cdv A outer s H vs Q E hr h=>?_)
 ·obtain ⟨x,L,M,N,cs,cs2,v,n,t,ord,R,o,m,rfl,_⟩:=h
  rfl
 ·obtain ⟨x,L,M,N,cs,cs2,v,n,t,ord,R,o,m,rfl,ob,hs,ms,hv,hn,hg,hc,q⟩:=h
  have hu:=cg hr
  refine' ⟨?tt,QSs.h ?hh,?gg⟩
  case hh=>exact (aa (aR (ci (ba c_is_number hr rfl (ae (qv 1) ab))) (af (aq (qv 1))) aG)
   (aa (ao (i:=2) scmv.nd rfl (Or.inl rfl) (aE aX (qv 1) ad))
   (aa (aR (dw (d8 hu (qv 2) (aM (qv 0)))) (aa (cz hu (aM (qv 0)) (qv 2) (aI aO rfl T.zlen a0 (ae (aM (qv 0)) ab)))
   (af (bS (dB PySem.F.plainAttrs_list PySem.F.slot_list_extend PySem.F.type_list_extend d9 (aM (qv 0)) (ae (bT c9 (aM (qv 0)) (bI (qv 2)) (bI (aj aV (aj aV (qv 2) ad) (aE aX (aE aH (aM (qv 0)) (qv 2)) ad)))) ab))))) aG)
   (af (aq (bm (ae ah (ae (ap hu (aM (qv 0)) (qv 2)) ab))))))))
  cases n with
  | num i =>
   k_go
   refine ⟨v,.num i,place t ord,rfl,hv,(fun _ _=>?_),(fun k hk=>by cases hk)⟩
   k_go
   exact q v H cs2 .refl ob ms hv
  | th k =>
   obtain ⟨pv,rfl,hpv0⟩:=cm hv
   have hpv:True→H pv=some (.tup [.str "at",.int (place t ord k:Nat)]):=fun _=>hpv0
   clear hpv0
   k_go
   refine ⟨.ref pv,.th k,place t ord,rfl,hv,(fun i hi=>by cases hi),fun _ _=>?_⟩
   k_go
   refine kX (hpv trivial) lB (du ?_)
   dsimp only
   obtain ⟨dx,hx⟩:=ob.ob
   obtain ⟨xM,xN,MN,LN⟩:=ob.xn
   have hko:k∈ord:=hn k (by simp [Nt.rf])
   have inj:∀ j∈o,place t ord j=place t ord k→j=k:=fun j hj z=>cQ (ms.sub j hj) hko z
   refine da (fun σ' H'=>∃ cs2',σ'=[some (.ref x),some (.ref pv),some (.int (place t ord k:Nat))]∧Kept [M,N] H H'∧Ob H' O x L M N cs cs2' (plk t (place t ord) (push o (.th k)) (push o (.th k)))∧Ms t (place t ord) ord R (push o (.th k)) m cs2') ?core ?main
   case main =>
    intro core
    k_go
    refine aL hx T.cO (by simp) rfl ?_
    refine iE ob.pl ?_
    k_go
    refine b9 (fun z=>?_) (fun z=>?_)
    ·have ko:k ∉ o:=fun ho=>by
      rw [iU inj ho] at z
      cases z
     have out:valV (plk t (place t ord) o o) (.inl (place t ord k:Int))=none:=gI fun j hj e=>ko (inj j hj e ▸ hj)
     obtain ⟨ws,hM,hrM,hlM⟩:=bA ob.l2
     obtain ⟨us,hL,hrL,hlL⟩:=bA ob.l1
     obtain ⟨l1,l2⟩:=ms.lens hs
     k_go
     refine aL hx T.cO (by simp) rfl ?_
     k_go
     refine aL hx T.cO (by simp) rfl ?_
     k_go
     refine de ob.pl (big _ (by unfold plk;rw [xAa];omega)) ?_
     rw [cD _ out]
     have tl1:TLe H (upd H N (.dK (plk t (place t ord) o o++[(.inl (place t ord k:Int),.int ws.length)]))):=.upd fun xs z=>by rw [ob.pl] at z;cases z
     have k1:Kept [M,N] H (upd H N (.dK (plk t (place t ord) o o++[(.inl (place t ord k:Int),.int ws.length)]))):=.put (by simp)
     have hx1:upd H N (.dK (plk t (place t ord) o o++[(.inl (place t ord k:Int),.int ws.length)])) x=some (.ins O dx [("left",.ref L),("cells",.ref M),("places",.ref N)]):=by rw [ag xN];exact hx
     have hN1:upd H N (.dK (plk t (place t ord) o o++[(.inl (place t ord k:Int),.int ws.length)])) N=some (.dK (plk t (place t ord) o o++[(.inl (place t ord k:Int),.int ws.length)])):=ac
     have hM1:upd H N (.dK (plk t (place t ord) o o++[(.inl (place t ord k:Int),.int ws.length)])) M=some (.lst ws):=by rw [ag MN];exact hM
     have hL1:upd H N (.dK (plk t (place t ord) o o++[(.inl (place t ord k:Int),.int ws.length)])) L=some (.lst us):=by rw [ag LN];exact hL
     generalize upd H N (.dK (plk t (place t ord) o o++[(.inl (place t ord k:Int),.int ws.length)]))=H1 at tl1 k1 hx1 hN1 hM1 hL1
     obtain ⟨u,hu1,hu2⟩:=(hrL.le tl1).get (hs.hd hko)
     obtain ⟨ph,wv,rfl,hph,hw⟩:=gj hu2
     have hbd:=hs.bd hko
     k_go
     refine aL hx1 T.cO (by simp) rfl ?_
     k_go
     refine aL hx1 T.cO (by simp) rfl ?_
     k_go
     refine aL hx1 T.cO (by simp) rfl ?_
     k_go
     refine a9 hL1 (au hu1) ?_
     k_go
     refine kW hL1 fun l H2 s2 n2 h2=>?_
     rw [show ((place t ord k:Nat):Int)+1=((place t ord k+1:Nat):Int) by omega,show ((place t ord k+1:Nat):Int)+((tg t k).vals.length:Int)=((place t ord k+1+(tg t k).vals.length:Nat):Int) by omega,gU (by omega) (by omega),show place t ord k+1+(tg t k).vals.length - place t ord k=(tg t k).vals.length+1 by omega] at h2
     have hsl:=((hrL.le tl1).mono s2).drop (place t ord k) |>.take ((tg t k).vals.length+1)
     rw [hs.blk hko] at hsl
     have lsl:=hsl.length
     rw [xAa,a8] at lsl
     have msn:=ms.new ko hko (hg.imp (fun z=>z k (by simp [Nt.rf])) fun z=>⟨.th k,z,by simp [Nt.rf]⟩)
     have l3:=(msn.lens hs).1
     rw [xAb,xAa,a8] at l3
     k_go
     have hM2:=s2 _ _ hM1
     refine ff hM2 h2 (Nat.le_of_lt (big _ (by omega))) ?_
     have tl3:TLe H2 (upd H2 M (.lst (ws++(us.drop (place t ord k)).take ((tg t k).vals.length+1)))):=aB hM2
     have kk:Kept [M,N] H (upd H2 M (.lst (ws++(us.drop (place t ord k)).take ((tg t k).vals.length+1)))):=k1.trans ((Kept.of s2).trans (.put (by simp)))
     have tla:=ob.tle kk
     have ep:push o (.th k)=o++[k]:=by simp [push,ko]
     refine core _ _ ⟨_,rfl,kk,?_,by rw [ep];exact msn⟩
     rw [ep]
     refine ⟨⟨dx,by rw [ag xM];exact s2 _ _ hx1⟩,⟨us,by rw [ag ob.ne.symm];exact s2 _ _ hL1,hrL.le tla⟩,⟨_,ac,(hrM.le tla).app (hsl.le tl3)⟩,?_,ob.ne⟩
     rw [ag (Ne.symm MN),s2 _ _ hN1,kf,bX ko,hlM,ms.len]
    ·have ho:k∈o:=by
      by_cases ho:k∈o
      ·exact ho
      ·rw [gI fun j hj e=>ho (inj j hj e ▸ hj)] at z
       cases z
     have ep:push o (.th k)=o:=by simp [push,ho]
     exact core _ _ ⟨cs2,rfl,.refl,by rw [ep];exact ob,by rw [ep];exact ms⟩
   rintro _ H' ⟨cs2',rfl,k',ob',ms'⟩
   obtain ⟨dx',hx'⟩:=ob'.ob
   k_go
   refine aL hx' T.cO (by simp) rfl ?_
   k_go
   have hin:k∈push o (.th k):=dF k (by simp [Nt.rf])
   refine gA ob'.pl (iU (fun j hj z=>cQ (ms'.sub j hj) hko z) hin) ?_
   k_go
   refine bj fun p H2 s2 n2 h2=>?_
   k_go
   exact q (.ref p) H2 cs2' (k'.trans (.of s2)) (ob'.same s2) ms' (eY h2)
end
section
variable {P:Program} {w:World} {K:xFr} {mg:Str→Option Value} {base:Heap} {C O:Addr}
theorem oh {tas:TA} {σ:St} {H:Hp} {R:It→Hp→Prop} (h:tas σ H fun vs H1=>∃ i j:Int,vs=[.int i,.int j]∧(-(2 ^ 62)≤i∧i<2 ^ 62∧-(2 ^ 62)≤j∧j<2 ^ 62)∧R (Itr i (j - i).toNat) H1):iRng2 tas σ H R:=h
def spRest (O:Addr):Sp:=fun vs H Q _=>∃ (x L M N:Addr) (cs cs2:List D) (T:Ths) (ord R o:List Nat),vs=[.ref x]∧Ob H O x L M N cs cs2 (plk T (place T ord) o o)∧Hs T ord cs∧Ms T (place T ord) ord R o 0 cs2∧cs.length≤50000 ∧
 ∀ (H':Hp) (cs2':List D) (e:List Nat) (kvs:List (Key×V)),Kept [M,N] H H'→Ob H' O x L M N cs cs2' kvs→Hs T (o++e) cs2'→Gr T R (o++e)→(∀ k∈o++e,k∈ord)→Q .non H'
def grest:Scope:={ kind:=.function,names:=[("self",.local),("first",.local),("behind",.local),("place",.local),("len",.globalImplicit),("range",.globalImplicit)],isGenerator:=false,isCoroutine:=false,more:=[] }
theorem screst:FnScope ["self","first","behind","place"] ["self"] grest:=⟨rfl,rfl,rfl,by decide +kernel,rfl,by decide +kernel,by decide +kernel⟩
theorem kH {f:Addr} {fd:FuncData} (F:Dm K f fd "move_rest" "OtherHalf.move_rest" ay ["self"]) (T:Txt K mg C O) (c_OtherHalf_moved_value:Mal P w K mg base O "moved_value" 2 ["self","value"] (spMv O)):FnOk P w K mg base CX0 3 f fd ["self"] (spRest O)∧Binds K fd ["self"] []:=by
 refine F.ok screst rfl (fun vs H Q E h=>?_) (fun f cdv A outer s H vs Q E hr h=>?_)
 ·obtain ⟨x,L,M,N,cs,cs2,t,ord,R,o,rfl,_⟩:=h
  rfl
 ·obtain ⟨x,L,M,N,cs,cs2,t,ord,R,o,rfl,ob,hs,ms,hc,q⟩:=h
  refine' ⟨?tt,QSs.h ?hh,?gg⟩
  case hh=>exact (aa (ao (i:=1) screst.nd rfl (Or.inl rfl) ad)
   (af (fg PassesOwn.never (aw i9 (qv 1) (aI aO rfl T.zlen a0 (ae (aM (qv 0)) ab)) (nomark _)) (aa (ao (i:=2) screst.nd rfl (Or.inl rfl) (aj aV (aj aV (qv 1) ad) (aE aX (aE aH (aM (qv 0)) (qv 1)) ad)))
   (aa (bR PassesOwn.never rfl (ox rfl T.zrange (ae (aj aV (qv 1) ad) (ae (qv 2) ab))) (ai (i:=3) screst.nd rfl (Or.inl rfl))
    (af (cj (cc (qv 0) c_OtherHalf_moved_value hr (ae (aE aH (aM (qv 0)) (qv 3)) ab)) (f6 (aM (qv 0)) (qv 3) dt))))
   (af (ao (i:=1) screst.nd rfl (Or.inl rfl) (qv 2))))))))
  k_go
  refine gx (fun m σ H'=>∃ (e:List Nat) (cs2':List D) (p d:Nat) (v2 v3:Option V),σ=[some (.ref x),some (.int p),v2,v3]∧Kept [M,N] H H'∧Ob H' O x L M N cs cs2' (plk t (place t ord) (o++e) (o++e))∧Ms t (place t ord) ord R (o++e) p cs2'∧Bd t (o++e) p d∧m=ord.length - d) _ ⟨[],cs2,0,0,_,_,rfl,.refl,by rw [xB0];exact ob,by rw [xB0];exact ms,⟨[],o++[],rfl,rfl,rfl⟩,rfl⟩ ?_
  rintro m σ H1 ⟨e,cs1,p,d,v2,v3,rfl,k1,ob1,ms1,bd,rfl⟩
  obtain ⟨dx,hx⟩:=ob1.ob
  obtain ⟨ws,hM,hrM,hlM⟩:=bA ob1.l2
  have ll:=ms1.len
  obtain ⟨l1,l2⟩:=ms1.lens hs
  k_go
  refine aL hx T.cO (by simp) rfl ?_
  k_go
  refine kU (fun z=>?_) (fun z=>?_)
  ·have z1:=of_decide_eq_true z
   obtain ⟨a,k,b,eo,ep,ed⟩:=bd.lt (by omega)
   obtain ⟨u,hu1,hu2⟩:=hrM.get (ms1.at (by rw [ep];exact jr eo))
   obtain ⟨ph,wv,rfl,hph,hw⟩:=gj hu2
   have la:a.length<ord.length:=by
    have:=cr ms1.nd ms1.sub
    rw [eo,xAb,xAo] at this
    omega
   have lp:p+1+(tg t k).vals.length≤(fl t (o++e)).length:=by
    rw [eo,ep,aU,fl,xAb,xAb,a8]
    unfold size
    omega
   k_go
   refine aL hx T.cO (by simp) rfl ?_
   k_go
   refine a9 hM (au hu1) ?_
   k_go
   refine oh ?_
   k_go
   refine ⟨_,_,rfl,by omega,?_⟩
   rw [show ((p:Int)+1+((tg t k).vals.length:Int) - ((p:Int)+1)).toNat=(tg t k).vals.length by omega]
   refine bC bM (fun i σ H'=>∃ (e':List Nat) (cs':List D) (v3:Option V),σ=[some (.ref x),some (.int p),some (.int ((p:Int)+1+((tg t k).vals.length:Int))),v3]∧Kept [M,N] H H'∧Ob H' O x L M N cs cs' (plk t (place t ord) (o++e++e') (o++e++e'))∧Ms t (place t ord) ord R (o++e++e') (p+1+i) cs') ⟨[],cs1,v3,rfl,k1,by rw [xB0];exact ob1,by rw [xB0];exact ms1.skip (by rw [ep];exact jr eo)⟩ (fun _ _ _ _ _=>True.intro) ?_ ?_
   ·rintro E2 i hE σ _ y H2 hi ⟨e',cs',v3,rfl,k2,ob2,ms2⟩ ⟨rfl,rfl⟩
    obtain ⟨dx2,hx2⟩:=ob2.ob
    obtain ⟨ws2,hM2,hrM2,hlM2⟩:=bA ob2.l2
    have eo2:o++e++e'=a++k::(b++e'):=by rw [eo];simp
    have hfl:(fl t (o++e++e'))[p+1+i]?=some (.v (tg t k).vals[i]):=by rw [ep];exact nA eo2 i hi
    have hmem:Cl.v (tg t k).vals[i]∈fl t (o++e++e'):=xAc hfl
    obtain ⟨u2,hu3,hu4⟩:=hrM2.get (ms2.at hfl)
    have hko:k∈ord:=ms2.sub k (by rw [eo2];simp)
    k_go
    refine a7 hx2 rfl ?_
    k_go
    refine aL hx2 T.cO (by simp) rfl ?_
    k_go
    rw [show (p:Int)+1+(i:Int)=((p+1+i:Nat):Int) by omega]
    refine a9 hM2 (au hu3) ?_
    k_go
    refine ⟨x,L,M,N,cs,cs',u2,(tg t k).vals[i],t,ord,R,o++e++e',p+1+i,rfl,ob2,hs,ms2,hu4,fun j hj=>hs.cl k hko _ (List.getElem_mem hi) j hj,.inr hmem,hc,fun u3 H3 cs3 k3 ob3 ms3 hr3=>?_⟩
    obtain ⟨dx3,hx3⟩:=ob3.ob
    obtain ⟨ws3,hM3,hrM3,hlM3⟩:=bA ob3.l2
    obtain ⟨xM,xN,MN,LN⟩:=ob3.xn
    obtain ⟨e3,ee3⟩:=dE (o:=o++e++e') (n:=(tg t k).vals[i])
    have hfl3:(fl t (push (o++e++e') (tg t k).vals[i]))[p+1+i]?=some (.v (tg t k).vals[i]):=by
     rw [ee3,aU,List.getElem?_append_left (xAq.mp hfl).1]
     exact hfl
    have l3:=ms3.len
    have l4:=(xAq.mp hfl3).1
    have ms4:=ms3.step hfl3 dF
    k_go
    refine fW ?_
    k_go
    refine aL hx3 T.cO (by simp) rfl ?_
    k_go
    refine fV hM3 (by omega) ?_
    have k4:Kept [M,N] H3 (upd H3 M (.lst (ws3.set (p+1+i) u3))):=.put (by simp)
    have t4:=ob3.tle k4
    k_go
    refine ⟨e'++e3,cs3.set (p+1+i) ((tg t k).vals[i].at (place t (push (o++e++e') (tg t k).vals[i]))),some _,rfl,k2.trans (k3.trans k4),?_,?_⟩
    ·rw [← xAx,← ee3]
     exact ⟨⟨dx3,by rw [ag xM];exact hx3⟩,let ⟨us,h1,h2⟩:=ob3.l1;⟨us,by rw [ag ob3.ne.symm];exact h1,h2.le t4⟩,⟨_,ac,(Rps.set hr3 _ hrM3).le t4⟩,by rw [ag (Ne.symm MN)];exact ob3.pl,ob3.ne⟩
    ·rw [← xAx,← ee3]
     exact ms4
   ·rintro σ H2 ⟨e',cs',v3,rfl,k2,ob2,ms2⟩
    have eo2:o++e++e'=a++k::(b++e'):=by rw [eo];simp
    k_go
    refine ⟨ord.length - (d+1),by omega,e++e',cs',p+1+(tg t k).vals.length,d+1,some (.int ((p:Int)+1+((tg t k).vals.length:Int))),v3,?_,k2,by rw [← xAx];exact ob2,by rw [← xAx];exact ms2,?_,rfl⟩
    ·rw [show ((p+1+(tg t k).vals.length:Nat):Int)=(p:Int)+1+((tg t k).vals.length:Int) by omega]
     rfl
    ·rw [← xAx,ep,ed]
     exact Bd.next eo2
  ·have z1:=of_decide_eq_false z
   k_go
   exact q H1 cs1 e _ k1 ob1 (ms1.fin (by omega) hs.lt) ms1.gr ms1.sub
end
section
variable {P:Program} {w:World} {K:xFr} {mg:Str→Option Value} {base:Heap} {C O:Addr}
theorem Hb.kept {H H':Hp} {x L:Addr} {cs:List D} {fp:List Addr} (h:Hb H C x L cs) (k:Kept fp H H') (t:TLe H H') (n1:x ∉ fp) (n2:L ∉ fp):Hb H' C x L cs:=⟨let ⟨dx,e⟩:=h.ob;⟨dx,k _ _ e n1⟩,h.ls.kept k t n2⟩
theorem nen {H:Hp} {c d:Addr} {u:HO} (e:H c=some u) (n:H d=none):c≠d:=fun z=>by rw [z,n] at e;cases e
theorem aY {α:Type} {l:List α} {i:Nat} {x:α} (h:l[i]?=some x):l.take (i+1)=l.take i++[x]:=by rw [List.take_succ,h];rfl
def rfs (ns:List Nt):List Nat:=ns.flatMap Nt.rf
theorem bc {ns:List Nt} {n:Nt} (h:n∈ns) {k:Nat} (hk:k∈n.rf):k∈rfs ns:=List.mem_flatMap.mpr ⟨n,h,hk⟩
def spMove (C:Addr):Sp:=fun vs H Q _=>∃ (x L b:Addr) (cs:List D) (ns:List Nt) (T:Ths) (ord:List Nat),vs=[.ref x,.ref b]∧Hb H C x L cs∧Hs T ord cs∧LD H b (ns.map (Nt.at (place T ord)))∧(∀ k∈rfs ns,k∈ord)∧ns.length≤1000∧cs.length≤50000 ∧
 ∀ (l L':Addr) (H':Hp) (o:List Nat) (cs':List D),Kept [x] H H'→H l=none→H L'=none→l≠L'→Hb H' C x L' cs'→Hs T o cs'→(∀ k∈rfs ns,k∈o)→Gr T (rfs ns) o→(∀ k∈o,k∈ord)→LD H' l (ns.map (Nt.at (place T o)))→Q (.ref l) H'
def gmove:Scope:={ kind:=.function,names:=[("self",.local),("roots",.local),("other",.cell),("told",.local),("OtherHalf",.globalImplicit)],isGenerator:=false,isCoroutine:=false,more:=[("fast",.str "self"),("fast",.str "roots"),("fast",.str "other"),("fast",.str "value"),("fast",.str "told")] }
theorem scmove:FnScope ["self","roots","other","told"] ["self","roots"] gmove:=⟨rfl,rfl,rfl,by decide +kernel,rfl,by decide +kernel,by decide +kernel⟩
theorem kJ {f:Addr} {fd:FuncData} (F:Dm K f fd "move" "Heap.move" bw ["self","roots"]) (T:Txt K mg C O) (c_OtherHalf_moved_value:Mal P w K mg base O "moved_value" 2 ["self","value"] (spMv O)) (c_OtherHalf_move_rest:Mal P w K mg base O "move_rest" 3 ["self"] (spRest O)) (i_OtherHalf:Ini P w K mg base O "OtherHalf" 1 ["self","left"] (spOI O)):FnOk P w K mg base CX0 4 f fd ["self","roots"] (spMove C)∧Binds K fd ["self","roots"] []:=by
 refine F.ok scmove rfl (fun vs H Q E h=>?_) (fun f cdv A outer s H vs Q E hr h=>?_)
 ·obtain ⟨x,L,b,cs,ns,t,ord,rfl,_⟩:=h
  rfl
 ·obtain ⟨x,L,b,cs,ns,t,ord,rfl,hb,hs,hd,hn,hl,hc,q⟩:=h
  refine' ⟨?tt,QSs.h ?hh,?gg⟩
  case hh=>exact (aa (ao (i:=2) scmove.nd rfl (Or.inr rfl) (oy i_OtherHalf hr rfl (ae (aM (qv 0)) ab)))
   (aa (bQ (i:=3) scmove.nd rfl rfl (ls:=["value"]) (N:=["other"]) (fr:=[2]) rfl (CapsG.mk' rfl (by decide +kernel) rfl (by decide +kernel) (.cons ⟨⟨_,rfl,rfl⟩,rfl,rfl,rfl⟩ .nil) (by decide +kernel) rfl) (bq (qv 1)) (fun C s H fp=>(ai (i:=0) (show (["value","other"]:List Str).Nodup by decide +kernel) rfl (Or.inl rfl))) (fun C s H fp=>bp) (fun C s H fp=>(cc (qv 1) c_OtherHalf_moved_value hr (ae (qv 0) ab))))
   (aa (bS (bK (qv 2) c_OtherHalf_move_rest hr))
   (aa (dz (qv 0) (aM (qv 2)))
   (af (aq (qv 3)))))))
  obtain ⟨dx,hx⟩:=hb.ob
  obtain ⟨us,hB,hrB,hlB⟩:=bA hd
  rw [xAa] at hlB
  k_go
  refine aL hx T.cH (by simp) rfl ?_
  k_go
  intro y dy ny ndy hdy
  have s1:Same H (upd (upd H dy (.own y)) y (.ins O dy [])):=((Same.refl H).upd_new ndy).upd_new ny
  refine ⟨y,dy,L,cs,rfl,ac,hb.ls.mono s1,fun M N H1 k1 nM nN ob1=>⟨rfl,?_⟩⟩
  have nM0:=s1.free nM
  have nN0:=s1.free nN
  have s2:Same H H1:=fun c u e=>k1 c u (s1 _ _ e) (by simp;intro z;rw [z,ny] at e;cases e)
  clear k1 nM nN s1
  have hx1:=s2 _ _ hx
  have hB1:=s2 _ _ hB
  have keep:∀ {H2:Hp},Kept [M,N] H1 H2→Same H H2:=fun k c u e=>k c u (s2 _ _ e) (by simp;exact ⟨nen e nM0,nen e nN0⟩)
  k_go
  refine cF (bn (xs:=us)) (fun B i ys H2=>H2 B=some (.lst ys)∧H1 B=none∧Kept [M,N] H1 H2∧∃ (o:List Nat) (cs2:List D),Ob H2 O y L M N cs cs2 (plk t (place t ord) o o)∧Ms t (place t ord) ord (rfs ns) o 0 cs2∧Rps H2 ((ns.take i).map (Nt.at (place t o))) ys∧∀ k∈rfs (ns.take i),k∈o) ?_ ?_ ?_ ?_
  ·intro B hB0
   exact ⟨ac,hB0,.of (am hB0 _),[],[],ob1.same (am hB0 _),.nil,rfl,fun k hk=>by cases hk⟩
  ·rintro B i ys H2 hi ⟨h1,h2,h3,o,cs2,h4,h5,h6,h7⟩
   refine ⟨h1,big _ ?_,.of (keep h3 _ _ hB)⟩
   rw [h6.mapLen,xAn]
   omega
  ·rintro B i ys _ v H2 hi ⟨h1,h2,h3,o,cs2,h4,h5,h6,h7⟩ ⟨rfl,hv⟩
   obtain ⟨n,hn1,hn2⟩:=hrB.mapGet' hv
   have hmem:=xAc hn1
   obtain ⟨dy2,hy2⟩:=h4.ob
   k_go
   refine ⟨rfl,rfl,?_⟩
   k_go
   refine ⟨h1,?_⟩
   k_go
   refine a7 hy2 rfl ?_
   k_go
   refine ⟨y,L,M,N,cs,cs2,v,n,t,ord,rfs ns,o,0,rfl,h4,hs,h5,hn2.mono (keep h3),fun k hk=>hn k (bc hmem hk),.inl fun k hk=>bc hmem hk,hc,fun u H3 cs3 k3 ob3 ms3 hr3=>?_⟩
   have nBM:B≠M∧B≠N:=by
    obtain ⟨ws,e,_⟩:=ob1.l2
    exact ⟨(nen e h2).symm,(nen ob1.pl h2).symm⟩
   have hB3:=k3 _ _ h1 (by simp [nBM])
   have t3:=h4.tle k3
   have nfr:∀ c u,H1 c=some u→c≠B:=fun c u e z=>by rw [z,h2] at e;cases e
   have t4:TLe H3 (upd H3 B (.lst (ys++[u]))):=aB hB3
   obtain ⟨e3,ee3⟩:=dE (o:=o) (n:=n)
   refine ⟨hB3,ac,h2,fun c w e nn=>?_,push o n,cs3,?_,ms3,?_,?_⟩
   ·rw [ag (nfr c w e)]
    exact k3 _ _ (h3 c w e nn) nn
   ·obtain ⟨dy3,hy3⟩:=ob3.ob
    have fB:∀ c w,H1 c=some w→upd H3 B (.lst (ys++[u])) c=H3 c:=fun c w e=>ag (nfr c w e)
    obtain ⟨dy1,hy1⟩:=ob1.ob
    obtain ⟨w1,g1,_⟩:=ob1.l1
    obtain ⟨w2,g2,_⟩:=ob1.l2
    exact ⟨⟨dy3,by rw [fB _ _ hy1];exact hy3⟩,let ⟨us,q1,q2⟩:=ob3.l1;⟨us,by rw [fB _ _ g1];exact q1,q2.le t4⟩,let ⟨us,q1,q2⟩:=ob3.l2;⟨us,by rw [fB _ _ g2];exact q1,q2.le t4⟩,by rw [fB _ _ ob1.pl];exact ob3.pl,ob3.ne⟩
   ·rw [aY hn1,xAi]
    refine Rps.le t4 (Rps.app ?_ (.one hr3))
    have e6:(ns.take i).map (Nt.at (place t (push o n)))=(ns.take i).map (Nt.at (place t o)):=List.map_congr_left fun n' hn'=>dU fun k hk=>by rw [ee3];exact bG (h7 k (bc hn' hk))
    rw [e6]
    exact h6.le t3
   ·intro k hk
    rw [aY hn1] at hk
    obtain ⟨n',hn',hk⟩:=List.mem_flatMap.mp hk
    rcases xAj.mp hn' with z | z
    ·exact iM (h7 k (bc z hk))
    ·rw [xAm.mp z] at hk
     exact dF k hk
  ·rintro B ys H2 ⟨h1,h2,h3,o,cs2,h4,h5,h6,h7⟩
   rw [hlB,xAu] at h6 h7
   obtain ⟨dy2,hy2⟩:=h4.ob
   k_go
   refine a7 hy2 rfl ?_
   k_go
   refine ⟨y,L,M,N,cs,cs2,t,ord,rfs ns,o,rfl,h4,hs,h5,hc,fun H3 cs3 e kvs k3 ob3 hs3 gr3 su3=>?_⟩
   have k13:=h3.trans k3
   have s3:=keep k13
   have hx3:=s3 _ _ hx
   obtain ⟨dy3,hy3⟩:=ob3.ob
   have t3:=h4.tle k3
   have nBM:B≠M∧B≠N:=by
    obtain ⟨ws,e,_⟩:=ob1.l2
    exact ⟨(nen e h2).symm,(nen ob1.pl h2).symm⟩
   have nB:=s2.free h2
   have hB3:=k3 _ _ h1 (by simp [nBM])
   k_go
   refine aL hy3 T.cO (by simp) rfl ?_
   k_go
   refine cx hx3 T.cH (by simp) (by simp) ?_
   have k4:Kept [x] H3 (upd H3 x (.ins C dx (putF "cells" (.ref M) [("cells",.ref L)]))):=.put (by simp)
   have t4:TLe H3 (upd H3 x (.ins C dx (putF "cells" (.ref M) [("cells",.ref L)]))):=.upd fun xs z=>by rw [hx3] at z;cases z
   k_go
   have xB:B≠x:=fun z=>by rw [z,hx] at nB;cases nB
   have xM:M≠x:=fun z=>by rw [z,hx] at nM0;cases nM0
   refine q B M _ (o++e) cs3 ((Kept.of s3).trans k4) nB nM0 nBM.1 ⟨⟨dx,ac⟩,let ⟨us,q1,q2⟩:=ob3.l2;⟨us,by rw [ag xM];exact q1,q2.le t4⟩⟩ hs3 (fun k hk=>xBw _ (h7 k hk)) gr3 su3 ⟨ys,by rw [ag xB];exact hB3,?_⟩
   have e6:ns.map (Nt.at (place t (o++e)))=ns.map (Nt.at (place t o)):=List.map_congr_left fun n' hn'=>dU fun k hk=>bG (h7 k (bc hn' hk))
   rw [e6]
   exact (h6.le t3).le t4
end
section
variable {P:Program} {w:World} {K:xFr} {mg:Str→Option Value} {base:Heap} {C O:Addr}
def spNum:Sp:=fun vs H Q _=>∃ n:Int,vs=[.int n]∧∀ (i:Int) (H':Hp),Same H H'→Q (.int i) H'
theorem lE {i:Int}:i % 2=0∨i % 2=1:=by omega
def gnum:Scope:={ kind:=.function,names:=[("_law_number_here",.local)],isGenerator:=false,isCoroutine:=false,more:=[] }
theorem scnum:FnScope ["_law_number_here"] ["_law_number_here"] gnum:=⟨rfl,rfl,rfl,by decide +kernel,rfl,by decide +kernel,by decide +kernel⟩
theorem m8 (F:Dn K mg "_law_number" sLnumber ["_law_number_here"]) (T:Txt K mg C O):Cal P w K mg base "_law_number" 1 ["_law_number_here"] spNum:=by
 refine F.ok scnum rfl (fun vs H Q E h=>?_) (fun f cdv A outer s H vs Q E hr h=>?_)
 ·obtain ⟨n,rfl,_⟩:=h
  rfl
 ·obtain ⟨n,rfl,q⟩:=h
  refine' ⟨?tt,QSs.h ?hh,?gg⟩
  case hh=>exact (af (aq (aE aH (aJ (ae (aj aQ (qv 0) ad) (ae (aj aV (aj cR (aj aQ (qv 0) (aj cR (aj i8 ad (aj i7 ad ad)) ad)) (aj i7 ad ad)) ad) ab))) (aj aQ (aj bg (qv 0) ad) ad))))
  k_go
  refine r_I (by decide) ?_
  k_go
  refine r_I (by refine ⟨by decide,by decide,by decide⟩) ?_
  k_go
  refine r_I (.inl (by refine ⟨by decide,by decide⟩)) ?_
  k_go
  refine r_I (by decide +kernel) ?_
  k_go
  refine r_I (by refine ⟨by decide,by decide,by decide⟩) ?_
  k_go
  refine aK fun l H1 s1 n1 h1=>?_
  k_go
  refine r_I (by refine ⟨by decide,by decide⟩) ?_
  k_go
  refine r_I (by decide) ?_
  k_go
  rcases lE (i:=n / 7) with z | z
  ·rw [z]
   refine a9 h1 pe ?_
   k_go
   exact q _ _ s1
  ·rw [z]
   refine a9 h1 lB ?_
   k_go
   exact q _ _ s1
end
section
variable {P:Program} {w:World} {K:xFr} {mg:Str→Option Value} {base:Heap} {C O:Addr}
abbrev stK (T G:Addr):List (Key×V):=[(.inr "things",.ref T),(.inr "held",.ref G)]
theorem bP {T G:Addr}:valV (stK T G) (.inr "things")=some (.ref T):=by kernel_rfl
theorem cW {T G:Addr}:valV (stK T G) (.inr "held")=some (.ref G):=by kernel_rfl
structure Hd (H:Hp) (G:Addr) (ks:List Nat) (f:Nat→Nat):Prop where
 nd:ks.Nodup
 ex:∃ kvs:List (Key×V),Rd H G (.dK kvs)∧kvs.map (·.1)=(ks.map fun k:Nat=>(k:Int)).map Sum.inl∧∀ k∈ks,∃ v,valV kvs (.inl (k:Int))=some v∧Rp H (atD (f k)) v
theorem jd {ks:List Nat} (h:ks.Nodup):(ks.map fun k:Nat=>(k:Int)).Nodup:=by
 rw [List.Nodup,List.pairwise_map]
 exact h.imp fun hne z=>hne (by omega)
structure Sto (H:Hp) (S T L:Addr) (As:List Addr) (ths:Ths) (G:Addr):Prop where
 hS:H S=some (.dK (stK T G))
 hT:H T=some (.lst (As.map V.ref))
 lA:As.length=ths.length
 hA:∀ (k:Nat) (a:Addr),As[k]?=some a→∃ (b:Addr) (wv:V),H a=some (.lst [.str (tg ths k).kind,wv,.ref b])∧Rp H (tg ths k).word wv∧LD H b ((tg ths k).vals.map Nt.d)∧b ∉ T::As∧b≠L
 nd:(T::As).Nodup
 nL:L ∉ T::As
 wd:∀ k,k<ths.length→D.dep (tg ths k).word=0
theorem eL {H:Hp} {p:Addr} {i:Nat} (e:H p=some (.tup [.str "thing",.int i])):Rp H (Nt.th i).d (.ref p):=⟨p,_,rfl,e,_,_,rfl,rfl,_,_,rfl,rfl,rfl⟩
theorem jc {H:Hp} {v:V} {i:Nat} (h:Rp H (Nt.th i).d v):∃ p,v = .ref p∧H p=some (.tup [.str "thing",.int i]):=by
 obtain ⟨p,vs,rfl,e,v1,r1,rfl,h1,v2,r2,rfl,h2,h3⟩:=h
 rw [show v1=_ from h1,show v2=_ from h2,show r2=_ from h3] at e
 exact ⟨p,rfl,e⟩
theorem Rd.same {H H':Hp} {a:Addr} {u:HO} (h:Rd H a u) (s:Same H H'):Rd H' a u:=h.imp (s _ _) fun ⟨o,e⟩=>⟨o,s _ _ e⟩
theorem Rd.kept {H H':Hp} {a:Addr} {u:HO} {fp:List Addr} (h:Rd H a u) (s:Kept fp H H') (n:a ∉ fp):Rd H' a u:=h.imp (fun e=>s _ _ e n) fun ⟨o,e⟩=>⟨o,s _ _ e n⟩
theorem Hd.same {H H':Hp} {G:Addr} {ks:List Nat} {f:Nat→Nat} (h:Hd H G ks f) (s:Same H H'):Hd H' G ks f:=by
 obtain ⟨kvs,h1,h2,h3⟩:=h.ex
 exact ⟨h.nd,kvs,Rd.same h1 s,h2,fun k hk=>let ⟨v,a,b⟩:=h3 k hk;⟨v,a,b.mono s⟩⟩
theorem Hd.kept {H H':Hp} {G:Addr} {ks:List Nat} {f:Nat→Nat} {fp:List Addr} (h:Hd H G ks f) (s:Kept fp H H') (t:TLe H H') (n:G ∉ fp):Hd H' G ks f:=by
 obtain ⟨kvs,h1,h2,h3⟩:=h.ex
 exact ⟨h.nd,kvs,Rd.kept h1 s n,h2,fun k hk=>let ⟨v,a,b⟩:=h3 k hk;⟨v,a,b.le t⟩⟩
theorem Hd.congr {H:Hp} {G:Addr} {ks:List Nat} {f f':Nat→Nat} (h:Hd H G ks f) (e:∀ k∈ks,f' k=f k):Hd H G ks f':=by
 obtain ⟨kvs,h1,h2,h3⟩:=h.ex
 exact ⟨h.nd,kvs,h1,h2,fun k hk=>by rw [e k hk];exact h3 k hk⟩
theorem Sto.same {H H':Hp} {S T L G:Addr} {As:List Addr} {ths:Ths} (h:Sto H S T L As ths G) (s:Same H H'):Sto H' S T L As ths G :=
 ⟨s _ _ h.hS,s _ _ h.hT,h.lA,fun k a e=>let ⟨b,wv,a1,a2,a3,a4⟩:=h.hA k a e;⟨b,wv,s _ _ a1,a2.mono s,a3.mono s,a4⟩,h.nd,h.nL,h.wd⟩
theorem Sto.kept {H H':Hp} {S T L G x:Addr} {As:List Addr} {ths:Ths} {cs:List D} (h:Sto H S T L As ths G) (hb:Hb H C x L cs) (s:Kept [x,L] H H') (t:TLe H H'):Sto H' S T L As ths G:=by
 obtain ⟨dx,hx⟩:=hb.ob
 obtain ⟨vs,hL,_⟩:=hb.ls
 have n1:∀ {a:Addr} {ks:List (Key×V)},H a=some (.dK ks)→a ∉ [x,L]:=fun e z=>by
  simp only [xAv,xBv,or_false] at z
  rcases z with rfl | rfl
  ·rw [hx] at e;cases e
  ·rw [hL] at e;cases e
 have n2:∀ {a:Addr} {ws:List V},H a=some (.lst ws)→a≠L→a ∉ [x,L]:=fun e ne z=>by
  simp only [xAv,xBv,or_false] at z
  rcases z with rfl | rfl
  ·rw [hx] at e;cases e
  ·exact ne rfl
 have nT:T≠L:=fun z=>h.nL (by rw [z];simp)
 refine ⟨s _ _ h.hS (n1 h.hS),s _ _ h.hT (n2 h.hT nT),h.lA,fun k a e=>?_,h.nd,h.nL,h.wd⟩
 obtain ⟨b,wv,a1,a2,⟨ws,a3,a5⟩,a4,a6⟩:=h.hA k a e
 have na:a≠L:=fun z=>h.nL (by rw [← z];exact xAs _ (xAc e))
 exact ⟨b,wv,s _ _ a1 (n2 a1 na),a2.le t,⟨ws,s _ _ a3 (n2 a3 a6),a5.le t⟩,a4,a6⟩
theorem Hb.tle {H H':Hp} {x L:Addr} {cs:List D} (hb:Hb H C x L cs) (s:Kept [x,L] H H'):TLe H H':=s.tle fun a ha xs z=>by
 obtain ⟨dx,hx⟩:=hb.ob
 obtain ⟨vs,hL,_⟩:=hb.ls
 simp only [xAv,xBv,or_false] at ha
 rcases ha with rfl | rfl
 ·rw [hx] at z;cases z
 ·rw [hL] at z;cases z
theorem Sto.th {H:Hp} {S T L G:Addr} {As:List Addr} {ths:Ths} (h:Sto H S T L As ths G) {k:Nat} (hk:k<ths.length):∃ (a b:Addr) (wv:V),(As.map V.ref)[k]?=some (.ref a)∧As[k]?=some a∧H a=some (.lst [.str (tg ths k).kind,wv,.ref b])∧Rp H (tg ths k).word wv∧LD H b ((tg ths k).vals.map Nt.d):=by
 have hk':k<As.length:=by rw [h.lA];exact hk
 obtain ⟨b,wv,a1,a2,a3,_⟩:=h.hA k As[k] (xAk hk')
 exact ⟨As[k],b,wv,by rw [xAw,xAk hk'];rfl,xAk hk',a1,a2,a3⟩
def spAt:Sp:=fun vs H Q _=>∃ (S T G:Addr) (v:V) (n:Nt) (ks:List Nat) (f:Nat→Nat),vs=[.ref S,v]∧H S=some (.dK (stK T G))∧Hd H G ks f∧Rp H n.d v∧(∀ k∈n.rf,k∈ks)∧∀ u:V,Rp H (n.at f) u→Q u H
def gat:Scope:={ kind:=.function,names:=[("_law_state",.local),("_law_note",.local),("isinstance",.globalImplicit),("tuple",.globalImplicit)],isGenerator:=false,isCoroutine:=false,more:=[] }
theorem scat:FnScope ["_law_state","_law_note"] ["_law_state","_law_note"] gat:=⟨rfl,rfl,rfl,by decide +kernel,rfl,by decide +kernel,by decide +kernel⟩
theorem oX (F:Dn K mg "_law_at" sLat ["_law_state","_law_note"]) (T:Txt K mg C O):Cal P w K mg base "_law_at" 1 ["_law_state","_law_note"] spAt:=by
 refine F.ok scat rfl (fun vs H Q E h=>?_) (fun f cdv A outer s H vs Q E hr h=>?_)
 ·obtain ⟨S,t,G,v,n,ks,f0,rfl,_⟩:=h
  rfl
 ·obtain ⟨S,t,G,v,n,ks,f0,rfl,hS,hG,hv,hn,q⟩:=h
  have hu:=cg hr
  refine' ⟨?tt,QSs.h ?hh,?gg⟩
  case hh=>exact (aa (aR (ci (aI cV rfl T.zisinstance bH (ae (qv 1) (ae (bW (v:=.ty "tuple") rfl T.ztuple dk rfl) ab)))) (af (aq (ap hu (ap hu (qv 0) ah) (aE aX (qv 1) ad)))) aG)
   (af (aq (qv 1))))
  cases n with
  | num i =>
   obtain rfl:v = .int i:=hv
   k_go
   refine cy T.kIT ?_
   k_go
   exact q _ rfl
  | th k =>
   obtain ⟨p,rfl,hp⟩:=jc hv
   obtain ⟨kvs,g1,g2,g3⟩:=hG.ex
   obtain ⟨u,u1,u2⟩:=g3 k (hn k (by simp [Nt.rf]))
   k_go
   refine dc hp T.kTT ?_
   k_go
   refine aD hS cW ?_
   k_go
   refine df g1 u1 ?_
   k_go
   exact q u u2
end
section
variable {P:Program} {w:World} {K:xFr} {mg:Str→Option Value} {base:Heap} {C O:Addr}
theorem Hd.keys {H:Hp} {G:Addr} {ks:List Nat} {f:Nat→Nat} (h:Hd H G ks f) (pl:∃ kvs,H G=some (.dK kvs)):DKeys H G (ks.map fun k:Nat=>(k:Int)):=by
 obtain ⟨kvs,h1,h2,_⟩:=h.ex
 obtain ⟨kvs',e⟩:=pl
 rcases h1 with h1 | ⟨ob,h1⟩
 ·exact ⟨kvs,h1,h2⟩
 ·rw [e] at h1;cases h1
def spVal:Sp:=fun vs H Q _=>∃ (S T G:Addr) (n:Int) (ks:List Nat) (f:Nat→Nat),vs=[.ref S,.int n]∧H S=some (.dK (stK T G))∧Hd H G ks f∧(∃ kvs,H G=some (.dK kvs))∧ks.length≤1000∧∀ (v:V) (nt:Nt) (H':Hp),Same H H'→Rp H' nt.d v→(∀ k∈nt.rf,k∈ks)→Q v H'
def gval:Scope:={ kind:=.function,names:=[("_law_state",.local),("_law_number_here",.local),("_law_held",.local),("sorted",.globalImplicit),("_law_number",.globalImplicit),("len",.globalImplicit)],isGenerator:=false,isCoroutine:=false,more:=[] }
theorem scval:FnScope ["_law_state","_law_number_here","_law_held"] ["_law_state","_law_number_here"] gval:=⟨rfl,rfl,rfl,by decide +kernel,rfl,by decide +kernel,by decide +kernel⟩
theorem m6 (F:Dn K mg "_law_value" sLvalue ["_law_state","_law_number_here"]) (T:Txt K mg C O) (c__law_number:Cal P w K mg base "_law_number" 1 ["_law_number_here"] spNum):Cal P w K mg base "_law_value" 2 ["_law_state","_law_number_here"] spVal:=by
 refine F.ok scval rfl (fun vs H Q E h=>?_) (fun f cdv A outer s H vs Q E hr h=>?_)
 ·obtain ⟨S,t,G,n,ks,f0,rfl,_⟩:=h
  rfl
 ·obtain ⟨S,t,G,n,ks,f0,rfl,hS,hG,pl,lk,q⟩:=h
  have hu:=cg hr
  have hu0:=hr.units0
  refine' ⟨?tt,QSs.h ?hh,?gg⟩
  case hh=>exact (aa (ao (i:=2) scval.nd rfl (Or.inl rfl) (aI (dQ rfl) rfl T.zsorted dS (ae (ap hu (qv 0) ah) ab)))
   (aa (aR (QW.pt (dv (dw (iJ hu0 (qv 2))) (cN (aw ce (aj aQ (qv 1) ad) ad (nomark _))))) (af (aq (ba c__law_number hr rfl (ae (aj bg (qv 1) ad) ab)))) aG)
   (af (aq (bm (ae ah (ae (aE aH (qv 2) (aj aQ (aj bg (qv 1) ad) (aI aO rfl T.zlen a0 (ae (qv 2) ab)))) ab)))))))
  k_go
  refine aD hS cW ?_
  k_go
  refine d7 (hG.keys pl) (jd hG.nd) fun l ns H1 s1 n1 h1 hp hm=>?_
  have num:∀ (Q':VK),(∀ (i:Int) (H':Hp),Same H H'→Q' (.int i) H')→spNum [.int (n / 3)] H1 Q' E0:=fun Q' h=>⟨_,rfl,fun i H' s'=>h i H' (s1.trans s')⟩
  k_go
  refine b9 (fun z=>?_) (fun z=>?_)
  ·k_go
   refine r_I (by refine ⟨by decide,by decide⟩) ?_
   k_go
   exact num _ fun i H' s'=>q (.int i) (.num i) H' s' rfl fun k hk=>by cases hk
  ·k_go
   refine r_I (by decide) ?_
   k_go
   refine b9 (fun z2=>?_) (fun z2=>?_)
   ·k_go
    refine r_I (by refine ⟨by decide,by decide⟩) ?_
    k_go
    exact num _ fun i H' s'=>q (.int i) (.num i) H' s' rfl fun k hk=>by cases hk
   ·have ne:0<ns.length:=by
     cases ns with
     | nil=>cases z
     | cons a r=>simp
    k_go
    refine r_I (by refine ⟨by decide,by decide⟩) ?_
    k_go
    refine r_I (by rw [xAa];omega) ?_
    k_go
    rw [xAa]
    have b1:=Int.emod_nonneg (n / 3) (show (ns.length:Int)≠0 by omega)
    have b2:=Int.emod_lt_of_pos (n / 3) (show (0:Int)<ns.length by omega)
    obtain ⟨j,hj⟩:∃ j:Nat,(n / 3) % (ns.length:Int)=j:=⟨_,(Int.toNat_of_nonneg b1).symm⟩
    rw [hj]
    have hjl:j<ns.length:=by omega
    obtain ⟨k,hk,ek⟩:=xA2.mp ((hm ns[j]).mp (List.getElem_mem hjl))
    refine a9 h1 (au (j:=j) (v:=.int (k:Int)) (by rw [xAw,xAk hjl,← ek];rfl)) ?_
    k_go
    refine bj fun p H2 s2 n2 h2=>?_
    k_go
    exact q (.ref p) (.th k) H2 (s1.trans s2) (eL h2) fun j hj=>by rw [xAm.mp hj];exact hk
end
section
variable {P:Program} {w:World} {K:xFr} {mg:Str→Option Value} {base:Heap} {C O:Addr}
theorem kO {f:Nat→Nat} (ns:List Nt):D.deps (ns.map (Nt.at f))≤1:=by
 induction ns with
 | nil=>exact xBn _
 | cons n ns ih =>
  rw [xBs,D.deps]
  have:D.dep (n.at f)≤1:=by
   cases n with
   | num i=>exact xBn _
   | th k=>exact xAg _
  omega
theorem lC {H:Hp} {ns:List Nt} {f:Nat→Nat} {xs ys:List V} (h:Rps H (ns.map (Nt.at f)) xs) (g:Rps H (ns.map (Nt.at f)) ys):∀ (j:Nat) (x y:V),xs[j]?=some x→ys[j]?=some y→Al H 1 x y:=fun j x y e1 e2=>(h.al g j x y e1 e2).up (kO ns)
def spTells (C:Addr):Sp:=fun vs H Q _=>∃ (x S T L G:Addr) (As:List Addr) (ths:Ths) (o ks:List Nat) (cs:List D) (k:Nat),vs=[.ref x,.ref S,.int k]∧Sto H S T L As ths G∧Hb H C x L cs∧Hs ths o cs∧Hd H G ks (place ths o)∧(∀ j,j∈ks↔j∈o)∧k∈o∧(tg ths k).vals.length≤1000∧∀ H':Hp,Same H H'→Q (.bl true) H'
def gtells:Scope:={ kind:=.function,names:=[("_law_heap",.local),("_law_state",.cell),("_law_one",.local),("_law_kind",.local),("_law_word",.local),("_law_values",.local),("_law_again",.local),("_law_found",.local),("range",.globalImplicit)],isGenerator:=false,isCoroutine:=false,more:=[("fast",.str "_law_heap"),("fast",.str "_law_state"),("fast",.str "_law_one"),("fast",.str "_law_kind"),("fast",.str "_law_word"),("fast",.str "_law_values"),("fast",.str "_law_again"),("fast",.str "_law_found"),("fast",.str "_law_note")] }
theorem sctells:FnScope ["_law_heap","_law_state","_law_one","_law_kind","_law_word","_law_values","_law_again","_law_found"] ["_law_heap","_law_state","_law_one"] gtells:=⟨rfl,rfl,rfl,by decide +kernel,rfl,by decide +kernel,by decide +kernel⟩
theorem ja (F:Dn K mg "_law_tells" sLtells ["_law_heap","_law_state","_law_one"]) (T:Txt K mg C O) (c__law_at:Cal P w K mg base "_law_at" 1 ["_law_state","_law_note"] spAt) (c_Heap_seen:Mal P w K mg base C "seen" 1 ["self","value"] (spSeen C)):Cal P w K mg base "_law_tells" 3 ["_law_heap","_law_state","_law_one"] (spTells C):=by
 refine F.ok sctells rfl (fun vs H Q E h=>?_) (fun f cdv A outer s H vs Q E hr h=>?_)
 ·obtain ⟨x,S,t,L,G,As,ths,o,ks,cs,k,rfl,_⟩:=h
  rfl
 ·obtain ⟨x,S,t,L,G,As,ths,o,ks,cs,k,rfl,st,hb,hs,hG,hko,hk,hl,q⟩:=h
  have hu:=cg hr
  have hu40:(A.deeper (PyProof.Rows.envOfC "_law_tells" gtells s.heap.objs.size f cdv)).units+40<cLine:=by have:=hr.units;omega
  refine' ⟨?tt,QSs.h ?hh,?gg⟩
  case hh=>exact (aa (cj (aE aH (ap hu (qv 1) ah) (qv 2)) (f7 rfl (az (ai (i:=3) sctells.nd rfl (Or.inl rfl)) (az (ai (i:=4) sctells.nd rfl (Or.inl rfl)) (az (ai (i:=5) sctells.nd rfl (Or.inl rfl)) bJ)))))
   (aa (bR PassesOwn.never rfl (gD rfl T.zrange (ae ad ab)) (ai (i:=6) sctells.nd rfl (Or.inl rfl))
    (aa (ao (i:=7) sctells.nd rfl (Or.inl rfl) (cc (qv 0) c_Heap_seen hr (ae (ap hu (ap hu (qv 1) ah) (qv 2)) ab)))
   (aa (aR (aw (eK hu40) (qv 7) (bm (ae (qv 3) (ae (qv 4) (ae (dC (ls:=["_law_note"]) (N:=["_law_state"]) (fr:=[1]) rfl (CapsG.mk' rfl (by decide +kernel) rfl (by decide +kernel) (.cons ⟨⟨_,rfl,rfl⟩,rfl,rfl,rfl⟩ .nil) (by decide +kernel) rfl) (bq (qv 5)) (fun C s H fp=>(ai (i:=0) (show (["_law_note","_law_state"]:List Str).Nodup by decide +kernel) rfl (Or.inl rfl))) (fun C s H fp=>bp) (fun C s H fp=>(ba c__law_at hr rfl (ae (qv 1) (ae (qv 0) ab))))) ab)))) (nomark _)) (af (aq cA)) aG)
   (af (bS (dB PySem.F.plainAttrs_list PySem.F.slot_list_append PySem.F.type_list_append aS (aE aX (qv 7) ad) (ae ad ab)))))))
   (af (aq cA))))
  have hkt:=hs.lt k hk
  obtain ⟨a,b,wv,e1,e2,ha,hw,hB⟩:=st.th hkt
  obtain ⟨us,hus,hrB,hlB⟩:=bA hB
  rw [xAa] at hlB
  obtain ⟨kvs,g1,g2,g3⟩:=hG.ex
  obtain ⟨pv,pv1,pv2⟩:=g3 k ((hko k).mpr hk)
  have hS:=st.hS
  k_go
  refine aD hS bP ?_
  k_go
  refine a9 st.hT (au e1) ?_
  refine fX ha rfl ?_
  k_go
  refine db (by decide) (by decide) ?_
  refine bC bM (fun i σ H'=>∃ (v6 v7:Option V),σ=[some (.ref x),some (.ref S),some (.int k),some (.str (tg ths k).kind),some wv,some (.ref b),v6,v7]∧Same H H') ⟨_,_,rfl,.refl H⟩ (fun _ _ _ _ _=>True.intro) ?_ ?_
  ·rintro E2 i0 hE σ _ y H1 hi0 ⟨v6,v7,rfl,s1⟩ ⟨rfl,rfl⟩
   obtain ⟨dx,hx⟩:=hb.ob
   k_go
   refine a7 (s1 _ _ hx) rfl ?_
   k_go
   refine aD (s1 _ _ hS) cW ?_
   k_go
   refine df (Rd.same g1 s1) pv1 ?_
   k_go
   refine ⟨x,L,cs,pv,ths,o,k,rfl,hb.same s1,hs,hk,pv2.mono s1,fun p l wv' H2 s2 np nl hp hw' hl2=>?_⟩
   have s12:=s1.trans s2
   have hus2:=s12 _ _ hus
   have hS2:=s12 _ _ hS
   k_go
   refine cF (bn (xs:=us)) (fun B i ys HC=>HC B=some (.lst ys)∧H2 B=none∧Same H2 HC∧Rps HC (((tg ths k).vals.take i).map (Nt.at (place ths o))) ys) ?_ ?_ ?_ ?_
   ·intro B hB0
    exact ⟨ac,hB0,am hB0 _,rfl⟩
   ·rintro B i ys HC hi ⟨h1,h2,h3,h4⟩
    refine ⟨h1,big _ ?_,.of (h3 _ _ hus2)⟩
    rw [h4.mapLen,xAn]
    omega
   ·rintro B i ys _ v HC hi ⟨h1,h2,h3,h4⟩ ⟨rfl,hv⟩
    obtain ⟨n,hn1,hn2⟩:=(hrB.mono s12).mapGet' hv
    have hmem:=xAc hn1
    k_go
    refine ⟨rfl,rfl,?_⟩
    k_go
    refine ⟨h1,?_⟩
    k_go
    refine ⟨S,t,G,v,n,ks,place ths o,rfl,h3 _ _ hS2,(hG.same s12).same h3,hn2.mono h3,fun j hj=>(hko j).mpr (hs.cl k hk n hmem j hj),fun u hu=>?_⟩
    refine ⟨h1,ac,h2,h3.upd_new h2,?_⟩
    rw [aY hn1,xAi]
    exact (h4.app (.one hu)).le (aB h1)
   ·rintro B ys HC ⟨h1,h2,h3,h4⟩
    rw [hlB,xAu] at h4
    k_go
    refine bj fun p3 H3 s3 n3 h5=>?_
    k_go
    obtain ⟨zs,hz1,hz2⟩:=(hl2.mono h3).mono s3
    have hy2:=h4.mono s3
    have hpp:=s3 _ _ (h3 _ _ hp)
    refine ⟨p,p3,_,_,2,rfl,rfl,hpp,h5,rfl,by decide,fun j u v hu hv=>?_,?_⟩
    ·rcases j with _ | _ | _ | j
     ·cases hu;cases hv;exact .flat rfl
     ·cases hu;cases hv
      have al:=Rp.al ((hw'.mono h3).mono s3) ((((hw.mono s1).mono s2).mono h3).mono s3)
      exact al.up (by rw [st.wd k hkt];omega)
     ·cases hu;cases hv
      exact .lst hz1 (s3 _ _ h1) (by rw [hz2.mapLen,hy2.mapLen]) (lC hz2 hy2)
     ·cases hu
    k_go
    refine bi hz1 (big _ (by rw [hz2.mapLen];omega)) ?_
    have sH:Same H (upd H3 l (.lst (zs++[.int 0]))):=(((s1.trans s2).trans h3).trans s3).upd_new (s1.free nl)
    k_go
    exact ⟨_,_,rfl,sH⟩
  ·rintro σ H1 ⟨v6,v7,rfl,s1⟩
   k_go
   exact q H1 s1
end
section
variable {P:Program} {w:World} {K:xFr} {mg:Str→Option Value} {base:Heap} {C O:Addr}
def PairL (H:Hp) (q:Addr) (n:Nt) (f:Nat→Nat):Prop:=∃ nv vv,H q=some (.lst [nv,vv])∧Rp H n.d nv∧Rp H (n.at f) vv
structure Lf (H:Hp) (l:Addr) (ns:List Nt) (f:Nat→Nat) (qs:List Addr):Prop where
 ls:H l=some (.lst (qs.map V.ref))
 ln:qs.length=ns.length
 at':∀ (i:Nat) (q:Addr) (n:Nt),qs[i]?=some q→ns[i]?=some n→PairL H q n f
 ne:l ∉ qs
theorem PairL.same {H H':Hp} {q:Addr} {n:Nt} {f:Nat→Nat} (h:PairL H q n f) (s:Same H H'):PairL H' q n f:=let ⟨nv,vv,a,b,c⟩:=h;⟨nv,vv,s _ _ a,b.mono s,c.mono s⟩
theorem PairL.kept {H H':Hp} {q:Addr} {n:Nt} {f:Nat→Nat} {fp:List Addr} (h:PairL H q n f) (s:Kept fp H H') (t:TLe H H') (ne:q ∉ fp):PairL H' q n f:=let ⟨nv,vv,a,b,c⟩:=h;⟨nv,vv,s _ _ a ne,b.le t,c.le t⟩
theorem ji {H:Hp} {K K':xFr} {b1 b2:Addr} {ns:List Nt} {f:Nat→Nat} {Q:VK} (h1:LD H b1 (ns.map Nt.d)) (h2:LD H b2 (ns.map (Nt.at f))) (hl:ns.length≤50000) (hd:∀ (B:Addr) (HC:Hp) (qs:List Addr),Same H HC→H B=none→Lf HC B ns f qs→Q (.ref B) HC) :
  nLC (Itz K b1 b2) 2 [] (gTup K' 2 (gCons (gName 0) (gCons (gName 1) gNil))) tYes (tLst (tCons (tVar 0) (tCons (tVar 1) tNil))) H Q:=by
 obtain ⟨xs,hx,rx,lx⟩:=bA h1
 obtain ⟨ys,hy,ry,ly⟩:=bA h2
 rw [xAa] at lx ly
 refine cF (lD (xs:=xs) (ys:=ys) (by omega)) (fun B i zs HC=>HC B=some (.lst zs)∧H B=none∧Same H HC∧∃ qs:List Addr,zs=qs.map V.ref∧qs.length=i∧(∀ (j:Nat) (q:Addr) (n:Nt),qs[j]?=some q→ns[j]?=some n→PairL HC q n f)∧B ∉ qs) ?_ ?_ ?_ ?_
 ·intro B hB0
  exact ⟨ac,hB0,am hB0 _,[],rfl,rfl,fun j q n e=>by simp at e,by simp⟩
 ·rintro B i zs HC hi ⟨g1,g2,g3,qs,rfl,g4,g5,g6⟩
  exact ⟨g1,big _ (by rw [xAa];omega),.of (g3 _ _ hx),.of (g3 _ _ hy)⟩
 ·rintro B i zs HC v HD hi ⟨g1,g2,g3,qs,rfl,g4,g5,g6⟩ ⟨p,u,w,rfl,np,rfl,hu,hw⟩
  have s1:Same HC (upd HC p (.tup [u,w])):=am np _
  have hp:upd HC p (.tup [u,w]) p=some (.tup [u,w]):=ac
  generalize upd HC p (.tup [u,w])=HD at s1 hp
  obtain ⟨n,hn1,hn2⟩:=rx.mapGet' hu
  obtain ⟨n',hn1',hn2'⟩:=ry.mapGet' hw
  rw [hn1] at hn1'
  cases hn1'
  k_go
  refine ⟨rfl,rfl,?_⟩
  k_go
  have g1':=s1 _ _ g1
  refine ⟨g1',?_⟩
  k_go
  refine aK fun q H3 s3 n3 h3=>?_
  have g1'':=s3 _ _ g1'
  have nq:q≠B:=(nen g1' n3).symm
  have tt:=(g3.trans s1).trans s3
  have k4:Kept [B] H3 (upd H3 B (.lst (qs.map V.ref++[.ref q]))):=.put (by simp)
  have t4:TLe H3 (upd H3 B (.lst (qs.map V.ref++[.ref q]))):=aB g1''
  refine ⟨g1'',ac,g2,tt.upd_new g2,qs++[q],by simp,by simp [g4],fun j q' n'' e1 e2=>?_,by simp [g6,nq.symm]⟩
  by_cases hj:j<qs.length
  ·rw [List.getElem?_append_left hj] at e1
   refine (((g5 j q' n'' e1 e2).same s1).same s3).kept k4 t4 ?_
   intro z
   rw [xAm.mp z] at e1
   exact g6 (xAc e1)
  ·have:j=qs.length:=by
    have:=(xAq.mp e1).1
    rw [xAb,xAt] at this
    omega
   subst this
   rw [List.getElem?_append_right (xAg _),Nat.sub_self] at e1
   cases e1
   rw [g4] at e2
   rw [hn1] at e2
   cases e2
   exact ⟨u,w,by rw [ag nq];exact h3,(hn2.mono tt).le t4,(hn2'.mono tt).le t4⟩
 ·rintro B zs HC ⟨g1,g2,g3,qs,rfl,g4,g5,g6⟩
  exact hd B HC qs g3 g2 ⟨g1,by omega,g5,g6⟩
theorem Lf.same {H H':Hp} {l:Addr} {ns:List Nt} {f:Nat→Nat} {qs:List Addr} (h:Lf H l ns f qs) (s:Same H H'):Lf H' l ns f qs:=⟨s _ _ h.ls,h.ln,fun i q n a b=>(h.at' i q n a b).same s,h.ne⟩
theorem Lf.dict {H:Hp} {l d:Addr} {ns:List Nt} {f:Nat→Nat} {qs:List Addr} {kvs kvs':List (Key×V)} (h:Lf H l ns f qs) (hd:H d=some (.dK kvs)):Lf (upd H d (.dK kvs')) l ns f qs:=by
 have k:Kept [d] H (upd H d (.dK kvs')):=.put (by simp)
 have t:TLe H (upd H d (.dK kvs')):=.upd fun xs z=>by rw [hd] at z;cases z
 refine ⟨k _ _ h.ls (by simp;intro z;have:=h.ls;rw [z,hd] at this;cases this),h.ln,fun i q n a b=>(h.at' i q n a b).kept k t ?_,h.ne⟩
 obtain ⟨nv,vv,e,_⟩:=h.at' i q n a b
 simp
 intro z
 rw [z,hd] at e
 cases e
theorem Lf.pop {H:Hp} {l:Addr} {ns:List Nt} {n:Nt} {f:Nat→Nat} {qs:List Addr} (h:Lf H l (ns++[n]) f qs):∃ (qs':List Addr) (q:Addr),qs=qs'++[q]∧PairL H q n f∧Lf (upd H l (.lst (qs'.map V.ref))) l ns f qs'∧PairL (upd H l (.lst (qs'.map V.ref))) q n f:=by
 have hl:=h.ln
 rw [xAb,xAt] at hl
 obtain ⟨qs',q,rfl⟩:∃ qs' q,qs=qs'++[q]:=by
  rcases List.eq_nil_or_concat qs with z | ⟨a,b,z⟩
  ·rw [z] at hl;simp at hl
  ·exact ⟨a,b,by rw [z,List.concat_eq_append]⟩
 rw [xAb,xAt] at hl
 have hl':qs'.length=ns.length:=by omega
 have hne:l ∉ qs'∧l≠q:=by have:=h.ne;simp at this;exact this
 have k:Kept [l] H (upd H l (.lst (qs'.map V.ref))):=.put (by simp)
 have t:TLe H (upd H l (.lst (qs'.map V.ref))):=aB h.ls
 have hq:=h.at' ns.length q n (by rw [List.getElem?_append_right (by omega),hl',Nat.sub_self];rfl) (by rw [List.getElem?_append_right (xAg _),Nat.sub_self];rfl)
 refine ⟨qs',q,rfl,hq,⟨ac,hl',fun i q' n' a b=>?_,hne.1⟩,hq.kept k t (by simp;exact fun z=>hne.2 z.symm)⟩
 have hi:=(xAq.mp a).1
 refine (h.at' i q' n' (by rw [List.getElem?_append_left hi];exact a) (by rw [List.getElem?_append_left (by omega)];exact b)).kept k t ?_
 simp
 intro z
 exact hne.1 (z ▸ xAc a)
theorem Lf.cat {H H':Hp} {l l2 l3:Addr} {ns ns2:List Nt} {f:Nat→Nat} {qs qs2:List Addr} (h:Lf H l ns f qs) (h2:Lf H l2 ns2 f qs2) (s:Same H H') (n3:H l3=none) (h3:H' l3=some (.lst (qs.map V.ref++qs2.map V.ref))):Lf H' l3 (ns++ns2) f (qs++qs2):=by
 refine ⟨by rw [h3,xAi],by rw [xAb,h.ln,h2.ln,xAb],fun i q n a b=>?_,?_⟩
 ·by_cases hi:i<qs.length
  ·rw [List.getElem?_append_left hi] at a
   rw [List.getElem?_append_left (by rw [← h.ln];exact hi)] at b
   exact (h.at' i q n a b).same s
  ·rw [List.getElem?_append_right (by omega)] at a
   rw [List.getElem?_append_right (by rw [← h.ln];omega),← h.ln] at b
   exact (h2.at' _ q n a b).same s
 ·intro z
  rcases xAj.mp z with z | z
  ·obtain ⟨i,hi,e⟩:=List.getElem_of_mem z
   obtain ⟨nv,vv,e1,_⟩:=h.at' i l3 (ns[i]'(by rw [← h.ln];exact hi)) (by rw [xAk hi,e]) (xAk _)
   rw [n3] at e1;cases e1
  ·obtain ⟨i,hi,e⟩:=List.getElem_of_mem z
   obtain ⟨nv,vv,e1,_⟩:=h2.at' i l3 (ns2[i]'(by rw [← h2.ln];exact hi)) (by rw [xAk hi,e]) (xAk _)
   rw [n3] at e1;cases e1
def rem (ths:Ths) (o ks:List Nat):Nat:=(fl ths (o.filter fun k=>decide (k ∉ ks))).length
theorem jO {ths:Ths} {o ks:List Nat} {k:Nat} (nd:o.Nodup) (hk:k∈o) (hn:k ∉ ks):rem ths o (ks++[k])+((tg ths k).vals.length+1)≤rem ths o ks:=by
 have:=cU (T:=ths) (o:=k::o.filter fun j=>decide (j ∉ ks++[k])) (ord:=o.filter fun j=>decide (j ∉ ks)) ?_ ?_
 ·rw [fl,xAb,a8] at this
  unfold size at this
  unfold rem
  omega
 ·rw [xCb]
  exact ⟨by simp,nd.filter _⟩
 ·intro j hj
  rcases xAv.mp hj with rfl | hj
  ·simp [hk,hn]
  ·simp at hj ⊢
   exact ⟨hj.1,hj.2.1⟩
theorem lK {ths:Ths} {o ks:List Nat} (nd:o.Nodup):rem ths o ks≤(fl ths o).length:=cU (nd.filter _) fun j hj=>(List.mem_filter.mp hj).1
end
section
variable {P:Program} {w:World} {K:xFr} {mg:Str→Option Value} {base:Heap} {C O:Addr}
theorem nU {H:Hp} {l:Addr} {xs:List V} {y:V} {Q:VK} (e:H l=some (.lst (xs++[y]))) (h:Q y (upd H l (.lst xs))):rPop (.ref l) [] H Q :=
 ⟨l,_,y,rfl,rfl,e,by rw [xAb,xAt,Nat.add_sub_cancel,List.getElem?_append_right (xAg _),Nat.sub_self];rfl,by rw [List.dropLast_concat];exact h⟩
def spWk (C:Addr):Sp:=fun vs H Q _=>∃ (x S T L G b1 b2:Addr) (As:List Addr) (ths:Ths) (o:List Nat) (cs:List D) (ns:List Nt),vs=[.ref x,.ref S,.ref b1,.ref b2]∧Sto H S T L As ths G∧Hb H C x L cs∧Hs ths o cs∧LD H b1 (ns.map Nt.d)∧LD H b2 (ns.map (Nt.at (place ths o)))∧(∀ k∈rfs ns,k∈o)∧ns.length≤1000∧cs.length≤40000 ∧
 ∀ (G':Addr) (ks:List Nat) (H':Hp),Same H H'→H G'=none→Hd H' G' ks (place ths o)→(∃ kvs,H' G'=some (.dK kvs))→(∀ k∈rfs ns,k∈ks)→(∀ k∈ks,∀ n∈(tg ths k).vals,∀ j∈n.rf,j∈ks)→(∀ k∈ks,k∈o)→Q (.ref G') H'
theorem nen2 {H:Hp} {c d:Addr} {k:List (Key×V)} {v:List V} (e:H c=some (.dK k)) (n:H d=some (.lst v)):c≠d:=fun z=>by rw [z,n] at e;cases e
theorem bf {a b:List Nt} {k:Nat}:k∈rfs (a++b)↔k∈rfs a∨k∈rfs b:=by unfold rfs;rw [List.flatMap_append,xAj]
theorem bo {n:Nt} {k:Nat}:k∈rfs [n]↔k∈n.rf:=by simp [rfs]
theorem Hd.put {H:Hp} {G:Addr} {ks:List Nat} {f:Nat→Nat} {kvs:List (Key×V)} {k:Nat} {v:V} (h:Hd H G ks f) (e:H G=some (.dK kvs)) (hk:k ∉ ks) (hv:Rp H (atD (f k)) v):valV kvs (.inl (k:Int))=none∧kvs.length=ks.length∧Hd (upd H G (.dK (kvs++[(.inl (k:Int),v)]))) G (ks++[k]) f:=by
 obtain ⟨kvs',h1,h2,h3⟩:=h.ex
 have ee:kvs'=kvs:=by
  rcases h1 with h1 | ⟨ob,h1⟩
  ·rw [e] at h1;cases h1;rfl
  ·rw [e] at h1;cases h1
 subst ee
 have hn:valV kvs' (.inl (k:Int))=none:=by
  rw [valV,Option.map_eq_none_iff,List.find?_eq_none]
  intro p hp
  have:p.1∈kvs'.map (·.1):=List.mem_map_of_mem hp
  rw [h2] at this
  simp only [xA2] at this
  obtain ⟨i,⟨j,hj,rfl⟩,e2⟩:=this
  rw [← e2]
  simp only [decide_eq_true_eq,Sum.inl.injEq]
  intro z
  exact hk (by rw [show k=j by omega];exact hj)
 have t:TLe H (upd H G (.dK (kvs'++[(.inl (k:Int),v)]))):=.upd fun xs z=>by rw [e] at z;cases z
 refine ⟨hn,?_,?_,_,.of ac,by rw [xAi,h2,xAi,xAi];rfl,fun j hj=>?_⟩
 ·have:=congrArg List.length h2
  simpa using this
 ·rw [xBq]
  exact ⟨h.nd,by simp,fun a ha b hb=>by rw [xAm.mp hb];exact fun z=>hk (z ▸ ha)⟩
 ·by_cases hjk:j∈ks
  ·obtain ⟨u,u1,u2⟩:=h3 j hjk
   refine ⟨u,?_,u2.le t⟩
   unfold valV at u1 ⊢
   rw [List.find?_append]
   cases hf:kvs'.find? fun kv=>decide (kv.1=Sum.inl (j:Int)) with
   | none=>rw [hf] at u1;cases u1
   | some p=>rw [hf] at u1;exact u1
  ·rcases xAj.mp hj with z | z
   ·exact absurd z hjk
   ·rw [xAm.mp z]
    refine ⟨v,?_,hv.le t⟩
    unfold valV at hn ⊢
    rw [List.find?_append]
    cases hf:kvs'.find? fun kv=>decide (kv.1=Sum.inl (k:Int)) with
    | none=>simp
    | some p=>rw [hf] at hn;cases hn
def gwk:Scope:={ kind:=.function,names:=[("_law_heap",.local),("_law_state",.local),("_law_notes",.local),("_law_values",.local),("_law_places",.local),("_law_note",.local),("_law_value_here",.local),("_law_left",.local),("_law_kind",.local),("_law_word",.local),("_law_within",.local),("_law_found",.local),("zip",.globalImplicit),("isinstance",.globalImplicit),("tuple",.globalImplicit),("len",.globalImplicit)],isGenerator:=false,isCoroutine:=false,more:=[("fast",.str "_law_heap"),("fast",.str "_law_state"),("fast",.str "_law_notes"),("fast",.str "_law_values"),("fast",.str "_law_places"),("fast",.str "_law_note"),("fast",.str "_law_value_here"),("fast",.str "_law_left"),("fast",.str "_law_kind"),("fast",.str "_law_word"),("fast",.str "_law_within"),("fast",.str "_law_found"),("fast",.str "_law_one"),("fast",.str "_law_other")] }
theorem scwk:FnScope ["_law_heap","_law_state","_law_notes","_law_values","_law_places","_law_left","_law_note","_law_value_here","_law_kind","_law_word","_law_within","_law_found"] ["_law_heap","_law_state","_law_notes","_law_values"] gwk:=⟨rfl,rfl,rfl,by decide +kernel,rfl,by decide +kernel,by decide +kernel⟩
theorem oT (F:Dn K mg "_law_walked" sLwalked ["_law_heap","_law_state","_law_notes","_law_values"]) (T:Txt K mg C O) (c_Heap_seen:Mal P w K mg base C "seen" 1 ["self","value"] (spSeen C)):Cal P w K mg base "_law_walked" 3 ["_law_heap","_law_state","_law_notes","_law_values"] (spWk C):=by
 refine F.ok scwk rfl (fun vs H Q E h=>?_) (fun f cdv A outer s H vs Q E hr h=>?_)
 ·obtain ⟨x,S,t,L,G,b1,b2,As,ths,o,cs,ns,rfl,_⟩:=h
  rfl
 ·obtain ⟨x,S,t,L,G,b1,b2,As,ths,o,cs,ns,rfl,st,hb,hs,h1,h2,hn,hl,hc,q⟩:=h
  have hu:=cg hr
  have hu0:=hr.units0
  have hu40:(A.deeper (PyProof.Rows.envOfC "_law_walked" gwk s.heap.objs.size f cdv)).units+40<cLine:=by have:=hr.units;omega
  refine' ⟨?tt,QSs.h ?hh,?gg⟩
  case hh=>exact (aa (ao (i:=4) scwk.nd rfl (Or.inl rfl) dD)
   (aa (bQ (i:=5) scwk.nd rfl rfl (ls:=["_law_note","_law_value_here"]) (N:=[]) (fr:=[]) rfl (CapsG.mk' rfl (by decide +kernel) rfl (by decide +kernel) .nil (by decide +kernel) rfl) (iG rfl T.zzip (ae (qv 2) (ae (qv 3) ab))) (fun C s H fp=>(gF (K:=K) rfl rfl (az (ai (i:=0) (show (["_law_note","_law_value_here"]:List Str).Nodup by decide +kernel) rfl (Or.inl rfl)) (az (ai (i:=1) (show (["_law_note","_law_value_here"]:List Str).Nodup by decide +kernel) rfl (Or.inl rfl)) bJ)))) (fun C s H fp=>bp) (fun C s H fp=>(aJ (ae (qv 0) (ae (qv 1) ab)))))
   (aa (fg PassesOwn.never (dw (mn hu0 (qv 5))) (aa (cj (oz PySem.F.plainAttrs_list PySem.F.slot_list_pop PySem.F.type_list_pop ni (qv 5)) (f7 rfl (az (ai (i:=6) scwk.nd rfl (Or.inl rfl)) (az (ai (i:=7) scwk.nd rfl (Or.inl rfl)) bJ))))
   (af (aR (eG (ci (aI cV rfl T.zisinstance bH (ae (qv 6) (ae (bW (v:=.ty "tuple") rfl T.ztuple dk rfl) ab))))) (af (aR (QW.pt (dv (ci (aI cV rfl T.zisinstance bH (ae (qv 7) (ae (bW (v:=.ty "tuple") rfl T.ztuple dk rfl) ab)))) (cN (aw dH (qv 7) (qv 6) (nomark _))))) (af (aq ck)) aG)) (af (aR (dw (d8 hu (aE aX (qv 6) ad) (qv 4))) (aa (aR (QW.pt (dv (eG (ci (aI cV rfl T.zisinstance bH (ae (qv 7) (ae (bW (v:=.ty "tuple") rfl T.ztuple dk rfl) ab))))) (dv (aw dH (aI aO rfl T.zlen a0 (ae (qv 7) ab)) ad (nomark _)) (cN (aw dH (aE aX (qv 7) ad) ah (nomark _)))))) (af (aq ck)) aG)
   (aa (cz hu (qv 4) (aE aX (qv 6) ad) (qv 7))
   (aa (cj (aE aH (ap hu (qv 1) ah) (aE aX (qv 6) ad)) (f7 rfl (az (ai (i:=8) scwk.nd rfl (Or.inl rfl)) (az (ai (i:=9) scwk.nd rfl (Or.inl rfl)) (az (ai (i:=10) scwk.nd rfl (Or.inl rfl)) bJ)))))
   (aa (ao (i:=11) scwk.nd rfl (Or.inl rfl) (cc (qv 0) c_Heap_seen hr (ae (qv 7) ab)))
   (aa (aR (QW.pt (dv (aw (eK hu40) (bT lG (qv 11) eI (bI ad)) (bm (ae (qv 8) (ae (qv 9) ab))) (nomark _)) (cN (aw dH (aI aO rfl T.zlen a0 (ae (aE aX (qv 11) ad) ab)) (aI aO rfl T.zlen a0 (ae (qv 10) ab)) (nomark _))))) (af (aq ck)) aG)
   (af (ao (i:=5) scwk.nd rfl (Or.inl rfl) (aj mZ (qv 5) (dC (ls:=["_law_one","_law_other"]) (N:=[]) (fr:=[]) rfl (CapsG.mk' rfl (by decide +kernel) rfl (by decide +kernel) .nil (by decide +kernel) rfl) (iG rfl T.zzip (ae (qv 10) (ae (aE aX (qv 11) ad) ab))) (fun C s H fp=>(gF (K:=K) rfl rfl (az (ai (i:=0) (show (["_law_one","_law_other"]:List Str).Nodup by decide +kernel) rfl (Or.inl rfl)) (az (ai (i:=1) (show (["_law_one","_law_other"]:List Str).Nodup by decide +kernel) rfl (Or.inl rfl)) bJ)))) (fun C s H fp=>bp) (fun C s H fp=>(aJ (ae (qv 0) (ae (qv 1) ab))))))))))))) (af (aR (aw (eK hu40) (ap hu (qv 4) (aE aX (qv 6) ad)) (qv 7) (nomark _)) (af (aq ck)) aG))))))))
   (af (aq (qv 4))))))
  obtain ⟨xs1,hb1,_⟩:=id h1
  obtain ⟨xs2,hb2,_⟩:=id h2
  k_go
  refine fY fun G1 H1 s1 n1 g1=>?_
  k_go
  refine gy (s1 _ _ hb1) (s1 _ _ hb2) ?_
  refine ji (h1.mono s1) (h2.mono s1) (by omega) fun lf H2 qs s2 n2 hlf=>?_
  k_go
  have hS:=st.hS
  have lo:=hs.len
  refine gx (fun m σ H'=>∃ (lf:Addr) (ks:List Nat) (ns':List Nt) (qs:List Addr) (v6 v7 v8 v9 v10 v11:Option V),σ=[some (.ref x),some (.ref S),some (.ref b1),some (.ref b2),some (.ref G1),some (.ref lf),v6,v7,v8,v9,v10,v11]∧Same H H'∧H lf=none∧Hd H' G1 ks (place ths o)∧(∃ kvs,H' G1=some (.dK kvs))∧Lf H' lf ns' (place ths o) qs∧(∀ k∈rfs ns',k∈o)∧(∀ k∈ks,k∈o)∧(∀ k∈rfs ns,k∈ks∨k∈rfs ns')∧(∀ k∈ks,∀ n∈(tg ths k).vals,∀ j∈n.rf,j∈ks∨j∈rfs ns')∧m=ns'.length+rem ths o ks∧m≤45000) _ ⟨lf,[],ns,qs,_,_,_,_,_,_,rfl,s1.trans s2,s1.free n2,⟨.nil,[],.of (s2 _ _ g1),rfl,fun k hk=>by cases hk⟩,⟨_,s2 _ _ g1⟩,hlf,hn,(fun k hk=>by cases hk),(fun k hk=>.inr hk),(fun k hk=>by cases hk),rfl,?_⟩ ?_
  ·have:=lK (ths:=ths) (ks:=[]) hs.nd
   omega
  clear hlf n2 s2 g1 s1 qs lf
  rintro m σ H3 ⟨lf,ks,ns',qs,v6,v7,v8,v9,v10,v11,rfl,s3,nlf,hG,⟨kvs,hpl⟩,hlf,c1,c2,c3,c4,rfl,hm⟩
  have hlf0:=hlf.ls
  k_go
  refine kU (fun z=>?_) (fun z=>?_)
  ·obtain ⟨ns0,n,rfl⟩:∃ ns0 n,ns'=ns0++[n]:=by
    rcases List.eq_nil_or_concat ns' with y | ⟨a,b,y⟩
    ·have:=hlf.ln
     rw [y] at this
     rw [List.eq_nil_of_length_eq_zero this] at z
     cases z
    ·exact ⟨a,b,by rw [y,List.concat_eq_append]⟩
   obtain ⟨qs0,q0,rfl,hq,hlf1,hq1⟩:=hlf.pop
   rw [xAb,xAt] at hm
   rw [xAi] at hlf0
   have sX:Same H (upd H3 lf (.lst (qs0.map V.ref))):=s3.upd_new nlf
   have hG1:Hd (upd H3 lf (.lst (qs0.map V.ref))) G1 ks (place ths o):=hG.kept (fp:=[lf]) (.put (by simp)) (aB hlf0) (by simp;exact nen2 hpl hlf0)
   have hpl1:upd H3 lf (.lst (qs0.map V.ref)) G1=some (.dK kvs):=by rw [ag (nen2 hpl hlf0)];exact hpl
   have e1:∀ k∈rfs ns,k∈ks∨k∈rfs ns0∨k∈n.rf:=fun k hk=>(c3 k hk).imp id fun z=>(bf.mp z).imp id bo.mp
   have e2:∀ k∈ks,∀ n'∈(tg ths k).vals,∀ j∈n'.rf,j∈ks∨j∈rfs ns0∨j∈n.rf:=fun k hk n' hn' j hj=>(c4 k hk n' hn' j hj).imp id fun z=>(bf.mp z).imp id bo.mp
   have e3:∀ k∈rfs ns0,k∈o:=fun k hk=>c1 k (bf.mpr (.inl hk))
   have e4:∀ k∈n.rf,k∈o:=fun k hk=>c1 k (bf.mpr (.inr (bo.mpr hk)))
   k_go
   refine nU hlf0 ?_
   generalize upd H3 lf (.lst (qs0.map V.ref))=H4 at sX hG1 hpl1 hlf1 hq1
   obtain ⟨nv,vv,hq2,hnv,hvv⟩:=hq1
   refine fX hq2 rfl ?_
   cases n with
   | num i =>
    obtain rfl:nv = .int i:=hnv
    obtain rfl:vv = .int i:=hvv
    k_go
    refine cy T.kIT ?_
    k_go
    refine cy T.kIT ?_
    k_go
    refine bB (by simp) ?_
    k_go
    exact ⟨ns0.length+rem ths o ks,by rw [xAb,xAt];omega,lf,ks,ns0,qs0,_,_,_,_,_,_,rfl,sX,nlf,hG1,⟨kvs,hpl1⟩,hlf1,e3,c2,(fun k hk=>(e1 k hk).imp id fun z=>z.resolve_right fun y=>by cases y),(fun k hk n' hn' j hj=>(e2 k hk n' hn' j hj).imp id fun z=>z.resolve_right fun y=>by cases y),rfl,by omega⟩
   | th k =>
    have hko:k∈o:=e4 k (by simp [Nt.rf])
    obtain ⟨pn,rfl,hpn⟩:=jc hnv
    obtain ⟨pv,rfl,hpv⟩:=cm hvv
    k_go
    refine dc hpn T.kTT ?_
    k_go
    refine iE hpl1 ?_
    k_go
    by_cases hk:k∈ks
    ·obtain ⟨kvs',w1,w2,w3⟩:=hG1.ex
     have ee:kvs'=kvs:=by
      rcases w1 with w1 | ⟨ob,w1⟩
      ·rw [hpl1] at w1;cases w1;rfl
      ·rw [hpl1] at w1;cases w1
     subst ee
     obtain ⟨v,u1,u2⟩:=w3 k hk
     refine bB (by rw [u1];rfl) ?_
     k_go
     refine gA hpl1 u1 ?_
     k_go
     refine ld (show Rp H4 (.tup _) v from u2) hvv (by show 0≤30;omega) ?_
     k_go
     have f1:∀ {j:Nat},j∈ks∨j∈rfs ns0∨j∈(Nt.th k).rf→j∈ks∨j∈rfs ns0:=fun z=>z.elim .inl fun y=>y.elim .inr fun w=>.inl (by rw [xAm.mp w];exact hk)
     exact ⟨ns0.length+rem ths o ks,by rw [xAb,xAt];omega,lf,ks,ns0,qs0,_,_,_,_,_,_,rfl,sX,nlf,hG1,⟨kvs',hpl1⟩,hlf1,e3,c2,(fun k hk=>f1 (e1 k hk)),(fun k hk n' hn' j hj=>f1 (e2 k hk n' hn' j hj)),rfl,by omega⟩
    ·obtain ⟨u0,ul,hG2⟩:=hG1.put hpl1 hk hvv
     have lks:ks.length≤o.length:=cr hG1.nd c2
     have lo2:=jh (T:=ths) (o:=o)
     refine eF (by rw [u0];rfl) ?_
     k_go
     refine dc hpv T.kTT ?_
     k_go
     refine bB (by simp) ?_
     k_go
     refine de hpl1 (big _ (by omega)) ?_
     rw [cD _ u0]
     have lf2:=hlf1.dict (kvs':=kvs++[(.inl (k:Int),.ref pv)]) hpl1
     have sX2:Same H (upd H4 G1 (.dK (kvs++[(.inl (k:Int),.ref pv)]))):=sX.upd_new n1
     have t5:TLe H4 (upd H4 G1 (.dK (kvs++[(.inl (k:Int),.ref pv)]))):=.upd fun xs z=>by rw [hpl1] at z;cases z
     have hpl2:upd H4 G1 (.dK (kvs++[(.inl (k:Int),.ref pv)])) G1=some (.dK (kvs++[(.inl (k:Int),.ref pv)])):=ac
     generalize upd H4 G1 (.dK (kvs++[(.inl (k:Int),.ref pv)]))=H5 at lf2 sX2 t5 hG2 hpl2
     have hpn5:=t5 _ _ hpn
     have hvv5:=hvv.le t5
     clear hpn hpv
     have hkt:=hs.lt k hko
     obtain ⟨a,b,wv,d1,d2,ha,hw,hB⟩:=(st.same sX2).th hkt
     obtain ⟨us,hus,hrB,hlB⟩:=bA hB
     rw [xAa] at hlB
     obtain ⟨dx,hx⟩:=hb.ob
     k_go
     refine aD (sX2 _ _ hS) bP ?_
     k_go
     refine a9 (sX2 _ _ st.hT) (au d1) ?_
     refine fX ha rfl ?_
     k_go
     refine a7 (sX2 _ _ hx) rfl ?_
     k_go
     refine ⟨x,L,cs,.ref pv,ths,o,k,rfl,hb.same sX2,hs,hko,hvv5,fun p l wv' H6 s6 np nl hp hw' hl2=>?_⟩
     k_go
     refine nP hp (fun h=>absurd (show (2:Nat)=3 from h.2) (by decide)) fun p2 H7 s7 n7 h7=>?_
     k_go
     refine bj fun p3 H8 s8 n8 h8=>?_
     k_go
     have s68:=s7.trans s8
     have s58:=s6.trans s68
     refine ⟨p2,p3,_,_,0,rfl,rfl,s8 _ _ h7,h8,rfl,by decide,fun j u v hu hv=>?_,?_⟩
     ·rcases j with _ | _ | j
      ·cases hu;cases hv;exact .flat rfl
      ·cases hu;cases hv
       exact (Rp.al (hw'.mono s68) (hw.mono s58)).up (by rw [st.wd k hkt];omega)
      ·cases hu
     have hp8:=s68 _ _ hp
     obtain ⟨zs,hz1,hz2⟩:=hl2.mono s68
     have hus8:=s58 _ _ hus
     k_go
     refine bB (by rw [hz2.mapLen,hlB];simp) ?_
     k_go
     have rn:=jO (ths:=ths) hs.nd hko hk
     refine gy hus8 hz1 ?_
     refine ji (hB.mono s58) (hl2.mono s68) (by omega) fun B H9 qs9 s9 n9 lf9=>?_
     have s59:=s58.trans s9
     have lf5:=lf2.same s59
     have ln1:=lf5.ln
     have ln2:=lf9.ln
     k_go
     refine om lf5.ls lf9.ls (Nat.le_of_lt (big _ (by rw [xAa,xAa];omega))) fun l3 H10 s10 n10 h10=>?_
     k_go
     have s510:=s59.trans s10
     have f1:∀ {j:Nat},j∈ks∨j∈rfs ns0∨j∈(Nt.th k).rf→j∈ks++[k]∨j∈rfs (ns0++(tg ths k).vals):=fun z=>z.elim (fun y=>.inl (xBw _ y)) fun y=>y.elim (fun w=>.inr (bf.mpr (.inl w))) fun w=>.inl (xBt _ w)
     refine ⟨(ns0++(tg ths k).vals).length+rem ths o (ks++[k]),by rw [xAb,xAb,xAt];omega,l3,ks++[k],ns0++(tg ths k).vals,qs0++qs9,_,_,_,_,_,_,rfl,sX2.trans s510,sX2.free (s59.free n10),hG2.same s510,⟨_,s510 _ _ hpl2⟩,lf5.cat lf9 s10 n10 h10,fun j hj=>?_,fun j hj=>?_,(fun j hj=>f1 (e1 j hj)),fun j hj n' hn' i hi=>?_,rfl,by rw [xAb];omega⟩
     ·rcases bf.mp hj with z | z
      ·exact e3 j z
      ·obtain ⟨n',hn',hj'⟩:=List.mem_flatMap.mp z
       exact hs.cl k hko n' hn' j hj'
     ·rcases xAj.mp hj with z | z
      ·exact c2 j z
      ·rw [xAm.mp z];exact hko
     ·rcases xAj.mp hj with z | z
      ·exact f1 (e2 j z n' hn' i hi)
      ·rw [xAm.mp z] at hn'
       exact .inr (bf.mpr (.inr (bc hn' hi)))
  ·have:ns'=[]:=by
    have h0:qs=[]:=by
     cases qs with
     | nil=>rfl
     | cons a r=>cases z
    have:=hlf.ln
    rw [h0] at this
    exact List.eq_nil_of_length_eq_zero this.symm
   subst this
   k_go
   exact q G1 ks H3 s3 n1 hG ⟨kvs,hpl⟩ (fun k hk=>(c3 k hk).resolve_right fun z=>by cases z) (fun k hk n hn j hj=>(c4 k hk n hn j hj).resolve_right fun z=>by cases z) c2
end
section
variable {P:Program} {w:World} {K:xFr} {mg:Str→Option Value} {base:Heap} {C O:Addr}
structure Alx (H:Hp) (C x S T L G y:Addr) (As:List Addr) (ths:Ths) (o ks:List Nat) (cs:List D):Prop where
 st:Sto H S T L As ths G
 hb:Hb H C x L cs
 hs:Hs ths o cs
 hd:Hd H G ks (place ths o)
 pl:∃ kvs,H G=some (.dK kvs)
 ko:∀ k,k∈ks↔k∈o
 bs:∃ M,Hb H C y M []∧M ∉ L::T::As
 yx:y≠x
 vl:∀ k,(tg ths k).vals.length≤10
section
variable {H H':Hp} {x S T L G y:Addr} {As:List Addr} {ths:Ths} {o ks:List Nat} {cs:List D}
theorem Alx.same (h:Alx H C x S T L G y As ths o ks cs) (s:Same H H'):Alx H' C x S T L G y As ths o ks cs :=
 ⟨h.st.same s,h.hb.same s,h.hs,h.hd.same s,let ⟨k,e⟩:=h.pl;⟨k,s _ _ e⟩,h.ko,let ⟨M,a,b⟩:=h.bs;⟨M,a.same s,b⟩,h.yx,h.vl⟩
theorem Alx.SG (h:Alx H C x S T L G y As ths o ks cs):S≠G:=fun z=>by
 obtain ⟨kvs,h1,h2,_⟩:=h.hd.ex
 have e:=h.st.hS
 rw [z] at e
 have ee:kvs=stK T G:=by
  rcases h1 with h1 | ⟨ob,h1⟩
  ·rw [e] at h1;cases h1;rfl
  ·rw [e] at h1;cases h1
 rw [ee] at h2
 cases ks with
 | nil=>cases h2
 | cons a r=>cases h2
theorem Alx.len (h:Alx H C x S T L G y As ths o ks cs):ks.length≤ths.length∧cs.length≤11 * ths.length:=by
 have nd:=h.hd.nd
 have lt:∀ k∈ks,k∈List.range ths.length:=fun k hk=>List.mem_range.mpr (h.hs.lt k ((h.ko k).mp hk))
 have l1:=cr nd lt
 rw [List.length_range] at l1
 have l2:=cr h.hs.nd fun k hk=>List.mem_range.mpr (h.hs.lt k hk)
 rw [List.length_range] at l2
 refine ⟨l1,?_⟩
 have:∀ o:List Nat,(fl ths o).length≤11 * o.length:=fun o=>by
  induction o with
  | nil=>exact xBn _
  | cons k o ih =>
   rw [fl,xAb,a8,xAo]
   have:=h.vl k
   unfold size
   omega
 rw [h.hs.len]
 have:=this o
 omega
end
theorem three (n m:Int):∃ (kd:Str) (wd:D) (wv:V) (j:Nat),atI [V.str "block",.str "fn",.str "box"] (n % 3)=some (.str kd)∧atI [V.str "ab",.int m,.str ""] (n % 3)=some wv∧(∀ H,Rp H wd wv)∧D.dep wd=0∧(["block","fn","box"]:List Str)[j]?=some kd∧(∀ i:Nat,i<j→(["block","fn","box"]:List Str)[i]?≠some kd)∧j<3:=by
 rcases (show n % 3=0∨n % 3=1∨n % 3=2 by omega) with z | z | z <;> rw [z]
 ·exact ⟨"block",.str "ab",_,0,au (j:=0) rfl,au (j:=0) rfl,fun _=>rfl,rfl,rfl,fun i hi=>by omega,by decide⟩
 ·exact ⟨"fn",.int m,_,1,au (j:=1) rfl,au (j:=1) rfl,fun _=>rfl,rfl,rfl,fun i hi=>by (obtain rfl:i=0:=by omega);decide +kernel,by decide⟩
 ·exact ⟨"box",.str "",_,2,au (j:=2) rfl,au (j:=2) rfl,fun _=>rfl,rfl,rfl,fun i hi=>by (rcases (show i=0∨i=1 by omega) with rfl | rfl) <;> decide +kernel,by decide⟩
theorem three2 {a:Int} {j:Nat} (h0:0≤a) (h1:a≤5) (hj:j<3):∃ c:Nat,atI [V.int a,.int a,.int 1] (j:Int)=some (.int c)∧c≤5:=by
 obtain ⟨b,rfl⟩:∃ b:Nat,a=b:=⟨a.toNat,by omega⟩
 rcases (show j=0∨j=1∨j=2 by omega) with rfl | rfl | rfl
 ·exact ⟨b,au (j:=0) rfl,by omega⟩
 ·exact ⟨b,au (j:=1) rfl,by omega⟩
 ·exact ⟨1,au (j:=2) rfl,by omega⟩
end
section
variable {P:Program} {w:World} {K:xFr} {mg:Str→Option Value} {base:Heap} {C O:Addr}
def spLaid (C:Addr):Sp:=fun vs H Q _=>∃ (x S T L G y:Addr) (As:List Addr) (ths:Ths) (o ks:List Nat) (cs:List D) (n:Int),vs=[.ref x,.ref S,.int n]∧Alx H C x S T L G y As ths o ks cs∧ths.length≤900 ∧
 ∀ (H':Hp) (a:Addr) (t:Th),t.vals.length≤5→H a=none→Kept (x::S::T::L::G::As) H H'→Alx H' C x S T L G y (As++[a]) (ths++[t]) (o++[ths.length]) (ks++[ths.length]) (cs++hdD t::t.vals.map (Nt.at (place ths o)))→Q (.bl true) H'
theorem Alx.add {H H':Hp} {x S T L G y a b:Addr} {As:List Addr} {ths:Ths} {o ks:List Nat} {cs:List D} {t:Th} {wv v:V} (h:Alx H C x S T L G y As ths o ks cs) (hr:∀ n∈t.vals,∀ j∈n.rf,j∈o) (hv:t.vals.length≤10) (hw:D.dep t.word=0)
  (kp:Kept [L,T,G] H H') (na:H a=none) (nb:H b=none) (nab:a≠b) (hT:H' T=some (.lst (As.map V.ref++[.ref a]))) (ha:H' a=some (.lst [.str t.kind,wv,.ref b])) (hwv:Rp H' t.word wv) (hB:LD H' b (t.vals.map Nt.d))
  (hb:Hb H' C x L (cs++hdD t::t.vals.map (Nt.at (place ths o)))) (hG:∃ kvs kvs',H G=some (.dK kvs)∧kvs'=kvs++[(.inl (ths.length:Int),v)]∧H' G=some (.dK kvs')) (hvv:Rp H' (atD cs.length) v) :
  Alx H' C x S T L G y (As++[a]) (ths++[t]) (o++[ths.length]) (ks++[ths.length]) (cs++hdD t::t.vals.map (Nt.at (place ths o))):=by
 obtain ⟨hs',hp,hpn⟩:=h.hs.lay (t:=t) hr
 obtain ⟨kvs,kvs',g1,rfl,g2⟩:=hG
 have nk:ths.length ∉ ks:=fun z=>xBo _ (h.hs.lt _ ((h.ko _).mp z))
 have tl:TLe H H':=kp.tle fun a ha xs z=>by
  simp only [xAv,xBv,or_false] at ha
  obtain ⟨vs,hL,_⟩:=h.hb.ls
  rcases ha with rfl | rfl | rfl
  ·rw [hL] at z;cases z
  ·rw [h.st.hT] at z;cases z
  ·rw [g1] at z;cases z
 have nT:∀ {c:Addr} {u:HO},H c=some u→c≠L→c≠T→c≠G→H' c=some u:=fun e n1 n2 n3=>kp _ _ e (by simp [n1,n2,n3])
 have nS:S≠L∧S≠T:=by
  obtain ⟨vs,hL,_⟩:=h.hb.ls
  exact ⟨nen2 h.st.hS hL,nen2 h.st.hS h.st.hT⟩
 have notG:∀ {c:Addr} {ws:List V},H c=some (.lst ws)→c≠G:=fun e z=>by rw [z,g1] at e;cases e
 obtain ⟨ndT,ndA⟩:=xCb.mp h.st.nd
 have naT:a≠T:=fun z=>by rw [z,h.st.hT] at na;cases na
 have nbT:b≠T:=fun z=>by rw [z,h.st.hT] at nb;cases nb
 have hAs:∀ c∈As,∃ u,H c=some u:=fun c hc=>by
  obtain ⟨i,hi,rfl⟩:=List.getElem_of_mem hc
  obtain ⟨b',wv',q1,_⟩:=h.st.hA i _ (xAk hi)
  exact ⟨_,q1⟩
 have naA:a ∉ As:=fun z=>by obtain ⟨u,e⟩:=hAs a z;rw [na] at e;cases e
 have nbA:b ∉ As:=fun z=>by obtain ⟨u,e⟩:=hAs b z;rw [nb] at e;cases e
 obtain ⟨vsL,hL,_⟩:=h.hb.ls
 have naL:a≠L:=fun z=>by rw [z,hL] at na;cases na
 have nbL:b≠L:=fun z=>by rw [z,hL] at nb;cases nb
 refine ⟨⟨nT h.st.hS nS.1 nS.2 h.SG,by rw [hT,xAi];rfl,by rw [xAb,xAb,h.st.lA];rfl,fun k c e=>?_,?_,?_,fun k hk=>?_⟩,hb,hs',⟨?_,?_⟩,⟨_,g2⟩,fun k=>?_,?_,h.yx,fun k=>?_⟩
 ·by_cases hk:k<As.length
  ·rw [List.getElem?_append_left hk] at e
   obtain ⟨b',wv',q1,q2,⟨us,q3,q5⟩,q4,q6⟩:=h.st.hA k c e
   have hc:=xAc e
   rw [dm (by rw [← h.st.lA];exact hk)]
   have nb':b'≠a:=fun z=>by rw [z,na] at q3;cases q3
   refine ⟨b',wv',nT q1 (fun z=>h.st.nL (by rw [← z];exact xAs _ hc)) (fun z=>ndT (z ▸ hc)) (notG q1),q2.le tl,⟨us,nT q3 q6 (fun z=>q4 (by rw [z];simp)) (notG q3),q5.le tl⟩,?_,q6⟩
   rw [xAv,not_or] at q4 ⊢
   exact ⟨q4.1,by rw [xAj,not_or];exact ⟨q4.2,by simp [nb']⟩⟩
  ·have hk':k=ths.length:=by
    have:=(xAq.mp e).1
    rw [xAb,xAt] at this
    rw [← h.st.lA]
    omega
   subst hk'
   rw [← h.st.lA,List.getElem?_append_right (xAg _),Nat.sub_self] at e
   cases e
   rw [cL]
   exact ⟨b,wv,ha,hwv,hB,by simp [nbT,nbA,nab.symm],nbL⟩
 ·rw [xCb,xAj,not_or,xBq]
  exact ⟨⟨ndT,by simp [naT.symm]⟩,ndA,by simp,fun c hc d hd=>by rw [xAm.mp hd];exact fun z=>naA (z ▸ hc)⟩
 ·have:=h.st.nL
  rw [xAv,not_or] at this ⊢
  exact ⟨this.1,by rw [xAj,not_or];exact ⟨this.2,by simp [naL.symm]⟩⟩
 ·by_cases hk':k<ths.length
  ·rw [dm hk'];exact h.st.wd k hk'
  ·rw [xAb,xAt] at hk
   rw [show k=ths.length by omega,cL]
   exact hw
 ·rw [xBq]
  exact ⟨h.hd.nd,by simp,fun c hc d hd=>by rw [xAm.mp hd];exact fun z=>nk (z ▸ hc)⟩
 ·obtain ⟨kv1,r1,r2,r3⟩:=h.hd.ex
  have ee:kv1=kvs:=by
   rcases r1 with r1 | ⟨ob,r1⟩
   ·rw [g1] at r1;cases r1;rfl
   ·rw [g1] at r1;cases r1
  subst ee
  have hn:valV kv1 (.inl (ths.length:Int))=none:=by
   rw [valV,Option.map_eq_none_iff,List.find?_eq_none]
   intro p hp
   have:p.1∈kv1.map (·.1):=List.mem_map_of_mem hp
   rw [r2] at this
   simp only [xA2] at this
   obtain ⟨i,⟨j,hj,rfl⟩,e2⟩:=this
   rw [← e2]
   simp only [decide_eq_true_eq,Sum.inl.injEq]
   intro z
   exact nk (by rw [show ths.length=j by omega];exact hj)
  refine ⟨_,.of g2,by rw [xAi,r2,xAi,xAi];rfl,fun j hj=>?_⟩
  by_cases hjk:j∈ks
  ·obtain ⟨u,u1,u2⟩:=r3 j hjk
   refine ⟨u,?_,by rw [hp j ((h.ko j).mp hjk)];exact u2.le tl⟩
   unfold valV at u1 ⊢
   rw [List.find?_append]
   cases hf:kv1.find? fun kv=>decide (kv.1=Sum.inl (j:Int)) with
   | none=>rw [hf] at u1;cases u1
   | some p=>rw [hf] at u1;exact u1
  ·rcases xAj.mp hj with z | z
   ·exact absurd z hjk
   ·rw [xAm.mp z]
    refine ⟨v,?_,by rw [hpn];exact hvv⟩
    unfold valV at hn ⊢
    rw [List.find?_append]
    cases hf:kv1.find? fun kv=>decide (kv.1=Sum.inl (ths.length:Int)) with
    | none=>simp
    | some p=>rw [hf] at hn;cases hn
 ·rw [xAj,xAj,h.ko k]
 ·obtain ⟨M,b1,b2⟩:=h.bs
  obtain ⟨us,m1,m2⟩:=b1.ls
  obtain ⟨dy,y1⟩:=b1.ob
  have nMa:M≠a:=fun z=>by rw [z,na] at m1;cases m1
  have yn:y≠L∧y≠T∧y≠G:=⟨fun z=>by (rw [z,hL] at y1;cases y1),fun z=>by (rw [z,h.st.hT] at y1;cases y1),fun z=>by (rw [z,g1] at y1;cases y1)⟩
  simp only [xAv,not_or] at b2
  refine ⟨M,⟨⟨dy,nT y1 yn.1 yn.2.1 yn.2.2⟩,us,nT m1 b2.1 b2.2.1 (notG m1),m2.le tl⟩,?_⟩
  simp only [xAv,not_or,xAj,xBv,or_false]
  exact ⟨b2.1,b2.2.1,b2.2.2,nMa⟩
 ·by_cases hk':k<ths.length
  ·rw [dm hk'];exact h.vl k
  ·by_cases hk2:k=ths.length
   ·rw [hk2,cL];exact hv
   ·unfold tg
    rw [xBz,List.getElem?_eq_none (by rw [xAb,xAt];omega)]
    exact xBn _
end
section
variable {P:Program} {w:World} {K:xFr} {mg:Str→Option Value} {base:Heap} {C O:Addr}
def glaid:Scope:={ kind:=.function,names:=[("_law_heap",.local),("_law_state",.cell),("_law_number_here",.local),("_law_kind",.local),("_law_word",.local),("_law_values",.local),("_law_k",.local),("_law_handed",.local),("_law_used",.local),("_law_found",.local),("range",.globalImplicit),("_law_value",.globalImplicit),("len",.globalImplicit)],isGenerator:=false,isCoroutine:=false,more:=[("fast",.str "_law_heap"),("fast",.str "_law_state"),("fast",.str "_law_number_here"),("fast",.str "_law_kind"),("fast",.str "_law_word"),("fast",.str "_law_values"),("fast",.str "_law_k"),("fast",.str "_law_note"),("fast",.str "_law_handed"),("fast",.str "_law_used"),("fast",.str "_law_found")] }
theorem sclaid:FnScope ["_law_heap","_law_state","_law_number_here","_law_kind","_law_word","_law_values","_law_k","_law_handed","_law_used","_law_found"] ["_law_heap","_law_state","_law_number_here"] glaid:=⟨rfl,rfl,rfl,by decide +kernel,rfl,by decide +kernel,by decide +kernel⟩
theorem kK (F:Dn K mg "_law_laid" sLlaid ["_law_heap","_law_state","_law_number_here"]) (T:Txt K mg C O) (c__law_value:Cal P w K mg base "_law_value" 2 ["_law_state","_law_number_here"] spVal) (c__law_at:Cal P w K mg base "_law_at" 1 ["_law_state","_law_note"] spAt) (c_Heap_used:Mal P w K mg base C "used" 1 ["self"] (spUsed C)) (c_Heap_lay:Mal P w K mg base C "lay" 1 ["self","kind","word","values"] (spLay C)):Cal P w K mg base "_law_laid" 3 ["_law_heap","_law_state","_law_number_here"] (spLaid C):=by
 refine F.ok sclaid rfl (fun vs H Q E h=>?_) (fun f cdv A outer s H vs Q E hr h=>?_)
 ·obtain ⟨x,S,t,L,G,y,As,ths,o,ks,cs,n,rfl,_⟩:=h
  rfl
 ·obtain ⟨x,S,t,L,G,y,As,ths,o,ks,cs,n,rfl,al,hln,q⟩:=h
  have hu:=cg hr
  have hu40:(A.deeper (PyProof.Rows.envOfC "_law_laid" glaid s.heap.objs.size f cdv)).units+40<cLine:=by have:=hr.units;omega
  refine' ⟨?tt,QSs.h ?hh,?gg⟩
  case hh=>exact (aa (ao (i:=3) sclaid.nd rfl (Or.inl rfl) (aE aH (aJ (ae ah (ae ah (ae ah ab)))) (aj aQ (qv 2) ad)))
   (aa (ao (i:=4) sclaid.nd rfl (Or.inl rfl) (aE aH (aJ (ae ah (ae (aj aQ (aj bg (qv 2) ad) ad) (ae ah ab)))) (aj aQ (qv 2) ad)))
   (aa (ao (i:=2) sclaid.nd rfl (Or.inl rfl) (aj bg (qv 2) ad))
   (aa (ao (i:=5) sclaid.nd rfl (Or.inl rfl) (aJ ab))
   (aa (bR PassesOwn.never rfl (gD rfl T.zrange (ae (aE aH (aJ (ae (aj aQ (qv 2) ad) (ae (aj aQ (qv 2) ad) (ae ad ab)))) (dB PySem.F.plainAttrs_list PySem.F.slot_list_index PySem.F.type_list_index je (aJ (ae ah (ae ah (ae ah ab)))) (ae (qv 3) ab))) ab)) (ai (i:=6) sclaid.nd rfl (Or.inl rfl))
    (aa (ao (i:=2) sclaid.nd rfl (Or.inl rfl) (aj bg (qv 2) ad))
   (af (bS (dB PySem.F.plainAttrs_list PySem.F.slot_list_append PySem.F.type_list_append aS (qv 5) (ae (ba c__law_value hr rfl (ae (qv 1) (ae (qv 2) ab))) ab))))))
   (aa (bQ (i:=7) sclaid.nd rfl rfl (ls:=["_law_note"]) (N:=["_law_state"]) (fr:=[1]) rfl (CapsG.mk' rfl (by decide +kernel) rfl (by decide +kernel) (.cons ⟨⟨_,rfl,rfl⟩,rfl,rfl,rfl⟩ .nil) (by decide +kernel) rfl) (bq (qv 5)) (fun C s H fp=>(ai (i:=0) (show (["_law_note","_law_state"]:List Str).Nodup by decide +kernel) rfl (Or.inl rfl))) (fun C s H fp=>bp) (fun C s H fp=>(ba c__law_at hr rfl (ae (qv 1) (ae (qv 0) ab)))))
   (aa (ao (i:=8) sclaid.nd rfl (Or.inl rfl) (bK (qv 0) c_Heap_used hr))
   (aa (ao (i:=9) sclaid.nd rfl (Or.inl rfl) (cc (qv 0) c_Heap_lay hr (ae (qv 3) (ae (qv 4) (ae (qv 7) ab)))))
   (aa (bS (dB PySem.F.plainAttrs_list PySem.F.slot_list_append PySem.F.type_list_append aS (qv 7) (ae ad ab)))
   (aa (bS (dB PySem.F.plainAttrs_list PySem.F.slot_list_append PySem.F.type_list_append aS (ap hu (qv 1) ah) (ae (aJ (ae (qv 3) (ae (qv 4) (ae (qv 5) ab)))) ab)))
   (aa (cz hu (ap hu (qv 1) ah) (aj cR (aI aO rfl T.zlen a0 (ae (ap hu (qv 1) ah) ab)) ad) (qv 9))
   (af (aq (cP (br (kB hu40) (qv 9) (bm (ae ah (ae (qv 8) ab))) (nomark _)) (dA (br ce (bK (qv 0) c_Heap_used hr) (aj aV (aj aV (qv 8) ad) (aI aO rfl T.zlen a0 (ae (qv 5) ab))) (nomark _)))))))))))))))))
  obtain ⟨kd,wd,wv,j,t1,t2,t3,t4,t5,t6,t7⟩:=three n (n / 3 % 50)
  obtain ⟨lk,lcs⟩:=al.len
  k_go
  refine aK fun l1 H1 s1 n1 h1=>?_
  k_go
  refine r_I (by decide) ?_
  refine a9 h1 t1 ?_
  k_go
  refine r_I (by refine ⟨by decide,by decide⟩) ?_
  k_go
  refine r_I (by decide) ?_
  k_go
  refine aK fun l2 H2 s2 n2 h2=>?_
  k_go
  refine r_I (by decide) ?_
  refine a9 h2 t2 ?_
  k_go
  refine r_I (by refine ⟨by decide,by decide⟩) ?_
  k_go
  refine aK fun lv H3 s3 n3 h3=>?_
  k_go
  refine r_I (by decide) ?_
  k_go
  refine r_I (by decide) ?_
  k_go
  refine aK fun l4 H4 s4 n4 h4=>?_
  k_go
  refine aK fun l5 H5 s5 n5 h5=>?_
  k_go
  refine jV (ws:=["block","fn","box"]) h5 t5 t6 ?_
  obtain ⟨c,c1,c2⟩:=three2 (a:=n / 150 % 6) (by omega) (by omega) t7
  refine a9 (s5 _ _ h4) c1 ?_
  k_go
  refine db (by omega) (by omega) ?_
  have s25:=(s1.trans (s2.trans s3)).trans (s4.trans s5)
  have nlv:=(s1.trans s2).free n3
  have h35:=(s4.trans s5) _ _ h3
  rw [show ((c:Nat):Int).toNat=c by omega]
  refine bC bM (fun i σ H'=>∃ (n':Int) (v6:Option V) (ns:List Nt),σ=[some (.ref x),some (.ref S),some (.int n'),some (.str kd),some wv,some (.ref lv),v6,none,none,none]∧Same H H'∧LD H' lv (ns.map Nt.d)∧ns.length=i∧∀ k∈rfs ns,k∈ks) ⟨_,_,[],rfl,s25,⟨[],h35,rfl⟩,rfl,fun k hk=>by cases hk⟩ (fun _ _ _ _ _=>True.intro) ?_ ?_
  ·rintro E2 i hE σ _ u H6 hi ⟨n',v6,ns,rfl,s6,hlv,ln,hrf⟩ ⟨rfl,rfl⟩
   obtain ⟨us,e1,e2⟩:=hlv
   k_go
   refine r_I (by refine ⟨by decide,by decide⟩) ?_
   k_go
   refine ⟨S,t,G,_,ks,place ths o,rfl,s6 _ _ al.st.hS,al.hd.same s6,let ⟨k,e⟩:=al.pl;⟨k,s6 _ _ e⟩,by omega,fun v nt H7 s7 hv hn=>?_⟩
   have e17:=s7 _ _ e1
   k_go
   refine bi e17 (big _ (by rw [e2.mapLen];omega)) ?_
   k_go
   refine ⟨_,_,ns++[nt],rfl,(s6.trans s7).upd_new nlv,⟨_,ac,?_⟩,by rw [xAb,ln];rfl,fun k hk=>?_⟩
   ·rw [xAi]
    exact ((e2.mono s7).app (.one hv)).le (aB e17)
   ·rcases bf.mp hk with z | z
    ·exact hrf k z
    ·exact hn k (bo.mp z)
  ·rintro σ H6 ⟨n',v6,ns,rfl,s6,hlv,ln,hrf⟩
   obtain ⟨us,e1,e2⟩:=id hlv
   have lus:=e2.mapLen
   have hS6:=s6 _ _ al.st.hS
   have hG6:=al.hd.same s6
   k_go
   refine cF (bn (xs:=us)) (fun B i ys HC=>HC B=some (.lst ys)∧H6 B=none∧Same H6 HC∧Rps HC ((ns.take i).map (Nt.at (place ths o))) ys) ?_ ?_ ?_ ?_
   ·intro B hB0
    exact ⟨ac,hB0,am hB0 _,rfl⟩
   ·rintro B i ys HC hi ⟨h1,h2,h3,h4⟩
    refine ⟨h1,big _ ?_,.of (h3 _ _ e1)⟩
    rw [h4.mapLen,xAn]
    omega
   ·rintro B i ys _ v HC hi ⟨h1,h2,h3,h4⟩ ⟨rfl,hv⟩
    obtain ⟨n,hn1,hn2⟩:=e2.mapGet' hv
    have hmem:=xAc hn1
    k_go
    refine ⟨rfl,rfl,?_⟩
    k_go
    refine ⟨h1,?_⟩
    k_go
    refine ⟨S,t,G,v,n,ks,place ths o,rfl,h3 _ _ hS6,hG6.same h3,hn2.mono h3,fun k hk=>hrf k (bc hmem hk),fun u hu=>?_⟩
    refine ⟨h1,ac,h2,h3.upd_new h2,?_⟩
    rw [aY hn1,xAi]
    exact (h4.app (.one hu)).le (aB h1)
   ·rintro B ys HC ⟨h1,h2,h3,h4⟩
    rw [lus,xAu] at h4
    have s7:=s6.trans h3
    have al7:=al.same s7
    obtain ⟨dx,hx⟩:=al7.hb.ob
    have nB:=s6.free h2
    k_go
    refine a7 hx rfl ?_
    k_go
    refine ⟨x,L,cs,rfl,al7.hb,?_⟩
    k_go
    refine a7 hx rfl ?_
    k_go
    obtain ⟨vL,hL,_⟩:=al.hb.ls
    refine ⟨x,L,B,cs,ns.map (Nt.at (place ths o)),kd,wd,wv,rfl,al7.hb,t3 _,⟨ys,h1,h4⟩,fun z=>(by rw [z,hL] at nB;cases nB),by rw [xAa];omega,fun v H8 k8 hb8 hv8=>?_⟩
    rw [xAa] at hb8
    have nBL:B≠L:=fun z=>by rw [z,hL] at nB;cases nB
    have nlvL:lv≠L:=fun z=>by rw [z,hL] at nlv;cases nlv
    have hB8:=k8 _ _ h1 (by simp [nBL])
    have nlvB:lv≠B:=nen e1 h2
    have t8:TLe HC H8:=al7.hb.tle (k8.mono (by simp))
    have lv8:LD H8 lv (ns.map Nt.d):=(hlv.mono h3).kept k8 t8 (by simp [nlvL])
    obtain ⟨dx0,hx0⟩:=al.hb.ob
    have nxB:x≠B:=nen hx0 nB
    k_go
    refine bi hB8 (big _ (by rw [h4.mapLen];omega)) ?_
    have k89:Kept [B] H8 (upd H8 B (.lst (ys++[.int 7]))):=.put (by simp)
    have t9:TLe H8 (upd H8 B (.lst (ys++[.int 7]))):=aB hB8
    have hb9:=hb8.kept k89 t9 (by simp [nxB]) (by simp [nBL.symm])
    have lv9:=lv8.kept k89 t9 (by simp [nlvB])
    have hv9:=hv8.le t9
    have k9:Kept [L] H (upd H8 B (.lst (ys++[.int 7]))):=fun c u e nn=>k89 _ _ (k8 _ _ (s7 _ _ e) nn) (by simp;exact nen e nB)
    generalize upd H8 B (.lst (ys++[.int 7]))=H9 at k89 t9 hb9 lv9 hv9 k9
    have hS9:=k9 _ _ al.st.hS (by simp;exact nen2 al.st.hS hL)
    have nTL:t≠L:=fun z=>al.st.nL (by rw [z];simp)
    have hT9:=k9 _ _ al.st.hT (by simp [nTL])
    obtain ⟨kvs,hG0⟩:=al.pl
    have hG9:=k9 _ _ hG0 (by simp;exact nen2 hG0 hL)
    have t09:TLe H H9:=al.hb.tle (k9.mono (by simp))
    clear k89 t9 hb8 lv8 hv8 hB8 k8 t8 h1 h2 h3 h4
    k_go
    refine aD hS9 bP ?_
    k_go
    refine aK fun a H10 s10 n10 h10=>?_
    have hT10:=s10 _ _ hT9
    k_go
    have lA:=al.st.lA
    refine bi hT10 (big _ (by rw [xAa];omega)) ?_
    have k11:Kept [t] H10 (upd H10 t (.lst (As.map V.ref++[.ref a]))):=.put (by simp)
    have t11:TLe H10 (upd H10 t (.lst (As.map V.ref++[.ref a]))):=aB hT10
    have hT11:upd H10 t (.lst (As.map V.ref++[.ref a])) t=some (.lst (As.map V.ref++[.ref a])):=ac
    generalize upd H10 t (.lst (As.map V.ref++[.ref a]))=H11 at k11 t11 hT11
    have hS11:=k11 _ _ (s10 _ _ hS9) (by simp;exact nen2 al.st.hS al.st.hT)
    have hG11:=k11 _ _ (s10 _ _ hG9) (by simp;exact nen2 hG0 al.st.hT)
    have naT:a≠t:=(nen hT9 n10).symm
    have ha11:=k11 _ _ h10 (by simp [naT])
    have nlvT:lv≠t:=(nen al.st.hT nlv).symm
    have lv11:=(lv9.mono s10).kept k11 t11 (by simp [nlvT])
    have nxT:x≠t:=fun z=>by rw [z,al.st.hT] at hx0;cases hx0
    have hb11:=(hb9.same s10).kept k11 t11 (by simp [nxT]) (by simp [nTL.symm])
    have hv11:=(hv9.mono s10).le t11
    have k011:Kept [L,t,G] H H11:=(k9.mono (by simp)).trans ((Kept.of s10).trans (k11.mono (by simp)))
    k_go
    refine aD hS11 cW ?_
    k_go
    refine aD hS11 bP ?_
    k_go
    rw [show (((As.map V.ref++[V.ref a]).length:Nat):Int) - 1=(ths.length:Int) by rw [xAb,xAa,xAt];omega]
    have hput:=al.hd.keys al.pl
    have nk:valV kvs (.inl (ths.length:Int))=none∧kvs.length=ks.length:=by
     have:=(Hd.put (k:=ths.length) (v:=v) (al.hd) hG0 (fun z=>xBo _ (al.hs.lt _ ((al.ko _).mp z))))
     obtain ⟨kv1,r1,r2,r3⟩:=al.hd.ex
     have ee:kv1=kvs:=by
      rcases r1 with r1 | ⟨ob,r1⟩
      ·rw [hG0] at r1;cases r1;rfl
      ·rw [hG0] at r1;cases r1
     subst ee
     refine ⟨?_,by simpa using congrArg List.length r2⟩
     rw [valV,Option.map_eq_none_iff,List.find?_eq_none]
     intro p hp
     have:p.1∈kv1.map (·.1):=List.mem_map_of_mem hp
     rw [r2] at this
     simp only [xA2] at this
     obtain ⟨i,⟨j,hj,rfl⟩,e2⟩:=this
     rw [← e2]
     simp only [decide_eq_true_eq,Sum.inl.injEq]
     intro z
     have:=al.hs.lt j ((al.ko j).mp hj)
     omega
    refine de hG11 (big _ (by omega)) ?_
    rw [cD _ nk.1]
    have k12:Kept [G] H11 (upd H11 G (.dK (kvs++[(.inl (ths.length:Int),v)]))):=.put (by simp)
    have t12:TLe H11 (upd H11 G (.dK (kvs++[(.inl (ths.length:Int),v)]))):=.upd fun xs z=>by rw [hG11] at z;cases z
    have hG12:upd H11 G (.dK (kvs++[(.inl (ths.length:Int),v)])) G=some (.dK (kvs++[(.inl (ths.length:Int),v)])):=ac
    generalize upd H11 G (.dK (kvs++[(.inl (ths.length:Int),v)]))=H12 at k12 t12 hG12
    have notG:∀ {c:Addr} {ws:List V},H11 c=some (.lst ws)→c ∉ [G]:=fun e z=>by rw [xAm.mp z,hG11] at e;cases e
    obtain ⟨dx1,hx11⟩:=hb11.ob
    obtain ⟨vL1,hL11,_⟩:=hb11.ls
    have nxG:x ∉ [G]:=fun z=>by rw [xAm.mp z,hG11] at hx11;cases hx11
    have hb12:=hb11.kept k12 t12 nxG (notG hL11)
    have kfin:Kept (x::S::t::L::G::As) H H12:=(k011.mono (by simp)).trans (k12.mono (by simp))
    have naH:H a=none:=by
     cases e:H a with
     | none=>rfl
     | some u =>
      have:a≠L:=fun z=>by
       obtain ⟨vs,e2,_⟩:=hb9.ls
       rw [z,e2] at n10;cases n10
      have:=k9 _ _ e (by simp [this])
      rw [n10] at this;cases this
    have fin:Alx H12 C x S t L G y (As++[a]) (ths++[⟨kd,wd,ns⟩]) (o++[ths.length]) (ks++[ths.length]) (cs++hdD ⟨kd,wd,ns⟩::ns.map (Nt.at (place ths o))):=by
     refine al.add (t:=⟨kd,wd,ns⟩) (a:=a) (b:=lv) (wv:=wv) (v:=v) (fun n' hn' j hj=>(al.ko j).mp (hrf j (bc hn' hj))) (by show ns.length≤10;omega) t4 (k011.trans (k12.mono (by simp))) ?_ nlv ?_ (k12 _ _ hT11 (notG hT11)) (k12 _ _ ha11 (notG ha11)) (t3 _) ?_ hb12 ⟨kvs,_,hG0,rfl,hG12⟩ (hv11.le t12)
     ·cases e:H a with
      | none=>rfl
      | some u =>
       have:a≠L:=fun z=>by
        obtain ⟨vs,e2,_⟩:=hb9.ls
        rw [z,e2] at n10;cases n10
       have:=k9 _ _ e (by simp [this])
       rw [n10] at this;cases this
     ·obtain ⟨vs,e2,_⟩:=lv9
      exact (nen e2 n10).symm
     ·obtain ⟨vs,e2,e3⟩:=lv11
      exact ⟨vs,k12 _ _ e2 (notG e2),e3.le t12⟩
    have hlv12:∃ us,H12 lv=some (.lst us)∧us.length=ns.length:=by
     obtain ⟨vs,e2,e3⟩:=lv11
     exact ⟨vs,k12 _ _ e2 (notG e2),e3.mapLen⟩
    obtain ⟨zs,z1,z2⟩:=hlv12
    obtain ⟨pv,rfl,hpv⟩:=cm (hv11.le t12)
    k_go
    refine bj fun p2 H13 s13 n13 h13=>?_
    have hfin:=fin.same s13
    obtain ⟨dx13,hx13⟩:=hfin.hb.ob
    have z13:=s13 _ _ z1
    refine ld (ds:=[.str "at",.int cs.length]) (eY (s13 _ _ hpv)) (eY h13) (by show 0≤30;omega) ?_
    k_go
    refine a7 hx13 rfl ?_
    k_go
    refine ⟨x,L,_,rfl,hfin.hb,?_⟩
    k_go
    rw [xBd (by rw [xAb,xAo,xAa,z2];omega)]
    exact q H13 a ⟨kd,wd,ns⟩ (by show ns.length≤5;omega) naH (kfin.trans (.of s13)) hfin
end
section
variable {P:Program} {w:World} {K:xFr} {mg:Str→Option Value} {base:Heap} {C O:Addr}
theorem bU {α:Type}:∀ {l m:List α},l.Nodup→(∀ z∈l,z∈m)→l.length≤m.length
 | [],_,_,_=>xBn _
 | x::o,ord,nd,h=>by
  obtain ⟨a,b,rfl⟩:=List.append_of_mem (h x (xAr ..))
  rw [xCb] at nd
  have:=bU (l:=o) (m:=a++b) nd.2 fun k hk=>by
   have:=h k (xAs _ hk)
   rw [xAj,xAv] at this
   rw [xAj]
   rcases this with z | z | z
   ·exact .inl z
   ·exact absurd (z ▸ hk) nd.1
   ·exact .inr z
  rw [xAb] at this
  rw [xAo,xAb,xAo]
  omega
theorem Alx.put {H H':Hp} {x S T L G y a b:Addr} {As:List Addr} {ths:Ths} {o ks:List Nat} {cs:List D} {k:Nat} {n:Nt} {wv:V} (h:Alx H C x S T L G y As ths o ks cs) (hk:k∈o) (h1:(tg ths k).vals.length=1) (hn:∀ j∈n.rf,j∈o) (ea:As[k]?=some a)
  (kp:Kept [L,a] H H') (nb:H b=none) (ha:H' a=some (.lst [.str (tg ths k).kind,wv,.ref b])) (hw:Rp H' (tg ths k).word wv) (hB:LD H' b ([n].map Nt.d)) (hb:Hb H' C x L (cs.set (place ths o k+1) (n.at (place ths o)))) :
  Alx H' C x S T L G y As (ths.set k ⟨(tg ths k).kind,(tg ths k).word,[n]⟩) o ks (cs.set (place ths o k+1) (n.at (place ths o))):=by
 obtain ⟨hs',hp⟩:=h.hs.put hk h1 hn
 have hl:=h.hs.lt k hk
 obtain ⟨vsL,hL,_⟩:=h.hb.ls
 obtain ⟨kvs,hG⟩:=h.pl
 obtain ⟨b0,w0,ha0,_⟩:=h.st.hA k a ea
 have haA:=xAc ea
 obtain ⟨ndT,ndA⟩:=xCb.mp h.st.nd
 have tl:TLe H H':=kp.tle fun c hc xs z=>by
  simp only [xAv,xBv,or_false] at hc
  rcases hc with rfl | rfl
  ·rw [hL] at z;cases z
  ·rw [ha0] at z;cases z
 have nD:∀ {c:Addr} {q:List (Key×V)},H c=some (.dK q)→H' c=some (.dK q):=fun e=>kp _ _ e (by simp;exact ⟨nen2 e hL,nen2 e ha0⟩)
 have nX:∀ {c:Addr} {u:HO},H c=some u→c≠L→c≠a→H' c=some u:=fun e n1 n2=>kp _ _ e (by simp [n1,n2])
 have nLL:L≠T∧L ∉ As:=by have:=h.st.nL;rw [xAv,not_or] at this;exact this
 have nT:T≠a:=fun z=>ndT (by rw [z];exact haA)
 have hAs:∀ c∈As,∃ u,H c=some u:=fun c hc=>by
  obtain ⟨i,hi,rfl⟩:=List.getElem_of_mem hc
  obtain ⟨b',wv',q1,_⟩:=h.st.hA i _ (xAk hi)
  exact ⟨_,q1⟩
 refine ⟨⟨nD h.st.hS,nX h.st.hT (Ne.symm nLL.1) nT,by rw [List.length_set];exact h.st.lA,fun j c e=>?_,h.st.nd,h.st.nL,fun j hj=>?_⟩,hb,hs',?_,⟨kvs,nD hG⟩,h.ko,?_,h.yx,fun j=>?_⟩
 ·rw [bO hl]
  by_cases hkj:k=j
  ·rw [xCg hkj]
   rw [← hkj,ea] at e
   cases e
   refine ⟨b,wv,ha,hw,hB,?_,fun z=>by rw [z,hL] at nb;cases nb⟩
   rw [xAv,not_or]
   exact ⟨fun z=>(by rw [z,h.st.hT] at nb;cases nb),fun z=>by obtain ⟨u,e⟩:=hAs b z;rw [nb] at e;cases e⟩
  ·rw [xCf hkj]
   obtain ⟨b',wv',q1,q2,⟨us,q3,q5⟩,q4,q6⟩:=h.st.hA j c e
   have hc:=xAc e
   have nca:c≠a:=fun z=>by
    rw [z,← ea] at e
    have hkl:=(xAq.mp ea).1
    exact hkj ((List.getElem?_inj hkl ndA).mp e.symm)
   have nba:b'≠a:=fun z=>q4 (by rw [z];exact xAs _ haA)
   exact ⟨b',wv',nX q1 (fun z=>nLL.2 (z ▸ hc)) nca,q2.le tl,⟨us,nX q3 q6 nba,q5.le tl⟩,q4,q6⟩
 ·rw [List.length_set] at hj
  rw [bO hl]
  by_cases hkj:k=j
  ·rw [xCg hkj];exact h.st.wd k hl
  ·rw [xCf hkj];exact h.st.wd j hj
 ·refine (h.hd.kept (fp:=[L,a]) kp tl (by simp;exact ⟨nen2 hG hL,nen2 hG ha0⟩)).congr fun j _=>hp j
 ·obtain ⟨M,b1,b2⟩:=h.bs
  obtain ⟨us,m1,m2⟩:=b1.ls
  obtain ⟨dy,y1⟩:=b1.ob
  simp only [xAv,not_or] at b2
  exact ⟨M,⟨⟨dy,nX y1 (fun z=>by (rw [z,hL] at y1;cases y1)) (fun z=>by (rw [z,ha0] at y1;cases y1))⟩,us,nX m1 b2.1 (fun z=>b2.2.2 (z ▸ haA)),m2.le tl⟩,by simp only [xAv,not_or];exact b2⟩
 ·rw [bO hl]
  by_cases hkj:k=j
  ·rw [xCg hkj];exact (by show 1≤10;omega)
  ·rw [xCf hkj];exact h.vl j
def spPutL (C:Addr):Sp:=fun vs H Q _=>∃ (x S T L G y:Addr) (As:List Addr) (ths:Ths) (o ks:List Nat) (cs:List D) (n:Int),vs=[.ref x,.ref S,.int n]∧Alx H C x S T L G y As ths o ks cs∧ths.length≤900 ∧
 ∀ (H':Hp) (ths':Ths) (cs':List D),ths'.length=ths.length→Kept (x::S::T::L::G::As) H H'→Alx H' C x S T L G y As ths' o ks cs'→Q (.bl true) H'
def gputl:Scope:={ kind:=.function,names:=[("_law_heap",.local),("_law_state",.cell),("_law_number_here",.local),("_law_some",.local),("_law_one",.local),("_law_note",.local),("_law_used",.local),("sorted",.globalImplicit),("len",.globalImplicit),("_law_value",.globalImplicit),("_law_at",.globalImplicit)],isGenerator:=false,isCoroutine:=false,more:=[("fast",.str "_law_heap"),("fast",.str "_law_state"),("fast",.str "_law_number_here"),("fast",.str "_law_k"),("fast",.str "_law_some"),("fast",.str "_law_one"),("fast",.str "_law_note"),("fast",.str "_law_used")] }
theorem scputl:FnScope ["_law_heap","_law_state","_law_number_here","_law_some","_law_one","_law_note","_law_used"] ["_law_heap","_law_state","_law_number_here"] gputl:=⟨rfl,rfl,rfl,by decide +kernel,rfl,by decide +kernel,by decide +kernel⟩
theorem kI (F:Dn K mg "_law_put" sLput ["_law_heap","_law_state","_law_number_here"]) (T:Txt K mg C O) (c__law_value:Cal P w K mg base "_law_value" 2 ["_law_state","_law_number_here"] spVal) (c__law_at:Cal P w K mg base "_law_at" 1 ["_law_state","_law_note"] spAt) (c_Heap_used:Mal P w K mg base C "used" 1 ["self"] (spUsed C)) (c_Heap_put:Mal P w K mg base C "put" 1 ["self","value","inside"] (spPut C)):Cal P w K mg base "_law_put" 3 ["_law_heap","_law_state","_law_number_here"] (spPutL C):=by
 refine F.ok scputl rfl (fun vs H Q E h=>?_) (fun f cdv A outer s H vs Q E hr h=>?_)
 ·obtain ⟨x,S,t,L,G,y,As,ths,o,ks,cs,n,rfl,_⟩:=h
  rfl
 ·obtain ⟨x,S,t,L,G,y,As,ths,o,ks,cs,n,rfl,al,hln,q⟩:=h
  have hu:=cg hr
  have hu0:=hr.units0
  refine' ⟨?tt,QSs.h ?hh,?gg⟩
  case hh=>exact (aa (bQ (i:=3) scputl.nd rfl rfl (ls:=["_law_k"]) (N:=["_law_state"]) (fr:=[1]) rfl (CapsG.mk' rfl (by decide +kernel) rfl (by decide +kernel) (.cons ⟨⟨_,rfl,rfl⟩,rfl,rfl,rfl⟩ .nil) (by decide +kernel) rfl) (bq (aI (dQ rfl) rfl T.zsorted dS (ae (ap hu (qv 1) ah) ab))) (fun C s H fp=>(ai (i:=0) (show (["_law_k","_law_state"]:List Str).Nodup by decide +kernel) rfl (Or.inl rfl))) (fun C s H fp=>(jZ (aw ce (aI (r:=cLen K) aO rfl T.zlen a0 (ae (aE (r:=rIxL K) aH (aE (r:=rIxL K) aH (ap hu (qv 1) ah) (qv 0)) ad) ab)) ad (nomark _)))) (fun C s H fp=>(qv 0)))
   (aa (aR (dw (iJ hu0 (qv 3))) (af (aq cA)) aG)
   (aa (ao (i:=4) scputl.nd rfl (Or.inl rfl) (aE aH (qv 3) (aj aQ (qv 2) (aI aO rfl T.zlen a0 (ae (qv 3) ab)))))
   (aa (ao (i:=5) scputl.nd rfl (Or.inl rfl) (ba c__law_value hr rfl (ae (qv 1) (ae (aj bg (qv 2) ad) ab))))
   (aa (aR (aw ce (aj aQ (aj bg (qv 2) ad) ad) ad (nomark _)) (af (ao (i:=5) scputl.nd rfl (Or.inl rfl) (bm (ae ah (ae (qv 4) ab))))) aG)
   (aa (ao (i:=6) scputl.nd rfl (Or.inl rfl) (bK (qv 0) c_Heap_used hr))
   (aa (cj (aJ (ae (qv 5) ab)) (f6 (aE aH (ap hu (qv 1) ah) (qv 4)) ad dt))
   (af (aq (cP (br i6 (cc (qv 0) c_Heap_put hr (ae (ap hu (ap hu (qv 1) ah) (qv 4)) (ae (ba c__law_at hr rfl (ae (qv 1) (ae (qv 5) ab))) ab))) ck (nomark _)) (dA (br ce (bK (qv 0) c_Heap_used hr) (qv 6) (nomark _)))))))))))))
  obtain ⟨lk,lcs⟩:=al.len
  have hS:=al.st.hS
  k_go
  refine aD hS cW ?_
  k_go
  refine d7 (al.hd.keys al.pl) (jd al.hd.nd) fun l ns H1 s1 n1 h1 hp hm=>?_
  k_go
  have ln:ns.length≤ks.length:=by
   have:=(bU (l:=ns) (hp.imp fun h=>Int.ne_of_lt h) fun z hz=>(hm z).mp hz)
   rw [xAa] at this
   exact this
  refine cF (bn (xs:=ns.map V.int)) (fun B i ys HC=>HC B=some (.lst ys)∧H1 B=none∧Same H1 HC∧∃ us:List Nat,ys=us.map (fun k:Nat=>V.int k)∧us.length≤i∧∀ k∈us,k∈ks∧(tg ths k).vals.length=1) ?_ ?_ ?_ ?_
  ·intro B hB0
   exact ⟨ac,hB0,am hB0 _,[],rfl,xAg _,fun k hk=>by cases hk⟩
  ·rintro B i ys HC hi ⟨g1,g2,g3,us,rfl,g4,g5⟩
   rw [xAa] at hi
   exact ⟨g1,big _ (by rw [xAa];omega),.of (g3 _ _ h1)⟩
  ·rintro B i ys _ v HC hi ⟨g1,g2,g3,us,rfl,g4,g5⟩ ⟨rfl,hv⟩
   obtain ⟨z,hz,rfl⟩:=xA2.mp (xAc hv)
   obtain ⟨k,hk,rfl⟩:=xA2.mp ((hm z).mp hz)
   have s2:=s1.trans g3
   obtain ⟨a,b,wv,d1,d2,ha,hw,hB⟩:=(al.st.same s2).th (al.hs.lt k ((al.ko k).mp hk))
   obtain ⟨ws,hws,hrw⟩:=hB
   have lw:=hrw.mapLen
   k_go
   refine ⟨rfl,rfl,?_⟩
   k_go
   refine aD (s2 _ _ hS) bP ?_
   k_go
   refine a9 (s2 _ _ al.st.hT) (au d1) ?_
   k_go
   refine ⟨g1,b9 (fun z=>?_) (fun z=>?_)⟩
   ·have z1:=of_decide_eq_true z
    k_go
    refine ⟨g1,ac,g2,g3.upd_new g2,us++[k],by simp,by rw [xAb,xAt];omega,fun j hj=>?_⟩
    rcases xAj.mp hj with y | y
    ·exact g5 j y
    ·rw [xAm.mp y];exact ⟨hk,by omega⟩
   ·exact ⟨g1,g2,g3,us,rfl,by omega,g5⟩
  ·rintro B ys HC ⟨g1,g2,g3,us,rfl,g4,g5⟩
   have s2:=s1.trans g3
   k_go
   refine b9 (fun z=>?_) (fun z=>?_)
   ·k_go
    exact q HC ths cs rfl (.of s2) (al.same s2)
   have lu:0<us.length:=by
    cases us with
    | nil=>cases z
    | cons a r=>simp
   k_go
   refine r_I (by rw [xAa];omega) ?_
   k_go
   rw [xAa]
   have b1:=Int.emod_nonneg n (show (us.length:Int)≠0 by omega)
   have b2:=Int.emod_lt_of_pos n (show (0:Int)<us.length by omega)
   obtain ⟨j,hj⟩:∃ j:Nat,n % (us.length:Int)=j:=⟨_,(Int.toNat_of_nonneg b1).symm⟩
   rw [hj]
   have hjl:j<us.length:=by omega
   refine a9 g1 (au (j:=j) (v:=.int (us[j]:Nat)) (by rw [xAw,xAk hjl];rfl)) ?_
   obtain ⟨hk,hk1⟩:=g5 us[j] (List.getElem_mem hjl)
   generalize us[j]=k at hk hk1
   have hko:=(al.ko k).mp hk
   k_go
   refine r_I (by refine ⟨by decide,by decide⟩) ?_
   k_go
   refine ⟨S,t,G,_,ks,place ths o,rfl,s2 _ _ hS,al.hd.same s2,let ⟨k,e⟩:=al.pl;⟨k,s2 _ _ e⟩,by omega,fun v nt H3 s3 hv hn=>du ?_⟩
   dsimp only
   have s13:=s2.trans s3
   refine da (fun σ' H'=>∃ (v:V) (nt:Nt),σ'=[some (.ref x),some (.ref S),some (.int n),some (.ref B),some (.int (k:Nat)),some v,none]∧Same H H'∧Rp H' nt.d v∧∀ j∈nt.rf,j∈ks) ?core ?main
   case main =>
    intro core
    k_go
    refine r_I (by refine ⟨by decide,by decide⟩) ?_
    k_go
    refine r_I (by decide) ?_
    k_go
    refine b9 (fun z=>?_) (fun z=>?_)
    ·k_go
     refine bj fun p H4 s4 n4 h4=>?_
     exact core _ _ ⟨.ref p,.th k,rfl,s13.trans s4,eL h4,fun j hj=>by rw [xAm.mp hj];exact hk⟩
    ·exact core _ _ ⟨v,nt,rfl,s13,hv,hn⟩
   rintro _ H4 ⟨v,nt,rfl,s4,hv,hn⟩
   have al4:=al.same s4
   obtain ⟨dx,hx⟩:=al4.hb.ob
   have hkt:=al.hs.lt k hko
   obtain ⟨a,b,wv,d1,d2,ha,hw,hB⟩:=al4.st.th hkt
   k_go
   refine a7 hx rfl ?_
   k_go
   refine ⟨x,L,cs,rfl,al4.hb,?_⟩
   k_go
   refine aK fun b2 H5 s5 n5 h5=>?_
   k_go
   refine fW ?_
   k_go
   refine aD (s5 _ _ al4.st.hS) bP ?_
   k_go
   refine a9 (s5 _ _ al4.st.hT) (au d1) ?_
   k_go
   have ha5:=s5 _ _ ha
   refine fV (k:=2) ha5 (by simp) ?_
   have k6:Kept [a] H5 (upd H5 a (.lst [.str (tg ths k).kind,wv,.ref b2])):=.put (by simp)
   have t6:TLe H5 (upd H5 a (.lst [.str (tg ths k).kind,wv,.ref b2])):=aB ha5
   have ha6:upd H5 a (.lst [.str (tg ths k).kind,wv,.ref b2]) a=some (.lst [.str (tg ths k).kind,wv,.ref b2]):=ac
   change Ends.nx _ _ (upd H5 a (.lst [.str (tg ths k).kind,wv,.ref b2]))
   generalize upd H5 a (.lst [.str (tg ths k).kind,wv,.ref b2])=H6 at k6 t6 ha6
   have al5:=al4.same s5
   have haA:=xAc d2
   obtain ⟨vsL,hL5,_⟩:=al5.hb.ls
   have nLa:L≠a:=fun z=>al.st.nL (by rw [z];exact xAs _ haA)
   obtain ⟨dx5,hx5⟩:=al5.hb.ob
   have nxa:x≠a:=fun z=>by rw [z,ha5] at hx5;cases hx5
   have hb6:=al5.hb.kept k6 t6 (by simp [nxa]) (by simp [nLa])
   obtain ⟨dx6,hx6⟩:=hb6.ob
   have nSa:S≠a:=nen2 al5.st.hS ha5
   have hS6:=k6 _ _ al5.st.hS (by simp [nSa])
   obtain ⟨kvs5,hG5⟩:=al5.pl
   have nGa:G≠a:=nen2 hG5 ha5
   have hd6:=al5.hd.kept k6 t6 (by simp [nGa])
   obtain ⟨kvs,w1,w2,w3⟩:=hd6.ex
   obtain ⟨pv,u1,u2⟩:=w3 k hk
   have nba:b2≠a:=(nen ha n5).symm
   k_go
   refine a7 hx6 rfl ?_
   k_go
   refine aD hS6 cW ?_
   k_go
   refine df w1 u1 ?_
   k_go
   refine ⟨S,t,G,v,nt,ks,place ths o,rfl,hS6,hd6,(hv.mono s5).le t6,hn,fun u hu=>?_⟩
   k_go
   have hbd:=al.hs.bd hko
   refine ⟨x,L,cs,pv,u,place ths o k,nt.at (place ths o),rfl,hb6,u2,hu,by omega,fun H7 k7 hb7=>?_⟩
   have t7:TLe H6 H7:=hb6.tle (k7.mono (by simp))
   obtain ⟨vsL4,hL4,_⟩:=al4.hb.ls
   have nbL:b2≠L:=(nen hL4 n5).symm
   have fin:=al4.put (a:=a) (b:=b2) (n:=nt) (wv:=wv) (H':=H7) hko hk1 (fun j hj=>(al.ko j).mp (hn j hj)) d2 ((Kept.of s5).trans ((k6.mono (by simp)).trans (k7.mono (by simp)))) n5 (k7 _ _ ha6 (by simp [nLa.symm])) (((hw.mono s5).le t6).le t7) ⟨_,k7 _ _ (k6 _ _ h5 (by simp [nba])) (by simp [nbL]),.one (((hv.mono s5).le t6).le t7)⟩ hb7
   obtain ⟨dx7,hx7⟩:=hb7.ob
   k_go
   refine a7 hx7 rfl ?_
   k_go
   refine ⟨x,L,_,rfl,hb7,?_⟩
   k_go
   rw [xBd (by rw [List.length_set])]
   exact q H7 _ _ (by rw [List.length_set]) ((Kept.of (s4.trans s5)).trans ((k6.mono (by simp [haA])).trans (k7.mono (by simp)))) fin
end
section
variable {P:Program} {w:World} {K:xFr} {mg:Str→Option Value} {base:Heap} {C O:Addr}
theorem Alx.move {H H':Hp} {x S T L G y L' G':Addr} {As:List Addr} {ths:Ths} {o ks o' ks':List Nat} {cs cs':List D} (h:Alx H C x S T L G y As ths o ks cs) (kp:Kept [x,S] H H') (nL:H L'=none) (nG:H G'=none) (hS:H' S=some (.dK (stK T G'))) (hb:Hb H' C x L' cs') (hs:Hs ths o' cs') (hd:Hd H' G' ks' (place ths o')) (pl:∃ kvs,H' G'=some (.dK kvs)) (ko:∀ k,k∈ks'↔k∈o') :
  Alx H' C x S T L' G' y As ths o' ks' cs':=by
 obtain ⟨dx,hx⟩:=h.hb.ob
 have hS0:=h.st.hS
 have nX:∀ {c:Addr} {ws:List V},H c=some (.lst ws)→H' c=some (.lst ws):=fun {c ws} e=>kp _ _ e (by
  simp only [xAv,xBv,or_false,not_or]
  exact ⟨fun z=>by (rw [z,hx] at e;cases e),fun z=>by (rw [z,hS0] at e;cases e)⟩)
 have tl:TLe H H':=kp.tle fun c hc xs z=>by
  simp only [xAv,xBv,or_false] at hc
  rcases hc with rfl | rfl
  ·rw [hx] at z;cases z
  ·rw [hS0] at z;cases z
 refine ⟨⟨hS,nX h.st.hT,h.st.lA,fun k a e=>?_,h.st.nd,?_,h.st.wd⟩,hb,hs,hd,pl,ko,?_,h.yx,h.vl⟩
 ·obtain ⟨b,wv,q1,q2,⟨us,q3,q5⟩,q4,q6⟩:=h.st.hA k a e
  exact ⟨b,wv,nX q1,q2.le tl,⟨us,nX q3,q5.le tl⟩,q4,nen q3 nL⟩
 ·intro z
  rcases xAv.mp z with z | z
  ·exact nen h.st.hT nL z.symm
  ·obtain ⟨i,hi,e⟩:=List.getElem_of_mem z
   obtain ⟨b,wv,q1,_⟩:=h.st.hA i L' (by rw [xAk hi,e])
   exact nen q1 nL rfl
 ·obtain ⟨M,b1,b2⟩:=h.bs
  obtain ⟨us,m1,m2⟩:=b1.ls
  obtain ⟨dy,y1⟩:=b1.ob
  have nMT:M ∉ T::As:=fun z=>b2 (xAs _ z)
  refine ⟨M,⟨⟨dy,kp _ _ y1 ?_⟩,us,nX m1,m2.le tl⟩,?_⟩
  ·simp only [xAv,xBv,or_false,not_or]
   exact ⟨h.yx,fun z=>by (rw [z,hS0] at y1;cases y1)⟩
  ·rw [xAv,not_or]
   exact ⟨nen m1 nL,nMT⟩
theorem fk {ths:Ths}:∀ {o:List Nat},o.Nodup→o.Pairwise fun a b=>place ths o a<place ths o b
 | [],_=>.nil
 | x::o,nd=>by
  obtain ⟨n1,n2⟩:=xCb.mp nd
  have ne:∀ k∈o,place ths (x::o) k=size ths x+place ths o k:=fun k hk=>by rw [place,xCf (fun z=>n1 (by rw [z];exact hk))]
  refine List.pairwise_cons.mpr ⟨fun k hk=>?_,?_⟩
  ·rw [ne k hk,place,xCg rfl]
   have:=cw (T:=ths) (k:=x)
   omega
  ·refine (fk (ths:=ths) n2).imp_of_mem fun {a b} ha hb h=>?_
   rw [ne a ha,ne b hb]
   omega
theorem d0 {α:Type} {f:α→Int}:∀ {a b:List α},a.Perm b→a.Pairwise (fun x y=>f x<f y)→b.Pairwise (fun x y=>f x<f y)→a=b
 | [],b,h,_,_=>(List.nil_perm.mp h).symm
 | x::a,[],h,_,_=>absurd h.length_eq (by simp)
 | x::a,y::b,h,p,q=>by
  obtain ⟨p1,p2⟩:=List.pairwise_cons.mp p
  obtain ⟨q1,q2⟩:=List.pairwise_cons.mp q
  have e:x=y:=by
   rcases xAv.mp (h.mem_iff.mp (xAr ..)) with z | z
   ·exact z
   ·rcases xAv.mp (h.symm.mem_iff.mp (xAr ..)) with w | w
    ·exact w.symm
    ·have:=q1 x z
     have:=p1 y w
     omega
  subst e
  rw [d0 (List.Perm.cons_inv h) p2 q2]
def spMoved (C:Addr):Sp:=fun vs H Q _=>∃ (x S T L G y:Addr) (As:List Addr) (ths:Ths) (o ks:List Nat) (cs:List D) (n:Int),vs=[.ref x,.ref S,.int n]∧Alx H C x S T L G y As ths o ks cs∧ths.length≤60 ∧
 ∀ (H':Hp) (L' G':Addr) (o' ks':List Nat) (cs':List D),H L'=none→H G'=none→L'≠G'→Kept (x::S::T::L::G::As) H H'→Alx H' C x S T L' G' y As ths o' ks' cs'→Q (.bl true) H'
theorem jK {T G G':Addr}:putK (stK T G) (.inr "held") (.ref G')=stK T G':=by kernel_rfl
theorem Sto.move {H H':Hp} {x S T L G L':Addr} {As:List Addr} {ths:Ths} {cs:List D} (h:Sto H S T L As ths G) (hb:Hb H C x L cs) (kp:Kept [x] H H') (nL:H L'=none):Sto H' S T L' As ths G:=by
 have h2:=h.kept hb (kp.mono (by simp)) (hb.tle (kp.mono (by simp)))
 refine ⟨h2.hS,h2.hT,h2.lA,fun k a e=>?_,h2.nd,?_,h2.wd⟩
 ·obtain ⟨b,wv,q1,q2,q3,q4,q6⟩:=h2.hA k a e
  obtain ⟨b',wv',r1,r2,⟨us,r3,_⟩,_⟩:=h.hA k a e
  obtain ⟨dx,hx⟩:=hb.ob
  have:H' a=some (.lst [.str (tg ths k).kind,wv',.ref b']):=kp _ _ r1 (by simp;intro z;rw [z,hx] at r1;cases r1)
  rw [q1] at this
  cases this
  exact ⟨b,wv,q1,q2,q3,q4,nen r3 nL⟩
 ·intro z
  rcases xAv.mp z with z | z
  ·exact nen h.hT nL z.symm
  ·obtain ⟨i,hi,e⟩:=List.getElem_of_mem z
   obtain ⟨b,wv,q1,_⟩:=h.hA i L' (by rw [xAk hi,e])
   exact nen q1 nL rfl
end
section
variable {P:Program} {w:World} {K:xFr} {mg:Str→Option Value} {base:Heap} {C O:Addr}
def gmoved:Scope:={ kind:=.function,names:=[("_law_heap",.local),("_law_state",.cell),("_law_number_here",.local),("_law_notes",.local),("_law_k",.local),("_law_handed",.local),("_law_kept",.local),("_law_found",.local),("_law_places",.cell),("_law_end",.local),("_law_one",.local),("_law_at_here",.local),("range",.globalImplicit),("_law_value",.globalImplicit),("list",.globalImplicit),("len",.globalImplicit),("_law_walked",.globalImplicit),("sorted",.globalImplicit)],isGenerator:=false,isCoroutine:=false,more:=[("fast",.str "_law_heap"),("fast",.str "_law_state"),("fast",.str "_law_number_here"),("fast",.str "_law_notes"),("fast",.str "_law_k"),("fast",.str "_law_note"),("fast",.str "_law_handed"),("fast",.str "_law_kept"),("fast",.str "_law_found"),("fast",.str "_law_places"),("fast",.str "_law_end"),("fast",.str "_law_one"),("fast",.str "_law_at_here")] }
theorem scmoved:FnScope ["_law_heap","_law_state","_law_number_here","_law_notes","_law_k","_law_handed","_law_kept","_law_found","_law_places","_law_end","_law_at_here","_law_one"] ["_law_heap","_law_state","_law_number_here"] gmoved:=⟨rfl,rfl,rfl,by decide +kernel,rfl,by decide +kernel,by decide +kernel⟩
theorem jb (F:Dn K mg "_law_moved" sLmoved ["_law_heap","_law_state","_law_number_here"]) (T:Txt K mg C O) (c__law_value:Cal P w K mg base "_law_value" 2 ["_law_state","_law_number_here"] spVal) (c__law_at:Cal P w K mg base "_law_at" 1 ["_law_state","_law_note"] spAt) (c_Heap_used:Mal P w K mg base C "used" 1 ["self"] (spUsed C)) (c_Heap_move:Mal P w K mg base C "move" 4 ["self","roots"] (spMove C)) (c__law_walked:Cal P w K mg base "_law_walked" 3 ["_law_heap","_law_state","_law_notes","_law_values"] (spWk C)):Cal P w K mg base "_law_moved" 5 ["_law_heap","_law_state","_law_number_here"] (spMoved C):=by
 refine F.ok scmoved rfl (fun vs H Q E h=>?_) (fun f cdv A outer s H vs Q E hr h=>?_)
 ·obtain ⟨x,S,t,L,G,y,As,ths,o,ks,cs,n,rfl,_⟩:=h
  rfl
 ·obtain ⟨x,S,t,L,G,y,As,ths,o,ks,cs,n,rfl,al,hln,q⟩:=h
  have hu:=cg hr
  have hu40:(A.deeper (PyProof.Rows.envOfC "_law_moved" gmoved s.heap.objs.size f cdv)).units+40<cLine:=by have:=hr.units;omega
  refine' ⟨?tt,QSs.h ?hh,?gg⟩
  case hh=>exact (aa (ao (i:=3) scmoved.nd rfl (Or.inl rfl) (aJ ab))
   (aa (bR PassesOwn.never rfl (gD rfl T.zrange (ae (aj aQ (qv 2) ad) ab)) (ai (i:=4) scmoved.nd rfl (Or.inl rfl))
    (aa (ao (i:=2) scmoved.nd rfl (Or.inl rfl) (aj bg (qv 2) ad))
   (aa (bS (dB PySem.F.plainAttrs_list PySem.F.slot_list_append PySem.F.type_list_append aS (qv 3) (ae (ba c__law_value hr rfl (ae (qv 1) (ae (qv 2) ab))) ab)))
   (af (aR (aw ce (aj aQ (qv 2) ad) ad (nomark _)) (af (bS (dB PySem.F.plainAttrs_list PySem.F.slot_list_append PySem.F.type_list_append aS (qv 3) (ae (aE aH (qv 3) ad) ab)))) aG)))))
   (aa (bQ (i:=5) scmoved.nd rfl rfl (ls:=["_law_note"]) (N:=["_law_state"]) (fr:=[1]) rfl (CapsG.mk' rfl (by decide +kernel) rfl (by decide +kernel) (.cons ⟨⟨_,rfl,rfl⟩,rfl,rfl,rfl⟩ .nil) (by decide +kernel) rfl) (bq (qv 3)) (fun C s H fp=>(ai (i:=0) (show (["_law_note","_law_state"]:List Str).Nodup by decide +kernel) rfl (Or.inl rfl))) (fun C s H fp=>bp) (fun C s H fp=>(ba c__law_at hr rfl (ae (qv 1) (ae (qv 0) ab)))))
   (aa (ao (i:=6) scmoved.nd rfl (Or.inl rfl) (oA kQ rfl T.zlist nH (ae (qv 5) ab)))
   (aa (ao (i:=7) scmoved.nd rfl (Or.inl rfl) (cc (qv 0) c_Heap_move hr (ae (qv 5) ab)))
   (aa (aR (QW.pt (dv (aw dH (aI aO rfl T.zlen a0 (ae (qv 7) ab)) (aI aO rfl T.zlen a0 (ae (qv 3) ab)) (nomark _)) (cN (aw (fm hu40) (qv 5) (qv 6) (nomark _))))) (af (aq cA)) aG)
   (aa (ao (i:=8) scmoved.nd rfl (Or.inr rfl) (ba c__law_walked hr rfl (ae (qv 0) (ae (qv 1) (ae (qv 3) (ae (qv 7) ab))))))
   (aa (aR (aw i6 (qv 8) ck (nomark _)) (af (aq cA)) aG)
   (aa (ao (i:=9) scmoved.nd rfl (Or.inl rfl) ad)
   (aa (gB (bR PassesOwn.never rfl (bq (aI (gp) rfl T.zsorted dS (ae (dC (ls:=["_law_one"]) (N:=["_law_places"]) (fr:=[8]) rfl (CapsG.mk' rfl (by decide +kernel) rfl (by decide +kernel) (.cons ⟨⟨_,rfl,rfl⟩,rfl,rfl,rfl⟩ .nil) (by decide +kernel) rfl) (gE (qv 8)) (fun C s H fp=>(ai (i:=0) (show (["_law_one","_law_places"]:List Str).Nodup by decide +kernel) rfl (Or.inl rfl))) (fun C s H fp=>bp) (fun C s H fp=>(bm (ae (aE (r:=rIxT K) aX (ap hu (qv 1) (qv 0)) ad) (ae (qv 0) ab))))) ab))) (fZ rfl (az (ai (i:=10) scmoved.nd rfl (Or.inl rfl)) (az (ai (i:=11) scmoved.nd rfl (Or.inl rfl)) bJ)))
    (aa (aR (aw dH (qv 10) (qv 9) (nomark _)) (af (aq cA)) aG)
   (af (ao (i:=9) scmoved.nd rfl (Or.inl rfl) (aj aV (aj aV (qv 9) ad) (aI aO rfl T.zlen a0 (ae (aE aH (aE aH (ap hu (qv 1) ah) (qv 11)) ad) ab))))))))
   (aa (cz hu (qv 1) ah (qv 8))
   (af (aq (br ce (bK (qv 0) c_Heap_used hr) (qv 9) (nomark _)))))))))))))))
  obtain ⟨lk,lcs⟩:=al.len
  have hS:=al.st.hS
  k_go
  refine aK fun ln H0 s0 n0 h0=>?_
  k_go
  refine r_I (by decide) ?_
  k_go
  have b6:=Int.emod_nonneg n (show (6:Int)≠0 by decide)
  have b7:=Int.emod_lt_of_pos n (show (0:Int)<6 by decide)
  refine db (by omega) (by omega) ?_
  refine bC bM (fun i σ H'=>∃ (n':Int) (v4:Option V) (ns:List Nt),σ=[some (.ref x),some (.ref S),some (.int n'),some (.ref ln),v4,none,none,none,none,none,none,none]∧Same H H'∧LD H' ln (ns.map Nt.d)∧ns.length≤2 * i∧∀ k∈rfs ns,k∈ks) ⟨_,_,[],rfl,s0,⟨[],h0,rfl⟩,xAg _,fun k hk=>by cases hk⟩ (fun _ _ _ _ _=>True.intro) ?_ ?_
  ·rintro E2 i hE σ _ u H6 hi ⟨n',v4,ns,rfl,s6,hlv,lns,hrf⟩ ⟨rfl,rfl⟩
   obtain ⟨us,e1,e2⟩:=hlv
   have hi6:i<6:=by omega
   k_go
   refine r_I (by refine ⟨by decide,by decide⟩) ?_
   k_go
   refine ⟨S,t,G,_,ks,place ths o,rfl,s6 _ _ hS,al.hd.same s6,let ⟨k,e⟩:=al.pl;⟨k,s6 _ _ e⟩,by omega,fun v nt H7 s7 hv hn=>?_⟩
   have e17:=s7 _ _ e1
   k_go
   refine bi e17 (big _ (by rw [e2.mapLen];omega)) ?_
   have s8:Same H (upd H7 ln (.lst (us++[v]))):=(s6.trans s7).upd_new n0
   have r8:Rps (upd H7 ln (.lst (us++[v]))) ((ns++[nt]).map Nt.d) (us++[v]):=by
    rw [xAi]
    exact ((e2.mono s7).app (.one hv)).le (aB e17)
   have h8:upd H7 ln (.lst (us++[v])) ln=some (.lst (us++[v])):=ac
   generalize upd H7 ln (.lst (us++[v]))=H8 at s8 r8 h8
   have hrf8:∀ k∈rfs (ns++[nt]),k∈ks:=fun k hk=>(bf.mp hk).elim (hrf k) fun z=>hn k (bo.mp z)
   have l8:(ns++[nt]).length≤2 * i+1:=by rw [xAb,xAt];omega
   have l0:0<(ns++[nt]).length:=by simp
   generalize ns++[nt]=ms at r8 hrf8 l8 l0
   generalize us++[v]=ws at r8 h8
   k_go
   refine r_I (by decide) ?_
   k_go
   refine b9 (fun z=>?_) (fun z=>?_)
   ·have m0:ms[0]?=some ms[0]:=xAk l0
    obtain ⟨w0,w1,w2⟩:=r8.mapGet m0
    k_go
    refine a9 h8 (au w1) ?_
    k_go
    refine bi h8 (big _ (by rw [r8.mapLen];omega)) ?_
    k_go
    refine ⟨_,_,ms++[ms[0]],rfl,s8.upd_new n0,⟨_,ac,?_⟩,by rw [xAb,xAt];omega,fun k hk=>?_⟩
    ·rw [xAi]
     exact (r8.app (.one w2)).le (aB h8)
    ·rcases bf.mp hk with z | z
     ·exact hrf8 k z
     ·exact hrf8 k (bc (List.getElem_mem l0) (bo.mp z))
   ·k_go
    exact ⟨_,_,ms,rfl,s8,⟨ws,h8,r8⟩,by omega,hrf8⟩
  ·rintro σ H6 ⟨n',v4,ns,rfl,s6,hlv,lns,hrf⟩
   obtain ⟨us,e1,e2⟩:=id hlv
   have lus:=e2.mapLen
   have lns':ns.length≤12:=by omega
   have hS6:=s6 _ _ hS
   have hG6:=al.hd.same s6
   k_go
   refine cF (bn (xs:=us)) (fun B i ys HC=>HC B=some (.lst ys)∧H6 B=none∧Same H6 HC∧Rps HC ((ns.take i).map (Nt.at (place ths o))) ys) ?_ ?_ ?_ ?_
   ·intro B hB0
    exact ⟨ac,hB0,am hB0 _,rfl⟩
   ·rintro B i ys HC hi ⟨h1,h2,h3,h4⟩
    refine ⟨h1,big _ ?_,.of (h3 _ _ e1)⟩
    rw [h4.mapLen,xAn]
    omega
   ·rintro B i ys _ v HC hi ⟨h1,h2,h3,h4⟩ ⟨rfl,hv⟩
    obtain ⟨n,hn1,hn2⟩:=e2.mapGet' hv
    have hmem:=xAc hn1
    k_go
    refine ⟨rfl,rfl,?_⟩
    k_go
    refine ⟨h1,?_⟩
    k_go
    refine ⟨S,t,G,v,n,ks,place ths o,rfl,h3 _ _ hS6,hG6.same h3,hn2.mono h3,fun k hk=>hrf k (bc hmem hk),fun u hu=>?_⟩
    refine ⟨h1,ac,h2,h3.upd_new h2,?_⟩
    rw [aY hn1,xAi]
    exact (h4.app (.one hu)).le (aB h1)
   ·rintro B ys HC ⟨h1,h2,h3,h4⟩
    rw [lus,xAu] at h4
    k_go
    refine jT h1 fun lk2 H7 s7 n7 h7=>?_
    have s67:=h3.trans s7
    have al7:=al.same (s6.trans s67)
    obtain ⟨dx,hx⟩:=al7.hb.ob
    k_go
    refine a7 hx rfl ?_
    k_go
    have hB7:=s7 _ _ h1
    have h47:=h4.mono s7
    refine ⟨x,L,B,cs,ns,ths,o,rfl,al7.hb,al.hs,⟨ys,hB7,h47⟩,(fun k hk=>(al.ko k).mp (hrf k hk)),by omega,by omega,fun l L' H9 o' cs' k9 nl nL' nlL hb9 hs9 r1 gr su ld9=>?_⟩
    have s07:=s6.trans s67
    have nL0:=s07.free nL'
    have k09:Kept [x] H H9:=(Kept.of s07).trans k9
    have nxl:∀ {c:Addr} {ws:List V},H7 c=some (.lst ws)→H9 c=some (.lst ws):=fun {c ws} e=>k9 _ _ e (by simp;intro z;rw [z,hx] at e;cases e)
    have hln9:=nxl (s67 _ _ e1)
    have hBB9:=nxl hB7
    have hk9:=nxl h7
    have t79:TLe H7 H9:=al7.hb.tle (k9.mono (by simp))
    obtain ⟨fs,hl9,hf⟩:=ld9
    have bnd:cs'.length≤cs.length:=by
     rw [hs9.len,al.hs.len]
     exact cU hs9.nd su
    k_go
    refine bB (by rw [hf.mapLen,lus];simp) ?_
    k_go
    refine ⟨B,lk2,ys,ys,1,rfl,rfl,hBB9,hk9,rfl,by decide,lC (h47.le t79) (h47.le t79),?_⟩
    k_go
    refine ⟨x,S,t,L',G,ln,l,As,ths,o',cs',ns,rfl,al7.st.move al7.hb k9 nL',hb9,hs9,⟨us,hln9,(e2.mono s67).le t79⟩,⟨fs,hl9,hf⟩,r1,by omega,by omega,fun G' ks' H10 s10 nG hd10 pl10 q1 q2 q3=>?_⟩
    have ko':∀ k,k∈ks'↔k∈o':=fun k=>⟨q3 k,gr (fun k=>k∈ks') q1 q2 k⟩
    have nG0:H G'=none:=by
     cases e:H G' with
     | none=>rfl
     | some u =>
      by_cases z:G'=x
      ·obtain ⟨dx9,hx9⟩:=hb9.ob
       rw [z,hx9] at nG;cases nG
      ·have:=k09 _ _ e (by simp [z])
       rw [nG] at this;cases this
    have lks:ks'.length≤60:=by
     have:=bU (l:=ks') (m:=List.range ths.length) hd10.nd fun k hk=>List.mem_range.mpr (hs9.lt k (q3 k hk))
     rw [List.length_range] at this
     omega
    have pmo:ks'.Perm o':=(List.perm_ext_iff_of_nodup hd10.nd hs9.nd).mpr ko'
    obtain ⟨kvs,hkv⟩:=pl10
    obtain ⟨kv1,w1,w2,w3⟩:=hd10.ex
    have ee:kv1=kvs:=by
     rcases w1 with w1 | ⟨ob,w1⟩
     ·rw [hkv] at w1;cases w1;rfl
     ·rw [hkv] at w1;cases w1
    subst ee
    have lkv:kv1.length=ks'.length:=by simpa using congrArg List.length w2
    have k010:Kept [x] H H10:=k09.trans (.of s10)
    have st10:=(al7.st.move al7.hb k9 nL').same s10
    have hb10:=hb9.same s10
    k_go
    refine bB (by simp) ?_
    k_go
    refine gz hkv fun ob=>?_
    have fz:upd H10 G' (.frz ob (.dK kv1)) G'=some (.frz ob (.dK kv1)):=ac
    have kF:Kept [G'] H10 (upd H10 G' (.frz ob (.dK kv1))):=.put (by simp)
    have tF:TLe H10 (upd H10 G' (.frz ob (.dK kv1))):=.upd fun xs z=>by rw [hkv] at z;cases z
    generalize upd H10 G' (.frz ob (.dK kv1))=HF at fz kF tF
    refine cF gv (fun B2 i ys2 HC=>HC B2=some (.lst ys2)∧HF B2=none∧Same HF HC∧∃ rs:List (Addr×Int×Int),ys2=rs.map (fun r=>V.ref r.1)∧rs.length=i∧PairsAt HC rs∧rs.map (·.2)=(ks'.take i).map fun k=>((place ths o' k:Int),(k:Int))) ?_ ?_ ?_ ?_
    ·intro B2 hB0
     exact ⟨ac,hB0,am hB0 _,[],rfl,rfl,(fun r hr=>by cases hr),rfl⟩
    ·rintro B2 i ys2 HX hi ⟨g1,g2,g3,rs,rfl,g4,g5,g6⟩
     exact ⟨g1,big _ (by rw [xAa];omega),g3 _ _ fz⟩
    ·rintro B2 i ys2 _ v HX hi ⟨g1,g2,g3,rs,rfl,g4,g5,g6⟩ ⟨rfl,hv⟩
     have hv2:(ks'.map fun k:Nat=>V.int k)[i]?=some v:=by
      rw [← hv]
      have:(kv1.map fun p=>kV p.1)=ks'.map fun k:Nat=>V.int k:=by
       rw [show (kv1.map fun p=>kV p.1)=(kv1.map (·.1)).map kV by rw [xCc];rfl,w2,xCc,xCc]
       rfl
      rw [this]
     rw [xAw,xA3] at hv2
     obtain ⟨k,hk,rfl⟩:=hv2
     obtain ⟨pv,u1,u2⟩:=w3 k (xAc hk)
     obtain ⟨pa,rfl,hpa⟩:=cm ((u2.le tF).mono g3)
     k_go
     refine ⟨rfl,rfl,?_⟩
     k_go
     refine ⟨g1,?_⟩
     k_go
     refine df (.inr ⟨ob,g3 _ _ fz⟩) u1 ?_
     k_go
     refine bj fun p H3 s3 n3 h3'=>?_
     have g1':=s3 _ _ g1
     refine ⟨g1',ac,g2,(g3.trans s3).upd_new g2,rs++[(p,(place ths o' k:Int),(k:Int))],by simp,by simp [g4],fun r hr=>?_,by rw [xAi,aY hk,xAi,g6];rfl⟩
     refine aB g1' _ _ ?_
     rcases xAj.mp hr with z | z
     ·exact s3 _ _ (g5 r z)
     ·rw [xAm.mp z];exact h3'
    ·rintro B2 ys2 HX ⟨g1,g2,g3,rs,rfl,g4,g5,g6⟩
     rw [lkv,xAu] at g6
     rw [lkv] at g4
     have nd1:(rs.map (·.2.1)).Nodup:=by
      rw [show rs.map (·.2.1)=(rs.map (·.2)).map (·.1) by rw [xCc];rfl,g6,xCc,List.Nodup,List.pairwise_map]
      exact hd10.nd.imp_of_mem fun {a b} ha hb h z=>h (cQ (T:=ths) (q3 a ha) (q3 b hb) (by simp at z;omega))
     k_go
     refine g9 g1 g5 (by omega) nd1 fun l2 rs' H12 s12 n12 h12 pm pw=>?_
     have key:rs'.map (·.2)=o'.map fun k=>((place ths o' k:Int),(k:Int)):=by
      refine d0 (f:=fun p:Int×Int=>p.1) ?_ (List.pairwise_map.mpr pw) (List.pairwise_map.mpr ((fk (ths:=ths) hs9.nd).imp fun h=>by show (_:Int)<_;omega))
      refine (pm.map _).trans ?_
      rw [g6]
      exact pmo.map _
     have lrs:rs'.length=o'.length:=by simpa using congrArg List.length key
     have sF:=g3.trans s12
     have kE:Kept [G'] H10 H12:=kF.trans (.of sF)
     have nG12:=sF _ _ fz
     have tE:TLe H10 H12:=tF.trans (.of sF)
     have nGx:x≠G':=by
      obtain ⟨dx9,hx9⟩:=hb9.ob
      exact nen hx9 nG
     have xl:∀ {c:Addr} {ws:List V},H10 c=some (.lst ws)→c ∉ [G']:=fun {c ws} e z=>by rw [xAm.mp z,hkv] at e;cases e
     have nSG:S ∉ [G']:=fun z=>by rw [xAm.mp z,nG0] at hS;cases hS
     have hS12:=kE _ _ st10.hS nSG
     have hT12:=kE _ _ st10.hT (xl st10.hT)
     k_go
     refine bC (bn (xs:=rs'.map fun r=>V.ref r.1)) (fun i σ H'=>∃ (v10 v11:Option V),σ=[some (.ref x),some (.ref S),some (.int n'),some (.ref ln),v4,some (.ref B),some (.ref lk2),some (.ref l),some (.ref G'),some (.int ((fl ths (o'.take i)).length:Nat)),v10,v11]∧Same H12 H') ⟨_,_,rfl,.refl _⟩ (fun i σ H' _ ⟨_,_,_,s⟩=>.of (s _ _ h12)) ?_ ?_
     ·rintro E2 i hE σ _ u H13 hi ⟨v10,v11,rfl,s13⟩ ⟨rfl,hu⟩
      rw [xAw,xA3] at hu
      obtain ⟨r,hr,rfl⟩:=hu
      have hr2:(rs'.map (·.2))[i]?=some r.2:=by rw [xAw,hr];rfl
      rw [key,xAw,xA3] at hr2
      obtain ⟨k,hk,er⟩:=hr2
      have hp:=s13 _ _ (s12 _ _ (g5 r (pm.mem_iff.mp (xAc hr))))
      rw [← er] at hp
      have hko:k∈o':=xAc hk
      have eo:o'=o'.take i++k::o'.drop (i+1):=by
       have hil:=(xAq.mp hk).1
       have hv:=(xAq.mp hk).2
       conv=>lhs;rw [← xBx i o',xB2 hil,hv]
      have ep:place ths o' k=(fl ths (o'.take i)).length:=by
       have nt:k ∉ o'.take i:=fun z=>by
        have nd:=hs9.nd
        rw [eo,xBq] at nd
        exact nd.2.2 k z k (xAr ..) rfl
       conv=>lhs;rw [eo]
       exact bX nt
      obtain ⟨a,b,wv,d1,d2,ha,hw,hB2⟩:=st10.th (hs9.lt k hko)
      obtain ⟨zs,hz1,hz2⟩:=hB2
      have ha13:=s13 _ _ (kE _ _ ha (xl ha))
      have hz13:=s13 _ _ (kE _ _ hz1 (xl hz1))
      k_go
      refine bB (by rw [ep];simp) ?_
      k_go
      refine aD (s13 _ _ hS12) bP ?_
      k_go
      refine a9 (s13 _ _ hT12) (au d1) ?_
      k_go
      have e9:(((fl ths (o'.take (i+1))).length:Nat):Int)=((fl ths (o'.take i)).length:Int)+1+(zs.length:Int):=by
       rw [aY hk,aU,eU,xAb,a8,hz2.mapLen]
       unfold size
       omega
      refine ⟨some (.int (place ths o' k:Nat)),some (.int (k:Nat)),?_,s13⟩
      rw [e9]
      rfl
     ·rintro σ H13 ⟨v10,v11,rfl,s13⟩
      rw [xAa,lrs,xAu]
      have fz13:=s13 _ _ nG12
      refine ⟨upd H13 G' (.dK kv1),.inr ⟨G',ob,kv1,fz13,(fun o u z=>by have z':H G'=some (HO.frz o u):=z;rw [nG0] at z';cases z'),rfl⟩,?_⟩
      have kZ:Kept [G'] H10 (upd H13 G' (.dK kv1)):=(kE.trans (.of s13)).trans (.put (by simp))
      have hGZ:upd H13 G' (.dK kv1) G'=some (.dK kv1):=ac
      generalize upd H13 G' (.dK kv1)=HZ at kZ hGZ
      have tZ:TLe H10 HZ:=kZ.tle fun c hc xs z=>by rw [xAm.mp hc,hkv] at z;cases z
      have hdZ:Hd HZ G' ks' (place ths o'):=⟨hd10.nd,kv1,.of hGZ,w2,fun k hk=>let ⟨v,a,b⟩:=w3 k hk;⟨v,a,b.le tZ⟩⟩
      obtain ⟨vL',hL'10,_⟩:=hb10.ls
      have hbZ:=hb10.kept kZ tZ (by simp [nGx]) (xl hL'10)
      have hSZ:=kZ _ _ st10.hS nSG
      have k0Z:Kept [x] H HZ:=fun c u e nn=>kZ _ _ (k010 _ _ e nn) (by simp;exact nen e nG0)
      k_go
      refine jX hSZ (by show 2≤1000;decide) ?_
      rw [jK]
      have kY:Kept [S] HZ (upd HZ S (.dK (stK t G'))):=.put (by simp)
      have tY:TLe HZ (upd HZ S (.dK (stK t G'))):=.upd fun xs z=>by rw [hSZ] at z;cases z
      have hSY:upd HZ S (.dK (stK t G')) S=some (.dK (stK t G')):=ac
      generalize upd HZ S (.dK (stK t G'))=HY at kY tY hSY
      obtain ⟨dxZ,hxZ⟩:=hbZ.ob
      obtain ⟨vLZ,hLZ,_⟩:=hbZ.ls
      have hbY:=hbZ.kept kY tY (by simp;intro z;rw [z,hSZ] at hxZ;cases hxZ) (by simp;exact (nen2 hSZ hLZ).symm)
      have nGS:G'≠S:=fun z=>nSG (by simp [z])
      have fin:Alx HY C x S t L' G' y As ths o' ks' cs':=al.move ((k0Z.mono (by simp)).trans (kY.mono (by simp))) nL0 nG0 hSY hbY hs9 (hdZ.kept kY tY (by simp [nGS])) ⟨kv1,kY _ _ hGZ (by simp [nGS])⟩ ko'
      obtain ⟨dxY,hxY⟩:=hbY.ob
      k_go
      refine a7 hxY rfl ?_
      k_go
      refine ⟨x,L',cs',rfl,hbY,?_⟩
      k_go
      rw [xBd (by rw [hs9.len])]
      exact q HY L' G' o' ks' cs' nL0 nG0 (fun z=>xl hL'10 (by rw [z];simp)) ((k0Z.mono (by simp)).trans (kY.mono (by simp))) fin
end
section
variable {P:Program} {w:World} {K:xFr} {mg:Str→Option Value} {base:Heap} {C O:Addr}
def chn (n0:Nat) (j:Nat):Nt:=if j=0 then .num 0 else .th (n0+j - 1)
def spChn (C:Addr):Sp:=fun vs H Q _=>∃ (x S T L G y:Addr) (As:List Addr) (ths:Ths) (o ks:List Nat) (cs:List D) (m:Nat),vs=[.ref x,.ref S,.int m]∧Alx H C x S T L G y As ths o ks cs∧ths.length≤100∧1≤m∧m≤700∧∀ H':Hp,Q (.bl true) H'
theorem jq {ths:Ths}:∀ {o:List Nat},(∀ k∈o,(tg ths k).vals.length=1)→(fl ths o).length=2 * o.length
 | [],_=>rfl
 | x::o,h=>by
  rw [fl,xAb,a8,jq fun k hk=>h k (xAs _ hk),xAo]
  unfold size
  rw [h x (xAr ..)]
  omega
theorem eu {n0 m:Nat} {l:List Nat} (nd:l.Nodup) (h:∀ k,k∈l↔n0≤k∧k<n0+m):l.length=m:=by
 have pm:l.Perm ((List.range m).map (n0+·)):=(List.perm_ext_iff_of_nodup nd (by rw [List.Nodup,List.pairwise_map];exact List.nodup_range.imp fun hne z=>hne (by omega))).mpr fun k=>by
  rw [h k,xA2]
  constructor
  ·intro hk
   exact ⟨k - n0,List.mem_range.mpr (by omega),by omega⟩
  ·rintro ⟨j,hj,rfl⟩
   have:=List.mem_range.mp hj
   omega
 rw [pm.length_eq,xAa,List.length_range]
def gchn:Scope:={ kind:=.function,names:=[("_law_heap",.local),("_law_state",.cell),("_law_many",.local),("_law_k",.local),("_law_values",.local),("_law_found",.local),("_law_notes",.local),("_law_places",.local),("range",.globalImplicit),("len",.globalImplicit),("_law_walked",.globalImplicit),("_law_at",.globalImplicit)],isGenerator:=false,isCoroutine:=false,more:=[("fast",.str "_law_heap"),("fast",.str "_law_state"),("fast",.str "_law_many"),("fast",.str "_law_k"),("fast",.str "_law_values"),("fast",.str "_law_note"),("fast",.str "_law_found"),("fast",.str "_law_notes"),("fast",.str "_law_places")] }
theorem scchn:FnScope ["_law_heap","_law_state","_law_many","_law_k","_law_values","_law_found","_law_notes","_law_places"] ["_law_heap","_law_state","_law_many"] gchn:=⟨rfl,rfl,rfl,by decide +kernel,rfl,by decide +kernel,by decide +kernel⟩
theorem nh (F:Dn K mg "_law_chained" sLchained ["_law_heap","_law_state","_law_many"]) (T:Txt K mg C O) (c__law_at:Cal P w K mg base "_law_at" 1 ["_law_state","_law_note"] spAt) (c_Heap_used:Mal P w K mg base C "used" 1 ["self"] (spUsed C)) (c_Heap_lay:Mal P w K mg base C "lay" 1 ["self","kind","word","values"] (spLay C)) (c_Heap_move:Mal P w K mg base C "move" 4 ["self","roots"] (spMove C)) (c__law_walked:Cal P w K mg base "_law_walked" 3 ["_law_heap","_law_state","_law_notes","_law_values"] (spWk C)):Cal P w K mg base "_law_chained" 5 ["_law_heap","_law_state","_law_many"] (spChn C):=by
 refine F.ok scchn rfl (fun vs H Q E h=>?_) (fun f cdv A outer s H vs Q E hr h=>?_)
 ·obtain ⟨x,S,t,L,G,y,As0,ths0,o0,ks0,cs0,m,rfl,_⟩:=h
  rfl
 ·obtain ⟨x,S,t,L,G,y,As0,ths0,o0,ks0,cs0,m,rfl,al0,hln0,hm1,hm2,q⟩:=h
  have hu:=cg hr
  refine' ⟨?tt,QSs.h ?hh,?gg⟩
  case hh=>exact (aa (bR PassesOwn.never rfl (gD rfl T.zrange (ae (qv 2) ab)) (ai (i:=3) scchn.nd rfl (Or.inl rfl))
    (aa (ao (i:=4) scchn.nd rfl (Or.inl rfl) (aJ (ae (qv 3) ab)))
   (aa (aR (aw oS (qv 3) ad (nomark _)) (af (ao (i:=4) scchn.nd rfl (Or.inl rfl) (aJ (ae (bm (ae ah (ae (aj cR (aI aO rfl T.zlen a0 (ae (ap hu (qv 1) ah) ab)) ad) ab))) ab)))) aG)
   (aa (ao (i:=5) scchn.nd rfl (Or.inl rfl) (cc (qv 0) c_Heap_lay hr (ae ah (ae ah (ae (dC (ls:=["_law_note"]) (N:=["_law_state"]) (fr:=[1]) rfl (CapsG.mk' rfl (by decide +kernel) rfl (by decide +kernel) (.cons ⟨⟨_,rfl,rfl⟩,rfl,rfl,rfl⟩ .nil) (by decide +kernel) rfl) (bq (qv 4)) (fun C s H fp=>(ai (i:=0) (show (["_law_note","_law_state"]:List Str).Nodup by decide +kernel) rfl (Or.inl rfl))) (fun C s H fp=>bp) (fun C s H fp=>(ba c__law_at hr rfl (ae (qv 1) (ae (qv 0) ab))))) ab)))))
   (aa (bS (dB PySem.F.plainAttrs_list PySem.F.slot_list_append PySem.F.type_list_append aS (ap hu (qv 1) ah) (ae (aJ (ae ah (ae ah (ae (qv 4) ab)))) ab)))
   (af (cz hu (ap hu (qv 1) ah) (aj cR (aI aO rfl T.zlen a0 (ae (ap hu (qv 1) ah) ab)) ad) (qv 5))))))))
   (aa (ao (i:=6) scchn.nd rfl (Or.inl rfl) (aJ (ae (bm (ae ah (ae (aj cR (aI aO rfl T.zlen a0 (ae (ap hu (qv 1) ah) ab)) ad) ab))) ab)))
   (aa (ao (i:=7) scchn.nd rfl (Or.inl rfl) (ba c__law_walked hr rfl (ae (qv 0) (ae (qv 1) (ae (qv 6) (ae (cc (qv 0) c_Heap_move hr (ae (aJ (ae (ba c__law_at hr rfl (ae (qv 1) (ae (aE aH (qv 6) ad) ab))) ab)) ab)) ab))))))
   (af (aq (cP (br kz (qv 7) ck (nomark _)) (cP (br ce (aI kR rfl T.zlen a0 (ae (qv 7) ab)) (qv 2) (nomark _)) (dA (br ce (bK (qv 0) c_Heap_used hr) (aj i8 ad (qv 2)) (nomark _))))))))))
  k_go
  refine db (by omega) (by omega) ?_
  rw [show ((m:Nat):Int).toNat=m by omega]
  refine bC bM (fun i σ H'=>∃ (v3 v4 v5:Option V) (As:List Addr) (ths:Ths) (o ks:List Nat) (cs:List D),σ=[some (.ref x),some (.ref S),some (.int m),v3,v4,v5,none,none]∧Alx H' C x S t L G y As ths o ks cs∧ths.length=ths0.length+i∧(∀ j,j<i→(tg ths (ths0.length+j)).vals=[chn ths0.length j])∧∀ j,j<i→ths0.length+j∈o) ⟨_,_,_,As0,ths0,o0,ks0,cs0,rfl,al0,rfl,(fun j hj=>by omega),(fun j hj=>by omega)⟩ (fun _ _ _ _ _=>True.intro) ?_ ?_
  ·rintro E2 i hE σ _ u H hi ⟨v3,v4,v5,As,ths,o,ks,cs,rfl,al,lth,hch,hin⟩ ⟨rfl,rfl⟩
   obtain ⟨lk,lcs⟩:=al.len
   have hS:=al.st.hS
   have hrf:∀ j∈(chn ths0.length i).rf,j∈ks:=fun j hj=>by
    unfold chn at hj
    by_cases z:i=0
    ·rw [xCg z] at hj;cases hj
    ·rw [xCf z] at hj
     rw [xAm.mp hj,al.ko]
     have:=hin (i - 1) (by omega)
     rw [show ths0.length+i - 1=ths0.length+(i - 1) by omega]
     exact this
   k_go
   refine aK fun l1 H1 s1 n1 h1=>du ?_
   dsimp only
   refine da (fun σ' H'=>∃ lv:Addr,σ'=[some (.ref x),some (.ref S),some (.int m),some (.int (0+(i:Int))),some (.ref lv),v5,none,none]∧Same H H'∧H lv=none∧LD H' lv ([chn ths0.length i].map Nt.d)) ?core ?main
   case main =>
    intro core
    k_go
    refine b9 (fun z=>?_) (fun z=>?_)
    ·have z1:=of_decide_eq_true z
     k_go
     refine aD (s1 _ _ hS) bP ?_
     have hT1:=s1 _ _ al.st.hT
     k_go
     refine bj fun p H2 s2 n2 h2=>?_
     k_go
     refine aK fun lv H3 s3 n3 h3=>?_
     refine core _ _ ⟨lv,rfl,s1.trans (s2.trans s3),s1.free (s2.free n3),_,h3,.one ?_⟩
     unfold chn
     rw [xCf (by omega)]
     refine eL (s3 _ _ ?_)
     rw [h2,xAa,al.st.lA,lth]
     simp only [Option.some.injEq,HO.tup.injEq,List.cons.injEq,V.int.injEq,and_true,true_and]
     omega
    ·have z1:=of_decide_eq_false z
     refine core _ _ ⟨l1,rfl,s1,n1,_,h1,.one ?_⟩
     unfold chn
     rw [xCg (by omega),show (0:Int)+(i:Int)=0 by omega]
     rfl
   rintro _ H2 ⟨lv,rfl,s2,nlv,hlv⟩
   have hnt:∃ nt,nt=chn ths0.length i:=⟨_,rfl⟩
   obtain ⟨nt,hnt⟩:=hnt
   rw [← hnt] at hlv hrf
   obtain ⟨us,e1,e2⟩:=id hlv
   have lus:=e2.mapLen
   have al2:=al.same s2
   obtain ⟨dx,hx⟩:=al2.hb.ob
   have hS2:=al2.st.hS
   k_go
   refine a7 hx rfl ?_
   k_go
   refine cF (bn (xs:=us)) (fun B i ys HC=>HC B=some (.lst ys)∧H2 B=none∧Same H2 HC∧Rps HC (([nt].take i).map (Nt.at (place ths o))) ys) ?_ ?_ ?_ ?_
   ·intro B hB0
    exact ⟨ac,hB0,am hB0 _,rfl⟩
   ·rintro B i ys HC hi ⟨h1,h2,h3,h4⟩
    exact ⟨h1,big _ (by rw [h4.mapLen,xAn,xAt];omega),.of (h3 _ _ e1)⟩
   ·rintro B i ys _ v HC hi ⟨h1,h2,h3,h4⟩ ⟨rfl,hv⟩
    obtain ⟨n,hn1,hn2⟩:=e2.mapGet' hv
    have hmem:=xAc hn1
    k_go
    refine ⟨rfl,rfl,?_⟩
    k_go
    refine ⟨h1,?_⟩
    k_go
    refine ⟨S,t,G,v,n,ks,place ths o,rfl,h3 _ _ hS2,al2.hd.same h3,hn2.mono h3,fun k hk=>hrf k (by rw [xAm.mp hmem] at hk;exact hk),fun u hu=>?_⟩
    refine ⟨h1,ac,h2,h3.upd_new h2,?_⟩
    rw [aY hn1,xAi]
    exact (h4.app (.one hu)).le (aB h1)
   ·rintro B ys HC ⟨h1,h2,h3,h4⟩
    rw [lus,xAu] at h4
    have s7:=s2.trans h3
    have al7:=al.same s7
    have nB:=s2.free h2
    obtain ⟨vL,hL,_⟩:=al.hb.ls
    obtain ⟨dx0,hx0⟩:=al.hb.ob
    k_go
    refine ⟨x,L,B,cs,[nt].map (Nt.at (place ths o)),"box",.str "",.str "",rfl,al7.hb,rfl,⟨ys,h1,h4⟩,fun z=>(by rw [z,hL] at nB;cases nB),by rw [xAa,xAt];omega,fun v H8 k8 hb9 hv9=>?_⟩
    rw [xAa] at hb9
    have nlvL:lv≠L:=fun z=>by rw [z,hL] at nlv;cases nlv
    have t8:TLe HC H8:=al7.hb.tle (k8.mono (by simp))
    have lv9:LD H8 lv ([nt].map Nt.d):=(hlv.mono h3).kept k8 t8 (by simp [nlvL])
    have k9:Kept [L] H H8:=(Kept.of s7).trans k8
    have hS9:=k9 _ _ al.st.hS (by simp;exact nen2 al.st.hS hL)
    have nTL:t≠L:=fun z=>al.st.nL (by rw [z];simp)
    have hT9:=k9 _ _ al.st.hT (by simp [nTL])
    obtain ⟨kvs,hG0⟩:=al.pl
    have hG9:=k9 _ _ hG0 (by simp;exact nen2 hG0 hL)
    have t09:TLe H H8:=al.hb.tle (k9.mono (by simp))
    k_go
    refine aD hS9 bP ?_
    k_go
    refine aK fun a H10 s10 n10 h10=>?_
    have hT10:=s10 _ _ hT9
    k_go
    have lA:=al.st.lA
    refine bi hT10 (big _ (by rw [xAa];omega)) ?_
    have k11:Kept [t] H10 (upd H10 t (.lst (As.map V.ref++[.ref a]))):=.put (by simp)
    have t11:TLe H10 (upd H10 t (.lst (As.map V.ref++[.ref a]))):=aB hT10
    have hT11:upd H10 t (.lst (As.map V.ref++[.ref a])) t=some (.lst (As.map V.ref++[.ref a])):=ac
    generalize upd H10 t (.lst (As.map V.ref++[.ref a]))=H11 at k11 t11 hT11
    have hS11:=k11 _ _ (s10 _ _ hS9) (by simp;exact nen2 al.st.hS al.st.hT)
    have hG11:=k11 _ _ (s10 _ _ hG9) (by simp;exact nen2 hG0 al.st.hT)
    have naT:a≠t:=(nen hT9 n10).symm
    have ha11:=k11 _ _ h10 (by simp [naT])
    have nlvT:lv≠t:=(nen al.st.hT nlv).symm
    have lv11:=(lv9.mono s10).kept k11 t11 (by simp [nlvT])
    have nxT:x≠t:=fun z=>by rw [z,al.st.hT] at hx0;cases hx0
    have hb11:=(hb9.same s10).kept k11 t11 (by simp [nxT]) (by simp [nTL.symm])
    have hv11:=(hv9.mono s10).le t11
    have k011:Kept [L,t,G] H H11:=(k9.mono (by simp)).trans ((Kept.of s10).trans (k11.mono (by simp)))
    k_go
    refine aD hS11 cW ?_
    k_go
    refine aD hS11 bP ?_
    k_go
    rw [show (((As.map V.ref++[V.ref a]).length:Nat):Int) - 1=(ths.length:Int) by rw [xAb,xAa,xAt];omega]
    have hput:=al.hd.keys al.pl
    have nk:valV kvs (.inl (ths.length:Int))=none∧kvs.length=ks.length:=by
     have:=(Hd.put (k:=ths.length) (v:=v) (al.hd) hG0 (fun z=>xBo _ (al.hs.lt _ ((al.ko _).mp z))))
     obtain ⟨kv1,r1,r2,r3⟩:=al.hd.ex
     have ee:kv1=kvs:=by
      rcases r1 with r1 | ⟨ob,r1⟩
      ·rw [hG0] at r1;cases r1;rfl
      ·rw [hG0] at r1;cases r1
     subst ee
     refine ⟨?_,by simpa using congrArg List.length r2⟩
     rw [valV,Option.map_eq_none_iff,List.find?_eq_none]
     intro p hp
     have:p.1∈kv1.map (·.1):=List.mem_map_of_mem hp
     rw [r2] at this
     simp only [xA2] at this
     obtain ⟨i,⟨j,hj,rfl⟩,e2⟩:=this
     rw [← e2]
     simp only [decide_eq_true_eq,Sum.inl.injEq]
     intro z
     have:=al.hs.lt j ((al.ko j).mp hj)
     omega
    refine de hG11 (big _ (by omega)) ?_
    rw [cD _ nk.1]
    have k12:Kept [G] H11 (upd H11 G (.dK (kvs++[(.inl (ths.length:Int),v)]))):=.put (by simp)
    have t12:TLe H11 (upd H11 G (.dK (kvs++[(.inl (ths.length:Int),v)]))):=.upd fun xs z=>by rw [hG11] at z;cases z
    have hG12:upd H11 G (.dK (kvs++[(.inl (ths.length:Int),v)])) G=some (.dK (kvs++[(.inl (ths.length:Int),v)])):=ac
    generalize upd H11 G (.dK (kvs++[(.inl (ths.length:Int),v)]))=H12 at k12 t12 hG12
    have notG:∀ {c:Addr} {ws:List V},H11 c=some (.lst ws)→c ∉ [G]:=fun e z=>by rw [xAm.mp z,hG11] at e;cases e
    obtain ⟨dx1,hx11⟩:=hb11.ob
    obtain ⟨vL1,hL11,_⟩:=hb11.ls
    have nxG:x ∉ [G]:=fun z=>by rw [xAm.mp z,hG11] at hx11;cases hx11
    have hb12:=hb11.kept k12 t12 nxG (notG hL11)
    have fin:Alx H12 C x S t L G y (As++[a]) (ths++[⟨"box",.str "",[nt]⟩]) (o++[ths.length]) (ks++[ths.length]) (cs++hdD ⟨"box",.str "",[nt]⟩::[nt].map (Nt.at (place ths o))):=by
     refine al.add (t:=⟨"box",.str "",[nt]⟩) (a:=a) (b:=lv) (wv:=.str "") (v:=v) (fun n' hn' j hj=>(al.ko j).mp (hrf j (by rw [xAm.mp hn'] at hj;exact hj))) (by show 1≤10;omega) rfl (k011.trans (k12.mono (by simp))) ?_ nlv ?_ (k12 _ _ hT11 (notG hT11)) (k12 _ _ ha11 (notG ha11)) rfl ?_ hb12 ⟨kvs,_,hG0,rfl,hG12⟩ (hv11.le t12)
     ·cases e:H a with
      | none=>rfl
      | some u =>
       have:a≠L:=fun z=>by
        obtain ⟨vs,e2,_⟩:=hb9.ls
        rw [z,e2] at n10;cases n10
       have:=k9 _ _ e (by simp [this])
       rw [n10] at this;cases this
     ·obtain ⟨vs,e2,_⟩:=lv9
      exact (nen e2 n10).symm
     ·obtain ⟨vs,e2,e3⟩:=lv11
      exact ⟨vs,k12 _ _ e2 (notG e2),e3.le t12⟩
    k_go
    refine ⟨_,_,_,As++[a],ths++[⟨"box",.str "",[nt]⟩],o++[ths.length],ks++[ths.length],_,rfl,fin,by rw [xAb,xAt];omega,fun j hj=>?_,fun j hj=>?_⟩
    ·by_cases z:j<i
     ·rw [dm (by omega)];exact hch j z
     ·rw [show ths0.length+j=ths.length by omega,cL,show j=i by omega,hnt]
    ·by_cases z:j<i
     ·exact xBw _ (hin j z)
     ·rw [show ths0.length+j=ths.length by omega];simp
  ·rintro σ H1 ⟨v3,v4,v5,As,ths,o,ks,cs,rfl,al,lth,hch,hin⟩
   obtain ⟨lk,lcs⟩:=al.len
   have hS:=al.st.hS
   have hT:=al.st.hT
   have hlast:ths0.length+(m - 1)∈o:=hin (m - 1) (by omega)
   k_go
   refine aD hS bP ?_
   k_go
   refine bj fun p H2 s2 n2 h2=>?_
   k_go
   refine aK fun ln H3 s3 n3 h3=>?_
   have s23:=s2.trans s3
   have al3:=al.same s23
   obtain ⟨dx,hx⟩:=al3.hb.ob
   have hp3:H3 p=some (.tup [.str "thing",.int ((ths0.length+(m - 1):Nat):Int)]):=by
    rw [s3 _ _ h2,xAa,al.st.lA,lth]
    simp only [Option.some.injEq,HO.tup.injEq,List.cons.injEq,V.int.injEq,and_true,true_and]
    omega
   have hnt:Rp H3 (Nt.th (ths0.length+(m - 1))).d (.ref p):=eL hp3
   k_go
   refine a7 hx rfl ?_
   k_go
   refine ⟨S,t,G,.ref p,.th (ths0.length+(m - 1)),ks,place ths o,rfl,al3.st.hS,al3.hd,hnt,(fun j hj=>by rw [xAm.mp hj];exact (al.ko _).mpr hlast),fun u hu=>?_⟩
   k_go
   refine aK fun lb H4 s4 n4 h4=>?_
   have al4:=al3.same s4
   obtain ⟨dx4,hx4⟩:=al4.hb.ob
   k_go
   refine ⟨x,L,lb,cs,[.th (ths0.length+(m - 1))],ths,o,rfl,al4.hb,al.hs,⟨_,h4,.one (hu.mono s4)⟩,(fun j hj=>by rw [xAm.mp (bo.mp hj)];exact hlast),by simp,by omega,fun l L' H9 o' cs' k9 nl nL' nlL hb9 hs9 r1 gr su ld9=>?_⟩
   have t49:TLe H4 H9:=al4.hb.tle (k9.mono (by simp))
   have bnd:cs'.length≤cs.length:=by
    rw [hs9.len,al.hs.len]
    exact cU hs9.nd su
   have hln4:=s4 _ _ h3
   have hln9:=k9 _ _ hln4 (by simp;intro z;rw [z,hx4] at hln4;cases hln4)
   k_go
   refine ⟨x,S,t,L',G,ln,l,As,ths,o',cs',[.th (ths0.length+(m - 1))],rfl,al4.st.move al4.hb k9 nL',hb9,hs9,⟨_,hln9,.one ((hnt.mono s4).le t49)⟩,ld9,r1,by simp,by omega,fun G' ks' H10 s10 nG hd10 pl10 q1 q2 q3=>?_⟩
   have rfc:∀ k,ths0.length≤k∧k<ths0.length+m→(tg ths k).vals=[chn ths0.length (k - ths0.length)]:=fun k hk=>by
    have:=hch (k - ths0.length) (by omega)
    rw [show ths0.length+(k - ths0.length)=k by omega] at this
    exact this
   have up:∀ k∈o',ths0.length≤k∧k<ths0.length+m:=gr (fun k=>ths0.length≤k∧k<ths0.length+m) (fun r hr=>by rw [xAm.mp (bo.mp hr)];omega) fun k hk n hn j hj=>by
    rw [rfc k hk,xAm] at hn
    rw [hn] at hj
    unfold chn at hj
    by_cases z:k - ths0.length=0
    ·rw [xCg z] at hj;cases hj
    ·rw [xCf z] at hj
     rw [xAm.mp hj]
     omega
   have dn:∀ j,j<m→ths0.length+(m - 1 - j)∈ks':=fun j=>by
    induction j with
    | zero=>intro _;exact q1 _ (bo.mpr (xAm.mpr rfl))
    | succ j ih =>
     intro hj
     refine q2 _ (ih (by omega)) (.th (ths0.length+(m - 1 - (j+1)))) ?_ _ (xAm.mpr rfl)
     rw [rfc _ (by omega),xAm]
     unfold chn
     rw [xCf (by omega)]
     congr 1
     omega
   have mk:∀ k,k∈ks'↔ths0.length≤k∧k<ths0.length+m:=fun k=>⟨fun h=>up k (q3 k h),fun h=>by
    have:=dn (m - 1 - (k - ths0.length)) (by omega)
    rw [show ths0.length+(m - 1 - (m - 1 - (k - ths0.length)))=k by omega] at this
    exact this⟩
   have lks:=eu hd10.nd mk
   have lo:=eu hs9.nd fun k=>⟨up k,fun h=>q3 k ((mk k).mpr h)⟩
   have lcs':cs'.length=2 * m:=by
    rw [hs9.len,jq fun k hk=>by rw [rfc k (up k hk)];rfl,lo]
   obtain ⟨kvs,hkv⟩:=pl10
   obtain ⟨kv1,w1,w2,w3⟩:=hd10.ex
   have ee:kv1=kvs:=by
    rcases w1 with w1 | ⟨ob,w1⟩
    ·rw [hkv] at w1;cases w1;rfl
    ·rw [hkv] at w1;cases w1
   subst ee
   have lkv:kv1.length=m:=by rw [← lks];simpa using congrArg List.length w2
   have hb10:=hb9.same s10
   obtain ⟨dx10,hx10⟩:=hb10.ob
   k_go
   refine eF (by simp) ?_
   k_go
   refine ⟨G',kv1,rfl,hkv,?_⟩
   k_go
   refine eF (by rw [lkv];simp) ?_
   k_go
   refine a7 hx10 rfl ?_
   k_go
   refine ⟨x,L',cs',rfl,hb10,?_⟩
   k_go
   refine r_I (.inl ⟨by decide,by decide⟩) ?_
   k_go
   rw [xBd (by rw [lcs'];omega)]
   exact q H10
end
section
variable {P:Program} {w:World} {K:xFr} {mg:Str→Option Value} {base:Heap} {C O:Addr}
def spLaw (K:xFr):Sp:=fun vs H Q _=>∃ (a:Addr) (ns:List Int),vs=[.ref a]∧SqL K H a (ns.map V.int)∧∀ H',Q (.bl true) H'
theorem oZ {T G:Addr}:mergeK [] [(.inr "things",V.ref T),(.inr "held",V.ref G)]=stK T G:=by kernel_rfl
theorem jl:Hs [] [] []:=⟨.nil,(fun k hk=>by cases hk),(fun k hk=>by cases hk),rfl⟩
theorem iC {K:xFr} {H:Hp} {p:Addr} {xs:List V} {lo hi:Option Int} {Q:VK} (e:SqL K H p xs) (h:∀ l H2,Same H H2→H l=none→H2 l=some (.lst (cutV xs lo hi))→Q (.ref l) H2):rSlL K (.ref p) lo hi H Q:=⟨p,xs,rfl,e,fun l hl=>h l _ (am hl _) hl ac⟩
structure Inl (H H':Hp) (C x S T L G y:Addr) (As:List Addr) (ths:Ths) (o ks:List Nat) (cs:List D) (l:Addr) (ws:List V):Prop where
 al:Alx H' C x S T L G y As ths o ks cs
 sm:Same H H'
 fr:∀ c∈x::S::T::L::G::As,H c=none
 ls:H' l=some (.lst ws)
 nl:l ∉ x::S::T::L::G::As
theorem Alx.frz {H:Hp} {x S T L G y:Addr} {As:List Addr} {ths:Ths} {o ks:List Nat} {cs:List D} {kvs:List (Key×V)} {ob:Obj} (h:Alx H C x S T L G y As ths o ks cs) (e:H G=some (.dK kvs)):Sto (upd H G (.frz ob (.dK kvs))) S T L As ths G∧Hb (upd H G (.frz ob (.dK kvs))) C x L cs∧Hd (upd H G (.frz ob (.dK kvs))) G ks (place ths o):=by
 have tl:TLe H (upd H G (.frz ob (.dK kvs))):=.upd fun xs z=>by rw [e] at z;cases z
 have nX:∀ {c:Addr} {ws:List V},H c=some (.lst ws)→upd H G (.frz ob (.dK kvs)) c=some (.lst ws):=fun {c ws} q=>by rw [ag (fun z=>by rw [z,e] at q;cases q)];exact q
 obtain ⟨dx,hx⟩:=h.hb.ob
 obtain ⟨vL,hL,hrL⟩:=h.hb.ls
 refine ⟨⟨by rw [ag h.SG];exact h.st.hS,nX h.st.hT,h.st.lA,fun k a ea=>?_,h.st.nd,h.st.nL,h.st.wd⟩,⟨⟨dx,by rw [ag (fun z=>by rw [z,e] at hx;cases hx)];exact hx⟩,vL,nX hL,hrL.le tl⟩,h.hd.nd,?_⟩
 ·obtain ⟨b,wv,q1,q2,⟨us,q3,q5⟩,q4,q6⟩:=h.st.hA k a ea
  exact ⟨b,wv,nX q1,q2.le tl,⟨us,nX q3,q5.le tl⟩,q4,q6⟩
 ·obtain ⟨kv1,w1,w2,w3⟩:=h.hd.ex
  have ee:kv1=kvs:=by
   rcases w1 with w1 | ⟨ob,w1⟩
   ·rw [e] at w1;cases w1;rfl
   ·rw [e] at w1;cases w1
  subst ee
  exact ⟨kv1,.inr ⟨ob,ac⟩,w2,fun k hk=>let ⟨v,a,b⟩:=w3 k hk;⟨v,a,b.le tl⟩⟩
theorem Inl.same {H H1 H2:Hp} {x S T L G y l:Addr} {As:List Addr} {ths:Ths} {o ks:List Nat} {cs:List D} {ws:List V} (h:Inl H H1 C x S T L G y As ths o ks cs l ws) (s:Same H1 H2):Inl H H2 C x S T L G y As ths o ks cs l ws:=⟨h.al.same s,h.sm.trans s,h.fr,s _ _ h.ls,h.nl⟩
theorem Inl.step {H H1 H2:Hp} {x S T L G y L' G' l:Addr} {As As':List Addr} {ths ths':Ths} {o ks o' ks':List Nat} {cs cs':List D} {ws:List V} (h:Inl H H1 C x S T L G y As ths o ks cs l ws) (k:Kept (x::S::T::L::G::As) H1 H2) (al:Alx H2 C x S T L' G' y As' ths' o' ks' cs')
  (hn:∀ c∈x::S::T::L'::G'::As',c∈x::S::T::L::G::As∨H1 c=none):Inl H H2 C x S T L' G' y As' ths' o' ks' cs' l ws:=by
 refine ⟨al,fun c u e=>k _ _ (h.sm _ _ e) fun z=>?_,fun c hc=>?_,k _ _ h.ls h.nl,fun z=>?_⟩
 ·rw [h.fr c z] at e;cases e
 ·rcases hn c hc with z | z
  ·exact h.fr c z
  ·exact h.sm.free z
 ·rcases hn l z with y | y
  ·exact h.nl y
  ·rw [h.ls] at y;cases y
def glaw:Scope:={ kind:=.function,names:=[("_law_script",.local),("_law_heap",.local),("_law_beside",.local),("_law_state",.local),("_law_cell",.local),("_law_number_here",.local),("_law_good",.local),("_law_one",.local),("_law_many",.local),("Heap",.globalImplicit),("_law_laid",.globalImplicit),("_law_put",.globalImplicit),("_law_moved",.globalImplicit),("_law_tells",.globalImplicit),("sum",.globalImplicit),("_law_chained",.globalImplicit)],isGenerator:=false,isCoroutine:=false,more:=[("fast",.str "_law_script"),("fast",.str "_law_heap"),("fast",.str "_law_beside"),("fast",.str "_law_state"),("fast",.str "_law_cell"),("fast",.str "_law_number_here"),("fast",.str "_law_good"),("fast",.str "_law_one"),("fast",.str "_law_many")] }
theorem sclaw:FnScope ["_law_script","_law_heap","_law_beside","_law_state","_law_cell","_law_number_here","_law_good","_law_one","_law_many"] ["_law_script"] glaw:=⟨rfl,rfl,rfl,by decide +kernel,rfl,by decide +kernel,by decide +kernel⟩
theorem nc {f:Addr} {fd:FuncData} (F:Fun K "law" "law" slaw f fd) (T:Txt K mg C O) (i_Heap:Ini P w K mg base C "Heap" 1 ["self"] (spHI C)) (c_Heap_used:Mal P w K mg base C "used" 1 ["self"] (spUsed C)) (c_Heap_move:Mal P w K mg base C "move" 4 ["self","roots"] (spMove C)) (c__law_laid:Cal P w K mg base "_law_laid" 3 ["_law_heap","_law_state","_law_number_here"] (spLaid C)) (c__law_put:Cal P w K mg base "_law_put" 3 ["_law_heap","_law_state","_law_number_here"] (spPutL C)) (c__law_moved:Cal P w K mg base "_law_moved" 5 ["_law_heap","_law_state","_law_number_here"] (spMoved C)) (c__law_tells:Cal P w K mg base "_law_tells" 3 ["_law_heap","_law_state","_law_one"] (spTells C)) (c__law_chained:Cal P w K mg base "_law_chained" 5 ["_law_heap","_law_state","_law_many"] (spChn C)):FnOk P w K mg base CX0 6 f fd ["_law_script"] (spLaw K):=by
 refine F.okS sclaw rfl (fun vs H Q E h=>?_) (fun cdv A outer s H vs Q E hr h=>?_)
 ·obtain ⟨a,ns,rfl,_⟩:=h
  rfl
 ·obtain ⟨a,ns,rfl,hS,q⟩:=h
  have hu:=cg hr
  have hu40:(A.deeper (PyProof.Rows.envOfC "law" glaw s.heap.objs.size f cdv)).units+40<cLine:=by have:=hr.units;omega
  refine' ⟨?tt,QSs.h ?hh,?gg⟩
  case hh=>exact (aa (ao (i:=1) sclaw.nd rfl (Or.inl rfl) (iI i_Heap hr rfl))
   (aa (ao (i:=2) sclaw.nd rfl (Or.inl rfl) (iI i_Heap hr rfl))
   (aa (ao (i:=3) sclaw.nd rfl (Or.inl rfl) (j3 (fh ah (aJ ab) (fh ah dD j0)) rfl rfl (fun z=>nomatch z) (by decide)))
   (aa (aR (QW.pt (dv (aw dH (bK (qv 1) c_Heap_used hr) ad (nomark _)) (cN (aw (fm hu40) (cc (qv 1) c_Heap_move hr (ae (aJ (ae ad (ae ad ab))) ab)) (aJ (ae ad (ae ad ab))) (nomark _))))) (af (aq cA)) aG)
   (aa (bR PassesOwn.never rfl (bq (bT c9 (qv 0) eI (bI ad))) (ai (i:=4) sclaw.nd rfl (Or.inl rfl))
    (aa (ao (i:=5) sclaw.nd rfl (Or.inl rfl) (aj bg (qv 4) ad))
   (aa (aR (aw i9 (aj aQ (qv 4) ad) ad (nomark _)) (af (ao (i:=6) sclaw.nd rfl (Or.inl rfl) (ba c__law_laid hr rfl (ae (qv 1) (ae (qv 3) (ae (qv 5) ab)))))) (af (aR (aw i9 (aj aQ (qv 4) ad) ad (nomark _)) (af (ao (i:=6) sclaw.nd rfl (Or.inl rfl) (ba c__law_put hr rfl (ae (qv 1) (ae (qv 3) (ae (qv 5) ab)))))) (af (ao (i:=6) sclaw.nd rfl (Or.inl rfl) (ba c__law_moved hr rfl (ae (qv 1) (ae (qv 3) (ae (qv 5) ab)))))))))
   (aa (aR (eG (ci (qv 6))) (af (aq cA)) aG)
   (af (gB (bR PassesOwn.never rfl (gE (ap hu (qv 3) ah)) (ai (i:=7) sclaw.nd rfl (Or.inl rfl))
    (af (aR (eG (ci (ba c__law_tells hr rfl (ae (qv 1) (ae (qv 3) (ae (qv 7) ab)))))) (af (aq cA)) aG)))))))))
   (aa (ao (i:=8) sclaw.nd rfl (Or.inl rfl) (aj aV ad (aj aQ (aI (nE rfl) rfl T.zsum pc (ae (dC (ls:=["_law_cell"]) (N:=[]) (fr:=[]) rfl (CapsG.mk' rfl (by decide +kernel) rfl (by decide +kernel) .nil (by decide +kernel) rfl) (bq (bT c9 (qv 0) eI (bI ad))) (fun C s H fp=>(ai (i:=0) (show (["_law_cell"]:List Str).Nodup by decide +kernel) rfl (Or.inl rfl))) (fun C s H fp=>bp) (fun C s H fp=>(aj aQ (qv 0) ad))) ab)) ad)))
   (af (aq (cP (br ce (bK (qv 2) c_Heap_used hr) ad (nomark _)) (dA (ba c__law_chained hr rfl (ae (qv 1) (ae (qv 3) (ae (qv 8) ab))))))))))))))
  k_go
  intro x dx nx ndx hdx
  have s1:Same H (upd (upd H dx (.own x)) x (.ins C dx [])):=((Same.refl H).upd_new ndx).upd_new nx
  refine ⟨x,dx,rfl,ac,fun L0 H1 k1 nL0 hb1=>⟨rfl,?_⟩⟩
  have nL:=s1.free nL0
  have s2:Same H H1:=fun c u e=>k1 c u (s1 _ _ e) (by simp;exact nen e nx)
  clear k1 nL0 s1
  k_go
  intro y dy ny ndy hdy
  have s3:Same H1 (upd (upd H1 dy (.own y)) y (.ins C dy [])):=((Same.refl H1).upd_new ndy).upd_new ny
  refine ⟨y,dy,rfl,ac,fun M H2 k2 nM0 hb2=>⟨rfl,?_⟩⟩
  have nM:=s3.free nM0
  have s4:Same H1 H2:=fun c u e=>k2 c u (s3 _ _ e) (by simp;exact nen e ny)
  clear k2 nM0 s3
  obtain ⟨dx1,hx1⟩:=hb1.ob
  obtain ⟨vL,hL1,_⟩:=hb1.ls
  have yx:y≠x:=(nen hx1 ny).symm
  have nML:M≠L0:=(nen hL1 nM).symm
  k_go
  refine ma fun S H3 s5 nS h3=>?_
  k_go
  refine aK fun t H4 s6 nT h4=>?_
  k_go
  refine fY fun G H5 s7 nG h5=>?_
  k_go
  refine jY [(.inr "things",.ref t),(.inr "held",.ref G)] (s7 _ _ (s6 _ _ h3)) rfl (by simp) ?_
  rw [oZ]
  have hS3:=s7 _ _ (s6 _ _ h3)
  have k8:Kept [S] H5 (upd H5 S (.dK (stK t G))):=.put (by simp)
  have t8:TLe H5 (upd H5 S (.dK (stK t G))):=.upd fun xs z=>by rw [hS3] at z;cases z
  have hS8:upd H5 S (.dK (stK t G)) S=some (.dK (stK t G)):=ac
  have nSH:H S=none:=s2.free (s4.free nS)
  have s08:Same H (upd H5 S (.dK (stK t G))):=(s2.trans (s4.trans (s5.trans (s6.trans s7)))).upd_new nSH
  generalize upd H5 S (.dK (stK t G))=H8 at k8 t8 hS8 s08
  have s15:=s4.trans (s5.trans (s6.trans s7))
  have s25:=s5.trans (s6.trans s7)
  have nS2:H2 S=none:=nS
  have hb18:Hb H8 C x L0 []:=(hb1.same s15).kept k8 t8 (by simp;exact nen hx1 (s4.free nS)) (by simp;exact nen hL1 (s4.free nS))
  obtain ⟨dy2,hy2⟩:=hb2.ob
  obtain ⟨vM,hM2,_⟩:=hb2.ls
  have hb28:Hb H8 C y M []:=(hb2.same s25).kept k8 t8 (by simp;exact nen hy2 nS) (by simp;exact nen hM2 nS)
  have nTS:t≠S:=(nen h3 nT).symm
  have nGS:G≠S:=(nen (s6 _ _ h3) nG).symm
  have hT8:H8 t=some (.lst []):=k8 _ _ (s7 _ _ h4) (by simp [nTS])
  have hG8:H8 G=some (.dK []):=k8 _ _ h5 (by simp [nGS])
  have nTL:t≠L0:=(nen (s5 _ _ (s4 _ _ hL1)) nT).symm
  have nTM:t≠M:=(nen (s5 _ _ hM2) nT).symm
  have nTH:H t=none:=s2.free (s4.free (s5.free nT))
  have nGH:H G=none:=s2.free (s4.free (s5.free (s6.free nG)))
  have al8:Alx H8 C x S t L0 G y [] [] [] [] []:=⟨⟨hS8,hT8,rfl,(fun k a e=>by simp at e),by simp,by simp [nTL.symm],(fun k hk=>by simp at hk)⟩,hb18,jl,⟨.nil,[],.of hG8,rfl,(fun k hk=>by cases hk)⟩,⟨_,hG8⟩,(fun k=>Iff.rfl),⟨M,hb28,by simp [nML,nTM.symm]⟩,yx,(fun k=>xBn _)⟩
  obtain ⟨dx8,hx8⟩:=hb18.ob
  k_go
  refine a7 hx8 rfl ?_
  k_go
  refine ⟨x,L0,[],rfl,hb18,?_⟩
  k_go
  refine a7 hx8 rfl ?_
  k_go
  refine aK fun l5 H9 s9 n9 h9=>?_
  have al9:=al8.same s9
  k_go
  refine ⟨x,L0,l5,[],[.num 5,.num 0],[],[],rfl,al9.hb,jl,⟨_,h9,_,_,rfl,rfl,.one rfl⟩,(fun k hk=>by simp [rfs,Nt.rf] at hk),by simp,by simp,fun l6 L' H10 o' cs' k10 nl6 nL' nlL hb10 hs10 r1 gr su ld10=>?_⟩
  obtain ⟨us,hl6,hr6⟩:=ld10
  have eo:o'=[]:=by
   cases o' with
   | nil=>rfl
   | cons k r=>exact absurd (su k (xAr ..)) (by simp)
  subst eo
  have ecs:cs'=[]:=hs10.cs
  subst ecs
  have eus:us=[.int 5,.int 0]:=by
   obtain ⟨v1,r1',rfl,e1,v2,r2,rfl,e2,e3⟩:=hr6
   rw [show v1=_ from e1,show v2=_ from e2,show r2=_ from e3]
  subst eus
  have nL'H:H L'=none:=(s08.trans s9).free nL'
  have t910:TLe H9 H10:=al9.hb.tle (k10.mono (by simp))
  have hx9:=s9 _ _ hx8
  have al10:Alx H10 C x S t L' G y [] [] [] [] []:=by
   have st:=al9.st.move al9.hb k10 nL'
   obtain ⟨M',m1,m2⟩:=al9.bs
   obtain ⟨dy9,hy9⟩:=m1.ob
   obtain ⟨vM9,hM9,hrM9⟩:=m1.ls
   have nX:∀ {c:Addr} {u:HO},H9 c=some u→c≠x→H10 c=some u:=fun e n=>k10 _ _ e (by simp [n])
   have hG9:=s9 _ _ hG8
   have hG10:=nX hG9 (fun z=>by rw [z,hx9] at hG9;cases hG9)
   refine ⟨st,hb10,hs10,⟨.nil,[],.of hG10,rfl,(fun k hk=>by cases hk)⟩,⟨_,hG10⟩,(fun k=>Iff.rfl),⟨M',⟨⟨dy9,nX hy9 yx⟩,vM9,nX hM9 (fun z=>by rw [z,hx9] at hM9;cases hM9),hrM9.le t910⟩,?_⟩,yx,al9.vl⟩
   simp only [xAv,not_or] at m2 ⊢
   exact ⟨nen hM9 nL',m2.2⟩
  have s010:Same H H10:=fun c u e=>k10 _ _ ((s08.trans s9) _ _ e) (by simp;exact nen e nx)
  k_go
  refine aK fun l7 H11 s11 n11 h11=>?_
  refine ml (ns:=[5,0]) (s11 _ _ hl6) h11 ?_
  have al11:=al10.same s11
  have s011:=s010.trans s11
  k_go
  refine iC (s011.seq hS) fun lc H12 s12 n12 h12=>?_
  rw [fM (by decide)] at h12
  k_go
  have inl:Inl H H12 C x S t L' G y [] [] [] [] [] lc ((ns.map V.int).take (40:Int).toNat):=by
   have al12:=al11.same s12
   obtain ⟨dxx,hxx⟩:=al11.hb.ob
   obtain ⟨vLL,hLL,_⟩:=al11.hb.ls
   obtain ⟨kG,hGG⟩:=al11.pl
   refine ⟨al12,s011.trans s12,fun c hc=>?_,h12,fun z=>?_⟩
   ·simp only [xAv,xBv,or_false] at hc
    rcases hc with rfl | rfl | rfl | rfl | rfl
    ·exact nx
    ·exact nSH
    ·exact nTH
    ·exact nL'H
    ·exact nGH
   ·simp only [xAv,xBv,or_false] at z
    rcases z with rfl | rfl | rfl | rfl | rfl
    ·rw [hxx] at n12;cases n12
    ·rw [al11.st.hS] at n12;cases n12
    ·rw [al11.st.hT] at n12;cases n12
    ·rw [hLL] at n12;cases n12
    ·rw [hGG] at n12;cases n12
  clear al8 al9 al10 al11 hb18 hb28 hb10 h12 n12 s12 h11 n11 s11 hl6 r1 gr su hr6 nl6 nlL k10 t910 hx9 hs10 s010 s011 h9 n9 s9 hx8 k8 t8 hS8 s08 hT8 hG8 hb1 hb2
  refine bC (bn (xs:=(ns.map V.int).take (40:Int).toNat)) (fun i σ H'=>∃ (v4 v5 v6 v7:Option V) (L G:Addr) (As:List Addr) (ths:Ths) (o ks:List Nat) (cs:List D),σ=[some (.ref a),some (.ref x),some (.ref y),some (.ref S),v4,v5,v6,v7,none]∧Inl H H' C x S t L G y As ths o ks cs lc ((ns.map V.int).take (40:Int).toNat)∧ths.length≤i) ⟨_,_,_,_,L',G,[],[],[],[],[],rfl,inl,xAg _⟩ (fun i σ H' _ ⟨_,_,_,_,_,_,_,_,_,_,_,_,il,_⟩=>.of il.ls) ?_ ?_
  ·rintro E2 i hE σ _ u H13 hi ⟨v4,v5,v6,v7,L,G,As,ths,o,ks,cs,rfl,il,lth⟩ ⟨rfl,hu⟩
   have hi40:i<40:=by
    rw [xAn] at hi
    have:(40:Int).toNat=40:=rfl
    omega
   obtain ⟨c,rfl⟩:∃ c,u=V.int c:=by
    have:=xBj (xAc hu)
    obtain ⟨c,_,e⟩:=xA2.mp this
    exact ⟨c,e.symm⟩
   k_go
   refine r_I (by refine ⟨by decide,by decide⟩) (du ?_)
   dsimp only
   refine da (fun σ' H'=>∃ (L G:Addr) (As:List Addr) (ths:Ths) (o ks:List Nat) (cs:List D),σ'=[some (.ref a),some (.ref x),some (.ref y),some (.ref S),some (.int c),some (.int (c / 7)),some (.bl true),v7,none]∧Inl H H' C x S t L G y As ths o ks cs lc ((ns.map V.int).take (40:Int).toNat)∧ths.length≤i+1) ?core ?main
   case main =>
    intro core
    k_go
    refine r_I (by decide) ?_
    k_go
    refine b9 (fun z=>?_) (fun z=>?_)
    ·k_go
     refine ⟨x,S,t,L,G,y,As,ths,o,ks,cs,c / 7,rfl,il.al,by omega,fun H14 a' tt l5' na kp al2=>?_⟩
     exact core _ _ ⟨L,G,As++[a'],_,_,_,_,rfl,il.step kp al2 (fun d hd=>by
      simp only [xAv,xAj,xBv,or_false] at hd ⊢
      rcases hd with h | h | h | h | h | h | h
      ·exact .inl (.inl h)
      ·exact .inl (.inr (.inl h))
      ·exact .inl (.inr (.inr (.inl h)))
      ·exact .inl (.inr (.inr (.inr (.inl h))))
      ·exact .inl (.inr (.inr (.inr (.inr (.inl h)))))
      ·exact .inl (.inr (.inr (.inr (.inr (.inr h)))))
      ·exact .inr (by rw [h];exact na)),by rw [xAb,xAt];omega⟩
    ·k_go
     refine r_I (by decide) ?_
     k_go
     refine b9 (fun z=>?_) (fun z=>?_)
     ·k_go
      refine ⟨x,S,t,L,G,y,As,ths,o,ks,cs,c / 7,rfl,il.al,by omega,fun H14 ths' cs' lt' kp al2=>?_⟩
      exact core _ _ ⟨L,G,As,ths',o,ks,cs',rfl,il.step kp al2 (fun d hd=>.inl hd),by omega⟩
     ·k_go
      refine ⟨x,S,t,L,G,y,As,ths,o,ks,cs,c / 7,rfl,il.al,by omega,fun H14 L2 G2 o2 ks2 cs2 nL2 nG2 nLG kp al2=>?_⟩
      exact core _ _ ⟨L2,G2,As,ths,o2,ks2,cs2,rfl,il.step kp al2 (fun d hd=>by
       simp only [xAv] at hd ⊢
       rcases hd with h | h | h | h | h | h
       ·exact .inl (.inl h)
       ·exact .inl (.inr (.inl h))
       ·exact .inl (.inr (.inr (.inl h)))
       ·exact .inr (by rw [h];exact nL2)
       ·exact .inr (by rw [h];exact nG2)
       ·exact .inl (.inr (.inr (.inr (.inr (.inr h)))))),by omega⟩
   rintro _ H14 ⟨L,G,As,ths,o,ks,cs,rfl,il,lth⟩
   obtain ⟨kvs,hkv⟩:=il.al.pl
   have hS14:=il.al.st.hS
   obtain ⟨kv1,w1,w2,w3⟩:=il.al.hd.ex
   have ee:kv1=kvs:=by
    rcases w1 with w1 | ⟨ob,w1⟩
    ·rw [hkv] at w1;cases w1;rfl
    ·rw [hkv] at w1;cases w1
   subst ee
   k_go
   refine aD hS14 cW ?_
   refine gz hkv fun ob=>?_
   obtain ⟨stF,hbF,hdF⟩:=il.al.frz (ob:=ob) hkv
   have fz:upd H14 G (.frz ob (.dK kv1)) G=some (.frz ob (.dK kv1)):=ac
   have kF:Kept [G] H14 (upd H14 G (.frz ob (.dK kv1))):=.put (by simp)
   generalize upd H14 G (.frz ob (.dK kv1))=HF at stF hbF hdF fz kF
   refine bC gv (fun j σ H'=>∃ v7:Option V,σ=[some (.ref a),some (.ref x),some (.ref y),some (.ref S),some (.int c),some (.int (c / 7)),some (.bl true),v7,none]∧Same HF H') ⟨_,rfl,.refl _⟩ (fun j σ H' _ ⟨_,_,s⟩=>s _ _ fz) ?_ ?_
   ·rintro E3 j hE3 σ _ v H15 hj ⟨v7,rfl,s15⟩ ⟨rfl,hv⟩
    have hv2:(ks.map fun k:Nat=>V.int k)[j]?=some v:=by
     rw [← hv]
     have:(kv1.map fun p=>kV p.1)=ks.map fun k:Nat=>V.int k:=by
      rw [show (kv1.map fun p=>kV p.1)=(kv1.map (·.1)).map kV by rw [xCc];rfl,w2,xCc,xCc]
      rfl
     rw [this]
    rw [xAw,xA3] at hv2
    obtain ⟨k,hk,rfl⟩:=hv2
    have hko:=(il.al.ko k).mp (xAc hk)
    k_go
    refine ⟨x,S,t,L,G,As,ths,o,ks,cs,k,rfl,stF.same s15,hbF.same s15,il.al.hs,hdF.same s15,il.al.ko,hko,by have:=il.al.vl k;omega,fun H16 s16=>?_⟩
    k_go
    exact ⟨_,rfl,s15.trans s16⟩
   ·rintro σ H15 ⟨v7,rfl,s15⟩
    have nG0:=il.fr G (by simp)
    refine ⟨upd H15 G (.dK kv1),.inr ⟨G,ob,kv1,s15 _ _ fz,(fun o u z=>by have z':H G=some (HO.frz o u):=z;rw [nG0] at z';cases z'),rfl⟩,?_⟩
    have sZ:Same H14 (upd H15 G (.dK kv1)):=fun d u e=>by
     by_cases z:d=G
     ·rw [z,hkv] at e
      cases e
      rw [z]
      exact ac
     ·rw [ag z]
      exact s15 _ _ (kF _ _ e (by simp [z]))
    k_go
    exact ⟨_,_,_,_,L,G,As,ths,o,ks,cs,rfl,il.same sZ,lth⟩
  ·rintro σ H13 ⟨v4,v5,v6,v7,L,G,As,ths,o,ks,cs,rfl,il,lth⟩
   have l40:ths.length≤40:=by
    rw [xAn] at lth
    have:(40:Int).toNat=40:=rfl
    omega
   k_go
   refine iC (il.sm.seq hS) fun l2 H14 s14 n14 h14=>?_
   rw [fM (by decide)] at h14
   k_go
   refine cF (bn (xs:=(ns.map V.int).take (2:Int).toNat)) (fun B i ys HC=>HC B=some (.lst ys)∧H14 B=none∧Same H14 HC∧∃ us:List Int,ys=us.map V.int∧us.length≤i) ?_ ?_ ?_ ?_
   ·intro B hB0
    exact ⟨ac,hB0,am hB0 _,[],rfl,xAg _⟩
   ·rintro B i ys HC hi ⟨g1,g2,g3,us,rfl,g4⟩
    refine ⟨g1,big _ ?_,.of (g3 _ _ h14)⟩
    rw [xAa]
    rw [xAn] at hi
    have:(2:Int).toNat=2:=rfl
    omega
   ·rintro B i ys _ v HC hi ⟨g1,g2,g3,us,rfl,g4⟩ ⟨rfl,hv⟩
    obtain ⟨c,rfl⟩:∃ c,v=V.int c:=by
     have:=xBj (xAc hv)
     obtain ⟨c,_,e⟩:=xA2.mp this
     exact ⟨c,e.symm⟩
    k_go
    refine ⟨rfl,rfl,?_⟩
    k_go
    refine ⟨g1,?_⟩
    k_go
    refine r_I (by decide) ?_
    exact ⟨g1,ac,g2,g3.upd_new g2,us++[c % 997],by simp,by rw [xAb,xAt];omega⟩
   ·rintro B ys HC ⟨g1,g2,g3,us,rfl,g4⟩
    have al:=il.al.same (s14.trans g3)
    k_go
    refine ⟨B,us,rfl,.of g1,fun w hw=>?_⟩
    k_go
    refine r_I (by decide) ?_
    k_go
    have b1:=Int.emod_nonneg w (show (700:Int)≠0 by decide)
    have b2:=Int.emod_lt_of_pos w (show (0:Int)<700 by decide)
    obtain ⟨m,hm⟩:∃ m:Nat,1+w % 700=m:=⟨(1+w % 700).toNat,by omega⟩
    rw [hm]
    obtain ⟨M',m1,_⟩:=al.bs
    obtain ⟨dy',hy'⟩:=m1.ob
    k_go
    refine a7 hy' rfl ?_
    k_go
    refine ⟨y,M',[],rfl,m1,?_⟩
    k_go
    exact ⟨x,S,t,L,G,y,As,ths,o,ks,cs,m,rfl,al,by omega,by omega,by omega,fun H'=>q H'⟩
end
section
variable {P:Program} {w:World} {K:xFr} {mg:Str→Option Value} {base:Heap} {C O:Addr}
theorem all_mk {l:PySem.W.OpenLaw} {w:World} {K:xFr} {h:Heap} {mg:Str→Option Value} {fa cC cO fHI fUs fLa fSe fPu fMo fOI fMv fRe fIsn fNu fVa fAt fLd fPt fTe fWk fMm fCh fL:Addr} (X:K.In h) (G:h.Ns mainGlobals mg) (hfa:mg "law"=some (.ref fa))
  {odfHI anfHI:Option Addr} {slfHI:Array (Option Value)} {ocfHI kVfHI dcfHI pmfHI cdfHI ctfHI:Value}
  {odfUs anfUs:Option Addr} {slfUs:Array (Option Value)} {ocfUs kVfUs dcfUs pmfUs cdfUs ctfUs:Value}
  {odfLa anfLa:Option Addr} {slfLa:Array (Option Value)} {ocfLa kVfLa dcfLa pmfLa cdfLa ctfLa:Value}
  {odfSe anfSe:Option Addr} {slfSe:Array (Option Value)} {ocfSe kVfSe dcfSe pmfSe cdfSe ctfSe:Value}
  {odfPu anfPu:Option Addr} {slfPu:Array (Option Value)} {ocfPu kVfPu dcfPu pmfPu cdfPu ctfPu:Value}
  {odfMo anfMo:Option Addr} {slfMo:Array (Option Value)} {ocfMo kVfMo dcfMo pmfMo cdfMo ctfMo:Value}
  {odfOI anfOI:Option Addr} {slfOI:Array (Option Value)} {ocfOI kVfOI dcfOI pmfOI cdfOI ctfOI:Value}
  {odfMv anfMv:Option Addr} {slfMv:Array (Option Value)} {ocfMv kVfMv dcfMv pmfMv cdfMv ctfMv:Value}
  {odfRe anfRe:Option Addr} {slfRe:Array (Option Value)} {ocfRe kVfRe dcfRe pmfRe cdfRe ctfRe:Value}
  {odfIsn anfIsn:Option Addr} {slfIsn:Array (Option Value)} {ocfIsn kVfIsn dcfIsn pmfIsn cdfIsn ctfIsn:Value}
  {odfNu anfNu:Option Addr} {slfNu:Array (Option Value)} {ocfNu kVfNu dcfNu pmfNu cdfNu ctfNu:Value}
  {odfVa anfVa:Option Addr} {slfVa:Array (Option Value)} {ocfVa kVfVa dcfVa pmfVa cdfVa ctfVa:Value}
  {odfAt anfAt:Option Addr} {slfAt:Array (Option Value)} {ocfAt kVfAt dcfAt pmfAt cdfAt ctfAt:Value}
  {odfLd anfLd:Option Addr} {slfLd:Array (Option Value)} {ocfLd kVfLd dcfLd pmfLd cdfLd ctfLd:Value}
  {odfPt anfPt:Option Addr} {slfPt:Array (Option Value)} {ocfPt kVfPt dcfPt pmfPt cdfPt ctfPt:Value}
  {odfTe anfTe:Option Addr} {slfTe:Array (Option Value)} {ocfTe kVfTe dcfTe pmfTe cdfTe ctfTe:Value}
  {odfWk anfWk:Option Addr} {slfWk:Array (Option Value)} {ocfWk kVfWk dcfWk pmfWk cdfWk ctfWk:Value}
  {odfMm anfMm:Option Addr} {slfMm:Array (Option Value)} {ocfMm kVfMm dcfMm pmfMm cdfMm ctfMm:Value}
  {odfCh anfCh:Option Addr} {slfCh:Array (Option Value)} {ocfCh kVfCh dcfCh pmfCh cdfCh ctfCh:Value}
  {odfL anfL:Option Addr} {slfL:Array (Option Value)} {ocfL kVfL dcfL pmfL cdfL ctfL:Value}
  (mcC:PySem.W.nsIn K mainGlobals "Heap"=some (some (.ref cC)))
  (pgcC:PySem.W.plainGet K cC Str.empty=true)
  (hdcC:PySem.W.hasDictIn K cC=true)
  (pocC:PySem.W.plainOver K cC=true)
  (sacC:PySem.W.findIn K (.ref cC) "__setattr__"=some (some (.builtin "object.__setattr__")))
  (mkcC:PySem.W.makesIn K cC=true)
  (kccC:PySem.W.keepIn K (.ref cC)=true)
  (ncC_cells:PySem.W.findIn K (.ref cC) "cells"=some none)
  (mcO:PySem.W.nsIn K mainGlobals "OtherHalf"=some (some (.ref cO)))
  (pgcO:PySem.W.plainGet K cO Str.empty=true)
  (hdcO:PySem.W.hasDictIn K cO=true)
  (pocO:PySem.W.plainOver K cO=true)
  (sacO:PySem.W.findIn K (.ref cO) "__setattr__"=some (some (.builtin "object.__setattr__")))
  (mkcO:PySem.W.makesIn K cO=true)
  (kccO:PySem.W.keepIn K (.ref cO)=true)
  (ncO_left:PySem.W.findIn K (.ref cO) "left"=some none)
  (ncO_cells:PySem.W.findIn K (.ref cO) "cells"=some none)
  (ncO_places:PySem.W.findIn K (.ref cO) "places"=some none)
  (afHI:PySem.W.findIn K (.ref cC) "__init__"=some (some (.ref fHI)))
  (ifHI:PySem.W.isFn K (.ref fHI)=true)
  (lfHI:K.lookup fHI=some ⟨ocfHI,odfHI,.func (PySem.W.fnOf "__init__" "Heap.__init__" (defArgs bx) (defBody bx) (defScope bx) .none kVfHI dcfHI pmfHI anfHI cdfHI ctfHI),slfHI⟩)
  (cfHI:PySem.W.codeIn K cdfHI "Heap.__init__"=true)
  (kfHI:PySem.W.keepIn K (.ref fHI)=true)
  (afUs:PySem.W.findIn K (.ref cC) "used"=some (some (.ref fUs)))
  (ifUs:PySem.W.isFn K (.ref fUs)=true)
  (lfUs:K.lookup fUs=some ⟨ocfUs,odfUs,.func (PySem.W.fnOf "used" "Heap.used" (defArgs bu) (defBody bu) (defScope bu) .none kVfUs dcfUs pmfUs anfUs cdfUs ctfUs),slfUs⟩)
  (cfUs:PySem.W.codeIn K cdfUs "Heap.used"=true)
  (kfUs:PySem.W.keepIn K (.ref fUs)=true)
  (afLa:PySem.W.findIn K (.ref cC) "lay"=some (some (.ref fLa)))
  (ifLa:PySem.W.isFn K (.ref fLa)=true)
  (lfLa:K.lookup fLa=some ⟨ocfLa,odfLa,.func (PySem.W.fnOf "lay" "Heap.lay" (defArgs bF) (defBody bF) (defScope bF) .none kVfLa dcfLa pmfLa anfLa cdfLa ctfLa),slfLa⟩)
  (cfLa:PySem.W.codeIn K cdfLa "Heap.lay"=true)
  (kfLa:PySem.W.keepIn K (.ref fLa)=true)
  (afSe:PySem.W.findIn K (.ref cC) "seen"=some (some (.ref fSe)))
  (ifSe:PySem.W.isFn K (.ref fSe)=true)
  (lfSe:K.lookup fSe=some ⟨ocfSe,odfSe,.func (PySem.W.fnOf "seen" "Heap.seen" (defArgs bv) (defBody bv) (defScope bv) .none kVfSe dcfSe pmfSe anfSe cdfSe ctfSe),slfSe⟩)
  (cfSe:PySem.W.codeIn K cdfSe "Heap.seen"=true)
  (kfSe:PySem.W.keepIn K (.ref fSe)=true)
  (afPu:PySem.W.findIn K (.ref cC) "put"=some (some (.ref fPu)))
  (ifPu:PySem.W.isFn K (.ref fPu)=true)
  (lfPu:K.lookup fPu=some ⟨ocfPu,odfPu,.func (PySem.W.fnOf "put" "Heap.put" (defArgs bE) (defBody bE) (defScope bE) .none kVfPu dcfPu pmfPu anfPu cdfPu ctfPu),slfPu⟩)
  (cfPu:PySem.W.codeIn K cdfPu "Heap.put"=true)
  (kfPu:PySem.W.keepIn K (.ref fPu)=true)
  (afMo:PySem.W.findIn K (.ref cC) "move"=some (some (.ref fMo)))
  (ifMo:PySem.W.isFn K (.ref fMo)=true)
  (lfMo:K.lookup fMo=some ⟨ocfMo,odfMo,.func (PySem.W.fnOf "move" "Heap.move" (defArgs bw) (defBody bw) (defScope bw) .none kVfMo dcfMo pmfMo anfMo cdfMo ctfMo),slfMo⟩)
  (cfMo:PySem.W.codeIn K cdfMo "Heap.move"=true)
  (kfMo:PySem.W.keepIn K (.ref fMo)=true)
  (afOI:PySem.W.findIn K (.ref cO) "__init__"=some (some (.ref fOI)))
  (ifOI:PySem.W.isFn K (.ref fOI)=true)
  (lfOI:K.lookup fOI=some ⟨ocfOI,odfOI,.func (PySem.W.fnOf "__init__" "OtherHalf.__init__" (defArgs aP) (defBody aP) (defScope aP) .none kVfOI dcfOI pmfOI anfOI cdfOI ctfOI),slfOI⟩)
  (cfOI:PySem.W.codeIn K cdfOI "OtherHalf.__init__"=true)
  (kfOI:PySem.W.keepIn K (.ref fOI)=true)
  (afMv:PySem.W.findIn K (.ref cO) "moved_value"=some (some (.ref fMv)))
  (ifMv:PySem.W.isFn K (.ref fMv)=true)
  (lfMv:K.lookup fMv=some ⟨ocfMv,odfMv,.func (PySem.W.fnOf "moved_value" "OtherHalf.moved_value" (defArgs ar) (defBody ar) (defScope ar) .none kVfMv dcfMv pmfMv anfMv cdfMv ctfMv),slfMv⟩)
  (cfMv:PySem.W.codeIn K cdfMv "OtherHalf.moved_value"=true)
  (kfMv:PySem.W.keepIn K (.ref fMv)=true)
  (afRe:PySem.W.findIn K (.ref cO) "move_rest"=some (some (.ref fRe)))
  (ifRe:PySem.W.isFn K (.ref fRe)=true)
  (lfRe:K.lookup fRe=some ⟨ocfRe,odfRe,.func (PySem.W.fnOf "move_rest" "OtherHalf.move_rest" (defArgs ay) (defBody ay) (defScope ay) .none kVfRe dcfRe pmfRe anfRe cdfRe ctfRe),slfRe⟩)
  (cfRe:PySem.W.codeIn K cdfRe "OtherHalf.move_rest"=true)
  (kfRe:PySem.W.keepIn K (.ref fRe)=true)
  (afIsn:PySem.W.nsIn K mainGlobals "is_number"=some (some (.ref fIsn)))
  (lfIsn:K.lookup fIsn=some ⟨ocfIsn,odfIsn,.func (PySem.W.fnOf "is_number" "is_number" (defArgs sIsn) (defBody sIsn) (defScope sIsn) .none kVfIsn dcfIsn pmfIsn anfIsn cdfIsn ctfIsn),slfIsn⟩)
  (cfIsn:PySem.W.codeIn K cdfIsn "is_number"=true)
  (kfIsn:PySem.W.keepIn K (.ref fIsn)=true)
  (afNu:PySem.W.nsIn K mainGlobals "_law_number"=some (some (.ref fNu)))
  (lfNu:K.lookup fNu=some ⟨ocfNu,odfNu,.func (PySem.W.fnOf "_law_number" "_law_number" (defArgs sLnumber) (defBody sLnumber) (defScope sLnumber) .none kVfNu dcfNu pmfNu anfNu cdfNu ctfNu),slfNu⟩)
  (cfNu:PySem.W.codeIn K cdfNu "_law_number"=true)
  (kfNu:PySem.W.keepIn K (.ref fNu)=true)
  (afVa:PySem.W.nsIn K mainGlobals "_law_value"=some (some (.ref fVa)))
  (lfVa:K.lookup fVa=some ⟨ocfVa,odfVa,.func (PySem.W.fnOf "_law_value" "_law_value" (defArgs sLvalue) (defBody sLvalue) (defScope sLvalue) .none kVfVa dcfVa pmfVa anfVa cdfVa ctfVa),slfVa⟩)
  (cfVa:PySem.W.codeIn K cdfVa "_law_value"=true)
  (kfVa:PySem.W.keepIn K (.ref fVa)=true)
  (afAt:PySem.W.nsIn K mainGlobals "_law_at"=some (some (.ref fAt)))
  (lfAt:K.lookup fAt=some ⟨ocfAt,odfAt,.func (PySem.W.fnOf "_law_at" "_law_at" (defArgs sLat) (defBody sLat) (defScope sLat) .none kVfAt dcfAt pmfAt anfAt cdfAt ctfAt),slfAt⟩)
  (cfAt:PySem.W.codeIn K cdfAt "_law_at"=true)
  (kfAt:PySem.W.keepIn K (.ref fAt)=true)
  (afLd:PySem.W.nsIn K mainGlobals "_law_laid"=some (some (.ref fLd)))
  (lfLd:K.lookup fLd=some ⟨ocfLd,odfLd,.func (PySem.W.fnOf "_law_laid" "_law_laid" (defArgs sLlaid) (defBody sLlaid) (defScope sLlaid) .none kVfLd dcfLd pmfLd anfLd cdfLd ctfLd),slfLd⟩)
  (cfLd:PySem.W.codeIn K cdfLd "_law_laid"=true)
  (kfLd:PySem.W.keepIn K (.ref fLd)=true)
  (afPt:PySem.W.nsIn K mainGlobals "_law_put"=some (some (.ref fPt)))
  (lfPt:K.lookup fPt=some ⟨ocfPt,odfPt,.func (PySem.W.fnOf "_law_put" "_law_put" (defArgs sLput) (defBody sLput) (defScope sLput) .none kVfPt dcfPt pmfPt anfPt cdfPt ctfPt),slfPt⟩)
  (cfPt:PySem.W.codeIn K cdfPt "_law_put"=true)
  (kfPt:PySem.W.keepIn K (.ref fPt)=true)
  (afTe:PySem.W.nsIn K mainGlobals "_law_tells"=some (some (.ref fTe)))
  (lfTe:K.lookup fTe=some ⟨ocfTe,odfTe,.func (PySem.W.fnOf "_law_tells" "_law_tells" (defArgs sLtells) (defBody sLtells) (defScope sLtells) .none kVfTe dcfTe pmfTe anfTe cdfTe ctfTe),slfTe⟩)
  (cfTe:PySem.W.codeIn K cdfTe "_law_tells"=true)
  (kfTe:PySem.W.keepIn K (.ref fTe)=true)
  (afWk:PySem.W.nsIn K mainGlobals "_law_walked"=some (some (.ref fWk)))
  (lfWk:K.lookup fWk=some ⟨ocfWk,odfWk,.func (PySem.W.fnOf "_law_walked" "_law_walked" (defArgs sLwalked) (defBody sLwalked) (defScope sLwalked) .none kVfWk dcfWk pmfWk anfWk cdfWk ctfWk),slfWk⟩)
  (cfWk:PySem.W.codeIn K cdfWk "_law_walked"=true)
  (kfWk:PySem.W.keepIn K (.ref fWk)=true)
  (afMm:PySem.W.nsIn K mainGlobals "_law_moved"=some (some (.ref fMm)))
  (lfMm:K.lookup fMm=some ⟨ocfMm,odfMm,.func (PySem.W.fnOf "_law_moved" "_law_moved" (defArgs sLmoved) (defBody sLmoved) (defScope sLmoved) .none kVfMm dcfMm pmfMm anfMm cdfMm ctfMm),slfMm⟩)
  (cfMm:PySem.W.codeIn K cdfMm "_law_moved"=true)
  (kfMm:PySem.W.keepIn K (.ref fMm)=true)
  (afCh:PySem.W.nsIn K mainGlobals "_law_chained"=some (some (.ref fCh)))
  (lfCh:K.lookup fCh=some ⟨ocfCh,odfCh,.func (PySem.W.fnOf "_law_chained" "_law_chained" (defArgs sLchained) (defBody sLchained) (defScope sLchained) .none kVfCh dcfCh pmfCh anfCh cdfCh ctfCh),slfCh⟩)
  (cfCh:PySem.W.codeIn K cdfCh "_law_chained"=true)
  (kfCh:PySem.W.keepIn K (.ref fCh)=true)
  (afL:PySem.W.nsIn K mainGlobals "law"=some (some (.ref fL)))
  (lfL:K.lookup fL=some ⟨ocfL,odfL,.func (PySem.W.fnOf "law" "law" (defArgs slaw) (defBody slaw) (defScope slaw) .none kVfL dcfL pmfL anfL cdfL ctfL),slfL⟩)
  (cfL:PySem.W.codeIn K cdfL "law"=true)
  (kfL:PySem.W.keepIn K (.ref fL)=true)
  (zlen:PySem.W.nsIn K mainGlobals "len"=some none)
  (zlist:PySem.W.nsIn K mainGlobals "list"=some none)
  (ztuple:PySem.W.nsIn K mainGlobals "tuple"=some none)
  (zsorted:PySem.W.nsIn K mainGlobals "sorted"=some none)
  (zisinstance:PySem.W.nsIn K mainGlobals "isinstance"=some none)
  (zrange:PySem.W.nsIn K mainGlobals "range"=some none)
  (zint:PySem.W.nsIn K mainGlobals "int"=some none)
  (zzip:PySem.W.nsIn K mainGlobals "zip"=some none)
  (zsum:PySem.W.nsIn K mainGlobals "sum"=some none)
  (zbool:PySem.W.nsIn K mainGlobals "bool"=some none)
  (kTT:PySem.W.kitOne K (.type "tuple") (.type "tuple")=some true)
  (kTI:PySem.W.kitOne K (.type "tuple") (.type "int")=some false)
  (kIT:PySem.W.kitOne K (.type "int") (.type "tuple")=some false)
  (kII:PySem.W.kitOne K (.type "int") (.type "int")=some true)
  (kIB:PySem.W.kitOne K (.type "int") (.type "bool")=some false)
  :∃ fd:FuncData,(∀ (s:Shared) (v:Value),BindsTo s fd ⟨[v],[]⟩ [("_law_script",v)])∧∀ base:Heap,K.In base→base.Ns mainGlobals mg→FnOk l.prog w K mg base CX0 6 fa fd ["_law_script"] (spLaw K):=by
 have e:=hfa.symm.trans (PySem.W.mg_of X G afL)
 cases e
 have ylen:=PySem.W.mg_none_of X G zlen
 have ylist:=PySem.W.mg_none_of X G zlist
 have ytuple:=PySem.W.mg_none_of X G ztuple
 have ysorted:=PySem.W.mg_none_of X G zsorted
 have yisinstance:=PySem.W.mg_none_of X G zisinstance
 have yrange:=PySem.W.mg_none_of X G zrange
 have yint:=PySem.W.mg_none_of X G zint
 have yzip:=PySem.W.mg_none_of X G zzip
 have ysum:=PySem.W.mg_none_of X G zsum
 have ybool:=PySem.W.mg_none_of X G zbool
 have gC:=PySem.W.mg_of X G mcC
 have gO:=PySem.W.mg_of X G mcO
 have GfHI:=aN (st:=bx) lfHI cfHI kfHI
 have BfHI:=GfHI.binds (ps:=["self"]) fun _ _ _ _ _ _ us hl=>by obtain ⟨_,rfl⟩:=len1 hl;exact rfl
 have GfUs:=aN (st:=bu) lfUs cfUs kfUs
 have BfUs:=GfUs.binds (ps:=["self"]) fun _ _ _ _ _ _ us hl=>by obtain ⟨_,rfl⟩:=len1 hl;exact rfl
 have GfLa:=aN (st:=bF) lfLa cfLa kfLa
 have BfLa:=GfLa.binds (ps:=["self","kind","word","values"]) fun _ _ _ _ _ _ us hl=>by obtain ⟨_,_,_,_,rfl⟩:=len4 hl;exact rfl
 have GfSe:=aN (st:=bv) lfSe cfSe kfSe
 have BfSe:=GfSe.binds (ps:=["self","value"]) fun _ _ _ _ _ _ us hl=>by obtain ⟨_,_,rfl⟩:=len2 hl;exact rfl
 have GfPu:=aN (st:=bE) lfPu cfPu kfPu
 have BfPu:=GfPu.binds (ps:=["self","value","inside"]) fun _ _ _ _ _ _ us hl=>by obtain ⟨_,_,_,rfl⟩:=len3 hl;exact rfl
 have GfMo:=aN (st:=bw) lfMo cfMo kfMo
 have BfMo:=GfMo.binds (ps:=["self","roots"]) fun _ _ _ _ _ _ us hl=>by obtain ⟨_,_,rfl⟩:=len2 hl;exact rfl
 have GfOI:=aN (st:=aP) lfOI cfOI kfOI
 have BfOI:=GfOI.binds (ps:=["self","left"]) fun _ _ _ _ _ _ us hl=>by obtain ⟨_,_,rfl⟩:=len2 hl;exact rfl
 have GfMv:=aN (st:=ar) lfMv cfMv kfMv
 have BfMv:=GfMv.binds (ps:=["self","value"]) fun _ _ _ _ _ _ us hl=>by obtain ⟨_,_,rfl⟩:=len2 hl;exact rfl
 have GfRe:=aN (st:=ay) lfRe cfRe kfRe
 have BfRe:=GfRe.binds (ps:=["self"]) fun _ _ _ _ _ _ us hl=>by obtain ⟨_,rfl⟩:=len1 hl;exact rfl
 have GfIsn:=aN (st:=sIsn) lfIsn cfIsn kfIsn
 have BfIsn:=GfIsn.binds (ps:=["thing"]) fun _ _ _ _ _ _ us hl=>by obtain ⟨_,rfl⟩:=len1 hl;exact rfl
 have FIsn:Dn K mg "is_number" sIsn ["thing"]:=⟨fIsn,_,GfIsn,BfIsn,PySem.W.mg_of X G afIsn⟩
 have GfNu:=aN (st:=sLnumber) lfNu cfNu kfNu
 have BfNu:=GfNu.binds (ps:=["_law_number_here"]) fun _ _ _ _ _ _ us hl=>by obtain ⟨_,rfl⟩:=len1 hl;exact rfl
 have FNu:Dn K mg "_law_number" sLnumber ["_law_number_here"]:=⟨fNu,_,GfNu,BfNu,PySem.W.mg_of X G afNu⟩
 have GfVa:=aN (st:=sLvalue) lfVa cfVa kfVa
 have BfVa:=GfVa.binds (ps:=["_law_state","_law_number_here"]) fun _ _ _ _ _ _ us hl=>by obtain ⟨_,_,rfl⟩:=len2 hl;exact rfl
 have FVa:Dn K mg "_law_value" sLvalue ["_law_state","_law_number_here"]:=⟨fVa,_,GfVa,BfVa,PySem.W.mg_of X G afVa⟩
 have GfAt:=aN (st:=sLat) lfAt cfAt kfAt
 have BfAt:=GfAt.binds (ps:=["_law_state","_law_note"]) fun _ _ _ _ _ _ us hl=>by obtain ⟨_,_,rfl⟩:=len2 hl;exact rfl
 have FAt:Dn K mg "_law_at" sLat ["_law_state","_law_note"]:=⟨fAt,_,GfAt,BfAt,PySem.W.mg_of X G afAt⟩
 have GfLd:=aN (st:=sLlaid) lfLd cfLd kfLd
 have BfLd:=GfLd.binds (ps:=["_law_heap","_law_state","_law_number_here"]) fun _ _ _ _ _ _ us hl=>by obtain ⟨_,_,_,rfl⟩:=len3 hl;exact rfl
 have FLd:Dn K mg "_law_laid" sLlaid ["_law_heap","_law_state","_law_number_here"]:=⟨fLd,_,GfLd,BfLd,PySem.W.mg_of X G afLd⟩
 have GfPt:=aN (st:=sLput) lfPt cfPt kfPt
 have BfPt:=GfPt.binds (ps:=["_law_heap","_law_state","_law_number_here"]) fun _ _ _ _ _ _ us hl=>by obtain ⟨_,_,_,rfl⟩:=len3 hl;exact rfl
 have FPt:Dn K mg "_law_put" sLput ["_law_heap","_law_state","_law_number_here"]:=⟨fPt,_,GfPt,BfPt,PySem.W.mg_of X G afPt⟩
 have GfTe:=aN (st:=sLtells) lfTe cfTe kfTe
 have BfTe:=GfTe.binds (ps:=["_law_heap","_law_state","_law_one"]) fun _ _ _ _ _ _ us hl=>by obtain ⟨_,_,_,rfl⟩:=len3 hl;exact rfl
 have FTe:Dn K mg "_law_tells" sLtells ["_law_heap","_law_state","_law_one"]:=⟨fTe,_,GfTe,BfTe,PySem.W.mg_of X G afTe⟩
 have GfWk:=aN (st:=sLwalked) lfWk cfWk kfWk
 have BfWk:=GfWk.binds (ps:=["_law_heap","_law_state","_law_notes","_law_values"]) fun _ _ _ _ _ _ us hl=>by obtain ⟨_,_,_,_,rfl⟩:=len4 hl;exact rfl
 have FWk:Dn K mg "_law_walked" sLwalked ["_law_heap","_law_state","_law_notes","_law_values"]:=⟨fWk,_,GfWk,BfWk,PySem.W.mg_of X G afWk⟩
 have GfMm:=aN (st:=sLmoved) lfMm cfMm kfMm
 have BfMm:=GfMm.binds (ps:=["_law_heap","_law_state","_law_number_here"]) fun _ _ _ _ _ _ us hl=>by obtain ⟨_,_,_,rfl⟩:=len3 hl;exact rfl
 have FMm:Dn K mg "_law_moved" sLmoved ["_law_heap","_law_state","_law_number_here"]:=⟨fMm,_,GfMm,BfMm,PySem.W.mg_of X G afMm⟩
 have GfCh:=aN (st:=sLchained) lfCh cfCh kfCh
 have BfCh:=GfCh.binds (ps:=["_law_heap","_law_state","_law_many"]) fun _ _ _ _ _ _ us hl=>by obtain ⟨_,_,_,rfl⟩:=len3 hl;exact rfl
 have FCh:Dn K mg "_law_chained" sLchained ["_law_heap","_law_state","_law_many"]:=⟨fCh,_,GfCh,BfCh,PySem.W.mg_of X G afCh⟩
 have GfL:=aN (st:=slaw) lfL cfL kfL
 have BfL:=GfL.binds (ps:=["_law_script"]) fun _ _ _ _ _ _ us hl=>by obtain ⟨_,rfl⟩:=len1 hl;exact rfl
 have hC:Cs K cC ["cells"]:=⟨⟨pgcC,hdcC,pocC,sacC⟩,fun f hf=>by rw [xAm.mp hf];exact ncC_cells⟩
 have hO:Cs K cO ["left","cells","places"]:=⟨⟨pgcO,hdcO,pocO,sacO⟩,fun f hf=>by
  simp only [xAv,xBv,or_false] at hf
  rcases hf with h | h | h
  ·rw [h];exact ncO_left
  ·rw [h];exact ncO_cells
  ·rw [h];exact ncO_places⟩
 have T:Txt K mg cC cO:=⟨ylen,ylist,ytuple,ysorted,yisinstance,yrange,yint,yzip,ysum,ybool,kTT,kTI,kIT,kII,kIB,hC,hO⟩
 exact ⟨PySem.W.fnOf "law" "law" (defArgs slaw) (defBody slaw) (defScope slaw) .none kVfL dcfL pmfL anfL cdfL ctfL,fun s v=>.of_eq rfl,fun base _ _=>by
  have cI:=ng (P:=l.prog) (w:=w) (base:=base) FIsn T
  have cUs:Mal l.prog w K mg base cC "used" 1 ["self"] (spUsed cC):=⟨hC.c,fUs,_,⟨afUs,ifUs,kfUs⟩,kC (P:=l.prog) (w:=w) (base:=base) ⟨GfUs,BfUs⟩ T⟩
  have cLa:Mal l.prog w K mg base cC "lay" 1 ["self","kind","word","values"] (spLay cC):=⟨hC.c,fLa,_,⟨afLa,ifLa,kfLa⟩,m9 (P:=l.prog) (w:=w) (base:=base) ⟨GfLa,BfLa⟩ T⟩
  have cSe:Mal l.prog w K mg base cC "seen" 1 ["self","value"] (spSeen cC):=⟨hC.c,fSe,_,⟨afSe,ifSe,kfSe⟩,kD (P:=l.prog) (w:=w) (base:=base) ⟨GfSe,BfSe⟩ T⟩
  have cPu:Mal l.prog w K mg base cC "put" 1 ["self","value","inside"] (spPut cC):=⟨hC.c,fPu,_,⟨afPu,ifPu,kfPu⟩,m7 (P:=l.prog) (w:=w) (base:=base) ⟨GfPu,BfPu⟩ T⟩
  have cMv:Mal l.prog w K mg base cO "moved_value" 2 ["self","value"] (spMv cO):=⟨hO.c,fMv,_,⟨afMv,ifMv,kfMv⟩,oV ⟨GfMv,BfMv⟩ T cI⟩
  have cRe:Mal l.prog w K mg base cO "move_rest" 3 ["self"] (spRest cO):=⟨hO.c,fRe,_,⟨afRe,ifRe,kfRe⟩,kH ⟨GfRe,BfRe⟩ T cMv⟩
  have iO:Ini l.prog w K mg base cO "OtherHalf" 1 ["self","left"] (spOI cO):=⟨gO,fOI,_,⟨mkcO,afOI,ifOI,kccO⟩,oU (P:=l.prog) (w:=w) (base:=base) ⟨GfOI,BfOI⟩ T⟩
  have iH:Ini l.prog w K mg base cC "Heap" 1 ["self"] (spHI cC):=⟨gC,fHI,_,⟨mkcC,afHI,ifHI,kccC⟩,oW (P:=l.prog) (w:=w) (base:=base) ⟨GfHI,BfHI⟩ T⟩
  have cMo:Mal l.prog w K mg base cC "move" 4 ["self","roots"] (spMove cC):=⟨hC.c,fMo,_,⟨afMo,ifMo,kfMo⟩,kJ ⟨GfMo,BfMo⟩ T cMv cRe iO⟩
  have cNu:=m8 (P:=l.prog) (w:=w) (base:=base) FNu T
  have cAt:=oX (P:=l.prog) (w:=w) (base:=base) FAt T
  have cVa:=m6 FVa T cNu
  have cTe:=ja FTe T cAt cSe
  have cWk:=oT FWk T cSe
  have cLd:=kK FLd T cVa cAt cUs cLa
  have cPt:=kI FPt T cVa cAt cUs cPu
  have cMm:=jb FMm T cVa cAt cUs cMo cWk
  have cCh:=nh FCh T cAt cUs cLa cMo cWk
  exact nc GfL T iH cUs cMo cLd cPt cMm cTe cCh⟩
theorem walk {l:PySem.W.OpenLaw} {q:Program} {loose:List Str} {XP:(Str→Option Value)→Heap→Prop} {YP:World→Heap→Prop} {d:DefRec} {K:Params→xFr} (hn:l.most=some 63) (hdf:d.params.defaults=[])
  (hY:∀ (w:World) (h:Heap),YP w h→(K w.params).In h)
  (F:∀ (w:World) (mg:Str→Option Value) (fa:Addr) (h:Heap),(K w.params).In h→h.Ns mainGlobals mg→mg d.name=some (.ref fa) →
   ∃ fd:FuncData,(∀ (s:Shared) (u:Value),BindsTo s fd ⟨[u],[]⟩ [("_law_script",u)])∧∀ base:Heap,(K w.params).In base→base.Ns mainGlobals mg→FnOk l.prog w (K w.params) mg base CX0 6 fa fd ["_law_script"] (spLaw (K w.params))) :
  PySem.W.WalkO q loose XP YP l.row.toRowW d [] (fun f vs=>PySem.call f vs) :=
 L2.walk_of (n:=63) (k:=6) (x:="_law_script") (CX:=fun _=>CX0) (sp:=fun w=>spLaw (K w.params)) hn (by decide) hdf ⟨rfl,by decide,by decide,rfl⟩ hY F (fun _ _ a ns hl _ hS=>⟨a,ns,rfl,hS,fun _=>rfl⟩) fun _ _ _ _ _ z=>z
end
end K71
open PySem PySem.W PyProof.Rows
set_option maxRecDepth 100000 in
set_option maxHeartbeats 0 in
theorem PySem.Challenge.cw_spacewright_k71_things_moved_holds : PySem.Challenge.rw_spacewright_k71_things_moved.Holds := by
  w_on; o_law; k_head; (case hw => w_witness2)
  k_fill
  refine K71.walk (l := PySem.Challenge.rw_spacewright_k71_things_moved) rfl rfl (fun w h Y => PySem.W.kIn_of Y) ?F
  case F =>
    intro w mg fa h KX G hmg
    refine' K71.all_mk KX G hmg ?mcC ?pgcC ?hdcC ?pocC ?sacC ?mkcC ?kccC ?ncC_cells ?mcO ?pgcO ?hdcO ?pocO ?sacO ?mkcO ?kccO ?ncO_left ?ncO_cells ?ncO_places ?afHI ?ifHI ?lfHI ?cfHI ?kfHI ?afUs ?ifUs ?lfUs ?cfUs ?kfUs ?afLa ?ifLa ?lfLa ?cfLa ?kfLa ?afSe ?ifSe ?lfSe ?cfSe ?kfSe ?afPu ?ifPu ?lfPu ?cfPu ?kfPu ?afMo ?ifMo ?lfMo ?cfMo ?kfMo ?afOI ?ifOI ?lfOI ?cfOI ?kfOI ?afMv ?ifMv ?lfMv ?cfMv ?kfMv ?afRe ?ifRe ?lfRe ?cfRe ?kfRe ?afIsn ?lfIsn ?cfIsn ?kfIsn ?afNu ?lfNu ?cfNu ?kfNu ?afVa ?lfVa ?cfVa ?kfVa ?afAt ?lfAt ?cfAt ?kfAt ?afLd ?lfLd ?cfLd ?kfLd ?afPt ?lfPt ?cfPt ?kfPt ?afTe ?lfTe ?cfTe ?kfTe ?afWk ?lfWk ?cfWk ?kfWk ?afMm ?lfMm ?cfMm ?kfMm ?afCh ?lfCh ?cfCh ?kfCh ?afL ?lfL ?cfL ?kfL ?zlen ?zlist ?ztuple ?zsorted ?zisinstance ?zrange ?zint ?zzip ?zsum ?zbool ?kTT ?kTI ?kIT ?kII ?kIB
    (case mcC => k_is)
    (case pgcC => k_is)
    (case hdcC => k_is)
    (case pocC => k_is)
    (case sacC => k_is)
    (case mkcC => k_is)
    (case kccC => k_is)
    (case ncC_cells => k_is)
    (case mcO => k_is)
    (case pgcO => k_is)
    (case hdcO => k_is)
    (case pocO => k_is)
    (case sacO => k_is)
    (case mkcO => k_is)
    (case kccO => k_is)
    (case ncO_left => k_is)
    (case ncO_cells => k_is)
    (case ncO_places => k_is)
    (case afHI => k_is)
    (case ifHI => k_is)
    (case lfHI => k_is)
    (case cfHI => k_is)
    (case kfHI => k_is)
    (case afUs => k_is)
    (case ifUs => k_is)
    (case lfUs => k_is)
    (case cfUs => k_is)
    (case kfUs => k_is)
    (case afLa => k_is)
    (case ifLa => k_is)
    (case lfLa => k_is)
    (case cfLa => k_is)
    (case kfLa => k_is)
    (case afSe => k_is)
    (case ifSe => k_is)
    (case lfSe => k_is)
    (case cfSe => k_is)
    (case kfSe => k_is)
    (case afPu => k_is)
    (case ifPu => k_is)
    (case lfPu => k_is)
    (case cfPu => k_is)
    (case kfPu => k_is)
    (case afMo => k_is)
    (case ifMo => k_is)
    (case lfMo => k_is)
    (case cfMo => k_is)
    (case kfMo => k_is)
    (case afOI => k_is)
    (case ifOI => k_is)
    (case lfOI => k_is)
    (case cfOI => k_is)
    (case kfOI => k_is)
    (case afMv => k_is)
    (case ifMv => k_is)
    (case lfMv => k_is)
    (case cfMv => k_is)
    (case kfMv => k_is)
    (case afRe => k_is)
    (case ifRe => k_is)
    (case lfRe => k_is)
    (case cfRe => k_is)
    (case kfRe => k_is)
    (case afIsn => k_is)
    (case lfIsn => k_is)
    (case cfIsn => k_is)
    (case kfIsn => k_is)
    (case afNu => k_is)
    (case lfNu => k_is)
    (case cfNu => k_is)
    (case kfNu => k_is)
    (case afVa => k_is)
    (case lfVa => k_is)
    (case cfVa => k_is)
    (case kfVa => k_is)
    (case afAt => k_is)
    (case lfAt => k_is)
    (case cfAt => k_is)
    (case kfAt => k_is)
    (case afLd => k_is)
    (case lfLd => k_is)
    (case cfLd => k_is)
    (case kfLd => k_is)
    (case afPt => k_is)
    (case lfPt => k_is)
    (case cfPt => k_is)
    (case kfPt => k_is)
    (case afTe => k_is)
    (case lfTe => k_is)
    (case cfTe => k_is)
    (case kfTe => k_is)
    (case afWk => k_is)
    (case lfWk => k_is)
    (case cfWk => k_is)
    (case kfWk => k_is)
    (case afMm => k_is)
    (case lfMm => k_is)
    (case cfMm => k_is)
    (case kfMm => k_is)
    (case afCh => k_is)
    (case lfCh => k_is)
    (case cfCh => k_is)
    (case kfCh => k_is)
    (case afL => k_is)
    (case lfL => k_is)
    (case cfL => k_is)
    (case kfL => k_is)
    (case zlen => k_is)
    (case zlist => k_is)
    (case ztuple => k_is)
    (case zsorted => k_is)
    (case zisinstance => k_is)
    (case zrange => k_is)
    (case zint => k_is)
    (case zzip => k_is)
    (case zsum => k_is)
    (case zbool => k_is)
    (case kTT => kit_is)
    (case kTI => kit_is)
    (case kIT => kit_is)
    (case kII => kit_is)
    (case kIB => kit_is)
#print axioms PySem.Challenge.cw_spacewright_k71_things_moved_holds
