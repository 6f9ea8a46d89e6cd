import PyProof.Rows.All
import Wide.All
import OpenK.AllK
import Wide.FinOn
import PyProof.EqAt
import PyProof.EqKinds
import PyProof.NeKinds
import PyProof.TupleCall
import PyProof.Rows.SortWalk
import KE.KDictSum
import PyProof.SetKind
import PyProof.DictKinds
import PyProof.MeetsSeq2
import PyProof.SetRoads
import PyProof.SetNew
import PyProof.Rows.SetFrom
import KE.KDictList
import PyProof.EnumFor
import PyProof.EnumStmt
import PyProof.EnumMake
import KE.KRevIter
import PyProof.Draws
import PyProof.CollectIter
import PyProof.TupleOfGen
import PyProof.TupleOps
import KE.KEqDict
import PyProof.WalkInts
import PySem.Challenge.RW_spacewright_k54_whole_slots_keep_what_is
set_option Elab.async false
set_option linter.all false
set_option maxRecDepth 100000
set_option maxHeartbeats 4000000
noncomputable section
abbrev xFr:=PySem.W.Frag
theorem xAa:type_of%@List.length_map:=@List.length_map
theorem xAb:type_of%@List.length_append:=@List.length_append
theorem xAc:type_of%@List.mem_of_getElem?:=@List.mem_of_getElem?
theorem xAd:type_of%@PySem.wpAny_bind:=@PySem.wpAny_bind
theorem xAe:type_of%@PySem.wpAny_pure:=@PySem.wpAny_pure
theorem xAf:type_of%@PySem.Heap.get?_push_of_some:=@PySem.Heap.get?_push_of_some
theorem xAg:type_of%@Nat.le_refl:=@Nat.le_refl
theorem xAh:type_of%@Array.length_toList:=@Array.length_toList
theorem xAi:type_of%@List.map_append:=@List.map_append
theorem xAj:type_of%@List.mem_append:=@List.mem_append
theorem xAk:type_of%@List.getElem?_eq_getElem:=@List.getElem?_eq_getElem
theorem xAl:type_of%@PySem.Heap.get?_push_size:=@PySem.Heap.get?_push_size
theorem xAm:type_of%@List.mem_singleton:=@List.mem_singleton
theorem xAn:type_of%@List.length_take:=@List.length_take
theorem xAo:type_of%@List.length_cons:=@List.length_cons
theorem xAp:type_of%@List.size_toArray:=@List.size_toArray
theorem xAq:type_of%@List.getElem?_eq_some_iff:=@List.getElem?_eq_some_iff
theorem xAr:type_of%@List.mem_cons_self:=@List.mem_cons_self
theorem xAs:type_of%@List.mem_cons_of_mem:=@List.mem_cons_of_mem
theorem xAt:type_of%@List.length_singleton:=@List.length_singleton
theorem xAu:type_of%@List.take_length:=@List.take_length
theorem xAv:type_of%@List.mem_cons:=@List.mem_cons
theorem xAw:type_of%@List.getElem?_map:=@List.getElem?_map
theorem xAx:type_of%@List.append_assoc:=@List.append_assoc
theorem xAy:type_of%@Bool.false_ne_true:=@Bool.false_ne_true
theorem xAz:type_of%@Bool.false_eq_true:=@Bool.false_eq_true
theorem xA0:type_of%@Nat.ne_of_lt:=@Nat.ne_of_lt
theorem xA1:type_of%@PySem.Heap.lt_size:=@PySem.Heap.lt_size
theorem xA2:type_of%@List.mem_map:=@List.mem_map
theorem xA3:type_of%@Option.map_eq_some_iff:=@Option.map_eq_some_iff
theorem xA4:type_of%@List.mem_flatMap:=@List.mem_flatMap
theorem xA7:type_of%@PySem.Heap.get?_update_self:=@PySem.Heap.get?_update_self
theorem xA8:type_of%@Array.getElem?_toList:=@Array.getElem?_toList
theorem xA9:type_of%@List.getElem?_eq_none:=@List.getElem?_eq_none
theorem xBa:type_of%@Int.emod_nonneg:=@Int.emod_nonneg
theorem xBb:type_of%@Int.emod_lt_of_pos:=@Int.emod_lt_of_pos
theorem xBc:type_of%@Nat.lt_of_lt_of_le:=@Nat.lt_of_lt_of_le
theorem xBd:type_of%@decide_eq_true:=@decide_eq_true
theorem xBe:type_of%@of_decide_eq_true:=@of_decide_eq_true
theorem xBf:type_of%@of_decide_eq_false:=@of_decide_eq_false
theorem xBg:type_of%@List.foldl_append:=@List.foldl_append
theorem xBh:type_of%@List.flatMap_cons:=@List.flatMap_cons
theorem xBj:type_of%@List.mem_of_mem_take:=@List.mem_of_mem_take
theorem xBk:type_of%@PySem.wpAny_isInstance:=@PySem.wpAny_isInstance
theorem xBl:type_of%@PySem.wpAny_newObj_type:=@PySem.wpAny_newObj_type
theorem xBn:type_of%@Nat.zero_le:=@Nat.zero_le
theorem xBo:type_of%@Nat.lt_irrefl:=@Nat.lt_irrefl
theorem xBq:type_of%@List.nodup_append:=@List.nodup_append
theorem xBr:type_of%@List.mem_filter:=@List.mem_filter
theorem xBs:type_of%@List.map_cons:=@List.map_cons
theorem xBt:type_of%@List.mem_append_right:=@List.mem_append_right
theorem xBu:type_of%@Int.le_refl:=@Int.le_refl
theorem xBv:type_of%@List.not_mem_nil:=@List.not_mem_nil
theorem xBw:type_of%@List.mem_append_left:=@List.mem_append_left
theorem xBx:type_of%@List.take_append_drop:=@List.take_append_drop
theorem xBy:type_of%@List.foldl_cons:=@List.foldl_cons
theorem xBz:type_of%@List.getD_eq_getElem?_getD:=@List.getD_eq_getElem?_getD
theorem xB0:type_of%@List.append_nil:=@List.append_nil
theorem xB1:type_of%@Array.toList_append:=@Array.toList_append
theorem xB2:type_of%@List.drop_eq_getElem_cons:=@List.drop_eq_getElem_cons
theorem xB3:type_of%@Option.some.inj:=@Option.some.inj
theorem xB4:type_of%@List.find?_cons:=@List.find?_cons
theorem xB5:type_of%@PySem.Heap.SameBut.update:=@PySem.Heap.SameBut.update
theorem xB6:type_of%@List.extract_eq_drop_take:=@List.extract_eq_drop_take
theorem xB7:type_of%@Array.getElem?_eq_some_iff:=@Array.getElem?_eq_some_iff
theorem xB8:type_of%@List.mem_iff_getElem?:=@List.mem_iff_getElem?
theorem xB9:type_of%@List.sum_cons:=@List.sum_cons
theorem xCa:type_of%@Nat.lt_succ_of_lt:=@Nat.lt_succ_of_lt
theorem xCb:type_of%@List.nodup_cons:=@List.nodup_cons
theorem xCc:type_of%@List.map_map:=@List.map_map
theorem xCd:type_of%@PyProof.Rows.wpS_bind:=@PyProof.Rows.wpS_bind
theorem xCe:type_of%@PyProof.Rows.wpS_pure:=@PyProof.Rows.wpS_pure
theorem xCf:type_of%@if_neg:=@if_neg
theorem xCg:type_of%@if_pos:=@if_pos
namespace L2
open PySem PySem.Spec PyProof.Rows
abbrev Key:=Sum Int Str
def keyIs:Key→Value→Bool
 | .inl k,v=>Value.isInt k v
 | .inr x,v=>Value.isStrOf x v
def keyH (w:World):Key→Int
 | .inl k=>hashInt k
 | .inr x=>hashStr w x
theorem aQ:∀ {k:Key} {v:Value},keyIs k v=true→(∃ i t,k=Sum.inl i∧v=Value.int i t)∨(∃ x t,k=Sum.inr x∧v=Value.str x t)
 | .inl i,v,h=>by
  obtain ⟨t,e⟩:=Value.isInt_shape (k:=i) (v:=v) h
  exact .inl ⟨i,t,rfl,e⟩
 | .inr x,v,h=>by
  obtain ⟨t,e⟩:=Value.isStrOf_shape (x:=x) (v:=v) h
  exact .inr ⟨x,t,rfl,e⟩
theorem nG (i:Int) (t:Tok):keyIs (.inl i) (.int i t)=true:=by simp [keyIs,Value.isInt]
theorem nB (x:Str) (t:Tok):keyIs (.inr x) (.str x t)=true:=by simp [keyIs,Value.isStrOf]
theorem wO (a b:Int):decide ((Sum.inl a:Key)=Sum.inl b)=(a == b):=by
 by_cases e:a=b
 ·subst e;simp
 ·have h:¬ (Sum.inl a:Key)=Sum.inl b:=fun q=>e (Sum.inl.inj q)
  rw [decide_eq_false h]
  exact (beq_eq_false_iff_ne.mpr e).symm
theorem wL (a b:Str):decide ((Sum.inr a:Key)=Sum.inr b)=decide (a=b):=by
 by_cases e:a=b
 ·subst e;simp
 ·have h:¬ (Sum.inr a:Key)=Sum.inr b:=fun q=>e (Sum.inr.inj q)
  rw [decide_eq_false h,decide_eq_false e]
theorem wN (a:Int) (b:Str):decide ((Sum.inl a:Key)=Sum.inr b)=false:=decide_eq_false (fun q=>nomatch q)
theorem wM (a:Str) (b:Int):decide ((Sum.inr a:Key)=Sum.inl b)=false:=decide_eq_false (fun q=>nomatch q)
def mixKind (prog:Program) (w:World):PySem.KeyKind prog w Key where
 is:=keyIs
 hash:=keyH w
 inj:=fun v a b ha hb=>by
  rcases aQ ha with ⟨i,t,rfl,rfl⟩ | ⟨x,t,rfl,rfl⟩
  ·rcases aQ hb with ⟨j,u,rfl,e⟩ | ⟨y,u,rfl,e⟩
   ·injection e with e1 _;rw [e1]
   ·exact nomatch e
  ·rcases aQ hb with ⟨j,u,rfl,e⟩ | ⟨y,u,rfl,e⟩
   ·exact nomatch e
   ·injection e with e1 _;rw [e1]
 byValue:=fun k v h=>by
  rcases aQ h with ⟨i,t,rfl,rfl⟩ | ⟨x,t,rfl,rfl⟩ <;> rfl
 pyHash:=fun hv h=>by
  rcases aQ hv with ⟨i,t,rfl,rfl⟩ | ⟨x,t,rfl,rfl⟩
  ·exact wpAny_pyHash_int h
  ·exact wpAny_pyHash_str h
 eqBool:=fun hu hv h=>by
  rcases aQ hu with ⟨i,t,rfl,rfl⟩ | ⟨x,t,rfl,rfl⟩
  ·rcases aQ hv with ⟨j,u,rfl,rfl⟩ | ⟨y,u,rfl,rfl⟩
   ·rw [wO] at h;exact wpAny_eqBool_int h
   ·rw [wN] at h;exact SeqAt.EqAt.int_str i t y u _ _ _ _ h
  ·rcases aQ hv with ⟨j,u,rfl,rfl⟩ | ⟨y,u,rfl,rfl⟩
   ·rw [wM] at h;exact SeqAt.EqAt.str_int x t j u _ _ _ _ h
   ·rw [wL] at h;exact wpAny_eqBool_str h
 «strs»:=fun k x t v h=>by
  rcases aQ h with ⟨i,u,rfl,e⟩ | ⟨y,u,rfl,e⟩
  ·exact nomatch e
  ·injection e with e1 _
   subst e1
   cases v <;> rfl
theorem jq (prog:Program) (w:World) (i:Int) (t:Tok):(mixKind prog w).is (.inl i) (.int i t)=true:=nG i t
theorem jp (prog:Program) (w:World) (x:Str) (t:Tok):(mixKind prog w).is (.inr x) (.str x t)=true:=nB x t
end L2
namespace L2
open PySem PySem.Spec PyProof.Rows
inductive V where
 | non | bl (b:Bool) | int (i:Int) | str (x:Str) | byt (b:Array UInt8) | flt (b:UInt64) | ref (a:Addr) | ty (n:String)
 deriving DecidableEq
def RelV:V→Value→Prop
 | .non,u=>u=Value.none
 | .bl b,u=>u=Value.bool b
 | .int i,u=>∃ t,u=Value.int i t
 | .str x,u=>∃ t,u=Value.str x t
 | .byt b,u=>∃ t,u=Value.bytes b t
 | .flt b,u=>∃ t,u=Value.float b t
 | .ref a,u=>u=Value.ref a
 | .ty n,u=>u=Value.type n
abbrev Vals:List V→List Value→Prop:=Paired RelV
theorem Vals.length {xs:List V} {us:List Value} (r:Vals xs us):xs.length=us.length:=Paired.length r
theorem Vals.get:∀ {xs:List V} {us:List Value} {i:Nat} {x:V},Vals xs us→xs[i]?=some x→∃ u,us[i]?=some u∧RelV x u
 | _,_,_,_,.nil,e=>by simp at e
 | _,_,0,_,.cons r _,e=>by simp at e;subst e;exact ⟨_,rfl,r⟩
 | _,_,i+1,x,.cons _ t,e=>by
  obtain ⟨u,h1,h2⟩:=Vals.get (i:=i) (x:=x) t (by simpa using e)
  exact ⟨u,by simpa using h1,h2⟩
theorem Vals.append:∀ {xs ys:List V} {us ws:List Value},Vals xs us→Vals ys ws→Vals (xs++ys) (us++ws)
 | _,_,_,_,.nil,s=>s
 | _,_,_,_,.cons r t,s=>.cons r (Vals.append t s)
def RelO:Option V→Option Value→Prop
 | some v,some u=>RelV v u
 | none,none=>True
 | _,_=>False
def KV {κ:Type}:List (κ×V)→List (κ×Value)→Prop:=Paired fun (p:κ×V) (q:κ×Value)=>p.1=q.1∧RelV p.2 q.2
def kV:Key→V
 | .inl i=>.int i
 | .inr x=>.str x
inductive HO where
 
 | lst (xs:List V)
 
 | tup (xs:List V)
 
 | dK (kvs:List (Key×V)) | dT (kvs:List (List Key×V))
 
 | set (S:Int→Bool) (n:Nat)
 
 | ins (C dx:Addr) (fs:List (Str×V))
 
 | own (x:Addr)
 
 | xd (fs:List (Str×V))
 
 | met (f x:Addr)
 
 | rng (lo hi:Int)
 
 | frz (o:Obj) (u:HO)
 
 | tbl (ps:Array Value)
 
 | ext (φ:Heap→Prop)
abbrev Hp:=Addr→Option HO
def upd (H:Hp) (a:Addr) (o:HO):Hp:=fun b=>if b=a then some o else H b
theorem ah {H:Hp} {a:Addr} {o:HO}:upd H a o a=some o:=by unfold upd;rw [xCg rfl]
theorem aA {H:Hp} {a b:Addr} {o:HO} (h:b≠a):upd H a o b=H b:=by unfold upd;rw [xCf h]
theorem ip {H:Hp} {a:Addr} {o u:HO}:upd (upd H a o) a u=upd H a u:=by
 funext b;unfold upd;split <;> rfl
theorem uk {H:Hp} {a b:Addr} {o u:HO} (h:H a=some o) (h':H b=some u) (d:o≠u):a≠b:=by
 intro e;subst e;rw [h] at h';exact d (xB3 h')
theorem ak {H:Hp} {a b:Addr} {o:HO} (h:H a=some o) (h':H b=none):a≠b:=by
 intro e;subst e;rw [h] at h';cases h'
section
variable (P:Program) (w:World)
def ObjOk (H:Hp) (h:Heap) (a:Addr):HO→Prop
 | .lst xs=>xs.length≤sizeLine∧∃ (its:List Value) (n:Nat),Vals xs its∧h.get? a=some { cls:=.type "list",data:=.seq its.toArray n }
 | .tup xs=>xs.length≤sizeLine∧∃ its:List Value,Vals xs its∧IsTup h a its.toArray
 | .dK kvs=>kvs.length≤sizeLine∧(a == sysModules)=false∧∃ vs,KV kvs vs∧h.DictOf (mixKind P w) a vs
 | .dT kvs=>kvs.length≤sizeLine∧(a == sysModules)=false∧∃ xs:List (List Key×Addr×Value),
   Paired (fun (p:List Key×V) (q:List Key×Addr×Value)=>p.1=q.1∧H q.2.1=some (.tup (p.1.map kV))∧RelV p.2 q.2.2) kvs xs ∧
   ∃ o es ep,h.get? a=some o∧o.ExactDict∧o.data = .dict es ep∧es.toList=xs.map (entryOfKey (tupleKind (mixKind P w)))∧(xs.map (·.1)).Nodup
 | .set S n=>h.SetOf (intKind P w) a S n
 | .ins C dx fs=>H dx=some (.own a)∧fs.length≤1000∧dx≠a∧h.get? a=some (PySem.W.instObj C dx) ∧
   ∃ mA,h.Ns1 dx mA∧(∀ f,RelO (fs.lookup f) (mA f))∧PySem.Within mA (fs.map (·.1))
 | .own _=>∃ o,h.get? a=some o
 | .xd fs=>∃ mA,h.Ns1 a mA∧∀ f,RelO (fs.lookup f) (mA f)
 | .rng lo hi=>∃ t u v,h.get? a=some { cls:=.type "range",data:=.fields #[.int lo t,.int hi u,.int 1 v] }
 | .frz o u=>h.get? a=some o∧ObjOk H h a u
 | .tbl ps=>h.get? a=some { cls:=.none,data:=.fields ps }
 | .met f x=>h.get? a=some (PySem.W.methodObj (.ref f) (.ref x))
 | .ext φ=>φ h∧(∃ o,h.get? a=some o)∧∀ h1 h2:Heap,φ h1→(∀ o,h1.get? a=some o→h2.get? a=some o)→φ h2
def HOk (H:Hp) (h:Heap):Prop:=∀ a o,H a=some o→ObjOk P w H h a o
end
section
variable {P:Program} {w:World} {H H':Hp} {h h':Heap} {a:Addr} {o:HO}
theorem ObjOk.lt (x:ObjOk P w H h a o):a<h.objs.size:=by
 cases o with
 | lst xs=>obtain ⟨_,_,_,_,e⟩:=x;exact xA1 e
 | tup xs=>obtain ⟨_,_,_,p⟩:=x;exact p.lt
 | dK kvs=>obtain ⟨_,_,_,_,o,_,_,e,_⟩:=x;exact xA1 e
 | dT kvs=>obtain ⟨_,_,_,_,o,_,_,e,_⟩:=x;exact xA1 e
 | set S n=>obtain ⟨o,_,_,_,e,_⟩:=x;exact xA1 e
 | ins C dx fs=>obtain ⟨_,_,_,e,_⟩:=x;exact xA1 e
 | own y=>obtain ⟨_,e⟩:=x;exact xA1 e
 | xd fs=>obtain ⟨_,⟨_,_,_,e,_⟩,_⟩:=x;exact xA1 e
 | rng lo hi=>obtain ⟨_,_,_,e⟩:=x;exact xA1 e
 | frz ob u=>obtain ⟨e,_⟩:=x;exact xA1 e
 | tbl ps=>exact xA1 (show h.get? a=some _ from x)
 | met f y=>exact xA1 (show h.get? a=some _ from x)
 | ext φ=>obtain ⟨_,⟨_,e⟩,_⟩:=x;exact xA1 e
theorem Paired.mapP {α β:Type} {F G:α→β→Prop}:∀ {l₁:List α} {l₂:List β},Paired F l₁ l₂→(∀ a b,F a b→G a b)→Paired G l₁ l₂
 | _,_,.nil,_=>.nil
 | _,_,.cons r t,f=>.cons (f _ _ r) (Paired.mapP t f)
theorem ObjOk.stay (x:ObjOk P w H h a o) (k:∀ b u,(b=a∨H b=some (.own a))→h.get? b=some u→h'.get? b=some u)
  (ho:∀ b,H b=some (.own a)→H' b=some (.own a)) (ht:∀ b xs,H b=some (.tup xs)→H' b=some (.tup xs)):ObjOk P w H' h' a o:=by
 induction o with
 | lst xs=>obtain ⟨z,its,n,r,e⟩:=x;exact ⟨z,its,n,r,k _ _ (.inl rfl) e⟩
 | tup xs=>obtain ⟨z,its,r,ob,e,c⟩:=x;exact ⟨z,its,r,ob,k _ _ (.inl rfl) e,c⟩
 | dK kvs=>obtain ⟨z,y,vs,r,ob,es,ep,e,c⟩:=x;exact ⟨z,y,vs,r,ob,es,ep,k _ _ (.inl rfl) e,c⟩
 | dT kvs =>
  obtain ⟨z,y,xs,r,ob,es,ep,e,c⟩:=x
  exact ⟨z,y,xs,Paired.mapP r fun p q z=>⟨z.1,ht _ _ z.2.1,z.2.2⟩,ob,es,ep,k _ _ (.inl rfl) e,c⟩
 | set S n=>obtain ⟨ob,es,ep,t,e,c⟩:=x;exact ⟨ob,es,ep,t,k _ _ (.inl rfl) e,c⟩
 | ins C dx fs =>
  obtain ⟨d,z,ne,e,mA,⟨od,es,ep,e2,c⟩,r⟩:=x
  exact ⟨ho _ d,z,ne,k _ _ (.inl rfl) e,mA,⟨od,es,ep,k _ _ (.inr d) e2,c⟩,r⟩
 | own y=>obtain ⟨ob,e⟩:=x;exact ⟨ob,k _ _ (.inl rfl) e⟩
 | xd fs=>obtain ⟨mA,⟨od,es,ep,e,c⟩,r⟩:=x;exact ⟨mA,⟨od,es,ep,k _ _ (.inl rfl) e,c⟩,r⟩
 | rng lo hi=>obtain ⟨t,u,v,e⟩:=x;exact ⟨t,u,v,k _ _ (.inl rfl) e⟩
 | frz ob u ih=>obtain ⟨e,q⟩:=x;exact ⟨k _ _ (.inl rfl) e,ih q⟩
 | tbl ps =>
  have e:h.get? a=some { cls:=.none,data:=.fields ps }:=x
  show h'.get? a=some { cls:=.none,data:=.fields ps }
  exact k a _ (.inl rfl) e
 | met f y =>
  have e:h.get? a=some (PySem.W.methodObj (.ref f) (.ref y)):=x
  show h'.get? a=some (PySem.W.methodObj (.ref f) (.ref y))
  exact k a _ (.inl rfl) e
 | ext φ=>obtain ⟨p,⟨o,e⟩,st⟩:=x;exact ⟨st _ _ p fun o q=>k _ _ (.inl rfl) q,⟨o,k _ _ (.inl rfl) e⟩,st⟩
theorem HOk.lt (x:HOk P w H h) (e:H a=some o):a<h.objs.size:=(x a o e).lt
theorem HOk.fresh (x:HOk P w H h) (e:h.objs.size≤a):H a=none:=by
 cases q:H a with
 | none=>rfl
 | some u=>exact absurd (xBc (x.lt q) e) (xBo _)
theorem HOk.kept (x:HOk P w H h) (k:∀ b u,h.get? b=some u→h'.get? b=some u):HOk P w H h':=fun a o e =>
 (x a o e).stay (fun b u _ q=>k b u q) (fun _ q=>q) fun _ _ q=>q
theorem HOk.laid (x:HOk P w H h) (k:∀ b u,h.get? b=some u→h'.get? b=some u) (hp:h.objs.size≤a) (new:ObjOk P w (upd H a o) h' a o):HOk P w (upd H a o) h':=fun b u e=>by
 have hn:=x.fresh hp
 by_cases hb:b=a
 ·subst hb;rw [ah] at e;cases e;exact new
 ·rw [aA hb] at e
  exact (x b u e).stay (fun c v _ q=>k c v q) (fun c q=>by rw [aA (ak q hn)];exact q) fun c xs q=>by rw [aA (ak q hn)];exact q
end
def Rd (H:Hp) (a:Addr) (u:HO):Prop:=H a=some u∨∃ o,H a=some (.frz o u)
theorem Rd.ok {P:Program} {w:World} {H:Hp} {h:Heap} {a:Addr} {u:HO} (r:Rd H a u) (x:HOk P w H h):ObjOk P w H h a u:=by
 rcases r with r | ⟨o,r⟩
 ·exact x a u r
 ·obtain ⟨_,q⟩:=x a _ r
  exact q
def Mut:Option HO→Prop
 | some (.lst _)=>True
 | some (.dK _)=>True
 | some (.dT _)=>True
 | some (.set _ _)=>True
 | some (.ins _ _ _)=>True
 | some (.ext _)=>True
 | _=>False
section
variable {P:Program} {w:World} {H:Hp} {h h':Heap} {x e:Addr} {o':HO}
theorem HOk.write (ok:HOk P w H h) (mu:Mut (H x)) (he:e=x∨H e=some (.own x)) (k:∀ b u,b≠e→h.get? b=some u→h'.get? b=some u) (heo:∃ u,h'.get? e=some u)
  (new:ObjOk P w (upd H x o') h' x o'):HOk P w (upd H x o') h':=fun b u q=>by
 have nown:∀ c y,H c=some (.own y)→c≠x:=fun c y r z=>by subst z;rw [r] at mu;exact mu
 have ntup:∀ c xs,H c=some (.tup xs)→c≠x:=fun c xs r z=>by subst z;rw [r] at mu;exact mu
 by_cases hb:b=x
 ·subst hb;rw [ah] at q;cases q;exact new
 ·rw [aA hb] at q
  by_cases hbe:b=e
  ·have q':H b=some (.own x):=by
    rcases he with z | z
    ·exact absurd (hbe.trans z) hb
    ·rw [hbe];exact z
   rw [q] at q';cases q'
   obtain ⟨v,hv⟩:=heo
   exact ⟨v,by rw [hbe];exact hv⟩
  ·refine (ok b u q).stay (fun c v hc r=>k c v ?_ r) (fun c r=>by rw [aA (nown c b r)];exact r) fun c xs r=>by rw [aA (ntup c xs r)];exact r
   rcases hc with rfl | hc
   ·exact hbe
   ·rintro rfl
    rcases he with z | z
    ·exact nown c b hc z
    ·rw [hc] at z;cases z;exact hb rfl
end
structure Un (fs ex:List Addr) (H H':Hp) (h h':Heap):Prop where
 keep:∀ b o,h.get? b=some o→H b=none→b ∉ fs→b ∉ ex→h'.get? b=some o
 slot:∀ b o,h.get? b=some o→H b=none→b∈fs→b ∉ ex→∃ sl,h'.get? b=some { o with slots:=sl }
 free:∀ b o,h.get? b=some o→H b=none→b ∉ ex→H' b=none
 there:∀ b o,h.get? b=some o→b ∉ ex→∃ o',h'.get? b=some o'
 tups:∀ b xs,H b=some (.tup xs)→H' b=some (.tup xs)
 frzs:∀ b o u,H b=some (.frz o u)→H' b=some (.frz o u)
 tbls:∀ b ps,H b=some (.tbl ps)→∃ more,H' b=some (.tbl (ps++more))
section
variable {fs fs' ex ex':List Addr} {H H1 H2:Hp} {h h1 h2 h':Heap} {a x e:Addr} {o:HO}
theorem Un.any (u:Un fs ex H H1 h h1) {b:Addr} {ob:Obj} (q:h.get? b=some ob) (n:H b=none) (hx:b ∉ ex):∃ sl,h1.get? b=some { ob with slots:=sl }:=by
 by_cases hb:b∈fs
 ·exact u.slot b ob q n hb hx
 ·exact ⟨ob.slots,u.keep b ob q n hb hx⟩
theorem Un.kept (k:∀ b u,h.get? b=some u→h'.get? b=some u):Un fs ex H H h h' :=
 ⟨fun b ob q _ _ _=>k b ob q,fun b ob q _ _ _=>⟨ob.slots,k b ob q⟩,fun _ _ _ n _=>n,fun b ob q _=>⟨ob,k b ob q⟩,fun _ _ q=>q,fun _ _ _ q=>q,fun _ ps q=>⟨#[],by rw [q];simp⟩⟩
theorem Un.refl:Un fs ex H H h h:=Un.kept fun _ _ q=>q
theorem Un.laid (k:∀ b u,h.get? b=some u→h'.get? b=some u) (hp:h.objs.size≤a) (hn:H a=none):Un fs ex H (upd H a o) h h' where
 keep:=fun b u q _ _ _=>k b u q
 slot:=fun b u q _ _ _=>⟨u.slots,k b u q⟩
 free:=fun b u q n _=>by rw [aA (xA0 (xBc (xA1 q) hp))];exact n
 there:=fun b u q _=>⟨u,k b u q⟩
 tups:=fun b xs q=>by rw [aA (ak q hn)];exact q
 frzs:=fun b u xs q=>by rw [aA (ak q hn)];exact q
 tbls:=fun b ps q=>⟨#[],by rw [aA (ak q hn),q];simp⟩
theorem Un.write (mu:Mut (H x)) (he:e=x∨H e=some (.own x)) (k:∀ b u,b≠e→h.get? b=some u→h'.get? b=some u) (heo:∃ u,h'.get? e=some u):Un fs ex H (upd H x o) h h':=by
 have hx:∀ b,H b=none→b≠x:=fun b n z=>by subst z;rw [n] at mu;exact mu
 have hb:∀ b,H b=none→b≠e:=fun b n z=>by
  subst z
  rcases he with r | r
  ·exact hx b n r
  ·rw [n] at r;cases r
 have hm:∀ b u,H b=some u→¬ Mut (some u)→b≠x:=fun b u q nm z=>by subst z;rw [q] at mu;exact nm mu
 refine ⟨fun b u q n _ _=>k b u (hb b n) q,fun b u q n _ _=>⟨u.slots,k b u (hb b n) q⟩,fun b u q n _=>by rw [aA (hx b n)];exact n,fun b u q _=>?_,
  fun b xs q=>by rw [aA (hm b _ q fun z=>z)];exact q,fun b u xs q=>by rw [aA (hm b _ q fun z=>z)];exact q,fun b ps q=>⟨#[],by rw [aA (hm b _ q fun z=>z),q];simp⟩⟩
 by_cases hbe:b=e
 ·subst hbe;exact heo
 ·exact ⟨u,k b u hbe q⟩
end
def trk (h:Heap) (H:Hp):List Addr:=(List.range h.objs.size).filter fun a=>(H a).isSome
def hidT (h:Heap) (H:Hp):Heap:=PySem.W.hideAll h (trk h H)
theorem nK (h:Heap) (H:Hp):(hidT h H).objs.size=h.objs.size:=PySem.W.hideAll_size _ _
theorem qz {h:Heap} {H:Hp} {b:Addr} {o:Obj} (e:h.get? b=some o) (n:H b=none):(hidT h H).get? b=some o :=
 PySem.W.hideAll_get _ e fun hm=>by
  have q:(H b).isSome=true:=(xBr.mp hm).2
  rw [n] at q;simp at q
theorem tf {h:Heap} {H:Hp} {b:Addr} {o:Obj} (e:(hidT h H).get? b=some o):h.get? b=some o∧H b=none:=by
 have e':h.get? b=some o:=PySem.W.of_hideAll (trk h H) e
 refine ⟨e',?_⟩
 cases q:H b with
 | none=>rfl
 | some x =>
  have hm:b∈trk h H:=xBr.mpr ⟨List.mem_range.mpr (xA1 e'),by simp [q]⟩
  have z:(hidT h H).get? b=none:=PySem.W.hideAll_none (trk h H) hm
  rw [z] at e;cases e
end L2
namespace L2
open PySem PySem.Spec PyProof.Rows
structure Mod (K:xFr) (mg:Str→Option Value) (base:Heap):Prop where
 kin:K.In base
 glob:base.Ns mainGlobals mg
 blt:∃ mb,base.Ns builtinsNs mb∧∀ x:Str,x≠"__name__"→mb x=bootBuiltins x
 nolimit:base.NoLimit
structure Cx where
 prog:Program
 w:World
 K:xFr
 mg:Str→Option Value
 base:Heap
 A:Around
 N:List Str
 s₀:Shared
 H₀:Hp
 env:Env
 outer:List Env
 stack:List Env
 ex:List Addr
 fn:Str→Bool
 calm:Bool
 pn:List (Addr×Obj)
 xe:Value→Shared→Prop
def frs (l:List Env):List Addr:=l.filterMap (·.frame)
abbrev Cx.fs (X:Cx):List Addr:=frs X.outer
def Vis (sc:Scope) (x:Str):Prop:=sc.names.lookup x=some .local∨sc.names.lookup x=some .cell∨sc.names.lookup x=some .free
def Loc (sc:Scope) (x:Str):Prop:=sc.names.lookup x=some .local∨sc.names.lookup x=some .cell
def Look (env:Env) (h:Heap) (m:Str→Option Value) (x:Str) (u:Value):Prop :=
 (env.kindOf x=some .local∧m x=some u)∨((env.kindOf x=some .cell∨env.kindOf x=some .free)∧∃ c,env.cells.lookup x=some c∧h.IsCell c (some u))
structure Cx.Ok (X:Cx):Prop where
 mod:Mod X.K X.mg X.base
 kind:X.env.scope.kind = .function
 glob:X.env.globals=mainGlobals
 blt:X.env.builtins=builtinsNs
 above:X.s₀.heap.objs.size≤X.env.locals
 inj:∀ x y c,X.env.cells.lookup x=some c→X.env.cells.lookup y=some c→x=y
 has:∀ x,(X.env.kindOf x=some .cell∨X.env.kindOf x=some .free)→∃ c,X.env.cells.lookup x=some c
 cab:∀ x c,X.fn x=true→X.env.cells.lookup x=some c→X.s₀.heap.objs.size≤c
 hd:X.calm=true→X.A.handled=none
 frames:X.A.frames=some X.stack
 stk:X.stack=X.outer∨(X.stack=X.env::X.outer∧X.env.frame=some X.env.locals)
 exf:∀ b∈X.ex,b≠X.env.locals∧∀ x c,X.env.cells.lookup x=some c→c≠b
 bs:∀ b o,X.base.get? b=some o→X.s₀.heap.get? b=some o∧X.H₀ b=none
 bsz:X.base.objs.size≤X.s₀.heap.objs.size
 noex:∀ b o,X.base.get? b=some o→b ∉ X.ex
 exfs:∀ b∈X.ex,b ∉ X.fs
 funs:X.s₀.heap.FunFrames X.base X.outer
 frf:∀ b∈X.fs,X.H₀ b=none
structure Inv (X:Cx) (pins:List (Addr×Obj)) (σ:List (Option V)) (H:Hp) (s:Shared):Prop where
 ok:X.Ok
 os:s.os=X.s₀.os
 bare:AllBare s.gens
 base:Un X.fs X.ex X.H₀ H X.s₀.heap s.heap
 loc:∃ m,s.heap.Ns X.env.locals m∧∀ (i:Nat) (x:Str) (v:V),X.N[i]?=some x→σ[i]?=some (some v)→Vis X.env.scope x→∃ u,RelV v u∧Look X.env s.heap m x u
 cell:∀ x c,X.env.cells.lookup x=some c→∃ v,s.heap.IsCell c v
 free:H X.env.locals=none
 freeC:∀ x c,X.env.cells.lookup x=some c→H c=none
 pin:∀ p∈X.pn++pins,s.heap.get? p.1=some p.2∧H p.1=none∧p.1≠X.env.locals∧p.1 ∉ X.fs∧∀ v,p.2.data≠.cell v
 hok:HOk X.prog X.w H s.heap
 len:σ.length=X.N.length
section
variable {X:Cx} {pins:List (Addr×Obj)} {σ:List (Option V)} {H H':Hp} {s:Shared} {h':Heap}
theorem Cx.Ok.nofr (ok:X.Ok) {b:Addr} {o:Obj} (e:X.base.get? b=some o):b ∉ X.fs:=fun hb=>by
 have:=(ok.funs.mem hb).1
 rw [e] at this;cases this
theorem Inv.bs (I:Inv X pins σ H s):∀ b o,X.base.get? b=some o→s.heap.get? b=some o∧H b=none:=fun b o e =>
 ⟨I.base.keep b o (I.ok.bs b o e).1 (I.ok.bs b o e).2 (I.ok.nofr e) (I.ok.noex b o e),I.base.free b o (I.ok.bs b o e).1 (I.ok.bs b o e).2 (I.ok.noex b o e)⟩
theorem Inv.bk (I:Inv X pins σ H s):∀ b o,X.base.get? b=some o→s.heap.get? b=some o:=fun b o e=>(I.bs b o e).1
theorem Inv.mod (I:Inv X pins σ H s):Mod X.K X.mg X.base:=I.ok.mod
theorem Inv.kIn (I:Inv X pins σ H s):X.K.In s.heap:=I.ok.mod.kin.keeps I.bk
theorem Inv.lt (I:Inv X pins σ H s):X.env.locals<s.heap.objs.size:=let ⟨_,hn,_⟩:=I.loc;hn.lt
theorem Inv.sz (I:Inv X pins σ H s):X.s₀.heap.objs.size≤s.heap.objs.size:=Nat.le_trans I.ok.above (Nat.le_of_lt I.lt)
theorem Inv.nofs (I:Inv X pins σ H s) {a:Addr} (h:s.heap.objs.size≤a):a ∉ X.fs:=fun hb=>by
 obtain ⟨_,o,ho,_⟩:=I.ok.funs.mem hb
 exact absurd (xBc (xA1 ho) (Nat.le_trans I.sz h)) (xBo _)
theorem Inv.cne (I:Inv X pins σ H s):∀ x c,X.env.cells.lookup x=some c→c≠X.env.locals:=fun x c e z=>by
 obtain ⟨v,o,ho,hd⟩:=I.cell x c e
 obtain ⟨m,⟨o',es,ep,ho',hd',_⟩,_⟩:=I.loc
 rw [z,ho'] at ho;cases ho;rw [hd'] at hd;cases hd
theorem Inv.funs (I:Inv X pins σ H s):s.heap.FunFrames X.base X.outer:=by
 have all:∀ (l:List Env),(∀ b∈frs l,b∈X.fs)→X.s₀.heap.FunFrames X.base l→s.heap.FunFrames X.base l:=by
  intro l
  induction l with
  | nil=>intro _ _;trivial
  | cons env r ih =>
   intro hs hl
   obtain ⟨hk,⟨L,o,hf,hn,ho,hd⟩,hr⟩:=hl
   have hL:L∈X.fs:=hs L (by unfold frs;rw [List.filterMap_cons,hf];exact xAr)
   obtain ⟨sl,e⟩:=I.base.slot L o ho (I.ok.frf L hL) hL fun z=>I.ok.exfs L z hL
   exact ⟨hk,⟨L,_,hf,hn,e,hd⟩,ih (fun b hb=>hs b (by unfold frs;rw [List.filterMap_cons,hf];exact xAs _ hb)) hr⟩
 exact all X.outer (fun _ hb=>hb) I.ok.funs
theorem Inv.stack (I:Inv X pins σ H s):s.heap.FunFrames X.base X.stack:=by
 rcases I.ok.stk with e | ⟨e,hf⟩
 ·rw [e];exact I.funs
 ·rw [e]
  obtain ⟨m,hn,_⟩:=I.loc
  refine .cons (by rw [I.ok.kind];decide) hf hn ?_ I.funs
  exact Heap.get?_none_of_le (Nat.le_trans I.ok.bsz I.ok.above)
theorem Inv.stkSub (I:Inv X pins σ H s):∀ b∈frs X.stack,b∈X.env.locals::X.fs:=fun b hb=>by
 rcases I.ok.stk with e | ⟨e,hf⟩
 ·rw [e] at hb;exact xAs _ hb
 ·rw [e] at hb
  unfold frs at hb
  rw [List.filterMap_cons,hf] at hb
  exact hb
theorem Inv.stkFree (I:Inv X pins σ H s):∀ b∈frs X.stack,H b=none:=fun b hb=>by
 rcases xAv.mp (I.stkSub b hb) with e | hb
 ·rw [e];exact I.free
 ·obtain ⟨_,o,ho,_⟩:=I.ok.funs.mem hb
  exact I.base.free b o ho (I.ok.frf b hb) fun z=>I.ok.exfs b z hb
theorem Inv.step {g':Array GenState} {t':Nat} {d':Drawn} {ch:List Addr} (I:Inv X pins σ H s)
  (hch:∀ b∈ch,(b∈X.ex∨X.s₀.heap.objs.size≤b)∧b≠X.env.locals∧(∀ x c,X.env.cells.lookup x=some c→c≠b)∧∀ p∈X.pn++pins,p.1≠b)
  (keep:∀ b o,b≠X.env.locals→b ∉ X.fs→b ∉ ch→s.heap.get? b=some o→H b=none→h'.get? b=some o)
  (slot:∀ b o,b≠X.env.locals→b∈X.fs→b ∉ ch→s.heap.get? b=some o→H b=none→∃ sl,h'.get? b=some { o with slots:=sl }) (free:∀ b o,b ∉ ch→s.heap.get? b=some o→H b=none→H' b=none)
  (there:∀ b o,b ∉ ch→s.heap.get? b=some o→∃ o',h'.get? b=some o')
  (tups:∀ b xs,H b=some (.tup xs)→H' b=some (.tup xs)) (frzs:∀ b o u,H b=some (.frz o u)→H' b=some (.frz o u)) (tbls:∀ b ps,H b=some (.tbl ps)→∃ more,H' b=some (.tbl (ps++more)))
  (ns:∀ m,s.heap.Ns X.env.locals m→h'.Ns X.env.locals m) (hok:HOk X.prog X.w H' h') (hg:AllBare g') :
  Inv X pins σ H' { s with heap:=h',gens:=g',drawn:=d',toks:=t' }:=by
 have neL:∀ b o,X.s₀.heap.get? b=some o→b≠X.env.locals:=fun b o e=>xA0 (xBc (xA1 e) I.ok.above)
 have neC:∀ b o,X.s₀.heap.get? b=some o→b ∉ X.ex→b ∉ ch:=fun b o e hx hb=>by
  rcases (hch b hb).1 with z | z
  ·exact hx z
  ·exact absurd (xBc (xA1 e) z) (xBo _)
 have cellK:∀ x c,X.env.cells.lookup x=some c→∀ v,s.heap.IsCell c v→h'.IsCell c v:=fun x c e v ⟨o,ho,hd⟩=>by
  have nch:c ∉ ch:=fun z=>(hch c z).2.2.1 x c e rfl
  by_cases hc:c∈X.fs
  ·obtain ⟨sl,q⟩:=slot c o (I.cne x c e) hc nch ho (I.freeC x c e)
   exact ⟨_,q,hd⟩
  ·exact ⟨o,keep c o (I.cne x c e) hc nch ho (I.freeC x c e),hd⟩
 refine ⟨I.ok,I.os,hg,⟨fun b o e n hb hx=>?_,fun b o e n hb hx=>?_,fun b o e n hx=>?_,fun b o e hx=>?_,fun b xs e=>tups b xs (I.base.tups b xs e),fun b o xs e=>frzs b o xs (I.base.frzs b o xs e),fun b ps e=>?_⟩,?_,fun x c e=>?_,?_,fun x c e=>?_,fun p hp=>?_,hok,I.len⟩
 ·exact keep b o (neL b o e) hb (neC b o e hx) (I.base.keep b o e n hb hx) (I.base.free b o e n hx)
 ·obtain ⟨sl,e1⟩:=I.base.slot b o e n hb hx
  obtain ⟨sl',e2⟩:=slot b _ (neL b o e) hb (neC b o e hx) e1 (I.base.free b o e n hx)
  exact ⟨sl',e2⟩
 ·obtain ⟨o',e1⟩:=I.base.there b o e hx
  exact free b o' (neC b o e hx) e1 (I.base.free b o e n hx)
 ·obtain ⟨o',e1⟩:=I.base.there b o e hx
  exact there b o' (neC b o e hx) e1
 ·obtain ⟨m1,e1⟩:=I.base.tbls b ps e
  obtain ⟨m2,e2⟩:=tbls b _ e1
  exact ⟨m1++m2,by rw [e2,Array.append_assoc]⟩
 ·obtain ⟨m,hn,hl⟩:=I.loc
  refine ⟨m,ns m hn,fun i x v e1 e2 e3=>?_⟩
  obtain ⟨u,r,l⟩:=hl i x v e1 e2 e3
  refine ⟨u,r,?_⟩
  rcases l with l | ⟨k,c,e,z⟩
  ·exact .inl l
  ·exact .inr ⟨k,c,e,cellK x c e _ z⟩
 ·obtain ⟨v,z⟩:=I.cell x c e
  exact ⟨v,cellK x c e v z⟩
 ·obtain ⟨m,⟨o,_,_,ho,_⟩,_⟩:=I.loc
  exact free _ o (fun z=>(hch _ z).2.1 rfl) ho I.free
 ·obtain ⟨v,o,ho,hd⟩:=I.cell x c e
  exact free c o (fun z=>(hch c z).2.2.1 x c e rfl) ho (I.freeC x c e)
 ·obtain ⟨e,n,ne,nf,d⟩:=I.pin p hp
  have nch:p.1 ∉ ch:=fun z=>(hch p.1 z).2.2.2 p hp rfl
  exact ⟨keep p.1 p.2 ne nf nch e n,free p.1 p.2 nch e n,ne,nf,d⟩
theorem Inv.un {t':Nat} (I:Inv X pins σ H s) (u:Un X.fs [] H H' s.heap h') (hok:HOk X.prog X.w H' h'):Inv X pins σ H' { s with heap:=h',toks:=t' }:=by
 obtain ⟨m,⟨o,es,ep,ho,r⟩,_⟩:=id I.loc
 obtain ⟨sl,hL⟩:=u.any ho I.free (by simp)
 exact I.step (g':=s.gens) (d':=s.drawn) (ch:=[]) (fun _ z=>nomatch z) (fun b o _ hb _ e n=>u.keep b o e n hb (by simp)) (fun b o _ hb _ e n=>u.slot b o e n hb (by simp)) (fun b o _ e n=>u.free b o e n (by simp)) (fun b o _ e=>u.there b o e (by simp)) u.tups u.frzs u.tbls (fun m' hm=>by
  obtain ⟨o',es',ep',ho',r'⟩:=hm
  rw [ho] at ho';cases ho'
  exact ⟨_,es',ep',hL,r'⟩) hok I.bare
theorem Inv.call {g':Array GenState} {t':Nat} {d':Drawn} {ch:List Addr} (I:Inv X pins σ H s) (u:Un (frs X.stack) ch H H' s.heap h') (hok:HOk X.prog X.w H' h') (hg:AllBare g')
  (hch:∀ b∈ch,(b∈X.ex∨X.s₀.heap.objs.size≤b)∧b≠X.env.locals∧(∀ x c,X.env.cells.lookup x=some c→c≠b)∧∀ p∈X.pn++pins,p.1≠b) :
  Inv X pins σ H' { s with heap:=h',gens:=g',drawn:=d',toks:=t' }:=by
 obtain ⟨m,⟨o,es,ep,ho,r⟩,_⟩:=id I.loc
 obtain ⟨sl,hL⟩:=u.any ho I.free fun z=>(hch _ z).2.1 rfl
 exact I.step (ch:=ch) hch (fun b o hL hb hc e n=>u.keep b o e n (fun z=>(xAv.mp (I.stkSub b z)).elim hL hb) hc) (fun b o _ _ hc e n=>u.any e n hc) (fun b o hc e n=>u.free b o e n hc) (fun b o hc e=>u.there b o e hc) u.tups u.frzs u.tbls (fun m' hm=>by
  obtain ⟨o',es',ep',ho',r'⟩:=hm
  rw [ho] at ho';cases ho'
  exact ⟨_,es',ep',hL,r'⟩) hok hg
theorem Inv.turned {t':Nat} {it:Addr} (I:Inv X pins σ H s) (k:∀ b o,b≠it→s.heap.get? b=some o→h'.get? b=some o) (hn:H it=none) (hL:it≠X.env.locals)
  (h1:it∈X.ex∨X.s₀.heap.objs.size≤it) (h2:∀ x c,X.env.cells.lookup x=some c→c≠it) (h3:∀ p∈X.pn++pins,p.1≠it):Inv X pins σ H { s with heap:=h',toks:=t' }:=by
 have nit:∀ b u,H b=some u→b≠it:=fun b u e z=>by rw [z,hn] at e;cases e
 refine I.step (g':=s.gens) (d':=s.drawn) (ch:=[it]) (fun b hb=>?_) (fun b o _ _ hc e _=>k b o (fun z=>hc (by simp [z])) e) (fun b o _ _ hc e _=>⟨o.slots,k b o (fun z=>hc (by simp [z])) e⟩) (fun _ _ _ _ n=>n)
  (fun b o hc e=>⟨o,k b o (fun z=>hc (by simp [z])) e⟩) (fun _ _ e=>e) (fun _ _ _ e=>e) (fun b ps e=>⟨#[],by rw [e];simp⟩) (fun m hm=>?_) (fun b u e=>?_) I.bare
 ·have e:b=it:=by simpa using hb
  subst e
  exact ⟨h1,hL,h2,h3⟩
 ·obtain ⟨o,es,ep,ho,r⟩:=hm
  exact ⟨o,es,ep,k _ o (Ne.symm hL) ho,r⟩
 ·refine (I.hok b u e).stay (fun c v hc q=>k c v ?_ q) (fun _ q=>q) fun _ _ q=>q
  rcases hc with z | z
  ·rw [z];exact nit b u e
  ·exact nit c _ z
theorem Inv.tok (I:Inv X pins σ H s) (t:Nat):Inv X pins σ H { s with toks:=t }:=I.un (h':=s.heap) (t':=t) Un.refl I.hok
theorem Inv.kept {t':Nat} (I:Inv X pins σ H s) (k:∀ b u,s.heap.get? b=some u→h'.get? b=some u):Inv X pins σ H { s with heap:=h',toks:=t' }:=I.un (Un.kept k) (I.hok.kept k)
theorem Inv.laid {a:Addr} {o:HO} {t':Nat} (I:Inv X pins σ H s) (k:∀ b u,s.heap.get? b=some u→h'.get? b=some u) (hp:s.heap.objs.size≤a) (new:ObjOk X.prog X.w (upd H a o) h' a o) :
  Inv X pins σ (upd H a o) { s with heap:=h',toks:=t' }:=I.un (Un.laid k hp (I.hok.fresh hp)) (I.hok.laid k hp new)
theorem Inv.write {x e:Addr} {o:HO} {t':Nat} (I:Inv X pins σ H s) (mu:Mut (H x)) (he:e=x∨H e=some (.own x)) (k:∀ b u,b≠e→s.heap.get? b=some u→h'.get? b=some u) (heo:∃ u,h'.get? e=some u)
  (new:ObjOk X.prog X.w (upd H x o) h' x o):Inv X pins σ (upd H x o) { s with heap:=h',toks:=t' }:=I.un (Un.write mu he k heo) (I.hok.write mu he k heo new)
theorem Inv.pins_of {pins':List (Addr×Obj)} (I:Inv X pins σ H s) (h:∀ p∈pins',s.heap.get? p.1=some p.2∧H p.1=none∧p.1≠X.env.locals∧p.1 ∉ X.fs∧∀ v,p.2.data≠.cell v):Inv X pins' σ H s :=
 ⟨I.ok,I.os,I.bare,I.base,I.loc,I.cell,I.free,I.freeC,fun p hp=>(xAj.mp hp).elim (fun z=>I.pin p (xBw _ z)) (h p),I.hok,I.len⟩
theorem jn {N:List Str} (hN:N.Nodup) {i j:Nat} {x:Str} (a:N[i]?=some x) (b:N[j]?=some x):i=j:=by
 obtain ⟨h1,e1⟩:=xAq.mp a
 obtain ⟨h2,e2⟩:=xAq.mp b
 exact (List.getElem_inj hN).mp (e1.trans e2.symm)
theorem gQ {M:Model} {A:Around} {E:Value→Shared→Prop} {i:Nat} {x:Str} {v:V} {u:Value} {Q:Unit→Shared→Prop} (I:Inv X pins σ H s) (hN:X.N.Nodup) (hi:X.N[i]?=some x) (hx:Loc X.env.scope x) (r:RelV v u)
  (h:∀ s',Inv X pins (σ.set i (some v)) H s'→(∃ a,Heap.SameBut a s.heap s'.heap∧(a=X.env.locals∨X.env.cells.lookup x=some a))→Q () s') (hf:X.fn x=true∨X.env.scope.names.lookup x=some .local:=by first | exact .inl rfl | exact .inr rfl | assumption):wpAny M A (storeName X.env x u) Q E s:=by
 obtain ⟨m,hn,hl⟩:=id I.loc
 have hcls:(X.env.scope.kind == .class || (X.env.scope.kind == .module && X.env.locals != X.env.globals))=false:=by rw [I.ok.kind];rfl
 have hiσ:i<σ.length:=by rw [I.len];exact (xAq.mp hi).1
 have cne:=I.cne
 have tracked:∀ {a:Addr} {h':Heap},(∃ o,s.heap.get? a=some o∧H a=none)→Heap.SameBut a s.heap h'→HOk X.prog X.w H h':=fun {a h'} ha hs b ob e=>by
  obtain ⟨_,_,hfree⟩:=ha
  refine (I.hok b ob e).stay (fun c w' hc q=>(hs.2 c ?_).trans q) (fun _ q=>q) fun _ _ q=>q
  rintro rfl
  rcases hc with rfl | hc
  ·rw [hfree] at e;cases e
  ·rw [hfree] at hc;cases hc
 rcases hx with hk | hk
 ·refine wpAny_storeName_local hk hn (fun h' hn' hs=>?_) hcls
  obtain ⟨oL,_,_,hoL,_⟩:=id hn
  refine h _ ⟨I.ok,I.os,I.bare,⟨fun b o e n hb hx=>?_,fun b o e n hb hx=>?_,I.base.free,fun b o e hx=>?_,I.base.tups,I.base.frzs,I.base.tbls⟩,⟨_,hn',fun j y v' e1 e2 e3=>?_⟩,fun y c e=>?_,I.free,I.freeC,fun p hp=>?_,tracked ⟨oL,hoL,I.free⟩ hs,by simpa using I.len⟩ ⟨_,hs,.inl rfl⟩
  ·exact (hs.2 b (xA0 (xBc (xA1 e) I.ok.above))).trans (I.base.keep b o e n hb hx)
  ·obtain ⟨sl,e1⟩:=I.base.slot b o e n hb hx
   exact ⟨sl,(hs.2 b (xA0 (xBc (xA1 e) I.ok.above))).trans e1⟩
  ·obtain ⟨o',e1⟩:=I.base.there b o e hx
   exact ⟨o',(hs.2 b (xA0 (xBc (xA1 e) I.ok.above))).trans e1⟩
  ·by_cases hj:j=i
   ·subst hj
    rw [hi] at e1;cases e1
    rw [List.getElem?_set_self hiσ] at e2
    cases e2
    exact ⟨u,r,.inl ⟨hk,by simp⟩⟩
   ·rw [List.getElem?_set_ne (Ne.symm hj)] at e2
    obtain ⟨u',r',q⟩:=hl j y v' e1 e2 e3
    refine ⟨u',r',?_⟩
    rcases q with ⟨k,e⟩ | ⟨k,c,e,z⟩
    ·refine .inl ⟨k,?_⟩
     have:y≠x:=fun e=>hj (jn hN e1 (e ▸ hi))
     simp [this,e]
    ·exact .inr ⟨k,c,e,z.sameBut hs (cne y c e)⟩
  ·obtain ⟨w',z⟩:=I.cell y c e
   exact ⟨w',z.sameBut hs (cne y c e)⟩
  ·obtain ⟨e,n,ne,nf,d⟩:=I.pin p hp
   exact ⟨(hs.2 p.1 ne).trans e,n,ne,nf,d⟩
 ·have hfn:X.fn x=true:=by
   rcases hf with z | z
   ·exact z
   ·rw [z] at hk;cases hk
  obtain ⟨c,hc⟩:=I.ok.has x (.inl hk)
  obtain ⟨w',z⟩:=I.cell x c hc
  refine wpAny_storeName_cell I.ok.kind hk hc z (fun h' hc' hs=>?_)
  obtain ⟨oc,hoc,hocd⟩:=id z
  refine h { s with heap:=h' } ⟨I.ok,I.os,I.bare,⟨fun b o e n hb hx=>?_,fun b o e n hb hx=>?_,I.base.free,fun b o e hx=>?_,I.base.tups,I.base.frzs,I.base.tbls⟩,⟨m,hn.sameBut hs (Ne.symm (cne x c hc)),fun j y v' e1 e2 e3=>?_⟩,fun y c' e=>?_,I.free,I.freeC,fun p hp=>?_,tracked ⟨oc,hoc,I.freeC x c hc⟩ hs,by simpa using I.len⟩ ⟨c,hs,.inr hc⟩
  ·exact (hs.2 b (xA0 (xBc (xA1 e) (I.ok.cab x c hfn hc)))).trans (I.base.keep b o e n hb hx)
  ·obtain ⟨sl,e1⟩:=I.base.slot b o e n hb hx
   exact ⟨sl,(hs.2 b (xA0 (xBc (xA1 e) (I.ok.cab x c hfn hc)))).trans e1⟩
  ·obtain ⟨o',e1⟩:=I.base.there b o e hx
   exact ⟨o',(hs.2 b (xA0 (xBc (xA1 e) (I.ok.cab x c hfn hc)))).trans e1⟩
  ·by_cases hj:j=i
   ·subst hj
    rw [hi] at e1;cases e1
    rw [List.getElem?_set_self hiσ] at e2
    cases e2
    exact ⟨u,r,.inr ⟨.inl hk,c,hc,hc'⟩⟩
   ·rw [List.getElem?_set_ne (Ne.symm hj)] at e2
    obtain ⟨u',r',q⟩:=hl j y v' e1 e2 e3
    refine ⟨u',r',?_⟩
    rcases q with q | ⟨k,c',e,z'⟩
    ·exact .inl q
    ·refine .inr ⟨k,c',e,z'.sameBut hs ?_⟩
     rintro rfl
     exact hj (jn hN e1 (I.ok.inj _ _ _ e hc ▸ hi))
  ·by_cases hcc:c'=c
   ·subst hcc;exact ⟨_,hc'⟩
   ·obtain ⟨w2,z2⟩:=I.cell y c' e
    exact ⟨w2,z2.sameBut hs hcc⟩
  ·obtain ⟨e,n,ne,nf,d⟩:=I.pin p hp
   refine ⟨(hs.2 p.1 ?_).trans e,n,ne,nf,d⟩
   intro q
   rw [q,hoc] at e
   have q':oc=p.2:=xB3 e
   exact d w' (by rw [← q'];exact hocd)
theorem jd {M:Model} {A:Around} {E:Value→Shared→Prop} {i:Nat} {x:Str} {v:V} {u:Value} {Q:Unit→Shared→Prop} (I:Inv X pins σ H s) (hN:X.N.Nodup) (hi:X.N[i]?=some x) (hx:Loc X.env.scope x) (r:RelV v u)
  (h:∀ s',Inv X pins (σ.set i (some v)) H s'→Q () s') (hf:X.fn x=true∨X.env.scope.names.lookup x=some .local:=by first | exact .inl rfl | exact .inr rfl | assumption):wpAny M A (storeName X.env x u) Q E s :=
 gQ I hN hi hx r (fun s' I' _=>h s' I') hf
theorem Inv.call' {s':Shared} {ch:List Addr} (I:Inv X pins σ H s) (ho:s'.os=s.os) (u:Un (frs X.stack) ch H H' s.heap s'.heap) (hok:HOk X.prog X.w H' s'.heap) (hg:AllBare s'.gens)
  (hch:∀ b∈ch,(b∈X.ex∨X.s₀.heap.objs.size≤b)∧b≠X.env.locals∧(∀ x c,X.env.cells.lookup x=some c→c≠b)∧∀ p∈X.pn++pins,p.1≠b):Inv X pins σ H' s':=by
 obtain ⟨h',g',d',t',o'⟩:=s'
 have e:o'=s.os:=ho
 subst e
 exact I.call (g':=g') (t':=t') (d':=d') u hok hg hch
end
abbrev XK:=Value→Option Addr→Hp→Prop
abbrev St:=List (Option V)
abbrev VK:=V→Hp→Prop
abbrev TE:=St→Hp→VK→Prop
abbrev TT:=St→Hp→(Bool→Hp→Prop)→Prop
abbrev TA:=St→Hp→(List V→Hp→Prop)→Prop
structure Ends where
 nx:St→Hp→Prop
 rt:VK
 bk:St→Hp→Prop:=fun _ _=>False
 ct:St→Hp→Prop:=fun _ _=>False
abbrev TS:=Ends→St→Hp→Prop
def EP (X:Cx) (pins:List (Addr×Obj)) (σ:St) (Q:VK) (u:Value) (s':Shared):Prop:=∃ v H',Inv X pins σ H' s'∧RelV v u∧Q v H'
def TP (X:Cx) (pins:List (Addr×Obj)) (σ:St) (Q:Bool→Hp→Prop) (b:Bool) (s':Shared):Prop:=∃ H',Inv X pins σ H' s'∧Q b H'
def AP (X:Cx) (pins:List (Addr×Obj)) (σ:St) (Q:List V→Hp→Prop) (us:List Value) (s':Shared):Prop:=∃ vs H',Inv X pins σ H' s'∧Vals vs us∧Q vs H'
def SP (X:Cx) (pins:List (Addr×Obj)) (D:Ends) (f:Flow) (s':Shared):Prop :=
 match f with
 | .next=>∃ σ' H',Inv X pins σ' H' s'∧D.nx σ' H'
 | .brk=>∃ σ' H',Inv X pins σ' H' s'∧D.bk σ' H'
 | .cont=>∃ σ' H',Inv X pins σ' H' s'∧D.ct σ' H'
 | .ret u=>∃ v σ' H',Inv X pins σ' H' s'∧RelV v u∧D.rt v H'
def PE (X:Cx) (e:Expr) (t:TE):Prop :=
 ∀ (pins:List (Addr×Obj)) (s:Shared) (σ:St) (H:Hp) (Q:VK),Inv X pins σ H s→t σ H Q→wpAny (model X.prog X.w) X.A (eval e X.env) (EP X pins σ Q) X.xe s
def PT (X:Cx) (e:Expr) (t:TT):Prop :=
 ∀ (pins:List (Addr×Obj)) (s:Shared) (σ:St) (H:Hp) (Q:Bool→Hp→Prop),Inv X pins σ H s→t σ H Q→wpAny (model X.prog X.w) X.A (isTrue e X.env (eval e X.env)) (TP X pins σ Q) X.xe s
def PW (X:Cx) (e:Expr) (t:TT):Prop :=
 ∀ (whole:Sem Value) (pins:List (Addr×Obj)) (s:Shared) (σ:St) (H:Hp) (Q:Bool→Hp→Prop),Inv X pins σ H s→t σ H Q→wpAny (model X.prog X.w) X.A (isTrue e X.env whole) (TP X pins σ Q) X.xe s
theorem PW.pt {X:Cx} {e:Expr} {t:TT} (h:PW X e t):PT X e t:=h _
def PA (X:Cx) (es:List Expr) (t:TA):Prop :=
 ∀ (pos:Pos) (pins:List (Addr×Obj)) (s:Shared) (σ:St) (H:Hp) (Q:List V→Hp→Prop),Inv X pins σ H s→t σ H Q→wpAny (model X.prog X.w) X.A (spliced (backTo pos (starEach es X.env))) (AP X pins σ Q) X.xe s
def PS (X:Cx) (st:Stmt) (t:TS):Prop :=
 ∀ (pins:List (Addr×Obj)) (s:Shared) (σ:St) (H:Hp) (D:Ends),Inv X pins σ H s→t D σ H→wpAny (model X.prog X.w) X.A (exec st X.env) (SP X pins D) X.xe s
def PSs (X:Cx) (st:List Stmt) (t:TS):Prop :=
 ∀ (pins:List (Addr×Obj)) (s:Shared) (σ:St) (H:Hp) (D:Ends),Inv X pins σ H s→t D σ H→wpAny (model X.prog X.w) X.A (execs st X.env) (SP X pins D) X.xe s
theorem thn {α:Type} {t:Sem α} {Q Q':α→Shared→Prop} {M:Model} {A:Around} {E:Value→Shared→Prop} {s:Shared} (h:wpAny M A t Q E s) (hQ:∀ a s,Q a s→Q' a s):wpAny M A t Q' E s:=wpAny_mono h hQ fun _ _ x=>x
end L2
namespace L2
open PySem PySem.Spec PyProof.Rows
section
variable {X:Cx}
def tVar (i:Nat):TE:=fun σ H Q=>∃ v,σ[i]?=some (some v)∧Q v H
def tC (v:V):TE:=fun _ H Q=>Q v H
theorem vS {i:Nat} {x:Str} {pos:Pos} (hN:X.N[i]?=some x) (hv:Vis X.env.scope x) (hd:(x == ("__debug__":Str))=false:=by decide) (hcd:(x == ("__classdict__":Str))=false:=by decide):PE X (.Name x pos) (tVar i):=by
 intro pins s σ H Q I h
 obtain ⟨v,e,h⟩:=h
 obtain ⟨m,hn,hl⟩:=I.loc
 obtain ⟨u,r,l⟩:=hl i x v hN e hv
 have fin:EP X pins σ Q u s:=⟨v,H,I,r,h⟩
 rcases l with ⟨hk,hm⟩ | ⟨hk,c,hc,hcell⟩
 ·exact wpAny_Name (wpAny_loadName_local I.ok.kind hk hn hm fin) hd
 ·rcases hk with hk | hk
  ·exact wpAny_Name (wpAny_loadName_cell I.ok.kind hk hc hcell fin) hd
  ·exact wpAny_Name (wpAny_loadName_free I.ok.kind hk hc hcell fin hcd) hd
theorem vX {i j pos}:PE X (.Constant (.int i) j pos) (tC (.int i)):=fun _ _ _ H _ I h=>wpAny_Constant_int ⟨.int i,H,I.tok _,⟨_,rfl⟩,h⟩
theorem xR {b j pos}:PE X (.Constant (.bool b) j pos) (tC (.bl b)):=fun _ _ _ H _ I h=>Constant_bool ⟨.bl b,H,I,rfl,h⟩
theorem vU {j pos}:PE X (.Constant .none j pos) (tC .non):=fun _ _ _ H _ I h=>Constant_none ⟨.non,H,I,rfl,h⟩
theorem o9 {x j pos}:PE X (.Constant (.str x) j pos) (tC (.str x)):=fun _ _ _ H _ I h=>Calls.Constant_str ⟨.str x,H,I.tok _,⟨_,rfl⟩,h⟩
def Gl (X:Cx) (x:Str):Prop:=X.env.kindOf x=some .globalImplicit
theorem tD {E:Value→Shared→Prop} {pins:List (Addr×Obj)} {s:Shared} {σ:St} {H:Hp} {x:Str} {u:Value} {pos:Pos} {Q:Value→Shared→Prop} (I:Inv X pins σ H s) (hg:Gl X x) (hm:X.mg x=some u) (h:Q u s)
  (hd:(x == ("__debug__":Str))=false:=by decide):wpAny (model X.prog X.w) X.A (eval (.Name x pos) X.env) Q E s :=
 Calls.Name_function_global I.ok.kind hg (Calls.loadGlobal_global (by rw [I.ok.glob];exact I.mod.glob.keeps I.bk) hm h) hd
theorem dE {E:Value→Shared→Prop} {pins:List (Addr×Obj)} {s:Shared} {σ:St} {H:Hp} {x:Str} {u:Value} {pos:Pos} {Q:Value→Shared→Prop} (I:Inv X pins σ H s) (hg:Gl X x) (hm:X.mg x=none) (hv:bootBuiltins x=some u) (h:Q u s)
  (hn:x≠"__name__":=by decide) (hd:(x == ("__debug__":Str))=false:=by decide):wpAny (model X.prog X.w) X.A (eval (.Name x pos) X.env) Q E s:=by
 obtain ⟨mb,h1,h2⟩:=I.mod.blt
 exact Calls.Name_function_global I.ok.kind hg (Calls.loadGlobal_builtin (by rw [I.ok.glob];exact I.mod.glob.keeps I.bk) hm (by rw [I.ok.blt];exact h1.keeps I.bk) ((h2 x hn).trans hv) h) hd
variable {a b:Expr} {ta tb:TE} {pos:Pos}
def PC (X:Cx) (op:CmpOp) (a b:Expr) (t:TE):Prop :=
 ∀ (pins:List (Addr×Obj)) (s:Shared) (σ:St) (H:Hp) (Q:VK),Inv X pins σ H s→t σ H Q →
  wpAny (model X.prog X.w) X.A (eval a X.env) (fun v s₁=>wpAny (model X.prog X.w) X.A (eval b X.env) (fun u s₂=>wpAny (model X.prog X.w) X.A (compareOp op v u) (EP X pins σ Q) X.xe s₂) X.xe s₁) X.xe s
theorem nobehind (b:Expr) {op:CmpOp} (h:op≠.In) (h2:op≠.NotIn):behindInMarks op b=false:=by
 have e1:(op == CmpOp.In)=false:=by cases op <;> first | rfl | exact absurd rfl h
 have e2:(op == CmpOp.NotIn)=false:=by cases op <;> first | rfl | exact absurd rfl h2
 cases b <;> simp [behindInMarks,e1,e2]
def tB (t:TE):TT:=fun σ H Q=>t σ H fun x H1=>∃ c,x = .bl c∧Q c H1
theorem vM {op:CmpOp} {t:TE} (h:PC X op a b t) (h1:behindInMarks op b=false:=by first | exact nobehind _ (by decide) (by decide) | rfl):PT X (.Compare a [op] [b] pos) (tB t):=by
 intro pins s σ H Q I hw
 refine wpAny_isTrue_Compare1 (thn (h pins s σ H _ I hw) fun v s1 h1=>thn h1 fun u s2 h2=>thn h2 fun c s3 ⟨x,H1,I1,r1,q1⟩=>?_) h1
 obtain ⟨d,rfl,q⟩:=q1
 cases r1
 exact wpAny_truthy_bool ⟨H1,I1,q⟩
theorem vK {e:Expr} {t:TE} (h:PE X e t) (he:∀ whole,isTrue e X.env whole=(do let v ← whole;standAt e.pos;holding [v] (truthy v)):=by intro _;rfl):PT X e (tB t):=by
 intro pins s σ H Q I hw
 refine isTrue_plain (thn (h pins s σ H _ I hw) fun v s1 ⟨x,H1,I1,r1,q1⟩=>?_) (he _)
 obtain ⟨d,rfl,q⟩:=q1
 cases r1
 exact wpAny_truthy_bool ⟨H1,I1,q⟩
variable {tA tB':TT} {rest:List Expr}
def tAnd (t u:TT):TT:=fun σ H Q=>t σ H fun c H1=>if c=true then u σ H1 Q else Q false H1
def tOr (t u:TT):TT:=fun σ H Q=>t σ H fun c H1=>if c=true then Q true H1 else u σ H1 Q
def tNot (t:TT):TT:=fun σ H Q=>t σ H fun c H1=>Q (!c) H1
theorem rT (ha:PT X a tA):PW X (.BoolOp .And [a] pos) tA:=by
 intro wh pins s σ H Q I h
 refine isTrue_and (thn (ha pins s σ H Q I h) fun c s1 e=>?_)
 cases c with
 | true=>exact isTrue_and_nil e
 | false=>exact e
theorem vI (ha:PT X a tA):PW X (.BoolOp .Or [a] pos) tA:=by
 intro wh pins s σ H Q I h
 refine isTrue_or (thn (ha pins s σ H Q I h) fun c s1 e=>?_)
 cases c with
 | false=>exact isTrue_or_nil e
 | true=>exact e
theorem vJ (ha:PT X a tA) (hb:PW X (.BoolOp .And (b::rest) pos) tB'):PW X (.BoolOp .And (a::b::rest) pos) (tAnd tA tB'):=by
 intro wh pins s σ H Q I h
 refine isTrue_and (thn (ha pins s σ H _ I h) fun c s1 ⟨H1,I1,q1⟩=>?_)
 cases c with
 | true=>exact hb wh pins s1 σ H1 Q I1 q1
 | false=>exact ⟨H1,I1,q1⟩
theorem xF (ha:PT X a tA) (hb:PW X (.BoolOp .Or (b::rest) pos) tB'):PW X (.BoolOp .Or (a::b::rest) pos) (tOr tA tB'):=by
 intro wh pins s σ H Q I h
 refine isTrue_or (thn (ha pins s σ H _ I h) fun c s1 ⟨H1,I1,q1⟩=>?_)
 cases c with
 | true=>exact ⟨H1,I1,q1⟩
 | false=>exact hb wh pins s1 σ H1 Q I1 q1
theorem vL (ha:PT X a tA):PT X (.UnaryOp .Not a pos) (tNot tA):=by
 intro pins s σ H Q I h
 exact isTrue_not (ha pins s σ H (fun c H1=>Q (!c) H1) I h)
end
end L2
namespace L2
open PySem PySem.Spec PyProof.Rows
def SqL (K:xFr) (H:Hp) (a:Addr) (xs:List V):Prop :=
 Rd H a (.lst xs) ∨
  ∃ (o:Obj) (its:Array Value) (n:Nat),K.lookup a=some o∧o.cls = .type "list"∧o.dict=none∧o.data = .seq its n∧its.size≤sizeLine∧Vals xs its.toList
def SqT (K:xFr) (H:Hp) (a:Addr) (xs:List V):Prop :=
 Rd H a (.tup xs) ∨
  ∃ (o:Obj) (its:Array Value) (n:Nat),K.lookup a=some o∧o.cls = .type "tuple"∧o.data = .seq its n∧its.size≤sizeLine∧Vals xs its.toList
def absV:Value→Option V
 | .none=>some .non
 | .bool b=>some (.bl b)
 | .int i _=>some (.int i)
 | .str x _=>some (.str x)
 | .bytes b _=>some (.byt b)
 | .float b _=>some (.flt b)
 | .ref a=>some (.ref a)
 | .type n=>some (.ty n)
 | _=>none
theorem RelV.abs {x:V} {u:Value} (r:RelV x u):absV u=some x:=by
 cases x with
 | non=>cases r;rfl
 | bl _=>cases r;rfl
 | int _=>obtain ⟨t,rfl⟩:=r;rfl
 | str _=>obtain ⟨t,rfl⟩:=r;rfl
 | byt _=>obtain ⟨t,rfl⟩:=r;rfl
 | flt _=>obtain ⟨t,rfl⟩:=r;rfl
 | ref _=>cases r;rfl
 | ty _=>cases r;rfl
theorem RelV.inj {x y:V} {u:Value} (r:RelV x u) (q:RelV y u):x=y:=xB3 (r.abs.symm.trans q.abs)
theorem Vals.inj:∀ {xs ys:List V} {us:List Value},Vals xs us→Vals ys us→xs=ys
 | _,_,_,.nil,.nil=>rfl
 | _,_,_,.cons r t,.cons r' t'=>by rw [r.inj r',Vals.inj t t']
section
variable {X:Cx} {pins:List (Addr×Obj)} {σ:St} {H:Hp} {s:Shared} {a:Addr} {xs ys:List V}
theorem SqL.of {K:xFr} (h:H a=some (.lst xs)):SqL K H a xs:=.inl (.inl h)
theorem SqT.of {K:xFr} (h:H a=some (.tup xs)):SqT K H a xs:=.inl (.inl h)
theorem Inv.list (I:Inv X pins σ H s) (h:SqL X.K H a xs):∃ its:List Value,Vals xs its∧PlainL s.heap a its.toArray∧xs.length≤sizeLine:=by
 rcases h with h | ⟨o,its,n,hk,hc,hd,hs,hz,r⟩
 ·obtain ⟨z,its,n,r,e⟩:=h.ok I.hok
  exact ⟨its,r,⟨_,n,e,rfl,rfl,rfl⟩,z⟩
 ·refine ⟨its.toList,r,⟨o,n,I.kIn a o hk,hc,hd,by simpa using hs⟩,?_⟩
  have e:=r.length
  simp only [xAh] at e
  lia
theorem Inv.tuple (I:Inv X pins σ H s) (h:SqT X.K H a xs):∃ its:List Value,Vals xs its∧IsTup s.heap a its.toArray∧xs.length≤sizeLine:=by
 rcases h with h | ⟨o,its,n,hk,hc,hs,hz,r⟩
 ·obtain ⟨z,its,r,p⟩:=h.ok I.hok
  exact ⟨its,r,p,z⟩
 ·refine ⟨its.toList,r,⟨o,I.kIn a o hk,hc,n,by simpa using hs⟩,?_⟩
  have e:=r.length
  simp only [xAh] at e
  lia
theorem Inv.list_inj (I:Inv X pins σ H s) (h:SqL X.K H a xs) (h':SqL X.K H a ys):xs=ys:=by
 obtain ⟨its,r,⟨o,n,e,_,_,d⟩,_⟩:=I.list h
 obtain ⟨its',r',⟨o',n',e',_,_,d'⟩,_⟩:=I.list h'
 rw [e] at e';cases e'
 rw [d] at d'
 injection d' with d1 _
 have:its=its':=by simpa using congrArg Array.toList d1
 subst this
 exact r.inj r'
theorem Inv.tuple_inj (I:Inv X pins σ H s) (h:SqT X.K H a xs) (h':SqT X.K H a ys):xs=ys:=by
 obtain ⟨its,r,⟨o,e,_,n,d⟩,_⟩:=I.tuple h
 obtain ⟨its',r',⟨o',e',_,n',d'⟩,_⟩:=I.tuple h'
 rw [e] at e';cases e'
 rw [d] at d'
 injection d' with d1 _
 have:its=its':=by simpa using congrArg Array.toList d1
 subst this
 exact r.inj r'
end
abbrev Cx.wish (X:Cx) (E:Value→Shared→Prop):Cx:={ X with xe:=E }
abbrev Cx.nox (X:Cx):Cx:=X.wish fun _ _=>False
theorem Cx.Ok.wish {X:Cx} (ok:X.Ok) (E:Value→Shared→Prop):(X.wish E).Ok :=
 ⟨ok.mod,ok.kind,ok.glob,ok.blt,ok.above,ok.inj,ok.has,ok.cab,ok.hd,ok.frames,ok.stk,ok.exf,ok.bs,ok.bsz,ok.noex,ok.exfs,ok.funs,ok.frf⟩
theorem Cx.Ok.unwish {X:Cx} {E:Value→Shared→Prop} (ok:(X.wish E).Ok):X.Ok :=
 ⟨ok.mod,ok.kind,ok.glob,ok.blt,ok.above,ok.inj,ok.has,ok.cab,ok.hd,ok.frames,ok.stk,ok.exf,ok.bs,ok.bsz,ok.noex,ok.exfs,ok.funs,ok.frf⟩
section
variable {X:Cx} {pins:List (Addr×Obj)} {σ:St} {H:Hp} {s:Shared} {E:Value→Shared→Prop}
theorem Inv.wish (I:Inv X pins σ H s) (E:Value→Shared→Prop):Inv (X.wish E) pins σ H s:=⟨I.ok.wish E,I.os,I.bare,I.base,I.loc,I.cell,I.free,I.freeC,I.pin,I.hok,I.len⟩
theorem Inv.unwish (I:Inv (X.wish E) pins σ H s):Inv X pins σ H s:=⟨I.ok.unwish,I.os,I.bare,I.base,I.loc,I.cell,I.free,I.freeC,I.pin,I.hok,I.len⟩
theorem SP.unwish {D:Ends} {f:Flow} {s':Shared} (h:SP (X.wish E) pins D f s'):SP X pins D f s':=by
 cases f with
 | next=>obtain ⟨σ',H',I,q⟩:=h;exact ⟨σ',H',I.unwish,q⟩
 | brk=>obtain ⟨σ',H',I,q⟩:=h;exact ⟨σ',H',I.unwish,q⟩
 | cont=>obtain ⟨σ',H',I,q⟩:=h;exact ⟨σ',H',I.unwish,q⟩
 | ret u=>obtain ⟨v,σ',H',I,r,q⟩:=h;exact ⟨v,σ',H',I.unwish,r,q⟩
theorem PSs.nox {st:List Stmt} {t:TS} (h:PSs X.nox st t):PSs X st t:=fun pins s σ H D I hw =>
 wpAny_mono (h pins s σ H D (I.wish _) hw) (fun _ _ q=>q.unwish) fun _ _ z=>False.elim z
end
section
variable {X:Cx} {st:Stmt} {rest:List Stmt} {t u:TS} {e:Expr} {te:TE} {pos:Pos}
def tNext:TS:=fun D σ H=>D.nx σ H
def tSeq (t u:TS):TS:=fun D σ H=>t { D with nx:=u D } σ H
theorem rZ:PSs X [] tNext:=fun _ _ σ H _ I h=>wpAny_execs_nil ⟨σ,H,I,h⟩
theorem o3 (h1:PS X st t) (h2:PSs X rest u):PSs X (st::rest) (tSeq t u):=by
 intro pins s σ H D I h
 refine wpAny_execs_cons (thn (h1 pins s σ H { D with nx:=u D } I h) fun f s1 q=>?_)
 cases f with
 | next =>
  obtain ⟨σ',H',I',q⟩:=q
  exact h2 pins s1 σ' H' D I' q
 | ret v=>exact q
 | brk=>exact q
 | cont=>exact q
theorem rY (h1:PS X st t):PSs X [st] t:=by
 intro pins s σ H D I h
 refine wpAny_execs_cons (thn (h1 pins s σ H D I h) fun f s1 q=>?_)
 cases f with
 | next=>exact wpAny_execs_nil q
 | ret v=>exact q
 | brk=>exact q
 | cont=>exact q
theorem Inv.quiet {pins:List (Addr×Obj)} {σ:St} {H:Hp} {s:Shared} (I:Inv X pins σ H s):interactive X.env=false:=by simp [interactive,I.ok.kind]
def tDrop (te:TE):TS:=fun D σ H=>te σ H fun _ H1=>D.nx σ H1
theorem r9 (he:PE X e te) (hs:swapsWith e none pos.line X.env=pure false:=by rfl):PS X (.Expr e pos) (tDrop te):=by
 intro pins s σ H D I h
 exact wpAny_Expr_any (thn (he pins s σ H _ I h) fun v s1 ⟨x,H1,I1,r1,q1⟩=>⟨σ,H1,I1,q1⟩) I.quiet hs
def tRet (te:TE):TS:=fun D σ H=>te σ H D.rt
theorem vO (he:PE X e te):PS X (.Return (some e) pos) (tRet te):=by
 intro pins s σ H D I h
 exact wpAny_Return_some (thn (he pins s σ H _ I h) fun v s1 ⟨x,H1,I1,r1,q1⟩=>⟨x,σ,H1,I1,r1,q1⟩)
def tIfS (c:TT) (t u:TS):TS:=fun D σ H=>c σ H fun b H1=>if b=true then t D σ H1 else u D σ H1
theorem xI {c:Expr} {a b:List Stmt} {tc:TT} (hc:PT X c tc) (ha:PSs X a t) (hb:PSs X b u):PS X (.If c a b pos) (tIfS tc t u):=by
 intro pins s σ H D I h
 refine wpAny_If (thn (hc pins s σ H _ I h) fun d s1 ⟨H1,I1,q1⟩=>?_)
 cases d with
 | true=>exact ha pins s1 σ H1 D I1 q1
 | false=>exact hb pins s1 σ H1 D I1 q1
end
abbrev TG:=V→St→Hp→(St→Hp→Prop)→Prop
abbrev TGs:=List V→St→Hp→(St→Hp→Prop)→Prop
def PG (X:Cx) (target:Expr) (t:TG):Prop :=
 ∀ (pins:List (Addr×Obj)) (s:Shared) (σ:St) (H:Hp) (v:V) (u:Value) (Q:St→Hp→Prop),Inv X pins σ H s→RelV v u→t v σ H Q →
  wpAny (model X.prog X.w) X.A (assign target X.env u) (fun _ s'=>∃ σ' H',Inv X pins σ' H' s'∧Q σ' H') X.xe s
def PGs (X:Cx) (ts:List Expr) (t:TGs):Prop :=
 ∀ (pins:List (Addr×Obj)) (s:Shared) (σ:St) (H:Hp) (vs:List V) (us:List Value) (Q:St→Hp→Prop),Inv X pins σ H s→Vals vs us→t vs σ H Q →
  wpAny (model X.prog X.w) X.A (assignInOrder ((assignEach ts X.env).map (·.2)) us) (fun _ s'=>∃ σ' H',Inv X pins σ' H' s'∧Q σ' H') X.xe s
section
variable {X:Cx} {pos:Pos}
def gName (i:Nat):TG:=fun v σ H Q=>Q (σ.set i (some v)) H
theorem sm {i:Nat} {x:Str} (hN:X.N.Nodup) (hi:X.N[i]?=some x) (hx:Loc X.env.scope x) (hf:X.fn x=true∨X.env.scope.names.lookup x=some .local:=by first | exact .inl rfl | exact .inr rfl | assumption):PG X (.Name x pos) (gName i):=by
 intro pins s σ H v u Q I r h
 exact wpAny_assign_Name (jd I hN hi hx r (fun s' I'=>⟨_,H,I',h⟩) hf)
def gNil:TGs:=fun vs σ H Q=>vs=[]∧Q σ H
def gCons (t:TG) (u:TGs):TGs:=fun vs σ H Q=>∃ v r,vs=v::r∧t v σ H fun σ' H'=>u r σ' H' Q
theorem sk:PGs X [] gNil:=by
 intro pins s σ H vs us Q I r h
 obtain ⟨e,h⟩:=h
 subst e
 cases r
 exact assignInOrder_nil ⟨σ,H,I,h⟩
theorem o8 {e:Expr} {es:List Expr} {t:TG} {u:TGs} (h1:PG X e t) (h2:PGs X es u)
  (hs:(assignEach (e::es) X.env).map (·.2)=assign e X.env::(assignEach es X.env).map (·.2):=by rfl):PGs X (e::es) (gCons t u):=by
 intro pins s σ H vs us Q I r h
 obtain ⟨v,vr,e1,h⟩:=h
 subst e1
 cases r with
 | cons r rr =>
  rw [hs]
  refine assignInOrder_cons (thn (h1 pins s σ H _ _ _ I r h) fun _ s1 ⟨σ1,H1,I1,q1⟩=>?_)
  exact h2 pins s1 σ1 H1 _ _ Q I1 rr q1
def gTup (K:xFr) (n:Nat) (t:TGs):TG:=fun v σ H Q=>∃ a xs,v = .ref a∧SqT K H a xs∧xs.length=n∧t xs σ H Q
theorem vR {es:List Expr} {k:Nat} {t:TGs} {n:Nat} (hc:X.calm=true) (h:PGs X es t)
  (hn:(assignEach es X.env).length=n:=by rfl) (hst:(assignEach es X.env).findIdx? (·.1)=none:=by rfl):PG X (.Tuple es k pos) (gTup X.K n t):=by
 intro pins s σ H v u Q I r hw
 obtain ⟨a,xs,e1,hq,hl,hw⟩:=hw
 subst e1
 cases r
 obtain ⟨its,rv,ht,hz⟩:=I.tuple hq
 refine assign_Tuple_tuple (I.ok.hd hc) ht (by simp [hn,← hl,rv.length]) hst fun h' hx=>?_
 have I1:Inv X pins σ H { s with heap:=h' }:=I.kept (t':=s.toks) fun b o e=>hx b o (xA0 (xA1 e)) e
 exact h pins _ σ H xs _ Q I1 (by simpa using rv) hw
def tAsg (te:TE) (g:TG):TS:=fun D σ H=>te σ H fun x H1=>g x σ H1 D.nx
theorem vQ {tg e:Expr} {te:TE} {g:TG} (he:PE X e te) (hg:PG X tg g) (hs:swapsWithSole [tg] e pos.line X.env=pure false:=by rfl) (hw:swappedStores [tg] e X.env=pure none:=by rfl)
  (h1:(assignEach [tg] X.env).map (·.2)=[assign tg X.env]:=by rfl):PS X (.Assign [tg] e pos) (tAsg te g):=by
 intro pins s σ H D I h
 refine wpAny_Assign_stores (thn (he pins s σ H _ I h) fun v s1 ⟨x,H1,I1,r1,q1⟩=>?_) hs hw
 rw [h1]
 exact thn (hg pins s1 σ H1 x v _ I1 r1 q1) fun _ s2 q=>q
theorem vN {i:Nat} {x:Str} {e:Expr} {te:TE} {pos':Pos} (hN:X.N.Nodup) (hi:X.N[i]?=some x) (hx:Loc X.env.scope x) (he:PE X e te) (hs:swapsWith e (some (.Name x pos')) pos.line X.env=pure false:=by rfl) (hf:X.fn x=true∨X.env.scope.names.lookup x=some .local:=by first | exact .inl rfl | exact .inr rfl | assumption) :
  PS X (.Assign [.Name x pos'] e pos) (tAsg te (gName i)):=by
 intro pins s σ H D I h
 refine wpAny_Assign_Name (thn (he pins s σ H _ I h) fun v s1 ⟨y,H1,I1,r1,q1⟩=>?_) hs
 exact jd I1 hN hi hx r1 (fun s2 I2=>⟨_,H1,I2,q1⟩) hf
end
section
variable {X:Cx} {pos:Pos}
def tWhile (c:TT) (tb:TS):TS:=fun D σ H=>∃ W:Nat→St→Hp→Prop,(∃ m,W m σ H)∧∀ m σ H,W m σ H →
 c σ H fun b H1=>if b=true then ∃ N:St→Hp→Prop,(∀ σ' H',N σ' H'→∃ m',m'<m∧W m' σ' H')∧tb { D with nx:=N,ct:=N,bk:=D.nx } σ H1 else D.nx σ H1
theorem o4 {c:Expr} {body:List Stmt} {tc:TT} {tb:TS} (hp:PassesOwn (model X.prog X.w) X.A X.env X.xe) (hc:PT X c tc) (hb:PSs X body tb):PS X (.While c body [] pos) (tWhile tc tb):=by
 intro pins s σ H D I h
 obtain ⟨W,⟨m0,w0⟩,turn⟩:=h
 refine wpAny_While (codeAny_whileLoop (fun n s'=>∃ σ' H',Inv X pins σ' H' s'∧W n σ' H') ?_ m0 ⟨σ,H,I,w0⟩)
 rintro n s1 ⟨σ1,H1,I1,w1⟩
 refine wpAny_passesOwn hp (thn (hc pins s1 σ1 H1 _ I1 (turn n σ1 H1 w1)) fun b s2 ⟨H2,I2,q2⟩=>?_)
 cases b with
 | true =>
  obtain ⟨N,hN,q2⟩:=q2
  rw [xCg rfl]
  refine wpAny_passesOwn hp (thn (hb pins s2 σ1 H2 _ I2 q2) fun f s3 q3=>?_)
  cases f with
  | next =>
   obtain ⟨σ3,H3,I3,n3⟩:=q3
   obtain ⟨m',hm,w3⟩:=hN σ3 H3 n3
   exact ⟨m',hm,σ3,H3,I3,w3⟩
  | cont =>
   obtain ⟨σ3,H3,I3,n3⟩:=q3
   obtain ⟨m',hm,w3⟩:=hN σ3 H3 n3
   exact ⟨m',hm,σ3,H3,I3,w3⟩
  | brk=>exact q3
  | ret v=>exact q3
 | false =>
  rw [xCf xAy]
  exact wpAny_execs_nil ⟨σ1,H2,I2,q2⟩
end
structure It where
 go:Nat→Hp→Prop
 yld:Nat→Hp→V→Hp→Prop
 stop:Nat→Hp→Prop
def FpOk (X:Cx) (pins:List (Addr×Obj)) (H:Hp) (b:Addr):Prop :=
 H b=none∧b≠X.env.locals∧b ∉ X.fs∧(b∈X.ex∨X.s₀.heap.objs.size≤b)∧(∀ x c,X.env.cells.lookup x=some c→c≠b)∧∀ p∈X.pn++pins,p.1≠b
theorem Inv.fpOk {X:Cx} {pins:List (Addr×Obj)} {σ:St} {H H':Hp} {s:Shared} {b:Addr} (I:Inv X pins σ H s) (hb:s.heap.objs.size≤b) (hn:H' b=none):FpOk X pins H' b:=by
 refine ⟨hn,Nat.ne_of_gt (xBc I.lt hb),I.nofs hb,.inr (Nat.le_trans I.sz hb),fun x c e z=>?_,fun p hp z=>?_⟩
 ·obtain ⟨v,q⟩:=I.cell x c e
  exact absurd (xBc q.lt (by rw [z];exact hb)) (xBo _)
 ·exact absurd (xBc (xA1 (I.pin p hp).1) (by rw [z];exact hb)) (xBo _)
structure Turn (P:Program) (w:World) (K:xFr) (tg:Expr) (J:It) (fp:List Addr) (it:Addr) (tn:Nat→Heap→Prop):Prop where
 mem:it∈fp
 obj:∀ i h,tn i h→∀ b∈fp,∃ o,h.get? b=some o∧∀ v,o.data≠.cell v
 keep:∀ i h h',tn i h→(∀ b∈fp,∀ o,h.get? b=some o→h'.get? b=some o)→tn i h'
 item:∀ (X:Cx),X.prog=P→X.w=w→X.K=K→X.calm=true→∀ (i:Nat) (pins:List (Addr×Obj)) (s:Shared) (σ:St) (H:Hp) (E:Value→Shared→Prop),Inv X pins σ H s→(∀ b∈fp,FpOk X pins H b)→tn i s.heap→J.go i H →
  wpAny (model P w) X.A (pyNext (.ref it)) (fun r s1=>∃ u,r=some u ∧
   wpAny (model P w) X.A (letOwnedTupleGo tg (.ref it) u) (fun _ s2=>∃ x H',Inv X pins σ H' s2∧RelV x u∧J.yld i H x H'∧tn (i+1) s2.heap∧∀ b∈fp,H' b=none) E s1) E s
 done:∀ (X:Cx),X.prog=P→X.w=w→X.K=K→X.calm=true→∀ (i:Nat) (pins:List (Addr×Obj)) (s:Shared) (σ:St) (H:Hp) (E:Value→Shared→Prop),Inv X pins σ H s→(∀ b∈fp,FpOk X pins H b)→tn i s.heap→J.stop i H →
  wpAny (model P w) X.A (pyNext (.ref it)) (fun r s1=>r=none∧Inv X pins σ H s1) E s
 self:∀ (A:Around) (i:Nat) (s:Shared) (Q:Value→Shared→Prop) (E:Value→Shared→Prop),tn i s.heap→Q (.ref it) s→wpAny (model P w) A (pyIter (.ref it)) Q E s
abbrev TI:=St→Hp→(It→Hp→Prop)→Prop
def PIE (X:Cx) (pins:List (Addr×Obj)) (σ:St) (tg:Expr) (R:It→Hp→Prop) (itv:Value) (s2:Shared):Prop :=
 ∃ (it:Addr) (fp:List Addr) (tn:Nat→Heap→Prop) (J:It) (H':Hp),itv = .ref it∧Inv X pins σ H' s2∧Turn X.prog X.w X.K tg J fp it tn∧tn 0 s2.heap∧(∀ b∈fp,FpOk X pins H' b)∧R J H'
def PI (X:Cx) (tg iter:Expr) (wi:TI):Prop :=
 ∀ (pins:List (Addr×Obj)) (s:Shared) (σ:St) (H:Hp) (R:It→Hp→Prop),Inv X pins σ H s→wi σ H R →
  wpAny (model X.prog X.w) X.A (eval iter X.env) (fun v s1=>wpAny (model X.prog X.w) X.A (pyIter v) (PIE X pins σ tg R) X.xe s1) X.xe s
theorem jB {M:Model} {A:Around} {E:Value→Shared→Prop} {s:Shared} {tg:Expr} {it:Addr} {u:Value} {o:Obj} {n:String} {vs:Array Value} {Q:Unit→Shared→Prop} (ho:s.heap.get? it=some o) (hc:o.cls = .type n) (hd:o.data = .fields vs)
  (hn:["enumerate","zip","dict_itemiterator","dict_reverseitemiterator","odict_iterator","itertools.zip_longest","itertools.pairwise"].contains n=false) (hQ:Q () s):wpAny M A (letOwnedTupleGo tg (.ref it) u) Q E s:=by
 unfold letOwnedTupleGo
 cases tg <;> first
  | exact xAe hQ
  | (cases u <;> first
    | exact xAe hQ
    | (refine xAd (wpAny_load ho ?_)
       rw [hc,hd]
       show wpAny M A (if (["enumerate","zip","dict_itemiterator","dict_reverseitemiterator","odict_iterator","itertools.zip_longest","itertools.pairwise"].contains n && vs[0]? == some (rawInt _))=true then _ else _) Q E s
       rw [xCf (by intro h;rw [hn,Bool.false_and] at h;cases h)]
       exact xAe hQ))
def Itl (K:xFr) (a:Addr):It :=
 ⟨fun i H=>∃ xs x,SqL K H a xs∧xs[i]?=some x,fun i H x H'=>H'=H∧∀ xs,SqL K H a xs→xs[i]?=some x,fun i H=>∃ xs,SqL K H a xs∧xs.length≤i⟩
def Itt (K:xFr) (a:Addr):It :=
 ⟨fun i H=>∃ xs x,SqT K H a xs∧xs[i]?=some x,fun i H x H'=>H'=H∧∀ xs,SqT K H a xs→xs[i]?=some x,fun i H=>∃ xs,SqT K H a xs∧xs.length≤i⟩
def Itr (lo:Int) (n:Nat):It:=⟨fun i _=>i<n,fun i H x H'=>H'=H∧x = .int (lo+i),fun i _=>n≤i⟩
theorem gP {P:Program} {w:World} {K:xFr} {tg:Expr} (a it:Addr):Turn P w K tg (Itl K a) [it] it (fun i h=>h.IsListIter it a i) where
 mem:=by simp
 obj:=fun i h st b hb=>by
  have e:b=it:=by simpa using hb
  subst e
  obtain ⟨o,e,c,d⟩:=st
  exact ⟨o,e,fun v z=>by rw [d] at z;cases z⟩
 keep:=fun i h h' st k=>st.at fun o e=>k it (by simp) o e
 item:=by
  intro X hP hw hK hc i pins s σ H E I hf st hg
  subst hP hw hK
  obtain ⟨xs,x,hq,hx⟩:=hg
  obtain ⟨its,rv,p,hz⟩:=I.list hq
  obtain ⟨u,hu,ru⟩:=rv.get hx
  obtain ⟨f0,f1,f2,f3,f4,f5⟩:=hf it (by simp)
  refine wpAny_pyNext_list_item st p.isList (x:=u) (by simpa using hu) fun h' st' sb=>?_
  have I1:Inv X pins σ H { s with heap:=h' }:=I.turned (t':=s.toks) (fun b o hb e=>(sb.2 b hb).trans e) f0 f1 f3 f4 f5
  obtain ⟨o,e,c,d⟩:=id st'
  exact ⟨u,rfl,jB (s:={ s with heap:=h' }) e c d (by decide) ⟨x,H,I1,ru,⟨rfl,fun ys hy=>by rw [I.list_inj hy hq];exact hx⟩,st',fun b hb=>(hf b hb).1⟩⟩
 done:=by
  intro X hP hw hK hc i pins s σ H E I hf st hg
  subst hP hw hK
  obtain ⟨xs,hq,hx⟩:=hg
  obtain ⟨its,rv,p,hz⟩:=I.list hq
  obtain ⟨f0,f1,f2,f3,f4,f5⟩:=hf it (by simp)
  have hl:=rv.length
  exact wpAny_pyNext_list_end (I.ok.hd hc) st p.isList (by simp;lia) fun h' eb=>⟨rfl,I.turned (t':=s.toks) (fun b o hb e=>eb b o hb e) f0 f1 f3 f4 f5⟩
 self:=fun _ _ _ _ _ st h=>wpAny_pyIter_listiter st h
theorem f8 {P:Program} {w:World} {K:xFr} {tg:Expr} (a it:Addr):Turn P w K tg (Itt K a) [it] it (fun i h=>h.IsTupleIter it a i) where
 mem:=by simp
 obj:=fun i h st b hb=>by
  have e:b=it:=by simpa using hb
  subst e
  obtain ⟨o,e,c,d⟩:=st
  exact ⟨o,e,fun v z=>by rw [d] at z;cases z⟩
 keep:=fun i h h' st k=>st.at fun o e=>k it (by simp) o e
 item:=by
  intro X hP hw hK hc i pins s σ H E I hf st hg
  subst hP hw hK
  obtain ⟨xs,x,hq,hx⟩:=hg
  obtain ⟨its,rv,p,hz⟩:=I.tuple hq
  obtain ⟨u,hu,ru⟩:=rv.get hx
  obtain ⟨f0,f1,f2,f3,f4,f5⟩:=hf it (by simp)
  refine wpAny_pyNext_tuple_item st (show s.heap.IsTuple a its.toArray from p) (x:=u) (by simpa using hu) fun h' st' sb=>?_
  have I1:Inv X pins σ H { s with heap:=h' }:=I.turned (t':=s.toks) (fun b o hb e=>(sb.2 b hb).trans e) f0 f1 f3 f4 f5
  obtain ⟨o,e,c,d⟩:=id st'
  exact ⟨u,rfl,jB (s:={ s with heap:=h' }) e c d (by decide) ⟨x,H,I1,ru,⟨rfl,fun ys hy=>by rw [I.tuple_inj hy hq];exact hx⟩,st',fun b hb=>(hf b hb).1⟩⟩
 done:=by
  intro X hP hw hK hc i pins s σ H E I hf st hg
  subst hP hw hK
  obtain ⟨xs,hq,hx⟩:=hg
  obtain ⟨its,rv,p,hz⟩:=I.tuple hq
  obtain ⟨f0,f1,f2,f3,f4,f5⟩:=hf it (by simp)
  have hl:=rv.length
  exact wpAny_pyNext_tuple_end (I.ok.hd hc) st (show s.heap.IsTuple a its.toArray from p) (by simp;lia) fun h' eb=>⟨rfl,I.turned (t':=s.toks) (fun b o hb e=>eb b o hb e) f0 f1 f3 f4 f5⟩
 self:=fun _ _ _ _ _ st h=>wpAny_pyIter_tupleiter st h
theorem j4 {P:Program} {w:World} {K:xFr} {tg:Expr} (it:Addr) (lo:Int) (n:Nat):Turn P w K tg (Itr lo n) [it] it (fun i h=>IsRangeIter h it (lo+(i:Nat) * 1) ((n:Int) - (i:Nat)) 1) where
 mem:=by simp
 obj:=fun i h st b hb=>by
  have e:b=it:=by simpa using hb
  subst e
  exact ⟨_,st,fun v z=>by
   have z':Data.fields _=Data.cell v:=z
   cases z'⟩
 keep:=fun i h h' st k=>k it (by simp) _ st
 item:=by
  intro X hP hw hK hc i pins s σ H E I hf st hg
  subst hP hw hK
  obtain ⟨f0,f1,f2,f3,f4,f5⟩:=hf it (by simp)
  have W:=Walks.range (prog:=X.prog) (w:=X.w) (I.ok.hd hc) it lo 1 n
  refine W.item i s _ _ hg st fun v h' tk hv st' kk=>?_
  obtain ⟨t,rfl⟩:=hv
  have I1:Inv X pins σ H { s with heap:=h',toks:=tk }:=I.turned (fun b o hb e=>kk b o (by simpa using hb) e) f0 f1 f3 f4 f5
  refine ⟨_,rfl,jB (s:={ s with heap:=h',toks:=tk }) (n:="range_iterator") st' rfl rfl (by decide) ⟨.int (lo+i),H,I1,⟨t,?_⟩,⟨rfl,rfl⟩,st',fun b hb=>(hf b hb).1⟩⟩
  rw [Int.mul_one]
 done:=by
  intro X hP hw hK hc i pins s σ H E I hf st hg
  subst hP hw hK
  obtain ⟨f0,f1,f2,f3,f4,f5⟩:=hf it (by simp)
  exact wpAny_pyNext_range_end (I.ok.hd hc) st (by have:n≤i:=hg;lia) fun h' eb=>⟨rfl,I.turned (t':=s.toks) (fun b o hb e=>eb b o hb e) f0 f1 f3 f4 f5⟩
 self:=fun _ _ _ _ _ st h=>wpAny_pyIter_rangeiter st h
end L2
namespace L2
open PySem PySem.Spec PyProof.Rows
section
variable {X:Cx} {tg:Expr}
def iList (K:xFr) (tl:TE):TI:=fun σ H R=>tl σ H fun x H1=>∃ a,x = .ref a∧(∃ xs,SqL K H1 a xs)∧R (Itl K a) H1
def iTup (K:xFr) (tl:TE):TI:=fun σ H R=>tl σ H fun x H1=>∃ a,x = .ref a∧(∃ xs,SqT K H1 a xs)∧R (Itt K a) H1
theorem oC {pins:List (Addr×Obj)} {σ:St} {H:Hp} {s:Shared} {R:It→Hp→Prop} {E:Value→Shared→Prop} {lo hi:Int} {t u v:Tok} {tk:Nat} (I:Inv X pins σ H s) (h1:-(2 ^ 62)≤lo) (h2:lo<2 ^ 62) (h3:-(2 ^ 62)≤hi) (h4:hi<2 ^ 62)
  (q:R (Itr lo (hi - lo).toNat) H):wpAny (model X.prog X.w) X.A (pyIter (.ref s.heap.objs.size)) (PIE X pins σ tg R) E { s with heap:=s.heap.push { cls:=.type "range",data:=.fields #[.int lo t,.int hi u,.int 1 v] },toks:=tk }:=by
 refine wpAny_pyIter_range (IsRange.new ..) (small_one h1 h2 h3 h4) ?_
 have I1:Inv X pins σ H { s with heap:=s.heap.push { cls:=.type "range",data:=.fields #[.int lo t,.int hi u,.int 1 v] },toks:=tk }:=I.kept fun b o e=>xAf _ e
 refine ⟨(s.heap.push { cls:=.type "range",data:=.fields #[.int lo t,.int hi u,.int 1 v] }).objs.size,[(s.heap.push { cls:=.type "range",data:=.fields #[.int lo t,.int hi u,.int 1 v] }).objs.size],_,_,H,rfl,
  I1.kept (t':=tk) fun b o e=>xAf _ e,j4 _ lo (hi - lo).toNat,?_,fun b hb=>?_,q⟩
 ·have e1:lo+((0:Nat):Int) * 1=lo:=by simp
  have e2:(((hi - lo).toNat:Nat):Int) - ((0:Nat):Int)=Builtin.Range.rangeSize lo hi 1:=by rw [rangeSize_one];split <;> lia
  show IsRangeIter _ _ (lo+((0:Nat):Int) * 1) ((((hi - lo).toNat:Nat):Int) - ((0:Nat):Int)) 1
  rw [e1,e2]
  exact xAl _ rfl
 ·have e:b=(s.heap.push { cls:=.type "range",data:=.fields #[.int lo t,.int hi u,.int 1 v] }).objs.size:=by simpa using hb
  subst e
  exact I1.fpOk (xAg _) (I1.hok.fresh (xAg _))
def iRng1 (ta:TA):TI:=fun σ H R=>ta σ H fun vs H1=>∃ j:Int,vs=[.int j]∧-(2 ^ 62)≤j∧j<2 ^ 62∧R (Itr 0 j.toNat) H1
theorem mZ {a:Expr} {ta:TA} {p pos:Pos} (hg:Gl X "range") (hm:X.mg "range"=none) (ha:PA X [a] ta) (hs:starEach [a] X.env=[(false,eval a X.env)]:=by rfl):PI X tg (.Call (.Name "range" p) [a] [] pos) (iRng1 ta):=by
 intro pins s σ H R I h
 refine Call_ (dE I hg hm boot_range (PyProof.Rows.callWith_type1 (thn (ha pos pins s σ H _ I h) fun us s1 ⟨vs,H1,I1,r1,q1⟩=>?_) hs rfl))
 obtain ⟨j,e,q1,q2,q⟩:=q1
 subst e
 cases r1 with
 | cons r rr =>
  cases rr
  obtain ⟨t,rfl⟩:=r
  exact call_range_1 (oC I1 (by lia) (by lia) q1 q2 (by simpa using q))
def tFor (wi:TI) (g:TG) (tb:TS):TS:=fun D σ H=>wi σ H fun J H1=>∃ W:Nat→Nat→St→Hp→Prop,(∃ m,W 0 m σ H1)∧∀ i m σ H,W i m σ H →
 (J.stop i H∧D.nx σ H)∨(J.go i H∧∃ N:St→Hp→Prop,(∀ σ' H',N σ' H'→∃ m',m'<m∧W (i+1) m' σ' H')∧∀ x H',J.yld i H x H'→g x σ H' fun σ2 H2=>tb { D with nx:=N,ct:=N,bk:=D.nx } σ2 H2)
def pinsAt (fp:List Addr) (h:Heap):List (Addr×Obj):=fp.filterMap fun b=>(h.get? b).map fun o=>(b,o)
theorem df {fp:List Addr} {h:Heap} {b:Addr} {o:Obj} (hb:b∈fp) (e:h.get? b=some o):(b,o)∈pinsAt fp h:=List.mem_filterMap.mpr ⟨b,hb,by rw [e];rfl⟩
theorem nk {fp:List Addr} {h:Heap} {p:Addr×Obj} (hp:p∈pinsAt fp h):p.1∈fp∧h.get? p.1=some p.2:=by
 obtain ⟨b,hb,e⟩:=List.mem_filterMap.mp hp
 cases q:h.get? b with
 | none=>rw [q] at e;cases e
 | some o =>
  rw [q] at e
  have e':(b,o)=p:=xB3 e
  subst e'
  exact ⟨hb,q⟩
theorem Inv.pinned {pins:List (Addr×Obj)} {σ:St} {H:Hp} {s:Shared} {fp:List Addr} (I:Inv X pins σ H s) (hf:∀ b∈fp,FpOk X pins H b) (ho:∀ b∈fp,∃ o,s.heap.get? b=some o∧∀ v,o.data≠.cell v):Inv X (pins++pinsAt fp s.heap) σ H s :=
 I.pins_of fun p hp=>(xAj.mp hp).elim (fun z=>I.pin p (xBt _ z)) fun z=>by
  obtain ⟨hb,e⟩:=nk z
  obtain ⟨f0,f1,f2,_⟩:=hf p.1 hb
  obtain ⟨o,e',d⟩:=ho p.1 hb
  rw [e] at e';cases e'
  exact ⟨e,f0,f1,f2,d⟩
theorem Inv.unpinned {pins pl:List (Addr×Obj)} {σ:St} {H:Hp} {s:Shared} (I:Inv X (pins++pl) σ H s):Inv X pins σ H s:=I.pins_of fun p hp=>I.pin p (xBt _ (xBw _ hp))
theorem vP {iter:Expr} {body:List Stmt} {wi:TI} {g:TG} {tb:TS} {pos:Pos} (hp:PassesOwn (model X.prog X.w) X.A X.env X.xe) (hc:X.calm=true) (hi:PI X tg iter wi) (hg:PG X tg g) (hb:PSs X body tb)
  (hs:∀ x,foldedSetIterable iter X.env x=pure x:=by intro _;rfl):PS X (.For tg iter body [] pos) (tFor wi g tb):=by
 intro pins s σ H D I h
 refine wpAny_For (thn (hi pins s σ H _ I h) fun v s1 h1=>thn h1 fun itv s2 h2=>?_) hs
 obtain ⟨it,fp,tn,J,H2,e,I2,T,st2,f2,W,⟨m0,w0⟩,turn⟩:=h2
 subst e
 -- what stays true of the iterator's objects through the loop
 have stat:∀ {H':Hp},(∀ b∈fp,H' b=none)→∀ b∈fp,FpOk X pins H' b:=fun hn b hb=>⟨hn b hb,(f2 b hb).2⟩
 refine codeAny_forLoop_any (fun n s'=>∃ i σ' H',Inv X pins σ' H' s'∧tn i s'.heap∧(∀ b∈fp,H' b=none)∧W i n σ' H') ?_ m0 ⟨0,σ,H2,I2,st2,fun b hb=>(f2 b hb).1,w0⟩
 rintro n s3 ⟨i,σ3,H3,I3,st3,fr3,w3⟩
 rcases turn i n σ3 H3 w3 with ⟨stop,qn⟩ | ⟨go,N,hN,step⟩
 ·refine wpAny_passesOwn hp (thn (T.done X rfl rfl rfl hc i pins s3 σ3 H3 X.xe I3 (stat fr3) st3 stop) fun r s4 ⟨hr,I4⟩=>?_)
  subst hr
  exact wpAny_execs_nil ⟨σ3,H3,I4,qn⟩
 ·refine wpAny_passesOwn hp (thn (T.item X rfl rfl rfl hc i pins s3 σ3 H3 X.xe I3 (stat fr3) st3 go) fun r s4 ⟨u,hr,h4⟩=>?_)
  subst hr
  refine wpAny_passesOwn hp (thn h4 fun _ s5 ⟨x,H5,I5,r5,y5,st5,fr5⟩=>?_)
  have I5':=I5.pinned (stat fr5) (T.obj _ _ st5)
  refine wpAny_passesOwn hp (thn (hg _ s5 σ3 H5 x u _ I5' r5 (step x H5 y5)) fun _ s6 ⟨σ6,H6,I6,q6⟩=>?_)
  refine wpAny_passesOwn hp (thn (hb _ s6 σ6 H6 _ I6 q6) fun f s7 q7=>?_)
  have again:∀ {σ7:St} {H7:Hp},Inv X (pins++pinsAt fp s5.heap) σ7 H7 s7→N σ7 H7→∃ m,m<n∧∃ i σ' H',Inv X pins σ' H' s7∧tn i s7.heap∧(∀ b∈fp,H' b=none)∧W i m σ' H':=fun {σ7 H7} I7 n7=>by
   obtain ⟨m',hm,w7⟩:=hN σ7 H7 n7
   refine ⟨m',hm,i+1,σ7,H7,I7.unpinned,T.keep _ _ _ st5 fun b hb o e=>(I7.pin (b,o) (xBt _ (xBt _ (df hb e)))).1,fun b hb=>?_,w7⟩
   obtain ⟨o,e,d⟩:=T.obj _ _ st5 b hb
   exact (I7.pin (b,o) (xBt _ (xBt _ (df hb e)))).2.1
  cases f with
  | next=>obtain ⟨σ7,H7,I7,n7⟩:=q7;exact again I7 n7
  | cont=>obtain ⟨σ7,H7,I7,n7⟩:=q7;exact again I7 n7
  | brk=>obtain ⟨σ7,H7,I7,q7⟩:=q7;exact ⟨σ7,H7,I7.unpinned,q7⟩
  | ret v=>obtain ⟨x7,σ7,H7,I7,r7,q7⟩:=q7;exact ⟨x7,σ7,H7,I7.unpinned,r7,q7⟩
end
end L2
namespace L2
open PySem PySem.Spec PyProof.Rows
abbrev R2:=V→V→Hp→VK→Prop
def OpR (X:Cx) (f:Value→Value→Sem Value) (r:R2):Prop :=
 ∀ (pins:List (Addr×Obj)) (s:Shared) (σ:St) (H:Hp) (x y:V) (v u:Value) (Q:VK),Inv X pins σ H s→RelV x v→RelV y u→r x y H Q →
  wpAny (model X.prog X.w) X.A (f v u) (EP X pins σ Q) X.xe s
def UnR (X:Cx) (f:Value→Sem Value) (r:V→Hp→VK→Prop):Prop :=
 ∀ (pins:List (Addr×Obj)) (s:Shared) (σ:St) (H:Hp) (x:V) (v:Value) (Q:VK),Inv X pins σ H s→RelV x v→r x H Q →
  wpAny (model X.prog X.w) X.A (f v) (EP X pins σ Q) X.xe s
def CallR (X:Cx) (f:Value) (r:List V→Hp→VK→Prop):Prop :=
 ∀ (pins:List (Addr×Obj)) (s:Shared) (σ:St) (H:Hp) (xs:List V) (us:List Value) (Q:VK),Inv X pins σ H s→Vals xs us→r xs H Q →
  wpAny (model X.prog X.w) X.A (call f us) (EP X pins σ Q) X.xe s
def tOp (r:R2) (ta tb:TE):TE:=fun σ H Q=>ta σ H fun x H1=>tb σ H1 fun y H2=>r x y H2 Q
def tUn (r:V→Hp→VK→Prop) (ta:TE):TE:=fun σ H Q=>ta σ H fun x H1=>r x H1 Q
def rI (C:Int→Int→Prop) (g:Int→Int→V):R2:=fun x y H Q=>∃ i j,x = .int i∧y = .int j∧C i j∧Q (g i j) H
def rI0 (g:Int→Int→V):R2:=fun x y H Q=>∃ i j,x = .int i∧y = .int j∧Q (g i j) H
def rU (g:Int→V):V→Hp→VK→Prop:=fun x H Q=>∃ i,x = .int i∧Q (g i) H
section
variable {X:Cx} {a b c:Expr} {ta tb tc:TE} {pos:Pos}
theorem binT (ha:PE X a ta) (hb:PE X b tb) {pins:List (Addr×Obj)} {s:Shared} {σ:St} {H:Hp} {R:V→V→Hp→Prop} (I:Inv X pins σ H s)
  (h:ta σ H fun x H1=>tb σ H1 fun y H2=>R x y H2) {Q:Value→Shared→Prop} {f:Value→Value→Sem Value}
  (hf:∀ v u s2 x y H2,Inv X pins σ H2 s2→RelV x v→RelV y u→R x y H2→wpAny (model X.prog X.w) X.A (f v u) Q X.xe s2) :
  wpAny (model X.prog X.w) X.A (eval a X.env) (fun v s₁=>wpAny (model X.prog X.w) X.A (eval b X.env) (fun u s₂=>wpAny (model X.prog X.w) X.A (f v u) Q X.xe s₂) X.xe s₁) X.xe s:=by
 refine thn (ha pins s σ H _ I h) fun v s1 ⟨x,H1,I1,r1,q1⟩=>?_
 refine thn (hb pins s1 σ H1 _ I1 q1) fun u s2 ⟨y,H2,I2,r2,q2⟩=>?_
 exact hf v u s2 x y H2 I2 r1 r2 q2
theorem xM {op:Operator} {r:R2} (ho:OpR X (binaryOp op) r) (ha:PE X a ta) (hb:PE X b tb):PE X (.BinOp a op b pos) (tOp r ta tb):=by
 intro pins s σ H Q I h
 exact wpAny_BinOp (binT ha hb I h fun v u s2 x y H2 I2 rx ry q=>ho pins s2 σ H2 x y v u Q I2 rx ry q)
theorem xL {op:UnaryOp} {r:V→Hp→VK→Prop} (ho:UnR X (unaryOp op) r) (ha:PE X a ta):PE X (.UnaryOp op a pos) (tUn r ta):=by
 intro pins s σ H Q I h
 exact UnaryOp_ (thn (ha pins s σ H _ I h) fun v s1 ⟨x,H1,I1,r1,q1⟩=>ho pins s1 σ H1 x v Q I1 r1 q1)
theorem opI {f:Value→Value→Sem Value} {C:Int→Int→Prop} {g:Int→Int→Int}
  (rule:∀ (i j:Int) (t u:Tok) (s:Shared) (Q:Value→Shared→Prop) (E:Value→Shared→Prop),C i j→Q (.int (g i j) s.toks) { s with toks:=s.toks+1 }→wpAny (model X.prog X.w) X.A (f (.int i t) (.int j u)) Q E s) :
  OpR X f (rI C fun i j=>.int (g i j)):=by
 intro pins s σ H x y v u Q I rx ry h
 obtain ⟨i,j,rfl,rfl,hc,q⟩:=h
 obtain ⟨t,rfl⟩:=rx
 obtain ⟨t',rfl⟩:=ry
 exact rule i j t t' s _ _ hc ⟨.int (g i j),H,I.tok _,⟨_,rfl⟩,q⟩
theorem opI0 {f:Value→Value→Sem Value} {g:Int→Int→Int}
  (rule:∀ (i j:Int) (t u:Tok) (s:Shared) (Q:Value→Shared→Prop) (E:Value→Shared→Prop),Q (.int (g i j) s.toks) { s with toks:=s.toks+1 }→wpAny (model X.prog X.w) X.A (f (.int i t) (.int j u)) Q E s) :
  OpR X f (rI0 fun i j=>.int (g i j)):=by
 intro pins s σ H x y v u Q I rx ry h
 obtain ⟨i,j,rfl,rfl,q⟩:=h
 obtain ⟨t,rfl⟩:=rx
 obtain ⟨t',rfl⟩:=ry
 exact rule i j t t' s _ _ ⟨.int (g i j),H,I.tok _,⟨_,rfl⟩,q⟩
theorem opB0 {f:Value→Value→Sem Value} {g:Int→Int→Bool}
  (rule:∀ (i j:Int) (t u:Tok) (s:Shared) (Q:Value→Shared→Prop) (E:Value→Shared→Prop),Q (.bool (g i j)) s→wpAny (model X.prog X.w) X.A (f (.int i t) (.int j u)) Q E s) :
  OpR X f (rI0 fun i j=>.bl (g i j)):=by
 intro pins s σ H x y v u Q I rx ry h
 obtain ⟨i,j,rfl,rfl,q⟩:=h
 obtain ⟨t,rfl⟩:=rx
 obtain ⟨t',rfl⟩:=ry
 exact rule i j t t' s _ _ ⟨.bl (g i j),H,I,rfl,q⟩
def CMul (i j:Int):Prop:=(-(2 ^ 64)<i∧i<2 ^ 64)∨(-(2 ^ 64)<j∧j<2 ^ 64)
theorem CMul.ok {i j:Int} (h:CMul i j):IntMulOk i j:=by
 rcases h with ⟨h1,h2⟩ | ⟨h1,h2⟩
 ·exact .of_left (intBits_le_64 h1 h2)
 ·exact .of_right (intBits_le_64 h1 h2)
theorem j3 (k:Nat):(0:Int)≤2 ^ k:=by
 rw [two_pow_cast]
 exact Int.natCast_nonneg _
theorem eX:OpR X (binaryOp .Add) (rI0 fun i j=>.int (i+j)):=opI0 fun _ _ _ _ _ _ _ q=>add_int q
theorem dz:OpR X (binaryOp .Sub) (rI0 fun i j=>.int (i - j)):=opI0 fun _ _ _ _ _ _ _ q=>sub_int q
theorem iI:OpR X (binaryOp .Mult) (rI CMul fun i j=>.int (i * j)):=opI fun _ _ _ _ _ _ _ hc q=>mul_int q hc.ok
theorem cq:OpR X (binaryOp .Mod) (rI (fun _ j=>0<j) fun i j=>.int (i % j)):=opI fun i j _ _ _ _ _ hc q=>by
 have h1:(0:Int)<j:=hc
 exact mod_int' (by lia) (by rw [Int.fmod_eq_emod_of_nonneg i (by lia)];exact q)
theorem wg:OpR X (binaryOp .RShift) (rI (fun _ j=>0≤j) fun i j=>.int (i / 2 ^ j.toNat)):=opI fun i j _ _ _ _ _ hc q =>
 rshift_int hc (by rw [Int.fdiv_eq_ediv_of_nonneg i (j3 _)];exact q)
theorem wm:OpR X (binaryOp .BitAnd) (rI0 fun i j=>.int (Builtin.bitAnd i j)):=opI0 fun _ _ _ _ _ _ _ q=>and_int q
theorem unI {f:Value→Sem Value} {g:Int→Int}
  (rule:∀ (i:Int) (t:Tok) (s:Shared) (Q:Value→Shared→Prop) (E:Value→Shared→Prop),Q (.int (g i) s.toks) { s with toks:=s.toks+1 }→wpAny (model X.prog X.w) X.A (f (.int i t)) Q E s) :
  UnR X f (rU fun i=>.int (g i)):=by
 intro pins s σ H x v Q I rx h
 obtain ⟨i,rfl,q⟩:=h
 obtain ⟨t,rfl⟩:=rx
 exact rule i t s _ _ ⟨.int (g i),H,I.tok _,⟨_,rfl⟩,q⟩
theorem jZ:UnR X (unaryOp .USub) (rU fun i=>.int (-i)):=unI fun _ _ _ _ _ q=>neg_int q
end
def scal:V→V→Bool
 | .non,.non=>true | .non,.int _=>true | .int _,.non=>true | .non,.bl _=>true | .bl _,.non=>true | .non,.str _=>true | .str _,.non=>true
 | .int _,.int _=>true | .bl _,.bl _=>true | .str _,.str _=>true | .byt _,.byt _=>true
 | .int _,.str _=>true | .str _,.int _=>true | .bl _,.str _=>true | .str _,.bl _=>true
 | _,_=>false
def rEq:R2:=fun x y H Q=>scal x y=true∧Q (.bl (decide (x=y))) H
def rNe:R2:=fun x y H Q=>scal x y=true∧Q (.bl (!decide (x=y))) H
theorem mn {i j:Int}:decide (V.int i=V.int j)=(i == j):=by
 rw [Bool.eq_iff_iff]
 simp
theorem qO {i j:Bool}:decide (V.bl i=V.bl j)=(i == j):=by
 rw [Bool.eq_iff_iff]
 simp
theorem mm {i j:Str}:decide (V.str i=V.str j)=(i == j):=by
 rw [Bool.eq_iff_iff]
 simp
theorem mq {i j:Array UInt8}:decide (V.byt i=V.byt j)=(i.toList == j.toList):=by
 rw [Bool.eq_iff_iff]
 cases i
 cases j
 simp
section
variable {X:Cx} {a b c:Expr} {ta tb tc:TE} {pos:Pos}
theorem aI {pins:List (Addr×Obj)} {σ:St} {H:Hp} {s:Shared} {Q:VK} {k k':Bool} (I:Inv X pins σ H s) (q:Q (.bl k) H) (e:k=k'):EP X pins σ Q (.bool k') s:=by
 subst e
 exact ⟨.bl k,H,I,rfl,q⟩
theorem aM:OpR X (compareOp .Eq) rEq:=by
 intro pins s σ H x y v u Q I rx ry h
 obtain ⟨hs,q⟩:=h
 cases x with
 | non =>
  cases rx
  cases y with
  | non=>cases ry;exact PySem.EqNone.eq_none_none (aI I q (by simp))
  | bl j=>cases ry;exact PySem.EqNone.eq_none_bool (aI I q (by simp))
  | int j=>obtain ⟨t',rfl⟩:=ry;exact PySem.EqNone.eq_none_int (aI I q (by simp))
  | str j=>obtain ⟨t',rfl⟩:=ry;exact PySem.EqNone.eq_none_str (aI I q (by simp))
  | _=>exact absurd (show false=true from hs) xAy
 | bl i =>
  cases rx
  cases y with
  | non=>cases ry;exact PySem.EqNone.eq_bool_none (aI I q (by simp))
  | bl j=>cases ry;exact eq_bool (aI I q qO)
  | str j=>obtain ⟨t',rfl⟩:=ry;exact PySem.EqMixed.eq_bool_str (aI I q (by simp))
  | _=>exact absurd (show false=true from hs) xAy
 | int i =>
  obtain ⟨t,rfl⟩:=rx
  cases y with
  | non=>cases ry;exact PySem.EqNone.eq_int_none (aI I q (by simp))
  | int j=>obtain ⟨t',rfl⟩:=ry;exact eq_int (aI I q mn)
  | str j=>obtain ⟨t',rfl⟩:=ry;exact PySem.EqMixed.eq_int_str (aI I q (by simp))
  | _=>exact absurd (show false=true from hs) xAy
 | str i =>
  obtain ⟨t,rfl⟩:=rx
  cases y with
  | non=>cases ry;exact PySem.EqNone.eq_str_none (aI I q (by simp))
  | bl j=>cases ry;exact PySem.EqMixed.eq_str_bool (aI I q (by simp))
  | int j=>obtain ⟨t',rfl⟩:=ry;exact PySem.EqMixed.eq_str_int (aI I q (by simp))
  | str j=>obtain ⟨t',rfl⟩:=ry;exact eq_str (aI I q mm)
  | _=>exact absurd (show false=true from hs) xAy
 | byt i =>
  obtain ⟨t,rfl⟩:=rx
  cases y with
  | byt j=>obtain ⟨t',rfl⟩:=ry;exact PySem.W.eq_bytes (aI I q mq)
  | _=>exact absurd (show false=true from hs) xAy
 | _=>cases y <;> exact absurd (show false=true from hs) xAy
theorem pH:OpR X (compareOp .NotEq) rNe:=by
 intro pins s σ H x y v u Q I rx ry h
 obtain ⟨hs,q⟩:=h
 cases x with
 | non =>
  cases rx
  cases y with
  | non=>cases ry;exact PySem.EqNone.ne_none_none (aI I q (by simp))
  | bl j=>cases ry;exact PySem.EqNone.ne_none_bool (aI I q (by simp))
  | int j=>obtain ⟨t',rfl⟩:=ry;exact PySem.EqNone.ne_none_int (aI I q (by simp))
  | str j=>obtain ⟨t',rfl⟩:=ry;exact PySem.EqNone.ne_none_str (aI I q (by simp))
  | _=>exact absurd (show false=true from hs) xAy
 | bl i =>
  cases rx
  cases y with
  | non=>cases ry;exact PySem.EqNone.ne_bool_none (aI I q (by simp))
  | bl j=>cases ry;exact ne_bool (aI I q (congrArg not qO))
  | str j=>obtain ⟨t',rfl⟩:=ry;exact PySem.EqMixed.ne_bool_str (aI I q (by simp))
  | _=>exact absurd (show false=true from hs) xAy
 | int i =>
  obtain ⟨t,rfl⟩:=rx
  cases y with
  | non=>cases ry;exact PySem.EqNone.ne_int_none (aI I q (by simp))
  | int j=>obtain ⟨t',rfl⟩:=ry;exact ne_int (aI I q (congrArg not mn))
  | str j=>obtain ⟨t',rfl⟩:=ry;exact PySem.EqMixed.ne_int_str (aI I q (by simp))
  | _=>exact absurd (show false=true from hs) xAy
 | str i =>
  obtain ⟨t,rfl⟩:=rx
  cases y with
  | non=>cases ry;exact PySem.EqNone.ne_str_none (aI I q (by simp))
  | bl j=>cases ry;exact PySem.EqMixed.ne_str_bool (aI I q (by simp))
  | int j=>obtain ⟨t',rfl⟩:=ry;exact PySem.EqMixed.ne_str_int (aI I q (by simp))
  | str j=>obtain ⟨t',rfl⟩:=ry;exact ne_str (aI I q (congrArg not mm))
  | _=>exact absurd (show false=true from hs) xAy
 | byt i =>
  obtain ⟨t,rfl⟩:=rx
  cases y with
  | byt j=>obtain ⟨t',rfl⟩:=ry;exact PySem.W.ne_bytes (aI I q (congrArg not mq))
  | _=>exact absurd (show false=true from hs) xAy
 | _=>cases y <;> exact absurd (show false=true from hs) xAy
theorem gj:OpR X (compareOp .Lt) (rI0 fun i j=>.bl (decide (i<j))):=opB0 fun _ _ _ _ _ _ _ q=>lt_int q
theorem xU:OpR X (compareOp .LtE) (rI0 fun i j=>.bl (decide (i≤j))):=opB0 fun _ _ _ _ _ _ _ q=>le_int q
theorem gY:OpR X (compareOp .Gt) (rI0 fun i j=>.bl (decide (j<i))):=opB0 fun _ _ _ _ _ _ _ q=>gt_int q
theorem wj:OpR X (compareOp .Is) (fun x y H Q=>y = .non∧Q (.bl (decide (x = .non))) H):=by
 intro pins s σ H x y v u Q I rx ry h
 obtain ⟨rfl,q⟩:=h
 cases ry
 refine is_none_gen (aI I q ?_)
 cases x <;> first
  | (cases rx;rfl)
  | (obtain ⟨t,rfl⟩:=rx;rfl)
theorem sG:OpR X (compareOp .IsNot) (fun x y H Q=>y = .non∧Q (.bl (!decide (x = .non))) H):=by
 intro pins s σ H x y v u Q I rx ry h
 obtain ⟨rfl,q⟩:=h
 cases ry
 refine isnot_none_gen (aI I q ?_)
 cases x <;> first
  | (cases rx;rfl)
  | (obtain ⟨t,rfl⟩:=rx;rfl)
theorem nomark (b:Expr) {op:CmpOp} (h:op≠.In:=by decide) (h2:op≠.NotIn:=by decide):behindInMarks op b=false:=by
 have e1:(op == CmpOp.In)=false:=by cases op <;> first | rfl | exact absurd rfl h
 have e2:(op == CmpOp.NotIn)=false:=by cases op <;> first | rfl | exact absurd rfl h2
 cases b <;> simp [behindInMarks,e1,e2]
theorem sr {op:CmpOp} {r:R2} (ho:OpR X (compareOp op) r) (ha:PE X a ta) (hb:PE X b tb) (hm:behindInMarks op b=false):PE X (.Compare a [op] [b] pos) (tOp r ta tb):=by
 intro pins s σ H Q I h
 exact wpAny_Compare1 (binT ha hb I h fun v u s2 x y H2 I2 rx ry q=>ho pins s2 σ H2 x y v u Q I2 rx ry q) hm
def tTest (t:TE):TT:=fun σ H Q=>t σ H fun x H'=>∃ k,x = .bl k∧Q k H'
theorem rX {op:CmpOp} {r:R2} (ho:OpR X (compareOp op) r) (ha:PE X a ta) (hb:PE X b tb) (hm:behindInMarks op b=false):PT X (.Compare a [op] [b] pos) (tTest (tOp r ta tb)):=by
 intro pins s σ H Q I h
 refine wpAny_isTrue_Compare1 (thn (ha pins s σ H _ I h) fun v s1 ⟨x,H1,I1,r1,q1⟩=>thn (hb pins s1 σ H1 _ I1 q1) fun u s2 ⟨y,H2,I2,r2,q2⟩ =>
  thn (ho pins s2 σ H2 x y v u _ I2 r1 r2 q2) fun c s3 ⟨z,H3,I3,r3,k,e,q3⟩=>?_) hm
 subst e
 cases r3
 exact wpAny_truthy_bool ⟨H3,I3,q3⟩
def tChain (r r':R2) (ta tb tc:TE):TE:=fun σ H Q=>ta σ H fun x H1=>tb σ H1 fun y H2=>r x y H2 fun z H3=>∃ k,z = .bl k ∧
 (if k=true then tc σ H3 fun w' H4=>r' y w' H4 Q else Q (.bl false) H3)
theorem o0 {op op':CmpOp} {r r':R2} (ho:OpR X (compareOp op) r) (ho':OpR X (compareOp op') r') (ha:PE X a ta) (hb:PE X b tb) (hc:PE X c tc)
  (hm:lastMarks [op,op'] [b,c]=false:=by with_unfolding_all rfl):PT X (.Compare a [op,op'] [b,c] pos) (tTest (tChain r r' ta tb tc)):=by
 intro pins s σ H Q I h
 refine isTrue_chain (thn (ha pins s σ H _ I h) fun v s1 ⟨x,H1,I1,r1,q1⟩=>test_link (thn (hb pins s1 σ H1 _ I1 q1) fun u s2 ⟨y,H2,I2,r2,q2⟩ =>
  thn (ho pins s2 σ H2 x y v u _ I2 r1 r2 q2) fun d s3 ⟨z,H3,I3,r3,k,e,q3⟩=>?_)) hm
 subst e
 cases r3
 refine wpAny_truthy_bool ?_
 cases k with
 | false =>
  obtain ⟨k',e',q'⟩:=q3
  cases e'
  exact ite_ff ⟨H3,I3,q'⟩
 | true =>
  refine ite_tt (test_last (thn (hc pins s3 σ H3 _ I3 q3) fun w' s4 ⟨z',H4,I4,r4,q4⟩=>thn (ho' pins s4 σ H4 y z' u w' _ I4 r2 r4 q4) fun d' s5 ⟨z2,H5,I5,r5,k2,e2,q5⟩=>?_))
  subst e2
  cases r5
  exact wpAny_truthy_bool ⟨H5,I5,q5⟩
theorem line63:(sizeLine:Nat)<2 ^ 63:=by rw [sizeLine_eq];decide
theorem vals1 {x:V} {us:List Value} (r:Vals [x] us):∃ u,us=[u]∧RelV x u:=by
 cases r with
 | cons r1 r2=>cases r2;exact ⟨_,rfl,r1⟩
theorem vals2 {x y:V} {us:List Value} (r:Vals [x,y] us):∃ u w',us=[u,w']∧RelV x u∧RelV y w':=by
 cases r with
 | cons r1 r2 =>
  cases r2 with
  | cons r3 r4=>cases r4;exact ⟨_,_,rfl,r1,r3⟩
theorem nT (hc:X.calm=true):CallR X (.builtin "max") (fun xs H Q=>∃ i j,xs=[.int i,.int j]∧Q (.int (if j > i then j else i)) H):=by
 intro pins s σ H xs us Q I r h
 obtain ⟨i,j,rfl,q⟩:=h
 obtain ⟨u,w',rfl,⟨t,rfl⟩,⟨t',rfl⟩⟩:=vals2 r
 refine max_two_ints (I.ok.hd hc) fun h' tk k=>⟨_,H,I.kept k,?_,q⟩
 by_cases hj:j > i
 ·rw [xCg hj,xCg hj];exact ⟨_,rfl⟩
 ·rw [xCf hj,xCf hj];exact ⟨_,rfl⟩
theorem nV:CallR X (.type "int") (fun xs H Q=>(∃ i,xs=[.int i]∧Q (.int i) H)∨∃ k,xs=[.bl k]∧Q (.int (if k then 1 else 0)) H):=by
 intro pins s σ H xs us Q I r h
 rcases h with ⟨i,rfl,q⟩ | ⟨k,rfl,q⟩
 ·obtain ⟨u,rfl,t,rfl⟩:=vals1 r
  exact call_int_int ⟨.int i,H,I,⟨_,rfl⟩,q⟩
 ·obtain ⟨u,rfl,r1⟩:=vals1 r
  cases r1
  exact call_int_bool ⟨.int (if k then 1 else 0),H,I.tok _,⟨_,rfl⟩,q⟩
def LenV (K:xFr) (x:V) (H:Hp) (n:Nat):Prop :=
 match x with
 | .str y=>y.length≤sizeLine∧n=y.length
 | .byt y=>y.size≤sizeLine∧n=y.size
 | .ref p=>(∃ xs,SqL K H p xs∧n=xs.length)∨∃ xs,SqT K H p xs∧n=xs.length
 | _=>False
theorem qW:CallR X (.builtin "len") (fun xs H Q=>∃ x n,xs=[x]∧LenV X.K x H n∧Q (.int n) H):=by
 intro pins s σ H xs us Q I r h
 obtain ⟨x,n,rfl,e,q⟩:=h
 obtain ⟨u,rfl,rx⟩:=vals1 r
 have hl:=line63
 have hs:sizeLine=16777216:=sizeLine_eq
 cases x with
 | str y =>
  obtain ⟨t,rfl⟩:=rx
  obtain ⟨hy,e'⟩:y.length≤sizeLine∧n=y.length:=e
  subst e'
  exact len_str (by lia) ⟨.int _,H,I.tok _,⟨_,rfl⟩,q⟩
 | byt y =>
  obtain ⟨t,rfl⟩:=rx
  obtain ⟨hy,e'⟩:y.size≤sizeLine∧n=y.size:=e
  subst e'
  exact PySem.W.len_bytes (by lia) ⟨.int _,H,I.tok _,⟨_,rfl⟩,q⟩
 | ref p =>
  cases rx
  have e':(∃ xs,SqL X.K H p xs∧n=xs.length)∨∃ xs,SqT X.K H p xs∧n=xs.length:=e
  rcases e' with ⟨xs,hx,e'⟩ | ⟨xs,hx,e'⟩
  ·subst e'
   obtain ⟨its,r',pl,hz⟩:=I.list hx
   have hlen:=r'.length
   exact Calls.call_len_list pl.isList (by simp only [xAp];lia) ⟨.int xs.length,H,I.tok _,⟨_,by simp only [xAp];rw [hlen]⟩,q⟩
  ·subst e'
   obtain ⟨its,r',pl,hz⟩:=I.tuple hx
   have hlen:=r'.length
   exact len_tuple pl (by simp only [xAp];lia) ⟨.int xs.length,H,I.tok _,⟨_,by simp only [xAp];rw [hlen]⟩,q⟩
 | _=>exact (show False from e).elim
end
end L2
namespace L2
open PySem PySem.Spec PyProof.Rows
theorem RelO.some_of {v:V} {o:Option Value} (r:RelO (some v) o):∃ u,o=some u∧RelV v u:=by
 cases o with
 | none=>exact (show False from r).elim
 | some u=>exact ⟨u,rfl,r⟩
end L2
namespace L2
open PySem PySem.Spec PyProof.Rows
structure Room (k:Nat) (A:Around):Prop where
 hd:A.handled=none
 dp:A.depth+3 * k+5<recursionLimit
 un:A.units+16 * k+200<cLine
 gd:A.guards=some []
theorem Room.mono {j k:Nat} {A:Around} (r:Room k A) (h:j≤k):Room j A:=⟨r.hd,by have:=r.dp;lia,by have:=r.un;lia,r.gd⟩
theorem Room.deeper {k:Nat} {A:Around} (r:Room (k+1) A) (env:Env):Room k (A.deeper env) :=
 ⟨r.hd,by have:=r.dp;show A.depth+1+3 * k+5<_;lia,by have:=r.un;show A.units+3+16 * k+200<_;lia,r.gd⟩
theorem Room.depth {k:Nat} {A:Around} (r:Room k A):A.depth<recursionLimit:=by have:=r.dp;lia
theorem Room.units {k:Nat} {A:Around} (r:Room k A):A.units+64<cLine:=by have:=r.un;lia
theorem Room.units0 {k:Nat} {A:Around} (r:Room k A):A.units<cLine:=by have:=r.un;lia
def tNil:TA:=fun _ H Q=>Q [] H
def tCons (ta:TE) (tr:TA):TA:=fun σ H Q=>ta σ H fun x H1=>tr σ H1 fun xs H2=>Q (x::xs) H2
section
variable {X:Cx} {e:Expr} {es:List Expr} {te:TE} {t:TA} {pos:Pos}
theorem pi:PA X [] tNil:=fun _ _ _ _ H Q I h=>Calls.spliced_nil ⟨[],H,I,.nil,h⟩
theorem su (ha:PE X e te) (hr:PA X es t) (hs:starEach (e::es) X.env=(false,eval e X.env)::starEach es X.env:=by rfl):PA X (e::es) (tCons te t):=by
 intro pos pins s σ H Q I h
 rw [hs]
 show wpAny _ _ (spliced ((false,eval e X.env)::backTo pos (starEach es X.env))) _ _ s
 refine Calls.spliced_cons (thn (ha pins s σ H _ I h) fun u s1 ⟨x,H1,I1,r1,q1⟩=>?_)
 exact thn (hr pos pins s1 σ H1 _ I1 q1) fun us s2 ⟨xs,H2,I2,r2,q2⟩=>⟨x::xs,H2,I2,.cons r1 r2,q2⟩
def tTup (t:TA):TE:=fun σ H Q=>t σ H fun xs H1=>xs.length≤sizeLine∧∀ p,H1 p=none→Q (.ref p) (upd H1 p (.tup xs))
def tLst (t:TA):TE:=fun σ H Q=>t σ H fun xs H1=>xs.length≤sizeLine∧∀ p,H1 p=none→Q (.ref p) (upd H1 p (.lst xs))
theorem vT {x1} (h:PA X es t):PE X (.Tuple es x1 pos) (tTup t):=by
 intro pins s σ H Q I hq
 refine wpAny_Tuple_spliced (thn (h pos pins s σ H _ I hq) fun us s1 ⟨xs,H1,I1,r,z,q⟩=>⟨by rw [← r.length];exact z,?_⟩)
 have hf:H1 s1.heap.objs.size=none:=I1.hok.fresh (xAg _)
 refine ⟨.ref s1.heap.objs.size,upd H1 s1.heap.objs.size (.tup xs),I1.laid (t':=s1.toks) (fun b u e=>xAf _ e) (xAg _) ?_,rfl,q _ hf⟩
 exact ⟨z,us,r,⟨_,xAl _ rfl,rfl,_,rfl⟩⟩
theorem vV (h:PA X es t):PE X (.List es pos) (tLst t):=by
 intro pins s σ H Q I hq
 refine wpAny_List_spliced (thn (h pos pins s σ H _ I hq) fun us s1 ⟨xs,H1,I1,r,z,q⟩=>⟨by rw [← r.length];exact z,?_⟩)
 have hf:H1 s1.heap.objs.size=none:=I1.hok.fresh (xAg _)
 refine ⟨.ref s1.heap.objs.size,upd H1 s1.heap.objs.size (.lst xs),I1.laid (t':=s1.toks) (fun b u e=>xAf _ e) (xAg _) ?_,rfl,q _ hf⟩
 exact ⟨z,us,0,r,xAl _ rfl⟩
end
abbrev Sp:=List V→Hp→VK→XK→Prop
abbrev CXT:=List Env→Hp→Shared→XK→Value→Shared→Prop
structure Env0 (P:Program) (w:World) (K:xFr) (mg:Str→Option Value) (base:Heap) (A:Around) (outer:List Env) (s:Shared) (H:Hp):Prop where
 frames:A.frames=some outer
 mod:Mod K mg base
 bs:∀ b o,base.get? b=some o→s.heap.get? b=some o∧H b=none
 bsz:base.objs.size≤s.heap.objs.size
 funs:s.heap.FunFrames base outer
 frf:∀ b∈frs outer,H b=none
 hok:HOk P w H s.heap
 bare:AllBare s.gens
def CE (outer:List Env) (P:Program) (w:World) (H:Hp) (s:Shared) (Q:VK) (u:Value) (s':Shared):Prop :=
 ∃ v H',s'.os=s.os∧AllBare s'.gens∧Un (frs outer) [] H H' s.heap s'.heap∧HOk P w H' s'.heap∧RelV v u∧Q v H'
def CR (CX:CXT) (outer:List Env) (P:Program) (w:World) (H:Hp) (s:Shared) (Q:VK) (E:XK) (r:Result) (s':Shared):Prop :=
 match r with
 | .ok (.ret u)=>CE outer P w H s Q u s'
 | .ok _=>False
 | .error e=>CX outer H s E e s'
structure FnOk (P:Program) (w:World) (K:xFr) (mg:Str→Option Value) (base:Heap) (CX:CXT) (k:Nat) (f:Addr) (fd:FuncData) (ps:List Str) (sp:Sp):Prop where
 len:∀ vs H Q E,sp vs H Q E→vs.length=ps.length
 run:∀ (A:Around) (outer:List Env) (s:Shared) (H:Hp) (args:Args) (us:List Value) (vs:List V) (Q:VK) (E:XK),Room k A→Env0 P w K mg base A outer s H→BindsTo s fd args (ps.zip us)→Vals vs us→sp vs H Q E →
  codeAny (model P w) A (.call (.ref f) args) (CR CX outer P w H s Q E) s
theorem FnOk.imp {P:Program} {w:World} {K:xFr} {mg:Str→Option Value} {base:Heap} {CX:CXT} {k:Nat} {f:Addr} {fd:FuncData} {ps:List Str} {sp sp':Sp} (F:FnOk P w K mg base CX k f fd ps sp)
  (h:∀ vs H Q E,sp' vs H Q E→sp vs H Q E):FnOk P w K mg base CX k f fd ps sp' :=
 ⟨fun vs H Q E q=>F.len vs H Q E (h _ _ _ _ q),fun A outer s H args us vs Q E hr he hb hv hs=>F.run A outer s H args us vs Q E hr he hb hv (h _ _ _ _ hs)⟩
section
variable {X:Cx} {pins:List (Addr×Obj)} {σ:St} {H:Hp} {s s':Shared}
theorem Inv.env0 (I:Inv X pins σ H s):Env0 X.prog X.w X.K X.mg X.base X.A X.stack s H :=
 ⟨I.ok.frames,I.ok.mod,I.bs,Nat.le_trans I.ok.bsz I.sz,I.stack,I.stkFree,I.hok,I.bare⟩
theorem Inv.after {Q:VK} {u:Value} (I:Inv X pins σ H s) (h:CE X.stack X.prog X.w H s Q u s'):EP X pins σ Q u s':=by
 obtain ⟨v,H',os,bare,un,hok,r,q⟩:=h
 obtain ⟨hh,g,d,t,os'⟩:=s'
 obtain rfl:os'=s.os:=os
 exact ⟨v,H',I.call (h':=hh) (g':=g) (d':=d) (t':=t) (ch:=[]) un hok bare (fun b z=>absurd z (by simp)),r,q⟩
end
def tCall (sp:Sp) (dvs:List V) (E:XK) (t:TA):TE:=fun σ H Q=>t σ H fun vs H1=>sp (vs++dvs) H1 Q E
def Binds (K:xFr) (fd:FuncData) (ps:List Str) (ds:List Value):Prop :=
 ∀ (s:Shared) (us:List Value),K.In s.heap→(us++ds).length=ps.length→BindsTo s fd ⟨us,[]⟩ (ps.zip (us++ds))
theorem Binds.all {K:xFr} {fd:FuncData} {ps:List Str} (h:∀ us:List Value,us.length=ps.length→bindArgs fd ⟨us,[]⟩=pure (ps.zip us)):Binds K fd ps []:=fun s us _ hl=>by
 rw [xB0] at hl ⊢
 exact .of_eq (h us hl)
def Passes (CX:CXT) (X:Cx) (E:XK):Prop:=∀ (pins:List (Addr×Obj)) (σ:St) (H:Hp) (s:Shared) (e:Value) (s':Shared),Inv X pins σ H s→CX X.stack H s E e s'→X.xe e s'
section
variable {X:Cx} {CX:CXT} {k:Nat} {f C:Addr} {fd:FuncData} {ps:List Str} {sp:Sp} {dvs:List V} {ds:List Value} {E:XK} {x m:Str} {p pos apos:Pos} {e o:Expr} {es:List Expr} {ta:TE} {t:TA}
theorem uP {pins:List (Addr×Obj)} {σ:St} {H:Hp} {s:Shared} {Q:VK} {us:List Value} {vs:List V} (F:FnOk X.prog X.w X.K X.mg X.base CX k f fd ps sp) (hr:Room k X.A) (hb:Binds X.K fd ps ds) (hd:Vals dvs ds) (hx:Passes CX X E)
  (I:Inv X pins σ H s) (r:Vals vs us) (h:sp (vs++dvs) H Q E):wpAny (model X.prog X.w) X.A (call (.ref f) us) (EP X pins σ Q) X.xe s:=by
 have r2:Vals (vs++dvs) (us++ds):=r.append hd
 have hl:(us++ds).length=ps.length:=by rw [← r2.length];exact F.len _ _ _ _ h
 refine wpAny_call (codeAny_mono (F.run X.A X.stack s H ⟨us,[]⟩ (us++ds) (vs++dvs) Q E hr I.env0 (hb s us I.kIn hl) r2 h) fun r s' hq=>?_)
 cases r with
 | error e=>exact hx pins σ H s e s' I hq
 | ok fl =>
  cases fl with
  | ret u=>exact I.after hq
  | next=>exact False.elim hq
  | brk=>exact False.elim hq
  | cont=>exact False.elim hq
theorem ss (F:FnOk X.prog X.w X.K X.mg X.base CX k f fd ps sp) (hr:Room k X.A) (hg:Gl X x) (hm:X.mg x=some (.ref f)) (hk:PySem.W.keepIn X.K (.ref f)=true) (hb:Binds X.K fd ps ds) (hd:Vals dvs ds) (hx:Passes CX X E)
  (ha:PA X (e::es) t) (hdb:(x == ("__debug__":Str))=false:=by decide) (he:starEach (e::es) X.env=(false,eval e X.env)::starEach es X.env:=by rfl) (hpl:(backTo pos (starEach es X.env)).any (·.1)=false:=by rfl) :
  PE X (.Call (.Name x p) (e::es) [] pos) (tCall sp dvs E t):=by
 intro pins s σ H Q I h
 refine wpAny_Call_Name_kw (tD I hg hm ?_ hdb)
 refine PySem.W.callWith_K (h₀:=X.base) I.ok.mod.kin hk (thn (ha pos pins s σ H _ I h) fun us s1 ⟨vs,H1,I1,r,q⟩=>⟨I1.kIn,?_⟩) he hpl
 exact uP F hr hb hd hx I1 r q
end
structure FnScope (N P:List Str) (sc:Scope):Prop where
 kind:sc.kind = .function
 co:sc.isCoroutine=false
 gen:sc.isGenerator=false
 nd:N.Nodup
 pre:N.take P.length=P
 par:∀ x∈P,sc.names.lookup x=some .local∨sc.names.lookup x=some .cell
 nofree:∀ y∈sc.names,y.2≠.free
theorem ig {kindOf:Str→Option NameKind} {x:Str}:∀ {binds:List (Str×Value)} {m:Str→Option Value},(∀ v,(x,v) ∉ binds)→bindL kindOf binds m x=m x
 | [],_,_=>rfl
 | (n,v)::r,m,h=>by
  unfold bindL
  rw [ig fun w hw=>h w (xAs _ hw)]
  split
  ·have:x≠n:=by rintro rfl;exact h v xAr
   simp [this]
  ·rfl
theorem ij {kindOf:Str→Option NameKind} {x:Str}:∀ {binds:List (Str×Value)} {m:Str→Option Value},(∀ v,(x,v) ∉ binds)→bindC kindOf binds m x=m x
 | [],_,_=>rfl
 | (n,v)::r,m,h=>by
  unfold bindC
  rw [ij fun w hw=>h w (xAs _ hw)]
  split
  ·rfl
  ·have:x≠n:=by rintro rfl;exact h v xAr
   simp [this]
theorem ii {kindOf:Str→Option NameKind} {x:Str} {v:Value}:∀ {P:List Str} {vs:List Value} {i:Nat} {m:Str→Option Value},P.Nodup→P[i]?=some x→vs[i]?=some v→kindOf x=some .local →
  bindL kindOf (P.zip vs) m x=some v
 | [],_,_,_,_,h,_,_=>by simp at h
 | _::_,[],_,_,_,_,h,_=>by simp at h
 | p::P,w::vs,0,m,nd,h1,h2,hk=>by
  simp at h1 h2;subst h1;subst h2
  show bindL kindOf ((p,w)::P.zip vs) m p=_
  unfold bindL
  rw [ig fun v hv=>(xCb.mp nd).1 (List.of_mem_zip hv).1,xCg hk]
  simp
 | p::P,w::vs,i+1,m,nd,h1,h2,hk=>by
  show bindL kindOf ((p,w)::P.zip vs) m x=_
  unfold bindL
  exact ii (i:=i) (xCb.mp nd).2 (by simpa using h1) (by simpa using h2) hk
theorem ik {kindOf:Str→Option NameKind} {x:Str} {v:Value}:∀ {P:List Str} {vs:List Value} {i:Nat} {m:Str→Option Value},P.Nodup→P[i]?=some x→vs[i]?=some v→kindOf x≠some .local →
  bindC kindOf (P.zip vs) m x=some v
 | [],_,_,_,_,h,_,_=>by simp at h
 | _::_,[],_,_,_,_,h,_=>by simp at h
 | p::P,w::vs,0,m,nd,h1,h2,hk=>by
  simp at h1 h2;subst h1;subst h2
  show bindC kindOf ((p,w)::P.zip vs) m p=_
  unfold bindC
  rw [ij fun v hv=>(xCb.mp nd).1 (List.of_mem_zip hv).1,xCf hk]
  simp
 | p::P,w::vs,i+1,m,nd,h1,h2,hk=>by
  show bindC kindOf ((p,w)::P.zip vs) m x=_
  unfold bindC
  exact ik (i:=i) (xCb.mp nd).2 (by simpa using h1) (by simpa using h2) hk
def start (N:List Str) (vs:List V):St:=vs.map some++List.replicate (N.length - vs.length) none
def cxOf (CX:CXT) (P:Program) (w:World) (K:xFr) (mg:Str→Option Value) (base:Heap) (N:List Str) (qual:Str) (scope:Scope) (f:Addr) (cd:Value) (A:Around) (outer:List Env) (s:Shared) (H:Hp) (E:XK):Cx where
 prog:=P
 w:=w
 K:=K
 mg:=mg
 base:=base
 A:=A.deeper (envOfC qual scope s.heap.objs.size f cd)
 N:=N
 s₀:=s
 H₀:=H
 env:=envOfC qual scope s.heap.objs.size f cd
 outer:=outer
 stack:=envOfC qual scope s.heap.objs.size f cd::outer
 ex:=[]
 calm:=true
 fn:=fun _=>true
 pn:=[]
 xe:=fun e s'=>wpAny (model P w) (A.deeper (envOfC qual scope s.heap.objs.size f cd)) (leaving (envOfC qual scope s.heap.objs.size f cd) e) (fun _ s''=>CX outer H s E e s'') (fun e' s''=>CX outer H s E e' s'') s'
theorem jQ {sc:Scope} {n:Nat} {x:Str} (h:sc.names.lookup x=some .cell):∃ c,(cellsFrom n sc.names []).lookup x=some c:=by
 have q:=PySem.W.cellsFrom_some sc.names n [] (.inl h)
 exact Option.isSome_iff_exists.mp q
theorem nH {CX:CXT} {P:Program} {w:World} {K:xFr} {mg:Str→Option Value} {base:Heap} {N ps:List Str} {qual:Str} {scope:Scope} {f:Addr} {cd:Value} {A:Around} {outer:List Env} {s s1:Shared} {H:Hp} {E:XK} {us:List Value} {vs:List V}
  (S:FnScope N ps scope) (hd:A.handled=none) (e0:Env0 P w K mg base A outer s H) (hl:vs.length=ps.length) (r:Vals vs us)
  (x:InCallC s s.heap.objs.size (bindL (envOfC qual scope s.heap.objs.size f cd).kindOf (ps.zip us) fun _=>none) (cellsFrom (s.heap.objs.size+1) scope.names []) (bindC (envOfC qual scope s.heap.objs.size f cd).kindOf (ps.zip us) fun _=>none) s1) :
  Inv (cxOf CX P w K mg base N qual scope f cd A outer s H E) [] (start N vs) H s1:=by
 have hpl:ps.length≤N.length:=by have:=congrArg List.length S.pre;rw [xAn] at this;lia
 obtain ⟨h1,tk,rfl,hk⟩:=x.done
 have noA:∀ b:Addr,b ∉ (cxOf CX P w K mg base N qual scope f cd A outer s H E).ex:=fun b z=>absurd (show b∈([]:List Addr) from z) (by simp)
 refine ⟨⟨e0.mod,S.kind,rfl,rfl,xAg _,fun y z c h1 h2=>?_,fun y hy=>?_,fun y c _ h=>?_,fun _=>hd,Around.frames_deeper e0.frames,.inr ⟨rfl,rfl⟩,fun b z=>absurd z (noA b),e0.bs,e0.bsz,fun b _ _=>noA b,fun b z=>absurd z (noA b),e0.funs,e0.frf⟩,
  rfl,e0.bare,Un.kept hk,⟨_,x.toInCall.ns,fun i y v h1 h2 h3=>?_⟩,fun y c h=>⟨_,x.cell y c h⟩,e0.hok.fresh (xAg _),fun y c h=>?_,fun p hp=>absurd (show p∈([]:List (Addr×Obj)) from hp) (by simp),e0.hok.kept hk,?_⟩
 ·exact name_of_addr x.apart (PySem.mem_of_lookup h1) (PySem.mem_of_lookup h2)
 ·have hy:scope.names.lookup y=some .cell∨scope.names.lookup y=some .free:=hy
  rcases hy with hy | hy
  ·exact jQ hy
  ·exact absurd rfl (S.nofree _ (PySem.mem_of_lookup hy))
 ·exact Nat.le_of_lt (x.above y c (PySem.mem_of_lookup h))
 ·have hi:i<vs.length:=by
   unfold start at h2
   by_cases hi:i<vs.length
   ·exact hi
   ·rw [List.getElem?_append_right (by simpa using hi)] at h2
    rw [List.getElem?_replicate] at h2
    split at h2 <;> cases h2
  have ha:vs[i]?=some v:=by
   unfold start at h2
   rw [List.getElem?_append_left (by simpa using hi),xAw] at h2
   cases e:vs[i]? with
   | none=>rw [e] at h2;cases h2
   | some a=>rw [e] at h2;cases h2;rfl
  obtain ⟨u,hu,rv⟩:=r.get ha
  have hp:ps[i]?=some y:=by
   rw [← S.pre,List.getElem?_take_of_lt (by lia)];exact h1
  have ndP:ps.Nodup:=by rw [← S.pre];exact S.nd.sublist (List.take_sublist _ _)
  refine ⟨u,rv,?_⟩
  rcases S.par y (xAc hp) with k | k
  ·exact .inl ⟨k,ii ndP hp hu k⟩
  ·obtain ⟨c,e⟩:=jQ (n:=s.heap.objs.size+1) k
   refine .inr ⟨.inl k,c,e,?_⟩
   have q:=x.cell y c e
   rw [ik ndP hp hu (by show scope.names.lookup y≠_;rw [k];decide)] at q
   exact q
 ·exact e0.hok.fresh (Nat.le_of_lt (x.above y c (PySem.mem_of_lookup h)))
 ·unfold start
  show _=N.length
  rw [xAb,xAa,List.length_replicate]
  lia
theorem yh {CX:CXT} {P:Program} {w:World} {K:xFr} {mg:Str→Option Value} {base:Heap} {k:Nat} {f:Addr} {name qual:Str} {params:Arguments} {body:List Stmt} {scope:Scope} {dV kV doc pm cdv ct oc:Value} {an od:Option Addr}
  {osl:Array (Option Value)} {N ps:List Str} {sp:Sp} (lk:K.lookup f=some ⟨oc,od,.func (PySem.W.fnOf name qual params body scope dV kV doc pm an cdv ct),osl⟩) (hcd:PySem.W.codeIn K cdv qual=true) (S:FnScope N ps scope)
  (len:∀ vs H Q E,sp vs H Q E→vs.length=ps.length)
  (hbody:∀ (A:Around) (outer:List Env) (s:Shared) (H:Hp) (vs:List V) (Q:VK) (E:XK),Room k (A.deeper (envOfC qual scope s.heap.objs.size f cdv))→sp vs H Q E →
   ∃ t,PSs (cxOf CX P w K mg base N qual scope f cdv A outer s H E) body t∧t { nx:=fun _ H'=>Q .non H',rt:=Q } (start N vs) H) :
  FnOk P w K mg base CX (k+1) f (PySem.W.fnOf name qual params body scope dV kV doc pm an cdv ct) ps sp:=by
 refine ⟨len,fun A outer s H args us vs Q E hr e0 hb r hsp=>?_⟩
 have hl:=len _ _ _ _ hsp
 have KX:K.In s.heap:=e0.mod.kin.keeps fun b o e=>(e0.bs b o e).1
 have lim:s.heap.NoLimit:=e0.mod.nolimit.keeps fun b o e=>(e0.bs b o e).1
 have hkind:∀ y∈ps.zip us,scope.names.lookup y.1=some .local∨(scope.names.lookup y.1=some .cell∧((cellsFrom (s.heap.objs.size+1) scope.names []).lookup y.1).isSome=true):=fun ⟨n,v⟩ hy=>by
  rcases S.par n (List.of_mem_zip hy).1 with q | q
  ·exact .inl q
  ·exact .inr ⟨q,PySem.W.cellsFrom_some _ _ _ (.inl q)⟩
 refine codeAny_call_function hr.depth (KX _ _ lk) rfl S.co S.gen rfl (PySem.W.codeRec_of KX hcd) (hb _ _ _ _ ?_)
 refine wpAny_newFunctionEnv_cells S.kind hkind fun env he s1 x=>?_
 subst he
 refine ⟨lim.keeps x.toInCall.keep,codeAny_func ?_⟩
 obtain ⟨t,ht,hq⟩:=hbody A outer s H vs Q E (hr.deeper _) hsp
 have I:Inv (cxOf CX P w K mg base N qual scope f cdv A outer s H E) [] (start N vs) H s1:=nH S hr.hd e0 hl r x
 refine wpAny_mono (ht [] s1 (start N vs) H _ I hq) (fun fl s' hs=>?_) fun e s' hs=>hs
 have fin:∀ {σ':St} {H':Hp} {v:V} {u:Value},Inv (cxOf CX P w K mg base N qual scope f cdv A outer s H E) [] σ' H' s'→RelV v u→Q v H'→CE outer P w H s Q u s' :=
  fun {σ' H' v u} J rv q=>⟨v,H',J.os,J.bare,J.base,J.hok,rv,q⟩
 cases fl with
 | ret u =>
  obtain ⟨v,σ',H',J,rv,q⟩:=hs
  exact fin J rv q
 | next =>
  obtain ⟨σ',H',J,q⟩:=hs
  exact fin (v:=V.non) (u:=Value.none) J rfl q
 | brk =>
  obtain ⟨_,_,_,q⟩:=hs
  exact False.elim q
 | cont =>
  obtain ⟨_,_,_,q⟩:=hs
  exact False.elim q
end L2
namespace L2
open PySem PySem.Spec PyProof.Rows
section
variable {X:Cx} {x:Str} {p pos:Pos} {e:Expr} {es:List Expr} {t:TA} {id T:String} {r:List V→Hp→VK→Prop}
def tCB (r:List V→Hp→VK→Prop) (t:TA):TE:=fun σ H Q=>t σ H fun vs H1=>r vs H1 Q
theorem ph (hc:CallR X (.builtin id) r) (hg:Gl X x) (hm:X.mg x=none) (hv:bootBuiltins x=some (.builtin id)) (ha:PA X (e::es) t) (hn:x≠"__name__":=by decide) (hdb:(x == ("__debug__":Str))=false:=by decide)
  (he:starEach (e::es) X.env=(false,eval e X.env)::starEach es X.env:=by rfl) (hpl:(backTo pos (starEach es X.env)).any (·.1)=false:=by rfl):PE X (.Call (.Name x p) (e::es) [] pos) (tCB r t):=by
 intro pins s σ H Q I h
 refine wpAny_Call_Name_kw (dE I hg hm hv ?_ hn hdb)
 exact PyProof.Rows.callWith_builtin1 (thn (ha pos pins s σ H _ I h) fun us s1 ⟨vs,H1,I1,r1,q1⟩=>hc pins s1 σ H1 vs us Q I1 r1 q1) he hpl
theorem nc (hc:CallR X (.type T) r) (hg:Gl X x) (hm:X.mg x=none) (hv:bootBuiltins x=some (.type T)) (ha:PA X (e::es) t) (hn:x≠"__name__":=by decide) (hdb:(x == ("__debug__":Str))=false:=by decide)
  (he:starEach (e::es) X.env=(false,eval e X.env)::starEach es X.env:=by rfl) (hpl:(backTo pos (starEach es X.env)).any (·.1)=false:=by rfl):PE X (.Call (.Name x p) (e::es) [] pos) (tCB r t):=by
 intro pins s σ H Q I h
 refine wpAny_Call_Name_kw (dE I hg hm hv ?_ hn hdb)
 exact PyProof.Rows.callWith_type1 (thn (ha pos pins s σ H _ I h) fun us s1 ⟨vs,H1,I1,r1,q1⟩=>hc pins s1 σ H1 vs us Q I1 r1 q1) he hpl
end
end L2
namespace HT
open PySem PyProof.Rows
section
open PySem.SeqAt
open PySem.AutoSeq1 (wpAny_loadPart')
open PySem.MeetsSeq PySem.MeetsSeq2 PySem.MeetsSeq3
end
section
variable {prog:Program} {w:World} {A:Around} {E:Value→Shared→Prop} {s:Shared}
theorem cat_tup {t b:Addr} {vs ws:List Value} {Q:Value→Shared→Prop} (ht:IsTup s.heap t vs.toArray) (hb:IsTup s.heap b ws.toArray) (hv:vs≠[])
  (h1:ws=[]→Q (.ref t) s) (h2:ws≠[]→Q (.ref s.heap.objs.size) { s with heap:=s.heap.push { cls:=.type "tuple",data:=.seq (vs++ws).toArray } })
  (hsz:vs.length+ws.length≤sizeLine):wpAny (model prog w) A (binaryOp .Add (.ref t) (.ref b)) Q E s:=by
 obtain ⟨⟨cls,dd,data,sl⟩,ho,hc,n,hd⟩:=id ht
 obtain ⟨⟨cls2,dd2,data2,sl2⟩,ho2,hc2,n2,hd2⟩:=id hb
 simp only at hc hd hc2 hd2
 subst hc hd hc2 hd2
 have e:vs.toArray++ws.toArray=(vs++ws).toArray:=by simp
 by_cases hw:ws=[]
 ·exact concat_meets ⟨_,ho,rfl⟩ ⟨_,ho2,rfl⟩ noFill_tuple_add seq_tuple_add PySem.F.slot_tuple_add PySem.F.entry_tuple_add (PySem.F.args_tuple_add_2 _ _)
   (tuple_addW1 t b vs.toArray ws.toArray n n2 dd dd2 sl sl2 (by simpa using hv) (by simp [hw])) ⟨ho,ho2,h1 hw⟩
 ·refine concat_meets ⟨_,ho,rfl⟩ ⟨_,ho2,rfl⟩ noFill_tuple_add seq_tuple_add PySem.F.slot_tuple_add PySem.F.entry_tuple_add (PySem.F.args_tuple_add_2 _ _)
   (tuple_addW2 t b vs.toArray ws.toArray n n2 dd dd2 sl sl2 (by simpa using hv) (by simpa using hw) (by rw [xAp,xAp];exact hsz)) ⟨ho,ho2,?_⟩
  rw [e]
  exact h2 hw
end
end HT
namespace L2
open PySem PySem.Spec PyProof.Rows
theorem cD {ns:List Int}:∀ {us:List Value},Vals (ns.map V.int) us→IntsAre us ns:=by
 induction ns with
 | nil=>intro us r;rw [List.map_nil] at r;cases r;exact .nil
 | cons n ns ih =>
  intro us r
  rw [xBs] at r
  cases r with
  | cons r1 r2 =>
   obtain ⟨t,e⟩:=r1
   subst e
   exact .cons n t (ih r2)
section
variable {X:Cx} {e:Expr} {te:TE} {lo hi:Option Expr} {tl th:TO} {pos p2:Pos}
def rCatT (K:xFr):R2:=fun x y H Q=>∃ a b xs ys,x = .ref a∧y = .ref b∧SqT K H a xs∧SqT K H b ys∧xs≠[]∧xs.length+ys.length≤sizeLine ∧
 (ys=[]→Q (.ref a) H)∧(ys≠[]→∀ p,H p=none→Q (.ref p) (upd H p (.tup (xs++ys))))
theorem Vals.nil_iff {xs:List V} {us:List Value} (r:Vals xs us):us=[]↔xs=[]:=by
 cases r with
 | nil=>simp
 | cons _ _=>simp
theorem sH:OpR X (binaryOp .Add) (rCatT X.K):=by
 intro pins s σ H x y v u Q I rx ry h
 obtain ⟨a,b,xs,ys,rfl,rfl,ha,hb,hx,hz,q1,q2⟩:=h
 cases rx
 cases ry
 obtain ⟨its,r1,p1,_⟩:=I.tuple ha
 obtain ⟨its2,r2,p2,_⟩:=I.tuple hb
 refine HT.cat_tup p1 p2 (fun z=>hx (r1.nil_iff.mp z)) (fun z=>⟨.ref a,H,I,rfl,q1 (r2.nil_iff.mp z)⟩) (fun z=>?_) (by rw [← r1.length,← r2.length];exact hz)
 refine ⟨.ref s.heap.objs.size,_,I.laid (t':=s.toks) (o:=.tup (xs++ys)) (fun b ob q=>xAf _ q) (xAg _) ?_,rfl,q2 (fun w=>z (r2.nil_iff.mpr w)) _ (I.hok.fresh (xAg _))⟩
 exact ⟨by rw [xAb];exact hz,_,r1.append r2,IsTup.new _ _⟩
end
end L2
namespace L2
open PySem PySem.Spec PyProof.Rows
def ixN (n:Nat) (i:Int):Option Nat:=if 0≤i then (if i<n then some i.toNat else none) else if -(n:Int)≤i then some (i+n).toNat else none
def atI {α:Type} (xs:List α) (i:Int):Option α:=(ixN xs.length i).bind fun j=>xs[j]?
theorem tI {n:Nat} {i:Int} {j:Nat} (h:ixN n i=some j):seqIndex? i n=some j∧j<n∧-(n:Int)≤i∧i<n:=by
 unfold ixN at h
 by_cases h0:0≤i
 ·rw [xCg h0] at h
  by_cases h1:i<n
  ·rw [xCg h1] at h
   have e:i.toNat=j:=xB3 h
   exact ⟨by rw [seqIndex_of h0 h1,e],by lia,by lia,h1⟩
  ·rw [xCf h1] at h;cases h
 ·rw [xCf h0] at h
  by_cases h1:-(n:Int)≤i
  ·rw [xCg h1] at h
   have e:(i+n).toNat=j:=xB3 h
   exact ⟨by rw [seqIndex_neg (by lia) h1,e],by lia,h1,by lia⟩
  ·rw [xCf h1] at h;cases h
theorem mI {α:Type} {xs:List α} {i:Int} {v:α} (h:atI xs i=some v):∃ j,seqIndex? i xs.length=some j∧xs[j]?=some v∧j<xs.length∧-(xs.length:Int)≤i∧i<xs.length:=by
 unfold atI at h
 cases e:ixN xs.length i with
 | none=>rw [e] at h;cases h
 | some j =>
  rw [e] at h
  obtain ⟨h1,h2,h3,h4⟩:=tI e
  exact ⟨j,h1,h,h2,h3,h4⟩
theorem cV {α:Type} {xs:List α} {j:Nat} {v:α} (h:xs[j]?=some v):atI xs (j:Int)=some v:=by
 have hj:j<xs.length:=(xAq.mp h).1
 have e:ixN xs.length (j:Int)=some j:=by
  unfold ixN
  rw [xCg (by lia),xCg (by lia)];simp
 unfold atI;rw [e];exact h
theorem q0 {α:Type} (xs:List α) (v:α):atI (xs++[v]) (-1)=some v:=by
 have hl:(xs++[v]).length=xs.length+1:=by simp
 have e:ixN (xs++[v]).length (-1)=some xs.length:=by
  unfold ixN
  rw [hl,xCf (by decide),xCg (by lia)]
  congr 1
  lia
 unfold atI
 rw [e]
 show (xs++[v])[xs.length]?=some v
 simp
def PlainIx (b:Expr):Prop:=∀ o i,subscripted b false o i=operate [o,i] (getItem o i)
def IxR (X:Cx) (r:R2):Prop :=
 ∀ (value slice:Expr) (pins:List (Addr×Obj)) (s:Shared) (σ:St) (H:Hp) (x y:V) (v u:Value) (Q:VK),Inv X pins σ H s→RelV x v→RelV y u→r x y H Q →
  subscripted slice false v u=operate [v,u] (getItem v u)→wpAny (model X.prog X.w) X.A (subscriptTail value slice v u) (EP X pins σ Q) X.xe s
def MtR (X:Cx) (id:String) (r:V→List V→Hp→VK→Prop):Prop :=
 ∀ (pins:List (Addr×Obj)) (s:Shared) (σ:St) (H:Hp) (x:V) (xs:List V) (v:Value) (us:List Value) (Q:VK),Inv X pins σ H s→RelV x v→Vals xs us→r x xs H Q →
  wpAny (model X.prog X.w) X.A (call (.builtin id) (v::us)) (EP X pins σ Q) X.xe s
section
variable {X:Cx} {a b:Expr} {ta tb:TE} {pos:Pos}
theorem xN {r:R2} (hr:IxR X r) (ha:PE X a ta) (hb:PE X b tb) (hs:PlainIx b):PE X (.Subscript a b pos) (tOp r ta tb):=by
 intro pins s σ H Q I h
 exact Subscript_ (binT ha hb I h fun v u s2 x y H2 I2 rx ry q=>hr a b pins s2 σ H2 x y v u Q I2 rx ry q (hs _ _))
def rIxL (K:xFr):R2:=fun x y H Q=>∃ p xs i v,x = .ref p∧y = .int i∧SqL K H p xs∧atI xs i=some v∧Q v H
def rIxT (K:xFr):R2:=fun x y H Q=>∃ p xs i v,x = .ref p∧y = .int i∧SqT K H p xs∧atI xs i=some v∧Q v H
theorem lV:IxR X (rIxL X.K):=by
 intro value slice pins s σ H x y v u Q I rx ry h hs
 obtain ⟨p,xs,i,z,rfl,rfl,hq,he,q⟩:=h
 cases rx
 obtain ⟨t,rfl⟩:=ry
 obtain ⟨its,r,pl,hz⟩:=I.list hq
 obtain ⟨j,h1,h2,h3,h4,h5⟩:=mI he
 obtain ⟨w,ew,rw'⟩:=r.get h2
 have hl:=r.length
 have hn:=line63
 have fin:EP X pins σ Q w s:=⟨z,H,I,rw',q⟩
 by_cases h0:0≤i
 ·have hj:i.toNat=j:=by
   rw [seqIndex_of h0 h5] at h1
   exact xB3 h1
  exact item_listR pl.isList h0 (by lia) (by rw [hj];simpa using ew) fin hs
 ·have hj:(i+(its.toArray.size:Int)).toNat=j:=by
   rw [seqIndex_neg (by lia) h4] at h1
   rw [xAp,← hl]
   exact xB3 h1
  exact subscriptTail_builtinR (x:=w) pl.isList.typeIs slot_list_getitem.lookup
   (wpAny_getItem_list_neg (Q:=fun r s'=>r=w∧EP X pins σ Q r s') pl.isList (by lia) (by rw [xAp] <;> lia) (by lia) (by rw [hj];simpa using ew) ⟨rfl,fin⟩) hs
theorem wP:IxR X (rIxT X.K):=by
 intro value slice pins s σ H x y v u Q I rx ry h hs
 obtain ⟨p,xs,i,z,rfl,rfl,hq,he,q⟩:=h
 cases rx
 obtain ⟨t,rfl⟩:=ry
 obtain ⟨its,r,pl,hz⟩:=I.tuple hq
 obtain ⟨j,h1,h2,h3,h4,h5⟩:=mI he
 obtain ⟨w,ew,rw'⟩:=r.get h2
 have hl:=r.length
 have hn:=line63
 have fin:EP X pins σ Q w s:=⟨z,H,I,rw',q⟩
 exact subscriptTail_builtinR (x:=w) pl.typeIs slot_tuple_getitem.lookup
  (getItem_tuple (j:=j) (Q:=fun r s'=>r=w∧EP X pins σ Q r s') pl (by lia) (by lia) (by rw [xAp,← hl];exact h1) (by simpa using ew) ⟨rfl,fin⟩) hs
def flatV:V→Bool
 | .non=>true
 | .bl _=>true
 | .int _=>true
 | .str _=>true
 | _=>false
def eqV:V→V→Bool
 | .non,.non=>true
 | .bl a,.bl b=>a == b
 | .bl a,.int b=>(if a then 1 else 0) == b
 | .int a,.bl b=>a == (if b then 1 else 0)
 | .int a,.int b=>a == b
 | .str a,.str b=>a == b
 | _,_=>false
theorem qM {A:Around} {s:Shared} {y x:V} {u v:Value} (ry:RelV y u) (rx:RelV x v) (fy:flatV y=true) (fx:flatV x=true):SeqAt.EqAt A s u v (eqV y x):=by
 cases y with
 | non =>
  cases ry
  cases x with
  | non=>cases rx;exact SeqAt.EqAt.same _
  | bl b=>cases rx;exact SeqAt.EqAt.none_bool b
  | int b=>obtain ⟨t,rfl⟩:=rx;exact SeqAt.EqAt.none_int b t
  | str b=>obtain ⟨t,rfl⟩:=rx;exact SeqAt.EqAt.none_str b t
  | _=>exact absurd (show false=true from fx) xAy
 | bl a =>
  cases ry
  cases x with
  | non=>cases rx;exact SeqAt.EqAt.bool_none a
  | bl b=>cases rx;exact SeqAt.EqAt.bool_bool a b
  | int b=>obtain ⟨t,rfl⟩:=rx;exact SeqAt.EqAt.bool_int a b t
  | str b=>obtain ⟨t,rfl⟩:=rx;exact SeqAt.EqAt.bool_str a b t
  | _=>exact absurd (show false=true from fx) xAy
 | int a =>
  obtain ⟨t',rfl⟩:=ry
  cases x with
  | non=>cases rx;exact SeqAt.EqAt.int_none a t'
  | bl b=>cases rx;exact SeqAt.EqAt.int_bool a t' b
  | int b=>obtain ⟨t,rfl⟩:=rx;exact SeqAt.EqAt.int_int a t' b t
  | str b=>obtain ⟨t,rfl⟩:=rx;exact SeqAt.EqAt.int_str a t' b t
  | _=>exact absurd (show false=true from fx) xAy
 | str a =>
  obtain ⟨t',rfl⟩:=ry
  cases x with
  | non=>cases rx;exact SeqAt.EqAt.str_none a t'
  | bl b=>cases rx;exact SeqAt.EqAt.str_bool a t' b
  | int b=>obtain ⟨t,rfl⟩:=rx;exact SeqAt.EqAt.str_int a t' b t
  | str b=>obtain ⟨t,rfl⟩:=rx;exact SeqAt.EqAt.str_str a t' b t
  | _=>exact absurd (show false=true from fx) xAy
 | _=>exact absurd (show false=true from fy) xAy
def eqU (x:V) (u:Value):Bool:=match u with
 | .none=>eqV .non x
 | .bool b=>eqV (.bl b) x
 | .int i _=>eqV (.int i) x
 | .str z _=>eqV (.str z) x
 | _=>false
theorem qL {x y:V} {u:Value} (r:RelV y u) (f:flatV y=true):eqU x u=eqV y x:=by
 cases y with
 | non=>cases r;rfl
 | bl b=>cases r;rfl
 | int i=>obtain ⟨t,rfl⟩:=r;rfl
 | str z=>obtain ⟨t,rfl⟩:=r;rfl
 | _=>exact absurd (show false=true from f) xAy
theorem dN {x:V}:∀ {xs:List V} {us:List Value},Vals xs us→xs.all flatV=true→us.any (eqU x)=xs.any fun y=>eqV y x
 | _,_,.nil,_=>rfl
 | y::xs,u::us,.cons r t,f=>by
  rw [List.all_cons,Bool.and_eq_true] at f
  rw [List.any_cons,List.any_cons,qL r f.1,dN t f.2]
theorem c8 {A:Around} {s:Shared} {x:V} {v:Value} (rx:RelV x v) (fx:flatV x=true):∀ {xs:List V} {us:List Value},Vals xs us→xs.all flatV=true→∀ u∈us,SeqAt.EqAt A s u v (eqU x u)
 | _,_,.nil,_=>fun u hu=>by cases hu
 | y::xs,u::us,.cons r t,f=>fun u' hu=>by
  rw [List.all_cons,Bool.and_eq_true] at f
  rcases xAv.mp hu with rfl | hu
  ·rw [qL r f.1];exact qM r rx f.1 fx
  ·exact c8 rx fx t f.2 u' hu
def inV (x:V) (xs:List V):Bool:=xs.any fun y=>eqV y x
def rIn (K:xFr) (neg:Bool):R2:=fun x y H Q=>∃ p xs,y = .ref p∧(SqL K H p xs∨SqT K H p xs)∧flatV x=true∧xs.all flatV=true∧Q (.bl (if neg then !inV x xs else inV x xs)) H
theorem ni:OpR X (compareOp .In) (rIn X.K false):=by
 intro pins s σ H x y v u Q I rx ry h
 obtain ⟨p,xs,rfl,hq,fx,fs,q⟩:=h
 cases ry
 rcases hq with hq | hq
 ·obtain ⟨its,r,pl,hz⟩:=I.list hq
  refine SeqAt.in_listAt (eqU x) pl.isList (fun w hw=>c8 rx fx r fs w (by simpa using hw)) ⟨.bl _,H,I,rfl,?_⟩
  rw [show its.toArray.any (eqU x)=its.any (eqU x) by simp,dN r fs]
  exact q
 ·obtain ⟨its,r,pl,hz⟩:=I.tuple hq
  refine SeqAt.in_tupleAt (eqU x) pl (fun w hw=>c8 rx fx r fs w (by simpa using hw)) ⟨.bl _,H,I,rfl,?_⟩
  rw [show its.toArray.any (eqU x)=its.any (eqU x) by simp,dN r fs]
  exact q
theorem iH:OpR X (compareOp .NotIn) (rIn X.K true):=by
 intro pins s σ H x y v u Q I rx ry h
 obtain ⟨p,xs,rfl,hq,fx,fs,q⟩:=h
 cases ry
 rcases hq with hq | hq
 ·obtain ⟨its,r,pl,hz⟩:=I.list hq
  refine SeqAt.notIn_listAt (eqU x) pl.isList (fun w hw=>c8 rx fx r fs w (by simpa using hw)) ⟨.bl _,H,I,rfl,?_⟩
  rw [show its.toArray.any (eqU x)=its.any (eqU x) by simp,dN r fs]
  exact q
 ·obtain ⟨its,r,pl,hz⟩:=I.tuple hq
  refine SeqAt.notIn_tupleAt (eqU x) pl (fun w hw=>c8 rx fx r fs w (by simpa using hw)) ⟨.bl _,H,I,rfl,?_⟩
  rw [show its.toArray.any (eqU x)=its.any (eqU x) by simp,dN r fs]
  exact q
theorem i7:CallR X (.type "list") (fun xs H Q=>∃ p ys,xs=[.ref p]∧(SqL X.K H p ys∨SqT X.K H p ys)∧∀ l,H l=none→Q (.ref l) (upd H l (.lst ys))):=by
 intro pins s σ H xs us Q I r h
 obtain ⟨p,ys,rfl,hq,q⟩:=h
 obtain ⟨u,rfl,rx⟩:=vals1 r
 cases rx
 have fin:∀ (its:List Value),Vals ys its→ys.length≤sizeLine→∀ (h':Heap) (c':Nat),(∀ b o',s.heap.get? b=some o'→h'.get? b=some o') →
   h'.get? s.heap.objs.size=some { cls:=.type "list",dict:=none,data:=.seq its.toArray c',slots:=#[] }→EP X pins σ Q (.ref s.heap.objs.size) { s with heap:=h' }:=fun its r' hz h' c' kp e =>
  ⟨.ref s.heap.objs.size,_,I.laid (t':=s.toks) kp (xAg _) (show ObjOk X.prog X.w _ h' _ (.lst ys) from ⟨hz,its,c',r',e⟩),rfl,q _ (I.hok.fresh (xAg _))⟩
 rcases hq with hq | hq
 ·obtain ⟨its,r',pl,hz⟩:=I.list hq
  have hlen:=r'.length
  obtain ⟨o,ho,hc,n,hd⟩:=pl.isList
  exact call_list_seq p (.inl rfl) ho hc hd (fun h' c' kp e=>fin its r' hz h' c' kp e) (by simp only [xAp] <;> lia)
 ·obtain ⟨its,r',pl,hz⟩:=I.tuple hq
  have hlen:=r'.length
  obtain ⟨o,ho,hc,n,hd⟩:=pl
  exact call_list_seq p (.inr rfl) ho hc hd (fun h' c' kp e=>fin its r' hz h' c' kp e) (by simp only [xAp] <;> lia)
theorem gO:CallR X (.type "tuple") (fun xs H Q=>∃ p ys,xs=[.ref p]∧((SqL X.K H p ys∧∀ l,H l=none→Q (.ref l) (upd H l (.tup ys)))∨(SqT X.K H p ys∧Q (.ref p) H))):=by
 intro pins s σ H xs us Q I r h
 obtain ⟨p,ys,rfl,h⟩:=h
 obtain ⟨u,rfl,rx⟩:=vals1 r
 cases rx
 rcases h with ⟨hq,q⟩ | ⟨hq,q⟩
 ·obtain ⟨its,r',pl,hz⟩:=I.list hq
  have hlen:=r'.length
  refine call_tuple_list pl.isList (fun h' kp=>?_) (by simp only [xAp] <;> lia)
  have I1:Inv X pins σ H { s with heap:=h' }:=I.kept (t':=s.toks) kp
  have I2:Inv X pins σ (upd H h'.objs.size (.tup ys)) { s with heap:=h'.push { cls:=.type "tuple",data:=.seq its.toArray } } :=
   I1.laid (t':=s.toks) (fun b o e=>xAf _ e) (xAg _) (show ObjOk X.prog X.w _ _ _ (.tup ys) from ⟨hz,its,r',IsTup.new _ _⟩)
  exact ⟨.ref h'.objs.size,_,I2,rfl,q _ (I1.hok.fresh (xAg _))⟩
 ·obtain ⟨its,r',pl,hz⟩:=I.tuple hq
  exact call_tuple_same pl ⟨.ref p,H,I,rfl,q⟩
def tyV (K:xFr) (T:String) (x:V) (H:Hp):Prop:=match x with
 | .str _=>T="str"
 | .int _=>T="int"
 | .ref p=>(T="list"∧∃ xs,SqL K H p xs)∨(T="tuple"∧∃ o,K.lookup p=some o∧o.cls = .type "tuple"∧o.dict=none) ∨
   (T="dict"∧((∃ kvs,H p=some (.dK kvs))∨∃ kvs,H p=some (.dT kvs)))∨(T="set"∧∃ S n,H p=some (.set S n))
 | _=>False
theorem oi {pins:List (Addr×Obj)} {σ:St} {H:Hp} {s:Shared} {T:String} {x:V} {v:Value} (I:Inv X pins σ H s) (r:RelV x v) (ty:tyV X.K T x H) :
  s.TypeIs v T∧∀ a,v = .ref a→∃ ob,s.heap.get? a=some ob∧ob.dict=none:=by
 cases x with
 | str z =>
  obtain ⟨t,rfl⟩:=r
  cases (show T="str" from ty)
  exact ⟨typeIs_str s z t,fun _ e=>nomatch e⟩
 | int i =>
  obtain ⟨t,rfl⟩:=r
  cases (show T="int" from ty)
  exact ⟨typeIs_int s i t,fun _ e=>nomatch e⟩
 | ref p =>
  cases r
  rcases ty with ⟨rfl,xs,hq⟩ | ⟨rfl,o,hk,hc,hd⟩ | ⟨rfl,hk⟩ | ⟨rfl,S,n,hk⟩
  ·obtain ⟨its,_,pl,_⟩:=I.list hq
   refine ⟨pl.isList.typeIs,fun a e=>?_⟩
   cases e
   obtain ⟨o,n,e,c,hd,_⟩:=pl
   exact ⟨o,e,hd⟩
  ·refine ⟨⟨o,I.kIn p o hk,hc⟩,fun a e=>?_⟩
   cases e
   exact ⟨o,I.kIn _ o hk,hd⟩
  ·have z:∃ o,s.heap.get? p=some o∧o.ExactDict:=by
    rcases hk with ⟨kvs,hk⟩ | ⟨kvs,hk⟩
    ·obtain ⟨_,_,_,_,o,_,_,e,ex,_⟩:=I.hok p _ hk
     exact ⟨o,e,ex⟩
    ·obtain ⟨_,_,_,_,o,_,_,e,ex,_⟩:=I.hok p _ hk
     exact ⟨o,e,ex⟩
   obtain ⟨o,e,ex⟩:=z
   refine ⟨⟨o,e,ex.1⟩,fun a e2=>?_⟩
   cases e2
   exact ⟨o,e,ex.2.1⟩
  ·obtain ⟨o,_,_,_,e,ex,_⟩:=I.hok p _ hk
   refine ⟨⟨o,e,ex.1⟩,fun a e2=>?_⟩
   cases e2
   exact ⟨o,e,ex.2.1⟩
 | _=>exact False.elim ty
def tBM0 (K:xFr) (T:String) (r:V→List V→Hp→VK→Prop) (to:TE):TE:=fun σ H Q=>to σ H fun x H1=>tyV K T x H1∧r x [] H1 Q
def tBM (K:xFr) (T:String) (r:V→List V→Hp→VK→Prop) (to:TE) (t:TA):TE:=fun σ H Q=>to σ H fun x H1=>tyV K T x H1∧t σ H1 fun xs H2=>r x xs H2 Q
variable {o e:Expr} {es:List Expr} {to:TE} {t:TA} {name:Str} {apos cpos:Pos} {T id:String} {r:V→List V→Hp→VK→Prop}
end
end L2
namespace L2
open PySem PySem.Spec PyProof.Rows
def MtM (X:Cx) (id:String) (r:V→List V→Hp→VK→Prop):Prop :=
 ∀ (pins:List (Addr×Obj)) (s:Shared) (σ:St) (H:Hp) (x:V) (xs:List V) (v:Value) (us:List Value) (Q:VK),Inv X pins σ H s→RelV x v→Vals xs us→r x xs H Q →
  wpAny (model X.prog X.w) X.A (call (.builtin id) (v::us)) (EP X pins σ Q) X.xe s
theorem Vals.one:∀ {x:V} {us:List Value},Vals [x] us→∃ u,us=[u]∧RelV x u
 | _,_,.cons r .nil=>⟨_,rfl,r⟩
section
variable {X:Cx} {pins:List (Addr×Obj)} {σ:St} {H:Hp} {s:Shared} {l b:Addr} {xs ys zs:List V}
theorem Inv.lset {its its':List Value} {n:Nat} {f:Array Value→Array Value} {t':Nat} (I:Inv X pins σ H s) (hH:H l=some (.lst xs))
  (e:s.heap.get? l=some { cls:=.type "list",data:=.seq its.toArray n }) (hf:f its.toArray=its'.toArray) (hv:Vals ys its') (hz:ys.length≤sizeLine) :
  Inv X pins σ (upd H l (.lst ys)) { s with heap:=s.heap.update l (Obj.mapSeq f),toks:=t' }:=by
 have q:=PySem.IsL.update e f
 rw [hf] at q
 refine I.write (x:=l) (e:=l) (by rw [hH];exact trivial) (.inl rfl) (fun b' u hb hu=>(Heap.get?_update_other s.heap (Obj.mapSeq f) (Ne.symm hb)).trans hu) ⟨_,q⟩ ?_
 exact ⟨hz,its',_,hv,q⟩
theorem Inv.lnew {its:List Value} {t':Nat} (I:Inv X pins σ H s) (hv:Vals ys its) (hz:ys.length≤sizeLine) :
  Inv X pins σ (upd H s.heap.objs.size (.lst ys)) { s with heap:=s.heap.push { cls:=.type "list",data:=.seq its.toArray },toks:=t' } :=
 I.laid (fun _ _ q=>xAf _ q) (xAg _) ⟨hz,its,0,hv,xAl _ rfl⟩
theorem Inv.fresh (I:Inv X pins σ H s):H s.heap.objs.size=none:=I.hok.fresh (xAg _)
theorem Inv.lstM (I:Inv X pins σ H s) (hH:H l=some (.lst xs)):xs.length≤sizeLine∧∃ (its:List Value) (n:Nat),Vals xs its∧xs.length=its.length∧s.heap.get? l=some { cls:=.type "list",data:=.seq its.toArray n }:=by
 obtain ⟨z,its,n,r,e⟩:=I.hok l _ hH
 exact ⟨z,its,n,r,r.length,e⟩
theorem notLongL {n:Nat} (h:n≤sizeLine):Builtin.List.listTooLong n=false:=by
 unfold Builtin.List.listTooLong
 exact decide_eq_false (by lia)
end
section
variable {X:Cx}
def rAppend:V→List V→Hp→VK→Prop:=fun x vs H Q=>∃ l xs y,x = .ref l∧vs=[y]∧H l=some (.lst xs)∧xs.length<sizeLine∧Q .non (upd H l (.lst (xs++[y])))
theorem bE:MtM X "list.append" rAppend:=by
 intro pins s σ H x vs v us Q I rx rv h
 obtain ⟨l,xs,y,rfl,rfl,hH,hz,q⟩:=h
 cases rx
 obtain ⟨u,rfl,ru⟩:=rv.one
 obtain ⟨z,its,n,r,hl,e⟩:=I.lstM hH
 refine call_meets F.slot_list_append ⟨_,e,rfl⟩ F.entry_list_append (F.args_list_append_2 _ _) (PySem.list_append l its.toArray n u (by rw [xAp];lia)) ⟨e,?_⟩
 refine ⟨.non,_,I.lset (its':=its++[u]) hH e (by simp) (r.append (.cons ru .nil)) ?_,rfl,q⟩
 rw [xAb,xAt]
 lia
def rExtend:V→List V→Hp→VK→Prop:=fun x vs H Q=>∃ l b xs zs,x = .ref l∧vs=[.ref b]∧H l=some (.lst xs)∧H b=some (.lst zs)∧xs.length+zs.length≤sizeLine∧Q .non (upd H l (.lst (xs++zs)))
theorem g0:MtM X "list.extend" rExtend:=by
 intro pins s σ H x vs v us Q I rx rv h
 obtain ⟨l,b,xs,zs,rfl,rfl,hH,hB,hz,q⟩:=h
 cases rx
 obtain ⟨u,rfl,ru⟩:=rv.one
 cases ru
 obtain ⟨z,its,n,r,hl,e⟩:=I.lstM hH
 obtain ⟨z2,its2,n2,r2,hl2,e2⟩:=I.lstM hB
 have hsz:its.toArray.size+its2.toArray.size≤sizeLine:=by rw [xAp,xAp];lia
 have hlong:¬ (!its.toArray.isEmpty && Builtin.List.listTooLong (its.toArray.size+its2.toArray.size))=true:=by
  rw [notLongL hsz,Bool.and_false]
  exact xAy
 refine call_meets F.slot_list_extend ⟨_,e,rfl⟩ F.entry_list_extend (F.args_list_extend_2 _ _)
  (AutoSeq1.list_extend_list_list_0 l its.toArray n b its2.toArray n2 hlong (by rw [xAp];lia) (by lia)) ⟨e,e2,?_⟩
 refine ⟨.non,_,I.lset (its':=its++its2) hH e (by simp) (r.append r2) ?_,rfl,q⟩
 rw [xAb]
 lia
def rCat:R2:=fun x y H Q=>∃ l b xs zs,x = .ref l∧y = .ref b∧H l=some (.lst xs)∧H b=some (.lst zs)∧xs.length+zs.length≤sizeLine∧∀ p,H p=none→Q (.ref p) (upd H p (.lst (xs++zs)))
theorem bU:OpR X (binaryOp .Add) rCat:=by
 intro pins s σ H x y v u Q I rx ry h
 obtain ⟨l,b,xs,zs,rfl,rfl,hH,hB,hz,q⟩:=h
 cases rx
 cases ry
 obtain ⟨z,its,n,r,hl,e⟩:=I.lstM hH
 obtain ⟨z2,its2,n2,r2,hl2,e2⟩:=I.lstM hB
 refine PySem.P.add_list e e2 ?_ (by rw [xAp,xAp];lia)
 have ea:its.toArray++its2.toArray=(its++its2).toArray:=by simp
 rw [ea]
 exact ⟨.ref _,_,I.lnew (t':=s.toks) (r.append r2) (by rw [xAb];lia),rfl,q _ I.fresh⟩
end
section
variable {prog:Program} {w:World} {A:Around} {E:Value→Shared→Prop} {s:Shared}
set_option maxRecDepth 100000 in
end
end L2
namespace L2
open PySem PySem.Spec PyProof.Rows
section
variable {κ:Type} [DecidableEq κ]
def valV (kvs:List (κ×V)) (k:κ):Option V:=(kvs.find? fun kv=>decide (kv.1=k)).map (·.2)
def putK (kvs:List (κ×V)) (k:κ) (v:V):List (κ×V) :=
 if (kvs.any fun kv=>decide (kv.1=k))=true then kvs.map (fun kv=>if kv.1=k then (kv.1,v) else kv) else kvs++[(k,v)]
theorem cZ {p:κ×V} {r:List (κ×V)} {k:κ} (e:p.1=k):valV (p::r) k=some p.2:=by simp [valV,xB4,e]
theorem dm {p:κ×V} {r:List (κ×V)} {k:κ} (e:¬ p.1=k):valV (p::r) k=valV r k:=by simp [valV,xB4,e]
theorem dq (k:κ):∀ kvs:List (κ×V),(kvs.any fun kv=>decide (kv.1=k))=(valV kvs k).isSome
 | []=>rfl
 | p::r=>by
  rw [List.any_cons]
  by_cases e:p.1=k
  ·simp only [cZ e,xBd e,Bool.true_or,Option.isSome_some]
  ·rw [dm e,decide_eq_false e,Bool.false_or];exact dq k r
theorem dD (kvs:List (κ×V)) (k:κ) (v:V):(putK kvs k v).length≤kvs.length+1:=by
 unfold putK
 split
 ·rw [xAa];lia
 ·rw [xAb,xAo,List.length_nil];lia
theorem RelO.isSome_eq {o:Option V} {u:Option Value} (r:RelO o u):o.isSome=u.isSome:=by
 cases o with
 | none=>cases u with
  | none=>rfl
  | some _=>exact (show False from r).elim
 | some _=>cases u with
  | none=>exact (show False from r).elim
  | some _=>rfl
theorem RelO.getD {o:Option V} {u:Option Value} {d:V} {d':Value} (r:RelO o u) (rd:RelV d d'):RelV (o.getD d) (u.getD d'):=by
 cases o with
 | none=>cases u with
  | none=>exact rd
  | some _=>exact (show False from r).elim
 | some _=>cases u with
  | none=>exact (show False from r).elim
  | some _=>exact r
theorem KV.val {kvs:List (κ×V)} {vs:List (κ×Value)} (r:KV kvs vs) (k:κ):RelO (valV kvs k) (valueAt vs k):=by
 unfold KV at r
 induction r with
 | nil=>exact True.intro
 | @cons p q ps qs h t ih =>
  obtain ⟨h1,h2⟩:=h
  by_cases e:p.1=k
  ·have e':q.1=k:=h1.symm.trans e
   have b:valueAt (q::qs) k=some q.2:=by simp [valueAt,xB4,e']
   rw [cZ e,b];exact h2
  ·have e':¬ q.1=k:=fun z=>e (h1.trans z)
   have b:valueAt (q::qs) k=valueAt qs k:=by simp [valueAt,xB4,e']
   rw [dm e,b];exact ih
theorem KV.any {kvs:List (κ×V)} {vs:List (κ×Value)} (r:KV kvs vs) (k:κ):(kvs.any fun kv=>decide (kv.1=k))=vs.any fun kv=>decide (kv.1=k):=by
 unfold KV at r
 induction r with
 | nil=>rfl
 | cons h t ih=>rw [List.any_cons,List.any_cons,ih,h.1]
theorem KV.repl {kvs:List (κ×V)} {vs:List (κ×Value)} (r:KV kvs vs) (k:κ) {y:V} {u:Value} (ry:RelV y u) :
  KV (kvs.map fun kv=>if kv.1=k then (kv.1,y) else kv) (vs.map fun kv=>if kv.1=k then (kv.1,u) else kv):=by
 unfold KV at r ⊢
 induction r with
 | nil=>exact .nil
 | @cons p q ps qs h t ih =>
  rw [xBs,xBs]
  refine .cons ?_ ih
  obtain ⟨h1,h2⟩:=h
  by_cases e:p.1=k
  ·rw [xCg e,xCg (h1.symm.trans e)];exact ⟨h1,ry⟩
  ·rw [xCf e,xCf (fun z=>e (h1.trans z))];exact ⟨h1,h2⟩
theorem KV.put {kvs:List (κ×V)} {vs:List (κ×Value)} (r:KV kvs vs) (k:κ) {y:V} {u:Value} (ry:RelV y u):KV (putK kvs k y) (stored vs k u):=by
 unfold putK stored
 rw [r.any k]
 by_cases e:(vs.any fun kv=>decide (kv.1=k))=true
 ·rw [xCg e,xCg e];exact r.repl k ry
 ·rw [xCf e,xCf e];exact Paired.snoc r ⟨rfl,ry⟩
theorem KV.keys {kvs:List (κ×V)} {vs:List (κ×Value)} (r:KV kvs vs):kvs.map (·.1)=vs.map (·.1):=by
 unfold KV at r
 induction r with
 | nil=>rfl
 | cons h t ih=>rw [xBs,xBs,ih,h.1]
theorem KV.length {kvs:List (κ×V)} {vs:List (κ×Value)} (r:KV kvs vs):kvs.length=vs.length:=Paired.length r
end
theorem gt {P:Program} {w:World} {k:Key} {u:Value} (r:RelV (kV k) u):(mixKind P w).is k u=true:=by
 cases k with
 | inl i=>obtain ⟨t,e⟩:=(show ∃ t,u=Value.int i t from r);subst e;exact jq P w i t
 | inr x=>obtain ⟨t,e⟩:=(show ∃ t,u=Value.str x t from r);subst e;exact jp P w x t
theorem hU {P:Program} {w:World}:∀ {ks:List Key} {us:List Value},Vals (ks.map kV) us→ItemsAre (mixKind P w) ks us
 | [],_,r=>by rw [List.map_nil] at r;cases r;exact .nil
 | k::ks,_,r=>by
  rw [xBs] at r
  cases r with
  | cons h t=>exact .cons (gt h) (hU t)
abbrev KT (H:Hp):List (List Key×V)→List (List Key×Addr×Value)→Prop:=Paired fun p q=>p.1=q.1∧H q.2.1=some (.tup (p.1.map kV))∧RelV p.2 q.2.2
theorem KT.val {H:Hp} {kvs:List (List Key×V)} {xs:List (List Key×Addr×Value)} (r:KT H kvs xs) (k:List Key):RelO (valV kvs k) ((atKey xs k).map (·.2)):=by
 induction r with
 | nil=>exact True.intro
 | @cons p q ps qs h t ih =>
  obtain ⟨h1,_,h2⟩:=h
  by_cases e:p.1=k
  ·have e':q.1=k:=h1.symm.trans e
   have b:atKey (q::qs) k=some q.2:=by simp [atKey,xB4,e']
   rw [cZ e,b];exact h2
  ·have e':¬ q.1=k:=fun z=>e (h1.trans z)
   have b:atKey (q::qs) k=atKey qs k:=by simp [atKey,xB4,e']
   rw [dm e,b];exact ih
theorem KT.repl {H:Hp} {kvs:List (List Key×V)} {xs:List (List Key×Addr×Value)} (r:KT H kvs xs) (k:List Key) {y:V} {u:Value} (ry:RelV y u) :
  KT H (kvs.map fun kv=>if kv.1=k then (kv.1,y) else kv) (xs.map (putAt k u)):=by
 induction r with
 | nil=>exact .nil
 | @cons p q ps qs h t ih =>
  rw [xBs,xBs]
  refine .cons ?_ ih
  obtain ⟨h1,h2,h3⟩:=h
  unfold putAt
  by_cases e:p.1=k
  ·rw [xCg e,xCg (h1.symm.trans e)];exact ⟨h1,h2,ry⟩
  ·rw [xCf e,xCf (fun z=>e (h1.trans z))];exact ⟨h1,h2,h3⟩
theorem KT.put {H:Hp} {kvs:List (List Key×V)} {xs:List (List Key×Addr×Value)} (r:KT H kvs xs) (k:List Key) {b:Addr} {y:V} {u:Value} (hb:H b=some (.tup (k.map kV))) (ry:RelV y u) :
  KT H (putK kvs k y) (storedH xs k b u):=by
 have e:(kvs.any fun kv=>decide (kv.1=k))=(atKey xs k).isSome:=by
  rw [dq,(r.val k).isSome_eq,Option.isSome_map]
 unfold putK storedH
 rw [e]
 by_cases q:(atKey xs k).isSome=true
 ·rw [xCg q,xCg q];exact r.repl k ry
 ·rw [xCf q,xCf q];exact Paired.snoc r ⟨rfl,hb,ry⟩
theorem KT.keeps {H H':Hp} {kvs:List (List Key×V)} {xs:List (List Key×Addr×Value)} (r:KT H kvs xs) (ht:∀ b ys,H b=some (.tup ys)→H' b=some (.tup ys)):KT H' kvs xs :=
 Paired.mapP r fun _ _ z=>⟨z.1,ht _ _ z.2.1,z.2.2⟩
section
variable {P:Program} {w:World} {H:Hp} {h:Heap} {a:Addr}
theorem ug {u:HO} (ok:HOk P w H h) (e:Rd H a u):ObjOk P w H h a u:=e.ok ok
theorem dR {kvs:List (Key×V)} (ok:HOk P w H h) (e:Rd H a (.dK kvs)):kvs.length≤sizeLine∧(a == sysModules)=false∧∃ vs,KV kvs vs∧h.DictOf (mixKind P w) a vs :=
 show ObjOk P w H h a (.dK kvs) from ug ok e
theorem jG {kvs:List (Key×V)} (ok:HOk P w H h) (e:H a=some (.dK kvs)):kvs.length≤sizeLine∧(a == sysModules)=false∧∃ vs,KV kvs vs∧h.DictOf (mixKind P w) a vs:=dR ok (.inl e)
theorem eZ {ks:List Key} (ok:HOk P w H h) (e:H a=some (.tup (ks.map kV))):(tupleKind (mixKind P w)).is h ks a:=by
 obtain ⟨_,its,r,o,h1,h2,n,h3⟩:=(show ObjOk P w H h a (.tup (ks.map kV)) from ok a _ e)
 exact ⟨o,its.toArray,n,h1,h2,h3,by simpa using hU r⟩
theorem gz {kvs:List (List Key×V)} (ok:HOk P w H h) (e:Rd H a (.dT kvs)):kvs.length≤sizeLine∧(a == sysModules)=false ∧
  ∃ xs,KT H kvs xs∧h.DictOfH (tupleKind (mixKind P w)) a xs:=by
 obtain ⟨z,y,xs,r,o,es,ep,h1,h2,h3,h4,h5⟩:=(show ObjOk P w H h a (.dT kvs) from ug ok e)
 refine ⟨z,y,xs,r,o,es,ep,h1,h2,h3,h4,fun x hx=>?_,h5⟩
 have all:∀ {l:List (List Key×V)} {m:List (List Key×Addr×Value)},KT H l m→∀ x∈m,(tupleKind (mixKind P w)).is h x.1 x.2.1:=by
  intro l m q
  induction q with
  | nil=>intro x hx;exact nomatch hx
  | @cons p q ps qs hq t ih =>
   intro x hx
   rcases xAv.mp hx with e | hx
   ·subst e
    exact eZ ok (by rw [← hq.1];exact hq.2.1)
   ·exact ih x hx
 exact all r x hx
theorem yi {kvs:List (List Key×V)} (ok:HOk P w H h) (e:H a=some (.dT kvs)):kvs.length≤sizeLine∧(a == sysModules)=false ∧
  ∃ xs,KT H kvs xs∧h.DictOfH (tupleKind (mixKind P w)) a xs:=gz ok (.inl e)
end
def DGet (H:Hp) (a:Addr) (y:V) (r:Option V):Prop :=
 (∃ kvs k,Rd H a (.dK kvs)∧y=kV k∧r=valV kvs k)∨∃ kvs k b,Rd H a (.dT kvs)∧y = .ref b∧H b=some (.tup (k.map kV))∧r=valV kvs k
def DPut (H:Hp) (a:Addr) (y v:V) (H':Hp):Prop :=
 (∃ kvs k,H a=some (.dK kvs)∧y=kV k∧kvs.length<sizeLine∧H'=upd H a (.dK (putK kvs k v))) ∨
 ∃ kvs k b,H a=some (.dT kvs)∧y = .ref b∧H b=some (.tup (k.map kV))∧kvs.length<sizeLine∧H'=upd H a (.dT (putK kvs k v))
section
variable {X:Cx} {pins:List (Addr×Obj)} {σ:St} {H:Hp} {s:Shared} {a:Addr} {y v:V} {u r:Value} {o:Option V} {A:Around} {E:Value→Shared→Prop}
theorem Inv.big (I:Inv X pins σ H s):sysModules<s.heap.objs.size:=by
 have h:mainGlobals<s.heap.objs.size:=(I.mod.glob.keeps I.bk).lt
 exact Nat.lt_trans (by decide) h
theorem nP {Q:Value→Shared→Prop} (hu:A.units+1<cLine) (I:Inv X pins σ H s) (g:DGet H a y (some v)) (ry:RelV y u) (h:∀ w' s',Inv X pins σ H s'→RelV v w'→Q w' s') :
  wpAny (model X.prog X.w) A (getItem (.ref a) u) Q E s:=by
 rcases g with ⟨kvs,k,e,ey,l⟩ | ⟨kvs,k,b,e,ey,eb,l⟩
 ·subst ey
  obtain ⟨z,hd,vs,rel,dd⟩:=dR I.hok e
  obtain ⟨w',hw,rw'⟩:=RelO.some_of (v:=v) (o:=valueAt vs k) (by rw [l];exact rel.val k)
  exact wpAny_getItem_of (gt ry) dd.mapOf hw (h w' _ (I.tok _) rw')
 ·subst ey
  cases (show u=Value.ref b from ry)
  obtain ⟨z,hd,xs,rel,dd⟩:=gz I.hok e
  obtain ⟨w',hw,rw'⟩:=RelO.some_of (v:=v) (o:=(atKey xs k).map (·.2)) (by rw [l];exact rel.val k)
  obtain ⟨p,hp,hp2⟩:=xA3.mp hw
  refine wpAny_getItem_heap (tupleKind_room_in1 hu) (eZ I.hok eb) dd hp ?_
  rw [hp2]
  exact h w' _ (I.tok _) rw'
theorem yI {Q:Value→Shared→Prop} (hu:A.units+1<cLine) (I:Inv X pins σ H s) (g:DGet H a y o) (ry:RelV y u) (h:∀ s',Inv X pins σ H s'→Q (.bool o.isSome) s') :
  wpAny (model X.prog X.w) A (compareOp .In u (.ref a)) Q E s:=by
 rcases g with ⟨kvs,k,e,ey,l⟩ | ⟨kvs,k,b,e,ey,eb,l⟩
 ·subst ey
  obtain ⟨z,hd,vs,rel,dd⟩:=dR I.hok e
  refine wpAny_in_of (gt ry) hd dd.mapOf ?_
  rw [← (rel.val k).isSome_eq,← l]
  exact h _ (I.tok _)
 ·subst ey
  cases (show u=Value.ref b from ry)
  obtain ⟨z,hd,xs,rel,dd⟩:=gz I.hok e
  refine wpAny_in_heap (tupleKind_room_in1 hu) (eZ I.hok eb) hd dd ?_
  have q:=(rel.val k).isSome_eq
  rw [Option.isSome_map] at q
  rw [← q,← l]
  exact h _ (I.tok _)
theorem tR {Q:Value→Shared→Prop} (hu:A.units+1<cLine) (I:Inv X pins σ H s) (g:DGet H a y o) (ry:RelV y u) (h:∀ s',Inv X pins σ H s'→Q (.bool (!o.isSome)) s') :
  wpAny (model X.prog X.w) A (compareOp .NotIn u (.ref a)) Q E s:=by
 rcases g with ⟨kvs,k,e,ey,l⟩ | ⟨kvs,k,b,e,ey,eb,l⟩
 ·subst ey
  obtain ⟨z,hd,vs,rel,dd⟩:=dR I.hok e
  refine wpAny_notIn_of (gt ry) hd dd.mapOf ?_
  rw [← (rel.val k).isSome_eq,← l]
  exact h _ (I.tok _)
 ·subst ey
  cases (show u=Value.ref b from ry)
  obtain ⟨z,hd,xs,rel,dd⟩:=gz I.hok e
  refine wpAny_notIn_heap (tupleKind_room_in1 hu) (eZ I.hok eb) hd dd ?_
  have q:=(rel.val k).isSome_eq
  rw [Option.isSome_map] at q
  rw [← q,← l]
  exact h _ (I.tok _)
theorem i0 {h':Heap} {t':Nat} {ob:HO} (I:Inv X pins σ H s) (mu:Mut (H a)) (hs:Heap.SameBut a s.heap h') (he:∃ q,h'.get? a=some q) (new:ObjOk X.prog X.w (upd H a ob) h' a ob) :
  Inv X pins σ (upd H a ob) { s with heap:=h',toks:=t' } :=
 I.write (x:=a) (e:=a) mu (.inl rfl) (fun b q hb z=>(hs.2 b hb).trans z) he new
theorem kE {P:Program} {w:World} {H':Hp} {h':Heap} {kvs:List (Key×V)} {vs:List (Key×Value)} (z:kvs.length≤sizeLine) (hd:(a == sysModules)=false) (rel:KV kvs vs) (dd:h'.DictOf (mixKind P w) a vs) :
  ObjOk P w H' h' a (.dK kvs):=⟨z,hd,vs,rel,dd⟩
theorem nO {H':Hp} {Q:Unit→Shared→Prop} (hu:A.units+1<cLine) (I:Inv X pins σ H s) (g:DPut H a y v H') (ry:RelV y u) (rv:RelV v r) (h:∀ s',Inv X pins σ H' s'→Q () s') :
  wpAny (model X.prog X.w) A (setItem (.ref a) u r) Q E s:=by
 rcases g with ⟨kvs,k,e,ey,l,eH⟩ | ⟨kvs,k,b,e,ey,eb,l,eH⟩
 ·subst ey eH
  obtain ⟨z,hd,vs,rel,dd⟩:=jG I.hok e
  have hz:vs.length≤sizeLine:=by rw [← rel.length];exact z
  have hl:(putK kvs k v).length≤sizeLine:=by have:=dD kvs k v;lia
  refine wpAny_setItem_pairs (hsz:=hz) (gt ry) dd fun h' dd' hs=>h _ ?_
  have he:∃ q,h'.get? a=some q:=let ⟨q,_,_,hq,_⟩:=dd';⟨q,hq⟩
  exact i0 I (by rw [e];exact True.intro) hs he (kE hl hd (rel.put k rv) dd')
 ·subst ey eH
  cases (show u=Value.ref b from ry)
  obtain ⟨z,hd,xs,rel,dd⟩:=yi I.hok e
  have hz:xs.length≤sizeLine:=by rw [← Paired.length rel];exact z
  have hl:(putK kvs k v).length≤sizeLine:=by have:=dD kvs k v;lia
  refine wpAny_setItem_heap (hsz:=hz) (tupleKind_room_in1 hu) (eZ I.hok eb) dd fun h' dd' hs=>h _ ?_
  obtain ⟨q,es,ep,hq,h2,h3,h4,_,h5⟩:=dd'
  refine i0 I (by rw [e];exact True.intro) hs ⟨q,hq⟩ ⟨hl,hd,_,(rel.put k eb rv).keeps fun c ys ec=>?_,q,es,ep,hq,h2,h3,h4,h5⟩
  rw [aA (uk ec e (fun z=>nomatch z))]
  exact ec
end
section
variable {X:Cx} {pins:List (Addr×Obj)} {σ:St} {H:Hp} {s:Shared} {a:Addr} {kvs:List (Key×V)} {k:Key} {u:Value} {A:Around} {E:Value→Shared→Prop}
theorem yj {Q:Value→Shared→Prop} (I:Inv X pins σ H s) (e:Rd H a (.dK kvs)) (h:∀ t s',Inv X pins σ H s'→Q (.int kvs.length t) s'):wpAny (model X.prog X.w) A (call (.builtin "len") [.ref a]) Q E s:=by
 obtain ⟨z,hd,vs,rel,dd⟩:=dR I.hok e
 refine call_len_dict hd dd (by rw [← rel.length];rw [sizeLine_eq] at z;lia) ?_
 rw [← rel.length]
 exact h _ _ (I.tok _)
end
def NoSl (i:Expr):Prop:=∀ ov iv,subscripted i false ov iv=operate [ov,iv] (getItem ov iv)
theorem rh {prog:Program} {w:World} {A:Around} {E:Value→Shared→Prop} {s:Shared} {env:Env} {value slice:Expr} {pos:Pos} {T id:String} {Q:Value→Shared→Prop}
  (hl:typeLookup (.type T) "__getitem__"=pure (some (.builtin id))) (hs:NoSl slice)
  (h:wpAny (model prog w) A (eval value env) (fun o s₁=>wpAny (model prog w) A (eval slice env) (fun i s₂=>s₂.TypeIs o T∧wpAny (model prog w) A (getItem o i) Q E s₂) E s₁) E s) :
  wpAny (model prog w) A (eval (.Subscript value slice pos) env) Q E s:=by
 refine Subscript_ (wpAny_mono h (fun o s₁ h₁=>wpAny_mono h₁ (fun i s₂ h₂=>?_) fun _ _ x=>x) fun _ _ x=>x)
 obtain ⟨hT,h₂⟩:=h₂
 unfold subscriptTail
 refine xAd ?_
 rw [getitemInPython_of_ne hT.not_modules]
 refine xAd (wpAny_specialOf hT hl ?_)
 have fin:wpAny (model prog w) A (subscripted slice false o i) (fun r s₃=>wpAny (model prog w) A (letTemporaryGo value o r >>= fun _=>pure r) Q E s₃) E s₂:=by
  rw [hs o i]
  exact wpAny_operating (wpAny_mono h₂ (fun r s₃ h₃=>xAd (wpAny_letTemporaryGo (xAe h₃))) fun _ _ x=>x)
 first
  | exact xAe (xAd fin)
  | exact xAd (xAe (xAd fin))
  | exact xAd fin
theorem jJ {X:Cx} {pins:List (Addr×Obj)} {σ:St} {H:Hp} {s:Shared} {a:Addr} {y:V} {o:Option V} (I:Inv X pins σ H s) (g:DGet H a y o):s.TypeIs (.ref a) "dict":=by
 rcases g with ⟨kvs,k,e,_,_⟩ | ⟨kvs,k,b,e,_,_,_⟩
 ·obtain ⟨_,_,vs,_,dd⟩:=dR I.hok e
  exact dd.typeIs
 ·obtain ⟨_,_,xs,_,dd⟩:=gz I.hok e
  exact dd.typeIs
def tDGet (td ty:TE):TE:=fun σ H Q=>td σ H fun x H1=>ty σ H1 fun y H2=>∃ a v,x = .ref a∧DGet H2 a y (some v)∧Q v H2
def tDIn (ty td:TE):TE:=fun σ H Q=>ty σ H fun y H1=>td σ H1 fun x H2=>∃ a o,x = .ref a∧DGet H2 a y o∧Q (.bl o.isSome) H2
def tDNotIn (ty td:TE):TE:=fun σ H Q=>ty σ H fun y H1=>td σ H1 fun x H2=>∃ a o,x = .ref a∧DGet H2 a y o∧Q (.bl (!o.isSome)) H2
def sDPut (td ty tv:TE):TS:=fun D σ H=>tv σ H fun v H1=>td σ H1 fun x H2=>ty σ H2 fun y H3=>∃ a H4,x = .ref a∧DPut H3 a y v H4∧D.nx σ H4
section
variable {X:Cx} {o i e value:Expr} {pos pos' tpos:Pos} {td ty tv:TE}
theorem sq (hu:X.A.units+1<cLine) (ho:PE X o td) (hi:PE X i ty) (hs:NoSl i):PE X (.Subscript o i pos) (tDGet td ty):=by
 intro pins s σ H Q I h
 refine rh PySem.F.slot_dict_getitem.lookup hs (thn (ho pins s σ H _ I h) fun u s1 ⟨x,H1,I1,rx,q1⟩=>thn (hi pins s1 σ H1 _ I1 q1) fun iv s2 ⟨y,H2,I2,ry,a,v,ex,g,q2⟩=>?_)
 subst ex
 obtain rfl:u=Value.ref a:=rx
 exact ⟨jJ I2 g,nP hu I2 g ry fun w' s3 I3 rw'=>⟨v,H2,I3,rw',q2⟩⟩
theorem we (hu:X.A.units+1<cLine) (hi:PE X i ty) (ho:PE X o td):PC X .In i o (tDIn ty td):=by
 intro pins s σ H Q I h
 refine thn (hi pins s σ H _ I h) fun iv s1 ⟨y,H1,I1,ry,q1⟩=>thn (ho pins s1 σ H1 _ I1 q1) fun u s2 ⟨x,H2,I2,rx,a,ov,ex,g,q2⟩=>?_
 subst ex
 obtain rfl:u=Value.ref a:=rx
 exact yI hu I2 g ry fun s3 I3=>⟨.bl ov.isSome,H2,I3,rfl,q2⟩
theorem nh (hu:X.A.units+1<cLine) (hi:PE X i ty) (ho:PE X o td):PC X .NotIn i o (tDNotIn ty td):=by
 intro pins s σ H Q I h
 refine thn (hi pins s σ H _ I h) fun iv s1 ⟨y,H1,I1,ry,q1⟩=>thn (ho pins s1 σ H1 _ I1 q1) fun u s2 ⟨x,H2,I2,rx,a,ov,ex,g,q2⟩=>?_
 subst ex
 obtain rfl:u=Value.ref a:=rx
 exact tR hu I2 g ry fun s3 I3=>⟨.bl (!ov.isSome),H2,I3,rfl,q2⟩
theorem se (hu:X.A.units+1<cLine) (ho:PE X o td) (hi:PE X i ty) (hv:PE X value tv) (hs:swapsWith value (some (.Subscript o i pos')) pos.line X.env=pure false) :
  PS X (.Assign [.Subscript o i pos'] value pos) (sDPut td ty tv):=by
 intro pins s σ H D I h
 refine wpAny_Assign_Subscript (thn (hv pins s σ H _ I h) fun r s1 ⟨v,H1,I1,rv,q1⟩=>thn (ho pins s1 σ H1 _ I1 q1) fun u s2 ⟨x,H2,I2,rx,q2⟩=>thn (hi pins s2 σ H2 _ I2 q2) fun iv s3 ⟨y,H3,I3,ry,a,H4,ex,g,q3⟩=>?_) hs
 subst ex
 obtain rfl:u=Value.ref a:=rx
 exact nO hu I3 g ry rv fun s4 I4=>⟨σ,H4,I4,q3⟩
end
theorem jH {P:Program} {w:World} {H:Hp} (h:Heap) (hb:sysModules<h.objs.size):ObjOk P w H (h.push { cls:=.type "dict",data:=.dict #[] }) h.objs.size (.dK []) :=
 ⟨xBn _,beq_eq_false_iff_ne.mpr (Ne.symm (xA0 hb)),[],.nil,Heap.DictOf.new h⟩
def tDNewK:TE:=fun _ H Q=>∀ p,H p=none→Q (.ref p) (upd H p (.dK []))
section
variable {X:Cx} {pos:Pos}
theorem pe:PE X (.Dict [] [] pos) tDNewK:=fun pins s σ H Q I h =>
 wpAny_Dict_empty ⟨.ref s.heap.objs.size,_,I.laid (a:=s.heap.objs.size) (o:=.dK []) (t':=s.toks) (fun _ _ q=>xAf _ q) (xAg _) (jH s.heap I.big),rfl,h _ (I.hok.fresh (xAg _))⟩
end
def tPairs:List (TE×TE)→St→Hp→(List (V×V)→Hp→Prop)→Prop
 | [],_,H,Q=>Q [] H
 | (tk,tv)::r,σ,H,Q=>tk σ H fun x H1=>tv σ H1 fun y H2=>tPairs r σ H2 fun ps H3=>Q ((x,y)::ps) H3
abbrev VV:List (V×V)→List (Value×Value)→Prop:=Paired fun p q=>RelV p.1 q.1∧RelV p.2 q.2
def PPs (X:Cx) (pos:Pos) (keys:List (Option Expr)) (values:List Expr) (trs:List (TE×TE)):Prop :=
 ∀ (pins:List (Addr×Obj)) (s:Shared) (σ:St) (H:Hp) (Q:List (V×V)→Hp→Prop),Inv X pins σ H s→tPairs trs σ H Q →
  wpAny (model X.prog X.w) X.A (evalPairs (pairTrees keys values X.env pos)) (fun vs s'=>∃ ps H',Inv X pins σ H' s'∧VV ps vs∧Q ps H') X.xe s
theorem sf {X:Cx} {pos:Pos}:PPs X pos [] [] []:=fun pins s σ H Q I h=>pairTrees_nil_walk ⟨[],H,I,.nil,h⟩
theorem o6 {X:Cx} {pos:Pos} {k v:Expr} {ks:List (Option Expr)} {vs:List Expr} {tk tv:TE} {trs:List (TE×TE)} (hk:PE X k tk) (hv:PE X v tv) (hr:PPs X pos ks vs trs) :
  PPs X pos (some k::ks) (v::vs) ((tk,tv)::trs):=fun pins s σ H Q I h =>
 pairTrees_cons_walk (thn (hk pins s σ H _ I h) fun u s1 ⟨x,H1,I1,rx,q1⟩=>thn (hv pins s1 σ H1 _ I1 q1) fun w2 s2 ⟨y,H2,I2,ry,q2⟩ =>
  thn (hr pins s2 σ H2 _ I2 q2) fun ws s3 ⟨ps,H3,I3,rel,q3⟩=>⟨(x,y)::ps,H3,I3,.cons ⟨rx,ry⟩ rel,q3⟩)
def mergeK (kvs more:List (Key×V)):List (Key×V):=more.foldl (fun acc kv=>putK acc kv.1 kv.2) kvs
theorem KV.merge:∀ {more:List (Key×V)} {rs:List (Key×Value)} {kvs:List (Key×V)} {vs:List (Key×Value)},KV more rs→KV kvs vs→KV (mergeK kvs more) (merged vs rs):=by
 intro more rs kvs vs r
 unfold KV at r
 induction r generalizing kvs vs with
 | nil=>intro q;exact q
 | @cons p q ps qs h t ih =>
  intro r0
  have e:KV (putK kvs p.1 p.2) (stored vs q.1 q.2):=by
   have:=r0.put p.1 h.2
   rw [← h.1];exact this
  exact ih e
theorem dQ:∀ (more kvs:List (Key×V)),(mergeK kvs more).length≤kvs.length+more.length
 | [],kvs=>by show kvs.length≤kvs.length+0;lia
 | p::r,kvs=>by
  have h1:=dQ r (putK kvs p.1 p.2)
  have h2:=dD kvs p.1 p.2
  show (mergeK (putK kvs p.1 p.2) r).length≤_
  rw [xAo];lia
theorem gG {P:Program} {w:World}:∀ {kvs:List (Key×V)} {ws:List (Value×Value)},VV (kvs.map fun kv=>(kV kv.1,kv.2)) ws→∃ rs,Carries (mixKind P w) ws rs∧KV kvs rs
 | [],_,r=>by rw [List.map_nil] at r;cases r;exact ⟨[],True.intro,.nil⟩
 | p::kvs,_,r=>by
  rw [xBs] at r
  cases r with
  | @cons a b as bs h t =>
   obtain ⟨rs,c,q⟩:=gG (P:=P) (w:=w) t
   obtain ⟨b1,b2⟩:=b
   exact ⟨(p.1,b2)::rs,⟨gt h.1,rfl,c⟩,.cons ⟨rfl,h.2⟩ q⟩
def tDisp (trs:List (TE×TE)):TE:=fun σ H Q=>∀ p,H p=none→tPairs trs σ (upd H p (.dK [])) fun ps H2=>H2 p=some (.dK [])∧∃ kvs:List (Key×V),ps=kvs.map (fun kv=>(kV kv.1,kv.2))∧kvs.length≤15∧Q (.ref p) (upd H2 p (.dK (mergeK [] kvs)))
theorem sn {X:Cx} {pos:Pos} {keys:List (Option Expr)} {values:List Expr} {trs:List (TE×TE)} (h:PPs X pos keys values trs) (hall:keys.all (·.isSome)=true) (hl:keys.length=values.length) (h0:keys≠[])
  (h15:keys.length≤15):PE X (.Dict keys values pos) (tDisp trs):=by
 intro pins s σ H Q I q
 have hn:=I.hok.fresh (xAg s.heap.objs.size)
 have I1:=I.laid (a:=s.heap.objs.size) (o:=.dK []) (h':=s.heap.push { cls:=.type "dict",data:=.dict #[] }) (t':=s.toks) (fun _ _ q=>xAf _ q) (xAg _) (jH s.heap I.big)
 refine wpAny_Dict_walk (knd:=mixKind X.prog X.w) hall hl h0 h15 (thn (h pins _ σ _ _ I1 (q _ hn)) fun ws s2 ⟨ps,H2,I2,rel,e,kvs,ep,lk,q2⟩=>?_)
 subst ep
 obtain ⟨rs,c,rk⟩:=gG (P:=X.prog) (w:=X.w) rel
 obtain ⟨z,hd,vs0,r0,dd⟩:=jG I2.hok e
 cases r0
 refine ⟨rs,c,dd,fun h' dd' hs=>⟨.ref s.heap.objs.size,_,?_,rfl,q2⟩⟩
 have hz:(mergeK [] kvs).length≤sizeLine:=by
  have h1:=dQ kvs []
  rw [List.length_nil] at h1
  rw [sizeLine_eq];lia
 have he:∃ q,h'.get? s.heap.objs.size=some q:=let ⟨q,_,_,hq,_⟩:=dd';⟨q,hq⟩
 exact i0 I2 (by rw [e];exact True.intro) hs he (kE hz hd (rk.merge .nil) dd')
structure M1 (X:Cx) (o:Expr) (m:Str) (apos:Pos) (e:Expr) (cpos:Pos):Prop where
 base:attributeBase o m X.env (eval o X.env)=eval o X.env
 few:((backTo cpos (starEach [e] X.env)).all (fun x=>!x.1) && (backToKw cpos (keywordEach [] X.env)).all (fun x=>x.1.isSome)
  && decide (([e]:List Expr).length+([]:List Keyword).length+(if ([]:List Keyword).isEmpty then 0 else 1)<30))=true
 line:(apos.endLine == cpos.line)=true
 trees:backTo cpos (starEach [e] X.env)=[(false,eval e X.env)]
def IsD (H:Hp) (a:Addr):Prop:=(∃ kvs,Rd H a (.dK kvs))∨∃ kvs,Rd H a (.dT kvs)
theorem wU {X:Cx} {pins:List (Addr×Obj)} {σ:St} {H:Hp} {s:Shared} {a:Addr} (I:Inv X pins σ H s) (d:IsD H a) :
  s.TypeIs (.ref a) "dict"∧(∀ b,Value.ref a = .ref b→∃ ob,s.heap.get? b=some ob∧ob.dict=none)∧(a == sysModules)=false:=by
 rcases d with ⟨kvs,e⟩ | ⟨kvs,e⟩
 ·obtain ⟨_,hd,vs,_,dd⟩:=dR I.hok e
  refine ⟨dd.typeIs,fun b q=>?_,hd⟩
  cases q
  obtain ⟨ob,_,_,h1,h2,_⟩:=dd
  exact ⟨ob,h1,h2.2.1⟩
 ·obtain ⟨_,hd,xs,_,dd⟩:=gz I.hok e
  refine ⟨dd.typeIs,fun b q=>?_,hd⟩
  cases q
  obtain ⟨ob,_,_,h1,h2,_⟩:=dd
  exact ⟨ob,h1,h2.2.1⟩
section
variable {X:Cx} {pins:List (Addr×Obj)} {σ:St} {H:Hp} {s:Shared} {a:Addr} {y d:V} {u r:Value} {o:Option V} {A:Around} {E:Value→Shared→Prop}
theorem xa {Q:Value→Shared→Prop} (hu:A.units+1<cLine) (I:Inv X pins σ H s) (g:DGet H a y o) (ry:RelV y u) (h:∀ w' s',Inv X pins σ H s'→RelV (o.getD .non) w'→Q w' s') :
  wpAny (model X.prog X.w) A (call (.builtin "dict.get") [.ref a,u]) Q E s:=by
 rcases g with ⟨kvs,k,e,ey,l⟩ | ⟨kvs,k,b,e,ey,eb,l⟩
 ·subst ey
  obtain ⟨z,hd,vs,rel,dd⟩:=dR I.hok e
  refine call_meetsIn PySem.F.slot_dict_get dd.typeIs PySem.F.entry_dict_get (PySem.F.args_dict_get_2 _ _) (meets_dict_get (mixKind X.prog X.w) a (gt ry) hd) ⟨_,dd.mapOf,h _ _ (I.tok _) ?_⟩
  rw [l]
  exact (rel.val k).getD rfl
 ·subst ey
  cases (show u=Value.ref b from ry)
  obtain ⟨z,hd,xs,rel,dd⟩:=gz I.hok e
  refine call_meetsIn PySem.F.slot_dict_get dd.typeIs PySem.F.entry_dict_get (PySem.F.args_dict_get_2 _ _) (meetsH_dict_get (tupleKind (mixKind X.prog X.w)) a b hd) ⟨tupleKind_room_in1 hu,k,xs,eZ I.hok eb,dd,h _ _ (I.tok _) ?_⟩
  rw [l]
  exact (rel.val k).getD rfl
end
def tDGet1 (td ty:TE):TE:=fun σ H Q=>td σ H fun x H1=>∃ a,x = .ref a∧IsD H1 a∧ty σ H1 fun y H2=>∃ o,DGet H2 a y o∧Q (o.getD .non) H2
section
variable {X:Cx} {o e f:Expr} {apos cpos:Pos} {td ty tx:TE}
theorem pf (hu:X.A.units+1<cLine) (ho:PE X o td) (he:PE X e ty) (m:M1 X o "get" apos e cpos):PE X (.Call (.Attribute o "get" apos) [e] [] cpos) (tDGet1 td ty):=by
 intro pins s σ H Q I h
 refine wpAny_Call_method m.base m.few m.line PySem.F.plainAttrs_dict PySem.F.slot_dict_get PySem.F.type_dict_get (thn (ho pins s σ H _ I h) fun u s1 ⟨x,H1,I1,rx,a,ex,d,q1⟩=>?_)
 subst ex
 obtain rfl:u=Value.ref a:=rx
 obtain ⟨t1,t2,_⟩:=wU I1 d
 refine ⟨t1,t2,?_⟩
 rw [m.trees]
 refine Calls.callWith_builtin rfl (Calls.evalArgs_plain (Calls.spliced_cons (thn (he pins s1 σ H1 _ I1 q1) fun iv s2 ⟨y,H2,I2,ry,ov,g,q2⟩=>Calls.spliced_nil ?_)))
 exact xa hu I2 g ry fun w' s3 I3 rw'=>⟨_,H2,I3,rw',q2⟩
end
section
variable {X:Cx} {pins:List (Addr×Obj)} {σ:St} {H:Hp} {s:Shared} {a:Addr} {kvs:List (Key×V)} {A:Around} {E:Value→Shared→Prop}
theorem qP {Q:Value→Shared→Prop} (I:Inv X pins σ H s) (e:Rd H a (.dK kvs)) (h:∀ p s',H p=none→Inv X pins σ (upd H p (.dK kvs)) s'→Q (.ref p) s'):wpAny (model X.prog X.w) A (call (.type "dict") [.ref a]) Q E s:=by
 obtain ⟨z,hd,vs,rel,dd⟩:=dR I.hok e
 refine kt_call_dict hd dd (by rw [← rel.length];exact z) fun h' dd' hs=>?_
 refine h _ _ (I.hok.fresh (xAg _)) (I.laid (a:=s.heap.objs.size) (o:=.dK kvs) (t':=s.toks) (fun b q hq=>?_) (xAg _) (kE z (beq_eq_false_iff_ne.mpr (Ne.symm (xA0 I.big))) rel dd'))
 exact (hs.2 b (xA0 (xA1 hq))).trans (xAf _ hq)
end
end L2
namespace Att
open PySem PySem.W PySem.Calls PyProof.Rows
theorem fI {P:Params} {h:Heap}:∀ (ns:List Int) (vs:List Value),WellAll P h vs (ns.map WData.int)→IntsAre vs ns:=by
 intro ns
 induction ns with
 | nil =>
  intro vs w
  rw [List.map_nil] at w
  cases w
  exact .nil
 | cons n ns ih =>
  intro vs w
  rw [xBs] at w
  cases w with
  | cons a b =>
   cases a
   exact .cons _ _ (ih _ b)
theorem mO {l:OpenLaw} {n:Nat} (hn:l.most=some n) {P:Params} {h:Heap} {args:List WData} {vals:List Value}
  (hpre:l.row.toRowW.claim.pre args=true) (hwl:WellAll P h vals args) :
  ∃ a vs ns,vals=[Value.ref a]∧args=[WData.list (ns.map WData.int)]∧h.get? a=some { cls:=.type "list",data:=.seq vs.toArray }∧IntsAre vs ns∧ns.length≤n:=by
 have hsh:WShape.hasAll [] args [.list .int]=true:=(pre_splitW hpre).1
 have hc:l.pre.holds [] { args:=args }=true:=(pre_splitW hpre).2
 obtain ⟨d,r,rfl,h1,h2⟩:=hasAllW_cons hsh
 obtain rfl:=hasAllW_nil h2
 obtain ⟨xs,rfl,h3⟩:=hasW_list h1
 obtain ⟨ns,rfl⟩:=items_int h3
 have hlen:ns.length≤n:=by
  unfold OpenLaw.pre at hc
  have h4:(WTm.not (.lt (.lit (.int (n:Int))) (.len (.arg 0)))).holds [] { args:=[.list (ns.map .int)] }=true:=by
   have h4:=(holds_andW hc).1
   rw [hn] at h4
   exact h4
  have h5:=condW_of h4 (w_not (w_lt w_lit (w_len_list (w_arg rfl))))
  rw [xAa] at h5
  refine Nat.le_of_not_lt fun q=>?_
  have q':(n:Int)<((ns.length:Nat):Int):=by omega
  first
   | (rw [xBd q'] at h5;exact absurd h5 (by decide))
   | (simp at h5;omega)
 cases hwl with
 | cons w1 w2 =>
  cases w2
  cases w1 with
  | list ho hall=>exact ⟨_,_,ns,rfl,rfl,ho,fI ns _ hall,hlen⟩
theorem mW (l:OpenLaw) (args:List WData):l.row.toRowW.claim.post args (.bool true) args=true :=
 postW_of (r:=l.row.toRowW) (X:=(true == true))
  (show WShape.has [] (.bool true) .bool=true by first | rfl | decide | simp [WShape.has,WShape.arms,WShape.armsAll])
  (show (WTm.eq .res (.lit (.bool true))).value [] { args:=args,res:=some (.bool true),after:=args }=some (.bool (true == true)) from w_eq_bool (w_res rfl) w_lit) rfl
theorem attach_call {l:OpenLaw} {n:Nat} {q:Program} {loose:List Str} {XP:(Str→Option Value)→Heap→Prop} {YP:World→Heap→Prop} {d:DefRec}
  (hn:l.most=some n) (hdf:d.params.defaults=[])
  (call:∀ (w:World) (s₀ s₁:Shared) (mg mb:Str→Option Value) (fa:Addr) (o:Obj) (pm cd doc:Value) (a:Addr) (vs:List Value) (ns:List Int),
   Ground q loose [] XP w s₀ mg mb s₁.heap→YP w s₁.heap →
   s₁.heap.get? fa=some o→o.data = .func (docDef d.name d.params d.body d.scope pm cd doc)→s₁.heap.CodeRec cd d.name→mg d.name=some (.ref fa) →
   s₁.heap.get? a=some { cls:=.type "list",data:=.seq vs.toArray }→IntsAre vs ns→ns.length≤n→s₁.gens=#[] →
   codeAny (model l.prog w) callerA (.call (.ref fa) ⟨[.ref a],[]⟩) (fun r s'=>r = .ok (.ret (.bool true))∧OldK s₁.heap s'.heap∧s'.os=s₁.os∧AllBare s'.gens) s₁) :
  WalkO q loose XP YP l.row.toRowW d [] (fun f vs=>PySem.call f vs):=by
 intro w s₀ s₁ mg mb G Y fa o pm cd doc dV kV ho hd hcd hD hmg hg args vals as hpre hlay hrd hwl hlo
 obtain rfl:dV = .none:=Dflts.none hD hdf
 obtain rfl:kV = .none:=Dflts.noKw hD
 obtain ⟨a,vs,ns,rfl,rfl,hobj,hints,hlen⟩:=mO hn hpre hwl
 refine enter_call (codeAny_mono (call w s₀ s₁ mg mb fa o pm cd doc a vs ns G Y ho (fd_plain hd) hcd hmg hobj hints hlen hg) fun r s' hq=>?_)
 obtain ⟨rfl,h2,h3,h4⟩:=hq
 exact ⟨.inl ⟨.bool true,.bool true,[],rfl,fun _=>rfl,.bool true,mW l _,fun _=>⟨List.Pairwise.nil,fun _ hm=>(nomatch hm)⟩⟩,h2,h3,h4⟩
end Att
namespace L2
open PySem PySem.Spec PyProof.Rows
theorem cY:∀ {vs:List Value} {ns:List Int},IntsAre vs ns→Vals (ns.map V.int) vs
 | _,_,.nil=>.nil
 | _,_,.cons n t h=>.cons ⟨t,rfl⟩ (cY h)
def Only (H:Hp):Prop:=∀ b,H b=none∨∃ o xs,H b=some (.frz o (.lst xs))
theorem qi {P:Program} {w:World} {K:xFr} {mg mb:Str→Option Value} {CX:CXT} {k:Nat} {fa a:Addr} {fd:FuncData} {x:Str} {sp:Sp} {s₁:Shared} {vs:List Value} {ns:List Int}
  (KX:K.In s₁.heap) (hns:s₁.heap.Ns mainGlobals mg) (hb:s₁.heap.Ns builtinsNs mb) (hbb:∀ x:Str,x≠"__name__"→mb x=bootBuiltins x) (hlim:s₁.heap.NoLimit) (hg:s₁.gens=#[])
  (ha:s₁.heap.get? a=some { cls:=.type "list",data:=.seq vs.toArray }) (hi:IntsAre vs ns) (hl:ns.length≤sizeLine) (hr:Room k callerA)
  (F:∀ base:Heap,K.In base→base.Ns mainGlobals mg→FnOk P w K mg base CX k fa fd [x] sp) (hbind:∀ (s:Shared) (u:Value),BindsTo s fd ⟨[u],[]⟩ [(x,u)])
  (hsp:∀ H:Hp,Only H→SqL K H a (ns.map V.int)→sp [.ref a] H (fun v _=>v = .bl true) fun _ _ _=>False)
  (hCX:∀ H e s',CX [] H s₁ (fun _ _ _=>False) e s'→False) :
  codeAny (model P w) callerA (.call (.ref fa) ⟨[.ref a],[]⟩) (fun r s'=>r = .ok (.ret (.bool true))∧OldK s₁.heap s'.heap∧s'.os=s₁.os∧AllBare s'.gens) s₁:=by
 have rv:=cY hi
 have lenV:=hi.length
 -- from an abstract heap in which nothing but the script may be tracked
 have core:∀ H:Hp,Only H→SqL K H a (ns.map V.int)→HOk P w H s₁.heap→(∀ b,H b≠none→b=a)→(H a≠none→K.lookup a=none) →
   codeAny (model P w) callerA (.call (.ref fa) ⟨[.ref a],[]⟩) (fun r s'=>r = .ok (.ret (.bool true))∧OldK s₁.heap s'.heap∧s'.os=s₁.os∧AllBare s'.gens) s₁:=by
  intro H hO hS hok hA hK
  have base_of:∀ {b:Addr} {o:Obj},s₁.heap.get? b=some o→H b=none→(hidT s₁.heap H).get? b=some o:=fun e n=>qz e n
  have noA:∀ {b:Addr} {o:Obj} {es:Array DictEntry} {ep:Nat},s₁.heap.get? b=some o→o.data = .dict es ep→H b=none:=fun {b o es ep} e d=>by
   cases q:H b with
   | none=>rfl
   | some u =>
    have e':b=a:=hA b (by rw [q];simp)
    subst e'
    rw [ha] at e;cases e
    have d':Data.seq vs.toArray _=Data.dict es ep:=d
    cases d'
  have nsK:∀ {b:Addr} {m:Str→Option Value},s₁.heap.Ns b m→(hidT s₁.heap H).Ns b m:=fun {b m} ⟨o,es,ep,e,d,r⟩=>⟨o,es,ep,base_of e (noA e d),d,r⟩
  have hKb:K.In (hidT s₁.heap H):=fun b o e=>base_of (KX b o e) (by
   cases q:H b with
   | none=>rfl
   | some u =>
    have e':b=a:=hA b (by rw [q];simp)
    subst e'
    rw [hK (by rw [q];simp)] at e;cases e)
  have hM:Mod K mg (hidT s₁.heap H):=⟨hKb,nsK hns,⟨mb,nsK hb,hbb⟩,let ⟨mc,h1,h2⟩:=hlim;⟨mc,nsK h1,h2⟩⟩
  have e0:Env0 P w K mg (hidT s₁.heap H) callerA [] s₁ H:=⟨rfl,hM,fun b o e=>tf e,Nat.le_of_eq (nK _ _),trivial,fun b hb=>absurd (show b∈([]:List Addr) from hb) (by simp),hok,.of_eq hg⟩
  refine codeAny_mono ((F _ hKb (nsK hns)).run callerA [] s₁ H ⟨[.ref a],[]⟩ [.ref a] [.ref a] _ _ hr e0 (hbind s₁ (.ref a)) (.cons rfl .nil) (hsp H hO hS)) fun r s' h=>?_
  cases r with
  | error e=>exact (hCX H e s' h).elim
  | ok fl =>
   cases fl with
   | next=>exact False.elim h
   | brk=>exact False.elim h
   | cont=>exact False.elim h
   | ret u =>
    obtain ⟨v,H',os,bare,un,hok',r',q⟩:=h
    have q':v = .bl true:=q
    subst q'
    obtain rfl:u=Value.bool true:=r'
    refine ⟨rfl,OldK.of_keep fun b o e=>?_,os,bare⟩
    cases q:H b with
    | none=>exact un.keep b o e q (by intro z;exact absurd (show b∈([]:List Addr) from z) (by simp)) (by simp)
    | some u =>
     rcases hO b with z | ⟨ob,xs,z⟩
     ·rw [q] at z;cases z
     ·have z2:=un.frzs b ob _ z
      obtain ⟨e1,_⟩:=hok b _ z
      obtain ⟨e2,_⟩:=hok' b _ z2
      rw [e] at e1;cases e1
      exact e2
 cases hk:K.lookup a with
 | some o =>
  -- the script is one of the module's own objects
  have e:=KX a o hk
  rw [ha] at e
  cases e
  refine core (fun _=>none) (fun _=>.inl rfl) (.inr ⟨_,vs.toArray,_,hk,rfl,rfl,rfl,by rw [xAp,lenV];exact hl,by simpa using rv⟩) (fun b u z=>by have z':(none:Option HO)=some u:=z;cases z') (fun b z=>absurd rfl z) fun z=>absurd rfl z
 | none =>
  refine core (fun b=>if b=a then some (.frz { cls:=.type "list",data:=.seq vs.toArray } (.lst (ns.map V.int))) else none) (fun b=>?_) (.inl (.inr ⟨{ cls:=.type "list",data:=.seq vs.toArray },xCg rfl⟩)) (fun b u z=>?_) (fun b z=>?_) fun _=>hk
  ·by_cases hb:b=a
   ·exact .inr ⟨_,_,xCg hb⟩
   ·exact .inl (xCf hb)
  ·by_cases hb:b=a
   ·have z':=(xCg hb).symm.trans z
    cases z'
    subst hb
    exact ⟨ha,by rw [xAa];exact hl,vs,_,rv,ha⟩
   ·have z':=(xCf hb).symm.trans z
    cases z'
  ·by_cases hb:b=a
   ·exact hb
   ·exact absurd (xCf hb) z
end L2
namespace L2
open PySem PySem.Spec PyProof.Rows
theorem walk_of {l:PySem.W.OpenLaw} {n k:Nat} {q:Program} {loose:List Str} {XP:(Str→Option Value)→Heap→Prop} {YP:World→Heap→Prop} {d:DefRec} {K:Params→xFr} {CX:World→CXT} {sp:World→Sp} {x:Str}
  (hn:l.most=some n) (hn2:n≤sizeLine) (hdf:d.params.defaults=[]) (hr:Room k callerA)
  (hY:∀ (w:World) (h:Heap),YP w h→(K w.params).In h)
  (F:∀ (w:World) (mg:Str→Option Value) (fa:Addr) (h:Heap),(K w.params).In h→h.Ns mainGlobals mg→mg d.name=some (.ref fa) →
   ∃ fd:FuncData,(∀ (s:Shared) (u:Value),BindsTo s fd ⟨[u],[]⟩ [(x,u)]) ∧
    ∀ base:Heap,(K w.params).In base→base.Ns mainGlobals mg→FnOk l.prog w (K w.params) mg base (CX w) k fa fd [x] (sp w))
  (hsp:∀ (w:World) (H:Hp) (a:Addr) (ns:List Int),ns.length≤n→Only H→SqL (K w.params) H a (ns.map V.int)→sp w [.ref a] H (fun v _=>v = .bl true) fun _ _ _=>False)
  (hCX:∀ (w:World) (H:Hp) (s:Shared) (e:Value) (s':Shared),CX w [] H s (fun _ _ _=>False) e s'→False) :
  PySem.W.WalkO q loose XP YP l.row.toRowW d [] (fun f vs=>PySem.call f vs):=by
 refine Att.attach_call hn hdf fun w s₀ s₁ mg mb fa o pm cd doc a vs ns G Y ho hd hcd hmg hobj hints hlen hg=>?_
 have KX:=hY w _ Y
 obtain ⟨fd,hb,hF⟩:=F w mg fa _ KX G.T.g hmg
 exact qi KX G.T.g G.T.b G.T.builtins G.T.nolimit hg hobj hints (Nat.le_trans hlen hn2) hr hF hb (fun H hO hS=>hsp w H a ns hlen hO hS) fun H e s'=>hCX w H s₁ e s'
end L2
namespace L2
open PySem PySem.Spec PyProof.Rows
def defArgs (s:Stmt):Arguments:=match s with
 | .FunctionDef _ a _ _ _ _ _ _ _ _=>a
 | _=>{ posonlyargs:=[],args:=[],vararg:=none,kwonlyargs:=[],kw_defaults:=[],kwarg:=none,defaults:=[] }
def defBody (s:Stmt):List Stmt:=match s with
 | .FunctionDef _ _ b _ _ _ _ _ _ _=>b
 | _=>[]
def defScope (s:Stmt):Scope:=match s with
 | .FunctionDef _ _ _ _ _ _ sc _ _ _=>sc
 | _=>{ kind:=.function,names:=[],isGenerator:=false,isCoroutine:=false }
abbrev CX0:CXT:=fun _ _ _ _ _ _=>False
abbrev E0:XK:=fun _ _ _=>False
theorem pass0 {X:Cx}:Passes CX0 X E0:=fun _ _ _ _ _ _ _ h=>h.elim
structure Fun (K:xFr) (x qual:Str) (st:Stmt) (f:Addr) (fd:FuncData):Prop where
 ex:∃ (oc:Value) (od:Option Addr) (kV doc pm:Value) (an:Option Addr) (cdv ct:Value) (osl:Array (Option Value)),
  fd=PySem.W.fnOf x qual (defArgs st) (defBody st) (defScope st) .none kV doc pm an cdv ct∧K.lookup f=some ⟨oc,od,.func fd,osl⟩∧PySem.W.codeIn K cdv qual=true
 kp:PySem.W.keepIn K (.ref f)=true
section
variable {P:Program} {w:World} {K:xFr} {mg:Str→Option Value} {base:Heap}
theorem Fun.ok {x qual:Str} {st:Stmt} {f:Addr} {fd:FuncData} {N ps:List Str} {k:Nat} {sp:Sp} (F:Fun K x qual st f fd) (S:FnScope N ps (defScope st)) (len:∀ vs H Q E,sp vs H Q E→vs.length=ps.length)
  (hbody:∀ (cdv:Value) (A:Around) (outer:List Env) (s:Shared) (H:Hp) (vs:List V) (Q:VK) (E:XK),Room k (A.deeper (envOfC qual (defScope st) s.heap.objs.size f cdv))→sp vs H Q E →
   ∃ t,PSs (cxOf CX0 P w K mg base N qual (defScope st) f cdv A outer s H E).nox (defBody st) t∧t { nx:=fun _ H'=>Q .non H',rt:=Q } (start N vs) H):FnOk P w K mg base CX0 (k+1) f fd ps sp:=by
 obtain ⟨oc,od,kV,doc,pm,an,cdv,ct,osl,rfl,lk,hcd⟩:=F.ex
 refine yh lk hcd S len fun A outer s H vs Q E hr hsp=>?_
 obtain ⟨t,h,q⟩:=hbody cdv A outer s H vs Q E hr hsp
 exact ⟨t,h.nox,q⟩
theorem Fun.binds {x qual:Str} {st:Stmt} {f:Addr} {fd:FuncData} {ps:List Str} (F:Fun K x qual st f fd)
  (h:∀ (kV doc pm:Value) (an:Option Addr) (cdv ct:Value) (us:List Value),us.length=ps.length→bindArgs (PySem.W.fnOf x qual (defArgs st) (defBody st) (defScope st) .none kV doc pm an cdv ct) ⟨us,[]⟩=pure (ps.zip us)):Binds K fd ps []:=by
 obtain ⟨oc,od,kV,doc,pm,an,cdv,ct,osl,rfl,lk,hcd⟩:=F.ex
 exact .all (h kV doc pm an cdv ct)
theorem aJ {x qual:Str} {st:Stmt} {f:Addr} {oc:Value} {od an:Option Addr} {osl:Array (Option Value)} {kV doc pm cdv ct:Value} (l:K.lookup f=some ⟨oc,od,.func (PySem.W.fnOf x qual (defArgs st) (defBody st) (defScope st) .none kV doc pm an cdv ct),osl⟩)
  (c:PySem.W.codeIn K cdv qual=true) (k:PySem.W.keepIn K (.ref f)=true):Fun K x qual st f (PySem.W.fnOf x qual (defArgs st) (defBody st) (defScope st) .none kV doc pm an cdv ct):=⟨⟨oc,od,kV,doc,pm,an,cdv,ct,osl,rfl,l,c⟩,k⟩
end
theorem bJ {A:Around} {k:Nat} (hr:Room k A):A.units+1<cLine:=Nat.lt_of_le_of_lt (Nat.add_le_add_left (by decide:1≤64) _) hr.units
theorem small1000 {n:Nat} (h:n≤1000):n<sizeLine:=Nat.lt_of_le_of_lt h (by decide)
def Same (H H':Hp):Prop:=∀ b o,H b=some o→H' b=some o
theorem Same.refl (H:Hp):Same H H:=fun _ _ h=>h
theorem Same.trans {H H1 H2:Hp} (a:Same H H1) (b:Same H1 H2):Same H H2:=fun c o h=>b c o (a c o h)
theorem Same.free {H H':Hp} (e:Same H H') {l:Addr} (h:H' l=Option.none):H l=Option.none:=by
 cases q:H l with
 | none=>rfl
 | some o =>
  rw [e l o q] at h
  cases h
section
variable {X:Cx}
theorem nU:CallR X (.builtin "len") (fun xs H Q=>∃ a kvs,xs=[V.ref a]∧H a=some (.dK kvs)∧Q (.int kvs.length) H):=by
 intro pins s σ H xs us Q I r h
 obtain ⟨a,kvs,rfl,ha,q⟩:=h
 obtain ⟨u,rfl,ru⟩:=vals1 r
 cases ru
 exact yj I (.inl ha) fun t s' I'=>⟨.int kvs.length,H,I',⟨t,rfl⟩,q⟩
end
end L2
namespace L2
open PySem PySem.Spec PyProof.Rows
def cxComp (X:Cx) (N:List Str) (scope:Scope) (cl:List (Str×Addr)) (C:Addr) (s:Shared) (H:Hp) (fp:List Addr):Cx where
 prog:=X.prog
 w:=X.w
 K:=X.K
 mg:=X.mg
 base:=X.base
 A:=X.A
 N:=N
 s₀:=s
 H₀:=H
 env:=compEnvC scope cl C X.env
 outer:=X.stack
 stack:=X.stack
 ex:=fp
 fn:=fun _=>false
 calm:=X.calm
 pn:=[]
 xe:=fun _ _=>False
theorem fC {env:Env} {scope:Scope} {y:Str} {k:NameKind} (h:(relabel scope env).names.lookup y=some k):∃ k0,(y,k0)∈scope.names∧(k=k0∨(k0 = .free∧k = .cell)):=by
 unfold relabel at h
 dsimp only at h
 revert h
 generalize scope.names=l
 intro h
 induction l with
 | nil=>simp at h
 | cons a r ih =>
  obtain ⟨n,k1⟩:=a
  rw [xBs] at h
  by_cases hc:(k1 == NameKind.free && env.scope.kind == .function && env.kindOf n == some .cell)=true
  ·dsimp only at h
   rw [xCg hc] at h
   rw [List.lookup_cons] at h
   by_cases e:y == n
   ·rw [e] at h
    have e':y=n:=eq_of_beq e
    subst e'
    have hk:k1 = .free:=by
     rw [Bool.and_eq_true,Bool.and_eq_true] at hc
     exact eq_of_beq hc.1.1
    subst hk
    exact ⟨.free,xAr,.inr ⟨rfl,(xB3 h).symm⟩⟩
   ·rw [Bool.eq_false_iff.mpr e] at h
    obtain ⟨k0,m,z⟩:=ih h
    exact ⟨k0,xAs _ m,z⟩
  ·dsimp only at h
   rw [xCf hc] at h
   rw [List.lookup_cons] at h
   by_cases e:y == n
   ·rw [e] at h
    have e':y=n:=eq_of_beq e
    subst e'
    exact ⟨k1,xAr,.inl (xB3 h).symm⟩
   ·rw [Bool.eq_false_iff.mpr e] at h
    obtain ⟨k0,m,z⟩:=ih h
    exact ⟨k0,xAs _ m,z⟩
theorem dP {env:Env} {scope:Scope} {y:Str} (h:scope.names.lookup y=some .free):(relabel scope env).names.lookup y=some .cell∨(relabel scope env).names.lookup y=some .free:=by
 unfold relabel
 dsimp only
 revert h
 generalize scope.names=l
 intro h
 induction l with
 | nil=>simp at h
 | cons a r ih =>
  obtain ⟨n,k1⟩:=a
  rw [xBs]
  rw [List.lookup_cons] at h
  by_cases hc:(k1 == NameKind.free && env.scope.kind == .function && env.kindOf n == some .cell)=true
  ·dsimp only
   rw [xCg hc]
   rw [List.lookup_cons]
   by_cases e:y == n
   ·rw [e];exact .inl rfl
   ·rw [Bool.eq_false_iff.mpr e] at h ⊢
    exact ih h
  ·dsimp only
   rw [xCf hc]
   rw [List.lookup_cons]
   by_cases e:y == n
   ·rw [e] at h ⊢
    exact .inr h
   ·rw [Bool.eq_false_iff.mpr e] at h ⊢
    exact ih h
def capV (σ:St) (fr:List Nat):St:=fr.map fun k=>(σ[k]?).join
end L2
namespace L2
open PySem PySem.Spec PyProof.Rows
end L2
namespace L2
open PySem PySem.Spec PyProof.Rows
section
variable {X:Cx}
theorem pI:OpR X (binaryOp .FloorDiv) (rI (fun i j=>j≠0∧Builtin.divisionGoesByPylong i j=false) fun i j=>.int (i.fdiv j)):=opI fun _ _ _ _ _ _ _ hc q=>floordiv_int hc.1 q (.inl hc.2)
theorem qK {x:V} (h:flatV x=true):eqV x x=true:=by
 cases x <;> first | rfl | (exact absurd (show false=true from h) (by decide)) | (simp [eqV])
end
theorem small {n:Nat} (h:n≤1000):n≤sizeLine:=Nat.le_of_lt (small1000 h)
theorem aw {H:Hp} {p:Addr} (h:H p=none) (o:HO):Same H (upd H p o):=fun b u q=>by rw [aA (ak q h)];exact q
end L2
namespace L2
open PySem PySem.Spec PyProof.Rows
theorem dG {xs:List V} {us:List Value} (r:Vals xs us) {j:Nat} (hj:j<us.toArray.size):∃ x,xs[j]?=some x∧RelV x us.toArray[j]:=by
 rw [xAp] at hj
 have jx:j<xs.length:=by rw [r.length];exact hj
 obtain ⟨u,e,q⟩:=r.get (xAk jx)
 refine ⟨xs[j],xAk jx,?_⟩
 rw [List.getElem_toArray]
 have:us[j]=u:=(xAq.mp e).2
 rw [this]
 exact q
theorem xf {α:Type} {xs:List α} {i:Int} (h0:0≤i) (h:i<xs.length):∃ c,atI xs i=some c∧xs[i.toNat]?=some c:=by
 obtain ⟨j,rfl⟩:=Int.eq_ofNat_of_zero_le h0
 have hk:j<xs.length:=by lia
 exact ⟨xs[j],cV (xAk hk),by rw [Int.toNat_natCast];exact xAk hk⟩
end L2
namespace L2
open PySem PySem.Spec PyProof.Rows
end L2
namespace L2
open PySem PySem.Spec PyProof.Rows PySem.Builtin PySem.Builtin.ObjectAttr
end L2
namespace L2
open PySem PySem.Spec PyProof.Rows PySem.Builtin PySem.Builtin.ObjectAttr
end L2
namespace L2
open PySem PySem.Spec PyProof.Rows PySem.Builtin PySem.Builtin.ObjectAttr
end L2
namespace L2
open PySem PySem.Spec PyProof.Rows PySem.Builtin PySem.Builtin.ObjectAttr
theorem ObjOk.there {P:Program} {w:World} {H:Hp} {h:Heap} {a:Addr} {o:HO} (x:ObjOk P w H h a o):∃ u,h.get? a=some u:=by
 cases o with
 | lst xs=>obtain ⟨_,_,_,_,e⟩:=x;exact ⟨_,e⟩
 | tup xs=>obtain ⟨_,_,_,ob,e,_⟩:=x;exact ⟨_,e⟩
 | dK kvs=>obtain ⟨_,_,_,_,o,_,_,e,_⟩:=x;exact ⟨_,e⟩
 | dT kvs=>obtain ⟨_,_,_,_,o,_,_,e,_⟩:=x;exact ⟨_,e⟩
 | set S n=>obtain ⟨o,_,_,_,e,_⟩:=x;exact ⟨_,e⟩
 | ins C dx fs=>obtain ⟨_,_,_,e,_⟩:=x;exact ⟨_,e⟩
 | own y=>obtain ⟨_,e⟩:=x;exact ⟨_,e⟩
 | xd fs=>obtain ⟨_,⟨_,_,_,e,_⟩,_⟩:=x;exact ⟨_,e⟩
 | rng lo hi=>obtain ⟨_,_,_,e⟩:=x;exact ⟨_,e⟩
 | frz ob u=>obtain ⟨e,_⟩:=x;exact ⟨_,e⟩
 | tbl ps=>exact ⟨_,(show h.get? a=some _ from x)⟩
 | met f y=>exact ⟨_,(show h.get? a=some _ from x)⟩
 | ext φ=>obtain ⟨_,e,_⟩:=x;exact e
section
variable {X:Cx} {pins:List (Addr×Obj)} {σ:St} {H:Hp} {s:Shared} {h':Heap}
theorem Inv.laidN {a:Addr} {o:HO} {t':Nat} (I:Inv X pins σ H s) (k:∀ b u,s.heap.get? b=some u→h'.get? b=some u) (hf:s.heap.get? a=none) (new:ObjOk X.prog X.w (upd H a o) h' a o) :
  H a=none∧Inv X pins σ (upd H a o) { s with heap:=h',toks:=t' }:=by
 have hn:H a=none:=by
  cases q:H a with
  | none=>rfl
  | some u =>
   obtain ⟨v,e⟩:=(I.hok a u q).there
   rw [hf] at e
   cases e
 refine ⟨hn,I.un ⟨fun b u q _ _ _=>k b u q,fun b u q _ _ _=>⟨u.slots,k b u q⟩,fun b u q n _=>?_,fun b u q _=>⟨u,k b u q⟩,fun b xs q=>?_,fun b u xs q=>?_,fun b ps q=>⟨#[],?_⟩⟩ fun b u e=>?_⟩
 ·rw [aA (fun z=>by rw [z,hf] at q;cases q)]
  exact n
 ·rw [aA (ak q hn)];exact q
 ·rw [aA (ak q hn)];exact q
 ·rw [aA (ak q hn),q,Array.append_empty]
 ·by_cases hb:b=a
  ·subst hb;rw [ah] at e;cases e;exact new
  ·rw [aA hb] at e
   exact (I.hok b u e).stay (fun c v _ q=>k c v q) (fun c q=>by rw [aA (ak q hn)];exact q) fun c xs q=>by rw [aA (ak q hn)];exact q
end
end L2
namespace L2
open PySem PySem.Spec PyProof.Rows PySem.Builtin PySem.Builtin.ObjectAttr
end L2
namespace L2
open PySem PySem.Spec PyProof.Rows PySem.Builtin PySem.Builtin.ObjectAttr
end L2
namespace L2
open PySem PySem.Spec PyProof.Rows PySem.Builtin PySem.Builtin.ObjectAttr
end L2
namespace L2
open PySem PySem.Spec PyProof.Rows PySem.Builtin PySem.Builtin.ObjectAttr
end L2
namespace L2
open PySem PySem.Spec PyProof.Rows
inductive Al (H:Hp):Nat→V→V→Prop where
 | flat {n:Nat} {x:V}:flatV x=true→Al H n x x
 | same {n:Nat} {a:Addr}:Al H n (.ref a) (.ref a)
 | tup {n:Nat} {a b:Addr} {xs ys:List V}:H a=some (.tup xs)→H b=some (.tup ys)→xs.length=ys.length→(∀ (j:Nat) (x y:V),xs[j]?=some x→ys[j]?=some y→Al H n x y)→Al H (n+1) (.ref a) (.ref b)
 | lst {n:Nat} {a b:Addr} {xs ys:List V}:H a=some (.lst xs)→H b=some (.lst ys)→xs.length=ys.length→(∀ (j:Nat) (x y:V),xs[j]?=some x→ys[j]?=some y→Al H n x y)→Al H (n+1) (.ref a) (.ref b)
theorem ub {P:Program} {w:World} {H:Hp} {s:Shared} (hok:HOk P w H s.heap) {n:Nat} {x y:V} (h:Al H n x y):∀ {A:Around} {u v:Value},RelV x u→RelV y v→A.units+n<cLine→SeqAt.EqAt A s u v true:=by
 induction h with
 | @flat n x f =>
  intro A u v r1 r2 _
  have:=qM (A:=A) (s:=s) r1 r2 f f
  rw [qK f] at this
  exact this
 | @same n a =>
  intro A u v r1 r2 _
  cases (show u=Value.ref a from r1)
  cases (show v=Value.ref a from r2)
  exact SeqAt.EqAt.same _
 | @tup n a b xs ys ea eb el _ ih =>
  intro A u v r1 r2 hu
  cases (show u=Value.ref a from r1)
  cases (show v=Value.ref b from r2)
  by_cases hab:a=b
  ·subst hab
   exact SeqAt.EqAt.same _
  ·obtain ⟨_,its,q1,t1⟩:=(show ObjOk P w H s.heap a (.tup xs) from hok a _ ea)
   obtain ⟨_,its2,q2,t2⟩:=(show ObjOk P w H s.heap b (.tup ys) from hok b _ eb)
   have he:∀ j (h1:j<its.toArray.size) (h2:j<its2.toArray.size),SeqAt.EqAt A.in1 s its.toArray[j] its2.toArray[j] ((fun _=>true) j):=fun j j1 j2=>by
    obtain ⟨x1,e1,g1⟩:=dG q1 j1
    obtain ⟨y1,e2,g2⟩:=dG q2 j2
    exact ih j x1 y1 e1 e2 g1 g2 (by show A.units+1+n<cLine;lia)
   refine SeqAt.EqAt.of_refs hab ?_
   have:=SeqAt.RcAt.tuples (e:=fun _=>true) t1 t2 (by lia) he
   have ev:((List.range (min its.toArray.size its2.toArray.size)).all (fun _=>true) && its.toArray.size == its2.toArray.size)=true:=by
    rw [xAp,xAp,← q1.length,← q2.length,el]
    simp
   rw [ev] at this
   exact this
 | @lst n a b xs ys ea eb el _ ih =>
  intro A u v r1 r2 hu
  cases (show u=Value.ref a from r1)
  cases (show v=Value.ref b from r2)
  by_cases hab:a=b
  ·subst hab
   exact SeqAt.EqAt.same _
  ·obtain ⟨_,its,n1,q1,t1⟩:=(show ObjOk P w H s.heap a (.lst xs) from hok a _ ea)
   obtain ⟨_,its2,n2,q2,t2⟩:=(show ObjOk P w H s.heap b (.lst ys) from hok b _ eb)
   have he:∀ j (h1:j<its.toArray.size) (h2:j<its2.toArray.size),SeqAt.EqAt A.in1 s its.toArray[j] its2.toArray[j] ((fun _=>true) j):=fun j j1 j2=>by
    obtain ⟨x1,e1,g1⟩:=dG q1 j1
    obtain ⟨y1,e2,g2⟩:=dG q2 j2
    exact ih j x1 y1 e1 e2 g1 g2 (by show A.units+1+n<cLine;lia)
   refine SeqAt.EqAt.of_refs hab ?_
   have es:its.toArray.size=its2.toArray.size:=by rw [xAp,xAp,← q1.length,← q2.length,el]
   have:=SeqAt.RcAt.lists (e:=fun _=>true) ⟨_,t1,rfl,_,rfl⟩ ⟨_,t2,rfl,_,rfl⟩ es (by lia) he
   have ev:(List.range its.toArray.size).all (fun _=>true)=true:=List.all_eq_true.mpr fun _ _=>rfl
   rw [ev] at this
   exact this
def Kept (fp:List Addr) (H H':Hp):Prop:=∀ b o,H b=some o→b ∉ fp→H' b=some o
section
variable {fp fq:List Addr} {H H1 H2:Hp}
theorem Kept.refl:Kept fp H H:=fun _ _ e _=>e
theorem Kept.of (s:Same H H1):Kept fp H H1:=fun b o e _=>s b o e
theorem Kept.trans (a:Kept fp H H1) (b:Kept fp H1 H2):Kept fp H H2:=fun c o e n=>b c o (a c o e n) n
theorem Kept.mono (a:Kept fp H H1) (h:∀ b∈fp,b∈fq):Kept fq H H1:=fun c o e n=>a c o e fun z=>n (h c z)
theorem Kept.put {a:Addr} {o:HO} (h:a∈fp):Kept fp H (upd H a o):=fun c u e n=>by
 have ne:c≠a:=fun z=>n (by rw [z];exact h)
 rw [aA ne]
 exact e
end
end L2
namespace Tim
open PySem PyProof.Rows
def Inc (xs:Array Keyed) (lo hi:Nat):Prop:=∀ i j,lo≤i→i≤j→j<hi→K xs i≤K xs j
def Dec (xs:Array Keyed) (lo hi:Nat):Prop:=∀ i j,lo≤i→i≤j→j<hi→K xs j≤K xs i
def Off (xs ys:Array Keyed) (lo hi:Nat):Prop:=∀ i,(i<lo∨hi≤i)→K xs i=K ys i
theorem Off.refl {xs:Array Keyed} {lo hi:Nat}:Off xs xs lo hi:=fun _ _=>rfl
theorem Off.trans {xs ys zs:Array Keyed} {lo hi:Nat} (a:Off xs ys lo hi) (b:Off ys zs lo hi):Off xs zs lo hi:=fun i h=>(a i h).trans (b i h)
theorem Off.wide {xs ys:Array Keyed} {lo hi lo' hi':Nat} (a:Off xs ys lo hi) (h1:lo'≤lo) (h2:hi≤hi'):Off xs ys lo' hi':=fun i h=>a i (by lia)
structure SB (a₀:Array Keyed) (st:SortSt):Prop where
 perm:(arrOf st).Perm a₀
 kind:kindOf st=oneType'
 failed:failedOf st=none
theorem SB.size {a₀:Array Keyed} {st:SortSt} (h:SB a₀ st):(arrOf st).size=a₀.size:=h.perm.size_eq
theorem SB.set {a₀:Array Keyed} {st:SortSt} (h:SB a₀ st) {xs:Array Keyed} (hp:xs.Perm (arrOf st)):SB a₀ (setArr st xs):=⟨hp.trans h.perm,h.kind,h.failed⟩
theorem iT {a:Array Keyed} (h:IntKeys a) {i:Nat} (hi:i<a.size):∃ t q,a[i]?=some (.int (K a i) t,q):=by
 have e:a[i]?=some a[i]:=getElem?_pos _ i hi
 obtain ⟨n,t,hn⟩:=h a[i] (by simp)
 refine ⟨t,a[i].2,?_⟩
 unfold K
 rw [e,show a[i]=(.int n t,a[i].2) from Prod.ext hn rfl]
 rfl
theorem IntKeys.perm {a b:Array Keyed} (h:IntKeys a) (p:b.Perm a):IntKeys b:=fun q hq=>h q ((Array.perm_iff_toList_perm.mp p).mem_iff.mp hq)
section
variable {prog:Program} {w:World} {A:Around} {E:Value→Shared→Prop} {s:Shared} {a₀:Array Keyed}
theorem lQ {st:SortSt} {x y:Keyed} {a b:Int} {t u:Tok} {Q:Option Bool→SortSt→Prop} (hk:kindOf st=oneType') (hx:x.1 = .int a t) (hy:y.1 = .int b u) (h:Q (some (decide (a<b))) st):wpS (model prog w) A E s (lt' x y) Q st:=by
 rw [lt'_eq]
 refine xCd (wpS_get ?_)
 rw [hk,keyLt'_oneType,hx,hy]
 refine xCd (wpS_lift (wpAny_attempt (oneLt_int ⟨rfl,?_⟩)))
 exact xCe h
theorem eJ {st:SortSt} {i j:Nat} {Q:Option Bool→SortSt→Prop} (hB:SB a₀ st) (h0:IntKeys a₀) (hi:i<a₀.size) (hj:j<a₀.size)
  (h:Q (some (decide (K (arrOf st) i<K (arrOf st) j))) st):wpS (model prog w) A E s (ltAt' i j) Q st:=by
 obtain ⟨t,p,e1⟩:=iT (IntKeys.perm h0 hB.perm) (show i<(arrOf st).size by rw [hB.size];exact hi)
 obtain ⟨u,q,e2⟩:=iT (IntKeys.perm h0 hB.perm) (show j<(arrOf st).size by rw [hB.size];exact hj)
 exact wpS_ltAt hB.kind e1 e2 h
theorem aO {st:SortSt} {arr:Array Keyed} {i:Nat} {Q:Keyed→SortSt→Prop} (hi:i<arr.size) (h:Q arr[i] st):wpS (model prog w) A E s (elem' arr i) Q st:=by
 rw [elem'_eq,getElem?_pos _ i hi]
 exact xCe h
theorem gM {st:SortSt} {lo n₀ nrem:Nat} {Q:Option (Option Nat)×Nat→SortSt→Prop} (h0:IntKeys a₀) (hn:lo+nrem≤a₀.size) (h1:1≤n₀) (h2:n₀≤nrem) (hB:SB a₀ st) (hs:Inc (arrOf st) lo (lo+n₀))
  (h:∀ n,n₀≤n→n≤nrem→Inc (arrOf st) lo (lo+n)→(n=nrem∨K (arrOf st) (lo+n)<K (arrOf st) (lo+n - 1))→Q (none,n) st) :
  wpS (model prog w) A E s (forIn [n₀:nrem] ((none,n₀):Option (Option Nat)×Nat) fun _ z=>do
   let x ← ltAt' (lo+z.snd) (lo+z.snd - 1)
   match x with
   | some smaller=>if smaller=true then pure (ForInStep.done (none,z.snd)) else pure (ForInStep.yield (none,z.snd+1))
   | _=>pure (ForInStep.done (some none,z.snd))) Q st:=by
 refine wpS_forRange (I:=fun x c st'=>st'=st∧c=(none,x)∧Inc (arrOf st) lo (lo+x)) ?step ?fin ⟨rfl,rfl,hs⟩
 case fin =>
  rintro c st' ⟨rfl,rfl,hs'⟩
  rw [show max n₀ nrem=nrem by lia] at hs' ⊢
  exact h nrem h2 (xAg _) hs' (.inl rfl)
 case step =>
  rintro x c st' hax hxn ⟨rfl,rfl,hs'⟩
  dsimp only
  refine xCd (eJ hB h0 (by lia) (by lia) ?_)
  by_cases hl:K (arrOf st') (lo+x)<K (arrOf st') (lo+x - 1)
  ·simp only [hl,decide_true,if_true]
   exact xCe (h x hax (by lia) hs' (.inr hl))
  ·simp only [hl,decide_false,xAz,if_false]
   refine xCe ⟨rfl,rfl,fun i j hi hij hj=>?_⟩
   by_cases hjx:j<lo+x
   ·exact hs' i j hi hij hjx
   ·have hj':j=lo+x:=by lia
    subst hj'
    by_cases hi':i=lo+x
    ·rw [hi'];exact xBu _
    ·exact Int.le_trans (hs' i (lo+x - 1) hi (by lia) (by lia)) (Int.not_lt.mp hl)
end
end Tim
namespace Tim
open PySem PyProof.Rows
structure R (a₀:Array Keyed) (p:Array (Nat×Nat×Nat)) (xs₀:Array Keyed) (lo hi:Nat) (st:SortSt):Prop where
 b:SB a₀ st
 p:pendingOf st=p
 o:Off (arrOf st) xs₀ lo hi
section
variable {prog:Program} {w:World} {A:Around} {E:Value→Shared→Prop} {s:Shared} {a₀ xs₀:Array Keyed} {p:Array (Nat×Nat×Nat)} {lo hi:Nat} {st:SortSt}
theorem R.mirror (h:R a₀ p xs₀ lo hi st) {i j:Nat} (h1:lo≤i) (h2:j≤hi) (h3:j≤a₀.size):R a₀ p xs₀ lo hi (setArr st (mirror (arrOf st) i j ((j - i) / 2))):=by
 refine ⟨h.b.set (mirror_perm _ _ _ _),h.p,fun k hk=>?_⟩
 show K (PyProof.Rows.mirror (arrOf st) i j ((j - i) / 2)) k=_
 rw [K_mirror (by rw [h.b.size];exact h3),xCf (by lia)]
 exact h.o k hk
theorem R.turned (hR:R a₀ p xs₀ lo hi st) {n:Nat} (hn:lo+n≤a₀.size) (hd:Dec (arrOf st) lo (lo+n)):Inc (arrOf (setArr st (PyProof.Rows.mirror (arrOf st) lo (lo+n) ((lo+n - lo) / 2)))) lo (lo+n):=by
 intro i j hi hle hj
 have hsz:lo+n≤(arrOf st).size:=by rw [hR.b.size];omega
 show K (PyProof.Rows.mirror (arrOf st) lo (lo+n) ((lo+n - lo) / 2)) i≤K (PyProof.Rows.mirror (arrOf st) lo (lo+n) ((lo+n - lo) / 2)) j
 rw [K_mirror hsz,K_mirror hsz,xCg (by omega),xCg (by omega)]
 exact hd _ _ (by omega) (by omega) (by omega)
theorem ml {n nrem:Nat} {Q:Option (Option Nat)×Nat×Nat→SortSt→Prop} (h0:IntKeys a₀) (hn:lo+nrem≤a₀.size) (hh:lo+nrem≤hi) (h1:1≤n) (h2:n≤nrem) (hR:R a₀ p xs₀ lo hi st) (hd:Dec (arrOf st) lo (lo+n))
  (h:∀ m eqs st',R a₀ p xs₀ lo hi st'→n≤m→m≤nrem→Dec (arrOf st') lo (lo+m)→eqs+1≤m→(∀ i,lo+m - (eqs+1)≤i→i<lo+m→K (arrOf st') i=K (arrOf st') (lo+m - 1))→Q (none,m,eqs) st') :
  wpS (model prog w) A E s (forIn [n:nrem] ((none,n,0):Option (Option Nat)×Nat×Nat) fun _ z=>do
   let x ← ltAt' (lo+z.snd.fst) (lo+z.snd.fst - 1)
   match x with
   | some smaller =>
    if smaller=true then
     if z.snd.snd > 0 then do
      let _ ← reverseSlice' (lo+z.snd.fst - (z.snd.snd+1)) (lo+z.snd.fst)
      pure (ForInStep.yield (none,z.snd.fst+1,0))
     else pure (ForInStep.yield (none,z.snd.fst+1,0))
    else do
     let x ← ltAt' (lo+z.snd.fst - 1) (lo+z.snd.fst)
     match x with
     | some larger =>
      if larger=true then pure (ForInStep.done (none,z.snd.fst,z.snd.snd))
      else pure (ForInStep.yield (none,z.snd.fst+1,z.snd.snd+1))
     | _=>pure (ForInStep.done (some none,z.snd.fst,z.snd.snd))
   | _=>pure (ForInStep.done (some none,z.snd.fst,z.snd.snd))) Q st:=by
 refine wpS_forRange (I:=fun x c st'=>∃ eqs,c=(none,x,eqs)∧R a₀ p xs₀ lo hi st'∧Dec (arrOf st') lo (lo+x)∧eqs+1≤x ∧
   (∀ i,lo+x - (eqs+1)≤i→i<lo+x→K (arrOf st') i=K (arrOf st') (lo+x - 1))) ?step ?fin ⟨0,rfl,hR,hd,by lia,fun i h1 h2=>by congr 1;lia⟩
 case fin =>
  rintro c st' ⟨eqs,rfl,hC,hd',hcap,hflat⟩
  rw [show max n nrem=nrem by lia] at hd' hcap hflat ⊢
  exact h nrem eqs st' hC h2 (xAg _) hd' hcap hflat
 case step =>
  rintro x c st' hfrom hto ⟨eqs,rfl,hC,hd',hcap,hflat⟩
  dsimp only
  have hsz:lo+x≤(arrOf st').size:=by rw [hC.b.size];lia
  refine xCd (eJ hC.b h0 (by lia) (by lia) ?_)
  by_cases ql:K (arrOf st') (lo+x)<K (arrOf st') (lo+x - 1)
  ·simp only [decide_true,if_true,ql]
   have grow:∀ xs:Array Keyed,(∀ k,K xs k=K (arrOf st') k)→Dec xs lo (lo+(x+1)):=by
    intro xs hk i j hi hle hj
    rw [hk,hk]
    by_cases hjx:j<lo+x
    ·exact hd' i j hi hle hjx
    ·have hj':j=lo+x:=by lia
     subst hj'
     by_cases hi':i=lo+x
     ·rw [hi'];exact xBu _
     ·exact Int.le_trans (Int.le_of_lt ql) (hd' i (lo+x - 1) hi (by lia) (by lia))
   by_cases hpos:eqs > 0
   ·rw [xCg hpos]
    refine xCd (wpS_reverse (xCe ⟨0,rfl,hC.mirror (by lia) (by lia) (by lia),grow _ (K_mirror_equal hsz hflat),by lia,fun i h1 h2=>by congr 1;lia⟩))
   ·rw [xCf hpos]
    exact xCe ⟨0,rfl,hC,grow _ (fun _=>rfl),by lia,fun i h1 h2=>by congr 1;lia⟩
  ·simp only [decide_false,xAz,if_false,ql]
   refine xCd (eJ hC.b h0 (by lia) (by lia) ?_)
   by_cases qg:K (arrOf st') (lo+x - 1)<K (arrOf st') (lo+x)
   ·simp only [qg,decide_true,if_true]
    exact xCe (h x eqs st' hC hfrom (by lia) hd' hcap hflat)
   ·simp only [qg,decide_false,xAz,if_false]
    have hsame:K (arrOf st') (lo+x)=K (arrOf st') (lo+x - 1):=by lia
    refine xCe ⟨eqs+1,rfl,hC,fun i j hi hle hj=>?_,by lia,fun i h1 h2=>?_⟩
    ·by_cases hjx:j<lo+x
     ·exact hd' i j hi hle hjx
     ·have hj':j=lo+x:=by lia
      subst hj'
      by_cases hi':i=lo+x
      ·rw [hi'];exact xBu _
      ·rw [hsame];exact hd' i (lo+x - 1) hi (by lia) (by lia)
    ·rw [show lo+(x+1) - 1=lo+x by lia]
     by_cases hix:i=lo+x
     ·subst hix;rfl
     ·rw [hsame];exact hflat i (by lia) (by lia)
theorem jM {nrem:Nat} {Q:Option Nat→SortSt→Prop} (h0:IntKeys a₀) (hn:lo+nrem≤a₀.size) (hh:lo+nrem≤hi) (h1:1≤nrem) (hR:R a₀ p xs₀ lo hi st)
  (h:∀ m st',R a₀ p xs₀ lo hi st'→1≤m→m≤nrem→Inc (arrOf st') lo (lo+m)→Q (some m) st'):wpS (model prog w) A E s (countRun' lo nrem) Q st:=by
 rw [countRun'_eq]
 have one:Inc (arrOf st) lo (lo+1):=fun i j hi hle hj=>by
  obtain rfl:i=j:=by lia
  exact xBu _
 refine xCd (gM h0 hn (xAg 1) h1 hR.b one fun n hn1 hn2 hrun hor=>?_)
 dsimp only
 by_cases hmore:n=nrem
 ·rw [xCg (by simpa using hmore)]
  exact xCe (h n st hR hn1 hn2 hrun)
 ·rw [xCf (by simpa using hmore)]
  have hlt:K (arrOf st) (lo+n)<K (arrOf st) (lo+n - 1):=hor.resolve_left hmore
  by_cases hbig:n > 1
  ·rw [xCg hbig]
   refine xCd (eJ hR.b h0 (by lia) (by lia) ?_)
   by_cases qr:K (arrOf st) lo<K (arrOf st) (lo+n - 1)
   ·simp only [qr,decide_true,if_true]
    exact xCe (h n st hR hn1 hn2 hrun)
   ·simp only [qr,decide_false,xAz,if_false]
    have hsz:lo+n≤(arrOf st).size:=by rw [hR.b.size];lia
    have hev:∀ k,lo≤k→k<lo+n→K (arrOf st) k=K (arrOf st) (lo+n - 1):=by
     intro k hk1 hk
     have a1:=hrun lo k (by lia) hk1 hk
     have a2:=hrun k (lo+n - 1) hk1 (by lia) (by lia)
     lia
    have hD:Dec (arrOf (setArr st (mirror (arrOf st) lo (lo+n) ((lo+n - lo) / 2)))) lo (lo+(n+1)):=by
     intro i j hi hle hj
     show K (PyProof.Rows.mirror (arrOf st) _ _ _) j≤K (PyProof.Rows.mirror (arrOf st) _ _ _) i
     rw [K_mirror_equal hsz hev,K_mirror_equal hsz hev]
     by_cases hjn:j<lo+n
     ·rw [hev i (by lia) (by lia),hev j (by lia) hjn];exact xBu _
     ·have hj':j=lo+n:=by lia
      subst hj'
      by_cases hi':i=lo+n
      ·rw [hi'];exact xBu _
      ·rw [hev i (by lia) (by lia)];exact Int.le_of_lt hlt
    refine xCd (wpS_reverse ?_)
    refine xCd (wpS_lift (wpAny_rule ⟨rfl,?_⟩))
    refine xCd (ml h0 hn hh (by lia) (show n+1≤nrem by lia) (hR.mirror (i:=lo) (j:=lo+n) (xAg _) (by lia) (by lia)) hD fun m eqs st' hC hma hmb hd' hcap hflat=>?_)
    dsimp only
    have hsz2:lo+m≤(arrOf st').size:=by rw [hC.b.size];lia
    have fin:∀ st2,R a₀ p xs₀ lo hi st2→Dec (arrOf st2) lo (lo+m)→Inc (arrOf (setArr st2 (mirror (arrOf st2) lo (lo+m) ((lo+m - lo) / 2)))) lo (lo+m):=fun st2 hR2 hd2=>hR2.turned (by lia) hd2
    by_cases hpos:eqs > 0
    ·rw [xCg hpos]
     have hR3:=hC.mirror (i:=lo+m - (eqs+1)) (j:=lo+m) (by lia) (by lia) (by lia)
     refine xCd (wpS_reverse (xCd (wpS_reverse ?_)))
     refine xCd (gM h0 hn (by lia) hmb (hR3.mirror (i:=lo) (j:=lo+m) (xAg _) (by lia) (by lia)).b (fin _ hR3 ?_) fun m' hm1' hm2' hsm _=>xCe (h m' _ (hR3.mirror (xAg _) (by lia) (by lia)) (by lia) hm2' hsm))
     intro i j hi hle hj
     show K (mirror (arrOf st') _ _ _) j≤K (mirror (arrOf st') _ _ _) i
     rw [K_mirror_equal hsz2 hflat,K_mirror_equal hsz2 hflat]
     exact hd' i j hi hle hj
    ·rw [xCf hpos]
     refine xCd (wpS_reverse ?_)
     exact xCd (gM h0 hn (by lia) hmb (hC.mirror (i:=lo) (j:=lo+m) (xAg _) (by lia) (by lia)).b (fin _ hC hd') fun m' hm1' hm2' hsm _=>xCe (h m' _ (hC.mirror (xAg _) (by lia) (by lia)) (by lia) hm2' hsm))
  ·rw [xCf hbig]
   have hn1':n=1:=by lia
   subst hn1'
   have hD:Dec (arrOf st) lo (lo+(1+1)):=by
    intro i j hi hle hj
    by_cases hi':i=j
    ·subst hi';exact xBu _
    ·have hi0:i=lo:=by lia
     have hj1:j=lo+1:=by lia
     subst hi0;subst hj1
     exact Int.le_of_lt hlt
   refine xCd (wpS_lift (wpAny_rule ⟨rfl,?_⟩))
   refine xCd (ml h0 hn hh (by lia) (show 1+1≤nrem by lia) hR hD fun m eqs st' hC hma hmb hd' hcap hflat=>?_)
   dsimp only
   have hsz2:lo+m≤(arrOf st').size:=by rw [hC.b.size];lia
   have fin:∀ st2,R a₀ p xs₀ lo hi st2→Dec (arrOf st2) lo (lo+m)→Inc (arrOf (setArr st2 (mirror (arrOf st2) lo (lo+m) ((lo+m - lo) / 2)))) lo (lo+m):=fun st2 hR2 hd2=>hR2.turned (by lia) hd2
   by_cases hpos:eqs > 0
   ·rw [xCg hpos]
    have hR3:=hC.mirror (i:=lo+m - (eqs+1)) (j:=lo+m) (by lia) (by lia) (by lia)
    refine xCd (wpS_reverse (xCd (wpS_reverse ?_)))
    refine xCd (gM h0 hn (by lia) hmb (hR3.mirror (i:=lo) (j:=lo+m) (xAg _) (by lia) (by lia)).b (fin _ hR3 ?_) fun m' hm1' hm2' hsm _=>xCe (h m' _ (hR3.mirror (xAg _) (by lia) (by lia)) (by lia) hm2' hsm))
    intro i j hi hle hj
    show K (mirror (arrOf st') _ _ _) j≤K (mirror (arrOf st') _ _ _) i
    rw [K_mirror_equal hsz2 hflat,K_mirror_equal hsz2 hflat]
    exact hd' i j hi hle hj
   ·rw [xCf hpos]
    refine xCd (wpS_reverse ?_)
    exact xCd (gM h0 hn (by lia) hmb (hC.mirror (i:=lo) (j:=lo+m) (xAg _) (by lia) (by lia)).b (fin _ hC hd') fun m' hm1' hm2' hsm _=>xCe (h m' _ (hC.mirror (xAg _) (by lia) (by lia)) (by lia) hm2' hsm))
end
end Tim
namespace Tim
open PySem PyProof.Rows
section
variable {prog:Program} {w:World} {A:Around} {E:Value→Shared→Prop} {s:Shared} {a₀ xs₀:Array Keyed} {p:Array (Nat×Nat×Nat)} {lo hi:Nat} {st:SortSt}
theorem R.bubble (h:R a₀ p xs₀ lo hi st) {i d:Nat} (h1:lo≤i - d) (hd:d≤i) (h2:i<hi) (h3:i<a₀.size):R a₀ p xs₀ lo hi (setArr st (bubble (arrOf st) i d)):=by
 refine ⟨h.b.set (bubble_perm _ _ _),h.p,fun k hk=>?_⟩
 show K (PyProof.Rows.bubble (arrOf st) i d) k=_
 rw [K_bubble (by rw [h.b.size];exact h3) hd,xCf (by lia),xCf (by lia)]
 exact h.o k hk
theorem nW {n ok:Nat} {Q:Bool→SortSt→Prop} (h0:IntKeys a₀) (hn:lo+n≤a₀.size) (hh:lo+n≤hi) (hok:ok≤n) (hR:R a₀ p xs₀ lo hi st) (hs:Inc (arrOf st) lo (lo+ok))
  (h:∀ st',R a₀ p xs₀ lo hi st'→Inc (arrOf st') lo (lo+n)→Q true st'):wpS (model prog w) A E s (binarySort' lo n ok) Q st:=by
 rw [binarySort'_eq]
 refine xCd (wpS_mono (wpS_forRange (I:=fun k c st'=>c=(none,())∧R a₀ p xs₀ lo hi st'∧Inc (arrOf st') lo (lo+min k n))
  (Q:=fun c st'=>c=(none,())∧R a₀ p xs₀ lo hi st'∧Inc (arrOf st') lo (lo+n)) ?step ?fin ?init) ?post)
 case post =>
  rintro c st' ⟨rfl,hC,hd'⟩
  exact xCe (h st' hC hd')
 case init =>
  refine ⟨rfl,hR,fun i j hi hle hj=>?_⟩
  by_cases h1:ok=0
  ·obtain rfl:i=j:=by lia
   exact xBu _
  ·exact hs i j hi hle (by lia)
 case fin =>
  rintro c st' ⟨hc,hC,hd'⟩
  refine ⟨hc,hC,?_⟩
  rwa [show min (max (max ok 1) n) n=n by lia] at hd'
 case step =>
  rintro k c st' hak1 hkn1 ⟨rfl,hC,hd'⟩
  rw [show min k n=k by lia] at hd'
  have hk:lo+k<a₀.size:=by lia
  refine xCd (wpS_mono (wpS_forRange (I:=fun x c st''=>st''=st'∧∃ l r,c=(none,l,r)∧l≤r∧r≤k∧r - l≤k - x ∧
    (∀ i,lo≤i→i<lo+l→K (arrOf st') i≤K (arrOf st') (lo+k))∧(∀ i,lo+r≤i→i<lo+k→K (arrOf st') (lo+k)<K (arrOf st') i))
   (Q:=fun c st''=>st''=st'∧∃ l r,c=(none,l,r)∧l≤k ∧
    (∀ i,lo≤i→i<lo+l→K (arrOf st') i≤K (arrOf st') (lo+k))∧(∀ i,lo+l≤i→i<lo+k→K (arrOf st') (lo+k)<K (arrOf st') i)) ?istep ?ifin ?iinit) ?ipost)
  case iinit=>exact ⟨rfl,0,k,rfl,by lia,by lia,by lia,fun i _ hi=>by lia,fun i h1 h2=>by lia⟩
  case ifin =>
   rintro c st'' ⟨rfl,l,r,rfl,hlr1,hrk1,hm,hlow,hupp⟩
   obtain rfl:l=r:=by lia
   exact ⟨rfl,l,l,rfl,hrk1,hlow,hupp⟩
  case istep =>
   rintro x c st'' _ hxk1 ⟨rfl,l,r,rfl,hlr1,hrk1,hm,hlow,hupp⟩
   dsimp only
   by_cases hge:l ≥ r
   ·rw [xCg hge]
    obtain rfl:l=r:=by lia
    exact xCe ⟨rfl,l,l,rfl,hrk1,hlow,hupp⟩
   ·rw [xCf hge]
    refine xCd (eJ hC.b h0 hk (by lia) ?_)
    by_cases ql:K (arrOf st'') (lo+k)<K (arrOf st'') (lo+(l+r) / 2)
    ·simp only [decide_true,if_true,ql]
     refine xCe ⟨rfl,l,(l+r) / 2,rfl,by lia,by lia,by lia,hlow,fun i h1 h2=>?_⟩
     exact Int.lt_of_lt_of_le ql (hd' _ _ (by lia) h1 h2)
    ·simp only [decide_false,xAz,if_false,ql]
     refine xCe ⟨rfl,(l+r) / 2+1,r,rfl,by lia,by lia,by lia,fun i h1 h2=>?_,hupp⟩
     exact Int.le_trans (hd' i (lo+(l+r) / 2) h1 (by lia) (by lia)) (Int.not_lt.mp ql)
  case ipost =>
   rintro c st'' ⟨rfl,l,r,rfl,hlk1,hlow,hupp⟩
   show wpS _ _ _ _ (do moveDown' (lo+k) (lo+l);pure (ForInStep.yield (none,()))) _ _
   rw [moveDown'_eq]
   refine xCd (wpS_modify (xCe ⟨rfl,hC.bubble (by lia) (by lia) (by lia) hk,?_⟩))
   rw [show min (k+1) n=k+1 by lia]
   have hks:lo+k<(arrOf st'').size:=by rw [hC.b.size];exact hk
   intro i j hi hle hj
   show K (PyProof.Rows.bubble (arrOf st'') (lo+k) (lo+k - (lo+l))) i≤K (PyProof.Rows.bubble (arrOf st'') (lo+k) (lo+k - (lo+l))) j
   rw [K_bubble hks (by lia),K_bubble hks (by lia),show lo+k - (lo+k - (lo+l))=lo+l by lia]
   repeat' split
   all_goals first
    | (exfalso;lia)
    | exact xBu _
    | exact hlow _ (by lia) (by lia)
    | exact Int.le_of_lt (hupp _ (by lia) (by lia))
    | exact hd' _ _ (by lia) (by lia) (by lia)
end
def gallop':Bool→Keyed→Array Keyed→Nat→Nat→Nat→StateT SortSt Sem (Option Nat):=sortPriv% PySem.Builtin.gallop
theorem kz (left:Bool) (key:Keyed) (arr:Array Keyed) (base n hint:Nat):gallop' left key arr base n hint=(do
 let bey (v:Nat):StateT SortSt Sem (Option Bool):=do
  let u ← elem' arr (base+v)
  if left then lt' u key else return (← lt' key u).map (!·)
 let mut la:=0
 let mut of:=1
 let mut u:=0
 let mut v:=0
 let some r0 ← bey hint | return none
 if r0 then
  let mx:=n - hint
  for _ in [0:n] do
   if of ≥ mx then break
   let some mo ← bey (hint+of) | return none
   if !mo then break
   la:=of
   of:=2 * of+1
  u:=hint+la+1
  v:=hint+min of mx
 else
  let mx:=hint+1
  for _ in [0:n] do
   if of ≥ mx then break
   let some fo ← bey (hint - of) | return none
   if fo then break
   la:=of
   of:=2 * of+1
  u:=hint+1 - min of mx
  v:=hint - la
 for _ in [0:n] do
  if u ≥ v then break
  let md:=u+(v - u) / 2
  let some mo ← bey md | return none
  if mo then u:=md+1 else v:=md
 return some v):=rfl
end Tim
namespace Tim
open PySem PyProof.Rows
def look (left:Bool) (key:Keyed) (arr:Array Keyed) (j:Nat):StateT SortSt Sem (Option Bool):=do
 let x ← elem' arr j
 if left=true then lt' x key
  else do
   let y ← lt' key x
   pure (Option.map (fun x=>!x) y)
def Bt (left:Bool) (k:Int) (arr:Array Keyed) (j:Nat):Bool:=if left then decide (K arr j<k) else !decide (k<K arr j)
theorem Bt.anti {left:Bool} {k:Int} {arr:Array Keyed} {lo hi i j:Nat} (h:Inc arr lo hi) (h1:lo≤i) (hij:i≤j) (h2:j<hi) (b:Bt left k arr j=true):Bt left k arr i=true:=by
 have:=h i j h1 hij h2
 unfold Bt at b ⊢
 cases left
 ·simp only [xAz,if_false,Bool.not_eq_true',decide_eq_false_iff_not] at b ⊢
  lia
 ·simp only [if_true,decide_eq_true_eq] at b ⊢
  lia
theorem Bt.anti' {left:Bool} {k:Int} {arr:Array Keyed} {lo hi i j:Nat} (h:Inc arr lo hi) (h1:lo≤i) (hij:i≤j) (h2:j<hi) (b:Bt left k arr i=false):Bt left k arr j=false:=by
 cases e:Bt left k arr j with
 | false=>rfl
 | true=>rw [Bt.anti h h1 hij h2 e] at b;cases b
section
variable {prog:Program} {w:World} {A:Around} {E:Value→Shared→Prop} {s:Shared} {st:SortSt} {left:Bool} {key:Keyed} {arr:Array Keyed} {base n hint:Nat} {k:Int} {t:Tok}
theorem dM {j:Nat} {Q:Option Bool→SortSt→Prop} (hk:kindOf st=oneType') (hI:IntKeys arr) (hkey:key.1 = .int k t) (hj:j<arr.size) (h:Q (some (Bt left k arr j)) st) :
  wpS (model prog w) A E s (look left key arr j) Q st:=by
 unfold look
 obtain ⟨u,q,e⟩:=iT hI hj
 have e2:arr[j]=(.int (K arr j) u,q):=by
  rw [getElem?_pos _ j hj] at e
  exact xB3 e
 refine xCd (aO hj ?_)
 rw [e2]
 cases left
 ·rw [xCf xAy]
  refine xCd (lQ hk hkey rfl (xCe ?_))
  exact h
 ·rw [xCg rfl]
  exact lQ hk rfl hkey h
theorem kP {lo₀ hi₀:Nat} {Q:Option (Option Nat)×Nat×Nat→SortSt→Prop} (hk:kindOf st=oneType') (hI:IntKeys arr) (hkey:key.1 = .int k t) (hn:base+n≤arr.size) (hs:Inc arr base (base+n))
  (h1:lo₀≤hi₀) (h2:hi₀≤n) (hl:∀ i,i<lo₀→Bt left k arr (base+i)=true) (hr:∀ i,hi₀≤i→i<n→Bt left k arr (base+i)=false)
  (h:∀ m,m≤n→(∀ i,i<m→Bt left k arr (base+i)=true)→(∀ i,m≤i→i<n→Bt left k arr (base+i)=false)→Q (none,m,m) st) :
  wpS (model prog w) A E s (forIn [0:n] ((none,lo₀,hi₀):Option (Option Nat)×Nat×Nat) fun x z =>
   if z.snd.fst ≥ z.snd.snd then pure (ForInStep.done (none,z.snd.fst,z.snd.snd))
   else do
    let x ← look left key arr (base+(z.snd.fst+(z.snd.snd - z.snd.fst) / 2))
    match x with
     | some more =>
      if more=true then pure (ForInStep.yield (none,z.snd.fst+(z.snd.snd - z.snd.fst) / 2+1,z.snd.snd))
      else pure (ForInStep.yield (none,z.snd.fst,z.snd.fst+(z.snd.snd - z.snd.fst) / 2))
     | x=>pure (ForInStep.done (some none,z.snd.fst,z.snd.snd))) Q st:=by
 refine wpS_forRange (I:=fun x c st'=>st'=st∧∃ lo hi,c=(none,lo,hi)∧lo≤hi∧hi≤n∧hi - lo≤n - x∧(∀ i,i<lo→Bt left k arr (base+i)=true)∧(∀ i,hi≤i→i<n→Bt left k arr (base+i)=false)) ?step ?fin ⟨rfl,lo₀,hi₀,rfl,h1,h2,by lia,hl,hr⟩
 case fin =>
  rintro c st' ⟨rfl,lo,hi,rfl,a1,a2,a3,a4,a5⟩
  obtain rfl:lo=hi:=by lia
  exact h lo a2 a4 a5
 case step =>
  rintro x c st' _ hx ⟨rfl,lo,hi,rfl,a1,a2,a3,a4,a5⟩
  dsimp only
  by_cases hge:lo ≥ hi
  ·rw [xCg hge]
   obtain rfl:lo=hi:=by lia
   exact xCe (h lo a2 a4 a5)
  ·rw [xCf hge]
   refine xCd (dM (j:=base+(lo+(hi - lo) / 2)) hk hI hkey (by lia) ?_)
   cases e:Bt left k arr (base+(lo+(hi - lo) / 2)) with
   | true =>
    simp only [if_true]
    refine xCe ⟨rfl,lo+(hi - lo) / 2+1,hi,rfl,by lia,by lia,by lia,fun i hi'=>?_,a5⟩
    exact Bt.anti (j:=base+(lo+(hi - lo) / 2)) hs (by lia) (by lia) (by lia) e
   | false =>
    simp only [xAz,if_false]
    refine xCe ⟨rfl,lo,lo+(hi - lo) / 2,rfl,by lia,by lia,by lia,a4,fun i h1' h2'=>?_⟩
    exact Bt.anti' (i:=base+(lo+(hi - lo) / 2)) hs (by lia) (by lia) (by lia) e
theorem ce {Q:Option Nat→SortSt→Prop} (hk:kindOf st=oneType') (hI:IntKeys arr) (hkey:key.1 = .int k t) (hn:base+n≤arr.size) (hs:Inc arr base (base+n)) (hh:hint<n)
  (h:∀ m,m≤n→(∀ i,i<m→Bt left k arr (base+i)=true)→(∀ i,m≤i→i<n→Bt left k arr (base+i)=false)→Q (some m) st) :
  wpS (model prog w) A E s (gallop' left key arr base n hint) Q st:=by
 rw [kz]
 dsimp only
 refine xCd (dM (j:=base+hint) hk hI hkey (by lia) ?_)
 cases e0:Bt left k arr (base+hint) with
 | true =>
  simp only [if_true]
  refine xCd (wpS_mono (wpS_forRange (I:=fun x c st'=>st'=st∧∃ la of,c=(none,la,of)∧la<of∧hint+la<n∧x+1≤of∧Bt left k arr (base+(hint+la))=true)
   (Q:=fun c st'=>st'=st∧∃ la of,c=(none,la,of)∧la<of∧hint+la<n∧Bt left k arr (base+(hint+la))=true∧(n - hint≤of∨(hint+of<n∧Bt left k arr (base+(hint+of))=false))) ?step ?fin ⟨rfl,0,1,rfl,by lia,by lia,by lia,e0⟩) ?post)
  case fin =>
   rintro c st' ⟨rfl,la,of,rfl,b1,b2,b3,b4⟩
   exact ⟨rfl,la,of,rfl,b1,b2,b4,.inl (by lia)⟩
  case step =>
   rintro x c st' _ hx ⟨rfl,la,of,rfl,b1,b2,b3,b4⟩
   dsimp only
   by_cases hge:of ≥ n - hint
   ·rw [xCg hge]
    exact xCe ⟨rfl,la,of,rfl,b1,b2,b4,.inl hge⟩
   ·rw [xCf hge]
    refine xCd (dM (j:=base+(hint+of)) hk hI hkey (by lia) ?_)
    cases e1:Bt left k arr (base+(hint+of)) with
    | true =>
     simp only [Bool.not_true,xAz,if_false]
     exact xCe ⟨rfl,of,2 * of+1,rfl,by lia,by lia,by lia,e1⟩
    | false =>
     simp only [Bool.not_false,if_true]
     exact xCe ⟨rfl,la,of,rfl,b1,b2,b4,.inr ⟨by lia,e1⟩⟩
  case post =>
   rintro c st' ⟨rfl,la,of,rfl,b1,b2,b4,b5⟩
   dsimp only
   refine xCd (kP (lo₀:=hint+la+1) (hi₀:=hint+min of (n - hint)) hk hI hkey hn hs (by lia) (by lia) (fun i hi=>Bt.anti (j:=base+(hint+la)) hs (by lia) (by lia) (by lia) b4) (fun i h1 h2=>?_) fun m m1 m2 m3=>xCe (h m m1 m2 m3))
   rcases b5 with b5 | ⟨b5,b6⟩
   ·lia
   ·exact Bt.anti' (i:=base+(hint+of)) hs (by lia) (by lia) (by lia) b6
 | false =>
  simp only [xAz,if_false]
  refine xCd (wpS_mono (wpS_forRange (I:=fun x c st'=>st'=st∧∃ la of,c=(none,la,of)∧la<of∧la≤hint∧x+1≤of∧Bt left k arr (base+(hint - la))=false)
   (Q:=fun c st'=>st'=st∧∃ la of,c=(none,la,of)∧la<of∧la≤hint∧Bt left k arr (base+(hint - la))=false∧(hint+1≤of∨(of≤hint∧Bt left k arr (base+(hint - of))=true))) ?step ?fin ⟨rfl,0,1,rfl,by lia,by lia,by lia,e0⟩) ?post)
  case fin =>
   rintro c st' ⟨rfl,la,of,rfl,b1,b2,b3,b4⟩
   exact ⟨rfl,la,of,rfl,b1,b2,b4,.inl (by lia)⟩
  case step =>
   rintro x c st' _ hx ⟨rfl,la,of,rfl,b1,b2,b3,b4⟩
   dsimp only
   by_cases hge:of ≥ hint+1
   ·rw [xCg hge]
    exact xCe ⟨rfl,la,of,rfl,b1,b2,b4,.inl hge⟩
   ·rw [xCf hge]
    refine xCd (dM (j:=base+(hint - of)) hk hI hkey (by lia) ?_)
    cases e1:Bt left k arr (base+(hint - of)) with
    | true =>
     simp only [if_true]
     exact xCe ⟨rfl,la,of,rfl,b1,b2,b4,.inr ⟨by lia,e1⟩⟩
    | false =>
     simp only [xAz,if_false]
     exact xCe ⟨rfl,of,2 * of+1,rfl,by lia,by lia,by lia,e1⟩
  case post =>
   rintro c st' ⟨rfl,la,of,rfl,b1,b2,b4,b5⟩
   dsimp only
   refine xCd (kP (lo₀:=hint+1 - min of (hint+1)) (hi₀:=hint - la) hk hI hkey hn hs (by lia) (by lia) (fun i hi=>?_) (fun i h1 h2=>Bt.anti' (i:=base+(hint - la)) hs (by lia) (by lia) (by lia) b4) fun m m1 m2 m3=>xCe (h m m1 m2 m3))
   rcases b5 with b5 | ⟨b5,b6⟩
   ·lia
   ·exact Bt.anti (j:=base+(hint - of)) hs (by lia) (by lia) (by lia) b6
end
end Tim
namespace Tim
open PySem PyProof.Rows
def mergeLo':Array Keyed→Array Keyed→StateT SortSt Sem (Array Keyed):=sortPriv% PySem.Builtin.mergeLo
abbrev setG (st:SortSt) (g:Nat):SortSt:=SortSt.mk' (kindOf st) (arrOf st) (pendingOf st) g (failedOf st)
abbrev Z1:=Option (Array Keyed)×Array Keyed×Nat×Nat×Nat×Nat
abbrev Z2:=Option (Array Keyed)×Array Keyed×Nat×Nat×Nat×Nat×Nat
abbrev Z0:=Option (Array Keyed)×Array Keyed×Nat×Nat×Nat
def fin (a b o:Array Keyed) (i j:Nat):Array Keyed:=o++a.extract i a.size++b.extract j b.size
def las (a b o:Array Keyed) (i j:Nat):Array Keyed:=o++b.extract j b.size++a.extract i a.size
def l1 (a b:Array Keyed) (g:Nat) (z:Z1):StateT SortSt Sem (ForInStep Z1):=do
 let u ← elem' b z.2.2.2.1
 let v ← elem' a z.2.2.1
 let q ← lt' u v
 match q with
 | some q =>
  if q=true then do
   let u ← elem' b z.2.2.2.1
   if (z.2.2.2.1+1 == b.size)=true then pure (.done (some (fin a b (z.2.1.push u) z.2.2.1 (z.2.2.2.1+1)),z.2.1.push u,z.2.2.1,z.2.2.2.1+1,0,z.2.2.2.2.2+1))
   else if z.2.2.2.2.2+1 ≥ g then pure (.done (none,z.2.1.push u,z.2.2.1,z.2.2.2.1+1,0,z.2.2.2.2.2+1))
   else pure (.yield (none,z.2.1.push u,z.2.2.1,z.2.2.2.1+1,0,z.2.2.2.2.2+1))
  else do
   let u ← elem' a z.2.2.1
   if (z.2.2.1+1+1 == a.size)=true then pure (.done (some (las a b (z.2.1.push u) (z.2.2.1+1) z.2.2.2.1),z.2.1.push u,z.2.2.1+1,z.2.2.2.1,z.2.2.2.2.1+1,0))
   else if z.2.2.2.2.1+1 ≥ g then pure (.done (none,z.2.1.push u,z.2.2.1+1,z.2.2.2.1,z.2.2.2.2.1+1,0))
   else pure (.yield (none,z.2.1.push u,z.2.2.1+1,z.2.2.2.1,z.2.2.2.2.1+1,0))
 | _=>pure (.done (some (fin a b z.2.1 z.2.2.1 z.2.2.2.1),z.2.1,z.2.2.1,z.2.2.2.1,z.2.2.2.2.1,z.2.2.2.2.2))
def l4 (a b o:Array Keyed) (i j g x y:Nat):StateT SortSt Sem (ForInStep Z2):=do
 let u ← elem' a i
 if (i+1+1 == a.size)=true then pure (.done (some (las a b (o.push u) (i+1) j),o.push u,i+1,j,g,x,y))
 else if (decide (x<7) && decide (y<7))=true then pure (.done (none,o.push u,i+1,j,g,x,y))
 else pure (.yield (none,o.push u,i+1,j,g,x,y))
def l3 (a b o:Array Keyed) (i j g x y:Nat):StateT SortSt Sem (ForInStep Z2):=do
 let u ← elem' b j
 if (j+1 == b.size)=true then pure (.done (some (fin a b (o.push u) i (j+1)),o.push u,i,j+1,g,x,y))
 else do
  let v ← elem' a i
  let q ← gallop' true v b (j+1) (b.size - (j+1)) 0
  match q with
  | some k =>
   if k > 0 then
    if (j+1+k == b.size)=true then pure (.done (some (fin a b (o.push u++b.extract (j+1) (j+1+k)) i (j+1+k)),o.push u++b.extract (j+1) (j+1+k),i,j+1+k,g,x,k))
    else l4 a b (o.push u++b.extract (j+1) (j+1+k)) i (j+1+k) g x k
   else l4 a b (o.push u) i (j+1) g x k
  | _=>pure (.done (some (fin a b (o.push u) i (j+1)),o.push u,i,j+1,g,x,y))
def l2 (a b o:Array Keyed) (i j g x y:Nat):StateT SortSt Sem (ForInStep Z2):=do
 modify fun st=>setG st g
 let u ← elem' b j
 let q ← gallop' false u a i (a.size - i) 0
 match q with
 | some k =>
  if k > 0 then
   if (i+k+1 == a.size)=true then pure (.done (some (las a b (o++a.extract i (i+k)) (i+k) j),o++a.extract i (i+k),i+k,j,g,k,y))
   else if (i+k == a.size)=true then pure (.done (some (fin a b (o++a.extract i (i+k)) (i+k) j),o++a.extract i (i+k),i+k,j,g,k,y))
   else l3 a b (o++a.extract i (i+k)) (i+k) j g k y
  else l3 a b o i j g k y
 | _=>pure (.done (some (fin a b o i j),o,i,j,g,x,y))
def l0 (a b:Array Keyed) (z:Z0):StateT SortSt Sem (ForInStep Z0):=do
 let y ← forIn [0:a.size+b.size] ((none,z.2.1,z.2.2.1,z.2.2.2.1,0,0):Z1) fun _ y=>l1 a b z.2.2.2.2 y
 match y.1 with
 | some r=>pure (.done (some r,y.2.1,y.2.2.1,y.2.2.2.1,z.2.2.2.2))
 | none=>do
  liftM (rule "list.sort.gallop")
  let x ← forIn [0:a.size+b.size] ((none,y.2.1,y.2.2.1,y.2.2.2.1,z.2.2.2.2+1,y.2.2.2.2.1,y.2.2.2.2.2):Z2) fun _ x =>
   if x.2.2.2.2.1 > 1 then l2 a b x.2.1 x.2.2.1 x.2.2.2.1 (x.2.2.2.2.1 - 1) x.2.2.2.2.2.1 x.2.2.2.2.2.2 else l2 a b x.2.1 x.2.2.1 x.2.2.2.1 x.2.2.2.2.1 x.2.2.2.2.2.1 x.2.2.2.2.2.2
  match x.1 with
  | some r=>pure (.done (some r,x.2.1,x.2.2.1,x.2.2.2.1,x.2.2.2.2.1))
  | none=>do
   modify fun st=>setG st (x.2.2.2.2.1+1)
   pure (.yield (none,x.2.1,x.2.2.1,x.2.2.2.1,x.2.2.2.2.1+1))
theorem iO (a b:Array Keyed):mergeLo' a b=(do
 rule "list.sort.merge-lo"
 let T:=a.size+b.size
 let fi (o:Array Keyed) (i j:Nat):=o++a.extract i a.size++b.extract j b.size
 let la (o:Array Keyed) (i j:Nat):=o++b.extract j b.size++a.extract i a.size
 let mut o:Array Keyed:=#[← elem' b 0]
 let mut i:=0
 let mut j:=1
 if j == b.size then return fi o i j
 if i+1 == a.size then return la o i j
 let mut g:=gallopOf (← get)
 for _ in [0:T] do
  let mut x:=0
  let mut y:=0
  for _ in [0:T] do
   let some q ← lt' (← elem' b j) (← elem' a i) | return fi o i j
   if q then
    o:=o.push (← elem' b j);j:=j+1;y:=y+1;x:=0
    if j == b.size then return fi o i j
    if y ≥ g then break
   else
    o:=o.push (← elem' a i);i:=i+1;x:=x+1;y:=0
    if i+1 == a.size then return la o i j
    if x ≥ g then break
  rule "list.sort.gallop"
  g:=g+1
  for _ in [0:T] do
   if g > 1 then g:=g - 1
   modify fun st=>setG st g
   let some k ← gallop' false (← elem' b j) a i (a.size - i) 0 | return fi o i j
   x:=k
   if k > 0 then
    o:=o++a.extract i (i+k);i:=i+k
    if i+1 == a.size then return la o i j
    if i == a.size then return fi o i j
   o:=o.push (← elem' b j);j:=j+1
   if j == b.size then return fi o i j
   let some k ← gallop' true (← elem' a i) b j (b.size - j) 0 | return fi o i j
   y:=k
   if k > 0 then
    o:=o++b.extract j (j+k);j:=j+k
    if j == b.size then return fi o i j
   o:=o.push (← elem' a i);i:=i+1
   if i+1 == a.size then return la o i j
   if x<7 && y<7 then break
  g:=g+1
  modify fun st=>setG st g
 unsupported "internal:list.sort.merge-bound"):=rfl
theorem js (a b:Array Keyed):mergeLo' a b=(do
 liftM (rule "list.sort.merge-lo")
 let u ← elem' b 0
 if (1 == b.size)=true then pure (fin a b #[u] 0 1)
 else if (0+1 == a.size)=true then pure (las a b #[u] 0 1)
 else do
  let st ← get
  let z ← forIn [0:a.size+b.size] ((none,#[u],0,1,gallopOf st):Z0) fun _ z=>l0 a b z
  match z.1 with
  | some r=>pure r
  | none=>liftM (unsupported "internal:list.sort.merge-bound":Sem (Array Keyed))):=by
 rw [iO]
 dsimp only
 congr 1;funext _;congr 1;funext u
 congr 1
 congr 1
 congr 1;funext st
 congr 1
 ·congr 1;funext _ z
  unfold l0
  congr 1
  funext y
  obtain ⟨r,y⟩:=y
  cases r with
  | some r=>rfl
  | none =>
   dsimp only
   congr 1
   funext _
   congr 1
   funext x
   obtain ⟨r,x⟩:=x
   cases r <;> rfl
 ·funext z
  obtain ⟨r,z⟩:=z
  cases r <;> rfl
end Tim
namespace Tim
open PySem PyProof.Rows
def le' (p q:Keyed):Prop:=numOf p.1≤numOf q.1
structure M3 (L O A B:List Keyed):Prop where
 pm:(O++(A++B)).Perm L
 so:O.Pairwise le'
 sa:A.Pairwise le'
 sb:B.Pairwise le'
 ca:∀ x∈O,∀ y∈A,le' x y
 cb:∀ x∈O,∀ y∈B,le' x y
section
variable {L O A B:List Keyed}
theorem ly {l:List Keyed} (h:l.Pairwise le') (k:Nat):(l.take k).Pairwise le'∧(l.drop k).Pairwise le'∧∀ x∈l.take k,∀ y∈l.drop k,le' x y:=by
 rw [← xBx k l,List.pairwise_append] at h
 simpa using h
theorem M3.takeA (m:M3 L O A B) (k:Nat) (h:∀ x∈A.take k,∀ y∈B,le' x y):M3 L (O++A.take k) (A.drop k) B:=by
 obtain ⟨t1,t2,t3⟩:=ly m.sa k
 refine ⟨?_,List.pairwise_append.mpr ⟨m.so,t1,fun x hx y hy=>m.ca x hx y (xBj hy)⟩,t2,m.sb,fun x hx y hy=>?_,fun x hx y hy=>?_⟩
 ·refine List.Perm.trans (List.Perm.of_eq ?_) m.pm
  rw [xAx,← xAx (A.take k),xBx]
 ·rcases xAj.mp hx with z | z
  ·exact m.ca x z y (List.mem_of_mem_drop hy)
  ·exact t3 x z y hy
 ·rcases xAj.mp hx with z | z
  ·exact m.cb x z y hy
  ·exact h x z y hy
theorem M3.swap (m:M3 L O A B):M3 L O B A:=⟨(List.Perm.append_left O List.perm_append_comm).trans m.pm,m.so,m.sb,m.sa,m.cb,m.ca⟩
theorem M3.takeB (m:M3 L O A B) (k:Nat) (h:∀ y∈B.take k,∀ x∈A,le' y x):M3 L (O++B.take k) A (B.drop k):=(m.swap.takeA k h).swap
theorem M3.all (m:M3 L O A B) (h:∀ x∈A,∀ y∈B,le' x y):(O++A++B).Perm L∧(O++A++B).Pairwise le':=by
 rw [xAx]
 refine ⟨m.pm,List.pairwise_append.mpr ⟨m.so,List.pairwise_append.mpr ⟨m.sa,m.sb,h⟩,fun x hx y hy=>?_⟩⟩
 rcases xAj.mp hy with z | z
 ·exact m.ca x hx y z
 ·exact m.cb x hx y z
end
def RS (a b r:Array Keyed):Prop:=r.toList.Perm (a.toList++b.toList)∧r.toList.Pairwise le'
structure Cb (a b:Array Keyed):Prop where
 ia:IntKeys a
 ib:IntKeys b
 sa:a.toList.Pairwise le'
 sb:b.toList.Pairwise le'
 la:∀ y∈b.toList,numOf y.1≤K a (a.size - 1)
abbrev MM (a b o:Array Keyed) (i j:Nat):Prop:=M3 (a.toList++b.toList) o.toList (a.toList.drop i) (b.toList.drop j)
section
variable {a b o:Array Keyed} {i j:Nat}
theorem qI (a:Array Keyed) (i k:Nat):(a.extract i (i+k)).toList=(a.toList.drop i).take k:=by
 rw [Array.toList_extract,xB6,Nat.add_sub_cancel_left]
theorem fY (a:Array Keyed) (i:Nat):(a.extract i a.size).toList=a.toList.drop i:=by
 rw [Array.toList_extract,xB6,List.take_of_length_le]
 rw [List.length_drop,xAh]
 exact xAg _
theorem jC:(fin a b o i j).toList=o.toList++a.toList.drop i++b.toList.drop j:=by
 unfold fin
 rw [xB1,xB1,fY,fY]
theorem qj:(las a b o i j).toList=o.toList++b.toList.drop j++a.toList.drop i:=by
 unfold las
 rw [xB1,xB1,fY,fY]
theorem gA (hi:i<a.size):(a.toList.drop i).take 1=[a[i]]∧(a.toList.drop i).drop 1=a.toList.drop (i+1):=by
 have hl:i<a.toList.length:=by rw [xAh];exact hi
 rw [xB2 hl]
 exact ⟨by simp,rfl⟩
theorem MM.pa (m:MM a b o i j) (hi:i<a.size) (h:∀ y∈b.toList.drop j,le' a[i] y):MM a b (o.push a[i]) (i+1) j:=by
 obtain ⟨e1,e2⟩:=gA hi
 have:=M3.takeA m 1 (by rw [e1];intro x hx;have e:=xAm.mp hx;rw [e];exact h)
 rw [e1,e2] at this
 show M3 _ (o.push a[i]).toList _ _
 rw [Array.toList_push]
 exact this
theorem MM.pb (m:MM a b o i j) (hj:j<b.size) (h:∀ x∈a.toList.drop i,le' b[j] x):MM a b (o.push b[j]) i (j+1):=by
 obtain ⟨e1,e2⟩:=gA hj
 have:=M3.takeB m 1 (by rw [e1];intro x hx;have e:=xAm.mp hx;rw [e];exact h)
 rw [e1,e2] at this
 show M3 _ (o.push b[j]).toList _ _
 rw [Array.toList_push]
 exact this
theorem MM.ea (m:MM a b o i j) (k:Nat) (h:∀ x∈(a.toList.drop i).take k,∀ y∈b.toList.drop j,le' x y):MM a b (o++a.extract i (i+k)) (i+k) j:=by
 have:=M3.takeA m k h
 rw [List.drop_drop] at this
 show M3 _ (o++a.extract i (i+k)).toList _ _
 rw [xB1,qI]
 exact this
theorem MM.eb (m:MM a b o i j) (k:Nat) (h:∀ y∈(b.toList.drop j).take k,∀ x∈a.toList.drop i,le' y x):MM a b (o++b.extract j (j+k)) i (j+k):=by
 have:=M3.takeB m k h
 rw [List.drop_drop] at this
 show M3 _ (o++b.extract j (j+k)).toList _ _
 rw [xB1,qI]
 exact this
theorem gB {n:Nat} (h:a.size≤n):a.toList.drop n=[]:=List.drop_eq_nil_of_le (by rw [xAh];exact h)
theorem MM.finB (m:MM a b o i j) (h:b.size≤j):RS a b (fin a b o i j):=by
 unfold RS
 rw [jC]
 exact M3.all m (by rw [gB h];exact fun _ _ _ z=>nomatch z)
theorem MM.finA (m:MM a b o i j) (h:a.size≤i):RS a b (fin a b o i j):=by
 unfold RS
 rw [jC]
 exact M3.all m (by rw [gB h];exact fun _ z=>nomatch z)
theorem MM.last (m:MM a b o i j) (c:Cb a b) (h:i+1=a.size):RS a b (las a b o i j):=by
 unfold RS
 rw [qj]
 refine M3.all (M3.swap m) fun y hy x hx=>?_
 have hi:i<a.size:=by lia
 obtain ⟨e1,e2⟩:=gA hi
 have e3:a.toList.drop i=[a[i]]:=by
  rw [← xBx 1 (a.toList.drop i),e1,e2,gB (by lia)]
  rfl
 rw [e3] at hx
 obtain rfl:x=a[i]:=by simpa using hx
 have:=c.la y (List.mem_of_mem_drop hy)
 rw [show a.size - 1=i by lia,K_eq hi] at this
 exact this
theorem eG (h:a.toList.Pairwise le'):Inc a 0 a.size:=fun i j _ hij hj=>by
 by_cases e:i=j
 ·rw [e];exact xBu _
 ·have hi:i<a.size:=by lia
  have:=(List.pairwise_iff_getElem.mp h) i j (by simpa using hi) (by simpa using hj) (by lia)
  rw [K_eq hi,K_eq hj]
  simpa [le'] using this
theorem yJ (h:Inc a 0 a.size):a.toList.Pairwise le':=by
 rw [List.pairwise_iff_getElem]
 intro i j hi hj hij
 have hi':i<a.size:=by simpa using hi
 have hj':j<a.size:=by simpa using hj
 have:=h i j (xBn _) (Nat.le_of_lt hij) hj'
 rw [K_eq hi',K_eq hj'] at this
 simpa [le'] using this
theorem bC {y:Keyed} (h:y∈a.toList.drop i):∃ n,i≤n∧n<a.size∧numOf y.1=K a n:=by
 obtain ⟨n,hn,e⟩:=List.mem_iff_getElem.mp h
 rw [List.length_drop,xAh] at hn
 rw [List.getElem_drop] at e
 have h1:i+n<a.size:=by lia
 refine ⟨i+n,by lia,h1,?_⟩
 rw [K_eq h1,← e]
 simp
theorem cw {y:Keyed} {k:Nat} (h:y∈(a.toList.drop i).take k):∃ n,n<k∧i+n<a.size∧numOf y.1=K a (i+n):=by
 obtain ⟨n,hn,e⟩:=List.mem_iff_getElem.mp h
 rw [xAn,List.length_drop,xAh] at hn
 rw [List.getElem_take,List.getElem_drop] at e
 have h1:i+n<a.size:=by omega
 refine ⟨n,by omega,h1,?_⟩
 rw [K_eq h1,← e]
 simp
structure Sg (st₀ st:SortSt):Prop where
 k:kindOf st=oneType'
 a:arrOf st=arrOf st₀
 p:pendingOf st=pendingOf st₀
 f:failedOf st=failedOf st₀
theorem Sg.set {st₀ st:SortSt} (h:Sg st₀ st) (g:Nat):Sg st₀ (setG st g):=⟨h.k,h.a,h.p,h.f⟩
def Gd (a b:Array Keyed) (n:Nat) (r:Option (Array Keyed)) (o:Array Keyed) (i j:Nat):Prop:=match r with
 | some r=>RS a b r
 | none=>i+1<a.size∧j<b.size∧MM a b o i j∧n≤i+j
theorem gd {n:Nat} (h1:i+1<a.size) (h2:j<b.size) (m:MM a b o i j) (h4:n≤i+j):Gd a b n none o i j:=⟨h1,h2,m,h4⟩
section
variable {prog:Program} {w:World} {A:Around} {E:Value→Shared→Prop} {s:Shared} {st st₀:SortSt}
theorem bO (h:IntKeys a) (hi:i<a.size):∃ t,a[i].1 = .int (K a i) t:=by
 obtain ⟨t,q,e⟩:=iT h hi
 rw [getElem?_pos _ i hi] at e
 exact ⟨t,by rw [xB3 e]⟩
theorem x8 {g x y:Nat} {Q:ForInStep Z1→SortSt→Prop} (c:Cb a b) (hk:kindOf st=oneType') (hi:i+1<a.size) (hj:j<b.size) (m:MM a b o i j)
  (hd:∀ z,Gd a b (i+j+1) z.1 z.2.1 z.2.2.1 z.2.2.2.1→Q (.done z) st) (hy:∀ z:Z1,z.1=none→Gd a b (i+j+1) none z.2.1 z.2.2.1 z.2.2.2.1→Q (.yield z) st) :
  wpS (model prog w) A E s (l1 a b g (none,o,i,j,x,y)) Q st:=by
 unfold l1
 dsimp only
 have hi':i<a.size:=by lia
 obtain ⟨t1,e1⟩:=bO c.ia hi'
 obtain ⟨t2,e2⟩:=bO c.ib hj
 refine xCd (aO hj (xCd (aO hi' (xCd (lQ hk e2 e1 ?_)))))
 by_cases q:K b j<K a i
 ·simp only [q,decide_true,if_true]
  refine xCd (aO hj ?_)
  have m2:=m.pb hj fun x hx=>by
   obtain ⟨n,h1,h2,h3⟩:=bC hx
   have:=eG c.sa i n (xBn _) h1 h2
   show numOf b[j].1≤_
   rw [h3,← K_eq hj]
   lia
  by_cases q2:j+1=b.size
  ·rw [xCg (by simpa using q2)]
   exact xCe (hd _ (m2.finB (by lia)))
  ·rw [xCf (by simpa using q2)]
   by_cases q3:y+1 ≥ g
   ·rw [xCg q3]
    exact xCe (hd _ (gd (i:=i) (j:=j+1) hi (by lia) m2 (by lia)))
   ·rw [xCf q3]
    exact xCe (hy _ rfl (gd (i:=i) (j:=j+1) hi (by lia) m2 (by lia)))
 ·simp only [q,decide_false,xAz,if_false]
  refine xCd (aO hi' ?_)
  have m2:=m.pa hi' fun x hx=>by
   obtain ⟨n,h1,h2,h3⟩:=bC hx
   have:=eG c.sb j n (xBn _) h1 h2
   show numOf a[i].1≤_
   rw [h3,← K_eq hi']
   lia
  by_cases q2:i+1+1=a.size
  ·rw [xCg (by simpa using q2)]
   exact xCe (hd _ (m2.last c (by lia)))
  ·rw [xCf (by simpa using q2)]
   by_cases q3:x+1 ≥ g
   ·rw [xCg q3]
    exact xCe (hd _ (gd (i:=i+1) (j:=j) (by lia) hj m2 (by lia)))
   ·rw [xCf q3]
    exact xCe (hy _ rfl (gd (i:=i+1) (j:=j) (by lia) hj m2 (by lia)))
theorem um {g x y n:Nat} {Q:ForInStep Z2→SortSt→Prop} (c:Cb a b) (hi:i+1<a.size) (hj:j<b.size) (m:MM a b o i j) (hle:∀ n,j≤n→n<b.size→K a i≤K b n) (hn:n≤i+j+1)
  (hd:∀ z,Gd a b n z.1 z.2.1 z.2.2.1 z.2.2.2.1→Q (.done z) st) (hy:∀ z:Z2,z.1=none→Gd a b n none z.2.1 z.2.2.1 z.2.2.2.1→Q (.yield z) st) :
  wpS (model prog w) A E s (l4 a b o i j g x y) Q st:=by
 unfold l4
 have hi':i<a.size:=by lia
 refine xCd (aO hi' ?_)
 have m2:=m.pa hi' fun x hx=>by
  obtain ⟨n,h1,h2,h3⟩:=bC hx
  show numOf a[i].1≤_
  rw [h3,← K_eq hi']
  exact hle n h1 h2
 by_cases q2:i+1+1=a.size
 ·rw [xCg (by simpa using q2)]
  exact xCe (hd _ (m2.last c (by lia)))
 ·rw [xCf (by simpa using q2)]
  by_cases q3:(decide (x<7) && decide (y<7))=true
  ·rw [xCg q3]
   exact xCe (hd _ (gd (i:=i+1) (j:=j) (by lia) hj m2 (by lia)))
  ·rw [xCf q3]
   exact xCe (hy _ rfl (gd (i:=i+1) (j:=j) (by lia) hj m2 (by lia)))
theorem uo {g x y n:Nat} {Q:ForInStep Z2→SortSt→Prop} (c:Cb a b) (hk:kindOf st=oneType') (hi:i+1<a.size) (hj:j<b.size) (m:MM a b o i j) (hle:∀ n,i≤n→n<a.size→K b j≤K a n) (hn:n≤i+j+1)
  (hd:∀ z,Gd a b n z.1 z.2.1 z.2.2.1 z.2.2.2.1→Q (.done z) st) (hy:∀ z:Z2,z.1=none→Gd a b n none z.2.1 z.2.2.1 z.2.2.2.1→Q (.yield z) st) :
  wpS (model prog w) A E s (l3 a b o i j g x y) Q st:=by
 unfold l3
 have hi':i<a.size:=by lia
 refine xCd (aO hj ?_)
 have m2:=m.pb hj fun x hx=>by
  obtain ⟨n,h1,h2,h3⟩:=bC hx
  show numOf b[j].1≤_
  rw [h3,← K_eq hj]
  exact hle n h1 h2
 by_cases q2:j+1=b.size
 ·rw [xCg (by simpa using q2)]
  exact xCe (hd _ (m2.finB (by lia)))
 ·rw [xCf (by simpa using q2)]
  obtain ⟨t1,e1⟩:=bO c.ia hi'
  refine xCd (aO hi' (xCd (ce (left:=true) (arr:=b) (base:=j+1) (n:=b.size - (j+1)) (hint:=0) hk c.ib e1 (by lia) ?_ (by lia) fun k hk1 hk2 hk3=>?_)))
  ·intro u v _ huv hv
   exact eG c.sb u v (xBn _) huv (by lia)
  ·dsimp only
   have lo:∀ n,j+1+k≤n→n<b.size→K a i≤K b n:=fun n h1 h2=>by
    have:=hk3 (n - (j+1)) (by lia) (by lia)
    rw [show j+1+(n - (j+1))=n by lia] at this
    unfold Bt at this
    simp only [if_true,decide_eq_false_iff_not] at this
    lia
   by_cases q3:k > 0
   ·rw [xCg q3]
    have m3:=m2.eb k fun y hy x hx=>by
     obtain ⟨n,h1,h2,h3⟩:=cw hy
     obtain ⟨n',h1',h2',h3'⟩:=bC hx
     have z1:=hk2 n h1
     have z2:=eG c.sa i n' (xBn _) h1' h2'
     unfold Bt at z1
     simp only [if_true,decide_eq_true_eq] at z1
     show numOf y.1≤numOf x.1
     rw [h3,h3']
     lia
    by_cases q4:j+1+k=b.size
    ·rw [xCg (by simpa using q4)]
     exact xCe (hd _ (m3.finB (by lia)))
    ·rw [xCf (by simpa using q4)]
     exact um c hi (by lia) m3 lo (by lia) hd hy
   ·rw [xCf q3]
    obtain rfl:k=0:=by lia
    exact um c hi (by lia) m2 lo (by lia) hd hy
theorem uq {g x y n:Nat} {Q:ForInStep Z2→SortSt→Prop} (c:Cb a b) (hS:Sg st₀ st) (hi:i+1<a.size) (hj:j<b.size) (m:MM a b o i j) (hn:n≤i+j+1)
  (hd:∀ z st,Sg st₀ st→Gd a b n z.1 z.2.1 z.2.2.1 z.2.2.2.1→Q (.done z) st) (hy:∀ (z:Z2) st,Sg st₀ st→z.1=none→Gd a b n none z.2.1 z.2.2.1 z.2.2.2.1→Q (.yield z) st) :
  wpS (model prog w) A E s (l2 a b o i j g x y) Q st:=by
 unfold l2
 have hi':i<a.size:=by lia
 have hS2:=hS.set g
 refine xCd (wpS_modify ?_)
 obtain ⟨t1,e1⟩:=bO c.ib hj
 refine xCd (aO hj (xCd (ce (left:=false) (arr:=a) (base:=i) (n:=a.size - i) (hint:=0) hS2.k c.ia e1 (by lia) ?_ (by lia) fun k hk1 hk2 hk3=>?_)))
 ·intro u v _ huv hv
  exact eG c.sa u v (xBn _) huv (by lia)
 ·dsimp only
  have lo:∀ n,i+k≤n→n<a.size→K b j≤K a n:=fun n h1 h2=>by
   have:=hk3 (n - i) (by lia) (by lia)
   rw [show i+(n - i)=n by lia] at this
   unfold Bt at this
   simp only [xAz,if_false,Bool.not_eq_false',decide_eq_true_eq] at this
   lia
  by_cases q3:k > 0
  ·rw [xCg q3]
   have m3:=m.ea k fun x hx y hy=>by
    obtain ⟨n,h1,h2,h3⟩:=cw hx
    obtain ⟨n',h1',h2',h3'⟩:=bC hy
    have z1:=hk2 n h1
    have z2:=eG c.sb j n' (xBn _) h1' h2'
    unfold Bt at z1
    simp only [xAz,if_false,Bool.not_eq_true',decide_eq_false_iff_not] at z1
    show numOf x.1≤numOf y.1
    rw [h3,h3']
    lia
   by_cases q4:i+k+1=a.size
   ·rw [xCg (by simpa using q4)]
    exact xCe (hd _ _ hS2 (m3.last c q4))
   ·rw [xCf (by simpa using q4)]
    by_cases q5:i+k=a.size
    ·rw [xCg (by simpa using q5)]
     exact xCe (hd _ _ hS2 (m3.finA (by lia)))
    ·rw [xCf (by simpa using q5)]
     exact uo c hS2.k (by lia) hj m3 lo (by lia) (fun z=>hd z _ hS2) (fun z=>hy z _ hS2)
  ·rw [xCf q3]
   obtain rfl:k=0:=by lia
   exact uo c hS2.k hi hj m lo (by lia) (fun z=>hd z _ hS2) (fun z=>hy z _ hS2)
theorem x9 {g n:Nat} {Q:ForInStep Z0→SortSt→Prop} (c:Cb a b) (hS:Sg st₀ st) (hi:i+1<a.size) (hj:j<b.size) (m:MM a b o i j) (hn:n≤i+j)
  (hd:∀ r z st,Sg st₀ st→RS a b r→Q (.done (some r,z)) st) (hy:∀ o i j g st,Sg st₀ st→Gd a b (n+1) none o i j→Q (.yield (none,o,i,j,g)) st) :
  wpS (model prog w) A E s (l0 a b (none,o,i,j,g)) Q st:=by
 unfold l0
 dsimp only
 refine xCd (wpS_mono (wpS_forRange (I:=fun t z st'=>st'=st∧z.1=none∧Gd a b (n+t) none z.2.1 z.2.2.1 z.2.2.2.1) (Q:=fun z st'=>st'=st∧Gd a b (n+1) z.1 z.2.1 z.2.2.1 z.2.2.2.1) ?step ?fin ⟨rfl,rfl,hi,hj,m,by lia⟩) ?post)
 case fin =>
  rintro ⟨r,z⟩ st' ⟨rfl,e,h1,h2,h3,h4⟩
  obtain rfl:r=none:=e
  dsimp only at h1 h2 h3 h4 ⊢
  exact ⟨rfl,h1,h2,h3,by lia⟩
 case step =>
  rintro t ⟨r,o',i',j',x',y'⟩ st' _ ht ⟨rfl,e,h1,h2,h3,h4⟩
  obtain rfl:r=none:=e
  dsimp only at h1 h2 h3 h4
  refine x8 c hS.k h1 h2 h3 (fun z hz=>⟨rfl,?_⟩) (fun z e hz=>⟨rfl,e,?_⟩)
  ·cases er:z.1 with
   | some r=>rw [er] at hz;exact hz
   | none=>rw [er] at hz;exact ⟨hz.1,hz.2.1,hz.2.2.1,by have:=hz.2.2.2;lia⟩
  ·exact ⟨hz.1,hz.2.1,hz.2.2.1,by have:=hz.2.2.2;lia⟩
 case post =>
  rintro ⟨r,o',i',j',x',y'⟩ st' ⟨rfl,hg⟩
  cases r with
  | some r=>exact xCe (hd _ _ _ hS hg)
  | none =>
   obtain ⟨h1,h2,h3,h4⟩:=hg
   dsimp only at h1 h2 h3 h4 ⊢
   refine xCd (wpS_lift (wpAny_rule ⟨rfl,?_⟩))
   refine xCd (wpS_mono (wpS_forRange (I:=fun t z st'=>Sg st₀ st'∧z.1=none∧Gd a b (n+1) none z.2.1 z.2.2.1 z.2.2.2.1) (Q:=fun z st'=>Sg st₀ st'∧Gd a b (n+1) z.1 z.2.1 z.2.2.1 z.2.2.2.1) ?step2 ?fin2 ⟨hS,rfl,h1,h2,h3,h4⟩) ?post2)
   case fin2 =>
    rintro ⟨r,z⟩ st' ⟨hS',e,hg⟩
    obtain rfl:r=none:=e
    exact ⟨hS',hg⟩
   case step2 =>
    rintro t ⟨r,o',i',j',g',x',y'⟩ st' _ ht ⟨hS',e,h1,h2,h3,h4⟩
    obtain rfl:r=none:=e
    dsimp only at h1 h2 h3 h4 ⊢
    by_cases hg:g' > 1
    ·rw [xCg hg]
     exact uq c hS' h1 h2 h3 (by lia) (fun z st2 hS2 hz=>⟨hS2,hz⟩) (fun z st2 hS2 e hz=>⟨hS2,e,hz⟩)
    ·rw [xCf hg]
     exact uq c hS' h1 h2 h3 (by lia) (fun z st2 hS2 hz=>⟨hS2,hz⟩) (fun z st2 hS2 e hz=>⟨hS2,e,hz⟩)
   case post2 =>
    rintro ⟨r,o',i',j',g',x',y'⟩ st' ⟨hS',hg⟩
    cases r with
    | some r=>exact xCe (hd _ _ _ hS' hg)
    | none=>exact xCd (wpS_modify (xCe (hy _ _ _ _ _ (hS'.set _) hg)))
theorem kl {Q:Array Keyed→SortSt→Prop} (c:Cb a b) (hS:Sg st₀ st) (ha:0<a.size) (hb:0<b.size) (h0:K b 0≤K a 0) (h:∀ r st,Sg st₀ st→RS a b r→Q r st):wpS (model prog w) A E s (mergeLo' a b) Q st:=by
 rw [js]
 refine xCd (wpS_lift (wpAny_rule ⟨rfl,?_⟩))
 refine xCd (aO hb ?_)
 have m0:MM a b #[] 0 0:=⟨by simp,by simp,by simpa using c.sa,by simpa using c.sb,fun _ z=>(by simp at z),fun _ z=>(by simp at z)⟩
 have m1:MM a b #[b[0]] 0 1:=m0.pb hb fun x hx=>by
  obtain ⟨n,h1,h2,h3⟩:=bC hx
  have:=eG c.sa 0 n (xBn _) h1 h2
  show numOf b[0].1≤_
  rw [h3,← K_eq hb]
  lia
 by_cases q1:1=b.size
 ·rw [xCg (by simpa using q1)]
  exact xCe (h _ _ hS (m1.finB (by lia)))
 ·rw [xCf (by simpa using q1)]
  by_cases q2:0+1=a.size
  ·rw [xCg (by simpa using q2)]
   exact xCe (h _ _ hS (m1.last c q2))
  ·rw [xCf (by simpa using q2)]
   refine xCd (wpS_get ?_)
   refine xCd (wpS_mono (wpS_forRange (I:=fun t z st'=>Sg st₀ st'∧z.1=none∧Gd a b (t+1) none z.2.1 z.2.2.1 z.2.2.2.1) (Q:=fun z st'=>Sg st₀ st'∧∃ r,z.1=some r∧RS a b r) ?step ?fin ⟨hS,rfl,gd (i:=0) (j:=1) (by lia) (by lia) m1 (by lia)⟩) ?post)
   case fin =>
    rintro z st' ⟨_,_,h1,h2,_,h4⟩
    lia
   case step =>
    rintro t ⟨r,o',i',j',g'⟩ st' _ ht ⟨hS',e,h1,h2,h3,h4⟩
    obtain rfl:r=none:=e
    dsimp only at h1 h2 h3 h4 ⊢
    exact x9 c hS' h1 h2 h3 h4 (fun r z st2 hS2 hr=>⟨hS2,r,rfl,hr⟩) (fun o i j g st2 hS2 hz=>⟨hS2,rfl,hz⟩)
   case post =>
    rintro ⟨r,z⟩ st' ⟨hS',r',e,hr⟩
    obtain rfl:r=some r':=e
    exact xCe (h _ _ hS' hr)
end
end
end Tim
namespace Tim
open PySem PyProof.Rows
def mergeHi':Array Keyed→Array Keyed→StateT SortSt Sem (Array Keyed):=sortPriv% PySem.Builtin.mergeHi
abbrev Y1:=Option (Array Keyed)×Nat×Nat×Array Keyed×Nat×Nat
abbrev Y2:=Option (Array Keyed)×Nat×Nat×Array Keyed×Nat×Nat×Nat
abbrev Y0:=Option (Array Keyed)×Nat×Nat×Array Keyed×Nat
def fin2 (a b:Array Keyed) (o:Array Keyed) (i j:Nat):Array Keyed:=a.extract 0 i++b.extract 0 j++o.reverse
def fst2 (a b:Array Keyed) (o:Array Keyed) (i j:Nat):Array Keyed:=b.extract 0 j++a.extract 0 i++o.reverse
def h1 (a b:Array Keyed) (g:Nat) (z:Y1):StateT SortSt Sem (ForInStep Y1):=do
 let u ← elem' b (z.2.2.1 - 1)
 let v ← elem' a (z.2.1 - 1)
 let q ← lt' u v
 match q with
 | some q =>
  if q=true then do
   let u ← elem' a (z.2.1 - 1)
   if (z.2.1 - 1 == 0)=true then pure (.done (some (fin2 a b (z.2.2.2.1.push u) (z.2.1 - 1) z.2.2.1),z.2.1 - 1,z.2.2.1,z.2.2.2.1.push u,z.2.2.2.2.1+1,0))
   else if z.2.2.2.2.1+1 ≥ g then pure (.done (none,z.2.1 - 1,z.2.2.1,z.2.2.2.1.push u,z.2.2.2.2.1+1,0))
   else pure (.yield (none,z.2.1 - 1,z.2.2.1,z.2.2.2.1.push u,z.2.2.2.2.1+1,0))
  else do
   let u ← elem' b (z.2.2.1 - 1)
   if (z.2.2.1 - 1 == 1)=true then pure (.done (some (fst2 a b (z.2.2.2.1.push u) z.2.1 (z.2.2.1 - 1)),z.2.1,z.2.2.1 - 1,z.2.2.2.1.push u,0,z.2.2.2.2.2+1))
   else if z.2.2.2.2.2+1 ≥ g then pure (.done (none,z.2.1,z.2.2.1 - 1,z.2.2.2.1.push u,0,z.2.2.2.2.2+1))
   else pure (.yield (none,z.2.1,z.2.2.1 - 1,z.2.2.2.1.push u,0,z.2.2.2.2.2+1))
 | _=>pure (.done (some (fin2 a b z.2.2.2.1 z.2.1 z.2.2.1),z.2.1,z.2.2.1,z.2.2.2.1,z.2.2.2.2.1,z.2.2.2.2.2))
def h4 (a b:Array Keyed) (i j:Nat) (o:Array Keyed) (g x y:Nat):StateT SortSt Sem (ForInStep Y2):=do
 let u ← elem' a (i - 1)
 if (i - 1 == 0)=true then pure (.done (some (fin2 a b (o.push u) (i - 1) j),i - 1,j,o.push u,g,x,y))
 else if (decide (x<7) && decide (y<7))=true then pure (.done (none,i - 1,j,o.push u,g,x,y))
 else pure (.yield (none,i - 1,j,o.push u,g,x,y))
def h3 (a b:Array Keyed) (i j:Nat) (o:Array Keyed) (g x y:Nat):StateT SortSt Sem (ForInStep Y2):=do
 let u ← elem' b (j - 1)
 if (j - 1 == 1)=true then pure (.done (some (fst2 a b (o.push u) i (j - 1)),i,j - 1,o.push u,g,x,y))
 else do
  let v ← elem' a (i - 1)
  let q ← gallop' true v b 0 (j - 1) (j - 1 - 1)
  match q with
  | some k =>
   if j - 1 - k > 0 then
    if (k == 1)=true then pure (.done (some (fst2 a b (o.push u++(b.extract k (j - 1)).reverse) i k),i,k,o.push u++(b.extract k (j - 1)).reverse,g,x,j - 1 - k))
    else if (k == 0)=true then pure (.done (some (fin2 a b (o.push u++(b.extract k (j - 1)).reverse) i k),i,k,o.push u++(b.extract k (j - 1)).reverse,g,x,j - 1 - k))
    else h4 a b i k (o.push u++(b.extract k (j - 1)).reverse) g x (j - 1 - k)
   else h4 a b i (j - 1) (o.push u) g x (j - 1 - k)
  | _=>pure (.done (some (fin2 a b (o.push u) i (j - 1)),i,j - 1,o.push u,g,x,y))
def h2 (a b:Array Keyed) (i j:Nat) (o:Array Keyed) (g x y:Nat):StateT SortSt Sem (ForInStep Y2):=do
 modify fun st=>setG st g
 let u ← elem' b (j - 1)
 let q ← gallop' false u a 0 i (i - 1)
 match q with
 | some k =>
  if i - k > 0 then
   if (k == 0)=true then pure (.done (some (fin2 a b (o++(a.extract k i).reverse) k j),k,j,o++(a.extract k i).reverse,g,i - k,y))
   else h3 a b k j (o++(a.extract k i).reverse) g (i - k) y
  else h3 a b i j o g (i - k) y
 | _=>pure (.done (some (fin2 a b o i j),i,j,o,g,x,y))
def h0 (a b:Array Keyed) (z:Y0):StateT SortSt Sem (ForInStep Y0):=do
 let y ← forIn [0:a.size+b.size] ((none,z.2.1,z.2.2.1,z.2.2.2.1,0,0):Y1) fun _ y=>h1 a b z.2.2.2.2 y
 match y.1 with
 | some r=>pure (.done (some r,y.2.1,y.2.2.1,y.2.2.2.1,z.2.2.2.2))
 | none=>do
  liftM (rule "list.sort.gallop")
  let x ← forIn [0:a.size+b.size] ((none,y.2.1,y.2.2.1,y.2.2.2.1,z.2.2.2.2+1,y.2.2.2.2.1,y.2.2.2.2.2):Y2) fun _ x =>
   if x.2.2.2.2.1 > 1 then h2 a b x.2.1 x.2.2.1 x.2.2.2.1 (x.2.2.2.2.1 - 1) x.2.2.2.2.2.1 x.2.2.2.2.2.2 else h2 a b x.2.1 x.2.2.1 x.2.2.2.1 x.2.2.2.2.1 x.2.2.2.2.2.1 x.2.2.2.2.2.2
  match x.1 with
  | some r=>pure (.done (some r,x.2.1,x.2.2.1,x.2.2.2.1,x.2.2.2.2.1))
  | none=>do
   modify fun st=>setG st (x.2.2.2.2.1+1)
   pure (.yield (none,x.2.1,x.2.2.1,x.2.2.2.1,x.2.2.2.2.1+1))
theorem iP (a b:Array Keyed):mergeHi' a b=(do
 rule "list.sort.merge-hi"
 let T:=a.size+b.size
 let fi (o:Array Keyed) (i j:Nat):=a.extract 0 i++b.extract 0 j++o.reverse
 let la (o:Array Keyed) (i j:Nat):=b.extract 0 j++a.extract 0 i++o.reverse
 let mut i:=a.size - 1
 let mut j:=b.size
 let mut o:Array Keyed:=#[← elem' a i]
 if i == 0 then return fi o i j
 if j == 1 then return la o i j
 let mut g:=gallopOf (← get)
 for _ in [0:T] do
  let mut x:=0
  let mut y:=0
  for _ in [0:T] do
   let some q ← lt' (← elem' b (j - 1)) (← elem' a (i - 1)) | return fi o i j
   if q then
    i:=i - 1;o:=o.push (← elem' a i);x:=x+1;y:=0
    if i == 0 then return fi o i j
    if x ≥ g then break
   else
    j:=j - 1;o:=o.push (← elem' b j);y:=y+1;x:=0
    if j == 1 then return la o i j
    if y ≥ g then break
  rule "list.sort.gallop"
  g:=g+1
  for _ in [0:T] do
   if g > 1 then g:=g - 1
   modify fun st=>setG st g
   let some k ← gallop' false (← elem' b (j - 1)) a 0 i (i - 1) | return fi o i j
   let d:=i - k
   x:=d
   if d > 0 then
    o:=o++(a.extract k i).reverse;i:=k
    if i == 0 then return fi o i j
   j:=j - 1;o:=o.push (← elem' b j)
   if j == 1 then return la o i j
   let some k ← gallop' true (← elem' a (i - 1)) b 0 j (j - 1) | return fi o i j
   let d:=j - k
   y:=d
   if d > 0 then
    o:=o++(b.extract k j).reverse;j:=k
    if j == 1 then return la o i j
    if j == 0 then return fi o i j
   i:=i - 1;o:=o.push (← elem' a i)
   if i == 0 then return fi o i j
   if x<7 && y<7 then break
  g:=g+1
  modify fun st=>setG st g
 unsupported "internal:list.sort.merge-bound"):=rfl
theorem jt (a b:Array Keyed):mergeHi' a b=(do
 liftM (rule "list.sort.merge-hi")
 let u ← elem' a (a.size - 1)
 if (a.size - 1 == 0)=true then pure (fin2 a b #[u] (a.size - 1) b.size)
 else if (b.size == 1)=true then pure (fst2 a b #[u] (a.size - 1) b.size)
 else do
  let st ← get
  let z ← forIn [0:a.size+b.size] ((none,a.size - 1,b.size,#[u],gallopOf st):Y0) fun _ z=>h0 a b z
  match z.1 with
  | some r=>pure r
  | none=>liftM (unsupported "internal:list.sort.merge-bound":Sem (Array Keyed))):=by
 rw [iP]
 dsimp only
 congr 1;funext _;congr 1;funext u
 congr 1
 congr 1
 congr 1;funext st
 congr 1
 ·congr 1;funext _ z
  unfold h0
  congr 1
  funext y
  obtain ⟨r,y⟩:=y
  cases r with
  | some r=>rfl
  | none =>
   dsimp only
   congr 1
   funext _
   congr 1
   funext x
   obtain ⟨r,x⟩:=x
   cases r <;> rfl
 ·funext z
  obtain ⟨r,z⟩:=z
  cases r <;> rfl
end Tim
namespace Tim
open PySem PyProof.Rows
structure N3 (L A B O:List Keyed):Prop where
 pm:(A++(B++O)).Perm L
 so:O.Pairwise le'
 sa:A.Pairwise le'
 sb:B.Pairwise le'
 ca:∀ x∈A,∀ y∈O,le' x y
 cb:∀ x∈B,∀ y∈O,le' x y
section
variable {L O A B:List Keyed}
theorem N3.takeA (m:N3 L A B O) (k:Nat) (h:∀ x∈A.drop k,∀ y∈B,le' y x):N3 L (A.take k) B (A.drop k++O):=by
 obtain ⟨t1,t2,t3⟩:=ly m.sa k
 refine ⟨?_,List.pairwise_append.mpr ⟨t2,m.so,fun x hx y hy=>m.ca x (List.mem_of_mem_drop hx) y hy⟩,t1,m.sb,fun x hx y hy=>?_,fun x hx y hy=>?_⟩
 ·refine List.Perm.trans ?_ m.pm
  have e:(A++(B++O))=A.take k++(A.drop k++(B++O)):=by rw [← xAx (A.take k),xBx]
  rw [e]
  refine List.Perm.append_left _ ?_
  rw [← xAx,← xAx]
  exact List.Perm.append_right _ List.perm_append_comm
 ·rcases xAj.mp hy with z | z
  ·exact t3 x hx y z
  ·exact m.ca x (xBj hx) y z
 ·rcases xAj.mp hy with z | z
  ·exact h y z x hx
  ·exact m.cb x hx y z
theorem N3.swap (m:N3 L A B O):N3 L B A O:=⟨by
  refine List.Perm.trans ?_ m.pm
  rw [← xAx,← xAx]
  exact List.Perm.append_right _ List.perm_append_comm,m.so,m.sb,m.sa,m.cb,m.ca⟩
theorem N3.takeB (m:N3 L A B O) (k:Nat) (h:∀ y∈B.drop k,∀ x∈A,le' x y):N3 L A (B.take k) (B.drop k++O):=(m.swap.takeA k h).swap
theorem N3.all (m:N3 L A B O) (h:∀ x∈A,∀ y∈B,le' x y):(A++B++O).Perm L∧(A++B++O).Pairwise le':=by
 rw [xAx]
 refine ⟨m.pm,List.pairwise_append.mpr ⟨m.sa,List.pairwise_append.mpr ⟨m.sb,m.so,m.cb⟩,fun x hx y hy=>?_⟩⟩
 rcases xAj.mp hy with z | z
 ·exact h x hx y z
 ·exact m.ca x hx y z
end
abbrev NN (a b o:Array Keyed) (i j:Nat):Prop:=N3 (a.toList++b.toList) (a.toList.take i) (b.toList.take j) o.toList.reverse
structure Db (a b:Array Keyed):Prop extends Cb a b where
 fb:∀ x∈a.toList,K b 0≤numOf x.1
section
variable {a b o:Array Keyed} {i j:Nat}
theorem mj (a:Array Keyed) (i:Nat):(a.extract 0 i).toList=a.toList.take i:=by
 rw [Array.toList_extract,xB6,List.drop_zero,Nat.sub_zero]
theorem uG (a:Array Keyed) (k i:Nat) (h:k≤i) (hi:i≤a.size):(a.extract k i).toList=(a.toList.take i).drop k:=by
 rw [Array.toList_extract,xB6,List.drop_take]
theorem hV:(fin2 a b o i j).toList=a.toList.take i++b.toList.take j++o.toList.reverse:=by
 unfold fin2
 rw [xB1,xB1,mj,mj,Array.toList_reverse]
theorem nL:(fst2 a b o i j).toList=b.toList.take j++a.toList.take i++o.toList.reverse:=by
 unfold fst2
 rw [xB1,xB1,mj,mj,Array.toList_reverse]
theorem ga (h0:0<i) (hi:i≤a.size):(a.toList.take i).drop (i - 1)=[a[i - 1]]∧(a.toList.take i).take (i - 1)=a.toList.take (i - 1):=by
 have hl:i - 1<a.toList.length:=by rw [xAh];lia
 refine ⟨?_,by rw [List.take_take];congr 1;lia⟩
 rw [List.drop_take,xB2 hl,show i - (i - 1)=1 by lia]
 simp
theorem NN.pa (m:NN a b o i j) (h0:0<i) (hi:i≤a.size) (h:∀ y∈b.toList.take j,le' y a[i - 1]):NN a b (o.push a[i - 1]) (i - 1) j:=by
 obtain ⟨e1,e2⟩:=ga h0 hi
 have:=N3.takeA m (i - 1) (by rw [e1];intro x hx;have e:=xAm.mp hx;rw [e];exact h)
 rw [e1,e2] at this
 change N3 _ _ _ (o.push a[i - 1]).toList.reverse
 rw [Array.toList_push,List.reverse_append]
 exact this
theorem NN.pb (m:NN a b o i j) (h0:0<j) (hj:j≤b.size) (h:∀ x∈a.toList.take i,le' x b[j - 1]):NN a b (o.push b[j - 1]) i (j - 1):=by
 obtain ⟨e1,e2⟩:=ga h0 hj
 have:=N3.takeB m (j - 1) (by rw [e1];intro x hx;have e:=xAm.mp hx;rw [e];exact h)
 rw [e1,e2] at this
 change N3 _ _ _ (o.push b[j - 1]).toList.reverse
 rw [Array.toList_push,List.reverse_append]
 exact this
theorem NN.ea (m:NN a b o i j) (k:Nat) (hk:k≤i) (hi:i≤a.size) (h:∀ x∈(a.toList.take i).drop k,∀ y∈b.toList.take j,le' y x):NN a b (o++(a.extract k i).reverse) k j:=by
 have:=N3.takeA m k h
 rw [List.take_take,Nat.min_eq_left hk] at this
 change N3 _ _ _ (o++(a.extract k i).reverse).toList.reverse
 rw [xB1,Array.toList_reverse,List.reverse_append,List.reverse_reverse,uG a k i hk hi]
 exact this
theorem NN.eb (m:NN a b o i j) (k:Nat) (hk:k≤j) (hj:j≤b.size) (h:∀ y∈(b.toList.take j).drop k,∀ x∈a.toList.take i,le' x y):NN a b (o++(b.extract k j).reverse) i k:=by
 have:=N3.takeB m k h
 rw [List.take_take,Nat.min_eq_left hk] at this
 change N3 _ _ _ (o++(b.extract k j).reverse).toList.reverse
 rw [xB1,Array.toList_reverse,List.reverse_append,List.reverse_reverse,uG b k j hk hj]
 exact this
theorem NN.finA (m:NN a b o i j) (h:i=0):RS a b (fin2 a b o i j):=by
 unfold RS
 rw [hV]
 exact N3.all m (by rw [h,List.take_zero];exact fun _ z=>nomatch z)
theorem NN.finB (m:NN a b o i j) (h:j=0):RS a b (fin2 a b o i j):=by
 unfold RS
 rw [hV]
 exact N3.all m (by rw [h,List.take_zero];exact fun _ _ _ z=>nomatch z)
theorem NN.first (m:NN a b o i j) (c:Db a b) (hb:0<b.size) (h:j=1):RS a b (fst2 a b o i j):=by
 unfold RS
 rw [nL]
 refine N3.all (N3.swap m) fun y hy x hx=>?_
 subst h
 have e:b.toList.take 1=[b[0]]:=by
  have:=(ga (a:=b) (i:=1) (by lia) (by lia)).1
  simpa using this
 rw [e] at hy
 have ey:=xAm.mp hy
 have:=c.fb x (xBj hx)
 rw [K_eq hb] at this
 rw [ey]
 exact this
theorem bF {y:Keyed} (h:y∈a.toList.take i):∃ n,n<i∧n<a.size∧numOf y.1=K a n:=by
 have h':y∈(a.toList.drop 0).take i:=by rw [List.drop_zero];exact h
 obtain ⟨n,h1,h2,h3⟩:=cw h'
 rw [Nat.zero_add] at h2 h3
 exact ⟨n,h1,h2,h3⟩
theorem g8 {y:Keyed} {k:Nat} (h:y∈(a.toList.take i).drop k):∃ n,k≤n∧n<i∧n<a.size∧numOf y.1=K a n:=by
 rw [List.drop_take] at h
 obtain ⟨n,h1,h2,h3⟩:=cw h
 exact ⟨k+n,by lia,by lia,h2,h3⟩
def Hd (a b:Array Keyed) (n:Nat) (r:Option (Array Keyed)) (i j:Nat) (o:Array Keyed):Prop:=match r with
 | some r=>RS a b r
 | none=>(0<i∧i≤a.size)∧(1<j∧j≤b.size)∧NN a b o i j∧i+j+n≤a.size+b.size
theorem hdd {n:Nat} (h1:0<i∧i≤a.size) (h2:1<j∧j≤b.size) (m:NN a b o i j) (h4:i+j+n≤a.size+b.size):Hd a b n none i j o:=⟨h1,h2,m,h4⟩
section
variable {prog:Program} {w:World} {A:Around} {E:Value→Shared→Prop} {s:Shared} {st st₀:SortSt}
theorem ye {g x y n:Nat} {Q:ForInStep Y1→SortSt→Prop} (c:Db a b) (hk:kindOf st=oneType') (hi:0<i∧i≤a.size) (hj:1<j∧j≤b.size) (m:NN a b o i j) (hn:i+j+n≤a.size+b.size+1)
  (hd:∀ z,Hd a b n z.1 z.2.1 z.2.2.1 z.2.2.2.1→Q (.done z) st) (hy:∀ z:Y1,z.1=none→Hd a b n none z.2.1 z.2.2.1 z.2.2.2.1→Q (.yield z) st) :
  wpS (model prog w) A E s (h1 a b g (none,i,j,o,x,y)) Q st:=by
 unfold h1
 dsimp only
 have hi':i - 1<a.size:=by lia
 have hj':j - 1<b.size:=by lia
 obtain ⟨t1,e1⟩:=bO c.ia hi'
 obtain ⟨t2,e2⟩:=bO c.ib hj'
 refine xCd (aO hj' (xCd (aO hi' (xCd (lQ hk e2 e1 ?_)))))
 by_cases q:K b (j - 1)<K a (i - 1)
 ·simp only [q,decide_true,if_true]
  refine xCd (aO hi' ?_)
  have m2:=m.pa hi.1 hi.2 fun y hy=>by
   obtain ⟨n,g1,g2,g3⟩:=bF hy
   have:=eG c.sb n (j - 1) (xBn _) (by lia) hj'
   show _≤numOf a[i - 1].1
   rw [g3,← K_eq hi']
   lia
  by_cases q2:i - 1=0
  ·rw [xCg (by simpa using q2)]
   exact xCe (hd _ (m2.finA q2))
  ·rw [xCf (by simpa using q2)]
   by_cases q3:x+1 ≥ g
   ·rw [xCg q3]
    exact xCe (hd _ (hdd (i:=i - 1) (j:=j) (by lia) hj m2 (by lia)))
   ·rw [xCf q3]
    exact xCe (hy _ rfl (hdd (i:=i - 1) (j:=j) (by lia) hj m2 (by lia)))
 ·simp only [q,decide_false,xAz,if_false]
  refine xCd (aO hj' ?_)
  have m2:=m.pb (by lia) hj.2 fun x hx=>by
   obtain ⟨n,g1,g2,g3⟩:=bF hx
   have:=eG c.sa n (i - 1) (xBn _) (by lia) hi'
   show _≤numOf b[j - 1].1
   rw [g3,← K_eq hj']
   lia
  by_cases q2:j - 1=1
  ·rw [xCg (by simpa using q2)]
   exact xCe (hd _ (m2.first c (by lia) q2))
  ·rw [xCf (by simpa using q2)]
   by_cases q3:y+1 ≥ g
   ·rw [xCg q3]
    exact xCe (hd _ (hdd (i:=i) (j:=j - 1) hi (by lia) m2 (by lia)))
   ·rw [xCf q3]
    exact xCe (hy _ rfl (hdd (i:=i) (j:=j - 1) hi (by lia) m2 (by lia)))
theorem ut {g x y n:Nat} {Q:ForInStep Y2→SortSt→Prop} (c:Db a b) (hi:0<i∧i≤a.size) (hj:1<j∧j≤b.size) (m:NN a b o i j) (hle:∀ n,n<j→K b n≤K a (i - 1)) (hn:i+j+n≤a.size+b.size+1)
  (hd:∀ z,Hd a b n z.1 z.2.1 z.2.2.1 z.2.2.2.1→Q (.done z) st) (hy:∀ z:Y2,z.1=none→Hd a b n none z.2.1 z.2.2.1 z.2.2.2.1→Q (.yield z) st) :
  wpS (model prog w) A E s (h4 a b i j o g x y) Q st:=by
 unfold h4
 have hi':i - 1<a.size:=by lia
 refine xCd (aO hi' ?_)
 have m2:=m.pa hi.1 hi.2 fun y hy=>by
  obtain ⟨n,g1,g2,g3⟩:=bF hy
  show _≤numOf a[i - 1].1
  rw [g3,← K_eq hi']
  exact hle n g1
 by_cases q2:i - 1=0
 ·rw [xCg (by simpa using q2)]
  exact xCe (hd _ (m2.finA q2))
 ·rw [xCf (by simpa using q2)]
  by_cases q3:(decide (x<7) && decide (y<7))=true
  ·rw [xCg q3]
   exact xCe (hd _ (hdd (i:=i - 1) (j:=j) (by lia) hj m2 (by lia)))
  ·rw [xCf q3]
   exact xCe (hy _ rfl (hdd (i:=i - 1) (j:=j) (by lia) hj m2 (by lia)))
theorem uv {g x y n:Nat} {Q:ForInStep Y2→SortSt→Prop} (c:Db a b) (hk:kindOf st=oneType') (hi:0<i∧i≤a.size) (hj:1<j∧j≤b.size) (m:NN a b o i j) (hle:∀ n,n<i→K a n≤K b (j - 1)) (hn:i+j+n≤a.size+b.size+1)
  (hd:∀ z,Hd a b n z.1 z.2.1 z.2.2.1 z.2.2.2.1→Q (.done z) st) (hy:∀ z:Y2,z.1=none→Hd a b n none z.2.1 z.2.2.1 z.2.2.2.1→Q (.yield z) st) :
  wpS (model prog w) A E s (h3 a b i j o g x y) Q st:=by
 unfold h3
 have hi':i - 1<a.size:=by lia
 have hj':j - 1<b.size:=by lia
 refine xCd (aO hj' ?_)
 have m2:=m.pb (by lia) hj.2 fun x hx=>by
  obtain ⟨n,g1,g2,g3⟩:=bF hx
  show _≤numOf b[j - 1].1
  rw [g3,← K_eq hj']
  exact hle n g1
 by_cases q2:j - 1=1
 ·rw [xCg (by simpa using q2)]
  exact xCe (hd _ (m2.first c (by lia) q2))
 ·rw [xCf (by simpa using q2)]
  obtain ⟨t1,e1⟩:=bO c.ia hi'
  refine xCd (aO hi' (xCd (ce (left:=true) (arr:=b) (base:=0) (n:=j - 1) (hint:=j - 1 - 1) hk c.ib e1 (by lia) ?_ (by lia) fun k hk1 hk2 hk3=>?_)))
  ·intro u v _ huv hv
   exact eG c.sb u v (xBn _) huv (by lia)
  ·dsimp only
   have lo:∀ n,n<k→K b n≤K a (i - 1):=fun n g1=>by
    have:=hk2 n g1
    rw [Nat.zero_add] at this
    unfold Bt at this
    simp only [if_true,decide_eq_true_eq] at this
    lia
   by_cases q3:j - 1 - k > 0
   ·rw [xCg q3]
    have m3:=m2.eb k (by lia) (by lia) fun y hy x hx=>by
     obtain ⟨n,g1,g2,g3,g4⟩:=g8 hy
     obtain ⟨n',g1',g2',g3'⟩:=bF hx
     have z1:=hk3 n g1 g2
     have z2:=eG c.sa n' (i - 1) (xBn _) (by lia) hi'
     rw [Nat.zero_add] at z1
     unfold Bt at z1
     simp only [if_true,decide_eq_false_iff_not] at z1
     show numOf x.1≤numOf y.1
     rw [g4,g3']
     lia
    by_cases q4:k=1
    ·rw [xCg (by simpa using q4)]
     exact xCe (hd _ (m3.first c (by lia) q4))
    ·rw [xCf (by simpa using q4)]
     by_cases q5:k=0
     ·rw [xCg (by simpa using q5)]
      exact xCe (hd _ (m3.finB q5))
     ·rw [xCf (by simpa using q5)]
      exact ut c hi (by lia) m3 lo (by lia) hd hy
   ·rw [xCf q3]
    obtain rfl:k=j - 1:=by lia
    exact ut c hi (by lia) m2 lo (by lia) hd hy
theorem uw {g x y n:Nat} {Q:ForInStep Y2→SortSt→Prop} (c:Db a b) (hS:Sg st₀ st) (hi:0<i∧i≤a.size) (hj:1<j∧j≤b.size) (m:NN a b o i j) (hn:i+j+n≤a.size+b.size+1)
  (hd:∀ z st,Sg st₀ st→Hd a b n z.1 z.2.1 z.2.2.1 z.2.2.2.1→Q (.done z) st) (hy:∀ (z:Y2) st,Sg st₀ st→z.1=none→Hd a b n none z.2.1 z.2.2.1 z.2.2.2.1→Q (.yield z) st) :
  wpS (model prog w) A E s (h2 a b i j o g x y) Q st:=by
 unfold h2
 have hj':j - 1<b.size:=by lia
 have hS2:=hS.set g
 refine xCd (wpS_modify ?_)
 obtain ⟨t1,e1⟩:=bO c.ib hj'
 refine xCd (aO hj' (xCd (ce (left:=false) (arr:=a) (base:=0) (n:=i) (hint:=i - 1) hS2.k c.ia e1 (by lia) ?_ (by lia) fun k hk1 hk2 hk3=>?_)))
 ·intro u v _ huv hv
  exact eG c.sa u v (xBn _) huv (by lia)
 ·dsimp only
  have lo:∀ n,n<k→K a n≤K b (j - 1):=fun n g1=>by
   have:=hk2 n g1
   rw [Nat.zero_add] at this
   unfold Bt at this
   simp only [xAz,if_false,Bool.not_eq_true',decide_eq_false_iff_not] at this
   lia
  by_cases q3:i - k > 0
  ·rw [xCg q3]
   have m3:=m.ea k (by lia) hi.2 fun x hx y hy=>by
    obtain ⟨n,g1,g2,g3,g4⟩:=g8 hx
    obtain ⟨n',g1',g2',g3'⟩:=bF hy
    have z1:=hk3 n g1 g2
    have z2:=eG c.sb n' (j - 1) (xBn _) (by lia) hj'
    rw [Nat.zero_add] at z1
    unfold Bt at z1
    simp only [xAz,if_false,Bool.not_eq_false',decide_eq_true_eq] at z1
    show numOf y.1≤numOf x.1
    rw [g4,g3']
    lia
   by_cases q4:k=0
   ·rw [xCg (by simpa using q4)]
    exact xCe (hd _ _ hS2 (m3.finA q4))
   ·rw [xCf (by simpa using q4)]
    exact uv c hS2.k (by lia) hj m3 lo (by lia) (fun z=>hd z _ hS2) (fun z=>hy z _ hS2)
  ·rw [xCf q3]
   obtain rfl:k=i:=by lia
   exact uv c hS2.k hi hj m lo hn (fun z=>hd z _ hS2) (fun z=>hy z _ hS2)
theorem yf {g n:Nat} {Q:ForInStep Y0→SortSt→Prop} (c:Db a b) (hS:Sg st₀ st) (hi:0<i∧i≤a.size) (hj:1<j∧j≤b.size) (m:NN a b o i j) (hn:i+j+n≤a.size+b.size)
  (hd:∀ r z st,Sg st₀ st→RS a b r→Q (.done (some r,z)) st) (hy:∀ i j o g st,Sg st₀ st→Hd a b (n+1) none i j o→Q (.yield (none,i,j,o,g)) st) :
  wpS (model prog w) A E s (h0 a b (none,i,j,o,g)) Q st:=by
 unfold h0
 dsimp only
 refine xCd (wpS_mono (wpS_forRange (I:=fun t z st'=>st'=st∧z.1=none∧Hd a b (n+t) none z.2.1 z.2.2.1 z.2.2.2.1) (Q:=fun z st'=>st'=st∧Hd a b (n+1) z.1 z.2.1 z.2.2.1 z.2.2.2.1) ?step ?fin ⟨rfl,rfl,hi,hj,m,hn⟩) ?post)
 case fin =>
  rintro ⟨r,z⟩ st' ⟨rfl,e,g1,g2,g3,g4⟩
  obtain rfl:r=none:=e
  dsimp only at g1 g2 g3 g4 ⊢
  exact ⟨rfl,g1,g2,g3,by lia⟩
 case step =>
  rintro t ⟨r,i',j',o',x',y'⟩ st' _ ht ⟨rfl,e,g1,g2,g3,g4⟩
  obtain rfl:r=none:=e
  dsimp only at g1 g2 g3 g4
  refine ye (n:=n+(t+1)) c hS.k g1 g2 g3 (by lia) (fun z hz=>⟨rfl,?_⟩) (fun z e hz=>⟨rfl,e,hz⟩)
  cases er:z.1 with
  | some r=>rw [er] at hz;exact hz
  | none=>rw [er] at hz;exact ⟨hz.1,hz.2.1,hz.2.2.1,by have:=hz.2.2.2;lia⟩
 case post =>
  rintro ⟨r,i',j',o',x',y'⟩ st' ⟨rfl,hg⟩
  cases r with
  | some r=>exact xCe (hd _ _ _ hS hg)
  | none =>
   obtain ⟨g1,g2,g3,g4⟩:=hg
   dsimp only at g1 g2 g3 g4 ⊢
   refine xCd (wpS_lift (wpAny_rule ⟨rfl,?_⟩))
   refine xCd (wpS_mono (wpS_forRange (I:=fun t z st'=>Sg st₀ st'∧z.1=none∧Hd a b (n+1) none z.2.1 z.2.2.1 z.2.2.2.1) (Q:=fun z st'=>Sg st₀ st'∧Hd a b (n+1) z.1 z.2.1 z.2.2.1 z.2.2.2.1) ?step2 ?fin2 ⟨hS,rfl,g1,g2,g3,g4⟩) ?post2)
   case fin2 =>
    rintro ⟨r,z⟩ st' ⟨hS',e,hg⟩
    obtain rfl:r=none:=e
    exact ⟨hS',hg⟩
   case step2 =>
    rintro t ⟨r,i',j',o',g',x',y'⟩ st' _ ht ⟨hS',e,g1,g2,g3,g4⟩
    obtain rfl:r=none:=e
    dsimp only at g1 g2 g3 g4 ⊢
    by_cases hg:g' > 1
    ·rw [xCg hg]
     exact uw c hS' g1 g2 g3 (by lia) (fun z st2 hS2 hz=>⟨hS2,hz⟩) (fun z st2 hS2 e hz=>⟨hS2,e,hz⟩)
    ·rw [xCf hg]
     exact uw c hS' g1 g2 g3 (by lia) (fun z st2 hS2 hz=>⟨hS2,hz⟩) (fun z st2 hS2 e hz=>⟨hS2,e,hz⟩)
   case post2 =>
    rintro ⟨r,i',j',o',g',x',y'⟩ st' ⟨hS',hg⟩
    cases r with
    | some r=>exact xCe (hd _ _ _ hS' hg)
    | none=>exact xCd (wpS_modify (xCe (hy _ _ _ _ _ (hS'.set _) hg)))
theorem km {Q:Array Keyed→SortSt→Prop} (c:Db a b) (hS:Sg st₀ st) (ha:0<a.size) (hb:0<b.size) (h:∀ r st,Sg st₀ st→RS a b r→Q r st):wpS (model prog w) A E s (mergeHi' a b) Q st:=by
 rw [jt]
 refine xCd (wpS_lift (wpAny_rule ⟨rfl,?_⟩))
 have ha':a.size - 1<a.size:=by lia
 refine xCd (aO ha' ?_)
 have m0:NN a b #[] a.size b.size:=by
  have e1:a.toList.take a.size=a.toList:=List.take_of_length_le (by simp)
  have e2:b.toList.take b.size=b.toList:=List.take_of_length_le (by simp)
  refine ⟨?_,by simp,by rw [e1];exact c.sa,by rw [e2];exact c.sb,fun _ _ _ z=>(by simp at z),fun _ _ _ z=>(by simp at z)⟩
  rw [e1,e2]
  simp
 have m1:NN a b #[a[a.size - 1]] (a.size - 1) b.size:=m0.pa ha (xAg _) fun y hy=>by
  have:=c.la y (xBj hy)
  show _≤numOf a[a.size - 1].1
  rw [← K_eq ha']
  exact this
 by_cases q1:a.size - 1=0
 ·rw [xCg (by simpa using q1)]
  exact xCe (h _ _ hS (m1.finA q1))
 ·rw [xCf (by simpa using q1)]
  by_cases q2:b.size=1
  ·rw [xCg (by simpa using q2)]
   exact xCe (h _ _ hS (m1.first c hb q2))
  ·rw [xCf (by simpa using q2)]
   refine xCd (wpS_get ?_)
   refine xCd (wpS_mono (wpS_forRange (I:=fun t z st'=>Sg st₀ st'∧z.1=none∧Hd a b (t+1) none z.2.1 z.2.2.1 z.2.2.2.1) (Q:=fun z st'=>Sg st₀ st'∧∃ r,z.1=some r∧RS a b r) ?step ?fin ⟨hS,rfl,hdd (i:=a.size - 1) (j:=b.size) (by lia) (by lia) m1 (by lia)⟩) ?post)
   case fin =>
    rintro z st' ⟨_,_,g1,g2,_,g4⟩
    lia
   case step =>
    rintro t ⟨r,i',j',o',g'⟩ st' _ ht ⟨hS',e,g1,g2,g3,g4⟩
    obtain rfl:r=none:=e
    dsimp only at g1 g2 g3 g4 ⊢
    exact yf c hS' g1 g2 g3 g4 (fun r z st2 hS2 hr=>⟨hS2,r,rfl,hr⟩) (fun i j o g st2 hS2 hz=>⟨hS2,rfl,hz⟩)
   case post =>
    rintro ⟨r,z⟩ st' ⟨hS',r',e,hr⟩
    obtain rfl:r=some r':=e
    exact xCe (h _ _ hS' hr)
end
end
end Tim
namespace Tim
open PySem PyProof.Rows
theorem ju (i:Nat):mergeAt' i=(do
 let s ← get
 let (some (sa,na,pw),some (sb,nb,_)):=((pendingOf s)[i]?,(pendingOf s)[i+1]?) | unsupported "internal:list.sort.pending"
 set (setPending s (((pendingOf s).setIfInBounds i (sa,na+nb,pw)).eraseIdxIfInBounds (i+1)))
 let some k ← gallop' false (← elem' (arrOf s) sb) (arrOf s) sa na 0 | return false
 let (sa,na):=(sa+k,na - k)
 if na == 0 then return true
 let some nb ← gallop' true (← elem' (arrOf s) (sa+na - 1)) (arrOf s) sb nb (nb - 1) | return false
 if nb == 0 then return true
 let x:=(arrOf s).extract sa sb
 let y:=(arrOf s).extract sb (sb+nb)
 let r ← if na≤nb then mergeLo' x y else mergeHi' x y
 modify fun s=>setArr s (r.toList.zipIdx.foldl (fun a (p,j)=>a.setIfInBounds (sa+j) p) (arrOf s))
 return (failedOf (← get)).isNone):=rfl
theorem iG:∀ (l:List Keyed) (n p:Nat) (xs:Array Keyed),p+n+l.length≤xs.size→((l.zipIdx n).foldl (fun a x=>a.setIfInBounds (p+x.snd) x.fst) xs).size=xs.size ∧
  ∀ k,((l.zipIdx n).foldl (fun a x=>a.setIfInBounds (p+x.snd) x.fst) xs)[k]?=if p+n≤k∧k<p+n+l.length then l[k - (p+n)]? else xs[k]?
 | [],n,p,xs,_=>⟨rfl,fun k=>by rw [xCf (by simp only [List.length_nil];lia)];rfl⟩
 | v::l,n,p,xs,h=>by
  rw [xAo] at h
  rw [List.zipIdx_cons,xBy]
  obtain ⟨e1,e2⟩:=iG l (n+1) p (xs.setIfInBounds (p+n) v) (by rw [Array.size_setIfInBounds];lia)
  refine ⟨by rw [e1,Array.size_setIfInBounds],fun k=>?_⟩
  rw [e2,Array.getElem?_setIfInBounds,xAo]
  by_cases c1:p+n=k
  ·subst c1
   rw [xCf (by lia),xCg rfl,xCg (by lia),xCg (by lia),Nat.sub_self]
   rfl
  ·by_cases c2:p+(n+1)≤k∧k<p+(n+1)+l.length
   ·rw [xCg c2,xCg (by lia),show k - (p+n)=(k - (p+(n+1)))+1 by lia]
    rfl
   ·rw [xCf c2,xCf c1,xCf (by lia)]
def put (xs:Array Keyed) (p:Nat) (r:Array Keyed):Array Keyed:=r.toList.zipIdx.foldl (fun a x=>a.setIfInBounds (p+x.snd) x.fst) xs
theorem oY {xs r:Array Keyed} {p:Nat} (h:p+r.size≤xs.size):(put xs p r).toList=xs.toList.take p++(r.toList++xs.toList.drop (p+r.size)):=by
 obtain ⟨e1,e2⟩:=iG r.toList 0 p xs (by rw [xAh];lia)
 apply List.ext_getElem?
 intro k
 have:(put xs p r).toList[k]?=(put xs p r)[k]?:=by simp
 rw [this]
 show ((r.toList.zipIdx 0).foldl (fun a x=>a.setIfInBounds (p+x.snd) x.fst) xs)[k]?=_
 rw [e2,Nat.add_zero,xAh]
 have lt:(xs.toList.take p).length=p:=by rw [xAn,xAh];lia
 by_cases c1:k<p
 ·rw [xCf (by lia),List.getElem?_append_left (by lia),List.getElem?_take,xCg c1]
  simp
 ·rw [List.getElem?_append_right (by lia),lt]
  by_cases c2:k<p+r.size
  ·rw [xCg (by lia),List.getElem?_append_left (by rw [xAh];lia)]
  ·rw [xCf (by lia),List.getElem?_append_right (by rw [xAh];lia),List.getElem?_drop,xAh,show p+r.size+(k - p - r.size)=k by lia]
   simp
theorem xG {xs r:Array Keyed} {p:Nat} (h:p+r.size≤xs.size) (k:Nat):K (put xs p r) k=if p≤k∧k<p+r.size then K r (k - p) else K xs k:=by
 obtain ⟨e1,e2⟩:=iG r.toList 0 p xs (by rw [xAh];lia)
 have e:=e2 k
 rw [Nat.add_zero,xAh] at e
 by_cases c:p≤k∧k<p+r.size
 ·rw [xCg c] at e ⊢
  refine K_congr (e.trans ?_)
  simp
 ·rw [xCf c] at e ⊢
  exact K_congr e
theorem oX {xs r:Array Keyed} {p m q:Nat} (h1:p≤m) (h2:m≤q) (h:q≤xs.size) (hr:RS (xs.extract p m) (xs.extract m q) r):r.size=q - p∧(put xs p r).Perm xs:=by
 have hs:r.size=q - p:=by
  have:=hr.1.length_eq
  rw [xAb,xAh,xAh,xAh,Array.size_extract,Array.size_extract] at this
  lia
 refine ⟨hs,Array.perm_iff_toList_perm.mpr ?_⟩
 rw [oY (by lia)]
 have e:xs.toList=xs.toList.take p++(((xs.extract p m).toList++(xs.extract m q).toList)++xs.toList.drop (p+r.size)):=by
  rw [Array.toList_extract,Array.toList_extract,xB6,xB6]
  have a1:xs.toList.drop m=(xs.toList.drop m).take (q - m)++xs.toList.drop q:=by
   rw [show xs.toList.drop q=(xs.toList.drop m).drop (q - m) by rw [List.drop_drop];congr 1;lia,xBx]
  have a2:xs.toList.drop p=(xs.toList.drop p).take (m - p)++xs.toList.drop m:=by
   rw [show xs.toList.drop m=(xs.toList.drop p).drop (m - p) by rw [List.drop_drop];congr 1;lia,xBx]
  rw [show p+r.size=q by lia,xAx,← a1,← a2,xBx]
 have hp:=List.Perm.append_left (xs.toList.take p) (List.Perm.append_right (xs.toList.drop (p+r.size)) hr.1)
 exact hp.trans (List.Perm.of_eq e.symm)
theorem ic {xs:Array Keyed} {p q i:Nat} (hq:q≤xs.size) (hi:i<q - p):K (xs.extract p q) i=K xs (p+i):=by
 refine K_congr ?_
 rw [Array.getElem?_extract,xCg (by lia)]
theorem mh {xs:Array Keyed} {p q:Nat} (h:IntKeys xs):IntKeys (xs.extract p q):=fun v hv=>by
 rw [Array.toList_extract,xB6] at hv
 exact h v (List.mem_of_mem_drop (xBj hv))
theorem fX {xs:Array Keyed} {p q:Nat} {v:Keyed} (hv:v∈(xs.extract p q).toList):∃ n,p≤n∧n<q∧n<xs.size∧numOf v.1=K xs n:=by
 rw [Array.toList_extract,xB6] at hv
 obtain ⟨n,h1,h2,h3⟩:=cw hv
 exact ⟨p+n,by lia,by lia,h2,h3⟩
theorem qJ {xs:Array Keyed} {p q:Nat} (hq:q≤xs.size) (h:Inc xs p q):(xs.extract p q).toList.Pairwise le':=by
 refine yJ fun i j _ hij hj=>?_
 rw [Array.size_extract] at hj
 rw [ic hq (by lia),ic hq (by lia)]
 exact h _ _ (by lia) (by lia) (by lia)
section
variable {prog:Program} {w:World} {A:Around} {E:Value→Shared→Prop} {s:Shared} {st:SortSt} {a₀:Array Keyed}
theorem rc {σ:Type} {M:Model} {s' st':σ} {Q:PUnit→σ→Prop} (h:Q ⟨⟩ s'):wpS M A E s (set s':StateT σ Sem PUnit) Q st':=by
 unfold wpS
 rw [StateT.run_set]
 exact xAe ⟨rfl,h⟩
theorem kn {i sa na nb pa pb:Nat} {Q:Bool→SortSt→Prop} (h0:IntKeys a₀) (hB:SB a₀ st) (e1:(pendingOf st)[i]?=some (sa,na,pa)) (e2:(pendingOf st)[i+1]?=some (sa+na,nb,pb)) (hna:0<na) (hnb:0<nb) (hz:sa+na+nb≤a₀.size)
  (ha:Inc (arrOf st) sa (sa+na)) (hb:Inc (arrOf st) (sa+na) (sa+na+nb))
  (h:∀ st',SB a₀ st'→pendingOf st'=((pendingOf st).setIfInBounds i (sa,na+nb,pa)).eraseIdxIfInBounds (i+1)→Off (arrOf st') (arrOf st) sa (sa+na+nb)→Inc (arrOf st') sa (sa+na+nb)→Q true st') :
  wpS (model prog w) A E s (mergeAt' i) Q st:=by
 rw [ju]
 dsimp only
 refine xCd (wpS_get ?_)
 rw [e1,e2]
 dsimp only
 refine xCd (rc ?_)
 have hI:=IntKeys.perm h0 hB.perm
 have hsz:=hB.size
 have hS:Sg (setPending st (((pendingOf st).setIfInBounds i (sa,na+nb,pa)).eraseIdxIfInBounds (i+1))) (setPending st (((pendingOf st).setIfInBounds i (sa,na+nb,pa)).eraseIdxIfInBounds (i+1))):=⟨hB.kind,rfl,rfl,rfl⟩
 have hB1:SB a₀ (setPending st (((pendingOf st).setIfInBounds i (sa,na+nb,pa)).eraseIdxIfInBounds (i+1))):=⟨hB.perm,hB.kind,hB.failed⟩
 have hsb:sa+na<(arrOf st).size:=by lia
 obtain ⟨t1,k1⟩:=bO hI hsb
 refine xCd (aO hsb (xCd (ce (left:=false) (arr:=arrOf st) (base:=sa) (n:=na) (hint:=0) hS.k hI k1 (by lia) ha hna fun k hk1 hk2 hk3=>?_)))
 dsimp only
 have lo1:∀ n,sa≤n→n<sa+k→K (arrOf st) n≤K (arrOf st) (sa+na):=fun n g1 g2=>by
  have:=hk2 (n - sa) (by lia)
  rw [show sa+(n - sa)=n by lia] at this
  unfold Bt at this
  simp only [xAz,if_false,Bool.not_eq_true',decide_eq_false_iff_not] at this
  lia
 have lo2:∀ n,sa+k≤n→n<sa+na→K (arrOf st) (sa+na)≤K (arrOf st) n:=fun n g1 g2=>by
  have:=hk3 (n - sa) (by lia) (by lia)
  rw [show sa+(n - sa)=n by lia] at this
  unfold Bt at this
  simp only [xAz,if_false,Bool.not_eq_false',decide_eq_true_eq] at this
  lia
 by_cases q1:na - k=0
 ·rw [xCg (by simpa using q1)]
  refine xCe (h _ hB1 rfl .refl fun u v hu huv hv=>?_)
  change K (arrOf st) u≤K (arrOf st) v
  by_cases c1:v<sa+na
  ·exact ha u v hu huv c1
  ·by_cases c2:sa+na≤u
   ·exact hb u v c2 huv hv
   ·have z1:=lo1 u hu (by lia)
    have z2:=hb (sa+na) v (xAg _) (by lia) hv
    lia
 ·rw [xCf (by simpa using q1)]
  have hl:sa+k+(na - k) - 1<(arrOf st).size:=by lia
  obtain ⟨t2,k2⟩:=bO hI hl
  refine xCd (aO hl (xCd (ce (left:=true) (arr:=arrOf st) (base:=sa+na) (n:=nb) (hint:=nb - 1) hS.k hI k2 (by lia) hb (by lia) fun m hm1 hm2 hm3=>?_)))
  dsimp only
  have el:sa+k+(na - k) - 1=sa+na - 1:=by lia
  rw [el] at hm2 hm3
  have up1:∀ n,sa+na≤n→n<sa+na+m→K (arrOf st) n≤K (arrOf st) (sa+na - 1):=fun n g1 g2=>by
   have:=hm2 (n - (sa+na)) (by lia)
   rw [show sa+na+(n - (sa+na))=n by lia] at this
   unfold Bt at this
   simp only [if_true,decide_eq_true_eq] at this
   lia
  have up2:∀ n,sa+na+m≤n→n<sa+na+nb→K (arrOf st) (sa+na - 1)≤K (arrOf st) n:=fun n g1 g2=>by
   have:=hm3 (n - (sa+na)) (by lia) (by lia)
   rw [show sa+na+(n - (sa+na))=n by lia] at this
   unfold Bt at this
   simp only [if_true,decide_eq_false_iff_not] at this
   lia
  by_cases q2:m=0
  ·rw [xCg (by simpa using q2)]
   refine xCe (h _ hB1 rfl .refl fun u v hu huv hv=>?_)
   change K (arrOf st) u≤K (arrOf st) v
   by_cases c1:v<sa+na
   ·exact ha u v hu huv c1
   ·by_cases c2:sa+na≤u
    ·exact hb u v c2 huv hv
    ·have z1:=ha u (sa+na - 1) hu (by lia) (by lia)
     have z2:=up2 v (by lia) hv
     lia
  ·rw [xCf (by simpa using q2)]
   have inA:Inc (arrOf st) (sa+k) (sa+na):=fun u v hu huv hv=>ha u v (by lia) huv hv
   have inB:Inc (arrOf st) (sa+na) (sa+na+m):=fun u v hu huv hv=>hb u v hu huv (by lia)
   have zA:((arrOf st).extract (sa+k) (sa+na)).size=na - k:=by rw [Array.size_extract];lia
   have zB:((arrOf st).extract (sa+na) (sa+na+m)).size=m:=by rw [Array.size_extract];lia
   have c:Db ((arrOf st).extract (sa+k) (sa+na)) ((arrOf st).extract (sa+na) (sa+na+m)):=by
    refine ⟨⟨mh hI,mh hI,qJ (by lia) inA,qJ (by lia) inB,fun y hy=>?_⟩,fun x hx=>?_⟩
    ·obtain ⟨n,g1,g2,g3,g4⟩:=fX hy
     rw [zA,ic (by lia) (by lia),g4,show sa+k+(na - k - 1)=sa+na - 1 by lia]
     exact up1 n g1 g2
    ·obtain ⟨n,g1,g2,g3,g4⟩:=fX hx
     rw [ic (by lia) (by lia),g4,Nat.add_zero]
     exact lo2 n g1 g2
   have done:∀ (r:Array Keyed) (st2:SortSt),Sg (setPending st (((pendingOf st).setIfInBounds i (sa,na+nb,pa)).eraseIdxIfInBounds (i+1))) st2→RS ((arrOf st).extract (sa+k) (sa+na)) ((arrOf st).extract (sa+na) (sa+na+m)) r →
     wpS (model prog w) A E s (do
      modify fun s=>setArr s (List.foldl (fun a x=>a.setIfInBounds (sa+k+x.snd) x.fst) (arrOf s) r.toList.zipIdx)
      let z ← get
      pure (failedOf z).isNone) Q st2:=by
    intro r st2 hS2 hr
    refine xCd (wpS_modify (xCd (wpS_get ?_)))
    have ea:arrOf st2=arrOf st:=hS2.a
    obtain ⟨hrs,hpm⟩:=oX (p:=sa+k) (m:=sa+na) (q:=sa+na+m) (by lia) (by lia) (by lia) hr
    have rK:∀ n,n<r.size→(∃ u,sa+k≤u∧u<sa+na+m∧K r n=K (arrOf st) u):=fun n hn=>by
     have:r[n]∈r.toList:=by simp
     have this:=hr.1.mem_iff.mp this
     rw [K_eq hn]
     rcases xAj.mp this with z | z
     ·obtain ⟨u,g1,g2,g3,g4⟩:=fX z
      exact ⟨u,g1,by lia,g4⟩
     ·obtain ⟨u,g1,g2,g3,g4⟩:=fX z
      exact ⟨u,by lia,g2,g4⟩
    have rI:=eG hr.2
    have hfail:failedOf st2=none:=hS2.f.trans hB.failed
    change wpS (model prog w) A E s (pure (failedOf st2).isNone) Q (setArr st2 (put (arrOf st2) (sa+k) r))
    rw [hfail]
    have pK:=xG (xs:=arrOf st) (r:=r) (p:=sa+k) (by lia)
    refine xCe (h _ ⟨?_,hS2.k,hfail⟩ hS2.p (fun u hu=>?_) fun u v hu huv hv=>?_)
    ·change (put (arrOf st2) (sa+k) r).Perm a₀
     rw [ea]
     exact hpm.trans hB.perm
    ·change K (put (arrOf st2) (sa+k) r) u=_
     rw [ea,pK,xCf (by lia)]
    ·change K (put (arrOf st2) (sa+k) r) u≤K (put (arrOf st2) (sa+k) r) v
     rw [ea,pK,pK]
     by_cases cu:sa+k≤u∧u<sa+k+r.size
     ·rw [xCg cu]
      by_cases cv:sa+k≤v∧v<sa+k+r.size
      ·rw [xCg cv]
       exact rI _ _ (xBn _) (by lia) (by lia)
      ·rw [xCf cv]
       obtain ⟨n,g1,g2,g3⟩:=rK (u - (sa+k)) (by lia)
       rw [g3]
       have z2:=up2 v (by lia) hv
       by_cases cn:n<sa+na
       ·have:=ha n (sa+na - 1) (by lia) (by lia) (by lia)
        lia
       ·have:=up1 n (by lia) g2
        lia
     ·rw [xCf cu]
      by_cases cv:sa+k≤v∧v<sa+k+r.size
      ·rw [xCg cv]
       obtain ⟨n,g1,g2,g3⟩:=rK (v - (sa+k)) (by lia)
       rw [g3]
       by_cases cn:n<sa+na
       ·exact ha u n hu (by lia) cn
       ·have z1:=lo1 u hu (by lia)
        have:=hb (sa+na) n (xAg _) (by lia) (by lia)
        lia
      ·rw [xCf cv]
       by_cases c1:v<sa+na
       ·exact ha u v hu huv c1
       ·by_cases c2:sa+na≤u
        ·exact hb u v c2 huv hv
        ·have z1:=ha u (sa+na - 1) hu (by lia) (by lia)
         have z2:=up2 v (by lia) hv
         lia
   have fbK:K ((arrOf st).extract (sa+na) (sa+na+m)) 0≤K ((arrOf st).extract (sa+k) (sa+na)) 0:=by
    rw [ic (by lia) (by lia),ic (by lia) (by lia),Nat.add_zero,Nat.add_zero]
    exact lo2 (sa+k) (xAg _) (by lia)
   by_cases q3:na - k≤m
   ·rw [xCg q3]
    exact xCd (kl c.toCb hS (by lia) (by lia) fbK fun r st2 hS2 hr=>done r st2 hS2 hr)
   ·rw [xCf q3]
    exact xCd (km c hS (by lia) (by lia) fun r st2 hS2 hr=>done r st2 hS2 hr)
end
end Tim
namespace Tim
open PySem PyProof.Rows
def Rn (xs:Array Keyed):List (Nat×Nat×Nat)→Nat→Nat→Prop
 | [],lo,hi=>lo=hi
 | (s,n,_)::r,lo,hi=>s=lo∧0<n∧Inc xs lo (lo+n)∧Rn xs r (lo+n) hi
theorem Rn.len {xs:Array Keyed}:∀ {l:List (Nat×Nat×Nat)} {lo hi:Nat},Rn xs l lo hi→lo+l.length≤hi
 | [],_,_,h=>Nat.le_of_eq h
 | (_,n,_)::r,lo,hi,⟨_,h2,_,h4⟩=>by
  have:=Rn.len h4
  rw [xAo]
  lia
theorem Rn.like {xs ys:Array Keyed}:∀ {l:List (Nat×Nat×Nat)} {lo hi:Nat},Rn xs l lo hi→(∀ i,lo≤i→i<hi→K ys i=K xs i)→Rn ys l lo hi
 | [],_,_,h,_=>h
 | (_,n,_)::r,lo,hi,⟨h1,h2,h3,h4⟩,e=>by
  have:=Rn.len h4
  refine ⟨h1,h2,fun i j hi' hij hj=>?_,Rn.like h4 fun i g1 g2=>e i (by lia) g2⟩
  rw [e i hi' (by lia),e j (by lia) (by lia)]
  exact h3 i j hi' hij hj
theorem Rn.app {xs:Array Keyed} {r:List (Nat×Nat×Nat)}:∀ {l:List (Nat×Nat×Nat)} {lo hi:Nat},Rn xs (l++r) lo hi↔∃ m,Rn xs l lo m∧Rn xs r m hi
 | [],lo,hi=>⟨fun h=>⟨lo,rfl,h⟩,fun ⟨m,h1,h2⟩=>by rw [show lo=m from h1];exact h2⟩
 | (s,n,p)::l,lo,hi=>by
  constructor
  ·rintro ⟨h1,h2,h3,h4⟩
   obtain ⟨m,g1,g2⟩:=Rn.app.mp h4
   exact ⟨m,⟨h1,h2,h3,g1⟩,g2⟩
  ·rintro ⟨m,⟨h1,h2,h3,h4⟩,h5⟩
   exact ⟨h1,h2,h3,Rn.app.mpr ⟨m,h4,h5⟩⟩
theorem uK {α:Type} {l:List α} {i:Nat} (h:i+1<l.length):∃ x y,l[i]?=some x∧l[i+1]?=some y∧l=l.take i++x::y::l.drop (i+2):=by
 refine ⟨l[i],l[i+1],xAk (by omega),xAk h,?_⟩
 rw [← xB2,← xB2,xBx]
theorem rf {α:Type} {l:List α} {i:Nat} {x y v:α} (h:i+1<l.length) (e:l=l.take i++x::y::l.drop (i+2)):(l.set i v).eraseIdx (i+1)=l.take i++v::l.drop (i+2):=by
 have hl:(l.take i).length=i:=by rw [xAn];lia
 have e2:l.set i v=l.take i++v::y::l.drop (i+2):=by
  conv=>lhs;rw [e]
  rw [List.set_append,xCf (by rw [hl];lia),hl,Nat.sub_self]
  rfl
 rw [e2,List.eraseIdx_append_of_length_le (by lia),hl,show i+1 - i=1 by lia]
 rfl
section
variable {prog:Program} {w:World} {A:Around} {E:Value→Shared→Prop} {s:Shared} {st:SortSt} {a₀:Array Keyed} {hi:Nat}
theorem gp {i:Nat} {Q:Bool→SortSt→Prop} (h0:IntKeys a₀) (hB:SB a₀ st) (hr:Rn (arrOf st) (pendingOf st).toList 0 hi) (hz:hi≤a₀.size) (hi':i+1<(pendingOf st).size)
  (h:∀ st',SB a₀ st'→Rn (arrOf st') (pendingOf st').toList 0 hi→(pendingOf st').size+1=(pendingOf st).size→Off (arrOf st') (arrOf st) 0 hi→Q true st'):wpS (model prog w) A E s (mergeAt' i) Q st:=by
 have hl:i+1<(pendingOf st).toList.length:=by rw [xAh];exact hi'
 obtain ⟨⟨sa,na,pa⟩,⟨sb,nb,pb⟩,e1,e2,e⟩:=uK hl
 have hr2:=hr
 rw [e] at hr2
 obtain ⟨m,r1,g1,g2,g3,g4,g5,g6,g7⟩:=Rn.app.mp hr2
 subst g1
 subst g4
 have l1:=Rn.len r1
 have l7:=Rn.len g7
 refine kn (i:=i) (sa:=sa) (na:=na) (nb:=nb) (pa:=pa) (pb:=pb) h0 hB (by rw [← e1];simp) (by rw [← e2];simp) g2 g5 (by lia) g3 g6 fun st' hB' hp ho hI=>?_
 have e3:(pendingOf st').toList=(pendingOf st).toList.take i++(sa,na+nb,pa)::(pendingOf st).toList.drop (i+2):=by
  rw [hp,← rf hl e]
  simp
 refine h st' hB' ?_ ?_ (ho.wide (xBn _) (by lia))
 ·rw [e3]
  refine Rn.app.mpr ⟨sa,r1.like fun k _ g=>ho k (by lia),rfl,by lia,?_,?_⟩
  ·rw [show sa+(na+nb)=sa+na+nb by lia]
   exact hI
  ·rw [show sa+(na+nb)=sa+na+nb by lia]
   exact g7.like fun k g _=>ho k (by lia)
 ·have:=congrArg List.length e3
  rw [xAh,xAb,xAo,xAn,List.length_drop,xAh] at this
  lia
theorem fF {size pw:Nat} {Q:Option Unit×Unit→SortSt→Prop} (h0:IntKeys a₀) (hB:SB a₀ st) (hr:Rn (arrOf st) (pendingOf st).toList 0 hi) (hz:hi≤a₀.size) (hp:0<(pendingOf st).size)
  (h:∀ st',SB a₀ st'→Rn (arrOf st') (pendingOf st').toList 0 hi→0<(pendingOf st').size→Off (arrOf st') (arrOf st) 0 hi→Q (none,()) st') :
  wpS (model prog w) A E s (forIn [0:size] ((none,()):Option Unit×Unit) fun _ _=>do
   let z ← get
   match (if (pendingOf z).size > 1 then (pendingOf z)[(pendingOf z).size - 2]? else none) with
   | some (_,_,older) =>
    if older≤pw then pure (ForInStep.done (none,()))
    else do
     let q ← mergeAt' ((pendingOf z).size - 2)
     if (!q)=true then pure (ForInStep.done (some (),())) else pure (ForInStep.yield (none,()))
   | _=>pure (ForInStep.done (none,()))) Q st:=by
 refine wpS_forRange (I:=fun _ c st'=>c=(none,())∧SB a₀ st'∧Rn (arrOf st') (pendingOf st').toList 0 hi∧0<(pendingOf st').size∧Off (arrOf st') (arrOf st) 0 hi) ?step ?fin ⟨rfl,hB,hr,hp,.refl⟩
 case fin =>
  rintro c st' ⟨rfl,b1,b2,b3,b4⟩
  exact h st' b1 b2 b3 b4
 case step =>
  rintro x c st' _ _ ⟨rfl,b1,b2,b3,b4⟩
  refine xCd (wpS_get ?_)
  by_cases q:(pendingOf st').size > 1
  ·rw [xCg q,getElem?_pos _ _ (by lia)]
   dsimp only
   split
   ·exact xCe (h st' b1 b2 b3 b4)
   ·refine xCd (gp h0 b1 b2 hz (by lia) fun st2 c1 c2 c3 c4=>?_)
    exact xCe ⟨rfl,c1,c2,by lia,c4.trans b4⟩
  ·rw [xCf q]
   exact xCe (h st' b1 b2 b3 b4)
end
end Tim
namespace Tim
open PySem PyProof.Rows
theorem jS {p:Array (Nat×Nat×Nat)} {y:Nat×Nat×Nat} (h:p.back?=some y):0<p.size:=by
 rcases Nat.eq_zero_or_pos p.size with z | z
 ·rw [Array.eq_empty_of_size_eq_zero z] at h
  simp at h
 ·exact z
theorem grown {st:SortSt} {lo n q:Nat} (h:Rn (arrOf st) (pendingOf st).toList 0 lo) (hn:0<n) (hI:Inc (arrOf st) lo (lo+n)):Rn (arrOf (setPending st ((pendingOf st).push (lo,n,q)))) (pendingOf (setPending st ((pendingOf st).push (lo,n,q)))).toList 0 (lo+n):=by
 change Rn (arrOf st) ((pendingOf st).push (lo,n,q)).toList 0 (lo+n)
 rw [Array.toList_push]
 exact Rn.app.mpr ⟨lo,h,rfl,hn,hI,rfl⟩
theorem Rn.repow {xs:Array Keyed} {f:Nat×Nat×Nat→Nat×Nat×Nat} (hf:∀ x,(f x).1=x.1∧(f x).2.1=x.2.1):∀ {l:List (Nat×Nat×Nat)} {i lo hi:Nat},Rn xs l lo hi→Rn xs (l.modify i f) lo hi
 | [],i,_,_,h=>by rw [List.modify_nil];exact h
 | (s,n,p)::r,0,lo,hi,⟨h1,h2,h3,h4⟩=>by
  rw [List.modify_zero_cons]
  obtain ⟨e1,e2⟩:=hf (s,n,p)
  generalize f (s,n,p)=y at e1 e2
  obtain ⟨s',n',p'⟩:=y
  dsimp only at e1 e2
  subst e1 e2
  exact ⟨h1,h2,h3,h4⟩
 | (s,n,p)::r,i+1,lo,hi,⟨h1,h2,h3,h4⟩=>by
  rw [List.modify_succ_cons]
  exact ⟨h1,h2,h3,Rn.repow hf h4⟩
theorem repow {st:SortSt} {lo q i:Nat} (h:Rn (arrOf st) (pendingOf st).toList 0 lo):Rn (arrOf (setPending st ((pendingOf st).modify i fun x=>(x.fst,x.2.fst,q)))) (pendingOf (setPending st ((pendingOf st).modify i fun x=>(x.fst,x.2.fst,q)))).toList 0 lo:=by
 change Rn (arrOf st) ((pendingOf st).modify i fun x=>(x.fst,x.2.fst,q)).toList 0 lo
 rw [Array.toList_modify]
 exact Rn.repow (f:=fun x=>(x.fst,x.2.fst,q)) (fun _=>⟨rfl,rfl⟩) h
theorem pick {c:Prop} [Decidable c] {n m:Nat} (h:n+1<m):(if c then n - 1 else n)+1<m:=by
 split
 ·omega
 ·omega
section
variable {prog:Program} {w:World} {A:Around} {E:Value→Shared→Prop} {s:Shared} {st:SortSt} {a₀:Array Keyed}
theorem je {Q:Unit→SortSt→Prop} (h0:IntKeys a₀) (hB:SB a₀ st) (hp:pendingOf st=#[]) (h2:2≤a₀.size) (h:∀ st',(arrOf st').Perm a₀→failedOf st'=none→SortedTo (arrOf st') a₀.size→Q () st'):wpS (model prog w) A E s sortRuns' Q st:=by
 rw [sortRuns'_eq]
 refine xCd (wpS_get ?_)
 dsimp only
 rw [hB.size]
 refine xCd (wpS_mono (wpS_forRange (I:=fun x c st'=>c.1=none∧SB a₀ st'∧Rn (arrOf st') (pendingOf st').toList 0 c.2∧c.2≤a₀.size∧x≤c.2)
  (Q:=fun c st'=>c=(none,a₀.size)∧SB a₀ st'∧Rn (arrOf st') (pendingOf st').toList 0 a₀.size) ?step ?fin ⟨rfl,hB,by rw [hp];rfl,by lia,by lia⟩) ?post)
 case fin =>
  rintro ⟨r,lo⟩ st' ⟨e,b1,b2,b3,b4⟩
  obtain rfl:r=none:=e
  dsimp only at b2 b3 b4
  obtain rfl:lo=a₀.size:=by lia
  exact ⟨rfl,b1,b2⟩
 case step =>
  rintro x ⟨r,lo⟩ st' _ hx ⟨e,b1,b2,b3,b4⟩
  obtain rfl:r=none:=e
  dsimp only at b2 b3 b4 ⊢
  by_cases q1:lo ≥ a₀.size
  ·rw [xCg q1]
   obtain rfl:lo=a₀.size:=by lia
   exact xCe ⟨rfl,b1,b2⟩
  ·rw [xCf q1]
   have hR:R a₀ (pendingOf st') (arrOf st') lo a₀.size st':=⟨b1,rfl,.refl⟩
   refine xCd (jM (nrem:=a₀.size - lo) h0 (by lia) (by lia) (by lia) hR fun m st2 hR2 m1 m2 hI2=>?_)
   have r2:Rn (arrOf st2) (pendingOf st2).toList 0 lo:=by
    rw [hR2.p]
    exact b2.like fun i _ g=>hR2.o i (by lia)
   dsimp only
   by_cases q2:m<minRun' a₀.size a₀.size 0
   ·rw [xCg q2]
    refine xCd (wpS_lift (wpAny_rule ⟨rfl,?_⟩))
    refine xCd (nW (n:=min (a₀.size - lo) (minRun' a₀.size a₀.size 0)) h0 (by lia) (by lia) (by lia) hR2 hI2 fun st3 hR3 hI3=>?_)
    have r3:Rn (arrOf st3) (pendingOf st3).toList 0 lo:=by
     rw [hR3.p]
     exact b2.like fun i _ g=>hR3.o i (by lia)
    rw [xCf (by simp)]
    generalize hn:min (a₀.size - lo) (minRun' a₀.size a₀.size 0)=n at hI3 ⊢
    have hn1:0<n∧lo+n≤a₀.size:=by lia
    refine xCd (wpS_get ?_)
    cases hbk:(pendingOf st3).back? with
    | none =>
     dsimp only
     refine xCd (wpS_modify (xCe ⟨rfl,⟨hR3.b.perm,hR3.b.kind,hR3.b.failed⟩,?_,by lia,by lia⟩))
     exact grown r3 (by lia) hI3
    | some y =>
     obtain ⟨s1,n1,p1⟩:=y
     dsimp only
     refine xCd (fF h0 hR3.b r3 (by lia) (jS hbk) fun st5 c1 c2 c3 c4=>?_)
     dsimp only
     refine xCd (wpS_modify (xCd (wpS_modify (xCe ⟨rfl,⟨c1.perm,c1.kind,c1.failed⟩,?_,by lia,by lia⟩))))
     refine grown (st:=setPending st5 ((pendingOf st5).modify ((pendingOf st5).size - 1) fun x=>(x.fst,x.2.fst,_))) (repow c2) (by lia) fun u v hu huv hv=>?_
     change K (arrOf st5) u≤K (arrOf st5) v
     rw [c4 u (by lia),c4 v (by lia)]
     exact hI3 u v hu huv hv
   ·rw [xCf q2]
    refine xCd (wpS_get ?_)
    cases hbk:(pendingOf st2).back? with
    | none =>
     dsimp only
     refine xCd (wpS_modify (xCe ⟨rfl,⟨hR2.b.perm,hR2.b.kind,hR2.b.failed⟩,?_,by lia,by lia⟩))
     exact grown r2 (by lia) hI2
    | some y =>
     obtain ⟨s1,n1,p1⟩:=y
     dsimp only
     refine xCd (fF h0 hR2.b r2 (by lia) (jS hbk) fun st5 c1 c2 c3 c4=>?_)
     dsimp only
     refine xCd (wpS_modify (xCd (wpS_modify (xCe ⟨rfl,⟨c1.perm,c1.kind,c1.failed⟩,?_,by lia,by lia⟩))))
     refine grown (st:=setPending st5 ((pendingOf st5).modify ((pendingOf st5).size - 1) fun x=>(x.fst,x.2.fst,_))) (repow c2) (by lia) fun u v hu huv hv=>?_
     change K (arrOf st5) u≤K (arrOf st5) v
     rw [c4 u (by lia),c4 v (by lia)]
     exact hI2 u v hu huv hv
 case post =>
  rintro c st' ⟨rfl,b1,b2⟩
  dsimp only
  have hlen:=Rn.len b2
  rw [xAh,Nat.zero_add] at hlen
  refine xCd (wpS_mono (wpS_forRange (I:=fun x c st2=>c=(none,())∧SB a₀ st2∧Rn (arrOf st2) (pendingOf st2).toList 0 a₀.size∧((pendingOf st2).size≤1∨(pendingOf st2).size+x≤a₀.size))
   (Q:=fun c st2=>c=(none,())∧SB a₀ st2∧Rn (arrOf st2) (pendingOf st2).toList 0 a₀.size∧(pendingOf st2).size≤1) ?step2 ?fin2 ⟨rfl,b1,b2,.inr (by lia)⟩) ?post2)
  case fin2 =>
   rintro c st2 ⟨e,c1,c2,c3⟩
   exact ⟨e,c1,c2,by lia⟩
  case step2 =>
   rintro x c st2 _ hx ⟨rfl,c1,c2,c3⟩
   refine xCd (wpS_get ?_)
   by_cases q:(pendingOf st2).size≤1
   ·rw [xCg q]
    exact xCe ⟨rfl,c1,c2,q⟩
   ·rw [xCf q]
    have key:∀ i,i+1<(pendingOf st2).size→wpS (model prog w) A E s (mergeAt' i) (fun b st3=>b=true∧SB a₀ st3∧Rn (arrOf st3) (pendingOf st3).toList 0 a₀.size∧(pendingOf st3).size+1=(pendingOf st2).size) st2 :=
     fun i hi=>gp h0 c1 c2 (xAg _) hi fun st3 d1 d2 d3 _=>⟨rfl,d1,d2,d3⟩
    refine xCd (wpS_mono (key _ ?_) ?_)
    ·exact pick (by lia)
    ·rintro b st3 ⟨rfl,d1,d2,d3⟩
     rw [xCf (by simp)]
     exact xCe ⟨rfl,d1,d2,by lia⟩
  case post2 =>
   rintro c st2 ⟨rfl,c1,c2,c3⟩
   refine xCe (h st2 c1.perm c1.failed ?_)
   rw [← xAh] at c3
   generalize (pendingOf st2).toList=l at c2 c3
   match l,c2,c3 with
   | [],c2,_=>exact absurd (show 0=a₀.size from c2) (by lia)
   | [(s',n',p')],⟨_,_,g3,g4⟩,_ =>
    have g4':0+n'=a₀.size:=g4
    intro i j hij hj
    exact g3 i j (xBn _) hij (by lia)
end
end Tim
namespace Tim
open PySem PyProof.Rows
section
variable {prog:Program} {w:World} {A:Around} {E:Value→Shared→Prop} {s:Shared}
theorem tree_any {a:Addr} {vs:List Value} {ns:List Int} {n:Nat} {P:Fin→Shared→Prop} (ho:s.heap.get? a=some (seqObj "list" vs.toArray n)) (hI:IntsAre vs ns) (hz:vs.length≤sizeLine)
  (h:∀ (out:Array Value) (ns':List Int),IntsAre out.toList ns'→ns'.Perm ns→ns'.Pairwise (·≤·)→P (.done (.ret .none)) { s with heap:=sortedHeap s.heap a vs out }):wpAny (model prog w) A (Builtin.«list.sort» ⟨[.ref a],[]⟩) P E s:=by
 rw [list_sort_plain]
 have hlt:a<s.heap.objs.size:=xA1 ho
 have hz1:vs.toArray.size≤sizeLine:=by rw [xAp];exact hz
 refine xAd (listItems_at ho rfl (xAd (listUpdate_at ho rfl ?_ hz1 (xBn _))))
 obtain ⟨e1,g1⟩:∃ e1,(s.heap.update a (Obj.mapSeq fun _=>#[])).get? a=some (seqObj "list" #[] e1):=⟨_,get?_update_seq ho (fun _=>#[])⟩
 refine xAd (seqEpoch_at g1 rfl (xAd (wpAny_newTuple (xAd (wpAny_newList (wpAny_holding ?_))))))
 have g6:(((s.heap.update a (Obj.mapSeq fun _=>#[])).push (seqObj "tuple" vs.toArray 0)).push (seqObj "list" #[] 0)).get? a=some (seqObj "list" #[] e1):=by
  rw [Heap.get?_push_ne _ _ _ (by rw [size_push',Heap.size_update];exact xA0 (xCa hlt)),Heap.get?_push_ne _ _ _ (by rw [Heap.size_update];exact xA0 hlt)]
  exact g1
 change wpAny (model prog w) A _ P E { s with heap:=((s.heap.update a (Obj.mapSeq fun _=>#[])).push (seqObj "tuple" vs.toArray 0)).push (seqObj "list" #[] 0) }
 dsimp only
 have last:∀ st':SortSt,(arrOf st').Perm (pairsOf vs)→SortedTo (arrOf st') (pairsOf vs).size→P (.done (.ret .none)) { s with heap:=sortedHeap s.heap a vs ((arrOf st').map (·.2)) }:=fun st' q1 q2=>by
  obtain ⟨ns',z1,z2,z3⟩:=sorted_out hI q1 q2
  exact h _ ns' z1 z2 z3
 by_cases few:vs.toArray.size<2
 ·rw [xCg few,xCg few]
  refine xAd (xAe ?_)
  rw [StateT.run_pure]
  refine xAd (xAe ?_)
  dsimp only
  refine xAd (seqEpoch_at g6 rfl (xAd (listUpdate_at g6 rfl ?_ (xBn _) ?_)))
  ·simp only [bne_self_eq_false,xAz,if_false]
   refine xAe (last (SortSt.mk' general' (vs.toArray.zip vs.toArray) #[] 7 none) (Array.Perm.refl _) fun i j hij hj=>?_)
   rw [pairsOf_size,← xAp] at hj
   obtain rfl:i=j:=by lia
   exact xBu _
  ·rw [Array.size_map]
   change (pairsOf vs).size≤_
   rw [pairsOf_size]
   lia
 ·rw [xCf few,xCf few]
  obtain ⟨v1,v2,rest,rfl⟩:∃ v1 v2 rest,vs=v1::v2::rest:=by
   match vs,few with
   | [],few=>simp at few
   | [_],few=>simp at few
   | v1::v2::rest,_=>exact ⟨v1,v2,rest,rfl⟩
  rw [keyKind_ints hI]
  refine xAd (xAe ?_)
  refine xAd (wpAny_mono (je (a₀:=pairsOf (v1::v2::rest)) (st:=SortSt.mk' oneType' ((v1::v2::rest).toArray.zip (v1::v2::rest).toArray) #[] 7 none)
   (Q:=fun _ st'=>(arrOf st').Perm (pairsOf (v1::v2::rest))∧failedOf st'=none∧SortedTo (arrOf st') (pairsOf (v1::v2::rest)).size) hI.intKeys ⟨Array.Perm.refl _,rfl,rfl⟩ rfl (by rw [pairsOf_size];simp) fun st' q1 q2 q3=>⟨q1,q2,q3⟩) ?_ fun _ _ e=>e)
  rintro ⟨⟨⟩,st'⟩ s' ⟨rfl,hp,hf,hs⟩
  dsimp only
  refine xAd (seqEpoch_at g6 rfl (xAd (listUpdate_at g6 rfl ?_ (xBn _) ?_)))
  ·rw [hf]
   simp only [bne_self_eq_false,xAz,if_false]
   exact xAe (last st' hp hs)
  ·refine Nat.le_trans (Nat.le_of_eq ((Array.size_map ..).trans (hp.size_eq.trans (pairsOf_size _)))) ?_
   lia
theorem sorted_any {l:Addr} {vs:List Value} {ns:List Int} {Q:Value→Shared→Prop} (hl:s.heap.IsList l vs.toArray) (hI:IntsAre vs ns) (hz:vs.length≤sizeLine)
  (h:∀ (out:Array Value) (ns':List Int),IntsAre out.toList ns'→ns'.Perm ns→ns'.Pairwise (·≤·)→Q (.ref (s.heap.objs.size+1)) { s with heap:=sortedAll s.heap vs out }):wpAny (model prog w) A (call (.builtin "sorted") [.ref l]) Q E s:=by
 refine Calls.call_function_entry kind_sorted plain_sorted entry_sorted (args_sorted1 _) ?_
 unfold Builtin.«sorted»
 refine xAd (m:=checkCount "sorted" 1 1 _) (xAe (xAd (collect_list hl (xAd (wpAny_newList ?_)) hz)))
 have hsz:((s.heap.push (seqObj "list" #[] 0)).update s.heap.objs.size (Obj.mapSeq (·++vs.toArray))).objs.size=s.heap.objs.size+1:=by rw [Heap.size_update,size_push']
 have gL:(((s.heap.push (seqObj "list" #[] 0)).update s.heap.objs.size (Obj.mapSeq (·++vs.toArray))).push (seqObj "list" vs.toArray 0)).get? (s.heap.objs.size+1)=some (seqObj "list" vs.toArray 0):=by
  rw [← hsz]
  exact xAl _ rfl
 change wpAny _ _ _ _ _ { s with heap:=((s.heap.push (seqObj "list" #[] 0)).update s.heap.objs.size (Obj.mapSeq (·++vs.toArray))).push (seqObj "list" vs.toArray 0) }
 rw [hsz]
 refine xAd (wpAny_holding (wpAny_call_entry slot_list_sort ⟨_,gL,rfl⟩ entry_list_sort (tree_any gL hI hz fun out ns' q1 q2 q3=>⟨_,rfl,?_⟩) (args_list_sort _)))
 exact xAe ⟨_,rfl,h out ns' q1 q2 q3⟩
end
end Tim
namespace L2
open PySem PySem.Spec PyProof.Rows
section
variable {X:Cx}
theorem jR:CallR X (.builtin "sorted") (fun xs H Q=>∃ (p:Addr) (ns:List Int),xs=[.ref p]∧SqL X.K H p (ns.map V.int)∧∀ (l:Addr) (ns':List Int),H l=none→ns'.Perm ns→ns'.Pairwise (·≤·)→Q (.ref l) (upd H l (.lst (ns'.map V.int)))):=by
 intro pins s σ H xs us Q I r h
 obtain ⟨p,ns,rfl,hS,q⟩:=h
 obtain ⟨u,rfl,ru⟩:=vals1 r
 obtain rfl:u=Value.ref p:=ru
 obtain ⟨its,r1,t1,z1⟩:=I.list hS
 have hl:=r1.length
 rw [xAa] at z1 hl
 refine Tim.sorted_any t1.isList (cD r1) (by lia) fun out ns' q1 q2 q3=>?_
 obtain ⟨e,g⟩:=sortedAll_at s.heap its out
 have hfree:H (s.heap.objs.size+1)=none:=I.hok.fresh (Nat.le_succ _)
 refine ⟨.ref (s.heap.objs.size+1),_,I.laid (a:=s.heap.objs.size+1) (o:=.lst (ns'.map V.int)) (t':=s.toks) (fun _ _=>sortedAll_old) (Nat.le_succ _) ?_,rfl,q _ ns' hfree q2 q3⟩
 refine ⟨?_,out.toList,e,cY q1,?_⟩
 ·rw [xAa,q2.length_eq]
  exact z1
 ·rw [g,Array.toArray_toList]
end
end L2
namespace L2
open PySem PySem.Spec PyProof.Rows
section
variable {X:Cx}
theorem kq {kvs:List (Key×V)} {vs:List (Key×Value)} {ns:List Int} {P:Program} {w:World} {acc:Array Value} (rel:KV kvs vs) (hk:kvs.map (·.1)=ns.map Sum.inl)
  (hi:acc.size=vs.length) (hv:∀ (i:Nat) (v:Value),acc[i]?=some v→∃ k x,vs[i]?=some (k,x)∧(mixKind P w).is k v=true):Vals (ns.map V.int) acc.toList:=by
 have hkeys:vs.map (·.1)=ns.map Sum.inl:=by rw [← rel.keys];exact hk
 have hlen:ns.length=vs.length:=by
  have:=congrArg List.length hkeys
  rw [xAa,xAa] at this
  exact this.symm
 have gen:∀ (l:List Value) (ms:List Int),l.length=ms.length→(∀ (i:Nat) (v:Value),l[i]?=some v→∃ m t,ms[i]?=some m∧v=Value.int m t)→Vals (ms.map V.int) l:=by
  intro l
  induction l with
  | nil =>
   intro ms h _
   cases ms with
   | nil=>exact .nil
   | cons _ _=>simp at h
  | cons v l ih =>
   intro ms h q
   cases ms with
   | nil=>simp at h
   | cons m ms =>
    obtain ⟨m',t,e1,e2⟩:=q 0 v rfl
    cases e1
    exact .cons ⟨t,e2⟩ (ih ms (by simpa using h) fun i u e=>q (i+1) u e)
 refine gen acc.toList ns (by rw [xAh];lia) fun i v e=>?_
 obtain ⟨k,x,e1,e2⟩:=hv i v (by rw [← xA8];exact e)
 have e3:(vs.map (·.1))[i]?=some k:=by rw [xAw,e1];rfl
 rw [hkeys,xAw] at e3
 cases en:ns[i]? with
 | none=>rw [en] at e3;cases e3
 | some m =>
  rw [en] at e3
  cases e3
  rcases aQ (show keyIs (Sum.inl m) v=true from e2) with ⟨i',t,z1,z2⟩ | ⟨x',t,z1,z2⟩
  ·cases z1
   exact ⟨m,t,rfl,z2⟩
  ·cases z1
theorem i6 (hc:X.calm=true):CallR X (.builtin "sorted") (fun xs H Q=>∃ (d:Addr) (kvs:List (Key×V)) (ns:List Int),xs=[.ref d]∧Rd H d (.dK kvs)∧kvs.map (·.1)=ns.map Sum.inl ∧
  ∀ (l:Addr) (ns':List Int),H l=none→ns'.Perm ns→ns'.Pairwise (·≤·)→Q (.ref l) (upd H l (.lst (ns'.map V.int)))):=by
 intro pins s σ H xs us Q I r h
 obtain ⟨d,kvs,ns,rfl,hd,hk,q⟩:=h
 obtain ⟨u,rfl,ru⟩:=vals1 r
 obtain rfl:u=Value.ref d:=ru
 obtain ⟨hz,lo,vs,rel,dd⟩:=dR I.hok hd
 obtain ⟨ep,hat⟩:=dd.dictAt
 have hlv:=rel.length
 refine Calls.call_function_entry kind_sorted plain_sorted entry_sorted (args_sorted1 _) ?_
 unfold Builtin.«sorted»
 refine xAd (m:=checkCount "sorted" 1 1 _) (xAe ?_)
 refine xAd (PySem.W.kdu_collect (A:=X.A.in1) (PySem.W.kdl_dict (knd:=mixKind X.prog X.w) (kvs:=vs) (ep:=ep) lo) (I.ok.hd hc) hat (by lia) fun h' tk acc hkeep hacc=>?_)
 have va:=kq rel hk hacc.1 (fun i v e=>hacc.2 i v e)
 have hla:=va.length
 rw [xAa] at hla
 have hln:ns.length=kvs.length:=by
  have:=congrArg List.length hk
  rw [xAa,xAa] at this
  exact this.symm
 have hzl:acc.toList.length≤sizeLine:=by lia
 refine xAd (wpAny_newList ?_ hzl)
 have gL:(h'.push (seqObj "list" acc.toList.toArray 0)).get? h'.objs.size=some (seqObj "list" acc.toList.toArray 0):=xAl _ rfl
 refine xAd (wpAny_holding (wpAny_call_entry slot_list_sort ⟨_,gL,rfl⟩ entry_list_sort (Tim.tree_any gL (cD va) hzl fun out ns' q1 q2 q3=>⟨_,rfl,?_⟩) (args_list_sort _)))
 refine xAe ⟨_,rfl,?_⟩
 have keepAll:∀ b o,s.heap.get? b=some o→(sortedHeap (h'.push (seqObj "list" acc.toList.toArray 0)) h'.objs.size acc.toList out).get? b=some o:=fun b o e=>by
  have hb:=xA1 (hkeep b o e)
  rw [sortedHeap_old (xA0 hb) (by rw [size_push'];exact xCa hb)]
  exact xAf _ (hkeep b o e)
 obtain ⟨e,g⟩:=sortedHeap_at (vs:=acc.toList) (out:=out) gL
 have hfr:s.heap.get? h'.objs.size=none:=by
  cases z:s.heap.get? h'.objs.size with
  | none=>rfl
  | some o=>exact absurd (xA1 (hkeep _ _ z)) (xBo _)
 have new:ObjOk X.prog X.w (upd H h'.objs.size (.lst (ns'.map V.int))) (sortedHeap (h'.push (seqObj "list" acc.toList.toArray 0)) h'.objs.size acc.toList out) h'.objs.size (.lst (ns'.map V.int)):=by
  refine ⟨?_,out.toList,e,cY q1,?_⟩
  ·rw [xAa,q2.length_eq]
   lia
  ·rw [g,Array.toArray_toList]
 obtain ⟨hfree,I2⟩:=Inv.laidN (t':=tk) I keepAll hfr new
 exact ⟨.ref h'.objs.size,_,I2,rfl,q _ ns' hfree q2 q3⟩
end
end L2
namespace L2
open PySem PySem.Spec PyProof.Rows
structure CapsG (X:Cx) (scope:Scope) (cl:List (Str×Addr)) (ls N:List Str) (fr:List Nat):Prop where
 clos:closureFor scope X.env=pure cl
 cell:∀ y∈scope.names,y.2≠.cell
 kind:scope.kind = .function
 names:∀ y∈scope.names,y.2 = .local→scope.names.lookup y.1=some .local
 sub:∀ y c,cl.lookup y=some c→X.env.cells.lookup y=some c
 has:∀ y∈scope.names,y.2 = .free→∃ c,cl.lookup y.1=some c
 caps:∀ (j:Nat) (y:Str),N[j]?=some y→∃ k c,fr[j]?=some k∧X.N[k]?=some y∧Vis X.env.scope y∧X.env.kindOf y≠some .local∧cl.lookup y=some c∧(scope.names.lookup y=some .free)
 len:N.length=fr.length
theorem kF {prog:Program} {w:World} {A:Around} {R:Result→Shared→Prop} {s:Shared} {elt target iter:Expr} {ifs:List Expr} {scope:Scope} {pos:Pos} {it acc:Value} {env:Env} (J:Nat→Shared→Prop)
  (go:∀ n s,J n s→wpAny (model prog w) A (pyNext it) (fun r s1=>match r with
   | none=>R (.ok .next) s1
   | some v=>wpAny (model prog w) A (letOwnedTupleGo target it v) (fun _ s2=>wpAny (model prog w) A (assign target env v) (fun _ s3 =>
     wpAny (model prog w) A (forIn ifs true fun c r=>if r=true then do let ok ← isTrue c env (eval c env);pure (ForInStep.yield ok) else pure (ForInStep.yield r)) (fun ok s4 =>
      if ok=true then wpAny (model prog w) A (eval elt env) (fun x s5=>wpAny (model prog w) A (call (.builtin "list.append") [acc,x]) (fun _ s6=>∃ m,m<n∧J m s6) (notedBy (model prog w) A env fun e s'=>R (.error e) s') s5) (notedBy (model prog w) A env fun e s'=>R (.error e) s') s4
      else ∃ m,m<n∧J m s4) (notedBy (model prog w) A env fun e s'=>R (.error e) s') s3) (notedBy (model prog w) A env fun e s'=>R (.error e) s') s2) (notedBy (model prog w) A env fun e s'=>R (.error e) s') s1) (notedBy (model prog w) A env fun e s'=>R (.error e) s') s)
  (n:Nat) (h:J n s):codeAny (model prog w) A (.compLoop (.ListComp elt [⟨target,iter,ifs,0⟩] scope pos) 0 it acc env) R s:=by
 refine codeAny_loop rfl J (fun n s hJ=>?_) n h
 change wpAny _ A ((compTurn (.ListComp elt [⟨target,iter,ifs,0⟩] scope pos) 0 it acc env).onRaise (fun x=>do noteFrame x env;theTreesLotGoes x)) _ _ s
 refine wpAny_noted ?_
 rw [compTurn_list]
 refine xAd (wpAny_standAt (xAd (wpAny_mono (go n s hJ) (fun r s1 h1=>?_) fun _ _ z=>z)))
 cases r with
 | none=>exact xAe h1
 | some v =>
  refine xAd (wpAny_mono h1 (fun _ s2 h2=>?_) fun _ _ z=>z)
  refine xAd (wpAny_mono h2 (fun _ s3 h3=>xAd (wpAny_mono h3 (fun ok s4 h4=>?_) fun _ _ z=>z)) fun _ _ z=>z)
  cases ok with
  | false=>exact xAe ⟨rfl,h4⟩
  | true=>exact xAd (xAd (wpAny_mono h4 (fun x s5 h5=>xAd (wpAny_mono h5 (fun _ s6 h6=>xAe (xAe ⟨rfl,h6⟩)) fun _ _ z=>z)) fun _ _ z=>z))
def PTs (X:Cx) (ifs:List Expr) (t:TT):Prop :=
 ∀ (pins:List (Addr×Obj)) (s:Shared) (σ:St) (H:Hp) (Q:Bool→Hp→Prop),Inv X pins σ H s→t σ H Q →
  wpAny (model X.prog X.w) X.A (forIn ifs true fun c r=>if r=true then do let ok ← isTrue c X.env (eval c X.env);pure (ForInStep.yield ok) else pure (ForInStep.yield r)) (TP X pins σ Q) X.xe s
def tYes:TT:=fun _ H Q=>Q true H
theorem rW {X:Cx}:PTs X [] tYes:=fun _ _ _ H _ I h=>wpAny_tests_nil ⟨H,I,h⟩
theorem rV {X:Cx} {c:Expr} {t:TT} (h:PT X c t):PTs X [c] t:=fun pins s σ H Q I q=>wpAny_tests_one (h pins s σ H Q I q)
def tLCg (wi:TI) (m:Nat) (fr:List Nat) (g:TG) (tc:TT) (te:TE):TE:=fun σ H Q=>wi σ H fun J H1=>∀ D,H1 D=none→∃ W:Nat→Nat→List V→Hp→Prop,(∃ k,W 0 k [] (upd H1 D (.lst [])))∧∀ i k ys H,W i k ys H→H D=some (.lst ys) ∧
 ((J.stop i H∧Q (.ref D) H)∨(J.go i H∧ys.length<sizeLine∧∃ N:List V→Hp→Prop,(∀ ys' H',N ys' H'→∃ k',k'<k∧W (i+1) k' ys' H') ∧
  ∀ x H',J.yld i H x H'→g x (List.replicate m none++capV σ fr) H' fun σ2 H2=>σ2.drop m=capV σ fr∧σ2.length=m+fr.length ∧
   tc σ2 H2 fun b H3=>H3 D=some (.lst ys)∧if b=true then te σ2 H3 fun v H4=>H4 D=some (.lst ys)∧N (ys++[v]) (upd H4 D (.lst (ys++[v]))) else N ys H3))
theorem Inv.forget {X:Cx} {pins:List (Addr×Obj)} {σ σ':St} {H:Hp} {s:Shared} (I:Inv X pins σ H s) (hl:σ'.length=σ.length) (h:∀ (i:Nat) (v:V),σ'[i]?=some (some v)→σ[i]?=some (some v)):Inv X pins σ' H s :=
 ⟨I.ok,I.os,I.bare,I.base,let ⟨m,h1,h2⟩:=I.loc;⟨m,h1,fun i x v e1 e2 e3=>h2 i x v e1 (h i v e2) e3⟩,I.cell,I.free,I.freeC,I.pin,I.hok,hl.trans I.len⟩
theorem jm {m:Nat} {cs:St} {i:Nat} {v:V} (h:(List.replicate m none++cs)[i]?=some (some v)):m≤i∧cs[i - m]?=some (some v):=by
 by_cases hi:i<m
 ·rw [List.getElem?_append_left (by simpa using hi),List.getElem?_replicate,xCg hi] at h
  cases h
 ·rw [List.getElem?_append_right (by simp;lia),List.length_replicate] at h
  exact ⟨by lia,h⟩
section
variable {X:Cx} {elt tg iter:Expr} {ifs:List Expr} {pos:Pos} {scope:Scope} {cl:List (Str×Addr)} {ls N:List Str} {fr:List Nat} {wi:TI} {g:TG} {tc:TT} {te:TE}
theorem qU {pins:List (Addr×Obj)} {σ:St} {H:Hp} {s:Shared} {fp:List Addr} {C:Addr} (cp:CapsG X scope cl ls N fr) (I:Inv X pins σ H s) (hC:s.heap.objs.size≤C) (hf:∀ b∈fp,FpOk X pins H b) (hl:∀ b∈fp,b<s.heap.objs.size) :
  (cxComp X (ls++N) scope cl C s H fp).Ok where
 mod:=I.ok.mod
 kind:=cp.kind
 glob:=I.ok.glob
 blt:=I.ok.blt
 above:=hC
 inj:=fun y z c e1 e2=>I.ok.inj y z c (cp.sub y c e1) (cp.sub z c e2)
 has:=fun y h=>by
  have h':(relabel scope X.env).names.lookup y=some .cell∨(relabel scope X.env).names.lookup y=some .free:=h
  rcases h' with h' | h'
  ·obtain ⟨k0,m,z | ⟨z,_⟩⟩:=fC h'
   ·subst z
    exact absurd rfl (cp.cell _ m)
   ·subst z
    exact cp.has _ m rfl
  ·obtain ⟨k0,m,z | ⟨_,z⟩⟩:=fC h'
   ·subst z
    exact cp.has _ m rfl
   ·cases z
 cab:=fun _ _ e=>absurd e xAy
 hd:=I.ok.hd
 frames:=I.ok.frames
 stk:=.inl rfl
 exf:=fun b hb=>⟨xA0 (xBc (hl b hb) hC),fun y c e z=>(hf b hb).2.2.2.2.1 y c (cp.sub y c e) z⟩
 bs:=I.bs
 bsz:=Nat.le_trans I.ok.bsz I.sz
 noex:=fun b o e hb=>by
  have q:=hf b hb
  rcases q.2.2.2.1 with z | z
  ·exact I.ok.noex b o e z
  ·have:=xA1 (I.ok.bs b o e).1
   exact absurd (xBc this z) (xBo _)
 exfs:=fun b hb z=>by
  have q:=hf b hb
  rcases xAv.mp (I.stkSub b z) with z' | z'
  ·exact q.2.1 z'
  ·exact q.2.2.1 z'
 funs:=I.stack
 frf:=I.stkFree
theorem jN {pos':Pos} {pins:List (Addr×Obj)} {s:Shared} {σ:St} {H:Hp} {Q:VK} {use:Option (Value→Sem Unit)} {QQ:Value→Shared→Prop} (hc:X.calm=true) (cp:CapsG X scope cl ls N fr) (hi:PI X tg iter wi) (hg:∀ C s H fp,PG (cxComp X (ls++N) scope cl C s H fp) tg g) (ht:∀ C s H fp,PTs (cxComp X (ls++N) scope cl C s H fp) ifs tc) (he:∀ C s H fp,PE (cxComp X (ls++N) scope cl C s H fp) elt te)
  (hs:∀ v,foldedSetIterable iter X.env v=pure v) (I:Inv X pins σ H s) (h:tLCg wi ls.length fr g tc te σ H Q)
  (fin:∀ (B C:Addr) (H':Hp) (s4:Shared) (m:Str→Option Value),Inv X pins σ H' s4→FpOk X pins H' C→s4.heap.Ns C m→Q (.ref B) H'→compPost (model X.prog X.w) X.A X.xe use QQ (.ref B) C (.ok .next) s4) :
  wpAny (model X.prog X.w) X.A (comprehension (.ListComp elt [⟨tg,iter,ifs,0⟩] scope pos) scope X.env pos' (newList []) false (eval iter X.env) use) QQ X.xe s:=by
 refine wpAny_comprehension_free (use:=use) rfl hs cp.clos cp.kind cp.names (thn (hi pins s σ H _ I h) fun v s1 h1=>thn h1 fun itv s2 h2=>?_)
 obtain ⟨it,fp,tn,J,H2,e,I2,T,st2,f2,R⟩:=h2
 subst e
 have hfl:∀ b∈fp,b<s2.heap.objs.size:=fun b hb=>let ⟨o,e,_⟩:=T.obj _ _ st2 b hb;xA1 e
 refine xBl (wpAny_newFunctionEnv cp.cell (by intro y hy;simp at hy) (fun h1 hns1 hsb1=>?_) cp.kind)
 dsimp only at hns1 hsb1 ⊢
 generalize hG:s2.heap.push { cls:=.type "list",dict:=none,data:=.seq ([]:List Value).toArray }=G2 at hns1 hsb1 ⊢
 have hCs:G2.objs.size=s2.heap.objs.size+1:=by rw [← hG,Heap.size_push]
 have hDC:s2.heap.objs.size≠G2.objs.size:=by rw [hCs];exact xA0 (Nat.lt_succ_self _)
 have hCle:s2.heap.objs.size≤G2.objs.size:=by rw [hCs];exact Nat.le_succ _
 have old:∀ b o,s2.heap.get? b=some o→h1.get? b=some o:=fun b o e=>hsb1.extBut b o (xA0 (xBc (xA1 e) hCle)) (xAf _ (hG ▸ xAf _ e))
 have hacc:h1.get? s2.heap.objs.size=some { cls:=.type "list",dict:=none,data:=.seq ([]:List Value).toArray }:=hsb1.extBut _ _ hDC (xAf _ (hG ▸ xAl _ rfl))
 have hDn:H2 s2.heap.objs.size=none:=I2.hok.fresh (xAg _)
 have hCn:H2 G2.objs.size=none:=I2.hok.fresh hCle
 obtain ⟨W,⟨m0,w0⟩,turn⟩:=R s2.heap.objs.size hDn
 have okY:=qU (C:=G2.objs.size) cp I2 hCle f2 hfl
 have I3:Inv (cxComp X (ls++N) scope cl G2.objs.size s2 H2 fp) [] (List.replicate ls.length none++capV σ fr) (upd H2 s2.heap.objs.size (.lst [])) { s2 with heap:=h1,toks:=s2.toks+([]:List (Str×Value)).length }:=by
  refine ⟨okY,rfl,I2.bare,Un.laid old (xAg _) hDn,⟨_,hns1,fun i y v e1 e2 e3=>?_⟩,fun y c e=>?_,?_,fun y c e=>?_,(fun p hp=>nomatch hp),I2.hok.laid old (xAg _) ⟨xBn _,[],0,.nil,hacc⟩,?_⟩
  ·obtain ⟨hm,e2'⟩:=jm e2
   have e1':N[i - ls.length]?=some y:=by
    have e1'':(ls++N)[i]?=some y:=e1
    rw [List.getElem?_append_right hm] at e1''
    exact e1''
   obtain ⟨k,c,g1,g2,g3,g4,g5,g6⟩:=cp.caps _ y e1'
   have e4:σ[k]?=some (some v):=by
    unfold capV at e2'
    rw [xAw,g1] at e2'
    have e5:(σ[k]?).join=some v:=xB3 e2'
    cases z:σ[k]? with
    | none=>rw [z] at e5;cases e5
    | some o=>rw [z] at e5;exact congrArg some e5
   obtain ⟨m2,_,hl2⟩:=I2.loc
   obtain ⟨u,r,lk⟩:=hl2 k y v g2 e4 g3
   refine ⟨u,r,.inr ⟨dP g6,c,g5,?_⟩⟩
   rcases lk with ⟨lk,_⟩ | ⟨_,c',lk1,o,lk2,lk3⟩
   ·exact absurd lk g4
   ·have:=cp.sub y c g5
    rw [lk1] at this
    cases this
    exact ⟨o,old _ _ lk2,lk3⟩
  ·obtain ⟨v,o,e1,e2⟩:=I2.cell y c (cp.sub y c e)
   exact ⟨v,o,old _ _ e1,e2⟩
  ·show upd H2 s2.heap.objs.size (.lst []) G2.objs.size=none
   rw [aA (Ne.symm hDC)]
   exact hCn
  ·obtain ⟨v,o,e1,e2⟩:=I2.cell y c (cp.sub y c e)
   rw [aA (xA0 (xA1 e1))]
   exact I2.freeC y c (cp.sub y c e)
  ·change (List.replicate ls.length none++capV σ fr).length=(ls++N).length
   unfold capV
   rw [xAb,xAb,List.length_replicate,xAa,cp.len]
 have stat:∀ {H':Hp},(∀ b∈fp,H' b=none)→∀ b∈fp,FpOk (cxComp X (ls++N) scope cl G2.objs.size s2 H2 fp) [] H' b:=fun hn b hb =>
  ⟨hn b hb,xA0 (xBc (hfl b hb) hCle),okY.exfs b hb,.inl hb,(okY.exf b hb).2,fun p hp=>nomatch hp⟩
 have loop:∀ s3:Shared,s3={ s2 with heap:=h1,toks:=s2.toks+([]:List (Str×Value)).length } →
   codeAny (model X.prog X.w) X.A (.compLoop (.ListComp elt [⟨tg,iter,ifs,0⟩] scope pos) 0 (.ref it) (.ref s2.heap.objs.size) (compEnvC scope cl G2.objs.size X.env))
    (compPost (model X.prog X.w) X.A X.xe use QQ (.ref s2.heap.objs.size) G2.objs.size) s3:=by
  rintro s3 rfl
  refine kF (fun n s'=>∃ i ys H',Inv (cxComp X (ls++N) scope cl G2.objs.size s2 H2 fp) [] (List.replicate ls.length none++capV σ fr) H' s'∧tn i s'.heap∧(∀ b∈fp,H' b=none)∧W i n ys H') ?_ m0
   ⟨0,[],_,I3,T.keep _ _ _ st2 (fun b hb o e=>old b o e),fun b hb=>by rw [aA (xA0 (hfl b hb))];exact (f2 b hb).1,w0⟩
  rintro n s' ⟨i,ys,H',IY,st,frn,w'⟩
  obtain ⟨hD,hh⟩:=turn i n ys H' w'
  rcases hh with ⟨stop,q⟩ | ⟨go,hz,Nx,hN,step⟩
  ·refine wpAny_mono (T.done (cxComp X (ls++N) scope cl G2.objs.size s2 H2 fp) rfl rfl rfl hc i [] s' _ H' (fun _ _=>False) IY (stat frn) st stop) (fun r s4 h4=>?_) (fun _ _ z=>z.elim)
   obtain ⟨hr,I4⟩:=h4
   subst hr
   obtain ⟨mY,hnY,_⟩:=I4.loc
   have I5:Inv X pins σ H' s4:=Inv.call' (s:=s2) (H:=H2) (ch:=fp) I2 I4.os I4.base I4.hok I4.bare (fun b hb=>⟨(f2 b hb).2.2.2.1,(f2 b hb).2.1,(f2 b hb).2.2.2.2.1,(f2 b hb).2.2.2.2.2⟩)
   exact fin _ _ H' s4 mY I5 (I2.fpOk hCle I4.free) hnY q
  ·refine wpAny_mono (T.item (cxComp X (ls++N) scope cl G2.objs.size s2 H2 fp) rfl rfl rfl hc i [] s' _ H' (fun _ _=>False) IY (stat frn) st go) (fun r s4 h4=>?_) (fun _ _ z=>z.elim)
   obtain ⟨u,hr,h4⟩:=h4
   subst hr
   refine wpAny_mono h4 (fun _ s5 h5=>?_) (fun _ _ z=>z.elim)
   obtain ⟨xv,H5,I5,r5,y5,st5,fr5⟩:=h5
   have I5':=I5.pinned (stat fr5) (T.obj _ _ st5)
   refine wpAny_mono (hg G2.objs.size s2 H2 fp _ s5 _ H5 xv u _ I5' r5 (step xv H5 y5)) (fun _ s6 h6=>?_) (fun _ _ z=>z.elim)
   obtain ⟨σ6,H6,I6,c6,l6,t6⟩:=h6
   have back:∀ {H7:Hp} {s7:Shared},Inv (cxComp X (ls++N) scope cl G2.objs.size s2 H2 fp) ([]++pinsAt fp s5.heap) σ6 H7 s7→Inv (cxComp X (ls++N) scope cl G2.objs.size s2 H2 fp) [] (List.replicate ls.length none++capV σ fr) H7 s7∧tn (i+1) s7.heap∧∀ b∈fp,H7 b=none:=fun {H7 s7} I7=>by
    refine ⟨I7.unpinned.forget ?_ (fun j v e=>?_),T.keep _ _ _ st5 fun b hb o e=>(I7.pin (b,o) (xBt _ (xBt _ (df hb e)))).1,fun b hb=>?_⟩
    ·rw [l6,xAb,List.length_replicate]
     unfold capV
     rw [xAa]
    ·obtain ⟨hm,e'⟩:=jm e
     rw [← c6,List.getElem?_drop] at e'
     rw [show j=ls.length+(j - ls.length) by lia]
     exact e'
    ·obtain ⟨o,e,d⟩:=T.obj _ _ st5 b hb
     exact (I7.pin (b,o) (xBt _ (xBt _ (df hb e)))).2.1
   refine wpAny_mono (ht G2.objs.size s2 H2 fp _ s6 _ H6 _ I6 t6) (fun ok s7 h7=>?_) (fun _ _ z=>z.elim)
   obtain ⟨H7,I7,hD7,h7⟩:=h7
   cases ok with
   | false =>
    rw [xCf xAy] at h7 ⊢
    obtain ⟨k',hk,w8⟩:=hN _ _ h7
    obtain ⟨b1,b2,b3⟩:=back I7
    exact ⟨k',hk,i+1,ys,H7,b1,b2,b3,w8⟩
   | true =>
    rw [xCg rfl] at h7 ⊢
    refine wpAny_mono (he G2.objs.size s2 H2 fp _ s7 _ H7 _ I7 h7) (fun xv' s8 h8=>?_) (fun _ _ z=>z.elim)
    obtain ⟨v8,H8,I8,r8,hD8,n8⟩:=h8
    refine wpAny_mono (bE (X:=cxComp X (ls++N) scope cl G2.objs.size s2 H2 fp) _ s8 _ H8 (.ref s2.heap.objs.size) [v8] (.ref s2.heap.objs.size) [xv'] (fun v' H9=>H9=upd H8 s2.heap.objs.size (.lst (ys++[v8]))) I8 rfl (.cons r8 .nil) ⟨s2.heap.objs.size,ys,v8,rfl,rfl,hD8,hz,rfl⟩) (fun _ s9 h9=>?_) (fun _ _ z=>z.elim)
    obtain ⟨v9,H9,I9,_,rfl⟩:=h9
    obtain ⟨k',hk,w9⟩:=hN _ _ n8
    obtain ⟨b1,b2,b3⟩:=back I9
    exact ⟨k',hk,i+1,ys++[v8],_,b1,b2,b3,w9⟩
 exact codeAny_compStart_list (loop _ rfl) (T.self _ 0 _ _ _ (T.keep _ _ _ st2 (fun b hb o e=>old b o e)) (loop _ rfl))
theorem vW (hc:X.calm=true) (cp:CapsG X scope cl ls N fr) (hi:PI X tg iter wi) (hg:∀ C s H fp,PG (cxComp X (ls++N) scope cl C s H fp) tg g) (ht:∀ C s H fp,PTs (cxComp X (ls++N) scope cl C s H fp) ifs tc) (he:∀ C s H fp,PE (cxComp X (ls++N) scope cl C s H fp) elt te)
  (hs:∀ v,foldedSetIterable iter X.env v=pure v:=by intro _;rfl):PE X (.ListComp elt [⟨tg,iter,ifs,0⟩] scope pos) (tLCg wi ls.length fr g tc te):=by
 intro pins s σ H Q I h
 rw [eval_ListComp]
 refine jN (use:=none) (QQ:=EP X pins σ Q) hc cp hi hg ht he hs I h fun B C H' s4 m I4 f4 n4 q4=>⟨m,n4,fun h' sb=>?_⟩
 exact ⟨.ref B,H',I4.turned (t':=s4.toks) (fun b o hb e=>sb.extBut b o hb e) f4.1 f4.2.1 f4.2.2.2.1 f4.2.2.2.2.1 f4.2.2.2.2.2,rfl,q4⟩
theorem o5 {i:Nat} {y:Str} {py spos:Pos} (hN:X.N.Nodup) (hiy:X.N[i]?=some y) (hy:X.env.scope.names.lookup y=some .local) (hc:X.calm=true) (cp:CapsG X scope cl ls N fr) (hi:PI X tg iter wi) (hg:∀ C s H fp,PG (cxComp X (ls++N) scope cl C s H fp) tg g) (ht:∀ C s H fp,PTs (cxComp X (ls++N) scope cl C s H fp) ifs tc) (he:∀ C s H fp,PE (cxComp X (ls++N) scope cl C s H fp) elt te)
  (hs:∀ v,foldedSetIterable iter X.env v=pure v:=by intro _;rfl) (hsw:swapsWith (.ListComp elt [⟨tg,iter,ifs,0⟩] scope pos) (some (.Name y py)) spos.line X.env=pure true:=by rfl) :
  PS X (.Assign [.Name y py] (.ListComp elt [⟨tg,iter,ifs,0⟩] scope pos) spos) (tAsg (tLCg wi ls.length fr g tc te) (gName i)):=by
 intro pins s σ H D I h
 rw [exec_Assign_Name_used _ _ _ _ hsw]
 refine xAd (wpAny_standAt (xAd ?_))
 change wpAny _ X.A (do let _ ← comprehension (.ListComp elt [⟨tg,iter,ifs,0⟩] scope pos) scope X.env _ (newList []) false (eval iter X.env) (some (assign (.Name y py) X.env))) _ _ s
 refine xAd (wpAny_mono (jN (use:=some (assign (.Name y py) X.env)) (QQ:=fun _ s'=>SP X pins D .next s') hc cp hi hg ht he hs I h fun B C H' s4 m I4 f4 n4 q4=>?_) (fun _ s' z=>xAe (xAe z)) fun _ _ z=>z)
 change wpAny _ X.A (assign (.Name y py) X.env (.ref B)) _ _ _
 refine wpAny_assign_Name (gQ I4 hN hiy (.inl hy) (v:=.ref B) rfl (fun s5 I5 ⟨a,sb5,ha⟩=>?_) (.inr hy))
 have aC:C≠a:=by
  rcases ha with ha | ha
  ·rw [ha];exact f4.2.1
  ·exact fun z=>f4.2.2.2.2.1 _ _ ha z.symm
 refine ⟨m,n4.sameBut sb5 aC,fun h' sb=>⟨_,H',?_,q4⟩⟩
 exact I5.turned (t':=s5.toks) (fun b o hb e=>sb.extBut b o hb e) f4.1 f4.2.1 f4.2.2.2.1 f4.2.2.2.2.1 f4.2.2.2.2.2
end
structure CapOne (X:Cx) (scope:Scope) (cl:List (Str×Addr)) (y:Str) (k:Nat):Prop where
 ex:∃ c,cl.lookup y=some c∧X.env.cells.lookup y=some c
 at':X.N[k]?=some y
 cell:X.env.scope.names.lookup y=some .cell
 free:scope.names.lookup y=some .free
theorem gq {α:Type} {y:Str} {c:α}:∀ {l:List (Str×α)},l.lookup y=some c→(y,c)∈l
 | [],h=>by simp at h
 | (z,d)::r,h=>by
  rw [List.lookup_cons] at h
  by_cases e:y == z
  ·rw [e] at h
   cases xB3 h
   rw [eq_of_beq e]
   exact xAr
  ·rw [Bool.eq_false_iff.mpr e] at h
   exact xAs _ (gq h)
theorem CapsG.mk' {X:Cx} {scope:Scope} {cl:List (Str×Addr)} {ls N:List Str} {fr:List Nat} (clos:closureFor scope X.env=pure cl) (cell:∀ y∈scope.names,y.2≠.cell) (kind:scope.kind = .function)
  (names:∀ y∈scope.names,y.2 = .local→scope.names.lookup y.1=some .local) (h:Paired (CapOne X scope cl) N fr) (has:∀ y∈scope.names,y.2 = .free→y.1∈N) (hk:cl.map (·.1)=N):CapsG X scope cl ls N fr:=by
 have get:∀ {N:List Str} {fr:List Nat},Paired (CapOne X scope cl) N fr→∀ (j:Nat) (y:Str),N[j]?=some y→∃ k,fr[j]?=some k∧CapOne X scope cl y k:=by
  intro N fr h
  induction h with
  | nil=>intro j y e;simp at e
  | cons hd tl ih =>
   intro j y e
   cases j with
   | zero=>simp at e;subst e;exact ⟨_,rfl,hd⟩
   | succ j=>exact ih j y (by simpa using e)
 have mem:∀ y∈N,∃ k,CapOne X scope cl y k:=fun y hy=>by
  obtain ⟨j,e⟩:=xB8.mp hy
  obtain ⟨k,_,c⟩:=get h j y e
  exact ⟨k,c⟩
 refine ⟨clos,cell,kind,names,fun y c e=>?_,fun y hy e=>?_,fun j y e=>?_,h.length⟩
 ·have hy:y∈N:=by
   rw [← hk]
   have:=gq e
   exact xA2.mpr ⟨_,this,rfl⟩
  obtain ⟨k,⟨c',e1,e2⟩,_⟩:=mem y hy
  rw [e] at e1
  cases e1
  exact e2
 ·obtain ⟨k,⟨c',e1,e2⟩,_⟩:=mem _ (has y hy e)
  exact ⟨c',e1⟩
 ·obtain ⟨k,e1,⟨c,e2,e3⟩,g1,g2,g3⟩:=get h j y e
  refine ⟨k,c,e1,g1,.inr (.inl g2),fun q=>?_,e2,g3⟩
  have q':X.env.scope.names.lookup y=some .local:=q
  rw [g2] at q'
  cases q'
end L2
namespace L2
open PySem PySem.Spec PyProof.Rows
inductive D where
 | int (i:Int) | str (x:Str) | bl (b:Bool) | non | tup (ds:List D)
mutual
def Rp (H:Hp):D→V→Prop
 | .int i,v=>v = .int i
 | .str x,v=>v = .str x
 | .bl b,v=>v = .bl b
 | .non,v=>v = .non
 | .tup ds,v=>∃ p vs,v = .ref p∧H p=some (.tup vs)∧Rps H ds vs
def Rps (H:Hp):List D→List V→Prop
 | [],vs=>vs=[]
 | d::ds,vs=>∃ v r,vs=v::r∧Rp H d v∧Rps H ds r
end
def TLe (H H':Hp):Prop:=∀ p xs,H p=some (.tup xs)→H' p=some (.tup xs)
theorem TLe.refl {H:Hp}:TLe H H:=fun _ _ e=>e
theorem TLe.trans {H H1 H2:Hp} (a:TLe H H1) (b:TLe H1 H2):TLe H H2:=fun p xs e=>b p xs (a p xs e)
theorem TLe.of {H H':Hp} (s:Same H H'):TLe H H':=fun p xs e=>s p _ e
mutual
theorem Rp.le {H H':Hp} (s:TLe H H'):∀ {d:D} {v:V},Rp H d v→Rp H' d v
 | .int _,_,h=>h
 | .str _,_,h=>h
 | .bl _,_,h=>h
 | .non,_,h=>h
 | .tup _,_,h=>by
  obtain ⟨p,vs,e,hp,hs⟩:=h
  exact ⟨p,vs,e,s _ _ hp,Rps.le s hs⟩
theorem Rps.le {H H':Hp} (s:TLe H H'):∀ {ds:List D} {vs:List V},Rps H ds vs→Rps H' ds vs
 | [],_,h=>h
 | _::_,_,h=>by
  obtain ⟨v,r,e,h1,h2⟩:=h
  exact ⟨v,r,e,Rp.le s h1,Rps.le s h2⟩
end
theorem Rp.mono {H H':Hp} {d:D} {v:V} (h:Rp H d v) (s:Same H H'):Rp H' d v:=h.le (.of s)
theorem Rps.mono {H H':Hp} {ds:List D} {vs:List V} (h:Rps H ds vs) (s:Same H H'):Rps H' ds vs:=h.le (.of s)
theorem Rps.length {H:Hp}:∀ {ds:List D} {vs:List V},Rps H ds vs→vs.length=ds.length
 | [],_,h=>by rw [show _=[] from h];rfl
 | _::_,_,h=>by
  obtain ⟨v,r,e,_,h2⟩:=h
  rw [e,xAo,Rps.length h2,xAo]
theorem Rps.get {H:Hp}:∀ {ds:List D} {vs:List V},Rps H ds vs→∀ {i:Nat} {d:D},ds[i]?=some d→∃ v,vs[i]?=some v∧Rp H d v
 | [],_,_,_,_,e=>by simp at e
 | d::ds,_,h,i,d',e=>by
  obtain ⟨v,r,rfl,h1,h2⟩:=h
  cases i with
  | zero=>simp at e;subst e;exact ⟨v,rfl,h1⟩
  | succ i=>exact Rps.get h2 (by simpa using e)
theorem Rps.get' {H:Hp} {ds:List D} {vs:List V} (h:Rps H ds vs) {i:Nat} {v:V} (e:vs[i]?=some v):∃ d,ds[i]?=some d∧Rp H d v:=by
 have hi:i<vs.length:=(xAq.mp e).1
 have hl:=h.length
 obtain ⟨v',e',r⟩:=h.get (i:=i) (xAk (by lia))
 rw [e] at e'
 cases e'
 exact ⟨_,xAk (by lia),r⟩
theorem Rps.app {H:Hp}:∀ {ds es:List D} {vs us:List V},Rps H ds vs→Rps H es us→Rps H (ds++es) (vs++us)
 | [],_,_,_,h,g=>by rw [show _=[] from h];exact g
 | _::_,_,_,_,h,g=>by
  obtain ⟨v,r,rfl,h1,h2⟩:=h
  exact ⟨v,r++_,rfl,h1,Rps.app h2 g⟩
theorem Rps.one {H:Hp} {d:D} {v:V} (h:Rp H d v):Rps H [d] [v]:=⟨v,[],rfl,h,rfl⟩
theorem Rps.snoc {H:Hp} {ds:List D} {d:D} {vs:List V} {v:V} (h:Rps H ds vs) (g:Rp H d v):Rps H (ds++[d]) (vs++[v]):=h.app (.one g)
theorem Rps.ints {H:Hp}:∀ {ns:List Int} {vs:List V},Rps H (ns.map D.int) vs→vs=ns.map V.int
 | [],_,h=>h
 | _::_,_,h=>by
  obtain ⟨v,r,rfl,h1,h2⟩:=h
  rw [show v=_ from h1,Rps.ints h2]
  rfl
theorem Rps.ofInts {H:Hp}:∀ (ns:List Int),Rps H (ns.map D.int) (ns.map V.int)
 | []=>rfl
 | n::ns=>⟨.int n,ns.map V.int,rfl,rfl,Rps.ofInts ns⟩
def LD (H:Hp) (l:Addr) (ds:List D):Prop:=∃ vs,H l=some (.lst vs)∧Rps H ds vs
theorem LD.mono {H H':Hp} {l:Addr} {ds:List D} (h:LD H l ds) (s:Same H H'):LD H' l ds:=let ⟨vs,e,r⟩:=h;⟨vs,s _ _ e,r.mono s⟩
def NoT (fp:List Addr) (H:Hp):Prop:=∀ a∈fp,∀ xs,H a≠some (.tup xs)
theorem Kept.tle {H H':Hp} {fp:List Addr} (k:Kept fp H H') (n:NoT fp H):TLe H H':=fun p xs e=>k p _ e fun z=>n p z xs e
theorem TLe.upd {H:Hp} {a:Addr} {o:HO} (h:∀ xs,H a≠some (.tup xs)):TLe H (upd H a o):=fun p xs e=>by
 have:p≠a:=fun z=>h xs (by rw [← z];exact e)
 rw [aA this]
 exact e
section
variable {X:Cx}
def rAlL (b:Bool):R2:=fun x y H Q=>∃ p q xs ys n,x = .ref p∧y = .ref q∧H p=some (.lst xs)∧H q=some (.lst ys)∧xs.length=ys.length∧n≤30∧(∀ (j:Nat) (x y:V),xs[j]?=some x→ys[j]?=some y→Al H n x y)∧Q (.bl b) H
theorem pG (hu:X.A.units+40<cLine):OpR X (compareOp .NotEq) (rAlL false):=by
 intro pins s σ H x y v u Q I rx ry h
 obtain ⟨a,b,xs,ys,n,rfl,rfl,ea,eb,el,hn,al,q⟩:=h
 cases (show v=Value.ref a from rx)
 cases (show u=Value.ref b from ry)
 obtain ⟨_,its,n1,q1,t1⟩:=(show ObjOk X.prog X.w H s.heap a (.lst xs) from I.hok a _ ea)
 obtain ⟨_,its2,n2,q2,t2⟩:=(show ObjOk X.prog X.w H s.heap b (.lst ys) from I.hok b _ eb)
 have he:∀ j (h1:j<its.toArray.size) (h2:j<its2.toArray.size),SeqAt.EqAt X.A.in1 s its.toArray[j] its2.toArray[j] ((fun _=>true) j):=fun j j1 j2=>by
  obtain ⟨x1,e1,g1⟩:=dG q1 j1
  obtain ⟨y1,e2,g2⟩:=dG q2 j2
  exact ub I.hok (al j x1 y1 e1 e2) g1 g2 (by show X.A.units+1+n<cLine;lia)
 have es:its.toArray.size=its2.toArray.size:=by rw [xAp,xAp,← q1.length,← q2.length,el]
 refine (SeqAt.RcNeAt.lists (e:=fun _=>true) ⟨_,t1,rfl,_,rfl⟩ ⟨_,t2,rfl,_,rfl⟩ es (by lia) he) X.prog X.w X.xe _ ?_
 refine aI I q ?_
 simp
end
end L2
namespace L2
open PySem PySem.Spec PyProof.Rows
def nNewT (xs:List V) (H:Hp) (Q:VK):Prop:=xs.length≤sizeLine∧∀ p,H p=none→Q (.ref p) (upd H p (.tup xs))
def nNewL (xs:List V) (H:Hp) (Q:VK):Prop:=xs.length≤sizeLine∧∀ p,H p=none→Q (.ref p) (upd H p (.lst xs))
def cLen (K:xFr):List V→Hp→VK→Prop:=fun xs H Q=>∃ x n,xs=[x]∧LenV K x H n∧Q (.int n) H
def cLenD:List V→Hp→VK→Prop:=fun xs H Q=>∃ a kvs,xs=[V.ref a]∧H a=some (.dK kvs)∧Q (.int kvs.length) H
def cList (K:xFr):List V→Hp→VK→Prop:=fun xs H Q=>∃ p ys,xs=[.ref p]∧(SqL K H p ys∨SqT K H p ys)∧∀ l,H l=none→Q (.ref l) (upd H l (.lst ys))
def cTuple (K:xFr):List V→Hp→VK→Prop:=fun xs H Q=>∃ p ys,xs=[.ref p]∧((SqL K H p ys∧∀ l,H l=none→Q (.ref l) (upd H l (.tup ys)))∨(SqT K H p ys∧Q (.ref p) H))
def cSorted (K:xFr):List V→Hp→VK→Prop:=fun xs H Q=>∃ (p:Addr) (ns:List Int),xs=[.ref p]∧SqL K H p (ns.map V.int)∧∀ (l:Addr) (ns':List Int),H l=none→ns'.Perm ns→ns'.Pairwise (·≤·)→Q (.ref l) (upd H l (.lst (ns'.map V.int)))
def cMax2:List V→Hp→VK→Prop:=fun xs H Q=>∃ i j,xs=[.int i,.int j]∧Q (.int (if j > i then j else i)) H
def cInt1:List V→Hp→VK→Prop:=fun xs H Q=>(∃ i,xs=[.int i]∧Q (.int i) H)∨∃ k,xs=[.bl k]∧Q (.int (if k then 1 else 0)) H
section
variable {X:Cx}
theorem qT:CallR X (.builtin "len") (cLen X.K):=qW
theorem tZ:CallR X (.builtin "len") cLenD:=nU
theorem tX:CallR X (.type "list") (cList X.K):=i7
theorem qQ:CallR X (.type "tuple") (cTuple X.K):=gO
theorem nQ:CallR X (.builtin "sorted") (cSorted X.K):=jR
theorem tV (hc:X.calm=true):CallR X (.builtin "max") cMax2:=nT hc
theorem t8:CallR X (.type "int") cInt1:=nV
end
def nIsN:R2:=fun x y H Q=>y = .non∧Q (.bl (decide (x = .non))) H
theorem ki {X:Cx}:OpR X (compareOp .Is) nIsN:=wj
def nNotN:R2:=fun x y H Q=>y = .non∧Q (.bl (!decide (x = .non))) H
theorem sv {X:Cx}:OpR X (compareOp .IsNot) nNotN:=sG
def nDGet (x y:V) (H:Hp) (Q:VK):Prop:=∃ a v,x = .ref a∧DGet H a y (some v)∧Q v H
def nDIn (neg:Bool) (x y:V) (H:Hp) (Q:VK):Prop:=∃ a o,x = .ref a∧DGet H a y o∧Q (.bl (if neg then !o.isSome else o.isSome)) H
def nDPut (x y v:V) (H:Hp) (Q:Hp→Prop):Prop:=∃ a H4,x = .ref a∧DPut H a y v H4∧Q H4
def nBM (K:xFr) (T:String) (r:V→List V→Hp→VK→Prop) (t:TA) (x:V) (σ:St) (H:Hp) (Q:VK):Prop:=tyV K T x H∧t σ H fun xs H2=>r x xs H2 Q
def nBM0 (K:xFr) (T:String) (r:V→List V→Hp→VK→Prop) (x:V) (H:Hp) (Q:VK):Prop:=tyV K T x H∧r x [] H Q
section
variable {t u:TS} {te ta tb tv:TE} {tt:TT} {tas:TA} {g:TG} {Dn:Ends} {σ:St} {H:Hp} {Q:VK} {QB:Bool→Hp→Prop} {QA:List V→Hp→Prop} {QS:St→Hp→Prop} {K:xFr} {x y:V} {p a:Addr} {xs ys:List V}
theorem uj (h:t { Dn with nx:=u Dn } σ H):tSeq t u Dn σ H:=h
theorem ke (h:Dn.nx σ H):tNext Dn σ H:=h
theorem oQ (h:te σ H fun x H1=>g x σ H1 Dn.nx):tAsg te g Dn σ H:=h
theorem kf {i:Nat} {v:V} (h:QS (σ.set i (some v)) H):gName i v σ H QS:=h
theorem vk {n:Nat} {tg:TGs} (e:H p=some (.tup xs)) (hn:xs.length=n) (h:tg xs σ H QS):gTup K n tg (.ref p) σ H QS:=⟨p,xs,rfl,.of e,hn,h⟩
theorem rL {tg:TG} {tgs:TGs} (h:tg x σ H fun σ' H'=>tgs xs σ' H' QS):gCons tg tgs (x::xs) σ H QS:=⟨x,xs,rfl,h⟩
theorem vo (h:QS σ H):gNil [] σ H QS:=⟨rfl,h⟩
theorem xk (h:te σ H Dn.rt):tRet te Dn σ H:=h
theorem vv (h:te σ H fun _ H1=>Dn.nx σ H1):tDrop te Dn σ H:=h
theorem xt (h:tt σ H fun b H1=>if b=true then t Dn σ H1 else u Dn σ H1):tIfS tt t u Dn σ H:=h
theorem uS (h:te σ H fun x H'=>∃ k,x=V.bl k∧QB k H'):tTest te σ H QB:=h
theorem rA (h:te σ H fun x H'=>∃ k,x=V.bl k∧QB k H'):tB te σ H QB:=h
theorem yD {k:Bool} {QK:Bool→Prop} (h:QK k):∃ k',V.bl k=V.bl k'∧QK k':=⟨k,rfl,h⟩
theorem yq {r:R2} (h:ta σ H fun x H1=>tb σ H1 fun y H2=>r x y H2 Q):tOp r ta tb σ H Q:=h
theorem yo {r:V→Hp→VK→Prop} (h:ta σ H fun x H1=>r x H1 Q):tUn r ta σ H Q:=h
theorem ui {i:Nat} {v:V} (e:σ[i]?=some (some v)) (h:Q v H):tVar i σ H Q:=⟨v,e,h⟩
theorem r_c {v:V} (h:Q v H):tC v σ H Q:=h
theorem yF {f:Int→Int→V} {i j:Int} (h:Q (f i j) H):rI0 f (.int i) (.int j) H Q:=⟨i,j,rfl,rfl,h⟩
theorem r_I {C:Int→Int→Prop} {f:Int→Int→V} {i j:Int} (c:C i j) (h:Q (f i j) H):rI C f (.int i) (.int j) H Q:=⟨i,j,rfl,rfl,c,h⟩
theorem r_U {f:Int→V} {i:Int} (h:Q (f i) H):rU f (.int i) H Q:=⟨i,rfl,h⟩
theorem xz {i j:Int} (h:Q (.bl (decide (i=j))) H):rEq (.int i) (.int j) H Q:=⟨rfl,by rw [show decide (V.int i=V.int j)=decide (i=j) from by simp];exact h⟩
theorem xy {x y:Str} (h:Q (.bl (decide (x=y))) H):rEq (.str x) (.str y) H Q:=⟨rfl,by rw [show decide (V.str x=V.str y)=decide (x=y) from by simp];exact h⟩
theorem xn {i j:Int} (h:Q (.bl (!decide (i=j))) H):rNe (.int i) (.int j) H Q:=⟨rfl,by rw [show decide (V.int i=V.int j)=decide (i=j) from by simp];exact h⟩
theorem xp (h:Q (.bl (decide (x = .non))) H):nIsN x .non H Q:=⟨rfl,h⟩
theorem uV (h:Q (.bl (!decide (x = .non))) H):nNotN x .non H Q:=⟨rfl,h⟩
theorem cH {i:Int} {v:V} (e:H p=some (.tup xs)) (at':atI xs i=some v) (h:Q v H):rIxT K (.ref p) (.int i) H Q:=⟨p,xs,i,v,rfl,rfl,.of e,at',h⟩
theorem gW {i:Int} {v:V} (e:H p=some (.lst xs)) (at':atI xs i=some v) (h:Q v H):rIxL K (.ref p) (.int i) H Q:=⟨p,xs,i,v,rfl,rfl,.of e,at',h⟩
theorem oO (e:H p=some (.lst xs)) (f:flatV x=true) (fs:xs.all flatV=true) (h:Q (.bl (inV x xs)) H):rIn K false x (.ref p) H Q:=⟨p,xs,rfl,.inl (.of e),f,fs,h⟩
theorem uW (e:H p=some (.lst xs)) (f:flatV x=true) (fs:xs.all flatV=true) (h:Q (.bl (!inV x xs)) H):rIn K true x (.ref p) H Q:=⟨p,xs,rfl,.inl (.of e),f,fs,h⟩
theorem oG (h:QA [] H):tNil σ H QA:=h
theorem vD (h:te σ H fun x H1=>tas σ H1 fun xs H2=>QA (x::xs) H2):tCons te tas σ H QA:=h
theorem xm (h:tt σ H fun c H1=>QB (!c) H1):tNot tt σ H QB:=h
theorem xD {tt':TT} (h:tt σ H fun c H1=>if c=true then tt' σ H1 QB else QB false H1):tAnd tt tt' σ H QB:=h
theorem yp {tt':TT} (h:tt σ H fun c H1=>if c=true then QB true H1 else tt' σ H1 QB):tOr tt tt' σ H QB:=h
theorem xi (h:QB true H):tYes σ H QB:=h
theorem vE {sp:Sp} {dvs:List V} {E:XK} (h:tas σ H fun vs H1=>sp (vs++dvs) H1 Q E):tCall sp dvs E tas σ H Q:=h
theorem yB {r:List V→Hp→VK→Prop} (h:tas σ H fun vs H1=>r vs H1 Q):tCB r tas σ H Q:=h
theorem xj (h:tas σ H fun xs H1=>nNewT xs H1 Q):tTup tas σ H Q:=h
theorem xo (h:tas σ H fun xs H1=>nNewL xs H1 Q):tLst tas σ H Q:=h
theorem az (h:∀ p H2,Same H H2→H p=none→H2 p=some (.tup xs)→Q (.ref p) H2) (hl:xs.length≤1000:=by first | decide | simp):nNewT xs H Q:=⟨small hl,fun p hp=>h p _ (aw hp _) hp ah⟩
theorem aq (h:∀ p H2,Same H H2→H p=none→H2 p=some (.lst xs)→Q (.ref p) H2) (hl:xs.length≤1000:=by first | decide | simp):nNewL xs H Q:=⟨small hl,fun p hp=>h p _ (aw hp _) hp ah⟩
theorem vh (e:H p=some (.lst ys)) (h:Q (.int ys.length) H):cLen K [.ref p] H Q:=⟨_,_,rfl,.inl ⟨ys,.of e,rfl⟩,h⟩
theorem rE (e:SqL K H p ys) (h:Q (.int ys.length) H):cLen K [.ref p] H Q:=⟨_,_,rfl,.inl ⟨ys,e,rfl⟩,h⟩
theorem vf (e:H p=some (.tup ys)) (h:Q (.int ys.length) H):cLen K [.ref p] H Q:=⟨_,_,rfl,.inr ⟨ys,.of e,rfl⟩,h⟩
theorem rD (e:H p=some (.lst ys)) (h:∀ l H2,Same H H2→H l=none→H2 l=some (.lst ys)→Q (.ref l) H2):cList K [.ref p] H Q:=⟨p,ys,rfl,.inl (.of e),fun l hl=>h l _ (aw hl _) hl ah⟩
theorem b8 (e:H p=some (.tup ys)) (h:∀ l H2,Same H H2→H l=none→H2 l=some (.lst ys)→Q (.ref l) H2):cList K [.ref p] H Q:=⟨p,ys,rfl,.inr (.of e),fun l hl=>h l _ (aw hl _) hl ah⟩
theorem cg (e:H p=some (.lst ys)) (h:∀ l H2,Same H H2→H l=none→H2 l=some (.tup ys)→Q (.ref l) H2):cTuple K [.ref p] H Q:=⟨p,ys,rfl,.inl ⟨.of e,fun l hl=>h l _ (aw hl _) hl ah⟩⟩
theorem gf {ns:List Int} (e:H p=some (.lst (ns.map V.int))) (h:∀ (l:Addr) (ns':List Int) (H2:Hp),Same H H2→H l=none→H2 l=some (.lst (ns'.map V.int))→ns'.Perm ns→ns'.Pairwise (·≤·)→Q (.ref l) H2):cSorted K [.ref p] H Q :=
 ⟨p,ns,rfl,.of e,fun l ns' hl h1 h2=>h l ns' _ (aw hl _) hl ah h1 h2⟩
theorem ve {i j:Int} (h:Q (.int (if j > i then j else i)) H):cMax2 [.int i,.int j] H Q:=⟨i,j,rfl,h⟩
theorem vj {k:Bool} (h:Q (.int (if k then 1 else 0)) H):cInt1 [.bl k] H Q:=.inr ⟨k,rfl,h⟩
theorem vC (h:ta σ H fun x H1=>tb σ H1 fun y H2=>nDGet x y H2 Q):tDGet ta tb σ H Q:=h
theorem bv {kvs:List (Key×V)} {k:Str} {v:V} (e:H a=some (.dK kvs)) (hv:valV kvs (.inr k)=some v) (h:Q v H):nDGet (.ref a) (.str k) H Q:=⟨a,v,rfl,.inl ⟨kvs,.inr k,.inl e,rfl,hv.symm⟩,h⟩
theorem bB {kvs:List (Key×V)} {k:Int} {v:V} (e:H a=some (.dK kvs)) (hv:valV kvs (.inl k)=some v) (h:Q v H):nDGet (.ref a) (.int k) H Q:=⟨a,v,rfl,.inl ⟨kvs,.inl k,.inl e,rfl,hv.symm⟩,h⟩
theorem xA (h:tb σ H fun y H1=>ta σ H1 fun x H2=>nDIn false x y H2 Q):tDIn tb ta σ H Q:=h
theorem vA (h:tb σ H fun y H1=>ta σ H1 fun x H2=>nDIn true x y H2 Q):tDNotIn tb ta σ H Q:=h
theorem oP {neg:Bool} {kvs:List (Key×V)} {k:Int} (e:H a=some (.dK kvs)) (h:Q (.bl (if neg then !(valV kvs (.inl k)).isSome else (valV kvs (.inl k)).isSome)) H):nDIn neg (.ref a) (.int k) H Q:=⟨a,_,rfl,.inl ⟨kvs,.inl k,.inl e,rfl,rfl⟩,h⟩
theorem vw (h:tv σ H fun v H1=>ta σ H1 fun x H2=>tb σ H2 fun y H3=>nDPut x y v H3 fun H4=>Dn.nx σ H4):sDPut ta tb tv Dn σ H:=h
theorem dH {QH:Hp→Prop} {kvs:List (Key×V)} {k:Str} (e:H a=some (.dK kvs)) (hl:kvs.length≤1000) (h:QH (upd H a (.dK (putK kvs (.inr k) x)))):nDPut (.ref a) (.str k) x H QH:=⟨a,_,rfl,.inl ⟨kvs,.inr k,e,rfl,small1000 hl,rfl⟩,h⟩
theorem cJ {QH:Hp→Prop} {kvs:List (Key×V)} {k:Int} (e:H a=some (.dK kvs)) (hl:kvs.length<sizeLine) (h:QH (upd H a (.dK (putK kvs (.inl k) x)))):nDPut (.ref a) (.int k) x H QH:=⟨a,_,rfl,.inl ⟨kvs,.inl k,e,rfl,hl,rfl⟩,h⟩
theorem eV (h:∀ p H2,Same H H2→H p=none→H2 p=some (.dK [])→Q (.ref p) H2):tDNewK σ H Q:=fun p hp=>h p _ (aw hp _) hp ah
variable {r:V→List V→Hp→VK→Prop} {T:String}
theorem yC {to:TE} (h:to σ H fun x H1=>nBM K T r tas x σ H1 Q):tBM K T r to tas σ H Q:=h
theorem xC {to:TE} (h:to σ H fun x H1=>nBM0 K T r x H1 Q):tBM0 K T r to σ H Q:=h
theorem xB (e:H p=some (.lst xs)) (h:tas σ H fun ys H2=>r (.ref p) ys H2 Q):nBM K "list" r tas (.ref p) σ H Q:=⟨.inl ⟨rfl,_,.of e⟩,h⟩
theorem cj (e:H p=some (.lst xs)) (hl:xs.length<sizeLine) (h:Q .non (upd H p (.lst (xs++[y])))):rAppend (.ref p) [y] H Q:=⟨p,xs,y,rfl,rfl,e,hl,h⟩
theorem jg {b:Addr} (e:H p=some (.lst xs)) (e2:H b=some (.lst ys)) (hl:xs.length+ys.length≤sizeLine) (h:Q .non (upd H p (.lst (xs++ys)))):rExtend (.ref p) [.ref b] H Q:=⟨p,b,xs,ys,rfl,rfl,e,e2,hl,h⟩
theorem di {b:Addr} (e:H p=some (.lst xs)) (e2:H b=some (.lst ys)) (hl:xs.length+ys.length≤sizeLine) (h:∀ l H2,Same H H2→H l=none→H2 l=some (.lst (xs++ys))→Q (.ref l) H2):rCat (.ref p) (.ref b) H Q :=
 ⟨p,b,xs,ys,rfl,rfl,e,e2,hl,fun l hl=>h l _ (aw hl _) hl ah⟩
theorem ka {A B:Prop} {b:Bool} (e:b=true) (h:A):if b=true then A else B:=by rw [xCg e];exact h
theorem bj {A B:Prop} {b:Bool} (e:b=false) (h:B):if b=true then A else B:=by rw [e,xCf xAy];exact h
end
structure Wk (J:It) (P:Hp→Prop) (n:Nat) (Y:Nat→Hp→V→Hp→Prop):Prop where
 go:∀ i H,P H→i<n→J.go i H
 yld:∀ i H x H',P H→i<n→J.yld i H x H'→Y i H x H'
 stop:∀ H,P H→J.stop n H
theorem aS {K:xFr} {a:Addr} {xs:List V}:Wk (Itl K a) (fun H=>SqL K H a xs) xs.length (fun i H x H'=>H'=H∧xs[i]?=some x) :=
 ⟨fun i H p h=>⟨xs,xs[i],p,by simp [h]⟩,fun i H x H' p h y=>⟨y.1,y.2 xs p⟩,fun H p=>⟨xs,p,xAg _⟩⟩
theorem bG {K:xFr} {a:Addr} {xs:List V}:Wk (Itt K a) (fun H=>SqT K H a xs) xs.length (fun i H x H'=>H'=H∧xs[i]?=some x) :=
 ⟨fun i H p h=>⟨xs,xs[i],p,by simp [h]⟩,fun i H x H' p h y=>⟨y.1,y.2 xs p⟩,fun H p=>⟨xs,p,xAg _⟩⟩
theorem dk {lo:Int} {n:Nat}:Wk (Itr lo n) (fun _=>True) n (fun i H x H'=>H'=H∧x = .int (lo+i)) :=
 ⟨fun i H _ h=>h,fun i H x H' _ h y=>y,fun H _=>xAg _⟩
section
variable {J:It} {P:Hp→Prop} {n:Nat} {Y:Nat→Hp→V→Hp→Prop} {g:TG} {tb:TS} {Dn:Ends} {σ:St} {H:Hp}
def nFor (J:It) (g:TG) (tb:TS) (Dn:Ends) (σ:St) (H:Hp):Prop:=∃ W:Nat→Nat→St→Hp→Prop,(∃ m,W 0 m σ H)∧∀ i m σ H,W i m σ H →
 (J.stop i H∧Dn.nx σ H)∨(J.go i H∧∃ N:St→Hp→Prop,(∀ σ' H',N σ' H'→∃ m',m'<m∧W (i+1) m' σ' H')∧∀ x H',J.yld i H x H'→g x σ H' fun σ2 H2=>tb { Dn with nx:=N,ct:=N,bk:=Dn.nx } σ2 H2)
theorem xw {wi:TI} (h:wi σ H fun J H1=>nFor J g tb Dn σ H1):tFor wi g tb Dn σ H:=h
theorem wZ (wk:Wk J P n Y) (Pv:Nat→St→Hp→Prop) (h0:Pv 0 σ H) (hP:∀ i σ H,i≤n→Pv i σ H→P H)
  (hs:∀ i σ H x H',i<n→Pv i σ H→Y i H x H'→g x σ H' fun σ2 H2=>tb { Dn with nx:=Pv (i+1),ct:=Pv (i+1),bk:=Dn.nx } σ2 H2) (hd:∀ σ H,Pv n σ H→Dn.nx σ H):nFor J g tb Dn σ H:=by
 refine ⟨fun i m σ H=>m=n - i∧i≤n∧Pv i σ H,⟨n,by simp,xBn _,h0⟩,?_⟩
 rintro i m σ H ⟨rfl,hi,p⟩
 have q:=hP i σ H hi p
 by_cases hlt:i<n
 ·exact .inr ⟨wk.go i H q hlt,Pv (i+1),fun σ' H' p'=>⟨n - (i+1),by lia,rfl,hlt,p'⟩,fun x H' y=>hs i σ H x H' hlt p (wk.yld i H x H' q hlt y)⟩
 ·have e:i=n:=by lia
  subst e
  exact .inl ⟨wk.stop H q,hd σ H p⟩
def nLC (J:It) (m:Nat) (cs:St) (g:TG) (tc:TT) (te:TE) (H:Hp) (Q:VK):Prop:=∀ D,H D=none→∃ W:Nat→Nat→List V→Hp→Prop,(∃ k,W 0 k [] (upd H D (.lst [])))∧∀ i k ys H,W i k ys H→H D=some (.lst ys) ∧
 ((J.stop i H∧Q (.ref D) H)∨(J.go i H∧ys.length<sizeLine∧∃ N:List V→Hp→Prop,(∀ ys' H',N ys' H'→∃ k',k'<k∧W (i+1) k' ys' H') ∧
  ∀ x H',J.yld i H x H'→g x (List.replicate m none++cs) H' fun σ2 H2=>σ2.drop m=cs∧σ2.length=m+cs.length ∧
   tc σ2 H2 fun b H3=>H3 D=some (.lst ys)∧if b=true then te σ2 H3 fun v H4=>H4 D=some (.lst ys)∧N (ys++[v]) (upd H4 D (.lst (ys++[v]))) else N ys H3))
theorem yr {wi:TI} {m:Nat} {fr:List Nat} {tc:TT} {te:TE} {Q:VK} (h:wi σ H fun J H1=>nLC J m (capV σ fr) g tc te H1 Q):tLCg wi m fr g tc te σ H Q:=by
 have e:(capV σ fr).length=fr.length:=by unfold capV;rw [xAa]
 unfold nLC at h
 rw [e] at h
 exact h
theorem bS {m:Nat} {cs:St} {tc:TT} {te:TE} {Q:VK} (wk:Wk J P n Y) (Pv:Addr→Nat→List V→Hp→Prop) (h0:∀ D,H D=none→Pv D 0 [] (upd H D (.lst [])))
  (hP:∀ D i ys H,i≤n→Pv D i ys H→H D=some (.lst ys)∧ys.length<sizeLine∧P H)
  (hs:∀ D i ys H x H',i<n→Pv D i ys H→Y i H x H'→g x (List.replicate m none++cs) H' fun σ2 H2=>σ2.drop m=cs∧σ2.length=m+cs.length ∧
   tc σ2 H2 fun b H3=>H3 D=some (.lst ys)∧if b=true then te σ2 H3 fun v H4=>H4 D=some (.lst ys)∧Pv D (i+1) (ys++[v]) (upd H4 D (.lst (ys++[v]))) else Pv D (i+1) ys H3)
  (hd:∀ D ys H,Pv D n ys H→Q (.ref D) H):nLC J m cs g tc te H Q:=by
 intro D hD
 refine ⟨fun i k ys H=>k=n - i∧i≤n∧Pv D i ys H,⟨n,by simp,xBn _,h0 D hD⟩,?_⟩
 rintro i k ys H ⟨rfl,hi,p⟩
 obtain ⟨q1,q2,q3⟩:=hP D i ys H hi p
 refine ⟨q1,?_⟩
 by_cases hlt:i<n
 ·exact .inr ⟨wk.go i H q3 hlt,q2,Pv D (i+1),fun ys' H' p'=>⟨n - (i+1),by lia,rfl,hlt,p'⟩,fun x H' y=>hs D i ys H x H' hlt p (wk.yld i H x H' q3 hlt y)⟩
 ·have e:i=n:=by lia
  subst e
  exact .inl ⟨wk.stop H q3,hd D ys H p⟩
variable {K:xFr} {tl:TE} {tas:TA} {R:It→Hp→Prop} {a:Addr} {xs:List V}
def nIterL (K:xFr) (x:V) (H:Hp) (R:It→Hp→Prop):Prop:=∃ a,x = .ref a∧(∃ xs,SqL K H a xs)∧R (Itl K a) H
def nIterT (K:xFr) (x:V) (H:Hp) (R:It→Hp→Prop):Prop:=∃ a,x = .ref a∧(∃ xs,SqT K H a xs)∧R (Itt K a) H
def nIterR (vs:List V) (H:Hp) (R:It→Hp→Prop):Prop:=∃ j:Int,vs=[.int j]∧-(2 ^ 62)≤j∧j<2 ^ 62∧R (Itr 0 j.toNat) H
theorem yx (h:tl σ H fun x H1=>nIterL K x H1 R):iList K tl σ H R:=h
theorem yu (h:tl σ H fun x H1=>nIterT K x H1 R):iTup K tl σ H R:=h
theorem yw (h:tas σ H fun vs H1=>nIterR vs H1 R):iRng1 tas σ H R:=h
theorem rH (e:H a=some (.lst xs)) (h:R (Itl K a) H):nIterL K (.ref a) H R:=⟨a,rfl,⟨xs,.of e⟩,h⟩
theorem rG (e:H a=some (.tup xs)) (h:R (Itt K a) H):nIterT K (.ref a) H R:=⟨a,rfl,⟨xs,.of e⟩,h⟩
theorem eF {j:Int} (h1:-(2 ^ 62)≤j) (h2:j<2 ^ 62) (h:R (Itr 0 j.toNat) H):nIterR [.int j] H R:=⟨j,rfl,h1,h2,h⟩
end
end L2
namespace L2
open PySem PySem.Spec PyProof.Rows
section
variable {X:Cx}
def rCatA (K:xFr):R2:=fun x y H Q=>∃ a b xs ys,x = .ref a∧y = .ref b∧H a=some (.tup xs)∧H b=some (.tup ys)∧xs.length+ys.length≤sizeLine∧∀ p H2,Same H H2→H2 p=some (.tup (xs++ys))→Q (.ref p) H2
theorem sw:OpR X (binaryOp .Add) (rCatA X.K):=by
 intro pins s σ H x y v u Q I rx ry h
 obtain ⟨a,b,xs,ys,rfl,rfl,ha,hb,hz,q⟩:=h
 by_cases hx:xs=[]
 ·cases (show v=Value.ref a from rx)
  cases (show u=Value.ref b from ry)
  subst hx
  obtain ⟨its,r1,p1,_⟩:=I.tuple (SqT.of ha)
  obtain ⟨its2,r2,p2,_⟩:=I.tuple (SqT.of hb)
  have e1:its=[]:=r1.nil_iff.mpr rfl
  subst e1
  obtain ⟨⟨cls,dd,data,sl⟩,ho,hc,n,hd⟩:=id p1
  obtain ⟨⟨cls2,dd2,data2,sl2⟩,ho2,hc2,n2,hd2⟩:=id p2
  simp only at hc hd hc2 hd2
  subst hc hd hc2 hd2
  refine concat_meets ⟨_,ho,rfl⟩ ⟨_,ho2,rfl⟩ noFill_tuple_add seq_tuple_add PySem.F.slot_tuple_add PySem.F.entry_tuple_add (PySem.F.args_tuple_add_2 _ _)
   (tuple_addW0 a b ([]:List Value).toArray its2.toArray n n2 dd dd2 sl sl2 (by simp)) ⟨ho,ho2,?_⟩
  exact ⟨.ref b,H,I,rfl,q b H (.refl _) hb⟩
 ·refine sH pins s σ H _ _ v u Q I rx ry ⟨a,b,xs,ys,rfl,rfl,.of ha,.of hb,hx,hz,fun e=>?_,fun _ p hp=>q p _ (aw hp _) ah⟩
  subst e
  exact q a H (.refl _) (by rw [xB0];exact ha)
end
end L2
namespace L2
open PySem PySem.Spec PyProof.Rows
section
variable {X:Cx} {a b:Expr} {es:List Expr} {ta tb:TE} {tas:TA} {pos p2:Pos} {k:Nat}
def tInA (neg:Bool) (ta:TE) (tas:TA):TE:=fun σ H Q=>ta σ H fun x H1=>tas σ H1 fun ys H2=>flatV x=true∧ys.all flatV=true∧ys.length≤sizeLine∧Q (.bl (if neg then !inV x ys else inV x ys)) H2
theorem vZ (ha:PE X a ta) (hb:PA X es tas):PC X .In a (.Tuple es k p2) (tInA false ta tas):=by
 intro pins s σ H Q I h
 refine thn (ha pins s σ H _ I h) fun v s1 ⟨x,H1,I1,r1,q1⟩=>?_
 refine wpAny_Tuple_spliced (thn (hb p2 pins s1 σ H1 _ I1 q1) fun us s2 ⟨ys,H2,I2,r2,fx,fs,z,q⟩=>⟨by rw [← r2.length];exact z,?_⟩)
 have I3:Inv X pins σ H2 { s2 with heap:=s2.heap.push { cls:=.type "tuple",data:=.seq us.toArray } }:=I2.kept (t':=s2.toks) fun b o e=>xAf _ e
 refine SeqAt.in_tupleAt (eqU x) (IsTup.new _ _) (fun w hw=>c8 r1 fx r2 fs w (by simpa using hw)) ⟨.bl _,H2,I3,rfl,?_⟩
 rw [show us.toArray.any (eqU x)=us.any (eqU x) by simp,dN r2 fs]
 exact q
def nInA (neg:Bool) (x:V) (ys:List V) (H:Hp) (Q:VK):Prop:=flatV x=true∧ys.all flatV=true∧ys.length≤sizeLine∧Q (.bl (if neg then !inV x ys else inV x ys)) H
theorem xr {neg:Bool} {σ:St} {H:Hp} {Q:VK} (h:ta σ H fun x H1=>tas σ H1 fun ys H2=>nInA neg x ys H2 Q):tInA neg ta tas σ H Q:=h
theorem xq {x:V} {ys:List V} {H:Hp} {Q:VK} (f:flatV x=true) (fs:ys.all flatV=true) (l:ys.length≤1000) (h:Q (.bl (inV x ys)) H):nInA false x ys H Q:=⟨f,fs,small l,h⟩
def tL0 (K:xFr) (neg:Bool) (ta:TE):TE:=fun σ H Q=>ta σ H fun x H1=>∃ l xs,x = .ref l∧SqL K H1 l xs∧Q (.bl (if neg then !xs.isEmpty else xs.isEmpty)) H1
def nL0 (K:xFr) (neg:Bool) (x:V) (H:Hp) (Q:VK):Prop:=∃ l xs,x = .ref l∧SqL K H l xs∧Q (.bl (if neg then !xs.isEmpty else xs.isEmpty)) H
theorem yE {K:xFr} {neg:Bool} {σ:St} {H:Hp} {Q:VK} (h:ta σ H fun x H1=>nL0 K neg x H1 Q):tL0 K neg ta σ H Q:=h
theorem xE {K:xFr} {l:Addr} {xs:List V} {H:Hp} {Q:VK} (e:H l=some (.lst xs)) (h:Q (.bl (!xs.isEmpty)) H):nL0 K true (.ref l) H Q:=⟨l,xs,rfl,.of e,h⟩
end
section
variable {P:Program} {w:World} {K:xFr} {mg:Str→Option Value} {base:Heap}
structure Cal (P:Program) (w:World) (K:xFr) (mg:Str→Option Value) (base:Heap) (x:Str) (k:Nat) (ps:List Str) (sp:Sp):Prop where
 ex:∃ (f:Addr) (fd:FuncData),FnOk P w K mg base CX0 k f fd ps sp∧Binds K fd ps []∧mg x=some (.ref f)∧PySem.W.keepIn K (.ref f)=true
structure Dn (K:xFr) (mg:Str→Option Value) (x:Str) (st:Stmt) (ps:List Str):Prop where
 ex:∃ (f:Addr) (fd:FuncData),Fun K x x st f fd∧Binds K fd ps []∧mg x=some (.ref f)
theorem Cal.imp {x:Str} {k:Nat} {ps:List Str} {sp sp':Sp} (c:Cal P w K mg base x k ps sp) (h:∀ vs H Q E,sp' vs H Q E→sp vs H Q E):Cal P w K mg base x k ps sp' :=
 let ⟨f,fd,h1,h2⟩:=c.ex;⟨f,fd,h1.imp h,h2⟩
theorem Dn.ok {x:Str} {st:Stmt} {sc:Scope} {N ps:List Str} {k:Nat} {sp:Sp} (F:Dn K mg x st ps) (S:FnScope N ps sc) (hsc:defScope st=sc) (len:∀ vs H Q E,sp vs H Q E→vs.length=ps.length)
  (hbody:∀ (f:Addr) (cdv:Value) (A:Around) (outer:List Env) (s:Shared) (H:Hp) (vs:List V) (Q:VK) (E:XK),Room k (A.deeper (envOfC x sc s.heap.objs.size f cdv))→sp vs H Q E →
   ∃ t,PSs (cxOf CX0 P w K mg base N x sc f cdv A outer s H E).nox (defBody st) t∧t { nx:=fun _ H'=>Q .non H',rt:=Q } (start N vs) H):Cal P w K mg base x (k+1) ps sp:=by
 subst hsc
 obtain ⟨f,fd,F1,F2,F3⟩:=F.ex
 exact ⟨f,fd,F1.ok S len (fun cdv A outer s H vs Q E hr h=>hbody f cdv A outer s H vs Q E hr h),F2,F3,F1.kp⟩
end
section
variable {X:Cx} {x:Str} {k k':Nat} {ps:List Str} {sp:Sp} {p pos:Pos} {e:Expr} {es:List Expr} {t:TA}
theorem vY (c:Cal X.prog X.w X.K X.mg X.base x k ps sp) (hr:Room k' X.A) (hg:Gl X x) (ha:PA X (e::es) t) (hk:k≤k':=by lia)
  (hs:starEach (e::es) X.env=(false,eval e X.env)::starEach es X.env:=by rfl) (hplain:(backTo pos (starEach es X.env)).any (·.1)=false:=by rfl) (hd:(x == ("__debug__":Str))=false:=by decide):PE X (.Call (.Name x p) (e::es) [] pos) (tCall sp [] E0 t):=by
 obtain ⟨f,fd,h1,h2,h3,h4⟩:=c.ex
 exact ss h1 (hr.mono hk) hg h3 h4 h2 .nil pass0 ha (hdb:=hd) (he:=hs) (hpl:=hplain)
end
end L2
namespace L2
open PySem PySem.Spec PyProof.Rows
def noStar:Expr→Bool
 | .Starred _ _=>false
 | _=>true
theorem aN {e:Expr} {es:List Expr} {env:Env} (h:noStar e=true):starEach (e::es) env=(false,eval e env)::starEach es env:=by
 cases e <;> first | rfl | cases h
theorem eu {pos:Pos} {env:Env}:∀ {es:List Expr},es.all noStar=true→(backTo pos (starEach es env)).any (·.1)=false
 | [],_=>rfl
 | e::es,h=>by
  rw [List.all_cons,Bool.and_eq_true] at h
  rw [aN h.1]
  change (false || (backTo pos (starEach es env)).any (·.1))=false
  rw [eu h.2]
  rfl
def noComp:Expr→Bool
 | .ListComp ..=>false
 | .SetComp ..=>false
 | .DictComp ..=>false
 | _=>true
theorem iJ {e:Expr} {t:Option Expr} {l:Nat} {env:Env} (h:noComp e=true):swapsWith e t l env=pure false:=by
 cases e <;> first | rfl | cases h
def noCall:Expr→Bool
 | .Call ..=>false
 | _=>true
theorem iL {o:Expr} {f:Str} {env:Env} {x:Sem Value} (h:noCall o=true):attributeBase o f env x=x:=by
 cases o <;> first | rfl | cases h
section
variable {X:Cx} {e o:Expr} {es:List Expr} {te to:TE} {t:TA} {pos p apos cpos:Pos} {x name:Str} {id T:String} {i:Nat} {r:List V→Hp→VK→Prop}
theorem xS (ha:PE X e te) (hr:PA X es t) (h:noStar e=true:=by rfl):PA X (e::es) (tCons te t):=su ha hr (aN h)
theorem xQ (hc:CallR X (.builtin id) r) (hg:Gl X x) (hm:X.mg x=none) (hv:bootBuiltins x=some (.builtin id)) (ha:PA X (e::es) t) (h:(e::es).all noStar=true:=by rfl) (hn:x≠"__name__":=by decide) (hdb:(x == ("__debug__":Str))=false:=by decide):PE X (.Call (.Name x p) (e::es) [] pos) (tCB r t):=by
 rw [List.all_cons,Bool.and_eq_true] at h
 exact ph hc hg hm hv ha hn hdb (aN h.1) (eu h.2)
theorem xP (hc:CallR X (.type T) r) (hg:Gl X x) (hm:X.mg x=none) (hv:bootBuiltins x=some (.type T)) (ha:PA X (e::es) t) (h:(e::es).all noStar=true:=by rfl) (hn:x≠"__name__":=by decide) (hdb:(x == ("__debug__":Str))=false:=by decide):PE X (.Call (.Name x p) (e::es) [] pos) (tCB r t):=by
 rw [List.all_cons,Bool.and_eq_true] at h
 exact nc hc hg hm hv ha hn hdb (aN h.1) (eu h.2)
variable {k k':Nat} {ps:List Str} {sp:Sp}
theorem xO (c:Cal X.prog X.w X.K X.mg X.base x k ps sp) (hr:Room k' X.A) (hg:Gl X x) (ha:PA X (e::es) t) (hk:k≤k':=by lia) (h:(e::es).all noStar=true:=by rfl) (hd:(x == ("__debug__":Str))=false:=by decide):PE X (.Call (.Name x p) (e::es) [] pos) (tCall sp [] E0 t):=by
 rw [List.all_cons,Bool.and_eq_true] at h
 exact vY c hr hg ha hk (aN h.1) (eu h.2) hd
theorem xH {pos':Pos} (hN:X.N.Nodup) (hi:X.N[i]?=some x) (hx:Loc X.env.scope x) (he:PE X e te) (h:noComp e=true:=by rfl) (hf:X.fn x=true∨X.env.scope.names.lookup x=some .local:=by first | exact .inl rfl | exact .inr rfl | assumption) :
  PS X (.Assign [.Name x pos'] e pos) (tAsg te (gName i)):=vN hN hi hx he (iJ h) hf
theorem xJ (he:PE X e te) (h:noComp e=true:=by rfl):PS X (.Expr e pos) (tDrop te):=r9 he (iJ h)
variable {rm:V→List V→Hp→VK→Prop}
theorem xK {tg:Expr} {ta:TA} (hg:Gl X "range") (hm:X.mg "range"=none) (ha:PA X [e] ta) (h:noStar e=true:=by rfl):PI X tg (.Call (.Name "range" p) [e] [] pos) (iRng1 ta):=mZ hg hm ha (aN h)
end
end L2
namespace L2
open PySem PySem.Spec PyProof.Rows
theorem Same.upd_new {H H1:Hp} {a:Addr} {o:HO} (s:Same H H1) (h:H a=none):Same H (upd H1 a o):=fun b u e=>by
 rw [aA (ak e h)]
 exact s b u e
theorem eT {α:Type} {p:α→Bool} {ds:List α} {i:Nat} {d:α} (h:ds[i]?=some d):(ds.take (i+1)).filter p=(ds.take i).filter p++(if p d then [d] else []):=by
 rw [List.take_add_one,h,List.filter_append]
 cases e:p d <;> simp [e]
section
variable {J:It} {P:Hp→Prop} {g:TG} {tc:TT} {te:TE} {m:Nat} {cs:St} {H:Hp} {Q:VK} {xs:List V} {ds:List D}
theorem xZ (wk:Wk J P xs.length (fun i H x H'=>H'=H∧xs[i]?=some x)) (hx:Rps H ds xs) (hP:∀ H',Same H H'→P H') (p:D→Bool) (f:D→D)
  (he:∀ (B:Addr) (ys:List V) (d:D) (x:V) (H1:Hp) (N1:V→Hp→Prop) (N0:Hp→Prop),d∈ds→Rp H1 d x→Same H H1→H1 B=some (.lst ys)→(∀ v H4,Same H1 H4→p d=true→Rp H4 (f d) v→N1 v H4)→(∀ H3,Same H1 H3→p d=false→N0 H3) →
   g x (List.replicate m none++cs) H1 fun σ2 H2=>σ2.drop m=cs∧σ2.length=m+cs.length∧tc σ2 H2 fun b H3=>H3 B=some (.lst ys)∧if b=true then te σ2 H3 fun v H4=>H4 B=some (.lst ys)∧N1 v H4 else N0 H3)
  (hd:∀ B H',Same H H'→H B=none→LD H' B ((ds.filter p).map f)→Q (.ref B) H') (hl:xs.length<sizeLine):nLC J m cs g tc te H Q:=by
 have hlen:=hx.length
 refine bS wk (fun B i ys H1=>H B=none∧H1 B=some (.lst ys)∧Same H H1∧ys.length≤i∧Rps H1 (((ds.take i).filter p).map f) ys) (fun B hD=>⟨hD,ah,aw hD _,xAg _,by simp [Rps]⟩)
  (fun B i ys H1 hi ⟨h0,h1,h2,h3,h4⟩=>⟨h1,by lia,hP _ h2⟩) ?_ ?_
 ·rintro B i ys H1 x _ hi ⟨h0,h1,h2,h3,h4⟩ ⟨rfl,hxi⟩
  obtain ⟨d,hd1,hd2⟩:=hx.get' hxi
  have st:=eT (p:=p) hd1
  refine he B ys d x _ _ _ (xAc hd1) (hd2.mono h2) h2 h1 (fun v H4 s4 e r=>?_) (fun H3 s3 e=>?_)
  ·rw [e,xCg rfl] at st
   refine ⟨h0,ah,(h2.trans s4).upd_new h0,by rw [xAb];simp;lia,?_⟩
   have t:TLe H4 (upd H4 B (.lst (ys++[v]))):=TLe.upd fun zs z=>by rw [s4 _ _ h1] at z;cases z
   rw [st,xAi]
   exact (Rps.snoc (h4.mono s4) r).le t
  ·rw [e] at st
   simp at st
   refine ⟨h0,s3 _ _ h1,h2.trans s3,by lia,?_⟩
   rw [st]
   exact h4.mono s3
 ·rintro B ys H1 ⟨h0,h1,h2,h3,h4⟩
  rw [hlen,xAu] at h4
  exact hd B H1 h2 h0 ⟨ys,h1,h4⟩
end
end L2
namespace L2
open PySem PySem.Spec PyProof.Rows
structure QE (X:Cx) (e:Expr) (t:TE):Prop where
 h:PE X e t
structure QT (X:Cx) (e:Expr) (t:TT):Prop where
 h:PT X e t
structure QW (X:Cx) (e:Expr) (t:TT):Prop where
 h:PW X e t
structure QC (X:Cx) (op:CmpOp) (a b:Expr) (t:TE):Prop where
 h:PC X op a b t
structure QA (X:Cx) (es:List Expr) (t:TA):Prop where
 h:PA X es t
structure QS (X:Cx) (st:Stmt) (t:TS):Prop where
 h:PS X st t
structure QSs (X:Cx) (st:List Stmt) (t:TS):Prop where
 h:PSs X st t
structure QG (X:Cx) (e:Expr) (t:TG):Prop where
 h:PG X e t
structure QGs (X:Cx) (es:List Expr) (t:TGs):Prop where
 h:PGs X es t
structure QI (X:Cx) (tg iter:Expr) (wi:TI):Prop where
 h:PI X tg iter wi
structure QPs (X:Cx) (pos:Pos) (ks:List (Option Expr)) (vs:List Expr) (trs:List (TE×TE)):Prop where
 h:PPs X pos ks vs trs
structure QTs (X:Cx) (ifs:List Expr) (t:TT):Prop where
 h:PTs X ifs t
section
variable {X:Cx} {e a b c o:Expr} {es:List Expr} {te ta tb tc to:TE} {t u:TA} {pos p p2 apos cpos px:Pos} {x y name:Str} {id T:String} {i j k:Nat} {st:Stmt} {sts:List Stmt} {ts us:TS} {tt tt':TT}
theorem qv (i:Nat) (hN:X.N[i]?=some x:=by rfl) (hv:Vis X.env.scope x:=by first | exact Or.inl rfl | exact Or.inr (Or.inl rfl) | exact Or.inr (Or.inr rfl)) (hd:(x == ("__debug__":Str))=false:=by decide)
  (hcd:(x == ("__classdict__":Str))=false:=by decide):QE X (.Name x pos) (tVar i):=⟨vS hN hv hd hcd⟩
theorem af {n:Int} {j:Nat}:QE X (.Constant (.int n) j pos) (tC (.int n)):=⟨vX⟩
theorem fA {n:Bool} {j:Nat}:QE X (.Constant (.bool n) j pos) (tC (.bl n)):=⟨xR⟩
theorem de {j:Nat}:QE X (.Constant .none j pos) (tC .non):=⟨vU⟩
theorem aj {n:Str} {j:Nat}:QE X (.Constant (.str n) j pos) (tC (.str n)):=⟨o9⟩
theorem aF {op:Operator} {r:R2} (ho:OpR X (binaryOp op) r) (ha:QE X a ta) (hb:QE X b tb):QE X (.BinOp a op b pos) (tOp r ta tb):=⟨xM ho ha.h hb.h⟩
theorem oU {op:UnaryOp} {r:V→Hp→VK→Prop} (ho:UnR X (unaryOp op) r) (ha:QE X a ta):QE X (.UnaryOp op a pos) (tUn r ta):=⟨xL ho ha.h⟩
theorem lc {op:CmpOp} {r:R2} (ho:OpR X (compareOp op) r) (ha:QE X a ta) (hb:QE X b tb) (hm:behindInMarks op b=false):QE X (.Compare a [op] [b] pos) (tOp r ta tb):=⟨sr ho ha.h hb.h hm⟩
theorem ap {op:CmpOp} {r:R2} (ho:OpR X (compareOp op) r) (ha:QE X a ta) (hb:QE X b tb) (hm:behindInMarks op b=false):QT X (.Compare a [op] [b] pos) (tTest (tOp r ta tb)):=⟨rX ho ha.h hb.h hm⟩
theorem bH {op:CmpOp} (h:QC X op a b te) (h1:behindInMarks op b=false:=by first | exact nobehind _ (by decide) (by decide) | rfl):QT X (.Compare a [op] [b] pos) (tB te):=⟨vM h.h h1⟩
theorem oS {op op':CmpOp} {r r':R2} (ho:OpR X (compareOp op) r) (ho':OpR X (compareOp op') r') (ha:QE X a ta) (hb:QE X b tb) (hc:QE X c tc) (hm:lastMarks [op,op'] [b,c]=false:=by with_unfolding_all rfl):QT X (.Compare a [op,op'] [b,c] pos) (tTest (tChain r r' ta tb tc)):=⟨o0 ho ho' ha.h hb.h hc.h hm⟩
theorem oR (h:QE X e te) (he:∀ whole,isTrue e X.env whole=(do let v ← whole;standAt e.pos;holding [v] (truthy v)):=by intro _;rfl):QT X e (tB te):=⟨vK h.h he⟩
theorem kh (h:QT X a tt):QT X (.UnaryOp .Not a pos) (tNot tt):=⟨vL h.h⟩
theorem dI (h:QT X a tt):QW X (.BoolOp .And [a] pos) tt:=⟨rT h.h⟩
theorem iE (h:QT X a tt):QW X (.BoolOp .Or [a] pos) tt:=⟨vI h.h⟩
theorem eW {rest:List Expr} (ha:QT X a tt) (hb:QW X (.BoolOp .And (b::rest) pos) tt'):QW X (.BoolOp .And (a::b::rest) pos) (tAnd tt tt'):=⟨vJ ha.h hb.h⟩
theorem kY {rest:List Expr} (ha:QT X a tt) (hb:QW X (.BoolOp .Or (b::rest) pos) tt'):QW X (.BoolOp .Or (a::b::rest) pos) (tOr tt tt'):=⟨xF ha.h hb.h⟩
theorem QW.pt (h:QW X e tt):QT X e tt:=⟨h.h.pt⟩
theorem aa:QA X [] tNil:=⟨pi⟩
theorem ae (ha:QE X e te) (hr:QA X es t) (h:noStar e=true:=by rfl):QA X (e::es) (tCons te t):=⟨xS ha.h hr.h h⟩
theorem aB {k:Nat} (h:QA X es t):QE X (.Tuple es k pos) (tTup t):=⟨vT h.h⟩
theorem aH (h:QA X es t):QE X (.List es pos) (tLst t):=⟨vV h.h⟩
theorem rO:QPs X pos [] [] []:=⟨sf⟩
theorem dw {kx v:Expr} {ks:List (Option Expr)} {vs:List Expr} {tk tv:TE} {trs:List (TE×TE)} (hk:QE X kx tk) (hv:QE X v tv) (hr:QPs X pos ks vs trs):QPs X pos (some kx::ks) (v::vs) ((tk,tv)::trs):=⟨o6 hk.h hv.h hr.h⟩
theorem rS {ks:List (Option Expr)} {vs:List Expr} {trs:List (TE×TE)} (h:QPs X pos ks vs trs) (hall:ks.all (·.isSome)=true) (hl:ks.length=vs.length) (h0:ks≠[]) (h15:ks.length≤15):QE X (.Dict ks vs pos) (tDisp trs):=⟨sn h.h hall hl h0 h15⟩
theorem c7:QE X (.Dict [] [] pos) tDNewK:=⟨pe⟩
def noSlice:Expr→Bool
 | .Slice ..=>false
 | _=>true
theorem jl (h:noSlice b=true):PlainIx b:=fun o i=>by cases b <;> first | rfl | cases h
theorem au {r:R2} (hr:IxR X r) (ha:QE X a ta) (hb:QE X b tb) (h:noSlice b=true:=by rfl):QE X (.Subscript a b pos) (tOp r ta tb):=⟨xN hr ha.h hb.h (jl h)⟩
theorem aG (hu:X.A.units+1<cLine) (ho:QE X o ta) (hi:QE X b tb) (h:noSlice b=true:=by rfl):QE X (.Subscript o b pos) (tDGet ta tb):=⟨sq hu ho.h hi.h (jl h)⟩
theorem oV (hu:X.A.units+1<cLine) (hi:QE X b tb) (ho:QE X o ta):QC X .In b o (tDIn tb ta):=⟨we hu hi.h ho.h⟩
theorem mU (hu:X.A.units+1<cLine) (hi:QE X b tb) (ho:QE X o ta):QC X .NotIn b o (tDNotIn tb ta):=⟨nh hu hi.h ho.h⟩
theorem dU {k:Nat} (ha:QE X a ta) (hb:QA X es t):QC X .In a (.Tuple es k p2) (tInA false ta t):=⟨vZ ha.h hb.h⟩
variable {r:List V→Hp→VK→Prop} {rm:V→List V→Hp→VK→Prop} {ps:List Str} {sp:Sp} {k':Nat}
theorem bV (hc:CallR X (.builtin id) r) (hg:Gl X x) (hm:X.mg x=none) (hv:bootBuiltins x=some (.builtin id)) (ha:QA X (e::es) t) (h:(e::es).all noStar=true:=by rfl) (hn:x≠"__name__":=by decide) (hdb:(x == ("__debug__":Str))=false:=by decide):QE X (.Call (.Name x p) (e::es) [] pos) (tCB r t):=⟨xQ hc hg hm hv ha.h h hn hdb⟩
theorem aU (hc:CallR X (.type T) r) (hg:Gl X x) (hm:X.mg x=none) (hv:bootBuiltins x=some (.type T)) (ha:QA X (e::es) t) (h:(e::es).all noStar=true:=by rfl) (hn:x≠"__name__":=by decide) (hdb:(x == ("__debug__":Str))=false:=by decide):QE X (.Call (.Name x p) (e::es) [] pos) (tCB r t):=⟨xP hc hg hm hv ha.h h hn hdb⟩
theorem av (c:Cal X.prog X.w X.K X.mg X.base x k ps sp) (hr:Room k' X.A) (hg:Gl X x) (ha:QA X (e::es) t) (hk:k≤k':=by lia) (h:(e::es).all noStar=true:=by rfl) (hd:(x == ("__debug__":Str))=false:=by decide):QE X (.Call (.Name x p) (e::es) [] pos) (tCall sp [] E0 t):=⟨xO c hr hg ha.h hk h hd⟩
variable {tg iter elt:Expr} {g:TG} {gs:TGs} {wi:TI} {tas:TA}
theorem am (hN:X.N.Nodup) (hi:X.N[i]?=some x) (hx:Loc X.env.scope x) (hf:X.fn x=true∨X.env.scope.names.lookup x=some .local:=by first | exact .inl rfl | exact .inr rfl | assumption):QG X (.Name x pos) (gName i):=⟨sm hN hi hx hf⟩
theorem a7:QGs X [] gNil:=⟨sk⟩
theorem q9 {env:Env} (h:noStar e=true):(assignEach (e::es) env).map (·.2)=assign e env::(assignEach es env).map (·.2):=by
 cases e <;> first | rfl | cases h
theorem ay (h1:QG X e g) (h2:QGs X es gs) (h:noStar e=true:=by rfl):QGs X (e::es) (gCons g gs):=⟨o8 h1.h h2.h (q9 h)⟩
theorem mJ {env:Env} (h:noStar e=true):assignEach (e::es) env=(false,assign e env)::assignEach es env:=by
 cases e <;> first | rfl | cases h
theorem i9 {env:Env}:∀ {es:List Expr},es.all noStar=true→(assignEach es env).length=es.length∧(assignEach es env).findIdx? (·.1)=none
 | [],_=>⟨rfl,rfl⟩
 | e::es,h=>by
  rw [List.all_cons,Bool.and_eq_true] at h
  obtain ⟨h1,h2⟩:=i9 (env:=env) h.2
  rw [mJ h.1]
  refine ⟨by rw [xAo,h1,xAo],?_⟩
  rw [List.findIdx?_cons,h2]
  rfl
theorem vH {k:Nat} (hc:X.calm=true) (h:QGs X es gs) (hs:es.all noStar=true:=by rfl):QG X (.Tuple es k pos) (gTup X.K es.length gs):=⟨vR hc h.h (i9 hs).1 (i9 hs).2⟩
theorem ji (hg:Gl X "range") (hm:X.mg "range"=none) (ha:QA X [e] tas) (h:noStar e=true:=by rfl):QI X tg (.Call (.Name "range" p) [e] [] pos) (iRng1 tas):=⟨xK hg hm ha.h h⟩
theorem bN:QTs X [] tYes:=⟨rW⟩
theorem cK (h:QT X c tt):QTs X [c] tt:=⟨rV h.h⟩
variable {scope:Scope} {cl:List (Str×Addr)} {ls N:List Str} {fr:List Nat} {ifs:List Expr}
def noSet:Expr→Bool
 | .Set ..=>false
 | _=>true
theorem iK (h:noSet e=true):∀ (env:Env) (v:Value),foldedSetIterable e env v=pure v:=fun env v=>by cases e <;> first | rfl | cases h
theorem bM (hc:X.calm=true) (cp:CapsG X scope cl ls N fr) (hi:QI X tg iter wi) (hg:∀ C s H fp,QG (cxComp X (ls++N) scope cl C s H fp) tg g) (ht:∀ C s H fp,QTs (cxComp X (ls++N) scope cl C s H fp) ifs tt) (he:∀ C s H fp,QE (cxComp X (ls++N) scope cl C s H fp) elt te) (h:noSet iter=true:=by rfl) :
  QE X (.ListComp elt [⟨tg,iter,ifs,0⟩] scope pos) (tLCg wi ls.length fr g tt te):=⟨vW hc cp hi.h (fun C s H fp=>(hg C s H fp).h) (fun C s H fp=>(ht C s H fp).h) (fun C s H fp=>(he C s H fp).h) (iK h _)⟩
theorem dv {py spos:Pos} (hN:X.N.Nodup) (hiy:X.N[i]?=some y) (hy:X.env.scope.names.lookup y=some .local) (hc:X.calm=true) (cp:CapsG X scope cl ls N fr) (hi:QI X tg iter wi) (hg:∀ C s H fp,QG (cxComp X (ls++N) scope cl C s H fp) tg g) (ht:∀ C s H fp,QTs (cxComp X (ls++N) scope cl C s H fp) ifs tt) (he:∀ C s H fp,QE (cxComp X (ls++N) scope cl C s H fp) elt te) (h:noSet iter=true:=by rfl)
  (hsw:swapsWith (.ListComp elt [⟨tg,iter,ifs,0⟩] scope pos) (some (.Name y py)) spos.line X.env=pure true:=by rfl):QS X (.Assign [.Name y py] (.ListComp elt [⟨tg,iter,ifs,0⟩] scope pos) spos) (tAsg (tLCg wi ls.length fr g tt te) (gName i)) :=
 ⟨o5 hN hiy hy hc cp hi.h (fun C s H fp=>(hg C s H fp).h) (fun C s H fp=>(ht C s H fp).h) (fun C s H fp=>(he C s H fp).h) (iK h _) hsw⟩
theorem ar:QSs X [] tNext:=⟨rZ⟩
theorem ab (h1:QS X st ts) (h2:QSs X sts us):QSs X (st::sts) (tSeq ts us):=⟨o3 h1.h h2.h⟩
theorem ag (h1:QS X st ts):QSs X [st] ts:=⟨rY h1.h⟩
theorem aD {pos':Pos} (hN:X.N.Nodup) (hi:X.N[i]?=some x) (hx:Loc X.env.scope x) (he:QE X e te) (h:noComp e=true:=by rfl) (hf:X.fn x=true∨X.env.scope.names.lookup x=some .local:=by first | exact .inl rfl | exact .inr rfl | assumption) :
  QS X (.Assign [.Name x pos'] e pos) (tAsg te (gName i)):=⟨xH hN hi hx he.h h hf⟩
theorem ck (he:QE X e te) (h:noComp e=true:=by rfl):QS X (.Expr e pos) (tDrop te):=⟨xJ he.h h⟩
theorem ao (he:QE X e te):QS X (.Return (some e) pos) (tRet te):=⟨vO he.h⟩
variable {body orelse:List Stmt}
theorem aE (hc:QT X c tt) (ha:QSs X body ts) (hb:QSs X orelse us):QS X (.If c body orelse pos) (tIfS tt ts us):=⟨xI hc.h ha.h hb.h⟩
theorem jh (hp:PassesOwn (model X.prog X.w) X.A X.env X.xe) (hc:QT X c tt) (hb:QSs X body ts):QS X (.While c body [] pos) (tWhile tt ts):=⟨o4 hp hc.h hb.h⟩
theorem aR (hp:PassesOwn (model X.prog X.w) X.A X.env X.xe) (hc:X.calm=true) (hi:QI X tg iter wi) (hg:QG X tg g) (hb:QSs X body ts) (h:noSet iter=true:=by rfl):QS X (.For tg iter body [] pos) (tFor wi g ts):=⟨vP hp hc hi.h hg.h hb.h (iK h _)⟩
theorem gh (he:QE X e te) (hg:QG X tg g) (hs:swapsWithSole [tg] e pos.line X.env=pure false:=by rfl) (hw:swappedStores [tg] e X.env=pure none:=by rfl) (h1:noStar tg=true:=by rfl):QS X (.Assign [tg] e pos) (tAsg te g) :=
 ⟨vQ he.h hg.h hs hw (by rw [mJ h1];rfl)⟩
theorem bc {value:Expr} {tv:TE} {pos':Pos} (hu:X.A.units+1<cLine) (ho:QE X o ta) (hi:QE X b tb) (hv:QE X value tv) (h:noComp value=true:=by rfl):QS X (.Assign [.Subscript o b pos'] value pos) (sDPut ta tb tv):=⟨se hu ho.h hi.h hv.h (iJ h)⟩
end
end L2
namespace L2
open PySem PySem.Spec PyProof.Rows
def strsOf:List Expr→Option (List Str)
 | []=>some []
 | .Constant (.str x) _ _::r=>(strsOf r).map (x::·)
 | _=>none
def tStrs (ws:List Str):TA:=fun _ H Q=>Q (ws.map V.str) H
theorem lj {X:Cx}:∀ {es:List Expr} {ws:List Str},strsOf es=some ws→QA X es (tStrs ws)
 | [],ws,h=>by
  cases h
  exact ⟨pi⟩
 | e::es,ws,h=>by
  cases e <;> try (cases h;done)
  rename_i c k p
  cases c <;> try (cases h;done)
  rename_i x
  have h':(strsOf es).map (x::·)=some ws:=h
  cases e2:strsOf es with
  | none=>rw [e2] at h';cases h'
  | some ws2 =>
   rw [e2] at h'
   cases h'
   have ih:=lj (X:=X) e2
   exact ⟨xS o9 ih.h rfl⟩
theorem uT {ws:List Str} {σ:St} {H:Hp} {QA:List V→Hp→Prop} (h:QA (ws.map V.str) H):tStrs ws σ H QA:=h
end L2
namespace L2
open PySem PySem.Spec PyProof.Rows
inductive Atom where
 | num (n:Int) | nm (k:Int)
 deriving DecidableEq
mutual
inductive Stp where
 | start (to:Int) (a:Atom) (pl:Int) | box (to:Int) (a:Atom) (pl:Int) | tell (to:Int) (a:Atom) (pl:Int)
 | read (to x:Int) | load (to x:Int)
 | set (to x:Int) (a:Atom) (pl:Int) | store (to x:Int) (a:Atom) (pl:Int)
 | math (to:Int) (op:Str) (a b:Atom) (pl:Int)
 | make (to:Int) (tag:Str) (as:List Atom) (pl:Int)
 | ask (to pl:Int)
 | rais (to:Int) (w:Str) (a:Atom) (pl:Int)
 | call (to:Int) (a:Atom) (as:List Atom) (pl:Int) (last:Bool)
 | close (to n:Int) (xs:List Int) (pl:Int)
 | func (to:Int) (ps:List Int) (b:Bdy) (pl:Int)
 | iff (to:Int) (a:Atom) (y n:Bdy) (pl:Int)
 | mtch (to:Int) (a:Atom) (tag:Str) (xs:List Int) (y n:Bdy) (pl:Int)
 | tri (to:Int) (one:Bdy) (w:Str) (x:Int) (other:Bdy) (pl:Int)
inductive Bdy where
 | mk (steps:List Stp) (last:Atom)
end
namespace Atom
def d:Atom→D
 | .num n=>.tup [.str "number",.int n]
 | .nm k=>.tup [.str "name",.int k]
end Atom
mutual
def Stp.d:Stp→D
 | .start to a pl=>.tup [.str "start",.int to,a.d,.int pl]
 | .box to a pl=>.tup [.str "box",.int to,a.d,.int pl]
 | .tell to a pl=>.tup [.str "tell",.int to,a.d,.int pl]
 | .read to x=>.tup [.str "read",.int to,.int x]
 | .load to x=>.tup [.str "load",.int to,.int x]
 | .set to x a pl=>.tup [.str "set",.int to,.int x,a.d,.int pl]
 | .store to x a pl=>.tup [.str "store",.int to,.int x,a.d,.int pl]
 | .math to op a b pl=>.tup [.str "math",.int to,.str op,a.d,b.d,.int pl]
 | .make to tag as pl=>.tup [.str "make",.int to,.str tag,.tup (as.map Atom.d),.int pl]
 | .ask to pl=>.tup [.str "ask",.int to,.int pl]
 | .rais to w a pl=>.tup [.str "raise",.int to,.str w,a.d,.int pl]
 | .call to a as pl last=>.tup [.str "call",.int to,a.d,.tup (as.map Atom.d),.int pl,.bl last]
 | .close to n xs pl=>.tup [.str "close",.int to,.int n,.tup (xs.map D.int),.int pl]
 | .func to ps b pl=>.tup [.str "func",.int to,.tup (ps.map D.int),b.d,.int pl]
 | .iff to a y n pl=>.tup [.str "if",.int to,a.d,y.d,n.d,.int pl]
 | .mtch to a tag xs y n pl=>.tup [.str "match",.int to,a.d,.str tag,.tup (xs.map D.int),y.d,n.d,.int pl]
 | .tri to one w x other pl=>.tup [.str "try",.int to,one.d,.str w,.int x,other.d,.int pl]
def Bdy.d:Bdy→D
 | .mk steps last=>.tup [.tup (Stp.ds steps),last.d]
def Stp.ds:List Stp→List D
 | []=>[]
 | s::r=>s.d::Stp.ds r
end
theorem Stp.ds_eq:∀ l:List Stp,Stp.ds l=l.map Stp.d
 | []=>rfl
 | s::r=>congrArg (s.d::·) (Stp.ds_eq r)
theorem Bdy.d_eq (steps:List Stp) (last:Atom):(Bdy.mk steps last).d = .tup [.tup (steps.map Stp.d),last.d]:=congrArg (fun z=>D.tup [.tup z,last.d]) (Stp.ds_eq steps)
def Stp.to:Stp→Int
 | .start to _ _ | .box to _ _ | .tell to _ _ | .read to _ | .load to _ | .set to _ _ _ | .store to _ _ _ | .math to _ _ _ _ | .make to _ _ _ | .ask to _ | .rais to _ _ _ | .call to _ _ _ _ | .close to _ _ _ | .func to _ _ _ | .iff to _ _ _ _ | .mtch to _ _ _ _ _ _ | .tri to _ _ _ _ _=>to
def Stp.ops:Stp→List Atom
 | .start _ a _ | .box _ a _ | .tell _ a _=>[a]
 | .read _ x | .load _ x=>[.nm x]
 | .set _ x a _ | .store _ x a _=>[.nm x,a]
 | .math _ _ a b _=>[a,b]
 | .make _ _ as _=>as
 | .ask _ _=>[]
 | .rais _ _ a _=>[a]
 | .call _ a as _ _=>a::as
 | .close _ _ xs _=>xs.map .nm
 | .func _ _ _ _=>[]
 | .iff _ a _ _ _=>[a]
 | .mtch _ a _ _ _ _ _=>[a]
 | .tri _ _ _ _ _ _=>[]
def Stp.inn:Stp→List (List Int×Bdy)
 | .func _ ps b _=>[(ps,b)]
 | .iff _ _ y n _=>[([],y),([],n)]
 | .mtch _ _ _ xs y n _=>[(xs,y),([],n)]
 | .tri _ one _ x other _=>[([],one),([x],other)]
 | _=>[]
def pairD (p:List Int×Bdy):D:=.tup [.tup (p.1.map D.int),p.2.d]
def Bdy.steps:Bdy→List Stp
 | .mk s _=>s
def Bdy.last:Bdy→Atom
 | .mk _ a=>a
end L2
namespace L2
open PySem PySem.Spec PyProof.Rows
inductive Sub:Bdy→List Int×Bdy→Prop where
 | here {b:Bdy} {s:Stp} {x:List Int×Bdy}:s∈b.steps→x∈s.inn→Sub b x
 | deep {b:Bdy} {s:Stp} {x y:List Int×Bdy}:s∈b.steps→x∈s.inn→Sub x.2 y→Sub b y
theorem Sub.snoc {b:Bdy} {x y:List Int×Bdy} {s:Stp} (h:Sub b x):s∈x.2.steps→y∈s.inn→Sub b y:=by
 induction h with
 | here h1 h2=>exact fun h3 h4=>.deep h1 h2 (.here h3 h4)
 | deep h1 h2 _ ih=>exact fun h3 h4=>.deep h1 h2 (ih h3 h4)
def In (b:Bdy) (x:List Int×Bdy):Prop:=x=([],b)∨Sub b x
theorem In.snoc {b:Bdy} {x y:List Int×Bdy} {s:Stp} (h:In b x) (h3:s∈x.2.steps) (h4:y∈s.inn):In b y:=by
 rcases h with rfl | h
 ·exact .inr (.here h3 h4)
 ·exact .inr (h.snoc h3 h4)
def Giv (b:Bdy) (k:Int):Prop:=∃ x,In b x∧(k∈x.1∨∃ s∈x.2.steps,s.to=k)
def Men (b:Bdy) (k:Int):Prop:=∃ x,In b x∧(x.2.last = .nm k∨∃ s∈x.2.steps,Atom.nm k∈s.ops)
def GivS (s:Stp) (k:Int):Prop:=s.to=k∨∃ x∈s.inn,k∈x.1∨Giv x.2 k
def MenS (s:Stp) (k:Int):Prop:=Atom.nm k∈s.ops∨∃ x∈s.inn,Men x.2 k
theorem Giv.iff {b:Bdy} {k:Int}:Giv b k↔∃ s∈b.steps,GivS s k:=by
 constructor
 ·rintro ⟨x,hx,hk⟩
  rcases hx with rfl | hx
  ·rcases hk with hk | ⟨s,hs,e⟩
   ·cases hk
   ·exact ⟨s,hs,.inl e⟩
  ·cases hx with
   | here h1 h2 =>
    refine ⟨_,h1,.inr ⟨x,h2,?_⟩⟩
    rcases hk with hk | hk
    ·exact .inl hk
    ·exact .inr ⟨([],x.2),.inl rfl,.inr hk⟩
   | deep h1 h2 h3=>exact ⟨_,h1,.inr ⟨_,h2,.inr ⟨x,.inr h3,hk⟩⟩⟩
 ·rintro ⟨s,hs,hk⟩
  rcases hk with e | ⟨x,hx,hk⟩
  ·exact ⟨([],b),.inl rfl,.inr ⟨s,hs,e⟩⟩
  ·rcases hk with hk | ⟨y,hy,hk⟩
   ·exact ⟨x,.inr (.here hs hx),.inl hk⟩
   ·rcases hy with rfl | hy
    ·rcases hk with hk | hk
     ·cases hk
     ·exact ⟨x,.inr (.here hs hx),.inr hk⟩
    ·exact ⟨y,.inr (.deep hs hx hy),hk⟩
theorem Men.iff {b:Bdy} {k:Int}:Men b k↔b.last = .nm k∨∃ s∈b.steps,MenS s k:=by
 constructor
 ·rintro ⟨x,hx,hk⟩
  rcases hx with rfl | hx
  ·rcases hk with hk | ⟨s,hs,e⟩
   ·exact .inl hk
   ·exact .inr ⟨s,hs,.inl e⟩
  ·cases hx with
   | here h1 h2=>exact .inr ⟨_,h1,.inr ⟨x,h2,([],x.2),.inl rfl,hk⟩⟩
   | deep h1 h2 h3=>exact .inr ⟨_,h1,.inr ⟨_,h2,x,.inr h3,hk⟩⟩
 ·rintro (e | ⟨s,hs,hk⟩)
  ·exact ⟨([],b),.inl rfl,.inl e⟩
  ·rcases hk with e | ⟨x,hx,y,hy,hk⟩
   ·exact ⟨([],b),.inl rfl,.inr ⟨s,hs,e⟩⟩
   ·rcases hy with rfl | hy
    ·exact ⟨x,.inr (.here hs hx),hk⟩
    ·exact ⟨y,.inr (.deep hs hx hy),hk⟩
mutual
def Bdy.cnt:Bdy→Nat
 | .mk steps _=>1+Stp.cnts steps
def Stp.cnt:Stp→Nat
 | .func _ _ b _=>b.cnt
 | .iff _ _ y n _=>y.cnt+n.cnt
 | .mtch _ _ _ _ y n _=>y.cnt+n.cnt
 | .tri _ one _ _ other _=>one.cnt+other.cnt
 | _=>0
def Stp.cnts:List Stp→Nat
 | []=>0
 | s::r=>s.cnt+Stp.cnts r
end
def cntL (l:List (List Int×Bdy)):Nat:=(l.map fun x=>x.2.cnt).sum
theorem mz (s:Stp):cntL s.inn=s.cnt:=by
 cases s <;> simp [cntL,Stp.inn,Stp.cnt]
theorem fg:∀ l:List Stp,cntL (l.flatMap Stp.inn)=Stp.cnts l
 | []=>by simp [cntL,Stp.cnts]
 | s::r=>by
  have:=fg r
  have h:=mz s
  simp [cntL,Stp.cnts] at this h ⊢
  lia
theorem Bdy.cnt_eq (b:Bdy):b.cnt=1+cntL (b.steps.flatMap Stp.inn):=by
 cases b with
 | mk steps last=>rw [fg];simp [Bdy.cnt,Bdy.steps]
theorem Bdy.cnt_pos (b:Bdy):1≤b.cnt:=by rw [b.cnt_eq];lia
theorem Stp.cnts_eq:∀ l:List Stp,Stp.cnts l=(l.map Stp.cnt).sum
 | []=>rfl
 | s::r=>by simp [Stp.cnts,Stp.cnts_eq r]
structure OkB (b:Bdy):Prop where
 cnt:b.cnt≤10000
 len:∀ x,In b x→x.2.steps.length≤1000∧∀ s∈x.2.steps,s.ops.length≤1000
 giv:∀ k,Giv b k→0≤k∧k<100000
 men:∀ k,Men b k→0≤k∧k<100000
theorem cr:∀ (N:Nat) {l:List Int},l.Nodup→(∀ k∈l,0≤k∧k<(N:Int))→l.length≤N
 | 0,l,_,h=>by
  cases l with
  | nil=>exact xAg _
  | cons k r=>have:=h k xAr;lia
 | N+1,l,nd,h=>by
  have e:=cr N (l:=l.erase (N:Int)) (nd.erase _) (fun k hk=>by
   have h1:=h k (List.mem_of_mem_erase hk)
   have h2:k≠(N:Int):=fun z=>by
    subst z
    exact (nd.mem_erase_iff.mp hk).1 rfl
   lia)
  rw [List.length_erase] at e
  split at e <;> lia
theorem gc:∀ {l m:List Int},l.Pairwise (·<·)→m.Pairwise (·<·)→(∀ k,k∈l↔k∈m)→l=m
 | [],[],_,_,_=>rfl
 | [],y::m,_,_,h=>by have:=(h y).mpr xAr;cases this
 | x::l,[],_,_,h=>by have:=(h x).mp xAr;cases this
 | x::l,y::m,h1,h2,h=>by
  rw [List.pairwise_cons] at h1 h2
  have e:x=y:=by
   rcases xAv.mp ((h x).mp xAr) with e | e
   ·exact e
   ·rcases xAv.mp ((h y).mpr xAr) with e' | e'
    ·exact e'.symm
    ·have a:=h2.1 x e
     have b:=h1.1 y e'
     lia
  subst e
  rw [gc h1.2 h2.2 fun k=>?_]
  constructor
  ·intro hk
   rcases xAv.mp ((h k).mp (xAs _ hk)) with e | e
   ·have:=h1.1 k hk
    lia
   ·exact e
  ·intro hk
   rcases xAv.mp ((h k).mpr (xAs _ hk)) with e | e
   ·have:=h2.1 k hk
    lia
   ·exact e
theorem iB {l:List Int} (h:l.Pairwise (·≤·)) (nd:l.Nodup):l.Pairwise (·<·):=by
 induction l with
 | nil=>exact .nil
 | cons x r ih =>
  rw [List.pairwise_cons] at h ⊢
  rw [xCb] at nd
  exact ⟨fun y hy=>by
   have a:=h.1 y hy
   have b:x≠y:=fun z=>nd.1 (by rw [z];exact hy)
   lia,ih h.2 nd.2⟩
def DKeys (H:Hp) (a:Addr) (ks:List Int):Prop:=∃ kvs,H a=some (.dK kvs)∧kvs.map (·.1)=ks.map Sum.inl
theorem eQ {kvs:List (Key×V)} {ks:List Int} {k:Int} (h:kvs.map (·.1)=ks.map Sum.inl):valV kvs (.inl k)=none↔k ∉ ks:=by
 induction kvs generalizing ks with
 | nil =>
  cases ks with
  | nil=>simp [valV]
  | cons _ _=>simp at h
 | cons p r ih =>
  cases ks with
  | nil=>simp at h
  | cons k' ks =>
   simp only [xBs,List.cons.injEq] at h
   obtain ⟨h1,h2⟩:=h
   have ih:=ih h2
   unfold valV at ih ⊢
   rw [xB4,h1]
   by_cases e:k'=k
   ·subst e;simp
   ·have e':¬ (Sum.inl k':Key)=Sum.inl k:=fun z=>e (Sum.inl.inj z)
    simp only [e',decide_false]
    simp only [xAv,not_or]
    rw [ih]
    constructor
    ·exact fun z=>⟨fun y=>e y.symm,z⟩
    ·exact fun z=>z.2
theorem qp {kvs:List (Key×V)} {ks:List Int} {k:Int} {v:V} (h:kvs.map (·.1)=ks.map Sum.inl):(putK kvs (.inl k) v).map (·.1)=(if k∈ks then ks else ks++[k]).map Sum.inl:=by
 unfold putK
 rw [dq]
 by_cases hk:k∈ks
 ·have e:(valV kvs (.inl k)).isSome=true:=by
   cases z:valV kvs (.inl k) with
   | none=>exact absurd hk ((eQ h).mp z)
   | some _=>rfl
  rw [xCg e,xCg hk,← h,xCc]
  apply List.map_congr_left
  intro p _
  dsimp only [Function.comp_apply]
  split <;> rfl
 ·rw [(eQ h).mpr hk,xCf (by simp),xCf hk,xAi,h,xAi]
  rfl
theorem DKeys.put {H:Hp} {a:Addr} {ks:List Int} {kvs:List (Key×V)} (k:Int) (v:V) (h:kvs.map (·.1)=ks.map Sum.inl):DKeys (upd H a (.dK (putK kvs (.inl k) v))) a (if k∈ks then ks else ks++[k]):=⟨_,ah,qp h⟩
theorem gZ {ks:List Int} (k:Int) (h:ks.Nodup):(if k∈ks then ks else ks++[k]).Nodup:=by
 by_cases e:k∈ks
 ·rw [xCg e];exact h
 ·rw [xCf e,xBq]
  refine ⟨h,by simp,fun x hx y hy=>?_⟩
  rw [xAm] at hy
  subst hy
  exact fun z=>e (by rw [← z];exact hx)
theorem lN {ks:List Int} {k j:Int}:j∈(if k∈ks then ks else ks++[k])↔j∈ks∨j=k:=by
 by_cases e:k∈ks
 ·rw [xCg e]
  exact ⟨.inl,fun z=>z.elim id (fun y=>by rw [y];exact e)⟩
 ·rw [xCf e,xAj,xAm]
end L2
namespace L2
open PySem PySem.Spec PyProof.Rows
def cSortedD:List V→Hp→VK→Prop:=fun xs H Q=>∃ (d:Addr) (kvs:List (Key×V)) (ns:List Int),xs=[.ref d]∧Rd H d (.dK kvs)∧kvs.map (·.1)=ns.map Sum.inl ∧
  ∀ (l:Addr) (ns':List Int),H l=none→ns'.Perm ns→ns'.Pairwise (·≤·)→Q (.ref l) (upd H l (.lst (ns'.map V.int)))
theorem gE {X:Cx} (hc:X.calm=true):CallR X (.builtin "sorted") cSortedD:=i6 hc
theorem gV {H:Hp} {Q:VK} {d:Addr} {ks:List Int} (e:DKeys H d ks) (nd:ks.Nodup) (h:∀ (l:Addr) (ns:List Int) (H2:Hp),Same H H2→H l=none→H2 l=some (.lst (ns.map V.int))→ns.Pairwise (·<·)→(∀ k,k∈ns↔k∈ks)→Q (.ref l) H2):cSortedD [.ref d] H Q:=by
 obtain ⟨kvs,h1,h2⟩:=e
 exact ⟨d,kvs,ks,rfl,.inl h1,h2,fun l ns' hl hp hw=>h l ns' _ (aw hl _) hl ah (iB hw (hp.nodup_iff.mpr nd)) fun k=>hp.mem_iff⟩
section
variable {c:TT} {tb:TS} {Dn:Ends} {σ:St} {H:Hp}
def nWh (Pv:Nat→St→Hp→Prop) (m:Nat) (tb:TS) (Dn:Ends) (σ:St) (b:Bool) (H:Hp):Prop :=
 if b=true then ∃ N:St→Hp→Prop,(∀ σ' H',N σ' H'→∃ m',m'<m∧Pv m' σ' H')∧tb { Dn with nx:=N,ct:=N,bk:=Dn.nx } σ H else Dn.nx σ H
theorem kS (Pv:Nat→St→Hp→Prop) (m:Nat) (h0:Pv m σ H) (hs:∀ m σ H,Pv m σ H→c σ H (nWh Pv m tb Dn σ)):tWhile c tb Dn σ H:=⟨Pv,⟨m,h0⟩,hs⟩
theorem yl {Pv:Nat→St→Hp→Prop} {m:Nat} {b:Bool} (h1:b=true→tb { Dn with nx:=fun σ' H'=>∃ m',m'<m∧Pv m' σ' H',ct:=fun σ' H'=>∃ m',m'<m∧Pv m' σ' H',bk:=Dn.nx } σ H) (h2:b=false→Dn.nx σ H):nWh Pv m tb Dn σ b H:=by
 unfold nWh
 cases b with
 | true=>rw [xCg rfl];exact ⟨_,fun _ _ z=>z,h1 rfl⟩
 | false=>rw [xCf xAy];exact h2 rfl
end
theorem ba {A B:Prop} {b:Bool} (h1:b=true→A) (h2:b=false→B):if b=true then A else B:=by
 cases b with
 | true=>rw [xCg rfl];exact h1 rfl
 | false=>rw [xCf xAy];exact h2 rfl
theorem lineM {n:Nat} (h:n≤16000000):n<sizeLine:=by rw [sizeLine_eq];lia
theorem lineMe {n:Nat} (h:n≤16000000):n≤sizeLine:=Nat.le_of_lt (lineM h)
end L2
namespace L2
open PySem PySem.Spec PyProof.Rows
theorem jw:∀ l:List (List Int×Bdy),l.length≤cntL l
 | []=>xAg _
 | x::r=>by
  have:=jw r
  have h:=x.2.cnt_pos
  simp only [cntL,xBs,xB9,xAo] at this ⊢
  lia
theorem aZ (l m:List (List Int×Bdy)):cntL (l++m)=cntL l+cntL m:=by simp [cntL]
structure BF (b:Bdy) (L:List (List Int×Bdy)) (k:Nat):Prop where
 first:([],b)∈L
 sub:∀ x∈L,In b x
 clo:∀ (i:Nat) (x:List Int×Bdy),i<k→L[i]?=some x→∀ s∈x.2.steps,∀ y∈s.inn,y∈L
 le:k≤L.length
 sum:k+cntL (L.drop k)=b.cnt
theorem BF.start (b:Bdy):BF b [([],b)] 0:=⟨by simp,fun x hx=>.inl (by simpa using hx),fun i x h=>by lia,by simp,by simp [cntL]⟩
theorem BF.len {b:Bdy} {L:List (List Int×Bdy)} {k:Nat} (h:BF b L k):L.length≤b.cnt:=by
 have h1:=jw (L.drop k)
 have h2:=h.sum
 rw [List.length_drop] at h1
 have:=h.le
 lia
theorem BF.step {b:Bdy} {L:List (List Int×Bdy)} {k:Nat} {x:List Int×Bdy} (h:BF b L k) (hx:L[k]?=some x):BF b (L++x.2.steps.flatMap Stp.inn) (k+1):=by
 have hk:k<L.length:=(xAq.mp hx).1
 have ex:L[k]=x:=(xAq.mp hx).2
 refine ⟨xBw _ h.first,fun y hy=>?_,fun i y hi hy s hs z hz=>?_,by rw [xAb];lia,?_⟩
 ·rcases xAj.mp hy with hy | hy
  ·exact h.sub y hy
  ·obtain ⟨s,hs,hy⟩:=xA4.mp hy
   exact (h.sub x (xAc hx)).snoc hs hy
 ·have hi':i<L.length:=by lia
  rw [List.getElem?_append_left hi'] at hy
  by_cases e:i=k
  ·subst e
   rw [hx] at hy
   cases hy
   exact xBt _ (xA4.mpr ⟨s,hs,hz⟩)
  ·exact xBw _ (h.clo i y (by lia) hy s hs z hz)
 ·have h1:=h.sum
  have h2:L.drop k=x::L.drop (k+1):=by rw [xB2 hk,ex]
  rw [h2] at h1
  rw [List.drop_append_of_le_length (by lia),aZ]
  have h3:=x.2.cnt_eq
  have h4:cntL (x::L.drop (k+1))=x.2.cnt+cntL (L.drop (k+1)):=by simp [cntL]
  lia
theorem BF.done {b:Bdy} {L:List (List Int×Bdy)} {k:Nat} (h:BF b L k) (hk:L.length≤k) (x:List Int×Bdy):x∈L↔In b x:=by
 refine ⟨h.sub x,fun hx=>?_⟩
 have key:∀ {c:Bdy} {y:List Int×Bdy},Sub c y→∀ ns,(ns,c)∈L→y∈L:=by
  intro c y hy
  induction hy with
  | @here c s y h1 h2 =>
   intro ns hm
   obtain ⟨i,hi⟩:=xB8.mp hm
   exact h.clo i (ns,c) (xBc (xAq.mp hi).1 hk) hi s h1 y h2
  | @deep c s z y h1 h2 _ ih =>
   intro ns hm
   obtain ⟨i,hi⟩:=xB8.mp hm
   exact ih z.1 (h.clo i (ns,c) (xBc (xAq.mp hi).1 hk) hi s h1 z h2)
 rcases hx with rfl | hx
 ·exact h.first
 ·exact key hx [] h.first
theorem BF.part {b:Bdy} {L:List (List Int×Bdy)} {k j:Nat} {x:List Int×Bdy} (h:BF b L k) (hx:L[k]?=some x):(L++(x.2.steps.take j).flatMap Stp.inn).length≤b.cnt:=by
 have h1:=(h.step hx).len
 rw [xAb] at h1 ⊢
 have h2:(x.2.steps.flatMap Stp.inn).length=((x.2.steps.take j).flatMap Stp.inn).length+((x.2.steps.drop j).flatMap Stp.inn).length:=by
  rw [← xAb,← List.flatMap_append,xBx]
 lia
theorem aV {α β:Type} {f:α→List β} {l:List α} {i:Nat} {x:α} (h:l[i]?=some x):(l.take (i+1)).flatMap f=(l.take i).flatMap f++f x:=by
 rw [List.take_add_one,h,List.flatMap_append]
 simp
theorem Rp.body {H:Hp} {b:Bdy} {v:V} (h:Rp H b.d v):∃ p q ws va,v = .ref p∧H p=some (.tup [.ref q,va])∧H q=some (.tup ws)∧Rps H (b.steps.map Stp.d) ws∧Rp H b.last.d va:=by
 cases b with
 | mk steps last =>
  rw [Bdy.d_eq] at h
  obtain ⟨p,_,rfl,hp,vq,_,rfl,⟨q,ws,rfl,hq,hw⟩,va,_,rfl,ha,rfl⟩:=h
  exact ⟨p,q,ws,va,rfl,hp,hq,hw,ha⟩
theorem Rp.pair {H:Hp} {x:List Int×Bdy} {v:V} (h:Rp H (pairD x) v):∃ p n vb,v = .ref p∧H p=some (.tup [.ref n,vb])∧H n=some (.tup (x.1.map V.int))∧Rp H x.2.d vb:=by
 obtain ⟨p,_,rfl,hp,vn,_,rfl,⟨n,wn,rfl,hn,hw⟩,vb,_,rfl,hb,rfl⟩:=h
 rw [hw.ints] at hn
 exact ⟨p,n,vb,rfl,hp,hn,hb⟩
theorem Rps.mapGet {α:Type} {f:α→D} {H:Hp} {l:List α} {vs:List V} (h:Rps H (l.map f) vs) {i:Nat} {x:α} (e:l[i]?=some x):∃ v,vs[i]?=some v∧Rp H (f x) v:=h.get (by rw [xAw,e];rfl)
theorem Rps.mapGet' {α:Type} {f:α→D} {H:Hp} {l:List α} {vs:List V} (h:Rps H (l.map f) vs) {i:Nat} {v:V} (e:vs[i]?=some v):∃ x,l[i]?=some x∧Rp H (f x) v:=by
 obtain ⟨d,e1,r⟩:=h.get' e
 rw [xAw] at e1
 cases q:l[i]? with
 | none=>rw [q] at e1;cases e1
 | some x =>
  rw [q] at e1
  cases e1
  exact ⟨x,rfl,r⟩
theorem Rps.mapLen {α:Type} {f:α→D} {H:Hp} {l:List α} {vs:List V} (h:Rps H (l.map f) vs):vs.length=l.length:=by rw [h.length,xAa]
end L2
namespace L2
open PySem PySem.Spec PyProof.Rows
structure KS (H:Hp) (a:Addr) (S:Int→Prop):Prop where
 ex:∃ ks,DKeys H a ks∧ks.Nodup∧∀ k,k∈ks↔S k
theorem KS.congr {H:Hp} {a:Addr} {S S':Int→Prop} (h:KS H a S) (e:∀ k,S k↔S' k):KS H a S' :=
 let ⟨ks,h1,h2,h3⟩:=h.ex;⟨ks,h1,h2,fun k=>(h3 k).trans (e k)⟩
theorem KS.same {H H':Hp} {a:Addr} {S:Int→Prop} (h:KS H a S) (s:Same H H'):KS H' a S :=
 let ⟨ks,⟨kvs,h0,h1⟩,h2,h3⟩:=h.ex;⟨ks,⟨kvs,s _ _ h0,h1⟩,h2,h3⟩
theorem KS.kept {H H':Hp} {fp:List Addr} {a:Addr} {S:Int→Prop} (h:KS H a S) (s:Kept fp H H') (n:a ∉ fp):KS H' a S :=
 let ⟨ks,⟨kvs,h0,h1⟩,h2,h3⟩:=h.ex;⟨ks,⟨kvs,s _ _ h0 n,h1⟩,h2,h3⟩
theorem KS.empty {H:Hp} {a:Addr} (h:H a=some (.dK [])):KS H a fun _=>False:=⟨[],⟨[],h,rfl⟩,by simp,by simp⟩
theorem KS.at {H:Hp} {a:Addr} {S:Int→Prop} (h:KS H a S):∃ kvs,H a=some (.dK kvs):=let ⟨_,⟨kvs,h0,_⟩,_⟩:=h.ex;⟨kvs,h0⟩
theorem KS.noT {H:Hp} {a:Addr} {S:Int→Prop} (h:KS H a S):∀ xs,H a≠some (.tup xs):=fun xs z=>by
 obtain ⟨kvs,e⟩:=h.at
 rw [z] at e
 cases e
theorem KS.ne {H:Hp} {a l:Addr} {S:Int→Prop} {xs:List V} (h:KS H a S) (hl:H l=some (.lst xs)):l≠a:=by
 obtain ⟨kvs,e⟩:=h.at
 exact uk hl e (fun z=>nomatch z)
theorem eE {H:Hp} {a:Addr} {S:Int→Prop} {k:Int} {v:V} {QH:Hp→Prop} (h:KS H a S) (bd:∀ j,S j→0≤j∧j<100000)
  (q:∀ H',Kept [a] H H'→TLe H H'→(∀ b,b≠a→H' b=H b)→KS H' a (fun j=>S j∨j=k)→QH H'):nDPut (.ref a) (.int k) v H QH:=by
 have nt:=h.noT
 obtain ⟨ks,⟨kvs,h0,h1⟩,h2,h3⟩:=h.ex
 have hl:kvs.length≤100000:=by
  have:=cr 100000 h2 (fun j hj=>by have:=bd j ((h3 j).mp hj);exact ⟨this.1,this.2⟩)
  have e:kvs.length=ks.length:=by
   have:=congrArg List.length h1
   simpa using this
  lia
 refine cJ h0 (lineM (by lia)) (q _ (.put (by simp)) (.upd nt) (fun b hb=>aA hb) ⟨_,DKeys.put k v h1,gZ k h2,fun j=>?_⟩)
 rw [lN,h3]
theorem oH {H:Hp} {a:Addr} {S:Int→Prop} {Q:VK} (h:KS H a S) (q:∀ (l:Addr) (ns:List Int) (H2:Hp),Same H H2→H l=none→H2 l=some (.lst (ns.map V.int))→ns.Pairwise (·<·)→(∀ k,k∈ns↔S k)→Q (.ref l) H2):cSortedD [.ref a] H Q:=by
 obtain ⟨ks,h1,h2,h3⟩:=h.ex
 exact gV h1 h2 fun l ns H2 s2 n2 e p m=>q l ns H2 s2 n2 e p fun k=>(m k).trans (h3 k)
theorem a0 {α:Type} {l:List α} {i:Nat} {x y:α} (h:l[i]?=some x):y∈l.take (i+1)↔y∈l.take i∨y=x:=by
 rw [List.take_add_one,h,xAj]
 simp
def MK (L:List (List Int×Bdy)) (k:Int):Prop:=∃ x∈L,x.2.last = .nm k∨∃ s∈x.2.steps,Atom.nm k∈s.ops
theorem MK.men {b:Bdy} {L:List (List Int×Bdy)} (h:∀ x,x∈L↔In b x) (k:Int):MK L k↔Men b k:=by
 constructor
 ·rintro ⟨x,hx,e⟩;exact ⟨x,(h x).mp hx,e⟩
 ·rintro ⟨x,hx,e⟩;exact ⟨x,(h x).mpr hx,e⟩
theorem MK.succ {L:List (List Int×Bdy)} {i:Nat} {x:List Int×Bdy} (h:L[i]?=some x) (k:Int):MK (L.take (i+1)) k↔MK (L.take i) k∨Atom.nm k∈x.2.last::x.2.steps.flatMap Stp.ops:=by
 rw [xAv,xA4]
 constructor
 ·rintro ⟨y,hy,e⟩
  rcases (a0 h).mp hy with hy | rfl
  ·exact .inl ⟨y,hy,e⟩
  ·exact .inr (e.imp (fun z=>z.symm) id)
 ·rintro (⟨y,hy,e⟩ | e)
  ·exact ⟨y,(a0 h).mpr (.inl hy),e⟩
  ·exact ⟨x,(a0 h).mpr (.inr rfl),e.imp (fun z=>z.symm) id⟩
theorem MK.of_take {L:List (List Int×Bdy)} {i:Nat} {k:Int} (h:MK (L.take i) k):MK L k:=let ⟨x,hx,e⟩:=h;⟨x,xBj hx,e⟩
theorem Atom.inv {H:Hp} {a:Atom} {v:V} (h:Rp H a.d v):∃ p w n,v = .ref p∧H p=some (.tup [.str w,.int n])∧((a = .num n∧w="number")∨(a = .nm n∧w="name")):=by
 cases a with
 | num n =>
  obtain ⟨p,_,rfl,hp,_,_,rfl,rfl,_,_,rfl,rfl,rfl⟩:=h
  exact ⟨p,_,n,rfl,hp,.inl ⟨rfl,rfl⟩⟩
 | nm n =>
  obtain ⟨p,_,rfl,hp,_,_,rfl,rfl,_,_,rfl,rfl,rfl⟩:=h
  exact ⟨p,_,n,rfl,hp,.inr ⟨rfl,rfl⟩⟩
theorem Stp.inv {H:Hp} {s:Stp} {v:V} (h:Rp H s.d v):∃ p r w,v = .ref p∧H p=some (.tup (.str w::.int s.to::r)):=by
 have e:∃ (w:Str) (ds:List D),s.d = .tup (.str w::.int s.to::ds):=by cases s <;> exact ⟨_,_,rfl⟩
 obtain ⟨w,ds,e⟩:=e
 rw [e] at h
 obtain ⟨p,_,rfl,hp,_,_,rfl,rfl,_,r,rfl,rfl,_⟩:=h
 exact ⟨p,r,w,rfl,hp⟩
theorem jU {α:Type} {x:α} {r:List α}:atI (x::r) 0=some x:=cV (j:=0) rfl
theorem il {α:Type} {x y:α} {r:List α}:atI (x::y::r) 1=some y:=cV (j:=1) rfl
end L2
namespace L2
open PySem PySem.Spec PyProof.Rows
def CDivP (i j:Int):Prop:=0<j∧j≤10 ^ 18
theorem gk {X:Cx}:OpR X (binaryOp .FloorDiv) (rI CDivP fun i j=>.int (i / j)):=by
 intro pins s σ H x y v u Q I rx ry h
 obtain ⟨i,j,rfl,rfl,⟨hj,hj2⟩,q⟩:=h
 have hl:j.natAbs.log2<9000:=by
  have h1:j.natAbs<2 ^ 60:=by
   have:(2:Int) ^ 60=1152921504606846976:=by decide
   have:(10:Int) ^ 18=1000000000000000000:=by decide
   have:(2:Nat) ^ 60=1152921504606846976:=by decide
   lia
  have:=(Nat.log2_lt (n:=j.natAbs) (by lia)).mpr h1
  lia
 refine pI pins s σ H _ _ v u Q I rx ry ⟨i,j,rfl,rfl,⟨by lia,PyProof.noPylong_of_log2 hl⟩,?_⟩
 have e:i.fdiv j=i / j:=Int.fdiv_eq_ediv_of_nonneg _ (by lia)
 change Q (.int (i.fdiv j)) H
 rw [e]
 exact q
def digK (n s:Int) (r:List (Key×V)):List (Key×V):=(.inr "number",.int n)::(.inr "seed",.int s)::r
theorem pT:(Sum.inr ("number":Str):Key)≠Sum.inr ("seed":Str):=by decide +kernel
structure DigR (r:List (Key×V)):Prop where
 no:∀ kv∈r,kv.1≠Sum.inr ("number":Str)∧kv.1≠Sum.inr ("seed":Str)
 few:r.length≤100
theorem gC {n s:Int} {r:List (Key×V)}:valV (digK n s r) (.inr "number")=some (.int n):=cZ rfl
theorem jI {n s:Int} {r:List (Key×V)}:valV (digK n s r) (.inr "seed")=some (.int s):=(dm pT).trans (cZ rfl)
theorem jv {r:List (Key×V)} {k:Key} {v:V} (h:∀ kv∈r,kv.1≠k):r.map (fun kv=>if kv.1=k then (kv.1,v) else kv)=r:=by
 induction r with
 | nil=>rfl
 | cons p r ih=>rw [xBs,xCf (h p xAr),ih fun kv hk=>h kv (xAs _ hk)]
theorem gi {n s i:Int} {r:List (Key×V)} (h:DigR r):putK (digK n s r) (.inr "number") (.int i)=digK i s r:=by
 unfold putK
 rw [dq,gC,xCg (show (some (V.int n)).isSome=true from rfl)]
 unfold digK
 rw [xBs,xBs,xCg rfl,xCf pT.symm,jv fun kv hk=>(h.no kv hk).1]
theorem oW {n s i:Int} {r:List (Key×V)} (h:DigR r):putK (digK n s r) (.inr "seed") (.int i)=digK n i r:=by
 unfold putK
 rw [dq,jI,xCg (show (some (V.int s)).isSome=true from rfl)]
 unfold digK
 rw [xBs,xBs,xCf pT,xCg rfl,jv fun kv hk=>(h.no kv hk).2]
structure DigN (n s:Int):Prop where
 n0:0≤n
 s0:0≤s
 s1:s<2147483647
end L2
namespace L2
open PySem PySem.Spec PyProof.Rows
end L2
namespace L2
open PySem PySem.Spec PyProof.Rows
section
variable {P:Program} {w:World} {K:xFr} {mg:Str→Option Value} {base:Heap}
theorem Fun.okS {x:Str} {st:Stmt} {sc:Scope} {f:Addr} {fd:FuncData} {N ps:List Str} {k:Nat} {sp:Sp} (F:Fun K x x st f fd) (S:FnScope N ps sc) (hsc:defScope st=sc) (len:∀ vs H Q E,sp vs H Q E→vs.length=ps.length)
  (hbody:∀ (cdv:Value) (A:Around) (outer:List Env) (s:Shared) (H:Hp) (vs:List V) (Q:VK) (E:XK),Room k (A.deeper (envOfC x sc s.heap.objs.size f cdv))→sp vs H Q E →
   ∃ t,PSs (cxOf CX0 P w K mg base N x sc f cdv A outer s H E).nox (defBody st) t∧t { nx:=fun _ H'=>Q .non H',rt:=Q } (start N vs) H):FnOk P w K mg base CX0 (k+1) f fd ps sp:=by
 subst hsc
 exact F.ok S len hbody
theorem Dn.never {x:Str} {st:Stmt} {ps:List Str} {sp:Sp} {k:Nat} (F:Dn K mg x st ps) (h:∀ vs H Q E,¬ sp vs H Q E):Cal P w K mg base x k ps sp:=by
 obtain ⟨f,fd,F1,F2,F3⟩:=F.ex
 exact ⟨f,fd,⟨fun vs H Q E z=>absurd z (h vs H Q E),fun A outer s H args us vs Q E _ _ _ _ z=>absurd z (h vs H Q E)⟩,F2,F3,F1.kp⟩
end
section
variable {trs:List (TE×TE)} {tk tv:TE} {σ:St} {H:Hp} {Q:VK} {QP:List (V×V)→Hp→Prop}
def nDisp (p:Addr) (Q:VK) (ps:List (V×V)) (H:Hp):Prop:=H p=some (.dK [])∧∃ kvs:List (Key×V),ps=kvs.map (fun kv=>(kV kv.1,kv.2))∧kvs.length≤15∧Q (.ref p) (upd H p (.dK (mergeK [] kvs)))
theorem vB (h:∀ p H1,Same H H1→H p=none→H1 p=some (.dK [])→tPairs trs σ H1 (nDisp p Q)):tDisp trs σ H Q:=fun p hp=>h p _ (aw hp _) hp ah
theorem rB (h:tk σ H fun k H1=>tv σ H1 fun v H2=>tPairs trs σ H2 fun ps H3=>QP ((k,v)::ps) H3):tPairs ((tk,tv)::trs) σ H QP:=h
theorem uU (h:QP [] H):tPairs [] σ H QP:=h
theorem rM {p:Addr} {ps:List (V×V)} (kvs:List (Key×V)) (e:H p=some (.dK [])) (hp:ps=kvs.map (fun kv=>(kV kv.1,kv.2))) (hl:kvs.length≤15) (h:Q (.ref p) (upd H p (.dK (mergeK [] kvs)))):nDisp p Q ps H:=⟨e,kvs,hp,hl,h⟩
variable {p q:Addr} {b:Bool}
theorem vG {ns:List Int} (e1:H p=some (.lst (ns.map V.int))) (e2:H q=some (.lst (ns.map V.int))) (h:Q (.bl b) H):rAlL b (.ref p) (.ref q) H Q :=
 ⟨p,q,_,_,0,rfl,rfl,e1,e2,rfl,by decide,fun j x y h1 h2=>by
  rw [h1] at h2
  cases h2
  obtain ⟨k,_,rfl⟩:=xA2.mp (xAc h1)
  exact .flat rfl,h⟩
end
end L2
namespace SetA
open PySem PySem.SetTable
def g:Nat→Nat
 | 0=>0
 | n+1=>5 * g n+1
theorem uz (n:Nat):5 ^ n=4 * g n+1:=by
 induction n with
 | zero=>rfl
 | succ n ih=>rw [Nat.pow_succ,ih];simp only [g];lia
def u (n x:Nat):Nat:=5 ^ n * x+g n
theorem og (n x:Nat):u (n+1) x=5 * u n x+1:=by
 unfold u
 rw [Nat.pow_succ]
 simp only [g]
 rw [Nat.mul_add,← Nat.mul_assoc,Nat.mul_comm (5 ^ n) 5]
 lia
theorem ue (m n x:Nat):u (n+m) x=5 ^ m * u n x+g m:=by
 induction m with
 | zero=>simp [g]
 | succ m ih =>
  rw [← Nat.add_assoc,og,ih,Nat.pow_succ]
  simp only [g]
  rw [Nat.mul_add,← Nat.mul_assoc,Nat.mul_comm (5 ^ m) 5]
  lia
theorem yg (k:Nat):∃ c,g (2 ^ k)=2 ^ k * (2 * c+1):=by
 induction k with
 | zero=>exact ⟨0,rfl⟩
 | succ k ih =>
  obtain ⟨c,hc⟩:=ih
  have e1:g (2 ^ (k+1))=5 ^ (2 ^ k) * g (2 ^ k)+g (2 ^ k):=by
   have e:=ue (2 ^ k) (2 ^ k) 0
   rw [← Nat.two_mul,Nat.mul_comm 2,← Nat.pow_succ] at e
   simpa [u] using e
  rw [e1,uz,hc,Nat.pow_succ]
  generalize 2 ^ k=P
  refine ⟨2 * c * (P * (2 * c+1))+P * (2 * c+1)+c,?_⟩
  grind
theorem met (k:Nat):∀ x j:Nat,∃ n,n<2 ^ k∧u n x % 2 ^ k=j % 2 ^ k:=by
 induction k with
 | zero=>exact fun x j=>⟨0,by decide,by simp [Nat.mod_one]⟩
 | succ k ih =>
  intro x j
  obtain ⟨n,hn,e⟩:=ih x j
  obtain ⟨c,hc⟩:=yg k
  have hP:0<2 ^ k:=Nat.two_pow_pos k
  have e2:u (n+2 ^ k) x=u n x+2 ^ k+2 * 2 ^ k * (2 * (2 * c+1) * u n x+c):=by
   rw [ue,uz,hc]
   generalize 2 ^ k=P
   generalize u n x=y
   grind
  rw [Nat.pow_succ,Nat.mul_comm]
  generalize 2 ^ k=P at *
  by_cases h:u n x % (2 * P)=j % (2 * P)
  ·exact ⟨n,by lia,h⟩
  ·refine ⟨n+P,by lia,?_⟩
   rw [e2,Nat.add_mul_mod_self_left]
   generalize u n x=y at *
   have a1:y % (2 * P) % P=y % P:=Nat.mod_mul_left_mod y 2 P
   have a2:j % (2 * P) % P=j % P:=Nat.mod_mul_left_mod j 2 P
   have a3:(y+P) % (2 * P) % P=y % P:=by rw [Nat.mod_mul_left_mod,Nat.add_mod_right]
   have b1:y % (2 * P)<2 * P:=Nat.mod_lt _ (by lia)
   have b2:j % (2 * P)<2 * P:=Nat.mod_lt _ (by lia)
   have c1:(y+P) % (2 * P)=(y % (2 * P)+P) % (2 * P):=by rw [Nat.add_mod,Nat.mod_eq_of_lt (show P<2 * P by lia)]
   rw [c1]
   generalize y % (2 * P)=y1 at *
   generalize j % (2 * P)=j1 at *
   have d1:y1 % P=j1 % P:=by lia
   have f:∀ z,z<2 * P→z % P=if z<P then z else z - P:=by
    intro z hz
    split
    ·exact Nat.mod_eq_of_lt ‹_›
    ·rw [Nat.mod_eq_sub_mod (by lia),Nat.mod_eq_of_lt (by lia)]
   rw [f y1 b1,f j1 b2] at d1
   split at d1 <;> split at d1
   ·lia
   ·rw [Nat.mod_eq_of_lt (by lia)];lia
   ·rw [Nat.mod_eq_sub_mod (by lia),Nat.mod_eq_of_lt (by lia)];lia
   ·lia
def nth (mask:Nat):Nat→Nat×Nat→Nat×Nat
 | 0,p=>p
 | n+1,p=>nth mask n (leap mask p.1 p.2)
theorem lD (mask:Nat):∀ (a b:Nat) (p:Nat×Nat),nth mask (a+b) p=nth mask b (nth mask a p):=by
 intro a
 induction a with
 | zero=>intro b p;rw [Nat.zero_add];rfl
 | succ a ih=>intro b p;rw [Nat.succ_add];exact ih b _
theorem wD (mask:Nat):∀ (n:Nat) (p:Nat×Nat),p.1≤mask→(nth mask n p).1≤mask:=by
 intro n
 induction n with
 | zero=>exact fun p h=>h
 | succ n ih =>
  intro p _
  refine ih _ ?_
  have:=Nat.mod_lt (p.1 * 5+1+p.2 / 32) (Nat.succ_pos mask)
  exact Nat.le_of_lt_succ this
theorem xY (mask:Nat):∀ (n:Nat) (p:Nat×Nat),(nth mask n p).2=p.2 / 32 ^ n:=by
 intro n
 induction n with
 | zero=>intro p;simp [nth]
 | succ n ih =>
  intro p
  simp only [nth,ih,leap]
  rw [Nat.div_div_eq_div_mul,Nat.pow_succ,Nat.mul_comm]
theorem xX (mask:Nat):∀ (n x:Nat),x≤mask→nth mask n (x,0)=(u n x % (mask+1),0):=by
 intro n
 induction n with
 | zero =>
  intro x h
  simp [nth,u,g,Nat.mod_eq_of_lt (Nat.lt_succ_of_le h)]
 | succ n ih =>
  intro x h
  have e:=lD mask n 1 (x,0)
  rw [e,ih x h]
  simp only [nth,leap,Nat.zero_div,Nat.add_zero]
  rw [og,Nat.mul_comm 5]
  congr 1
  rw [Nat.add_mod,Nat.mul_mod,Nat.mod_mod,← Nat.mul_mod,← Nat.add_mod]
theorem lands {mask k:Nat} (hk:mask+1=2 ^ k) {i p:Nat} (hi:i≤mask) (hp:p<2 ^ 64) {j:Nat} (hj:j≤mask):∃ n,n<turns mask∧(nth mask n (i,p)).1=j:=by
 have h2:(nth mask 13 (i,p)).2=0:=by
  rw [xY]
  exact Nat.div_eq_of_lt (xBc hp (by decide))
 have h1:=wD mask 13 (i,p) hi
 obtain ⟨n,hn,e⟩:=met k (nth mask 13 (i,p)).1 j
 refine ⟨13+n,by unfold turns;lia,?_⟩
 have e3:nth mask 13 (i,p)=((nth mask 13 (i,p)).1,0):=Prod.ext rfl h2
 rw [lD,e3,xX mask n _ h1]
 rw [hk]
 rw [e]
 exact Nat.mod_eq_of_lt (by lia)
def Ris (xs:Array Nat):Prop:=∀ i j (hi:i<xs.size) (hj:j<xs.size),i<j→xs[i]<xs[j]
theorem qX {xs:Array Nat} (hr:Ris xs) (j:Nat):∀ (fuel lo hi:Nat),lo≤hi→hi≤xs.size→hi - lo≤fuel →
  (∀ i (h:i<xs.size),i<lo→xs[i]<j)→(∀ i (h:i<xs.size),hi≤i→j≤xs[i]) →
  ∃ p,below.go xs j fuel lo hi=p∧p≤xs.size∧(∀ i (h:i<xs.size),i<p→xs[i]<j)∧(∀ i (h:i<xs.size),p≤i→j≤xs[i]):=by
 intro fuel
 induction fuel with
 | zero =>
  intro lo hi h1 h2 h3 a b
  have:lo=hi:=by lia
  subst this
  exact ⟨lo,rfl,h2,a,b⟩
 | succ fuel ih =>
  intro lo hi h1 h2 h3 a b
  unfold below.go
  by_cases hlt:lo<hi
  ·rw [xCg hlt]
   dsimp only
   have hm:(lo+hi) / 2<xs.size:=by lia
   have e:xs.getD ((lo+hi) / 2) j=xs[(lo+hi) / 2]:=by simp [Array.getD,hm]
   rw [e]
   split
   ·rename_i hc
    refine ih _ _ (by lia) h2 (by lia) (fun i h hi'=>?_) b
    by_cases q:i=(lo+hi) / 2
    ·subst q;exact hc
    ·exact Nat.lt_trans (hr _ _ h hm (by lia)) hc
   ·rename_i hc
    refine ih _ _ (by lia) (by lia) (by lia) a (fun i h hi'=>?_)
    by_cases q:i=(lo+hi) / 2
    ·subst q;lia
    ·exact Nat.le_trans (Nat.le_of_not_lt hc) (Nat.le_of_lt (hr _ _ hm h (by lia)))
  ·rw [xCf hlt]
   have:lo=hi:=by lia
   subst this
   exact ⟨lo,rfl,h2,a,b⟩
theorem gI {xs:Array Nat} (hr:Ris xs) (j:Nat):below xs j≤xs.size∧(∀ i (h:i<xs.size),i<below xs j→xs[i]<j)∧(∀ i (h:i<xs.size),below xs j≤i→j≤xs[i]):=by
 obtain ⟨p,e,r⟩:=qX hr j xs.size 0 xs.size (xBn _) (xAg _) (by lia) (fun i h hi=>absurd hi (Nat.not_lt_zero _)) (fun i h hi=>absurd h (by lia))
 have e':below xs j=p:=e
 rw [e']
 exact r
theorem gJ {xs:Array Nat} (hr:Ris xs) {i j:Nat} (hi:i≤xs.size) (a:∀ h:0<i,∀ h2:i - 1<xs.size,xs[i - 1]<j) (b:∀ h:i<xs.size,j≤xs[i]):below xs j=i:=by
 obtain ⟨h1,h2,h3⟩:=gI hr j
 by_cases q:below xs j<i
 ·have:=a (by lia) (by lia)
  have:=h3 (i - 1) (by lia) (by lia)
  lia
 ·by_cases q2:i<below xs j
  ·have:=b (by lia)
   have:=h2 i (by lia) q2
   lia
  ·lia
theorem wE {xs:Array Nat} (hr:Ris xs) {j:Nat} (h:xs[below xs j]?≠some j):∀ i (hi:i<xs.size),xs[i]≠j:=by
 intro i hi e
 obtain ⟨h1,h2,h3⟩:=gI hr j
 have hb:below xs j=i:=by
  refine gJ hr (Nat.le_of_lt hi) (fun h0 h4=>?_) (fun _=>by lia)
  have:=hr (i - 1) i h4 hi (by lia)
  lia
 exact h (by rw [hb,Array.getElem?_eq_getElem hi,e])
theorem ge {xs:Array Nat}:Ris xs↔xs.toList.Pairwise (·<·):=by
 rw [List.pairwise_iff_getElem]
 constructor
 ·intro h i j hi hj hij
  simpa using h i j (by simpa using hi) (by simpa using hj) hij
 ·intro h i j hi hj hij
  have:=h i j (by simpa using hi) (by simpa using hj) hij
  rwa [Array.getElem_toList,Array.getElem_toList] at this
theorem j8 {xs:Array Nat} (hr:Ris xs) {j:Nat} (h:xs[below xs j]?≠some j):Ris (insertAt xs (below xs j) j):=by
 obtain ⟨h1,h2,h3⟩:=gI hr j
 have hn:=wE hr h
 rw [ge,toList_insertAt]
 have hp:=ge.mp hr
 rw [List.pairwise_append]
 refine ⟨hp.sublist (List.take_sublist _ _),?_,?_⟩
 ·rw [List.pairwise_cons]
  refine ⟨fun x hx=>?_,hp.sublist (List.drop_sublist _ _)⟩
  obtain ⟨i,hi,e⟩:=List.getElem_of_mem hx
  rw [List.getElem_drop] at e
  rw [List.length_drop,xAh] at hi
  have hi2:below xs j+i<xs.size:=by lia
  have:=h3 (below xs j+i) hi2 (by lia)
  have:=hn _ hi2
  rw [Array.getElem_toList] at e
  lia
 ·intro x hx y hy
  obtain ⟨i,hi,e⟩:=List.getElem_of_mem hx
  rw [List.getElem_take] at e
  rw [xAn,xAh] at hi
  have hx2:x<j:=by
   have:=h2 i (by lia) (by lia)
   rw [Array.getElem_toList] at e
   lia
  rcases xAv.mp hy with rfl | hy
  ·exact hx2
  ·obtain ⟨i,hi,e⟩:=List.getElem_of_mem hy
   rw [List.getElem_drop] at e
   rw [List.length_drop,xAh] at hi
   have:=h3 (below xs j+i) (by lia) (by lia)
   rw [Array.getElem_toList] at e
   lia
theorem f9 {α:Type} (xs:Array α) (p:Nat):(eraseAt xs p).toList=xs.toList.eraseIdx p:=by
 rw [List.eraseIdx_eq_take_drop_succ]
 simp [eraseAt,List.extract_eq_take_drop,List.take_of_length_le]
theorem cW {α:Type} (xs:Array α) (p:Nat) (x:α):(insertAt xs p x).size=xs.size+1:=by
 rw [← xAh,toList_insertAt]
 simp only [xAb,xAn,xAo,List.length_drop,xAh]
 lia
theorem iy {α:Type} (xs:Array α) (p:Nat) (h:p<xs.size):(eraseAt xs p).size+1=xs.size:=by
 rw [← xAh,f9,List.length_eraseIdx_of_lt (by simpa using h)]
 simp only [xAh]
 lia
theorem gap:∀ (n:Nat) (l:List Nat),l.length<n→∃ j,j<n∧j ∉ l:=by
 intro n
 induction n with
 | zero=>intro l h;exact absurd h (Nat.not_lt_zero _)
 | succ n ih =>
  intro l h
  by_cases q:n∈l
  ·have hl:(l.erase n).length<n:=by
    rw [List.length_erase_of_mem q]
    have:=List.length_pos_of_mem q
    lia
   obtain ⟨j,h1,h2⟩:=ih (l.erase n) hl
   refine ⟨j,by lia,fun hj=>h2 ?_⟩
   exact (List.mem_erase_of_ne (by lia)).mpr hj
  ·exact ⟨n,by lia,q⟩
theorem cf (t:SetTable) (j:Nat):(t.slot j = .empty∧t.place[below t.place j]?≠some j∧has t.dummies j=false)∨(t.slot j = .dummy∧t.place[below t.place j]?≠some j∧has t.dummies j=true)∨(∃ i,t.slot j = .live i∧t.place[below t.place j]?=some j):=by
 unfold SetTable.slot
 dsimp only
 by_cases h:t.place[below t.place j]?=some j
 ·refine .inr (.inr ⟨below t.place j,?_,h⟩)
  rw [xCg (by rw [h];exact beq_self_eq_true _)]
 ·have e:¬ (t.place[below t.place j]? == some j)=true:=fun q=>h (beq_iff_eq.mp q)
  rw [xCf e]
  cases hd:has t.dummies j with
  | true=>exact .inr (.inl ⟨rfl,h,rfl⟩)
  | false=>exact .inl ⟨rfl,h,rfl⟩
theorem lZ {xs:Array Nat} {j:Nat} (h:has xs j=true):below xs j<xs.size∧j∈xs.toList:=by
 have e:xs[below xs j]?=some j:=beq_iff_eq.mp h
 obtain ⟨h1,h2⟩:=xB7.mp e
 refine ⟨h1,?_⟩
 rw [← h2]
 simp
theorem j7 {t:SetTable} (h:t.fill≤t.mask):∃ j,j≤t.mask∧t.slot j = .empty:=by
 obtain ⟨j,h1,h2⟩:=gap (t.mask+1) (t.place.toList++t.dummies.toList) (by
  rw [xAb,xAh,xAh]
  exact Nat.lt_succ_of_le h)
 refine ⟨j,by lia,?_⟩
 rcases cf t j with q | q | ⟨i,q1,q2⟩
 ·exact q.1
 ·exact absurd (xBt _ (lZ q.2.2).2) h2
 ·obtain ⟨h3,h4⟩:=xB7.mp q2
  refine absurd (xBw _ ?_) h2
  rw [← h4]
  simp
def DumOk (t:SetTable) (d:Option Nat):Prop:=∀ j,d=some j→t.slot j = .dummy
theorem mV (t:SetTable) (h:Int) (L:Nat) (i pert:Nat)
  (next:∀ d,DumOk t d→∃ j d',probe.go t (fun _=>h+1) h L ⟨(leap t.mask i pert).1,runEnd t.mask (leap t.mask i pert).1 - (leap t.mask i pert).1,(leap t.mask i pert).1,(leap t.mask i pert).2,d⟩=some (.empty j d')∧t.slot j = .empty∧DumOk t d') :
  ∀ (more j:Nat) (d:Option Nat),DumOk t d→∃ j' d',probe.go t (fun _=>h+1) h (L+(more+1)) ⟨j,more,i,pert,d⟩=some (.empty j' d')∧t.slot j' = .empty∧DumOk t d':=by
 intro more
 induction more with
 | zero =>
  intro j d hd
  rw [show L+(0+1)=L+1 from rfl]
  unfold probe.go
  dsimp only
  rcases cf t j with q | q | ⟨i',q1,q2⟩
  ·rw [q.1];exact ⟨j,d,rfl,q.1,hd⟩
  ·rw [q.1]
   dsimp only
   have:=next (some j) (fun j' e=>by cases e;exact q.1)
   simpa [advance] using this
  ·rw [q1]
   dsimp only
   have hne:¬ (h+1 == h)=true:=by
    intro hh
    have:=beq_iff_eq.mp hh
    lia
   rw [xCf hne]
   have:=next d hd
   simpa [advance] using this
 | succ more ih =>
  intro j d hd
  rw [show L+(more+1+1)=(L+(more+1))+1 from rfl]
  unfold probe.go
  dsimp only
  rcases cf t j with q | q | ⟨i',q1,q2⟩
  ·rw [q.1];exact ⟨j,d,rfl,q.1,hd⟩
  ·rw [q.1]
   dsimp only
   have:=ih (j+1) (some j) (fun j' e=>by cases e;exact q.1)
   simpa [advance] using this
  ·rw [q1]
   dsimp only
   have hne:¬ (h+1 == h)=true:=by
    intro hh
    have:=beq_iff_eq.mp hh
    lia
   rw [xCf hne]
   have:=ih (j+1) d hd
   simpa [advance] using this
theorem ma (t:SetTable) (f:Nat→Int) (h:Int):∀ (a b:Nat) (p:Probe) (m:Met),a≤b→probe.go t f h a p=some m→probe.go t f h b p=some m:=by
 intro a
 induction a with
 | zero=>intro b p m _ e;cases e
 | succ a ih =>
  intro b p m hb e
  obtain ⟨b,rfl⟩:∃ c,b=c+1:=⟨b - 1,by lia⟩
  unfold probe.go at e ⊢
  split
  ·rename_i q;rw [q] at e;exact e
  ·rename_i q;rw [q] at e;exact ih b _ m (by lia) e
  ·rename_i i q
   rw [q] at e
   dsimp only at e ⊢
   split
   ·rename_i c;rw [xCg c] at e;exact e
   ·rename_i c;rw [xCf c] at e;exact ih b _ m (by lia) e
theorem jk (t:SetTable) (h:Int):∀ (n i pert:Nat) (d:Option Nat),DumOk t d→t.slot (nth t.mask n (i,pert)).1 = .empty →
  ∃ j d',probe.go t (fun _=>h+1) h (10 * (n+1)) ⟨i,runEnd t.mask i - i,i,pert,d⟩=some (.empty j d')∧t.slot j = .empty∧DumOk t d':=by
 intro n
 induction n with
 | zero =>
  intro i pert d hd he
  refine ⟨i,d,?_,he,hd⟩
  rw [show 10 * (0+1)=9+1 from rfl]
  unfold probe.go
  have he':t.slot i = .empty:=he
  dsimp only
  rw [he']
 | succ n ih =>
  intro i pert d hd he
  have hm:runEnd t.mask i - i≤9:=by
   unfold runEnd
   split <;> lia
  obtain ⟨j,d',e,r⟩:=mV t h (10 * (n+1)) i pert (fun d2 hd2=>ih _ _ d2 hd2 he) (runEnd t.mask i - i) i d hd
  exact ⟨j,d',ma _ _ _ _ _ _ _ (by lia) e,r⟩
theorem mD (h:Int):bits h<2 ^ 64:=by
 unfold bits
 have h1:h % (2 ^ 64:Int)<2 ^ 64:=xBb _ (by decide)
 have h2:0≤h % (2 ^ 64:Int):=xBa _ (by decide)
 lia
theorem tP {t:SetTable} {k:Nat} (hk:t.mask+1=2 ^ k) (hf:t.fill≤t.mask) (h:Int) :
  ∃ j wd,t.freeSlot h=some (j,wd)∧t.place[below t.place j]?≠some j∧(wd=true→has t.dummies j=true):=by
 obtain ⟨j0,hj0,he⟩:=j7 hf
 obtain ⟨n,hn,e⟩:=lands hk (i:=bits h % (t.mask+1)) (p:=bits h) (Nat.le_of_lt_succ (Nat.mod_lt _ (Nat.succ_pos _))) (mD h) hj0
 obtain ⟨j,d,e2,e3,e4⟩:=jk t h n (bits h % (t.mask+1)) (bits h) none (fun j q=>by cases q) (by rw [e];exact he)
 have e5:t.probe (fun _=>h+1) h (t.probeStart h)=some (.empty j d):=ma _ _ _ _ _ _ _ (by lia) e2
 unfold freeSlot
 rw [e5]
 cases d with
 | none =>
  refine ⟨j,false,rfl,?_,fun q=>by cases q⟩
  rcases cf t j with q | q | ⟨i,q1,_⟩
  ·exact q.2.1
  ·exact q.2.1
  ·rw [e3] at q1;cases q1
 | some d =>
  have hd:=e4 d rfl
  rcases cf t d with q | q | ⟨i,q1,_⟩
  ·rw [hd] at q;cases q.1
  ·exact ⟨d,true,rfl,q.2.1,fun _=>q.2.2⟩
  ·rw [hd] at q1;cases q1
theorem qG {mask:Nat} {owner:Array (Option Nat)} (hs:owner.size=mask+1):∀ (fuel i pert:Nat),(∃ n,n<fuel∧owner[(nth mask n (i,pert)).1]?=some none) →
  ∃ j,layClean.free mask owner fuel i pert=some j∧owner[j]?=some none:=by
 intro fuel
 induction fuel with
 | zero=>rintro i pert ⟨n,hn,_⟩;exact absurd hn (Nat.not_lt_zero _)
 | succ fuel ih =>
  rintro i pert ⟨n,hn,e⟩
  unfold layClean.free
  have key:∀ k,(owner.getD (i+k) (some 0)).isNone=true→owner[i+k]?=some none:=by
   intro k q
   rw [Array.getD_eq_getD_getElem?] at q
   cases hh:owner[i+k]? with
   | none=>rw [hh] at q;cases q
   | some v =>
    rw [hh] at q
    cases v with
    | none=>rfl
    | some v=>cases q
  cases hf:(List.range (runEnd mask i+1 - i)).find? (fun k=>(owner.getD (i+k) (some 0)).isNone) with
  | some k =>
   dsimp only
   exact ⟨i+k,rfl,key k (List.find?_some (p:=fun k=>(owner.getD (i+k) (some 0)).isNone) hf)⟩
  | none =>
   dsimp only
   refine ih _ _ ?_
   cases n with
   | zero =>
    have h0:=List.find?_eq_none.mp hf 0 (by
     rw [List.mem_range]
     unfold runEnd
     split <;> lia)
    have e0:owner[i]?=some none:=e
    rw [Nat.add_zero,Array.getD_eq_getD_getElem?,e0] at h0
    exact absurd rfl h0
   | succ n=>exact ⟨n,by lia,e⟩
def vals (owner:Array (Option Nat)):List Nat:=owner.toList.filterMap id
theorem nZ {owner:Array (Option Nat)} {j c:Nat} (h:owner[j]?=some none):(vals (owner.setIfInBounds j (some c))).Perm (c::vals owner):=by
 obtain ⟨hj,e⟩:=xB7.mp h
 unfold vals
 rw [Array.toList_setIfInBounds]
 have e2:owner.toList[j]?=some none:=by rw [xA8];exact h
 generalize owner.toList=l at e2
 clear h hj e
 induction l generalizing j with
 | nil=>cases e2
 | cons a l ih =>
  cases j with
  | zero =>
   cases e2
   simp
  | succ j =>
   have:=ih (j:=j) e2
   simp only [List.set_cons_succ]
   cases a with
   | none=>simpa using this
   | some a =>
    simp only [List.filterMap_cons,id]
    exact (this.cons a).trans (List.Perm.swap _ _ _)
theorem oe (owner:Array (Option Nat)) (h:(vals owner).length<owner.size):∃ j:Nat,owner[j]?=some none:=by
 by_cases q:∃ j:Nat,owner[j]?=some none
 ·exact q
 ·exfalso
  have:(vals owner).length=owner.toList.length:=by
   unfold vals
   have hall:∀ v∈owner.toList,v≠none:=by
    intro v hv e
    subst e
    obtain ⟨j,hj,e⟩:=List.getElem_of_mem hv
    exact q ⟨j,by rw [← xA8,xAk hj,e]⟩
   generalize owner.toList=l at hall
   induction l with
   | nil=>rfl
   | cons a l ih =>
    cases a with
    | none=>exact absurd rfl (hall none (xAr))
    | some a =>
     simp only [List.filterMap_cons,id,xAo]
     rw [ih fun v hv=>hall v (xAs _ hv)]
  have h2:owner.toList.length=owner.size:=xAh
  lia
theorem qh {mask k:Nat} (hk:mask+1=2 ^ k):∀ (hs:List Int) (owner:Array (Option Nat)) (c:Nat),owner.size=mask+1→(vals owner).Perm (List.range c)→c+hs.length≤mask+1 →
  ∃ owner',hs.foldl (fun (acc:Option (Array (Option Nat)×Nat)) h=>do
   let (owner,k) ← acc
   let j ← layClean.free mask owner (turns mask) (bits h % (mask+1)) (bits h)
   pure (owner.setIfInBounds j (some k),k+1)) (some (owner,c))=some (owner',c+hs.length)∧owner'.size=mask+1∧(vals owner').Perm (List.range (c+hs.length)):=by
 intro hs
 induction hs with
 | nil=>intro owner c h1 h2 _;exact ⟨owner,rfl,h1,h2⟩
 | cons h hs ih =>
  intro owner c h1 h2 h3
  rw [xAo] at h3
  obtain ⟨j0,e0⟩:=oe owner (by rw [h2.length_eq,List.length_range];lia)
  obtain ⟨hj0,_⟩:=xB7.mp e0
  obtain ⟨n,hn,en⟩:=lands hk (i:=bits h % (mask+1)) (p:=bits h) (Nat.le_of_lt_succ (Nat.mod_lt _ (Nat.succ_pos _))) (mD h) (j:=j0) (by lia)
  obtain ⟨j,ej,ej2⟩:=qG h1 (turns mask) (bits h % (mask+1)) (bits h) ⟨n,hn,by rw [en];exact e0⟩
  obtain ⟨owner',q1,q2,q3⟩:=ih (owner.setIfInBounds j (some c)) (c+1) (by rw [Array.size_setIfInBounds];exact h1) (by
   refine (nZ ej2).trans ?_
   rw [List.range_succ]
   exact (h2.cons c).trans (List.perm_append_singleton c _).symm) (by lia)
  refine ⟨owner',?_,q2,?_⟩
  ·rw [xBy]
   have e2:(do
     let (owner,k) ← some (owner,c)
     let j ← layClean.free mask owner (turns mask) (bits h % (mask+1)) (bits h)
     pure (owner.setIfInBounds j (some k),k+1))=some (owner.setIfInBounds j (some c),c+1):=by
    simp [ej]
   rw [e2,q1,xAo]
   congr 2
   lia
  ·rw [xAo]
   rw [show c+(hs.length+1)=c+1+hs.length by lia]
   exact q3
theorem tz (f:Nat→Option Nat):∀ (l:List Nat),(l.filterMap fun j=>(f j).map (j,·)).map (·.1)=l.filter fun j=>(f j).isSome:=by
 intro l
 induction l with
 | nil=>rfl
 | cons a l ih =>
  cases h:f a with
  | none=>simp [h];simpa using ih
  | some v=>simp [h];simpa using ih
theorem tw (f:Nat→Option Nat):∀ (l:List Nat),(l.filterMap fun j=>(f j).map (j,·)).map (·.2)=l.filterMap f:=by
 intro l
 induction l with
 | nil=>rfl
 | cons a l ih =>
  cases h:f a with
  | none=>simp [h];simpa using ih
  | some v=>simp [h];simpa using ih
theorem wK {owner:Array (Option Nat)}:∀ (n:Nat),(((List.range n).filterMap fun j=>(owner.getD j none).map (j,·)).map (·.1)).Pairwise (·<·):=by
 intro n
 rw [tz fun j=>owner.getD j none]
 exact List.Pairwise.sublist List.filter_sublist List.pairwise_lt_range
theorem qf {owner:Array (Option Nat)} {n:Nat} (h:owner.size=n):((List.range n).filterMap fun j=>(owner.getD j none).map (j,·)).map (·.2)=vals owner:=by
 subst h
 unfold vals
 have e:owner.toList=(List.range owner.size).map fun j=>owner.getD j none:=by
  apply List.ext_getElem
  ·simp
  ·intro i h1 h2
   have:i<owner.size:=by simpa using h1
   simp [Array.getD,this]
 rw [e,tw fun j=>owner.getD j none,List.filterMap_map]
 rfl
theorem lU {mask k:Nat} (hk:mask+1=2 ^ k) (f m:Nat) (led plain:Bool) {hashes:Array Int} (hn:hashes.size≤mask+1) :
  ∃ place order,laid mask f m led plain hashes=some ({ mask:=mask,place:=place,dummies:=#[],finger:=f,led:=led,moves:=m,plain:=plain },order)∧Ris place∧place.size=hashes.size∧order.toList.Perm (List.range hashes.size):=by
 obtain ⟨owner,e,e1,e2⟩:=qh hk hashes.toList (Array.replicate (mask+1) none) 0 (by simp) (by
  unfold vals
  have:∀ n,List.filterMap id (List.replicate n (none:Option Nat))=[]:=by
   intro n
   induction n with
   | zero=>rfl
   | succ n ih=>simpa [List.replicate_succ] using ih
  rw [Array.toList_replicate,this]
  exact .nil) (by rw [xAh];lia)
 rw [Nat.zero_add,xAh] at e e2
 have e3:layClean mask hashes=some owner:=by
  unfold layClean
  rw [← Array.foldl_toList,e]
  rfl
 refine ⟨_,_,by unfold laid;rw [e3];rfl,?_,?_,?_⟩
 ·rw [ge]
  exact wK _
 ·have:=congrArg List.length (qf e1)
  rw [xAa] at this
  rw [xAp,xAa,this,e2.length_eq,List.length_range]
 ·rw [show (List.map (fun x=>x.2) (List.filterMap (fun j=>Option.map (fun x=>(j,x)) (owner.getD j none)) (List.range (mask+1)))).toArray.toList=vals owner from qf e1]
  exact e2
theorem above (n:Nat) (h:n<2 ^ 60):∃ k,3≤k∧sizeAbove n=2 ^ k∧n<sizeAbove n∧sizeAbove n≤2 * n+8:=by
 have gen:∀ (fuel k:Nat),n<2 ^ (k+fuel)→3≤k→(k=3∨2 ^ k≤2 * n)→∃ k',3≤k'∧sizeAbove.go n fuel (2 ^ k)=2 ^ k'∧n<2 ^ k'∧2 ^ k'≤2 * n+8:=by
  intro fuel
  induction fuel with
  | zero =>
   intro k h1 h2 h3
   refine ⟨k,h2,rfl,h1,?_⟩
   rcases h3 with rfl | h3
   ·lia
   ·lia
  | succ fuel ih =>
   intro k h1 h2 h3
   unfold sizeAbove.go
   split
   ·rename_i hle
    rw [← Nat.pow_succ]
    refine ih (k+1) (by rw [show k+1+fuel=k+(fuel+1) by lia];exact h1) (by lia) (.inr ?_)
    rw [Nat.pow_succ]
    lia
   ·rename_i hle
    refine ⟨k,h2,rfl,by lia,?_⟩
    rcases h3 with rfl | h3
    ·lia
    ·lia
 obtain ⟨k,h1,h2,h3,h4⟩:=gen 64 3 (xBc h (Nat.pow_le_pow_right (by decide) (by decide))) (by decide) (.inl rfl)
 have e:sizeAbove n=2 ^ k:=h2
 exact ⟨k,h1,e,by rw [e];exact h3,by rw [e];exact h4⟩
structure TOk (t:SetTable) (n:Nat):Prop where
 pw:∃ k,3≤k∧t.mask+1=2 ^ k
 sz:t.place.size=n
 ris:Ris t.place
 fl:t.fill * 5<t.mask * 3
 pl:t.plain=true
theorem TOk.fits {t:SetTable} {n:Nat} (h:TOk t n):t.fits n=true:=by
 unfold SetTable.fits
 rw [h.sz]
 have:=h.fl
 simp only [beq_self_eq_true,Bool.true_and,decide_eq_true_eq]
 lia
theorem TOk.fresh (f m:Nat) (led:Bool):TOk (SetTable.fresh f m led) 0:=⟨⟨3,by decide,rfl⟩,rfl,fun i j hi=>absurd hi (Nat.not_lt_zero _),by simp [SetTable.fresh,SetTable.fill],rfl⟩
theorem TOk.new {t:SetTable} {n:Nat} (H:TOk t n) (es:Array (Int×Value)) (hn:es.size=n) (h:Int) (x:Value) :
  ∃ p t' wd,layNew t es h x=(insertAt es p (h,x),t',wd,false)∧t'.led=t.led∧t'.mask=t.mask∧t'.plain=true∧t'.place.size=n+1∧Ris t'.place∧t'.fill≤t'.mask∧((!wd && t'.tooFull)=false→TOk t' (n+1)):=by
 obtain ⟨k,h3,hk⟩:=H.pw
 have hfl:=H.fl
 obtain ⟨j,wd,e,e1,e2⟩:=tP hk (by lia) h
 have hsz:(t.put j).1.place.size=n+1:=by
  show (insertAt t.place (below t.place j) j).size=n+1
  rw [cW,H.sz]
 have hdm:(t.put j).1.dummies.size≤t.dummies.size∧(wd=true→(t.put j).1.dummies.size+1=t.dummies.size):=by
  show (if has t.dummies j then eraseAt t.dummies (below t.dummies j) else t.dummies).size≤t.dummies.size∧(wd=true→(if has t.dummies j then eraseAt t.dummies (below t.dummies j) else t.dummies).size+1=t.dummies.size)
  split
  ·rename_i q
   have:=iy t.dummies _ (lZ q).1
   exact ⟨by lia,fun _=>this⟩
  ·rename_i q
   exact ⟨xAg _,fun z=>absurd (e2 z) q⟩
 have hfill:(t.put j).1.fill≤t.fill+1∧(wd=true→(t.put j).1.fill=t.fill):=by
  unfold SetTable.fill
  rw [hsz,H.sz]
  exact ⟨by lia,fun z=>by have:=hdm.2 z;lia⟩
 have hmask:(t.put j).1.mask=t.mask:=rfl
 have hris:Ris (t.put j).1.place:=j8 H.ris e1
 have hfit:(t.put j).1.fits (insertAt es (below t.place j) (h,x)).size=true:=by
  unfold SetTable.fits
  rw [hsz,cW,hn,hmask]
  simp only [beq_self_eq_true,Bool.true_and,decide_eq_true_eq]
  lia
 refine ⟨below t.place j,(t.put j).1,wd,?_,rfl,rfl,H.pl,hsz,hris,by rw [hmask];lia,fun hz=>⟨⟨k,h3,hk⟩,hsz,hris,?_,H.pl⟩⟩
 ·unfold layNew
  rw [e]
  dsimp only
  have e5:(t.put j).2=below t.place j:=rfl
  rw [e5,hfit]
  unfold SetTable.orStandIn
  rw [hfit]
  rfl
 ·rw [hmask]
  cases wd with
  | true=>rw [hfill.2 rfl];exact hfl
  | false =>
   unfold SetTable.tooFull at hz
   rw [hmask] at hz
   simp only [Bool.not_false,Bool.true_and,decide_eq_false_iff_not,Nat.not_le,ge_iff_le] at hz
   exact hz
theorem gT {t:SetTable} {n:Nat} (hp:t.plain=true) {hashes:Array Int} (hn:hashes.size=n) {wanted:Nat} (hw:2 * n≤wanted) (hb:wanted<2 ^ 60) :
  ∃ t' order,t.relaid hashes wanted=some (t',order)∧t'.led=t.led∧TOk t' n∧order.toList.Perm (List.range n)∧t'.mask+1=sizeAbove wanted∧t'.dummies=#[]:=by
 obtain ⟨k,h1,h2,h3,h4⟩:=above wanted hb
 have hpos:8≤2 ^ k:=Nat.le_trans (by decide) (Nat.pow_le_pow_right (by decide:0<2) h1)
 have hm:sizeAbove wanted - 1+1=2 ^ k:=by lia
 obtain ⟨place,order,e,e1,e2,e3⟩:=lU hm t.finger (t.movedTo (sizeAbove wanted - 1)) t.led t.plain (hashes:=hashes) (by lia)
 refine ⟨_,order,e,rfl,⟨⟨k,h1,hm⟩,by rw [← hn];exact e2,e1,?_,hp⟩,by rw [← hn];exact e3,by show sizeAbove wanted - 1+1=_;lia,rfl⟩
 unfold SetTable.fill
 show (place.size+0) * 5<(sizeAbove wanted - 1) * 3
 lia
theorem TOk.relay {t:SetTable} {n:Nat} (hp:t.plain=true) (es:Array (Int×Value)) (hn:es.size=n) {wanted:Nat} (hw:2 * n≤wanted) (hb:wanted<2 ^ 60) :
  ∃ es' t',relayAll t es wanted=(es',t',false)∧t'.led=t.led∧TOk t' n∧es'.toList.Perm es.toList:=by
 obtain ⟨t',order,e,e1,e2,e3,_⟩:=gT hp (hashes:=es.map (·.1)) (n:=n) (by rw [Array.size_map,hn]) hw hb
 have hperm:(order.filterMap (es[·]?)).toList.Perm es.toList:=by
  rw [Array.toList_filterMap]
  exact (e3.filterMap _).trans (by rw [← hn,filterMap_getElem?_range])
 have hsz:(order.filterMap (es[·]?)).size=n:=by rw [← xAh,hperm.length_eq,xAh,hn]
 refine ⟨_,t',?_,e1,e2,hperm⟩
 unfold relayAll
 rw [e]
 dsimp only
 have hc:(coversAll order es.size && t'.fits (order.filterMap (es[·]?)).size)=true:=by
  rw [hsz,e2.fits,hn]
  unfold coversAll
  rw [List.isPerm_iff.mpr e3]
  rfl
 rw [xCg hc]
end SetA
namespace SetA
open PySem PySem.SetTable
def eKey (e:Int×Value):Int:=match e.2 with | .int k _=>k | _=>0
def EOk (l:List (Int×Value)):Prop:=∀ e∈l,∃ k t,e=(hashInt k,Value.int k t)
def setObj (es:Array (Int×Value)) (ep:Nat) (t:SetTable):Obj:={ cls:=.type "set",dict:=none,data:=.set es ep t,slots:=#[] }
structure SIn (w:World) (h:Heap) (a:Addr) (es:Array (Int×Value)) (ep:Nat) (t:SetTable) (ks:List Int):Prop where
 ob:h.get? a=some (setObj es ep t)
 el:EOk es.toList
 ky:es.toList.map eKey=ks
 nd:ks.Nodup
 tb:TOk t es.size
 ld:t.led=true∨w.params.followText "set-order"=true
def SetIs (w:World) (h:Heap) (a:Addr) (ks:List Int):Prop:=∃ es ep t,SIn w h a es ep t ks
theorem SIn.at' {w:World} {h h':Heap} {a:Addr} {es ep t ks} (S:SIn w h a es ep t ks) (e:∀ o,h.get? a=some o→h'.get? a=some o):SIn w h' a es ep t ks:={ S with ob:=e _ S.ob }
theorem SetIs.at' {w:World} {h h':Heap} {a:Addr} {ks} (S:SetIs w h a ks) (e:∀ o,h.get? a=some o→h'.get? a=some o):SetIs w h' a ks:=let ⟨es,ep,t,q⟩:=S;⟨es,ep,t,q.at' e⟩
theorem SIn.size {w:World} {h:Heap} {a:Addr} {es ep t ks} (S:SIn w h a es ep t ks):es.size=ks.length:=by
 rw [← S.ky,xAa,xAh]
section
variable {prog:Program} {w:World} {A:Around} {E:Value→Shared→Prop} {s:Shared} {a:Addr} {es:Array (Int×Value)} {ep:Nat} {t:SetTable} {ks:List Int}
theorem EOk.elems {l:List (Int×Value)} (h:EOk l):ElemsOf (intKind prog w) l:=by
 intro e he
 obtain ⟨k,t,rfl⟩:=h e he
 exact ⟨⟨k,by simp [intKind,Value.isInt],rfl⟩,rfl⟩
theorem SIn.state (S:SIn w s.heap a es ep t ks) {Q:(Array (Int×Value)×Nat×SetTable)→Shared→Prop} (h:Q (es,ep,t) s):wpAny (model prog w) A (setState a) Q E s :=
 wpAny_setState_of S.ob rfl S.tb.fits h
theorem SIn.entries (S:SIn w s.heap a es ep t ks) {Q:Array (Int×Value)→Shared→Prop} (h:Q es s):wpAny (model prog w) A (setEntries a) Q E s :=
 wpAny_setEntries_of S.ob rfl S.tb.fits h
theorem SIn.epoch (S:SIn w s.heap a es ep t ks) {Q:Nat→Shared→Prop} (h:Q ep s):wpAny (model prog w) A (setEpoch a) Q E s :=
 wpAny_setEpoch_of S.ob rfl S.tb.fits h
theorem mf {l:List (Int×Value)} (h:EOk l) (k:Int):(∀ i,l.findIdx? (fun e=>(intKind prog w).is k e.2)=some i→(l.map eKey)[i]?=some k)∧(l.findIdx? (fun e=>(intKind prog w).is k e.2)=none→k ∉ l.map eKey):=by
 have his:∀ e∈l,(intKind prog w).is k e.2=true↔eKey e=k:=by
  intro e he
  obtain ⟨k',t,rfl⟩:=h e he
  simp [intKind,Value.isInt,eKey]
 constructor
 ·intro i hi
  obtain ⟨hj,hp,_⟩:=List.findIdx?_eq_some_iff_getElem.mp hi
  rw [xAw,xAk hj]
  have:=(his _ (List.getElem_mem hj)).mp hp
  simp [this]
 ·intro hn hm
  obtain ⟨e,he,hk⟩:=xA2.mp hm
  have h1:=List.findIdx?_eq_none_iff.mp hn e he
  have h2:=(his e he).mpr hk
  rw [h2] at h1
  cases h1
theorem SIn.find (S:SIn w s.heap a es ep t ks) (hb:ks.length<scanBound) {k:Int} {tk:Tok} {Q:Option Nat→Shared→Prop}
  (h:∀ r:Option Nat,(∀ i,r=some i→ks[i]?=some k)→(r=none→k ∉ ks)→Q r s):wpAny (model prog w) A (setFind a (.int k tk) (hashInt k)) Q E s:=by
 have hkey:(intKind prog w).is k (.int k tk)=true:=by simp [intKind,Value.isInt]
 have hel:ElemsOf (intKind prog w) es.toList:=S.el.elems
 unfold setFind setFindIn
 refine xAd (S.state ?_)
 dsimp only
 rw [byScan_of (x:=.int k tk) rfl (by rw [S.size];exact hb) hel]
 simp only [↓reduceIte]
 refine xAd (wpAny_rule ?_)
 obtain ⟨f1,f2⟩:=mf (prog:=prog) (w:=w) S.el k
 rw [S.ky] at f1 f2
 refine xAd (wpAny_setScan_of (knd:=intKind prog w) hkey S.ob rfl S.tb.fits hel ?_)
 cases hr:es.toList.findIdx? (fun e=>(intKind prog w).is k e.2) with
 | none =>
  dsimp only
  exact xAe (h none (fun i q=>by cases q) fun _=>f2 hr)
 | some j =>
  dsimp only
  rw [Nat.zero_add]
  exact xAe (h (some j) (fun i q=>by cases q;exact f1 j hr) fun q=>by cases q)
theorem SIn.stored (S:SIn w s.heap a es ep t ks) {es':Array (Int×Value)} {t':SetTable} {ks':List Int} (h1:EOk es'.toList) (h2:es'.toList.map eKey=ks') (h3:ks'.Nodup) (h4:TOk t' es'.size) (h5:t'.led=true∨w.params.followText "set-order"=true) :
  SIn w (s.heap.update a (Obj.putSet es' t')) a es' (ep+1) t' ks':=by
 refine ⟨?_,h1,h2,h3,h4,h5⟩
 have:=xA7 (Obj.putSet es' t') S.ob (by rw [putSet_of es' t' rfl];rfl)
 rw [putSet_of es' t' rfl] at this
 exact this
theorem EOk.perm {l l':List (Int×Value)} (h:EOk l) (p:l'.Perm l):EOk l':=fun e he=>h e (p.mem_iff.mp he)
theorem SIn.add (S:SIn w s.heap a es ep t ks) (hb:ks.length+1<scanBound) {k:Int} {tk:Tok} {Q:Bool→Shared→Prop}
  (h:∀ (h':Heap) (ks':List Int),Heap.SameBut a s.heap h'→SetIs w h' a ks'→(∀ x,x∈ks'↔x=k∨x∈ks)→ks'.length≤ks.length+1→Q (!decide (k∈ks)) { s with heap:=h' }) :
  wpAny (model prog w) A (setAddHashed a (.int k tk) (hashInt k)) Q E s:=by
 have hkey:(intKind prog w).is k (.int k tk)=true:=by simp [intKind,Value.isInt]
 have hel:ElemsOf (intKind prog w) es.toList:=S.el.elems
 unfold setAddHashed setAddHashedIn
 refine wpAny_holding (xAd (S.state ?_))
 dsimp only
 rw [byScan_of (x:=.int k tk) rfl (by rw [S.size];lia) hel]
 simp only [↓reduceIte]
 unfold setAddByScan
 refine xAd (xAd (wpAny_rule ?_))
 obtain ⟨f1,f2⟩:=mf (prog:=prog) (w:=w) S.el k
 rw [S.ky] at f1 f2
 refine xAd (wpAny_setScan_of (knd:=intKind prog w) hkey S.ob rfl S.tb.fits hel ?_)
 cases hr:es.toList.findIdx? (fun e=>(intKind prog w).is k e.2) with
 | some j =>
  dsimp only
  have hm:k∈ks:=xAc (f1 j hr)
  refine xAe (xAe ?_)
  have q:=h s.heap ks (Heap.SameBut.refl a s.heap) ⟨es,ep,t,S⟩ (fun x=>⟨.inr,fun z=>z.elim (fun e=>e ▸ hm) id⟩) (by lia)
  rw [xBd hm] at q
  cases s
  exact q
 | none =>
  dsimp only
  have hm:k ∉ ks:=f2 hr
  obtain ⟨p,t',wd,e,l1,l2,l3,l4,l5,l6,l7⟩:=S.tb.new es rfl (hashInt k) (.int k tk)
  rw [e]
  dsimp only
  refine xAd (xAe ?_)
  rw [l3]
  simp only [↓reduceIte]
  refine xAd ?_
  rw [hashByValue_scannable 8 rfl]
  refine xAe ?_
  have hpl:plainKind (Value.int k tk)=true:=rfl
  rw [hpl]
  simp only [↓reduceIte]
  have hpm:=insertAt_perm es p (hashInt k,Value.int k tk)
  rw [Array.toList_push] at hpm
  have hsz:(insertAt es p (hashInt k,Value.int k tk)).size=es.size+1:=cW _ _ _
  have hel1:EOk (insertAt es p (hashInt k,Value.int k tk)).toList:=by
   refine EOk.perm (fun x hx=>?_) hpm
   rcases xAj.mp hx with hx | hx
   ·exact S.el x hx
   ·rw [xAm] at hx
    exact ⟨k,tk,hx⟩
  have hkp:((insertAt es p (hashInt k,Value.int k tk)).toList.map eKey).Perm (k::ks):=by
   refine (hpm.map eKey).trans ?_
   rw [xAi,S.ky]
   exact List.perm_append_singleton _ _
  have hnd:(k::ks).Nodup:=xCb.mpr ⟨hm,S.nd⟩
  have hz1:(insertAt es p (hashInt k,Value.int k tk)).size≤sizeLine:=fits_of_scanBound (by rw [hsz,S.size];exact hb)
  have fin:∀ (h':Heap) (ks':List Int),Heap.SameBut a s.heap h'→SetIs w h' a ks'→ks'.Perm (k::ks)→Q true { s with heap:=h' }:=by
   intro h' ks' b1 b2 b3
   have q:=h h' ks' b1 b2 (fun x=>by rw [b3.mem_iff,xAv]) (by rw [b3.length_eq,xAo];exact xAg _)
   rw [decide_eq_false hm] at q
   exact q
  have hb1:=xB5 s.heap a (Obj.putSet (insertAt es p (hashInt k,Value.int k tk)) t')
  have hld:t'.led=true∨w.params.followText "set-order"=true:=by rw [l1];exact S.ld
  cases hfull:(!wd && t'.tooFull) with
  | false =>
   refine xAd (wpAny_storeSet_of S.ob rfl ?_ hz1)
   simp only [xAz,↓reduceIte]
   refine xAe (xAe (fin _ _ hb1 ⟨_,_,_,S.stored hel1 rfl (hkp.nodup_iff.mpr hnd) (by rw [hsz];exact l7 hfull) hld⟩ hkp))
  | true =>
   have hsm:es.size+1<4096:=by
    have:=S.size
    unfold scanBound at hb
    lia
   have hgr:2 * (es.size+1)≤SetTable.grown (es.size+1)∧SetTable.grown (es.size+1)<2 ^ 60:=by
    unfold SetTable.grown
    have:=hsm
    rw [xCf (by lia)]
    exact ⟨by lia,xBc (show (es.size+1) * 4<2 ^ 20 by lia) (by decide)⟩
   obtain ⟨es2,t2,r1,r2,r3,r4⟩:=TOk.relay (t:=t') l3 (insertAt es p (hashInt k,Value.int k tk)) hsz hgr.1 hgr.2
   refine xAd (wpAny_storeSet_of S.ob rfl ?_ hz1)
   have hob:(s.heap.update a (Obj.putSet (insertAt es p (hashInt k,Value.int k tk)) t')).get? a=some (setObj (insertAt es p (hashInt k,Value.int k tk)) (ep+1) t'):=by
    have:=xA7 (Obj.putSet (insertAt es p (hashInt k,Value.int k tk)) t') S.ob (by rw [putSet_of _ t' rfl];rfl)
    rw [putSet_of _ t' rfl] at this
    exact this
   simp only [↓reduceIte]
   rw [hsz,r1]
   dsimp only
   have hsz2:es2.size=es.size+1:=by rw [← xAh,r4.length_eq,xAh,hsz]
   refine xAd (xAe (xAd (wpAny_storeSet_of hob rfl ?_ (by rw [hsz2,← hsz];exact hz1))))
   refine xAe (xAe (fin _ (es2.toList.map eKey) (hb1.trans (xB5 _ a _)) ⟨es2,ep+2,t2,?_,hel1.perm r4,rfl,?_,by rw [hsz2];exact r3,by rw [r2];exact hld⟩ ((r4.map eKey).trans hkp)))
   ·have:=xA7 (Obj.putSet es2 t2) hob (by rw [putSet_of _ t2 rfl];rfl)
    rw [putSet_of _ t2 rfl] at this
    exact this
   ·exact ((r4.map eKey).trans hkp).nodup_iff.mpr hnd
end
end SetA
namespace SetA
open PySem PySem.SetTable
theorem si {α:Type} (next:Nat→Nat):∀ (n k:Nat) (left:List α) (out:Array α),left.length=n→(pickOrder.go next n k left out).toList.Perm (out.toList++left):=by
 intro n
 induction n with
 | zero =>
  intro k left out h
  obtain rfl:=List.length_eq_zero_iff.mp h
  unfold pickOrder.go
  simp
 | succ n ih =>
  intro k left out h
  have hlt:next k % left.length<left.length:=Nat.mod_lt _ (by lia)
  unfold pickOrder.go
  rw [xAk hlt]
  dsimp only
  refine (ih (k+1) _ _ (by rw [List.length_eraseIdx_of_lt hlt];lia)).trans ?_
  rw [Array.toList_push,xAx]
  refine List.Perm.append_left _ ?_
  generalize next k % left.length=i at hlt
  clear ih
  induction left generalizing i n with
  | nil=>exact absurd hlt (Nat.not_lt_zero _)
  | cons a left ih2 =>
   cases i with
   | zero=>exact .rfl
   | succ i =>
    have hlt2:i<left.length:=by simpa using hlt
    have:=ih2 (left.length - 1) (by lia) i hlt2
    rw [List.eraseIdx_cons_succ,List.getElem_cons_succ]
    exact (List.Perm.swap _ _ _).trans (this.cons a)
theorem mX {α:Type} (next:Nat→Nat) (xs:Array α):(pickOrder next xs).toList.Perm xs.toList:=by
 have:=si next xs.size 0 xs.toList #[] (by simp)
 rw [show (#[]:Array α).toList++xs.toList=xs.toList from rfl] at this
 exact this
def wk (w:World) (a:Addr) (ep:Nat) (es:Array (Int×Value)):Array (Int×Value):=if w.params.followText "set-order"=true then pickOrder (w.params.setOrder a ep) es else es
theorem io (w:World) (a:Addr) (ep:Nat) (es:Array (Int×Value)):(wk w a ep es).toList.Perm es.toList:=by
 unfold wk
 split
 ·exact mX _ _
 ·exact .rfl
section
variable {prog:Program} {w:World} {A:Around} {E:Value→Shared→Prop} {s:Shared} {a:Addr} {es:Array (Int×Value)} {ep:Nat} {t:SetTable} {ks:List Int}
theorem byText {Q:Bool→Shared→Prop} (h:Q (w.params.followText "set-order") s):wpAny (model prog w) A setsByText Q E s:=by
 unfold setsByText
 exact xAd (wpAny_askSetting (xAe h))
theorem SIn.walk (S:SIn w s.heap a es ep t ks) {Q:Array (Int×Value)→Shared→Prop} (h:Q (wk w a ep es) s):wpAny (model prog w) A (setWalk a) Q E s:=by
 unfold setWalk
 refine xAd (S.state ?_)
 dsimp only
 refine xAd (byText ?_)
 unfold wk at h
 cases hb:w.params.followText "set-order" with
 | true =>
  rw [xCg rfl]
  rw [hb,xCg rfl] at h
  exact xAd (wpAny_askSetting (xAe h))
 | false =>
  rw [xCf xAy]
  rw [hb,xCf xAy] at h
  have hl:t.led=true:=S.ld.elim id fun q=>by rw [hb] at q;cases q
  change wpAny _ _ (if (!t.plain && decide (es.size > 1))=true then _ else _) _ _ _
  rw [S.tb.pl]
  simp only [Bool.not_true,Bool.false_and,xAz,↓reduceIte]
  change wpAny _ _ ((if (!t.led && decide (es.size > 1))=true then unsupported "set:maker-not-led" else pure ()) >>= _) _ _ _
  rw [hl]
  simp only [Bool.not_true,Bool.false_and,xAz,↓reduceIte]
  exact xAd (xAe (xAe h))
theorem SIn.unseen (S:SIn w s.heap a es ep t ks) {others:List Addr} {filled:Option Addr} {Q:Array (Int×Value)→Shared→Prop} (h:Q (wk w a ep es) s):wpAny (model prog w) A (setWalkUnseen a others filled) Q E s:=by
 unfold setWalkUnseen
 refine xAd (S.state ?_)
 dsimp only
 refine xAd (byText ?_)
 have hc:(w.params.followText "set-order" || (t.led && t.plain) || decide (es.size≤1))=true:=by
  rw [S.tb.pl]
  rcases S.ld with q | q
  ·rw [q];simp
  ·rw [q];simp
 rw [xCg hc]
 exact S.walk h
theorem eP (led:Bool) (hl:led=true∨w.params.followText "set-order"=true) (h:Heap):SIn w (h.push (setObj #[] 0 (.fresh 0 0 led))) h.objs.size #[] 0 (.fresh 0 0 led) [] :=
 ⟨xAl _ rfl,fun e he=>absurd he (by simp),rfl,List.nodup_nil,TOk.fresh 0 0 led,hl⟩
theorem lE {Q:Value→Shared→Prop} (h:∀ led:Bool,(led=true∨w.params.followText "set-order"=true)→Q (.ref s.heap.objs.size) { s with heap:=s.heap.push (setObj #[] 0 (.fresh 0 0 led)) }) :
  wpAny (model prog w) A (newSet (.type "set")) Q E s:=by
 unfold newSet
 refine xAd (byText ?_)
 dsimp only
 simp only [newObj]
 refine xAd (wpAny_alloc (xAe (h _ ?_)))
 cases w.params.followText "set-order" <;> simp
theorem SIn.type (S:SIn w s.heap a es ep t ks):s.TypeIs (.ref a) "set":=⟨_,S.ob,rfl⟩
theorem SIn.base (S:SIn w s.heap a es ep t ks) {Q:Value→Shared→Prop} (h:Q (.type "set") s):wpAny (model prog w) A (Builtin.Frozenset.baseOf a) Q E s:=by
 unfold Builtin.Frozenset.baseOf
 refine xAd (xBk S.type sub_set_self ?_)
 exact xAe h
theorem SIn.any (S:SIn w s.heap a es ep t ks) {Q:Bool→Shared→Prop} (h:Q true s):wpAny (model prog w) A (Builtin.Frozenset.isAnySet (.ref a)) Q E s:=by
 unfold Builtin.Frozenset.isAnySet
 refine xAd (xBk S.type sub_set_self ?_)
 exact xAe h
theorem SIn.sizeOf (S:SIn w s.heap a es ep t ks) {Q:Nat→Shared→Prop} (h:Q ks.length s):wpAny (model prog w) A (Builtin.Frozenset.sizeOf a) Q E s:=by
 unfold Builtin.Frozenset.sizeOf
 refine xAd (S.entries (xAe ?_))
 rw [S.size]
 exact h
theorem SIn.unchanged (S:SIn w s.heap a es ep t ks) {id:String} {Q:Unit→Shared→Prop} (h:Q () s):wpAny (model prog w) A (Builtin.Frozenset.unchanged id a ep) Q E s:=by
 unfold Builtin.Frozenset.unchanged
 refine xAd (S.epoch ?_)
 rw [xCf (by simp)]
 exact xAe h
theorem SIn.push (S:SIn w s.heap a es ep t ks) (o:Obj):SIn w (s.heap.push o) a es ep t ks:=S.at' fun _ e=>xAf _ e
theorem wk_keys (S:SIn w s.heap a es ep t ks):EOk (wk w a ep es).toList∧((wk w a ep es).toList.map eKey).Perm ks:=by
 have h:=io w a ep es
 exact ⟨S.el.perm h,by rw [← S.ky];exact h.map eKey⟩
theorem g9 {f:Int×Value→PUnit→Sem (ForInStep PUnit)} (I:List Int→Shared→Prop) (xs:Array (Int×Value)) (he:EOk xs.toList)
  (turn:∀ (done:List Int) (k:Int) (tk:Tok) (s:Shared),(∃ rest,done++k::rest=xs.toList.map eKey)→I done s→wpAny (model prog w) A (f (hashInt k,.int k tk) PUnit.unit) (fun r s'=>r = .yield PUnit.unit∧I (done++[k]) s') E s)
  {Q:PUnit→Shared→Prop} (h0:I [] s) (fin:∀ s,I (xs.toList.map eKey) s→Q PUnit.unit s):wpAny (model prog w) A (forIn xs PUnit.unit f) Q E s:=by
 refine MeetsSeq2.wpAny_forIn_array f (fun rest _ s'=>EOk rest∧∃ done,done++rest.map eKey=xs.toList.map eKey∧I done s') Q (fun x rest b s' q=>?_) (fun b s' q=>?_) xs PUnit.unit ⟨he,[],rfl,h0⟩
 ·obtain ⟨q1,done,q2,q3⟩:=q
  obtain ⟨k,tk,rfl⟩:=q1 x (xAr)
  refine wpAny_mono (turn done k tk s' ⟨rest.map eKey,q2⟩ q3) (fun r s2 q4=>?_) fun _ _ z=>z
  obtain ⟨rfl,q5⟩:=q4
  refine ⟨fun e he=>q1 e (xAs _ he),done++[k],?_,q5⟩
  rw [xAx]
  exact q2
 ·obtain ⟨_,done,q2,q3⟩:=q
  rw [List.map_nil,xB0] at q2
  subst q2
  exact fin s' q3
def Fill (w:World) (s0:Shared) (r:Addr) (p:Int→Prop) (done:List Int) (s':Shared):Prop :=
 ∃ (h':Heap) (rk:List Int),s'={ s0 with heap:=h' }∧Heap.SameBut r s0.heap h'∧SetIs w h' r rk∧(∀ x,x∈rk↔x∈done∧p x)∧rk.length≤done.length
theorem Fill.more {s0 s':Shared} {r:Addr} {p:Int→Prop} {done:List Int} {k:Int} {tk:Tok} (q:Fill w s0 r p done s') (hb:done.length+1<scanBound) (hp:p k)
  {Q:Bool→Shared→Prop} (h:∀ b s2,Fill w s0 r p (done++[k]) s2→Q b s2):wpAny (model prog w) A (setAddHashed r (.int k tk) (hashInt k)) Q E s':=by
 obtain ⟨h',rk,rfl,q1,⟨es,ep,t,S⟩,q3,q4⟩:=q
 refine SIn.add (s:={ s0 with heap:=h' }) S (by lia) fun h2 ks2 b1 b2 b3 b4=>h _ _ ⟨h2,ks2,rfl,q1.trans b1,b2,fun x=>?_,by rw [xAb,xAt];lia⟩
 rw [b3,q3,xAj,xAm]
 constructor
 ·rintro (rfl | ⟨z1,z2⟩)
  ·exact ⟨.inr rfl,hp⟩
  ·exact ⟨.inl z1,z2⟩
 ·rintro ⟨z1 | rfl,z2⟩
  ·exact .inr ⟨z1,z2⟩
  ·exact .inl rfl
theorem Fill.less {s0 s':Shared} {r:Addr} {p:Int→Prop} {done:List Int} {k:Int} (q:Fill w s0 r p done s') (hp:¬ p k):Fill w s0 r p (done++[k]) s':=by
 obtain ⟨h',rk,rfl,q1,q2,q3,q4⟩:=q
 refine ⟨h',rk,rfl,q1,q2,fun x=>?_,by rw [xAb];lia⟩
 rw [q3,xAj,xAm]
 constructor
 ·rintro ⟨z1,z2⟩
  exact ⟨.inl z1,z2⟩
 ·rintro ⟨z1 | rfl,z2⟩
  ·exact ⟨z1,z2⟩
  ·exact absurd z2 hp
theorem Fill.heap {s0 s':Shared} {r:Addr} {p:Int→Prop} {done:List Int} (q:Fill w s0 r p done s') {b:Addr} (hb:b≠r) {es ep t ks} (S:SIn w s0.heap b es ep t ks):SIn w s'.heap b es ep t ks:=by
 obtain ⟨h',rk,rfl,q1,_⟩:=q
 exact S.at' fun o e=>by rw [← e];exact q1.2 b hb
theorem qu {b:Addr} {ks1 ks2:List Int} {id:String} {Q:Value→Shared→Prop} (S1:SetIs w s.heap a ks1) (S2:SetIs w s.heap b ks2) (hab:b≠a) (h1:ks1.length+1<scanBound) (h2:ks2.length+1<scanBound)
  (h:∀ (h':Heap) (ks':List Int),(∀ c o,s.heap.get? c=some o→h'.get? c=some o)→SetIs w h' s.heap.objs.size ks'→(∀ x,x∈ks'↔x∈ks1∧x∈ks2)→ks'.length≤ks1.length+ks2.length→Q (.ref s.heap.objs.size) { s with heap:=h' }) :
  wpAny (model prog w) A (Builtin.Frozenset.intersection id a (.ref b)) Q E s:=by
 obtain ⟨es1,ep1,t1,S1⟩:=S1
 obtain ⟨es2,ep2,t2,S2⟩:=S2
 unfold Builtin.Frozenset.intersection
 rw [xCf (by simp [hab])]
 refine xAd (S1.base ?_)
 refine xAd (lE fun led hl=>?_)
 refine xAd (xAe ?_)
 have hlt:∀ {c:Addr} {o:Obj},s.heap.get? c=some o→c≠s.heap.objs.size:=fun e=>xA0 (xA1 e)
 have P1:=S1.push (setObj #[] 0 (.fresh 0 0 led))
 have P2:=S2.push (setObj #[] 0 (.fresh 0 0 led))
 have P0:=eP (w:=w) led hl s.heap
 refine xAd (wpAny_holding ?_)
 refine xAd (SIn.any (s:={ s with heap:=s.heap.push (setObj #[] 0 (.fresh 0 0 led)) }) P2 ?_)
 rw [xCg rfl]
 refine xAd (xAe ?_)
 refine xAd (SIn.sizeOf (s:={ s with heap:=s.heap.push (setObj #[] 0 (.fresh 0 0 led)) }) P2 ?_)
 refine xAd (SIn.sizeOf (s:={ s with heap:=s.heap.push (setObj #[] 0 (.fresh 0 0 led)) }) P1 ?_)
 have gen:∀ (asked walked:Addr) (esA esW:Array (Int×Value)) (epA epW:Nat) (tA tW:SetTable) (kA kW:List Int),SIn w s.heap asked esA epA tA kA→SIn w s.heap walked esW epW tW kW→kA.length+1<scanBound→kW.length+1<scanBound →
   (∀ (h':Heap) (ks':List Int),(∀ c o,s.heap.get? c=some o→h'.get? c=some o)→SetIs w h' s.heap.objs.size ks'→(∀ x,x∈ks'↔x∈kA∧x∈kW)→ks'.length≤kA.length+kW.length→Q (.ref s.heap.objs.size) { s with heap:=h' }) →
   wpAny (model prog w) A (do
    let was ← setEpoch walked
    for (h,x) in ← setWalkUnseen walked [asked,s.heap.objs.size] (some s.heap.objs.size) do
     holding [x] do
      if (← setFind asked x h).isSome then
       let _ ← setAddHashed s.heap.objs.size x h
     Builtin.Frozenset.unchanged id walked was) (fun _ s'=>Q (.ref s.heap.objs.size) s') E { s with heap:=s.heap.push (setObj #[] 0 (.fresh 0 0 led)) }:=by
  intro asked walked esA esW epA epW tA tW kA kW SA SW bA bW hq
  have PA:=SA.push (setObj #[] 0 (.fresh 0 0 led))
  have PW:=SW.push (setObj #[] 0 (.fresh 0 0 led))
  refine xAd (SIn.epoch (s:={ s with heap:=s.heap.push (setObj #[] 0 (.fresh 0 0 led)) }) PW ?_)
  refine xAd (SIn.unseen (s:={ s with heap:=s.heap.push (setObj #[] 0 (.fresh 0 0 led)) }) PW ?_)
  obtain ⟨k1,k2⟩:=wk_keys SW
  refine xAd (g9 (Fill w { s with heap:=s.heap.push (setObj #[] 0 (.fresh 0 0 led)) } s.heap.objs.size (·∈kA)) _ k1 (fun done k tk s' hd q=>?_) ?_ fun s' q=>?_)
  ·dsimp only
   have FA:=q.heap (hlt SA.ob) PA
   have FW:=q.heap (hlt SW.ob) PW
   obtain ⟨rest,hd⟩:=hd
   have hlen:done.length+1≤kW.length:=by
    have:=congrArg List.length hd
    rw [xAb,xAo,k2.length_eq] at this
    lia
   refine xAd (wpAny_holding (xAd (FA.find (by lia) fun r r1 r2=>?_)))
   cases r with
   | none =>
    rw [xCf (by simp)]
    exact xAe (xAd (FW.unchanged (xAe ⟨rfl,q.less (r2 rfl)⟩)))
   | some i =>
    rw [xCg (by simp)]
    refine xAd (q.more (by lia) (xAc (r1 i rfl)) fun b s2 q2=>?_)
    exact xAe (xAd ((q2.heap (hlt SW.ob) PW).unchanged (xAe ⟨rfl,q2⟩)))
  ·exact ⟨_,[],rfl,Heap.SameBut.refl _ _,⟨_,_,_,P0⟩,fun x=>by simp,xAg _⟩
  ·obtain ⟨h',rk,rfl,q1,q2,q3,q4⟩:=q
   refine xAe (hq h' rk (fun c o e=>?_) q2 (fun x=>?_) ?_)
   ·rw [q1.2 c (hlt e)]
    exact xAf _ e
   ·rw [q3,k2.mem_iff]
    exact And.comm
   ·rw [k2.length_eq] at q4
    lia
 by_cases hc:ks2.length > ks1.length
 ·rw [xCg hc]
  dsimp only
  exact wpAny_mono (gen b a es2 es1 ep2 ep1 t2 t1 ks2 ks1 S2 S1 h2 h1 fun h' ks' q1 q2 q3 q4=>h h' ks' q1 q2 (fun x=>(q3 x).trans And.comm) (by lia)) (fun _ _ q=>xAe q) fun _ _ q=>q
 ·rw [xCf hc]
  dsimp only
  exact wpAny_mono (gen a b es1 es2 ep1 ep2 t1 t2 ks1 ks2 S1 S2 h1 h2 h) (fun _ _ q=>xAe q) fun _ _ q=>q
theorem reord {es:Array (Int×Value)} {order:Array Nat} (h:order.toList.Perm (List.range es.size)):(order.filterMap (es[·]?)).toList.Perm es.toList∧(order.filterMap (es[·]?)).size=es.size:=by
 have hp:(order.filterMap (es[·]?)).toList.Perm es.toList:=by
  rw [Array.toList_filterMap]
  exact (h.filterMap _).trans (by rw [filterMap_getElem?_range])
 exact ⟨hp,by rw [← xAh,hp.length_eq,xAh]⟩
theorem SIn.relay (S:SIn w s.heap a es ep t ks) {wanted:Nat} (hw:2 * ks.length≤wanted) (hb:wanted<2 ^ 20) {Q:Unit→Shared→Prop}
  (h:∀ (h':Heap) (es':Array (Int×Value)) (t':SetTable) (ks':List Int),Heap.SameBut a s.heap h'→SIn w h' a es' (ep+1) t' ks'→ks'.Perm ks→t'.mask+1=SetTable.sizeAbove wanted→t'.dummies=#[]→Q () { s with heap:=h' }) :
  wpAny (model prog w) A (setRelay a wanted) Q E s:=by
 have hsz:=S.size
 have hb60:wanted<2 ^ 60:=xBc hb (by decide)
 obtain ⟨t',order,e,e1,e2,e3,e4,e5⟩:=gT (t:=t) S.tb.pl (hashes:=es.map (·.1)) (n:=es.size) (by rw [Array.size_map]) (wanted:=wanted) (by lia) hb60
 obtain ⟨k,k1,k2,k3,k4⟩:=above wanted hb60
 obtain ⟨r1,r2⟩:=reord e3
 have hln:sizeLine=sizeLine:=rfl
 unfold setRelay
 refine xAd (S.state ?_)
 dsimp only
 have hsl:¬ SetTable.sizeAbove wanted > sizeLine:=by
  rw [sizeLine_eq]
  lia
 rw [xCf hsl]
 have key:wpAny (model prog w) A (do
   let some (t,order):=t.relaid (es.map (·.1)) wanted | unsupported "internal:set-table-without-room"
   let es':=order.filterMap (es[·]?)
   if es'.size != es.size then unsupported "internal:set-table-lost-an-element"
   pure (es',t):Sem (Array (Int×Value)×SetTable)) (fun r s'=>wpAny (model prog w) A (match r with | (es,t)=>storeSet a es t) Q E s') E s:=by
  rw [e]
  dsimp only
  rw [xCf (by rw [r2];simp)]
  refine xAe ?_
  dsimp only
  refine wpAny_storeSet_of S.ob rfl (h _ _ t' ((order.filterMap (es[·]?)).toList.map eKey) (xB5 _ _ _) (S.stored (S.el.perm r1) rfl ?_ (by rw [r2];exact e2) (by rw [e1];exact S.ld)) ?_ e4 e5) ?_
  ·refine ((r1.map eKey).nodup_iff).mpr ?_
   rw [S.ky]
   exact S.nd
  ·refine (r1.map eKey).trans ?_
   rw [S.ky]
  ·rw [r2,sizeLine_eq]
   lia
 exact xAd key
end
end SetA
namespace SetA
open PySem PySem.SetTable
theorem tE {mask k:Nat} (hk3:3≤k) (hk:mask+1=2 ^ k) (f m:Nat) (led:Bool) {hashes:Array Int} (hn:hashes.size * 5<mask * 3) :
  ∃ t' order,SetTable.laid mask f m led true hashes=some (t',order)∧t'.led=led∧TOk t' hashes.size∧order.toList.Perm (List.range hashes.size):=by
 obtain ⟨place,order,e,e1,e2,e3⟩:=lU hk f m led true (hashes:=hashes) (by lia)
 refine ⟨_,order,e,rfl,⟨⟨k,hk3,hk⟩,e2,e1,?_,rfl⟩,e3⟩
 unfold SetTable.fill
 show (place.size+0) * 5<mask * 3
 lia
section
variable {prog:Program} {w:World} {A:Around} {E:Value→Shared→Prop} {s:Shared} {a:Addr} {es:Array (Int×Value)} {ep:Nat} {t:SetTable} {ks:List Int}
theorem SIn.room (S:SIn w s.heap a es ep t ks) {more:Nat} (hm:0<more) (hb:ks.length+more<2 ^ 18) {Q:Unit→Shared→Prop}
  (h:∀ (h':Heap) (es':Array (Int×Value)) (ep':Nat) (t':SetTable) (ks':List Int),Heap.SameBut a s.heap h'→SIn w h' a es' ep' t' ks'→ks'.Perm ks→(t'.fill+more) * 5<t'.mask * 3→Q () { s with heap:=h' }) :
  wpAny (model prog w) A (setRoomFor a more) Q E s:=by
 unfold setRoomFor
 refine xAd (S.state ?_)
 dsimp only
 by_cases hc:(t.fill+more) * 5 ≥ t.mask * 3
 ·have e:t.roomFor more=some ((t.place.size+more) * 2):=by unfold SetTable.roomFor;rw [xCg hc]
  rw [e]
  dsimp only
  have hp:t.place.size=ks.length:=by rw [S.tb.sz,S.size]
  refine S.relay (by rw [hp];lia) (by rw [hp];lia) fun h' es' t' ks' b1 b2 b3 b4 b5=>h h' es' _ t' ks' b1 b2 b3 ?_
  have hp':t'.place.size=ks.length:=by rw [b2.tb.sz,b2.size,b3.length_eq]
  obtain ⟨k,k1,k2,k3,k4⟩:=above ((t.place.size+more) * 2) (by rw [hp];lia)
  unfold SetTable.fill
  rw [hp',b5]
  rw [hp] at k3 b4
  show (ks.length+0+more) * 5<t'.mask * 3
  lia
 ·have e:t.roomFor more=none:=by unfold SetTable.roomFor;rw [xCf hc]
  rw [e]
  dsimp only
  exact xAe (h s.heap es ep t ks (Heap.SameBut.refl _ _) S (.refl _) (by lia))
theorem jr {b:Addr} {ks1 ks2:List Int} {each:Sem Unit} {Q:Unit→Shared→Prop} (S1:SetIs w s.heap a ks1) (S2:SIn w s.heap b es ep t ks2) (hab:b≠a) (hl:ks1.length+ks2.length+1<scanBound)
  (he:∀ (s':Shared) (Q:Unit→Shared→Prop),SIn w s'.heap b es ep t ks2→Q () s'→wpAny (model prog w) A each Q E s')
  (h:∀ (h':Heap) (ks':List Int),Heap.SameBut a s.heap h'→SetIs w h' a ks'→(∀ x,x∈ks'↔x∈ks1∨x∈ks2)→ks'.length≤ks1.length+ks2.length→Q () { s with heap:=h' }) :
  wpAny (model prog w) A (setMerge a b each) Q E s:=by
 obtain ⟨es1,ep1,t1,S1⟩:=S1
 have hsb:scanBound=4096:=rfl
 unfold setMerge
 rw [xCf (by simp [Ne.symm hab])]
 refine xAd (S2.state ?_)
 dsimp only
 have hsz:=S2.size
 by_cases hz:es.isEmpty=true
 ·rw [xCg hz]
  have hn:ks2=[]:=List.length_eq_zero_iff.mp (by rw [← hsz];simpa using hz)
  subst hn
  exact xAe (h s.heap ks1 (Heap.SameBut.refl _ _) ⟨_,_,_,S1⟩ (fun x=>by simp) (by simp))
 ·rw [xCf hz]
  have hpos:0<es.size:=Nat.pos_of_ne_zero fun q=>hz (by simpa using q)
  refine xAd (S1.room hpos (by rw [hsz];lia) fun h1 es1' ep1' t1' ks1' b1 b2 b3 b4=>?_)
  have S2':SIn w h1 b es ep t ks2:=S2.at' fun o e=>by rw [← e];exact b1.2 b hab
  refine xAd (SIn.state (s:={ s with heap:=h1 }) b2 ?_)
  dsimp only
  have hld:(t1'.led && t.led)=true∨w.params.followText "set-order"=true:=by
   rcases b2.ld with q | q
   ·rcases S2.ld with q2 | q2
    ·exact .inl (by rw [q,q2];rfl)
    ·exact .inr q2
   ·exact .inr q
  have hpl:(t1'.plain && t.plain)=true:=by rw [b2.tb.pl,S2.tb.pl];rfl
  have hszl:es.size≤sizeLine:=fits_of_scanBound (by rw [hsz];lia)
  have none1:t1'.fill=0→ks1=[]:=by
   intro hf
   have:t1'.place.size=0:=by unfold SetTable.fill at hf;lia
   have h3:=b2.tb.sz
   have h4:=b2.size
   have h5:=b3.length_eq
   exact List.length_eq_zero_iff.mp (by lia)
  cases hr:t1'.road t with
  | slotForSlot =>
   have hf:t1'.fill=0:=by
    unfold SetTable.road at hr
    by_cases q:t1'.fill=0
    ·exact q
    ·rw [xCg (by simp [q])] at hr;cases hr
   have hk:=none1 hf
   subst hk
   dsimp only
   rw [hpl]
   refine wpAny_storeSet_of (s:={ s with heap:=h1 }) b2.ob rfl (h _ ks2 (b1.trans (xB5 _ _ _)) ⟨_,_,_,SIn.stored (s:={ s with heap:=h1 }) b2 S2.el S2.ky S2.nd ⟨S2.tb.pw,S2.tb.sz,S2.tb.ris,S2.tb.fl,rfl⟩ hld⟩ (fun x=>by simp) (by simp)) hszl
  | clean =>
   have hf:t1'.fill=0:=by
    unfold SetTable.road at hr
    by_cases q:t1'.fill=0
    ·exact q
    ·rw [xCg (by simp [q])] at hr;cases hr
   have hk:=none1 hf
   subst hk
   dsimp only
   rw [hpl]
   obtain ⟨k,k1,k2⟩:=b2.tb.pw
   have hes:(es.map (·.1)).size=es.size:=by rw [Array.size_map]
   obtain ⟨t',order,e,e1,e2,e3⟩:=tE k1 k2 t1'.finger t1'.moves (t1'.led && t.led) (hashes:=es.map (·.1)) (by rw [hes];rw [hf] at b4;lia)
   rw [hes] at e2 e3
   obtain ⟨r1,r2⟩:=reord e3
   have key:wpAny (model prog w) A (do
     let some (t,order):=SetTable.laid t1'.mask t1'.finger t1'.moves (t1'.led && t.led) true (es.map (·.1)) | unsupported "internal:set-table-without-room"
     let es':=order.filterMap (es[·]?)
     if es'.size != es.size then unsupported "internal:set-table-lost-an-element"
     pure (es',t):Sem (Array (Int×Value)×SetTable)) (fun r s'=>wpAny (model prog w) A (match r with | (es,t)=>storeSet a es t) Q E s') E { s with heap:=h1 }:=by
    rw [e]
    dsimp only
    rw [xCf (by rw [r2];simp)]
    refine xAe ?_
    dsimp only
    refine wpAny_storeSet_of (s:={ s with heap:=h1 }) b2.ob rfl (h _ ((order.filterMap (es[·]?)).toList.map eKey) (b1.trans (xB5 _ _ _)) ⟨_,_,_,SIn.stored (s:={ s with heap:=h1 }) b2 (S2.el.perm r1) rfl ?_ (by rw [r2];exact e2) (by rw [e1];exact hld)⟩ ?_ ?_) ?_
    ·refine ((r1.map eKey).nodup_iff).mpr ?_
     rw [S2.ky]
     exact S2.nd
    ·intro x
     rw [(r1.map eKey).mem_iff,S2.ky]
     simp
    ·rw [(r1.map eKey).length_eq,S2.ky]
     simp
    ·rw [r2]
     exact hszl
   exact xAd key
  | oneByOne =>
   dsimp only
   refine xAd (SIn.unseen (s:={ s with heap:=h1 }) S2' ?_)
   obtain ⟨k1,k2⟩:=wk_keys (s:=s) S2
   refine xAd (g9 (fun done s'=>∃ (h':Heap) (rk:List Int),s'={ s with heap:=h' }∧Heap.SameBut a s.heap h'∧SetIs w h' a rk∧(∀ x,x∈rk↔x∈done∨x∈ks1)∧rk.length≤ks1.length+done.length) _ k1 (fun done k tk s' hd q=>?_) ?_ fun s' q=>?_)
   ·obtain ⟨h',rk,rfl,q1,⟨esr,epr,tr,Sr⟩,q3,q4⟩:=q
    obtain ⟨rest,hd⟩:=hd
    have hlen:done.length+1≤ks2.length:=by
     have:=congrArg List.length hd
     rw [xAb,xAo,k2.length_eq] at this
     lia
    dsimp only
    refine xAd (wpAny_holding (SIn.add (s:={ s with heap:=h' }) Sr (by lia) fun h2 ks2' c1 c2 c3 c4=>?_))
    have S2'':SIn w h2 b es ep t ks2:=S2.at' fun o e=>by rw [← e];exact (q1.trans c1).2 b hab
    refine xAd (he _ _ S2'' ?_)
    refine xAd (SIn.state (s:={ s with heap:=h2 }) S2'' ?_)
    rw [xCf (by simp)]
    refine xAe ⟨rfl,h2,ks2',rfl,q1.trans c1,c2,fun x=>?_,by rw [xAb,xAt];lia⟩
    rw [c3,q3,xAj,xAm]
    grind
   ·exact ⟨h1,ks1',rfl,b1,⟨_,_,_,b2⟩,fun x=>by rw [b3.mem_iff];simp,by rw [b3.length_eq];exact Nat.le_add_right _ _⟩
   ·obtain ⟨h',rk,rfl,q1,q2,q3,q4⟩:=q
    refine xAe (h h' rk q1 q2 (fun x=>?_) (by rw [k2.length_eq] at q4;exact q4))
    rw [q3,k2.mem_iff]
    exact Or.comm
theorem t9 {ks:List Int} {Q:Value→Shared→Prop} (S:SetIs w s.heap a ks) (hl:ks.length+1<scanBound)
  (h:∀ (h':Heap) (ks':List Int),(∀ c o,s.heap.get? c=some o→h'.get? c=some o)→SetIs w h' s.heap.objs.size ks'→(∀ x,x∈ks'↔x∈ks)→ks'.length≤ks.length→Q (.ref s.heap.objs.size) { s with heap:=h' }) :
  wpAny (model prog w) A (Builtin.Frozenset.copyOf a) Q E s:=by
 obtain ⟨es,ep,t,S⟩:=S
 have hlt:∀ {c:Addr} {o:Obj},s.heap.get? c=some o→c≠s.heap.objs.size:=fun e=>xA0 (xA1 e)
 unfold Builtin.Frozenset.copyOf
 refine xAd (S.base ?_)
 refine xAd (lE fun led hld=>?_)
 refine xAd (xAe ?_)
 have P:=S.push (setObj #[] 0 (.fresh 0 0 led))
 have P0:=eP (w:=w) led hld s.heap
 refine xAd (jr (s:={ s with heap:=s.heap.push (setObj #[] 0 (.fresh 0 0 led)) }) ⟨_,_,_,P0⟩ P (hlt S.ob) (by simpa using hl) (fun s' Q _ q=>xAe q) fun h' ks' b1 b2 b3 b4=>xAe (h h' ks' (fun c o e=>?_) b2 (fun x=>by rw [b3];simp) (by simpa using b4)))
 rw [b1.2 c (hlt e)]
 exact xAf _ e
end
end SetA
namespace SetA
open PySem PySem.SetTable
end SetA
namespace SetA
open PySem PySem.Spec PySem.SetTable PyProof.Rows
theorem pV:∀ (N:Nat) {l:List Int},l.Nodup→(∀ k∈l,0≤k∧k<(N:Int))→l.length≤N
 | 0,l,_,h=>by
  cases l with
  | nil=>exact xAg _
  | cons k r=>have:=h k xAr;lia
 | N+1,l,nd,h=>by
  have e:=pV N (l:=l.erase (N:Int)) (nd.erase _) (fun k hk=>by
   have h1:=h k (List.mem_of_mem_erase hk)
   have h2:k≠(N:Int):=fun z=>by
    subst z
    exact (nd.mem_erase_iff.mp hk).1 rfl
   lia)
  rw [List.length_erase] at e
  split at e <;> lia
def Bnd (ks:List Int):Prop:=∀ x∈ks,0≤x∧x<4000
theorem Bnd.len {ks:List Int} (h:Bnd ks) (nd:ks.Nodup):ks.length+1<scanBound:=by
 have:=pV 4000 nd h
 have e:scanBound=4096:=rfl
 lia
section
variable {prog:Program} {w:World} {A:Around} {E:Value→Shared→Prop} {s:Shared}
theorem lP (x:Value) {Q₁:Value→Shared→Prop}
  (h:∀ led:Bool,(led=true∨w.params.followText "set-order"=true)→Q₁ (.ref s.heap.objs.size) { s with heap:=s.heap.push (setObj #[] 0 (.fresh 0 0 led)) }) :
  codeAny (model prog w) A (.call (.builtin "set.__new__") ⟨[.type "set",x],[]⟩) (wants Q₁ E) s:=by
 refine codeAny_of_tree ?_
 change wpAny _ A.in1 (do checkBuiltinCall "set.__new__" ⟨[.type "set",x],[]⟩;again (.builtin "set.__new__" ⟨[.type "set",x],[]⟩)) _ _ s
 refine xAd (wpAny_of_eq (PySem.F.newCall_set_1 x) (xAe ⟨plainId_quiet PySem.F.plain_set_new _,codeAny_builtin PySem.F.entry_set_new ?_⟩))
 rw [Around.under_plainId PySem.F.plain_set_new _]
 unfold Builtin.«set.__new__» Builtin.Frozenset.newClass
 have hss:=sub_set_self
 obtain ⟨hp,gg,dd,tt,oo⟩:=s
 dsimp only
 wp_walk
 refine wpAny_askSetting (xAe ?_)
 dsimp only
 simp only [newObj]
 refine xAd (wpAny_alloc (xAe (xAe (h _ ?_))))
 change (!(w.params.followText "set-order"))=true∨w.params.followText "set-order"=true
 cases w.params.followText "set-order" <;> simp
end
section
variable {prog:Program} {w:World} {A:Around} {R:Result→Shared→Prop} {I:Addr} {fp wr:List Addr} {G:Array GenState→Array GenState→Prop} {n:Nat} {P:Nat→Value→Prop} {St:Nat→Shared→Prop}
theorem hW (W:WalksS prog w A.in1 I fp wr G n P St) (S:Addr) (hSf:S ∉ fp) (val:Nat→Int) (hval:∀ i v,P i v→∃ t,v = .int (val i) t) (hv:∀ i,i<n→0≤val i∧val i<4000) :
  ∀ (k i:Nat) (s:Shared) (ks:List Int),n - i=k→i≤n→St i s→SetIs w s.heap S ks→(∀ x,x∈ks↔∃ j,j<i∧val j=x) →
   (∀ s' ks',Moved (S::wr) G s s'→SetIs w s'.heap S ks'→(∀ x,x∈ks'↔∃ j,j<n∧val j=x)→R (.ok (.ret .none)) s') →
   codeAny (model prog w) A (.builtin "set.update.loop" ⟨[.ref S,.ref I],[]⟩) R s:=by
 have hSw:S ∉ wr:=fun h=>hSf (W.sub _ h)
 have hsu:∀ b∈wr,b∈S::wr:=fun b hb=>xAs _ hb
 intro k
 induction k with
 | zero =>
  intro i s ks hk hi hst hS hm hR
  obtain rfl:i=n:=by lia
  refine codeAny_builtin PyProof.Rows.F.entry_set_update_loop ?_
  rw [Around.under_plainId PyProof.Rows.F.plain_set_update_loop _]
  change wpAny _ A.in1 (pyNext (.ref I) >>= _) _ _ s
  refine xAd (W.done s _ _ hst fun s' mv=>?_)
  change wpAny _ A.in1 (ret Value.none) _ _ s'
  exact xAe (hR s' ks (mv.mono hsu) (hS.at' fun o e=>mv.heap S _ hSw e) hm)
 | succ k ih =>
  intro i s ks hk hi hst hS hm hR
  have hlt:i<n:=by lia
  refine codeAny_builtin PyProof.Rows.F.entry_set_update_loop ?_
  rw [Around.under_plainId PyProof.Rows.F.plain_set_update_loop _]
  change wpAny _ A.in1 (pyNext (.ref I) >>= _) _ _ s
  refine xAd (W.item i s _ _ hlt hst fun v s' hP hst' mv=>?_)
  obtain ⟨t,rfl⟩:=hval i v hP
  have hS1:SetIs w s'.heap S ks:=hS.at' fun o e=>mv.heap S _ hSw e
  change wpAny _ A.in1 (holding [Value.int (val i) t] (setAdd S (.int (val i) t)) >>= _) _ _ s'
  refine xAd (wpAny_holding ?_)
  unfold setAdd
  refine wpAny_holding ?_
  refine xAd ((intKind prog w).pyHash (k:=val i) (intKind_is _ _ _ _) ?_)
  obtain ⟨es,ep,tb,hS1⟩:=hS1
  refine SIn.add (s:={ s' with toks:=s'.toks+1 }) hS1 (Bnd.len (fun x hx=>by obtain ⟨j,z1,z2⟩:=(hm x).mp hx;rw [← z2];exact hv j (by lia)) hS1.nd) fun h' ks' c1 c2 c3 c4=>?_
  refine xAe ⟨plainId_quiet PyProof.Rows.F.plain_set_update_loop _,ih (i+1) _ ks' (by lia) hlt (W.frame _ s' _ _ hst' (Nat.le_succ _) fun b hb o e=>?_) c2 (fun x=>?_) fun s'' ks'' mv2 d1 d2=>?_⟩
  ·rw [c1.2 b (fun h:b=S=>hSf (by rw [← h];exact hb))]
   exact e
  ·rw [c3,hm]
   constructor
   ·rintro (rfl | ⟨j,z1,z2⟩)
    ·exact ⟨i,by lia,rfl⟩
    ·exact ⟨j,by lia,z2⟩
   ·rintro ⟨j,z1,z2⟩
    by_cases e:j=i
    ·subst e;exact .inl z2.symm
    ·exact .inr ⟨j,by lia,z2⟩
  ·refine hR s'' ks'' (Moved.trans W.gtrans ((mv.mono hsu).then_heap (Nat.le_succ _) fun b o hb e=>?_) mv2) d1 d2
   rw [c1.2 b (fun h:b=S=>hb (by rw [h];exact xAr))]
   exact e
end
section
variable {prog:Program} {w:World} {A:Around} {E:Value→Shared→Prop} {s:Shared}
theorem set_list {l:Addr} {items:Array Value} {ns:List Int} {Q:Value→Shared→Prop}
  (hh:A.handled=none) (hl:s.heap.IsList l items) (hi:IntsAre items.toList ns) (hb:Bnd ns)
  (h:∀ (h':Heap) (tk:Nat) (ks:List Int),SetIs w h' s.heap.objs.size ks→(∀ x,x∈ks↔x∈ns) →
   (∀ b o,s.heap.get? b=some o→h'.get? b=some o)→s.toks≤tk→Q (.ref s.heap.objs.size) { s with heap:=h',toks:=tk }) :
  wpAny (model prog w) A (call (.type "set") [.ref l]) Q E s:=by
 obtain ⟨c,tl,hmro⟩:=PySem.F.called_set.mro
 have hmade:=PySem.F.called_set.made
 have hsub:=PySem.F.called_set.sub
 have hlen:items.size=ns.length:=by rw [← hi.length,xAh]
 refine wpAny_call (codeAny_of_tree ?_)
 change wpAny _ _ (callAny (.type "set") _) _ _ _
 refine xAe ⟨Code.quiet_builtin _ (by decide +kernel),codeAny_builtin PySem.F.entry_type_call ?_⟩
 rw [Around.under_plain (weight_type_call_type "set" [.ref l] []) rfl]
 have q1:=PySem.F.called_set.notType
 have q2:=PySem.F.called_set.canCreate
 have q3:=PySem.F.typeCall_set_1 (.ref l)
 repeat (any_goals (first | assumption | wp_step))
 refine codeAny_mono (lP (.ref l) (E:=E) (Q₁:=fun obj s₁=>∃ led:Bool,(led=true∨w.params.followText "set-order"=true)∧obj = .ref s.heap.objs.size∧s₁={ s with heap:=s.heap.push (setObj #[] 0 (.fresh 0 0 led)) }) fun led hld=>⟨led,hld,rfl,rfl⟩) fun r s₁ hr=>?_
 cases r with
 | error e=>exact hr
 | ok fl =>
  cases fl with
  | ret obj =>
   obtain ⟨led,hld,rfl,rfl⟩:=hr
   have P0:=eP (w:=w) led hld s.heap
   have hT:Shared.TypeIs { s with heap:=s.heap.push (setObj #[] 0 (.fresh 0 0 led)) } (.ref s.heap.objs.size) "set":=⟨_,P0.ob,rfl⟩
   have hli:=PySem.F.called_set.init.lookup
   have hbi:=PySem.F.called_set.init.bind (.ref s.heap.objs.size)
   repeat (any_goals (first | assumption | wp_step))
   refine codeAny_mono (codeAny_call_builtin (R:=wants (fun r s₂=>r = .none∧∃ h' tk ks,s₂={ s with heap:=h',toks:=tk }∧SetIs w h' s.heap.objs.size ks∧(∀ x,x∈ks↔x∈ns) ∧
     (∀ b o,s.heap.get? b=some o→h'.get? b=some o)∧s.toks≤tk) E) PySem.F.called_set.init.plain PySem.F.entry_set_init (check_set_init_1 hT ?_)) fun r₂ s₂ hr₂=>?_
   ·obtain ⟨ol,hol,hcl,nl,hdl⟩:=hl
    obtain ⟨ocls,odict,odata,oslots⟩:=ol
    simp only at hcl hdl
    subst hcl;subst hdl
    have hol1:(s.heap.push (setObj #[] 0 (.fresh 0 0 led))).get? l=some { cls:=.type "list",dict:=odict,data:=.seq items nl,slots:=oslots }:=xAf _ hol
    have q4:=PySem.F.sub_list_set
    have q5:=PySem.F.sub_list_frozenset
    have q6:(Value.type "list" == Value.type "dict")=false:=by decide
    have hl1:(s.heap.push (setObj #[] 0 (.fresh 0 0 led))).IsList l items:=⟨_,hol1,rfl,nl,rfl⟩
    unfold Builtin.«set.__init__» noKeywords Builtin.Frozenset.updateFrom
    generalize hPI:pyIter=PI
    wp_walk
    subst hPI
    refine wpAny_pyIter_list hl1 ?_
    refine xAd (wpAny_runValue ?_)
    have hlS:l<s.heap.objs.size:=xA1 hol
    have hh3:A.in1.in1.in1.handled=none:=by simp [hh]
    have hneI:l≠(s.heap.push (setObj #[] 0 (.fresh 0 0 led))).objs.size:=by
     rw [Heap.size_push]
     exact xA0 (xCa hlS)
    have hSf:s.heap.objs.size ∉ [(s.heap.push (setObj #[] 0 (.fresh 0 0 led))).objs.size,l]:=by
     rw [Heap.size_push]
     simp only [xAv,xBv,or_false,not_or]
     exact ⟨xA0 (Nat.lt_succ_self _),Nat.ne_of_gt hlS⟩
    have hval:∀ (i:Nat) (v:Value),items[i]?=some v→∃ t,v = .int ((fun i=>ns.getD i 0) i) t:=fun i v hv =>
     IntsAre.int_at hi i v (by rw [xA8];exact hv)
    refine hW ((Walks.list hh3 _ l hneI items).toS) s.heap.objs.size hSf (fun i=>ns.getD i 0) hval (fun i hi=>?hB) (items.size - 0) 0 _ [] (by lia) (xBn _)
     ⟨⟨_,xAl _ rfl,rfl,rfl⟩,(hl1.push _)⟩ ⟨_,_,_,P0.at' fun o e=>xAf _ e⟩ (fun x=>by simp) ?hR
    case hB =>
     refine hb _ ?_
     rw [xBz,xAk (by lia)]
     exact List.getElem_mem _
    case hR =>
     intro s' ks' mv d1 d2
     obtain ⟨h',g',d',tk',os'⟩:=s'
     have eg:g'=s.gens:=mv.gens
     have ed:d'=s.drawn:=mv.drawn
     have eo:os'=s.os:=mv.os
     have et:s.toks≤tk':=mv.toks
     subst eg;subst ed;subst eo
     change wpAny _ _ _ _ _ _
     refine xAe ?_
     change wpAny _ _ (ret Value.none) _ _ _
     refine xAe ⟨rfl,h',tk',ks',rfl,d1,fun x=>?_,fun b o e=>?_,et⟩
     ·rw [d2,List.mem_iff_getElem]
      constructor
      ·rintro ⟨j,z1,z2⟩
       refine ⟨j,by lia,?_⟩
       rw [← z2,xBz,xAk (by lia)]
       rfl
      ·rintro ⟨j,z1,z2⟩
       refine ⟨j,by lia,?_⟩
       rw [← z2,xBz,xAk (by lia)]
       rfl
     ·have hb0:=xA1 e
      have hb1:b≠s.heap.objs.size:=xA0 hb0
      have hb2:b≠(s.heap.push (setObj #[] 0 (.fresh 0 0 led))).objs.size:=by
       rw [Heap.size_push]
       exact xA0 (xCa hb0)
      exact mv.heap b o (by simp only [xAv,xBv,or_false,not_or];exact ⟨hb1,hb2⟩) (xAf _ (xAf _ e))
   ·cases r₂ with
    | error e=>exact hr₂
    | ok fl₂ =>
     cases fl₂ with
     | ret r =>
      obtain ⟨rfl,h',tk,ks,rfl,z1,z2,z4,z5⟩:=hr₂
      repeat (any_goals (first | assumption | wp_step))
      exact h _ _ _ z1 z2 z4 z5
     | _=>exact hr₂.elim
  | _=>exact hr.elim
end
end SetA
namespace SetA
open PySem PySem.Spec PySem.SetTable PyProof.Rows
theorem qN:entryFor table "set.__iter__"=some Builtin.«frozenset.__iter__» :=
 entryFor_alias (id':="frozenset.__iter__") (by kernel_rfl) rfl (by decide +kernel) (by kernel_rfl)
theorem pj:Manifest.owners.lookup (String.ofList ['r','o','t','a','r','e','t','i','_','t','e','s'].reverse)=some Manifest.sig_set_iterator:=by kernel_rfl
theorem fu:Slot "set_iterator" "__iter__" "set_iterator.__iter__" :=
 Slot.of (owner:="set_iterator") (n:="__iter__") (by rw [typeLookup_type,builtinLookup_eq_fast];kernel_rfl) (by decide +kernel) (by decide +kernel) (by decide +kernel) (by first | exact .inl (by decide +kernel) | exact .inr (by decide +kernel)) (by rw [isSubtype_type];kernel_rfl)
theorem bD:Slot "set_iterator" "__next__" "set_iterator.__next__" :=
 Slot.of (owner:="set_iterator") (n:="__next__") (by rw [typeLookup_type,builtinLookup_eq_fast];kernel_rfl) (by decide +kernel) (by decide +kernel) (by decide +kernel) (by first | exact .inl (by decide +kernel) | exact .inr (by decide +kernel)) (by rw [isSubtype_type];kernel_rfl)
theorem fD:entryFor table "set_iterator.__next__"=some Builtin.«set_iterator.__next__»:=entryFor_of_tree (by kernel_rfl)
theorem jE:entryFor table "set_iterator.__iter__"=some Builtin.«dict_keyiterator.__iter__» :=
 entryFor_alias (id':="dict_keyiterator.__iter__") (by kernel_rfl) rfl (by decide +kernel) (by kernel_rfl)
theorem fG (a:Value):argsOk "set_iterator.__next__" ⟨[a],[]⟩:=by
 unfold argsOk;rw [signature?_of (id:="set_iterator.__next__") (n:=['_','_','t','x','e','n','_','_']) (o:=['r','o','t','a','r','e','t','i','_','t','e','s']) (by kernel_rfl) pj];kernel_rfl
theorem jV (a:Value):argsOk "set_iterator.__iter__" ⟨[a],[]⟩:=by
 unfold argsOk;rw [signature?_of (id:="set_iterator.__iter__") (n:=['_','_','r','e','t','i','_','_']) (o:=['r','o','t','a','r','e','t','i','_','t','e','s']) (by kernel_rfl) pj];kernel_rfl
def itObj (slot i:Nat) (a:Addr) (n ep:Nat):Obj:={ cls:=.type "set_iterator",dict:=none,data:=.fields #[rawInt slot,rawInt i,.ref a,rawInt n,rawInt ep],slots:=#[] }
section
variable {prog:Program} {w:World} {A:Around} {E:Value→Shared→Prop} {s:Shared} {a:Addr} {es:Array (Int×Value)} {ep:Nat} {t:SetTable} {ks:List Int}
theorem SIn.drawn (S:SIn w s.heap a es ep t ks) {Q:Bool→Shared→Prop} (h:Q false s):wpAny (model prog w) A (setDrawn a) Q E s:=by
 unfold setDrawn
 refine xAd (S.state ?_)
 dsimp only
 refine xAd (byText ?_)
 change wpAny _ _ (pure (!(w.params.followText "set-order") && (!t.plain && decide (es.size > 1)))) _ _ _
 rw [S.tb.pl]
 simp only [Bool.not_true,Bool.false_and,Bool.and_false]
 exact xAe h
theorem SIn.iter (S:SIn w s.heap a es ep t ks) {Q:Value→Shared→Prop} (h:Q (.ref s.heap.objs.size) { s with heap:=s.heap.push (itObj 0 0 a ks.length ep) }) :
  wpAny (model prog w) A (pyIter (.ref a)) Q E s:=by
 refine wpAny_pyIter_slot S.type PySem.F.slot_set_iter (wpAny_call_entry PySem.F.slot_set_iter S.type qN ?_ (PySem.F.args_set_iter_1 _))
 unfold Builtin.«frozenset.__iter__»
 refine xAd (m:=Builtin.Frozenset.slot0 _ _) (xAe ?_)
 refine xAd (S.sizeOf ?_)
 refine xAd (S.drawn ?_)
 rw [xCf xAy]
 refine xAd (xAe ?_)
 refine xAd (S.epoch ?_)
 refine xAd (xBl (xAe ⟨_,rfl,"set_iterator",_,⟨_,xAl _ rfl,rfl⟩,bD.lookup,?_⟩))
 exact h
def ItAt (w:World) (h:Heap) (I a:Addr) (es:Array (Int×Value)) (ep:Nat) (t:SetTable) (ks:List Int) (i:Nat):Prop :=
 (∃ slot,h.get? I=some (itObj slot i a ks.length ep)∧(w.params.followText "set-order"=false→below t.place slot=i))∧SIn w h a es ep t ks
theorem wS {h:Heap} {I:Addr} {slot i n:Nat} (ho:h.get? I=some (itObj slot i a n ep)) (slot':Nat) :
  ((h.update I (Obj.mapFields (·.setIfInBounds 0 (rawInt slot')))).update I (Obj.mapFields (·.setIfInBounds 1 (rawInt ((i:Int)+1))))).get? I=some (itObj slot' (i+1) a n ep):=by
 have e1:=xA7 (Obj.mapFields (·.setIfInBounds 0 (rawInt slot'))) ho rfl
 have e2:=xA7 (Obj.mapFields (·.setIfInBounds 1 (rawInt ((i:Int)+1)))) e1 rfl
 exact e2
theorem SIn.next (S:SIn w s.heap a es ep t ks) {slot i:Nat} (hs:w.params.followText "set-order"=false→below t.place slot=i) {Q:Option (Value×Nat)→Shared→Prop}
  (h1:∀ (e:Int×Value) (slot':Nat),(wk w a ep es)[i]?=some e→(w.params.followText "set-order"=false→below t.place slot'=i+1)→Q (some (e.2,slot')) s)
  (h2:(wk w a ep es)[i]?=none→Q none s):wpAny (model prog w) A (setNext a slot i ep) Q E s:=by
 unfold setNext
 refine xAd (S.state ?_)
 dsimp only
 refine xAd (byText ?_)
 cases hb:w.params.followText "set-order" with
 | true =>
  rw [xCg rfl,xCf (by simp)]
  refine xAd (S.walk (xAe ?_))
  cases he:(wk w a ep es)[i]? with
  | none=>exact h2 he
  | some e=>exact h1 e slot he fun q=>by rw [hb] at q;cases q
 | false =>
  rw [xCf xAy]
  have hl:t.led=true:=S.ld.elim id fun q=>by rw [hb] at q;cases q
  have hw:wk w a ep es=es:=by unfold wk;rw [hb,xCf xAy]
  rw [hw] at h1 h2
  change wpAny _ _ (if (!t.plain && decide (es.size > 1))=true then _ else _) _ _ _
  rw [S.tb.pl]
  simp only [Bool.not_true,Bool.false_and,xAz,↓reduceIte]
  change wpAny _ _ ((if (!t.led && !es.isEmpty)=true then unsupported "set:maker-not-led" else pure ()) >>= _) _ _ _
  rw [hl]
  simp only [Bool.not_true,Bool.false_and,xAz,↓reduceIte]
  refine xAd (xAe (xAe ?_))
  rw [hs hb]
  have hsz:=S.tb.sz
  cases he:es[i]? with
  | none=>exact h2 he
  | some e =>
   obtain ⟨hi,_⟩:=xB7.mp he
   rw [Array.getElem?_eq_getElem (by lia:i<t.place.size)]
   refine h1 e _ he fun _=>gJ S.tb.ris (by lia) (fun _ _=>?_) fun hj=>?_
   ·exact Nat.lt_succ_self _
   ·exact S.tb.ris i (i+1) (by lia) hj (Nat.lt_succ_self _)
theorem np {I:Addr} {i:Nat} {Q:Option Value→Shared→Prop} (hne:a≠I) (st:ItAt w s.heap I a es ep t ks i) (hi:i<ks.length)
  (h:∀ e h',(wk w a ep es)[i]?=some e→ItAt w h' I a es ep t ks (i+1)→Heap.SameBut I s.heap h'→Q (some e.2) { s with heap:=h' }):wpAny (model prog w) A (pyNext (.ref I)) Q E s:=by
 obtain ⟨⟨slot,ho,hs⟩,S⟩:=st
 have hT:s.TypeIs (.ref I) "set_iterator":=⟨_,ho,rfl⟩
 unfold pyNext
 refine xAd (wpAny_attempt (wpAny_callSpecial?_slot (name:=Str.ofString "__next__") hT bD (wpAny_call_entry bD hT fD ?_ (fG _))))
 unfold Builtin.«set_iterator.__next__»
 refine xAd (xAe ?_)
 refine xAd (wpAny_fieldsOf ho rfl ?_)
 dsimp only
 refine xAd (S.entries ?_)
 have hsz:=S.size
 rw [xCf (by rw [hsz];simp)]
 change wpAny _ _ (setNext a slot i ep >>= _) _ _ _
 refine xAd (S.next hs (fun e slot' he hs'=>?_) fun he=>?_)
 ·dsimp only
  refine xAd (wpAny_setField ho rfl (by simp) ?_)
  have e1:=xA7 (Obj.mapFields (·.setIfInBounds 0 (rawInt slot'))) ho rfl
  refine xAd (wpAny_setField e1 rfl (by simp) ?_)
  have hsb:=(xB5 s.heap I (Obj.mapFields (·.setIfInBounds 0 (rawInt slot')))).trans (xB5 _ I (Obj.mapFields (·.setIfInBounds 1 (rawInt ((i:Int)+1)))))
  refine xAe ⟨_,rfl,xAe (h e _ he ⟨⟨slot',wS ho slot',hs'⟩,S.at' fun o eo=>?_⟩ hsb)⟩
  rw [hsb.2 a hne]
  exact eo
 ·have:=(io w a ep es).length_eq
  rw [xAh,xAh] at this
  rw [Array.getElem?_eq_none_iff] at he
  lia
theorem pU {I:Addr} {Q:Option Value→Shared→Prop} (hh:A.handled=none) (st:ItAt w s.heap I a es ep t ks ks.length)
  (h:∀ h',Heap.ExtBut I s.heap h'→Q none { s with heap:=h' }):wpAny (model prog w) A (pyNext (.ref I)) Q E s:=by
 obtain ⟨⟨slot,ho,hs⟩,S⟩:=st
 have hT:s.TypeIs (.ref I) "set_iterator":=⟨_,ho,rfl⟩
 unfold pyNext
 refine xAd (wpAny_attempt (wpAny_callSpecial?_slot (name:=Str.ofString "__next__") hT bD (wpAny_call_entry bD hT fD ?_ (fG _))))
 unfold Builtin.«set_iterator.__next__»
 refine xAd (xAe ?_)
 refine xAd (wpAny_fieldsOf ho rfl ?_)
 dsimp only
 refine xAd (S.entries ?_)
 have hsz:=S.size
 rw [xCf (by rw [hsz];simp)]
 change wpAny _ _ (setNext a slot ks.length ep >>= _) _ _ _
 refine xAd (S.next hs (fun e slot' he hs'=>?_) fun he=>?_)
 ·obtain ⟨q,_⟩:=xB7.mp he
  have:=(io w a ep es).length_eq
  rw [xAh,xAh] at this
  lia
 ·dsimp only
  refine xAd (wpAny_setField ho rfl (by simp) ?_)
  refine xAd ?_
  simp only [newExc,newTuple]
  refine xAd (xBl ?_ (by size_fits))
  refine xAd (m:=firstArgMember _ _) (wpAny_of_eq (a:=Value.none) (by first | rfl | (simp only [firstArgMember];rfl)) ?_)
  refine xBl ?_ (by size_fits)
  simp only [raiseNew]
  refine xAd (wpAny_handled ?_)
  rw [show A.in1.handled=none from hh]
  refine xAd (xAe (wpAny_throw ?_))
  refine xAd (xBk (T:="StopIteration") (b:=true) ⟨_,xAl _ rfl,rfl⟩ isSubtype_stop ?_)
  exact xAe (h _ (((xB5 ..).extBut.push _).push _))
theorem mK (hh:A.handled=none) (I a:Addr) (hne:a≠I) (es:Array (Int×Value)) (ep:Nat) (t:SetTable) (ks:List Int) :
  Walks prog w A I [I,a] [I] ks.length (fun i v=>∃ e,(wk w a ep es)[i]?=some e∧e.2=v) (fun i h=>ItAt w h I a es ep t ks i) where
 sub:=fun b hb=>by simp at hb;simp [hb]
 frame:=fun _ _ _ st hk=>⟨let ⟨slot,z1,z2⟩:=st.1;⟨slot,hk I (by simp) _ z1,z2⟩,st.2.at' fun o e=>hk a (by simp) o e⟩
 item:=fun i s Q E hi st hQ=>np hne st hi fun e h' z1 z2 z3=>hQ e.2 h' s.toks ⟨e,z1,rfl⟩ z2 fun b o hb q=>z3.extBut b o (fun z=>hb (by simp [z])) q
 done:=fun s Q E st hQ=>pU hh st fun h' z=>hQ h' s.toks fun b o hb q=>z b o (fun z=>hb (by simp [z])) q
 self:=fun _ s _ _ st hQ=>by
  obtain ⟨⟨slot,ho,_⟩,_⟩:=st
  have hT:s.TypeIs (.ref I) "set_iterator":=⟨_,ho,rfl⟩
  refine wpAny_pyIter_slot hT fu (wpAny_call_entry fu hT jE ?_ (jV _))
  change wpAny _ _ (ret (.ref I)) _ _ s
  exact xAe ⟨_,rfl,"set_iterator",_,hT,bD.lookup,hQ⟩
theorem qy {r:Addr} {Q:Bool→Shared→Prop} (hT:s.TypeIs (.ref r) "set") (h:Q false s):wpAny (model prog w) A (Builtin.List.listLengthHint (.ref r)) Q E s:=by
 unfold Builtin.List.listLengthHint
 refine xAd (wpAny_specialOf hT PySem.F.slot_set_len.lookup ?_)
 generalize hid:("set.__len__":String)=id0
 wp_delta
 rw [show splitId id0=some ("set","__len__") from by subst hid;decide +kernel]
 subst hid
 refine xAd (xBk (T:="set") (b:=true) hT (by rw [isSubtype_type];kernel_rfl) ?_)
 refine wpAny_ite_split (fun hab=>absurd hab (by decide)) (fun _=>?_)
 refine wpAny_ite_split (fun _=>?_) (fun hab=>absurd (by decide +kernel) hab)
 refine xAd (wpAny_typeOf hT ?_)
 exact xAe h
theorem ri:PySem.W.KdlSrc prog w "set" a a ks.length (fun i v=>∃ e,(wk w a ep es)[i]?=some e∧e.2=v) (fun h=>SIn w h a es ep t ks) where
 type:=fun s q=>SIn.type (s:=s) q
 there:=fun _ q=>⟨xA1 q.ob,xA1 q.ob⟩
 keep:=fun _ _ q hk=>q.at' fun o e=>hk a (.inl rfl) o e
 notList:=by decide
 notTuple:=by decide
 hint:=fun _ _ s _ q hq=>qy (SIn.type (s:=s) q) hq
 iter:=fun _ s hh q=>⟨_,_,(fun _ _ hq=>SIn.iter (s:=s) q hq),mK hh _ a (xA0 (xA1 q.ob)) es ep t ks,⟨⟨0,xAl _ rfl,fun _=>gJ q.tb.ris (xBn _) (fun z=>absurd z (xBo _)) fun _=>xBn _⟩,q.at' fun o e=>xAf _ e⟩⟩
end
end SetA
namespace L2
open PySem PySem.Spec PyProof.Rows SetA
def SetO (w:World) (p:Addr) (ks:List Int):HO:=HO.ext fun h=>SetIs w h p ks
theorem uO {P:Program} {w:World} {H:Hp} {h:Heap} {p:Addr} {ks:List Int} (S:SetIs w h p ks):ObjOk P w H h p (SetO w p ks) :=
 ⟨S,let ⟨_,_,_,q⟩:=S;⟨_,q.ob⟩,fun h1 h2 q k=>q.at' k⟩
theorem eU {P:Program} {w w':World} {H:Hp} {h:Heap} {p:Addr} {ks:List Int} (ok:HOk P w' H h) (e:H p=some (SetO w p ks)):SetIs w h p ks:=(ok p _ e).1
theorem tQ:entryFor table "set.__and__"=some Builtin.«frozenset.__and__» :=
 entryFor_alias (id':="frozenset.__and__") (by kernel_rfl) rfl (by decide +kernel) (by kernel_rfl)
theorem w4:entryFor table "set.__or__"=some Builtin.«frozenset.__or__» :=
 entryFor_alias (id':="frozenset.__or__") (by kernel_rfl) rfl (by decide +kernel) (by kernel_rfl)
section
variable {X:Cx}
theorem fK {s:Shared} {pins:List (Addr×Obj)} {σ:St} {H:Hp} {h':Heap} {tk:Nat} {ks:List Int} {Q:VK} (I:Inv X pins σ H s) (k:∀ b o,s.heap.get? b=some o→h'.get? b=some o) (S:SetIs X.w h' s.heap.objs.size ks)
  (q:H s.heap.objs.size=none→Q (.ref s.heap.objs.size) (upd H s.heap.objs.size (SetO X.w s.heap.objs.size ks))):EP X pins σ Q (.ref s.heap.objs.size) { s with heap:=h',toks:=tk }:=by
 have hfr:s.heap.get? s.heap.objs.size=none:=by
  cases z:s.heap.get? s.heap.objs.size with
  | none=>rfl
  | some o=>exact absurd (xA1 z) (xBo _)
 obtain ⟨hfree,I2⟩:=Inv.laidN (t':=tk) I k hfr (uO S)
 exact ⟨.ref s.heap.objs.size,_,I2,rfl,q hfree⟩
theorem sJ:OpR X (binaryOp .BitAnd) (fun x y H Q=>∃ (p q:Addr) (ks1 ks2:List Int),x = .ref p∧y = .ref q∧q≠p∧H p=some (SetO X.w p ks1)∧H q=some (SetO X.w q ks2)∧Bnd ks1∧Bnd ks2 ∧
  ∀ (l:Addr) (ks':List Int),H l=none→ks'.Nodup→(∀ z,z∈ks'↔z∈ks1∧z∈ks2)→Q (.ref l) (upd H l (SetO X.w l ks'))):=by
 intro pins s σ H x y v u Q I rx ry h
 obtain ⟨p,q,ks1,ks2,rfl,rfl,hne,hp,hq,l1,l2,h⟩:=h
 obtain rfl:v=Value.ref p:=rx
 obtain rfl:u=Value.ref q:=ry
 have S1:=eU I.hok hp
 have S2:=eU I.hok hq
 obtain ⟨es1,ep1,t1,T1⟩:=id S1
 obtain ⟨es2,ep2,t2,T2⟩:=id S2
 refine wpAny_binaryOp_same T1.type T2.type (fillsNumberSlot_of PySem.F.slot_set_and.lookup (by decide +kernel) PySem.F.slot_set_rand.lookup) PySem.F.slot_set_and (wpAny_call_entry PySem.F.slot_set_and T1.type tQ ?_ (PySem.F.args_set_and_2 _ _))
 change wpAny _ _ (Builtin.Frozenset.slot1 "__and__" ⟨[.ref p,.ref q],[]⟩ >>= _) _ _ _
 refine xAd (xAe ?_)
 dsimp only
 refine xAd (xAd (T1.any ?_))
 change wpAny _ _ (Builtin.Frozenset.isAnySet (.ref q)) _ _ _
 refine T2.any ?_
 rw [xCf (by simp)]
 refine xAd (xAe ?_)
 refine xAd (qu S1 S2 hne (l1.len T1.nd) (l2.len T2.nd) fun h' ks' c1 c2 c3 c4=>?_)
 exact xAe ⟨_,rfl,(fun e=>nomatch e),fK (tk:=s.toks) I c1 c2 fun hf=>h _ ks' hf (let ⟨_,_,_,z⟩:=c2;z.nd) c3⟩
theorem nS (hc:X.calm=true):CallR X (.type "set") (fun xs H Q=>∃ (p:Addr) (ns:List Int),xs=[.ref p]∧SqL X.K H p (ns.map V.int)∧Bnd ns ∧
  ∀ (l:Addr) (ks:List Int),H l=none→ks.Nodup→(∀ z,z∈ks↔z∈ns)→Q (.ref l) (upd H l (SetO X.w l ks))):=by
 intro pins s σ H xs us Q I r h
 obtain ⟨p,ns,rfl,hS,hl,h⟩:=h
 obtain ⟨u,rfl,ru⟩:=vals1 r
 obtain rfl:u=Value.ref p:=ru
 obtain ⟨its,r1,t1,z1⟩:=I.list hS
 have hlen:=r1.length
 rw [xAa] at hlen
 refine SetA.set_list (I.ok.hd hc) t1.isList (cD r1) hl fun h' tk ks c1 c2 c4 c5=>?_
 exact fK (tk:=tk) I c4 c1 fun hf=>h _ ks hf (let ⟨_,_,_,z⟩:=c1;z.nd) c2
theorem nJ {es:Array (Int×Value)} {ns:List Int} {acc:Array Value} (he:EOk es.toList) (hk:es.toList.map eKey=ns) (hi:acc.size=ns.length)
  (hv:∀ (i:Nat) (v:Value),acc[i]?=some v→∃ e,es[i]?=some e∧e.2=v):Vals (ns.map V.int) acc.toList:=by
 have gen:∀ (l:List Value) (ms:List Int),l.length=ms.length→(∀ (i:Nat) (v:Value),l[i]?=some v→∃ m t,ms[i]?=some m∧v=Value.int m t)→Vals (ms.map V.int) l:=by
  intro l
  induction l with
  | nil =>
   intro ms h _
   cases ms with
   | nil=>exact .nil
   | cons _ _=>simp at h
  | cons v l ih =>
   intro ms h q
   cases ms with
   | nil=>simp at h
   | cons m ms =>
    obtain ⟨m',t,e1,e2⟩:=q 0 v rfl
    cases e1
    exact .cons ⟨t,e2⟩ (ih ms (by simpa using h) fun i u e=>q (i+1) u e)
 refine gen acc.toList ns (by rw [xAh];exact hi) fun i v e=>?_
 obtain ⟨x,e1,e2⟩:=hv i v (by rw [← xA8];exact e)
 rw [← xA8] at e1
 obtain ⟨k,t,rfl⟩:=he x (xAc e1)
 refine ⟨k,t,?_,e2.symm⟩
 rw [← hk,xAw,e1]
 rfl
theorem i5 (hc:X.calm=true):CallR X (.builtin "sorted") (fun xs H Q=>∃ (p:Addr) (ks:List Int),xs=[.ref p]∧H p=some (SetO X.w p ks)∧Bnd ks ∧
  ∀ (l:Addr) (ns':List Int),H l=none→ks.Nodup→ns'.Perm ks→ns'.Pairwise (·≤·)→Q (.ref l) (upd H l (.lst (ns'.map V.int)))):=by
 intro pins s σ H xs us Q I r h
 obtain ⟨p,ks,rfl,hd,hlk,q⟩:=h
 obtain ⟨u,rfl,ru⟩:=vals1 r
 obtain rfl:u=Value.ref p:=ru
 obtain ⟨es,ep,t,S⟩:=eU I.hok hd
 have hsl:=sizeLine_eq
 have hlk:=hlk.len S.nd
 have hsb:scanBound=4096:=rfl
 refine Calls.call_function_entry kind_sorted plain_sorted entry_sorted (args_sorted1 _) ?_
 unfold Builtin.«sorted»
 refine xAd (m:=checkCount "sorted" 1 1 _) (xAe ?_)
 refine xAd (PySem.W.kdu_collect (A:=X.A.in1) (ri (es:=es) (ep:=ep) (t:=t) (ks:=ks)) (I.ok.hd hc) S (by lia) fun h' tk acc hkeep hacc=>?_)
 obtain ⟨k1,k2⟩:=wk_keys (s:=s) S
 have va:=nJ (acc:=acc) k1 rfl (by rw [hacc.1,k2.length_eq]) (fun i v e=>hacc.2 i v e)
 have hla:=va.length
 rw [xAa,k2.length_eq] at hla
 have hzl:acc.toList.length≤sizeLine:=by lia
 refine xAd (wpAny_newList ?_ hzl)
 have gL:(h'.push (seqObj "list" acc.toList.toArray 0)).get? h'.objs.size=some (seqObj "list" acc.toList.toArray 0):=xAl _ rfl
 refine xAd (wpAny_holding (wpAny_call_entry slot_list_sort ⟨_,gL,rfl⟩ entry_list_sort (Tim.tree_any gL (cD va) hzl fun out ns' q1 q2 q3=>⟨_,rfl,?_⟩) (args_list_sort _)))
 refine xAe ⟨_,rfl,?_⟩
 have keepAll:∀ b o,s.heap.get? b=some o→(sortedHeap (h'.push (seqObj "list" acc.toList.toArray 0)) h'.objs.size acc.toList out).get? b=some o:=fun b o e=>by
  have hb:=xA1 (hkeep b o e)
  rw [sortedHeap_old (xA0 hb) (by rw [size_push'];exact xCa hb)]
  exact xAf _ (hkeep b o e)
 obtain ⟨e,g⟩:=sortedHeap_at (vs:=acc.toList) (out:=out) gL
 have hfr:s.heap.get? h'.objs.size=none:=by
  cases z:s.heap.get? h'.objs.size with
  | none=>rfl
  | some o=>exact absurd (xA1 (hkeep _ _ z)) (xBo _)
 have new:ObjOk X.prog X.w (upd H h'.objs.size (.lst (ns'.map V.int))) (sortedHeap (h'.push (seqObj "list" acc.toList.toArray 0)) h'.objs.size acc.toList out) h'.objs.size (.lst (ns'.map V.int)):=by
  refine ⟨?_,out.toList,e,cY q1,?_⟩
  ·rw [xAa,q2.length_eq,k2.length_eq]
   lia
  ·rw [g,Array.toArray_toList]
 obtain ⟨hfree,I2⟩:=Inv.laidN (t':=tk) I keepAll hfr new
 exact ⟨.ref h'.objs.size,_,I2,rfl,q _ ns' hfree S.nd (q2.trans k2) q3⟩
end
end L2
namespace L2
open PySem PySem.Spec PyProof.Rows
section
variable {X:Cx} {pins:List (Addr×Obj)} {σ:St} {H:Hp} {s:Shared} {h':Heap}
theorem Inv.turnedL {t':Nat} {fp:List Addr} (I:Inv X pins σ H s) (k:∀ b o,b ∉ fp→s.heap.get? b=some o→h'.get? b=some o) (hf:∀ b∈fp,FpOk X pins H b):Inv X pins σ H { s with heap:=h',toks:=t' }:=by
 have nit:∀ b u,H b=some u→b ∉ fp:=fun b u e z=>by rw [(hf b z).1] at e;cases e
 refine I.step (g':=s.gens) (d':=s.drawn) (ch:=fp) (fun b hb=>?_) (fun b o _ _ hc e _=>k b o hc e) (fun b o _ _ hc e _=>⟨o.slots,k b o hc e⟩) (fun _ _ _ _ n=>n)
  (fun b o hc e=>⟨o,k b o hc e⟩) (fun _ _ e=>e) (fun _ _ _ e=>e) (fun b ps e=>⟨#[],by rw [e];simp⟩) (fun m hm=>?_) (fun b u e=>?_) I.bare
 ·obtain ⟨f0,f1,f2,f3,f4,f5⟩:=hf b hb
  exact ⟨f3,f1,f4,f5⟩
 ·obtain ⟨o,es,ep,ho,r⟩:=hm
  exact ⟨o,es,ep,k _ o (fun z=>(hf _ z).2.1 rfl) ho,r⟩
 ·refine (I.hok b u e).stay (fun c v hc q=>k c v ?_ q) (fun _ q=>q) fun _ _ q=>q
  rcases hc with z | z
  ·rw [z];exact nit b u e
  ·exact nit c _ z
end
def Ite (K:xFr) (a:Addr):It :=
 ⟨fun i H=>∃ xs x,SqL K H a xs∧xs[i]?=some x,fun i H x H'=>∃ (p:Addr) (v:V),x = .ref p∧H p=none∧H'=upd H p (.tup [.int i,v])∧∀ xs,SqL K H a xs→xs[i]?=some v,fun i H=>∃ xs,SqL K H a xs∧xs.length≤i⟩
theorem mM {P:Program} {w:World} {K:xFr} {elts:List Expr} {k:Nat} {pos:Pos} (a it e:Addr) (hne:e≠it):Turn P w K (.Tuple elts k pos) (Ite K a) [e,it] e (fun i h=>(∃ old,IsEnum h e it (i:Nat) old)∧h.IsListIter it a i) where
 mem:=by simp
 obj:=fun i h st b hb=>by
  obtain ⟨⟨old,q1⟩,o,q2,c,d⟩:=st
  simp only [xAv,xBv,or_false] at hb
  rcases hb with rfl | rfl
  ·exact ⟨_,q1,fun v z=>by cases z⟩
  ·exact ⟨o,q2,fun v z=>by rw [d] at z;cases z⟩
 keep:=fun i h h' st k=>⟨let ⟨old,q⟩:=st.1;⟨old,k e (by simp) _ q⟩,st.2.at fun o e'=>k it (by simp) o e'⟩
 item:=by
  intro X hP hw hK hc i pins s σ H E I hf st hg
  subst hP hw hK
  obtain ⟨xs,x,hq,hx⟩:=hg
  obtain ⟨its,rv,p,hz⟩:=I.list hq
  obtain ⟨u,hu,ru⟩:=rv.get hx
  obtain ⟨⟨old,he⟩,hit⟩:=st
  refine wpAny_pyNext_enum_item he hit p.isList (x:=u) (by simpa using hu) hne fun h1 ho hit1 hT hsz hk=>?_
  have hel:e<s.heap.objs.size:=xA1 he
  have hil:it<s.heap.objs.size:=by obtain ⟨_,z,_⟩:=hit;exact xA1 z
  have h0:H s.heap.objs.size=none:=I.hok.fresh (xAg _)
  have I1:Inv X pins σ (upd H s.heap.objs.size (.tup [.int i,x])) { s with heap:=s.heap.push { cls:=.type "tuple",data:=.seq #[.int i s.toks,u] },toks:=s.toks+1 }:=by
   refine I.laid (fun b o e=>xAf _ e) (xAg _) ⟨by simp [sizeLine_eq],[.int i s.toks,u],.cons ⟨_,rfl⟩ (.cons ru .nil),_,xAl _ rfl,rfl,_,rfl⟩
  refine ⟨_,rfl,wpAny_letOwnedTupleGo_enum (s:={ s with heap:=h1,toks:=s.toks+1 }) ho fun h2 he2 hs2=>?_⟩
  have hs2':Heap.SameBut e h1 h2:=hs2
  have fp':∀ b∈[e,it],FpOk X pins (upd H s.heap.objs.size (.tup [.int i,x])) b:=fun b hb=>by
   obtain ⟨f0,f⟩:=hf b hb
   refine ⟨?_,f⟩
   rw [aA]
   ·exact f0
   ·simp only [xAv,xBv,or_false] at hb
    rcases hb with rfl | rfl
    ·exact xA0 hel
    ·exact xA0 hil
  have I2:=Inv.turnedL (t':=s.toks+1) (h':=h2) (fp:=[e,it]) I1 (fun b o hb eb=>?_) fp'
  ·refine ⟨.ref s.heap.objs.size,_,I2,rfl,⟨_,x,rfl,h0,rfl,fun ys hy=>by rw [I.list_inj hy hq];exact hx⟩,⟨⟨_,by simpa using he2⟩,hit1.at fun o z=>(hs2'.2 it hne.symm).trans z⟩,fun b hb=>(fp' b hb).1⟩
  ·simp only [xAv,xBv,or_false,not_or] at hb
   rw [hs2'.2 b hb.1]
   by_cases z:b=s.heap.objs.size
   ·subst z
    rw [hT]
    rw [← eb]
    exact (xAl _ rfl).symm
   ·refine hk b o hb.1 hb.2 ?_
    exact (Heap.get?_push_cases eb).elim (fun y=>absurd y.1 z) id
 done:=by
  intro X hP hw hK hc i pins s σ H E I hf st hg
  subst hP hw hK
  obtain ⟨xs,hq,hx⟩:=hg
  obtain ⟨its,rv,p,hz⟩:=I.list hq
  obtain ⟨f0,f1,f2,f3,f4,f5⟩:=hf it (by simp)
  have hl:=rv.length
  obtain ⟨⟨old,he⟩,hit⟩:=st
  exact wpAny_pyNext_enum_end (I.ok.hd hc) he hit p.isList (by simp;lia) fun h' eb=>⟨rfl,I.turned (t':=s.toks) (fun b o hb e=>eb b o hb e) f0 f1 f3 f4 f5⟩
 self:=fun _ _ _ _ _ st h=>let ⟨⟨old,he⟩,_⟩:=st;wpAny_pyIter_enum he h
theorem ie:bootBuiltins "enumerate"=some (.type "enumerate"):=by decide +kernel
section
variable {X:Cx}
def iEnum (K:xFr) (ta:TA):TI:=fun σ H R=>ta σ H fun vs H1=>∃ a,vs=[.ref a]∧(∃ xs,SqL K H1 a xs)∧R (Ite K a) H1
end
def nIterE (K:xFr) (vs:List V) (H:Hp) (R:It→Hp→Prop):Prop:=∃ a,vs=[.ref a]∧(∃ xs,SqL K H a xs)∧R (Ite K a) H
theorem yA {K:xFr} {tas:TA} {σ:St} {H:Hp} {R:It→Hp→Prop} (h:tas σ H fun vs H1=>nIterE K vs H1 R):iEnum K tas σ H R:=h
theorem rJ {K:xFr} {H:Hp} {R:It→Hp→Prop} {a:Addr} {xs:List V} (e:H a=some (.lst xs)) (h:R (Ite K a) H):nIterE K [.ref a] H R:=⟨a,rfl,⟨xs,.of e⟩,h⟩
theorem kL {K:xFr} {a:Addr} {xs:List V}:Wk (Ite K a) (fun H=>SqL K H a xs) xs.length (fun i H x H'=>∃ (p:Addr) (v:V),x = .ref p∧H p=none∧H'=upd H p (.tup [.int i,v])∧xs[i]?=some v) :=
 ⟨fun i H p h=>⟨xs,xs[i],p,by simp [h]⟩,fun i H x H' p h ⟨q,v,y1,y2,y3,y4⟩=>⟨q,v,y1,y2,y3,y4 xs p⟩,fun H p=>⟨xs,p,xAg _⟩⟩
end L2
namespace L2
open PySem PySem.Spec PyProof.Rows SetA
def Sis (w:World) (H:Hp) (p:Addr) (ks:List Int):Prop:=H p=some (SetO w p ks)
def cSetL (w:World) (K:xFr):List V→Hp→VK→Prop:=fun xs H Q=>∃ (p:Addr) (ns:List Int),xs=[.ref p]∧SqL K H p (ns.map V.int)∧Bnd ns ∧
  ∀ (l:Addr) (ks:List Int),H l=none→ks.Nodup→(∀ z,z∈ks↔z∈ns)→Q (.ref l) (upd H l (SetO w l ks))
def cSortedS (w:World):List V→Hp→VK→Prop:=fun xs H Q=>∃ (p:Addr) (ks:List Int),xs=[.ref p]∧H p=some (SetO w p ks)∧Bnd ks ∧
  ∀ (l:Addr) (ns':List Int),H l=none→ks.Nodup→ns'.Perm ks→ns'.Pairwise (·≤·)→Q (.ref l) (upd H l (.lst (ns'.map V.int)))
def rAndS (w:World):R2:=fun x y H Q=>∃ (p q:Addr) (ks1 ks2:List Int),x = .ref p∧y = .ref q∧q≠p∧H p=some (SetO w p ks1)∧H q=some (SetO w q ks2)∧Bnd ks1∧Bnd ks2 ∧
  ∀ (l:Addr) (ks':List Int),H l=none→ks'.Nodup→(∀ z,z∈ks'↔z∈ks1∧z∈ks2)→Q (.ref l) (upd H l (SetO w l ks'))
section
variable {X:Cx}
theorem tT (hc:X.calm=true):CallR X (.type "set") (cSetL X.w X.K):=nS hc
theorem gD (hc:X.calm=true):CallR X (.builtin "sorted") (cSortedS X.w):=i5 hc
theorem sx:OpR X (binaryOp .BitAnd) (rAndS X.w):=sJ
end
section
variable {w:World} {K:xFr} {H:Hp} {Q:VK} {p q:Addr} {ns ks1 ks2 ks:List Int}
theorem oF (e:H p=some (.lst (ns.map V.int))) (b:Bnd ns) (h:∀ (l:Addr) (ks:List Int) (H2:Hp),Same H H2→H l=none→Sis w H2 l ks→ks.Nodup→(∀ z,z∈ks↔z∈ns)→Q (.ref l) H2):cSetL w K [.ref p] H Q :=
 ⟨p,ns,rfl,.of e,b,fun l ks hl nd m=>h l ks _ (aw hl _) hl ah nd m⟩
theorem gU (e:Sis w H p ks) (b:Bnd ks) (h:∀ (l:Addr) (ns':List Int) (H2:Hp),Same H H2→H l=none→H2 l=some (.lst (ns'.map V.int))→ns'.Pairwise (·<·)→(∀ z,z∈ns'↔z∈ks)→Q (.ref l) H2):cSortedS w [.ref p] H Q :=
 ⟨p,ks,rfl,e,b,fun l ns' hl nd pm pw=>h l ns' _ (aw hl _) hl ah (iB pw (pm.nodup_iff.mpr nd)) fun z=>pm.mem_iff⟩
theorem Sis.mono {H2:Hp} (e:Sis w H p ks) (s:Same H H2):Sis w H2 p ks:=s _ _ e
theorem oI {neg:Bool} {S:Int→Prop} {k:Int} {a:Addr} (h:KS H a S) (q:∀ b:Bool,(b=true↔S k)→Q (.bl (if neg then !b else b)) H):nDIn neg (.ref a) (.int k) H Q:=by
 obtain ⟨ks,⟨kvs,h0,h1⟩,h2,h3⟩:=h.ex
 refine oP h0 (q _ ?_)
 have:=eQ (k:=k) h1
 rw [← h3]
 cases e:valV kvs (.inl k) with
 | none=>rw [e] at this;simpa using this
 | some v=>rw [e] at this;simp at this;simpa using this
end
end L2
namespace L2
open PySem PySem.Spec PyProof.Rows PySem.AutoSeq1
theorem nM (l:Addr) (its:Array Value) (n:Nat) (b:Addr) (more:Array Value) (n2:Nat) (dct:Option Addr) (sl:Array (Option Value)) (c0:¬(!its.isEmpty && Builtin.List.listTooLong (its.size+more.size))=true) (c1:its.size≤sizeLine) (c2:its.size+more.size≤sizeLine+1) :
  Meets (Builtin.«list.extend» ⟨[.ref l,.ref b],[]⟩) (fun _ R s=>s.heap.get? l=some { cls:=.type "list",dict:=none,data:=.seq its n,slots:=#[] }∧s.heap.get? b=some { cls:=.type "tuple",dict:=dct,data:=.seq more n2,slots:=sl } ∧
   R (.ok (.ret Value.none)) { s with heap:=s.heap.update l (Obj.mapSeq fun x=>x++more),toks:=s.toks }) :=
 .of_wp fun prog w A R s h=>by
  obtain ⟨hp,gg,dd,tt,oo⟩:=s
  obtain ⟨hl,hb,h⟩:=h
  have f1:=idx_int
  have f2:=PySem.AutoSeq1.sub_tuple_tuple
  have f3:=PySem.AutoSeq1.sub_list_list
  have f4:=PySem.AutoSeq1.sub_tuple_list
  have f5:=PySem.AutoSeq1.sub_list_tuple
  have hz':(its++more).size≤sizeLine+1:=by rw [Array.size_append];exact c2
  wp_walk using (wpAny_updateSeq hl rfl (hz:=c1) (_hz':=hz')),wpAny_loadPart' hl,wpAny_loadPart' hb
  exact ⟨_,rfl,h⟩
section
variable {X:Cx}
def rExtT (x:V) (vs:List V) (H:Hp) (Q:VK):Prop:=∃ l b xs zs,x = .ref l∧vs=[.ref b]∧H l=some (.lst xs)∧H b=some (.tup zs)∧xs.length+zs.length≤sizeLine∧Q .non (upd H l (.lst (xs++zs)))
theorem gm:MtM X "list.extend" rExtT:=by
 intro pins s σ H x vs v us Q I rx rv h
 obtain ⟨l,b,xs,zs,rfl,rfl,hH,hB,hz,q⟩:=h
 cases rx
 obtain ⟨u,rfl,ru⟩:=rv.one
 cases ru
 obtain ⟨z,its,n,r,hl,e⟩:=I.lstM hH
 obtain ⟨z2,its2,r2,o2,e2,c2,n2,d2⟩:=I.hok b _ hB
 have hl2:=r2.length
 obtain ⟨cc,dct,dt,sl⟩:=o2
 dsimp only at c2 d2
 subst c2 d2
 have hsz:its.toArray.size+its2.toArray.size≤sizeLine:=by rw [xAp,xAp];lia
 have hlong:¬ (!its.toArray.isEmpty && Builtin.List.listTooLong (its.toArray.size+its2.toArray.size))=true:=by
  rw [notLongL hsz,Bool.and_false]
  exact xAy
 refine call_meets F.slot_list_extend ⟨_,e,rfl⟩ F.entry_list_extend (F.args_list_extend_2 _ _)
  (nM l its.toArray n b its2.toArray n2 dct sl hlong (by rw [xAp];lia) (by lia)) ⟨e,e2,?_⟩
 refine ⟨.non,_,I.lset (its':=its++its2) hH e (by simp) (r.append r2) ?_,rfl,q⟩
 rw [xAb]
 lia
end
theorem vu {H:Hp} {Q:VK} {p b:Addr} {xs ys:List V} (e:H p=some (.lst xs)) (e2:H b=some (.tup ys)) (hl:xs.length+ys.length≤sizeLine) (h:Q .non (upd H p (.lst (xs++ys)))):rExtT (.ref p) [.ref b] H Q:=⟨p,b,xs,ys,rfl,rfl,e,e2,hl,h⟩
end L2
namespace RevA
open PySem PySem.Spec PyProof.Rows
theorem nz:typeLookup (.type "list_reverseiterator") "__len__"=pure none:=by rw [typeLookup_type,builtinLookup_eq_fast];kernel_rfl
theorem qb:typeLookup (.type "list_reverseiterator") "__length_hint__"=pure (some (.builtin "list_reverseiterator.__length_hint__")):=by rw [typeLookup_type,builtinLookup_eq_fast];kernel_rfl
section
variable {prog:Program} {w:World} {A:Around} {E:Value→Shared→Prop} {s:Shared} {I:Addr} {fp wr:List Addr} {G:Array GenState→Array GenState→Prop} {n:Nat} {P:Nat→Value→Prop} {St:Nat→Shared→Prop}
theorem jO {R:List Value→Shared→Prop} (W:WalksS prog w A.in1 I fp wr G n P St) (ty:∀ i s,St i s→s.TypeIs (.ref I) "list_reverseiterator") (z0:St 0 s) (zf:∀ b∈fp,b<s.heap.objs.size) (zI:I∈fp)
  (q:∀ s' acc,Moved wr G s s'→ItemsOf P acc n→R acc.toList s') (hn:n≤sizeLine):wpAny (model prog w) A (collect (.ref I)) R E s:=by
 have y1:s.heap.objs.size ∉ fp:=fun z=>xBo _ (zf _ z)
 have y2:s.heap.objs.size≠I:=fun e=>y1 (e ▸ zI)
 unfold collect
 refine xAd (wpAny_runValue (codeAny_builtin PySem.F.entry_proto_collect ?_))
 rw [Around.under_plainId PySem.F.plain_proto_collect _]
 change wpAny _ A.in1 (newList [] >>= fun l=>again (.builtin "list.__iadd__" ⟨[l,.ref I],[]⟩)) _ _ s
 refine xAd (xBl ?_)
 refine xAe ⟨plainId_quiet PySem.F.plain_list_iadd _,codeAny_builtin PySem.F.entry_list_iadd ?_⟩
 rw [Around.under_plainId PySem.F.plain_list_iadd _]
 have z1:=W.frame 0 s (s.heap.push { cls:=.type "list",data:=.seq ([]:List Value).toArray }) s.toks z0 (xAg _) fun b _ o e=>xAf _ e
 have y3:(s.heap.push { cls:=.type "list",data:=.seq ([]:List Value).toArray }).get? s.heap.objs.size=some { cls:=.type "list",data:=.seq ([]:List Value).toArray }:=xAl _ rfl
 have y4:Builtin.List.listSameRef (.ref s.heap.objs.size) (.ref I)=false:=by simp [Builtin.List.listSameRef,y2]
 change wpAny _ A.in1 (Builtin.List.listExtendWith (.ref s.heap.objs.size) (.ref I) (.ref s.heap.objs.size)) _ _ _
 unfold Builtin.List.listExtendWith
 refine xAd (wpAny_typeOf (ty 0 _ z1) ?_)
 rw [xCf (by rw [y4];decide)]
 refine xAd (W.self 0 _ _ _ z1 ?_)
 refine xAd (wpAny_holding ?_)
 unfold Builtin.List.listLengthHint
 refine xAd (wpAny_specialOf (ty 0 _ z1) nz ?_)
 change wpAny _ A.in1 (specialOf (Value.ref I) (Str.ofString "__length_hint__") >>= _) _ _ _
 refine xAd (wpAny_specialOf (ty 0 _ z1) qb ?_)
 generalize hid:("list_reverseiterator.__length_hint__":String)=id0
 wp_delta
 rw [show splitId id0=some ("list_reverseiterator","__length_hint__") from by subst hid;decide +kernel]
 subst hid
 refine xAd (xBk (b:=true) (ty 0 _ z1) (by rw [isSubtype_type];kernel_rfl) ?_)
 refine xAe ?_
 rw [xCf (by decide)]
 refine xAe ⟨plainId_quiet PySem.F.plain_extend_loop _,codeAny_extend_loopS W hn _ y1 _ n 0 _ _ _ rfl (xBn _) z1 y3 (ItemsOf.nil P) fun s' acc' c' hm z2 z3=>?_⟩
 change wpAny _ A (load s.heap.objs.size >>= _) _ _ s'
 refine xAd (wpAny_load z2 ?_)
 exact xAe (q s' acc' (Moved.drop_new (o:={ cls:=.type "list",data:=.seq ([]:List Value).toArray }) (tk:=s.toks) hm (xAg _)) z3)
theorem tq {Q₁:Value→Shared→Prop} (W:WalksS prog w A.in1.in1 I fp wr G n P St) (ty:∀ i s,St i s→s.TypeIs (.ref I) "list_reverseiterator") (z0:St 0 s) (zf:∀ b∈fp,b<s.heap.objs.size) (zI:I∈fp)
  (q:∀ s' acc,Moved wr G s s'→ItemsOf P acc n→Q₁ (.ref s'.heap.objs.size) { s' with heap:=s'.heap.push { cls:=.type "tuple",data:=.seq acc } }) (hn:n≤sizeLine) :
  codeAny (model prog w) A (.call (.builtin "tuple.__new__") ⟨[.type "tuple",.ref I],[]⟩) (wants Q₁ E) s:=by
 refine codeAny_of_tree ?_
 change wpAny _ A.in1 (do checkBuiltinCall "tuple.__new__" ⟨[.type "tuple",.ref I],[]⟩;again (.builtin "tuple.__new__" ⟨[.type "tuple",.ref I],[]⟩)) _ _ s
 refine xAd (wpAny_of_eq (PySem.F.newCall_tuple_1 _) (xAe ⟨plainId_quiet PySem.F.plain_tuple_new _,codeAny_builtin PySem.F.entry_tuple_new ?_⟩))
 rw [Around.under_plainId PySem.F.plain_tuple_new _]
 have q1:=sub_tuple_self
 have q2:=init_tuple_lookup
 have q3:=madeHere_tuple
 have q4:=ty 0 s z0
 wp_walk using wpAny_typeOf q4,jO (hn:=hn) W ty z0 zf zI
 intro s' acc hm z3
 change wpAny _ _ (Builtin.Tuple.tupleExact acc.toList.toArray >>= fun v=>ret v) _ _ _
 unfold Builtin.Tuple.tupleExact
 refine xAd (xBl ?_ (by change acc.toList.toArray.size≤sizeLine;simp only [Array.toArray_toList];rw [z3.1];exact hn))
 refine xAe ?_
 have e:acc.toList.toArray=acc:=by simp
 rw [e]
 exact q s' acc hm z3
theorem tuple_rev {Q:Value→Shared→Prop} (W:WalksS prog w A.in1.in1.in1 I fp wr G n P St) (ty:∀ i s,St i s→s.TypeIs (.ref I) "list_reverseiterator") (z0:St 0 s) (zf:∀ b∈fp,b<s.heap.objs.size) (zI:I∈fp)
  (q:∀ s' acc,Moved wr G s s'→ItemsOf P acc n→Q (.ref s'.heap.objs.size) { s' with heap:=s'.heap.push { cls:=.type "tuple",data:=.seq acc } }) (hn:n≤sizeLine) :
  wpAny (model prog w) A (call (.type "tuple") [.ref I]) Q E s:=by
 refine callType_codes (Q₁:=fun obj s₁=>s₁.TypeIs obj "tuple"∧Q obj s₁) PySem.F.called_tuple (PySem.F.typeCall_tuple_1 _) PySem.F.entry_object_init
  (tq (hn:=hn) W ty z0 zf zI fun s' acc hm z3=>⟨⟨_,xAl _ rfl,rfl⟩,q s' acc hm z3⟩) fun obj s₁ h₁=>?_
 exact ⟨h₁.1,PySem.F.args_object_init_2 obj _,object_init_meets PySem.F.called_tuple.init.lookup PySem.F.called_tuple.made (by decide) prog w A.in1 _ s₁ ⟨h₁.1,rfl,h₁.2⟩⟩
end
end RevA
namespace L2
open PySem PySem.Spec PyProof.Rows
def nTupRev (x:V) (H:Hp) (Q:VK):Prop:=∃ (l:Addr) (ys:List V),x = .ref l∧H l=some (.lst ys)∧∀ t,H t=none→Q (.ref t) (upd H t (.tup ys.reverse))
def tTupRev (te:TE):TE:=fun σ H Q=>te σ H fun x H1=>nTupRev x H1 Q
theorem kI:bootBuiltins "tuple"=some (.type "tuple"):=by decide +kernel
theorem oa {xs:List V} {its:List Value} (h:Vals xs its):Vals xs.reverse its.reverse:=by
 induction h with
 | nil=>exact .nil
 | cons r _ ih =>
  rw [List.reverse_cons,List.reverse_cons]
  exact ih.append (.cons r .nil)
section
variable {X:Cx}
theorem m4 {e:Expr} {te:TE} {p1 p2 q1 q2:Pos} (hc:X.calm=true) (hg1:Gl X "tuple") (hm1:X.mg "tuple"=none) (hg2:Gl X "reversed") (hm2:X.mg "reversed"=none) (he:PE X e te) (hs:noStar e=true:=by rfl) :
  PE X (.Call (.Name "tuple" p1) [.Call (.Name "reversed" p2) [e] [] q2] [] q1) (tTupRev te):=by
 intro pins s σ H Q I h
 refine wpAny_Call_Name_kw (dE I hg1 hm1 kI (PyProof.Rows.callWith_type1 ?_ rfl rfl))
 change wpAny _ _ (spliced ((false,eval (.Call (.Name "reversed" p2) [e] [] q2) X.env)::[])) _ _ s
 refine Calls.spliced_cons (wpAny_Call_Name_kw (dE I hg2 hm2 boot_reversed (PyProof.Rows.callWith_type1 ?_ (aN hs) rfl)))
 rw [aN hs]
 change wpAny _ _ (spliced ((false,eval e X.env)::[])) _ _ s
 refine Calls.spliced_cons (thn (he pins s σ H _ I h) fun u s1 ⟨x,H1,I1,r1,q1⟩=>Calls.spliced_nil ?_)
 obtain ⟨l,ys,rfl,hl,q⟩:=q1
 obtain rfl:u=Value.ref l:=r1
 obtain ⟨z,its,n,rv,e1⟩:=(show ObjOk X.prog X.w H1 s1.heap l (.lst ys) from I1.hok l _ hl)
 have hL:s1.heap.IsList l its.toArray:=⟨_,e1,rfl,n,rfl⟩
 have hsz:its.toArray.size=ys.length:=by rw [xAp,rv.length]
 refine call_reversed_list hL ?_
 refine Calls.spliced_nil ?_
 have hll:l<s1.heap.objs.size:=I1.hok.lt hl
 have hne:l≠s1.heap.objs.size:=xA0 hll
 have hh:=I1.ok.hd hc
 have W:=Walks.listRev (prog:=X.prog) (w:=X.w) (A:=X.A.in1.in1.in1) (by simp [hh]) s1.heap.objs.size l hne its.toArray
 have I2:Inv X pins σ H1 { s1 with heap:=s1.heap.push (revObj l ((its.toArray.size:Int) - 1)) }:=I1.kept (t':=s1.toks) fun b o e=>xAf _ e
 have hfr:H1 s1.heap.objs.size=none:=I1.hok.fresh (xAg _)
 obtain ⟨f0,f1,f2,f3,f4,f5⟩:=I1.fpOk (H':=H1) (xAg _) hfr
 refine RevA.tuple_rev W.toS (fun i s st=>st.2.1.typeIs) ⟨xBn _,⟨_,xAl _ rfl,rfl,by simp [revObj]⟩,hL.push _⟩ (fun b hb=>?_) (by simp) (fun s' acc hm hacc=>?_) (by rw [hsz];exact z)
 ·change b<(s1.heap.push _).objs.size
  rw [Heap.size_push]
  simp only [xAv,xBv,or_false] at hb
  rcases hb with rfl | rfl
  ·exact Nat.lt_succ_self _
  ·exact xCa hll
 ·obtain ⟨h',g',d',tk',os'⟩:=s'
  have eg:g'=s1.gens:=hm.gens
  have ed:d'=s1.drawn:=hm.drawn
  have eo:os'=s1.os:=hm.os
  subst eg;subst ed;subst eo
  have kk:∀ b o,b≠s1.heap.objs.size→(s1.heap.push (revObj l ((its.toArray.size:Int) - 1))).get? b=some o→h'.get? b=some o:=fun b o hb e=>hm.heap b o (by simpa using hb) e
  have I3:Inv X pins σ H1 { s1 with heap:=h',toks:=tk' }:=Inv.turned (s:={ s1 with heap:=s1.heap.push (revObj l ((its.toArray.size:Int) - 1)) }) (t':=tk') I2 kk f0 f1 f3 f4 f5
  have va:Vals ys.reverse acc.toList:=by
   have e3:acc.toList=its.reverse:=by
    refine List.ext_getElem? fun i=>?_
    by_cases hi:i<its.length
    ·have hs:acc.size=its.length:=by rw [hacc.1,xAp]
     have hx:acc[i]?=some acc[i]:=Array.getElem?_eq_getElem (by lia)
     have:=hacc.2 i _ hx
     rw [xA8,hx,← this,List.getElem?_reverse hi]
     simp
    ·have hs:acc.size=its.length:=by rw [hacc.1,xAp]
     rw [xA9 (by rw [xAh];lia),xA9 (by rw [List.length_reverse];lia)]
   rw [e3]
   exact oa rv
  have hf3:=I3.hok.fresh (xAg h'.objs.size)
  have I4:Inv X pins σ (upd H1 h'.objs.size (.tup ys.reverse)) { s1 with heap:=h'.push { cls:=.type "tuple",data:=.seq acc },toks:=tk' }:=by
   refine Inv.laid (s:={ s1 with heap:=h',toks:=tk' }) (t':=tk') I3 (fun b o e=>xAf _ e) (xAg _) ⟨by rw [List.length_reverse];exact z,acc.toList,va,_,xAl _ rfl,rfl,_,by simp;rfl⟩
  exact ⟨.ref h'.objs.size,_,I4,rfl,q _ hf3⟩
end
end L2
namespace RevA
open PySem PySem.Spec PyProof.Rows
theorem po:Manifest.owners.lookup (String.ofList ['d','e','s','r','e','v','e','r'].reverse)=some Manifest.sig_reversed:=by kernel_rfl
theorem jf:Slot "reversed" "__init__" "object.__init__" :=
 Slot.of (owner:="object") (n:="__init__") (by rw [typeLookup_type,builtinLookup_eq_fast];kernel_rfl) (by decide +kernel) (by decide +kernel) (by decide +kernel) (by first | exact .inl (by decide +kernel) | exact .inr (by decide +kernel)) (by rw [isSubtype_type];kernel_rfl)
theorem bP:Slot "reversed" "__next__" "reversed.__next__" :=
 Slot.of (owner:="reversed") (n:="__next__") (by rw [typeLookup_type,builtinLookup_eq_fast];kernel_rfl) (by decide +kernel) (by decide +kernel) (by decide +kernel) (by first | exact .inl (by decide +kernel) | exact .inr (by decide +kernel)) (by rw [isSubtype_type];kernel_rfl)
theorem fv:Slot "reversed" "__iter__" "reversed.__iter__" :=
 Slot.of (owner:="reversed") (n:="__iter__") (by rw [typeLookup_type,builtinLookup_eq_fast];kernel_rfl) (by decide +kernel) (by decide +kernel) (by decide +kernel) (by first | exact .inl (by decide +kernel) | exact .inr (by decide +kernel)) (by rw [isSubtype_type];kernel_rfl)
theorem fE:entryFor table "reversed.__next__"=some Builtin.«reversed.__next__»:=entryFor_of_tree (by kernel_rfl)
theorem jF:entryFor table "reversed.__iter__"=some Builtin.«dict_keyiterator.__iter__» :=
 entryFor_alias (id':="dict_keyiterator.__iter__") (by kernel_rfl) rfl (by decide +kernel) (by kernel_rfl)
theorem fH (a:Value):argsOk "reversed.__next__" ⟨[a],[]⟩:=by
 unfold argsOk;rw [signature?_of (id:="reversed.__next__") (n:=['_','_','t','x','e','n','_','_']) (o:=['d','e','s','r','e','v','e','r']) (by kernel_rfl) po];kernel_rfl
theorem jW (a:Value):argsOk "reversed.__iter__" ⟨[a],[]⟩:=by
 unfold argsOk;rw [signature?_of (id:="reversed.__iter__") (n:=['_','_','r','e','t','i','_','_']) (o:=['d','e','s','r','e','v','e','r']) (by kernel_rfl) po];kernel_rfl
theorem fh:TypeCalled "reversed" "reversed.__new__" "object.__init__" :=
 ⟨by decide +kernel,by decide +kernel,⟨_,_,PySem.F.mro_reversed⟩,PySem.F.made_reversed,by decide +kernel,PySem.F.sub_reversed_self,jf⟩
theorem mN:typeLookup (.type "tuple") "__reversed__"=pure none:=by rw [typeLookup_type,builtinLookup_eq_fast];kernel_rfl
theorem kM:typeLookup (.type "tuple") "__getitem__"=pure (some (.builtin "tuple.__getitem__")):=PySem.F.slot_tuple_getitem.lookup
theorem j6:isSubtype (.type "tuple") (.type "dict")=pure false:=by rw [isSubtype_type];kernel_rfl
def rvObj (t:Addr) (i:Int):Obj:={ cls:=.type "reversed",dict:=none,data:=.fields #[.ref t,rawInt i],slots:=#[] }
section
variable {prog:Program} {w:World} {A:Around} {E:Value→Shared→Prop} {s:Shared}
theorem wG {t:Addr} {items:Array Value} {Q₁:Value→Shared→Prop} (ht:IsTup s.heap t items) (hfit:(items.size:Int)<2 ^ 63)
  (q:Q₁ (.ref s.heap.objs.size) { s with heap:=s.heap.push (rvObj t ((items.size:Int) - 1)),toks:=s.toks+1+1 }) :
  codeAny (model prog w) A (.call (.builtin "reversed.__new__") ⟨[.type "reversed",.ref t],[]⟩) (wants Q₁ E) s:=by
 refine codeAny_of_tree ?_
 change wpAny _ A.in1 (do checkBuiltinCall "reversed.__new__" ⟨[.type "reversed",.ref t],[]⟩;again (.builtin "reversed.__new__" ⟨[.type "reversed",.ref t],[]⟩)) _ _ s
 refine xAd (wpAny_of_eq (PySem.F.newCall_reversed_1 _) (xAe ⟨plainId_quiet PySem.F.plain_reversed_new _,codeAny_builtin PySem.F.entry_reversed_new ?_⟩))
 rw [Around.under_plainId PySem.F.plain_reversed_new _]
 unfold Builtin.«reversed.__new__»
 refine xAd (wpAny_of_eq (newClass_reversed _) ?_)
 try dsimp only
 refine xAd (wpAny_of_eq (a:=()) (by first | rfl | kernel_rfl) ?_)
 refine xAd (wpAny_of_eq (a:=()) (by first | rfl | kernel_rfl) ?_)
 try dsimp only
 refine xAd (wpAny_specialOf ht.typeIs mN ?_)
 try dsimp only
 have ty:=ht.typeIs (s:=s)
 refine xAd ?_
 wp_delta
 refine xAd (xBk (T:="tuple") (b:=false) ty j6 ?_)
 rw [xCf (by decide)]
 refine xAd (wpAny_specialOf ty kM ?_)
 try dsimp only
 rw [xCg (by decide)]
 refine xAe ?_
 rw [xCf (by decide)]
 refine xAd (len_tuple ht hfit ?_)
 refine xAd (m:=asInt? _) (xAe ?_)
 try dsimp only
 change wpAny _ _ (newObj (.type "reversed") (.fields #[.ref t,rawInt ((items.size:Int) - 1)]) >>= _) _ _ _
 refine xAd (xBl ?_)
 exact xAe q
theorem call_rv {t:Addr} {items:Array Value} {Q:Value→Shared→Prop} (ht:IsTup s.heap t items) (hfit:(items.size:Int)<2 ^ 63)
  (q:Q (.ref s.heap.objs.size) { s with heap:=s.heap.push (rvObj t ((items.size:Int) - 1)),toks:=s.toks+1+1 }):wpAny (model prog w) A (call (.type "reversed") [.ref t]) Q E s:=by
 refine callType_codes (Q₁:=fun obj s₁=>s₁.TypeIs obj "reversed"∧Q obj s₁) fh (PySem.F.typeCall_reversed_1 _) PySem.F.entry_object_init
  (wG ht hfit ⟨⟨_,xAl _ rfl,rfl⟩,q⟩) fun obj s₁ h₁=>?_
 exact ⟨h₁.1,PySem.F.args_object_init_2 obj _,object_init_meets fh.init.lookup fh.made (by decide) prog w A.in1 _ s₁ ⟨h₁.1,rfl,h₁.2⟩⟩
theorem tp {it t:Addr} {i:Nat} {items:Array Value} {x:Value} {Q:Option Value→Shared→Prop} (hit:s.heap.get? it=some (rvObj t (i:Int))) (ht:IsTup s.heap t items) (hfit:(items.size:Int)<2 ^ 63) (hx:items[i]?=some x)
  (q:∀ h' tk,h'.get? it=some (rvObj t ((i:Int) - 1))→Heap.SameBut it s.heap h'→Q (some x) { s with heap:=h',toks:=tk }):wpAny (model prog w) A (pyNext (.ref it)) Q E s:=by
 have ty:s.TypeIs (.ref it) "reversed":=⟨_,hit,rfl⟩
 have hi:i<items.size:=(xB7.mp hx).1
 have ix:seqIndex? (i:Int) items.size=some i:=by
  unfold seqIndex?
  simp only [xCf (show ¬ (i:Int)<0 by lia)]
  rw [xCg (by simp;lia)]
  simp
 unfold pyNext
 refine xAd (wpAny_attempt (wpAny_callSpecial?_slot (name:=Str.ofString "__next__") ty bP (wpAny_call_entry bP ty fE ?_ (fH _))))
 unfold Builtin.«reversed.__next__»
 refine xAd (wpAny_of_eq (a:=(Value.ref it,[])) rfl ?_)
 try dsimp only
 refine xAd (wpAny_field hit rfl (x:=.ref t) rfl ?_)
 refine xAd (wpAny_field hit rfl (x:=rawInt (i:Int)) rfl ?_)
 change wpAny _ _ (if (i:Int)<0 then _ else _) _ _ s
 rw [xCf (by lia)]
 refine xAd (wpAny_specialOf ht.typeIs kM ?_)
 rw [xCf (by simp)]
 refine xAd (wpAny_mkInt ?_)
 refine xAd (wpAny_attempt (getItem_tuple (j:=i) (show IsTup s.heap t items from ht) (by lia) (by lia) ix hx ?_))
 try dsimp only
 refine xAd (wpAny_field (s:={ s with toks:=s.toks+1 }) hit rfl (x:=rawInt (i:Int)) rfl ?_)
 try dsimp only
 refine xAd (wpAny_setField (s:={ s with toks:=s.toks+1 }) hit rfl (by simp) ?_)
 refine xAe ⟨x,rfl,xAe (q _ _ ?_ (xB5 ..))⟩
 exact xA7 _ hit rfl
theorem w6 {it t:Addr} {Q:Option Value→Shared→Prop} (hh:A.handled=none) (hit:s.heap.get? it=some (rvObj t (-1)))
  (q:∀ h',Heap.ExtBut it s.heap h'→Q none { s with heap:=h' }):wpAny (model prog w) A (pyNext (.ref it)) Q E s:=by
 have ty:s.TypeIs (.ref it) "reversed":=⟨_,hit,rfl⟩
 unfold pyNext
 refine xAd (wpAny_attempt (wpAny_callSpecial?_slot (name:=Str.ofString "__next__") ty bP (wpAny_call_entry bP ty fE ?_ (fH _))))
 unfold Builtin.«reversed.__next__»
 refine xAd (wpAny_of_eq (a:=(Value.ref it,[])) rfl ?_)
 try dsimp only
 refine xAd (wpAny_field hit rfl (x:=.ref t) rfl ?_)
 refine xAd (wpAny_field hit rfl (x:=rawInt (-1)) rfl ?_)
 change wpAny _ _ (if (-1:Int)<0 then _ else _) _ _ s
 rw [xCg (by decide)]
 refine xAd (wpAny_rule ?_)
 refine xAd ?_
 wp_delta
 refine xAd (wpAny_setField hit rfl (by simp) ?_)
 have h2:=xA7 (Obj.mapFields (·.setIfInBounds 1 (rawInt (-1)))) hit rfl
 refine wpAny_setField h2 rfl (by simp) ?_
 first
 | change wpAny _ _ (newExc (.type "StopIteration") [] >>= _) _ _ _
 | (refine xAd ?_;change wpAny _ _ (newExc (.type "StopIteration") [] >>= _) _ _ _)
 refine xAd ?_
 simp only [newExc,newTuple]
 refine xAd (xBl ?_ (by size_fits))
 refine xAd (m:=firstArgMember _ _) (wpAny_of_eq (a:=Value.none) (by first | rfl | (simp only [firstArgMember];rfl)) ?_)
 refine xBl ?_ (by size_fits)
 simp only [raiseNew]
 refine xAd (wpAny_handled ?_)
 first | rw [show A.in1.handled=none from hh] | rw [hh]
 refine xAd (xAe (wpAny_throw ?_))
 refine xAd (xBk (T:="StopIteration") (b:=true) ⟨_,xAl _ rfl,rfl⟩ isSubtype_stop ?_)
 refine xAe (q _ fun b o hb e=>?_)
 exact xAf _ (xAf _ ((Heap.get?_update_other _ _ (Ne.symm hb)).trans ((Heap.get?_update_other _ _ (Ne.symm hb)).trans e)))
theorem iter_rv {it t:Addr} {i:Int} {Q:Value→Shared→Prop} (hit:s.heap.get? it=some (rvObj t i)) (h:Q (.ref it) s):wpAny (model prog w) A (pyIter (.ref it)) Q E s:=by
 have ty:s.TypeIs (.ref it) "reversed":=⟨_,hit,rfl⟩
 refine wpAny_pyIter_slot ty fv (wpAny_call_entry fv ty jF ?_ (jW _))
 change wpAny _ _ (ret (.ref it)) _ _ s
 exact xAe ⟨_,rfl,"reversed",_,ty,bP.lookup,h⟩
end
end RevA
namespace L2
open PySem PySem.Spec PyProof.Rows RevA
def Itv (K:xFr) (a:Addr) (n:Nat):It :=
 ⟨fun i H=>i<n∧∃ xs,SqT K H a xs∧xs.length=n,fun i H x H'=>H'=H∧∀ xs,SqT K H a xs→xs[n - 1 - i]?=some x,fun i _=>i=n⟩
theorem rg {P:Program} {w:World} {K:xFr} {tg:Expr} (a it:Addr) (n:Nat):Turn P w K tg (Itv K a n) [it] it (fun i h=>i≤n∧h.get? it=some (rvObj a ((n:Int) - 1 - (i:Int)))) where
 mem:=by simp
 obj:=fun i h st b hb=>by
  have e:b=it:=by simpa using hb
  subst e
  exact ⟨_,st.2,fun v z=>by cases z⟩
 keep:=fun i h h' st k=>⟨st.1,k it (by simp) _ st.2⟩
 item:=by
  intro X hP hw hK hc i pins s σ H E I hf st hg
  subst hP hw hK
  obtain ⟨hin,xs,hq,hx⟩:=hg
  obtain ⟨its,rv,p,hz⟩:=I.tuple hq
  have hl:=rv.length
  have l63:=line63
  obtain ⟨u,hu,ru⟩:=rv.get (show xs[n - 1 - i]?=some (xs[n - 1 - i]'(by lia)) from xAk (by lia))
  obtain ⟨f0,f1,f2,f3,f4,f5⟩:=hf it (by simp)
  have e:(n:Int) - 1 - (i:Int)=((n - 1 - i:Nat):Int):=by lia
  have hit:=st.2
  rw [e] at hit
  refine tp hit p (by rw [xAp];lia) (x:=u) (by simpa using hu) fun h' tk st' sb=>?_
  have I1:Inv X pins σ H { s with heap:=h',toks:=tk }:=I.turned (t':=tk) (fun b o hb e=>(sb.2 b hb).trans e) f0 f1 f3 f4 f5
  refine ⟨u,rfl,jB (s:={ s with heap:=h',toks:=tk }) (n:="reversed") st' rfl rfl (by decide) ⟨_,H,I1,ru,⟨rfl,fun ys hy=>by rw [I.tuple_inj hy hq];exact xAk (by lia)⟩,⟨hin,?_⟩,fun b hb=>(hf b hb).1⟩⟩
  have e2:((n - 1 - i:Nat):Int) - 1=(n:Int) - 1 - ((i+1:Nat):Int):=by lia
  rw [← e2]
  exact st'
 done:=by
  intro X hP hw hK hc i pins s σ H E I hf st hg
  subst hP hw hK
  obtain rfl:i=n:=hg
  obtain ⟨f0,f1,f2,f3,f4,f5⟩:=hf it (by simp)
  have hit:=st.2
  rw [show (i:Int) - 1 - (i:Int) = -1 by lia] at hit
  exact w6 (I.ok.hd hc) hit fun h' eb=>⟨rfl,I.turned (t':=s.toks) (fun b o hb e=>eb b o hb e) f0 f1 f3 f4 f5⟩
 self:=fun _ _ _ _ _ st h=>iter_rv st.2 h
def nIterV (K:xFr) (vs:List V) (H:Hp) (R:It→Hp→Prop):Prop:=∃ a xs,vs=[.ref a]∧SqT K H a xs∧R (Itv K a xs.length) H
def iRevT (K:xFr) (ta:TA):TI:=fun σ H R=>ta σ H fun vs H1=>nIterV K vs H1 R
section
variable {X:Cx}
theorem mT {e:Expr} {te:TE} {p1 p2 q1 q2:Pos} (hc:X.calm=true) (hg1:Gl X "tuple") (hm1:X.mg "tuple"=none) (hg2:Gl X "reversed") (hm2:X.mg "reversed"=none) (he:QE X e te) (hs:noStar e=true:=by rfl) :
  QE X (.Call (.Name "tuple" p1) [.Call (.Name "reversed" p2) [e] [] q2] [] q1) (tTupRev te):=⟨m4 hc hg1 hm1 hg2 hm2 he.h hs⟩
end
theorem yt {K:xFr} {tas:TA} {σ:St} {H:Hp} {R:It→Hp→Prop} (h:tas σ H fun vs H1=>nIterV K vs H1 R):iRevT K tas σ H R:=h
theorem rF {K:xFr} {H:Hp} {R:It→Hp→Prop} {a:Addr} {xs:List V} (e:H a=some (.tup xs)) (h:R (Itv K a xs.length) H):nIterV K [.ref a] H R:=⟨a,xs,rfl,.of e,h⟩
theorem uI {K:xFr} {a:Addr} {xs:List V}:Wk (Itv K a xs.length) (fun H=>SqT K H a xs) xs.length (fun i H x H'=>H'=H∧xs[xs.length - 1 - i]?=some x) :=
 ⟨fun i H p h=>⟨h,xs,p,rfl⟩,fun i H x H' p h y=>⟨y.1,y.2 xs p⟩,fun H p=>rfl⟩
theorem oE {te:TE} {σ:St} {H:Hp} {Q:VK} (h:te σ H fun x H1=>nTupRev x H1 Q):tTupRev te σ H Q:=h
theorem mR {H:Hp} {Q:VK} {l:Addr} {ys:List V} (e:H l=some (.lst ys)) (h:∀ p H2,Same H H2→H p=none→H2 p=some (.tup ys.reverse)→Q (.ref p) H2):nTupRev (.ref l) H Q:=⟨l,ys,rfl,e,fun t ht=>h t _ (aw ht _) ht ah⟩
end L2
namespace RevA
open PySem PySem.Spec PyProof.Rows
open AutoSeq1 (wpAny_loadPart')
def tiObj (t:Addr):Obj:={ cls:=.type "tuple_iterator",data:=.fields #[.ref t,.int 0 0] }
def enObj (it:Addr):Obj:={ cls:=.type "enumerate",data:=.fields #[.none,.bool false,.ref it,rawInt 0,.none,.none] }
theorem nN (t:Addr) (xs:Array Value) (n:Nat) (dct:Option Addr) (sl:Array (Option Value)) :
  Meets (Builtin.«enumerate.__new__» ⟨[.type "enumerate",.ref t],[]⟩) (fun _ R s=>s.heap.get? t=some { cls:=.type "tuple",dict:=dct,data:=.seq xs n,slots:=sl } ∧
   R (.ok (.ret (.ref (s.heap.push (tiObj t)).objs.size))) { s with heap:=(s.heap.push (tiObj t)).push (enObj s.heap.objs.size) }) :=
 .of_wp fun prog w A R s h=>by
  obtain ⟨hp,g,d,tk,os⟩:=s
  obtain ⟨hl,h⟩:=h
  have q1:=sub_enumerate
  have hL:Heap.IsTuple (Shared.heap ⟨hp,g,d,tk,os⟩) t xs:=⟨_,hl,rfl,n,rfl⟩
  wp_walk using wpAny_loadPart' hl
  refine wpAny_stack_any fun st=>xAe ?_
  split
  ·rename_i c _ _ _ _ _
   cases (c == Value.type "enumerate")
   ·wp_walk using wpAny_loadPart' hl,wpAny_pyIter_tuple hL
    exact ⟨_,rfl,h⟩
   ·wp_walk using wpAny_loadPart' hl,wpAny_pyIter_tuple hL
    exact ⟨_,rfl,h⟩
  ·wp_walk using wpAny_loadPart' hl,wpAny_pyIter_tuple hL
   exact ⟨_,rfl,h⟩
section
variable {prog:Program} {w:World} {A:Around} {E:Value→Shared→Prop} {s:Shared}
theorem enumT {t:Addr} {xs:Array Value} {Q:Value→Shared→Prop} (hL:s.heap.IsTuple t xs)
  (h:∀ h',IsEnum h' (s.heap.objs.size+1) s.heap.objs.size 0 .none→h'.IsTupleIter s.heap.objs.size t 0→(∀ b o,s.heap.get? b=some o→h'.get? b=some o)→Q (.ref (s.heap.objs.size+1)) { s with heap:=h' }) :
  wpAny (model prog w) A (call (.type "enumerate") [.ref t]) Q E s:=by
 obtain ⟨⟨c,dct,dt,sl⟩,hl,hc,n,hd⟩:=hL
 replace hc:c = .type "tuple":=hc
 replace hd:dt = .seq xs n:=hd
 subst hc hd
 refine callType_new PySem.F.called_enumerate (by decide) (PySem.F.typeCall_enumerate_1 _) (PySem.F.newCall_enumerate_1 _) (fun obj=>PySem.F.args_object_init_2 obj _) PySem.F.entry_enumerate_new (nN t xs n dct sl) ⟨hl,?_⟩
 have hz:(s.heap.push (tiObj t)).objs.size=s.heap.objs.size+1:=Heap.size_push ..
 change _∧_
 rw [hz]
 have he:IsEnum ((s.heap.push (tiObj t)).push (enObj s.heap.objs.size)) (s.heap.objs.size+1) s.heap.objs.size 0 .none:=by
  have:=xAl (s.heap.push (tiObj t)) (o:=enObj s.heap.objs.size) rfl
  rw [hz] at this
  exact this
 exact ⟨⟨_,he,rfl⟩,h _ he ⟨_,xAf _ (xAl _ rfl),rfl,rfl⟩ fun b o x=>xAf _ (xAf _ x)⟩
theorem kj {it t:Addr} {i:Nat} {xs:Array Value} {x:Value} {Q:Value→Shared→Prop} (hit:s.heap.IsTupleIter it t i) (hl:s.heap.IsTuple t xs) (hx:xs[i]?=some x)
  (q:∀ h',h'.IsTupleIter it t (i+1)→Heap.SameBut it s.heap h'→Q x { s with heap:=h' }):wpAny (model prog w) A (Builtin.SmallTypes.nextOf (.ref it)) Q E s:=by
 obtain ⟨o,ho,hc,hd⟩:=id hit
 obtain ⟨ol,hol,_,nl,hdl⟩:=hl
 unfold Builtin.SmallTypes.nextOf
 refine xAd (wpAny_callSpecial?_slot (name:=Str.ofString "__next__") hit.typeIs PySem.F.slot_tuple_iterator_next (wpAny_call_entry PySem.F.slot_tuple_iterator_next hit.typeIs PySem.F.entry_tuple_iterator_next ?_ (PySem.F.args_tuple_iterator_next_1 _)))
 change wpAny _ _ (field (.ref it) 0 >>= _) _ _ s
 refine xAd (wpAny_field ho hd (x:=.ref t) rfl ?_)
 change wpAny _ _ (if (Value.ref t == Value.none)=true then _ else _) _ _ s
 rw [xCf (show ¬ ((Value.ref t == Value.none)=true) from xAy)]
 change wpAny _ _ (field (.ref it) 1 >>= _) _ _ s
 refine xAd (wpAny_field ho hd (x:=.int i 0) rfl ?_)
 change wpAny _ _ (seqItems? (.ref t) >>= _) _ _ s
 refine xAd (wpAny_seqItems hol hdl ?_)
 simp only [Int.toNat_natCast,hx]
 refine xAd (wpAny_setField ho hd (by simp) (xAe ⟨x,rfl,xAe (q _ ?_ (xB5 ..))⟩))
 exact ⟨_,xA7 _ ho (Obj.isFreed_of_fields (Obj.data_mapFields hd _)),(Obj.cls_mapFields ..).trans hc,by rw [Obj.data_mapFields hd];simp [rawInt]⟩
theorem nq {it t:Addr} {i:Nat} {xs:Array Value} {Q:Value→Shared→Prop} (hh:A.handled=none) (hit:s.heap.IsTupleIter it t i) (hl:s.heap.IsTuple t xs) (hx:xs[i]?=none)
  (q:∀ h' e,Heap.ExtBut it s.heap h'→(∃ o,h'.get? e=some o∧o.cls = .type "StopIteration")→E (.ref e) { s with heap:=h' }):wpAny (model prog w) A (Builtin.SmallTypes.nextOf (.ref it)) Q E s:=by
 obtain ⟨o,ho,hc,hd⟩:=id hit
 obtain ⟨ol,hol,_,nl,hdl⟩:=hl
 unfold Builtin.SmallTypes.nextOf
 refine xAd (wpAny_callSpecial?_slot (name:=Str.ofString "__next__") hit.typeIs PySem.F.slot_tuple_iterator_next (wpAny_call_entry PySem.F.slot_tuple_iterator_next hit.typeIs PySem.F.entry_tuple_iterator_next ?_ (PySem.F.args_tuple_iterator_next_1 _)))
 change wpAny _ _ (field (.ref it) 0 >>= _) _ _ s
 refine xAd (wpAny_field ho hd (x:=.ref t) rfl ?_)
 change wpAny _ _ (if (Value.ref t == Value.none)=true then _ else _) _ _ s
 rw [xCf (show ¬ ((Value.ref t == Value.none)=true) from xAy)]
 change wpAny _ _ (field (.ref it) 1 >>= _) _ _ s
 refine xAd (wpAny_field ho hd (x:=.int i 0) rfl ?_)
 change wpAny _ _ (seqItems? (.ref t) >>= _) _ _ s
 refine xAd (wpAny_seqItems hol hdl ?_)
 simp only [Int.toNat_natCast,hx]
 refine xAd (wpAny_rule (xAd (wpAny_setField ho hd (by simp) ?_)))
 change wpAny _ _ (newExc (.type "StopIteration") [] >>= _) _ _ _
 refine xAd ?_
 simp only [newExc,newTuple]
 refine xAd (xBl ?_ (by size_fits))
 refine xAd (m:=firstArgMember _ _) (wpAny_of_eq (a:=Value.none) (by first | rfl | (simp only [firstArgMember];rfl)) ?_)
 refine xBl ?_ (by size_fits)
 simp only [raiseNew]
 refine xAd (wpAny_handled ?_)
 first | rw [show A.in1.handled=none from hh] | rw [hh]
 refine xAd (xAe (wpAny_throw ?_))
 exact q _ _ (((xB5 ..).extBut.push _).push _) ⟨_,xAl _ rfl,rfl⟩
end
theorem drawsT {prog:Program} {w:World} {A:Around} (hh:A.handled=none) (it l:Addr) (hne:l≠it) (xs:Array Value) :
  Draws prog w A it [it,l] xs.size (fun i v=>xs[i]?=some v) (fun i h=>h.IsTupleIter it l i∧h.IsTuple l xs) where
 live:=fun _ _ st=>let ⟨o,ho,_⟩:=st.1;⟨o,ho⟩
 frame:=fun _ _ _ st hk=>⟨st.1.at fun o e=>hk it (by simp) o e,st.2.at fun o e=>hk l (by simp) o e⟩
 item:=fun i s Q E hi st hQ=>by
  refine kj st.1 st.2 (x:=xs[i]) (by simp [hi]) fun h' hit' hs'=>?_
  exact hQ _ h' s.toks (by simp [hi]) ⟨hit',st.2.extBut hs'.extBut hne⟩ hs'
 done:=fun s Q E st hE=>nq hh st.1 st.2 (by simp) hE
end RevA
namespace L2
open PySem PySem.Spec PyProof.Rows RevA
def Itet (K:xFr) (a:Addr):It :=
 ⟨fun i H=>∃ xs x,SqT K H a xs∧xs[i]?=some x,fun i H x H'=>∃ (p:Addr) (v:V),x = .ref p∧H p=none∧H'=upd H p (.tup [.int i,v])∧∀ xs,SqT K H a xs→xs[i]?=some v,fun i H=>∃ xs,SqT K H a xs∧xs.length=i⟩
theorem j5 {P:Program} {w:World} {K:xFr} {elts:List Expr} {k:Nat} {pos:Pos} (a it e:Addr) (hne:e≠it) (hae:a≠e) (hai:a≠it):Turn P w K (.Tuple elts k pos) (Itet K a) [e,it] e (fun i h=>(∃ old,IsEnum h e it (i:Nat) old)∧h.IsTupleIter it a i) where
 mem:=by simp
 obj:=fun i h st b hb=>by
  obtain ⟨⟨old,q1⟩,o,q2,c,d⟩:=st
  simp only [xAv,xBv,or_false] at hb
  rcases hb with rfl | rfl
  ·exact ⟨_,q1,fun v z=>by cases z⟩
  ·exact ⟨o,q2,fun v z=>by rw [d] at z;cases z⟩
 keep:=fun i h h' st k=>⟨let ⟨old,q⟩:=st.1;⟨old,k e (by simp) _ q⟩,st.2.at fun o e'=>k it (by simp) o e'⟩
 item:=by
  intro X hP hw hK hc i pins s σ H E I hf st hg
  subst hP hw hK
  obtain ⟨xs,x,hq,hx⟩:=hg
  obtain ⟨its,rv,p,hz⟩:=I.tuple hq
  obtain ⟨u,hu,ru⟩:=rv.get hx
  obtain ⟨⟨old,he⟩,hit⟩:=st
  have D:=drawsT (prog:=X.prog) (w:=X.w) (A:=X.A.in1) (by simpa using I.ok.hd hc) it a hai its.toArray
  have hilt:i<its.toArray.size:=by
   rw [xAp]
   exact (xAq.mp hu).1
  refine wpAny_pyNext_enum_itemD D he ⟨hit,p⟩ hilt hne (by simp [hne,Ne.symm hae]) fun x1 h1 tk hP ho st1 hT hsz hk=>?_
  have hx1:x1=u:=by
   have e1:its.toArray[i]?=some x1:=hP
   rw [List.getElem?_toArray,hu] at e1
   cases e1
   rfl
  subst hx1
  have hel:e<s.heap.objs.size:=xA1 he
  have hil:it<s.heap.objs.size:=by obtain ⟨_,z,_⟩:=hit;exact xA1 z
  have h0:H s.heap.objs.size=none:=I.hok.fresh (xAg _)
  have I1:Inv X pins σ (upd H s.heap.objs.size (.tup [.int i,x])) { s with heap:=s.heap.push { cls:=.type "tuple",data:=.seq #[.int i tk,x1] },toks:=tk+1 }:=by
   refine I.laid (fun b o e=>xAf _ e) (xAg _) ⟨by simp [sizeLine_eq],[.int i tk,x1],.cons ⟨_,rfl⟩ (.cons ru .nil),_,xAl _ rfl,rfl,_,rfl⟩
  refine ⟨_,rfl,wpAny_letOwnedTupleGo_enum (s:={ s with heap:=h1,toks:=tk+1 }) ho fun h2 he2 hs2=>?_⟩
  have hs2':Heap.SameBut e h1 h2:=hs2
  have fp':∀ b∈[e,it],FpOk X pins (upd H s.heap.objs.size (.tup [.int i,x])) b:=fun b hb=>by
   obtain ⟨f0,f⟩:=hf b hb
   refine ⟨?_,f⟩
   rw [aA]
   ·exact f0
   ·simp only [xAv,xBv,or_false] at hb
    rcases hb with rfl | rfl
    ·exact xA0 hel
    ·exact xA0 hil
  have I2:=Inv.turnedL (t':=tk+1) (h':=h2) (fp:=[e,it]) I1 (fun b o hb eb=>?_) fp'
  ·refine ⟨.ref s.heap.objs.size,_,I2,rfl,⟨_,x,rfl,h0,rfl,fun ys hy=>by rw [I.tuple_inj hy hq];exact hx⟩,⟨⟨_,by simpa using he2⟩,st1.1.at fun o z=>(hs2'.2 it hne.symm).trans z⟩,fun b hb=>(fp' b hb).1⟩
  ·simp only [xAv,xBv,or_false,not_or] at hb
   rw [hs2'.2 b hb.1]
   by_cases z:b=s.heap.objs.size
   ·subst z
    rw [hT]
    rw [← eb]
    exact (xAl _ rfl).symm
   ·refine hk b o hb.1 hb.2 ?_
    exact (Heap.get?_push_cases eb).elim (fun y=>absurd y.1 z) id
 done:=by
  intro X hP hw hK hc i pins s σ H E I hf st hg
  subst hP hw hK
  obtain ⟨xs,hq,hx⟩:=hg
  obtain ⟨its,rv,p,hz⟩:=I.tuple hq
  obtain ⟨f0,f1,f2,f3,f4,f5⟩:=hf it (by simp)
  have hl:=rv.length
  obtain ⟨⟨old,he⟩,hit⟩:=st
  have D:=drawsT (prog:=X.prog) (w:=X.w) (A:=X.A.in1) (by simpa using I.ok.hd hc) it a hai its.toArray
  have e1:its.toArray.size=i:=by rw [xAp];lia
  exact wpAny_pyNext_enum_endD D he (by rw [e1];exact ⟨hit,p⟩) fun h' eb=>⟨rfl,I.turned (t':=s.toks) (fun b o hb e=>eb b o hb e) f0 f1 f3 f4 f5⟩
 self:=fun _ _ _ _ _ st h=>let ⟨⟨old,he⟩,_⟩:=st;wpAny_pyIter_enum he h
def nIterET (K:xFr) (vs:List V) (H:Hp) (R:It→Hp→Prop):Prop:=∃ a,vs=[.ref a]∧(∃ xs,H a=some (.tup xs))∧R (Itet K a) H
def iEnumT (K:xFr) (ta:TA):TI:=fun σ H R=>ta σ H fun vs H1=>nIterET K vs H1 R
theorem xu {K:xFr} {tas:TA} {σ:St} {H:Hp} {R:It→Hp→Prop} (h:tas σ H fun vs H1=>nIterET K vs H1 R):iEnumT K tas σ H R:=h
theorem oM {K:xFr} {H:Hp} {R:It→Hp→Prop} {a:Addr} {xs:List V} (e:H a=some (.tup xs)) (h:R (Itet K a) H):nIterET K [.ref a] H R:=⟨a,rfl,⟨xs,e⟩,h⟩
theorem nY {K:xFr} {a:Addr} {xs:List V}:Wk (Itet K a) (fun H=>SqT K H a xs) xs.length (fun i H x H'=>∃ (p:Addr) (v:V),x = .ref p∧H p=none∧H'=upd H p (.tup [.int i,v])∧xs[i]?=some v) :=
 ⟨fun i H p h=>⟨xs,xs[i],p,by simp [h]⟩,fun i H x H' p h ⟨q,v,y1,y2,y3,y4⟩=>⟨q,v,y1,y2,y3,y4 xs p⟩,fun H p=>⟨xs,p,rfl⟩⟩
end L2
namespace SetA
open PySem PySem.Spec PySem.SetTable PyProof.Rows
section
variable {prog:Program} {w:World} {A:Around} {E:Value→Shared→Prop} {s:Shared}
theorem set_tuple {l:Addr} {items:Array Value} {ns:List Int} {Q:Value→Shared→Prop}
  (hh:A.handled=none) (hl:s.heap.IsTuple l items) (hi:IntsAre items.toList ns) (hb:Bnd ns)
  (h:∀ (h':Heap) (tk:Nat) (ks:List Int),SetIs w h' s.heap.objs.size ks→(∀ x,x∈ks↔x∈ns) →
   (∀ b o,s.heap.get? b=some o→h'.get? b=some o)→s.toks≤tk→Q (.ref s.heap.objs.size) { s with heap:=h',toks:=tk }) :
  wpAny (model prog w) A (call (.type "set") [.ref l]) Q E s:=by
 obtain ⟨c,tl,hmro⟩:=PySem.F.called_set.mro
 have hmade:=PySem.F.called_set.made
 have hsub:=PySem.F.called_set.sub
 have hlen:items.size=ns.length:=by rw [← hi.length,xAh]
 refine wpAny_call (codeAny_of_tree ?_)
 change wpAny _ _ (callAny (.type "set") _) _ _ _
 refine xAe ⟨Code.quiet_builtin _ (by decide +kernel),codeAny_builtin PySem.F.entry_type_call ?_⟩
 rw [Around.under_plain (weight_type_call_type "set" [.ref l] []) rfl]
 have q1:=PySem.F.called_set.notType
 have q2:=PySem.F.called_set.canCreate
 have q3:=PySem.F.typeCall_set_1 (.ref l)
 repeat (any_goals (first | assumption | wp_step))
 refine codeAny_mono (lP (.ref l) (E:=E) (Q₁:=fun obj s₁=>∃ led:Bool,(led=true∨w.params.followText "set-order"=true)∧obj = .ref s.heap.objs.size∧s₁={ s with heap:=s.heap.push (setObj #[] 0 (.fresh 0 0 led)) }) fun led hld=>⟨led,hld,rfl,rfl⟩) fun r s₁ hr=>?_
 cases r with
 | error e=>exact hr
 | ok fl =>
  cases fl with
  | ret obj =>
   obtain ⟨led,hld,rfl,rfl⟩:=hr
   have P0:=eP (w:=w) led hld s.heap
   have hT:Shared.TypeIs { s with heap:=s.heap.push (setObj #[] 0 (.fresh 0 0 led)) } (.ref s.heap.objs.size) "set":=⟨_,P0.ob,rfl⟩
   have hli:=PySem.F.called_set.init.lookup
   have hbi:=PySem.F.called_set.init.bind (.ref s.heap.objs.size)
   repeat (any_goals (first | assumption | wp_step))
   refine codeAny_mono (codeAny_call_builtin (R:=wants (fun r s₂=>r = .none∧∃ h' tk ks,s₂={ s with heap:=h',toks:=tk }∧SetIs w h' s.heap.objs.size ks∧(∀ x,x∈ks↔x∈ns) ∧
     (∀ b o,s.heap.get? b=some o→h'.get? b=some o)∧s.toks≤tk) E) PySem.F.called_set.init.plain PySem.F.entry_set_init (check_set_init_1 hT ?_)) fun r₂ s₂ hr₂=>?_
   ·obtain ⟨ol,hol,hcl,nl,hdl⟩:=hl
    obtain ⟨ocls,odict,odata,oslots⟩:=ol
    simp only at hcl hdl
    subst hcl;subst hdl
    have hol1:(s.heap.push (setObj #[] 0 (.fresh 0 0 led))).get? l=some { cls:=.type "tuple",dict:=odict,data:=.seq items nl,slots:=oslots }:=xAf _ hol
    have q4:=PySem.F.sub_tuple_set
    have q5:=PySem.F.sub_tuple_frozenset
    have q6:(Value.type "tuple" == Value.type "dict")=false:=by decide
    have hl1:(s.heap.push (setObj #[] 0 (.fresh 0 0 led))).IsTuple l items:=⟨_,hol1,rfl,nl,rfl⟩
    unfold Builtin.«set.__init__» noKeywords Builtin.Frozenset.updateFrom
    generalize hPI:pyIter=PI
    wp_walk
    subst hPI
    refine wpAny_pyIter_tuple hl1 ?_
    refine xAd (wpAny_runValue ?_)
    have hlS:l<s.heap.objs.size:=xA1 hol
    have hh3:A.in1.in1.in1.handled=none:=by simp [hh]
    have hneI:l≠(s.heap.push (setObj #[] 0 (.fresh 0 0 led))).objs.size:=by
     rw [Heap.size_push]
     exact xA0 (xCa hlS)
    have hSf:s.heap.objs.size ∉ [(s.heap.push (setObj #[] 0 (.fresh 0 0 led))).objs.size,l]:=by
     rw [Heap.size_push]
     simp only [xAv,xBv,or_false,not_or]
     exact ⟨xA0 (Nat.lt_succ_self _),Nat.ne_of_gt hlS⟩
    have hval:∀ (i:Nat) (v:Value),items[i]?=some v→∃ t,v = .int ((fun i=>ns.getD i 0) i) t:=fun i v hv =>
     IntsAre.int_at hi i v (by rw [xA8];exact hv)
    refine hW ((Walks.tuple hh3 _ l hneI items).toS) s.heap.objs.size hSf (fun i=>ns.getD i 0) hval (fun i hi=>?hB) (items.size - 0) 0 _ [] (by lia) (xBn _)
     ⟨⟨_,xAl _ rfl,rfl,rfl⟩,(hl1.push _)⟩ ⟨_,_,_,P0.at' fun o e=>xAf _ e⟩ (fun x=>by simp) ?hR
    case hB =>
     refine hb _ ?_
     rw [xBz,xAk (by lia)]
     exact List.getElem_mem _
    case hR =>
     intro s' ks' mv d1 d2
     obtain ⟨h',g',d',tk',os'⟩:=s'
     have eg:g'=s.gens:=mv.gens
     have ed:d'=s.drawn:=mv.drawn
     have eo:os'=s.os:=mv.os
     have et:s.toks≤tk':=mv.toks
     subst eg;subst ed;subst eo
     change wpAny _ _ _ _ _ _
     refine xAe ?_
     change wpAny _ _ (ret Value.none) _ _ _
     refine xAe ⟨rfl,h',tk',ks',rfl,d1,fun x=>?_,fun b o e=>?_,et⟩
     ·rw [d2,List.mem_iff_getElem]
      constructor
      ·rintro ⟨j,z1,z2⟩
       refine ⟨j,by lia,?_⟩
       rw [← z2,xBz,xAk (by lia)]
       rfl
      ·rintro ⟨j,z1,z2⟩
       refine ⟨j,by lia,?_⟩
       rw [← z2,xBz,xAk (by lia)]
       rfl
     ·have hb0:=xA1 e
      have hb1:b≠s.heap.objs.size:=xA0 hb0
      have hb2:b≠(s.heap.push (setObj #[] 0 (.fresh 0 0 led))).objs.size:=by
       rw [Heap.size_push]
       exact xA0 (xCa hb0)
      exact mv.heap b o (by simp only [xAv,xBv,or_false,not_or];exact ⟨hb1,hb2⟩) (xAf _ (xAf _ e))
   ·cases r₂ with
    | error e=>exact hr₂
    | ok fl₂ =>
     cases fl₂ with
     | ret r =>
      obtain ⟨rfl,h',tk,ks,rfl,z1,z2,z4,z5⟩:=hr₂
      repeat (any_goals (first | assumption | wp_step))
      exact h _ _ _ z1 z2 z4 z5
     | _=>exact hr₂.elim
  | _=>exact hr.elim
end
end SetA
namespace SetA
open PySem PySem.Spec PySem.SetTable PyProof.Rows
section
variable {prog:Program} {w:World} {A:Around} {E:Value→Shared→Prop} {s:Shared} {a:Addr}
theorem xT {b:Addr} {ks1 ks2:List Int} {Q:Value→Shared→Prop} (T1:s.TypeIs (.ref a) "set") (T2:s.TypeIs (.ref b) "set") (S1:SetIs w s.heap a ks1) (S2:SetIs w s.heap b ks2) (hab:b≠a) (hl:ks1.length+ks2.length+1<scanBound)
  (h:∀ (h':Heap) (ks':List Int),(∀ c o,s.heap.get? c=some o→h'.get? c=some o)→SetIs w h' s.heap.objs.size ks'→(∀ x,x∈ks'↔x∈ks1∨x∈ks2)→Q (.ref s.heap.objs.size) { s with heap:=h' }) :
  wpAny (model prog w) A (Builtin.«frozenset.__or__» ⟨[.ref a,.ref b],[]⟩) (fun fin s'=>∃ v,fin = .done (.ret v)∧Q v s') E s:=by
 obtain ⟨es1,ep1,t1,U1⟩:=id S1
 obtain ⟨es2,ep2,t2,U2⟩:=id S2
 change wpAny _ _ (Builtin.Frozenset.slot1 "__or__" ⟨[.ref a,.ref b],[]⟩ >>= _) _ _ _
 refine xAd (xAe ?_)
 dsimp only
 refine xAd (xAd (U1.any ?_))
 change wpAny _ _ (Builtin.Frozenset.isAnySet (.ref b)) _ _ _
 refine U2.any ?_
 rw [xCf (by simp)]
 refine xAd (xAe ?_)
 refine xAd ?_
 wp_delta
 refine xAd (t9 S1 (by lia) fun h1 ks' c1 c2 c3 c4=>?_)
 have hbn:b≠s.heap.objs.size:=xA0 (xA1 U2.ob)
 have U2':SIn w h1 b es2 ep2 t2 ks2:=U2.at' fun o e=>c1 b o e
 rw [xCg (by simp [hab])]
 refine xAd (m:=Builtin.Frozenset.addrOf _) (xAe ?_)
 refine xAd (wpAny_holding ?_)
 rw [xCf xAy]
 dsimp only
 unfold Builtin.Frozenset.updateFrom
 refine xAd (SIn.any (s:={ s with heap:=h1 }) U2' ?_)
 rw [xCg rfl]
 refine xAd (m:=Builtin.Frozenset.addrOf _) (xAe ?_)
 unfold Builtin.Frozenset.merge
 refine xAd (SIn.epoch (s:={ s with heap:=h1 }) U2' ?_)
 refine jr (s:={ s with heap:=h1 }) c2 U2' hbn (by lia) (fun s' Q z q=>z.unchanged q) fun h2 ks2' d1 d2 d3 d4=>?_
 refine xAe (xAe ⟨_,rfl,h h2 ks2' (fun c o e=>?_) d2 fun x=>by rw [d3,c3]⟩)
 rw [d1.2 c (xA0 (xA1 e))]
 exact c1 c o e
end
end SetA
namespace L2
open PySem PySem.Spec PyProof.Rows SetA
def Bnd2 (ks:List Int):Prop:=∀ x∈ks,0≤x∧x<2000
theorem Bnd2.len {ks:List Int} (h:Bnd2 ks) (nd:ks.Nodup):ks.length≤2000:=pV 2000 nd fun k hk=>h k hk
def cSetT (w:World) (K:xFr):List V→Hp→VK→Prop:=fun xs H Q=>∃ (p:Addr) (ns:List Int),xs=[.ref p]∧SqT K H p (ns.map V.int)∧Bnd ns ∧
  ∀ (l:Addr) (ks:List Int),H l=none→ks.Nodup→(∀ z,z∈ks↔z∈ns)→Q (.ref l) (upd H l (SetO w l ks))
def rOrS (w:World):R2:=fun x y H Q=>∃ (p q:Addr) (ks1 ks2:List Int),x = .ref p∧y = .ref q∧q≠p∧H p=some (SetO w p ks1)∧H q=some (SetO w q ks2)∧Bnd2 ks1∧Bnd2 ks2 ∧
  ∀ (l:Addr) (ks':List Int),H l=none→ks'.Nodup→(∀ z,z∈ks'↔z∈ks1∨z∈ks2)→Q (.ref l) (upd H l (SetO w l ks'))
section
variable {X:Cx}
theorem tS (hc:X.calm=true):CallR X (.type "set") (cSetT X.w X.K):=by
 intro pins s σ H xs us Q I r h
 obtain ⟨p,ns,rfl,hS,hl,h⟩:=h
 obtain ⟨u,rfl,ru⟩:=vals1 r
 obtain rfl:u=Value.ref p:=ru
 obtain ⟨its,r1,t1,z1⟩:=I.tuple hS
 refine SetA.set_tuple (I.ok.hd hc) (show s.heap.IsTuple p its.toArray from t1) (cD r1) hl fun h' tk ks c1 c2 c4 c5=>?_
 exact fK (tk:=tk) I c4 c1 fun hf=>h _ ks hf (let ⟨_,_,_,z⟩:=c1;z.nd) c2
theorem wf:OpR X (binaryOp .BitOr) (rOrS X.w):=by
 intro pins s σ H x y v u Q I rx ry h
 obtain ⟨p,q,ks1,ks2,rfl,rfl,hne,hp,hq,l1,l2,h⟩:=h
 obtain rfl:v=Value.ref p:=rx
 obtain rfl:u=Value.ref q:=ry
 have S1:=eU I.hok hp
 have S2:=eU I.hok hq
 obtain ⟨es1,ep1,t1,T1⟩:=id S1
 obtain ⟨es2,ep2,t2,T2⟩:=id S2
 have n1:=l1.len T1.nd
 have n2:=l2.len T2.nd
 have hsb:scanBound=4096:=rfl
 refine wpAny_binaryOp_same T1.type T2.type (fillsNumberSlot_of PySem.F.slot_set_or.lookup (by decide +kernel) PySem.F.slot_set_ror.lookup) PySem.F.slot_set_or (wpAny_call_entry PySem.F.slot_set_or T1.type w4 ?_ (PySem.F.args_set_or_2 _ _))
 refine wpAny_mono (xT T1.type T2.type S1 S2 hne (by lia) (Q:=fun v s'=>v≠.notImplemented∧EP X pins σ Q v s') fun h' ks' c1 c2 c3=>⟨(fun e=>nomatch e),?_⟩) (fun fin s' z=>?_) fun _ _ z=>z
 ·exact fK (tk:=s.toks) I c1 c2 fun hf=>h _ ks' hf (let ⟨_,_,_,z⟩:=c2;z.nd) c3
 ·obtain ⟨v,rfl,z1,z2⟩:=z
  exact ⟨v,rfl,z1,z2⟩
end
section
variable {w:World} {K:xFr} {H:Hp} {Q:VK} {p q:Addr} {ns ks1 ks2 ks:List Int}
theorem kb (e:H p=some (.tup (ns.map V.int))) (b:Bnd ns) (h:∀ (l:Addr) (ks:List Int) (H2:Hp),Same H H2→H l=none→Sis w H2 l ks→ks.Nodup→(∀ z,z∈ks↔z∈ns)→Q (.ref l) H2):cSetT w K [.ref p] H Q :=
 ⟨p,ns,rfl,.of e,b,fun l ks hl nd m=>h l ks _ (aw hl _) hl ah nd m⟩
theorem vF (ne:q≠p) (e1:Sis w H p ks1) (e2:Sis w H q ks2) (b1:Bnd ks1) (b2:Bnd ks2) (h:∀ (l:Addr) (ks:List Int) (H2:Hp),Same H H2→H l=none→Sis w H2 l ks→ks.Nodup→(∀ z,z∈ks↔z∈ks1∧z∈ks2)→Q (.ref l) H2):rAndS w (.ref p) (.ref q) H Q :=
 ⟨p,q,ks1,ks2,rfl,rfl,ne,e1,e2,b1,b2,fun l ks hl nd m=>h l ks _ (aw hl _) hl ah nd m⟩
theorem xl (ne:q≠p) (e1:Sis w H p ks1) (e2:Sis w H q ks2) (b1:Bnd2 ks1) (b2:Bnd2 ks2) (h:∀ (l:Addr) (ks:List Int) (H2:Hp),Same H H2→H l=none→Sis w H2 l ks→ks.Nodup→(∀ z,z∈ks↔z∈ks1∨z∈ks2)→Q (.ref l) H2):rOrS w (.ref p) (.ref q) H Q :=
 ⟨p,q,ks1,ks2,rfl,rfl,ne,e1,e2,b1,b2,fun l ks hl nd m=>h l ks _ (aw hl _) hl ah nd m⟩
theorem Sis.ne {q:Addr} (e:Sis w H p ks) (f:H q=none):q≠p:=(ak e f).symm
end
end L2
namespace L2
open PySem PySem.Spec PyProof.Rows
theorem ci {K:xFr} {H:Hp} {Q:VK} {a b:Addr} {xs ys:List V} (e1:H a=some (.tup xs)) (e2:H b=some (.tup ys)) (hl:xs.length+ys.length≤sizeLine) (h:∀ p H2,Same H H2→H2 p=some (.tup (xs++ys))→Q (.ref p) H2):rCatA K (.ref a) (.ref b) H Q:=⟨a,b,xs,ys,rfl,rfl,e1,e2,hl,h⟩
def Rng (y:Int) (lo hi:Nat) (k:Int):Prop:=∃ j:Nat,lo<j∧j≤hi∧k=(j:Int) * y % 211
theorem tj:∀ d<210,∀ b<210,(d+1) * (b+1) % 211≠0:=by decide +kernel
theorem Rng.bd {y:Int} {lo hi:Nat} {k:Int} (h:Rng y lo hi k):0≤k∧k<211:=by
 obtain ⟨j,_,_,rfl⟩:=h
 exact ⟨xBa _ (by decide),xBb _ (by decide)⟩
theorem Rng.mono {y:Int} {lo hi lo' hi':Nat} {k:Int} (h:Rng y lo hi k) (a:lo'≤lo) (b:hi≤hi'):Rng y lo' hi' k:=by
 obtain ⟨j,h1,h2,h3⟩:=h
 exact ⟨j,by lia,by lia,h3⟩
theorem wW {y:Int} (b0:0<y) (b1:y<211) {i j:Nat} (hij:i<j) (hj:j≤210):(i:Int) * y % 211≠(j:Int) * y % 211:=by
 intro e
 obtain ⟨b,rfl⟩:∃ b:Nat,y=((b+1:Nat):Int):=⟨(y - 1).toNat,by omega⟩
 have h1:=tj (j - i - 1) (by omega) b (by omega)
 have e2:((j:Int) * ((b+1:Nat):Int) - (i:Int) * ((b+1:Nat):Int)) % 211=0:=by
  rw [Int.sub_emod,e,Int.sub_self]
  rfl
 rw [← Int.sub_mul] at e2
 have e3:((j:Int) - (i:Int))=((j - i - 1+1:Nat):Int):=by omega
 rw [e3,← Int.natCast_mul] at e2
 apply h1
 have:(((j - i - 1+1) * (b+1) % 211:Nat):Int)=0:=by rw [Int.natCast_emod];exact e2
 omega
theorem Rng.apart {y:Int} {lo hi lo' hi':Nat} {k:Int} (b0:0<y) (b1:y<211) (h:Rng y lo hi k) (g:Rng y lo' hi' k) (le:hi≤lo') (hh:hi'≤210):False:=by
 obtain ⟨i,i1,i2,rfl⟩:=h
 obtain ⟨j,j1,j2,e⟩:=g
 exact wW b0 b1 (show i<j by lia) (by lia) e
mutual
def Bdy.gl:Bdy→List Int
 | .mk steps _=>Stp.gls steps
def Stp.gl:Stp→List Int
 | .func to ps b _=>to::(ps++b.gl)
 | .iff to _ y n _=>to::(y.gl++n.gl)
 | .mtch to _ _ xs y n _=>to::(xs++y.gl++n.gl)
 | .tri to one _ x other _=>to::(one.gl++x::other.gl)
 | .start to _ _=>[to] | .box to _ _=>[to] | .tell to _ _=>[to] | .read to _=>[to] | .load to _=>[to] | .set to _ _ _=>[to] | .store to _ _ _=>[to] | .math to _ _ _ _=>[to] | .make to _ _ _=>[to] | .ask to _=>[to] | .rais to _ _ _=>[to] | .call to _ _ _ _=>[to] | .close to _ _ _=>[to]
def Stp.gls:List Stp→List Int
 | []=>[]
 | s::r=>s.gl++Stp.gls r
end
theorem Stp.gls_eq:∀ l:List Stp,Stp.gls l=l.flatMap Stp.gl
 | []=>rfl
 | s::r=>congrArg (s.gl++·) (Stp.gls_eq r)
theorem Bdy.gl_eq (b:Bdy):b.gl=b.steps.flatMap Stp.gl:=by
 cases b with
 | mk steps last=>exact Stp.gls_eq steps
theorem Stp.gl_eq (s:Stp):s.gl=s.to::s.inn.flatMap fun x=>x.1++x.2.gl:=by
 cases s with
 | func to ps b pl=>exact congrArg (to::·) (xB0 _).symm
 | iff to a y n pl=>exact congrArg (fun z=>to::(y.gl++z)) (xB0 _).symm
 | mtch to a tag xs y n pl=>exact congrArg (fun z=>to::((xs++y.gl)++z)) (xB0 _).symm
 | tri to one w x other pl=>exact congrArg (fun z=>to::(one.gl++z)) (xB0 _).symm
 | _=>rfl
theorem qV {l:List Stp} {s:Stp} {x:List Int×Bdy} (hs:s∈l) (hx:x∈s.inn):x.2.cnt≤cntL (l.flatMap Stp.inn):=by
 have gen:∀ (L:List (List Int×Bdy)),x∈L→x.2.cnt≤cntL L:=by
  intro L
  induction L with
  | nil=>intro h;cases h
  | cons z L ih =>
   intro h
   rw [show z::L=[z]++L from rfl,aZ]
   rcases xAv.mp h with rfl | h
   ·simp [cntL]
   ·have:=ih h
    lia
 exact gen _ (xA4.mpr ⟨s,hs,hx⟩)
theorem cX {b:Bdy} {s:Stp} {x:List Int×Bdy} (hs:s∈b.steps) (hx:x∈s.inn):x.2.cnt<b.cnt:=by
 have:=qV hs hx
 rw [b.cnt_eq]
 lia
theorem iY {k:Int}:∀ (N:Nat) (b:Bdy),b.cnt≤N→(k∈b.gl↔Giv b k)
 | 0,b,h=>by have:=b.cnt_pos;lia
 | N+1,b,h=>by
  rw [b.gl_eq,xA4,Giv.iff]
  constructor
  ·rintro ⟨s,hs,hk⟩
   refine ⟨s,hs,?_⟩
   rw [s.gl_eq,xAv,xA4] at hk
   rcases hk with rfl | ⟨x,hx,hk⟩
   ·exact .inl rfl
   ·refine .inr ⟨x,hx,?_⟩
    rcases xAj.mp hk with hk | hk
    ·exact .inl hk
    ·exact .inr ((iY N x.2 (by have:=cX hs hx;lia)).mp hk)
  ·rintro ⟨s,hs,hk⟩
   refine ⟨s,hs,?_⟩
   rw [s.gl_eq,xAv,xA4]
   rcases hk with rfl | ⟨x,hx,hk⟩
   ·exact .inl rfl
   ·refine .inr ⟨x,hx,xAj.mpr ?_⟩
    rcases hk with hk | hk
    ·exact .inl hk
    ·exact .inr ((iY N x.2 (by have:=cX hs hx;lia)).mpr hk)
theorem dY {b:Bdy} {k:Int}:k∈b.gl↔Giv b k:=iY _ b (xAg _)
def thr (ts:List Int) (b:Bdy) (i:Nat):List Int:=ts++(b.steps.take i).map Stp.to
inductive Scp:List Int→Bdy→Prop where
 | mk {ts:List Int} {b:Bdy} (op:∀ i s,b.steps[i]?=some s→∀ k,Atom.nm k∈s.ops→k∈thr ts b i) (la:∀ k,b.last = .nm k→k∈ts++b.steps.map Stp.to)
   (inn:∀ i s,b.steps[i]?=some s→∀ x∈s.inn,Scp (thr ts b i++x.1) x.2):Scp ts b
theorem Scp.op {ts:List Int} {b:Bdy} (h:Scp ts b):∀ i s,b.steps[i]?=some s→∀ k,Atom.nm k∈s.ops→k∈thr ts b i:=by cases h;assumption
theorem Scp.la {ts:List Int} {b:Bdy} (h:Scp ts b):∀ k,b.last = .nm k→k∈ts++b.steps.map Stp.to:=by cases h;assumption
theorem Scp.inn {ts:List Int} {b:Bdy} (h:Scp ts b):∀ i s,b.steps[i]?=some s→∀ x∈s.inn,Scp (thr ts b i++x.1) x.2:=by cases h;assumption
theorem Scp.men {ts:List Int} {b:Bdy} {k:Int} (h:Scp ts b):Men b k→k∈ts∨Giv b k:=by
 induction h with
 | @mk ts b op la inn ih =>
  intro hm
  have up:∀ i,k∈thr ts b i→k∈ts∨Giv b k:=fun i hk=>by
   rcases xAj.mp hk with hk | hk
   ·exact .inl hk
   ·obtain ⟨s,hs,e⟩:=xA2.mp hk
    exact .inr (Giv.iff.mpr ⟨s,xBj hs,.inl e⟩)
  rcases Men.iff.mp hm with e | ⟨s,hs,hk⟩
  ·rcases xAj.mp (la k e) with z | z
   ·exact .inl z
   ·obtain ⟨s,hs,e⟩:=xA2.mp z
    exact .inr (Giv.iff.mpr ⟨s,hs,.inl e⟩)
  ·obtain ⟨i,hi⟩:=xB8.mp hs
   rcases hk with hk | ⟨x,hx,hk⟩
   ·exact up i (op i s hi k hk)
   ·rcases ih i s hi x hx hk with z | z
    ·rcases xAj.mp z with z | z
     ·exact up i z
     ·exact .inr (Giv.iff.mpr ⟨s,hs,.inr ⟨x,hx,.inl z⟩⟩)
    ·exact .inr (Giv.iff.mpr ⟨s,hs,.inr ⟨x,hx,.inr z⟩⟩)
theorem Scp.less {ts:List Int} {b:Bdy} (h:Scp ts b):∀ us:List Int,(∀ k,Men b k→k∈ts→k∈us)→Scp us b:=by
 induction h with
 | @mk ts b op la inn ih =>
  intro us hu
  have up:∀ i k,Men b k→k∈thr ts b i→k∈thr us b i:=fun i k hm hk=>by
   rcases xAj.mp hk with hk | hk
   ·exact xBw _ (hu k hm hk)
   ·exact xBt _ hk
  refine .mk (fun i s hi k hk=>up i k (Men.iff.mpr (.inr ⟨s,xAc hi,.inl hk⟩)) (op i s hi k hk)) (fun k e=>?_) fun i s hi x hx=>?_
  ·rcases xAj.mp (la k e) with z | z
   ·exact xBw _ (hu k (Men.iff.mpr (.inl e)) z)
   ·exact xBt _ z
  ·refine ih i s hi x hx _ fun k hm hk=>?_
   rcases xAj.mp hk with z | z
   ·exact xBw _ (up i k (Men.iff.mpr (.inr ⟨s,xAc hi,.inr ⟨x,hx,hm⟩⟩)) z)
   ·exact xBt _ z
def Drp (b:Bdy) (i:Nat):Bdy:=.mk (b.steps.drop i) b.last
theorem drp0 (b:Bdy):Drp b 0=b:=by cases b;rfl
theorem b9 {b:Bdy} {i:Nat} {s:Stp} {k:Int} (h:b.steps[i]?=some s):Men (Drp b i) k↔MenS s k∨Men (Drp b (i+1)) k:=by
 obtain ⟨h1,h2⟩:=xAq.mp h
 have e:b.steps.drop i=s::b.steps.drop (i+1):=by rw [← h2];exact xB2 h1
 rw [Men.iff,Men.iff]
 change (b.last = .nm k∨∃ t∈b.steps.drop i,MenS t k)↔MenS s k∨b.last = .nm k∨∃ t∈b.steps.drop (i+1),MenS t k
 rw [e]
 simp only [xAv]
 constructor
 ·rintro (z | ⟨t,rfl | ht,z⟩)
  ·exact .inr (.inl z)
  ·exact .inl z
  ·exact .inr (.inr ⟨t,ht,z⟩)
 ·rintro (z | z | ⟨t,ht,z⟩)
  ·exact .inr ⟨s,.inl rfl,z⟩
  ·exact .inl z
  ·exact .inr ⟨t,.inr ht,z⟩
theorem lI {s:Stp} {a:Atom} {k:Int}:Men (.mk [s] a) k↔a = .nm k∨MenS s k:=by
 rw [Men.iff]
 simp [Bdy.steps,Bdy.last]
theorem lK {a:Atom} {k:Int}:Men (.mk [] a) k↔a = .nm k:=by
 rw [Men.iff]
 simp [Bdy.steps,Bdy.last]
theorem lM {b:Bdy} {k:Int}:Men (Drp b b.steps.length) k↔b.last = .nm k:=by
 unfold Drp
 rw [List.drop_length,lK]
theorem p8 {b:Bdy} {i:Nat} {k:Int} (h:b.last = .nm k):Men (Drp b i) k:=Men.iff.mpr (.inl h)
theorem bQ {b:Bdy} {i:Nat} {k:Int} (h:Men (Drp b i) k):Men b k:=by
 rcases Men.iff.mp h with z | ⟨s,hs,z⟩
 ·exact Men.iff.mpr (.inl z)
 ·exact Men.iff.mpr (.inr ⟨s,List.mem_of_mem_drop hs,z⟩)
open Classical in
def ris (P:Int→Prop):List Int:=((List.range 211).map fun n:Nat=>(n:Int)).filter fun k=>decide (P k)
theorem cG {P:Int→Prop} (bd:∀ k,P k→0≤k∧k<211) {k:Int}:k∈ris P↔P k:=by
 unfold ris
 rw [xBr,xA2]
 constructor
 ·rintro ⟨_,h⟩
  simpa using h
 ·intro h
  have:=bd k h
  exact ⟨⟨k.toNat,by rw [List.mem_range];lia,by lia⟩,by simpa using h⟩
theorem br {P:Int→Prop} {k:Int} (h:k∈ris P):P k∧0≤k∧k<211:=by
 unfold ris at h
 rw [xBr,xA2] at h
 obtain ⟨⟨n,hn,rfl⟩,h⟩:=h
 rw [List.mem_range] at hn
 exact ⟨by simpa using h,by lia,by lia⟩
theorem eD {P:Int→Prop}:(ris P).Pairwise (·<·):=by
 unfold ris
 refine List.Pairwise.filter _ ?_
 rw [List.pairwise_map]
 exact List.pairwise_lt_range.imp fun h=>by lia
theorem bZ {P:Int→Prop}:(ris P).length≤211:=cr 211 (eD.imp fun h=>by omega) fun k hk=>by have:=(br hk).2;omega
theorem j9 {P:Int→Prop} {l:List Int} (p:l.Pairwise (·<·)) (m:∀ k,k∈l↔P k) (bd:∀ k,P k→0≤k∧k<211):l=ris P:=gc p eD fun k=>(m k).trans (cG bd).symm
theorem gS {P Q:Int→Prop} (h:∀ k,P k↔Q k):ris P=ris Q:=by rw [show P=Q from funext fun k=>propext (h k)]
def intsD (xs:List Int):D:=.tup (xs.map D.int)
theorem aY {H:Hp} {xs:List Int} {v:V} (h:Rp H (intsD xs) v):∃ q,v = .ref q∧H q=some (.tup (xs.map V.int)):=by
 obtain ⟨q,ws,rfl,hq,hr⟩:=h
 exact ⟨q,rfl,by rw [hq,Rps.ints hr]⟩
theorem cz {H:Hp} {xs:List Int} {q:Addr} (h:H q=some (.tup (xs.map V.int))):Rp H (intsD xs) (.ref q):=⟨q,_,rfl,h,.ofInts _⟩
structure Row where
 path:List Int
 step:Stp
 there:List Int
 later:Int→Prop
def Row.ahead (r:Row):List Int:=ris fun k=>k∈r.there∧(MenS r.step k∨r.later k)
def Row.behind (r:Row):List Int:=ris fun k=>k∈r.there∧r.later k
def Row.d (r:Row):D:=.tup [intsD r.path,r.step.d,intsD r.ahead,intsD r.behind]
def Row.d3 (r:Row):D:=.tup [intsD r.path,intsD r.ahead,intsD r.behind]
def Cgt:Stp→Nat→Int→Prop
 | .tri _ _ _ _ other _,j,k=>j=0∧Men other k
 | _,_,_=>False
def ltr (b:Bdy) (bh:Int→Prop) (i:Nat) (k:Int):Prop:=Men (Drp b (i+1)) k∨bh k
def stn:Nat→List Int→Bdy→List Int→(Int→Prop)→List Row
 | 0,_,_,_,_=>[]
 | N+1,path,b,ts,bh=>b.steps.zipIdx.flatMap fun z=>⟨path++[(z.2:Int)],z.1,thr ts b z.2,ltr b bh z.2⟩ ::
   z.1.inn.zipIdx.flatMap fun y=>stn N (path++[(z.2:Int)]++[(y.2:Int)]) y.1.2 (thr ts b z.2++y.1.1) fun k=>ltr b bh z.2 k∨Cgt z.1 y.2 k
def stnS (N:Nat) (path:List Int) (b:Bdy) (ts:List Int) (bh:Int→Prop) (z:Stp×Nat):List Row:=⟨path++[(z.2:Int)],z.1,thr ts b z.2,ltr b bh z.2⟩ ::
 z.1.inn.zipIdx.flatMap fun y=>stn N (path++[(z.2:Int)]++[(y.2:Int)]) y.1.2 (thr ts b z.2++y.1.1) fun k=>ltr b bh z.2 k∨Cgt z.1 y.2 k
theorem aW {N:Nat} {path:List Int} {b:Bdy} {ts:List Int} {bh:Int→Prop}:stn (N+1) path b ts bh=b.steps.zipIdx.flatMap (stnS N path b ts bh):=by
 rw [stn]
 rfl
theorem dS {α:Type} {l:List α} {i:Nat} {x:α} (h:l[i]?=some x):l.zipIdx[i]?=some (x,i):=by rw [List.getElem?_zipIdx,h];simp
theorem bL {α:Type} {l:List α} {z:α×Nat} (h:z∈l.zipIdx):l[z.2]?=some z.1:=by
 obtain ⟨i,hi⟩:=xB8.mp h
 rw [List.getElem?_zipIdx] at hi
 cases e:l[i]? with
 | none=>rw [e] at hi;cases hi
 | some x =>
  rw [e] at hi
  simp at hi
  subst hi
  simpa using e
theorem ei:∀ (N:Nat) {path:List Int} {b:Bdy} {ts:List Int} {bh:Int→Prop} {r:Row} {k:Int},r∈stn N path b ts bh→(r.later k→Men b k∨bh k)∧(MenS r.step k→Men b k)
 | 0,_,_,_,_,r,k,h=>by simp [stn] at h
 | N+1,path,b,ts,bh,r,k,h=>by
  rw [aW,xA4] at h
  obtain ⟨z,hz,h⟩:=h
  have e:=bL hz
  have hs:=xAc e
  rcases xAv.mp h with rfl | h
  ·exact ⟨fun hk=>hk.imp bQ id,fun hk=>Men.iff.mpr (.inr ⟨z.1,hs,hk⟩)⟩
  ·obtain ⟨y,hy,h⟩:=xA4.mp h
   have hx:=xAc (bL hy)
   obtain ⟨h1,h2⟩:=ei N (k:=k) h
   have up:Men y.1.2 k→Men b k:=fun hk=>Men.iff.mpr (.inr ⟨z.1,hs,.inr ⟨y.1,hx,hk⟩⟩)
   refine ⟨fun hk=>?_,fun hk=>up (h2 hk)⟩
   rcases h1 hk with hk | (hk | hk) | hk
   ·exact .inl (up hk)
   ·exact .inl (bQ hk)
   ·exact .inr hk
   ·refine .inl (Men.iff.mpr (.inr ⟨z.1,hs,.inr ?_⟩))
    cases hz1:z.1 with
    | tri to one w x other pl =>
     rw [hz1] at hk
     exact ⟨([x],other),by simp [Stp.inn],hk.2⟩
    | _=>rw [hz1] at hk;exact hk.elim
theorem im {α:Type} (f:α→Nat):∀ (l:List α) (n:Nat),((l.zipIdx n).map fun z=>f z.1).sum=(l.map f).sum
 | [],_=>rfl
 | x::l,n=>by rw [List.zipIdx_cons,xBs,xB9,im f l,xBs,xB9]
theorem ir:∀ (N:Nat) {path:List Int} {b:Bdy} {ts:List Int} {bh:Int→Prop},(∀ x,In b x→x.2.steps.length≤4)→(stn N path b ts bh).length≤4 * b.cnt
 | 0,_,_,_,_,_=>by simp [stn]
 | N+1,path,b,ts,bh,hl=>by
  rw [aW,List.length_flatMap]
  have hb:∀ z∈b.steps.zipIdx,(stnS N path b ts bh z).length≤1+4 * cntL z.1.inn:=fun z hz=>by
   have hs:=xAc (bL hz)
   unfold stnS
   rw [xAo,List.length_flatMap]
   have gen:∀ (L:List ((List Int×Bdy)×Nat)),(∀ y∈L,y.1∈z.1.inn)→(L.map fun y=>(stn N (path++[(z.2:Int)]++[(y.2:Int)]) y.1.2 (thr ts b z.2++y.1.1) fun k=>ltr b bh z.2 k∨Cgt z.1 y.2 k).length).sum≤4 * (L.map fun y=>y.1.2.cnt).sum:=by
    intro L
    induction L with
    | nil=>intro _;simp
    | cons y L ih =>
     intro h
     have h1:=ih fun x hx=>h x (xAs _ hx)
     have h2:=ir N (path:=path++[(z.2:Int)]++[(y.2:Int)]) (b:=y.1.2) (ts:=thr ts b z.2++y.1.1) (bh:=fun k=>ltr b bh z.2 k∨Cgt z.1 y.2 k) fun x hx=>by
      rcases hx with rfl | hx
      ·exact hl y.1 (.inr (.here hs (h y xAr)))
      ·exact hl x (.inr (.deep hs (h y xAr) hx))
     simp only [xBs,xB9]
     lia
   have h3:=gen z.1.inn.zipIdx fun y hy=>xAc (bL hy)
   have e:(z.1.inn.zipIdx.map fun y=>y.1.2.cnt).sum=cntL z.1.inn:=by
    unfold cntL
    exact im (fun x:List Int×Bdy=>x.2.cnt) _ 0
   rw [e] at h3
   lia
  have gen2:∀ (L:List (Stp×Nat)),(∀ z∈L,(stnS N path b ts bh z).length≤1+4 * cntL z.1.inn)→(L.map fun z=>(stnS N path b ts bh z).length).sum≤L.length+4 * (L.map fun z=>cntL z.1.inn).sum:=by
   intro L
   induction L with
   | nil=>intro _;simp
   | cons z L ih =>
    intro h
    have h1:=ih fun x hx=>h x (xAs _ hx)
    have h2:=h z xAr
    simp only [xBs,xB9,xAo]
    lia
  have h4:=gen2 _ hb
  rw [List.length_zipIdx] at h4
  have h5:=hl ([],b) (.inl rfl)
  have e2:(b.steps.zipIdx.map fun z=>cntL z.1.inn).sum=cntL (b.steps.flatMap Stp.inn):=by
   rw [im (fun s:Stp=>cntL s.inn) _ 0]
   generalize b.steps=l
   induction l with
   | nil=>rfl
   | cons s l ih=>rw [xBs,xB9,ih,xBh,aZ]
  rw [e2] at h4
  rw [b.cnt_eq]
  change b.steps.length≤4 at h5
  lia
end L2
namespace L2
open PySem PySem.Spec PyProof.Rows
def K0:xFr:=[]
theorem SqL.up {K:xFr} {H:Hp} {a:Addr} {xs:List V} (h:SqL K0 H a xs):SqL K H a xs:=by
 rcases h with h | ⟨o,_,_,z,_⟩
 ·exact .inl h
 ·cases z
theorem SqT.up {K:xFr} {H:Hp} {a:Addr} {xs:List V} (h:SqT K0 H a xs):SqT K H a xs:=by
 rcases h with h | ⟨o,_,_,z,_⟩
 ·exact .inl h
 ·cases z
theorem oj {K:xFr} {T:String} {x:V} {H:Hp} (h:tyV K0 T x H):tyV K T x H:=by
 cases x with
 | ref p =>
  rcases h with ⟨h1,xs,h2⟩ | ⟨_,o,z,_⟩ | h
  ·exact .inl ⟨h1,xs,h2.up⟩
  ·cases z
  ·exact .inr (.inr h)
 | _=>exact h
section
variable {X:Cx} {e a b o:Expr} {es:List Expr} {te ta to:TE} {t tas:TA} {pos p p2 apos cpos pt:Pos} {name:Str} {id T:String} {k:Nat}
theorem ai:IxR X (rIxT K0):=fun value slice pins s σ H x y v u Q I rx ry h hs=>by
 obtain ⟨p,xs,i,z,e1,e2,hq,r⟩:=h
 exact wP value slice pins s σ H x y v u Q I rx ry ⟨p,xs,i,z,e1,e2,hq.up,r⟩ hs
theorem dF:IxR X (rIxL K0):=fun value slice pins s σ H x y v u Q I rx ry h hs=>by
 obtain ⟨p,xs,i,z,e1,e2,hq,r⟩:=h
 exact lV value slice pins s σ H x y v u Q I rx ry ⟨p,xs,i,z,e1,e2,hq.up,r⟩ hs
theorem dW:OpR X (compareOp .In) (rIn K0 false):=fun pins s σ H x y v u Q I rx ry h=>by
 obtain ⟨p,xs,e,hq,r⟩:=h
 exact ni pins s σ H x y v u Q I rx ry ⟨p,xs,e,hq.imp SqL.up SqT.up,r⟩
theorem gN:OpR X (compareOp .NotIn) (rIn K0 true):=fun pins s σ H x y v u Q I rx ry h=>by
 obtain ⟨p,xs,e,hq,r⟩:=h
 exact iH pins s σ H x y v u Q I rx ry ⟨p,xs,e,hq.imp SqL.up SqT.up,r⟩
theorem bm:OpR X (binaryOp .Add) (rCatA K0):=sw
theorem fZ:CallR X (.builtin "len") (cLen K0):=fun pins s σ H xs us Q I r h=>by
 obtain ⟨x,n,e,hl,q⟩:=h
 refine qT pins s σ H xs us Q I r ⟨x,n,e,?_,q⟩
 cases x with
 | ref p =>
  rcases hl with ⟨xs,h1,h2⟩ | ⟨xs,h1,h2⟩
  ·exact .inl ⟨xs,h1.up,h2⟩
  ·exact .inr ⟨xs,h1.up,h2⟩
 | _=>exact hl
theorem bz:CallR X (.type "list") (cList K0):=fun pins s σ H xs us Q I r ⟨p,ys,e,hl,q⟩=>tX pins s σ H xs us Q I r ⟨p,ys,e,hl.imp SqL.up SqT.up,q⟩
theorem a9:CallR X (.type "tuple") (cTuple K0):=fun pins s σ H xs us Q I r ⟨p,ys,e,hl⟩=>qQ pins s σ H xs us Q I r ⟨p,ys,e,hl.imp (fun z=>⟨z.1.up,z.2⟩) fun z=>⟨z.1.up,z.2⟩⟩
theorem eh:CallR X (.builtin "sorted") (cSorted K0):=fun pins s σ H xs us Q I r ⟨p,ns,e,hl,q⟩=>nQ pins s σ H xs us Q I r ⟨p,ns,e,hl.up,q⟩
theorem jK (hc:X.calm=true):CallR X (.type "set") (cSetL X.w K0):=fun pins s σ H xs us Q I r ⟨p,ns,e,hl,q⟩=>tT hc pins s σ H xs us Q I r ⟨p,ns,e,hl.up,q⟩
theorem gF (hc:X.calm=true):CallR X (.type "set") (cSetT X.w K0):=fun pins s σ H xs us Q I r ⟨p,ns,e,hl,q⟩=>tS hc pins s σ H xs us Q I r ⟨p,ns,e,hl.up,q⟩
variable {r:V→List V→Hp→VK→Prop}
theorem cm (pa:PlainAttrs T) (slot:Slot T name id) (hty:typeOf (.builtin id)=pure (.type "method_descriptor")) (hm:MtR X id r) (ho:QE X o to) (ha:QA X [e] t) (h:noCall o=true:=by rfl) (h2:noStar e=true:=by rfl) (hline:(apos.endLine == cpos.line)=true:=by rfl) :
  QE X (.Call (.Attribute o name apos) [e] [] cpos) (tBM K0 T r to t):=⟨by
 intro pins s σ H Q I hh
 refine wpAny_Call_method_late (iL h) (by rw [aN h2];rfl) hline rfl (thn (ho.h pins s σ H _ I hh) fun v s1 ⟨x,H1,I1,r1,ty,q1⟩=>?_)
 obtain ⟨h1,h3⟩:=oi I1 r1 (oj ty)
 refine ⟨T,id,pa,slot,hty,h1,h3,?_⟩
 have hA:=ha.h cpos pins s1 σ H1 _ I1 q1
 rw [aN h2] at hA ⊢
 refine Calls.callWith_builtin rfl (Calls.evalArgs_plain ?_)
 exact thn hA (by rintro us s2 ⟨vs,H2,I2,r2,q2⟩;exact hm pins s2 σ H2 x vs v us Q I2 r1 r2 q2)⟩
theorem rQ (pa:PlainAttrs T) (slot:Slot T name id) (hty:typeOf (.builtin id)=pure (.type "method_descriptor")) (hm:MtR X id r) (ho:QE X o to) (h:noCall o=true:=by rfl) (hline:(apos.endLine == cpos.line)=true:=by rfl) :
  QE X (.Call (.Attribute o name apos) [] [] cpos) (tBM0 K0 T r to):=⟨by
 intro pins s σ H Q I hh
 refine wpAny_Call_method0_late (iL h) hline (thn (ho.h pins s σ H _ I hh) fun v s1 ⟨x,H1,I1,r1,ty,q1⟩=>?_)
 obtain ⟨h1,h3⟩:=oi I1 r1 (oj ty)
 exact ⟨T,id,pa,slot,hty,h1,h3,Calls.callWith_builtin rfl (PySem.evalArgs_none (hm pins s1 σ H1 x [] v [] Q I1 r1 .nil q1))⟩⟩
variable {gs:TGs}
theorem a8 {k:Nat} (hc:X.calm=true) (h:QGs X es gs) (hs:es.all noStar=true:=by rfl):QG X (.Tuple es k pos) (gTup K0 es.length gs):=⟨(by rintro pins s σ H v u Q I r ⟨a,xs,e1,hq,z⟩;exact (vH hc h hs).h pins s σ H v u Q I r ⟨a,xs,e1,hq.up,z⟩)⟩
end
theorem Turn.imp {P:Program} {w:World} {K:xFr} {tg:Expr} {J J':It} {fp:List Addr} {it:Addr} {tn:Nat→Heap→Prop} (t:Turn P w K tg J fp it tn) (hg:∀ i H,J'.go i H→J.go i H) (hy:∀ i H x H',J.yld i H x H'→J'.yld i H x H') (hs:∀ i H,J'.stop i H→J.stop i H):Turn P w K tg J' fp it tn where
 mem:=t.mem
 obj:=t.obj
 keep:=t.keep
 item:=fun X hP hw hK hc i pins s σ H E I hf st g=>thn (t.item X hP hw hK hc i pins s σ H E I hf st (hg i H g)) fun r s1 ⟨u,e,z⟩=>⟨u,e,thn z (by rintro _ s2 ⟨x,H',z1,z2,z3,z4,z5⟩;exact ⟨x,H',z1,z2,hy i H x H' z3,z4,z5⟩)⟩
 done:=fun X hP hw hK hc i pins s σ H E I hf st g=>t.done X hP hw hK hc i pins s σ H E I hf st (hs i H g)
 self:=t.self
theorem qt {P:Program} {w:World} {K:xFr} {tg:Expr} {fp:List Addr} {a it:Addr} {tn:Nat→Heap→Prop} (t:Turn P w K tg (Itl K a) fp it tn):Turn P w K tg (Itl K0 a) fp it tn :=
 t.imp (by rintro _ _ ⟨xs,x,z,r⟩;exact ⟨xs,x,z.up,r⟩) (by rintro _ _ _ _ ⟨e,z⟩;exact ⟨e,fun xs h=>z xs h.up⟩) fun _ _ ⟨xs,z,r⟩=>⟨xs,z.up,r⟩
theorem qq {P:Program} {w:World} {K:xFr} {tg:Expr} {fp:List Addr} {a it:Addr} {tn:Nat→Heap→Prop} (t:Turn P w K tg (Itt K a) fp it tn):Turn P w K tg (Itt K0 a) fp it tn :=
 t.imp (by rintro _ _ ⟨xs,x,z,r⟩;exact ⟨xs,x,z.up,r⟩) (by rintro _ _ _ _ ⟨e,z⟩;exact ⟨e,fun xs h=>z xs h.up⟩) fun _ _ ⟨xs,z,r⟩=>⟨xs,z.up,r⟩
theorem wR {P:Program} {w:World} {K:xFr} {tg:Expr} {fp:List Addr} {a it:Addr} {tn:Nat→Heap→Prop} (t:Turn P w K tg (Ite K a) fp it tn):Turn P w K tg (Ite K0 a) fp it tn :=
 t.imp (by rintro _ _ ⟨xs,x,z,r⟩;exact ⟨xs,x,z.up,r⟩) (by rintro _ _ _ _ ⟨p,v,e1,e2,e3,z⟩;exact ⟨p,v,e1,e2,e3,fun xs h=>z xs h.up⟩) fun _ _ ⟨xs,z,r⟩=>⟨xs,z.up,r⟩
theorem tL {P:Program} {w:World} {K:xFr} {tg:Expr} {fp:List Addr} {a it:Addr} {tn:Nat→Heap→Prop} (t:Turn P w K tg (Itet K a) fp it tn):Turn P w K tg (Itet K0 a) fp it tn :=
 t.imp (by rintro _ _ ⟨xs,x,z,r⟩;exact ⟨xs,x,z.up,r⟩) (by rintro _ _ _ _ ⟨p,v,e1,e2,e3,z⟩;exact ⟨p,v,e1,e2,e3,fun xs h=>z xs h.up⟩) fun _ _ ⟨xs,z,r⟩=>⟨xs,z.up,r⟩
theorem wQ {P:Program} {w:World} {K:xFr} {tg:Expr} {fp:List Addr} {a it:Addr} {n:Nat} {tn:Nat→Heap→Prop} (t:Turn P w K tg (Itv K a n) fp it tn):Turn P w K tg (Itv K0 a n) fp it tn :=
 t.imp (by rintro _ _ ⟨hi,xs,z,r⟩;exact ⟨hi,xs,z.up,r⟩) (by rintro _ _ _ _ ⟨e,z⟩;exact ⟨e,fun xs h=>z xs h.up⟩) fun _ _ z=>z
section
variable {X:Cx} {e tg:Expr} {te:TE} {tas:TA} {p pos pt:Pos} {elts:List Expr} {k:Nat}
theorem aP (h:QE X e te):QI X tg e (iList K0 te):=⟨by
 intro pins s σ H R I hh
 refine thn (h.h pins s σ H _ I hh) fun v s1 ⟨x,H1,I1,r1,a,e,⟨xs,hq⟩,q⟩=>?_
 subst e
 cases r1
 obtain ⟨its,rv,p,hz⟩:=I1.list (hq.up (K:=X.K))
 refine wpAny_pyIter_list p.isList ?_
 refine ⟨s1.heap.objs.size,[s1.heap.objs.size],_,_,H1,rfl,I1.kept (t':=s1.toks) fun b o e=>xAf _ e,qt (gP a _),⟨_,xAl _ rfl,rfl,rfl⟩,fun b hb=>?_,q⟩
 have e:b=s1.heap.objs.size:=by simpa using hb
 subst e
 exact I1.fpOk (xAg _) (I1.hok.fresh (xAg _))⟩
theorem bw (h:QE X e te):QI X tg e (iTup K0 te):=⟨by
 intro pins s σ H R I hh
 refine thn (h.h pins s σ H _ I hh) fun v s1 ⟨x,H1,I1,r1,a,e,⟨xs,hq⟩,q⟩=>?_
 subst e
 cases r1
 obtain ⟨its,rv,p,hz⟩:=I1.tuple (hq.up (K:=X.K))
 refine wpAny_pyIter_tuple (show s1.heap.IsTuple a its.toArray from p) ?_
 refine ⟨s1.heap.objs.size,[s1.heap.objs.size],_,_,H1,rfl,I1.kept (t':=s1.toks) fun b o e=>xAf _ e,qq (f8 a _),⟨_,xAl _ rfl,rfl,rfl⟩,fun b hb=>?_,q⟩
 have e:b=s1.heap.objs.size:=by simpa using hb
 subst e
 exact I1.fpOk (xAg _) (I1.hok.fresh (xAg _))⟩
theorem oT (hg:Gl X "reversed") (hm:X.mg "reversed"=none) (ha:QA X [e] tas) (h:noStar e=true:=by rfl):QI X tg (.Call (.Name "reversed" p) [e] [] pos) (iRevT K0 tas):=⟨by
 intro pins s σ H R I hh
 refine Call_ (dE I hg hm boot_reversed (PyProof.Rows.callWith_type1 (thn (ha.h pos pins s σ H _ I hh) fun us s1 ⟨vs,H1,I1,r1,q1⟩=>?_) (aN h) rfl))
 obtain ⟨l,xs,e,hq,q⟩:=q1
 subst e
 cases r1 with
 | cons r rr =>
  cases rr
  cases r
  obtain ⟨its,rv,pl,hz⟩:=I1.tuple (hq.up (K:=X.K))
  have hl:=rv.length
  have l63:=line63
  refine RevA.call_rv pl (by rw [xAp];lia) ?_
  rw [show its.toArray.size=xs.length by rw [xAp,hl]]
  refine RevA.iter_rv (t:=l) (i:=(xs.length:Int) - 1) (xAl _ rfl) ?_
  have I2:Inv X pins σ H1 { s1 with heap:=s1.heap.push (RevA.rvObj l ((xs.length:Int) - 1)),toks:=s1.toks+1+1 }:=I1.kept fun b o e=>xAf _ e
  refine ⟨s1.heap.objs.size,[s1.heap.objs.size],_,_,H1,rfl,I2,wQ (rg l _ xs.length),⟨xBn _,?_⟩,fun b hb=>?_,q⟩
  ·rw [show (xs.length:Int) - 1 - ((0:Nat):Int)=(xs.length:Int) - 1 by lia]
   exact xAl _ rfl
  ·have e:b=s1.heap.objs.size:=by simpa using hb
   subst e
   exact I1.fpOk (xAg _) (I1.hok.fresh (xAg _))⟩
theorem gX (hg:Gl X "enumerate") (hm:X.mg "enumerate"=none) (ha:QA X [e] tas) (h:noStar e=true:=by rfl):QI X (.Tuple elts k pt) (.Call (.Name "enumerate" p) [e] [] pos) (iEnum K0 tas):=⟨by
 intro pins s σ H R I hh
 refine Call_ (dE I hg hm ie (PyProof.Rows.callWith_type1 (thn (ha.h pos pins s σ H _ I hh) fun us s1 ⟨vs,H1,I1,r1,q1⟩=>?_) (aN h) rfl))
 obtain ⟨l,e,⟨xs,hq⟩,q⟩:=q1
 subst e
 cases r1 with
 | cons r rr =>
  cases rr
  cases r
  obtain ⟨its,rv,pl,hz⟩:=I1.list (hq.up (K:=X.K))
  refine call_enumerate_list pl.isList fun h' he hit hsz hk=>?_
  refine wpAny_pyIter_enum he ?_
  have I2:Inv X pins σ H1 { s1 with heap:=h' }:=I1.kept (t':=s1.toks) hk
  refine ⟨s1.heap.objs.size+1,[s1.heap.objs.size+1,s1.heap.objs.size],_,_,H1,rfl,I2,wR (mM l _ _ (Nat.succ_ne_self _)),⟨⟨_,he⟩,hit⟩,fun b hb=>?_,q⟩
  have hb':s1.heap.objs.size≤b:=by
   simp only [xAv,xBv,or_false] at hb
   rcases hb with rfl | rfl
   ·exact Nat.le_succ _
   ·exact xAg _
  exact I1.fpOk hb' (I1.hok.fresh hb')⟩
theorem mS (hg:Gl X "enumerate") (hm:X.mg "enumerate"=none) (ha:QA X [e] tas) (h:noStar e=true:=by rfl):QI X (.Tuple elts k pt) (.Call (.Name "enumerate" p) [e] [] pos) (iEnumT K0 tas):=⟨by
 intro pins s σ H R I hh
 refine Call_ (dE I hg hm ie (PyProof.Rows.callWith_type1 (thn (ha.h pos pins s σ H _ I hh) fun us s1 ⟨vs,H1,I1,r1,q1⟩=>?_) (aN h) rfl))
 obtain ⟨l,e,⟨xs,hq⟩,q⟩:=q1
 subst e
 cases r1 with
 | cons r rr =>
  cases rr
  cases r
  obtain ⟨its,rv,pl,hz⟩:=I1.tuple (xs:=xs) (.of hq)
  have hll:l<s1.heap.objs.size:=I1.hok.lt hq
  refine RevA.enumT (show s1.heap.IsTuple l its.toArray from pl) fun h' he hit hk=>?_
  refine wpAny_pyIter_enum he ?_
  have I2:Inv X pins σ H1 { s1 with heap:=h' }:=I1.kept (t':=s1.toks) hk
  refine ⟨s1.heap.objs.size+1,[s1.heap.objs.size+1,s1.heap.objs.size],_,_,H1,rfl,I2,tL (j5 l _ _ (Nat.succ_ne_self _) (xA0 (xCa hll)) (xA0 hll)),⟨⟨_,he⟩,hit⟩,fun b hb=>?_,q⟩
  have hb':s1.heap.objs.size≤b:=by
   simp only [xAv,xBv,or_false] at hb
   rcases hb with rfl | rfl
   ·exact Nat.le_succ _
   ·exact xAg _
  exact I1.fpOk hb' (I1.hok.fresh hb')⟩
variable {a:Expr} {ta:TE} {p2:Pos}
theorem fN (hu:X.A.units<cLine) (ha:QE X a ta):QC X .NotEq a (.List [] p2) (tL0 K0 true ta):=⟨by
 intro pins s σ H Q I h
 refine thn (ha.h pins s σ H _ I h) fun v s1 ⟨x,H1,I1,r1,l,xs,e,hq,q⟩=>?_
 subst e
 cases r1
 refine wpAny_List_spliced (Calls.spliced_nil ⟨xBn _,?_⟩)
 obtain ⟨its,rv,pl,hz⟩:=I1.list (hq.up (K:=X.K))
 have I3:Inv X pins σ H1 { s1 with heap:=s1.heap.push { cls:=.type "list",data:=.seq ([]:List Value).toArray } }:=I1.kept (t':=s1.toks) fun b o e=>xAf _ e
 have p1:=(pl.isList.push { cls:=.type "list",data:=.seq ([]:List Value).toArray })
 have p2:(s1.heap.push { cls:=.type "list",data:=.seq ([]:List Value).toArray }).IsList s1.heap.objs.size ([]:List Value).toArray:=⟨_,xAl _ rfl,rfl,_,rfl⟩
 cases xs with
 | nil =>
  have e:its=[]:=rv.nil_iff.mpr rfl
  subst e
  exact (SeqAt.RcNeAt.lists (s:={ s1 with heap:=s1.heap.push { cls:=.type "list",data:=.seq ([]:List Value).toArray } }) (e:=fun _=>true) p1 p2 rfl hu (fun j h1=>by simp at h1)) X.prog X.w X.xe _ (aI I3 q rfl)
 | cons y ys =>
  have hl:=rv.length
  exact (SeqAt.RcNeAt.lists_lengths (s:={ s1 with heap:=s1.heap.push { cls:=.type "list",data:=.seq ([]:List Value).toArray } }) p1 p2 (by rw [xAp,xAp,← hl];rfl) hu) X.prog X.w X.xe _ (aI I3 q rfl)⟩
end
end L2
namespace L2
open PySem PySem.Spec PyProof.Rows
section
variable {J:It} {P:Hp→Prop} {n:Nat} {Y:Nat→Hp→V→Hp→Prop} {g:TG} {tb:TS} {Dn E:Ends} {σ:St} {H:Hp} {N:St→Hp→Prop} {A:Ends→Prop}
structure EA (Dn:Ends) (N:St→Hp→Prop) (E:Ends):Prop where
 nx:∀ σ H,N σ H→E.nx σ H
 ct:∀ σ H,N σ H→E.ct σ H
 bk:∀ σ H,Dn.nx σ H→E.bk σ H
 rt:∀ v H,Dn.rt v H→E.rt v H
def WE (Dn:Ends) (N:St→Hp→Prop) (A:Ends→Prop):Prop:=∀ E,EA Dn N E→A E
theorem ym (h:∀ E,EA Dn N E→A E):WE Dn N A:=h
theorem yH (h:EA Dn N E) (n:N σ H):E.nx σ H:=h.nx σ H n
theorem aL (wk:Wk J P n Y) (Pv:Nat→St→Hp→Prop) (h0:Pv 0 σ H) (hP:∀ i σ H,i≤n→Pv i σ H→P H)
  (hs:∀ (E:Ends) i,EA Dn (Pv (i+1)) E→∀ σ H x H',i<n→Pv i σ H→Y i H x H'→g x σ H' fun σ2 H2=>tb E σ2 H2) (hd:∀ σ H,Pv n σ H→Dn.nx σ H):nFor J g tb Dn σ H :=
 wZ wk Pv h0 hP (fun i σ H x H' a b c=>hs { Dn with nx:=Pv (i+1),ct:=Pv (i+1),bk:=Dn.nx } i ⟨fun _ _ z=>z,fun _ _ z=>z,fun _ _ z=>z,fun _ _ z=>z⟩ σ H x H' a b c) hd
theorem uh {Pv:Nat→St→Hp→Prop} {m:Nat} {b:Bool} (h1:b=true→WE Dn (fun σ' H'=>∃ m',m'<m∧Pv m' σ' H') fun E=>tb E σ H) (h2:b=false→Dn.nx σ H):nWh Pv m tb Dn σ b H :=
 yl (fun e=>h1 e _ ⟨fun _ _ z=>z,fun _ _ z=>z,fun _ _ z=>z,fun _ _ z=>z⟩) h2
end
theorem len1 {α:Type} {us:List α} (h:us.length=1):∃ x0,us=[x0]:=by
 cases us with
 | nil=>cases h
 | cons a r =>
  cases r with
  | nil=>exact ⟨a,rfl⟩
  | cons b r=>cases h
theorem len2 {α:Type} {us:List α} (h:us.length=2):∃ x0 x1,us=[x0,x1]:=by
 cases us with
 | nil=>cases h
 | cons a r =>
  obtain ⟨x1,rfl⟩:=len1 (Nat.succ.inj h)
  exact ⟨a,x1,rfl⟩
theorem len3 {α:Type} {us:List α} (h:us.length=3):∃ x0 x1 x2,us=[x0,x1,x2]:=by
 cases us with
 | nil=>cases h
 | cons a r =>
  obtain ⟨x1,x2,rfl⟩:=len2 (Nat.succ.inj h)
  exact ⟨a,x1,x2,rfl⟩
theorem len4 {α:Type} {us:List α} (h:us.length=4):∃ x0 x1 x2 x3,us=[x0,x1,x2,x3]:=by
 cases us with
 | nil=>cases h
 | cons a r =>
  obtain ⟨x1,x2,x3,rfl⟩:=len3 (Nat.succ.inj h)
  exact ⟨a,x1,x2,x3,rfl⟩
theorem len5 {α:Type} {us:List α} (h:us.length=5):∃ x0 x1 x2 x3 x4,us=[x0,x1,x2,x3,x4]:=by
 cases us with
 | nil=>cases h
 | cons a r =>
  obtain ⟨x1,x2,x3,x4,rfl⟩:=len4 (Nat.succ.inj h)
  exact ⟨a,x1,x2,x3,x4,rfl⟩
end L2
namespace L2
open PySem PySem.Spec PyProof.Rows
theorem rps1 {H:Hp} {d0:D} {vs:List V} (h:Rps H [d0] vs):∃ x0,vs=[x0]∧Rp H d0 x0:=by
 obtain ⟨a,_,rfl,h1,rfl⟩:=h
 exact ⟨a,rfl,h1⟩
theorem rps2 {H:Hp} {d0 d1:D} {vs:List V} (h:Rps H [d0,d1] vs):∃ x0 x1,vs=[x0,x1]∧Rp H d0 x0∧Rp H d1 x1:=by
 obtain ⟨a,_,rfl,h1,h2⟩:=h
 obtain ⟨x1,rfl,z⟩:=rps1 h2
 exact ⟨a,x1,rfl,h1,z⟩
theorem rps3 {H:Hp} {d0 d1 d2:D} {vs:List V} (h:Rps H [d0,d1,d2] vs):∃ x0 x1 x2,vs=[x0,x1,x2]∧Rp H d0 x0∧Rp H d1 x1∧Rp H d2 x2:=by
 obtain ⟨a,_,rfl,h1,h2⟩:=h
 obtain ⟨x1,x2,rfl,z⟩:=rps2 h2
 exact ⟨a,x1,x2,rfl,h1,z⟩
theorem rps4 {H:Hp} {d0 d1 d2 d3:D} {vs:List V} (h:Rps H [d0,d1,d2,d3] vs):∃ x0 x1 x2 x3,vs=[x0,x1,x2,x3]∧Rp H d0 x0∧Rp H d1 x1∧Rp H d2 x2∧Rp H d3 x3:=by
 obtain ⟨a,_,rfl,h1,h2⟩:=h
 obtain ⟨x1,x2,x3,rfl,z⟩:=rps3 h2
 exact ⟨a,x1,x2,x3,rfl,h1,z⟩
theorem rps5 {H:Hp} {d0 d1 d2 d3 d4:D} {vs:List V} (h:Rps H [d0,d1,d2,d3,d4] vs):∃ x0 x1 x2 x3 x4,vs=[x0,x1,x2,x3,x4]∧Rp H d0 x0∧Rp H d1 x1∧Rp H d2 x2∧Rp H d3 x3∧Rp H d4 x4:=by
 obtain ⟨a,_,rfl,h1,h2⟩:=h
 obtain ⟨x1,x2,x3,x4,rfl,z⟩:=rps4 h2
 exact ⟨a,x1,x2,x3,x4,rfl,h1,z⟩
theorem rps6 {H:Hp} {d0 d1 d2 d3 d4 d5:D} {vs:List V} (h:Rps H [d0,d1,d2,d3,d4,d5] vs):∃ x0 x1 x2 x3 x4 x5,vs=[x0,x1,x2,x3,x4,x5]∧Rp H d0 x0∧Rp H d1 x1∧Rp H d2 x2∧Rp H d3 x3∧Rp H d4 x4∧Rp H d5 x5:=by
 obtain ⟨a,_,rfl,h1,h2⟩:=h
 obtain ⟨x1,x2,x3,x4,x5,rfl,z⟩:=rps5 h2
 exact ⟨a,x1,x2,x3,x4,x5,rfl,h1,z⟩
theorem rps7 {H:Hp} {d0 d1 d2 d3 d4 d5 d6:D} {vs:List V} (h:Rps H [d0,d1,d2,d3,d4,d5,d6] vs):∃ x0 x1 x2 x3 x4 x5 x6,vs=[x0,x1,x2,x3,x4,x5,x6]∧Rp H d0 x0∧Rp H d1 x1∧Rp H d2 x2∧Rp H d3 x3∧Rp H d4 x4∧Rp H d5 x5∧Rp H d6 x6:=by
 obtain ⟨a,_,rfl,h1,h2⟩:=h
 obtain ⟨x1,x2,x3,x4,x5,x6,rfl,z⟩:=rps6 h2
 exact ⟨a,x1,x2,x3,x4,x5,x6,rfl,h1,z⟩
theorem rps8 {H:Hp} {d0 d1 d2 d3 d4 d5 d6 d7:D} {vs:List V} (h:Rps H [d0,d1,d2,d3,d4,d5,d6,d7] vs):∃ x0 x1 x2 x3 x4 x5 x6 x7,vs=[x0,x1,x2,x3,x4,x5,x6,x7]∧Rp H d0 x0∧Rp H d1 x1∧Rp H d2 x2∧Rp H d3 x3∧Rp H d4 x4∧Rp H d5 x5∧Rp H d6 x6∧Rp H d7 x7:=by
 obtain ⟨a,_,rfl,h1,h2⟩:=h
 obtain ⟨x1,x2,x3,x4,x5,x6,x7,rfl,z⟩:=rps7 h2
 exact ⟨a,x1,x2,x3,x4,x5,x6,x7,rfl,h1,z⟩
theorem eN {H:Hp} {v:V} {to:Int} {a:Atom} {pl:Int} (hv:Rp H (Stp.start to a pl).d v):∃ (p:Addr) (va:V),v = .ref p∧H p=some (.tup [.str "start",.int to,va,.int pl])∧Rp H (a.d) va:=by
 obtain ⟨p,_,rfl,hp,z⟩:=hv
 obtain ⟨_,_,va,_,rfl,rfl,rfl,ha,rfl⟩:=rps4 z
 exact ⟨p,va,rfl,hp,ha⟩
theorem iV {H:Hp} {v:V} {to:Int} {a:Atom} {pl:Int} (hv:Rp H (Stp.box to a pl).d v):∃ (p:Addr) (va:V),v = .ref p∧H p=some (.tup [.str "box",.int to,va,.int pl])∧Rp H (a.d) va:=by
 obtain ⟨p,_,rfl,hp,z⟩:=hv
 obtain ⟨_,_,va,_,rfl,rfl,rfl,ha,rfl⟩:=rps4 z
 exact ⟨p,va,rfl,hp,ha⟩
theorem fO {H:Hp} {v:V} {to:Int} {a:Atom} {pl:Int} (hv:Rp H (Stp.tell to a pl).d v):∃ (p:Addr) (va:V),v = .ref p∧H p=some (.tup [.str "tell",.int to,va,.int pl])∧Rp H (a.d) va:=by
 obtain ⟨p,_,rfl,hp,z⟩:=hv
 obtain ⟨_,_,va,_,rfl,rfl,rfl,ha,rfl⟩:=rps4 z
 exact ⟨p,va,rfl,hp,ha⟩
theorem fP {H:Hp} {v:V} {to x:Int} (hv:Rp H (Stp.read to x).d v):∃ (p:Addr),v = .ref p∧H p=some (.tup [.str "read",.int to,.int x]):=by
 obtain ⟨p,_,rfl,hp,z⟩:=hv
 obtain ⟨_,_,_,rfl,rfl,rfl,rfl⟩:=rps3 z
 exact ⟨p,rfl,hp⟩
theorem fT {H:Hp} {v:V} {to x:Int} (hv:Rp H (Stp.load to x).d v):∃ (p:Addr),v = .ref p∧H p=some (.tup [.str "load",.int to,.int x]):=by
 obtain ⟨p,_,rfl,hp,z⟩:=hv
 obtain ⟨_,_,_,rfl,rfl,rfl,rfl⟩:=rps3 z
 exact ⟨p,rfl,hp⟩
theorem iU {H:Hp} {v:V} {to x:Int} {a:Atom} {pl:Int} (hv:Rp H (Stp.set to x a pl).d v):∃ (p:Addr) (va:V),v = .ref p∧H p=some (.tup [.str "set",.int to,.int x,va,.int pl])∧Rp H (a.d) va:=by
 obtain ⟨p,_,rfl,hp,z⟩:=hv
 obtain ⟨_,_,_,va,_,rfl,rfl,rfl,rfl,ha,rfl⟩:=rps5 z
 exact ⟨p,va,rfl,hp,ha⟩
theorem eM {H:Hp} {v:V} {to x:Int} {a:Atom} {pl:Int} (hv:Rp H (Stp.store to x a pl).d v):∃ (p:Addr) (va:V),v = .ref p∧H p=some (.tup [.str "store",.int to,.int x,va,.int pl])∧Rp H (a.d) va:=by
 obtain ⟨p,_,rfl,hp,z⟩:=hv
 obtain ⟨_,_,_,va,_,rfl,rfl,rfl,rfl,ha,rfl⟩:=rps5 z
 exact ⟨p,va,rfl,hp,ha⟩
theorem fR {H:Hp} {v:V} {to:Int} {op:Str} {a b:Atom} {pl:Int} (hv:Rp H (Stp.math to op a b pl).d v):∃ (p:Addr) (va:V) (vb:V),v = .ref p∧H p=some (.tup [.str "math",.int to,.str op,va,vb,.int pl])∧Rp H (a.d) va∧Rp H (b.d) vb:=by
 obtain ⟨p,_,rfl,hp,z⟩:=hv
 obtain ⟨_,_,_,va,vb,_,rfl,rfl,rfl,rfl,ha,hb,rfl⟩:=rps6 z
 exact ⟨p,va,vb,rfl,hp,ha,hb⟩
theorem fS {H:Hp} {v:V} {to:Int} {tag:Str} {as:List Atom} {pl:Int} (hv:Rp H (Stp.make to tag as pl).d v):∃ (p:Addr) (va:V),v = .ref p∧H p=some (.tup [.str "make",.int to,.str tag,va,.int pl])∧Rp H (.tup (as.map Atom.d)) va:=by
 obtain ⟨p,_,rfl,hp,z⟩:=hv
 obtain ⟨_,_,_,va,_,rfl,rfl,rfl,rfl,ha,rfl⟩:=rps5 z
 exact ⟨p,va,rfl,hp,ha⟩
theorem iW {H:Hp} {v:V} {to pl:Int} (hv:Rp H (Stp.ask to pl).d v):∃ (p:Addr),v = .ref p∧H p=some (.tup [.str "ask",.int to,.int pl]):=by
 obtain ⟨p,_,rfl,hp,z⟩:=hv
 obtain ⟨_,_,_,rfl,rfl,rfl,rfl⟩:=rps3 z
 exact ⟨p,rfl,hp⟩
theorem fQ {H:Hp} {v:V} {to:Int} {w:Str} {a:Atom} {pl:Int} (hv:Rp H (Stp.rais to w a pl).d v):∃ (p:Addr) (va:V),v = .ref p∧H p=some (.tup [.str "raise",.int to,.str w,va,.int pl])∧Rp H (a.d) va:=by
 obtain ⟨p,_,rfl,hp,z⟩:=hv
 obtain ⟨_,_,_,va,_,rfl,rfl,rfl,rfl,ha,rfl⟩:=rps5 z
 exact ⟨p,va,rfl,hp,ha⟩
theorem fV {H:Hp} {v:V} {to:Int} {a:Atom} {as:List Atom} {pl:Int} {last:Bool} (hv:Rp H (Stp.call to a as pl last).d v):∃ (p:Addr) (va:V) (vb:V),v = .ref p∧H p=some (.tup [.str "call",.int to,va,vb,.int pl,.bl last])∧Rp H (a.d) va∧Rp H (.tup (as.map Atom.d)) vb:=by
 obtain ⟨p,_,rfl,hp,z⟩:=hv
 obtain ⟨_,_,va,vb,_,_,rfl,rfl,rfl,ha,hb,rfl,rfl⟩:=rps6 z
 exact ⟨p,va,vb,rfl,hp,ha,hb⟩
theorem eO {H:Hp} {v:V} {to n:Int} {xs:List Int} {pl:Int} (hv:Rp H (Stp.close to n xs pl).d v):∃ (p:Addr) (va:V),v = .ref p∧H p=some (.tup [.str "close",.int to,.int n,va,.int pl])∧Rp H (.tup (xs.map D.int)) va:=by
 obtain ⟨p,_,rfl,hp,z⟩:=hv
 obtain ⟨_,_,_,va,_,rfl,rfl,rfl,rfl,ha,rfl⟩:=rps5 z
 exact ⟨p,va,rfl,hp,ha⟩
theorem fU {H:Hp} {v:V} {to:Int} {ps:List Int} {b:Bdy} {pl:Int} (hv:Rp H (Stp.func to ps b pl).d v):∃ (p:Addr) (va:V) (vb:V),v = .ref p∧H p=some (.tup [.str "func",.int to,va,vb,.int pl])∧Rp H (.tup (ps.map D.int)) va∧Rp H (b.d) vb:=by
 obtain ⟨p,_,rfl,hp,z⟩:=hv
 obtain ⟨_,_,va,vb,_,rfl,rfl,rfl,ha,hb,rfl⟩:=rps5 z
 exact ⟨p,va,vb,rfl,hp,ha,hb⟩
theorem gu {H:Hp} {v:V} {to:Int} {a:Atom} {y n:Bdy} {pl:Int} (hv:Rp H (Stp.iff to a y n pl).d v):∃ (p:Addr) (va:V) (vb:V) (vc:V),v = .ref p∧H p=some (.tup [.str "if",.int to,va,vb,vc,.int pl])∧Rp H (a.d) va∧Rp H (y.d) vb∧Rp H (n.d) vc:=by
 obtain ⟨p,_,rfl,hp,z⟩:=hv
 obtain ⟨_,_,va,vb,vc,_,rfl,rfl,rfl,ha,hb,hc,rfl⟩:=rps6 z
 exact ⟨p,va,vb,vc,rfl,hp,ha,hb,hc⟩
theorem dJ {H:Hp} {v:V} {to:Int} {a:Atom} {tag:Str} {xs:List Int} {y n:Bdy} {pl:Int} (hv:Rp H (Stp.mtch to a tag xs y n pl).d v):∃ (p:Addr) (va:V) (vb:V) (vc:V) (vd:V),v = .ref p∧H p=some (.tup [.str "match",.int to,va,.str tag,vb,vc,vd,.int pl])∧Rp H (a.d) va∧Rp H (.tup (xs.map D.int)) vb∧Rp H (y.d) vc∧Rp H (n.d) vd:=by
 obtain ⟨p,_,rfl,hp,z⟩:=hv
 obtain ⟨_,_,va,_,vb,vc,vd,_,rfl,rfl,rfl,ha,rfl,hb,hc,hd,rfl⟩:=rps8 z
 exact ⟨p,va,vb,vc,vd,rfl,hp,ha,hb,hc,hd⟩
theorem dX {H:Hp} {v:V} {to:Int} {one:Bdy} {w:Str} {x:Int} {other:Bdy} {pl:Int} (hv:Rp H (Stp.tri to one w x other pl).d v):∃ (p:Addr) (va:V) (vb:V),v = .ref p∧H p=some (.tup [.str "try",.int to,va,.str w,.int x,vb,.int pl])∧Rp H (one.d) va∧Rp H (other.d) vb:=by
 obtain ⟨p,_,rfl,hp,z⟩:=hv
 obtain ⟨_,_,va,_,_,vb,_,rfl,rfl,rfl,ha,rfl,rfl,hb,rfl⟩:=rps7 z
 exact ⟨p,va,vb,rfl,hp,ha,hb⟩
end L2
namespace L2
open PySem PySem.Spec PyProof.Rows
def ViewO (v d:Addr):HO:=HO.ext fun h=>h.IsValuesView v d
def rValues:V→List V→Hp→VK→Prop:=fun x vs H Q=>∃ d kvs,x = .ref d∧vs=[]∧H d=some (.dK kvs)∧∀ v,H v=none→Q (.ref v) (upd H v (ViewO v d))
def cListV:List V→Hp→VK→Prop:=fun xs H Q=>∃ v d kvs,xs=[.ref v]∧H v=some (ViewO v d)∧H d=some (.dK kvs)∧∀ l,H l=none→Q (.ref l) (upd H l (.lst (kvs.map (·.2))))
def cMaxL (K:xFr):List V→Hp→VK→Prop:=fun xs H Q=>∃ (p:Addr) (ns:List Int),xs=[.ref p]∧SqL K H p (ns.map V.int)∧ns≠[]∧∀ m,m∈ns→(∀ k∈ns,k≤m)→Q (.int m) H
theorem jX {kvs:List (Key×V)} {vs:List (Key×Value)} (r:KV kvs vs):Vals (kvs.map (·.2)) (vs.map (·.2)):=by
 unfold KV at r
 induction r with
 | nil=>exact .nil
 | cons h _ ih=>exact .cons h.2 ih
theorem jY {kvs:List (Key×V)} {vs:List (Key×Value)} {acc:Array Value} (r:KV kvs vs) (h:ItemsOf (fun i v=>∃ k,vs[i]?=some (k,v)) acc vs.length):Vals (kvs.map (·.2)) acc.toList:=by
 have e:acc.toList=vs.map (·.2):=by
  refine List.ext_getElem? fun i=>?_
  rw [xAw]
  by_cases hi:i<acc.size
  ·have hx:acc[i]?=some acc[i]:=Array.getElem?_eq_getElem hi
   obtain ⟨k,hk⟩:=h.2 i _ hx
   rw [xA8,hx,hk]
   rfl
  ·rw [xA9 (by rw [xAh];lia),xA9 (by rw [← h.1];lia)]
   rfl
 rw [e]
 exact jX r
theorem mF (val:Nat→Int):∀ k j,j≤k→val j≤val (argBest (fun i j=>decide (val i > val j)) k)
 | 0,j,h=>by
  obtain rfl:j=0:=by lia
  exact xBu _
 | k+1,j,h=>by
  have ih:=mF val k
  unfold argBest
  by_cases hb:val (k+1) > val (argBest (fun i j=>decide (val i > val j)) k)
  ·rw [xCg (by simpa using hb)]
   by_cases hj:j=k+1
   ·rw [hj];exact xBu _
   ·have:=ih j (by lia)
    lia
  ·rw [xCf (by simpa using hb)]
   by_cases hj:j=k+1
   ·rw [hj];lia
   ·exact ih j (by lia)
theorem mE (bt:Nat→Nat→Bool):∀ k,argBest bt k≤k
 | 0=>xAg _
 | k+1=>by
  have:=mE bt k
  unfold argBest
  split <;> lia
section
variable {X:Cx}
theorem nr:MtR X "dict.values" rValues:=by
 intro pins s σ H x xs v us Q I rx rs h
 obtain ⟨d,kvs,rfl,rfl,e,q⟩:=h
 cases (show v=Value.ref d from rx)
 cases rs
 obtain ⟨z,hd,vs,rel,dd⟩:=jG I.hok e
 refine call_meetsIn PySem.F.slot_dict_values dd.typeIs PySem.F.entry_dict_values (PySem.F.args_dict_values_1 _) (meets_dict_values (mixKind X.prog X.w) d hd) ⟨⟨vs,dd⟩,?_⟩
 refine ⟨.ref s.heap.objs.size,_,I.laid (a:=s.heap.objs.size) (o:=ViewO s.heap.objs.size d) (t':=s.toks) (fun b o e=>xAf _ e) (xAg _) ?_,rfl,q _ (I.hok.fresh (xAg _))⟩
 exact ⟨⟨_,xAl _ rfl,rfl,rfl⟩,⟨_,xAl _ rfl⟩,fun h1 h2 ⟨o,ho,r⟩ k=>⟨o,k o ho,r⟩⟩
theorem qS (hc:X.calm=true):CallR X (.type "list") cListV:=by
 intro pins s σ H xs us Q I r h
 obtain ⟨v,d,kvs,rfl,hv,hd,q⟩:=h
 obtain ⟨u,rfl,ru⟩:=vals1 r
 obtain rfl:u=Value.ref v:=ru
 obtain ⟨z,_,vs,rel,dd⟩:=jG I.hok hd
 obtain ⟨ep,hat⟩:=dd.dictAt
 have hview:s.heap.IsValuesView v d:=(I.hok v _ hv).1
 have hl:=rel.length
 refine PySem.W.kdl_call (PySem.W.kdl_values (knd:=mixKind X.prog X.w) (kvs:=vs) (ep:=ep)) (I.ok.hd hc) ⟨hview,hat⟩ (by lia) fun h' tk acc' c' hk hD hacc=>?_
 refine ⟨.ref s.heap.objs.size,_,I.laid (a:=s.heap.objs.size) (o:=.lst (kvs.map (·.2))) (t':=tk) (fun b o e=>hk b o e) (xAg _) ?_,rfl,q _ (I.hok.fresh (xAg _))⟩
 refine ⟨by rw [xAa];exact z,acc'.toList,c',jY rel hacc,?_⟩
 rw [hD,Array.toArray_toList]
theorem tU (hc:X.calm=true):CallR X (.builtin "max") (cMaxL X.K):=by
 intro pins s σ H xs us Q I r h
 obtain ⟨p,ns,rfl,hS,hne,q⟩:=h
 obtain ⟨u,rfl,ru⟩:=vals1 r
 obtain rfl:u=Value.ref p:=ru
 obtain ⟨its,r1,t1,z1⟩:=I.list hS
 have hl:=r1.length
 rw [xAa] at hl
 have hn:0<its.toArray.size:=by
  rw [xAp,← hl]
  exact List.length_pos_iff.mpr hne
 have hlt:p<s.heap.objs.size:=by
  obtain ⟨o,_,e,_⟩:=t1
  exact xA1 e
 have hval:∀ (i:Nat) (v:Value),its.toArray[i]?=some v→∃ t,v=Value.int (ns.getD i 0) t:=fun i v e=>by
  have e':its[i]?=some v:=by simpa using e
  have hi:i<ns.length:=by rw [hl];exact (xAq.mp e').1
  obtain ⟨u,hu,ru⟩:=r1.get (i:=i) (x:=.int ns[i]) (by rw [xAw,xAk hi];rfl)
  rw [e'] at hu
  cases hu
  obtain ⟨t,ht⟩:=ru
  refine ⟨t,?_⟩
  rw [ht,xBz,xAk hi]
  rfl
 refine call_max_walk (wpAny_pyIter_list t1.isList ?_)
 refine ⟨s.heap.objs.size,[s.heap.objs.size,p],[s.heap.objs.size],_,_,_,_,rfl,Walks.list (A:=X.A.in1) (I.ok.hd hc) s.heap.objs.size p (xA0 hlt) its.toArray,⟨⟨_,xAl _ rfl,rfl,rfl⟩,t1.isList.push _⟩,fun b hb=>?_,hn,CmpOf.ints_gt (fun i=>ns.getD i 0) hval,fun v h' tk hP hk=>?_⟩
 ·change b<(s.heap.push _).objs.size
  rw [Heap.size_push]
  simp only [xAv,xBv,or_false] at hb
  rcases hb with rfl | rfl
  ·exact Nat.lt_succ_self _
  ·exact xCa hlt
 ·obtain ⟨t,rfl⟩:=hval _ _ hP
  have b1:=mE (fun i j=>decide (ns.getD i 0 > ns.getD j 0)) (its.toArray.size - 1)
  have b2:=mF (fun i=>ns.getD i 0) (its.toArray.size - 1)
  have hs:its.toArray.size=ns.length:=by rw [xAp,hl]
  refine ⟨.int _,H,I.kept (t':=tk) fun b o e=>hk b o ?_ (xAf _ e),⟨t,rfl⟩,q _ ?_ fun k hk'=>?_⟩
  ·rw [xAm]
   exact xA0 (xA1 e)
  ·have hlt2:argBest (fun i j=>decide (ns.getD i 0 > ns.getD j 0)) (its.toArray.size - 1)<ns.length:=by lia
   rw [xBz,xAk hlt2]
   exact List.getElem_mem hlt2
  ·obtain ⟨j,hj,rfl⟩:=List.getElem_of_mem hk'
   have:=b2 j (by lia)
   have e:ns.getD j 0=ns[j]:=by rw [xBz,xAk hj];rfl
   rw [e] at this
   exact this
end
end L2
namespace L2
open PySem PySem.Spec PyProof.Rows
theorem qF {P:Program} {w:World} {H:Hp} {h:Heap} {d:Addr} {o:Obj} {es:Array DictEntry} {ep:Nat} {kvs:List (Key×V)} (hok:HOk P w H h) (e:H d=some (.frz o (.dK kvs))) (ho:o.data = .dict es ep):∃ vs,KV kvs vs∧h.DictAt (mixKind P w) d vs ep:=by
 obtain ⟨h1,_,_,vs,rel,o',es',ep',h2,h3,h4,h5⟩:=(show ObjOk P w H h d (.frz o (.dK kvs)) from hok d _ e)
 rw [h1] at h2
 cases h2
 rw [ho] at h4
 cases h4
 exact ⟨vs,rel,o,es,h1,h3,ho,h5⟩
section
variable {X:Cx} {e tg:Expr} {te:TE}
theorem qR (hc:X.calm=true):CallR X (.builtin "max") (cMaxL K0):=fun pins s σ H xs us Q I r ⟨p,ns,e,hl,q⟩=>tU hc pins s σ H xs us Q I r ⟨p,ns,e,SqL.up hl,q⟩
end
section
variable {K:xFr} {te:TE} {σ:St} {H:Hp} {Q:VK} {R:It→Hp→Prop} {v d p a b:Addr} {kvs:List (Key×V)}
theorem oD (e:H d=some (.dK kvs)) (h:∀ v H2,Same H H2→H v=none→H2 v=some (ViewO v d)→Q (.ref v) H2):nBM0 K "dict" rValues (.ref d) H Q :=
 ⟨.inr (.inr (.inl ⟨rfl,.inl ⟨kvs,e⟩⟩)),d,kvs,rfl,rfl,e,fun v hv=>h v _ (aw hv _) hv ah⟩
theorem rC (e1:H v=some (ViewO v d)) (e2:H d=some (.dK kvs)) (h:∀ l H2,Same H H2→H l=none→H2 l=some (.lst (kvs.map (·.2)))→Q (.ref l) H2):cListV [.ref v] H Q:=⟨v,d,kvs,rfl,e1,e2,fun l hl=>h l _ (aw hl _) hl ah⟩
theorem u0 {ns:List Int} (e:H p=some (.lst (ns.map V.int))) (ne:ns≠[]) (h:∀ m,m∈ns→(∀ k∈ns,k≤m)→Q (.int m) H):cMaxL K [.ref p] H Q:=⟨p,ns,rfl,.of e,ne,h⟩
theorem vi (e:H d=some (.dK kvs)) (h:Q (.int kvs.length) H):cLenD [.ref d] H Q:=⟨d,kvs,rfl,e,h⟩
end
end L2
namespace L2
open PySem
def kvI (m:List (Int×Int)):List (Key×V):=m.map fun p=>(Sum.inl p.1,.int p.2)
def lk (m:List (Int×Int)) (k:Int):Option Int:=(m.find? fun p=>decide (p.1=k)).map (·.2)
def pt (m:List (Int×Int)) (k v:Int):List (Int×Int):=if (m.any fun p=>decide (p.1=k))=true then m.map (fun p=>if p.1=k then (p.1,v) else p) else m++[(k,v)]
def ky (m:List (Int×Int)):List Int:=m.map (·.1)
def look (m:List (Int×Int)) (k:Int):Int:=(lk m k).getD 0
section
variable {m:List (Int×Int)} {k j v:Int}
theorem eL:(kvI m).length=m.length:=xAa ..
theorem aX:valV (kvI m) (.inl k)=(lk m k).map V.int:=by
 induction m with
 | nil=>rfl
 | cons p m ih =>
  by_cases h:p.1=k
  ·rw [show kvI (p::m)=(Sum.inl p.1,.int p.2)::kvI m from rfl,cZ (by rw [h])]
   simp [lk,xB4,h]
  ·rw [show kvI (p::m)=(Sum.inl p.1,.int p.2)::kvI m from rfl,dm (fun z=>h (Sum.inl.inj z)),ih]
   simp [lk,xB4,h]
theorem kK:(m.any fun p=>decide (p.1=k))=true↔k∈ky m:=by
 unfold ky
 rw [List.any_eq_true,xA2]
 exact ⟨fun ⟨p,h,e⟩=>⟨p,h,xBe e⟩,fun ⟨p,h,e⟩=>⟨p,h,xBd e⟩⟩
theorem dh:putK (kvI m) (.inl k) (.int v)=kvI (pt m k v):=by
 unfold putK pt
 have e:((kvI m).any fun kv=>decide (kv.1=Sum.inl k))=m.any fun p=>decide (p.1=k):=by
  unfold kvI
  rw [List.any_map]
  congr 1
  funext p
  simp
 rw [e]
 by_cases h:(m.any fun p=>decide (p.1=k))=true
 ·rw [xCg h,xCg h]
  unfold kvI
  rw [xCc,xCc]
  congr 1
  funext p
  by_cases hp:p.1=k
  ·simp [hp]
  ·simp [hp]
 ·rw [xCf h,xCf h]
  unfold kvI
  rw [xAi]
  rfl
theorem ur:ky (pt m k v)=if k∈ky m then ky m else ky m++[k]:=by
 unfold pt
 by_cases h:(m.any fun p=>decide (p.1=k))=true
 ·rw [xCg h,xCg (kK.mp h)]
  unfold ky
  rw [xCc]
  congr 1
  funext p
  by_cases hp:p.1=k
  ·simp [hp]
  ·simp [hp]
 ·rw [xCf h,xCf fun z=>h (kK.mpr z)]
  unfold ky
  rw [xAi]
  rfl
theorem dB:j∈ky (pt m k v)↔j∈ky m∨j=k:=by rw [ur];exact lN
theorem jo (h:(ky m).Nodup):(ky (pt m k v)).Nodup:=by rw [ur];exact gZ k h
theorem bX (h:k∈ky m):lk m k=some (look m k):=by
 unfold look
 cases e:lk m k with
 | some x=>rfl
 | none =>
  unfold lk at e
  rw [Option.map_eq_none_iff,List.find?_eq_none] at e
  obtain ⟨p,hp,rfl⟩:=xA2.mp h
  exact absurd (xBd rfl) (e p hp)
theorem lS:lk (pt m k v) k=some v:=by
 have h:k∈ky (pt m k v):=dB.mpr (.inr rfl)
 unfold pt at h ⊢
 by_cases hb:(m.any fun p=>decide (p.1=k))=true
 ·rw [xCg hb]
  clear h
  induction m with
  | nil=>cases hb
  | cons p m ih =>
   by_cases hp:p.1=k
   ·simp [lk,hp]
   ·have:(m.any fun p=>decide (p.1=k))=true:=by simpa [hp] using hb
    have:=ih this
    simp only [lk,xBs,xCf hp,xB4,decide_eq_false hp] at this ⊢
    exact this
 ·rw [xCf hb]
  unfold lk
  rw [List.find?_append,List.find?_eq_none.mpr]
  ·simp
  ·intro p hp z
   exact hb (List.any_eq_true.mpr ⟨p,hp,z⟩)
theorem qo:(kvI m).map (·.1)=(ky m).map Sum.inl:=by
 unfold kvI ky
 rw [xCc,xCc]
 rfl
theorem qm:(kvI m).map (·.2)=(m.map (·.2)).map V.int:=by
 unfold kvI
 rw [xCc,xCc]
 rfl
end
def IsMex (T:List Int) (n:Nat):Prop:=(n:Int) ∉ T∧∀ j:Nat,j<n→(j:Int)∈T
theorem iM:∀ (n:Nat) (T:List Int),(∀ j:Nat,j<n→(j:Int)∈T)→n≤T.length
 | 0,_,_=>xBn _
 | n+1,T,h=>by
  have hn:=h n (Nat.lt_succ_self n)
  have:=iM n (T.erase (n:Int)) fun j hj=>(List.mem_erase_of_ne (by lia)).mpr (h j (by lia))
  have e:=List.length_erase_of_mem hn
  have:=List.length_pos_of_mem hn
  lia
theorem pW (T:List Int):∃ n,IsMex T n:=by
 have go:∀ f n:Nat,T.length+1≤n+f→(∀ j:Nat,j<n→(j:Int)∈T)→∃ n,IsMex T n:=by
  intro f
  induction f with
  | zero=>intro n h1 h2;have:=iM n T h2;lia
  | succ f ih =>
   intro n h1 h2
   by_cases h:(n:Int)∈T
   ·refine ih (n+1) (by lia) fun j hj=>?_
    by_cases e:j=n
    ·rw [e];exact h
    ·exact h2 j (by lia)
   ·exact ⟨n,h,h2⟩
 exact go (T.length+1) 0 (by lia) fun j hj=>by lia
theorem IsMex.uniq {T T':List Int} {n n':Nat} (h:IsMex T n) (h':IsMex T' n') (e:∀ x,x∈T↔x∈T'):n=n':=by
 rcases Nat.lt_trichotomy n n' with z | z | z
 ·exact absurd ((e _).mpr (h'.2 n z)) h.1
 ·exact z
 ·exact absurd ((e _).mp (h.2 n' z)) h'.1
def mex (T:List Int):Nat:=Classical.choose (pW T)
theorem eY (T:List Int):IsMex T (mex T):=Classical.choose_spec (pW T)
theorem wI {T:List Int} {n:Nat} (h:IsMex T n):n=mex T:=h.uniq (eY T) fun _=>Iff.rfl
theorem nu {T T':List Int} (e:∀ x,x∈T↔x∈T'):mex T=mex T':=(eY T).uniq (eY T') e
def gv2 (p:List (Int×Int)×List Int) (k:Int):List (Int×Int)×List Int:=(pt p.1 k (mex p.2),p.2++[(mex p.2:Int)])
def give (m:List (Int×Int)) (ks T:List Int):List (Int×Int):=(ks.foldl gv2 (m,T)).1
theorem kw (ks:List Int):∀ {m:List (Int×Int)} {T T':List Int},(∀ x,x∈T↔x∈T')→give m ks T=give m ks T':=by
 unfold give
 induction ks with
 | nil=>intro m T T' _;rfl
 | cons k ks ih =>
  intro m T T' e
  rw [xBy,xBy]
  unfold gv2
  rw [nu e]
  refine ih fun x=>?_
  rw [xAj,xAj,e]
theorem qC (ks:List Int):∀ {p:List (Int×Int)×List Int} {j:Int},j∈ky (ks.foldl gv2 p).1↔j∈ky p.1∨j∈ks:=by
 induction ks with
 | nil=>intro p j;simp
 | cons k ks ih =>
  intro p j
  rw [xBy,ih,xAv,← or_assoc]
  exact or_congr dB Iff.rfl
theorem ux (ks:List Int):∀ {p:List (Int×Int)×List Int},(ky p.1).Nodup→(ky (ks.foldl gv2 p).1).Nodup:=by
 induction ks with
 | nil=>intro p h;exact h
 | cons k ks ih=>intro p h;rw [xBy];exact ih (jo h)
theorem wY (ks:List Int):∀ {p:List (Int×Int)×List Int},(ks.foldl gv2 p).2.length=p.2.length+ks.length:=by
 induction ks with
 | nil=>intro p;rfl
 | cons k ks ih=>intro p;rw [xBy,ih];simp [gv2];lia
def ndd (r:Row) (x:List Int×Bdy):List Int:=ris fun k=>k∈r.there∧(Men x.2 k∨r.later k)
def rowIn (r:Row) (m:List (Int×Int)) (x:List Int×Bdy):List (Int×Int):=give m x.1 ((ndd r x).map (look m))
def rowTo (r:Row) (m:List (Int×Int)):List (Int×Int):=pt m r.step.to (mex (r.behind.map (look m)))
def rowStep (m:List (Int×Int)) (r:Row):List (Int×Int):=r.step.inn.foldl (rowIn r) (rowTo r m)
def ini (l:List Int):List (Int×Int):=l.foldl (fun m k=>pt m k m.length) []
def gvr (r:Row):List Int:=r.step.to::r.step.inn.flatMap (·.1)
theorem tN (l:List Int):∀ {m:List (Int×Int)} {j:Int},j∈ky (l.foldl (fun m k=>pt m k m.length) m)↔j∈ky m∨j∈l:=by
 induction l with
 | nil=>intro m j;simp
 | cons k ks ih =>
  intro m j
  rw [xBy,ih,xAv,← or_assoc]
  exact or_congr dB Iff.rfl
theorem fc {l:List Int} {j:Int}:j∈ky (ini l)↔j∈l:=by
 unfold ini
 rw [tN]
 exact ⟨fun z=>z.elim (fun y=>by cases y) id,.inr⟩
theorem tM (l:List Int):∀ {m:List (Int×Int)},(ky m).Nodup→(ky (l.foldl (fun m k=>pt m k m.length) m)).Nodup:=by
 induction l with
 | nil=>intro m h;exact h
 | cons k ks ih=>intro m h;rw [xBy];exact ih (jo h)
theorem kr {r:Row} (xs:List (List Int×Bdy)):∀ {m:List (Int×Int)} {j:Int},j∈ky (xs.foldl (rowIn r) m)↔j∈ky m∨j∈xs.flatMap (·.1):=by
 induction xs with
 | nil=>intro m j;simp
 | cons x xs ih =>
  intro m j
  rw [xBy,ih,xBh,xAj,← or_assoc]
  exact or_congr (qC x.1) Iff.rfl
theorem qw {r:Row} (xs:List (List Int×Bdy)):∀ {m:List (Int×Int)},(ky m).Nodup→(ky (xs.foldl (rowIn r) m)).Nodup:=by
 induction xs with
 | nil=>intro m h;exact h
 | cons x xs ih=>intro m h;rw [xBy];exact ih (ux x.1 h)
theorem du {r:Row} {m:List (Int×Int)} {j:Int}:j∈ky (rowStep m r)↔j∈ky m∨j∈gvr r:=by
 unfold rowStep rowTo gvr
 rw [kr,dB,xAv,or_assoc]
theorem eC (L:List Row):∀ {m:List (Int×Int)} {j:Int},j∈ky (L.foldl rowStep m)↔j∈ky m∨∃ r∈L,j∈gvr r:=by
 induction L with
 | nil=>intro m j;simp
 | cons r L ih =>
  intro m j
  rw [xBy,ih,du,or_assoc]
  refine or_congr Iff.rfl ⟨?_,?_⟩
  ·rintro (z | ⟨r',h1,h2⟩)
   ·exact ⟨r,xAr ..,z⟩
   ·exact ⟨r',xAs _ h1,h2⟩
  ·rintro ⟨r',h1,h2⟩
   rcases xAv.mp h1 with rfl | h1
   ·exact .inl h2
   ·exact .inr ⟨r',h1,h2⟩
theorem rq (L:List Row):∀ {m:List (Int×Int)},(ky m).Nodup→(ky (L.foldl rowStep m)).Nodup:=by
 induction L with
 | nil=>intro m h;exact h
 | cons r L ih=>intro m h;rw [xBy];exact ih (qw _ (jo h))
def Cov:(Int→Prop)→List Row→Prop
 | _,[]=>True
 | G,r::L=>(∀ k∈r.there,G k)∧Cov (fun k=>G k∨k∈gvr r) L
theorem Cov.mono:∀ {L:List Row} {G G':Int→Prop},Cov G L→(∀ k,G k→G' k)→Cov G' L
 | [],_,_,_,_=>True.intro
 | r::L,_,_,h,e=>⟨fun k hk=>e k (h.1 k hk),h.2.mono fun k=>Or.imp (e k) id⟩
theorem Cov.app:∀ {L M:List Row} {G:Int→Prop},Cov G L→Cov (fun k=>G k∨∃ r∈L,k∈gvr r) M→Cov G (L++M)
 | [],_,_,_,h=>h.mono fun k z=>z.elim id fun ⟨r,hr,_⟩=>by cases hr
 | r::L,M,G,h,g=>⟨h.1,h.2.app (g.mono fun k z=>z.elim (fun y=>.inl (.inl y)) fun ⟨r',h1,h2⟩=>by
   rcases xAv.mp h1 with rfl | h1
   ·exact .inl (.inr h2)
   ·exact .inr ⟨r',h1,h2⟩)⟩
theorem Cov.flat {α:Type} {f:α→List Row} {G:Int→Prop}:∀ {l:List α},(∀ y∈l,Cov G (f y))→Cov G (l.flatMap f)
 | [],_=>True.intro
 | y::l,h=>by
  rw [xBh]
  exact (h y (xAr ..)).app ((Cov.flat fun z hz=>h z (xAs _ hz)).mono fun k=>.inl)
theorem Cov.at:∀ {L:List Row} {G:Int→Prop} {i:Nat} {r:Row},Cov G L→L[i]?=some r→∀ k∈r.there,G k∨∃ r'∈L.take i,k∈gvr r'
 | [],_,_,_,_,h=>by simp at h
 | r0::L,G,0,r,h,e=>fun k hk=>by
  cases e
  exact .inl (h.1 k hk)
 | r0::L,G,i+1,r,h,e=>fun k hk=>by
  rcases h.2.at (i:=i) e k hk with (z | z) | ⟨r',h1,h2⟩
  ·exact .inl z
  ·exact .inr ⟨r0,by rw [List.take_succ_cons];exact xAr ..,z⟩
  ·exact .inr ⟨r',by rw [List.take_succ_cons];exact xAs _ h1,h2⟩
theorem iu:∀ (N:Nat) {path:List Int} {b:Bdy} {ts:List Int} {bh:Int→Prop} {G:Int→Prop},(∀ k∈ts,G k)→Cov G (stn N path b ts bh)
 | 0,_,_,_,_,_,_=>by unfold stn;exact True.intro
 | N+1,path,b,ts,bh,G,hG=>by
  rw [aW]
  have go:∀ (zs:List (Stp×Nat)) (i:Nat) (G:Int→Prop),b.steps.zipIdx.drop i=zs→(∀ k∈thr ts b i,G k)→Cov G (zs.flatMap (stnS N path b ts bh)):=by
   intro zs
   induction zs with
   | nil=>intro _ _ _ _;exact True.intro
   | cons z zs ih =>
    intro i G e hG
    have e1:b.steps.zipIdx[i]?=some z:=by
     have:=congrArg List.head? e
     rw [List.head?_drop,List.head?_cons] at this
     exact this
    have e2:b.steps.zipIdx.drop (i+1)=zs:=by
     rw [← List.drop_drop,e]
     rfl
    rw [List.getElem?_zipIdx] at e1
    obtain ⟨s,hs,e3⟩:=xA3.mp e1
    rw [Nat.zero_add] at e3
    subst e3
    have hrow:stnS N path b ts bh (s,i)=⟨path++[(i:Int)],s,thr ts b i,ltr b bh i⟩::(stnS N path b ts bh (s,i)).tail:=rfl
    rw [xBh]
    refine Cov.app ?_ (ih (i+1) _ e2 fun k hk=>?_)
    ·refine ⟨hG,Cov.flat fun y hy=>iu N fun k hk=>?_⟩
     rcases xAj.mp hk with hk | hk
     ·exact .inl (hG k hk)
     ·refine .inr (xAs _ (xA4.mpr ⟨y.1,?_,hk⟩))
      exact xAc (bL hy)
    ·rw [show thr ts b (i+1)=thr ts b i++[s.to] by
      unfold thr
      rw [List.take_add_one,hs,xAi,xAx]
      rfl] at hk
     rcases xAj.mp hk with hk | hk
     ·exact .inl (hG k hk)
     ·rw [xAm.mp hk]
      exact .inr ⟨_,by rw [hrow];exact xAr ..,xAr ..⟩
  exact go _ 0 G rfl fun k hk=>hG k (by simpa [thr] using hk)
end L2
namespace L2
open PySem PySem.Spec PyProof.Rows SetA
def Itk (d:Addr) (o:Obj) (kvs:List (Key×V)):It :=
 ⟨fun i H=>i<kvs.length∧H d=some (.frz o (.dK kvs)),fun i H x H'=>H'=H∧(kvs.map fun p=>kV p.1)[i]?=some x,fun i H=>i=kvs.length∧H d=some (.frz o (.dK kvs))⟩
theorem rz {k:Key} {v:Value} (h:keyIs k v=true):RelV (kV k) v:=by
 rcases aQ h with ⟨i,t,rfl,rfl⟩ | ⟨x,t,rfl,rfl⟩
 ·exact ⟨t,rfl⟩
 ·exact ⟨t,rfl⟩
theorem mL {P:Program} {w:World} {K:xFr} {tg:Expr} (d it:Addr) (o:Obj) (kvs:List (Key×V)) (es:Array DictEntry) (ep:Nat) (ho:o.data = .dict es ep):Turn P w K tg (Itk d o kvs) [it] it (fun i h=>h.IsKeyIter it d i kvs.length ep) where
 mem:=by simp
 obj:=fun i h st b hb=>by
  have e:b=it:=by simpa using hb
  subst e
  obtain ⟨o2,e2,_,d2⟩:=st
  exact ⟨o2,e2,fun v z=>by rw [d2] at z;cases z⟩
 keep:=fun i h h' st k=>st.at fun o e=>k it (by simp) o e
 item:=by
  intro X hP hw hK hc i pins s σ H E I hf st hg
  subst hP hw hK
  obtain ⟨hin,hd⟩:=hg
  obtain ⟨vs,rel,hat⟩:=qF I.hok hd ho
  have hl:=rel.length
  have hk:(vs.map (·.1))[i]?=some (kvs[i]'hin).1:=by rw [← rel.keys,xAw,xAk hin];rfl
  rw [xAw] at hk
  obtain ⟨⟨k,v⟩,hkv,e⟩:=xA3.mp hk
  have e:k=(kvs[i]'hin).1:=e
  obtain ⟨f0,f1,f2,f3,f4,f5⟩:=hf it (by simp)
  rw [hl] at st
  refine wpAny_pyNext_dict_item st hat hkv fun key h' hkey st' sb=>?_
  have I1:Inv X pins σ H { s with heap:=h' }:=I.turned (t':=s.toks) (fun b o hb e=>(sb.2 b hb).trans e) f0 f1 f3 f4 f5
  obtain ⟨o2,e2,c2,d2⟩:=id st'
  refine ⟨key,rfl,jB (s:={ s with heap:=h' }) (n:="dict_keyiterator") e2 c2 d2 (by decide) ⟨kV k,H,I1,rz hkey,⟨rfl,?_⟩,?_,fun b hb=>(hf b hb).1⟩⟩
  ·rw [xAw,xAk hin,e]
   rfl
  ·rw [hl]
   exact st'
 done:=by
  intro X hP hw hK hc i pins s σ H E I hf st hg
  subst hP hw hK
  obtain ⟨rfl,hd⟩:=hg
  obtain ⟨vs,rel,hat⟩:=qF I.hok hd ho
  have hl:=rel.length
  obtain ⟨f0,f1,f2,f3,f4,f5⟩:=hf it (by simp)
  rw [hl] at st
  exact wpAny_pyNext_dict_end (I.ok.hd hc) st hat (xA9 (xAg _)) fun h' eb=>⟨rfl,I.turned (t':=s.toks) (fun b o hb e=>eb b o hb e) f0 f1 f3 f4 f5⟩
 self:=fun _ _ _ _ _ st h=>wpAny_pyIter_keyiter st h
def nIterK (x:V) (H:Hp) (R:It→Hp→Prop):Prop:=∃ d kvs,x = .ref d∧H d=some (.dK kvs)∧∀ o,R (Itk d o kvs) (upd H d (.frz o (.dK kvs)))
def iKeys (te:TE):TI:=fun σ H R=>te σ H fun x H1=>nIterK x H1 R
def nIterS (K:xFr) (x:V) (H:Hp) (R:It→Hp→Prop):Prop:=nIterL K x H R∨nIterT K x H R
def iSeq (K:xFr) (te:TE):TI:=fun σ H R=>te σ H fun x H1=>nIterS K x H1 R
def cDictC:List V→Hp→VK→Prop:=fun xs H Q=>∃ d kvs,xs=[.ref d]∧Rd H d (.dK kvs)∧∀ p,H p=none→Q (.ref p) (upd H p (.dK kvs))
def cLenS (w:World):List V→Hp→VK→Prop:=fun xs H Q=>∃ p ks,xs=[V.ref p]∧Sis w H p ks∧ks.length≤100000∧Q (.int ks.length) H
section
variable {X:Cx} {e tg o:Expr} {te td:TE} {apos cpos:Pos}
theorem sj (he:PE X e te):PI X tg e (iKeys te):=by
 intro pins s σ H R I h
 refine thn (he pins s σ H _ I h) fun u s1 ⟨x,H1,I1,r1,q1⟩=>?_
 obtain ⟨d,kvs,rfl,hd,q⟩:=q1
 obtain rfl:u=Value.ref d:=r1
 obtain ⟨z,hs,vs,rel,dd⟩:=jG I1.hok hd
 obtain ⟨o,es,ep,ho,hx,hdat,hr⟩:=id dd
 have hl:=rel.length
 have hat:s1.heap.DictAt (mixKind X.prog X.w) d vs ep:=⟨o,es,ho,hx,hdat,hr⟩
 refine wpAny_pyIter_dict hs hat ?_
 have I2:Inv X pins σ (upd H1 d (.frz o (.dK kvs))) { s1 with heap:=s1.heap,toks:=s1.toks } :=
  I1.write (x:=d) (e:=d) (o:=.frz o (.dK kvs)) (t':=s1.toks) (by rw [hd];exact True.intro) (.inl rfl) (fun b u _ e=>e) ⟨o,ho⟩ ⟨ho,z,hs,vs,rel,dd⟩
 have I3:Inv X pins σ (upd H1 d (.frz o (.dK kvs))) s1:=I2
 have hfr:upd H1 d (.frz o (.dK kvs)) s1.heap.objs.size=none:=I3.hok.fresh (xAg _)
 refine ⟨s1.heap.objs.size,[s1.heap.objs.size],_,_,_,rfl,I3.kept (t':=s1.toks) fun b o e=>xAf _ e,mL d _ o kvs es ep hdat,⟨_,xAl _ rfl,rfl,by rw [hl];rfl⟩,fun b hb=>?_,q o⟩
 have e:b=s1.heap.objs.size:=by simpa using hb
 subst e
 exact I3.fpOk (xAg _) hfr
theorem kZ (h:QE X e te):QI X tg e (iKeys te):=⟨sj h.h⟩
theorem rP (h:QE X e te):QI X tg e (iSeq K0 te):=⟨by
 intro pins s σ H R I hh
 refine thn (h.h pins s σ H _ I hh) fun v s1 ⟨x,H1,I1,r1,q1⟩=>?_
 rcases q1 with ⟨a,e,⟨xs,hq⟩,q⟩ | ⟨a,e,⟨xs,hq⟩,q⟩
 ·subst e
  cases r1
  obtain ⟨its,rv,p,hz⟩:=I1.list (hq.up (K:=X.K))
  refine wpAny_pyIter_list p.isList ?_
  refine ⟨s1.heap.objs.size,[s1.heap.objs.size],_,_,H1,rfl,I1.kept (t':=s1.toks) fun b o e=>xAf _ e,qt (gP a _),⟨_,xAl _ rfl,rfl,rfl⟩,fun b hb=>?_,q⟩
  have e:b=s1.heap.objs.size:=by simpa using hb
  subst e
  exact I1.fpOk (xAg _) (I1.hok.fresh (xAg _))
 ·subst e
  cases r1
  obtain ⟨its,rv,p,hz⟩:=I1.tuple (hq.up (K:=X.K))
  refine wpAny_pyIter_tuple (show s1.heap.IsTuple a its.toArray from p) ?_
  refine ⟨s1.heap.objs.size,[s1.heap.objs.size],_,_,H1,rfl,I1.kept (t':=s1.toks) fun b o e=>xAf _ e,qq (f8 a _),⟨_,xAl _ rfl,rfl,rfl⟩,fun b hb=>?_,q⟩
  have e:b=s1.heap.objs.size:=by simpa using hb
  subst e
  exact I1.fpOk (xAg _) (I1.hok.fresh (xAg _))⟩
theorem jL:CallR X (.type "dict") cDictC:=by
 intro pins s σ H xs us Q I r h
 obtain ⟨d,kvs,rfl,hd,q⟩:=h
 obtain ⟨u,rfl,ru⟩:=vals1 r
 obtain rfl:u=Value.ref d:=ru
 exact qP I hd fun p s' hp I'=>⟨.ref p,_,I',rfl,q p hp⟩
theorem tY:CallR X (.builtin "len") (cLenS X.w):=by
 intro pins s σ H xs us Q I r h
 obtain ⟨p,ks,rfl,hS,hl,q⟩:=h
 obtain ⟨u,rfl,ru⟩:=vals1 r
 obtain rfl:u=Value.ref p:=ru
 obtain ⟨es,ep,t,S⟩:=eU I.hok hS
 have hz:=S.size
 have hb:=S.tb.fits
 refine call_len_set S.ob ⟨rfl,rfl,rfl⟩ rfl hb (by rw [hz];have:=hl;lia) ?_
 rw [hz]
 exact ⟨.int ks.length,H,I.tok _,⟨_,rfl⟩,q⟩
def tGet1 (td te:TE):TE:=fun σ H Q=>td σ H fun x H1=>∃ a,x = .ref a∧IsD H1 a∧te σ H1 fun y H2=>∃ o,DGet H2 a y o∧Q (o.getD .non) H2
theorem rR (hu:X.A.units+1<cLine) (ho:QE X o td) (he:QE X e te) (h1:noCall o=true:=by rfl) (h2:noStar e=true:=by rfl) (hline:(apos.endLine == cpos.line)=true:=by rfl) :
  QE X (.Call (.Attribute o "get" apos) [e] [] cpos) (tGet1 td te) :=
 ⟨pf hu ho.h he.h ⟨iL h1,by rw [aN h2];rfl,hline,by rw [aN h2];rfl⟩⟩
end
section
variable {K:xFr} {td te:TE} {σ:St} {H:Hp} {Q:VK} {R:It→Hp→Prop} {v d p a b:Addr} {kvs:List (Key×V)} {xs:List V} {w:World}
theorem yz (h:te σ H fun x H1=>nIterK x H1 R):iKeys te σ H R:=h
theorem yv (h:te σ H fun x H1=>nIterS K x H1 R):iSeq K te σ H R:=h
theorem kT (e2:H d=some (.dK kvs)) (h:∀ o,R (Itk d o kvs) (upd H d (.frz o (.dK kvs)))):nIterK (.ref d) H R:=⟨d,kvs,rfl,e2,h⟩
theorem oK (e:H a=some (.lst xs)) (h:R (Itl K a) H):nIterS K (.ref a) H R:=.inl ⟨a,rfl,⟨xs,.of e⟩,h⟩
theorem oJ (e:H a=some (.tup xs)) (h:R (Itt K a) H):nIterS K (.ref a) H R:=.inr ⟨a,rfl,⟨xs,.of e⟩,h⟩
theorem wk_keys {o:Obj}:Wk (Itk d o kvs) (fun H=>H d=some (.frz o (.dK kvs))) kvs.length (fun i H x H'=>H'=H∧(kvs.map fun p=>kV p.1)[i]?=some x) :=
 ⟨fun i H p h=>⟨h,p⟩,fun i H x H' p h y=>y,fun H p=>⟨rfl,p⟩⟩
theorem kU (e:Rd H d (.dK kvs)) (h:∀ p H2,Same H H2→H p=none→H2 p=some (.dK kvs)→Q (.ref p) H2):cDictC [.ref d] H Q:=⟨d,kvs,rfl,e,fun p hp=>h p _ (aw hp _) hp ah⟩
theorem vg {ks:List Int} (e:Sis w H p ks) (l:ks.length≤100000) (h:Q (.int ks.length) H):cLenS w [.ref p] H Q:=⟨p,ks,rfl,e,l,h⟩
def nGet1 (te:TE) (x:V) (σ:St) (H:Hp) (Q:VK):Prop:=∃ a,x = .ref a∧IsD H a∧te σ H fun y H2=>∃ o,DGet H2 a y o∧Q (o.getD .non) H2
theorem vt (h:td σ H fun x H1=>nGet1 te x σ H1 Q):tGet1 td te σ H Q:=h
def nGot (a:Addr) (y:V) (H:Hp) (Q:VK):Prop:=∃ o,DGet H a y o∧Q (o.getD .non) H
theorem vp (e:Rd H a (.dK kvs)) (h:te σ H fun y H2=>nGot a y H2 Q):nGet1 te (.ref a) σ H Q:=⟨a,rfl,.inl ⟨kvs,e⟩,h⟩
theorem vl {k:Int} {v:V} (e:Rd H a (.dK kvs)) (hv:valV kvs (.inl k)=some v) (h:Q v H):nGot a (.int k) H Q:=⟨some v,.inl ⟨kvs,.inl k,e,rfl,hv.symm⟩,h⟩
theorem iD {k:Int} {v:V} (e:Rd H a (.dK kvs)) (hv:valV kvs (.inl k)=some v) (h:Q v H):nDGet (.ref a) (.int k) H Q:=⟨a,v,rfl,.inl ⟨kvs,.inl k,e,rfl,hv.symm⟩,h⟩
end
end L2
namespace L2
open PySem
section
variable {m:List (Int×Int)} {k j v:Int}
theorem wJ {m':List (Int×Int)}:lk (m++m') k=(lk m k).or (lk m' k):=by
 unfold lk
 rw [List.find?_append]
 cases m.find? fun p=>decide (p.1=k) <;> rfl
theorem dC (h:lk m k=some v):(k,v)∈m:=by
 unfold lk at h
 obtain ⟨p,hp,rfl⟩:=xA3.mp h
 have:=List.find?_some hp
 have e:p.1=k:=xBe this
 rw [← e]
 exact List.mem_of_find?_eq_some hp
theorem qa (nd:(ky m).Nodup) (h:(k,v)∈m):lk m k=some v:=by
 have hk:k∈ky m:=xA2.mpr ⟨_,h,rfl⟩
 have h2:=dC (bX hk)
 have:look m k=v:=by
  clear hk
  induction m with
  | nil=>cases h
  | cons p m ih =>
   unfold ky at nd
   rw [xBs,xCb] at nd
   rcases xAv.mp h with e | h
   ·subst e
    simp [look,lk,xB4]
   ·have hne:p.1≠k:=fun z=>nd.1 (by rw [z];exact xA2.mpr ⟨_,h,rfl⟩)
    have e:lk (p::m) k=lk m k:=by simp [lk,xB4,hne]
    have e2:look (p::m) k=look m k:=by unfold look;rw [e]
    rw [e2] at h2 ⊢
    refine ih nd.2 h (dC ?_)
    exact bX (xA2.mpr ⟨_,h,rfl⟩)
 rw [bX hk,this]
theorem tu (h:k ∉ ky m):lk m k=none:=by
 cases e:lk m k with
 | none=>rfl
 | some x=>exact absurd (xA2.mpr ⟨_,dC e,rfl⟩) h
theorem eK (h:j≠k):lk (pt m k v) j=lk m j:=by
 unfold pt
 by_cases hb:(m.any fun p=>decide (p.1=k))=true
 ·rw [xCg hb]
  clear hb
  unfold lk
  induction m with
  | nil=>rfl
  | cons p m ih =>
   by_cases hp:p.1=k
   ·have:p.1≠j:=fun z=>h (by rw [← z,hp])
    simp only [xBs,hp,if_true,xB4,decide_eq_false (fun z:k=j=>h z.symm)]
    exact ih
   ·by_cases hj:p.1=j
    ·simp [hp,hj,h]
    ·simp only [xBs,xCf hp,xB4,decide_eq_false hj]
     exact ih
 ·rw [xCf hb,wJ]
  have:lk [(k,v)] j=none:=by simp [lk,Ne.symm h]
  rw [this]
  cases lk m j <;> rfl
theorem oZ (h:k ∉ ky m):pt m k v=m++[(k,v)]:=by
 unfold pt
 rw [xCf fun z=>h (kK.mp z)]
theorem cL {m':List (Int×Int)} (h:lk m' k=lk m k):look m' k=look m k:=by unfold look;rw [h]
theorem lR:look (pt m k v) k=v:=by unfold look;rw [lS];rfl
theorem qe (h:k∈ky m):look m k∈m.map (·.2):=xA2.mpr ⟨_,dC (bX h),rfl⟩
end
theorem lO {f:Int→Int}:∀ {l:List Int},(l.map f).Nodup→∀ a∈l,∀ b∈l,f a=f b→a=b
 | [],_,_,h,_,_,_=>by cases h
 | x::l,nd,a,ha,b,hb,e=>by
  rw [xBs,xCb] at nd
  rcases xAv.mp ha with h1 | h1
  ·rcases xAv.mp hb with h2 | h2
   ·rw [h1,h2]
   ·exact absurd (by rw [← h1,e];exact List.mem_map_of_mem h2) nd.1
  ·rcases xAv.mp hb with h2 | h2
   ·exact absurd (by rw [← h2,← e];exact List.mem_map_of_mem h1) nd.1
   ·exact lO nd.2 a h1 b h2 e
theorem fW {f:Int→Int}:∀ {l:List Int},l.Nodup→(∀ a∈l,∀ b∈l,f a=f b→a=b)→(l.map f).Nodup
 | [],_,_=>by simp
 | x::l,nd,h=>by
  rw [xCb] at nd
  rw [xBs,xCb]
  refine ⟨fun z=>?_,fW nd.2 fun a ha b hb=>h a (xAs _ ha) b (xAs _ hb)⟩
  obtain ⟨y,hy,e⟩:=xA2.mp z
  rw [h y (xAs _ hy) x (xAr ..) e] at hy
  exact nd.1 hy
theorem iq:∀ {l m:List Int},l.Nodup→(∀ k∈l,k∈m)→l.length≤m.length
 | [],_,_,_=>xBn _
 | x::l,m,nd,h=>by
  rw [xCb] at nd
  have hx:=h x (xAr ..)
  have:=iq (m:=m.erase x) nd.2 fun k hk=>(List.mem_erase_of_ne fun z=>nd.1 (by rw [← z];exact hk)).mpr (h k (xAs _ hk))
  have e:=List.length_erase_of_mem hx
  have:=List.length_pos_of_mem hx
  rw [xAo]
  lia
theorem oy {l m:List Int} (h1:l.Nodup) (h2:m.Nodup) (e:∀ k,k∈l↔k∈m):l.length=m.length:=Nat.le_antisymm (iq h1 fun k hk=>(e k).mp hk) (iq h2 fun k hk=>(e k).mpr hk)
theorem jA (ks:List Int):∀ {p:List (Int×Int)×List Int} {j:Int},j ∉ ks→lk (ks.foldl gv2 p).1 j=lk p.1 j:=by
 induction ks with
 | nil=>intro p j _;rfl
 | cons k ks ih =>
  intro p j h
  rw [xAv,not_or] at h
  rw [xBy,ih h.2]
  exact eK h.1
theorem wX (ks:List Int):∀ {m:List (Int×Int)} {T:List Int},ks.Nodup→(∀ n∈ks,∀ t∈T,look (ks.foldl gv2 (m,T)).1 n≠t)∧(ks.map (look (ks.foldl gv2 (m,T)).1)).Nodup:=by
 induction ks with
 | nil=>intro m T _;exact ⟨fun n hn=>(by cases hn),by simp⟩
 | cons k ks ih =>
  intro m T nd
  rw [xCb] at nd
  obtain ⟨i1,i2⟩:=ih (m:=pt m k (mex T)) (T:=T++[(mex T:Int)]) nd.2
  rw [xBy,show gv2 (m,T) k=(pt m k (mex T),T++[(mex T:Int)]) from rfl]
  have ek:look (ks.foldl gv2 (pt m k (mex T),T++[(mex T:Int)])).1 k=mex T:=by rw [cL (jA ks nd.1)];exact lR
  refine ⟨fun n hn t ht=>?_,?_⟩
  ·rcases xAv.mp hn with rfl | hn
   ·rw [ek]
    exact fun z=>(eY T).1 (by rw [z];exact ht)
   ·exact i1 n hn t (xBw _ ht)
  ·rw [xBs,xCb,ek]
   refine ⟨fun z=>?_,i2⟩
   obtain ⟨n,hn,e⟩:=xA2.mp z
   exact i1 n hn _ (xBt _ (xAm.mpr rfl)) e
def vb (m:List (Int×Int)):Prop:=∀ p∈m,0≤p.2∧p.2≤500
theorem ud {m:List (Int×Int)} {k v:Int} (h:vb m) (b:0≤v∧v≤500):vb (pt m k v):=fun p hp=>by
 unfold pt at hp
 split at hp
 ·obtain ⟨q,hq,rfl⟩:=xA2.mp hp
  by_cases e:q.1=k
  ·rw [xCg e];exact b
  ·rw [xCf e];exact h q hq
 ·rcases xAj.mp hp with hp | hp
  ·exact h p hp
  ·rw [xAm.mp hp];exact b
theorem lH (T:List Int):mex T≤T.length:=iM _ T (eY T).2
theorem xh (ks:List Int):∀ {p:List (Int×Int)×List Int},vb p.1→p.2.length+ks.length≤500→vb (ks.foldl gv2 p).1:=by
 induction ks with
 | nil=>intro p h _;exact h
 | cons k ks ih =>
  intro p h l
  rw [xAo] at l
  rw [xBy]
  have:=lH p.2
  refine ih (ud h ⟨by lia,by lia⟩) ?_
  simp only [gv2,xAb,xAt]
  lia
theorem cQ {m:List (Int×Int)} (h:vb m) (k:Int):0≤look m k∧look m k≤500:=by
 by_cases hk:k∈ky m
 ·exact h _ (dC (bX hk))
 ·unfold look
  rw [tu hk]
  decide
structure RowOk (f:Int→Int) (r:Row):Prop where
 to:∀ k∈r.there,r.later k→f r.step.to≠f k
 inn:∀ x∈r.step.inn,(∀ n∈x.1,∀ k∈r.there,(Men x.2 k∨r.later k)→f n≠f k)∧(x.1.map f).Nodup
structure RowBd (r:Row):Prop where
 th:∀ k∈r.there,0≤k∧k<211
 ln:∀ x∈r.step.inn,x.1.length≤4
theorem RowBd.beh {r:Row} (h:RowBd r) {k:Int} (h1:k∈r.there) (h2:r.later k):k∈r.behind:=(cG fun j hj=>h.th j hj.1).mpr ⟨h1,h2⟩
theorem RowBd.ndd {r:Row} (h:RowBd r) {x:List Int×Bdy} {k:Int} (h1:k∈r.there) (h2:Men x.2 k∨r.later k):k∈ndd r x:=(cG fun j hj=>h.th j hj.1).mpr ⟨h1,h2⟩
theorem wV {r:Row} (xs:List (List Int×Bdy)):∀ {m:List (Int×Int)},(xs.flatMap (·.1)).Nodup→(∀ k∈xs.flatMap (·.1),k ∉ ky m)→(∀ x∈xs,∀ k∈ndd r x,k∈ky m) →
  (∀ k∈ky m,lk (xs.foldl (rowIn r) m) k=lk m k)∧∀ x∈xs,(∀ n∈x.1,∀ k∈ndd r x,look (xs.foldl (rowIn r) m) n≠look (xs.foldl (rowIn r) m) k)∧(x.1.map (look (xs.foldl (rowIn r) m))).Nodup:=by
 induction xs with
 | nil=>intro m _ _ _;exact ⟨fun k _=>rfl,fun x hx=>by cases hx⟩
 | cons x xs ih =>
  intro m nd fr th
  rw [xBh] at nd fr
  obtain ⟨n1,n2,n3⟩:=xBq.mp nd
  have kk:∀ j,j∈ky (rowIn r m x)↔j∈ky m∨j∈x.1:=fun j=>qC x.1
  have keep:∀ k∈ky m,lk (rowIn r m x) k=lk m k:=fun k hk=>jA x.1 fun z=>fr k (xBw _ z) hk
  obtain ⟨g1,g2⟩:=wX x.1 (m:=m) (T:=(ndd r x).map (look m)) n1
  obtain ⟨i1,i2⟩:=ih (m:=rowIn r m x) n2 (fun k hk z=>((kk k).mp z).elim (fr k (xBt _ hk)) fun y=>n3 k y k hk rfl) fun y hy k hk=>(kk k).mpr (.inl (th y (xAs _ hy) k hk))
  rw [xBy]
  refine ⟨fun k hk=>(i1 k ((kk k).mpr (.inl hk))).trans (keep k hk),fun y hy=>?_⟩
  rcases xAv.mp hy with rfl | hy
  ·have e1:∀ n∈y.1,look (xs.foldl (rowIn r) (rowIn r m y)) n=look (rowIn r m y) n:=fun n hn=>cL (i1 n ((kk n).mpr (.inr hn)))
   refine ⟨fun n hn k hk=>?_,?_⟩
   ·rw [e1 n hn,cL ((i1 k ((kk k).mpr (.inl (th y (xAr ..) k hk)))).trans (keep k (th y (xAr ..) k hk)))]
    exact g1 n hn _ (List.mem_map_of_mem hk)
   ·rw [List.map_congr_left e1]
    exact g2
  ·exact i2 y hy
theorem uQ {r:Row} {m:List (Int×Int)} (bd:RowBd r) (nd:(gvr r).Nodup) (fr:∀ k∈gvr r,k ∉ ky m) (th:∀ k∈r.there,k∈ky m) :
  (∀ k∈ky m,lk (rowStep m r) k=lk m k)∧∀ f:Int→Int,(∀ k∈ky (rowStep m r),f k=look (rowStep m r) k)→RowOk f r:=by
 unfold gvr at nd fr
 rw [xCb] at nd
 have kk:∀ j,j∈ky (rowTo r m)↔j∈ky m∨j=r.step.to:=fun j=>dB
 have keep:∀ k∈ky m,lk (rowTo r m) k=lk m k:=fun k hk=>eK fun z=>fr k (by rw [z];exact xAr ..) hk
 obtain ⟨i1,i2⟩:=wV r.step.inn (r:=r) (m:=rowTo r m) nd.2 (fun k hk z=>((kk k).mp z).elim (fr k (xAs _ hk)) fun y=>nd.1 (by rw [← y];exact hk)) fun x hx k hk=>(kk k).mpr (.inl (th k (br hk).1.1))
 have eR:rowStep m r=r.step.inn.foldl (rowIn r) (rowTo r m):=rfl
 rw [← eR] at i1 i2
 refine ⟨fun k hk=>(i1 k ((kk k).mpr (.inl hk))).trans (keep k hk),fun f ef=>?_⟩
 have e0:∀ k∈ky m,f k=look m k:=fun k hk=>by rw [ef k (du.mpr (.inl hk)),cL ((i1 k ((kk k).mpr (.inl hk))).trans (keep k hk))]
 have eto:f r.step.to=mex (r.behind.map (look m)):=by
  rw [ef _ (du.mpr (.inr (xAr ..))),cL (i1 _ ((kk _).mpr (.inr rfl)))]
  exact lR
 refine ⟨fun k h1 h2=>?_,fun x hx=>?_⟩
 ·rw [eto,e0 k (th k h1)]
  intro z
  exact (eY (r.behind.map (look m))).1 (by rw [z];exact List.mem_map_of_mem (bd.beh h1 h2))
 ·obtain ⟨j1,j2⟩:=i2 x hx
  have en:∀ n∈x.1,f n=look (rowStep m r) n:=fun n hn=>ef n (du.mpr (.inr (xAs _ (xA4.mpr ⟨x,hx,hn⟩))))
  refine ⟨fun n hn k h1 h2=>?_,?_⟩
  ·rw [en n hn,ef k (du.mpr (.inl (th k h1)))]
   exact j1 n hn k (bd.ndd h1 h2)
  ·rw [List.map_congr_left en]
   exact j2
theorem rj (L:List Row):∀ {m:List (Int×Int)},(∀ r∈L,RowBd r)→(L.flatMap gvr).Nodup→(∀ k∈L.flatMap gvr,k ∉ ky m)→Cov (·∈ky m) L →
  (∀ k∈ky m,lk (L.foldl rowStep m) k=lk m k)∧∀ r∈L,RowOk (look (L.foldl rowStep m)) r:=by
 induction L with
 | nil=>intro m _ _ _ _;exact ⟨fun k _=>rfl,fun r hr=>by cases hr⟩
 | cons r L ih =>
  intro m bd nd fr cv
  rw [xBh] at nd fr
  obtain ⟨n1,n2,n3⟩:=xBq.mp nd
  obtain ⟨k1,k2⟩:=uQ (bd r (xAr ..)) n1 (fun k hk=>fr k (xBw _ hk)) cv.1
  obtain ⟨i1,i2⟩:=ih (m:=rowStep m r) (fun q hq=>bd q (xAs _ hq)) n2 (fun k hk z=>(du.mp z).elim (fr k (xBt _ hk)) fun y=>n3 k y k hk rfl) (cv.2.mono fun k hk=>du.mpr hk)
  rw [xBy]
  refine ⟨fun k hk=>(i1 k (du.mpr (.inl hk))).trans (k1 k hk),fun q hq=>?_⟩
  rcases xAv.mp hq with rfl | hq
  ·exact k2 _ fun k hk=>cL (i1 k hk)
  ·exact i2 q hq
theorem re (L:List Row):∀ {m:List (Int×Int)},(∀ r∈L,RowBd r)→vb m→vb (L.foldl rowStep m):=by
 induction L with
 | nil=>intro m _ h;exact h
 | cons r L ih =>
  intro m bd h
  rw [xBy]
  refine ih (fun q hq=>bd q (xAs _ hq)) ?_
  have hb:=bd r (xAr ..)
  have l1:r.behind.length≤211:=bZ
  have h1:vb (rowTo r m):=ud h ⟨by lia,by have:=lH (r.behind.map (look m));rw [xAa] at this;lia⟩
  have go:∀ (xs:List (List Int×Bdy)) (m:List (Int×Int)),(∀ x∈xs,x.1.length≤4)→vb m→vb (xs.foldl (rowIn r) m):=by
   intro xs
   induction xs with
   | nil=>intro m _ h;exact h
   | cons x xs ih =>
    intro m hl h
    have l2:(ndd r x).length≤211:=bZ
    have:=hl x (xAr ..)
    rw [xBy]
    exact ih _ (fun y hy=>hl y (xAs _ hy)) (xh x.1 h (by simp only [xAa];lia))
  exact go _ _ hb.ln h1
theorem fe {α:Type} (f g:α→List Int):∀ l:List α,(l.flatMap f++l.flatMap g).Perm (l.flatMap fun x=>f x++g x)
 | []=>by simp
 | x::l=>by
  rw [xBh,xBh,xBh,xAx,xAx]
  refine List.Perm.append_left _ ?_
  refine List.Perm.trans ?_ (List.Perm.append_left _ (fe f g l))
  rw [← xAx,← xAx]
  exact List.Perm.append_right _ List.perm_append_comm
theorem dZ {α:Type} {f g:α→List Int}:∀ {l:List α},(∀ x∈l,(f x).Perm (g x))→(l.flatMap f).Perm (l.flatMap g)
 | [],_=>by simp
 | x::l,h=>by
  rw [xBh,xBh]
  exact (h x (xAr ..)).append (dZ fun y hy=>h y (xAs _ hy))
theorem f7 {α:Type} (g:α→List Int):∀ (l:List α) (n:Nat),(l.zipIdx n).flatMap (fun z=>g z.1)=l.flatMap g
 | [],_=>rfl
 | x::l,n=>by rw [List.zipIdx_cons,xBh,xBh,f7 g l]
theorem ff {α β:Type} (f:α→List β) (g:β→List Int):∀ l:List α,(l.flatMap f).flatMap g=l.flatMap fun x=>(f x).flatMap g
 | []=>rfl
 | x::l=>by rw [xBh,List.flatMap_append,xBh,ff f g l]
theorem ou:∀ (N:Nat) {path:List Int} {b:Bdy} {ts:List Int} {bh:Int→Prop},b.cnt≤N→((stn N path b ts bh).flatMap gvr).Perm b.gl
 | 0,_,b,_,_,h=>by have:=b.cnt_pos;lia
 | N+1,path,b,ts,bh,h=>by
  rw [aW,ff,b.gl_eq,← f7 Stp.gl b.steps 0]
  refine dZ fun z hz=>?_
  have hs:=xAc (bL hz)
  rw [z.1.gl_eq]
  unfold stnS
  rw [xBh,ff]
  unfold gvr
  rw [List.cons_append]
  refine List.Perm.cons _ ?_
  refine List.Perm.trans (List.Perm.append_left _ ?_) (fe (fun x:List Int×Bdy=>x.1) (fun x=>x.2.gl) z.1.inn)
  rw [← f7 (fun x:List Int×Bdy=>x.2.gl) z.1.inn 0]
  refine dZ fun y hy=>?_
  have:=cX hs (xAc (bL hy))
  exact ou N (by lia)
def Inj (f:Int→Int) (P:Int→Prop):Prop:=∀ a b,P a→P b→f a=f b→a=b
theorem mB {s:Stp} {j:Nat} {k:Int} (h:Cgt s j k):MenS s k:=by
 cases s with
 | tri to one w x other pl=>exact .inr ⟨([x],other),by simp [Stp.inn],h.2⟩
 | _=>exact h.elim
theorem ua {s:Stp} {j:Nat} {k:Int} {x:List Int×Bdy} (h:Cgt s j k) (hx:s.inn[j]?=some x):x.1=[]:=by
 cases s with
 | tri to one w y other pl =>
  obtain ⟨rfl,_⟩:=h
  simp [Stp.inn] at hx
  rw [← hx]
 | _=>exact h.elim
theorem kN {f:Int→Int}:∀ (N:Nat) {path:List Int} {b:Bdy} {ts:List Int} {bh:Int→Prop},(∀ r∈stn N path b ts bh,RowOk f r)→Inj f (fun k=>k∈ts∧(Men b k∨bh k)) →
  ∀ r∈stn N path b ts bh,Inj f fun k=>k∈r.there∧(MenS r.step k∨r.later k)
 | 0,_,_,_,_,_,_,r,h=>by simp [stn] at h
 | N+1,path,b,ts,bh,ro,hi,r,hr=>by
  have live:∀ i,i≤b.steps.length→Inj f (fun k=>k∈thr ts b i∧(Men (Drp b i) k∨bh k)):=by
   intro i
   induction i with
   | zero=>intro _;rw [drp0];simpa [thr] using hi
   | succ i ih =>
    intro hl
    have hs:b.steps[i]?=some (b.steps[i]'(by lia)):=xAk _
    generalize b.steps[i]=s at hs
    have hrow:(⟨path++[(i:Int)],s,thr ts b i,ltr b bh i⟩:Row)∈stn (N+1) path b ts bh:=by
     rw [aW,xA4]
     exact ⟨(s,i),xAc (dS hs),xAr ..⟩
    have ok:=(ro _ hrow).to
    have e:thr ts b (i+1)=thr ts b i++[s.to]:=by
     unfold thr
     rw [List.take_add_one,hs,xAi,xAx]
     rfl
    have up:∀ k,Men (Drp b (i+1)) k∨bh k→Men (Drp b i) k∨bh k:=fun k=>Or.imp (fun z=>(b9 hs).mpr (.inr z)) id
    rintro x y ⟨hx,px⟩ ⟨hy,py⟩ ee
    rw [e] at hx hy
    rcases xAj.mp hx with hx | hx
    ·rcases xAj.mp hy with hy | hy
     ·exact ih (by lia) x y ⟨hx,up x px⟩ ⟨hy,up y py⟩ ee
     ·rw [xAm.mp hy] at ee
      exact absurd ee.symm (ok x hx px)
    ·rw [xAm.mp hx] at ee ⊢
     rcases xAj.mp hy with hy | hy
     ·exact absurd ee (ok y hy py)
     ·exact (xAm.mp hy).symm
  have hr0:=hr
  rw [aW,xA4] at hr
  obtain ⟨z,hz,hr⟩:=hr
  have hs:=bL hz
  have hi':=(xAq.mp hs).1
  have row:Inj f (fun k=>k∈thr ts b z.2∧(MenS z.1 k∨ltr b bh z.2 k)):=fun x y px py=>live z.2 (by lia) x y ⟨px.1,by
    rcases px.2 with w | w | w
    ·exact .inl ((b9 hs).mpr (.inl w))
    ·exact .inl ((b9 hs).mpr (.inr w))
    ·exact .inr w⟩ ⟨py.1,by
    rcases py.2 with w | w | w
    ·exact .inl ((b9 hs).mpr (.inl w))
    ·exact .inl ((b9 hs).mpr (.inr w))
    ·exact .inr w⟩
  have hrow:(⟨path++[(z.2:Int)],z.1,thr ts b z.2,ltr b bh z.2⟩:Row)∈stn (N+1) path b ts bh:=by
   rw [aW,xA4]
   exact ⟨z,hz,xAr ..⟩
  rcases xAv.mp hr with rfl | hr
  ·exact row
  ·obtain ⟨y,hy,hr⟩:=xA4.mp hr
   have hx:=bL hy
   have hxm:=xAc hx
   obtain ⟨o1,o2⟩:=(ro _ hrow).inn y.1 hxm
   refine kN N (fun q hq=>ro q ?_) ?_ r hr
   ·rw [aW,xA4]
    exact ⟨z,hz,xAs _ (xA4.mpr ⟨y,hy,hq⟩)⟩
   ·have toP:∀ k,k∈thr ts b z.2→(Men y.1.2 k∨ltr b bh z.2 k∨Cgt z.1 y.2 k)→k∈thr ts b z.2∧(MenS z.1 k∨ltr b bh z.2 k):=fun k h1 h2=>⟨h1,by
     rcases h2 with w | w | w
     ·exact .inl (.inr ⟨y.1,hxm,w⟩)
     ·exact .inr w
     ·exact .inl (mB w)⟩
    have ne:∀ n∈y.1.1,∀ k∈thr ts b z.2,(Men y.1.2 k∨ltr b bh z.2 k∨Cgt z.1 y.2 k)→f n≠f k:=fun n hn k h1 h2=>by
     rcases h2 with w | w | w
     ·exact o1 n hn k h1 (.inl w)
     ·exact o1 n hn k h1 (.inr w)
     ·rw [ua w hx] at hn;cases hn
    rintro u v ⟨hu,pu⟩ ⟨hv,pv⟩ ee
    rcases xAj.mp hu with hu | hu
    ·rcases xAj.mp hv with hv | hv
     ·exact row u v (toP u hu pu) (toP v hv pv) ee
     ·exact absurd ee.symm (ne v hv u hu pu)
    ·rcases xAj.mp hv with hv | hv
     ·exact absurd ee (ne u hu v hv pv)
     ·exact lO o2 u hu v hv ee
theorem gR {f:Int→Int}:∀ (N:Nat) {path:List Int} {b:Bdy} {ts:List Int} {bh:Int→Prop},b.cnt≤N→(∀ r∈stn N path b ts bh,RowOk f r)→∀ n∈b.gl,∀ k∈ts,bh k→f n≠f k
 | 0,_,b,_,_,h,_=>by have:=b.cnt_pos;lia
 | N+1,path,b,ts,bh,h,ro=>fun n hn k hk hb=>by
  rw [b.gl_eq,xA4] at hn
  obtain ⟨s,hsm,hn⟩:=hn
  obtain ⟨i,hi⟩:=xB8.mp hsm
  have hz:=xAc (dS hi)
  have hrow:(⟨path++[(i:Int)],s,thr ts b i,ltr b bh i⟩:Row)∈stn (N+1) path b ts bh:=by
   rw [aW,xA4]
   exact ⟨(s,i),hz,xAr ..⟩
  have hth:k∈thr ts b i:=xBw _ hk
  rw [s.gl_eq] at hn
  rcases xAv.mp hn with rfl | hn
  ·exact (ro _ hrow).to k hth (.inr hb)
  ·obtain ⟨x,hx,hn⟩:=xA4.mp hn
   rcases xAj.mp hn with hn | hn
   ·exact ((ro _ hrow).inn x hx).1 n hn k hth (.inr (.inr hb))
   ·obtain ⟨j,hj⟩:=xB8.mp hx
    have:=cX hsm hx
    refine gR N (path:=path++[(i:Int)]++[(j:Int)]) (b:=x.2) (ts:=thr ts b i++x.1) (bh:=fun k=>ltr b bh i k∨Cgt s j k) (by lia) (fun q hq=>ro q ?_) n hn k (xBw _ hth) (.inl (.inr hb))
    rw [aW,xA4]
    exact ⟨(s,i),hz,xAs _ (xA4.mpr ⟨(x,j),xAc (dS hj),hq⟩)⟩
theorem jz {l:List Int} (nd:l.Nodup):∀ n,n≤l.length→ky (ini (l.take n))=l.take n∧(ini (l.take n)).map (·.2)=(List.range n).map fun i:Nat=>(i:Int):=by
 intro n
 induction n with
 | zero=>intro _;exact ⟨rfl,rfl⟩
 | succ n ih =>
  intro h
  obtain ⟨i1,i2⟩:=ih (by lia)
  have hk:l[n]?=some (l[n]'(by lia)):=xAk _
  have e:l.take (n+1)=l.take n++[l[n]'(by lia)]:=by rw [List.take_add_one,hk];rfl
  have hn:l[n]'(by lia) ∉ ky (ini (l.take n)):=by
   rw [i1]
   intro z
   have:=nd
   rw [← xBx (n+1) l,e] at this
   exact (xBq.mp (xBq.mp this).1).2.2 _ z _ (xAm.mpr rfl) rfl
  have len:(ini (l.take n)).length=n:=by
   have:=congrArg List.length i2
   simpa using this
  have es:ini (l.take n++[l[n]'(by lia)])=ini (l.take n)++[(l[n]'(by lia),(n:Int))]:=by
   have:ini (l.take n++[l[n]'(by lia)])=pt (ini (l.take n)) (l[n]'(by lia)) (ini (l.take n)).length:=by unfold ini;rw [xBg];rfl
   rw [this,oZ hn,len]
  rw [e,es]
  refine ⟨?_,?_⟩
  ·unfold ky at i1 ⊢
   rw [xAi,i1]
   rfl
  ·rw [xAi,i2,List.range_succ,xAi]
   rfl
theorem tO {l:List Int} (nd:l.Nodup):∀ a∈l,∀ b∈l,look (ini l) a=look (ini l) b→a=b:=by
 obtain ⟨e1,e2⟩:=jz nd l.length (xAg _)
 rw [xAu] at e1 e2
 intro a ha b hb e
 rw [← e1] at ha hb
 have h1:=dC (bX ha)
 have h2:=dC (bX hb)
 rw [e] at h1
 have nv:((ini l).map (·.2)).Nodup:=by
  rw [e2]
  refine List.Pairwise.map _ (fun a b h z=>h (by lia)) List.nodup_range
 generalize look (ini l) b=v at h1 h2
 generalize ini l=m at h1 h2 nv
 clear e e1 e2 ha hb
 induction m with
 | nil=>cases h1
 | cons p m ih =>
  rw [xBs,xCb] at nv
  rcases xAv.mp h1 with z | z
  ·rcases xAv.mp h2 with y | y
   ·rw [← z] at y
    exact (Prod.mk.inj y).1.symm
   ·exact absurd (xA2.mpr ⟨_,y,by rw [← z]⟩) nv.1
  ·rcases xAv.mp h2 with y | y
   ·exact absurd (xA2.mpr ⟨_,z,by rw [← y]⟩) nv.1
   ·exact ih z y nv.2
theorem uJ {l:List Int} (nd:l.Nodup) (h:l.length≤500):vb (ini l):=fun p hp=>by
 obtain ⟨_,e2⟩:=jz nd l.length (xAg _)
 rw [xAu] at e2
 have:p.2∈(ini l).map (·.2):=List.mem_map_of_mem hp
 rw [e2] at this
 obtain ⟨i,hi,e⟩:=xA2.mp this
 rw [List.mem_range] at hi
 lia
structure HdOk (h:List (Int×Int)):Prop where
 nd:(ky h).Nodup
 bd:∀ k∈ky h,0≤k∧k≤500
theorem HdOk.len {h:List (Int×Int)} (o:HdOk h):h.length≤501:=by
 have:=cr 501 o.nd fun k hk=>by have:=o.bd k hk;lia
 unfold ky at this
 rw [xAa] at this
 exact this
theorem HdOk.pt {h:List (Int×Int)} {k v:Int} (o:HdOk h) (b:0≤k∧k≤500):HdOk (pt h k v):=⟨jo o.nd,fun j hj=>(dB.mp hj).elim (o.bd j) fun e=>by rw [e];exact b⟩
theorem HdOk.fil {h:List (Int×Int)} (o:HdOk h) (p:Int×Int→Bool):HdOk (h.filter p):=⟨o.nd.sublist (List.Sublist.map _ List.filter_sublist),fun k hk=>o.bd k ((List.Sublist.map _ List.filter_sublist).subset hk)⟩
theorem qH {h:List (Int×Int)} (o:HdOk h) {p:Int×Int→Bool} {s v:Int} (e:lk h s=some v) (hp:p (s,v)=true):lk (h.filter p) s=some v:=qa (o.fil p).nd (xBr.mpr ⟨dC e,hp⟩)
theorem jD {h:List (Int×Int)} (o:HdOk h) {i:Nat} {q:Int×Int} (hi:h[i]?=some q) (p:Int×Int→Bool):(h.take (i+1)).filter p=if p q=true then pt ((h.take i).filter p) q.1 q.2 else (h.take i).filter p:=by
 have e:h.take (i+1)=h.take i++[q]:=by rw [List.take_add_one,hi];rfl
 rw [e,List.filter_append]
 by_cases hp:p q=true
 ·rw [xCg hp,List.filter_cons_of_pos hp,List.filter_nil,oZ]
  intro z
  obtain ⟨q',hq',e'⟩:=xA2.mp z
  have:=o.nd
  unfold ky at this
  rw [← xBx (i+1) h,e,xAi,xAi] at this
  exact (xBq.mp (xBq.mp this).1).2.2 _ (List.mem_map_of_mem (xBr.mp hq').1) _ (xAm.mpr rfl) e'
 ·rw [xCf hp,List.filter_cons_of_neg hp,List.filter_nil,xB0]
def bgn (f:Int→Int) (h:List (Int×Int)) (ns:List Int):List (Int×Int):=ns.foldl (fun m n=>pt m (f n) n) h
theorem fj {f:Int→Int} (b:∀ k,0≤f k∧f k≤500):∀ (ns:List Int) {h:List (Int×Int)},HdOk h→HdOk (bgn f h ns)
 | [],_,o=>o
 | n::ns,_,o=>fj b ns (o.pt (b n))
theorem i8 {f:Int→Int} {s:Int}:∀ {ns:List Int} {h:List (Int×Int)},(∀ n∈ns,f n≠s)→lk (bgn f h ns) s=lk h s
 | [],_,_=>rfl
 | n::ns,h,e=>by
  have:=i8 (f:=f) (s:=s) (ns:=ns) (h:=pt h (f n) n) fun m hm=>e m (xAs _ hm)
  exact this.trans (eK (Ne.symm (e n (xAr ..))))
theorem gH {f:Int→Int}:∀ {ns:List Int} {h:List (Int×Int)},(ns.map f).Nodup→∀ n∈ns,lk (bgn f h ns) (f n)=some n
 | [],_,_,_,hn=>by cases hn
 | m::ns,h,nd,n,hn=>by
  rw [xBs,xCb] at nd
  rcases xAv.mp hn with rfl | hn
  ·have:=i8 (f:=f) (s:=f n) (ns:=ns) (h:=pt h (f n) n) fun q hq z=>nd.1 (by rw [← z];exact List.mem_map_of_mem hq)
   exact this.trans lS
  ·exact gH (h:=pt h (f m) m) nd.2 n hn
end L2
namespace K54
open PySem L2
local macro_rules | `(tactic| walk_at "rd1")=>`(tactic| first
 | (with_reducible first | apply uj | apply xt | apply oQ | apply kf | apply xk | apply vv | apply ke | apply r_c | apply uS | apply rA | apply yq | apply yD | apply yF | apply xy | apply xz | apply xn | apply vD | apply oG | apply uT | apply xr | apply xj | apply xo | apply vE | apply yB | apply yo | apply r_U | apply xm | apply xD | apply yp | apply xi | apply vC | apply xA | apply vA | apply yA | apply vw | apply yC | apply xC | apply yE | apply xp | apply uV | apply ve | apply vj | apply rB | apply uU | apply xu | apply yt | apply yz | apply yv | apply vt | apply oE | apply xw | apply yr | apply yx | apply yu | apply yw | apply rL | apply vo | (apply ym;intro _ _))
 | ((with_reducible first | refine' yH ?hh1 ?_ | refine' rJ ?hh1 ?_ | refine' oM ?hh1 ?_ | refine' rF ?hh1 ?_ | refine' rH ?hh1 ?_ | refine' rG ?hh1 ?_ | refine' xB ?hh1 ?_ | refine' vh ?hh1 ?_ | refine' xE ?hh1 ?_);(case hh1=>assumption))
 | ((with_reducible first | refine' vf ?hh1 ?_);(case hh1=>assumption))
 | ((with_reducible refine' ui ?hh1 ?_);(case hh1=>rfl))
 | ((with_reducible first | refine' cH ?hh1 ?hh2 ?_ | refine' vk ?hh1 ?hh2 ?_);(case hh1=>assumption);(case hh2=>rfl))
 | ((with_reducible refine' gW ?hh1 ?hh2 ?_);(case hh1=>assumption);(case hh2=>rfl))
 | ((with_reducible refine' xq ?hh1 ?hh2 ?hh3 ?_);(case hh1=>rfl);(case hh2=>rfl);(case hh3=>decide))
 | ((with_reducible refine' ka ?hh1 ?_);(case hh1=>decide +kernel)) | ((with_reducible refine' bj ?hh1 ?_);(case hh1=>decide +kernel))
 | ((with_reducible refine' bv ?hh1 ?hh2 ?_);(case hh1=>assumption);(case hh2=>(with_reducible first | exact gC | exact jI))))
local macro_rules | `(tactic| k_go)=>`(tactic| repeat walk_at "rd1")
def top (i:Nat):Stmt:=PySem.Challenge.pw_spacewright_k54_whole_slots_keep_what_is.main.body.getD i (.Pass ⟨0,0,0,0⟩)
structure Txt (K:xFr) (mg:Str→Option Value):Prop where
 zlen:mg "len"=none
 zlist:mg "list"=none
 ztuple:mg "tuple"=none
 zsorted:mg "sorted"=none
 zisinstance:mg "isinstance"=none
 zrange:mg "range"=none
 zmax:mg "max"=none
 zint:mg "int"=none
 zset:mg "set"=none
 zenumerate:mg "enumerate"=none
 zbool:mg "bool"=none
 zreversed:mg "reversed"=none
 zdict:mg "dict"=none
 kTT:PySem.W.kitOne K (.type "tuple") (.type "tuple")=some true
 kII:PySem.W.kitOne K (.type "int") (.type "int")=some true
 kIB:PySem.W.kitOne K (.type "int") (.type "bool")=some false
 kDD:PySem.W.kitOne K (.type "dict") (.type "dict")=some true
theorem gK:bootBuiltins "len"=some (.builtin "len"):=by decide +kernel
theorem cF:bootBuiltins "list"=some (.type "list"):=by decide +kernel
theorem bI:bootBuiltins "tuple"=some (.type "tuple"):=by decide +kernel
theorem cE:bootBuiltins "sorted"=some (.builtin "sorted"):=by decide +kernel
theorem uH:bootBuiltins "max"=some (.builtin "max"):=by decide +kernel
theorem yk:bootBuiltins "int"=some (.type "int"):=by decide +kernel
theorem jT:bootBuiltins "set"=some (.type "set"):=by decide +kernel
theorem qY:bootBuiltins "dict"=some (.type "dict"):=by decide +kernel
abbrev sOps:Stmt:=top 1
abbrev sInn:Stmt:=top 2
abbrev sBin:Stmt:=top 3
abbrev sMen:Stmt:=top 4
section
variable {P:Program} {w:World} {K:xFr} {mg:Str→Option Value} {base:Heap}
def spOps:Sp:=fun vs H Q _=>∃ (v:V) (s:Stp),vs=[v]∧Rp H s.d v∧s.ops.length≤1000∧∀ l H',Same H H'→H l=none→LD H' l (s.ops.map Atom.d)→Q (.ref l) H'
def gops:Scope:={ kind:=.function,names:=[("step",.local),("word",.local),("list",.globalImplicit)],isGenerator:=false,isCoroutine:=false,more:=[("fast",.str "step"),("fast",.str "word"),("fast",.str "name")] }
theorem scops:FnScope ["step","word"] ["step"] gops:=⟨rfl,rfl,rfl,by decide +kernel,rfl,by decide +kernel,by decide +kernel⟩
theorem wp (F:Dn K mg "operands" sOps ["step"]) (T:Txt K mg):Cal P w K mg base "operands" 1 ["step"] spOps:=by
 refine F.ok scops rfl (fun vs H Q E h=>?_) (fun f cdv A outer s H vs Q E hr h=>?_)
 ·obtain ⟨v,s,rfl,_⟩:=h
  rfl
 ·obtain ⟨v,st,rfl,hv,hn,q⟩:=h
  refine' ⟨?tt,QSs.h ?hh,?gg⟩
  case hh=>exact (ab (aD (i:=1) scops.nd rfl (Or.inl rfl) (au ai (qv 0) af))
   (ab (aE (bH (dU (qv 1) (lj (ws:=["start","box","tell","if","match"]) rfl)) rfl) (ag (ao (aH (ae (au ai (qv 0) af) aa)))) ar)
   (ab (aE (bH (dU (qv 1) (ae aj (ae aj aa))) rfl) (ag (ao (aH (ae (aB (ae aj (ae (au ai (qv 0) af) aa))) aa)))) ar)
   (ab (aE (bH (dU (qv 1) (ae aj (ae aj aa))) rfl) (ag (ao (aH (ae (aB (ae aj (ae (au ai (qv 0) af) aa))) (ae (au ai (qv 0) af) aa))))) ar)
   (ab (aE (ap aM (qv 1) aj (nomark _)) (ag (ao (aH (ae (au ai (qv 0) af) (ae (au ai (qv 0) af) aa))))) ar)
   (ab (aE (ap aM (qv 1) aj (nomark _)) (ag (ao (aU bz rfl T.zlist cF (ae (au ai (qv 0) af) aa)))) ar)
   (ab (aE (ap aM (qv 1) aj (nomark _)) (ag (ao (aH (ae (au ai (qv 0) af) aa)))) ar)
   (ab (aE (ap aM (qv 1) aj (nomark _)) (ag (ao (aF bU (aH (ae (au ai (qv 0) af) aa)) (aU bz rfl T.zlist cF (ae (au ai (qv 0) af) aa))))) ar)
   (ab (aE (ap aM (qv 1) aj (nomark _)) (ag (ao (bM (ls:=["name"]) (N:=[]) (fr:=[]) rfl (CapsG.mk' rfl (by decide +kernel) rfl (by decide +kernel) .nil (by decide +kernel) rfl) (bw (au ai (qv 0) af)) (fun C s H fp=>(am (i:=0) (show (["name"]:List Str).Nodup by decide +kernel) rfl (Or.inl rfl))) (fun C s H fp=>bN) (fun C s H fp=>(aB (ae aj (ae (qv 0) aa))))))) ar)
   (ag (ao (aH aa))))))))))))
  cases st with
  | start to a pl =>
   obtain ⟨p,va,rfl,hp,ha⟩:=eN hv
   k_go
   exact aq fun l H2 s2 n2 h2=>q l H2 s2 n2 ⟨_,h2,.one (ha.mono s2)⟩
  | box to a pl =>
   obtain ⟨p,va,rfl,hp,ha⟩:=iV hv
   k_go
   exact aq fun l H2 s2 n2 h2=>q l H2 s2 n2 ⟨_,h2,.one (ha.mono s2)⟩
  | tell to a pl =>
   obtain ⟨p,va,rfl,hp,ha⟩:=fO hv
   k_go
   exact aq fun l H2 s2 n2 h2=>q l H2 s2 n2 ⟨_,h2,.one (ha.mono s2)⟩
  | read to x =>
   obtain ⟨p,rfl,hp⟩:=fP hv
   k_go
   refine az fun p1 H1 s1 n1 h1=>?_
   k_go
   exact aq fun l H2 s2 n2 h2=>q l H2 (s1.trans s2) (s1.free n2) ⟨_,h2,.one ⟨p1,_,rfl,s2 _ _ h1,_,_,rfl,rfl,_,_,rfl,rfl,rfl⟩⟩
  | load to x =>
   obtain ⟨p,rfl,hp⟩:=fT hv
   k_go
   refine az fun p1 H1 s1 n1 h1=>?_
   k_go
   exact aq fun l H2 s2 n2 h2=>q l H2 (s1.trans s2) (s1.free n2) ⟨_,h2,.one ⟨p1,_,rfl,s2 _ _ h1,_,_,rfl,rfl,_,_,rfl,rfl,rfl⟩⟩
  | set to x a pl =>
   obtain ⟨p,va,rfl,hp,ha⟩:=iU hv
   k_go
   refine az fun p1 H1 s1 n1 h1=>?_
   have hp1:=s1 _ _ hp
   k_go
   exact aq fun l H2 s2 n2 h2=>q l H2 (s1.trans s2) (s1.free n2) ⟨_,h2,_,_,rfl,⟨p1,_,rfl,s2 _ _ h1,_,_,rfl,rfl,_,_,rfl,rfl,rfl⟩,.one (ha.mono (s1.trans s2))⟩
  | store to x a pl =>
   obtain ⟨p,va,rfl,hp,ha⟩:=eM hv
   k_go
   refine az fun p1 H1 s1 n1 h1=>?_
   have hp1:=s1 _ _ hp
   k_go
   exact aq fun l H2 s2 n2 h2=>q l H2 (s1.trans s2) (s1.free n2) ⟨_,h2,_,_,rfl,⟨p1,_,rfl,s2 _ _ h1,_,_,rfl,rfl,_,_,rfl,rfl,rfl⟩,.one (ha.mono (s1.trans s2))⟩
  | math to op a b pl =>
   obtain ⟨p,va,vb,rfl,hp,ha,hb⟩:=fR hv
   k_go
   exact aq fun l H2 s2 n2 h2=>q l H2 s2 n2 ⟨_,h2,_,_,rfl,ha.mono s2,.one (hb.mono s2)⟩
  | make to tag as pl =>
   obtain ⟨p,va,rfl,hp,⟨pa,wa,rfl,ha,ra⟩⟩:=fS hv
   k_go
   exact b8 ha fun l H2 s2 n2 h2=>q l H2 s2 n2 ⟨_,h2,ra.mono s2⟩
  | ask to pl =>
   obtain ⟨p,rfl,hp⟩:=iW hv
   k_go
   exact aq fun l H2 s2 n2 h2=>q l H2 s2 n2 ⟨_,h2,rfl⟩
  | rais to w a pl =>
   obtain ⟨p,va,rfl,hp,ha⟩:=fQ hv
   k_go
   exact aq fun l H2 s2 n2 h2=>q l H2 s2 n2 ⟨_,h2,.one (ha.mono s2)⟩
  | call to a as pl last =>
   obtain ⟨p,va,vb,rfl,hp,ha,⟨pb,wb,rfl,hb,rb⟩⟩:=fV hv
   k_go
   refine aq fun l1 H1 s1 n1 h1=>?_
   have hp1:=s1 _ _ hp
   k_go
   refine b8 (s1 _ _ hb) fun l2 H2 s2 n2 h2=>?_
   have hl:=rb.length
   refine di (s2 _ _ h1) h2 (by simp [Stp.ops] at hn hl ⊢;exact lineMe (by lia)) fun l H3 s3 n3 h3=>?_
   exact q l H3 (s1.trans (s2.trans s3)) (s1.free (s2.free n3)) ⟨_,h3,.app (.one (ha.mono (s1.trans (s2.trans s3)))) (rb.mono (s1.trans (s2.trans s3)))⟩
  | close to n xs pl =>
   obtain ⟨p,va,rfl,hp,⟨pa,wa,rfl,ha,ra⟩⟩:=eO hv
   k_go
   refine xZ bG ra (fun _ s1=>.of (s1 _ _ ha)) (fun _=>true) (fun d=>.tup [.str "name",d]) ?_ ?_ ?_
   ·intro B ys d x H1 N1 N0 hd hx s1 hB k1 k0
    k_go
    refine ⟨rfl,rfl,?_⟩
    k_go
    refine ⟨hB,?_⟩
    k_go
    exact az fun p1 H2 s2 n2 h2=>⟨s2 _ _ hB,k1 _ _ s2 rfl ⟨p1,_,rfl,h2,_,_,rfl,rfl,.one (hx.mono s2)⟩⟩
   ·intro B H2 s2 n2 h2
    refine q B H2 s2 n2 ?_
    rw [List.filter_eq_self.mpr (fun _ _=>rfl),xCc] at h2
    simp only [Stp.ops,xCc]
    exact h2
   ·have hl:=ra.length
    simp [Stp.ops] at hn hl
    exact lineM (by lia)
  | func to ps b pl =>
   obtain ⟨p,va,vb,rfl,hp,ha,hb⟩:=fU hv
   k_go
   exact aq fun l H2 s2 n2 h2=>q l H2 s2 n2 ⟨_,h2,rfl⟩
  | iff to a y n pl =>
   obtain ⟨p,va,vb,vc,rfl,hp,ha,hb,hc⟩:=gu hv
   k_go
   exact aq fun l H2 s2 n2 h2=>q l H2 s2 n2 ⟨_,h2,.one (ha.mono s2)⟩
  | mtch to a tag xs y n pl =>
   obtain ⟨p,va,vb,vc,vd,rfl,hp,ha,hb,hc,hd⟩:=dJ hv
   k_go
   exact aq fun l H2 s2 n2 h2=>q l H2 s2 n2 ⟨_,h2,.one (ha.mono s2)⟩
  | tri to one w x other pl =>
   obtain ⟨p,va,vb,rfl,hp,ha,hb⟩:=dX hv
   k_go
   exact aq fun l H2 s2 n2 h2=>q l H2 s2 n2 ⟨_,h2,rfl⟩
end
section
variable {P:Program} {w:World} {K:xFr} {mg:Str→Option Value} {base:Heap}
def spInn:Sp:=fun vs H Q _=>∃ (v:V) (s:Stp),vs=[v]∧Rp H s.d v∧∀ l H',Same H H'→H l=none→LD H' l (s.inn.map pairD)→Q (.ref l) H'
def ginn:Scope:={ kind:=.function,names:=[("step",.local),("word",.local)],isGenerator:=false,isCoroutine:=false,more:=[] }
theorem scinn:FnScope ["step","word"] ["step"] ginn:=⟨rfl,rfl,rfl,by decide +kernel,rfl,by decide +kernel,by decide +kernel⟩
theorem wv (F:Dn K mg "inner" sInn ["step"]) (T:Txt K mg):Cal P w K mg base "inner" 1 ["step"] spInn:=by
 refine F.ok scinn rfl (fun vs H Q E h=>?_) (fun f cdv A outer s H vs Q E hr h=>?_)
 ·obtain ⟨v,s,rfl,_⟩:=h
  rfl
 ·obtain ⟨v,st,rfl,hv,q⟩:=h
  refine' ⟨?tt,QSs.h ?hh,?gg⟩
  case hh=>exact (ab (aD (i:=1) scinn.nd rfl (Or.inl rfl) (au ai (qv 0) af))
   (ab (aE (ap aM (qv 1) aj (nomark _)) (ag (ao (aH (ae (aB (ae (au ai (qv 0) af) (ae (au ai (qv 0) af) aa))) aa)))) ar)
   (ab (aE (ap aM (qv 1) aj (nomark _)) (ag (ao (aH (ae (aB (ae (aB aa) (ae (au ai (qv 0) af) aa))) (ae (aB (ae (aB aa) (ae (au ai (qv 0) af) aa))) aa))))) ar)
   (ab (aE (ap aM (qv 1) aj (nomark _)) (ag (ao (aH (ae (aB (ae (au ai (qv 0) af) (ae (au ai (qv 0) af) aa))) (ae (aB (ae (aB aa) (ae (au ai (qv 0) af) aa))) aa))))) ar)
   (ab (aE (ap aM (qv 1) aj (nomark _)) (ag (ao (aH (ae (aB (ae (aB aa) (ae (au ai (qv 0) af) aa))) (ae (aB (ae (aB (ae (au ai (qv 0) af) aa)) (ae (au ai (qv 0) af) aa))) aa))))) ar)
   (ag (ao (aH aa))))))))
  cases st with
  | start to a pl =>
   obtain ⟨p,va,rfl,hp,ha⟩:=eN hv
   k_go
   exact aq fun l H2 s2 n2 h2=>q l H2 s2 n2 ⟨_,h2,rfl⟩
  | box to a pl =>
   obtain ⟨p,va,rfl,hp,ha⟩:=iV hv
   k_go
   exact aq fun l H2 s2 n2 h2=>q l H2 s2 n2 ⟨_,h2,rfl⟩
  | tell to a pl =>
   obtain ⟨p,va,rfl,hp,ha⟩:=fO hv
   k_go
   exact aq fun l H2 s2 n2 h2=>q l H2 s2 n2 ⟨_,h2,rfl⟩
  | read to x =>
   obtain ⟨p,rfl,hp⟩:=fP hv
   k_go
   exact aq fun l H2 s2 n2 h2=>q l H2 s2 n2 ⟨_,h2,rfl⟩
  | load to x =>
   obtain ⟨p,rfl,hp⟩:=fT hv
   k_go
   exact aq fun l H2 s2 n2 h2=>q l H2 s2 n2 ⟨_,h2,rfl⟩
  | set to x a pl =>
   obtain ⟨p,va,rfl,hp,ha⟩:=iU hv
   k_go
   exact aq fun l H2 s2 n2 h2=>q l H2 s2 n2 ⟨_,h2,rfl⟩
  | store to x a pl =>
   obtain ⟨p,va,rfl,hp,ha⟩:=eM hv
   k_go
   exact aq fun l H2 s2 n2 h2=>q l H2 s2 n2 ⟨_,h2,rfl⟩
  | math to op a b pl =>
   obtain ⟨p,va,vb,rfl,hp,ha,hb⟩:=fR hv
   k_go
   exact aq fun l H2 s2 n2 h2=>q l H2 s2 n2 ⟨_,h2,rfl⟩
  | make to tag as pl =>
   obtain ⟨p,va,rfl,hp,⟨pa,wa,rfl,ha,ra⟩⟩:=fS hv
   k_go
   exact aq fun l H2 s2 n2 h2=>q l H2 s2 n2 ⟨_,h2,rfl⟩
  | ask to pl =>
   obtain ⟨p,rfl,hp⟩:=iW hv
   k_go
   exact aq fun l H2 s2 n2 h2=>q l H2 s2 n2 ⟨_,h2,rfl⟩
  | rais to w a pl =>
   obtain ⟨p,va,rfl,hp,ha⟩:=fQ hv
   k_go
   exact aq fun l H2 s2 n2 h2=>q l H2 s2 n2 ⟨_,h2,rfl⟩
  | call to a as pl last =>
   obtain ⟨p,va,vb,rfl,hp,ha,⟨pb,wb,rfl,hb,rb⟩⟩:=fV hv
   k_go
   exact aq fun l H2 s2 n2 h2=>q l H2 s2 n2 ⟨_,h2,rfl⟩
  | close to n xs pl =>
   obtain ⟨p,va,rfl,hp,⟨pa,wa,rfl,ha,ra⟩⟩:=eO hv
   k_go
   exact aq fun l H2 s2 n2 h2=>q l H2 s2 n2 ⟨_,h2,rfl⟩
  | func to ps b pl =>
   obtain ⟨p,va,vb,rfl,hp,ha,hb⟩:=fU hv
   k_go
   exact az fun p1 H1 s1 n1 h1=>oG (aq fun l H2 s2 n2 h2=>q l H2 (s1.trans s2) (s1.free n2) ⟨_,h2,.one ⟨p1,_,rfl,s2 _ _ h1,_,_,rfl,ha.mono (s1.trans s2),.one (hb.mono (s1.trans s2))⟩⟩)
  | iff to a y n pl =>
   obtain ⟨p,va,vb,vc,rfl,hp,ha,hb,hc⟩:=gu hv
   k_go
   refine az fun p0 H0 s0 n0 h0=>?_
   have hp0:=s0 _ _ hp
   k_go
   refine az fun p1 H1 s1 n1 h1=>?_
   have hp1:=s1 _ _ hp0
   k_go
   refine az fun p2 H2 s2 n2 h2=>?_
   have hp2:=s2 _ _ hp1
   k_go
   refine az fun p3 H3 s3 n3 h3=>?_
   k_go
   have t3:=s0.trans (s1.trans (s2.trans s3))
   exact aq fun l H4 s4 n4 h4=>q l H4 (t3.trans s4) (t3.free n4) ⟨_,h4,_,_,rfl,⟨p1,_,rfl,s4 _ _ (s3 _ _ (s2 _ _ h1)),_,_,rfl,⟨p0,_,rfl,s4 _ _ (s3 _ _ (s2 _ _ (s1 _ _ h0))),rfl⟩,.one (hb.mono (t3.trans s4))⟩,.one ⟨p3,_,rfl,s4 _ _ h3,_,_,rfl,⟨p2,_,rfl,s4 _ _ (s3 _ _ h2),rfl⟩,.one (hc.mono (t3.trans s4))⟩⟩
  | mtch to a tag xs y n pl =>
   obtain ⟨p,va,vb,vc,vd,rfl,hp,ha,hb,hc,hd⟩:=dJ hv
   k_go
   refine az fun p1 H1 s1 n1 h1=>?_
   have hp1:=s1 _ _ hp
   k_go
   refine az fun p2 H2 s2 n2 h2=>?_
   have hp2:=s2 _ _ hp1
   k_go
   refine az fun p3 H3 s3 n3 h3=>?_
   k_go
   have t3:=s1.trans (s2.trans s3)
   exact aq fun l H4 s4 n4 h4=>q l H4 (t3.trans s4) (t3.free n4) ⟨_,h4,_,_,rfl,⟨p1,_,rfl,s4 _ _ (s3 _ _ (s2 _ _ h1)),_,_,rfl,hb.mono (t3.trans s4),.one (hc.mono (t3.trans s4))⟩,.one ⟨p3,_,rfl,s4 _ _ h3,_,_,rfl,⟨p2,_,rfl,s4 _ _ (s3 _ _ h2),rfl⟩,.one (hd.mono (t3.trans s4))⟩⟩
  | tri to one w x other pl =>
   obtain ⟨p,va,vb,rfl,hp,ha,hb⟩:=dX hv
   k_go
   refine az fun p0 H0 s0 n0 h0=>?_
   have hp0:=s0 _ _ hp
   k_go
   refine az fun p1 H1 s1 n1 h1=>?_
   have hp1:=s1 _ _ hp0
   k_go
   refine az fun p2 H2 s2 n2 h2=>?_
   have hp2:=s2 _ _ hp1
   k_go
   refine az fun p3 H3 s3 n3 h3=>?_
   k_go
   have t3:=s0.trans (s1.trans (s2.trans s3))
   exact aq fun l H4 s4 n4 h4=>q l H4 (t3.trans s4) (t3.free n4) ⟨_,h4,_,_,rfl,⟨p1,_,rfl,s4 _ _ (s3 _ _ (s2 _ _ h1)),_,_,rfl,⟨p0,_,rfl,s4 _ _ (s3 _ _ (s2 _ _ (s1 _ _ h0))),rfl⟩,.one (ha.mono (t3.trans s4))⟩,.one ⟨p3,_,rfl,s4 _ _ h3,_,_,rfl,⟨p2,_,rfl,s4 _ _ (s3 _ _ h2),.one rfl⟩,.one (hb.mono (t3.trans s4))⟩⟩
end
section
variable {P:Program} {w:World} {K:xFr} {mg:Str→Option Value} {base:Heap}
def spBin:Sp:=fun vs H Q _=>∃ (v:V) (b:Bdy),vs=[v]∧Rp H b.d v∧b.cnt≤10000∧∀ (l:Addr) (H':Hp) (L:List (List Int×Bdy)),Same H H'→H l=none→LD H' l (L.map pairD)→(∀ x,x∈L↔In b x)→L.length≤10000→Q (.ref l) H'
def gbin:Scope:={ kind:=.function,names:=[("body",.local),("found",.local),("at",.local),("steps",.local),("step",.local),("len",.globalImplicit),("inner",.globalImplicit)],isGenerator:=false,isCoroutine:=false,more:=[] }
theorem scbin:FnScope ["body","found","at","steps","step"] ["body"] gbin:=⟨rfl,rfl,rfl,by decide +kernel,rfl,by decide +kernel,by decide +kernel⟩
theorem wA (F:Dn K mg "bodies_in" sBin ["body"]) (T:Txt K mg) (c_inner:Cal P w K mg base "inner" 1 ["step"] spInn):Cal P w K mg base "bodies_in" 2 ["body"] spBin:=by
 refine F.ok scbin rfl (fun vs H Q E h=>?_) (fun f cdv A outer s H vs Q E hr h=>?_)
 ·obtain ⟨v,b,rfl,_⟩:=h
  rfl
 ·obtain ⟨v,b,rfl,hv,hc,q⟩:=h
  have hu:=bJ hr
  refine' ⟨?tt,QSs.h ?hh,?gg⟩
  case hh=>exact (ab (aD (i:=1) scbin.nd rfl (Or.inl rfl) (aH (ae (aB (ae (aB aa) (ae (qv 0) aa))) aa)))
   (ab (aD (i:=2) scbin.nd rfl (Or.inl rfl) af)
   (ab (jh PassesOwn.never (ap gj (qv 2) (bV fZ rfl T.zlen gK (ae (qv 1) aa)) (nomark _)) (ab (aD (i:=3) scbin.nd rfl (Or.inl rfl) (au ai (au ai (au dF (qv 1) (qv 2)) af) af))
   (ab (aR PassesOwn.never rfl (bw (qv 3)) (am (i:=4) scbin.nd rfl (Or.inl rfl))
    (ag (ck (cm PySem.F.plainAttrs_list PySem.F.slot_list_extend PySem.F.type_list_extend g0 (qv 1) (ae (av c_inner hr rfl (ae (qv 4) aa)) aa)))))
   (ag (aD (i:=2) scbin.nd rfl (Or.inl rfl) (aF eX (qv 2) af))))))
   (ag (ao (qv 1))))))
  k_go
  refine az fun p0 H0 s0 n0 h0=>?_
  k_go
  refine az fun p1 H1 s1 n1 h1=>?_
  k_go
  refine aq fun l H2 s2 n2 h2=>?_
  k_go
  have t2:=s0.trans (s1.trans s2)
  have nl:=s0.free (s1.free n2)
  refine kS (fun m σ H3=>∃ (L:List (List Int×Bdy)) (k:Nat) (v3 v4:Option V),σ=[some v,some (.ref l),some (.int k),v3,v4]∧Same H H3∧LD H3 l (L.map pairD)∧BF b L k∧m=b.cnt - k) _ ⟨[([],b)],0,none,none,rfl,t2,⟨_,h2,.one ⟨p1,_,rfl,s2 _ _ h1,_,_,rfl,⟨p0,_,rfl,s2 _ _ (s1 _ _ h0),rfl⟩,.one (hv.mono t2)⟩⟩,.start b,rfl⟩ ?_
  rintro m σ H3 ⟨L,k,v3,v4,rfl,t3,⟨vs,hl,hvs⟩,bf,rfl⟩
  k_go
  have hlen:=hvs.mapLen
  refine uh (fun e=>?_) (fun e=>?_)
  ·have e1:=xBe e
   have hk:k<L.length:=by lia
   obtain ⟨u,hu,hr⟩:=hvs.mapGet (xAk hk)
   obtain ⟨q1,q2,vb,rfl,g1,g2,g3⟩:=hr.pair
   obtain ⟨p2,q3,ws,va,rfl,g4,g5,g6,g7⟩:=g3.body
   have hx:L[k]?=some L[k]:=xAk hk
   generalize L[k]=x at *
   k_go
   refine gW hl (cV hu) ?_
   k_go
   refine aL (bG (xs:=ws)) (fun j σ H4=>∃ (v4:Option V),σ=[some v,some (.ref l),some (.int k),some (.ref q3),v4]∧Same H H4∧LD H4 l ((L++(x.2.steps.take j).flatMap Stp.inn).map pairD)∧H4 q3=some (.tup ws)∧Rps H4 (x.2.steps.map Stp.d) ws) ⟨v4,rfl,t3,⟨vs,hl,by simpa using hvs⟩,g5,g6⟩ (by rintro _ _ _ _ ⟨_,_,_,_,z,_⟩;exact .of z) ?_ ?_
   ·rintro _ j _ σ _ y H4 hj ⟨v4,rfl,t4,⟨us,hl4,hus⟩,hq4,hw4⟩ ⟨rfl,hy⟩
    obtain ⟨st,hst,hrs⟩:=hw4.mapGet' hy
    k_go
    refine ⟨y,st,rfl,hrs,fun l2 H5 s5 n5 zz0=>?_⟩
    obtain ⟨zs,hz,hzs⟩:=zz0
    have hs5:=s5 _ _ hl4
    have pl:=bf.part (j:=j+1) hx
    rw [aV hst,← xAx,xAb] at pl
    have l1:=hus.mapLen
    have l2':=hzs.mapLen
    k_go
    refine jg hs5 hz (lineMe (by lia)) ?_
    have tl:TLe H5 (upd H5 l (.lst (us++zs))):=TLe.upd fun xs z=>by rw [hs5] at z;cases z
    k_go
    refine ⟨some y,rfl,(t4.trans s5).upd_new nl,⟨_,ah,?_⟩,tl _ _ (s5 _ _ hq4),(hw4.mono s5).le tl⟩
    rw [aV hst,← xAx,xAi]
    exact ((hus.mono s5).app hzs).le tl
   ·rintro σ H4 ⟨v4,rfl,t4,hl4,hq4,hw4⟩
    k_go
    have e2:(x.2.steps.take ws.length)=x.2.steps:=by rw [hw4.mapLen];exact xAu
    rw [e2] at hl4
    have bf':=bf.step hx
    have hle:=bf.len
    exact ⟨b.cnt - (k+1),by lia,_,k+1,_,_,rfl,t4,hl4,bf',rfl⟩
  ·have e1:=xBf e
   k_go
   have hle:=bf.len
   exact q l H3 L t3 nl ⟨vs,hl,hvs⟩ (bf.done (by lia)) (by lia)
end
section
variable {P:Program} {w:World} {K:xFr} {mg:Str→Option Value} {base:Heap}
def spMen:Sp:=fun vs H Q _=>∃ (v:V) (b:Bdy),vs=[v]∧Rp H b.d v∧OkB b∧∀ (l:Addr) (H':Hp) (ns:List Int),Same H H'→H l=none→H' l=some (.lst (ns.map V.int))→ns.Pairwise (·<·)→(∀ k,k∈ns↔Men b k)→Q (.ref l) H'
def gmen:Scope:={ kind:=.function,names:=[("body",.local),("uses",.local),("names",.local),("within",.local),("atoms",.local),("step",.local),("word",.local),("name",.local),("bodies_in",.globalImplicit),("operands",.globalImplicit),("sorted",.globalImplicit)],isGenerator:=false,isCoroutine:=false,more:=[] }
theorem scmen:FnScope ["body","uses","names","within","atoms","step","word","name"] ["body"] gmen:=⟨rfl,rfl,rfl,by decide +kernel,rfl,by decide +kernel,by decide +kernel⟩
theorem wt (F:Dn K mg "mentioned" sMen ["body"]) (T:Txt K mg) (c_bodies_in:Cal P w K mg base "bodies_in" 2 ["body"] spBin) (c_operands:Cal P w K mg base "operands" 1 ["step"] spOps):Cal P w K mg base "mentioned" 3 ["body"] spMen:=by
 refine F.ok scmen rfl (fun vs H Q E h=>?_) (fun f cdv A outer s H vs Q E hr h=>?_)
 ·obtain ⟨v,b,rfl,_⟩:=h
  rfl
 ·obtain ⟨v,b,rfl,hv,ok,q⟩:=h
  have hu:=bJ hr
  refine' ⟨?tt,QSs.h ?hh,?gg⟩
  case hh=>exact (ab (aD (i:=1) scmen.nd rfl (Or.inl rfl) c7)
   (ab (aR PassesOwn.never rfl (aP (av c_bodies_in hr rfl (ae (qv 0) aa))) (a8 rfl (ay (am (i:=2) scmen.nd rfl (Or.inl rfl)) (ay (am (i:=3) scmen.nd rfl (Or.inl rfl)) a7)))
    (ab (aD (i:=4) scmen.nd rfl (Or.inl rfl) (aH (ae (au ai (qv 3) af) aa)))
   (ab (aR PassesOwn.never rfl (bw (au ai (qv 3) af)) (am (i:=5) scmen.nd rfl (Or.inl rfl))
    (ag (ck (cm PySem.F.plainAttrs_list PySem.F.slot_list_extend PySem.F.type_list_extend g0 (qv 4) (ae (av c_operands hr rfl (ae (qv 5) aa)) aa)))))
   (ag (aR PassesOwn.never rfl (aP (qv 4)) (a8 rfl (ay (am (i:=6) scmen.nd rfl (Or.inl rfl)) (ay (am (i:=7) scmen.nd rfl (Or.inl rfl)) a7)))
    (ag (aE (ap aM (qv 6) aj (nomark _)) (ag (bc hu (qv 1) (qv 7) fA)) ar)))))))
   (ag (ao (bV (gE rfl) rfl T.zsorted cE (ae (qv 1) aa))))))
  k_go
  refine eV fun a H0 s0 n0 h0=>?_
  k_go
  refine ⟨v,b,rfl,hv.mono s0,ok.cnt,fun l H1 L s1 n1 zz0 hL hLn=>?_⟩
  obtain ⟨vs,hl,hvs⟩:=zz0
  k_go
  have nl:H a=none:=n0
  have bd:∀ k,MK L k→0≤k∧k<100000:=fun k hk=>ok.men k ((MK.men hL k).mp hk)
  have K0:KS H1 a fun _=>False:=(KS.empty h0).same s1
  refine aL (aS (xs:=vs)) (fun i σ H2=>∃ (v2 v3 v4 v5 v6 v7:Option V),σ=[some v,some (.ref a),v2,v3,v4,v5,v6,v7]∧Same H H2∧H2 l=some (.lst vs)∧Rps H2 (L.map pairD) vs∧KS H2 a (MK (L.take i))) ⟨_,_,_,_,_,_,rfl,s0.trans s1,hl,hvs,K0.congr fun k=>⟨False.elim,fun ⟨x,hx,_⟩=>by cases hx⟩⟩ (by rintro _ _ _ _ ⟨_,_,_,_,_,_,_,_,z,_⟩;exact .of z) ?_ ?_
  ·rintro _ i _ σ _ y H2 hi ⟨v2,v3,v4,v5,v6,v7,rfl,t2,hl2,hvs2,k2⟩ ⟨rfl,hy⟩
   obtain ⟨x,hx,hr⟩:=hvs2.mapGet' hy
   obtain ⟨q1,q2,vb,rfl,g1,g2,g3⟩:=hr.pair
   obtain ⟨p2,q3,ws,va,rfl,g4,g5,g6,g7⟩:=g3.body
   obtain ⟨ln1,ln2⟩:=ok.len x ((hL x).mp (xAc hx))
   k_go
   refine aq fun la H3 s3 n3 h3=>?_
   have hp2:=s3 _ _ g4
   have hq3:=s3 _ _ g5
   k_go
   have na:H la=none:=t2.free n3
   have aLen:∀ j,((x.2.steps.take j).flatMap Stp.ops).length≤1000 * j:=fun j=>by
    induction j with
    | zero=>simp
    | succ j ih =>
     by_cases hj:j<x.2.steps.length
     ·rw [aV (xAk hj),xAb]
      have:=ln2 _ (List.getElem_mem hj)
      lia
     ·rw [List.take_of_length_le (by lia)]
      rw [List.take_of_length_le (by lia)] at ih
      lia
   refine aL (bG (xs:=ws)) (fun j σ H4=>∃ (v5:Option V),σ=[some v,some (.ref a),some (.ref q2),some (.ref p2),some (.ref la),v5,v6,v7]∧Same H2 H4∧LD H4 la ((x.2.last::(x.2.steps.take j).flatMap Stp.ops).map Atom.d)) ⟨_,rfl,s3,⟨_,h3,.one (g7.mono s3)⟩⟩ (by rintro _ _ _ _ ⟨_,_,z,_⟩;exact .of (z _ _ g5)) ?_ ?_
   ·rintro _ j _ σ _ y H4 hj ⟨v5,rfl,s4,⟨us,hl4,hus⟩⟩ ⟨rfl,hy⟩
    obtain ⟨st,hst,hrs⟩:=(g6.mono s4).mapGet' hy
    k_go
    refine ⟨y,st,rfl,hrs,ln2 st (xAc hst),fun l2 H5 s5 n5 zz0=>?_⟩
    obtain ⟨zs,hz,hzs⟩:=zz0
    have hs5:=s5 _ _ hl4
    have l1:=hus.mapLen
    have l2':=hzs.mapLen
    have a1:=aLen j
    have a2:=ln2 st (xAc hst)
    have a3:=(xAq.mp hst).1
    rw [xAo] at l1
    k_go
    refine jg hs5 hz (lineMe (by lia)) ?_
    have tl:TLe H5 (upd H5 la (.lst (us++zs))):=TLe.upd fun xs z=>by rw [hs5] at z;cases z
    k_go
    refine ⟨some y,rfl,(s4.trans s5).upd_new n3,⟨_,ah,?_⟩⟩
    rw [aV hst,← List.cons_append,xAi]
    exact ((hus.mono s5).app hzs).le tl
   ·rintro σ H4 ⟨v5,rfl,s4,hla⟩
    rw [g6.mapLen,xAu] at hla
    obtain ⟨us,hl4,hus⟩:=hla
    generalize has:x.2.last::x.2.steps.flatMap Stp.ops=as at hus
    have b1:∀ k,Atom.nm k∈as→0≤k∧k<100000:=fun k hk=>by
     rw [← has,xAv,xA4] at hk
     exact bd k ⟨x,xAc hx,hk.imp (fun z=>z.symm) id⟩
    have nla:la≠a:=fun z=>by rw [z] at n3;obtain ⟨kvs,e⟩:=k2.at;rw [n3] at e;cases e
    k_go
    refine aL (aS (xs:=us)) (fun j σ H5=>∃ (v6 v7:Option V),σ=[some v,some (.ref a),some (.ref q2),some (.ref p2),some (.ref la),v5,v6,v7]∧Same H H5∧H5 l=some (.lst vs)∧H5 la=some (.lst us)∧TLe H4 H5∧KS H5 a (fun k=>MK (L.take i) k∨Atom.nm k∈as.take j)) ⟨_,_,rfl,t2.trans s4,s4 _ _ hl2,hl4,.refl,(k2.same s4).congr fun k=>⟨.inl,fun z=>z.elim id fun y=>by cases y⟩⟩ (by rintro _ _ _ _ ⟨_,_,_,_,_,z,_⟩;exact .of z) ?_ ?_
    ·rintro _ j _ σ _ y H5 hj ⟨v6,v7,rfl,t5,hl5,hla5,le5,k5⟩ ⟨rfl,hy⟩
     obtain ⟨at',hat,hra⟩:=(hus.le le5).mapGet' hy
     obtain ⟨pa,wd,n,rfl,hpa,hcase⟩:=Atom.inv hra
     k_go
     rcases hcase with ⟨rfl,rfl⟩ | ⟨rfl,rfl⟩
     ·k_go
      refine ⟨_,_,rfl,t5,hl5,hla5,le5,k5.congr fun k=>?_⟩
      rw [a0 hat]
      exact or_congr Iff.rfl ⟨.inl,fun z=>z.elim id fun e=>by cases e⟩
     ·k_go
      refine eE k5 (fun k hk=>hk.elim (fun z=>bd k z.of_take) fun z=>b1 k (xBj z)) fun H6 kp6 le6 ne6 k6=>?_
      k_go
      refine ⟨_,_,rfl,fun c o e=>kp6 _ _ (t5 _ _ e) (by rw [xAm];exact ak e nl),?_,?_,le5.trans le6,k6.congr fun k=>?_⟩
      ·rw [ne6 l (k5.ne hl5)];exact hl5
      ·rw [ne6 la nla];exact hla5
      ·rw [a0 hat,or_assoc]
       exact or_congr Iff.rfl (or_congr Iff.rfl ⟨fun e=>by rw [e],fun e=>by injection e⟩)
    ·rintro σ H5 ⟨v6,v7,rfl,t5,hl5,hla5,le5,k5⟩
     k_go
     refine ⟨_,_,_,_,_,_,rfl,t5,hl5,hvs2.le ((TLe.of s4).trans le5),k5.congr fun k=>?_⟩
     rw [hus.mapLen,xAu,MK.succ hx,has]
  ·rintro σ H2 ⟨v2,v3,v4,v5,v6,v7,rfl,t2,hl2,hvs2,k2⟩
   k_go
   rw [hvs2.mapLen,xAu] at k2
   exact oH k2 fun l2 ns H3 s3 n3 e3 p3 m3=>q l2 H3 ns (t2.trans s3) (t2.free n3) e3 p3 fun k=>(m3 k).trans (MK.men hL k)
end
section
variable {P:Program} {w:World} {K:xFr} {mg:Str→Option Value} {base:Heap}
abbrev sCell:Stmt:=top 17
def spCell (K:xFr):Sp:=fun vs H Q _=>∃ (a:Addr) (ns:List Int) (k:Int),vs=[.ref a,.int k]∧0≤k∧SqL K H a (ns.map V.int)∧Q (.int (ns.getD k.toNat 0)) H
def gcell:Scope:={ kind:=.function,names:=[("_law_script",.local),("_law_k",.local),("len",.globalImplicit)],isGenerator:=false,isCoroutine:=false,more:=[] }
theorem sccell:FnScope ["_law_script","_law_k"] ["_law_script","_law_k"] gcell:=⟨rfl,rfl,rfl,by decide +kernel,rfl,by decide +kernel,by decide +kernel⟩
theorem sT (F:Dn K mg "_law_cell_at" sCell ["_law_script","_law_k"]) (T:Txt K mg):Cal P w K mg base "_law_cell_at" 1 ["_law_script","_law_k"] (spCell K):=by
 refine F.ok sccell rfl (fun vs H Q E h=>?_) (fun f cdv A outer s H vs Q E hr h=>?_)
 ·obtain ⟨a,ns,k,rfl,_⟩:=h
  rfl
 ·obtain ⟨a,ns,k,rfl,h0,hS,q⟩:=h
  refine' ⟨?tt,QSs.h ?hh,?gg⟩
  case hh=>exact (ab (aE (ap gj (qv 1) (bV qT rfl T.zlen gK (ae (qv 0) aa)) (nomark _)) (ag (ao (au lV (qv 0) (qv 1)))) ar)
   (ag (ao af)))
  k_go
  refine rE hS ?_
  k_go
  refine ba (fun z=>?_) (fun z=>?_)
  ·have z1:=xBe z
   obtain ⟨v,ev,eg⟩:=xf (xs:=ns.map V.int) h0 z1
   rw [xAw] at eg
   cases ek:ns[k.toNat]? with
   | none=>rw [ek] at eg;cases eg
   | some c =>
    rw [ek] at eg
    cases eg
    rw [xBz,ek] at q
    k_go
    exact ⟨a,_,_,_,rfl,rfl,hS,ev,q⟩
  ·have z1:=xBf z
   rw [xAa] at z1
   rw [xBz,xA9 (by lia)] at q
   k_go
   exact q
end
section
variable {P:Program} {w:World} {K:xFr} {mg:Str→Option Value} {base:Heap}
abbrev sTake:Stmt:=top 19
def spTake:Sp:=fun vs H Q _=>∃ (a:Addr) (n s:Int) (r:List (Key×V)) (m:Int),vs=[.ref a,.int m]∧H a=some (.dK (digK n s r))∧DigR r∧DigN n s∧0<m∧m≤10 ^ 18 ∧
 ∀ n' s' d,DigN n' s'→0≤d→d<m→Q (.int d) (upd H a (.dK (digK n' s' r)))
def gtake:Scope:={ kind:=.function,names:=[("_law_state_here",.local),("_law_many",.local),("_law_digit",.local)],isGenerator:=false,isCoroutine:=false,more:=[] }
theorem sctake:FnScope ["_law_state_here","_law_many","_law_digit"] ["_law_state_here","_law_many"] gtake:=⟨rfl,rfl,rfl,by decide +kernel,rfl,by decide +kernel,by decide +kernel⟩
theorem sM (F:Dn K mg "_law_take" sTake ["_law_state_here","_law_many"]) (T:Txt K mg):Cal P w K mg base "_law_take" 1 ["_law_state_here","_law_many"] spTake:=by
 refine F.ok sctake rfl (fun vs H Q E h=>?_) (fun f cdv A outer s H vs Q E hr h=>?_)
 ·obtain ⟨a,n,s,r,m,rfl,_⟩:=h
  rfl
 ·obtain ⟨a,n,sd,r,m,rfl,ha,dr,dn,m0,m1,q⟩:=h
  have hu:=bJ hr
  refine' ⟨?tt,QSs.h ?hh,?gg⟩
  case hh=>exact (ab (aE (QW.pt (eW (ap aM (aG hu (qv 0) aj) af (nomark _)) (dI (ap gY (aG hu (qv 0) aj) af (nomark _))))) (ab (bc hu (qv 0) aj (aF cq (aF iI (aG hu (qv 0) aj) af) af))
   (ag (bc hu (qv 0) aj (aF cq (aF iI (aG hu (qv 0) aj) (aG hu (qv 0) aj)) af)))) ar)
   (ab (aD (i:=2) sctake.nd rfl (Or.inl rfl) (aF cq (aG hu (qv 0) aj) (qv 1)))
   (ab (bc hu (qv 0) aj (aF gk (aG hu (qv 0) aj) (qv 1)))
   (ag (ao (qv 2))))))
  have few:(digK n sd r).length≤1000:=by have:=dr.few;simp only [digK,xAo];lia
  have fin:∀ (n s:Int) (σ:St) (H2:Hp),DigN n s→H2=upd H a (.dK (digK n s r))→σ=[some (.ref a),some (.int m),none]→tSeq (tAsg (tOp (rI (fun _ j=>0<j) fun i j=>.int (i % j)) (tDGet (tVar 0) (tC (.str "number"))) (tVar 1)) (gName 2)) (tSeq (sDPut (tVar 0) (tC (.str "number")) (tOp (rI CDivP fun i j=>.int (i / j)) (tDGet (tVar 0) (tC (.str "number"))) (tVar 1))) (tRet (tVar 2))) { nx:=fun _ H'=>Q .non H',rt:=Q } σ H2:=by
   rintro n s σ _ dn rfl rfl
   have hb:upd H a (.dK (digK n s r)) a=some (.dK (digK n s r)):=ah
   have few:(digK n s r).length≤1000:=by have:=dr.few;simp only [digK,xAo];lia
   k_go
   refine r_I m0 ?_
   k_go
   refine r_I ⟨m0,m1⟩ ?_
   k_go
   refine dH hb few ?_
   rw [gi dr,ip]
   k_go
   exact q _ _ _ ⟨Int.ediv_nonneg dn.n0 (by lia),dn.s0,dn.s1⟩ (xBa _ (by lia)) (xBb _ m0)
  have upd0:H=upd H a (.dK (digK n sd r)):=by
   funext b
   by_cases e:b=a
   ·rw [e,ah,ha]
   ·rw [aA e]
  k_go
  refine ba (fun z=>?_) (fun z=>?_)
  ·k_go
   refine ba (fun z=>?_) (fun z=>?_)
   ·k_go
    refine r_I (.inr ⟨by decide,by decide⟩) ?_
    k_go
    refine r_I (by decide) ?_
    k_go
    refine dH ha few ?_
    rw [oW dr]
    generalize hs2:sd * 48271 % 2147483647=s2
    have d2:0≤s2:=by rw [← hs2];exact xBa _ (by decide)
    have d3:s2<2147483647:=by rw [← hs2];exact xBb _ (by decide)
    have hb:upd H a (.dK (digK n s2 r)) a=some (.dK (digK n s2 r)):=ah
    k_go
    refine r_I (.inr ⟨by lia,by lia⟩) ?_
    k_go
    refine r_I (by decide) ?_
    k_go
    refine dH hb (by have:=dr.few;simp only [digK,xAo];lia) ?_
    rw [gi dr,ip]
    exact fin _ _ _ _ ⟨xBa _ (by decide),d2,d3⟩ rfl rfl
   ·exact fin n sd _ _ dn upd0 rfl
  ·refine bj rfl ?_
   exact fin n sd _ _ dn upd0 rfl
end
section
variable {P:Program} {w:World} {K:xFr} {mg:Str→Option Value} {base:Heap}
abbrev sNew:Stmt:=top 20
abbrev sAtom:Stmt:=top 21
abbrev sAtoms:Stmt:=top 22
abbrev sPick:Stmt:=top 23
abbrev sPlain:Stmt:=top 24
abbrev sStep:Stmt:=top 25
abbrev sBody:Stmt:=top 26
abbrev sAof:Stmt:=top 27
abbrev sBof:Stmt:=top 28
abbrev sUsed:Stmt:=top 29
abbrev sState:Stmt:=top 18
abbrev sCode:Stmt:=top 30
abbrev sRests:Stmt:=top 5
abbrev sNeed:Stmt:=top 7
abbrev sStands:Stmt:=top 8
abbrev sAdd:Stmt:=top 9
abbrev sUic:Stmt:=top 10
abbrev sBoth:Stmt:=top 11
abbrev sSlots:Stmt:=top 13
abbrev sGive:Stmt:=top 14
abbrev sLw:Stmt:=top 15
abbrev sGvn:Stmt:=top 31
abbrev sBth:Stmt:=top 32
abbrev sHolds:Stmt:=top 33
abbrev sBegun:Stmt:=top 34
abbrev sArms:Stmt:=top 35
abbrev sWalk:Stmt:=top 36
abbrev sLaw:Stmt:=top 37
structure SA where
 (a b:Addr)
def SA.fp (A:SA):List Addr:=[A.a,A.b]
structure S41 where
 num:Int
 seed:Int
 left:Int
 n:Nat
 bx:Int→Prop
 by':Int
def restK (A:SA) (S:S41):List (Key×V):=[(.inr "left",.int S.left),(.inr "names",.int S.n),(.inr "boxes",.ref A.b),(.inr "by",.int S.by')]
def kv (A:SA) (S:S41):List (Key×V):=digK S.num S.seed (restK A S)
theorem digR {A:SA} {S:S41}:DigR (restK A S):=⟨fun kv hk=>by
 simp only [restK,xAv,xBv,or_false] at hk
 rcases hk with rfl | rfl | rfl | rfl
 ·exact ⟨show (Sum.inr ("left":Str):Key)≠Sum.inr ("number":Str) from by decide +kernel,show (Sum.inr ("left":Str):Key)≠Sum.inr ("seed":Str) from by decide +kernel⟩
 ·exact ⟨show (Sum.inr ("names":Str):Key)≠Sum.inr ("number":Str) from by decide +kernel,show (Sum.inr ("names":Str):Key)≠Sum.inr ("seed":Str) from by decide +kernel⟩
 ·exact ⟨show (Sum.inr ("boxes":Str):Key)≠Sum.inr ("number":Str) from by decide +kernel,show (Sum.inr ("boxes":Str):Key)≠Sum.inr ("seed":Str) from by decide +kernel⟩
 ·exact ⟨show (Sum.inr ("by":Str):Key)≠Sum.inr ("number":Str) from by decide +kernel,show (Sum.inr ("by":Str):Key)≠Sum.inr ("seed":Str) from by decide +kernel⟩
 ,by simp [restK]⟩
theorem iR {A:SA} {S:S41}:valV (kv A S) (.inr "left")=some (.int S.left):=by kernel_rfl
theorem jy {A:SA} {S:S41}:valV (kv A S) (.inr "names")=some (.int S.n):=by kernel_rfl
theorem c9 {A:SA} {S:S41}:valV (kv A S) (.inr "boxes")=some (.ref A.b):=by kernel_rfl
theorem yc {A:SA} {S:S41}:valV (kv A S) (.inr "by")=some (.int S.by'):=by kernel_rfl
theorem sh {A:SA} {S:S41} {i:Int}:putK (kv A S) (.inr "left") (.int i)=kv A { S with left:=i }:=by kernel_rfl
theorem o7 {A:SA} {S:S41} {i:Nat}:putK (kv A S) (.inr "names") (.int i)=kv A { S with n:=i }:=by kernel_rfl
theorem qk {A:SA} {S:S41}:(kv A S).length≤1000:=by show 6≤1000;decide
structure ST (H:Hp) (A:SA) (S:S41):Prop where
 da:H A.a=some (.dK (kv A S))
 db:KS H A.b S.bx
 ne:A.b≠A.a
 bb:∀ k,S.bx k→0≤k∧k<211
 b0:0<S.by'
 b1:S.by'<211
 dg:DigN S.num S.seed
section
variable {H H':Hp} {A:SA} {S:S41}
theorem ST.noT (h:ST H A S):NoT A.fp H:=fun a ha xs z=>by
 simp only [SA.fp,xAv,xBv,or_false] at ha
 rcases ha with rfl | rfl
 ·rw [h.da] at z;cases z
 ·exact h.db.noT xs z
theorem ST.tle (h:ST H A S) (k:Kept A.fp H H'):TLe H H':=k.tle h.noT
theorem ST.has (h:ST H A S):∀ b∈A.fp,H b≠none:=fun a ha z=>by
 simp only [SA.fp,xAv,xBv,or_false] at ha
 obtain ⟨kvs,e⟩:=h.db.at
 rcases ha with rfl | rfl
 ·rw [h.da] at z;cases z
 ·rw [e] at z;cases z
theorem ST.out (h:ST H A S) {b:Addr} (hb:H b=none):b ∉ A.fp:=fun z=>h.has b z hb
theorem ST.lst (h:ST H A S) {b:Addr} {xs:List V} (hb:H b=some (.lst xs)):b ∉ A.fp:=fun z=>by
 simp only [SA.fp,xAv,xBv,or_false] at z
 obtain ⟨kvs,e⟩:=h.db.at
 rcases z with rfl | rfl
 ·rw [h.da] at hb;cases hb
 ·rw [e] at hb;cases hb
theorem ST.same (h:ST H A S) (s:Same H H'):ST H' A S:=⟨s _ _ h.da,h.db.same s,h.ne,h.bb,h.b0,h.b1,h.dg⟩
theorem ST.side (h:ST H A S) {b:Addr} {o:HO} (hb:b ∉ A.fp):ST (upd H b o) A S :=
 ⟨by rw [aA (show A.a≠b from fun z=>hb (by rw [← z];simp [SA.fp]))];exact h.da,h.db.kept (fp:=[b]) (.put (by simp)) (fun z=>hb (by simp only [xAm] at z;rw [← z];simp [SA.fp])),h.ne,h.bb,h.b0,h.b1,h.dg⟩
theorem ST.setA (h:ST H A S) {S':S41} (e1:S'.bx=S.bx) (e2:S'.by'=S.by') (dg:DigN S'.num S'.seed):ST (upd H A.a (.dK (kv A S'))) A S' :=
 ⟨ah,by rw [e1];exact h.db.kept (fp:=[A.a]) (.put (by simp)) (by simp [h.ne]),h.ne,by rw [e1];exact h.bb,by rw [e2];exact h.b0,by rw [e2];exact h.b1,dg⟩
end
structure Th (H:Hp) (t:Addr) (ts:List Int):Prop where
 at':H t=some (.lst (ts.map V.int))
 bd:∀ k∈ts,0≤k∧k<211
 len:ts.length≤1000
theorem Th.mono {H H':Hp} {t:Addr} {ts:List Int} (h:Th H t ts) (s:Same H H'):Th H' t ts:=⟨s _ _ h.at',h.bd,h.len⟩
theorem Th.kept {H H':Hp} {fp:List Addr} {t:Addr} {ts:List Int} (h:Th H t ts) (s:Kept fp H H') (n:t ∉ fp):Th H' t ts:=⟨s _ _ h.at' n,h.bd,h.len⟩
theorem le18 {n:Nat} (h:n≤5000):(n:Int)≤10 ^ 18:=by
 have:(10:Int) ^ 18=1000000000000000000:=by decide
 lia
def spTk:Sp:=fun vs H Q _=>∃ (A:SA) (S:S41) (m:Int),vs=[.ref A.a,.int m]∧ST H A S∧0<m∧m≤10 ^ 18∧∀ H' n s d,Kept A.fp H H'→ST H' A { S with num:=n,seed:=s }→0≤d→d<m→Q (.int d) H'
theorem xV (c:Cal P w K mg base "_law_take" 1 ["_law_state_here","_law_many"] spTake):Cal P w K mg base "_law_take" 1 ["_law_state_here","_law_many"] spTk :=
 c.imp fun vs H Q E ⟨A,S,m,e,st,m0,m1,q⟩=>⟨A.a,S.num,S.seed,restK A S,m,e,st.da,digR,st.dg,m0,m1,fun n' s' d dn d0 d1=>q _ n' s' d (.put (by simp [SA.fp])) (st.setA (S':={ S with num:=n',seed:=s' }) rfl rfl dn) d0 d1⟩
end
section
variable {P:Program} {w:World} {K:xFr} {mg:Str→Option Value} {base:Heap}
def spNew:Sp:=fun vs H Q _=>∃ (A:SA) (S:S41),vs=[.ref A.a]∧ST H A S∧∀ H' v,Kept A.fp H H'→ST H' A { S with n:=S.n+1 }→Rng S.by' S.n (S.n+1) v→Q (.int v) H'
def gnew:Scope:={ kind:=.function,names:=[("_law_state_here",.local)],isGenerator:=false,isCoroutine:=false,more:=[] }
theorem scnew:FnScope ["_law_state_here"] ["_law_state_here"] gnew:=⟨rfl,rfl,rfl,by decide +kernel,rfl,by decide +kernel,by decide +kernel⟩
theorem wq (F:Dn K mg "_law_new" sNew ["_law_state_here"]) (T:Txt K mg):Cal P w K mg base "_law_new" 1 ["_law_state_here"] spNew:=by
 refine F.ok scnew rfl (fun vs H Q E h=>?_) (fun f cdv A outer s H vs Q E hr h=>?_)
 ·obtain ⟨A,S,rfl,_⟩:=h
  rfl
 ·obtain ⟨A1,S,rfl,st,q⟩:=h
  have hu:=bJ hr
  refine' ⟨?tt,QSs.h ?hh,?gg⟩
  case hh=>exact (ab (bc hu (qv 0) aj (aF eX (aG hu (qv 0) aj) af))
   (ag (ao (aF cq (aF iI (aG hu (qv 0) aj) (aG hu (qv 0) aj)) af))))
  k_go
  refine bv st.da jy ?_
  k_go
  refine dH st.da qk ?_
  rw [show (S.n:Int)+1=((S.n+1:Nat):Int) by lia,o7]
  have st1:=st.setA (S':={ S with n:=S.n+1 }) rfl rfl st.dg
  k_go
  refine bv st1.da jy ?_
  k_go
  refine bv st1.da yc ?_
  k_go
  refine r_I (.inr ⟨by have:=st.b0;show _≤S.by';lia,by have:=st.b1;show S.by'<_;lia⟩) ?_
  k_go
  refine r_I (by decide) ?_
  k_go
  exact q _ _ (.put (by simp [SA.fp])) st1 ⟨S.n+1,by lia,xAg _,rfl⟩
end
section
variable {P:Program} {w:World} {K:xFr} {mg:Str→Option Value} {base:Heap}
def spAtom:Sp:=fun vs H Q _=>∃ (A:SA) (S:S41) (t:Addr) (ts:List Int),vs=[.ref A.a,.ref t]∧ST H A S∧Th H t ts∧∀ H' n s at' v,Kept A.fp H H'→ST H' A { S with num:=n,seed:=s }→Rp H' (Atom.d at') v→(∀ k,at'=Atom.nm k→k∈ts)→Q v H'
def gatom:Scope:={ kind:=.function,names:=[("_law_state_here",.cell),("_law_there",.local),("_law_plain",.local),("_law_take",.globalImplicit),("len",.globalImplicit)],isGenerator:=false,isCoroutine:=false,more:=[("fast",.str "_law_state_here"),("fast",.str "_law_there"),("fast",.str "_law_name"),("fast",.str "_law_plain")] }
theorem scatom:FnScope ["_law_state_here","_law_there","_law_plain"] ["_law_state_here","_law_there"] gatom:=⟨rfl,rfl,rfl,by decide +kernel,rfl,by decide +kernel,by decide +kernel⟩
theorem sV (F:Dn K mg "_law_atom" sAtom ["_law_state_here","_law_there"]) (T:Txt K mg) (c__law_take:Cal P w K mg base "_law_take" 1 ["_law_state_here","_law_many"] spTk):Cal P w K mg base "_law_atom" 2 ["_law_state_here","_law_there"] spAtom:=by
 refine F.ok scatom rfl (fun vs H Q E h=>?_) (fun f cdv A outer s H vs Q E hr h=>?_)
 ·obtain ⟨A,S,t,ts,rfl,_⟩:=h
  rfl
 ·obtain ⟨A1,S,t,ts,rfl,st,th,q⟩:=h
  have hu:=bJ hr
  have hu0:=hr.units0
  refine' ⟨?tt,QSs.h ?hh,?gg⟩
  case hh=>exact (ab (dv (i:=2) scatom.nd rfl rfl (ls:=["_law_name"]) (N:=["_law_state_here"]) (fr:=[0]) rfl (CapsG.mk' rfl (by decide +kernel) rfl (by decide +kernel) (.cons ⟨⟨_,rfl,rfl⟩,rfl,rfl,rfl⟩ .nil) (by decide +kernel) rfl) (aP (qv 1)) (fun C s H fp=>(am (i:=0) (show (["_law_name","_law_state_here"]:List Str).Nodup by decide +kernel) rfl (Or.inl rfl))) (fun C s H fp=>(cK (bH (mU hu (qv 0) (aG hu (qv 1) aj))))) (fun C s H fp=>(qv 0)))
   (ab (aE (QW.pt (eW (bH (fN hu0 (qv 2))) (dI (ap gY (av c__law_take hr rfl (ae (qv 0) (ae af aa))) af (nomark _))))) (ag (ao (aB (ae aj (ae (au dF (qv 2) (av c__law_take hr rfl (ae (qv 0) (ae (bV fZ rfl T.zlen gK (ae (qv 2) aa)) aa)))) aa))))) ar)
   (ag (ao (aB (ae aj (ae (av c__law_take hr rfl (ae (qv 0) (ae af aa))) aa)))))))
  have tA:=th.at'
  k_go
  refine bS (aS (xs:=ts.map V.int)) (fun B i ys H2=>H2 B=some (.lst ys)∧Same H H2∧H B=none∧∃ us:List Int,ys=us.map V.int∧(∀ k∈us,k∈ts)∧us.length≤i) (fun B hB=>⟨ah,aw hB _,hB,[],rfl,by simp,xAg _⟩) ?_ ?_ ?_
  ·rintro B i ys H2 hi ⟨h1,h2,h3,us,rfl,h4,h5⟩
   rw [xAa] at hi
   have:=th.len
   exact ⟨h1,by rw [xAa];exact lineM (by lia),.of (h2 _ _ tA)⟩
  ·rintro B i ys _ x H2 hi ⟨h1,h2,h3,us,rfl,h4,h5⟩ ⟨rfl,hx⟩
   obtain ⟨k,hk,rfl⟩:=xA2.mp (xAc hx)
   have st2:=st.same h2
   k_go
   refine ⟨rfl,rfl,?_⟩
   k_go
   refine bv st2.da c9 ?_
   refine oI st2.db fun b hb=>?_
   k_go
   refine ⟨h1,ba (fun z=>?_) (fun z=>?_)⟩
   ·k_go
    refine ⟨h1,ah,h2.upd_new h3,h3,us++[k],by simp,fun j hj=>?_,by rw [xAb,xAt];lia⟩
    rcases xAj.mp hj with hj | hj
    ·exact h4 j hj
    ·rw [xAm.mp hj];exact hk
   ·exact ⟨h1,h2,h3,us,rfl,h4,by lia⟩
  ·rintro B ys H2 ⟨h1,h2,h3,us,rfl,h4,h5⟩
   have st2:=st.same h2
   have lu:=th.len
   rw [xAa] at h5
   have oB:=st.out h3
   k_go
   refine ba (fun z=>?_) (fun z=>?_)
   ·k_go
    refine ⟨A1,S,3,rfl,st2,by decide,by decide,fun H3 n3 s3 d3 k3 st3 _ _=>?_⟩
    have K3:=(Kept.of (fp:=A1.fp) h2).trans k3
    have hB3:=k3 _ _ h1 oB
    k_go
    refine ba (fun z2=>?_) (fun z2=>?_)
    ·have hne:us.length≠0:=fun y=>by
      rw [List.length_eq_zero_iff.mp y] at z
      cases z
     k_go
     refine ⟨A1,_,_,rfl,st3,by rw [xAa];lia,by rw [xAa];exact le18 (by lia),fun H4 n4 s4 d4 k4 st4 d0 dl=>?_⟩
     rw [xAa] at dl
     have hd:d4.toNat<us.length:=by lia
     have hB4:=k4 _ _ hB3 oB
     refine gW (v:=.int us[d4.toNat]) hB4 ?_ ?_
     ·have:=cV (xs:=us.map V.int) (j:=d4.toNat) (v:=.int us[d4.toNat]) (by rw [xAw,xAk hd];rfl)
      rw [Int.toNat_of_nonneg d0] at this
      exact this
     k_go
     refine az fun p H6 s6 n6 h6=>?_
     exact q H6 n4 s4 (.nm us[d4.toNat]) (.ref p) (K3.trans (k4.trans (.of s6))) (st4.same s6) ⟨p,_,rfl,h6,_,_,rfl,rfl,.one rfl⟩ (fun k e=>by cases e;exact h4 _ (List.getElem_mem hd))
    ·k_go
     refine ⟨A1,_,4,rfl,st3,by decide,by decide,fun H5 n5 s5 d5 k5 st5 _ _=>?_⟩
     k_go
     refine az fun p H6 s6 n6 h6=>?_
     exact q H6 n5 s5 (.num d5) (.ref p) (K3.trans (k5.trans (.of s6))) (st5.same s6) ⟨p,_,rfl,h6,_,_,rfl,rfl,.one rfl⟩ (fun k e=>nomatch e)
   ·k_go
    refine ⟨A1,_,4,rfl,st2,by decide,by decide,fun H5 n5 s5 d5 k5 st5 _ _=>?_⟩
    k_go
    refine az fun p H6 s6 n6 h6=>?_
    exact q H6 n5 s5 (.num d5) (.ref p) ((Kept.of h2).trans (k5.trans (.of s6))) (st5.same s6) ⟨p,_,rfl,h6,_,_,rfl,rfl,.one rfl⟩ (fun k e=>nomatch e)
end
section
variable {P:Program} {w:World} {K:xFr} {mg:Str→Option Value} {base:Heap}
def spAtoms:Sp:=fun vs H Q _=>∃ (A:SA) (S:S41) (t:Addr) (ts:List Int),vs=[.ref A.a,.ref t]∧ST H A S∧Th H t ts∧∀ H' n s (as:List Atom) p,Kept A.fp H H'→ST H' A { S with num:=n,seed:=s }→Rp H' (.tup (as.map Atom.d)) (.ref p)→as.length≤4→(∀ k,Atom.nm k∈as→k∈ts)→Q (.ref p) H'
def gatoms:Scope:={ kind:=.function,names:=[("_law_state_here",.cell),("_law_there",.cell),("tuple",.globalImplicit),("range",.globalImplicit),("_law_take",.globalImplicit)],isGenerator:=false,isCoroutine:=false,more:=[("fast",.str "_law_state_here"),("fast",.str "_law_there"),("fast",.str "_law_k")] }
theorem scatoms:FnScope ["_law_state_here","_law_there"] ["_law_state_here","_law_there"] gatoms:=⟨rfl,rfl,rfl,by decide +kernel,rfl,by decide +kernel,by decide +kernel⟩
theorem pS (F:Dn K mg "_law_atoms" sAtoms ["_law_state_here","_law_there"]) (T:Txt K mg) (c__law_take:Cal P w K mg base "_law_take" 1 ["_law_state_here","_law_many"] spTk) (c__law_atom:Cal P w K mg base "_law_atom" 2 ["_law_state_here","_law_there"] spAtom):Cal P w K mg base "_law_atoms" 3 ["_law_state_here","_law_there"] spAtoms:=by
 refine F.ok scatoms rfl (fun vs H Q E h=>?_) (fun f cdv A outer s H vs Q E hr h=>?_)
 ·obtain ⟨A,S,t,ts,rfl,_⟩:=h
  rfl
 ·obtain ⟨A1,S,t,ts,rfl,st,th,q⟩:=h
  refine' ⟨?tt,QSs.h ?hh,?gg⟩
  case hh=>exact (ag (ao (aU a9 rfl T.ztuple bI (ae (bM (ls:=["_law_k"]) (N:=["_law_there","_law_state_here"]) (fr:=[1,0]) rfl (CapsG.mk' rfl (by decide +kernel) rfl (by decide +kernel) (.cons ⟨⟨_,rfl,rfl⟩,rfl,rfl,rfl⟩ (.cons ⟨⟨_,rfl,rfl⟩,rfl,rfl,rfl⟩ .nil)) (by decide +kernel) rfl) (ji rfl T.zrange (ae (av c__law_take hr rfl (ae (qv 0) (ae af aa))) aa)) (fun C s H fp=>(am (i:=0) (show (["_law_k","_law_there","_law_state_here"]:List Str).Nodup by decide +kernel) rfl (Or.inl rfl))) (fun C s H fp=>bN) (fun C s H fp=>(av c__law_atom hr rfl (ae (qv 2) (ae (qv 1) aa))))) aa))))
  have ot:=st.lst th.at'
  k_go
  refine ⟨A1,S,5,rfl,st,by decide,by decide,fun H1 n1 s1 d k1 st1 d0 d5=>?_⟩
  have th1:=th.kept k1 ot
  k_go
  refine eF (by lia) (by lia) ?_
  refine bS dk (fun B i ys H2=>H2 B=some (.lst ys)∧(B ∉ A1.fp∧H1 B=none)∧Kept A1.fp H1 H2∧∃ (n2 s2:Int) (as:List Atom),ST H2 A1 { S with num:=n2,seed:=s2 }∧Rps H2 (as.map Atom.d) ys∧as.length=i∧(∀ k,Atom.nm k∈as→k∈ts)) ?_ ?_ ?_ ?_
  ·intro B hB
   exact ⟨ah,⟨st1.out hB,hB⟩,.of (aw hB _),n1,s1,[],st1.same (aw hB _),rfl,rfl,fun k hk=>by cases hk⟩
  ·rintro B i ys H2 hi ⟨h1,h2,h3,n2,s2,as,h4,h5,h6,h7⟩
   exact ⟨h1,by rw [h5.mapLen];exact lineM (by lia),True.intro⟩
  ·rintro B i ys _ x H2 hi ⟨h1,⟨h2,hf⟩,h3,n2,s2,as,h4,h5,h6,h7⟩ ⟨rfl,rfl⟩
   have th2:=th1.kept h3 ot
   k_go
   refine ⟨rfl,rfl,?_⟩
   k_go
   refine ⟨h1,?_⟩
   k_go
   refine ⟨A1,_,t,ts,rfl,h4,th2,fun H3 n3 s3 a3 v3 k3 st3 r3 m3=>?_⟩
   have hB:=k3 _ _ h1 h2
   have tl:TLe H3 (upd H3 B (.lst (ys++[v3]))):=.upd fun xs z=>by rw [hB] at z;cases z
   refine ⟨hB,ah,⟨h2,hf⟩,fun b ob eb nb=>?_,n3,s3,as++[a3],st3.side h2,?_,by rw [xAb,h6];rfl,fun k hk=>?_⟩
   ·rw [aA (ak eb hf)];exact k3 _ _ (h3 b ob eb nb) nb
   ·rw [xAi]
    exact ((h5.le (h4.tle k3)).snoc r3).le tl
   ·rcases xAj.mp hk with hk | hk
    ·exact h7 k hk
    ·exact m3 k (xAm.mp hk).symm
  ·rintro B ys H2 ⟨h1,⟨h2,hf⟩,h3,n2,s2,as,h4,h5,h6,h7⟩
   k_go
   refine cg h1 fun p H3 s3 n3 h8=>?_
   exact q H3 n2 s2 as p (k1.trans (h3.trans (.of s3))) (h4.same s3) ⟨p,_,rfl,h8,h5.mono s3⟩ (by lia) h7
end
section
variable {P:Program} {w:World} {K:xFr} {mg:Str→Option Value} {base:Heap}
def spPick:Sp:=fun vs H Q _=>∃ (A:SA) (S:S41) (t:Addr) (ts:List Int),vs=[.ref A.a,.ref t]∧ST H A S∧Th H t ts∧∀ H' n s (us:List Int) p,Kept A.fp H H'→ST H' A { S with num:=n,seed:=s }→H' p=some (.tup (us.map V.int))→us.length≤1000→(∀ k∈us,k∈ts)→Q (.ref p) H'
def gpick:Scope:={ kind:=.function,names:=[("_law_state_here",.cell),("_law_there",.local),("tuple",.globalImplicit),("sorted",.globalImplicit)],isGenerator:=false,isCoroutine:=false,more:=[("fast",.str "_law_state_here"),("fast",.str "_law_there"),("fast",.str "_law_name")] }
theorem scpick:FnScope ["_law_state_here","_law_there"] ["_law_state_here","_law_there"] gpick:=⟨rfl,rfl,rfl,by decide +kernel,rfl,by decide +kernel,by decide +kernel⟩
theorem sO (F:Dn K mg "_law_pick" sPick ["_law_state_here","_law_there"]) (T:Txt K mg) (c__law_take:Cal P w K mg base "_law_take" 1 ["_law_state_here","_law_many"] spTk):Cal P w K mg base "_law_pick" 2 ["_law_state_here","_law_there"] spPick:=by
 refine F.ok scpick rfl (fun vs H Q E h=>?_) (fun f cdv A outer s H vs Q E hr h=>?_)
 ·obtain ⟨A,S,t,ts,rfl,_⟩:=h
  rfl
 ·obtain ⟨A1,S,t,ts,rfl,st,th,q⟩:=h
  refine' ⟨?tt,QSs.h ?hh,?gg⟩
  case hh=>exact (ag (ao (aU a9 rfl T.ztuple bI (ae (bM (ls:=["_law_name"]) (N:=["_law_state_here"]) (fr:=[0]) rfl (CapsG.mk' rfl (by decide +kernel) rfl (by decide +kernel) (.cons ⟨⟨_,rfl,rfl⟩,rfl,rfl,rfl⟩ .nil) (by decide +kernel) rfl) (aP (bV (eh) rfl T.zsorted cE (ae (qv 1) aa))) (fun C s H fp=>(am (i:=0) (show (["_law_name","_law_state_here"]:List Str).Nodup by decide +kernel) rfl (Or.inl rfl))) (fun C s H fp=>(cK (ap aM (av c__law_take hr rfl (ae (qv 1) (ae af aa))) af (nomark _)))) (fun C s H fp=>(qv 0))) aa))))
  k_go
  refine gf th.at' fun l ns H1 s1 n1 h1 pm pw=>?_
  have st1:=st.same s1
  have ol:=st.out n1
  k_go
  refine bS (aS (xs:=ns.map V.int)) (fun B i ys H2=>H2 B=some (.lst ys)∧(B ∉ A1.fp∧H1 B=none)∧Kept A1.fp H1 H2∧∃ (n2 s2:Int) (us:List Int),ST H2 A1 { S with num:=n2,seed:=s2 }∧ys=us.map V.int∧us.length≤i∧(∀ k∈us,k∈ns)) ?_ ?_ ?_ ?_
  ·intro B hB
   exact ⟨ah,⟨st1.out hB,hB⟩,.of (aw hB _),_,_,[],st1.same (aw hB _),rfl,xAg _,fun k hk=>by cases hk⟩
  ·rintro B i ys H2 hi ⟨h2,h3,h4,n2,s2,us,h5,rfl,h6,h7⟩
   have:=th.len
   rw [xAa,pm.length_eq] at hi
   exact ⟨h2,by rw [xAa];exact lineM (by lia),.of (h4 _ _ h1 ol)⟩
  ·rintro B i ys _ x H2 hi ⟨h2,⟨h3,hf⟩,h4,n2,s2,us,h5,rfl,h6,h7⟩ ⟨rfl,hx⟩
   obtain ⟨k,hk,rfl⟩:=xA2.mp (xAc hx)
   k_go
   refine ⟨rfl,rfl,?_⟩
   k_go
   refine ⟨A1,_,3,rfl,h5,by decide,by decide,fun H3 n3 s3 d3 k3 st3 _ _=>?_⟩
   have hB:=k3 _ _ h2 h3
   k_go
   refine ⟨hB,ba (fun z=>?_) (fun z=>?_)⟩
   ·k_go
    refine ⟨hB,ah,⟨h3,hf⟩,fun b ob eb nb=>?_,n3,s3,us++[k],st3.side h3,by simp,by rw [xAb,xAt];lia,fun j hj=>?_⟩
    ·rw [aA (ak eb hf)];exact k3 _ _ (h4 b ob eb nb) nb
    ·rcases xAj.mp hj with hj | hj
     ·exact h7 j hj
     ·rw [xAm.mp hj];exact hk
   ·exact ⟨hB,⟨h3,hf⟩,h4.trans k3,n3,s3,us,st3,rfl,by lia,h7⟩
  ·rintro B ys H2 ⟨h2,⟨h3,hf⟩,h4,n2,s2,us,h5,rfl,h6,h7⟩
   k_go
   refine cg h2 fun p H3 s3 n3 h8=>?_
   have:=th.len
   rw [xAa,pm.length_eq] at h6
   exact q H3 n2 s2 us p ((Kept.of s1).trans (h4.trans (.of s3))) (h5.same s3) h8 (by lia) (fun k hk=>pm.mem_iff.mp (h7 k hk))
end
section
variable {P:Program} {w:World} {K:xFr} {mg:Str→Option Value} {base:Heap}
def BLen (b:Bdy):Prop:=∀ x,In b x→x.2.steps.length≤4∧∀ s∈x.2.steps,s.ops.length≤1000∧∀ y∈s.inn,y.1.length≤4
structure RL (y:Int) (lo hi:Nat) (l:List Int):Prop where
 nd:l.Nodup
 fr:∀ k∈l,Rng y lo hi k
theorem RL.nil {y:Int} {lo hi:Nat}:RL y lo hi []:=⟨by simp,fun k hk=>by cases hk⟩
theorem RL.one {y:Int} {lo hi:Nat} {k:Int} (h:Rng y lo hi k):RL y lo hi [k]:=⟨by simp,fun j hj=>by rw [xAm.mp hj];exact h⟩
theorem RL.app {y:Int} {lo mi mi' hi:Nat} {l m:List Int} (h:RL y lo mi l) (g:RL y mi' hi m) (b0:0<y) (b1:y<211) (a:mi≤mi') (c:mi'≤hi) (d:hi≤210) (e:lo≤mi:=by lia):RL y lo hi (l++m) :=
 ⟨xBq.mpr ⟨h.nd,g.nd,fun x hx z hz q=>(h.fr x hx).apart b0 b1 (by rw [q];exact g.fr z hz) a d⟩,fun k hk=>(xAj.mp hk).elim (fun z=>(h.fr k z).mono (xAg _) (by lia)) fun z=>(g.fr k z).mono (by lia) (xAg _)⟩
theorem RL.perm {y:Int} {lo hi:Nat} {l m:List Int} (h:RL y lo hi l) (p:m.Perm l):RL y lo hi m:=⟨p.nodup_iff.mpr h.nd,fun k hk=>h.fr k (p.mem_iff.mp hk)⟩
def IsF:Stp→Prop
 | .func _ _ _ _=>True
 | _=>False
inductive NF:Bdy→Prop where
 | mk {b:Bdy} (h:∀ s∈b.steps,¬ IsF s) (i:∀ s∈b.steps,∀ x∈s.inn,NF x.2):NF b
theorem NF.no {b:Bdy} (h:NF b):∀ s∈b.steps,¬ IsF s:=by cases h;assumption
theorem NF.inn {b:Bdy} (h:NF b):∀ s∈b.steps,∀ x∈s.inn,NF x.2:=by cases h;assumption
structure BOk (S S':S41) (ts:List Int) (b:Bdy):Prop where
 l0:0≤S'.left
 lf:S'.left≤S.left
 cn:(b.cnt:Int)+2 * S'.left≤2 * S.left+1
 len:BLen b
 yy:S'.by'=S.by'
 nn:S.n≤S'.n
 pot:(S'.n:Int)+5 * S'.left≤S.n+5 * S.left
 gl:RL S.by' S.n S'.n b.gl
 sc:Scp ts b
 nf:NF b
structure StOk (m l p:Int) (S S':S41) (ts:List Int) (s:Stp):Prop where
 l0:0≤S'.left
 lf:S'.left≤l
 cn:(s.cnt:Int)+2 * S'.left≤m
 len:s.ops.length≤1000
 inn:∀ x∈s.inn,BLen x.2
 pn:∀ x∈s.inn,x.1.length≤4
 yy:S'.by'=S.by'
 nn:S.n≤S'.n
 pot:(S'.n:Int)+5 * S'.left≤p
 gl:RL S.by' S.n S'.n s.gl
 op:∀ k,Atom.nm k∈s.ops→k∈ts
 sc:∀ x∈s.inn,Scp (ts++x.1) x.2
 fn:¬ IsF s
 nf:∀ x∈s.inn,NF x.2
theorem StOk.flat {m l p:Int} {S S':S41} {ts:List Int} {s:Stp} (l0:0≤S'.left) (lf:S'.left≤l) (cn:2 * S'.left≤m) (pot:(S'.n:Int)+5 * S'.left≤p) (len:s.ops.length≤1000) (t0:Rng S.by' S.n (S.n+1) s.to) (op:∀ k,Atom.nm k∈s.ops→k∈ts) (inn:s.inn=[]) (yy:S'.by'=S.by':=by rfl) (nn:S'.n=S.n+1:=by rfl) (fn:¬ IsF s:=by exact fun z=>z):StOk m l p S S' ts s:=by
 have h0:∀ x∈s.inn,False:=fun x hx=>by rw [inn] at hx;cases hx
 refine ⟨l0,lf,?_,len,fun x hx=>(h0 x hx).elim,fun x hx=>(h0 x hx).elim,yy,by lia,pot,?_,op,fun x hx=>(h0 x hx).elim,fn,fun x hx=>(h0 x hx).elim⟩
 ·have:=mz s
  rw [inn] at this
  rw [← this]
  change ((0:Nat):Int)+_≤_
  lia
 ·rw [s.gl_eq,inn,nn]
  exact .one t0
def spBody (L:Nat):Sp:=fun vs H Q _=>∃ (A:SA) (S:S41) (t:Addr) (ts:List Int) (d:Int),vs=[.ref A.a,.ref t,.int d]∧(0≤d∧d≤3)∧ST H A S∧Th H t ts∧(ts.length:Int)+10 * S.left≤900∧(S.n:Int)+5 * S.left≤208∧0≤S.left∧S.left≤L ∧
 ∀ H' S' b v,Kept A.fp H H'→ST H' A S'→Rp H' (Bdy.d b) v→BOk S S' ts b→Q v H'
def spStep (L:Nat):Sp:=fun vs H Q _=>∃ (A:SA) (S:S41) (t:Addr) (ts:List Int) (d:Int),vs=[.ref A.a,.ref t,.int d]∧(0≤d∧d≤3)∧ST H A S∧Th H t ts∧(ts.length:Int)+10 * S.left≤900∧(S.n:Int)+5 * S.left≤208∧1≤S.left∧S.left≤L ∧
 ∀ H' S' s v,Kept A.fp H H'→ST H' A S'→Rp H' (Stp.d s) v→StOk (2 * S.left) (S.left - 1) (S.n+5 * S.left) S S' ts s→Q v H'
def spPlain:Sp:=fun vs H Q _=>∃ (A:SA) (S:S41) (t:Addr) (ts:List Int) (way pl:Int),vs=[.ref A.a,.ref t,.int way,.int pl]∧(0≤way∧way≤10)∧ST H A S∧Th H t ts∧0≤S.left ∧
 ∀ H' S' s v,Kept A.fp H H'→ST H' A S'→Rp H' (Stp.d s) v→StOk (2 * S.left) S.left (S.n+5 * S.left+5) S S' ts s→Q v H'
theorem Th.app {H H':Hp} {t t':Addr} {ts ps:List Int} (h:Th H t ts) (e:H' t'=some (.lst (ts.map V.int++ps.map V.int))) (hp:∀ k∈ps,0≤k∧k<211) (hl:ts.length+ps.length≤1000):Th H' t' (ts++ps) :=
 ⟨by rw [e,xAi],fun k hk=>(xAj.mp hk).elim (h.bd k) (hp k),by rw [xAb];exact hl⟩
end
section
variable {P:Program} {w:World} {K:xFr} {mg:Str→Option Value} {base:Heap}
theorem fM {tt:TT} {t u rest:TS} {Dn:Ends} {σ:St} {H:Hp} (R:St→Hp→Prop) (core:∀ σ' H',R σ' H'→rest Dn σ' H') (h:(∀ σ' H',R σ' H'→rest Dn σ' H')→tIfS tt t u { Dn with nx:=rest Dn } σ H):tSeq (tIfS tt t u) rest Dn σ H:=h core
def gplain:Scope:={ kind:=.function,names:=[("_law_state_here",.cell),("_law_there",.local),("_law_way",.local),("_law_place",.local),("_law_boxes",.local),("_law_box",.local),("_law_first",.local),("_law_step_here",.local),("_law_take",.globalImplicit),("len",.globalImplicit),("_law_new",.globalImplicit),("_law_atom",.globalImplicit),("_law_atoms",.globalImplicit),("_law_pick",.globalImplicit)],isGenerator:=false,isCoroutine:=false,more:=[("fast",.str "_law_state_here"),("fast",.str "_law_there"),("fast",.str "_law_way"),("fast",.str "_law_place"),("fast",.str "_law_name"),("fast",.str "_law_boxes"),("fast",.str "_law_box"),("fast",.str "_law_first"),("fast",.str "_law_step_here")] }
theorem scplain:FnScope ["_law_state_here","_law_there","_law_way","_law_place","_law_boxes","_law_box","_law_first","_law_step_here"] ["_law_state_here","_law_there","_law_way","_law_place"] gplain:=⟨rfl,rfl,rfl,by decide +kernel,rfl,by decide +kernel,by decide +kernel⟩
theorem pO (F:Dn K mg "_law_plain_step" sPlain ["_law_state_here","_law_there","_law_way","_law_place"]) (T:Txt K mg) (c__law_take:Cal P w K mg base "_law_take" 1 ["_law_state_here","_law_many"] spTk) (c__law_new:Cal P w K mg base "_law_new" 1 ["_law_state_here"] spNew) (c__law_atom:Cal P w K mg base "_law_atom" 2 ["_law_state_here","_law_there"] spAtom) (c__law_atoms:Cal P w K mg base "_law_atoms" 3 ["_law_state_here","_law_there"] spAtoms) (c__law_pick:Cal P w K mg base "_law_pick" 2 ["_law_state_here","_law_there"] spPick):Cal P w K mg base "_law_plain_step" 4 ["_law_state_here","_law_there","_law_way","_law_place"] spPlain:=by
 refine F.ok scplain rfl (fun vs H Q E h=>?_) (fun f cdv A outer s H vs Q E hr h=>?_)
 ·obtain ⟨A,S,t,ts,way,pl,rfl,_⟩:=h
  rfl
 ·obtain ⟨A1,S,t,ts,way,pl,rfl,⟨w0,w1⟩,st,th,l0,q⟩:=h
  have hu:=bJ hr
  have hu0:=hr.units0
  refine' ⟨?tt,QSs.h ?hh,?gg⟩
  case hh=>exact (ab (dv (i:=4) scplain.nd rfl rfl (ls:=["_law_name"]) (N:=["_law_state_here"]) (fr:=[0]) rfl (CapsG.mk' rfl (by decide +kernel) rfl (by decide +kernel) (.cons ⟨⟨_,rfl,rfl⟩,rfl,rfl,rfl⟩ .nil) (by decide +kernel) rfl) (aP (qv 1)) (fun C s H fp=>(am (i:=0) (show (["_law_name","_law_state_here"]:List Str).Nodup by decide +kernel) rfl (Or.inl rfl))) (fun C s H fp=>(cK (bH (oV hu (qv 0) (aG hu (qv 1) aj))))) (fun C s H fp=>(qv 0)))
   (ab (aE (QW.pt (eW (ap gY (qv 2) af (nomark _)) (dI (bH (fN hu0 (qv 4)))))) (ab (aD (i:=5) scplain.nd rfl (Or.inl rfl) (au dF (qv 4) (av c__law_take hr rfl (ae (qv 0) (ae (bV fZ rfl T.zlen gK (ae (qv 4) aa)) aa)))))
   (ab (aE (ap aM (qv 2) af (nomark _)) (ag (ao (aB (ae aj (ae (av c__law_new hr rfl (ae (qv 0) aa)) (ae (qv 5) aa)))))) ar)
   (ag (ao (aB (ae aj (ae (av c__law_new hr rfl (ae (qv 0) aa)) (ae (qv 5) (ae (av c__law_atom hr rfl (ae (qv 0) (ae (qv 1) aa))) (ae (qv 3) aa)))))))))) ar)
   (ab (aD (i:=6) scplain.nd rfl (Or.inl rfl) (av c__law_atom hr rfl (ae (qv 0) (ae (qv 1) aa))))
   (ab (aE (QW.pt (kY (ap aM (qv 2) af (nomark _)) (iE (ap gY (qv 2) af (nomark _))))) (ab (aD (i:=7) scplain.nd rfl (Or.inl rfl) (aB (ae aj (ae (av c__law_new hr rfl (ae (qv 0) aa)) (ae (qv 6) (ae (qv 3) aa))))))
   (ab (bc hu (aG hu (qv 0) aj) (au ai (qv 7) af) fA)
   (ag (ao (qv 7))))) ar)
   (ab (aE (ap aM (qv 2) af (nomark _)) (ag (ao (aB (ae aj (ae (av c__law_new hr rfl (ae (qv 0) aa)) (ae aj (ae (av c__law_atoms hr rfl (ae (qv 0) (ae (qv 1) aa))) (ae (qv 3) aa)))))))) ar)
   (ab (aE (ap aM (qv 2) af (nomark _)) (ag (ao (aB (ae aj (ae (av c__law_new hr rfl (ae (qv 0) aa)) (ae (qv 6) (ae (qv 3) aa))))))) ar)
   (ab (aE (ap aM (qv 2) af (nomark _)) (ag (ao (aB (ae aj (ae (av c__law_new hr rfl (ae (qv 0) aa)) (ae (qv 3) aa)))))) ar)
   (ab (aE (ap aM (qv 2) af (nomark _)) (ag (ao (aB (ae aj (ae (av c__law_new hr rfl (ae (qv 0) aa)) (ae aj (ae (qv 6) (ae (qv 3) aa)))))))) ar)
   (ab (aE (ap aM (qv 2) af (nomark _)) (ag (ao (aB (ae aj (ae (av c__law_new hr rfl (ae (qv 0) aa)) (ae af (ae (av c__law_pick hr rfl (ae (qv 0) (ae (qv 1) aa))) (ae (qv 3) aa)))))))) ar)
   (ab (aE (ap gj (qv 2) af (nomark _)) (ag (ao (aB (ae aj (ae (av c__law_new hr rfl (ae (qv 0) aa)) (ae (qv 6) (ae (av c__law_atoms hr rfl (ae (qv 0) (ae (qv 1) aa))) (ae (qv 3) (ae fA aa))))))))) ar)
   (ag (ao (aB (ae aj (ae (av c__law_new hr rfl (ae (qv 0) aa)) (ae aj (ae (qv 6) (ae (av c__law_atom hr rfl (ae (qv 0) (ae (qv 1) aa))) (ae (qv 3) aa)))))))))))))))))))
  have tA:=th.at'
  have ot:=st.lst th.at'
  k_go
  refine bS (aS (xs:=ts.map V.int)) (fun B i ys H2=>H2 B=some (.lst ys)∧Same H H2∧H B=none∧∃ us:List Int,ys=us.map V.int∧(∀ k∈us,k∈ts)∧us.length≤i) (fun B hB=>⟨ah,aw hB _,hB,[],rfl,by simp,xAg _⟩) ?_ ?_ ?_
  ·rintro B i ys H2 hi ⟨h1,h2,h3,us,rfl,h4,h5⟩
   rw [xAa] at hi
   have:=th.len
   exact ⟨h1,by rw [xAa];exact lineM (by lia),.of (h2 _ _ tA)⟩
  ·rintro B i ys _ x H2 hi ⟨h1,h2,h3,us,rfl,h4,h5⟩ ⟨rfl,hx⟩
   obtain ⟨k,hk,rfl⟩:=xA2.mp (xAc hx)
   have st2:=st.same h2
   k_go
   refine ⟨rfl,rfl,?_⟩
   k_go
   refine bv st2.da c9 ?_
   refine oI st2.db fun b hb=>?_
   k_go
   refine ⟨h1,ba (fun z=>?_) (fun z=>?_)⟩
   ·k_go
    refine ⟨h1,ah,h2.upd_new h3,h3,us++[k],by simp,fun j hj=>?_,by rw [xAb,xAt];lia⟩
    rcases xAj.mp hj with hj | hj
    ·exact h4 j hj
    ·rw [xAm.mp hj];exact hk
   ·exact ⟨h1,h2,h3,us,rfl,h4,by lia⟩
  ·rintro B ys H2 ⟨h1,h2,h3,us,rfl,h4,h5⟩
   have st2:=st.same h2
   have th2:=th.mono h2
   have lu:=th.len
   rw [xAa] at h5
   have oB:=st.out h3
   dsimp only
   refine kf ?_
   refine fM (fun σ' H'=>σ'=[some (.ref A1.a),some (.ref t),some (.int way),some (.int pl),some (.ref B),none,none,none]∧H'=H2) ?core ?main
   case main =>
    intro core
    k_go
    refine ba (fun z=>?_) (fun z=>?_)
    ·k_go
     refine ba (fun z2=>?_) (fun z2=>?_)
     ·have hne:us.length≠0:=fun y=>by
       rw [List.length_eq_zero_iff.mp y] at z2
       cases z2
      k_go
      refine ⟨A1,_,_,rfl,st2,by rw [xAa];lia,by rw [xAa];exact le18 (by lia),fun H4 n4 s4 d4 k4 st4 d0 dl=>?_⟩
      rw [xAa] at dl
      have hd:d4.toNat<us.length:=by lia
      have hB4:=k4 _ _ h1 oB
      have th4:=th2.kept k4 ot
      have K4:=(Kept.of (fp:=A1.fp) h2).trans k4
      have bx4:us[d4.toNat]∈ts:=h4 _ (List.getElem_mem hd)
      refine gW (v:=.int us[d4.toNat]) hB4 ?_ ?_
      ·have:=cV (xs:=us.map V.int) (j:=d4.toNat) (v:=.int us[d4.toNat]) (by rw [xAw,xAk hd];rfl)
       rw [Int.toNat_of_nonneg d0] at this
       exact this
      k_go
      refine ba (fun z3=>?_) (fun z3=>?_)
      ·k_go
       refine ⟨A1,_,rfl,st4,fun H5 v5 k5 st5 v0=>?_⟩
       k_go
       refine az fun p6 H6 s6 n6 h6=>?_
       exact q H6 _ (.load v5 us[d4.toNat]) (.ref p6) (K4.trans (k5.trans (.of s6))) (st5.same s6) ⟨p6,_,rfl,h6,_,_,rfl,rfl,_,_,rfl,rfl,.one rfl⟩ (.flat l0 (xBu _) (xBu _) (by change ((S.n+1:Nat):Int)+5 * S.left≤_;lia) (by simp [Stp.ops]) v0 (fun k hk=>by simp only [Stp.ops,xAm] at hk;cases hk;exact bx4) rfl)
      ·k_go
       refine ⟨A1,_,rfl,st4,fun H5 v5 k5 st5 v0=>?_⟩
       k_go
       refine ⟨A1,_,t,ts,rfl,st5,th4.kept k5 ot,fun H6 n6 s6 a6 v6 k6 st6 r6 m6=>?_⟩
       k_go
       refine az fun p7 H7 s7 n7 h7=>?_
       exact q H7 _ (.store v5 us[d4.toNat] a6 pl) (.ref p7) (K4.trans (k5.trans (k6.trans (.of s7)))) (st6.same s7) ⟨p7,_,rfl,h7,_,_,rfl,rfl,_,_,rfl,rfl,_,_,rfl,rfl,_,_,rfl,r6.mono s7,.one rfl⟩ (.flat l0 (xBu _) (xBu _) (by change ((S.n+1:Nat):Int)+5 * S.left≤_;lia) (by simp [Stp.ops]) v0 (fun k hk=>by
        simp only [Stp.ops,xAv,xBv,or_false] at hk
        rcases hk with e | e
        ·cases e;exact bx4
        ·exact m6 k e.symm) rfl)
     ·exact core _ _ ⟨rfl,rfl⟩
    ·exact core _ _ ⟨rfl,rfl⟩
   case core =>
    rintro _ _ ⟨rfl,rfl⟩
    k_go
    refine ⟨A1,S,t,ts,rfl,st2,th2,fun H3 n3 s3 a3 v3 k3 st3 r3 m3=>?_⟩
    have K3:=(Kept.of (fp:=A1.fp) h2).trans k3
    have th3:=th2.kept k3 ot
    have hw:way=0∨way=1∨way=2∨way=3∨way=4∨way=5∨way=6∨way=7∨way=8∨way=9∨way=10:=by lia
    rcases hw with rfl | rfl | rfl | rfl | rfl | rfl | rfl | rfl | rfl | rfl | rfl
    ·k_go
     refine ⟨A1,_,rfl,st3,fun H4 v4 k4 st4 v0=>?_⟩
     have r4:=r3.le (st3.tle k4)
     have th4:=th3.kept k4 ot
     have K4:=K3.trans k4
     k_go
     refine az fun p5 H5 s5 n5 h5=>?_
     have st5:=st4.same s5
     k_go
     refine bv st5.da c9 ?_
     k_go
     refine eE st5.db (fun j hj=>by have:=st5.bb j hj;lia) fun H6 k6 tl6 ne6 ks6=>?_
     k_go
     refine q H6 { S with num:=n3,seed:=s3,n:=S.n+1,bx:=fun j=>S.bx j∨j=v4 } (.box v4 a3 pl) (.ref p5) (K4.trans ((Kept.of s5).trans (k6.mono (by simp [SA.fp])))) ⟨by rw [ne6 _ (Ne.symm st5.ne)];exact st5.da,ks6,st5.ne,fun j hj=>?_,st5.b0,st5.b1,st5.dg⟩ ((show Rp H5 (Stp.d (.box v4 a3 pl)) (.ref p5) from ⟨p5,_,rfl,h5,_,_,rfl,rfl,_,_,rfl,rfl,_,_,rfl,r4.mono s5,.one rfl⟩).le tl6) (.flat l0 (xBu _) (xBu _) (by change ((S.n+1:Nat):Int)+5 * S.left≤_;lia) (by simp [Stp.ops]) v0 (fun k hk=>by simp only [Stp.ops,xAm] at hk;exact m3 k hk.symm) rfl)
     rcases hj with hj | hj
     ·exact st5.bb j hj
     ·rw [hj];exact v0.bd
    ·k_go
     refine ⟨A1,_,rfl,st3,fun H4 v4 k4 st4 v0=>?_⟩
     have r4:=r3.le (st3.tle k4)
     have th4:=th3.kept k4 ot
     have K4:=K3.trans k4
     k_go
     refine ⟨A1,_,t,ts,rfl,st4,th4,fun H5 n5 s5 as p5 k5 st5 r5 l5 m5=>?_⟩
     have r45:=r4.le (st4.tle k5)
     k_go
     refine az fun p6 H6 s6 n6 h6=>?_
     exact q H6 _ (.make v4 "a" as pl) (.ref p6) (K4.trans (k5.trans (.of s6))) (st5.same s6) ⟨p6,_,rfl,h6,_,_,rfl,rfl,_,_,rfl,rfl,_,_,rfl,rfl,_,_,rfl,r5.mono s6,.one rfl⟩ (.flat l0 (xBu _) (xBu _) (by change ((S.n+1:Nat):Int)+5 * S.left≤_;lia) (by simp only [Stp.ops];lia) v0 (fun k hk=>by exact m5 k hk) rfl)
    ·k_go
     refine ⟨A1,_,rfl,st3,fun H4 v4 k4 st4 v0=>?_⟩
     have r4:=r3.le (st3.tle k4)
     have th4:=th3.kept k4 ot
     have K4:=K3.trans k4
     k_go
     refine az fun p5 H5 s5 n5 h5=>?_
     exact q H5 _ (.tell v4 a3 pl) (.ref p5) (K4.trans (.of s5)) (st4.same s5) ⟨p5,_,rfl,h5,_,_,rfl,rfl,_,_,rfl,rfl,_,_,rfl,r4.mono s5,.one rfl⟩ (.flat l0 (xBu _) (xBu _) (by change ((S.n+1:Nat):Int)+5 * S.left≤_;lia) (by simp [Stp.ops]) v0 (fun k hk=>by simp only [Stp.ops,xAm] at hk;exact m3 k hk.symm) rfl)
    ·k_go
     refine ⟨A1,_,rfl,st3,fun H4 v4 k4 st4 v0=>?_⟩
     have r4:=r3.le (st3.tle k4)
     have th4:=th3.kept k4 ot
     have K4:=K3.trans k4
     k_go
     refine az fun p5 H5 s5 n5 h5=>?_
     exact q H5 _ (.ask v4 pl) (.ref p5) (K4.trans (.of s5)) (st4.same s5) ⟨p5,_,rfl,h5,_,_,rfl,rfl,_,_,rfl,rfl,.one rfl⟩ (.flat l0 (xBu _) (xBu _) (by change ((S.n+1:Nat):Int)+5 * S.left≤_;lia) (by simp [Stp.ops]) v0 (fun k hk=>by cases hk) rfl)
    ·k_go
     refine ⟨A1,_,rfl,st3,fun H4 v4 k4 st4 v0=>?_⟩
     have r4:=r3.le (st3.tle k4)
     have th4:=th3.kept k4 ot
     have K4:=K3.trans k4
     k_go
     refine az fun p5 H5 s5 n5 h5=>?_
     exact q H5 _ (.rais v4 "b" a3 pl) (.ref p5) (K4.trans (.of s5)) (st4.same s5) ⟨p5,_,rfl,h5,_,_,rfl,rfl,_,_,rfl,rfl,_,_,rfl,rfl,_,_,rfl,r4.mono s5,.one rfl⟩ (.flat l0 (xBu _) (xBu _) (by change ((S.n+1:Nat):Int)+5 * S.left≤_;lia) (by simp [Stp.ops]) v0 (fun k hk=>by simp only [Stp.ops,xAm] at hk;exact m3 k hk.symm) rfl)
    ·k_go
     refine ⟨A1,_,rfl,st3,fun H4 v4 k4 st4 v0=>?_⟩
     have r4:=r3.le (st3.tle k4)
     have th4:=th3.kept k4 ot
     have K4:=K3.trans k4
     k_go
     refine ⟨A1,_,t,ts,rfl,st4,th4,fun H5 n5 s5 us p5 k5 st5 h5 l5 m5=>?_⟩
     k_go
     refine az fun p6 H6 s6 n6 h6=>?_
     exact q H6 _ (.close v4 1 us pl) (.ref p6) (K4.trans (k5.trans (.of s6))) (st5.same s6) ⟨p6,_,rfl,h6,_,_,rfl,rfl,_,_,rfl,rfl,_,_,rfl,rfl,_,_,rfl,⟨p5,_,rfl,s6 _ _ h5,.ofInts _⟩,.one rfl⟩ (.flat l0 (xBu _) (xBu _) (by change ((S.n+1:Nat):Int)+5 * S.left≤_;lia) (by simp only [Stp.ops,xAa];exact l5) v0 (fun k hk=>by simp only [Stp.ops,xA2] at hk;obtain ⟨j,hj,e⟩:=hk;cases e;exact m5 _ hj) rfl)
    ·k_go
     refine ⟨A1,_,rfl,st3,fun H4 v4 k4 st4 v0=>?_⟩
     have r4:=r3.le (st3.tle k4)
     have th4:=th3.kept k4 ot
     have K4:=K3.trans k4
     k_go
     refine ⟨A1,_,t,ts,rfl,st4,th4,fun H5 n5 s5 as p5 k5 st5 r5 l5 m5=>?_⟩
     have r45:=r4.le (st4.tle k5)
     k_go
     refine az fun p6 H6 s6 n6 h6=>?_
     exact q H6 _ (.call v4 a3 as pl false) (.ref p6) (K4.trans (k5.trans (.of s6))) (st5.same s6) ⟨p6,_,rfl,h6,_,_,rfl,rfl,_,_,rfl,rfl,_,_,rfl,r45.mono s6,_,_,rfl,r5.mono s6,_,_,rfl,rfl,.one rfl⟩ (.flat l0 (xBu _) (xBu _) (by change ((S.n+1:Nat):Int)+5 * S.left≤_;lia) (by simp only [Stp.ops,xAo];lia) v0 (fun k hk=>by 
      rcases xAv.mp hk with e | e
      ·exact m3 k e.symm
      ·exact m5 k e) rfl)
    ·k_go
     refine ⟨A1,_,rfl,st3,fun H4 v4 k4 st4 v0=>?_⟩
     have r4:=r3.le (st3.tle k4)
     have th4:=th3.kept k4 ot
     have K4:=K3.trans k4
     k_go
     refine ⟨A1,_,t,ts,rfl,st4,th4,fun H5 n5 s5 as p5 k5 st5 r5 l5 m5=>?_⟩
     have r45:=r4.le (st4.tle k5)
     k_go
     refine az fun p6 H6 s6 n6 h6=>?_
     exact q H6 _ (.call v4 a3 as pl false) (.ref p6) (K4.trans (k5.trans (.of s6))) (st5.same s6) ⟨p6,_,rfl,h6,_,_,rfl,rfl,_,_,rfl,rfl,_,_,rfl,r45.mono s6,_,_,rfl,r5.mono s6,_,_,rfl,rfl,.one rfl⟩ (.flat l0 (xBu _) (xBu _) (by change ((S.n+1:Nat):Int)+5 * S.left≤_;lia) (by simp only [Stp.ops,xAo];lia) v0 (fun k hk=>by 
      rcases xAv.mp hk with e | e
      ·exact m3 k e.symm
      ·exact m5 k e) rfl)
    ·k_go
     refine ⟨A1,_,rfl,st3,fun H4 v4 k4 st4 v0=>?_⟩
     have r4:=r3.le (st3.tle k4)
     have th4:=th3.kept k4 ot
     have K4:=K3.trans k4
     k_go
     refine ⟨A1,_,t,ts,rfl,st4,th4,fun H5 n5 s5 a5 v5 k5 st5 r5 m5=>?_⟩
     have r45:=r4.le (st4.tle k5)
     k_go
     refine az fun p6 H6 s6 n6 h6=>?_
     exact q H6 _ (.math v4 "add" a3 a5 pl) (.ref p6) (K4.trans (k5.trans (.of s6))) (st5.same s6) ⟨p6,_,rfl,h6,_,_,rfl,rfl,_,_,rfl,rfl,_,_,rfl,rfl,_,_,rfl,r45.mono s6,_,_,rfl,r5.mono s6,.one rfl⟩ (.flat l0 (xBu _) (xBu _) (by change ((S.n+1:Nat):Int)+5 * S.left≤_;lia) (by simp [Stp.ops]) v0 (fun k hk=>by 
      simp only [Stp.ops,xAv,xBv,or_false] at hk
      rcases hk with e | e
      ·exact m3 k e.symm
      ·exact m5 k e.symm) rfl)
    ·k_go
     refine ⟨A1,_,rfl,st3,fun H4 v4 k4 st4 v0=>?_⟩
     have r4:=r3.le (st3.tle k4)
     have th4:=th3.kept k4 ot
     have K4:=K3.trans k4
     k_go
     refine az fun p5 H5 s5 n5 h5=>?_
     have st5:=st4.same s5
     k_go
     refine bv st5.da c9 ?_
     k_go
     refine eE st5.db (fun j hj=>by have:=st5.bb j hj;lia) fun H6 k6 tl6 ne6 ks6=>?_
     k_go
     refine q H6 { S with num:=n3,seed:=s3,n:=S.n+1,bx:=fun j=>S.bx j∨j=v4 } (.box v4 a3 pl) (.ref p5) (K4.trans ((Kept.of s5).trans (k6.mono (by simp [SA.fp])))) ⟨by rw [ne6 _ (Ne.symm st5.ne)];exact st5.da,ks6,st5.ne,fun j hj=>?_,st5.b0,st5.b1,st5.dg⟩ ((show Rp H5 (Stp.d (.box v4 a3 pl)) (.ref p5) from ⟨p5,_,rfl,h5,_,_,rfl,rfl,_,_,rfl,rfl,_,_,rfl,r4.mono s5,.one rfl⟩).le tl6) (.flat l0 (xBu _) (xBu _) (by change ((S.n+1:Nat):Int)+5 * S.left≤_;lia) (by simp [Stp.ops]) v0 (fun k hk=>by simp only [Stp.ops,xAm] at hk;exact m3 k hk.symm) rfl)
     rcases hj with hj | hj
     ·exact st5.bb j hj
     ·rw [hj];exact v0.bd
    ·k_go
     refine ⟨A1,_,rfl,st3,fun H4 v4 k4 st4 v0=>?_⟩
     have r4:=r3.le (st3.tle k4)
     have th4:=th3.kept k4 ot
     have K4:=K3.trans k4
     k_go
     refine az fun p5 H5 s5 n5 h5=>?_
     have st5:=st4.same s5
     k_go
     refine bv st5.da c9 ?_
     k_go
     refine eE st5.db (fun j hj=>by have:=st5.bb j hj;lia) fun H6 k6 tl6 ne6 ks6=>?_
     k_go
     refine q H6 { S with num:=n3,seed:=s3,n:=S.n+1,bx:=fun j=>S.bx j∨j=v4 } (.box v4 a3 pl) (.ref p5) (K4.trans ((Kept.of s5).trans (k6.mono (by simp [SA.fp])))) ⟨by rw [ne6 _ (Ne.symm st5.ne)];exact st5.da,ks6,st5.ne,fun j hj=>?_,st5.b0,st5.b1,st5.dg⟩ ((show Rp H5 (Stp.d (.box v4 a3 pl)) (.ref p5) from ⟨p5,_,rfl,h5,_,_,rfl,rfl,_,_,rfl,rfl,_,_,rfl,r4.mono s5,.one rfl⟩).le tl6) (.flat l0 (xBu _) (xBu _) (by change ((S.n+1:Nat):Int)+5 * S.left≤_;lia) (by simp [Stp.ops]) v0 (fun k hk=>by simp only [Stp.ops,xAm] at hk;exact m3 k hk.symm) rfl)
     rcases hj with hj | hj
     ·exact st5.bb j hj
     ·rw [hj];exact v0.bd
end
section
variable {P:Program} {w:World} {K:xFr} {mg:Str→Option Value} {base:Heap}
theorem pm1 {v:Int} {A B:List Int}:(v::(A++B)).Perm ((A++[v])++B):=by
 rw [xAx]
 exact (List.perm_middle (l₁:=A)).symm
theorem pm3 {v x:Int} {A B:List Int}:(v::(A++x::B)).Perm ((([x]++A)++B)++[v]) :=
 (List.perm_append_comm (l₁:=[v])).trans (List.Perm.append_right _ (List.perm_middle (l₁:=A)))
theorem two {m l p:Int} {S S':S41} {ts:List Int} {s:Stp} {x y:List Int×Bdy} (l0:0≤S'.left) (lf:S'.left≤l) (cn:(s.cnt:Int)+2 * S'.left≤m) (len:s.ops.length≤1000) (e:s.inn=[x,y]) (bl:BLen x.2∧BLen y.2) (pn:x.1.length≤4∧y.1.length≤4) (yy:S'.by'=S.by') (nn:S.n≤S'.n) (pot:(S'.n:Int)+5 * S'.left≤p) (gl:RL S.by' S.n S'.n s.gl) (op:∀ k,Atom.nm k∈s.ops→k∈ts) (sc:Scp (ts++x.1) x.2∧Scp (ts++y.1) y.2) (nf:NF x.2∧NF y.2) (fn:¬ IsF s:=by exact fun z=>z):StOk m l p S S' ts s:=by
 have all:∀ {P:List Int×Bdy→Prop},P x∧P y→∀ z∈s.inn,P z:=fun h z hz=>by
  rw [e] at hz
  simp only [xAv,xBv,or_false] at hz
  rcases hz with rfl | rfl
  ·exact h.1
  ·exact h.2
 exact ⟨l0,lf,cn,len,all (P:=fun z=>BLen z.2) bl,all (P:=fun z=>z.1.length≤4) pn,yy,nn,pot,gl,op,all (P:=fun z=>Scp (ts++z.1) z.2) sc,fn,all (P:=fun z=>NF z.2) nf⟩
def gstep:Scope:={ kind:=.function,names:=[("_law_state_here",.cell),("_law_there",.local),("_law_deep",.local),("_law_place",.local),("_law_way",.local),("_law_first",.local),("_law_yes",.local),("_law_some",.local),("_law_one",.local),("_law_other",.local),("_law_take",.globalImplicit),("_law_plain_step",.globalImplicit),("_law_atom",.globalImplicit),("_law_body",.globalImplicit),("_law_new",.globalImplicit),("tuple",.globalImplicit),("range",.globalImplicit),("int",.globalImplicit),("list",.globalImplicit)],isGenerator:=false,isCoroutine:=false,more:=[("fast",.str "_law_state_here"),("fast",.str "_law_there"),("fast",.str "_law_deep"),("fast",.str "_law_place"),("fast",.str "_law_way"),("fast",.str "_law_first"),("fast",.str "_law_yes"),("fast",.str "_law_k"),("fast",.str "_law_some"),("fast",.str "_law_one"),("fast",.str "_law_other")] }
theorem scstep:FnScope ["_law_state_here","_law_there","_law_deep","_law_place","_law_way","_law_first","_law_yes","_law_some","_law_one","_law_other"] ["_law_state_here","_law_there","_law_deep"] gstep:=⟨rfl,rfl,rfl,by decide +kernel,rfl,by decide +kernel,by decide +kernel⟩
theorem sN (F:Dn K mg "_law_step" sStep ["_law_state_here","_law_there","_law_deep"]) (T:Txt K mg) {L:Nat} (c__law_take:Cal P w K mg base "_law_take" 1 ["_law_state_here","_law_many"] spTk) (c__law_new:Cal P w K mg base "_law_new" 1 ["_law_state_here"] spNew) (c__law_atom:Cal P w K mg base "_law_atom" 2 ["_law_state_here","_law_there"] spAtom) (c__law_plain_step:Cal P w K mg base "_law_plain_step" 4 ["_law_state_here","_law_there","_law_way","_law_place"] spPlain) (c__law_body:Cal P w K mg base "_law_body" (4 * L+4) ["_law_state_here","_law_there","_law_deep"] (spBody L)):Cal P w K mg base "_law_step" (4 * L+7) ["_law_state_here","_law_there","_law_deep"] (spStep (L+1)):=by
 refine F.ok scstep rfl (fun vs H Q E h=>?_) (fun f cdv A outer s H vs Q E hr h=>?_)
 ·obtain ⟨A,S,t,ts,d,rfl,_⟩:=h
  rfl
 ·obtain ⟨A1,S,t,ts,d,rfl,⟨d0,d3⟩,st,th,hl,hpo,l1,lL,q⟩:=h
  have hu:=bJ hr
  refine' ⟨?tt,QSs.h ?hh,?gg⟩
  case hh=>exact (ab (bc hu (qv 0) aj (aF dz (aG hu (qv 0) aj) af))
   (ab (aD (i:=3) scstep.nd rfl (Or.inl rfl) (aF cq (aF iI af (aG hu (qv 0) aj)) af))
   (ab (aD (i:=4) scstep.nd rfl (Or.inl rfl) (av c__law_take hr rfl (ae (qv 0) (ae af aa))))
   (ab (aE (QW.pt (kY (ap gj (qv 4) af (nomark _)) (iE (ap aM (qv 2) af (nomark _))))) (ag (ao (av c__law_plain_step hr rfl (ae (qv 0) (ae (qv 1) (ae (aF cq (qv 4) af) (ae (qv 3) aa))))))) ar)
   (ab (aE (ap gj (qv 4) af (nomark _)) (ab (aD (i:=5) scstep.nd rfl (Or.inl rfl) (av c__law_atom hr rfl (ae (qv 0) (ae (qv 1) aa))))
   (ab (aD (i:=6) scstep.nd rfl (Or.inl rfl) (av c__law_body hr rfl (ae (qv 0) (ae (qv 1) (ae (aF dz (qv 2) af) aa)))))
   (ag (ao (aB (ae aj (ae (av c__law_new hr rfl (ae (qv 0) aa)) (ae (qv 5) (ae (qv 6) (ae (av c__law_body hr rfl (ae (qv 0) (ae (qv 1) (ae (aF dz (qv 2) af) aa)))) (ae (qv 3) aa))))))))))) ar)
   (ab (aD (i:=7) scstep.nd rfl (Or.inl rfl) (aU a9 rfl T.ztuple bI (ae (bM (ls:=["_law_k"]) (N:=["_law_state_here"]) (fr:=[0]) rfl (CapsG.mk' rfl (by decide +kernel) rfl (by decide +kernel) (.cons ⟨⟨_,rfl,rfl⟩,rfl,rfl,rfl⟩ .nil) (by decide +kernel) rfl) (ji rfl T.zrange (ae (au dF (aH (ae (av c__law_take hr rfl (ae (qv 0) (ae af aa))) (ae af aa))) (aU t8 rfl T.zint yk (ae (lc gY (qv 4) af (nomark _)) aa))) aa)) (fun C s H fp=>(am (i:=0) (show (["_law_k","_law_state_here"]:List Str).Nodup by decide +kernel) rfl (Or.inl rfl))) (fun C s H fp=>bN) (fun C s H fp=>(av c__law_new hr rfl (ae (qv 1) aa)))) aa)))
   (ab (aE (ap gj (qv 4) af (nomark _)) (ab (aD (i:=5) scstep.nd rfl (Or.inl rfl) (av c__law_atom hr rfl (ae (qv 0) (ae (qv 1) aa))))
   (ab (aD (i:=6) scstep.nd rfl (Or.inl rfl) (av c__law_body hr rfl (ae (qv 0) (ae (aF bU (qv 1) (aU bz rfl T.zlist cF (ae (qv 7) aa))) (ae (aF dz (qv 2) af) aa)))))
   (ag (ao (aB (ae aj (ae (av c__law_new hr rfl (ae (qv 0) aa)) (ae (qv 5) (ae aj (ae (qv 7) (ae (qv 6) (ae (av c__law_body hr rfl (ae (qv 0) (ae (qv 1) (ae (aF dz (qv 2) af) aa)))) (ae (qv 3) aa))))))))))))) ar)
   (ab (aD (i:=8) scstep.nd rfl (Or.inl rfl) (av c__law_body hr rfl (ae (qv 0) (ae (qv 1) (ae (aF dz (qv 2) af) aa)))))
   (ab (aD (i:=9) scstep.nd rfl (Or.inl rfl) (av c__law_body hr rfl (ae (qv 0) (ae (aF bU (qv 1) (aU bz rfl T.zlist cF (ae (qv 7) aa))) (ae (aF dz (qv 2) af) aa)))))
   (ag (ao (aB (ae aj (ae (av c__law_new hr rfl (ae (qv 0) aa)) (ae (qv 8) (ae aj (ae (au ai (qv 7) af) (ae (qv 9) (ae (qv 3) aa)))))))))))))))))))
  have ot:=st.lst th.at'
  k_go
  refine bv st.da iR ?_
  k_go
  refine dH st.da qk ?_
  rw [sh]
  have st0:=st.setA (S':={ S with left:=S.left - 1 }) rfl rfl st.dg
  obtain ⟨S0,hS0⟩:∃ S0:S41,S0={ S with left:=S.left - 1 }:=⟨_,rfl⟩
  have e0:S0.left=S.left - 1:=by rw [hS0]
  have e1:S0.n=S.n:=by rw [hS0]
  have e2:S0.by'=S.by':=by rw [hS0]
  rw [← hS0] at st0
  rw [← hS0]
  have k0:Kept A1.fp H (upd H A1.a (.dK (kv A1 S0))):=.put (by simp [SA.fp])
  generalize upd H A1.a (.dK (kv A1 S0))=H0 at st0 k0
  clear hS0
  have l0:0≤S0.left:=by lia
  have lL0:S0.left≤L:=by lia
  have hp0:(S0.n:Int)+5 * S0.left≤203:=by lia
  have b0:=st0.b0
  have b1:=st0.b1
  have th0:=th.kept k0 ot
  k_go
  refine bv st0.da iR ?_
  k_go
  refine r_I (.inl ⟨by decide,by decide⟩) ?_
  k_go
  refine r_I (by decide) ?_
  k_go
  generalize 5 * S0.left % 600=pl
  refine ⟨A1,S0,17,rfl,st0,by decide,by decide,fun H1 n1 s1 way k1 st1 w0 w1=>?_⟩
  have th1:=th0.kept k1 ot
  have K1:=k0.trans k1
  k_go
  refine ba (fun z=>?_) (fun z=>?_)
  ·k_go
   refine r_I (by decide) ?_
   k_go
   refine ⟨A1,_,t,ts,way % 11,pl,rfl,⟨xBa _ (by decide),by have:=xBb way (show (0:Int)<11 by decide);lia⟩,st1,th1,l0,fun H4 S4 s4 v4 k4 st4 r4 ok4=>q H4 S4 s4 v4 (K1.trans k4) st4 r4 ?_⟩
   have c4:(s4.cnt:Int)+2 * S4.left≤2 * S0.left:=ok4.cn
   have f4:S4.left≤S0.left:=ok4.lf
   have p4:(S4.n:Int)+5 * S4.left≤S0.n+5 * S0.left+5:=ok4.pot
   have n4:S0.n≤S4.n:=ok4.nn
   have g4:RL S0.by' S0.n S4.n s4.gl:=ok4.gl
   rw [e2,e1] at g4
   exact ⟨ok4.l0,by lia,by lia,ok4.len,ok4.inn,ok4.pn,ok4.yy.trans e2,by lia,by lia,g4,ok4.op,ok4.sc,ok4.fn,ok4.nf⟩
  have z1:=xBf z
  k_go
  refine ba (fun z=>?_) (fun z=>?_)
  ·k_go
   refine r_I (by decide) ?_
   k_go
   refine ⟨A1,_,t,ts,way % 11,pl,rfl,⟨xBa _ (by decide),by have:=xBb way (show (0:Int)<11 by decide);lia⟩,st1,th1,l0,fun H4 S4 s4 v4 k4 st4 r4 ok4=>q H4 S4 s4 v4 (K1.trans k4) st4 r4 ?_⟩
   have c4:(s4.cnt:Int)+2 * S4.left≤2 * S0.left:=ok4.cn
   have f4:S4.left≤S0.left:=ok4.lf
   have p4:(S4.n:Int)+5 * S4.left≤S0.n+5 * S0.left+5:=ok4.pot
   have n4:S0.n≤S4.n:=ok4.nn
   have g4:RL S0.by' S0.n S4.n s4.gl:=ok4.gl
   rw [e2,e1] at g4
   exact ⟨ok4.l0,by lia,by lia,ok4.len,ok4.inn,ok4.pn,ok4.yy.trans e2,by lia,by lia,g4,ok4.op,ok4.sc,ok4.fn,ok4.nf⟩
  have z2:=xBf z
  have d1:1≤d:=by lia
  k_go
  refine ba (fun z=>?_) (fun z=>?_)
  ·k_go
   refine ⟨A1,_,t,ts,rfl,st1,th1,fun H2 n2 s2 a2 v2 k2 st2 r2 m2=>?_⟩
   have th2:=th1.kept k2 ot
   k_go
   refine ⟨A1,_,t,ts,d - 1,rfl,⟨by lia,by lia⟩,st2,th2,by change (ts.length:Int)+10 * S0.left≤900;lia,by change (S0.n:Int)+5 * S0.left≤208;lia,l0,lL0,fun H3 S3 y vy k3 st3 ry oky=>?_⟩
   have cy:(y.cnt:Int)+2 * S3.left≤2 * S0.left+1:=oky.cn
   have fy:S3.left≤S0.left:=oky.lf
   have gy:=oky.l0
   have py:(S3.n:Int)+5 * S3.left≤S0.n+5 * S0.left:=oky.pot
   have ny:S0.n≤S3.n:=oky.nn
   have yy:S3.by'=S0.by':=oky.yy
   have gly:RL S0.by' S0.n S3.n y.gl:=oky.gl
   have th3:=th2.kept k3 ot
   have r23:=r2.le (st2.tle k3)
   k_go
   refine ⟨A1,_,rfl,st3,fun H4 v4 k4 st4 v0=>?_⟩
   have th4:=th3.kept k4 ot
   have r24:=r23.le (st3.tle k4)
   have ry4:=ry.le (st3.tle k4)
   k_go
   refine ⟨A1,_,t,ts,d - 1,rfl,⟨by lia,by lia⟩,st4,th4,by change (ts.length:Int)+10 * S3.left≤900;lia,by change ((S3.n+1:Nat):Int)+5 * S3.left≤208;lia,gy,by change S3.left≤_;lia,fun H5 S5 n vn k5 st5 rn okn=>?_⟩
   have cn:(n.cnt:Int)+2 * S5.left≤2 * S3.left+1:=okn.cn
   have fn:S5.left≤S3.left:=okn.lf
   have pn:(S5.n:Int)+5 * S5.left≤((S3.n+1:Nat):Int)+5 * S3.left:=okn.pot
   have nn:S3.n+1≤S5.n:=okn.nn
   have yn:S5.by'=S3.by':=okn.yy
   have gln:RL S3.by' (S3.n+1) S5.n n.gl:=okn.gl
   have gn:=okn.l0
   rw [yy] at gln v0
   have glA:=((gly.app (.one v0) b0 b1 (xAg _) (by lia) (by lia)).app gln b0 b1 (xAg _) (by lia) (by lia)).perm (pm1 (v:=v4))
   rw [e2,e1] at glA
   have r25:=r24.le (st4.tle k5)
   have ry5:=ry4.le (st4.tle k5)
   k_go
   refine az fun p6 H6 s6 n6 h6=>?_
   refine q H6 S5 (.iff v4 a2 y n pl) (.ref p6) (K1.trans (k2.trans (k3.trans (k4.trans (k5.trans (.of s6)))))) (st5.same s6) ⟨p6,_,rfl,h6,_,_,rfl,rfl,_,_,rfl,rfl,_,_,rfl,r25.mono s6,_,_,rfl,ry5.mono s6,_,_,rfl,rn.mono s6,.one rfl⟩ (two okn.l0 (by lia) (by simp only [Stp.cnt];lia) (by simp [Stp.ops]) rfl ⟨oky.len,okn.len⟩ ⟨xBn _,xBn _⟩ (yn.trans (yy.trans e2)) (by lia) (by lia) glA (fun k hk=>by simp only [Stp.ops,xAm] at hk;exact m2 k hk.symm) ⟨by rw [xB0];exact oky.sc,by rw [xB0];exact okn.sc⟩ ⟨oky.nf,okn.nf⟩)
  ·have z3:=xBf z
   k_go
   refine ⟨A1,_,5,rfl,st1,by decide,by decide,fun H1 n1 s1 m k1' st1 m0 m5=>?_⟩
   have th1:=th1.kept k1' ot
   have K1:=K1.trans k1'
   k_go
   refine aq fun lm H1a s1a n1a h1a=>?_
   have st1:=st1.same s1a
   have th1:=th1.mono s1a
   have K1:=K1.trans (.of s1a)
   k_go
   obtain ⟨m',em,m0',m5',mt⟩:∃ m':Int,atI [V.int m,V.int 1] (if decide (14<way)=true then 1 else 0)=some (.int m')∧0≤m'∧m'<5∧(14<way→m'=1):=by
    by_cases z14:14<way
    ·rw [xCg (xBd z14)]
     exact ⟨1,rfl,by decide,by decide,fun _=>rfl⟩
    ·rw [xCf (fun y=>z14 (xBe y))]
     exact ⟨m,rfl,m0,m5,fun y=>absurd y z14⟩
   refine gW h1a em ?_
   k_go
   refine eF (by lia) (by lia) ?_
   refine bS dk (fun B i ys H2=>H2 B=some (.lst ys)∧(B ∉ A1.fp∧H1a B=none)∧Kept A1.fp H1a H2∧∃ (ps:List Int),ST H2 A1 { S0 with num:=n1,seed:=s1,n:=S0.n+i }∧ys=ps.map V.int∧ps.length=i∧RL S0.by' S0.n (S0.n+i) ps) ?_ ?_ ?_ ?_
   ·intro B hB
    exact ⟨ah,⟨st1.out hB,hB⟩,.of (aw hB _),[],st1.same (aw hB _),rfl,rfl,.nil⟩
   ·rintro B i ys H2 hi ⟨h2,h3,h4,ps,h5,rfl,h6,h7⟩
    exact ⟨h2,by rw [xAa];exact lineM (by lia),True.intro⟩
   ·rintro B i ys _ x H2 hi ⟨h2,⟨h3,hf⟩,h4,ps,h5,rfl,h6,h7⟩ ⟨rfl,rfl⟩
    k_go
    refine ⟨rfl,rfl,?_⟩
    k_go
    refine ⟨h2,?_⟩
    k_go
    refine ⟨A1,_,rfl,h5,fun H3 v3 k3 st3 v0=>?_⟩
    have hB:=k3 _ _ h2 h3
    refine ⟨hB,ah,⟨h3,hf⟩,fun b ob eb nb=>?_,ps++[v3],st3.side h3,by simp,by rw [xAb,h6];rfl,?_⟩
    ·rw [aA (ak eb hf)];exact k3 _ _ (h4 b ob eb nb) nb
    ·exact h7.app (.one v0) h5.b0 h5.b1 (xAg _) (Nat.le_succ _) (by lia)
   ·rintro B ys H2 ⟨h2,⟨h3,hf⟩,h4,ps,h5,rfl,h6,h7⟩
    k_go
    refine cg h2 fun pp H3 s3 n3 h8=>?_
    have K3:=K1.trans (h4.trans (.of s3))
    have st3:=h5.same s3
    have th3:=(th1.kept h4 ot).mono s3
    have mt':14<way→m'.toNat=1:=fun y=>by rw [mt y];rfl
    have h6':ps.length≤4:=by lia
    have hM:m'.toNat≤4:=by lia
    have h7':∀ k∈ps,0≤k∧k<211:=fun k hk=>(h7.fr k hk).bd
    generalize m'.toNat=M at mt' h6 h7 hM st3 n3 s3 h8 h5 K3 th3
    have lts:=th.len
    k_go
    refine ba (fun z=>?_) (fun z=>?_)
    ·k_go
     refine ⟨A1,_,t,ts,rfl,st3,th3,fun H4 n4 s4 a2 v2 k4 st4 r2 m2=>?_⟩
     have th4:=th3.kept k4 ot
     have h84:=st3.tle k4 _ _ h8
     k_go
     refine b8 h84 fun l5 H5 s5 n5 h9=>?_
     refine di (s5 _ _ th4.at') h9 (lineMe (by rw [xAa,xAa];lia)) fun l6 H6 s6 n6 h10=>?_
     have u6:=s5.trans s6
     have th6:=(th4.mono u6).app h10 h7' (by lia)
     have st6:=st4.same u6
     k_go
     refine ⟨A1,_,l6,ts++ps,d - 1,rfl,⟨by lia,by lia⟩,st6,th6,by change ((ts++ps).length:Int)+10 * S0.left≤900;rw [xAb];lia,by change ((S0.n+M:Nat):Int)+5 * S0.left≤208;lia,l0,lL0,fun H7 S7 y vy k7 st7 ry oky=>?_⟩
     have cy:(y.cnt:Int)+2 * S7.left≤2 * S0.left+1:=oky.cn
     have fy:S7.left≤S0.left:=oky.lf
     have gy:=oky.l0
     have py:(S7.n:Int)+5 * S7.left≤((S0.n+M:Nat):Int)+5 * S0.left:=oky.pot
     have ny:S0.n+M≤S7.n:=oky.nn
     have yy:S7.by'=S0.by':=oky.yy
     have gly:RL S0.by' (S0.n+M) S7.n y.gl:=oky.gl
     have th7:=(th4.mono u6).kept k7 ot
     have r27:=(r2.mono u6).le (st6.tle k7)
     have h87:=st6.tle k7 _ _ (u6 _ _ h84)
     k_go
     refine ⟨A1,_,rfl,st7,fun H8 v4 k8 st8 v0=>?_⟩
     have e8:=st7.tle k8
     k_go
     refine ⟨A1,_,t,ts,d - 1,rfl,⟨by lia,by lia⟩,st8,th7.kept k8 ot,by change (ts.length:Int)+10 * S7.left≤900;lia,by change ((S7.n+1:Nat):Int)+5 * S7.left≤208;lia,gy,by change S7.left≤_;lia,fun H9 S9 n vn k9 st9 rn okn=>?_⟩
     have cn:(n.cnt:Int)+2 * S9.left≤2 * S7.left+1:=okn.cn
     have fn:S9.left≤S7.left:=okn.lf
     have pn:(S9.n:Int)+5 * S9.left≤((S7.n+1:Nat):Int)+5 * S7.left:=okn.pot
     have nn:S7.n+1≤S9.n:=okn.nn
     have yn:S9.by'=S7.by':=okn.yy
     have gln:RL S7.by' (S7.n+1) S9.n n.gl:=okn.gl
     have gn:=okn.l0
     rw [yy] at gln v0
     have glA:=(((h7.app gly b0 b1 (xAg _) (by lia) (by lia)).app (.one v0) b0 b1 (xAg _) (by lia) (by lia)).app gln b0 b1 (xAg _) (by lia) (by lia)).perm (pm1 (v:=v4))
     rw [e2,e1] at glA
     have e9:=st8.tle k9
     k_go
     refine az fun pA HA sA nA hA=>?_
     have rx:Rp HA (.tup (ps.map D.int)) (.ref pp):=⟨pp,_,rfl,sA _ _ (e9 _ _ (e8 _ _ h87)),.ofInts _⟩
     refine q HA S9 (.mtch v4 a2 "a" ps y n pl) (.ref pA) (K3.trans (k4.trans ((Kept.of u6).trans (k7.trans (k8.trans (k9.trans (.of sA))))))) (st9.same sA) ⟨pA,_,rfl,hA,_,_,rfl,rfl,_,_,rfl,rfl,_,_,rfl,((r27.le e8).le e9).mono sA,_,_,rfl,rfl,_,_,rfl,rx,_,_,rfl,((ry.le e8).le e9).mono sA,_,_,rfl,rn.mono sA,.one rfl⟩ (two okn.l0 (by lia) (by simp only [Stp.cnt];lia) (by simp [Stp.ops]) rfl ⟨oky.len,okn.len⟩ ⟨h6',xBn _⟩ (yn.trans (yy.trans e2)) (by lia) (by lia) glA (fun k hk=>by simp only [Stp.ops,xAm] at hk;exact m2 k hk.symm) ⟨oky.sc,by rw [xB0];exact okn.sc⟩ ⟨oky.nf,okn.nf⟩)
    ·have z4:=xBf z
     have m1:ps.length=1:=by rw [h6];exact mt' (by lia)
     obtain ⟨x0,rfl⟩:∃ x0,ps=[x0]:=List.length_eq_one_iff.mp m1
     k_go
     refine ⟨A1,_,t,ts,d - 1,rfl,⟨by lia,by lia⟩,st3,th3,by change (ts.length:Int)+10 * S0.left≤900;lia,by change ((S0.n+M:Nat):Int)+5 * S0.left≤208;lia,l0,lL0,fun H4 S4 y vy k4 st4 ry oky=>?_⟩
     have cy:(y.cnt:Int)+2 * S4.left≤2 * S0.left+1:=oky.cn
     have fy:S4.left≤S0.left:=oky.lf
     have gy:=oky.l0
     have py:(S4.n:Int)+5 * S4.left≤((S0.n+M:Nat):Int)+5 * S0.left:=oky.pot
     have ny:S0.n+M≤S4.n:=oky.nn
     have yy:S4.by'=S0.by':=oky.yy
     have gly:RL S0.by' (S0.n+M) S4.n y.gl:=oky.gl
     have th4:=th3.kept k4 ot
     have h84:=st3.tle k4 _ _ h8
     k_go
     refine b8 h84 fun l5 H5 s5 n5 h9=>?_
     refine di (s5 _ _ th4.at') h9 (lineMe (by rw [xAa,xAa];lia)) fun l6 H6 s6 n6 h10=>?_
     have u6:=s5.trans s6
     have th6:=(th4.mono u6).app h10 h7' (by lia)
     have st6:=st4.same u6
     k_go
     refine ⟨A1,_,l6,ts++[x0],d - 1,rfl,⟨by lia,by lia⟩,st6,th6,by change ((ts++[x0]).length:Int)+10 * S4.left≤900;rw [xAb,xAt];lia,by change (S4.n:Int)+5 * S4.left≤208;lia,gy,by lia,fun H7 S7 n vn k7 st7 rn okn=>?_⟩
     have cn:(n.cnt:Int)+2 * S7.left≤2 * S4.left+1:=okn.cn
     have fn:S7.left≤S4.left:=okn.lf
     have pn:(S7.n:Int)+5 * S7.left≤S4.n+5 * S4.left:=okn.pot
     have nn:S4.n≤S7.n:=okn.nn
     have yn:S7.by'=S4.by':=okn.yy
     have gln:RL S4.by' S4.n S7.n n.gl:=okn.gl
     have gn:=okn.l0
     rw [yy] at gln
     have e7:=st6.tle k7
     have h87:=e7 _ _ (u6 _ _ h84)
     k_go
     refine ⟨A1,_,rfl,st7,fun H8 v4 k8 st8 v0=>?_⟩
     have e8:=st7.tle k8
     have h88:=e8 _ _ h87
     rw [yn,yy] at v0
     have glA:=(((h7.app gly b0 b1 (xAg _) (by lia) (by lia)).app gln b0 b1 (xAg _) (by lia) (by lia)).app (.one v0) b0 b1 (xAg _) (by lia) (by lia)).perm (pm3 (v:=v4))
     rw [e2,e1] at glA
     k_go
     refine az fun pA HA sA nA hA=>?_
     refine q HA _ (.tri v4 y "b" x0 n pl) (.ref pA) (K3.trans (k4.trans ((Kept.of u6).trans (k7.trans (k8.trans (.of sA)))))) (st8.same sA) ⟨pA,_,rfl,hA,_,_,rfl,rfl,_,_,rfl,rfl,_,_,rfl,(((ry.mono u6).le e7).le e8).mono sA,_,_,rfl,rfl,_,_,rfl,rfl,_,_,rfl,(rn.le e8).mono sA,.one rfl⟩ (two okn.l0 (by change S7.left≤_;lia) (by change (((y.cnt+n.cnt:Nat)):Int)+2 * S7.left≤_;lia) (by simp [Stp.ops]) rfl ⟨oky.len,okn.len⟩ ⟨xBn _,h6'⟩ (yn.trans (yy.trans e2)) (by change S.n≤S7.n+1;lia) (by change ((S7.n+1:Nat):Int)+5 * S7.left≤_;lia) glA (fun k hk=>by cases hk) ⟨by rw [xB0];exact oky.sc,okn.sc⟩ ⟨oky.nf,okn.nf⟩)
end
section
variable {P:Program} {w:World} {K:xFr} {mg:Str→Option Value} {base:Heap}
structure BI (S S4:S41) (ts:List Int) (sts:List Stp):Prop where
 l0:0≤S4.left
 lf:S4.left≤S.left
 cn:(Stp.cnts sts:Int)+2 * S4.left≤2 * S.left
 len:((ts++sts.map Stp.to).length:Int)+10 * S4.left≤900
 yy:S4.by'=S.by'
 nn:S.n≤S4.n
 pot:(S4.n:Int)+5 * S4.left≤S.n+5 * S.left
 gl:RL S.by' S.n S4.n (sts.flatMap Stp.gl)
 ok:∀ s∈sts,s.ops.length≤1000∧(∀ x∈s.inn,BLen x.2)∧∀ x∈s.inn,x.1.length≤4
 nf:∀ s∈sts,¬ IsF s∧∀ x∈s.inn,NF x.2
 op:∀ (i:Nat) (s:Stp),sts[i]?=some s→∀ k,Atom.nm k∈s.ops→k∈ts++(sts.take i).map Stp.to
 sc:∀ (i:Nat) (s:Stp),sts[i]?=some s→∀ x∈s.inn,Scp (ts++(sts.take i).map Stp.to++x.1) x.2
theorem mH {sts:List Stp} {s t:Stp} {i:Nat} (h:(sts++[s])[i]?=some t):(sts[i]?=some t∧(sts++[s]).take i=sts.take i)∨(t=s∧(sts++[s]).take i=sts):=by
 rcases Nat.lt_trichotomy i sts.length with hi | hi | hi
 ·rw [List.getElem?_append_left hi] at h
  exact .inl ⟨h,by rw [List.take_append_of_le_length (by lia)]⟩
 ·subst hi
  rw [List.getElem?_append_right (xAg _),Nat.sub_self] at h
  cases h
  exact .inr ⟨rfl,List.take_left⟩
 ·rw [xA9 (by rw [xAb,xAt];lia)] at h
  cases h
theorem BI.more {S S4 S5:S41} {ts:List Int} {sts:List Stp} {s:Stp} (h:BI S S4 ts sts) (b0:0<S.by') (b1:S.by'<211) (hp:(S.n:Int)+5 * S.left≤208) (ok:StOk (2 * S4.left) (S4.left - 1) (S4.n+5 * S4.left) S4 S5 (ts++sts.map Stp.to) s):BI S S5 ts (sts++[s]):=by
 have h1:=h.lf
 have h2:=ok.lf
 have h3:=h.cn
 have h4:=ok.cn
 have h5:=h.len
 have h6:=h.pot
 have h7:=ok.pot
 have h8:=h.nn
 have h9:=ok.nn
 have hA:=ok.l0
 have g:=ok.gl
 rw [h.yy] at g
 refine ⟨ok.l0,by lia,?_,?_,ok.yy.trans h.yy,by lia,by lia,?_,fun s' hs'=>?_,fun s' hs'=>?_,fun i t ht=>?_,fun i t ht=>?_⟩
 ·rw [Stp.cnts_eq,xAi,List.sum_append,← Stp.cnts_eq]
  simp only [xBs,List.map_nil,xB9,List.sum_nil]
  lia
 ·rw [xAi,← xAx,xAb]
  simp only [xBs,List.map_nil,xAt]
  lia
 ·rw [List.flatMap_append]
  refine h.gl.app (mi':=S4.n) ?_ b0 b1 (xAg _) h9 (by lia)
  simpa using g
 ·rcases xAj.mp hs' with hs' | hs'
  ·exact h.ok s' hs'
  ·rw [xAm.mp hs'];exact ⟨ok.len,ok.inn,ok.pn⟩
 ·rcases xAj.mp hs' with hs' | hs'
  ·exact h.nf s' hs'
  ·rw [xAm.mp hs'];exact ⟨ok.fn,ok.nf⟩
 ·rcases mH ht with ⟨h1,h2⟩ | ⟨rfl,h2⟩
  ·rw [h2];exact h.op i t h1
  ·rw [h2];exact ok.op
 ·rcases mH ht with ⟨h1,h2⟩ | ⟨rfl,h2⟩
  ·rw [h2];exact h.sc i t h1
  ·rw [h2];exact ok.sc
theorem BI.bd {S S4:S41} {ts:List Int} {sts:List Stp} (h:BI S S4 ts sts) (bt:∀ k∈ts,0≤k∧k<211):∀ k∈ts++sts.map Stp.to,0≤k∧k<211:=fun k hk=>by
 rcases xAj.mp hk with hk | hk
 ·exact bt k hk
 ·obtain ⟨s,hs,rfl⟩:=xA2.mp hk
  exact (h.gl.fr _ (xA4.mpr ⟨s,hs,by rw [s.gl_eq];exact xAr⟩)).bd
theorem BI.body {S S4 S5:S41} {ts:List Int} {sts:List Stp} {a:Atom} (h:BI S S4 ts sts) (hl:sts.length≤4) (m:∀ k,a=Atom.nm k→k∈ts++sts.map Stp.to) (e:S5.left=S4.left:=by rfl) (e1:S5.n=S4.n:=by rfl) (e2:S5.by'=S4.by':=by rfl):BOk S S5 ts (.mk sts a):=by
 have h1:=h.l0
 have h2:=h.lf
 have h3:=h.cn
 have h4:=h.nn
 have h5:=h.pot
 refine ⟨by lia,by lia,?_,fun x hx=>?_,e2.trans h.yy,by lia,by lia,?_,.mk h.op m h.sc,.mk (fun s hs=>(h.nf s hs).1) fun s hs=>(h.nf s hs).2⟩
 ·simp only [Bdy.cnt]
  lia
 ·rcases hx with rfl | hx
  ·exact ⟨hl,fun s hs=>⟨(h.ok s hs).1,(h.ok s hs).2.2⟩⟩
  ·cases hx with
   | here h1 h2=>exact (h.ok _ h1).2.1 _ h2 ([],x.2) (.inl rfl)
   | deep h1 h2 h3=>exact (h.ok _ h1).2.1 _ h2 _ (.inr h3)
 ·rw [Bdy.gl_eq,e1]
  exact h.gl
def gbody:Scope:={ kind:=.function,names:=[("_law_state_here",.local),("_law_there",.local),("_law_deep",.local),("_law_here",.local),("_law_steps",.local),("_law_k",.local),("_law_step_here",.local),("list",.globalImplicit),("range",.globalImplicit),("_law_take",.globalImplicit),("_law_step",.globalImplicit),("tuple",.globalImplicit),("_law_atom",.globalImplicit)],isGenerator:=false,isCoroutine:=false,more:=[] }
theorem scbody:FnScope ["_law_state_here","_law_there","_law_deep","_law_here","_law_steps","_law_k","_law_step_here"] ["_law_state_here","_law_there","_law_deep"] gbody:=⟨rfl,rfl,rfl,by decide +kernel,rfl,by decide +kernel,by decide +kernel⟩
theorem lB (F:Dn K mg "_law_body" sBody ["_law_state_here","_law_there","_law_deep"]) (T:Txt K mg) {L:Nat} (c__law_take:Cal P w K mg base "_law_take" 1 ["_law_state_here","_law_many"] spTk) (c__law_atom:Cal P w K mg base "_law_atom" 2 ["_law_state_here","_law_there"] spAtom) (c__law_step:Cal P w K mg base "_law_step" (4 * L+3) ["_law_state_here","_law_there","_law_deep"] (spStep L)):Cal P w K mg base "_law_body" (4 * L+4) ["_law_state_here","_law_there","_law_deep"] (spBody L):=by
 refine F.ok scbody rfl (fun vs H Q E h=>?_) (fun f cdv A outer s H vs Q E hr h=>?_)
 ·obtain ⟨A,S,t,ts,d,rfl,_⟩:=h
  rfl
 ·obtain ⟨A1,S,t,ts,d,rfl,hd,st,th,hl,hpo,l0,lL,q⟩:=h
  have hu:=bJ hr
  refine' ⟨?tt,QSs.h ?hh,?gg⟩
  case hh=>exact (ab (aD (i:=3) scbody.nd rfl (Or.inl rfl) (aU bz rfl T.zlist cF (ae (qv 1) aa)))
   (ab (aD (i:=4) scbody.nd rfl (Or.inl rfl) (aH aa))
   (ab (aR PassesOwn.never rfl (ji rfl T.zrange (ae (av c__law_take hr rfl (ae (qv 0) (ae af aa))) aa)) (am (i:=5) scbody.nd rfl (Or.inl rfl))
    (ag (aE (ap gY (aG hu (qv 0) aj) af (nomark _)) (ab (aD (i:=6) scbody.nd rfl (Or.inl rfl) (av c__law_step hr rfl (ae (qv 0) (ae (qv 3) (ae (qv 2) aa)))))
   (ab (ck (cm PySem.F.plainAttrs_list PySem.F.slot_list_append PySem.F.type_list_append bE (qv 4) (ae (qv 6) aa)))
   (ag (ck (cm PySem.F.plainAttrs_list PySem.F.slot_list_append PySem.F.type_list_append bE (qv 3) (ae (au ai (qv 6) af) aa)))))) ar)))
   (ag (ao (aB (ae (aU a9 rfl T.ztuple bI (ae (qv 4) aa)) (ae (av c__law_atom hr rfl (ae (qv 0) (ae (qv 3) aa))) aa))))))))
  have ot:=st.lst th.at'
  k_go
  refine rD th.at' fun lh H1 s1 n1 h1=>?_
  have st1:=st.same s1
  have oh:=st.out n1
  k_go
  refine aq fun ls H2 s2 n2 h2=>?_
  have st2:=st1.same s2
  have os:=st1.out n2
  have nhs:lh≠ls:=ak h1 n2
  have u2:=s1.trans s2
  k_go
  refine ⟨A1,S,5,rfl,st2,by decide,by decide,fun H3 n3 sd3 m k3 st3 m0 m5=>?_⟩
  have h13:=k3 _ _ (s2 _ _ h1) oh
  have h23:=k3 _ _ h2 os
  k_go
  refine eF (by lia) (by lia) ?_
  refine aL dk (fun i σ HB=>∃ (v5 v6:Option V) (S4:S41) (sts:List Stp),σ=[some (.ref A1.a),some (.ref t),some (.int d),some (.ref lh),some (.ref ls),v5,v6]∧Kept A1.fp H HB∧ST HB A1 S4∧HB lh=some (.lst ((ts++sts.map Stp.to).map V.int))∧LD HB ls (sts.map Stp.d)∧sts.length≤i∧BI S S4 ts sts) ?_ (fun _ _ _ _ _=>True.intro) ?_ ?_
  ·refine ⟨none,none,_,[],rfl,(Kept.of u2).trans k3,st3,by simpa using h13,⟨_,h23,rfl⟩,xAg _,⟨l0,xBu _,by change ((0:Nat):Int)+2 * S.left≤_;lia,by simpa using hl,rfl,xAg _,xBu _,.nil,fun s hs=>by (cases hs),fun s hs=>by (cases hs),fun i s hs=>by (cases hs),fun i s hs=>by (cases hs)⟩⟩
  ·rintro _ i _ σ _ x HB hi ⟨v5,v6,S4,sts,rfl,kB,stB,hB,⟨ws,w1,w2⟩,sl,bi⟩ ⟨rfl,rfl⟩
   k_go
   refine bv stB.da iR ?_
   k_go
   refine ba (fun z=>?_) (fun z=>?_)
   ·have z1:=xBe z
    have b1:=bi.len
    have b2:=bi.lf
    have b3:=bi.pot
    have b4:=bi.l0
    k_go
    refine ⟨A1,S4,lh,_,d,rfl,hd,stB,⟨hB,bi.bd th.bd,by lia⟩,b1,by lia,by lia,by lia,fun H5 S5 s5 v5 k5 st5 r5 ok5=>?_⟩
    have hw5:=k5 _ _ w1 os
    have hB5:=k5 _ _ hB oh
    have lw:=w2.mapLen
    k_go
    refine cj hw5 (lineM (by lia)) ?_
    have tl:TLe H5 (upd H5 ls (.lst (ws++[v5]))):=.upd fun xs z=>by rw [hw5] at z;cases z
    have rr:Rps H5 ((sts++[s5]).map Stp.d) (ws++[v5]):=by rw [xAi];exact (w2.le (stB.tle k5)).snoc r5
    obtain ⟨p,r,w',rfl,hp⟩:=Stp.inv r5
    have hp6:=tl _ _ hp
    have hB6:upd H5 ls (.lst (ws++[.ref p])) lh=some (.lst ((ts++sts.map Stp.to).map V.int)):=by rw [aA nhs];exact hB5
    k_go
    refine cH hp6 il ?_
    k_go
    refine cj hB6 (by rw [xAa];exact lineM (by lia)) ?_
    have tl2:TLe (upd H5 ls (.lst (ws++[.ref p]))) (upd (upd H5 ls (.lst (ws++[.ref p]))) lh (.lst ((ts++sts.map Stp.to).map V.int++[.int s5.to]))):=.upd fun xs z=>by rw [hB6] at z;cases z
    k_go
    refine ⟨_,_,S5,sts++[s5],rfl,fun b ob eb nb=>?_,(st5.side os).side oh,?_,⟨ws++[.ref p],?_,(rr.le tl).le tl2⟩,by rw [xAb,xAt];lia,bi.more st.b0 st.b1 hpo ok5⟩
    ·rw [aA (ak eb n1),aA (ak eb (s1.free n2))]
     exact k5 _ _ (kB b ob eb nb) nb
    ·rw [ah,xAi (l₁:=sts),← xAx,xAi (l₁:=ts++sts.map Stp.to)]
     rfl
    ·rw [aA (Ne.symm nhs),ah]
   ·k_go
    exact ⟨_,_,S4,sts,rfl,kB,stB,hB,⟨ws,w1,w2⟩,by lia,bi⟩
  ·rintro σ HB ⟨v5,v6,S4,sts,rfl,kB,stB,hB,⟨ws,w1,w2⟩,sl,bi⟩
   have b1:=bi.len
   have b2:=bi.l0
   k_go
   refine cg w1 fun pt H4 s4 n4 h4=>?_
   k_go
   refine ⟨A1,S4,lh,_,rfl,stB.same s4,⟨s4 _ _ hB,bi.bd th.bd,by lia⟩,fun H5 n5 sd5 a5 v5 k5 st5 r5 m5=>?_⟩
   have e5:=(stB.same s4).tle k5
   k_go
   refine az fun pb H6 s6 n6 h6=>?_
   refine q H6 _ (.mk sts a5) (.ref pb) (kB.trans ((Kept.of s4).trans (k5.trans (.of s6)))) (st5.same s6) ?_ (bi.body (by lia) m5)
   rw [Bdy.d_eq]
   exact ⟨pb,_,rfl,h6,_,_,rfl,⟨pt,_,rfl,s6 _ _ (e5 _ _ h4),((w2.mono s4).le e5).mono s6⟩,.one (r5.mono s6)⟩
end
section
variable {P:Program} {w:World} {K:xFr} {mg:Str→Option Value} {base:Heap}
def gaof:Scope:={ kind:=.function,names:=[("_law_step_here",.local),("_law_word",.local),("list",.globalImplicit)],isGenerator:=false,isCoroutine:=false,more:=[("fast",.str "_law_step_here"),("fast",.str "_law_word"),("fast",.str "_law_name")] }
theorem scaof:FnScope ["_law_step_here","_law_word"] ["_law_step_here"] gaof:=⟨rfl,rfl,rfl,by decide +kernel,rfl,by decide +kernel,by decide +kernel⟩
theorem wB (F:Dn K mg "_law_atoms_of" sAof ["_law_step_here"]) (T:Txt K mg):Cal P w K mg base "_law_atoms_of" 1 ["_law_step_here"] spOps:=by
 refine F.ok scaof rfl (fun vs H Q E h=>?_) (fun f cdv A outer s H vs Q E hr h=>?_)
 ·obtain ⟨v,s,rfl,_⟩:=h
  rfl
 ·obtain ⟨v,st,rfl,hv,hn,q⟩:=h
  refine' ⟨?tt,QSs.h ?hh,?gg⟩
  case hh=>exact (ab (aD (i:=1) scaof.nd rfl (Or.inl rfl) (au ai (qv 0) af))
   (ab (aE (bH (dU (qv 1) (ae aj (ae aj aa))) rfl) (ag (ao (aH (ae (aB (ae aj (ae (au ai (qv 0) af) aa))) aa)))) ar)
   (ab (aE (bH (dU (qv 1) (ae aj (ae aj aa))) rfl) (ag (ao (aH (ae (aB (ae aj (ae (au ai (qv 0) af) aa))) (ae (au ai (qv 0) af) aa))))) ar)
   (ab (aE (ap aM (qv 1) aj (nomark _)) (ag (ao (aH (ae (au ai (qv 0) af) (ae (au ai (qv 0) af) aa))))) ar)
   (ab (aE (ap aM (qv 1) aj (nomark _)) (ag (ao (aU bz rfl T.zlist cF (ae (au ai (qv 0) af) aa)))) ar)
   (ab (aE (ap aM (qv 1) aj (nomark _)) (ag (ao (bM (ls:=["_law_name"]) (N:=[]) (fr:=[]) rfl (CapsG.mk' rfl (by decide +kernel) rfl (by decide +kernel) .nil (by decide +kernel) rfl) (bw (au ai (qv 0) af)) (fun C s H fp=>(am (i:=0) (show (["_law_name"]:List Str).Nodup by decide +kernel) rfl (Or.inl rfl))) (fun C s H fp=>bN) (fun C s H fp=>(aB (ae aj (ae (qv 0) aa))))))) ar)
   (ab (aE (ap aM (qv 1) aj (nomark _)) (ag (ao (aF bU (aH (ae (au ai (qv 0) af) aa)) (aU bz rfl T.zlist cF (ae (au ai (qv 0) af) aa))))) ar)
   (ab (aE (ap aM (qv 1) aj (nomark _)) (ag (ao (aH (ae (au ai (qv 0) af) aa)))) ar)
   (ab (aE (bH (dU (qv 1) (ae aj (ae aj (ae aj aa)))) rfl) (ag (ao (aH aa))) ar)
   (ag (ao (aH (ae (au ai (qv 0) af) aa)))))))))))))
  cases st with
  | start to a pl =>
   obtain ⟨p,va,rfl,hp,ha⟩:=eN hv
   k_go
   exact aq fun l H2 s2 n2 h2=>q l H2 s2 n2 ⟨_,h2,.one (ha.mono s2)⟩
  | box to a pl =>
   obtain ⟨p,va,rfl,hp,ha⟩:=iV hv
   k_go
   exact aq fun l H2 s2 n2 h2=>q l H2 s2 n2 ⟨_,h2,.one (ha.mono s2)⟩
  | tell to a pl =>
   obtain ⟨p,va,rfl,hp,ha⟩:=fO hv
   k_go
   exact aq fun l H2 s2 n2 h2=>q l H2 s2 n2 ⟨_,h2,.one (ha.mono s2)⟩
  | read to x =>
   obtain ⟨p,rfl,hp⟩:=fP hv
   k_go
   refine az fun p1 H1 s1 n1 h1=>?_
   k_go
   exact aq fun l H2 s2 n2 h2=>q l H2 (s1.trans s2) (s1.free n2) ⟨_,h2,.one ⟨p1,_,rfl,s2 _ _ h1,_,_,rfl,rfl,_,_,rfl,rfl,rfl⟩⟩
  | load to x =>
   obtain ⟨p,rfl,hp⟩:=fT hv
   k_go
   refine az fun p1 H1 s1 n1 h1=>?_
   k_go
   exact aq fun l H2 s2 n2 h2=>q l H2 (s1.trans s2) (s1.free n2) ⟨_,h2,.one ⟨p1,_,rfl,s2 _ _ h1,_,_,rfl,rfl,_,_,rfl,rfl,rfl⟩⟩
  | set to x a pl =>
   obtain ⟨p,va,rfl,hp,ha⟩:=iU hv
   k_go
   refine az fun p1 H1 s1 n1 h1=>?_
   have hp1:=s1 _ _ hp
   k_go
   exact aq fun l H2 s2 n2 h2=>q l H2 (s1.trans s2) (s1.free n2) ⟨_,h2,_,_,rfl,⟨p1,_,rfl,s2 _ _ h1,_,_,rfl,rfl,_,_,rfl,rfl,rfl⟩,.one (ha.mono (s1.trans s2))⟩
  | store to x a pl =>
   obtain ⟨p,va,rfl,hp,ha⟩:=eM hv
   k_go
   refine az fun p1 H1 s1 n1 h1=>?_
   have hp1:=s1 _ _ hp
   k_go
   exact aq fun l H2 s2 n2 h2=>q l H2 (s1.trans s2) (s1.free n2) ⟨_,h2,_,_,rfl,⟨p1,_,rfl,s2 _ _ h1,_,_,rfl,rfl,_,_,rfl,rfl,rfl⟩,.one (ha.mono (s1.trans s2))⟩
  | math to op a b pl =>
   obtain ⟨p,va,vb,rfl,hp,ha,hb⟩:=fR hv
   k_go
   exact aq fun l H2 s2 n2 h2=>q l H2 s2 n2 ⟨_,h2,_,_,rfl,ha.mono s2,.one (hb.mono s2)⟩
  | make to tag as pl =>
   obtain ⟨p,va,rfl,hp,⟨pa,wa,rfl,ha,ra⟩⟩:=fS hv
   k_go
   exact b8 ha fun l H2 s2 n2 h2=>q l H2 s2 n2 ⟨_,h2,ra.mono s2⟩
  | ask to pl =>
   obtain ⟨p,rfl,hp⟩:=iW hv
   k_go
   exact aq fun l H2 s2 n2 h2=>q l H2 s2 n2 ⟨_,h2,rfl⟩
  | rais to w a pl =>
   obtain ⟨p,va,rfl,hp,ha⟩:=fQ hv
   k_go
   exact aq fun l H2 s2 n2 h2=>q l H2 s2 n2 ⟨_,h2,.one (ha.mono s2)⟩
  | call to a as pl last =>
   obtain ⟨p,va,vb,rfl,hp,ha,⟨pb,wb,rfl,hb,rb⟩⟩:=fV hv
   k_go
   refine aq fun l1 H1 s1 n1 h1=>?_
   have hp1:=s1 _ _ hp
   k_go
   refine b8 (s1 _ _ hb) fun l2 H2 s2 n2 h2=>?_
   have hl:=rb.length
   refine di (s2 _ _ h1) h2 (by simp [Stp.ops] at hn hl ⊢;exact lineMe (by lia)) fun l H3 s3 n3 h3=>?_
   exact q l H3 (s1.trans (s2.trans s3)) (s1.free (s2.free n3)) ⟨_,h3,.app (.one (ha.mono (s1.trans (s2.trans s3)))) (rb.mono (s1.trans (s2.trans s3)))⟩
  | close to n xs pl =>
   obtain ⟨p,va,rfl,hp,⟨pa,wa,rfl,ha,ra⟩⟩:=eO hv
   k_go
   refine xZ bG ra (fun _ s1=>.of (s1 _ _ ha)) (fun _=>true) (fun d=>.tup [.str "name",d]) ?_ ?_ ?_
   ·intro B ys d x H1 N1 N0 hd hx s1 hB k1 k0
    k_go
    refine ⟨rfl,rfl,?_⟩
    k_go
    refine ⟨hB,?_⟩
    k_go
    exact az fun p1 H2 s2 n2 h2=>⟨s2 _ _ hB,k1 _ _ s2 rfl ⟨p1,_,rfl,h2,_,_,rfl,rfl,.one (hx.mono s2)⟩⟩
   ·intro B H2 s2 n2 h2
    refine q B H2 s2 n2 ?_
    rw [List.filter_eq_self.mpr (fun _ _=>rfl),xCc] at h2
    simp only [Stp.ops,xCc]
    exact h2
   ·have hl:=ra.length
    simp [Stp.ops] at hn hl
    exact lineM (by lia)
  | func to ps b pl =>
   obtain ⟨p,va,vb,rfl,hp,ha,hb⟩:=fU hv
   k_go
   exact aq fun l H2 s2 n2 h2=>q l H2 s2 n2 ⟨_,h2,rfl⟩
  | iff to a y n pl =>
   obtain ⟨p,va,vb,vc,rfl,hp,ha,hb,hc⟩:=gu hv
   k_go
   exact aq fun l H2 s2 n2 h2=>q l H2 s2 n2 ⟨_,h2,.one (ha.mono s2)⟩
  | mtch to a tag xs y n pl =>
   obtain ⟨p,va,vb,vc,vd,rfl,hp,ha,hb,hc,hd⟩:=dJ hv
   k_go
   exact aq fun l H2 s2 n2 h2=>q l H2 s2 n2 ⟨_,h2,.one (ha.mono s2)⟩
  | tri to one w x other pl =>
   obtain ⟨p,va,vb,rfl,hp,ha,hb⟩:=dX hv
   k_go
   exact aq fun l H2 s2 n2 h2=>q l H2 s2 n2 ⟨_,h2,rfl⟩
end
section
variable {P:Program} {w:World} {K:xFr} {mg:Str→Option Value} {base:Heap}
def spBof:Sp:=fun vs H Q _=>∃ (v:V) (s:Stp),vs=[v]∧Rp H s.d v∧∀ l H',Same H H'→H l=none→LD H' l (s.inn.map fun x=>x.2.d)→Q (.ref l) H'
def gbof:Scope:={ kind:=.function,names:=[("_law_step_here",.local)],isGenerator:=false,isCoroutine:=false,more:=[] }
theorem scbof:FnScope ["_law_step_here"] ["_law_step_here"] gbof:=⟨rfl,rfl,rfl,by decide +kernel,rfl,by decide +kernel,by decide +kernel⟩
theorem wz (F:Dn K mg "_law_bodies" sBof ["_law_step_here"]) (T:Txt K mg):Cal P w K mg base "_law_bodies" 1 ["_law_step_here"] spBof:=by
 refine F.ok scbof rfl (fun vs H Q E h=>?_) (fun f cdv A outer s H vs Q E hr h=>?_)
 ·obtain ⟨v,s,rfl,_⟩:=h
  rfl
 ·obtain ⟨v,st,rfl,hv,q⟩:=h
  refine' ⟨?tt,QSs.h ?hh,?gg⟩
  case hh=>exact (ab (aE (ap aM (au ai (qv 0) af) aj (nomark _)) (ag (ao (aH (ae (au ai (qv 0) af) (ae (au ai (qv 0) af) aa))))) ar)
   (ab (aE (ap aM (au ai (qv 0) af) aj (nomark _)) (ag (ao (aH (ae (au ai (qv 0) af) (ae (au ai (qv 0) af) aa))))) ar)
   (ab (aE (ap aM (au ai (qv 0) af) aj (nomark _)) (ag (ao (aH (ae (au ai (qv 0) af) (ae (au ai (qv 0) af) aa))))) ar)
   (ab (aE (ap aM (au ai (qv 0) af) aj (nomark _)) (ag (ao (aH (ae (au ai (qv 0) af) aa)))) ar)
   (ag (ao (aH aa)))))))
  cases st with
  | start to a pl =>
   obtain ⟨p,va,rfl,hp,ha⟩:=eN hv
   k_go
   exact aq fun l H2 s2 n2 h2=>q l H2 s2 n2 ⟨_,h2,rfl⟩
  | box to a pl =>
   obtain ⟨p,va,rfl,hp,ha⟩:=iV hv
   k_go
   exact aq fun l H2 s2 n2 h2=>q l H2 s2 n2 ⟨_,h2,rfl⟩
  | tell to a pl =>
   obtain ⟨p,va,rfl,hp,ha⟩:=fO hv
   k_go
   exact aq fun l H2 s2 n2 h2=>q l H2 s2 n2 ⟨_,h2,rfl⟩
  | read to x =>
   obtain ⟨p,rfl,hp⟩:=fP hv
   k_go
   exact aq fun l H2 s2 n2 h2=>q l H2 s2 n2 ⟨_,h2,rfl⟩
  | load to x =>
   obtain ⟨p,rfl,hp⟩:=fT hv
   k_go
   exact aq fun l H2 s2 n2 h2=>q l H2 s2 n2 ⟨_,h2,rfl⟩
  | set to x a pl =>
   obtain ⟨p,va,rfl,hp,ha⟩:=iU hv
   k_go
   exact aq fun l H2 s2 n2 h2=>q l H2 s2 n2 ⟨_,h2,rfl⟩
  | store to x a pl =>
   obtain ⟨p,va,rfl,hp,ha⟩:=eM hv
   k_go
   exact aq fun l H2 s2 n2 h2=>q l H2 s2 n2 ⟨_,h2,rfl⟩
  | math to op a b pl =>
   obtain ⟨p,va,vb,rfl,hp,ha,hb⟩:=fR hv
   k_go
   exact aq fun l H2 s2 n2 h2=>q l H2 s2 n2 ⟨_,h2,rfl⟩
  | make to tag as pl =>
   obtain ⟨p,va,rfl,hp,⟨pa,wa,rfl,ha,ra⟩⟩:=fS hv
   k_go
   exact aq fun l H2 s2 n2 h2=>q l H2 s2 n2 ⟨_,h2,rfl⟩
  | ask to pl =>
   obtain ⟨p,rfl,hp⟩:=iW hv
   k_go
   exact aq fun l H2 s2 n2 h2=>q l H2 s2 n2 ⟨_,h2,rfl⟩
  | rais to w a pl =>
   obtain ⟨p,va,rfl,hp,ha⟩:=fQ hv
   k_go
   exact aq fun l H2 s2 n2 h2=>q l H2 s2 n2 ⟨_,h2,rfl⟩
  | call to a as pl last =>
   obtain ⟨p,va,vb,rfl,hp,ha,⟨pb,wb,rfl,hb,rb⟩⟩:=fV hv
   k_go
   exact aq fun l H2 s2 n2 h2=>q l H2 s2 n2 ⟨_,h2,rfl⟩
  | close to n xs pl =>
   obtain ⟨p,va,rfl,hp,⟨pa,wa,rfl,ha,ra⟩⟩:=eO hv
   k_go
   exact aq fun l H2 s2 n2 h2=>q l H2 s2 n2 ⟨_,h2,rfl⟩
  | func to ps b pl =>
   obtain ⟨p,va,vb,rfl,hp,ha,hb⟩:=fU hv
   k_go
   exact aq fun l H2 s2 n2 h2=>q l H2 s2 n2 ⟨_,h2,.one (hb.mono s2)⟩
  | iff to a y n pl =>
   obtain ⟨p,va,vb,vc,rfl,hp,ha,hb,hc⟩:=gu hv
   k_go
   exact aq fun l H2 s2 n2 h2=>q l H2 s2 n2 ⟨_,h2,_,_,rfl,hb.mono s2,.one (hc.mono s2)⟩
  | mtch to a tag xs y n pl =>
   obtain ⟨p,va,vb,vc,vd,rfl,hp,ha,hb,hc,hd⟩:=dJ hv
   k_go
   exact aq fun l H2 s2 n2 h2=>q l H2 s2 n2 ⟨_,h2,_,_,rfl,hc.mono s2,.one (hd.mono s2)⟩
  | tri to one w x other pl =>
   obtain ⟨p,va,vb,rfl,hp,ha,hb⟩:=dX hv
   k_go
   exact aq fun l H2 s2 n2 h2=>q l H2 s2 n2 ⟨_,h2,_,_,rfl,ha.mono s2,.one (hb.mono s2)⟩
end
section
variable {P:Program} {w:World} {K:xFr} {mg:Str→Option Value} {base:Heap}
theorem my:∀ {L:List (List Int×Bdy)} {x:List Int×Bdy},x∈L→x.2.cnt≤cntL L
 | [],x,h=>by cases h
 | y::L,x,h=>by
  rw [show y::L=[y]++L from rfl,aZ]
  rcases xAv.mp h with rfl | h
  ·simp [cntL]
  ·have:=my h
   lia
theorem BLen.inn {b:Bdy} {s:Stp} {x:List Int×Bdy} (h:BLen b) (hs:s∈b.steps) (hx:x∈s.inn):BLen x.2:=fun y hy=>by
 rcases hy with rfl | hy
 ·exact h x (.inr (.here hs hx))
 ·exact h y (.inr (.deep hs hx hy))
theorem BLen.len {b:Bdy} (h:BLen b):b.steps.length≤4:=(h ([],b) (.inl rfl)).1
theorem BLen.ops {b:Bdy} (h:BLen b) {s:Stp} (hs:s∈b.steps):s.ops.length≤1000:=((h ([],b) (.inl rfl)).2 s hs).1
theorem lz {b:Bdy} (h:BLen b) (j:Nat):(b.last::(b.steps.take j).flatMap Stp.ops).length≤4001:=by
 have gen:∀ l:List Stp,(∀ s∈l,s.ops.length≤1000)→(l.flatMap Stp.ops).length≤1000 * l.length:=by
  intro l
  induction l with
  | nil=>intro _;simp
  | cons s l ih =>
   intro hl
   have h1:=hl s (by simp)
   have h2:=ih fun t ht=>hl t (by simp [ht])
   rw [xBh,xAb,xAo]
   lia
 have h1:=gen (b.steps.take j) fun s hs=>h.ops (xBj hs)
 have h2:(b.steps.take j).length≤4:=by rw [xAn];have:=h.len;lia
 rw [xAo]
 lia
def GM (L:List (List Int×Bdy)) (k:Int):Prop:=∃ x∈L,Men x.2 k
theorem GM.snoc {L:List (List Int×Bdy)} {x:List Int×Bdy} {k:Int}:GM (L++[x]) k↔GM L k∨Men x.2 k:=by
 simp only [GM,xAj,xAm,or_and_right,exists_or,exists_eq_left]
theorem aK {α:Type} {l:List α} {i:Nat} {x:α} (h:l[i]?=some x):l.take (i+1)=l.take i++[x]:=by
 rw [List.take_add_one,h]
 rfl
structure UL (us:List Int) (L:List (List Int×Bdy)):Prop where
 mem:∀ k,k∈us↔GM L k
 len:us.length≤5000 * cntL L
theorem nw {b:Bdy} (k:Int):Men b k↔GM (b.steps.flatMap Stp.inn) k∨Atom.nm k∈b.last::b.steps.flatMap Stp.ops:=by
 rw [Men.iff]
 simp only [GM,MenS,xAv,xA4]
 constructor
 ·rintro (h | ⟨s,hs,h | ⟨x,hx,h⟩⟩)
  ·exact .inr (.inl h.symm)
  ·exact .inr (.inr ⟨s,hs,h⟩)
  ·exact .inl ⟨x,⟨s,hs,hx⟩,h⟩
 ·rintro (⟨x,⟨s,hs,hx⟩,h⟩ | h | ⟨s,hs,h⟩)
  ·exact .inr ⟨s,hs,.inr ⟨x,hx,h⟩⟩
  ·exact .inl h.symm
  ·exact .inr ⟨s,hs,.inl h⟩
def spUsed (N:Nat):Sp:=fun vs H Q _=>∃ (v:V) (b:Bdy),vs=[v]∧Rp H b.d v∧b.cnt≤N∧N≤100∧BLen b∧∀ (l:Addr) (H':Hp) (us:List Int),Same H H'→H l=none→H' l=some (.lst (us.map V.int))→(∀ k,k∈us↔Men b k)→us.length≤5000 * b.cnt→Q (.ref l) H'
def gused:Scope:={ kind:=.function,names:=[("_law_body_here",.local),("_law_atoms_here",.local),("_law_found",.local),("_law_step_here",.local),("_law_within",.local),("_law_atoms_of",.globalImplicit),("_law_bodies",.globalImplicit),("_law_used",.globalImplicit)],isGenerator:=false,isCoroutine:=false,more:=[("fast",.str "_law_body_here"),("fast",.str "_law_atoms_here"),("fast",.str "_law_found"),("fast",.str "_law_step_here"),("fast",.str "_law_within"),("fast",.str "_law_word"),("fast",.str "_law_name")] }
theorem scused:FnScope ["_law_body_here","_law_atoms_here","_law_found","_law_step_here","_law_within"] ["_law_body_here"] gused:=⟨rfl,rfl,rfl,by decide +kernel,rfl,by decide +kernel,by decide +kernel⟩
theorem sL (F:Dn K mg "_law_used" sUsed ["_law_body_here"]) (T:Txt K mg) {N:Nat} (c__law_atoms_of:Cal P w K mg base "_law_atoms_of" 1 ["_law_step_here"] spOps) (c__law_bodies:Cal P w K mg base "_law_bodies" 1 ["_law_step_here"] spBof) (c__law_used:Cal P w K mg base "_law_used" (N+1) ["_law_body_here"] (spUsed N)):Cal P w K mg base "_law_used" (N+2) ["_law_body_here"] (spUsed (N+1)):=by
 refine F.ok scused rfl (fun vs H Q E h=>?_) (fun f cdv A outer s H vs Q E hr h=>?_)
 ·obtain ⟨v,b,rfl,_⟩:=h
  rfl
 ·obtain ⟨v,b,rfl,hv,hc,hN,bl,q⟩:=h
  refine' ⟨?tt,QSs.h ?hh,?gg⟩
  case hh=>exact (ab (aD (i:=1) scused.nd rfl (Or.inl rfl) (aH (ae (au ai (qv 0) af) aa)))
   (ab (aD (i:=2) scused.nd rfl (Or.inl rfl) (aH aa))
   (ab (aR PassesOwn.never rfl (bw (au ai (qv 0) af)) (am (i:=3) scused.nd rfl (Or.inl rfl))
    (ab (aD (i:=1) scused.nd rfl (Or.inl rfl) (aF bU (qv 1) (av c__law_atoms_of hr rfl (ae (qv 3) aa))))
   (ag (aR PassesOwn.never rfl (aP (av c__law_bodies hr rfl (ae (qv 3) aa))) (am (i:=4) scused.nd rfl (Or.inl rfl))
    (ag (aD (i:=2) scused.nd rfl (Or.inl rfl) (aF bU (qv 2) (av c__law_used hr rfl (ae (qv 4) aa)))))))))
   (ag (ao (aF bU (qv 2) (bM (ls:=["_law_word","_law_name"]) (N:=[]) (fr:=[]) rfl (CapsG.mk' rfl (by decide +kernel) rfl (by decide +kernel) .nil (by decide +kernel) rfl) (aP (qv 1)) (fun C s H fp=>(a8 rfl (ay (am (i:=0) (show (["_law_word","_law_name"]:List Str).Nodup by decide +kernel) rfl (Or.inl rfl)) (ay (am (i:=1) (show (["_law_word","_law_name"]:List Str).Nodup by decide +kernel) rfl (Or.inl rfl)) a7)))) (fun C s H fp=>(cK (ap aM (qv 0) aj (nomark _)))) (fun C s H fp=>(qv 1)))))))))
  obtain ⟨p,pq,ws,va,rfl,g1,g2,g3,g4⟩:=hv.body
  have ceq:=b.cnt_eq
  k_go
  refine aq fun la H1 s1 n1 h1=>?_
  have g1a:=s1 _ _ g1
  k_go
  refine aq fun lf H2 s2 n2 h2=>?_
  have u2:=s1.trans s2
  have g12:=u2 _ _ g1
  have g22:=u2 _ _ g2
  have g32:=g3.mono u2
  k_go
  refine aL (bG (xs:=ws)) (fun j σ HB=>∃ (v3 v4:Option V) (la lf:Addr) (us:List Int),σ=[some (.ref p),some (.ref la),some (.ref lf),v3,v4]∧Same H HB∧(H la=none∧H lf=none)∧LD HB la ((b.last::(b.steps.take j).flatMap Stp.ops).map Atom.d)∧HB lf=some (.lst (us.map V.int))∧UL us ((b.steps.take j).flatMap Stp.inn)) ?_ (by rintro _ _ _ _ ⟨_,_,_,_,_,_,z,_⟩;exact .of (z _ _ g2)) ?_ ?_
  ·exact ⟨_,_,la,lf,[],rfl,u2,⟨n1,s1.free n2⟩,⟨_,s2 _ _ h1,.one (g4.mono u2)⟩,h2,⟨fun k=>by simp [GM],by simp⟩⟩
  ·rintro _ j _ σ _ y HB hj ⟨v3,v4,la,lf,us,rfl,tB,⟨na,nf⟩,⟨as,a1,a2⟩,f1,ul⟩ ⟨rfl,hy⟩
   obtain ⟨st,hst,hrs⟩:=(g3.mono tB).mapGet' hy
   have hmem:=xAc hst
   k_go
   refine ⟨y,st,rfl,hrs,bl.ops hmem,fun l3 H3 s3 n3 zz0=>?_⟩
   obtain ⟨bs,b1,b2⟩:=zz0
   have la2:=a2.mapLen
   have lb2:=b2.mapLen
   have ol:=lz bl (j+1)
   rw [aV hst,← List.cons_append,xAb] at ol
   refine di (s3 _ _ a1) b1 (lineMe (by lia)) fun l4 H4 s4 n4 h4=>?_
   have u4:=s3.trans s4
   have hrs4:=hrs.mono u4
   k_go
   refine ⟨y,st,rfl,hrs4,fun l5 H5 s5 n5 zz0=>?_⟩
   obtain ⟨cs,c1,c2⟩:=zz0
   have u5:=u4.trans s5
   have t5:=tB.trans u5
   have lc2:=c2.mapLen
   k_go
   refine aL (aS (xs:=cs)) (fun i σ HC=>∃ (v4:Option V) (lf:Addr) (us:List Int),σ=[some (.ref p),some (.ref l4),some (.ref lf),some y,v4]∧Same H5 HC∧H lf=none∧HC lf=some (.lst (us.map V.int))∧UL us ((b.steps.take j).flatMap Stp.inn++st.inn.take i)) ?_ (by rintro _ _ _ _ ⟨_,_,_,_,z,_⟩;exact .of (z _ _ c1)) ?_ ?_
   ·exact ⟨_,lf,us,rfl,.refl _,nf,u5 _ _ f1,by simpa using ul⟩
   ·rintro _ i _ σ _ z HC hi ⟨v4,lf,us,rfl,tC,nf,f1,ul⟩ ⟨rfl,hz⟩
    obtain ⟨x,hx,hrx⟩:=(c2.mono tC).mapGet' hz
    have hxm:=xAc hx
    have hin:x∈b.steps.flatMap Stp.inn:=xA4.mpr ⟨st,hmem,hxm⟩
    have hcx:=my hin
    k_go
    refine ⟨z,x.2,rfl,hrx,by lia,by lia,bl.inn hmem hxm,fun l6 H6 us6 s6 n6 h6 m6 e6=>?_⟩
    have l1:=ul.len
    have cle:cntL ((b.steps.take j).flatMap Stp.inn++st.inn.take i)≤cntL (b.steps.flatMap Stp.inn):=by
     have e1:b.steps.flatMap Stp.inn=(b.steps.take j).flatMap Stp.inn++(b.steps.drop j).flatMap Stp.inn:=by rw [← List.flatMap_append,xBx]
     have e2:b.steps.drop j=st::b.steps.drop (j+1):=by
      obtain ⟨q1,q2⟩:=xAq.mp hst
      rw [← q2]
      exact xB2 q1
     rw [e1,aZ,aZ,e2,xBh,aZ]
     have e3:cntL st.inn=cntL (st.inn.take i)+cntL (st.inn.drop i):=by rw [← aZ,xBx]
     lia
    refine di (s6 _ _ f1) h6 (lineMe (by rw [xAa,xAa];lia)) fun l7 H7 s7 n7 h7=>?_
    k_go
    refine ⟨_,l7,us++us6,rfl,tC.trans (s6.trans s7),t5.free (tC.free (s6.free n7)),by rw [h7,xAi],?_⟩
    rw [aK hx,← xAx]
    refine ⟨fun k=>by rw [xAj,GM.snoc,ul.mem,m6],?_⟩
    rw [xAb,aZ]
    simp only [cntL,xBs,List.map_nil,xB9,List.sum_nil] at l1 ⊢
    lia
   ·rintro σ HC ⟨v4,lf,us,rfl,tC,nf,f1,ul⟩
    rw [lc2,xAu] at ul
    k_go
    refine ⟨_,_,l4,lf,us,rfl,t5.trans tC,⟨tB.free (s3.free n4),nf⟩,⟨_,tC _ _ (s5 _ _ h4),?_⟩,f1,?_⟩
    ·rw [aV hst,← List.cons_append,xAi]
     exact ((a2.mono (u5.trans tC)).app (b2.mono (s4.trans (s5.trans tC))))
    ·rw [aV hst]
     exact ul
  ·rintro σ HB ⟨v3,v4,la,lf,us,rfl,tB,⟨na,nf⟩,⟨as,a1,a2⟩,f1,ul⟩
   have lw:=g3.mapLen
   rw [lw,xAu] at a2 ul
   have la2:=a2.mapLen
   have ol:=lz bl b.steps.length
   rw [xAu] at ol
   k_go
   refine bS (aS (xs:=as)) (fun B i ys H2=>H2 B=some (.lst ys)∧Same HB H2∧HB B=none∧∃ ns:List Int,ys=ns.map V.int∧(∀ k,k∈ns↔Atom.nm k∈(b.last::b.steps.flatMap Stp.ops).take i)∧ns.length≤i) (fun B hB=>⟨ah,aw hB _,hB,[],rfl,by simp,xAg _⟩) ?_ ?_ ?_
   ·rintro B i ys H2 hi ⟨h1,h2,h3,ns,rfl,h4,h5⟩
    exact ⟨h1,by rw [xAa];exact lineM (by lia),.of (h2 _ _ a1)⟩
   ·rintro B i ys _ x H2 hi ⟨h1,h2,h3,ns,rfl,h4,h5⟩ ⟨rfl,hx⟩
    obtain ⟨at',hat,hra⟩:=(a2.mono h2).mapGet' hx
    obtain ⟨pa,wd,n,rfl,hpa,hcase⟩:=Atom.inv hra
    k_go
    refine ⟨rfl,rfl,?_⟩
    k_go
    rcases hcase with ⟨rfl,rfl⟩ | ⟨rfl,rfl⟩
    ·refine ⟨h1,?_⟩
     k_go
     refine ⟨h1,h2,h3,ns,rfl,fun k=>?_,by lia⟩
     rw [a0 hat,h4]
     exact ⟨.inl,fun z=>z.elim id fun e=>nomatch e⟩
    ·refine ⟨h1,?_⟩
     k_go
     refine ⟨h1,ah,h2.upd_new h3,h3,ns++[n],by simp,fun k=>?_,by rw [xAb,xAt];lia⟩
     rw [a0 hat,xAj,xAm,h4]
     exact or_congr Iff.rfl ⟨fun e=>by rw [e],fun e=>by injection e⟩
   ·rintro B ys H2 ⟨h1,h2,h3,ns,rfl,h4,h5⟩
    rw [la2,xAu] at h4
    have l1:=ul.len
    refine di (h2 _ _ f1) h1 (lineMe (by rw [xAa,xAa];lia)) fun l3 H3 s3 n3 h6=>?_
    refine q l3 H3 (us++ns) (tB.trans (h2.trans s3)) (tB.free (h2.free n3)) (by rw [h6,xAi]) (fun k=>?_) ?_
    ·rw [xAj,ul.mem,h4,nw]
    ·rw [xAb]
     lia
end
section
variable {P:Program} {w:World} {K:xFr} {mg:Str→Option Value} {base:Heap}
def S0 (n s b:Int):S41:=⟨n,s,40,0,fun _=>False,b⟩
def spState:Sp:=fun vs H Q _=>∃ (c sd:Int),vs=[.int c,.int sd,.int 40]∧∀ H' A (n s b:Int),Same H H'→ST H' A (S0 n s b)→(∀ b∈A.fp,H b=none)→Q (.ref A.a) H'
theorem mk0 {A:SA} {n s:Int}:mergeK [] [(.inr "number",.int n),(.inr "seed",.int s),(.inr "left",.int 40),(.inr "names",.int 0),(.inr "boxes",.ref A.b)]=digK n s [(.inr "left",.int 40),(.inr "names",.int 0),(.inr "boxes",.ref A.b)]:=by kernel_rfl
theorem mk1 {A:SA} {n s b:Int}:putK (digK n s [(.inr "left",.int 40),(.inr "names",.int 0),(.inr "boxes",.ref A.b)]) (.inr "by") (.int b)=kv A (S0 n s b):=by kernel_rfl
def gstate:Scope:={ kind:=.function,names:=[("_law_cell",.local),("_law_seed",.local),("_law_left",.local),("_law_state_here",.local),("max",.globalImplicit)],isGenerator:=false,isCoroutine:=false,more:=[] }
theorem scstate:FnScope ["_law_cell","_law_seed","_law_left","_law_state_here"] ["_law_cell","_law_seed","_law_left"] gstate:=⟨rfl,rfl,rfl,by decide +kernel,rfl,by decide +kernel,by decide +kernel⟩
theorem pJ (F:Dn K mg "_law_state" sState ["_law_cell","_law_seed","_law_left"]) (T:Txt K mg):Cal P w K mg base "_law_state" 1 ["_law_cell","_law_seed","_law_left"] spState:=by
 refine F.ok scstate rfl (fun vs H Q E h=>?_) (fun f cdv A outer s H vs Q E hr h=>?_)
 ·obtain ⟨c,sd,rfl,_⟩:=h
  rfl
 ·obtain ⟨c,sd,rfl,q⟩:=h
  have hu:=bJ hr
  refine' ⟨?tt,QSs.h ?hh,?gg⟩
  case hh=>exact (ab (aD (i:=3) scstate.nd rfl (Or.inl rfl) (rS (dw aj (bV (tV rfl) rfl T.zmax uH (ae (qv 0) (ae (aF dz (oU jZ af) (qv 0)) aa))) (dw aj (aF cq (qv 1) af) (dw aj (qv 2) (dw aj af (dw aj c7 rO))))) rfl rfl (fun z=>nomatch z) (by decide)))
   (ab (bc hu (qv 3) aj (aF eX af (aF cq (qv 1) af)))
   (ag (ao (qv 3)))))
  refine uj ?_
  refine oQ ?_
  refine vB fun d H1 t1 m1 h1=>?_
  k_go
  have hnum:0≤(if -1 - c > c then -1 - c else c):=by split <;> lia
  generalize (if -1 - c > c then -1 - c else c)=num at hnum ⊢
  refine r_I (by decide) ?_
  k_go
  refine eV fun lb H2 t2 m2 h2=>?_
  k_go
  have d2:=t2 _ _ h1
  have n12:lb≠d:=(ak h1 m2).symm
  have e1:=xBa sd (show (2147483646:Int)≠0 by decide)
  have e2:=xBb sd (show (0:Int)<2147483646 by decide)
  refine rM [(.inr "number",.int num),(.inr "seed",.int (sd % 2147483646)),(.inr "left",.int 40),(.inr "names",.int 0),(.inr "boxes",.ref lb)] d2 rfl (by simp) ?_
  rw [mk0 (A:=⟨d,lb⟩)]
  have h3:upd H2 d (.dK (digK num (sd % 2147483646) [(.inr "left",.int 40),(.inr "names",.int 0),(.inr "boxes",.ref lb)])) d=some (.dK (digK num (sd % 2147483646) [(.inr "left",.int 40),(.inr "names",.int 0),(.inr "boxes",.ref lb)])):=ah
  k_go
  refine r_I (by decide) ?_
  k_go
  refine dH h3 (by show 5≤1000;decide) ?_
  rw [mk1 (A:=⟨d,lb⟩),ip]
  k_go
  have f1:=xBa sd (show (210:Int)≠0 by decide)
  have f2:=xBb sd (show (0:Int)<210 by decide)
  have u2:=t1.trans t2
  refine q _ ⟨d,lb⟩ num (sd % 2147483646) (1+sd % 210) (u2.upd_new m1) ⟨ah,?_,n12,fun k hk=>hk.elim,by show 0<1+sd % 210;lia,by show 1+sd % 210<211;lia,⟨hnum,e1,by show sd % 2147483646<_;lia⟩⟩ (fun b hb=>?_)
  ·exact (KS.empty h2).kept (fp:=[d]) (.put (by simp)) (by simp [n12])
  ·simp only [SA.fp,xAv,xBv,or_false] at hb
   rcases hb with rfl | rfl
   ·exact m1
   ·exact t1.free m2
end
section
variable {P:Program} {w:World} {K:xFr} {mg:Str→Option Value} {base:Heap}
theorem kQ {H:Hp}:∀ {ds:List D} {vs:List V},Rps H ds vs→Rps H ds.reverse vs.reverse
 | [],_,h=>by rw [show _=[] from h];rfl
 | d::ds,_,h=>by
  obtain ⟨v,r,rfl,h1,h2⟩:=h
  rw [List.reverse_cons,List.reverse_cons]
  exact (kQ h2).app (.one h1)
structure BB (b:Bdy):Prop where
 len:BLen b
 cnt:b.cnt≤100
 men:∀ k,Men b k→0≤k∧k<211
 giv:∀ k,Giv b k→0≤k∧k<211
theorem BB.okB {b:Bdy} (h:BB b):OkB b:=⟨by have:=h.cnt;lia,fun x hx=>⟨by have:=(h.len x hx).1;lia,fun s hs=>((h.len x hx).2 s hs).1⟩,fun k hk=>by have:=h.giv k hk;lia,fun k hk=>by have:=h.men k hk;lia⟩
theorem BB.sub {b c:Bdy} (h:BB b) (hs:∀ s∈c.steps,s∈b.steps) (hl:c.last=b.last) (h4:c.steps.length≤4) (hc:c.cnt≤100):BB c:=by
 refine ⟨fun x hx=>?_,hc,fun k hk=>h.men k ?_,fun k hk=>h.giv k ?_⟩
 ·rcases hx with rfl | hx
  ·exact ⟨h4,fun s z=>(h.len ([],b) (.inl rfl)).2 s (hs s z)⟩
  ·cases hx with
   | here h1 h2=>exact h.len x (.inr (.here (hs _ h1) h2))
   | deep h1 h2 h3=>exact h.len x (.inr (.deep (hs _ h1) h2 h3))
 ·rcases Men.iff.mp hk with z | ⟨s,z1,z2⟩
  ·exact Men.iff.mpr (.inl (by rw [← hl];exact z))
  ·exact Men.iff.mpr (.inr ⟨s,hs s z1,z2⟩)
 ·obtain ⟨s,z1,z2⟩:=Giv.iff.mp hk
  exact Giv.iff.mpr ⟨s,hs s z1,z2⟩
theorem BB.inn {b:Bdy} {s:Stp} {x:List Int×Bdy} (h:BB b) (hs:s∈b.steps) (hx:x∈s.inn):BB x.2 :=
 ⟨h.len.inn hs hx,by have:=cX hs hx;have:=h.cnt;lia,fun k hk=>h.men k (Men.iff.mpr (.inr ⟨s,hs,.inr ⟨x,hx,hk⟩⟩)),fun k hk=>h.giv k (Giv.iff.mpr ⟨s,hs,.inr ⟨x,hx,.inr hk⟩⟩)⟩
theorem BB.menS {b:Bdy} {s:Stp} {k:Int} (h:BB b) (hs:s∈b.steps) (hk:MenS s k):0≤k∧k<211:=h.men k (Men.iff.mpr (.inr ⟨s,hs,hk⟩))
def rst (b:Bdy) (i:Nat):List Int:=ris (Men (Drp b i))
def restsD (b:Bdy):D:=.tup ((List.range (b.steps.length+1)).map fun i=>intsD (rst b i))
theorem qZ {α:Type} {xs:List α} {n:Nat} {v:α} (hl:xs.length=n+1) (h:xs[n]?=some v):atI xs (-1)=some v:=by
 have e:xs=xs.take n++[v]:=by
  have:=aK h
  rw [← this,List.take_of_length_le (by lia)]
 rw [e]
 exact q0 _ _
theorem mQ {α:Type} (f:Nat→α) (n:Nat):((List.range (n+1)).map fun m=>f (n - m)).reverse=(List.range (n+1)).map f:=by
 apply List.ext_getElem?
 intro i
 by_cases hi:i<n+1
 ·rw [List.getElem?_reverse (by simpa using hi)]
  simp only [xAa,List.length_range,xAw]
  rw [List.getElem?_range (by lia),List.getElem?_range hi]
  simp only [Option.map_some]
  congr 2
  lia
 ·rw [xA9 (by simpa using hi),xA9 (by simpa using hi)]
theorem mw {s:Stp} {a:Atom}:(Bdy.mk [s] a).cnt=1+s.cnt:=by simp [Bdy.cnt,Stp.cnts]
theorem jP {b:Bdy} {s:Stp} (h:s∈b.steps):1+s.cnt≤b.cnt:=by
 rw [b.cnt_eq,fg,Stp.cnts_eq]
 have:s.cnt≤(b.steps.map Stp.cnt).sum:=by
  generalize b.steps=l at h
  induction l with
  | nil=>cases h
  | cons t l ih =>
   rw [xBs,xB9]
   rcases xAv.mp h with rfl | h
   ·lia
   ·have:=ih h;lia
 lia
def spRests:Sp:=fun vs H Q _=>∃ (v:V) (b:Bdy),vs=[v]∧Rp H b.d v∧BB b∧∀ p H',Same H H'→Rp H' (restsD b) (.ref p)→Q (.ref p) H'
def grests:Scope:={ kind:=.function,names:=[("body",.local),("steps",.local),("last",.local),("rests",.local),("step",.local),("uses",.local),("tuple",.globalImplicit),("mentioned",.globalImplicit),("reversed",.globalImplicit),("sorted",.globalImplicit),("set",.globalImplicit)],isGenerator:=false,isCoroutine:=false,more:=[] }
theorem scrests:FnScope ["body","steps","last","rests","step","uses"] ["body"] grests:=⟨rfl,rfl,rfl,by decide +kernel,rfl,by decide +kernel,by decide +kernel⟩
theorem pM (F:Dn K mg "rests_of" sRests ["body"]) (T:Txt K mg) (c_mentioned:Cal P w K mg base "mentioned" 3 ["body"] spMen):Cal P w K mg base "rests_of" 4 ["body"] spRests:=by
 refine F.ok scrests rfl (fun vs H Q E h=>?_) (fun f cdv A outer s H vs Q E hr h=>?_)
 ·obtain ⟨v,b,rfl,_⟩:=h
  rfl
 ·obtain ⟨v,b,rfl,hv,bb,q⟩:=h
  refine' ⟨?tt,QSs.h ?hh,?gg⟩
  case hh=>exact (ab (gh (qv 0) (a8 rfl (ay (am (i:=1) scrests.nd rfl (Or.inl rfl)) (ay (am (i:=2) scrests.nd rfl (Or.inl rfl)) a7))))
   (ab (aD (i:=3) scrests.nd rfl (Or.inl rfl) (aH (ae (aU a9 rfl T.ztuple bI (ae (av c_mentioned hr rfl (ae (aB (ae (aB aa) (ae (qv 2) aa))) aa)) aa)) aa)))
   (ab (aR PassesOwn.never rfl (oT rfl T.zreversed (ae (qv 1) aa)) (am (i:=4) scrests.nd rfl (Or.inl rfl))
    (ab (aD (i:=5) scrests.nd rfl (Or.inl rfl) (av c_mentioned hr rfl (ae (aB (ae (aB (ae (qv 4) aa)) (ae (qv 2) aa))) aa)))
   (ag (ck (cm PySem.F.plainAttrs_list PySem.F.slot_list_append PySem.F.type_list_append bE (qv 3) (ae (aU a9 rfl T.ztuple bI (ae (bV (gD rfl) rfl T.zsorted cE (ae (aF wf (aU (gF rfl) rfl T.zset jT (ae (au dF (qv 3) (oU jZ af)) aa)) (aU (jK rfl) rfl T.zset jT (ae (qv 5) aa))) aa)) aa)) aa))))))
   (ag (ao (mT rfl rfl T.ztuple rfl T.zreversed (qv 3)))))))
  obtain ⟨p,pq,ws,va,rfl,g1,g2,g3,g4⟩:=hv.body
  have l4:b.steps.length≤4:=bb.len.len
  have lw:=g3.mapLen
  k_go
  refine az fun p0 H0 s0 n0 h0=>?_
  k_go
  refine az fun p1 H1 s1 n1 h1=>?_
  have u1:=s0.trans s1
  have bn:BB (.mk [] b.last):=bb.sub (fun s hs=>by cases hs) rfl (xBn _) (by simp [Bdy.cnt,Stp.cnts])
  k_go
  refine ⟨.ref p1,.mk [] b.last,rfl,⟨p1,_,rfl,h1,_,_,rfl,⟨p0,_,rfl,s1 _ _ h0,rfl⟩,.one (g4.mono u1)⟩,bn.okB,fun l2 H2 ns2 s2 n2 h2 q2 m2=>?_⟩
  k_go
  refine cg h2 fun p3 H3 s3 n3 h3=>?_
  k_go
  refine aq fun lr H4 s4 n4 h4=>?_
  have u4:=u1.trans (s2.trans (s3.trans s4))
  have g24:=u4 _ _ g2
  have e0:ns2=rst b b.steps.length:=j9 q2 (fun k=>by rw [m2,lK,lM]) fun k hk=>bb.men k (bQ hk)
  k_go
  refine aL (uI (xs:=ws)) (fun i σ HB=>∃ (v4 v5:Option V),σ=[some (.ref p),some (.ref pq),some va,some (.ref lr),v4,v5]∧Same H HB∧LD HB lr ((List.range (i+1)).map fun m=>intsD (rst b (b.steps.length - m)))) ?_ (by rintro _ _ _ _ ⟨_,_,_,z,_⟩;exact .of (z _ _ g2)) ?_ ?_
  ·refine ⟨_,_,rfl,u4,⟨_,h4,?_⟩⟩
   rw [e0] at h3
   exact .one (cz (s4 _ _ h3))
  ·rintro _ i _ σ _ y HB hi ⟨v4,v5,rfl,tB,⟨us,hl,hus⟩⟩ ⟨rfl,hy⟩
   rw [lw] at hi hy
   obtain ⟨st,hst,hrs⟩:=(g3.mono tB).mapGet' hy
   have hm:=xAc hst
   have hlu:=hus.mapLen
   rw [List.length_range] at hlu
   have g4B:=g4.mono tB
   k_go
   refine az fun p5 H5 s5 n5 h5=>?_
   k_go
   refine az fun p6 H6 s6 n6 h6=>?_
   have u6:=s5.trans s6
   have bo:BB (.mk [st] b.last):=bb.sub (fun s hs=>by rw [xAm.mp hs];exact hm) rfl (by simp [Bdy.steps]) (by rw [mw];have:=jP hm;have:=bb.cnt;lia)
   k_go
   refine ⟨.ref p6,.mk [st] b.last,rfl,⟨p6,_,rfl,h6,_,_,rfl,⟨p5,_,rfl,s6 _ _ h5,.one (hrs.mono u6)⟩,.one (g4B.mono u6)⟩,bo.okB,fun l7 H7 ns7 s7 n7 h7 q7 m7=>?_⟩
   have u7:=u6.trans s7
   have hl7:=u7 _ _ hl
   obtain ⟨x,hx,hrx⟩:=(hus.mono u7).mapGet (i:=i) (x:=i) (List.getElem?_range (by lia))
   obtain ⟨qx,rfl,hqx⟩:=aY hrx
   k_go
   refine gW hl7 (qZ (by lia) hx) ?_
   k_go
   have bx:∀ z∈rst b (b.steps.length - i),0≤z∧z<211:=fun z hz=>(br hz).2
   refine kb hqx (fun z hz=>by have:=bx z hz;lia) fun l8 ks8 H8 s8 n8 h8 d8 m8=>?_
   k_go
   have b7:∀ z∈ns7,0≤z∧z<211:=fun z hz=>bo.men z ((m7 z).mp hz)
   refine oF (s8 _ _ h7) (fun z hz=>by have:=b7 z hz;lia) fun l9 ks9 H9 s9 n9 h9 d9 m9=>?_
   refine xl (h8.ne n9) (h8.mono s9) h9 (fun z hz=>by have:=bx z ((m8 z).mp hz);lia) (fun z hz=>by have:=b7 z ((m9 z).mp hz);lia) fun lA ksA HA sA nA hA dA mA=>?_
   k_go
   have bA:∀ z∈ksA,0≤z∧z<211:=fun z hz=>((mA z).mp hz).elim (fun y=>bx z ((m8 z).mp y)) fun y=>b7 z ((m9 z).mp y)
   refine gU hA (fun z hz=>by have:=bA z hz;lia) fun lC nsC HC sC nC hC pC mC=>?_
   k_go
   refine cg hC fun pD HD sD nD hD=>?_
   have uD:=s8.trans (s9.trans (sA.trans (sC.trans sD)))
   k_go
   have hlD:=uD _ _ hl7
   refine cj hlD (lineM (by lia)) ?_
   have tl:TLe HD (upd HD lr (.lst (us++[.ref pD]))):=.upd fun xs z=>by rw [hlD] at z;cases z
   have hst':b.steps[b.steps.length - (i+1)]?=some st:=by rw [show b.steps.length - (i+1)=b.steps.length - 1 - i by lia];exact hst
   have e1:nsC=rst b (b.steps.length - (i+1)):=by
    refine j9 pC (fun k=>?_) fun k hk=>bb.men k (bQ hk)
    rw [b9 hst',show b.steps.length - (i+1)+1=b.steps.length - i by lia,mC,mA,m8,m9,m7,lI,show k∈rst b (b.steps.length - i)↔Men (Drp b (b.steps.length - i)) k from cG fun k hk=>bb.men k (bQ hk)]
    constructor
    ·rintro (z | z | z)
     ·exact .inr z
     ·exact .inr (p8 z)
     ·exact .inl z
    ·rintro (z | z)
     ·exact .inr (.inr z)
     ·exact .inl z
   k_go
   refine ⟨_,_,rfl,((tB.trans (u7.trans uD)).upd_new (u1.free (s2.free (s3.free n4)))),⟨_,ah,?_⟩⟩
   rw [List.range_succ,xAi]
   rw [e1] at hD
   exact ((hus.mono (u7.trans uD)).app (.one (cz hD))).le tl
  ·rintro σ HB ⟨v4,v5,rfl,tB,⟨us,hl,hus⟩⟩
   k_go
   refine mR hl fun pE HE sE nE hE=>?_
   refine q pE HE (tB.trans sE) ⟨pE,_,rfl,hE,?_⟩
   have:=kQ (hus.mono sE)
   rw [lw,mQ (fun i=>intsD (rst b i))] at this
   exact this
end
section
variable {P:Program} {w:World} {K:xFr} {mg:Str→Option Value} {base:Heap}
def spBoth:Sp:=fun vs H Q _=>∃ (a c:Addr) (xs us:List Int),vs=[.ref a,.ref c]∧H a=some (.tup (xs.map V.int))∧H c=some (.tup (us.map V.int))∧(∀ k∈xs,0≤k∧k<211)∧(∀ k∈us,0≤k∧k<211)∧∀ p H',Same H H'→H' p=some (.tup ((ris fun k=>k∈xs∧k∈us).map V.int))→Q (.ref p) H'
def gboth:Scope:={ kind:=.function,names:=[("there",.local),("uses",.local),("tuple",.globalImplicit),("sorted",.globalImplicit),("set",.globalImplicit)],isGenerator:=false,isCoroutine:=false,more:=[] }
theorem scboth:FnScope ["there","uses"] ["there","uses"] gboth:=⟨rfl,rfl,rfl,by decide +kernel,rfl,by decide +kernel,by decide +kernel⟩
theorem sU (F:Dn K mg "both" sBoth ["there","uses"]) (T:Txt K mg):Cal P w K mg base "both" 1 ["there","uses"] spBoth:=by
 refine F.ok scboth rfl (fun vs H Q E h=>?_) (fun f cdv A outer s H vs Q E hr h=>?_)
 ·obtain ⟨a,c,xs,us,rfl,_⟩:=h
  rfl
 ·obtain ⟨a,c,xs,us,rfl,ha,hc,bx,bu,q⟩:=h
  refine' ⟨?tt,QSs.h ?hh,?gg⟩
  case hh=>exact (ag (ao (aU a9 rfl T.ztuple bI (ae (bV (gD rfl) rfl T.zsorted cE (ae (aF sx (aU (gF rfl) rfl T.zset jT (ae (qv 0) aa)) (aU (gF rfl) rfl T.zset jT (ae (qv 1) aa))) aa)) aa))))
  k_go
  refine kb ha (fun z hz=>by have:=bx z hz;lia) fun l8 ks8 H8 s8 n8 h8 d8 m8=>?_
  k_go
  refine kb (s8 _ _ hc) (fun z hz=>by have:=bu z hz;lia) fun l9 ks9 H9 s9 n9 h9 d9 m9=>?_
  refine vF (h8.ne n9) (h8.mono s9) h9 (fun z hz=>by have:=bx z ((m8 z).mp hz);lia) (fun z hz=>by have:=bu z ((m9 z).mp hz);lia) fun lA ksA HA sA nA hA dA mA=>?_
  k_go
  refine gU hA (fun z hz=>by have:=bx z ((m8 z).mp ((mA z).mp hz).1);lia) fun lC nsC HC sC nC hC pC mC=>?_
  k_go
  refine cg hC fun pD HD sD nD hD=>?_
  refine q pD HD (s8.trans (s9.trans (sA.trans (sC.trans sD)))) ?_
  rw [hD,j9 (P:=fun k=>k∈xs∧k∈us) pC (fun k=>by rw [mC,mA,m8,m9]) fun k hk=>bx k hk.1]
end
section
variable {P:Program} {w:World} {K:xFr} {mg:Str→Option Value} {base:Heap}
def Stp.word:Stp→Str
 | .start _ _ _=>"start" | .box _ _ _=>"box" | .tell _ _ _=>"tell" | .read _ _=>"read" | .load _ _=>"load" | .set _ _ _ _=>"set" | .store _ _ _ _=>"store"
 | .math _ _ _ _ _=>"math" | .make _ _ _ _=>"make" | .ask _ _=>"ask" | .rais _ _ _ _=>"raise" | .call _ _ _ _ _=>"call" | .close _ _ _ _=>"close" | .func _ _ _ _=>"func" | .iff _ _ _ _ _=>"if" | .mtch _ _ _ _ _ _ _=>"match" | .tri _ _ _ _ _ _=>"try"
theorem inv2 {H:Hp} {s:Stp} {v:V} (h:Rp H s.d v):∃ p r,v = .ref p∧H p=some (.tup (.str (Stp.word s)::.int s.to::r)):=by
 have e:∃ (ds:List D),s.d = .tup (.str (Stp.word s)::.int s.to::ds):=by cases s <;> exact ⟨_,rfl⟩
 obtain ⟨ds,e⟩:=e
 rw [e] at h
 obtain ⟨p,_,rfl,hp,_,_,rfl,rfl,_,r,rfl,rfl,_⟩:=h
 exact ⟨p,r,rfl,hp⟩
theorem wT {s:Stp} (h:Stp.word s="try"):∃ to one w x other pl,s = .tri to one w x other pl:=by
 cases s <;> first | exact ⟨_,_,_,_,_,_,rfl⟩ | exact absurd h (by simp only [Stp.word];decide +kernel)
theorem wF {s:Stp} (h:Stp.word s≠"try") (j:Nat) (k:Int):¬ Cgt s j k:=by
 cases s <;> first | exact fun z=>z | exact absurd rfl h
def spUic:Sp:=fun vs H Q _=>∃ (v:V) (s:Stp) (j:Nat),vs=[v,.int j]∧Rp H s.d v∧(∀ x∈s.inn,BB x.2)∧∀ (p:Addr) (H':Hp) (us:List Int),Same H H'→H' p=some (.tup (us.map V.int))→(∀ k,k∈us↔Cgt s j k)→us.length≤211→Q (.ref p) H'
def guic:Scope:={ kind:=.function,names:=[("step",.local),("which",.local),("tuple",.globalImplicit),("mentioned",.globalImplicit)],isGenerator:=false,isCoroutine:=false,more:=[] }
theorem scuic:FnScope ["step","which"] ["step","which"] guic:=⟨rfl,rfl,rfl,by decide +kernel,rfl,by decide +kernel,by decide +kernel⟩
theorem wo (F:Dn K mg "used_if_caught" sUic ["step","which"]) (T:Txt K mg) (c_mentioned:Cal P w K mg base "mentioned" 3 ["body"] spMen):Cal P w K mg base "used_if_caught" 4 ["step","which"] spUic:=by
 refine F.ok scuic rfl (fun vs H Q E h=>?_) (fun f cdv A outer s H vs Q E hr h=>?_)
 ·obtain ⟨v,s,j,rfl,_⟩:=h
  rfl
 ·obtain ⟨v,st,j,rfl,hv,hb,q⟩:=h
  refine' ⟨?tt,QSs.h ?hh,?gg⟩
  case hh=>exact (ab (aE (QW.pt (eW (ap aM (au ai (qv 0) af) aj (nomark _)) (dI (ap aM (qv 1) af (nomark _))))) (ag (ao (aU a9 rfl T.ztuple bI (ae (av c_mentioned hr rfl (ae (au ai (qv 0) af) aa)) aa)))) ar)
   (ag (ao (aB aa))))
  obtain ⟨p,r,rfl,hp⟩:=inv2 hv
  k_go
  refine cH hp jU ?_
  k_go
  refine ba (fun z=>?_) (fun z=>?_)
  ·obtain ⟨to,one,w',x,other,pl,rfl⟩:=wT (xBe z)
   obtain ⟨p',va',vb',e',hp',ha',hb'⟩:=dX (hv)
   cases e'
   clear hp
   have bo:BB other:=hb ([x],other) (by simp [Stp.inn])
   k_go
   refine ba (fun z2=>?_) (fun z2=>?_)
   ·k_go
    refine ⟨vb',other,rfl,hb',bo.okB,fun l1 H1 ns1 s1 n1 h1 q1 m1=>?_⟩
    k_go
    refine cg h1 fun p2 H2 s2 n2 h2=>?_
    have z2':=xBe z2
    refine q p2 H2 ns1 (s1.trans s2) h2 (fun k=>(m1 k).trans ⟨fun y=>⟨by lia,y⟩,fun y=>y.2⟩) (cr 211 (q1.imp fun h=>by lia) fun k hk=>bo.men k ((m1 k).mp hk))
   ·k_go
    have z2':=xBf z2
    refine az fun p2 H2 s2 n2 h2=>?_
    exact q p2 H2 [] s2 h2 (fun k=>⟨fun y=>(by cases y),fun y=>absurd y.1 (by lia)⟩) (xBn _)
  ·refine bj rfl ?_
   k_go
   refine az fun p2 H2 s2 n2 h2=>?_
   exact q p2 H2 [] s2 h2 (fun k=>⟨fun y=>(by cases y),fun y=>absurd y (wF (xBf z) j k)⟩) (xBn _)
end
section
variable {P:Program} {w:World} {K:xFr} {mg:Str→Option Value} {base:Heap}
structure AddOk (b:Bdy) (ts bs path:List Int) (rows:List Row):Prop where
 bb:BB b
 bt:∀ k∈ts,0≤k∧k<211
 bu:∀ k∈bs,0≤k∧k<211
 lt:ts.length+20 * b.cnt≤5000
 lb:bs.length+1000 * b.cnt≤200000
 lp:path.length+2 * b.cnt≤5000
 lr:rows.length+4 * b.cnt≤10000
theorem AddOk.inn {b:Bdy} {ts bs path:List Int} {rows rows':List Row} (h:AddOk b ts bs path rows) {i j:Nat} {s:Stp} {x:List Int×Bdy} {us:List Int} (hs:b.steps[i]?=some s) (hx:x∈s.inn) (hu:∀ k,k∈us→Cgt s j k) (hl:us.length≤211) (hr:rows'.length+4 * x.2.cnt≤10000):AddOk x.2 (thr ts b i++x.1) (rst b (i+1)++bs++us) (path++[(i:Int)]++[(j:Int)]) rows':=by
 have hm:=xAc hs
 have c:=cX hm hx
 have l4:b.steps.length≤4:=h.bb.len.len
 have hp:x.1.length≤4:=((h.bb.len ([],b) (.inl rfl)).2 s hm).2 x hx
 have tt:(thr ts b i).length≤ts.length+4:=by
  unfold thr
  rw [xAb,xAa,xAn]
  lia
 have rl:=bZ (P:=Men (Drp b (i+1)))
 refine ⟨h.bb.inn hm hx,fun k hk=>?_,fun k hk=>?_,?_,?_,?_,hr⟩
 ·rcases xAj.mp hk with hk | hk
  ·rcases xAj.mp hk with hk | hk
   ·exact h.bt k hk
   ·obtain ⟨t,ht,rfl⟩:=xA2.mp hk
    exact h.bb.giv _ (Giv.iff.mpr ⟨t,xBj ht,.inl rfl⟩)
  ·exact h.bb.giv k (Giv.iff.mpr ⟨s,hm,.inr ⟨x,hx,.inl hk⟩⟩)
 ·rcases xAj.mp hk with hk | hk
  ·rcases xAj.mp hk with hk | hk
   ·exact (br hk).2
   ·exact h.bu k hk
  ·have:=hu k hk
   cases s with
   | tri to one w x' other pl=>exact h.bb.men k (Men.iff.mpr (.inr ⟨_,hm,.inr ⟨([x'],other),by simp [Stp.inn],this.2⟩⟩))
   | _=>exact this.elim
 ·rw [xAb]
  have:=h.lt
  lia
 ·rw [xAb,xAb]
  have:=h.lb
  unfold rst
  lia
 ·rw [xAb,xAb,xAt,xAt]
  have:=h.lp
  lia
theorem jc {ts:List Int} {b:Bdy} {i:Nat} {s:Stp} (h:b.steps[i]?=some s):thr ts b (i+1)=thr ts b i++[s.to]:=by
 unfold thr
 rw [aK h,xAi,xAx]
 rfl
theorem om {b:Bdy} {ts bs path:List Int} {rows:List Row} (h:AddOk b ts bs path rows) (i:Nat):∀ k∈thr ts b i,0≤k∧k<211:=fun k hk=>by
 rcases xAj.mp hk with hk | hk
 ·exact h.bt k hk
 ·obtain ⟨t,ht,rfl⟩:=xA2.mp hk
  exact h.bb.giv _ (Giv.iff.mpr ⟨t,xBj ht,.inl rfl⟩)
theorem iz {b:Bdy} {i:Nat} {k:Int} (h:BB b):k∈rst b i↔Men (Drp b i) k:=cG fun k hk=>h.men k (bQ hk)
theorem f6 {α:Type} (f:α→Nat):∀ (l:List α) (n j:Nat),(((l.zipIdx n).take j).map fun z=>f z.1).sum=((l.take j).map f).sum
 | [],_,_=>by simp
 | x::l,n,0=>rfl
 | x::l,n,j+1=>by rw [List.zipIdx_cons,List.take_succ_cons,xBs,xB9,f6 f l,List.take_succ_cons,xBs,xB9]
theorem iZ {α β:Type} (f:α→List β) (g:α→Nat) (c:Nat):∀ L:List α,(∀ y∈L,(f y).length≤c+4 * g y)→(L.flatMap f).length≤c * L.length+4 * (L.map g).sum
 | [],_=>by simp
 | y::L,h=>by
  have h1:=iZ f g c L fun z hz=>h z (xAs _ hz)
  have h2:=h y xAr
  rw [xBh,xAb,xAo,xBs,xB9,Nat.mul_succ]
  lia
theorem BLen.sub {b:Bdy} {s:Stp} {x:List Int×Bdy} (h:BLen b) (hs:s∈b.steps) (hx:x∈s.inn):∀ y,In x.2 y→y.2.steps.length≤4:=fun y hy=>((h.inn hs hx) y hy).1
theorem lX {N:Nat} {path:List Int} {b:Bdy} {ts:List Int} {bh:Int→Prop} (hb:BLen b) {i:Nat} {s:Stp} (hs:s∈b.steps) (j:Nat):((s.inn.zipIdx.take j).flatMap (fun y=>stn N (path++[(i:Int)]++[(y.2:Int)]) y.1.2 (thr ts b i++y.1.1) fun k=>ltr b bh i k∨Cgt s y.2 k)).length≤4 * cntL (s.inn.take j):=by
 have:=iZ (fun y:(List Int×Bdy)×Nat=>stn N (path++[(i:Int)]++[(y.2:Int)]) y.1.2 (thr ts b i++y.1.1) fun k=>ltr b bh i k∨Cgt s y.2 k) (fun y=>y.1.2.cnt) 0 (s.inn.zipIdx.take j) fun y hy=>by
  have:=ir N (path:=path++[(i:Int)]++[(y.2:Int)]) (b:=y.1.2) (ts:=thr ts b i++y.1.1) (bh:=fun k=>ltr b bh i k∨Cgt s y.2 k) (hb.sub hs (xAc (bL (xBj hy))))
  lia
 rw [f6 (fun x:List Int×Bdy=>x.2.cnt)] at this
 unfold cntL
 lia
theorem ow {N:Nat} {path:List Int} {b:Bdy} {ts:List Int} {bh:Int→Prop} (hb:BLen b) {z:Stp×Nat} (hz:z∈b.steps.zipIdx):(stnS N path b ts bh z).length≤1+4 * cntL z.1.inn:=by
 have hs:=xAc (bL hz)
 have:=lX (N:=N) (path:=path) (ts:=ts) (bh:=bh) (i:=z.2) hb hs z.1.inn.zipIdx.length
 rw [xAu,List.length_zipIdx,xAu] at this
 unfold stnS
 rw [xAo]
 lia
theorem ja {N:Nat} {path:List Int} {b:Bdy} {ts:List Int} {bh:Int→Prop} (hb:BLen b) (i:Nat):((b.steps.zipIdx.take i).flatMap (stnS N path b ts bh)).length≤(b.steps.take i).length+4 * cntL ((b.steps.take i).flatMap Stp.inn):=by
 have:=iZ (stnS N path b ts bh) (fun z=>cntL z.1.inn) 1 (b.steps.zipIdx.take i) fun z hz=>ow hb (xBj hz)
 rw [f6 (fun s:Stp=>cntL s.inn),xAn,List.length_zipIdx] at this
 have e:((b.steps.take i).map fun s=>cntL s.inn).sum=cntL ((b.steps.take i).flatMap Stp.inn):=by
  generalize b.steps.take i=l
  induction l with
  | nil=>rfl
  | cons s l ih=>rw [xBs,xB9,ih,xBh,aZ]
 rw [e] at this
 rw [xAn]
 lia
theorem jb {b:Bdy} {i:Nat} {s:Stp} (hs:b.steps[i]?=some s):cntL ((b.steps.take i).flatMap Stp.inn)+cntL s.inn+1≤b.cnt:=by
 have e1:b.steps.flatMap Stp.inn=(b.steps.take i).flatMap Stp.inn++(b.steps.drop i).flatMap Stp.inn:=by rw [← List.flatMap_append,xBx]
 have e2:b.steps.drop i=s::b.steps.drop (i+1):=by
  obtain ⟨q1,q2⟩:=xAq.mp hs
  rw [← q2]
  exact xB2 q1
 rw [b.cnt_eq,e1,aZ,e2,xBh,aZ]
 lia
theorem oz {N:Nat} {path:List Int} {b:Bdy} {ts:List Int} {bh:Int→Prop} {rows:List Row} (hb:BLen b) (hl:rows.length+4 * b.cnt≤10000) {i j:Nat} {s:Stp} {x:List Int×Bdy} (hs:b.steps[i]?=some s) (hx:s.inn[j]?=some x) :
  (rows++(b.steps.zipIdx.take i).flatMap (stnS N path b ts bh)++[Row.mk (path++[(i:Int)]) s (thr ts b i) (ltr b bh i)]++(s.inn.zipIdx.take j).flatMap (fun y=>stn N (path++[(i:Int)]++[(y.2:Int)]) y.1.2 (thr ts b i++y.1.1) fun k=>ltr b bh i k∨Cgt s y.2 k)).length+4 * x.2.cnt≤10000:=by
 have h1:=ja (N:=N) (path:=path) (ts:=ts) (bh:=bh) hb i
 have h2:=lX (N:=N) (path:=path) (ts:=ts) (bh:=bh) (i:=i) hb (xAc hs) j
 have h3:=jb hs
 have h4:cntL (s.inn.take j)+x.2.cnt≤cntL s.inn:=by
  have e:s.inn=s.inn.take j++x::s.inn.drop (j+1):=by
   obtain ⟨q1,q2⟩:=xAq.mp hx
   conv=>lhs;rw [← xBx j s.inn,xB2 q1,q2]
  conv=>rhs;rw [e,aZ,show x::s.inn.drop (j+1)=[x]++s.inn.drop (j+1) from rfl,aZ]
  simp only [cntL,xBs,List.map_nil,xB9,List.sum_nil]
  lia
 have h5:(b.steps.take i).length+1≤4:=by
  have:=hb.len
  have:=(xAq.mp hs).1
  rw [xAn]
  lia
 rw [xAb,xAb,xAb,xAt]
 lia
def spAdd (N:Nat):Sp:=fun vs H Q _=>∃ (l pp pt pq:Addr) (vb:V) (b:Bdy) (ts bs path:List Int) (rows:List Row) (bh:Int→Prop),vs=[.ref l,.ref pp,vb,.ref pt,.ref pq]∧LD H l (rows.map Row.d)∧H pp=some (.tup (path.map V.int))∧Rp H b.d vb∧H pt=some (.tup (ts.map V.int))∧H pq=some (.tup (bs.map V.int)) ∧
 b.cnt≤N∧(∀ k,k∈bs↔bh k)∧AddOk b ts bs path rows∧∀ H',Kept [l] H H'→LD H' l ((rows++stn N path b ts bh).map Row.d)→Q .non H'
def gadd:Scope:={ kind:=.function,names:=[("found",.local),("path",.local),("body",.local),("there",.local),("behind",.local),("rests",.local),("number",.local),("step",.local),("at",.local),("later",.local),("which",.local),("told",.local),("names",.local),("within",.local),("rests_of",.globalImplicit),("enumerate",.globalImplicit),("both",.globalImplicit),("inner",.globalImplicit),("add_stands",.globalImplicit),("used_if_caught",.globalImplicit)],isGenerator:=false,isCoroutine:=false,more:=[] }
theorem scadd:FnScope ["found","path","body","there","behind","rests","number","step","at","later","which","told","names","within"] ["found","path","body","there","behind"] gadd:=⟨rfl,rfl,rfl,by decide +kernel,rfl,by decide +kernel,by decide +kernel⟩
theorem wC (F:Dn K mg "add_stands" sAdd ["found","path","body","there","behind"]) (T:Txt K mg) {N:Nat} (c_rests_of:Cal P w K mg base "rests_of" 4 ["body"] spRests) (c_inner:Cal P w K mg base "inner" 1 ["step"] spInn) (c_both:Cal P w K mg base "both" 1 ["there","uses"] spBoth) (c_used_if_caught:Cal P w K mg base "used_if_caught" 4 ["step","which"] spUic) (c_add_stands:Cal P w K mg base "add_stands" (N+5) ["found","path","body","there","behind"] (spAdd N)):Cal P w K mg base "add_stands" (N+6) ["found","path","body","there","behind"] (spAdd (N+1)):=by
 refine F.ok scadd rfl (fun vs H Q E h=>?_) (fun f cdv A outer s H vs Q E hr h=>?_)
 ·obtain ⟨l,pp,pt,pq,vb,b,ts,bs,path,rows,bh,rfl,_⟩:=h
  rfl
 ·obtain ⟨l,pp,pt,pq,vb,b,ts,bs,path,rows,bh,rfl,⟨vs0,hl0,hvs0⟩,hpp,hv,hpt,hpq,hN,hbh,ad,q⟩:=h
  refine' ⟨?tt,QSs.h ?hh,?gg⟩
  case hh=>exact (ab (aD (i:=5) scadd.nd rfl (Or.inl rfl) (av c_rests_of hr rfl (ae (qv 2) aa)))
   (ag (aR PassesOwn.never rfl (mS rfl T.zenumerate (ae (au ai (qv 2) af) aa)) (a8 rfl (ay (am (i:=6) scadd.nd rfl (Or.inl rfl)) (ay (am (i:=7) scadd.nd rfl (Or.inl rfl)) a7)))
    (ab (aD (i:=8) scadd.nd rfl (Or.inl rfl) (aF bm (qv 1) (aB (ae (qv 6) aa))))
   (ab (aD (i:=9) scadd.nd rfl (Or.inl rfl) (aF bm (au ai (qv 5) (aF eX (qv 6) af)) (qv 4)))
   (ab (ck (cm PySem.F.plainAttrs_list PySem.F.slot_list_append PySem.F.type_list_append bE (qv 0) (ae (aB (ae (qv 8) (ae (qv 7) (ae (av c_both hr rfl (ae (qv 3) (ae (aF bm (au ai (qv 5) (qv 6)) (qv 4)) aa))) (ae (av c_both hr rfl (ae (qv 3) (ae (qv 9) aa))) aa))))) aa)))
   (ab (aR PassesOwn.never rfl (gX rfl T.zenumerate (ae (av c_inner hr rfl (ae (qv 7) aa)) aa)) (a8 rfl (ay (am (i:=10) scadd.nd rfl (Or.inl rfl)) (ay (am (i:=11) scadd.nd rfl (Or.inl rfl)) a7)))
    (ab (gh (qv 11) (a8 rfl (ay (am (i:=12) scadd.nd rfl (Or.inl rfl)) (ay (am (i:=13) scadd.nd rfl (Or.inl rfl)) a7))))
   (ag (ck (av c_add_stands hr rfl (ae (qv 0) (ae (aF bm (qv 8) (aB (ae (qv 10) aa))) (ae (qv 13) (ae (aF bm (qv 3) (qv 12)) (ae (aF bm (qv 9) (av c_used_if_caught hr rfl (ae (qv 7) (ae (qv 10) aa)))) aa))))))))))
   (ag (aD (i:=3) scadd.nd rfl (Or.inl rfl) (aF bm (qv 3) (aB (ae (au ai (qv 7) af) aa))))))))))))
  obtain ⟨p,pw,ws,va,rfl,g1,g2,g3,g4⟩:=hv.body
  have nt:NoT [l] H:=fun a ha xs z=>by rw [xAm.mp ha,hl0] at z;cases z
  have lw:=g3.mapLen
  have l4:b.steps.length≤4:=ad.bb.len.len
  have lts:=ad.lt
  have lbs:=ad.lb
  have lps:=ad.lp
  have cp:=b.cnt_pos
  k_go
  refine ⟨.ref p,b,rfl,hv,ad.bb,fun pr H1 s1 hr1=>?_⟩
  obtain ⟨pr',rs,e',hpr,hrs⟩:=hr1
  cases e'
  have g11:=s1 _ _ g1
  have g21:=s1 _ _ g2
  k_go
  refine aL (nY (xs:=ws)) (fun i σ HB=>∃ (v6 v7 v8 v9 v10 v11 v12 v13:Option V) (pt:Addr),σ=[some (.ref l),some (.ref pp),some (.ref p),some (.ref pt),some (.ref pq),some (.ref pr),v6,v7,v8,v9,v10,v11,v12,v13]∧Kept [l] H HB∧TLe H1 HB∧HB pt=some (.tup ((thr ts b i).map V.int))∧LD HB l ((rows++(b.steps.zipIdx.take i).flatMap (stnS N path b ts bh)).map Row.d)) ?_ (by rintro _ _ _ _ ⟨_,_,_,_,_,_,_,_,_,_,_,z,_⟩;exact .of (z _ _ g21)) ?_ ?_
  ·refine ⟨_,_,_,_,_,_,_,_,pt,rfl,.of s1,.refl,?_,⟨_,s1 _ _ hl0,?_⟩⟩
   ·rw [show thr ts b 0=ts by simp [thr]];exact s1 _ _ hpt
   ·simpa using hvs0.mono s1
  ·rintro _ i _ σ HB x _ hi ⟨v6,v7,v8,v9,v10,v11,v12,v13,pt,rfl,kB,tB,hpt,⟨vs,hl,hvs⟩⟩ ⟨p0,y,rfl,hp0,rfl,hy⟩
   rw [lw] at hi
   have ti:=kB.tle nt
   obtain ⟨st,hst,hrst⟩:=(g3.le ti).mapGet' hy
   have hm:=xAc hst
   have hpt0:upd HB p0 (.tup [.int i,y]) p0=some (.tup [.int i,y]):=ah
   have sC:Same HB (upd HB p0 (.tup [.int i,y])):=aw hp0 _
   generalize upd HB p0 (.tup [.int i,y])=HC at hpt0 sC
   have c1:=hvs.mapLen
   have lT:(thr ts b i).length≤ts.length+4:=by
    unfold thr
    rw [xAb,xAa,xAn]
    lia
   have rl1:=bZ (P:=Men (Drp b (i+1)))
   have rl0:=bZ (P:=Men (Drp b i))
   k_go
   refine az fun q1 H2 s2 n2 h2=>?_
   have u2:=sC.trans s2
   have hpp2:=u2 _ _ (ti _ _ hpp)
   refine ci hpp2 h2 (lineMe (by rw [xAa];simp only [xAt];lia)) fun pa H3 s3 h3=>?_
   have h3':H3 pa=some (.tup ((path++[(i:Int)]).map V.int)):=by rw [h3,xAi];rfl
   have u3:=u2.trans s3
   have hpr3:=u3 _ _ (tB _ _ hpr)
   obtain ⟨x1,hx1,hrx1⟩:=(hrs.le (tB.trans (.of u3))).mapGet (i:=i+1) (x:=i+1) (List.getElem?_range (by lia))
   obtain ⟨qr1,rfl,hq1⟩:=aY hrx1
   obtain ⟨x0,hx0,hrx0⟩:=(hrs.le (tB.trans (.of u3))).mapGet (i:=i) (x:=i) (List.getElem?_range (by lia))
   obtain ⟨qr0,rfl,hq0⟩:=aY hrx0
   k_go
   refine cH hpr3 (cV (j:=i+1) hx1) ?_
   k_go
   have hpq3:=u3 _ _ (ti _ _ hpq)
   refine ci hq1 hpq3 (lineMe (by rw [xAa,xAa];unfold rst;lia)) fun pl H4 s4 h4=>?_
   have h4':H4 pl=some (.tup ((rst b (i+1)++bs).map V.int)):=by rw [h4,xAi]
   have u4:=u3.trans s4
   have hl4:=u4 _ _ hl
   k_go
   refine cH (s4 _ _ hpr3) (cV (j:=i) hx0) ?_
   k_go
   refine ci (s4 _ _ hq0) (s4 _ _ hpq3) (lineMe (by rw [xAa,xAa];unfold rst;lia)) fun pk H5 s5 h5=>?_
   have h5':H5 pk=some (.tup ((rst b i++bs).map V.int)):=by rw [h5,xAi]
   have u5:=u4.trans s5
   have bR:∀ m,∀ k∈rst b m++bs,0≤k∧k<211:=fun m k hk=>(xAj.mp hk).elim (fun z=>(br z).2) fun z=>ad.bu k z
   k_go
   refine ⟨pt,pk,thr ts b i,_,rfl,u5 _ _ hpt,h5',om ad i,bR i,fun pA HA sA hA=>?_⟩
   have uA:=u5.trans sA
   k_go
   refine ⟨pt,pl,thr ts b i,_,rfl,uA _ _ hpt,sA _ _ (s5 _ _ h4'),om ad i,bR (i+1),fun pB HE sE hE=>?_⟩
   have uE:=uA.trans sE
   k_go
   refine az fun pN HF sF nF hF=>?_
   have uF:=uE.trans sF
   have hlF:=uF _ _ hl
   have wl:vs.length≤20000:=by
    have:=ja (N:=N) (path:=path) (ts:=ts) (bh:=bh) ad.bb.len i
    have:=jb hst
    have:=ad.lr
    have:(b.steps.take i).length≤4:=by rw [xAn];lia
    rw [xAb] at c1
    lia
   refine oG ?_
   refine cj hlF (lineM (by lia)) ?_
   have tl:TLe HF (upd HF l (.lst (vs++[.ref pN]))):=.upd fun xs z=>by rw [hlF] at z;cases z
   have hrow:Rp HF (Row.d ⟨path++[(i:Int)],st,thr ts b i,ltr b bh i⟩) (.ref pN):=by
    have eA:(ris fun k=>k∈thr ts b i∧k∈rst b i++bs)=Row.ahead ⟨path++[(i:Int)],st,thr ts b i,ltr b bh i⟩:=gS fun k=>by
     rw [xAj,iz ad.bb,b9 hst,hbh]
     simp only [ltr,or_assoc]
    have eB:(ris fun k=>k∈thr ts b i∧k∈rst b (i+1)++bs)=Row.behind ⟨path++[(i:Int)],st,thr ts b i,ltr b bh i⟩:=gS fun k=>by
     rw [xAj,iz ad.bb,hbh]
     rfl
    rw [eA] at hA
    rw [eB] at hE
    have a3:=s4.trans (s5.trans (sA.trans (sE.trans sF)))
    exact ⟨pN,_,rfl,hF,_,_,rfl,cz (a3 _ _ h3'),_,_,rfl,hrst.mono uF,_,_,rfl,cz (sF _ _ (sE _ _ hA)),.one (cz (sF _ _ hE))⟩
   have hlG:LD (upd HF l (.lst (vs++[.ref pN]))) l ((rows++(b.steps.zipIdx.take i).flatMap (stnS N path b ts bh)++[Row.mk (path++[(i:Int)]) st (thr ts b i) (ltr b bh i)]).map Row.d):=⟨_,ah,by
    rw [xAi]
    exact (((hvs.mono uF).app (.one hrow)).le tl)⟩
   have kG:Kept [l] H (upd HF l (.lst (vs++[.ref pN]))):=kB.trans ((Kept.of uF).trans (.put (by simp)))
   have tG:TLe HB (upd HF l (.lst (vs++[.ref pN]))):=(TLe.of uF).trans tl
   have h3G:=tl _ _ ((s4.trans (s5.trans (sA.trans (sE.trans sF)))) _ _ h3')
   have h4G:=tl _ _ ((s5.trans (sA.trans (sE.trans sF))) _ _ h4')
   generalize upd HF l (.lst (vs++[.ref pN]))=HG at hlG kG tG h3G h4G
   have hrG:=hrst.le tG
   k_go
   refine ⟨y,st,rfl,hrG,fun li HI sI nI zz0=>?_⟩
   obtain ⟨cs,hc1,hc2⟩:=zz0
   have lne:l≠li:=by
    obtain ⟨_,z,_⟩:=hlG
    exact ak z nI
   have lcs:=hc2.mapLen
   k_go
   refine aL (kL (xs:=cs)) (fun j σ HJ=>∃ (v10 v11 v12 v13:Option V),σ=[some (.ref l),some (.ref pp),some (.ref p),some (.ref pt),some (.ref pq),some (.ref pr),some (.int i),some y,some (.ref pa),some (.ref pl),v10,v11,v12,v13]∧Kept [l] HI HJ∧LD HJ l ((rows++(b.steps.zipIdx.take i).flatMap (stnS N path b ts bh)++[Row.mk (path++[(i:Int)]) st (thr ts b i) (ltr b bh i)]++(st.inn.zipIdx.take j).flatMap (fun y=>stn N (path++[(i:Int)]++[(y.2:Int)]) y.1.2 (thr ts b i++y.1.1) fun k=>ltr b bh i k∨Cgt st y.2 k)).map Row.d)) ?_ (fun _ _ _ _ ⟨_,_,_,_,_,z,_⟩=>.of (z _ _ hc1 (by simp [Ne.symm lne]))) ?_ ?_
   ·refine ⟨_,_,_,_,rfl,.refl,?_⟩
    simpa using hlG.mono sI
   ·rintro _ j _ σ HJ x _ hj ⟨v10,v11,v12,v13,rfl,kJ,hlJ⟩ ⟨p7,z,rfl,hp7,rfl,hz⟩
    rw [lcs] at hj
    have ntI:NoT [l] HI:=fun a ha xs e=>by
     obtain ⟨_,e2,_⟩:=hlG
     rw [xAm.mp ha,sI _ _ e2] at e
     cases e
    have tJ:=kJ.tle ntI
    obtain ⟨xx,hxx,hrx⟩:=(hc2.le tJ).mapGet' hz
    have hxm:=xAc hxx
    obtain ⟨pz,pn,vz,rfl,z1,z2,z3⟩:=hrx.pair
    have h70:upd HJ p7 (.tup [.int j,.ref pz]) p7=some (.tup [.int j,.ref pz]):=ah
    have s7:Same HJ (upd HJ p7 (.tup [.int j,.ref pz])):=aw hp7 _
    generalize upd HJ p7 (.tup [.int j,.ref pz])=H7 at h70 s7
    have z17:=s7 _ _ z1
    have t7:TLe HG H7:=(TLe.of sI).trans (tJ.trans (.of s7))
    k_go
    refine az fun q8 H8 s8 n8 h8=>?_
    refine ci (s8 _ _ (t7 _ _ h3G)) h8 (lineMe (by rw [xAa,xAb];simp only [xAt];lia)) fun p9 H9 s9 h9=>?_
    have h9':H9 p9=some (.tup ((path++[(i:Int)]++[(j:Int)]).map V.int)):=by rw [h9,xAi (l₂:=[(j:Int)])];rfl
    have u9:=s8.trans s9
    have hpt9:=u9 _ _ (t7 _ _ (tG _ _ hpt))
    have pn4:xx.1.length≤4:=((ad.bb.len ([],b) (.inl rfl)).2 st hm).2 xx hxm
    k_go
    refine ci hpt9 (u9 _ _ (s7 _ _ z2)) (lineMe (by rw [xAa,xAa];lia)) fun pX HX sX hX=>?_
    have hX':HX pX=some (.tup ((thr ts b i++xx.1).map V.int)):=by rw [hX,xAi]
    have uX:=u9.trans sX
    k_go
    refine ⟨y,st,j,rfl,hrG.le (t7.trans (.of uX)),fun x hx=>ad.bb.inn hm hx,fun pY HY us sY hY mY lY=>?_⟩
    have uY:=uX.trans sY
    refine ci (uY _ _ (t7 _ _ h4G)) hY (lineMe (by rw [xAa,xAa,xAb];unfold rst;lia)) fun pZ HZ sZ hZ=>?_
    have hZ':HZ pZ=some (.tup ((rst b (i+1)++bs++us).map V.int)):=by rw [hZ,xAi (l₂:=us)]
    have uZ:=uY.trans sZ
    have lJ:=(hlJ.mono s7).mono uZ
    have rl:=oz (N:=N) (path:=path) (ts:=ts) (bh:=bh) ad.bb.len ad.lr hst hxx
    k_go
    refine ⟨l,p9,pX,pZ,vz,xx.2,_,_,_,_,fun k=>ltr b bh i k∨Cgt st j k,rfl,lJ,(sX.trans (sY.trans sZ)) _ _ h9',(z3.mono s7).mono uZ,(sY.trans sZ) _ _ hX',hZ',by have:=cX hm hxm;lia,fun k=>?_,ad.inn (j:=j) hst hxm (fun k hk=>(mY k).mp hk) lY rl,fun HW kW lW=>?_⟩
    ·rw [xAj,xAj,iz ad.bb,hbh,mY]
     rfl
    ·k_go
     refine ⟨_,_,_,_,rfl,kJ.trans ((Kept.of (s7.trans uZ)).trans kW),?_⟩
     rw [aV (dS hxx),← xAx]
     exact lW
   ·rintro σ HJ ⟨v10,v11,v12,v13,rfl,kJ,hlJ⟩
    have ntI:NoT [l] HI:=fun a ha xs e=>by
     obtain ⟨_,e2,_⟩:=hlG
     rw [xAm.mp ha,sI _ _ e2] at e
     cases e
    have tJ:=kJ.tle ntI
    have tK:TLe HB HJ:=tG.trans ((TLe.of sI).trans tJ)
    obtain ⟨ps,r,wd,rfl,hps⟩:=Stp.inv (hrst.le tK)
    k_go
    refine cH hps il ?_
    k_go
    refine az fun q8 H8 s8 n8 h8=>?_
    refine ci (s8 _ _ (tK _ _ hpt)) h8 (lineMe (by rw [xAa];simp only [xAt];lia)) fun p9 H9 s9 h9=>?_
    k_go
    have u9:=s8.trans s9
    refine ⟨_,_,_,_,_,_,_,_,p9,rfl,kG.trans ((Kept.of sI).trans (kJ.trans (.of u9))),tB.trans (tK.trans (.of u9)),?_,?_⟩
    ·rw [h9,jc hst,xAi]
     rfl
    ·rw [lcs,← List.length_zipIdx (l:=st.inn) (i:=0),xAu] at hlJ
     rw [aV (dS hst),← xAx]
     have:=hlJ.mono u9
     rw [xAx _ [_] _] at this
     exact this
  ·rintro σ HB ⟨v6,v7,v8,v9,v10,v11,v12,v13,pt,rfl,kB,tB,hpt,hl⟩
   k_go
   refine q HB kB ?_
   rw [lw,← List.length_zipIdx (l:=b.steps) (i:=0),xAu] at hl
   rw [aW]
   exact hl
end
section
variable {P:Program} {w:World} {K:xFr} {mg:Str→Option Value} {base:Heap}
def codD (pl:Int) (ps ks:List Int) (b:Bdy):D:=.tup [.int pl,intsD ps,intsD ks,b.d]
theorem mr {H:Hp} {pl:Int} {ps ks:List Int} {b:Bdy} {v:V} (h:Rp H (codD pl ps ks b) v):∃ pc q1 q2 vb,v = .ref pc∧H pc=some (.tup [.int pl,.ref q1,.ref q2,vb])∧H q1=some (.tup (ps.map V.int))∧H q2=some (.tup (ks.map V.int))∧Rp H b.d vb:=by
 obtain ⟨pc,_,rfl,hpc,_,_,rfl,rfl,w1,_,rfl,hw1,w2,_,rfl,hw2,vb,_,rfl,hvb,rfl⟩:=h
 obtain ⟨q1,rfl,hq1⟩:=aY hw1
 obtain ⟨q2,rfl,hq2⟩:=aY hw2
 exact ⟨pc,q1,q2,vb,rfl,hpc,hq1,hq2,hvb⟩
structure CodOk (ps ks:List Int) (b:Bdy):Prop where
 bb:BB b
 bt:∀ k∈ps++ks,0≤k∧k<211
 lt:(ps++ks).length≤100
 cn:b.cnt≤81
 nd:(ps++ks).Nodup
 gn:b.gl.Nodup
 dj:∀ k∈ps++ks,k ∉ b.gl
 sc:Scp (ps++ks) b
 nf:NF b
def rowsOf (ps ks:List Int) (b:Bdy):List Row:=stn 81 [] b (ps++ks) fun _=>False
def spStands:Sp:=fun vs H Q _=>∃ (v:V) (pl:Int) (ps ks:List Int) (b:Bdy),vs=[v]∧Rp H (codD pl ps ks b) v∧CodOk ps ks b∧∀ l H',Same H H'→H l=none→LD H' l ((rowsOf ps ks b).map Row.d)→Q (.ref l) H'
def spNeed:Sp:=fun vs H Q _=>∃ (v:V) (pl:Int) (ps ks:List Int) (b:Bdy),vs=[v]∧Rp H (codD pl ps ks b) v∧CodOk ps ks b∧∀ l H',Same H H'→H l=none→LD H' l ((rowsOf ps ks b).map Row.d3)→Q (.ref l) H'
theorem oA {ps ks:List Int} {b:Bdy} (h:CodOk ps ks b):(rowsOf ps ks b).length≤324:=by
 have:=ir 81 (path:=[]) (b:=b) (ts:=ps++ks) (bh:=fun _=>False) fun x hx=>(h.bb.len x hx).1
 have:=h.cn
 unfold rowsOf
 lia
def gstands:Scope:={ kind:=.function,names:=[("code",.local),("place",.local),("params",.local),("kept",.local),("body",.local),("found",.local),("add_stands",.globalImplicit)],isGenerator:=false,isCoroutine:=false,more:=[] }
theorem scstands:FnScope ["code","place","params","kept","body","found"] ["code"] gstands:=⟨rfl,rfl,rfl,by decide +kernel,rfl,by decide +kernel,by decide +kernel⟩
theorem nj (F:Dn K mg "stands" sStands ["code"]) (T:Txt K mg) (c_add_stands:Cal P w K mg base "add_stands" 86 ["found","path","body","there","behind"] (spAdd 81)):Cal P w K mg base "stands" 87 ["code"] spStands:=by
 refine F.ok scstands rfl (fun vs H Q E h=>?_) (fun f cdv A outer s H vs Q E hr h=>?_)
 ·obtain ⟨v,pl,ps,ks,b,rfl,_⟩:=h
  rfl
 ·obtain ⟨v,pl,ps,ks,b,rfl,hv,ok,q⟩:=h
  refine' ⟨?tt,QSs.h ?hh,?gg⟩
  case hh=>exact (ab (gh (qv 0) (a8 rfl (ay (am (i:=1) scstands.nd rfl (Or.inl rfl)) (ay (am (i:=2) scstands.nd rfl (Or.inl rfl)) (ay (am (i:=3) scstands.nd rfl (Or.inl rfl)) (ay (am (i:=4) scstands.nd rfl (Or.inl rfl)) a7))))))
   (ab (aD (i:=5) scstands.nd rfl (Or.inl rfl) (aH aa))
   (ab (ck (av c_add_stands hr rfl (ae (qv 5) (ae (aB aa) (ae (qv 4) (ae (aF bm (qv 2) (qv 3)) (ae (aB aa) aa)))))))
   (ag (ao (qv 5))))))
  obtain ⟨p,_,rfl,hp,_,_,rfl,rfl,v1,_,rfl,h1,v2,_,rfl,h2,vb,_,rfl,hb,rfl⟩:=hv
  obtain ⟨q1,rfl,hq1⟩:=aY h1
  obtain ⟨q2,rfl,hq2⟩:=aY h2
  k_go
  refine aq fun l H1 s1 n1 hl1=>?_
  k_go
  refine az fun p2 H2 s2 n2 hp2=>?_
  k_go
  have u2:=s1.trans s2
  have lt:=ok.lt
  rw [xAb] at lt
  refine ci (u2 _ _ hq1) (u2 _ _ hq2) (lineMe (by rw [xAa,xAa];lia)) fun p3 H3 s3 hp3=>?_
  have hp3':H3 p3=some (.tup ((ps++ks).map V.int)):=by rw [hp3,xAi]
  k_go
  refine az fun p4 H4 s4 n4 hp4=>?_
  have u4:=u2.trans (s3.trans s4)
  k_go
  refine ⟨l,p2,p3,p4,vb,b,ps++ks,[],[],[],fun _=>False,rfl,⟨_,(s2.trans (s3.trans s4)) _ _ hl1,rfl⟩,(s3.trans s4) _ _ hp2,hb.mono u4,s4 _ _ hp3',hp4,ok.cn,fun k=>⟨fun z=>(by cases z),False.elim⟩,⟨ok.bb,ok.bt,fun k hk=>(by cases hk),by have:=ok.cn;have:=ok.lt;lia,by have:=ok.cn;simp;lia,by have:=ok.cn;simp;lia,by have:=ok.cn;simp;lia⟩,fun H5 k5 h5=>?_⟩
  k_go
  refine q l H5 (fun c oc ec=>k5 _ _ (u4 _ _ ec) (by rw [xAm];exact ak ec n1)) n1 ?_
  rw [List.nil_append] at h5
  exact h5
def gneed:Scope:={ kind:=.function,names:=[("code",.local),("stands",.globalImplicit)],isGenerator:=false,isCoroutine:=false,more:=[("fast",.str "code"),("fast",.str "path"),("fast",.str "step"),("fast",.str "ahead"),("fast",.str "behind")] }
theorem scneed:FnScope ["code"] ["code"] gneed:=⟨rfl,rfl,rfl,by decide +kernel,rfl,by decide +kernel,by decide +kernel⟩
theorem sP (F:Dn K mg "needed" sNeed ["code"]) (T:Txt K mg) (c_stands:Cal P w K mg base "stands" 87 ["code"] spStands):Cal P w K mg base "needed" 88 ["code"] spNeed:=by
 refine F.ok scneed rfl (fun vs H Q E h=>?_) (fun f cdv A outer s H vs Q E hr h=>?_)
 ·obtain ⟨v,pl,ps,ks,b,rfl,_⟩:=h
  rfl
 ·obtain ⟨v,pl,ps,ks,b,rfl,hv,ok,q⟩:=h
  refine' ⟨?tt,QSs.h ?hh,?gg⟩
  case hh=>exact (ag (ao (bM (ls:=["path","step","ahead","behind"]) (N:=[]) (fr:=[]) rfl (CapsG.mk' rfl (by decide +kernel) rfl (by decide +kernel) .nil (by decide +kernel) rfl) (aP (av c_stands hr rfl (ae (qv 0) aa))) (fun C s H fp=>(a8 rfl (ay (am (i:=0) (show (["path","step","ahead","behind"]:List Str).Nodup by decide +kernel) rfl (Or.inl rfl)) (ay (am (i:=1) (show (["path","step","ahead","behind"]:List Str).Nodup by decide +kernel) rfl (Or.inl rfl)) (ay (am (i:=2) (show (["path","step","ahead","behind"]:List Str).Nodup by decide +kernel) rfl (Or.inl rfl)) (ay (am (i:=3) (show (["path","step","ahead","behind"]:List Str).Nodup by decide +kernel) rfl (Or.inl rfl)) a7)))))) (fun C s H fp=>bN) (fun C s H fp=>(aB (ae (qv 0) (ae (qv 2) (ae (qv 3) aa))))))))
  k_go
  refine ⟨v,pl,ps,ks,b,rfl,hv,ok,fun l H1 s1 n1 zz0=>?_⟩
  obtain ⟨ws,hl,hw⟩:=zz0
  have lw:=hw.mapLen
  have fw:=oA ok
  k_go
  refine bS (aS (xs:=ws)) (fun B i ys H2=>H2 B=some (.lst ys)∧Same H1 H2∧H1 B=none∧Rps H2 (((rowsOf ps ks b).take i).map Row.d3) ys) (fun B hB=>⟨ah,aw hB _,hB,rfl⟩) ?_ ?_ ?_
  ·rintro B i ys H2 hi ⟨h1,h2,h3,h4⟩
   have l4:=h4.mapLen
   rw [xAn] at l4
   exact ⟨h1,lineM (by lia),.of (h2 _ _ hl)⟩
  ·rintro B i ys _ x H2 hi ⟨h1,h2,h3,h4⟩ ⟨rfl,hx⟩
   obtain ⟨r,hr,hd⟩:=(hw.mono h2).mapGet' hx
   obtain ⟨p,_,rfl,hp,va,_,rfl,ha,vb,_,rfl,hb,vc,_,rfl,hc,vd,_,rfl,hd,rfl⟩:=hd
   k_go
   refine ⟨rfl,rfl,?_⟩
   k_go
   refine ⟨h1,?_⟩
   k_go
   refine az fun p3 H3 s3 n3 hp3=>?_
   have h13:=s3 _ _ h1
   have tl:TLe H3 (upd H3 B (.lst (ys++[.ref p3]))):=.upd fun xs z=>by rw [h13] at z;cases z
   refine ⟨h13,ah,(h2.trans s3).upd_new h3,h3,?_⟩
   rw [aK hr,xAi]
   exact ((h4.mono s3).app (.one (show Rp H3 (Row.d3 r) (.ref p3) from ⟨p3,_,rfl,hp3,_,_,rfl,ha.mono s3,_,_,rfl,hc.mono s3,.one (hd.mono s3)⟩))).le tl
  ·rintro B ys H2 ⟨h1,h2,h3,h4⟩
   rw [lw,xAu] at h4
   exact q B H2 (s1.trans h2) (s1.free h3) ⟨_,h1,h4⟩
end
section
variable {P:Program} {w:World} {K:xFr} {mg:Str→Option Value} {base:Heap}
theorem bT {k:Int} {us:List Int}:inV (.int k) (us.map V.int)=true↔k∈us:=by
 unfold inV
 rw [List.any_map,List.any_eq_true]
 constructor
 ·rintro ⟨x,hx,e⟩
  have:x=k:=eq_of_beq e
  rw [← this];exact hx
 ·intro h
  exact ⟨k,h,beq_self_eq_true k⟩
theorem dL {us:List Int}:(us.map V.int).all flatV=true:=by
 rw [List.all_map,List.all_eq_true]
 exact fun _ _=>rfl
theorem dc {H H':Hp} {a:Addr} {xs:List V} (h:SqL K H a xs) (s:Same H H'):SqL K H' a xs:=by
 rcases h with (h | ⟨o,h⟩) | h
 ·exact .inl (.inl (s _ _ h))
 ·exact .inl (.inr ⟨o,s _ _ h⟩)
 ·exact .inr h
theorem fJ {H H':Hp} {A:SA} {S:S41} {a:Addr} {xs:List V} (st:ST H A S) (k:Kept A.fp H H') (h:SqL K H a xs):SqL K H' a xs:=by
 rcases h with (h | ⟨o,h⟩) | h
 ·exact .inl (.inl (k _ _ h (st.lst h)))
 ·refine .inl (.inr ⟨o,k _ _ h fun z=>?_⟩)
  simp only [SA.fp,xAv,xBv,or_false] at z
  obtain ⟨kvs,e⟩:=st.db.at
  rcases z with rfl | rfl
  ·rw [st.da] at h;cases h
  ·rw [e] at h;cases h
 ·exact .inr h
theorem uf {H:Hp} {a B:Addr} {xs ys:List V} {o:HO} (h:SqL K H a xs) (ne:H a=none∨a≠B):SqL K (upd H B o) a xs:=by
 rcases ne with ne | ne
 ·rcases h with (h | ⟨o,h⟩) | h
  ·rw [ne] at h;cases h
  ·rw [ne] at h;cases h
  ·exact .inr h
 ·rcases h with (h | ⟨o,h⟩) | h
  ·exact .inl (.inl (by rw [aA ne];exact h))
  ·exact .inl (.inr ⟨o,by rw [aA ne];exact h⟩)
  ·exact .inr h
theorem ox {H1 H3:Hp} {a B:Addr} {xs:List V} {o:HO} (h1:SqL K H1 a xs) (hf:H1 B=none) (h3:SqL K H3 a xs):SqL K (upd H3 B o) a xs:=by
 rcases h1 with (h | ⟨o',h⟩) | h
 ·exact uf (ys:=[]) h3 (.inr (ak h hf))
 ·exact uf (ys:=[]) h3 (.inr (ak h hf))
 ·exact .inr h
def spCode (K:xFr):Sp:=fun vs H Q _=>∃ (a:Addr) (ns:List Int),vs=[.ref a]∧SqL K H a (ns.map V.int)∧∀ H' v pl ps ks b,Same H H'→Rp H' (codD pl ps ks b) v→CodOk ps ks b→Q v H'
def gcode:Scope:={ kind:=.function,names:=[("_law_script",.local),("_law_state_here",.cell),("_law_k",.local),("_law_params",.local),("_law_pool",.local),("_law_name",.local),("_law_body_here",.local),("_law_used_here",.cell),("_law_kept",.local),("_law_state",.globalImplicit),("_law_cell_at",.globalImplicit),("tuple",.globalImplicit),("range",.globalImplicit),("enumerate",.globalImplicit),("_law_body",.globalImplicit),("list",.globalImplicit),("_law_used",.globalImplicit),("sorted",.globalImplicit)],isGenerator:=false,isCoroutine:=false,more:=[("fast",.str "_law_script"),("fast",.str "_law_state_here"),("fast",.str "_law_k"),("fast",.str "_law_params"),("fast",.str "_law_pool"),("fast",.str "_law_name"),("fast",.str "_law_body_here"),("fast",.str "_law_used_here"),("fast",.str "_law_kept")] }
theorem sccode:FnScope ["_law_script","_law_state_here","_law_params","_law_pool","_law_k","_law_name","_law_body_here","_law_used_here","_law_kept"] ["_law_script"] gcode:=⟨rfl,rfl,rfl,by decide +kernel,rfl,by decide +kernel,by decide +kernel⟩
theorem sS (F:Dn K mg "_law_code" sCode ["_law_script"]) (T:Txt K mg) (c__law_cell_at:Cal P w K mg base "_law_cell_at" 1 ["_law_script","_law_k"] (spCell K)) (c__law_state:Cal P w K mg base "_law_state" 1 ["_law_cell","_law_seed","_law_left"] spState) (c__law_new:Cal P w K mg base "_law_new" 1 ["_law_state_here"] spNew) (c__law_body:Cal P w K mg base "_law_body" 164 ["_law_state_here","_law_there","_law_deep"] (spBody 40)) (c__law_used:Cal P w K mg base "_law_used" 82 ["_law_body_here"] (spUsed 81)):Cal P w K mg base "_law_code" 165 ["_law_script"] (spCode K):=by
 refine F.ok sccode rfl (fun vs H Q E h=>?_) (fun f cdv A outer s H vs Q E hr h=>?_)
 ·obtain ⟨a,ns,rfl,_⟩:=h
  rfl
 ·obtain ⟨a,ns,rfl,hS,q⟩:=h
  have hu:=bJ hr
  refine' ⟨?tt,QSs.h ?hh,?gg⟩
  case hh=>exact (ab (aD (i:=1) sccode.nd rfl (Or.inr rfl) (av c__law_state hr rfl (ae (av c__law_cell_at hr rfl (ae (qv 0) (ae af aa))) (ae (av c__law_cell_at hr rfl (ae (qv 0) (ae af aa))) (ae af aa)))))
   (ab (aD (i:=2) sccode.nd rfl (Or.inl rfl) (aU a9 rfl T.ztuple bI (ae (bM (ls:=["_law_k"]) (N:=["_law_state_here"]) (fr:=[1]) rfl (CapsG.mk' rfl (by decide +kernel) rfl (by decide +kernel) (.cons ⟨⟨_,rfl,rfl⟩,rfl,rfl,rfl⟩ .nil) (by decide +kernel) rfl) (ji rfl T.zrange (ae (aF cq (av c__law_cell_at hr rfl (ae (qv 0) (ae af aa))) af) aa)) (fun C s H fp=>(am (i:=0) (show (["_law_k","_law_state_here"]:List Str).Nodup by decide +kernel) rfl (Or.inl rfl))) (fun C s H fp=>bN) (fun C s H fp=>(av c__law_new hr rfl (ae (qv 1) aa)))) aa)))
   (ab (dv (i:=3) sccode.nd rfl rfl (ls:=["_law_k"]) (N:=["_law_state_here"]) (fr:=[1]) rfl (CapsG.mk' rfl (by decide +kernel) rfl (by decide +kernel) (.cons ⟨⟨_,rfl,rfl⟩,rfl,rfl,rfl⟩ .nil) (by decide +kernel) rfl) (ji rfl T.zrange (ae (aF cq (aF gk (av c__law_cell_at hr rfl (ae (qv 0) (ae af aa))) af) af) aa)) (fun C s H fp=>(am (i:=0) (show (["_law_k","_law_state_here"]:List Str).Nodup by decide +kernel) rfl (Or.inl rfl))) (fun C s H fp=>bN) (fun C s H fp=>(av c__law_new hr rfl (ae (qv 1) aa))))
   (ab (aR PassesOwn.never rfl (gX rfl T.zenumerate (ae (qv 3) aa)) (a8 rfl (ay (am (i:=4) sccode.nd rfl (Or.inl rfl)) (ay (am (i:=5) sccode.nd rfl (Or.inl rfl)) a7)))
    (ag (aE (ap aM (aF wm (aF wg (aF gk (av c__law_cell_at hr rfl (ae (qv 0) (ae af aa))) af) (qv 4)) af) af (nomark _)) (ag (bc hu (aG hu (qv 1) aj) (qv 5) fA)) ar)))
   (ab (aD (i:=6) sccode.nd rfl (Or.inl rfl) (av c__law_body hr rfl (ae (qv 1) (ae (aF bU (aU bz rfl T.zlist cF (ae (qv 2) aa)) (qv 3)) (ae af aa)))))
   (ab (aD (i:=7) sccode.nd rfl (Or.inr rfl) (av c__law_used hr rfl (ae (qv 6) aa)))
   (ab (aD (i:=8) sccode.nd rfl (Or.inl rfl) (aU a9 rfl T.ztuple bI (ae (bM (ls:=["_law_name"]) (N:=["_law_used_here"]) (fr:=[7]) rfl (CapsG.mk' rfl (by decide +kernel) rfl (by decide +kernel) (.cons ⟨⟨_,rfl,rfl⟩,rfl,rfl,rfl⟩ .nil) (by decide +kernel) rfl) (aP (bV (eh) rfl T.zsorted cE (ae (qv 3) aa))) (fun C s H fp=>(am (i:=0) (show (["_law_name","_law_used_here"]:List Str).Nodup by decide +kernel) rfl (Or.inl rfl))) (fun C s H fp=>(cK (ap (r:=rIn K0 false) dW (qv 0) (qv 1) rfl))) (fun C s H fp=>(qv 0))) aa)))
   (ag (ao (aB (ae (aF cq (av c__law_cell_at hr rfl (ae (qv 0) (ae af aa))) af) (ae (qv 2) (ae (qv 8) (ae (qv 6) aa))))))))))))))
  k_go
  refine ⟨a,ns,0,rfl,by decide,hS,?_⟩
  k_go
  refine ⟨a,ns,1,rfl,by decide,hS,?_⟩
  k_go
  refine ⟨_,_,rfl,fun H1 A1 n1 s1 b1 t1 st1 fr1=>?_⟩
  have y0:0<b1:=st1.b0
  have y1:b1<211:=st1.b1
  have hS1:=dc hS t1
  k_go
  refine ⟨a,ns,2,rfl,by decide,hS1,?_⟩
  k_go
  refine r_I (by decide) ?_
  k_go
  obtain ⟨c2,hc2⟩:∃ c,ns.getD (Int.toNat 2) 0=c:=⟨_,rfl⟩
  rw [hc2]
  have m0:=xBa c2 (show (5:Int)≠0 by decide)
  have m5:=xBb c2 (show (0:Int)<5 by decide)
  have w0:=xBa (c2 / 5) (show (5:Int)≠0 by decide)
  have w5:=xBb (c2 / 5) (show (0:Int)<5 by decide)
  generalize c2 % 5=m at m0 m5
  refine eF (by lia) (by lia) ?_
  refine bS dk (fun B i ys H2=>H2 B=some (.lst ys)∧(B ∉ A1.fp∧H1 B=none)∧Kept A1.fp H1 H2∧SqL K H2 a (ns.map V.int)∧∃ (ps:List Int),ST H2 A1 { S0 n1 s1 b1 with n:=0+i }∧ys=ps.map V.int∧ps.length=i∧RL b1 (0) (0+i) ps) ?_ ?_ ?_ ?_
  ·intro B hB
   exact ⟨ah,⟨st1.out hB,hB⟩,.of (aw hB _),dc hS1 (aw hB _),[],st1.same (aw hB _),rfl,rfl,.nil⟩
  ·rintro B i ys H2 hi ⟨h2,h3,h4,hs2,ps,h5,rfl,h6,h7⟩
   exact ⟨h2,by rw [xAa];exact lineM (by lia),True.intro⟩
  ·rintro B i ys _ x H2 hi ⟨h2,⟨h3,hf⟩,h4,hs2,ps,h5,rfl,h6,h7⟩ ⟨rfl,rfl⟩
   k_go
   refine ⟨rfl,rfl,?_⟩
   k_go
   refine ⟨h2,?_⟩
   k_go
   refine ⟨A1,_,rfl,h5,fun H3 v3 k3 st3 v0=>?_⟩
   have hB:=k3 _ _ h2 h3
   have hs3:=fJ h5 k3 hs2
   refine ⟨hB,ah,⟨h3,hf⟩,fun b ob eb nb=>?_,ox hS1 hf hs3,ps++[v3],st3.side h3,by simp,by rw [xAb,h6];rfl,h7.app (.one v0) y0 y1 (xAg _) (Nat.le_succ _) (by lia)⟩
   rw [aA (ak eb hf)];exact k3 _ _ (h4 b ob eb nb) nb
  rintro B ys HX ⟨h2,⟨h3,hf⟩,h4,hs2,ps,h5,rfl,h6,h7⟩
  have kX:=h4
  rw [Nat.zero_add] at h5 h7
  have hM:m.toNat≤4:=by lia
  generalize m.toNat=M at h5 h6 h7 hM
  k_go
  refine cg h2 fun pp H3 s3 n3 h8=>?_
  have st3:=h5.same s3
  have hS3:=dc hs2 s3
  have K3:=kX.trans (.of s3)
  have rp:=h7
  have lp:=h6
  clear h2 h3 hf h4 h5 h6 h7
  k_go
  refine ⟨a,ns,2,rfl,by decide,hS3,?_⟩
  k_go
  refine r_I ⟨by decide,by decide⟩ ?_
  k_go
  refine r_I (by decide) ?_
  k_go
  rw [hc2]
  generalize c2 / 5 % 5=m2 at w0 w5
  refine eF (by lia) (by lia) ?_
  refine bS dk (fun B i ys H2=>H2 B=some (.lst ys)∧(B ∉ A1.fp∧H3 B=none)∧Kept A1.fp H3 H2∧SqL K H2 a (ns.map V.int)∧∃ (ps:List Int),ST H2 A1 { S0 n1 s1 b1 with n:=M+i }∧ys=ps.map V.int∧ps.length=i∧RL b1 (M) (M+i) ps) ?_ ?_ ?_ ?_
  ·intro B hB
   exact ⟨ah,⟨st3.out hB,hB⟩,.of (aw hB _),dc hS3 (aw hB _),[],st3.same (aw hB _),rfl,rfl,.nil⟩
  ·rintro B i ys H2 hi ⟨h2,h3,h4,hs2,ps,h5,rfl,h6,h7⟩
   exact ⟨h2,by rw [xAa];exact lineM (by lia),True.intro⟩
  ·rintro B i ys _ x H2 hi ⟨h2,⟨h3,hf⟩,h4,hs2,ps,h5,rfl,h6,h7⟩ ⟨rfl,rfl⟩
   k_go
   refine ⟨rfl,rfl,?_⟩
   k_go
   refine ⟨h2,?_⟩
   k_go
   refine ⟨A1,_,rfl,h5,fun H3 v3 k3 st3 v0=>?_⟩
   have hB:=k3 _ _ h2 h3
   have hs3:=fJ h5 k3 hs2
   refine ⟨hB,ah,⟨h3,hf⟩,fun b ob eb nb=>?_,ox hS3 hf hs3,ps++[v3],st3.side h3,by simp,by rw [xAb,h6];rfl,h7.app (.one v0) y0 y1 (xAg _) (Nat.le_succ _) (by lia)⟩
   rw [aA (ak eb hf)];exact k3 _ _ (h4 b ob eb nb) nb
  rintro B2 ys HX ⟨h2,⟨h3,hf⟩,h4,hs2,qs,h5,rfl,h6,h7⟩
  have hM2:m2.toNat≤4:=by lia
  have h8X:=st3.tle h4 _ _ h8
  generalize m2.toNat=M2 at h5 h6 h7 hM2
  have bq:∀ k∈qs,0≤k∧k<211:=fun k hk=>(h7.fr k hk).bd
  k_go
  refine aL (kL (xs:=qs.map V.int)) (fun i σ HB=>∃ (v3 v4:Option V) (bx:Int→Prop),σ=[some (.ref a),some (.ref A1.a),some (.ref pp),some (.ref B2),v3,v4,none,none,none]∧Kept A1.fp HX HB∧ST HB A1 { S0 n1 s1 b1 with n:=M+M2,bx:=bx }∧SqL K HB a (ns.map V.int)∧HB B2=some (.lst (qs.map V.int))) ?_ (by rintro _ _ _ _ ⟨_,_,_,_,_,_,_,z⟩;exact .of z) ?_ ?_
  ·exact ⟨_,_,_,rfl,fun _ _ e _=>e,h5,hs2,h2⟩
  ·rintro _ i _ σ HB x _ hi ⟨v3,v4,bx,rfl,kB,stB,hsB,hBB⟩ ⟨p,v,rfl,hp,rfl,hx⟩
   obtain ⟨k,hk,rfl⟩:=xA2.mp (xAc hx)
   have hpt:upd HB p (.tup [.int i,.int k]) p=some (.tup [.int i,.int k]):=ah
   have sC:Same HB (upd HB p (.tup [.int i,.int k])):=aw hp _
   generalize upd HB p (.tup [.int i,.int k])=HC at hpt sC
   have stC:=stB.same sC
   have hsC:=dc hsB sC
   k_go
   refine ⟨a,ns,2,rfl,by decide,hsC,?_⟩
   k_go
   refine r_I ⟨by decide,by decide⟩ ?_
   k_go
   refine r_I (by lia) ?_
   k_go
   refine ba (fun z=>?_) (fun z=>?_)
   ·k_go
    refine bv stC.da c9 ?_
    k_go
    refine eE stC.db (fun j hj=>by have:=stC.bb j hj;lia) fun HD kD tlD neD ksD=>?_
    have kD':Kept A1.fp HC HD:=kD.mono (by simp [SA.fp])
    have stD:ST HD A1 { S0 n1 s1 b1 with n:=M+M2,bx:=fun j=>bx j∨j=k }:=⟨by rw [neD _ (Ne.symm stC.ne)];exact stC.da,ksD,stC.ne,fun j hj=>by
     rcases hj with hj | hj
     ·exact stC.bb j hj
     ·rw [hj];exact bq k hk,stC.b0,stC.b1,stC.dg⟩
    k_go
    exact ⟨_,_,_,rfl,kB.trans ((Kept.of sC).trans kD'),stD,fJ stC kD' hsC,kD' _ _ (sC _ _ hBB) h3⟩
   ·k_go
    exact ⟨_,_,_,rfl,kB.trans (.of sC),stC,hsC,sC _ _ hBB⟩
  rintro σ HB ⟨v3,v4,bx,rfl,kB,stB,hsB,hBB⟩
  have h8B:=h5.tle kB _ _ h8X
  have bp:∀ k∈ps,0≤k∧k<211:=fun k hk=>(rp.fr k hk).bd
  k_go
  refine b8 h8B fun l5 H5 s5 n5 h9=>?_
  k_go
  refine di h9 (s5 _ _ hBB) (lineMe (by rw [xAa,xAa];lia)) fun l6 H6 s6 n6 h10=>?_
  have u6:=s5.trans s6
  have th6:Th H6 l6 (ps++qs):=⟨by rw [h10,xAi],fun k hk=>(xAj.mp hk).elim (bp k) (bq k),by rw [xAb];lia⟩
  have st6:=stB.same u6
  have rpq:RL b1 0 (M+M2) (ps++qs):=rp.app h7 y0 y1 (xAg _) (by lia) (by lia)
  k_go
  refine ⟨A1,_,l6,ps++qs,3,rfl,⟨by decide,by decide⟩,st6,th6,by change ((ps++qs).length:Int)+10 * 40≤900;rw [xAb];lia,by change ((M+M2:Nat):Int)+5 * 40≤208;lia,by change (0:Int)≤40;decide,by change (40:Int)≤40;decide,fun H7 S7 b vb k7 st7 rb okb=>?_⟩
  have c4:(b.cnt:Int)+2 * S7.left≤2 * 40+1:=okb.cn
  have c0:=okb.l0
  have p7:(S7.n:Int)+5 * S7.left≤((M+M2:Nat):Int)+5 * 40:=okb.pot
  have n7:M+M2≤S7.n:=okb.nn
  have gl7:RL b1 (M+M2) S7.n b.gl:=okb.gl
  have h87:=st6.tle k7 _ _ (u6 _ _ h8B)
  have hB7:=k7 _ _ (u6 _ _ hBB) h3
  have hs7:=fJ st6 k7 (dc hsB u6)
  have K7:Kept A1.fp H H7:=(Kept.of t1).trans (K3.trans (h4.trans (kB.trans ((Kept.of u6).trans k7))))
  have sm7:Same H H7:=fun c oc ec=>K7 c oc ec fun z=>by have:=fr1 c z;rw [ec] at this;cases this
  have giv7:∀ k,Giv b k→0≤k∧k<211:=fun k hk=>(gl7.fr k (dY.mpr hk)).bd
  have men7:∀ k,Men b k→0≤k∧k<211:=fun k hk=>(okb.sc.men hk).elim (fun z=>th6.bd k z) (giv7 k)
  k_go
  refine ⟨vb,b,rfl,rb,by lia,by decide,okb.len,fun lu H8 uu s8 n8 h8' m8 e8=>?_⟩
  k_go
  refine gf (s8 _ _ hB7) fun ls nsS H9 s9 n9 hS9 pm pw=>?_
  have lq:=pm.length_eq
  k_go
  refine bS (aS (xs:=nsS.map V.int)) (fun D i ys HC=>HC D=some (.lst ys)∧Same H9 HC∧H9 D=none∧ys=((nsS.take i).filter fun k=>decide (k∈uu)).map V.int) (fun D hD=>⟨ah,aw hD _,hD,rfl⟩) ?_ ?_ ?_
  ·rintro D i ys HC hi ⟨z1,z2,z3,rfl⟩
   refine ⟨z1,?_,.of (z2 _ _ hS9)⟩
   rw [xAa]
   exact lineM (Nat.le_trans (List.length_filter_le _ _) (by rw [xAn];lia))
  ·rintro D i ys _ x HC hi ⟨z1,z2,z3,rfl⟩ ⟨rfl,hx⟩
   rw [xAw] at hx
   obtain ⟨k,hk,rfl⟩:=xA3.mp hx
   k_go
   refine ⟨rfl,rfl,?_⟩
   k_go
   refine oO (z2 _ _ (s9 _ _ h8')) rfl dL ?_
   k_go
   refine ⟨z1,ba (fun z=>?_) (fun z=>?_)⟩
   ·have hn:k∈uu:=bT.mp z
    k_go
    refine ⟨z1,?_⟩
    rw [aK hk,List.filter_append,xAi,List.filter_cons_of_pos (by simpa using hn)]
    exact ⟨ah,z2.upd_new z3,z3,rfl⟩
   ·have hn:k ∉ uu:=fun w=>by rw [bT.mpr w] at z;cases z
    rw [aK hk,List.filter_append,List.filter_cons_of_neg (by simpa using hn),List.filter_nil,xB0]
    exact ⟨z1,z2,z3,rfl⟩
  rintro D ys HC ⟨z1,z2,z3,rfl⟩
  rw [xAa,xAu] at z1
  have fm:∀ k,k∈(nsS.filter fun k=>decide (k∈uu))↔k∈qs∧Men b k:=fun k=>by
   rw [xBr,pm.mem_iff,decide_eq_true_eq,m8]
  have fn:(nsS.filter fun k=>decide (k∈uu)).Nodup:=(pm.nodup_iff.mpr h7.nd).filter _
  have fl:(nsS.filter fun k=>decide (k∈uu)).length≤nsS.length:=List.length_filter_le _ _
  generalize (nsS.filter fun k=>decide (k∈uu))=ks at z1 fm fn fl
  k_go
  refine cg z1 fun pd HD sD nD hD=>?_
  have uD:=s8.trans (s9.trans (z2.trans sD))
  have hsD:=dc hs7 uD
  k_go
  refine ⟨a,ns,3,rfl,by decide,hsD,?_⟩
  k_go
  refine r_I (by decide) ?_
  k_go
  refine az fun pR HR sR nR hR=>?_
  have uR:=uD.trans sR
  have sub:∀ k∈ps++ks,k∈ps++qs:=fun k hk=>(xAj.mp hk).elim (xBw _) fun z=>xBt _ ((fm k).mp z).1
  refine q HR (.ref pR) _ ps ks b (sm7.trans uR) ⟨pR,_,rfl,hR,_,_,rfl,rfl,_,_,rfl,cz (uR _ _ h87),_,_,rfl,cz (sR _ _ hD),.one (rb.mono uR)⟩ ⟨⟨okb.len,by lia,men7,giv7⟩,fun k hk=>th6.bd k (sub k hk),?_,by lia,?_,gl7.nd,fun k hk hg=>?_,?_,okb.nf⟩
  ·rw [xAb]
   lia
  ·refine xBq.mpr ⟨rp.nd,fn,fun x hx z hz e=>?_⟩
   exact (rp.fr x hx).apart y0 y1 (by rw [e];exact h7.fr z ((fm z).mp hz).1) (xAg _) (by lia)
  ·exact (rpq.fr k (sub k hk)).apart y0 y1 (gl7.fr k hg) (xAg _) (by lia)
  ·refine okb.sc.less _ fun k hm hk=>?_
   rcases xAj.mp hk with hk | hk
   ·exact xBw _ hk
   ·exact xBt _ ((fm k).mpr ⟨hk,hm⟩)
end
section
variable {P:Program} {w:World} {K:xFr} {mg:Str→Option Value} {base:Heap}
inductive Atx:Bdy→List Int→Stp→List Int→(Int→Prop)→Prop where
 | one {b:Bdy} {i:Nat} {s:Stp}:b.steps[i]?=some s→Atx b [(i:Int)] s ((b.steps.take i).map Stp.to) (Men (Drp b (i+1)))
 | deep {b:Bdy} {i j:Nat} {s t:Stp} {x:List Int×Bdy} {p th:List Int} {la:Int→Prop}:b.steps[i]?=some s→s.inn[j]?=some x→Atx x.2 p t th la→Atx b ((i:Int)::(j:Int)::p) t ((b.steps.take i).map Stp.to++x.1++th) (fun k=>Men (Drp b (i+1)) k∨la k∨Cgt s j k)
theorem iw:∀ (N:Nat) {path:List Int} {b:Bdy} {ts:List Int} {bh:Int→Prop} {r:Row},r∈stn N path b ts bh→∃ p th la,r.path=path++p∧Atx b p r.step th la∧r.there=ts++th∧∀ k,r.later k↔la k∨bh k
 | 0,_,_,_,_,r,h=>by simp [stn] at h
 | N+1,path,b,ts,bh,r,h=>by
  rw [aW,xA4] at h
  obtain ⟨z,hz,h⟩:=h
  have e:=bL hz
  rcases xAv.mp h with rfl | h
  ·exact ⟨[(z.2:Int)],_,_,rfl,.one e,rfl,fun k=>Iff.rfl⟩
  ·obtain ⟨y,hy,h⟩:=xA4.mp h
   obtain ⟨p,th,la,h1,h2,h3,h4⟩:=iw N h
   refine ⟨(z.2:Int)::(y.2:Int)::p,_,_,by rw [h1];simp,.deep e (bL hy) h2,by rw [h3,thr];simp,fun k=>?_⟩
   rw [h4]
   simp only [ltr]
   constructor
   ·rintro (z | (z | z) | z)
    ·exact .inl (.inr (.inl z))
    ·exact .inl (.inl z)
    ·exact .inr z
    ·exact .inl (.inr (.inr z))
   ·rintro ((z | z | z) | z)
    ·exact .inr (.inl (.inl z))
    ·exact .inl z
    ·exact .inr (.inr z)
    ·exact .inr (.inl (.inr z))
theorem Atx.bd {b:Bdy} {p th:List Int} {s:Stp} {la:Int→Prop} (h:Atx b p s th la):BB b→(∀ k∈th,0≤k∧k<211)∧(∀ k,la k→0≤k∧k<211)∧th.length≤8 * b.cnt∧BB (.mk [s] (.num 0)):=by
 induction h with
 | @one b i s hi =>
  intro bb
  have hm:=xAc hi
  refine ⟨fun k hk=>?_,fun k hk=>bb.men k (bQ hk),?_,?_⟩
  ·obtain ⟨t,ht,rfl⟩:=xA2.mp hk
   exact bb.giv _ (Giv.iff.mpr ⟨t,xBj ht,.inl rfl⟩)
  ·rw [xAa,xAn]
   have:b.steps.length≤4:=bb.len.len
   have:=b.cnt_pos
   lia
  ·refine ⟨fun x hx=>?_,by rw [mw];have:=jP hm;have:=bb.cnt;lia,fun k hk=>?_,fun k hk=>?_⟩
   ·rcases hx with rfl | hx
    ·exact ⟨by simp [Bdy.steps],fun t ht=>by rw [xAm.mp ht];exact (bb.len ([],b) (.inl rfl)).2 s hm⟩
    ·cases hx with
     | here h1 h2=>rw [xAm.mp h1] at h2;exact bb.len x (.inr (.here hm h2))
     | deep h1 h2 h3=>rw [xAm.mp h1] at h2;exact bb.len x (.inr (.deep hm h2 h3))
   ·rcases lI.mp hk with z | z
    ·cases z
    ·exact bb.menS hm z
   ·obtain ⟨t,ht,z⟩:=Giv.iff.mp hk
    rw [xAm.mp ht] at z
    exact bb.giv k (Giv.iff.mpr ⟨s,hm,z⟩)
 | @deep b i j s t x p th la hi hx _ ih =>
  intro bb
  have hm:=xAc hi
  have hxm:=xAc hx
  obtain ⟨i1,i2,i3,i4⟩:=ih (bb.inn hm hxm)
  have c:=cX hm hxm
  refine ⟨fun k hk=>?_,fun k hk=>?_,?_,i4⟩
  ·rcases xAj.mp hk with hk | hk
   ·rcases xAj.mp hk with hk | hk
    ·obtain ⟨t,ht,rfl⟩:=xA2.mp hk
     exact bb.giv _ (Giv.iff.mpr ⟨t,xBj ht,.inl rfl⟩)
    ·exact bb.giv k (Giv.iff.mpr ⟨s,hm,.inr ⟨x,hxm,.inl hk⟩⟩)
   ·exact i1 k hk
  ·rcases hk with z | z | z
   ·exact bb.men k (bQ z)
   ·exact i2 k z
   ·cases s with
    | tri to one w x' other pl=>exact bb.men k (Men.iff.mpr (.inr ⟨_,hm,.inr ⟨([x'],other),by simp [Stp.inn],z.2⟩⟩))
    | _=>exact z.elim
  ·rw [xAb,xAb,xAa,xAn]
   have:b.steps.length≤4:=bb.len.len
   have:x.1.length≤4:=((bb.len ([],b) (.inl rfl)).2 s hm).2 x hxm
   lia
theorem yd {s:Stp} (h:Stp.word s="match"):∃ to a tag xs y n pl,s = .mtch to a tag xs y n pl:=by
 cases s <;> first | exact ⟨_,_,_,_,_,_,_,rfl⟩ | exact absurd h (by simp only [Stp.word];decide +kernel)
end
section
variable {P:Program} {w:World} {K:xFr} {mg:Str→Option Value} {base:Heap}
theorem ko {m:List (Int×Int)} (nd:(ky m).Nodup) (bd:∀ k∈ky m,0≤k∧k<211):m.length≤211:=by
 have:=cr 211 nd fun k hk=>bd k hk
 unfold ky at this
 rw [xAa] at this
 exact this
theorem tH {m:List (Int×Int)} (nd:(ky m).Nodup) (bd:∀ k∈ky m,0≤k∧k<211):(kvI m).length<sizeLine:=by
 have:=ko nd bd
 rw [eL]
 exact lineM (by lia)
def spLw:Sp:=fun vs H Q _=>∃ (l:Addr) (T:List Int),vs=[.ref l]∧H l=some (.lst (T.map V.int))∧Q (.int (mex T)) H
def glw:Scope:={ kind:=.function,names:=[("numbers",.local),("least",.local)],isGenerator:=false,isCoroutine:=false,more:=[] }
theorem sclw:FnScope ["numbers","least"] ["numbers"] glw:=⟨rfl,rfl,rfl,by decide +kernel,rfl,by decide +kernel,by decide +kernel⟩
theorem xW (F:Dn K mg "least_without" sLw ["numbers"]) (T:Txt K mg):Cal P w K mg base "least_without" 1 ["numbers"] spLw:=by
 refine F.ok sclw rfl (fun vs H Q E h=>?_) (fun f cdv A outer s H vs Q E hr h=>?_)
 ·obtain ⟨l,T,rfl,_⟩:=h
  rfl
 ·obtain ⟨l,T,rfl,hl,q⟩:=h
  refine' ⟨?tt,QSs.h ?hh,?gg⟩
  case hh=>exact (ab (aD (i:=1) sclw.nd rfl (Or.inl rfl) af)
   (ab (jh PassesOwn.never (ap dW (qv 1) (qv 0) rfl) (ag (aD (i:=1) sclw.nd rfl (Or.inl rfl) (aF eX (qv 1) af))))
   (ag (ao (qv 1)))))
  k_go
  refine kS (fun m σ H3=>∃ n:Nat,σ=[some (.ref l),some (.int n)]∧H3=H∧(∀ j:Nat,j<n→(j:Int)∈T)∧m=T.length - n) _ ⟨0,rfl,rfl,fun j hj=>by lia,rfl⟩ ?_
  rintro m σ H3 ⟨n,rfl,e3,hn,rfl⟩
  subst e3
  k_go
  refine oO hl rfl dL ?_
  k_go
  refine uh (fun e=>?_) (fun e=>?_)
  ·have hin:=bT.mp e
   have hn':∀ j:Nat,j<n+1→(j:Int)∈T:=fun j hj=>by
    by_cases z:j=n
    ·rw [z];exact hin
    ·exact hn j (by lia)
   have hle:=iM (n+1) T hn'
   k_go
   exact ⟨T.length - (n+1),by lia,n+1,rfl,rfl,hn',rfl⟩
  ·k_go
   have hm:n=mex T:=wI ⟨fun z=>(by rw [bT.mpr z] at e;cases e),hn⟩
   rw [← hm] at q
   exact q
end
section
variable {P:Program} {w:World} {K:xFr} {mg:Str→Option Value} {base:Heap}
structure MOk (m:List (Int×Int)):Prop where
 nd:(ky m).Nodup
 bd:∀ k∈ky m,0≤k∧k<211
theorem MOk.few {m:List (Int×Int)} (h:MOk m):(kvI m).length<sizeLine:=tH h.nd h.bd
theorem MOk.gv {m:List (Int×Int)} {T:List Int} (h:MOk m) {ks:List Int} (b:∀ k∈ks,0≤k∧k<211):MOk (ks.foldl gv2 (m,T)).1:=⟨ux ks h.nd,fun k hk=>((qC ks).mp hk).elim (h.bd k) (b k)⟩
theorem MOk.pt {m:List (Int×Int)} {k v:Int} (h:MOk m) (b:0≤k∧k<211):MOk (pt m k v):=⟨jo h.nd,fun j hj=>(dB.mp hj).elim (h.bd j) fun e=>by rw [e];exact b⟩
def spGive:Sp:=fun vs H Q _=>∃ (a pn pd:Addr) (m:List (Int×Int)) (ks ds:List Int),vs=[.ref a,.ref pn,.ref pd]∧H a=some (.dK (kvI m))∧H pn=some (.tup (ks.map V.int))∧H pd=some (.tup (ds.map V.int))∧(∀ k∈ds,k∈ky m)∧ds.length≤1000∧ks.length≤1000∧MOk m∧(∀ k∈ks,0≤k∧k<211) ∧
 ∀ H',Kept [a] H H'→H' a=some (.dK (kvI (give m ks (ds.map (look m)))))→Q .non H'
def ggive:Scope:={ kind:=.function,names:=[("slots",.cell),("names",.local),("needs",.local),("name",.local),("taken",.local),("least_without",.globalImplicit)],isGenerator:=false,isCoroutine:=false,more:=[("fast",.str "slots"),("fast",.str "names"),("fast",.str "needs"),("fast",.str "name"),("fast",.str "taken")] }
theorem scgive:FnScope ["slots","names","needs","taken","name"] ["slots","names","needs"] ggive:=⟨rfl,rfl,rfl,by decide +kernel,rfl,by decide +kernel,by decide +kernel⟩
theorem sQ (F:Dn K mg "give_slots" sGive ["slots","names","needs"]) (T:Txt K mg) (c_least_without:Cal P w K mg base "least_without" 1 ["numbers"] spLw):Cal P w K mg base "give_slots" 2 ["slots","names","needs"] spGive:=by
 refine F.ok scgive rfl (fun vs H Q E h=>?_) (fun f cdv A outer s H vs Q E hr h=>?_)
 ·obtain ⟨a,pn,pd,m,ks,ds,rfl,_⟩:=h
  rfl
 ·obtain ⟨a,pn,pd,m,ks,ds,rfl,ha,hpn,hpd,hds,lds,lks,okM,bK,q⟩:=h
  have hu:=bJ hr
  refine' ⟨?tt,QSs.h ?hh,?gg⟩
  case hh=>exact (ab (dv (i:=3) scgive.nd rfl rfl (ls:=["name"]) (N:=["slots"]) (fr:=[0]) rfl (CapsG.mk' rfl (by decide +kernel) rfl (by decide +kernel) (.cons ⟨⟨_,rfl,rfl⟩,rfl,rfl,rfl⟩ .nil) (by decide +kernel) rfl) (bw (qv 2)) (fun C s H fp=>(am (i:=0) (show (["name","slots"]:List Str).Nodup by decide +kernel) rfl (Or.inl rfl))) (fun C s H fp=>bN) (fun C s H fp=>(aG hu (qv 1) (qv 0))))
   (ag (aR PassesOwn.never rfl (bw (qv 1)) (am (i:=4) scgive.nd rfl (Or.inl rfl))
    (ab (bc hu (qv 0) (qv 4) (av c_least_without hr rfl (ae (qv 3) aa)))
   (ag (ck (cm PySem.F.plainAttrs_list PySem.F.slot_list_append PySem.F.type_list_append bE (qv 3) (ae (aG hu (qv 0) (qv 4)) aa))))))))
  k_go
  refine bS (bG (xs:=ds.map V.int)) (fun B i ys H2=>H2 B=some (.lst ys)∧Same H H2∧H B=none∧ys=((ds.take i).map (look m)).map V.int) (fun B hB=>⟨ah,aw hB _,hB,rfl⟩) ?_ ?_ ?_
  ·rintro B i ys H2 hi ⟨h1,h2,h3,rfl⟩
   exact ⟨h1,by rw [xAa,xAa,xAn];exact lineM (by lia),.of (h2 _ _ hpd)⟩
  ·rintro B i ys _ x H2 hi ⟨h1,h2,h3,rfl⟩ ⟨rfl,hx⟩
   rw [xAw] at hx
   obtain ⟨k,hk,rfl⟩:=xA3.mp hx
   k_go
   refine ⟨rfl,rfl,?_⟩
   k_go
   refine ⟨h1,?_⟩
   k_go
   refine bB (h2 _ _ ha) (by rw [aX,bX (hds k (xAc hk))];rfl) ?_
   refine ⟨h1,ah,h2.upd_new h3,h3,?_⟩
   rw [aK hk,xAi,xAi]
   rfl
  rintro B ys H2 ⟨h1,h2,h3,rfl⟩
  rw [xAa,xAu] at h1
  have ha2:=h2 _ _ ha
  have hpn2:=h2 _ _ hpn
  have nBa:B≠a:=Ne.symm (ak ha h3)
  have nPn:pn ∉ [a,B]:=by
   simp only [xAv,xBv,or_false,not_or]
   exact ⟨fun z=>(by rw [z,ha] at hpn;cases hpn),ak hpn h3⟩
  k_go
  refine aL (bG (xs:=ks.map V.int)) (fun jj σ HB=>∃ (vn:Option V),σ=[some (.ref a),some (.ref pn),some (.ref pd),some (.ref B),vn]∧Kept [a,B] H2 HB∧HB a=some (.dK (kvI ((ks.take jj).foldl gv2 (m,ds.map (look m))).1))∧HB B=some (.lst (((ks.take jj).foldl gv2 (m,ds.map (look m))).2.map V.int))) ⟨_,rfl,.refl,ha2,h1⟩ (by rintro _ _ _ _ ⟨_,_,z,_⟩;exact .of (z _ _ hpn2 nPn)) ?_ ?_
  ·rintro _ jj _ σ _ y HB hj ⟨vn,rfl,kB,haB,hBB⟩ ⟨rfl,hy⟩
   rw [xAw] at hy
   obtain ⟨k,hk,rfl⟩:=xA3.mp hy
   have okB:MOk ((ks.take jj).foldl gv2 (m,ds.map (look m))).1:=okM.gv fun k hk=>bK k (xBj hk)
   have lenB:((ks.take jj).foldl gv2 (m,ds.map (look m))).2.length≤5000:=by
    rw [wY,xAn]
    simp only [xAa]
    lia
   have eS:(ks.take (jj+1)).foldl gv2 (m,ds.map (look m))=gv2 ((ks.take jj).foldl gv2 (m,ds.map (look m))) k:=by rw [aK hk,xBg];rfl
   generalize (ks.take jj).foldl gv2 (m,ds.map (look m))=st at haB hBB okB lenB eS
   k_go
   refine ⟨B,st.2,rfl,hBB,?_⟩
   k_go
   refine cJ haB okB.few ?_
   have haC:upd HB a (.dK (putK (kvI st.1) (.inl k) (.int (mex st.2)))) a=some (.dK (kvI (pt st.1 k (mex st.2)))):=by rw [ah,dh]
   have hBC:upd HB a (.dK (putK (kvI st.1) (.inl k) (.int (mex st.2)))) B=some (.lst (st.2.map V.int)):=by rw [aA nBa];exact hBB
   have kC:Kept [a,B] H2 (upd HB a (.dK (putK (kvI st.1) (.inl k) (.int (mex st.2))))):=kB.trans (.put (by simp))
   generalize upd HB a (.dK (putK (kvI st.1) (.inl k) (.int (mex st.2))))=HC at haC hBC kC
   k_go
   refine bB haC (by rw [aX,lS];rfl) ?_
   k_go
   refine cj hBC (lineM (by rw [xAa];lia)) ?_
   k_go
   refine ⟨_,rfl,kC.trans (.put (by simp)),?_,?_⟩
   ·rw [eS,aA (Ne.symm nBa)]
    exact haC
   ·rw [eS,ah]
    simp only [gv2,xAi]
    rfl
  ·rintro σ HB ⟨vn,rfl,kB,haB,hBB⟩
   rw [xAa,xAu] at haB
   k_go
   refine q HB (fun c o e hc=>kB c o (h2 c o e) ?_) haB
   simp only [xAv,xBv,or_false,not_or] at hc ⊢
   exact ⟨hc,ak e h3⟩
end
section
variable {P:Program} {w:World} {K:xFr} {mg:Str→Option Value} {base:Heap}
def slt (ps ks:List Int) (b:Bdy):List (Int×Int):=(rowsOf ps ks b).foldl rowStep (ini (ps++ks))
theorem gb {ps ks:List Int} {b:Bdy} (ok:CodOk ps ks b) {r:Row} (h:r∈rowsOf ps ks b):(∀ k∈gvr r,0≤k∧k<211)∧(∀ x∈r.step.inn,BB x.2∧x.1.length≤4):=by
 obtain ⟨pth,th,la,e1,hat,e2,e3⟩:=iw 81 h
 obtain ⟨_,_,_,bd4⟩:=hat.bd ok.bb
 have hs:r.step∈(Bdy.mk [r.step] (.num 0)).steps:=xAr ..
 refine ⟨fun k hk=>bd4.giv k (Giv.iff.mpr ⟨r.step,hs,?_⟩),fun x hx=>⟨bd4.inn hs hx,((bd4.len ([],_) (.inl rfl)).2 r.step hs).2 x hx⟩⟩
 rcases xAv.mp hk with hk | hk
 ·exact .inl hk.symm
 ·obtain ⟨x,hx,hk⟩:=xA4.mp hk
  exact .inr ⟨x,hx,.inl hk⟩
theorem lG {ps ks:List Int} {b:Bdy} (ok:CodOk ps ks b) (n:Nat):MOk (ini ((ps++ks).take n)):=⟨tM _ (by simp [ky]),fun k hk=>ok.bt k (xBj (fc.mp hk))⟩
theorem eI {ps ks:List Int} {b:Bdy} (ok:CodOk ps ks b) (n:Nat):MOk (((rowsOf ps ks b).take n).foldl rowStep (ini (ps++ks))):=by
 have h0:=lG ok (ps++ks).length
 rw [xAu] at h0
 refine ⟨rq _ h0.nd,fun k hk=>?_⟩
 rcases (eC _).mp hk with z | ⟨r,hr,z⟩
 ·exact h0.bd k z
 ·exact (gb ok (xBj hr)).1 k z
theorem wH {ps ks:List Int} {b:Bdy} (ok:CodOk ps ks b) {i:Nat} {r:Row} (hr:(rowsOf ps ks b)[i]?=some r) (j:Nat):MOk ((r.step.inn.take j).foldl (rowIn r) (rowTo r (((rowsOf ps ks b).take i).foldl rowStep (ini (ps++ks))))):=by
 have h0:=eI ok i
 have hb:=(gb ok (xAc hr)).1
 have h1:MOk (rowTo r (((rowsOf ps ks b).take i).foldl rowStep (ini (ps++ks)))):=h0.pt (hb _ (xAr ..))
 refine ⟨qw _ h1.nd,fun k hk=>?_⟩
 rcases (kr _).mp hk with z | z
 ·exact h1.bd k z
 ·obtain ⟨x,hx,z⟩:=xA4.mp z
  exact hb k (xAs _ (xA4.mpr ⟨x,xBj hx,z⟩))
theorem gr {ps ks:List Int} {b:Bdy} {i:Nat} {r:Row} (hr:(rowsOf ps ks b)[i]?=some r):∀ k∈r.there,k∈ky (((rowsOf ps ks b).take i).foldl rowStep (ini (ps++ks))):=fun k hk=>by
 have c:Cov (fun k=>k∈ps++ks) (rowsOf ps ks b):=iu 81 fun k hk=>hk
 rw [eC,fc]
 exact c.at hr k hk
theorem ya {ps ks:List Int} {b:Bdy} {i:Nat} {r:Row} (hr:(rowsOf ps ks b)[i]?=some r) (j:Nat):∀ k∈r.there,k∈ky ((r.step.inn.take j).foldl (rowIn r) (rowTo r (((rowsOf ps ks b).take i).foldl rowStep (ini (ps++ks))))):=fun k hk =>
 (kr _).mpr (.inl (dB.mpr (.inl (gr hr k hk))))
theorem lF {ps ks:List Int} {b:Bdy} (ok:CodOk ps ks b) {r:Row} (h:r∈rowsOf ps ks b) {x:List Int×Bdy} (hx:x∈r.step.inn) {k:Int}:k∈ndd r x↔k∈r.there∧(Men x.2 k∨r.later k):=by
 refine cG fun k hk=>?_
 rcases hk.2 with z | z
 ·exact ((gb ok h).2 x hx).1.men k z
 ·exact ((ei 81 h).1 z).elim (ok.bb.men k) False.elim
theorem mG {ps ks:List Int} {b:Bdy} (ok:CodOk ps ks b) {r:Row} (h:r∈rowsOf ps ks b) {k:Int}:k∈r.behind↔k∈r.there∧r.later k :=
 cG fun k hk=>((ei 81 h).1 hk.2).elim (ok.bb.men k) False.elim
theorem uc {ps ks:List Int} {b:Bdy} (ok:CodOk ps ks b) {r:Row} (h:r∈rowsOf ps ks b) {k:Int}:k∈r.ahead↔k∈r.there∧(MenS r.step k∨r.later k):=by
 refine cG fun k hk=>?_
 rcases hk.2 with z | z
 ·exact ok.bb.men k ((ei 81 h).2 z)
 ·exact ((ei 81 h).1 z).elim (ok.bb.men k) False.elim
def spSlots:Sp:=fun vs H Q _=>∃ (v:V) (pl:Int) (ps ks:List Int) (b:Bdy),vs=[v]∧Rp H (codD pl ps ks b) v∧CodOk ps ks b∧∀ (p d:Addr) (mx:Int) (H':Hp),Same H H'→H d=none→H' p=some (.tup [.int (mx+1),.ref d])→H' d=some (.dK (kvI (slt ps ks b)))→mx∈(-1)::(slt ps ks b).map (·.2)→(∀ k∈(-1)::(slt ps ks b).map (·.2),k≤mx)→Q (.ref p) H'
def gslots:Scope:={ kind:=.function,names:=[("code",.local),("place",.local),("params",.local),("kept",.local),("body",.local),("slots",.local),("name",.local),("path",.local),("step",.local),("ahead",.local),("behind",.local),("names",.local),("within",.local),("uses",.cell),("many",.local),("len",.globalImplicit),("stands",.globalImplicit),("give_slots",.globalImplicit),("inner",.globalImplicit),("mentioned",.globalImplicit),("tuple",.globalImplicit),("max",.globalImplicit),("list",.globalImplicit)],isGenerator:=false,isCoroutine:=false,more:=[("fast",.str "code"),("fast",.str "place"),("fast",.str "params"),("fast",.str "kept"),("fast",.str "body"),("fast",.str "slots"),("fast",.str "name"),("fast",.str "path"),("fast",.str "step"),("fast",.str "ahead"),("fast",.str "behind"),("fast",.str "names"),("fast",.str "within"),("fast",.str "uses"),("fast",.str "many")] }
theorem scslots:FnScope ["code","place","params","kept","body","slots","name","path","step","ahead","behind","names","within","uses","many"] ["code"] gslots:=⟨rfl,rfl,rfl,by decide +kernel,rfl,by decide +kernel,by decide +kernel⟩
theorem pL (F:Dn K mg "slots_of" sSlots ["code"]) (T:Txt K mg) (c_stands:Cal P w K mg base "stands" 87 ["code"] spStands) (c_give_slots:Cal P w K mg base "give_slots" 2 ["slots","names","needs"] spGive) (c_inner:Cal P w K mg base "inner" 1 ["step"] spInn) (c_mentioned:Cal P w K mg base "mentioned" 3 ["body"] spMen):Cal P w K mg base "slots_of" 88 ["code"] spSlots:=by
 refine F.ok scslots rfl (fun vs H Q E h=>?_) (fun f cdv A outer s H vs Q E hr h=>?_)
 ·obtain ⟨v,pl,ps,ks,b,rfl,_⟩:=h
  rfl
 ·obtain ⟨v,pl,ps,ks,b,rfl,hv,ok,q⟩:=h
  have hu:=bJ hr
  refine' ⟨?tt,QSs.h ?hh,?gg⟩
  case hh=>exact (ab (gh (qv 0) (a8 rfl (ay (am (i:=1) scslots.nd rfl (Or.inl rfl)) (ay (am (i:=2) scslots.nd rfl (Or.inl rfl)) (ay (am (i:=3) scslots.nd rfl (Or.inl rfl)) (ay (am (i:=4) scslots.nd rfl (Or.inl rfl)) a7))))))
   (ab (aD (i:=5) scslots.nd rfl (Or.inl rfl) c7)
   (ab (aR PassesOwn.never rfl (bw (aF bm (qv 2) (qv 3))) (am (i:=6) scslots.nd rfl (Or.inl rfl))
    (ag (bc hu (qv 5) (qv 6) (bV tZ rfl T.zlen gK (ae (qv 5) aa)))))
   (ab (aR PassesOwn.never rfl (aP (av c_stands hr rfl (ae (qv 0) aa))) (a8 rfl (ay (am (i:=7) scslots.nd rfl (Or.inl rfl)) (ay (am (i:=8) scslots.nd rfl (Or.inl rfl)) (ay (am (i:=9) scslots.nd rfl (Or.inl rfl)) (ay (am (i:=10) scslots.nd rfl (Or.inl rfl)) a7)))))
    (ab (ck (av c_give_slots hr rfl (ae (qv 5) (ae (aB (ae (au ai (qv 8) af) aa)) (ae (qv 10) aa)))))
   (ag (aR PassesOwn.never rfl (aP (av c_inner hr rfl (ae (qv 8) aa))) (a8 rfl (ay (am (i:=11) scslots.nd rfl (Or.inl rfl)) (ay (am (i:=12) scslots.nd rfl (Or.inl rfl)) a7)))
    (ab (aD (i:=13) scslots.nd rfl (Or.inr rfl) (av c_mentioned hr rfl (ae (qv 12) aa)))
   (ag (ck (av c_give_slots hr rfl (ae (qv 5) (ae (qv 11) (ae (aF bm (qv 10) (aU a9 rfl T.ztuple bI (ae (bM (ls:=["name"]) (N:=["uses"]) (fr:=[13]) rfl (CapsG.mk' rfl (by decide +kernel) rfl (by decide +kernel) (.cons ⟨⟨_,rfl,rfl⟩,rfl,rfl,rfl⟩ .nil) (by decide +kernel) rfl) (bw (qv 9)) (fun C s H fp=>(am (i:=0) (show (["name","uses"]:List Str).Nodup by decide +kernel) rfl (Or.inl rfl))) (fun C s H fp=>(cK (ap (r:=rIn K0 false) dW (qv 0) (qv 1) rfl))) (fun C s H fp=>(qv 0))) aa))) aa)))))))))))
   (ab (aD (i:=14) scslots.nd rfl (Or.inl rfl) (aF eX (bV (qR rfl) rfl T.zmax uH (ae (aF bU (aH (ae (oU jZ af) aa)) (aU (qS rfl) rfl T.zlist cF (ae (rQ PySem.F.plainAttrs_dict PySem.F.slot_dict_values PySem.F.type_dict_values nr (qv 5)) aa))) aa)) af))
   (ag (ao (aB (ae (qv 14) (ae (qv 5) aa))))))))))
  obtain ⟨pc,q1,q2,vb,rfl,hpc,hq1,hq2,hvb⟩:=mr hv
  have ll:=ok.lt
  rw [xAb] at ll
  k_go
  refine eV fun a H0 s0 n0 h0=>?_
  k_go
  refine ci (s0 _ _ hq1) (s0 _ _ hq2) (lineMe (by rw [xAa,xAa];lia)) fun p3 H3 s3 hp3=>?_
  rw [← xAi] at hp3
  have h03:=s3 _ _ h0
  have u3:=s0.trans s3
  k_go
  refine aL (bG (xs:=(ps++ks).map V.int)) (fun j σ HB=>∃ (v6:Option V),σ=[some (.ref pc),some (.int pl),some (.ref q1),some (.ref q2),some vb,some (.ref a),v6,none,none,none,none,none,none,none,none]∧Kept [a] H3 HB∧HB a=some (.dK (kvI (ini ((ps++ks).take j))))) ⟨_,rfl,.refl,h03⟩ (by rintro _ _ _ _ ⟨_,_,z,_⟩;exact .of (z _ _ hp3 (by rw [xAm];intro y;rw [y,h03] at hp3;cases hp3))) ?_ ?_
  ·rintro _ j _ σ _ y HB hj ⟨v6,rfl,kB,haB⟩ ⟨rfl,hy⟩
   rw [xAw] at hy
   obtain ⟨k,hk,rfl⟩:=xA3.mp hy
   have okB:=lG ok j
   have eS:ini ((ps++ks).take (j+1))=pt (ini ((ps++ks).take j)) k (ini ((ps++ks).take j)).length:=by rw [aK hk,ini,xBg];rfl
   generalize ini ((ps++ks).take j)=m at haB okB eS
   k_go
   refine vi haB ?_
   rw [eL]
   k_go
   refine cJ haB okB.few ?_
   k_go
   exact ⟨_,rfl,kB.trans (.put (by simp)),by rw [eS,ah,dh]⟩
  rintro σ H4 ⟨v6,rfl,k4,ha4⟩
  rw [xAa,xAu] at ha4
  have nt3:NoT [a] H3:=fun c hc xs z=>by rw [xAm.mp hc,h03] at z;cases z
  have t4:=(TLe.of u3).trans (k4.tle nt3)
  have hv4:=hv.le t4
  k_go
  refine ⟨.ref pc,pl,ps,ks,b,rfl,hv4,ok,fun l H5 s5 n5 zz0=>?_⟩
  obtain ⟨ws,hl,hw⟩:=zz0
  have lw:=hw.mapLen
  have ha5:=s5 _ _ ha4
  have nla:l≠a:=fun z=>by rw [z,ha4] at n5;cases n5
  have nt5:NoT [a] H5:=fun c hc xs z=>by rw [xAm.mp hc,ha5] at z;cases z
  k_go
  refine aL (aS (xs:=ws)) (fun i σ HB=>∃ (v6 v7 v8 v9 v10 v11 v12 v13:Option V),σ=[some (.ref pc),some (.int pl),some (.ref q1),some (.ref q2),some vb,some (.ref a),v6,v7,v8,v9,v10,v11,v12,v13,none]∧Kept [a] H5 HB∧HB a=some (.dK (kvI (((rowsOf ps ks b).take i).foldl rowStep (ini (ps++ks)))))) ⟨_,_,_,_,_,_,_,_,rfl,.refl,ha5⟩ (by rintro _ _ _ _ ⟨_,_,_,_,_,_,_,_,_,z,_⟩;exact .of (z _ _ hl (by simpa using nla))) ?_ ?_
  ·rintro _ i _ σ _ x HB hi ⟨v6,v7,v8,v9,v10,v11,v12,v13,rfl,kB,haB⟩ ⟨rfl,hx⟩
   have tB:=kB.tle nt5
   obtain ⟨r,hr,hd⟩:=(hw.le tB).mapGet' hx
   obtain ⟨p,_,rfl,hp,va,_,rfl,hva,vs,_,rfl,hvs,vc,_,rfl,hvc,vd,_,rfl,hvd,rfl⟩:=hd
   obtain ⟨qc,rfl,hqc⟩:=aY hvc
   obtain ⟨qd,rfl,hqd⟩:=aY hvd
   obtain ⟨pst,rr,wd,rfl,hpst⟩:=Stp.inv hvs
   have hmem:=xAc hr
   obtain ⟨bg,bi⟩:=gb ok hmem
   have okB:=eI ok i
   have lbh:r.behind.length≤211:=bZ
   have lah:r.ahead.length≤211:=bZ
   have kt:=gr hr
   k_go
   refine cH hpst il ?_
   k_go
   refine az fun p5 H6 s6 n6 h6=>?_
   k_go
   refine ⟨a,p5,qd,_,[r.step.to],r.behind,rfl,s6 _ _ haB,h6,s6 _ _ hqd,fun k hk=>kt k ((mG ok hmem).mp hk).1,by lia,by simp,okB,fun k hk=>by rw [xAm.mp hk];exact bg _ (xAr ..),fun H7 k7 h7=>?_⟩
   have h7':H7 a=some (.dK (kvI (rowTo r (((rowsOf ps ks b).take i).foldl rowStep (ini (ps++ks)))))):=h7
   clear h7
   have k7':Kept [a] HB H7:=(Kept.of s6).trans k7
   have ntB:NoT [a] HB:=fun c hc xs z=>by rw [xAm.mp hc,haB] at z;cases z
   have t7:=k7'.tle ntB
   have hvs7:=hvs.le t7
   k_go
   refine ⟨.ref pst,r.step,rfl,hvs7,fun li H8 s8 n8 zz0=>?_⟩
   obtain ⟨cs,hc1,hc2⟩:=zz0
   have lcs:=hc2.mapLen
   have ha8:=s8 _ _ h7'
   have nli:li≠a:=fun z=>by rw [z,h7'] at n8;cases n8
   have nt8:NoT [a] H8:=fun c hc xs z=>by rw [xAm.mp hc,ha8] at z;cases z
   k_go
   refine aL (aS (xs:=cs)) (fun j σ HC=>∃ (v11 v12 v13:Option V),σ=[some (.ref pc),some (.int pl),some (.ref q1),some (.ref q2),some vb,some (.ref a),v6,some va,some (.ref pst),some (.ref qc),some (.ref qd),v11,v12,v13,none]∧Kept [a] H8 HC∧HC a=some (.dK (kvI ((r.step.inn.take j).foldl (rowIn r) (rowTo r (((rowsOf ps ks b).take i).foldl rowStep (ini (ps++ks)))))))) ⟨_,_,_,rfl,.refl,ha8⟩ (by rintro _ _ _ _ ⟨_,_,_,_,z,_⟩;exact .of (z _ _ hc1 (by simpa using nli))) ?_ ?_
   ·rintro _ j _ σ _ y HC hj ⟨v11,v12,v13,rfl,kC,haC⟩ ⟨rfl,hy⟩
    have tC:=kC.tle nt8
    obtain ⟨xx,hxx,hrx⟩:=(hc2.le tC).mapGet' hy
    have hxm:=xAc hxx
    obtain ⟨pz,pn,vz,rfl,z1,z2,z3⟩:=hrx.pair
    obtain ⟨bx,lx⟩:=bi xx hxm
    have okC:=wH ok hr j
    have kc:=ya hr j
    have eS:(r.step.inn.take (j+1)).foldl (rowIn r) (rowTo r (((rowsOf ps ks b).take i).foldl rowStep (ini (ps++ks))))=rowIn r ((r.step.inn.take j).foldl (rowIn r) (rowTo r (((rowsOf ps ks b).take i).foldl rowStep (ini (ps++ks))))) xx:=by rw [aK hxx,xBg];rfl
    generalize (r.step.inn.take j).foldl (rowIn r) (rowTo r (((rowsOf ps ks b).take i).foldl rowStep (ini (ps++ks))))=m at haC okC kc eS
    have tBC:=t7.trans ((TLe.of s8).trans tC)
    k_go
    refine ⟨vz,xx.2,rfl,z3,bx.okB,fun l9 H9 ns9 s9 n9 h9 p9 m9=>?_⟩
    have hqc9:=s9 _ _ (tBC _ _ hqc)
    k_go
    refine bS (bG (xs:=r.ahead.map V.int)) (fun D i ys HD=>HD D=some (.lst ys)∧Same H9 HD∧H9 D=none∧ys=((r.ahead.take i).filter fun k=>decide (k∈ns9)).map V.int) (fun D hD=>⟨ah,aw hD _,hD,rfl⟩) ?_ ?_ ?_
    ·rintro D i ys HD hi ⟨y1,y2,y3,rfl⟩
     refine ⟨y1,?_,.of (y2 _ _ hqc9)⟩
     rw [xAa]
     exact lineM (Nat.le_trans (List.length_filter_le _ _) (by rw [xAn];lia))
    ·rintro D i ys _ x HD hi ⟨y1,y2,y3,rfl⟩ ⟨rfl,hx⟩
     rw [xAw] at hx
     obtain ⟨k,hk,rfl⟩:=xA3.mp hx
     k_go
     refine ⟨rfl,rfl,?_⟩
     k_go
     refine oO (y2 _ _ h9) rfl dL ?_
     k_go
     refine ⟨y1,ba (fun z=>?_) (fun z=>?_)⟩
     ·have hn:k∈ns9:=bT.mp z
      k_go
      refine ⟨y1,?_⟩
      rw [aK hk,List.filter_append,xAi,List.filter_cons_of_pos (by simpa using hn)]
      exact ⟨ah,y2.upd_new y3,y3,rfl⟩
     ·have hn:k ∉ ns9:=fun w=>by rw [bT.mpr w] at z;cases z
      rw [aK hk,List.filter_append,List.filter_cons_of_neg (by simpa using hn),List.filter_nil,xB0]
      exact ⟨y1,y2,y3,rfl⟩
    rintro D ys HD ⟨y1,y2,y3,rfl⟩
    rw [xAa,xAu] at y1
    have uD:=s9.trans y2
    have fl:(r.ahead.filter fun k=>decide (k∈ns9)).length≤r.ahead.length:=List.length_filter_le _ _
    have em:∀ k,k∈r.behind++(r.ahead.filter fun k=>decide (k∈ns9))↔k∈ndd r xx:=fun k=>by
     rw [xAj,xBr,mG ok hmem,uc ok hmem,lF ok hmem hxm,decide_eq_true_eq,m9]
     constructor
     ·rintro (⟨z,w⟩ | ⟨⟨z,_⟩,w⟩)
      ·exact ⟨z,.inr w⟩
      ·exact ⟨z,.inl w⟩
     ·rintro ⟨z,w | w⟩
      ·exact .inr ⟨⟨z,.inl (.inr ⟨xx,hxm,w⟩)⟩,w⟩
      ·exact .inl ⟨z,w⟩
    generalize (r.ahead.filter fun k=>decide (k∈ns9))=fs at y1 fl em
    k_go
    refine cg y1 fun pE HE sE nE hE=>?_
    have uE:=uD.trans sE
    have hqdE:=uE _ _ (tBC _ _ hqd)
    refine ci hqdE hE (lineMe (by rw [xAa,xAa];lia)) fun pF HF sF hF=>?_
    rw [← xAi] at hF
    have uF:=uE.trans sF
    k_go
    refine ⟨a,pn,pF,m,xx.1,r.behind++fs,rfl,uF _ _ haC,uF _ _ z2,hF,fun k hk=>kc k ((lF ok hmem hxm).mp ((em k).mp hk)).1,by rw [xAb];lia,by lia,okC,fun k hk=>bg k (xAs _ (xA4.mpr ⟨xx,hxm,hk⟩)),fun HG kG hG=>?_⟩
    k_go
    refine ⟨_,_,_,rfl,kC.trans ((Kept.of uF).trans kG),?_⟩
    rw [eS,hG,rowIn,kw xx.1 (T:=(r.behind++fs).map (look m)) (T':=(ndd r xx).map (look m)) fun z=>?_]
    rw [xA2,xA2]
    exact exists_congr fun k=>and_congr (em k) Iff.rfl
   ·rintro σ HC ⟨v11,v12,v13,rfl,kC,haC⟩
    k_go
    refine ⟨_,_,_,_,_,_,_,_,rfl,kB.trans (k7'.trans ((Kept.of s8).trans kC)),?_⟩
    rw [lcs,xAu] at haC
    rw [haC,aK (show (rowsOf ps ks b)[i]?=some r from hr),xBg]
    rfl
  ·rintro σ HB ⟨v6,v7,v8,v9,v10,v11,v12,v13,rfl,kB,haB⟩
   rw [show ws.length=(rowsOf ps ks b).length from lw,xAu] at haB
   have haB:HB a=some (.dK (kvI (slt ps ks b))):=haB
   have okS:=eI ok (rowsOf ps ks b).length
   rw [xAu] at okS
   have ls:=ko okS.nd okS.bd
   have ls:(slt ps ks b).length≤211:=ls
   have sB:Same H HB:=fun c oc ec=>kB _ _ (s5 _ _ (k4 _ _ (u3 _ _ ec) (by rw [xAm];exact ak ec n0))) (by rw [xAm];exact ak ec n0)
   generalize slt ps ks b=m at haB ls q
   k_go
   refine aq fun l1 H6 s6 n6 h6=>?_
   k_go
   refine oD (s6 _ _ haB) fun v7 H7 s7 n7 h7=>?_
   k_go
   refine rC h7 (s7 _ _ (s6 _ _ haB)) fun l8 H8 s8 n8 h8=>?_
   rw [qm] at h8
   have u8:=s7.trans s8
   refine di (u8 _ _ h6) h8 (lineMe (by simp only [xAa,xAt];lia)) fun l9 H9 s9 n9 h9=>?_
   k_go
   refine u0 (ns:=(-1:Int)::m.map (fun p:Int×Int=>p.2)) h9 (by simp) fun mx hm1 hm2=>?_
   k_go
   refine az fun pR HR sR nR hR=>?_
   have uR:=s6.trans (u8.trans (s9.trans sR))
   exact q pR a mx HR (sB.trans uR) n0 hR (uR _ _ haB) hm1 hm2
end
section
variable {P:Program} {w:World} {K:xFr} {mg:Str→Option Value} {base:Heap}
theorem tm {s:Stp} (h:¬ IsF s):Stp.word s≠"func":=by
 cases s with
 | func=>exact absurd True.intro h
 | _=>simp only [Stp.word];decide +kernel
def begs (s:Stp):List Int:=s.inn.flatMap (·.1)
theorem xc {to:Int} {a:Atom} {tag:Str} {xs:List Int} {y n:Bdy} {pl:Int}:begs (.mtch to a tag xs y n pl)=xs:=by simp [begs,Stp.inn]
theorem xb {to:Int} {one:Bdy} {w:Str} {x:Int} {other:Bdy} {pl:Int}:begs (.tri to one w x other pl)=[x]:=by simp [begs,Stp.inn]
theorem nX {s:Stp} (nf:¬ IsF s) (hm:Stp.word s≠"match") (ht:Stp.word s≠"try"):begs s=[]:=by
 cases s with
 | func=>exact absurd True.intro nf
 | mtch=>exact absurd rfl hm
 | tri=>exact absurd rfl ht
 | _=>simp [begs,Stp.inn]
theorem me (s:Stp):s.gl.Perm (s.to::begs s++s.inn.flatMap fun x=>x.2.gl):=by
 rw [s.gl_eq,List.cons_append]
 exact List.Perm.cons _ (fe (fun x:List Int×Bdy=>x.1) (fun x=>x.2.gl) s.inn).symm
theorem iX {b:Bdy} (bb:BB b) (nd:b.gl.Nodup):b.gl.length≤211:=cr 211 nd fun k hk=>bb.giv k (dY.mp hk)
theorem qD {b:Bdy} {i:Nat} {s:Stp} (h:b.steps[i]?=some s):((b.steps.take i).flatMap Stp.gl++s.gl).Sublist b.gl:=by
 have e:b.steps.take (i+1)=b.steps.take i++[s]:=aK h
 have e2:(b.steps.take (i+1)).flatMap Stp.gl=(b.steps.take i).flatMap Stp.gl++s.gl:=aV h
 rw [← e2,b.gl_eq]
 conv=>rhs;rw [← xBx (i+1) b.steps,List.flatMap_append]
 exact List.sublist_append_left _ _
theorem ku {s:Stp} {j:Nat} {x:List Int×Bdy} (h:s.inn[j]?=some x):(x.2.gl).Sublist s.gl:=by
 rw [s.gl_eq]
 refine List.Sublist.cons _ ?_
 have hm:=xAc h
 generalize s.inn=l at hm
 clear h
 induction l with
 | nil=>cases hm
 | cons y l ih =>
  rw [xBh]
  rcases xAv.mp hm with rfl | hm
  ·exact (List.sublist_append_right _ _).trans (List.sublist_append_left _ _)
  ·exact (ih hm).trans (List.sublist_append_right _ _)
theorem qE {b:Bdy} {i:Nat} {s:Stp} (h:b.steps[i]?=some s):s.gl.Sublist b.gl:=(List.sublist_append_right _ _).trans (qD h)
theorem oq {b:Bdy} {i:Nat} {s:Stp} (bb:BB b) (nd:b.gl.Nodup) (h:b.steps[i]?=some s):((b.steps.take i).flatMap Stp.gl).length+s.gl.length≤211:=by
 have:=(qD h).length_le
 rw [xAb] at this
 have:=iX bb nd
 lia
def spGvn (N:Nat):Sp:=fun vs H Q _=>∃ (v:V) (b:Bdy),vs=[v]∧Rp H b.d v∧b.cnt≤N∧BB b∧NF b∧b.gl.Nodup∧∀ (l:Addr) (H':Hp) (us:List Int),Same H H'→H l=none→H' l=some (.lst (us.map V.int))→us.Perm b.gl→Q (.ref l) H'
def ggvn:Scope:={ kind:=.function,names:=[("_law_body_here",.local),("_law_found",.local),("_law_step_here",.local),("_law_within",.local),("_law_bodies",.globalImplicit),("_law_given",.globalImplicit)],isGenerator:=false,isCoroutine:=false,more:=[] }
theorem scgvn:FnScope ["_law_body_here","_law_found","_law_step_here","_law_within"] ["_law_body_here"] ggvn:=⟨rfl,rfl,rfl,by decide +kernel,rfl,by decide +kernel,by decide +kernel⟩
theorem ww (F:Dn K mg "_law_given" sGvn ["_law_body_here"]) (T:Txt K mg) {N:Nat} (c__law_bodies:Cal P w K mg base "_law_bodies" 1 ["_law_step_here"] spBof) (c__law_given:Cal P w K mg base "_law_given" (N+1) ["_law_body_here"] (spGvn N)):Cal P w K mg base "_law_given" (N+2) ["_law_body_here"] (spGvn (N+1)):=by
 refine F.ok scgvn rfl (fun vs H Q E h=>?_) (fun f cdv A outer s H vs Q E hr h=>?_)
 ·obtain ⟨v,b,rfl,_⟩:=h
  rfl
 ·obtain ⟨v,b,rfl,hv,hN,bb,nf,gn,q⟩:=h
  refine' ⟨?tt,QSs.h ?hh,?gg⟩
  case hh=>exact (ab (aD (i:=1) scgvn.nd rfl (Or.inl rfl) (aH aa))
   (ab (aR PassesOwn.never rfl (bw (au ai (qv 0) af)) (am (i:=2) scgvn.nd rfl (Or.inl rfl))
    (ab (ck (cm PySem.F.plainAttrs_list PySem.F.slot_list_append PySem.F.type_list_append bE (qv 1) (ae (au ai (qv 2) af) aa)))
   (ab (aE (ap aM (au ai (qv 2) af) aj (nomark _)) (ag (ck (cm PySem.F.plainAttrs_list PySem.F.slot_list_extend PySem.F.type_list_extend gm (qv 1) (ae (au ai (qv 2) af) aa)))) ar)
   (ab (aE (ap aM (au ai (qv 2) af) aj (nomark _)) (ag (ck (cm PySem.F.plainAttrs_list PySem.F.slot_list_append PySem.F.type_list_append bE (qv 1) (ae (au ai (qv 2) af) aa)))) ar)
   (ab (aE (ap aM (au ai (qv 2) af) aj (nomark _)) (ag (ck (cm PySem.F.plainAttrs_list PySem.F.slot_list_extend PySem.F.type_list_extend gm (qv 1) (ae (au ai (qv 2) af) aa)))) ar)
   (ag (aR PassesOwn.never rfl (aP (av c__law_bodies hr rfl (ae (qv 2) aa))) (am (i:=3) scgvn.nd rfl (Or.inl rfl))
    (ag (aD (i:=1) scgvn.nd rfl (Or.inl rfl) (aF bU (qv 1) (av c__law_given hr rfl (ae (qv 3) aa))))))))))))
   (ag (ao (qv 1)))))
  obtain ⟨p,pw,ws,va,rfl,g1,g2,g3,g4⟩:=hv.body
  have lw:=g3.mapLen
  k_go
  refine aq fun l0 H0 s0 n0 h0=>?_
  have g10:=s0 _ _ g1
  have g20:=s0 _ _ g2
  k_go
  refine aL (bG (xs:=ws)) (fun i σ HB=>∃ (v2 v3:Option V) (l:Addr) (us:List Int),σ=[some (.ref p),some (.ref l),v2,v3]∧Same H HB∧H l=none∧HB l=some (.lst (us.map V.int))∧us.Perm ((b.steps.take i).flatMap Stp.gl)) ⟨_,_,l0,[],rfl,s0,n0,h0,.refl _⟩ (by rintro _ _ _ _ ⟨_,_,_,_,_,z,_⟩;exact .of (z _ _ g2)) ?_ ?_
  ·rintro _ i _ σ _ y HB hi ⟨v2,v3,l,us,rfl,tB,nl,hl,pm⟩ ⟨rfl,hy⟩
   obtain ⟨st,hst,hrs⟩:=(g3.mono tB).mapGet' hy
   have hm:=xAc hst
   have nfs:=nf.no st hm
   have lt:=oq bb gn hst
   have lp:=pm.length_eq
   have lg:=(me st).length_eq
   rw [xAb,xAo] at lg
   obtain ⟨ps,rr,rfl,hps⟩:=inv2 hrs
   k_go
   refine cH hps il ?_
   k_go
   refine cj hl (lineM (by rw [xAa];lia)) ?_
   have hl1:upd HB l (.lst (us.map V.int++[.int st.to])) l=some (.lst ((us++[st.to]).map V.int)):=by rw [ah,xAi];rfl
   have s1:Same H (upd HB l (.lst (us.map V.int++[.int st.to]))):=tB.upd_new nl
   have tl1:TLe HB (upd HB l (.lst (us.map V.int++[.int st.to]))):=.upd fun xs z=>by rw [hl] at z;cases z
   generalize upd HB l (.lst (us.map V.int++[.int st.to]))=H1 at hl1 s1 tl1
   have hps1:=tl1 _ _ hps
   have hrs1:=hrs.le tl1
   dsimp only
   refine fM (fun σ' H'=>σ'=[some (.ref p),some (.ref l),some (.ref ps),v3]∧Same H H'∧TLe H1 H'∧H' l=some (.lst ((us++[st.to]++if Stp.word st="match" then begs st else []).map V.int))) ?core ?main
   case main =>
    intro core
    k_go
    refine cH hps1 jU ?_
    k_go
    refine ba (fun z=>?_) (fun z=>?_)
    ·have zw:=xBe z
     obtain ⟨to,a,tag,xs,yb,nb,pl,rfl⟩:=yd zw
     obtain ⟨ps',va',vx,vc',vd',e',hp',ha',hx',hc',hd'⟩:=dJ hrs1
     cases e'
     obtain ⟨qx,rfl,hqx⟩:=aY (show Rp H1 (intsD xs) vx from hx')
     clear hps hps1
     k_go
     have lx:xs.length≤4:=((bb.len ([],b) (.inl rfl)).2 _ hm).2 (xs,yb) (by simp [Stp.inn])
     refine vu hl1 hqx (lineMe (by rw [xAa,xAa,xAb,xAt];lia)) ?_
     refine core _ _ ⟨rfl,s1.upd_new nl,(.upd fun xs z=>by rw [hl1] at z;cases z),?_⟩
     rw [ah,xCg zw,xc,xAi (l₂:=xs)]
    ·have zw:=xBf z
     refine core _ _ ⟨rfl,s1,.refl,?_⟩
     rw [xCf zw,xB0]
     exact hl1
   rintro _ H2 ⟨rfl,s2,tl2,hl2⟩
   have hps2:=tl2 _ _ hps1
   have hrs2:=hrs1.le tl2
   refine fM (fun σ' H'=>σ'=[some (.ref p),some (.ref l),some (.ref ps),v3]∧Same H H'∧TLe H2 H'∧H' l=some (.lst ((us++[st.to]++begs st).map V.int))) ?core2 ?main2
   case main2 =>
    intro core
    k_go
    refine cH hps2 jU ?_
    k_go
    refine ba (fun z=>?_) (fun z=>?_)
    ·have zw:=xBe z
     obtain ⟨to,one,w',x0,other,pl,rfl⟩:=wT zw
     obtain ⟨p',va',vb',e',hp',ha',hb'⟩:=dX hrs2
     cases e'
     clear hps hps1 hps2
     k_go
     refine cj hl2 (lineM (by rw [xAa];simp only [xAb,xAt,xCf (show Stp.word (Stp.tri to one w' x0 other pl)≠"match" by simp only [Stp.word];decide +kernel),List.length_nil];lia)) ?_
     refine core _ _ ⟨rfl,s2.upd_new nl,(.upd fun xs z=>by rw [hl2] at z;cases z),?_⟩
     rw [ah,xCf (show Stp.word (Stp.tri to one w' x0 other pl)≠"match" by simp only [Stp.word];decide +kernel),xb,xB0,xAi (l₂:=[x0])]
     rfl
    ·have zw:=xBf z
     refine core _ _ ⟨rfl,s2,.refl,?_⟩
     rw [hl2]
     by_cases zm:Stp.word st="match"
     ·rw [xCg zm]
     ·rw [xCf zm,nX nfs zm zw]
   rintro _ H3 ⟨rfl,s3,tl3,hl3⟩
   have hps3:=tl3 _ _ hps2
   have hrs3:=hrs2.le tl3
   k_go
   refine cH hps3 jU ?_
   k_go
   refine bj (decide_eq_false (tm nfs)) ?_
   k_go
   refine ⟨.ref ps,st,rfl,hrs3,fun li H4 s4 n4 zz0=>?_⟩
   obtain ⟨cs,hc1,hc2⟩:=zz0
   have lcs:=hc2.mapLen
   k_go
   refine aL (aS (xs:=cs)) (fun j σ HC=>∃ (v3:Option V) (l:Addr) (us':List Int),σ=[some (.ref p),some (.ref l),some (.ref ps),v3]∧Same H4 HC∧H l=none∧HC l=some (.lst (us'.map V.int))∧us'.Perm (us++[st.to]++begs st++(st.inn.take j).flatMap fun x=>x.2.gl)) ⟨_,l,_,rfl,.refl _,nl,s4 _ _ hl3,by simp⟩ (by rintro _ _ _ _ ⟨_,_,_,_,z,_⟩;exact .of (z _ _ hc1)) ?_ ?_
   ·rintro _ j _ σ _ y HC hj ⟨v3,l,us',rfl,kC,nl,hlC,pm'⟩ ⟨rfl,hy⟩
    obtain ⟨xx,hxx,hrx⟩:=(hc2.mono kC).mapGet' hy
    have hxm:=xAc hxx
    have cx:=cX hm hxm
    have gx:=(ku hxx).trans (qE hst)
    k_go
    refine ⟨y,xx.2,rfl,hrx,by lia,bb.inn hm hxm,nf.inn st hm xx hxm,gn.sublist gx,fun l5 H5 us5 s5 n5 h5 p5=>?_⟩
    have l1:=pm'.length_eq
    have l2:=p5.length_eq
    have l3:=iX (bb.inn hm hxm) (gn.sublist gx)
    have l4:((st.inn.take j).flatMap fun x=>x.2.gl).length≤(st.inn.flatMap fun x=>x.2.gl).length:=by
     conv=>rhs;rw [← xBx j st.inn,List.flatMap_append]
     exact (List.sublist_append_left _ _).length_le
    simp only [xAb,xAt] at l1
    refine di (s5 _ _ hlC) h5 (lineMe (by rw [xAa,xAa];lia)) fun l6 H6 s6 n6 h6=>?_
    k_go
    refine ⟨_,l6,us'++us5,rfl,kC.trans (s5.trans s6),s3.free (s4.free (kC.free (s5.free n6))),by rw [h6,xAi],?_⟩
    rw [aV hxx,← xAx]
    exact pm'.append p5
   ·rintro σ HC ⟨v3,l,us',rfl,kC,nl,hlC,pm'⟩
    rw [lcs,xAu] at pm'
    k_go
    refine ⟨_,_,l,us',rfl,s3.trans (s4.trans kC),nl,hlC,?_⟩
    rw [aV hst]
    refine pm'.trans ?_
    rw [xAx,xAx]
    exact pm.append (List.Perm.trans (by simp) (me st).symm)
  ·rintro σ HB ⟨v2,v3,l,us,rfl,tB,nl,hl,pm⟩
   rw [lw,xAu,← b.gl_eq] at pm
   k_go
   exact q l HB us tB nl hl pm
end
section
variable {P:Program} {w:World} {K:xFr} {mg:Str→Option Value} {base:Heap}
def spBth:Sp:=fun vs H Q _=>∃ (a b:Addr) (h1 h2:List (Int×Int)),vs=[.ref a,.ref b]∧H a=some (.dK (kvI h1))∧H b=some (.dK (kvI h2))∧a≠b∧HdOk h1∧∀ (d:Addr) (H':Hp),Kept [a] H H'→H d=none→H' d=some (.dK (kvI (h1.filter fun p=>decide (lk h2 p.1=some p.2))))→Q (.ref d) H'
theorem keyI {h:List (Int×Int)} {i:Nat} {y:V} (e:((kvI h).map fun p=>kV p.1)[i]?=some y):∃ q,h[i]?=some q∧y = .int q.1:=by
 unfold kvI at e
 rw [xCc,xAw] at e
 obtain ⟨q,hq,e⟩:=xA3.mp e
 exact ⟨q,hq,e.symm⟩
theorem gw {h:List (Int×Int)} (o:HdOk h):(kvI h).length<sizeLine:=by rw [eL];exact lineM (by have:=o.len;lia)
theorem qA {h:List (Int×Int)} (o:HdOk h) (i:Nat):HdOk (h.take i):=⟨o.nd.sublist (List.Sublist.map _ (List.take_sublist ..)),fun k hk=>o.bd k ((List.Sublist.map _ (List.take_sublist ..)).subset hk)⟩
theorem qB {h:List (Int×Int)} (o:HdOk h) {i:Nat} {q:Int×Int} (e:h[i]?=some q):lk h q.1=some q.2:=qa o.nd (xAc e)
def gbth:Scope:={ kind:=.function,names:=[("_law_one",.local),("_law_other",.local),("_law_found",.local),("_law_slot",.local)],isGenerator:=false,isCoroutine:=false,more:=[] }
theorem scbth:FnScope ["_law_one","_law_other","_law_found","_law_slot"] ["_law_one","_law_other"] gbth:=⟨rfl,rfl,rfl,by decide +kernel,rfl,by decide +kernel,by decide +kernel⟩
theorem wy (F:Dn K mg "_law_both" sBth ["_law_one","_law_other"]) (T:Txt K mg):Cal P w K mg base "_law_both" 1 ["_law_one","_law_other"] spBth:=by
 refine F.ok scbth rfl (fun vs H Q E h=>?_) (fun f cdv A outer s H vs Q E hr h=>?_)
 ·obtain ⟨a,b,h1,h2,rfl,_⟩:=h
  rfl
 ·obtain ⟨a,b,h1,h2,rfl,ha,hb,hab,ok1,q⟩:=h
  have hu:=bJ hr
  refine' ⟨?tt,QSs.h ?hh,?gg⟩
  case hh=>exact (ab (aE (QW.pt (kY (ap ki (qv 0) de (nomark _)) (iE (ap ki (qv 1) de (nomark _))))) (ag (ao de)) ar)
   (ab (aD (i:=2) scbth.nd rfl (Or.inl rfl) c7)
   (ab (aR PassesOwn.never rfl (kZ (qv 0)) (am (i:=3) scbth.nd rfl (Or.inl rfl))
    (ag (aE (QW.pt (eW (bH (oV hu (qv 3) (qv 1))) (dI (ap aM (aG hu (qv 0) (qv 3)) (aG hu (qv 1) (qv 3)) (nomark _))))) (ag (bc hu (qv 2) (qv 3) (aG hu (qv 0) (qv 3)))) ar)))
   (ag (ao (qv 2))))))
  k_go
  refine bj rfl ?_
  k_go
  refine bj rfl ?_
  k_go
  refine eV fun d H0 s0 n0 h0=>?_
  have ha0:=s0 _ _ ha
  k_go
  refine kT ha0 fun ob=>?_
  have nda:d≠a:=Ne.symm (ak ha n0)
  have fz:upd H0 a (.frz ob (.dK (kvI h1))) a=some (.frz ob (.dK (kvI h1))):=ah
  have fb:upd H0 a (.frz ob (.dK (kvI h1))) b=some (.dK (kvI h2)):=by rw [aA (Ne.symm hab)];exact s0 _ _ hb
  have fd:upd H0 a (.frz ob (.dK (kvI h1))) d=some (.dK (kvI [])):=by rw [aA nda];exact h0
  have fk:Kept [a] H (upd H0 a (.frz ob (.dK (kvI h1)))):=(Kept.of s0).trans (.put (by simp))
  generalize upd H0 a (.frz ob (.dK (kvI h1)))=HF at fz fb fd fk
  have nbd:b≠d:=ak hb n0
  refine aL wk_keys (fun i σ HB=>∃ (v3:Option V),σ=[some (.ref a),some (.ref b),some (.ref d),v3]∧Kept [d] HF HB∧HB d=some (.dK (kvI ((h1.take i).filter fun p=>decide (lk h2 p.1=some p.2))))) ⟨_,rfl,.refl,fd⟩ (by rintro _ _ _ _ ⟨_,_,z,_⟩;exact z _ _ fz (by simpa using Ne.symm nda)) ?_ ?_
  ·rintro _ i _ σ _ y HB hi ⟨v3,rfl,kB,hdB⟩ ⟨rfl,hy⟩
   obtain ⟨q1,hq,rfl⟩:=keyI hy
   have fzB:=kB _ _ fz (by simpa using Ne.symm nda)
   have fbB:=kB _ _ fb (by simpa using nbd)
   have okT:=(qA ok1 i).fil fun p=>decide (lk h2 p.1=some p.2)
   have eS:=jD ok1 hq fun p=>decide (lk h2 p.1=some p.2)
   k_go
   refine oP fbB ?_
   rw [aX]
   k_go
   cases e2:lk h2 q1.1 with
   | none =>
    refine bj rfl ?_
    k_go
    refine ⟨_,rfl,kB,?_⟩
    rw [eS,xCf (by rw [e2];simp)]
    exact hdB
   | some v2 =>
    refine ka rfl ?_
    k_go
    refine iD (.inr ⟨ob,fzB⟩) (by rw [aX,qB ok1 hq];rfl) ?_
    k_go
    refine bB fbB (by rw [aX,e2];rfl) ?_
    k_go
    refine ba (fun z=>?_) (fun z=>?_)
    ·have zz:=xBe z
     k_go
     refine iD (.inr ⟨ob,fzB⟩) (by rw [aX,qB ok1 hq];rfl) ?_
     k_go
     refine cJ hdB (gw okT) ?_
     k_go
     refine ⟨_,rfl,kB.trans (.put (by simp)),?_⟩
     rw [ah,dh,eS,xCg (xBd (by rw [e2,zz]))]
    ·have zz:=xBf z
     k_go
     refine ⟨_,rfl,kB,?_⟩
     rw [eS,xCf (by rw [e2];simpa using fun y=>zz y.symm)]
     exact hdB
  ·rintro σ HB ⟨v3,rfl,kB,hdB⟩
   rw [eL,xAu] at hdB
   k_go
   exact q d HB (fun c o e hc=>kB c o (fk c o e hc) (by rw [xAm];exact ak e n0)) n0 hdB
end
section
variable {P:Program} {w:World} {K:xFr} {mg:Str→Option Value} {base:Heap}
def spHolds:Sp:=fun vs H Q _=>∃ (la sd hd:Addr) (as:List Atom) (M h:List (Int×Int)),vs=[.ref la,.ref sd,.ref hd]∧LD H la (as.map Atom.d)∧H sd=some (.dK (kvI M))∧Rd H hd (.dK (kvI h))∧(∀ k,Atom.nm k∈as→k∈ky M∧lk h (look M k)=some k)∧Q (.bl true) H
def gholds:Scope:={ kind:=.function,names:=[("_law_atoms_here",.local),("_law_slots",.local),("_law_holds_here",.local),("_law_word",.local),("_law_name",.local)],isGenerator:=false,isCoroutine:=false,more:=[] }
theorem scholds:FnScope ["_law_atoms_here","_law_slots","_law_holds_here","_law_word","_law_name"] ["_law_atoms_here","_law_slots","_law_holds_here"] gholds:=⟨rfl,rfl,rfl,by decide +kernel,rfl,by decide +kernel,by decide +kernel⟩
theorem pP (F:Dn K mg "_law_holds" sHolds ["_law_atoms_here","_law_slots","_law_holds_here"]) (T:Txt K mg):Cal P w K mg base "_law_holds" 1 ["_law_atoms_here","_law_slots","_law_holds_here"] spHolds:=by
 refine F.ok scholds rfl (fun vs H Q E h=>?_) (fun f cdv A outer s H vs Q E hr h=>?_)
 ·obtain ⟨la,sd,hd,as,M,h,rfl,_⟩:=h
  rfl
 ·obtain ⟨la,sd,hd,as,M,h,rfl,⟨ws,hl,hw⟩,hsd,hhd,hk,q⟩:=h
  have hu:=bJ hr
  refine' ⟨?tt,QSs.h ?hh,?gg⟩
  case hh=>exact (ab (aR PassesOwn.never rfl (aP (qv 0)) (a8 rfl (ay (am (i:=3) scholds.nd rfl (Or.inl rfl)) (ay (am (i:=4) scholds.nd rfl (Or.inl rfl)) a7)))
    (ag (aE (QW.pt (eW (ap aM (qv 3) aj (nomark _)) (dI (ap pH (rR hu (qv 2) (aG hu (qv 1) (qv 4))) (qv 4) (nomark _))))) (ag (ao fA)) ar)))
   (ag (ao fA)))
  k_go
  refine aL (aS (xs:=ws)) (fun i σ HB=>∃ (v3 v4:Option V),σ=[some (.ref la),some (.ref sd),some (.ref hd),v3,v4]∧HB=H) ⟨_,_,rfl,rfl⟩ (by rintro _ _ _ _ ⟨_,_,_,z⟩;rw [z];exact .of hl) ?_ ?_
  ·rintro _ i _ σ _ y HB hi ⟨v3,v4,rfl,e⟩ ⟨rfl,hy⟩
   subst e
   obtain ⟨at',hat,hra⟩:=hw.mapGet' hy
   obtain ⟨pa,wd,n,rfl,hpa,hcase⟩:=Atom.inv hra
   k_go
   rcases hcase with ⟨rfl,rfl⟩ | ⟨rfl,rfl⟩
   ·k_go
    exact ⟨_,_,rfl,rfl⟩
   ·obtain ⟨k1,k2⟩:=hk n (xAc hat)
    k_go
    refine vp hhd ?_
    k_go
    refine bB hsd (by rw [aX,bX k1];rfl) ?_
    refine vl hhd (by rw [aX,k2];rfl) ?_
    k_go
    refine bj (by simp) ?_
    k_go
    exact ⟨_,_,rfl,rfl⟩
  ·rintro σ HB ⟨v3,v4,rfl,e⟩
   subst e
   k_go
   exact q
end
section
variable {P:Program} {w:World} {K:xFr} {mg:Str→Option Value} {base:Heap}
def spBegun:Sp:=fun vs H Q _=>∃ (pn sd hd:Addr) (ns:List Int) (M h:List (Int×Int)),vs=[.ref pn,.ref sd,.ref hd]∧(H pn=some (.lst (ns.map V.int))∨H pn=some (.tup (ns.map V.int)))∧H sd=some (.dK (kvI M))∧Rd H hd (.dK (kvI h))∧HdOk h∧vb M∧(∀ n∈ns,n∈ky M)∧∀ (d:Addr) (H':Hp),Same H H'→H d=none→H' d=some (.dK (kvI (bgn (look M) h ns)))→Q (.ref d) H'
def gbegun:Scope:={ kind:=.function,names:=[("_law_names",.local),("_law_slots",.local),("_law_holds_here",.local),("_law_found",.local),("_law_name",.local),("dict",.globalImplicit)],isGenerator:=false,isCoroutine:=false,more:=[] }
theorem scbegun:FnScope ["_law_names","_law_slots","_law_holds_here","_law_found","_law_name"] ["_law_names","_law_slots","_law_holds_here"] gbegun:=⟨rfl,rfl,rfl,by decide +kernel,rfl,by decide +kernel,by decide +kernel⟩
theorem pQ (F:Dn K mg "_law_begun" sBegun ["_law_names","_law_slots","_law_holds_here"]) (T:Txt K mg):Cal P w K mg base "_law_begun" 1 ["_law_names","_law_slots","_law_holds_here"] spBegun:=by
 refine F.ok scbegun rfl (fun vs H Q E h=>?_) (fun f cdv A outer s H vs Q E hr h=>?_)
 ·obtain ⟨pn,sd,hd,ns,M,h,rfl,_⟩:=h
  rfl
 ·obtain ⟨pn,sd,hd,ns,M,h,rfl,hpn,hsd,hhd,okh,vm,hk,q⟩:=h
  have hu:=bJ hr
  refine' ⟨?tt,QSs.h ?hh,?gg⟩
  case hh=>exact (ab (aD (i:=3) scbegun.nd rfl (Or.inl rfl) (aU jL rfl T.zdict qY (ae (qv 2) aa)))
   (ab (aR PassesOwn.never rfl (rP (qv 0)) (am (i:=4) scbegun.nd rfl (Or.inl rfl))
    (ag (bc hu (qv 3) (aG hu (qv 1) (qv 4)) (qv 4))))
   (ag (ao (qv 3)))))
  k_go
  refine kU hhd fun d H0 s0 n0 h0=>?_
  k_go
  rcases hpn with hpn | hpn
  ·refine oK (s0 _ _ hpn) ?_
   refine aL (aS (xs:=ns.map V.int)) (fun j σ HB=>∃ (v4:Option V),σ=[some (.ref pn),some (.ref sd),some (.ref hd),some (.ref d),v4]∧Same H HB∧HB d=some (.dK (kvI (bgn (look M) h (ns.take j))))) ⟨_,rfl,s0,h0⟩ (by rintro _ _ _ _ ⟨_,_,z,_⟩;exact .of (z _ _ hpn)) ?_ ?_
   ·rintro _ j _ σ _ y HB hj ⟨v4,rfl,tB,hdB⟩ ⟨rfl,hy⟩
    rw [xAw] at hy
    obtain ⟨n,hn,rfl⟩:=xA3.mp hy
    have okB:=fj (cQ vm) (ns.take j) okh
    have eS:bgn (look M) h (ns.take (j+1))=pt (bgn (look M) h (ns.take j)) (look M n) n:=by rw [aK hn,bgn,xBg];rfl
    k_go
    refine bB (tB _ _ hsd) (by rw [aX,bX (hk n (xAc hn))];rfl) ?_
    refine cJ hdB (gw okB) ?_
    k_go
    exact ⟨_,rfl,tB.upd_new n0,by rw [eS,ah,dh]⟩
   ·rintro σ HB ⟨v4,rfl,tB,hdB⟩
    rw [xAa,xAu] at hdB
    k_go
    exact q d HB tB n0 hdB
  ·refine oJ (s0 _ _ hpn) ?_
   refine aL (bG (xs:=ns.map V.int)) (fun j σ HB=>∃ (v4:Option V),σ=[some (.ref pn),some (.ref sd),some (.ref hd),some (.ref d),v4]∧Same H HB∧HB d=some (.dK (kvI (bgn (look M) h (ns.take j))))) ⟨_,rfl,s0,h0⟩ (by rintro _ _ _ _ ⟨_,_,z,_⟩;exact .of (z _ _ hpn)) ?_ ?_
   ·rintro _ j _ σ _ y HB hj ⟨v4,rfl,tB,hdB⟩ ⟨rfl,hy⟩
    rw [xAw] at hy
    obtain ⟨n,hn,rfl⟩:=xA3.mp hy
    have okB:=fj (cQ vm) (ns.take j) okh
    have eS:bgn (look M) h (ns.take (j+1))=pt (bgn (look M) h (ns.take j)) (look M n) n:=by rw [aK hn,bgn,xBg];rfl
    k_go
    refine bB (tB _ _ hsd) (by rw [aX,bX (hk n (xAc hn))];rfl) ?_
    refine cJ hdB (gw okB) ?_
    k_go
    exact ⟨_,rfl,tB.upd_new n0,by rw [eS,ah,dh]⟩
   ·rintro σ HB ⟨v4,rfl,tB,hdB⟩
    rw [xAa,xAu] at hdB
    k_go
    exact q d HB tB n0 hdB
end
section
variable {P:Program} {w:World} {K:xFr} {mg:Str→Option Value} {base:Heap}
theorem iC {H H':Hp} {a:Addr} {u:HO} (h:Rd H a u) (s:Same H H'):Rd H' a u:=h.imp (fun z=>s _ _ z) fun ⟨o,z⟩=>⟨o,s _ _ z⟩
structure WCx (M:List (Int×Int)) (N:Nat) (b:Bdy) (ts:List Int) (bh:Int→Prop):Prop where
 ro:∃ path,∀ q∈stn N path b ts bh,RowOk (look M) q
 sc:Scp ts b
 bb:BB b
 nf:NF b
 gn:b.gl.Nodup
 kt:∀ k∈ts,k∈ky M
 kg:∀ k∈b.gl,k∈ky M
 cn:b.cnt≤N
structure ACx (M:List (Int×Int)) (N:Nat) (s:Stp) (ts:List Int) (la:Int→Prop):Prop where
 ro:RowOk (look M) ⟨[],s,ts,la⟩
 wc:∀ j x,s.inn[j]?=some x→WCx M N x.2 (ts++x.1) (fun k=>la k∨Cgt s j k)
 kx:∀ x∈s.inn,∀ n∈x.1,n∈ky M
def Lv (M h:List (Int×Int)) (ts:List Int) (P:Int→Prop):Prop:=∀ k∈ts,P k→lk h (look M k)=some k
def spWalk (N:Nat):Sp:=fun vs H Q _=>∃ (v:V) (sd hd:Addr) (b:Bdy) (M h:List (Int×Int)) (ts:List Int) (bh:Int→Prop),vs=[v,.ref sd,.ref hd]∧Rp H b.d v∧H sd=some (.dK (kvI M))∧Rd H hd (.dK (kvI h))∧HdOk h∧vb M∧WCx M N b ts bh∧Lv M h ts (fun k=>Men b k∨bh k) ∧
 ∀ (d:Addr) (H':Hp) (h':List (Int×Int)),Same H H'→H d=none→H' d=some (.dK (kvI h'))→HdOk h'→Lv M h' ts bh→Q (.ref d) H'
def spArms (N:Nat):Sp:=fun vs H Q _=>∃ (v:V) (sd hd:Addr) (s:Stp) (M h:List (Int×Int)) (ts:List Int) (la:Int→Prop),vs=[v,.ref sd,.ref hd]∧Rp H s.d v∧H sd=some (.dK (kvI M))∧H hd=some (.dK (kvI h))∧sd≠hd∧HdOk h∧vb M∧(Stp.word s="if"∨Stp.word s="match"∨Stp.word s="try")∧ACx M N s ts la∧Lv M h ts (fun k=>MenS s k∨la k) ∧
 ∀ (d:Addr) (H':Hp) (h':List (Int×Int)),Kept [hd] H H'→H d=none→H' d=some (.dK (kvI h'))→HdOk h'→Lv M h' ts la→Q (.ref d) H'
theorem yG {s:Stp} (h:Stp.word s="if"):∃ to a y n pl,s = .iff to a y n pl:=by
 cases s <;> first | exact ⟨_,_,_,_,_,rfl⟩ | exact absurd h (by simp only [Stp.word];decide +kernel)
theorem iQ {M h1 h2:List (Int×Int)} {ts ts1 ts2:List Int} {la P1 P2:Int→Prop} (ok:HdOk h1) (l1:Lv M h1 ts1 P1) (l2:Lv M h2 ts2 P2) (e1:∀ k∈ts,la k→k∈ts1∧P1 k) (e2:∀ k∈ts,la k→k∈ts2∧P2 k):Lv M (h1.filter fun p=>decide (lk h2 p.1=some p.2)) ts la :=
 fun k hk hl=>qH ok (l1 k (e1 k hk hl).1 (e1 k hk hl).2) (xBd (l2 k (e2 k hk hl).1 (e2 k hk hl).2))
def garms:Scope:={ kind:=.function,names:=[("_law_step_here",.local),("_law_slots",.cell),("_law_holds_here",.local),("_law_yes",.cell),("_law_spoilt",.local),("_law_rest",.local),("_law_slot",.local),("_law_other",.local),("_law_both",.globalImplicit),("_law_walk",.globalImplicit),("_law_begun",.globalImplicit),("_law_given",.globalImplicit)],isGenerator:=false,isCoroutine:=false,more:=[("fast",.str "_law_step_here"),("fast",.str "_law_slots"),("fast",.str "_law_holds_here"),("fast",.str "_law_yes"),("fast",.str "_law_name"),("fast",.str "_law_spoilt"),("fast",.str "_law_rest"),("fast",.str "_law_slot"),("fast",.str "_law_other")] }
theorem scarms:FnScope ["_law_step_here","_law_slots","_law_holds_here","_law_yes","_law_spoilt","_law_rest","_law_slot","_law_other"] ["_law_step_here","_law_slots","_law_holds_here"] garms:=⟨rfl,rfl,rfl,by decide +kernel,rfl,by decide +kernel,by decide +kernel⟩
theorem sW (F:Dn K mg "_law_arms" sArms ["_law_step_here","_law_slots","_law_holds_here"]) (T:Txt K mg) {N:Nat} (c__law_both:Cal P w K mg base "_law_both" 1 ["_law_one","_law_other"] spBth) (c__law_begun:Cal P w K mg base "_law_begun" 1 ["_law_names","_law_slots","_law_holds_here"] spBegun) (c__law_given:Cal P w K mg base "_law_given" (N+1) ["_law_body_here"] (spGvn N)) (c__law_walk:Cal P w K mg base "_law_walk" (2 * N+2) ["_law_body_here","_law_slots","_law_holds_here"] (spWalk N)):Cal P w K mg base "_law_arms" (2 * N+3) ["_law_step_here","_law_slots","_law_holds_here"] (spArms N):=by
 refine F.ok scarms rfl (fun vs H Q E h=>?_) (fun f cdv A outer s H vs Q E hr h=>?_)
 ·obtain ⟨v,sd,hd,s,M,h,ts,la,rfl,_⟩:=h
  rfl
 ·obtain ⟨v,sd,hd,st,M,h,ts,la,rfl,hv,hsd,hhd,nsd,okh,vm,hw,ax,lv,q⟩:=h
  have hu:=bJ hr
  have hu0:=hr.units0
  refine' ⟨?tt,QSs.h ?hh,?gg⟩
  case hh=>exact (ab (aE (ap aM (au ai (qv 0) af) aj (nomark _)) (ag (ao (av c__law_both hr rfl (ae (av c__law_walk hr rfl (ae (au ai (qv 0) af) (ae (qv 1) (ae (qv 2) aa)))) (ae (av c__law_walk hr rfl (ae (au ai (qv 0) af) (ae (qv 1) (ae (qv 2) aa)))) aa))))) ar)
   (ab (aE (ap aM (au ai (qv 0) af) aj (nomark _)) (ab (aD (i:=3) scarms.nd rfl (Or.inr rfl) (av c__law_begun hr rfl (ae (au ai (qv 0) af) (ae (qv 1) (ae (qv 2) aa)))))
   (ab (aE (bH (fN hu0 (bM (ls:=["_law_name"]) (N:=["_law_yes","_law_slots"]) (fr:=[3,1]) rfl (CapsG.mk' rfl (by decide +kernel) rfl (by decide +kernel) (.cons ⟨⟨_,rfl,rfl⟩,rfl,rfl,rfl⟩ (.cons ⟨⟨_,rfl,rfl⟩,rfl,rfl,rfl⟩ .nil)) (by decide +kernel) rfl) (bw (au ai (qv 0) af)) (fun C s H fp=>(am (i:=0) (show (["_law_name","_law_yes","_law_slots"]:List Str).Nodup by decide +kernel) rfl (Or.inl rfl))) (fun C s H fp=>(cK (ap pH (aG hu (qv 1) (aG hu (qv 2) (qv 0))) (qv 0) (nomark _)))) (fun C s H fp=>(qv 0))))) (ag (ao de)) ar)
   (ag (ao (av c__law_both hr rfl (ae (av c__law_walk hr rfl (ae (au ai (qv 0) af) (ae (qv 1) (ae (qv 3) aa)))) (ae (av c__law_walk hr rfl (ae (au ai (qv 0) af) (ae (qv 1) (ae (qv 2) aa)))) aa))))))) ar)
   (ab (dv (i:=4) scarms.nd rfl rfl (ls:=["_law_name"]) (N:=["_law_slots"]) (fr:=[1]) rfl (CapsG.mk' rfl (by decide +kernel) rfl (by decide +kernel) (.cons ⟨⟨_,rfl,rfl⟩,rfl,rfl,rfl⟩ .nil) (by decide +kernel) rfl) (aP (av c__law_given hr rfl (ae (au ai (qv 0) af) aa))) (fun C s H fp=>(am (i:=0) (show (["_law_name","_law_slots"]:List Str).Nodup by decide +kernel) rfl (Or.inl rfl))) (fun C s H fp=>bN) (fun C s H fp=>(aG hu (qv 1) (qv 0))))
   (ab (aD (i:=5) scarms.nd rfl (Or.inl rfl) c7)
   (ab (aR PassesOwn.never rfl (kZ (qv 2)) (am (i:=6) scarms.nd rfl (Or.inl rfl))
    (ag (aE (ap gN (qv 6) (qv 4) rfl) (ag (bc hu (qv 5) (qv 6) (aG hu (qv 2) (qv 6)))) ar)))
   (ab (aD (i:=7) scarms.nd rfl (Or.inl rfl) (av c__law_begun hr rfl (ae (aH (ae (au ai (qv 0) af) aa)) (ae (qv 1) (ae (qv 5) aa)))))
   (ag (ao (av c__law_both hr rfl (ae (av c__law_walk hr rfl (ae (au ai (qv 0) af) (ae (qv 1) (ae (qv 2) aa)))) (ae (av c__law_walk hr rfl (ae (au ai (qv 0) af) (ae (qv 1) (ae (qv 7) aa)))) aa)))))))))))
  rcases hw with zw | zw | zw
  ·obtain ⟨to,a,y,n,pl,rfl⟩:=yG zw
   obtain ⟨p',va',vy,vn,e',hp',ha',hy',hn'⟩:=gu hv
   cases e'
   have kH:∀ c oc,H c=some oc→c ∉ [hd]→H c=some oc:=fun c oc e _=>e
   have nd0:∀ {d:Addr},H d=none→H d=none:=fun e=>e
   k_go
   refine ⟨vy,sd,hd,y,M,h,(ts++[]),_,rfl,hy',hsd,(.inl hhd),okh,vm,ax.wc 0 _ rfl,(fun k hk hp=>lv k (by simpa using hk) (hp.elim (fun z=>.inl (.inr ⟨([],y),by simp [Stp.inn],z⟩)) fun z=>z.elim .inr fun w=>False.elim w)),fun d1 Hd1 h1 s1 n1 hd1' okd1 lvd1=>?_⟩
   have hp1:=s1 _ _ hp'
   k_go
   refine ⟨vn,sd,hd,n,M,h,(ts++[]),_,rfl,(hn').mono s1,s1 _ _ hsd,iC (.inl hhd) s1,okh,vm,ax.wc 1 _ rfl,(fun k hk hp=>lv k (by simpa using hk) (hp.elim (fun z=>.inl (.inr ⟨([],n),by simp [Stp.inn],z⟩)) fun z=>z.elim .inr fun w=>False.elim w)),fun d2 Hd2 h2 s2 n2 hd2' okd2 lvd2=>?_⟩
   k_go
   refine ⟨d1,d2,h1,h2,rfl,s2 _ _ hd1',hd2',ak hd1' n2,okd1,fun d H' kd nd hd'=>?_⟩
   refine q d H' _ (fun c oc ec hc=>?_) (nd0 (s1.free (s2.free nd))) hd' (okd1.fil _) (iQ okd1 lvd1 lvd2 (fun k hk hl=>⟨by simpa using hk,.inl hl⟩) (fun k hk hl=>⟨by simpa using hk,.inl hl⟩))
   have z1:=kH c oc ec hc
   exact kd c oc (s2 _ _ (s1 _ _ z1)) (by rw [xAm];exact ak z1 n1)
  ·obtain ⟨to,a,tag,xs,y,n,pl,rfl⟩:=yd zw
   obtain ⟨p',va',vx,vy,vn,e',hp',ha',hx',hy',hn'⟩:=dJ hv
   cases e'
   obtain ⟨qx,rfl,hqx⟩:=aY (show Rp H (intsD xs) vx from hx')
   obtain ⟨ro1,ro2⟩:=ax.ro.inn (xs,y) (by simp [Stp.inn])
   have kx:∀ n∈xs,n∈ky M:=ax.kx (xs,y) (by simp [Stp.inn])
   k_go
   refine ⟨qx,sd,hd,xs,M,h,rfl,.inr hqx,hsd,.inl hhd,okh,vm,kx,fun dy Hy sy ny hy=>?_⟩
   have hpy:=sy _ _ hp'
   have hqy:=sy _ _ hqx
   have hsy:=sy _ _ hsd
   k_go
   refine bS (bG (xs:=xs.map V.int)) (fun B i ys H2=>H2 B=some (.lst ys)∧Same Hy H2∧Hy B=none∧ys=[]) (fun B hB=>⟨ah,aw hB _,hB,rfl⟩) ?_ ?_ ?_
   ·rintro B i ys H2 hi ⟨h1,h2,h3,rfl⟩
    exact ⟨h1,lineM (by decide),.of (h2 _ _ hqy)⟩
   ·rintro B i ys _ x H2 hi ⟨h1,h2,h3,rfl⟩ ⟨rfl,hx⟩
    rw [xAw] at hx
    obtain ⟨k,hk,rfl⟩:=xA3.mp hx
    have hkm:=xAc hk
    k_go
    refine ⟨rfl,rfl,?_⟩
    k_go
    refine bB (h2 _ _ hsy) (by rw [aX,bX (kx k hkm)];rfl) ?_
    refine bB (h2 _ _ hy) (by rw [aX,gH ro2 k hkm];rfl) ?_
    k_go
    refine ⟨h1,bj (by simp) ⟨h1,h2,h3,rfl⟩⟩
   rintro B ys H2 ⟨h1,h2,h3,rfl⟩
   have uy:=sy.trans h2
   k_go
   have okb:=fj (cQ vm) xs okh
   have kH:∀ c oc,H c=some oc→c ∉ [hd]→H2 c=some oc:=fun c oc e _=>uy c oc e
   have nd0:∀ {d:Addr},H2 d=none→H d=none:=fun e=>uy.free e
   have hp2:=uy _ _ hp'
   have lvY:Lv M (bgn (look M) h xs) (ts++xs) (fun k=>Men y k∨la k∨Cgt (Stp.mtch to a tag xs y n pl) 0 k):=by
    intro k hk hp
    have hp3:Men y k∨la k:=hp.imp id fun z=>z.elim id fun w=>False.elim w
    rcases xAj.mp hk with hk | hk
    ·rw [i8 fun n hn=>ro1 n hn k hk hp3]
     exact lv k hk (hp3.imp (fun z=>.inr ⟨(xs,y),by simp [Stp.inn],z⟩) id)
    ·exact gH ro2 k hk
   k_go
   refine ⟨vy,sd,dy,y,M,_,(ts++xs),_,rfl,(hy'.mono uy),(uy _ _ hsd),(.inl (h2 _ _ hy)),okb,vm,ax.wc 0 _ rfl,lvY,fun d1 Hd1 h1 s1 n1 hd1' okd1 lvd1=>?_⟩
   have hp1:=s1 _ _ hp2
   k_go
   refine ⟨vn,sd,hd,n,M,h,(ts++[]),_,rfl,(hn'.mono uy).mono s1,s1 _ _ (uy _ _ hsd),iC (.inl (uy _ _ hhd)) s1,okh,vm,ax.wc 1 _ rfl,(fun k hk hp=>lv k (by simpa using hk) (hp.elim (fun z=>.inl (.inr ⟨([],n),by simp [Stp.inn],z⟩)) fun z=>z.elim .inr fun w=>False.elim w)),fun d2 Hd2 h2 s2 n2 hd2' okd2 lvd2=>?_⟩
   k_go
   refine ⟨d1,d2,h1,h2,rfl,s2 _ _ hd1',hd2',ak hd1' n2,okd1,fun d H' kd nd hd'=>?_⟩
   refine q d H' _ (fun c oc ec hc=>?_) (nd0 (s1.free (s2.free nd))) hd' (okd1.fil _) (iQ okd1 lvd1 lvd2 (fun k hk hl=>⟨xBw _ hk,.inl hl⟩) (fun k hk hl=>⟨by simpa using hk,.inl hl⟩))
   have z1:=kH c oc ec hc
   exact kd c oc (s2 _ _ (s1 _ _ z1)) (by rw [xAm];exact ak z1 n1)
  ·obtain ⟨to,one,w',x0,other,pl,rfl⟩:=wT zw
   obtain ⟨p',v1,v2,e',hp',h1',h2'⟩:=dX hv
   cases e'
   obtain ⟨ro1,ro2⟩:=ax.ro.inn ([x0],other) (by simp [Stp.inn])
   have w0:=ax.wc 0 ([],one) rfl
   obtain ⟨pth,roW⟩:=w0.ro
   have avoid:=gR N w0.cn roW
   have kx:∀ n∈[x0],n∈ky M:=ax.kx ([x0],other) (by simp [Stp.inn])
   k_go
   refine ⟨v1,one,rfl,h1',w0.cn,w0.bb,w0.nf,w0.gn,fun lg Hg us sg ng hg pg=>?_⟩
   have lus:=pg.length_eq
   have lg211:one.gl.length≤211:=iX w0.bb w0.gn
   have hds:∀ k∈us,k∈ky M:=fun k hk=>w0.kg k (pg.mem_iff.mp hk)
   have hsg:=sg _ _ hsd
   have hpg:=sg _ _ hp'
   k_go
   refine bS (aS (xs:=us.map V.int)) (fun B i ys H2=>H2 B=some (.lst ys)∧Same Hg H2∧Hg B=none∧ys=((us.take i).map (look M)).map V.int) (fun B hB=>⟨ah,aw hB _,hB,rfl⟩) ?_ ?_ ?_
   ·rintro B i ys H2 hi ⟨h1,h2,h3,rfl⟩
    exact ⟨h1,by rw [xAa,xAa,xAn];exact lineM (by lia),.of (h2 _ _ hg)⟩
   ·rintro B i ys _ x H2 hi ⟨h1,h2,h3,rfl⟩ ⟨rfl,hx⟩
    rw [xAw] at hx
    obtain ⟨k,hk,rfl⟩:=xA3.mp hx
    k_go
    refine ⟨rfl,rfl,?_⟩
    k_go
    refine ⟨h1,?_⟩
    k_go
    refine bB (h2 _ _ hsg) (by rw [aX,bX (hds k (xAc hk))];rfl) ?_
    refine ⟨h1,ah,h2.upd_new h3,h3,?_⟩
    rw [aK hk,xAi,xAi]
    rfl
   rintro B ys H2 ⟨f1,f2,f3,rfl⟩
   rw [xAa,xAu] at f1
   have u2:=sg.trans f2
   have hh2:=u2 _ _ hhd
   k_go
   refine eV fun d H3 s3 n3 h3=>?_
   have hh3:=s3 _ _ hh2
   k_go
   refine kT hh3 fun ob=>?_
   have ndh:d≠hd:=Ne.symm (ak hh2 n3)
   have u3:=u2.trans s3
   have fz:upd H3 hd (.frz ob (.dK (kvI h))) hd=some (.frz ob (.dK (kvI h))):=ah
   have fB:upd H3 hd (.frz ob (.dK (kvI h))) B=some (.lst ((us.map (look M)).map V.int)):=by rw [aA (fun z=>by rw [z,hh2] at f1;cases f1)];exact s3 _ _ f1
   have fd:upd H3 hd (.frz ob (.dK (kvI h))) d=some (.dK (kvI [])):=by rw [aA ndh];exact h3
   have fs:upd H3 hd (.frz ob (.dK (kvI h))) sd=some (.dK (kvI M)):=by rw [aA nsd];exact u3 _ _ hsd
   have fk:Kept [hd] H (upd H3 hd (.frz ob (.dK (kvI h)))):=(Kept.of u3).trans (.put (by simp))
   have ft:TLe H3 (upd H3 hd (.frz ob (.dK (kvI h)))):=.upd fun xs z=>by rw [hh3] at z;cases z
   have tF:=(TLe.of u3).trans ft
   have nF:H d=none:=u2.free n3
   generalize upd H3 hd (.frz ob (.dK (kvI h)))=HF at fz fB fd fs fk tF
   have nBd:B≠d:=fun z=>by rw [z] at f1;rw [f1] at n3;cases n3
   have nsdd:sd≠d:=ak hsd nF
   refine aL wk_keys (fun i σ HB=>∃ (v6:Option V),σ=[some (.ref p'),some (.ref sd),some (.ref hd),none,some (.ref B),some (.ref d),v6,none]∧Kept [d] HF HB∧HB d=some (.dK (kvI ((h.take i).filter fun p=>!decide (p.1∈us.map (look M)))))) ⟨_,rfl,.refl,fd⟩ (by rintro _ _ _ _ ⟨_,_,z,_⟩;exact z _ _ fz (by simpa using Ne.symm ndh)) ?_ ?_
   ·rintro _ i _ σ _ y HB hi ⟨v6,rfl,kB,hdB⟩ ⟨rfl,hy⟩
    obtain ⟨q1,hq,rfl⟩:=keyI hy
    have fzB:=kB _ _ fz (by simpa using Ne.symm ndh)
    have fBB:=kB _ _ fB (by simpa using nBd)
    have okT:=(qA okh i).fil fun p=>!decide (p.1∈us.map (look M))
    have eS:=jD okh hq fun p=>!decide (p.1∈us.map (look M))
    k_go
    refine uW fBB rfl dL ?_
    k_go
    refine ba (fun z=>?_) (fun z=>?_)
    ·have zn:q1.1 ∉ us.map (look M):=fun w=>by rw [bT.mpr w] at z;cases z
     k_go
     refine iD (.inr ⟨ob,fzB⟩) (by rw [aX,qB okh hq];rfl) ?_
     k_go
     refine cJ hdB (gw okT) ?_
     k_go
     refine ⟨_,rfl,kB.trans (.put (by simp)),?_⟩
     rw [ah,dh,eS,xCg (by simpa using zn)]
    ·have zn:q1.1∈us.map (look M):=bT.mp (by cases e:inV (.int q1.1) ((us.map (look M)).map V.int) with
      | true=>rfl
      | false=>rw [e] at z;cases z)
     k_go
     refine ⟨_,rfl,kB,?_⟩
     rw [eS,xCf (by simpa using zn)]
     exact hdB
   ·rintro σ HB ⟨v6,rfl,kB,hdB⟩
    rw [eL,xAu] at hdB
    have okR:=okh.fil fun p=>!decide (p.1∈us.map (look M))
    have ntd:NoT [d] HF:=fun c hc xs z=>by rw [xAm.mp hc,fd] at z;cases z
    have tB:=tF.trans (kB.tle ntd)
    have hpB:=tB _ _ hp'
    have hsB:=kB _ _ fs (by simpa using nsdd)
    have fzB:=kB _ _ fz (by simpa using Ne.symm ndh)
    k_go
    refine aq fun l4 H4 s4 n4 h4=>?_
    k_go
    refine ⟨l4,sd,d,[x0],M,_,rfl,.inl h4,s4 _ _ hsB,.inl (s4 _ _ hdB),okR,vm,kx,fun do' H5 s5 n5 h5=>?_⟩
    have u5:=s4.trans s5
    have okO:=fj (cQ vm) [x0] okR
    have kH:∀ c oc,H c=some oc→c ∉ [hd]→H5 c=some oc:=fun c oc e hc=>u5 _ _ (kB c oc (fk c oc e hc) (by rw [xAm];exact ak e nF))
    have hd5:=u5 _ _ fzB
    have nd0:∀ {d':Addr},H5 d'=none→H d'=none:=fun {d'} e=>by
     cases z:H d' with
     | none=>rfl
     | some oc =>
      by_cases y:d'=hd
      ·rw [y,hd5] at e;cases e
      ·rw [kH d' oc z (by simpa using y)] at e;cases e
    have hp5:=u5 _ _ hpB
    have t5:=tB.trans (.of u5)
    have lvO:Lv M (bgn (look M) (h.filter fun p=>!decide (p.1∈us.map (look M))) [x0]) (ts++[x0]) (fun k=>Men other k∨la k∨Cgt (Stp.tri to one w' x0 other pl) 1 k):=by
     intro k hk hp
     have hp3:Men other k∨la k:=by
      rcases hp with z | z | z
      ·exact .inl z
      ·exact .inr z
      ·exact absurd z.1 (by decide)
     rcases xAj.mp hk with hk | hk
     ·rw [i8 fun n hn=>ro1 n hn k hk hp3]
      refine qH okh (lv k hk (hp3.imp (fun z=>.inr ⟨([x0],other),by simp [Stp.inn],z⟩) id)) ?_
      simp only [Bool.not_eq_true',decide_eq_false_iff_not]
      intro z
      obtain ⟨n,hn,e⟩:=xA2.mp z
      exact avoid n (pg.mem_iff.mp hn) k (by simpa using hk) (hp3.elim (fun y=>.inr ⟨rfl,y⟩) .inl) e
     ·exact gH ro2 k hk
    k_go
    k_go
    refine ⟨v1,sd,hd,one,M,h,(ts++[]),_,rfl,(h1'.le t5),(u5 _ _ hsB),(.inr ⟨ob,hd5⟩),okh,vm,ax.wc 0 _ rfl,(fun k hk hp=>lv k (by simpa using hk) (hp.elim (fun z=>.inl (.inr ⟨([],one),by simp [Stp.inn],z⟩)) fun z=>z.elim .inr fun w=>.inl (mB w))),fun d1 Hd1 h1 s1 n1 hd1' okd1 lvd1=>?_⟩
    have hp1:=s1 _ _ hp5
    k_go
    refine ⟨v2,sd,do',other,M,_,(ts++[x0]),_,rfl,(h2'.le t5).mono s1,s1 _ _ (u5 _ _ hsB),iC (.inl h5) s1,okO,vm,ax.wc 1 _ rfl,lvO,fun d2 Hd2 h2 s2 n2 hd2' okd2 lvd2=>?_⟩
    k_go
    refine ⟨d1,d2,h1,h2,rfl,s2 _ _ hd1',hd2',ak hd1' n2,okd1,fun d H' kd nd hd'=>?_⟩
    refine q d H' _ (fun c oc ec hc=>?_) (nd0 (s1.free (s2.free nd))) hd' (okd1.fil _) (iQ okd1 lvd1 lvd2 (fun k hk hl=>⟨by simpa using hk,.inl hl⟩) (fun k hk hl=>⟨xBw _ hk,.inl hl⟩))
    have z1:=kH c oc ec hc
    exact kd c oc (s2 _ _ (s1 _ _ z1)) (by rw [xAm];exact ak z1 n1)
end
section
variable {P:Program} {w:World} {K:xFr} {mg:Str→Option Value} {base:Heap}
theorem WCx.row {M:List (Int×Int)} {N:Nat} {b:Bdy} {ts:List Int} {bh:Int→Prop} (w:WCx M (N+1) b ts bh) {i:Nat} {s:Stp} (hs:b.steps[i]?=some s):ACx M N s (thr ts b i) (ltr b bh i):=by
 obtain ⟨path,ro⟩:=w.ro
 have hz:=xAc (dS hs)
 have hm:=xAc hs
 have hrow:(⟨path++[(i:Int)],s,thr ts b i,ltr b bh i⟩:Row)∈stn (N+1) path b ts bh:=by
  rw [aW,xA4]
  exact ⟨(s,i),hz,xAr ..⟩
 have r0:=ro _ hrow
 have gsub:=qE hs
 have kth:∀ k∈thr ts b i,k∈ky M:=fun k hk=>by
  rcases xAj.mp hk with hk | hk
  ·exact w.kt k hk
  ·obtain ⟨t,ht,rfl⟩:=xA2.mp hk
   refine w.kg _ (dY.mpr (Giv.iff.mpr ⟨t,xBj ht,.inl rfl⟩))
 have kx:∀ x∈s.inn,∀ n∈x.1,n∈ky M:=fun x hx n hn=>w.kg n (dY.mpr (Giv.iff.mpr ⟨s,hm,.inr ⟨x,hx,.inl hn⟩⟩))
 refine ⟨⟨r0.to,r0.inn⟩,fun j x hx=>?_,kx⟩
 have hxm:=xAc hx
 refine ⟨⟨path++[(i:Int)]++[(j:Int)],fun q hq=>ro q ?_⟩,w.sc.inn i s hs x hxm,w.bb.inn hm hxm,w.nf.inn s hm x hxm,w.gn.sublist ((ku hx).trans gsub),fun k hk=>?_,fun k hk=>w.kg k (((ku hx).trans gsub).subset hk),?_⟩
 ·rw [aW,xA4]
  exact ⟨(s,i),hz,xAs _ (xA4.mpr ⟨(x,j),xAc (dS hx),hq⟩)⟩
 ·rcases xAj.mp hk with hk | hk
  ·exact kth k hk
  ·exact kx x hxm k hk
 ·have:=cX hm hxm
  have:=w.cn
  lia
theorem word3 {s:Stp} (h:inV (.str (Stp.word s)) [.str "if",.str "match",.str "try"]=true):Stp.word s="if"∨Stp.word s="match"∨Stp.word s="try":=by
 unfold inV at h
 rw [List.any_eq_true] at h
 obtain ⟨x,hx,e⟩:=h
 simp only [xAv,xBv,or_false] at hx
 rcases hx with rfl | rfl | rfl
 ·exact .inl (xBe e).symm
 ·exact .inr (.inl (xBe e).symm)
 ·exact .inr (.inr (xBe e).symm)
def gwalk:Scope:={ kind:=.function,names:=[("_law_body_here",.local),("_law_slots",.local),("_law_holds_here",.local),("_law_here",.local),("_law_step_here",.local),("_law_arms_here",.local),("dict",.globalImplicit),("_law_holds",.globalImplicit),("_law_atoms_of",.globalImplicit),("_law_arms",.globalImplicit)],isGenerator:=false,isCoroutine:=false,more:=[] }
theorem scwalk:FnScope ["_law_body_here","_law_slots","_law_holds_here","_law_here","_law_step_here","_law_arms_here"] ["_law_body_here","_law_slots","_law_holds_here"] gwalk:=⟨rfl,rfl,rfl,by decide +kernel,rfl,by decide +kernel,by decide +kernel⟩
theorem sK (F:Dn K mg "_law_walk" sWalk ["_law_body_here","_law_slots","_law_holds_here"]) (T:Txt K mg) {N:Nat} (c__law_atoms_of:Cal P w K mg base "_law_atoms_of" 1 ["_law_step_here"] spOps) (c__law_holds:Cal P w K mg base "_law_holds" 1 ["_law_atoms_here","_law_slots","_law_holds_here"] spHolds) (c__law_arms:Cal P w K mg base "_law_arms" (2 * N+3) ["_law_step_here","_law_slots","_law_holds_here"] (spArms N)):Cal P w K mg base "_law_walk" (2 * N+4) ["_law_body_here","_law_slots","_law_holds_here"] (spWalk (N+1)):=by
 refine F.ok scwalk rfl (fun vs H Q E h=>?_) (fun f cdv A outer s H vs Q E hr h=>?_)
 ·obtain ⟨v,sd,hd,b,M,h,ts,bh,rfl,_⟩:=h
  rfl
 ·obtain ⟨v,sd,hd,b,M,h,ts,bh,rfl,hv,hsd,hhd,okh,vm,wx,lv,q⟩:=h
  have hu:=bJ hr
  refine' ⟨?tt,QSs.h ?hh,?gg⟩
  case hh=>exact (ab (aD (i:=3) scwalk.nd rfl (Or.inl rfl) (aU jL rfl T.zdict qY (ae (qv 2) aa)))
   (ab (aR PassesOwn.never rfl (bw (au ai (qv 0) af)) (am (i:=4) scwalk.nd rfl (Or.inl rfl))
    (ab (aE (kh (oR (av c__law_holds hr rfl (ae (av c__law_atoms_of hr rfl (ae (qv 4) aa)) (ae (qv 1) (ae (qv 3) aa)))))) (ag (ao de)) ar)
   (ab (aE (bH (dU (au ai (qv 4) af) (ae aj (ae aj (ae aj aa)))) rfl) (ab (aD (i:=5) scwalk.nd rfl (Or.inl rfl) (av c__law_arms hr rfl (ae (qv 4) (ae (qv 1) (ae (qv 3) aa)))))
   (ab (aE (ap ki (qv 5) de (nomark _)) (ag (ao de)) ar)
   (ag (aD (i:=3) scwalk.nd rfl (Or.inl rfl) (qv 5))))) ar)
   (ag (bc hu (qv 3) (aG hu (qv 1) (au ai (qv 4) af)) (au ai (qv 4) af))))))
   (ab (aE (kh (oR (av c__law_holds hr rfl (ae (aH (ae (au ai (qv 0) af) aa)) (ae (qv 1) (ae (qv 3) aa)))))) (ag (ao de)) ar)
   (ag (ao (qv 3))))))
  obtain ⟨p,pw,ws,va,rfl,g1,g2,g3,g4⟩:=hv.body
  have lw:=g3.mapLen
  k_go
  refine kU hhd fun d0 H0 s0 n0 h0=>?_
  have g10:=s0 _ _ g1
  have g20:=s0 _ _ g2
  k_go
  refine aL (bG (xs:=ws)) (fun i σ HB=>∃ (v4 v5:Option V) (d:Addr) (hm:List (Int×Int)),σ=[some (.ref p),some (.ref sd),some (.ref hd),some (.ref d),v4,v5]∧Same H HB∧H d=none∧HB d=some (.dK (kvI hm))∧HdOk hm∧Lv M hm (thr ts b i) (fun k=>Men (Drp b i) k∨bh k)) ⟨_,_,d0,h,rfl,s0,n0,h0,okh,fun k hk hp=>lv k (by simpa [thr] using hk) (by rw [drp0] at hp;exact hp)⟩ (by rintro _ _ _ _ ⟨_,_,_,_,_,z,_⟩;exact .of (z _ _ g2)) ?_ ?_
  ·rintro _ i _ σ _ y HB hi ⟨v4,v5,d,hm,rfl,tB,nd,hdB,okB,lvB⟩ ⟨rfl,hy⟩
   obtain ⟨st,hst,hrs0⟩:=g3.mapGet' hy
   have hmm:=xAc hst
   have ac:=wx.row hst
   have ln:=wx.bb.len.ops hmm
   obtain ⟨ps,rr,rfl,hps0⟩:=inv2 hrs0
   have hrs:=hrs0.mono tB
   have hps:=tB _ _ hps0
   k_go
   refine ⟨.ref ps,st,rfl,hrs,ln,fun la HA sA nA hA=>?_⟩
   have hsA:=sA _ _ (tB _ _ hsd)
   have hdA:=sA _ _ hdB
   have lvS:Lv M hm (thr ts b i) (fun k=>MenS st k∨ltr b bh i k):=fun k hk hp=>lvB k hk (by
    rcases hp with z | z | z
    ·exact .inl ((b9 hst).mpr (.inl z))
    ·exact .inl ((b9 hst).mpr (.inr z))
    ·exact .inr z)
   k_go
   refine ⟨la,sd,d,_,M,hm,rfl,hA,hsA,.inl hdA,fun k hk=>?_,?_⟩
   ·have k1:=wx.sc.op i st hst k hk
    have kk:k∈ky M:=by
     rcases xAj.mp k1 with z | z
     ·exact wx.kt k z
     ·obtain ⟨t,ht,rfl⟩:=xA2.mp z
      exact wx.kg _ (dY.mpr (Giv.iff.mpr ⟨t,xBj ht,.inl rfl⟩))
    exact ⟨kk,lvS k k1 (.inl (.inl hk))⟩
   have uA:=tB.trans sA
   have hpsA:=sA _ _ hps
   have hrsA:=hrs.mono sA
   refine ⟨_,rfl,bj rfl (ke ?_)⟩
   dsimp only
   refine fM (fun σ' H'=>∃ (v5:Option V) (d:Addr) (hm:List (Int×Int)),σ'=[some (.ref p),some (.ref sd),some (.ref hd),some (.ref d),some (.ref ps),v5]∧Same H H'∧H d=none∧H' d=some (.dK (kvI hm))∧HdOk hm∧Lv M hm (thr ts b i) (ltr b bh i)) ?core ?main
   case main =>
    intro core
    k_go
    refine cH hpsA jU ?_
    k_go
    refine ba (fun z=>?_) (fun z=>?_)
    ·k_go
     refine ⟨.ref ps,sd,d,st,M,hm,thr ts b i,ltr b bh i,rfl,hrsA,hsA,hdA,ak hsd nd,okB,vm,word3 z,ac,lvS,fun d2 H2 h2 k2 n2 hd2 ok2 lv2=>?_⟩
     k_go
     refine bj rfl (ke (oQ (ui rfl (kf ?_))))
     exact core _ _ ⟨_,d2,h2,rfl,fun c oc e=>k2 c oc (uA c oc e) (by rw [xAm];exact ak e nd),uA.free n2,hd2,ok2,lv2⟩
    ·exact core _ _ ⟨_,d,hm,rfl,uA,nd,hdA,okB,fun k hk hp=>lvS k hk (.inr hp)⟩
   rintro _ H2 ⟨v5,d,hm,rfl,s2,nd,hd2,ok2,lv2⟩
   have hps2:=s2 _ _ hps0
   have kto:st.to∈ky M:=wx.kg _ (dY.mpr (Giv.iff.mpr ⟨st,hmm,.inl rfl⟩))
   k_go
   refine cH hps2 il ?_
   k_go
   refine cH hps2 il ?_
   refine bB (s2 _ _ hsd) (by rw [aX,bX kto];rfl) ?_
   refine cJ hd2 (gw ok2) ?_
   k_go
   refine ⟨_,_,d,pt hm (look M st.to) st.to,rfl,s2.upd_new nd,nd,by rw [ah,dh],ok2.pt (cQ vm _),fun k hk hp=>?_⟩
   rw [jc hst] at hk
   rcases xAj.mp hk with hk | hk
   ·rw [eK (Ne.symm (ac.ro.to k hk hp))]
    exact lv2 k hk hp
   ·rw [xAm.mp hk]
    exact lS
  ·rintro σ HB ⟨v4,v5,d,hm,rfl,tB,nd,hdB,okB,lvB⟩
   rw [lw] at lvB
   have g1B:=tB _ _ g1
   k_go
   refine aq fun l1 H1 s1 n1 h1=>?_
   have u1:=tB.trans s1
   k_go
   refine ⟨l1,sd,d,[b.last],M,hm,rfl,⟨_,h1,.one (g4.mono u1)⟩,u1 _ _ hsd,.inl (s1 _ _ hdB),fun k hk=>?_,?_⟩
   ·have e:=(xAm.mp hk).symm
    have k1:=wx.sc.la k e
    have kk:k∈ky M:=by
     rcases xAj.mp k1 with z | z
     ·exact wx.kt k z
     ·obtain ⟨t,ht,rfl⟩:=xA2.mp z
      exact wx.kg _ (dY.mpr (Giv.iff.mpr ⟨t,ht,.inl rfl⟩))
    exact ⟨kk,lvB k (by unfold thr;rw [xAu];exact k1) (.inl (lM.mpr e))⟩
   refine ⟨_,rfl,bj rfl ?_⟩
   k_go
   exact q d H1 hm u1 nd (s1 _ _ hdB) okB fun k hk hp=>lvB k (xBw _ hk) (.inr hp)
end
section
variable {P:Program} {w:World} {K:xFr} {mg:Str→Option Value} {base:Heap}
def spLaw (K:xFr):Sp:=fun vs H Q _=>∃ (a:Addr) (ns:List Int),vs=[.ref a]∧SqL K H a (ns.map V.int)∧∀ H',Q (.bl true) H'
theorem rN {r r':R2} {ta tb tc:TE} {σ:St} {H:Hp} {Q:VK} (h:ta σ H fun x H1=>tb σ H1 fun y H2=>r x y H2 fun z H3=>∃ k,z = .bl k∧if k=true then tc σ H3 fun w H4=>r' y w H4 Q else Q (.bl false) H3):tChain r r' ta tb tc σ H Q:=h
theorem kR {ps ks:List Int} {b:Bdy} (ok:CodOk ps ks b):∀ r∈rowsOf ps ks b,RowBd r:=fun r hr=>by
 obtain ⟨pth,th,la,e1,hat,e2,e3⟩:=iw 81 hr
 obtain ⟨bd1,_,_,_⟩:=hat.bd ok.bb
 refine ⟨fun k hk=>?_,fun x hx=>((gb ok hr).2 x hx).2⟩
 rw [e2] at hk
 exact (xAj.mp hk).elim (ok.bt k) (bd1 k)
theorem iA {ps ks:List Int} {b:Bdy} (ok:CodOk ps ks b):((rowsOf ps ks b).flatMap gvr).Perm b.gl:=ou 81 ok.cn
theorem uN {ps ks:List Int} {b:Bdy} (ok:CodOk ps ks b) {k:Int}:k∈ky (slt ps ks b)↔k∈ps++ks∨k∈b.gl:=by
 unfold slt
 rw [eC,fc,← (iA ok).mem_iff,xA4]
theorem ez {ps ks:List Int} {b:Bdy} (ok:CodOk ps ks b):(∀ k∈ps++ks,lk (slt ps ks b) k=lk (ini (ps++ks)) k)∧∀ r∈rowsOf ps ks b,RowOk (look (slt ps ks b)) r:=by
 obtain ⟨h1,h2⟩:=rj (rowsOf ps ks b) (m:=ini (ps++ks)) (kR ok) ((iA ok).nodup_iff.mpr ok.gn) (fun k hk z=>ok.dj k (fc.mp z) ((iA ok).mem_iff.mp hk)) (Cov.mono (iu 81 (G:=fun k=>k∈ps++ks) fun k hk=>hk) fun k hk=>fc.mpr hk)
 exact ⟨fun k hk=>h1 k (fc.mpr hk),h2⟩
theorem uM {ps ks:List Int} {b:Bdy} (ok:CodOk ps ks b):MOk (slt ps ks b):=by
 have h:=eI ok (rowsOf ps ks b).length
 rw [xAu] at h
 exact h
theorem uL {ps ks:List Int} {b:Bdy} (ok:CodOk ps ks b):vb (slt ps ks b):=re _ (kR ok) (uJ ok.nd (by have:=ok.lt;lia))
theorem kO {ps ks:List Int} {b:Bdy} (ok:CodOk ps ks b):∀ x∈ps++ks,∀ y∈ps++ks,look (slt ps ks b) x=look (slt ps ks b) y→x=y:=fun x hx y hy e=>by
 rw [cL ((ez ok).1 x hx),cL ((ez ok).1 y hy)] at e
 exact tO ok.nd x hx y hy e
theorem xg {ps ks:List Int} {b:Bdy} (ok:CodOk ps ks b) {r:Row} (h:r∈rowsOf ps ks b):(r.ahead.map (look (slt ps ks b))).Nodup∧(r.behind.map (look (slt ps ks b))).Nodup:=by
 have i:=kN 81 (f:=look (slt ps ks b)) (ez ok).2 (fun x y hx hy=>kO ok x hx.1 y hy.1) r h
 refine ⟨fW (eD.imp fun z=>by lia) fun x hx y hy e=>i x y (br hx).1 (br hy).1 e,fW (eD.imp fun z=>by lia) fun x hx y hy e=>i x y ⟨(br hx).1.1,.inr (br hx).1.2⟩ ⟨(br hy).1.1,.inr (br hy).1.2⟩ e⟩
theorem mP {ps ks:List Int} {b:Bdy} (ok:CodOk ps ks b) {r:Row} (h:r∈rowsOf ps ks b):∀ k∈r.there,k∈ky (slt ps ks b):=fun k hk=>by
 obtain ⟨i,hi⟩:=xB8.mp h
 have:=gr hi k hk
 rw [eC] at this
 unfold slt
 rw [eC]
 exact this.imp id fun ⟨r',h1,h2⟩=>⟨r',xBj h1,h2⟩
theorem Row.inv {H:Hp} {r:Row} {v:V} (h:Rp H r.d3 v):∃ p q1 q2 q3,v = .ref p∧H p=some (.tup [.ref q1,.ref q2,.ref q3])∧H q1=some (.tup (r.path.map V.int))∧H q2=some (.tup (r.ahead.map V.int))∧H q3=some (.tup (r.behind.map V.int)):=by
 obtain ⟨p,_,rfl,hp,va,_,rfl,ha,vb,_,rfl,hb,vc,_,rfl,hc,rfl⟩:=h
 obtain ⟨q1,rfl,h1⟩:=aY ha
 obtain ⟨q2,rfl,h2⟩:=aY hb
 obtain ⟨q3,rfl,h3⟩:=aY hc
 exact ⟨p,q1,q2,q3,rfl,hp,h1,h2,h3⟩
def glaw:Scope:={ kind:=.function,names:=[("_law_script",.local),("_law_code_here",.local),("_law_many",.cell),("_law_slots",.cell),("_law_names",.local),("_law_path",.local),("_law_ahead",.local),("_law_behind",.local),("_law_some",.local),("_law_code",.globalImplicit),("slots_of",.globalImplicit),("list",.globalImplicit),("_law_given",.globalImplicit),("sorted",.globalImplicit),("needed",.globalImplicit),("len",.globalImplicit),("set",.globalImplicit),("_law_walk",.globalImplicit),("_law_begun",.globalImplicit)],isGenerator:=false,isCoroutine:=false,more:=[("fast",.str "_law_script"),("fast",.str "_law_code_here"),("fast",.str "_law_many"),("fast",.str "_law_slots"),("fast",.str "_law_names"),("fast",.str "_law_name"),("fast",.str "_law_path"),("fast",.str "_law_ahead"),("fast",.str "_law_behind"),("fast",.str "_law_some")] }
theorem sclaw:FnScope ["_law_script","_law_code_here","_law_many","_law_slots","_law_names","_law_path","_law_ahead","_law_behind","_law_some"] ["_law_script"] glaw:=⟨rfl,rfl,rfl,by decide +kernel,rfl,by decide +kernel,by decide +kernel⟩
theorem wu {f:Addr} {fd:FuncData} (F:Fun K "law" "law" sLaw f fd) (T:Txt K mg) (c__law_code:Cal P w K mg base "_law_code" 165 ["_law_script"] (spCode K)) (c_slots_of:Cal P w K mg base "slots_of" 88 ["code"] spSlots) (c_needed:Cal P w K mg base "needed" 88 ["code"] spNeed) (c__law_given:Cal P w K mg base "_law_given" 82 ["_law_body_here"] (spGvn 81)) (c__law_begun:Cal P w K mg base "_law_begun" 1 ["_law_names","_law_slots","_law_holds_here"] spBegun) (c__law_walk:Cal P w K mg base "_law_walk" 164 ["_law_body_here","_law_slots","_law_holds_here"] (spWalk 81)):FnOk P w K mg base CX0 170 f fd ["_law_script"] (spLaw K):=by
 refine F.okS sclaw rfl (fun vs H Q E h=>?_) (fun cdv A outer s H vs Q E hr h=>?_)
 ·obtain ⟨a,ns,rfl,_⟩:=h
  rfl
 ·obtain ⟨a,ns,rfl,hS,q⟩:=h
  have hu:=bJ hr
  have hu0:=hr.units0
  have hu40:(A.deeper (PyProof.Rows.envOfC "law" glaw s.heap.objs.size f cdv)).units+40<cLine:=by have:=hr.units;lia
  refine' ⟨?tt,QSs.h ?hh,?gg⟩
  case hh=>exact (ab (aD (i:=1) sclaw.nd rfl (Or.inl rfl) (av c__law_code hr rfl (ae (qv 0) aa)))
   (ab (gh (av c_slots_of hr rfl (ae (qv 1) aa)) (a8 rfl (ay (am (i:=2) sclaw.nd rfl (Or.inr rfl)) (ay (am (i:=3) sclaw.nd rfl (Or.inr rfl)) a7))))
   (ab (aD (i:=4) sclaw.nd rfl (Or.inl rfl) (aF bU (aF bU (aU bz rfl T.zlist cF (ae (au ai (qv 1) af) aa)) (aU bz rfl T.zlist cF (ae (au ai (qv 1) af) aa))) (av c__law_given hr rfl (ae (au ai (qv 1) af) aa))))
   (ab (aE (QW.pt (kY (ap (pG hu40) (bV (gE rfl) rfl T.zsorted cE (ae (qv 3) aa)) (bV (eh) rfl T.zsorted cE (ae (qv 4) aa)) (nomark _)) (iE (bH (fN hu0 (bM (ls:=["_law_name"]) (N:=["_law_slots","_law_many"]) (fr:=[3,2]) rfl (CapsG.mk' rfl (by decide +kernel) rfl (by decide +kernel) (.cons ⟨⟨_,rfl,rfl⟩,rfl,rfl,rfl⟩ (.cons ⟨⟨_,rfl,rfl⟩,rfl,rfl,rfl⟩ .nil)) (by decide +kernel) rfl) (aP (qv 4)) (fun C s H fp=>(am (i:=0) (show (["_law_name","_law_slots","_law_many"]:List Str).Nodup by decide +kernel) rfl (Or.inl rfl))) (fun C s H fp=>(cK (kh (oS xU gj af (aG hu (qv 1) (qv 0)) (qv 2))))) (fun C s H fp=>(qv 0)))))))) (ag (ao fA)) ar)
   (ab (aR PassesOwn.never rfl (aP (av c_needed hr rfl (ae (qv 1) aa))) (a8 rfl (ay (am (i:=5) sclaw.nd rfl (Or.inl rfl)) (ay (am (i:=6) sclaw.nd rfl (Or.inl rfl)) (ay (am (i:=7) sclaw.nd rfl (Or.inl rfl)) a7))))
    (ag (aR PassesOwn.never rfl (aP (aH (ae (qv 6) (ae (qv 7) aa)))) (am (i:=8) sclaw.nd rfl (Or.inl rfl))
    (ag (aE (ap pH (bV tY rfl T.zlen gK (ae (aU (jK rfl) rfl T.zset jT (ae (bM (ls:=["_law_name"]) (N:=["_law_slots"]) (fr:=[3]) rfl (CapsG.mk' rfl (by decide +kernel) rfl (by decide +kernel) (.cons ⟨⟨_,rfl,rfl⟩,rfl,rfl,rfl⟩ .nil) (by decide +kernel) rfl) (bw (qv 8)) (fun C s H fp=>(am (i:=0) (show (["_law_name","_law_slots"]:List Str).Nodup by decide +kernel) rfl (Or.inl rfl))) (fun C s H fp=>bN) (fun C s H fp=>(aG hu (qv 1) (qv 0)))) aa)) aa)) (bV fZ rfl T.zlen gK (ae (qv 8) aa)) (nomark _)) (ag (ao fA)) ar)))))
   (ag (ao (lc sv (av c__law_walk hr rfl (ae (au ai (qv 1) af) (ae (qv 3) (ae (av c__law_begun hr rfl (ae (aF bm (au ai (qv 1) af) (au ai (qv 1) af)) (ae (qv 3) (ae c7 aa)))) aa)))) de (nomark _)))))))))
  k_go
  refine ⟨a,ns,rfl,hS,fun H1 v pl ps ks b t1 hc ok=>?_⟩
  have okM:=uM ok
  have lm:=ko okM.nd okM.bd
  have vm:=uL ok
  have bl:=iX ok.bb ok.gn
  have ll:=ok.lt
  rw [xAb] at ll
  have hc0:=hc
  obtain ⟨pc,q1,q2,vb',rfl,hpc,hq1,hq2,hvb⟩:=mr hc
  k_go
  refine ⟨.ref pc,pl,ps,ks,b,rfl,hc0,ok,fun p3 d3 mx H3 s3 n3 h3 h3d m1 m2=>?_⟩
  have hpc3:=s3 _ _ hpc
  have ek:∀ k,k∈ky (slt ps ks b)↔k∈ps++ks∨k∈b.gl:=fun k=>uN ok
  have ahn:∀ r∈rowsOf ps ks b,(r.ahead.map (look (slt ps ks b))).Nodup∧(r.behind.map (look (slt ps ks b))).Nodup:=fun r hr=>xg ok hr
  have rth:∀ r∈rowsOf ps ks b,∀ k∈r.there,k∈ky (slt ps ks b):=fun r hr=>mP ok hr
  have wcx:WCx (slt ps ks b) 81 b (ps++ks) (fun _=>False):=⟨⟨[],(ez ok).2⟩,ok.sc,ok.bb,ok.nf,ok.gn,fun k hk=>(ek k).mpr (.inl hk),fun k hk=>(ek k).mpr (.inr hk),ok.cn⟩
  have psn:((ps++ks).map (look (slt ps ks b))).Nodup:=fW ok.nd (kO ok)
  generalize slt ps ks b=M at h3d m1 m2 okM lm vm ek ahn rth wcx psn
  k_go
  refine b8 (s3 _ _ hq1) fun l4 H4 s4 n4 h4=>?_
  have hpc4:=s4 _ _ hpc3
  k_go
  refine b8 (s4 _ _ (s3 _ _ hq2)) fun l5 H5 s5 n5 h5=>?_
  refine di (s5 _ _ h4) h5 (lineMe (by rw [xAa,xAa];lia)) fun l6 H6 s6 n6 h6=>?_
  rw [← xAi] at h6
  have u6:=s3.trans (s4.trans (s5.trans s6))
  have hpc6:=u6 _ _ hpc
  k_go
  refine ⟨vb',b,rfl,hvb.mono u6,ok.cn,ok.bb,ok.nf,ok.gn,fun lg H7 us s7 n7 h7 pg=>?_⟩
  have lu:=pg.length_eq
  refine di (s7 _ _ h6) h7 (lineMe (by rw [xAa,xAa,xAb];lia)) fun ln H8 s8 n8 h8=>?_
  rw [← xAi] at h8
  have u8:=u6.trans (s7.trans s8)
  have nmem:∀ k,k∈ps++ks++us↔k∈ky M:=fun k=>by rw [xAj,pg.mem_iff,ek]
  have nnd:(ps++ks++us).Nodup:=xBq.mpr ⟨ok.nd,pg.nodup_iff.mpr ok.gn,fun x hx z hz e=>ok.dj x hx (by rw [e];exact pg.mem_iff.mp hz)⟩
  have nlen:(ps++ks++us).length≤311:=by rw [xAb,xAb];lia
  generalize ps++ks++us=nms at h8 nmem nnd nlen
  have w8:Same H3 H8:=s4.trans (s5.trans (s6.trans (s7.trans s8)))
  have hd8:=w8 _ _ h3d
  k_go
  refine gV ⟨_,hd8,qo⟩ okM.nd fun l9 ns9 H9 s9 n9 h9 p9 m9=>?_
  k_go
  refine gf (s9 _ _ h8) fun l10 ns10 H10 s10 n10 h10 pm10 pw10=>?_
  obtain rfl:ns10=ns9:=gc (iB pw10 (pm10.nodup_iff.mpr nnd)) p9 fun k=>by rw [pm10.mem_iff,nmem,m9]
  refine vG (s10 _ _ h9) h10 ?_
  have u10:=s9.trans s10
  have h8':=u10 _ _ h8
  have hd10:=u10 _ _ hd8
  k_go
  refine bS (aS (xs:=nms.map V.int)) (fun B i ys H2=>H2 B=some (.lst ys)∧Same H10 H2∧H10 B=none∧ys=[]) (fun B hB=>⟨ah,aw hB _,hB,rfl⟩) ?_ ?_ ?_
  ·rintro B i ys H2 hi ⟨h1,h2,h3,rfl⟩
   exact ⟨h1,lineM (by decide),.of (h2 _ _ h8')⟩
  ·rintro B i ys _ x H2 hi ⟨h1,h2,h3,rfl⟩ ⟨rfl,hx⟩
   rw [xAw] at hx
   obtain ⟨k,hk,rfl⟩:=xA3.mp hx
   have hkm:=(nmem k).mp (xAc hk)
   have b0:=cQ vm k
   have b1:=m2 (look M k) (xAs _ (qe hkm))
   k_go
   refine ⟨rfl,rfl,?_⟩
   k_go
   refine rN ?_
   k_go
   refine bB (h2 _ _ hd10) (by rw [aX,bX hkm];rfl) ?_
   k_go
   refine ka (xBd b0.1) ?_
   k_go
   refine ⟨h1,bj (by simp;lia) ⟨h1,h2,h3,rfl⟩⟩
  rintro B ys H11 ⟨f1,f2,f3,rfl⟩
  k_go
  have u11:=u8.trans (u10.trans f2)
  refine ⟨.ref pc,pl,ps,ks,b,rfl,hc0.mono u11,ok,fun lr H12 s12 n12 zz0=>?_⟩
  obtain ⟨ws,hl,hw⟩:=zz0
  have hd12:=s12 _ _ (f2 _ _ hd10)
  k_go
  refine aL (aS (xs:=ws)) (fun i σ HB=>∃ (v5 v6 v7 v8:Option V),σ=[some (.ref a),some (.ref pc),some (.int (mx+1)),some (.ref d3),some (.ref ln),v5,v6,v7,v8]∧Same H12 HB) ⟨_,_,_,_,rfl,.refl _⟩ (by rintro _ _ _ _ ⟨_,_,_,_,_,z⟩;exact .of (z _ _ hl)) ?_ ?_
  ·rintro _ i _ σ _ x HB hi ⟨v5,v6,v7,v8,rfl,tB⟩ ⟨rfl,hx⟩
   obtain ⟨r,hr,hd⟩:=(hw.mono tB).mapGet' hx
   have hmem:=xAc hr
   obtain ⟨p,g1,g2,g3,rfl,hp,r1,r2,r3⟩:=Row.inv hd
   obtain ⟨nda,ndb⟩:=ahn r hmem
   have lah:r.ahead.length≤211:=bZ
   have lbh:r.behind.length≤211:=bZ
   k_go
   refine aq fun l13 H13 s13 n13 h13=>?_
   k_go
   refine aL (aS (xs:=[V.ref g2,V.ref g3])) (fun j σ HC=>∃ (v8:Option V),σ=[some (.ref a),some (.ref pc),some (.int (mx+1)),some (.ref d3),some (.ref ln),some (.ref g1),some (.ref g2),some (.ref g3),v8]∧Same H13 HC) ⟨_,rfl,.refl _⟩ (by rintro _ _ _ _ ⟨_,_,z⟩;exact .of (z _ _ h13)) ?_ ?_
   ·rintro _ j _ σ _ y HC hj ⟨v8,rfl,tC⟩ ⟨rfl,hy⟩
    have uC:=s13.trans tC
    obtain ⟨g4,ds,rfl,r4,lds,ndd',hds⟩:∃ (g4:Addr) (ds:List Int),y = .ref g4∧HC g4=some (.tup (ds.map V.int))∧ds.length≤211∧(ds.map (look M)).Nodup∧∀ k∈ds,k∈ky M:=by
     have hj2:j<2:=hj
     rcases j with _ | _ | j
     ·cases hy
      exact ⟨g2,r.ahead,rfl,uC _ _ r2,lah,nda,fun k hk=>rth r hmem k (br hk).1.1⟩
     ·cases hy
      exact ⟨g3,r.behind,rfl,uC _ _ r3,lbh,ndb,fun k hk=>rth r hmem k (br hk).1.1⟩
     ·lia
    have hdC:=uC _ _ (tB _ _ hd12)
    k_go
    refine bS (bG (xs:=ds.map V.int)) (fun B i ys H2=>H2 B=some (.lst ys)∧Same HC H2∧HC B=none∧ys=((ds.take i).map (look M)).map V.int) (fun B hB=>⟨ah,aw hB _,hB,rfl⟩) ?_ ?_ ?_
    ·rintro B i ys H2 hi ⟨h1,h2,h3,rfl⟩
     exact ⟨h1,by rw [xAa,xAa,xAn];exact lineM (by lia),.of (h2 _ _ r4)⟩
    ·rintro B i ys _ x H2 hi ⟨h1,h2,h3,rfl⟩ ⟨rfl,hx⟩
     rw [xAw] at hx
     obtain ⟨k,hk,rfl⟩:=xA3.mp hx
     k_go
     refine ⟨rfl,rfl,?_⟩
     k_go
     refine ⟨h1,?_⟩
     k_go
     refine bB (h2 _ _ hdC) (by rw [aX,bX (hds k (xAc hk))];rfl) ?_
     refine ⟨h1,ah,h2.upd_new h3,h3,?_⟩
     rw [aK hk,xAi,xAi]
     rfl
    rintro B2 ys H14 ⟨e1,e2,e3,rfl⟩
    rw [xAa,xAu] at e1
    have r4':=e2 _ _ r4
    k_go
    refine oF e1 (fun z hz=>by obtain ⟨k,_,rfl⟩:=xA2.mp hz;have:=cQ vm k;lia) fun l15 ks15 H15 s15 n15 h15 d15 m15=>?_
    have el:ks15.length=ds.length:=by rw [oy d15 ndd' m15,xAa]
    k_go
    refine vg h15 (by lia) ?_
    have r4'':=s15 _ _ r4'
    k_go
    refine bj (by rw [el,xAa];simp) ?_
    k_go
    exact ⟨_,rfl,tC.trans (e2.trans s15)⟩
   ·rintro σ HC ⟨v8,rfl,tC⟩
    k_go
    exact ⟨_,_,_,_,rfl,tB.trans (s13.trans tC)⟩
  ·rintro σ HB ⟨v5,v6,v7,v8,rfl,tB⟩
   have uB:=u11.trans (s12.trans tB)
   have hpB:=uB _ _ hpc
   k_go
   refine ci (uB _ _ hq1) (uB _ _ hq2) (lineMe (by rw [xAa,xAa];lia)) fun p16 H16 s16 h16=>?_
   rw [← xAi] at h16
   k_go
   refine eV fun d17 H17 s17 n17 h17=>?_
   have hd17:=s17 _ _ (s16 _ _ (tB _ _ hd12))
   k_go
   refine ⟨p16,d3,d17,ps++ks,M,[],rfl,.inr (s17 _ _ h16),hd17,.inl h17,⟨by simp [ky],fun k hk=>by cases hk⟩,vm,fun n hn=>(ek n).mpr (.inl hn),fun d18 H18 s18 n18 h18=>?_⟩
   have u18:=uB.trans (s16.trans (s17.trans s18))
   k_go
   refine ⟨vb',d3,d18,b,M,_,ps++ks,fun _=>False,rfl,hvb.mono u18,s18 _ _ hd17,.inl h18,fj (cQ vm) _ ⟨by simp [ky],fun k hk=>by cases hk⟩,vm,wcx,fun k hk _=>gH psn k hk,fun d19 H19 h' s19 n19 h19 ok19 lv19=>?_⟩
   k_go
   exact q _
end
section
variable {P:Program} {w:World} {K:xFr} {mg:Str→Option Value} {base:Heap}
theorem all_mk {l:PySem.W.OpenLaw} {w:World} {K:xFr} {h:Heap} {mg:Str→Option Value} {fa fOp fIn fBi fMe fRe fNd fSd fAd fUi fBh fCe fSa fTa fNe fAt fAs fPi fPl fSt fBo fAo fBf fUs fCo fSl fGi fLw fGv fBt fHo fBg fAr fWk fL:Addr} (X:K.In h) (G:h.Ns mainGlobals mg) (hfa:mg "law"=some (.ref fa))
  {odfOp anfOp:Option Addr} {slfOp:Array (Option Value)} {ocfOp kVfOp dcfOp pmfOp cdfOp ctfOp:Value}
  {odfIn anfIn:Option Addr} {slfIn:Array (Option Value)} {ocfIn kVfIn dcfIn pmfIn cdfIn ctfIn:Value}
  {odfBi anfBi:Option Addr} {slfBi:Array (Option Value)} {ocfBi kVfBi dcfBi pmfBi cdfBi ctfBi:Value}
  {odfMe anfMe:Option Addr} {slfMe:Array (Option Value)} {ocfMe kVfMe dcfMe pmfMe cdfMe ctfMe:Value}
  {odfRe anfRe:Option Addr} {slfRe:Array (Option Value)} {ocfRe kVfRe dcfRe pmfRe cdfRe ctfRe:Value}
  {odfNd anfNd:Option Addr} {slfNd:Array (Option Value)} {ocfNd kVfNd dcfNd pmfNd cdfNd ctfNd:Value}
  {odfSd anfSd:Option Addr} {slfSd:Array (Option Value)} {ocfSd kVfSd dcfSd pmfSd cdfSd ctfSd:Value}
  {odfAd anfAd:Option Addr} {slfAd:Array (Option Value)} {ocfAd kVfAd dcfAd pmfAd cdfAd ctfAd:Value}
  {odfUi anfUi:Option Addr} {slfUi:Array (Option Value)} {ocfUi kVfUi dcfUi pmfUi cdfUi ctfUi:Value}
  {odfBh anfBh:Option Addr} {slfBh:Array (Option Value)} {ocfBh kVfBh dcfBh pmfBh cdfBh ctfBh:Value}
  {odfCe anfCe:Option Addr} {slfCe:Array (Option Value)} {ocfCe kVfCe dcfCe pmfCe cdfCe ctfCe:Value}
  {odfSa anfSa:Option Addr} {slfSa:Array (Option Value)} {ocfSa kVfSa dcfSa pmfSa cdfSa ctfSa:Value}
  {odfTa anfTa:Option Addr} {slfTa:Array (Option Value)} {ocfTa kVfTa dcfTa pmfTa cdfTa ctfTa:Value}
  {odfNe anfNe:Option Addr} {slfNe:Array (Option Value)} {ocfNe kVfNe dcfNe pmfNe cdfNe ctfNe:Value}
  {odfAt anfAt:Option Addr} {slfAt:Array (Option Value)} {ocfAt kVfAt dcfAt pmfAt cdfAt ctfAt:Value}
  {odfAs anfAs:Option Addr} {slfAs:Array (Option Value)} {ocfAs kVfAs dcfAs pmfAs cdfAs ctfAs:Value}
  {odfPi anfPi:Option Addr} {slfPi:Array (Option Value)} {ocfPi kVfPi dcfPi pmfPi cdfPi ctfPi:Value}
  {odfPl anfPl:Option Addr} {slfPl:Array (Option Value)} {ocfPl kVfPl dcfPl pmfPl cdfPl ctfPl:Value}
  {odfSt anfSt:Option Addr} {slfSt:Array (Option Value)} {ocfSt kVfSt dcfSt pmfSt cdfSt ctfSt:Value}
  {odfBo anfBo:Option Addr} {slfBo:Array (Option Value)} {ocfBo kVfBo dcfBo pmfBo cdfBo ctfBo:Value}
  {odfAo anfAo:Option Addr} {slfAo:Array (Option Value)} {ocfAo kVfAo dcfAo pmfAo cdfAo ctfAo:Value}
  {odfBf anfBf:Option Addr} {slfBf:Array (Option Value)} {ocfBf kVfBf dcfBf pmfBf cdfBf ctfBf:Value}
  {odfUs anfUs:Option Addr} {slfUs:Array (Option Value)} {ocfUs kVfUs dcfUs pmfUs cdfUs ctfUs:Value}
  {odfCo anfCo:Option Addr} {slfCo:Array (Option Value)} {ocfCo kVfCo dcfCo pmfCo cdfCo ctfCo:Value}
  {odfSl anfSl:Option Addr} {slfSl:Array (Option Value)} {ocfSl kVfSl dcfSl pmfSl cdfSl ctfSl:Value}
  {odfGi anfGi:Option Addr} {slfGi:Array (Option Value)} {ocfGi kVfGi dcfGi pmfGi cdfGi ctfGi:Value}
  {odfLw anfLw:Option Addr} {slfLw:Array (Option Value)} {ocfLw kVfLw dcfLw pmfLw cdfLw ctfLw:Value}
  {odfGv anfGv:Option Addr} {slfGv:Array (Option Value)} {ocfGv kVfGv dcfGv pmfGv cdfGv ctfGv:Value}
  {odfBt anfBt:Option Addr} {slfBt:Array (Option Value)} {ocfBt kVfBt dcfBt pmfBt cdfBt ctfBt:Value}
  {odfHo anfHo:Option Addr} {slfHo:Array (Option Value)} {ocfHo kVfHo dcfHo pmfHo cdfHo ctfHo:Value}
  {odfBg anfBg:Option Addr} {slfBg:Array (Option Value)} {ocfBg kVfBg dcfBg pmfBg cdfBg ctfBg:Value}
  {odfAr anfAr:Option Addr} {slfAr:Array (Option Value)} {ocfAr kVfAr dcfAr pmfAr cdfAr ctfAr:Value}
  {odfWk anfWk:Option Addr} {slfWk:Array (Option Value)} {ocfWk kVfWk dcfWk pmfWk cdfWk ctfWk:Value}
  {odfL anfL:Option Addr} {slfL:Array (Option Value)} {ocfL kVfL dcfL pmfL cdfL ctfL:Value}
  (afOp:PySem.W.nsIn K mainGlobals "operands"=some (some (.ref fOp)))
  (lfOp:K.lookup fOp=some ⟨ocfOp,odfOp,.func (PySem.W.fnOf "operands" "operands" (defArgs sOps) (defBody sOps) (defScope sOps) .none kVfOp dcfOp pmfOp anfOp cdfOp ctfOp),slfOp⟩)
  (cfOp:PySem.W.codeIn K cdfOp "operands"=true)
  (kfOp:PySem.W.keepIn K (.ref fOp)=true)
  (afIn:PySem.W.nsIn K mainGlobals "inner"=some (some (.ref fIn)))
  (lfIn:K.lookup fIn=some ⟨ocfIn,odfIn,.func (PySem.W.fnOf "inner" "inner" (defArgs sInn) (defBody sInn) (defScope sInn) .none kVfIn dcfIn pmfIn anfIn cdfIn ctfIn),slfIn⟩)
  (cfIn:PySem.W.codeIn K cdfIn "inner"=true)
  (kfIn:PySem.W.keepIn K (.ref fIn)=true)
  (afBi:PySem.W.nsIn K mainGlobals "bodies_in"=some (some (.ref fBi)))
  (lfBi:K.lookup fBi=some ⟨ocfBi,odfBi,.func (PySem.W.fnOf "bodies_in" "bodies_in" (defArgs sBin) (defBody sBin) (defScope sBin) .none kVfBi dcfBi pmfBi anfBi cdfBi ctfBi),slfBi⟩)
  (cfBi:PySem.W.codeIn K cdfBi "bodies_in"=true)
  (kfBi:PySem.W.keepIn K (.ref fBi)=true)
  (afMe:PySem.W.nsIn K mainGlobals "mentioned"=some (some (.ref fMe)))
  (lfMe:K.lookup fMe=some ⟨ocfMe,odfMe,.func (PySem.W.fnOf "mentioned" "mentioned" (defArgs sMen) (defBody sMen) (defScope sMen) .none kVfMe dcfMe pmfMe anfMe cdfMe ctfMe),slfMe⟩)
  (cfMe:PySem.W.codeIn K cdfMe "mentioned"=true)
  (kfMe:PySem.W.keepIn K (.ref fMe)=true)
  (afRe:PySem.W.nsIn K mainGlobals "rests_of"=some (some (.ref fRe)))
  (lfRe:K.lookup fRe=some ⟨ocfRe,odfRe,.func (PySem.W.fnOf "rests_of" "rests_of" (defArgs sRests) (defBody sRests) (defScope sRests) .none kVfRe dcfRe pmfRe anfRe cdfRe ctfRe),slfRe⟩)
  (cfRe:PySem.W.codeIn K cdfRe "rests_of"=true)
  (kfRe:PySem.W.keepIn K (.ref fRe)=true)
  (afNd:PySem.W.nsIn K mainGlobals "needed"=some (some (.ref fNd)))
  (lfNd:K.lookup fNd=some ⟨ocfNd,odfNd,.func (PySem.W.fnOf "needed" "needed" (defArgs sNeed) (defBody sNeed) (defScope sNeed) .none kVfNd dcfNd pmfNd anfNd cdfNd ctfNd),slfNd⟩)
  (cfNd:PySem.W.codeIn K cdfNd "needed"=true)
  (kfNd:PySem.W.keepIn K (.ref fNd)=true)
  (afSd:PySem.W.nsIn K mainGlobals "stands"=some (some (.ref fSd)))
  (lfSd:K.lookup fSd=some ⟨ocfSd,odfSd,.func (PySem.W.fnOf "stands" "stands" (defArgs sStands) (defBody sStands) (defScope sStands) .none kVfSd dcfSd pmfSd anfSd cdfSd ctfSd),slfSd⟩)
  (cfSd:PySem.W.codeIn K cdfSd "stands"=true)
  (kfSd:PySem.W.keepIn K (.ref fSd)=true)
  (afAd:PySem.W.nsIn K mainGlobals "add_stands"=some (some (.ref fAd)))
  (lfAd:K.lookup fAd=some ⟨ocfAd,odfAd,.func (PySem.W.fnOf "add_stands" "add_stands" (defArgs sAdd) (defBody sAdd) (defScope sAdd) .none kVfAd dcfAd pmfAd anfAd cdfAd ctfAd),slfAd⟩)
  (cfAd:PySem.W.codeIn K cdfAd "add_stands"=true)
  (kfAd:PySem.W.keepIn K (.ref fAd)=true)
  (afUi:PySem.W.nsIn K mainGlobals "used_if_caught"=some (some (.ref fUi)))
  (lfUi:K.lookup fUi=some ⟨ocfUi,odfUi,.func (PySem.W.fnOf "used_if_caught" "used_if_caught" (defArgs sUic) (defBody sUic) (defScope sUic) .none kVfUi dcfUi pmfUi anfUi cdfUi ctfUi),slfUi⟩)
  (cfUi:PySem.W.codeIn K cdfUi "used_if_caught"=true)
  (kfUi:PySem.W.keepIn K (.ref fUi)=true)
  (afBh:PySem.W.nsIn K mainGlobals "both"=some (some (.ref fBh)))
  (lfBh:K.lookup fBh=some ⟨ocfBh,odfBh,.func (PySem.W.fnOf "both" "both" (defArgs sBoth) (defBody sBoth) (defScope sBoth) .none kVfBh dcfBh pmfBh anfBh cdfBh ctfBh),slfBh⟩)
  (cfBh:PySem.W.codeIn K cdfBh "both"=true)
  (kfBh:PySem.W.keepIn K (.ref fBh)=true)
  (afCe:PySem.W.nsIn K mainGlobals "_law_cell_at"=some (some (.ref fCe)))
  (lfCe:K.lookup fCe=some ⟨ocfCe,odfCe,.func (PySem.W.fnOf "_law_cell_at" "_law_cell_at" (defArgs sCell) (defBody sCell) (defScope sCell) .none kVfCe dcfCe pmfCe anfCe cdfCe ctfCe),slfCe⟩)
  (cfCe:PySem.W.codeIn K cdfCe "_law_cell_at"=true)
  (kfCe:PySem.W.keepIn K (.ref fCe)=true)
  (afSa:PySem.W.nsIn K mainGlobals "_law_state"=some (some (.ref fSa)))
  (lfSa:K.lookup fSa=some ⟨ocfSa,odfSa,.func (PySem.W.fnOf "_law_state" "_law_state" (defArgs sState) (defBody sState) (defScope sState) .none kVfSa dcfSa pmfSa anfSa cdfSa ctfSa),slfSa⟩)
  (cfSa:PySem.W.codeIn K cdfSa "_law_state"=true)
  (kfSa:PySem.W.keepIn K (.ref fSa)=true)
  (afTa:PySem.W.nsIn K mainGlobals "_law_take"=some (some (.ref fTa)))
  (lfTa:K.lookup fTa=some ⟨ocfTa,odfTa,.func (PySem.W.fnOf "_law_take" "_law_take" (defArgs sTake) (defBody sTake) (defScope sTake) .none kVfTa dcfTa pmfTa anfTa cdfTa ctfTa),slfTa⟩)
  (cfTa:PySem.W.codeIn K cdfTa "_law_take"=true)
  (kfTa:PySem.W.keepIn K (.ref fTa)=true)
  (afNe:PySem.W.nsIn K mainGlobals "_law_new"=some (some (.ref fNe)))
  (lfNe:K.lookup fNe=some ⟨ocfNe,odfNe,.func (PySem.W.fnOf "_law_new" "_law_new" (defArgs sNew) (defBody sNew) (defScope sNew) .none kVfNe dcfNe pmfNe anfNe cdfNe ctfNe),slfNe⟩)
  (cfNe:PySem.W.codeIn K cdfNe "_law_new"=true)
  (kfNe:PySem.W.keepIn K (.ref fNe)=true)
  (afAt:PySem.W.nsIn K mainGlobals "_law_atom"=some (some (.ref fAt)))
  (lfAt:K.lookup fAt=some ⟨ocfAt,odfAt,.func (PySem.W.fnOf "_law_atom" "_law_atom" (defArgs sAtom) (defBody sAtom) (defScope sAtom) .none kVfAt dcfAt pmfAt anfAt cdfAt ctfAt),slfAt⟩)
  (cfAt:PySem.W.codeIn K cdfAt "_law_atom"=true)
  (kfAt:PySem.W.keepIn K (.ref fAt)=true)
  (afAs:PySem.W.nsIn K mainGlobals "_law_atoms"=some (some (.ref fAs)))
  (lfAs:K.lookup fAs=some ⟨ocfAs,odfAs,.func (PySem.W.fnOf "_law_atoms" "_law_atoms" (defArgs sAtoms) (defBody sAtoms) (defScope sAtoms) .none kVfAs dcfAs pmfAs anfAs cdfAs ctfAs),slfAs⟩)
  (cfAs:PySem.W.codeIn K cdfAs "_law_atoms"=true)
  (kfAs:PySem.W.keepIn K (.ref fAs)=true)
  (afPi:PySem.W.nsIn K mainGlobals "_law_pick"=some (some (.ref fPi)))
  (lfPi:K.lookup fPi=some ⟨ocfPi,odfPi,.func (PySem.W.fnOf "_law_pick" "_law_pick" (defArgs sPick) (defBody sPick) (defScope sPick) .none kVfPi dcfPi pmfPi anfPi cdfPi ctfPi),slfPi⟩)
  (cfPi:PySem.W.codeIn K cdfPi "_law_pick"=true)
  (kfPi:PySem.W.keepIn K (.ref fPi)=true)
  (afPl:PySem.W.nsIn K mainGlobals "_law_plain_step"=some (some (.ref fPl)))
  (lfPl:K.lookup fPl=some ⟨ocfPl,odfPl,.func (PySem.W.fnOf "_law_plain_step" "_law_plain_step" (defArgs sPlain) (defBody sPlain) (defScope sPlain) .none kVfPl dcfPl pmfPl anfPl cdfPl ctfPl),slfPl⟩)
  (cfPl:PySem.W.codeIn K cdfPl "_law_plain_step"=true)
  (kfPl:PySem.W.keepIn K (.ref fPl)=true)
  (afSt:PySem.W.nsIn K mainGlobals "_law_step"=some (some (.ref fSt)))
  (lfSt:K.lookup fSt=some ⟨ocfSt,odfSt,.func (PySem.W.fnOf "_law_step" "_law_step" (defArgs sStep) (defBody sStep) (defScope sStep) .none kVfSt dcfSt pmfSt anfSt cdfSt ctfSt),slfSt⟩)
  (cfSt:PySem.W.codeIn K cdfSt "_law_step"=true)
  (kfSt:PySem.W.keepIn K (.ref fSt)=true)
  (afBo:PySem.W.nsIn K mainGlobals "_law_body"=some (some (.ref fBo)))
  (lfBo:K.lookup fBo=some ⟨ocfBo,odfBo,.func (PySem.W.fnOf "_law_body" "_law_body" (defArgs sBody) (defBody sBody) (defScope sBody) .none kVfBo dcfBo pmfBo anfBo cdfBo ctfBo),slfBo⟩)
  (cfBo:PySem.W.codeIn K cdfBo "_law_body"=true)
  (kfBo:PySem.W.keepIn K (.ref fBo)=true)
  (afAo:PySem.W.nsIn K mainGlobals "_law_atoms_of"=some (some (.ref fAo)))
  (lfAo:K.lookup fAo=some ⟨ocfAo,odfAo,.func (PySem.W.fnOf "_law_atoms_of" "_law_atoms_of" (defArgs sAof) (defBody sAof) (defScope sAof) .none kVfAo dcfAo pmfAo anfAo cdfAo ctfAo),slfAo⟩)
  (cfAo:PySem.W.codeIn K cdfAo "_law_atoms_of"=true)
  (kfAo:PySem.W.keepIn K (.ref fAo)=true)
  (afBf:PySem.W.nsIn K mainGlobals "_law_bodies"=some (some (.ref fBf)))
  (lfBf:K.lookup fBf=some ⟨ocfBf,odfBf,.func (PySem.W.fnOf "_law_bodies" "_law_bodies" (defArgs sBof) (defBody sBof) (defScope sBof) .none kVfBf dcfBf pmfBf anfBf cdfBf ctfBf),slfBf⟩)
  (cfBf:PySem.W.codeIn K cdfBf "_law_bodies"=true)
  (kfBf:PySem.W.keepIn K (.ref fBf)=true)
  (afUs:PySem.W.nsIn K mainGlobals "_law_used"=some (some (.ref fUs)))
  (lfUs:K.lookup fUs=some ⟨ocfUs,odfUs,.func (PySem.W.fnOf "_law_used" "_law_used" (defArgs sUsed) (defBody sUsed) (defScope sUsed) .none kVfUs dcfUs pmfUs anfUs cdfUs ctfUs),slfUs⟩)
  (cfUs:PySem.W.codeIn K cdfUs "_law_used"=true)
  (kfUs:PySem.W.keepIn K (.ref fUs)=true)
  (afCo:PySem.W.nsIn K mainGlobals "_law_code"=some (some (.ref fCo)))
  (lfCo:K.lookup fCo=some ⟨ocfCo,odfCo,.func (PySem.W.fnOf "_law_code" "_law_code" (defArgs sCode) (defBody sCode) (defScope sCode) .none kVfCo dcfCo pmfCo anfCo cdfCo ctfCo),slfCo⟩)
  (cfCo:PySem.W.codeIn K cdfCo "_law_code"=true)
  (kfCo:PySem.W.keepIn K (.ref fCo)=true)
  (afSl:PySem.W.nsIn K mainGlobals "slots_of"=some (some (.ref fSl)))
  (lfSl:K.lookup fSl=some ⟨ocfSl,odfSl,.func (PySem.W.fnOf "slots_of" "slots_of" (defArgs sSlots) (defBody sSlots) (defScope sSlots) .none kVfSl dcfSl pmfSl anfSl cdfSl ctfSl),slfSl⟩)
  (cfSl:PySem.W.codeIn K cdfSl "slots_of"=true)
  (kfSl:PySem.W.keepIn K (.ref fSl)=true)
  (afGi:PySem.W.nsIn K mainGlobals "give_slots"=some (some (.ref fGi)))
  (lfGi:K.lookup fGi=some ⟨ocfGi,odfGi,.func (PySem.W.fnOf "give_slots" "give_slots" (defArgs sGive) (defBody sGive) (defScope sGive) .none kVfGi dcfGi pmfGi anfGi cdfGi ctfGi),slfGi⟩)
  (cfGi:PySem.W.codeIn K cdfGi "give_slots"=true)
  (kfGi:PySem.W.keepIn K (.ref fGi)=true)
  (afLw:PySem.W.nsIn K mainGlobals "least_without"=some (some (.ref fLw)))
  (lfLw:K.lookup fLw=some ⟨ocfLw,odfLw,.func (PySem.W.fnOf "least_without" "least_without" (defArgs sLw) (defBody sLw) (defScope sLw) .none kVfLw dcfLw pmfLw anfLw cdfLw ctfLw),slfLw⟩)
  (cfLw:PySem.W.codeIn K cdfLw "least_without"=true)
  (kfLw:PySem.W.keepIn K (.ref fLw)=true)
  (afGv:PySem.W.nsIn K mainGlobals "_law_given"=some (some (.ref fGv)))
  (lfGv:K.lookup fGv=some ⟨ocfGv,odfGv,.func (PySem.W.fnOf "_law_given" "_law_given" (defArgs sGvn) (defBody sGvn) (defScope sGvn) .none kVfGv dcfGv pmfGv anfGv cdfGv ctfGv),slfGv⟩)
  (cfGv:PySem.W.codeIn K cdfGv "_law_given"=true)
  (kfGv:PySem.W.keepIn K (.ref fGv)=true)
  (afBt:PySem.W.nsIn K mainGlobals "_law_both"=some (some (.ref fBt)))
  (lfBt:K.lookup fBt=some ⟨ocfBt,odfBt,.func (PySem.W.fnOf "_law_both" "_law_both" (defArgs sBth) (defBody sBth) (defScope sBth) .none kVfBt dcfBt pmfBt anfBt cdfBt ctfBt),slfBt⟩)
  (cfBt:PySem.W.codeIn K cdfBt "_law_both"=true)
  (kfBt:PySem.W.keepIn K (.ref fBt)=true)
  (afHo:PySem.W.nsIn K mainGlobals "_law_holds"=some (some (.ref fHo)))
  (lfHo:K.lookup fHo=some ⟨ocfHo,odfHo,.func (PySem.W.fnOf "_law_holds" "_law_holds" (defArgs sHolds) (defBody sHolds) (defScope sHolds) .none kVfHo dcfHo pmfHo anfHo cdfHo ctfHo),slfHo⟩)
  (cfHo:PySem.W.codeIn K cdfHo "_law_holds"=true)
  (kfHo:PySem.W.keepIn K (.ref fHo)=true)
  (afBg:PySem.W.nsIn K mainGlobals "_law_begun"=some (some (.ref fBg)))
  (lfBg:K.lookup fBg=some ⟨ocfBg,odfBg,.func (PySem.W.fnOf "_law_begun" "_law_begun" (defArgs sBegun) (defBody sBegun) (defScope sBegun) .none kVfBg dcfBg pmfBg anfBg cdfBg ctfBg),slfBg⟩)
  (cfBg:PySem.W.codeIn K cdfBg "_law_begun"=true)
  (kfBg:PySem.W.keepIn K (.ref fBg)=true)
  (afAr:PySem.W.nsIn K mainGlobals "_law_arms"=some (some (.ref fAr)))
  (lfAr:K.lookup fAr=some ⟨ocfAr,odfAr,.func (PySem.W.fnOf "_law_arms" "_law_arms" (defArgs sArms) (defBody sArms) (defScope sArms) .none kVfAr dcfAr pmfAr anfAr cdfAr ctfAr),slfAr⟩)
  (cfAr:PySem.W.codeIn K cdfAr "_law_arms"=true)
  (kfAr:PySem.W.keepIn K (.ref fAr)=true)
  (afWk:PySem.W.nsIn K mainGlobals "_law_walk"=some (some (.ref fWk)))
  (lfWk:K.lookup fWk=some ⟨ocfWk,odfWk,.func (PySem.W.fnOf "_law_walk" "_law_walk" (defArgs sWalk) (defBody sWalk) (defScope sWalk) .none kVfWk dcfWk pmfWk anfWk cdfWk ctfWk),slfWk⟩)
  (cfWk:PySem.W.codeIn K cdfWk "_law_walk"=true)
  (kfWk:PySem.W.keepIn K (.ref fWk)=true)
  (afL:PySem.W.nsIn K mainGlobals "law"=some (some (.ref fL)))
  (lfL:K.lookup fL=some ⟨ocfL,odfL,.func (PySem.W.fnOf "law" "law" (defArgs sLaw) (defBody sLaw) (defScope sLaw) .none kVfL dcfL pmfL anfL cdfL ctfL),slfL⟩)
  (cfL:PySem.W.codeIn K cdfL "law"=true)
  (kfL:PySem.W.keepIn K (.ref fL)=true)
  (zlen:PySem.W.nsIn K mainGlobals "len"=some none)
  (zlist:PySem.W.nsIn K mainGlobals "list"=some none)
  (ztuple:PySem.W.nsIn K mainGlobals "tuple"=some none)
  (zsorted:PySem.W.nsIn K mainGlobals "sorted"=some none)
  (zisinstance:PySem.W.nsIn K mainGlobals "isinstance"=some none)
  (zrange:PySem.W.nsIn K mainGlobals "range"=some none)
  (zmax:PySem.W.nsIn K mainGlobals "max"=some none)
  (zint:PySem.W.nsIn K mainGlobals "int"=some none)
  (zset:PySem.W.nsIn K mainGlobals "set"=some none)
  (zenumerate:PySem.W.nsIn K mainGlobals "enumerate"=some none)
  (zbool:PySem.W.nsIn K mainGlobals "bool"=some none)
  (zreversed:PySem.W.nsIn K mainGlobals "reversed"=some none)
  (zdict:PySem.W.nsIn K mainGlobals "dict"=some none)
  (kTT:PySem.W.kitOne K (.type "tuple") (.type "tuple")=some true)
  (kII:PySem.W.kitOne K (.type "int") (.type "int")=some true)
  (kIB:PySem.W.kitOne K (.type "int") (.type "bool")=some false)
  (kDD:PySem.W.kitOne K (.type "dict") (.type "dict")=some true)
  :∃ fd:FuncData,(∀ (s:Shared) (v:Value),BindsTo s fd ⟨[v],[]⟩ [("_law_script",v)])∧∀ base:Heap,K.In base→base.Ns mainGlobals mg→FnOk l.prog w K mg base CX0 170 fa fd ["_law_script"] (spLaw K):=by
 have e:=hfa.symm.trans (PySem.W.mg_of X G afL)
 cases e
 have ylen:=PySem.W.mg_none_of X G zlen
 have ylist:=PySem.W.mg_none_of X G zlist
 have ytuple:=PySem.W.mg_none_of X G ztuple
 have ysorted:=PySem.W.mg_none_of X G zsorted
 have yisinstance:=PySem.W.mg_none_of X G zisinstance
 have yrange:=PySem.W.mg_none_of X G zrange
 have ymax:=PySem.W.mg_none_of X G zmax
 have yint:=PySem.W.mg_none_of X G zint
 have yset:=PySem.W.mg_none_of X G zset
 have yenumerate:=PySem.W.mg_none_of X G zenumerate
 have ybool:=PySem.W.mg_none_of X G zbool
 have yreversed:=PySem.W.mg_none_of X G zreversed
 have ydict:=PySem.W.mg_none_of X G zdict
 have GfOp:=aJ (st:=sOps) lfOp cfOp kfOp
 have BfOp:=GfOp.binds (ps:=["step"]) fun _ _ _ _ _ _ us hl=>by obtain ⟨_,rfl⟩:=len1 hl;exact rfl
 have FOp:Dn K mg "operands" sOps ["step"]:=⟨fOp,_,GfOp,BfOp,PySem.W.mg_of X G afOp⟩
 have GfIn:=aJ (st:=sInn) lfIn cfIn kfIn
 have BfIn:=GfIn.binds (ps:=["step"]) fun _ _ _ _ _ _ us hl=>by obtain ⟨_,rfl⟩:=len1 hl;exact rfl
 have FIn:Dn K mg "inner" sInn ["step"]:=⟨fIn,_,GfIn,BfIn,PySem.W.mg_of X G afIn⟩
 have GfBi:=aJ (st:=sBin) lfBi cfBi kfBi
 have BfBi:=GfBi.binds (ps:=["body"]) fun _ _ _ _ _ _ us hl=>by obtain ⟨_,rfl⟩:=len1 hl;exact rfl
 have FBi:Dn K mg "bodies_in" sBin ["body"]:=⟨fBi,_,GfBi,BfBi,PySem.W.mg_of X G afBi⟩
 have GfMe:=aJ (st:=sMen) lfMe cfMe kfMe
 have BfMe:=GfMe.binds (ps:=["body"]) fun _ _ _ _ _ _ us hl=>by obtain ⟨_,rfl⟩:=len1 hl;exact rfl
 have FMe:Dn K mg "mentioned" sMen ["body"]:=⟨fMe,_,GfMe,BfMe,PySem.W.mg_of X G afMe⟩
 have GfRe:=aJ (st:=sRests) lfRe cfRe kfRe
 have BfRe:=GfRe.binds (ps:=["body"]) fun _ _ _ _ _ _ us hl=>by obtain ⟨_,rfl⟩:=len1 hl;exact rfl
 have FRe:Dn K mg "rests_of" sRests ["body"]:=⟨fRe,_,GfRe,BfRe,PySem.W.mg_of X G afRe⟩
 have GfNd:=aJ (st:=sNeed) lfNd cfNd kfNd
 have BfNd:=GfNd.binds (ps:=["code"]) fun _ _ _ _ _ _ us hl=>by obtain ⟨_,rfl⟩:=len1 hl;exact rfl
 have FNd:Dn K mg "needed" sNeed ["code"]:=⟨fNd,_,GfNd,BfNd,PySem.W.mg_of X G afNd⟩
 have GfSd:=aJ (st:=sStands) lfSd cfSd kfSd
 have BfSd:=GfSd.binds (ps:=["code"]) fun _ _ _ _ _ _ us hl=>by obtain ⟨_,rfl⟩:=len1 hl;exact rfl
 have FSd:Dn K mg "stands" sStands ["code"]:=⟨fSd,_,GfSd,BfSd,PySem.W.mg_of X G afSd⟩
 have GfAd:=aJ (st:=sAdd) lfAd cfAd kfAd
 have BfAd:=GfAd.binds (ps:=["found","path","body","there","behind"]) fun _ _ _ _ _ _ us hl=>by obtain ⟨_,_,_,_,_,rfl⟩:=len5 hl;exact rfl
 have FAd:Dn K mg "add_stands" sAdd ["found","path","body","there","behind"]:=⟨fAd,_,GfAd,BfAd,PySem.W.mg_of X G afAd⟩
 have GfUi:=aJ (st:=sUic) lfUi cfUi kfUi
 have BfUi:=GfUi.binds (ps:=["step","which"]) fun _ _ _ _ _ _ us hl=>by obtain ⟨_,_,rfl⟩:=len2 hl;exact rfl
 have FUi:Dn K mg "used_if_caught" sUic ["step","which"]:=⟨fUi,_,GfUi,BfUi,PySem.W.mg_of X G afUi⟩
 have GfBh:=aJ (st:=sBoth) lfBh cfBh kfBh
 have BfBh:=GfBh.binds (ps:=["there","uses"]) fun _ _ _ _ _ _ us hl=>by obtain ⟨_,_,rfl⟩:=len2 hl;exact rfl
 have FBh:Dn K mg "both" sBoth ["there","uses"]:=⟨fBh,_,GfBh,BfBh,PySem.W.mg_of X G afBh⟩
 have GfCe:=aJ (st:=sCell) lfCe cfCe kfCe
 have BfCe:=GfCe.binds (ps:=["_law_script","_law_k"]) fun _ _ _ _ _ _ us hl=>by obtain ⟨_,_,rfl⟩:=len2 hl;exact rfl
 have FCe:Dn K mg "_law_cell_at" sCell ["_law_script","_law_k"]:=⟨fCe,_,GfCe,BfCe,PySem.W.mg_of X G afCe⟩
 have GfSa:=aJ (st:=sState) lfSa cfSa kfSa
 have BfSa:=GfSa.binds (ps:=["_law_cell","_law_seed","_law_left"]) fun _ _ _ _ _ _ us hl=>by obtain ⟨_,_,_,rfl⟩:=len3 hl;exact rfl
 have FSa:Dn K mg "_law_state" sState ["_law_cell","_law_seed","_law_left"]:=⟨fSa,_,GfSa,BfSa,PySem.W.mg_of X G afSa⟩
 have GfTa:=aJ (st:=sTake) lfTa cfTa kfTa
 have BfTa:=GfTa.binds (ps:=["_law_state_here","_law_many"]) fun _ _ _ _ _ _ us hl=>by obtain ⟨_,_,rfl⟩:=len2 hl;exact rfl
 have FTa:Dn K mg "_law_take" sTake ["_law_state_here","_law_many"]:=⟨fTa,_,GfTa,BfTa,PySem.W.mg_of X G afTa⟩
 have GfNe:=aJ (st:=sNew) lfNe cfNe kfNe
 have BfNe:=GfNe.binds (ps:=["_law_state_here"]) fun _ _ _ _ _ _ us hl=>by obtain ⟨_,rfl⟩:=len1 hl;exact rfl
 have FNe:Dn K mg "_law_new" sNew ["_law_state_here"]:=⟨fNe,_,GfNe,BfNe,PySem.W.mg_of X G afNe⟩
 have GfAt:=aJ (st:=sAtom) lfAt cfAt kfAt
 have BfAt:=GfAt.binds (ps:=["_law_state_here","_law_there"]) fun _ _ _ _ _ _ us hl=>by obtain ⟨_,_,rfl⟩:=len2 hl;exact rfl
 have FAt:Dn K mg "_law_atom" sAtom ["_law_state_here","_law_there"]:=⟨fAt,_,GfAt,BfAt,PySem.W.mg_of X G afAt⟩
 have GfAs:=aJ (st:=sAtoms) lfAs cfAs kfAs
 have BfAs:=GfAs.binds (ps:=["_law_state_here","_law_there"]) fun _ _ _ _ _ _ us hl=>by obtain ⟨_,_,rfl⟩:=len2 hl;exact rfl
 have FAs:Dn K mg "_law_atoms" sAtoms ["_law_state_here","_law_there"]:=⟨fAs,_,GfAs,BfAs,PySem.W.mg_of X G afAs⟩
 have GfPi:=aJ (st:=sPick) lfPi cfPi kfPi
 have BfPi:=GfPi.binds (ps:=["_law_state_here","_law_there"]) fun _ _ _ _ _ _ us hl=>by obtain ⟨_,_,rfl⟩:=len2 hl;exact rfl
 have FPi:Dn K mg "_law_pick" sPick ["_law_state_here","_law_there"]:=⟨fPi,_,GfPi,BfPi,PySem.W.mg_of X G afPi⟩
 have GfPl:=aJ (st:=sPlain) lfPl cfPl kfPl
 have BfPl:=GfPl.binds (ps:=["_law_state_here","_law_there","_law_way","_law_place"]) fun _ _ _ _ _ _ us hl=>by obtain ⟨_,_,_,_,rfl⟩:=len4 hl;exact rfl
 have FPl:Dn K mg "_law_plain_step" sPlain ["_law_state_here","_law_there","_law_way","_law_place"]:=⟨fPl,_,GfPl,BfPl,PySem.W.mg_of X G afPl⟩
 have GfSt:=aJ (st:=sStep) lfSt cfSt kfSt
 have BfSt:=GfSt.binds (ps:=["_law_state_here","_law_there","_law_deep"]) fun _ _ _ _ _ _ us hl=>by obtain ⟨_,_,_,rfl⟩:=len3 hl;exact rfl
 have FSt:Dn K mg "_law_step" sStep ["_law_state_here","_law_there","_law_deep"]:=⟨fSt,_,GfSt,BfSt,PySem.W.mg_of X G afSt⟩
 have GfBo:=aJ (st:=sBody) lfBo cfBo kfBo
 have BfBo:=GfBo.binds (ps:=["_law_state_here","_law_there","_law_deep"]) fun _ _ _ _ _ _ us hl=>by obtain ⟨_,_,_,rfl⟩:=len3 hl;exact rfl
 have FBo:Dn K mg "_law_body" sBody ["_law_state_here","_law_there","_law_deep"]:=⟨fBo,_,GfBo,BfBo,PySem.W.mg_of X G afBo⟩
 have GfAo:=aJ (st:=sAof) lfAo cfAo kfAo
 have BfAo:=GfAo.binds (ps:=["_law_step_here"]) fun _ _ _ _ _ _ us hl=>by obtain ⟨_,rfl⟩:=len1 hl;exact rfl
 have FAo:Dn K mg "_law_atoms_of" sAof ["_law_step_here"]:=⟨fAo,_,GfAo,BfAo,PySem.W.mg_of X G afAo⟩
 have GfBf:=aJ (st:=sBof) lfBf cfBf kfBf
 have BfBf:=GfBf.binds (ps:=["_law_step_here"]) fun _ _ _ _ _ _ us hl=>by obtain ⟨_,rfl⟩:=len1 hl;exact rfl
 have FBf:Dn K mg "_law_bodies" sBof ["_law_step_here"]:=⟨fBf,_,GfBf,BfBf,PySem.W.mg_of X G afBf⟩
 have GfUs:=aJ (st:=sUsed) lfUs cfUs kfUs
 have BfUs:=GfUs.binds (ps:=["_law_body_here"]) fun _ _ _ _ _ _ us hl=>by obtain ⟨_,rfl⟩:=len1 hl;exact rfl
 have FUs:Dn K mg "_law_used" sUsed ["_law_body_here"]:=⟨fUs,_,GfUs,BfUs,PySem.W.mg_of X G afUs⟩
 have GfCo:=aJ (st:=sCode) lfCo cfCo kfCo
 have BfCo:=GfCo.binds (ps:=["_law_script"]) fun _ _ _ _ _ _ us hl=>by obtain ⟨_,rfl⟩:=len1 hl;exact rfl
 have FCo:Dn K mg "_law_code" sCode ["_law_script"]:=⟨fCo,_,GfCo,BfCo,PySem.W.mg_of X G afCo⟩
 have GfSl:=aJ (st:=sSlots) lfSl cfSl kfSl
 have BfSl:=GfSl.binds (ps:=["code"]) fun _ _ _ _ _ _ us hl=>by obtain ⟨_,rfl⟩:=len1 hl;exact rfl
 have FSl:Dn K mg "slots_of" sSlots ["code"]:=⟨fSl,_,GfSl,BfSl,PySem.W.mg_of X G afSl⟩
 have GfGi:=aJ (st:=sGive) lfGi cfGi kfGi
 have BfGi:=GfGi.binds (ps:=["slots","names","needs"]) fun _ _ _ _ _ _ us hl=>by obtain ⟨_,_,_,rfl⟩:=len3 hl;exact rfl
 have FGi:Dn K mg "give_slots" sGive ["slots","names","needs"]:=⟨fGi,_,GfGi,BfGi,PySem.W.mg_of X G afGi⟩
 have GfLw:=aJ (st:=sLw) lfLw cfLw kfLw
 have BfLw:=GfLw.binds (ps:=["numbers"]) fun _ _ _ _ _ _ us hl=>by obtain ⟨_,rfl⟩:=len1 hl;exact rfl
 have FLw:Dn K mg "least_without" sLw ["numbers"]:=⟨fLw,_,GfLw,BfLw,PySem.W.mg_of X G afLw⟩
 have GfGv:=aJ (st:=sGvn) lfGv cfGv kfGv
 have BfGv:=GfGv.binds (ps:=["_law_body_here"]) fun _ _ _ _ _ _ us hl=>by obtain ⟨_,rfl⟩:=len1 hl;exact rfl
 have FGv:Dn K mg "_law_given" sGvn ["_law_body_here"]:=⟨fGv,_,GfGv,BfGv,PySem.W.mg_of X G afGv⟩
 have GfBt:=aJ (st:=sBth) lfBt cfBt kfBt
 have BfBt:=GfBt.binds (ps:=["_law_one","_law_other"]) fun _ _ _ _ _ _ us hl=>by obtain ⟨_,_,rfl⟩:=len2 hl;exact rfl
 have FBt:Dn K mg "_law_both" sBth ["_law_one","_law_other"]:=⟨fBt,_,GfBt,BfBt,PySem.W.mg_of X G afBt⟩
 have GfHo:=aJ (st:=sHolds) lfHo cfHo kfHo
 have BfHo:=GfHo.binds (ps:=["_law_atoms_here","_law_slots","_law_holds_here"]) fun _ _ _ _ _ _ us hl=>by obtain ⟨_,_,_,rfl⟩:=len3 hl;exact rfl
 have FHo:Dn K mg "_law_holds" sHolds ["_law_atoms_here","_law_slots","_law_holds_here"]:=⟨fHo,_,GfHo,BfHo,PySem.W.mg_of X G afHo⟩
 have GfBg:=aJ (st:=sBegun) lfBg cfBg kfBg
 have BfBg:=GfBg.binds (ps:=["_law_names","_law_slots","_law_holds_here"]) fun _ _ _ _ _ _ us hl=>by obtain ⟨_,_,_,rfl⟩:=len3 hl;exact rfl
 have FBg:Dn K mg "_law_begun" sBegun ["_law_names","_law_slots","_law_holds_here"]:=⟨fBg,_,GfBg,BfBg,PySem.W.mg_of X G afBg⟩
 have GfAr:=aJ (st:=sArms) lfAr cfAr kfAr
 have BfAr:=GfAr.binds (ps:=["_law_step_here","_law_slots","_law_holds_here"]) fun _ _ _ _ _ _ us hl=>by obtain ⟨_,_,_,rfl⟩:=len3 hl;exact rfl
 have FAr:Dn K mg "_law_arms" sArms ["_law_step_here","_law_slots","_law_holds_here"]:=⟨fAr,_,GfAr,BfAr,PySem.W.mg_of X G afAr⟩
 have GfWk:=aJ (st:=sWalk) lfWk cfWk kfWk
 have BfWk:=GfWk.binds (ps:=["_law_body_here","_law_slots","_law_holds_here"]) fun _ _ _ _ _ _ us hl=>by obtain ⟨_,_,_,rfl⟩:=len3 hl;exact rfl
 have FWk:Dn K mg "_law_walk" sWalk ["_law_body_here","_law_slots","_law_holds_here"]:=⟨fWk,_,GfWk,BfWk,PySem.W.mg_of X G afWk⟩
 have GfL:=aJ (st:=sLaw) lfL cfL kfL
 have BfL:=GfL.binds (ps:=["_law_script"]) fun _ _ _ _ _ _ us hl=>by obtain ⟨_,rfl⟩:=len1 hl;exact rfl
 have T:Txt K mg:=⟨ylen,ylist,ytuple,ysorted,yisinstance,yrange,ymax,yint,yset,yenumerate,ybool,yreversed,ydict,kTT,kII,kIB,kDD⟩
 exact ⟨PySem.W.fnOf "law" "law" (defArgs sLaw) (defBody sLaw) (defScope sLaw) .none kVfL dcfL pmfL anfL cdfL ctfL,fun s v=>.of_eq rfl,fun base _ _=>by
  have cO:=wp (P:=l.prog) (w:=w) (base:=base) FOp T
  have cI:=wv (P:=l.prog) (w:=w) (base:=base) FIn T
  have cB:=wA FBi T cI
  have cM:=wt FMe T cB cO
  have cR:=pM FRe T cM
  have cBh:=sU (P:=l.prog) (w:=w) (base:=base) FBh T
  have cUi:=wo FUi T cM
  have cC:=sT (P:=l.prog) (w:=w) (base:=base) FCe T
  have cS:=pJ (P:=l.prog) (w:=w) (base:=base) FSa T
  have cT:=xV (sM (P:=l.prog) (w:=w) (base:=base) FTa T)
  have cN:=wq (P:=l.prog) (w:=w) (base:=base) FNe T
  have cA:=sV FAt T cT
  have cAs:=pS FAs T cT cA
  have cP:=sO FPi T cT
  have cAo:=wB (P:=l.prog) (w:=w) (base:=base) FAo T
  have cBf:=wz (P:=l.prog) (w:=w) (base:=base) FBf T
  have cPl:=pO FPl T cT cN cA cAs cP
  have cBo:∀ L:Nat,Cal l.prog w K mg base "_law_body" (4 * L+4) ["_law_state_here","_law_there","_law_deep"] (spBody L):=by
   intro L
   induction L with
   | zero=>exact lB (L:=0) FBo T cT cA (FSt.never (by rintro vs H Q E ⟨_,S,_,_,_,_,_,_,_,_,_,z1,z2,_⟩;lia))
   | succ L ih=>exact lB (L:=L+1) FBo T cT cA (sN FSt T cT cN cA cPl ih)
  have cU:∀ N:Nat,Cal l.prog w K mg base "_law_used" (N+1) ["_law_body_here"] (spUsed N):=by
   intro N
   induction N with
   | zero=>exact FUs.never (by rintro vs H Q E ⟨_,b,_,_,z,_⟩;have:=b.cnt_pos;lia)
   | succ N ih=>exact sL FUs T cAo cBf ih
  have cAd:∀ N:Nat,Cal l.prog w K mg base "add_stands" (N+5) ["found","path","body","there","behind"] (spAdd N):=by
   intro N
   induction N with
   | zero=>exact FAd.never (by rintro vs H Q E ⟨_,_,_,_,_,b,_,_,_,_,_,_,_,_,_,_,_,z,_⟩;have:=b.cnt_pos;lia)
   | succ N ih=>exact wC FAd T cR cI cBh cUi ih
  have cSd:=nj FSd T (cAd 81)
  have cNe:=sP FNd T cSd
  have cCo:=sS FCo T cC cS cN (cBo 40) (cU 81)
  have cLw:=xW (P:=l.prog) (w:=w) (base:=base) FLw T
  have cGi:=sQ FGi T cLw
  have cSl:=pL FSl T cSd cGi cI cM
  have cGv:∀ N:Nat,Cal l.prog w K mg base "_law_given" (N+1) ["_law_body_here"] (spGvn N):=by
   intro N
   induction N with
   | zero=>exact FGv.never (by rintro vs H Q E ⟨_,b,_,_,z,_⟩;have:=b.cnt_pos;lia)
   | succ N ih=>exact ww FGv T cBf ih
  have cBt:=wy (P:=l.prog) (w:=w) (base:=base) FBt T
  have cHo:=pP (P:=l.prog) (w:=w) (base:=base) FHo T
  have cBg:=pQ (P:=l.prog) (w:=w) (base:=base) FBg T
  have cWk:∀ N:Nat,Cal l.prog w K mg base "_law_walk" (2 * N+2) ["_law_body_here","_law_slots","_law_holds_here"] (spWalk N):=by
   intro N
   induction N with
   | zero=>exact FWk.never (by rintro vs H Q E ⟨_,_,_,b,_,_,_,_,_,_,_,_,_,_,z,_⟩;have:=b.cnt_pos;have:=z.cn;lia)
   | succ N ih=>exact sK FWk T cAo cHo (sW FAr T cBt cBg (cGv N) ih)
  exact wu GfL T cCo cSl cNe (cGv 81) cBg (cWk 81)⟩
theorem walk {l:PySem.W.OpenLaw} {q:Program} {loose:List Str} {XP:(Str→Option Value)→Heap→Prop} {YP:World→Heap→Prop} {d:DefRec} {K:Params→xFr} (hn:l.most=some 63) (hdf:d.params.defaults=[])
  (hY:∀ (w:World) (h:Heap),YP w h→(K w.params).In h)
  (F:∀ (w:World) (mg:Str→Option Value) (fa:Addr) (h:Heap),(K w.params).In h→h.Ns mainGlobals mg→mg d.name=some (.ref fa) →
   ∃ fd:FuncData,(∀ (s:Shared) (u:Value),BindsTo s fd ⟨[u],[]⟩ [("_law_script",u)])∧∀ base:Heap,(K w.params).In base→base.Ns mainGlobals mg→FnOk l.prog w (K w.params) mg base CX0 170 fa fd ["_law_script"] (spLaw (K w.params))) :
  PySem.W.WalkO q loose XP YP l.row.toRowW d [] (fun f vs=>PySem.call f vs) :=
 L2.walk_of (n:=63) (k:=170) (x:="_law_script") (CX:=fun _=>CX0) (sp:=fun w=>spLaw (K w.params)) hn (by decide) hdf ⟨rfl,by decide,by decide,rfl⟩ hY F (fun _ _ a ns hl _ hS=>⟨a,ns,rfl,hS,fun _=>rfl⟩) fun _ _ _ _ _ z=>z
end
end K54
namespace PySem.W.Fast
abbrev tw16983139617535189529:PySem.Program:=PySem.Challenge.pw_spacewright_k54_whole_slots_keep_what_is
theorem te16983139617535189529:PySem.Challenge.pw_spacewright_k54_whole_slots_keep_what_is=tw16983139617535189529:=rfl
theorem te17183217359074801705:True:=trivial
theorem te13871659775608443283:True:=trivial
theorem te1484807963028047056:True:=trivial
theorem te6992755680410420596:True:=trivial
theorem te812013197168599269:True:=trivial
theorem te15068909742516990387:True:=trivial
theorem te6475225765980180287:True:=trivial
theorem te10924875235651694500:True:=trivial
theorem te13311766861533707020:True:=trivial
theorem te4024289827843638977:True:=trivial
theorem te5037600036128319281:True:=trivial
theorem te32827935341449854:True:=trivial
theorem te18304895709150034081:True:=trivial
theorem te17253139736547622092:True:=trivial
theorem te8350817813450713260:True:=trivial
theorem te10107118258952028212:True:=trivial
theorem te18106367164107956614:True:=trivial
theorem te5311299831174564685:True:=trivial
theorem te9817242842850207048:True:=trivial
theorem te5606520069865111054:True:=trivial
theorem te8672665929155493811:True:=trivial
theorem te14346177684703891943:True:=trivial
theorem te11853563862883813295:True:=trivial
theorem te8294220232618298882:True:=trivial
theorem te11700142476918633727:True:=trivial
theorem te13024887390778912115:True:=trivial
theorem te8305837195829443140:True:=trivial
theorem te12410529262250606126:True:=trivial
theorem te16882538630882780857:True:=trivial
theorem te11808506735029756416:True:=trivial
theorem te10441287810658522135:True:=trivial
theorem te2540789079870357767:True:=trivial
theorem te14087859884814999838:True:=trivial
theorem te14472536142160055243:True:=trivial
theorem te17560494548603408984:True:=trivial
theorem te9682947109902621143:True:=trivial
theorem te12687820094616315939:True:=trivial
theorem te20245831977489054:True:=trivial
theorem te3299528910514967336:True:=trivial
theorem te545225977713638597:True:=trivial
theorem te17486376490267638237:True:=trivial
theorem te4062330478167140513:True:=trivial
theorem te7773531132825091593:True:=trivial
theorem te2980183106824005522:True:=trivial
theorem te8106205880753056651:True:=trivial
theorem te4176082031299393432:True:=trivial
theorem te11145990361214674002:True:=trivial
theorem te3018123092570517835:True:=trivial
theorem te3968743795312338477:True:=trivial
theorem te1622010135350065607:True:=trivial
theorem te5070187277593375422:True:=trivial
theorem te13674664232700046114:True:=trivial
theorem te18008543476129676190:True:=trivial
theorem te9633614481771635025:True:=trivial
theorem te16268198992359694196:True:=trivial
theorem te2073073538976012003:True:=trivial
theorem te15648868587822019846:True:=trivial
theorem te4091828187379933402:True:=trivial
theorem te663231279364003779:True:=trivial
theorem te13964808927759908204:True:=trivial
theorem te18141502207169533014:True:=trivial
theorem te9583545230782095560:True:=trivial
theorem te15710668424841299985:True:=trivial
theorem te8066287804569586719:True:=trivial
theorem te17639950927505511462:True:=trivial
theorem te18382152912732044830:True:=trivial
theorem te14111845192525186940:True:=trivial
theorem te128004726795535657:True:=trivial
theorem te2162156147858490999:True:=trivial
theorem te7896701649251092073:True:=trivial
theorem te8800021750181601273:True:=trivial
theorem te14204947871481825782:True:=trivial
theorem te16283043034430101994:True:=trivial
end PySem.W.Fast
open PySem PySem.W PyProof.Rows
set_option maxRecDepth 100000 in
set_option maxHeartbeats 0 in
theorem PySem.Challenge.cw_spacewright_k54_whole_slots_keep_what_is_holds : PySem.Challenge.rw_spacewright_k54_whole_slots_keep_what_is.Holds := by
  w_on; o_law; k_head; (case hw => w_witness2)
  k_fill
  refine K54.walk (l := PySem.Challenge.rw_spacewright_k54_whole_slots_keep_what_is) rfl rfl (fun w h Y => PySem.W.kIn_of Y) ?F
  case F =>
    intro w mg fa h KX G hmg
    refine' K54.all_mk KX G hmg ?afOp ?lfOp ?cfOp ?kfOp ?afIn ?lfIn ?cfIn ?kfIn ?afBi ?lfBi ?cfBi ?kfBi ?afMe ?lfMe ?cfMe ?kfMe ?afRe ?lfRe ?cfRe ?kfRe ?afNd ?lfNd ?cfNd ?kfNd ?afSd ?lfSd ?cfSd ?kfSd ?afAd ?lfAd ?cfAd ?kfAd ?afUi ?lfUi ?cfUi ?kfUi ?afBh ?lfBh ?cfBh ?kfBh ?afCe ?lfCe ?cfCe ?kfCe ?afSa ?lfSa ?cfSa ?kfSa ?afTa ?lfTa ?cfTa ?kfTa ?afNe ?lfNe ?cfNe ?kfNe ?afAt ?lfAt ?cfAt ?kfAt ?afAs ?lfAs ?cfAs ?kfAs ?afPi ?lfPi ?cfPi ?kfPi ?afPl ?lfPl ?cfPl ?kfPl ?afSt ?lfSt ?cfSt ?kfSt ?afBo ?lfBo ?cfBo ?kfBo ?afAo ?lfAo ?cfAo ?kfAo ?afBf ?lfBf ?cfBf ?kfBf ?afUs ?lfUs ?cfUs ?kfUs ?afCo ?lfCo ?cfCo ?kfCo ?afSl ?lfSl ?cfSl ?kfSl ?afGi ?lfGi ?cfGi ?kfGi ?afLw ?lfLw ?cfLw ?kfLw ?afGv ?lfGv ?cfGv ?kfGv ?afBt ?lfBt ?cfBt ?kfBt ?afHo ?lfHo ?cfHo ?kfHo ?afBg ?lfBg ?cfBg ?kfBg ?afAr ?lfAr ?cfAr ?kfAr ?afWk ?lfWk ?cfWk ?kfWk ?afL ?lfL ?cfL ?kfL ?zlen ?zlist ?ztuple ?zsorted ?zisinstance ?zrange ?zmax ?zint ?zset ?zenumerate ?zbool ?zreversed ?zdict ?kTT ?kII ?kIB ?kDD
    (case afOp => k_is)
    (case lfOp => k_is)
    (case cfOp => k_is)
    (case kfOp => k_is)
    (case afIn => k_is)
    (case lfIn => k_is)
    (case cfIn => k_is)
    (case kfIn => k_is)
    (case afBi => k_is)
    (case lfBi => k_is)
    (case cfBi => k_is)
    (case kfBi => k_is)
    (case afMe => k_is)
    (case lfMe => k_is)
    (case cfMe => k_is)
    (case kfMe => k_is)
    (case afRe => k_is)
    (case lfRe => k_is)
    (case cfRe => k_is)
    (case kfRe => k_is)
    (case afNd => k_is)
    (case lfNd => k_is)
    (case cfNd => k_is)
    (case kfNd => k_is)
    (case afSd => k_is)
    (case lfSd => k_is)
    (case cfSd => k_is)
    (case kfSd => k_is)
    (case afAd => k_is)
    (case lfAd => k_is)
    (case cfAd => k_is)
    (case kfAd => k_is)
    (case afUi => k_is)
    (case lfUi => k_is)
    (case cfUi => k_is)
    (case kfUi => k_is)
    (case afBh => k_is)
    (case lfBh => k_is)
    (case cfBh => k_is)
    (case kfBh => k_is)
    (case afCe => k_is)
    (case lfCe => k_is)
    (case cfCe => k_is)
    (case kfCe => k_is)
    (case afSa => k_is)
    (case lfSa => k_is)
    (case cfSa => k_is)
    (case kfSa => k_is)
    (case afTa => k_is)
    (case lfTa => k_is)
    (case cfTa => k_is)
    (case kfTa => k_is)
    (case afNe => k_is)
    (case lfNe => k_is)
    (case cfNe => k_is)
    (case kfNe => k_is)
    (case afAt => k_is)
    (case lfAt => k_is)
    (case cfAt => k_is)
    (case kfAt => k_is)
    (case afAs => k_is)
    (case lfAs => k_is)
    (case cfAs => k_is)
    (case kfAs => k_is)
    (case afPi => k_is)
    (case lfPi => k_is)
    (case cfPi => k_is)
    (case kfPi => k_is)
    (case afPl => k_is)
    (case lfPl => k_is)
    (case cfPl => k_is)
    (case kfPl => k_is)
    (case afSt => k_is)
    (case lfSt => k_is)
    (case cfSt => k_is)
    (case kfSt => k_is)
    (case afBo => k_is)
    (case lfBo => k_is)
    (case cfBo => k_is)
    (case kfBo => k_is)
    (case afAo => k_is)
    (case lfAo => k_is)
    (case cfAo => k_is)
    (case kfAo => k_is)
    (case afBf => k_is)
    (case lfBf => k_is)
    (case cfBf => k_is)
    (case kfBf => k_is)
    (case afUs => k_is)
    (case lfUs => k_is)
    (case cfUs => k_is)
    (case kfUs => k_is)
    (case afCo => k_is)
    (case lfCo => k_is)
    (case cfCo => k_is)
    (case kfCo => k_is)
    (case afSl => k_is)
    (case lfSl => k_is)
    (case cfSl => k_is)
    (case kfSl => k_is)
    (case afGi => k_is)
    (case lfGi => k_is)
    (case cfGi => k_is)
    (case kfGi => k_is)
    (case afLw => k_is)
    (case lfLw => k_is)
    (case cfLw => k_is)
    (case kfLw => k_is)
    (case afGv => k_is)
    (case lfGv => k_is)
    (case cfGv => k_is)
    (case kfGv => k_is)
    (case afBt => k_is)
    (case lfBt => k_is)
    (case cfBt => k_is)
    (case kfBt => k_is)
    (case afHo => k_is)
    (case lfHo => k_is)
    (case cfHo => k_is)
    (case kfHo => k_is)
    (case afBg => k_is)
    (case lfBg => k_is)
    (case cfBg => k_is)
    (case kfBg => k_is)
    (case afAr => k_is)
    (case lfAr => k_is)
    (case cfAr => k_is)
    (case kfAr => k_is)
    (case afWk => k_is)
    (case lfWk => k_is)
    (case cfWk => k_is)
    (case kfWk => k_is)
    (case afL => k_is)
    (case lfL => k_is)
    (case cfL => k_is)
    (case kfL => k_is)
    (case zlen => k_is)
    (case zlist => k_is)
    (case ztuple => k_is)
    (case zsorted => k_is)
    (case zisinstance => k_is)
    (case zrange => k_is)
    (case zmax => k_is)
    (case zint => k_is)
    (case zset => k_is)
    (case zenumerate => k_is)
    (case zbool => k_is)
    (case zreversed => k_is)
    (case zdict => k_is)
    (case kTT => kit_is)
    (case kII => kit_is)
    (case kIB => kit_is)
    (case kDD => kit_is)
#print axioms PySem.Challenge.cw_spacewright_k54_whole_slots_keep_what_is_holds
