import PyProof.Rows.All
import Wide.All
import OpenK.AllK
import Wide.FinOn
import PyProof.EqAt
import PyProof.EqKinds
import PyProof.NeKinds
import PyProof.TupleCall
import PyProof.Rows.SortWalk
import KE.KDictSum
import PyProof.SetKind
import PyProof.DictKinds
import PyProof.MeetsSeq2
import PyProof.SetRoads
import PyProof.SetNew
import PyProof.Rows.SetFrom
import KE.KDictList
import PyProof.EnumFor
import PyProof.EnumStmt
import PyProof.EnumMake
import KE.KRevIter
import PyProof.Draws
import PyProof.CollectIter
import PyProof.TupleOfGen
import PyProof.TupleOps
import KE.KEqDict
import PyProof.WalkInts
import PyProof.ZipIter
import KE.KSortTup
import PyProof.PureStr
import PyProof.Rows.StrJoin2
import PyProof.StrCalls2
import PyProof.ConsumeWalk
import KE.KIntText
import PyProof.DictUpdate
import PyProof.FString
import PyProof.StrOps2
import PyProof.SliceStr2
import PyProof.StrBlockI
import PyProof.StrWalks
import OpenK.KTop
import PyProof.StrLawsTight
import PyProof.StrLawsRepr
import PySem.Challenge.RW_spacewright_k63_rows_written_and_read
set_option Elab.async false
set_option linter.all false
set_option maxRecDepth 100000
set_option maxHeartbeats 4000000
noncomputable section
abbrev xFr:=PySem.W.Frag
theorem xAa:type_of%@List.length_map:=@List.length_map
theorem xAb:type_of%@List.length_append:=@List.length_append
theorem xAc:type_of%@List.mem_of_getElem?:=@List.mem_of_getElem?
theorem xAd:type_of%@PySem.wpAny_bind:=@PySem.wpAny_bind
theorem xAe:type_of%@PySem.wpAny_pure:=@PySem.wpAny_pure
theorem xAf:type_of%@PySem.Heap.get?_push_of_some:=@PySem.Heap.get?_push_of_some
theorem xAg:type_of%@Nat.le_refl:=@Nat.le_refl
theorem xAh:type_of%@Array.length_toList:=@Array.length_toList
theorem xAi:type_of%@List.map_append:=@List.map_append
theorem xAj:type_of%@List.mem_append:=@List.mem_append
theorem xAk:type_of%@List.getElem?_eq_getElem:=@List.getElem?_eq_getElem
theorem xAl:type_of%@PySem.Heap.get?_push_size:=@PySem.Heap.get?_push_size
theorem xAm:type_of%@List.mem_singleton:=@List.mem_singleton
theorem xAn:type_of%@List.length_take:=@List.length_take
theorem xAo:type_of%@List.length_cons:=@List.length_cons
theorem xAp:type_of%@List.size_toArray:=@List.size_toArray
theorem xAq:type_of%@List.getElem?_eq_some_iff:=@List.getElem?_eq_some_iff
theorem xAr:type_of%@List.mem_cons_self:=@List.mem_cons_self
theorem xAs:type_of%@List.mem_cons_of_mem:=@List.mem_cons_of_mem
theorem xAt:type_of%@List.length_singleton:=@List.length_singleton
theorem xAu:type_of%@List.take_length:=@List.take_length
theorem xAv:type_of%@List.mem_cons:=@List.mem_cons
theorem xAw:type_of%@List.getElem?_map:=@List.getElem?_map
theorem xAx:type_of%@List.append_assoc:=@List.append_assoc
theorem xAy:type_of%@Bool.false_ne_true:=@Bool.false_ne_true
theorem xAz:type_of%@Bool.false_eq_true:=@Bool.false_eq_true
theorem xA0:type_of%@Nat.ne_of_lt:=@Nat.ne_of_lt
theorem xA1:type_of%@PySem.Heap.lt_size:=@PySem.Heap.lt_size
theorem xA2:type_of%@List.mem_map:=@List.mem_map
theorem xA3:type_of%@Option.map_eq_some_iff:=@Option.map_eq_some_iff
theorem xA7:type_of%@PySem.Heap.get?_update_self:=@PySem.Heap.get?_update_self
theorem xBc:type_of%@Nat.lt_of_lt_of_le:=@Nat.lt_of_lt_of_le
theorem xBd:type_of%@decide_eq_true:=@decide_eq_true
theorem xBj:type_of%@List.mem_of_mem_take:=@List.mem_of_mem_take
theorem xBl:type_of%@PySem.wpAny_newObj_type:=@PySem.wpAny_newObj_type
theorem xBn:type_of%@Nat.zero_le:=@Nat.zero_le
theorem xBo:type_of%@Nat.lt_irrefl:=@Nat.lt_irrefl
theorem xBs:type_of%@List.map_cons:=@List.map_cons
theorem xBt:type_of%@List.mem_append_right:=@List.mem_append_right
theorem xBu:type_of%@Int.le_refl:=@Int.le_refl
theorem xBv:type_of%@List.not_mem_nil:=@List.not_mem_nil
theorem xBx:type_of%@List.take_append_drop:=@List.take_append_drop
theorem xBz:type_of%@List.getD_eq_getElem?_getD:=@List.getD_eq_getElem?_getD
theorem xB1:type_of%@Array.toList_append:=@Array.toList_append
theorem xB2:type_of%@List.drop_eq_getElem_cons:=@List.drop_eq_getElem_cons
theorem xB3:type_of%@Option.some.inj:=@Option.some.inj
theorem xB5:type_of%@PySem.Heap.SameBut.update:=@PySem.Heap.SameBut.update
theorem xB6:type_of%@List.extract_eq_drop_take:=@List.extract_eq_drop_take
theorem xB7:type_of%@Array.getElem?_eq_some_iff:=@Array.getElem?_eq_some_iff
theorem xCc:type_of%@List.map_map:=@List.map_map
theorem xCd:type_of%@PyProof.Rows.wpS_bind:=@PyProof.Rows.wpS_bind
theorem xCe:type_of%@PyProof.Rows.wpS_pure:=@PyProof.Rows.wpS_pure
theorem xCf:type_of%@if_neg:=@if_neg
theorem xCg:type_of%@if_pos:=@if_pos
namespace L2
open PySem PySem.Spec PyProof.Rows
abbrev Key:=Sum Int Str
def keyIs:Key→Value→Bool
 | .inl k,v=>Value.isInt k v
 | .inr x,v=>Value.isStrOf x v
def keyH (w:World):Key→Int
 | .inl k=>hashInt k
 | .inr x=>hashStr w x
theorem aP:∀ {k:Key} {v:Value},keyIs k v=true→(∃ i t,k=Sum.inl i∧v=Value.int i t)∨(∃ x t,k=Sum.inr x∧v=Value.str x t)
 | .inl i,v,h=>by
  obtain ⟨t,e⟩:=Value.isInt_shape (k:=i) (v:=v) h
  exact .inl ⟨i,t,rfl,e⟩
 | .inr x,v,h=>by
  obtain ⟨t,e⟩:=Value.isStrOf_shape (x:=x) (v:=v) h
  exact .inr ⟨x,t,rfl,e⟩
theorem mw (i:Int) (t:Tok):keyIs (.inl i) (.int i t)=true:=by simp [keyIs,Value.isInt]
theorem mt (x:Str) (t:Tok):keyIs (.inr x) (.str x t)=true:=by simp [keyIs,Value.isStrOf]
theorem uh (a b:Int):decide ((Sum.inl a:Key)=Sum.inl b)=(a == b):=by
 by_cases e:a=b
 ·subst e;simp
 ·have h:¬ (Sum.inl a:Key)=Sum.inl b:=fun q=>e (Sum.inl.inj q)
  rw [decide_eq_false h]
  exact (beq_eq_false_iff_ne.mpr e).symm
theorem ue (a b:Str):decide ((Sum.inr a:Key)=Sum.inr b)=decide (a=b):=by
 by_cases e:a=b
 ·subst e;simp
 ·have h:¬ (Sum.inr a:Key)=Sum.inr b:=fun q=>e (Sum.inr.inj q)
  rw [decide_eq_false h,decide_eq_false e]
theorem ug (a:Int) (b:Str):decide ((Sum.inl a:Key)=Sum.inr b)=false:=decide_eq_false (fun q=>nomatch q)
theorem uf (a:Str) (b:Int):decide ((Sum.inr a:Key)=Sum.inl b)=false:=decide_eq_false (fun q=>nomatch q)
def mixKind (prog:Program) (w:World):PySem.KeyKind prog w Key where
 is:=keyIs
 hash:=keyH w
 inj:=fun v a b ha hb=>by
  rcases aP ha with ⟨i,t,rfl,rfl⟩ | ⟨x,t,rfl,rfl⟩
  ·rcases aP hb with ⟨j,u,rfl,e⟩ | ⟨y,u,rfl,e⟩
   ·injection e with e1 _;rw [e1]
   ·exact nomatch e
  ·rcases aP hb with ⟨j,u,rfl,e⟩ | ⟨y,u,rfl,e⟩
   ·exact nomatch e
   ·injection e with e1 _;rw [e1]
 byValue:=fun k v h=>by
  rcases aP h with ⟨i,t,rfl,rfl⟩ | ⟨x,t,rfl,rfl⟩ <;> rfl
 pyHash:=fun hv h=>by
  rcases aP hv with ⟨i,t,rfl,rfl⟩ | ⟨x,t,rfl,rfl⟩
  ·exact wpAny_pyHash_int h
  ·exact wpAny_pyHash_str h
 eqBool:=fun hu hv h=>by
  rcases aP hu with ⟨i,t,rfl,rfl⟩ | ⟨x,t,rfl,rfl⟩
  ·rcases aP hv with ⟨j,u,rfl,rfl⟩ | ⟨y,u,rfl,rfl⟩
   ·rw [uh] at h;exact wpAny_eqBool_int h
   ·rw [ug] at h;exact SeqAt.EqAt.int_str i t y u _ _ _ _ h
  ·rcases aP hv with ⟨j,u,rfl,rfl⟩ | ⟨y,u,rfl,rfl⟩
   ·rw [uf] at h;exact SeqAt.EqAt.str_int x t j u _ _ _ _ h
   ·rw [ue] at h;exact wpAny_eqBool_str h
 «strs»:=fun k x t v h=>by
  rcases aP h with ⟨i,u,rfl,e⟩ | ⟨y,u,rfl,e⟩
  ·exact nomatch e
  ·injection e with e1 _
   subst e1
   cases v <;> rfl
theorem jj (prog:Program) (w:World) (i:Int) (t:Tok):(mixKind prog w).is (.inl i) (.int i t)=true:=mw i t
theorem ji (prog:Program) (w:World) (x:Str) (t:Tok):(mixKind prog w).is (.inr x) (.str x t)=true:=mt x t
end L2
namespace L2
open PySem PySem.Spec PyProof.Rows
inductive V where
 | non | bl (b:Bool) | int (i:Int) | str (x:Str) | byt (b:Array UInt8) | flt (b:UInt64) | ref (a:Addr) | ty (n:String)
 deriving DecidableEq
def RelV:V→Value→Prop
 | .non,u=>u=Value.none
 | .bl b,u=>u=Value.bool b
 | .int i,u=>∃ t,u=Value.int i t
 | .str x,u=>∃ t,u=Value.str x t
 | .byt b,u=>∃ t,u=Value.bytes b t
 | .flt b,u=>∃ t,u=Value.float b t
 | .ref a,u=>u=Value.ref a
 | .ty n,u=>u=Value.type n
abbrev Vals:List V→List Value→Prop:=Paired RelV
theorem Vals.length {xs:List V} {us:List Value} (r:Vals xs us):xs.length=us.length:=Paired.length r
theorem Vals.get:∀ {xs:List V} {us:List Value} {i:Nat} {x:V},Vals xs us→xs[i]?=some x→∃ u,us[i]?=some u∧RelV x u
 | _,_,_,_,.nil,e=>by simp at e
 | _,_,0,_,.cons r _,e=>by simp at e;subst e;exact ⟨_,rfl,r⟩
 | _,_,i+1,x,.cons _ t,e=>by
  obtain ⟨u,h1,h2⟩:=Vals.get (i:=i) (x:=x) t (by simpa using e)
  exact ⟨u,by simpa using h1,h2⟩
theorem Vals.append:∀ {xs ys:List V} {us ws:List Value},Vals xs us→Vals ys ws→Vals (xs++ys) (us++ws)
 | _,_,_,_,.nil,s=>s
 | _,_,_,_,.cons r t,s=>.cons r (Vals.append t s)
theorem Vals.take:∀ {xs:List V} {us:List Value} (n:Nat),Vals xs us→Vals (xs.take n) (us.take n)
 | _,_,0,_=>.nil
 | _,_,_+1,.nil=>.nil
 | _,_,n+1,.cons r t=>.cons r (Vals.take n t)
theorem Vals.drop:∀ {xs:List V} {us:List Value} (n:Nat),Vals xs us→Vals (xs.drop n) (us.drop n)
 | _,_,0,r=>r
 | _,_,_+1,.nil=>.nil
 | _,_,n+1,.cons _ t=>Vals.drop n t
def RelO:Option V→Option Value→Prop
 | some v,some u=>RelV v u
 | none,none=>True
 | _,_=>False
def KV {κ:Type}:List (κ×V)→List (κ×Value)→Prop:=Paired fun (p:κ×V) (q:κ×Value)=>p.1=q.1∧RelV p.2 q.2
def kV:Key→V
 | .inl i=>.int i
 | .inr x=>.str x
inductive HO where
 
 | lst (xs:List V)
 
 | tup (xs:List V)
 
 | dK (kvs:List (Key×V)) | dT (kvs:List (List Key×V))
 
 | set (S:Int→Bool) (n:Nat)
 
 | ins (C dx:Addr) (fs:List (Str×V))
 
 | own (x:Addr)
 
 | xd (fs:List (Str×V))
 
 | met (f x:Addr)
 
 | rng (lo hi:Int)
 
 | frz (o:Obj) (u:HO)
 
 | tbl (ps:Array Value)
 
 | ext (φ:Heap→Prop)
abbrev Hp:=Addr→Option HO
def upd (H:Hp) (a:Addr) (o:HO):Hp:=fun b=>if b=a then some o else H b
theorem ah {H:Hp} {a:Addr} {o:HO}:upd H a o a=some o:=by unfold upd;rw [xCg rfl]
theorem am {H:Hp} {a b:Addr} {o:HO} (h:b≠a):upd H a o b=H b:=by unfold upd;rw [xCf h]
theorem kj {H:Hp} {a:Addr} {o u:HO}:upd (upd H a o) a u=upd H a u:=by
 funext b;unfold upd;split <;> rfl
theorem wm {H:Hp} {a b:Addr} {o u:HO} (h:H a=some o) (h':H b=some u) (d:o≠u):a≠b:=by
 intro e;subst e;rw [h] at h';exact d (xB3 h')
theorem aH {H:Hp} {a b:Addr} {o:HO} (h:H a=some o) (h':H b=none):a≠b:=by
 intro e;subst e;rw [h] at h';cases h'
section
variable (P:Program) (w:World)
def ObjOk (H:Hp) (h:Heap) (a:Addr):HO→Prop
 | .lst xs=>xs.length≤sizeLine∧∃ (its:List Value) (n:Nat),Vals xs its∧h.get? a=some { cls:=.type "list",data:=.seq its.toArray n }
 | .tup xs=>xs.length≤sizeLine∧∃ its:List Value,Vals xs its∧IsTup h a its.toArray
 | .dK kvs=>kvs.length≤sizeLine∧(a == sysModules)=false∧∃ vs,KV kvs vs∧h.DictOf (mixKind P w) a vs
 | .dT kvs=>kvs.length≤sizeLine∧(a == sysModules)=false∧∃ xs:List (List Key×Addr×Value),
   Paired (fun (p:List Key×V) (q:List Key×Addr×Value)=>p.1=q.1∧H q.2.1=some (.tup (p.1.map kV))∧RelV p.2 q.2.2) kvs xs ∧
   ∃ o es ep,h.get? a=some o∧o.ExactDict∧o.data = .dict es ep∧es.toList=xs.map (entryOfKey (tupleKind (mixKind P w)))∧(xs.map (·.1)).Nodup
 | .set S n=>h.SetOf (intKind P w) a S n
 | .ins C dx fs=>H dx=some (.own a)∧fs.length≤1000∧dx≠a∧h.get? a=some (PySem.W.instObj C dx) ∧
   ∃ mA,h.Ns1 dx mA∧(∀ f,RelO (fs.lookup f) (mA f))∧PySem.Within mA (fs.map (·.1))
 | .own _=>∃ o,h.get? a=some o
 | .xd fs=>∃ mA,h.Ns1 a mA∧∀ f,RelO (fs.lookup f) (mA f)
 | .rng lo hi=>∃ t u v,h.get? a=some { cls:=.type "range",data:=.fields #[.int lo t,.int hi u,.int 1 v] }
 | .frz o u=>h.get? a=some o∧ObjOk H h a u
 | .tbl ps=>h.get? a=some { cls:=.none,data:=.fields ps }
 | .met f x=>h.get? a=some (PySem.W.methodObj (.ref f) (.ref x))
 | .ext φ=>φ h∧(∃ o,h.get? a=some o)∧∀ h1 h2:Heap,φ h1→(∀ o,h1.get? a=some o→h2.get? a=some o)→φ h2
def HOk (H:Hp) (h:Heap):Prop:=∀ a o,H a=some o→ObjOk P w H h a o
end
section
variable {P:Program} {w:World} {H H':Hp} {h h':Heap} {a:Addr} {o:HO}
theorem ObjOk.lt (x:ObjOk P w H h a o):a<h.objs.size:=by
 cases o with
 | lst xs=>obtain ⟨_,_,_,_,e⟩:=x;exact xA1 e
 | tup xs=>obtain ⟨_,_,_,p⟩:=x;exact p.lt
 | dK kvs=>obtain ⟨_,_,_,_,o,_,_,e,_⟩:=x;exact xA1 e
 | dT kvs=>obtain ⟨_,_,_,_,o,_,_,e,_⟩:=x;exact xA1 e
 | set S n=>obtain ⟨o,_,_,_,e,_⟩:=x;exact xA1 e
 | ins C dx fs=>obtain ⟨_,_,_,e,_⟩:=x;exact xA1 e
 | own y=>obtain ⟨_,e⟩:=x;exact xA1 e
 | xd fs=>obtain ⟨_,⟨_,_,_,e,_⟩,_⟩:=x;exact xA1 e
 | rng lo hi=>obtain ⟨_,_,_,e⟩:=x;exact xA1 e
 | frz ob u=>obtain ⟨e,_⟩:=x;exact xA1 e
 | tbl ps=>exact xA1 (show h.get? a=some _ from x)
 | met f y=>exact xA1 (show h.get? a=some _ from x)
 | ext φ=>obtain ⟨_,⟨_,e⟩,_⟩:=x;exact xA1 e
theorem Paired.mapP {α β:Type} {F G:α→β→Prop}:∀ {l₁:List α} {l₂:List β},Paired F l₁ l₂→(∀ a b,F a b→G a b)→Paired G l₁ l₂
 | _,_,.nil,_=>.nil
 | _,_,.cons r t,f=>.cons (f _ _ r) (Paired.mapP t f)
theorem ObjOk.stay (x:ObjOk P w H h a o) (k:∀ b u,(b=a∨H b=some (.own a))→h.get? b=some u→h'.get? b=some u)
  (ho:∀ b,H b=some (.own a)→H' b=some (.own a)) (ht:∀ b xs,H b=some (.tup xs)→H' b=some (.tup xs)):ObjOk P w H' h' a o:=by
 induction o with
 | lst xs=>obtain ⟨z,its,n,r,e⟩:=x;exact ⟨z,its,n,r,k _ _ (.inl rfl) e⟩
 | tup xs=>obtain ⟨z,its,r,ob,e,c⟩:=x;exact ⟨z,its,r,ob,k _ _ (.inl rfl) e,c⟩
 | dK kvs=>obtain ⟨z,y,vs,r,ob,es,ep,e,c⟩:=x;exact ⟨z,y,vs,r,ob,es,ep,k _ _ (.inl rfl) e,c⟩
 | dT kvs =>
  obtain ⟨z,y,xs,r,ob,es,ep,e,c⟩:=x
  exact ⟨z,y,xs,Paired.mapP r fun p q z=>⟨z.1,ht _ _ z.2.1,z.2.2⟩,ob,es,ep,k _ _ (.inl rfl) e,c⟩
 | set S n=>obtain ⟨ob,es,ep,t,e,c⟩:=x;exact ⟨ob,es,ep,t,k _ _ (.inl rfl) e,c⟩
 | ins C dx fs =>
  obtain ⟨d,z,ne,e,mA,⟨od,es,ep,e2,c⟩,r⟩:=x
  exact ⟨ho _ d,z,ne,k _ _ (.inl rfl) e,mA,⟨od,es,ep,k _ _ (.inr d) e2,c⟩,r⟩
 | own y=>obtain ⟨ob,e⟩:=x;exact ⟨ob,k _ _ (.inl rfl) e⟩
 | xd fs=>obtain ⟨mA,⟨od,es,ep,e,c⟩,r⟩:=x;exact ⟨mA,⟨od,es,ep,k _ _ (.inl rfl) e,c⟩,r⟩
 | rng lo hi=>obtain ⟨t,u,v,e⟩:=x;exact ⟨t,u,v,k _ _ (.inl rfl) e⟩
 | frz ob u ih=>obtain ⟨e,q⟩:=x;exact ⟨k _ _ (.inl rfl) e,ih q⟩
 | tbl ps =>
  have e:h.get? a=some { cls:=.none,data:=.fields ps }:=x
  show h'.get? a=some { cls:=.none,data:=.fields ps }
  exact k a _ (.inl rfl) e
 | met f y =>
  have e:h.get? a=some (PySem.W.methodObj (.ref f) (.ref y)):=x
  show h'.get? a=some (PySem.W.methodObj (.ref f) (.ref y))
  exact k a _ (.inl rfl) e
 | ext φ=>obtain ⟨p,⟨o,e⟩,st⟩:=x;exact ⟨st _ _ p fun o q=>k _ _ (.inl rfl) q,⟨o,k _ _ (.inl rfl) e⟩,st⟩
theorem HOk.lt (x:HOk P w H h) (e:H a=some o):a<h.objs.size:=(x a o e).lt
theorem HOk.fresh (x:HOk P w H h) (e:h.objs.size≤a):H a=none:=by
 cases q:H a with
 | none=>rfl
 | some u=>exact absurd (xBc (x.lt q) e) (xBo _)
theorem HOk.kept (x:HOk P w H h) (k:∀ b u,h.get? b=some u→h'.get? b=some u):HOk P w H h':=fun a o e =>
 (x a o e).stay (fun b u _ q=>k b u q) (fun _ q=>q) fun _ _ q=>q
theorem HOk.laid (x:HOk P w H h) (k:∀ b u,h.get? b=some u→h'.get? b=some u) (hp:h.objs.size≤a) (new:ObjOk P w (upd H a o) h' a o):HOk P w (upd H a o) h':=fun b u e=>by
 have hn:=x.fresh hp
 by_cases hb:b=a
 ·subst hb;rw [ah] at e;cases e;exact new
 ·rw [am hb] at e
  exact (x b u e).stay (fun c v _ q=>k c v q) (fun c q=>by rw [am (aH q hn)];exact q) fun c xs q=>by rw [am (aH q hn)];exact q
end
def Rd (H:Hp) (a:Addr) (u:HO):Prop:=H a=some u∨∃ o,H a=some (.frz o u)
theorem Rd.ok {P:Program} {w:World} {H:Hp} {h:Heap} {a:Addr} {u:HO} (r:Rd H a u) (x:HOk P w H h):ObjOk P w H h a u:=by
 rcases r with r | ⟨o,r⟩
 ·exact x a u r
 ·obtain ⟨_,q⟩:=x a _ r
  exact q
def Mut:Option HO→Prop
 | some (.lst _)=>True
 | some (.dK _)=>True
 | some (.dT _)=>True
 | some (.set _ _)=>True
 | some (.ins _ _ _)=>True
 | some (.ext _)=>True
 | _=>False
section
variable {P:Program} {w:World} {H:Hp} {h h':Heap} {x e:Addr} {o':HO}
theorem HOk.write (ok:HOk P w H h) (mu:Mut (H x)) (he:e=x∨H e=some (.own x)) (k:∀ b u,b≠e→h.get? b=some u→h'.get? b=some u) (heo:∃ u,h'.get? e=some u)
  (new:ObjOk P w (upd H x o') h' x o'):HOk P w (upd H x o') h':=fun b u q=>by
 have nown:∀ c y,H c=some (.own y)→c≠x:=fun c y r z=>by subst z;rw [r] at mu;exact mu
 have ntup:∀ c xs,H c=some (.tup xs)→c≠x:=fun c xs r z=>by subst z;rw [r] at mu;exact mu
 by_cases hb:b=x
 ·subst hb;rw [ah] at q;cases q;exact new
 ·rw [am hb] at q
  by_cases hbe:b=e
  ·have q':H b=some (.own x):=by
    rcases he with z | z
    ·exact absurd (hbe.trans z) hb
    ·rw [hbe];exact z
   rw [q] at q';cases q'
   obtain ⟨v,hv⟩:=heo
   exact ⟨v,by rw [hbe];exact hv⟩
  ·refine (ok b u q).stay (fun c v hc r=>k c v ?_ r) (fun c r=>by rw [am (nown c b r)];exact r) fun c xs r=>by rw [am (ntup c xs r)];exact r
   rcases hc with rfl | hc
   ·exact hbe
   ·rintro rfl
    rcases he with z | z
    ·exact nown c b hc z
    ·rw [hc] at z;cases z;exact hb rfl
end
structure Un (fs ex:List Addr) (H H':Hp) (h h':Heap):Prop where
 keep:∀ b o,h.get? b=some o→H b=none→b ∉ fs→b ∉ ex→h'.get? b=some o
 slot:∀ b o,h.get? b=some o→H b=none→b∈fs→b ∉ ex→∃ sl,h'.get? b=some { o with slots:=sl }
 free:∀ b o,h.get? b=some o→H b=none→b ∉ ex→H' b=none
 there:∀ b o,h.get? b=some o→b ∉ ex→∃ o',h'.get? b=some o'
 tups:∀ b xs,H b=some (.tup xs)→H' b=some (.tup xs)
 frzs:∀ b o u,H b=some (.frz o u)→H' b=some (.frz o u)
 tbls:∀ b ps,H b=some (.tbl ps)→∃ more,H' b=some (.tbl (ps++more))
section
variable {fs fs' ex ex':List Addr} {H H1 H2:Hp} {h h1 h2 h':Heap} {a x e:Addr} {o:HO}
theorem Un.any (u:Un fs ex H H1 h h1) {b:Addr} {ob:Obj} (q:h.get? b=some ob) (n:H b=none) (hx:b ∉ ex):∃ sl,h1.get? b=some { ob with slots:=sl }:=by
 by_cases hb:b∈fs
 ·exact u.slot b ob q n hb hx
 ·exact ⟨ob.slots,u.keep b ob q n hb hx⟩
theorem Un.kept (k:∀ b u,h.get? b=some u→h'.get? b=some u):Un fs ex H H h h' :=
 ⟨fun b ob q _ _ _=>k b ob q,fun b ob q _ _ _=>⟨ob.slots,k b ob q⟩,fun _ _ _ n _=>n,fun b ob q _=>⟨ob,k b ob q⟩,fun _ _ q=>q,fun _ _ _ q=>q,fun _ ps q=>⟨#[],by rw [q];simp⟩⟩
theorem Un.refl:Un fs ex H H h h:=Un.kept fun _ _ q=>q
theorem Un.laid (k:∀ b u,h.get? b=some u→h'.get? b=some u) (hp:h.objs.size≤a) (hn:H a=none):Un fs ex H (upd H a o) h h' where
 keep:=fun b u q _ _ _=>k b u q
 slot:=fun b u q _ _ _=>⟨u.slots,k b u q⟩
 free:=fun b u q n _=>by rw [am (xA0 (xBc (xA1 q) hp))];exact n
 there:=fun b u q _=>⟨u,k b u q⟩
 tups:=fun b xs q=>by rw [am (aH q hn)];exact q
 frzs:=fun b u xs q=>by rw [am (aH q hn)];exact q
 tbls:=fun b ps q=>⟨#[],by rw [am (aH q hn),q];simp⟩
theorem Un.write (mu:Mut (H x)) (he:e=x∨H e=some (.own x)) (k:∀ b u,b≠e→h.get? b=some u→h'.get? b=some u) (heo:∃ u,h'.get? e=some u):Un fs ex H (upd H x o) h h':=by
 have hx:∀ b,H b=none→b≠x:=fun b n z=>by subst z;rw [n] at mu;exact mu
 have hb:∀ b,H b=none→b≠e:=fun b n z=>by
  subst z
  rcases he with r | r
  ·exact hx b n r
  ·rw [n] at r;cases r
 have hm:∀ b u,H b=some u→¬ Mut (some u)→b≠x:=fun b u q nm z=>by subst z;rw [q] at mu;exact nm mu
 refine ⟨fun b u q n _ _=>k b u (hb b n) q,fun b u q n _ _=>⟨u.slots,k b u (hb b n) q⟩,fun b u q n _=>by rw [am (hx b n)];exact n,fun b u q _=>?_,
  fun b xs q=>by rw [am (hm b _ q fun z=>z)];exact q,fun b u xs q=>by rw [am (hm b _ q fun z=>z)];exact q,fun b ps q=>⟨#[],by rw [am (hm b _ q fun z=>z),q];simp⟩⟩
 by_cases hbe:b=e
 ·subst hbe;exact heo
 ·exact ⟨u,k b u hbe q⟩
end
def trk (h:Heap) (H:Hp):List Addr:=(List.range h.objs.size).filter fun a=>(H a).isSome
def hidT (h:Heap) (H:Hp):Heap:=PySem.W.hideAll h (trk h H)
theorem mC (h:Heap) (H:Hp):(hidT h H).objs.size=h.objs.size:=PySem.W.hideAll_size _ _
theorem oR {h:Heap} {H:Hp} {b:Addr} {o:Obj} (e:h.get? b=some o) (n:H b=none):(hidT h H).get? b=some o :=
 PySem.W.hideAll_get _ e fun hm=>by
  have q:(H b).isSome=true:=(List.mem_filter.mp hm).2
  rw [n] at q;simp at q
theorem qX {h:Heap} {H:Hp} {b:Addr} {o:Obj} (e:(hidT h H).get? b=some o):h.get? b=some o∧H b=none:=by
 have e':h.get? b=some o:=PySem.W.of_hideAll (trk h H) e
 refine ⟨e',?_⟩
 cases q:H b with
 | none=>rfl
 | some x =>
  have hm:b∈trk h H:=List.mem_filter.mpr ⟨List.mem_range.mpr (xA1 e'),by simp [q]⟩
  have z:(hidT h H).get? b=none:=PySem.W.hideAll_none (trk h H) hm
  rw [z] at e;cases e
end L2
namespace L2
open PySem PySem.Spec PyProof.Rows
structure Mod (K:xFr) (mg:Str→Option Value) (base:Heap):Prop where
 kin:K.In base
 glob:base.Ns mainGlobals mg
 blt:∃ mb,base.Ns builtinsNs mb∧∀ x:Str,x≠"__name__"→mb x=bootBuiltins x
 nolimit:base.NoLimit
structure Cx where
 prog:Program
 w:World
 K:xFr
 mg:Str→Option Value
 base:Heap
 A:Around
 N:List Str
 s₀:Shared
 H₀:Hp
 env:Env
 outer:List Env
 stack:List Env
 ex:List Addr
 fn:Str→Bool
 calm:Bool
 pn:List (Addr×Obj)
 xe:Value→Shared→Prop
def frs (l:List Env):List Addr:=l.filterMap (·.frame)
abbrev Cx.fs (X:Cx):List Addr:=frs X.outer
def Vis (sc:Scope) (x:Str):Prop:=sc.names.lookup x=some .local∨sc.names.lookup x=some .cell∨sc.names.lookup x=some .free
def Loc (sc:Scope) (x:Str):Prop:=sc.names.lookup x=some .local∨sc.names.lookup x=some .cell
def Look (env:Env) (h:Heap) (m:Str→Option Value) (x:Str) (u:Value):Prop :=
 (env.kindOf x=some .local∧m x=some u)∨((env.kindOf x=some .cell∨env.kindOf x=some .free)∧∃ c,env.cells.lookup x=some c∧h.IsCell c (some u))
structure Cx.Ok (X:Cx):Prop where
 mod:Mod X.K X.mg X.base
 kind:X.env.scope.kind = .function
 glob:X.env.globals=mainGlobals
 blt:X.env.builtins=builtinsNs
 above:X.s₀.heap.objs.size≤X.env.locals
 inj:∀ x y c,X.env.cells.lookup x=some c→X.env.cells.lookup y=some c→x=y
 has:∀ x,(X.env.kindOf x=some .cell∨X.env.kindOf x=some .free)→∃ c,X.env.cells.lookup x=some c
 cab:∀ x c,X.fn x=true→X.env.cells.lookup x=some c→X.s₀.heap.objs.size≤c
 hd:X.calm=true→X.A.handled=none
 frames:X.A.frames=some X.stack
 stk:X.stack=X.outer∨(X.stack=X.env::X.outer∧X.env.frame=some X.env.locals)
 exf:∀ b∈X.ex,b≠X.env.locals∧∀ x c,X.env.cells.lookup x=some c→c≠b
 bs:∀ b o,X.base.get? b=some o→X.s₀.heap.get? b=some o∧X.H₀ b=none
 bsz:X.base.objs.size≤X.s₀.heap.objs.size
 noex:∀ b o,X.base.get? b=some o→b ∉ X.ex
 exfs:∀ b∈X.ex,b ∉ X.fs
 funs:X.s₀.heap.FunFrames X.base X.outer
 frf:∀ b∈X.fs,X.H₀ b=none
structure Inv (X:Cx) (pins:List (Addr×Obj)) (σ:List (Option V)) (H:Hp) (s:Shared):Prop where
 ok:X.Ok
 os:s.os=X.s₀.os
 bare:AllBare s.gens
 base:Un X.fs X.ex X.H₀ H X.s₀.heap s.heap
 loc:∃ m,s.heap.Ns X.env.locals m∧∀ (i:Nat) (x:Str) (v:V),X.N[i]?=some x→σ[i]?=some (some v)→Vis X.env.scope x→∃ u,RelV v u∧Look X.env s.heap m x u
 cell:∀ x c,X.env.cells.lookup x=some c→∃ v,s.heap.IsCell c v
 free:H X.env.locals=none
 freeC:∀ x c,X.env.cells.lookup x=some c→H c=none
 pin:∀ p∈X.pn++pins,s.heap.get? p.1=some p.2∧H p.1=none∧p.1≠X.env.locals∧p.1 ∉ X.fs∧∀ v,p.2.data≠.cell v
 hok:HOk X.prog X.w H s.heap
 len:σ.length=X.N.length
section
variable {X:Cx} {pins:List (Addr×Obj)} {σ:List (Option V)} {H H':Hp} {s:Shared} {h':Heap}
theorem Cx.Ok.nofr (ok:X.Ok) {b:Addr} {o:Obj} (e:X.base.get? b=some o):b ∉ X.fs:=fun hb=>by
 have:=(ok.funs.mem hb).1
 rw [e] at this;cases this
theorem Inv.bs (I:Inv X pins σ H s):∀ b o,X.base.get? b=some o→s.heap.get? b=some o∧H b=none:=fun b o e =>
 ⟨I.base.keep b o (I.ok.bs b o e).1 (I.ok.bs b o e).2 (I.ok.nofr e) (I.ok.noex b o e),I.base.free b o (I.ok.bs b o e).1 (I.ok.bs b o e).2 (I.ok.noex b o e)⟩
theorem Inv.bk (I:Inv X pins σ H s):∀ b o,X.base.get? b=some o→s.heap.get? b=some o:=fun b o e=>(I.bs b o e).1
theorem Inv.mod (I:Inv X pins σ H s):Mod X.K X.mg X.base:=I.ok.mod
theorem Inv.kIn (I:Inv X pins σ H s):X.K.In s.heap:=I.ok.mod.kin.keeps I.bk
theorem Inv.lt (I:Inv X pins σ H s):X.env.locals<s.heap.objs.size:=let ⟨_,hn,_⟩:=I.loc;hn.lt
theorem Inv.sz (I:Inv X pins σ H s):X.s₀.heap.objs.size≤s.heap.objs.size:=Nat.le_trans I.ok.above (Nat.le_of_lt I.lt)
theorem Inv.nofs (I:Inv X pins σ H s) {a:Addr} (h:s.heap.objs.size≤a):a ∉ X.fs:=fun hb=>by
 obtain ⟨_,o,ho,_⟩:=I.ok.funs.mem hb
 exact absurd (xBc (xA1 ho) (Nat.le_trans I.sz h)) (xBo _)
theorem Inv.cne (I:Inv X pins σ H s):∀ x c,X.env.cells.lookup x=some c→c≠X.env.locals:=fun x c e z=>by
 obtain ⟨v,o,ho,hd⟩:=I.cell x c e
 obtain ⟨m,⟨o',es,ep,ho',hd',_⟩,_⟩:=I.loc
 rw [z,ho'] at ho;cases ho;rw [hd'] at hd;cases hd
theorem Inv.funs (I:Inv X pins σ H s):s.heap.FunFrames X.base X.outer:=by
 have all:∀ (l:List Env),(∀ b∈frs l,b∈X.fs)→X.s₀.heap.FunFrames X.base l→s.heap.FunFrames X.base l:=by
  intro l
  induction l with
  | nil=>intro _ _;trivial
  | cons env r ih =>
   intro hs hl
   obtain ⟨hk,⟨L,o,hf,hn,ho,hd⟩,hr⟩:=hl
   have hL:L∈X.fs:=hs L (by unfold frs;rw [List.filterMap_cons,hf];exact xAr)
   obtain ⟨sl,e⟩:=I.base.slot L o ho (I.ok.frf L hL) hL fun z=>I.ok.exfs L z hL
   exact ⟨hk,⟨L,_,hf,hn,e,hd⟩,ih (fun b hb=>hs b (by unfold frs;rw [List.filterMap_cons,hf];exact xAs _ hb)) hr⟩
 exact all X.outer (fun _ hb=>hb) I.ok.funs
theorem Inv.stack (I:Inv X pins σ H s):s.heap.FunFrames X.base X.stack:=by
 rcases I.ok.stk with e | ⟨e,hf⟩
 ·rw [e];exact I.funs
 ·rw [e]
  obtain ⟨m,hn,_⟩:=I.loc
  refine .cons (by rw [I.ok.kind];decide) hf hn ?_ I.funs
  exact Heap.get?_none_of_le (Nat.le_trans I.ok.bsz I.ok.above)
theorem Inv.stkSub (I:Inv X pins σ H s):∀ b∈frs X.stack,b∈X.env.locals::X.fs:=fun b hb=>by
 rcases I.ok.stk with e | ⟨e,hf⟩
 ·rw [e] at hb;exact xAs _ hb
 ·rw [e] at hb
  unfold frs at hb
  rw [List.filterMap_cons,hf] at hb
  exact hb
theorem Inv.stkFree (I:Inv X pins σ H s):∀ b∈frs X.stack,H b=none:=fun b hb=>by
 rcases xAv.mp (I.stkSub b hb) with e | hb
 ·rw [e];exact I.free
 ·obtain ⟨_,o,ho,_⟩:=I.ok.funs.mem hb
  exact I.base.free b o ho (I.ok.frf b hb) fun z=>I.ok.exfs b z hb
theorem Inv.step {g':Array GenState} {t':Nat} {d':Drawn} {ch:List Addr} (I:Inv X pins σ H s)
  (hch:∀ b∈ch,(b∈X.ex∨X.s₀.heap.objs.size≤b)∧b≠X.env.locals∧(∀ x c,X.env.cells.lookup x=some c→c≠b)∧∀ p∈X.pn++pins,p.1≠b)
  (keep:∀ b o,b≠X.env.locals→b ∉ X.fs→b ∉ ch→s.heap.get? b=some o→H b=none→h'.get? b=some o)
  (slot:∀ b o,b≠X.env.locals→b∈X.fs→b ∉ ch→s.heap.get? b=some o→H b=none→∃ sl,h'.get? b=some { o with slots:=sl }) (free:∀ b o,b ∉ ch→s.heap.get? b=some o→H b=none→H' b=none)
  (there:∀ b o,b ∉ ch→s.heap.get? b=some o→∃ o',h'.get? b=some o')
  (tups:∀ b xs,H b=some (.tup xs)→H' b=some (.tup xs)) (frzs:∀ b o u,H b=some (.frz o u)→H' b=some (.frz o u)) (tbls:∀ b ps,H b=some (.tbl ps)→∃ more,H' b=some (.tbl (ps++more)))
  (ns:∀ m,s.heap.Ns X.env.locals m→h'.Ns X.env.locals m) (hok:HOk X.prog X.w H' h') (hg:AllBare g') :
  Inv X pins σ H' { s with heap:=h',gens:=g',drawn:=d',toks:=t' }:=by
 have neL:∀ b o,X.s₀.heap.get? b=some o→b≠X.env.locals:=fun b o e=>xA0 (xBc (xA1 e) I.ok.above)
 have neC:∀ b o,X.s₀.heap.get? b=some o→b ∉ X.ex→b ∉ ch:=fun b o e hx hb=>by
  rcases (hch b hb).1 with z | z
  ·exact hx z
  ·exact absurd (xBc (xA1 e) z) (xBo _)
 have cellK:∀ x c,X.env.cells.lookup x=some c→∀ v,s.heap.IsCell c v→h'.IsCell c v:=fun x c e v ⟨o,ho,hd⟩=>by
  have nch:c ∉ ch:=fun z=>(hch c z).2.2.1 x c e rfl
  by_cases hc:c∈X.fs
  ·obtain ⟨sl,q⟩:=slot c o (I.cne x c e) hc nch ho (I.freeC x c e)
   exact ⟨_,q,hd⟩
  ·exact ⟨o,keep c o (I.cne x c e) hc nch ho (I.freeC x c e),hd⟩
 refine ⟨I.ok,I.os,hg,⟨fun b o e n hb hx=>?_,fun b o e n hb hx=>?_,fun b o e n hx=>?_,fun b o e hx=>?_,fun b xs e=>tups b xs (I.base.tups b xs e),fun b o xs e=>frzs b o xs (I.base.frzs b o xs e),fun b ps e=>?_⟩,?_,fun x c e=>?_,?_,fun x c e=>?_,fun p hp=>?_,hok,I.len⟩
 ·exact keep b o (neL b o e) hb (neC b o e hx) (I.base.keep b o e n hb hx) (I.base.free b o e n hx)
 ·obtain ⟨sl,e1⟩:=I.base.slot b o e n hb hx
  obtain ⟨sl',e2⟩:=slot b _ (neL b o e) hb (neC b o e hx) e1 (I.base.free b o e n hx)
  exact ⟨sl',e2⟩
 ·obtain ⟨o',e1⟩:=I.base.there b o e hx
  exact free b o' (neC b o e hx) e1 (I.base.free b o e n hx)
 ·obtain ⟨o',e1⟩:=I.base.there b o e hx
  exact there b o' (neC b o e hx) e1
 ·obtain ⟨m1,e1⟩:=I.base.tbls b ps e
  obtain ⟨m2,e2⟩:=tbls b _ e1
  exact ⟨m1++m2,by rw [e2,Array.append_assoc]⟩
 ·obtain ⟨m,hn,hl⟩:=I.loc
  refine ⟨m,ns m hn,fun i x v e1 e2 e3=>?_⟩
  obtain ⟨u,r,l⟩:=hl i x v e1 e2 e3
  refine ⟨u,r,?_⟩
  rcases l with l | ⟨k,c,e,z⟩
  ·exact .inl l
  ·exact .inr ⟨k,c,e,cellK x c e _ z⟩
 ·obtain ⟨v,z⟩:=I.cell x c e
  exact ⟨v,cellK x c e v z⟩
 ·obtain ⟨m,⟨o,_,_,ho,_⟩,_⟩:=I.loc
  exact free _ o (fun z=>(hch _ z).2.1 rfl) ho I.free
 ·obtain ⟨v,o,ho,hd⟩:=I.cell x c e
  exact free c o (fun z=>(hch c z).2.2.1 x c e rfl) ho (I.freeC x c e)
 ·obtain ⟨e,n,ne,nf,d⟩:=I.pin p hp
  have nch:p.1 ∉ ch:=fun z=>(hch p.1 z).2.2.2 p hp rfl
  exact ⟨keep p.1 p.2 ne nf nch e n,free p.1 p.2 nch e n,ne,nf,d⟩
theorem Inv.un {t':Nat} (I:Inv X pins σ H s) (u:Un X.fs [] H H' s.heap h') (hok:HOk X.prog X.w H' h'):Inv X pins σ H' { s with heap:=h',toks:=t' }:=by
 obtain ⟨m,⟨o,es,ep,ho,r⟩,_⟩:=id I.loc
 obtain ⟨sl,hL⟩:=u.any ho I.free (by simp)
 exact I.step (g':=s.gens) (d':=s.drawn) (ch:=[]) (fun _ z=>nomatch z) (fun b o _ hb _ e n=>u.keep b o e n hb (by simp)) (fun b o _ hb _ e n=>u.slot b o e n hb (by simp)) (fun b o _ e n=>u.free b o e n (by simp)) (fun b o _ e=>u.there b o e (by simp)) u.tups u.frzs u.tbls (fun m' hm=>by
  obtain ⟨o',es',ep',ho',r'⟩:=hm
  rw [ho] at ho';cases ho'
  exact ⟨_,es',ep',hL,r'⟩) hok I.bare
theorem Inv.call {g':Array GenState} {t':Nat} {d':Drawn} {ch:List Addr} (I:Inv X pins σ H s) (u:Un (frs X.stack) ch H H' s.heap h') (hok:HOk X.prog X.w H' h') (hg:AllBare g')
  (hch:∀ b∈ch,(b∈X.ex∨X.s₀.heap.objs.size≤b)∧b≠X.env.locals∧(∀ x c,X.env.cells.lookup x=some c→c≠b)∧∀ p∈X.pn++pins,p.1≠b) :
  Inv X pins σ H' { s with heap:=h',gens:=g',drawn:=d',toks:=t' }:=by
 obtain ⟨m,⟨o,es,ep,ho,r⟩,_⟩:=id I.loc
 obtain ⟨sl,hL⟩:=u.any ho I.free fun z=>(hch _ z).2.1 rfl
 exact I.step (ch:=ch) hch (fun b o hL hb hc e n=>u.keep b o e n (fun z=>(xAv.mp (I.stkSub b z)).elim hL hb) hc) (fun b o _ _ hc e n=>u.any e n hc) (fun b o hc e n=>u.free b o e n hc) (fun b o hc e=>u.there b o e hc) u.tups u.frzs u.tbls (fun m' hm=>by
  obtain ⟨o',es',ep',ho',r'⟩:=hm
  rw [ho] at ho';cases ho'
  exact ⟨_,es',ep',hL,r'⟩) hok hg
theorem Inv.turned {t':Nat} {it:Addr} (I:Inv X pins σ H s) (k:∀ b o,b≠it→s.heap.get? b=some o→h'.get? b=some o) (hn:H it=none) (hL:it≠X.env.locals)
  (h1:it∈X.ex∨X.s₀.heap.objs.size≤it) (h2:∀ x c,X.env.cells.lookup x=some c→c≠it) (h3:∀ p∈X.pn++pins,p.1≠it):Inv X pins σ H { s with heap:=h',toks:=t' }:=by
 have nit:∀ b u,H b=some u→b≠it:=fun b u e z=>by rw [z,hn] at e;cases e
 refine I.step (g':=s.gens) (d':=s.drawn) (ch:=[it]) (fun b hb=>?_) (fun b o _ _ hc e _=>k b o (fun z=>hc (by simp [z])) e) (fun b o _ _ hc e _=>⟨o.slots,k b o (fun z=>hc (by simp [z])) e⟩) (fun _ _ _ _ n=>n)
  (fun b o hc e=>⟨o,k b o (fun z=>hc (by simp [z])) e⟩) (fun _ _ e=>e) (fun _ _ _ e=>e) (fun b ps e=>⟨#[],by rw [e];simp⟩) (fun m hm=>?_) (fun b u e=>?_) I.bare
 ·have e:b=it:=by simpa using hb
  subst e
  exact ⟨h1,hL,h2,h3⟩
 ·obtain ⟨o,es,ep,ho,r⟩:=hm
  exact ⟨o,es,ep,k _ o (Ne.symm hL) ho,r⟩
 ·refine (I.hok b u e).stay (fun c v hc q=>k c v ?_ q) (fun _ q=>q) fun _ _ q=>q
  rcases hc with z | z
  ·rw [z];exact nit b u e
  ·exact nit c _ z
theorem Inv.tok (I:Inv X pins σ H s) (t:Nat):Inv X pins σ H { s with toks:=t }:=I.un (h':=s.heap) (t':=t) Un.refl I.hok
theorem Inv.kept {t':Nat} (I:Inv X pins σ H s) (k:∀ b u,s.heap.get? b=some u→h'.get? b=some u):Inv X pins σ H { s with heap:=h',toks:=t' }:=I.un (Un.kept k) (I.hok.kept k)
theorem Inv.laid {a:Addr} {o:HO} {t':Nat} (I:Inv X pins σ H s) (k:∀ b u,s.heap.get? b=some u→h'.get? b=some u) (hp:s.heap.objs.size≤a) (new:ObjOk X.prog X.w (upd H a o) h' a o) :
  Inv X pins σ (upd H a o) { s with heap:=h',toks:=t' }:=I.un (Un.laid k hp (I.hok.fresh hp)) (I.hok.laid k hp new)
theorem Inv.write {x e:Addr} {o:HO} {t':Nat} (I:Inv X pins σ H s) (mu:Mut (H x)) (he:e=x∨H e=some (.own x)) (k:∀ b u,b≠e→s.heap.get? b=some u→h'.get? b=some u) (heo:∃ u,h'.get? e=some u)
  (new:ObjOk X.prog X.w (upd H x o) h' x o):Inv X pins σ (upd H x o) { s with heap:=h',toks:=t' }:=I.un (Un.write mu he k heo) (I.hok.write mu he k heo new)
theorem Inv.pins_of {pins':List (Addr×Obj)} (I:Inv X pins σ H s) (h:∀ p∈pins',s.heap.get? p.1=some p.2∧H p.1=none∧p.1≠X.env.locals∧p.1 ∉ X.fs∧∀ v,p.2.data≠.cell v):Inv X pins' σ H s :=
 ⟨I.ok,I.os,I.bare,I.base,I.loc,I.cell,I.free,I.freeC,fun p hp=>(xAj.mp hp).elim (fun z=>I.pin p (List.mem_append_left _ z)) (h p),I.hok,I.len⟩
theorem jf {N:List Str} (hN:N.Nodup) {i j:Nat} {x:Str} (a:N[i]?=some x) (b:N[j]?=some x):i=j:=by
 obtain ⟨h1,e1⟩:=xAq.mp a
 obtain ⟨h2,e2⟩:=xAq.mp b
 exact (List.getElem_inj hN).mp (e1.trans e2.symm)
theorem gx {M:Model} {A:Around} {E:Value→Shared→Prop} {i:Nat} {x:Str} {v:V} {u:Value} {Q:Unit→Shared→Prop} (I:Inv X pins σ H s) (hN:X.N.Nodup) (hi:X.N[i]?=some x) (hx:Loc X.env.scope x) (r:RelV v u)
  (h:∀ s',Inv X pins (σ.set i (some v)) H s'→(∃ a,Heap.SameBut a s.heap s'.heap∧(a=X.env.locals∨X.env.cells.lookup x=some a))→Q () s') (hf:X.fn x=true∨X.env.scope.names.lookup x=some .local:=by first | exact .inl rfl | exact .inr rfl | assumption):wpAny M A (storeName X.env x u) Q E s:=by
 obtain ⟨m,hn,hl⟩:=id I.loc
 have hcls:(X.env.scope.kind == .class || (X.env.scope.kind == .module && X.env.locals != X.env.globals))=false:=by rw [I.ok.kind];rfl
 have hiσ:i<σ.length:=by rw [I.len];exact (xAq.mp hi).1
 have cne:=I.cne
 have tracked:∀ {a:Addr} {h':Heap},(∃ o,s.heap.get? a=some o∧H a=none)→Heap.SameBut a s.heap h'→HOk X.prog X.w H h':=fun {a h'} ha hs b ob e=>by
  obtain ⟨_,_,hfree⟩:=ha
  refine (I.hok b ob e).stay (fun c w' hc q=>(hs.2 c ?_).trans q) (fun _ q=>q) fun _ _ q=>q
  rintro rfl
  rcases hc with rfl | hc
  ·rw [hfree] at e;cases e
  ·rw [hfree] at hc;cases hc
 rcases hx with hk | hk
 ·refine wpAny_storeName_local hk hn (fun h' hn' hs=>?_) hcls
  obtain ⟨oL,_,_,hoL,_⟩:=id hn
  refine h _ ⟨I.ok,I.os,I.bare,⟨fun b o e n hb hx=>?_,fun b o e n hb hx=>?_,I.base.free,fun b o e hx=>?_,I.base.tups,I.base.frzs,I.base.tbls⟩,⟨_,hn',fun j y v' e1 e2 e3=>?_⟩,fun y c e=>?_,I.free,I.freeC,fun p hp=>?_,tracked ⟨oL,hoL,I.free⟩ hs,by simpa using I.len⟩ ⟨_,hs,.inl rfl⟩
  ·exact (hs.2 b (xA0 (xBc (xA1 e) I.ok.above))).trans (I.base.keep b o e n hb hx)
  ·obtain ⟨sl,e1⟩:=I.base.slot b o e n hb hx
   exact ⟨sl,(hs.2 b (xA0 (xBc (xA1 e) I.ok.above))).trans e1⟩
  ·obtain ⟨o',e1⟩:=I.base.there b o e hx
   exact ⟨o',(hs.2 b (xA0 (xBc (xA1 e) I.ok.above))).trans e1⟩
  ·by_cases hj:j=i
   ·subst hj
    rw [hi] at e1;cases e1
    rw [List.getElem?_set_self hiσ] at e2
    cases e2
    exact ⟨u,r,.inl ⟨hk,by simp⟩⟩
   ·rw [List.getElem?_set_ne (Ne.symm hj)] at e2
    obtain ⟨u',r',q⟩:=hl j y v' e1 e2 e3
    refine ⟨u',r',?_⟩
    rcases q with ⟨k,e⟩ | ⟨k,c,e,z⟩
    ·refine .inl ⟨k,?_⟩
     have:y≠x:=fun e=>hj (jf hN e1 (e ▸ hi))
     simp [this,e]
    ·exact .inr ⟨k,c,e,z.sameBut hs (cne y c e)⟩
  ·obtain ⟨w',z⟩:=I.cell y c e
   exact ⟨w',z.sameBut hs (cne y c e)⟩
  ·obtain ⟨e,n,ne,nf,d⟩:=I.pin p hp
   exact ⟨(hs.2 p.1 ne).trans e,n,ne,nf,d⟩
 ·have hfn:X.fn x=true:=by
   rcases hf with z | z
   ·exact z
   ·rw [z] at hk;cases hk
  obtain ⟨c,hc⟩:=I.ok.has x (.inl hk)
  obtain ⟨w',z⟩:=I.cell x c hc
  refine wpAny_storeName_cell I.ok.kind hk hc z (fun h' hc' hs=>?_)
  obtain ⟨oc,hoc,hocd⟩:=id z
  refine h { s with heap:=h' } ⟨I.ok,I.os,I.bare,⟨fun b o e n hb hx=>?_,fun b o e n hb hx=>?_,I.base.free,fun b o e hx=>?_,I.base.tups,I.base.frzs,I.base.tbls⟩,⟨m,hn.sameBut hs (Ne.symm (cne x c hc)),fun j y v' e1 e2 e3=>?_⟩,fun y c' e=>?_,I.free,I.freeC,fun p hp=>?_,tracked ⟨oc,hoc,I.freeC x c hc⟩ hs,by simpa using I.len⟩ ⟨c,hs,.inr hc⟩
  ·exact (hs.2 b (xA0 (xBc (xA1 e) (I.ok.cab x c hfn hc)))).trans (I.base.keep b o e n hb hx)
  ·obtain ⟨sl,e1⟩:=I.base.slot b o e n hb hx
   exact ⟨sl,(hs.2 b (xA0 (xBc (xA1 e) (I.ok.cab x c hfn hc)))).trans e1⟩
  ·obtain ⟨o',e1⟩:=I.base.there b o e hx
   exact ⟨o',(hs.2 b (xA0 (xBc (xA1 e) (I.ok.cab x c hfn hc)))).trans e1⟩
  ·by_cases hj:j=i
   ·subst hj
    rw [hi] at e1;cases e1
    rw [List.getElem?_set_self hiσ] at e2
    cases e2
    exact ⟨u,r,.inr ⟨.inl hk,c,hc,hc'⟩⟩
   ·rw [List.getElem?_set_ne (Ne.symm hj)] at e2
    obtain ⟨u',r',q⟩:=hl j y v' e1 e2 e3
    refine ⟨u',r',?_⟩
    rcases q with q | ⟨k,c',e,z'⟩
    ·exact .inl q
    ·refine .inr ⟨k,c',e,z'.sameBut hs ?_⟩
     rintro rfl
     exact hj (jf hN e1 (I.ok.inj _ _ _ e hc ▸ hi))
  ·by_cases hcc:c'=c
   ·subst hcc;exact ⟨_,hc'⟩
   ·obtain ⟨w2,z2⟩:=I.cell y c' e
    exact ⟨w2,z2.sameBut hs hcc⟩
  ·obtain ⟨e,n,ne,nf,d⟩:=I.pin p hp
   refine ⟨(hs.2 p.1 ?_).trans e,n,ne,nf,d⟩
   intro q
   rw [q,hoc] at e
   have q':oc=p.2:=xB3 e
   exact d w' (by rw [← q'];exact hocd)
theorem iO {M:Model} {A:Around} {E:Value→Shared→Prop} {i:Nat} {x:Str} {v:V} {u:Value} {Q:Unit→Shared→Prop} (I:Inv X pins σ H s) (hN:X.N.Nodup) (hi:X.N[i]?=some x) (hx:Loc X.env.scope x) (r:RelV v u)
  (h:∀ s',Inv X pins (σ.set i (some v)) H s'→Q () s') (hf:X.fn x=true∨X.env.scope.names.lookup x=some .local:=by first | exact .inl rfl | exact .inr rfl | assumption):wpAny M A (storeName X.env x u) Q E s :=
 gx I hN hi hx r (fun s' I' _=>h s' I') hf
theorem Inv.call' {s':Shared} {ch:List Addr} (I:Inv X pins σ H s) (ho:s'.os=s.os) (u:Un (frs X.stack) ch H H' s.heap s'.heap) (hok:HOk X.prog X.w H' s'.heap) (hg:AllBare s'.gens)
  (hch:∀ b∈ch,(b∈X.ex∨X.s₀.heap.objs.size≤b)∧b≠X.env.locals∧(∀ x c,X.env.cells.lookup x=some c→c≠b)∧∀ p∈X.pn++pins,p.1≠b):Inv X pins σ H' s':=by
 obtain ⟨h',g',d',t',o'⟩:=s'
 have e:o'=s.os:=ho
 subst e
 exact I.call (g':=g') (t':=t') (d':=d') u hok hg hch
end
abbrev XK:=Value→Option Addr→Hp→Prop
abbrev St:=List (Option V)
abbrev VK:=V→Hp→Prop
abbrev TE:=St→Hp→VK→Prop
abbrev TT:=St→Hp→(Bool→Hp→Prop)→Prop
abbrev TA:=St→Hp→(List V→Hp→Prop)→Prop
structure Ends where
 nx:St→Hp→Prop
 rt:VK
 bk:St→Hp→Prop:=fun _ _=>False
 ct:St→Hp→Prop:=fun _ _=>False
abbrev TS:=Ends→St→Hp→Prop
def EP (X:Cx) (pins:List (Addr×Obj)) (σ:St) (Q:VK) (u:Value) (s':Shared):Prop:=∃ v H',Inv X pins σ H' s'∧RelV v u∧Q v H'
def TP (X:Cx) (pins:List (Addr×Obj)) (σ:St) (Q:Bool→Hp→Prop) (b:Bool) (s':Shared):Prop:=∃ H',Inv X pins σ H' s'∧Q b H'
def AP (X:Cx) (pins:List (Addr×Obj)) (σ:St) (Q:List V→Hp→Prop) (us:List Value) (s':Shared):Prop:=∃ vs H',Inv X pins σ H' s'∧Vals vs us∧Q vs H'
def SP (X:Cx) (pins:List (Addr×Obj)) (D:Ends) (f:Flow) (s':Shared):Prop :=
 match f with
 | .next=>∃ σ' H',Inv X pins σ' H' s'∧D.nx σ' H'
 | .brk=>∃ σ' H',Inv X pins σ' H' s'∧D.bk σ' H'
 | .cont=>∃ σ' H',Inv X pins σ' H' s'∧D.ct σ' H'
 | .ret u=>∃ v σ' H',Inv X pins σ' H' s'∧RelV v u∧D.rt v H'
def PE (X:Cx) (e:Expr) (t:TE):Prop :=
 ∀ (pins:List (Addr×Obj)) (s:Shared) (σ:St) (H:Hp) (Q:VK),Inv X pins σ H s→t σ H Q→wpAny (model X.prog X.w) X.A (eval e X.env) (EP X pins σ Q) X.xe s
def PT (X:Cx) (e:Expr) (t:TT):Prop :=
 ∀ (pins:List (Addr×Obj)) (s:Shared) (σ:St) (H:Hp) (Q:Bool→Hp→Prop),Inv X pins σ H s→t σ H Q→wpAny (model X.prog X.w) X.A (isTrue e X.env (eval e X.env)) (TP X pins σ Q) X.xe s
def PW (X:Cx) (e:Expr) (t:TT):Prop :=
 ∀ (whole:Sem Value) (pins:List (Addr×Obj)) (s:Shared) (σ:St) (H:Hp) (Q:Bool→Hp→Prop),Inv X pins σ H s→t σ H Q→wpAny (model X.prog X.w) X.A (isTrue e X.env whole) (TP X pins σ Q) X.xe s
theorem PW.pt {X:Cx} {e:Expr} {t:TT} (h:PW X e t):PT X e t:=h _
def PA (X:Cx) (es:List Expr) (t:TA):Prop :=
 ∀ (pos:Pos) (pins:List (Addr×Obj)) (s:Shared) (σ:St) (H:Hp) (Q:List V→Hp→Prop),Inv X pins σ H s→t σ H Q→wpAny (model X.prog X.w) X.A (spliced (backTo pos (starEach es X.env))) (AP X pins σ Q) X.xe s
def PS (X:Cx) (st:Stmt) (t:TS):Prop :=
 ∀ (pins:List (Addr×Obj)) (s:Shared) (σ:St) (H:Hp) (D:Ends),Inv X pins σ H s→t D σ H→wpAny (model X.prog X.w) X.A (exec st X.env) (SP X pins D) X.xe s
def PSs (X:Cx) (st:List Stmt) (t:TS):Prop :=
 ∀ (pins:List (Addr×Obj)) (s:Shared) (σ:St) (H:Hp) (D:Ends),Inv X pins σ H s→t D σ H→wpAny (model X.prog X.w) X.A (execs st X.env) (SP X pins D) X.xe s
theorem thn {α:Type} {t:Sem α} {Q Q':α→Shared→Prop} {M:Model} {A:Around} {E:Value→Shared→Prop} {s:Shared} (h:wpAny M A t Q E s) (hQ:∀ a s,Q a s→Q' a s):wpAny M A t Q' E s:=wpAny_mono h hQ fun _ _ x=>x
end L2
namespace L2
open PySem PySem.Spec PyProof.Rows
section
variable {X:Cx}
def tVar (i:Nat):TE:=fun σ H Q=>∃ v,σ[i]?=some (some v)∧Q v H
def tC (v:V):TE:=fun _ H Q=>Q v H
theorem tI {i:Nat} {x:Str} {pos:Pos} (hN:X.N[i]?=some x) (hv:Vis X.env.scope x) (hd:(x == ("__debug__":Str))=false:=by decide) (hcd:(x == ("__classdict__":Str))=false:=by decide):PE X (.Name x pos) (tVar i):=by
 intro pins s σ H Q I h
 obtain ⟨v,e,h⟩:=h
 obtain ⟨m,hn,hl⟩:=I.loc
 obtain ⟨u,r,l⟩:=hl i x v hN e hv
 have fin:EP X pins σ Q u s:=⟨v,H,I,r,h⟩
 rcases l with ⟨hk,hm⟩ | ⟨hk,c,hc,hcell⟩
 ·exact wpAny_Name (wpAny_loadName_local I.ok.kind hk hn hm fin) hd
 ·rcases hk with hk | hk
  ·exact wpAny_Name (wpAny_loadName_cell I.ok.kind hk hc hcell fin) hd
  ·exact wpAny_Name (wpAny_loadName_free I.ok.kind hk hc hcell fin hcd) hd
theorem tP {i j pos}:PE X (.Constant (.int i) j pos) (tC (.int i)):=fun _ _ _ H _ I h=>wpAny_Constant_int ⟨.int i,H,I.tok _,⟨_,rfl⟩,h⟩
theorem vo {b j pos}:PE X (.Constant (.bool b) j pos) (tC (.bl b)):=fun _ _ _ H _ I h=>Constant_bool ⟨.bl b,H,I,rfl,h⟩
theorem tM {j pos}:PE X (.Constant .none j pos) (tC .non):=fun _ _ _ H _ I h=>Constant_none ⟨.non,H,I,rfl,h⟩
theorem og {x j pos}:PE X (.Constant (.str x) j pos) (tC (.str x)):=fun _ _ _ H _ I h=>Calls.Constant_str ⟨.str x,H,I.tok _,⟨_,rfl⟩,h⟩
def Gl (X:Cx) (x:Str):Prop:=X.env.kindOf x=some .globalImplicit
theorem fG {E:Value→Shared→Prop} {pins:List (Addr×Obj)} {s:Shared} {σ:St} {H:Hp} {x:Str} {u:Value} {pos:Pos} {Q:Value→Shared→Prop} (I:Inv X pins σ H s) (hg:Gl X x) (hm:X.mg x=some u) (h:Q u s)
  (hd:(x == ("__debug__":Str))=false:=by decide):wpAny (model X.prog X.w) X.A (eval (.Name x pos) X.env) Q E s :=
 Calls.Name_function_global I.ok.kind hg (Calls.loadGlobal_global (by rw [I.ok.glob];exact I.mod.glob.keeps I.bk) hm h) hd
theorem dM {E:Value→Shared→Prop} {pins:List (Addr×Obj)} {s:Shared} {σ:St} {H:Hp} {x:Str} {u:Value} {pos:Pos} {Q:Value→Shared→Prop} (I:Inv X pins σ H s) (hg:Gl X x) (hm:X.mg x=none) (hv:bootBuiltins x=some u) (h:Q u s)
  (hn:x≠"__name__":=by decide) (hd:(x == ("__debug__":Str))=false:=by decide):wpAny (model X.prog X.w) X.A (eval (.Name x pos) X.env) Q E s:=by
 obtain ⟨mb,h1,h2⟩:=I.mod.blt
 exact Calls.Name_function_global I.ok.kind hg (Calls.loadGlobal_builtin (by rw [I.ok.glob];exact I.mod.glob.keeps I.bk) hm (by rw [I.ok.blt];exact h1.keeps I.bk) ((h2 x hn).trans hv) h) hd
theorem iq {x:Str} {v:V} {u:Value} {pos:Pos} (hg:Gl X x) (hm:X.mg x=some u) (r:RelV v u) (hd:(x == ("__debug__":Str))=false:=by decide):PE X (.Name x pos) (tC v) :=
 fun _ _ _ H _ I h=>fG I hg hm ⟨v,H,I,r,h⟩ hd
theorem qM {x:Str} {v:V} {u:Value} {pos:Pos} (hg:Gl X x) (hm:X.mg x=none) (hv:bootBuiltins x=some u) (r:RelV v u) (hn:x≠"__name__":=by decide) (hd:(x == ("__debug__":Str))=false:=by decide):PE X (.Name x pos) (tC v) :=
 fun _ _ _ H _ I h=>dM I hg hm hv ⟨v,H,I,r,h⟩ hn hd
variable {a b:Expr} {ta tb:TE} {pos:Pos}
def PC (X:Cx) (op:CmpOp) (a b:Expr) (t:TE):Prop :=
 ∀ (pins:List (Addr×Obj)) (s:Shared) (σ:St) (H:Hp) (Q:VK),Inv X pins σ H s→t σ H Q →
  wpAny (model X.prog X.w) X.A (eval a X.env) (fun v s₁=>wpAny (model X.prog X.w) X.A (eval b X.env) (fun u s₂=>wpAny (model X.prog X.w) X.A (compareOp op v u) (EP X pins σ Q) X.xe s₂) X.xe s₁) X.xe s
theorem nobehind (b:Expr) {op:CmpOp} (h:op≠.In) (h2:op≠.NotIn):behindInMarks op b=false:=by
 have e1:(op == CmpOp.In)=false:=by cases op <;> first | rfl | exact absurd rfl h
 have e2:(op == CmpOp.NotIn)=false:=by cases op <;> first | rfl | exact absurd rfl h2
 cases b <;> simp [behindInMarks,e1,e2]
def tB (t:TE):TT:=fun σ H Q=>t σ H fun x H1=>∃ c,x = .bl c∧Q c H1
theorem tp {op:CmpOp} {t:TE} (h:PC X op a b t) (h1:behindInMarks op b=false:=by first | exact nobehind _ (by decide) (by decide) | rfl):PT X (.Compare a [op] [b] pos) (tB t):=by
 intro pins s σ H Q I hw
 refine wpAny_isTrue_Compare1 (thn (h pins s σ H _ I hw) fun v s1 h1=>thn h1 fun u s2 h2=>thn h2 fun c s3 ⟨x,H1,I1,r1,q1⟩=>?_) h1
 obtain ⟨d,rfl,q⟩:=q1
 cases r1
 exact wpAny_truthy_bool ⟨H1,I1,q⟩
theorem tj {e:Expr} {t:TE} (h:PE X e t) (he:∀ whole,isTrue e X.env whole=(do let v ← whole;standAt e.pos;holding [v] (truthy v)):=by intro _;rfl):PT X e (tB t):=by
 intro pins s σ H Q I hw
 refine isTrue_plain (thn (h pins s σ H _ I hw) fun v s1 ⟨x,H1,I1,r1,q1⟩=>?_) (he _)
 obtain ⟨d,rfl,q⟩:=q1
 cases r1
 exact wpAny_truthy_bool ⟨H1,I1,q⟩
variable {tA tB':TT} {rest:List Expr}
def tAnd (t u:TT):TT:=fun σ H Q=>t σ H fun c H1=>if c=true then u σ H1 Q else Q false H1
def tOr (t u:TT):TT:=fun σ H Q=>t σ H fun c H1=>if c=true then Q true H1 else u σ H1 Q
def tNot (t:TT):TT:=fun σ H Q=>t σ H fun c H1=>Q (!c) H1
theorem qh (ha:PT X a tA):PW X (.BoolOp .And [a] pos) tA:=by
 intro wh pins s σ H Q I h
 refine isTrue_and (thn (ha pins s σ H Q I h) fun c s1 e=>?_)
 cases c with
 | true=>exact isTrue_and_nil e
 | false=>exact e
theorem tf (ha:PT X a tA):PW X (.BoolOp .Or [a] pos) tA:=by
 intro wh pins s σ H Q I h
 refine isTrue_or (thn (ha pins s σ H Q I h) fun c s1 e=>?_)
 cases c with
 | false=>exact isTrue_or_nil e
 | true=>exact e
theorem ti (ha:PT X a tA) (hb:PW X (.BoolOp .And (b::rest) pos) tB'):PW X (.BoolOp .And (a::b::rest) pos) (tAnd tA tB'):=by
 intro wh pins s σ H Q I h
 refine isTrue_and (thn (ha pins s σ H _ I h) fun c s1 ⟨H1,I1,q1⟩=>?_)
 cases c with
 | true=>exact hb wh pins s1 σ H1 Q I1 q1
 | false=>exact ⟨H1,I1,q1⟩
theorem u6 (ha:PT X a tA) (hb:PW X (.BoolOp .Or (b::rest) pos) tB'):PW X (.BoolOp .Or (a::b::rest) pos) (tOr tA tB'):=by
 intro wh pins s σ H Q I h
 refine isTrue_or (thn (ha pins s σ H _ I h) fun c s1 ⟨H1,I1,q1⟩=>?_)
 cases c with
 | true=>exact ⟨H1,I1,q1⟩
 | false=>exact hb wh pins s1 σ H1 Q I1 q1
theorem tm (ha:PT X a tA):PT X (.UnaryOp .Not a pos) (tNot tA):=by
 intro pins s σ H Q I h
 exact isTrue_not (ha pins s σ H (fun c H1=>Q (!c) H1) I h)
def tAndV (ta tb:TE):TE:=fun σ H Q=>ta σ H fun x H1=>∃ c,x = .bl c∧if c=true then tb σ H1 Q else Q (.bl false) H1
def tOrV (ta tb:TE):TE:=fun σ H Q=>ta σ H fun x H1=>∃ c,x = .bl c∧if c=true then Q (.bl true) H1 else tb σ H1 Q
def tNotV (ta:TE):TE:=fun σ H Q=>ta σ H fun x H1=>∃ c,x = .bl c∧Q (.bl (!c)) H1
theorem tK {op} {t:TE} (h:PE X a t):PE X (.BoolOp op [a] pos) t:=fun pins s σ H Q I hw=>BoolOp_one (h pins s σ H Q I hw)
theorem tS (ha:PE X a ta) (hb:PE X (.BoolOp .And (b::rest) pos) tb):PE X (.BoolOp .And (a::b::rest) pos) (tAndV ta tb):=by
 intro pins s σ H Q I h
 refine BoolOp_and (thn (ha pins s σ H _ I h) fun v s1 ⟨x,H1,I1,r1,q1⟩=>?_)
 obtain ⟨c,rfl,q1⟩:=q1
 cases r1
 refine wpAny_truthy_bool ?_
 cases c with
 | true=>exact hb pins s1 σ H1 Q I1 q1
 | false=>exact ⟨.bl false,H1,I1,rfl,q1⟩
theorem vf (ha:PE X a ta) (hb:PE X (.BoolOp .Or (b::rest) pos) tb):PE X (.BoolOp .Or (a::b::rest) pos) (tOrV ta tb):=by
 intro pins s σ H Q I h
 refine BoolOp_or (thn (ha pins s σ H _ I h) fun v s1 ⟨x,H1,I1,r1,q1⟩=>?_)
 obtain ⟨c,rfl,q1⟩:=q1
 cases r1
 refine wpAny_truthy_bool ?_
 cases c with
 | false=>exact hb pins s1 σ H1 Q I1 q1
 | true=>exact ⟨.bl true,H1,I1,rfl,q1⟩
theorem tL (ha:PE X a ta):PE X (.UnaryOp .Not a pos) (tNotV ta):=by
 intro pins s σ H Q I h
 refine UnaryOp_ (thn (ha pins s σ H _ I h) fun v s1 ⟨x,H1,I1,r1,q1⟩=>?_)
 obtain ⟨c,rfl,q1⟩:=q1
 cases r1
 exact not_of (wpAny_truthy_bool ⟨.bl (!c),H1,I1,rfl,q1⟩)
def tIf (t:TT) (ta tb:TE):TE:=fun σ H Q=>t σ H fun c H1=>if c=true then ta σ H1 Q else tb σ H1 Q
theorem oi {c:Expr} (hc:PT X c tA) (ha:PE X a ta) (hb:PE X b tb):PE X (.IfExp c a b pos) (tIf tA ta tb):=by
 intro pins s σ H Q I h
 refine wpAny_IfExp (thn (hc pins s σ H _ I h) fun d s1 ⟨H1,I1,q1⟩=>?_)
 cases d with
 | true=>exact ha pins s1 σ H1 Q I1 q1
 | false=>exact hb pins s1 σ H1 Q I1 q1
end
end L2
namespace L2
open PySem PySem.Spec PyProof.Rows
def SqL (K:xFr) (H:Hp) (a:Addr) (xs:List V):Prop :=
 Rd H a (.lst xs) ∨
  ∃ (o:Obj) (its:Array Value) (n:Nat),K.lookup a=some o∧o.cls = .type "list"∧o.dict=none∧o.data = .seq its n∧its.size≤sizeLine∧Vals xs its.toList
def SqT (K:xFr) (H:Hp) (a:Addr) (xs:List V):Prop :=
 Rd H a (.tup xs) ∨
  ∃ (o:Obj) (its:Array Value) (n:Nat),K.lookup a=some o∧o.cls = .type "tuple"∧o.data = .seq its n∧its.size≤sizeLine∧Vals xs its.toList
def absV:Value→Option V
 | .none=>some .non
 | .bool b=>some (.bl b)
 | .int i _=>some (.int i)
 | .str x _=>some (.str x)
 | .bytes b _=>some (.byt b)
 | .float b _=>some (.flt b)
 | .ref a=>some (.ref a)
 | .type n=>some (.ty n)
 | _=>none
theorem RelV.abs {x:V} {u:Value} (r:RelV x u):absV u=some x:=by
 cases x with
 | non=>cases r;rfl
 | bl _=>cases r;rfl
 | int _=>obtain ⟨t,rfl⟩:=r;rfl
 | str _=>obtain ⟨t,rfl⟩:=r;rfl
 | byt _=>obtain ⟨t,rfl⟩:=r;rfl
 | flt _=>obtain ⟨t,rfl⟩:=r;rfl
 | ref _=>cases r;rfl
 | ty _=>cases r;rfl
theorem RelV.inj {x y:V} {u:Value} (r:RelV x u) (q:RelV y u):x=y:=xB3 (r.abs.symm.trans q.abs)
theorem Vals.inj:∀ {xs ys:List V} {us:List Value},Vals xs us→Vals ys us→xs=ys
 | _,_,_,.nil,.nil=>rfl
 | _,_,_,.cons r t,.cons r' t'=>by rw [r.inj r',Vals.inj t t']
section
variable {X:Cx} {pins:List (Addr×Obj)} {σ:St} {H:Hp} {s:Shared} {a:Addr} {xs ys:List V}
theorem SqL.of {K:xFr} (h:H a=some (.lst xs)):SqL K H a xs:=.inl (.inl h)
theorem SqT.of {K:xFr} (h:H a=some (.tup xs)):SqT K H a xs:=.inl (.inl h)
theorem Inv.list (I:Inv X pins σ H s) (h:SqL X.K H a xs):∃ its:List Value,Vals xs its∧PlainL s.heap a its.toArray∧xs.length≤sizeLine:=by
 rcases h with h | ⟨o,its,n,hk,hc,hd,hs,hz,r⟩
 ·obtain ⟨z,its,n,r,e⟩:=h.ok I.hok
  exact ⟨its,r,⟨_,n,e,rfl,rfl,rfl⟩,z⟩
 ·refine ⟨its.toList,r,⟨o,n,I.kIn a o hk,hc,hd,by simpa using hs⟩,?_⟩
  have e:=r.length
  simp only [xAh] at e
  lia
theorem Inv.tuple (I:Inv X pins σ H s) (h:SqT X.K H a xs):∃ its:List Value,Vals xs its∧IsTup s.heap a its.toArray∧xs.length≤sizeLine:=by
 rcases h with h | ⟨o,its,n,hk,hc,hs,hz,r⟩
 ·obtain ⟨z,its,r,p⟩:=h.ok I.hok
  exact ⟨its,r,p,z⟩
 ·refine ⟨its.toList,r,⟨o,I.kIn a o hk,hc,n,by simpa using hs⟩,?_⟩
  have e:=r.length
  simp only [xAh] at e
  lia
theorem Inv.list_inj (I:Inv X pins σ H s) (h:SqL X.K H a xs) (h':SqL X.K H a ys):xs=ys:=by
 obtain ⟨its,r,⟨o,n,e,_,_,d⟩,_⟩:=I.list h
 obtain ⟨its',r',⟨o',n',e',_,_,d'⟩,_⟩:=I.list h'
 rw [e] at e';cases e'
 rw [d] at d'
 injection d' with d1 _
 have:its=its':=by simpa using congrArg Array.toList d1
 subst this
 exact r.inj r'
theorem Inv.tuple_inj (I:Inv X pins σ H s) (h:SqT X.K H a xs) (h':SqT X.K H a ys):xs=ys:=by
 obtain ⟨its,r,⟨o,e,_,n,d⟩,_⟩:=I.tuple h
 obtain ⟨its',r',⟨o',e',_,n',d'⟩,_⟩:=I.tuple h'
 rw [e] at e';cases e'
 rw [d] at d'
 injection d' with d1 _
 have:its=its':=by simpa using congrArg Array.toList d1
 subst this
 exact r.inj r'
end
abbrev Cx.wish (X:Cx) (E:Value→Shared→Prop):Cx:={ X with xe:=E }
abbrev Cx.nox (X:Cx):Cx:=X.wish fun _ _=>False
theorem Cx.Ok.wish {X:Cx} (ok:X.Ok) (E:Value→Shared→Prop):(X.wish E).Ok :=
 ⟨ok.mod,ok.kind,ok.glob,ok.blt,ok.above,ok.inj,ok.has,ok.cab,ok.hd,ok.frames,ok.stk,ok.exf,ok.bs,ok.bsz,ok.noex,ok.exfs,ok.funs,ok.frf⟩
theorem Cx.Ok.unwish {X:Cx} {E:Value→Shared→Prop} (ok:(X.wish E).Ok):X.Ok :=
 ⟨ok.mod,ok.kind,ok.glob,ok.blt,ok.above,ok.inj,ok.has,ok.cab,ok.hd,ok.frames,ok.stk,ok.exf,ok.bs,ok.bsz,ok.noex,ok.exfs,ok.funs,ok.frf⟩
section
variable {X:Cx} {pins:List (Addr×Obj)} {σ:St} {H:Hp} {s:Shared} {E:Value→Shared→Prop}
theorem Inv.wish (I:Inv X pins σ H s) (E:Value→Shared→Prop):Inv (X.wish E) pins σ H s:=⟨I.ok.wish E,I.os,I.bare,I.base,I.loc,I.cell,I.free,I.freeC,I.pin,I.hok,I.len⟩
theorem Inv.unwish (I:Inv (X.wish E) pins σ H s):Inv X pins σ H s:=⟨I.ok.unwish,I.os,I.bare,I.base,I.loc,I.cell,I.free,I.freeC,I.pin,I.hok,I.len⟩
theorem SP.unwish {D:Ends} {f:Flow} {s':Shared} (h:SP (X.wish E) pins D f s'):SP X pins D f s':=by
 cases f with
 | next=>obtain ⟨σ',H',I,q⟩:=h;exact ⟨σ',H',I.unwish,q⟩
 | brk=>obtain ⟨σ',H',I,q⟩:=h;exact ⟨σ',H',I.unwish,q⟩
 | cont=>obtain ⟨σ',H',I,q⟩:=h;exact ⟨σ',H',I.unwish,q⟩
 | ret u=>obtain ⟨v,σ',H',I,r,q⟩:=h;exact ⟨v,σ',H',I.unwish,r,q⟩
theorem PSs.nox {st:List Stmt} {t:TS} (h:PSs X.nox st t):PSs X st t:=fun pins s σ H D I hw =>
 wpAny_mono (h pins s σ H D (I.wish _) hw) (fun _ _ q=>q.unwish) fun _ _ z=>False.elim z
end
section
variable {X:Cx} {st:Stmt} {rest:List Stmt} {t u:TS} {e:Expr} {te:TE} {pos:Pos}
def tNext:TS:=fun D σ H=>D.nx σ H
def tSeq (t u:TS):TS:=fun D σ H=>t { D with nx:=u D } σ H
theorem qo:PSs X [] tNext:=fun _ _ σ H _ I h=>wpAny_execs_nil ⟨σ,H,I,h⟩
theorem nV (h1:PS X st t) (h2:PSs X rest u):PSs X (st::rest) (tSeq t u):=by
 intro pins s σ H D I h
 refine wpAny_execs_cons (thn (h1 pins s σ H { D with nx:=u D } I h) fun f s1 q=>?_)
 cases f with
 | next =>
  obtain ⟨σ',H',I',q⟩:=q
  exact h2 pins s1 σ' H' D I' q
 | ret v=>exact q
 | brk=>exact q
 | cont=>exact q
theorem qm (h1:PS X st t):PSs X [st] t:=by
 intro pins s σ H D I h
 refine wpAny_execs_cons (thn (h1 pins s σ H D I h) fun f s1 q=>?_)
 cases f with
 | next=>exact wpAny_execs_nil q
 | ret v=>exact q
 | brk=>exact q
 | cont=>exact q
theorem Inv.quiet {pins:List (Addr×Obj)} {σ:St} {H:Hp} {s:Shared} (I:Inv X pins σ H s):interactive X.env=false:=by simp [interactive,I.ok.kind]
def tDrop (te:TE):TS:=fun D σ H=>te σ H fun _ H1=>D.nx σ H1
theorem qp (he:PE X e te) (hs:swapsWith e none pos.line X.env=pure false:=by rfl):PS X (.Expr e pos) (tDrop te):=by
 intro pins s σ H D I h
 exact wpAny_Expr_any (thn (he pins s σ H _ I h) fun v s1 ⟨x,H1,I1,r1,q1⟩=>⟨σ,H1,I1,q1⟩) I.quiet hs
def tRet (te:TE):TS:=fun D σ H=>te σ H D.rt
theorem tu (he:PE X e te):PS X (.Return (some e) pos) (tRet te):=by
 intro pins s σ H D I h
 exact wpAny_Return_some (thn (he pins s σ H _ I h) fun v s1 ⟨x,H1,I1,r1,q1⟩=>⟨x,σ,H1,I1,r1,q1⟩)
def tIfS (c:TT) (t u:TS):TS:=fun D σ H=>c σ H fun b H1=>if b=true then t D σ H1 else u D σ H1
theorem u9 {c:Expr} {a b:List Stmt} {tc:TT} (hc:PT X c tc) (ha:PSs X a t) (hb:PSs X b u):PS X (.If c a b pos) (tIfS tc t u):=by
 intro pins s σ H D I h
 refine wpAny_If (thn (hc pins s σ H _ I h) fun d s1 ⟨H1,I1,q1⟩=>?_)
 cases d with
 | true=>exact ha pins s1 σ H1 D I1 q1
 | false=>exact hb pins s1 σ H1 D I1 q1
end
abbrev TG:=V→St→Hp→(St→Hp→Prop)→Prop
abbrev TGs:=List V→St→Hp→(St→Hp→Prop)→Prop
def PG (X:Cx) (target:Expr) (t:TG):Prop :=
 ∀ (pins:List (Addr×Obj)) (s:Shared) (σ:St) (H:Hp) (v:V) (u:Value) (Q:St→Hp→Prop),Inv X pins σ H s→RelV v u→t v σ H Q →
  wpAny (model X.prog X.w) X.A (assign target X.env u) (fun _ s'=>∃ σ' H',Inv X pins σ' H' s'∧Q σ' H') X.xe s
def PGs (X:Cx) (ts:List Expr) (t:TGs):Prop :=
 ∀ (pins:List (Addr×Obj)) (s:Shared) (σ:St) (H:Hp) (vs:List V) (us:List Value) (Q:St→Hp→Prop),Inv X pins σ H s→Vals vs us→t vs σ H Q →
  wpAny (model X.prog X.w) X.A (assignInOrder ((assignEach ts X.env).map (·.2)) us) (fun _ s'=>∃ σ' H',Inv X pins σ' H' s'∧Q σ' H') X.xe s
section
variable {X:Cx} {pos:Pos}
def gName (i:Nat):TG:=fun v σ H Q=>Q (σ.set i (some v)) H
theorem qD {i:Nat} {x:Str} (hN:X.N.Nodup) (hi:X.N[i]?=some x) (hx:Loc X.env.scope x) (hf:X.fn x=true∨X.env.scope.names.lookup x=some .local:=by first | exact .inl rfl | exact .inr rfl | assumption):PG X (.Name x pos) (gName i):=by
 intro pins s σ H v u Q I r h
 exact wpAny_assign_Name (iO I hN hi hx r (fun s' I'=>⟨_,H,I',h⟩) hf)
def gNil:TGs:=fun vs σ H Q=>vs=[]∧Q σ H
def gCons (t:TG) (u:TGs):TGs:=fun vs σ H Q=>∃ v r,vs=v::r∧t v σ H fun σ' H'=>u r σ' H' Q
theorem qC:PGs X [] gNil:=by
 intro pins s σ H vs us Q I r h
 obtain ⟨e,h⟩:=h
 subst e
 cases r
 exact assignInOrder_nil ⟨σ,H,I,h⟩
theorem oa {e:Expr} {es:List Expr} {t:TG} {u:TGs} (h1:PG X e t) (h2:PGs X es u)
  (hs:(assignEach (e::es) X.env).map (·.2)=assign e X.env::(assignEach es X.env).map (·.2):=by rfl):PGs X (e::es) (gCons t u):=by
 intro pins s σ H vs us Q I r h
 obtain ⟨v,vr,e1,h⟩:=h
 subst e1
 cases r with
 | cons r rr =>
  rw [hs]
  refine assignInOrder_cons (thn (h1 pins s σ H _ _ _ I r h) fun _ s1 ⟨σ1,H1,I1,q1⟩=>?_)
  exact h2 pins s1 σ1 H1 _ _ Q I1 rr q1
def gTup (K:xFr) (n:Nat) (t:TGs):TG:=fun v σ H Q=>∃ a xs,v = .ref a∧SqT K H a xs∧xs.length=n∧t xs σ H Q
theorem tH {es:List Expr} {k:Nat} {t:TGs} {n:Nat} (hc:X.calm=true) (h:PGs X es t)
  (hn:(assignEach es X.env).length=n:=by rfl) (hst:(assignEach es X.env).findIdx? (·.1)=none:=by rfl):PG X (.Tuple es k pos) (gTup X.K n t):=by
 intro pins s σ H v u Q I r hw
 obtain ⟨a,xs,e1,hq,hl,hw⟩:=hw
 subst e1
 cases r
 obtain ⟨its,rv,ht,hz⟩:=I.tuple hq
 refine assign_Tuple_tuple (I.ok.hd hc) ht (by simp [hn,← hl,rv.length]) hst fun h' hx=>?_
 have I1:Inv X pins σ H { s with heap:=h' }:=I.kept (t':=s.toks) fun b o e=>hx b o (xA0 (xA1 e)) e
 exact h pins _ σ H xs _ Q I1 (by simpa using rv) hw
def tAsg (te:TE) (g:TG):TS:=fun D σ H=>te σ H fun x H1=>g x σ H1 D.nx
theorem tD {tg e:Expr} {te:TE} {g:TG} (he:PE X e te) (hg:PG X tg g) (hs:swapsWithSole [tg] e pos.line X.env=pure false:=by rfl) (hw:swappedStores [tg] e X.env=pure none:=by rfl)
  (h1:(assignEach [tg] X.env).map (·.2)=[assign tg X.env]:=by rfl):PS X (.Assign [tg] e pos) (tAsg te g):=by
 intro pins s σ H D I h
 refine wpAny_Assign_stores (thn (he pins s σ H _ I h) fun v s1 ⟨x,H1,I1,r1,q1⟩=>?_) hs hw
 rw [h1]
 exact thn (hg pins s1 σ H1 x v _ I1 r1 q1) fun _ s2 q=>q
theorem tq {i:Nat} {x:Str} {e:Expr} {te:TE} {pos':Pos} (hN:X.N.Nodup) (hi:X.N[i]?=some x) (hx:Loc X.env.scope x) (he:PE X e te) (hs:swapsWith e (some (.Name x pos')) pos.line X.env=pure false:=by rfl) (hf:X.fn x=true∨X.env.scope.names.lookup x=some .local:=by first | exact .inl rfl | exact .inr rfl | assumption) :
  PS X (.Assign [.Name x pos'] e pos) (tAsg te (gName i)):=by
 intro pins s σ H D I h
 refine wpAny_Assign_Name (thn (he pins s σ H _ I h) fun v s1 ⟨y,H1,I1,r1,q1⟩=>?_) hs
 exact iO I1 hN hi hx r1 (fun s2 I2=>⟨_,H1,I2,q1⟩) hf
end
section
variable {X:Cx} {pos:Pos}
def tWhile (c:TT) (tb:TS):TS:=fun D σ H=>∃ W:Nat→St→Hp→Prop,(∃ m,W m σ H)∧∀ m σ H,W m σ H →
 c σ H fun b H1=>if b=true then ∃ N:St→Hp→Prop,(∀ σ' H',N σ' H'→∃ m',m'<m∧W m' σ' H')∧tb { D with nx:=N,ct:=N,bk:=D.nx } σ H1 else D.nx σ H1
theorem nW {c:Expr} {body:List Stmt} {tc:TT} {tb:TS} (hp:PassesOwn (model X.prog X.w) X.A X.env X.xe) (hc:PT X c tc) (hb:PSs X body tb):PS X (.While c body [] pos) (tWhile tc tb):=by
 intro pins s σ H D I h
 obtain ⟨W,⟨m0,w0⟩,turn⟩:=h
 refine wpAny_While (codeAny_whileLoop (fun n s'=>∃ σ' H',Inv X pins σ' H' s'∧W n σ' H') ?_ m0 ⟨σ,H,I,w0⟩)
 rintro n s1 ⟨σ1,H1,I1,w1⟩
 refine wpAny_passesOwn hp (thn (hc pins s1 σ1 H1 _ I1 (turn n σ1 H1 w1)) fun b s2 ⟨H2,I2,q2⟩=>?_)
 cases b with
 | true =>
  obtain ⟨N,hN,q2⟩:=q2
  rw [xCg rfl]
  refine wpAny_passesOwn hp (thn (hb pins s2 σ1 H2 _ I2 q2) fun f s3 q3=>?_)
  cases f with
  | next =>
   obtain ⟨σ3,H3,I3,n3⟩:=q3
   obtain ⟨m',hm,w3⟩:=hN σ3 H3 n3
   exact ⟨m',hm,σ3,H3,I3,w3⟩
  | cont =>
   obtain ⟨σ3,H3,I3,n3⟩:=q3
   obtain ⟨m',hm,w3⟩:=hN σ3 H3 n3
   exact ⟨m',hm,σ3,H3,I3,w3⟩
  | brk=>exact q3
  | ret v=>exact q3
 | false =>
  rw [xCf xAy]
  exact wpAny_execs_nil ⟨σ1,H2,I2,q2⟩
end
structure It where
 go:Nat→Hp→Prop
 yld:Nat→Hp→V→Hp→Prop
 stop:Nat→Hp→Prop
def FpOk (X:Cx) (pins:List (Addr×Obj)) (H:Hp) (b:Addr):Prop :=
 H b=none∧b≠X.env.locals∧b ∉ X.fs∧(b∈X.ex∨X.s₀.heap.objs.size≤b)∧(∀ x c,X.env.cells.lookup x=some c→c≠b)∧∀ p∈X.pn++pins,p.1≠b
theorem Inv.fpOk {X:Cx} {pins:List (Addr×Obj)} {σ:St} {H H':Hp} {s:Shared} {b:Addr} (I:Inv X pins σ H s) (hb:s.heap.objs.size≤b) (hn:H' b=none):FpOk X pins H' b:=by
 refine ⟨hn,Nat.ne_of_gt (xBc I.lt hb),I.nofs hb,.inr (Nat.le_trans I.sz hb),fun x c e z=>?_,fun p hp z=>?_⟩
 ·obtain ⟨v,q⟩:=I.cell x c e
  exact absurd (xBc q.lt (by rw [z];exact hb)) (xBo _)
 ·exact absurd (xBc (xA1 (I.pin p hp).1) (by rw [z];exact hb)) (xBo _)
structure Turn (P:Program) (w:World) (K:xFr) (tg:Expr) (J:It) (fp:List Addr) (it:Addr) (tn:Nat→Heap→Prop):Prop where
 mem:it∈fp
 obj:∀ i h,tn i h→∀ b∈fp,∃ o,h.get? b=some o∧∀ v,o.data≠.cell v
 keep:∀ i h h',tn i h→(∀ b∈fp,∀ o,h.get? b=some o→h'.get? b=some o)→tn i h'
 item:∀ (X:Cx),X.prog=P→X.w=w→X.K=K→X.calm=true→∀ (i:Nat) (pins:List (Addr×Obj)) (s:Shared) (σ:St) (H:Hp) (E:Value→Shared→Prop),Inv X pins σ H s→(∀ b∈fp,FpOk X pins H b)→tn i s.heap→J.go i H →
  wpAny (model P w) X.A (pyNext (.ref it)) (fun r s1=>∃ u,r=some u ∧
   wpAny (model P w) X.A (letOwnedTupleGo tg (.ref it) u) (fun _ s2=>∃ x H',Inv X pins σ H' s2∧RelV x u∧J.yld i H x H'∧tn (i+1) s2.heap∧∀ b∈fp,H' b=none) E s1) E s
 done:∀ (X:Cx),X.prog=P→X.w=w→X.K=K→X.calm=true→∀ (i:Nat) (pins:List (Addr×Obj)) (s:Shared) (σ:St) (H:Hp) (E:Value→Shared→Prop),Inv X pins σ H s→(∀ b∈fp,FpOk X pins H b)→tn i s.heap→J.stop i H →
  wpAny (model P w) X.A (pyNext (.ref it)) (fun r s1=>r=none∧Inv X pins σ H s1) E s
 self:∀ (A:Around) (i:Nat) (s:Shared) (Q:Value→Shared→Prop) (E:Value→Shared→Prop),tn i s.heap→Q (.ref it) s→wpAny (model P w) A (pyIter (.ref it)) Q E s
abbrev TI:=St→Hp→(It→Hp→Prop)→Prop
def PIE (X:Cx) (pins:List (Addr×Obj)) (σ:St) (tg:Expr) (R:It→Hp→Prop) (itv:Value) (s2:Shared):Prop :=
 ∃ (it:Addr) (fp:List Addr) (tn:Nat→Heap→Prop) (J:It) (H':Hp),itv = .ref it∧Inv X pins σ H' s2∧Turn X.prog X.w X.K tg J fp it tn∧tn 0 s2.heap∧(∀ b∈fp,FpOk X pins H' b)∧R J H'
def PI (X:Cx) (tg iter:Expr) (wi:TI):Prop :=
 ∀ (pins:List (Addr×Obj)) (s:Shared) (σ:St) (H:Hp) (R:It→Hp→Prop),Inv X pins σ H s→wi σ H R →
  wpAny (model X.prog X.w) X.A (eval iter X.env) (fun v s1=>wpAny (model X.prog X.w) X.A (pyIter v) (PIE X pins σ tg R) X.xe s1) X.xe s
theorem kZ {M:Model} {A:Around} {E:Value→Shared→Prop} {s:Shared} {tg:Expr} {it:Addr} {u:Value} {o:Obj} {n:String} {vs:Array Value} {Q:Unit→Shared→Prop} (ho:s.heap.get? it=some o) (hc:o.cls = .type n) (hd:o.data = .fields vs)
  (hn:["enumerate","zip","dict_itemiterator","dict_reverseitemiterator","odict_iterator","itertools.zip_longest","itertools.pairwise"].contains n=false) (hQ:Q () s):wpAny M A (letOwnedTupleGo tg (.ref it) u) Q E s:=by
 unfold letOwnedTupleGo
 cases tg <;> first
  | exact xAe hQ
  | (cases u <;> first
    | exact xAe hQ
    | (refine xAd (wpAny_load ho ?_)
       rw [hc,hd]
       show wpAny M A (if (["enumerate","zip","dict_itemiterator","dict_reverseitemiterator","odict_iterator","itertools.zip_longest","itertools.pairwise"].contains n && vs[0]? == some (rawInt _))=true then _ else _) Q E s
       rw [xCf (by intro h;rw [hn,Bool.false_and] at h;cases h)]
       exact xAe hQ))
def Itl (K:xFr) (a:Addr):It :=
 ⟨fun i H=>∃ xs x,SqL K H a xs∧xs[i]?=some x,fun i H x H'=>H'=H∧∀ xs,SqL K H a xs→xs[i]?=some x,fun i H=>∃ xs,SqL K H a xs∧xs.length≤i⟩
def Itt (K:xFr) (a:Addr):It :=
 ⟨fun i H=>∃ xs x,SqT K H a xs∧xs[i]?=some x,fun i H x H'=>H'=H∧∀ xs,SqT K H a xs→xs[i]?=some x,fun i H=>∃ xs,SqT K H a xs∧xs.length≤i⟩
def Itr (lo:Int) (n:Nat):It:=⟨fun i _=>i<n,fun i H x H'=>H'=H∧x = .int (lo+i),fun i _=>n≤i⟩
theorem lS {P:Program} {w:World} {K:xFr} {tg:Expr} (a it:Addr):Turn P w K tg (Itl K a) [it] it (fun i h=>h.IsListIter it a i) where
 mem:=by simp
 obj:=fun i h st b hb=>by
  have e:b=it:=by simpa using hb
  subst e
  obtain ⟨o,e,c,d⟩:=st
  exact ⟨o,e,fun v z=>by rw [d] at z;cases z⟩
 keep:=fun i h h' st k=>st.at fun o e=>k it (by simp) o e
 item:=by
  intro X hP hw hK hc i pins s σ H E I hf st hg
  subst hP hw hK
  obtain ⟨xs,x,hq,hx⟩:=hg
  obtain ⟨its,rv,p,hz⟩:=I.list hq
  obtain ⟨u,hu,ru⟩:=rv.get hx
  obtain ⟨f0,f1,f2,f3,f4,f5⟩:=hf it (by simp)
  refine wpAny_pyNext_list_item st p.isList (x:=u) (by simpa using hu) fun h' st' sb=>?_
  have I1:Inv X pins σ H { s with heap:=h' }:=I.turned (t':=s.toks) (fun b o hb e=>(sb.2 b hb).trans e) f0 f1 f3 f4 f5
  obtain ⟨o,e,c,d⟩:=id st'
  exact ⟨u,rfl,kZ (s:={ s with heap:=h' }) e c d (by decide) ⟨x,H,I1,ru,⟨rfl,fun ys hy=>by rw [I.list_inj hy hq];exact hx⟩,st',fun b hb=>(hf b hb).1⟩⟩
 done:=by
  intro X hP hw hK hc i pins s σ H E I hf st hg
  subst hP hw hK
  obtain ⟨xs,hq,hx⟩:=hg
  obtain ⟨its,rv,p,hz⟩:=I.list hq
  obtain ⟨f0,f1,f2,f3,f4,f5⟩:=hf it (by simp)
  have hl:=rv.length
  exact wpAny_pyNext_list_end (I.ok.hd hc) st p.isList (by simp;lia) fun h' eb=>⟨rfl,I.turned (t':=s.toks) (fun b o hb e=>eb b o hb e) f0 f1 f3 f4 f5⟩
 self:=fun _ _ _ _ _ st h=>wpAny_pyIter_listiter st h
theorem jJ {P:Program} {w:World} {K:xFr} {tg:Expr} (a it:Addr):Turn P w K tg (Itt K a) [it] it (fun i h=>h.IsTupleIter it a i) where
 mem:=by simp
 obj:=fun i h st b hb=>by
  have e:b=it:=by simpa using hb
  subst e
  obtain ⟨o,e,c,d⟩:=st
  exact ⟨o,e,fun v z=>by rw [d] at z;cases z⟩
 keep:=fun i h h' st k=>st.at fun o e=>k it (by simp) o e
 item:=by
  intro X hP hw hK hc i pins s σ H E I hf st hg
  subst hP hw hK
  obtain ⟨xs,x,hq,hx⟩:=hg
  obtain ⟨its,rv,p,hz⟩:=I.tuple hq
  obtain ⟨u,hu,ru⟩:=rv.get hx
  obtain ⟨f0,f1,f2,f3,f4,f5⟩:=hf it (by simp)
  refine wpAny_pyNext_tuple_item st (show s.heap.IsTuple a its.toArray from p) (x:=u) (by simpa using hu) fun h' st' sb=>?_
  have I1:Inv X pins σ H { s with heap:=h' }:=I.turned (t':=s.toks) (fun b o hb e=>(sb.2 b hb).trans e) f0 f1 f3 f4 f5
  obtain ⟨o,e,c,d⟩:=id st'
  exact ⟨u,rfl,kZ (s:={ s with heap:=h' }) e c d (by decide) ⟨x,H,I1,ru,⟨rfl,fun ys hy=>by rw [I.tuple_inj hy hq];exact hx⟩,st',fun b hb=>(hf b hb).1⟩⟩
 done:=by
  intro X hP hw hK hc i pins s σ H E I hf st hg
  subst hP hw hK
  obtain ⟨xs,hq,hx⟩:=hg
  obtain ⟨its,rv,p,hz⟩:=I.tuple hq
  obtain ⟨f0,f1,f2,f3,f4,f5⟩:=hf it (by simp)
  have hl:=rv.length
  exact wpAny_pyNext_tuple_end (I.ok.hd hc) st (show s.heap.IsTuple a its.toArray from p) (by simp;lia) fun h' eb=>⟨rfl,I.turned (t':=s.toks) (fun b o hb e=>eb b o hb e) f0 f1 f3 f4 f5⟩
 self:=fun _ _ _ _ _ st h=>wpAny_pyIter_tupleiter st h
theorem jK {P:Program} {w:World} {K:xFr} {tg:Expr} (it:Addr) (lo:Int) (n:Nat):Turn P w K tg (Itr lo n) [it] it (fun i h=>IsRangeIter h it (lo+(i:Nat) * 1) ((n:Int) - (i:Nat)) 1) where
 mem:=by simp
 obj:=fun i h st b hb=>by
  have e:b=it:=by simpa using hb
  subst e
  exact ⟨_,st,fun v z=>by
   have z':Data.fields _=Data.cell v:=z
   cases z'⟩
 keep:=fun i h h' st k=>k it (by simp) _ st
 item:=by
  intro X hP hw hK hc i pins s σ H E I hf st hg
  subst hP hw hK
  obtain ⟨f0,f1,f2,f3,f4,f5⟩:=hf it (by simp)
  have W:=Walks.range (prog:=X.prog) (w:=X.w) (I.ok.hd hc) it lo 1 n
  refine W.item i s _ _ hg st fun v h' tk hv st' kk=>?_
  obtain ⟨t,rfl⟩:=hv
  have I1:Inv X pins σ H { s with heap:=h',toks:=tk }:=I.turned (fun b o hb e=>kk b o (by simpa using hb) e) f0 f1 f3 f4 f5
  refine ⟨_,rfl,kZ (s:={ s with heap:=h',toks:=tk }) (n:="range_iterator") st' rfl rfl (by decide) ⟨.int (lo+i),H,I1,⟨t,?_⟩,⟨rfl,rfl⟩,st',fun b hb=>(hf b hb).1⟩⟩
  rw [Int.mul_one]
 done:=by
  intro X hP hw hK hc i pins s σ H E I hf st hg
  subst hP hw hK
  obtain ⟨f0,f1,f2,f3,f4,f5⟩:=hf it (by simp)
  exact wpAny_pyNext_range_end (I.ok.hd hc) st (by have:n≤i:=hg;lia) fun h' eb=>⟨rfl,I.turned (t':=s.toks) (fun b o hb e=>eb b o hb e) f0 f1 f3 f4 f5⟩
 self:=fun _ _ _ _ _ st h=>wpAny_pyIter_rangeiter st h
end L2
namespace L2
open PySem PySem.Spec PyProof.Rows
section
variable {X:Cx} {tg:Expr}
def iList (K:xFr) (tl:TE):TI:=fun σ H R=>tl σ H fun x H1=>∃ a,x = .ref a∧(∃ xs,SqL K H1 a xs)∧R (Itl K a) H1
def iTup (K:xFr) (tl:TE):TI:=fun σ H R=>tl σ H fun x H1=>∃ a,x = .ref a∧(∃ xs,SqT K H1 a xs)∧R (Itt K a) H1
theorem qA {l:Expr} {tl:TE} (hl:PE X l tl):PI X tg l (iList X.K tl):=by
 intro pins s σ H R I h
 refine thn (hl pins s σ H _ I h) fun v s1 ⟨x,H1,I1,r1,q1⟩=>?_
 obtain ⟨a,e,⟨xs,hq⟩,q⟩:=q1
 subst e
 cases r1
 obtain ⟨its,rv,p,hz⟩:=I1.list hq
 refine wpAny_pyIter_list p.isList ?_
 refine ⟨s1.heap.objs.size,[s1.heap.objs.size],_,_,H1,rfl,I1.kept (t':=s1.toks) fun b o e=>xAf _ e,lS a _,⟨_,xAl _ rfl,rfl,rfl⟩,fun b hb=>?_,q⟩
 have e:b=s1.heap.objs.size:=by simpa using hb
 subst e
 exact I1.fpOk (xAg _) (I1.hok.fresh (xAg _))
theorem tF {l:Expr} {tl:TE} (hl:PE X l tl):PI X tg l (iTup X.K tl):=by
 intro pins s σ H R I h
 refine thn (hl pins s σ H _ I h) fun v s1 ⟨x,H1,I1,r1,q1⟩=>?_
 obtain ⟨a,e,⟨xs,hq⟩,q⟩:=q1
 subst e
 cases r1
 obtain ⟨its,rv,p,hz⟩:=I1.tuple hq
 refine wpAny_pyIter_tuple (show s1.heap.IsTuple a its.toArray from p) ?_
 refine ⟨s1.heap.objs.size,[s1.heap.objs.size],_,_,H1,rfl,I1.kept (t':=s1.toks) fun b o e=>xAf _ e,jJ a _,⟨_,xAl _ rfl,rfl,rfl⟩,fun b hb=>?_,q⟩
 have e:b=s1.heap.objs.size:=by simpa using hb
 subst e
 exact I1.fpOk (xAg _) (I1.hok.fresh (xAg _))
theorem iX {pins:List (Addr×Obj)} {σ:St} {H:Hp} {s:Shared} {R:It→Hp→Prop} {E:Value→Shared→Prop} {lo hi:Int} {t u v:Tok} {tk:Nat} (I:Inv X pins σ H s) (h1:-(2 ^ 62)≤lo) (h2:lo<2 ^ 62) (h3:-(2 ^ 62)≤hi) (h4:hi<2 ^ 62)
  (q:R (Itr lo (hi - lo).toNat) H):wpAny (model X.prog X.w) X.A (pyIter (.ref s.heap.objs.size)) (PIE X pins σ tg R) E { s with heap:=s.heap.push { cls:=.type "range",data:=.fields #[.int lo t,.int hi u,.int 1 v] },toks:=tk }:=by
 refine wpAny_pyIter_range (IsRange.new ..) (small_one h1 h2 h3 h4) ?_
 have I1:Inv X pins σ H { s with heap:=s.heap.push { cls:=.type "range",data:=.fields #[.int lo t,.int hi u,.int 1 v] },toks:=tk }:=I.kept fun b o e=>xAf _ e
 refine ⟨(s.heap.push { cls:=.type "range",data:=.fields #[.int lo t,.int hi u,.int 1 v] }).objs.size,[(s.heap.push { cls:=.type "range",data:=.fields #[.int lo t,.int hi u,.int 1 v] }).objs.size],_,_,H,rfl,
  I1.kept (t':=tk) fun b o e=>xAf _ e,jK _ lo (hi - lo).toNat,?_,fun b hb=>?_,q⟩
 ·have e1:lo+((0:Nat):Int) * 1=lo:=by simp
  have e2:(((hi - lo).toNat:Nat):Int) - ((0:Nat):Int)=Builtin.Range.rangeSize lo hi 1:=by rw [rangeSize_one];split <;> lia
  show IsRangeIter _ _ (lo+((0:Nat):Int) * 1) ((((hi - lo).toNat:Nat):Int) - ((0:Nat):Int)) 1
  rw [e1,e2]
  exact xAl _ rfl
 ·have e:b=(s.heap.push { cls:=.type "range",data:=.fields #[.int lo t,.int hi u,.int 1 v] }).objs.size:=by simpa using hb
  subst e
  exact I1.fpOk (xAg _) (I1.hok.fresh (xAg _))
def iRng1 (ta:TA):TI:=fun σ H R=>ta σ H fun vs H1=>∃ j:Int,vs=[.int j]∧-(2 ^ 62)≤j∧j<2 ^ 62∧R (Itr 0 j.toNat) H1
def iRng2 (ta:TA):TI:=fun σ H R=>ta σ H fun vs H1=>∃ i j:Int,vs=[.int i,.int j]∧(-(2 ^ 62)≤i∧i<2 ^ 62∧-(2 ^ 62)≤j∧j<2 ^ 62)∧R (Itr i (j - i).toNat) H1
theorem mh {a:Expr} {ta:TA} {p pos:Pos} (hg:Gl X "range") (hm:X.mg "range"=none) (ha:PA X [a] ta) (hs:starEach [a] X.env=[(false,eval a X.env)]:=by rfl):PI X tg (.Call (.Name "range" p) [a] [] pos) (iRng1 ta):=by
 intro pins s σ H R I h
 refine Call_ (dM I hg hm boot_range (PyProof.Rows.callWith_type1 (thn (ha pos pins s σ H _ I h) fun us s1 ⟨vs,H1,I1,r1,q1⟩=>?_) hs rfl))
 obtain ⟨j,e,q1,q2,q⟩:=q1
 subst e
 cases r1 with
 | cons r rr =>
  cases rr
  obtain ⟨t,rfl⟩:=r
  exact call_range_1 (iX I1 (by lia) (by lia) q1 q2 (by simpa using q))
theorem mf {a b:Expr} {ta:TA} {p pos:Pos} (hg:Gl X "range") (hm:X.mg "range"=none) (ha:PA X [a,b] ta) (hs:starEach [a,b] X.env=[(false,eval a X.env),(false,eval b X.env)]:=by rfl) (hs2:starEach [b] X.env=[(false,eval b X.env)]:=by rfl) :
  PI X tg (.Call (.Name "range" p) [a,b] [] pos) (iRng2 ta):=by
 intro pins s σ H R I h
 refine Call_ (dM I hg hm boot_range (PyProof.Rows.callWith_type1 (thn (ha pos pins s σ H _ I h) fun us s1 ⟨vs,H1,I1,r1,q1⟩=>?_) (by rw [hs,hs2]) (by rw [hs2];rfl)))
 obtain ⟨i,j,e,⟨q1,q2,q3,q4⟩,q⟩:=q1
 subst e
 cases r1 with
 | cons r rr =>
  cases rr with
  | cons r' rr =>
   cases rr
   obtain ⟨t,rfl⟩:=r
   obtain ⟨t',rfl⟩:=r'
   exact call_range_2 (iX I1 q1 q2 q3 q4 q)
def tFor (wi:TI) (g:TG) (tb:TS):TS:=fun D σ H=>wi σ H fun J H1=>∃ W:Nat→Nat→St→Hp→Prop,(∃ m,W 0 m σ H1)∧∀ i m σ H,W i m σ H →
 (J.stop i H∧D.nx σ H)∨(J.go i H∧∃ N:St→Hp→Prop,(∀ σ' H',N σ' H'→∃ m',m'<m∧W (i+1) m' σ' H')∧∀ x H',J.yld i H x H'→g x σ H' fun σ2 H2=>tb { D with nx:=N,ct:=N,bk:=D.nx } σ2 H2)
def pinsAt (fp:List Addr) (h:Heap):List (Addr×Obj):=fp.filterMap fun b=>(h.get? b).map fun o=>(b,o)
theorem dz {fp:List Addr} {h:Heap} {b:Addr} {o:Obj} (hb:b∈fp) (e:h.get? b=some o):(b,o)∈pinsAt fp h:=List.mem_filterMap.mpr ⟨b,hb,by rw [e];rfl⟩
theorem mm {fp:List Addr} {h:Heap} {p:Addr×Obj} (hp:p∈pinsAt fp h):p.1∈fp∧h.get? p.1=some p.2:=by
 obtain ⟨b,hb,e⟩:=List.mem_filterMap.mp hp
 cases q:h.get? b with
 | none=>rw [q] at e;cases e
 | some o =>
  rw [q] at e
  have e':(b,o)=p:=xB3 e
  subst e'
  exact ⟨hb,q⟩
theorem Inv.pinned {pins:List (Addr×Obj)} {σ:St} {H:Hp} {s:Shared} {fp:List Addr} (I:Inv X pins σ H s) (hf:∀ b∈fp,FpOk X pins H b) (ho:∀ b∈fp,∃ o,s.heap.get? b=some o∧∀ v,o.data≠.cell v):Inv X (pins++pinsAt fp s.heap) σ H s :=
 I.pins_of fun p hp=>(xAj.mp hp).elim (fun z=>I.pin p (xBt _ z)) fun z=>by
  obtain ⟨hb,e⟩:=mm z
  obtain ⟨f0,f1,f2,_⟩:=hf p.1 hb
  obtain ⟨o,e',d⟩:=ho p.1 hb
  rw [e] at e';cases e'
  exact ⟨e,f0,f1,f2,d⟩
theorem Inv.unpinned {pins pl:List (Addr×Obj)} {σ:St} {H:Hp} {s:Shared} (I:Inv X (pins++pl) σ H s):Inv X pins σ H s:=I.pins_of fun p hp=>I.pin p (xBt _ (List.mem_append_left _ hp))
theorem tw {iter:Expr} {body:List Stmt} {wi:TI} {g:TG} {tb:TS} {pos:Pos} (hp:PassesOwn (model X.prog X.w) X.A X.env X.xe) (hc:X.calm=true) (hi:PI X tg iter wi) (hg:PG X tg g) (hb:PSs X body tb)
  (hs:∀ x,foldedSetIterable iter X.env x=pure x:=by intro _;rfl):PS X (.For tg iter body [] pos) (tFor wi g tb):=by
 intro pins s σ H D I h
 refine wpAny_For (thn (hi pins s σ H _ I h) fun v s1 h1=>thn h1 fun itv s2 h2=>?_) hs
 obtain ⟨it,fp,tn,J,H2,e,I2,T,st2,f2,W,⟨m0,w0⟩,turn⟩:=h2
 subst e
 -- what stays true of the iterator's objects through the loop
 have stat:∀ {H':Hp},(∀ b∈fp,H' b=none)→∀ b∈fp,FpOk X pins H' b:=fun hn b hb=>⟨hn b hb,(f2 b hb).2⟩
 refine codeAny_forLoop_any (fun n s'=>∃ i σ' H',Inv X pins σ' H' s'∧tn i s'.heap∧(∀ b∈fp,H' b=none)∧W i n σ' H') ?_ m0 ⟨0,σ,H2,I2,st2,fun b hb=>(f2 b hb).1,w0⟩
 rintro n s3 ⟨i,σ3,H3,I3,st3,fr3,w3⟩
 rcases turn i n σ3 H3 w3 with ⟨stop,qn⟩ | ⟨go,N,hN,step⟩
 ·refine wpAny_passesOwn hp (thn (T.done X rfl rfl rfl hc i pins s3 σ3 H3 X.xe I3 (stat fr3) st3 stop) fun r s4 ⟨hr,I4⟩=>?_)
  subst hr
  exact wpAny_execs_nil ⟨σ3,H3,I4,qn⟩
 ·refine wpAny_passesOwn hp (thn (T.item X rfl rfl rfl hc i pins s3 σ3 H3 X.xe I3 (stat fr3) st3 go) fun r s4 ⟨u,hr,h4⟩=>?_)
  subst hr
  refine wpAny_passesOwn hp (thn h4 fun _ s5 ⟨x,H5,I5,r5,y5,st5,fr5⟩=>?_)
  have I5':=I5.pinned (stat fr5) (T.obj _ _ st5)
  refine wpAny_passesOwn hp (thn (hg _ s5 σ3 H5 x u _ I5' r5 (step x H5 y5)) fun _ s6 ⟨σ6,H6,I6,q6⟩=>?_)
  refine wpAny_passesOwn hp (thn (hb _ s6 σ6 H6 _ I6 q6) fun f s7 q7=>?_)
  have again:∀ {σ7:St} {H7:Hp},Inv X (pins++pinsAt fp s5.heap) σ7 H7 s7→N σ7 H7→∃ m,m<n∧∃ i σ' H',Inv X pins σ' H' s7∧tn i s7.heap∧(∀ b∈fp,H' b=none)∧W i m σ' H':=fun {σ7 H7} I7 n7=>by
   obtain ⟨m',hm,w7⟩:=hN σ7 H7 n7
   refine ⟨m',hm,i+1,σ7,H7,I7.unpinned,T.keep _ _ _ st5 fun b hb o e=>(I7.pin (b,o) (xBt _ (xBt _ (dz hb e)))).1,fun b hb=>?_,w7⟩
   obtain ⟨o,e,d⟩:=T.obj _ _ st5 b hb
   exact (I7.pin (b,o) (xBt _ (xBt _ (dz hb e)))).2.1
  cases f with
  | next=>obtain ⟨σ7,H7,I7,n7⟩:=q7;exact again I7 n7
  | cont=>obtain ⟨σ7,H7,I7,n7⟩:=q7;exact again I7 n7
  | brk=>obtain ⟨σ7,H7,I7,q7⟩:=q7;exact ⟨σ7,H7,I7.unpinned,q7⟩
  | ret v=>obtain ⟨x7,σ7,H7,I7,r7,q7⟩:=q7;exact ⟨x7,σ7,H7,I7.unpinned,r7,q7⟩
end
end L2
namespace L2
open PySem PySem.Spec PyProof.Rows
abbrev R2:=V→V→Hp→VK→Prop
def OpR (X:Cx) (f:Value→Value→Sem Value) (r:R2):Prop :=
 ∀ (pins:List (Addr×Obj)) (s:Shared) (σ:St) (H:Hp) (x y:V) (v u:Value) (Q:VK),Inv X pins σ H s→RelV x v→RelV y u→r x y H Q →
  wpAny (model X.prog X.w) X.A (f v u) (EP X pins σ Q) X.xe s
def UnR (X:Cx) (f:Value→Sem Value) (r:V→Hp→VK→Prop):Prop :=
 ∀ (pins:List (Addr×Obj)) (s:Shared) (σ:St) (H:Hp) (x:V) (v:Value) (Q:VK),Inv X pins σ H s→RelV x v→r x H Q →
  wpAny (model X.prog X.w) X.A (f v) (EP X pins σ Q) X.xe s
def CallR (X:Cx) (f:Value) (r:List V→Hp→VK→Prop):Prop :=
 ∀ (pins:List (Addr×Obj)) (s:Shared) (σ:St) (H:Hp) (xs:List V) (us:List Value) (Q:VK),Inv X pins σ H s→Vals xs us→r xs H Q →
  wpAny (model X.prog X.w) X.A (call f us) (EP X pins σ Q) X.xe s
def TruR (X:Cx) (r:V→Hp→(Bool→Hp→Prop)→Prop):Prop :=
 ∀ (pins:List (Addr×Obj)) (s:Shared) (σ:St) (H:Hp) (x:V) (v:Value) (Q:Bool→Hp→Prop),Inv X pins σ H s→RelV x v→r x H Q →
  wpAny (model X.prog X.w) X.A (truthy v) (TP X pins σ Q) X.xe s
def tOp (r:R2) (ta tb:TE):TE:=fun σ H Q=>ta σ H fun x H1=>tb σ H1 fun y H2=>r x y H2 Q
def tUn (r:V→Hp→VK→Prop) (ta:TE):TE:=fun σ H Q=>ta σ H fun x H1=>r x H1 Q
def rI (C:Int→Int→Prop) (g:Int→Int→V):R2:=fun x y H Q=>∃ i j,x = .int i∧y = .int j∧C i j∧Q (g i j) H
def rI0 (g:Int→Int→V):R2:=fun x y H Q=>∃ i j,x = .int i∧y = .int j∧Q (g i j) H
def rU (g:Int→V):V→Hp→VK→Prop:=fun x H Q=>∃ i,x = .int i∧Q (g i) H
section
variable {X:Cx} {a b c:Expr} {ta tb tc:TE} {pos:Pos}
theorem binT (ha:PE X a ta) (hb:PE X b tb) {pins:List (Addr×Obj)} {s:Shared} {σ:St} {H:Hp} {R:V→V→Hp→Prop} (I:Inv X pins σ H s)
  (h:ta σ H fun x H1=>tb σ H1 fun y H2=>R x y H2) {Q:Value→Shared→Prop} {f:Value→Value→Sem Value}
  (hf:∀ v u s2 x y H2,Inv X pins σ H2 s2→RelV x v→RelV y u→R x y H2→wpAny (model X.prog X.w) X.A (f v u) Q X.xe s2) :
  wpAny (model X.prog X.w) X.A (eval a X.env) (fun v s₁=>wpAny (model X.prog X.w) X.A (eval b X.env) (fun u s₂=>wpAny (model X.prog X.w) X.A (f v u) Q X.xe s₂) X.xe s₁) X.xe s:=by
 refine thn (ha pins s σ H _ I h) fun v s1 ⟨x,H1,I1,r1,q1⟩=>?_
 refine thn (hb pins s1 σ H1 _ I1 q1) fun u s2 ⟨y,H2,I2,r2,q2⟩=>?_
 exact hf v u s2 x y H2 I2 r1 r2 q2
theorem vg {op:Operator} {r:R2} (ho:OpR X (binaryOp op) r) (ha:PE X a ta) (hb:PE X b tb):PE X (.BinOp a op b pos) (tOp r ta tb):=by
 intro pins s σ H Q I h
 exact wpAny_BinOp (binT ha hb I h fun v u s2 x y H2 I2 rx ry q=>ho pins s2 σ H2 x y v u Q I2 rx ry q)
theorem ve {op:UnaryOp} {r:V→Hp→VK→Prop} (ho:UnR X (unaryOp op) r) (ha:PE X a ta):PE X (.UnaryOp op a pos) (tUn r ta):=by
 intro pins s σ H Q I h
 exact UnaryOp_ (thn (ha pins s σ H _ I h) fun v s1 ⟨x,H1,I1,r1,q1⟩=>ho pins s1 σ H1 x v Q I1 r1 q1)
theorem opI {f:Value→Value→Sem Value} {C:Int→Int→Prop} {g:Int→Int→Int}
  (rule:∀ (i j:Int) (t u:Tok) (s:Shared) (Q:Value→Shared→Prop) (E:Value→Shared→Prop),C i j→Q (.int (g i j) s.toks) { s with toks:=s.toks+1 }→wpAny (model X.prog X.w) X.A (f (.int i t) (.int j u)) Q E s) :
  OpR X f (rI C fun i j=>.int (g i j)):=by
 intro pins s σ H x y v u Q I rx ry h
 obtain ⟨i,j,rfl,rfl,hc,q⟩:=h
 obtain ⟨t,rfl⟩:=rx
 obtain ⟨t',rfl⟩:=ry
 exact rule i j t t' s _ _ hc ⟨.int (g i j),H,I.tok _,⟨_,rfl⟩,q⟩
theorem opI0 {f:Value→Value→Sem Value} {g:Int→Int→Int}
  (rule:∀ (i j:Int) (t u:Tok) (s:Shared) (Q:Value→Shared→Prop) (E:Value→Shared→Prop),Q (.int (g i j) s.toks) { s with toks:=s.toks+1 }→wpAny (model X.prog X.w) X.A (f (.int i t) (.int j u)) Q E s) :
  OpR X f (rI0 fun i j=>.int (g i j)):=by
 intro pins s σ H x y v u Q I rx ry h
 obtain ⟨i,j,rfl,rfl,q⟩:=h
 obtain ⟨t,rfl⟩:=rx
 obtain ⟨t',rfl⟩:=ry
 exact rule i j t t' s _ _ ⟨.int (g i j),H,I.tok _,⟨_,rfl⟩,q⟩
theorem opB0 {f:Value→Value→Sem Value} {g:Int→Int→Bool}
  (rule:∀ (i j:Int) (t u:Tok) (s:Shared) (Q:Value→Shared→Prop) (E:Value→Shared→Prop),Q (.bool (g i j)) s→wpAny (model X.prog X.w) X.A (f (.int i t) (.int j u)) Q E s) :
  OpR X f (rI0 fun i j=>.bl (g i j)):=by
 intro pins s σ H x y v u Q I rx ry h
 obtain ⟨i,j,rfl,rfl,q⟩:=h
 obtain ⟨t,rfl⟩:=rx
 obtain ⟨t',rfl⟩:=ry
 exact rule i j t t' s _ _ ⟨.bl (g i j),H,I,rfl,q⟩
def CDiv (i j:Int):Prop:=0<j∧j<1073741824
def CPow (i j:Int):Prop:=0≤j∧j≤1000000∧i.natAbs<2 ^ 64
def CMul (i j:Int):Prop:=(-(2 ^ 64)<i∧i<2 ^ 64)∨(-(2 ^ 64)<j∧j<2 ^ 64)
theorem CMul.ok {i j:Int} (h:CMul i j):IntMulOk i j:=by
 rcases h with ⟨h1,h2⟩ | ⟨h1,h2⟩
 ·exact .of_left (intBits_le_64 h1 h2)
 ·exact .of_right (intBits_le_64 h1 h2)
theorem bZ:OpR X (binaryOp .Add) (rI0 fun i j=>.int (i+j)):=opI0 fun _ _ _ _ _ _ _ q=>add_int q
theorem eh:OpR X (binaryOp .Sub) (rI0 fun i j=>.int (i - j)):=opI0 fun _ _ _ _ _ _ _ q=>sub_int q
theorem dw:OpR X (binaryOp .Mult) (rI CMul fun i j=>.int (i * j)):=opI fun _ _ _ _ _ _ _ hc q=>mul_int q hc.ok
theorem qT:OpR X (binaryOp .FloorDiv) (rI CDiv fun i j=>.int (i / j)):=opI fun i j _ _ _ _ _ hc q=>by
 have h1:(0:Int)<j:=hc.1
 have h2:j<1073741824:=hc.2
 exact floordiv_int (by lia) (by rw [Int.fdiv_eq_ediv_of_nonneg i (by lia)];exact q) (.inl (PyProof.noPylong_small (by lia)))
theorem dy:OpR X (binaryOp .Mod) (rI (fun _ j=>0<j) fun i j=>.int (i % j)):=opI fun i j _ _ _ _ _ hc q=>by
 have h1:(0:Int)<j:=hc
 exact mod_int' (by lia) (by rw [Int.fmod_eq_emod_of_nonneg i (by lia)];exact q)
theorem tV:OpR X (binaryOp .Pow) (rI CPow fun i j=>.int (i ^ j.toNat)):=opI fun _ _ _ _ _ _ _ hc q=>pow_int_small hc.1 hc.2.1 hc.2.2 q
theorem unI {f:Value→Sem Value} {g:Int→Int}
  (rule:∀ (i:Int) (t:Tok) (s:Shared) (Q:Value→Shared→Prop) (E:Value→Shared→Prop),Q (.int (g i) s.toks) { s with toks:=s.toks+1 }→wpAny (model X.prog X.w) X.A (f (.int i t)) Q E s) :
  UnR X f (rU fun i=>.int (g i)):=by
 intro pins s σ H x v Q I rx h
 obtain ⟨i,rfl,q⟩:=h
 obtain ⟨t,rfl⟩:=rx
 exact rule i t s _ _ ⟨.int (g i),H,I.tok _,⟨_,rfl⟩,q⟩
theorem gW:UnR X (unaryOp .USub) (rU fun i=>.int (-i)):=unI fun _ _ _ _ _ q=>neg_int q
end
def scal:V→V→Bool
 | .non,.non=>true | .non,.int _=>true | .int _,.non=>true | .non,.bl _=>true | .bl _,.non=>true | .non,.str _=>true | .str _,.non=>true
 | .int _,.int _=>true | .bl _,.bl _=>true | .str _,.str _=>true | .byt _,.byt _=>true
 | .int _,.str _=>true | .str _,.int _=>true | .bl _,.str _=>true | .str _,.bl _=>true
 | _,_=>false
def rEq:R2:=fun x y H Q=>scal x y=true∧Q (.bl (decide (x=y))) H
def rNe:R2:=fun x y H Q=>scal x y=true∧Q (.bl (!decide (x=y))) H
theorem lq {i j:Int}:decide (V.int i=V.int j)=(i == j):=by
 rw [Bool.eq_iff_iff]
 simp
theorem pf {i j:Bool}:decide (V.bl i=V.bl j)=(i == j):=by
 rw [Bool.eq_iff_iff]
 simp
theorem ln {i j:Str}:decide (V.str i=V.str j)=(i == j):=by
 rw [Bool.eq_iff_iff]
 simp
theorem lr {i j:Array UInt8}:decide (V.byt i=V.byt j)=(i.toList == j.toList):=by
 rw [Bool.eq_iff_iff]
 cases i
 cases j
 simp
section
variable {X:Cx} {a b c:Expr} {ta tb tc:TE} {pos:Pos}
theorem ax {pins:List (Addr×Obj)} {σ:St} {H:Hp} {s:Shared} {Q:VK} {k k':Bool} (I:Inv X pins σ H s) (q:Q (.bl k) H) (e:k=k'):EP X pins σ Q (.bool k') s:=by
 subst e
 exact ⟨.bl k,H,I,rfl,q⟩
theorem aJ:OpR X (compareOp .Eq) rEq:=by
 intro pins s σ H x y v u Q I rx ry h
 obtain ⟨hs,q⟩:=h
 cases x with
 | non =>
  cases rx
  cases y with
  | non=>cases ry;exact PySem.EqNone.eq_none_none (ax I q (by simp))
  | bl j=>cases ry;exact PySem.EqNone.eq_none_bool (ax I q (by simp))
  | int j=>obtain ⟨t',rfl⟩:=ry;exact PySem.EqNone.eq_none_int (ax I q (by simp))
  | str j=>obtain ⟨t',rfl⟩:=ry;exact PySem.EqNone.eq_none_str (ax I q (by simp))
  | _=>exact absurd (show false=true from hs) xAy
 | bl i =>
  cases rx
  cases y with
  | non=>cases ry;exact PySem.EqNone.eq_bool_none (ax I q (by simp))
  | bl j=>cases ry;exact eq_bool (ax I q pf)
  | str j=>obtain ⟨t',rfl⟩:=ry;exact PySem.EqMixed.eq_bool_str (ax I q (by simp))
  | _=>exact absurd (show false=true from hs) xAy
 | int i =>
  obtain ⟨t,rfl⟩:=rx
  cases y with
  | non=>cases ry;exact PySem.EqNone.eq_int_none (ax I q (by simp))
  | int j=>obtain ⟨t',rfl⟩:=ry;exact eq_int (ax I q lq)
  | str j=>obtain ⟨t',rfl⟩:=ry;exact PySem.EqMixed.eq_int_str (ax I q (by simp))
  | _=>exact absurd (show false=true from hs) xAy
 | str i =>
  obtain ⟨t,rfl⟩:=rx
  cases y with
  | non=>cases ry;exact PySem.EqNone.eq_str_none (ax I q (by simp))
  | bl j=>cases ry;exact PySem.EqMixed.eq_str_bool (ax I q (by simp))
  | int j=>obtain ⟨t',rfl⟩:=ry;exact PySem.EqMixed.eq_str_int (ax I q (by simp))
  | str j=>obtain ⟨t',rfl⟩:=ry;exact eq_str (ax I q ln)
  | _=>exact absurd (show false=true from hs) xAy
 | byt i =>
  obtain ⟨t,rfl⟩:=rx
  cases y with
  | byt j=>obtain ⟨t',rfl⟩:=ry;exact PySem.W.eq_bytes (ax I q lr)
  | _=>exact absurd (show false=true from hs) xAy
 | _=>cases y <;> exact absurd (show false=true from hs) xAy
theorem f6:OpR X (compareOp .NotEq) rNe:=by
 intro pins s σ H x y v u Q I rx ry h
 obtain ⟨hs,q⟩:=h
 cases x with
 | non =>
  cases rx
  cases y with
  | non=>cases ry;exact PySem.EqNone.ne_none_none (ax I q (by simp))
  | bl j=>cases ry;exact PySem.EqNone.ne_none_bool (ax I q (by simp))
  | int j=>obtain ⟨t',rfl⟩:=ry;exact PySem.EqNone.ne_none_int (ax I q (by simp))
  | str j=>obtain ⟨t',rfl⟩:=ry;exact PySem.EqNone.ne_none_str (ax I q (by simp))
  | _=>exact absurd (show false=true from hs) xAy
 | bl i =>
  cases rx
  cases y with
  | non=>cases ry;exact PySem.EqNone.ne_bool_none (ax I q (by simp))
  | bl j=>cases ry;exact ne_bool (ax I q (congrArg not pf))
  | str j=>obtain ⟨t',rfl⟩:=ry;exact PySem.EqMixed.ne_bool_str (ax I q (by simp))
  | _=>exact absurd (show false=true from hs) xAy
 | int i =>
  obtain ⟨t,rfl⟩:=rx
  cases y with
  | non=>cases ry;exact PySem.EqNone.ne_int_none (ax I q (by simp))
  | int j=>obtain ⟨t',rfl⟩:=ry;exact ne_int (ax I q (congrArg not lq))
  | str j=>obtain ⟨t',rfl⟩:=ry;exact PySem.EqMixed.ne_int_str (ax I q (by simp))
  | _=>exact absurd (show false=true from hs) xAy
 | str i =>
  obtain ⟨t,rfl⟩:=rx
  cases y with
  | non=>cases ry;exact PySem.EqNone.ne_str_none (ax I q (by simp))
  | bl j=>cases ry;exact PySem.EqMixed.ne_str_bool (ax I q (by simp))
  | int j=>obtain ⟨t',rfl⟩:=ry;exact PySem.EqMixed.ne_str_int (ax I q (by simp))
  | str j=>obtain ⟨t',rfl⟩:=ry;exact ne_str (ax I q (congrArg not ln))
  | _=>exact absurd (show false=true from hs) xAy
 | byt i =>
  obtain ⟨t,rfl⟩:=rx
  cases y with
  | byt j=>obtain ⟨t',rfl⟩:=ry;exact PySem.W.ne_bytes (ax I q (congrArg not lr))
  | _=>exact absurd (show false=true from hs) xAy
 | _=>cases y <;> exact absurd (show false=true from hs) xAy
theorem f7:OpR X (compareOp .Lt) (rI0 fun i j=>.bl (decide (i<j))):=opB0 fun _ _ _ _ _ _ _ q=>lt_int q
theorem dD:OpR X (compareOp .LtE) (rI0 fun i j=>.bl (decide (i≤j))):=opB0 fun _ _ _ _ _ _ _ q=>le_int q
theorem gE:OpR X (compareOp .Gt) (rI0 fun i j=>.bl (decide (j<i))):=opB0 fun _ _ _ _ _ _ _ q=>gt_int q
theorem mj:OpR X (compareOp .In) (fun x y H Q=>∃ i j,x = .str i∧y = .str j∧Q (.bl (!(Builtin.Str.occurrences j i 0 j.length 1).isEmpty)) H):=by
 intro pins s σ H x y v u Q I rx ry h
 obtain ⟨i,j,rfl,rfl,q⟩:=h
 obtain ⟨t,rfl⟩:=rx
 obtain ⟨t',rfl⟩:=ry
 exact in_str (ax I q rfl)
theorem qQ:OpR X (compareOp .IsNot) (fun x y H Q=>y = .non∧Q (.bl (!decide (x = .non))) H):=by
 intro pins s σ H x y v u Q I rx ry h
 obtain ⟨rfl,q⟩:=h
 cases ry
 refine isnot_none_gen (ax I q ?_)
 cases x <;> first
  | (cases rx;rfl)
  | (obtain ⟨t,rfl⟩:=rx;rfl)
theorem nomark (b:Expr) {op:CmpOp} (h:op≠.In:=by decide) (h2:op≠.NotIn:=by decide):behindInMarks op b=false:=by
 have e1:(op == CmpOp.In)=false:=by cases op <;> first | rfl | exact absurd rfl h
 have e2:(op == CmpOp.NotIn)=false:=by cases op <;> first | rfl | exact absurd rfl h2
 cases b <;> simp [behindInMarks,e1,e2]
theorem qJ {op:CmpOp} {r:R2} (ho:OpR X (compareOp op) r) (ha:PE X a ta) (hb:PE X b tb) (hm:behindInMarks op b=false):PE X (.Compare a [op] [b] pos) (tOp r ta tb):=by
 intro pins s σ H Q I h
 exact wpAny_Compare1 (binT ha hb I h fun v u s2 x y H2 I2 rx ry q=>ho pins s2 σ H2 x y v u Q I2 rx ry q) hm
def tTest (t:TE):TT:=fun σ H Q=>t σ H fun x H'=>∃ k,x = .bl k∧Q k H'
theorem qk {op:CmpOp} {r:R2} (ho:OpR X (compareOp op) r) (ha:PE X a ta) (hb:PE X b tb) (hm:behindInMarks op b=false):PT X (.Compare a [op] [b] pos) (tTest (tOp r ta tb)):=by
 intro pins s σ H Q I h
 refine wpAny_isTrue_Compare1 (thn (ha pins s σ H _ I h) fun v s1 ⟨x,H1,I1,r1,q1⟩=>thn (hb pins s1 σ H1 _ I1 q1) fun u s2 ⟨y,H2,I2,r2,q2⟩ =>
  thn (ho pins s2 σ H2 x y v u _ I2 r1 r2 q2) fun c s3 ⟨z,H3,I3,r3,k,e,q3⟩=>?_) hm
 subst e
 cases r3
 exact wpAny_truthy_bool ⟨H3,I3,q3⟩
def tChain (r r':R2) (ta tb tc:TE):TE:=fun σ H Q=>ta σ H fun x H1=>tb σ H1 fun y H2=>r x y H2 fun z H3=>∃ k,z = .bl k ∧
 (if k=true then tc σ H3 fun w' H4=>r' y w' H4 Q else Q (.bl false) H3)
theorem oj {op op':CmpOp} {r r':R2} (ho:OpR X (compareOp op) r) (ho':OpR X (compareOp op') r') (ha:PE X a ta) (hb:PE X b tb) (hc:PE X c tc)
  (hm:lastMarks [op,op'] [b,c]=false:=by with_unfolding_all rfl):PE X (.Compare a [op,op'] [b,c] pos) (tChain r r' ta tb tc):=by
 intro pins s σ H Q I h
 refine Compare_chain (thn (ha pins s σ H _ I h) fun v s1 ⟨x,H1,I1,r1,q1⟩=>chain_link (thn (hb pins s1 σ H1 _ I1 q1) fun u s2 ⟨y,H2,I2,r2,q2⟩ =>
  thn (ho pins s2 σ H2 x y v u _ I2 r1 r2 q2) fun d s3 ⟨z,H3,I3,r3,k,e,q3⟩=>?_)) hm
 subst e
 cases r3
 refine wpAny_truthy_bool ?_
 cases k with
 | false=>exact ite_ff ⟨.bl false,H3,I3,rfl,q3⟩
 | true=>exact ite_tt (chain_last (thn (hc pins s3 σ H3 _ I3 q3) fun w' s4 ⟨z',H4,I4,r4,q4⟩=>ho' pins s4 σ H4 y z' u w' Q I4 r2 r4 q4))
theorem nU {op op':CmpOp} {r r':R2} (ho:OpR X (compareOp op) r) (ho':OpR X (compareOp op') r') (ha:PE X a ta) (hb:PE X b tb) (hc:PE X c tc)
  (hm:lastMarks [op,op'] [b,c]=false:=by with_unfolding_all rfl):PT X (.Compare a [op,op'] [b,c] pos) (tTest (tChain r r' ta tb tc)):=by
 intro pins s σ H Q I h
 refine isTrue_chain (thn (ha pins s σ H _ I h) fun v s1 ⟨x,H1,I1,r1,q1⟩=>test_link (thn (hb pins s1 σ H1 _ I1 q1) fun u s2 ⟨y,H2,I2,r2,q2⟩ =>
  thn (ho pins s2 σ H2 x y v u _ I2 r1 r2 q2) fun d s3 ⟨z,H3,I3,r3,k,e,q3⟩=>?_)) hm
 subst e
 cases r3
 refine wpAny_truthy_bool ?_
 cases k with
 | false =>
  obtain ⟨k',e',q'⟩:=q3
  cases e'
  exact ite_ff ⟨H3,I3,q'⟩
 | true =>
  refine ite_tt (test_last (thn (hc pins s3 σ H3 _ I3 q3) fun w' s4 ⟨z',H4,I4,r4,q4⟩=>thn (ho' pins s4 σ H4 y z' u w' _ I4 r2 r4 q4) fun d' s5 ⟨z2,H5,I5,r5,k2,e2,q5⟩=>?_))
  subst e2
  cases r5
  exact wpAny_truthy_bool ⟨H5,I5,q5⟩
def TruV (K:xFr) (x:V) (H:Hp) (k:Bool):Prop :=
 match x with
 | .non=>k=false
 | .bl b=>k=b
 | .int i=>k=(i != 0)
 | .str y=>y.length≤sizeLine∧k=((y.length:Int) != 0)
 | .byt y=>y.size≤sizeLine∧k=((y.size:Int) != 0)
 | .ref p=>(∃ xs,SqL K H p xs∧k=!xs.isEmpty)∨(∃ xs,SqT K H p xs∧k=!xs.isEmpty)∨∃ kvs,H p=some (.dK kvs)∧k=!kvs.isEmpty
 | _=>False
theorem j5 {κ:Type} {kvs:List (κ×V)} {vs:List (κ×Value)} (r:KV kvs vs):(!vs.isEmpty)=!kvs.isEmpty:=by
 cases r <;> rfl
theorem gc {xs:List V} {its:List Value} (r:Vals xs its):(!its.toArray.isEmpty)=!xs.isEmpty:=by
 cases r <;> simp
theorem line63:(sizeLine:Nat)<2 ^ 63:=by rw [sizeLine_eq];decide
theorem sk:TruR X (fun x H Q=>∃ k,TruV X.K x H k∧Q k H):=by
 intro pins s σ H x v Q I rx h
 obtain ⟨k,e,q⟩:=h
 have hl:=line63
 have hs:sizeLine=16777216:=sizeLine_eq
 cases x with
 | non =>
  cases rx
  have e':k=false:=e
  subst e'
  exact truthy_none ⟨H,I,q⟩
 | bl b =>
  cases rx
  have e':k=b:=e
  subst e'
  exact wpAny_truthy_bool ⟨H,I,q⟩
 | int i =>
  obtain ⟨t,rfl⟩:=rx
  have e':k=(i != 0):=e
  subst e'
  exact PySem.P.truthy_int ⟨H,I,q⟩
 | str y =>
  obtain ⟨t,rfl⟩:=rx
  obtain ⟨hy,e'⟩:y.length≤sizeLine∧k=((y.length:Int) != 0):=e
  subst e'
  exact PySem.P.truthy_str (by lia) ⟨H,I.tok _,q⟩
 | byt y =>
  obtain ⟨t,rfl⟩:=rx
  obtain ⟨hy,e'⟩:y.size≤sizeLine∧k=((y.size:Int) != 0):=e
  subst e'
  exact PySem.W.truthy_bytes (by lia) ⟨H,I.tok _,q⟩
 | ref p =>
  cases rx
  have e':(∃ xs,SqL X.K H p xs∧k=!xs.isEmpty)∨(∃ xs,SqT X.K H p xs∧k=!xs.isEmpty)∨∃ kvs,H p=some (.dK kvs)∧k=!kvs.isEmpty:=e
  rcases e' with ⟨xs,hx,e'⟩ | ⟨xs,hx,e'⟩ | ⟨kvs,hx,e'⟩
  ·subst e'
   obtain ⟨its,r,pl,hz⟩:=I.list hx
   have hlen:=r.length
   exact wpAny_truthy_list pl.isList (by simp only [xAp];lia) ⟨H,I.tok _,by rw [gc r];exact q⟩
  ·subst e'
   obtain ⟨its,r,pl,hz⟩:=I.tuple hx
   have hlen:=r.length
   exact truthy_tuple pl (by simp only [xAp];lia) ⟨H,I.tok _,by rw [gc r];exact q⟩
  ·subst e'
   obtain ⟨hz,hS,vs,r,m⟩:kvs.length≤sizeLine∧(p == sysModules)=false∧∃ vs,KV kvs vs∧s.heap.DictOf (mixKind X.prog X.w) p vs:=I.hok p _ hx
   have hlen:kvs.length=vs.length:=Paired.length r
   exact wpAny_truthy_dict hS m (by lia) ⟨H,I.tok _,by rw [j5 r];exact q⟩
 | _=>exact (show False from e).elim
theorem nT (ha:PE X a ta) (he:∀ whole,isTrue a X.env whole=(do let v ← whole;standAt a.pos;holding [v] (truthy v))) :
  PT X a (fun σ H Q=>ta σ H fun x H'=>∃ k,TruV X.K x H' k∧Q k H'):=by
 intro pins s σ H Q I h
 exact isTrue_plain (thn (ha pins s σ H _ I h) fun v s1 ⟨x,H1,I1,r1,q1⟩=>sk pins s1 σ H1 x v Q I1 r1 q1) (he _)
theorem jT:OpR X (binaryOp .Add) (fun x y H Q=>∃ i j,x = .str i∧y = .str j∧i.length+j.length≤sizeLine∧Q (.str (i++j)) H):=by
 intro pins s σ H x y v u Q I rx ry h
 obtain ⟨i,j,rfl,rfl,hz,q⟩:=h
 obtain ⟨t,rfl⟩:=rx
 obtain ⟨t',rfl⟩:=ry
 exact add_str (fun t' tk=>⟨.str (i++j),H,I.tok _,⟨_,rfl⟩,q⟩) hz
theorem vals1 {x:V} {us:List Value} (r:Vals [x] us):∃ u,us=[u]∧RelV x u:=by
 cases r with
 | cons r1 r2=>cases r2;exact ⟨_,rfl,r1⟩
theorem vals2 {x y:V} {us:List Value} (r:Vals [x,y] us):∃ u w',us=[u,w']∧RelV x u∧RelV y w':=by
 cases r with
 | cons r1 r2 =>
  cases r2 with
  | cons r3 r4=>cases r4;exact ⟨_,_,rfl,r1,r3⟩
theorem mM (hc:X.calm=true):CallR X (.builtin "max") (fun xs H Q=>∃ i j,xs=[.int i,.int j]∧Q (.int (if j > i then j else i)) H):=by
 intro pins s σ H xs us Q I r h
 obtain ⟨i,j,rfl,q⟩:=h
 obtain ⟨u,w',rfl,⟨t,rfl⟩,⟨t',rfl⟩⟩:=vals2 r
 refine max_two_ints (I.ok.hd hc) fun h' tk k=>⟨_,H,I.kept k,?_,q⟩
 by_cases hj:j > i
 ·rw [xCg hj,xCg hj];exact ⟨_,rfl⟩
 ·rw [xCf hj,xCf hj];exact ⟨_,rfl⟩
theorem mL (hc:X.calm=true):CallR X (.builtin "min") (fun xs H Q=>∃ i j,xs=[.int i,.int j]∧Q (.int (if j<i then j else i)) H):=by
 intro pins s σ H xs us Q I r h
 obtain ⟨i,j,rfl,q⟩:=h
 obtain ⟨u,w',rfl,⟨t,rfl⟩,⟨t',rfl⟩⟩:=vals2 r
 refine min_two_ints (I.ok.hd hc) fun h' tk k=>⟨_,H,I.kept k,?_,q⟩
 by_cases hj:j<i
 ·rw [xCg hj,xCg hj];exact ⟨_,rfl⟩
 ·rw [xCf hj,xCf hj];exact ⟨_,rfl⟩
theorem mO:CallR X (.type "int") (fun xs H Q=>(∃ i,xs=[.int i]∧Q (.int i) H)∨∃ k,xs=[.bl k]∧Q (.int (if k then 1 else 0)) H):=by
 intro pins s σ H xs us Q I r h
 rcases h with ⟨i,rfl,q⟩ | ⟨k,rfl,q⟩
 ·obtain ⟨u,rfl,t,rfl⟩:=vals1 r
  exact call_int_int ⟨.int i,H,I,⟨_,rfl⟩,q⟩
 ·obtain ⟨u,rfl,r1⟩:=vals1 r
  cases r1
  exact call_int_bool ⟨.int (if k then 1 else 0),H,I.tok _,⟨_,rfl⟩,q⟩
def LenV (K:xFr) (x:V) (H:Hp) (n:Nat):Prop :=
 match x with
 | .str y=>y.length≤sizeLine∧n=y.length
 | .byt y=>y.size≤sizeLine∧n=y.size
 | .ref p=>(∃ xs,SqL K H p xs∧n=xs.length)∨∃ xs,SqT K H p xs∧n=xs.length
 | _=>False
theorem pk:CallR X (.builtin "len") (fun xs H Q=>∃ x n,xs=[x]∧LenV X.K x H n∧Q (.int n) H):=by
 intro pins s σ H xs us Q I r h
 obtain ⟨x,n,rfl,e,q⟩:=h
 obtain ⟨u,rfl,rx⟩:=vals1 r
 have hl:=line63
 have hs:sizeLine=16777216:=sizeLine_eq
 cases x with
 | str y =>
  obtain ⟨t,rfl⟩:=rx
  obtain ⟨hy,e'⟩:y.length≤sizeLine∧n=y.length:=e
  subst e'
  exact len_str (by lia) ⟨.int _,H,I.tok _,⟨_,rfl⟩,q⟩
 | byt y =>
  obtain ⟨t,rfl⟩:=rx
  obtain ⟨hy,e'⟩:y.size≤sizeLine∧n=y.size:=e
  subst e'
  exact PySem.W.len_bytes (by lia) ⟨.int _,H,I.tok _,⟨_,rfl⟩,q⟩
 | ref p =>
  cases rx
  have e':(∃ xs,SqL X.K H p xs∧n=xs.length)∨∃ xs,SqT X.K H p xs∧n=xs.length:=e
  rcases e' with ⟨xs,hx,e'⟩ | ⟨xs,hx,e'⟩
  ·subst e'
   obtain ⟨its,r',pl,hz⟩:=I.list hx
   have hlen:=r'.length
   exact Calls.call_len_list pl.isList (by simp only [xAp];lia) ⟨.int xs.length,H,I.tok _,⟨_,by simp only [xAp];rw [hlen]⟩,q⟩
  ·subst e'
   obtain ⟨its,r',pl,hz⟩:=I.tuple hx
   have hlen:=r'.length
   exact len_tuple pl (by simp only [xAp];lia) ⟨.int xs.length,H,I.tok _,⟨_,by simp only [xAp];rw [hlen]⟩,q⟩
 | _=>exact (show False from e).elim
end
end L2
namespace L2
open PySem PySem.Spec PyProof.Rows
structure ObjM (h:Heap) (x dx C:Addr) (mA:Str→Option Value):Prop where
 obj:h.get? x=some (PySem.W.instObj C dx)
 ns:h.Ns1 dx mA
 ne:dx≠x
theorem mr {h:Heap} {dx:Addr} {mA:Str→Option Value} (n:h.Ns1 dx mA):∃ od,h.get? dx=some od∧∀ name,PySem.W.lookIn name od=some (mA name):=by
 obtain ⟨o,es,ep,ho,hd,hk,_,hm⟩:=n
 refine ⟨o,ho,fun name=>?_⟩
 have e:=hm name
 unfold nsFind findBy at e
 rw [← Array.find?_toList] at e
 unfold PySem.W.lookIn
 rw [hd]
 dsimp only
 split
 ·rename_i y q
  rw [q] at e
  exact congrArg some e
 ·rename_i q
  rw [q] at e
  have a:es.toList.any (·.refKey)=false:=by
   rw [List.any_eq_false]
   intro y hy
   obtain ⟨z,t,hkey⟩:=hk y (Array.mem_toList_iff.mp hy)
   simp [DictEntry.refKey,hkey]
  have a':¬ es.toList.any (·.refKey)=true:=by rw [a];exact xAy
  rw [xCf a']
  exact congrArg some e
theorem ObjM.look {h:Heap} {x dx C:Addr} {mA:Str→Option Value} (I:ObjM h x dx C mA):∃ od,PySem.W.InstAt h x (PySem.W.instObj C dx) C (some od)∧∀ name,PySem.W.lookIn name od=some (mA name) :=
 let ⟨od,ho,hl⟩:=mr I.ns
 ⟨od,⟨I.obj,rfl,rfl,ho⟩,hl⟩
section
variable {prog:Program} {w:World} {A:Around} {E:Value→Shared→Prop} {s:Shared} {K:xFr} {x dx C f:Addr} {mA:Str→Option Value} {name:Str} {v:Value}
theorem rj {expr:Bool} {Q:Value→Shared→Prop} (X:K.In s.heap) (I:ObjM s.heap x dx C mA) (hg:PySem.W.plainGet K C name=true) (hh:PySem.W.hasDictIn K C=true)
  (ha:PySem.W.findIn K (.ref C) name=some none) (hv:mA name=some v) (hv':PySem.W.handedIn v=true) (h:Q v { s with toks:=s.toks+1 }) :
  wpAny (model prog w) A (getAttr (.ref x) name expr) Q E s:=by
 obtain ⟨od,J,hl⟩:=I.look
 exact PySem.W.get_value X J (PySem.W.plainGet_of hg).1 (PySem.W.findObj_own hh ha rfl (by rw [hl,hv])) hv' h
theorem oT {pl:Sem Bool} {Q:Value×List Value→Shared→Prop} (X:K.In s.heap) (I:ObjM s.heap x dx C mA) (hg:PySem.W.plainGet K C name=true)
  (hf:PySem.W.findIn K (.ref C) name=some (some (.ref f))) (ht:PySem.W.isFn K (.ref f)=true) (hv:mA name=none) (h:Q (.ref f,[.ref x]) s) :
  wpAny (model prog w) A (getMethod (.ref x) name pl) Q E s:=by
 obtain ⟨od,J,hl⟩:=I.look
 exact PySem.W.method_fn X J (PySem.W.plainGet_of hg).1 (PySem.W.plainGet_of hg).2 hf (beq_iff_eq.mp ht) (by show (PySem.W.lookIn name od).map (·.isSome)=some false;rw [hl,hv];rfl) h
theorem pP {ns:List Str} {Q:Unit→Shared→Prop} (X:K.In s.heap) (I:ObjM s.heap x dx C mA)
  (hs:PySem.W.findIn K (.ref C) "__setattr__"=some (some (.builtin "object.__setattr__"))) (hp:PySem.W.plainOver K C=true) (ht:PySem.W.takerIn K C name=some none) (hh:PySem.W.hasDictIn K C=true)
  (hw:PySem.Within mA ns) (hsz:ns.length≤sizeLine)
  (h:∀ h',ObjM h' x dx C (fun y=>if y=name then some v else mA y)→Heap.SameBut dx s.heap h'→Q () { s with heap:=h',toks:=s.toks+2 }) :
  wpAny (model prog w) A (setAttr (.ref x) name v) Q E s:=by
 obtain ⟨od,J,hl⟩:=I.look
 refine PySem.W.set_plain X J hs (PySem.W.osa_open (s:={ s with toks:=s.toks+1 }) (r:=none) X J hp ht fun b=>?_)
 obtain ⟨cd,hc,hd'⟩:=PySem.W.any_some hh
 have hx:s.heap.get? x=some ⟨.ref C,some dx,.plain,#[]⟩:=I.obj
 refine xAd (xAe (xAd (xAd (wpAny_loadPart hx (xAd (PySem.W.Looks.here (s:={ s with toks:=s.toks+1 }) (PySem.W.looks_clsIn X hc) ?_))))))
 rw [hd']
 refine xAe (a:=some dx) (xAd (xAe (xAd ?_)))
 refine wpAny_nsSet1 (s:={ s with toks:=s.toks+1 }) I.ns fun h' hn2 hs2=>?_
 obtain ⟨oD,esD,epD,hoD,hdD,hcD⟩:=hn2.count (PySem.Within.cons name v hw)
 refine xAd (wpAny_lookBehind hoD (by rw [hdD];exact pastItsLine_dict (Nat.le_trans hcD (by rw [xAo];lia))) ?_)
 exact xAe (h _ ⟨(hs2.2 _ (Ne.symm I.ne)).trans I.obj,hn2,I.ne⟩ hs2)
theorem oG {R:Result→Shared→Prop} {vs:List Value} {kw:List (Str×Value)} (X:K.In s.heap) (hm:PySem.W.makesIn K C=true)
  (hi:PySem.W.findIn K (.ref C) "__init__"=some (some (.ref f))) (hf:PySem.W.typeIn K (.ref f)=some (.type "function"))
  (h:codeAny (model prog w) (A.under (.builtin "type.__call__" ⟨.ref C::vs,kw⟩)) (.call (.ref f) ⟨.ref (s.heap.objs.size+1)::vs,kw⟩) (PySem.W.InitBack (s.heap.objs.size+1) R)
   { s with heap:=(s.heap.push PySem.W.emptyDict).push (PySem.W.instObj C s.heap.objs.size) }) :
  codeAny (model prog w) A (.call (.ref C) ⟨vs,kw⟩) R s:=by
 obtain ⟨hh,g,d,t,os⟩:=s
 exact PySem.W.make_core (PySem.W.makes_of X hm) (PySem.W.looks_findIn X hi) (fun self=>PySem.W.bind_fn X self hf) (.inl rfl) h
end
def putF (f:Str) (v:V):List (Str×V)→List (Str×V)
 | []=>[(f,v)]
 | (g,x)::r=>if g=f then (g,v)::r else (g,x)::putF f v r
theorem ff (f g:Str) (v:V):∀ fs:List (Str×V),(putF f v fs).lookup g=if g=f then some v else fs.lookup g
 | []=>by
  show List.lookup g [(f,v)]=_
  by_cases h:g=f
  ·have hb:(g == f)=true:=beq_iff_eq.mpr h
   simp only [List.lookup,hb,xCg h]
  ·have hb:(g == f)=false:=beq_eq_false_iff_ne.mpr h
   simp only [List.lookup,hb,xCf h]
 | (k,x)::r=>by
  have ih:=ff f g v r
  rw [show putF f v ((k,x)::r)=(if k=f then (k,v)::r else (k,x)::putF f v r) from rfl]
  by_cases hk:k=f
  ·rw [xCg hk]
   by_cases h:g=k
   ·have hb:(g == k)=true:=beq_iff_eq.mpr h
    simp only [List.lookup,hb,xCg (h.trans hk)]
   ·have hb:(g == k)=false:=beq_eq_false_iff_ne.mpr h
    simp only [List.lookup,hb,xCf (fun e:g=f=>h (e.trans hk.symm))]
  ·rw [xCf hk]
   by_cases h:g=k
   ·have hb:(g == k)=true:=beq_iff_eq.mpr h
    simp only [List.lookup,hb,xCf (fun e:g=f=>hk (h.symm.trans e))]
   ·have hb:(g == k)=false:=beq_eq_false_iff_ne.mpr h
    simp only [List.lookup,hb]
    exact ih
theorem e7 (f:Str) (v:V):∀ fs:List (Str×V),f∈(putF f v fs).map (·.1)∧∀ g,g∈fs.map (·.1)→g∈(putF f v fs).map (·.1)
 | []=>⟨by simp [putF],fun g h=>by simp at h⟩
 | (k,x)::r=>by
  obtain ⟨i1,i2⟩:=e7 f v r
  rw [show putF f v ((k,x)::r)=(if k=f then (k,v)::r else (k,x)::putF f v r) from rfl]
  by_cases hk:k=f
  ·rw [xCg hk]
   subst hk
   exact ⟨by simp,fun g h=>by simpa using h⟩
  ·rw [xCf hk]
   refine ⟨?_,fun g h=>?_⟩
   ·rw [xBs]
    exact xAs _ i1
   ·rw [xBs] at h ⊢
    rcases xAv.mp h with e | e
    ·exact xAv.mpr (.inl e)
    ·exact xAs _ (i2 g e)
theorem fh (f:Str) (v:V):∀ fs:List (Str×V),(putF f v fs).length≤fs.length+1
 | []=>by simp [putF]
 | (k,x)::r=>by
  have ih:=fh f v r
  rw [show putF f v ((k,x)::r)=(if k=f then (k,v)::r else (k,x)::putF f v r) from rfl]
  by_cases hk:k=f
  ·rw [xCg hk,xAo,xAo];lia
  ·rw [xCf hk,xAo,xAo];lia
theorem RelO.some_of {v:V} {o:Option Value} (r:RelO (some v) o):∃ u,o=some u∧RelV v u:=by
 cases o with
 | none=>exact (show False from r).elim
 | some u=>exact ⟨u,rfl,r⟩
theorem RelO.none_of {o:Option Value} (r:RelO none o):o=none:=by
 cases o with
 | none=>rfl
 | some u=>exact (show False from r).elim
theorem mD {v:V} {u:Value} (r:RelV v u):PySem.W.handedIn u=true:=by
 cases v with
 | non=>cases (show u=Value.none from r);rfl
 | bl b=>cases (show u=Value.bool b from r);rfl
 | int i=>obtain ⟨t,e⟩:=(show ∃ t,u=Value.int i t from r);cases e;rfl
 | str x=>obtain ⟨t,e⟩:=(show ∃ t,u=Value.str x t from r);cases e;rfl
 | byt b=>obtain ⟨t,e⟩:=(show ∃ t,u=Value.bytes b t from r);cases e;rfl
 | flt b=>obtain ⟨t,e⟩:=(show ∃ t,u=Value.float b t from r);cases e;rfl
 | ref a=>cases (show u=Value.ref a from r);rfl
 | ty n=>cases (show u=Value.type n from r);rfl
section
variable {P:Program} {w:World} {H H':Hp} {h h':Heap} {a C dx:Addr} {fs fs':List (Str×V)}
theorem fH (hok:HOk P w H h) (e:H a=some (.ins C dx fs)):∃ mA,ObjM h a dx C mA∧(∀ f,RelO (fs.lookup f) (mA f))∧PySem.Within mA (fs.map (·.1))∧fs.length≤1000∧H dx=some (.own a):=by
 obtain ⟨d,z,ne,ob,mA,n,r,q⟩:=(show ObjOk P w H h a (.ins C dx fs) from hok a _ e)
 exact ⟨mA,⟨ob,n,ne⟩,r,q,z,d⟩
end
structure Cls (K:xFr) (C:Addr):Prop where
 pg:PySem.W.plainGet K C Str.empty=true
 hd:PySem.W.hasDictIn K C=true
 po:PySem.W.plainOver K C=true
 sa:PySem.W.findIn K (.ref C) "__setattr__"=some (some (.builtin "object.__setattr__"))
theorem Cls.get {K:xFr} {C:Addr} (c:Cls K C) (f:Str):PySem.W.plainGet K C f=true:=c.pg
def NoAttr (K:xFr) (C:Addr) (f:Str):Prop:=PySem.W.findIn K (.ref C) f=some none
theorem NoAttr.taker {K:xFr} {C:Addr} {f:Str} (n:NoAttr K C f):PySem.W.takerIn K C f=some none:=by
 unfold PySem.W.takerIn
 rw [show PySem.W.findIn K (.ref C) f=some none from n]
 rfl
structure Meth (K:xFr) (C:Addr) (m:Str) (f:Addr):Prop where
 at_:PySem.W.findIn K (.ref C) m=some (some (.ref f))
 fn:PySem.W.isFn K (.ref f)=true
 kp:PySem.W.keepIn K (.ref f)=true
section
variable {X:Cx} {pins:List (Addr×Obj)} {σ:St} {H:Hp} {s:Shared} {a C dx:Addr} {fs:List (Str×V)} {f:Str} {v:V} {A:Around} {E:Value→Shared→Prop}
theorem j6 {b:Bool} {Q:Value→Shared→Prop} (I:Inv X pins σ H s) (e:H a=some (.ins C dx fs)) (c:Cls X.K C) (n:NoAttr X.K C f) (l:fs.lookup f=some v)
  (h:∀ u s',Inv X pins σ H s'→RelV v u→Q u s'):wpAny (model X.prog X.w) A (getAttr (.ref a) f b) Q E s:=by
 obtain ⟨mA,O,r,_,_,_⟩:=fH I.hok e
 obtain ⟨u,hu,ru⟩:=RelO.some_of (v:=v) (o:=mA f) (by rw [← l];exact r f)
 exact rj I.kIn O (c.get f) c.hd n hu (mD ru) (h u _ (I.tok _) ru)
theorem gj {m:Str} {g:Addr} {pl:Sem Bool} {Q:Value×List Value→Shared→Prop} (I:Inv X pins σ H s) (e:H a=some (.ins C dx fs)) (c:Cls X.K C) (k:Meth X.K C m g) (l:fs.lookup m=none)
  (h:Q (.ref g,[.ref a]) s):wpAny (model X.prog X.w) A (getMethod (.ref a) m pl) Q E s:=by
 obtain ⟨mA,O,r,_,_,_⟩:=fH I.hok e
 have hn:mA m=none:=RelO.none_of (by rw [← l];exact r m)
 exact oT I.kIn O (c.get m) k.at_ k.fn hn h
theorem jM {y:V} {u:Value} {Q:Unit→Shared→Prop} (I:Inv X pins σ H s) (e:H a=some (.ins C dx fs)) (c:Cls X.K C) (n:NoAttr X.K C f) (hl:fs.length<1000) (ry:RelV y u)
  (h:∀ s',Inv X pins σ (upd H a (.ins C dx (putF f y fs))) s'→Q () s'):wpAny (model X.prog X.w) A (setAttr (.ref a) f u) Q E s:=by
 obtain ⟨mA,O,r,wi,_,ho⟩:=fH I.hok e
 have hz:(fs.map (·.1)).length≤sizeLine:=by rw [xAa,sizeLine_eq];lia
 refine pP I.kIn O c.sa c.po n.taker c.hd wi hz fun h' O' sb=>h _ ?_
 have hd:∃ o,h'.get? dx=some o:=let ⟨o,_,_,e',_⟩:=O'.ns;⟨o,e'⟩
 refine I.write (x:=a) (e:=dx) (by rw [e];exact True.intro) (.inr ho) (fun b q hb z=>(sb.2 b hb).trans z) hd ?_
 refine ⟨by rw [am O.ne];exact ho,?_,O.ne,O'.obj,_,O'.ns,fun g=>?_,fun g hg=>?_⟩
 ·have:=fh f y fs;lia
 ·show RelO ((putF f y fs).lookup g) (if g=f then some u else mA g)
  rw [ff]
  by_cases q:g=f
  ·rw [xCg q,xCg q];exact ry
  ·rw [xCf q,xCf q];exact r g
 ·by_cases q:g=f
  ·rw [q];exact (e7 f y fs).1
  ·refine (e7 f y fs).2 g (wi g fun z=>hg ?_)
   show (if g=f then some u else mA g)=none
   rw [xCf q];exact z
theorem Inv.made (I:Inv X pins σ H s):Inv X pins σ (upd (upd H s.heap.objs.size (.own (s.heap.objs.size+1))) (s.heap.objs.size+1) (.ins C s.heap.objs.size []))
  { s with heap:=(s.heap.push PySem.W.emptyDict).push (PySem.W.instObj C s.heap.objs.size) }:=by
 have e1:(s.heap.push PySem.W.emptyDict).get? s.heap.objs.size=some PySem.W.emptyDict:=xAl s.heap rfl
 have e2:((s.heap.push PySem.W.emptyDict).push (PySem.W.instObj C s.heap.objs.size)).get? (s.heap.objs.size+1)=some (PySem.W.instObj C s.heap.objs.size):=by
  have:=xAl (s.heap.push PySem.W.emptyDict) (o:=PySem.W.instObj C s.heap.objs.size) rfl
  rwa [Heap.size_push] at this
 have e3:(s.heap.push PySem.W.emptyDict).Ns s.heap.objs.size (fun _=>none):=⟨PySem.W.emptyDict,#[],_,e1,rfl,(fun e he=>absurd he (by simp)),fun _=>rfl⟩
 have I1:=I.laid (a:=s.heap.objs.size) (o:=.own (s.heap.objs.size+1)) (h':=s.heap.push PySem.W.emptyDict) (t':=s.toks) (fun b u q=>xAf _ q) (xAg _) ⟨_,e1⟩
 refine I1.laid (a:=s.heap.objs.size+1) (o:=.ins C s.heap.objs.size []) (t':=s.toks) (fun b u q=>xAf _ q) (Nat.le_of_eq (Heap.size_push _ _)) ?_
 have ne:s.heap.objs.size≠s.heap.objs.size+1:=xA0 (Nat.lt_succ_self _)
 refine ⟨by rw [am ne,ah],xBn _,ne,e2,fun _=>none,(Heap.Ns1.of_empty e3).at fun o q=>xAf _ q,fun _=>True.intro,fun y hy=>absurd rfl hy⟩
theorem rF {prog:Program} {w:World} {env:Env} {e:Expr} {f:Str} {pos:Pos} {s:Shared} {Q:Value→Shared→Prop} (hb:attributeBase e f env (eval e env)=eval e env)
  (h:wpAny (model prog w) A (eval e env) (fun o s₁=>wpAny (model prog w) A (getAttr o f true) Q E s₁) E s):wpAny (model prog w) A (eval (.Attribute e f pos) env) Q E s :=
 Attribute_any_ h (by rw [arm_eval_Attribute,hb])
end
def tFld (K:xFr) (ta:TE) (f:Str):TE:=fun σ H Q=>ta σ H fun x H1=>∃ a C dx fs v,x = .ref a∧H1 a=some (.ins C dx fs)∧Cls K C∧NoAttr K C f∧fs.lookup f=some v∧Q v H1
def sFld (K:xFr) (ta tv:TE) (f:Str):TS:=fun D σ H=>tv σ H fun y H1=>ta σ H1 fun x H2=>∃ a C dx fs,x = .ref a∧H2 a=some (.ins C dx fs)∧Cls K C∧NoAttr K C f∧fs.length<1000 ∧
 D.nx σ (upd H2 a (.ins C dx (putF f y fs)))
section
variable {X:Cx} {o e value:Expr} {f:Str} {pos pos' tpos:Pos} {ta tv:TE}
theorem tQ (he:PE X e ta) (hb:attributeBase e f X.env (eval e X.env)=eval e X.env):PE X (.Attribute e f pos) (tFld X.K ta f):=by
 intro pins s σ H Q I h
 refine rF hb (thn (he pins s σ H _ I h) fun u s1 ⟨x,H1,I1,rx,a,C,dx,fs,v,ex,ea,c,n,l,q⟩=>?_)
 subst ex
 obtain rfl:u=Value.ref a:=rx
 exact j6 I1 ea c n l fun u' s2 I2 ru=>⟨v,H1,I2,ru,q⟩
theorem tz (ha:PE X o ta) (hv:PE X value tv) (hs:swapsWith value (some (.Attribute o f pos')) pos.line X.env=pure false):PS X (.Assign [.Attribute o f pos'] value pos) (sFld X.K ta tv f):=by
 intro pins s σ H D I h
 refine plainObj_wpAny_Assign_Attribute (thn (hv pins s σ H _ I h) fun u s1 ⟨y,H1,I1,ry,q⟩=>thn (ha pins s1 σ H1 _ I1 q) fun ov s2 ⟨x,H2,I2,rx,a,C,dx,fs,ex,ea,c,n,l,q2⟩=>?_) hs
 subst ex
 obtain rfl:ov=Value.ref a:=rx
 exact jM I2 ea c n l ry fun s3 I3=>⟨σ,_,I3,q2⟩
end
section
variable {X:Cx} {pins:List (Addr×Obj)} {σ:St} {H:Hp} {s:Shared} {A:Around} {E:Value→Shared→Prop} {Q:Value→Shared→Prop} {c:Value} {b:Bool}
inductive TyOf (K:xFr) (H:Hp):V→Value→Prop where
 | non:TyOf K H .non (.type "NoneType")
 | bl (x:Bool):TyOf K H (.bl x) (.type "bool")
 | int (i:Int):TyOf K H (.int i) (.type "int")
 | str (x:Str):TyOf K H (.str x) (.type "str")
 | flt (x:UInt64):TyOf K H (.flt x) (.type "float")
 | lst {a:Addr} {xs:List V} (e:H a=some (.lst xs)):TyOf K H (.ref a) (.type "list")
 | frz {a:Addr} {o:Obj} {xs:List V} (e:H a=some (.frz o (.lst xs))):TyOf K H (.ref a) (.type "list")
 | tup {a:Addr} {xs:List V} (e:H a=some (.tup xs)):TyOf K H (.ref a) (.type "tuple")
 | dK {a:Addr} {kvs:List (Key×V)} (e:H a=some (.dK kvs)):TyOf K H (.ref a) (.type "dict")
 | dT {a:Addr} {kvs:List (List Key×V)} (e:H a=some (.dT kvs)):TyOf K H (.ref a) (.type "dict")
 | ins {a C dx:Addr} {fs:List (Str×V)} (e:H a=some (.ins C dx fs)) (cl:Cls K C) (ha:PySem.W.findIn K (.ref C) "__class__"=some (some (.builtin "object.__class__")))
   (hn:PySem.W.specialIn K (.builtin "object.__class__") "__get__"=some (some (.builtin "getset_descriptor.__get__"))) (htk:PySem.W.takesIn K (.builtin "object.__class__")=some true)
   (hm:PySem.W.mroIn K C (.type "object")=some true):TyOf K H (.ref a) (.ref C)
theorem my {x:V} {u t:Value} (I:Inv X pins σ H s) (rx:RelV x u) (ty:TyOf X.K H x t) (e:PySem.W.kitOne X.K t c=some b) (h:∀ tk,Q (.bool b) { s with toks:=tk }) :
  wpAny (model X.prog X.w) A (call (.builtin "isinstance") [u,c]) Q E s:=by
 cases ty with
 | non=>cases (show u=Value.none from rx);exact PySem.W.kia_one PySem.W.kitx_none I.kIn True.intro e (fun z=>nomatch z) h
 | bl y=>cases (show u=Value.bool y from rx);exact PySem.W.kia_one PySem.W.kitx_bool I.kIn True.intro e (fun z=>nomatch z) h
 | int i=>obtain ⟨t,q⟩:=(show ∃ t,u=Value.int i t from rx);cases q;exact PySem.W.kia_one PySem.W.kitx_int I.kIn True.intro e (fun z=>nomatch z) h
 | str y=>obtain ⟨t,q⟩:=(show ∃ t,u=Value.str y t from rx);cases q;exact PySem.W.kia_one PySem.W.kitx_str I.kIn True.intro e (fun z=>nomatch z) h
 | flt y=>obtain ⟨t,q⟩:=(show ∃ t,u=Value.float y t from rx);cases q;exact PySem.W.kia_one PySem.W.kitx_float I.kIn True.intro e (fun z=>nomatch z) h
 | @lst a xs ea =>
  cases (show u=Value.ref a from rx)
  obtain ⟨_,_,n,_,h1⟩:=(show ObjOk X.prog X.w H s.heap a (.lst xs) from I.hok a _ ea)
  exact PySem.W.kia_one PySem.W.kitx_list I.kIn ⟨_,h1,rfl⟩ e (fun z=>nomatch z) h
 | @frz a ob xs ea =>
  cases (show u=Value.ref a from rx)
  obtain ⟨_,_,_,n,_,h1⟩:=(show ObjOk X.prog X.w H s.heap a (.frz ob (.lst xs)) from I.hok a _ ea)
  exact PySem.W.kia_one PySem.W.kitx_list I.kIn ⟨_,h1,rfl⟩ e (fun z=>nomatch z) h
 | @tup a xs ea =>
  cases (show u=Value.ref a from rx)
  obtain ⟨_,_,_,p⟩:=(show ObjOk X.prog X.w H s.heap a (.tup xs) from I.hok a _ ea)
  obtain ⟨o,h1,h2,_⟩:=p
  exact PySem.W.kia_one PySem.W.kitx_tuple I.kIn ⟨o,h1,h2⟩ e (fun z=>nomatch z) h
 | @dK a kvs ea =>
  cases (show u=Value.ref a from rx)
  obtain ⟨_,_,vs,_,p⟩:=(show ObjOk X.prog X.w H s.heap a (.dK kvs) from I.hok a _ ea)
  obtain ⟨o,es,ep,h1,h2,_⟩:=p
  exact PySem.W.kia_one PySem.W.kitx_dict I.kIn ⟨o,h1,h2.1⟩ e (fun z=>nomatch z) h
 | @dT a kvs ea =>
  cases (show u=Value.ref a from rx)
  obtain ⟨_,_,xs,_,o,es,ep,h1,h2,_⟩:=(show ObjOk X.prog X.w H s.heap a (.dT kvs) from I.hok a _ ea)
  exact PySem.W.kia_one PySem.W.kitx_dict I.kIn ⟨o,h1,h2.1⟩ e (fun z=>nomatch z) h
 | @ins a C dx fs ea cl ha hn htk hm =>
  cases (show u=Value.ref a from rx)
  obtain ⟨mA,O,_⟩:=fH I.hok ea
  obtain ⟨od,J,_⟩:=O.look
  exact PySem.W.kia_one (PySem.W.kitx_own (cl.get _) cl.hd ha hn htk hm) I.kIn J e (fun z=>nomatch z) h
end
end L2
namespace L2
open PySem PySem.Spec PyProof.Rows
structure Room (k:Nat) (A:Around):Prop where
 hd:A.handled=none
 dp:A.depth+3 * k+5<recursionLimit
 un:A.units+16 * k+200<cLine
 gd:A.guards=some []
theorem Room.mono {j k:Nat} {A:Around} (r:Room k A) (h:j≤k):Room j A:=⟨r.hd,by have:=r.dp;lia,by have:=r.un;lia,r.gd⟩
theorem Room.deeper {k:Nat} {A:Around} (r:Room (k+1) A) (env:Env):Room k (A.deeper env) :=
 ⟨r.hd,by have:=r.dp;show A.depth+1+3 * k+5<_;lia,by have:=r.un;show A.units+3+16 * k+200<_;lia,r.gd⟩
theorem jZ {A:Around} {C:Addr} {us:List Value} {kw:List (Str×Value)}:(A.under (.builtin "type.__call__" ⟨.ref C::us,kw⟩)).depth=A.depth+1:=by
 first | rfl | simp [Around.under,Code.weight,Code.isCreation,Code.isGuard,Code.isCaller,Code.frames,Code.isFrame,guardIds]
theorem jY {A:Around} {C:Addr} {us:List Value} {kw:List (Str×Value)}:(A.under (.builtin "type.__call__" ⟨.ref C::us,kw⟩)).units=A.units+1:=by
 first | rfl | simp [Around.under,Code.cUnits,Code.frames,Code.isFrame]
theorem jo {A:Around} {C:Addr} {us:List Value} {kw:List (Str×Value)}:(A.under (.builtin "type.__call__" ⟨.ref C::us,kw⟩)).guards=A.guards:=by
 first | rfl | simp [Around.under,Code.weight,Code.isCreation,Code.isGuard,Code.isCaller,Code.frames,Code.isFrame,guardIds]
theorem Room.make {k:Nat} {A:Around} (r:Room (k+1) A) (C:Addr) (us:List Value) (kw:List (Str×Value)):Room k (A.under (.builtin "type.__call__" ⟨.ref C::us,kw⟩)) :=
 ⟨r.hd,by have:=r.dp;rw [jZ];lia,by have:=r.un;rw [jY];lia,jo.trans r.gd⟩
theorem Room.depth {k:Nat} {A:Around} (r:Room k A):A.depth<recursionLimit:=by have:=r.dp;lia
theorem Room.units {k:Nat} {A:Around} (r:Room k A):A.units+64<cLine:=by have:=r.un;lia
theorem Room.units0 {k:Nat} {A:Around} (r:Room k A):A.units<cLine:=by have:=r.un;lia
def tNil:TA:=fun _ H Q=>Q [] H
def tCons (ta:TE) (tr:TA):TA:=fun σ H Q=>ta σ H fun x H1=>tr σ H1 fun xs H2=>Q (x::xs) H2
section
variable {X:Cx} {e:Expr} {es:List Expr} {te:TE} {t:TA} {pos:Pos}
theorem ot:PA X [] tNil:=fun _ _ _ _ H Q I h=>Calls.spliced_nil ⟨[],H,I,.nil,h⟩
theorem qN (ha:PE X e te) (hr:PA X es t) (hs:starEach (e::es) X.env=(false,eval e X.env)::starEach es X.env:=by rfl):PA X (e::es) (tCons te t):=by
 intro pos pins s σ H Q I h
 rw [hs]
 show wpAny _ _ (spliced ((false,eval e X.env)::backTo pos (starEach es X.env))) _ _ s
 refine Calls.spliced_cons (thn (ha pins s σ H _ I h) fun u s1 ⟨x,H1,I1,r1,q1⟩=>?_)
 exact thn (hr pos pins s1 σ H1 _ I1 q1) fun us s2 ⟨xs,H2,I2,r2,q2⟩=>⟨x::xs,H2,I2,.cons r1 r2,q2⟩
def tTup (t:TA):TE:=fun σ H Q=>t σ H fun xs H1=>xs.length≤sizeLine∧∀ p,H1 p=none→Q (.ref p) (upd H1 p (.tup xs))
def tLst (t:TA):TE:=fun σ H Q=>t σ H fun xs H1=>xs.length≤sizeLine∧∀ p,H1 p=none→Q (.ref p) (upd H1 p (.lst xs))
theorem tJ {x1} (h:PA X es t):PE X (.Tuple es x1 pos) (tTup t):=by
 intro pins s σ H Q I hq
 refine wpAny_Tuple_spliced (thn (h pos pins s σ H _ I hq) fun us s1 ⟨xs,H1,I1,r,z,q⟩=>⟨by rw [← r.length];exact z,?_⟩)
 have hf:H1 s1.heap.objs.size=none:=I1.hok.fresh (xAg _)
 refine ⟨.ref s1.heap.objs.size,upd H1 s1.heap.objs.size (.tup xs),I1.laid (t':=s1.toks) (fun b u e=>xAf _ e) (xAg _) ?_,rfl,q _ hf⟩
 exact ⟨z,us,r,⟨_,xAl _ rfl,rfl,_,rfl⟩⟩
theorem tN (h:PA X es t):PE X (.List es pos) (tLst t):=by
 intro pins s σ H Q I hq
 refine wpAny_List_spliced (thn (h pos pins s σ H _ I hq) fun us s1 ⟨xs,H1,I1,r,z,q⟩=>⟨by rw [← r.length];exact z,?_⟩)
 have hf:H1 s1.heap.objs.size=none:=I1.hok.fresh (xAg _)
 refine ⟨.ref s1.heap.objs.size,upd H1 s1.heap.objs.size (.lst xs),I1.laid (t':=s1.toks) (fun b u e=>xAf _ e) (xAg _) ?_,rfl,q _ hf⟩
 exact ⟨z,us,0,r,xAl _ rfl⟩
end
abbrev Sp:=List V→Hp→VK→XK→Prop
abbrev CXT:=List Env→Hp→Shared→XK→Value→Shared→Prop
structure Env0 (P:Program) (w:World) (K:xFr) (mg:Str→Option Value) (base:Heap) (A:Around) (outer:List Env) (s:Shared) (H:Hp):Prop where
 frames:A.frames=some outer
 mod:Mod K mg base
 bs:∀ b o,base.get? b=some o→s.heap.get? b=some o∧H b=none
 bsz:base.objs.size≤s.heap.objs.size
 funs:s.heap.FunFrames base outer
 frf:∀ b∈frs outer,H b=none
 hok:HOk P w H s.heap
 bare:AllBare s.gens
def CE (outer:List Env) (P:Program) (w:World) (H:Hp) (s:Shared) (Q:VK) (u:Value) (s':Shared):Prop :=
 ∃ v H',s'.os=s.os∧AllBare s'.gens∧Un (frs outer) [] H H' s.heap s'.heap∧HOk P w H' s'.heap∧RelV v u∧Q v H'
def CR (CX:CXT) (outer:List Env) (P:Program) (w:World) (H:Hp) (s:Shared) (Q:VK) (E:XK) (r:Result) (s':Shared):Prop :=
 match r with
 | .ok (.ret u)=>CE outer P w H s Q u s'
 | .ok _=>False
 | .error e=>CX outer H s E e s'
structure FnOk (P:Program) (w:World) (K:xFr) (mg:Str→Option Value) (base:Heap) (CX:CXT) (k:Nat) (f:Addr) (fd:FuncData) (ps:List Str) (sp:Sp):Prop where
 len:∀ vs H Q E,sp vs H Q E→vs.length=ps.length
 run:∀ (A:Around) (outer:List Env) (s:Shared) (H:Hp) (args:Args) (us:List Value) (vs:List V) (Q:VK) (E:XK),Room k A→Env0 P w K mg base A outer s H→BindsTo s fd args (ps.zip us)→Vals vs us→sp vs H Q E →
  codeAny (model P w) A (.call (.ref f) args) (CR CX outer P w H s Q E) s
theorem Env0.make {P:Program} {w:World} {K:xFr} {mg:Str→Option Value} {base:Heap} {A:Around} {outer:List Env} {s:Shared} {H:Hp} (e:Env0 P w K mg base A outer s H) (C:Addr) (us:List Value) (kw:List (Str×Value)) :
  Env0 P w K mg base (A.under (.builtin "type.__call__" ⟨.ref C::us,kw⟩)) outer s H:=⟨by first | exact e.frames | (simpa [Around.under,Code.envs,Code.isFrame,pushEnvs] using e.frames),e.mod,e.bs,e.bsz,e.funs,e.frf,e.hok,e.bare⟩
section
variable {X:Cx} {pins:List (Addr×Obj)} {σ:St} {H:Hp} {s s':Shared}
theorem Inv.env0 (I:Inv X pins σ H s):Env0 X.prog X.w X.K X.mg X.base X.A X.stack s H :=
 ⟨I.ok.frames,I.ok.mod,I.bs,Nat.le_trans I.ok.bsz I.sz,I.stack,I.stkFree,I.hok,I.bare⟩
theorem Inv.after {Q:VK} {u:Value} (I:Inv X pins σ H s) (h:CE X.stack X.prog X.w H s Q u s'):EP X pins σ Q u s':=by
 obtain ⟨v,H',os,bare,un,hok,r,q⟩:=h
 obtain ⟨hh,g,d,t,os'⟩:=s'
 obtain rfl:os'=s.os:=os
 exact ⟨v,H',I.call (h':=hh) (g':=g) (d':=d) (t':=t) (ch:=[]) un hok bare (fun b z=>absurd z (by simp)),r,q⟩
end
def tCall (sp:Sp) (dvs:List V) (E:XK) (t:TA):TE:=fun σ H Q=>t σ H fun vs H1=>sp (vs++dvs) H1 Q E
def tMeth (C:Addr) (m:Str) (sp:Sp) (dvs:List V) (E:XK) (ta:TE) (t:TA):TE:=fun σ H Q=>ta σ H fun x H1=>∃ a dx fs,x = .ref a∧H1 a=some (.ins C dx fs)∧fs.lookup m=none ∧
 t σ H1 fun vs H2=>sp (x::(vs++dvs)) H2 Q E
def tMake (C:Addr) (sp:Sp) (dvs:List V) (E:XK) (t:TA):TE:=fun σ H Q=>t σ H fun vs H1=>∀ x dx,H1 x=none→H1 dx=none→dx≠x →
 sp (.ref x::(vs++dvs)) (upd (upd H1 dx (.own x)) x (.ins C dx [])) (fun v H2=>v = .non∧Q (.ref x) H2) E
def Binds (K:xFr) (fd:FuncData) (ps:List Str) (ds:List Value):Prop :=
 ∀ (s:Shared) (us:List Value),K.In s.heap→(us++ds).length=ps.length→BindsTo s fd ⟨us,[]⟩ (ps.zip (us++ds))
theorem Binds.all {K:xFr} {fd:FuncData} {ps:List Str} (h:∀ us:List Value,us.length=ps.length→bindArgs fd ⟨us,[]⟩=pure (ps.zip us)):Binds K fd ps []:=fun s us _ hl=>by
 rw [List.append_nil] at hl ⊢
 exact .of_eq (h us hl)
def Passes (CX:CXT) (X:Cx) (E:XK):Prop:=∀ (pins:List (Addr×Obj)) (σ:St) (H:Hp) (s:Shared) (e:Value) (s':Shared),Inv X pins σ H s→CX X.stack H s E e s'→X.xe e s'
section
variable {X:Cx} {CX:CXT} {k:Nat} {f C:Addr} {fd:FuncData} {ps:List Str} {sp:Sp} {dvs:List V} {ds:List Value} {E:XK} {x m:Str} {p pos apos:Pos} {e o:Expr} {es:List Expr} {ta:TE} {t:TA}
theorem ig {pins:List (Addr×Obj)} {σ:St} {H:Hp} {s:Shared} {Q:VK} {us:List Value} {vs:List V} (F:FnOk X.prog X.w X.K X.mg X.base CX k f fd ps sp) (hr:Room k X.A) (hb:Binds X.K fd ps ds) (hd:Vals dvs ds) (hx:Passes CX X E)
  (I:Inv X pins σ H s) (r:Vals vs us) (h:sp (vs++dvs) H Q E):wpAny (model X.prog X.w) X.A (call (.ref f) us) (EP X pins σ Q) X.xe s:=by
 have r2:Vals (vs++dvs) (us++ds):=r.append hd
 have hl:(us++ds).length=ps.length:=by rw [← r2.length];exact F.len _ _ _ _ h
 refine wpAny_call (codeAny_mono (F.run X.A X.stack s H ⟨us,[]⟩ (us++ds) (vs++dvs) Q E hr I.env0 (hb s us I.kIn hl) r2 h) fun r s' hq=>?_)
 cases r with
 | error e=>exact hx pins σ H s e s' I hq
 | ok fl =>
  cases fl with
  | ret u=>exact I.after hq
  | next=>exact False.elim hq
  | brk=>exact False.elim hq
  | cont=>exact False.elim hq
theorem qK (F:FnOk X.prog X.w X.K X.mg X.base CX k f fd ps sp) (hr:Room k X.A) (hg:Gl X x) (hm:X.mg x=some (.ref f)) (hk:PySem.W.keepIn X.K (.ref f)=true) (hb:Binds X.K fd ps ds) (hd:Vals dvs ds) (hx:Passes CX X E)
  (ha:PA X (e::es) t) (hdb:(x == ("__debug__":Str))=false:=by decide) (he:starEach (e::es) X.env=(false,eval e X.env)::starEach es X.env:=by rfl) (hpl:(backTo pos (starEach es X.env)).any (·.1)=false:=by rfl) :
  PE X (.Call (.Name x p) (e::es) [] pos) (tCall sp dvs E t):=by
 intro pins s σ H Q I h
 refine wpAny_Call_Name_kw (fG I hg hm ?_ hdb)
 refine PySem.W.callWith_K (h₀:=X.base) I.ok.mod.kin hk (thn (ha pos pins s σ H _ I h) fun us s1 ⟨vs,H1,I1,r,q⟩=>⟨I1.kIn,?_⟩) he hpl
 exact ig F hr hb hd hx I1 r q
theorem oq (F:FnOk X.prog X.w X.K X.mg X.base CX k f fd ps sp) (hr:Room k X.A) (hg:Gl X x) (hm:X.mg x=some (.ref f)) (hk:PySem.W.keepIn X.K (.ref f)=true) (hb:Binds X.K fd ps ds) (hd:Vals dvs ds) (hx:Passes CX X E)
  (hdb:(x == ("__debug__":Str))=false:=by decide):PE X (.Call (.Name x p) [] [] pos) (tCall sp dvs E tNil):=by
 intro pins s σ H Q I h
 refine wpAny_Call_Name_kw (fG I hg hm ?_ hdb)
 exact PySem.W.callWith_K0 I.kIn hk (ig (us:=[]) F hr hb hd hx I .nil h)
theorem qE {pl:Sem Bool} (he:PE X o ta) (c:Cls X.K C) (hm:Meth X.K C m f) (F:FnOk X.prog X.w X.K X.mg X.base CX k f fd ps sp) (hr:Room k X.A) (hb:Binds X.K fd ps ds) (hd:Vals dvs ds) (hx:Passes CX X E) (ha:PA X (e::es) t)
  (hst:starEach (e::es) X.env=(false,eval e X.env)::starEach es X.env:=by rfl) (hpl:(backTo pos (starEach es X.env)).any (·.1)=false:=by rfl)
  (ht:eval (.Call (.Attribute o m apos) (e::es) [] pos) X.env=(do
   let ov ← eval o X.env
   standAt apos.atName
   let (f,first) ← holding [ov] (getMethod ov m pl)
   callWith pos f first (backTo pos (starEach (e::es) X.env)) (backToKw pos (keywordEach [] X.env))):=by rfl) :
  PE X (.Call (.Attribute o m apos) (e::es) [] pos) (tMeth C m sp dvs E ta t):=by
 intro pins s σ H Q I h
 refine PySem.W.methodCall_KW (pl:=pl) (thn (he pins s σ H _ I h) fun u s1 ⟨x,H1,I1,rx,a,dx,fs,ex,ea,l,q⟩=>?_) ht
 subst ex
 obtain rfl:u=Value.ref a:=rx
 refine gj I1 ea c hm l ?_
 refine PySem.W.callWith_K (first:=[.ref a]) (h₀:=X.base) I.ok.mod.kin hm.kp (thn (ha pos pins s1 σ H1 _ I1 q) fun us s2 ⟨vs,H2,I2,r,q2⟩=>⟨I2.kIn,?_⟩) hst hpl
 exact ig (us:=.ref a::us) (vs:=.ref a::vs) F hr hb hd hx I2 (.cons rfl r) q2
theorem jd {pl:Sem Bool} (he:PE X o ta) (c:Cls X.K C) (hm:Meth X.K C m f) (F:FnOk X.prog X.w X.K X.mg X.base CX k f fd ps sp) (hr:Room k X.A) (hb:Binds X.K fd ps ds) (hd:Vals dvs ds) (hx:Passes CX X E)
  (ht:eval (.Call (.Attribute o m apos) [] [] pos) X.env=(do
   let ov ← eval o X.env
   standAt apos.atName
   let (f,first) ← holding [ov] (getMethod ov m pl)
   callWith pos f first (backTo pos (starEach [] X.env)) (backToKw pos (keywordEach [] X.env))):=by rfl) :
  PE X (.Call (.Attribute o m apos) [] [] pos) (tMeth C m sp dvs E ta tNil):=by
 intro pins s σ H Q I h
 refine PySem.W.methodCall_KW (pl:=pl) (thn (he pins s σ H _ I h) fun u s1 ⟨x,H1,I1,rx,a,dx,fs,ex,ea,l,q⟩=>?_) ht
 subst ex
 obtain rfl:u=Value.ref a:=rx
 refine gj I1 ea c hm l ?_
 exact PySem.W.callWith_K0 (first:=[.ref a]) I1.kIn hm.kp (ig (us:=[.ref a]) (vs:=[.ref a]) F hr hb hd hx I1 (.cons rfl .nil) q)
structure Mk (K:xFr) (C f:Addr):Prop where
 makes:PySem.W.makesIn K C=true
 init:PySem.W.findIn K (.ref C) "__init__"=some (some (.ref f))
 fn:PySem.W.isFn K (.ref f)=true
 kp:PySem.W.keepIn K (.ref C)=true
theorem ny {pins:List (Addr×Obj)} {σ:St} {H:Hp} {s:Shared} {Q:VK} {us:List Value} {vs:List V} (M:Mk X.K C f) (F:FnOk X.prog X.w X.K X.mg X.base CX k f fd ps sp) (hr:Room (k+1) X.A) (hb:Binds X.K fd ps ds) (hd:Vals dvs ds)
  (hx:Passes CX X E) (I:Inv X pins σ H s) (r:Vals vs us)
  (h:∀ x dx,H x=none→H dx=none→dx≠x→sp (.ref x::(vs++dvs)) (upd (upd H dx (.own x)) x (.ins C dx [])) (fun v H2=>v = .non∧Q (.ref x) H2) E) :
  wpAny (model X.prog X.w) X.A (call (.ref C) us) (EP X pins σ Q) X.xe s:=by
 have hq:=h (s.heap.objs.size+1) s.heap.objs.size (I.hok.fresh (Nat.le_succ _)) (I.hok.fresh (xAg _)) (xA0 (Nat.lt_succ_self _))
 have I2:=Inv.made (C:=C) I
 have r2:Vals (V.ref (s.heap.objs.size+1)::(vs++dvs)) (Value.ref (s.heap.objs.size+1)::(us++ds)):=.cons rfl (r.append hd)
 have hl:(Value.ref (s.heap.objs.size+1)::us++ds).length=ps.length:=by
  have e:=r2.length
  rw [F.len _ _ _ _ hq] at e
  exact e.symm
 refine wpAny_call (oG (f:=f) I.kIn M.makes M.init (beq_iff_eq.mp M.fn) (codeAny_mono (F.run _ X.stack _ _ ⟨Value.ref (s.heap.objs.size+1)::us,[]⟩ (Value.ref (s.heap.objs.size+1)::(us++ds)) _ _ E (hr.make C us [])
  (I2.env0.make C us []) (hb _ (Value.ref (s.heap.objs.size+1)::us) I2.kIn hl) r2 hq) fun r s' hq'=>?_))
 cases r with
 | error e=>exact hx pins σ _ _ e s' I2 hq'
 | ok fl =>
  cases fl with
  | ret u =>
   obtain ⟨v,H',I3,rv,ev,q3⟩:=I2.after hq'
   subst ev
   exact ⟨rv,⟨V.ref (s.heap.objs.size+1),H',I3,rfl,q3⟩⟩
  | next=>exact False.elim hq'
  | brk=>exact False.elim hq'
  | cont=>exact False.elim hq'
theorem qF (M:Mk X.K C f) (F:FnOk X.prog X.w X.K X.mg X.base CX k f fd ps sp) (hr:Room (k+1) X.A) (hg:Gl X x) (hm:X.mg x=some (.ref C)) (hb:Binds X.K fd ps ds) (hd:Vals dvs ds) (hx:Passes CX X E)
  (ha:PA X (e::es) t) (hdb:(x == ("__debug__":Str))=false:=by decide) (he:starEach (e::es) X.env=(false,eval e X.env)::starEach es X.env:=by rfl) (hpl:(backTo pos (starEach es X.env)).any (·.1)=false:=by rfl) :
  PE X (.Call (.Name x p) (e::es) [] pos) (tMake C sp dvs E t):=by
 intro pins s σ H Q I h
 refine wpAny_Call_Name_kw (fG I hg hm ?_ hdb)
 refine PySem.W.callWith_K (h₀:=X.base) I.ok.mod.kin M.kp (thn (ha pos pins s σ H _ I h) fun us s1 ⟨vs,H1,I1,r,q⟩=>⟨I1.kIn,?_⟩) he hpl
 exact ny M F hr hb hd hx I1 r q
end
structure FnScope (N P:List Str) (sc:Scope):Prop where
 kind:sc.kind = .function
 co:sc.isCoroutine=false
 gen:sc.isGenerator=false
 nd:N.Nodup
 pre:N.take P.length=P
 par:∀ x∈P,sc.names.lookup x=some .local∨sc.names.lookup x=some .cell
 nofree:∀ y∈sc.names,y.2≠.free
theorem gP {kindOf:Str→Option NameKind} {x:Str}:∀ {binds:List (Str×Value)} {m:Str→Option Value},(∀ v,(x,v) ∉ binds)→bindL kindOf binds m x=m x
 | [],_,_=>rfl
 | (n,v)::r,m,h=>by
  unfold bindL
  rw [gP fun w hw=>h w (xAs _ hw)]
  split
  ·have:x≠n:=by rintro rfl;exact h v xAr
   simp [this]
  ·rfl
theorem gR {kindOf:Str→Option NameKind} {x:Str}:∀ {binds:List (Str×Value)} {m:Str→Option Value},(∀ v,(x,v) ∉ binds)→bindC kindOf binds m x=m x
 | [],_,_=>rfl
 | (n,v)::r,m,h=>by
  unfold bindC
  rw [gR fun w hw=>h w (xAs _ hw)]
  split
  ·rfl
  ·have:x≠n:=by rintro rfl;exact h v xAr
   simp [this]
theorem gQ {kindOf:Str→Option NameKind} {x:Str} {v:Value}:∀ {P:List Str} {vs:List Value} {i:Nat} {m:Str→Option Value},P.Nodup→P[i]?=some x→vs[i]?=some v→kindOf x=some .local →
  bindL kindOf (P.zip vs) m x=some v
 | [],_,_,_,_,h,_,_=>by simp at h
 | _::_,[],_,_,_,_,h,_=>by simp at h
 | p::P,w::vs,0,m,nd,h1,h2,hk=>by
  simp at h1 h2;subst h1;subst h2
  show bindL kindOf ((p,w)::P.zip vs) m p=_
  unfold bindL
  rw [gP fun v hv=>(List.nodup_cons.mp nd).1 (List.of_mem_zip hv).1,xCg hk]
  simp
 | p::P,w::vs,i+1,m,nd,h1,h2,hk=>by
  show bindL kindOf ((p,w)::P.zip vs) m x=_
  unfold bindL
  exact gQ (i:=i) (List.nodup_cons.mp nd).2 (by simpa using h1) (by simpa using h2) hk
theorem gS {kindOf:Str→Option NameKind} {x:Str} {v:Value}:∀ {P:List Str} {vs:List Value} {i:Nat} {m:Str→Option Value},P.Nodup→P[i]?=some x→vs[i]?=some v→kindOf x≠some .local →
  bindC kindOf (P.zip vs) m x=some v
 | [],_,_,_,_,h,_,_=>by simp at h
 | _::_,[],_,_,_,_,h,_=>by simp at h
 | p::P,w::vs,0,m,nd,h1,h2,hk=>by
  simp at h1 h2;subst h1;subst h2
  show bindC kindOf ((p,w)::P.zip vs) m p=_
  unfold bindC
  rw [gR fun v hv=>(List.nodup_cons.mp nd).1 (List.of_mem_zip hv).1,xCf hk]
  simp
 | p::P,w::vs,i+1,m,nd,h1,h2,hk=>by
  show bindC kindOf ((p,w)::P.zip vs) m x=_
  unfold bindC
  exact gS (i:=i) (List.nodup_cons.mp nd).2 (by simpa using h1) (by simpa using h2) hk
def start (N:List Str) (vs:List V):St:=vs.map some++List.replicate (N.length - vs.length) none
def cxOf (CX:CXT) (P:Program) (w:World) (K:xFr) (mg:Str→Option Value) (base:Heap) (N:List Str) (qual:Str) (scope:Scope) (f:Addr) (cd:Value) (A:Around) (outer:List Env) (s:Shared) (H:Hp) (E:XK):Cx where
 prog:=P
 w:=w
 K:=K
 mg:=mg
 base:=base
 A:=A.deeper (envOfC qual scope s.heap.objs.size f cd)
 N:=N
 s₀:=s
 H₀:=H
 env:=envOfC qual scope s.heap.objs.size f cd
 outer:=outer
 stack:=envOfC qual scope s.heap.objs.size f cd::outer
 ex:=[]
 calm:=true
 fn:=fun _=>true
 pn:=[]
 xe:=fun e s'=>wpAny (model P w) (A.deeper (envOfC qual scope s.heap.objs.size f cd)) (leaving (envOfC qual scope s.heap.objs.size f cd) e) (fun _ s''=>CX outer H s E e s'') (fun e' s''=>CX outer H s E e' s'') s'
theorem jB {sc:Scope} {n:Nat} {x:Str} (h:sc.names.lookup x=some .cell):∃ c,(cellsFrom n sc.names []).lookup x=some c:=by
 have q:=PySem.W.cellsFrom_some sc.names n [] (.inl h)
 exact Option.isSome_iff_exists.mp q
theorem mz {CX:CXT} {P:Program} {w:World} {K:xFr} {mg:Str→Option Value} {base:Heap} {N ps:List Str} {qual:Str} {scope:Scope} {f:Addr} {cd:Value} {A:Around} {outer:List Env} {s s1:Shared} {H:Hp} {E:XK} {us:List Value} {vs:List V}
  (S:FnScope N ps scope) (hd:A.handled=none) (e0:Env0 P w K mg base A outer s H) (hl:vs.length=ps.length) (r:Vals vs us)
  (x:InCallC s s.heap.objs.size (bindL (envOfC qual scope s.heap.objs.size f cd).kindOf (ps.zip us) fun _=>none) (cellsFrom (s.heap.objs.size+1) scope.names []) (bindC (envOfC qual scope s.heap.objs.size f cd).kindOf (ps.zip us) fun _=>none) s1) :
  Inv (cxOf CX P w K mg base N qual scope f cd A outer s H E) [] (start N vs) H s1:=by
 have hpl:ps.length≤N.length:=by have:=congrArg List.length S.pre;rw [xAn] at this;lia
 obtain ⟨h1,tk,rfl,hk⟩:=x.done
 have noA:∀ b:Addr,b ∉ (cxOf CX P w K mg base N qual scope f cd A outer s H E).ex:=fun b z=>absurd (show b∈([]:List Addr) from z) (by simp)
 refine ⟨⟨e0.mod,S.kind,rfl,rfl,xAg _,fun y z c h1 h2=>?_,fun y hy=>?_,fun y c _ h=>?_,fun _=>hd,Around.frames_deeper e0.frames,.inr ⟨rfl,rfl⟩,fun b z=>absurd z (noA b),e0.bs,e0.bsz,fun b _ _=>noA b,fun b z=>absurd z (noA b),e0.funs,e0.frf⟩,
  rfl,e0.bare,Un.kept hk,⟨_,x.toInCall.ns,fun i y v h1 h2 h3=>?_⟩,fun y c h=>⟨_,x.cell y c h⟩,e0.hok.fresh (xAg _),fun y c h=>?_,fun p hp=>absurd (show p∈([]:List (Addr×Obj)) from hp) (by simp),e0.hok.kept hk,?_⟩
 ·exact name_of_addr x.apart (PySem.mem_of_lookup h1) (PySem.mem_of_lookup h2)
 ·have hy:scope.names.lookup y=some .cell∨scope.names.lookup y=some .free:=hy
  rcases hy with hy | hy
  ·exact jB hy
  ·exact absurd rfl (S.nofree _ (PySem.mem_of_lookup hy))
 ·exact Nat.le_of_lt (x.above y c (PySem.mem_of_lookup h))
 ·have hi:i<vs.length:=by
   unfold start at h2
   by_cases hi:i<vs.length
   ·exact hi
   ·rw [List.getElem?_append_right (by simpa using hi)] at h2
    rw [List.getElem?_replicate] at h2
    split at h2 <;> cases h2
  have ha:vs[i]?=some v:=by
   unfold start at h2
   rw [List.getElem?_append_left (by simpa using hi),xAw] at h2
   cases e:vs[i]? with
   | none=>rw [e] at h2;cases h2
   | some a=>rw [e] at h2;cases h2;rfl
  obtain ⟨u,hu,rv⟩:=r.get ha
  have hp:ps[i]?=some y:=by
   rw [← S.pre,List.getElem?_take_of_lt (by lia)];exact h1
  have ndP:ps.Nodup:=by rw [← S.pre];exact S.nd.sublist (List.take_sublist _ _)
  refine ⟨u,rv,?_⟩
  rcases S.par y (xAc hp) with k | k
  ·exact .inl ⟨k,gQ ndP hp hu k⟩
  ·obtain ⟨c,e⟩:=jB (n:=s.heap.objs.size+1) k
   refine .inr ⟨.inl k,c,e,?_⟩
   have q:=x.cell y c e
   rw [gS ndP hp hu (by show scope.names.lookup y≠_;rw [k];decide)] at q
   exact q
 ·exact e0.hok.fresh (Nat.le_of_lt (x.above y c (PySem.mem_of_lookup h)))
 ·unfold start
  show _=N.length
  rw [xAb,xAa,List.length_replicate]
  lia
theorem wu {CX:CXT} {P:Program} {w:World} {K:xFr} {mg:Str→Option Value} {base:Heap} {k:Nat} {f:Addr} {name qual:Str} {params:Arguments} {body:List Stmt} {scope:Scope} {dV kV doc pm cdv ct oc:Value} {an od:Option Addr}
  {osl:Array (Option Value)} {N ps:List Str} {sp:Sp} (lk:K.lookup f=some ⟨oc,od,.func (PySem.W.fnOf name qual params body scope dV kV doc pm an cdv ct),osl⟩) (hcd:PySem.W.codeIn K cdv qual=true) (S:FnScope N ps scope)
  (len:∀ vs H Q E,sp vs H Q E→vs.length=ps.length)
  (hbody:∀ (A:Around) (outer:List Env) (s:Shared) (H:Hp) (vs:List V) (Q:VK) (E:XK),Room k (A.deeper (envOfC qual scope s.heap.objs.size f cdv))→sp vs H Q E →
   ∃ t,PSs (cxOf CX P w K mg base N qual scope f cdv A outer s H E) body t∧t { nx:=fun _ H'=>Q .non H',rt:=Q } (start N vs) H) :
  FnOk P w K mg base CX (k+1) f (PySem.W.fnOf name qual params body scope dV kV doc pm an cdv ct) ps sp:=by
 refine ⟨len,fun A outer s H args us vs Q E hr e0 hb r hsp=>?_⟩
 have hl:=len _ _ _ _ hsp
 have KX:K.In s.heap:=e0.mod.kin.keeps fun b o e=>(e0.bs b o e).1
 have lim:s.heap.NoLimit:=e0.mod.nolimit.keeps fun b o e=>(e0.bs b o e).1
 have hkind:∀ y∈ps.zip us,scope.names.lookup y.1=some .local∨(scope.names.lookup y.1=some .cell∧((cellsFrom (s.heap.objs.size+1) scope.names []).lookup y.1).isSome=true):=fun ⟨n,v⟩ hy=>by
  rcases S.par n (List.of_mem_zip hy).1 with q | q
  ·exact .inl q
  ·exact .inr ⟨q,PySem.W.cellsFrom_some _ _ _ (.inl q)⟩
 refine codeAny_call_function hr.depth (KX _ _ lk) rfl S.co S.gen rfl (PySem.W.codeRec_of KX hcd) (hb _ _ _ _ ?_)
 refine wpAny_newFunctionEnv_cells S.kind hkind fun env he s1 x=>?_
 subst he
 refine ⟨lim.keeps x.toInCall.keep,codeAny_func ?_⟩
 obtain ⟨t,ht,hq⟩:=hbody A outer s H vs Q E (hr.deeper _) hsp
 have I:Inv (cxOf CX P w K mg base N qual scope f cdv A outer s H E) [] (start N vs) H s1:=mz S hr.hd e0 hl r x
 refine wpAny_mono (ht [] s1 (start N vs) H _ I hq) (fun fl s' hs=>?_) fun e s' hs=>hs
 have fin:∀ {σ':St} {H':Hp} {v:V} {u:Value},Inv (cxOf CX P w K mg base N qual scope f cdv A outer s H E) [] σ' H' s'→RelV v u→Q v H'→CE outer P w H s Q u s' :=
  fun {σ' H' v u} J rv q=>⟨v,H',J.os,J.bare,J.base,J.hok,rv,q⟩
 cases fl with
 | ret u =>
  obtain ⟨v,σ',H',J,rv,q⟩:=hs
  exact fin J rv q
 | next =>
  obtain ⟨σ',H',J,q⟩:=hs
  exact fin (v:=V.non) (u:=Value.none) J rfl q
 | brk =>
  obtain ⟨_,_,_,q⟩:=hs
  exact False.elim q
 | cont =>
  obtain ⟨_,_,_,q⟩:=hs
  exact False.elim q
end L2
namespace L2
open PySem PySem.Spec PyProof.Rows
section
variable {X:Cx} {x:Str} {p pos:Pos} {e:Expr} {es:List Expr} {t:TA} {id T:String} {r:List V→Hp→VK→Prop}
def tCB (r:List V→Hp→VK→Prop) (t:TA):TE:=fun σ H Q=>t σ H fun vs H1=>r vs H1 Q
theorem om (hc:CallR X (.builtin id) r) (hg:Gl X x) (hm:X.mg x=none) (hv:bootBuiltins x=some (.builtin id)) (ha:PA X (e::es) t) (hn:x≠"__name__":=by decide) (hdb:(x == ("__debug__":Str))=false:=by decide)
  (he:starEach (e::es) X.env=(false,eval e X.env)::starEach es X.env:=by rfl) (hpl:(backTo pos (starEach es X.env)).any (·.1)=false:=by rfl):PE X (.Call (.Name x p) (e::es) [] pos) (tCB r t):=by
 intro pins s σ H Q I h
 refine wpAny_Call_Name_kw (dM I hg hm hv ?_ hn hdb)
 exact PyProof.Rows.callWith_builtin1 (thn (ha pos pins s σ H _ I h) fun us s1 ⟨vs,H1,I1,r1,q1⟩=>hc pins s1 σ H1 vs us Q I1 r1 q1) he hpl
theorem mi (hc:CallR X (.type T) r) (hg:Gl X x) (hm:X.mg x=none) (hv:bootBuiltins x=some (.type T)) (ha:PA X (e::es) t) (hn:x≠"__name__":=by decide) (hdb:(x == ("__debug__":Str))=false:=by decide)
  (he:starEach (e::es) X.env=(false,eval e X.env)::starEach es X.env:=by rfl) (hpl:(backTo pos (starEach es X.env)).any (·.1)=false:=by rfl):PE X (.Call (.Name x p) (e::es) [] pos) (tCB r t):=by
 intro pins s σ H Q I h
 refine wpAny_Call_Name_kw (dM I hg hm hv ?_ hn hdb)
 exact PyProof.Rows.callWith_type1 (thn (ha pos pins s σ H _ I h) fun us s1 ⟨vs,H1,I1,r1,q1⟩=>hc pins s1 σ H1 vs us Q I1 r1 q1) he hpl
end
end L2
namespace HT
open PySem PyProof.Rows
section
open PySem.SeqAt
open PySem.AutoSeq1 (wpAny_loadPart')
open PySem.MeetsSeq PySem.MeetsSeq2 PySem.MeetsSeq3
end
section
variable {prog:Program} {w:World} {A:Around} {E:Value→Shared→Prop} {s:Shared}
theorem cat_tup {t b:Addr} {vs ws:List Value} {Q:Value→Shared→Prop} (ht:IsTup s.heap t vs.toArray) (hb:IsTup s.heap b ws.toArray) (hv:vs≠[])
  (h1:ws=[]→Q (.ref t) s) (h2:ws≠[]→Q (.ref s.heap.objs.size) { s with heap:=s.heap.push { cls:=.type "tuple",data:=.seq (vs++ws).toArray } })
  (hsz:vs.length+ws.length≤sizeLine):wpAny (model prog w) A (binaryOp .Add (.ref t) (.ref b)) Q E s:=by
 obtain ⟨⟨cls,dd,data,sl⟩,ho,hc,n,hd⟩:=id ht
 obtain ⟨⟨cls2,dd2,data2,sl2⟩,ho2,hc2,n2,hd2⟩:=id hb
 simp only at hc hd hc2 hd2
 subst hc hd hc2 hd2
 have e:vs.toArray++ws.toArray=(vs++ws).toArray:=by simp
 by_cases hw:ws=[]
 ·exact concat_meets ⟨_,ho,rfl⟩ ⟨_,ho2,rfl⟩ noFill_tuple_add seq_tuple_add PySem.F.slot_tuple_add PySem.F.entry_tuple_add (PySem.F.args_tuple_add_2 _ _)
   (tuple_addW1 t b vs.toArray ws.toArray n n2 dd dd2 sl sl2 (by simpa using hv) (by simp [hw])) ⟨ho,ho2,h1 hw⟩
 ·refine concat_meets ⟨_,ho,rfl⟩ ⟨_,ho2,rfl⟩ noFill_tuple_add seq_tuple_add PySem.F.slot_tuple_add PySem.F.entry_tuple_add (PySem.F.args_tuple_add_2 _ _)
   (tuple_addW2 t b vs.toArray ws.toArray n n2 dd dd2 sl sl2 (by simpa using hv) (by simpa using hw) (by rw [xAp,xAp];exact hsz)) ⟨ho,ho2,?_⟩
  rw [e]
  exact h2 hw
def sIx (n d:Nat):Option Int→Nat
 | none=>d
 | some v=>if v<0 then (v+(n:Int)).toNat else min v.toNat n
theorem sIx_nat (n d k:Nat):sIx n d (some (k:Int))=min k n:=by
 show (if (k:Int)<0 then ((k:Int)+(n:Int)).toNat else min (k:Int).toNat n)=min k n
 rw [xCf (by lia),Int.toNat_natCast]
theorem sw (n d:Nat) (hd:d≤n) (o:Option Int):sIx n d o≤n:=by
 cases o with
 | none=>exact hd
 | some v =>
  show (if v<0 then (v+(n:Int)).toNat else min v.toNat n)≤n
  by_cases hv:v<0
  ·rw [xCg hv];lia
  ·rw [xCf hv];exact Nat.min_le_right _ _
theorem lE (v:Int) (n d:Nat):(if v<0 then max (v+(n:Int)) 0 else min v (n:Int))=((sIx n d (some v):Nat):Int):=by
 show (if v<0 then max (v+(n:Int)) 0 else min v (n:Int))=(((if v<0 then (v+(n:Int)).toNat else min v.toNat n):Nat):Int)
 by_cases hv:v<0
 ·simp only [xCg hv];lia
 ·simp only [xCf hv];lia
theorem kf (lo hi:Option Int) (n:Nat):Builtin.Slice.sliceAdjust lo hi 1 (n:Int)=(((sIx n 0 lo:Nat):Int),((sIx n n hi:Nat):Int)):=by
 have h1:¬ ((1:Int)<0):=by lia
 unfold Builtin.Slice.sliceAdjust
 simp only [h1,if_false]
 refine Prod.ext ?_ ?_
 ·cases lo with
  | none=>rfl
  | some v=>exact lE v n 0
 ·cases hi with
  | none=>rfl
  | some v=>exact lE v n n
theorem jS (i j:Nat):Builtin.Slice.slicePlaces (i:Int) (j:Int) 1=j - i:=by
 unfold Builtin.Slice.slicePlaces
 have h1:(1:Int) > 0:=by lia
 simp only [h1,if_true,Int.ediv_one]
 split <;> lia
theorem fT {v:Value} {o:Option Int} {Q:Option Int→Shared→Prop} (p:IsPart v o) (h:Q o s):wpAny (model prog w) A (Builtin.Slice.slicePartIndex v) Q E s:=by
 cases p with
 | none=>exact slicePart_none h
 | int i t=>exact slicePart_int h
theorem eU {sl:Addr} {vl vu:Value} {lo hi:Option Int} {n:Nat} {Q:Int×Int×Nat→Shared→Prop} (hs:s.heap.IsSliceOf sl vl vu .none) (pl:IsPart vl lo) (pu:IsPart vu hi)
  (h:Q (((sIx n 0 lo:Nat):Int),1,sIx n n hi - sIx n 0 lo) s):wpAny (model prog w) A (Builtin.Slice.sliceApplied (.ref sl) (pure (n:Int))) Q E s:=by
 obtain ⟨os,hos,hcs,hds⟩:=id hs
 unfold Builtin.Slice.sliceApplied Builtin.Slice.sliceFields
 refine xAd (xAd (wpAny_field hos hds (x:=vl) rfl (xAd (wpAny_field hos hds (x:=vu) rfl (xAd (wpAny_field hos hds (x:=.none) rfl (xAe ?_)))))))
 refine xAd (slicePart_none ?_)
 show wpAny _ _ (if ((1:Int) == 0)=true then _ else _) _ _ s
 rw [xCf (by decide)]
 refine xAd (fT pl (xAd (fT pu (xAd (xAe ?_)))))
 show wpAny _ _ (match Builtin.Slice.sliceAdjust lo hi 1 (n:Int) with | (lo,hi)=>pure (lo,(1:Int),Builtin.Slice.slicePlaces lo hi 1)) _ _ s
 rw [kf lo hi n]
 show wpAny _ _ (pure (((sIx n 0 lo:Nat):Int),(1:Int),Builtin.Slice.slicePlaces ((sIx n 0 lo:Nat):Int) ((sIx n n hi:Nat):Int) 1)) _ _ s
 rw [jS]
 exact xAe h
theorem nZ (xs:Array Value) (i k:Nat):((List.range k).filterMap fun (m:Nat)=>xs[((i:Int)+(m:Int) * 1).toNat]?).toArray=((xs.toList.drop i).take k).toArray:=by
 have e:(fun (m:Nat)=>xs[((i:Int)+(m:Int) * 1).toNat]?)=fun m=>xs[i+m]?:=by
  funext m
  have:((i:Int)+(m:Int) * 1).toNat=i+m:=by lia
  rw [this]
 rw [e]
 have:=pick_run xs i k
 rw [List.filterMap_map] at this
 have e2:((fun x=>xs[x]?) ∘ fun x=>i+x)=fun m=>xs[i+m]?:=rfl
 rw [e2] at this
 rw [this]
theorem getItem_tuple_cut {t sl:Addr} {items:Array Value} {vl vu:Value} {lo hi:Option Int} {Q:Value→Shared→Prop} (ht:IsTup s.heap t items) (hs:s.heap.IsSliceOf sl vl vu .none) (pl:IsPart vl lo) (pu:IsPart vu hi)
  (hw:¬ (sIx items.size 0 lo=0∧sIx items.size items.size hi=items.size))
  (h:Q (.ref s.heap.objs.size) { s with heap:=s.heap.push { cls:=.type "tuple",data:=.seq ((items.toList.drop (sIx items.size 0 lo)).take (sIx items.size items.size hi - sIx items.size 0 lo)).toArray } })
  (hsz:items.size≤sizeLine):wpAny (model prog w) A (getItem (.ref t) (.ref sl)) Q E s:=by
 have htake:sizeOk (.seq ((items.toList.drop (sIx items.size 0 lo)).take (sIx items.size items.size hi - sIx items.size 0 lo)).toArray):=by
  show ((items.toList.drop (sIx items.size 0 lo)).take (sIx items.size items.size hi - sIx items.size 0 lo)).toArray.size≤sizeLine
  rw [xAp,xAn,List.length_drop,xAh]
  omega
 have hj:sIx items.size items.size hi≤items.size:=sw _ _ (xAg _) hi
 obtain ⟨os,hos,hcs,hds⟩:=id hs
 have hTs:s.TypeIs (.ref sl) "slice":=⟨os,hos,hcs⟩
 unfold getItem
 try with_reducible refine wpAny_holding ?_
 first | refine xAd (xAe ?_) | skip
 refine xAd (wpAny_sequenceKey ht.typeIs (by decide) ?_)
 refine xAd (wpAny_callSpecial?_slot (name:=Str.ofString "__getitem__") ht.typeIs PyProof.Rows.slot_tuple_getitem
  (wpAny_call_entry PyProof.Rows.slot_tuple_getitem ht.typeIs entry_tuple_getitem ?_ (args_tuple_getitem _ _)))
 show wpAny _ _ (Builtin.Tuple.tupleItemsOf (.ref t) >>= _) _ _ s
 refine xAd (tupleItemsOf_ ht ?_)
 refine xAd (wpAny_typeOf hTs ?_)
 rw [xCg (by decide)]
 refine xAd (eU hs pl pu ?_)
 have hno:¬ ((((sIx items.size 0 lo:Nat):Int) == 0 && (1:Int) == 1 && (sIx items.size items.size hi - sIx items.size 0 lo) == items.size)=true):=by
  intro q
  rw [Bool.and_eq_true,Bool.and_eq_true] at q
  have q1:((sIx items.size 0 lo:Nat):Int)=0:=eq_of_beq q.1.1
  have q2:sIx items.size items.size hi - sIx items.size 0 lo=items.size:=eq_of_beq q.2
  exact hw ⟨by omega,by omega⟩
 show wpAny _ _ (if (((sIx items.size 0 lo:Nat):Int) == 0 && (1:Int) == 1 && (sIx items.size items.size hi - sIx items.size 0 lo) == items.size)=true then _ else _) _ _ s
 rw [xCf hno,nZ]
 first
  | exact xAd (m:=Builtin.Tuple.tupleExact _) (xBl (xAe ⟨_,rfl,xAe h⟩) htake)
  | exact xAd (m:=Builtin.Tuple.tupleExact _) (xBl (xAd (xAe (xAe ⟨_,rfl,xAe h⟩))) htake)
  | exact xAd (xAd (m:=Builtin.Tuple.tupleExact _) (xBl (xAe (xAe ⟨_,rfl,xAe h⟩)) htake))
  | exact xAd (xAd (m:=Builtin.Tuple.tupleExact _) (xBl (xAe ⟨_,rfl,xAe h⟩) htake))
end
end HT
namespace L2
open PySem PySem.Spec PyProof.Rows
abbrev TO:=St→Hp→(Option Int→Hp→Prop)→Prop
def PO (X:Cx) (e:Option Expr) (t:TO):Prop :=
 ∀ (pins:List (Addr×Obj)) (s:Shared) (σ:St) (H:Hp) (Q:Option Int→Hp→Prop),Inv X pins σ H s→t σ H Q →
  wpAny (model X.prog X.w) X.A (evalPart e X.env) (fun u s'=>∃ o H',Inv X pins σ H' s'∧IsPart u o∧Q o H') X.xe s
def tNoPart:TO:=fun _ H Q=>Q none H
def tPart (t:TE):TO:=fun σ H Q=>t σ H fun x H1=>∃ i,x = .int i∧Q (some i) H1
theorem ge {ns:List Int}:∀ {us:List Value},Vals (ns.map V.int) us→IntsAre us ns:=by
 induction ns with
 | nil=>intro us r;rw [List.map_nil] at r;cases r;exact .nil
 | cons n ns ih =>
  intro us r
  rw [xBs] at r
  cases r with
  | cons r1 r2 =>
   obtain ⟨t,e⟩:=r1
   subst e
   exact .cons n t (ih r2)
section
variable {X:Cx} {e:Expr} {te:TE} {lo hi:Option Expr} {tl th:TO} {pos p2:Pos}
theorem qx:PO X none tNoPart:=by
 intro pins s σ H Q I h
 rw [evalPart_none]
 exact xAe ⟨none,H,I,.none,h⟩
theorem qw (h:PE X e te):PO X (some e) (tPart te):=by
 intro pins s σ H Q I hw
 rw [evalPart_some]
 refine thn (h pins s σ H _ I hw) fun u s1 ⟨x,H1,I1,r1,q1⟩=>?_
 obtain ⟨i,rfl,q⟩:=q1
 obtain ⟨t,rfl⟩:=r1
 exact ⟨some i,H1,I1,.int i t,q⟩
def SlR (X:Cx) (r:V→Option Int→Option Int→Hp→VK→Prop):Prop :=
 ∀ (pins:List (Addr×Obj)) (s:Shared) (σ:St) (H:Hp) (x:V) (v vl vu:Value) (lo hi:Option Int) (sl:Addr) (Q:VK),Inv X pins σ H s→RelV x v→s.heap.IsSliceOf sl vl vu .none→IsPart vl lo→IsPart vu hi→r x lo hi H Q →
  ∃ T id,typeLookup (.type T) "__getitem__"=pure (some (.builtin id))∧s.TypeIs v T∧wpAny (model X.prog X.w) X.A (getItem v (.ref sl)) (EP X pins σ Q) X.xe s
def tSl (r:V→Option Int→Option Int→Hp→VK→Prop) (te:TE) (tl th:TO):TE:=fun σ H Q=>te σ H fun x H1=>tl σ H1 fun l H2=>th σ H2 fun u H3=>r x l u H3 Q
theorem oh {r:V→Option Int→Option Int→Hp→VK→Prop} (hr:SlR X r) (he:PE X e te) (hl:PO X lo tl) (hu:PO X hi th):PE X (.Subscript e (.Slice lo hi none p2) pos) (tSl r te tl th):=by
 intro pins s σ H Q I h
 refine Subscript_ (thn (he pins s σ H _ I h) fun v s1 ⟨x,H1,I1,r1,q1⟩=>?_)
 refine wpAny_Slice (thn (hl pins s1 σ H1 _ I1 q1) fun vl s2 ⟨l,H2,I2,pl,q2⟩=>thn (hu pins s2 σ H2 _ I2 q2) fun vu s3 ⟨u,H3,I3,pu,q3⟩=>?_)
 rw [evalPart_none]
 refine xAe ?_
 have I4:Inv X pins σ H3 { s3 with heap:=s3.heap.push { cls:=.type "slice",data:=.fields #[vl,vu,.none] } }:=I3.kept (t':=s3.toks) fun b ob q=>xAf _ q
 obtain ⟨T,id,hT,ht,hg⟩:=hr pins { s3 with heap:=s3.heap.push { cls:=.type "slice",data:=.fields #[vl,vu,.none] } } σ H3 x v vl vu l u s3.heap.objs.size Q I4 r1 (Heap.IsSliceOf.new ..) pl pu q3
 show wpAny (model X.prog X.w) X.A (subscriptTail e (.Slice lo hi none p2) v (.ref s3.heap.objs.size)) (EP X pins σ Q) X.xe { s3 with heap:=s3.heap.push { cls:=.type "slice",data:=.fields #[vl,vu,.none] } }
 exact tail_any (ops:=[.ref s3.heap.objs.size,v]) ht hT hg (by with_unfolding_all rfl)
def cutV (xs:List V) (lo hi:Option Int):List V:=(xs.drop (HT.sIx xs.length 0 lo)).take (HT.sIx xs.length xs.length hi - HT.sIx xs.length 0 lo)
theorem fk (xs:List V) (lo hi:Option Int):(cutV xs lo hi).length≤xs.length:=by
 unfold cutV
 rw [xAn,List.length_drop]
 lia
def rSlT (K:xFr):V→Option Int→Option Int→Hp→VK→Prop:=fun x lo hi H Q=>∃ a xs,x = .ref a∧SqT K H a xs ∧
 ¬ (HT.sIx xs.length 0 lo=0∧HT.sIx xs.length xs.length hi=xs.length)∧∀ p,H p=none→Q (.ref p) (upd H p (.tup (cutV xs lo hi)))
theorem hX:SlR X (rSlT X.K):=by
 intro pins s σ H x v vl vu lo hi sl Q I rx hs pl pu h
 obtain ⟨a,xs,rfl,hx,hw,q⟩:=h
 cases rx
 obtain ⟨its,r,ht,hz⟩:=I.tuple hx
 have hlen:its.toArray.size=xs.length:=by rw [xAp];exact r.length.symm
 refine ⟨"tuple",_,PyProof.Rows.slot_tuple_getitem.lookup,ht.typeIs,?_⟩
 refine HT.getItem_tuple_cut ht hs pl pu (by rw [hlen];exact hw) ?_ (by rw [hlen];exact hz)
 rw [hlen]
 refine ⟨.ref s.heap.objs.size,_,I.laid (t':=s.toks) (o:=.tup (cutV xs lo hi)) (fun b ob q=>xAf _ q) (xAg _) ?_,rfl,q _ (I.hok.fresh (xAg _))⟩
 exact ⟨Nat.le_trans (fk xs lo hi) hz,_,(r.drop (HT.sIx xs.length 0 lo)).take (HT.sIx xs.length xs.length hi - HT.sIx xs.length 0 lo),IsTup.new _ _⟩
def rCatT (K:xFr):R2:=fun x y H Q=>∃ a b xs ys,x = .ref a∧y = .ref b∧SqT K H a xs∧SqT K H b ys∧xs≠[]∧xs.length+ys.length≤sizeLine ∧
 (ys=[]→Q (.ref a) H)∧(ys≠[]→∀ p,H p=none→Q (.ref p) (upd H p (.tup (xs++ys))))
theorem Vals.nil_iff {xs:List V} {us:List Value} (r:Vals xs us):us=[]↔xs=[]:=by
 cases r with
 | nil=>simp
 | cons _ _=>simp
theorem qV:OpR X (binaryOp .Add) (rCatT X.K):=by
 intro pins s σ H x y v u Q I rx ry h
 obtain ⟨a,b,xs,ys,rfl,rfl,ha,hb,hx,hz,q1,q2⟩:=h
 cases rx
 cases ry
 obtain ⟨its,r1,p1,_⟩:=I.tuple ha
 obtain ⟨its2,r2,p2,_⟩:=I.tuple hb
 refine HT.cat_tup p1 p2 (fun z=>hx (r1.nil_iff.mp z)) (fun z=>⟨.ref a,H,I,rfl,q1 (r2.nil_iff.mp z)⟩) (fun z=>?_) (by rw [← r1.length,← r2.length];exact hz)
 refine ⟨.ref s.heap.objs.size,_,I.laid (t':=s.toks) (o:=.tup (xs++ys)) (fun b ob q=>xAf _ q) (xAg _) ?_,rfl,q2 (fun w=>z (r2.nil_iff.mpr w)) _ (I.hok.fresh (xAg _))⟩
 exact ⟨by rw [xAb];exact hz,_,r1.append r2,IsTup.new _ _⟩
end
end L2
namespace L2
open PySem PySem.Spec PyProof.Rows
def ixN (n:Nat) (i:Int):Option Nat:=if 0≤i then (if i<n then some i.toNat else none) else if -(n:Int)≤i then some (i+n).toNat else none
def atI {α:Type} (xs:List α) (i:Int):Option α:=(ixN xs.length i).bind fun j=>xs[j]?
theorem ri {n:Nat} {i:Int} {j:Nat} (h:ixN n i=some j):seqIndex? i n=some j∧j<n∧-(n:Int)≤i∧i<n:=by
 unfold ixN at h
 by_cases h0:0≤i
 ·rw [xCg h0] at h
  by_cases h1:i<n
  ·rw [xCg h1] at h
   have e:i.toNat=j:=xB3 h
   exact ⟨by rw [seqIndex_of h0 h1,e],by lia,by lia,h1⟩
  ·rw [xCf h1] at h;cases h
 ·rw [xCf h0] at h
  by_cases h1:-(n:Int)≤i
  ·rw [xCg h1] at h
   have e:(i+n).toNat=j:=xB3 h
   exact ⟨by rw [seqIndex_neg (by lia) h1,e],by lia,h1,by lia⟩
  ·rw [xCf h1] at h;cases h
theorem iI {α:Type} {xs:List α} {i:Int} {v:α} (h:atI xs i=some v):∃ j,seqIndex? i xs.length=some j∧xs[j]?=some v∧j<xs.length∧-(xs.length:Int)≤i∧i<xs.length:=by
 unfold atI at h
 cases e:ixN xs.length i with
 | none=>rw [e] at h;cases h
 | some j =>
  rw [e] at h
  obtain ⟨h1,h2,h3,h4⟩:=ri e
  exact ⟨j,h1,h,h2,h3,h4⟩
theorem bJ {α:Type} {xs:List α} {j:Nat} {v:α} (h:xs[j]?=some v):atI xs (j:Int)=some v:=by
 have hj:j<xs.length:=(xAq.mp h).1
 have e:ixN xs.length (j:Int)=some j:=by
  unfold ixN
  rw [xCg (by lia),xCg (by lia)];simp
 unfold atI;rw [e];exact h
theorem pB {α:Type} (xs:List α) (v:α):atI (xs++[v]) (-1)=some v:=by
 have hl:(xs++[v]).length=xs.length+1:=by simp
 have e:ixN (xs++[v]).length (-1)=some xs.length:=by
  unfold ixN
  rw [hl,xCf (by decide),xCg (by lia)]
  congr 1
  lia
 unfold atI
 rw [e]
 show (xs++[v])[xs.length]?=some v
 simp
def PlainIx (b:Expr):Prop:=∀ o i,subscripted b false o i=operate [o,i] (getItem o i)
def IxR (X:Cx) (r:R2):Prop :=
 ∀ (value slice:Expr) (pins:List (Addr×Obj)) (s:Shared) (σ:St) (H:Hp) (x y:V) (v u:Value) (Q:VK),Inv X pins σ H s→RelV x v→RelV y u→r x y H Q →
  subscripted slice false v u=operate [v,u] (getItem v u)→wpAny (model X.prog X.w) X.A (subscriptTail value slice v u) (EP X pins σ Q) X.xe s
def MtR (X:Cx) (id:String) (r:V→List V→Hp→VK→Prop):Prop :=
 ∀ (pins:List (Addr×Obj)) (s:Shared) (σ:St) (H:Hp) (x:V) (xs:List V) (v:Value) (us:List Value) (Q:VK),Inv X pins σ H s→RelV x v→Vals xs us→r x xs H Q →
  wpAny (model X.prog X.w) X.A (call (.builtin id) (v::us)) (EP X pins σ Q) X.xe s
section
variable {X:Cx} {a b:Expr} {ta tb:TE} {pos:Pos}
theorem vh {r:R2} (hr:IxR X r) (ha:PE X a ta) (hb:PE X b tb) (hs:PlainIx b):PE X (.Subscript a b pos) (tOp r ta tb):=by
 intro pins s σ H Q I h
 exact Subscript_ (binT ha hb I h fun v u s2 x y H2 I2 rx ry q=>hr a b pins s2 σ H2 x y v u Q I2 rx ry q (hs _ _))
def rIxL (K:xFr):R2:=fun x y H Q=>∃ p xs i v,x = .ref p∧y = .int i∧SqL K H p xs∧atI xs i=some v∧Q v H
def rIxT (K:xFr):R2:=fun x y H Q=>∃ p xs i v,x = .ref p∧y = .int i∧SqT K H p xs∧atI xs i=some v∧Q v H
def rIxS:R2:=fun x y H Q=>∃ z i c,x = .str z∧y = .int i∧z.length≤sizeLine∧atI z.cps.toList i=some c∧Q (.str ⟨#[c]⟩) H
theorem aV:IxR X (rIxL X.K):=by
 intro value slice pins s σ H x y v u Q I rx ry h hs
 obtain ⟨p,xs,i,z,rfl,rfl,hq,he,q⟩:=h
 cases rx
 obtain ⟨t,rfl⟩:=ry
 obtain ⟨its,r,pl,hz⟩:=I.list hq
 obtain ⟨j,h1,h2,h3,h4,h5⟩:=iI he
 obtain ⟨w,ew,rw'⟩:=r.get h2
 have hl:=r.length
 have hn:=line63
 have fin:EP X pins σ Q w s:=⟨z,H,I,rw',q⟩
 by_cases h0:0≤i
 ·have hj:i.toNat=j:=by
   rw [seqIndex_of h0 h5] at h1
   exact xB3 h1
  exact item_listR pl.isList h0 (by lia) (by rw [hj];simpa using ew) fin hs
 ·have hj:(i+(its.toArray.size:Int)).toNat=j:=by
   rw [seqIndex_neg (by lia) h4] at h1
   rw [xAp,← hl]
   exact xB3 h1
  exact subscriptTail_builtinR (x:=w) pl.isList.typeIs slot_list_getitem.lookup
   (wpAny_getItem_list_neg (Q:=fun r s'=>r=w∧EP X pins σ Q r s') pl.isList (by lia) (by rw [xAp] <;> lia) (by lia) (by rw [hj];simpa using ew) ⟨rfl,fin⟩) hs
theorem aQ:IxR X (rIxT X.K):=by
 intro value slice pins s σ H x y v u Q I rx ry h hs
 obtain ⟨p,xs,i,z,rfl,rfl,hq,he,q⟩:=h
 cases rx
 obtain ⟨t,rfl⟩:=ry
 obtain ⟨its,r,pl,hz⟩:=I.tuple hq
 obtain ⟨j,h1,h2,h3,h4,h5⟩:=iI he
 obtain ⟨w,ew,rw'⟩:=r.get h2
 have hl:=r.length
 have hn:=line63
 have fin:EP X pins σ Q w s:=⟨z,H,I,rw',q⟩
 exact subscriptTail_builtinR (x:=w) pl.typeIs slot_tuple_getitem.lookup
  (getItem_tuple (j:=j) (Q:=fun r s'=>r=w∧EP X pins σ Q r s') pl (by lia) (by lia) (by rw [xAp,← hl];exact h1) (by simpa using ew) ⟨rfl,fin⟩) hs
theorem oP:IxR X rIxS:=by
 intro value slice pins s σ H x y v u Q I rx ry h hs
 obtain ⟨z,i,c,rfl,rfl,hz,he,q⟩:=h
 obtain ⟨t,rfl⟩:=rx
 obtain ⟨t',rfl⟩:=ry
 obtain ⟨j,h1,h2,h3,h4,h5⟩:=iI he
 have hl:z.cps.toList.length=z.length:=by simp [Str.length]
 rw [hl] at h1 h4 h5
 have hn:=line63
 exact tail_any (typeIs_str s z t) slot_str_getitem.lookup (getItem_str (c:=c) (by
  have e1:decide (i < -(2 ^ 63:Int))=false:=decide_eq_false (by lia)
  have e2:decide (i ≥ 2 ^ 63)=false:=decide_eq_false (by lia)
  rw [e1,e2,Bool.or_false]) (by rw [h1];simpa using h2) ⟨.str ⟨#[c]⟩,H,I.tok _,⟨_,rfl⟩,q⟩) hs
theorem hW (lo hi:Option Int) (n:Nat):(sliceBounds lo hi none n).1=((HT.sIx n 0 lo:Nat):Int)∧(sliceBounds lo hi none n).2.1=((HT.sIx n n hi:Nat):Int)∧(sliceBounds lo hi none n).2.2=1:=by
 refine ⟨?_,?_,rfl⟩
 ·cases lo with
  | none=>simp [sliceBounds,HT.sIx]
  | some i =>
   simp only [sliceBounds,HT.sIx,Option.getD_none,show (1:Int) > 0 by decide,if_true]
   by_cases h:i<0
   ·simp only [h,if_true] <;> lia
   ·simp only [h,if_false] <;> lia
 ·cases hi with
  | none=>simp [sliceBounds,HT.sIx]
  | some i =>
   simp only [sliceBounds,HT.sIx,Option.getD_none,show (1:Int) > 0 by decide,if_true]
   by_cases h:i<0
   ·simp only [h,if_true] <;> lia
   ·simp only [h,if_false] <;> lia
theorem gu (its:List Value) (lo hi:Option Int):slicePick its.toArray lo hi none=((its.drop (HT.sIx its.length 0 lo)).take (HT.sIx its.length its.length hi - HT.sIx its.length 0 lo)).toArray:=by
 obtain ⟨h1,h2,h3⟩:=hW lo hi its.toArray.size
 unfold slicePick
 rw [h1,h2,h3]
 simp only [sliceRange_one,pick_run,xAp] <;> rfl
def rSlL (K:xFr):V→Option Int→Option Int→Hp→VK→Prop:=fun x lo hi H Q=>∃ a xs,x = .ref a∧SqL K H a xs∧∀ p,H p=none→Q (.ref p) (upd H p (.lst (cutV xs lo hi)))
theorem ic:SlR X (rSlL X.K):=by
 intro pins s σ H x v vl vu lo hi sl Q I rx hs pl pu h
 obtain ⟨a,xs,rfl,hx,q⟩:=h
 cases rx
 obtain ⟨its,r,ht,hz⟩:=I.list hx
 have hlen:=r.length
 refine ⟨"list",_,slot_list_getitem.lookup,ht.isList.typeIs,?_⟩
 refine wpAny_getItem_list_slice ht.isList hs pl pu .none (by simp) ?_ (by rw [xAp] <;> lia)
 rw [gu,← hlen]
 refine ⟨.ref s.heap.objs.size,_,I.laid (t':=s.toks) (o:=.lst (cutV xs lo hi)) (fun b ob q=>xAf _ q) (xAg _) ?_,rfl,q _ (I.hok.fresh (xAg _))⟩
 exact ⟨Nat.le_trans (fk xs lo hi) hz,_,0,(r.drop (HT.sIx xs.length 0 lo)).take (HT.sIx xs.length xs.length hi - HT.sIx xs.length 0 lo),xAl _ rfl⟩
def flatV:V→Bool
 | .non=>true
 | .bl _=>true
 | .int _=>true
 | .str _=>true
 | _=>false
def eqV:V→V→Bool
 | .non,.non=>true
 | .bl a,.bl b=>a == b
 | .bl a,.int b=>(if a then 1 else 0) == b
 | .int a,.bl b=>a == (if b then 1 else 0)
 | .int a,.int b=>a == b
 | .str a,.str b=>a == b
 | _,_=>false
theorem o0 {A:Around} {s:Shared} {y x:V} {u v:Value} (ry:RelV y u) (rx:RelV x v) (fy:flatV y=true) (fx:flatV x=true):SeqAt.EqAt A s u v (eqV y x):=by
 cases y with
 | non =>
  cases ry
  cases x with
  | non=>cases rx;exact SeqAt.EqAt.same _
  | bl b=>cases rx;exact SeqAt.EqAt.none_bool b
  | int b=>obtain ⟨t,rfl⟩:=rx;exact SeqAt.EqAt.none_int b t
  | str b=>obtain ⟨t,rfl⟩:=rx;exact SeqAt.EqAt.none_str b t
  | _=>exact absurd (show false=true from fx) xAy
 | bl a =>
  cases ry
  cases x with
  | non=>cases rx;exact SeqAt.EqAt.bool_none a
  | bl b=>cases rx;exact SeqAt.EqAt.bool_bool a b
  | int b=>obtain ⟨t,rfl⟩:=rx;exact SeqAt.EqAt.bool_int a b t
  | str b=>obtain ⟨t,rfl⟩:=rx;exact SeqAt.EqAt.bool_str a b t
  | _=>exact absurd (show false=true from fx) xAy
 | int a =>
  obtain ⟨t',rfl⟩:=ry
  cases x with
  | non=>cases rx;exact SeqAt.EqAt.int_none a t'
  | bl b=>cases rx;exact SeqAt.EqAt.int_bool a t' b
  | int b=>obtain ⟨t,rfl⟩:=rx;exact SeqAt.EqAt.int_int a t' b t
  | str b=>obtain ⟨t,rfl⟩:=rx;exact SeqAt.EqAt.int_str a t' b t
  | _=>exact absurd (show false=true from fx) xAy
 | str a =>
  obtain ⟨t',rfl⟩:=ry
  cases x with
  | non=>cases rx;exact SeqAt.EqAt.str_none a t'
  | bl b=>cases rx;exact SeqAt.EqAt.str_bool a t' b
  | int b=>obtain ⟨t,rfl⟩:=rx;exact SeqAt.EqAt.str_int a t' b t
  | str b=>obtain ⟨t,rfl⟩:=rx;exact SeqAt.EqAt.str_str a t' b t
  | _=>exact absurd (show false=true from fx) xAy
 | _=>exact absurd (show false=true from fy) xAy
def eqU (x:V) (u:Value):Bool:=match u with
 | .none=>eqV .non x
 | .bool b=>eqV (.bl b) x
 | .int i _=>eqV (.int i) x
 | .str z _=>eqV (.str z) x
 | _=>false
theorem oZ {x y:V} {u:Value} (r:RelV y u) (f:flatV y=true):eqU x u=eqV y x:=by
 cases y with
 | non=>cases r;rfl
 | bl b=>cases r;rfl
 | int i=>obtain ⟨t,rfl⟩:=r;rfl
 | str z=>obtain ⟨t,rfl⟩:=r;rfl
 | _=>exact absurd (show false=true from f) xAy
theorem fL {x:V}:∀ {xs:List V} {us:List Value},Vals xs us→xs.all flatV=true→us.any (eqU x)=xs.any fun y=>eqV y x
 | _,_,.nil,_=>rfl
 | y::xs,u::us,.cons r t,f=>by
  rw [List.all_cons,Bool.and_eq_true] at f
  rw [List.any_cons,List.any_cons,oZ r f.1,fL t f.2]
theorem eM {A:Around} {s:Shared} {x:V} {v:Value} (rx:RelV x v) (fx:flatV x=true):∀ {xs:List V} {us:List Value},Vals xs us→xs.all flatV=true→∀ u∈us,SeqAt.EqAt A s u v (eqU x u)
 | _,_,.nil,_=>fun u hu=>by cases hu
 | y::xs,u::us,.cons r t,f=>fun u' hu=>by
  rw [List.all_cons,Bool.and_eq_true] at f
  rcases xAv.mp hu with rfl | hu
  ·rw [oZ r f.1];exact o0 r rx f.1 fx
  ·exact eM rx fx t f.2 u' hu
def inV (x:V) (xs:List V):Bool:=xs.any fun y=>eqV y x
def rIn (K:xFr) (neg:Bool):R2:=fun x y H Q=>∃ p xs,y = .ref p∧(SqL K H p xs∨SqT K H p xs)∧flatV x=true∧xs.all flatV=true∧Q (.bl (if neg then !inV x xs else inV x xs)) H
theorem ml:OpR X (compareOp .In) (rIn X.K false):=by
 intro pins s σ H x y v u Q I rx ry h
 obtain ⟨p,xs,rfl,hq,fx,fs,q⟩:=h
 cases ry
 rcases hq with hq | hq
 ·obtain ⟨its,r,pl,hz⟩:=I.list hq
  refine SeqAt.in_listAt (eqU x) pl.isList (fun w hw=>eM rx fx r fs w (by simpa using hw)) ⟨.bl _,H,I,rfl,?_⟩
  rw [show its.toArray.any (eqU x)=its.any (eqU x) by simp,fL r fs]
  exact q
 ·obtain ⟨its,r,pl,hz⟩:=I.tuple hq
  refine SeqAt.in_tupleAt (eqU x) pl (fun w hw=>eM rx fx r fs w (by simpa using hw)) ⟨.bl _,H,I,rfl,?_⟩
  rw [show its.toArray.any (eqU x)=its.any (eqU x) by simp,fL r fs]
  exact q
theorem iG:CallR X (.builtin "len") (fun xs H Q=>∃ z,xs=[.str z]∧z.length≤sizeLine∧Q (.int z.length) H):=by
 intro pins s σ H xs us Q I r h
 obtain ⟨z,rfl,hz,q⟩:=h
 obtain ⟨u,rfl,t,rfl⟩:=vals1 r
 have hn:=line63
 exact len_str (by lia) ⟨.int z.length,H,I.tok _,⟨_,rfl⟩,q⟩
theorem gv:CallR X (.type "tuple") (fun xs H Q=>∃ p ys,xs=[.ref p]∧((SqL X.K H p ys∧∀ l,H l=none→Q (.ref l) (upd H l (.tup ys)))∨(SqT X.K H p ys∧Q (.ref p) H))):=by
 intro pins s σ H xs us Q I r h
 obtain ⟨p,ys,rfl,h⟩:=h
 obtain ⟨u,rfl,rx⟩:=vals1 r
 cases rx
 rcases h with ⟨hq,q⟩ | ⟨hq,q⟩
 ·obtain ⟨its,r',pl,hz⟩:=I.list hq
  have hlen:=r'.length
  refine call_tuple_list pl.isList (fun h' kp=>?_) (by simp only [xAp] <;> lia)
  have I1:Inv X pins σ H { s with heap:=h' }:=I.kept (t':=s.toks) kp
  have I2:Inv X pins σ (upd H h'.objs.size (.tup ys)) { s with heap:=h'.push { cls:=.type "tuple",data:=.seq its.toArray } } :=
   I1.laid (t':=s.toks) (fun b o e=>xAf _ e) (xAg _) (show ObjOk X.prog X.w _ _ _ (.tup ys) from ⟨hz,its,r',IsTup.new _ _⟩)
  exact ⟨.ref h'.objs.size,_,I2,rfl,q _ (I1.hok.fresh (xAg _))⟩
 ·obtain ⟨its,r',pl,hz⟩:=I.tuple hq
  exact call_tuple_same pl ⟨.ref p,H,I,rfl,q⟩
def tyV (K:xFr) (T:String) (x:V) (H:Hp):Prop:=match x with
 | .str _=>T="str"
 | .int _=>T="int"
 | .ref p=>(T="list"∧∃ xs,SqL K H p xs)∨(T="tuple"∧∃ o,K.lookup p=some o∧o.cls = .type "tuple"∧o.dict=none) ∨
   (T="dict"∧((∃ kvs,H p=some (.dK kvs))∨∃ kvs,H p=some (.dT kvs)))∨(T="set"∧∃ S n,H p=some (.set S n))
 | _=>False
theorem sh {pins:List (Addr×Obj)} {σ:St} {H:Hp} {s:Shared} {T:String} {x:V} {v:Value} (I:Inv X pins σ H s) (r:RelV x v) (ty:tyV X.K T x H) :
  s.TypeIs v T∧∀ a,v = .ref a→∃ ob,s.heap.get? a=some ob∧ob.dict=none:=by
 cases x with
 | str z =>
  obtain ⟨t,rfl⟩:=r
  cases (show T="str" from ty)
  exact ⟨typeIs_str s z t,fun _ e=>nomatch e⟩
 | int i =>
  obtain ⟨t,rfl⟩:=r
  cases (show T="int" from ty)
  exact ⟨typeIs_int s i t,fun _ e=>nomatch e⟩
 | ref p =>
  cases r
  rcases ty with ⟨rfl,xs,hq⟩ | ⟨rfl,o,hk,hc,hd⟩ | ⟨rfl,hk⟩ | ⟨rfl,S,n,hk⟩
  ·obtain ⟨its,_,pl,_⟩:=I.list hq
   refine ⟨pl.isList.typeIs,fun a e=>?_⟩
   cases e
   obtain ⟨o,n,e,c,hd,_⟩:=pl
   exact ⟨o,e,hd⟩
  ·refine ⟨⟨o,I.kIn p o hk,hc⟩,fun a e=>?_⟩
   cases e
   exact ⟨o,I.kIn _ o hk,hd⟩
  ·have z:∃ o,s.heap.get? p=some o∧o.ExactDict:=by
    rcases hk with ⟨kvs,hk⟩ | ⟨kvs,hk⟩
    ·obtain ⟨_,_,_,_,o,_,_,e,ex,_⟩:=I.hok p _ hk
     exact ⟨o,e,ex⟩
    ·obtain ⟨_,_,_,_,o,_,_,e,ex,_⟩:=I.hok p _ hk
     exact ⟨o,e,ex⟩
   obtain ⟨o,e,ex⟩:=z
   refine ⟨⟨o,e,ex.1⟩,fun a e2=>?_⟩
   cases e2
   exact ⟨o,e,ex.2.1⟩
  ·obtain ⟨o,_,_,_,e,ex,_⟩:=I.hok p _ hk
   refine ⟨⟨o,e,ex.1⟩,fun a e2=>?_⟩
   cases e2
   exact ⟨o,e,ex.2.1⟩
 | _=>exact False.elim ty
def tBM (K:xFr) (T:String) (r:V→List V→Hp→VK→Prop) (to:TE) (t:TA):TE:=fun σ H Q=>to σ H fun x H1=>tyV K T x H1∧t σ H1 fun xs H2=>r x xs H2 Q
variable {o e:Expr} {es:List Expr} {to:TE} {t:TA} {name:Str} {apos cpos:Pos} {T id:String} {r:V→List V→Hp→VK→Prop}
theorem vn (pa:PlainAttrs T) (slot:Slot T name id) (hty:typeOf (.builtin id)=pure (.type "method_descriptor")) (hm:MtR X id r) (ho:PE X o to) (ha:PA X (e::es) t)
  (hbase:attributeBase o name X.env (eval o X.env)=eval o X.env:=by rfl)
  (hfew:((backTo cpos (starEach (e::es) X.env)).all (fun x=>!x.1) && (backToKw cpos (keywordEach [] X.env)).all (fun x=>x.1.isSome)
   && decide ((e::es).length+([]:List Keyword).length+(if ([]:List Keyword).isEmpty then 0 else 1)<30))=true:=by rfl)
  (hline:(apos.endLine == cpos.line)=true:=by rfl) (hs:starEach (e::es) X.env=(false,eval e X.env)::starEach es X.env:=by rfl) (hplain:(backTo cpos (starEach es X.env)).any (·.1)=false:=by rfl) :
  PE X (.Call (.Attribute o name apos) (e::es) [] cpos) (tBM X.K T r to t):=by
 intro pins s σ H Q I h
 refine wpAny_Call_method_late hbase hfew hline rfl (thn (ho pins s σ H _ I h) fun v s1 ⟨x,H1,I1,r1,ty,q1⟩=>?_)
 obtain ⟨h1,h2⟩:=sh I1 r1 ty
 refine ⟨T,id,pa,slot,hty,h1,h2,?_⟩
 have hA:=ha cpos pins s1 σ H1 _ I1 q1
 rw [hs] at hA ⊢
 refine Calls.callWith_builtin (by show (false || (backTo cpos (starEach es X.env)).any (·.1))=false;rw [hplain] <;> rfl) (Calls.evalArgs_plain ?_)
 exact thn hA fun us s2 ⟨vs,H2,I2,r2,q2⟩=>hm pins s2 σ H2 x vs v us Q I2 r1 r2 q2
end
end L2
namespace L2
open PySem PySem.Spec PyProof.Rows
def MtM (X:Cx) (id:String) (r:V→List V→Hp→VK→Prop):Prop :=
 ∀ (pins:List (Addr×Obj)) (s:Shared) (σ:St) (H:Hp) (x:V) (xs:List V) (v:Value) (us:List Value) (Q:VK),Inv X pins σ H s→RelV x v→Vals xs us→r x xs H Q →
  wpAny (model X.prog X.w) X.A (call (.builtin id) (v::us)) (EP X pins σ Q) X.xe s
theorem Vals.one:∀ {x:V} {us:List Value},Vals [x] us→∃ u,us=[u]∧RelV x u
 | _,_,.cons r .nil=>⟨_,rfl,r⟩
section
variable {X:Cx} {pins:List (Addr×Obj)} {σ:St} {H:Hp} {s:Shared} {l b:Addr} {xs ys zs:List V}
theorem Inv.lset {its its':List Value} {n:Nat} {f:Array Value→Array Value} {t':Nat} (I:Inv X pins σ H s) (hH:H l=some (.lst xs))
  (e:s.heap.get? l=some { cls:=.type "list",data:=.seq its.toArray n }) (hf:f its.toArray=its'.toArray) (hv:Vals ys its') (hz:ys.length≤sizeLine) :
  Inv X pins σ (upd H l (.lst ys)) { s with heap:=s.heap.update l (Obj.mapSeq f),toks:=t' }:=by
 have q:=PySem.IsL.update e f
 rw [hf] at q
 refine I.write (x:=l) (e:=l) (by rw [hH];exact trivial) (.inl rfl) (fun b' u hb hu=>(Heap.get?_update_other s.heap (Obj.mapSeq f) (Ne.symm hb)).trans hu) ⟨_,q⟩ ?_
 exact ⟨hz,its',_,hv,q⟩
theorem Inv.lnew {its:List Value} {t':Nat} (I:Inv X pins σ H s) (hv:Vals ys its) (hz:ys.length≤sizeLine) :
  Inv X pins σ (upd H s.heap.objs.size (.lst ys)) { s with heap:=s.heap.push { cls:=.type "list",data:=.seq its.toArray },toks:=t' } :=
 I.laid (fun _ _ q=>xAf _ q) (xAg _) ⟨hz,its,0,hv,xAl _ rfl⟩
theorem Inv.fresh (I:Inv X pins σ H s):H s.heap.objs.size=none:=I.hok.fresh (xAg _)
theorem Inv.lstM (I:Inv X pins σ H s) (hH:H l=some (.lst xs)):xs.length≤sizeLine∧∃ (its:List Value) (n:Nat),Vals xs its∧xs.length=its.length∧s.heap.get? l=some { cls:=.type "list",data:=.seq its.toArray n }:=by
 obtain ⟨z,its,n,r,e⟩:=I.hok l _ hH
 exact ⟨z,its,n,r,r.length,e⟩
theorem notLongL {n:Nat} (h:n≤sizeLine):Builtin.List.listTooLong n=false:=by
 unfold Builtin.List.listTooLong
 exact decide_eq_false (by lia)
end
section
variable {X:Cx}
def rAppend:V→List V→Hp→VK→Prop:=fun x vs H Q=>∃ l xs y,x = .ref l∧vs=[y]∧H l=some (.lst xs)∧xs.length<sizeLine∧Q .non (upd H l (.lst (xs++[y])))
theorem bf:MtM X "list.append" rAppend:=by
 intro pins s σ H x vs v us Q I rx rv h
 obtain ⟨l,xs,y,rfl,rfl,hH,hz,q⟩:=h
 cases rx
 obtain ⟨u,rfl,ru⟩:=rv.one
 obtain ⟨z,its,n,r,hl,e⟩:=I.lstM hH
 refine call_meets F.slot_list_append ⟨_,e,rfl⟩ F.entry_list_append (F.args_list_append_2 _ _) (PySem.list_append l its.toArray n u (by rw [xAp];lia)) ⟨e,?_⟩
 refine ⟨.non,_,I.lset (its':=its++[u]) hH e (by simp) (r.append (.cons ru .nil)) ?_,rfl,q⟩
 rw [xAb,xAt]
 lia
def rExtend:V→List V→Hp→VK→Prop:=fun x vs H Q=>∃ l b xs zs,x = .ref l∧vs=[.ref b]∧H l=some (.lst xs)∧H b=some (.lst zs)∧xs.length+zs.length≤sizeLine∧Q .non (upd H l (.lst (xs++zs)))
theorem gH:MtM X "list.extend" rExtend:=by
 intro pins s σ H x vs v us Q I rx rv h
 obtain ⟨l,b,xs,zs,rfl,rfl,hH,hB,hz,q⟩:=h
 cases rx
 obtain ⟨u,rfl,ru⟩:=rv.one
 cases ru
 obtain ⟨z,its,n,r,hl,e⟩:=I.lstM hH
 obtain ⟨z2,its2,n2,r2,hl2,e2⟩:=I.lstM hB
 have hsz:its.toArray.size+its2.toArray.size≤sizeLine:=by rw [xAp,xAp];lia
 have hlong:¬ (!its.toArray.isEmpty && Builtin.List.listTooLong (its.toArray.size+its2.toArray.size))=true:=by
  rw [notLongL hsz,Bool.and_false]
  exact xAy
 refine call_meets F.slot_list_extend ⟨_,e,rfl⟩ F.entry_list_extend (F.args_list_extend_2 _ _)
  (AutoSeq1.list_extend_list_list_0 l its.toArray n b its2.toArray n2 hlong (by rw [xAp];lia) (by lia)) ⟨e,e2,?_⟩
 refine ⟨.non,_,I.lset (its':=its++its2) hH e (by simp) (r.append r2) ?_,rfl,q⟩
 rw [xAb]
 lia
def rCat:R2:=fun x y H Q=>∃ l b xs zs,x = .ref l∧y = .ref b∧H l=some (.lst xs)∧H b=some (.lst zs)∧xs.length+zs.length≤sizeLine∧∀ p,H p=none→Q (.ref p) (upd H p (.lst (xs++zs)))
theorem eZ:OpR X (binaryOp .Add) rCat:=by
 intro pins s σ H x y v u Q I rx ry h
 obtain ⟨l,b,xs,zs,rfl,rfl,hH,hB,hz,q⟩:=h
 cases rx
 cases ry
 obtain ⟨z,its,n,r,hl,e⟩:=I.lstM hH
 obtain ⟨z2,its2,n2,r2,hl2,e2⟩:=I.lstM hB
 refine PySem.P.add_list e e2 ?_ (by rw [xAp,xAp];lia)
 have ea:its.toArray++its2.toArray=(its++its2).toArray:=by simp
 rw [ea]
 exact ⟨.ref _,_,I.lnew (t':=s.toks) (r.append r2) (by rw [xAb];lia),rfl,q _ I.fresh⟩
end
section
variable {prog:Program} {w:World} {A:Around} {E:Value→Shared→Prop} {s:Shared}
set_option maxRecDepth 100000 in
end
end L2
namespace L2
open PySem PySem.Spec PyProof.Rows
section
variable {κ:Type} [DecidableEq κ]
def valV (kvs:List (κ×V)) (k:κ):Option V:=(kvs.find? fun kv=>decide (kv.1=k)).map (·.2)
def putK (kvs:List (κ×V)) (k:κ) (v:V):List (κ×V) :=
 if (kvs.any fun kv=>decide (kv.1=k))=true then kvs.map (fun kv=>if kv.1=k then (kv.1,v) else kv) else kvs++[(k,v)]
theorem dF {p:κ×V} {r:List (κ×V)} {k:κ} (e:p.1=k):valV (p::r) k=some p.2:=by simp [valV,List.find?_cons,e]
theorem eu {p:κ×V} {r:List (κ×V)} {k:κ} (e:¬ p.1=k):valV (p::r) k=valV r k:=by simp [valV,List.find?_cons,e]
theorem eA (k:κ):∀ kvs:List (κ×V),(kvs.any fun kv=>decide (kv.1=k))=(valV kvs k).isSome
 | []=>rfl
 | p::r=>by
  rw [List.any_cons]
  by_cases e:p.1=k
  ·simp only [dF e,xBd e,Bool.true_or,Option.isSome_some]
  ·rw [eu e,decide_eq_false e,Bool.false_or];exact eA k r
theorem dL (kvs:List (κ×V)) (k:κ) (v:V):(putK kvs k v).length≤kvs.length+1:=by
 unfold putK
 split
 ·rw [xAa];lia
 ·rw [xAb,xAo,List.length_nil];lia
theorem RelO.isSome_eq {o:Option V} {u:Option Value} (r:RelO o u):o.isSome=u.isSome:=by
 cases o with
 | none=>cases u with
  | none=>rfl
  | some _=>exact (show False from r).elim
 | some _=>cases u with
  | none=>exact (show False from r).elim
  | some _=>rfl
theorem KV.val {kvs:List (κ×V)} {vs:List (κ×Value)} (r:KV kvs vs) (k:κ):RelO (valV kvs k) (valueAt vs k):=by
 unfold KV at r
 induction r with
 | nil=>exact True.intro
 | @cons p q ps qs h t ih =>
  obtain ⟨h1,h2⟩:=h
  by_cases e:p.1=k
  ·have e':q.1=k:=h1.symm.trans e
   have b:valueAt (q::qs) k=some q.2:=by simp [valueAt,List.find?_cons,e']
   rw [dF e,b];exact h2
  ·have e':¬ q.1=k:=fun z=>e (h1.trans z)
   have b:valueAt (q::qs) k=valueAt qs k:=by simp [valueAt,List.find?_cons,e']
   rw [eu e,b];exact ih
theorem KV.any {kvs:List (κ×V)} {vs:List (κ×Value)} (r:KV kvs vs) (k:κ):(kvs.any fun kv=>decide (kv.1=k))=vs.any fun kv=>decide (kv.1=k):=by
 unfold KV at r
 induction r with
 | nil=>rfl
 | cons h t ih=>rw [List.any_cons,List.any_cons,ih,h.1]
theorem KV.repl {kvs:List (κ×V)} {vs:List (κ×Value)} (r:KV kvs vs) (k:κ) {y:V} {u:Value} (ry:RelV y u) :
  KV (kvs.map fun kv=>if kv.1=k then (kv.1,y) else kv) (vs.map fun kv=>if kv.1=k then (kv.1,u) else kv):=by
 unfold KV at r ⊢
 induction r with
 | nil=>exact .nil
 | @cons p q ps qs h t ih =>
  rw [xBs,xBs]
  refine .cons ?_ ih
  obtain ⟨h1,h2⟩:=h
  by_cases e:p.1=k
  ·rw [xCg e,xCg (h1.symm.trans e)];exact ⟨h1,ry⟩
  ·rw [xCf e,xCf (fun z=>e (h1.trans z))];exact ⟨h1,h2⟩
theorem KV.put {kvs:List (κ×V)} {vs:List (κ×Value)} (r:KV kvs vs) (k:κ) {y:V} {u:Value} (ry:RelV y u):KV (putK kvs k y) (stored vs k u):=by
 unfold putK stored
 rw [r.any k]
 by_cases e:(vs.any fun kv=>decide (kv.1=k))=true
 ·rw [xCg e,xCg e];exact r.repl k ry
 ·rw [xCf e,xCf e];exact Paired.snoc r ⟨rfl,ry⟩
theorem KV.length {kvs:List (κ×V)} {vs:List (κ×Value)} (r:KV kvs vs):kvs.length=vs.length:=Paired.length r
end
theorem kW {P:Program} {w:World} {k:Key} {u:Value} (r:RelV (kV k) u):(mixKind P w).is k u=true:=by
 cases k with
 | inl i=>obtain ⟨t,e⟩:=(show ∃ t,u=Value.int i t from r);subst e;exact jj P w i t
 | inr x=>obtain ⟨t,e⟩:=(show ∃ t,u=Value.str x t from r);subst e;exact ji P w x t
theorem gJ {P:Program} {w:World}:∀ {ks:List Key} {us:List Value},Vals (ks.map kV) us→ItemsAre (mixKind P w) ks us
 | [],_,r=>by rw [List.map_nil] at r;cases r;exact .nil
 | k::ks,_,r=>by
  rw [xBs] at r
  cases r with
  | cons h t=>exact .cons (kW h) (gJ t)
abbrev KT (H:Hp):List (List Key×V)→List (List Key×Addr×Value)→Prop:=Paired fun p q=>p.1=q.1∧H q.2.1=some (.tup (p.1.map kV))∧RelV p.2 q.2.2
theorem KT.val {H:Hp} {kvs:List (List Key×V)} {xs:List (List Key×Addr×Value)} (r:KT H kvs xs) (k:List Key):RelO (valV kvs k) ((atKey xs k).map (·.2)):=by
 induction r with
 | nil=>exact True.intro
 | @cons p q ps qs h t ih =>
  obtain ⟨h1,_,h2⟩:=h
  by_cases e:p.1=k
  ·have e':q.1=k:=h1.symm.trans e
   have b:atKey (q::qs) k=some q.2:=by simp [atKey,List.find?_cons,e']
   rw [dF e,b];exact h2
  ·have e':¬ q.1=k:=fun z=>e (h1.trans z)
   have b:atKey (q::qs) k=atKey qs k:=by simp [atKey,List.find?_cons,e']
   rw [eu e,b];exact ih
theorem KT.repl {H:Hp} {kvs:List (List Key×V)} {xs:List (List Key×Addr×Value)} (r:KT H kvs xs) (k:List Key) {y:V} {u:Value} (ry:RelV y u) :
  KT H (kvs.map fun kv=>if kv.1=k then (kv.1,y) else kv) (xs.map (putAt k u)):=by
 induction r with
 | nil=>exact .nil
 | @cons p q ps qs h t ih =>
  rw [xBs,xBs]
  refine .cons ?_ ih
  obtain ⟨h1,h2,h3⟩:=h
  unfold putAt
  by_cases e:p.1=k
  ·rw [xCg e,xCg (h1.symm.trans e)];exact ⟨h1,h2,ry⟩
  ·rw [xCf e,xCf (fun z=>e (h1.trans z))];exact ⟨h1,h2,h3⟩
theorem KT.put {H:Hp} {kvs:List (List Key×V)} {xs:List (List Key×Addr×Value)} (r:KT H kvs xs) (k:List Key) {b:Addr} {y:V} {u:Value} (hb:H b=some (.tup (k.map kV))) (ry:RelV y u) :
  KT H (putK kvs k y) (storedH xs k b u):=by
 have e:(kvs.any fun kv=>decide (kv.1=k))=(atKey xs k).isSome:=by
  rw [eA,(r.val k).isSome_eq,Option.isSome_map]
 unfold putK storedH
 rw [e]
 by_cases q:(atKey xs k).isSome=true
 ·rw [xCg q,xCg q];exact r.repl k ry
 ·rw [xCf q,xCf q];exact Paired.snoc r ⟨rfl,hb,ry⟩
theorem KT.keeps {H H':Hp} {kvs:List (List Key×V)} {xs:List (List Key×Addr×Value)} (r:KT H kvs xs) (ht:∀ b ys,H b=some (.tup ys)→H' b=some (.tup ys)):KT H' kvs xs :=
 Paired.mapP r fun _ _ z=>⟨z.1,ht _ _ z.2.1,z.2.2⟩
section
variable {P:Program} {w:World} {H:Hp} {h:Heap} {a:Addr}
theorem rJ {u:HO} (ok:HOk P w H h) (e:Rd H a u):ObjOk P w H h a u:=e.ok ok
theorem pd {kvs:List (Key×V)} (ok:HOk P w H h) (e:Rd H a (.dK kvs)):kvs.length≤sizeLine∧(a == sysModules)=false∧∃ vs,KV kvs vs∧h.DictOf (mixKind P w) a vs :=
 show ObjOk P w H h a (.dK kvs) from rJ ok e
theorem ju {kvs:List (Key×V)} (ok:HOk P w H h) (e:H a=some (.dK kvs)):kvs.length≤sizeLine∧(a == sysModules)=false∧∃ vs,KV kvs vs∧h.DictOf (mixKind P w) a vs:=pd ok (.inl e)
theorem j4 {ks:List Key} (ok:HOk P w H h) (e:H a=some (.tup (ks.map kV))):(tupleKind (mixKind P w)).is h ks a:=by
 obtain ⟨_,its,r,o,h1,h2,n,h3⟩:=(show ObjOk P w H h a (.tup (ks.map kV)) from ok a _ e)
 exact ⟨o,its.toArray,n,h1,h2,h3,by simpa using gJ r⟩
theorem o9 {kvs:List (List Key×V)} (ok:HOk P w H h) (e:Rd H a (.dT kvs)):kvs.length≤sizeLine∧(a == sysModules)=false ∧
  ∃ xs,KT H kvs xs∧h.DictOfH (tupleKind (mixKind P w)) a xs:=by
 obtain ⟨z,y,xs,r,o,es,ep,h1,h2,h3,h4,h5⟩:=(show ObjOk P w H h a (.dT kvs) from rJ ok e)
 refine ⟨z,y,xs,r,o,es,ep,h1,h2,h3,h4,fun x hx=>?_,h5⟩
 have all:∀ {l:List (List Key×V)} {m:List (List Key×Addr×Value)},KT H l m→∀ x∈m,(tupleKind (mixKind P w)).is h x.1 x.2.1:=by
  intro l m q
  induction q with
  | nil=>intro x hx;exact nomatch hx
  | @cons p q ps qs hq t ih =>
   intro x hx
   rcases xAv.mp hx with e | hx
   ·subst e
    exact j4 ok (by rw [← hq.1];exact hq.2.1)
   ·exact ih x hx
 exact all r x hx
theorem wv {kvs:List (List Key×V)} (ok:HOk P w H h) (e:H a=some (.dT kvs)):kvs.length≤sizeLine∧(a == sysModules)=false ∧
  ∃ xs,KT H kvs xs∧h.DictOfH (tupleKind (mixKind P w)) a xs:=o9 ok (.inl e)
end
def DGet (H:Hp) (a:Addr) (y:V) (r:Option V):Prop :=
 (∃ kvs k,Rd H a (.dK kvs)∧y=kV k∧r=valV kvs k)∨∃ kvs k b,Rd H a (.dT kvs)∧y = .ref b∧H b=some (.tup (k.map kV))∧r=valV kvs k
def DPut (H:Hp) (a:Addr) (y v:V) (H':Hp):Prop :=
 (∃ kvs k,H a=some (.dK kvs)∧y=kV k∧kvs.length<sizeLine∧H'=upd H a (.dK (putK kvs k v))) ∨
 ∃ kvs k b,H a=some (.dT kvs)∧y = .ref b∧H b=some (.tup (k.map kV))∧kvs.length<sizeLine∧H'=upd H a (.dT (putK kvs k v))
section
variable {X:Cx} {pins:List (Addr×Obj)} {σ:St} {H:Hp} {s:Shared} {a:Addr} {y v:V} {u r:Value} {o:Option V} {A:Around} {E:Value→Shared→Prop}
theorem Inv.big (I:Inv X pins σ H s):sysModules<s.heap.objs.size:=by
 have h:mainGlobals<s.heap.objs.size:=(I.mod.glob.keeps I.bk).lt
 exact Nat.lt_trans (by decide) h
theorem mI {Q:Value→Shared→Prop} (hu:A.units+1<cLine) (I:Inv X pins σ H s) (g:DGet H a y (some v)) (ry:RelV y u) (h:∀ w' s',Inv X pins σ H s'→RelV v w'→Q w' s') :
  wpAny (model X.prog X.w) A (getItem (.ref a) u) Q E s:=by
 rcases g with ⟨kvs,k,e,ey,l⟩ | ⟨kvs,k,b,e,ey,eb,l⟩
 ·subst ey
  obtain ⟨z,hd,vs,rel,dd⟩:=pd I.hok e
  obtain ⟨w',hw,rw'⟩:=RelO.some_of (v:=v) (o:=valueAt vs k) (by rw [l];exact rel.val k)
  exact wpAny_getItem_of (kW ry) dd.mapOf hw (h w' _ (I.tok _) rw')
 ·subst ey
  cases (show u=Value.ref b from ry)
  obtain ⟨z,hd,xs,rel,dd⟩:=o9 I.hok e
  obtain ⟨w',hw,rw'⟩:=RelO.some_of (v:=v) (o:=(atKey xs k).map (·.2)) (by rw [l];exact rel.val k)
  obtain ⟨p,hp,hp2⟩:=xA3.mp hw
  refine wpAny_getItem_heap (tupleKind_room_in1 hu) (j4 I.hok eb) dd hp ?_
  rw [hp2]
  exact h w' _ (I.tok _) rw'
theorem iD {h':Heap} {t':Nat} {ob:HO} (I:Inv X pins σ H s) (mu:Mut (H a)) (hs:Heap.SameBut a s.heap h') (he:∃ q,h'.get? a=some q) (new:ObjOk X.prog X.w (upd H a ob) h' a ob) :
  Inv X pins σ (upd H a ob) { s with heap:=h',toks:=t' } :=
 I.write (x:=a) (e:=a) mu (.inl rfl) (fun b q hb z=>(hs.2 b hb).trans z) he new
theorem j8 {P:Program} {w:World} {H':Hp} {h':Heap} {kvs:List (Key×V)} {vs:List (Key×Value)} (z:kvs.length≤sizeLine) (hd:(a == sysModules)=false) (rel:KV kvs vs) (dd:h'.DictOf (mixKind P w) a vs) :
  ObjOk P w H' h' a (.dK kvs):=⟨z,hd,vs,rel,dd⟩
theorem mH {H':Hp} {Q:Unit→Shared→Prop} (hu:A.units+1<cLine) (I:Inv X pins σ H s) (g:DPut H a y v H') (ry:RelV y u) (rv:RelV v r) (h:∀ s',Inv X pins σ H' s'→Q () s') :
  wpAny (model X.prog X.w) A (setItem (.ref a) u r) Q E s:=by
 rcases g with ⟨kvs,k,e,ey,l,eH⟩ | ⟨kvs,k,b,e,ey,eb,l,eH⟩
 ·subst ey eH
  obtain ⟨z,hd,vs,rel,dd⟩:=ju I.hok e
  have hz:vs.length≤sizeLine:=by rw [← rel.length];exact z
  have hl:(putK kvs k v).length≤sizeLine:=by have:=dL kvs k v;lia
  refine wpAny_setItem_pairs (hsz:=hz) (kW ry) dd fun h' dd' hs=>h _ ?_
  have he:∃ q,h'.get? a=some q:=let ⟨q,_,_,hq,_⟩:=dd';⟨q,hq⟩
  exact iD I (by rw [e];exact True.intro) hs he (j8 hl hd (rel.put k rv) dd')
 ·subst ey eH
  cases (show u=Value.ref b from ry)
  obtain ⟨z,hd,xs,rel,dd⟩:=wv I.hok e
  have hz:xs.length≤sizeLine:=by rw [← Paired.length rel];exact z
  have hl:(putK kvs k v).length≤sizeLine:=by have:=dL kvs k v;lia
  refine wpAny_setItem_heap (hsz:=hz) (tupleKind_room_in1 hu) (j4 I.hok eb) dd fun h' dd' hs=>h _ ?_
  obtain ⟨q,es,ep,hq,h2,h3,h4,_,h5⟩:=dd'
  refine iD I (by rw [e];exact True.intro) hs ⟨q,hq⟩ ⟨hl,hd,_,(rel.put k eb rv).keeps fun c ys ec=>?_,q,es,ep,hq,h2,h3,h4,h5⟩
  rw [am (wm ec e (fun z=>nomatch z))]
  exact ec
end
def NoSl (i:Expr):Prop:=∀ ov iv,subscripted i false ov iv=operate [ov,iv] (getItem ov iv)
theorem pL {prog:Program} {w:World} {A:Around} {E:Value→Shared→Prop} {s:Shared} {env:Env} {value slice:Expr} {pos:Pos} {T id:String} {Q:Value→Shared→Prop}
  (hl:typeLookup (.type T) "__getitem__"=pure (some (.builtin id))) (hs:NoSl slice)
  (h:wpAny (model prog w) A (eval value env) (fun o s₁=>wpAny (model prog w) A (eval slice env) (fun i s₂=>s₂.TypeIs o T∧wpAny (model prog w) A (getItem o i) Q E s₂) E s₁) E s) :
  wpAny (model prog w) A (eval (.Subscript value slice pos) env) Q E s:=by
 refine Subscript_ (wpAny_mono h (fun o s₁ h₁=>wpAny_mono h₁ (fun i s₂ h₂=>?_) fun _ _ x=>x) fun _ _ x=>x)
 obtain ⟨hT,h₂⟩:=h₂
 unfold subscriptTail
 refine xAd ?_
 rw [getitemInPython_of_ne hT.not_modules]
 refine xAd (wpAny_specialOf hT hl ?_)
 have fin:wpAny (model prog w) A (subscripted slice false o i) (fun r s₃=>wpAny (model prog w) A (letTemporaryGo value o r >>= fun _=>pure r) Q E s₃) E s₂:=by
  rw [hs o i]
  exact wpAny_operating (wpAny_mono h₂ (fun r s₃ h₃=>xAd (wpAny_letTemporaryGo (xAe h₃))) fun _ _ x=>x)
 first
  | exact xAe (xAd fin)
  | exact xAd (xAe (xAd fin))
  | exact xAd fin
theorem jw {X:Cx} {pins:List (Addr×Obj)} {σ:St} {H:Hp} {s:Shared} {a:Addr} {y:V} {o:Option V} (I:Inv X pins σ H s) (g:DGet H a y o):s.TypeIs (.ref a) "dict":=by
 rcases g with ⟨kvs,k,e,_,_⟩ | ⟨kvs,k,b,e,_,_,_⟩
 ·obtain ⟨_,_,vs,_,dd⟩:=pd I.hok e
  exact dd.typeIs
 ·obtain ⟨_,_,xs,_,dd⟩:=o9 I.hok e
  exact dd.typeIs
def tDGet (td ty:TE):TE:=fun σ H Q=>td σ H fun x H1=>ty σ H1 fun y H2=>∃ a v,x = .ref a∧DGet H2 a y (some v)∧Q v H2
def sDPut (td ty tv:TE):TS:=fun D σ H=>tv σ H fun v H1=>td σ H1 fun x H2=>ty σ H2 fun y H3=>∃ a H4,x = .ref a∧DPut H3 a y v H4∧D.nx σ H4
section
variable {X:Cx} {o i e value:Expr} {pos pos' tpos:Pos} {td ty tv:TE}
theorem qI (hu:X.A.units+1<cLine) (ho:PE X o td) (hi:PE X i ty) (hs:NoSl i):PE X (.Subscript o i pos) (tDGet td ty):=by
 intro pins s σ H Q I h
 refine pL PySem.F.slot_dict_getitem.lookup hs (thn (ho pins s σ H _ I h) fun u s1 ⟨x,H1,I1,rx,q1⟩=>thn (hi pins s1 σ H1 _ I1 q1) fun iv s2 ⟨y,H2,I2,ry,a,v,ex,g,q2⟩=>?_)
 subst ex
 obtain rfl:u=Value.ref a:=rx
 exact ⟨jw I2 g,mI hu I2 g ry fun w' s3 I3 rw'=>⟨v,H2,I3,rw',q2⟩⟩
theorem qt (hu:X.A.units+1<cLine) (ho:PE X o td) (hi:PE X i ty) (hv:PE X value tv) (hs:swapsWith value (some (.Subscript o i pos')) pos.line X.env=pure false) :
  PS X (.Assign [.Subscript o i pos'] value pos) (sDPut td ty tv):=by
 intro pins s σ H D I h
 refine wpAny_Assign_Subscript (thn (hv pins s σ H _ I h) fun r s1 ⟨v,H1,I1,rv,q1⟩=>thn (ho pins s1 σ H1 _ I1 q1) fun u s2 ⟨x,H2,I2,rx,q2⟩=>thn (hi pins s2 σ H2 _ I2 q2) fun iv s3 ⟨y,H3,I3,ry,a,H4,ex,g,q3⟩=>?_) hs
 subst ex
 obtain rfl:u=Value.ref a:=rx
 exact mH hu I3 g ry rv fun s4 I4=>⟨σ,H4,I4,q3⟩
end
theorem pe {P:Program} {w:World} {H:Hp} (h:Heap) (hb:sysModules<h.objs.size):ObjOk P w H (h.push { cls:=.type "dict",data:=.dict #[] }) h.objs.size (.dK []) :=
 ⟨xBn _,beq_eq_false_iff_ne.mpr (Ne.symm (xA0 hb)),[],.nil,Heap.DictOf.new h⟩
def tPairs:List (TE×TE)→St→Hp→(List (V×V)→Hp→Prop)→Prop
 | [],_,H,Q=>Q [] H
 | (tk,tv)::r,σ,H,Q=>tk σ H fun x H1=>tv σ H1 fun y H2=>tPairs r σ H2 fun ps H3=>Q ((x,y)::ps) H3
abbrev VV:List (V×V)→List (Value×Value)→Prop:=Paired fun p q=>RelV p.1 q.1∧RelV p.2 q.2
def PPs (X:Cx) (pos:Pos) (keys:List (Option Expr)) (values:List Expr) (trs:List (TE×TE)):Prop :=
 ∀ (pins:List (Addr×Obj)) (s:Shared) (σ:St) (H:Hp) (Q:List (V×V)→Hp→Prop),Inv X pins σ H s→tPairs trs σ H Q →
  wpAny (model X.prog X.w) X.A (evalPairs (pairTrees keys values X.env pos)) (fun vs s'=>∃ ps H',Inv X pins σ H' s'∧VV ps vs∧Q ps H') X.xe s
theorem qu {X:Cx} {pos:Pos}:PPs X pos [] [] []:=fun pins s σ H Q I h=>pairTrees_nil_walk ⟨[],H,I,.nil,h⟩
theorem nY {X:Cx} {pos:Pos} {k v:Expr} {ks:List (Option Expr)} {vs:List Expr} {tk tv:TE} {trs:List (TE×TE)} (hk:PE X k tk) (hv:PE X v tv) (hr:PPs X pos ks vs trs) :
  PPs X pos (some k::ks) (v::vs) ((tk,tv)::trs):=fun pins s σ H Q I h =>
 pairTrees_cons_walk (thn (hk pins s σ H _ I h) fun u s1 ⟨x,H1,I1,rx,q1⟩=>thn (hv pins s1 σ H1 _ I1 q1) fun w2 s2 ⟨y,H2,I2,ry,q2⟩ =>
  thn (hr pins s2 σ H2 _ I2 q2) fun ws s3 ⟨ps,H3,I3,rel,q3⟩=>⟨(x,y)::ps,H3,I3,.cons ⟨rx,ry⟩ rel,q3⟩)
def mergeK (kvs more:List (Key×V)):List (Key×V):=more.foldl (fun acc kv=>putK acc kv.1 kv.2) kvs
theorem KV.merge:∀ {more:List (Key×V)} {rs:List (Key×Value)} {kvs:List (Key×V)} {vs:List (Key×Value)},KV more rs→KV kvs vs→KV (mergeK kvs more) (merged vs rs):=by
 intro more rs kvs vs r
 unfold KV at r
 induction r generalizing kvs vs with
 | nil=>intro q;exact q
 | @cons p q ps qs h t ih =>
  intro r0
  have e:KV (putK kvs p.1 p.2) (stored vs q.1 q.2):=by
   have:=r0.put p.1 h.2
   rw [← h.1];exact this
  exact ih e
theorem dX:∀ (more kvs:List (Key×V)),(mergeK kvs more).length≤kvs.length+more.length
 | [],kvs=>by show kvs.length≤kvs.length+0;lia
 | p::r,kvs=>by
  have h1:=dX r (putK kvs p.1 p.2)
  have h2:=dL kvs p.1 p.2
  show (mergeK (putK kvs p.1 p.2) r).length≤_
  rw [xAo];lia
theorem gm {P:Program} {w:World}:∀ {kvs:List (Key×V)} {ws:List (Value×Value)},VV (kvs.map fun kv=>(kV kv.1,kv.2)) ws→∃ rs,Carries (mixKind P w) ws rs∧KV kvs rs
 | [],_,r=>by rw [List.map_nil] at r;cases r;exact ⟨[],True.intro,.nil⟩
 | p::kvs,_,r=>by
  rw [xBs] at r
  cases r with
  | @cons a b as bs h t =>
   obtain ⟨rs,c,q⟩:=gm (P:=P) (w:=w) t
   obtain ⟨b1,b2⟩:=b
   exact ⟨(p.1,b2)::rs,⟨kW h.1,rfl,c⟩,.cons ⟨rfl,h.2⟩ q⟩
def tDisp (trs:List (TE×TE)):TE:=fun σ H Q=>∀ p,H p=none→tPairs trs σ (upd H p (.dK [])) fun ps H2=>H2 p=some (.dK [])∧∃ kvs:List (Key×V),ps=kvs.map (fun kv=>(kV kv.1,kv.2))∧kvs.length≤15∧Q (.ref p) (upd H2 p (.dK (mergeK [] kvs)))
theorem qH {X:Cx} {pos:Pos} {keys:List (Option Expr)} {values:List Expr} {trs:List (TE×TE)} (h:PPs X pos keys values trs) (hall:keys.all (·.isSome)=true) (hl:keys.length=values.length) (h0:keys≠[])
  (h15:keys.length≤15):PE X (.Dict keys values pos) (tDisp trs):=by
 intro pins s σ H Q I q
 have hn:=I.hok.fresh (xAg s.heap.objs.size)
 have I1:=I.laid (a:=s.heap.objs.size) (o:=.dK []) (h':=s.heap.push { cls:=.type "dict",data:=.dict #[] }) (t':=s.toks) (fun _ _ q=>xAf _ q) (xAg _) (pe s.heap I.big)
 refine wpAny_Dict_walk (knd:=mixKind X.prog X.w) hall hl h0 h15 (thn (h pins _ σ _ _ I1 (q _ hn)) fun ws s2 ⟨ps,H2,I2,rel,e,kvs,ep,lk,q2⟩=>?_)
 subst ep
 obtain ⟨rs,c,rk⟩:=gm (P:=X.prog) (w:=X.w) rel
 obtain ⟨z,hd,vs0,r0,dd⟩:=ju I2.hok e
 cases r0
 refine ⟨rs,c,dd,fun h' dd' hs=>⟨.ref s.heap.objs.size,_,?_,rfl,q2⟩⟩
 have hz:(mergeK [] kvs).length≤sizeLine:=by
  have h1:=dX kvs []
  rw [List.length_nil] at h1
  rw [sizeLine_eq];lia
 have he:∃ q,h'.get? s.heap.objs.size=some q:=let ⟨q,_,_,hq,_⟩:=dd';⟨q,hq⟩
 exact iD I2 (by rw [e];exact True.intro) hs he (j8 hz hd (rk.merge .nil) dd')
structure M1 (X:Cx) (o:Expr) (m:Str) (apos:Pos) (e:Expr) (cpos:Pos):Prop where
 base:attributeBase o m X.env (eval o X.env)=eval o X.env
 few:((backTo cpos (starEach [e] X.env)).all (fun x=>!x.1) && (backToKw cpos (keywordEach [] X.env)).all (fun x=>x.1.isSome)
  && decide (([e]:List Expr).length+([]:List Keyword).length+(if ([]:List Keyword).isEmpty then 0 else 1)<30))=true
 line:(apos.endLine == cpos.line)=true
 trees:backTo cpos (starEach [e] X.env)=[(false,eval e X.env)]
end L2
namespace Att
open PySem PySem.W PySem.Calls PyProof.Rows
theorem fA {P:Params} {h:Heap}:∀ (ns:List Int) (vs:List Value),WellAll P h vs (ns.map WData.int)→IntsAre vs ns:=by
 intro ns
 induction ns with
 | nil =>
  intro vs w
  rw [List.map_nil] at w
  cases w
  exact .nil
 | cons n ns ih =>
  intro vs w
  rw [xBs] at w
  cases w with
  | cons a b =>
   cases a
   exact .cons _ _ (ih _ b)
theorem lX {l:OpenLaw} {n:Nat} (hn:l.most=some n) {P:Params} {h:Heap} {args:List WData} {vals:List Value}
  (hpre:l.row.toRowW.claim.pre args=true) (hwl:WellAll P h vals args) :
  ∃ a vs ns,vals=[Value.ref a]∧args=[WData.list (ns.map WData.int)]∧h.get? a=some { cls:=.type "list",data:=.seq vs.toArray }∧IntsAre vs ns∧ns.length≤n:=by
 have hsh:WShape.hasAll [] args [.list .int]=true:=(pre_splitW hpre).1
 have hc:l.pre.holds [] { args:=args }=true:=(pre_splitW hpre).2
 obtain ⟨d,r,rfl,h1,h2⟩:=hasAllW_cons hsh
 obtain rfl:=hasAllW_nil h2
 obtain ⟨xs,rfl,h3⟩:=hasW_list h1
 obtain ⟨ns,rfl⟩:=items_int h3
 have hlen:ns.length≤n:=by
  unfold OpenLaw.pre at hc
  have h4:(WTm.not (.lt (.lit (.int (n:Int))) (.len (.arg 0)))).holds [] { args:=[.list (ns.map .int)] }=true:=by
   have h4:=(holds_andW hc).1
   rw [hn] at h4
   exact h4
  have h5:=condW_of h4 (w_not (w_lt w_lit (w_len_list (w_arg rfl))))
  rw [xAa] at h5
  refine Nat.le_of_not_lt fun q=>?_
  have q':(n:Int)<((ns.length:Nat):Int):=by omega
  first
   | (rw [xBd q'] at h5;exact absurd h5 (by decide))
   | (simp at h5;omega)
 cases hwl with
 | cons w1 w2 =>
  cases w2
  cases w1 with
  | list ho hall=>exact ⟨_,_,ns,rfl,rfl,ho,fA ns _ hall,hlen⟩
theorem ma (l:OpenLaw) (args:List WData):l.row.toRowW.claim.post args (.bool true) args=true :=
 postW_of (r:=l.row.toRowW) (X:=(true == true))
  (show WShape.has [] (.bool true) .bool=true by first | rfl | decide | simp [WShape.has,WShape.arms,WShape.armsAll])
  (show (WTm.eq .res (.lit (.bool true))).value [] { args:=args,res:=some (.bool true),after:=args }=some (.bool (true == true)) from w_eq_bool (w_res rfl) w_lit) rfl
theorem attach_call {l:OpenLaw} {n:Nat} {q:Program} {loose:List Str} {XP:(Str→Option Value)→Heap→Prop} {YP:World→Heap→Prop} {d:DefRec}
  (hn:l.most=some n) (hdf:d.params.defaults=[])
  (call:∀ (w:World) (s₀ s₁:Shared) (mg mb:Str→Option Value) (fa:Addr) (o:Obj) (pm cd doc:Value) (a:Addr) (vs:List Value) (ns:List Int),
   Ground q loose [] XP w s₀ mg mb s₁.heap→YP w s₁.heap →
   s₁.heap.get? fa=some o→o.data = .func (docDef d.name d.params d.body d.scope pm cd doc)→s₁.heap.CodeRec cd d.name→mg d.name=some (.ref fa) →
   s₁.heap.get? a=some { cls:=.type "list",data:=.seq vs.toArray }→IntsAre vs ns→ns.length≤n→s₁.gens=#[] →
   codeAny (model l.prog w) callerA (.call (.ref fa) ⟨[.ref a],[]⟩) (fun r s'=>r = .ok (.ret (.bool true))∧OldK s₁.heap s'.heap∧s'.os=s₁.os∧AllBare s'.gens) s₁) :
  WalkO q loose XP YP l.row.toRowW d [] (fun f vs=>PySem.call f vs):=by
 intro w s₀ s₁ mg mb G Y fa o pm cd doc dV kV ho hd hcd hD hmg hg args vals as hpre hlay hrd hwl hlo
 obtain rfl:dV = .none:=Dflts.none hD hdf
 obtain rfl:kV = .none:=Dflts.noKw hD
 obtain ⟨a,vs,ns,rfl,rfl,hobj,hints,hlen⟩:=lX hn hpre hwl
 refine enter_call (codeAny_mono (call w s₀ s₁ mg mb fa o pm cd doc a vs ns G Y ho (fd_plain hd) hcd hmg hobj hints hlen hg) fun r s' hq=>?_)
 obtain ⟨rfl,h2,h3,h4⟩:=hq
 exact ⟨.inl ⟨.bool true,.bool true,[],rfl,fun _=>rfl,.bool true,ma l _,fun _=>⟨List.Pairwise.nil,fun _ hm=>(nomatch hm)⟩⟩,h2,h3,h4⟩
end Att
namespace L2
open PySem PySem.Spec PyProof.Rows
theorem eT:∀ {vs:List Value} {ns:List Int},IntsAre vs ns→Vals (ns.map V.int) vs
 | _,_,.nil=>.nil
 | _,_,.cons n t h=>.cons ⟨t,rfl⟩ (eT h)
def Only (H:Hp):Prop:=∀ b,H b=none∨∃ o xs,H b=some (.frz o (.lst xs))
theorem oK {P:Program} {w:World} {K:xFr} {mg mb:Str→Option Value} {CX:CXT} {k:Nat} {fa a:Addr} {fd:FuncData} {x:Str} {sp:Sp} {s₁:Shared} {vs:List Value} {ns:List Int}
  (KX:K.In s₁.heap) (hns:s₁.heap.Ns mainGlobals mg) (hb:s₁.heap.Ns builtinsNs mb) (hbb:∀ x:Str,x≠"__name__"→mb x=bootBuiltins x) (hlim:s₁.heap.NoLimit) (hg:s₁.gens=#[])
  (ha:s₁.heap.get? a=some { cls:=.type "list",data:=.seq vs.toArray }) (hi:IntsAre vs ns) (hl:ns.length≤sizeLine) (hr:Room k callerA)
  (F:∀ base:Heap,K.In base→base.Ns mainGlobals mg→FnOk P w K mg base CX k fa fd [x] sp) (hbind:∀ (s:Shared) (u:Value),BindsTo s fd ⟨[u],[]⟩ [(x,u)])
  (hsp:∀ H:Hp,Only H→SqL K H a (ns.map V.int)→sp [.ref a] H (fun v _=>v = .bl true) fun _ _ _=>False)
  (hCX:∀ H e s',CX [] H s₁ (fun _ _ _=>False) e s'→False) :
  codeAny (model P w) callerA (.call (.ref fa) ⟨[.ref a],[]⟩) (fun r s'=>r = .ok (.ret (.bool true))∧OldK s₁.heap s'.heap∧s'.os=s₁.os∧AllBare s'.gens) s₁:=by
 have rv:=eT hi
 have lenV:=hi.length
 -- from an abstract heap in which nothing but the script may be tracked
 have core:∀ H:Hp,Only H→SqL K H a (ns.map V.int)→HOk P w H s₁.heap→(∀ b,H b≠none→b=a)→(H a≠none→K.lookup a=none) →
   codeAny (model P w) callerA (.call (.ref fa) ⟨[.ref a],[]⟩) (fun r s'=>r = .ok (.ret (.bool true))∧OldK s₁.heap s'.heap∧s'.os=s₁.os∧AllBare s'.gens) s₁:=by
  intro H hO hS hok hA hK
  have base_of:∀ {b:Addr} {o:Obj},s₁.heap.get? b=some o→H b=none→(hidT s₁.heap H).get? b=some o:=fun e n=>oR e n
  have noA:∀ {b:Addr} {o:Obj} {es:Array DictEntry} {ep:Nat},s₁.heap.get? b=some o→o.data = .dict es ep→H b=none:=fun {b o es ep} e d=>by
   cases q:H b with
   | none=>rfl
   | some u =>
    have e':b=a:=hA b (by rw [q];simp)
    subst e'
    rw [ha] at e;cases e
    have d':Data.seq vs.toArray _=Data.dict es ep:=d
    cases d'
  have nsK:∀ {b:Addr} {m:Str→Option Value},s₁.heap.Ns b m→(hidT s₁.heap H).Ns b m:=fun {b m} ⟨o,es,ep,e,d,r⟩=>⟨o,es,ep,base_of e (noA e d),d,r⟩
  have hKb:K.In (hidT s₁.heap H):=fun b o e=>base_of (KX b o e) (by
   cases q:H b with
   | none=>rfl
   | some u =>
    have e':b=a:=hA b (by rw [q];simp)
    subst e'
    rw [hK (by rw [q];simp)] at e;cases e)
  have hM:Mod K mg (hidT s₁.heap H):=⟨hKb,nsK hns,⟨mb,nsK hb,hbb⟩,let ⟨mc,h1,h2⟩:=hlim;⟨mc,nsK h1,h2⟩⟩
  have e0:Env0 P w K mg (hidT s₁.heap H) callerA [] s₁ H:=⟨rfl,hM,fun b o e=>qX e,Nat.le_of_eq (mC _ _),trivial,fun b hb=>absurd (show b∈([]:List Addr) from hb) (by simp),hok,.of_eq hg⟩
  refine codeAny_mono ((F _ hKb (nsK hns)).run callerA [] s₁ H ⟨[.ref a],[]⟩ [.ref a] [.ref a] _ _ hr e0 (hbind s₁ (.ref a)) (.cons rfl .nil) (hsp H hO hS)) fun r s' h=>?_
  cases r with
  | error e=>exact (hCX H e s' h).elim
  | ok fl =>
   cases fl with
   | next=>exact False.elim h
   | brk=>exact False.elim h
   | cont=>exact False.elim h
   | ret u =>
    obtain ⟨v,H',os,bare,un,hok',r',q⟩:=h
    have q':v = .bl true:=q
    subst q'
    obtain rfl:u=Value.bool true:=r'
    refine ⟨rfl,OldK.of_keep fun b o e=>?_,os,bare⟩
    cases q:H b with
    | none=>exact un.keep b o e q (by intro z;exact absurd (show b∈([]:List Addr) from z) (by simp)) (by simp)
    | some u =>
     rcases hO b with z | ⟨ob,xs,z⟩
     ·rw [q] at z;cases z
     ·have z2:=un.frzs b ob _ z
      obtain ⟨e1,_⟩:=hok b _ z
      obtain ⟨e2,_⟩:=hok' b _ z2
      rw [e] at e1;cases e1
      exact e2
 cases hk:K.lookup a with
 | some o =>
  -- the script is one of the module's own objects
  have e:=KX a o hk
  rw [ha] at e
  cases e
  refine core (fun _=>none) (fun _=>.inl rfl) (.inr ⟨_,vs.toArray,_,hk,rfl,rfl,rfl,by rw [xAp,lenV];exact hl,by simpa using rv⟩) (fun b u z=>by have z':(none:Option HO)=some u:=z;cases z') (fun b z=>absurd rfl z) fun z=>absurd rfl z
 | none =>
  refine core (fun b=>if b=a then some (.frz { cls:=.type "list",data:=.seq vs.toArray } (.lst (ns.map V.int))) else none) (fun b=>?_) (.inl (.inr ⟨{ cls:=.type "list",data:=.seq vs.toArray },xCg rfl⟩)) (fun b u z=>?_) (fun b z=>?_) fun _=>hk
  ·by_cases hb:b=a
   ·exact .inr ⟨_,_,xCg hb⟩
   ·exact .inl (xCf hb)
  ·by_cases hb:b=a
   ·have z':=(xCg hb).symm.trans z
    cases z'
    subst hb
    exact ⟨ha,by rw [xAa];exact hl,vs,_,rv,ha⟩
   ·have z':=(xCf hb).symm.trans z
    cases z'
  ·by_cases hb:b=a
   ·exact hb
   ·exact absurd (xCf hb) z
end L2
namespace L2
open PySem PySem.Spec PyProof.Rows
theorem walk_of {l:PySem.W.OpenLaw} {n k:Nat} {q:Program} {loose:List Str} {XP:(Str→Option Value)→Heap→Prop} {YP:World→Heap→Prop} {d:DefRec} {K:Params→xFr} {CX:World→CXT} {sp:World→Sp} {x:Str}
  (hn:l.most=some n) (hn2:n≤sizeLine) (hdf:d.params.defaults=[]) (hr:Room k callerA)
  (hY:∀ (w:World) (h:Heap),YP w h→(K w.params).In h)
  (F:∀ (w:World) (mg:Str→Option Value) (fa:Addr) (h:Heap),(K w.params).In h→h.Ns mainGlobals mg→mg d.name=some (.ref fa) →
   ∃ fd:FuncData,(∀ (s:Shared) (u:Value),BindsTo s fd ⟨[u],[]⟩ [(x,u)]) ∧
    ∀ base:Heap,(K w.params).In base→base.Ns mainGlobals mg→FnOk l.prog w (K w.params) mg base (CX w) k fa fd [x] (sp w))
  (hsp:∀ (w:World) (H:Hp) (a:Addr) (ns:List Int),ns.length≤n→Only H→SqL (K w.params) H a (ns.map V.int)→sp w [.ref a] H (fun v _=>v = .bl true) fun _ _ _=>False)
  (hCX:∀ (w:World) (H:Hp) (s:Shared) (e:Value) (s':Shared),CX w [] H s (fun _ _ _=>False) e s'→False) :
  PySem.W.WalkO q loose XP YP l.row.toRowW d [] (fun f vs=>PySem.call f vs):=by
 refine Att.attach_call hn hdf fun w s₀ s₁ mg mb fa o pm cd doc a vs ns G Y ho hd hcd hmg hobj hints hlen hg=>?_
 have KX:=hY w _ Y
 obtain ⟨fd,hb,hF⟩:=F w mg fa _ KX G.T.g hmg
 exact oK KX G.T.g G.T.b G.T.builtins G.T.nolimit hg hobj hints (Nat.le_trans hlen hn2) hr hF hb (fun H hO hS=>hsp w H a ns hlen hO hS) fun H e s'=>hCX w H s₁ e s'
end L2
namespace L2
open PySem PySem.Spec PyProof.Rows
def inClass (s:Stmt) (j:Nat):Stmt:=match s with
 | .ClassDef _ _ _ body _ _ _ _ _ _ _=>body.getD j (.Pass ⟨0,0,0,0⟩)
 | _=>.Pass ⟨0,0,0,0⟩
def defArgs (s:Stmt):Arguments:=match s with
 | .FunctionDef _ a _ _ _ _ _ _ _ _=>a
 | _=>{ posonlyargs:=[],args:=[],vararg:=none,kwonlyargs:=[],kw_defaults:=[],kwarg:=none,defaults:=[] }
def defBody (s:Stmt):List Stmt:=match s with
 | .FunctionDef _ _ b _ _ _ _ _ _ _=>b
 | _=>[]
def defScope (s:Stmt):Scope:=match s with
 | .FunctionDef _ _ _ _ _ _ sc _ _ _=>sc
 | _=>{ kind:=.function,names:=[],isGenerator:=false,isCoroutine:=false }
abbrev CX0:CXT:=fun _ _ _ _ _ _=>False
abbrev E0:XK:=fun _ _ _=>False
theorem pass0 {X:Cx}:Passes CX0 X E0:=fun _ _ _ _ _ _ _ h=>h.elim
structure Fun (K:xFr) (x qual:Str) (st:Stmt) (f:Addr) (fd:FuncData):Prop where
 ex:∃ (oc:Value) (od:Option Addr) (kV doc pm:Value) (an:Option Addr) (cdv ct:Value) (osl:Array (Option Value)),
  fd=PySem.W.fnOf x qual (defArgs st) (defBody st) (defScope st) .none kV doc pm an cdv ct∧K.lookup f=some ⟨oc,od,.func fd,osl⟩∧PySem.W.codeIn K cdv qual=true
 kp:PySem.W.keepIn K (.ref f)=true
section
variable {P:Program} {w:World} {K:xFr} {mg:Str→Option Value} {base:Heap}
theorem Fun.ok {x qual:Str} {st:Stmt} {f:Addr} {fd:FuncData} {N ps:List Str} {k:Nat} {sp:Sp} (F:Fun K x qual st f fd) (S:FnScope N ps (defScope st)) (len:∀ vs H Q E,sp vs H Q E→vs.length=ps.length)
  (hbody:∀ (cdv:Value) (A:Around) (outer:List Env) (s:Shared) (H:Hp) (vs:List V) (Q:VK) (E:XK),Room k (A.deeper (envOfC qual (defScope st) s.heap.objs.size f cdv))→sp vs H Q E →
   ∃ t,PSs (cxOf CX0 P w K mg base N qual (defScope st) f cdv A outer s H E).nox (defBody st) t∧t { nx:=fun _ H'=>Q .non H',rt:=Q } (start N vs) H):FnOk P w K mg base CX0 (k+1) f fd ps sp:=by
 obtain ⟨oc,od,kV,doc,pm,an,cdv,ct,osl,rfl,lk,hcd⟩:=F.ex
 refine wu lk hcd S len fun A outer s H vs Q E hr hsp=>?_
 obtain ⟨t,h,q⟩:=hbody cdv A outer s H vs Q E hr hsp
 exact ⟨t,h.nox,q⟩
theorem Fun.binds {x qual:Str} {st:Stmt} {f:Addr} {fd:FuncData} {ps:List Str} (F:Fun K x qual st f fd)
  (h:∀ (kV doc pm:Value) (an:Option Addr) (cdv ct:Value) (us:List Value),us.length=ps.length→bindArgs (PySem.W.fnOf x qual (defArgs st) (defBody st) (defScope st) .none kV doc pm an cdv ct) ⟨us,[]⟩=pure (ps.zip us)):Binds K fd ps []:=by
 obtain ⟨oc,od,kV,doc,pm,an,cdv,ct,osl,rfl,lk,hcd⟩:=F.ex
 exact .all (h kV doc pm an cdv ct)
theorem ar {x qual:Str} {st:Stmt} {f:Addr} {oc:Value} {od an:Option Addr} {osl:Array (Option Value)} {kV doc pm cdv ct:Value} (l:K.lookup f=some ⟨oc,od,.func (PySem.W.fnOf x qual (defArgs st) (defBody st) (defScope st) .none kV doc pm an cdv ct),osl⟩)
  (c:PySem.W.codeIn K cdv qual=true) (k:PySem.W.keepIn K (.ref f)=true):Fun K x qual st f (PySem.W.fnOf x qual (defArgs st) (defBody st) (defScope st) .none kV doc pm an cdv ct):=⟨⟨oc,od,kV,doc,pm,an,cdv,ct,osl,rfl,l,c⟩,k⟩
end
theorem gf {A:Around} {k:Nat} (hr:Room k A):A.units+1<cLine:=Nat.lt_of_le_of_lt (Nat.add_le_add_left (by decide:1≤64) _) hr.units
theorem small1000 {n:Nat} (h:n≤1000):n<sizeLine:=Nat.lt_of_le_of_lt h (by decide)
def Same (H H':Hp):Prop:=∀ b o,H b=some o→H' b=some o
theorem Same.refl (H:Hp):Same H H:=fun _ _ h=>h
theorem Same.trans {H H1 H2:Hp} (a:Same H H1) (b:Same H1 H2):Same H H2:=fun c o h=>b c o (a c o h)
theorem Same.free {H H':Hp} (e:Same H H') {l:Addr} (h:H' l=Option.none):H l=Option.none:=by
 cases q:H l with
 | none=>rfl
 | some o =>
  rw [e l o q] at h
  cases h
end L2
namespace L2
open PySem PySem.Spec PyProof.Rows
def cxComp (X:Cx) (N:List Str) (scope:Scope) (cl:List (Str×Addr)) (C:Addr) (s:Shared) (H:Hp) (fp:List Addr):Cx where
 prog:=X.prog
 w:=X.w
 K:=X.K
 mg:=X.mg
 base:=X.base
 A:=X.A
 N:=N
 s₀:=s
 H₀:=H
 env:=compEnvC scope cl C X.env
 outer:=X.stack
 stack:=X.stack
 ex:=fp
 fn:=fun _=>false
 calm:=X.calm
 pn:=[]
 xe:=fun _ _=>False
theorem fe {env:Env} {scope:Scope} {y:Str} {k:NameKind} (h:(relabel scope env).names.lookup y=some k):∃ k0,(y,k0)∈scope.names∧(k=k0∨(k0 = .free∧k = .cell)):=by
 unfold relabel at h
 dsimp only at h
 revert h
 generalize scope.names=l
 intro h
 induction l with
 | nil=>simp at h
 | cons a r ih =>
  obtain ⟨n,k1⟩:=a
  rw [xBs] at h
  by_cases hc:(k1 == NameKind.free && env.scope.kind == .function && env.kindOf n == some .cell)=true
  ·dsimp only at h
   rw [xCg hc] at h
   rw [List.lookup_cons] at h
   by_cases e:y == n
   ·rw [e] at h
    have e':y=n:=eq_of_beq e
    subst e'
    have hk:k1 = .free:=by
     rw [Bool.and_eq_true,Bool.and_eq_true] at hc
     exact eq_of_beq hc.1.1
    subst hk
    exact ⟨.free,xAr,.inr ⟨rfl,(xB3 h).symm⟩⟩
   ·rw [Bool.eq_false_iff.mpr e] at h
    obtain ⟨k0,m,z⟩:=ih h
    exact ⟨k0,xAs _ m,z⟩
  ·dsimp only at h
   rw [xCf hc] at h
   rw [List.lookup_cons] at h
   by_cases e:y == n
   ·rw [e] at h
    have e':y=n:=eq_of_beq e
    subst e'
    exact ⟨k1,xAr,.inl (xB3 h).symm⟩
   ·rw [Bool.eq_false_iff.mpr e] at h
    obtain ⟨k0,m,z⟩:=ih h
    exact ⟨k0,xAs _ m,z⟩
theorem dW {env:Env} {scope:Scope} {y:Str} (h:scope.names.lookup y=some .free):(relabel scope env).names.lookup y=some .cell∨(relabel scope env).names.lookup y=some .free:=by
 unfold relabel
 dsimp only
 revert h
 generalize scope.names=l
 intro h
 induction l with
 | nil=>simp at h
 | cons a r ih =>
  obtain ⟨n,k1⟩:=a
  rw [xBs]
  rw [List.lookup_cons] at h
  by_cases hc:(k1 == NameKind.free && env.scope.kind == .function && env.kindOf n == some .cell)=true
  ·dsimp only
   rw [xCg hc]
   rw [List.lookup_cons]
   by_cases e:y == n
   ·rw [e];exact .inl rfl
   ·rw [Bool.eq_false_iff.mpr e] at h ⊢
    exact ih h
  ·dsimp only
   rw [xCf hc]
   rw [List.lookup_cons]
   by_cases e:y == n
   ·rw [e] at h ⊢
    exact .inr h
   ·rw [Bool.eq_false_iff.mpr e] at h ⊢
    exact ih h
def capV (σ:St) (fr:List Nat):St:=fr.map fun k=>(σ[k]?).join
end L2
namespace L2
open PySem PySem.Spec PyProof.Rows
end L2
namespace L2
open PySem PySem.Spec PyProof.Rows
section
variable {X:Cx}
theorem mN:CallR X (.builtin "isinstance") (fun xs H Q=>∃ x n t b,xs=[x,V.ty n]∧TyOf X.K H x t∧PySem.W.kitOne X.K t (.type n)=some b∧Q (.bl b) H):=by
 intro pins s σ H xs us Q I r h
 obtain ⟨x,n,t,b,rfl,ty,e,q⟩:=h
 obtain ⟨u,u2,rfl,ru,ru2⟩:=vals2 r
 cases (show u2=Value.type n from ru2)
 exact my I ru ty e fun tk=>⟨.bl b,H,I.tok tk,rfl,q⟩
theorem cT:bootBuiltins "isinstance"=some (.builtin "isinstance"):=by decide +kernel
theorem oz:OpR X (binaryOp .FloorDiv) (rI (fun i j=>j≠0∧Builtin.divisionGoesByPylong i j=false) fun i j=>.int (i.fdiv j)):=opI fun _ _ _ _ _ _ _ hc q=>floordiv_int hc.1 q (.inl hc.2)
theorem oY {x:V} (h:flatV x=true):eqV x x=true:=by
 cases x <;> first | rfl | (exact absurd (show false=true from h) (by decide)) | (simp [eqV])
end
theorem small {n:Nat} (h:n≤1000):n≤sizeLine:=Nat.le_of_lt (small1000 h)
theorem aw {H:Hp} {p:Addr} (h:H p=none) (o:HO):Same H (upd H p o):=fun b u q=>by rw [am (aH q h)];exact q
end L2
namespace L2
open PySem PySem.Spec PyProof.Rows
theorem cV {xs:List V} {us:List Value} (r:Vals xs us) {j:Nat} (hj:j<us.toArray.size):∃ x,xs[j]?=some x∧RelV x us.toArray[j]:=by
 rw [xAp] at hj
 have jx:j<xs.length:=by rw [r.length];exact hj
 obtain ⟨u,e,q⟩:=r.get (xAk jx)
 refine ⟨xs[j],xAk jx,?_⟩
 rw [List.getElem_toArray]
 have:us[j]=u:=(xAq.mp e).2
 rw [this]
 exact q
theorem pC {α:Type} {xs:List α} {i:Int} (h0:0≤i) (h:i<xs.length):∃ c,atI xs i=some c∧xs[i.toNat]?=some c:=by
 obtain ⟨j,rfl⟩:=Int.eq_ofNat_of_zero_le h0
 have hk:j<xs.length:=by lia
 exact ⟨xs[j],bJ (xAk hk),by rw [Int.toNat_natCast];exact xAk hk⟩
end L2
namespace L2
open PySem PySem.Spec PyProof.Rows
end L2
namespace L2
open PySem PySem.Spec PyProof.Rows PySem.Builtin PySem.Builtin.ObjectAttr
end L2
namespace L2
open PySem PySem.Spec PyProof.Rows PySem.Builtin PySem.Builtin.ObjectAttr
end L2
namespace L2
open PySem PySem.Spec PyProof.Rows PySem.Builtin PySem.Builtin.ObjectAttr
end L2
namespace L2
open PySem PySem.Spec PyProof.Rows PySem.Builtin PySem.Builtin.ObjectAttr
theorem ObjOk.there {P:Program} {w:World} {H:Hp} {h:Heap} {a:Addr} {o:HO} (x:ObjOk P w H h a o):∃ u,h.get? a=some u:=by
 cases o with
 | lst xs=>obtain ⟨_,_,_,_,e⟩:=x;exact ⟨_,e⟩
 | tup xs=>obtain ⟨_,_,_,ob,e,_⟩:=x;exact ⟨_,e⟩
 | dK kvs=>obtain ⟨_,_,_,_,o,_,_,e,_⟩:=x;exact ⟨_,e⟩
 | dT kvs=>obtain ⟨_,_,_,_,o,_,_,e,_⟩:=x;exact ⟨_,e⟩
 | set S n=>obtain ⟨o,_,_,_,e,_⟩:=x;exact ⟨_,e⟩
 | ins C dx fs=>obtain ⟨_,_,_,e,_⟩:=x;exact ⟨_,e⟩
 | own y=>obtain ⟨_,e⟩:=x;exact ⟨_,e⟩
 | xd fs=>obtain ⟨_,⟨_,_,_,e,_⟩,_⟩:=x;exact ⟨_,e⟩
 | rng lo hi=>obtain ⟨_,_,_,e⟩:=x;exact ⟨_,e⟩
 | frz ob u=>obtain ⟨e,_⟩:=x;exact ⟨_,e⟩
 | tbl ps=>exact ⟨_,(show h.get? a=some _ from x)⟩
 | met f y=>exact ⟨_,(show h.get? a=some _ from x)⟩
 | ext φ=>obtain ⟨_,e,_⟩:=x;exact e
section
variable {X:Cx} {pins:List (Addr×Obj)} {σ:St} {H:Hp} {s:Shared} {h':Heap}
theorem Inv.laidN {a:Addr} {o:HO} {t':Nat} (I:Inv X pins σ H s) (k:∀ b u,s.heap.get? b=some u→h'.get? b=some u) (hf:s.heap.get? a=none) (new:ObjOk X.prog X.w (upd H a o) h' a o) :
  H a=none∧Inv X pins σ (upd H a o) { s with heap:=h',toks:=t' }:=by
 have hn:H a=none:=by
  cases q:H a with
  | none=>rfl
  | some u =>
   obtain ⟨v,e⟩:=(I.hok a u q).there
   rw [hf] at e
   cases e
 refine ⟨hn,I.un ⟨fun b u q _ _ _=>k b u q,fun b u q _ _ _=>⟨u.slots,k b u q⟩,fun b u q n _=>?_,fun b u q _=>⟨u,k b u q⟩,fun b xs q=>?_,fun b u xs q=>?_,fun b ps q=>⟨#[],?_⟩⟩ fun b u e=>?_⟩
 ·rw [am (fun z=>by rw [z,hf] at q;cases q)]
  exact n
 ·rw [am (aH q hn)];exact q
 ·rw [am (aH q hn)];exact q
 ·rw [am (aH q hn),q,Array.append_empty]
 ·by_cases hb:b=a
  ·subst hb;rw [ah] at e;cases e;exact new
  ·rw [am hb] at e
   exact (I.hok b u e).stay (fun c v _ q=>k c v q) (fun c q=>by rw [am (aH q hn)];exact q) fun c xs q=>by rw [am (aH q hn)];exact q
end
mutual
inductive Rep (H:Hp):V→PyData→Prop
 | non:Rep H .non .none
 | bl (b:Bool):Rep H (.bl b) (.bool b)
 | int (i:Int):Rep H (.int i) (.int i)
 | str (x:Str):Rep H (.str x) (.str x)
 | lst {a:Addr} {xs:List V} {ds:List PyData}:H a=some (.lst xs)→Reps H xs ds→Rep H (.ref a) (.list ds)
 | tup {a:Addr} {xs:List V} {ds:List PyData}:H a=some (.tup xs)→Reps H xs ds→Rep H (.ref a) (.tuple ds)
inductive Reps (H:Hp):List V→List PyData→Prop
 | nil:Reps H [] []
 | cons {x:V} {xs:List V} {d:PyData} {ds:List PyData}:Rep H x d→Reps H xs ds→Reps H (x::xs) (d::ds)
end
mutual
theorem Rep.reads {P:Program} {w:World} {H:Hp} {h:Heap} (hok:HOk P w H h):∀ {v:V} {d:PyData} {u:Value},Rep H v d→RelV v u→∃ as,Reads h u d as
 | _,_,_,.non,r=>by cases r;exact ⟨_,.none⟩
 | _,_,_,.bl b,r=>by cases r;exact ⟨_,.bool b⟩
 | _,_,_,.int i,r=>by obtain ⟨t,rfl⟩:=r;exact ⟨_,.int i t⟩
 | _,_,_,.str x,r=>by obtain ⟨t,rfl⟩:=r;exact ⟨_,.str x t⟩
 | _,_,_,.lst (a:=a) (xs:=xs) e q,r=>by
  cases r
  obtain ⟨_,its,n,rv,g⟩:=(show ObjOk P w H h a (.lst xs) from hok a _ e)
  obtain ⟨as,z⟩:=Reps.reads hok q rv
  exact ⟨_,.list g rfl rfl z⟩
 | _,_,_,.tup (a:=a) (xs:=xs) e q,r=>by
  cases r
  obtain ⟨_,its,rv,ob,g,c,n,dd⟩:=(show ObjOk P w H h a (.tup xs) from hok a _ e)
  obtain ⟨as,z⟩:=Reps.reads hok q rv
  exact ⟨_,.tuple g c dd z⟩
theorem Reps.reads {P:Program} {w:World} {H:Hp} {h:Heap} (hok:HOk P w H h):∀ {vs:List V} {ds:List PyData} {us:List Value},Reps H vs ds→Vals vs us→∃ as,ReadsAll h us ds as
 | _,_,_,.nil,.nil=>⟨_,.nil⟩
 | _,_,_,.cons a b,.cons r t=>by
  obtain ⟨as,z⟩:=Rep.reads hok a r
  obtain ⟨bs,y⟩:=Reps.reads hok b t
  exact ⟨_,.cons z y⟩
end
section
variable {X:Cx}
theorem mK {k:Nat} (hr:Room k X.A):CallR X (.builtin "repr") (fun xs H Q=>∃ a d,xs=[.ref a]∧Rep H (.ref a) d∧d.showable=true∧d.hasDict=false∧d.depth≤60∧d.shown.length≤sizeLine∧Q (.str d.shown) H):=by
 intro pins s σ H xs us Q I r h
 obtain ⟨a,d,rfl,rp,hs,hd,dp,hz,q⟩:=h
 cases r with
 | cons r rr =>
  cases rr
  rename_i u
  obtain rfl:u=Value.ref a:=r
  obtain ⟨as,rd⟩:=rp.reads I.hok (show RelV (.ref a) (.ref a) from rfl)
  exact repr_of_reads' rd hs (PyData.noDict_hsm hd) hr.gd (by have:=hr.units;lia) (fun _ _ e=>e) (fun h' u tk hk=>⟨.str d.shown,H,I.kept (t':=tk) hk,⟨u,rfl⟩,q⟩) hz
theorem gN:bootBuiltins "repr"=some (.builtin "repr"):=by decide +kernel
end
end L2
namespace L2
open PySem PySem.Spec PyProof.Rows PySem.Builtin PySem.Builtin.ObjectAttr
end L2
namespace L2
open PySem PySem.Spec PyProof.Rows PySem.Builtin PySem.Builtin.ObjectAttr
end L2
namespace L2
open PySem PySem.Spec PyProof.Rows PySem.Builtin PySem.Builtin.ObjectAttr
end L2
namespace L2
open PySem PySem.Spec PyProof.Rows PySem.Builtin PySem.Builtin.ObjectAttr
end L2
namespace L2
open PySem PySem.Spec PyProof.Rows
inductive Al (H:Hp):Nat→V→V→Prop where
 | flat {n:Nat} {x:V}:flatV x=true→Al H n x x
 | same {n:Nat} {a:Addr}:Al H n (.ref a) (.ref a)
 | tup {n:Nat} {a b:Addr} {xs ys:List V}:H a=some (.tup xs)→H b=some (.tup ys)→xs.length=ys.length→(∀ (j:Nat) (x y:V),xs[j]?=some x→ys[j]?=some y→Al H n x y)→Al H (n+1) (.ref a) (.ref b)
 | lst {n:Nat} {a b:Addr} {xs ys:List V}:H a=some (.lst xs)→H b=some (.lst ys)→xs.length=ys.length→(∀ (j:Nat) (x y:V),xs[j]?=some x→ys[j]?=some y→Al H n x y)→Al H (n+1) (.ref a) (.ref b)
theorem lL {P:Program} {w:World} {H:Hp} {s:Shared} (hok:HOk P w H s.heap) {n:Nat} {x y:V} (h:Al H n x y):∀ {A:Around} {u v:Value},RelV x u→RelV y v→A.units+n<cLine→SeqAt.EqAt A s u v true:=by
 induction h with
 | @flat n x f =>
  intro A u v r1 r2 _
  have:=o0 (A:=A) (s:=s) r1 r2 f f
  rw [oY f] at this
  exact this
 | @same n a =>
  intro A u v r1 r2 _
  cases (show u=Value.ref a from r1)
  cases (show v=Value.ref a from r2)
  exact SeqAt.EqAt.same _
 | @tup n a b xs ys ea eb el _ ih =>
  intro A u v r1 r2 hu
  cases (show u=Value.ref a from r1)
  cases (show v=Value.ref b from r2)
  by_cases hab:a=b
  ·subst hab
   exact SeqAt.EqAt.same _
  ·obtain ⟨_,its,q1,t1⟩:=(show ObjOk P w H s.heap a (.tup xs) from hok a _ ea)
   obtain ⟨_,its2,q2,t2⟩:=(show ObjOk P w H s.heap b (.tup ys) from hok b _ eb)
   have he:∀ j (h1:j<its.toArray.size) (h2:j<its2.toArray.size),SeqAt.EqAt A.in1 s its.toArray[j] its2.toArray[j] ((fun _=>true) j):=fun j j1 j2=>by
    obtain ⟨x1,e1,g1⟩:=cV q1 j1
    obtain ⟨y1,e2,g2⟩:=cV q2 j2
    exact ih j x1 y1 e1 e2 g1 g2 (by show A.units+1+n<cLine;lia)
   refine SeqAt.EqAt.of_refs hab ?_
   have:=SeqAt.RcAt.tuples (e:=fun _=>true) t1 t2 (by lia) he
   have ev:((List.range (min its.toArray.size its2.toArray.size)).all (fun _=>true) && its.toArray.size == its2.toArray.size)=true:=by
    rw [xAp,xAp,← q1.length,← q2.length,el]
    simp
   rw [ev] at this
   exact this
 | @lst n a b xs ys ea eb el _ ih =>
  intro A u v r1 r2 hu
  cases (show u=Value.ref a from r1)
  cases (show v=Value.ref b from r2)
  by_cases hab:a=b
  ·subst hab
   exact SeqAt.EqAt.same _
  ·obtain ⟨_,its,n1,q1,t1⟩:=(show ObjOk P w H s.heap a (.lst xs) from hok a _ ea)
   obtain ⟨_,its2,n2,q2,t2⟩:=(show ObjOk P w H s.heap b (.lst ys) from hok b _ eb)
   have he:∀ j (h1:j<its.toArray.size) (h2:j<its2.toArray.size),SeqAt.EqAt A.in1 s its.toArray[j] its2.toArray[j] ((fun _=>true) j):=fun j j1 j2=>by
    obtain ⟨x1,e1,g1⟩:=cV q1 j1
    obtain ⟨y1,e2,g2⟩:=cV q2 j2
    exact ih j x1 y1 e1 e2 g1 g2 (by show A.units+1+n<cLine;lia)
   refine SeqAt.EqAt.of_refs hab ?_
   have es:its.toArray.size=its2.toArray.size:=by rw [xAp,xAp,← q1.length,← q2.length,el]
   have:=SeqAt.RcAt.lists (e:=fun _=>true) ⟨_,t1,rfl,_,rfl⟩ ⟨_,t2,rfl,_,rfl⟩ es (by lia) he
   have ev:(List.range its.toArray.size).all (fun _=>true)=true:=List.all_eq_true.mpr fun _ _=>rfl
   rw [ev] at this
   exact this
section
variable {X:Cx}
def rAl (b:Bool):R2:=fun x y H Q=>∃ p q xs ys n,x = .ref p∧y = .ref q∧H p=some (.tup xs)∧H q=some (.tup ys)∧xs.length=ys.length∧n≤30∧(∀ (j:Nat) (x y:V),xs[j]?=some x→ys[j]?=some y→Al H n x y)∧Q (.bl b) H
theorem qR (hu:X.A.units+40<cLine):OpR X (compareOp .NotEq) (rAl false):=by
 intro pins s σ H x y v u Q I rx ry h
 obtain ⟨a,b,xs,ys,n,rfl,rfl,ea,eb,el,hn,al,q⟩:=h
 cases (show v=Value.ref a from rx)
 cases (show u=Value.ref b from ry)
 obtain ⟨_,its,q1,t1⟩:=(show ObjOk X.prog X.w H s.heap a (.tup xs) from I.hok a _ ea)
 obtain ⟨_,its2,q2,t2⟩:=(show ObjOk X.prog X.w H s.heap b (.tup ys) from I.hok b _ eb)
 have he:∀ j (h1:j<its.toArray.size) (h2:j<its2.toArray.size),SeqAt.EqAt X.A.in1 s its.toArray[j] its2.toArray[j] ((fun _=>true) j):=fun j j1 j2=>by
  obtain ⟨x1,e1,g1⟩:=cV q1 j1
  obtain ⟨y1,e2,g2⟩:=cV q2 j2
  exact lL I.hok (al j x1 y1 e1 e2) g1 g2 (by show X.A.units+1+n<cLine;lia)
 refine (SeqAt.RcNeAt.tuples (e:=fun _=>true) t1 t2 (by lia) he) X.prog X.w X.xe _ ?_
 refine ax I q ?_
 rw [xAp,xAp,← q1.length,← q2.length,el]
 simp
theorem qU (hu:X.A.units+40<cLine):OpR X (compareOp .Eq) (rAl true):=by
 intro pins s σ H x y v u Q I rx ry h
 obtain ⟨a,b,xs,ys,n,rfl,rfl,ea,eb,el,hn,al,q⟩:=h
 cases (show v=Value.ref a from rx)
 cases (show u=Value.ref b from ry)
 obtain ⟨_,its,q1,t1⟩:=(show ObjOk X.prog X.w H s.heap a (.tup xs) from I.hok a _ ea)
 obtain ⟨_,its2,q2,t2⟩:=(show ObjOk X.prog X.w H s.heap b (.tup ys) from I.hok b _ eb)
 have he:∀ j (h1:j<its.toArray.size) (h2:j<its2.toArray.size),SeqAt.EqAt X.A.in1 s its.toArray[j] its2.toArray[j] ((fun _=>true) j):=fun j j1 j2=>by
  obtain ⟨x1,e1,g1⟩:=cV q1 j1
  obtain ⟨y1,e2,g2⟩:=cV q2 j2
  exact lL I.hok (al j x1 y1 e1 e2) g1 g2 (by show X.A.units+1+n<cLine;lia)
 refine SeqAt.eq_tupleAt (e:=fun _=>true) t1 t2 (by lia) he ?_
 refine ax I q ?_
 rw [xAp,xAp,← q1.length,← q2.length,el]
 simp
end
def Kept (fp:List Addr) (H H':Hp):Prop:=∀ b o,H b=some o→b ∉ fp→H' b=some o
section
variable {fp fq:List Addr} {H H1 H2:Hp}
theorem Kept.of (s:Same H H1):Kept fp H H1:=fun b o e _=>s b o e
theorem Kept.trans (a:Kept fp H H1) (b:Kept fp H1 H2):Kept fp H H2:=fun c o e n=>b c o (a c o e n) n
theorem Kept.put {a:Addr} {o:HO} (h:a∈fp):Kept fp H (upd H a o):=fun c u e n=>by
 have ne:c≠a:=fun z=>n (by rw [z];exact h)
 rw [am ne]
 exact e
end
end L2
namespace Tim
open PySem PyProof.Rows
def Inc (xs:Array Keyed) (lo hi:Nat):Prop:=∀ i j,lo≤i→i≤j→j<hi→K xs i≤K xs j
def Dec (xs:Array Keyed) (lo hi:Nat):Prop:=∀ i j,lo≤i→i≤j→j<hi→K xs j≤K xs i
def Off (xs ys:Array Keyed) (lo hi:Nat):Prop:=∀ i,(i<lo∨hi≤i)→K xs i=K ys i
theorem Off.refl {xs:Array Keyed} {lo hi:Nat}:Off xs xs lo hi:=fun _ _=>rfl
theorem Off.trans {xs ys zs:Array Keyed} {lo hi:Nat} (a:Off xs ys lo hi) (b:Off ys zs lo hi):Off xs zs lo hi:=fun i h=>(a i h).trans (b i h)
theorem Off.wide {xs ys:Array Keyed} {lo hi lo' hi':Nat} (a:Off xs ys lo hi) (h1:lo'≤lo) (h2:hi≤hi'):Off xs ys lo' hi':=fun i h=>a i (by lia)
structure SB (a₀:Array Keyed) (st:SortSt):Prop where
 perm:(arrOf st).Perm a₀
 kind:kindOf st=oneType'
 failed:failedOf st=none
theorem SB.size {a₀:Array Keyed} {st:SortSt} (h:SB a₀ st):(arrOf st).size=a₀.size:=h.perm.size_eq
theorem SB.set {a₀:Array Keyed} {st:SortSt} (h:SB a₀ st) {xs:Array Keyed} (hp:xs.Perm (arrOf st)):SB a₀ (setArr st xs):=⟨hp.trans h.perm,h.kind,h.failed⟩
theorem iB {a:Array Keyed} (h:IntKeys a) {i:Nat} (hi:i<a.size):∃ t q,a[i]?=some (.int (K a i) t,q):=by
 have e:a[i]?=some a[i]:=getElem?_pos _ i hi
 obtain ⟨n,t,hn⟩:=h a[i] (by simp)
 refine ⟨t,a[i].2,?_⟩
 unfold K
 rw [e,show a[i]=(.int n t,a[i].2) from Prod.ext hn rfl]
 rfl
theorem IntKeys.perm {a b:Array Keyed} (h:IntKeys a) (p:b.Perm a):IntKeys b:=fun q hq=>h q ((Array.perm_iff_toList_perm.mp p).mem_iff.mp hq)
section
variable {prog:Program} {w:World} {A:Around} {E:Value→Shared→Prop} {s:Shared} {a₀:Array Keyed}
theorem kT {st:SortSt} {x y:Keyed} {a b:Int} {t u:Tok} {Q:Option Bool→SortSt→Prop} (hk:kindOf st=oneType') (hx:x.1 = .int a t) (hy:y.1 = .int b u) (h:Q (some (decide (a<b))) st):wpS (model prog w) A E s (lt' x y) Q st:=by
 rw [lt'_eq]
 refine xCd (wpS_get ?_)
 rw [hk,keyLt'_oneType,hx,hy]
 refine xCd (wpS_lift (wpAny_attempt (oneLt_int ⟨rfl,?_⟩)))
 exact xCe h
theorem eN {st:SortSt} {i j:Nat} {Q:Option Bool→SortSt→Prop} (hB:SB a₀ st) (h0:IntKeys a₀) (hi:i<a₀.size) (hj:j<a₀.size)
  (h:Q (some (decide (K (arrOf st) i<K (arrOf st) j))) st):wpS (model prog w) A E s (ltAt' i j) Q st:=by
 obtain ⟨t,p,e1⟩:=iB (IntKeys.perm h0 hB.perm) (show i<(arrOf st).size by rw [hB.size];exact hi)
 obtain ⟨u,q,e2⟩:=iB (IntKeys.perm h0 hB.perm) (show j<(arrOf st).size by rw [hB.size];exact hj)
 exact wpS_ltAt hB.kind e1 e2 h
theorem aK {st:SortSt} {arr:Array Keyed} {i:Nat} {Q:Keyed→SortSt→Prop} (hi:i<arr.size) (h:Q arr[i] st):wpS (model prog w) A E s (elem' arr i) Q st:=by
 rw [elem'_eq,getElem?_pos _ i hi]
 exact xCe h
theorem gt {st:SortSt} {lo n₀ nrem:Nat} {Q:Option (Option Nat)×Nat→SortSt→Prop} (h0:IntKeys a₀) (hn:lo+nrem≤a₀.size) (h1:1≤n₀) (h2:n₀≤nrem) (hB:SB a₀ st) (hs:Inc (arrOf st) lo (lo+n₀))
  (h:∀ n,n₀≤n→n≤nrem→Inc (arrOf st) lo (lo+n)→(n=nrem∨K (arrOf st) (lo+n)<K (arrOf st) (lo+n - 1))→Q (none,n) st) :
  wpS (model prog w) A E s (forIn [n₀:nrem] ((none,n₀):Option (Option Nat)×Nat) fun _ z=>do
   let x ← ltAt' (lo+z.snd) (lo+z.snd - 1)
   match x with
   | some smaller=>if smaller=true then pure (ForInStep.done (none,z.snd)) else pure (ForInStep.yield (none,z.snd+1))
   | _=>pure (ForInStep.done (some none,z.snd))) Q st:=by
 refine wpS_forRange (I:=fun x c st'=>st'=st∧c=(none,x)∧Inc (arrOf st) lo (lo+x)) ?step ?fin ⟨rfl,rfl,hs⟩
 case fin =>
  rintro c st' ⟨rfl,rfl,hs'⟩
  rw [show max n₀ nrem=nrem by lia] at hs' ⊢
  exact h nrem h2 (xAg _) hs' (.inl rfl)
 case step =>
  rintro x c st' hax hxn ⟨rfl,rfl,hs'⟩
  dsimp only
  refine xCd (eN hB h0 (by lia) (by lia) ?_)
  by_cases hl:K (arrOf st') (lo+x)<K (arrOf st') (lo+x - 1)
  ·simp only [hl,decide_true,if_true]
   exact xCe (h x hax (by lia) hs' (.inr hl))
  ·simp only [hl,decide_false,xAz,if_false]
   refine xCe ⟨rfl,rfl,fun i j hi hij hj=>?_⟩
   by_cases hjx:j<lo+x
   ·exact hs' i j hi hij hjx
   ·have hj':j=lo+x:=by lia
    subst hj'
    by_cases hi':i=lo+x
    ·rw [hi'];exact xBu _
    ·exact Int.le_trans (hs' i (lo+x - 1) hi (by lia) (by lia)) (Int.not_lt.mp hl)
end
end Tim
namespace Tim
open PySem PyProof.Rows
structure R (a₀:Array Keyed) (p:Array (Nat×Nat×Nat)) (xs₀:Array Keyed) (lo hi:Nat) (st:SortSt):Prop where
 b:SB a₀ st
 p:pendingOf st=p
 o:Off (arrOf st) xs₀ lo hi
section
variable {prog:Program} {w:World} {A:Around} {E:Value→Shared→Prop} {s:Shared} {a₀ xs₀:Array Keyed} {p:Array (Nat×Nat×Nat)} {lo hi:Nat} {st:SortSt}
theorem R.mirror (h:R a₀ p xs₀ lo hi st) {i j:Nat} (h1:lo≤i) (h2:j≤hi) (h3:j≤a₀.size):R a₀ p xs₀ lo hi (setArr st (mirror (arrOf st) i j ((j - i) / 2))):=by
 refine ⟨h.b.set (mirror_perm _ _ _ _),h.p,fun k hk=>?_⟩
 show K (PyProof.Rows.mirror (arrOf st) i j ((j - i) / 2)) k=_
 rw [K_mirror (by rw [h.b.size];exact h3),xCf (by lia)]
 exact h.o k hk
theorem R.turned (hR:R a₀ p xs₀ lo hi st) {n:Nat} (hn:lo+n≤a₀.size) (hd:Dec (arrOf st) lo (lo+n)):Inc (arrOf (setArr st (PyProof.Rows.mirror (arrOf st) lo (lo+n) ((lo+n - lo) / 2)))) lo (lo+n):=by
 intro i j hi hle hj
 have hsz:lo+n≤(arrOf st).size:=by rw [hR.b.size];omega
 show K (PyProof.Rows.mirror (arrOf st) lo (lo+n) ((lo+n - lo) / 2)) i≤K (PyProof.Rows.mirror (arrOf st) lo (lo+n) ((lo+n - lo) / 2)) j
 rw [K_mirror hsz,K_mirror hsz,xCg (by omega),xCg (by omega)]
 exact hd _ _ (by omega) (by omega) (by omega)
theorem ll {n nrem:Nat} {Q:Option (Option Nat)×Nat×Nat→SortSt→Prop} (h0:IntKeys a₀) (hn:lo+nrem≤a₀.size) (hh:lo+nrem≤hi) (h1:1≤n) (h2:n≤nrem) (hR:R a₀ p xs₀ lo hi st) (hd:Dec (arrOf st) lo (lo+n))
  (h:∀ m eqs st',R a₀ p xs₀ lo hi st'→n≤m→m≤nrem→Dec (arrOf st') lo (lo+m)→eqs+1≤m→(∀ i,lo+m - (eqs+1)≤i→i<lo+m→K (arrOf st') i=K (arrOf st') (lo+m - 1))→Q (none,m,eqs) st') :
  wpS (model prog w) A E s (forIn [n:nrem] ((none,n,0):Option (Option Nat)×Nat×Nat) fun _ z=>do
   let x ← ltAt' (lo+z.snd.fst) (lo+z.snd.fst - 1)
   match x with
   | some smaller =>
    if smaller=true then
     if z.snd.snd > 0 then do
      let _ ← reverseSlice' (lo+z.snd.fst - (z.snd.snd+1)) (lo+z.snd.fst)
      pure (ForInStep.yield (none,z.snd.fst+1,0))
     else pure (ForInStep.yield (none,z.snd.fst+1,0))
    else do
     let x ← ltAt' (lo+z.snd.fst - 1) (lo+z.snd.fst)
     match x with
     | some larger =>
      if larger=true then pure (ForInStep.done (none,z.snd.fst,z.snd.snd))
      else pure (ForInStep.yield (none,z.snd.fst+1,z.snd.snd+1))
     | _=>pure (ForInStep.done (some none,z.snd.fst,z.snd.snd))
   | _=>pure (ForInStep.done (some none,z.snd.fst,z.snd.snd))) Q st:=by
 refine wpS_forRange (I:=fun x c st'=>∃ eqs,c=(none,x,eqs)∧R a₀ p xs₀ lo hi st'∧Dec (arrOf st') lo (lo+x)∧eqs+1≤x ∧
   (∀ i,lo+x - (eqs+1)≤i→i<lo+x→K (arrOf st') i=K (arrOf st') (lo+x - 1))) ?step ?fin ⟨0,rfl,hR,hd,by lia,fun i h1 h2=>by congr 1;lia⟩
 case fin =>
  rintro c st' ⟨eqs,rfl,hC,hd',hcap,hflat⟩
  rw [show max n nrem=nrem by lia] at hd' hcap hflat ⊢
  exact h nrem eqs st' hC h2 (xAg _) hd' hcap hflat
 case step =>
  rintro x c st' hfrom hto ⟨eqs,rfl,hC,hd',hcap,hflat⟩
  dsimp only
  have hsz:lo+x≤(arrOf st').size:=by rw [hC.b.size];lia
  refine xCd (eN hC.b h0 (by lia) (by lia) ?_)
  by_cases ql:K (arrOf st') (lo+x)<K (arrOf st') (lo+x - 1)
  ·simp only [decide_true,if_true,ql]
   have grow:∀ xs:Array Keyed,(∀ k,K xs k=K (arrOf st') k)→Dec xs lo (lo+(x+1)):=by
    intro xs hk i j hi hle hj
    rw [hk,hk]
    by_cases hjx:j<lo+x
    ·exact hd' i j hi hle hjx
    ·have hj':j=lo+x:=by lia
     subst hj'
     by_cases hi':i=lo+x
     ·rw [hi'];exact xBu _
     ·exact Int.le_trans (Int.le_of_lt ql) (hd' i (lo+x - 1) hi (by lia) (by lia))
   by_cases hpos:eqs > 0
   ·rw [xCg hpos]
    refine xCd (wpS_reverse (xCe ⟨0,rfl,hC.mirror (by lia) (by lia) (by lia),grow _ (K_mirror_equal hsz hflat),by lia,fun i h1 h2=>by congr 1;lia⟩))
   ·rw [xCf hpos]
    exact xCe ⟨0,rfl,hC,grow _ (fun _=>rfl),by lia,fun i h1 h2=>by congr 1;lia⟩
  ·simp only [decide_false,xAz,if_false,ql]
   refine xCd (eN hC.b h0 (by lia) (by lia) ?_)
   by_cases qg:K (arrOf st') (lo+x - 1)<K (arrOf st') (lo+x)
   ·simp only [qg,decide_true,if_true]
    exact xCe (h x eqs st' hC hfrom (by lia) hd' hcap hflat)
   ·simp only [qg,decide_false,xAz,if_false]
    have hsame:K (arrOf st') (lo+x)=K (arrOf st') (lo+x - 1):=by lia
    refine xCe ⟨eqs+1,rfl,hC,fun i j hi hle hj=>?_,by lia,fun i h1 h2=>?_⟩
    ·by_cases hjx:j<lo+x
     ·exact hd' i j hi hle hjx
     ·have hj':j=lo+x:=by lia
      subst hj'
      by_cases hi':i=lo+x
      ·rw [hi'];exact xBu _
      ·rw [hsame];exact hd' i (lo+x - 1) hi (by lia) (by lia)
    ·rw [show lo+(x+1) - 1=lo+x by lia]
     by_cases hix:i=lo+x
     ·subst hix;rfl
     ·rw [hsame];exact hflat i (by lia) (by lia)
theorem jz {nrem:Nat} {Q:Option Nat→SortSt→Prop} (h0:IntKeys a₀) (hn:lo+nrem≤a₀.size) (hh:lo+nrem≤hi) (h1:1≤nrem) (hR:R a₀ p xs₀ lo hi st)
  (h:∀ m st',R a₀ p xs₀ lo hi st'→1≤m→m≤nrem→Inc (arrOf st') lo (lo+m)→Q (some m) st'):wpS (model prog w) A E s (countRun' lo nrem) Q st:=by
 rw [countRun'_eq]
 have one:Inc (arrOf st) lo (lo+1):=fun i j hi hle hj=>by
  obtain rfl:i=j:=by lia
  exact xBu _
 refine xCd (gt h0 hn (xAg 1) h1 hR.b one fun n hn1 hn2 hrun hor=>?_)
 dsimp only
 by_cases hmore:n=nrem
 ·rw [xCg (by simpa using hmore)]
  exact xCe (h n st hR hn1 hn2 hrun)
 ·rw [xCf (by simpa using hmore)]
  have hlt:K (arrOf st) (lo+n)<K (arrOf st) (lo+n - 1):=hor.resolve_left hmore
  by_cases hbig:n > 1
  ·rw [xCg hbig]
   refine xCd (eN hR.b h0 (by lia) (by lia) ?_)
   by_cases qr:K (arrOf st) lo<K (arrOf st) (lo+n - 1)
   ·simp only [qr,decide_true,if_true]
    exact xCe (h n st hR hn1 hn2 hrun)
   ·simp only [qr,decide_false,xAz,if_false]
    have hsz:lo+n≤(arrOf st).size:=by rw [hR.b.size];lia
    have hev:∀ k,lo≤k→k<lo+n→K (arrOf st) k=K (arrOf st) (lo+n - 1):=by
     intro k hk1 hk
     have a1:=hrun lo k (by lia) hk1 hk
     have a2:=hrun k (lo+n - 1) hk1 (by lia) (by lia)
     lia
    have hD:Dec (arrOf (setArr st (mirror (arrOf st) lo (lo+n) ((lo+n - lo) / 2)))) lo (lo+(n+1)):=by
     intro i j hi hle hj
     show K (PyProof.Rows.mirror (arrOf st) _ _ _) j≤K (PyProof.Rows.mirror (arrOf st) _ _ _) i
     rw [K_mirror_equal hsz hev,K_mirror_equal hsz hev]
     by_cases hjn:j<lo+n
     ·rw [hev i (by lia) (by lia),hev j (by lia) hjn];exact xBu _
     ·have hj':j=lo+n:=by lia
      subst hj'
      by_cases hi':i=lo+n
      ·rw [hi'];exact xBu _
      ·rw [hev i (by lia) (by lia)];exact Int.le_of_lt hlt
    refine xCd (wpS_reverse ?_)
    refine xCd (wpS_lift (wpAny_rule ⟨rfl,?_⟩))
    refine xCd (ll h0 hn hh (by lia) (show n+1≤nrem by lia) (hR.mirror (i:=lo) (j:=lo+n) (xAg _) (by lia) (by lia)) hD fun m eqs st' hC hma hmb hd' hcap hflat=>?_)
    dsimp only
    have hsz2:lo+m≤(arrOf st').size:=by rw [hC.b.size];lia
    have fin:∀ st2,R a₀ p xs₀ lo hi st2→Dec (arrOf st2) lo (lo+m)→Inc (arrOf (setArr st2 (mirror (arrOf st2) lo (lo+m) ((lo+m - lo) / 2)))) lo (lo+m):=fun st2 hR2 hd2=>hR2.turned (by lia) hd2
    by_cases hpos:eqs > 0
    ·rw [xCg hpos]
     have hR3:=hC.mirror (i:=lo+m - (eqs+1)) (j:=lo+m) (by lia) (by lia) (by lia)
     refine xCd (wpS_reverse (xCd (wpS_reverse ?_)))
     refine xCd (gt h0 hn (by lia) hmb (hR3.mirror (i:=lo) (j:=lo+m) (xAg _) (by lia) (by lia)).b (fin _ hR3 ?_) fun m' hm1' hm2' hsm _=>xCe (h m' _ (hR3.mirror (xAg _) (by lia) (by lia)) (by lia) hm2' hsm))
     intro i j hi hle hj
     show K (mirror (arrOf st') _ _ _) j≤K (mirror (arrOf st') _ _ _) i
     rw [K_mirror_equal hsz2 hflat,K_mirror_equal hsz2 hflat]
     exact hd' i j hi hle hj
    ·rw [xCf hpos]
     refine xCd (wpS_reverse ?_)
     exact xCd (gt h0 hn (by lia) hmb (hC.mirror (i:=lo) (j:=lo+m) (xAg _) (by lia) (by lia)).b (fin _ hC hd') fun m' hm1' hm2' hsm _=>xCe (h m' _ (hC.mirror (xAg _) (by lia) (by lia)) (by lia) hm2' hsm))
  ·rw [xCf hbig]
   have hn1':n=1:=by lia
   subst hn1'
   have hD:Dec (arrOf st) lo (lo+(1+1)):=by
    intro i j hi hle hj
    by_cases hi':i=j
    ·subst hi';exact xBu _
    ·have hi0:i=lo:=by lia
     have hj1:j=lo+1:=by lia
     subst hi0;subst hj1
     exact Int.le_of_lt hlt
   refine xCd (wpS_lift (wpAny_rule ⟨rfl,?_⟩))
   refine xCd (ll h0 hn hh (by lia) (show 1+1≤nrem by lia) hR hD fun m eqs st' hC hma hmb hd' hcap hflat=>?_)
   dsimp only
   have hsz2:lo+m≤(arrOf st').size:=by rw [hC.b.size];lia
   have fin:∀ st2,R a₀ p xs₀ lo hi st2→Dec (arrOf st2) lo (lo+m)→Inc (arrOf (setArr st2 (mirror (arrOf st2) lo (lo+m) ((lo+m - lo) / 2)))) lo (lo+m):=fun st2 hR2 hd2=>hR2.turned (by lia) hd2
   by_cases hpos:eqs > 0
   ·rw [xCg hpos]
    have hR3:=hC.mirror (i:=lo+m - (eqs+1)) (j:=lo+m) (by lia) (by lia) (by lia)
    refine xCd (wpS_reverse (xCd (wpS_reverse ?_)))
    refine xCd (gt h0 hn (by lia) hmb (hR3.mirror (i:=lo) (j:=lo+m) (xAg _) (by lia) (by lia)).b (fin _ hR3 ?_) fun m' hm1' hm2' hsm _=>xCe (h m' _ (hR3.mirror (xAg _) (by lia) (by lia)) (by lia) hm2' hsm))
    intro i j hi hle hj
    show K (mirror (arrOf st') _ _ _) j≤K (mirror (arrOf st') _ _ _) i
    rw [K_mirror_equal hsz2 hflat,K_mirror_equal hsz2 hflat]
    exact hd' i j hi hle hj
   ·rw [xCf hpos]
    refine xCd (wpS_reverse ?_)
    exact xCd (gt h0 hn (by lia) hmb (hC.mirror (i:=lo) (j:=lo+m) (xAg _) (by lia) (by lia)).b (fin _ hC hd') fun m' hm1' hm2' hsm _=>xCe (h m' _ (hC.mirror (xAg _) (by lia) (by lia)) (by lia) hm2' hsm))
end
end Tim
namespace Tim
open PySem PyProof.Rows
section
variable {prog:Program} {w:World} {A:Around} {E:Value→Shared→Prop} {s:Shared} {a₀ xs₀:Array Keyed} {p:Array (Nat×Nat×Nat)} {lo hi:Nat} {st:SortSt}
theorem R.bubble (h:R a₀ p xs₀ lo hi st) {i d:Nat} (h1:lo≤i - d) (hd:d≤i) (h2:i<hi) (h3:i<a₀.size):R a₀ p xs₀ lo hi (setArr st (bubble (arrOf st) i d)):=by
 refine ⟨h.b.set (bubble_perm _ _ _),h.p,fun k hk=>?_⟩
 show K (PyProof.Rows.bubble (arrOf st) i d) k=_
 rw [K_bubble (by rw [h.b.size];exact h3) hd,xCf (by lia),xCf (by lia)]
 exact h.o k hk
theorem mQ {n ok:Nat} {Q:Bool→SortSt→Prop} (h0:IntKeys a₀) (hn:lo+n≤a₀.size) (hh:lo+n≤hi) (hok:ok≤n) (hR:R a₀ p xs₀ lo hi st) (hs:Inc (arrOf st) lo (lo+ok))
  (h:∀ st',R a₀ p xs₀ lo hi st'→Inc (arrOf st') lo (lo+n)→Q true st'):wpS (model prog w) A E s (binarySort' lo n ok) Q st:=by
 rw [binarySort'_eq]
 refine xCd (wpS_mono (wpS_forRange (I:=fun k c st'=>c=(none,())∧R a₀ p xs₀ lo hi st'∧Inc (arrOf st') lo (lo+min k n))
  (Q:=fun c st'=>c=(none,())∧R a₀ p xs₀ lo hi st'∧Inc (arrOf st') lo (lo+n)) ?step ?fin ?init) ?post)
 case post =>
  rintro c st' ⟨rfl,hC,hd'⟩
  exact xCe (h st' hC hd')
 case init =>
  refine ⟨rfl,hR,fun i j hi hle hj=>?_⟩
  by_cases h1:ok=0
  ·obtain rfl:i=j:=by lia
   exact xBu _
  ·exact hs i j hi hle (by lia)
 case fin =>
  rintro c st' ⟨hc,hC,hd'⟩
  refine ⟨hc,hC,?_⟩
  rwa [show min (max (max ok 1) n) n=n by lia] at hd'
 case step =>
  rintro k c st' hak1 hkn1 ⟨rfl,hC,hd'⟩
  rw [show min k n=k by lia] at hd'
  have hk:lo+k<a₀.size:=by lia
  refine xCd (wpS_mono (wpS_forRange (I:=fun x c st''=>st''=st'∧∃ l r,c=(none,l,r)∧l≤r∧r≤k∧r - l≤k - x ∧
    (∀ i,lo≤i→i<lo+l→K (arrOf st') i≤K (arrOf st') (lo+k))∧(∀ i,lo+r≤i→i<lo+k→K (arrOf st') (lo+k)<K (arrOf st') i))
   (Q:=fun c st''=>st''=st'∧∃ l r,c=(none,l,r)∧l≤k ∧
    (∀ i,lo≤i→i<lo+l→K (arrOf st') i≤K (arrOf st') (lo+k))∧(∀ i,lo+l≤i→i<lo+k→K (arrOf st') (lo+k)<K (arrOf st') i)) ?istep ?ifin ?iinit) ?ipost)
  case iinit=>exact ⟨rfl,0,k,rfl,by lia,by lia,by lia,fun i _ hi=>by lia,fun i h1 h2=>by lia⟩
  case ifin =>
   rintro c st'' ⟨rfl,l,r,rfl,hlr1,hrk1,hm,hlow,hupp⟩
   obtain rfl:l=r:=by lia
   exact ⟨rfl,l,l,rfl,hrk1,hlow,hupp⟩
  case istep =>
   rintro x c st'' _ hxk1 ⟨rfl,l,r,rfl,hlr1,hrk1,hm,hlow,hupp⟩
   dsimp only
   by_cases hge:l ≥ r
   ·rw [xCg hge]
    obtain rfl:l=r:=by lia
    exact xCe ⟨rfl,l,l,rfl,hrk1,hlow,hupp⟩
   ·rw [xCf hge]
    refine xCd (eN hC.b h0 hk (by lia) ?_)
    by_cases ql:K (arrOf st'') (lo+k)<K (arrOf st'') (lo+(l+r) / 2)
    ·simp only [decide_true,if_true,ql]
     refine xCe ⟨rfl,l,(l+r) / 2,rfl,by lia,by lia,by lia,hlow,fun i h1 h2=>?_⟩
     exact Int.lt_of_lt_of_le ql (hd' _ _ (by lia) h1 h2)
    ·simp only [decide_false,xAz,if_false,ql]
     refine xCe ⟨rfl,(l+r) / 2+1,r,rfl,by lia,by lia,by lia,fun i h1 h2=>?_,hupp⟩
     exact Int.le_trans (hd' i (lo+(l+r) / 2) h1 (by lia) (by lia)) (Int.not_lt.mp ql)
  case ipost =>
   rintro c st'' ⟨rfl,l,r,rfl,hlk1,hlow,hupp⟩
   show wpS _ _ _ _ (do moveDown' (lo+k) (lo+l);pure (ForInStep.yield (none,()))) _ _
   rw [moveDown'_eq]
   refine xCd (wpS_modify (xCe ⟨rfl,hC.bubble (by lia) (by lia) (by lia) hk,?_⟩))
   rw [show min (k+1) n=k+1 by lia]
   have hks:lo+k<(arrOf st'').size:=by rw [hC.b.size];exact hk
   intro i j hi hle hj
   show K (PyProof.Rows.bubble (arrOf st'') (lo+k) (lo+k - (lo+l))) i≤K (PyProof.Rows.bubble (arrOf st'') (lo+k) (lo+k - (lo+l))) j
   rw [K_bubble hks (by lia),K_bubble hks (by lia),show lo+k - (lo+k - (lo+l))=lo+l by lia]
   repeat' split
   all_goals first
    | (exfalso;lia)
    | exact xBu _
    | exact hlow _ (by lia) (by lia)
    | exact Int.le_of_lt (hupp _ (by lia) (by lia))
    | exact hd' _ _ (by lia) (by lia) (by lia)
end
def gallop':Bool→Keyed→Array Keyed→Nat→Nat→Nat→StateT SortSt Sem (Option Nat):=sortPriv% PySem.Builtin.gallop
theorem j7 (left:Bool) (key:Keyed) (arr:Array Keyed) (base n hint:Nat):gallop' left key arr base n hint=(do
 let bey (v:Nat):StateT SortSt Sem (Option Bool):=do
  let u ← elem' arr (base+v)
  if left then lt' u key else return (← lt' key u).map (!·)
 let mut la:=0
 let mut of:=1
 let mut u:=0
 let mut v:=0
 let some r0 ← bey hint | return none
 if r0 then
  let mx:=n - hint
  for _ in [0:n] do
   if of ≥ mx then break
   let some mo ← bey (hint+of) | return none
   if !mo then break
   la:=of
   of:=2 * of+1
  u:=hint+la+1
  v:=hint+min of mx
 else
  let mx:=hint+1
  for _ in [0:n] do
   if of ≥ mx then break
   let some fo ← bey (hint - of) | return none
   if fo then break
   la:=of
   of:=2 * of+1
  u:=hint+1 - min of mx
  v:=hint - la
 for _ in [0:n] do
  if u ≥ v then break
  let md:=u+(v - u) / 2
  let some mo ← bey md | return none
  if mo then u:=md+1 else v:=md
 return some v):=rfl
end Tim
namespace Tim
open PySem PyProof.Rows
def look (left:Bool) (key:Keyed) (arr:Array Keyed) (j:Nat):StateT SortSt Sem (Option Bool):=do
 let x ← elem' arr j
 if left=true then lt' x key
  else do
   let y ← lt' key x
   pure (Option.map (fun x=>!x) y)
def Bt (left:Bool) (k:Int) (arr:Array Keyed) (j:Nat):Bool:=if left then decide (K arr j<k) else !decide (k<K arr j)
theorem Bt.anti {left:Bool} {k:Int} {arr:Array Keyed} {lo hi i j:Nat} (h:Inc arr lo hi) (h1:lo≤i) (hij:i≤j) (h2:j<hi) (b:Bt left k arr j=true):Bt left k arr i=true:=by
 have:=h i j h1 hij h2
 unfold Bt at b ⊢
 cases left
 ·simp only [xAz,if_false,Bool.not_eq_true',decide_eq_false_iff_not] at b ⊢
  lia
 ·simp only [if_true,decide_eq_true_eq] at b ⊢
  lia
theorem Bt.anti' {left:Bool} {k:Int} {arr:Array Keyed} {lo hi i j:Nat} (h:Inc arr lo hi) (h1:lo≤i) (hij:i≤j) (h2:j<hi) (b:Bt left k arr i=false):Bt left k arr j=false:=by
 cases e:Bt left k arr j with
 | false=>rfl
 | true=>rw [Bt.anti h h1 hij h2 e] at b;cases b
section
variable {prog:Program} {w:World} {A:Around} {E:Value→Shared→Prop} {s:Shared} {st:SortSt} {left:Bool} {key:Keyed} {arr:Array Keyed} {base n hint:Nat} {k:Int} {t:Tok}
theorem dU {j:Nat} {Q:Option Bool→SortSt→Prop} (hk:kindOf st=oneType') (hI:IntKeys arr) (hkey:key.1 = .int k t) (hj:j<arr.size) (h:Q (some (Bt left k arr j)) st) :
  wpS (model prog w) A E s (look left key arr j) Q st:=by
 unfold look
 obtain ⟨u,q,e⟩:=iB hI hj
 have e2:arr[j]=(.int (K arr j) u,q):=by
  rw [getElem?_pos _ j hj] at e
  exact xB3 e
 refine xCd (aK hj ?_)
 rw [e2]
 cases left
 ·rw [xCf xAy]
  refine xCd (kT hk hkey rfl (xCe ?_))
  exact h
 ·rw [xCg rfl]
  exact kT hk rfl hkey h
theorem kr {lo₀ hi₀:Nat} {Q:Option (Option Nat)×Nat×Nat→SortSt→Prop} (hk:kindOf st=oneType') (hI:IntKeys arr) (hkey:key.1 = .int k t) (hn:base+n≤arr.size) (hs:Inc arr base (base+n))
  (h1:lo₀≤hi₀) (h2:hi₀≤n) (hl:∀ i,i<lo₀→Bt left k arr (base+i)=true) (hr:∀ i,hi₀≤i→i<n→Bt left k arr (base+i)=false)
  (h:∀ m,m≤n→(∀ i,i<m→Bt left k arr (base+i)=true)→(∀ i,m≤i→i<n→Bt left k arr (base+i)=false)→Q (none,m,m) st) :
  wpS (model prog w) A E s (forIn [0:n] ((none,lo₀,hi₀):Option (Option Nat)×Nat×Nat) fun x z =>
   if z.snd.fst ≥ z.snd.snd then pure (ForInStep.done (none,z.snd.fst,z.snd.snd))
   else do
    let x ← look left key arr (base+(z.snd.fst+(z.snd.snd - z.snd.fst) / 2))
    match x with
     | some more =>
      if more=true then pure (ForInStep.yield (none,z.snd.fst+(z.snd.snd - z.snd.fst) / 2+1,z.snd.snd))
      else pure (ForInStep.yield (none,z.snd.fst,z.snd.fst+(z.snd.snd - z.snd.fst) / 2))
     | x=>pure (ForInStep.done (some none,z.snd.fst,z.snd.snd))) Q st:=by
 refine wpS_forRange (I:=fun x c st'=>st'=st∧∃ lo hi,c=(none,lo,hi)∧lo≤hi∧hi≤n∧hi - lo≤n - x∧(∀ i,i<lo→Bt left k arr (base+i)=true)∧(∀ i,hi≤i→i<n→Bt left k arr (base+i)=false)) ?step ?fin ⟨rfl,lo₀,hi₀,rfl,h1,h2,by lia,hl,hr⟩
 case fin =>
  rintro c st' ⟨rfl,lo,hi,rfl,a1,a2,a3,a4,a5⟩
  obtain rfl:lo=hi:=by lia
  exact h lo a2 a4 a5
 case step =>
  rintro x c st' _ hx ⟨rfl,lo,hi,rfl,a1,a2,a3,a4,a5⟩
  dsimp only
  by_cases hge:lo ≥ hi
  ·rw [xCg hge]
   obtain rfl:lo=hi:=by lia
   exact xCe (h lo a2 a4 a5)
  ·rw [xCf hge]
   refine xCd (dU (j:=base+(lo+(hi - lo) / 2)) hk hI hkey (by lia) ?_)
   cases e:Bt left k arr (base+(lo+(hi - lo) / 2)) with
   | true =>
    simp only [if_true]
    refine xCe ⟨rfl,lo+(hi - lo) / 2+1,hi,rfl,by lia,by lia,by lia,fun i hi'=>?_,a5⟩
    exact Bt.anti (j:=base+(lo+(hi - lo) / 2)) hs (by lia) (by lia) (by lia) e
   | false =>
    simp only [xAz,if_false]
    refine xCe ⟨rfl,lo,lo+(hi - lo) / 2,rfl,by lia,by lia,by lia,a4,fun i h1' h2'=>?_⟩
    exact Bt.anti' (i:=base+(lo+(hi - lo) / 2)) hs (by lia) (by lia) (by lia) e
theorem cH {Q:Option Nat→SortSt→Prop} (hk:kindOf st=oneType') (hI:IntKeys arr) (hkey:key.1 = .int k t) (hn:base+n≤arr.size) (hs:Inc arr base (base+n)) (hh:hint<n)
  (h:∀ m,m≤n→(∀ i,i<m→Bt left k arr (base+i)=true)→(∀ i,m≤i→i<n→Bt left k arr (base+i)=false)→Q (some m) st) :
  wpS (model prog w) A E s (gallop' left key arr base n hint) Q st:=by
 rw [j7]
 dsimp only
 refine xCd (dU (j:=base+hint) hk hI hkey (by lia) ?_)
 cases e0:Bt left k arr (base+hint) with
 | true =>
  simp only [if_true]
  refine xCd (wpS_mono (wpS_forRange (I:=fun x c st'=>st'=st∧∃ la of,c=(none,la,of)∧la<of∧hint+la<n∧x+1≤of∧Bt left k arr (base+(hint+la))=true)
   (Q:=fun c st'=>st'=st∧∃ la of,c=(none,la,of)∧la<of∧hint+la<n∧Bt left k arr (base+(hint+la))=true∧(n - hint≤of∨(hint+of<n∧Bt left k arr (base+(hint+of))=false))) ?step ?fin ⟨rfl,0,1,rfl,by lia,by lia,by lia,e0⟩) ?post)
  case fin =>
   rintro c st' ⟨rfl,la,of,rfl,b1,b2,b3,b4⟩
   exact ⟨rfl,la,of,rfl,b1,b2,b4,.inl (by lia)⟩
  case step =>
   rintro x c st' _ hx ⟨rfl,la,of,rfl,b1,b2,b3,b4⟩
   dsimp only
   by_cases hge:of ≥ n - hint
   ·rw [xCg hge]
    exact xCe ⟨rfl,la,of,rfl,b1,b2,b4,.inl hge⟩
   ·rw [xCf hge]
    refine xCd (dU (j:=base+(hint+of)) hk hI hkey (by lia) ?_)
    cases e1:Bt left k arr (base+(hint+of)) with
    | true =>
     simp only [Bool.not_true,xAz,if_false]
     exact xCe ⟨rfl,of,2 * of+1,rfl,by lia,by lia,by lia,e1⟩
    | false =>
     simp only [Bool.not_false,if_true]
     exact xCe ⟨rfl,la,of,rfl,b1,b2,b4,.inr ⟨by lia,e1⟩⟩
  case post =>
   rintro c st' ⟨rfl,la,of,rfl,b1,b2,b4,b5⟩
   dsimp only
   refine xCd (kr (lo₀:=hint+la+1) (hi₀:=hint+min of (n - hint)) hk hI hkey hn hs (by lia) (by lia) (fun i hi=>Bt.anti (j:=base+(hint+la)) hs (by lia) (by lia) (by lia) b4) (fun i h1 h2=>?_) fun m m1 m2 m3=>xCe (h m m1 m2 m3))
   rcases b5 with b5 | ⟨b5,b6⟩
   ·lia
   ·exact Bt.anti' (i:=base+(hint+of)) hs (by lia) (by lia) (by lia) b6
 | false =>
  simp only [xAz,if_false]
  refine xCd (wpS_mono (wpS_forRange (I:=fun x c st'=>st'=st∧∃ la of,c=(none,la,of)∧la<of∧la≤hint∧x+1≤of∧Bt left k arr (base+(hint - la))=false)
   (Q:=fun c st'=>st'=st∧∃ la of,c=(none,la,of)∧la<of∧la≤hint∧Bt left k arr (base+(hint - la))=false∧(hint+1≤of∨(of≤hint∧Bt left k arr (base+(hint - of))=true))) ?step ?fin ⟨rfl,0,1,rfl,by lia,by lia,by lia,e0⟩) ?post)
  case fin =>
   rintro c st' ⟨rfl,la,of,rfl,b1,b2,b3,b4⟩
   exact ⟨rfl,la,of,rfl,b1,b2,b4,.inl (by lia)⟩
  case step =>
   rintro x c st' _ hx ⟨rfl,la,of,rfl,b1,b2,b3,b4⟩
   dsimp only
   by_cases hge:of ≥ hint+1
   ·rw [xCg hge]
    exact xCe ⟨rfl,la,of,rfl,b1,b2,b4,.inl hge⟩
   ·rw [xCf hge]
    refine xCd (dU (j:=base+(hint - of)) hk hI hkey (by lia) ?_)
    cases e1:Bt left k arr (base+(hint - of)) with
    | true =>
     simp only [if_true]
     exact xCe ⟨rfl,la,of,rfl,b1,b2,b4,.inr ⟨by lia,e1⟩⟩
    | false =>
     simp only [xAz,if_false]
     exact xCe ⟨rfl,of,2 * of+1,rfl,by lia,by lia,by lia,e1⟩
  case post =>
   rintro c st' ⟨rfl,la,of,rfl,b1,b2,b4,b5⟩
   dsimp only
   refine xCd (kr (lo₀:=hint+1 - min of (hint+1)) (hi₀:=hint - la) hk hI hkey hn hs (by lia) (by lia) (fun i hi=>?_) (fun i h1 h2=>Bt.anti' (i:=base+(hint - la)) hs (by lia) (by lia) (by lia) b4) fun m m1 m2 m3=>xCe (h m m1 m2 m3))
   rcases b5 with b5 | ⟨b5,b6⟩
   ·lia
   ·exact Bt.anti (j:=base+(hint - of)) hs (by lia) (by lia) (by lia) b6
end
end Tim
namespace Tim
open PySem PyProof.Rows
def mergeLo':Array Keyed→Array Keyed→StateT SortSt Sem (Array Keyed):=sortPriv% PySem.Builtin.mergeLo
abbrev setG (st:SortSt) (g:Nat):SortSt:=SortSt.mk' (kindOf st) (arrOf st) (pendingOf st) g (failedOf st)
abbrev Z1:=Option (Array Keyed)×Array Keyed×Nat×Nat×Nat×Nat
abbrev Z2:=Option (Array Keyed)×Array Keyed×Nat×Nat×Nat×Nat×Nat
abbrev Z0:=Option (Array Keyed)×Array Keyed×Nat×Nat×Nat
def fin (a b o:Array Keyed) (i j:Nat):Array Keyed:=o++a.extract i a.size++b.extract j b.size
def las (a b o:Array Keyed) (i j:Nat):Array Keyed:=o++b.extract j b.size++a.extract i a.size
def l1 (a b:Array Keyed) (g:Nat) (z:Z1):StateT SortSt Sem (ForInStep Z1):=do
 let u ← elem' b z.2.2.2.1
 let v ← elem' a z.2.2.1
 let q ← lt' u v
 match q with
 | some q =>
  if q=true then do
   let u ← elem' b z.2.2.2.1
   if (z.2.2.2.1+1 == b.size)=true then pure (.done (some (fin a b (z.2.1.push u) z.2.2.1 (z.2.2.2.1+1)),z.2.1.push u,z.2.2.1,z.2.2.2.1+1,0,z.2.2.2.2.2+1))
   else if z.2.2.2.2.2+1 ≥ g then pure (.done (none,z.2.1.push u,z.2.2.1,z.2.2.2.1+1,0,z.2.2.2.2.2+1))
   else pure (.yield (none,z.2.1.push u,z.2.2.1,z.2.2.2.1+1,0,z.2.2.2.2.2+1))
  else do
   let u ← elem' a z.2.2.1
   if (z.2.2.1+1+1 == a.size)=true then pure (.done (some (las a b (z.2.1.push u) (z.2.2.1+1) z.2.2.2.1),z.2.1.push u,z.2.2.1+1,z.2.2.2.1,z.2.2.2.2.1+1,0))
   else if z.2.2.2.2.1+1 ≥ g then pure (.done (none,z.2.1.push u,z.2.2.1+1,z.2.2.2.1,z.2.2.2.2.1+1,0))
   else pure (.yield (none,z.2.1.push u,z.2.2.1+1,z.2.2.2.1,z.2.2.2.2.1+1,0))
 | _=>pure (.done (some (fin a b z.2.1 z.2.2.1 z.2.2.2.1),z.2.1,z.2.2.1,z.2.2.2.1,z.2.2.2.2.1,z.2.2.2.2.2))
def l4 (a b o:Array Keyed) (i j g x y:Nat):StateT SortSt Sem (ForInStep Z2):=do
 let u ← elem' a i
 if (i+1+1 == a.size)=true then pure (.done (some (las a b (o.push u) (i+1) j),o.push u,i+1,j,g,x,y))
 else if (decide (x<7) && decide (y<7))=true then pure (.done (none,o.push u,i+1,j,g,x,y))
 else pure (.yield (none,o.push u,i+1,j,g,x,y))
def l3 (a b o:Array Keyed) (i j g x y:Nat):StateT SortSt Sem (ForInStep Z2):=do
 let u ← elem' b j
 if (j+1 == b.size)=true then pure (.done (some (fin a b (o.push u) i (j+1)),o.push u,i,j+1,g,x,y))
 else do
  let v ← elem' a i
  let q ← gallop' true v b (j+1) (b.size - (j+1)) 0
  match q with
  | some k =>
   if k > 0 then
    if (j+1+k == b.size)=true then pure (.done (some (fin a b (o.push u++b.extract (j+1) (j+1+k)) i (j+1+k)),o.push u++b.extract (j+1) (j+1+k),i,j+1+k,g,x,k))
    else l4 a b (o.push u++b.extract (j+1) (j+1+k)) i (j+1+k) g x k
   else l4 a b (o.push u) i (j+1) g x k
  | _=>pure (.done (some (fin a b (o.push u) i (j+1)),o.push u,i,j+1,g,x,y))
def l2 (a b o:Array Keyed) (i j g x y:Nat):StateT SortSt Sem (ForInStep Z2):=do
 modify fun st=>setG st g
 let u ← elem' b j
 let q ← gallop' false u a i (a.size - i) 0
 match q with
 | some k =>
  if k > 0 then
   if (i+k+1 == a.size)=true then pure (.done (some (las a b (o++a.extract i (i+k)) (i+k) j),o++a.extract i (i+k),i+k,j,g,k,y))
   else if (i+k == a.size)=true then pure (.done (some (fin a b (o++a.extract i (i+k)) (i+k) j),o++a.extract i (i+k),i+k,j,g,k,y))
   else l3 a b (o++a.extract i (i+k)) (i+k) j g k y
  else l3 a b o i j g k y
 | _=>pure (.done (some (fin a b o i j),o,i,j,g,x,y))
def l0 (a b:Array Keyed) (z:Z0):StateT SortSt Sem (ForInStep Z0):=do
 let y ← forIn [0:a.size+b.size] ((none,z.2.1,z.2.2.1,z.2.2.2.1,0,0):Z1) fun _ y=>l1 a b z.2.2.2.2 y
 match y.1 with
 | some r=>pure (.done (some r,y.2.1,y.2.2.1,y.2.2.2.1,z.2.2.2.2))
 | none=>do
  liftM (rule "list.sort.gallop")
  let x ← forIn [0:a.size+b.size] ((none,y.2.1,y.2.2.1,y.2.2.2.1,z.2.2.2.2+1,y.2.2.2.2.1,y.2.2.2.2.2):Z2) fun _ x =>
   if x.2.2.2.2.1 > 1 then l2 a b x.2.1 x.2.2.1 x.2.2.2.1 (x.2.2.2.2.1 - 1) x.2.2.2.2.2.1 x.2.2.2.2.2.2 else l2 a b x.2.1 x.2.2.1 x.2.2.2.1 x.2.2.2.2.1 x.2.2.2.2.2.1 x.2.2.2.2.2.2
  match x.1 with
  | some r=>pure (.done (some r,x.2.1,x.2.2.1,x.2.2.2.1,x.2.2.2.2.1))
  | none=>do
   modify fun st=>setG st (x.2.2.2.2.1+1)
   pure (.yield (none,x.2.1,x.2.2.1,x.2.2.2.1,x.2.2.2.2.1+1))
theorem iy (a b:Array Keyed):mergeLo' a b=(do
 rule "list.sort.merge-lo"
 let T:=a.size+b.size
 let fi (o:Array Keyed) (i j:Nat):=o++a.extract i a.size++b.extract j b.size
 let la (o:Array Keyed) (i j:Nat):=o++b.extract j b.size++a.extract i a.size
 let mut o:Array Keyed:=#[← elem' b 0]
 let mut i:=0
 let mut j:=1
 if j == b.size then return fi o i j
 if i+1 == a.size then return la o i j
 let mut g:=gallopOf (← get)
 for _ in [0:T] do
  let mut x:=0
  let mut y:=0
  for _ in [0:T] do
   let some q ← lt' (← elem' b j) (← elem' a i) | return fi o i j
   if q then
    o:=o.push (← elem' b j);j:=j+1;y:=y+1;x:=0
    if j == b.size then return fi o i j
    if y ≥ g then break
   else
    o:=o.push (← elem' a i);i:=i+1;x:=x+1;y:=0
    if i+1 == a.size then return la o i j
    if x ≥ g then break
  rule "list.sort.gallop"
  g:=g+1
  for _ in [0:T] do
   if g > 1 then g:=g - 1
   modify fun st=>setG st g
   let some k ← gallop' false (← elem' b j) a i (a.size - i) 0 | return fi o i j
   x:=k
   if k > 0 then
    o:=o++a.extract i (i+k);i:=i+k
    if i+1 == a.size then return la o i j
    if i == a.size then return fi o i j
   o:=o.push (← elem' b j);j:=j+1
   if j == b.size then return fi o i j
   let some k ← gallop' true (← elem' a i) b j (b.size - j) 0 | return fi o i j
   y:=k
   if k > 0 then
    o:=o++b.extract j (j+k);j:=j+k
    if j == b.size then return fi o i j
   o:=o.push (← elem' a i);i:=i+1
   if i+1 == a.size then return la o i j
   if x<7 && y<7 then break
  g:=g+1
  modify fun st=>setG st g
 unsupported "internal:list.sort.merge-bound"):=rfl
theorem jk (a b:Array Keyed):mergeLo' a b=(do
 liftM (rule "list.sort.merge-lo")
 let u ← elem' b 0
 if (1 == b.size)=true then pure (fin a b #[u] 0 1)
 else if (0+1 == a.size)=true then pure (las a b #[u] 0 1)
 else do
  let st ← get
  let z ← forIn [0:a.size+b.size] ((none,#[u],0,1,gallopOf st):Z0) fun _ z=>l0 a b z
  match z.1 with
  | some r=>pure r
  | none=>liftM (unsupported "internal:list.sort.merge-bound":Sem (Array Keyed))):=by
 rw [iy]
 dsimp only
 congr 1;funext _;congr 1;funext u
 congr 1
 congr 1
 congr 1;funext st
 congr 1
 ·congr 1;funext _ z
  unfold l0
  congr 1
  funext y
  obtain ⟨r,y⟩:=y
  cases r with
  | some r=>rfl
  | none =>
   dsimp only
   congr 1
   funext _
   congr 1
   funext x
   obtain ⟨r,x⟩:=x
   cases r <;> rfl
 ·funext z
  obtain ⟨r,z⟩:=z
  cases r <;> rfl
end Tim
namespace Tim
open PySem PyProof.Rows
def le' (p q:Keyed):Prop:=numOf p.1≤numOf q.1
structure M3 (L O A B:List Keyed):Prop where
 pm:(O++(A++B)).Perm L
 so:O.Pairwise le'
 sa:A.Pairwise le'
 sb:B.Pairwise le'
 ca:∀ x∈O,∀ y∈A,le' x y
 cb:∀ x∈O,∀ y∈B,le' x y
section
variable {L O A B:List Keyed}
theorem kO {l:List Keyed} (h:l.Pairwise le') (k:Nat):(l.take k).Pairwise le'∧(l.drop k).Pairwise le'∧∀ x∈l.take k,∀ y∈l.drop k,le' x y:=by
 rw [← xBx k l,List.pairwise_append] at h
 simpa using h
theorem M3.takeA (m:M3 L O A B) (k:Nat) (h:∀ x∈A.take k,∀ y∈B,le' x y):M3 L (O++A.take k) (A.drop k) B:=by
 obtain ⟨t1,t2,t3⟩:=kO m.sa k
 refine ⟨?_,List.pairwise_append.mpr ⟨m.so,t1,fun x hx y hy=>m.ca x hx y (xBj hy)⟩,t2,m.sb,fun x hx y hy=>?_,fun x hx y hy=>?_⟩
 ·refine List.Perm.trans (List.Perm.of_eq ?_) m.pm
  rw [xAx,← xAx (A.take k),xBx]
 ·rcases xAj.mp hx with z | z
  ·exact m.ca x z y (List.mem_of_mem_drop hy)
  ·exact t3 x z y hy
 ·rcases xAj.mp hx with z | z
  ·exact m.cb x z y hy
  ·exact h x z y hy
theorem M3.swap (m:M3 L O A B):M3 L O B A:=⟨(List.Perm.append_left O List.perm_append_comm).trans m.pm,m.so,m.sb,m.sa,m.cb,m.ca⟩
theorem M3.takeB (m:M3 L O A B) (k:Nat) (h:∀ y∈B.take k,∀ x∈A,le' y x):M3 L (O++B.take k) A (B.drop k):=(m.swap.takeA k h).swap
theorem M3.all (m:M3 L O A B) (h:∀ x∈A,∀ y∈B,le' x y):(O++A++B).Perm L∧(O++A++B).Pairwise le':=by
 rw [xAx]
 refine ⟨m.pm,List.pairwise_append.mpr ⟨m.so,List.pairwise_append.mpr ⟨m.sa,m.sb,h⟩,fun x hx y hy=>?_⟩⟩
 rcases xAj.mp hy with z | z
 ·exact m.ca x hx y z
 ·exact m.cb x hx y z
end
def RS (a b r:Array Keyed):Prop:=r.toList.Perm (a.toList++b.toList)∧r.toList.Pairwise le'
structure Cb (a b:Array Keyed):Prop where
 ia:IntKeys a
 ib:IntKeys b
 sa:a.toList.Pairwise le'
 sb:b.toList.Pairwise le'
 la:∀ y∈b.toList,numOf y.1≤K a (a.size - 1)
abbrev MM (a b o:Array Keyed) (i j:Nat):Prop:=M3 (a.toList++b.toList) o.toList (a.toList.drop i) (b.toList.drop j)
section
variable {a b o:Array Keyed} {i j:Nat}
theorem oW (a:Array Keyed) (i k:Nat):(a.extract i (i+k)).toList=(a.toList.drop i).take k:=by
 rw [Array.toList_extract,xB6,Nat.add_sub_cancel_left]
theorem fJ (a:Array Keyed) (i:Nat):(a.extract i a.size).toList=a.toList.drop i:=by
 rw [Array.toList_extract,xB6,List.take_of_length_le]
 rw [List.length_drop,xAh]
 exact xAg _
theorem jp:(fin a b o i j).toList=o.toList++a.toList.drop i++b.toList.drop j:=by
 unfold fin
 rw [xB1,xB1,fJ,fJ]
theorem oM:(las a b o i j).toList=o.toList++b.toList.drop j++a.toList.drop i:=by
 unfold las
 rw [xB1,xB1,fJ,fJ]
theorem drop_one (hi:i<a.size):(a.toList.drop i).take 1=[a[i]]∧(a.toList.drop i).drop 1=a.toList.drop (i+1):=by
 have hl:i<a.toList.length:=by rw [xAh];exact hi
 rw [xB2 hl]
 exact ⟨by simp,rfl⟩
theorem MM.pa (m:MM a b o i j) (hi:i<a.size) (h:∀ y∈b.toList.drop j,le' a[i] y):MM a b (o.push a[i]) (i+1) j:=by
 obtain ⟨e1,e2⟩:=drop_one hi
 have:=M3.takeA m 1 (by rw [e1];intro x hx;have e:=xAm.mp hx;rw [e];exact h)
 rw [e1,e2] at this
 show M3 _ (o.push a[i]).toList _ _
 rw [Array.toList_push]
 exact this
theorem MM.pb (m:MM a b o i j) (hj:j<b.size) (h:∀ x∈a.toList.drop i,le' b[j] x):MM a b (o.push b[j]) i (j+1):=by
 obtain ⟨e1,e2⟩:=drop_one hj
 have:=M3.takeB m 1 (by rw [e1];intro x hx;have e:=xAm.mp hx;rw [e];exact h)
 rw [e1,e2] at this
 show M3 _ (o.push b[j]).toList _ _
 rw [Array.toList_push]
 exact this
theorem MM.ea (m:MM a b o i j) (k:Nat) (h:∀ x∈(a.toList.drop i).take k,∀ y∈b.toList.drop j,le' x y):MM a b (o++a.extract i (i+k)) (i+k) j:=by
 have:=M3.takeA m k h
 rw [List.drop_drop] at this
 show M3 _ (o++a.extract i (i+k)).toList _ _
 rw [xB1,oW]
 exact this
theorem MM.eb (m:MM a b o i j) (k:Nat) (h:∀ y∈(b.toList.drop j).take k,∀ x∈a.toList.drop i,le' y x):MM a b (o++b.extract j (j+k)) i (j+k):=by
 have:=M3.takeB m k h
 rw [List.drop_drop] at this
 show M3 _ (o++b.extract j (j+k)).toList _ _
 rw [xB1,oW]
 exact this
theorem gk {n:Nat} (h:a.size≤n):a.toList.drop n=[]:=List.drop_eq_nil_of_le (by rw [xAh];exact h)
theorem MM.finB (m:MM a b o i j) (h:b.size≤j):RS a b (fin a b o i j):=by
 unfold RS
 rw [jp]
 exact M3.all m (by rw [gk h];exact fun _ _ _ z=>nomatch z)
theorem MM.finA (m:MM a b o i j) (h:a.size≤i):RS a b (fin a b o i j):=by
 unfold RS
 rw [jp]
 exact M3.all m (by rw [gk h];exact fun _ z=>nomatch z)
theorem MM.last (m:MM a b o i j) (c:Cb a b) (h:i+1=a.size):RS a b (las a b o i j):=by
 unfold RS
 rw [oM]
 refine M3.all (M3.swap m) fun y hy x hx=>?_
 have hi:i<a.size:=by lia
 obtain ⟨e1,e2⟩:=drop_one hi
 have e3:a.toList.drop i=[a[i]]:=by
  rw [← xBx 1 (a.toList.drop i),e1,e2,gk (by lia)]
  rfl
 rw [e3] at hx
 obtain rfl:x=a[i]:=by simpa using hx
 have:=c.la y (List.mem_of_mem_drop hy)
 rw [show a.size - 1=i by lia,K_eq hi] at this
 exact this
theorem eL (h:a.toList.Pairwise le'):Inc a 0 a.size:=fun i j _ hij hj=>by
 by_cases e:i=j
 ·rw [e];exact xBu _
 ·have hi:i<a.size:=by lia
  have:=(List.pairwise_iff_getElem.mp h) i j (by simpa using hi) (by simpa using hj) (by lia)
  rw [K_eq hi,K_eq hj]
  simpa [le'] using this
theorem wP (h:Inc a 0 a.size):a.toList.Pairwise le':=by
 rw [List.pairwise_iff_getElem]
 intro i j hi hj hij
 have hi':i<a.size:=by simpa using hi
 have hj':j<a.size:=by simpa using hj
 have:=h i j (xBn _) (Nat.le_of_lt hij) hj'
 rw [K_eq hi',K_eq hj'] at this
 simpa [le'] using this
theorem bM {y:Keyed} (h:y∈a.toList.drop i):∃ n,i≤n∧n<a.size∧numOf y.1=K a n:=by
 obtain ⟨n,hn,e⟩:=List.mem_iff_getElem.mp h
 rw [List.length_drop,xAh] at hn
 rw [List.getElem_drop] at e
 have h1:i+n<a.size:=by lia
 refine ⟨i+n,by lia,h1,?_⟩
 rw [K_eq h1,← e]
 simp
theorem cO {y:Keyed} {k:Nat} (h:y∈(a.toList.drop i).take k):∃ n,n<k∧i+n<a.size∧numOf y.1=K a (i+n):=by
 obtain ⟨n,hn,e⟩:=List.mem_iff_getElem.mp h
 rw [xAn,List.length_drop,xAh] at hn
 rw [List.getElem_take,List.getElem_drop] at e
 have h1:i+n<a.size:=by omega
 refine ⟨n,by omega,h1,?_⟩
 rw [K_eq h1,← e]
 simp
structure Sg (st₀ st:SortSt):Prop where
 k:kindOf st=oneType'
 a:arrOf st=arrOf st₀
 p:pendingOf st=pendingOf st₀
 f:failedOf st=failedOf st₀
theorem Sg.set {st₀ st:SortSt} (h:Sg st₀ st) (g:Nat):Sg st₀ (setG st g):=⟨h.k,h.a,h.p,h.f⟩
def Gd (a b:Array Keyed) (n:Nat) (r:Option (Array Keyed)) (o:Array Keyed) (i j:Nat):Prop:=match r with
 | some r=>RS a b r
 | none=>i+1<a.size∧j<b.size∧MM a b o i j∧n≤i+j
theorem gd {n:Nat} (h1:i+1<a.size) (h2:j<b.size) (m:MM a b o i j) (h4:n≤i+j):Gd a b n none o i j:=⟨h1,h2,m,h4⟩
section
variable {prog:Program} {w:World} {A:Around} {E:Value→Shared→Prop} {s:Shared} {st st₀:SortSt}
theorem cm (h:IntKeys a) (hi:i<a.size):∃ t,a[i].1 = .int (K a i) t:=by
 obtain ⟨t,q,e⟩:=iB h hi
 rw [getElem?_pos _ i hi] at e
 exact ⟨t,by rw [xB3 e]⟩
theorem wn {g x y:Nat} {Q:ForInStep Z1→SortSt→Prop} (c:Cb a b) (hk:kindOf st=oneType') (hi:i+1<a.size) (hj:j<b.size) (m:MM a b o i j)
  (hd:∀ z,Gd a b (i+j+1) z.1 z.2.1 z.2.2.1 z.2.2.2.1→Q (.done z) st) (hy:∀ z:Z1,z.1=none→Gd a b (i+j+1) none z.2.1 z.2.2.1 z.2.2.2.1→Q (.yield z) st) :
  wpS (model prog w) A E s (l1 a b g (none,o,i,j,x,y)) Q st:=by
 unfold l1
 dsimp only
 have hi':i<a.size:=by lia
 obtain ⟨t1,e1⟩:=cm c.ia hi'
 obtain ⟨t2,e2⟩:=cm c.ib hj
 refine xCd (aK hj (xCd (aK hi' (xCd (kT hk e2 e1 ?_)))))
 by_cases q:K b j<K a i
 ·simp only [q,decide_true,if_true]
  refine xCd (aK hj ?_)
  have m2:=m.pb hj fun x hx=>by
   obtain ⟨n,h1,h2,h3⟩:=bM hx
   have:=eL c.sa i n (xBn _) h1 h2
   show numOf b[j].1≤_
   rw [h3,← K_eq hj]
   lia
  by_cases q2:j+1=b.size
  ·rw [xCg (by simpa using q2)]
   exact xCe (hd _ (m2.finB (by lia)))
  ·rw [xCf (by simpa using q2)]
   by_cases q3:y+1 ≥ g
   ·rw [xCg q3]
    exact xCe (hd _ (gd (i:=i) (j:=j+1) hi (by lia) m2 (by lia)))
   ·rw [xCf q3]
    exact xCe (hy _ rfl (gd (i:=i) (j:=j+1) hi (by lia) m2 (by lia)))
 ·simp only [q,decide_false,xAz,if_false]
  refine xCd (aK hi' ?_)
  have m2:=m.pa hi' fun x hx=>by
   obtain ⟨n,h1,h2,h3⟩:=bM hx
   have:=eL c.sb j n (xBn _) h1 h2
   show numOf a[i].1≤_
   rw [h3,← K_eq hi']
   lia
  by_cases q2:i+1+1=a.size
  ·rw [xCg (by simpa using q2)]
   exact xCe (hd _ (m2.last c (by lia)))
  ·rw [xCf (by simpa using q2)]
   by_cases q3:x+1 ≥ g
   ·rw [xCg q3]
    exact xCe (hd _ (gd (i:=i+1) (j:=j) (by lia) hj m2 (by lia)))
   ·rw [xCf q3]
    exact xCe (hy _ rfl (gd (i:=i+1) (j:=j) (by lia) hj m2 (by lia)))
theorem rQ {g x y n:Nat} {Q:ForInStep Z2→SortSt→Prop} (c:Cb a b) (hi:i+1<a.size) (hj:j<b.size) (m:MM a b o i j) (hle:∀ n,j≤n→n<b.size→K a i≤K b n) (hn:n≤i+j+1)
  (hd:∀ z,Gd a b n z.1 z.2.1 z.2.2.1 z.2.2.2.1→Q (.done z) st) (hy:∀ z:Z2,z.1=none→Gd a b n none z.2.1 z.2.2.1 z.2.2.2.1→Q (.yield z) st) :
  wpS (model prog w) A E s (l4 a b o i j g x y) Q st:=by
 unfold l4
 have hi':i<a.size:=by lia
 refine xCd (aK hi' ?_)
 have m2:=m.pa hi' fun x hx=>by
  obtain ⟨n,h1,h2,h3⟩:=bM hx
  show numOf a[i].1≤_
  rw [h3,← K_eq hi']
  exact hle n h1 h2
 by_cases q2:i+1+1=a.size
 ·rw [xCg (by simpa using q2)]
  exact xCe (hd _ (m2.last c (by lia)))
 ·rw [xCf (by simpa using q2)]
  by_cases q3:(decide (x<7) && decide (y<7))=true
  ·rw [xCg q3]
   exact xCe (hd _ (gd (i:=i+1) (j:=j) (by lia) hj m2 (by lia)))
  ·rw [xCf q3]
   exact xCe (hy _ rfl (gd (i:=i+1) (j:=j) (by lia) hj m2 (by lia)))
theorem rR {g x y n:Nat} {Q:ForInStep Z2→SortSt→Prop} (c:Cb a b) (hk:kindOf st=oneType') (hi:i+1<a.size) (hj:j<b.size) (m:MM a b o i j) (hle:∀ n,i≤n→n<a.size→K b j≤K a n) (hn:n≤i+j+1)
  (hd:∀ z,Gd a b n z.1 z.2.1 z.2.2.1 z.2.2.2.1→Q (.done z) st) (hy:∀ z:Z2,z.1=none→Gd a b n none z.2.1 z.2.2.1 z.2.2.2.1→Q (.yield z) st) :
  wpS (model prog w) A E s (l3 a b o i j g x y) Q st:=by
 unfold l3
 have hi':i<a.size:=by lia
 refine xCd (aK hj ?_)
 have m2:=m.pb hj fun x hx=>by
  obtain ⟨n,h1,h2,h3⟩:=bM hx
  show numOf b[j].1≤_
  rw [h3,← K_eq hj]
  exact hle n h1 h2
 by_cases q2:j+1=b.size
 ·rw [xCg (by simpa using q2)]
  exact xCe (hd _ (m2.finB (by lia)))
 ·rw [xCf (by simpa using q2)]
  obtain ⟨t1,e1⟩:=cm c.ia hi'
  refine xCd (aK hi' (xCd (cH (left:=true) (arr:=b) (base:=j+1) (n:=b.size - (j+1)) (hint:=0) hk c.ib e1 (by lia) ?_ (by lia) fun k hk1 hk2 hk3=>?_)))
  ·intro u v _ huv hv
   exact eL c.sb u v (xBn _) huv (by lia)
  ·dsimp only
   have lo:∀ n,j+1+k≤n→n<b.size→K a i≤K b n:=fun n h1 h2=>by
    have:=hk3 (n - (j+1)) (by lia) (by lia)
    rw [show j+1+(n - (j+1))=n by lia] at this
    unfold Bt at this
    simp only [if_true,decide_eq_false_iff_not] at this
    lia
   by_cases q3:k > 0
   ·rw [xCg q3]
    have m3:=m2.eb k fun y hy x hx=>by
     obtain ⟨n,h1,h2,h3⟩:=cO hy
     obtain ⟨n',h1',h2',h3'⟩:=bM hx
     have z1:=hk2 n h1
     have z2:=eL c.sa i n' (xBn _) h1' h2'
     unfold Bt at z1
     simp only [if_true,decide_eq_true_eq] at z1
     show numOf y.1≤numOf x.1
     rw [h3,h3']
     lia
    by_cases q4:j+1+k=b.size
    ·rw [xCg (by simpa using q4)]
     exact xCe (hd _ (m3.finB (by lia)))
    ·rw [xCf (by simpa using q4)]
     exact rQ c hi (by lia) m3 lo (by lia) hd hy
   ·rw [xCf q3]
    obtain rfl:k=0:=by lia
    exact rQ c hi (by lia) m2 lo (by lia) hd hy
theorem rS {g x y n:Nat} {Q:ForInStep Z2→SortSt→Prop} (c:Cb a b) (hS:Sg st₀ st) (hi:i+1<a.size) (hj:j<b.size) (m:MM a b o i j) (hn:n≤i+j+1)
  (hd:∀ z st,Sg st₀ st→Gd a b n z.1 z.2.1 z.2.2.1 z.2.2.2.1→Q (.done z) st) (hy:∀ (z:Z2) st,Sg st₀ st→z.1=none→Gd a b n none z.2.1 z.2.2.1 z.2.2.2.1→Q (.yield z) st) :
  wpS (model prog w) A E s (l2 a b o i j g x y) Q st:=by
 unfold l2
 have hi':i<a.size:=by lia
 have hS2:=hS.set g
 refine xCd (wpS_modify ?_)
 obtain ⟨t1,e1⟩:=cm c.ib hj
 refine xCd (aK hj (xCd (cH (left:=false) (arr:=a) (base:=i) (n:=a.size - i) (hint:=0) hS2.k c.ia e1 (by lia) ?_ (by lia) fun k hk1 hk2 hk3=>?_)))
 ·intro u v _ huv hv
  exact eL c.sa u v (xBn _) huv (by lia)
 ·dsimp only
  have lo:∀ n,i+k≤n→n<a.size→K b j≤K a n:=fun n h1 h2=>by
   have:=hk3 (n - i) (by lia) (by lia)
   rw [show i+(n - i)=n by lia] at this
   unfold Bt at this
   simp only [xAz,if_false,Bool.not_eq_false',decide_eq_true_eq] at this
   lia
  by_cases q3:k > 0
  ·rw [xCg q3]
   have m3:=m.ea k fun x hx y hy=>by
    obtain ⟨n,h1,h2,h3⟩:=cO hx
    obtain ⟨n',h1',h2',h3'⟩:=bM hy
    have z1:=hk2 n h1
    have z2:=eL c.sb j n' (xBn _) h1' h2'
    unfold Bt at z1
    simp only [xAz,if_false,Bool.not_eq_true',decide_eq_false_iff_not] at z1
    show numOf x.1≤numOf y.1
    rw [h3,h3']
    lia
   by_cases q4:i+k+1=a.size
   ·rw [xCg (by simpa using q4)]
    exact xCe (hd _ _ hS2 (m3.last c q4))
   ·rw [xCf (by simpa using q4)]
    by_cases q5:i+k=a.size
    ·rw [xCg (by simpa using q5)]
     exact xCe (hd _ _ hS2 (m3.finA (by lia)))
    ·rw [xCf (by simpa using q5)]
     exact rR c hS2.k (by lia) hj m3 lo (by lia) (fun z=>hd z _ hS2) (fun z=>hy z _ hS2)
  ·rw [xCf q3]
   obtain rfl:k=0:=by lia
   exact rR c hS2.k hi hj m lo (by lia) (fun z=>hd z _ hS2) (fun z=>hy z _ hS2)
theorem wo {g n:Nat} {Q:ForInStep Z0→SortSt→Prop} (c:Cb a b) (hS:Sg st₀ st) (hi:i+1<a.size) (hj:j<b.size) (m:MM a b o i j) (hn:n≤i+j)
  (hd:∀ r z st,Sg st₀ st→RS a b r→Q (.done (some r,z)) st) (hy:∀ o i j g st,Sg st₀ st→Gd a b (n+1) none o i j→Q (.yield (none,o,i,j,g)) st) :
  wpS (model prog w) A E s (l0 a b (none,o,i,j,g)) Q st:=by
 unfold l0
 dsimp only
 refine xCd (wpS_mono (wpS_forRange (I:=fun t z st'=>st'=st∧z.1=none∧Gd a b (n+t) none z.2.1 z.2.2.1 z.2.2.2.1) (Q:=fun z st'=>st'=st∧Gd a b (n+1) z.1 z.2.1 z.2.2.1 z.2.2.2.1) ?step ?fin ⟨rfl,rfl,hi,hj,m,by lia⟩) ?post)
 case fin =>
  rintro ⟨r,z⟩ st' ⟨rfl,e,h1,h2,h3,h4⟩
  obtain rfl:r=none:=e
  dsimp only at h1 h2 h3 h4 ⊢
  exact ⟨rfl,h1,h2,h3,by lia⟩
 case step =>
  rintro t ⟨r,o',i',j',x',y'⟩ st' _ ht ⟨rfl,e,h1,h2,h3,h4⟩
  obtain rfl:r=none:=e
  dsimp only at h1 h2 h3 h4
  refine wn c hS.k h1 h2 h3 (fun z hz=>⟨rfl,?_⟩) (fun z e hz=>⟨rfl,e,?_⟩)
  ·cases er:z.1 with
   | some r=>rw [er] at hz;exact hz
   | none=>rw [er] at hz;exact ⟨hz.1,hz.2.1,hz.2.2.1,by have:=hz.2.2.2;lia⟩
  ·exact ⟨hz.1,hz.2.1,hz.2.2.1,by have:=hz.2.2.2;lia⟩
 case post =>
  rintro ⟨r,o',i',j',x',y'⟩ st' ⟨rfl,hg⟩
  cases r with
  | some r=>exact xCe (hd _ _ _ hS hg)
  | none =>
   obtain ⟨h1,h2,h3,h4⟩:=hg
   dsimp only at h1 h2 h3 h4 ⊢
   refine xCd (wpS_lift (wpAny_rule ⟨rfl,?_⟩))
   refine xCd (wpS_mono (wpS_forRange (I:=fun t z st'=>Sg st₀ st'∧z.1=none∧Gd a b (n+1) none z.2.1 z.2.2.1 z.2.2.2.1) (Q:=fun z st'=>Sg st₀ st'∧Gd a b (n+1) z.1 z.2.1 z.2.2.1 z.2.2.2.1) ?step2 ?fin2 ⟨hS,rfl,h1,h2,h3,h4⟩) ?post2)
   case fin2 =>
    rintro ⟨r,z⟩ st' ⟨hS',e,hg⟩
    obtain rfl:r=none:=e
    exact ⟨hS',hg⟩
   case step2 =>
    rintro t ⟨r,o',i',j',g',x',y'⟩ st' _ ht ⟨hS',e,h1,h2,h3,h4⟩
    obtain rfl:r=none:=e
    dsimp only at h1 h2 h3 h4 ⊢
    by_cases hg:g' > 1
    ·rw [xCg hg]
     exact rS c hS' h1 h2 h3 (by lia) (fun z st2 hS2 hz=>⟨hS2,hz⟩) (fun z st2 hS2 e hz=>⟨hS2,e,hz⟩)
    ·rw [xCf hg]
     exact rS c hS' h1 h2 h3 (by lia) (fun z st2 hS2 hz=>⟨hS2,hz⟩) (fun z st2 hS2 e hz=>⟨hS2,e,hz⟩)
   case post2 =>
    rintro ⟨r,o',i',j',g',x',y'⟩ st' ⟨hS',hg⟩
    cases r with
    | some r=>exact xCe (hd _ _ _ hS' hg)
    | none=>exact xCd (wpS_modify (xCe (hy _ _ _ _ _ (hS'.set _) hg)))
theorem jV {Q:Array Keyed→SortSt→Prop} (c:Cb a b) (hS:Sg st₀ st) (ha:0<a.size) (hb:0<b.size) (h0:K b 0≤K a 0) (h:∀ r st,Sg st₀ st→RS a b r→Q r st):wpS (model prog w) A E s (mergeLo' a b) Q st:=by
 rw [jk]
 refine xCd (wpS_lift (wpAny_rule ⟨rfl,?_⟩))
 refine xCd (aK hb ?_)
 have m0:MM a b #[] 0 0:=⟨by simp,by simp,by simpa using c.sa,by simpa using c.sb,fun _ z=>(by simp at z),fun _ z=>(by simp at z)⟩
 have m1:MM a b #[b[0]] 0 1:=m0.pb hb fun x hx=>by
  obtain ⟨n,h1,h2,h3⟩:=bM hx
  have:=eL c.sa 0 n (xBn _) h1 h2
  show numOf b[0].1≤_
  rw [h3,← K_eq hb]
  lia
 by_cases q1:1=b.size
 ·rw [xCg (by simpa using q1)]
  exact xCe (h _ _ hS (m1.finB (by lia)))
 ·rw [xCf (by simpa using q1)]
  by_cases q2:0+1=a.size
  ·rw [xCg (by simpa using q2)]
   exact xCe (h _ _ hS (m1.last c q2))
  ·rw [xCf (by simpa using q2)]
   refine xCd (wpS_get ?_)
   refine xCd (wpS_mono (wpS_forRange (I:=fun t z st'=>Sg st₀ st'∧z.1=none∧Gd a b (t+1) none z.2.1 z.2.2.1 z.2.2.2.1) (Q:=fun z st'=>Sg st₀ st'∧∃ r,z.1=some r∧RS a b r) ?step ?fin ⟨hS,rfl,gd (i:=0) (j:=1) (by lia) (by lia) m1 (by lia)⟩) ?post)
   case fin =>
    rintro z st' ⟨_,_,h1,h2,_,h4⟩
    lia
   case step =>
    rintro t ⟨r,o',i',j',g'⟩ st' _ ht ⟨hS',e,h1,h2,h3,h4⟩
    obtain rfl:r=none:=e
    dsimp only at h1 h2 h3 h4 ⊢
    exact wo c hS' h1 h2 h3 h4 (fun r z st2 hS2 hr=>⟨hS2,r,rfl,hr⟩) (fun o i j g st2 hS2 hz=>⟨hS2,rfl,hz⟩)
   case post =>
    rintro ⟨r,z⟩ st' ⟨hS',r',e,hr⟩
    obtain rfl:r=some r':=e
    exact xCe (h _ _ hS' hr)
end
end
end Tim
namespace Tim
open PySem PyProof.Rows
def mergeHi':Array Keyed→Array Keyed→StateT SortSt Sem (Array Keyed):=sortPriv% PySem.Builtin.mergeHi
abbrev Y1:=Option (Array Keyed)×Nat×Nat×Array Keyed×Nat×Nat
abbrev Y2:=Option (Array Keyed)×Nat×Nat×Array Keyed×Nat×Nat×Nat
abbrev Y0:=Option (Array Keyed)×Nat×Nat×Array Keyed×Nat
def fin2 (a b:Array Keyed) (o:Array Keyed) (i j:Nat):Array Keyed:=a.extract 0 i++b.extract 0 j++o.reverse
def fst2 (a b:Array Keyed) (o:Array Keyed) (i j:Nat):Array Keyed:=b.extract 0 j++a.extract 0 i++o.reverse
def h1 (a b:Array Keyed) (g:Nat) (z:Y1):StateT SortSt Sem (ForInStep Y1):=do
 let u ← elem' b (z.2.2.1 - 1)
 let v ← elem' a (z.2.1 - 1)
 let q ← lt' u v
 match q with
 | some q =>
  if q=true then do
   let u ← elem' a (z.2.1 - 1)
   if (z.2.1 - 1 == 0)=true then pure (.done (some (fin2 a b (z.2.2.2.1.push u) (z.2.1 - 1) z.2.2.1),z.2.1 - 1,z.2.2.1,z.2.2.2.1.push u,z.2.2.2.2.1+1,0))
   else if z.2.2.2.2.1+1 ≥ g then pure (.done (none,z.2.1 - 1,z.2.2.1,z.2.2.2.1.push u,z.2.2.2.2.1+1,0))
   else pure (.yield (none,z.2.1 - 1,z.2.2.1,z.2.2.2.1.push u,z.2.2.2.2.1+1,0))
  else do
   let u ← elem' b (z.2.2.1 - 1)
   if (z.2.2.1 - 1 == 1)=true then pure (.done (some (fst2 a b (z.2.2.2.1.push u) z.2.1 (z.2.2.1 - 1)),z.2.1,z.2.2.1 - 1,z.2.2.2.1.push u,0,z.2.2.2.2.2+1))
   else if z.2.2.2.2.2+1 ≥ g then pure (.done (none,z.2.1,z.2.2.1 - 1,z.2.2.2.1.push u,0,z.2.2.2.2.2+1))
   else pure (.yield (none,z.2.1,z.2.2.1 - 1,z.2.2.2.1.push u,0,z.2.2.2.2.2+1))
 | _=>pure (.done (some (fin2 a b z.2.2.2.1 z.2.1 z.2.2.1),z.2.1,z.2.2.1,z.2.2.2.1,z.2.2.2.2.1,z.2.2.2.2.2))
def h4 (a b:Array Keyed) (i j:Nat) (o:Array Keyed) (g x y:Nat):StateT SortSt Sem (ForInStep Y2):=do
 let u ← elem' a (i - 1)
 if (i - 1 == 0)=true then pure (.done (some (fin2 a b (o.push u) (i - 1) j),i - 1,j,o.push u,g,x,y))
 else if (decide (x<7) && decide (y<7))=true then pure (.done (none,i - 1,j,o.push u,g,x,y))
 else pure (.yield (none,i - 1,j,o.push u,g,x,y))
def h3 (a b:Array Keyed) (i j:Nat) (o:Array Keyed) (g x y:Nat):StateT SortSt Sem (ForInStep Y2):=do
 let u ← elem' b (j - 1)
 if (j - 1 == 1)=true then pure (.done (some (fst2 a b (o.push u) i (j - 1)),i,j - 1,o.push u,g,x,y))
 else do
  let v ← elem' a (i - 1)
  let q ← gallop' true v b 0 (j - 1) (j - 1 - 1)
  match q with
  | some k =>
   if j - 1 - k > 0 then
    if (k == 1)=true then pure (.done (some (fst2 a b (o.push u++(b.extract k (j - 1)).reverse) i k),i,k,o.push u++(b.extract k (j - 1)).reverse,g,x,j - 1 - k))
    else if (k == 0)=true then pure (.done (some (fin2 a b (o.push u++(b.extract k (j - 1)).reverse) i k),i,k,o.push u++(b.extract k (j - 1)).reverse,g,x,j - 1 - k))
    else h4 a b i k (o.push u++(b.extract k (j - 1)).reverse) g x (j - 1 - k)
   else h4 a b i (j - 1) (o.push u) g x (j - 1 - k)
  | _=>pure (.done (some (fin2 a b (o.push u) i (j - 1)),i,j - 1,o.push u,g,x,y))
def h2 (a b:Array Keyed) (i j:Nat) (o:Array Keyed) (g x y:Nat):StateT SortSt Sem (ForInStep Y2):=do
 modify fun st=>setG st g
 let u ← elem' b (j - 1)
 let q ← gallop' false u a 0 i (i - 1)
 match q with
 | some k =>
  if i - k > 0 then
   if (k == 0)=true then pure (.done (some (fin2 a b (o++(a.extract k i).reverse) k j),k,j,o++(a.extract k i).reverse,g,i - k,y))
   else h3 a b k j (o++(a.extract k i).reverse) g (i - k) y
  else h3 a b i j o g (i - k) y
 | _=>pure (.done (some (fin2 a b o i j),i,j,o,g,x,y))
def h0 (a b:Array Keyed) (z:Y0):StateT SortSt Sem (ForInStep Y0):=do
 let y ← forIn [0:a.size+b.size] ((none,z.2.1,z.2.2.1,z.2.2.2.1,0,0):Y1) fun _ y=>h1 a b z.2.2.2.2 y
 match y.1 with
 | some r=>pure (.done (some r,y.2.1,y.2.2.1,y.2.2.2.1,z.2.2.2.2))
 | none=>do
  liftM (rule "list.sort.gallop")
  let x ← forIn [0:a.size+b.size] ((none,y.2.1,y.2.2.1,y.2.2.2.1,z.2.2.2.2+1,y.2.2.2.2.1,y.2.2.2.2.2):Y2) fun _ x =>
   if x.2.2.2.2.1 > 1 then h2 a b x.2.1 x.2.2.1 x.2.2.2.1 (x.2.2.2.2.1 - 1) x.2.2.2.2.2.1 x.2.2.2.2.2.2 else h2 a b x.2.1 x.2.2.1 x.2.2.2.1 x.2.2.2.2.1 x.2.2.2.2.2.1 x.2.2.2.2.2.2
  match x.1 with
  | some r=>pure (.done (some r,x.2.1,x.2.2.1,x.2.2.2.1,x.2.2.2.2.1))
  | none=>do
   modify fun st=>setG st (x.2.2.2.2.1+1)
   pure (.yield (none,x.2.1,x.2.2.1,x.2.2.2.1,x.2.2.2.2.1+1))
theorem iz (a b:Array Keyed):mergeHi' a b=(do
 rule "list.sort.merge-hi"
 let T:=a.size+b.size
 let fi (o:Array Keyed) (i j:Nat):=a.extract 0 i++b.extract 0 j++o.reverse
 let la (o:Array Keyed) (i j:Nat):=b.extract 0 j++a.extract 0 i++o.reverse
 let mut i:=a.size - 1
 let mut j:=b.size
 let mut o:Array Keyed:=#[← elem' a i]
 if i == 0 then return fi o i j
 if j == 1 then return la o i j
 let mut g:=gallopOf (← get)
 for _ in [0:T] do
  let mut x:=0
  let mut y:=0
  for _ in [0:T] do
   let some q ← lt' (← elem' b (j - 1)) (← elem' a (i - 1)) | return fi o i j
   if q then
    i:=i - 1;o:=o.push (← elem' a i);x:=x+1;y:=0
    if i == 0 then return fi o i j
    if x ≥ g then break
   else
    j:=j - 1;o:=o.push (← elem' b j);y:=y+1;x:=0
    if j == 1 then return la o i j
    if y ≥ g then break
  rule "list.sort.gallop"
  g:=g+1
  for _ in [0:T] do
   if g > 1 then g:=g - 1
   modify fun st=>setG st g
   let some k ← gallop' false (← elem' b (j - 1)) a 0 i (i - 1) | return fi o i j
   let d:=i - k
   x:=d
   if d > 0 then
    o:=o++(a.extract k i).reverse;i:=k
    if i == 0 then return fi o i j
   j:=j - 1;o:=o.push (← elem' b j)
   if j == 1 then return la o i j
   let some k ← gallop' true (← elem' a (i - 1)) b 0 j (j - 1) | return fi o i j
   let d:=j - k
   y:=d
   if d > 0 then
    o:=o++(b.extract k j).reverse;j:=k
    if j == 1 then return la o i j
    if j == 0 then return fi o i j
   i:=i - 1;o:=o.push (← elem' a i)
   if i == 0 then return fi o i j
   if x<7 && y<7 then break
  g:=g+1
  modify fun st=>setG st g
 unsupported "internal:list.sort.merge-bound"):=rfl
theorem jl (a b:Array Keyed):mergeHi' a b=(do
 liftM (rule "list.sort.merge-hi")
 let u ← elem' a (a.size - 1)
 if (a.size - 1 == 0)=true then pure (fin2 a b #[u] (a.size - 1) b.size)
 else if (b.size == 1)=true then pure (fst2 a b #[u] (a.size - 1) b.size)
 else do
  let st ← get
  let z ← forIn [0:a.size+b.size] ((none,a.size - 1,b.size,#[u],gallopOf st):Y0) fun _ z=>h0 a b z
  match z.1 with
  | some r=>pure r
  | none=>liftM (unsupported "internal:list.sort.merge-bound":Sem (Array Keyed))):=by
 rw [iz]
 dsimp only
 congr 1;funext _;congr 1;funext u
 congr 1
 congr 1
 congr 1;funext st
 congr 1
 ·congr 1;funext _ z
  unfold h0
  congr 1
  funext y
  obtain ⟨r,y⟩:=y
  cases r with
  | some r=>rfl
  | none =>
   dsimp only
   congr 1
   funext _
   congr 1
   funext x
   obtain ⟨r,x⟩:=x
   cases r <;> rfl
 ·funext z
  obtain ⟨r,z⟩:=z
  cases r <;> rfl
end Tim
namespace Tim
open PySem PyProof.Rows
structure N3 (L A B O:List Keyed):Prop where
 pm:(A++(B++O)).Perm L
 so:O.Pairwise le'
 sa:A.Pairwise le'
 sb:B.Pairwise le'
 ca:∀ x∈A,∀ y∈O,le' x y
 cb:∀ x∈B,∀ y∈O,le' x y
section
variable {L O A B:List Keyed}
theorem N3.takeA (m:N3 L A B O) (k:Nat) (h:∀ x∈A.drop k,∀ y∈B,le' y x):N3 L (A.take k) B (A.drop k++O):=by
 obtain ⟨t1,t2,t3⟩:=kO m.sa k
 refine ⟨?_,List.pairwise_append.mpr ⟨t2,m.so,fun x hx y hy=>m.ca x (List.mem_of_mem_drop hx) y hy⟩,t1,m.sb,fun x hx y hy=>?_,fun x hx y hy=>?_⟩
 ·refine List.Perm.trans ?_ m.pm
  have e:(A++(B++O))=A.take k++(A.drop k++(B++O)):=by rw [← xAx (A.take k),xBx]
  rw [e]
  refine List.Perm.append_left _ ?_
  rw [← xAx,← xAx]
  exact List.Perm.append_right _ List.perm_append_comm
 ·rcases xAj.mp hy with z | z
  ·exact t3 x hx y z
  ·exact m.ca x (xBj hx) y z
 ·rcases xAj.mp hy with z | z
  ·exact h y z x hx
  ·exact m.cb x hx y z
theorem N3.swap (m:N3 L A B O):N3 L B A O:=⟨by
  refine List.Perm.trans ?_ m.pm
  rw [← xAx,← xAx]
  exact List.Perm.append_right _ List.perm_append_comm,m.so,m.sb,m.sa,m.cb,m.ca⟩
theorem N3.takeB (m:N3 L A B O) (k:Nat) (h:∀ y∈B.drop k,∀ x∈A,le' x y):N3 L A (B.take k) (B.drop k++O):=(m.swap.takeA k h).swap
theorem N3.all (m:N3 L A B O) (h:∀ x∈A,∀ y∈B,le' x y):(A++B++O).Perm L∧(A++B++O).Pairwise le':=by
 rw [xAx]
 refine ⟨m.pm,List.pairwise_append.mpr ⟨m.sa,List.pairwise_append.mpr ⟨m.sb,m.so,m.cb⟩,fun x hx y hy=>?_⟩⟩
 rcases xAj.mp hy with z | z
 ·exact h x hx y z
 ·exact m.ca x hx y z
end
abbrev NN (a b o:Array Keyed) (i j:Nat):Prop:=N3 (a.toList++b.toList) (a.toList.take i) (b.toList.take j) o.toList.reverse
structure Db (a b:Array Keyed):Prop extends Cb a b where
 fb:∀ x∈a.toList,K b 0≤numOf x.1
section
variable {a b o:Array Keyed} {i j:Nat}
theorem lj (a:Array Keyed) (i:Nat):(a.extract 0 i).toList=a.toList.take i:=by
 rw [Array.toList_extract,xB6,List.drop_zero,Nat.sub_zero]
theorem rY (a:Array Keyed) (k i:Nat) (h:k≤i) (hi:i≤a.size):(a.extract k i).toList=(a.toList.take i).drop k:=by
 rw [Array.toList_extract,xB6,List.drop_take]
theorem gK:(fin2 a b o i j).toList=a.toList.take i++b.toList.take j++o.toList.reverse:=by
 unfold fin2
 rw [xB1,xB1,lj,lj,Array.toList_reverse]
theorem mE:(fst2 a b o i j).toList=b.toList.take j++a.toList.take i++o.toList.reverse:=by
 unfold fst2
 rw [xB1,xB1,lj,lj,Array.toList_reverse]
theorem fP (h0:0<i) (hi:i≤a.size):(a.toList.take i).drop (i - 1)=[a[i - 1]]∧(a.toList.take i).take (i - 1)=a.toList.take (i - 1):=by
 have hl:i - 1<a.toList.length:=by rw [xAh];lia
 refine ⟨?_,by rw [List.take_take];congr 1;lia⟩
 rw [List.drop_take,xB2 hl,show i - (i - 1)=1 by lia]
 simp
theorem NN.pa (m:NN a b o i j) (h0:0<i) (hi:i≤a.size) (h:∀ y∈b.toList.take j,le' y a[i - 1]):NN a b (o.push a[i - 1]) (i - 1) j:=by
 obtain ⟨e1,e2⟩:=fP h0 hi
 have:=N3.takeA m (i - 1) (by rw [e1];intro x hx;have e:=xAm.mp hx;rw [e];exact h)
 rw [e1,e2] at this
 change N3 _ _ _ (o.push a[i - 1]).toList.reverse
 rw [Array.toList_push,List.reverse_append]
 exact this
theorem NN.pb (m:NN a b o i j) (h0:0<j) (hj:j≤b.size) (h:∀ x∈a.toList.take i,le' x b[j - 1]):NN a b (o.push b[j - 1]) i (j - 1):=by
 obtain ⟨e1,e2⟩:=fP h0 hj
 have:=N3.takeB m (j - 1) (by rw [e1];intro x hx;have e:=xAm.mp hx;rw [e];exact h)
 rw [e1,e2] at this
 change N3 _ _ _ (o.push b[j - 1]).toList.reverse
 rw [Array.toList_push,List.reverse_append]
 exact this
theorem NN.ea (m:NN a b o i j) (k:Nat) (hk:k≤i) (hi:i≤a.size) (h:∀ x∈(a.toList.take i).drop k,∀ y∈b.toList.take j,le' y x):NN a b (o++(a.extract k i).reverse) k j:=by
 have:=N3.takeA m k h
 rw [List.take_take,Nat.min_eq_left hk] at this
 change N3 _ _ _ (o++(a.extract k i).reverse).toList.reverse
 rw [xB1,Array.toList_reverse,List.reverse_append,List.reverse_reverse,rY a k i hk hi]
 exact this
theorem NN.eb (m:NN a b o i j) (k:Nat) (hk:k≤j) (hj:j≤b.size) (h:∀ y∈(b.toList.take j).drop k,∀ x∈a.toList.take i,le' x y):NN a b (o++(b.extract k j).reverse) i k:=by
 have:=N3.takeB m k h
 rw [List.take_take,Nat.min_eq_left hk] at this
 change N3 _ _ _ (o++(b.extract k j).reverse).toList.reverse
 rw [xB1,Array.toList_reverse,List.reverse_append,List.reverse_reverse,rY b k j hk hj]
 exact this
theorem NN.finA (m:NN a b o i j) (h:i=0):RS a b (fin2 a b o i j):=by
 unfold RS
 rw [gK]
 exact N3.all m (by rw [h,List.take_zero];exact fun _ z=>nomatch z)
theorem NN.finB (m:NN a b o i j) (h:j=0):RS a b (fin2 a b o i j):=by
 unfold RS
 rw [gK]
 exact N3.all m (by rw [h,List.take_zero];exact fun _ _ _ z=>nomatch z)
theorem NN.first (m:NN a b o i j) (c:Db a b) (hb:0<b.size) (h:j=1):RS a b (fst2 a b o i j):=by
 unfold RS
 rw [mE]
 refine N3.all (N3.swap m) fun y hy x hx=>?_
 subst h
 have e:b.toList.take 1=[b[0]]:=by
  have:=(fP (a:=b) (i:=1) (by lia) (by lia)).1
  simpa using this
 rw [e] at hy
 have ey:=xAm.mp hy
 have:=c.fb x (xBj hx)
 rw [K_eq hb] at this
 rw [ey]
 exact this
theorem bR {y:Keyed} (h:y∈a.toList.take i):∃ n,n<i∧n<a.size∧numOf y.1=K a n:=by
 have h':y∈(a.toList.drop 0).take i:=by rw [List.drop_zero];exact h
 obtain ⟨n,h1,h2,h3⟩:=cO h'
 rw [Nat.zero_add] at h2 h3
 exact ⟨n,h1,h2,h3⟩
theorem gI {y:Keyed} {k:Nat} (h:y∈(a.toList.take i).drop k):∃ n,k≤n∧n<i∧n<a.size∧numOf y.1=K a n:=by
 rw [List.drop_take] at h
 obtain ⟨n,h1,h2,h3⟩:=cO h
 exact ⟨k+n,by lia,by lia,h2,h3⟩
def Hd (a b:Array Keyed) (n:Nat) (r:Option (Array Keyed)) (i j:Nat) (o:Array Keyed):Prop:=match r with
 | some r=>RS a b r
 | none=>(0<i∧i≤a.size)∧(1<j∧j≤b.size)∧NN a b o i j∧i+j+n≤a.size+b.size
theorem hdd {n:Nat} (h1:0<i∧i≤a.size) (h2:1<j∧j≤b.size) (m:NN a b o i j) (h4:i+j+n≤a.size+b.size):Hd a b n none i j o:=⟨h1,h2,m,h4⟩
section
variable {prog:Program} {w:World} {A:Around} {E:Value→Shared→Prop} {s:Shared} {st st₀:SortSt}
theorem wp {g x y n:Nat} {Q:ForInStep Y1→SortSt→Prop} (c:Db a b) (hk:kindOf st=oneType') (hi:0<i∧i≤a.size) (hj:1<j∧j≤b.size) (m:NN a b o i j) (hn:i+j+n≤a.size+b.size+1)
  (hd:∀ z,Hd a b n z.1 z.2.1 z.2.2.1 z.2.2.2.1→Q (.done z) st) (hy:∀ z:Y1,z.1=none→Hd a b n none z.2.1 z.2.2.1 z.2.2.2.1→Q (.yield z) st) :
  wpS (model prog w) A E s (h1 a b g (none,i,j,o,x,y)) Q st:=by
 unfold h1
 dsimp only
 have hi':i - 1<a.size:=by lia
 have hj':j - 1<b.size:=by lia
 obtain ⟨t1,e1⟩:=cm c.ia hi'
 obtain ⟨t2,e2⟩:=cm c.ib hj'
 refine xCd (aK hj' (xCd (aK hi' (xCd (kT hk e2 e1 ?_)))))
 by_cases q:K b (j - 1)<K a (i - 1)
 ·simp only [q,decide_true,if_true]
  refine xCd (aK hi' ?_)
  have m2:=m.pa hi.1 hi.2 fun y hy=>by
   obtain ⟨n,g1,g2,g3⟩:=bR hy
   have:=eL c.sb n (j - 1) (xBn _) (by lia) hj'
   show _≤numOf a[i - 1].1
   rw [g3,← K_eq hi']
   lia
  by_cases q2:i - 1=0
  ·rw [xCg (by simpa using q2)]
   exact xCe (hd _ (m2.finA q2))
  ·rw [xCf (by simpa using q2)]
   by_cases q3:x+1 ≥ g
   ·rw [xCg q3]
    exact xCe (hd _ (hdd (i:=i - 1) (j:=j) (by lia) hj m2 (by lia)))
   ·rw [xCf q3]
    exact xCe (hy _ rfl (hdd (i:=i - 1) (j:=j) (by lia) hj m2 (by lia)))
 ·simp only [q,decide_false,xAz,if_false]
  refine xCd (aK hj' ?_)
  have m2:=m.pb (by lia) hj.2 fun x hx=>by
   obtain ⟨n,g1,g2,g3⟩:=bR hx
   have:=eL c.sa n (i - 1) (xBn _) (by lia) hi'
   show _≤numOf b[j - 1].1
   rw [g3,← K_eq hj']
   lia
  by_cases q2:j - 1=1
  ·rw [xCg (by simpa using q2)]
   exact xCe (hd _ (m2.first c (by lia) q2))
  ·rw [xCf (by simpa using q2)]
   by_cases q3:y+1 ≥ g
   ·rw [xCg q3]
    exact xCe (hd _ (hdd (i:=i) (j:=j - 1) hi (by lia) m2 (by lia)))
   ·rw [xCf q3]
    exact xCe (hy _ rfl (hdd (i:=i) (j:=j - 1) hi (by lia) m2 (by lia)))
theorem rT {g x y n:Nat} {Q:ForInStep Y2→SortSt→Prop} (c:Db a b) (hi:0<i∧i≤a.size) (hj:1<j∧j≤b.size) (m:NN a b o i j) (hle:∀ n,n<j→K b n≤K a (i - 1)) (hn:i+j+n≤a.size+b.size+1)
  (hd:∀ z,Hd a b n z.1 z.2.1 z.2.2.1 z.2.2.2.1→Q (.done z) st) (hy:∀ z:Y2,z.1=none→Hd a b n none z.2.1 z.2.2.1 z.2.2.2.1→Q (.yield z) st) :
  wpS (model prog w) A E s (h4 a b i j o g x y) Q st:=by
 unfold h4
 have hi':i - 1<a.size:=by lia
 refine xCd (aK hi' ?_)
 have m2:=m.pa hi.1 hi.2 fun y hy=>by
  obtain ⟨n,g1,g2,g3⟩:=bR hy
  show _≤numOf a[i - 1].1
  rw [g3,← K_eq hi']
  exact hle n g1
 by_cases q2:i - 1=0
 ·rw [xCg (by simpa using q2)]
  exact xCe (hd _ (m2.finA q2))
 ·rw [xCf (by simpa using q2)]
  by_cases q3:(decide (x<7) && decide (y<7))=true
  ·rw [xCg q3]
   exact xCe (hd _ (hdd (i:=i - 1) (j:=j) (by lia) hj m2 (by lia)))
  ·rw [xCf q3]
   exact xCe (hy _ rfl (hdd (i:=i - 1) (j:=j) (by lia) hj m2 (by lia)))
theorem rV {g x y n:Nat} {Q:ForInStep Y2→SortSt→Prop} (c:Db a b) (hk:kindOf st=oneType') (hi:0<i∧i≤a.size) (hj:1<j∧j≤b.size) (m:NN a b o i j) (hle:∀ n,n<i→K a n≤K b (j - 1)) (hn:i+j+n≤a.size+b.size+1)
  (hd:∀ z,Hd a b n z.1 z.2.1 z.2.2.1 z.2.2.2.1→Q (.done z) st) (hy:∀ z:Y2,z.1=none→Hd a b n none z.2.1 z.2.2.1 z.2.2.2.1→Q (.yield z) st) :
  wpS (model prog w) A E s (h3 a b i j o g x y) Q st:=by
 unfold h3
 have hi':i - 1<a.size:=by lia
 have hj':j - 1<b.size:=by lia
 refine xCd (aK hj' ?_)
 have m2:=m.pb (by lia) hj.2 fun x hx=>by
  obtain ⟨n,g1,g2,g3⟩:=bR hx
  show _≤numOf b[j - 1].1
  rw [g3,← K_eq hj']
  exact hle n g1
 by_cases q2:j - 1=1
 ·rw [xCg (by simpa using q2)]
  exact xCe (hd _ (m2.first c (by lia) q2))
 ·rw [xCf (by simpa using q2)]
  obtain ⟨t1,e1⟩:=cm c.ia hi'
  refine xCd (aK hi' (xCd (cH (left:=true) (arr:=b) (base:=0) (n:=j - 1) (hint:=j - 1 - 1) hk c.ib e1 (by lia) ?_ (by lia) fun k hk1 hk2 hk3=>?_)))
  ·intro u v _ huv hv
   exact eL c.sb u v (xBn _) huv (by lia)
  ·dsimp only
   have lo:∀ n,n<k→K b n≤K a (i - 1):=fun n g1=>by
    have:=hk2 n g1
    rw [Nat.zero_add] at this
    unfold Bt at this
    simp only [if_true,decide_eq_true_eq] at this
    lia
   by_cases q3:j - 1 - k > 0
   ·rw [xCg q3]
    have m3:=m2.eb k (by lia) (by lia) fun y hy x hx=>by
     obtain ⟨n,g1,g2,g3,g4⟩:=gI hy
     obtain ⟨n',g1',g2',g3'⟩:=bR hx
     have z1:=hk3 n g1 g2
     have z2:=eL c.sa n' (i - 1) (xBn _) (by lia) hi'
     rw [Nat.zero_add] at z1
     unfold Bt at z1
     simp only [if_true,decide_eq_false_iff_not] at z1
     show numOf x.1≤numOf y.1
     rw [g4,g3']
     lia
    by_cases q4:k=1
    ·rw [xCg (by simpa using q4)]
     exact xCe (hd _ (m3.first c (by lia) q4))
    ·rw [xCf (by simpa using q4)]
     by_cases q5:k=0
     ·rw [xCg (by simpa using q5)]
      exact xCe (hd _ (m3.finB q5))
     ·rw [xCf (by simpa using q5)]
      exact rT c hi (by lia) m3 lo (by lia) hd hy
   ·rw [xCf q3]
    obtain rfl:k=j - 1:=by lia
    exact rT c hi (by lia) m2 lo (by lia) hd hy
theorem rW {g x y n:Nat} {Q:ForInStep Y2→SortSt→Prop} (c:Db a b) (hS:Sg st₀ st) (hi:0<i∧i≤a.size) (hj:1<j∧j≤b.size) (m:NN a b o i j) (hn:i+j+n≤a.size+b.size+1)
  (hd:∀ z st,Sg st₀ st→Hd a b n z.1 z.2.1 z.2.2.1 z.2.2.2.1→Q (.done z) st) (hy:∀ (z:Y2) st,Sg st₀ st→z.1=none→Hd a b n none z.2.1 z.2.2.1 z.2.2.2.1→Q (.yield z) st) :
  wpS (model prog w) A E s (h2 a b i j o g x y) Q st:=by
 unfold h2
 have hj':j - 1<b.size:=by lia
 have hS2:=hS.set g
 refine xCd (wpS_modify ?_)
 obtain ⟨t1,e1⟩:=cm c.ib hj'
 refine xCd (aK hj' (xCd (cH (left:=false) (arr:=a) (base:=0) (n:=i) (hint:=i - 1) hS2.k c.ia e1 (by lia) ?_ (by lia) fun k hk1 hk2 hk3=>?_)))
 ·intro u v _ huv hv
  exact eL c.sa u v (xBn _) huv (by lia)
 ·dsimp only
  have lo:∀ n,n<k→K a n≤K b (j - 1):=fun n g1=>by
   have:=hk2 n g1
   rw [Nat.zero_add] at this
   unfold Bt at this
   simp only [xAz,if_false,Bool.not_eq_true',decide_eq_false_iff_not] at this
   lia
  by_cases q3:i - k > 0
  ·rw [xCg q3]
   have m3:=m.ea k (by lia) hi.2 fun x hx y hy=>by
    obtain ⟨n,g1,g2,g3,g4⟩:=gI hx
    obtain ⟨n',g1',g2',g3'⟩:=bR hy
    have z1:=hk3 n g1 g2
    have z2:=eL c.sb n' (j - 1) (xBn _) (by lia) hj'
    rw [Nat.zero_add] at z1
    unfold Bt at z1
    simp only [xAz,if_false,Bool.not_eq_false',decide_eq_true_eq] at z1
    show numOf y.1≤numOf x.1
    rw [g4,g3']
    lia
   by_cases q4:k=0
   ·rw [xCg (by simpa using q4)]
    exact xCe (hd _ _ hS2 (m3.finA q4))
   ·rw [xCf (by simpa using q4)]
    exact rV c hS2.k (by lia) hj m3 lo (by lia) (fun z=>hd z _ hS2) (fun z=>hy z _ hS2)
  ·rw [xCf q3]
   obtain rfl:k=i:=by lia
   exact rV c hS2.k hi hj m lo hn (fun z=>hd z _ hS2) (fun z=>hy z _ hS2)
theorem wq {g n:Nat} {Q:ForInStep Y0→SortSt→Prop} (c:Db a b) (hS:Sg st₀ st) (hi:0<i∧i≤a.size) (hj:1<j∧j≤b.size) (m:NN a b o i j) (hn:i+j+n≤a.size+b.size)
  (hd:∀ r z st,Sg st₀ st→RS a b r→Q (.done (some r,z)) st) (hy:∀ i j o g st,Sg st₀ st→Hd a b (n+1) none i j o→Q (.yield (none,i,j,o,g)) st) :
  wpS (model prog w) A E s (h0 a b (none,i,j,o,g)) Q st:=by
 unfold h0
 dsimp only
 refine xCd (wpS_mono (wpS_forRange (I:=fun t z st'=>st'=st∧z.1=none∧Hd a b (n+t) none z.2.1 z.2.2.1 z.2.2.2.1) (Q:=fun z st'=>st'=st∧Hd a b (n+1) z.1 z.2.1 z.2.2.1 z.2.2.2.1) ?step ?fin ⟨rfl,rfl,hi,hj,m,hn⟩) ?post)
 case fin =>
  rintro ⟨r,z⟩ st' ⟨rfl,e,g1,g2,g3,g4⟩
  obtain rfl:r=none:=e
  dsimp only at g1 g2 g3 g4 ⊢
  exact ⟨rfl,g1,g2,g3,by lia⟩
 case step =>
  rintro t ⟨r,i',j',o',x',y'⟩ st' _ ht ⟨rfl,e,g1,g2,g3,g4⟩
  obtain rfl:r=none:=e
  dsimp only at g1 g2 g3 g4
  refine wp (n:=n+(t+1)) c hS.k g1 g2 g3 (by lia) (fun z hz=>⟨rfl,?_⟩) (fun z e hz=>⟨rfl,e,hz⟩)
  cases er:z.1 with
  | some r=>rw [er] at hz;exact hz
  | none=>rw [er] at hz;exact ⟨hz.1,hz.2.1,hz.2.2.1,by have:=hz.2.2.2;lia⟩
 case post =>
  rintro ⟨r,i',j',o',x',y'⟩ st' ⟨rfl,hg⟩
  cases r with
  | some r=>exact xCe (hd _ _ _ hS hg)
  | none =>
   obtain ⟨g1,g2,g3,g4⟩:=hg
   dsimp only at g1 g2 g3 g4 ⊢
   refine xCd (wpS_lift (wpAny_rule ⟨rfl,?_⟩))
   refine xCd (wpS_mono (wpS_forRange (I:=fun t z st'=>Sg st₀ st'∧z.1=none∧Hd a b (n+1) none z.2.1 z.2.2.1 z.2.2.2.1) (Q:=fun z st'=>Sg st₀ st'∧Hd a b (n+1) z.1 z.2.1 z.2.2.1 z.2.2.2.1) ?step2 ?fin2 ⟨hS,rfl,g1,g2,g3,g4⟩) ?post2)
   case fin2 =>
    rintro ⟨r,z⟩ st' ⟨hS',e,hg⟩
    obtain rfl:r=none:=e
    exact ⟨hS',hg⟩
   case step2 =>
    rintro t ⟨r,i',j',o',g',x',y'⟩ st' _ ht ⟨hS',e,g1,g2,g3,g4⟩
    obtain rfl:r=none:=e
    dsimp only at g1 g2 g3 g4 ⊢
    by_cases hg:g' > 1
    ·rw [xCg hg]
     exact rW c hS' g1 g2 g3 (by lia) (fun z st2 hS2 hz=>⟨hS2,hz⟩) (fun z st2 hS2 e hz=>⟨hS2,e,hz⟩)
    ·rw [xCf hg]
     exact rW c hS' g1 g2 g3 (by lia) (fun z st2 hS2 hz=>⟨hS2,hz⟩) (fun z st2 hS2 e hz=>⟨hS2,e,hz⟩)
   case post2 =>
    rintro ⟨r,i',j',o',g',x',y'⟩ st' ⟨hS',hg⟩
    cases r with
    | some r=>exact xCe (hd _ _ _ hS' hg)
    | none=>exact xCd (wpS_modify (xCe (hy _ _ _ _ _ (hS'.set _) hg)))
theorem jW {Q:Array Keyed→SortSt→Prop} (c:Db a b) (hS:Sg st₀ st) (ha:0<a.size) (hb:0<b.size) (h:∀ r st,Sg st₀ st→RS a b r→Q r st):wpS (model prog w) A E s (mergeHi' a b) Q st:=by
 rw [jl]
 refine xCd (wpS_lift (wpAny_rule ⟨rfl,?_⟩))
 have ha':a.size - 1<a.size:=by lia
 refine xCd (aK ha' ?_)
 have m0:NN a b #[] a.size b.size:=by
  have e1:a.toList.take a.size=a.toList:=List.take_of_length_le (by simp)
  have e2:b.toList.take b.size=b.toList:=List.take_of_length_le (by simp)
  refine ⟨?_,by simp,by rw [e1];exact c.sa,by rw [e2];exact c.sb,fun _ _ _ z=>(by simp at z),fun _ _ _ z=>(by simp at z)⟩
  rw [e1,e2]
  simp
 have m1:NN a b #[a[a.size - 1]] (a.size - 1) b.size:=m0.pa ha (xAg _) fun y hy=>by
  have:=c.la y (xBj hy)
  show _≤numOf a[a.size - 1].1
  rw [← K_eq ha']
  exact this
 by_cases q1:a.size - 1=0
 ·rw [xCg (by simpa using q1)]
  exact xCe (h _ _ hS (m1.finA q1))
 ·rw [xCf (by simpa using q1)]
  by_cases q2:b.size=1
  ·rw [xCg (by simpa using q2)]
   exact xCe (h _ _ hS (m1.first c hb q2))
  ·rw [xCf (by simpa using q2)]
   refine xCd (wpS_get ?_)
   refine xCd (wpS_mono (wpS_forRange (I:=fun t z st'=>Sg st₀ st'∧z.1=none∧Hd a b (t+1) none z.2.1 z.2.2.1 z.2.2.2.1) (Q:=fun z st'=>Sg st₀ st'∧∃ r,z.1=some r∧RS a b r) ?step ?fin ⟨hS,rfl,hdd (i:=a.size - 1) (j:=b.size) (by lia) (by lia) m1 (by lia)⟩) ?post)
   case fin =>
    rintro z st' ⟨_,_,g1,g2,_,g4⟩
    lia
   case step =>
    rintro t ⟨r,i',j',o',g'⟩ st' _ ht ⟨hS',e,g1,g2,g3,g4⟩
    obtain rfl:r=none:=e
    dsimp only at g1 g2 g3 g4 ⊢
    exact wq c hS' g1 g2 g3 g4 (fun r z st2 hS2 hr=>⟨hS2,r,rfl,hr⟩) (fun i j o g st2 hS2 hz=>⟨hS2,rfl,hz⟩)
   case post =>
    rintro ⟨r,z⟩ st' ⟨hS',r',e,hr⟩
    obtain rfl:r=some r':=e
    exact xCe (h _ _ hS' hr)
end
end
end Tim
namespace Tim
open PySem PyProof.Rows
theorem jm (i:Nat):mergeAt' i=(do
 let s ← get
 let (some (sa,na,pw),some (sb,nb,_)):=((pendingOf s)[i]?,(pendingOf s)[i+1]?) | unsupported "internal:list.sort.pending"
 set (setPending s (((pendingOf s).setIfInBounds i (sa,na+nb,pw)).eraseIdxIfInBounds (i+1)))
 let some k ← gallop' false (← elem' (arrOf s) sb) (arrOf s) sa na 0 | return false
 let (sa,na):=(sa+k,na - k)
 if na == 0 then return true
 let some nb ← gallop' true (← elem' (arrOf s) (sa+na - 1)) (arrOf s) sb nb (nb - 1) | return false
 if nb == 0 then return true
 let x:=(arrOf s).extract sa sb
 let y:=(arrOf s).extract sb (sb+nb)
 let r ← if na≤nb then mergeLo' x y else mergeHi' x y
 modify fun s=>setArr s (r.toList.zipIdx.foldl (fun a (p,j)=>a.setIfInBounds (sa+j) p) (arrOf s))
 return (failedOf (← get)).isNone):=rfl
theorem ip:∀ (l:List Keyed) (n p:Nat) (xs:Array Keyed),p+n+l.length≤xs.size→((l.zipIdx n).foldl (fun a x=>a.setIfInBounds (p+x.snd) x.fst) xs).size=xs.size ∧
  ∀ k,((l.zipIdx n).foldl (fun a x=>a.setIfInBounds (p+x.snd) x.fst) xs)[k]?=if p+n≤k∧k<p+n+l.length then l[k - (p+n)]? else xs[k]?
 | [],n,p,xs,_=>⟨rfl,fun k=>by rw [xCf (by simp only [List.length_nil];lia)];rfl⟩
 | v::l,n,p,xs,h=>by
  rw [xAo] at h
  rw [List.zipIdx_cons,List.foldl_cons]
  obtain ⟨e1,e2⟩:=ip l (n+1) p (xs.setIfInBounds (p+n) v) (by rw [Array.size_setIfInBounds];lia)
  refine ⟨by rw [e1,Array.size_setIfInBounds],fun k=>?_⟩
  rw [e2,Array.getElem?_setIfInBounds,xAo]
  by_cases c1:p+n=k
  ·subst c1
   rw [xCf (by lia),xCg rfl,xCg (by lia),xCg (by lia),Nat.sub_self]
   rfl
  ·by_cases c2:p+(n+1)≤k∧k<p+(n+1)+l.length
   ·rw [xCg c2,xCg (by lia),show k - (p+n)=(k - (p+(n+1)))+1 by lia]
    rfl
   ·rw [xCf c2,xCf c1,xCf (by lia)]
def put (xs:Array Keyed) (p:Nat) (r:Array Keyed):Array Keyed:=r.toList.zipIdx.foldl (fun a x=>a.setIfInBounds (p+x.snd) x.fst) xs
theorem nS {xs r:Array Keyed} {p:Nat} (h:p+r.size≤xs.size):(put xs p r).toList=xs.toList.take p++(r.toList++xs.toList.drop (p+r.size)):=by
 obtain ⟨e1,e2⟩:=ip r.toList 0 p xs (by rw [xAh];lia)
 apply List.ext_getElem?
 intro k
 have:(put xs p r).toList[k]?=(put xs p r)[k]?:=by simp
 rw [this]
 show ((r.toList.zipIdx 0).foldl (fun a x=>a.setIfInBounds (p+x.snd) x.fst) xs)[k]?=_
 rw [e2,Nat.add_zero,xAh]
 have lt:(xs.toList.take p).length=p:=by rw [xAn,xAh];lia
 by_cases c1:k<p
 ·rw [xCf (by lia),List.getElem?_append_left (by lia),List.getElem?_take,xCg c1]
  simp
 ·rw [List.getElem?_append_right (by lia),lt]
  by_cases c2:k<p+r.size
  ·rw [xCg (by lia),List.getElem?_append_left (by rw [xAh];lia)]
  ·rw [xCf (by lia),List.getElem?_append_right (by rw [xAh];lia),List.getElem?_drop,xAh,show p+r.size+(k - p - r.size)=k by lia]
   simp
theorem u7 {xs r:Array Keyed} {p:Nat} (h:p+r.size≤xs.size) (k:Nat):K (put xs p r) k=if p≤k∧k<p+r.size then K r (k - p) else K xs k:=by
 obtain ⟨e1,e2⟩:=ip r.toList 0 p xs (by rw [xAh];lia)
 have e:=e2 k
 rw [Nat.add_zero,xAh] at e
 by_cases c:p≤k∧k<p+r.size
 ·rw [xCg c] at e ⊢
  refine K_congr (e.trans ?_)
  simp
 ·rw [xCf c] at e ⊢
  exact K_congr e
theorem nR {xs r:Array Keyed} {p m q:Nat} (h1:p≤m) (h2:m≤q) (h:q≤xs.size) (hr:RS (xs.extract p m) (xs.extract m q) r):r.size=q - p∧(put xs p r).Perm xs:=by
 have hs:r.size=q - p:=by
  have:=hr.1.length_eq
  rw [xAb,xAh,xAh,xAh,Array.size_extract,Array.size_extract] at this
  lia
 refine ⟨hs,Array.perm_iff_toList_perm.mpr ?_⟩
 rw [nS (by lia)]
 have e:xs.toList=xs.toList.take p++(((xs.extract p m).toList++(xs.extract m q).toList)++xs.toList.drop (p+r.size)):=by
  rw [Array.toList_extract,Array.toList_extract,xB6,xB6]
  have a1:xs.toList.drop m=(xs.toList.drop m).take (q - m)++xs.toList.drop q:=by
   rw [show xs.toList.drop q=(xs.toList.drop m).drop (q - m) by rw [List.drop_drop];congr 1;lia,xBx]
  have a2:xs.toList.drop p=(xs.toList.drop p).take (m - p)++xs.toList.drop m:=by
   rw [show xs.toList.drop m=(xs.toList.drop p).drop (m - p) by rw [List.drop_drop];congr 1;lia,xBx]
  rw [show p+r.size=q by lia,xAx,← a1,← a2,xBx]
 have hp:=List.Perm.append_left (xs.toList.take p) (List.Perm.append_right (xs.toList.drop (p+r.size)) hr.1)
 exact hp.trans (List.Perm.of_eq e.symm)
theorem gM {xs:Array Keyed} {p q i:Nat} (hq:q≤xs.size) (hi:i<q - p):K (xs.extract p q) i=K xs (p+i):=by
 refine K_congr ?_
 rw [Array.getElem?_extract,xCg (by lia)]
theorem li {xs:Array Keyed} {p q:Nat} (h:IntKeys xs):IntKeys (xs.extract p q):=fun v hv=>by
 rw [Array.toList_extract,xB6] at hv
 exact h v (List.mem_of_mem_drop (xBj hv))
theorem fI {xs:Array Keyed} {p q:Nat} {v:Keyed} (hv:v∈(xs.extract p q).toList):∃ n,p≤n∧n<q∧n<xs.size∧numOf v.1=K xs n:=by
 rw [Array.toList_extract,xB6] at hv
 obtain ⟨n,h1,h2,h3⟩:=cO hv
 exact ⟨p+n,by lia,by lia,h2,h3⟩
theorem oX {xs:Array Keyed} {p q:Nat} (hq:q≤xs.size) (h:Inc xs p q):(xs.extract p q).toList.Pairwise le':=by
 refine wP fun i j _ hij hj=>?_
 rw [Array.size_extract] at hj
 rw [gM hq (by lia),gM hq (by lia)]
 exact h _ _ (by lia) (by lia) (by lia)
section
variable {prog:Program} {w:World} {A:Around} {E:Value→Shared→Prop} {s:Shared} {st:SortSt} {a₀:Array Keyed}
theorem pG {σ:Type} {M:Model} {s' st':σ} {Q:PUnit→σ→Prop} (h:Q ⟨⟩ s'):wpS M A E s (set s':StateT σ Sem PUnit) Q st':=by
 unfold wpS
 rw [StateT.run_set]
 exact xAe ⟨rfl,h⟩
theorem jX {i sa na nb pa pb:Nat} {Q:Bool→SortSt→Prop} (h0:IntKeys a₀) (hB:SB a₀ st) (e1:(pendingOf st)[i]?=some (sa,na,pa)) (e2:(pendingOf st)[i+1]?=some (sa+na,nb,pb)) (hna:0<na) (hnb:0<nb) (hz:sa+na+nb≤a₀.size)
  (ha:Inc (arrOf st) sa (sa+na)) (hb:Inc (arrOf st) (sa+na) (sa+na+nb))
  (h:∀ st',SB a₀ st'→pendingOf st'=((pendingOf st).setIfInBounds i (sa,na+nb,pa)).eraseIdxIfInBounds (i+1)→Off (arrOf st') (arrOf st) sa (sa+na+nb)→Inc (arrOf st') sa (sa+na+nb)→Q true st') :
  wpS (model prog w) A E s (mergeAt' i) Q st:=by
 rw [jm]
 dsimp only
 refine xCd (wpS_get ?_)
 rw [e1,e2]
 dsimp only
 refine xCd (pG ?_)
 have hI:=IntKeys.perm h0 hB.perm
 have hsz:=hB.size
 have hS:Sg (setPending st (((pendingOf st).setIfInBounds i (sa,na+nb,pa)).eraseIdxIfInBounds (i+1))) (setPending st (((pendingOf st).setIfInBounds i (sa,na+nb,pa)).eraseIdxIfInBounds (i+1))):=⟨hB.kind,rfl,rfl,rfl⟩
 have hB1:SB a₀ (setPending st (((pendingOf st).setIfInBounds i (sa,na+nb,pa)).eraseIdxIfInBounds (i+1))):=⟨hB.perm,hB.kind,hB.failed⟩
 have hsb:sa+na<(arrOf st).size:=by lia
 obtain ⟨t1,k1⟩:=cm hI hsb
 refine xCd (aK hsb (xCd (cH (left:=false) (arr:=arrOf st) (base:=sa) (n:=na) (hint:=0) hS.k hI k1 (by lia) ha hna fun k hk1 hk2 hk3=>?_)))
 dsimp only
 have lo1:∀ n,sa≤n→n<sa+k→K (arrOf st) n≤K (arrOf st) (sa+na):=fun n g1 g2=>by
  have:=hk2 (n - sa) (by lia)
  rw [show sa+(n - sa)=n by lia] at this
  unfold Bt at this
  simp only [xAz,if_false,Bool.not_eq_true',decide_eq_false_iff_not] at this
  lia
 have lo2:∀ n,sa+k≤n→n<sa+na→K (arrOf st) (sa+na)≤K (arrOf st) n:=fun n g1 g2=>by
  have:=hk3 (n - sa) (by lia) (by lia)
  rw [show sa+(n - sa)=n by lia] at this
  unfold Bt at this
  simp only [xAz,if_false,Bool.not_eq_false',decide_eq_true_eq] at this
  lia
 by_cases q1:na - k=0
 ·rw [xCg (by simpa using q1)]
  refine xCe (h _ hB1 rfl .refl fun u v hu huv hv=>?_)
  change K (arrOf st) u≤K (arrOf st) v
  by_cases c1:v<sa+na
  ·exact ha u v hu huv c1
  ·by_cases c2:sa+na≤u
   ·exact hb u v c2 huv hv
   ·have z1:=lo1 u hu (by lia)
    have z2:=hb (sa+na) v (xAg _) (by lia) hv
    lia
 ·rw [xCf (by simpa using q1)]
  have hl:sa+k+(na - k) - 1<(arrOf st).size:=by lia
  obtain ⟨t2,k2⟩:=cm hI hl
  refine xCd (aK hl (xCd (cH (left:=true) (arr:=arrOf st) (base:=sa+na) (n:=nb) (hint:=nb - 1) hS.k hI k2 (by lia) hb (by lia) fun m hm1 hm2 hm3=>?_)))
  dsimp only
  have el:sa+k+(na - k) - 1=sa+na - 1:=by lia
  rw [el] at hm2 hm3
  have up1:∀ n,sa+na≤n→n<sa+na+m→K (arrOf st) n≤K (arrOf st) (sa+na - 1):=fun n g1 g2=>by
   have:=hm2 (n - (sa+na)) (by lia)
   rw [show sa+na+(n - (sa+na))=n by lia] at this
   unfold Bt at this
   simp only [if_true,decide_eq_true_eq] at this
   lia
  have up2:∀ n,sa+na+m≤n→n<sa+na+nb→K (arrOf st) (sa+na - 1)≤K (arrOf st) n:=fun n g1 g2=>by
   have:=hm3 (n - (sa+na)) (by lia) (by lia)
   rw [show sa+na+(n - (sa+na))=n by lia] at this
   unfold Bt at this
   simp only [if_true,decide_eq_false_iff_not] at this
   lia
  by_cases q2:m=0
  ·rw [xCg (by simpa using q2)]
   refine xCe (h _ hB1 rfl .refl fun u v hu huv hv=>?_)
   change K (arrOf st) u≤K (arrOf st) v
   by_cases c1:v<sa+na
   ·exact ha u v hu huv c1
   ·by_cases c2:sa+na≤u
    ·exact hb u v c2 huv hv
    ·have z1:=ha u (sa+na - 1) hu (by lia) (by lia)
     have z2:=up2 v (by lia) hv
     lia
  ·rw [xCf (by simpa using q2)]
   have inA:Inc (arrOf st) (sa+k) (sa+na):=fun u v hu huv hv=>ha u v (by lia) huv hv
   have inB:Inc (arrOf st) (sa+na) (sa+na+m):=fun u v hu huv hv=>hb u v hu huv (by lia)
   have zA:((arrOf st).extract (sa+k) (sa+na)).size=na - k:=by rw [Array.size_extract];lia
   have zB:((arrOf st).extract (sa+na) (sa+na+m)).size=m:=by rw [Array.size_extract];lia
   have c:Db ((arrOf st).extract (sa+k) (sa+na)) ((arrOf st).extract (sa+na) (sa+na+m)):=by
    refine ⟨⟨li hI,li hI,oX (by lia) inA,oX (by lia) inB,fun y hy=>?_⟩,fun x hx=>?_⟩
    ·obtain ⟨n,g1,g2,g3,g4⟩:=fI hy
     rw [zA,gM (by lia) (by lia),g4,show sa+k+(na - k - 1)=sa+na - 1 by lia]
     exact up1 n g1 g2
    ·obtain ⟨n,g1,g2,g3,g4⟩:=fI hx
     rw [gM (by lia) (by lia),g4,Nat.add_zero]
     exact lo2 n g1 g2
   have done:∀ (r:Array Keyed) (st2:SortSt),Sg (setPending st (((pendingOf st).setIfInBounds i (sa,na+nb,pa)).eraseIdxIfInBounds (i+1))) st2→RS ((arrOf st).extract (sa+k) (sa+na)) ((arrOf st).extract (sa+na) (sa+na+m)) r →
     wpS (model prog w) A E s (do
      modify fun s=>setArr s (List.foldl (fun a x=>a.setIfInBounds (sa+k+x.snd) x.fst) (arrOf s) r.toList.zipIdx)
      let z ← get
      pure (failedOf z).isNone) Q st2:=by
    intro r st2 hS2 hr
    refine xCd (wpS_modify (xCd (wpS_get ?_)))
    have ea:arrOf st2=arrOf st:=hS2.a
    obtain ⟨hrs,hpm⟩:=nR (p:=sa+k) (m:=sa+na) (q:=sa+na+m) (by lia) (by lia) (by lia) hr
    have rK:∀ n,n<r.size→(∃ u,sa+k≤u∧u<sa+na+m∧K r n=K (arrOf st) u):=fun n hn=>by
     have:r[n]∈r.toList:=by simp
     have this:=hr.1.mem_iff.mp this
     rw [K_eq hn]
     rcases xAj.mp this with z | z
     ·obtain ⟨u,g1,g2,g3,g4⟩:=fI z
      exact ⟨u,g1,by lia,g4⟩
     ·obtain ⟨u,g1,g2,g3,g4⟩:=fI z
      exact ⟨u,by lia,g2,g4⟩
    have rI:=eL hr.2
    have hfail:failedOf st2=none:=hS2.f.trans hB.failed
    change wpS (model prog w) A E s (pure (failedOf st2).isNone) Q (setArr st2 (put (arrOf st2) (sa+k) r))
    rw [hfail]
    have pK:=u7 (xs:=arrOf st) (r:=r) (p:=sa+k) (by lia)
    refine xCe (h _ ⟨?_,hS2.k,hfail⟩ hS2.p (fun u hu=>?_) fun u v hu huv hv=>?_)
    ·change (put (arrOf st2) (sa+k) r).Perm a₀
     rw [ea]
     exact hpm.trans hB.perm
    ·change K (put (arrOf st2) (sa+k) r) u=_
     rw [ea,pK,xCf (by lia)]
    ·change K (put (arrOf st2) (sa+k) r) u≤K (put (arrOf st2) (sa+k) r) v
     rw [ea,pK,pK]
     by_cases cu:sa+k≤u∧u<sa+k+r.size
     ·rw [xCg cu]
      by_cases cv:sa+k≤v∧v<sa+k+r.size
      ·rw [xCg cv]
       exact rI _ _ (xBn _) (by lia) (by lia)
      ·rw [xCf cv]
       obtain ⟨n,g1,g2,g3⟩:=rK (u - (sa+k)) (by lia)
       rw [g3]
       have z2:=up2 v (by lia) hv
       by_cases cn:n<sa+na
       ·have:=ha n (sa+na - 1) (by lia) (by lia) (by lia)
        lia
       ·have:=up1 n (by lia) g2
        lia
     ·rw [xCf cu]
      by_cases cv:sa+k≤v∧v<sa+k+r.size
      ·rw [xCg cv]
       obtain ⟨n,g1,g2,g3⟩:=rK (v - (sa+k)) (by lia)
       rw [g3]
       by_cases cn:n<sa+na
       ·exact ha u n hu (by lia) cn
       ·have z1:=lo1 u hu (by lia)
        have:=hb (sa+na) n (xAg _) (by lia) (by lia)
        lia
      ·rw [xCf cv]
       by_cases c1:v<sa+na
       ·exact ha u v hu huv c1
       ·by_cases c2:sa+na≤u
        ·exact hb u v c2 huv hv
        ·have z1:=ha u (sa+na - 1) hu (by lia) (by lia)
         have z2:=up2 v (by lia) hv
         lia
   have fbK:K ((arrOf st).extract (sa+na) (sa+na+m)) 0≤K ((arrOf st).extract (sa+k) (sa+na)) 0:=by
    rw [gM (by lia) (by lia),gM (by lia) (by lia),Nat.add_zero,Nat.add_zero]
    exact lo2 (sa+k) (xAg _) (by lia)
   by_cases q3:na - k≤m
   ·rw [xCg q3]
    exact xCd (jV c.toCb hS (by lia) (by lia) fbK fun r st2 hS2 hr=>done r st2 hS2 hr)
   ·rw [xCf q3]
    exact xCd (jW c hS (by lia) (by lia) fun r st2 hS2 hr=>done r st2 hS2 hr)
end
end Tim
namespace Tim
open PySem PyProof.Rows
def Rn (xs:Array Keyed):List (Nat×Nat×Nat)→Nat→Nat→Prop
 | [],lo,hi=>lo=hi
 | (s,n,_)::r,lo,hi=>s=lo∧0<n∧Inc xs lo (lo+n)∧Rn xs r (lo+n) hi
theorem Rn.len {xs:Array Keyed}:∀ {l:List (Nat×Nat×Nat)} {lo hi:Nat},Rn xs l lo hi→lo+l.length≤hi
 | [],_,_,h=>Nat.le_of_eq h
 | (_,n,_)::r,lo,hi,⟨_,h2,_,h4⟩=>by
  have:=Rn.len h4
  rw [xAo]
  lia
theorem Rn.like {xs ys:Array Keyed}:∀ {l:List (Nat×Nat×Nat)} {lo hi:Nat},Rn xs l lo hi→(∀ i,lo≤i→i<hi→K ys i=K xs i)→Rn ys l lo hi
 | [],_,_,h,_=>h
 | (_,n,_)::r,lo,hi,⟨h1,h2,h3,h4⟩,e=>by
  have:=Rn.len h4
  refine ⟨h1,h2,fun i j hi' hij hj=>?_,Rn.like h4 fun i g1 g2=>e i (by lia) g2⟩
  rw [e i hi' (by lia),e j (by lia) (by lia)]
  exact h3 i j hi' hij hj
theorem Rn.app {xs:Array Keyed} {r:List (Nat×Nat×Nat)}:∀ {l:List (Nat×Nat×Nat)} {lo hi:Nat},Rn xs (l++r) lo hi↔∃ m,Rn xs l lo m∧Rn xs r m hi
 | [],lo,hi=>⟨fun h=>⟨lo,rfl,h⟩,fun ⟨m,h1,h2⟩=>by rw [show lo=m from h1];exact h2⟩
 | (s,n,p)::l,lo,hi=>by
  constructor
  ·rintro ⟨h1,h2,h3,h4⟩
   obtain ⟨m,g1,g2⟩:=Rn.app.mp h4
   exact ⟨m,⟨h1,h2,h3,g1⟩,g2⟩
  ·rintro ⟨m,⟨h1,h2,h3,h4⟩,h5⟩
   exact ⟨h1,h2,h3,Rn.app.mpr ⟨m,h4,h5⟩⟩
theorem sj {α:Type} {l:List α} {i:Nat} (h:i+1<l.length):∃ x y,l[i]?=some x∧l[i+1]?=some y∧l=l.take i++x::y::l.drop (i+2):=by
 refine ⟨l[i],l[i+1],xAk (by omega),xAk h,?_⟩
 rw [← xB2,← xB2,xBx]
theorem pI {α:Type} {l:List α} {i:Nat} {x y v:α} (h:i+1<l.length) (e:l=l.take i++x::y::l.drop (i+2)):(l.set i v).eraseIdx (i+1)=l.take i++v::l.drop (i+2):=by
 have hl:(l.take i).length=i:=by rw [xAn];lia
 have e2:l.set i v=l.take i++v::y::l.drop (i+2):=by
  conv=>lhs;rw [e]
  rw [List.set_append,xCf (by rw [hl];lia),hl,Nat.sub_self]
  rfl
 rw [e2,List.eraseIdx_append_of_length_le (by lia),hl,show i+1 - i=1 by lia]
 rfl
section
variable {prog:Program} {w:World} {A:Around} {E:Value→Shared→Prop} {s:Shared} {st:SortSt} {a₀:Array Keyed} {hi:Nat}
theorem f8 {i:Nat} {Q:Bool→SortSt→Prop} (h0:IntKeys a₀) (hB:SB a₀ st) (hr:Rn (arrOf st) (pendingOf st).toList 0 hi) (hz:hi≤a₀.size) (hi':i+1<(pendingOf st).size)
  (h:∀ st',SB a₀ st'→Rn (arrOf st') (pendingOf st').toList 0 hi→(pendingOf st').size+1=(pendingOf st).size→Off (arrOf st') (arrOf st) 0 hi→Q true st'):wpS (model prog w) A E s (mergeAt' i) Q st:=by
 have hl:i+1<(pendingOf st).toList.length:=by rw [xAh];exact hi'
 obtain ⟨⟨sa,na,pa⟩,⟨sb,nb,pb⟩,e1,e2,e⟩:=sj hl
 have hr2:=hr
 rw [e] at hr2
 obtain ⟨m,r1,g1,g2,g3,g4,g5,g6,g7⟩:=Rn.app.mp hr2
 subst g1
 subst g4
 have l1:=Rn.len r1
 have l7:=Rn.len g7
 refine jX (i:=i) (sa:=sa) (na:=na) (nb:=nb) (pa:=pa) (pb:=pb) h0 hB (by rw [← e1];simp) (by rw [← e2];simp) g2 g5 (by lia) g3 g6 fun st' hB' hp ho hI=>?_
 have e3:(pendingOf st').toList=(pendingOf st).toList.take i++(sa,na+nb,pa)::(pendingOf st).toList.drop (i+2):=by
  rw [hp,← pI hl e]
  simp
 refine h st' hB' ?_ ?_ (ho.wide (xBn _) (by lia))
 ·rw [e3]
  refine Rn.app.mpr ⟨sa,r1.like fun k _ g=>ho k (by lia),rfl,by lia,?_,?_⟩
  ·rw [show sa+(na+nb)=sa+na+nb by lia]
   exact hI
  ·rw [show sa+(na+nb)=sa+na+nb by lia]
   exact g7.like fun k g _=>ho k (by lia)
 ·have:=congrArg List.length e3
  rw [xAh,xAb,xAo,xAn,List.length_drop,xAh] at this
  lia
theorem ft {size pw:Nat} {Q:Option Unit×Unit→SortSt→Prop} (h0:IntKeys a₀) (hB:SB a₀ st) (hr:Rn (arrOf st) (pendingOf st).toList 0 hi) (hz:hi≤a₀.size) (hp:0<(pendingOf st).size)
  (h:∀ st',SB a₀ st'→Rn (arrOf st') (pendingOf st').toList 0 hi→0<(pendingOf st').size→Off (arrOf st') (arrOf st) 0 hi→Q (none,()) st') :
  wpS (model prog w) A E s (forIn [0:size] ((none,()):Option Unit×Unit) fun _ _=>do
   let z ← get
   match (if (pendingOf z).size > 1 then (pendingOf z)[(pendingOf z).size - 2]? else none) with
   | some (_,_,older) =>
    if older≤pw then pure (ForInStep.done (none,()))
    else do
     let q ← mergeAt' ((pendingOf z).size - 2)
     if (!q)=true then pure (ForInStep.done (some (),())) else pure (ForInStep.yield (none,()))
   | _=>pure (ForInStep.done (none,()))) Q st:=by
 refine wpS_forRange (I:=fun _ c st'=>c=(none,())∧SB a₀ st'∧Rn (arrOf st') (pendingOf st').toList 0 hi∧0<(pendingOf st').size∧Off (arrOf st') (arrOf st) 0 hi) ?step ?fin ⟨rfl,hB,hr,hp,.refl⟩
 case fin =>
  rintro c st' ⟨rfl,b1,b2,b3,b4⟩
  exact h st' b1 b2 b3 b4
 case step =>
  rintro x c st' _ _ ⟨rfl,b1,b2,b3,b4⟩
  refine xCd (wpS_get ?_)
  by_cases q:(pendingOf st').size > 1
  ·rw [xCg q,getElem?_pos _ _ (by lia)]
   dsimp only
   split
   ·exact xCe (h st' b1 b2 b3 b4)
   ·refine xCd (f8 h0 b1 b2 hz (by lia) fun st2 c1 c2 c3 c4=>?_)
    exact xCe ⟨rfl,c1,c2,by lia,c4.trans b4⟩
  ·rw [xCf q]
   exact xCe (h st' b1 b2 b3 b4)
end
end Tim
namespace Tim
open PySem PyProof.Rows
theorem jF {p:Array (Nat×Nat×Nat)} {y:Nat×Nat×Nat} (h:p.back?=some y):0<p.size:=by
 rcases Nat.eq_zero_or_pos p.size with z | z
 ·rw [Array.eq_empty_of_size_eq_zero z] at h
  simp at h
 ·exact z
theorem grown {st:SortSt} {lo n q:Nat} (h:Rn (arrOf st) (pendingOf st).toList 0 lo) (hn:0<n) (hI:Inc (arrOf st) lo (lo+n)):Rn (arrOf (setPending st ((pendingOf st).push (lo,n,q)))) (pendingOf (setPending st ((pendingOf st).push (lo,n,q)))).toList 0 (lo+n):=by
 change Rn (arrOf st) ((pendingOf st).push (lo,n,q)).toList 0 (lo+n)
 rw [Array.toList_push]
 exact Rn.app.mpr ⟨lo,h,rfl,hn,hI,rfl⟩
theorem Rn.repow {xs:Array Keyed} {f:Nat×Nat×Nat→Nat×Nat×Nat} (hf:∀ x,(f x).1=x.1∧(f x).2.1=x.2.1):∀ {l:List (Nat×Nat×Nat)} {i lo hi:Nat},Rn xs l lo hi→Rn xs (l.modify i f) lo hi
 | [],i,_,_,h=>by rw [List.modify_nil];exact h
 | (s,n,p)::r,0,lo,hi,⟨h1,h2,h3,h4⟩=>by
  rw [List.modify_zero_cons]
  obtain ⟨e1,e2⟩:=hf (s,n,p)
  generalize f (s,n,p)=y at e1 e2
  obtain ⟨s',n',p'⟩:=y
  dsimp only at e1 e2
  subst e1 e2
  exact ⟨h1,h2,h3,h4⟩
 | (s,n,p)::r,i+1,lo,hi,⟨h1,h2,h3,h4⟩=>by
  rw [List.modify_succ_cons]
  exact ⟨h1,h2,h3,Rn.repow hf h4⟩
theorem repow {st:SortSt} {lo q i:Nat} (h:Rn (arrOf st) (pendingOf st).toList 0 lo):Rn (arrOf (setPending st ((pendingOf st).modify i fun x=>(x.fst,x.2.fst,q)))) (pendingOf (setPending st ((pendingOf st).modify i fun x=>(x.fst,x.2.fst,q)))).toList 0 lo:=by
 change Rn (arrOf st) ((pendingOf st).modify i fun x=>(x.fst,x.2.fst,q)).toList 0 lo
 rw [Array.toList_modify]
 exact Rn.repow (f:=fun x=>(x.fst,x.2.fst,q)) (fun _=>⟨rfl,rfl⟩) h
theorem pick {c:Prop} [Decidable c] {n m:Nat} (h:n+1<m):(if c then n - 1 else n)+1<m:=by
 split
 ·omega
 ·omega
section
variable {prog:Program} {w:World} {A:Around} {E:Value→Shared→Prop} {s:Shared} {st:SortSt} {a₀:Array Keyed}
theorem iP {Q:Unit→SortSt→Prop} (h0:IntKeys a₀) (hB:SB a₀ st) (hp:pendingOf st=#[]) (h2:2≤a₀.size) (h:∀ st',(arrOf st').Perm a₀→failedOf st'=none→SortedTo (arrOf st') a₀.size→Q () st'):wpS (model prog w) A E s sortRuns' Q st:=by
 rw [sortRuns'_eq]
 refine xCd (wpS_get ?_)
 dsimp only
 rw [hB.size]
 refine xCd (wpS_mono (wpS_forRange (I:=fun x c st'=>c.1=none∧SB a₀ st'∧Rn (arrOf st') (pendingOf st').toList 0 c.2∧c.2≤a₀.size∧x≤c.2)
  (Q:=fun c st'=>c=(none,a₀.size)∧SB a₀ st'∧Rn (arrOf st') (pendingOf st').toList 0 a₀.size) ?step ?fin ⟨rfl,hB,by rw [hp];rfl,by lia,by lia⟩) ?post)
 case fin =>
  rintro ⟨r,lo⟩ st' ⟨e,b1,b2,b3,b4⟩
  obtain rfl:r=none:=e
  dsimp only at b2 b3 b4
  obtain rfl:lo=a₀.size:=by lia
  exact ⟨rfl,b1,b2⟩
 case step =>
  rintro x ⟨r,lo⟩ st' _ hx ⟨e,b1,b2,b3,b4⟩
  obtain rfl:r=none:=e
  dsimp only at b2 b3 b4 ⊢
  by_cases q1:lo ≥ a₀.size
  ·rw [xCg q1]
   obtain rfl:lo=a₀.size:=by lia
   exact xCe ⟨rfl,b1,b2⟩
  ·rw [xCf q1]
   have hR:R a₀ (pendingOf st') (arrOf st') lo a₀.size st':=⟨b1,rfl,.refl⟩
   refine xCd (jz (nrem:=a₀.size - lo) h0 (by lia) (by lia) (by lia) hR fun m st2 hR2 m1 m2 hI2=>?_)
   have r2:Rn (arrOf st2) (pendingOf st2).toList 0 lo:=by
    rw [hR2.p]
    exact b2.like fun i _ g=>hR2.o i (by lia)
   dsimp only
   by_cases q2:m<minRun' a₀.size a₀.size 0
   ·rw [xCg q2]
    refine xCd (wpS_lift (wpAny_rule ⟨rfl,?_⟩))
    refine xCd (mQ (n:=min (a₀.size - lo) (minRun' a₀.size a₀.size 0)) h0 (by lia) (by lia) (by lia) hR2 hI2 fun st3 hR3 hI3=>?_)
    have r3:Rn (arrOf st3) (pendingOf st3).toList 0 lo:=by
     rw [hR3.p]
     exact b2.like fun i _ g=>hR3.o i (by lia)
    rw [xCf (by simp)]
    generalize hn:min (a₀.size - lo) (minRun' a₀.size a₀.size 0)=n at hI3 ⊢
    have hn1:0<n∧lo+n≤a₀.size:=by lia
    refine xCd (wpS_get ?_)
    cases hbk:(pendingOf st3).back? with
    | none =>
     dsimp only
     refine xCd (wpS_modify (xCe ⟨rfl,⟨hR3.b.perm,hR3.b.kind,hR3.b.failed⟩,?_,by lia,by lia⟩))
     exact grown r3 (by lia) hI3
    | some y =>
     obtain ⟨s1,n1,p1⟩:=y
     dsimp only
     refine xCd (ft h0 hR3.b r3 (by lia) (jF hbk) fun st5 c1 c2 c3 c4=>?_)
     dsimp only
     refine xCd (wpS_modify (xCd (wpS_modify (xCe ⟨rfl,⟨c1.perm,c1.kind,c1.failed⟩,?_,by lia,by lia⟩))))
     refine grown (st:=setPending st5 ((pendingOf st5).modify ((pendingOf st5).size - 1) fun x=>(x.fst,x.2.fst,_))) (repow c2) (by lia) fun u v hu huv hv=>?_
     change K (arrOf st5) u≤K (arrOf st5) v
     rw [c4 u (by lia),c4 v (by lia)]
     exact hI3 u v hu huv hv
   ·rw [xCf q2]
    refine xCd (wpS_get ?_)
    cases hbk:(pendingOf st2).back? with
    | none =>
     dsimp only
     refine xCd (wpS_modify (xCe ⟨rfl,⟨hR2.b.perm,hR2.b.kind,hR2.b.failed⟩,?_,by lia,by lia⟩))
     exact grown r2 (by lia) hI2
    | some y =>
     obtain ⟨s1,n1,p1⟩:=y
     dsimp only
     refine xCd (ft h0 hR2.b r2 (by lia) (jF hbk) fun st5 c1 c2 c3 c4=>?_)
     dsimp only
     refine xCd (wpS_modify (xCd (wpS_modify (xCe ⟨rfl,⟨c1.perm,c1.kind,c1.failed⟩,?_,by lia,by lia⟩))))
     refine grown (st:=setPending st5 ((pendingOf st5).modify ((pendingOf st5).size - 1) fun x=>(x.fst,x.2.fst,_))) (repow c2) (by lia) fun u v hu huv hv=>?_
     change K (arrOf st5) u≤K (arrOf st5) v
     rw [c4 u (by lia),c4 v (by lia)]
     exact hI2 u v hu huv hv
 case post =>
  rintro c st' ⟨rfl,b1,b2⟩
  dsimp only
  have hlen:=Rn.len b2
  rw [xAh,Nat.zero_add] at hlen
  refine xCd (wpS_mono (wpS_forRange (I:=fun x c st2=>c=(none,())∧SB a₀ st2∧Rn (arrOf st2) (pendingOf st2).toList 0 a₀.size∧((pendingOf st2).size≤1∨(pendingOf st2).size+x≤a₀.size))
   (Q:=fun c st2=>c=(none,())∧SB a₀ st2∧Rn (arrOf st2) (pendingOf st2).toList 0 a₀.size∧(pendingOf st2).size≤1) ?step2 ?fin2 ⟨rfl,b1,b2,.inr (by lia)⟩) ?post2)
  case fin2 =>
   rintro c st2 ⟨e,c1,c2,c3⟩
   exact ⟨e,c1,c2,by lia⟩
  case step2 =>
   rintro x c st2 _ hx ⟨rfl,c1,c2,c3⟩
   refine xCd (wpS_get ?_)
   by_cases q:(pendingOf st2).size≤1
   ·rw [xCg q]
    exact xCe ⟨rfl,c1,c2,q⟩
   ·rw [xCf q]
    have key:∀ i,i+1<(pendingOf st2).size→wpS (model prog w) A E s (mergeAt' i) (fun b st3=>b=true∧SB a₀ st3∧Rn (arrOf st3) (pendingOf st3).toList 0 a₀.size∧(pendingOf st3).size+1=(pendingOf st2).size) st2 :=
     fun i hi=>f8 h0 c1 c2 (xAg _) hi fun st3 d1 d2 d3 _=>⟨rfl,d1,d2,d3⟩
    refine xCd (wpS_mono (key _ ?_) ?_)
    ·exact pick (by lia)
    ·rintro b st3 ⟨rfl,d1,d2,d3⟩
     rw [xCf (by simp)]
     exact xCe ⟨rfl,d1,d2,by lia⟩
  case post2 =>
   rintro c st2 ⟨rfl,c1,c2,c3⟩
   refine xCe (h st2 c1.perm c1.failed ?_)
   rw [← xAh] at c3
   generalize (pendingOf st2).toList=l at c2 c3
   match l,c2,c3 with
   | [],c2,_=>exact absurd (show 0=a₀.size from c2) (by lia)
   | [(s',n',p')],⟨_,_,g3,g4⟩,_ =>
    have g4':0+n'=a₀.size:=g4
    intro i j hij hj
    exact g3 i j (xBn _) hij (by lia)
end
end Tim
namespace Tim
open PySem PyProof.Rows
section
variable {prog:Program} {w:World} {A:Around} {E:Value→Shared→Prop} {s:Shared}
theorem tree_any {a:Addr} {vs:List Value} {ns:List Int} {n:Nat} {P:Fin→Shared→Prop} (ho:s.heap.get? a=some (seqObj "list" vs.toArray n)) (hI:IntsAre vs ns) (hz:vs.length≤sizeLine)
  (h:∀ (out:Array Value) (ns':List Int),IntsAre out.toList ns'→ns'.Perm ns→ns'.Pairwise (·≤·)→P (.done (.ret .none)) { s with heap:=sortedHeap s.heap a vs out }):wpAny (model prog w) A (Builtin.«list.sort» ⟨[.ref a],[]⟩) P E s:=by
 rw [list_sort_plain]
 have hlt:a<s.heap.objs.size:=xA1 ho
 have hz1:vs.toArray.size≤sizeLine:=by rw [xAp];exact hz
 refine xAd (listItems_at ho rfl (xAd (listUpdate_at ho rfl ?_ hz1 (xBn _))))
 obtain ⟨e1,g1⟩:∃ e1,(s.heap.update a (Obj.mapSeq fun _=>#[])).get? a=some (seqObj "list" #[] e1):=⟨_,get?_update_seq ho (fun _=>#[])⟩
 refine xAd (seqEpoch_at g1 rfl (xAd (wpAny_newTuple (xAd (wpAny_newList (wpAny_holding ?_))))))
 have g6:(((s.heap.update a (Obj.mapSeq fun _=>#[])).push (seqObj "tuple" vs.toArray 0)).push (seqObj "list" #[] 0)).get? a=some (seqObj "list" #[] e1):=by
  rw [Heap.get?_push_ne _ _ _ (by rw [size_push',Heap.size_update];exact xA0 (Nat.lt_succ_of_lt hlt)),Heap.get?_push_ne _ _ _ (by rw [Heap.size_update];exact xA0 hlt)]
  exact g1
 change wpAny (model prog w) A _ P E { s with heap:=((s.heap.update a (Obj.mapSeq fun _=>#[])).push (seqObj "tuple" vs.toArray 0)).push (seqObj "list" #[] 0) }
 dsimp only
 have last:∀ st':SortSt,(arrOf st').Perm (pairsOf vs)→SortedTo (arrOf st') (pairsOf vs).size→P (.done (.ret .none)) { s with heap:=sortedHeap s.heap a vs ((arrOf st').map (·.2)) }:=fun st' q1 q2=>by
  obtain ⟨ns',z1,z2,z3⟩:=sorted_out hI q1 q2
  exact h _ ns' z1 z2 z3
 by_cases few:vs.toArray.size<2
 ·rw [xCg few,xCg few]
  refine xAd (xAe ?_)
  rw [StateT.run_pure]
  refine xAd (xAe ?_)
  dsimp only
  refine xAd (seqEpoch_at g6 rfl (xAd (listUpdate_at g6 rfl ?_ (xBn _) ?_)))
  ·simp only [bne_self_eq_false,xAz,if_false]
   refine xAe (last (SortSt.mk' general' (vs.toArray.zip vs.toArray) #[] 7 none) (Array.Perm.refl _) fun i j hij hj=>?_)
   rw [pairsOf_size,← xAp] at hj
   obtain rfl:i=j:=by lia
   exact xBu _
  ·rw [Array.size_map]
   change (pairsOf vs).size≤_
   rw [pairsOf_size]
   lia
 ·rw [xCf few,xCf few]
  obtain ⟨v1,v2,rest,rfl⟩:∃ v1 v2 rest,vs=v1::v2::rest:=by
   match vs,few with
   | [],few=>simp at few
   | [_],few=>simp at few
   | v1::v2::rest,_=>exact ⟨v1,v2,rest,rfl⟩
  rw [keyKind_ints hI]
  refine xAd (xAe ?_)
  refine xAd (wpAny_mono (iP (a₀:=pairsOf (v1::v2::rest)) (st:=SortSt.mk' oneType' ((v1::v2::rest).toArray.zip (v1::v2::rest).toArray) #[] 7 none)
   (Q:=fun _ st'=>(arrOf st').Perm (pairsOf (v1::v2::rest))∧failedOf st'=none∧SortedTo (arrOf st') (pairsOf (v1::v2::rest)).size) hI.intKeys ⟨Array.Perm.refl _,rfl,rfl⟩ rfl (by rw [pairsOf_size];simp) fun st' q1 q2 q3=>⟨q1,q2,q3⟩) ?_ fun _ _ e=>e)
  rintro ⟨⟨⟩,st'⟩ s' ⟨rfl,hp,hf,hs⟩
  dsimp only
  refine xAd (seqEpoch_at g6 rfl (xAd (listUpdate_at g6 rfl ?_ (xBn _) ?_)))
  ·rw [hf]
   simp only [bne_self_eq_false,xAz,if_false]
   exact xAe (last st' hp hs)
  ·refine Nat.le_trans (Nat.le_of_eq ((Array.size_map ..).trans (hp.size_eq.trans (pairsOf_size _)))) ?_
   lia
end
end Tim
namespace L2
open PySem PySem.Spec PyProof.Rows
end L2
namespace L2
open PySem PySem.Spec PyProof.Rows
end L2
namespace L2
open PySem PySem.Spec PyProof.Rows
structure CapsG (X:Cx) (scope:Scope) (cl:List (Str×Addr)) (ls N:List Str) (fr:List Nat):Prop where
 clos:closureFor scope X.env=pure cl
 cell:∀ y∈scope.names,y.2≠.cell
 kind:scope.kind = .function
 names:∀ y∈scope.names,y.2 = .local→scope.names.lookup y.1=some .local
 sub:∀ y c,cl.lookup y=some c→X.env.cells.lookup y=some c
 has:∀ y∈scope.names,y.2 = .free→∃ c,cl.lookup y.1=some c
 caps:∀ (j:Nat) (y:Str),N[j]?=some y→∃ k c,fr[j]?=some k∧X.N[k]?=some y∧Vis X.env.scope y∧X.env.kindOf y≠some .local∧cl.lookup y=some c∧(scope.names.lookup y=some .free)
 len:N.length=fr.length
theorem ke {prog:Program} {w:World} {A:Around} {R:Result→Shared→Prop} {s:Shared} {elt target iter:Expr} {ifs:List Expr} {scope:Scope} {pos:Pos} {it acc:Value} {env:Env} (J:Nat→Shared→Prop)
  (go:∀ n s,J n s→wpAny (model prog w) A (pyNext it) (fun r s1=>match r with
   | none=>R (.ok .next) s1
   | some v=>wpAny (model prog w) A (letOwnedTupleGo target it v) (fun _ s2=>wpAny (model prog w) A (assign target env v) (fun _ s3 =>
     wpAny (model prog w) A (forIn ifs true fun c r=>if r=true then do let ok ← isTrue c env (eval c env);pure (ForInStep.yield ok) else pure (ForInStep.yield r)) (fun ok s4 =>
      if ok=true then wpAny (model prog w) A (eval elt env) (fun x s5=>wpAny (model prog w) A (call (.builtin "list.append") [acc,x]) (fun _ s6=>∃ m,m<n∧J m s6) (notedBy (model prog w) A env fun e s'=>R (.error e) s') s5) (notedBy (model prog w) A env fun e s'=>R (.error e) s') s4
      else ∃ m,m<n∧J m s4) (notedBy (model prog w) A env fun e s'=>R (.error e) s') s3) (notedBy (model prog w) A env fun e s'=>R (.error e) s') s2) (notedBy (model prog w) A env fun e s'=>R (.error e) s') s1) (notedBy (model prog w) A env fun e s'=>R (.error e) s') s)
  (n:Nat) (h:J n s):codeAny (model prog w) A (.compLoop (.ListComp elt [⟨target,iter,ifs,0⟩] scope pos) 0 it acc env) R s:=by
 refine codeAny_loop rfl J (fun n s hJ=>?_) n h
 change wpAny _ A ((compTurn (.ListComp elt [⟨target,iter,ifs,0⟩] scope pos) 0 it acc env).onRaise (fun x=>do noteFrame x env;theTreesLotGoes x)) _ _ s
 refine wpAny_noted ?_
 rw [compTurn_list]
 refine xAd (wpAny_standAt (xAd (wpAny_mono (go n s hJ) (fun r s1 h1=>?_) fun _ _ z=>z)))
 cases r with
 | none=>exact xAe h1
 | some v =>
  refine xAd (wpAny_mono h1 (fun _ s2 h2=>?_) fun _ _ z=>z)
  refine xAd (wpAny_mono h2 (fun _ s3 h3=>xAd (wpAny_mono h3 (fun ok s4 h4=>?_) fun _ _ z=>z)) fun _ _ z=>z)
  cases ok with
  | false=>exact xAe ⟨rfl,h4⟩
  | true=>exact xAd (xAd (wpAny_mono h4 (fun x s5 h5=>xAd (wpAny_mono h5 (fun _ s6 h6=>xAe (xAe ⟨rfl,h6⟩)) fun _ _ z=>z)) fun _ _ z=>z))
def PTs (X:Cx) (ifs:List Expr) (t:TT):Prop :=
 ∀ (pins:List (Addr×Obj)) (s:Shared) (σ:St) (H:Hp) (Q:Bool→Hp→Prop),Inv X pins σ H s→t σ H Q →
  wpAny (model X.prog X.w) X.A (forIn ifs true fun c r=>if r=true then do let ok ← isTrue c X.env (eval c X.env);pure (ForInStep.yield ok) else pure (ForInStep.yield r)) (TP X pins σ Q) X.xe s
def tYes:TT:=fun _ H Q=>Q true H
theorem qj {X:Cx}:PTs X [] tYes:=fun _ _ _ H _ I h=>wpAny_tests_nil ⟨H,I,h⟩
theorem qi {X:Cx} {c:Expr} {t:TT} (h:PT X c t):PTs X [c] t:=fun pins s σ H Q I q=>wpAny_tests_one (h pins s σ H Q I q)
def tLCg (wi:TI) (m:Nat) (fr:List Nat) (g:TG) (tc:TT) (te:TE):TE:=fun σ H Q=>wi σ H fun J H1=>∀ D,H1 D=none→∃ W:Nat→Nat→List V→Hp→Prop,(∃ k,W 0 k [] (upd H1 D (.lst [])))∧∀ i k ys H,W i k ys H→H D=some (.lst ys) ∧
 ((J.stop i H∧Q (.ref D) H)∨(J.go i H∧ys.length<sizeLine∧∃ N:List V→Hp→Prop,(∀ ys' H',N ys' H'→∃ k',k'<k∧W (i+1) k' ys' H') ∧
  ∀ x H',J.yld i H x H'→g x (List.replicate m none++capV σ fr) H' fun σ2 H2=>σ2.drop m=capV σ fr∧σ2.length=m+fr.length ∧
   tc σ2 H2 fun b H3=>H3 D=some (.lst ys)∧if b=true then te σ2 H3 fun v H4=>H4 D=some (.lst ys)∧N (ys++[v]) (upd H4 D (.lst (ys++[v]))) else N ys H3))
theorem Inv.forget {X:Cx} {pins:List (Addr×Obj)} {σ σ':St} {H:Hp} {s:Shared} (I:Inv X pins σ H s) (hl:σ'.length=σ.length) (h:∀ (i:Nat) (v:V),σ'[i]?=some (some v)→σ[i]?=some (some v)):Inv X pins σ' H s :=
 ⟨I.ok,I.os,I.bare,I.base,let ⟨m,h1,h2⟩:=I.loc;⟨m,h1,fun i x v e1 e2 e3=>h2 i x v e1 (h i v e2) e3⟩,I.cell,I.free,I.freeC,I.pin,I.hok,hl.trans I.len⟩
theorem je {m:Nat} {cs:St} {i:Nat} {v:V} (h:(List.replicate m none++cs)[i]?=some (some v)):m≤i∧cs[i - m]?=some (some v):=by
 by_cases hi:i<m
 ·rw [List.getElem?_append_left (by simpa using hi),List.getElem?_replicate,xCg hi] at h
  cases h
 ·rw [List.getElem?_append_right (by simp;lia),List.length_replicate] at h
  exact ⟨by lia,h⟩
section
variable {X:Cx} {elt tg iter:Expr} {ifs:List Expr} {pos:Pos} {scope:Scope} {cl:List (Str×Addr)} {ls N:List Str} {fr:List Nat} {wi:TI} {g:TG} {tc:TT} {te:TE}
theorem pj {pins:List (Addr×Obj)} {σ:St} {H:Hp} {s:Shared} {fp:List Addr} {C:Addr} (cp:CapsG X scope cl ls N fr) (I:Inv X pins σ H s) (hC:s.heap.objs.size≤C) (hf:∀ b∈fp,FpOk X pins H b) (hl:∀ b∈fp,b<s.heap.objs.size) :
  (cxComp X (ls++N) scope cl C s H fp).Ok where
 mod:=I.ok.mod
 kind:=cp.kind
 glob:=I.ok.glob
 blt:=I.ok.blt
 above:=hC
 inj:=fun y z c e1 e2=>I.ok.inj y z c (cp.sub y c e1) (cp.sub z c e2)
 has:=fun y h=>by
  have h':(relabel scope X.env).names.lookup y=some .cell∨(relabel scope X.env).names.lookup y=some .free:=h
  rcases h' with h' | h'
  ·obtain ⟨k0,m,z | ⟨z,_⟩⟩:=fe h'
   ·subst z
    exact absurd rfl (cp.cell _ m)
   ·subst z
    exact cp.has _ m rfl
  ·obtain ⟨k0,m,z | ⟨_,z⟩⟩:=fe h'
   ·subst z
    exact cp.has _ m rfl
   ·cases z
 cab:=fun _ _ e=>absurd e xAy
 hd:=I.ok.hd
 frames:=I.ok.frames
 stk:=.inl rfl
 exf:=fun b hb=>⟨xA0 (xBc (hl b hb) hC),fun y c e z=>(hf b hb).2.2.2.2.1 y c (cp.sub y c e) z⟩
 bs:=I.bs
 bsz:=Nat.le_trans I.ok.bsz I.sz
 noex:=fun b o e hb=>by
  have q:=hf b hb
  rcases q.2.2.2.1 with z | z
  ·exact I.ok.noex b o e z
  ·have:=xA1 (I.ok.bs b o e).1
   exact absurd (xBc this z) (xBo _)
 exfs:=fun b hb z=>by
  have q:=hf b hb
  rcases xAv.mp (I.stkSub b z) with z' | z'
  ·exact q.2.1 z'
  ·exact q.2.2.1 z'
 funs:=I.stack
 frf:=I.stkFree
theorem jA {pos':Pos} {pins:List (Addr×Obj)} {s:Shared} {σ:St} {H:Hp} {Q:VK} {use:Option (Value→Sem Unit)} {QQ:Value→Shared→Prop} (hc:X.calm=true) (cp:CapsG X scope cl ls N fr) (hi:PI X tg iter wi) (hg:∀ C s H fp,PG (cxComp X (ls++N) scope cl C s H fp) tg g) (ht:∀ C s H fp,PTs (cxComp X (ls++N) scope cl C s H fp) ifs tc) (he:∀ C s H fp,PE (cxComp X (ls++N) scope cl C s H fp) elt te)
  (hs:∀ v,foldedSetIterable iter X.env v=pure v) (I:Inv X pins σ H s) (h:tLCg wi ls.length fr g tc te σ H Q)
  (fin:∀ (B C:Addr) (H':Hp) (s4:Shared) (m:Str→Option Value),Inv X pins σ H' s4→FpOk X pins H' C→s4.heap.Ns C m→Q (.ref B) H'→compPost (model X.prog X.w) X.A X.xe use QQ (.ref B) C (.ok .next) s4) :
  wpAny (model X.prog X.w) X.A (comprehension (.ListComp elt [⟨tg,iter,ifs,0⟩] scope pos) scope X.env pos' (newList []) false (eval iter X.env) use) QQ X.xe s:=by
 refine wpAny_comprehension_free (use:=use) rfl hs cp.clos cp.kind cp.names (thn (hi pins s σ H _ I h) fun v s1 h1=>thn h1 fun itv s2 h2=>?_)
 obtain ⟨it,fp,tn,J,H2,e,I2,T,st2,f2,R⟩:=h2
 subst e
 have hfl:∀ b∈fp,b<s2.heap.objs.size:=fun b hb=>let ⟨o,e,_⟩:=T.obj _ _ st2 b hb;xA1 e
 refine xBl (wpAny_newFunctionEnv cp.cell (by intro y hy;simp at hy) (fun h1 hns1 hsb1=>?_) cp.kind)
 dsimp only at hns1 hsb1 ⊢
 generalize hG:s2.heap.push { cls:=.type "list",dict:=none,data:=.seq ([]:List Value).toArray }=G2 at hns1 hsb1 ⊢
 have hCs:G2.objs.size=s2.heap.objs.size+1:=by rw [← hG,Heap.size_push]
 have hDC:s2.heap.objs.size≠G2.objs.size:=by rw [hCs];exact xA0 (Nat.lt_succ_self _)
 have hCle:s2.heap.objs.size≤G2.objs.size:=by rw [hCs];exact Nat.le_succ _
 have old:∀ b o,s2.heap.get? b=some o→h1.get? b=some o:=fun b o e=>hsb1.extBut b o (xA0 (xBc (xA1 e) hCle)) (xAf _ (hG ▸ xAf _ e))
 have hacc:h1.get? s2.heap.objs.size=some { cls:=.type "list",dict:=none,data:=.seq ([]:List Value).toArray }:=hsb1.extBut _ _ hDC (xAf _ (hG ▸ xAl _ rfl))
 have hDn:H2 s2.heap.objs.size=none:=I2.hok.fresh (xAg _)
 have hCn:H2 G2.objs.size=none:=I2.hok.fresh hCle
 obtain ⟨W,⟨m0,w0⟩,turn⟩:=R s2.heap.objs.size hDn
 have okY:=pj (C:=G2.objs.size) cp I2 hCle f2 hfl
 have I3:Inv (cxComp X (ls++N) scope cl G2.objs.size s2 H2 fp) [] (List.replicate ls.length none++capV σ fr) (upd H2 s2.heap.objs.size (.lst [])) { s2 with heap:=h1,toks:=s2.toks+([]:List (Str×Value)).length }:=by
  refine ⟨okY,rfl,I2.bare,Un.laid old (xAg _) hDn,⟨_,hns1,fun i y v e1 e2 e3=>?_⟩,fun y c e=>?_,?_,fun y c e=>?_,(fun p hp=>nomatch hp),I2.hok.laid old (xAg _) ⟨xBn _,[],0,.nil,hacc⟩,?_⟩
  ·obtain ⟨hm,e2'⟩:=je e2
   have e1':N[i - ls.length]?=some y:=by
    have e1'':(ls++N)[i]?=some y:=e1
    rw [List.getElem?_append_right hm] at e1''
    exact e1''
   obtain ⟨k,c,g1,g2,g3,g4,g5,g6⟩:=cp.caps _ y e1'
   have e4:σ[k]?=some (some v):=by
    unfold capV at e2'
    rw [xAw,g1] at e2'
    have e5:(σ[k]?).join=some v:=xB3 e2'
    cases z:σ[k]? with
    | none=>rw [z] at e5;cases e5
    | some o=>rw [z] at e5;exact congrArg some e5
   obtain ⟨m2,_,hl2⟩:=I2.loc
   obtain ⟨u,r,lk⟩:=hl2 k y v g2 e4 g3
   refine ⟨u,r,.inr ⟨dW g6,c,g5,?_⟩⟩
   rcases lk with ⟨lk,_⟩ | ⟨_,c',lk1,o,lk2,lk3⟩
   ·exact absurd lk g4
   ·have:=cp.sub y c g5
    rw [lk1] at this
    cases this
    exact ⟨o,old _ _ lk2,lk3⟩
  ·obtain ⟨v,o,e1,e2⟩:=I2.cell y c (cp.sub y c e)
   exact ⟨v,o,old _ _ e1,e2⟩
  ·show upd H2 s2.heap.objs.size (.lst []) G2.objs.size=none
   rw [am (Ne.symm hDC)]
   exact hCn
  ·obtain ⟨v,o,e1,e2⟩:=I2.cell y c (cp.sub y c e)
   rw [am (xA0 (xA1 e1))]
   exact I2.freeC y c (cp.sub y c e)
  ·change (List.replicate ls.length none++capV σ fr).length=(ls++N).length
   unfold capV
   rw [xAb,xAb,List.length_replicate,xAa,cp.len]
 have stat:∀ {H':Hp},(∀ b∈fp,H' b=none)→∀ b∈fp,FpOk (cxComp X (ls++N) scope cl G2.objs.size s2 H2 fp) [] H' b:=fun hn b hb =>
  ⟨hn b hb,xA0 (xBc (hfl b hb) hCle),okY.exfs b hb,.inl hb,(okY.exf b hb).2,fun p hp=>nomatch hp⟩
 have loop:∀ s3:Shared,s3={ s2 with heap:=h1,toks:=s2.toks+([]:List (Str×Value)).length } →
   codeAny (model X.prog X.w) X.A (.compLoop (.ListComp elt [⟨tg,iter,ifs,0⟩] scope pos) 0 (.ref it) (.ref s2.heap.objs.size) (compEnvC scope cl G2.objs.size X.env))
    (compPost (model X.prog X.w) X.A X.xe use QQ (.ref s2.heap.objs.size) G2.objs.size) s3:=by
  rintro s3 rfl
  refine ke (fun n s'=>∃ i ys H',Inv (cxComp X (ls++N) scope cl G2.objs.size s2 H2 fp) [] (List.replicate ls.length none++capV σ fr) H' s'∧tn i s'.heap∧(∀ b∈fp,H' b=none)∧W i n ys H') ?_ m0
   ⟨0,[],_,I3,T.keep _ _ _ st2 (fun b hb o e=>old b o e),fun b hb=>by rw [am (xA0 (hfl b hb))];exact (f2 b hb).1,w0⟩
  rintro n s' ⟨i,ys,H',IY,st,frn,w'⟩
  obtain ⟨hD,hh⟩:=turn i n ys H' w'
  rcases hh with ⟨stop,q⟩ | ⟨go,hz,Nx,hN,step⟩
  ·refine wpAny_mono (T.done (cxComp X (ls++N) scope cl G2.objs.size s2 H2 fp) rfl rfl rfl hc i [] s' _ H' (fun _ _=>False) IY (stat frn) st stop) (fun r s4 h4=>?_) (fun _ _ z=>z.elim)
   obtain ⟨hr,I4⟩:=h4
   subst hr
   obtain ⟨mY,hnY,_⟩:=I4.loc
   have I5:Inv X pins σ H' s4:=Inv.call' (s:=s2) (H:=H2) (ch:=fp) I2 I4.os I4.base I4.hok I4.bare (fun b hb=>⟨(f2 b hb).2.2.2.1,(f2 b hb).2.1,(f2 b hb).2.2.2.2.1,(f2 b hb).2.2.2.2.2⟩)
   exact fin _ _ H' s4 mY I5 (I2.fpOk hCle I4.free) hnY q
  ·refine wpAny_mono (T.item (cxComp X (ls++N) scope cl G2.objs.size s2 H2 fp) rfl rfl rfl hc i [] s' _ H' (fun _ _=>False) IY (stat frn) st go) (fun r s4 h4=>?_) (fun _ _ z=>z.elim)
   obtain ⟨u,hr,h4⟩:=h4
   subst hr
   refine wpAny_mono h4 (fun _ s5 h5=>?_) (fun _ _ z=>z.elim)
   obtain ⟨xv,H5,I5,r5,y5,st5,fr5⟩:=h5
   have I5':=I5.pinned (stat fr5) (T.obj _ _ st5)
   refine wpAny_mono (hg G2.objs.size s2 H2 fp _ s5 _ H5 xv u _ I5' r5 (step xv H5 y5)) (fun _ s6 h6=>?_) (fun _ _ z=>z.elim)
   obtain ⟨σ6,H6,I6,c6,l6,t6⟩:=h6
   have back:∀ {H7:Hp} {s7:Shared},Inv (cxComp X (ls++N) scope cl G2.objs.size s2 H2 fp) ([]++pinsAt fp s5.heap) σ6 H7 s7→Inv (cxComp X (ls++N) scope cl G2.objs.size s2 H2 fp) [] (List.replicate ls.length none++capV σ fr) H7 s7∧tn (i+1) s7.heap∧∀ b∈fp,H7 b=none:=fun {H7 s7} I7=>by
    refine ⟨I7.unpinned.forget ?_ (fun j v e=>?_),T.keep _ _ _ st5 fun b hb o e=>(I7.pin (b,o) (xBt _ (xBt _ (dz hb e)))).1,fun b hb=>?_⟩
    ·rw [l6,xAb,List.length_replicate]
     unfold capV
     rw [xAa]
    ·obtain ⟨hm,e'⟩:=je e
     rw [← c6,List.getElem?_drop] at e'
     rw [show j=ls.length+(j - ls.length) by lia]
     exact e'
    ·obtain ⟨o,e,d⟩:=T.obj _ _ st5 b hb
     exact (I7.pin (b,o) (xBt _ (xBt _ (dz hb e)))).2.1
   refine wpAny_mono (ht G2.objs.size s2 H2 fp _ s6 _ H6 _ I6 t6) (fun ok s7 h7=>?_) (fun _ _ z=>z.elim)
   obtain ⟨H7,I7,hD7,h7⟩:=h7
   cases ok with
   | false =>
    rw [xCf xAy] at h7 ⊢
    obtain ⟨k',hk,w8⟩:=hN _ _ h7
    obtain ⟨b1,b2,b3⟩:=back I7
    exact ⟨k',hk,i+1,ys,H7,b1,b2,b3,w8⟩
   | true =>
    rw [xCg rfl] at h7 ⊢
    refine wpAny_mono (he G2.objs.size s2 H2 fp _ s7 _ H7 _ I7 h7) (fun xv' s8 h8=>?_) (fun _ _ z=>z.elim)
    obtain ⟨v8,H8,I8,r8,hD8,n8⟩:=h8
    refine wpAny_mono (bf (X:=cxComp X (ls++N) scope cl G2.objs.size s2 H2 fp) _ s8 _ H8 (.ref s2.heap.objs.size) [v8] (.ref s2.heap.objs.size) [xv'] (fun v' H9=>H9=upd H8 s2.heap.objs.size (.lst (ys++[v8]))) I8 rfl (.cons r8 .nil) ⟨s2.heap.objs.size,ys,v8,rfl,rfl,hD8,hz,rfl⟩) (fun _ s9 h9=>?_) (fun _ _ z=>z.elim)
    obtain ⟨v9,H9,I9,_,rfl⟩:=h9
    obtain ⟨k',hk,w9⟩:=hN _ _ n8
    obtain ⟨b1,b2,b3⟩:=back I9
    exact ⟨k',hk,i+1,ys++[v8],_,b1,b2,b3,w9⟩
 exact codeAny_compStart_list (loop _ rfl) (T.self _ 0 _ _ _ (T.keep _ _ _ st2 (fun b hb o e=>old b o e)) (loop _ rfl))
theorem tO (hc:X.calm=true) (cp:CapsG X scope cl ls N fr) (hi:PI X tg iter wi) (hg:∀ C s H fp,PG (cxComp X (ls++N) scope cl C s H fp) tg g) (ht:∀ C s H fp,PTs (cxComp X (ls++N) scope cl C s H fp) ifs tc) (he:∀ C s H fp,PE (cxComp X (ls++N) scope cl C s H fp) elt te)
  (hs:∀ v,foldedSetIterable iter X.env v=pure v:=by intro _;rfl):PE X (.ListComp elt [⟨tg,iter,ifs,0⟩] scope pos) (tLCg wi ls.length fr g tc te):=by
 intro pins s σ H Q I h
 rw [eval_ListComp]
 refine jA (use:=none) (QQ:=EP X pins σ Q) hc cp hi hg ht he hs I h fun B C H' s4 m I4 f4 n4 q4=>⟨m,n4,fun h' sb=>?_⟩
 exact ⟨.ref B,H',I4.turned (t':=s4.toks) (fun b o hb e=>sb.extBut b o hb e) f4.1 f4.2.1 f4.2.2.2.1 f4.2.2.2.2.1 f4.2.2.2.2.2,rfl,q4⟩
theorem nX {i:Nat} {y:Str} {py spos:Pos} (hN:X.N.Nodup) (hiy:X.N[i]?=some y) (hy:X.env.scope.names.lookup y=some .local) (hc:X.calm=true) (cp:CapsG X scope cl ls N fr) (hi:PI X tg iter wi) (hg:∀ C s H fp,PG (cxComp X (ls++N) scope cl C s H fp) tg g) (ht:∀ C s H fp,PTs (cxComp X (ls++N) scope cl C s H fp) ifs tc) (he:∀ C s H fp,PE (cxComp X (ls++N) scope cl C s H fp) elt te)
  (hs:∀ v,foldedSetIterable iter X.env v=pure v:=by intro _;rfl) (hsw:swapsWith (.ListComp elt [⟨tg,iter,ifs,0⟩] scope pos) (some (.Name y py)) spos.line X.env=pure true:=by rfl) :
  PS X (.Assign [.Name y py] (.ListComp elt [⟨tg,iter,ifs,0⟩] scope pos) spos) (tAsg (tLCg wi ls.length fr g tc te) (gName i)):=by
 intro pins s σ H D I h
 rw [exec_Assign_Name_used _ _ _ _ hsw]
 refine xAd (wpAny_standAt (xAd ?_))
 change wpAny _ X.A (do let _ ← comprehension (.ListComp elt [⟨tg,iter,ifs,0⟩] scope pos) scope X.env _ (newList []) false (eval iter X.env) (some (assign (.Name y py) X.env))) _ _ s
 refine xAd (wpAny_mono (jA (use:=some (assign (.Name y py) X.env)) (QQ:=fun _ s'=>SP X pins D .next s') hc cp hi hg ht he hs I h fun B C H' s4 m I4 f4 n4 q4=>?_) (fun _ s' z=>xAe (xAe z)) fun _ _ z=>z)
 change wpAny _ X.A (assign (.Name y py) X.env (.ref B)) _ _ _
 refine wpAny_assign_Name (gx I4 hN hiy (.inl hy) (v:=.ref B) rfl (fun s5 I5 ⟨a,sb5,ha⟩=>?_) (.inr hy))
 have aC:C≠a:=by
  rcases ha with ha | ha
  ·rw [ha];exact f4.2.1
  ·exact fun z=>f4.2.2.2.2.1 _ _ ha z.symm
 refine ⟨m,n4.sameBut sb5 aC,fun h' sb=>⟨_,H',?_,q4⟩⟩
 exact I5.turned (t':=s5.toks) (fun b o hb e=>sb.extBut b o hb e) f4.1 f4.2.1 f4.2.2.2.1 f4.2.2.2.2.1 f4.2.2.2.2.2
end
structure CapOne (X:Cx) (scope:Scope) (cl:List (Str×Addr)) (y:Str) (k:Nat):Prop where
 ex:∃ c,cl.lookup y=some c∧X.env.cells.lookup y=some c
 at':X.N[k]?=some y
 cell:X.env.scope.names.lookup y=some .cell
 free:scope.names.lookup y=some .free
theorem f9 {α:Type} {y:Str} {c:α}:∀ {l:List (Str×α)},l.lookup y=some c→(y,c)∈l
 | [],h=>by simp at h
 | (z,d)::r,h=>by
  rw [List.lookup_cons] at h
  by_cases e:y == z
  ·rw [e] at h
   cases xB3 h
   rw [eq_of_beq e]
   exact xAr
  ·rw [Bool.eq_false_iff.mpr e] at h
   exact xAs _ (f9 h)
theorem CapsG.mk' {X:Cx} {scope:Scope} {cl:List (Str×Addr)} {ls N:List Str} {fr:List Nat} (clos:closureFor scope X.env=pure cl) (cell:∀ y∈scope.names,y.2≠.cell) (kind:scope.kind = .function)
  (names:∀ y∈scope.names,y.2 = .local→scope.names.lookup y.1=some .local) (h:Paired (CapOne X scope cl) N fr) (has:∀ y∈scope.names,y.2 = .free→y.1∈N) (hk:cl.map (·.1)=N):CapsG X scope cl ls N fr:=by
 have get:∀ {N:List Str} {fr:List Nat},Paired (CapOne X scope cl) N fr→∀ (j:Nat) (y:Str),N[j]?=some y→∃ k,fr[j]?=some k∧CapOne X scope cl y k:=by
  intro N fr h
  induction h with
  | nil=>intro j y e;simp at e
  | cons hd tl ih =>
   intro j y e
   cases j with
   | zero=>simp at e;subst e;exact ⟨_,rfl,hd⟩
   | succ j=>exact ih j y (by simpa using e)
 have mem:∀ y∈N,∃ k,CapOne X scope cl y k:=fun y hy=>by
  obtain ⟨j,e⟩:=List.mem_iff_getElem?.mp hy
  obtain ⟨k,_,c⟩:=get h j y e
  exact ⟨k,c⟩
 refine ⟨clos,cell,kind,names,fun y c e=>?_,fun y hy e=>?_,fun j y e=>?_,h.length⟩
 ·have hy:y∈N:=by
   rw [← hk]
   have:=f9 e
   exact xA2.mpr ⟨_,this,rfl⟩
  obtain ⟨k,⟨c',e1,e2⟩,_⟩:=mem y hy
  rw [e] at e1
  cases e1
  exact e2
 ·obtain ⟨k,⟨c',e1,e2⟩,_⟩:=mem _ (has y hy e)
  exact ⟨c',e1⟩
 ·obtain ⟨k,e1,⟨c,e2,e3⟩,g1,g2,g3⟩:=get h j y e
  refine ⟨k,c,e1,g1,.inr (.inl g2),fun q=>?_,e2,g3⟩
  have q':X.env.scope.names.lookup y=some .local:=q
  rw [g2] at q'
  cases q'
end L2
namespace L2
open PySem PySem.Spec PyProof.Rows
inductive D where
 | int (i:Int) | str (x:Str) | bl (b:Bool) | non | tup (ds:List D)
mutual
def Rp (H:Hp):D→V→Prop
 | .int i,v=>v = .int i
 | .str x,v=>v = .str x
 | .bl b,v=>v = .bl b
 | .non,v=>v = .non
 | .tup ds,v=>∃ p vs,v = .ref p∧H p=some (.tup vs)∧Rps H ds vs
def Rps (H:Hp):List D→List V→Prop
 | [],vs=>vs=[]
 | d::ds,vs=>∃ v r,vs=v::r∧Rp H d v∧Rps H ds r
end
def TLe (H H':Hp):Prop:=∀ p xs,H p=some (.tup xs)→H' p=some (.tup xs)
theorem TLe.refl {H:Hp}:TLe H H:=fun _ _ e=>e
theorem TLe.trans {H H1 H2:Hp} (a:TLe H H1) (b:TLe H1 H2):TLe H H2:=fun p xs e=>b p xs (a p xs e)
theorem TLe.of {H H':Hp} (s:Same H H'):TLe H H':=fun p xs e=>s p _ e
mutual
theorem Rp.le {H H':Hp} (s:TLe H H'):∀ {d:D} {v:V},Rp H d v→Rp H' d v
 | .int _,_,h=>h
 | .str _,_,h=>h
 | .bl _,_,h=>h
 | .non,_,h=>h
 | .tup _,_,h=>by
  obtain ⟨p,vs,e,hp,hs⟩:=h
  exact ⟨p,vs,e,s _ _ hp,Rps.le s hs⟩
theorem Rps.le {H H':Hp} (s:TLe H H'):∀ {ds:List D} {vs:List V},Rps H ds vs→Rps H' ds vs
 | [],_,h=>h
 | _::_,_,h=>by
  obtain ⟨v,r,e,h1,h2⟩:=h
  exact ⟨v,r,e,Rp.le s h1,Rps.le s h2⟩
end
theorem Rp.mono {H H':Hp} {d:D} {v:V} (h:Rp H d v) (s:Same H H'):Rp H' d v:=h.le (.of s)
theorem Rps.mono {H H':Hp} {ds:List D} {vs:List V} (h:Rps H ds vs) (s:Same H H'):Rps H' ds vs:=h.le (.of s)
theorem Rps.length {H:Hp}:∀ {ds:List D} {vs:List V},Rps H ds vs→vs.length=ds.length
 | [],_,h=>by rw [show _=[] from h];rfl
 | _::_,_,h=>by
  obtain ⟨v,r,e,_,h2⟩:=h
  rw [e,xAo,Rps.length h2,xAo]
theorem Rps.get {H:Hp}:∀ {ds:List D} {vs:List V},Rps H ds vs→∀ {i:Nat} {d:D},ds[i]?=some d→∃ v,vs[i]?=some v∧Rp H d v
 | [],_,_,_,_,e=>by simp at e
 | d::ds,_,h,i,d',e=>by
  obtain ⟨v,r,rfl,h1,h2⟩:=h
  cases i with
  | zero=>simp at e;subst e;exact ⟨v,rfl,h1⟩
  | succ i=>exact Rps.get h2 (by simpa using e)
theorem Rps.get' {H:Hp} {ds:List D} {vs:List V} (h:Rps H ds vs) {i:Nat} {v:V} (e:vs[i]?=some v):∃ d,ds[i]?=some d∧Rp H d v:=by
 have hi:i<vs.length:=(xAq.mp e).1
 have hl:=h.length
 obtain ⟨v',e',r⟩:=h.get (i:=i) (xAk (by lia))
 rw [e] at e'
 cases e'
 exact ⟨_,xAk (by lia),r⟩
theorem Rps.app {H:Hp}:∀ {ds es:List D} {vs us:List V},Rps H ds vs→Rps H es us→Rps H (ds++es) (vs++us)
 | [],_,_,_,h,g=>by rw [show _=[] from h];exact g
 | _::_,_,_,_,h,g=>by
  obtain ⟨v,r,rfl,h1,h2⟩:=h
  exact ⟨v,r++_,rfl,h1,Rps.app h2 g⟩
theorem Rps.one {H:Hp} {d:D} {v:V} (h:Rp H d v):Rps H [d] [v]:=⟨v,[],rfl,h,rfl⟩
theorem Rps.snoc {H:Hp} {ds:List D} {d:D} {vs:List V} {v:V} (h:Rps H ds vs) (g:Rp H d v):Rps H (ds++[d]) (vs++[v]):=h.app (.one g)
theorem Rps.ints {H:Hp}:∀ {ns:List Int} {vs:List V},Rps H (ns.map D.int) vs→vs=ns.map V.int
 | [],_,h=>h
 | _::_,_,h=>by
  obtain ⟨v,r,rfl,h1,h2⟩:=h
  rw [show v=_ from h1,Rps.ints h2]
  rfl
theorem Rps.ofInts {H:Hp}:∀ (ns:List Int),Rps H (ns.map D.int) (ns.map V.int)
 | []=>rfl
 | n::ns=>⟨.int n,ns.map V.int,rfl,rfl,Rps.ofInts ns⟩
def LD (H:Hp) (l:Addr) (ds:List D):Prop:=∃ vs,H l=some (.lst vs)∧Rps H ds vs
theorem LD.mono {H H':Hp} {l:Addr} {ds:List D} (h:LD H l ds) (s:Same H H'):LD H' l ds:=let ⟨vs,e,r⟩:=h;⟨vs,s _ _ e,r.mono s⟩
theorem LD.kept {H H':Hp} {fp:List Addr} {l:Addr} {ds:List D} (h:LD H l ds) (k:Kept fp H H') (t:TLe H H') (n:l ∉ fp):LD H' l ds:=let ⟨vs,e,r⟩:=h;⟨vs,k _ _ e n,r.le t⟩
def NoT (fp:List Addr) (H:Hp):Prop:=∀ a∈fp,∀ xs,H a≠some (.tup xs)
theorem Kept.tle {H H':Hp} {fp:List Addr} (k:Kept fp H H') (n:NoT fp H):TLe H H':=fun p xs e=>k p _ e fun z=>n p z xs e
theorem TLe.upd {H:Hp} {a:Addr} {o:HO} (h:∀ xs,H a≠some (.tup xs)):TLe H (upd H a o):=fun p xs e=>by
 have:p≠a:=fun z=>h xs (by rw [← z];exact e)
 rw [am this]
 exact e
mutual
def D.dep:D→Nat
 | .tup ds=>D.deps ds+1
 | _=>0
def D.deps:List D→Nat
 | []=>0
 | d::ds=>max (D.dep d) (D.deps ds)
end
theorem Al.up {H:Hp} {n:Nat} {x y:V} (h:Al H n x y):∀ {m:Nat},n≤m→Al H m x y:=by
 induction h with
 | flat f=>intro m _;exact .flat f
 | same=>intro m _;exact .same
 | @tup n a b xs ys ea eb el _ ih =>
  intro m hm
  obtain ⟨k,rfl⟩:∃ k,m=k+1:=⟨m - 1,by lia⟩
  exact .tup ea eb el fun j x y e1 e2=>ih j x y e1 e2 (by lia)
 | @lst n a b xs ys ea eb el _ ih =>
  intro m hm
  obtain ⟨k,rfl⟩:∃ k,m=k+1:=⟨m - 1,by lia⟩
  exact .lst ea eb el fun j x y e1 e2=>ih j x y e1 e2 (by lia)
mutual
theorem Rp.al {H:Hp}:∀ {d:D} {x y:V},Rp H d x→Rp H d y→Al H (D.dep d) x y
 | .int _,_,_,h,g=>by rw [show _=_ from h,show _=_ from g];exact .flat rfl
 | .str _,_,_,h,g=>by rw [show _=_ from h,show _=_ from g];exact .flat rfl
 | .bl _,_,_,h,g=>by rw [show _=_ from h,show _=_ from g];exact .flat rfl
 | .non,_,_,h,g=>by rw [show _=_ from h,show _=_ from g];exact .flat rfl
 | .tup ds,_,_,h,g=>by
  obtain ⟨p,vs,rfl,hp,hs⟩:=h
  obtain ⟨q,us,rfl,hq,gs⟩:=g
  have:=Rps.al hs gs
  refine .tup hp hq (by rw [hs.length,gs.length]) fun j x y e1 e2=>this j x y e1 e2
theorem Rps.al {H:Hp}:∀ {ds:List D} {vs us:List V},Rps H ds vs→Rps H ds us→∀ (j:Nat) (x y:V),vs[j]?=some x→us[j]?=some y→Al H (D.deps ds) x y
 | [],_,_,h,_,j,x,y,e1,_=>by rw [show _=[] from h] at e1;simp at e1
 | d::ds,_,_,h,g,j,x,y,e1,e2=>by
  obtain ⟨v,r,rfl,h1,h2⟩:=h
  obtain ⟨v',r',rfl,g1,g2⟩:=g
  cases j with
  | zero =>
   simp at e1 e2
   subst e1 e2
   exact (Rp.al h1 g1).up (by simp only [D.deps];lia)
  | succ j=>exact (Rps.al h2 g2 j x y (by simpa using e1) (by simpa using e2)).up (by simp only [D.deps];lia)
end
end L2
namespace L2
open PySem PySem.Spec PyProof.Rows
def nNewT (xs:List V) (H:Hp) (Q:VK):Prop:=xs.length≤sizeLine∧∀ p,H p=none→Q (.ref p) (upd H p (.tup xs))
def nNewL (xs:List V) (H:Hp) (Q:VK):Prop:=xs.length≤sizeLine∧∀ p,H p=none→Q (.ref p) (upd H p (.lst xs))
def cLen (K:xFr):List V→Hp→VK→Prop:=fun xs H Q=>∃ x n,xs=[x]∧LenV K x H n∧Q (.int n) H
def cTuple (K:xFr):List V→Hp→VK→Prop:=fun xs H Q=>∃ p ys,xs=[.ref p]∧((SqL K H p ys∧∀ l,H l=none→Q (.ref l) (upd H l (.tup ys)))∨(SqT K H p ys∧Q (.ref p) H))
def cIsT (K:xFr):List V→Hp→VK→Prop:=fun xs H Q=>∃ x n t b,xs=[x,V.ty n]∧TyOf K H x t∧PySem.W.kitOne K t (.type n)=some b∧Q (.bl b) H
def cMax2:List V→Hp→VK→Prop:=fun xs H Q=>∃ i j,xs=[.int i,.int j]∧Q (.int (if j > i then j else i)) H
def cInt1:List V→Hp→VK→Prop:=fun xs H Q=>(∃ i,xs=[.int i]∧Q (.int i) H)∨∃ k,xs=[.bl k]∧Q (.int (if k then 1 else 0)) H
section
variable {X:Cx}
theorem bD:CallR X (.builtin "len") (cLen X.K):=pk
theorem aW:CallR X (.type "tuple") (cTuple X.K):=gv
theorem ek:CallR X (.builtin "isinstance") (cIsT X.K):=mN
theorem rB (hc:X.calm=true):CallR X (.builtin "max") cMax2:=mM hc
theorem lD:CallR X (.type "int") cInt1:=mO
end
def nNotN:R2:=fun x y H Q=>y = .non∧Q (.bl (!decide (x = .non))) H
theorem qO {X:Cx}:OpR X (compareOp .IsNot) nNotN:=qQ
def nDGet (x y:V) (H:Hp) (Q:VK):Prop:=∃ a v,x = .ref a∧DGet H a y (some v)∧Q v H
def nDPut (x y v:V) (H:Hp) (Q:Hp→Prop):Prop:=∃ a H4,x = .ref a∧DPut H a y v H4∧Q H4
def nBM (K:xFr) (T:String) (r:V→List V→Hp→VK→Prop) (t:TA) (x:V) (σ:St) (H:Hp) (Q:VK):Prop:=tyV K T x H∧t σ H fun xs H2=>r x xs H2 Q
section
variable {t u:TS} {te ta tb tv:TE} {tt:TT} {tas:TA} {g:TG} {Dn:Ends} {σ:St} {H:Hp} {Q:VK} {QB:Bool→Hp→Prop} {QA:List V→Hp→Prop} {QS:St→Hp→Prop} {K:xFr} {x y:V} {p a:Addr} {xs ys:List V}
theorem uz (h:t { Dn with nx:=u Dn } σ H):tSeq t u Dn σ H:=h
theorem jP (h:Dn.nx σ H):tNext Dn σ H:=h
theorem uW (h:te σ H fun x H1=>g x σ H1 Dn.nx):tAsg te g Dn σ H:=h
theorem fV {i:Nat} {v:V} (h:QS (σ.set i (some v)) H):gName i v σ H QS:=h
theorem sM {n:Nat} {tg:TGs} (e:H p=some (.tup xs)) (hn:xs.length=n) (h:tg xs σ H QS):gTup K n tg (.ref p) σ H QS:=⟨p,xs,rfl,.of e,hn,h⟩
theorem pZ {tg:TG} {tgs:TGs} (h:tg x σ H fun σ' H'=>tgs xs σ' H' QS):gCons tg tgs (x::xs) σ H QS:=⟨x,xs,rfl,h⟩
theorem sP (h:QS σ H):gNil [] σ H QS:=⟨rfl,h⟩
theorem uA (h:te σ H Dn.rt):tRet te Dn σ H:=h
theorem sR (h:te σ H fun _ H1=>Dn.nx σ H1):tDrop te Dn σ H:=h
theorem uL (h:tt σ H fun b H1=>if b=true then t Dn σ H1 else u Dn σ H1):tIfS tt t u Dn σ H:=h
theorem uM {te':TE} (h:tt σ H fun b H1=>if b=true then te σ H1 Q else te' σ H1 Q):tIf tt te te' σ H Q:=h
theorem sx (h:te σ H fun x H'=>∃ k,x=V.bl k∧QB k H'):tTest te σ H QB:=h
theorem pS (h:te σ H fun x H'=>∃ k,x=V.bl k∧QB k H'):tB te σ H QB:=h
theorem wL {k:Bool} {QK:Bool→Prop} (h:QK k):∃ k',V.bl k=V.bl k'∧QK k':=⟨k,rfl,h⟩
theorem wA {r:R2} (h:ta σ H fun x H1=>tb σ H1 fun y H2=>r x y H2 Q):tOp r ta tb σ H Q:=h
theorem wy {r:V→Hp→VK→Prop} (h:ta σ H fun x H1=>r x H1 Q):tUn r ta σ H Q:=h
theorem ux {i:Nat} {v:V} (e:σ[i]?=some (some v)) (h:Q v H):tVar i σ H Q:=⟨v,e,h⟩
theorem r_c {v:V} (h:Q v H):tC v σ H Q:=h
theorem wN {f:Int→Int→V} {i j:Int} (h:Q (f i j) H):rI0 f (.int i) (.int j) H Q:=⟨i,j,rfl,rfl,h⟩
theorem r_I {C:Int→Int→Prop} {f:Int→Int→V} {i j:Int} (c:C i j) (h:Q (f i j) H):rI C f (.int i) (.int j) H Q:=⟨i,j,rfl,rfl,c,h⟩
theorem r_U {f:Int→V} {i:Int} (h:Q (f i) H):rU f (.int i) H Q:=⟨i,rfl,h⟩
theorem uT {i j:Int} (h:Q (.bl (decide (i=j))) H):rEq (.int i) (.int j) H Q:=⟨rfl,by rw [show decide (V.int i=V.int j)=decide (i=j) from by simp];exact h⟩
theorem uS {x y:Str} (h:Q (.bl (decide (x=y))) H):rEq (.str x) (.str y) H Q:=⟨rfl,by rw [show decide (V.str x=V.str y)=decide (x=y) from by simp];exact h⟩
theorem uF {i j:Int} (h:Q (.bl (!decide (i=j))) H):rNe (.int i) (.int j) H Q:=⟨rfl,by rw [show decide (V.int i=V.int j)=decide (i=j) from by simp];exact h⟩
theorem uE {x y:Str} (h:Q (.bl (!decide (x=y))) H):rNe (.str x) (.str y) H Q:=⟨rfl,by rw [show decide (V.str x=V.str y)=decide (x=y) from by simp];exact h⟩
theorem sF (h:Q (.bl (!decide (x = .non))) H):nNotN x .non H Q:=⟨rfl,h⟩
theorem gB {i:Int} {v:V} (e:H p=some (.tup xs)) (at':atI xs i=some v) (h:Q v H):rIxT K (.ref p) (.int i) H Q:=⟨p,xs,i,v,rfl,rfl,.of e,at',h⟩
theorem dh {i:Int} {v:V} (e:H p=some (.lst xs)) (at':atI xs i=some v) (h:Q v H):rIxL K (.ref p) (.int i) H Q:=⟨p,xs,i,v,rfl,rfl,.of e,at',h⟩
theorem uD (h:QA [] H):tNil σ H QA:=h
theorem sU (h:te σ H fun x H1=>tas σ H1 fun xs H2=>QA (x::xs) H2):tCons te tas σ H QA:=h
theorem uC (h:tt σ H fun c H1=>QB (!c) H1):tNot tt σ H QB:=h
theorem uX {tt':TT} (h:tt σ H fun c H1=>if c=true then tt' σ H1 QB else QB false H1):tAnd tt tt' σ H QB:=h
theorem wz {tt':TT} (h:tt σ H fun c H1=>if c=true then QB true H1 else tt' σ H1 QB):tOr tt tt' σ H QB:=h
theorem sX (h:ta σ H fun x H1=>∃ c,x=V.bl c∧if c=true then tb σ H1 Q else Q (.bl false) H1):tAndV ta tb σ H Q:=h
theorem uB (h:ta σ H fun x H1=>∃ c,x=V.bl c∧if c=true then Q (.bl true) H1 else tb σ H1 Q):tOrV ta tb σ H Q:=h
theorem sE (h:ta σ H fun x H1=>∃ c,x=V.bl c∧Q (.bl (!c)) H1):tNotV ta σ H Q:=h
theorem uv (h:QB true H):tYes σ H QB:=h
theorem sW {sp:Sp} {dvs:List V} {E:XK} (h:tas σ H fun vs H1=>sp (vs++dvs) H1 Q E):tCall sp dvs E tas σ H Q:=h
theorem wK {r:List V→Hp→VK→Prop} (h:tas σ H fun vs H1=>r vs H1 Q):tCB r tas σ H Q:=h
theorem uy (h:tas σ H fun xs H1=>nNewT xs H1 Q):tTup tas σ H Q:=h
theorem uG (h:tas σ H fun xs H1=>nNewL xs H1 Q):tLst tas σ H Q:=h
theorem cM (h:∀ p H2,Same H H2→H p=none→H2 p=some (.tup xs)→Q (.ref p) H2) (hl:xs.length≤1000:=by first | decide | simp):nNewT xs H Q:=⟨small hl,fun p hp=>h p _ (aw hp _) hp ah⟩
theorem aZ (h:∀ p H2,Same H H2→H p=none→H2 p=some (.lst xs)→Q (.ref p) H2) (hl:xs.length≤1000:=by first | decide | simp):nNewL xs H Q:=⟨small hl,fun p hp=>h p _ (aw hp _) hp ah⟩
theorem sJ (e:H p=some (.lst ys)) (h:Q (.int ys.length) H):cLen K [.ref p] H Q:=⟨_,_,rfl,.inl ⟨ys,.of e,rfl⟩,h⟩
theorem kD (e:SqL K H p ys) (h:Q (.int ys.length) H):cLen K [.ref p] H Q:=⟨_,_,rfl,.inl ⟨ys,e,rfl⟩,h⟩
theorem sH (e:H p=some (.tup ys)) (h:Q (.int ys.length) H):cLen K [.ref p] H Q:=⟨_,_,rfl,.inr ⟨ys,.of e,rfl⟩,h⟩
theorem bu (e:H p=some (.lst ys)) (h:∀ l H2,Same H H2→H l=none→H2 l=some (.tup ys)→Q (.ref l) H2):cTuple K [.ref p] H Q:=⟨p,ys,rfl,.inl ⟨.of e,fun l hl=>h l _ (aw hl _) hl ah⟩⟩
theorem sG {i j:Int} (h:Q (.int (if j > i then j else i)) H):cMax2 [.int i,.int j] H Q:=⟨i,j,rfl,h⟩
theorem sK {k:Bool} (h:Q (.int (if k then 1 else 0)) H):cInt1 [.bl k] H Q:=.inr ⟨k,rfl,h⟩
theorem sT (h:ta σ H fun x H1=>tb σ H1 fun y H2=>nDGet x y H2 Q):tDGet ta tb σ H Q:=h
theorem ik {kvs:List (Key×V)} {k:Str} {v:V} (e:H a=some (.dK kvs)) (hv:valV kvs (.inr k)=some v) (h:Q v H):nDGet (.ref a) (.str k) H Q:=⟨a,v,rfl,.inl ⟨kvs,.inr k,.inl e,rfl,hv.symm⟩,h⟩
theorem sS (h:tv σ H fun v H1=>ta σ H1 fun x H2=>tb σ H2 fun y H3=>nDPut x y v H3 fun H4=>Dn.nx σ H4):sDPut ta tb tv Dn σ H:=h
theorem ii {QH:Hp→Prop} {kvs:List (Key×V)} {k:Str} (e:H a=some (.dK kvs)) (hl:kvs.length≤1000) (h:QH (upd H a (.dK (putK kvs (.inr k) x)))):nDPut (.ref a) (.str k) x H QH:=⟨a,_,rfl,.inl ⟨kvs,.inr k,e,rfl,small1000 hl,rfl⟩,h⟩
variable {r:V→List V→Hp→VK→Prop} {T:String}
theorem uV {to:TE} (h:to σ H fun x H1=>nBM K T r tas x σ H1 Q):tBM K T r to tas σ H Q:=h
theorem uU (e:H p=some (.lst xs)) (h:tas σ H fun ys H2=>r (.ref p) ys H2 Q):nBM K "list" r tas (.ref p) σ H Q:=⟨.inl ⟨rfl,_,.of e⟩,h⟩
theorem bv (e:H p=some (.lst xs)) (hl:xs.length<sizeLine) (h:Q .non (upd H p (.lst (xs++[y])))):rAppend (.ref p) [y] H Q:=⟨p,xs,y,rfl,rfl,e,hl,h⟩
theorem iZ {b:Addr} (e:H p=some (.lst xs)) (e2:H b=some (.lst ys)) (hl:xs.length+ys.length≤sizeLine) (h:Q .non (upd H p (.lst (xs++ys)))):rExtend (.ref p) [.ref b] H Q:=⟨p,b,xs,ys,rfl,rfl,e,e2,hl,h⟩
theorem gD {b:Addr} (e:H p=some (.lst xs)) (e2:H b=some (.lst ys)) (hl:xs.length+ys.length≤sizeLine) (h:∀ l H2,Same H H2→H l=none→H2 l=some (.lst (xs++ys))→Q (.ref l) H2):rCat (.ref p) (.ref b) H Q :=
 ⟨p,b,xs,ys,rfl,rfl,e,e2,hl,fun l hl=>h l _ (aw hl _) hl ah⟩
theorem cx {A B:Prop} {b:Bool} (e:b=true) (h:A):if b=true then A else B:=by rw [xCg e];exact h
theorem bW {A B:Prop} {b:Bool} (e:b=false) (h:B):if b=true then A else B:=by rw [e,xCf xAy];exact h
end
structure Wk (J:It) (P:Hp→Prop) (n:Nat) (Y:Nat→Hp→V→Hp→Prop):Prop where
 go:∀ i H,P H→i<n→J.go i H
 yld:∀ i H x H',P H→i<n→J.yld i H x H'→Y i H x H'
 stop:∀ H,P H→J.stop n H
theorem cU {K:xFr} {a:Addr} {xs:List V}:Wk (Itl K a) (fun H=>SqL K H a xs) xs.length (fun i H x H'=>H'=H∧xs[i]?=some x) :=
 ⟨fun i H p h=>⟨xs,xs[i],p,by simp [h]⟩,fun i H x H' p h y=>⟨y.1,y.2 xs p⟩,fun H p=>⟨xs,p,xAg _⟩⟩
theorem bK {K:xFr} {a:Addr} {xs:List V}:Wk (Itt K a) (fun H=>SqT K H a xs) xs.length (fun i H x H'=>H'=H∧xs[i]?=some x) :=
 ⟨fun i H p h=>⟨xs,xs[i],p,by simp [h]⟩,fun i H x H' p h y=>⟨y.1,y.2 xs p⟩,fun H p=>⟨xs,p,xAg _⟩⟩
theorem bT {lo:Int} {n:Nat}:Wk (Itr lo n) (fun _=>True) n (fun i H x H'=>H'=H∧x = .int (lo+i)) :=
 ⟨fun i H _ h=>h,fun i H x H' _ h y=>y,fun H _=>xAg _⟩
section
variable {J:It} {P:Hp→Prop} {n:Nat} {Y:Nat→Hp→V→Hp→Prop} {g:TG} {tb:TS} {Dn:Ends} {σ:St} {H:Hp}
def nFor (J:It) (g:TG) (tb:TS) (Dn:Ends) (σ:St) (H:Hp):Prop:=∃ W:Nat→Nat→St→Hp→Prop,(∃ m,W 0 m σ H)∧∀ i m σ H,W i m σ H →
 (J.stop i H∧Dn.nx σ H)∨(J.go i H∧∃ N:St→Hp→Prop,(∀ σ' H',N σ' H'→∃ m',m'<m∧W (i+1) m' σ' H')∧∀ x H',J.yld i H x H'→g x σ H' fun σ2 H2=>tb { Dn with nx:=N,ct:=N,bk:=Dn.nx } σ2 H2)
theorem uQ {wi:TI} (h:wi σ H fun J H1=>nFor J g tb Dn σ H1):tFor wi g tb Dn σ H:=h
theorem cQ (wk:Wk J P n Y) (Pv:Nat→St→Hp→Prop) (h0:Pv 0 σ H) (hP:∀ i σ H,i≤n→Pv i σ H→P H)
  (hs:∀ i σ H x H',i<n→Pv i σ H→Y i H x H'→g x σ H' fun σ2 H2=>tb { Dn with nx:=Pv (i+1),ct:=Pv (i+1),bk:=Dn.nx } σ2 H2) (hd:∀ σ H,Pv n σ H→Dn.nx σ H):nFor J g tb Dn σ H:=by
 refine ⟨fun i m σ H=>m=n - i∧i≤n∧Pv i σ H,⟨n,by simp,xBn _,h0⟩,?_⟩
 rintro i m σ H ⟨rfl,hi,p⟩
 have q:=hP i σ H hi p
 by_cases hlt:i<n
 ·exact .inr ⟨wk.go i H q hlt,Pv (i+1),fun σ' H' p'=>⟨n - (i+1),by lia,rfl,hlt,p'⟩,fun x H' y=>hs i σ H x H' hlt p (wk.yld i H x H' q hlt y)⟩
 ·have e:i=n:=by lia
  subst e
  exact .inl ⟨wk.stop H q,hd σ H p⟩
def nLC (J:It) (m:Nat) (cs:St) (g:TG) (tc:TT) (te:TE) (H:Hp) (Q:VK):Prop:=∀ D,H D=none→∃ W:Nat→Nat→List V→Hp→Prop,(∃ k,W 0 k [] (upd H D (.lst [])))∧∀ i k ys H,W i k ys H→H D=some (.lst ys) ∧
 ((J.stop i H∧Q (.ref D) H)∨(J.go i H∧ys.length<sizeLine∧∃ N:List V→Hp→Prop,(∀ ys' H',N ys' H'→∃ k',k'<k∧W (i+1) k' ys' H') ∧
  ∀ x H',J.yld i H x H'→g x (List.replicate m none++cs) H' fun σ2 H2=>σ2.drop m=cs∧σ2.length=m+cs.length ∧
   tc σ2 H2 fun b H3=>H3 D=some (.lst ys)∧if b=true then te σ2 H3 fun v H4=>H4 D=some (.lst ys)∧N (ys++[v]) (upd H4 D (.lst (ys++[v]))) else N ys H3))
theorem wD {wi:TI} {m:Nat} {fr:List Nat} {tc:TT} {te:TE} {Q:VK} (h:wi σ H fun J H1=>nLC J m (capV σ fr) g tc te H1 Q):tLCg wi m fr g tc te σ H Q:=by
 have e:(capV σ fr).length=fr.length:=by unfold capV;rw [xAa]
 unfold nLC at h
 rw [e] at h
 exact h
theorem oI {m:Nat} {cs:St} {tc:TT} {te:TE} {Q:VK} (wk:Wk J P n Y) (Pv:Addr→Nat→List V→Hp→Prop) (h0:∀ D,H D=none→Pv D 0 [] (upd H D (.lst [])))
  (hP:∀ D i ys H,i≤n→Pv D i ys H→H D=some (.lst ys)∧ys.length<sizeLine∧P H)
  (hs:∀ D i ys H x H',i<n→Pv D i ys H→Y i H x H'→g x (List.replicate m none++cs) H' fun σ2 H2=>σ2.drop m=cs∧σ2.length=m+cs.length ∧
   tc σ2 H2 fun b H3=>H3 D=some (.lst ys)∧if b=true then te σ2 H3 fun v H4=>H4 D=some (.lst ys)∧Pv D (i+1) (ys++[v]) (upd H4 D (.lst (ys++[v]))) else Pv D (i+1) ys H3)
  (hd:∀ D ys H,Pv D n ys H→Q (.ref D) H):nLC J m cs g tc te H Q:=by
 intro D hD
 refine ⟨fun i k ys H=>k=n - i∧i≤n∧Pv D i ys H,⟨n,by simp,xBn _,h0 D hD⟩,?_⟩
 rintro i k ys H ⟨rfl,hi,p⟩
 obtain ⟨q1,q2,q3⟩:=hP D i ys H hi p
 refine ⟨q1,?_⟩
 by_cases hlt:i<n
 ·exact .inr ⟨wk.go i H q3 hlt,q2,Pv D (i+1),fun ys' H' p'=>⟨n - (i+1),by lia,rfl,hlt,p'⟩,fun x H' y=>hs D i ys H x H' hlt p (wk.yld i H x H' q3 hlt y)⟩
 ·have e:i=n:=by lia
  subst e
  exact .inl ⟨wk.stop H q3,hd D ys H p⟩
variable {K:xFr} {tl:TE} {tas:TA} {R:It→Hp→Prop} {a:Addr} {xs:List V}
def nIterL (K:xFr) (x:V) (H:Hp) (R:It→Hp→Prop):Prop:=∃ a,x = .ref a∧(∃ xs,SqL K H a xs)∧R (Itl K a) H
def nIterT (K:xFr) (x:V) (H:Hp) (R:It→Hp→Prop):Prop:=∃ a,x = .ref a∧(∃ xs,SqT K H a xs)∧R (Itt K a) H
def nIterR (vs:List V) (H:Hp) (R:It→Hp→Prop):Prop:=∃ j:Int,vs=[.int j]∧-(2 ^ 62)≤j∧j<2 ^ 62∧R (Itr 0 j.toNat) H
theorem wH (h:tl σ H fun x H1=>nIterL K x H1 R):iList K tl σ H R:=h
theorem wF (h:tl σ H fun x H1=>nIterT K x H1 R):iTup K tl σ H R:=h
theorem wG (h:tas σ H fun vs H1=>nIterR vs H1 R):iRng1 tas σ H R:=h
theorem pX (e:H a=some (.lst xs)) (h:R (Itl K a) H):nIterL K (.ref a) H R:=⟨a,rfl,⟨xs,.of e⟩,h⟩
theorem pW (e:H a=some (.tup xs)) (h:R (Itt K a) H):nIterT K (.ref a) H R:=⟨a,rfl,⟨xs,.of e⟩,h⟩
theorem cX {j:Int} (h1:-(2 ^ 62)≤j) (h2:j<2 ^ 62) (h:R (Itr 0 j.toNat) H):nIterR [.int j] H R:=⟨j,rfl,h1,h2,h⟩
end
end L2
namespace L2
open PySem PySem.Spec PyProof.Rows
section
variable {X:Cx}
def rCatA (K:xFr):R2:=fun x y H Q=>∃ a b xs ys,x = .ref a∧y = .ref b∧H a=some (.tup xs)∧H b=some (.tup ys)∧xs.length+ys.length≤sizeLine∧∀ p H2,Same H H2→H2 p=some (.tup (xs++ys))→Q (.ref p) H2
theorem qP:OpR X (binaryOp .Add) (rCatA X.K):=by
 intro pins s σ H x y v u Q I rx ry h
 obtain ⟨a,b,xs,ys,rfl,rfl,ha,hb,hz,q⟩:=h
 by_cases hx:xs=[]
 ·cases (show v=Value.ref a from rx)
  cases (show u=Value.ref b from ry)
  subst hx
  obtain ⟨its,r1,p1,_⟩:=I.tuple (SqT.of ha)
  obtain ⟨its2,r2,p2,_⟩:=I.tuple (SqT.of hb)
  have e1:its=[]:=r1.nil_iff.mpr rfl
  subst e1
  obtain ⟨⟨cls,dd,data,sl⟩,ho,hc,n,hd⟩:=id p1
  obtain ⟨⟨cls2,dd2,data2,sl2⟩,ho2,hc2,n2,hd2⟩:=id p2
  simp only at hc hd hc2 hd2
  subst hc hd hc2 hd2
  refine concat_meets ⟨_,ho,rfl⟩ ⟨_,ho2,rfl⟩ noFill_tuple_add seq_tuple_add PySem.F.slot_tuple_add PySem.F.entry_tuple_add (PySem.F.args_tuple_add_2 _ _)
   (tuple_addW0 a b ([]:List Value).toArray its2.toArray n n2 dd dd2 sl sl2 (by simp)) ⟨ho,ho2,?_⟩
  exact ⟨.ref b,H,I,rfl,q b H (.refl _) hb⟩
 ·refine qV pins s σ H _ _ v u Q I rx ry ⟨a,b,xs,ys,rfl,rfl,.of ha,.of hb,hx,hz,fun e=>?_,fun _ p hp=>q p _ (aw hp _) ah⟩
  subst e
  exact q a H (.refl _) (by rw [List.append_nil];exact ha)
end
end L2
namespace L2
open PySem PySem.Spec PyProof.Rows
section
variable {X:Cx} {a b:Expr} {es:List Expr} {ta tb:TE} {tas:TA} {pos p2:Pos} {k:Nat}
def tInA (neg:Bool) (ta:TE) (tas:TA):TE:=fun σ H Q=>ta σ H fun x H1=>tas σ H1 fun ys H2=>flatV x=true∧ys.all flatV=true∧ys.length≤sizeLine∧Q (.bl (if neg then !inV x ys else inV x ys)) H2
theorem tT (ha:PE X a ta) (hb:PA X es tas):PC X .In a (.Tuple es k p2) (tInA false ta tas):=by
 intro pins s σ H Q I h
 refine thn (ha pins s σ H _ I h) fun v s1 ⟨x,H1,I1,r1,q1⟩=>?_
 refine wpAny_Tuple_spliced (thn (hb p2 pins s1 σ H1 _ I1 q1) fun us s2 ⟨ys,H2,I2,r2,fx,fs,z,q⟩=>⟨by rw [← r2.length];exact z,?_⟩)
 have I3:Inv X pins σ H2 { s2 with heap:=s2.heap.push { cls:=.type "tuple",data:=.seq us.toArray } }:=I2.kept (t':=s2.toks) fun b o e=>xAf _ e
 refine SeqAt.in_tupleAt (eqU x) (IsTup.new _ _) (fun w hw=>eM r1 fx r2 fs w (by simpa using hw)) ⟨.bl _,H2,I3,rfl,?_⟩
 rw [show us.toArray.any (eqU x)=us.any (eqU x) by simp,fL r2 fs]
 exact q
def nInA (neg:Bool) (x:V) (ys:List V) (H:Hp) (Q:VK):Prop:=flatV x=true∧ys.all flatV=true∧ys.length≤sizeLine∧Q (.bl (if neg then !inV x ys else inV x ys)) H
theorem uK {neg:Bool} {σ:St} {H:Hp} {Q:VK} (h:ta σ H fun x H1=>tas σ H1 fun ys H2=>nInA neg x ys H2 Q):tInA neg ta tas σ H Q:=h
theorem uI {x:V} {ys:List V} {H:Hp} {Q:VK} (f:flatV x=true) (fs:ys.all flatV=true) (l:ys.length≤1000) (h:Q (.bl (inV x ys)) H):nInA false x ys H Q:=⟨f,fs,small l,h⟩
def tL0 (K:xFr) (neg:Bool) (ta:TE):TE:=fun σ H Q=>ta σ H fun x H1=>∃ l xs,x = .ref l∧SqL K H1 l xs∧Q (.bl (if neg then !xs.isEmpty else xs.isEmpty)) H1
def nL0 (K:xFr) (neg:Bool) (x:V) (H:Hp) (Q:VK):Prop:=∃ l xs,x = .ref l∧SqL K H l xs∧Q (.bl (if neg then !xs.isEmpty else xs.isEmpty)) H
theorem wM {K:xFr} {neg:Bool} {σ:St} {H:Hp} {Q:VK} (h:ta σ H fun x H1=>nL0 K neg x H1 Q):tL0 K neg ta σ H Q:=h
theorem tU (hu:X.A.units<cLine) (ha:PE X a ta):PC X .Eq a (.List [] p2) (tL0 X.K false ta):=by
 intro pins s σ H Q I h
 refine thn (ha pins s σ H _ I h) fun v s1 ⟨x,H1,I1,r1,l,xs,e,hq,q⟩=>?_
 subst e
 cases r1
 refine wpAny_List_spliced (Calls.spliced_nil ⟨xBn _,?_⟩)
 obtain ⟨its,rv,pl,hz⟩:=I1.list hq
 have I3:Inv X pins σ H1 { s1 with heap:=s1.heap.push { cls:=.type "list",data:=.seq ([]:List Value).toArray } }:=I1.kept (t':=s1.toks) fun b o e=>xAf _ e
 have p1:=(pl.isList.push { cls:=.type "list",data:=.seq ([]:List Value).toArray })
 have p2:(s1.heap.push { cls:=.type "list",data:=.seq ([]:List Value).toArray }).IsList s1.heap.objs.size ([]:List Value).toArray:=⟨_,xAl _ rfl,rfl,_,rfl⟩
 cases xs with
 | nil =>
  have e:its=[]:=rv.nil_iff.mpr rfl
  subst e
  exact SeqAt.eq_listAt (s:={ s1 with heap:=s1.heap.push { cls:=.type "list",data:=.seq ([]:List Value).toArray } }) (e:=fun _=>true) p1 p2 rfl hu (fun j h1=>by simp at h1) (ax I3 q rfl)
 | cons y ys =>
  have hl:=rv.length
  exact SeqAt.eq_list_lengthsAt (s:={ s1 with heap:=s1.heap.push { cls:=.type "list",data:=.seq ([]:List Value).toArray } }) p1 p2 (by rw [xAp,xAp,← hl];rfl) hu (ax I3 q rfl)
end
section
variable {P:Program} {w:World} {K:xFr} {mg:Str→Option Value} {base:Heap}
structure Cal (P:Program) (w:World) (K:xFr) (mg:Str→Option Value) (base:Heap) (x:Str) (k:Nat) (ps:List Str) (sp:Sp):Prop where
 ex:∃ (f:Addr) (fd:FuncData),FnOk P w K mg base CX0 k f fd ps sp∧Binds K fd ps []∧mg x=some (.ref f)∧PySem.W.keepIn K (.ref f)=true
structure Dn (K:xFr) (mg:Str→Option Value) (x:Str) (st:Stmt) (ps:List Str):Prop where
 ex:∃ (f:Addr) (fd:FuncData),Fun K x x st f fd∧Binds K fd ps []∧mg x=some (.ref f)
theorem Dn.ok {x:Str} {st:Stmt} {sc:Scope} {N ps:List Str} {k:Nat} {sp:Sp} (F:Dn K mg x st ps) (S:FnScope N ps sc) (hsc:defScope st=sc) (len:∀ vs H Q E,sp vs H Q E→vs.length=ps.length)
  (hbody:∀ (f:Addr) (cdv:Value) (A:Around) (outer:List Env) (s:Shared) (H:Hp) (vs:List V) (Q:VK) (E:XK),Room k (A.deeper (envOfC x sc s.heap.objs.size f cdv))→sp vs H Q E →
   ∃ t,PSs (cxOf CX0 P w K mg base N x sc f cdv A outer s H E).nox (defBody st) t∧t { nx:=fun _ H'=>Q .non H',rt:=Q } (start N vs) H):Cal P w K mg base x (k+1) ps sp:=by
 subst hsc
 obtain ⟨f,fd,F1,F2,F3⟩:=F.ex
 exact ⟨f,fd,F1.ok S len (fun cdv A outer s H vs Q E hr h=>hbody f cdv A outer s H vs Q E hr h),F2,F3,F1.kp⟩
end
section
variable {X:Cx} {x:Str} {k k':Nat} {ps:List Str} {sp:Sp} {p pos:Pos} {e:Expr} {es:List Expr} {t:TA}
theorem tR (c:Cal X.prog X.w X.K X.mg X.base x k ps sp) (hr:Room k' X.A) (hg:Gl X x) (ha:PA X (e::es) t) (hk:k≤k':=by lia)
  (hs:starEach (e::es) X.env=(false,eval e X.env)::starEach es X.env:=by rfl) (hplain:(backTo pos (starEach es X.env)).any (·.1)=false:=by rfl) (hd:(x == ("__debug__":Str))=false:=by decide):PE X (.Call (.Name x p) (e::es) [] pos) (tCall sp [] E0 t):=by
 obtain ⟨f,fd,h1,h2,h3,h4⟩:=c.ex
 exact qK h1 (hr.mono hk) hg h3 h4 h2 .nil pass0 ha (hdb:=hd) (he:=hs) (hpl:=hplain)
theorem qL (c:Cal X.prog X.w X.K X.mg X.base x k ps sp) (hr:Room k' X.A) (hg:Gl X x) (hk:k≤k':=by lia) (hd:(x == ("__debug__":Str))=false:=by decide):PE X (.Call (.Name x p) [] [] pos) (tCall sp [] E0 tNil):=by
 obtain ⟨f,fd,h1,h2,h3,h4⟩:=c.ex
 exact oq h1 (hr.mono hk) hg h3 h4 h2 .nil pass0 (hdb:=hd)
end
end L2
namespace L2
open PySem PySem.Spec PyProof.Rows
def noStar:Expr→Bool
 | .Starred _ _=>false
 | _=>true
theorem ay {e:Expr} {es:List Expr} {env:Env} (h:noStar e=true):starEach (e::es) env=(false,eval e env)::starEach es env:=by
 cases e <;> first | rfl | cases h
theorem dc {pos:Pos} {env:Env}:∀ {es:List Expr},es.all noStar=true→(backTo pos (starEach es env)).any (·.1)=false
 | [],_=>rfl
 | e::es,h=>by
  rw [List.all_cons,Bool.and_eq_true] at h
  rw [ay h.1]
  change (false || (backTo pos (starEach es env)).any (·.1))=false
  rw [dc h.2]
  rfl
def noComp:Expr→Bool
 | .ListComp ..=>false
 | .SetComp ..=>false
 | .DictComp ..=>false
 | _=>true
theorem fF {e:Expr} {t:Option Expr} {l:Nat} {env:Env} (h:noComp e=true):swapsWith e t l env=pure false:=by
 cases e <;> first | rfl | cases h
def noCall:Expr→Bool
 | .Call ..=>false
 | _=>true
theorem iw {o:Expr} {f:Str} {env:Env} {x:Sem Value} (h:noCall o=true):attributeBase o f env x=x:=by
 cases o <;> first | rfl | cases h
section
variable {X:Cx} {e o:Expr} {es:List Expr} {te to:TE} {t:TA} {pos p apos cpos:Pos} {x name:Str} {id T:String} {i:Nat} {r:List V→Hp→VK→Prop}
theorem vp (ha:PE X e te) (hr:PA X es t) (h:noStar e=true:=by rfl):PA X (e::es) (tCons te t):=qN ha hr (ay h)
theorem vm (hc:CallR X (.builtin id) r) (hg:Gl X x) (hm:X.mg x=none) (hv:bootBuiltins x=some (.builtin id)) (ha:PA X (e::es) t) (h:(e::es).all noStar=true:=by rfl) (hn:x≠"__name__":=by decide) (hdb:(x == ("__debug__":Str))=false:=by decide):PE X (.Call (.Name x p) (e::es) [] pos) (tCB r t):=by
 rw [List.all_cons,Bool.and_eq_true] at h
 exact om hc hg hm hv ha hn hdb (ay h.1) (dc h.2)
theorem vk (hc:CallR X (.type T) r) (hg:Gl X x) (hm:X.mg x=none) (hv:bootBuiltins x=some (.type T)) (ha:PA X (e::es) t) (h:(e::es).all noStar=true:=by rfl) (hn:x≠"__name__":=by decide) (hdb:(x == ("__debug__":Str))=false:=by decide):PE X (.Call (.Name x p) (e::es) [] pos) (tCB r t):=by
 rw [List.all_cons,Bool.and_eq_true] at h
 exact mi hc hg hm hv ha hn hdb (ay h.1) (dc h.2)
variable {k k':Nat} {ps:List Str} {sp:Sp}
theorem vj (c:Cal X.prog X.w X.K X.mg X.base x k ps sp) (hr:Room k' X.A) (hg:Gl X x) (ha:PA X (e::es) t) (hk:k≤k':=by lia) (h:(e::es).all noStar=true:=by rfl) (hd:(x == ("__debug__":Str))=false:=by decide):PE X (.Call (.Name x p) (e::es) [] pos) (tCall sp [] E0 t):=by
 rw [List.all_cons,Bool.and_eq_true] at h
 exact tR c hr hg ha hk (ay h.1) (dc h.2) hd
theorem u8 {pos':Pos} (hN:X.N.Nodup) (hi:X.N[i]?=some x) (hx:Loc X.env.scope x) (he:PE X e te) (h:noComp e=true:=by rfl) (hf:X.fn x=true∨X.env.scope.names.lookup x=some .local:=by first | exact .inl rfl | exact .inr rfl | assumption) :
  PS X (.Assign [.Name x pos'] e pos) (tAsg te (gName i)):=tq hN hi hx he (fF h) hf
theorem vb (he:PE X e te) (h:noComp e=true:=by rfl):PS X (.Expr e pos) (tDrop te):=qp he (fF h)
variable {rm:V→List V→Hp→VK→Prop}
theorem wO (pa:PlainAttrs T) (slot:Slot T name id) (hty:typeOf (.builtin id)=pure (.type "method_descriptor")) (hm:MtR X id rm) (ho:PE X o to) (ha:PA X [e] t) (h:noCall o=true:=by rfl) (h2:noStar e=true:=by rfl) (hline:(apos.endLine == cpos.line)=true:=by rfl) :
  PE X (.Call (.Attribute o name apos) [e] [] cpos) (tBM X.K T rm to t) :=
 vn pa slot hty hm ho ha (iw h) (by rw [ay h2];rfl) hline (ay h2) rfl
theorem vd {tg:Expr} {ta:TA} (hg:Gl X "range") (hm:X.mg "range"=none) (ha:PA X [e] ta) (h:noStar e=true:=by rfl):PI X tg (.Call (.Name "range" p) [e] [] pos) (iRng1 ta):=mh hg hm ha (ay h)
end
end L2
namespace L2
open PySem PySem.Spec PyProof.Rows
theorem Same.upd_new {H H1:Hp} {a:Addr} {o:HO} (s:Same H H1) (h:H a=none):Same H (upd H1 a o):=fun b u e=>by
 rw [am (aH e h)]
 exact s b u e
end L2
namespace L2
open PySem PySem.Spec PyProof.Rows
structure QE (X:Cx) (e:Expr) (t:TE):Prop where
 h:PE X e t
structure QT (X:Cx) (e:Expr) (t:TT):Prop where
 h:PT X e t
structure QW (X:Cx) (e:Expr) (t:TT):Prop where
 h:PW X e t
structure QC (X:Cx) (op:CmpOp) (a b:Expr) (t:TE):Prop where
 h:PC X op a b t
structure QA (X:Cx) (es:List Expr) (t:TA):Prop where
 h:PA X es t
structure QS (X:Cx) (st:Stmt) (t:TS):Prop where
 h:PS X st t
structure QSs (X:Cx) (st:List Stmt) (t:TS):Prop where
 h:PSs X st t
structure QG (X:Cx) (e:Expr) (t:TG):Prop where
 h:PG X e t
structure QGs (X:Cx) (es:List Expr) (t:TGs):Prop where
 h:PGs X es t
structure QI (X:Cx) (tg iter:Expr) (wi:TI):Prop where
 h:PI X tg iter wi
structure QO (X:Cx) (e:Option Expr) (t:TO):Prop where
 h:PO X e t
structure QPs (X:Cx) (pos:Pos) (ks:List (Option Expr)) (vs:List Expr) (trs:List (TE×TE)):Prop where
 h:PPs X pos ks vs trs
structure QTs (X:Cx) (ifs:List Expr) (t:TT):Prop where
 h:PTs X ifs t
section
variable {X:Cx} {e a b c o:Expr} {es:List Expr} {te ta tb tc to:TE} {t u:TA} {pos p p2 apos cpos px:Pos} {x y name:Str} {id T:String} {i j k:Nat} {st:Stmt} {sts:List Stmt} {ts us:TS} {tt tt':TT}
theorem qv (i:Nat) (hN:X.N[i]?=some x:=by rfl) (hv:Vis X.env.scope x:=by first | exact Or.inl rfl | exact Or.inr (Or.inl rfl) | exact Or.inr (Or.inr rfl)) (hd:(x == ("__debug__":Str))=false:=by decide)
  (hcd:(x == ("__classdict__":Str))=false:=by decide):QE X (.Name x pos) (tVar i):=⟨tI hN hv hd hcd⟩
theorem ag {n:Int} {j:Nat}:QE X (.Constant (.int n) j pos) (tC (.int n)):=⟨tP⟩
theorem fY {n:Bool} {j:Nat}:QE X (.Constant (.bool n) j pos) (tC (.bl n)):=⟨vo⟩
theorem sY {j:Nat}:QE X (.Constant .none j pos) (tC .non):=⟨tM⟩
theorem af {n:Str} {j:Nat}:QE X (.Constant (.str n) j pos) (tC (.str n)):=⟨og⟩
theorem kN {v:V} {w:Value} (hg:Gl X x) (hm:X.mg x=some w) (r:RelV v w) (hd:(x == ("__debug__":Str))=false:=by decide):QE X (.Name x pos) (tC v):=⟨iq hg hm r hd⟩
theorem dv {v:V} {w:Value} (hg:Gl X x) (hm:X.mg x=none) (hv:bootBuiltins x=some w) (r:RelV v w) (hn:x≠"__name__":=by decide) (hd:(x == ("__debug__":Str))=false:=by decide):QE X (.Name x pos) (tC v):=⟨qM hg hm hv r hn hd⟩
theorem aq {op:Operator} {r:R2} (ho:OpR X (binaryOp op) r) (ha:QE X a ta) (hb:QE X b tb):QE X (.BinOp a op b pos) (tOp r ta tb):=⟨vg ho ha.h hb.h⟩
theorem kM {op:UnaryOp} {r:V→Hp→VK→Prop} (ho:UnR X (unaryOp op) r) (ha:QE X a ta):QE X (.UnaryOp op a pos) (tUn r ta):=⟨ve ho ha.h⟩
theorem aM {op:CmpOp} {r:R2} (ho:OpR X (compareOp op) r) (ha:QE X a ta) (hb:QE X b tb) (hm:behindInMarks op b=false):QE X (.Compare a [op] [b] pos) (tOp r ta tb):=⟨qJ ho ha.h hb.h hm⟩
theorem ao {op:CmpOp} {r:R2} (ho:OpR X (compareOp op) r) (ha:QE X a ta) (hb:QE X b tb) (hm:behindInMarks op b=false):QT X (.Compare a [op] [b] pos) (tTest (tOp r ta tb)):=⟨qk ho ha.h hb.h hm⟩
theorem dY {op:CmpOp} (h:QC X op a b te) (h1:behindInMarks op b=false:=by first | exact nobehind _ (by decide) (by decide) | rfl):QT X (.Compare a [op] [b] pos) (tB te):=⟨tp h.h h1⟩
theorem fX {op op':CmpOp} {r r':R2} (ho:OpR X (compareOp op) r) (ho':OpR X (compareOp op') r') (ha:QE X a ta) (hb:QE X b tb) (hc:QE X c tc) (hm:lastMarks [op,op'] [b,c]=false:=by with_unfolding_all rfl):QE X (.Compare a [op,op'] [b,c] pos) (tChain r r' ta tb tc):=⟨oj ho ho' ha.h hb.h hc.h hm⟩
theorem i7 {op op':CmpOp} {r r':R2} (ho:OpR X (compareOp op) r) (ho':OpR X (compareOp op') r') (ha:QE X a ta) (hb:QE X b tb) (hc:QE X c tc) (hm:lastMarks [op,op'] [b,c]=false:=by with_unfolding_all rfl):QT X (.Compare a [op,op'] [b,c] pos) (tTest (tChain r r' ta tb tc)):=⟨nU ho ho' ha.h hb.h hc.h hm⟩
theorem cA (h:QE X e te) (he:∀ whole,isTrue e X.env whole=(do let v ← whole;standAt e.pos;holding [v] (truthy v)):=by intro _;rfl):QT X e (tB te):=⟨tj h.h he⟩
def tTru (K:xFr) (ta:TE):TT:=fun σ H Q=>ta σ H fun x H'=>∃ k,TruV K x H' k∧Q k H'
theorem i3 (h:QE X e te) (he:∀ whole,isTrue e X.env whole=(do let v ← whole;standAt e.pos;holding [v] (truthy v)):=by intro _;rfl):QT X e (tTru X.K te):=⟨nT h.h he⟩
theorem c7 (h:QT X a tt):QT X (.UnaryOp .Not a pos) (tNot tt):=⟨tm h.h⟩
theorem dQ (h:QT X a tt):QW X (.BoolOp .And [a] pos) tt:=⟨qh h.h⟩
theorem il (h:QT X a tt):QW X (.BoolOp .Or [a] pos) tt:=⟨tf h.h⟩
theorem eW {rest:List Expr} (ha:QT X a tt) (hb:QW X (.BoolOp .And (b::rest) pos) tt'):QW X (.BoolOp .And (a::b::rest) pos) (tAnd tt tt'):=⟨ti ha.h hb.h⟩
theorem kI {rest:List Expr} (ha:QT X a tt) (hb:QW X (.BoolOp .Or (b::rest) pos) tt'):QW X (.BoolOp .Or (a::b::rest) pos) (tOr tt tt'):=⟨u6 ha.h hb.h⟩
theorem QW.pt (h:QW X e tt):QT X e tt:=⟨h.h.pt⟩
theorem du {op:BoolOp} (h:QE X a te):QE X (.BoolOp op [a] pos) te:=⟨tK h.h⟩
theorem ef {rest:List Expr} (ha:QE X a ta) (hb:QE X (.BoolOp .And (b::rest) pos) tb):QE X (.BoolOp .And (a::b::rest) pos) (tAndV ta tb):=⟨tS ha.h hb.h⟩
theorem nK {rest:List Expr} (ha:QE X a ta) (hb:QE X (.BoolOp .Or (b::rest) pos) tb):QE X (.BoolOp .Or (a::b::rest) pos) (tOrV ta tb):=⟨vf ha.h hb.h⟩
theorem nN (h:QE X a ta):QE X (.UnaryOp .Not a pos) (tNotV ta):=⟨tL h.h⟩
theorem eK (hc:QT X c tt) (ha:QE X a ta) (hb:QE X b tb):QE X (.IfExp c a b pos) (tIf tt ta tb):=⟨oi hc.h ha.h hb.h⟩
theorem ab:QA X [] tNil:=⟨ot⟩
theorem ad (ha:QE X e te) (hr:QA X es t) (h:noStar e=true:=by rfl):QA X (e::es) (tCons te t):=⟨vp ha.h hr.h h⟩
theorem dt {k:Nat} (h:QA X es t):QE X (.Tuple es k pos) (tTup t):=⟨tJ h.h⟩
theorem bb (h:QA X es t):QE X (.List es pos) (tLst t):=⟨tN h.h⟩
theorem fC:QPs X pos [] [] []:=⟨qu⟩
theorem aE {kx v:Expr} {ks:List (Option Expr)} {vs:List Expr} {tk tv:TE} {trs:List (TE×TE)} (hk:QE X kx tk) (hv:QE X v tv) (hr:QPs X pos ks vs trs):QPs X pos (some kx::ks) (v::vs) ((tk,tv)::trs):=⟨nY hk.h hv.h hr.h⟩
theorem fD {ks:List (Option Expr)} {vs:List Expr} {trs:List (TE×TE)} (h:QPs X pos ks vs trs) (hall:ks.all (·.isSome)=true) (hl:ks.length=vs.length) (h0:ks≠[]) (h15:ks.length≤15):QE X (.Dict ks vs pos) (tDisp trs):=⟨qH h.h hall hl h0 h15⟩
theorem cj:QO X none tNoPart:=⟨qx⟩
theorem bI (h:QE X e te):QO X (some e) (tPart te):=⟨qw h.h⟩
theorem bw {lo hi:Option Expr} {tl th:TO} {r:V→Option Int→Option Int→Hp→VK→Prop} (hr:SlR X r) (he:QE X e te) (hl:QO X lo tl) (hu:QO X hi th):QE X (.Subscript e (.Slice lo hi none p2) pos) (tSl r te tl th):=⟨oh hr he.h hl.h hu.h⟩
def noSlice:Expr→Bool
 | .Slice ..=>false
 | _=>true
theorem jc (h:noSlice b=true):PlainIx b:=fun o i=>by cases b <;> first | rfl | cases h
theorem aB {r:R2} (hr:IxR X r) (ha:QE X a ta) (hb:QE X b tb) (h:noSlice b=true:=by rfl):QE X (.Subscript a b pos) (tOp r ta tb):=⟨vh hr ha.h hb.h (jc h)⟩
theorem cD (hu:X.A.units+1<cLine) (ho:QE X o ta) (hi:QE X b tb) (h:noSlice b=true:=by rfl):QE X (.Subscript o b pos) (tDGet ta tb):=⟨qI hu ho.h hi.h (jc h)⟩
theorem eY {k:Nat} (ha:QE X a ta) (hb:QA X es t):QC X .In a (.Tuple es k p2) (tInA false ta t):=⟨tT ha.h hb.h⟩
theorem sZ (hu:X.A.units<cLine) (ha:QE X a ta):QC X .Eq a (.List [] p2) (tL0 X.K false ta):=⟨tU hu ha.h⟩
variable {r:List V→Hp→VK→Prop} {rm:V→List V→Hp→VK→Prop} {ps:List Str} {sp:Sp} {k':Nat}
theorem aL (hc:CallR X (.builtin id) r) (hg:Gl X x) (hm:X.mg x=none) (hv:bootBuiltins x=some (.builtin id)) (ha:QA X (e::es) t) (h:(e::es).all noStar=true:=by rfl) (hn:x≠"__name__":=by decide) (hdb:(x == ("__debug__":Str))=false:=by decide):QE X (.Call (.Name x p) (e::es) [] pos) (tCB r t):=⟨vm hc hg hm hv ha.h h hn hdb⟩
theorem aN (hc:CallR X (.type T) r) (hg:Gl X x) (hm:X.mg x=none) (hv:bootBuiltins x=some (.type T)) (ha:QA X (e::es) t) (h:(e::es).all noStar=true:=by rfl) (hn:x≠"__name__":=by decide) (hdb:(x == ("__debug__":Str))=false:=by decide):QE X (.Call (.Name x p) (e::es) [] pos) (tCB r t):=⟨vk hc hg hm hv ha.h h hn hdb⟩
theorem ap (c:Cal X.prog X.w X.K X.mg X.base x k ps sp) (hr:Room k' X.A) (hg:Gl X x) (ha:QA X (e::es) t) (hk:k≤k':=by lia) (h:(e::es).all noStar=true:=by rfl) (hd:(x == ("__debug__":Str))=false:=by decide):QE X (.Call (.Name x p) (e::es) [] pos) (tCall sp [] E0 t):=⟨vj c hr hg ha.h hk h hd⟩
theorem nP (c:Cal X.prog X.w X.K X.mg X.base x k ps sp) (hr:Room k' X.A) (hg:Gl X x) (hk:k≤k':=by lia) (hd:(x == ("__debug__":Str))=false:=by decide):QE X (.Call (.Name x p) [] [] pos) (tCall sp [] E0 tNil):=⟨qL c hr hg hk hd⟩
theorem bB (pa:PlainAttrs T) (slot:Slot T name id) (hty:typeOf (.builtin id)=pure (.type "method_descriptor")) (hm:MtR X id rm) (ho:QE X o to) (ha:QA X [e] t) (h:noCall o=true:=by rfl) (h2:noStar e=true:=by rfl) (hline:(apos.endLine == cpos.line)=true:=by rfl) :
  QE X (.Call (.Attribute o name apos) [e] [] cpos) (tBM X.K T rm to t):=⟨wO pa slot hty hm ho.h ha.h h h2 hline⟩
variable {tg iter elt:Expr} {g:TG} {gs:TGs} {wi:TI} {tas:TA}
theorem aj (hN:X.N.Nodup) (hi:X.N[i]?=some x) (hx:Loc X.env.scope x) (hf:X.fn x=true∨X.env.scope.names.lookup x=some .local:=by first | exact .inl rfl | exact .inr rfl | assumption):QG X (.Name x pos) (gName i):=⟨qD hN hi hx hf⟩
theorem cY:QGs X [] gNil:=⟨qC⟩
theorem pD {env:Env} (h:noStar e=true):(assignEach (e::es) env).map (·.2)=assign e env::(assignEach es env).map (·.2):=by
 cases e <;> first | rfl | cases h
theorem aG (h1:QG X e g) (h2:QGs X es gs) (h:noStar e=true:=by rfl):QGs X (e::es) (gCons g gs):=⟨oa h1.h h2.h (pD h)⟩
theorem lK {env:Env} (h:noStar e=true):assignEach (e::es) env=(false,assign e env)::assignEach es env:=by
 cases e <;> first | rfl | cases h
theorem iJ {env:Env}:∀ {es:List Expr},es.all noStar=true→(assignEach es env).length=es.length∧(assignEach es env).findIdx? (·.1)=none
 | [],_=>⟨rfl,rfl⟩
 | e::es,h=>by
  rw [List.all_cons,Bool.and_eq_true] at h
  obtain ⟨h1,h2⟩:=iJ (env:=env) h.2
  rw [lK h.1]
  refine ⟨by rw [xAo,h1,xAo],?_⟩
  rw [List.findIdx?_cons,h2]
  rfl
theorem ee {k:Nat} (hc:X.calm=true) (h:QGs X es gs) (hs:es.all noStar=true:=by rfl):QG X (.Tuple es k pos) (gTup X.K es.length gs):=⟨tH hc h.h (iJ hs).1 (iJ hs).2⟩
theorem dR (h:QE X e te):QI X tg e (iList X.K te):=⟨qA h.h⟩
theorem c8 (h:QE X e te):QI X tg e (iTup X.K te):=⟨tF h.h⟩
theorem fW (hg:Gl X "range") (hm:X.mg "range"=none) (ha:QA X [e] tas) (h:noStar e=true:=by rfl):QI X tg (.Call (.Name "range" p) [e] [] pos) (iRng1 tas):=⟨vd hg hm ha.h h⟩
theorem uY (hg:Gl X "range") (hm:X.mg "range"=none) (ha:QA X [a,b] tas) (h:noStar a=true:=by rfl) (h2:noStar b=true:=by rfl):QI X tg (.Call (.Name "range" p) [a,b] [] pos) (iRng2 tas) :=
 ⟨mf hg hm ha.h (by rw [ay h,ay h2];rfl) (by rw [ay h2];rfl)⟩
theorem aI:QTs X [] tYes:=⟨qj⟩
theorem qd (h:QT X c tt):QTs X [c] tt:=⟨qi h.h⟩
variable {scope:Scope} {cl:List (Str×Addr)} {ls N:List Str} {fr:List Nat} {ifs:List Expr}
def noSet:Expr→Bool
 | .Set ..=>false
 | _=>true
theorem ir (h:noSet e=true):∀ (env:Env) (v:Value),foldedSetIterable e env v=pure v:=fun env v=>by cases e <;> first | rfl | cases h
theorem bh (hc:X.calm=true) (cp:CapsG X scope cl ls N fr) (hi:QI X tg iter wi) (hg:∀ C s H fp,QG (cxComp X (ls++N) scope cl C s H fp) tg g) (ht:∀ C s H fp,QTs (cxComp X (ls++N) scope cl C s H fp) ifs tt) (he:∀ C s H fp,QE (cxComp X (ls++N) scope cl C s H fp) elt te) (h:noSet iter=true:=by rfl) :
  QE X (.ListComp elt [⟨tg,iter,ifs,0⟩] scope pos) (tLCg wi ls.length fr g tt te):=⟨tO hc cp hi.h (fun C s H fp=>(hg C s H fp).h) (fun C s H fp=>(ht C s H fp).h) (fun C s H fp=>(he C s H fp).h) (ir h _)⟩
theorem eJ {py spos:Pos} (hN:X.N.Nodup) (hiy:X.N[i]?=some y) (hy:X.env.scope.names.lookup y=some .local) (hc:X.calm=true) (cp:CapsG X scope cl ls N fr) (hi:QI X tg iter wi) (hg:∀ C s H fp,QG (cxComp X (ls++N) scope cl C s H fp) tg g) (ht:∀ C s H fp,QTs (cxComp X (ls++N) scope cl C s H fp) ifs tt) (he:∀ C s H fp,QE (cxComp X (ls++N) scope cl C s H fp) elt te) (h:noSet iter=true:=by rfl)
  (hsw:swapsWith (.ListComp elt [⟨tg,iter,ifs,0⟩] scope pos) (some (.Name y py)) spos.line X.env=pure true:=by rfl):QS X (.Assign [.Name y py] (.ListComp elt [⟨tg,iter,ifs,0⟩] scope pos) spos) (tAsg (tLCg wi ls.length fr g tt te) (gName i)) :=
 ⟨nX hN hiy hy hc cp hi.h (fun C s H fp=>(hg C s H fp).h) (fun C s H fp=>(ht C s H fp).h) (fun C s H fp=>(he C s H fp).h) (ir h _) hsw⟩
theorem ak:QSs X [] tNext:=⟨qo⟩
theorem ac (h1:QS X st ts) (h2:QSs X sts us):QSs X (st::sts) (tSeq ts us):=⟨nV h1.h h2.h⟩
theorem ae (h1:QS X st ts):QSs X [st] ts:=⟨qm h1.h⟩
theorem aA {pos':Pos} (hN:X.N.Nodup) (hi:X.N[i]?=some x) (hx:Loc X.env.scope x) (he:QE X e te) (h:noComp e=true:=by rfl) (hf:X.fn x=true∨X.env.scope.names.lookup x=some .local:=by first | exact .inl rfl | exact .inr rfl | assumption) :
  QS X (.Assign [.Name x pos'] e pos) (tAsg te (gName i)):=⟨u8 hN hi hx he.h h hf⟩
theorem aR (he:QE X e te) (h:noComp e=true:=by rfl):QS X (.Expr e pos) (tDrop te):=⟨vb he.h h⟩
theorem ai (he:QE X e te):QS X (.Return (some e) pos) (tRet te):=⟨tu he.h⟩
variable {body orelse:List Stmt}
theorem av (hc:QT X c tt) (ha:QSs X body ts) (hb:QSs X orelse us):QS X (.If c body orelse pos) (tIfS tt ts us):=⟨u9 hc.h ha.h hb.h⟩
theorem i8 (hp:PassesOwn (model X.prog X.w) X.A X.env X.xe) (hc:QT X c tt) (hb:QSs X body ts):QS X (.While c body [] pos) (tWhile tt ts):=⟨nW hp hc.h hb.h⟩
theorem cN (hp:PassesOwn (model X.prog X.w) X.A X.env X.xe) (hc:X.calm=true) (hi:QI X tg iter wi) (hg:QG X tg g) (hb:QSs X body ts) (h:noSet iter=true:=by rfl):QS X (.For tg iter body [] pos) (tFor wi g ts):=⟨tw hp hc hi.h hg.h hb.h (ir h _)⟩
theorem nI (he:QE X e te) (hg:QG X tg g) (hs:swapsWithSole [tg] e pos.line X.env=pure false:=by rfl) (hw:swappedStores [tg] e X.env=pure none:=by rfl) (h1:noStar tg=true:=by rfl):QS X (.Assign [tg] e pos) (tAsg te g) :=
 ⟨tD he.h hg.h hs hw (by rw [lK h1];rfl)⟩
theorem im {value:Expr} {tv:TE} {pos':Pos} (hu:X.A.units+1<cLine) (ho:QE X o ta) (hi:QE X b tb) (hv:QE X value tv) (h:noComp value=true:=by rfl):QS X (.Assign [.Subscript o b pos'] value pos) (sDPut ta tb tv):=⟨qt hu ho.h hi.h hv.h (fF h)⟩
end
end L2
namespace L2
open PySem PySem.Spec PyProof.Rows
def strsOf:List Expr→Option (List Str)
 | []=>some []
 | .Constant (.str x) _ _::r=>(strsOf r).map (x::·)
 | _=>none
def tStrs (ws:List Str):TA:=fun _ H Q=>Q (ws.map V.str) H
theorem io {X:Cx}:∀ {es:List Expr} {ws:List Str},strsOf es=some ws→QA X es (tStrs ws)
 | [],ws,h=>by
  cases h
  exact ⟨ot⟩
 | e::es,ws,h=>by
  cases e <;> try (cases h;done)
  rename_i c k p
  cases c <;> try (cases h;done)
  rename_i x
  have h':(strsOf es).map (x::·)=some ws:=h
  cases e2:strsOf es with
  | none=>rw [e2] at h';cases h'
  | some ws2 =>
   rw [e2] at h'
   cases h'
   have ih:=io (X:=X) e2
   exact ⟨vp og ih.h rfl⟩
theorem sy {ws:List Str} {σ:St} {H:Hp} {QA:List V→Hp→Prop} (h:QA (ws.map V.str) H):tStrs ws σ H QA:=h
end L2
namespace L2
open PySem PySem.Spec PyProof.Rows
namespace Atom
end Atom
end L2
namespace L2
open PySem PySem.Spec PyProof.Rows
theorem iW:∀ {l m:List Int},l.Pairwise (·<·)→m.Pairwise (·<·)→(∀ k,k∈l↔k∈m)→l=m
 | [],[],_,_,_=>rfl
 | [],y::m,_,_,h=>by have:=(h y).mpr xAr;cases this
 | x::l,[],_,_,h=>by have:=(h x).mp xAr;cases this
 | x::l,y::m,h1,h2,h=>by
  rw [List.pairwise_cons] at h1 h2
  have e:x=y:=by
   rcases xAv.mp ((h x).mp xAr) with e | e
   ·exact e
   ·rcases xAv.mp ((h y).mpr xAr) with e' | e'
    ·exact e'.symm
    ·have a:=h2.1 x e
     have b:=h1.1 y e'
     lia
  subst e
  rw [iW h1.2 h2.2 fun k=>?_]
  constructor
  ·intro hk
   rcases xAv.mp ((h k).mp (xAs _ hk)) with e | e
   ·have:=h1.1 k hk
    lia
   ·exact e
  ·intro hk
   rcases xAv.mp ((h k).mpr (xAs _ hk)) with e | e
   ·have:=h2.1 k hk
    lia
   ·exact e
theorem pQ {l:List Int} (h:l.Pairwise (·≤·)) (nd:l.Nodup):l.Pairwise (·<·):=by
 induction l with
 | nil=>exact .nil
 | cons x r ih =>
  rw [List.pairwise_cons] at h ⊢
  rw [List.nodup_cons] at nd
  exact ⟨fun y hy=>by
   have a:=h.1 y hy
   have b:x≠y:=fun z=>nd.1 (by rw [z];exact hy)
   lia,ih h.2 nd.2⟩
end L2
namespace L2
open PySem PySem.Spec PyProof.Rows
section
variable {c:TT} {tb:TS} {Dn:Ends} {σ:St} {H:Hp}
def nWh (Pv:Nat→St→Hp→Prop) (m:Nat) (tb:TS) (Dn:Ends) (σ:St) (b:Bool) (H:Hp):Prop :=
 if b=true then ∃ N:St→Hp→Prop,(∀ σ' H',N σ' H'→∃ m',m'<m∧Pv m' σ' H')∧tb { Dn with nx:=N,ct:=N,bk:=Dn.nx } σ H else Dn.nx σ H
theorem kz (Pv:Nat→St→Hp→Prop) (m:Nat) (h0:Pv m σ H) (hs:∀ m σ H,Pv m σ H→c σ H (nWh Pv m tb Dn σ)):tWhile c tb Dn σ H:=⟨Pv,⟨m,h0⟩,hs⟩
theorem uw {Pv:Nat→St→Hp→Prop} {m:Nat} {b:Bool} (h1:b=true→tb { Dn with nx:=fun σ' H'=>∃ m',m'<m∧Pv m' σ' H',ct:=fun σ' H'=>∃ m',m'<m∧Pv m' σ' H',bk:=Dn.nx } σ H) (h2:b=false→Dn.nx σ H):nWh Pv m tb Dn σ b H:=by
 unfold nWh
 cases b with
 | true=>rw [xCg rfl];exact ⟨_,fun _ _ z=>z,h1 rfl⟩
 | false=>rw [xCf xAy];exact h2 rfl
end
theorem dH {A B:Prop} {b:Bool} (h1:b=true→A) (h2:b=false→B):if b=true then A else B:=by
 cases b with
 | true=>rw [xCg rfl];exact h1 rfl
 | false=>rw [xCf xAy];exact h2 rfl
theorem lineM {n:Nat} (h:n≤16000000):n<sizeLine:=by rw [sizeLine_eq];lia
theorem lineMe {n:Nat} (h:n≤16000000):n≤sizeLine:=Nat.le_of_lt (lineM h)
end L2
namespace L2
open PySem PySem.Spec PyProof.Rows
theorem Rps.mapGet {α:Type} {f:α→D} {H:Hp} {l:List α} {vs:List V} (h:Rps H (l.map f) vs) {i:Nat} {x:α} (e:l[i]?=some x):∃ v,vs[i]?=some v∧Rp H (f x) v:=h.get (by rw [xAw,e];rfl)
theorem Rps.mapGet' {α:Type} {f:α→D} {H:Hp} {l:List α} {vs:List V} (h:Rps H (l.map f) vs) {i:Nat} {v:V} (e:vs[i]?=some v):∃ x,l[i]?=some x∧Rp H (f x) v:=by
 obtain ⟨d,e1,r⟩:=h.get' e
 rw [xAw] at e1
 cases q:l[i]? with
 | none=>rw [q] at e1;cases e1
 | some x =>
  rw [q] at e1
  cases e1
  exact ⟨x,rfl,r⟩
theorem Rps.mapLen {α:Type} {f:α→D} {H:Hp} {l:List α} {vs:List V} (h:Rps H (l.map f) vs):vs.length=l.length:=by rw [h.length,xAa]
end L2
namespace L2
open PySem PySem.Spec PyProof.Rows
theorem fw {α:Type} {x:α} {r:List α}:atI (x::r) 0=some x:=bJ (j:=0) rfl
end L2
namespace L2
open PySem PySem.Spec PyProof.Rows
def CDivP (i j:Int):Prop:=0<j∧j≤10 ^ 18
theorem oy {X:Cx}:OpR X (binaryOp .FloorDiv) (rI CDivP fun i j=>.int (i / j)):=by
 intro pins s σ H x y v u Q I rx ry h
 obtain ⟨i,j,rfl,rfl,⟨hj,hj2⟩,q⟩:=h
 have hl:j.natAbs.log2<9000:=by
  have h1:j.natAbs<2 ^ 60:=by
   have:(2:Int) ^ 60=1152921504606846976:=by decide
   have:(10:Int) ^ 18=1000000000000000000:=by decide
   have:(2:Nat) ^ 60=1152921504606846976:=by decide
   lia
  have:=(Nat.log2_lt (n:=j.natAbs) (by lia)).mpr h1
  lia
 refine oz pins s σ H _ _ v u Q I rx ry ⟨i,j,rfl,rfl,⟨by lia,PyProof.noPylong_of_log2 hl⟩,?_⟩
 have e:i.fdiv j=i / j:=Int.fdiv_eq_ediv_of_nonneg _ (by lia)
 change Q (.int (i.fdiv j)) H
 rw [e]
 exact q
section
variable {K:xFr} {H:Hp} {Q:VK} {p:Addr} {xs:List V} {b:Bool} {n:String}
theorem kG {i:Int} (k:PySem.W.kitOne K (.type "int") (.type n)=some b) (h:Q (.bl b) H):cIsT K [.int i,.ty n] H Q:=⟨_,_,_,b,rfl,.int i,k,h⟩
end
def digK (n s:Int) (r:List (Key×V)):List (Key×V):=(.inr "number",.int n)::(.inr "seed",.int s)::r
theorem oC:(Sum.inr ("number":Str):Key)≠Sum.inr ("seed":Str):=by decide +kernel
structure DigR (r:List (Key×V)):Prop where
 no:∀ kv∈r,kv.1≠Sum.inr ("number":Str)∧kv.1≠Sum.inr ("seed":Str)
 few:r.length≤100
theorem gl {n s:Int} {r:List (Key×V)}:valV (digK n s r) (.inr "number")=some (.int n):=dF rfl
theorem jv {n s:Int} {r:List (Key×V)}:valV (digK n s r) (.inr "seed")=some (.int s):=(eu oC).trans (dF rfl)
theorem jn {r:List (Key×V)} {k:Key} {v:V} (h:∀ kv∈r,kv.1≠k):r.map (fun kv=>if kv.1=k then (kv.1,v) else kv)=r:=by
 induction r with
 | nil=>rfl
 | cons p r ih=>rw [xBs,xCf (h p xAr),ih fun kv hk=>h kv (xAs _ hk)]
theorem fZ {n s i:Int} {r:List (Key×V)} (h:DigR r):putK (digK n s r) (.inr "number") (.int i)=digK i s r:=by
 unfold putK
 rw [eA,gl,xCg (show (some (V.int n)).isSome=true from rfl)]
 unfold digK
 rw [xBs,xBs,xCg rfl,xCf oC.symm,jn fun kv hk=>(h.no kv hk).1]
theorem nQ {n s i:Int} {r:List (Key×V)} (h:DigR r):putK (digK n s r) (.inr "seed") (.int i)=digK n i r:=by
 unfold putK
 rw [eA,jv,xCg (show (some (V.int s)).isSome=true from rfl)]
 unfold digK
 rw [xBs,xBs,xCf oC,xCg rfl,jn fun kv hk=>(h.no kv hk).2]
structure DigN (n s:Int):Prop where
 n0:0≤n
 s0:0≤s
 s1:s<2147483647
end L2
namespace L2
open PySem PySem.Spec PyProof.Rows
section
variable {te:TE} {tl th:TO} {σ:St} {H:Hp} {Q:VK} {K:xFr} {p:Addr} {xs:List V} {lo hi:Option Int}
theorem pT {r:V→Option Int→Option Int→Hp→VK→Prop} (h:te σ H fun x H1=>tl σ H1 fun l H2=>th σ H2 fun u H3=>r x l u H3 Q):tSl r te tl th σ H Q:=h
theorem nD {QO:Option Int→Hp→Prop} (h:QO none H):tNoPart σ H QO:=h
theorem sD {QO:Option Int→Hp→Prop} (h:te σ H fun x H1=>∃ i,x=V.int i∧QO (some i) H1):tPart te σ H QO:=h
theorem uH {i:Int} {QI:Int→Prop} (h:QI i):∃ i',V.int i=V.int i'∧QI i':=⟨i,rfl,h⟩
theorem nA (e:H p=some (.lst xs)) (h:∀ l H2,Same H H2→H l=none→H2 l=some (.lst (cutV xs lo hi))→Q (.ref l) H2):rSlL K (.ref p) lo hi H Q:=⟨p,xs,rfl,.of e,fun l hl=>h l _ (aw hl _) hl ah⟩
end
end L2
namespace L2
open PySem PySem.Spec PyProof.Rows
section
variable {P:Program} {w:World} {K:xFr} {mg:Str→Option Value} {base:Heap}
theorem Fun.okS {x:Str} {st:Stmt} {sc:Scope} {f:Addr} {fd:FuncData} {N ps:List Str} {k:Nat} {sp:Sp} (F:Fun K x x st f fd) (S:FnScope N ps sc) (hsc:defScope st=sc) (len:∀ vs H Q E,sp vs H Q E→vs.length=ps.length)
  (hbody:∀ (cdv:Value) (A:Around) (outer:List Env) (s:Shared) (H:Hp) (vs:List V) (Q:VK) (E:XK),Room k (A.deeper (envOfC x sc s.heap.objs.size f cdv))→sp vs H Q E →
   ∃ t,PSs (cxOf CX0 P w K mg base N x sc f cdv A outer s H E).nox (defBody st) t∧t { nx:=fun _ H'=>Q .non H',rt:=Q } (start N vs) H):FnOk P w K mg base CX0 (k+1) f fd ps sp:=by
 subst hsc
 exact F.ok S len hbody
end
section
variable {trs:List (TE×TE)} {tk tv:TE} {σ:St} {H:Hp} {Q:VK} {QP:List (V×V)→Hp→Prop}
def nDisp (p:Addr) (Q:VK) (ps:List (V×V)) (H:Hp):Prop:=H p=some (.dK [])∧∃ kvs:List (Key×V),ps=kvs.map (fun kv=>(kV kv.1,kv.2))∧kvs.length≤15∧Q (.ref p) (upd H p (.dK (mergeK [] kvs)))
theorem ij (h:∀ p H1,Same H H1→H p=none→H1 p=some (.dK [])→tPairs trs σ H1 (nDisp p Q)):tDisp trs σ H Q:=fun p hp=>h p _ (aw hp _) hp ah
theorem pU (h:tk σ H fun k H1=>tv σ H1 fun v H2=>tPairs trs σ H2 fun ps H3=>QP ((k,v)::ps) H3):tPairs ((tk,tv)::trs) σ H QP:=h
theorem sC (h:QP [] H):tPairs [] σ H QP:=h
theorem fB {p:Addr} {ps:List (V×V)} (kvs:List (Key×V)) (e:H p=some (.dK [])) (hp:ps=kvs.map (fun kv=>(kV kv.1,kv.2))) (hl:kvs.length≤15) (h:Q (.ref p) (upd H p (.dK (mergeK [] kvs)))):nDisp p Q ps H:=⟨e,kvs,hp,hl,h⟩
variable {p q:Addr} {b:Bool}
theorem rN {ds:List D} {u v:V} (h1:Rp H (.tup ds) u) (h2:Rp H (.tup ds) v) (hd:D.deps ds≤30) (h:Q (.bl b) H):rAl b u v H Q:=by
 obtain ⟨p,xs,rfl,e1,r1⟩:=h1
 obtain ⟨q,ys,rfl,e2,r2⟩:=h2
 exact ⟨p,q,xs,ys,D.deps ds,rfl,rfl,e1,e2,by rw [r1.length,r2.length],hd,Rps.al r1 r2,h⟩
end
end L2
namespace SetA
open PySem PySem.SetTable
def g:Nat→Nat
 | 0=>0
 | n+1=>5 * g n+1
theorem rX (n:Nat):5 ^ n=4 * g n+1:=by
 induction n with
 | zero=>rfl
 | succ n ih=>rw [Nat.pow_succ,ih];simp only [g];lia
def u (n x:Nat):Nat:=5 ^ n * x+g n
theorem ng (n x:Nat):u (n+1) x=5 * u n x+1:=by
 unfold u
 rw [Nat.pow_succ]
 simp only [g]
 rw [Nat.mul_add,← Nat.mul_assoc,Nat.mul_comm (5 ^ n) 5]
 lia
theorem rG (m n x:Nat):u (n+m) x=5 ^ m * u n x+g m:=by
 induction m with
 | zero=>simp [g]
 | succ m ih =>
  rw [← Nat.add_assoc,ng,ih,Nat.pow_succ]
  simp only [g]
  rw [Nat.mul_add,← Nat.mul_assoc,Nat.mul_comm (5 ^ m) 5]
  lia
theorem wt (k:Nat):∃ c,g (2 ^ k)=2 ^ k * (2 * c+1):=by
 induction k with
 | zero=>exact ⟨0,rfl⟩
 | succ k ih =>
  obtain ⟨c,hc⟩:=ih
  have e1:g (2 ^ (k+1))=5 ^ (2 ^ k) * g (2 ^ k)+g (2 ^ k):=by
   have e:=rG (2 ^ k) (2 ^ k) 0
   rw [← Nat.two_mul,Nat.mul_comm 2,← Nat.pow_succ] at e
   simpa [u] using e
  rw [e1,rX,hc,Nat.pow_succ]
  generalize 2 ^ k=P
  refine ⟨2 * c * (P * (2 * c+1))+P * (2 * c+1)+c,?_⟩
  grind
theorem met (k:Nat):∀ x j:Nat,∃ n,n<2 ^ k∧u n x % 2 ^ k=j % 2 ^ k:=by
 induction k with
 | zero=>exact fun x j=>⟨0,by decide,by simp [Nat.mod_one]⟩
 | succ k ih =>
  intro x j
  obtain ⟨n,hn,e⟩:=ih x j
  obtain ⟨c,hc⟩:=wt k
  have hP:0<2 ^ k:=Nat.two_pow_pos k
  have e2:u (n+2 ^ k) x=u n x+2 ^ k+2 * 2 ^ k * (2 * (2 * c+1) * u n x+c):=by
   rw [rG,rX,hc]
   generalize 2 ^ k=P
   generalize u n x=y
   grind
  rw [Nat.pow_succ,Nat.mul_comm]
  generalize 2 ^ k=P at *
  by_cases h:u n x % (2 * P)=j % (2 * P)
  ·exact ⟨n,by lia,h⟩
  ·refine ⟨n+P,by lia,?_⟩
   rw [e2,Nat.add_mul_mod_self_left]
   generalize u n x=y at *
   have a1:y % (2 * P) % P=y % P:=Nat.mod_mul_left_mod y 2 P
   have a2:j % (2 * P) % P=j % P:=Nat.mod_mul_left_mod j 2 P
   have a3:(y+P) % (2 * P) % P=y % P:=by rw [Nat.mod_mul_left_mod,Nat.add_mod_right]
   have b1:y % (2 * P)<2 * P:=Nat.mod_lt _ (by lia)
   have b2:j % (2 * P)<2 * P:=Nat.mod_lt _ (by lia)
   have c1:(y+P) % (2 * P)=(y % (2 * P)+P) % (2 * P):=by rw [Nat.add_mod,Nat.mod_eq_of_lt (show P<2 * P by lia)]
   rw [c1]
   generalize y % (2 * P)=y1 at *
   generalize j % (2 * P)=j1 at *
   have d1:y1 % P=j1 % P:=by lia
   have f:∀ z,z<2 * P→z % P=if z<P then z else z - P:=by
    intro z hz
    split
    ·exact Nat.mod_eq_of_lt ‹_›
    ·rw [Nat.mod_eq_sub_mod (by lia),Nat.mod_eq_of_lt (by lia)]
   rw [f y1 b1,f j1 b2] at d1
   split at d1 <;> split at d1
   ·lia
   ·rw [Nat.mod_eq_of_lt (by lia)];lia
   ·rw [Nat.mod_eq_sub_mod (by lia),Nat.mod_eq_of_lt (by lia)];lia
   ·lia
def nth (mask:Nat):Nat→Nat×Nat→Nat×Nat
 | 0,p=>p
 | n+1,p=>nth mask n (leap mask p.1 p.2)
theorem kS (mask:Nat):∀ (a b:Nat) (p:Nat×Nat),nth mask (a+b) p=nth mask b (nth mask a p):=by
 intro a
 induction a with
 | zero=>intro b p;rw [Nat.zero_add];rfl
 | succ a ih=>intro b p;rw [Nat.succ_add];exact ih b _
theorem t0 (mask:Nat):∀ (n:Nat) (p:Nat×Nat),p.1≤mask→(nth mask n p).1≤mask:=by
 intro n
 induction n with
 | zero=>exact fun p h=>h
 | succ n ih =>
  intro p _
  refine ih _ ?_
  have:=Nat.mod_lt (p.1 * 5+1+p.2 / 32) (Nat.succ_pos mask)
  exact Nat.le_of_lt_succ this
theorem wj (mask:Nat):∀ (n:Nat) (p:Nat×Nat),(nth mask n p).2=p.2 / 32 ^ n:=by
 intro n
 induction n with
 | zero=>intro p;simp [nth]
 | succ n ih =>
  intro p
  simp only [nth,ih,leap]
  rw [Nat.div_div_eq_div_mul,Nat.pow_succ,Nat.mul_comm]
theorem wg (mask:Nat):∀ (n x:Nat),x≤mask→nth mask n (x,0)=(u n x % (mask+1),0):=by
 intro n
 induction n with
 | zero =>
  intro x h
  simp [nth,u,g,Nat.mod_eq_of_lt (Nat.lt_succ_of_le h)]
 | succ n ih =>
  intro x h
  have e:=kS mask n 1 (x,0)
  rw [e,ih x h]
  simp only [nth,leap,Nat.zero_div,Nat.add_zero]
  rw [ng,Nat.mul_comm 5]
  congr 1
  rw [Nat.add_mod,Nat.mul_mod,Nat.mod_mod,← Nat.mul_mod,← Nat.add_mod]
theorem lands {mask k:Nat} (hk:mask+1=2 ^ k) {i p:Nat} (hi:i≤mask) (hp:p<2 ^ 64) {j:Nat} (hj:j≤mask):∃ n,n<turns mask∧(nth mask n (i,p)).1=j:=by
 have h2:(nth mask 13 (i,p)).2=0:=by
  rw [wj]
  exact Nat.div_eq_of_lt (xBc hp (by decide))
 have h1:=t0 mask 13 (i,p) hi
 obtain ⟨n,hn,e⟩:=met k (nth mask 13 (i,p)).1 j
 refine ⟨13+n,by unfold turns;lia,?_⟩
 have e3:nth mask 13 (i,p)=((nth mask 13 (i,p)).1,0):=Prod.ext rfl h2
 rw [kS,e3,wg mask n _ h1]
 rw [hk]
 rw [e]
 exact Nat.mod_eq_of_lt (by lia)
def Ris (xs:Array Nat):Prop:=∀ i j (hi:i<xs.size) (hj:j<xs.size),i<j→xs[i]<xs[j]
theorem pv {xs:Array Nat} (hr:Ris xs) (j:Nat):∀ (fuel lo hi:Nat),lo≤hi→hi≤xs.size→hi - lo≤fuel →
  (∀ i (h:i<xs.size),i<lo→xs[i]<j)→(∀ i (h:i<xs.size),hi≤i→j≤xs[i]) →
  ∃ p,below.go xs j fuel lo hi=p∧p≤xs.size∧(∀ i (h:i<xs.size),i<p→xs[i]<j)∧(∀ i (h:i<xs.size),p≤i→j≤xs[i]):=by
 intro fuel
 induction fuel with
 | zero =>
  intro lo hi h1 h2 h3 a b
  have:lo=hi:=by lia
  subst this
  exact ⟨lo,rfl,h2,a,b⟩
 | succ fuel ih =>
  intro lo hi h1 h2 h3 a b
  unfold below.go
  by_cases hlt:lo<hi
  ·rw [xCg hlt]
   dsimp only
   have hm:(lo+hi) / 2<xs.size:=by lia
   have e:xs.getD ((lo+hi) / 2) j=xs[(lo+hi) / 2]:=by simp [Array.getD,hm]
   rw [e]
   split
   ·rename_i hc
    refine ih _ _ (by lia) h2 (by lia) (fun i h hi'=>?_) b
    by_cases q:i=(lo+hi) / 2
    ·subst q;exact hc
    ·exact Nat.lt_trans (hr _ _ h hm (by lia)) hc
   ·rename_i hc
    refine ih _ _ (by lia) (by lia) (by lia) a (fun i h hi'=>?_)
    by_cases q:i=(lo+hi) / 2
    ·subst q;lia
    ·exact Nat.le_trans (Nat.le_of_not_lt hc) (Nat.le_of_lt (hr _ _ hm h (by lia)))
  ·rw [xCf hlt]
   have:lo=hi:=by lia
   subst this
   exact ⟨lo,rfl,h2,a,b⟩
theorem gn {xs:Array Nat} (hr:Ris xs) (j:Nat):below xs j≤xs.size∧(∀ i (h:i<xs.size),i<below xs j→xs[i]<j)∧(∀ i (h:i<xs.size),below xs j≤i→j≤xs[i]):=by
 obtain ⟨p,e,r⟩:=pv hr j xs.size 0 xs.size (xBn _) (xAg _) (by lia) (fun i h hi=>absurd hi (Nat.not_lt_zero _)) (fun i h hi=>absurd h (by lia))
 have e':below xs j=p:=e
 rw [e']
 exact r
theorem gq {xs:Array Nat} (hr:Ris xs) {i j:Nat} (hi:i≤xs.size) (a:∀ h:0<i,∀ h2:i - 1<xs.size,xs[i - 1]<j) (b:∀ h:i<xs.size,j≤xs[i]):below xs j=i:=by
 obtain ⟨h1,h2,h3⟩:=gn hr j
 by_cases q:below xs j<i
 ·have:=a (by lia) (by lia)
  have:=h3 (i - 1) (by lia) (by lia)
  lia
 ·by_cases q2:i<below xs j
  ·have:=b (by lia)
   have:=h2 i (by lia) q2
   lia
  ·lia
theorem t7 {xs:Array Nat} (hr:Ris xs) {j:Nat} (h:xs[below xs j]?≠some j):∀ i (hi:i<xs.size),xs[i]≠j:=by
 intro i hi e
 obtain ⟨h1,h2,h3⟩:=gn hr j
 have hb:below xs j=i:=by
  refine gq hr (Nat.le_of_lt hi) (fun h0 h4=>?_) (fun _=>by lia)
  have:=hr (i - 1) i h4 hi (by lia)
  lia
 exact h (by rw [hb,Array.getElem?_eq_getElem hi,e])
theorem fU {xs:Array Nat}:Ris xs↔xs.toList.Pairwise (·<·):=by
 rw [List.pairwise_iff_getElem]
 constructor
 ·intro h i j hi hj hij
  simpa using h i j (by simpa using hi) (by simpa using hj) hij
 ·intro h i j hi hj hij
  have:=h i j (by simpa using hi) (by simpa using hj) hij
  rwa [Array.getElem_toList,Array.getElem_toList] at this
theorem jN {xs:Array Nat} (hr:Ris xs) {j:Nat} (h:xs[below xs j]?≠some j):Ris (insertAt xs (below xs j) j):=by
 obtain ⟨h1,h2,h3⟩:=gn hr j
 have hn:=t7 hr h
 rw [fU,toList_insertAt]
 have hp:=fU.mp hr
 rw [List.pairwise_append]
 refine ⟨hp.sublist (List.take_sublist _ _),?_,?_⟩
 ·rw [List.pairwise_cons]
  refine ⟨fun x hx=>?_,hp.sublist (List.drop_sublist _ _)⟩
  obtain ⟨i,hi,e⟩:=List.getElem_of_mem hx
  rw [List.getElem_drop] at e
  rw [List.length_drop,xAh] at hi
  have hi2:below xs j+i<xs.size:=by lia
  have:=h3 (below xs j+i) hi2 (by lia)
  have:=hn _ hi2
  rw [Array.getElem_toList] at e
  lia
 ·intro x hx y hy
  obtain ⟨i,hi,e⟩:=List.getElem_of_mem hx
  rw [List.getElem_take] at e
  rw [xAn,xAh] at hi
  have hx2:x<j:=by
   have:=h2 i (by lia) (by lia)
   rw [Array.getElem_toList] at e
   lia
  rcases xAv.mp hy with rfl | hy
  ·exact hx2
  ·obtain ⟨i,hi,e⟩:=List.getElem_of_mem hy
   rw [List.getElem_drop] at e
   rw [List.length_drop,xAh] at hi
   have:=h3 (below xs j+i) (by lia) (by lia)
   rw [Array.getElem_toList] at e
   lia
theorem fO {α:Type} (xs:Array α) (p:Nat):(eraseAt xs p).toList=xs.toList.eraseIdx p:=by
 rw [List.eraseIdx_eq_take_drop_succ]
 simp [eraseAt,List.extract_eq_take_drop,List.take_of_length_le]
theorem cZ {α:Type} (xs:Array α) (p:Nat) (x:α):(insertAt xs p x).size=xs.size+1:=by
 rw [← xAh,toList_insertAt]
 simp only [xAb,xAn,xAo,List.length_drop,xAh]
 lia
theorem ie {α:Type} (xs:Array α) (p:Nat) (h:p<xs.size):(eraseAt xs p).size+1=xs.size:=by
 rw [← xAh,fO,List.length_eraseIdx_of_lt (by simpa using h)]
 simp only [xAh]
 lia
theorem gap:∀ (n:Nat) (l:List Nat),l.length<n→∃ j,j<n∧j ∉ l:=by
 intro n
 induction n with
 | zero=>intro l h;exact absurd h (Nat.not_lt_zero _)
 | succ n ih =>
  intro l h
  by_cases q:n∈l
  ·have hl:(l.erase n).length<n:=by
    rw [List.length_erase_of_mem q]
    have:=List.length_pos_of_mem q
    lia
   obtain ⟨j,h1,h2⟩:=ih (l.erase n) hl
   refine ⟨j,by lia,fun hj=>h2 ?_⟩
   exact (List.mem_erase_of_ne (by lia)).mpr hj
  ·exact ⟨n,by lia,q⟩
theorem cJ (t:SetTable) (j:Nat):(t.slot j = .empty∧t.place[below t.place j]?≠some j∧has t.dummies j=false)∨(t.slot j = .dummy∧t.place[below t.place j]?≠some j∧has t.dummies j=true)∨(∃ i,t.slot j = .live i∧t.place[below t.place j]?=some j):=by
 unfold SetTable.slot
 dsimp only
 by_cases h:t.place[below t.place j]?=some j
 ·refine .inr (.inr ⟨below t.place j,?_,h⟩)
  rw [xCg (by rw [h];exact beq_self_eq_true _)]
 ·have e:¬ (t.place[below t.place j]? == some j)=true:=fun q=>h (beq_iff_eq.mp q)
  rw [xCf e]
  cases hd:has t.dummies j with
  | true=>exact .inr (.inl ⟨rfl,h,rfl⟩)
  | false=>exact .inl ⟨rfl,h,rfl⟩
theorem kY {xs:Array Nat} {j:Nat} (h:has xs j=true):below xs j<xs.size∧j∈xs.toList:=by
 have e:xs[below xs j]?=some j:=beq_iff_eq.mp h
 obtain ⟨h1,h2⟩:=xB7.mp e
 refine ⟨h1,?_⟩
 rw [← h2]
 simp
theorem jL {t:SetTable} (h:t.fill≤t.mask):∃ j,j≤t.mask∧t.slot j = .empty:=by
 obtain ⟨j,h1,h2⟩:=gap (t.mask+1) (t.place.toList++t.dummies.toList) (by
  rw [xAb,xAh,xAh]
  exact Nat.lt_succ_of_le h)
 refine ⟨j,by lia,?_⟩
 rcases cJ t j with q | q | ⟨i,q1,q2⟩
 ·exact q.1
 ·exact absurd (xBt _ (kY q.2.2).2) h2
 ·obtain ⟨h3,h4⟩:=xB7.mp q2
  refine absurd (List.mem_append_left _ ?_) h2
  rw [← h4]
  simp
def DumOk (t:SetTable) (d:Option Nat):Prop:=∀ j,d=some j→t.slot j = .dummy
theorem l9 (t:SetTable) (h:Int) (L:Nat) (i pert:Nat)
  (next:∀ d,DumOk t d→∃ j d',probe.go t (fun _=>h+1) h L ⟨(leap t.mask i pert).1,runEnd t.mask (leap t.mask i pert).1 - (leap t.mask i pert).1,(leap t.mask i pert).1,(leap t.mask i pert).2,d⟩=some (.empty j d')∧t.slot j = .empty∧DumOk t d') :
  ∀ (more j:Nat) (d:Option Nat),DumOk t d→∃ j' d',probe.go t (fun _=>h+1) h (L+(more+1)) ⟨j,more,i,pert,d⟩=some (.empty j' d')∧t.slot j' = .empty∧DumOk t d':=by
 intro more
 induction more with
 | zero =>
  intro j d hd
  rw [show L+(0+1)=L+1 from rfl]
  unfold probe.go
  dsimp only
  rcases cJ t j with q | q | ⟨i',q1,q2⟩
  ·rw [q.1];exact ⟨j,d,rfl,q.1,hd⟩
  ·rw [q.1]
   dsimp only
   have:=next (some j) (fun j' e=>by cases e;exact q.1)
   simpa [advance] using this
  ·rw [q1]
   dsimp only
   have hne:¬ (h+1 == h)=true:=by
    intro hh
    have:=beq_iff_eq.mp hh
    lia
   rw [xCf hne]
   have:=next d hd
   simpa [advance] using this
 | succ more ih =>
  intro j d hd
  rw [show L+(more+1+1)=(L+(more+1))+1 from rfl]
  unfold probe.go
  dsimp only
  rcases cJ t j with q | q | ⟨i',q1,q2⟩
  ·rw [q.1];exact ⟨j,d,rfl,q.1,hd⟩
  ·rw [q.1]
   dsimp only
   have:=ih (j+1) (some j) (fun j' e=>by cases e;exact q.1)
   simpa [advance] using this
  ·rw [q1]
   dsimp only
   have hne:¬ (h+1 == h)=true:=by
    intro hh
    have:=beq_iff_eq.mp hh
    lia
   rw [xCf hne]
   have:=ih (j+1) d hd
   simpa [advance] using this
theorem lb (t:SetTable) (f:Nat→Int) (h:Int):∀ (a b:Nat) (p:Probe) (m:Met),a≤b→probe.go t f h a p=some m→probe.go t f h b p=some m:=by
 intro a
 induction a with
 | zero=>intro b p m _ e;cases e
 | succ a ih =>
  intro b p m hb e
  obtain ⟨b,rfl⟩:∃ c,b=c+1:=⟨b - 1,by lia⟩
  unfold probe.go at e ⊢
  split
  ·rename_i q;rw [q] at e;exact e
  ·rename_i q;rw [q] at e;exact ih b _ m (by lia) e
  ·rename_i i q
   rw [q] at e
   dsimp only at e ⊢
   split
   ·rename_i c;rw [xCg c] at e;exact e
   ·rename_i c;rw [xCf c] at e;exact ih b _ m (by lia) e
theorem jb (t:SetTable) (h:Int):∀ (n i pert:Nat) (d:Option Nat),DumOk t d→t.slot (nth t.mask n (i,pert)).1 = .empty →
  ∃ j d',probe.go t (fun _=>h+1) h (10 * (n+1)) ⟨i,runEnd t.mask i - i,i,pert,d⟩=some (.empty j d')∧t.slot j = .empty∧DumOk t d':=by
 intro n
 induction n with
 | zero =>
  intro i pert d hd he
  refine ⟨i,d,?_,he,hd⟩
  rw [show 10 * (0+1)=9+1 from rfl]
  unfold probe.go
  have he':t.slot i = .empty:=he
  dsimp only
  rw [he']
 | succ n ih =>
  intro i pert d hd he
  have hm:runEnd t.mask i - i≤9:=by
   unfold runEnd
   split <;> lia
  obtain ⟨j,d',e,r⟩:=l9 t h (10 * (n+1)) i pert (fun d2 hd2=>ih _ _ d2 hd2 he) (runEnd t.mask i - i) i d hd
  exact ⟨j,d',lb _ _ _ _ _ _ _ (by lia) e,r⟩
theorem lJ (h:Int):bits h<2 ^ 64:=by
 unfold bits
 have h1:h % (2 ^ 64:Int)<2 ^ 64:=Int.emod_lt_of_pos _ (by decide)
 have h2:0≤h % (2 ^ 64:Int):=Int.emod_nonneg _ (by decide)
 lia
theorem ro {t:SetTable} {k:Nat} (hk:t.mask+1=2 ^ k) (hf:t.fill≤t.mask) (h:Int) :
  ∃ j wd,t.freeSlot h=some (j,wd)∧t.place[below t.place j]?≠some j∧(wd=true→has t.dummies j=true):=by
 obtain ⟨j0,hj0,he⟩:=jL hf
 obtain ⟨n,hn,e⟩:=lands hk (i:=bits h % (t.mask+1)) (p:=bits h) (Nat.le_of_lt_succ (Nat.mod_lt _ (Nat.succ_pos _))) (lJ h) hj0
 obtain ⟨j,d,e2,e3,e4⟩:=jb t h n (bits h % (t.mask+1)) (bits h) none (fun j q=>by cases q) (by rw [e];exact he)
 have e5:t.probe (fun _=>h+1) h (t.probeStart h)=some (.empty j d):=lb _ _ _ _ _ _ _ (by lia) e2
 unfold freeSlot
 rw [e5]
 cases d with
 | none =>
  refine ⟨j,false,rfl,?_,fun q=>by cases q⟩
  rcases cJ t j with q | q | ⟨i,q1,_⟩
  ·exact q.2.1
  ·exact q.2.1
  ·rw [e3] at q1;cases q1
 | some d =>
  have hd:=e4 d rfl
  rcases cJ t d with q | q | ⟨i,q1,_⟩
  ·rw [hd] at q;cases q.1
  ·exact ⟨d,true,rfl,q.2.1,fun _=>q.2.2⟩
  ·rw [hd] at q1;cases q1
theorem oV {mask:Nat} {owner:Array (Option Nat)} (hs:owner.size=mask+1):∀ (fuel i pert:Nat),(∃ n,n<fuel∧owner[(nth mask n (i,pert)).1]?=some none) →
  ∃ j,layClean.free mask owner fuel i pert=some j∧owner[j]?=some none:=by
 intro fuel
 induction fuel with
 | zero=>rintro i pert ⟨n,hn,_⟩;exact absurd hn (Nat.not_lt_zero _)
 | succ fuel ih =>
  rintro i pert ⟨n,hn,e⟩
  unfold layClean.free
  have key:∀ k,(owner.getD (i+k) (some 0)).isNone=true→owner[i+k]?=some none:=by
   intro k q
   rw [Array.getD_eq_getD_getElem?] at q
   cases hh:owner[i+k]? with
   | none=>rw [hh] at q;cases q
   | some v =>
    rw [hh] at q
    cases v with
    | none=>rfl
    | some v=>cases q
  cases hf:(List.range (runEnd mask i+1 - i)).find? (fun k=>(owner.getD (i+k) (some 0)).isNone) with
  | some k =>
   dsimp only
   exact ⟨i+k,rfl,key k (List.find?_some (p:=fun k=>(owner.getD (i+k) (some 0)).isNone) hf)⟩
  | none =>
   dsimp only
   refine ih _ _ ?_
   cases n with
   | zero =>
    have h0:=List.find?_eq_none.mp hf 0 (by
     rw [List.mem_range]
     unfold runEnd
     split <;> lia)
    have e0:owner[i]?=some none:=e
    rw [Nat.add_zero,Array.getD_eq_getD_getElem?,e0] at h0
    exact absurd rfl h0
   | succ n=>exact ⟨n,by lia,e⟩
def vals (owner:Array (Option Nat)):List Nat:=owner.toList.filterMap id
theorem mZ {owner:Array (Option Nat)} {j c:Nat} (h:owner[j]?=some none):(vals (owner.setIfInBounds j (some c))).Perm (c::vals owner):=by
 obtain ⟨hj,e⟩:=xB7.mp h
 unfold vals
 rw [Array.toList_setIfInBounds]
 have e2:owner.toList[j]?=some none:=by rw [Array.getElem?_toList];exact h
 generalize owner.toList=l at e2
 clear h hj e
 induction l generalizing j with
 | nil=>cases e2
 | cons a l ih =>
  cases j with
  | zero =>
   cases e2
   simp
  | succ j =>
   have:=ih (j:=j) e2
   simp only [List.set_cons_succ]
   cases a with
   | none=>simpa using this
   | some a =>
    simp only [List.filterMap_cons,id]
    exact (this.cons a).trans (List.Perm.swap _ _ _)
theorem m9 (owner:Array (Option Nat)) (h:(vals owner).length<owner.size):∃ j:Nat,owner[j]?=some none:=by
 by_cases q:∃ j:Nat,owner[j]?=some none
 ·exact q
 ·exfalso
  have:(vals owner).length=owner.toList.length:=by
   unfold vals
   have hall:∀ v∈owner.toList,v≠none:=by
    intro v hv e
    subst e
    obtain ⟨j,hj,e⟩:=List.getElem_of_mem hv
    exact q ⟨j,by rw [← Array.getElem?_toList,xAk hj,e]⟩
   generalize owner.toList=l at hall
   induction l with
   | nil=>rfl
   | cons a l ih =>
    cases a with
    | none=>exact absurd rfl (hall none (xAr))
    | some a =>
     simp only [List.filterMap_cons,id,xAo]
     rw [ih fun v hv=>hall v (xAs _ hv)]
  have h2:owner.toList.length=owner.size:=xAh
  lia
theorem oJ {mask k:Nat} (hk:mask+1=2 ^ k):∀ (hs:List Int) (owner:Array (Option Nat)) (c:Nat),owner.size=mask+1→(vals owner).Perm (List.range c)→c+hs.length≤mask+1 →
  ∃ owner',hs.foldl (fun (acc:Option (Array (Option Nat)×Nat)) h=>do
   let (owner,k) ← acc
   let j ← layClean.free mask owner (turns mask) (bits h % (mask+1)) (bits h)
   pure (owner.setIfInBounds j (some k),k+1)) (some (owner,c))=some (owner',c+hs.length)∧owner'.size=mask+1∧(vals owner').Perm (List.range (c+hs.length)):=by
 intro hs
 induction hs with
 | nil=>intro owner c h1 h2 _;exact ⟨owner,rfl,h1,h2⟩
 | cons h hs ih =>
  intro owner c h1 h2 h3
  rw [xAo] at h3
  obtain ⟨j0,e0⟩:=m9 owner (by rw [h2.length_eq,List.length_range];lia)
  obtain ⟨hj0,_⟩:=xB7.mp e0
  obtain ⟨n,hn,en⟩:=lands hk (i:=bits h % (mask+1)) (p:=bits h) (Nat.le_of_lt_succ (Nat.mod_lt _ (Nat.succ_pos _))) (lJ h) (j:=j0) (by lia)
  obtain ⟨j,ej,ej2⟩:=oV h1 (turns mask) (bits h % (mask+1)) (bits h) ⟨n,hn,by rw [en];exact e0⟩
  obtain ⟨owner',q1,q2,q3⟩:=ih (owner.setIfInBounds j (some c)) (c+1) (by rw [Array.size_setIfInBounds];exact h1) (by
   refine (mZ ej2).trans ?_
   rw [List.range_succ]
   exact (h2.cons c).trans (List.perm_append_singleton c _).symm) (by lia)
  refine ⟨owner',?_,q2,?_⟩
  ·rw [List.foldl_cons]
   have e2:(do
     let (owner,k) ← some (owner,c)
     let j ← layClean.free mask owner (turns mask) (bits h % (mask+1)) (bits h)
     pure (owner.setIfInBounds j (some k),k+1))=some (owner.setIfInBounds j (some c),c+1):=by
    simp [ej]
   rw [e2,q1,xAo]
   congr 2
   lia
  ·rw [xAo]
   rw [show c+(hs.length+1)=c+1+hs.length by lia]
   exact q3
theorem rc (f:Nat→Option Nat):∀ (l:List Nat),(l.filterMap fun j=>(f j).map (j,·)).map (·.1)=l.filter fun j=>(f j).isSome:=by
 intro l
 induction l with
 | nil=>rfl
 | cons a l ih =>
  cases h:f a with
  | none=>simp [h];simpa using ih
  | some v=>simp [h];simpa using ih
theorem ra (f:Nat→Option Nat):∀ (l:List Nat),(l.filterMap fun j=>(f j).map (j,·)).map (·.2)=l.filterMap f:=by
 intro l
 induction l with
 | nil=>rfl
 | cons a l ih =>
  cases h:f a with
  | none=>simp [h];simpa using ih
  | some v=>simp [h];simpa using ih
theorem uc {owner:Array (Option Nat)}:∀ (n:Nat),(((List.range n).filterMap fun j=>(owner.getD j none).map (j,·)).map (·.1)).Pairwise (·<·):=by
 intro n
 rw [rc fun j=>owner.getD j none]
 exact List.Pairwise.sublist List.filter_sublist List.pairwise_lt_range
theorem oH {owner:Array (Option Nat)} {n:Nat} (h:owner.size=n):((List.range n).filterMap fun j=>(owner.getD j none).map (j,·)).map (·.2)=vals owner:=by
 subst h
 unfold vals
 have e:owner.toList=(List.range owner.size).map fun j=>owner.getD j none:=by
  apply List.ext_getElem
  ·simp
  ·intro i h1 h2
   have:i<owner.size:=by simpa using h1
   simp [Array.getD,this]
 rw [e,ra fun j=>owner.getD j none,List.filterMap_map]
 rfl
theorem rg {mask k:Nat} (hk:mask+1=2 ^ k) (f m:Nat) (led plain:Bool) {hashes:Array Int} (hn:hashes.size≤mask+1) :
  ∃ place order,laid mask f m led plain hashes=some ({ mask:=mask,place:=place,dummies:=#[],finger:=f,led:=led,moves:=m,plain:=plain },order)∧Ris place∧place.size=hashes.size∧order.toList.Perm (List.range hashes.size):=by
 obtain ⟨owner,e,e1,e2⟩:=oJ hk hashes.toList (Array.replicate (mask+1) none) 0 (by simp) (by
  unfold vals
  have:∀ n,List.filterMap id (List.replicate n (none:Option Nat))=[]:=by
   intro n
   induction n with
   | zero=>rfl
   | succ n ih=>simpa [List.replicate_succ] using ih
  rw [Array.toList_replicate,this]
  exact .nil) (by rw [xAh];lia)
 rw [Nat.zero_add,xAh] at e e2
 have e3:layClean mask hashes=some owner:=by
  unfold layClean
  rw [← Array.foldl_toList,e]
  rfl
 refine ⟨_,_,by unfold laid;rw [e3];rfl,?_,?_,?_⟩
 ·rw [fU]
  exact uc _
 ·have:=congrArg List.length (oH e1)
  rw [xAa] at this
  rw [xAp,xAa,this,e2.length_eq,List.length_range]
 ·rw [show (List.map (fun x=>x.2) (List.filterMap (fun j=>Option.map (fun x=>(j,x)) (owner.getD j none)) (List.range (mask+1)))).toArray.toList=vals owner from oH e1]
  exact e2
theorem above (n:Nat) (h:n<2 ^ 60):∃ k,3≤k∧sizeAbove n=2 ^ k∧n<sizeAbove n∧sizeAbove n≤2 * n+8:=by
 have gen:∀ (fuel k:Nat),n<2 ^ (k+fuel)→3≤k→(k=3∨2 ^ k≤2 * n)→∃ k',3≤k'∧sizeAbove.go n fuel (2 ^ k)=2 ^ k'∧n<2 ^ k'∧2 ^ k'≤2 * n+8:=by
  intro fuel
  induction fuel with
  | zero =>
   intro k h1 h2 h3
   refine ⟨k,h2,rfl,h1,?_⟩
   rcases h3 with rfl | h3
   ·lia
   ·lia
  | succ fuel ih =>
   intro k h1 h2 h3
   unfold sizeAbove.go
   split
   ·rename_i hle
    rw [← Nat.pow_succ]
    refine ih (k+1) (by rw [show k+1+fuel=k+(fuel+1) by lia];exact h1) (by lia) (.inr ?_)
    rw [Nat.pow_succ]
    lia
   ·rename_i hle
    refine ⟨k,h2,rfl,by lia,?_⟩
    rcases h3 with rfl | h3
    ·lia
    ·lia
 obtain ⟨k,h1,h2,h3,h4⟩:=gen 64 3 (xBc h (Nat.pow_le_pow_right (by decide) (by decide))) (by decide) (.inl rfl)
 have e:sizeAbove n=2 ^ k:=h2
 exact ⟨k,h1,e,by rw [e];exact h3,by rw [e];exact h4⟩
structure TOk (t:SetTable) (n:Nat):Prop where
 pw:∃ k,3≤k∧t.mask+1=2 ^ k
 sz:t.place.size=n
 ris:Ris t.place
 fl:t.fill * 5<t.mask * 3
 pl:t.plain=true
theorem TOk.fits {t:SetTable} {n:Nat} (h:TOk t n):t.fits n=true:=by
 unfold SetTable.fits
 rw [h.sz]
 have:=h.fl
 simp only [beq_self_eq_true,Bool.true_and,decide_eq_true_eq]
 lia
theorem TOk.fresh (f m:Nat) (led:Bool):TOk (SetTable.fresh f m led) 0:=⟨⟨3,by decide,rfl⟩,rfl,fun i j hi=>absurd hi (Nat.not_lt_zero _),by simp [SetTable.fresh,SetTable.fill],rfl⟩
theorem TOk.new {t:SetTable} {n:Nat} (H:TOk t n) (es:Array (Int×Value)) (hn:es.size=n) (h:Int) (x:Value) :
  ∃ p t' wd,layNew t es h x=(insertAt es p (h,x),t',wd,false)∧t'.led=t.led∧t'.mask=t.mask∧t'.plain=true∧t'.place.size=n+1∧Ris t'.place∧t'.fill≤t'.mask∧((!wd && t'.tooFull)=false→TOk t' (n+1)):=by
 obtain ⟨k,h3,hk⟩:=H.pw
 have hfl:=H.fl
 obtain ⟨j,wd,e,e1,e2⟩:=ro hk (by lia) h
 have hsz:(t.put j).1.place.size=n+1:=by
  show (insertAt t.place (below t.place j) j).size=n+1
  rw [cZ,H.sz]
 have hdm:(t.put j).1.dummies.size≤t.dummies.size∧(wd=true→(t.put j).1.dummies.size+1=t.dummies.size):=by
  show (if has t.dummies j then eraseAt t.dummies (below t.dummies j) else t.dummies).size≤t.dummies.size∧(wd=true→(if has t.dummies j then eraseAt t.dummies (below t.dummies j) else t.dummies).size+1=t.dummies.size)
  split
  ·rename_i q
   have:=ie t.dummies _ (kY q).1
   exact ⟨by lia,fun _=>this⟩
  ·rename_i q
   exact ⟨xAg _,fun z=>absurd (e2 z) q⟩
 have hfill:(t.put j).1.fill≤t.fill+1∧(wd=true→(t.put j).1.fill=t.fill):=by
  unfold SetTable.fill
  rw [hsz,H.sz]
  exact ⟨by lia,fun z=>by have:=hdm.2 z;lia⟩
 have hmask:(t.put j).1.mask=t.mask:=rfl
 have hris:Ris (t.put j).1.place:=jN H.ris e1
 have hfit:(t.put j).1.fits (insertAt es (below t.place j) (h,x)).size=true:=by
  unfold SetTable.fits
  rw [hsz,cZ,hn,hmask]
  simp only [beq_self_eq_true,Bool.true_and,decide_eq_true_eq]
  lia
 refine ⟨below t.place j,(t.put j).1,wd,?_,rfl,rfl,H.pl,hsz,hris,by rw [hmask];lia,fun hz=>⟨⟨k,h3,hk⟩,hsz,hris,?_,H.pl⟩⟩
 ·unfold layNew
  rw [e]
  dsimp only
  have e5:(t.put j).2=below t.place j:=rfl
  rw [e5,hfit]
  unfold SetTable.orStandIn
  rw [hfit]
  rfl
 ·rw [hmask]
  cases wd with
  | true=>rw [hfill.2 rfl];exact hfl
  | false =>
   unfold SetTable.tooFull at hz
   rw [hmask] at hz
   simp only [Bool.not_false,Bool.true_and,decide_eq_false_iff_not,Nat.not_le,ge_iff_le] at hz
   exact hz
theorem lY {t:SetTable} {n:Nat} (hp:t.plain=true) {hashes:Array Int} (hn:hashes.size=n) {wanted:Nat} (hw:2 * n≤wanted) (hb:wanted<2 ^ 60) :
  ∃ t' order,t.relaid hashes wanted=some (t',order)∧t'.led=t.led∧TOk t' n∧order.toList.Perm (List.range n)∧t'.mask+1=sizeAbove wanted∧t'.dummies=#[]:=by
 obtain ⟨k,h1,h2,h3,h4⟩:=above wanted hb
 have hpos:8≤2 ^ k:=Nat.le_trans (by decide) (Nat.pow_le_pow_right (by decide:0<2) h1)
 have hm:sizeAbove wanted - 1+1=2 ^ k:=by lia
 obtain ⟨place,order,e,e1,e2,e3⟩:=rg hm t.finger (t.movedTo (sizeAbove wanted - 1)) t.led t.plain (hashes:=hashes) (by lia)
 refine ⟨_,order,e,rfl,⟨⟨k,h1,hm⟩,by rw [← hn];exact e2,e1,?_,hp⟩,by rw [← hn];exact e3,by show sizeAbove wanted - 1+1=_;lia,rfl⟩
 unfold SetTable.fill
 show (place.size+0) * 5<(sizeAbove wanted - 1) * 3
 lia
theorem TOk.relay {t:SetTable} {n:Nat} (hp:t.plain=true) (es:Array (Int×Value)) (hn:es.size=n) {wanted:Nat} (hw:2 * n≤wanted) (hb:wanted<2 ^ 60) :
  ∃ es' t',relayAll t es wanted=(es',t',false)∧t'.led=t.led∧TOk t' n∧es'.toList.Perm es.toList:=by
 obtain ⟨t',order,e,e1,e2,e3,_⟩:=lY hp (hashes:=es.map (·.1)) (n:=n) (by rw [Array.size_map,hn]) hw hb
 have hperm:(order.filterMap (es[·]?)).toList.Perm es.toList:=by
  rw [Array.toList_filterMap]
  exact (e3.filterMap _).trans (by rw [← hn,filterMap_getElem?_range])
 have hsz:(order.filterMap (es[·]?)).size=n:=by rw [← xAh,hperm.length_eq,xAh,hn]
 refine ⟨_,t',?_,e1,e2,hperm⟩
 unfold relayAll
 rw [e]
 dsimp only
 have hc:(coversAll order es.size && t'.fits (order.filterMap (es[·]?)).size)=true:=by
  rw [hsz,e2.fits,hn]
  unfold coversAll
  rw [List.isPerm_iff.mpr e3]
  rfl
 rw [xCg hc]
end SetA
namespace SetA
open PySem PySem.SetTable
def eKey (e:Int×Value):Int:=match e.2 with | .int k _=>k | _=>0
def EOk (l:List (Int×Value)):Prop:=∀ e∈l,∃ k t,e=(hashInt k,Value.int k t)
def setObj (es:Array (Int×Value)) (ep:Nat) (t:SetTable):Obj:={ cls:=.type "set",dict:=none,data:=.set es ep t,slots:=#[] }
structure SIn (w:World) (h:Heap) (a:Addr) (es:Array (Int×Value)) (ep:Nat) (t:SetTable) (ks:List Int):Prop where
 ob:h.get? a=some (setObj es ep t)
 el:EOk es.toList
 ky:es.toList.map eKey=ks
 nd:ks.Nodup
 tb:TOk t es.size
 ld:t.led=true∨w.params.followText "set-order"=true
def SetIs (w:World) (h:Heap) (a:Addr) (ks:List Int):Prop:=∃ es ep t,SIn w h a es ep t ks
theorem SIn.at' {w:World} {h h':Heap} {a:Addr} {es ep t ks} (S:SIn w h a es ep t ks) (e:∀ o,h.get? a=some o→h'.get? a=some o):SIn w h' a es ep t ks:={ S with ob:=e _ S.ob }
theorem SetIs.at' {w:World} {h h':Heap} {a:Addr} {ks} (S:SetIs w h a ks) (e:∀ o,h.get? a=some o→h'.get? a=some o):SetIs w h' a ks:=let ⟨es,ep,t,q⟩:=S;⟨es,ep,t,q.at' e⟩
theorem SIn.size {w:World} {h:Heap} {a:Addr} {es ep t ks} (S:SIn w h a es ep t ks):es.size=ks.length:=by
 rw [← S.ky,xAa,xAh]
section
variable {prog:Program} {w:World} {A:Around} {E:Value→Shared→Prop} {s:Shared} {a:Addr} {es:Array (Int×Value)} {ep:Nat} {t:SetTable} {ks:List Int}
theorem EOk.elems {l:List (Int×Value)} (h:EOk l):ElemsOf (intKind prog w) l:=by
 intro e he
 obtain ⟨k,t,rfl⟩:=h e he
 exact ⟨⟨k,by simp [intKind,Value.isInt],rfl⟩,rfl⟩
theorem SIn.state (S:SIn w s.heap a es ep t ks) {Q:(Array (Int×Value)×Nat×SetTable)→Shared→Prop} (h:Q (es,ep,t) s):wpAny (model prog w) A (setState a) Q E s :=
 wpAny_setState_of S.ob rfl S.tb.fits h
theorem SIn.entries (S:SIn w s.heap a es ep t ks) {Q:Array (Int×Value)→Shared→Prop} (h:Q es s):wpAny (model prog w) A (setEntries a) Q E s :=
 wpAny_setEntries_of S.ob rfl S.tb.fits h
theorem SIn.epoch (S:SIn w s.heap a es ep t ks) {Q:Nat→Shared→Prop} (h:Q ep s):wpAny (model prog w) A (setEpoch a) Q E s :=
 wpAny_setEpoch_of S.ob rfl S.tb.fits h
theorem rq {l:List (Int×Value)} (h:EOk l) (k:Int):(∀ i,l.findIdx? (fun e=>(intKind prog w).is k e.2)=some i→(l.map eKey)[i]?=some k)∧(l.findIdx? (fun e=>(intKind prog w).is k e.2)=none→k ∉ l.map eKey):=by
 have his:∀ e∈l,(intKind prog w).is k e.2=true↔eKey e=k:=by
  intro e he
  obtain ⟨k',t,rfl⟩:=h e he
  simp [intKind,Value.isInt,eKey]
 constructor
 ·intro i hi
  obtain ⟨hj,hp,_⟩:=List.findIdx?_eq_some_iff_getElem.mp hi
  rw [xAw,xAk hj]
  have:=(his _ (List.getElem_mem hj)).mp hp
  simp [this]
 ·intro hn hm
  obtain ⟨e,he,hk⟩:=xA2.mp hm
  have h1:=List.findIdx?_eq_none_iff.mp hn e he
  have h2:=(his e he).mpr hk
  rw [h2] at h1
  cases h1
theorem SIn.stored (S:SIn w s.heap a es ep t ks) {es':Array (Int×Value)} {t':SetTable} {ks':List Int} (h1:EOk es'.toList) (h2:es'.toList.map eKey=ks') (h3:ks'.Nodup) (h4:TOk t' es'.size) (h5:t'.led=true∨w.params.followText "set-order"=true) :
  SIn w (s.heap.update a (Obj.putSet es' t')) a es' (ep+1) t' ks':=by
 refine ⟨?_,h1,h2,h3,h4,h5⟩
 have:=xA7 (Obj.putSet es' t') S.ob (by rw [putSet_of es' t' rfl];rfl)
 rw [putSet_of es' t' rfl] at this
 exact this
theorem EOk.perm {l l':List (Int×Value)} (h:EOk l) (p:l'.Perm l):EOk l':=fun e he=>h e (p.mem_iff.mp he)
theorem SIn.add (S:SIn w s.heap a es ep t ks) (hb:ks.length+1<scanBound) {k:Int} {tk:Tok} {Q:Bool→Shared→Prop}
  (h:∀ (h':Heap) (ks':List Int),Heap.SameBut a s.heap h'→SetIs w h' a ks'→(∀ x,x∈ks'↔x=k∨x∈ks)→ks'.length≤ks.length+1→Q (!decide (k∈ks)) { s with heap:=h' }) :
  wpAny (model prog w) A (setAddHashed a (.int k tk) (hashInt k)) Q E s:=by
 have hkey:(intKind prog w).is k (.int k tk)=true:=by simp [intKind,Value.isInt]
 have hel:ElemsOf (intKind prog w) es.toList:=S.el.elems
 unfold setAddHashed setAddHashedIn
 refine wpAny_holding (xAd (S.state ?_))
 dsimp only
 rw [byScan_of (x:=.int k tk) rfl (by rw [S.size];lia) hel]
 simp only [↓reduceIte]
 unfold setAddByScan
 refine xAd (xAd (wpAny_rule ?_))
 obtain ⟨f1,f2⟩:=rq (prog:=prog) (w:=w) S.el k
 rw [S.ky] at f1 f2
 refine xAd (wpAny_setScan_of (knd:=intKind prog w) hkey S.ob rfl S.tb.fits hel ?_)
 cases hr:es.toList.findIdx? (fun e=>(intKind prog w).is k e.2) with
 | some j =>
  dsimp only
  have hm:k∈ks:=xAc (f1 j hr)
  refine xAe (xAe ?_)
  have q:=h s.heap ks (Heap.SameBut.refl a s.heap) ⟨es,ep,t,S⟩ (fun x=>⟨.inr,fun z=>z.elim (fun e=>e ▸ hm) id⟩) (by lia)
  rw [xBd hm] at q
  cases s
  exact q
 | none =>
  dsimp only
  have hm:k ∉ ks:=f2 hr
  obtain ⟨p,t',wd,e,l1,l2,l3,l4,l5,l6,l7⟩:=S.tb.new es rfl (hashInt k) (.int k tk)
  rw [e]
  dsimp only
  refine xAd (xAe ?_)
  rw [l3]
  simp only [↓reduceIte]
  refine xAd ?_
  rw [hashByValue_scannable 8 rfl]
  refine xAe ?_
  have hpl:plainKind (Value.int k tk)=true:=rfl
  rw [hpl]
  simp only [↓reduceIte]
  have hpm:=insertAt_perm es p (hashInt k,Value.int k tk)
  rw [Array.toList_push] at hpm
  have hsz:(insertAt es p (hashInt k,Value.int k tk)).size=es.size+1:=cZ _ _ _
  have hel1:EOk (insertAt es p (hashInt k,Value.int k tk)).toList:=by
   refine EOk.perm (fun x hx=>?_) hpm
   rcases xAj.mp hx with hx | hx
   ·exact S.el x hx
   ·rw [xAm] at hx
    exact ⟨k,tk,hx⟩
  have hkp:((insertAt es p (hashInt k,Value.int k tk)).toList.map eKey).Perm (k::ks):=by
   refine (hpm.map eKey).trans ?_
   rw [xAi,S.ky]
   exact List.perm_append_singleton _ _
  have hnd:(k::ks).Nodup:=List.nodup_cons.mpr ⟨hm,S.nd⟩
  have hz1:(insertAt es p (hashInt k,Value.int k tk)).size≤sizeLine:=fits_of_scanBound (by rw [hsz,S.size];exact hb)
  have fin:∀ (h':Heap) (ks':List Int),Heap.SameBut a s.heap h'→SetIs w h' a ks'→ks'.Perm (k::ks)→Q true { s with heap:=h' }:=by
   intro h' ks' b1 b2 b3
   have q:=h h' ks' b1 b2 (fun x=>by rw [b3.mem_iff,xAv]) (by rw [b3.length_eq,xAo];exact xAg _)
   rw [decide_eq_false hm] at q
   exact q
  have hb1:=xB5 s.heap a (Obj.putSet (insertAt es p (hashInt k,Value.int k tk)) t')
  have hld:t'.led=true∨w.params.followText "set-order"=true:=by rw [l1];exact S.ld
  cases hfull:(!wd && t'.tooFull) with
  | false =>
   refine xAd (wpAny_storeSet_of S.ob rfl ?_ hz1)
   simp only [xAz,↓reduceIte]
   refine xAe (xAe (fin _ _ hb1 ⟨_,_,_,S.stored hel1 rfl (hkp.nodup_iff.mpr hnd) (by rw [hsz];exact l7 hfull) hld⟩ hkp))
  | true =>
   have hsm:es.size+1<4096:=by
    have:=S.size
    unfold scanBound at hb
    lia
   have hgr:2 * (es.size+1)≤SetTable.grown (es.size+1)∧SetTable.grown (es.size+1)<2 ^ 60:=by
    unfold SetTable.grown
    have:=hsm
    rw [xCf (by lia)]
    exact ⟨by lia,xBc (show (es.size+1) * 4<2 ^ 20 by lia) (by decide)⟩
   obtain ⟨es2,t2,r1,r2,r3,r4⟩:=TOk.relay (t:=t') l3 (insertAt es p (hashInt k,Value.int k tk)) hsz hgr.1 hgr.2
   refine xAd (wpAny_storeSet_of S.ob rfl ?_ hz1)
   have hob:(s.heap.update a (Obj.putSet (insertAt es p (hashInt k,Value.int k tk)) t')).get? a=some (setObj (insertAt es p (hashInt k,Value.int k tk)) (ep+1) t'):=by
    have:=xA7 (Obj.putSet (insertAt es p (hashInt k,Value.int k tk)) t') S.ob (by rw [putSet_of _ t' rfl];rfl)
    rw [putSet_of _ t' rfl] at this
    exact this
   simp only [↓reduceIte]
   rw [hsz,r1]
   dsimp only
   have hsz2:es2.size=es.size+1:=by rw [← xAh,r4.length_eq,xAh,hsz]
   refine xAd (xAe (xAd (wpAny_storeSet_of hob rfl ?_ (by rw [hsz2,← hsz];exact hz1))))
   refine xAe (xAe (fin _ (es2.toList.map eKey) (hb1.trans (xB5 _ a _)) ⟨es2,ep+2,t2,?_,hel1.perm r4,rfl,?_,by rw [hsz2];exact r3,by rw [r2];exact hld⟩ ((r4.map eKey).trans hkp)))
   ·have:=xA7 (Obj.putSet es2 t2) hob (by rw [putSet_of _ t2 rfl];rfl)
    rw [putSet_of _ t2 rfl] at this
    exact this
   ·exact ((r4.map eKey).trans hkp).nodup_iff.mpr hnd
end
end SetA
namespace SetA
open PySem PySem.SetTable
theorem qy {α:Type} (next:Nat→Nat):∀ (n k:Nat) (left:List α) (out:Array α),left.length=n→(pickOrder.go next n k left out).toList.Perm (out.toList++left):=by
 intro n
 induction n with
 | zero =>
  intro k left out h
  obtain rfl:=List.length_eq_zero_iff.mp h
  unfold pickOrder.go
  simp
 | succ n ih =>
  intro k left out h
  have hlt:next k % left.length<left.length:=Nat.mod_lt _ (by lia)
  unfold pickOrder.go
  rw [xAk hlt]
  dsimp only
  refine (ih (k+1) _ _ (by rw [List.length_eraseIdx_of_lt hlt];lia)).trans ?_
  rw [Array.toList_push,xAx]
  refine List.Perm.append_left _ ?_
  generalize next k % left.length=i at hlt
  clear ih
  induction left generalizing i n with
  | nil=>exact absurd hlt (Nat.not_lt_zero _)
  | cons a left ih2 =>
   cases i with
   | zero=>exact .rfl
   | succ i =>
    have hlt2:i<left.length:=by simpa using hlt
    have:=ih2 (left.length - 1) (by lia) i hlt2
    rw [List.eraseIdx_cons_succ,List.getElem_cons_succ]
    exact (List.Perm.swap _ _ _).trans (this.cons a)
theorem me {α:Type} (next:Nat→Nat) (xs:Array α):(pickOrder next xs).toList.Perm xs.toList:=by
 have:=qy next xs.size 0 xs.toList #[] (by simp)
 rw [show (#[]:Array α).toList++xs.toList=xs.toList from rfl] at this
 exact this
def wk (w:World) (a:Addr) (ep:Nat) (es:Array (Int×Value)):Array (Int×Value):=if w.params.followText "set-order"=true then pickOrder (w.params.setOrder a ep) es else es
theorem gV (w:World) (a:Addr) (ep:Nat) (es:Array (Int×Value)):(wk w a ep es).toList.Perm es.toList:=by
 unfold wk
 split
 ·exact me _ _
 ·exact .rfl
section
variable {prog:Program} {w:World} {A:Around} {E:Value→Shared→Prop} {s:Shared} {a:Addr} {es:Array (Int×Value)} {ep:Nat} {t:SetTable} {ks:List Int}
theorem byText {Q:Bool→Shared→Prop} (h:Q (w.params.followText "set-order") s):wpAny (model prog w) A setsByText Q E s:=by
 unfold setsByText
 exact xAd (wpAny_askSetting (xAe h))
theorem SIn.walk (S:SIn w s.heap a es ep t ks) {Q:Array (Int×Value)→Shared→Prop} (h:Q (wk w a ep es) s):wpAny (model prog w) A (setWalk a) Q E s:=by
 unfold setWalk
 refine xAd (S.state ?_)
 dsimp only
 refine xAd (byText ?_)
 unfold wk at h
 cases hb:w.params.followText "set-order" with
 | true =>
  rw [xCg rfl]
  rw [hb,xCg rfl] at h
  exact xAd (wpAny_askSetting (xAe h))
 | false =>
  rw [xCf xAy]
  rw [hb,xCf xAy] at h
  have hl:t.led=true:=S.ld.elim id fun q=>by rw [hb] at q;cases q
  change wpAny _ _ (if (!t.plain && decide (es.size > 1))=true then _ else _) _ _ _
  rw [S.tb.pl]
  simp only [Bool.not_true,Bool.false_and,xAz,↓reduceIte]
  change wpAny _ _ ((if (!t.led && decide (es.size > 1))=true then unsupported "set:maker-not-led" else pure ()) >>= _) _ _ _
  rw [hl]
  simp only [Bool.not_true,Bool.false_and,xAz,↓reduceIte]
  exact xAd (xAe (xAe h))
theorem oU (led:Bool) (hl:led=true∨w.params.followText "set-order"=true) (h:Heap):SIn w (h.push (setObj #[] 0 (.fresh 0 0 led))) h.objs.size #[] 0 (.fresh 0 0 led) [] :=
 ⟨xAl _ rfl,fun e he=>absurd he (by simp),rfl,List.nodup_nil,TOk.fresh 0 0 led,hl⟩
theorem SIn.type (S:SIn w s.heap a es ep t ks):s.TypeIs (.ref a) "set":=⟨_,S.ob,rfl⟩
theorem SIn.sizeOf (S:SIn w s.heap a es ep t ks) {Q:Nat→Shared→Prop} (h:Q ks.length s):wpAny (model prog w) A (Builtin.Frozenset.sizeOf a) Q E s:=by
 unfold Builtin.Frozenset.sizeOf
 refine xAd (S.entries (xAe ?_))
 rw [S.size]
 exact h
theorem pH (S:SIn w s.heap a es ep t ks):EOk (wk w a ep es).toList∧((wk w a ep es).toList.map eKey).Perm ks:=by
 have h:=gV w a ep es
 exact ⟨S.el.perm h,by rw [← S.ky];exact h.map eKey⟩
end
end SetA
namespace SetA
open PySem PySem.SetTable
end SetA
namespace SetA
open PySem PySem.SetTable
end SetA
namespace SetA
open PySem PySem.Spec PySem.SetTable PyProof.Rows
theorem rP:∀ (N:Nat) {l:List Int},l.Nodup→(∀ k∈l,0≤k∧k<(N:Int))→l.length≤N
 | 0,l,_,h=>by
  cases l with
  | nil=>exact xAg _
  | cons k r=>have:=h k xAr;lia
 | N+1,l,nd,h=>by
  have e:=rP N (l:=l.erase (N:Int)) (nd.erase _) (fun k hk=>by
   have h1:=h k (List.mem_of_mem_erase hk)
   have h2:k≠(N:Int):=fun z=>by
    subst z
    exact (nd.mem_erase_iff.mp hk).1 rfl
   lia)
  rw [List.length_erase] at e
  split at e <;> lia
def Bnd (ks:List Int):Prop:=∀ x∈ks,0≤x∧x<4000
theorem Bnd.len {ks:List Int} (h:Bnd ks) (nd:ks.Nodup):ks.length+1<scanBound:=by
 have:=rP 4000 nd h
 have e:scanBound=4096:=rfl
 lia
section
variable {prog:Program} {w:World} {A:Around} {E:Value→Shared→Prop} {s:Shared}
theorem q0 (x:Value) {Q₁:Value→Shared→Prop}
  (h:∀ led:Bool,(led=true∨w.params.followText "set-order"=true)→Q₁ (.ref s.heap.objs.size) { s with heap:=s.heap.push (setObj #[] 0 (.fresh 0 0 led)) }) :
  codeAny (model prog w) A (.call (.builtin "set.__new__") ⟨[.type "set",x],[]⟩) (wants Q₁ E) s:=by
 refine codeAny_of_tree ?_
 change wpAny _ A.in1 (do checkBuiltinCall "set.__new__" ⟨[.type "set",x],[]⟩;again (.builtin "set.__new__" ⟨[.type "set",x],[]⟩)) _ _ s
 refine xAd (wpAny_of_eq (PySem.F.newCall_set_1 x) (xAe ⟨plainId_quiet PySem.F.plain_set_new _,codeAny_builtin PySem.F.entry_set_new ?_⟩))
 rw [Around.under_plainId PySem.F.plain_set_new _]
 unfold Builtin.«set.__new__» Builtin.Frozenset.newClass
 have hss:=sub_set_self
 obtain ⟨hp,gg,dd,tt,oo⟩:=s
 dsimp only
 wp_walk
 refine wpAny_askSetting (xAe ?_)
 dsimp only
 simp only [newObj]
 refine xAd (wpAny_alloc (xAe (xAe (h _ ?_))))
 change (!(w.params.followText "set-order"))=true∨w.params.followText "set-order"=true
 cases w.params.followText "set-order" <;> simp
end
section
variable {prog:Program} {w:World} {A:Around} {R:Result→Shared→Prop} {I:Addr} {fp wr:List Addr} {G:Array GenState→Array GenState→Prop} {n:Nat} {P:Nat→Value→Prop} {St:Nat→Shared→Prop}
theorem mG (W:WalksS prog w A.in1 I fp wr G n P St) (S:Addr) (hSf:S ∉ fp) (val:Nat→Int) (hval:∀ i v,P i v→∃ t,v = .int (val i) t) (hv:∀ i,i<n→0≤val i∧val i<4000) :
  ∀ (k i:Nat) (s:Shared) (ks:List Int),n - i=k→i≤n→St i s→SetIs w s.heap S ks→(∀ x,x∈ks↔∃ j,j<i∧val j=x) →
   (∀ s' ks',Moved (S::wr) G s s'→SetIs w s'.heap S ks'→(∀ x,x∈ks'↔∃ j,j<n∧val j=x)→R (.ok (.ret .none)) s') →
   codeAny (model prog w) A (.builtin "set.update.loop" ⟨[.ref S,.ref I],[]⟩) R s:=by
 have hSw:S ∉ wr:=fun h=>hSf (W.sub _ h)
 have hsu:∀ b∈wr,b∈S::wr:=fun b hb=>xAs _ hb
 intro k
 induction k with
 | zero =>
  intro i s ks hk hi hst hS hm hR
  obtain rfl:i=n:=by lia
  refine codeAny_builtin PyProof.Rows.F.entry_set_update_loop ?_
  rw [Around.under_plainId PyProof.Rows.F.plain_set_update_loop _]
  change wpAny _ A.in1 (pyNext (.ref I) >>= _) _ _ s
  refine xAd (W.done s _ _ hst fun s' mv=>?_)
  change wpAny _ A.in1 (ret Value.none) _ _ s'
  exact xAe (hR s' ks (mv.mono hsu) (hS.at' fun o e=>mv.heap S _ hSw e) hm)
 | succ k ih =>
  intro i s ks hk hi hst hS hm hR
  have hlt:i<n:=by lia
  refine codeAny_builtin PyProof.Rows.F.entry_set_update_loop ?_
  rw [Around.under_plainId PyProof.Rows.F.plain_set_update_loop _]
  change wpAny _ A.in1 (pyNext (.ref I) >>= _) _ _ s
  refine xAd (W.item i s _ _ hlt hst fun v s' hP hst' mv=>?_)
  obtain ⟨t,rfl⟩:=hval i v hP
  have hS1:SetIs w s'.heap S ks:=hS.at' fun o e=>mv.heap S _ hSw e
  change wpAny _ A.in1 (holding [Value.int (val i) t] (setAdd S (.int (val i) t)) >>= _) _ _ s'
  refine xAd (wpAny_holding ?_)
  unfold setAdd
  refine wpAny_holding ?_
  refine xAd ((intKind prog w).pyHash (k:=val i) (intKind_is _ _ _ _) ?_)
  obtain ⟨es,ep,tb,hS1⟩:=hS1
  refine SIn.add (s:={ s' with toks:=s'.toks+1 }) hS1 (Bnd.len (fun x hx=>by obtain ⟨j,z1,z2⟩:=(hm x).mp hx;rw [← z2];exact hv j (by lia)) hS1.nd) fun h' ks' c1 c2 c3 c4=>?_
  refine xAe ⟨plainId_quiet PyProof.Rows.F.plain_set_update_loop _,ih (i+1) _ ks' (by lia) hlt (W.frame _ s' _ _ hst' (Nat.le_succ _) fun b hb o e=>?_) c2 (fun x=>?_) fun s'' ks'' mv2 d1 d2=>?_⟩
  ·rw [c1.2 b (fun h:b=S=>hSf (by rw [← h];exact hb))]
   exact e
  ·rw [c3,hm]
   constructor
   ·rintro (rfl | ⟨j,z1,z2⟩)
    ·exact ⟨i,by lia,rfl⟩
    ·exact ⟨j,by lia,z2⟩
   ·rintro ⟨j,z1,z2⟩
    by_cases e:j=i
    ·subst e;exact .inl z2.symm
    ·exact .inr ⟨j,by lia,z2⟩
  ·refine hR s'' ks'' (Moved.trans W.gtrans ((mv.mono hsu).then_heap (Nat.le_succ _) fun b o hb e=>?_) mv2) d1 d2
   rw [c1.2 b (fun h:b=S=>hb (by rw [h];exact xAr))]
   exact e
end
end SetA
namespace SetA
open PySem PySem.Spec PySem.SetTable PyProof.Rows
theorem o6:entryFor table "set.__iter__"=some Builtin.«frozenset.__iter__» :=
 entryFor_alias (id':="frozenset.__iter__") (by kernel_rfl) rfl (by decide +kernel) (by kernel_rfl)
theorem ou:Manifest.owners.lookup (String.ofList ['r','o','t','a','r','e','t','i','_','t','e','s'].reverse)=some Manifest.sig_set_iterator:=by kernel_rfl
theorem fc:Slot "set_iterator" "__iter__" "set_iterator.__iter__" :=
 Slot.of (owner:="set_iterator") (n:="__iter__") (by rw [typeLookup_type,builtinLookup_eq_fast];kernel_rfl) (by decide +kernel) (by decide +kernel) (by decide +kernel) (by first | exact .inl (by decide +kernel) | exact .inr (by decide +kernel)) (by rw [isSubtype_type];kernel_rfl)
theorem bO:Slot "set_iterator" "__next__" "set_iterator.__next__" :=
 Slot.of (owner:="set_iterator") (n:="__next__") (by rw [typeLookup_type,builtinLookup_eq_fast];kernel_rfl) (by decide +kernel) (by decide +kernel) (by decide +kernel) (by first | exact .inl (by decide +kernel) | exact .inr (by decide +kernel)) (by rw [isSubtype_type];kernel_rfl)
theorem fj:entryFor table "set_iterator.__next__"=some Builtin.«set_iterator.__next__»:=entryFor_of_tree (by kernel_rfl)
theorem jq:entryFor table "set_iterator.__iter__"=some Builtin.«dict_keyiterator.__iter__» :=
 entryFor_alias (id':="dict_keyiterator.__iter__") (by kernel_rfl) rfl (by decide +kernel) (by kernel_rfl)
theorem fz (a:Value):argsOk "set_iterator.__next__" ⟨[a],[]⟩:=by
 unfold argsOk;rw [signature?_of (id:="set_iterator.__next__") (n:=['_','_','t','x','e','n','_','_']) (o:=['r','o','t','a','r','e','t','i','_','t','e','s']) (by kernel_rfl) ou];kernel_rfl
theorem jH (a:Value):argsOk "set_iterator.__iter__" ⟨[a],[]⟩:=by
 unfold argsOk;rw [signature?_of (id:="set_iterator.__iter__") (n:=['_','_','r','e','t','i','_','_']) (o:=['r','o','t','a','r','e','t','i','_','t','e','s']) (by kernel_rfl) ou];kernel_rfl
def itObj (slot i:Nat) (a:Addr) (n ep:Nat):Obj:={ cls:=.type "set_iterator",dict:=none,data:=.fields #[rawInt slot,rawInt i,.ref a,rawInt n,rawInt ep],slots:=#[] }
section
variable {prog:Program} {w:World} {A:Around} {E:Value→Shared→Prop} {s:Shared} {a:Addr} {es:Array (Int×Value)} {ep:Nat} {t:SetTable} {ks:List Int}
theorem SIn.drawn (S:SIn w s.heap a es ep t ks) {Q:Bool→Shared→Prop} (h:Q false s):wpAny (model prog w) A (setDrawn a) Q E s:=by
 unfold setDrawn
 refine xAd (S.state ?_)
 dsimp only
 refine xAd (byText ?_)
 change wpAny _ _ (pure (!(w.params.followText "set-order") && (!t.plain && decide (es.size > 1)))) _ _ _
 rw [S.tb.pl]
 simp only [Bool.not_true,Bool.false_and,Bool.and_false]
 exact xAe h
theorem SIn.iter (S:SIn w s.heap a es ep t ks) {Q:Value→Shared→Prop} (h:Q (.ref s.heap.objs.size) { s with heap:=s.heap.push (itObj 0 0 a ks.length ep) }) :
  wpAny (model prog w) A (pyIter (.ref a)) Q E s:=by
 refine wpAny_pyIter_slot S.type PySem.F.slot_set_iter (wpAny_call_entry PySem.F.slot_set_iter S.type o6 ?_ (PySem.F.args_set_iter_1 _))
 unfold Builtin.«frozenset.__iter__»
 refine xAd (m:=Builtin.Frozenset.slot0 _ _) (xAe ?_)
 refine xAd (S.sizeOf ?_)
 refine xAd (S.drawn ?_)
 rw [xCf xAy]
 refine xAd (xAe ?_)
 refine xAd (S.epoch ?_)
 refine xAd (xBl (xAe ⟨_,rfl,"set_iterator",_,⟨_,xAl _ rfl,rfl⟩,bO.lookup,?_⟩))
 exact h
def ItAt (w:World) (h:Heap) (I a:Addr) (es:Array (Int×Value)) (ep:Nat) (t:SetTable) (ks:List Int) (i:Nat):Prop :=
 (∃ slot,h.get? I=some (itObj slot i a ks.length ep)∧(w.params.followText "set-order"=false→below t.place slot=i))∧SIn w h a es ep t ks
theorem uk {h:Heap} {I:Addr} {slot i n:Nat} (ho:h.get? I=some (itObj slot i a n ep)) (slot':Nat) :
  ((h.update I (Obj.mapFields (·.setIfInBounds 0 (rawInt slot')))).update I (Obj.mapFields (·.setIfInBounds 1 (rawInt ((i:Int)+1))))).get? I=some (itObj slot' (i+1) a n ep):=by
 have e1:=xA7 (Obj.mapFields (·.setIfInBounds 0 (rawInt slot'))) ho rfl
 have e2:=xA7 (Obj.mapFields (·.setIfInBounds 1 (rawInt ((i:Int)+1)))) e1 rfl
 exact e2
theorem SIn.next (S:SIn w s.heap a es ep t ks) {slot i:Nat} (hs:w.params.followText "set-order"=false→below t.place slot=i) {Q:Option (Value×Nat)→Shared→Prop}
  (h1:∀ (e:Int×Value) (slot':Nat),(wk w a ep es)[i]?=some e→(w.params.followText "set-order"=false→below t.place slot'=i+1)→Q (some (e.2,slot')) s)
  (h2:(wk w a ep es)[i]?=none→Q none s):wpAny (model prog w) A (setNext a slot i ep) Q E s:=by
 unfold setNext
 refine xAd (S.state ?_)
 dsimp only
 refine xAd (byText ?_)
 cases hb:w.params.followText "set-order" with
 | true =>
  rw [xCg rfl,xCf (by simp)]
  refine xAd (S.walk (xAe ?_))
  cases he:(wk w a ep es)[i]? with
  | none=>exact h2 he
  | some e=>exact h1 e slot he fun q=>by rw [hb] at q;cases q
 | false =>
  rw [xCf xAy]
  have hl:t.led=true:=S.ld.elim id fun q=>by rw [hb] at q;cases q
  have hw:wk w a ep es=es:=by unfold wk;rw [hb,xCf xAy]
  rw [hw] at h1 h2
  change wpAny _ _ (if (!t.plain && decide (es.size > 1))=true then _ else _) _ _ _
  rw [S.tb.pl]
  simp only [Bool.not_true,Bool.false_and,xAz,↓reduceIte]
  change wpAny _ _ ((if (!t.led && !es.isEmpty)=true then unsupported "set:maker-not-led" else pure ()) >>= _) _ _ _
  rw [hl]
  simp only [Bool.not_true,Bool.false_and,xAz,↓reduceIte]
  refine xAd (xAe (xAe ?_))
  rw [hs hb]
  have hsz:=S.tb.sz
  cases he:es[i]? with
  | none=>exact h2 he
  | some e =>
   obtain ⟨hi,_⟩:=xB7.mp he
   rw [Array.getElem?_eq_getElem (by lia:i<t.place.size)]
   refine h1 e _ he fun _=>gq S.tb.ris (by lia) (fun _ _=>?_) fun hj=>?_
   ·exact Nat.lt_succ_self _
   ·exact S.tb.ris i (i+1) (by lia) hj (Nat.lt_succ_self _)
theorem mn {I:Addr} {i:Nat} {Q:Option Value→Shared→Prop} (hne:a≠I) (st:ItAt w s.heap I a es ep t ks i) (hi:i<ks.length)
  (h:∀ e h',(wk w a ep es)[i]?=some e→ItAt w h' I a es ep t ks (i+1)→Heap.SameBut I s.heap h'→Q (some e.2) { s with heap:=h' }):wpAny (model prog w) A (pyNext (.ref I)) Q E s:=by
 obtain ⟨⟨slot,ho,hs⟩,S⟩:=st
 have hT:s.TypeIs (.ref I) "set_iterator":=⟨_,ho,rfl⟩
 unfold pyNext
 refine xAd (wpAny_attempt (wpAny_callSpecial?_slot (name:=Str.ofString "__next__") hT bO (wpAny_call_entry bO hT fj ?_ (fz _))))
 unfold Builtin.«set_iterator.__next__»
 refine xAd (xAe ?_)
 refine xAd (wpAny_fieldsOf ho rfl ?_)
 dsimp only
 refine xAd (S.entries ?_)
 have hsz:=S.size
 rw [xCf (by rw [hsz];simp)]
 change wpAny _ _ (setNext a slot i ep >>= _) _ _ _
 refine xAd (S.next hs (fun e slot' he hs'=>?_) fun he=>?_)
 ·dsimp only
  refine xAd (wpAny_setField ho rfl (by simp) ?_)
  have e1:=xA7 (Obj.mapFields (·.setIfInBounds 0 (rawInt slot'))) ho rfl
  refine xAd (wpAny_setField e1 rfl (by simp) ?_)
  have hsb:=(xB5 s.heap I (Obj.mapFields (·.setIfInBounds 0 (rawInt slot')))).trans (xB5 _ I (Obj.mapFields (·.setIfInBounds 1 (rawInt ((i:Int)+1)))))
  refine xAe ⟨_,rfl,xAe (h e _ he ⟨⟨slot',uk ho slot',hs'⟩,S.at' fun o eo=>?_⟩ hsb)⟩
  rw [hsb.2 a hne]
  exact eo
 ·have:=(gV w a ep es).length_eq
  rw [xAh,xAh] at this
  rw [Array.getElem?_eq_none_iff] at he
  lia
theorem oE {I:Addr} {Q:Option Value→Shared→Prop} (hh:A.handled=none) (st:ItAt w s.heap I a es ep t ks ks.length)
  (h:∀ h',Heap.ExtBut I s.heap h'→Q none { s with heap:=h' }):wpAny (model prog w) A (pyNext (.ref I)) Q E s:=by
 obtain ⟨⟨slot,ho,hs⟩,S⟩:=st
 have hT:s.TypeIs (.ref I) "set_iterator":=⟨_,ho,rfl⟩
 unfold pyNext
 refine xAd (wpAny_attempt (wpAny_callSpecial?_slot (name:=Str.ofString "__next__") hT bO (wpAny_call_entry bO hT fj ?_ (fz _))))
 unfold Builtin.«set_iterator.__next__»
 refine xAd (xAe ?_)
 refine xAd (wpAny_fieldsOf ho rfl ?_)
 dsimp only
 refine xAd (S.entries ?_)
 have hsz:=S.size
 rw [xCf (by rw [hsz];simp)]
 change wpAny _ _ (setNext a slot ks.length ep >>= _) _ _ _
 refine xAd (S.next hs (fun e slot' he hs'=>?_) fun he=>?_)
 ·obtain ⟨q,_⟩:=xB7.mp he
  have:=(gV w a ep es).length_eq
  rw [xAh,xAh] at this
  lia
 ·dsimp only
  refine xAd (wpAny_setField ho rfl (by simp) ?_)
  refine xAd ?_
  simp only [newExc,newTuple]
  refine xAd (xBl ?_ (by size_fits))
  refine xAd (m:=firstArgMember _ _) (wpAny_of_eq (a:=Value.none) (by first | rfl | (simp only [firstArgMember];rfl)) ?_)
  refine xBl ?_ (by size_fits)
  simp only [raiseNew]
  refine xAd (wpAny_handled ?_)
  rw [show A.in1.handled=none from hh]
  refine xAd (xAe (wpAny_throw ?_))
  refine xAd (wpAny_isInstance (T:="StopIteration") (b:=true) ⟨_,xAl _ rfl,rfl⟩ isSubtype_stop ?_)
  exact xAe (h _ (((xB5 ..).extBut.push _).push _))
theorem lQ (hh:A.handled=none) (I a:Addr) (hne:a≠I) (es:Array (Int×Value)) (ep:Nat) (t:SetTable) (ks:List Int) :
  Walks prog w A I [I,a] [I] ks.length (fun i v=>∃ e,(wk w a ep es)[i]?=some e∧e.2=v) (fun i h=>ItAt w h I a es ep t ks i) where
 sub:=fun b hb=>by simp at hb;simp [hb]
 frame:=fun _ _ _ st hk=>⟨let ⟨slot,z1,z2⟩:=st.1;⟨slot,hk I (by simp) _ z1,z2⟩,st.2.at' fun o e=>hk a (by simp) o e⟩
 item:=fun i s Q E hi st hQ=>mn hne st hi fun e h' z1 z2 z3=>hQ e.2 h' s.toks ⟨e,z1,rfl⟩ z2 fun b o hb q=>z3.extBut b o (fun z=>hb (by simp [z])) q
 done:=fun s Q E st hQ=>oE hh st fun h' z=>hQ h' s.toks fun b o hb q=>z b o (fun z=>hb (by simp [z])) q
 self:=fun _ s _ _ st hQ=>by
  obtain ⟨⟨slot,ho,_⟩,_⟩:=st
  have hT:s.TypeIs (.ref I) "set_iterator":=⟨_,ho,rfl⟩
  refine wpAny_pyIter_slot hT fc (wpAny_call_entry fc hT jq ?_ (jH _))
  change wpAny _ _ (ret (.ref I)) _ _ s
  exact xAe ⟨_,rfl,"set_iterator",_,hT,bO.lookup,hQ⟩
theorem oQ {r:Addr} {Q:Bool→Shared→Prop} (hT:s.TypeIs (.ref r) "set") (h:Q false s):wpAny (model prog w) A (Builtin.List.listLengthHint (.ref r)) Q E s:=by
 unfold Builtin.List.listLengthHint
 refine xAd (wpAny_specialOf hT PySem.F.slot_set_len.lookup ?_)
 generalize hid:("set.__len__":String)=id0
 wp_delta
 rw [show splitId id0=some ("set","__len__") from by subst hid;decide +kernel]
 subst hid
 refine xAd (wpAny_isInstance (T:="set") (b:=true) hT (by rw [isSubtype_type];kernel_rfl) ?_)
 refine wpAny_ite_split (fun hab=>absurd hab (by decide)) (fun _=>?_)
 refine wpAny_ite_split (fun _=>?_) (fun hab=>absurd (by decide +kernel) hab)
 refine xAd (wpAny_typeOf hT ?_)
 exact xAe h
theorem pN:PySem.W.KdlSrc prog w "set" a a ks.length (fun i v=>∃ e,(wk w a ep es)[i]?=some e∧e.2=v) (fun h=>SIn w h a es ep t ks) where
 type:=fun s q=>SIn.type (s:=s) q
 there:=fun _ q=>⟨xA1 q.ob,xA1 q.ob⟩
 keep:=fun _ _ q hk=>q.at' fun o e=>hk a (.inl rfl) o e
 notList:=by decide
 notTuple:=by decide
 hint:=fun _ _ s _ q hq=>oQ (SIn.type (s:=s) q) hq
 iter:=fun _ s hh q=>⟨_,_,(fun _ _ hq=>SIn.iter (s:=s) q hq),lQ hh _ a (xA0 (xA1 q.ob)) es ep t ks,⟨⟨0,xAl _ rfl,fun _=>gq q.tb.ris (xBn _) (fun z=>absurd z (xBo _)) fun _=>xBn _⟩,q.at' fun o e=>xAf _ e⟩⟩
end
end SetA
namespace L2
open PySem PySem.Spec PyProof.Rows SetA
def SetO (w:World) (p:Addr) (ks:List Int):HO:=HO.ext fun h=>SetIs w h p ks
theorem su {P:Program} {w:World} {H:Hp} {h:Heap} {p:Addr} {ks:List Int} (S:SetIs w h p ks):ObjOk P w H h p (SetO w p ks) :=
 ⟨S,let ⟨_,_,_,q⟩:=S;⟨_,q.ob⟩,fun h1 h2 q k=>q.at' k⟩
theorem nu {P:Program} {w w':World} {H:Hp} {h:Heap} {p:Addr} {ks:List Int} (ok:HOk P w' H h) (e:H p=some (SetO w p ks)):SetIs w h p ks:=(ok p _ e).1
section
variable {X:Cx}
theorem pO {s:Shared} {pins:List (Addr×Obj)} {σ:St} {H:Hp} {h':Heap} {tk:Nat} {ks:List Int} {Q:VK} (I:Inv X pins σ H s) (k:∀ b o,s.heap.get? b=some o→h'.get? b=some o) (S:SetIs X.w h' s.heap.objs.size ks)
  (q:H s.heap.objs.size=none→Q (.ref s.heap.objs.size) (upd H s.heap.objs.size (SetO X.w s.heap.objs.size ks))):EP X pins σ Q (.ref s.heap.objs.size) { s with heap:=h',toks:=tk }:=by
 have hfr:s.heap.get? s.heap.objs.size=none:=by
  cases z:s.heap.get? s.heap.objs.size with
  | none=>rfl
  | some o=>exact absurd (xA1 z) (xBo _)
 obtain ⟨hfree,I2⟩:=Inv.laidN (t':=tk) I k hfr (su S)
 exact ⟨.ref s.heap.objs.size,_,I2,rfl,q hfree⟩
theorem mB {es:Array (Int×Value)} {ns:List Int} {acc:Array Value} (he:EOk es.toList) (hk:es.toList.map eKey=ns) (hi:acc.size=ns.length)
  (hv:∀ (i:Nat) (v:Value),acc[i]?=some v→∃ e,es[i]?=some e∧e.2=v):Vals (ns.map V.int) acc.toList:=by
 have gen:∀ (l:List Value) (ms:List Int),l.length=ms.length→(∀ (i:Nat) (v:Value),l[i]?=some v→∃ m t,ms[i]?=some m∧v=Value.int m t)→Vals (ms.map V.int) l:=by
  intro l
  induction l with
  | nil =>
   intro ms h _
   cases ms with
   | nil=>exact .nil
   | cons _ _=>simp at h
  | cons v l ih =>
   intro ms h q
   cases ms with
   | nil=>simp at h
   | cons m ms =>
    obtain ⟨m',t,e1,e2⟩:=q 0 v rfl
    cases e1
    exact .cons ⟨t,e2⟩ (ih ms (by simpa using h) fun i u e=>q (i+1) u e)
 refine gen acc.toList ns (by rw [xAh];exact hi) fun i v e=>?_
 obtain ⟨x,e1,e2⟩:=hv i v (by rw [← Array.getElem?_toList];exact e)
 rw [← Array.getElem?_toList] at e1
 obtain ⟨k,t,rfl⟩:=he x (xAc e1)
 refine ⟨k,t,?_,e2.symm⟩
 rw [← hk,xAw,e1]
 rfl
theorem iE (hc:X.calm=true):CallR X (.builtin "sorted") (fun xs H Q=>∃ (p:Addr) (ks:List Int),xs=[.ref p]∧H p=some (SetO X.w p ks)∧Bnd ks ∧
  ∀ (l:Addr) (ns':List Int),H l=none→ks.Nodup→ns'.Perm ks→ns'.Pairwise (·≤·)→Q (.ref l) (upd H l (.lst (ns'.map V.int)))):=by
 intro pins s σ H xs us Q I r h
 obtain ⟨p,ks,rfl,hd,hlk,q⟩:=h
 obtain ⟨u,rfl,ru⟩:=vals1 r
 obtain rfl:u=Value.ref p:=ru
 obtain ⟨es,ep,t,S⟩:=nu I.hok hd
 have hsl:=sizeLine_eq
 have hlk:=hlk.len S.nd
 have hsb:scanBound=4096:=rfl
 refine Calls.call_function_entry kind_sorted plain_sorted entry_sorted (args_sorted1 _) ?_
 unfold Builtin.«sorted»
 refine xAd (m:=checkCount "sorted" 1 1 _) (xAe ?_)
 refine xAd (PySem.W.kdu_collect (A:=X.A.in1) (pN (es:=es) (ep:=ep) (t:=t) (ks:=ks)) (I.ok.hd hc) S (by lia) fun h' tk acc hkeep hacc=>?_)
 obtain ⟨k1,k2⟩:=pH (s:=s) S
 have va:=mB (acc:=acc) k1 rfl (by rw [hacc.1,k2.length_eq]) (fun i v e=>hacc.2 i v e)
 have hla:=va.length
 rw [xAa,k2.length_eq] at hla
 have hzl:acc.toList.length≤sizeLine:=by lia
 refine xAd (wpAny_newList ?_ hzl)
 have gL:(h'.push (seqObj "list" acc.toList.toArray 0)).get? h'.objs.size=some (seqObj "list" acc.toList.toArray 0):=xAl _ rfl
 refine xAd (wpAny_holding (wpAny_call_entry slot_list_sort ⟨_,gL,rfl⟩ entry_list_sort (Tim.tree_any gL (ge va) hzl fun out ns' q1 q2 q3=>⟨_,rfl,?_⟩) (args_list_sort _)))
 refine xAe ⟨_,rfl,?_⟩
 have keepAll:∀ b o,s.heap.get? b=some o→(sortedHeap (h'.push (seqObj "list" acc.toList.toArray 0)) h'.objs.size acc.toList out).get? b=some o:=fun b o e=>by
  have hb:=xA1 (hkeep b o e)
  rw [sortedHeap_old (xA0 hb) (by rw [size_push'];exact Nat.lt_succ_of_lt hb)]
  exact xAf _ (hkeep b o e)
 obtain ⟨e,g⟩:=sortedHeap_at (vs:=acc.toList) (out:=out) gL
 have hfr:s.heap.get? h'.objs.size=none:=by
  cases z:s.heap.get? h'.objs.size with
  | none=>rfl
  | some o=>exact absurd (xA1 (hkeep _ _ z)) (xBo _)
 have new:ObjOk X.prog X.w (upd H h'.objs.size (.lst (ns'.map V.int))) (sortedHeap (h'.push (seqObj "list" acc.toList.toArray 0)) h'.objs.size acc.toList out) h'.objs.size (.lst (ns'.map V.int)):=by
  refine ⟨?_,out.toList,e,eT q1,?_⟩
  ·rw [xAa,q2.length_eq,k2.length_eq]
   lia
  ·rw [g,Array.toArray_toList]
 obtain ⟨hfree,I2⟩:=Inv.laidN (t':=tk) I keepAll hfr new
 exact ⟨.ref h'.objs.size,_,I2,rfl,q _ ns' hfree S.nd (q2.trans k2) q3⟩
end
end L2
namespace L2
open PySem PySem.Spec PyProof.Rows
section
variable {X:Cx} {pins:List (Addr×Obj)} {σ:St} {H:Hp} {s:Shared} {h':Heap}
theorem Inv.turnedL {t':Nat} {fp:List Addr} (I:Inv X pins σ H s) (k:∀ b o,b ∉ fp→s.heap.get? b=some o→h'.get? b=some o) (hf:∀ b∈fp,FpOk X pins H b):Inv X pins σ H { s with heap:=h',toks:=t' }:=by
 have nit:∀ b u,H b=some u→b ∉ fp:=fun b u e z=>by rw [(hf b z).1] at e;cases e
 refine I.step (g':=s.gens) (d':=s.drawn) (ch:=fp) (fun b hb=>?_) (fun b o _ _ hc e _=>k b o hc e) (fun b o _ _ hc e _=>⟨o.slots,k b o hc e⟩) (fun _ _ _ _ n=>n)
  (fun b o hc e=>⟨o,k b o hc e⟩) (fun _ _ e=>e) (fun _ _ _ e=>e) (fun b ps e=>⟨#[],by rw [e];simp⟩) (fun m hm=>?_) (fun b u e=>?_) I.bare
 ·obtain ⟨f0,f1,f2,f3,f4,f5⟩:=hf b hb
  exact ⟨f3,f1,f4,f5⟩
 ·obtain ⟨o,es,ep,ho,r⟩:=hm
  exact ⟨o,es,ep,k _ o (fun z=>(hf _ z).2.1 rfl) ho,r⟩
 ·refine (I.hok b u e).stay (fun c v hc q=>k c v ?_ q) (fun _ q=>q) fun _ _ q=>q
  rcases hc with z | z
  ·rw [z];exact nit b u e
  ·exact nit c _ z
end
def Ite (K:xFr) (a:Addr):It :=
 ⟨fun i H=>∃ xs x,SqL K H a xs∧xs[i]?=some x,fun i H x H'=>∃ (p:Addr) (v:V),x = .ref p∧H p=none∧H'=upd H p (.tup [.int i,v])∧∀ xs,SqL K H a xs→xs[i]?=some v,fun i H=>∃ xs,SqL K H a xs∧xs.length≤i⟩
theorem lT {P:Program} {w:World} {K:xFr} {elts:List Expr} {k:Nat} {pos:Pos} (a it e:Addr) (hne:e≠it):Turn P w K (.Tuple elts k pos) (Ite K a) [e,it] e (fun i h=>(∃ old,IsEnum h e it (i:Nat) old)∧h.IsListIter it a i) where
 mem:=by simp
 obj:=fun i h st b hb=>by
  obtain ⟨⟨old,q1⟩,o,q2,c,d⟩:=st
  simp only [xAv,xBv,or_false] at hb
  rcases hb with rfl | rfl
  ·exact ⟨_,q1,fun v z=>by cases z⟩
  ·exact ⟨o,q2,fun v z=>by rw [d] at z;cases z⟩
 keep:=fun i h h' st k=>⟨let ⟨old,q⟩:=st.1;⟨old,k e (by simp) _ q⟩,st.2.at fun o e'=>k it (by simp) o e'⟩
 item:=by
  intro X hP hw hK hc i pins s σ H E I hf st hg
  subst hP hw hK
  obtain ⟨xs,x,hq,hx⟩:=hg
  obtain ⟨its,rv,p,hz⟩:=I.list hq
  obtain ⟨u,hu,ru⟩:=rv.get hx
  obtain ⟨⟨old,he⟩,hit⟩:=st
  refine wpAny_pyNext_enum_item he hit p.isList (x:=u) (by simpa using hu) hne fun h1 ho hit1 hT hsz hk=>?_
  have hel:e<s.heap.objs.size:=xA1 he
  have hil:it<s.heap.objs.size:=by obtain ⟨_,z,_⟩:=hit;exact xA1 z
  have h0:H s.heap.objs.size=none:=I.hok.fresh (xAg _)
  have I1:Inv X pins σ (upd H s.heap.objs.size (.tup [.int i,x])) { s with heap:=s.heap.push { cls:=.type "tuple",data:=.seq #[.int i s.toks,u] },toks:=s.toks+1 }:=by
   refine I.laid (fun b o e=>xAf _ e) (xAg _) ⟨by simp [sizeLine_eq],[.int i s.toks,u],.cons ⟨_,rfl⟩ (.cons ru .nil),_,xAl _ rfl,rfl,_,rfl⟩
  refine ⟨_,rfl,wpAny_letOwnedTupleGo_enum (s:={ s with heap:=h1,toks:=s.toks+1 }) ho fun h2 he2 hs2=>?_⟩
  have hs2':Heap.SameBut e h1 h2:=hs2
  have fp':∀ b∈[e,it],FpOk X pins (upd H s.heap.objs.size (.tup [.int i,x])) b:=fun b hb=>by
   obtain ⟨f0,f⟩:=hf b hb
   refine ⟨?_,f⟩
   rw [am]
   ·exact f0
   ·simp only [xAv,xBv,or_false] at hb
    rcases hb with rfl | rfl
    ·exact xA0 hel
    ·exact xA0 hil
  have I2:=Inv.turnedL (t':=s.toks+1) (h':=h2) (fp:=[e,it]) I1 (fun b o hb eb=>?_) fp'
  ·refine ⟨.ref s.heap.objs.size,_,I2,rfl,⟨_,x,rfl,h0,rfl,fun ys hy=>by rw [I.list_inj hy hq];exact hx⟩,⟨⟨_,by simpa using he2⟩,hit1.at fun o z=>(hs2'.2 it hne.symm).trans z⟩,fun b hb=>(fp' b hb).1⟩
  ·simp only [xAv,xBv,or_false,not_or] at hb
   rw [hs2'.2 b hb.1]
   by_cases z:b=s.heap.objs.size
   ·subst z
    rw [hT]
    rw [← eb]
    exact (xAl _ rfl).symm
   ·refine hk b o hb.1 hb.2 ?_
    exact (Heap.get?_push_cases eb).elim (fun y=>absurd y.1 z) id
 done:=by
  intro X hP hw hK hc i pins s σ H E I hf st hg
  subst hP hw hK
  obtain ⟨xs,hq,hx⟩:=hg
  obtain ⟨its,rv,p,hz⟩:=I.list hq
  obtain ⟨f0,f1,f2,f3,f4,f5⟩:=hf it (by simp)
  have hl:=rv.length
  obtain ⟨⟨old,he⟩,hit⟩:=st
  exact wpAny_pyNext_enum_end (I.ok.hd hc) he hit p.isList (by simp;lia) fun h' eb=>⟨rfl,I.turned (t':=s.toks) (fun b o hb e=>eb b o hb e) f0 f1 f3 f4 f5⟩
 self:=fun _ _ _ _ _ st h=>let ⟨⟨old,he⟩,_⟩:=st;wpAny_pyIter_enum he h
theorem mP:bootBuiltins "enumerate"=some (.type "enumerate"):=by decide +kernel
section
variable {X:Cx}
def iEnum (K:xFr) (ta:TA):TI:=fun σ H R=>ta σ H fun vs H1=>∃ a,vs=[.ref a]∧(∃ xs,SqL K H1 a xs)∧R (Ite K a) H1
theorem qB {a:Expr} {ta:TA} {p pos pt:Pos} {elts:List Expr} {k:Nat} (hg:Gl X "enumerate") (hm:X.mg "enumerate"=none) (ha:PA X [a] ta) (hs:starEach [a] X.env=[(false,eval a X.env)]:=by rfl):PI X (.Tuple elts k pt) (.Call (.Name "enumerate" p) [a] [] pos) (iEnum X.K ta):=by
 intro pins s σ H R I h
 refine Call_ (dM I hg hm mP (PyProof.Rows.callWith_type1 (thn (ha pos pins s σ H _ I h) fun us s1 ⟨vs,H1,I1,r1,q1⟩=>?_) hs rfl))
 obtain ⟨l,e,⟨xs,hq⟩,q⟩:=q1
 subst e
 cases r1 with
 | cons r rr =>
  cases rr
  cases r
  obtain ⟨its,rv,pl,hz⟩:=I1.list hq
  refine call_enumerate_list pl.isList fun h' he hit hsz hk=>?_
  refine wpAny_pyIter_enum he ?_
  have I2:Inv X pins σ H1 { s1 with heap:=h' }:=I1.kept (t':=s1.toks) hk
  refine ⟨s1.heap.objs.size+1,[s1.heap.objs.size+1,s1.heap.objs.size],_,_,H1,rfl,I2,lT l _ _ (Nat.succ_ne_self _),⟨⟨_,he⟩,hit⟩,fun b hb=>?_,q⟩
  have hb':s1.heap.objs.size≤b:=by
   simp only [xAv,xBv,or_false] at hb
   rcases hb with rfl | rfl
   ·exact Nat.le_succ _
   ·exact xAg _
  exact I1.fpOk hb' (I1.hok.fresh hb')
theorem i9 {e:Expr} {tas:TA} {p pos pt:Pos} {elts:List Expr} {k:Nat} (hg:Gl X "enumerate") (hm:X.mg "enumerate"=none) (ha:QA X [e] tas) (h:noStar e=true:=by rfl):QI X (.Tuple elts k pt) (.Call (.Name "enumerate" p) [e] [] pos) (iEnum X.K tas):=⟨qB hg hm ha.h (by rw [ay h];rfl)⟩
end
def nIterE (K:xFr) (vs:List V) (H:Hp) (R:It→Hp→Prop):Prop:=∃ a,vs=[.ref a]∧(∃ xs,SqL K H a xs)∧R (Ite K a) H
theorem wI {K:xFr} {tas:TA} {σ:St} {H:Hp} {R:It→Hp→Prop} (h:tas σ H fun vs H1=>nIterE K vs H1 R):iEnum K tas σ H R:=h
theorem pY {K:xFr} {H:Hp} {R:It→Hp→Prop} {a:Addr} {xs:List V} (e:H a=some (.lst xs)) (h:R (Ite K a) H):nIterE K [.ref a] H R:=⟨a,rfl,⟨xs,.of e⟩,h⟩
theorem kh {K:xFr} {a:Addr} {xs:List V}:Wk (Ite K a) (fun H=>SqL K H a xs) xs.length (fun i H x H'=>∃ (p:Addr) (v:V),x = .ref p∧H p=none∧H'=upd H p (.tup [.int i,v])∧xs[i]?=some v) :=
 ⟨fun i H p h=>⟨xs,xs[i],p,by simp [h]⟩,fun i H x H' p h ⟨q,v,y1,y2,y3,y4⟩=>⟨q,v,y1,y2,y3,y4 xs p⟩,fun H p=>⟨xs,p,xAg _⟩⟩
end L2
namespace L2
open PySem PySem.Spec PyProof.Rows SetA
def Sis (w:World) (H:Hp) (p:Addr) (ks:List Int):Prop:=H p=some (SetO w p ks)
def cSortedS (w:World):List V→Hp→VK→Prop:=fun xs H Q=>∃ (p:Addr) (ks:List Int),xs=[.ref p]∧H p=some (SetO w p ks)∧Bnd ks ∧
  ∀ (l:Addr) (ns':List Int),H l=none→ks.Nodup→ns'.Perm ks→ns'.Pairwise (·≤·)→Q (.ref l) (upd H l (.lst (ns'.map V.int)))
section
variable {X:Cx}
theorem ka (hc:X.calm=true):CallR X (.builtin "sorted") (cSortedS X.w):=iE hc
end
section
variable {w:World} {K:xFr} {H:Hp} {Q:VK} {p q:Addr} {ns ks1 ks2 ks:List Int}
theorem lZ (e:Sis w H p ks) (b:Bnd ks) (h:∀ (l:Addr) (ns':List Int) (H2:Hp),Same H H2→H l=none→H2 l=some (.lst (ns'.map V.int))→ns'.Pairwise (·<·)→(∀ z,z∈ns'↔z∈ks)→Q (.ref l) H2):cSortedS w [.ref p] H Q :=
 ⟨p,ks,rfl,e,b,fun l ns' hl nd pm pw=>h l ns' _ (aw hl _) hl ah (pQ pw (pm.nodup_iff.mpr nd)) fun z=>pm.mem_iff⟩
end
end L2
namespace L2
open PySem PySem.Spec PyProof.Rows PySem.AutoSeq1
theorem kL {X:Cx} {K:xFr} {es:List Expr} {gs:TGs} {pos:Pos} {k:Nat} (e:X.K=K) (hc:X.calm=true) (h:QGs X es gs) (hs:es.all noStar=true:=by rfl):QG X (.Tuple es k pos) (gTup K es.length gs):=by
 subst e
 exact ee hc h hs
end L2
namespace RevA
open PySem PySem.Spec PyProof.Rows
end RevA
namespace L2
open PySem PySem.Spec PyProof.Rows
end L2
namespace RevA
open PySem PySem.Spec PyProof.Rows
end RevA
namespace L2
open PySem PySem.Spec PyProof.Rows RevA
end L2
namespace RevA
open PySem PySem.Spec PyProof.Rows
open AutoSeq1 (wpAny_loadPart')
def tiObj (t:Addr):Obj:={ cls:=.type "tuple_iterator",data:=.fields #[.ref t,.int 0 0] }
section
variable {prog:Program} {w:World} {A:Around} {E:Value→Shared→Prop} {s:Shared}
theorem jU {it t:Addr} {i:Nat} {xs:Array Value} {x:Value} {Q:Value→Shared→Prop} (hit:s.heap.IsTupleIter it t i) (hl:s.heap.IsTuple t xs) (hx:xs[i]?=some x)
  (q:∀ h',h'.IsTupleIter it t (i+1)→Heap.SameBut it s.heap h'→Q x { s with heap:=h' }):wpAny (model prog w) A (Builtin.SmallTypes.nextOf (.ref it)) Q E s:=by
 obtain ⟨o,ho,hc,hd⟩:=id hit
 obtain ⟨ol,hol,_,nl,hdl⟩:=hl
 unfold Builtin.SmallTypes.nextOf
 refine xAd (wpAny_callSpecial?_slot (name:=Str.ofString "__next__") hit.typeIs PySem.F.slot_tuple_iterator_next (wpAny_call_entry PySem.F.slot_tuple_iterator_next hit.typeIs PySem.F.entry_tuple_iterator_next ?_ (PySem.F.args_tuple_iterator_next_1 _)))
 change wpAny _ _ (field (.ref it) 0 >>= _) _ _ s
 refine xAd (wpAny_field ho hd (x:=.ref t) rfl ?_)
 change wpAny _ _ (if (Value.ref t == Value.none)=true then _ else _) _ _ s
 rw [xCf (show ¬ ((Value.ref t == Value.none)=true) from xAy)]
 change wpAny _ _ (field (.ref it) 1 >>= _) _ _ s
 refine xAd (wpAny_field ho hd (x:=.int i 0) rfl ?_)
 change wpAny _ _ (seqItems? (.ref t) >>= _) _ _ s
 refine xAd (wpAny_seqItems hol hdl ?_)
 simp only [Int.toNat_natCast,hx]
 refine xAd (wpAny_setField ho hd (by simp) (xAe ⟨x,rfl,xAe (q _ ?_ (xB5 ..))⟩))
 exact ⟨_,xA7 _ ho (Obj.isFreed_of_fields (Obj.data_mapFields hd _)),(Obj.cls_mapFields ..).trans hc,by rw [Obj.data_mapFields hd];simp [rawInt]⟩
theorem mq {it t:Addr} {i:Nat} {xs:Array Value} {Q:Value→Shared→Prop} (hh:A.handled=none) (hit:s.heap.IsTupleIter it t i) (hl:s.heap.IsTuple t xs) (hx:xs[i]?=none)
  (q:∀ h' e,Heap.ExtBut it s.heap h'→(∃ o,h'.get? e=some o∧o.cls = .type "StopIteration")→E (.ref e) { s with heap:=h' }):wpAny (model prog w) A (Builtin.SmallTypes.nextOf (.ref it)) Q E s:=by
 obtain ⟨o,ho,hc,hd⟩:=id hit
 obtain ⟨ol,hol,_,nl,hdl⟩:=hl
 unfold Builtin.SmallTypes.nextOf
 refine xAd (wpAny_callSpecial?_slot (name:=Str.ofString "__next__") hit.typeIs PySem.F.slot_tuple_iterator_next (wpAny_call_entry PySem.F.slot_tuple_iterator_next hit.typeIs PySem.F.entry_tuple_iterator_next ?_ (PySem.F.args_tuple_iterator_next_1 _)))
 change wpAny _ _ (field (.ref it) 0 >>= _) _ _ s
 refine xAd (wpAny_field ho hd (x:=.ref t) rfl ?_)
 change wpAny _ _ (if (Value.ref t == Value.none)=true then _ else _) _ _ s
 rw [xCf (show ¬ ((Value.ref t == Value.none)=true) from xAy)]
 change wpAny _ _ (field (.ref it) 1 >>= _) _ _ s
 refine xAd (wpAny_field ho hd (x:=.int i 0) rfl ?_)
 change wpAny _ _ (seqItems? (.ref t) >>= _) _ _ s
 refine xAd (wpAny_seqItems hol hdl ?_)
 simp only [Int.toNat_natCast,hx]
 refine xAd (wpAny_rule (xAd (wpAny_setField ho hd (by simp) ?_)))
 change wpAny _ _ (newExc (.type "StopIteration") [] >>= _) _ _ _
 refine xAd ?_
 simp only [newExc,newTuple]
 refine xAd (xBl ?_ (by size_fits))
 refine xAd (m:=firstArgMember _ _) (wpAny_of_eq (a:=Value.none) (by first | rfl | (simp only [firstArgMember];rfl)) ?_)
 refine xBl ?_ (by size_fits)
 simp only [raiseNew]
 refine xAd (wpAny_handled ?_)
 first | rw [show A.in1.handled=none from hh] | rw [hh]
 refine xAd (xAe (wpAny_throw ?_))
 exact q _ _ (((xB5 ..).extBut.push _).push _) ⟨_,xAl _ rfl,rfl⟩
end
theorem drawsT {prog:Program} {w:World} {A:Around} (hh:A.handled=none) (it l:Addr) (hne:l≠it) (xs:Array Value) :
  Draws prog w A it [it,l] xs.size (fun i v=>xs[i]?=some v) (fun i h=>h.IsTupleIter it l i∧h.IsTuple l xs) where
 live:=fun _ _ st=>let ⟨o,ho,_⟩:=st.1;⟨o,ho⟩
 frame:=fun _ _ _ st hk=>⟨st.1.at fun o e=>hk it (by simp) o e,st.2.at fun o e=>hk l (by simp) o e⟩
 item:=fun i s Q E hi st hQ=>by
  refine jU st.1 st.2 (x:=xs[i]) (by simp [hi]) fun h' hit' hs'=>?_
  exact hQ _ h' s.toks (by simp [hi]) ⟨hit',st.2.extBut hs'.extBut hne⟩ hs'
 done:=fun s Q E st hE=>mq hh st.1 st.2 (by simp) hE
end RevA
namespace L2
open PySem PySem.Spec PyProof.Rows RevA
end L2
namespace SetA
open PySem PySem.Spec PySem.SetTable PyProof.Rows
section
variable {prog:Program} {w:World} {A:Around} {E:Value→Shared→Prop} {s:Shared}
theorem set_tuple {l:Addr} {items:Array Value} {ns:List Int} {Q:Value→Shared→Prop}
  (hh:A.handled=none) (hl:s.heap.IsTuple l items) (hi:IntsAre items.toList ns) (hb:Bnd ns)
  (h:∀ (h':Heap) (tk:Nat) (ks:List Int),SetIs w h' s.heap.objs.size ks→(∀ x,x∈ks↔x∈ns) →
   (∀ b o,s.heap.get? b=some o→h'.get? b=some o)→s.toks≤tk→Q (.ref s.heap.objs.size) { s with heap:=h',toks:=tk }) :
  wpAny (model prog w) A (call (.type "set") [.ref l]) Q E s:=by
 obtain ⟨c,tl,hmro⟩:=PySem.F.called_set.mro
 have hmade:=PySem.F.called_set.made
 have hsub:=PySem.F.called_set.sub
 have hlen:items.size=ns.length:=by rw [← hi.length,xAh]
 refine wpAny_call (codeAny_of_tree ?_)
 change wpAny _ _ (callAny (.type "set") _) _ _ _
 refine xAe ⟨Code.quiet_builtin _ (by decide +kernel),codeAny_builtin PySem.F.entry_type_call ?_⟩
 rw [Around.under_plain (weight_type_call_type "set" [.ref l] []) rfl]
 have q1:=PySem.F.called_set.notType
 have q2:=PySem.F.called_set.canCreate
 have q3:=PySem.F.typeCall_set_1 (.ref l)
 repeat (any_goals (first | assumption | wp_step))
 refine codeAny_mono (q0 (.ref l) (E:=E) (Q₁:=fun obj s₁=>∃ led:Bool,(led=true∨w.params.followText "set-order"=true)∧obj = .ref s.heap.objs.size∧s₁={ s with heap:=s.heap.push (setObj #[] 0 (.fresh 0 0 led)) }) fun led hld=>⟨led,hld,rfl,rfl⟩) fun r s₁ hr=>?_
 cases r with
 | error e=>exact hr
 | ok fl =>
  cases fl with
  | ret obj =>
   obtain ⟨led,hld,rfl,rfl⟩:=hr
   have P0:=oU (w:=w) led hld s.heap
   have hT:Shared.TypeIs { s with heap:=s.heap.push (setObj #[] 0 (.fresh 0 0 led)) } (.ref s.heap.objs.size) "set":=⟨_,P0.ob,rfl⟩
   have hli:=PySem.F.called_set.init.lookup
   have hbi:=PySem.F.called_set.init.bind (.ref s.heap.objs.size)
   repeat (any_goals (first | assumption | wp_step))
   refine codeAny_mono (codeAny_call_builtin (R:=wants (fun r s₂=>r = .none∧∃ h' tk ks,s₂={ s with heap:=h',toks:=tk }∧SetIs w h' s.heap.objs.size ks∧(∀ x,x∈ks↔x∈ns) ∧
     (∀ b o,s.heap.get? b=some o→h'.get? b=some o)∧s.toks≤tk) E) PySem.F.called_set.init.plain PySem.F.entry_set_init (check_set_init_1 hT ?_)) fun r₂ s₂ hr₂=>?_
   ·obtain ⟨ol,hol,hcl,nl,hdl⟩:=hl
    obtain ⟨ocls,odict,odata,oslots⟩:=ol
    simp only at hcl hdl
    subst hcl;subst hdl
    have hol1:(s.heap.push (setObj #[] 0 (.fresh 0 0 led))).get? l=some { cls:=.type "tuple",dict:=odict,data:=.seq items nl,slots:=oslots }:=xAf _ hol
    have q4:=PySem.F.sub_tuple_set
    have q5:=PySem.F.sub_tuple_frozenset
    have q6:(Value.type "tuple" == Value.type "dict")=false:=by decide
    have hl1:(s.heap.push (setObj #[] 0 (.fresh 0 0 led))).IsTuple l items:=⟨_,hol1,rfl,nl,rfl⟩
    unfold Builtin.«set.__init__» noKeywords Builtin.Frozenset.updateFrom
    generalize hPI:pyIter=PI
    wp_walk
    subst hPI
    refine wpAny_pyIter_tuple hl1 ?_
    refine xAd (wpAny_runValue ?_)
    have hlS:l<s.heap.objs.size:=xA1 hol
    have hh3:A.in1.in1.in1.handled=none:=by simp [hh]
    have hneI:l≠(s.heap.push (setObj #[] 0 (.fresh 0 0 led))).objs.size:=by
     rw [Heap.size_push]
     exact xA0 (Nat.lt_succ_of_lt hlS)
    have hSf:s.heap.objs.size ∉ [(s.heap.push (setObj #[] 0 (.fresh 0 0 led))).objs.size,l]:=by
     rw [Heap.size_push]
     simp only [xAv,xBv,or_false,not_or]
     exact ⟨xA0 (Nat.lt_succ_self _),Nat.ne_of_gt hlS⟩
    have hval:∀ (i:Nat) (v:Value),items[i]?=some v→∃ t,v = .int ((fun i=>ns.getD i 0) i) t:=fun i v hv =>
     IntsAre.int_at hi i v (by rw [Array.getElem?_toList];exact hv)
    refine mG ((Walks.tuple hh3 _ l hneI items).toS) s.heap.objs.size hSf (fun i=>ns.getD i 0) hval (fun i hi=>?hB) (items.size - 0) 0 _ [] (by lia) (xBn _)
     ⟨⟨_,xAl _ rfl,rfl,rfl⟩,(hl1.push _)⟩ ⟨_,_,_,P0.at' fun o e=>xAf _ e⟩ (fun x=>by simp) ?hR
    case hB =>
     refine hb _ ?_
     rw [xBz,xAk (by lia)]
     exact List.getElem_mem _
    case hR =>
     intro s' ks' mv d1 d2
     obtain ⟨h',g',d',tk',os'⟩:=s'
     have eg:g'=s.gens:=mv.gens
     have ed:d'=s.drawn:=mv.drawn
     have eo:os'=s.os:=mv.os
     have et:s.toks≤tk':=mv.toks
     subst eg;subst ed;subst eo
     change wpAny _ _ _ _ _ _
     refine xAe ?_
     change wpAny _ _ (ret Value.none) _ _ _
     refine xAe ⟨rfl,h',tk',ks',rfl,d1,fun x=>?_,fun b o e=>?_,et⟩
     ·rw [d2,List.mem_iff_getElem]
      constructor
      ·rintro ⟨j,z1,z2⟩
       refine ⟨j,by lia,?_⟩
       rw [← z2,xBz,xAk (by lia)]
       rfl
      ·rintro ⟨j,z1,z2⟩
       refine ⟨j,by lia,?_⟩
       rw [← z2,xBz,xAk (by lia)]
       rfl
     ·have hb0:=xA1 e
      have hb1:b≠s.heap.objs.size:=xA0 hb0
      have hb2:b≠(s.heap.push (setObj #[] 0 (.fresh 0 0 led))).objs.size:=by
       rw [Heap.size_push]
       exact xA0 (Nat.lt_succ_of_lt hb0)
      exact mv.heap b o (by simp only [xAv,xBv,or_false,not_or];exact ⟨hb1,hb2⟩) (xAf _ (xAf _ e))
   ·cases r₂ with
    | error e=>exact hr₂
    | ok fl₂ =>
     cases fl₂ with
     | ret r =>
      obtain ⟨rfl,h',tk,ks,rfl,z1,z2,z4,z5⟩:=hr₂
      repeat (any_goals (first | assumption | wp_step))
      exact h _ _ _ z1 z2 z4 z5
     | _=>exact hr₂.elim
  | _=>exact hr.elim
end
end SetA
namespace SetA
open PySem PySem.Spec PySem.SetTable PyProof.Rows
end SetA
namespace L2
open PySem PySem.Spec PyProof.Rows SetA
def cSetT (w:World) (K:xFr):List V→Hp→VK→Prop:=fun xs H Q=>∃ (p:Addr) (ns:List Int),xs=[.ref p]∧SqT K H p (ns.map V.int)∧Bnd ns ∧
  ∀ (l:Addr) (ks:List Int),H l=none→ks.Nodup→(∀ z,z∈ks↔z∈ns)→Q (.ref l) (upd H l (SetO w l ks))
section
variable {X:Cx}
theorem lB (hc:X.calm=true):CallR X (.type "set") (cSetT X.w X.K):=by
 intro pins s σ H xs us Q I r h
 obtain ⟨p,ns,rfl,hS,hl,h⟩:=h
 obtain ⟨u,rfl,ru⟩:=vals1 r
 obtain rfl:u=Value.ref p:=ru
 obtain ⟨its,r1,t1,z1⟩:=I.tuple hS
 refine SetA.set_tuple (I.ok.hd hc) (show s.heap.IsTuple p its.toArray from t1) (ge r1) hl fun h' tk ks c1 c2 c4 c5=>?_
 exact pO (tk:=tk) I c4 c1 fun hf=>h _ ks hf (let ⟨_,_,_,z⟩:=c1;z.nd) c2
end
section
variable {w:World} {K:xFr} {H:Hp} {Q:VK} {p q:Addr} {ns ks1 ks2 ks:List Int}
theorem nC (e:H p=some (.tup (ns.map V.int))) (b:Bnd ns) (h:∀ (l:Addr) (ks:List Int) (H2:Hp),Same H H2→H l=none→Sis w H2 l ks→ks.Nodup→(∀ z,z∈ks↔z∈ns)→Q (.ref l) H2):cSetT w K [.ref p] H Q :=
 ⟨p,ns,rfl,.of e,b,fun l ks hl nd m=>h l ks _ (aw hl _) hl ah nd m⟩
end
end L2
namespace L2
open PySem PySem.Spec PyProof.Rows
theorem sV {K:xFr} {H:Hp} {Q:VK} {a b:Addr} {xs ys:List V} (e1:H a=some (.tup xs)) (e2:H b=some (.tup ys)) (hl:xs.length+ys.length≤sizeLine) (h:∀ p H2,Same H H2→H2 p=some (.tup (xs++ys))→Q (.ref p) H2):rCatA K (.ref a) (.ref b) H Q:=⟨a,b,xs,ys,rfl,rfl,e1,e2,hl,h⟩
theorem kA {K:xFr} {H:Hp} {Q:VK} {p:Addr} {xs:List V} {lo hi:Option Int} (e:H p=some (.tup xs)) (nw:¬ (HT.sIx xs.length 0 lo=0∧HT.sIx xs.length xs.length hi=xs.length)) (h:∀ l H2,Same H H2→H l=none→H2 l=some (.tup (cutV xs lo hi))→Q (.ref l) H2):rSlT K (.ref p) lo hi H Q :=
 ⟨p,xs,rfl,.of e,nw,fun l hl=>h l _ (aw hl _) hl ah⟩
end L2
namespace L2
open PySem PySem.Spec PyProof.Rows
end L2
namespace L2
open PySem PySem.Spec PyProof.Rows
theorem len1 {α:Type} {us:List α} (h:us.length=1):∃ x0,us=[x0]:=by
 cases us with
 | nil=>cases h
 | cons a r =>
  cases r with
  | nil=>exact ⟨a,rfl⟩
  | cons b r=>cases h
theorem len2 {α:Type} {us:List α} (h:us.length=2):∃ x0 x1,us=[x0,x1]:=by
 cases us with
 | nil=>cases h
 | cons a r =>
  obtain ⟨x1,rfl⟩:=len1 (Nat.succ.inj h)
  exact ⟨a,x1,rfl⟩
theorem len3 {α:Type} {us:List α} (h:us.length=3):∃ x0 x1 x2,us=[x0,x1,x2]:=by
 cases us with
 | nil=>cases h
 | cons a r =>
  obtain ⟨x1,x2,rfl⟩:=len2 (Nat.succ.inj h)
  exact ⟨a,x1,x2,rfl⟩
theorem len4 {α:Type} {us:List α} (h:us.length=4):∃ x0 x1 x2 x3,us=[x0,x1,x2,x3]:=by
 cases us with
 | nil=>cases h
 | cons a r =>
  obtain ⟨x1,x2,x3,rfl⟩:=len3 (Nat.succ.inj h)
  exact ⟨a,x1,x2,x3,rfl⟩
theorem len5 {α:Type} {us:List α} (h:us.length=5):∃ x0 x1 x2 x3 x4,us=[x0,x1,x2,x3,x4]:=by
 cases us with
 | nil=>cases h
 | cons a r =>
  obtain ⟨x1,x2,x3,x4,rfl⟩:=len4 (Nat.succ.inj h)
  exact ⟨a,x1,x2,x3,x4,rfl⟩
theorem len6 {α:Type} {us:List α} (h:us.length=6):∃ x0 x1 x2 x3 x4 x5,us=[x0,x1,x2,x3,x4,x5]:=by
 cases us with
 | nil=>cases h
 | cons a r =>
  obtain ⟨x1,x2,x3,x4,x5,rfl⟩:=len5 (Nat.succ.inj h)
  exact ⟨a,x1,x2,x3,x4,x5,rfl⟩
end L2
namespace L2
open PySem PySem.Spec PyProof.Rows
end L2
namespace L2
open PySem PySem.Spec PyProof.Rows
end L2
namespace L2
open PySem PySem.Spec PyProof.Rows
end L2
namespace L2
open PySem
end L2
namespace L2
open PySem PySem.Spec PyProof.Rows SetA
theorem pR {k:Key} {v:Value} (h:keyIs k v=true):RelV (kV k) v:=by
 rcases aP h with ⟨i,t,rfl,rfl⟩ | ⟨x,t,rfl,rfl⟩
 ·exact ⟨t,rfl⟩
 ·exact ⟨t,rfl⟩
def cLenS (w:World):List V→Hp→VK→Prop:=fun xs H Q=>∃ p ks,xs=[V.ref p]∧Sis w H p ks∧ks.length≤100000∧Q (.int ks.length) H
section
variable {X:Cx} {e tg o:Expr} {te td:TE} {apos cpos:Pos}
theorem rC:CallR X (.builtin "len") (cLenS X.w):=by
 intro pins s σ H xs us Q I r h
 obtain ⟨p,ks,rfl,hS,hl,q⟩:=h
 obtain ⟨u,rfl,ru⟩:=vals1 r
 obtain rfl:u=Value.ref p:=ru
 obtain ⟨es,ep,t,S⟩:=nu I.hok hS
 have hz:=S.size
 have hb:=S.tb.fits
 refine call_len_set S.ob ⟨rfl,rfl,rfl⟩ rfl hb (by rw [hz];have:=hl;lia) ?_
 rw [hz]
 exact ⟨.int ks.length,H,I.tok _,⟨_,rfl⟩,q⟩
end
section
variable {K:xFr} {td te:TE} {σ:St} {H:Hp} {Q:VK} {R:It→Hp→Prop} {v d p a b:Addr} {kvs:List (Key×V)} {xs:List V} {w:World}
theorem sI {ks:List Int} (e:Sis w H p ks) (l:ks.length≤100000) (h:Q (.int ks.length) H):cLenS w [.ref p] H Q:=⟨p,ks,rfl,e,l,h⟩
end
end L2
namespace L2
open PySem
end L2
namespace L2
open PySem PySem.Spec PyProof.Rows
section
variable {P:Program} {w:World} {K:xFr} {mg:Str→Option Value} {base:Heap}
structure Cs (K:xFr) (C:Addr) (fs:List Str):Prop where
 c:Cls K C
 n:∀ f∈fs,NoAttr K C f
structure Mal (P:Program) (w:World) (K:xFr) (mg:Str→Option Value) (base:Heap) (C:Addr) (m:Str) (k:Nat) (ps:List Str) (sp:Sp):Prop where
 c:Cls K C
 ex:∃ (f:Addr) (fd:FuncData),Meth K C m f∧FnOk P w K mg base CX0 k f fd ps sp∧Binds K fd ps []
structure Ini (P:Program) (w:World) (K:xFr) (mg:Str→Option Value) (base:Heap) (C:Addr) (x:Str) (k:Nat) (ps:List Str) (sp:Sp):Prop where
 at':mg x=some (.ref C)
 ex:∃ (f:Addr) (fd:FuncData),Mk K C f∧FnOk P w K mg base CX0 k f fd ps sp∧Binds K fd ps []
structure Dm (K:xFr) (f:Addr) (fd:FuncData) (m qual:Str) (st:Stmt) (ps:List Str):Prop where
 fn:Fun K m qual st f fd
 bd:Binds K fd ps []
theorem Dm.ok {f:Addr} {fd:FuncData} {m qual:Str} {st:Stmt} {sc:Scope} {N ps:List Str} {k:Nat} {sp:Sp} (F:Dm K f fd m qual st ps) (S:FnScope N ps sc) (hsc:defScope st=sc) (len:∀ vs H Q E,sp vs H Q E→vs.length=ps.length)
  (hbody:∀ (f:Addr) (cdv:Value) (A:Around) (outer:List Env) (s:Shared) (H:Hp) (vs:List V) (Q:VK) (E:XK),Room k (A.deeper (envOfC qual sc s.heap.objs.size f cdv))→sp vs H Q E →
   ∃ t,PSs (cxOf CX0 P w K mg base N qual sc f cdv A outer s H E).nox (defBody st) t∧t { nx:=fun _ H'=>Q .non H',rt:=Q } (start N vs) H):FnOk P w K mg base CX0 (k+1) f fd ps sp∧Binds K fd ps []:=by
 subst hsc
 exact ⟨F.fn.ok S len (fun cdv A outer s H vs Q E hr h=>hbody f cdv A outer s H vs Q E hr h),F.bd⟩
end
section
variable {X:Cx} {C:Addr} {m x f:Str} {k k':Nat} {ps:List Str} {sp:Sp} {p pos pos' apos:Pos} {o e value:Expr} {es:List Expr} {t:TA} {ta tv:TE}
theorem bo (ho:QE X o ta) (c:Mal X.prog X.w X.K X.mg X.base C m k ps sp) (hr:Room k' X.A) (ha:QA X (e::es) t) (hk:k≤k':=by lia) (h:(e::es).all noStar=true:=by rfl) (h2:noCall o=true:=by rfl)
  (ht:∃ pl,eval (.Call (.Attribute o m apos) (e::es) [] pos) X.env=(do
   let ov ← eval o X.env
   standAt apos.atName
   let (f,first) ← holding [ov] (getMethod ov m pl)
   callWith pos f first (backTo pos (starEach (e::es) X.env)) (backToKw pos (keywordEach [] X.env))):=by exact ⟨_,rfl⟩):QE X (.Call (.Attribute o m apos) (e::es) [] pos) (tMeth C m sp [] E0 ta t):=by
 obtain ⟨f,fd,h1,h3,h4⟩:=c.ex
 obtain ⟨pl,ht⟩:=ht
 rw [List.all_cons,Bool.and_eq_true] at h
 exact ⟨qE (pl:=pl) ho.h c.c h1 h3 (hr.mono hk) h4 .nil pass0 ha.h (hst:=ay h.1) (hpl:=dc h.2) (ht:=ht)⟩
theorem eX (ho:QE X o ta) (c:Mal X.prog X.w X.K X.mg X.base C m k ps sp) (hr:Room k' X.A) (hk:k≤k':=by lia) (h2:noCall o=true:=by rfl)
  (ht:∃ pl,eval (.Call (.Attribute o m apos) [] [] pos) X.env=(do
   let ov ← eval o X.env
   standAt apos.atName
   let (f,first) ← holding [ov] (getMethod ov m pl)
   callWith pos f first (backTo pos (starEach [] X.env)) (backToKw pos (keywordEach [] X.env))):=by exact ⟨_,rfl⟩):QE X (.Call (.Attribute o m apos) [] [] pos) (tMeth C m sp [] E0 ta tNil):=by
 obtain ⟨f,fd,h1,h3,h4⟩:=c.ex
 obtain ⟨pl,ht⟩:=ht
 exact ⟨jd (pl:=pl) ho.h c.c h1 h3 (hr.mono hk) h4 .nil pass0 (ht:=ht)⟩
theorem uZ (c:Ini X.prog X.w X.K X.mg X.base C x k ps sp) (hr:Room k' X.A) (hg:Gl X x) (ha:QA X (e::es) t) (hk:k+1≤k':=by lia) (h:(e::es).all noStar=true:=by rfl) (hd:(x == ("__debug__":Str))=false:=by decide):QE X (.Call (.Name x p) (e::es) [] pos) (tMake C sp [] E0 t):=by
 obtain ⟨f,fd,h1,h3,h4⟩:=c.ex
 rw [List.all_cons,Bool.and_eq_true] at h
 exact ⟨qF h1 h3 (hr.mono hk) hg c.at' h4 .nil pass0 ha.h (hdb:=hd) (he:=ay h.1) (hpl:=dc h.2)⟩
theorem cB (he:QE X e ta) (h:noCall e=true:=by rfl):QE X (.Attribute e f pos) (tFld X.K ta f):=⟨tQ he.h (iw h)⟩
theorem dZ (ha:QE X o ta) (hv:QE X value tv) (h:noComp value=true:=by rfl):QS X (.Assign [.Attribute o f pos'] value pos) (sFld X.K ta tv f):=⟨tz ha.h hv.h (fF h)⟩
end
section
variable {K:xFr} {σ:St} {H:Hp} {Q:VK} {ta tv:TE} {t:TA} {C a dx:Addr} {fs:List (Str×V)} {f m:Str} {v y:V} {sp:Sp} {E:XK} {Dn:Ends} {ns:List Str}
def nFld (K:xFr) (f:Str) (x:V) (H:Hp) (Q:VK):Prop:=∃ a C dx fs v,x = .ref a∧H a=some (.ins C dx fs)∧Cls K C∧NoAttr K C f∧fs.lookup f=some v∧Q v H
theorem uR (h:ta σ H fun x H1=>nFld K f x H1 Q):tFld K ta f σ H Q:=h
theorem cz (e:H a=some (.ins C dx fs)) (c:Cs K C ns) (hf:f∈ns) (l:fs.lookup f=some v) (h:Q v H):nFld K f (.ref a) H Q:=⟨a,C,dx,fs,v,rfl,e,c.c,c.n f hf,l,h⟩
def nFldS (K:xFr) (f:Str) (x y:V) (H:Hp) (R:Hp→Prop):Prop:=∃ a C dx fs,x = .ref a∧H a=some (.ins C dx fs)∧Cls K C∧NoAttr K C f∧fs.length<1000∧R (upd H a (.ins C dx (putF f y fs)))
theorem sB (h:tv σ H fun y H1=>ta σ H1 fun x H2=>nFldS K f x y H2 fun H3=>Dn.nx σ H3):sFld K ta tv f Dn σ H:=h
theorem dq {R:Hp→Prop} (e:H a=some (.ins C dx fs)) (c:Cs K C ns) (hf:f∈ns) (l:fs.length<1000) (h:R (upd H a (.ins C dx (putF f y fs)))):nFldS K f (.ref a) y H R:=⟨a,C,dx,fs,rfl,e,c.c,c.n f hf,l,h⟩
def nMe (C:Addr) (m:Str) (sp:Sp) (E:XK) (t:TA) (x:V) (σ:St) (H:Hp) (Q:VK):Prop:=∃ a dx fs,x = .ref a∧H a=some (.ins C dx fs)∧fs.lookup m=none∧t σ H fun vs H2=>sp (x::(vs++[])) H2 Q E
theorem wC (h:ta σ H fun x H1=>nMe C m sp E t x σ H1 Q):tMeth C m sp [] E ta t σ H Q:=h
theorem au (e:H a=some (.ins C dx fs)) (l:fs.lookup m=none) (h:t σ H fun vs H2=>sp (.ref a::(vs++[])) H2 Q E):nMe C m sp E t (.ref a) σ H Q:=⟨a,dx,fs,rfl,e,l,h⟩
theorem wB (h:t σ H fun vs H1=>∀ x dx,H1 x=none→H1 dx=none→dx≠x→sp (.ref x::(vs++[])) (upd (upd H1 dx (.own x)) x (.ins C dx [])) (fun v H2=>v = .non∧Q (.ref x) H2) E):tMake C sp [] E t σ H Q:=h
end
end L2
namespace L2
open PySem PySem.Spec PyProof.Rows
def Itz (K:xFr) (a b:Addr):It :=
 ⟨fun i H=>∃ xs ys x y,SqL K H a xs∧SqL K H b ys∧xs[i]?=some x∧ys[i]?=some y,
  fun i H x H'=>∃ (p:Addr) (u v:V),x = .ref p∧H p=none∧H'=upd H p (.tup [u,v])∧(∀ xs,SqL K H a xs→xs[i]?=some u)∧∀ ys,SqL K H b ys→ys[i]?=some v,
  fun i H=>∃ xs ys,SqL K H a xs∧SqL K H b ys∧(xs.length≤i∨ys.length≤i)⟩
theorem nh {P:Program} {w:World} {K:xFr} {elts:List Expr} {k:Nat} {pos:Pos} (a b z TI TO i1 i2:Addr) (D:ZipApart z TI TO i1 i2 a b) :
  Turn P w K (.Tuple elts k pos) (Itz K a b) [z,TI,TO,i1,i2] z (fun i h=>IsZip h z TI TO .none∧IsPair h TI (.ref i1) (.ref i2)∧(∃ x y,IsPair h TO x y)∧h.IsListIter i1 a i∧h.IsListIter i2 b i) where
 mem:=by simp
 obj:=fun i h st c hc=>by
  obtain ⟨q1,q2,⟨x,y,q3⟩,⟨o1,q4,_,d4⟩,o2,q5,_,d5⟩:=st
  simp only [xAv,xBv,or_false] at hc
  rcases hc with rfl | rfl | rfl | rfl | rfl
  ·exact ⟨_,q1,fun v z=>by cases z⟩
  ·exact ⟨_,q2,fun v z=>by cases z⟩
  ·exact ⟨_,q3,fun v z=>by cases z⟩
  ·exact ⟨o1,q4,fun v z=>by rw [d4] at z;cases z⟩
  ·exact ⟨o2,q5,fun v z=>by rw [d5] at z;cases z⟩
 keep:=fun i h h' st k=>by
  obtain ⟨q1,q2,⟨x,y,q3⟩,q4,q5⟩:=st
  exact ⟨k z (by simp) _ q1,k TI (by simp) _ q2,⟨x,y,k TO (by simp) _ q3⟩,q4.at fun o e=>k i1 (by simp) o e,q5.at fun o e=>k i2 (by simp) o e⟩
 item:=by
  intro X hP hw hK hc i pins s σ H E I hf st hg
  subst hP hw hK
  obtain ⟨xs,ys,x,y,hq,hr,hx,hy⟩:=hg
  obtain ⟨its,rv,p,hz⟩:=I.list hq
  obtain ⟨jts,sv,p2,hz2⟩:=I.list hr
  obtain ⟨u,hu,ru⟩:=rv.get hx
  obtain ⟨v,hv,rw'⟩:=sv.get hy
  obtain ⟨q1,q2,⟨x0,y0,q3⟩,q4,q5⟩:=st
  have lz:z<s.heap.objs.size:=xA1 q1
  have lI:TI<s.heap.objs.size:=xA1 q2
  have lO:TO<s.heap.objs.size:=xA1 q3
  have l1:i1<s.heap.objs.size:=by obtain ⟨_,e,_⟩:=q4;exact xA1 e
  have l2:i2<s.heap.objs.size:=by obtain ⟨_,e,_⟩:=q5;exact xA1 e
  have h0:H s.heap.objs.size=none:=I.hok.fresh (xAg _)
  refine wpAny_pyNext_zip_item D q1 q2 q3 q4 q5 p.isList p2.isList (x:=u) (y:=v) (by simpa using hu) (by simpa using hv) fun h1 a1 a2 a3 a4 a5 a6 hk=>?_
  have I1:Inv X pins σ (upd H s.heap.objs.size (.tup [x,y])) { s with heap:=s.heap.push { cls:=.type "tuple",data:=.seq #[u,v] },toks:=s.toks }:=by
   refine I.laid (fun b o e=>xAf _ e) (xAg _) ⟨by simp [sizeLine_eq],[u,v],.cons ru (.cons rw' .nil),_,xAl _ rfl,rfl,_,rfl⟩
  refine ⟨_,rfl,wpAny_letOwnedTupleGo_zip (s:={ s with heap:=h1 }) a1 fun h2 b1 hs2=>?_⟩
  have hs2':Heap.SameBut z h1 h2:=hs2
  have fp':∀ b∈[z,TI,TO,i1,i2],FpOk X pins (upd H s.heap.objs.size (.tup [x,y])) b:=fun b hb=>by
   obtain ⟨f0,f⟩:=hf b hb
   refine ⟨?_,f⟩
   rw [am]
   ·exact f0
   ·simp only [xAv,xBv,or_false] at hb
    rcases hb with rfl | rfl | rfl | rfl | rfl <;> exact xA0 (by assumption)
  have I2:=Inv.turnedL (t':=s.toks) (h':=h2) (fp:=[z,TI,TO,i1,i2]) I1 (fun b o hb eb=>?_) fp'
  ·refine ⟨.ref s.heap.objs.size,_,I2,rfl,⟨_,x,y,rfl,h0,rfl,fun ys hy=>by rw [I.list_inj hy hq];exact hx,fun ys hy'=>by rw [I.list_inj hy' hr];exact hy⟩,⟨b1,?_,⟨u,v,?_⟩,?_,?_⟩,fun b hb=>(fp' b hb).1⟩
   ·exact (hs2'.2 TI D.TIz).trans (hk _ _ D.TIz D.TITO D.TIi1 D.TIi2 q2)
   ·exact (hs2'.2 TO D.TOz).trans a2
   ·exact a3.at fun o e=>(hs2'.2 i1 D.i1z).trans e
   ·exact a4.at fun o e=>(hs2'.2 i2 D.i2z).trans e
  ·simp only [xAv,xBv,or_false,not_or] at hb
   rw [hs2'.2 b hb.1]
   by_cases zz:b=s.heap.objs.size
   ·subst zz
    rw [show h1.get? s.heap.objs.size=_ from a5]
    rw [← eb]
    exact (xAl _ rfl).symm
   ·refine hk b o hb.1 hb.2.2.1 hb.2.2.2.1 hb.2.2.2.2 ?_
    exact (Heap.get?_push_cases eb).elim (fun y=>absurd y.1 zz) id
 done:=by
  intro X hP hw hK hc i pins s σ H E I hf st hg
  subst hP hw hK
  obtain ⟨xs,ys,hq,hr,hx⟩:=hg
  obtain ⟨its,rv,p,hz⟩:=I.list hq
  obtain ⟨jts,sv,p2,hz2⟩:=I.list hr
  have hl:=rv.length
  have hl2:=sv.length
  obtain ⟨q1,q2,⟨x0,y0,q3⟩,q4,q5⟩:=st
  refine wpAny_pyNext_zip_end (I.ok.hd hc) D q1 q2 q3 q4 q5 p.isList p2.isList ?_ fun h' eb=>⟨rfl,Inv.turnedL (t':=s.toks) (fp:=[z,TI,TO,i1,i2]) I (fun b o hb e=>?_) hf⟩
  ·rcases hx with h | h
   ·exact .inl (by simp;lia)
   ·exact .inr (by simp;lia)
  ·simp only [xAv,xBv,or_false,not_or] at hb
   exact eb b o hb.1 hb.2.2.1 hb.2.2.2.1 hb.2.2.2.2 e
 self:=fun _ _ _ _ _ st h=>wpAny_pyIter_zip st.1 h
theorem lP (n l l2:Nat) (h1:l<n) (h2:l2<n):ZipApart (n+4) (n+2) (n+3) n (n+1) l l2:=by
 constructor <;> first | exact xA0 (by lia) | exact Nat.ne_of_gt (by lia)
theorem jD:bootBuiltins "zip"=some (.type "zip"):=by decide +kernel
section
variable {X:Cx}
def nIterZ (K:xFr) (vs:List V) (H:Hp) (R:It→Hp→Prop):Prop:=∃ a b,vs=[.ref a,.ref b]∧(∃ xs,SqL K H a xs)∧(∃ ys,SqL K H b ys)∧R (Itz K a b) H
def iZip (K:xFr) (ta:TA):TI:=fun σ H R=>ta σ H fun vs H1=>nIterZ K vs H1 R
theorem tE {a b:Expr} {ta:TA} {p pos pt:Pos} {elts:List Expr} {k:Nat} (hg:Gl X "zip") (hm:X.mg "zip"=none) (ha:PA X [a,b] ta) (hs:starEach [a,b] X.env=(false,eval a X.env)::starEach [b] X.env) (hs2:starEach [b] X.env=[(false,eval b X.env)]) :
  PI X (.Tuple elts k pt) (.Call (.Name "zip" p) [a,b] [] pos) (iZip X.K ta):=by
 intro pins s σ H R I h
 refine Call_ (dM I hg hm jD (PyProof.Rows.callWith_type1 (thn (ha pos pins s σ H _ I h) fun us s1 ⟨vs,H1,I1,r1,q1⟩=>?_) hs (by rw [hs2];rfl)))
 obtain ⟨l,l2,e,⟨xs,hq⟩,⟨ys,hr⟩,q⟩:=q1
 subst e
 cases r1 with
 | cons r rr =>
  cases rr with
  | cons r2 rr =>
   cases rr
   cases r
   cases r2
   obtain ⟨its,rv,pl,hz⟩:=I1.list hq
   obtain ⟨jts,sv,pl2,hz2⟩:=I1.list hr
   have t1:l<s1.heap.objs.size:=by obtain ⟨o,_,e,_⟩:=pl;exact xA1 e
   have t2:l2<s1.heap.objs.size:=by obtain ⟨o,_,e,_⟩:=pl2;exact xA1 e
   refine call_zip_2 pl.isList pl2.isList fun h' a1 a2 a3 a4 a5 hsz hk=>?_
   refine wpAny_pyIter_zip a1 ?_
   have I2:Inv X pins σ H1 { s1 with heap:=h' }:=I1.kept (t':=s1.toks) hk
   refine ⟨s1.heap.objs.size+4,[s1.heap.objs.size+4,s1.heap.objs.size+2,s1.heap.objs.size+3,s1.heap.objs.size,s1.heap.objs.size+1],_,_,H1,rfl,I2,nh l l2 _ _ _ _ _ ?_,⟨a1,a2,⟨_,_,a3⟩,a4,a5⟩,fun b hb=>?_,q⟩
   ·exact lP _ _ _ t1 t2
   ·have hb':s1.heap.objs.size≤b:=by
     simp only [xAv,xBv,or_false] at hb
     rcases hb with rfl | rfl | rfl | rfl | rfl <;> lia
    exact I1.fpOk hb' (I1.hok.fresh hb')
theorem nJ {a b:Expr} {tas:TA} {p pos pt:Pos} {elts:List Expr} {k:Nat} (hg:Gl X "zip") (hm:X.mg "zip"=none) (ha:QA X [a,b] tas) (h:noStar a=true:=by rfl) (h2:noStar b=true:=by rfl):QI X (.Tuple elts k pt) (.Call (.Name "zip" p) [a,b] [] pos) (iZip X.K tas) :=
 ⟨tE hg hm ha.h (ay h) (by rw [ay h2];rfl)⟩
end
section
variable {K:xFr} {σ:St} {H:Hp} {R:It→Hp→Prop} {tas:TA} {a b:Addr} {xs ys:List V}
theorem wE (h:tas σ H fun vs H1=>nIterZ K vs H1 R):iZip K tas σ H R:=h
theorem kE (e:H a=some (.lst xs)) (e2:H b=some (.lst ys)) (h:R (Itz K a b) H):nIterZ K [.ref a,.ref b] H R:=⟨a,b,rfl,⟨xs,.of e⟩,⟨ys,.of e2⟩,h⟩
theorem mX (hl:xs.length=ys.length):Wk (Itz K a b) (fun H=>SqL K H a xs∧SqL K H b ys) xs.length (fun i H x H'=>∃ (p:Addr) (u v:V),x = .ref p∧H p=none∧H'=upd H p (.tup [u,v])∧xs[i]?=some u∧ys[i]?=some v) :=
 ⟨fun i H p h=>⟨xs,ys,xs[i],ys[i]'(by lia),p.1,p.2,by simp [h],by simp⟩,fun i H x H' p h ⟨q,u,v,y1,y2,y3,y4,y5⟩=>⟨q,u,v,y1,y2,y3,y4 xs p.1,y5 ys p.2⟩,fun H p=>⟨xs,ys,p.1,p.2,.inl (xAg _)⟩⟩
end
end L2
namespace SortP
open PySem PySem.W PyProof.Rows
end SortP
namespace SortP
open PySem PySem.W PyProof.Rows
end SortP
namespace SortP
open PySem PySem.W PyProof.Rows
end SortP
namespace L2
open PySem PySem.Spec PyProof.Rows
end L2
namespace L2
open PySem PySem.Spec PyProof.Rows
end L2
namespace L2
open PySem PySem.Spec PyProof.Rows
def rStarts:V→List V→Hp→VK→Prop:=fun x vs H Q=>∃ i j:Str,x = .str i∧vs=[.str j]∧Q (.bl (decide (0+j.length≤i.length) && Builtin.Str.subAt i j 0)) H
def rEnds:V→List V→Hp→VK→Prop:=fun x vs H Q=>∃ i j:Str,x = .str i∧vs=[.str j]∧Q (.bl (decide (0+j.length≤i.length) && Builtin.Str.subAt i j (i.length - j.length))) H
section
variable {X:Cx}
theorem di:MtR X "str.startswith" rStarts:=by
 intro pins s σ H x vs v us Q I rx rv h
 obtain ⟨i,j,rfl,rfl,q⟩:=h
 obtain ⟨t,rfl⟩:=rx
 obtain ⟨u,rfl,w,rfl⟩:=rv.one
 refine call_meets PySem.F.slot_str_startswith (typeIs_str _ _ _) PySem.F.entry_str_startswith (PySem.F.args_str_startswith_2 _ _) (gives_str_startswith i j t w).meets ?_
 exact ⟨.bl _,H,I,rfl,q⟩
theorem qY:MtR X "str.endswith" rEnds:=by
 intro pins s σ H x vs v us Q I rx rv h
 obtain ⟨i,j,rfl,rfl,q⟩:=h
 obtain ⟨t,rfl⟩:=rx
 obtain ⟨u,rfl,w,rfl⟩:=rv.one
 refine call_meets PySem.F.slot_str_endswith (typeIs_str _ _ _) PySem.F.entry_str_endswith (PySem.F.args_str_endswith_2 _ _) (gives_str_endswith i j t w).meets ?_
 exact ⟨.bl _,H,I,rfl,q⟩
theorem km:∀ {ws:List Str} {us:List Value},Vals (ws.map V.str) us→StrsAre us ws
 | [],_,h=>by cases h;exact .nil
 | w::ws,_,h=>by
  cases h with
  | cons a b =>
   obtain ⟨t,rfl⟩:=a
   exact .cons w t (km b)
def rJoin (K:xFr):V→List V→Hp→VK→Prop:=fun x vs H Q=>∃ (sep:Str) (l:Addr) (ws:List Str),x = .str sep∧vs=[.ref l]∧SqL K H l (ws.map V.str)∧(ws.map (·.length)).sum+ws.length * sep.length≤16777216∧Q (.str (Txt.join sep ws)) H
theorem cE:MtR X "str.join" (rJoin X.K):=by
 intro pins s σ H x vs v us Q I rx rv h
 obtain ⟨sep,l,ws,rfl,rfl,hS,hb,q⟩:=h
 obtain ⟨t,rfl⟩:=rx
 obtain ⟨u,rfl,ru⟩:=rv.one
 obtain rfl:u=Value.ref l:=ru
 obtain ⟨its,r1,t1,z1⟩:=I.list hS
 refine join_list t1.isList (ys:=ws) (by simpa using km r1) hb fun t' k=>?_
 exact ⟨.str _,H,I.tok _,⟨_,rfl⟩,q⟩
theorem gw:∀ (l:List (Str×Tok)),Vals ((l.map (·.1)).map V.str) (strValues l)
 | []=>.nil
 | a::l=>.cons ⟨a.2,rfl⟩ (gw l)
def rSplit:V→List V→Hp→VK→Prop:=fun x vs H Q=>∃ i j:Str,x = .str i∧vs=[.str j]∧(j.length == 0)=false∧i.length≤sizeLine∧(Builtin.Str.partsBetween i (Builtin.Str.occurrences i j 0 i.length (i.length+1)) j.length).length≤sizeLine∧(Txt.split i j).length≤sizeLine∧∀ l,H l=none→Q (.ref l) (upd H l (.lst ((Txt.split i j).map V.str)))
theorem dJ:MtR X "str.split" rSplit:=by
 intro pins s σ H x vs v us Q I rx rv h
 obtain ⟨i,j,rfl,rfl,hj,hi,hp,hl,q⟩:=h
 obtain ⟨t,rfl⟩:=rx
 obtain ⟨u,rfl,w,rfl⟩:=rv.one
 have fin:∀ (l:List (Str×Tok)) (k:Nat),l.map (·.1)=Txt.split i j→EP X pins σ Q (.ref s.heap.objs.size) { s with heap:=s.heap.push { cls:=.type "list",data:=.seq (strValues l).toArray },toks:=k }:=fun l k e=>by
  refine ⟨.ref s.heap.objs.size,_,I.laid (a:=s.heap.objs.size) (o:=.lst ((Txt.split i j).map V.str)) (t':=k) (fun b o e=>xAf _ e) (xAg _) ?_,rfl,q _ (I.hok.fresh (xAg _))⟩
  refine ⟨by rw [xAa];exact hl,strValues l,0,by rw [← e];exact gw l,?_⟩
  exact xAl _ rfl
 cases h1:(decide (i.length<j.length) || decide (Builtin.Str.strKind i<Builtin.Str.strKind j))
 ·cases hf:(Builtin.Str.occurrences i j 0 i.length (i.length+1)).isEmpty
  ·refine call_meets PySem.F.slot_str_split (typeIs_str _ _ _) PySem.F.entry_str_split (PySem.F.args_str_split_2 _ _) (meets_str_split_sep i j t w h1 hj hf hi hp) ?_
   change wants _ _ _ { s with toks:=_,heap:=s.heap.push { cls:=.type "list",data:=.seq (strsFrom s.toks (Builtin.Str.partsBetween i (Builtin.Str.occurrences i j 0 i.length (i.length+1)) j.length)).toArray } }
   rw [strsFrom_eq]
   exact fin (numbered s.toks _) _ ((numbered_texts _ _).trans ((xCf (ne_true_of_eq_false h1)).trans (xCf (ne_true_of_eq_false hf))).symm)
  ·exact call_meets PySem.F.slot_str_split (typeIs_str _ _ _) PySem.F.entry_str_split (PySem.F.args_str_split_2 _ _) (meets_str_split_not_found i j t w h1 hj hf) (fin [(i,t)] s.toks ((xCf (ne_true_of_eq_false h1)).trans (xCg hf)).symm)
 ·exact call_meets PySem.F.slot_str_split (typeIs_str _ _ _) PySem.F.entry_str_split (PySem.F.args_str_split_2 _ _) (meets_str_split_cannot_occur i j t w h1) (fin [(i,t)] s.toks (xCg h1).symm)
def cAll (K:xFr):List V→Hp→VK→Prop:=fun xs H Q=>∃ (p:Addr) (bs:List Bool),xs=[.ref p]∧SqL K H p (bs.map V.bl)∧∀ b:Bool,b=bs.all id→Q (.bl b) H
theorem mR (bs:List Bool):(List.range bs.length).all (fun i=>bs.getD i true)=bs.all id:=by
 rw [Bool.eq_iff_iff,List.all_eq_true,List.all_eq_true]
 constructor
 ·intro h b hb
  obtain ⟨i,hi,rfl⟩:=List.getElem_of_mem hb
  have:=h i (List.mem_range.mpr hi)
  rw [xBz,xAk hi] at this
  exact this
 ·intro h i hi
  have hi:=List.mem_range.mp hi
  rw [xBz,xAk hi]
  exact h _ (List.getElem_mem hi)
theorem kb (hc:X.calm=true):CallR X (.builtin "all") (cAll X.K):=by
 intro pins s σ H xs us Q I r h
 obtain ⟨p,bs,rfl,hS,q⟩:=h
 obtain ⟨u,rfl,ru⟩:=vals1 r
 obtain rfl:u=Value.ref p:=ru
 obtain ⟨its,r1,t1,z1⟩:=I.list hS
 have hl:=r1.length
 rw [xAa] at hl
 have hlt:p<s.heap.objs.size:=by
  obtain ⟨o,_,e,_⟩:=t1
  exact xA1 e
 have hval:∀ (i:Nat) (v:Value),its.toArray[i]?=some v→v=Value.bool (bs.getD i true):=fun i v e=>by
  have e':its[i]?=some v:=by simpa using e
  have hi:i<bs.length:=by rw [hl];exact (xAq.mp e').1
  obtain ⟨u,hu,ru⟩:=r1.get (i:=i) (x:=.bl bs[i]) (by rw [xAw,xAk hi];rfl)
  rw [e'] at hu
  cases hu
  rw [xBz,xAk hi]
  exact ru
 refine call_all_walk (wpAny_pyIter_list t1.isList ?_)
 refine ⟨s.heap.objs.size,[s.heap.objs.size,p],[s.heap.objs.size],_,_,_,fun i=>bs.getD i true,rfl,Walks.list (A:=X.A.in1) (I.ok.hd hc) s.heap.objs.size p (xA0 hlt) its.toArray,⟨⟨_,xAl _ rfl,rfl,rfl⟩,t1.isList.push _⟩,fun i v s' Q' E' hP hQ=>?_,fun h' tk hk=>?_⟩
 ·rw [hval i v hP]
  exact wpAny_truthy_bool hQ
 ·refine ⟨.bl _,H,I.kept (t':=tk) fun b o e=>hk b o ?_ (xAf _ e),rfl,q _ ?_⟩
  ·rw [xAm]
   exact xA0 (xA1 e)
  ·rw [xAp,← hl]
   exact mR bs
def cIntS:List V→Hp→VK→Prop:=fun xs H Q=>∃ (x:Str) (n:Int),xs=[.str x]∧PySem.intText? x=some n∧x.length≤640∧Q (.int n) H
theorem eQ:CallR X (.type "int") cIntS:=by
 intro pins s σ H xs us Q I r h
 obtain ⟨x,n,rfl,hn,hl,q⟩:=h
 obtain ⟨u,rfl,t,rfl⟩:=vals1 r
 exact PySem.W.KIN.call_text hn hl ⟨.int n,H,I.tok _,⟨_,rfl⟩,q⟩
end
end L2
namespace L2
open PySem PySem.Spec PyProof.Rows
def sNev:TS:=fun _ _ _=>False
section
variable {X:Cx} {e:Expr} {st:Stmt}
theorem dI:QS X st sNev:=⟨fun _ _ _ _ _ _ h=>h.elim⟩
end
def rSlS:V→Option Int→Option Int→Hp→VK→Prop:=fun x lo hi H Q=>∃ z:Str,x = .str z∧z.length≤sizeLine∧Q (.str (Txt.slice z lo hi)) H
section
variable {X:Cx}
theorem hZ:SlR X rSlS:=by
 intro pins s σ H x v vl vu lo hi sl Q I rx hs pl pu h
 obtain ⟨z,rfl,hz,q⟩:=h
 obtain ⟨t,rfl⟩:=rx
 refine ⟨"str",_,PySem.F.slot_str_getitem.lookup,typeIs_str _ _ _,?_⟩
 cases pl with
 | none=>cases pu with
  | none=>exact wpAny_getItem_str_slice (l:=none) (u:=none) (st:=none) hs rfl (post_val_or_str ⟨Nat.le_trans (Txt.slice_le z _ _) hz,fun t' k=>⟨.str _,H,I.tok k,⟨_,rfl⟩,q⟩⟩)
  | int j uj=>exact wpAny_getItem_str_slice (l:=none) (u:=some (j,uj)) (st:=none) hs rfl (post_val_or_str ⟨Nat.le_trans (Txt.slice_le z _ _) hz,fun t' k=>⟨.str _,H,I.tok k,⟨_,rfl⟩,q⟩⟩)
 | int i ui=>cases pu with
  | none=>exact wpAny_getItem_str_slice (l:=some (i,ui)) (u:=none) (st:=none) hs rfl (post_val_or_str ⟨Nat.le_trans (Txt.slice_le z _ _) hz,fun t' k=>⟨.str _,H,I.tok k,⟨_,rfl⟩,q⟩⟩)
  | int j uj=>exact wpAny_getItem_str_slice (l:=some (i,ui)) (u:=some (j,uj)) (st:=none) hs rfl (post_val_or_str ⟨Nat.le_trans (Txt.slice_le z _ _) hz,fun t' k=>⟨.str _,H,I.tok k,⟨_,rfl⟩,q⟩⟩)
end
def Its (z:Str):It:=⟨fun i _=>i<z.cps.size,fun i H x H'=>H'=H∧∃ c,z.cps[i]?=some c∧x = .str ⟨#[c]⟩,fun i _=>i=z.cps.size⟩
theorem iK {P:Program} {w:World} {K:xFr} {tg:Expr} (it:Addr) (z:Str) (t:Tok) (ty:String) (hty:["enumerate","zip","dict_itemiterator","dict_reverseitemiterator","odict_iterator","itertools.zip_longest","itertools.pairwise"].contains ty=false)
  (W:∀ A':Around,A'.handled=none→Walks P w A' it [it] [it] z.cps.size (SignAt z) (fun i h=>h.IsStrIter it ty z t i)) (hself:∀ (A:Around) (i:Nat) (s:Shared) (Q:Value→Shared→Prop) (E:Value→Shared→Prop),s.heap.IsStrIter it ty z t i→Q (.ref it) s→wpAny (model P w) A (pyIter (.ref it)) Q E s) :
  Turn P w K tg (Its z) [it] it (fun i h=>h.IsStrIter it ty z t i) where
 mem:=by simp
 obj:=fun i h st b hb=>by
  have e:b=it:=by simpa using hb
  subst e
  obtain ⟨o,e,c,d⟩:=st
  exact ⟨o,e,fun v z=>by rw [d] at z;cases z⟩
 keep:=fun i h h' st k=>by
  obtain ⟨o,e,r⟩:=st
  exact ⟨o,k it (by simp) o e,r⟩
 item:=by
  intro X hP hw hK hc i pins s σ H E I hf st hg
  subst hP hw hK
  obtain ⟨f0,f1,f2,f3,f4,f5⟩:=hf it (by simp)
  refine (W X.A (I.ok.hd hc)).item i s _ _ hg st fun v h' tk hv st' kk=>?_
  obtain ⟨c,u,hcu,rfl⟩:=hv
  have I1:Inv X pins σ H { s with heap:=h',toks:=tk }:=I.turned (fun b o hb e=>kk b o (by simpa using hb) e) f0 f1 f3 f4 f5
  obtain ⟨o,e,c',d⟩:=id st'
  exact ⟨_,rfl,kZ (s:={ s with heap:=h',toks:=tk }) e c' d hty ⟨.str ⟨#[c]⟩,H,I1,⟨u,rfl⟩,⟨rfl,c,hcu,rfl⟩,st',fun b hb=>(hf b hb).1⟩⟩
 done:=by
  intro X hP hw hK hc i pins s σ H E I hf st hg
  subst hP hw hK
  obtain ⟨f0,f1,f2,f3,f4,f5⟩:=hf it (by simp)
  have hg:i=z.cps.size:=hg
  subst hg
  exact (W X.A (I.ok.hd hc)).done s _ _ st fun h' tk eb=>⟨rfl,I.turned (t':=tk) (fun b o hb e=>eb b o (by simpa using hb) e) f0 f1 f3 f4 f5⟩
 self:=hself
def nIterStr (x:V) (H:Hp) (R:It→Hp→Prop):Prop:=∃ z:Str,x = .str z∧R (Its z) H
def iStr (te:TE):TI:=fun σ H R=>te σ H fun x H1=>nIterStr x H1 R
section
variable {X:Cx} {e tg:Expr} {te:TE}
theorem tG (he:PE X e te):PI X tg e (iStr te):=by
 intro pins s σ H R I h
 refine thn (he pins s σ H _ I h) fun v s1 ⟨x,H1,I1,r1,q1⟩=>?_
 obtain ⟨z,rfl,q⟩:=q1
 obtain ⟨t,rfl⟩:=r1
 cases ha:z.cps.all (·<128)
 ·refine wpAny_pyIter_wide ha ⟨s1.heap.objs.size,[s1.heap.objs.size],_,_,H1,rfl,I1.kept (t':=s1.toks) fun b o e=>xAf _ e,iK _ z t "str_iterator" (by decide) (fun A' hA=>Walks.strWide hA _ z t) (fun _ _ _ _ _ st h=>wpAny_pyIter_striter_wide st h),⟨_,xAl _ rfl,rfl,rfl⟩,fun b hb=>?_,q⟩
  have e:b=s1.heap.objs.size:=by simpa using hb
  subst e
  exact I1.fpOk (xAg _) (I1.hok.fresh (xAg _))
 ·refine wpAny_pyIter_ascii ha ⟨s1.heap.objs.size,[s1.heap.objs.size],_,_,H1,rfl,I1.kept (t':=s1.toks) fun b o e=>xAf _ e,iK _ z t "str_ascii_iterator" (by decide) (fun A' hA=>Walks.strAscii hA _ z t) (fun _ _ _ _ _ st h=>wpAny_pyIter_striter_ascii st h),⟨_,xAl _ rfl,rfl,rfl⟩,fun b hb=>?_,q⟩
  have e:b=s1.heap.objs.size:=by simpa using hb
  subst e
  exact I1.fpOk (xAg _) (I1.hok.fresh (xAg _))
theorem jR (h:QE X e te):QI X tg e (iStr te):=⟨tG h.h⟩
end
theorem sL {te:TE} {σ:St} {H:Hp} {R:It→Hp→Prop} (h:te σ H fun x H1=>nIterStr x H1 R):iStr te σ H R:=h
theorem dP {z:Str} {H:Hp} {R:It→Hp→Prop} (h:R (Its z) H):nIterStr (.str z) H R:=⟨z,rfl,h⟩
theorem gU {z:Str}:Wk (Its z) (fun _=>True) z.cps.size (fun i H x H'=>H'=H∧∃ c,z.cps[i]?=some c∧x = .str ⟨#[c]⟩):=⟨fun i H _ h=>h,fun i H x H' _ h y=>y,fun H _=>rfl⟩
def nFs (c:Str) (x:V) (H:Hp) (Q:VK):Prop:=∃ i,x = .int i∧i.natAbs.log2<1920∧c.length+(PySem.Str.ofString (toString i)).length≤sizeLine∧Q (.str (c++PySem.Str.ofString (toString i))) H
def tFs (c:Str) (te:TE):TE:=fun σ H Q=>te σ H fun x H1=>nFs c x H1 Q
theorem dl (c:Str):Str.empty++c=c:=by
 show Str.mk (#[]++c.cps)=c
 rw [Array.empty_append]
section
variable {X:Cx} {v:Expr} {te:TE} {c:Str} {j:Nat} {p1 p2 pos:Pos}
theorem vi (hv:PE X v te) (hc:decide (c.length≤1000)=true):PE X (.JoinedStr [.Constant (.str c) j p1,.FormattedValue v (-1) none p2] pos) (tFs c te):=by
 intro pins s σ H Q I h
 refine wpAny_JoinedStr ?_
 refine Calls.Constant_str ?_
 refine ⟨c,_,rfl,?_,?_⟩
 ·rw [dl]
  have:=of_decide_eq_true hc;rw [sizeLine_eq];lia
 ·refine wpAny_FormattedValue_plain (thn (hv pins _ σ H _ (I.tok _) h) fun u s1 ⟨x,H1,I1,r1,q1⟩=>?_)
  obtain ⟨i,rfl,hi,hl,q⟩:=q1
  obtain ⟨t,rfl⟩:=r1
  refine wpAny_formatField_int hi ⟨_,_,rfl,?_,?_⟩
  ·rw [dl,strLen_append]
   exact hl
  ·refine ⟨?_,?_⟩
   ·rw [dl,strLen_append]
    exact hl
   ·rw [dl]
    exact ⟨.str _,H1,I1.tok _,⟨_,rfl⟩,q⟩
theorem u0 (hv:QE X v te) (hc:decide (c.length≤1000)=true:=by decide):QE X (.JoinedStr [.Constant (.str c) j p1,.FormattedValue v (-1) none p2] pos) (tFs c te):=⟨vi hv.h hc⟩
end
end L2
namespace L2
open PySem PySem.Spec PyProof.Rows
def cStr:List V→Hp→VK→Prop:=fun xs H Q=>(∃ i,xs=[.int i]∧i.natAbs.log2<1920∧Q (.str (PySem.Str.ofString (toString i))) H)∨∃ z,xs=[.str z]∧Q (.str z) H
def rMulS:R2:=fun x y H Q=>∃ (z:Str) (b:Bool),x = .str z∧y = .int (if b then 1 else 0)∧Q (.str (if b then z else Str.empty)) H
def mergK (kvs more:List (Key×V)):List (Key×V):=more.foldl (fun acc p=>putK acc p.1 p.2) kvs
theorem KV.merg {more:List (Key×V)}:∀ {ms:List (Key×Value)} {kvs:List (Key×V)} {vs:List (Key×Value)},KV kvs vs→KV more ms→KV (mergK kvs more) (merged vs ms):=by
 induction more with
 | nil =>
  intro ms kvs vs r rm
  cases (show Paired _ [] ms from rm)
  exact r
 | cons p more ih =>
  intro ms kvs vs r rm
  cases (show Paired _ (p::more) ms from rm) with
  | cons h t =>
   obtain ⟨h1,h2⟩:=h
   rename_i q qs
   have:=ih (r.put p.1 h2) t
   rw [h1] at this
   simpa [mergK,merged,h1] using this
def rUpd:V→List V→Hp→VK→Prop:=fun x vs H Q=>∃ (a b:Addr) (kvs more:List (Key×V)),x = .ref a∧vs=[.ref b]∧a≠b∧H a=some (.dK kvs)∧H b=some (.dK more)∧kvs.length+more.length≤1000∧Q .non (upd H a (.dK (mergK kvs more)))
def cListD:List V→Hp→VK→Prop:=fun xs H Q=>∃ d kvs,xs=[.ref d]∧H d=some (.dK kvs)∧∀ l,H l=none→Q (.ref l) (upd H l (.lst (kvs.map fun p=>kV p.1)))
section
variable {X:Cx}
theorem dN:CallR X (.type "str") cStr:=by
 intro pins s σ H xs us Q I r h
 rcases h with ⟨i,rfl,hz,q⟩ | ⟨z,rfl,q⟩
 ·obtain ⟨u,rfl,t,rfl⟩:=vals1 r
  exact PySem.P.str_of_int hz ⟨.str _,H,I.tok _,⟨_,rfl⟩,q⟩
 ·obtain ⟨u,rfl,t,rfl⟩:=vals1 r
  exact PySem.P.str_of_str ⟨.str _,H,I,⟨_,rfl⟩,q⟩
theorem qS:OpR X (binaryOp .Mult) rMulS:=by
 intro pins s σ H x y v u Q I rx ry h
 obtain ⟨z,b,rfl,rfl,q⟩:=h
 obtain ⟨t,rfl⟩:=rx
 obtain ⟨t2,rfl⟩:=ry
 cases b
 ·exact PySem.P.mul_str_none (by decide) (by decide) ⟨.str _,H,I.tok _,⟨_,rfl⟩,q⟩
 ·exact PySem.P.mul_str (by decide) (fun _ z=>by simp at z) (fun _ z=>by simp at z) ⟨.str _,H,I,⟨_,rfl⟩,q⟩
theorem gG:MtR X "dict.update" rUpd:=by
 intro pins s σ H x vs v us Q I rx rv h
 obtain ⟨a,b,kvs,more,rfl,rfl,hab,ea,eb,hl,q⟩:=h
 cases (show v=Value.ref a from rx)
 obtain ⟨u,rfl,ru⟩:=rv.one
 obtain rfl:u=Value.ref b:=ru
 obtain ⟨z,hd,vs,rel,dd⟩:=ju I.hok ea
 obtain ⟨z2,hd2,ms,rel2,dd2⟩:=ju I.hok eb
 have l1:=rel.length
 have l2:=rel2.length
 refine call_meetsIn PySem.F.slot_dict_update dd.typeIs PySem.F.entry_dict_update (PySem.F.args_dict_update_2 _ _) (meets_dict_update (mixKind X.prog X.w) a b hab hd2) ⟨vs,ms,dd,dd2,by rw [sizeLine_eq];lia,fun h' d1 d2 sb=>?_⟩
 have hm:=rel.merg rel2
 have hml:(mergK kvs more).length≤sizeLine:=by
  rw [hm.length]
  have:=merged_length_le vs ms
  rw [sizeLine_eq]
  lia
 refine ⟨.non,_,I.write (x:=a) (e:=a) (o:=.dK (mergK kvs more)) (t':=s.toks) (by rw [ea];exact True.intro) (.inl rfl) (fun c u hc e=>(sb.2 c hc).trans e) ?_ (j8 hml hd hm d1),rfl,q⟩
 obtain ⟨o,es,ep,ho,_⟩:=d1
 exact ⟨o,ho⟩
theorem j3 {kvs:List (Key×V)} {vs:List (Key×Value)} (r:KV kvs vs) {acc:List Value} (hl:acc.length=vs.length) (h:∀ (i:Nat) (v:Value),acc[i]?=some v→∃ k x,vs[i]?=some (k,x)∧keyIs k v=true):Vals (kvs.map fun p=>kV p.1) acc:=by
 induction r generalizing acc with
 | nil =>
  obtain rfl:acc=[]:=List.length_eq_zero_iff.mp hl
  exact .nil
 | @cons p q ps qs hpq t ih =>
  cases acc with
  | nil=>simp at hl
  | cons v acc =>
   rw [xBs]
   refine .cons ?_ (ih (by simpa using hl) fun i w e=>h (i+1) w (by simpa using e))
   obtain ⟨k,x,e1,e2⟩:=h 0 v rfl
   have e1:q=(k,x):=by simpa using e1
   have e3:p.1=k:=by rw [hpq.1,e1]
   rw [e3]
   exact pR e2
theorem pi (hc:X.calm=true):CallR X (.type "list") cListD:=by
 intro pins s σ H xs us Q I r h
 obtain ⟨d,kvs,rfl,hd,q⟩:=h
 obtain ⟨u,rfl,ru⟩:=vals1 r
 obtain rfl:u=Value.ref d:=ru
 obtain ⟨z,lo,vs,rel,dd⟩:=ju I.hok hd
 obtain ⟨ep,hat⟩:=dd.dictAt
 have hl:=rel.length
 refine PySem.W.kdl_call (PySem.W.kdl_dict (knd:=mixKind X.prog X.w) (kvs:=vs) (ep:=ep) lo) (I.ok.hd hc) hat (by lia) fun h' tk acc' c' hk hD hacc=>?_
 refine ⟨.ref s.heap.objs.size,_,I.laid (a:=s.heap.objs.size) (o:=.lst (kvs.map fun p=>kV p.1)) (t':=tk) (fun b o e=>hk b o e) (xAg _) ?_,rfl,q _ (I.hok.fresh (xAg _))⟩
 refine ⟨by rw [xAa];exact z,acc'.toList,c',j3 rel (by simpa using hacc.1) (fun i v e=>hacc.2 i v (by simpa using e)),?_⟩
 rw [hD,Array.toArray_toList]
end
def nGetK (K:xFr) (a:Addr) (y:V) (H:Hp) (Q:VK):Prop:=∃ x v u,y = .str x∧PySem.W.nsIn K a x=some (some u)∧RelV v u∧Q v H
def tGetK (K:xFr) (a:Addr) (te:TE):TE:=fun σ H Q=>te σ H fun y H2=>nGetK K a y H2 Q
def KD (w:World) (K:xFr) (a:Addr):Prop:=∃ es n,K.lookup a=some ⟨.type "dict",none,.dict es n,#[]⟩∧PySem.W.KeysLit w.params es.toList∧(a == sysModules)=false
section
variable {X:Cx} {o e:Expr} {te:TE} {a:Addr} {apos cpos:Pos}
theorem qG (d:KD X.w X.K a) (ho:PE X o (tC (.ref a))) (he:PE X e te) (m:M1 X o "get" apos e cpos):PE X (.Call (.Attribute o "get" apos) [e] [] cpos) (tGetK X.K a te):=by
 obtain ⟨es,n,hl,hk,lo⟩:=d
 intro pins s σ H Q I h
 refine wpAny_Call_method m.base m.few m.line PySem.F.plainAttrs_dict PySem.F.slot_dict_get PySem.F.type_dict_get (thn (ho pins s σ H (fun x H1=>x = .ref a∧te σ H1 fun y H2=>nGetK X.K a y H2 Q) I ⟨rfl,h⟩) fun u s1 ⟨x,H1,I1,rx,ex,q1⟩=>?_)
 subst ex
 obtain rfl:u=Value.ref a:=rx
 have hm1:=PySem.W.mapOf_K (prog:=X.prog) (w:=X.w) (fun b o e=>I1.kIn b o e) hl hk
 refine ⟨hm1.typeIs,fun b e=>⟨_,by cases e;exact I1.kIn a _ hl,rfl⟩,?_⟩
 rw [m.trees]
 refine Calls.callWith_builtin rfl (Calls.evalArgs_plain (Calls.spliced_cons (thn (he pins s1 σ H1 _ I1 q1) fun iv s2 ⟨y,H2,I2,ry,q2⟩=>Calls.spliced_nil ?_)))
 obtain ⟨z,v,u,rfl,hn,rv,q⟩:=q2
 obtain ⟨t,rfl⟩:=ry
 have hm:=PySem.W.mapOf_K (prog:=X.prog) (w:=X.w) (fun b o e=>I2.kIn b o e) hl hk
 refine call_meetsIn PySem.F.slot_dict_get hm.typeIs PySem.F.entry_dict_get (PySem.F.args_dict_get_2 _ _) (meets_dict_get (strKind X.prog X.w) a (strKind_is X.prog X.w z t) lo) ⟨_,hm,?_⟩
 rw [PySem.W.find_K hl hn]
 exact ⟨v,H2,I2.tok _,rv,q⟩
theorem qf (d:KD X.w X.K a) (ho:QE X o (tC (.ref a))) (he:QE X e te) (h1:noCall o=true:=by rfl) (h2:noStar e=true:=by rfl) (hline:(apos.endLine == cpos.line)=true:=by rfl) :
  QE X (.Call (.Attribute o "get" apos) [e] [] cpos) (tGetK X.K a te) :=
 ⟨qG d ho.h he.h ⟨iw h1,by rw [ay h2];rfl,hline,by rw [ay h2];rfl⟩⟩
end
end L2
namespace RevA
open PySem PySem.Spec PyProof.Rows
structure ZAp (z TI TO i1 i2:Addr) (f1 f2:List Addr):Prop where
 q1:TI≠z
 q2:TO≠z
 q3:i1≠z
 q4:i2≠z
 q5:TI≠TO
 q6:TI≠i1
 q7:TI≠i2
 q8:TO≠i1
 q9:TO≠i2
 qa:i1≠i2
 n1:z ∉ f1
 n2:z ∉ f2
 n3:TO ∉ f1
 n4:TO ∉ f2
 n5:i1 ∉ f2
 n6:i2 ∉ f1
section
variable {prog:Program} {w:World} {A:Around} {E:Value→Shared→Prop} {s:Shared} {z TI TO i1 i2:Addr} {f1 f2:List Addr} {n1 n2 k:Nat} {P1 P2:Nat→Value→Prop} {S1 S2:Nat→Heap→Prop} {a b:Value}
theorem mT {Q:Value→Shared→Prop} (D1:Draws prog w A i1 f1 n1 P1 S1) (D2:Draws prog w A i2 f2 n2 P2 S2) (D:ZAp z TI TO i1 i2 f1 f2) (hz:IsZip s.heap z TI TO .none) (hTI:IsPair s.heap TI (.ref i1) (.ref i2)) (hTO:IsPair s.heap TO a b)
  (st1:S1 k s.heap) (st2:S2 k s.heap) (l1:k<n1) (l2:k<n2)
  (q:∀ x y h' tk,P1 k x→P2 k y→IsZip h' z TI TO (rawInt s.heap.objs.size)→IsPair h' TO x y→S1 (k+1) h'→S2 (k+1) h'→IsPair h' s.heap.objs.size x y→(∀ c o,c≠z→c≠TO→c≠i1→c≠i2→s.heap.get? c=some o→h'.get? c=some o) →
   Q (.ref s.heap.objs.size) { s with heap:=h',toks:=tk }):wpAny (model prog w) A (Builtin.«zip.__next__» ⟨[.ref z],[]⟩) (fun fin s'=>∃ v,fin = .done (.ret v)∧Q v s') E s:=by
 obtain ⟨hp,g,d,tk0,os⟩:=s
 change wpAny _ _ (field (.ref z) 2 >>= _) _ _ _
 refine xAd (wpAny_field hz rfl (x:=.bool false) rfl ?_)
 change wpAny _ _ (field (.ref z) 3 >>= _) _ _ _
 refine xAd (wpAny_field hz rfl (x:=.ref TI) rfl (xAd (wpAny_seqItems hTI rfl ?_)))
 change wpAny _ _ (Builtin.SmallTypes.ownedTupleIsFree (.ref z) >>= _) _ _ _
 refine xAd ?_
 unfold Builtin.SmallTypes.ownedTupleIsFree
 refine xAd (wpAny_field hz rfl (x:=.none) rfl (xAe ?_))
 simp only [if_true]
 refine xAd (wpAny_rule (xAd (wpAny_field hz rfl (x:=.ref TO) rfl ?_)))
 refine xAd (wpAny_setField_rec hz (by simp) fun h1 z1 b1=>?_)
 replace z1:IsZip h1 z TI TO .ellipsis:=z1
 replace b1:Heap.SameBut z hp h1:=b1
 refine xAd ?_
 simp only [List.zipIdx_cons,List.zipIdx_nil,List.forIn_cons,List.forIn_nil]
 refine xAd (xAd (wpAny_onRaise ?_))
 change wpAny _ _ (Builtin.SmallTypes.nextOf (.ref i1) >>= _) _ _ _
 have t1:S1 k h1:=D1.frame _ _ _ st1 fun c hc o e=>b1.extBut c o (fun y=>D.n1 (y ▸ hc)) e
 refine xAd (D1.item k ⟨h1,g,d,tk0,os⟩ _ _ l1 t1 fun x h2 tk2 px t2 b2=>xAe ?_)
 replace b2:Heap.SameBut i1 h1 h2:=b2
 have o2:IsPair h2 TO a b:=b2.extBut _ _ D.q8 (b1.extBut _ _ D.q2 hTO)
 refine xAd (wpAny_seqItems (s:=⟨h2,g,d,tk2,os⟩) o2 rfl ?_)
 refine xAd (wpAny_updateSeq_pair (s:=⟨h2,g,d,tk2,os⟩) o2 fun h3 o3 b3=>?_)
 replace o3:IsPair h3 TO x b:=o3
 replace b3:Heap.SameBut TO h2 h3:=b3
 refine xAd (wpAny_letGo (xAe ?_))
 refine xAd (xAd (wpAny_onRaise ?_))
 change wpAny _ _ (Builtin.SmallTypes.nextOf (.ref i2) >>= _) _ _ _
 have u3:S2 k h3:=D2.frame _ _ _ st2 fun c hc o e=>b3.extBut c o (fun y=>D.n4 (y ▸ hc)) (b2.extBut c o (fun y=>D.n5 (y ▸ hc)) (b1.extBut c o (fun y=>D.n2 (y ▸ hc)) e))
 have t3:S1 (k+1) h3:=D1.frame _ _ _ t2 fun c hc o e=>b3.extBut c o (fun y=>D.n3 (y ▸ hc)) e
 refine xAd (D2.item k ⟨h3,g,d,tk2,os⟩ _ _ l2 u3 fun y h4 tk4 py u4 b4=>xAe ?_)
 replace b4:Heap.SameBut i2 h3 h4:=b4
 have o4:IsPair h4 TO x b:=b4.extBut _ _ D.q9 o3
 have t4:S1 (k+1) h4:=D1.frame _ _ _ t3 fun c hc o e=>b4.extBut c o (fun y=>D.n6 (y ▸ hc)) e
 refine xAd (wpAny_seqItems (s:=⟨h4,g,d,tk4,os⟩) o4 rfl ?_)
 refine xAd (wpAny_updateSeq_pair (s:=⟨h4,g,d,tk4,os⟩) o4 fun h5 o5 b5=>?_)
 replace o5:IsPair h5 TO x y:=o5
 replace b5:Heap.SameBut TO h4 h5:=b5
 refine xAd (wpAny_letGo (xAe (xAe ?_)))
 have t5:S1 (k+1) h5:=D1.frame _ _ _ t4 fun c hc o e=>b5.extBut c o (fun y=>D.n3 (y ▸ hc)) e
 have u5:S2 (k+1) h5:=D2.frame _ _ _ u4 fun c hc o e=>b5.extBut c o (fun y=>D.n4 (y ▸ hc)) e
 refine xAd (wpAny_seqItems (s:=⟨h5,g,d,tk4,os⟩) o5 rfl ?_)
 refine xAd (wpAny_newTuple ?_)
 have sz:h5.objs.size=hp.objs.size:=by rw [b5.1,b4.1,b3.1,b2.1,b1.1]
 have z5:IsZip h5 z TI TO .ellipsis:=b5.extBut _ _ D.q2.symm (b4.extBut _ _ D.q4.symm (b3.extBut _ _ D.q2.symm (b2.extBut _ _ D.q3.symm z1)))
 have kk:∀ c o,c≠z→c≠TO→c≠i1→c≠i2→hp.get? c=some o→h5.get? c=some o:=fun c o c1 c2 c3 c4 e=>b5.extBut _ _ c2 (b4.extBut _ _ c4 (b3.extBut _ _ c2 (b2.extBut _ _ c3 (b1.extBut _ _ c1 e))))
 have zlt:z<h5.objs.size:=xA1 z5
 change wpAny _ _ (Builtin.SmallTypes.ownedTupleHandOut (.ref z) (.ref h5.objs.size) >>= _) _ _ _
 refine xAd ?_
 unfold Builtin.SmallTypes.ownedTupleHandOut
 have z6:IsZip (h5.push { cls:=.type "tuple",data:=.seq #[x,y] }) z TI TO .ellipsis:=xAf _ z5
 refine xAd (wpAny_setField_rec z6 (by simp) fun h7 z7 b7=>?_)
 replace z7:IsZip h7 z TI TO (rawInt h5.objs.size):=z7
 refine wpAny_setField_rec z7 (by simp) fun h8 z8 b8=>?_
 replace z8:IsZip h8 z TI TO (rawInt h5.objs.size):=z8
 replace b7:Heap.SameBut z (h5.push { cls:=.type "tuple",data:=.seq #[x,y] }) h7:=b7
 replace b8:Heap.SameBut z h7 h8:=b8
 have up:∀ c o,c≠z→h5.get? c=some o→h8.get? c=some o:=fun c o c1 e=>b8.extBut _ _ c1 (b7.extBut _ _ c1 (xAf _ e))
 have T8:IsPair h8 h5.objs.size x y:=b8.extBut _ _ (Nat.ne_of_gt zlt) (b7.extBut _ _ (Nat.ne_of_gt zlt) (xAl _ rfl))
 rw [sz] at z8 T8
 refine xAe ⟨_,rfl,?_⟩
 change Q (.ref h5.objs.size) _
 rw [sz]
 exact q x y h8 tk4 px py z8 (up _ _ D.q2 o5) (D1.frame _ _ _ t5 fun c hc o e=>up c o (fun y=>D.n1 (y ▸ hc)) e) (D2.frame _ _ _ u5 fun c hc o e=>up c o (fun y=>D.n2 (y ▸ hc)) e) T8 fun c o c1 c2 c3 c4 e=>up c o c1 (kk c o c1 c2 c3 c4 e)
theorem mU {Q:Fin→Shared→Prop} (D1:Draws prog w A i1 f1 n1 P1 S1) (D:ZAp z TI TO i1 i2 f1 f2) (hz:IsZip s.heap z TI TO .none) (hTI:IsPair s.heap TI (.ref i1) (.ref i2)) (st1:S1 n1 s.heap)
  (q:∀ h' e,(∀ c o,c≠z→c≠TO→c≠i1→c≠i2→s.heap.get? c=some o→h'.get? c=some o)→(∃ o,h'.get? e=some o∧o.cls = .type "StopIteration")→E (.ref e) { s with heap:=h' }) :
  wpAny (model prog w) A (Builtin.«zip.__next__» ⟨[.ref z],[]⟩) Q E s:=by
 change wpAny _ _ (field (.ref z) 2 >>= _) _ _ _
 refine xAd (wpAny_field hz rfl (x:=.bool false) rfl ?_)
 change wpAny _ _ (field (.ref z) 3 >>= _) _ _ _
 refine xAd (wpAny_field hz rfl (x:=.ref TI) rfl (xAd (wpAny_seqItems hTI rfl ?_)))
 change wpAny _ _ (Builtin.SmallTypes.ownedTupleIsFree (.ref z) >>= _) _ _ _
 refine xAd ?_
 unfold Builtin.SmallTypes.ownedTupleIsFree
 refine xAd (wpAny_field hz rfl (x:=.none) rfl (xAe ?_))
 simp only [if_true]
 refine xAd (wpAny_rule (xAd (wpAny_field hz rfl (x:=.ref TO) rfl ?_)))
 refine xAd (wpAny_setField_rec hz (by simp) fun h1 z1 b1=>?_)
 replace z1:IsZip h1 z TI TO .ellipsis:=z1
 refine xAd ?_
 simp only [List.zipIdx_cons,List.zipIdx_nil,List.forIn_cons,List.forIn_nil]
 refine xAd (xAd (wpAny_onRaise ?_))
 change wpAny _ _ (Builtin.SmallTypes.nextOf (.ref i1) >>= _) _ _ _
 have t1:S1 n1 h1:=D1.frame _ _ _ st1 fun c hc o e=>b1.extBut c o (fun y=>D.n1 (y ▸ hc)) e
 refine xAd (D1.done { s with heap:=h1 } _ _ t1 fun h2 e b2 he=>?_)
 obtain ⟨oe,hoe,hce⟩:=he
 have z2:IsZip h2 z TI TO .ellipsis:=b2 _ _ D.q3.symm z1
 have hez:e≠z:=fun x=>by subst x;rw [z2] at hoe;cases hoe;simp at hce
 exact wpAny_setField_rec z2 (by simp) fun h3 _ b3=>q h3 e (fun c o c1 _ c3 _ x=>b3.extBut _ _ c1 (b2 _ _ c3 (b1.extBut _ _ c1 x))) ⟨oe,b3.extBut _ _ hez hoe,hce⟩
theorem lM {Q:Option Value→Shared→Prop} (D1:Draws prog w A.in1 i1 f1 n1 P1 S1) (D2:Draws prog w A.in1 i2 f2 n2 P2 S2) (D:ZAp z TI TO i1 i2 f1 f2) (hz:IsZip s.heap z TI TO .none) (hTI:IsPair s.heap TI (.ref i1) (.ref i2)) (hTO:IsPair s.heap TO a b)
  (st1:S1 k s.heap) (st2:S2 k s.heap) (l1:k<n1) (l2:k<n2)
  (q:∀ x y h' tk,P1 k x→P2 k y→IsZip h' z TI TO (rawInt s.heap.objs.size)→IsPair h' TO x y→S1 (k+1) h'→S2 (k+1) h'→IsPair h' s.heap.objs.size x y→(∀ c o,c≠z→c≠TO→c≠i1→c≠i2→s.heap.get? c=some o→h'.get? c=some o) →
   Q (some (.ref s.heap.objs.size)) { s with heap:=h',toks:=tk }):wpAny (model prog w) A (pyNext (.ref z)) Q E s:=by
 have hT:s.TypeIs (.ref z) "zip":=⟨_,hz,rfl⟩
 unfold pyNext
 exact xAd (wpAny_attempt (wpAny_callSpecial?_slot (name:=Str.ofString "__next__") hT PySem.F.slot_zip_next (wpAny_call_entry PySem.F.slot_zip_next hT PySem.F.entry_zip_next
  (mT D1 D2 D hz hTI hTO st1 st2 l1 l2 fun x y h' tk r1 r2 r3 r4 r5 r6 r7 r8=>xAe (q x y h' tk r1 r2 r3 r4 r5 r6 r7 r8)) (PySem.F.args_zip_next_1 _))))
theorem lN {Q:Option Value→Shared→Prop} (D1:Draws prog w A.in1 i1 f1 n1 P1 S1) (D:ZAp z TI TO i1 i2 f1 f2) (hz:IsZip s.heap z TI TO .none) (hTI:IsPair s.heap TI (.ref i1) (.ref i2)) (st1:S1 n1 s.heap)
  (q:∀ h',(∀ c o,c≠z→c≠TO→c≠i1→c≠i2→s.heap.get? c=some o→h'.get? c=some o)→Q none { s with heap:=h' }):wpAny (model prog w) A (pyNext (.ref z)) Q E s:=by
 have hT:s.TypeIs (.ref z) "zip":=⟨_,hz,rfl⟩
 unfold pyNext
 refine xAd (wpAny_attempt (wpAny_callSpecial?_slot (name:=Str.ofString "__next__") hT PySem.F.slot_zip_next (wpAny_call_entry PySem.F.slot_zip_next hT PySem.F.entry_zip_next (mU D1 D hz hTI st1 fun h' e hk he=>?_) (PySem.F.args_zip_next_1 _))))
 obtain ⟨o,ho,hc⟩:=he
 exact xAd (wpAny_isInstance (T:="StopIteration") (b:=true) ⟨o,ho,hc⟩ isSubtype_stop (xAe (q _ hk)))
end
def IterTo (v:Value) (o:Obj) (h:Heap):Prop:=∀ (prog:Program) (w:World) (A:Around) (E:Value→Shared→Prop) (s:Shared) (Q:Value→Shared→Prop),s.heap=h→Q (.ref s.heap.objs.size) { s with heap:=s.heap.push o }→wpAny (model prog w) A (pyIter v) Q E s
theorem kX {prog:Program} {w:World} {A:Around} {E:Value→Shared→Prop} {s:Shared} {Q:Value→Shared→Prop} {v:Value} {o:Obj} (i:IterTo v o s.heap) (h:Q (.ref s.heap.objs.size) { s with heap:=s.heap.push o }):wpAny (model prog w) A (pyIter v) Q E s:=i _ _ _ _ _ _ rfl h
abbrev zh3 (h:Heap) (o1 o2:Obj):Heap:=((h.push o1).push o2).push { cls:=.type "tuple",data:=.seq #[.ref h.objs.size,.ref (h.push o1).objs.size] }
abbrev zh4 (h:Heap) (o1 o2:Obj):Heap:=(zh3 h o1 o2).push { cls:=.type "tuple",data:=.seq #[.none,.none] }
abbrev zh5 (h:Heap) (o1 o2:Obj):Heap:=(zh4 h o1 o2).push { cls:=.type "zip",data:=.fields #[.none,.bool false,.bool false,.ref ((h.push o1).push o2).objs.size,.ref (zh3 h o1 o2).objs.size] }
theorem pE (v1 v2:Value) (o1 o2:Obj):Meets (Builtin.«zip.__new__» ⟨[.type "zip",v1,v2],[]⟩) (fun _ R s=>IterTo v1 o1 s.heap∧IterTo v2 o2 (s.heap.push o1)∧R (.ok (.ret (.ref (zh4 s.heap o1 o2).objs.size))) { s with heap:=zh5 s.heap o1 o2 }) :=
 .of_wp fun prog w A R s h=>by
  obtain ⟨hp,g,d,tk,os⟩:=s
  obtain ⟨hl1,hl2,h⟩:=h
  have hsub:=sub_zip
  have j1:IterTo v1 o1 (Shared.heap ⟨hp,g,d,tk,os⟩):=hl1
  have j2:IterTo v2 o2 (Shared.heap ⟨hp.push o1,g,d,tk,os⟩):=hl2
  wp_walk using kX j1,kX j2
  exact ⟨_,rfl,h⟩
theorem mV {prog:Program} {w:World} {A:Around} {E:Value→Shared→Prop} {s:Shared} {v1 v2:Value} {o1 o2:Obj} {Q:Value→Shared→Prop} (j1:IterTo v1 o1 s.heap) (j2:IterTo v2 o2 (s.heap.push o1))
  (q:∀ h',IsZip h' (s.heap.objs.size+4) (s.heap.objs.size+2) (s.heap.objs.size+3) .none→IsPair h' (s.heap.objs.size+2) (.ref s.heap.objs.size) (.ref (s.heap.objs.size+1))→IsPair h' (s.heap.objs.size+3) .none .none →
   (o1.isFreed=false→h'.get? s.heap.objs.size=some o1)→(o2.isFreed=false→h'.get? (s.heap.objs.size+1)=some o2)→(∀ c o,s.heap.get? c=some o→h'.get? c=some o)→Q (.ref (s.heap.objs.size+4)) { s with heap:=h' }) :
  wpAny (model prog w) A (call (.type "zip") [v1,v2]) Q E s:=by
 refine callType_new PySem.F.called_zip (by decide) (PySem.F.typeCall_zip_2 _ _) (PySem.F.newCall_zip_2 _ _) (fun obj=>PySem.F.args_object_init_3 obj _ _) PySem.F.entry_zip_new (pE v1 v2 o1 o2) ⟨j1,j2,?_⟩
 have e1:(s.heap.push o1).objs.size=s.heap.objs.size+1:=Heap.size_push ..
 have e2:((s.heap.push o1).push o2).objs.size=s.heap.objs.size+2:=by rw [Heap.size_push,e1]
 have e3:(zh3 s.heap o1 o2).objs.size=s.heap.objs.size+3:=by rw [Heap.size_push,e2]
 have e4:(zh4 s.heap o1 o2).objs.size=s.heap.objs.size+4:=by rw [Heap.size_push,e3]
 have g5:(zh5 s.heap o1 o2).get? (zh4 s.heap o1 o2).objs.size=some _:=xAl _ rfl
 have g4:(zh5 s.heap o1 o2).get? (zh3 s.heap o1 o2).objs.size=some _:=xAf _ (xAl _ rfl)
 have g3:(zh5 s.heap o1 o2).get? ((s.heap.push o1).push o2).objs.size=some _:=xAf _ (xAf _ (xAl _ rfl))
 have g2:o2.isFreed=false→(zh5 s.heap o1 o2).get? (s.heap.push o1).objs.size=some o2:=fun f=>xAf _ (xAf _ (xAf _ (xAl _ f)))
 have g1:o1.isFreed=false→(zh5 s.heap o1 o2).get? s.heap.objs.size=some o1:=fun f=>xAf _ (xAf _ (xAf _ (xAf _ (xAl _ f))))
 change _∧_
 rw [e2,e3,e4] at g5
 rw [e1,e2] at g3
 rw [e3] at g4
 rw [e1] at g2
 rw [e4]
 exact ⟨⟨_,g5,rfl⟩,q _ g5 g3 g4 g1 g2 fun c o x=>xAf _ (xAf _ (xAf _ (xAf _ (xAf _ x))))⟩
end RevA
namespace L2
open PySem PySem.Spec PyProof.Rows RevA
def sgs (z:Str):List V:=z.cps.toList.map fun c=>.str ⟨#[c]⟩
def sqV (K:xFr) (H:Hp) (x:V) (xs:List V):Prop:=(∃ a,x = .ref a∧SqT K H a xs)∨∃ z,x = .str z∧xs=sgs z
structure Src (P:Program) (w:World) (K:xFr) (lim:Nat) (x:V) (it:Addr) (tn:Nat→Heap→Prop):Prop where
 obj:∀ i h,tn i h→∃ o,h.get? it=some o∧∀ v,o.data≠.cell v
 keep:∀ i h h',tn i h→(∀ o,h.get? it=some o→h'.get? it=some o)→tn i h'
 dr:∀ (X:Cx),X.prog=P→X.w=w→X.K=K→X.calm=true→∀ (pins:List (Addr×Obj)) (σ:St) (H:Hp) (s:Shared),Inv X pins σ H s→∀ xs,sqV K H x xs→∃ (f:List Addr) (Pv:Nat→Value→Prop) (S:Nat→Heap→Prop),
  (∀ b∈f,b=it∨b<lim)∧Draws P w X.A.in1 it f xs.length Pv S∧(∀ i,tn i s.heap→S i s.heap)∧(∀ i h,S i h→tn i h)∧(∀ i v,Pv i v→∃ u,xs[i]?=some u∧RelV u v)∧∀ ys,sqV K H x ys→ys=xs
theorem pM {P:Program} {w:World} {K:xFr} {lim:Nat} {a it:Addr} (ha:a<lim) (hi:lim≤it):Src P w K lim (.ref a) it (fun i h=>h.IsTupleIter it a i) where
 obj:=fun i h ⟨o,e,_,d⟩=>⟨o,e,fun v z=>by rw [d] at z;cases z⟩
 keep:=fun i h h' st k=>st.at fun o e=>k o e
 dr:=by
  intro X hP hw hK hc pins σ H s I xs hx
  subst hP hw hK
  rcases hx with ⟨b,e,hx⟩ | ⟨z,e,_⟩
  ·cases e
   obtain ⟨its,rv,p,hz⟩:=I.tuple hx
   have hl:=rv.length
   have D:=drawsT (prog:=X.prog) (w:=X.w) (A:=X.A.in1) (by simpa using I.ok.hd hc) it a (xA0 (xBc ha hi)) its.toArray
   rw [xAp,← hl] at D
   refine ⟨_,_,_,fun b hb=>?_,D,fun i st=>⟨st,p⟩,fun i h st=>st.1,fun i v hv=>?_,fun ys hy=>?_⟩
   ·simp only [xAv,xBv,or_false] at hb
    rcases hb with rfl | rfl
    ·exact .inl rfl
    ·exact .inr ha
   ·have hv:its[i]?=some v:=by simpa using hv
    have hi:i<xs.length:=by rw [hl];exact (xAq.mp hv).1
    obtain ⟨u,hu,ru⟩:=rv.get (xAk hi)
    rw [hv] at hu
    cases hu
    exact ⟨_,xAk hi,ru⟩
   ·rcases hy with ⟨b,e,hy⟩ | ⟨z,e,_⟩
    ·cases e
     exact I.tuple_inj hy hx
    ·cases e
  ·cases e
theorem kn {P:Program} {w:World} {K:xFr} {lim:Nat} {z:Str} {t:Tok} {it:Addr} {ty:String} (hD:∀ A':Around,A'.handled=none→Draws P w A' it [it] z.cps.size (fun i v=>∃ c u,z.cps[i]?=some c∧v = .str ⟨#[c]⟩ u) (fun i h=>h.IsStrIter it ty z t i)) :
  Src P w K lim (.str z) it (fun i h=>h.IsStrIter it ty z t i) where
 obj:=fun i h ⟨o,e,_,d⟩=>⟨o,e,fun v z=>by rw [d] at z;cases z⟩
 keep:=fun i h h' ⟨o,e,r⟩ k=>⟨o,k o e,r⟩
 dr:=by
  intro X hP hw hK hc pins σ H s I xs hx
  subst hP hw hK
  rcases hx with ⟨b,e,hx⟩ | ⟨z',e,rfl⟩
  ·cases e
  ·cases e
   have D:=hD X.A.in1 (by simpa using I.ok.hd hc)
   rw [show z.cps.size=(sgs z).length by simp [sgs]] at D
   refine ⟨_,_,_,fun b hb=>.inl (by simpa using hb),D,fun i st=>st,fun i h st=>st,fun i v ⟨c,u,hc,e⟩=>⟨.str ⟨#[c]⟩,?_,u,e⟩,fun ys hy=>?_⟩
   ·simp [sgs,hc]
   ·rcases hy with ⟨b,e,hy⟩ | ⟨z',e,rfl⟩
    ·cases e
    ·cases e
     rfl
def Itg (K:xFr) (x y:V):It :=
 ⟨fun i H=>∃ xs ys u v,sqV K H x xs∧sqV K H y ys∧xs[i]?=some u∧ys[i]?=some v,
  fun i H p H'=>∃ (q:Addr) (u v:V),p = .ref q∧H q=none∧H'=upd H q (.tup [u,v])∧(∀ xs,sqV K H x xs→xs[i]?=some u)∧∀ ys,sqV K H y ys→ys[i]?=some v,
  fun i H=>∃ xs,sqV K H x xs∧xs.length=i⟩
theorem mW {n:Nat} {f1 f2:List Addr} (m1:∀ b∈f1,b=n∨b<n) (m2:∀ b∈f2,b=n+1∨b<n):ZAp (n+4) (n+2) (n+3) n (n+1) f1 f2:=by
 have w1:∀ c:Nat,n<c→c ∉ f1:=fun c hc z=>by
  rcases m1 c z with e | e
  ·exact Nat.ne_of_gt hc e
  ·exact Nat.not_lt_of_lt hc e
 have w2:∀ c:Nat,n≤c→c≠n+1→c ∉ f2:=fun c hc hn z=>by
  rcases m2 c z with e | e
  ·exact hn e
  ·exact Nat.not_lt_of_le hc e
 exact ⟨by simp,by simp,by simp [xA0],by simp,by simp,by simp,by simp,by simp,by simp,by simp,w1 _ (by lia),w2 _ (by lia) (by simp),w1 _ (by lia),w2 _ (by lia) (by simp),w2 _ (xAg _) (by simp),w1 _ (by lia)⟩
theorem lR {P:Program} {w:World} {K:xFr} {elts:List Expr} {k:Nat} {pos:Pos} {x y:V} {n:Nat} {t1 t2:Nat→Heap→Prop} (s1:Src P w K n x n t1) (s2:Src P w K n y (n+1) t2) :
  Turn P w K (.Tuple elts k pos) (Itg K x y) [n+4,n+2,n+3,n,n+1] (n+4) (fun i h=>IsZip h (n+4) (n+2) (n+3) .none∧IsPair h (n+2) (.ref n) (.ref (n+1))∧(∃ x y,IsPair h (n+3) x y)∧t1 i h∧t2 i h) where
 mem:=by simp
 obj:=fun i h st c hc=>by
  obtain ⟨q1,q2,⟨x,y,q3⟩,q4,q5⟩:=st
  simp only [xAv,xBv,or_false] at hc
  rcases hc with rfl | rfl | rfl | rfl | rfl
  ·exact ⟨_,q1,fun v z=>by cases z⟩
  ·exact ⟨_,q2,fun v z=>by cases z⟩
  ·exact ⟨_,q3,fun v z=>by cases z⟩
  ·exact s1.obj i h q4
  ·exact s2.obj i h q5
 keep:=fun i h h' st k=>by
  obtain ⟨q1,q2,⟨x,y,q3⟩,q4,q5⟩:=st
  exact ⟨k _ (by simp) _ q1,k _ (by simp) _ q2,⟨x,y,k _ (by simp) _ q3⟩,s1.keep i h h' q4 fun o e=>k _ (by simp) o e,s2.keep i h h' q5 fun o e=>k _ (by simp) o e⟩
 item:=by
  intro X hP hw hK hc i pins s σ H E I hf st hg
  subst hP hw hK
  obtain ⟨xs,ys,u,v,hq,hr,hx,hy⟩:=hg
  obtain ⟨q1,q2,⟨x0,y0,q3⟩,q4,q5⟩:=st
  obtain ⟨f1,P1,S1,m1,D1,a1,c1,r1,j1⟩:=s1.dr X rfl rfl rfl hc pins σ H s I xs hq
  obtain ⟨f2,P2,S2,m2,D2,a2,c2,r2,j2⟩:=s2.dr X rfl rfl rfl hc pins σ H s I ys hr
  have AP:=mW (f1:=f1) (f2:=f2) m1 m2
  have lz:n+4<s.heap.objs.size:=xA1 q1
  have h0:H s.heap.objs.size=none:=I.hok.fresh (xAg _)
  refine lM D1 D2 AP q1 q2 q3 (a1 i q4) (a2 i q5) (xAq.mp hx).1 (xAq.mp hy).1 fun u1 v1 h1 tk p1 p2 b1 b2 b3 b4 b5 hk=>?_
  obtain ⟨u',hu',ru⟩:=r1 i u1 p1
  rw [hx] at hu'
  cases hu'
  obtain ⟨v',hv',rv⟩:=r2 i v1 p2
  rw [hy] at hv'
  cases hv'
  have I1:Inv X pins σ (upd H s.heap.objs.size (.tup [u,v])) { s with heap:=s.heap.push { cls:=.type "tuple",data:=.seq #[u1,v1] },toks:=tk }:=by
   refine I.laid (fun b o e=>xAf _ e) (xAg _) ⟨by simp [sizeLine_eq],[u1,v1],.cons ru (.cons rv .nil),_,xAl _ rfl,rfl,_,rfl⟩
  refine ⟨_,rfl,wpAny_letOwnedTupleGo_zip (s:={ s with heap:=h1,toks:=tk }) b1 fun h2 e1 hs2=>?_⟩
  have hs2':Heap.SameBut (n+4) h1 h2:=hs2
  have fp':∀ b∈[n+4,n+2,n+3,n,n+1],FpOk X pins (upd H s.heap.objs.size (.tup [u,v])) b:=fun b hb=>by
   obtain ⟨f0,f⟩:=hf b hb
   refine ⟨?_,f⟩
   rw [am]
   ·exact f0
   ·simp only [xAv,xBv,or_false] at hb
    rcases hb with rfl | rfl | rfl | rfl | rfl <;> exact xA0 (by lia)
  have I2:=Inv.turnedL (t':=tk) (h':=h2) (fp:=[n+4,n+2,n+3,n,n+1]) I1 (fun b o hb eb=>?_) fp'
  ·refine ⟨.ref s.heap.objs.size,_,I2,rfl,⟨_,u,v,rfl,h0,rfl,fun zs hz=>by rw [j1 zs hz];exact hx,fun zs hz=>by rw [j2 zs hz];exact hy⟩,⟨e1,?_,⟨u1,v1,?_⟩,?_,?_⟩,fun b hb=>(fp' b hb).1⟩
   ·exact (hs2'.2 _ AP.q1).trans (hk _ _ AP.q1 AP.q5 AP.q6 AP.q7 q2)
   ·exact (hs2'.2 _ AP.q2).trans b2
   ·exact s1.keep _ _ _ (c1 _ _ b3) fun o e=>(hs2'.2 _ AP.q3).trans e
   ·exact s2.keep _ _ _ (c2 _ _ b4) fun o e=>(hs2'.2 _ AP.q4).trans e
  ·simp only [xAv,xBv,or_false,not_or] at hb
   rw [hs2'.2 b hb.1]
   by_cases zz:b=s.heap.objs.size
   ·subst zz
    rw [show h1.get? s.heap.objs.size=_ from b5]
    rw [← eb]
    exact (xAl _ rfl).symm
   ·refine hk b o hb.1 hb.2.2.1 hb.2.2.2.1 hb.2.2.2.2 ?_
    exact (Heap.get?_push_cases eb).elim (fun y=>absurd y.1 zz) id
 done:=by
  intro X hP hw hK hc i pins s σ H E I hf st hg
  subst hP hw hK
  obtain ⟨xs,hq,rfl⟩:=hg
  obtain ⟨q1,q2,⟨x0,y0,q3⟩,q4,q5⟩:=st
  obtain ⟨f1,P1,S1,m1,D1,a1,c1,r1,j1⟩:=s1.dr X rfl rfl rfl hc pins σ H s I xs hq
  have AP:=mW (f1:=f1) (f2:=[]) m1 fun b hb=>nomatch hb
  refine lN D1 AP q1 q2 (a1 _ q4) fun h' eb=>⟨rfl,Inv.turnedL (t':=s.toks) (fp:=[n+4,n+2,n+3,n,n+1]) I (fun b o hb e=>?_) hf⟩
  simp only [xAv,xBv,or_false,not_or] at hb
  exact eb b o hb.1 hb.2.2.1 hb.2.2.2.1 hb.2.2.2.2 e
 self:=fun _ _ _ _ _ st h=>wpAny_pyIter_zip st.1 h
def nIterZg (K:xFr) (vs:List V) (H:Hp) (R:It→Hp→Prop):Prop:=∃ x y,vs=[x,y]∧(∃ xs,sqV K H x xs)∧(∃ ys,sqV K H y ys)∧R (Itg K x y) H
def iZipg (K:xFr) (ta:TA):TI:=fun σ H R=>ta σ H fun vs H1=>nIterZg K vs H1 R
section
variable {X:Cx}
theorem nj {pins:List (Addr×Obj)} {σ:St} {H:Hp} {s:Shared} {x:V} {v:Value} (I:Inv X pins σ H s) (r:RelV x v) {xs:List V} (h:sqV X.K H x xs) (lim it:Nat) (hl:s.heap.objs.size≤lim) (hi:lim≤it) :
  ∃ (o:Obj) (tn:Nat→Heap→Prop),(∀ h',(∀ c o,s.heap.get? c=some o→h'.get? c=some o)→IterTo v o h')∧o.isFreed=false∧Src X.prog X.w X.K lim x it tn∧∀ h',h'.get? it=some o→tn 0 h':=by
 rcases h with ⟨a,rfl,hx⟩ | ⟨z,rfl,rfl⟩
 ·obtain rfl:v=Value.ref a:=r
  obtain ⟨its,rv,p,hz⟩:=I.tuple hx
  have ha:a<s.heap.objs.size:=by obtain ⟨o,e,_⟩:=p;exact xA1 e
  refine ⟨tiObj a,_,fun h' k=>?_,rfl,pM (xBc ha hl) hi,fun h' e=>⟨_,e,rfl,rfl⟩⟩
  intro prog w A E s' Q e q
  subst e
  obtain ⟨o,e,r⟩:=p
  exact wpAny_pyIter_tuple (items:=its.toArray) ⟨o,k _ _ e,r⟩ q
 ·obtain ⟨t,rfl⟩:=r
  cases ha:z.cps.all (·<128)
  ·refine ⟨{ cls:=.type "str_iterator",data:=.fields #[.str z t,.int 0 0] },_,fun h' k=>?_,rfl,kn (ty:="str_iterator") (t:=t) fun A' hA=>Draws.strWide hA it z t,fun h' e=>⟨_,e,rfl,rfl⟩⟩
   intro prog w A E s' Q e q
   exact wpAny_pyIter_wide ha q
  ·refine ⟨{ cls:=.type "str_ascii_iterator",data:=.fields #[.str z t,.int 0 0] },_,fun h' k=>?_,rfl,kn (ty:="str_ascii_iterator") (t:=t) fun A' hA=>Draws.strAscii hA it z t,fun h' e=>⟨_,e,rfl,rfl⟩⟩
   intro prog w A E s' Q e q
   exact wpAny_pyIter_ascii ha q
theorem qz {a b:Expr} {ta:TA} {p pos pt:Pos} {elts:List Expr} {k:Nat} (hg:Gl X "zip") (hm:X.mg "zip"=none) (ha:PA X [a,b] ta) (hs:starEach [a,b] X.env=(false,eval a X.env)::starEach [b] X.env) (hs2:starEach [b] X.env=[(false,eval b X.env)]) :
  PI X (.Tuple elts k pt) (.Call (.Name "zip" p) [a,b] [] pos) (iZipg X.K ta):=by
 intro pins s σ H R I h
 refine Call_ (dM I hg hm jD (PyProof.Rows.callWith_type1 (thn (ha pos pins s σ H _ I h) fun us s1 ⟨vs,H1,I1,r1,q1⟩=>?_) hs (by rw [hs2];rfl)))
 obtain ⟨x,y,e,⟨xs,hq⟩,⟨ys,hr⟩,q⟩:=q1
 subst e
 cases r1 with
 | cons r rr =>
  cases rr with
  | cons r2 rr =>
   cases rr
   obtain ⟨o1,t1,j1,fr1,S1,z1⟩:=nj I1 r hq s1.heap.objs.size s1.heap.objs.size (xAg _) (xAg _)
   obtain ⟨o2,t2,j2,fr2,S2,z2⟩:=nj I1 r2 hr s1.heap.objs.size (s1.heap.objs.size+1) (xAg _) (Nat.le_succ _)
   refine mV (j1 _ fun _ _ e=>e) (j2 _ fun _ _ e=>xAf _ e) fun h' a1 a2 a3 a4 a5 hk=>?_
   refine wpAny_pyIter_zip a1 ?_
   have I2:Inv X pins σ H1 { s1 with heap:=h' }:=I1.kept (t':=s1.toks) hk
   refine ⟨s1.heap.objs.size+4,[s1.heap.objs.size+4,s1.heap.objs.size+2,s1.heap.objs.size+3,s1.heap.objs.size,s1.heap.objs.size+1],_,_,H1,rfl,I2,lR S1 S2,⟨a1,a2,⟨_,_,a3⟩,z1 _ (a4 fr1),z2 _ (a5 fr2)⟩,fun b hb=>?_,q⟩
   have hb':s1.heap.objs.size≤b:=by
    simp only [xAv,xBv,or_false] at hb
    rcases hb with rfl | rfl | rfl | rfl | rfl <;> lia
   exact I1.fpOk hb' (I1.hok.fresh hb')
theorem kJ {a b:Expr} {tas:TA} {p pos pt:Pos} {elts:List Expr} {k:Nat} (hg:Gl X "zip") (hm:X.mg "zip"=none) (ha:QA X [a,b] tas) (h:noStar a=true:=by rfl) (h2:noStar b=true:=by rfl):QI X (.Tuple elts k pt) (.Call (.Name "zip" p) [a,b] [] pos) (iZipg X.K tas) :=
 ⟨qz hg hm ha.h (ay h) (by rw [ay h2];rfl)⟩
end
section
variable {K:xFr} {σ:St} {H:Hp} {R:It→Hp→Prop} {tas:TA} {x y:V} {xs ys:List V}
theorem uN (h:tas σ H fun vs H1=>nIterZg K vs H1 R):iZipg K tas σ H R:=h
theorem iY (e:sqV K H x xs) (e2:sqV K H y ys) (h:R (Itg K x y) H):nIterZg K [x,y] H R:=⟨x,y,rfl,⟨xs,e⟩,⟨ys,e2⟩,h⟩
theorem kg (hl:xs.length=ys.length):Wk (Itg K x y) (fun H=>sqV K H x xs∧sqV K H y ys) xs.length (fun i H p H'=>∃ (q:Addr) (u v:V),p = .ref q∧H q=none∧H'=upd H q (.tup [u,v])∧xs[i]?=some u∧ys[i]?=some v) :=
 ⟨fun i H p h=>⟨xs,ys,xs[i],ys[i]'(by lia),p.1,p.2,by simp [h],by simp⟩,fun i H p H' s h ⟨q,u,v,y1,y2,y3,y4,y5⟩=>⟨q,u,v,y1,y2,y3,y4 xs s.1,y5 ys s.2⟩,fun H p=>⟨xs,p.1,rfl⟩⟩
end
end L2
namespace Row
open PySem PySem.NumText PySem.StrLaws PyProof.Rows L2
abbrev tl (x:Str):List Nat:=x.cps.toList
theorem ext {x y:Str} (h:tl x=tl y):x=y:=Str.ext' (Array.toList_inj.mp h)
theorem aD (x y:Str):tl (x++y)=tl x++tl y:=by show (x.cps++y.cps).toList=_;rw [xB1]
theorem bL (x:Str):(tl x).length=x.length:=by simp [tl,Str.length]
theorem uu (l:List Nat):tl ⟨l.toArray⟩=l:=rfl
abbrev one (c:Nat):Str:=⟨#[c]⟩
theorem gY (c:Nat):tl (one c)=[c]:=rfl
theorem ph {c:Nat}:∀ {a b r s:List Nat},c ∉ a→c ∉ b→a++c::r=b++c::s→a=b∧r=s
 | [],[],_,_,_,_,h=>⟨rfl,(List.cons.inj h).2⟩
 | [],y::b,_,_,_,hb,h=>(hb (by rw [(List.cons.inj h).1];exact xAr ..)).elim
 | x::a,[],_,_,ha,_,h=>(ha (by rw [← (List.cons.inj h).1];exact xAr ..)).elim
 | x::a,y::b,_,_,ha,hb,h=>by
  have h':=List.cons.inj h
  obtain ⟨e1,e2⟩:=ph (fun z=>ha (xAs _ z)) (fun z=>hb (xAs _ z)) h'.2
  exact ⟨by rw [h'.1,e1],e2⟩
theorem bp (s x y:Str) (r:List Str):Str.join s (x::y::r)=x++s++Str.join s (y::r):=rfl
theorem uniq {c:Nat}:∀ {ws us:List Str},ws≠[]→us≠[]→(∀ w∈ws,c ∉ tl w)→(∀ u∈us,c ∉ tl u)→Str.join (one c) ws=Str.join (one c) us→ws=us
 | [],_,h,_,_,_,_=>(h rfl).elim
 | _,[],_,h,_,_,_=>(h rfl).elim
 | [x],[y],_,_,_,_,e=>by rw [show x=y from e]
 | [x],y::z::r,_,_,hx,_,e=>by
  have e:x=y++one c++Str.join (one c) (z::r):=e
  refine (hx x (xAr ..) ?_).elim
  rw [e,aD,aD]
  simp
 | x::z::r,[y],_,_,_,hy,e=>by
  have e:x++one c++Str.join (one c) (z::r)=y:=e
  refine (hy y (xAr ..) ?_).elim
  rw [← e,aD,aD]
  simp
 | x::z::r,y::v::s,_,_,hx,hy,e=>by
  have e:x++one c++Str.join (one c) (z::r)=y++one c++Str.join (one c) (v::s):=e
  have e':=congrArg tl e
  rw [aD,aD,aD,aD,gY,xAx,xAx] at e'
  obtain ⟨e1,e2⟩:=ph (hx x (xAr ..)) (hy y (xAr ..)) e'
  have:=uniq (c:=c) (ws:=z::r) (us:=v::s) (by simp) (by simp) (fun w hw=>hx w (xAs _ hw)) (fun w hw=>hy w (xAs _ hw)) (ext e2)
  rw [ext e1,this]
theorem dG (x y:Str):Txt.split x y≠[]:=by
 unfold Txt.split
 split
 ·simp
 ·split
  ·simp
  ·rw [partsBetween_eq]
   obtain ⟨p,r,e⟩:=partsFrom_ne x y.length 0 (Builtin.Str.occurrences x y 0 x.length (x.length+1))
   rw [e]
   simp
theorem cI {c:Nat} {ws:List Str} (h:ws≠[]) (hf:∀ w∈ws,c ∉ tl w):Txt.split (Str.join (one c) ws) (one c)=ws :=
 uniq (dG _ _) h (split_free _ c) hf (join_split _ _)
theorem lV {c:Nat} {x y:Str}:Txt.split (x++one c++y) (one c)=Txt.split x (one c)++Txt.split y (one c):=by
 have e:∀ (as bs:List Str),as≠[]→bs≠[]→Str.join (one c) (as++bs)=Str.join (one c) as++one c++Str.join (one c) bs:=by
  intro as
  induction as with
  | nil=>intro bs h;exact (h rfl).elim
  | cons a as ih =>
   intro bs _ hb
   cases as with
   | nil =>
    cases bs with
    | nil=>exact (hb rfl).elim
    | cons b bs=>rfl
   | cons a' as =>
    have:=ih bs (by simp) hb
    rw [List.cons_append,List.cons_append,bp,bp]
    rw [List.cons_append] at this
    rw [this]
    apply ext
    simp only [aD,xAx]
 refine uniq (dG _ _) (by simp [dG]) (split_free _ c) (fun w hw=>?_) ?_
 ·rcases xAj.mp hw with h | h
  ·exact split_free _ c w h
  ·exact split_free _ c w h
 ·rw [join_split,e _ _ (dG _ _) (dG _ _),join_split,join_split]
theorem fQ {c:Nat} {x:Str} (h:c ∉ tl x):Txt.split x (one c)=[x]:=cI (ws:=[x]) (by simp) (by simpa using h)
theorem fR {c:Nat}:∀ {ts:List Str},ts≠[]→Txt.split (Str.join (one c) ts) (one c)=ts.flatMap fun t=>Txt.split t (one c)
 | [],h=>(h rfl).elim
 | [x],_=>by simp [Str.join]
 | x::y::r,_=>by
  rw [bp,lV,fR (by simp)]
  simp only [List.flatMap_cons]
theorem eO {s:Str} {c:Nat}:∀ {ts:List Str},c∈tl (Str.join s ts)→c∈tl s∨∃ t∈ts,c∈tl t
 | [],h=>by simp [Str.join,Str.empty,tl] at h
 | [x],h=>.inr ⟨x,by simp,h⟩
 | x::y::r,h=>by
  rw [bp,aD,aD] at h
  rcases xAj.mp h with h | h
  ·rcases xAj.mp h with h | h
   ·exact .inr ⟨x,by simp,h⟩
   ·exact .inl h
  ·rcases eO h with h | ⟨t,ht,h⟩
   ·exact .inl h
   ·exact .inr ⟨t,xAs _ ht,h⟩
theorem bH {s:Str} {B:Nat}:∀ {ts:List Str},(∀ t∈ts,t.length+s.length≤B)→(Str.join s ts).length≤ts.length * B
 | [],_=>xBn _
 | [x],h=>by
  have:=h x (by simp)
  show x.length≤_
  simp only [xAt,Nat.one_mul]
  lia
 | x::y::r,h=>by
  have h1:=h x (by simp)
  have h2:=bH (ts:=y::r) fun t ht=>h t (xAs _ ht)
  rw [bp,strLen_append,strLen_append]
  rw [xAo,Nat.succ_mul]
  lia
theorem split_len (x:Str) (c:Nat):(Txt.split x (one c)).length≤x.length+1:=by
 have e:=join_split x (one c)
 have g:∀ ts:List Str,ts.length≤(Str.join (one c) ts).length+1:=by
  intro ts
  induction ts with
  | nil=>simp
  | cons t ts ih =>
   cases ts with
   | nil=>simp
   | cons u ts =>
    rw [bp,strLen_append,strLen_append,xAo]
    have:(one c).length=1:=rfl
    lia
 have:=g (Txt.split x (one c))
 rw [e] at this
 exact this
theorem lU (x:Str) (c:Nat):(decide (0+(one c).length≤x.length) && Builtin.Str.subAt x (one c) 0)=decide ((tl x).head?=some c):=by
 rw [subAt_eq]
 obtain ⟨⟨l⟩⟩:=x
 cases l with
 | nil=>rfl
 | cons a l =>
  show (decide (0+1≤(a::l).length) && (([a]:List Nat) == [c]))=_
  by_cases e:a=c
  ·subst e;simp [tl]
  ·simp [e,tl]
theorem rz (x:Str) (c:Nat):(decide (0+(one c).length≤x.length) && Builtin.Str.subAt x (one c) (x.length - (one c).length))=decide ((tl x).getLast?=some c):=by
 rw [subAt_eq]
 obtain ⟨⟨l⟩⟩:=x
 rcases List.eq_nil_or_concat l with rfl | ⟨r,a,rfl⟩
 ·rfl
 ·rw [List.concat_eq_append]
  show (decide (0+1≤(r++[a]).length) && (((r++[a]).drop ((r++[a]).length - 1)).take 1 == [c]))=_
  rw [xAb,xAt,Nat.add_sub_cancel,List.drop_left]
  by_cases e:a=c
  ·subst e;simp [tl]
  ·simp [e,tl]
theorem pick {l:List Nat}:∀ (m a:Nat),a+m≤l.length→((List.range m).map fun i=>(a+i:Nat)).filterMap (fun i=>l[i]?)=(l.drop a).take m
 | 0,_,_=>by simp
 | m+1,a,h=>by
  have hm:=pick (l:=l) m (a+1) (by omega)
  rw [List.range_succ_eq_map,xBs,xCc]
  have e:(List.range m).map ((fun i=>(a+i:Nat)) ∘ Nat.succ)=(List.range m).map fun i=>(a+1+i:Nat):=List.map_congr_left fun i _=>by show a+(i+1)=a+1+i;omega
  rw [e,List.filterMap_cons_some (b:=l[a]'(by omega)) (by simp),hm]
  rw [xB2 (l:=l) (i:=a) (by omega),List.take_succ_cons]
theorem iR {x:Str} {lo hi:Option Int} {m:Nat} (h:Builtin.Str.strSliceIndices lo hi 1 x.length=(List.range m).map fun i=>(1+i:Nat)) (hm:1+m≤x.length):Txt.slice x lo hi=⟨(((tl x).drop 1).take m).toArray⟩:=by
 unfold Txt.slice
 rw [h,xCf (by simp;lia),← pick m 1 (by rw [bL];exact hm)]
 congr 2
 simp
theorem sr (m:Nat):sliceRange 1 ((m:Int)+1) 1=(List.range m).map fun i=>(1+i:Nat):=by
 unfold sliceRange
 have e:(if (1:Int) > 0 then (if (1:Int)<(m:Int)+1 then ((m:Int)+1 - 1+1 - 1) / 1 else 0) else (if (1:Int) > (m:Int)+1 then (1 - ((m:Int)+1) - 1 - 1) / (-1) else 0)).toNat=m:=by
  rw [xCg (by decide)]
  split <;> lia
 simp only [e]
 exact List.map_congr_left fun i _=>by lia
theorem fS {x:Str} (h:0<x.length):Txt.slice x (some 1) none=⟨((tl x).drop 1).toArray⟩:=by
 rw [iR (m:=x.length - 1) ?_ (by lia),List.take_of_length_le (by rw [List.length_drop,bL];lia)]
 rw [← sr]
 unfold Builtin.Str.strSliceIndices
 simp only [show (1:Int) > 0 by decide,if_true,show ¬ ((1:Int)<0) by decide,if_false]
 congr 1 <;> lia
theorem lW {x:Str} (h:2≤x.length):Txt.slice x (some 1) (some (-1))=⟨(((tl x).drop 1).dropLast).toArray⟩:=by
 rw [iR (m:=x.length - 2) ?_ (by lia),List.dropLast_eq_take,List.length_drop,bL,Nat.sub_sub]
 rw [← sr]
 unfold Builtin.Str.strSliceIndices
 simp only [show (1:Int) > 0 by decide,if_true,show ¬ ((1:Int)<0) by decide,if_false,show ((-1:Int)<0) by decide]
 congr 1 <;> lia
abbrev tx (n:Int):Str:=PySem.Str.ofString (toString n)
structure Fig (z:Str):Prop where
 dig:AllDigits (tl z)
 pos:0<z.length
 few:z.length≤12
 lead:z=one 48∨(tl z).head?≠some 48
theorem dlen:∀ (k:Nat) {m:Nat},m<10 ^ (k+1)→(Nat.toDigits 10 m).length≤k+1
 | 0,m,h=>by rw [Nat.toDigits_of_lt_base (by lia)];simp
 | k+1,m,h=>by
  by_cases hm:m<10
  ·rw [Nat.toDigits_of_lt_base hm];simp
  ·have hr:m % 10<10:=Nat.mod_lt m (by decide)
   have t:Nat.toDigits 10 (m / 10)++Nat.toDigits 10 (m % 10)=Nat.toDigits 10 (10 * (m / 10)+m % 10):=Nat.toDigits_append_toDigits (by decide) (by lia) hr
   rw [Nat.div_add_mod] at t
   rw [← t,xAb,Nat.toDigits_of_lt_base hr]
   have:=dlen k (m:=m / 10) (by rw [Nat.pow_succ] at h;lia)
   simp
   lia
theorem dhead (m:Nat) (h0:0<m):((Nat.toDigits 10 m).map Char.toNat).head?≠some 48∧(Nat.toDigits 10 m)≠[]:=by
 induction m using Nat.strongRecOn with
 | _ m ih =>
  by_cases hm:m<10
  ·rw [Nat.toDigits_of_lt_base hm]
   have:∀ d:Nat,d<10→0<d→(Nat.digitChar d).toNat≠48:=by decide
   exact ⟨by simpa using this m hm h0,by simp⟩
  ·have hr:m % 10<10:=Nat.mod_lt m (by decide)
   have t:Nat.toDigits 10 (m / 10)++Nat.toDigits 10 (m % 10)=Nat.toDigits 10 (10 * (m / 10)+m % 10):=Nat.toDigits_append_toDigits (by decide) (by lia) hr
   rw [Nat.div_add_mod] at t
   obtain ⟨i1,i2⟩:=ih (m / 10) (by lia) (by lia)
   rw [← t]
   cases e:Nat.toDigits 10 (m / 10) with
   | nil=>exact (i2 e).elim
   | cons a r =>
    rw [e] at i1
    exact ⟨by simpa using i1,by simp⟩
theorem lf {m:Nat} (h:m<10 ^ 12):Fig (tx (m:Int))∧(0<m→(tl (tx (m:Int))).head?≠some 48)∧intText? (tx (m:Int))=some (m:Int):=by
 have e:tl (tx (m:Int))=(Nat.toDigits 10 m).map Char.toNat:=W.KIN.signs_num m
 have hd:AllDigits (tl (tx (m:Int))):=by
  intro c hc
  rw [e] at hc
  obtain ⟨ch,hch,e⟩:=xA2.mp hc
  rw [← e]
  exact digit_range (Nat.isDigit_of_mem_toDigits (by decide) (by decide) hch)
 have hl:(tx (m:Int)).length≤12:=by
  rw [← bL,e,xAa]
  exact dlen 11 h
 have hn:tl (tx (m:Int))≠[]:=by
  rw [e]
  by_cases h0:m=0
  ·subst h0;decide
  ·intro z
   exact (dhead m (by lia)).2 (List.map_eq_nil_iff.mp z)
 have hp:0<(tx (m:Int)).length:=by
  rw [← bL]
  exact List.length_pos_iff.mpr hn
 have hh:0<m→(tl (tx (m:Int))).head?≠some 48:=fun h0=>by rw [e];exact (dhead m h0).1
 refine ⟨⟨hd,hp,hl,?_⟩,hh,?_⟩
 ·by_cases h0:m=0
  ·subst h0;exact .inl (ext (by rw [e];rfl))
  ·exact .inr (hh (by lia))
 ·have:=intText_digits hd hn (by lia)
  rw [this]
  show some ((digitsVal (tl (tx (m:Int))):Nat):Int)=_
  rw [e,W.KIN.val_back]
theorem si {m:Nat} (h:0<m):tx (-(m:Int))=one 45++tx (m:Int):=by
 obtain ⟨k,rfl⟩:∃ k,m=k+1:=⟨m - 1,by lia⟩
 apply ext
 rw [aD,gY]
 show tl (PySem.Str.ofString (toString (-((k+1:Nat):Int))))=45::tl (PySem.Str.ofString (toString ((k+1:Nat):Int)))
 have e:toString (-((k+1:Nat):Int))="-"++toString ((k+1:Nat):Int):=rfl
 rw [Str.ofString_eq_toList,Str.ofString_eq_toList,e,String.toList_append,xAi]
 rfl
theorem dC {n:Int} (h0:0≤n) (h:n<10 ^ 12):Fig (tx n)∧(0<n→(tl (tx n)).head?≠some 48)∧intText? (tx n)=some n:=by
 obtain ⟨m,rfl⟩:=Int.eq_ofNat_of_zero_le h0
 obtain ⟨a,b,c⟩:=lf (m:=m) (by lia)
 exact ⟨a,fun z=>b (by lia),c⟩
theorem bi {n:Int} (h:n.natAbs<10 ^ 12):(∃ y,Fig y∧(tx n=y∨(tx n=one 45++y∧(tl y).head?≠some 48)))∧intText? (tx n)=some n∧(tx n).length≤13:=by
 by_cases h0:0≤n
 ·obtain ⟨a,b,c⟩:=dC h0 (by lia)
  exact ⟨⟨_,a,.inl rfl⟩,c,by have:=a.few;lia⟩
 ·obtain ⟨m,rfl⟩:∃ m:Nat,n = -(m:Int):=⟨n.natAbs,by lia⟩
  obtain ⟨a,b,c⟩:=lf (m:=m) (by lia)
  have e:=si (m:=m) (by lia)
  have hl:(tx (-(m:Int))).length≤13:=by
   rw [e,strLen_append]
   have:=a.few
   have:(one 45).length=1:=rfl
   lia
  refine ⟨⟨_,a,.inr ⟨e,b (by lia)⟩⟩,?_,hl⟩
  have:=intText_neg (x:=tx (-(m:Int))) (cs:=tl (tx (m:Int))) (by rw [e];exact aD _ _) a.dig (by
   intro z
   have:=a.pos
   rw [← bL,z] at this
   exact xBo _ this) (by lia)
  rw [this]
  have e2:tl (tx (m:Int))=(Nat.toDigits 10 m).map Char.toNat:=W.KIN.signs_num m
  show some (-((digitsVal (tl (tx (m:Int))):Nat):Int))=_
  rw [e2,W.KIN.val_back]
theorem e6 {n:Int} (h:n.natAbs<10 ^ 12):n.natAbs.log2<1920:=by
 by_cases h0:n.natAbs=0
 ·rw [h0];decide
 ·rw [Nat.log2_lt h0]
  exact Nat.lt_trans h (by decide +kernel)
end Row
namespace Row
open PySem PySem.NumText PySem.StrLaws PyProof.Rows L2
inductive Srt | slot | opd | opds | kept | word | op | code | place | live | slots | row
def Srt.nm:Srt→Str
 | .slot=>"slot" | .opd=>"operand" | .opds=>"operands" | .kept=>"kept" | .word=>"word" | .op=>"op" | .code=>"code" | .place=>"place" | .live=>"live" | .slots=>"slots" | .row=>"row"
def Srt.ch:Srt→Nat
 | .slot=>115 | .opd=>111 | .opds=>79 | .kept=>79 | .word=>119 | .op=>109 | .code=>99 | .place=>112 | .live=>76 | .slots=>83 | .row=>114
def tab:List (Str×List Srt):=[("move",[.slot,.opd]),("math",[.slot,.op,.opd,.opd,.place]),("tell",[.slot,.opd,.place]),("ask",[.slot,.place]),("load",[.slot,.slot]),("store",[.slot,.slot,.opd,.place]),("make",[.slot,.word,.opds,.place,.live]),
 ("close",[.slot,.code,.kept,.place,.live]),("box",[.slot,.opd,.place,.live]),("call",[.slot,.opd,.opds,.place,.live]),("last",[.opd,.opds,.place]),("back",[.opd]),("test",[.opd,.row,.place]),
 ("match",[.opd,.word,.slots,.row,.place]),("jump",[.row]),("guard",[.word,.slot,.row]),("unguard",[]),("raise",[.word,.opd,.place])]
inductive Fl
 | slt (n:Int) | num (n:Int) | opn (o:Bool×Int) | wd (w:Str) | slts (l:List Int) | opns (l:List (Bool×Int))
def opD (o:Bool×Int):D:=.tup [.str (if o.1 then "slot" else "number"),.int o.2]
def opT (o:Bool×Int):Str:=if o.1 then one 115++tx o.2 else tx o.2
def slT (n:Int):Str:=one 115++tx n
def brk (us:List Str):Str:=one 91++Str.join (one 32) us++one 93
def Fl.d:Fl→D
 | .slt n=>.int n | .num n=>.int n | .opn o=>opD o | .wd w=>.str w | .slts l=>.tup (l.map D.int) | .opns l=>.tup (l.map opD)
def Fl.tx:Fl→Str
 | .slt n=>slT n | .num n=>Row.tx n | .opn o=>opT o | .wd w=>w | .slts l=>brk (l.map slT) | .opns l=>brk (l.map opT)
def Fl.ws (f:Fl):List Str:=Txt.split f.tx (one 32)
structure Cd where
 pl:Int
 pa:Int
 kp:Int
 sl:Int
 en:Int
def Cd.ns (c:Cd):List Int:=[c.pl,c.pa,c.kp,c.sl,c.en]
def Cd.d (c:Cd):D:=.tup (c.ns.map D.int)
def Cd.tx (c:Cd):Str:=Str.join (one 32) ("code"::c.ns.map Row.tx)
structure Rw where
 w:Str
 ss:List Srt
 fs:List Fl
def Rw.d (r:Rw):D:=.tup (.str r.w::r.fs.map Fl.d)
def Rw.tx (r:Rw):Str:=Str.join (one 32) (r.w::r.fs.map Fl.tx)
def OkO (sl:Int) (o:Bool×Int):Prop:=if o.1 then 0≤o.2∧o.2<sl else o.2.natAbs<10 ^ 12
structure Wd (w:Str):Prop where
 p:0<w.length
 q:w.length≤8
 l:∀ c∈tl w,97≤c∧c≤122
def opL:List Str:=["add","sub","mul","less","same"]
inductive Fit (c:Cd) (e:Int) (nc:Nat):Srt→Fl→Prop
 | slot {n:Int}:0≤n→n<c.sl→Fit c e nc .slot (.slt n)
 | opd {o:Bool×Int}:OkO c.sl o→Fit c e nc .opd (.opn o)
 | opds {l:List (Bool×Int)}:l.length≤4→(∀ o∈l,OkO c.sl o)→Fit c e nc .opds (.opns l)
 | kept {l:List (Bool×Int)}:l.length≤10→(∀ o∈l,OkO c.sl o)→Fit c e nc .kept (.opns l)
 | word {w:Str}:Wd w→Fit c e nc .word (.wd w)
 | op {w:Str}:w∈opL→Fit c e nc .op (.wd w)
 | code {n:Int}:0≤n→n<nc→Fit c e nc .code (.num n)
 | place {n:Int}:0≤n→n≤599→Fit c e nc .place (.num n)
 | row {n:Int}:c.en≤n→n<e→Fit c e nc .row (.num n)
 | live {l:List Int}:l.Pairwise (·<·)→(∀ n∈l,0≤n∧n<c.sl)→Fit c e nc .live (.slts l)
 | slots {l:List Int}:l.length≤4→l.Nodup→(∀ n∈l,0≤n∧n<c.sl)→Fit c e nc .slots (.slts l)
def Cln (x:Str):Prop:=0<x.length∧∀ c∈tl x,c≠32∧c≠10∧c≠93
theorem Fig.cln {z:Str} (h:Fig z):Cln z:=⟨h.pos,fun c hc=>by have:=h.dig c hc;lia⟩
theorem da {n:Int} (h:n.natAbs<10 ^ 12):Cln (tx n):=by
 obtain ⟨⟨y,hy,e⟩,_,_⟩:=bi h
 rcases e with e | ⟨e,_⟩
 ·rw [e];exact hy.cln
 ·rw [e]
  refine ⟨by rw [strLen_append];have:=hy.pos;lia,fun c hc=>?_⟩
  rw [aD] at hc
  rcases xAj.mp hc with hc | hc
  ·have:c=45:=by simpa using hc
   lia
  ·exact hy.cln.2 c hc
theorem dS {n:Int} (h:n.natAbs<10 ^ 12):Cln (slT n):=by
 have:=da h
 refine ⟨by unfold slT;rw [strLen_append];have:=this.1;lia,fun c hc=>?_⟩
 unfold slT at hc
 rw [aD] at hc
 rcases xAj.mp hc with hc | hc
 ·have:c=115:=by simpa using hc
  lia
 ·exact this.2 c hc
theorem eR {o:Bool×Int} (h:o.2.natAbs<10 ^ 12):Cln (opT o):=by
 unfold opT
 split
 ·exact dS h
 ·exact da h
theorem Wd.cln {w:Str} (h:Wd w):Cln w:=⟨h.p,fun c hc=>by have:=h.l c hc;lia⟩
theorem OkO.small {sl:Int} {o:Bool×Int} (h:OkO sl o) (hs:sl≤600):o.2.natAbs<10 ^ 12:=by
 unfold OkO at h
 split at h
 ·lia
 ·exact h
theorem ki {w:Str} (h:w∈opL):Wd w:=by
 simp only [opL,xAv,xBv,or_false] at h
 rcases h with rfl | rfl | rfl | rfl | rfl <;> exact ⟨by decide +kernel,by decide +kernel,by decide +kernel⟩
theorem b0 {p:Str×List Srt} (h:p∈tab):Wd p.1∧p.1≠"code"∧p.2.length≤5:=by
 simp only [tab,xAv,xBv,or_false] at h
 rcases h with rfl | rfl | rfl | rfl | rfl | rfl | rfl | rfl | rfl | rfl | rfl | rfl | rfl | rfl | rfl | rfl | rfl | rfl <;> exact ⟨⟨by decide +kernel,by decide +kernel,by decide +kernel⟩,by decide +kernel,by decide⟩
def bl:List Str→List Str
 | []=>[one 93]
 | [u]=>[u++one 93]
 | u::v::r=>u::bl (v::r)
def addF (p:Str):List Str→List Str
 | []=>[]
 | x::r=>(p++x)::r
theorem jE:∀ us:List Str,bl us≠[]
 | []=>by simp [bl]
 | [u]=>by simp [bl]
 | u::v::r=>by simp [bl]
theorem lH:∀ us:List Str,Str.join (one 32) (bl us)=Str.join (one 32) us++one 93
 | []=>rfl
 | [u]=>rfl
 | u::v::r=>by
  have e:=lH (v::r)
  have hn:=jE (v::r)
  rw [show bl (u::v::r)=u::bl (v::r) from rfl,bp]
  cases hb:bl (v::r) with
  | nil=>exact (hn hb).elim
  | cons x s =>
   rw [hb] at e
   rw [bp,e]
   apply ext
   simp only [aD,xAx]
theorem mS {p s:Str}:∀ {ws:List Str},ws≠[]→Str.join s (addF p ws)=p++Str.join s ws
 | [],h=>(h rfl).elim
 | [x],_=>rfl
 | x::y::r,_=>by
  show Str.join s ((p++x)::y::r)=_
  rw [bp,bp]
  apply ext
  simp only [aD,xAx]
def br (us:List Str):List Str:=addF (one 91) (bl us)
theorem rZ (us:List Str):br us≠[]:=by
 unfold br
 cases h:bl us with
 | nil=>exact (jE us h).elim
 | cons x r=>simp [addF]
theorem iH (us:List Str):Str.join (one 32) (br us)=brk us:=by
 unfold br brk
 rw [mS (jE us),lH]
 apply ext
 simp only [aD,xAx]
theorem pq:∀ {us:List Str},(∀ u∈us,Cln u)→∀ {j:Nat} {w:Str},(bl us)[j]?=some w→32 ∉ tl w∧10 ∉ tl w∧((93 ∉ tl w∧j+1≠(bl us).length)∨((tl w).getLast?=some 93∧j+1=(bl us).length))
 | [],_,j,w,e=>by
  cases j with
  | zero =>
   have:one 93=w:=by simpa [bl] using e
   subst this
   exact ⟨by decide,by decide,.inr ⟨by decide,rfl⟩⟩
  | succ j=>simp [bl] at e
 | [u],h,j,w,e=>by
  cases j with
  | zero =>
   have:u++one 93=w:=by simpa [bl] using e
   subst this
   have hu:=(h u (by simp)).2
   rw [aD]
   refine ⟨fun z=>?_,fun z=>?_,.inr ⟨by simp,rfl⟩⟩
   ·rcases xAj.mp z with z | z
    ·exact (hu _ z).1 rfl
    ·simp at z
   ·rcases xAj.mp z with z | z
    ·exact (hu _ z).2.1 rfl
    ·simp at z
  | succ j=>simp [bl] at e
 | u::v::r,h,j,w,e=>by
  have hn:=jE (v::r)
  cases j with
  | zero =>
   have:u=w:=by simpa [bl] using e
   subst this
   have hu:=(h u (by simp)).2
   refine ⟨fun z=>(hu _ z).1 rfl,fun z=>(hu _ z).2.1 rfl,.inl ⟨fun z=>(hu _ z).2.2 rfl,?_⟩⟩
   show 0+1≠(bl (v::r)).length+1
   have:=List.length_pos_iff.mpr hn
   lia
  | succ j =>
   obtain ⟨a,b,c⟩:=pq (us:=v::r) (fun x hx=>h x (xAs _ hx)) (j:=j) (w:=w) (by simpa [bl] using e)
   refine ⟨a,b,?_⟩
   show (93 ∉ tl w∧j+1+1≠(bl (v::r)).length+1)∨((tl w).getLast?=some 93∧j+1+1=(bl (v::r)).length+1)
   rcases c with ⟨c1,c2⟩ | ⟨c1,c2⟩
   ·exact .inl ⟨c1,by lia⟩
   ·exact .inr ⟨c1,by lia⟩
theorem r9 {us:List Str} (h:∀ u∈us,Cln u) {j:Nat} {w:Str} (e:(br us)[j]?=some w):32 ∉ tl w∧10 ∉ tl w∧decide ((tl w).getLast?=some 93)=decide (j+1=(br us).length):=by
 unfold br at e ⊢
 cases hb:bl us with
 | nil=>exact (jE us hb).elim
 | cons x r =>
  rw [hb] at e
  have hl:(addF (one 91) (x::r)).length=(bl us).length:=by rw [hb];rfl
  rw [hl]
  have last:∀ {w:Str},((93 ∉ tl w∧j+1≠(bl us).length)∨((tl w).getLast?=some 93∧j+1=(bl us).length))→decide ((tl w).getLast?=some 93)=decide (j+1=(bl us).length):=fun c=>by
   rcases c with ⟨c1,c2⟩ | ⟨c1,c2⟩
   ·rw [decide_eq_false c2,decide_eq_false]
    intro z
    exact c1 (List.mem_of_getLast? z)
   ·rw [xBd c1,xBd c2]
  cases j with
  | zero =>
   have ew:one 91++x=w:=by simpa [addF] using e
   subst ew
   obtain ⟨a,b,c⟩:=pq h (j:=0) (w:=x) (by rw [hb];rfl)
   rw [aD]
   refine ⟨fun z=>?_,fun z=>?_,?_⟩
   ·rcases xAj.mp z with z | z
    ·simp at z
    ·exact a z
   ·rcases xAj.mp z with z | z
    ·simp at z
    ·exact b z
   ·rw [← aD]
    refine last ?_
    rcases c with ⟨c1,c2⟩ | ⟨c1,c2⟩
    ·refine .inl ⟨fun z=>?_,c2⟩
     rw [aD] at z
     rcases xAj.mp z with z | z
     ·simp at z
     ·exact c1 z
    ·refine .inr ⟨?_,c2⟩
     rw [aD,List.getLast?_append,c1]
     rfl
  | succ j =>
   obtain ⟨a,b,c⟩:=pq h (j:=j+1) (w:=w) (by rw [hb];simpa [addF] using e)
   exact ⟨a,b,last c⟩
theorem gy {us:List Str} (h:∀ u∈us,Cln u):Txt.split (brk us) (one 32)=br us:=by
 rw [← iH]
 refine cI (rZ us) fun w hw=>?_
 obtain ⟨j,hj⟩:=List.getElem?_of_mem hw
 exact (r9 h hj).1
theorem gZ (us:List Str):tl (brk us)=91::(tl (Str.join (one 32) us)++[93]):=by
 unfold brk
 rw [aD,aD]
 rfl
theorem fK (us:List Str):(brk us).length=(Str.join (one 32) us).length+2:=by
 rw [← bL,gZ,xAo,xAb,xAt,bL]
theorem qZ (us:List Str):Txt.slice (brk us) (some 1) (some (-1))=Str.join (one 32) us:=by
 rw [lW (by rw [fK];lia),gZ]
 apply ext
 rw [uu]
 simp
theorem oO:∀ {us:List Str},us≠[]→(∀ u∈us,Cln u)→0<(Str.join (one 32) us).length
 | [],h,_=>(h rfl).elim
 | [u],_,h=>(h u (by simp)).1
 | u::v::r,_,h=>by
  rw [bp,strLen_append,strLen_append]
  have:=(h u (by simp)).1
  lia
theorem rE {us:List Str} (h:∀ u∈us,Cln u):decide (brk us="[]")=decide (us=[]):=by
 by_cases e:us=[]
 ·subst e;rw [xBd rfl,xBd];exact ext (by decide +kernel)
 ·rw [decide_eq_false e,decide_eq_false]
  intro z
  have h1:=oO e h
  have h2:=fK us
  rw [z] at h2
  have:(PySem.Str.ofString "[]").length=2:=by decide +kernel
  lia
end Row
namespace Row
open PySem PySem.NumText PySem.StrLaws PyProof.Rows L2
mutual
def ct:D→Nat
 | .tup ds=>1+cts ds
 | _=>1
def cts:List D→Nat
 | []=>0
 | d::ds=>ct d+cts ds
end
mutual
def Sm:D→Prop
 | .int i=>i.natAbs<10 ^ 12
 | .str x=>x.length≤8∧∀ c∈tl x,c<128
 | .tup ds=>Sms ds
 | _=>False
def Sms:List D→Prop
 | []=>True
 | d::ds=>Sm d∧Sms ds
end
theorem dm:∀ {ds:List D},(∀ d∈ds,Sm d)→Sms ds
 | [],_=>True.intro
 | d::ds,h=>⟨h d (by simp),dm fun x hx=>h x (xAs _ hx)⟩
theorem e8 {B:Nat}:∀ {ds:List D},(∀ d∈ds,ct d≤B)→cts ds≤ds.length * B
 | [],_=>xBn _
 | d::ds,h=>by
  have h1:=h d (by simp)
  have h2:=e8 (ds:=ds) fun x hx=>h x (xAs _ hx)
  show ct d+cts ds≤(ds.length+1) * B
  rw [Nat.succ_mul]
  lia
structure Sz (f:Fl):Prop where
 t:f.tx.length≤100
 c:ct f.d≤64
 s:Sm f.d
theorem jI {n:Int} (h0:0≤n) (h:n<100):(tx n).length≤2:=by
 obtain ⟨m,rfl⟩:=Int.eq_ofNat_of_zero_le h0
 rw [← bL,show tl (tx (m:Int))=_ from W.KIN.signs_num m,xAa]
 exact dlen 1 (by lia)
theorem hU {w:Str} (h:Wd w):Sm (.str w):=⟨h.q,fun c hc=>by have:=h.l c hc;lia⟩
theorem np {o:Bool×Int} (h:o.2.natAbs<10 ^ 12):Sm (opD o):=by
 refine ⟨?_,h,True.intro⟩
 split <;> exact ⟨by decide +kernel,by decide +kernel⟩
theorem kR {o:Bool×Int} {sl:Int} (h:OkO sl o) (hs:sl≤100):(opT o).length≤13:=by
 unfold opT
 unfold OkO at h
 split
 ·rename_i hb
  rw [xCg hb] at h
  rw [strLen_append]
  have:=jI h.1 (by lia)
  have:(one 115).length=1:=rfl
  lia
 ·rename_i hb
  rw [xCf hb] at h
  exact (bi h).2.2
theorem pp {us:List Str} {B k:Nat} (h:∀ u∈us,u.length≤B) (hk:us.length≤k):(brk us).length≤k * (B+1)+2:=by
 rw [fK]
 have h1:=bH (s:=one 32) (ts:=us) (B:=B+1) fun t ht=>by have:=h t ht;have:(one 32).length=1:=rfl;lia
 have h2:=Nat.mul_le_mul_right (B+1) hk
 lia
theorem ga:∀ {l:List Int} {a b:Int},l.Pairwise (·<·)→(∀ n∈l,a≤n∧n<b)→a≤b→(l.length:Int)≤b - a
 | [],a,b,_,_,h=>by simp;lia
 | x::l,a,b,hp,hm,_=>by
  have hx:=hm x (by simp)
  have hp':=List.pairwise_cons.mp hp
  have:=ga (l:=l) (a:=x+1) (b:=b) hp'.2 (fun n hn=>⟨by have:=hp'.1 n hn;lia,(hm n (xAs _ hn)).2⟩) (by lia)
  rw [xAo]
  lia
theorem ko {l:List Int} {sl:Int} (h:∀ n∈l,0≤n∧n<sl) (hs:sl≤21) (hl:l.length≤21):Sz (.slts l) where
 t:=by
  refine Nat.le_trans (pp (B:=3) (k:=21) (fun u hu=>?_) (by simpa using hl)) (by decide)
  obtain ⟨n,hn,rfl⟩:=xA2.mp hu
  unfold slT
  rw [strLen_append]
  have:=h n hn
  have:=jI (n:=n) (by lia) (by lia)
  have:(one 115).length=1:=rfl
  lia
 c:=by
  show 1+cts (l.map D.int)≤64
  have:=e8 (ds:=l.map D.int) (B:=1) fun d hd=>by obtain ⟨n,_,rfl⟩:=xA2.mp hd;exact xAg _
  rw [xAa] at this
  lia
 s:=dm fun d hd=>by
  obtain ⟨n,hn,rfl⟩:=xA2.mp hd
  have:=h n hn
  show n.natAbs<10 ^ 12
  lia
theorem kQ {l:List (Bool×Int)} {sl:Int} (h:∀ o∈l,OkO sl o) (hs:sl≤21) (hl:l.length≤6):Sz (.opns l) where
 t:=by
  refine Nat.le_trans (pp (B:=13) (k:=6) (fun u hu=>?_) (by simpa using hl)) (by decide)
  obtain ⟨n,hn,rfl⟩:=xA2.mp hu
  exact kR (h n hn) (by lia)
 c:=by
  show 1+cts (l.map opD)≤64
  have:=e8 (ds:=l.map opD) (B:=3) fun d hd=>by obtain ⟨n,_,rfl⟩:=xA2.mp hd;exact xAg _
  rw [xAa] at this
  lia
 s:=dm fun d hd=>by
  obtain ⟨n,hn,rfl⟩:=xA2.mp hd
  exact np ((h n hn).small (by lia))
theorem Fit.szOf {c:Cd} {e:Int} {nc:Nat} {s:Srt} {f:Fl} (h:Fit c e nc s f) (hs:c.sl≤21) (h0:0≤c.en) (he:e≤1000) (hn:nc≤1000) (hk:∀ l,f = .opns l→l.length≤6):Sz f:=by
 have num:∀ (n:Int),0≤n→n<1000000→Sz (.num n):=fun n a b=>⟨by have:=(bi (n:=n) (by lia)).2.2;show (tx n).length≤100;lia,by show (1:Nat)≤64;decide,by show n.natAbs<_;lia⟩
 cases h with
 | slot a b=>exact ⟨by show (one 115++tx _).length≤100;rw [strLen_append];have:=jI a (by lia);have:(one 115).length=1:=rfl;lia,by show (1:Nat)≤64;decide,by show Int.natAbs _<_;lia⟩
 | opd a=>exact ⟨by have:=kR a (by lia);show (opT _).length≤100;lia,by show 1+(1+(1+0))≤64;decide,np (a.small (by lia))⟩
 | opds a b=>exact kQ b hs (by lia)
 | kept a b=>exact kQ b hs (hk _ rfl)
 | word a=>exact ⟨Nat.le_trans a.q (by decide),by show (1:Nat)≤64;decide,hU a⟩
 | op a=>exact ⟨Nat.le_trans (ki a).q (by decide),by show (1:Nat)≤64;decide,hU (ki a)⟩
 | code a b=>exact num _ a (by lia)
 | place a b=>exact num _ a (by lia)
 | row a b=>exact num _ (by lia) (by lia)
 | live a b =>
  refine ko b hs ?_
  by_cases z:0≤c.sl
  ·have:=ga a b z
   lia
  ·cases l:(‹List Int›) with
   | nil=>simp
   | cons x r =>
    have:=b x (by rw [l];simp)
    lia
 | slots a b d=>exact ko d hs (by lia)
theorem Fit.clean {c:Cd} {e:Int} {nc:Nat} {s:Srt} {f:Fl} (h:Fit c e nc s f) (hs:c.sl≤600) (h0:0≤c.en) (he:e≤1000) (hn:nc≤1000) :
  10 ∉ tl f.tx∧((∃ us,f.tx=brk us∧∀ u∈us,Cln u)∨Cln f.tx):=by
 have sg:Cln f.tx→10 ∉ tl f.tx∧((∃ us,f.tx=brk us∧∀ u∈us,Cln u)∨Cln f.tx):=fun h=>⟨fun z=>(h.2 _ z).2.1 rfl,.inr h⟩
 have bk:∀ us,f.tx=brk us→(∀ u∈us,Cln u)→10 ∉ tl f.tx∧((∃ us,f.tx=brk us∧∀ u∈us,Cln u)∨Cln f.tx):=fun us e h=>⟨fun z=>by
  rw [e,gZ] at z
  rcases xAv.mp z with z | z
  ·cases z
  ·rcases xAj.mp z with z | z
   ·rcases eO z with z | ⟨t,ht,z⟩
    ·simp at z
    ·exact ((h t ht).2 _ z).2.1 rfl
   ·simp at z,.inl ⟨us,e,h⟩⟩
 cases h with
 | slot a b=>exact sg (dS (by lia))
 | opd a=>exact sg (eR (a.small hs))
 | opds a b=>exact bk _ rfl fun u hu=>by obtain ⟨n,hn,rfl⟩:=xA2.mp hu;exact eR ((b n hn).small hs)
 | kept a b=>exact bk _ rfl fun u hu=>by obtain ⟨n,hn,rfl⟩:=xA2.mp hu;exact eR ((b n hn).small hs)
 | word a=>exact sg a.cln
 | op a=>exact sg (ki a).cln
 | code a b=>exact sg (da (by lia))
 | place a b=>exact sg (da (by lia))
 | row a b=>exact sg (da (by lia))
 | live a b=>exact bk _ rfl fun u hu=>by obtain ⟨n,hn,rfl⟩:=xA2.mp hu;exact dS (by have:=b n hn;lia)
 | slots a b d=>exact bk _ rfl fun u hu=>by obtain ⟨n,hn,rfl⟩:=xA2.mp hu;exact dS (by have:=d n hn;lia)
theorem sf {f:Fl} (h:Cln f.tx):f.ws=[f.tx]:=fQ fun z=>(h.2 _ z).1 rfl
theorem gT {f:Fl} {us:List Str} (e:f.tx=brk us) (h:∀ u∈us,Cln u):f.ws=br us:=by unfold Fl.ws;rw [e,gy h]
structure RwOk (c:Cd) (e:Int) (cs:List Cd) (r:Rw):Prop where
 t:(r.w,r.ss)∈tab
 len:r.fs.length=r.ss.length
 fit:∀ (i:Nat) (s:Srt) (f:Fl),r.ss[i]?=some s→r.fs[i]?=some f→Fit c e cs.length s f
 kept:∀ i:Nat,r.ss[i]?=some .kept→i=2∧∃ (n:Int) (os:List (Bool×Int)) (c':Cd),r.fs[1]?=some (.num n)∧r.fs[2]?=some (.opns os)∧0≤n∧cs[n.toNat]?=some c'∧(os.length:Int)=c'.kp
 sz:∀ f∈r.fs,Sz f
structure CdOk (c:Cd):Prop where
 a1:0≤c.pl
 a2:c.pl≤599
 a3:0≤c.pa
 a4:c.pa≤300
 a5:0≤c.kp
 a6:c.kp≤6
 a7:c.pa+c.kp≤c.sl
 a8:c.sl≤21
 a9:0≤c.en
 aa:c.en≤500
def Rw.ws (r:Rw):List Str:=r.w::r.fs.flatMap Fl.ws
theorem iV {c:Cd} {e:Int} {cs:List Cd} {r:Rw} (h:RwOk c e cs r):Txt.split r.tx (one 32)=r.ws:=by
 unfold Rw.tx Rw.ws
 rw [fR (by simp),List.flatMap_cons,fQ fun z=>((b0 h.t).1.cln.2 _ z).1 rfl,List.flatMap_map]
 rfl
theorem RwOk.at {c:Cd} {e:Int} {cs:List Cd} {r:Rw} (h:RwOk c e cs r) {f:Fl} (hf:f∈r.fs):∃ s,Fit c e cs.length s f:=by
 obtain ⟨i,hi⟩:=List.getElem?_of_mem hf
 have:=(xAq.mp hi).1
 have hl:=h.len
 exact ⟨_,h.fit i _ f (xAk (by lia)) hi⟩
theorem kt {c:Cd} {e:Int} {cs:List Cd} {r:Rw} (h:RwOk c e cs r) (hc:CdOk c) (he:e≤1000) (hn:cs.length≤1000):10 ∉ tl r.tx∧r.tx.length≤610:=by
 constructor
 ·intro z
  rcases eO z with z | ⟨t,ht,z⟩
  ·simp at z
  ·rcases xAv.mp ht with rfl | ht
   ·exact ((b0 h.t).1.cln.2 _ z).2.1 rfl
   ·obtain ⟨f,hf,rfl⟩:=xA2.mp ht
    obtain ⟨s,hs⟩:=h.at hf
    exact (hs.clean (by have:=hc.a8;lia) hc.a9 he hn).1 z
 ·have h1:=b0 h.t
  have h2:=bH (s:=one 32) (ts:=r.w::r.fs.map Fl.tx) (B:=101) fun t ht=>by
   have:(one 32).length=1:=rfl
   rcases xAv.mp ht with rfl | ht
   ·have:r.w.length≤8:=h1.1.q
    lia
   ·obtain ⟨f,hf,rfl⟩:=xA2.mp ht
    have:=(h.sz f hf).t
    lia
  have hl:=h.len
  have h3:r.ss.length≤5:=h1.2.2
  rw [xAo,xAa] at h2
  unfold Rw.tx
  have:(r.fs.length+1) * 101≤6 * 101:=Nat.mul_le_mul_right _ (by lia)
  exact Nat.le_trans h2 (Nat.le_trans this (by decide))
theorem CdOk.small {c:Cd} (h:CdOk c):∀ n∈c.ns,0≤n∧n<1000:=by
 intro n hn
 have:=h.a1;have:=h.a2;have:=h.a3;have:=h.a4;have:=h.a5;have:=h.a6;have:=h.a7;have:=h.a8;have:=h.a9;have:=h.aa
 simp only [Cd.ns,xAv,xBv,or_false] at hn
 rcases hn with rfl | rfl | rfl | rfl | rfl <;> lia
theorem jC {c:Cd} (h:CdOk c):Txt.split c.tx (one 32)=("code":Str)::c.ns.map Row.tx:=by
 refine cI (by simp) fun w hw=>?_
 rcases xAv.mp hw with rfl | hw
 ·decide +kernel
 ·obtain ⟨n,hn,rfl⟩:=xA2.mp hw
  have:=h.small n hn
  exact fun z=>((da (n:=n) (by lia)).2 _ z).1 rfl
theorem lG {c:Cd} (h:CdOk c):10 ∉ tl c.tx∧c.tx.length≤610:=by
 have small:∀ n∈c.ns,n.natAbs<10 ^ 12:=fun n hn=>by have:=h.small n hn;lia
 constructor
 ·intro z
  rcases eO z with z | ⟨t,ht,z⟩
  ·simp at z
  ·rcases xAv.mp ht with rfl | ht
   ·exact absurd z (by decide +kernel)
   ·obtain ⟨n,hn,rfl⟩:=xA2.mp ht
    exact ((da (small n hn)).2 _ z).2.1 rfl
 ·have h2:=bH (s:=one 32) (ts:=("code":Str)::c.ns.map Row.tx) (B:=14) fun t ht=>by
   have:(one 32).length=1:=rfl
   rcases xAv.mp ht with rfl | ht
   ·have:(PySem.Str.ofString "code").length=4:=by decide +kernel
    lia
   ·obtain ⟨n,hn,rfl⟩:=xA2.mp ht
    have:=(bi (small n hn)).2.2
    lia
  rw [xAo,xAa] at h2
  have:c.ns.length=5:=rfl
  unfold Cd.tx
  lia
abbrev Gr:=Cd×List Rw
def heads (gs:List Gr):List Cd:=gs.map (·.1)
def rowsOf (gs:List Gr):List Rw:=gs.flatMap (·.2)
def lns (gs:List Gr):List Str:=(heads gs).map Cd.tx++(rowsOf gs).map Rw.tx
def prT (gs:List Gr):Str:=Str.join (one 10) (lns gs)
def prD (gs:List Gr):D:=.tup [.tup ((heads gs).map Cd.d),.tup ((rowsOf gs).map Rw.d)]
def Ens:Nat→List Gr→Prop
 | _,[]=>True
 | a,g::gs=>g.1.en=(a:Int)∧Ens (a+g.2.length) gs
structure GrOk (cs:List Cd) (g:Gr):Prop where
 c:CdOk g.1
 n:0<g.2.length
 m:g.2.length≤8
 r:∀ r∈g.2,RwOk g.1 (g.1.en+g.2.length) cs r
 b:∀ r,g.2[g.2.length - 1]?=some r→r.w="back"
structure PrOk (gs:List Gr):Prop where
 n:0<gs.length
 m:gs.length≤4
 e:Ens 0 gs
 g:∀ g∈gs,GrOk (heads gs) g
 f:∀ g,gs[0]?=some g→g.1.pl=0∧g.1.pa=0∧g.1.kp=0∧g.1.en=0
end Row
namespace Row
open PySem PySem.NumText PySem.StrLaws PyProof.Rows L2
theorem cW (g:Gr) (gs:List Gr):rowsOf (g::gs)=g.2++rowsOf gs:=by unfold rowsOf;rw [List.flatMap_cons]
theorem jt:∀ {gs:List Gr} {a:Nat},Ens a gs→∀ (i:Nat) (g:Gr),gs[i]?=some g→((heads gs).tail.map Cd.en++[((a+(rowsOf gs).length:Nat):Int)])[i]?=some (g.1.en+g.2.length)
 | [],_,_,i,g,h=>by simp at h
 | [g0],a,he,i,g,h=>by
  cases i with
  | zero =>
   cases h
   have e:=he.1
   simp [heads,rowsOf,e]
  | succ i=>simp at h
 | g0::g1::gs,a,he,i,g,h=>by
  have e0:=he.1
  have e1:=he.2.1
  cases i with
  | zero =>
   cases h
   simp [heads,e0,e1]
  | succ i =>
   have:=jt he.2 i g (by simpa using h)
   rw [show a+g0.2.length+(rowsOf (g1::gs)).length=a+(rowsOf (g0::g1::gs)).length by rw [cW g0,xAb];lia] at this
   rw [← this]
   simp [heads]
theorem jr:∀ {gs:List Gr} {a:Nat},Ens a gs→∀ {i:Nat} {g:Gr},gs[i]?=some g→∀ {j:Nat} {r:Rw},g.2[j]?=some r→∃ m:Nat,g.1.en=((a+m:Nat):Int)∧(rowsOf gs)[m+j]?=some r
 | [],_,_,i,g,h,_,_,_=>by simp at h
 | g0::gs,a,he,i,g,h,j,r,hj=>by
  cases i with
  | zero =>
   cases h
   refine ⟨0,by rw [he.1];simp,?_⟩
   rw [cW,Nat.zero_add,List.getElem?_append_left (xAq.mp hj).1]
   exact hj
  | succ i =>
   obtain ⟨m,e1,e2⟩:=jr he.2 (i:=i) (g:=g) (by simpa using h) hj
   refine ⟨g0.2.length+m,by rw [e1];lia,?_⟩
   rw [cW,List.getElem?_append_right (by lia),show g0.2.length+m+j - g0.2.length=m+j by lia]
   exact e2
theorem iC:∀ {gs:List Gr} {a:Nat},Ens a gs→∀ g∈gs,g.1.en+g.2.length≤((a+(rowsOf gs).length:Nat):Int)
 | [],_,_,g,h=>by cases h
 | g0::gs,a,he,g,h=>by
  rw [cW,xAb]
  rcases xAv.mp h with rfl | h
  ·rw [he.1];lia
  ·have:=iC he.2 g h
   lia
theorem js:∀ {gs:List Gr} {a:Nat},Ens a gs→(∀ g∈gs,0<g.2.length)→∀ (i:Nat) (c c':Cd),(heads gs)[i]?=some c→(heads gs)[i+1]?=some c'→c.en<c'.en
 | [],_,_,_,i,c,c',h,_=>by simp [heads] at h
 | [g0],_,_,_,i,c,c',_,h=>by simp [heads] at h
 | g0::g1::gs,a,he,hp,i,c,c',h,h'=>by
  have p0:=hp g0 (by simp)
  cases i with
  | zero =>
   have e:g0.1=c:=by simpa [heads] using h
   have e':g1.1=c':=by simpa [heads] using h'
   have a1:=he.1
   have a2:=he.2.1
   rw [← e,← e',a1,a2]
   lia
  | succ i=>exact js he.2 (fun g hg=>hp g (xAs _ hg)) i c c' (by simpa [heads] using h) (by simpa [heads] using h')
end Row
namespace L2
open PySem PySem.Spec PyProof.Rows _root_.Row
def nInS (neg:Bool):R2:=fun x y H Q=>∃ i j:Str,x = .str i∧y = .str j∧Q (.bl (if neg then !(!(Builtin.Str.occurrences j i 0 j.length 1).isEmpty) else !(Builtin.Str.occurrences j i 0 j.length 1).isEmpty)) H
def nAddS:R2:=fun x y H Q=>∃ i j:Str,x = .str i∧y = .str j∧i.length+j.length≤sizeLine∧Q (.str (i++j)) H
def cLenStr:List V→Hp→VK→Prop:=fun xs H Q=>∃ z:Str,xs=[.str z]∧z.length≤sizeLine∧Q (.int z.length) H
def cRepr:List V→Hp→VK→Prop:=fun xs H Q=>∃ a d,xs=[.ref a]∧Rep H (.ref a) d∧d.showable=true∧d.hasDict=false∧d.depth≤60∧d.shown.length≤sizeLine∧Q (.str d.shown) H
section
variable {X:Cx} {x:Str} {pos:Pos}
theorem ox:OpR X (compareOp .In) (nInS false):=mj
theorem ck:OpR X (binaryOp .Add) nAddS:=jT
theorem e9:CallR X (.builtin "len") cLenStr:=iG
theorem lC {k:Nat} (hr:Room k X.A):CallR X (.builtin "repr") cRepr:=mK hr
theorem bX {n:Int} (h:∃ t,X.mg x=some (.int n t)) (hg:Gl X x:=by rfl) (hd:(x == ("__debug__":Str))=false:=by decide):QE X (.Name x pos) (tC (.int n)):=⟨by obtain ⟨t,h⟩:=h;exact iq hg h ⟨t,rfl⟩ hd⟩
theorem ja {z:Str} (h:∃ t,X.mg x=some (.str z t)) (hg:Gl X x:=by rfl) (hd:(x == ("__debug__":Str))=false:=by decide):QE X (.Name x pos) (tC (.str z)):=⟨by obtain ⟨t,h⟩:=h;exact iq hg h ⟨t,rfl⟩ hd⟩
variable {C:Addr} {m:Str} {k k':Nat} {ps:List Str} {sp:Sp} {apos:Pos} {o:Expr} {ta:TE}
theorem qe (ho:QE X o ta) (c:Mal X.prog X.w X.K X.mg X.base C m k ps sp) (hr:Room k' X.A) (hk:k≤k':=by lia)
  (ht:∃ pl,eval (.Call (.Attribute o m apos) [] [] pos) X.env=(do
   let ov ← eval o X.env
   standAt apos.atName
   let (f,first) ← holding [ov] (getMethod ov m pl)
   callWith pos f first (backTo pos (starEach [] X.env)) (backToKw pos (keywordEach [] X.env))):=by exact ⟨_,rfl⟩):QE X (.Call (.Attribute o m apos) [] [] pos) (tMeth C m sp [] E0 ta tNil):=by
 obtain ⟨f,fd,h1,h3,h4⟩:=c.ex
 obtain ⟨pl,ht⟩:=ht
 exact ⟨jd (pl:=pl) ho.h c.c h1 h3 (hr.mono hk) h4 .nil pass0 (ht:=ht)⟩
end
section
variable {X:Cx} {K:xFr} {e o tg:Expr} {te to:TE} {t:TA} {T id:String} {name:Str} {rm:V→List V→Hp→VK→Prop} {apos cpos:Pos}
theorem kK (hK:X.K=K) (h:QE X e te):QI X tg e (iTup K te):=by subst hK;exact c8 h
theorem jh (hK:X.K=K):MtR X "str.join" (rJoin K):=by subst hK;exact cE
theorem rO (hK:X.K=K) (pa:PlainAttrs T) (slot:Slot T name id) (hty:typeOf (.builtin id)=pure (.type "method_descriptor")) (hm:MtR X id rm) (ho:QE X o to) (ha:QA X [e] t) (h:noCall o=true:=by rfl) (h2:noStar e=true:=by rfl) (hline:(apos.endLine == cpos.line)=true:=by rfl) :
  QE X (.Call (.Attribute o name apos) [e] [] cpos) (tBM K T rm to t):=by subst hK;exact bB pa slot hty hm ho ha h h2 hline
end
section
variable {K:xFr} {σ:St} {H:Hp} {Q:VK} {te ta tv to:TE} {tas:TA} {a b p:Addr} {xs ys:List V} {x z w:Str} {r:V→List V→Hp→VK→Prop}
theorem jQ {c:Nat} (hi:z=one c) (h:Q (.bl (decide (c∈tl w))) H):nInS false (.str z) (.str w) H Q:=⟨z,w,rfl,rfl,by
 subst hi
 have:=StrLaws.found_one w c
 simp only [xAz,if_false]
 rw [this]
 exact h⟩
theorem bC (hl:z.length+w.length≤16000000) (h:Q (.str (z++w)) H):nAddS (.str z) (.str w) H Q:=⟨z,w,rfl,rfl,lineMe hl,h⟩
theorem eG (hl:z.length≤16000000) (h:Q (.int z.length) H):cLenStr [.str z] H Q:=⟨z,rfl,lineMe hl,h⟩
theorem kB {lo hi:Option Int} (hl:z.length≤16000000) (h:Q (.str (Txt.slice z lo hi)) H):rSlS (.str z) lo hi H Q:=⟨z,rfl,lineMe hl,h⟩
theorem bV {i:Int} (hi:i.natAbs<10 ^ 12) (h:Q (.str (tx i)) H):cStr [.int i] H Q:=.inl ⟨i,rfl,e6 hi,h⟩
theorem sA (h:Q (.str z) H):cStr [.str z] H Q:=.inr ⟨z,rfl,h⟩
theorem nE {k:Bool} (h:Q (.str (if k then z else Str.empty)) H):rMulS (.str z) (.int (if k then 1 else 0)) H Q:=⟨z,k,rfl,rfl,h⟩
theorem wJ {c:Str} (h:te σ H fun x H1=>nFs c x H1 Q):tFs c te σ H Q:=h
theorem uP {c:Str} {i:Int} (hi:i.natAbs<10 ^ 12) (hc:c.length≤1000) (h:Q (.str (c++tx i)) H):nFs c (.int i) H Q:=⟨i,rfl,e6 hi,lineMe (by have:=(bi hi).2.2;change (PySem.Str.ofString (toString i)).length≤13 at this;lia),h⟩
theorem rL {kvs more:List (Key×V)} (hab:a≠b) (ea:H a=some (.dK kvs)) (eb:H b=some (.dK more)) (hl:kvs.length+more.length≤1000) (h:Q .non (upd H a (.dK (mergK kvs more)))):rUpd (.ref a) [.ref b] H Q:=⟨a,b,kvs,more,rfl,rfl,hab,ea,eb,hl,h⟩
theorem rM {kvs:List (Key×V)} (e:H p=some (.dK kvs)) (h:tas σ H fun ys H2=>r (.ref p) ys H2 Q):nBM K "dict" r tas (.ref p) σ H Q:=⟨.inr (.inr (.inl ⟨rfl,.inl ⟨_,e⟩⟩)),h⟩
theorem bm (h:tas σ H fun ys H2=>r (.str z) ys H2 Q):nBM K "str" r tas (.str z) σ H Q:=⟨rfl,h⟩
theorem pV {kvs:List (Key×V)} (e:H p=some (.dK kvs)) (h:∀ l H2,Same H H2→H l=none→H2 l=some (.lst (kvs.map fun q=>kV q.1))→Q (.ref l) H2):cListD [.ref p] H Q:=⟨p,kvs,rfl,e,fun l hl=>h l _ (aw hl _) hl ah⟩
theorem sQ (h:te σ H fun y H2=>nGetK K a y H2 Q):tGetK K a te σ H Q:=h
theorem sN {v:V} {u:Value} (e:PySem.W.nsIn K a x=some (some u)) (rv:RelV v u) (h:Q v H):nGetK K a (.str x) H Q:=⟨x,v,u,rfl,e,rv,h⟩
theorem eV {n:Int} (e:PySem.intText? z=some n) (hl:z.length≤640) (h:Q (.int n) H):cIntS [.str z] H Q:=⟨z,n,rfl,e,hl,h⟩
theorem kH {bs:List Bool} (e:H p=some (.lst (bs.map V.bl))) (h:Q (.bl (bs.all id)) H):cAll K [.ref p] H Q:=⟨p,bs,rfl,.of e,fun b hb=>by rw [hb];exact h⟩
theorem cL {j:Str} {c:Nat} (hj:j=one c) (h:Q (.bl (decide ((tl z).head?=some c))) H):rStarts (.str z) [.str j] H Q:=⟨z,j,rfl,rfl,by subst hj;rw [lU];exact h⟩
theorem qb {j:Str} {c:Nat} (hj:j=one c) (h:Q (.bl (decide ((tl z).getLast?=some c))) H):rEnds (.str z) [.str j] H Q:=⟨z,j,rfl,rfl,by subst hj;rw [rz];exact h⟩
theorem kl:∀ {ws:List Str} {B:Nat},(∀ w∈ws,w.length≤B)→(ws.map (·.length)).sum≤ws.length * B
 | [],_,_=>by simp
 | u::ws,B,h=>by
  have h1:=h u (by simp)
  have h2:=kl (ws:=ws) fun w hw=>h w (xAs _ hw)
  rw [xBs,List.sum_cons,xAo,Nat.succ_mul]
  lia
theorem cy {ws:List Str} {B:Nat} (e:H p=some (.lst (ws.map V.str))) (hB:∀ w∈ws,w.length≤B) (hl:ws.length * (B+z.length)≤16000000) (h:Q (.str (Str.join z ws)) H):rJoin K (.str z) [.ref p] H Q :=
 ⟨z,p,ws,rfl,rfl,.of e,by
  have:=kl hB
  rw [Nat.mul_add] at hl
  lia,by rw [show Txt.join z ws=_ from StrLaws.glued_eq_join z ws];exact h⟩
theorem tZ (i j:Str) (h:i.length≤100000):(Builtin.Str.partsBetween i (Builtin.Str.occurrences i j 0 i.length (i.length+1)) j.length).length≤sizeLine:=by
 have h1:=StrLaws.occ_length_le i j 0 i.length (i.length+1)
 have h2:∀ (cuts:List Nat) (a:Nat),(StrLaws.partsFrom i j.length a cuts).length=cuts.length+1:=by
  intro cuts
  induction cuts with
  | nil=>intro a;rfl
  | cons c cuts ih=>intro a;simp [StrLaws.partsFrom,ih]
 rw [StrLaws.partsBetween_eq,h2]
 exact lineMe (by lia)
theorem eF {j:Str} {c:Nat} (hj:j=one c) (hl:z.length≤100000) (h:∀ l H2,Same H H2→H l=none→H2 l=some (.lst ((Txt.split z (one c)).map V.str))→Q (.ref l) H2):rSplit (.str z) [.str j] H Q:=by
 subst hj
 refine ⟨z,one c,rfl,rfl,rfl,lineMe (by lia),tZ z _ hl,?_,fun l hl=>h l _ (aw hl _) hl ah⟩
 have:=_root_.Row.split_len z c
 exact lineMe (by lia)
theorem nG {i:Int} {c:Nat} (hl:z.length≤16000000) (e:atI (tl z) i=some c) (h:Q (.str (one c)) H):rIxS (.str z) (.int i) H Q:=⟨z,i,c,rfl,rfl,lineMe hl,e,h⟩
theorem eI {n:String} {k:Bool} (e:PySem.W.kitOne K (.type "str") (.type n)=some k) (h:Q (.bl k) H):cIsT K [.str z,.ty n] H Q:=⟨_,_,_,k,rfl,.str z,e,h⟩
theorem uJ {v:V} (e:SqT K H p xs) (f:flatV v=true) (fs:xs.all flatV=true) (h:Q (.bl (inV v xs)) H):rIn K false v (.ref p) H Q:=⟨p,xs,rfl,.inr e,f,fs,h⟩
theorem nH {R:It→Hp→Prop} (e:SqT K H p xs) (h:R (Itt K p) H):nIterT K (.ref p) H R:=⟨p,rfl,⟨xs,e⟩,h⟩
end
theorem qc {r r':R2} {ta tb tc:TE} {σ:St} {H:Hp} {Q:VK} (h:ta σ H fun x H1=>tb σ H1 fun y H2=>r x y H2 fun z H3=>∃ k,z=V.bl k∧(if k=true then tc σ H3 fun w' H4=>r' y w' H4 Q else Q (.bl false) H3)):tChain r r' ta tb tc σ H Q:=h
theorem Rps.strs {H:Hp}:∀ {ws:List Str} {vs:List V},Rps H (ws.map D.str) vs→vs=ws.map V.str
 | [],_,h=>h
 | _::_,_,h=>by
  obtain ⟨v,r,rfl,h1,h2⟩:=h
  rw [show v=_ from h1,Rps.strs h2]
  rfl
theorem LD.strs {H:Hp} {l:Addr} {ws:List Str} (h:LD H l (ws.map D.str)):H l=some (.lst (ws.map V.str)):=by
 obtain ⟨vs,e,r⟩:=h
 rw [e,r.strs]
theorem LD.bls {H:Hp} {l:Addr} {bs:List Bool} (h:LD H l (bs.map D.bl)):H l=some (.lst (bs.map V.bl)):=by
 obtain ⟨vs,e,r⟩:=h
 have:∀ {bs:List Bool} {vs:List V},Rps H (bs.map D.bl) vs→vs=bs.map V.bl:=by
  intro bs
  induction bs with
  | nil=>intro vs h;exact h
  | cons b bs ih =>
   intro vs h
   obtain ⟨v,r,rfl,h1,h2⟩:=h
   rw [show v=_ from h1,ih h2]
   rfl
 rw [e,this r]
theorem LD.ints {H:Hp} {l:Addr} {ns:List Int} (h:LD H l (ns.map D.int)):H l=some (.lst (ns.map V.int)):=by
 obtain ⟨vs,e,r⟩:=h
 rw [e,r.ints]
section
variable {J:It} {P:Hp→Prop} {n:Nat} {Y:Nat→Hp→V→Hp→Prop} {g:TG} {tc:TT} {te:TE} {m:Nat} {cs:St} {H:Hp} {Q:VK}
theorem cr {α:Type} {l:List α} (wk:Wk J P n Y) (hn:n=l.length) (hP:∀ H',Same H H'→P H') (f:α→D) (hl:n<16000000)
  (he:∀ (B:Addr) (ys:List V) (i:Nat) (a:α) (x:V) (H1 H1':Hp) (N1:V→Hp→Prop) (N0:Hp→Prop),l[i]?=some a→Same H H1→H1 B=some (.lst ys)→Y i H1 x H1'→(∀ v H4,Same H1 H4→Rp H4 (f a) v→N1 v H4) →
   g x (List.replicate m none++cs) H1' fun σ2 H2=>σ2.drop m=cs∧σ2.length=m+cs.length∧tc σ2 H2 fun b H3=>H3 B=some (.lst ys)∧if b=true then te σ2 H3 fun v H4=>H4 B=some (.lst ys)∧N1 v H4 else N0 H3)
  (hd:∀ B H',Same H H'→H B=none→LD H' B (l.map f)→Q (.ref B) H'):nLC J m cs g tc te H Q:=by
 refine oI wk (fun B i ys H1=>H B=none∧H1 B=some (.lst ys)∧Same H H1∧ys.length=i∧Rps H1 ((l.take i).map f) ys) (fun B hD=>⟨hD,ah,aw hD _,rfl,by simp [Rps]⟩)
  (fun B i ys H1 hi ⟨h0,h1,h2,h3,h4⟩=>⟨h1,lineM (by lia),hP _ h2⟩) ?_ ?_
 ·rintro B i ys H1 x H1' hi ⟨h0,h1,h2,h3,h4⟩ hy
  have hi':i<l.length:=by lia
  refine he B ys i l[i] x H1 H1' _ _ (xAk hi') h2 h1 hy fun v H4 s4 r=>?_
  refine ⟨h0,ah,(h2.trans s4).upd_new h0,by simp [h3],?_⟩
  have t:TLe H4 (upd H4 B (.lst (ys++[v]))):=TLe.upd fun zs z=>by rw [s4 _ _ h1] at z;cases z
  rw [List.take_add_one,xAk hi',xAi]
  exact (Rps.snoc (h4.mono s4) r).le t
 ·rintro B ys H1 ⟨h0,h1,h2,h3,h4⟩
  rw [hn,xAu] at h4
  exact hd B H1 h2 h0 ⟨ys,h1,h4⟩
theorem rf {fp:List Addr} {Iv:Hp→Prop} {G:Nat→List D→Prop} (wk:Wk J P n Y) (i0:Iv H) (hP:∀ H',Kept fp H H'→Iv H'→P H') (hI:∀ H1 B o,H B=none→Kept fp H H1→Iv H1→Iv (upd H1 B o)) (g0:G 0 []) (hl:n<16000000)
  (he:∀ (B:Addr) (ys:List V) (ds:List D) (i:Nat) (x:V) (H1 H1':Hp) (N1:V→Hp→Prop) (N0:Hp→Prop),i<n→Kept fp H H1→TLe H H1→H B=none→Iv H1→G i ds→H1 B=some (.lst ys)→Y i H1 x H1' →
   (∀ v d H4,Kept fp H1 H4→TLe H1 H4→H4 B=some (.lst ys)→Iv H4→Rp H4 d v→G (i+1) (ds++[d])→N1 v H4)→(∀ H3,Kept fp H1 H3→TLe H1 H3→H3 B=some (.lst ys)→Iv H3→G (i+1) ds→N0 H3) →
   g x (List.replicate m none++cs) H1' fun σ2 H2=>σ2.drop m=cs∧σ2.length=m+cs.length∧tc σ2 H2 fun b H3=>H3 B=some (.lst ys)∧if b=true then te σ2 H3 fun v H4=>H4 B=some (.lst ys)∧N1 v H4 else N0 H3)
  (hd:∀ B H' ds,Kept fp H H'→TLe H H'→Iv H'→H B=none→LD H' B ds→G n ds→Q (.ref B) H'):nLC J m cs g tc te H Q:=by
 refine oI wk (fun B i ys H1=>H B=none∧H1 B=some (.lst ys)∧Kept fp H H1∧TLe H H1∧Iv H1∧ys.length≤i∧∃ ds,Rps H1 ds ys∧G i ds) (fun B hD=>⟨hD,ah,.of (aw hD _),.of (aw hD _),hI _ _ _ hD (.of fun _ _ e=>e) i0,xAg _,[],rfl,g0⟩)
  (fun B i ys H1 hi ⟨h0,h1,h2,_,h3,h4,_⟩=>⟨h1,lineM (by lia),hP _ h2 h3⟩) ?_ ?_
 ·rintro B i ys H1 x H1' hi ⟨h0,h1,h2,h2',h3,h4,ds,h5,h6⟩ hy
  refine he B ys ds i x H1 H1' _ _ hi h2 h2' h0 h3 h6 h1 hy (fun v d H4 k4 t4 e4 i4 r g'=>?_) (fun H4 k4 t4 e4 i4 g'=>?_)
  ·have t:TLe H4 (upd H4 B (.lst (ys++[v]))):=TLe.upd fun zs z=>by rw [e4] at z;cases z
   refine ⟨h0,ah,fun b o e hb=>?_,h2'.trans (t4.trans t),hI _ _ _ h0 (h2.trans k4) i4,by rw [xAb];simp;lia,ds++[d],((h5.le t4).snoc r).le t,g'⟩
   rw [am (aH e h0)]
   exact (h2.trans k4) b o e hb
  ·exact ⟨h0,e4,h2.trans k4,h2'.trans t4,i4,by lia,ds,h5.le t4,g'⟩
 ·rintro B ys H1 ⟨h0,h1,h2,h2',h3,h4,ds,h5,h6⟩
  exact hd B H1 ds h2 h2' h3 h0 ⟨ys,h1,h5⟩ h6
end
end L2
namespace K63
open PySem L2 _root_.Row
local macro_rules | `(tactic| walk_at "rd1")=>`(tactic| first
 | (with_reducible first | apply uz | apply sB | apply uR | apply wC | apply wB | apply wE | apply uN | apply sL | apply wJ | apply sQ | apply sA | apply uV | apply qc | apply uL | apply uW | apply fV | apply uA | apply sR | apply jP | apply r_c | apply sx | apply pS | apply wA | apply wL | apply wN | apply uS | apply uT | apply uE | apply uF | apply sU | apply uD | apply sy | apply uK | apply uy | apply uG | apply sW | apply wK | apply wy | apply r_U | apply uC | apply uX | apply wz | apply sX | apply uB | apply sE | apply uv | apply uM | apply sT | apply wI | apply sS | apply uV | apply wM | apply sF | apply sG | apply sK | apply pU | apply sC | apply pT | apply nD | apply sD | apply uH | apply uQ | apply wD | apply wH | apply wF | apply wG | apply pZ | apply sP | (apply r_we;intro _ _))
 | ((with_reducible first | refine' pY ?hh1 ?_ | refine' pX ?hh1 ?_ | refine' pW ?hh1 ?_ | refine' uU ?hh1 ?_ | refine' sJ ?hh1 ?_);(case hh1=>assumption))
 | ((with_reducible first | refine' sH ?hh1 ?_);(case hh1=>assumption))
 | ((with_reducible refine' ux ?hh1 ?_);(case hh1=>rfl))
 | ((with_reducible first | refine' gB ?hh1 ?hh2 ?_ | refine' sM ?hh1 ?hh2 ?_);(case hh1=>assumption);(case hh2=>rfl))
 | ((with_reducible refine' dh ?hh1 ?hh2 ?_);(case hh1=>assumption);(case hh2=>rfl))
 | ((with_reducible refine' uI ?hh1 ?hh2 ?hh3 ?_);(case hh1=>rfl);(case hh2=>rfl);(case hh3=>decide))
 | ((with_reducible refine' cx ?hh1 ?_);(case hh1=>decide +kernel)) | ((with_reducible refine' bW ?hh1 ?_);(case hh1=>decide +kernel))
 | ((with_reducible refine' ik ?hh1 ?hh2 ?_);(case hh1=>assumption);(case hh2=>(with_reducible first | exact gl | exact jv))))
local macro_rules | `(tactic| k_go)=>`(tactic| repeat walk_at "rd1")
def top (i:Nat):Stmt:=PySem.Challenge.pw_spacewright_k63_rows_written_and_read.main.body.getD i (.Pass ⟨0,0,0,0⟩)
structure Txt (w:World) (K:xFr) (mg:Str→Option Value) (C aF aO:Addr):Prop where
 zlen:mg "len"=none
 zlist:mg "list"=none
 ztuple:mg "tuple"=none
 zsorted:mg "sorted"=none
 zisinstance:mg "isinstance"=none
 zrange:mg "range"=none
 zint:mg "int"=none
 zzip:mg "zip"=none
 zbool:mg "bool"=none
 zstr:mg "str"=none
 zall:mg "all"=none
 zrepr:mg "repr"=none
 zset:mg "set"=none
 zenumerate:mg "enumerate"=none
 zmax:mg "max"=none
 zmin:mg "min"=none
 kII:PySem.W.kitOne K (.type "int") (.type "int")=some true
 kIB:PySem.W.kitOne K (.type "int") (.type "bool")=some false
 kSS:PySem.W.kitOne K (.type "str") (.type "str")=some true
 kST:PySem.W.kitOne K (.type "str") (.type "tuple")=some false
 gMir:∃ t,mg "MOST_IN_ROW"=some (.int 4 t)
 gLp:∃ t,mg "LAST_PLACE"=some (.int 599 t)
 gMf:∃ t,mg "MOST_FIGURES"=some (.int 12 t)
 gMs:∃ t,mg "MOST_SIGNS"=some (.int 60000 t)
 gMn:∃ t,mg "MOST_NAMES"=some (.int 300 t)
 gMsl:∃ t,mg "MOST_SLOTS"=some (.int 600 t)
 gLet:∃ t,mg "LETTERS"=some (.str "abcdefghijklmnopqrstuvwxyz" t)
 gFig:∃ t,mg "FIGURES"=some (.str "0123456789" t)
 gForms:mg "FORMS"=some (.ref aF)
 gOps:mg "OPS"=some (.ref aO)
 kd:KD w K aF
 ops:∀ H,SqT K H aO (opL.map V.str)
 fm:∀ p∈tab,∃ t,PySem.W.nsIn K aF p.1=some (some (.ref t))∧∀ H,SqT K H t (p.2.map fun s=>V.str s.nm)
 cR:Cs K C ["words","number","codes","own","end","at"]
theorem bS:bootBuiltins "len"=some (.builtin "len"):=by decide +kernel
theorem ur:bootBuiltins "list"=some (.type "list"):=by decide +kernel
theorem bj:bootBuiltins "tuple"=some (.type "tuple"):=by decide +kernel
theorem pz:bootBuiltins "sorted"=some (.builtin "sorted"):=by decide +kernel
theorem fv:bootBuiltins "int"=some (.type "int"):=by decide +kernel
theorem ut:bootBuiltins "bool"=some (.type "bool"):=by decide +kernel
theorem dE:bootBuiltins "str"=some (.type "str"):=by decide +kernel
theorem pA:bootBuiltins "all"=some (.builtin "all"):=by decide +kernel
theorem se:bootBuiltins "set"=some (.type "set"):=by decide +kernel
theorem wx:bootBuiltins "max"=some (.builtin "max"):=by decide +kernel
theorem ww:bootBuiltins "min"=some (.builtin "min"):=by decide +kernel
abbrev ci:Stmt:=top 4
abbrev df:Stmt:=top 10
abbrev cG:Stmt:=top 11
abbrev splain:Stmt:=top 12
abbrev aS:Stmt:=top 16
abbrev cF:Stmt:=top 22
abbrev cf:Stmt:=top 23
abbrev de:Stmt:=top 24
abbrev db:Stmt:=top 25
abbrev ce:Stmt:=top 26
abbrev bt:Stmt:=top 27
abbrev bx:Stmt:=top 28
abbrev cg:Stmt:=top 29
abbrev bz:Stmt:=top 30
abbrev dg:Stmt:=top 31
abbrev bN:Stmt:=top 32
abbrev bQ:Stmt:=top 33
abbrev bP:Stmt:=top 34
abbrev bq:Stmt:=top 35
abbrev eE:Stmt:=inClass (top 36) 0
abbrev eD:Stmt:=inClass (top 36) 1
abbrev eC:Stmt:=inClass (top 36) 2
abbrev cq:Stmt:=inClass (top 36) 3
abbrev bE:Stmt:=inClass (top 36) 4
abbrev bU:Stmt:=inClass (top 36) 5
abbrev cK:Stmt:=inClass (top 36) 6
abbrev bG:Stmt:=inClass (top 36) 7
abbrev aX:Stmt:=inClass (top 36) 8
abbrev bF:Stmt:=inClass (top 36) 9
abbrev aU:Stmt:=inClass (top 36) 10
abbrev sLcell:Stmt:=top 38
abbrev sLstate:Stmt:=top 39
abbrev sLword:Stmt:=top 41
abbrev sLshapes:Stmt:=top 42
abbrev sLoperand:Stmt:=top 43
abbrev sLfield:Stmt:=top 44
abbrev sLrow:Stmt:=top 45
abbrev sLrows:Stmt:=top 46
abbrev aY:Stmt:=top 47
abbrev bA:Stmt:=top 48
abbrev sLlines:Stmt:=top 49
abbrev slaw:Stmt:=top 50
section
variable {P:Program} {w:World} {K:xFr} {mg:Str→Option Value} {base:Heap} {C aF aO:Addr}
def spIsn:Sp:=fun vs H Q _=>∃ i:Int,vs=[.int i]∧Q (.bl true) H
def gisn:Scope:={ kind:=.function,names:=[("thing",.local),("isinstance",.globalImplicit),("int",.globalImplicit),("bool",.globalImplicit)],isGenerator:=false,isCoroutine:=false,more:=[] }
theorem scisn:FnScope ["thing"] ["thing"] gisn:=⟨rfl,rfl,rfl,by decide +kernel,rfl,by decide +kernel,by decide +kernel⟩
theorem tY (F:Dn K mg "is_number" ci ["thing"]) (T:Txt w K mg C aF aO):Cal P w K mg base "is_number" 1 ["thing"] spIsn:=by
 refine F.ok scisn rfl (fun vs H Q E h=>?_) (fun f cdv A outer s H vs Q E hr h=>?_)
 ·obtain ⟨i,rfl,_⟩:=h
  rfl
 ·obtain ⟨i,rfl,q⟩:=h
  refine' ⟨?tt,QSs.h ?hh,?gg⟩
  case hh=>exact (ae (ai (ef (aL ek rfl T.zisinstance cT (ad (qv 0) (ad (dv (v:=.ty "int") rfl T.zint fv rfl) ab))) (du (nN (aL ek rfl T.zisinstance cT (ad (qv 0) (ad (dv (v:=.ty "bool") rfl T.zbool ut rfl) ab))))))))
  k_go
  refine kG T.kII ?_
  k_go
  refine kG T.kIB ?_
  k_go
  exact q
end
section
variable {P:Program} {w:World} {K:xFr} {mg:Str→Option Value} {base:Heap} {C aF aO:Addr}
def spPl:Sp:=fun vs H Q _=>∃ i:Int,vs=[.int i]∧0≤i∧i≤599∧Q (.bl true) H
def gpl:Scope:={ kind:=.function,names:=[("thing",.local),("is_number",.globalImplicit),("LAST_PLACE",.globalImplicit)],isGenerator:=false,isCoroutine:=false,more:=[] }
theorem scpl:FnScope ["thing"] ["thing"] gpl:=⟨rfl,rfl,rfl,by decide +kernel,rfl,by decide +kernel,by decide +kernel⟩
theorem vM (F:Dn K mg "is_place" cG ["thing"]) (T:Txt w K mg C aF aO) (c_is_number:Cal P w K mg base "is_number" 1 ["thing"] spIsn):Cal P w K mg base "is_place" 2 ["thing"] spPl:=by
 refine F.ok scpl rfl (fun vs H Q E h=>?_) (fun f cdv A outer s H vs Q E hr h=>?_)
 ·obtain ⟨i,rfl,_⟩:=h
  rfl
 ·obtain ⟨i,rfl,h0,h1,q⟩:=h
  refine' ⟨?tt,QSs.h ?hh,?gg⟩
  case hh=>exact (ae (ai (ef (ap c_is_number hr rfl (ad (qv 0) ab)) (du (fX dD dD ag (qv 0) (bX T.gLp))))))
  k_go
  refine ⟨i,rfl,?_⟩
  k_go
  refine cx (xBd h0) ?_
  k_go
  rw [xBd h1]
  exact q
end
section
variable {P:Program} {w:World} {K:xFr} {mg:Str→Option Value} {base:Heap} {C aF aO:Addr}
theorem eS {α:Type} {l:List α} {f:α→Bool} (h:∀ a∈l,f a=true):(l.map f).all id=true:=by
 rw [List.all_eq_true]
 intro b hb
 obtain ⟨a,ha,rfl⟩:=xA2.mp hb
 exact h a ha
theorem re:∀ c:Nat,97≤c→c≤122→c∈tl ("abcdefghijklmnopqrstuvwxyz":Str):=by
 have:∀ c:Nat,c<123→97≤c→c∈tl ("abcdefghijklmnopqrstuvwxyz":Str):=by decide +kernel
 intro c h1 h2
 exact this c (by lia) h1
theorem lg:∀ c:Nat,48≤c→c≤57→c∈tl ("0123456789":Str):=by
 have:∀ c:Nat,c<58→48≤c→c∈tl ("0123456789":Str):=by decide +kernel
 intro c h1 h2
 exact this c (by lia) h1
def spWd:Sp:=fun vs H Q _=>∃ z:Str,vs=[.str z]∧Wd z∧∀ H',Same H H'→Q (.bl true) H'
def giw:Scope:={ kind:=.function,names:=[("thing",.local),("isinstance",.globalImplicit),("str",.globalImplicit),("len",.globalImplicit),("all",.globalImplicit)],isGenerator:=false,isCoroutine:=false,more:=[("fast",.str "thing"),("fast",.str "sign")] }
theorem sciw:FnScope ["thing"] ["thing"] giw:=⟨rfl,rfl,rfl,by decide +kernel,rfl,by decide +kernel,by decide +kernel⟩
theorem vZ (F:Dn K mg "is_word" df ["thing"]) (T:Txt w K mg C aF aO):Cal P w K mg base "is_word" 1 ["thing"] spWd:=by
 refine F.ok sciw rfl (fun vs H Q E h=>?_) (fun f cdv A outer s H vs Q E hr h=>?_)
 ·obtain ⟨z,rfl,_⟩:=h
  rfl
 ·obtain ⟨z,rfl,hz,q⟩:=h
  refine' ⟨?tt,QSs.h ?hh,?gg⟩
  case hh=>exact (ac (av (QW.pt (kI (c7 (cA (aL ek rfl T.zisinstance cT (ad (qv 0) (ad (dv (v:=.ty "str") rfl T.zstr dE rfl) ab))))) (il (c7 (i7 dD dD ag (aL e9 rfl T.zlen bS (ad (qv 0) ab)) ag))))) (ae (ai fY)) ak)
   (ae (ai (aL (kb rfl) rfl T.zall pA (ad (bh (ls:=["sign"]) (N:=[]) (fr:=[]) rfl (CapsG.mk' rfl (by decide +kernel) rfl (by decide +kernel) .nil (by decide +kernel) rfl) (jR (qv 0)) (fun C s H fp=>(aj (i:=0) (show (["sign"]:List Str).Nodup by decide +kernel) rfl (Or.inl rfl))) (fun C s H fp=>aI) (fun C s H fp=>(aM ox (qv 0) (ja T.gLet) rfl))) ab)))))
  have h1:=hz.p
  have h2:=hz.q
  k_go
  refine eI T.kSS ?_
  k_go
  refine eG (by lia) ?_
  k_go
  refine cx (xBd (by lia)) ?_
  k_go
  rw [xBd (show ((z.length:Nat):Int)≤8 by lia)]
  k_go
  refine dP ?_
  refine cr (l:=tl z) gU (by simp [tl]) (fun _ _=>True.intro) (fun c=>.bl true) (by have:=bL z;simp [tl] at this;lia) ?_ ?_
  ·rintro B ys i c x H1 _ N1 N0 hc s1 hB ⟨rfl,c',hc',rfl⟩ k1
   have:c'=c:=by
    rw [show z.cps[i]?=(tl z)[i]? by simp [tl],hc] at hc'
    cases hc'
    rfl
   subst this
   have hm:=hz.l c' (xAc hc)
   k_go
   refine ⟨rfl,rfl,?_⟩
   k_go
   refine ⟨hB,?_⟩
   k_go
   refine jQ rfl ?_
   rw [xBd (re c' hm.1 hm.2)]
   exact ⟨hB,k1 _ _ (fun _ _ e=>e) rfl⟩
  ·intro B H1 s1 n1 h1
   have h1:LD H1 B (((tl z).map fun _=>true).map D.bl):=by rw [xCc];exact h1
   refine kH h1.bls ?_
   rw [eS fun _ _=>rfl]
   exact q _ s1
end
section
variable {P:Program} {w:World} {K:xFr} {mg:Str→Option Value} {base:Heap} {C aF aO:Addr}
def spPn:Sp:=fun vs H Q _=>∃ z:Str,vs=[.str z]∧z.length≤100000∧∀ H',Same H H'→Q (.str z) H'
def gpn:Scope:={ kind:=.function,names:=[("thing",.local),("isinstance",.globalImplicit),("tuple",.globalImplicit),("str",.globalImplicit),("is_number",.globalImplicit),("int",.globalImplicit)],isGenerator:=false,isCoroutine:=false,more:=[] }
theorem scpn:FnScope ["thing"] ["thing"] gpn:=⟨rfl,rfl,rfl,by decide +kernel,rfl,by decide +kernel,by decide +kernel⟩
theorem vL (F:Dn K mg "plain" splain ["thing"]) (T:Txt w K mg C aF aO) (c_is_number:Cal P w K mg base "is_number" 1 ["thing"] spIsn):Cal P w K mg base "plain" 2 ["thing"] spPn:=by
 refine F.ok scpn rfl (fun vs H Q E h=>?_) (fun f cdv A outer s H vs Q E hr h=>?_)
 ·obtain ⟨z,rfl,_⟩:=h
  rfl
 ·obtain ⟨z,rfl,hz,q⟩:=h
  refine' ⟨?tt,QSs.h ?hh,?gg⟩
  case hh=>exact (ac (av (cA (aL ek rfl T.zisinstance cT (ad (qv 0) (ad (dv (v:=.ty "tuple") rfl T.ztuple bj rfl) ab)))) (ae dI) ak)
   (ac (av (cA (aL ek rfl T.zisinstance cT (ad (qv 0) (ad (dv (v:=.ty "str") rfl T.zstr dE rfl) ab)))) (ae (ai (bB PySem.F.plainAttrs_str PySem.F.slot_str_join PySem.F.type_str_join cE af (ad (bb (ad (qv 0) ab)) ab)))) ak)
   (ac (av (cA (ap c_is_number hr rfl (ad (qv 0) ab))) (ae (ai (aN eQ rfl T.zint fv (ad (qv 0) ab)))) ak)
   (ae (ai (qv 0))))))
  k_go
  refine eI T.kST ?_
  k_go
  refine eI T.kSS ?_
  k_go
  refine bm ?_
  k_go
  refine aZ fun l H1 s1 n1 h1=>?_
  k_go
  have e0:(PySem.Str.ofString "").length=0:=by decide +kernel
  refine cy (ws:=[z]) (B:=100000) h1 (by simpa using hz) (by rw [e0];show 1 * (100000+0)≤_;decide) ?_
  exact q _ s1
end
section
variable {P:Program} {w:World} {K:xFr} {mg:Str→Option Value} {base:Heap} {C aF aO:Addr}
theorem gh {y:Str} (h:Fig y):∃ c r,tl y=c::r∧48≤c∧c≤57:=by
 cases e:tl y with
 | nil =>
  have:=h.pos
  rw [← bL,e] at this
  exact absurd this (by decide)
 | cons c r=>exact ⟨c,r,rfl,h.dig c (by rw [e];simp)⟩
def spNw:Sp:=fun vs H Q _=>∃ (z y:Str),vs=[.str z,.int 12]∧Fig y∧(z=y∨(z=one 45++y∧(tl y).head?≠some 48))∧∀ H',Same H H'→Q (.bl true) H'
def gnw:Scope:={ kind:=.function,names:=[("word",.local),("most",.local),("figures",.local),("len",.globalImplicit),("all",.globalImplicit)],isGenerator:=false,isCoroutine:=false,more:=[("fast",.str "word"),("fast",.str "most"),("fast",.str "figures"),("fast",.str "sign")] }
theorem scnw:FnScope ["word","most","figures"] ["word","most"] gnw:=⟨rfl,rfl,rfl,by decide +kernel,rfl,by decide +kernel,by decide +kernel⟩
theorem vQ (F:Dn K mg "is_number_word" aS ["word","most"]) (T:Txt w K mg C aF aO):Cal P w K mg base "is_number_word" 1 ["word","most"] spNw:=by
 refine F.ok scnw rfl (fun vs H Q E h=>?_) (fun f cdv A outer s H vs Q E hr h=>?_)
 ·obtain ⟨z,y,rfl,_⟩:=h
  rfl
 ·obtain ⟨z,y,rfl,hy,hz,q⟩:=h
  refine' ⟨?tt,QSs.h ?hh,?gg⟩
  case hh=>exact (ac (aA (i:=2) scnw.nd rfl (Or.inl rfl) (eK (cA (bB PySem.F.plainAttrs_str PySem.F.slot_str_startswith PySem.F.type_str_startswith di (qv 0) (ad af ab))) (bw hZ (qv 0) (bI ag) cj) (qv 0)))
   (ac (av (c7 (i7 dD dD ag (aL e9 rfl T.zlen bS (ad (qv 2) ab)) (qv 1))) (ae (ai fY)) ak)
   (ac (av (c7 (cA (aL (kb rfl) rfl T.zall pA (ad (bh (ls:=["sign"]) (N:=[]) (fr:=[]) rfl (CapsG.mk' rfl (by decide +kernel) rfl (by decide +kernel) .nil (by decide +kernel) rfl) (jR (qv 2)) (fun C s H fp=>(aj (i:=0) (show (["sign"]:List Str).Nodup by decide +kernel) rfl (Or.inl rfl))) (fun C s H fp=>aI) (fun C s H fp=>(aM ox (qv 0) (ja T.gFig) rfl))) ab)))) (ae (ai fY)) ak)
   (ae (ai (nK (aM aJ (qv 0) af (nomark _)) (du (aM f6 (aB (r:=rIxS) oP (qv 2) ag) af (nomark _)))))))))
  have h1:=hy.pos
  have h2:=hy.few
  obtain ⟨c0,r0,e0,d1,d2⟩:=gh hy
  have e48:("0":Str)=one 48:=by decide +kernel
  rcases hz with rfl | ⟨rfl,hz⟩
  ·k_go
   refine bm ?_
   k_go
   refine cL (c:=45) (by decide +kernel) ?_
   k_go
   rw [decide_eq_false (show ¬ (tl z).head?=some 45 by rw [e0];simp;lia)]
   k_go
   refine eG (by lia) ?_
   k_go
   refine cx (xBd (by lia)) ?_
   k_go
   rw [xBd (show ((z.length:Nat):Int)≤12 by lia)]
   k_go
   refine dP ?_
   refine cr (l:=tl z) gU (by simp [tl]) (fun _ _=>True.intro) (fun c=>.bl true) (by have:=bL z;simp [tl] at this;lia) ?_ ?_
   ·rintro B ys i c x H1 _ N1 N0 hc s1 hB ⟨rfl,c',hc',rfl⟩ k1
    have:c'=c:=by
     rw [show z.cps[i]?=(tl z)[i]? by simp [tl],hc] at hc'
     cases hc'
     rfl
    subst this
    have hm:=hy.dig c' (xAc hc)
    k_go
    refine ⟨rfl,rfl,?_⟩
    k_go
    refine ⟨hB,?_⟩
    k_go
    refine jQ rfl ?_
    rw [xBd (lg c' hm.1 hm.2)]
    exact ⟨hB,k1 _ _ (fun _ _ e=>e) rfl⟩
   ·intro B H1 s1 n1 h1
    have h1:LD H1 B (((tl z).map fun _=>true).map D.bl):=by rw [xCc];exact h1
    k_go
    refine kH h1.bls ?_
    rw [eS fun _ _=>rfl]
    k_go
    rcases hy.lead with e | e
    ·refine cx (xBd (e.trans e48.symm)) ?_
     exact q _ s1
    ·refine bW (decide_eq_false fun z1=>e (by rw [z1,e48];rfl)) ?_
     k_go
     refine nG (by lia) (c:=c0) (by rw [e0];exact fw) ?_
     k_go
     rw [decide_eq_false (show ¬ one c0="0" from fun z1=>e (by rw [e0];rw [e48] at z1;have:=congrArg tl z1;simpa using this))]
     exact q _ s1
  ·have hz0:(one 45++y).length=y.length+1:=by rw [strLen_append];show 1+_=_;lia
   k_go
   refine bm ?_
   k_go
   refine cL (c:=45) (by decide +kernel) ?_
   k_go
   rw [xBd (show (tl (one 45++y)).head?=some 45 by rw [aD];rfl)]
   k_go
   refine kB (by lia) ?_
   have ey:(⟨(([45]++tl y).drop 1).toArray⟩:Str)=y:=ext rfl
   rw [fS (by lia),aD,gY,ey]
   k_go
   refine eG (by lia) ?_
   k_go
   refine cx (xBd (by lia)) ?_
   k_go
   rw [xBd (show ((y.length:Nat):Int)≤12 by lia)]
   k_go
   refine dP ?_
   refine cr (l:=tl y) gU (by simp [tl]) (fun _ _=>True.intro) (fun c=>.bl true) (by have:=bL y;simp [tl] at this;lia) ?_ ?_
   ·rintro B ys i c x H1 _ N1 N0 hc s1 hB ⟨rfl,c',hc',rfl⟩ k1
    have:c'=c:=by
     rw [show y.cps[i]?=(tl y)[i]? by simp [tl],hc] at hc'
     cases hc'
     rfl
    subst this
    have hm:=hy.dig c' (xAc hc)
    k_go
    refine ⟨rfl,rfl,?_⟩
    k_go
    refine ⟨hB,?_⟩
    k_go
    refine jQ rfl ?_
    rw [xBd (lg c' hm.1 hm.2)]
    exact ⟨hB,k1 _ _ (fun _ _ e=>e) rfl⟩
   ·intro B H1 s1 n1 h1
    have h1:LD H1 B (((tl y).map fun _=>true).map D.bl):=by rw [xCc];exact h1
    k_go
    refine kH h1.bls ?_
    rw [eS fun _ _=>rfl]
    k_go
    refine bW (decide_eq_false fun z1=>by have:=congrArg tl z1;rw [e48,aD] at this;exact absurd (List.cons.inj (show 45::tl y=[48] from this)).1 (by decide)) ?_
    k_go
    refine nG (by lia) (c:=c0) (by rw [e0];exact fw) ?_
    k_go
    rw [decide_eq_false (show ¬ one c0="0" from fun z1=>hz (by rw [e0];rw [e48] at z1;have:=congrArg tl z1;simpa using this))]
    exact q _ s1
end
section
variable {P:Program} {w:World} {K:xFr} {mg:Str→Option Value} {base:Heap} {C aF aO:Addr}
def spFg:Sp:=fun vs H Q _=>∃ z:Str,vs=[.str z]∧Fig z∧∀ H',Same H H'→Q (.bl true) H'
def gfg:Scope:={ kind:=.function,names:=[("word",.local),("is_number_word",.globalImplicit),("MOST_FIGURES",.globalImplicit)],isGenerator:=false,isCoroutine:=false,more:=[] }
theorem scfg:FnScope ["word"] ["word"] gfg:=⟨rfl,rfl,rfl,by decide +kernel,rfl,by decide +kernel,by decide +kernel⟩
theorem wa (F:Dn K mg "is_figures" bP ["word"]) (T:Txt w K mg C aF aO) (c_is_number_word:Cal P w K mg base "is_number_word" 1 ["word","most"] spNw):Cal P w K mg base "is_figures" 2 ["word"] spFg:=by
 refine F.ok scfg rfl (fun vs H Q E h=>?_) (fun f cdv A outer s H vs Q E hr h=>?_)
 ·obtain ⟨z,rfl,_⟩:=h
  rfl
 ·obtain ⟨z,rfl,hz,q⟩:=h
  refine' ⟨?tt,QSs.h ?hh,?gg⟩
  case hh=>exact (ae (ai (ef (ap c_is_number_word hr rfl (ad (qv 0) (ad (bX T.gMf) ab))) (du (nN (bB PySem.F.plainAttrs_str PySem.F.slot_str_startswith PySem.F.type_str_startswith di (qv 0) (ad af ab)))))))
  obtain ⟨c0,r0,e0,d1,d2⟩:=gh hz
  k_go
  refine ⟨z,z,rfl,hz,.inl rfl,fun H1 s1=>?_⟩
  k_go
  refine bm ?_
  k_go
  refine cL (c:=45) (by decide +kernel) ?_
  rw [decide_eq_false (show ¬ (tl z).head?=some 45 by rw [e0];simp;lia)]
  k_go
  exact q _ s1
end
section
variable {P:Program} {w:World} {K:xFr} {mg:Str→Option Value} {base:Heap} {C aF aO:Addr}
def spRf (K:xFr):Sp:=fun vs H Q _=>∃ p:Str×List Srt,vs=[.str p.1]∧p∈tab∧∀ t:Addr,(∀ H,SqT K H t (p.2.map fun s=>V.str s.nm))→Q (.ref t) H
def grf:Scope:={ kind:=.function,names:=[("word",.local),("FORMS",.globalImplicit)],isGenerator:=false,isCoroutine:=false,more:=[] }
theorem scrf:FnScope ["word"] ["word"] grf:=⟨rfl,rfl,rfl,by decide +kernel,rfl,by decide +kernel,by decide +kernel⟩
theorem vG (F:Dn K mg "row_form" cF ["word"]) (T:Txt w K mg C aF aO):Cal P w K mg base "row_form" 1 ["word"] (spRf K):=by
 refine F.ok scrf rfl (fun vs H Q E h=>?_) (fun f cdv A outer s H vs Q E hr h=>?_)
 ·obtain ⟨p,rfl,_⟩:=h
  rfl
 ·obtain ⟨p,rfl,hp,q⟩:=h
  refine' ⟨?tt,QSs.h ?hh,?gg⟩
  case hh=>exact (ae (ai (qf T.kd (kN rfl T.gForms rfl) (qv 0))))
  obtain ⟨t,h1,h2⟩:=T.fm p hp
  k_go
  refine sN (v:=.ref t) h1 rfl ?_
  exact q t h2
end
section
variable {P:Program} {w:World} {K:xFr} {mg:Str→Option Value} {base:Heap} {C aF aO:Addr}
theorem iU:("s":Str)=one 115:=by decide +kernel
def spSt:Sp:=fun vs H Q _=>∃ n:Int,vs=[.int n]∧n.natAbs<10 ^ 12∧Q (.str (slT n)) H
def gst:Scope:={ kind:=.function,names:=[("slot",.local)],isGenerator:=false,isCoroutine:=false,more:=[] }
theorem scst:FnScope ["slot"] ["slot"] gst:=⟨rfl,rfl,rfl,by decide +kernel,rfl,by decide +kernel,by decide +kernel⟩
theorem vw (F:Dn K mg "slot_text" ce ["slot"]) (T:Txt w K mg C aF aO):Cal P w K mg base "slot_text" 1 ["slot"] spSt:=by
 refine F.ok scst rfl (fun vs H Q E h=>?_) (fun f cdv A outer s H vs Q E hr h=>?_)
 ·obtain ⟨n,rfl,_⟩:=h
  rfl
 ·obtain ⟨n,rfl,hn,q⟩:=h
  refine' ⟨?tt,QSs.h ?hh,?gg⟩
  case hh=>exact (ae (ai (u0 (qv 0))))
  k_go
  refine uP hn (by decide +kernel) ?_
  rw [iU]
  exact q
end
section
variable {P:Program} {w:World} {K:xFr} {mg:Str→Option Value} {base:Heap} {C aF aO:Addr}
theorem oB {H:Hp} {v:V} {o:Bool×Int} (h:Rp H (opD o) v):∃ p,v = .ref p∧H p=some (.tup [.str (if o.1 then "slot" else "number"),.int o.2]):=by
 obtain ⟨p,vs,rfl,e,v1,r1,rfl,h1,v2,r2,rfl,h2,h3⟩:=h
 rw [show v1=_ from h1,show v2=_ from h2,show r2=_ from h3] at e
 exact ⟨p,rfl,e⟩
theorem ei {H:Hp} {p:Addr} {o:Bool×Int} (e:H p=some (.tup [.str (if o.1 then "slot" else "number"),.int o.2])):Rp H (opD o) (.ref p):=⟨p,_,rfl,e,_,_,rfl,rfl,_,_,rfl,rfl,rfl⟩
def spOt:Sp:=fun vs H Q _=>∃ (v:V) (o:Bool×Int),vs=[v]∧Rp H (opD o) v∧o.2.natAbs<10 ^ 12∧Q (.str (opT o)) H
def got:Scope:={ kind:=.function,names:=[("operand",.local),("slot_text",.globalImplicit),("str",.globalImplicit)],isGenerator:=false,isCoroutine:=false,more:=[] }
theorem scot:FnScope ["operand"] ["operand"] got:=⟨rfl,rfl,rfl,by decide +kernel,rfl,by decide +kernel,by decide +kernel⟩
theorem vN (F:Dn K mg "operand_text" bt ["operand"]) (T:Txt w K mg C aF aO) (c_slot_text:Cal P w K mg base "slot_text" 1 ["slot"] spSt):Cal P w K mg base "operand_text" 2 ["operand"] spOt:=by
 refine F.ok scot rfl (fun vs H Q E h=>?_) (fun f cdv A outer s H vs Q E hr h=>?_)
 ·obtain ⟨v,x,rfl,_⟩:=h
  rfl
 ·obtain ⟨v,x,rfl,hv,hn,q⟩:=h
  refine' ⟨?tt,QSs.h ?hh,?gg⟩
  case hh=>exact (ae (ai (eK (ao aJ (aB aQ (qv 0) ag) af (nomark _)) (ap c_slot_text hr rfl (ad (aB aQ (qv 0) ag) ab)) (aN dN rfl T.zstr dE (ad (aB aQ (qv 0) ag) ab)))))
  obtain ⟨b,n⟩:=x
  obtain ⟨p,rfl,hp⟩:=oB hv
  cases b
  ·have hp:H p=some (.tup [.str "number",.int n]):=hp
   k_go
   exact bV hn q
  ·have hp:H p=some (.tup [.str "slot",.int n]):=hp
   k_go
   exact ⟨n,rfl,hn,q⟩
end
section
variable {P:Program} {w:World} {K:xFr} {mg:Str→Option Value} {base:Heap} {C aF aO:Addr}
def spIb:Sp:=fun vs H Q _=>∃ (p:Addr) (us:List Str),vs=[.ref p]∧H p=some (.lst (us.map V.str))∧us.length≤1000∧(∀ u∈us,u.length≤1000)∧Q (.str (brk us)) H
def gib:Scope:={ kind:=.function,names:=[("words",.local)],isGenerator:=false,isCoroutine:=false,more:=[] }
theorem scib:FnScope ["words"] ["words"] gib:=⟨rfl,rfl,rfl,by decide +kernel,rfl,by decide +kernel,by decide +kernel⟩
theorem v0 (F:Dn K mg "in_brackets" bx ["words"]) (T:Txt w K mg C aF aO):Cal P w K mg base "in_brackets" 1 ["words"] spIb:=by
 refine F.ok scib rfl (fun vs H Q E h=>?_) (fun f cdv A outer s H vs Q E hr h=>?_)
 ·obtain ⟨p,us,rfl,_⟩:=h
  rfl
 ·obtain ⟨p,us,rfl,hp,hl,hm,q⟩:=h
  refine' ⟨?tt,QSs.h ?hh,?gg⟩
  case hh=>exact (ae (ai (aq ck (aq ck af (bB PySem.F.plainAttrs_str PySem.F.slot_str_join PySem.F.type_str_join cE af (ad (qv 0) ab))) af)))
  have hj:=bH (s:=one 32) (ts:=us) (B:=1001) fun t ht=>by have:=hm t ht;show _+1≤_;lia
  have h2:us.length * 1001≤1000 * 1001:=Nat.mul_le_mul_right _ hl
  have e1:("[":Str)=one 91:=by decide +kernel
  have e2:("]":Str)=one 93:=by decide +kernel
  have e3:(" ":Str)=one 32:=by decide +kernel
  k_go
  refine bm ?_
  k_go
  refine cy (B:=1000) hp hm (by rw [e3];show us.length * (1000+1)≤_;lia) ?_
  k_go
  rw [e1,e2,e3]
  refine bC (by show 1+_≤_;lia) ?_
  refine bC (by rw [strLen_append];show 1+_+1≤_;lia) ?_
  exact q
end
section
variable {P:Program} {w:World} {K:xFr} {mg:Str→Option Value} {base:Heap} {C aF aO:Addr}
structure Bnd' (c:Cd) (e:Int) (nc:Nat):Prop where
 s:c.sl≤600
 n:0≤c.en
 e:e≤1000
 c:nc≤1000
def spTo:Sp:=fun vs H Q _=>∃ (c:Cd) (e:Int) (nc:Nat) (s:Srt) (f:Fl) (v:V),vs=[.str s.nm,v]∧Fit c e nc s f∧Bnd' c e nc∧Rp H f.d v∧∀ H',Same H H'→Q (.str f.tx) H'
theorem gb {c:Cd} {l:List Int} (a:l.Pairwise (·<·)) (b:∀ n∈l,0≤n∧n<c.sl) (h:c.sl≤600):l.length≤600:=by
 by_cases z:0≤c.sl
 ·have:=ga a b z
  lia
 ·cases l with
  | nil=>simp
  | cons x r =>
   have:=b x (by simp)
   lia
theorem eB {n:Int} (h:n.natAbs<10 ^ 12):(slT n).length≤1000:=by
 unfold slT
 rw [strLen_append]
 have:=(bi h).2.2
 show 1+_≤_
 lia
theorem fE {o:Bool×Int} (h:o.2.natAbs<10 ^ 12):(opT o).length≤1000:=by
 unfold opT
 split
 ·exact eB h
 ·have:=(bi h).2.2
  lia
def gto:Scope:={ kind:=.function,names:=[("sort",.local),("thing",.local),("slot_text",.globalImplicit),("operand_text",.globalImplicit),("in_brackets",.globalImplicit),("str",.globalImplicit)],isGenerator:=false,isCoroutine:=false,more:=[("fast",.str "sort"),("fast",.str "thing"),("fast",.str "slot"),("fast",.str "operand")] }
theorem scto:FnScope ["sort","thing"] ["sort","thing"] gto:=⟨rfl,rfl,rfl,by decide +kernel,rfl,by decide +kernel,by decide +kernel⟩
theorem vq (F:Dn K mg "text_of" db ["sort","thing"]) (T:Txt w K mg C aF aO) (c_slot_text:Cal P w K mg base "slot_text" 1 ["slot"] spSt) (c_operand_text:Cal P w K mg base "operand_text" 2 ["operand"] spOt) (c_in_brackets:Cal P w K mg base "in_brackets" 1 ["words"] spIb):Cal P w K mg base "text_of" 3 ["sort","thing"] spTo:=by
 refine F.ok scto rfl (fun vs H Q E h=>?_) (fun f cdv A outer s H vs Q E hr h=>?_)
 ·obtain ⟨c,e,nc,s,f,v,rfl,_⟩:=h
  rfl
 ·obtain ⟨c,e,nc,sr,fl,v,rfl,hf,hb,hv,q⟩:=h
  have hu:=gf hr
  refine' ⟨?tt,QSs.h ?hh,?gg⟩
  case hh=>exact (ac (av (ao aJ (qv 0) af (nomark _)) (ae (ai (ap c_slot_text hr rfl (ad (qv 1) ab)))) ak)
   (ac (av (ao aJ (qv 0) af (nomark _)) (ae (ai (ap c_operand_text hr rfl (ad (qv 1) ab)))) ak)
   (ac (av (dY (eY (qv 0) (ad af (ad af ab))) rfl) (ae (ai (ap c_in_brackets hr rfl (ad (bh (ls:=["slot"]) (N:=[]) (fr:=[]) rfl (CapsG.mk' rfl (by decide +kernel) rfl (by decide +kernel) .nil (by decide +kernel) rfl) (c8 (qv 1)) (fun C s H fp=>(aj (i:=0) (show (["slot"]:List Str).Nodup by decide +kernel) rfl (Or.inl rfl))) (fun C s H fp=>aI) (fun C s H fp=>(ap c_slot_text hr rfl (ad (qv 0) ab)))) ab)))) ak)
   (ac (av (dY (eY (qv 0) (ad af (ad af ab))) rfl) (ae (ai (ap c_in_brackets hr rfl (ad (bh (ls:=["operand"]) (N:=[]) (fr:=[]) rfl (CapsG.mk' rfl (by decide +kernel) rfl (by decide +kernel) .nil (by decide +kernel) rfl) (c8 (qv 1)) (fun C s H fp=>(aj (i:=0) (show (["operand"]:List Str).Nodup by decide +kernel) rfl (Or.inl rfl))) (fun C s H fp=>aI) (fun C s H fp=>(ap c_operand_text hr rfl (ad (qv 0) ab)))) ab)))) ak)
   (ae (ai (aN dN rfl T.zstr dE (ad (qv 1) ab))))))))
  have bs:=hb.s
  have be:=hb.e
  have bn:=hb.n
  have bc:=hb.c
  cases hf with
  | @slot n a b =>
   obtain rfl:v = .int n:=hv
   k_go
   exact ⟨n,rfl,by lia,q _ fun _ _ e=>e⟩
  | @opd x a =>
   k_go
   exact ⟨v,x,rfl,hv,a.small bs,q _ fun _ _ e=>e⟩
  | @opds l a b =>
   obtain ⟨p,vs,rfl,hp,hvs⟩:=hv
   have hlen:=hvs.mapLen
   k_go
   refine cr (l:=l) (bK (xs:=vs)) hlen (fun H' s'=>.of (s' _ _ hp)) (fun n=>.str (opT n)) (by lia) ?_ ?_
   ·rintro B ys i n x H1 _ N1 N0 hn s1 hB ⟨rfl,hx⟩ k1
    obtain ⟨n',hn',hr'⟩:=hvs.mapGet' hx
    rw [hn] at hn'
    cases hn'
    have hm:=xAc hn
    k_go
    refine ⟨rfl,rfl,?_⟩
    k_go
    refine ⟨hB,?_⟩
    k_go
    exact ⟨x,n,rfl,hr'.mono s1,(b n hm).small hb.s,hB,k1 _ _ (fun _ _ e=>e) rfl⟩
   ·intro B H1 s1 n1 h1
    have h1:LD H1 B ((l.map opT).map D.str):=by rw [xCc];exact h1
    k_go
    refine ⟨B,l.map opT,rfl,h1.strs,by rw [xAa];lia,fun u hu=>?_,q _ s1⟩
    obtain ⟨n,hn,rfl⟩:=xA2.mp hu
    exact fE ((b n hn).small hb.s)
  | @kept l a b =>
   obtain ⟨p,vs,rfl,hp,hvs⟩:=hv
   have hlen:=hvs.mapLen
   k_go
   refine cr (l:=l) (bK (xs:=vs)) hlen (fun H' s'=>.of (s' _ _ hp)) (fun n=>.str (opT n)) (by lia) ?_ ?_
   ·rintro B ys i n x H1 _ N1 N0 hn s1 hB ⟨rfl,hx⟩ k1
    obtain ⟨n',hn',hr'⟩:=hvs.mapGet' hx
    rw [hn] at hn'
    cases hn'
    have hm:=xAc hn
    k_go
    refine ⟨rfl,rfl,?_⟩
    k_go
    refine ⟨hB,?_⟩
    k_go
    exact ⟨x,n,rfl,hr'.mono s1,(b n hm).small hb.s,hB,k1 _ _ (fun _ _ e=>e) rfl⟩
   ·intro B H1 s1 n1 h1
    have h1:LD H1 B ((l.map opT).map D.str):=by rw [xCc];exact h1
    k_go
    refine ⟨B,l.map opT,rfl,h1.strs,by rw [xAa];lia,fun u hu=>?_,q _ s1⟩
    obtain ⟨n,hn,rfl⟩:=xA2.mp hu
    exact fE ((b n hn).small hb.s)
  | @word z a =>
   obtain rfl:v = .str z:=hv
   k_go
   exact q _ fun _ _ e=>e
  | @op z a =>
   obtain rfl:v = .str z:=hv
   k_go
   exact q _ fun _ _ e=>e
  | @code n a b =>
   obtain rfl:v = .int n:=hv
   k_go
   exact bV (by lia) (q _ fun _ _ e=>e)
  | @place n a b =>
   obtain rfl:v = .int n:=hv
   k_go
   exact bV (by lia) (q _ fun _ _ e=>e)
  | @row n a b =>
   obtain rfl:v = .int n:=hv
   k_go
   exact bV (by lia) (q _ fun _ _ e=>e)
  | @live l a b =>
   have hfew:=gb a b bs
   obtain ⟨p,vs,rfl,hp,hvs⟩:=hv
   have hlen:=hvs.mapLen
   k_go
   refine cr (l:=l) (bK (xs:=vs)) hlen (fun H' s'=>.of (s' _ _ hp)) (fun n=>.str (slT n)) (by lia) ?_ ?_
   ·rintro B ys i n x H1 _ N1 N0 hn s1 hB ⟨rfl,hx⟩ k1
    obtain ⟨n',hn',hr'⟩:=hvs.mapGet' hx
    rw [hn] at hn'
    cases hn'
    have hm:=xAc hn
    k_go
    refine ⟨rfl,rfl,?_⟩
    k_go
    refine ⟨hB,?_⟩
    k_go
    obtain rfl:x = .int n:=hr'
    refine ⟨n,rfl,by have:=b n hm;have:=hb.s;lia,hB,k1 _ _ (fun _ _ e=>e) rfl⟩
   ·intro B H1 s1 n1 h1
    have h1:LD H1 B ((l.map slT).map D.str):=by rw [xCc];exact h1
    k_go
    refine ⟨B,l.map slT,rfl,h1.strs,by rw [xAa];lia,fun u hu=>?_,q _ s1⟩
    obtain ⟨n,hn,rfl⟩:=xA2.mp hu
    exact eB (by have:=b n hn;have:=hb.s;lia)
  | @slots l a d b =>
   obtain ⟨p,vs,rfl,hp,hvs⟩:=hv
   have hlen:=hvs.mapLen
   k_go
   refine cr (l:=l) (bK (xs:=vs)) hlen (fun H' s'=>.of (s' _ _ hp)) (fun n=>.str (slT n)) (by lia) ?_ ?_
   ·rintro B ys i n x H1 _ N1 N0 hn s1 hB ⟨rfl,hx⟩ k1
    obtain ⟨n',hn',hr'⟩:=hvs.mapGet' hx
    rw [hn] at hn'
    cases hn'
    have hm:=xAc hn
    k_go
    refine ⟨rfl,rfl,?_⟩
    k_go
    refine ⟨hB,?_⟩
    k_go
    obtain rfl:x = .int n:=hr'
    refine ⟨n,rfl,by have:=b n hm;have:=hb.s;lia,hB,k1 _ _ (fun _ _ e=>e) rfl⟩
   ·intro B H1 s1 n1 h1
    have h1:LD H1 B ((l.map slT).map D.str):=by rw [xCc];exact h1
    k_go
    refine ⟨B,l.map slT,rfl,h1.strs,by rw [xAa];lia,fun u hu=>?_,q _ s1⟩
    obtain ⟨n,hn,rfl⟩:=xA2.mp hu
    exact eB (by have:=b n hn;have:=hb.s;lia)
end
section
variable {P:Program} {w:World} {K:xFr} {mg:Str→Option Value} {base:Heap} {C aF aO:Addr}
theorem nv {H:Hp} {v:V} {r:Rw} (h:Rp H r.d v):∃ p vs,v = .ref p∧H p=some (.tup (.str r.w::vs))∧Rps H (r.fs.map Fl.d) vs:=by
 obtain ⟨p,vs,rfl,e,v1,r1,rfl,h1,h2⟩:=h
 rw [show v1=_ from h1] at e
 exact ⟨p,r1,rfl,e,h2⟩
theorem eP {x:V} {xs:List V}:cutV (x::xs) (some 1) none=xs:=by
 unfold cutV
 rw [show (some (1:Int))=some ((1:Nat):Int) from rfl,HT.sIx_nat]
 have:HT.sIx (x::xs).length (x::xs).length none=(x::xs).length:=rfl
 rw [this,Nat.min_eq_left (by simp),List.drop_succ_cons,List.drop_zero,List.take_of_length_le (by simp)]
theorem lA {x:V} {xs:List V}:¬ (HT.sIx (x::xs).length 0 (some 1)=0∧HT.sIx (x::xs).length (x::xs).length none=(x::xs).length):=by
 rw [show (some (1:Int))=some ((1:Nat):Int) from rfl,HT.sIx_nat,Nat.min_eq_left (by simp)]
 simp
def spLo:Sp:=fun vs H Q _=>∃ (c:Cd) (e:Int) (cs:List Cd) (r:Rw) (v:V),vs=[v]∧RwOk c e cs r∧Bnd' c e cs.length∧Rp H r.d v∧∀ H',Same H H'→Q (.str r.tx) H'
def glo:Scope:={ kind:=.function,names:=[("row",.local),("things",.local),("zip",.globalImplicit),("row_form",.globalImplicit)],isGenerator:=false,isCoroutine:=false,more:=[("fast",.str "row"),("fast",.str "sort"),("fast",.str "thing"),("fast",.str "things")] }
theorem sclo:FnScope ["row","things"] ["row"] glo:=⟨rfl,rfl,rfl,by decide +kernel,rfl,by decide +kernel,by decide +kernel⟩
theorem vW (F:Dn K mg "line_of" de ["row"]) (T:Txt w K mg C aF aO) (c_text_of:Cal P w K mg base "text_of" 3 ["sort","thing"] spTo) (c_row_form:Cal P w K mg base "row_form" 1 ["word"] (spRf K)):Cal P w K mg base "line_of" 4 ["row"] spLo:=by
 refine F.ok sclo rfl (fun vs H Q E h=>?_) (fun f cdv A outer s H vs Q E hr h=>?_)
 ·obtain ⟨c,e,cs,r,v,rfl,_⟩:=h
  rfl
 ·obtain ⟨c,e,cs,r,v,rfl,ho,hb,hv,q⟩:=h
  refine' ⟨?tt,QSs.h ?hh,?gg⟩
  case hh=>exact (ac (eJ (i:=1) sclo.nd rfl rfl (ls:=["sort","thing"]) (N:=[]) (fr:=[]) rfl (CapsG.mk' rfl (by decide +kernel) rfl (by decide +kernel) .nil (by decide +kernel) rfl) (kJ rfl T.zzip (ad (ap c_row_form hr rfl (ad (aB aQ (qv 0) ag) ab)) (ad (bw hX (qv 0) (bI ag) cj) ab))) (fun C s H fp=>(kL (K:=K) rfl rfl (aG (aj (i:=0) (show (["sort","thing"]:List Str).Nodup by decide +kernel) rfl (Or.inl rfl)) (aG (aj (i:=1) (show (["sort","thing"]:List Str).Nodup by decide +kernel) rfl (Or.inl rfl)) cY)))) (fun C s H fp=>aI) (fun C s H fp=>(ap c_text_of hr rfl (ad (qv 0) (ad (qv 1) ab)))))
   (ae (ai (bB PySem.F.plainAttrs_str PySem.F.slot_str_join PySem.F.type_str_join cE af (ad (aq eZ (bb (ad (aB aQ (qv 0) ag) ab)) (qv 1)) ab)))))
  obtain ⟨p,vs,rfl,hp,hvs⟩:=nv hv
  have hlv:=hvs.mapLen
  have hl:=ho.len
  have h5:=(b0 ho.t).2.2
  have e3:(" ":Str)=one 32:=by decide +kernel
  k_go
  refine gB hp fw ?_
  k_go
  refine ⟨(r.w,r.ss),rfl,ho.t,fun t ht=>?_⟩
  k_go
  refine kA hp lA fun p2 H1 s1 n1 h1=>?_
  rw [eP] at h1
  k_go
  refine iY (xs:=r.ss.map fun (s:Srt)=>V.str s.nm) (ys:=vs) (.inl ⟨t,rfl,ht _⟩) (.inl ⟨p2,rfl,.of h1⟩) ?_
  refine cr (l:=r.fs) (kg (xs:=r.ss.map fun (s:Srt)=>V.str s.nm) (ys:=vs) (by rw [xAa];lia)) (by rw [xAa];lia) (fun H' s'=>⟨.inl ⟨t,rfl,ht _⟩,.inl ⟨p2,rfl,.of (s' _ _ h1)⟩⟩) (fun f=>.str f.tx) (by rw [xAa];simp only at h5;lia) ?_ ?_
  ·rintro B ys i f x H2 _ N1 N0 hf s2 hB ⟨p3,u,v,rfl,n3,rfl,hu1,hv1⟩ k1
   have s3:Same H2 (upd H2 p3 (.tup [u,v])):=aw n3 _
   have h3:upd H2 p3 (.tup [u,v]) p3=some (.tup [u,v]):=ah
   generalize upd H2 p3 (.tup [u,v])=H3 at s3 h3
   rw [xAw] at hu1
   obtain ⟨sr,hs1,rfl⟩:=xA3.mp hu1
   obtain ⟨f',hf',hrf⟩:=hvs.mapGet' hv1
   rw [hf] at hf'
   cases hf'
   k_go
   refine ⟨rfl,rfl,?_⟩
   k_go
   refine ⟨s3 _ _ hB,?_⟩
   k_go
   refine ⟨c,e,cs.length,sr,f,v,rfl,ho.fit i sr f hs1 hf,hb,hrf.mono (s1.trans (s2.trans s3)),fun H4 s4=>⟨s4 _ _ (s3 _ _ hB),k1 _ _ (s3.trans s4) rfl⟩⟩
  ·intro B H2 s2 n2 h2
   have h2:LD H2 B ((r.fs.map Fl.tx).map D.str):=by rw [xCc];exact h2
   have h2:=h2.strs
   have hp2:=(s1.trans s2) _ _ hp
   k_go
   refine bm ?_
   k_go
   refine gB hp2 fw ?_
   k_go
   refine aZ fun l3 H3 s3 n3 h3=>?_
   have h2':=s3 _ _ h2
   k_go
   refine gD h3 h2' (by simp only [xAa,xAt];simp only at h5;exact lineMe (by lia)) fun l4 H4 s4 n4 h4=>?_
   have h4:H4 l4=some (.lst ((r.w::r.fs.map Fl.tx).map V.str)):=h4
   k_go
   refine cy (B:=100) h4 (fun w hw=>?_) ?_ ?_
   ·rcases xAv.mp hw with rfl | hw
    ·have:r.w.length≤8:=(b0 ho.t).1.q
     lia
    ·obtain ⟨f,hf,rfl⟩:=xA2.mp hw
     exact (ho.sz f hf).t
   ·rw [e3,xAo,xAa]
    show _ * (100+1)≤_
    simp only at h5
    lia
   ·rw [e3]
    exact q _ (s1.trans (s2.trans (s3.trans s4)))
end
section
variable {P:Program} {w:World} {K:xFr} {mg:Str→Option Value} {base:Heap} {C aF aO:Addr}
theorem fu {H:Hp} {v:V} {c:Cd} (h:Rp H c.d v):∃ p,v = .ref p∧H p=some (.tup (c.ns.map V.int)):=by
 obtain ⟨p,vs,rfl,e,h⟩:=h
 rw [h.ints] at e
 exact ⟨p,rfl,e⟩
theorem kP {H:Hp} {v:V} {a b:List D} (h:Rp H (.tup [.tup a,.tup b]) v):∃ p x y xs ys,v = .ref p∧H p=some (.tup [.ref x,.ref y])∧H x=some (.tup xs)∧H y=some (.tup ys)∧Rps H a xs∧Rps H b ys:=by
 obtain ⟨p,vs,rfl,e,v1,r1,rfl,⟨x,xs,rfl,hx,rx⟩,v2,r2,rfl,⟨y,ys,rfl,hy,ry⟩,h3⟩:=h
 rw [show r2=_ from h3] at e
 exact ⟨p,x,y,xs,ys,rfl,e,hx,hy,rx,ry⟩
def spRt:Sp:=fun vs H Q _=>∃ (gs:List Gr) (v:V),vs=[v]∧PrOk gs∧Rp H (prD gs) v∧∀ H',Same H H'→Q (.str (prT gs)) H'
theorem o8:∀ {gs:List Gr} {a:Nat},Ens a gs→(∀ g∈gs,g.2.length≤8)→∀ g∈gs,g.1.en+g.2.length≤a+8 * gs.length
 | [],_,_,_,_,h=>by cases h
 | g::gs,a,he,hm,g',hg=>by
  have h1:=hm g (by simp)
  rcases xAv.mp hg with rfl | hg
  ·have:=he.1
   rw [xAo]
   lia
  ·have:=o8 he.2 (fun x hx=>hm x (xAs _ hx)) g' hg
   rw [xAo]
   lia
theorem _root_.Row.PrOk.bnd {gs:List Gr} (h:PrOk gs) {g:Gr} (hg:g∈gs):Bnd' g.1 (g.1.en+g.2.length) (heads gs).length:=by
 have:=o8 h.e (fun x hx=>(h.g x hx).m) g hg
 have hm:=h.m
 exact ⟨by have:=(h.g g hg).c.a8;lia,(h.g g hg).c.a9,by lia,by unfold heads;rw [xAa];lia⟩
theorem _root_.Row.PrOk.row {gs:List Gr} (h:PrOk gs) {r:Rw} (hr:r∈rowsOf gs):∃ c e,RwOk c e (heads gs) r∧Bnd' c e (heads gs).length∧CdOk c:=by
 obtain ⟨g,hg,hr⟩:=List.mem_flatMap.mp hr
 exact ⟨g.1,g.1.en+g.2.length,(h.g g hg).r r hr,h.bnd hg,(h.g g hg).c⟩
theorem _root_.Row.PrOk.rows {gs:List Gr} (h:PrOk gs):(rowsOf gs).length≤32:=by
 have:∀ gs:List Gr,(∀ g∈gs,g.2.length≤8)→(rowsOf gs).length≤8 * gs.length:=by
  intro gs
  induction gs with
  | nil=>intro _;exact xAg _
  | cons g gs ih =>
   intro hm
   have h1:=hm g (by simp)
   have h2:=ih fun x hx=>hm x (xAs _ hx)
   show (g.2++rowsOf gs).length≤_
   rw [xAb,xAo]
   lia
 have h1:=this gs fun g hg=>(h.g g hg).m
 have:=h.m
 lia
theorem _root_.Row.PrOk.lines {gs:List Gr} (h:PrOk gs):(lns gs).length≤36∧0<(lns gs).length∧∀ t∈lns gs,10 ∉ tl t∧t.length≤610:=by
 have h1:=h.rows
 have h2:=h.m
 have h3:=h.n
 refine ⟨?_,?_,fun t ht=>?_⟩
 ·unfold lns heads
  rw [xAb,xAa,xAa,xAa]
  lia
 ·unfold lns heads
  rw [xAb,xAa,xAa]
  lia
 ·rcases xAj.mp ht with ht | ht
  ·obtain ⟨c,hc,rfl⟩:=xA2.mp ht
   obtain ⟨g,hg,rfl⟩:=xA2.mp hc
   exact lG (h.g g hg).c
  ·obtain ⟨r,hr,rfl⟩:=xA2.mp ht
   obtain ⟨c,e,h1,h2,h3⟩:=h.row hr
   exact kt h1 h3 h2.e h2.c
def grt:Scope:={ kind:=.function,names:=[("program",.local),("codes",.local),("rows",.local),("lines",.local)],isGenerator:=false,isCoroutine:=false,more:=[("fast",.str "program"),("fast",.str "codes"),("fast",.str "rows"),("fast",.str "code"),("fast",.str "number"),("fast",.str "lines"),("fast",.str "row")] }
theorem scrt:FnScope ["program","codes","rows","lines"] ["program"] grt:=⟨rfl,rfl,rfl,by decide +kernel,rfl,by decide +kernel,by decide +kernel⟩
theorem vA (F:Dn K mg "rows_text" cf ["program"]) (T:Txt w K mg C aF aO) (c_line_of:Cal P w K mg base "line_of" 4 ["row"] spLo):Cal P w K mg base "rows_text" 5 ["program"] spRt:=by
 refine F.ok scrt rfl (fun vs H Q E h=>?_) (fun f cdv A outer s H vs Q E hr h=>?_)
 ·obtain ⟨gs,v,rfl,_⟩:=h
  rfl
 ·obtain ⟨gs,v,rfl,hg,hv,q⟩:=h
  refine' ⟨?tt,QSs.h ?hh,?gg⟩
  case hh=>exact (ac (nI (qv 0) (ee rfl (aG (aj (i:=1) scrt.nd rfl (Or.inl rfl)) (aG (aj (i:=2) scrt.nd rfl (Or.inl rfl)) cY))))
   (ac (eJ (i:=3) scrt.nd rfl rfl (ls:=["code"]) (N:=[]) (fr:=[]) rfl (CapsG.mk' rfl (by decide +kernel) rfl (by decide +kernel) .nil (by decide +kernel) rfl) (c8 (qv 1)) (fun C s H fp=>(aj (i:=0) (show (["code"]:List Str).Nodup by decide +kernel) rfl (Or.inl rfl))) (fun C s H fp=>aI) (fun C s H fp=>(rO (K:=K) rfl PySem.F.plainAttrs_str PySem.F.slot_str_join PySem.F.type_str_join (jh (K:=K) rfl) af (ad (aq eZ (bb (ad af ab)) (bh (ls:=["number"]) (N:=[]) (fr:=[]) rfl (CapsG.mk' rfl (by decide +kernel) rfl (by decide +kernel) .nil (by decide +kernel) rfl) (kK (K:=K) rfl (qv 0)) (fun C s H fp=>(aj (i:=0) (show (["number"]:List Str).Nodup by decide +kernel) rfl (Or.inl rfl))) (fun C s H fp=>aI) (fun C s H fp=>(aN dN rfl T.zstr dE (ad (qv 0) ab))))) ab))))
   (ac (aR (bB PySem.F.plainAttrs_list PySem.F.slot_list_extend PySem.F.type_list_extend gH (qv 3) (ad (bh (ls:=["row"]) (N:=[]) (fr:=[]) rfl (CapsG.mk' rfl (by decide +kernel) rfl (by decide +kernel) .nil (by decide +kernel) rfl) (c8 (qv 2)) (fun C s H fp=>(aj (i:=0) (show (["row"]:List Str).Nodup by decide +kernel) rfl (Or.inl rfl))) (fun C s H fp=>aI) (fun C s H fp=>(ap c_line_of hr rfl (ad (qv 0) ab)))) ab)))
   (ae (ai (bB PySem.F.plainAttrs_str PySem.F.slot_str_join PySem.F.type_str_join cE af (ad (qv 3) ab)))))))
  obtain ⟨p,x,y,xs,ys,rfl,hp,hx,hy,rx,ry⟩:=kP hv
  have lx:=rx.mapLen
  have ly:=ry.mapLen
  have hm:=hg.m
  have hrw:=hg.rows
  have e3:(" ":Str)=one 32:=by decide +kernel
  have e10:("\n":Str)=one 10:=by decide +kernel
  have lh:(heads gs).length=gs.length:=by unfold heads;rw [xAa]
  k_go
  refine cr (l:=heads gs) (bK (xs:=xs)) lx (fun H' s'=>.of (s' _ _ hx)) (fun c=>.str c.tx) (by lia) ?_ ?_
  ·rintro B zs i c v H1 _ N1 N0 hc s1 hB ⟨rfl,hv1⟩ k1
   obtain ⟨c',hc',hrc⟩:=rx.mapGet' hv1
   rw [hc] at hc'
   cases hc'
   obtain ⟨pc,rfl,hpc⟩:=fu (hrc.mono s1)
   obtain ⟨g,hg1,rfl⟩:=xA2.mp (xAc hc)
   have cok:=(hg.g g hg1).c
   k_go
   refine ⟨rfl,rfl,?_⟩
   k_go
   refine ⟨hB,?_⟩
   k_go
   refine bm ?_
   k_go
   refine aZ fun l2 H2 s2 n2 h2=>?_
   have hpc2:=s2 _ _ hpc
   k_go
   refine cr (l:=g.1.ns) (bK (xs:=g.1.ns.map V.int)) (by rw [xAa]) (fun H' s'=>.of (s' _ _ hpc2)) (fun n=>.str (tx n)) (by rw [xAa];show 5<_;decide) ?_ ?_
   ·rintro B' zs' i n v H3 _ N1' N0' hn s3 hB' ⟨rfl,hv3⟩ k3
    rw [xAw,hn] at hv3
    cases hv3
    have:=cok.small n (xAc hn)
    k_go
    refine ⟨rfl,rfl,?_⟩
    k_go
    refine ⟨hB',?_⟩
    k_go
    exact bV (by lia) ⟨hB',k3 _ _ (fun _ _ e=>e) rfl⟩
   ·intro B' H3 s3 n3 h3
    have h3:LD H3 B' ((g.1.ns.map tx).map D.str):=by rw [xCc];exact h3
    have h3:=h3.strs
    have h2':=s3 _ _ h2
    k_go
    refine gD h2' h3 (lineMe (by simp only [xAa,xAt];show 1+5≤_;decide)) fun l4 H4 s4 n4 h4=>?_
    have h4:H4 l4=some (.lst ((("code":Str)::g.1.ns.map tx).map V.str)):=h4
    k_go
    refine cy (B:=20) h4 (fun w hw=>?_) (by rw [e3];show 6 * (20+1)≤_;decide) ?_
    ·rcases xAv.mp hw with rfl | hw
     ·decide +kernel
     ·obtain ⟨n,hn,rfl⟩:=xA2.mp hw
      have:=cok.small n hn
      have:=(bi (n:=n) (by lia)).2.2
      lia
    ·rw [e3]
     exact ⟨(s2.trans (s3.trans s4)) _ _ hB,k1 _ _ (s2.trans (s3.trans s4)) rfl⟩
  ·intro B H1 s1 n1 h1
   have h1:LD H1 B (((heads gs).map Cd.tx).map D.str):=by rw [xCc];exact h1
   have h1:=h1.strs
   have hy1:=s1 _ _ hy
   k_go
   refine cr (l:=rowsOf gs) (bK (xs:=ys)) ly (fun H' s'=>.of (s' _ _ hy1)) (fun r=>.str r.tx) (by lia) ?_ ?_
   ·rintro B' zs i r v H2 _ N1 N0 hr1 s2 hB' ⟨rfl,hv2⟩ k2
    obtain ⟨r',hr',hrr⟩:=ry.mapGet' hv2
    rw [hr1] at hr'
    cases hr'
    obtain ⟨c,e,ok,bd,_⟩:=hg.row (xAc hr1)
    k_go
    refine ⟨rfl,rfl,?_⟩
    k_go
    refine ⟨hB',?_⟩
    k_go
    exact ⟨c,e,heads gs,r,v,rfl,ok,bd,hrr.mono (s1.trans s2),fun H3 s3=>⟨s3 _ _ hB',k2 _ _ s3 rfl⟩⟩
   ·intro B' H2 s2 n2 h2
    have h2:LD H2 B' (((rowsOf gs).map Rw.tx).map D.str):=by rw [xCc];exact h2
    have h2:=h2.strs
    have h1':=s2 _ _ h1
    obtain ⟨l1,l2,l3⟩:=hg.lines
    have hll:(lns gs).length=(heads gs).length+(rowsOf gs).length:=by unfold lns;rw [xAb,xAa,xAa]
    k_go
    refine iZ h1' h2 (lineMe (by simp only [xAa];lia)) ?_
    have h3:upd H2 B (.lst (((heads gs).map Cd.tx).map V.str++((rowsOf gs).map Rw.tx).map V.str)) B=some (.lst ((lns gs).map V.str)):=by rw [ah];unfold lns;rw [xAi]
    have s3:Same H (upd H2 B (.lst (((heads gs).map Cd.tx).map V.str++((rowsOf gs).map Rw.tx).map V.str))):=(s1.trans s2).upd_new n1
    generalize upd H2 B (.lst (((heads gs).map Cd.tx).map V.str++((rowsOf gs).map Rw.tx).map V.str))=H3 at h3 s3
    k_go
    refine bm ?_
    k_go
    refine cy (B:=610) h3 (fun w hw=>(l3 w hw).2) (by rw [e10];show _ * (610+1)≤_;lia) ?_
    rw [e10]
    exact q _ s3
end
section
variable {P:Program} {w:World} {K:xFr} {mg:Str→Option Value} {base:Heap} {C aF aO:Addr}
structure RK where
 dx:Addr
 L:Addr
 M:Addr
 O:Addr
 n:Int
 ws:List Str
 cs:List Cd
 own:Cd
 e:Int
abbrev RK.ob (k:RK) (C:Addr) (a:Nat):HO:=.ins C k.dx [("words",.ref k.L),("number",.int k.n),("codes",.ref k.M),("own",.ref k.O),("end",.int k.e),("at",.int a)]
structure Rr (C x:Addr) (k:RK) (H:Hp) (a:Nat):Prop where
 ob:H x=some (k.ob C a)
 wl:H k.L=some (.lst (k.ws.map V.str))
 cl:LD H k.M (k.cs.map Cd.d)
 ow:H k.O=some (.tup (k.own.ns.map V.int))
 len:k.ws.length≤100000
 clen:k.cs.length≤1000
theorem Rr.noT {C x:Addr} {k:RK} {H:Hp} {a:Nat} (r:Rr C x k H a):NoT [x] H:=fun b hb xs z=>by
 rw [xAm.mp hb,r.ob] at z
 cases z
theorem Rr.of {C x:Addr} {k:RK} {H H1:Hp} {a b:Nat} (r:Rr C x k H a) (kp:Kept [x] H H1) (ob:H1 x=some (k.ob C b)):Rr C x k H1 b:=by
 have n1:k.L≠x:=fun z=>by have:=r.wl;rw [z,r.ob] at this;cases this
 have n3:k.O≠x:=fun z=>by have:=r.ow;rw [z,r.ob] at this;cases this
 have n2:k.M≠x:=fun z=>by obtain ⟨vs,e,_⟩:=r.cl;rw [z,r.ob] at e;cases e
 exact ⟨ob,kp _ _ r.wl (by simp [n1]),r.cl.kept kp (kp.tle r.noT) (by simp [n2]),kp _ _ r.ow (by simp [n3]),r.len,r.clen⟩
theorem Rr.same {C x:Addr} {k:RK} {H H1:Hp} {a:Nat} (r:Rr C x k H a) (s:Same H H1):Rr C x k H1 a:=r.of (.of s) (s _ _ r.ob)
theorem cP {fp:List Addr} {H H1:Hp} {l:Addr} {u:HO} (k:Kept fp H H1) (n:H l=none):Kept fp H (upd H1 l u):=fun b v e hb=>by
 rw [am (aH e n)]
 exact k b v e hb
theorem dA {H:Hp} {l:Addr} {ds:List D} (h:LD H l ds):∃ vs,H l=some (.lst vs)∧Rps H ds vs∧vs.length=ds.length:=by
 obtain ⟨vs,e,r⟩:=h
 exact ⟨vs,e,r,r.length⟩
theorem drop_one {α:Type} {l:List α} {a:Nat} {w:α} {r:List α} (h:l.drop a=w::r):l[a]?=some w∧l.drop (a+1)=r:=by
 constructor
 ·have:=congrArg (·[0]?) h
  simpa using this
 ·rw [← List.drop_drop,h]
  rfl
def spNd:Sp:=fun vs H Q _=>∃ x:Addr,vs=[.ref x,.bl true]∧Q .non H
def gnd:Scope:={ kind:=.function,names:=[("self",.local),("holds",.local),("NoRow",.globalImplicit)],isGenerator:=false,isCoroutine:=false,more:=[] }
theorem scnd:FnScope ["self","holds"] ["self","holds"] gnd:=⟨rfl,rfl,rfl,by decide +kernel,rfl,by decide +kernel,by decide +kernel⟩
theorem vS {f:Addr} {fd:FuncData} (F:Dm K f fd "need" "RowReader.need" eD ["self","holds"]) (T:Txt w K mg C aF aO):FnOk P w K mg base CX0 1 f fd ["self","holds"] spNd∧Binds K fd ["self","holds"] []:=by
 refine F.ok scnd rfl (fun vs H Q E h=>?_) (fun f cdv A outer s H vs Q E hr h=>?_)
 ·obtain ⟨x,rfl,_⟩:=h
  rfl
 ·obtain ⟨x,rfl,q⟩:=h
  refine' ⟨?tt,QSs.h ?hh,?gg⟩
  case hh=>exact (ae (av (c7 (cA (qv 1))) (ae dI) ak))
  k_go
  exact q
end
section
variable {P:Program} {w:World} {K:xFr} {mg:Str→Option Value} {base:Heap} {C aF aO:Addr}
def spTk (C:Addr):Sp:=fun vs H Q _=>∃ (x:Addr) (k:RK) (a:Nat) (z:Str) (r:List Str),vs=[.ref x]∧Rr C x k H a∧k.ws.drop a=z::r∧∀ H',Kept [x] H H'→H' x=some (k.ob C (a+1))→Q (.str z) H'
def gtk:Scope:={ kind:=.function,names:=[("self",.local),("len",.globalImplicit)],isGenerator:=false,isCoroutine:=false,more:=[] }
theorem sctk:FnScope ["self"] ["self"] gtk:=⟨rfl,rfl,rfl,by decide +kernel,rfl,by decide +kernel,by decide +kernel⟩
theorem vt {f:Addr} {fd:FuncData} (F:Dm K f fd "take" "RowReader.take" eC ["self"]) (T:Txt w K mg C aF aO) (c_RowReader_need:Mal P w K mg base C "need" 1 ["self","holds"] spNd):FnOk P w K mg base CX0 2 f fd ["self"] (spTk C)∧Binds K fd ["self"] []:=by
 refine F.ok sctk rfl (fun vs H Q E h=>?_) (fun f cdv A outer s H vs Q E hr h=>?_)
 ·obtain ⟨x,k,a,z,r,rfl,_⟩:=h
  rfl
 ·obtain ⟨x,k,a,z,r,rfl,hx,hd,q⟩:=h
  refine' ⟨?tt,QSs.h ?hh,?gg⟩
  case hh=>exact (ac (aR (bo (qv 0) c_RowReader_need hr (ad (aM f7 (cB (qv 0)) (aL bD rfl T.zlen bS (ad (cB (qv 0)) ab)) (nomark _)) ab)))
   (ac (dZ (qv 0) (aq bZ (cB (qv 0)) ag))
   (ae (ai (aB aV (cB (qv 0)) (aq eh (cB (qv 0)) ag))))))
  obtain ⟨d1,d2⟩:=drop_one hd
  have hlt:=(xAq.mp d1).1
  have ho:=hx.ob
  have hw:=hx.wl
  k_go
  refine au ho rfl ?_
  k_go
  refine cz ho T.cR (by simp) rfl ?_
  k_go
  refine cz ho T.cR (by simp) rfl ?_
  k_go
  rw [xAa,xBd (show (a:Int)<(k.ws.length:Int) by lia)]
  refine ⟨x,rfl,?_⟩
  k_go
  refine cz ho T.cR (by simp) rfl ?_
  k_go
  refine dq ho T.cR (by simp) (by simp) ?_
  have h1:upd H x (.ins C k.dx (putF "at" (.int ((a:Int)+1)) [("words",.ref k.L),("number",.int k.n),("codes",.ref k.M),("own",.ref k.O),("end",.int k.e),("at",.int a)])) x=some (k.ob C (a+1)):=ah
  have k1:Kept [x] H (upd H x (.ins C k.dx (putF "at" (.int ((a:Int)+1)) [("words",.ref k.L),("number",.int k.n),("codes",.ref k.M),("own",.ref k.O),("end",.int k.e),("at",.int a)]))):=.put (by simp)
  generalize upd H x (.ins C k.dx (putF "at" (.int ((a:Int)+1)) [("words",.ref k.L),("number",.int k.n),("codes",.ref k.M),("own",.ref k.O),("end",.int k.e),("at",.int a)]))=H1 at h1 k1
  have hw1:=(hx.of k1 h1).wl
  k_go
  refine cz h1 T.cR (by simp) rfl ?_
  k_go
  refine cz h1 T.cR (by simp) rfl ?_
  k_go
  refine dh (v:=.str z) hw1 ?_ (q _ k1 h1)
  rw [show ((a+1:Nat):Int) - 1=(a:Int) by lia]
  exact bJ (by rw [xAw,d1];rfl)
end
section
variable {P:Program} {w:World} {K:xFr} {mg:Str→Option Value} {base:Heap} {C aF aO:Addr}
theorem gX (n:Int):tl (slT n)=115::tl (tx n):=by unfold slT;rw [aD];rfl
theorem kU (n:Int):(slT n).length=(tx n).length+1:=by rw [← bL,gX,xAo,bL]
theorem iL (n:Int):Txt.slice (slT n) (some 1) none=tx n:=by
 rw [fS (by rw [kU];lia),gX]
 exact ext rfl
def spSi (C:Addr):Sp:=fun vs H Q _=>∃ (x:Addr) (k:RK) (a:Nat) (n:Int),vs=[.ref x,.str (slT n)]∧Rr C x k H a∧0≤n∧n<k.own.sl∧k.own.sl≤600∧∀ H',Same H H'→Q (.int n) H'
def gsi:Scope:={ kind:=.function,names:=[("self",.local),("word",.local),("slot",.local),("is_figures",.globalImplicit),("int",.globalImplicit)],isGenerator:=false,isCoroutine:=false,more:=[] }
theorem scsi:FnScope ["self","word","slot"] ["self","word"] gsi:=⟨rfl,rfl,rfl,by decide +kernel,rfl,by decide +kernel,by decide +kernel⟩
theorem vx {f:Addr} {fd:FuncData} (F:Dm K f fd "slot_in" "RowReader.slot_in" cK ["self","word"]) (T:Txt w K mg C aF aO) (c_RowReader_need:Mal P w K mg base C "need" 1 ["self","holds"] spNd) (c_is_figures:Cal P w K mg base "is_figures" 2 ["word"] spFg):FnOk P w K mg base CX0 3 f fd ["self","word"] (spSi C)∧Binds K fd ["self","word"] []:=by
 refine F.ok scsi rfl (fun vs H Q E h=>?_) (fun f cdv A outer s H vs Q E hr h=>?_)
 ·obtain ⟨x,k,a,n,rfl,_⟩:=h
  rfl
 ·obtain ⟨x,k,a,n,rfl,hx,h0,h1,h2,q⟩:=h
  refine' ⟨?tt,QSs.h ?hh,?gg⟩
  case hh=>exact (ac (aR (bo (qv 0) c_RowReader_need hr (ad (ef (bB PySem.F.plainAttrs_str PySem.F.slot_str_startswith PySem.F.type_str_startswith di (qv 1) (ad af ab)) (du (ap c_is_figures hr rfl (ad (bw hZ (qv 1) (bI ag) cj) ab)))) ab)))
   (ac (aA (i:=2) scsi.nd rfl (Or.inl rfl) (aN eQ rfl T.zint fv (ad (bw hZ (qv 1) (bI ag) cj) ab)))
   (ac (aR (bo (qv 0) c_RowReader_need hr (ad (aM f7 (qv 2) (aB aQ (cB (qv 0)) ag) (nomark _)) ab)))
   (ae (ai (qv 2))))))
  obtain ⟨fg,_,fi⟩:=dC h0 (show n<10 ^ 12 by lia)
  have hl:=fg.few
  have hl2:=kU n
  have ho:=hx.ob
  k_go
  refine au ho rfl ?_
  k_go
  refine bm ?_
  k_go
  refine cL (c:=115) (by decide +kernel) ?_
  k_go
  rw [xBd (show (tl (slT n)).head?=some 115 by rw [gX];rfl)]
  k_go
  refine kB (by lia) ?_
  rw [iL]
  k_go
  refine ⟨tx n,rfl,fg,fun H1 s1=>?_⟩
  k_go
  refine ⟨x,rfl,?_⟩
  have ho1:=s1 _ _ ho
  have ow1:=s1 _ _ hx.ow
  k_go
  refine kB (by lia) ?_
  rw [iL]
  k_go
  refine eV fi (by lia) ?_
  k_go
  refine au ho1 rfl ?_
  k_go
  refine cz ho1 T.cR (by simp) rfl ?_
  k_go
  rw [xBd h1]
  refine ⟨x,rfl,?_⟩
  k_go
  exact q _ s1
end
section
variable {P:Program} {w:World} {K:xFr} {mg:Str→Option Value} {base:Heap} {C aF aO:Addr}
theorem oS {y:Str} {z:Str} (h:Fig y) (e:z=y∨(z=one 45++y∧(tl y).head?≠some 48)):(tl z).head?≠some 115:=by
 obtain ⟨c,r,e0,d1,d2⟩:=gh h
 rcases e with rfl | ⟨rfl,_⟩
 ·rw [e0]
  simp
  lia
 ·rw [aD,gY]
  simp
def spOi (C:Addr):Sp:=fun vs H Q _=>∃ (x:Addr) (k:RK) (a:Nat) (b:Bool×Int),vs=[.ref x,.str (opT b)]∧Rr C x k H a∧OkO k.own.sl b∧k.own.sl≤600∧∀ v H',Same H H'→Rp H' (opD b) v→Q v H'
def goi:Scope:={ kind:=.function,names:=[("self",.local),("word",.local),("is_number_word",.globalImplicit),("MOST_FIGURES",.globalImplicit),("int",.globalImplicit)],isGenerator:=false,isCoroutine:=false,more:=[] }
theorem scoi:FnScope ["self","word"] ["self","word"] goi:=⟨rfl,rfl,rfl,by decide +kernel,rfl,by decide +kernel,by decide +kernel⟩
theorem vP {f:Addr} {fd:FuncData} (F:Dm K f fd "operand_in" "RowReader.operand_in" bG ["self","word"]) (T:Txt w K mg C aF aO) (c_RowReader_need:Mal P w K mg base C "need" 1 ["self","holds"] spNd) (c_RowReader_slot_in:Mal P w K mg base C "slot_in" 3 ["self","word"] (spSi C)) (c_is_number_word:Cal P w K mg base "is_number_word" 1 ["word","most"] spNw):FnOk P w K mg base CX0 4 f fd ["self","word"] (spOi C)∧Binds K fd ["self","word"] []:=by
 refine F.ok scoi rfl (fun vs H Q E h=>?_) (fun f cdv A outer s H vs Q E hr h=>?_)
 ·obtain ⟨x,k,a,b,rfl,_⟩:=h
  rfl
 ·obtain ⟨x,k,a,⟨b,n⟩,rfl,hx,h1,h2,q⟩:=h
  refine' ⟨?tt,QSs.h ?hh,?gg⟩
  case hh=>exact (ac (av (cA (bB PySem.F.plainAttrs_str PySem.F.slot_str_startswith PySem.F.type_str_startswith di (qv 1) (ad af ab))) (ae (ai (dt (ad af (ad (bo (qv 0) c_RowReader_slot_in hr (ad (qv 1) ab)) ab))))) ak)
   (ac (aR (bo (qv 0) c_RowReader_need hr (ad (ap c_is_number_word hr rfl (ad (qv 1) (ad (bX T.gMf) ab))) ab)))
   (ae (ai (dt (ad af (ad (aN eQ rfl T.zint fv (ad (qv 1) ab)) ab)))))))
  have ho:=hx.ob
  have hn:=h1.small h2
  cases b
  ·obtain ⟨⟨y,fy,ey⟩,fi,fl⟩:=bi hn
   have e:opT (false,n)=tx n:=rfl
   rw [e]
   k_go
   refine bm ?_
   k_go
   refine cL (c:=115) (by decide +kernel) ?_
   k_go
   rw [decide_eq_false (oS fy ey)]
   k_go
   refine au ho rfl ?_
   k_go
   refine ⟨tx n,y,rfl,fy,ey,fun H1 s1=>?_⟩
   k_go
   refine ⟨x,rfl,?_⟩
   k_go
   refine eV fi (by have:(tx n).length≤13:=fl;lia) ?_
   k_go
   refine cM fun p H2 s2 n2 h2=>?_
   exact q _ _ (s1.trans s2) (ei (o:=(false,n)) h2)
  ·have h1:0≤n∧n<k.own.sl:=h1
   have e:opT (true,n)=slT n:=rfl
   rw [e]
   k_go
   refine bm ?_
   k_go
   refine cL (c:=115) (by decide +kernel) ?_
   k_go
   rw [xBd (show (tl (slT n)).head?=some 115 by rw [gX];rfl)]
   k_go
   refine au ho rfl ?_
   k_go
   refine ⟨x,k,a,n,rfl,hx,h1.1,h1.2,h2,fun H1 s1=>?_⟩
   k_go
   refine cM fun p H2 s2 n2 h2=>?_
   exact q _ _ (s1.trans s2) (ei (o:=(true,n)) h2)
end
section
variable {P:Program} {w:World} {K:xFr} {mg:Str→Option Value} {base:Heap} {C aF aO:Addr}
def spNi (C:Addr):Sp:=fun vs H Q _=>∃ (x:Addr) (k:RK) (a:Nat) (n:Int) (sr:Srt),vs=[.ref x,.str sr.nm,.str (tx n)]∧Rr C x k H a∧Fit k.own k.e k.cs.length sr (.num n)∧Bnd' k.own k.e k.cs.length∧∀ H',Same H H'→Q (.int n) H'
def gni:Scope:={ kind:=.function,names:=[("self",.local),("sort",.local),("word",.local),("number",.local),("is_figures",.globalImplicit),("int",.globalImplicit),("is_place",.globalImplicit),("len",.globalImplicit)],isGenerator:=false,isCoroutine:=false,more:=[] }
theorem scni:FnScope ["self","sort","word","number"] ["self","sort","word"] gni:=⟨rfl,rfl,rfl,by decide +kernel,rfl,by decide +kernel,by decide +kernel⟩
theorem vR {f:Addr} {fd:FuncData} (F:Dm K f fd "number_in" "RowReader.number_in" bU ["self","sort","word"]) (T:Txt w K mg C aF aO) (c_RowReader_need:Mal P w K mg base C "need" 1 ["self","holds"] spNd) (c_is_figures:Cal P w K mg base "is_figures" 2 ["word"] spFg) (c_is_place:Cal P w K mg base "is_place" 2 ["thing"] spPl):FnOk P w K mg base CX0 3 f fd ["self","sort","word"] (spNi C)∧Binds K fd ["self","sort","word"] []:=by
 refine F.ok scni rfl (fun vs H Q E h=>?_) (fun f cdv A outer s H vs Q E hr h=>?_)
 ·obtain ⟨x,k,a,n,sr,rfl,_⟩:=h
  rfl
 ·obtain ⟨x,k,a,n,sr,rfl,hx,hf,hb,q⟩:=h
  refine' ⟨?tt,QSs.h ?hh,?gg⟩
  case hh=>exact (ac (aR (bo (qv 0) c_RowReader_need hr (ad (ap c_is_figures hr rfl (ad (qv 2) ab)) ab)))
   (ac (aA (i:=3) scni.nd rfl (Or.inl rfl) (aN eQ rfl T.zint fv (ad (qv 2) ab)))
   (ac (av (ao aJ (qv 1) af (nomark _)) (ae (aR (bo (qv 0) c_RowReader_need hr (ad (ap c_is_place hr rfl (ad (qv 3) ab)) ab)))) (ae (av (ao aJ (qv 1) af (nomark _)) (ae (aR (bo (qv 0) c_RowReader_need hr (ad (fX dD f7 (aB aQ (cB (qv 0)) ag) (qv 3) (cB (qv 0))) ab)))) (ae (aR (bo (qv 0) c_RowReader_need hr (ad (aM f7 (qv 3) (aL bD rfl T.zlen bS (ad (cB (qv 0)) ab)) (nomark _)) ab)))))))
   (ae (ai (qv 3))))))
  have ho:=hx.ob
  have b1:=hb.s
  have b2:=hb.e
  have b3:=hb.n
  have b4:=hb.c
  cases hf with
  | @code _ a1 a2 =>
   obtain ⟨fg,_,fi⟩:=dC (n:=n) (by lia) (show n<10 ^ 12 by lia)
   have hl:=fg.few
   k_go
   refine au ho rfl ?_
   k_go
   refine ⟨tx n,rfl,fg,fun H1 s1=>?_⟩
   k_go
   refine ⟨x,rfl,?_⟩
   have ho1:=s1 _ _ ho
   have ow1:=s1 _ _ hx.ow
   obtain ⟨us,cl1,_,lc1⟩:=dA (hx.cl.mono s1)
   rw [xAa] at lc1
   k_go
   refine eV fi (by lia) ?_
   k_go
   refine au ho1 rfl ?_
   k_go
   refine cz ho1 T.cR (by simp) rfl ?_
   k_go
   rw [xBd (show n<(us.length:Int) by lia)]
   refine ⟨x,rfl,?_⟩
   k_go
   exact q _ s1
  | @place _ a1 a2 =>
   obtain ⟨fg,_,fi⟩:=dC (n:=n) (by lia) (show n<10 ^ 12 by lia)
   have hl:=fg.few
   k_go
   refine au ho rfl ?_
   k_go
   refine ⟨tx n,rfl,fg,fun H1 s1=>?_⟩
   k_go
   refine ⟨x,rfl,?_⟩
   have ho1:=s1 _ _ ho
   have ow1:=s1 _ _ hx.ow
   obtain ⟨us,cl1,_,lc1⟩:=dA (hx.cl.mono s1)
   rw [xAa] at lc1
   k_go
   refine eV fi (by lia) ?_
   k_go
   refine au ho1 rfl ?_
   k_go
   refine ⟨n,rfl,a1,a2,?_⟩
   k_go
   refine ⟨x,rfl,?_⟩
   k_go
   exact q _ s1
  | @row _ a1 a2 =>
   obtain ⟨fg,_,fi⟩:=dC (n:=n) (by lia) (show n<10 ^ 12 by lia)
   have hl:=fg.few
   k_go
   refine au ho rfl ?_
   k_go
   refine ⟨tx n,rfl,fg,fun H1 s1=>?_⟩
   k_go
   refine ⟨x,rfl,?_⟩
   have ho1:=s1 _ _ ho
   have ow1:=s1 _ _ hx.ow
   obtain ⟨us,cl1,_,lc1⟩:=dA (hx.cl.mono s1)
   rw [xAa] at lc1
   k_go
   refine eV fi (by lia) ?_
   k_go
   refine au ho1 rfl ?_
   k_go
   refine cz ho1 T.cR (by simp) rfl ?_
   k_go
   refine cx (xBd a1) ?_
   k_go
   refine cz ho1 T.cR (by simp) rfl ?_
   k_go
   rw [xBd a2]
   refine ⟨x,rfl,?_⟩
   k_go
   exact q _ s1
end
section
variable {P:Program} {w:World} {K:xFr} {mg:Str→Option Value} {base:Heap} {C aF aO:Addr}
theorem jG {α:Type} {xs:List α} {n:Nat} {v:α} (hl:xs.length=n+1) (h:xs[n]?=some v):atI xs (-1)=some v:=by
 rcases List.eq_nil_or_concat xs with rfl | ⟨r,u,rfl⟩
 ·simp at hl
 ·rw [List.concat_eq_append] at hl h ⊢
  rw [xAb,xAt] at hl
  have:r.length=n:=by lia
  subst this
  rw [List.getElem?_append_right (xAg _),Nat.sub_self] at h
  cases h
  exact pB r v
theorem dj {x l:Addr} {H H1:Hp} {u:HO} (k:Kept [x] H H1) (e:H1 x=some u) (n:H1 l=none):H l=none:=by
 cases h:H l with
 | none=>rfl
 | some v =>
  by_cases z:l=x
  ·rw [z,e] at n;cases n
  ·rw [k l v h (by simp [z])] at n;cases n
theorem iA {s w:Str}:∀ {ws:List Str},w∈ws→w.length≤(Str.join s ws).length
 | [],h=>by cases h
 | [y],h=>by rw [xAm.mp h];exact xAg _
 | y::z::r,h=>by
  rw [bp,strLen_append,strLen_append]
  rcases xAv.mp h with rfl | h
  ·lia
  ·have:=iA (s:=s) h
   lia
theorem uq {us:List Str} (h:∀ u∈us,Cln u):(br us).length≤(brk us).length+1∧∀ w∈br us,w.length≤(brk us).length:=by
 constructor
 ·rw [← gy h]
  exact _root_.Row.split_len _ _
 ·intro w hw
  rw [← iH]
  exact iA hw
def spTb (C:Addr):Sp:=fun vs H Q _=>∃ (x:Addr) (k:RK) (a:Nat) (us r:List Str),vs=[.ref x]∧Rr C x k H a∧k.ws.drop a=br us++r∧(∀ u∈us,Cln u)∧(brk us).length≤1000 ∧
 ∀ (l:Addr) (H':Hp),Kept [x] H H'→H' x=some (k.ob C (a+(br us).length))→H l=none→H' l=some (.lst (us.map V.str))→Q (.ref l) H'
def gtb:Scope:={ kind:=.function,names:=[("self",.local),("words",.local),("text",.local)],isGenerator:=false,isCoroutine:=false,more:=[] }
theorem sctb:FnScope ["self","words","text"] ["self"] gtb:=⟨rfl,rfl,rfl,by decide +kernel,rfl,by decide +kernel,by decide +kernel⟩
theorem vv {f:Addr} {fd:FuncData} (F:Dm K f fd "take_bracketed" "RowReader.take_bracketed" aU ["self"]) (T:Txt w K mg C aF aO) (c_RowReader_need:Mal P w K mg base C "need" 1 ["self","holds"] spNd) (c_RowReader_take:Mal P w K mg base C "take" 2 ["self"] (spTk C)):FnOk P w K mg base CX0 3 f fd ["self"] (spTb C)∧Binds K fd ["self"] []:=by
 refine F.ok sctb rfl (fun vs H Q E h=>?_) (fun f cdv A outer s H vs Q E hr h=>?_)
 ·obtain ⟨x,k,a,us,r,rfl,_⟩:=h
  rfl
 ·obtain ⟨x,k,a,us,r,rfl,hx,hd,hcl,hl,q⟩:=h
  refine' ⟨?tt,QSs.h ?hh,?gg⟩
  case hh=>exact (ac (aA (i:=1) sctb.nd rfl (Or.inl rfl) (bb (ad (eX (qv 0) c_RowReader_take hr) ab)))
   (ac (i8 PassesOwn.never (c7 (cA (bB PySem.F.plainAttrs_str PySem.F.slot_str_endswith PySem.F.type_str_endswith qY (aB aV (qv 1) (kM gW ag)) (ad af ab)))) (ae (aR (bB PySem.F.plainAttrs_list PySem.F.slot_list_append PySem.F.type_list_append bf (qv 1) (ad (eX (qv 0) c_RowReader_take hr) ab)))))
   (ac (aA (i:=2) sctb.nd rfl (Or.inl rfl) (bB PySem.F.plainAttrs_str PySem.F.slot_str_join PySem.F.type_str_join cE af (ad (qv 1) ab)))
   (ac (aR (bo (qv 0) c_RowReader_need hr (ad (bB PySem.F.plainAttrs_str PySem.F.slot_str_startswith PySem.F.type_str_startswith di (qv 2) (ad af ab)) ab)))
   (ae (ai (eK (ao f6 (qv 2) af (nomark _)) (bB PySem.F.plainAttrs_str PySem.F.slot_str_split PySem.F.type_str_split dJ (bw hZ (qv 2) (bI ag) (bI (kM gW ag))) (ad af ab)) (bb ab))))))))
  obtain ⟨b1,b2⟩:=uq hcl
  have ho:=hx.ob
  have e3:(" ":Str)=one 32:=by decide +kernel
  cases e0:br us with
  | nil=>exact (rZ us e0).elim
  | cons w0 r0 =>
  k_go
  refine au ho rfl ?_
  k_go
  refine ⟨x,k,a,w0,r0++r,rfl,hx,by rw [hd,e0];rfl,fun H1 k1 o1=>?_⟩
  k_go
  refine aZ fun l H2 s2 n2 h2=>?_
  have nl:=dj k1 o1 n2
  k_go
  refine kz (fun m σ H3=>∃ j:Nat,m=(br us).length - j∧j<(br us).length∧σ=[some (.ref x),some (.ref l),none]∧Kept [x] H H3∧H3 x=some (k.ob C (a+j+1))∧H3 l=some (.lst (((br us).take (j+1)).map V.str))) _ ⟨0,rfl,by rw [e0];simp,rfl,k1.trans (.of s2),s2 _ _ o1,by rw [e0];exact h2⟩ ?_
  rintro m σ H3 ⟨j,rfl,hj,rfl,k3,o3,h3⟩
  have hz:(br us)[j]?=some (br us)[j]:=xAk hj
  obtain ⟨_,_,hlast⟩:=r9 hcl hz
  have hat:atI (((br us).take (j+1)).map V.str) (-1)=some (.str (br us)[j]):=jG (n:=j) (by rw [xAa,xAn];lia) (by rw [xAw,List.getElem?_take_of_lt (by lia),hz];rfl)
  k_go
  refine dh h3 hat ?_
  k_go
  refine bm ?_
  k_go
  refine qb (c:=93) (by decide +kernel) ?_
  rw [hlast]
  k_go
  refine uw (fun z=>?_) (fun z=>?_)
  ·have hj1:¬ j+1=(br us).length:=by simpa using z
   have hz1:(br us)[j+1]?=some (br us)[j+1]:=xAk (by lia)
   k_go
   refine au o3 rfl ?_
   k_go
   refine ⟨x,k,a+j+1,(br us)[j+1],(br us).drop (j+2)++r,rfl,hx.of k3 o3,?_,fun H4 k4 o4=>?_⟩
   ·rw [Nat.add_assoc,← List.drop_drop,hd,List.drop_append_of_le_length (by lia),xB2 (by lia)]
    rfl
   ·have h4:H4 l=some (.lst (((br us).take (j+1)).map V.str)):=k4 _ _ h3 (by
     intro z
     rw [xAm.mp z,o3] at h3
     cases h3)
    have nlx:x≠l:=fun z=>by rw [← z,o4] at h4;cases h4
    k_go
    refine bv h4 (lineM (by rw [xAa,xAn];lia)) ?_
    k_go
    refine ⟨(br us).length - (j+1),by lia,j+1,rfl,by lia,rfl,cP (k3.trans k4) nl,by rw [am nlx];exact o4,?_⟩
    rw [ah,List.take_add_one (i:=j+1),hz1,xAi]
    rfl
  ·have hj1:j+1=(br us).length:=by simpa using z
   rw [hj1,xAu] at h3
   k_go
   refine bm ?_
   k_go
   refine cy (B:=1000) h3 (fun w hw=>by have:=b2 w hw;lia) (by rw [e3];show _ * (1000+1)≤_;have:(br us).length * 1001≤1001 * 1001:=Nat.mul_le_mul_right _ (by lia);lia) ?_
   rw [e3,iH]
   k_go
   refine au o3 rfl ?_
   k_go
   refine bm ?_
   k_go
   refine cL (c:=91) (by decide +kernel) ?_
   rw [xBd (show (tl (brk us)).head?=some 91 by rw [gZ];rfl)]
   refine ⟨x,rfl,?_⟩
   have o3':H3 x=some (k.ob C (a+(br us).length)):=by rw [← hj1];exact o3
   k_go
   rw [rE hcl]
   by_cases hus:us=[]
   ·refine bW (by simp [hus]) ?_
    k_go
    refine aZ fun l2 H4 s4 n4 h4=>?_
    exact q l2 H4 (k3.trans (.of s4)) (s4 _ _ o3') (dj k3 o3 n4) (by rw [h4,hus];rfl)
   ·refine cx (by simp [hus]) ?_
    k_go
    refine kB (by lia) ?_
    rw [qZ]
    k_go
    refine bm ?_
    k_go
    refine eF (c:=32) e3 (by have:=fK us;lia) fun l2 H4 s4 n4 h4=>?_
    rw [cI hus fun w hw z=>((hcl w hw).2 _ z).1 rfl] at h4
    exact q l2 H4 (k3.trans (.of s4)) (s4 _ _ o3') (dj k3 o3 n4) h4
end
section
variable {P:Program} {w:World} {K:xFr} {mg:Str→Option Value} {base:Heap} {C aF aO:Addr}
theorem oA {own:Cd} {l:List (Bool×Int)} (h:∀ o∈l,OkO own.sl o) (hs:own.sl≤600):∀ u∈l.map opT,Cln u:=fun u hu=>by
 obtain ⟨n,hn,rfl⟩:=xA2.mp hu
 exact eR ((h n hn).small hs)
theorem nt {own:Cd} {l:List Int} (h:∀ n∈l,0≤n∧n<own.sl) (hs:own.sl≤600):∀ u∈l.map slT,Cln u:=fun u hu=>by
 obtain ⟨n,hn,rfl⟩:=xA2.mp hu
 exact dS (by have:=h n hn;lia)
def Got (C x:Addr) (k:RK) (a:Nat) (fl:Fl) (H:Hp) (Q:VK):Prop:=∀ (v:V) (H':Hp),Kept [x] H H'→H' x=some (k.ob C (a+fl.ws.length))→Rp H' fl.d v→Q v H'
def spRo (C:Addr):Sp:=fun vs H Q _=>∃ (x:Addr) (k:RK) (a:Nat) (sr:Srt) (l:List (Bool×Int)) (r:List Str),vs=[.ref x,.str sr.nm]∧Rr C x k H a∧k.ws.drop a=(Fl.opns l).ws++r∧Fit k.own k.e k.cs.length sr (.opns l)∧Bnd' k.own k.e k.cs.length∧Sz (.opns l)∧Got C x k a (.opns l) H Q
def gro:Scope:={ kind:=.function,names:=[("self",.cell),("sort",.local),("words",.local),("len",.globalImplicit),("MOST_IN_ROW",.globalImplicit),("tuple",.globalImplicit)],isGenerator:=false,isCoroutine:=false,more:=[("fast",.str "self"),("fast",.str "sort"),("fast",.str "words"),("fast",.str "word")] }
theorem scro:FnScope ["self","sort","words"] ["self","sort"] gro:=⟨rfl,rfl,rfl,by decide +kernel,rfl,by decide +kernel,by decide +kernel⟩
theorem vD {f:Addr} {fd:FuncData} (F:Dm K f fd "read_operands" "RowReader.read_operands" aX ["self","sort"]) (T:Txt w K mg C aF aO) (c_RowReader_need:Mal P w K mg base C "need" 1 ["self","holds"] spNd) (c_RowReader_operand_in:Mal P w K mg base C "operand_in" 4 ["self","word"] (spOi C)) (c_RowReader_take_bracketed:Mal P w K mg base C "take_bracketed" 3 ["self"] (spTb C)):FnOk P w K mg base CX0 5 f fd ["self","sort"] (spRo C)∧Binds K fd ["self","sort"] []:=by
 refine F.ok scro rfl (fun vs H Q E h=>?_) (fun f cdv A outer s H vs Q E hr h=>?_)
 ·obtain ⟨x,k,a,sr,l,r,rfl,_⟩:=h
  rfl
 ·obtain ⟨x,k,a,sr,l,r,rfl,hx,hd,hf,hb,hz,q⟩:=h
  refine' ⟨?tt,QSs.h ?hh,?gg⟩
  case hh=>exact (ac (aA (i:=2) scro.nd rfl (Or.inl rfl) (eX (qv 0) c_RowReader_take_bracketed hr))
   (ac (aR (bo (qv 0) c_RowReader_need hr (ad (nK (aM aJ (qv 1) af (nomark _)) (du (aM dD (aL bD rfl T.zlen bS (ad (qv 2) ab)) (bX T.gMir) (nomark _)))) ab)))
   (ae (ai (aN aW rfl T.ztuple bj (ad (bh (ls:=["word"]) (N:=["self"]) (fr:=[0]) rfl (CapsG.mk' rfl (by decide +kernel) rfl (by decide +kernel) (.cons ⟨⟨_,rfl,rfl⟩,rfl,rfl,rfl⟩ .nil) (by decide +kernel) rfl) (dR (qv 2)) (fun C s H fp=>(aj (i:=0) (show (["word","self"]:List Str).Nodup by decide +kernel) rfl (Or.inl rfl))) (fun C s H fp=>aI) (fun C s H fp=>(bo (qv 1) c_RowReader_operand_in hr (ad (qv 0) ab)))) ab))))))
  have ho:=hx.ob
  have bs:=hb.s
  cases hf with
  | @opds _ ha2 ha1 =>
   have cl:=oA ha1 bs
   have ew:(Fl.opns l).ws=br (l.map opT):=gT rfl cl
   rw [ew] at hd
   k_go
   refine au ho rfl ?_
   k_go
   refine ⟨x,k,a,l.map opT,r,rfl,hx,hd,cl,by have:=hz.t;show (Fl.opns l).tx.length≤_;lia,fun lw H1 k1 o1 nl h1=>?_⟩
   have r1:=hx.of k1 o1
   k_go
   refine au o1 rfl ?_
   k_go
   rw [xAa,xAa,xBd (show ((l.length:Nat):Int)≤4 by lia)]
   refine ⟨x,rfl,?_⟩
   k_go
   refine cr (l:=l) (cU (xs:=(l.map opT).map V.str)) (by rw [xAa,xAa]) (fun H' s'=>.of (s' _ _ h1)) opD (by rw [xAa,xAa];lia) ?_ ?_
   ·rintro B ys i b v H2 _ N1 N0 hb1 s2 hB ⟨rfl,hv1⟩ k2
    rw [xAw,xAw,hb1] at hv1
    cases hv1
    k_go
    refine ⟨rfl,rfl,?_⟩
    k_go
    refine ⟨hB,?_⟩
    k_go
    refine au (s2 _ _ o1) rfl ?_
    k_go
    exact ⟨x,k,_,b,rfl,r1.same s2,ha1 b (xAc hb1),bs,fun v H4 s4 hv=>⟨s4 _ _ hB,k2 _ _ s4 hv⟩⟩
   ·intro B H2 s2 n2 h2
    obtain ⟨vs,h2,hvs⟩:=h2
    k_go
    refine bu h2 fun p H3 s3 n3 h3=>?_
    refine q (.ref p) H3 (k1.trans (.of (s2.trans s3))) ?_ ⟨p,_,rfl,h3,hvs.mono s3⟩
    rw [ew]
    exact s3 _ _ (s2 _ _ o1)
  | @kept _ ha2 ha1 =>
   have cl:=oA ha1 bs
   have ew:(Fl.opns l).ws=br (l.map opT):=gT rfl cl
   rw [ew] at hd
   k_go
   refine au ho rfl ?_
   k_go
   refine ⟨x,k,a,l.map opT,r,rfl,hx,hd,cl,by have:=hz.t;show (Fl.opns l).tx.length≤_;lia,fun lw H1 k1 o1 nl h1=>?_⟩
   have r1:=hx.of k1 o1
   k_go
   refine au o1 rfl ?_
   k_go
   refine ⟨x,rfl,?_⟩
   k_go
   refine cr (l:=l) (cU (xs:=(l.map opT).map V.str)) (by rw [xAa,xAa]) (fun H' s'=>.of (s' _ _ h1)) opD (by rw [xAa,xAa];lia) ?_ ?_
   ·rintro B ys i b v H2 _ N1 N0 hb1 s2 hB ⟨rfl,hv1⟩ k2
    rw [xAw,xAw,hb1] at hv1
    cases hv1
    k_go
    refine ⟨rfl,rfl,?_⟩
    k_go
    refine ⟨hB,?_⟩
    k_go
    refine au (s2 _ _ o1) rfl ?_
    k_go
    exact ⟨x,k,_,b,rfl,r1.same s2,ha1 b (xAc hb1),bs,fun v H4 s4 hv=>⟨s4 _ _ hB,k2 _ _ s4 hv⟩⟩
   ·intro B H2 s2 n2 h2
    obtain ⟨vs,h2,hvs⟩:=h2
    k_go
    refine bu h2 fun p H3 s3 n3 h3=>?_
    refine q (.ref p) H3 (k1.trans (.of (s2.trans s3))) ?_ ⟨p,_,rfl,h3,hvs.mono s3⟩
    rw [ew]
    exact s3 _ _ (s2 _ _ o1)
end
section
variable {P:Program} {w:World} {K:xFr} {mg:Str→Option Value} {base:Heap} {C aF aO:Addr}
theorem jy:∀ ns:List Int,D.deps (ns.map D.int)≤30
 | []=>by decide
 | n::ns=>by
  have:=jy ns
  show max 0 _≤30
  lia
theorem ul {z:Str} (h:z∈opL):inV (.str z) (opL.map V.str)=true:=by
 simp only [opL,xAv,xBv,or_false] at h
 rcases h with rfl | rfl | rfl | rfl | rfl <;> decide +kernel
theorem ua {l ks:List Int} (h1:ks.Nodup) (h2:l.Nodup) (h:∀ z,z∈ks↔z∈l):ks.length=l.length:=((List.perm_ext_iff_of_nodup h1 h2).mpr h).length_eq
def spRs (C:Addr):Sp:=fun vs H Q _=>∃ (x:Addr) (k:RK) (a:Nat) (sr:Srt) (l:List Int) (r:List Str),vs=[.ref x,.str sr.nm]∧Rr C x k H a∧k.ws.drop a=(Fl.slts l).ws++r∧Fit k.own k.e k.cs.length sr (.slts l)∧Bnd' k.own k.e k.cs.length∧Sz (.slts l)∧Got C x k a (.slts l) H Q
def grs:Scope:={ kind:=.function,names:=[("self",.cell),("sort",.local),("words",.local),("slots",.local),("tuple",.globalImplicit),("sorted",.globalImplicit),("set",.globalImplicit),("len",.globalImplicit),("MOST_IN_ROW",.globalImplicit)],isGenerator:=false,isCoroutine:=false,more:=[("fast",.str "self"),("fast",.str "sort"),("fast",.str "words"),("fast",.str "word"),("fast",.str "slots")] }
theorem scrs:FnScope ["self","sort","words","slots"] ["self","sort"] grs:=⟨rfl,rfl,rfl,by decide +kernel,rfl,by decide +kernel,by decide +kernel⟩
theorem vB {f:Addr} {fd:FuncData} (F:Dm K f fd "read_slots" "RowReader.read_slots" bF ["self","sort"]) (T:Txt w K mg C aF aO) (c_RowReader_need:Mal P w K mg base C "need" 1 ["self","holds"] spNd) (c_RowReader_slot_in:Mal P w K mg base C "slot_in" 3 ["self","word"] (spSi C)) (c_RowReader_take_bracketed:Mal P w K mg base C "take_bracketed" 3 ["self"] (spTb C)):FnOk P w K mg base CX0 4 f fd ["self","sort"] (spRs C)∧Binds K fd ["self","sort"] []:=by
 refine F.ok scrs rfl (fun vs H Q E h=>?_) (fun f cdv A outer s H vs Q E hr h=>?_)
 ·obtain ⟨x,k,a,sr,l,r,rfl,_⟩:=h
  rfl
 ·obtain ⟨x,k,a,sr,l,r,rfl,hx,hd,hf,hb,hz,q⟩:=h
  have hu40:(A.deeper (PyProof.Rows.envOfC "RowReader.read_slots" grs s.heap.objs.size f cdv)).units+40<cLine:=by have:=hr.units;lia
  refine' ⟨?tt,QSs.h ?hh,?gg⟩
  case hh=>exact (ac (aA (i:=2) scrs.nd rfl (Or.inl rfl) (eX (qv 0) c_RowReader_take_bracketed hr))
   (ac (aA (i:=3) scrs.nd rfl (Or.inl rfl) (aN aW rfl T.ztuple bj (ad (bh (ls:=["word"]) (N:=["self"]) (fr:=[0]) rfl (CapsG.mk' rfl (by decide +kernel) rfl (by decide +kernel) (.cons ⟨⟨_,rfl,rfl⟩,rfl,rfl,rfl⟩ .nil) (by decide +kernel) rfl) (dR (qv 2)) (fun C s H fp=>(aj (i:=0) (show (["word","self"]:List Str).Nodup by decide +kernel) rfl (Or.inl rfl))) (fun C s H fp=>aI) (fun C s H fp=>(bo (qv 1) c_RowReader_slot_in hr (ad (qv 0) ab)))) ab)))
   (ac (av (ao aJ (qv 1) af (nomark _)) (ae (aR (bo (qv 0) c_RowReader_need hr (ad (aM (qU hu40) (qv 3) (aN aW rfl T.ztuple bj (ad (aL (ka rfl) rfl T.zsorted pz (ad (aN (lB rfl) rfl T.zset se (ad (qv 3) ab)) ab)) ab)) (nomark _)) ab)))) (ae (aR (bo (qv 0) c_RowReader_need hr (ad (ef (aM dD (aL bD rfl T.zlen bS (ad (qv 3) ab)) (bX T.gMir) (nomark _)) (du (aM aJ (aL rC rfl T.zlen bS (ad (aN (lB rfl) rfl T.zset se (ad (qv 3) ab)) ab)) (aL bD rfl T.zlen bS (ad (qv 3) ab)) (nomark _)))) ab)))))
   (ae (ai (qv 3))))))
  have ho:=hx.ob
  have bs:=hb.s
  have hlen:l.length≤600:=by
   cases hf with
   | live a1 a2=>exact gb a1 a2 bs
   | slots a1 a2 a3=>lia
  cases hf with
  | @live _ hp ha1 =>
   have cl:=nt ha1 bs
   have ew:(Fl.slts l).ws=br (l.map slT):=gT rfl cl
   have hll:l.length≤600:=hlen
   have bnd:SetA.Bnd l:=fun z hz=>by have:=ha1 z hz;lia
   rw [ew] at hd
   k_go
   refine au ho rfl ?_
   k_go
   refine ⟨x,k,a,l.map slT,r,rfl,hx,hd,cl,by have:=hz.t;show (Fl.slts l).tx.length≤_;lia,fun lw H1 k1 o1 nl h1=>?_⟩
   have r1:=hx.of k1 o1
   k_go
   refine cr (l:=l) (cU (xs:=(l.map slT).map V.str)) (by rw [xAa,xAa]) (fun H' s'=>.of (s' _ _ h1)) D.int (by rw [xAa,xAa];lia) ?_ ?_
   ·rintro B ys i b v H2 _ N1 N0 hb1 s2 hB ⟨rfl,hv1⟩ k2
    rw [xAw,xAw,hb1] at hv1
    cases hv1
    have hm:=ha1 b (xAc hb1)
    k_go
    refine ⟨rfl,rfl,?_⟩
    k_go
    refine ⟨hB,?_⟩
    k_go
    refine au (s2 _ _ o1) rfl ?_
    k_go
    exact ⟨x,k,_,b,rfl,r1.same s2,hm.1,hm.2,bs,fun H4 s4=>⟨s4 _ _ hB,k2 _ _ s4 rfl⟩⟩
   ·intro B H2 s2 n2 h2
    have h2:=h2.ints
    k_go
    refine bu h2 fun p H3 s3 n3 h3=>?_
    have o3:=s3 _ _ (s2 _ _ o1)
    k_go
    refine au o3 rfl ?_
    k_go
    refine nC h3 bnd fun ls ks H4 s4 n4 h4 nd m4=>?_
    k_go
    refine lZ h4 (fun z hz=>bnd z ((m4 z).mp hz)) fun l5 ns H5 s5 n5 h5 pw m5=>?_
    have ens:ns=l:=iW pw hp fun z=>(m5 z).trans (m4 z)
    rw [ens] at h5
    k_go
    refine bu h5 fun p6 H6 s6 n6 h6=>?_
    have s36:=s4.trans (s5.trans s6)
    k_go
    refine rN (ds:=l.map D.int) ⟨p,_,rfl,s36 _ _ h3,.ofInts l⟩ ⟨p6,_,rfl,h6,.ofInts l⟩ (jy l) ?_
    refine ⟨x,rfl,?_⟩
    k_go
    refine q (.ref p) H6 (k1.trans (.of (s2.trans (s3.trans s36)))) ?_ ⟨p,_,rfl,s36 _ _ h3,.ofInts l⟩
    rw [ew]
    exact s36 _ _ o3
  | @slots _ h4 hnd ha1 =>
   have cl:=nt ha1 bs
   have ew:(Fl.slts l).ws=br (l.map slT):=gT rfl cl
   have hll:l.length≤600:=hlen
   have bnd:SetA.Bnd l:=fun z hz=>by have:=ha1 z hz;lia
   rw [ew] at hd
   k_go
   refine au ho rfl ?_
   k_go
   refine ⟨x,k,a,l.map slT,r,rfl,hx,hd,cl,by have:=hz.t;show (Fl.slts l).tx.length≤_;lia,fun lw H1 k1 o1 nl h1=>?_⟩
   have r1:=hx.of k1 o1
   k_go
   refine cr (l:=l) (cU (xs:=(l.map slT).map V.str)) (by rw [xAa,xAa]) (fun H' s'=>.of (s' _ _ h1)) D.int (by rw [xAa,xAa];lia) ?_ ?_
   ·rintro B ys i b v H2 _ N1 N0 hb1 s2 hB ⟨rfl,hv1⟩ k2
    rw [xAw,xAw,hb1] at hv1
    cases hv1
    have hm:=ha1 b (xAc hb1)
    k_go
    refine ⟨rfl,rfl,?_⟩
    k_go
    refine ⟨hB,?_⟩
    k_go
    refine au (s2 _ _ o1) rfl ?_
    k_go
    exact ⟨x,k,_,b,rfl,r1.same s2,hm.1,hm.2,bs,fun H4 s4=>⟨s4 _ _ hB,k2 _ _ s4 rfl⟩⟩
   ·intro B H2 s2 n2 h2
    have h2:=h2.ints
    k_go
    refine bu h2 fun p H3 s3 n3 h3=>?_
    have o3:=s3 _ _ (s2 _ _ o1)
    k_go
    refine au o3 rfl ?_
    k_go
    rw [xAa,xBd (show ((l.length:Nat):Int)≤4 by lia)]
    k_go
    refine nC h3 bnd fun ls ks H4 s4 n4 h4' nd m4=>?_
    have el:=ua nd hnd m4
    have h3':=s4 _ _ h3
    k_go
    refine sI h4' (by lia) ?_
    k_go
    rw [xAa,xBd (show ((ks.length:Nat):Int)=((l.length:Nat):Int) by lia)]
    refine ⟨x,rfl,?_⟩
    k_go
    refine q (.ref p) H4 (k1.trans (.of (s2.trans (s3.trans s4)))) ?_ ⟨p,_,rfl,s4 _ _ h3,.ofInts l⟩
    rw [ew]
    exact s4 _ _ o3
end
section
variable {P:Program} {w:World} {K:xFr} {mg:Str→Option Value} {base:Heap} {C aF aO:Addr}
def spRh (C:Addr):Sp:=fun vs H Q _=>∃ (x:Addr) (k:RK) (a:Nat) (sr:Srt) (fl:Fl) (r:List Str),vs=[.ref x,.str sr.nm]∧Rr C x k H a∧k.ws.drop a=fl.ws++r∧Fit k.own k.e k.cs.length sr fl∧Bnd' k.own k.e k.cs.length∧Sz fl∧Got C x k a fl H Q
theorem dB {c:Cd} {e:Int} {nc:Nat} {s:Srt} {fl:Fl} (h:Fit c e nc s fl) (hb:Bnd' c e nc) (h1:∀ l,fl≠.slts l) (h2:∀ l,fl≠.opns l):fl.ws=[fl.tx]:=by
 obtain ⟨_,h⟩:=h.clean hb.s hb.n hb.e hb.c
 have bs:=hb.s
 have be:=hb.e
 have bn:=hb.n
 have bc:=hb.c
 refine sf ?_
 cases h with
 | inr h=>exact h
 | inl h =>
  cases ‹Fit c e nc s fl› with
  | slot a b=>exact dS (by lia)
  | opd a=>exact eR (a.small bs)
  | opds a b=>exact (h2 _ rfl).elim
  | kept a b=>exact (h2 _ rfl).elim
  | word a=>exact a.cln
  | op a=>exact (ki a).cln
  | code a b=>exact da (by lia)
  | place a b=>exact da (by lia)
  | row a b=>exact da (by lia)
  | live a b=>exact (h1 _ rfl).elim
  | slots a b d=>exact (h1 _ rfl).elim
def grh:Scope:={ kind:=.function,names:=[("self",.local),("sort",.local),("word",.local),("is_word",.globalImplicit),("OPS",.globalImplicit)],isGenerator:=false,isCoroutine:=false,more:=[] }
theorem scrh:FnScope ["self","sort","word"] ["self","sort"] grh:=⟨rfl,rfl,rfl,by decide +kernel,rfl,by decide +kernel,by decide +kernel⟩
theorem vF {f:Addr} {fd:FuncData} (F:Dm K f fd "read_thing" "RowReader.read_thing" bE ["self","sort"]) (T:Txt w K mg C aF aO) (c_RowReader_need:Mal P w K mg base C "need" 1 ["self","holds"] spNd) (c_RowReader_take:Mal P w K mg base C "take" 2 ["self"] (spTk C)) (c_RowReader_slot_in:Mal P w K mg base C "slot_in" 3 ["self","word"] (spSi C)) (c_RowReader_operand_in:Mal P w K mg base C "operand_in" 4 ["self","word"] (spOi C)) (c_RowReader_number_in:Mal P w K mg base C "number_in" 3 ["self","sort","word"] (spNi C)) (c_RowReader_read_operands:Mal P w K mg base C "read_operands" 5 ["self","sort"] (spRo C)) (c_RowReader_read_slots:Mal P w K mg base C "read_slots" 4 ["self","sort"] (spRs C)) (c_is_word:Cal P w K mg base "is_word" 1 ["thing"] spWd):FnOk P w K mg base CX0 6 f fd ["self","sort"] (spRh C)∧Binds K fd ["self","sort"] []:=by
 refine F.ok scrh rfl (fun vs H Q E h=>?_) (fun f cdv A outer s H vs Q E hr h=>?_)
 ·obtain ⟨x,k,a,sr,fl,r,rfl,_⟩:=h
  rfl
 ·obtain ⟨x,k,a,sr,fl,r,rfl,hx,hd,hf,hb,hz,q⟩:=h
  refine' ⟨?tt,QSs.h ?hh,?gg⟩
  case hh=>exact (ac (av (dY (eY (qv 1) (ad af (ad af ab))) rfl) (ae (ai (bo (qv 0) c_RowReader_read_operands hr (ad (qv 1) ab)))) ak)
   (ac (av (dY (eY (qv 1) (ad af (ad af ab))) rfl) (ae (ai (bo (qv 0) c_RowReader_read_slots hr (ad (qv 1) ab)))) ak)
   (ac (aA (i:=2) scrh.nd rfl (Or.inl rfl) (eX (qv 0) c_RowReader_take hr))
   (ac (av (ao aJ (qv 1) af (nomark _)) (ae (ai (bo (qv 0) c_RowReader_slot_in hr (ad (qv 2) ab)))) ak)
   (ac (av (ao aJ (qv 1) af (nomark _)) (ae (ai (bo (qv 0) c_RowReader_operand_in hr (ad (qv 2) ab)))) ak)
   (ac (av (dY (eY (qv 1) (ad af (ad af ab))) rfl) (ac (aR (bo (qv 0) c_RowReader_need hr (ad (eK (ao aJ (qv 1) af (nomark _)) (ap c_is_word hr rfl (ad (qv 2) ab)) (aM ml (qv 2) (kN (v:=.ref aO) rfl T.gOps rfl) rfl)) ab)))
   (ae (ai (qv 2)))) ak)
   (ae (ai (bo (qv 0) c_RowReader_number_in hr (ad (qv 1) (ad (qv 2) ab)))))))))))
  have ho:=hx.ob
  have bs:=hb.s
  have hf0:=hf
  cases hf with
  | @slot n a1 a2 =>
   have ew:=dB hf0 hb (by intro l z;cases z) (by intro l z;cases z)
   rw [ew] at hd
   unfold Got at q
   rw [ew] at q
   k_go
   refine au ho rfl ?_
   k_go
   refine ⟨x,k,a,_,r,rfl,hx,hd,fun H1 k1 o1=>?_⟩
   have r1:=hx.of k1 o1
   k_go
   refine au o1 rfl ?_
   k_go
   exact ⟨x,k,_,n,rfl,r1,a1,a2,bs,fun H2 s2=>q _ H2 (k1.trans (.of s2)) (s2 _ _ o1) rfl⟩
  | @opd b a1 =>
   have ew:=dB hf0 hb (by intro l z;cases z) (by intro l z;cases z)
   rw [ew] at hd
   unfold Got at q
   rw [ew] at q
   k_go
   refine au ho rfl ?_
   k_go
   refine ⟨x,k,a,_,r,rfl,hx,hd,fun H1 k1 o1=>?_⟩
   have r1:=hx.of k1 o1
   k_go
   refine au o1 rfl ?_
   k_go
   exact ⟨x,k,_,b,rfl,r1,a1,bs,fun v H2 s2 hv=>q v H2 (k1.trans (.of s2)) (s2 _ _ o1) hv⟩
  | @opds l a1 a2 =>
   k_go
   refine au ho rfl ?_
   k_go
   exact ⟨x,k,a,_,_,r,rfl,hx,hd,hf0,hb,hz,q⟩
  | @kept l a1 a2 =>
   k_go
   refine au ho rfl ?_
   k_go
   exact ⟨x,k,a,_,_,r,rfl,hx,hd,hf0,hb,hz,q⟩
  | @word z a1 =>
   have ew:=dB hf0 hb (by intro l z;cases z) (by intro l z;cases z)
   rw [ew] at hd
   unfold Got at q
   rw [ew] at q
   k_go
   refine au ho rfl ?_
   k_go
   refine ⟨x,k,a,_,r,rfl,hx,hd,fun H1 k1 o1=>?_⟩
   have r1:=hx.of k1 o1
   k_go
   refine au o1 rfl ?_
   k_go
   refine ⟨z,rfl,a1,fun H2 s2=>?_⟩
   refine ⟨x,rfl,?_⟩
   k_go
   exact q _ H2 (k1.trans (.of s2)) (s2 _ _ o1) rfl
  | @op z a1 =>
   have ew:=dB hf0 hb (by intro l z;cases z) (by intro l z;cases z)
   rw [ew] at hd
   unfold Got at q
   rw [ew] at q
   k_go
   refine au ho rfl ?_
   k_go
   refine ⟨x,k,a,_,r,rfl,hx,hd,fun H1 k1 o1=>?_⟩
   have r1:=hx.of k1 o1
   k_go
   refine au o1 rfl ?_
   k_go
   refine uJ (T.ops H1) rfl (by decide +kernel) ?_
   rw [show inV (V.str (Fl.wd z).tx) (opL.map V.str)=true from ul a1]
   refine ⟨x,rfl,?_⟩
   k_go
   exact q _ H1 k1 o1 rfl
  | @code n a1 a2 =>
   have ew:=dB hf0 hb (by intro l z;cases z) (by intro l z;cases z)
   rw [ew] at hd
   unfold Got at q
   rw [ew] at q
   k_go
   refine au ho rfl ?_
   k_go
   refine ⟨x,k,a,_,r,rfl,hx,hd,fun H1 k1 o1=>?_⟩
   have r1:=hx.of k1 o1
   k_go
   refine au o1 rfl ?_
   k_go
   exact ⟨x,k,_,_,_,rfl,r1,hf0,hb,fun H2 s2=>q _ H2 (k1.trans (.of s2)) (s2 _ _ o1) rfl⟩
  | @place n a1 a2 =>
   have ew:=dB hf0 hb (by intro l z;cases z) (by intro l z;cases z)
   rw [ew] at hd
   unfold Got at q
   rw [ew] at q
   k_go
   refine au ho rfl ?_
   k_go
   refine ⟨x,k,a,_,r,rfl,hx,hd,fun H1 k1 o1=>?_⟩
   have r1:=hx.of k1 o1
   k_go
   refine au o1 rfl ?_
   k_go
   exact ⟨x,k,_,_,_,rfl,r1,hf0,hb,fun H2 s2=>q _ H2 (k1.trans (.of s2)) (s2 _ _ o1) rfl⟩
  | @row n a1 a2 =>
   have ew:=dB hf0 hb (by intro l z;cases z) (by intro l z;cases z)
   rw [ew] at hd
   unfold Got at q
   rw [ew] at q
   k_go
   refine au ho rfl ?_
   k_go
   refine ⟨x,k,a,_,r,rfl,hx,hd,fun H1 k1 o1=>?_⟩
   have r1:=hx.of k1 o1
   k_go
   refine au o1 rfl ?_
   k_go
   exact ⟨x,k,_,_,_,rfl,r1,hf0,hb,fun H2 s2=>q _ H2 (k1.trans (.of s2)) (s2 _ _ o1) rfl⟩
  | @live l a1 a2 =>
   k_go
   refine au ho rfl ?_
   k_go
   exact ⟨x,k,a,_,_,r,rfl,hx,hd,hf0,hb,hz,q⟩
  | @slots l a1 a2 a3 =>
   k_go
   refine au ho rfl ?_
   k_go
   exact ⟨x,k,a,_,_,r,rfl,hx,hd,hf0,hb,hz,q⟩
end
section
variable {P:Program} {w:World} {K:xFr} {mg:Str→Option Value} {base:Heap} {C aF aO:Addr}
def spRI (C:Addr):Sp:=fun vs H Q _=>∃ (x dx M O:Addr) (z:Str) (n e:Int) (cs:List Cd) (own:Cd),vs=[.ref x,.str z,.int n,.ref M,.ref O,.int e]∧H x=some (.ins C dx [])∧z.length≤1000∧LD H M (cs.map Cd.d)∧cs.length≤1000∧H O=some (.tup (own.ns.map V.int)) ∧
 ∀ (L:Addr) (H':Hp),Kept [x] H H'→H L=none→Rr C x ⟨dx,L,M,O,n,Txt.split z (one 32),cs,own,e⟩ H' 0→Q .non H'
def gri:Scope:={ kind:=.function,names:=[("self",.local),("line",.local),("number",.local),("codes",.local),("own",.local),("end",.local)],isGenerator:=false,isCoroutine:=false,more:=[] }
theorem scri:FnScope ["self","line","number","codes","own","end"] ["self","line","number","codes","own","end"] gri:=⟨rfl,rfl,rfl,by decide +kernel,rfl,by decide +kernel,by decide +kernel⟩
theorem vE {f:Addr} {fd:FuncData} (F:Dm K f fd "__init__" "RowReader.__init__" eE ["self","line","number","codes","own","end"]) (T:Txt w K mg C aF aO):FnOk P w K mg base CX0 1 f fd ["self","line","number","codes","own","end"] (spRI C)∧Binds K fd ["self","line","number","codes","own","end"] []:=by
 refine F.ok scri rfl (fun vs H Q E h=>?_) (fun f cdv A outer s H vs Q E hr h=>?_)
 ·obtain ⟨x,dx,M,O,z,n,e,cs,own,rfl,_⟩:=h
  rfl
 ·obtain ⟨x,dx,M,O,z,n,e,cs,own,rfl,hx,hz,hM,hcs,hO,q⟩:=h
  refine' ⟨?tt,QSs.h ?hh,?gg⟩
  case hh=>exact (ac (dZ (qv 0) (bB PySem.F.plainAttrs_str PySem.F.slot_str_split PySem.F.type_str_split dJ (qv 1) (ad af ab)))
   (ac (dZ (qv 0) (qv 2))
   (ac (dZ (qv 0) (qv 3))
   (ac (dZ (qv 0) (qv 4))
   (ac (dZ (qv 0) (qv 5))
   (ae (dZ (qv 0) ag)))))))
  have e3:(" ":Str)=one 32:=by decide +kernel
  have sl:=_root_.Row.split_len z 32
  have nM:M≠x:=fun y=>by obtain ⟨vs,e,_⟩:=hM;rw [y,hx] at e;cases e
  have nO:O≠x:=fun y=>by rw [y,hx] at hO;cases hO
  k_go
  refine bm ?_
  k_go
  refine eF (c:=32) e3 (by lia) fun L H0 s0 n0 h0=>?_
  have hx0:=s0 _ _ hx
  have k0:Kept [x] H H0:=.of s0
  have nL:L≠x:=fun y=>by rw [y,hx] at n0;cases n0
  have l0:H0 L=some (.lst ((Txt.split z (one 32)).map V.str)):=h0
  k_go
  refine dq hx0 T.cR (by simp) (by simp) ?_
  have hx1:(upd H0 x (.ins C dx (putF "words" (.ref L) []))) x=some (.ins C dx [("words",.ref L)]):=ah
  have k1:Kept [x] H (upd H0 x (.ins C dx (putF "words" (.ref L) []))):=k0.trans (.put (by simp))
  have l1:(upd H0 x (.ins C dx (putF "words" (.ref L) []))) L=some (.lst ((Txt.split z (one 32)).map V.str)):=by rw [am nL];exact l0
  generalize upd H0 x (.ins C dx (putF "words" (.ref L) []))=H1 at hx1 k1 l1
  k_go
  refine dq hx1 T.cR (by simp) (by simp) ?_
  have hx2:(upd H1 x (.ins C dx (putF "number" (.int n) [("words",.ref L)]))) x=some (.ins C dx [("words",.ref L),("number",.int n)]):=ah
  have k2:Kept [x] H (upd H1 x (.ins C dx (putF "number" (.int n) [("words",.ref L)]))):=k1.trans (.put (by simp))
  have l2:(upd H1 x (.ins C dx (putF "number" (.int n) [("words",.ref L)]))) L=some (.lst ((Txt.split z (one 32)).map V.str)):=by rw [am nL];exact l1
  generalize upd H1 x (.ins C dx (putF "number" (.int n) [("words",.ref L)]))=H2 at hx2 k2 l2
  k_go
  refine dq hx2 T.cR (by simp) (by simp) ?_
  have hx3:(upd H2 x (.ins C dx (putF "codes" (.ref M) [("words",.ref L),("number",.int n)]))) x=some (.ins C dx [("words",.ref L),("number",.int n),("codes",.ref M)]):=ah
  have k3:Kept [x] H (upd H2 x (.ins C dx (putF "codes" (.ref M) [("words",.ref L),("number",.int n)]))):=k2.trans (.put (by simp))
  have l3:(upd H2 x (.ins C dx (putF "codes" (.ref M) [("words",.ref L),("number",.int n)]))) L=some (.lst ((Txt.split z (one 32)).map V.str)):=by rw [am nL];exact l2
  generalize upd H2 x (.ins C dx (putF "codes" (.ref M) [("words",.ref L),("number",.int n)]))=H3 at hx3 k3 l3
  k_go
  refine dq hx3 T.cR (by simp) (by simp) ?_
  have hx4:(upd H3 x (.ins C dx (putF "own" (.ref O) [("words",.ref L),("number",.int n),("codes",.ref M)]))) x=some (.ins C dx [("words",.ref L),("number",.int n),("codes",.ref M),("own",.ref O)]):=ah
  have k4:Kept [x] H (upd H3 x (.ins C dx (putF "own" (.ref O) [("words",.ref L),("number",.int n),("codes",.ref M)]))):=k3.trans (.put (by simp))
  have l4:(upd H3 x (.ins C dx (putF "own" (.ref O) [("words",.ref L),("number",.int n),("codes",.ref M)]))) L=some (.lst ((Txt.split z (one 32)).map V.str)):=by rw [am nL];exact l3
  generalize upd H3 x (.ins C dx (putF "own" (.ref O) [("words",.ref L),("number",.int n),("codes",.ref M)]))=H4 at hx4 k4 l4
  k_go
  refine dq hx4 T.cR (by simp) (by simp) ?_
  have hx5:(upd H4 x (.ins C dx (putF "end" (.int e) [("words",.ref L),("number",.int n),("codes",.ref M),("own",.ref O)]))) x=some (.ins C dx [("words",.ref L),("number",.int n),("codes",.ref M),("own",.ref O),("end",.int e)]):=ah
  have k5:Kept [x] H (upd H4 x (.ins C dx (putF "end" (.int e) [("words",.ref L),("number",.int n),("codes",.ref M),("own",.ref O)]))):=k4.trans (.put (by simp))
  have l5:(upd H4 x (.ins C dx (putF "end" (.int e) [("words",.ref L),("number",.int n),("codes",.ref M),("own",.ref O)]))) L=some (.lst ((Txt.split z (one 32)).map V.str)):=by rw [am nL];exact l4
  generalize upd H4 x (.ins C dx (putF "end" (.int e) [("words",.ref L),("number",.int n),("codes",.ref M),("own",.ref O)]))=H5 at hx5 k5 l5
  k_go
  refine dq hx5 T.cR (by simp) (by simp) ?_
  have hx6:(upd H5 x (.ins C dx (putF "at" (.int 0) [("words",.ref L),("number",.int n),("codes",.ref M),("own",.ref O),("end",.int e)]))) x=some (.ins C dx [("words",.ref L),("number",.int n),("codes",.ref M),("own",.ref O),("end",.int e),("at",.int 0)]):=ah
  have k6:Kept [x] H (upd H5 x (.ins C dx (putF "at" (.int 0) [("words",.ref L),("number",.int n),("codes",.ref M),("own",.ref O),("end",.int e)]))):=k5.trans (.put (by simp))
  have l6:(upd H5 x (.ins C dx (putF "at" (.int 0) [("words",.ref L),("number",.int n),("codes",.ref M),("own",.ref O),("end",.int e)]))) L=some (.lst ((Txt.split z (one 32)).map V.str)):=by rw [am nL];exact l5
  generalize upd H5 x (.ins C dx (putF "at" (.int 0) [("words",.ref L),("number",.int n),("codes",.ref M),("own",.ref O),("end",.int e)]))=H6 at hx6 k6 l6
  k_go
  have noT:NoT [x] H:=fun b hb xs y=>by rw [xAm.mp hb,hx] at y;cases y
  exact q L H6 k6 n0 ⟨hx6,l6,hM.kept k6 (k6.tle noT) (by simp [nM]),k6 _ _ hO (by simp [nO]),by show (Txt.split z (one 32)).length≤_;lia,hcs⟩
end
section
variable {P:Program} {w:World} {K:xFr} {mg:Str→Option Value} {base:Heap} {C aF aO:Addr}
theorem mF {α β:Type} {l:List α} {f:α→List β} {i:Nat}:(l.flatMap f).drop ((l.take i).flatMap f).length=(l.drop i).flatMap f:=by
 conv=>lhs;rw [← xBx i l,List.flatMap_append]
 rw [xBx,List.drop_left]
theorem sq {s:Srt} (h:s≠.kept):decide (s.nm="kept")=false:=by
 cases s <;> first | exact (h rfl).elim | decide +kernel
def spRw (C:Addr):Sp:=fun vs H Q _=>∃ (x:Addr) (k:RK) (r:Rw),vs=[.ref x]∧Rr C x k H 0∧k.ws=r.ws∧RwOk k.own k.e k.cs r∧Bnd' k.own k.e k.cs.length∧∀ (v:V) (H':Hp),Kept [x] H H'→Rp H' r.d v→Q v H'
def grw:Scope:={ kind:=.function,names:=[("self",.local),("row",.local),("form",.local),("sort",.local),("row_form",.globalImplicit),("len",.globalImplicit),("tuple",.globalImplicit)],isGenerator:=false,isCoroutine:=false,more:=[] }
theorem scrw:FnScope ["self","row","form","sort"] ["self"] grw:=⟨rfl,rfl,rfl,by decide +kernel,rfl,by decide +kernel,by decide +kernel⟩
theorem vz {f:Addr} {fd:FuncData} (F:Dm K f fd "read_row" "RowReader.read_row" cq ["self"]) (T:Txt w K mg C aF aO) (c_RowReader_need:Mal P w K mg base C "need" 1 ["self","holds"] spNd) (c_RowReader_take:Mal P w K mg base C "take" 2 ["self"] (spTk C)) (c_RowReader_read_thing:Mal P w K mg base C "read_thing" 6 ["self","sort"] (spRh C)) (c_row_form:Cal P w K mg base "row_form" 1 ["word"] (spRf K)):FnOk P w K mg base CX0 7 f fd ["self"] (spRw C)∧Binds K fd ["self"] []:=by
 refine F.ok scrw rfl (fun vs H Q E h=>?_) (fun f cdv A outer s H vs Q E hr h=>?_)
 ·obtain ⟨x,k,r,rfl,_⟩:=h
  rfl
 ·obtain ⟨x,k,r,rfl,hx,hws,ok,hb,q⟩:=h
  refine' ⟨?tt,QSs.h ?hh,?gg⟩
  case hh=>exact (ac (aA (i:=1) scrw.nd rfl (Or.inl rfl) (bb (ad (eX (qv 0) c_RowReader_take hr) ab)))
   (ac (aA (i:=2) scrw.nd rfl (Or.inl rfl) (ap c_row_form hr rfl (ad (aB aV (qv 1) ag) ab)))
   (ac (aR (bo (qv 0) c_RowReader_need hr (ad (aM qO (qv 2) sY (nomark _)) ab)))
   (ac (cN PassesOwn.never rfl (c8 (qv 2)) (aj (i:=3) scrw.nd rfl (Or.inl rfl))
    (ac (aR (bB PySem.F.plainAttrs_list PySem.F.slot_list_append PySem.F.type_list_append bf (qv 1) (ad (bo (qv 0) c_RowReader_read_thing hr (ad (qv 3) ab)) ab)))
   (ae (aR (bo (qv 0) c_RowReader_need hr (ad (nK (aM f6 (qv 3) af (nomark _)) (du (aM aJ (aL bD rfl T.zlen bS (ad (aB aV (qv 1) ag) ab)) (aB aQ (aB aV (cB (qv 0)) (aB aV (qv 1) ag)) ag) (nomark _)))) ab))))))
   (ac (aR (bo (qv 0) c_RowReader_need hr (ad (aM aJ (cB (qv 0)) (aL bD rfl T.zlen bS (ad (cB (qv 0)) ab)) (nomark _)) ab)))
   (ae (ai (aN aW rfl T.ztuple bj (ad (qv 1) ab)))))))))
  have ho:=hx.ob
  have hlen:=ok.len
  have h5:r.ss.length≤5:=(b0 ok.t).2.2
  k_go
  refine au ho rfl ?_
  k_go
  refine ⟨x,k,0,r.w,r.fs.flatMap Fl.ws,rfl,hx,by rw [hws];rfl,fun H1 k1 o1=>?_⟩
  k_go
  refine aZ fun l H2 s2 n2 h2=>?_
  have nl:=dj k1 o1 n2
  have o2:=s2 _ _ o1
  k_go
  refine ⟨(r.w,r.ss),rfl,ok.t,fun t ht=>?_⟩
  k_go
  refine au o2 rfl ?_
  k_go
  refine ⟨x,rfl,?_⟩
  k_go
  refine nH (ht H2) ?_
  refine cQ (bK (xs:=r.ss.map fun (s:Srt)=>V.str s.nm)) (fun i σ H3=>∃ v3:Option V,σ=[some (.ref x),some (.ref l),some (.ref t),v3]∧Kept [x] H H3∧H3 x=some (k.ob C (1+((r.fs.take i).flatMap Fl.ws).length))∧∃ vs,H3 l=some (.lst (.str r.w::vs))∧Rps H3 ((r.fs.take i).map Fl.d) vs) ⟨_,rfl,k1.trans (.of s2),o2,[],h2,rfl⟩ (fun i σ H3 _ _=>ht H3) ?_ ?_
  ·rintro i σ _ y H3 hi ⟨v3,rfl,k3,o3,vs,h3,hvs⟩ ⟨rfl,hy⟩
   rw [xAw] at hy
   obtain ⟨sr,hsr,rfl⟩:=xA3.mp hy
   rw [xAa] at hi
   have hi':i<r.fs.length:=by rw [hlen];exact hi
   have hfi:r.fs[i]?=some r.fs[i]:=xAk hi'
   have fit:=ok.fit i sr _ hsr hfi
   have hvl:=hvs.mapLen
   rw [xAn,Nat.min_eq_left (by lia)] at hvl
   have nlx:x≠l:=fun z=>by rw [← z,o3] at h3;cases h3
   k_go
   refine au o3 rfl ?_
   k_go
   refine ⟨x,k,_,sr,r.fs[i],(r.fs.drop (i+1)).flatMap Fl.ws,rfl,hx.of k3 o3,?_,fit,hb,ok.sz _ (List.getElem_mem hi'),fun v H4 k4 o4 hv=>?_⟩
   ·rw [hws,← List.drop_drop]
    show List.drop _ (r.fs.flatMap Fl.ws)=_
    rw [mF,xB2 hi',List.flatMap_cons]
   ·have h4:H4 l=some (.lst (.str r.w::vs)):=k4 _ _ h3 (by simp [nlx.symm])
    have t4:TLe H3 H4:=k4.tle (hx.of k3 o3).noT
    k_go
    refine bv h4 (lineM (by rw [xAo];lia)) ?_
    have h5':upd H4 l (.lst (.str r.w::vs++[v])) l=some (.lst (.str r.w::(vs++[v]))):=ah
    have k5:Kept [x] H (upd H4 l (.lst (.str r.w::vs++[v]))):=cP (k3.trans k4) nl
    have o5:upd H4 l (.lst (.str r.w::vs++[v])) x=some (k.ob C (1+((r.fs.take (i+1)).flatMap Fl.ws).length)):=by
     rw [am nlx,o4,List.take_add_one,hfi,List.flatMap_append]
     simp [Nat.add_assoc]
    have t5:TLe H4 (upd H4 l (.lst (.str r.w::vs++[v]))):=.upd fun zs z=>by rw [h4] at z;cases z
    have hvs5:Rps (upd H4 l (.lst (.str r.w::vs++[v]))) ((r.fs.take (i+1)).map Fl.d) (vs++[v]):=by
     rw [List.take_add_one,hfi,xAi]
     exact ((hvs.le t4).snoc hv).le t5
    generalize upd H4 l (.lst (.str r.w::vs++[v]))=H5 at h5' k5 o5 hvs5 t5
    have fin:∃ v3:Option V,([some (.ref x),some (.ref l),some (.ref t),some (.str sr.nm)]:St)=[some (.ref x),some (.ref l),some (.ref t),v3]∧Kept [x] H H5∧H5 x=some (k.ob C (1+((r.fs.take (i+1)).flatMap Fl.ws).length))∧∃ vs,H5 l=some (.lst (.str r.w::vs))∧Rps H5 ((r.fs.take (i+1)).map Fl.d) vs:=⟨_,rfl,k5,o5,_,h5',hvs5⟩
    k_go
    refine au o5 rfl ?_
    k_go
    by_cases hk:sr = .kept
    ·subst hk
     obtain ⟨rfl,n,os,c',f1,f2,n0,hc',hkp⟩:=ok.kept i hsr
     have r5:=hx.of k5 o5
     obtain ⟨us,hus,rus,_⟩:=dA r5.cl
     obtain ⟨u,hu1,hu2⟩:=rus.mapGet hc'
     obtain ⟨pc,rfl,hpc⟩:=fu hu2
     obtain ⟨v1,e1,hr1⟩:=hvs5.mapGet (i:=1) (x:=.num n) (by rw [List.getElem?_take_of_lt (by decide)];exact f1)
     obtain ⟨v2,e2,hr2⟩:=hvs5.mapGet (i:=2) (x:=.opns os) (by rw [List.getElem?_take_of_lt (by decide)];exact f2)
     obtain rfl:v1 = .int n:=hr1
     obtain ⟨p2,xs2,rfl,hp2,hr2'⟩:=hr2
     have hl2:=hr2'.mapLen
     refine bW rfl ?_
     k_go
     refine dh h5' (bJ (j:=3) (by simpa using e2)) ?_
     k_go
     refine cz o5 T.cR (by simp) rfl ?_
     k_go
     refine dh h5' (bJ (j:=2) (by simpa using e1)) ?_
     k_go
     refine dh hus (by rw [show n=((n.toNat:Nat):Int) by lia];exact bJ hu1) ?_
     k_go
     rw [xBd (show ((xs2.length:Nat):Int)=c'.kp by lia)]
     refine ⟨x,rfl,?_⟩
     k_go
     exact fin
    ·rw [sq hk]
     k_go
     refine ⟨x,rfl,?_⟩
     k_go
     exact fin
  ·rintro σ H3 ⟨v3,rfl,k3,o3,vs,h3,hvs⟩
   rw [xAa,← hlen,xAu] at o3 hvs
   have r3:=hx.of k3 o3
   have w3:=r3.wl
   have lw:k.ws.length=1+(r.fs.flatMap Fl.ws).length:=by rw [hws];unfold Rw.ws;rw [xAo];lia
   k_go
   refine au o3 rfl ?_
   k_go
   refine cz o3 T.cR (by simp) rfl ?_
   k_go
   refine cz o3 T.cR (by simp) rfl ?_
   k_go
   rw [xAa,lw,xBd rfl]
   refine ⟨x,rfl,?_⟩
   k_go
   refine bu h3 fun p H4 s4 n4 h4=>?_
   exact q (.ref p) H4 (k3.trans (.of s4)) ⟨p,_,rfl,h4,_,_,rfl,rfl,hvs.mono s4⟩
end
section
variable {P:Program} {w:World} {K:xFr} {mg:Str→Option Value} {base:Heap} {C aF aO:Addr}
def spEo:Sp:=fun vs H Q _=>∃ (M:Addr) (cs:List Cd) (n:Int),vs=[.ref M,.int n]∧LD H M (cs.map Cd.d)∧0<cs.length∧cs.length≤1000∧∀ (l:Addr) (H':Hp),Same H H'→H l=none→H' l=some (.lst ((cs.tail.map Cd.en++[n]).map V.int))→Q (.ref l) H'
theorem mJ {xs:List V} (h:0<xs.length):cutV xs (some 1) none=xs.tail:=by
 cases xs with
 | nil=>simp at h
 | cons x xs=>exact eP
def geo:Scope:={ kind:=.function,names:=[("codes",.local),("many",.local)],isGenerator:=false,isCoroutine:=false,more:=[("fast",.str "codes"),("fast",.str "many"),("fast",.str "code")] }
theorem sceo:FnScope ["codes","many"] ["codes","many"] geo:=⟨rfl,rfl,rfl,by decide +kernel,rfl,by decide +kernel,by decide +kernel⟩
theorem wb (F:Dn K mg "ends_of" dg ["codes","many"]) (T:Txt w K mg C aF aO):Cal P w K mg base "ends_of" 1 ["codes","many"] spEo:=by
 refine F.ok sceo rfl (fun vs H Q E h=>?_) (fun f cdv A outer s H vs Q E hr h=>?_)
 ·obtain ⟨M,cs,n,rfl,_⟩:=h
  rfl
 ·obtain ⟨M,cs,n,rfl,hM,h0,h1,q⟩:=h
  refine' ⟨?tt,QSs.h ?hh,?gg⟩
  case hh=>exact (ae (ai (aq eZ (bh (ls:=["code"]) (N:=[]) (fr:=[]) rfl (CapsG.mk' rfl (by decide +kernel) rfl (by decide +kernel) .nil (by decide +kernel) rfl) (dR (bw ic (qv 0) (bI ag) cj)) (fun C s H fp=>(aj (i:=0) (show (["code"]:List Str).Nodup by decide +kernel) rfl (Or.inl rfl))) (fun C s H fp=>aI) (fun C s H fp=>(aB (r:=rIxT K) aQ (qv 0) ag))) (bb (ad (qv 1) ab)))))
  obtain ⟨us,hus,rus,lu⟩:=dA hM
  rw [xAa] at lu
  k_go
  refine nA hus fun l1 H1 s1 n1 h1'=>?_
  rw [mJ (by lia)] at h1'
  have rt:Rps H (cs.tail.map Cd.d) us.tail:=by
   cases cs with
   | nil=>simp at h0
   | cons c cs =>
    obtain ⟨v,r,rfl,_,h2⟩:=rus
    exact h2
  have lt:=rt.mapLen
  k_go
  refine cr (l:=cs.tail) (cU (xs:=us.tail)) lt (fun H' s'=>.of (s' _ _ h1')) (fun c=>.int c.en) (by rw [lt,List.length_tail];lia) ?_ ?_
  ·rintro B ys i c v H2 _ N1 N0 hc s2 hB ⟨rfl,hv⟩ k2
   obtain ⟨c',hc',hr'⟩:=rt.mapGet' hv
   rw [hc] at hc'
   cases hc'
   obtain ⟨p,rfl,hp⟩:=fu (hr'.mono (s1.trans s2))
   k_go
   refine ⟨rfl,rfl,?_⟩
   k_go
   refine ⟨hB,?_⟩
   k_go
   exact ⟨hB,k2 _ _ (fun _ _ e=>e) rfl⟩
  ·intro B H2 s2 n2 h2
   have h2:LD H2 B ((cs.tail.map Cd.en).map D.int):=by rw [xCc];exact h2
   have h2:=h2.ints
   k_go
   refine aZ fun l3 H3 s3 n3 h3=>?_
   k_go
   refine gD (s3 _ _ h2) h3 (lineMe (by rw [xAa,xAa,List.length_tail];simp;lia)) fun l4 H4 s4 n4 h4=>?_
   refine q l4 H4 (s1.trans (s2.trans (s3.trans s4))) (s1.free (s2.free (s3.free n4))) ?_
   rw [h4,xAi]
   rfl
end
section
variable {P:Program} {w:World} {K:xFr} {mg:Str→Option Value} {base:Heap} {C aF aO:Addr}
def spCa:Sp:=fun vs H Q _=>∃ (L:Addr) (ls:List Str) (n:Nat),vs=[.ref L]∧H L=some (.lst (ls.map V.str))∧n<ls.length∧ls.length≤1000∧(∀ t∈ls,t.length≤1000)∧(∀ (i:Nat) (t:Str),ls[i]?=some t→i≤n→∃ z r,Txt.split t (one 32)=z::r∧(i<n→z="code")∧(i=n→z≠"code")) ∧
 ∀ H':Hp,Same H H'→Q (.int n) H'
def gca:Scope:={ kind:=.function,names:=[("lines",.local),("many",.local),("len",.globalImplicit)],isGenerator:=false,isCoroutine:=false,more:=[] }
theorem scca:FnScope ["lines","many"] ["lines"] gca:=⟨rfl,rfl,rfl,by decide +kernel,rfl,by decide +kernel,by decide +kernel⟩
theorem wf (F:Dn K mg "codes_ahead" bz ["lines"]) (T:Txt w K mg C aF aO):Cal P w K mg base "codes_ahead" 1 ["lines"] spCa:=by
 refine F.ok scca rfl (fun vs H Q E h=>?_) (fun f cdv A outer s H vs Q E hr h=>?_)
 ·obtain ⟨L,ls,n,rfl,_⟩:=h
  rfl
 ·obtain ⟨L,ls,n,rfl,hL,h0,h1,h2,h3,q⟩:=h
  refine' ⟨?tt,QSs.h ?hh,?gg⟩
  case hh=>exact (ac (aA (i:=1) scca.nd rfl (Or.inl rfl) ag)
   (ac (i8 PassesOwn.never (QW.pt (eW (ao f7 (qv 1) (aL bD rfl T.zlen bS (ad (qv 0) ab)) (nomark _)) (dQ (ao aJ (aB aV (bB PySem.F.plainAttrs_str PySem.F.slot_str_split PySem.F.type_str_split dJ (aB aV (qv 0) (qv 1)) (ad af ab)) ag) af (nomark _))))) (ae (aA (i:=1) scca.nd rfl (Or.inl rfl) (aq bZ (qv 1) ag))))
   (ae (ai (qv 1)))))
  have e3:(" ":Str)=one 32:=by decide +kernel
  k_go
  refine kz (fun m σ H1=>∃ j:Nat,m=n - j∧j≤n∧σ=[some (.ref L),some (.int j)]∧Same H H1) _ ⟨0,rfl,xBn _,rfl,fun _ _ e=>e⟩ ?_
  rintro m σ H1 ⟨j,rfl,hj,rfl,s1⟩
  have hL1:=s1 _ _ hL
  have ht:ls[j]?=some ls[j]:=xAk (by lia)
  obtain ⟨z,r,hz,z1,z2⟩:=h3 j _ ht hj
  k_go
  rw [xAa]
  refine cx (xBd (by lia)) ?_
  k_go
  refine dh hL1 (bJ (by rw [xAw,ht];rfl)) ?_
  k_go
  refine bm ?_
  k_go
  refine eF (c:=32) e3 (by have:=h2 _ (xAc ht);lia) fun l2 H2 s2 n2 h2'=>?_
  rw [hz] at h2'
  k_go
  refine dh (v:=.str z) h2' fw ?_
  k_go
  refine uw (fun y=>?_) (fun y=>?_)
  ·have hj':j<n:=by
    rcases Nat.lt_or_ge j n with h | h
    ·exact h
    ·exact absurd (of_decide_eq_true y) (z2 (by lia))
   k_go
   exact ⟨n - (j+1),by lia,j+1,rfl,hj',rfl,s1.trans s2⟩
  ·have hj':j=n:=by
    rcases Nat.lt_or_ge j n with h | h
    ·exact absurd (z1 h) (of_decide_eq_false y)
    ·lia
   subst hj'
   k_go
   exact q _ (s1.trans s2)
end
section
variable {P:Program} {w:World} {K:xFr} {mg:Str→Option Value} {base:Heap} {C aF aO:Addr}
theorem fN {K:xFr} {H:Hp} {p:Addr} {xs:List V} (h:H p=some (.lst xs)):TruV K (.ref p) H (!xs.isEmpty):=.inl ⟨xs,.of h,rfl⟩
theorem nz {K:xFr} {ta:TE} {σ:St} {H:Hp} {QB:Bool→Hp→Prop} (h:ta σ H fun x H1=>∃ k,TruV K x H1 k∧QB k H1):tTru K ta σ H QB:=h
def spCf:Sp:=fun vs H Q _=>∃ (c:Cd) (p M:Addr) (cs:List Cd) (n:Int),vs=[.ref p,.ref M,.int n]∧H p=some (.tup (c.ns.map V.int))∧LD H M (cs.map Cd.d)∧cs.length≤1000∧CdOk c∧(cs=[]→c.pl=0∧c.pa=0∧c.kp=0∧c.en=0)∧(∀ c',cs.getLast?=some c'→c'.en<c.en)∧c.en<n∧∀ H':Hp,Same H H'→Q (.bl true) H'
def gcf:Scope:={ kind:=.function,names:=[("code",.local),("codes",.local),("many",.local),("place",.local),("params",.local),("kept",.local),("slots",.local),("entry",.local),("MOST_NAMES",.globalImplicit),("is_place",.globalImplicit),("MOST_SLOTS",.globalImplicit)],isGenerator:=false,isCoroutine:=false,more:=[] }
theorem sccf:FnScope ["code","codes","many","place","params","kept","slots","entry"] ["code","codes","many"] gcf:=⟨rfl,rfl,rfl,by decide +kernel,rfl,by decide +kernel,by decide +kernel⟩
theorem we (F:Dn K mg "can_follow" bQ ["code","codes","many"]) (T:Txt w K mg C aF aO) (c_is_place:Cal P w K mg base "is_place" 2 ["thing"] spPl):Cal P w K mg base "can_follow" 3 ["code","codes","many"] spCf:=by
 refine F.ok sccf rfl (fun vs H Q E h=>?_) (fun f cdv A outer s H vs Q E hr h=>?_)
 ·obtain ⟨c,p,M,cs,n,rfl,_⟩:=h
  rfl
 ·obtain ⟨c,p,M,cs,n,rfl,hp,hM,hl,ok,f1,f2,hn,q⟩:=h
  have hu40:(A.deeper (PyProof.Rows.envOfC "can_follow" gcf s.heap.objs.size f cdv)).units+40<cLine:=by have:=hr.units;lia
  refine' ⟨?tt,QSs.h ?hh,?gg⟩
  case hh=>exact (ac (nI (qv 0) (ee rfl (aG (aj (i:=3) sccf.nd rfl (Or.inl rfl)) (aG (aj (i:=4) sccf.nd rfl (Or.inl rfl)) (aG (aj (i:=5) sccf.nd rfl (Or.inl rfl)) (aG (aj (i:=6) sccf.nd rfl (Or.inl rfl)) (aG (aj (i:=7) sccf.nd rfl (Or.inl rfl)) cY)))))))
   (ac (av (QW.pt (eW (c7 (i3 (qv 1))) (dQ (ao (qR hu40) (aq qP (bw hX (qv 0) cj (bI ag)) (bw hX (qv 0) (bI ag) cj)) (dt (ad ag (ad ag (ad ag (ad ag ab))))) (nomark _))))) (ae (ai fY)) ak)
   (ac (av (QW.pt (eW (i3 (qv 1)) (dQ (ao dD (qv 7) (aB aQ (aB aV (qv 1) (kM gW ag)) ag) (nomark _))))) (ae (ai fY)) ak)
   (ac (av (QW.pt (kI (ao gE (qv 4) (bX T.gMn) (nomark _)) (il (ao gE (qv 5) (bX T.gMn) (nomark _))))) (ae (ai fY)) ak)
   (ae (ai (ef (ap c_is_place hr rfl (ad (qv 3) ab)) (ef (fX dD dD (aq bZ (qv 4) (qv 5)) (qv 6) (bX T.gMsl)) (du (aM f7 (qv 7) (qv 2) (nomark _)))))))))))
  obtain ⟨us,hus,rus,lu⟩:=dA hM
  rw [xAa] at lu
  have hp:H p=some (.tup [.int c.pl,.int c.pa,.int c.kp,.int c.sl,.int c.en]):=hp
  k_go
  refine nz ?_
  k_go
  refine ⟨_,fN hus,?_⟩
  cases cs with
  | nil =>
   obtain rfl:us=[]:=List.length_eq_zero_iff.mp lu
   obtain ⟨g1,g2,g3,g4⟩:=f1 rfl
   rw [g1,g2,g3,g4] at hp
   k_go
   refine kA hp (show ¬ (HT.sIx 5 0 none=0∧HT.sIx 5 5 (some 3)=5) by decide) fun p1 H1 s1 n1 h1=>?_
   have h1:H1 p1=some (.tup [.int 0,.int 0,.int 0]):=h1
   have hp1:=s1 _ _ hp
   k_go
   refine kA hp1 (show ¬ (HT.sIx 5 0 (some 4)=0∧HT.sIx 5 5 none=5) by decide) fun p2 H2 s2 n2 h2=>?_
   have h2:H2 p2=some (.tup [.int 0]):=h2
   k_go
   refine sV (s2 _ _ h1) h2 (lineMe (by decide)) fun p3 H3 s3 h3=>?_
   k_go
   refine cM fun p4 H4 s4 n4 h4=>?_
   k_go
   refine rN (ds:=[.int 0,.int 0,.int 0,.int 0]) ⟨p3,_,rfl,s4 _ _ h3,.ofInts [0,0,0,0]⟩ ⟨p4,_,rfl,h4,.ofInts [0,0,0,0]⟩ (by decide) ?_
   have st:=s1.trans (s2.trans (s3.trans s4))
   have hus4:=st _ _ hus
   k_go
   refine nz ?_
   k_go
   refine ⟨_,fN hus4,?_⟩
   k_go
   have a1:=ok.a1
   have a2:=ok.a2
   have a4:=ok.a4
   have a6:=ok.a6
   have a7:=ok.a7
   have a8:=ok.a8
   refine bW (decide_eq_false (by lia)) ?_
   k_go
   rw [decide_eq_false (show ¬ c.kp > 300 by lia)]
   k_go
   refine ⟨c.pl,rfl,a1,a2,?_⟩
   k_go
   refine cx (xBd a7) ?_
   k_go
   rw [xBd (show c.sl≤600 by lia)]
   k_go
   rw [xBd hn]
   exact q _ st
  | cons c0 cs0 =>
   have hne:us≠[]:=fun z=>by rw [z] at lu;simp at lu
   have hie:(!us.isEmpty)=true:=by cases us with
    | nil=>exact (hne rfl).elim
    | cons _ _=>rfl
   rw [hie]
   k_go
   refine nz ?_
   k_go
   refine ⟨_,fN hus,?_⟩
   rw [hie]
   obtain ⟨cl,hcl⟩:∃ cl,(c0::cs0).getLast?=some cl:=⟨_,List.getLast?_eq_some_getLast (by simp)⟩
   have hcl':(c0::cs0)[us.length - 1]?=some cl:=by rw [lu,← List.getLast?_eq_getElem?];exact hcl
   obtain ⟨u,hu1,hu2⟩:=rus.mapGet hcl'
   obtain ⟨pc,rfl,hpc⟩:=fu hu2
   have hlt:=f2 cl hcl
   k_go
   refine dh hus (jG (n:=us.length - 1) (by rw [xAo] at lu;lia) hu1) ?_
   k_go
   rw [decide_eq_false (show ¬ c.en≤cl.en by lia)]
   k_go
   have a1:=ok.a1
   have a2:=ok.a2
   have a4:=ok.a4
   have a6:=ok.a6
   have a7:=ok.a7
   have a8:=ok.a8
   refine bW (decide_eq_false (by lia)) ?_
   k_go
   rw [decide_eq_false (show ¬ c.kp > 300 by lia)]
   k_go
   refine ⟨c.pl,rfl,a1,a2,?_⟩
   k_go
   refine cx (xBd a7) ?_
   k_go
   rw [xBd (show c.sl≤600 by lia)]
   k_go
   rw [xBd hn]
   exact q _ fun _ _ e=>e
end
section
variable {P:Program} {w:World} {K:xFr} {mg:Str→Option Value} {base:Heap} {C aF aO:Addr}
def Rise (cs:List Cd):Prop:=∀ (i:Nat) (c c':Cd),cs[i]?=some c→cs[i+1]?=some c'→c.en<c'.en
def spRc:Sp:=fun vs H Q _=>∃ (L:Addr) (cs:List Cd) (n:Int),vs=[.ref L,.int n]∧H L=some (.lst ((cs.map Cd.tx).map V.str))∧cs.length≤100∧(∀ c∈cs,CdOk c∧c.en<n)∧(∀ c,cs[0]?=some c→c.pl=0∧c.pa=0∧c.kp=0∧c.en=0)∧Rise cs∧∀ (l:Addr) (H':Hp),Same H H'→H l=none→LD H' l (cs.map Cd.d)→Q (.ref l) H'
def grc:Scope:={ kind:=.function,names:=[("lines",.local),("many",.local),("codes",.local),("number",.local),("line",.local),("words",.local),("code",.local),("enumerate",.globalImplicit),("len",.globalImplicit),("all",.globalImplicit),("NoRow",.globalImplicit),("tuple",.globalImplicit),("can_follow",.globalImplicit)],isGenerator:=false,isCoroutine:=false,more:=[("fast",.str "lines"),("fast",.str "many"),("fast",.str "codes"),("fast",.str "number"),("fast",.str "line"),("fast",.str "words"),("fast",.str "word"),("fast",.str "code")] }
theorem scrc:FnScope ["lines","many","codes","number","line","words","code"] ["lines","many"] grc:=⟨rfl,rfl,rfl,by decide +kernel,rfl,by decide +kernel,by decide +kernel⟩
theorem vI (F:Dn K mg "read_codes" bN ["lines","many"]) (T:Txt w K mg C aF aO) (c_is_figures:Cal P w K mg base "is_figures" 2 ["word"] spFg) (c_can_follow:Cal P w K mg base "can_follow" 3 ["code","codes","many"] spCf):Cal P w K mg base "read_codes" 4 ["lines","many"] spRc:=by
 refine F.ok scrc rfl (fun vs H Q E h=>?_) (fun f cdv A outer s H vs Q E hr h=>?_)
 ·obtain ⟨L,cs,n,rfl,_⟩:=h
  rfl
 ·obtain ⟨L,cs,n,rfl,hL,hl,ok,fst,rise,q⟩:=h
  refine' ⟨?tt,QSs.h ?hh,?gg⟩
  case hh=>exact (ac (aA (i:=2) scrc.nd rfl (Or.inl rfl) (bb ab))
   (ac (cN PassesOwn.never rfl (i9 rfl T.zenumerate (ad (qv 0) ab)) (ee rfl (aG (aj (i:=3) scrc.nd rfl (Or.inl rfl)) (aG (aj (i:=4) scrc.nd rfl (Or.inl rfl)) cY)))
    (ac (aA (i:=5) scrc.nd rfl (Or.inl rfl) (bw ic (bB PySem.F.plainAttrs_str PySem.F.slot_str_split PySem.F.type_str_split dJ (qv 4) (ad af ab)) (bI ag) cj))
   (ac (av (QW.pt (kI (ao f6 (aL bD rfl T.zlen bS (ad (qv 5) ab)) ag (nomark _)) (il (c7 (cA (aL (kb rfl) rfl T.zall pA (ad (bh (ls:=["word"]) (N:=[]) (fr:=[]) rfl (CapsG.mk' rfl (by decide +kernel) rfl (by decide +kernel) .nil (by decide +kernel) rfl) (dR (qv 5)) (fun C s H fp=>(aj (i:=0) (show (["word"]:List Str).Nodup by decide +kernel) rfl (Or.inl rfl))) (fun C s H fp=>aI) (fun C s H fp=>(ap c_is_figures hr rfl (ad (qv 0) ab)))) ab))))))) (ae dI) ak)
   (ac (aA (i:=6) scrc.nd rfl (Or.inl rfl) (aN aW rfl T.ztuple bj (ad (bh (ls:=["word"]) (N:=[]) (fr:=[]) rfl (CapsG.mk' rfl (by decide +kernel) rfl (by decide +kernel) .nil (by decide +kernel) rfl) (dR (qv 5)) (fun C s H fp=>(aj (i:=0) (show (["word"]:List Str).Nodup by decide +kernel) rfl (Or.inl rfl))) (fun C s H fp=>aI) (fun C s H fp=>(aN eQ rfl T.zint fv (ad (qv 0) ab)))) ab)))
   (ac (av (c7 (cA (ap c_can_follow hr rfl (ad (qv 6) (ad (qv 2) (ad (qv 1) ab)))))) (ae dI) ak)
   (ae (aR (bB PySem.F.plainAttrs_list PySem.F.slot_list_append PySem.F.type_list_append bf (qv 2) (ad (qv 6) ab)))))))))
   (ae (ai (qv 2)))))
  have e3:(" ":Str)=one 32:=by decide +kernel
  k_go
  refine aZ fun l H1 s1 n1 h1=>?_
  have hL1:=s1 _ _ hL
  k_go
  refine cQ (kh (xs:=(cs.map Cd.tx).map V.str)) (fun i σ H2=>∃ v3 v4 v5 v6:Option V,σ=[some (.ref L),some (.int n),some (.ref l),v3,v4,v5,v6]∧Same H H2∧LD H2 l ((cs.take i).map Cd.d)) ⟨_,_,_,_,rfl,s1,[],h1,rfl⟩ (by rintro i σ H2 _ ⟨_,_,_,_,_,s2,_⟩;exact .of (s2 _ _ hL)) ?_ ?_
  ·rintro i σ H2 y _ hi ⟨v3,v4,v5,v6,rfl,s2,hl2⟩ ⟨p3,v,rfl,n3,rfl,hv⟩
   rw [xAa,xAa] at hi
   obtain ⟨c,hci⟩:∃ c,cs[i]?=some c:=⟨_,xAk hi⟩
   have okc:=ok _ (xAc hci)
   rw [xAw,xAw,hci] at hv
   cases hv
   have s3:Same H2 (upd H2 p3 (.tup [.int i,.str c.tx])):=aw n3 _
   have h3:upd H2 p3 (.tup [.int i,.str c.tx]) p3=some (.tup [.int i,.str c.tx]):=ah
   generalize upd H2 p3 (.tup [.int i,.str c.tx])=H3 at s3 h3
   have cw:=jC okc.1
   have cline:=(lG okc.1).2
   generalize c.tx=zt at cw cline h3
   k_go
   refine bm ?_
   k_go
   refine eF (c:=32) e3 (by lia) fun l4 H4 s4 n4 h4=>?_
   rw [cw] at h4
   k_go
   refine nA h4 fun l5 H5 s5 n5 h5=>?_
   rw [xBs,eP] at h5
   k_go
   have sm:∀ m∈c.ns,0≤m∧m<1000:=okc.1.small
   rw [xAa,xAa,xBd (show ((c.ns.length:Nat):Int)=5 from rfl)]
   k_go
   refine cr (l:=c.ns) (cU (xs:=(c.ns.map tx).map V.str)) (by rw [xAa,xAa]) (fun H' s'=>.of (s' _ _ h5)) (fun _=>.bl true) (by rw [xAa,xAa];show 5<_;decide) ?_ ?_
   ·rintro B ys j m v H6 _ N1 N0 hm s6 hB ⟨rfl,hv⟩ k6
    rw [xAw,xAw,hm] at hv
    cases hv
    have:=sm m (xAc hm)
    k_go
    refine ⟨rfl,rfl,?_⟩
    k_go
    refine ⟨hB,?_⟩
    k_go
    exact ⟨tx m,rfl,(dC this.1 (by lia)).1,fun H7 s7=>⟨s7 _ _ hB,k6 _ _ s7 rfl⟩⟩
   ·intro B H6 s6 n6 h6
    have h6:LD H6 B ((c.ns.map fun _=>true).map D.bl):=by rw [xCc];exact h6
    k_go
    refine kH h6.bls ?_
    rw [eS fun _ _=>rfl]
    have h5':=s6 _ _ h5
    k_go
    refine cr (l:=c.ns) (cU (xs:=(c.ns.map tx).map V.str)) (by rw [xAa,xAa]) (fun H' s'=>.of (s' _ _ h5')) D.int (by rw [xAa,xAa];show 5<_;decide) ?_ ?_
    ·rintro B' ys j m v H7 _ N1 N0 hm s7 hB ⟨rfl,hv⟩ k7
     rw [xAw,xAw,hm] at hv
     cases hv
     have:=sm m (xAc hm)
     obtain ⟨fg,_,fi⟩:=dC this.1 (show m<10 ^ 12 by lia)
     k_go
     refine ⟨rfl,rfl,?_⟩
     k_go
     refine ⟨hB,?_⟩
     k_go
     exact eV fi (by have:=fg.few;lia) ⟨hB,k7 _ _ (fun _ _ e=>e) rfl⟩
    ·intro B' H7 s7 n7 h7
     have h7:=h7.ints
     k_go
     refine bu h7 fun p8 H8 s8 n8 h8=>?_
     have s28:Same H2 H8:=s3.trans (s4.trans (s5.trans (s6.trans (s7.trans s8))))
     have hl8:=hl2.mono s28
     k_go
     refine ⟨c,p8,l,cs.take i,n,rfl,h8,hl8,by rw [xAn];lia,okc.1,fun z=>?_,fun c' hc'=>?_,okc.2,fun H9 s9=>?_⟩
     ·have:i=0:=by
       have:=congrArg List.length z
       rw [xAn,Nat.min_eq_left (by lia)] at this
       exact this
      subst this
      exact fst _ hci
     ·cases i with
      | zero=>simp at hc'
      | succ i =>
       refine rise i c' _ ?_ hci
       rw [List.getLast?_eq_getElem?,xAn,Nat.min_eq_left (by lia),List.getElem?_take_of_lt (by lia)] at hc'
       simpa using hc'
     ·obtain ⟨vs,hl9,hvs9⟩:=hl8.mono s9
      k_go
      refine bv hl9 (lineM (by rw [hvs9.mapLen,xAn];lia)) ?_
      k_go
      refine ⟨_,_,_,_,rfl,(s2.trans (s28.trans s9)).upd_new n1,_,ah,?_⟩
      have t9:TLe H9 (upd H9 l (.lst (vs++[.ref p8]))):=.upd fun zs z=>by rw [hl9] at z;cases z
      rw [List.take_add_one,hci,xAi]
      exact (hvs9.snoc (d:=c.d) (show Rp H9 c.d (.ref p8) from ⟨p8,_,rfl,s9 _ _ h8,.ofInts _⟩)).le t9
  ·rintro σ H2 ⟨v3,v4,v5,v6,rfl,s2,hl2⟩
   rw [xAa,xAa,xAu] at hl2
   k_go
   exact q l H2 s2 n1 hl2
end
section
variable {P:Program} {w:World} {K:xFr} {mg:Str→Option Value} {base:Heap} {C aF aO:Addr}
theorem uO {tas:TA} {σ:St} {H:Hp} {R:It→Hp→Prop} (h:tas σ H fun vs H1=>∃ i j:Int,vs=[.int i,.int j]∧(-(2 ^ 62)≤i∧i<2 ^ 62∧-(2 ^ 62)≤j∧j<2 ^ 62)∧R (Itr i (j - i).toNat) H1):iRng2 tas σ H R:=h
theorem gA {x:Addr} {H H1 H2:Hp} (s:Same H H1) (k:Kept [x] H1 H2) (n:H x=none):Same H H2:=fun b u e=>k b u (s b u e) (by
 intro z
 rw [xAm.mp z,n] at e
 cases e)
def spRr (C:Addr):Sp:=fun vs H Q _=>∃ (p M L:Addr) (gr:Gr) (cs:List Cd) (ls:List Str),vs=[.ref p,.int (gr.1.en+gr.2.length),.ref M,.ref L]∧H p=some (.tup (gr.1.ns.map V.int))∧LD H M (cs.map Cd.d)∧H L=some (.lst (ls.map V.str))∧GrOk cs gr∧Bnd' gr.1 (gr.1.en+gr.2.length) cs.length ∧
 (∀ (j:Nat) (r:Rw),gr.2[j]?=some r→∃ z,ls[cs.length+(gr.1.en.toNat+j)]?=some z∧Txt.split z (one 32)=r.ws∧z.length≤1000)∧∀ (l:Addr) (H':Hp),Same H H'→H l=none→LD H' l (gr.2.map Rw.d)→Q (.ref l) H'
def grr:Scope:={ kind:=.function,names:=[("code",.local),("end",.local),("codes",.local),("lines",.local),("rows",.local),("number",.local),("at",.local),("row",.local),("range",.globalImplicit),("len",.globalImplicit),("RowReader",.globalImplicit),("NoRow",.globalImplicit)],isGenerator:=false,isCoroutine:=false,more:=[] }
theorem scrr:FnScope ["code","end","codes","lines","rows","number","at","row"] ["code","end","codes","lines"] grr:=⟨rfl,rfl,rfl,by decide +kernel,rfl,by decide +kernel,by decide +kernel⟩
theorem vC (F:Dn K mg "read_rows_of" bq ["code","end","codes","lines"]) (T:Txt w K mg C aF aO) (i_RowReader:Ini P w K mg base C "RowReader" 1 ["self","line","number","codes","own","end"] (spRI C)) (c_RowReader_read_row:Mal P w K mg base C "read_row" 7 ["self"] (spRw C)):Cal P w K mg base "read_rows_of" 8 ["code","end","codes","lines"] (spRr C):=by
 refine F.ok scrr rfl (fun vs H Q E h=>?_) (fun f cdv A outer s H vs Q E hr h=>?_)
 ·obtain ⟨p,M,L,gr,cs,ls,rfl,_⟩:=h
  rfl
 ·obtain ⟨p,M,L,gr,cs,ls,rfl,hp,hM,hL,ok,hb,hz,q⟩:=h
  refine' ⟨?tt,QSs.h ?hh,?gg⟩
  case hh=>exact (ac (aA (i:=4) scrr.nd rfl (Or.inl rfl) (bb ab))
   (ac (cN PassesOwn.never rfl (uY rfl T.zrange (ad (aB aQ (qv 0) ag) (ad (qv 1) ab))) (aj (i:=5) scrr.nd rfl (Or.inl rfl))
    (ac (aA (i:=6) scrr.nd rfl (Or.inl rfl) (aq bZ (aL bD rfl T.zlen bS (ad (qv 2) ab)) (qv 5)))
   (ac (aA (i:=7) scrr.nd rfl (Or.inl rfl) (qe (uZ i_RowReader hr rfl (ad (aB aV (qv 3) (qv 6)) (ad (qv 6) (ad (qv 2) (ad (qv 0) (ad (qv 1) ab)))))) c_RowReader_read_row hr))
   (ac (av (QW.pt (eW (ao aJ (qv 5) (aq eh (qv 1) ag) (nomark _)) (dQ (ao f6 (aB aQ (qv 7) ag) af (nomark _))))) (ae dI) ak)
   (ae (aR (bB PySem.F.plainAttrs_list PySem.F.slot_list_append PySem.F.type_list_append bf (qv 4) (ad (qv 7) ab))))))))
   (ae (ai (qv 4)))))
  have c9:=ok.c.a9
  have ca:=ok.c.aa
  have g8:=ok.m
  have g0:=ok.n
  have bc:=hb.c
  have hp':H p=some (.tup [.int gr.1.pl,.int gr.1.pa,.int gr.1.kp,.int gr.1.sl,.int gr.1.en]):=hp
  k_go
  refine aZ fun l H1 s1 n1 h1=>?_
  have hp1:=s1 _ _ hp'
  k_go
  refine uO ?_
  k_go
  refine ⟨_,_,rfl,by lia,?_⟩
  rw [show (gr.1.en+gr.2.length - gr.1.en).toNat=gr.2.length by lia]
  refine cQ bT (fun i σ H2=>∃ v5 v6 v7:Option V,σ=[some (.ref p),some (.int (gr.1.en+gr.2.length)),some (.ref M),some (.ref L),some (.ref l),v5,v6,v7]∧Same H H2∧LD H2 l ((gr.2.take i).map Rw.d)) ⟨_,_,_,rfl,s1,[],h1,rfl⟩ (fun _ _ _ _ _=>True.intro) ?_ ?_
  ·rintro i σ _ y H2 hi ⟨v5,v6,v7,rfl,s2,hl2⟩ ⟨rfl,rfl⟩
   obtain ⟨r,hri⟩:∃ r,gr.2[i]?=some r:=⟨_,xAk hi⟩
   have rok:=ok.r r (xAc hri)
   obtain ⟨z,hz1,hz2,hz3⟩:=hz i r hri
   have hM2:=hM.mono s2
   obtain ⟨us,hus,rus,lu⟩:=dA hM2
   rw [xAa] at lu
   have hL2:=s2 _ _ hL
   have hp2:=s2 _ _ hp
   k_go
   refine dh (v:=.str z) hL2 (by rw [show ((us.length:Nat):Int)+(gr.1.en+(i:Int))=((cs.length+(gr.1.en.toNat+i):Nat):Int) by lia];exact bJ (by rw [xAw,hz1];rfl)) ?_
   k_go
   intro x dx nx ndx nxd
   have s3:Same H2 (upd (upd H2 dx (.own x)) x (.ins C dx [])):=(aw ndx _).trans (aw (by rw [am (Ne.symm nxd)];exact nx) _)
   have h3:upd (upd H2 dx (.own x)) x (.ins C dx []) x=some (.ins C dx []):=ah
   generalize upd (upd H2 dx (.own x)) x (.ins C dx [])=H3 at s3 h3
   refine ⟨x,dx,M,p,z,_,_,cs,gr.1,rfl,h3,hz3,hM2.mono s3,by lia,s3 _ _ hp2,fun L4 H4 k4 n4 r4=>⟨rfl,?_⟩⟩
   have s4:Same H2 H4:=gA s3 k4 nx
   refine au r4.ob rfl ?_
   k_go
   refine ⟨x,_,r,rfl,r4,hz2,rok,hb,fun v H5 k5 hv=>?_⟩
   have s5:Same H2 H5:=gA s4 k5 nx
   obtain ⟨pr,vs,rfl,hpr,hvs⟩:=nv hv
   have hl5:=hl2.mono s5
   obtain ⟨ws,hl6,hws⟩:=hl5
   have fin:∀ σ':St,(∃ v5 v6 v7:Option V,σ'=[some (.ref p),some (.int (gr.1.en+gr.2.length)),some (.ref M),some (.ref L),some (.ref l),v5,v6,v7])→(∃ v5 v6 v7:Option V,σ'=[some (.ref p),some (.int (gr.1.en+gr.2.length)),some (.ref M),some (.ref L),some (.ref l),v5,v6,v7]∧Same H (upd H5 l (.lst (ws++[.ref pr])))∧LD (upd H5 l (.lst (ws++[.ref pr]))) l ((gr.2.take (i+1)).map Rw.d)):=by
    rintro σ' ⟨v5,v6,v7,rfl⟩
    have t6:TLe H5 (upd H5 l (.lst (ws++[.ref pr]))):=.upd fun zs z=>by rw [hl6] at z;cases z
    refine ⟨v5,v6,v7,rfl,(s2.trans s5).upd_new n1,_,ah,?_⟩
    rw [List.take_add_one,hri,xAi]
    exact (hws.snoc hv).le t6
   have hwl:=hws.mapLen
   rw [xAn] at hwl
   k_go
   refine dH (fun y=>?_) (fun y=>?_)
   ·have hi':i=gr.2.length - 1:=by have:=of_decide_eq_true y;lia
    have hbk:r.w="back":=ok.b r (by rw [← hi'];exact hri)
    rw [hbk] at hpr
    k_go
    refine gB hpr fw ?_
    k_go
    refine bv hl6 (lineM (by lia)) ?_
    k_go
    exact fin _ ⟨_,_,_,rfl⟩
   ·k_go
    refine bv hl6 (lineM (by lia)) ?_
    k_go
    exact fin _ ⟨_,_,_,rfl⟩
  ·rintro σ H2 ⟨v5,v6,v7,rfl,s2,hl2⟩
   rw [xAu] at hl2
   k_go
   exact q l H2 s2 n1 hl2
end
section
variable {P:Program} {w:World} {K:xFr} {mg:Str→Option Value} {base:Heap} {C aF aO:Addr}
theorem uo {xs ys:List V}:cutV (xs++ys) none (some ((xs.length:Nat):Int))=xs:=by
 unfold cutV
 rw [HT.sIx_nat,show HT.sIx (xs++ys).length 0 none=0 from rfl,List.drop_zero,Nat.sub_zero,Nat.min_eq_left (by simp)]
 exact List.take_left' rfl
def spRd:Sp:=fun vs H Q _=>∃ (gs:List Gr),vs=[.str (prT gs)]∧PrOk gs∧∀ (v:V) (H':Hp),Same H H'→Rp H' (prD gs) v→Q v H'
theorem _root_.Row.PrOk.txt {gs:List Gr} (h:PrOk gs):(prT gs).length≤60000∧Txt.split (prT gs) (one 10)=lns gs:=by
 obtain ⟨l1,l2,l3⟩:=h.lines
 constructor
 ·have:=bH (s:=one 10) (ts:=lns gs) (B:=611) fun t ht=>by have:=(l3 t ht).2;show _+1≤_;lia
  have:(lns gs).length * 611≤36 * 611:=Nat.mul_le_mul_right _ l1
  unfold prT
  lia
 ·exact cI (by intro z;rw [z] at l2;simp at l2) fun t ht=>(l3 t ht).1
def grd:Scope:={ kind:=.function,names:=[("text",.local),("signs",.local),("lines",.local),("many",.local),("codes",.local),("rows",.local),("code",.local),("end",.local),("isinstance",.globalImplicit),("str",.globalImplicit),("NoRow",.globalImplicit),("plain",.globalImplicit),("len",.globalImplicit),("MOST_SIGNS",.globalImplicit),("codes_ahead",.globalImplicit),("read_codes",.globalImplicit),("zip",.globalImplicit),("ends_of",.globalImplicit),("read_rows_of",.globalImplicit),("tuple",.globalImplicit)],isGenerator:=false,isCoroutine:=false,more:=[] }
theorem scrd:FnScope ["text","signs","lines","many","codes","rows","code","end"] ["text"] grd:=⟨rfl,rfl,rfl,by decide +kernel,rfl,by decide +kernel,by decide +kernel⟩
theorem vH (F:Dn K mg "read_rows" cg ["text"]) (T:Txt w K mg C aF aO) (c_plain:Cal P w K mg base "plain" 2 ["thing"] spPn) (c_codes_ahead:Cal P w K mg base "codes_ahead" 1 ["lines"] spCa) (c_read_codes:Cal P w K mg base "read_codes" 4 ["lines","many"] spRc) (c_ends_of:Cal P w K mg base "ends_of" 1 ["codes","many"] spEo) (c_read_rows_of:Cal P w K mg base "read_rows_of" 8 ["code","end","codes","lines"] (spRr C)):Cal P w K mg base "read_rows" 9 ["text"] spRd:=by
 refine F.ok scrd rfl (fun vs H Q E h=>?_) (fun f cdv A outer s H vs Q E hr h=>?_)
 ·obtain ⟨gs,rfl,_⟩:=h
  rfl
 ·obtain ⟨gs,rfl,hg,q⟩:=h
  have hu:=gf hr
  refine' ⟨?tt,QSs.h ?hh,?gg⟩
  case hh=>exact (ac (av (c7 (cA (aL ek rfl T.zisinstance cT (ad (qv 0) (ad (dv (v:=.ty "str") rfl T.zstr dE rfl) ab))))) (ae dI) ak)
   (ac (aA (i:=1) scrd.nd rfl (Or.inl rfl) (ap c_plain hr rfl (ad (qv 0) ab)))
   (ac (av (ao gE (aL e9 rfl T.zlen bS (ad (qv 1) ab)) (bX T.gMs) (nomark _)) (ae dI) ak)
   (ac (aA (i:=2) scrd.nd rfl (Or.inl rfl) (bB PySem.F.plainAttrs_str PySem.F.slot_str_split PySem.F.type_str_split dJ (qv 1) (ad af ab)))
   (ac (aA (i:=3) scrd.nd rfl (Or.inl rfl) (ap c_codes_ahead hr rfl (ad (qv 2) ab)))
   (ac (av (ao aJ (qv 3) ag (nomark _)) (ae dI) ak)
   (ac (aA (i:=4) scrd.nd rfl (Or.inl rfl) (ap c_read_codes hr rfl (ad (bw ic (qv 2) cj (bI (qv 3))) (ad (aq eh (aL bD rfl T.zlen bS (ad (qv 2) ab)) (qv 3)) ab))))
   (ac (aA (i:=5) scrd.nd rfl (Or.inl rfl) (bb ab))
   (ac (cN PassesOwn.never rfl (nJ rfl T.zzip (ad (qv 4) (ad (ap c_ends_of hr rfl (ad (qv 4) (ad (aq eh (aL bD rfl T.zlen bS (ad (qv 2) ab)) (qv 3)) ab))) ab))) (ee rfl (aG (aj (i:=6) scrd.nd rfl (Or.inl rfl)) (aG (aj (i:=7) scrd.nd rfl (Or.inl rfl)) cY)))
    (ae (aR (bB PySem.F.plainAttrs_list PySem.F.slot_list_extend PySem.F.type_list_extend gH (qv 5) (ad (ap c_read_rows_of hr rfl (ad (qv 6) (ad (qv 7) (ad (qv 4) (ad (qv 2) ab))))) ab)))))
   (ae (ai (dt (ad (aN aW rfl T.ztuple bj (ad (qv 4) ab)) (ad (aN aW rfl T.ztuple bj (ad (qv 5) ab)) ab))))))))))))))
  obtain ⟨l1,l2,l3⟩:=hg.lines
  obtain ⟨t1,t2⟩:=hg.txt
  have hm:=hg.m
  have hn:=hg.n
  have hrw:=hg.rows
  have e10:("\n":Str)=one 10:=by decide +kernel
  have lh:(heads gs).length=gs.length:=by unfold heads;rw [xAa]
  have hll:(lns gs).length=(heads gs).length+(rowsOf gs).length:=by unfold lns;rw [xAb,xAa,xAa]
  obtain ⟨g0,hg0⟩:∃ g,gs[0]?=some g:=⟨_,xAk hn⟩
  have gm0:=xAc hg0
  have hrp:0<(rowsOf gs).length:=by
   have:=iC hg.e g0 gm0
   have:=(hg.g g0 gm0).n
   have:=(hg.g g0 gm0).c.a9
   lia
  generalize prT gs=zt at t1 t2
  k_go
  refine eI T.kSS ?_
  k_go
  refine ⟨zt,rfl,by lia,fun H1 s1=>?_⟩
  k_go
  refine eG (by lia) ?_
  k_go
  refine bW (decide_eq_false (by lia)) ?_
  k_go
  refine bm ?_
  k_go
  refine eF (c:=10) e10 (by lia) fun L H2 s2 n2 h2=>?_
  rw [t2] at h2
  k_go
  refine ⟨L,lns gs,(heads gs).length,rfl,h2,by lia,by lia,fun t ht=>by have:=(l3 t ht).2;lia,fun i t ht hi=>?_,fun H3 s3=>?_⟩
  ·unfold lns at ht
   by_cases hi':i<(heads gs).length
   ·rw [List.getElem?_append_left (by rw [xAa];exact hi'),xAw] at ht
    obtain ⟨c,hc,rfl⟩:=xA3.mp ht
    obtain ⟨g,hgm,rfl⟩:=xA2.mp (xAc hc)
    exact ⟨_,_,jC (hg.g g hgm).c,fun _=>rfl,fun z=>by lia⟩
   ·rw [List.getElem?_append_right (by rw [xAa];lia),xAw] at ht
    obtain ⟨r,hr1,rfl⟩:=xA3.mp ht
    obtain ⟨c,e,rok,_,_⟩:=hg.row (xAc hr1)
    exact ⟨_,_,iV rok,fun z=>by lia,fun _=>(b0 rok.t).2.1⟩
  ·have h3:=s3 _ _ h2
   k_go
   refine bW (decide_eq_false (by lia)) ?_
   k_go
   refine nA h3 fun L4 H4 s4 n4 h4=>?_
   have ecut:cutV ((lns gs).map V.str) none (some (((heads gs).length:Nat):Int))=((heads gs).map Cd.tx).map V.str:=by
    unfold lns
    rw [xAi]
    have:=uo (xs:=((heads gs).map Cd.tx).map V.str) (ys:=((rowsOf gs).map Rw.tx).map V.str)
    rw [xAa,xAa] at this
    exact this
   rw [ecut] at h4
   have h34:=s4 _ _ h3
   k_go
   rw [xAa,hll,show (((heads gs).length+(rowsOf gs).length:Nat):Int) - ((heads gs).length:Int)=(((rowsOf gs).length:Nat):Int) by lia]
   refine ⟨L4,heads gs,_,rfl,h4,by lia,fun c hc=>?_,fun c hc=>?_,js hg.e fun g hgm=>(hg.g g hgm).n,fun M H5 s5 n5 hM=>?_⟩
   ·obtain ⟨g,hgm,rfl⟩:=xA2.mp hc
    have:=iC hg.e g hgm
    have:=(hg.g g hgm).n
    exact ⟨(hg.g g hgm).c,by lia⟩
   ·have e:g0.1=c:=by
     have:(heads gs)[0]?=some g0.1:=by unfold heads;rw [xAw,hg0];rfl
     rw [this] at hc
     cases hc
     rfl
    rw [← e]
    exact hg.f g0 hg0
   ·have hL5:=s5 _ _ h34
    k_go
    refine aZ fun l6 H6 s6 n6 h6=>?_
    have hL6:=s6 _ _ hL5
    k_go
    rw [xAa,hll,show (((heads gs).length+(rowsOf gs).length:Nat):Int) - ((heads gs).length:Int)=(((rowsOf gs).length:Nat):Int) by lia]
    refine ⟨M,heads gs,_,rfl,hM.mono s6,by lia,by lia,fun l7 H7 s7 n7 h7=>?_⟩
    obtain ⟨ms,hms,rms,lms⟩:=dA ((hM.mono s6).mono s7)
    rw [xAa] at lms
    have h67:=s7 _ _ h6
    have hL7:=s7 _ _ hL6
    have s07:Same H H7:=s1.trans (s2.trans (s3.trans (s4.trans (s5.trans (s6.trans s7)))))
    have n06:H l6=none:=s1.free (s2.free (s3.free (s4.free (s5.free n6))))
    have m6:M≠l6:=fun z=>by obtain ⟨vs,e,_⟩:=hM;rw [z,n6] at e;cases e
    have m7:l7≠l6:=fun z=>by rw [z,h6] at n7;cases n7
    have m8:L≠l6:=fun z=>by rw [z,n6] at hL5;cases hL5
    k_go
    refine kE hms h7 ?_
    refine cQ (mX (xs:=ms) (ys:=((heads gs).tail.map Cd.en++[(((rowsOf gs).length:Nat):Int)]).map V.int) (by rw [xAa,xAb,xAa,List.length_tail,xAt];lia)) (fun i σ H8=>∃ v6 v7:Option V,σ=[some (.str zt),some (.str zt),some (.ref L),some (.int (((heads gs).length:Nat):Int)),some (.ref M),some (.ref l6),v6,v7]∧(∀ b u,H7 b=some u→b≠l6→H8 b=some u)∧Same H H8∧TLe H7 H8∧LD H8 l6 ((rowsOf (gs.take i)).map Rw.d)) ⟨_,_,rfl,fun _ _ e _=>e,s07,.refl,_,h67,rfl⟩ ?_ ?_ ?_
    ·rintro i σ H8 _ ⟨_,_,_,k8,_⟩
     exact ⟨.of (k8 _ _ hms m6),.of (k8 _ _ h7 m7)⟩
    ·rintro i σ H8 y H9 hi ⟨v6,v7,rfl,k8,s8,t8,ws,hl8,hws⟩ ⟨p9,u,v,rfl,n9,rfl,hu,hv⟩
     have s9:Same H8 (upd H8 p9 (.tup [u,v])):=aw n9 _
     have h9:upd H8 p9 (.tup [u,v]) p9=some (.tup [u,v]):=ah
     generalize upd H8 p9 (.tup [u,v])=H9 at s9 h9
     obtain ⟨gi,hgi⟩:∃ g,gs[i]?=some g:=⟨_,xAk (by lia)⟩
     have gmi:=xAc hgi
     obtain ⟨c,hc,hrc⟩:=rms.mapGet' hu
     have ec:gi.1=c:=by
      have:(heads gs)[i]?=some gi.1:=by unfold heads;rw [xAw,hgi];rfl
      rw [this] at hc
      cases hc
      rfl
     subst ec
     have he:=jt hg.e i gi hgi
     rw [Nat.zero_add] at he
     rw [xAw,he] at hv
     cases hv
     obtain ⟨pc,rfl,hpc⟩:=fu (hrc.le t8)
     have hpc9:=s9 _ _ hpc
     have hl9:=s9 _ _ hl8
     have hM9:LD H9 M ((heads gs).map Cd.d):=⟨ms,s9 _ _ (k8 _ _ hms m6),(rms.le t8).mono s9⟩
     have hL9:=s9 _ _ (k8 _ _ hL7 m8)
     k_go
     refine ⟨pc,M,L,gi,heads gs,lns gs,rfl,hpc9,hM9,hL9,hg.g gi gmi,hg.bnd gmi,fun j r hj=>?_,fun l10 H10 s10 n10 h10=>?_⟩
     ·obtain ⟨m,e1,e2⟩:=jr hg.e hgi hj
      have rok:=(hg.g gi gmi).r r (xAc hj)
      have rl:=kt rok (hg.g gi gmi).c (hg.bnd gmi).e (hg.bnd gmi).c
      refine ⟨r.tx,?_,iV rok,by lia⟩
      unfold lns
      rw [List.getElem?_append_right (by rw [xAa];lia),xAa,xAw,show (heads gs).length+(gi.1.en.toNat+j) - (heads gs).length=m+j by lia,e2]
      rfl
     ·obtain ⟨vs,h10,hvs⟩:=h10
      have hl10:=s10 _ _ hl9
      have lv:=hvs.mapLen
      have lw:=hws.mapLen
      have lg8:=(hg.g gi gmi).m
      have lwr:(rowsOf (gs.take i)).length≤32:=by
       have:(rowsOf gs).length=(rowsOf (gs.take i)).length+(rowsOf (gs.drop i)).length:=by
        conv=>lhs;rw [← xBx i gs]
        unfold rowsOf
        rw [List.flatMap_append,xAb]
       lia
      k_go
      refine iZ hl10 h10 (lineMe (by lia)) ?_
      have t11:TLe H10 (upd H10 l6 (.lst (ws++vs))):=.upd fun zs z=>by rw [hl10] at z;cases z
      k_go
      refine ⟨_,_,rfl,fun b w e hb=>by rw [am hb];exact s10 _ _ (s9 _ _ (k8 b w e hb)),(s8.trans (s9.trans s10)).upd_new n06,t8.trans ((TLe.of (s9.trans s10)).trans t11),_,ah,?_⟩
      have er:rowsOf (gs.take (i+1))=rowsOf (gs.take i)++gi.2:=by
       unfold rowsOf
       rw [List.take_add_one,hgi,List.flatMap_append]
       simp
      rw [er,xAi]
      exact ((hws.mono (s9.trans s10)).app hvs).le t11
    ·rintro σ H8 ⟨v6,v7,rfl,k8,s8,t8,ws,hl8,hws⟩
     rw [show ms.length=gs.length by lia,xAu] at hws
     have hM8:=k8 _ _ hms m6
     k_go
     refine bu hM8 fun p9 H9 s9 n9 h9=>?_
     have hl9:=s9 _ _ hl8
     k_go
     refine bu hl9 fun p10 H10 s10 n10 h10=>?_
     k_go
     refine cM fun p11 H11 s11 n11 h11=>?_
     k_go
     refine q (.ref p11) H11 (s8.trans (s9.trans (s10.trans s11))) ⟨p11,_,rfl,h11,_,_,rfl,⟨p9,ms,rfl,s11 _ _ (s10 _ _ h9),(rms.le t8).mono (s9.trans (s10.trans s11))⟩,_,_,rfl,⟨p10,ws,rfl,s11 _ _ h10,hws.mono (s9.trans (s10.trans s11))⟩,rfl⟩
end
section
variable {P:Program} {w:World} {K:xFr} {mg:Str→Option Value} {base:Heap} {C aF aO:Addr}
def spCl (K:xFr):Sp:=fun vs H Q _=>∃ (a:Addr) (ns:List Int) (k:Int),vs=[.ref a,.int k]∧0≤k∧k≤10∧SqL K H a (ns.map V.int)∧∀ x:Int,Q (.int x) H
def gcl:Scope:={ kind:=.function,names:=[("_law_script",.local),("_law_k",.local),("len",.globalImplicit)],isGenerator:=false,isCoroutine:=false,more:=[] }
theorem sccl:FnScope ["_law_script","_law_k"] ["_law_script","_law_k"] gcl:=⟨rfl,rfl,rfl,by decide +kernel,rfl,by decide +kernel,by decide +kernel⟩
theorem wc (F:Dn K mg "_law_cell" sLcell ["_law_script","_law_k"]) (T:Txt w K mg C aF aO):Cal P w K mg base "_law_cell" 1 ["_law_script","_law_k"] (spCl K):=by
 refine F.ok sccl rfl (fun vs H Q E h=>?_) (fun f cdv A outer s H vs Q E hr h=>?_)
 ·obtain ⟨a,ns,k,rfl,_⟩:=h
  rfl
 ·obtain ⟨a,ns,k,rfl,h0,h1,hS,q⟩:=h
  have hu0:=hr.units0
  refine' ⟨?tt,QSs.h ?hh,?gg⟩
  case hh=>exact (ac (av (ao f7 (qv 1) (aL bD rfl T.zlen bS (ad (qv 0) ab)) (nomark _)) (ae (ai (aB aV (qv 0) (qv 1)))) ak)
   (ac (av (dY (sZ hu0 (qv 0))) (ae (ai (aq dy (aq dw (qv 1) ag) ag))) ak)
   (ae (ai (aq bZ (aq dy (aq dw (aB aV (qv 0) (aq dy (qv 1) (aL bD rfl T.zlen bS (ad (qv 0) ab)))) ag) ag) (aq dw ag (qv 1)))))))
  k_go
  refine kD hS ?_
  k_go
  refine dH (fun z=>?_) (fun z=>?_)
  ·obtain ⟨v,ev,eg⟩:=pC (xs:=ns.map V.int) h0 (of_decide_eq_true z)
   rw [xAw] at eg
   obtain ⟨c,_,rfl⟩:=xA3.mp eg
   k_go
   exact ⟨a,_,_,_,rfl,rfl,hS,ev,q c⟩
  ·k_go
   refine ⟨a,_,rfl,hS,?_⟩
   cases ns with
   | nil =>
    k_go
    refine r_I (.inr ⟨by decide,by decide⟩) ?_
    k_go
    refine r_I (by decide) ?_
    exact q _
   | cons n0 ns =>
    k_go
    refine bW rfl ?_
    k_go
    refine kD hS ?_
    k_go
    refine r_I (by rw [xAa,xAo];lia) ?_
    have h3:0<(((n0::ns).map V.int).length:Int):=by rw [xAa,xAo];lia
    obtain ⟨v,ev,eg⟩:=pC (xs:=(n0::ns).map V.int) (i:=k % (((n0::ns).map V.int).length:Int)) (Int.emod_nonneg _ (by lia)) (Int.emod_lt_of_pos _ h3)
    rw [xAw] at eg
    obtain ⟨c,_,rfl⟩:=xA3.mp eg
    k_go
    refine ⟨a,_,_,_,rfl,rfl,hS,ev,?_⟩
    k_go
    refine r_I (.inr ⟨by decide,by decide⟩) ?_
    k_go
    refine r_I (by decide) ?_
    k_go
    refine r_I (.inr ⟨by lia,by lia⟩) ?_
    k_go
    exact q _
end
section
variable {P:Program} {w:World} {K:xFr} {mg:Str→Option Value} {base:Heap} {C aF aO:Addr}
def Dg (H:Hp) (a:Addr):Prop:=∃ n s,H a=some (.dK (digK n s []))∧DigN n s
theorem Dg.noT {H:Hp} {a:Addr} (d:Dg H a):NoT [a] H:=fun b hb xs z=>by
 obtain ⟨n,s,e,_⟩:=d
 rw [xAm.mp hb,e] at z
 cases z
theorem Dg.same {H H':Hp} {a:Addr} (d:Dg H a) (s:Same H H'):Dg H' a:=let ⟨n,k,e,r⟩:=d;⟨n,k,s _ _ e,r⟩
theorem Dg.free {H H':Hp} {a b:Addr} (k:Kept [a] H H') (d:Dg H' a) (n:H' b=none):H b=none:=by
 obtain ⟨_,_,e,_⟩:=d
 exact dj k e n
theorem Dg.up {H:Hp} {a b:Addr} {u:HO} (d:Dg H a) (h:b≠a):Dg (upd H b u) a:=let ⟨n,k,e,r⟩:=d;⟨n,k,by rw [am h.symm];exact e,r⟩
def spSta:Sp:=fun vs H Q _=>∃ (c sd:Int),vs=[.int c,.int sd]∧∀ (a:Addr) (H':Hp),Same H H'→H a=none→Dg H' a→Q (.ref a) H'
theorem ub {n s:Int}:mergeK [] [(.inr "number",.int n),(.inr "seed",.int s)]=digK n s []:=by kernel_rfl
def gsta:Scope:={ kind:=.function,names:=[("_law_cell_here",.local),("_law_seed",.local),("max",.globalImplicit)],isGenerator:=false,isCoroutine:=false,more:=[] }
theorem scsta:FnScope ["_law_cell_here","_law_seed"] ["_law_cell_here","_law_seed"] gsta:=⟨rfl,rfl,rfl,by decide +kernel,rfl,by decide +kernel,by decide +kernel⟩
theorem tW (F:Dn K mg "_law_state" sLstate ["_law_cell_here","_law_seed"]) (T:Txt w K mg C aF aO):Cal P w K mg base "_law_state" 1 ["_law_cell_here","_law_seed"] spSta:=by
 refine F.ok scsta rfl (fun vs H Q E h=>?_) (fun f cdv A outer s H vs Q E hr h=>?_)
 ·obtain ⟨c,sd,rfl,_⟩:=h
  rfl
 ·obtain ⟨c,sd,rfl,q⟩:=h
  refine' ⟨?tt,QSs.h ?hh,?gg⟩
  case hh=>exact (ae (ai (fD (aE af (aL (rB rfl) rfl T.zmax wx (ad (qv 0) (ad (aq eh (kM gW ag) (qv 0)) ab))) (aE af (aq dy (qv 1) ag) fC)) rfl rfl (fun z=>nomatch z) (by decide))))
  k_go
  refine ij fun d H1 t1 m1 h1=>?_
  k_go
  have n0:0≤(if -1 - c > c then -1 - c else c):=by split <;> lia
  generalize (if -1 - c > c then -1 - c else c)=num at n0 ⊢
  refine r_I (by decide) ?_
  k_go
  refine fB [(.inr "number",.int num),(.inr "seed",.int (sd % 2147483646))] h1 rfl (by simp) ?_
  rw [ub]
  exact q d _ (t1.upd_new m1) m1 ⟨_,_,ah,n0,Int.emod_nonneg _ (by decide),by have:=Int.emod_lt_of_pos sd (show (0:Int)<2147483646 by decide);lia⟩
end
section
variable {P:Program} {w:World} {K:xFr} {mg:Str→Option Value} {base:Heap} {C aF aO:Addr}
abbrev sTake:Stmt:=top 40
def spTake:Sp:=fun vs H Q _=>∃ (a:Addr) (n s:Int) (r:List (Key×V)) (m:Int),vs=[.ref a,.int m]∧H a=some (.dK (digK n s r))∧DigR r∧DigN n s∧0<m∧m≤10 ^ 18 ∧
 ∀ n' s' d,DigN n' s'→0≤d→d<m→Q (.int d) (upd H a (.dK (digK n' s' r)))
def gtake:Scope:={ kind:=.function,names:=[("_law_state_here",.local),("_law_many",.local),("_law_digit",.local)],isGenerator:=false,isCoroutine:=false,more:=[] }
theorem sctake:FnScope ["_law_state_here","_law_many","_law_digit"] ["_law_state_here","_law_many"] gtake:=⟨rfl,rfl,rfl,by decide +kernel,rfl,by decide +kernel,by decide +kernel⟩
theorem qW (F:Dn K mg "_law_take" sTake ["_law_state_here","_law_many"]) (T:Txt w K mg C aF aO):Cal P w K mg base "_law_take" 1 ["_law_state_here","_law_many"] spTake:=by
 refine F.ok sctake rfl (fun vs H Q E h=>?_) (fun f cdv A outer s H vs Q E hr h=>?_)
 ·obtain ⟨a,n,s,r,m,rfl,_⟩:=h
  rfl
 ·obtain ⟨a,n,sd,r,m,rfl,ha,dr,dn,m0,m1,q⟩:=h
  have hu:=gf hr
  refine' ⟨?tt,QSs.h ?hh,?gg⟩
  case hh=>exact (ac (av (QW.pt (eW (ao aJ (cD hu (qv 0) af) ag (nomark _)) (dQ (ao gE (cD hu (qv 0) af) ag (nomark _))))) (ac (im hu (qv 0) af (aq dy (aq dw (cD hu (qv 0) af) ag) ag))
   (ae (im hu (qv 0) af (aq dy (aq dw (cD hu (qv 0) af) (cD hu (qv 0) af)) ag)))) ak)
   (ac (aA (i:=2) sctake.nd rfl (Or.inl rfl) (aq dy (cD hu (qv 0) af) (qv 1)))
   (ac (im hu (qv 0) af (aq oy (cD hu (qv 0) af) (qv 1)))
   (ae (ai (qv 2))))))
  have few:(digK n sd r).length≤1000:=by have:=dr.few;simp only [digK,xAo];lia
  have fin:∀ (n s:Int) (σ:St) (H2:Hp),DigN n s→H2=upd H a (.dK (digK n s r))→σ=[some (.ref a),some (.int m),none]→tSeq (tAsg (tOp (rI (fun _ j=>0<j) fun i j=>.int (i % j)) (tDGet (tVar 0) (tC (.str "number"))) (tVar 1)) (gName 2)) (tSeq (sDPut (tVar 0) (tC (.str "number")) (tOp (rI CDivP fun i j=>.int (i / j)) (tDGet (tVar 0) (tC (.str "number"))) (tVar 1))) (tRet (tVar 2))) { nx:=fun _ H'=>Q .non H',rt:=Q } σ H2:=by
   rintro n s σ _ dn rfl rfl
   have hb:upd H a (.dK (digK n s r)) a=some (.dK (digK n s r)):=ah
   have few:(digK n s r).length≤1000:=by have:=dr.few;simp only [digK,xAo];lia
   k_go
   refine r_I m0 ?_
   k_go
   refine r_I ⟨m0,m1⟩ ?_
   k_go
   refine ii hb few ?_
   rw [fZ dr,kj]
   k_go
   exact q _ _ _ ⟨Int.ediv_nonneg dn.n0 (by lia),dn.s0,dn.s1⟩ (Int.emod_nonneg _ (by lia)) (Int.emod_lt_of_pos _ m0)
  have upd0:H=upd H a (.dK (digK n sd r)):=by
   funext b
   by_cases e:b=a
   ·rw [e,ah,ha]
   ·rw [am e]
  k_go
  refine dH (fun z=>?_) (fun z=>?_)
  ·k_go
   refine dH (fun z=>?_) (fun z=>?_)
   ·k_go
    refine r_I (.inr ⟨by decide,by decide⟩) ?_
    k_go
    refine r_I (by decide) ?_
    k_go
    refine ii ha few ?_
    rw [nQ dr]
    generalize hs2:sd * 48271 % 2147483647=s2
    have d2:0≤s2:=by rw [← hs2];exact Int.emod_nonneg _ (by decide)
    have d3:s2<2147483647:=by rw [← hs2];exact Int.emod_lt_of_pos _ (by decide)
    have hb:upd H a (.dK (digK n s2 r)) a=some (.dK (digK n s2 r)):=ah
    k_go
    refine r_I (.inr ⟨by lia,by lia⟩) ?_
    k_go
    refine r_I (by decide) ?_
    k_go
    refine ii hb (by have:=dr.few;simp only [digK,xAo];lia) ?_
    rw [fZ dr,kj]
    exact fin _ _ _ _ ⟨Int.emod_nonneg _ (by decide),d2,d3⟩ rfl rfl
   ·exact fin n sd _ _ dn upd0 rfl
  ·refine bW rfl ?_
   exact fin n sd _ _ dn upd0 rfl
end
section
variable {P:Program} {w:World} {K:xFr} {mg:Str→Option Value} {base:Heap} {C aF aO:Addr}
theorem tk {H:Hp} {a:Addr} {m:Int} {Q:VK} {E:XK} (d:Dg H a) (m0:0<m) (m1:m≤10 ^ 18) (h:∀ (i:Int) (H':Hp),0≤i→i<m→Kept [a] H H'→Dg H' a→Q (.int i) H'):spTake [.ref a,.int m] H Q E:=by
 obtain ⟨n,s,e,r⟩:=d
 exact ⟨a,n,s,[],m,rfl,e,⟨(fun kv z=>nomatch z),by decide⟩,r,m0,m1,fun n' s' i r' i0 i1=>h i _ i0 i1 (.put (by simp)) ⟨n',s',ah,r'⟩⟩
def spLw:Sp:=fun vs H Q _=>∃ a:Addr,vs=[.ref a]∧Dg H a∧∀ (z:Str) (H':Hp),Kept [a] H H'→Dg H' a→Wd z→Q (.str z) H'
theorem ud:∀ i:Nat,i<26→∃ c,(tl ("abcdefghijklmnopqrstuvwxyz":Str))[i]?=some c∧97≤c∧c≤122:=by
 have h:∀ i:Nat,i<26→(tl ("abcdefghijklmnopqrstuvwxyz":Str))[i]?=some (97+i):=by decide +kernel
 intro i hi
 exact ⟨_,h i hi,by lia,by lia⟩
def glw:Scope:={ kind:=.function,names:=[("_law_state_here",.local),("_law_word_here",.local),("_law_k",.local),("range",.globalImplicit),("_law_take",.globalImplicit)],isGenerator:=false,isCoroutine:=false,more:=[] }
theorem sclw:FnScope ["_law_state_here","_law_word_here","_law_k"] ["_law_state_here"] glw:=⟨rfl,rfl,rfl,by decide +kernel,rfl,by decide +kernel,by decide +kernel⟩
theorem vT (F:Dn K mg "_law_word" sLword ["_law_state_here"]) (T:Txt w K mg C aF aO) (c__law_take:Cal P w K mg base "_law_take" 1 ["_law_state_here","_law_many"] spTake):Cal P w K mg base "_law_word" 2 ["_law_state_here"] spLw:=by
 refine F.ok sclw rfl (fun vs H Q E h=>?_) (fun f cdv A outer s H vs Q E hr h=>?_)
 ·obtain ⟨a,rfl,_⟩:=h
  rfl
 ·obtain ⟨a,rfl,hd,q⟩:=h
  refine' ⟨?tt,QSs.h ?hh,?gg⟩
  case hh=>exact (ac (aA (i:=1) sclw.nd rfl (Or.inl rfl) af)
   (ac (cN PassesOwn.never rfl (fW rfl T.zrange (ad (aq bZ ag (ap c__law_take hr rfl (ad (qv 0) (ad ag ab)))) ab)) (aj (i:=2) sclw.nd rfl (Or.inl rfl))
    (ae (aA (i:=1) sclw.nd rfl (Or.inl rfl) (aq ck (qv 1) (aB (r:=rIxS) oP af (ap c__law_take hr rfl (ad (qv 0) (ad ag ab))))))))
   (ae (ai (qv 1)))))
  k_go
  refine tk hd (by decide) (by decide) fun i H1 i0 i1 k1 d1=>?_
  k_go
  refine cX (by lia) (by lia) ?_
  refine cQ bT (fun j σ H2=>∃ (z:Str) (v2:Option V),σ=[some (.ref a),some (.str z),v2]∧Kept [a] H H2∧Dg H2 a∧z.length=j∧∀ c∈tl z,97≤c∧c≤122) ⟨_,_,rfl,k1,d1,by decide +kernel,by decide +kernel⟩ (fun _ _ _ _ _=>True.intro) ?_ ?_
  ·rintro j σ _ y H2 hj ⟨z,v2,rfl,k2,d2,hz,hc⟩ ⟨rfl,rfl⟩
   k_go
   refine tk d2 (by decide) (by decide) fun x H3 x0 x1 k3 d3=>?_
   obtain ⟨c,hc1,hc2,hc3⟩:=ud x.toNat (by lia)
   k_go
   refine nG (by decide +kernel) (c:=c) (by rw [show x=((x.toNat:Nat):Int) by lia];exact bJ hc1) ?_
   refine bC (by rw [hz];show j+1≤_;lia) ?_
   k_go
   refine ⟨_,_,rfl,k2.trans k3,d3,by rw [strLen_append,hz];rfl,fun c' hc'=>?_⟩
   rw [aD] at hc'
   rcases xAj.mp hc' with h | h
   ·exact hc c' h
   ·have:c'=c:=by simpa using h
    lia
  ·rintro σ H2 ⟨z,v2,rfl,k2,d2,hz,hc⟩
   k_go
   exact q z H2 k2 d2 ⟨by lia,by lia,hc⟩
end
section
variable {P:Program} {w:World} {K:xFr} {mg:Str→Option Value} {base:Heap} {C aF aO:Addr}
def chs (ss:List Srt):Str:=⟨(ss.map Srt.ch).toArray⟩
def shK:List (Key×V):=tab.map fun p=>(.inr p.1,.str (chs p.2))
def spSh:Sp:=fun vs H Q _=>vs=[]∧∀ (a:Addr) (H':Hp),Same H H'→H a=none→H' a=some (.dK shK)→Q (.ref a) H'
def sh1:List (Key×V):=[(.inr "move",.str "so"),(.inr "math",.str "smoop"),(.inr "tell",.str "sop"),(.inr "ask",.str "sp"),(.inr "load",.str "ss"),(.inr "store",.str "ssop"),(.inr "make",.str "swOpL")]
def sh2:List (Key×V):=[(.inr "close",.str "scOpL"),(.inr "box",.str "sopL"),(.inr "call",.str "soOpL"),(.inr "last",.str "oOp"),(.inr "back",.str "o"),(.inr "test",.str "orp")]
def sh3:List (Key×V):=[(.inr "match",.str "owSrp"),(.inr "jump",.str "r"),(.inr "guard",.str "wsr"),(.inr "unguard",.str ""),(.inr "raise",.str "wop")]
theorem mk1:mergeK [] sh1=sh1:=by kernel_rfl
theorem mk2:mergeK [] sh2=sh2:=by kernel_rfl
theorem mk3:mergeK [] sh3=sh3:=by kernel_rfl
theorem mk4:mergK (mergK sh1 sh2) sh3=shK:=by kernel_rfl
def gsh:Scope:={ kind:=.function,names:=[("_law_found",.local)],isGenerator:=false,isCoroutine:=false,more:=[] }
theorem scsh:FnScope ["_law_found"] [] gsh:=⟨rfl,rfl,rfl,by decide +kernel,rfl,by decide +kernel,by decide +kernel⟩
theorem vy (F:Dn K mg "_law_shapes" sLshapes []) (T:Txt w K mg C aF aO):Cal P w K mg base "_law_shapes" 1 [] spSh:=by
 refine F.ok scsh rfl (fun vs H Q E h=>?_) (fun f cdv A outer s H vs Q E hr h=>?_)
 ·obtain ⟨rfl,_⟩:=h
  rfl
 ·obtain ⟨rfl,q⟩:=h
  refine' ⟨?tt,QSs.h ?hh,?gg⟩
  case hh=>exact (ac (aA (i:=0) scsh.nd rfl (Or.inl rfl) (fD (aE af af (aE af af (aE af af (aE af af (aE af af (aE af af (aE af af fC))))))) rfl rfl (fun z=>nomatch z) (by decide)))
   (ac (aR (bB PySem.F.plainAttrs_dict PySem.F.slot_dict_update PySem.F.type_dict_update gG (qv 0) (ad (fD (aE af af (aE af af (aE af af (aE af af (aE af af (aE af af fC)))))) rfl rfl (fun z=>nomatch z) (by decide)) ab)))
   (ac (aR (bB PySem.F.plainAttrs_dict PySem.F.slot_dict_update PySem.F.type_dict_update gG (qv 0) (ad (fD (aE af af (aE af af (aE af af (aE af af (aE af af fC))))) rfl rfl (fun z=>nomatch z) (by decide)) ab)))
   (ae (ai (qv 0))))))
  k_go
  refine ij fun d H1 s1 n1 h1=>?_
  k_go
  refine fB sh1 h1 rfl (by decide) ?_
  rw [mk1]
  have s2:Same H (upd H1 d (.dK sh1)):=s1.upd_new n1
  have h2:upd H1 d (.dK sh1) d=some (.dK sh1):=ah
  generalize upd H1 d (.dK sh1)=H2 at s2 h2
  k_go
  refine rM h2 ?_
  k_go
  refine ij fun d3 H3 s3 n3 h3=>?_
  k_go
  refine fB sh2 h3 rfl (by decide) ?_
  rw [mk2]
  have s4:Same H2 (upd H3 d3 (.dK sh2)):=s3.upd_new n3
  have h4:upd H3 d3 (.dK sh2) d3=some (.dK sh2):=ah
  generalize upd H3 d3 (.dK sh2)=H4 at s4 h4
  have e34:d≠d3:=fun z=>by rw [z,n3] at h2;cases h2
  k_go
  refine rL e34 (s4 _ _ h2) h4 (by decide) ?_
  have s5:Same H (upd H4 d (.dK (mergK sh1 sh2))):=(s2.trans s4).upd_new n1
  have h5:upd H4 d (.dK (mergK sh1 sh2)) d=some (.dK (mergK sh1 sh2)):=ah
  generalize upd H4 d (.dK (mergK sh1 sh2))=H5 at s5 h5
  k_go
  refine rM h5 ?_
  k_go
  refine ij fun d6 H6 s6 n6 h6=>?_
  k_go
  refine fB sh3 h6 rfl (by decide) ?_
  rw [mk3]
  have s7:Same H5 (upd H6 d6 (.dK sh3)):=s6.upd_new n6
  have h7:upd H6 d6 (.dK sh3) d6=some (.dK sh3):=ah
  generalize upd H6 d6 (.dK sh3)=H7 at s7 h7
  have e67:d≠d6:=fun z=>by rw [z,n6] at h5;cases h5
  k_go
  refine rL e67 (s7 _ _ h5) h7 (by decide) ?_
  rw [mk4]
  k_go
  exact q d _ ((s5.trans s7).upd_new n1) n1 ah
end
section
variable {P:Program} {w:World} {K:xFr} {mg:Str→Option Value} {base:Heap} {C aF aO:Addr}
def spOp:Sp:=fun vs H Q _=>∃ (a:Addr) (sl:Int),vs=[.ref a,.int sl]∧Dg H a∧0≤sl∧sl≤21∧∀ (v:V) (b:Bool×Int) (H':Hp),Kept [a] H H'→Dg H' a→Rp H' (opD b) v→OkO sl b→Q v H'
def gop:Scope:={ kind:=.function,names:=[("_law_state_here",.local),("_law_slots",.local),("_law_take",.globalImplicit)],isGenerator:=false,isCoroutine:=false,more:=[] }
theorem scop:FnScope ["_law_state_here","_law_slots"] ["_law_state_here","_law_slots"] gop:=⟨rfl,rfl,rfl,by decide +kernel,rfl,by decide +kernel,by decide +kernel⟩
theorem vO (F:Dn K mg "_law_operand" sLoperand ["_law_state_here","_law_slots"]) (T:Txt w K mg C aF aO) (c__law_take:Cal P w K mg base "_law_take" 1 ["_law_state_here","_law_many"] spTake):Cal P w K mg base "_law_operand" 2 ["_law_state_here","_law_slots"] spOp:=by
 refine F.ok scop rfl (fun vs H Q E h=>?_) (fun f cdv A outer s H vs Q E hr h=>?_)
 ·obtain ⟨a,sl,rfl,_⟩:=h
  rfl
 ·obtain ⟨a,sl,rfl,hd,h0,h1,q⟩:=h
  refine' ⟨?tt,QSs.h ?hh,?gg⟩
  case hh=>exact (ac (av (QW.pt (eW (ao gE (qv 1) ag (nomark _)) (dQ (ao gE (ap c__law_take hr rfl (ad (qv 0) (ad ag ab))) ag (nomark _))))) (ae (ai (dt (ad af (ad (ap c__law_take hr rfl (ad (qv 0) (ad (qv 1) ab))) ab))))) ak)
   (ac (av (ao aJ (ap c__law_take hr rfl (ad (qv 0) (ad ag ab))) ag (nomark _)) (ae (ai (dt (ad af (ad (aq dw (ap c__law_take hr rfl (ad (qv 0) (ad (aq tV ag ag) ab))) (aq eh ag (aq dw ag (ap c__law_take hr rfl (ad (qv 0) (ad ag ab)))))) ab))))) ak)
   (ae (ai (dt (ad af (ad (ap c__law_take hr rfl (ad (qv 0) (ad ag ab))) ab)))))))
  k_go
  refine dH (fun y=>?_) (fun y=>?_)
  ·have y:=of_decide_eq_true y
   k_go
   refine tk hd (by decide) (by decide) fun i1 H1 i10 i11 k1 d1=>?_
   k_go
   refine dH (fun y1=>?_) (fun y1=>?_)
   ·k_go
    refine tk d1 (by lia) (by lia) fun i2 H2 i20 i21 k2 d2=>?_
    k_go
    refine cM fun p H3 s3 n3 h3=>?_
    exact q _ (true,i2) H3 (k1.trans (k2.trans (.of s3))) (d2.same s3) (ei (o:=(true,i2)) h3) ⟨i20,i21⟩
   ·k_go
    refine tk d1 (by decide) (by decide) fun i4 H4 i40 i41 k4 d4=>?_
    k_go
    refine dH (fun y4=>?_) (fun y4=>?_)
    ·k_go
     refine r_I ⟨by decide,by decide,by decide⟩ ?_
     rw [show (10:Int) ^ (12:Int).toNat=10 ^ 12 from rfl]
     k_go
     refine tk d4 (by decide) (by decide) fun i5 H5 i50 i51 k5 d5=>?_
     k_go
     refine tk d5 (by decide) (by decide) fun i6 H6 i60 i61 k6 d6=>?_
     k_go
     refine r_I (.inl ⟨by decide,by decide⟩) ?_
     k_go
     refine r_I (.inr ⟨by lia,by lia⟩) ?_
     k_go
     refine cM fun p H7 s7 n7 h7=>?_
     refine q _ (false,i5 * (1 - 2 * i6)) H7 (k1.trans (k4.trans (k5.trans (k6.trans (.of s7))))) (d6.same s7) (ei (o:=(false,i5 * (1 - 2 * i6))) h7) ?_
     have:i6=0∨i6=1:=by lia
     show (i5 * (1 - 2 * i6)).natAbs<10 ^ 12
     rcases this with rfl | rfl <;> lia
    ·k_go
     refine tk d4 (by decide) (by decide) fun i5 H5 i50 i51 k5 d5=>?_
     k_go
     refine cM fun p H7 s7 n7 h7=>?_
     refine q _ (false,i5) H7 (k1.trans (k4.trans (k5.trans (.of s7)))) (d5.same s7) (ei (o:=(false,i5)) h7) ?_
     show i5.natAbs<10 ^ 12
     lia
  ·k_go
   refine tk hd (by decide) (by decide) fun i4 H4 i40 i41 k4 d4=>?_
   k_go
   refine dH (fun y4=>?_) (fun y4=>?_)
   ·k_go
    refine r_I ⟨by decide,by decide,by decide⟩ ?_
    rw [show (10:Int) ^ (12:Int).toNat=10 ^ 12 from rfl]
    k_go
    refine tk d4 (by decide) (by decide) fun i5 H5 i50 i51 k5 d5=>?_
    k_go
    refine tk d5 (by decide) (by decide) fun i6 H6 i60 i61 k6 d6=>?_
    k_go
    refine r_I (.inl ⟨by decide,by decide⟩) ?_
    k_go
    refine r_I (.inr ⟨by lia,by lia⟩) ?_
    k_go
    refine cM fun p H7 s7 n7 h7=>?_
    refine q _ (false,i5 * (1 - 2 * i6)) H7 ((k4.trans (k5.trans (k6.trans (.of s7))))) (d6.same s7) (ei (o:=(false,i5 * (1 - 2 * i6))) h7) ?_
    have:i6=0∨i6=1:=by lia
    show (i5 * (1 - 2 * i6)).natAbs<10 ^ 12
    rcases this with rfl | rfl <;> lia
   ·k_go
    refine tk d4 (by decide) (by decide) fun i5 H5 i50 i51 k5 d5=>?_
    k_go
    refine cM fun p H7 s7 n7 h7=>?_
    refine q _ (false,i5) H7 ((k4.trans (k5.trans (.of s7)))) (d5.same s7) (ei (o:=(false,i5)) h7) ?_
    show i5.natAbs<10 ^ 12
    lia
end
section
variable {P:Program} {w:World} {K:xFr} {mg:Str→Option Value} {base:Heap} {C aF aO:Addr}
def cMin2:List V→Hp→VK→Prop:=fun xs H Q=>∃ i j,xs=[.int i,.int j]∧Q (.int (if j<i then j else i)) H
theorem rA {X:Cx} (hc:X.calm=true):CallR X (.builtin "min") cMin2:=mL hc
def spLf:Sp:=fun vs H Q _=>∃ (a p:Addr) (c:Cd) (m kp:Int) (nc:Nat) (sr:Srt),vs=[.ref a,.str (one sr.ch),.ref p,.int m,.int kp]∧Dg H a∧H p=some (.tup (c.ns.map V.int))∧CdOk c∧0<m∧m≤8∧0≤kp∧kp≤6∧sr≠.code∧(sr = .slot∨sr = .slots→0<c.sl)∧(sr = .opds→kp≤4) ∧
 ∀ (v:V) (fl:Fl) (H':Hp),Kept [a] H H'→Dg H' a→Rp H' fl.d v→Fit c (c.en+m) nc sr fl→(∀ l,fl = .opns l→(l.length:Int)=kp)→Q v H'
theorem rn {x sl i j:Int} (h:0<sl) (hi:0≤i) (hij:i<j) (hj:3 * j<sl):(x+3 * i) % sl≠(x+3 * j) % sl:=by
 intro z
 have e:(3 * (j - i)) % sl=0:=by
  have h1:=Int.emod_eq_emod_iff_emod_sub_eq_zero.mp z.symm
  rw [show x+3 * j - (x+3 * i)=3 * (j - i) by lia] at h1
  exact h1
 rw [Int.emod_eq_of_lt (by lia) (by lia)] at e
 lia
def glf:Scope:={ kind:=.function,names:=[("_law_state_here",.cell),("_law_sort",.local),("_law_code",.local),("_law_many",.local),("_law_kept",.local),("_law_slots",.cell),("_law_first",.cell),("_law_take",.globalImplicit),("_law_operand",.globalImplicit),("tuple",.globalImplicit),("range",.globalImplicit),("min",.globalImplicit),("_law_word",.globalImplicit)],isGenerator:=false,isCoroutine:=false,more:=[("fast",.str "_law_state_here"),("fast",.str "_law_sort"),("fast",.str "_law_code"),("fast",.str "_law_many"),("fast",.str "_law_kept"),("fast",.str "_law_slots"),("fast",.str "_law_k"),("fast",.str "_law_first"),("fast",.str "_law_slot")] }
theorem sclf:FnScope ["_law_state_here","_law_sort","_law_code","_law_many","_law_kept","_law_slots","_law_first"] ["_law_state_here","_law_sort","_law_code","_law_many","_law_kept"] glf:=⟨rfl,rfl,rfl,by decide +kernel,rfl,by decide +kernel,by decide +kernel⟩
theorem vY (F:Dn K mg "_law_field" sLfield ["_law_state_here","_law_sort","_law_code","_law_many","_law_kept"]) (T:Txt w K mg C aF aO) (c__law_take:Cal P w K mg base "_law_take" 1 ["_law_state_here","_law_many"] spTake) (c__law_operand:Cal P w K mg base "_law_operand" 2 ["_law_state_here","_law_slots"] spOp) (c__law_word:Cal P w K mg base "_law_word" 2 ["_law_state_here"] spLw):Cal P w K mg base "_law_field" 3 ["_law_state_here","_law_sort","_law_code","_law_many","_law_kept"] spLf:=by
 refine F.ok sclf rfl (fun vs H Q E h=>?_) (fun f cdv A outer s H vs Q E hr h=>?_)
 ·obtain ⟨a,p,c,m,kp,nc,sr,rfl,_⟩:=h
  rfl
 ·obtain ⟨a,p,c,m,kp,nc,sr,rfl,hd,hp,ok,m0,m1,k0,k1,nco,hsl,hk4,q⟩:=h
  refine' ⟨?tt,QSs.h ?hh,?gg⟩
  case hh=>exact (ac (aA (i:=5) sclf.nd rfl (Or.inr rfl) (aB aQ (qv 2) ag))
   (ac (av (ao aJ (qv 1) af (nomark _)) (ae (ai (ap c__law_take hr rfl (ad (qv 0) (ad (qv 5) ab))))) ak)
   (ac (av (ao aJ (qv 1) af (nomark _)) (ae (ai (ap c__law_operand hr rfl (ad (qv 0) (ad (qv 5) ab))))) ak)
   (ac (av (ao aJ (qv 1) af (nomark _)) (ae (ai (aN aW rfl T.ztuple bj (ad (bh (ls:=["_law_k"]) (N:=["_law_state_here","_law_slots"]) (fr:=[0,5]) rfl (CapsG.mk' rfl (by decide +kernel) rfl (by decide +kernel) (.cons ⟨⟨_,rfl,rfl⟩,rfl,rfl,rfl⟩ (.cons ⟨⟨_,rfl,rfl⟩,rfl,rfl,rfl⟩ .nil)) (by decide +kernel) rfl) (fW rfl T.zrange (ad (qv 4) ab)) (fun C s H fp=>(aj (i:=0) (show (["_law_k","_law_state_here","_law_slots"]:List Str).Nodup by decide +kernel) rfl (Or.inl rfl))) (fun C s H fp=>aI) (fun C s H fp=>(ap c__law_operand hr rfl (ad (qv 1) (ad (qv 2) ab))))) ab)))) ak)
   (ac (av (ao aJ (qv 1) af (nomark _)) (ac (aA (i:=6) sclf.nd rfl (Or.inr rfl) (ap c__law_take hr rfl (ad (qv 0) (ad (qv 5) ab))))
   (ae (ai (aN aW rfl T.ztuple bj (ad (bh (ls:=["_law_k"]) (N:=["_law_slots","_law_first"]) (fr:=[5,6]) rfl (CapsG.mk' rfl (by decide +kernel) rfl (by decide +kernel) (.cons ⟨⟨_,rfl,rfl⟩,rfl,rfl,rfl⟩ (.cons ⟨⟨_,rfl,rfl⟩,rfl,rfl,rfl⟩ .nil)) (by decide +kernel) rfl) (fW rfl T.zrange (ad (aL (rA rfl) rfl T.zmin ww (ad (ap c__law_take hr rfl (ad (qv 0) (ad ag ab))) (ad (aq qT (aq bZ (qv 5) ag) ag) ab))) ab)) (fun C s H fp=>(aj (i:=0) (show (["_law_k","_law_slots","_law_first"]:List Str).Nodup by decide +kernel) rfl (Or.inl rfl))) (fun C s H fp=>aI) (fun C s H fp=>(aq dy (aq bZ (qv 2) (aq dw ag (qv 0))) (qv 1)))) ab))))) ak)
   (ac (av (ao aJ (qv 1) af (nomark _)) (ae (ai (aN aW rfl T.ztuple bj (ad (bh (ls:=["_law_slot"]) (N:=["_law_state_here"]) (fr:=[0]) rfl (CapsG.mk' rfl (by decide +kernel) rfl (by decide +kernel) (.cons ⟨⟨_,rfl,rfl⟩,rfl,rfl,rfl⟩ .nil) (by decide +kernel) rfl) (fW rfl T.zrange (ad (qv 5) ab)) (fun C s H fp=>(aj (i:=0) (show (["_law_slot","_law_state_here"]:List Str).Nodup by decide +kernel) rfl (Or.inl rfl))) (fun C s H fp=>(qd (ao aJ (ap c__law_take hr rfl (ad (qv 1) (ad ag ab))) ag (nomark _)))) (fun C s H fp=>(qv 0))) ab)))) ak)
   (ac (av (ao aJ (qv 1) af (nomark _)) (ae (ai (ap c__law_take hr rfl (ad (qv 0) (ad ag ab))))) ak)
   (ac (av (ao aJ (qv 1) af (nomark _)) (ae (ai (aq bZ (aB aQ (qv 2) ag) (ap c__law_take hr rfl (ad (qv 0) (ad (qv 3) ab)))))) ak)
   (ac (av (ao aJ (qv 1) af (nomark _)) (ae (ai (aB aV (bb (io (ws:=["add","sub","mul","less","same"]) rfl)) (ap c__law_take hr rfl (ad (qv 0) (ad ag ab)))))) ak)
   (ae (ai (ap c__law_word hr rfl (ad (qv 0) ab)))))))))))))
  have a7:=ok.a7
  have a8:=ok.a8
  have a3:=ok.a3
  have a5:=ok.a5
  have a9:=ok.a9
  have aa:=ok.aa
  have hp:H p=some (.tup [.int c.pl,.int c.pa,.int c.kp,.int c.sl,.int c.en]):=hp
  cases sr with
  | slot =>
   have:=hsl (.inl rfl)
   k_go
   exact tk hd (by lia) (by lia) fun i H1 i0 i1 k2 d2=>q _ (.slt i) H1 k2 d2 rfl (.slot i0 i1) fun l e=>by cases e
  | opd =>
   k_go
   exact ⟨a,c.sl,rfl,hd,by lia,by lia,fun v b H1 k2 d2 hv hb=>q v (.opn b) H1 k2 d2 hv (.opd hb) fun l e=>by cases e⟩
  | opds =>
   have:=hk4 rfl
   k_go
   refine cX (by lia) (by lia) ?_
   refine rf (fp:=[a]) (Iv:=fun H=>Dg H a) (G:=fun i ds=>∃ l:List (Bool×Int),ds=l.map opD∧l.length=i∧∀ b∈l,OkO c.sl b) bT hd (fun _ _ _=>True.intro) (fun H1 B u hB _ d1=>d1.up (fun z=>by obtain ⟨n,s,e,_⟩:=hd;rw [z,e] at hB;cases hB)) ⟨[],rfl,rfl,by simp⟩ (by lia) ?_ ?_
   ·rintro B ys ds i y H1 _ N1 N0 hi k2 t2 hB0 d2 ⟨l,rfl,hl,hall⟩ hB ⟨rfl,rfl⟩ K1 K0
    k_go
    refine ⟨rfl,rfl,?_⟩
    k_go
    refine ⟨hB,?_⟩
    k_go
    refine ⟨a,c.sl,rfl,d2,by lia,by lia,fun v b H2 k3 d3 hv hb=>?_⟩
    have hB2:H2 B=some (.lst ys):=k3 _ _ hB (by
     intro z
     obtain ⟨n,s,e,_⟩:=d2
     rw [xAm.mp z,e] at hB
     cases hB)
    refine ⟨hB2,K1 v (opD b) H2 k3 (k3.tle d2.noT) hB2 d3 hv ⟨l++[b],by simp,by simp [hl],fun x hx=>?_⟩⟩
    rcases xAj.mp hx with hx | hx
    ·exact hall x hx
    ·rw [xAm.mp hx];exact hb
   ·rintro B H1 ds k2 t2 d2 nB ⟨vs,hB,hvs⟩ ⟨l,rfl,hl,hall⟩
    k_go
    refine bu hB fun p2 H2 s2 n2 h2=>?_
    refine q (.ref p2) (.opns l) H2 (k2.trans (.of s2)) (d2.same s2) ⟨p2,vs,rfl,h2,hvs.mono s2⟩ (.opds (by lia) hall) fun l' e=>?_
    cases e
    lia
  | kept =>
   k_go
   refine cX (by lia) (by lia) ?_
   refine rf (fp:=[a]) (Iv:=fun H=>Dg H a) (G:=fun i ds=>∃ l:List (Bool×Int),ds=l.map opD∧l.length=i∧∀ b∈l,OkO c.sl b) bT hd (fun _ _ _=>True.intro) (fun H1 B u hB _ d1=>d1.up (fun z=>by obtain ⟨n,s,e,_⟩:=hd;rw [z,e] at hB;cases hB)) ⟨[],rfl,rfl,by simp⟩ (by lia) ?_ ?_
   ·rintro B ys ds i y H1 _ N1 N0 hi k2 t2 hB0 d2 ⟨l,rfl,hl,hall⟩ hB ⟨rfl,rfl⟩ K1 K0
    k_go
    refine ⟨rfl,rfl,?_⟩
    k_go
    refine ⟨hB,?_⟩
    k_go
    refine ⟨a,c.sl,rfl,d2,by lia,by lia,fun v b H2 k3 d3 hv hb=>?_⟩
    have hB2:H2 B=some (.lst ys):=k3 _ _ hB (by
     intro z
     obtain ⟨n,s,e,_⟩:=d2
     rw [xAm.mp z,e] at hB
     cases hB)
    refine ⟨hB2,K1 v (opD b) H2 k3 (k3.tle d2.noT) hB2 d3 hv ⟨l++[b],by simp,by simp [hl],fun x hx=>?_⟩⟩
    rcases xAj.mp hx with hx | hx
    ·exact hall x hx
    ·rw [xAm.mp hx];exact hb
   ·rintro B H1 ds k2 t2 d2 nB ⟨vs,hB,hvs⟩ ⟨l,rfl,hl,hall⟩
    k_go
    refine bu hB fun p2 H2 s2 n2 h2=>?_
    refine q (.ref p2) (.opns l) H2 (k2.trans (.of s2)) (d2.same s2) ⟨p2,vs,rfl,h2,hvs.mono s2⟩ (.kept (by lia) hall) fun l' e=>?_
    cases e
    lia
  | word =>
   k_go
   exact ⟨a,rfl,hd,fun z H1 k2 d2 hz=>q _ (.wd z) H1 k2 d2 rfl (.word hz) fun l e=>by cases e⟩
  | op =>
   k_go
   refine aZ fun l H1 s1 n1 h1=>?_
   k_go
   refine tk (hd.same s1) (by decide) (by decide) fun i H2 i0 i1 k2 d2=>?_
   have h2:H2 l=some (.lst (opL.map V.str)):=k2 _ _ h1 (by
    intro z
    obtain ⟨n,s,e,_⟩:=hd
    rw [xAm.mp z,e] at n1
    cases n1)
   obtain ⟨z,hz⟩:∃ z,opL[i.toNat]?=some z:=⟨_,xAk (by show _<5;lia)⟩
   k_go
   refine dh (v:=.str z) h2 (by rw [show i=((i.toNat:Nat):Int) by lia];exact bJ (by rw [xAw,hz];rfl)) ?_
   exact q _ (.wd z) H2 ((Kept.of s1).trans k2) d2 rfl (.op (xAc hz)) fun l e=>by cases e
  | code=>exact (nco rfl).elim
  | place =>
   k_go
   exact tk hd (by decide) (by decide) fun i H1 i0 i1 k2 d2=>q _ (.num i) H1 k2 d2 rfl (.place i0 (by lia)) fun l e=>by cases e
  | row =>
   k_go
   refine tk hd (by lia) (by lia) fun i H1 i0 i1 k2 d2=>?_
   k_go
   exact q _ (.num (c.en+i)) H1 k2 d2 rfl (.row (by lia) (by lia)) fun l e=>by cases e
  | live =>
   k_go
   refine cX (by lia) (by lia) ?_
   refine rf (fp:=[a]) (Iv:=fun H=>Dg H a) (G:=fun i ds=>∃ l:List Int,ds=l.map D.int∧l.Pairwise (·<·)∧∀ n∈l,0≤n∧n<(i:Int)) bT hd (fun _ _ _=>True.intro) (fun H1 B u hB _ d1=>d1.up (fun z=>by obtain ⟨n,s,e,_⟩:=hd;rw [z,e] at hB;cases hB)) ⟨[],rfl,.nil,by simp⟩ (by lia) ?_ ?_
   ·rintro B ys ds i y H1 _ N1 N0 hi k2 t2 hB0 d2 ⟨l,rfl,hpw,hall⟩ hB ⟨rfl,rfl⟩ K1 K0
    k_go
    refine ⟨rfl,rfl,?_⟩
    k_go
    refine tk d2 (by decide) (by decide) fun x H2 x0 x1 k3 d3=>?_
    have hB2:H2 B=some (.lst ys):=k3 _ _ hB (by
     intro z
     obtain ⟨n,s,e,_⟩:=d2
     rw [xAm.mp z,e] at hB
     cases hB)
    k_go
    refine ⟨hB2,?_⟩
    refine dH (fun y=>?_) (fun y=>?_)
    ·k_go
     refine ⟨hB2,K1 _ (.int (i:Int)) H2 k3 (k3.tle d2.noT) hB2 d3 (by show V.int _=V.int _;congr 1;lia) ⟨l++[(i:Int)],by simp,?_,fun n hn=>?_⟩⟩
     ·rw [List.pairwise_append]
      exact ⟨hpw,List.pairwise_singleton _ _,fun x hx y hy=>by rw [xAm.mp hy];exact (hall x hx).2⟩
     ·rcases xAj.mp hn with hn | hn
      ·have:=hall n hn
       lia
      ·rw [xAm.mp hn]
       lia
    ·exact K0 H2 k3 (k3.tle d2.noT) hB2 d3 ⟨l,rfl,hpw,fun n hn=>by have:=hall n hn;lia⟩
   ·rintro B H1 ds k2 t2 d2 nB ⟨vs,hB,hvs⟩ ⟨l,rfl,hpw,hall⟩
    k_go
    refine bu hB fun p2 H2 s2 n2 h2=>?_
    exact q (.ref p2) (.slts l) H2 (k2.trans (.of s2)) (d2.same s2) ⟨p2,vs,rfl,h2,hvs.mono s2⟩ (.live hpw fun n hn=>by have:=hall n hn;lia) fun l e=>by cases e
  | slots =>
   have sl0:=hsl (.inr rfl)
   k_go
   refine tk hd (by lia) (by lia) fun x H1 x0 x1 k2 d2=>?_
   have hp1:H1 p=some (.tup [.int c.pl,.int c.pa,.int c.kp,.int c.sl,.int c.en]):=k2 _ _ hp (by
    intro z
    obtain ⟨n,s,e,_⟩:=hd
    rw [xAm.mp z,e] at hp
    cases hp)
   k_go
   refine tk d2 (by decide) (by decide) fun y H2 y0 y1 k3 d3=>?_
   k_go
   refine r_I ⟨by decide,by decide⟩ ?_
   k_go
   refine ⟨_,_,rfl,?_⟩
   have hq1:0≤(c.sl+2) / 3∧3 * ((c.sl+2) / 3)≤c.sl+2:=by lia
   generalize (c.sl+2) / 3=qq at hq1 ⊢
   have hn:0≤(if qq<y then qq else y)∧(if qq<y then qq else y)≤4∧(if qq<y then qq else y)≤qq:=by split <;> lia
   generalize (if qq<y then qq else y)=nn at hn ⊢
   k_go
   refine cX (by lia) (by lia) ?_
   refine cr (l:=(List.range nn.toNat).map fun (i:Nat)=>(x+3 * (i:Int)) % c.sl) bT (by simp) (fun _ _=>True.intro) D.int (by lia) ?_ ?_
   ·rintro B ys i d v H3 _ N1 N0 hdi s3 hB ⟨rfl,rfl⟩ K1
    have hi:i<nn.toNat:=by have:=(xAq.mp hdi).1;simpa using this
    have:d=(x+3 * (i:Int)) % c.sl:=by
     rw [xAw,List.getElem?_range hi] at hdi
     cases hdi
     rfl
    subst this
    k_go
    refine ⟨rfl,rfl,?_⟩
    k_go
    refine ⟨hB,?_⟩
    k_go
    refine r_I (.inl ⟨by decide,by decide⟩) ?_
    k_go
    refine r_I sl0 ?_
    refine ⟨hB,K1 _ _ (fun _ _ e=>e) ?_⟩
    show V.int _=V.int _
    rw [Int.zero_add]
   ·intro B H3 s3 n3 h3
    have h3:=h3.ints
    k_go
    refine bu h3 fun p4 H4 s4 n4 h4=>?_
    refine q (.ref p4) (.slts _) H4 (k2.trans (k3.trans (.of (s3.trans s4)))) ((d3.same s3).same s4) ⟨p4,_,rfl,h4,.ofInts _⟩ (.slots (by simp;lia) ?_ fun n hn=>?_) fun l e=>by cases e
    ·rw [List.nodup_iff_pairwise_ne,List.pairwise_map]
     refine List.Pairwise.imp_of_mem ?_ (List.pairwise_lt_range)
     intro i j hi hj hij
     have:=List.mem_range.mp hj
     exact rn sl0 (by lia) (by lia) (by lia)
    ·obtain ⟨i,_,rfl⟩:=xA2.mp hn
     exact ⟨Int.emod_nonneg _ (by lia),Int.emod_lt_of_pos _ sl0⟩
end
section
variable {P:Program} {w:World} {K:xFr} {mg:Str→Option Value} {base:Heap} {C aF aO:Addr}
def ix:Srt→Nat
 | .slot=>0 | .opd=>1 | .opds=>2 | .kept=>3 | .word=>4 | .op=>5 | .code=>6 | .place=>7 | .live=>8 | .slots=>9 | .row=>10
theorem sn:∀ p∈tab.map (fun p=>p.2.map ix),∀ i:Nat,i<5→(p[i]?=some 3→i=2∧p[1]?=some 6)∧(p[i]?=some 6→i=1)∧(p[i]?=some 2→6 ∉ p):=by decide +kernel
theorem rh {s:Srt} (h:ix s=6):s = .code:=by cases s <;> first | rfl | cases h
theorem g9 {w:Str} {ss:List Srt} (h:(w,ss)∈tab) (i:Nat) (s:Srt) (e:ss[i]?=some s):(s = .kept→i=2∧ss[1]?=some .code)∧(s = .code→i=1)∧(s = .opds→∀ j:Nat,ss[j]?≠some .code):=by
 have h5:=(b0 h).2.2
 have hi:i<5:=by
  have:=(xAq.mp e).1
  simp only at h5
  lia
 obtain ⟨a,b,c⟩:=sn _ (xA2.mpr ⟨_,h,rfl⟩) i hi
 have em:(ss.map ix)[i]?=some (ix s):=by rw [xAw,e];rfl
 rw [em] at a b c
 refine ⟨fun z=>?_,fun z=>?_,fun z j hj=>?_⟩
 ·subst z
  obtain ⟨a1,a2⟩:=a rfl
  rw [xAw] at a2
  obtain ⟨s1,h1,h2⟩:=xA3.mp a2
  rw [rh h2] at h1
  exact ⟨a1,h1⟩
 ·subst z
  exact b rfl
 ·subst z
  exact c rfl (xA2.mpr ⟨.code,xAc hj,rfl⟩)
theorem rH {p:Str×List Srt} (h:p∈tab):valV shK (.inr p.1)=some (.str (chs p.2)):=by
 simp only [tab,xAv,xBv,or_false] at h
 rcases h with rfl | rfl | rfl | rfl | rfl | rfl | rfl | rfl | rfl | rfl | rfl | rfl | rfl | rfl | rfl | rfl | rfl | rfl <;> kernel_rfl
theorem rD {s:Srt} (h:s≠.code):decide (one s.ch=("c":Str))=false:=by cases s <;> first | exact (h rfl).elim | decide +kernel
def zeroL:List Str:=["back","jump","unguard","raise","last","test"]
theorem pF {z:Str} (h:z∈zeroL):∃ ss,(z,ss)∈tab∧∀ s∈ss,s≠.slot∧s≠.slots:=by
 simp only [zeroL,xAv,xBv,or_false] at h
 rcases h with rfl | rfl | rfl | rfl | rfl | rfl
 ·exact ⟨[.opd],by simp [tab],by simp⟩
 ·exact ⟨[.row],by simp [tab],by simp⟩
 ·exact ⟨[],by simp [tab],by simp⟩
 ·exact ⟨[.word,.opd,.place],by simp [tab],by simp⟩
 ·exact ⟨[.opd,.opds,.place],by simp [tab],by simp⟩
 ·exact ⟨[.opd,.row,.place],by simp [tab],by simp⟩
theorem kC {tt:TT} {t u rest:TS} {Dn:Ends} {σ:St} {H:Hp} (R:St→Hp→Prop) (core:∀ σ' H',R σ' H'→rest Dn σ' H') (h:(∀ σ' H',R σ' H'→rest Dn σ' H')→tIfS tt t u { Dn with nx:=rest Dn } σ H):tSeq (tIfS tt t u) rest Dn σ H:=h core
structure Lp (a p M:Addr) (c:Cd) (m:Int) (cs:List Cd) (ss:List Srt) (H0:Hp) (rl:Addr) (z:Str) (i:Nat) (kp:Int) (fs:List Fl) (H:Hp):Prop where
 k:Kept [a] H0 H
 d:Dg H a
 l:∃ vs,H rl=some (.lst (.str z::vs))∧Rps H (fs.map Fl.d) vs
 n:fs.length=i
 f:∀ (j:Nat) (s:Srt) (fl:Fl),ss[j]?=some s→fs[j]?=some fl→Fit c (c.en+m) cs.length s fl
 z:∀ fl∈fs,Sz fl
 k0:0≤kp
 k6:kp≤6
 k4:kp≤4∨∃ j:Nat,j<i∧ss[j]?=some .code
 kc:∀ j:Nat,j<i→ss[j]?=some .code→∃ (n:Int) (c':Cd),fs[j]?=some (.num n)∧0≤n∧cs[n.toNat]?=some c'∧kp=c'.kp
 kk:∀ j:Nat,j<i→ss[j]?=some .kept→∃ (n:Int) (os:List (Bool×Int)) (c':Cd),fs[1]?=some (.num n)∧fs[j]?=some (.opns os)∧0≤n∧cs[n.toNat]?=some c'∧(os.length:Int)=c'.kp
theorem dk {α:Type} {l:List α} {x y:α} {j:Nat} (h:(l++[x])[j]?=some y):(j<l.length∧l[j]?=some y)∨(j=l.length∧x=y):=by
 by_cases hj:j<l.length
 ·rw [List.getElem?_append_left hj] at h
  exact .inl ⟨hj,h⟩
 ·have hl:=(xAq.mp h).1
  rw [xAb,xAt] at hl
  have e:j=l.length:=by lia
  subst e
  rw [List.getElem?_append_right (xAg _),Nat.sub_self] at h
  cases h
  exact .inr ⟨rfl,rfl⟩
def spLr:Sp:=fun vs H Q _=>∃ (a p M:Addr) (c:Cd) (m:Int) (cs:List Cd),vs=[.ref a,.ref p,.int m,.ref M]∧Dg H a∧H p=some (.tup (c.ns.map V.int))∧CdOk c∧0<m∧m≤8∧LD H M (cs.map Cd.d)∧0<cs.length∧cs.length≤4∧(∀ c'∈cs,CdOk c') ∧
 ∀ (v:V) (r:Rw) (H':Hp),Kept [a] H H'→Dg H' a→Rp H' r.d v→RwOk c (c.en+m) cs r→Q v H'
def glr:Scope:={ kind:=.function,names:=[("_law_state_here",.local),("_law_code",.local),("_law_many",.local),("_law_codes",.local),("_law_shapes_here",.local),("_law_words",.local),("_law_word_here",.local),("_law_row_here",.local),("_law_kept",.local),("_law_sort",.local),("_law_number",.local),("_law_shapes",.globalImplicit),("list",.globalImplicit),("_law_take",.globalImplicit),("len",.globalImplicit),("_law_field",.globalImplicit),("tuple",.globalImplicit)],isGenerator:=false,isCoroutine:=false,more:=[] }
theorem sclr:FnScope ["_law_state_here","_law_code","_law_many","_law_codes","_law_shapes_here","_law_words","_law_word_here","_law_row_here","_law_kept","_law_sort","_law_number"] ["_law_state_here","_law_code","_law_many","_law_codes"] glr:=⟨rfl,rfl,rfl,by decide +kernel,rfl,by decide +kernel,by decide +kernel⟩
theorem vV (F:Dn K mg "_law_row" sLrow ["_law_state_here","_law_code","_law_many","_law_codes"]) (T:Txt w K mg C aF aO) (c__law_take:Cal P w K mg base "_law_take" 1 ["_law_state_here","_law_many"] spTake) (c__law_shapes:Cal P w K mg base "_law_shapes" 1 [] spSh) (c__law_field:Cal P w K mg base "_law_field" 3 ["_law_state_here","_law_sort","_law_code","_law_many","_law_kept"] spLf):Cal P w K mg base "_law_row" 4 ["_law_state_here","_law_code","_law_many","_law_codes"] spLr:=by
 refine F.ok sclr rfl (fun vs H Q E h=>?_) (fun f cdv A outer s H vs Q E hr h=>?_)
 ·obtain ⟨a,p,M,c,m,cs,rfl,_⟩:=h
  rfl
 ·obtain ⟨a,p,M,c,m,cs,rfl,hd,hp,ok,m0,m1,hM,c0,c4,cok,q⟩:=h
  have hu:=gf hr
  refine' ⟨?tt,QSs.h ?hh,?gg⟩
  case hh=>exact (ac (aA (i:=4) sclr.nd rfl (Or.inl rfl) (nP c__law_shapes hr rfl))
   (ac (aA (i:=5) sclr.nd rfl (Or.inl rfl) (aN (pi rfl) rfl T.zlist ur (ad (qv 4) ab)))
   (ac (av (ao aJ (aB aQ (qv 1) ag) ag (nomark _)) (ae (aA (i:=5) sclr.nd rfl (Or.inl rfl) (bb (io (ws:=["back","jump","unguard","raise","last","test"]) rfl)))) ak)
   (ac (aA (i:=6) sclr.nd rfl (Or.inl rfl) (aB aV (qv 5) (ap c__law_take hr rfl (ad (qv 0) (ad (aL bD rfl T.zlen bS (ad (qv 5) ab)) ab)))))
   (ac (aA (i:=7) sclr.nd rfl (Or.inl rfl) (bb (ad (qv 6) ab)))
   (ac (aA (i:=8) sclr.nd rfl (Or.inl rfl) (ap c__law_take hr rfl (ad (qv 0) (ad ag ab))))
   (ac (cN PassesOwn.never rfl (jR (cD hu (qv 4) (qv 6))) (aj (i:=9) sclr.nd rfl (Or.inl rfl))
    (ae (av (ao aJ (qv 9) af (nomark _)) (ac (aA (i:=10) sclr.nd rfl (Or.inl rfl) (ap c__law_take hr rfl (ad (qv 0) (ad (aL bD rfl T.zlen bS (ad (qv 3) ab)) ab))))
   (ac (aR (bB PySem.F.plainAttrs_list PySem.F.slot_list_append PySem.F.type_list_append bf (qv 7) (ad (qv 10) ab)))
   (ae (aA (i:=8) sclr.nd rfl (Or.inl rfl) (aB aQ (aB aV (qv 3) (qv 10)) ag))))) (ae (aR (bB PySem.F.plainAttrs_list PySem.F.slot_list_append PySem.F.type_list_append bf (qv 7) (ad (ap c__law_field hr rfl (ad (qv 0) (ad (qv 9) (ad (qv 1) (ad (qv 2) (ad (qv 8) ab)))))) ab)))))))
   (ae (ai (aN aW rfl T.ztuple bj (ad (qv 7) ab)))))))))))
  have a7:=ok.a7
  have a8:=ok.a8
  have a3:=ok.a3
  have a5:=ok.a5
  have a9:=ok.a9
  have aa:=ok.aa
  have hp0:H p=some (.tup [.int c.pl,.int c.pa,.int c.kp,.int c.sl,.int c.en]):=hp
  have neA:∀ {b:Addr} {u:HO} {H':Hp},Dg H' a→H' b=some u→(∀ kvs,u≠.dK kvs)→b ∉ [a]:=fun {b u H'} d e hu z=>by
   obtain ⟨n,s,e',_⟩:=d
   rw [xAm.mp z,e'] at e
   cases e
   exact hu _ rfl
  k_go
  refine ⟨rfl,fun d H1 s1 n1 h1=>?_⟩
  k_go
  refine pV h1 fun l2 H2 s2 n2 h2=>?_
  have hp2:=s2 _ _ (s1 _ _ hp0)
  refine fV ?_
  dsimp only
  refine kC (fun σ' H'=>∃ (l:Addr) (ws:List Str),σ'=[some (.ref a),some (.ref p),some (.int m),some (.ref M),some (.ref d),some (.ref l),none,none,none,none,none]∧Same H H'∧H' d=some (.dK shK)∧H' l=some (.lst (ws.map V.str))∧0<ws.length∧ws.length≤18∧∀ z∈ws,∃ ss,(z,ss)∈tab∧(c.sl=0→∀ s∈ss,s≠.slot∧s≠.slots)) ?core ?main
  case main =>
   intro core
   k_go
   refine dH (fun y=>?_) (fun y=>?_)
   ·k_go
    refine aZ fun l3 H3 s3 n3 h3=>?_
    refine fV ?_
    exact core _ _ ⟨l3,zeroL,rfl,s1.trans (s2.trans s3),s3 _ _ (s2 _ _ h1),h3,by decide,by decide,fun z hz=>by
     obtain ⟨ss,g1,g2⟩:=pF hz
     exact ⟨ss,g1,fun _=>g2⟩⟩
   ·have y:=of_decide_eq_false y
    refine jP ?_
    refine core _ _ ⟨l2,tab.map (·.1),rfl,s1.trans s2,s2 _ _ h1,?_,by decide,by decide,fun z hz=>?_⟩
    ·rw [h2]
     rfl
    ·obtain ⟨p',hp',rfl⟩:=xA2.mp hz
     exact ⟨p'.2,hp',fun z=>(y z).elim⟩
  case core =>
   rintro σ' H3 ⟨l,ws,rfl,s3,hd3,hl3,w0,w1,hws⟩
   have dg3:=hd.same s3
   k_go
   rw [xAa]
   refine tk dg3 (by lia) (by lia) fun i H4 i0 i1 k4 d4=>?_
   obtain ⟨z,hz⟩:∃ z,ws[i.toNat]?=some z:=⟨_,xAk (by lia)⟩
   obtain ⟨ss,ht,hzero⟩:=hws z (xAc hz)
   have hl4:=k4 _ _ hl3 (neA dg3 hl3 fun _=>nofun)
   have ned:d ∉ [a]:=by
    intro y
    obtain ⟨n,s,e,_⟩:=hd
    rw [xAm.mp y,e] at n1
    cases n1
   have hd4:=k4 _ _ hd3 ned
   k_go
   refine dh (v:=.str z) hl4 (by rw [show i=((i.toNat:Nat):Int) by lia];exact bJ (by rw [xAw,hz];rfl)) ?_
   k_go
   refine aZ fun rl H5 s5 n5 h5=>?_
   have k05:Kept [a] H H5:=(Kept.of s3).trans (k4.trans (.of s5))
   have nr:H rl=none:=s3.free (Dg.free k4 d4 n5)
   have d5:=d4.same s5
   k_go
   refine tk d5 (by decide) (by decide) fun x H6 x0 x1 k6 d6=>?_
   have h6:=k6 _ _ h5 (neA d5 h5 fun _=>nofun)
   have hd6:=k6 _ _ (s5 _ _ hd4) ned
   have nrd:d≠rl:=fun y=>by rw [y,h6] at hd6;cases hd6
   have k06:=k05.trans k6
   k_go
   refine ik hd6 (rH ht) ?_
   refine dP ?_
   have hsz:(chs ss).cps.size=ss.length:=by simp [chs]
   refine cQ gU (fun i σ H7=>∃ (kp:Int) (fs:List Fl) (v9 v10:Option V),σ=[some (.ref a),some (.ref p),some (.int m),some (.ref M),some (.ref d),some (.ref l),some (.str z),some (.ref rl),some (.int kp),v9,v10]∧Lp a p M c m cs ss H rl z i kp fs H7) ⟨x,[],_,_,rfl,k06,d6,⟨[],h6,rfl⟩,rfl,fun j s f _ e=>by simp at e,by simp,x0,by lia,.inl (by lia),fun j hj=>by lia,fun j hj=>by lia⟩ (fun _ _ _ _ _=>True.intro) ?_ ?_
   ·rintro i σ _ y H7 hi ⟨kp,fs,v9,v10,rfl,lp⟩ ⟨rfl,cc,hcc,rfl⟩
    rw [hsz] at hi
    obtain ⟨sr,hsr⟩:∃ s,ss[i]?=some s:=⟨_,xAk hi⟩
    have:cc=sr.ch:=by
     have e:(chs ss).cps[i]?=(ss.map Srt.ch)[i]?:=by simp [chs]
     rw [e,xAw,hsr] at hcc
     cases hcc
     rfl
    subst this
    obtain ⟨ta1,ta2,ta3⟩:=g9 ht i sr hsr
    obtain ⟨vs,h7,hvs⟩:=lp.l
    have hvl:=hvs.mapLen
    have hn:=lp.n
    have hss:ss.length≤5:=(b0 ht).2.2
    have hM7:LD H7 M (cs.map Cd.d):=by
     refine hM.kept lp.k (lp.k.tle hd.noT) ?_
     obtain ⟨ms,e,_⟩:=hM
     exact neA hd e fun _=>nofun
    have hp7:H7 p=some (.tup (c.ns.map V.int)):=lp.k _ _ hp (neA hd hp fun _=>nofun)
    k_go
    by_cases hs:sr = .code
    ·subst hs
     have i1:=ta2 rfl
     obtain ⟨us,hus,rus,lu⟩:=dA hM7
     rw [xAa] at lu
     refine cx (by decide +kernel) ?_
     k_go
     refine tk lp.d (by lia) (by lia) fun n H8 n0 n8 k8 d8=>?_
     have h8:=k8 _ _ h7 (neA lp.d h7 fun _=>nofun)
     have hus8:=k8 _ _ hus (neA lp.d hus fun _=>nofun)
     have t8:=k8.tle lp.d.noT
     obtain ⟨c',hc'⟩:∃ c',cs[n.toNat]?=some c':=⟨_,xAk (by lia)⟩
     obtain ⟨u,hu1,hu2⟩:=rus.mapGet hc'
     k_go
     refine bv h8 (lineM (by rw [xAo];lia)) ?_
     have nMr:M≠rl:=fun y=>by obtain ⟨ms,e,_⟩:=hM;rw [y,nr] at e;cases e
     have nra:rl≠a:=fun y=>by obtain ⟨_,_,e,_⟩:=d8;rw [y,e] at h8;cases h8
     have t9:TLe H8 (upd H8 rl (.lst (.str z::vs++[.int n]))):=.upd fun zs z=>by rw [h8] at z;cases z
     have h9:upd H8 rl (.lst (.str z::vs++[.int n])) rl=some (.lst (.str z::(vs++[.int n]))):=ah
     have k9:Kept [a] H (upd H8 rl (.lst (.str z::vs++[.int n]))):=cP (lp.k.trans k8) nr
     have d9:Dg (upd H8 rl (.lst (.str z::vs++[.int n]))) a:=d8.up nra
     have hus9:upd H8 rl (.lst (.str z::vs++[.int n])) M=some (.lst us):=by rw [am nMr];exact hus8
     generalize upd H8 rl (.lst (.str z::vs++[.int n]))=H9 at t9 h9 k9 d9 hus9
     obtain ⟨pc,rfl,hpc⟩:=fu ((hu2.le t8).le t9)
     have c6:=(cok c' (xAc hc')).a6
     have c5:=(cok c' (xAc hc')).a5
     k_go
     refine dh hus9 (by rw [show n=((n.toNat:Nat):Int) by lia];exact bJ hu1) ?_
     k_go
     have szn:Sz (.num n):=⟨by have:=(bi (n:=n) (by lia)).2.2;show (tx n).length≤100;lia,by show (1:Nat)≤64;decide,by show n.natAbs<_;lia⟩
     refine ⟨c'.kp,fs++[.num n],_,_,rfl,k9,d9,⟨_,h9,?_⟩,by simp [hn],fun j s fl e1 e2=>?_,fun fl hf=>?_,c5,c6,.inr ⟨i,by lia,hsr⟩,fun j hj e=>?_,fun j hj e=>?_⟩
     ·rw [xAi]
      exact ((hvs.le t8).snoc (d:=.int n) rfl).le t9
     ·rcases dk e2 with ⟨_,e2⟩ | ⟨rfl,rfl⟩
      ·exact lp.f j s fl e1 e2
      ·rw [hn,hsr] at e1
       cases e1
       exact .code n0 (by lia)
     ·rcases xAj.mp hf with hf | hf
      ·exact lp.z fl hf
      ·rw [xAm.mp hf];exact szn
     ·have:j=1:=(g9 ht j _ e).2.1 rfl
      have hj1:j=fs.length:=by lia
      refine ⟨n,c',?_,n0,hc',rfl⟩
      rw [hj1,List.getElem?_append_right (xAg _),Nat.sub_self]
      rfl
     ·have:=((g9 ht j _ e).1 rfl).1
      lia
    ·rw [rD hs]
     k_go
     refine ⟨a,p,c,m,kp,cs.length,sr,rfl,lp.d,hp7,ok,m0,m1,lp.k0,lp.k6,hs,fun y=>?_,fun y=>?_,fun v fl H8 k8 d8 hv fit hln=>?_⟩
     ·have:c.sl≠0:=fun y0=>by
       have:=hzero y0 sr (xAc hsr)
       rcases y with y | y
       ·exact this.1 y
       ·exact this.2 y
      lia
     ·rcases lp.k4 with h | ⟨j,_,hj⟩
      ·exact h
      ·exact (ta3 y j hj).elim
     ·have h8:=k8 _ _ h7 (neA lp.d h7 fun _=>nofun)
      have t8:=k8.tle lp.d.noT
      have nra:rl≠a:=fun y=>by obtain ⟨_,_,e,_⟩:=d8;rw [y,e] at h8;cases h8
      k_go
      refine bv h8 (lineM (by rw [xAo];lia)) ?_
      have t9:TLe H8 (upd H8 rl (.lst (.str z::vs++[v]))):=.upd fun zs z=>by rw [h8] at z;cases z
      k_go
      have lpk:=lp.k6
      have szf:Sz fl:=fit.szOf a8 a9 (by lia) (by lia) fun l' e=>by have:=hln l' e;lia
      refine ⟨kp,fs++[fl],_,_,rfl,cP (lp.k.trans k8) nr,d8.up nra,⟨_,ah,?_⟩,by simp [hn],fun j s fl' e1 e2=>?_,fun fl' hf=>?_,lp.k0,lp.k6,lp.k4.imp id fun ⟨j,hj,e⟩=>⟨j,by lia,e⟩,fun j hj e=>?_,fun j hj e=>?_⟩
      ·rw [xAi]
       exact ((hvs.le t8).snoc hv).le t9
      ·rcases dk e2 with ⟨_,e2⟩ | ⟨rfl,rfl⟩
       ·exact lp.f j s fl' e1 e2
       ·rw [hn,hsr] at e1
        cases e1
        exact fit
      ·rcases xAj.mp hf with hf | hf
       ·exact lp.z fl' hf
       ·rw [xAm.mp hf];exact szf
      ·have hj':j<i:=by
        rcases Nat.lt_or_ge j i with h | h
        ·exact h
        ·have:j=i:=by lia
         subst this
         rw [hsr] at e
         cases e
         exact (hs rfl).elim
       obtain ⟨n,c',g1,g2⟩:=lp.kc j hj' e
       exact ⟨n,c',by rw [List.getElem?_append_left (by lia)];exact g1,g2⟩
      ·rcases Nat.lt_or_ge j i with h | h
       ·obtain ⟨n,os,c',g1,g2,g3⟩:=lp.kk j h e
        have l1:=(xAq.mp g1).1
        exact ⟨n,os,c',by rw [List.getElem?_append_left l1];exact g1,by rw [List.getElem?_append_left (by lia)];exact g2,g3⟩
       ·have:j=i:=by lia
        subst this
        rw [hsr] at e
        cases e
        obtain ⟨e2,e1⟩:=ta1 rfl
        obtain ⟨n,c',g1,g2,g3,g4⟩:=lp.kc 1 (by lia) e1
        cases fit with
        | @kept os _ _ =>
         exact ⟨n,os,c',by rw [List.getElem?_append_left (by lia)];exact g1,by rw [List.getElem?_append_right (by lia),show j - fs.length=0 by lia];rfl,g2,g3,by have:=hln os rfl;lia⟩
   ·rintro σ H7 ⟨kp,fs,v9,v10,rfl,lp⟩
    rw [hsz] at lp
    obtain ⟨vs,h7,hvs⟩:=lp.l
    k_go
    refine bu h7 fun p8 H8 s8 n8 h8=>?_
    refine q (.ref p8) ⟨z,ss,fs⟩ H8 (lp.k.trans (.of s8)) (lp.d.same s8) ⟨p8,_,rfl,h8,_,_,rfl,rfl,hvs.mono s8⟩ ⟨ht,lp.n,lp.f,fun i e=>?_,lp.z⟩
    have hi:=(xAq.mp e).1
    obtain ⟨e2,_⟩:=(g9 ht i _ e).1 rfl
    obtain ⟨n,os,c',g1,g2,g3,g4,g5⟩:=lp.kk i hi e
    rw [e2] at g2
    exact ⟨e2,n,os,c',g1,g2,g3,g4,g5⟩
end
section
variable {P:Program} {w:World} {K:xFr} {mg:Str→Option Value} {base:Heap} {C aF aO:Addr}
theorem o7:∀ {gs:List Gr} {a:Nat},(∀ (j:Nat) (x:Gr),gs[j]?=some x→x.1.en=((a+((gs.take j).map (·.2.length)).sum:Nat):Int))→Ens a gs
 | [],_,_=>True.intro
 | x::gs,a,h=>by
  refine ⟨by simpa using h 0 x rfl,o7 fun j y e=>?_⟩
  have:=h (j+1) y (by simpa using e)
  rw [this]
  simp only [List.take_succ_cons,xBs,List.sum_cons]
  lia
structure Hd (cs:List Cd) (zs:List Nat):Prop where
 o:∀ (j:Nat) (c:Cd),cs[j]?=some c→CdOk c∧c.en=(((zs.take j).sum:Nat):Int)
 f:∀ c,cs[0]?=some c→c.pl=0∧c.pa=0∧c.kp=0∧c.en=0
theorem iM {zs:List Nat} (h:∀ z∈zs,z≤8) (hl:zs.length≤4) (j:Nat):(zs.take j).sum≤32:=by
 have:∀ l:List Nat,(∀ z∈l,z≤8)→l.sum≤8 * l.length:=by
  intro l
  induction l with
  | nil=>intro _;simp
  | cons x l ih =>
   intro h
   have h1:=h x (by simp)
   have h2:=ih fun z hz=>h z (xAs _ hz)
   rw [List.sum_cons,xAo]
   lia
 have h1:=this (zs.take j) fun z hz=>h z (xBj hz)
 rw [xAn] at h1
 lia
theorem ni {zs:List Nat} {j z:Nat} (h:zs[j]?=some z):(zs.take (j+1)).sum=(zs.take j).sum+z:=by
 rw [List.take_add_one,h]
 simp
structure Gp (cs:List Cd) (zs:List Nat) (gs:List Gr) (i:Nat):Prop where
 n:gs.length=i
 c:gs.map (·.1)=cs.take i
 z:gs.map (·.2.length)=zs.take i
 g:∀ x∈gs,GrOk cs x
def spLs:Sp:=fun vs H Q _=>∃ a:Addr,vs=[.ref a]∧Dg H a∧∀ (v:V) (gs:List Gr) (H':Hp),Kept [a] H H'→Dg H' a→Rp H' (prD gs) v→PrOk gs→Q v H'
def gls:Scope:={ kind:=.function,names:=[("_law_state_here",.cell),("_law_heads",.local),("_law_entry",.local),("_law_k",.local),("_law_sizes",.local),("_law_number",.local),("_law_size",.local),("_law_code",.local),("_law_rows_here",.local),("range",.globalImplicit),("_law_take",.globalImplicit),("enumerate",.globalImplicit),("tuple",.globalImplicit),("zip",.globalImplicit),("_law_row",.globalImplicit),("_law_operand",.globalImplicit)],isGenerator:=false,isCoroutine:=false,more:=[("fast",.str "_law_state_here"),("fast",.str "_law_heads"),("fast",.str "_law_entry"),("fast",.str "_law_k"),("fast",.str "_law_sizes"),("fast",.str "_law_number"),("fast",.str "_law_size"),("fast",.str "_law_code"),("fast",.str "_law_rows_here")] }
theorem scls:FnScope ["_law_state_here","_law_heads","_law_entry","_law_sizes","_law_number","_law_size","_law_code","_law_rows_here","_law_k"] ["_law_state_here"] gls:=⟨rfl,rfl,rfl,by decide +kernel,rfl,by decide +kernel,by decide +kernel⟩
theorem vU (F:Dn K mg "_law_rows" sLrows ["_law_state_here"]) (T:Txt w K mg C aF aO) (c__law_take:Cal P w K mg base "_law_take" 1 ["_law_state_here","_law_many"] spTake) (c__law_row:Cal P w K mg base "_law_row" 4 ["_law_state_here","_law_code","_law_many","_law_codes"] spLr) (c__law_operand:Cal P w K mg base "_law_operand" 2 ["_law_state_here","_law_slots"] spOp):Cal P w K mg base "_law_rows" 5 ["_law_state_here"] spLs:=by
 refine F.ok scls rfl (fun vs H Q E h=>?_) (fun f cdv A outer s H vs Q E hr h=>?_)
 ·obtain ⟨a,rfl,_⟩:=h
  rfl
 ·obtain ⟨a,rfl,hd,q⟩:=h
  have hu:=gf hr
  refine' ⟨?tt,QSs.h ?hh,?gg⟩
  case hh=>exact (ac (aA (i:=1) scls.nd rfl (Or.inl rfl) (bb ab))
   (ac (aA (i:=2) scls.nd rfl (Or.inl rfl) ag)
   (ac (eJ (i:=3) scls.nd rfl rfl (ls:=["_law_k"]) (N:=["_law_state_here"]) (fr:=[0]) rfl (CapsG.mk' rfl (by decide +kernel) rfl (by decide +kernel) (.cons ⟨⟨_,rfl,rfl⟩,rfl,rfl,rfl⟩ .nil) (by decide +kernel) rfl) (fW rfl T.zrange (ad (aq bZ ag (ap c__law_take hr rfl (ad (qv 0) (ad ag ab)))) ab)) (fun C s H fp=>(aj (i:=0) (show (["_law_k","_law_state_here"]:List Str).Nodup by decide +kernel) rfl (Or.inl rfl))) (fun C s H fp=>aI) (fun C s H fp=>(aq bZ ag (ap c__law_take hr rfl (ad (qv 1) (ad ag ab))))))
   (ac (cN PassesOwn.never rfl (i9 rfl T.zenumerate (ad (qv 3) ab)) (ee rfl (aG (aj (i:=4) scls.nd rfl (Or.inl rfl)) (aG (aj (i:=5) scls.nd rfl (Or.inl rfl)) cY)))
    (ac (aA (i:=6) scls.nd rfl (Or.inl rfl) (bb (ad (ap c__law_take hr rfl (ad (qv 0) (ad ag ab))) (ad (ap c__law_take hr rfl (ad (qv 0) (ad ag ab))) (ad (ap c__law_take hr rfl (ad (qv 0) (ad ag ab))) ab)))))
   (ac (av (ao aJ (qv 4) ag (nomark _)) (ae (aA (i:=6) scls.nd rfl (Or.inl rfl) (bb (ad ag (ad ag (ad ag ab)))))) ak)
   (ac (aR (bB PySem.F.plainAttrs_list PySem.F.slot_list_append PySem.F.type_list_append bf (qv 1) (ad (aN aW rfl T.ztuple bj (ad (aq eZ (qv 6) (bb (ad (aq bZ (aq bZ (aB aV (qv 6) ag) (aB aV (qv 6) ag)) (ap c__law_take hr rfl (ad (qv 0) (ad ag ab)))) (ad (qv 2) ab)))) ab)) ab)))
   (ae (aA (i:=2) scls.nd rfl (Or.inl rfl) (aq bZ (qv 2) (qv 5))))))))
   (ac (aA (i:=7) scls.nd rfl (Or.inl rfl) (bb ab))
   (ac (cN PassesOwn.never rfl (nJ rfl T.zzip (ad (qv 1) (ad (qv 3) ab))) (ee rfl (aG (aj (i:=6) scls.nd rfl (Or.inl rfl)) (aG (aj (i:=5) scls.nd rfl (Or.inl rfl)) cY)))
    (ac (cN PassesOwn.never rfl (fW rfl T.zrange (ad (aq eh (qv 5) ag) ab)) (aj (i:=8) scls.nd rfl (Or.inl rfl))
    (ae (aR (bB PySem.F.plainAttrs_list PySem.F.slot_list_append PySem.F.type_list_append bf (qv 7) (ad (ap c__law_row hr rfl (ad (qv 0) (ad (qv 6) (ad (qv 5) (ad (qv 1) ab))))) ab)))))
   (ae (aR (bB PySem.F.plainAttrs_list PySem.F.slot_list_append PySem.F.type_list_append bf (qv 7) (ad (dt (ad af (ad (ap c__law_operand hr rfl (ad (qv 0) (ad (aB aQ (qv 6) ag) ab))) ab))) ab))))))
   (ae (ai (dt (ad (aN aW rfl T.ztuple bj (ad (qv 1) ab)) (ad (aN aW rfl T.ztuple bj (ad (qv 7) ab)) ab)))))))))))
  have neA:∀ {b:Addr} {u:HO} {H':Hp},Dg H' a→H' b=some u→(∀ kvs,u≠.dK kvs)→b ∉ [a]:=fun {b u H'} d e hu z=>by
   obtain ⟨n,s,e',_⟩:=d
   rw [xAm.mp z,e'] at e
   cases e
   exact hu _ rfl
  k_go
  refine aZ fun hl H1 s1 n1 h1=>?_
  have d1:=hd.same s1
  k_go
  refine tk d1 (by decide) (by decide) fun i2 H2 i20 i21 k2 d2=>?_
  have h2:=k2 _ _ h1 (neA d1 h1 fun _=>nofun)
  have k02:Kept [a] H H2:=(Kept.of s1).trans k2
  k_go
  refine cX (by lia) (by lia) ?_
  refine rf (fp:=[a]) (Iv:=fun H=>Dg H a) (G:=fun i ds=>∃ zs:List Nat,ds=zs.map (fun z:Nat=>D.int (z:Int))∧zs.length=i∧∀ z∈zs,0<z∧z≤8) bT d2 (fun _ _ _=>True.intro) (fun H1 B u hB _ d1=>d1.up (fun z=>by obtain ⟨n,s,e,_⟩:=d2;rw [z,e] at hB;cases hB)) ⟨[],rfl,rfl,by simp⟩ (by lia) ?_ ?_
  ·rintro B ys ds i y H3 _ N1 N0 hi k3 t3 hB0 d3 ⟨zs,rfl,hz,hall⟩ hB ⟨rfl,rfl⟩ K1 K0
   k_go
   refine ⟨rfl,rfl,?_⟩
   k_go
   refine ⟨hB,?_⟩
   k_go
   refine tk d3 (by decide) (by decide) fun x H4 x0 x1 k4 d4=>?_
   have hB4:=k4 _ _ hB (neA d3 hB fun _=>nofun)
   k_go
   refine ⟨hB4,K1 _ (.int ((1+x.toNat:Nat):Int)) H4 k4 (k4.tle d3.noT) hB4 d4 (by show V.int _=V.int _;congr 1;lia) ⟨zs++[1+x.toNat],by simp,by simp [hz],fun z hz'=>?_⟩⟩
   rcases xAj.mp hz' with h | h
   ·exact hall z h
   ·rw [xAm.mp h]
    lia
  ·rintro szl H3 ds k3 t3 d3 n3 hL3 ⟨zs,rfl,hz,hall⟩
   have hzl:zs.length≤4:=by lia
   have hz0:0<zs.length:=by lia
   have hz8:∀ z∈zs,z≤8:=fun z hz=>(hall z hz).2
   have h3s:H3 szl=some (.lst ((zs.map fun z:Nat=>(z:Int)).map V.int)):=by
    have:LD H3 szl ((zs.map fun z:Nat=>(z:Int)).map D.int):=by rw [xCc];exact hL3
    exact this.ints
   have h3:=k3 _ _ h2 (neA d2 h2 fun _=>nofun)
   have k03:=k02.trans k3
   have nhs:hl≠szl:=fun z=>by rw [z,n3] at h2;cases h2
   have nsz0:H szl=none:=Dg.free k02 d2 n3
   k_go
   refine cQ (kh (xs:=(zs.map fun z:Nat=>(z:Int)).map V.int)) (fun i σ H4=>∃ (cs:List Cd) (v4 v5 v6 v7 v8:Option V),σ=[some (.ref a),some (.ref hl),some (.int (((zs.take i).sum:Nat):Int)),some (.ref szl),v4,v5,v6,v7,v8]∧Kept [a] H H4∧Dg H4 a∧LD H4 hl (cs.map Cd.d)∧H4 szl=some (.lst ((zs.map fun z:Nat=>(z:Int)).map V.int))∧cs.length=i∧Hd cs zs) ⟨[],_,_,_,_,_,rfl,k03,d3,⟨[],h3,rfl⟩,h3s,rfl,⟨fun j c e=>by simp at e,fun c e=>by simp at e⟩⟩ (by rintro i σ H4 _ ⟨_,_,_,_,_,_,_,_,_,_,z,_⟩;exact .of z) ?_ ?_
   ·rintro i σ H4 y _ hi ⟨cs,v4,v5,v6,v7,v8,rfl,k4,d4,⟨us,hl4,rus⟩,hs4,hcs,hHd⟩ ⟨p5,v,rfl,n5,rfl,hv⟩
    rw [xAa,xAa] at hi
    obtain ⟨z,hzi⟩:∃ z,zs[i]?=some z:=⟨_,xAk hi⟩
    rw [xAw,xAw,hzi] at hv
    cases hv
    have s5:Same H4 (upd H4 p5 (.tup [.int i,.int ((z:Nat):Int)])):=aw n5 _
    have h5:upd H4 p5 (.tup [.int i,.int ((z:Nat):Int)]) p5=some (.tup [.int i,.int ((z:Nat):Int)]):=ah
    generalize upd H4 p5 (.tup [.int i,.int ((z:Nat):Int)])=H5 at s5 h5
    have d5:=d4.same s5
    have k05:=k4.trans (Kept.of s5)
    have lu:=rus.mapLen
    have hsum:=iM hz8 hzl i
    have d0:=hd
    k_go
    refine tk d5 (by decide) (by decide) fun x1 H6 x10 x11 k6 d6=>?_
    k_go
    refine tk d6 (by decide) (by decide) fun x2 H7 x20 x21 k7 d7=>?_
    k_go
    refine tk d7 (by decide) (by decide) fun x3 H8 x30 x31 k8 d8=>?_
    k_go
    refine aZ fun lc H9 s9 n9 h9=>?_
    have k49:Kept [a] H4 H9:=(Kept.of s5).trans (k6.trans (k7.trans (k8.trans (.of s9))))
    have d9:=d8.same s9
    refine fV ?_
    dsimp only
    refine kC (fun σ' H'=>∃ (lc:Addr) (x1 x2 x3:Int) (v7 v8:Option V),σ'=[some (.ref a),some (.ref hl),some (.int (((zs.take i).sum:Nat):Int)),some (.ref szl),some (.int i),some (.int ((z:Nat):Int)),some (.ref lc),v7,v8]∧Kept [a] H4 H'∧Dg H' a∧H' lc=some (.lst [.int x1,.int x2,.int x3])∧0≤x1∧x1<600∧0≤x2∧x2<5∧0≤x3∧x3<7∧(i=0→x1=0∧x2=0∧x3=0)) ?core ?main
    case main =>
     intro core
     k_go
     refine dH (fun y=>?_) (fun y=>?_)
     ·k_go
      refine aZ fun l3 H10 s10 n10 h10=>?_
      refine fV ?_
      exact core _ _ ⟨l3,0,0,0,_,_,rfl,k49.trans (.of s10),d9.same s10,h10,by decide,by decide,by decide,by decide,by decide,by decide,fun _=>⟨rfl,rfl,rfl⟩⟩
     ·have y:=of_decide_eq_false y
      refine jP ?_
      exact core _ _ ⟨lc,x1,x2,x3,_,_,rfl,k49,d9,h9,x10,x11,x20,x21,x30,x31,fun z=>by lia⟩
    case core =>
     rintro σ' H10 ⟨lc,x1,x2,x3,v7,v8,rfl,k10,d10,h10,a1,a2,a3,a4,a5,a6,az⟩
     have hl10:=k10 _ _ hl4 (neA d4 hl4 fun _=>nofun)
     have hs10:=k10 _ _ hs4 (neA d4 hs4 fun _=>nofun)
     have t10:=k10.tle d4.noT
     k_go
     refine tk d10 (by decide) (by decide) fun x4 H11 x40 x41 k11 d11=>?_
     have h11:=k11 _ _ h10 (neA d10 h10 fun _=>nofun)
     have hl11:=k11 _ _ hl10 (neA d10 hl10 fun _=>nofun)
     have hs11:=k11 _ _ hs10 (neA d10 hs10 fun _=>nofun)
     have t11:=k11.tle d10.noT
     k_go
     refine aZ fun l12 H12 s12 n12 h12=>?_
     k_go
     refine gD (s12 _ _ h11) h12 (lineMe (by show 3+2≤16000000;decide)) fun l13 H13 s13 n13 h13=>?_
     k_go
     refine bu h13 fun p14 H14 s14 n14 h14=>?_
     have s1114:=s12.trans (s13.trans s14)
     have hl14:=s1114 _ _ hl11
     have hs14:=s1114 _ _ hs11
     have d14:=d11.same s1114
     k_go
     refine bv hl14 (lineM (by lia)) ?_
     have nla:hl≠a:=fun y=>by obtain ⟨_,_,e,_⟩:=d14;rw [y,e] at hl14;cases hl14
     have t15:TLe H14 (upd H14 hl (.lst (us++[.ref p14]))):=.upd fun zs z=>by rw [hl14] at z;cases z
     have d15:Dg (upd H14 hl (.lst (us++[.ref p14]))) a:=d14.up nla
     have k15:Kept [a] H (upd H14 hl (.lst (us++[.ref p14]))):=cP (k4.trans (k10.trans (k11.trans (.of s1114)))) n1
     have hs15:upd H14 hl (.lst (us++[.ref p14])) szl=some (.lst ((zs.map fun z:Nat=>(z:Int)).map V.int)):=by rw [am nhs.symm];exact hs14
     have hl15:upd H14 hl (.lst (us++[.ref p14])) hl=some (.lst (us++[.ref p14])):=ah
     generalize upd H14 hl (.lst (us++[.ref p14]))=H15 at t15 d15 k15 hs15 hl15
     k_go
     refine ⟨cs++[⟨x1,x2,x3,x2+x3+x4,(((zs.take i).sum:Nat):Int)⟩],_,_,_,_,_,by rw [ni hzi];rfl,k15,d15,⟨_,hl15,?_⟩,hs15,by simp [hcs],⟨fun j c e=>?_,fun c e=>?_⟩⟩
     ·rw [xAi]
      refine (Rps.snoc ((rus.le t10).le t11 |>.mono s1114) (d:=Cd.d ⟨x1,x2,x3,x2+x3+x4,(((zs.take i).sum:Nat):Int)⟩) ?_).le t15
      exact ⟨p14,_,rfl,h14,.ofInts [x1,x2,x3,x2+x3+x4,(((zs.take i).sum:Nat):Int)]⟩
     ·rcases dk e with ⟨_,e⟩ | ⟨rfl,rfl⟩
      ·exact hHd.o j c e
      ·exact ⟨⟨a1,by show x1≤599;lia,a3,by show x2≤300;lia,a5,by show x3≤6;lia,by show x2+x3≤x2+x3+x4;lia,by show x2+x3+x4≤21;lia,by show 0≤(((zs.take i).sum:Nat):Int);lia,by show (((zs.take i).sum:Nat):Int)≤500;lia⟩,by rw [hcs]⟩
     ·rcases dk e with ⟨_,e⟩ | ⟨h0,rfl⟩
      ·exact hHd.f c e
      ·have i0:i=0:=by lia
       subst i0
       obtain ⟨z1,z2,z3⟩:=az rfl
       exact ⟨z1,z2,z3,rfl⟩
   ·rintro σ H4 ⟨cs,v4,v5,v6,v7,v8,rfl,k4,d4,hl4,hs4,hcs,hHd⟩
    rw [xAa,xAa] at hcs
    obtain ⟨us,hus,rus⟩:=hl4
    have lu:=rus.mapLen
    have cok:∀ c'∈cs,CdOk c':=fun c' hc'=>by
     obtain ⟨j,hj⟩:=List.getElem?_of_mem hc'
     exact (hHd.o j c' hj).1
    k_go
    refine aZ fun rl H5 s5 n5 h5=>?_
    have nr0:H rl=none:=Dg.free k4 d4 n5
    have hus5:=s5 _ _ hus
    have hs5:=s5 _ _ hs4
    have nru:hl≠rl:=fun z=>by rw [z,n5] at hus;cases hus
    have nrs:szl≠rl:=fun z=>by rw [z,n5] at hs4;cases hs4
    have d5:=d4.same s5
    k_go
    refine kE hus5 hs5 ?_
    refine cQ (mX (xs:=us) (ys:=(zs.map fun z:Nat=>(z:Int)).map V.int) (by rw [xAa,xAa];lia)) (fun i σ H6=>∃ (gs:List Gr) (v4 v5 v6 v8:Option V),σ=[some (.ref a),some (.ref hl),some (.int (((zs.take (((zs.map fun z:Nat=>(z:Int)).map V.int).length)).sum:Nat):Int)),some (.ref szl),v4,v5,v6,some (.ref rl),v8]∧Kept [a] H H6∧Dg H6 a∧TLe H5 H6∧H6 hl=some (.lst us)∧H6 szl=some (.lst ((zs.map fun z:Nat=>(z:Int)).map V.int))∧LD H6 rl ((rowsOf gs).map Rw.d)∧Gp cs zs gs i) ⟨[],_,_,_,_,rfl,k4.trans (.of s5),d5,.refl,hus5,hs5,⟨[],h5,rfl⟩,⟨rfl,rfl,rfl,by simp⟩⟩ (by rintro i σ H6 _ ⟨_,_,_,_,_,_,_,_,_,z1,z2,_⟩;exact ⟨.of z1,.of z2⟩) ?_ ?_
    ·rintro i σ H6 y _ hi ⟨gs,v4,v5,v6,v8,rfl,k6,d6,t6,hu6,hs6,hr6,gp⟩ ⟨p7,u,v,rfl,n7,rfl,hu,hv⟩
     have hiz:i<zs.length:=by lia
     obtain ⟨z,hzi⟩:∃ z,zs[i]?=some z:=⟨_,xAk hiz⟩
     rw [xAw,xAw,hzi] at hv
     cases hv
     obtain ⟨c,hci,hrc⟩:=rus.mapGet' hu
     have s7:Same H6 (upd H6 p7 (.tup [u,.int ((z:Nat):Int)])):=aw n7 _
     have h7:upd H6 p7 (.tup [u,.int ((z:Nat):Int)]) p7=some (.tup [u,.int ((z:Nat):Int)]):=ah
     generalize upd H6 p7 (.tup [u,.int ((z:Nat):Int)])=H7 at s7 h7
     obtain ⟨pc,rfl,hpc⟩:=fu (((hrc.mono s5).le t6).mono s7)
     have d7:=d6.same s7
     have hu7:=s7 _ _ hu6
     have hs7:=s7 _ _ hs6
     have hr7:=hr6.mono s7
     have okc:=hHd.o i c hci
     have hzb:=hall z (xAc hzi)
     have ru7:Rps H7 (cs.map Cd.d) us:=((rus.mono s5).le t6).mono s7
     have ccm:=xAc hci
     k_go
     refine cX (by lia) (by lia) ?_
     rw [show (((z:Nat):Int) - 1).toNat=z - 1 by lia]
     have hrows:(rowsOf gs).length≤32:=by
      have e1:(rowsOf gs).length=(gs.map (·.2.length)).sum:=by unfold rowsOf;rw [List.length_flatMap]
      rw [e1,gp.z]
      exact iM hz8 hzl i
     refine cQ bT (fun j σ H8=>∃ (rs:List Rw) (v8:Option V),σ=[some (.ref a),some (.ref hl),some (.int (((zs.take (((zs.map fun z:Nat=>(z:Int)).map V.int).length)).sum:Nat):Int)),some (.ref szl),v4,some (.int ((z:Nat):Int)),some (.ref pc),some (.ref rl),v8]∧Kept [a] H H8∧Dg H8 a∧TLe H7 H8∧H8 hl=some (.lst us)∧H8 szl=some (.lst ((zs.map fun z:Nat=>(z:Int)).map V.int))∧LD H8 rl ((rowsOf gs++rs).map Rw.d)∧rs.length=j∧∀ r∈rs,RwOk c (c.en+((z:Nat):Int)) cs r) ⟨[],_,rfl,k6.trans (.of s7),d7,.refl,hu7,hs7,by rw [List.append_nil];exact hr7,rfl,by simp⟩ (fun _ _ _ _ _=>True.intro) ?_ ?_
     ·rintro j σ _ y H8 hj ⟨rs,v8,rfl,k8,d8,t8,hu8,hs8,⟨ws,hr8,rws⟩,hrs,hok⟩ ⟨rfl,rfl⟩
      have lw:=rws.mapLen
      rw [xAb] at lw
      k_go
      refine ⟨a,pc,hl,c,((z:Nat):Int),cs,rfl,d8,t8 _ _ hpc,okc.1,by lia,by lia,⟨us,hu8,ru7.le t8⟩,by lia,by lia,cok,fun v r H9 k9 d9 hv rok=>?_⟩
      have hr9:=k9 _ _ hr8 (neA d8 hr8 fun _=>nofun)
      have hu9:=k9 _ _ hu8 (neA d8 hu8 fun _=>nofun)
      have hs9:=k9 _ _ hs8 (neA d8 hs8 fun _=>nofun)
      have t9:=k9.tle d8.noT
      have nra:rl≠a:=fun y=>by obtain ⟨_,_,e,_⟩:=d9;rw [y,e] at hr9;cases hr9
      have t10:TLe H9 (upd H9 rl (.lst (ws++[v]))):=.upd fun zs z=>by rw [hr9] at z;cases z
      k_go
      refine bv hr9 (lineM (by lia)) ?_
      k_go
      refine ⟨rs++[r],_,rfl,cP (k8.trans k9) nr0,d9.up nra,t8.trans (t9.trans t10),by rw [am nru];exact hu9,by rw [am nrs];exact hs9,⟨_,ah,?_⟩,by simp [hrs],fun x hx=>?_⟩
      ·rw [← xAx,xAi]
       exact ((rws.le t9).snoc hv).le t10
      ·rcases xAj.mp hx with hx | hx
       ·exact hok x hx
       ·rw [xAm.mp hx];exact rok
     ·rintro σ H8 ⟨rs,v8,rfl,k8,d8,t8,hu8,hs8,⟨ws,hr8,rws⟩,hrs,hok⟩
      have lw:=rws.mapLen
      rw [xAb] at lw
      have hpc8:=t8 _ _ hpc
      have b7:=okc.1.a7
      have b8:=okc.1.a8
      have b3:=okc.1.a3
      have b5:=okc.1.a5
      have b9:=okc.1.a9
      have ba:=okc.1.aa
      k_go
      refine ⟨a,c.sl,rfl,d8,by lia,b8,fun v b H9 k9 d9 hv hb=>?_⟩
      have hr9:=k9 _ _ hr8 (neA d8 hr8 fun _=>nofun)
      have hu9:=k9 _ _ hu8 (neA d8 hu8 fun _=>nofun)
      have hs9:=k9 _ _ hs8 (neA d8 hs8 fun _=>nofun)
      have t9:=k9.tle d8.noT
      k_go
      refine cM fun p10 H10 s10 n10 h10=>?_
      have hr10:=s10 _ _ hr9
      have d10:=d9.same s10
      have nra:rl≠a:=fun y=>by obtain ⟨_,_,e,_⟩:=d10;rw [y,e] at hr10;cases hr10
      have t11:TLe H10 (upd H10 rl (.lst (ws++[.ref p10]))):=.upd fun zs z=>by rw [hr10] at z;cases z
      have fitb:Fit c (c.en+((z:Nat):Int)) cs.length .opd (.opn b):=.opd hb
      have rb:RwOk c (c.en+((z:Nat):Int)) cs ⟨"back",[.opd],[.opn b]⟩:=by
       refine ⟨by simp [tab],rfl,fun i s f e1 e2=>?_,fun i e=>?_,fun f hf=>?_⟩
       ·cases i with
        | zero=>cases e1;cases e2;exact fitb
        | succ i=>simp at e1
       ·cases i with
        | zero=>cases e
        | succ i=>simp at e
       ·rw [xAm.mp hf]
        exact fitb.szOf b8 b9 (by lia) (by lia) fun l e=>by cases e
      k_go
      refine bv hr10 (lineM (by lia)) ?_
      k_go
      have er:rowsOf (gs++[(c,rs++[⟨"back",[.opd],[.opn b]⟩])])=rowsOf gs++rs++[⟨"back",[.opd],[.opn b]⟩]:=by
       unfold rowsOf
       rw [List.flatMap_append]
       simp
      have lz:(rs++[(⟨"back",[.opd],[.opn b]⟩:Rw)]).length=z:=by rw [xAb,hrs,xAt];lia
      refine ⟨gs++[(c,rs++[⟨"back",[.opd],[.opn b]⟩])],_,_,_,_,rfl,cP (k8.trans (k9.trans (.of s10))) nr0,d10.up nra,((TLe.of s7).trans t8 |> t6.trans).trans ((t9.trans (.of s10)).trans t11),by rw [am nru];exact s10 _ _ hu9,by rw [am nrs];exact s10 _ _ hs9,⟨_,ah,?_⟩,⟨by simp [gp.n],?_,?_,fun x hx=>?_⟩⟩
      ·rw [er,xAi]
       exact (((rws.le t9).mono s10).snoc (d:=Rw.d ⟨"back",[.opd],[.opn b]⟩) ⟨p10,_,rfl,h10,_,_,rfl,rfl,.one (hv.mono s10)⟩).le t11
      ·rw [xAi,gp.c,List.take_add_one,hci]
       rfl
      ·rw [xAi,gp.z,List.take_add_one,hzi,List.map_singleton,lz]
       rfl
      ·rcases xAj.mp hx with hx | hx
       ·exact gp.g x hx
       ·rw [xAm.mp hx]
        refine ⟨okc.1,by rw [lz];exact hzb.1,by rw [lz];exact hzb.2,fun r hr=>?_,fun r hr=>?_⟩
        ·rw [lz]
         rcases xAj.mp hr with hr | hr
         ·exact hok r hr
         ·rw [xAm.mp hr];exact rb
        ·have hr:(rs++[(⟨"back",[.opd],[.opn b]⟩:Rw)])[(rs++[(⟨"back",[.opd],[.opn b]⟩:Rw)]).length - 1]?=some r:=hr
         rw [xAb,xAt,Nat.add_sub_cancel,List.getElem?_append_right (xAg _),Nat.sub_self] at hr
         cases hr
         rfl
    ·rintro σ H6 ⟨gs,v4,v5,v6,v8,rfl,k6,d6,t6,hu6,hs6,⟨ws,hr6,rws⟩,gp⟩
     have egl:gs.length=zs.length:=by rw [gp.n];lia
     have ec:heads gs=cs:=by
      unfold heads
      rw [gp.c,List.take_of_length_le (by lia)]
     have ez:gs.map (·.2.length)=zs:=by rw [gp.z,List.take_of_length_le (by lia)]
     k_go
     refine bu hu6 fun p7 H7 s7 n7 h7=>?_
     k_go
     refine bu (s7 _ _ hr6) fun p8 H8 s8 n8 h8=>?_
     k_go
     refine cM fun p9 H9 s9 n9 h9=>?_
     have s69:=s7.trans (s8.trans s9)
     refine q (.ref p9) gs H9 (k6.trans (.of s69)) (d6.same s69) ⟨p9,_,rfl,h9,_,_,rfl,⟨p7,us,rfl,s9 _ _ (s8 _ _ h7),?_⟩,_,_,rfl,⟨p8,ws,rfl,s9 _ _ h8,rws.mono s69⟩,rfl⟩ ⟨by lia,by lia,o7 fun j x e=>?_,fun x hx=>by rw [ec];exact gp.g x hx,fun x e=>?_⟩
     ·rw [ec]
      exact ((rus.mono s5).le t6).mono s69
     ·have hc:cs[j]?=some x.1:=by rw [← ec];unfold heads;rw [xAw,e];rfl
      rw [(hHd.o j _ hc).2,Nat.zero_add,List.map_take,ez]
     ·exact hHd.f x.1 (by rw [← ec];unfold heads;rw [xAw,e];rfl)
end
section
variable {P:Program} {w:World} {K:xFr} {mg:Str→Option Value} {base:Heap} {C aF aO:Addr}
def spQt:Sp:=fun vs H Q _=>∃ (v:V) (b:Bool×Int),vs=[v]∧Rp H (opD b) v∧b.2.natAbs<10 ^ 12∧Q (.str (opT b)) H
def gqt:Scope:={ kind:=.function,names:=[("_law_operand_here",.local),("int",.globalImplicit),("str",.globalImplicit)],isGenerator:=false,isCoroutine:=false,more:=[] }
theorem scqt:FnScope ["_law_operand_here"] ["_law_operand_here"] gqt:=⟨rfl,rfl,rfl,by decide +kernel,rfl,by decide +kernel,by decide +kernel⟩
theorem vJ (F:Dn K mg "_law_operand_text" aY ["_law_operand_here"]) (T:Txt w K mg C aF aO):Cal P w K mg base "_law_operand_text" 1 ["_law_operand_here"] spQt:=by
 refine F.ok scqt rfl (fun vs H Q E h=>?_) (fun f cdv A outer s H vs Q E hr h=>?_)
 ·obtain ⟨v,b,rfl,_⟩:=h
  rfl
 ·obtain ⟨v,⟨b,n⟩,rfl,hv,hn,q⟩:=h
  refine' ⟨?tt,QSs.h ?hh,?gg⟩
  case hh=>exact (ae (ai (aq ck (aq qS af (aN lD rfl T.zint fv (ad (aM aJ (aB aQ (qv 0) ag) af (nomark _)) ab))) (aN dN rfl T.zstr dE (ad (aB aQ (qv 0) ag) ab)))))
  obtain ⟨p,rfl,hp⟩:=oB hv
  have hl:=(bi hn).2.2
  have hl':(tx n).length≤13:=hl
  have es:=iU
  cases b
  ·have hp:H p=some (.tup [.str "number",.int n]):=hp
   k_go
   refine nE (k:=false) ?_
   k_go
   refine bV hn ?_
   refine bC (by show 0+(tx n).length≤_;lia) ?_
   show Q (.str (Str.empty++tx n)) H
   rw [dl]
   exact q
  ·have hp:H p=some (.tup [.str "slot",.int n]):=hp
   k_go
   refine nE (k:=true) ?_
   k_go
   refine bV hn ?_
   simp only [if_true]
   rw [es]
   refine bC (by show 1+(tx n).length≤_;lia) ?_
   exact q
end
section
variable {P:Program} {w:World} {K:xFr} {mg:Str→Option Value} {base:Heap} {C aF aO:Addr}
def spQf:Sp:=fun vs H Q _=>∃ (c:Cd) (e:Int) (nc:Nat) (sr:Srt) (fl:Fl) (v:V),vs=[.str (one sr.ch),v]∧Fit c e nc sr fl∧Bnd' c e nc∧Sz fl∧Rp H fl.d v∧∀ H',Same H H'→Q (.str fl.tx) H'
def gqf:Scope:={ kind:=.function,names:=[("_law_sort",.local),("_law_field_here",.local),("str",.globalImplicit),("_law_operand_text",.globalImplicit)],isGenerator:=false,isCoroutine:=false,more:=[("fast",.str "_law_sort"),("fast",.str "_law_field_here"),("fast",.str "_law_one")] }
theorem scqf:FnScope ["_law_sort","_law_field_here"] ["_law_sort","_law_field_here"] gqf:=⟨rfl,rfl,rfl,by decide +kernel,rfl,by decide +kernel,by decide +kernel⟩
theorem vK (F:Dn K mg "_law_field_text" bA ["_law_sort","_law_field_here"]) (T:Txt w K mg C aF aO) (c__law_operand_text:Cal P w K mg base "_law_operand_text" 1 ["_law_operand_here"] spQt):Cal P w K mg base "_law_field_text" 2 ["_law_sort","_law_field_here"] spQf:=by
 refine F.ok scqf rfl (fun vs H Q E h=>?_) (fun f cdv A outer s H vs Q E hr h=>?_)
 ·obtain ⟨c,e,nc,sr,fl,v,rfl,_⟩:=h
  rfl
 ·obtain ⟨c,e,nc,sr,fl,v,rfl,hf,hb,hz,hv,q⟩:=h
  have hu:=gf hr
  refine' ⟨?tt,QSs.h ?hh,?gg⟩
  case hh=>exact (ac (av (ao aJ (qv 0) af (nomark _)) (ae (ai (aq ck af (aN dN rfl T.zstr dE (ad (qv 1) ab))))) ak)
   (ac (av (ao aJ (qv 0) af (nomark _)) (ae (ai (ap c__law_operand_text hr rfl (ad (qv 1) ab)))) ak)
   (ac (av (ao aJ (qv 0) af (nomark _)) (ae (ai (aq ck (aq ck af (bB PySem.F.plainAttrs_str PySem.F.slot_str_join PySem.F.type_str_join cE af (ad (bh (ls:=["_law_one"]) (N:=[]) (fr:=[]) rfl (CapsG.mk' rfl (by decide +kernel) rfl (by decide +kernel) .nil (by decide +kernel) rfl) (c8 (qv 1)) (fun C s H fp=>(aj (i:=0) (show (["_law_one"]:List Str).Nodup by decide +kernel) rfl (Or.inl rfl))) (fun C s H fp=>aI) (fun C s H fp=>(ap c__law_operand_text hr rfl (ad (qv 0) ab)))) ab))) af))) ak)
   (ac (av (dY (eY (qv 0) (ad af (ad af ab))) rfl) (ae (ai (aq ck (aq ck af (bB PySem.F.plainAttrs_str PySem.F.slot_str_join PySem.F.type_str_join cE af (ad (bh (ls:=["_law_one"]) (N:=[]) (fr:=[]) rfl (CapsG.mk' rfl (by decide +kernel) rfl (by decide +kernel) .nil (by decide +kernel) rfl) (c8 (qv 1)) (fun C s H fp=>(aj (i:=0) (show (["_law_one"]:List Str).Nodup by decide +kernel) rfl (Or.inl rfl))) (fun C s H fp=>aI) (fun C s H fp=>(aq ck af (aN dN rfl T.zstr dE (ad (qv 0) ab))))) ab))) af))) ak)
   (ae (ai (aN dN rfl T.zstr dE (ad (qv 1) ab))))))))
  have bs:=hb.s
  have be:=hb.e
  have bn:=hb.n
  have bc:=hb.c
  cases hf with
  | @slot n a b =>
   obtain rfl:v = .int n:=hv
   k_go
   refine bV (by lia) ?_
   rw [iU]
   refine bC (by have:(tx n).length≤13:=(bi (n:=n) (by lia)).2.2;show 1+_≤_;lia) ?_
   exact q _ fun _ _ e=>e
  | @opd x a =>
   k_go
   exact ⟨v,x,rfl,hv,a.small bs,q _ fun _ _ e=>e⟩
  | @opds l a b =>
   obtain ⟨p,vs,rfl,hp,hvs⟩:=hv
   have hlen:=hvs.mapLen
   have e1:("[":Str)=one 91:=by decide +kernel
   have e2:("]":Str)=one 93:=by decide +kernel
   have e3:(" ":Str)=one 32:=by decide +kernel
   k_go
   refine bm ?_
   k_go
   refine cr (l:=l) (bK (xs:=vs)) hlen (fun H' s'=>.of (s' _ _ hp)) (fun n=>.str (opT n)) (by lia) ?_ ?_
   ·rintro B ys i n x H1 _ N1 N0 hn s1 hB ⟨rfl,hx⟩ k1
    obtain ⟨n',hn',hr'⟩:=hvs.mapGet' hx
    rw [hn] at hn'
    cases hn'
    have hm:=xAc hn
    k_go
    refine ⟨rfl,rfl,?_⟩
    k_go
    refine ⟨hB,?_⟩
    k_go
    exact ⟨x,n,rfl,hr'.mono s1,(b n hm).small hb.s,hB,k1 _ _ (fun _ _ e=>e) rfl⟩
   ·intro B H1 s1 n1 h1
    have h1:LD H1 B ((l.map opT).map D.str):=by rw [xCc];exact h1
    have bl:∀ w∈l.map opT,w.length≤1000:=fun u hu=>by
     obtain ⟨n,hn,rfl⟩:=xA2.mp hu
     exact fE ((b n hn).small hb.s)
    have hj:=bH (s:=one 32) (ts:=l.map opT) (B:=1001) fun t ht=>by have:=bl t ht;show _+1≤_;lia
    rw [xAa] at hj
    have h2:l.length * 1001≤1000 * 1001:=Nat.mul_le_mul_right _ (by lia)
    k_go
    refine cy (B:=1000) h1.strs bl (by rw [e3,xAa];show l.length * (1000+1)≤_;lia) ?_
    rw [e3]
    rw [e1]
    refine bC (by show 1+_≤_;lia) ?_
    k_go
    rw [e2]
    refine bC (by rw [strLen_append];show 1+_+1≤_;lia) ?_
    exact q _ s1
  | @kept l a b =>
   obtain ⟨p,vs,rfl,hp,hvs⟩:=hv
   have hlen:=hvs.mapLen
   have e1:("[":Str)=one 91:=by decide +kernel
   have e2:("]":Str)=one 93:=by decide +kernel
   have e3:(" ":Str)=one 32:=by decide +kernel
   k_go
   refine bm ?_
   k_go
   refine cr (l:=l) (bK (xs:=vs)) hlen (fun H' s'=>.of (s' _ _ hp)) (fun n=>.str (opT n)) (by lia) ?_ ?_
   ·rintro B ys i n x H1 _ N1 N0 hn s1 hB ⟨rfl,hx⟩ k1
    obtain ⟨n',hn',hr'⟩:=hvs.mapGet' hx
    rw [hn] at hn'
    cases hn'
    have hm:=xAc hn
    k_go
    refine ⟨rfl,rfl,?_⟩
    k_go
    refine ⟨hB,?_⟩
    k_go
    exact ⟨x,n,rfl,hr'.mono s1,(b n hm).small hb.s,hB,k1 _ _ (fun _ _ e=>e) rfl⟩
   ·intro B H1 s1 n1 h1
    have h1:LD H1 B ((l.map opT).map D.str):=by rw [xCc];exact h1
    have bl:∀ w∈l.map opT,w.length≤1000:=fun u hu=>by
     obtain ⟨n,hn,rfl⟩:=xA2.mp hu
     exact fE ((b n hn).small hb.s)
    have hj:=bH (s:=one 32) (ts:=l.map opT) (B:=1001) fun t ht=>by have:=bl t ht;show _+1≤_;lia
    rw [xAa] at hj
    have h2:l.length * 1001≤1000 * 1001:=Nat.mul_le_mul_right _ (by lia)
    k_go
    refine cy (B:=1000) h1.strs bl (by rw [e3,xAa];show l.length * (1000+1)≤_;lia) ?_
    rw [e3]
    rw [e1]
    refine bC (by show 1+_≤_;lia) ?_
    k_go
    rw [e2]
    refine bC (by rw [strLen_append];show 1+_+1≤_;lia) ?_
    exact q _ s1
  | @word z a =>
   obtain rfl:v = .str z:=hv
   k_go
   exact q _ fun _ _ e=>e
  | @op z a =>
   obtain rfl:v = .str z:=hv
   k_go
   exact q _ fun _ _ e=>e
  | @code n a b =>
   obtain rfl:v = .int n:=hv
   k_go
   exact bV (by lia) (q _ fun _ _ e=>e)
  | @place n a b =>
   obtain rfl:v = .int n:=hv
   k_go
   exact bV (by lia) (q _ fun _ _ e=>e)
  | @row n a b =>
   obtain rfl:v = .int n:=hv
   k_go
   exact bV (by lia) (q _ fun _ _ e=>e)
  | @live l a b =>
   have hfew:=gb a b bs
   obtain ⟨p,vs,rfl,hp,hvs⟩:=hv
   have hlen:=hvs.mapLen
   have e1:("[":Str)=one 91:=by decide +kernel
   have e2:("]":Str)=one 93:=by decide +kernel
   have e3:(" ":Str)=one 32:=by decide +kernel
   k_go
   refine bm ?_
   k_go
   refine cr (l:=l) (bK (xs:=vs)) hlen (fun H' s'=>.of (s' _ _ hp)) (fun n=>.str (slT n)) (by lia) ?_ ?_
   ·rintro B ys i n x H1 _ N1 N0 hn s1 hB ⟨rfl,hx⟩ k1
    obtain ⟨n',hn',hr'⟩:=hvs.mapGet' hx
    rw [hn] at hn'
    cases hn'
    have hm:=xAc hn
    k_go
    refine ⟨rfl,rfl,?_⟩
    k_go
    refine ⟨hB,?_⟩
    k_go
    obtain rfl:x = .int n:=hr'
    have hnn:=b n hm
    refine bV (by lia) ?_
    rw [iU]
    refine bC (by have:(tx n).length≤13:=(bi (n:=n) (by lia)).2.2;show 1+_≤_;lia) ?_
    exact ⟨hB,k1 _ _ (fun _ _ e=>e) rfl⟩
   ·intro B H1 s1 n1 h1
    have h1:LD H1 B ((l.map slT).map D.str):=by rw [xCc];exact h1
    have bl:∀ w∈l.map slT,w.length≤1000:=fun u hu=>by
     obtain ⟨n,hn,rfl⟩:=xA2.mp hu
     exact eB (by have:=b n hn;have:=hb.s;lia)
    have hj:=bH (s:=one 32) (ts:=l.map slT) (B:=1001) fun t ht=>by have:=bl t ht;show _+1≤_;lia
    rw [xAa] at hj
    have h2:l.length * 1001≤1000 * 1001:=Nat.mul_le_mul_right _ (by lia)
    k_go
    refine cy (B:=1000) h1.strs bl (by rw [e3,xAa];show l.length * (1000+1)≤_;lia) ?_
    rw [e3]
    rw [e1]
    refine bC (by show 1+_≤_;lia) ?_
    k_go
    rw [e2]
    refine bC (by rw [strLen_append];show 1+_+1≤_;lia) ?_
    exact q _ s1
  | @slots l a d b =>
   obtain ⟨p,vs,rfl,hp,hvs⟩:=hv
   have hlen:=hvs.mapLen
   have e1:("[":Str)=one 91:=by decide +kernel
   have e2:("]":Str)=one 93:=by decide +kernel
   have e3:(" ":Str)=one 32:=by decide +kernel
   k_go
   refine bm ?_
   k_go
   refine cr (l:=l) (bK (xs:=vs)) hlen (fun H' s'=>.of (s' _ _ hp)) (fun n=>.str (slT n)) (by lia) ?_ ?_
   ·rintro B ys i n x H1 _ N1 N0 hn s1 hB ⟨rfl,hx⟩ k1
    obtain ⟨n',hn',hr'⟩:=hvs.mapGet' hx
    rw [hn] at hn'
    cases hn'
    have hm:=xAc hn
    k_go
    refine ⟨rfl,rfl,?_⟩
    k_go
    refine ⟨hB,?_⟩
    k_go
    obtain rfl:x = .int n:=hr'
    have hnn:=b n hm
    refine bV (by lia) ?_
    rw [iU]
    refine bC (by have:(tx n).length≤13:=(bi (n:=n) (by lia)).2.2;show 1+_≤_;lia) ?_
    exact ⟨hB,k1 _ _ (fun _ _ e=>e) rfl⟩
   ·intro B H1 s1 n1 h1
    have h1:LD H1 B ((l.map slT).map D.str):=by rw [xCc];exact h1
    have bl:∀ w∈l.map slT,w.length≤1000:=fun u hu=>by
     obtain ⟨n,hn,rfl⟩:=xA2.mp hu
     exact eB (by have:=b n hn;have:=hb.s;lia)
    have hj:=bH (s:=one 32) (ts:=l.map slT) (B:=1001) fun t ht=>by have:=bl t ht;show _+1≤_;lia
    rw [xAa] at hj
    have h2:l.length * 1001≤1000 * 1001:=Nat.mul_le_mul_right _ (by lia)
    k_go
    refine cy (B:=1000) h1.strs bl (by rw [e3,xAa];show l.length * (1000+1)≤_;lia) ?_
    rw [e3]
    rw [e1]
    refine bC (by show 1+_≤_;lia) ?_
    k_go
    rw [e2]
    refine bC (by rw [strLen_append];show 1+_+1≤_;lia) ?_
    exact q _ s1
end
section
variable {P:Program} {w:World} {K:xFr} {mg:Str→Option Value} {base:Heap} {C aF aO:Addr}
structure LL (H:Hp) (l:Addr) (tss:List (List Str)) (qs:List Addr):Prop where
 ls:H l=some (.lst (qs.map V.ref))
 n:qs.length=tss.length
 o:l ∉ qs
 t:∀ (i:Nat) (q:Addr) (ts:List Str),qs[i]?=some q→tss[i]?=some ts→H q=some (.lst (ts.map V.str))
theorem LL.same {H H':Hp} {l:Addr} {tss:List (List Str)} {qs:List Addr} (h:LL H l tss qs) (s:Same H H'):LL H' l tss qs:=⟨s _ _ h.ls,h.n,h.o,fun i q ts a b=>s _ _ (h.t i q ts a b)⟩
theorem LL.snoc {H:Hp} {l q:Addr} {tss:List (List Str)} {qs:List Addr} {ts:List Str} (h:LL H l tss qs) (e:H q=some (.lst (ts.map V.str))) (hn:q≠l):LL (upd H l (.lst (qs.map V.ref++[.ref q]))) l (tss++[ts]) (qs++[q]):=by
 refine ⟨by rw [ah,xAi];rfl,by simp [h.n],fun z=>?_,fun i q' ts' a b=>?_⟩
 ·rcases xAj.mp z with z | z
  ·exact h.o z
  ·exact hn (xAm.mp z).symm
 ·have hq:q'≠l:=by
   rcases dk a with ⟨_,a⟩ | ⟨_,a⟩
   ·exact fun z=>h.o (z ▸ xAc a)
   ·rw [← a];exact hn
  rw [am hq]
  rcases dk a with ⟨a0,a⟩ | ⟨a0,a⟩
  ·rw [List.getElem?_append_left (by rw [← h.n];exact a0)] at b
   exact h.t i q' ts' a b
  ·rw [a0,h.n,List.getElem?_append_right (xAg _),Nat.sub_self] at b
   cases b
   rw [← a]
   exact e
def cdW (c:Cd):List Str:=("code":Str)::c.ns.map tx
def rwW (r:Rw):List Str:=r.w::r.fs.map Fl.tx
def tss (gs:List Gr):List (List Str):=(heads gs).map cdW++(rowsOf gs).map rwW
theorem fM (gs:List Gr):(tss gs).map (Str.join (one 32))=lns gs:=by
 unfold tss lns
 rw [xAi,xCc,xCc]
 rfl
theorem kq (ss:List Srt):sgs (chs ss)=ss.map fun (s:Srt)=>V.str (one s.ch):=by
 unfold sgs chs
 simp
def spLl:Sp:=fun vs H Q _=>∃ (gs:List Gr) (v:V),vs=[v]∧PrOk gs∧Rp H (prD gs) v∧∀ (l:Addr) (qs:List Addr) (H':Hp),Same H H'→LL H' l (tss gs) qs→Q (.ref l) H'
def gll:Scope:={ kind:=.function,names:=[("_law_program",.local),("_law_shapes_here",.local),("_law_lines_here",.local),("_law_row_here",.local),("_law_shapes",.globalImplicit),("zip",.globalImplicit)],isGenerator:=false,isCoroutine:=false,more:=[("fast",.str "_law_program"),("fast",.str "_law_shapes_here"),("fast",.str "_law_code"),("fast",.str "_law_number"),("fast",.str "_law_lines_here"),("fast",.str "_law_row_here"),("fast",.str "_law_sort"),("fast",.str "_law_field_here")] }
theorem scll:FnScope ["_law_program","_law_shapes_here","_law_lines_here","_law_row_here"] ["_law_program"] gll:=⟨rfl,rfl,rfl,by decide +kernel,rfl,by decide +kernel,by decide +kernel⟩
theorem vX (F:Dn K mg "_law_lines" sLlines ["_law_program"]) (T:Txt w K mg C aF aO) (c__law_shapes:Cal P w K mg base "_law_shapes" 1 [] spSh) (c__law_field_text:Cal P w K mg base "_law_field_text" 2 ["_law_sort","_law_field_here"] spQf):Cal P w K mg base "_law_lines" 3 ["_law_program"] spLl:=by
 refine F.ok scll rfl (fun vs H Q E h=>?_) (fun f cdv A outer s H vs Q E hr h=>?_)
 ·obtain ⟨gs,v,rfl,_⟩:=h
  rfl
 ·obtain ⟨gs,v,rfl,hg,hv,q⟩:=h
  have hu:=gf hr
  refine' ⟨?tt,QSs.h ?hh,?gg⟩
  case hh=>exact (ac (aA (i:=1) scll.nd rfl (Or.inl rfl) (nP c__law_shapes hr rfl))
   (ac (eJ (i:=2) scll.nd rfl rfl (ls:=["_law_code"]) (N:=[]) (fr:=[]) rfl (CapsG.mk' rfl (by decide +kernel) rfl (by decide +kernel) .nil (by decide +kernel) rfl) (c8 (aB aQ (qv 0) ag)) (fun C s H fp=>(aj (i:=0) (show (["_law_code"]:List Str).Nodup by decide +kernel) rfl (Or.inl rfl))) (fun C s H fp=>aI) (fun C s H fp=>(aq eZ (bb (ad af ab)) (bh (ls:=["_law_number"]) (N:=[]) (fr:=[]) rfl (CapsG.mk' rfl (by decide +kernel) rfl (by decide +kernel) .nil (by decide +kernel) rfl) (kK (K:=K) rfl (qv 0)) (fun C s H fp=>(aj (i:=0) (show (["_law_number"]:List Str).Nodup by decide +kernel) rfl (Or.inl rfl))) (fun C s H fp=>aI) (fun C s H fp=>(aN dN rfl T.zstr dE (ad (qv 0) ab)))))))
   (ac (cN PassesOwn.never rfl (c8 (aB aQ (qv 0) ag)) (aj (i:=3) scll.nd rfl (Or.inl rfl))
    (ae (aR (bB PySem.F.plainAttrs_list PySem.F.slot_list_append PySem.F.type_list_append bf (qv 2) (ad (aq eZ (bb (ad (aB aQ (qv 3) ag) ab)) (bh (ls:=["_law_sort","_law_field_here"]) (N:=[]) (fr:=[]) rfl (CapsG.mk' rfl (by decide +kernel) rfl (by decide +kernel) .nil (by decide +kernel) rfl) (kJ rfl T.zzip (ad (cD hu (qv 1) (aB aQ (qv 3) ag)) (ad (bw hX (qv 3) (bI ag) cj) ab))) (fun C s H fp=>(kL (K:=K) rfl rfl (aG (aj (i:=0) (show (["_law_sort","_law_field_here"]:List Str).Nodup by decide +kernel) rfl (Or.inl rfl)) (aG (aj (i:=1) (show (["_law_sort","_law_field_here"]:List Str).Nodup by decide +kernel) rfl (Or.inl rfl)) cY)))) (fun C s H fp=>aI) (fun C s H fp=>(ap c__law_field_text hr rfl (ad (qv 0) (ad (qv 1) ab)))))) ab)))))
   (ae (ai (qv 2))))))
  obtain ⟨p,x,y,xs,ys,rfl,hp,hx,hy,rx,ry⟩:=kP hv
  have lx:=rx.mapLen
  have ly:=ry.mapLen
  have hm:=hg.m
  have hrw:=hg.rows
  have lh:(heads gs).length=gs.length:=by unfold heads;rw [xAa]
  k_go
  refine ⟨rfl,fun d H1 s1 n1 h1=>?_⟩
  have hp1:=s1 _ _ hp
  have hx1:=s1 _ _ hx
  k_go
  refine oI (bK (xs:=xs)) (fun B i zs H2=>H1 B=none∧H2 B=some (.lst zs)∧Same H1 H2∧i≤xs.length∧∃ qs,zs=qs.map V.ref∧LL H2 B (((heads gs).take i).map cdW) qs) ?_ ?_ ?_ ?_
  ·intro B hB
   exact ⟨hB,ah,aw hB _,xBn _,[],rfl,⟨ah,by simp,by simp,fun i q ts a=>by simp at a⟩⟩
  ·rintro B i zs H2 hi ⟨g1,g2,g3,g4,qs,rfl,g5⟩
   exact ⟨g2,lineM (by rw [xAa,g5.n,xAa,xAn];lia),.of (g3 _ _ hx1)⟩
  ·rintro B i zs _ v H2 hi ⟨g1,g2,g3,g4,qs,rfl,g5⟩ ⟨rfl,hv1⟩
   obtain ⟨c,hc,hrc⟩:=rx.mapGet' hv1
   obtain ⟨pc,rfl,hpc⟩:=fu ((hrc.mono s1).mono g3)
   obtain ⟨gr,hg1,rfl⟩:=xA2.mp (xAc hc)
   have cok:=(hg.g gr hg1).c
   k_go
   refine ⟨rfl,rfl,?_⟩
   k_go
   refine ⟨g2,?_⟩
   k_go
   refine aZ fun l3 H3 s3 n3 h3=>?_
   have hpc3:=s3 _ _ hpc
   k_go
   refine cr (l:=gr.1.ns) (bK (xs:=gr.1.ns.map V.int)) (by rw [xAa]) (fun H' s'=>.of (s' _ _ hpc3)) (fun n=>.str (tx n)) (by rw [xAa];show 5<_;decide) ?_ ?_
   ·rintro B' zs' j n v H4 _ N1' N0' hn s4 hB' ⟨rfl,hv4⟩ k4
    rw [xAw,hn] at hv4
    cases hv4
    have:=cok.small n (xAc hn)
    k_go
    refine ⟨rfl,rfl,?_⟩
    k_go
    refine ⟨hB',?_⟩
    k_go
    exact bV (by lia) ⟨hB',k4 _ _ (fun _ _ e=>e) rfl⟩
   ·intro B' H4 s4 n4 h4
    have h4:LD H4 B' ((gr.1.ns.map tx).map D.str):=by rw [xCc];exact h4
    have h4:=h4.strs
    have h3':=s4 _ _ h3
    k_go
    refine gD h3' h4 (lineMe (by simp only [xAa,xAt];show 1+5≤_;decide)) fun l5 H5 s5 n5 h5=>?_
    have h5:H5 l5=some (.lst ((cdW gr.1).map V.str)):=h5
    have s25:=s3.trans (s4.trans s5)
    have g2':=s25 _ _ g2
    have nq:l5≠B:=fun z=>by rw [z] at n5;rw [s4 _ _ (s3 _ _ g2)] at n5;cases n5
    refine ⟨g2',g1,by rw [ah],(g3.trans s25).upd_new g1,by lia,qs++[l5],by simp,?_⟩
    rw [List.take_add_one,hc,xAi]
    exact (g5.same s25).snoc h5 nq
  ·rintro B zs H2 ⟨g1,g2,g3,g4,qs,rfl,g5⟩
   rw [lx,xAu] at g5
   have nB:H B=none:=s1.free g1
   have hp2:=g3 _ _ hp1
   have hy2:=g3 _ _ (s1 _ _ hy)
   have hd2:=g3 _ _ h1
   have ndB:d≠B:=fun z=>by rw [z,g1] at h1;cases h1
   k_go
   refine cQ (bK (xs:=ys)) (fun i σ H3=>∃ (qs:List Addr) (v3:Option V),σ=[some (.ref p),some (.ref d),some (.ref B),v3]∧Same H H3∧H3 d=some (.dK shK)∧LL H3 B ((heads gs).map cdW++((rowsOf gs).take i).map rwW) qs) ⟨qs,_,rfl,s1.trans g3,hd2,by simpa using g5⟩ (by rintro i σ H3 _ ⟨_,_,_,z,_⟩;exact .of (z _ _ hy)) ?_ ?_
   ·rintro i σ _ v H3 hi ⟨qs,v3,rfl,s3,hd3,lll⟩ ⟨rfl,hv3⟩
    obtain ⟨r,hri,hrr⟩:=ry.mapGet' hv3
    obtain ⟨c,e,rok,bd,_⟩:=hg.row (xAc hri)
    obtain ⟨pr,vs,rfl,hpr,hvs⟩:=nv (hrr.mono s3)
    have hlv:=hvs.mapLen
    have hl:=rok.len
    have h5:r.ss.length≤5:=(b0 rok.t).2.2
    have hB3:=lll.ls
    have nl:=lll.n
    rw [xAb,xAa,xAa,xAn] at nl
    k_go
    refine gB hpr fw ?_
    k_go
    refine aZ fun l4 H4 s4 n4 h4=>?_
    have hpr4:=s4 _ _ hpr
    have hd4:=s4 _ _ hd3
    k_go
    refine gB hpr4 fw ?_
    k_go
    refine ik hd4 (rH rok.t) ?_
    k_go
    refine kA hpr4 lA fun p5 H5 s5 n5 h5'=>?_
    rw [eP] at h5'
    k_go
    refine iY (xs:=r.ss.map fun (s:Srt)=>V.str (one s.ch)) (ys:=vs) (.inr ⟨chs r.ss,rfl,(kq _).symm⟩) (.inl ⟨p5,rfl,.of h5'⟩) ?_
    refine cr (l:=r.fs) (kg (xs:=r.ss.map fun (s:Srt)=>V.str (one s.ch)) (ys:=vs) (by rw [xAa];lia)) (by rw [xAa];lia) (fun H' s'=>⟨.inr ⟨chs r.ss,rfl,(kq _).symm⟩,.inl ⟨p5,rfl,.of (s' _ _ h5')⟩⟩) (fun f=>.str f.tx) (by rw [xAa];lia) ?_ ?_
    ·rintro B' zs j fl x' H6 _ N1 N0 hf s6 hB' ⟨p7,u,v,rfl,n7,rfl,hu1,hv1⟩ k1
     have s7:Same H6 (upd H6 p7 (.tup [u,v])):=aw n7 _
     have h7:upd H6 p7 (.tup [u,v]) p7=some (.tup [u,v]):=ah
     generalize upd H6 p7 (.tup [u,v])=H7 at s7 h7
     rw [xAw] at hu1
     obtain ⟨sr,hs1,rfl⟩:=xA3.mp hu1
     obtain ⟨f',hf',hrf⟩:=hvs.mapGet' hv1
     rw [hf] at hf'
     cases hf'
     k_go
     refine ⟨rfl,rfl,?_⟩
     k_go
     refine ⟨s7 _ _ hB',?_⟩
     k_go
     refine ⟨c,e,(heads gs).length,sr,fl,v,rfl,rok.fit j sr fl hs1 hf,bd,rok.sz fl (xAc hf),hrf.mono (s4.trans (s5.trans (s6.trans s7))),fun H8 s8=>⟨s8 _ _ (s7 _ _ hB'),k1 _ _ (s7.trans s8) rfl⟩⟩
    ·intro B' H6 s6 n6 h6
     have h6:LD H6 B' ((r.fs.map Fl.tx).map D.str):=by rw [xCc];exact h6
     have h6:=h6.strs
     have h46:=s6 _ _ (s5 _ _ h4)
     k_go
     refine gD h46 h6 (lineMe (by simp only [xAa,xAt];lia)) fun l8 H8 s8 n8 h8=>?_
     have h8:H8 l8=some (.lst ((rwW r).map V.str)):=h8
     have s38:=s4.trans (s5.trans (s6.trans s8))
     have hB8:=s38 _ _ hB3
     have nq:l8≠B:=fun z=>by rw [z] at n8;rw [s6 _ _ (s5 _ _ (s4 _ _ hB3))] at n8;cases n8
     k_go
     refine bv hB8 (lineM (by rw [xAa];lia)) ?_
     k_go
     refine ⟨qs++[l8],_,rfl,(s3.trans s38).upd_new nB,by rw [am ndB];exact s38 _ _ hd3,?_⟩
     rw [List.take_add_one,hri,xAi,← xAx]
     exact (lll.same s38).snoc h8 nq
   ·rintro σ H3 ⟨qs,v3,rfl,s3,hd3,lll⟩
    rw [ly,xAu] at lll
    k_go
    exact q B qs H3 s3 lll
end
section
variable {P:Program} {w:World} {K:xFr} {mg:Str→Option Value} {base:Heap} {C aF aO:Addr}
mutual
def py:D→PyData
 | .int i=>.int i
 | .str x=>.str x
 | .bl b=>.bool b
 | .non=>.none
 | .tup ds=>.tuple (pys ds)
def pys:List D→List PyData
 | []=>[]
 | d::ds=>py d::pys ds
end
mutual
theorem jO {H:Hp}:∀ {d:D} {v:V},Rp H d v→Rep H v (py d)
 | .int i,_,h=>by rw [show _=_ from h];exact .int i
 | .str x,_,h=>by rw [show _=_ from h];exact .str x
 | .bl b,_,h=>by rw [show _=_ from h];exact .bl b
 | .non,_,h=>by rw [show _=_ from h];exact .non
 | .tup ds,_,h=>by
  obtain ⟨p,vs,rfl,hp,hs⟩:=h
  exact .tup hp (ku hs)
theorem ku {H:Hp}:∀ {ds:List D} {vs:List V},Rps H ds vs→Reps H vs (pys ds)
 | [],_,h=>by rw [show _=[] from h];exact .nil
 | d::ds,_,h=>by
  obtain ⟨v,r,rfl,h1,h2⟩:=h
  exact .cons (jO h1) (ku h2)
end
mutual
theorem hV:∀ {d:D},Sm d→(py d).showable=true
 | .int i,h=>by
  simp only [py,PyData.showable]
  exact xBd (e6 h)
 | .str x,h=>by simp only [py,PyData.showable]
 | .bl b,h=>by simp only [py,PyData.showable]
 | .non,h=>by simp only [py,PyData.showable]
 | .tup ds,h=>by
  simp only [py,PyData.showable]
  exact iQ h
theorem iQ:∀ {ds:List D},Sms ds→PyData.showableAll (pys ds)=true
 | [],_=>by simp only [pys,PyData.showableAll]
 | d::ds,h=>by simp only [pys,PyData.showableAll,hV h.1,iQ h.2,Bool.and_self]
end
mutual
theorem iu:∀ d:D,(py d).hasDict=false
 | .int i=>by simp only [py,PyData.hasDict]
 | .str x=>by simp only [py,PyData.hasDict]
 | .bl b=>by simp only [py,PyData.hasDict]
 | .non=>by simp only [py,PyData.hasDict]
 | .tup ds=>by simp only [py,PyData.hasDict];exact jg ds
theorem jg:∀ ds:List D,PyData.hasDictAll (pys ds)=false
 | []=>by simp only [pys,PyData.hasDictAll]
 | d::ds=>by simp only [pys,PyData.hasDictAll,iu d,jg ds,Bool.or_self]
end
mutual
theorem j9:∀ d:D,(py d).depth≤D.dep d
 | .int i=>by simp only [py,PyData.depth];exact xBn _
 | .str x=>by simp only [py,PyData.depth];exact xBn _
 | .bl b=>by simp only [py,PyData.depth];exact xBn _
 | .non=>by simp only [py,PyData.depth];exact xBn _
 | .tup ds=>by
  simp only [py,PyData.depth]
  have:=lm ds
  show _≤D.deps ds+1
  lia
theorem lm:∀ ds:List D,PyData.depthAll (pys ds)≤D.deps ds
 | []=>by simp only [pys,PyData.depthAll];exact xBn _
 | d::ds=>by
  simp only [pys,PyData.depthAll]
  have h1:=j9 d
  have h2:=lm ds
  show _≤max (D.dep d) (D.deps ds)
  lia
end
theorem nk {x:Str} (h:∀ c∈tl x,c<128):∀ c∈x.cps.toList,c<16 ^ 8:=fun c hc=>xBc (h c hc) (by decide)
mutual
theorem iT:∀ {d:D},Sm d→(py d).shown.length+2≤90 * ct d
 | .int i,h=>by
  have h1:(tx i).length≤13:=(bi h).2.2
  simp only [py,PyData.shown]
  show (PySem.Str.ofString (toString i)).length+2≤90 * 1
  have h2:(PySem.Str.ofString (toString i)).length≤13:=h1
  lia
 | .str x,h=>by
  have h1:=StrLaws.reprText_len x (nk h.2)
  have h2:=h.1
  simp only [py,PyData.shown]
  show (reprText x).length+2≤90 * 1
  lia
 | .bl b,h=>(show False from h).elim
 | .non,h=>(show False from h).elim
 | .tup ds,h=>by
  have h1:=gz h
  simp only [py,PyData.shown]
  have h2:=StrLaws.join_length_le (PySem.Str.ofString ", ") (PyData.shownAll (pys ds))
  have h3:(PySem.Str.ofString ", ").length=2:=by decide +kernel
  show (tupleText (PyData.shownAll (pys ds))).length+2≤90 * (1+cts ds)
  unfold tupleText
  rw [strLen_append,strLen_append]
  have h4:(PySem.Str.ofString "(").length=1:=by decide +kernel
  have h5:(PySem.Str.ofString (if ((PyData.shownAll (pys ds)).length == 1)=true then ",)" else ")")).length≤2:=by split <;> decide +kernel
  rw [h3] at h2
  lia
theorem gz:∀ {ds:List D},Sms ds→((PyData.shownAll (pys ds)).map (·.length)).sum+(PyData.shownAll (pys ds)).length * 2≤90 * cts ds
 | [],_=>by simp [pys,PyData.shownAll]
 | d::ds,h=>by
  have h1:=iT h.1
  have h2:=gz h.2
  simp only [pys,PyData.shownAll,xBs,List.sum_cons,xAo]
  show _≤90 * (ct d+cts ds)
  lia
end
theorem cS {α:Type} {f:α→D} {k:Nat}:∀ {l:List α},(∀ x∈l,D.dep (f x)≤k)→D.deps (l.map f)≤k
 | [],_=>xBn _
 | x::l,h=>by
  have h1:=h x (by simp)
  have h2:=cS (l:=l) fun y hy=>h y (xAs _ hy)
  show max (D.dep (f x)) (D.deps (l.map f))≤k
  lia
theorem um (fl:Fl):D.dep fl.d≤3:=by
 have h1:∀ b:Bool×Int,D.dep (opD b)≤1:=fun b=>by show max 0 (max 0 0)+1≤1;decide
 cases fl with
 | slt n=>exact xBn _
 | num n=>exact xBn _
 | opn b=>exact Nat.le_trans (h1 b) (by decide)
 | wd z=>exact xBn _
 | slts l =>
  have:=cS (f:=D.int) (l:=l) (k:=0) fun x _=>xAg _
  show D.deps (l.map D.int)+1≤3
  lia
 | opns l =>
  have:=cS (f:=opD) (l:=l) (k:=1) fun x _=>h1 x
  show D.deps (l.map opD)+1≤3
  lia
theorem vc {gs:List Gr} (h:PrOk gs):Sm (prD gs)∧D.dep (prD gs)≤60∧(py (prD gs)).shown.length≤16000000:=by
 have hm:=h.m
 have hr:=h.rows
 have lh:(heads gs).length=gs.length:=by unfold heads;rw [xAa]
 have cs:∀ c∈heads gs,CdOk c:=fun c hc=>by obtain ⟨x,hx,rfl⟩:=xA2.mp hc;exact (h.g x hx).c
 have s1:Sms ((heads gs).map Cd.d):=dm fun d hd=>by
  obtain ⟨c,hc,rfl⟩:=xA2.mp hd
  refine dm fun d hd=>?_
  obtain ⟨n,hn,rfl⟩:=xA2.mp hd
  have:=(cs c hc).small n hn
  show n.natAbs<_
  lia
 have s2:Sms ((rowsOf gs).map Rw.d):=dm fun d hd=>by
  obtain ⟨r,hr,rfl⟩:=xA2.mp hd
  obtain ⟨c,e,rok,_,_⟩:=h.row hr
  refine ⟨hU (b0 rok.t).1,dm fun d hd=>?_⟩
  obtain ⟨f,hf,rfl⟩:=xA2.mp hd
  exact (rok.sz f hf).s
 have sm:Sm (prD gs):=⟨s1,s2,True.intro⟩
 refine ⟨sm,?_,?_⟩
 ·have d1:D.deps ((heads gs).map Cd.d)≤1:=cS fun c _=>by
   have:=cS (f:=D.int) (l:=c.ns) (k:=0) fun x _=>xAg _
   show D.deps (c.ns.map D.int)+1≤1
   lia
  have d2:D.deps ((rowsOf gs).map Rw.d)≤4:=cS fun r _=>by
   have:=cS (f:=Fl.d) (l:=r.fs) (k:=3) fun x _=>um x
   show max 0 (D.deps (r.fs.map Fl.d))+1≤4
   lia
  show max (D.deps ((heads gs).map Cd.d)+1) (max (D.deps ((rowsOf gs).map Rw.d)+1) 0)+1≤60
  lia
 ·have h1:=iT sm
  have c1:cts ((heads gs).map Cd.d)≤4 * 6:=by
   refine Nat.le_trans (e8 (B:=6) fun d hd=>?_) (Nat.mul_le_mul_right _ (by rw [xAa];lia))
   obtain ⟨c,_,rfl⟩:=xA2.mp hd
   exact xAg _
  have c2:cts ((rowsOf gs).map Rw.d)≤32 * 322:=by
   refine Nat.le_trans (e8 (B:=322) fun d hd=>?_) (Nat.mul_le_mul_right _ (by rw [xAa];exact hr))
   obtain ⟨r,hr,rfl⟩:=xA2.mp hd
   obtain ⟨c,e,rok,_,_⟩:=h.row hr
   have h5:r.ss.length≤5:=(b0 rok.t).2.2
   have hl:=rok.len
   have:=e8 (ds:=r.fs.map Fl.d) (B:=64) fun d hd=>by
    obtain ⟨f,hf,rfl⟩:=xA2.mp hd
    exact (rok.sz f hf).c
   rw [xAa] at this
   show 1+(1+cts (r.fs.map Fl.d))≤322
   lia
  have e:ct (prD gs)=1+(1+cts ((heads gs).map Cd.d)+(1+cts ((rowsOf gs).map Rw.d)+0)):=rfl
  rw [e] at h1
  lia
theorem pJ {gs:List Gr} (h:PrOk gs):∀ ts∈tss gs,ts.length≤6∧∀ w∈ts,w.length≤610:=by
 intro ts hts
 obtain ⟨_,_,l3⟩:=h.lines
 have hj:Str.join (one 32) ts∈lns gs:=by rw [← fM];exact xA2.mpr ⟨ts,hts,rfl⟩
 refine ⟨?_,fun w hw=>Nat.le_trans (iA hw) (l3 _ hj).2⟩
 rcases xAj.mp hts with hts | hts
 ·obtain ⟨c,_,rfl⟩:=xA2.mp hts
  exact xAg _
 ·obtain ⟨r,hr,rfl⟩:=xA2.mp hts
  obtain ⟨c,e,rok,_,_⟩:=h.row hr
  have h5:r.ss.length≤5:=(b0 rok.t).2.2
  have hl:=rok.len
  unfold rwW
  rw [xAo,xAa]
  lia
end
section
variable {P:Program} {w:World} {K:xFr} {mg:Str→Option Value} {base:Heap} {C aF aO:Addr}
def spLaw (K:xFr):Sp:=fun vs H Q _=>∃ (a:Addr) (ns:List Int),vs=[.ref a]∧SqL K H a (ns.map V.int)∧∀ H',Q (.bl true) H'
def glaw:Scope:={ kind:=.function,names:=[("_law_script",.local),("_law_state_here",.local),("_law_program",.local),("_law_text",.local),("_law_k",.local),("_law_state",.globalImplicit),("_law_cell",.globalImplicit),("int",.globalImplicit),("_law_rows",.globalImplicit),("_law_lines",.globalImplicit),("range",.globalImplicit),("rows_text",.globalImplicit),("repr",.globalImplicit),("read_rows",.globalImplicit),("isinstance",.globalImplicit),("str",.globalImplicit)],isGenerator:=false,isCoroutine:=false,more:=[("fast",.str "_law_script"),("fast",.str "_law_state_here"),("fast",.str "_law_program"),("fast",.str "_law_line"),("fast",.str "_law_text"),("fast",.str "_law_k")] }
theorem sclaw:FnScope ["_law_script","_law_state_here","_law_program","_law_text","_law_k"] ["_law_script"] glaw:=⟨rfl,rfl,rfl,by decide +kernel,rfl,by decide +kernel,by decide +kernel⟩
theorem tX {f:Addr} {fd:FuncData} (F:Fun K "law" "law" slaw f fd) (T:Txt w K mg C aF aO) (c__law_cell:Cal P w K mg base "_law_cell" 1 ["_law_script","_law_k"] (spCl K)) (c__law_state:Cal P w K mg base "_law_state" 1 ["_law_cell_here","_law_seed"] spSta) (c__law_rows:Cal P w K mg base "_law_rows" 5 ["_law_state_here"] spLs) (c__law_lines:Cal P w K mg base "_law_lines" 3 ["_law_program"] spLl) (c_rows_text:Cal P w K mg base "rows_text" 5 ["program"] spRt) (c_read_rows:Cal P w K mg base "read_rows" 9 ["text"] spRd):FnOk P w K mg base CX0 10 f fd ["_law_script"] (spLaw K):=by
 refine F.okS sclaw rfl (fun vs H Q E h=>?_) (fun cdv A outer s H vs Q E hr h=>?_)
 ·obtain ⟨a,ns,rfl,_⟩:=h
  rfl
 ·obtain ⟨a,ns,rfl,hS,q⟩:=h
  refine' ⟨?tt,QSs.h ?hh,?gg⟩
  case hh=>exact (ac (aA (i:=1) sclaw.nd rfl (Or.inl rfl) (ap c__law_state hr rfl (ad (ap c__law_cell hr rfl (ad (qv 0) (ad ag ab))) (ad (aq dw (ap c__law_cell hr rfl (ad (qv 0) (ad ag ab))) (aN lD rfl T.zint fv (ad (aM aJ (aq dy (ap c__law_cell hr rfl (ad (qv 0) (ad ag ab))) ag) ag (nomark _)) ab))) ab))))
   (ac (aA (i:=2) sclaw.nd rfl (Or.inl rfl) (ap c__law_rows hr rfl (ad (qv 1) ab)))
   (ac (aA (i:=3) sclaw.nd rfl (Or.inl rfl) (bB PySem.F.plainAttrs_str PySem.F.slot_str_join PySem.F.type_str_join cE af (ad (bh (ls:=["_law_line"]) (N:=[]) (fr:=[]) rfl (CapsG.mk' rfl (by decide +kernel) rfl (by decide +kernel) .nil (by decide +kernel) rfl) (dR (ap c__law_lines hr rfl (ad (qv 2) ab))) (fun C s H fp=>(aj (i:=0) (show (["_law_line"]:List Str).Nodup by decide +kernel) rfl (Or.inl rfl))) (fun C s H fp=>aI) (fun C s H fp=>(rO (K:=K) rfl PySem.F.plainAttrs_str PySem.F.slot_str_join PySem.F.type_str_join (jh (K:=K) rfl) af (ad (qv 0) ab)))) ab)))
   (ac (cN PassesOwn.never rfl (fW rfl T.zrange (ad ag ab)) (aj (i:=4) sclaw.nd rfl (Or.inl rfl))
    (ae (av (QW.pt (kI (ao f6 (ap c_rows_text hr rfl (ad (qv 2) ab)) (qv 3) (nomark _)) (il (ao f6 (aL (lC hr) rfl T.zrepr gN (ad (ap c_read_rows hr rfl (ad (qv 3) ab)) ab)) (aL (lC hr) rfl T.zrepr gN (ad (qv 2) ab)) (nomark _))))) (ae (ai fY)) ak)))
   (ae (ai (aL ek rfl T.zisinstance cT (ad (ap c_rows_text hr rfl (ad (qv 2) ab)) (ad (dv (v:=.ty "str") rfl T.zstr dE rfl) ab)))))))))
  have e3:(" ":Str)=one 32:=by decide +kernel
  have e10:("\n":Str)=one 10:=by decide +kernel
  k_go
  refine ⟨a,ns,1,rfl,by decide,by decide,hS,fun x1=>?_⟩
  k_go
  refine ⟨a,ns,2,rfl,by decide,by decide,hS,fun x2=>?_⟩
  k_go
  refine ⟨a,ns,0,rfl,by decide,by decide,hS,fun x0=>?_⟩
  k_go
  refine r_I (by decide) ?_
  k_go
  refine r_I (.inr (by split <;> decide)) ?_
  k_go
  refine ⟨_,_,rfl,fun st H1 s1 n1 d1=>?_⟩
  k_go
  refine ⟨st,rfl,d1,fun v gs H2 k2 d2 hv hg=>?_⟩
  obtain ⟨sm,dp,shl⟩:=vc hg
  obtain ⟨l1,l2,l3⟩:=hg.lines
  have few:=pJ hg
  have ltss:(tss gs).length=(lns gs).length:=by rw [← fM,xAa]
  k_go
  refine bm ?_
  k_go
  refine ⟨gs,v,rfl,hg,hv,fun l qs H3 s3 lll=>?_⟩
  have hl3:=lll.ls
  have nl:=lll.n
  k_go
  refine cr (l:=tss gs) (cU (xs:=qs.map V.ref)) (by rw [xAa];exact nl) (fun H' s'=>.of (s' _ _ hl3)) (fun ts=>.str (Str.join (one 32) ts)) (by rw [xAa];lia) ?_ ?_
  ·rintro B ys i ts x H4 _ N1 N0 hts s4 hB ⟨rfl,hx⟩ k4
   rw [xAw] at hx
   obtain ⟨qa,hqa,rfl⟩:=xA3.mp hx
   have hq4:=s4 _ _ (lll.t i qa ts hqa hts)
   obtain ⟨f1,f2⟩:=few ts (xAc hts)
   k_go
   refine ⟨rfl,rfl,?_⟩
   k_go
   refine ⟨hB,?_⟩
   k_go
   refine bm ?_
   k_go
   refine cy (B:=610) hq4 f2 (by rw [e3];show ts.length * (610+1)≤_;lia) ?_
   rw [e3]
   exact ⟨hB,k4 _ _ (fun _ _ e=>e) rfl⟩
  ·intro B H4 s4 n4 h4
   have h4:LD H4 B ((lns gs).map D.str):=by rw [← fM,xCc];exact h4
   have h4:=h4.strs
   k_go
   refine cy (B:=610) h4 (fun w hw=>(l3 w hw).2) (by rw [e10];show _ * (610+1)≤_;lia) ?_
   rw [e10]
   obtain ⟨zt,hzt⟩:∃ zt,prT gs=zt:=⟨_,rfl⟩
   rw [show Str.join (one 10) (lns gs)=zt from hzt]
   obtain ⟨zr,hzr⟩:∃ zr,(py (prD gs)).shown=zr:=⟨_,rfl⟩
   have hlr:zr.length≤sizeLine:=by rw [← hzr];exact lineMe shl
   obtain ⟨p,y1,y2,xs,ys,rfl,_⟩:=kP hv
   have hv4:=(hv.mono s3).mono s4
   k_go
   refine cX (by decide) (by decide) ?_
   refine cQ bT (fun i σ H5=>∃ v4:Option V,σ=[some (.ref a),some (.ref st),some (.ref p),some (.str zt),v4]∧Same H4 H5) ⟨_,rfl,fun _ _ e=>e⟩ (fun _ _ _ _ _=>True.intro) ?_ ?_
   ·rintro i σ _ y H5 hi ⟨v4,rfl,s5⟩ ⟨rfl,rfl⟩
    have hv5:=hv4.mono s5
    k_go
    refine ⟨gs,.ref p,rfl,hg,hv5,fun H6 s6=>?_⟩
    rw [hzt]
    k_go
    rw [xBd (rfl:zt=zt)]
    k_go
    refine ⟨gs,by rw [hzt];rfl,hg,fun v7 H7 s7 hv7=>?_⟩
    obtain ⟨p7,_,_,_,_,rfl,_⟩:=kP hv7
    k_go
    refine ⟨p7,py (prD gs),rfl,jO hv7,hV sm,iu _,Nat.le_trans (j9 _) dp,by rw [hzr];exact hlr,?_⟩
    rw [hzr]
    have hv8:=(hv5.mono s6).mono s7
    k_go
    refine ⟨p,py (prD gs),rfl,jO hv8,hV sm,iu _,Nat.le_trans (j9 _) dp,by rw [hzr];exact hlr,?_⟩
    rw [hzr]
    k_go
    rw [xBd (rfl:zr=zr)]
    k_go
    exact ⟨_,rfl,s5.trans (s6.trans s7)⟩
   ·rintro σ H5 ⟨v4,rfl,s5⟩
    have hv5:=hv4.mono s5
    k_go
    refine ⟨gs,.ref p,rfl,hg,hv5,fun H6 s6=>?_⟩
    rw [hzt]
    k_go
    refine eI T.kSS ?_
    exact q _
end
section
variable {P:Program} {w:World} {K:xFr} {mg:Str→Option Value} {base:Heap} {C aF aO:Addr}
theorem bg {K:xFr} {t:Addr} {d:Option Addr} {its:Array Value} {n:Nat} {sl:Array (Option Value)} {xs:List V} (h:K.lookup t=some ⟨.type "tuple",d,.seq its n,sl⟩) (hz:its.size≤1000) (hv:Vals xs its.toList):∀ H,SqT K H t xs:=fun H=>.inr ⟨_,its,n,h,rfl,rfl,lineMe (by lia),hv⟩
theorem all_mk {l:PySem.W.OpenLaw} {w:World} {K:xFr} {h:Heap} {mg:Str→Option Value} {fa cC aF aO fRI fNd fTk fRw fRh fNi fSi fOi fRo fRs fTb fisn fpl fiw fpn fnw ffg frf fst fot fib fto flo frt feo fca fcf frc frr frd fcl fsta ftake flw fsh fop flf flr fls fqt fqf fll flaw tF0 tF1 tF2 tF3 tF4 tF5 tF6 tF7 tF8 tF9 tF10 tF11 tF12 tF13 tF14 tF15 tF16 tF17:Addr} (X:K.In h) (G:h.Ns mainGlobals mg) (hfa:mg "law"=some (.ref fa))
  {odfRI anfRI:Option Addr} {slfRI:Array (Option Value)} {ocfRI kVfRI dcfRI pmfRI cdfRI ctfRI:Value}
  {odfNd anfNd:Option Addr} {slfNd:Array (Option Value)} {ocfNd kVfNd dcfNd pmfNd cdfNd ctfNd:Value}
  {odfTk anfTk:Option Addr} {slfTk:Array (Option Value)} {ocfTk kVfTk dcfTk pmfTk cdfTk ctfTk:Value}
  {odfRw anfRw:Option Addr} {slfRw:Array (Option Value)} {ocfRw kVfRw dcfRw pmfRw cdfRw ctfRw:Value}
  {odfRh anfRh:Option Addr} {slfRh:Array (Option Value)} {ocfRh kVfRh dcfRh pmfRh cdfRh ctfRh:Value}
  {odfNi anfNi:Option Addr} {slfNi:Array (Option Value)} {ocfNi kVfNi dcfNi pmfNi cdfNi ctfNi:Value}
  {odfSi anfSi:Option Addr} {slfSi:Array (Option Value)} {ocfSi kVfSi dcfSi pmfSi cdfSi ctfSi:Value}
  {odfOi anfOi:Option Addr} {slfOi:Array (Option Value)} {ocfOi kVfOi dcfOi pmfOi cdfOi ctfOi:Value}
  {odfRo anfRo:Option Addr} {slfRo:Array (Option Value)} {ocfRo kVfRo dcfRo pmfRo cdfRo ctfRo:Value}
  {odfRs anfRs:Option Addr} {slfRs:Array (Option Value)} {ocfRs kVfRs dcfRs pmfRs cdfRs ctfRs:Value}
  {odfTb anfTb:Option Addr} {slfTb:Array (Option Value)} {ocfTb kVfTb dcfTb pmfTb cdfTb ctfTb:Value}
  {odfisn anfisn:Option Addr} {slfisn:Array (Option Value)} {ocfisn kVfisn dcfisn pmfisn cdfisn ctfisn:Value}
  {odfpl anfpl:Option Addr} {slfpl:Array (Option Value)} {ocfpl kVfpl dcfpl pmfpl cdfpl ctfpl:Value}
  {odfiw anfiw:Option Addr} {slfiw:Array (Option Value)} {ocfiw kVfiw dcfiw pmfiw cdfiw ctfiw:Value}
  {odfpn anfpn:Option Addr} {slfpn:Array (Option Value)} {ocfpn kVfpn dcfpn pmfpn cdfpn ctfpn:Value}
  {odfnw anfnw:Option Addr} {slfnw:Array (Option Value)} {ocfnw kVfnw dcfnw pmfnw cdfnw ctfnw:Value}
  {odffg anffg:Option Addr} {slffg:Array (Option Value)} {ocffg kVffg dcffg pmffg cdffg ctffg:Value}
  {odfrf anfrf:Option Addr} {slfrf:Array (Option Value)} {ocfrf kVfrf dcfrf pmfrf cdfrf ctfrf:Value}
  {odfst anfst:Option Addr} {slfst:Array (Option Value)} {ocfst kVfst dcfst pmfst cdfst ctfst:Value}
  {odfot anfot:Option Addr} {slfot:Array (Option Value)} {ocfot kVfot dcfot pmfot cdfot ctfot:Value}
  {odfib anfib:Option Addr} {slfib:Array (Option Value)} {ocfib kVfib dcfib pmfib cdfib ctfib:Value}
  {odfto anfto:Option Addr} {slfto:Array (Option Value)} {ocfto kVfto dcfto pmfto cdfto ctfto:Value}
  {odflo anflo:Option Addr} {slflo:Array (Option Value)} {ocflo kVflo dcflo pmflo cdflo ctflo:Value}
  {odfrt anfrt:Option Addr} {slfrt:Array (Option Value)} {ocfrt kVfrt dcfrt pmfrt cdfrt ctfrt:Value}
  {odfeo anfeo:Option Addr} {slfeo:Array (Option Value)} {ocfeo kVfeo dcfeo pmfeo cdfeo ctfeo:Value}
  {odfca anfca:Option Addr} {slfca:Array (Option Value)} {ocfca kVfca dcfca pmfca cdfca ctfca:Value}
  {odfcf anfcf:Option Addr} {slfcf:Array (Option Value)} {ocfcf kVfcf dcfcf pmfcf cdfcf ctfcf:Value}
  {odfrc anfrc:Option Addr} {slfrc:Array (Option Value)} {ocfrc kVfrc dcfrc pmfrc cdfrc ctfrc:Value}
  {odfrr anfrr:Option Addr} {slfrr:Array (Option Value)} {ocfrr kVfrr dcfrr pmfrr cdfrr ctfrr:Value}
  {odfrd anfrd:Option Addr} {slfrd:Array (Option Value)} {ocfrd kVfrd dcfrd pmfrd cdfrd ctfrd:Value}
  {odfcl anfcl:Option Addr} {slfcl:Array (Option Value)} {ocfcl kVfcl dcfcl pmfcl cdfcl ctfcl:Value}
  {odfsta anfsta:Option Addr} {slfsta:Array (Option Value)} {ocfsta kVfsta dcfsta pmfsta cdfsta ctfsta:Value}
  {odftake anftake:Option Addr} {slftake:Array (Option Value)} {ocftake kVftake dcftake pmftake cdftake ctftake:Value}
  {odflw anflw:Option Addr} {slflw:Array (Option Value)} {ocflw kVflw dcflw pmflw cdflw ctflw:Value}
  {odfsh anfsh:Option Addr} {slfsh:Array (Option Value)} {ocfsh kVfsh dcfsh pmfsh cdfsh ctfsh:Value}
  {odfop anfop:Option Addr} {slfop:Array (Option Value)} {ocfop kVfop dcfop pmfop cdfop ctfop:Value}
  {odflf anflf:Option Addr} {slflf:Array (Option Value)} {ocflf kVflf dcflf pmflf cdflf ctflf:Value}
  {odflr anflr:Option Addr} {slflr:Array (Option Value)} {ocflr kVflr dcflr pmflr cdflr ctflr:Value}
  {odfls anfls:Option Addr} {slfls:Array (Option Value)} {ocfls kVfls dcfls pmfls cdfls ctfls:Value}
  {odfqt anfqt:Option Addr} {slfqt:Array (Option Value)} {ocfqt kVfqt dcfqt pmfqt cdfqt ctfqt:Value}
  {odfqf anfqf:Option Addr} {slfqf:Array (Option Value)} {ocfqf kVfqf dcfqf pmfqf cdfqf ctfqf:Value}
  {odfll anfll:Option Addr} {slfll:Array (Option Value)} {ocfll kVfll dcfll pmfll cdfll ctfll:Value}
  {odflaw anflaw:Option Addr} {slflaw:Array (Option Value)} {ocflaw kVflaw dcflaw pmflaw cdflaw ctflaw:Value}
  {tgMir:Tok}
  {tgLp:Tok}
  {tgMf:Tok}
  {tgMs:Tok}
  {tgMn:Tok}
  {tgMsl:Tok}
  {tgLet:Tok}
  {tgFig:Tok}
  {es:Array DictEntry} {nF:Nat}
  {dO:Option Addr} {sO:Array (Option Value)} {nO:Nat} {uO_0 uO_1 uO_2 uO_3 uO_4:Tok}
  {dF0:Option Addr} {sF0:Array (Option Value)} {nF0:Nat} {uF0_0 uF0_1:Tok}
  {dF1:Option Addr} {sF1:Array (Option Value)} {nF1:Nat} {uF1_0 uF1_1 uF1_2 uF1_3 uF1_4:Tok}
  {dF2:Option Addr} {sF2:Array (Option Value)} {nF2:Nat} {uF2_0 uF2_1 uF2_2:Tok}
  {dF3:Option Addr} {sF3:Array (Option Value)} {nF3:Nat} {uF3_0 uF3_1:Tok}
  {dF4:Option Addr} {sF4:Array (Option Value)} {nF4:Nat} {uF4_0 uF4_1:Tok}
  {dF5:Option Addr} {sF5:Array (Option Value)} {nF5:Nat} {uF5_0 uF5_1 uF5_2 uF5_3:Tok}
  {dF6:Option Addr} {sF6:Array (Option Value)} {nF6:Nat} {uF6_0 uF6_1 uF6_2 uF6_3 uF6_4:Tok}
  {dF7:Option Addr} {sF7:Array (Option Value)} {nF7:Nat} {uF7_0 uF7_1 uF7_2 uF7_3 uF7_4:Tok}
  {dF8:Option Addr} {sF8:Array (Option Value)} {nF8:Nat} {uF8_0 uF8_1 uF8_2 uF8_3:Tok}
  {dF9:Option Addr} {sF9:Array (Option Value)} {nF9:Nat} {uF9_0 uF9_1 uF9_2 uF9_3 uF9_4:Tok}
  {dF10:Option Addr} {sF10:Array (Option Value)} {nF10:Nat} {uF10_0 uF10_1 uF10_2:Tok}
  {dF11:Option Addr} {sF11:Array (Option Value)} {nF11:Nat} {uF11_0:Tok}
  {dF12:Option Addr} {sF12:Array (Option Value)} {nF12:Nat} {uF12_0 uF12_1 uF12_2:Tok}
  {dF13:Option Addr} {sF13:Array (Option Value)} {nF13:Nat} {uF13_0 uF13_1 uF13_2 uF13_3 uF13_4:Tok}
  {dF14:Option Addr} {sF14:Array (Option Value)} {nF14:Nat} {uF14_0:Tok}
  {dF15:Option Addr} {sF15:Array (Option Value)} {nF15:Nat} {uF15_0 uF15_1 uF15_2:Tok}
  {dF16:Option Addr} {sF16:Array (Option Value)} {nF16:Nat}
  {dF17:Option Addr} {sF17:Array (Option Value)} {nF17:Nat} {uF17_0 uF17_1 uF17_2:Tok}
  (mcC:PySem.W.nsIn K mainGlobals "RowReader"=some (some (.ref cC)))
  (pgcC:PySem.W.plainGet K cC Str.empty=true)
  (hdcC:PySem.W.hasDictIn K cC=true)
  (pocC:PySem.W.plainOver K cC=true)
  (sacC:PySem.W.findIn K (.ref cC) "__setattr__"=some (some (.builtin "object.__setattr__")))
  (mkcC:PySem.W.makesIn K cC=true)
  (kccC:PySem.W.keepIn K (.ref cC)=true)
  (ncC_words:PySem.W.findIn K (.ref cC) "words"=some none)
  (ncC_number:PySem.W.findIn K (.ref cC) "number"=some none)
  (ncC_codes:PySem.W.findIn K (.ref cC) "codes"=some none)
  (ncC_own:PySem.W.findIn K (.ref cC) "own"=some none)
  (ncC_end:PySem.W.findIn K (.ref cC) "end"=some none)
  (ncC_at:PySem.W.findIn K (.ref cC) "at"=some none)
  (afRI:PySem.W.findIn K (.ref cC) "__init__"=some (some (.ref fRI)))
  (ifRI:PySem.W.isFn K (.ref fRI)=true)
  (lfRI:K.lookup fRI=some ⟨ocfRI,odfRI,.func (PySem.W.fnOf "__init__" "RowReader.__init__" (defArgs eE) (defBody eE) (defScope eE) .none kVfRI dcfRI pmfRI anfRI cdfRI ctfRI),slfRI⟩)
  (cfRI:PySem.W.codeIn K cdfRI "RowReader.__init__"=true)
  (kfRI:PySem.W.keepIn K (.ref fRI)=true)
  (afNd:PySem.W.findIn K (.ref cC) "need"=some (some (.ref fNd)))
  (ifNd:PySem.W.isFn K (.ref fNd)=true)
  (lfNd:K.lookup fNd=some ⟨ocfNd,odfNd,.func (PySem.W.fnOf "need" "RowReader.need" (defArgs eD) (defBody eD) (defScope eD) .none kVfNd dcfNd pmfNd anfNd cdfNd ctfNd),slfNd⟩)
  (cfNd:PySem.W.codeIn K cdfNd "RowReader.need"=true)
  (kfNd:PySem.W.keepIn K (.ref fNd)=true)
  (afTk:PySem.W.findIn K (.ref cC) "take"=some (some (.ref fTk)))
  (ifTk:PySem.W.isFn K (.ref fTk)=true)
  (lfTk:K.lookup fTk=some ⟨ocfTk,odfTk,.func (PySem.W.fnOf "take" "RowReader.take" (defArgs eC) (defBody eC) (defScope eC) .none kVfTk dcfTk pmfTk anfTk cdfTk ctfTk),slfTk⟩)
  (cfTk:PySem.W.codeIn K cdfTk "RowReader.take"=true)
  (kfTk:PySem.W.keepIn K (.ref fTk)=true)
  (afRw:PySem.W.findIn K (.ref cC) "read_row"=some (some (.ref fRw)))
  (ifRw:PySem.W.isFn K (.ref fRw)=true)
  (lfRw:K.lookup fRw=some ⟨ocfRw,odfRw,.func (PySem.W.fnOf "read_row" "RowReader.read_row" (defArgs cq) (defBody cq) (defScope cq) .none kVfRw dcfRw pmfRw anfRw cdfRw ctfRw),slfRw⟩)
  (cfRw:PySem.W.codeIn K cdfRw "RowReader.read_row"=true)
  (kfRw:PySem.W.keepIn K (.ref fRw)=true)
  (afRh:PySem.W.findIn K (.ref cC) "read_thing"=some (some (.ref fRh)))
  (ifRh:PySem.W.isFn K (.ref fRh)=true)
  (lfRh:K.lookup fRh=some ⟨ocfRh,odfRh,.func (PySem.W.fnOf "read_thing" "RowReader.read_thing" (defArgs bE) (defBody bE) (defScope bE) .none kVfRh dcfRh pmfRh anfRh cdfRh ctfRh),slfRh⟩)
  (cfRh:PySem.W.codeIn K cdfRh "RowReader.read_thing"=true)
  (kfRh:PySem.W.keepIn K (.ref fRh)=true)
  (afNi:PySem.W.findIn K (.ref cC) "number_in"=some (some (.ref fNi)))
  (ifNi:PySem.W.isFn K (.ref fNi)=true)
  (lfNi:K.lookup fNi=some ⟨ocfNi,odfNi,.func (PySem.W.fnOf "number_in" "RowReader.number_in" (defArgs bU) (defBody bU) (defScope bU) .none kVfNi dcfNi pmfNi anfNi cdfNi ctfNi),slfNi⟩)
  (cfNi:PySem.W.codeIn K cdfNi "RowReader.number_in"=true)
  (kfNi:PySem.W.keepIn K (.ref fNi)=true)
  (afSi:PySem.W.findIn K (.ref cC) "slot_in"=some (some (.ref fSi)))
  (ifSi:PySem.W.isFn K (.ref fSi)=true)
  (lfSi:K.lookup fSi=some ⟨ocfSi,odfSi,.func (PySem.W.fnOf "slot_in" "RowReader.slot_in" (defArgs cK) (defBody cK) (defScope cK) .none kVfSi dcfSi pmfSi anfSi cdfSi ctfSi),slfSi⟩)
  (cfSi:PySem.W.codeIn K cdfSi "RowReader.slot_in"=true)
  (kfSi:PySem.W.keepIn K (.ref fSi)=true)
  (afOi:PySem.W.findIn K (.ref cC) "operand_in"=some (some (.ref fOi)))
  (ifOi:PySem.W.isFn K (.ref fOi)=true)
  (lfOi:K.lookup fOi=some ⟨ocfOi,odfOi,.func (PySem.W.fnOf "operand_in" "RowReader.operand_in" (defArgs bG) (defBody bG) (defScope bG) .none kVfOi dcfOi pmfOi anfOi cdfOi ctfOi),slfOi⟩)
  (cfOi:PySem.W.codeIn K cdfOi "RowReader.operand_in"=true)
  (kfOi:PySem.W.keepIn K (.ref fOi)=true)
  (afRo:PySem.W.findIn K (.ref cC) "read_operands"=some (some (.ref fRo)))
  (ifRo:PySem.W.isFn K (.ref fRo)=true)
  (lfRo:K.lookup fRo=some ⟨ocfRo,odfRo,.func (PySem.W.fnOf "read_operands" "RowReader.read_operands" (defArgs aX) (defBody aX) (defScope aX) .none kVfRo dcfRo pmfRo anfRo cdfRo ctfRo),slfRo⟩)
  (cfRo:PySem.W.codeIn K cdfRo "RowReader.read_operands"=true)
  (kfRo:PySem.W.keepIn K (.ref fRo)=true)
  (afRs:PySem.W.findIn K (.ref cC) "read_slots"=some (some (.ref fRs)))
  (ifRs:PySem.W.isFn K (.ref fRs)=true)
  (lfRs:K.lookup fRs=some ⟨ocfRs,odfRs,.func (PySem.W.fnOf "read_slots" "RowReader.read_slots" (defArgs bF) (defBody bF) (defScope bF) .none kVfRs dcfRs pmfRs anfRs cdfRs ctfRs),slfRs⟩)
  (cfRs:PySem.W.codeIn K cdfRs "RowReader.read_slots"=true)
  (kfRs:PySem.W.keepIn K (.ref fRs)=true)
  (afTb:PySem.W.findIn K (.ref cC) "take_bracketed"=some (some (.ref fTb)))
  (ifTb:PySem.W.isFn K (.ref fTb)=true)
  (lfTb:K.lookup fTb=some ⟨ocfTb,odfTb,.func (PySem.W.fnOf "take_bracketed" "RowReader.take_bracketed" (defArgs aU) (defBody aU) (defScope aU) .none kVfTb dcfTb pmfTb anfTb cdfTb ctfTb),slfTb⟩)
  (cfTb:PySem.W.codeIn K cdfTb "RowReader.take_bracketed"=true)
  (kfTb:PySem.W.keepIn K (.ref fTb)=true)
  (afisn:PySem.W.nsIn K mainGlobals "is_number"=some (some (.ref fisn)))
  (lfisn:K.lookup fisn=some ⟨ocfisn,odfisn,.func (PySem.W.fnOf "is_number" "is_number" (defArgs ci) (defBody ci) (defScope ci) .none kVfisn dcfisn pmfisn anfisn cdfisn ctfisn),slfisn⟩)
  (cfisn:PySem.W.codeIn K cdfisn "is_number"=true)
  (kfisn:PySem.W.keepIn K (.ref fisn)=true)
  (afpl:PySem.W.nsIn K mainGlobals "is_place"=some (some (.ref fpl)))
  (lfpl:K.lookup fpl=some ⟨ocfpl,odfpl,.func (PySem.W.fnOf "is_place" "is_place" (defArgs cG) (defBody cG) (defScope cG) .none kVfpl dcfpl pmfpl anfpl cdfpl ctfpl),slfpl⟩)
  (cfpl:PySem.W.codeIn K cdfpl "is_place"=true)
  (kfpl:PySem.W.keepIn K (.ref fpl)=true)
  (afiw:PySem.W.nsIn K mainGlobals "is_word"=some (some (.ref fiw)))
  (lfiw:K.lookup fiw=some ⟨ocfiw,odfiw,.func (PySem.W.fnOf "is_word" "is_word" (defArgs df) (defBody df) (defScope df) .none kVfiw dcfiw pmfiw anfiw cdfiw ctfiw),slfiw⟩)
  (cfiw:PySem.W.codeIn K cdfiw "is_word"=true)
  (kfiw:PySem.W.keepIn K (.ref fiw)=true)
  (afpn:PySem.W.nsIn K mainGlobals "plain"=some (some (.ref fpn)))
  (lfpn:K.lookup fpn=some ⟨ocfpn,odfpn,.func (PySem.W.fnOf "plain" "plain" (defArgs splain) (defBody splain) (defScope splain) .none kVfpn dcfpn pmfpn anfpn cdfpn ctfpn),slfpn⟩)
  (cfpn:PySem.W.codeIn K cdfpn "plain"=true)
  (kfpn:PySem.W.keepIn K (.ref fpn)=true)
  (afnw:PySem.W.nsIn K mainGlobals "is_number_word"=some (some (.ref fnw)))
  (lfnw:K.lookup fnw=some ⟨ocfnw,odfnw,.func (PySem.W.fnOf "is_number_word" "is_number_word" (defArgs aS) (defBody aS) (defScope aS) .none kVfnw dcfnw pmfnw anfnw cdfnw ctfnw),slfnw⟩)
  (cfnw:PySem.W.codeIn K cdfnw "is_number_word"=true)
  (kfnw:PySem.W.keepIn K (.ref fnw)=true)
  (affg:PySem.W.nsIn K mainGlobals "is_figures"=some (some (.ref ffg)))
  (lffg:K.lookup ffg=some ⟨ocffg,odffg,.func (PySem.W.fnOf "is_figures" "is_figures" (defArgs bP) (defBody bP) (defScope bP) .none kVffg dcffg pmffg anffg cdffg ctffg),slffg⟩)
  (cffg:PySem.W.codeIn K cdffg "is_figures"=true)
  (kffg:PySem.W.keepIn K (.ref ffg)=true)
  (afrf:PySem.W.nsIn K mainGlobals "row_form"=some (some (.ref frf)))
  (lfrf:K.lookup frf=some ⟨ocfrf,odfrf,.func (PySem.W.fnOf "row_form" "row_form" (defArgs cF) (defBody cF) (defScope cF) .none kVfrf dcfrf pmfrf anfrf cdfrf ctfrf),slfrf⟩)
  (cfrf:PySem.W.codeIn K cdfrf "row_form"=true)
  (kfrf:PySem.W.keepIn K (.ref frf)=true)
  (afst:PySem.W.nsIn K mainGlobals "slot_text"=some (some (.ref fst)))
  (lfst:K.lookup fst=some ⟨ocfst,odfst,.func (PySem.W.fnOf "slot_text" "slot_text" (defArgs ce) (defBody ce) (defScope ce) .none kVfst dcfst pmfst anfst cdfst ctfst),slfst⟩)
  (cfst:PySem.W.codeIn K cdfst "slot_text"=true)
  (kfst:PySem.W.keepIn K (.ref fst)=true)
  (afot:PySem.W.nsIn K mainGlobals "operand_text"=some (some (.ref fot)))
  (lfot:K.lookup fot=some ⟨ocfot,odfot,.func (PySem.W.fnOf "operand_text" "operand_text" (defArgs bt) (defBody bt) (defScope bt) .none kVfot dcfot pmfot anfot cdfot ctfot),slfot⟩)
  (cfot:PySem.W.codeIn K cdfot "operand_text"=true)
  (kfot:PySem.W.keepIn K (.ref fot)=true)
  (afib:PySem.W.nsIn K mainGlobals "in_brackets"=some (some (.ref fib)))
  (lfib:K.lookup fib=some ⟨ocfib,odfib,.func (PySem.W.fnOf "in_brackets" "in_brackets" (defArgs bx) (defBody bx) (defScope bx) .none kVfib dcfib pmfib anfib cdfib ctfib),slfib⟩)
  (cfib:PySem.W.codeIn K cdfib "in_brackets"=true)
  (kfib:PySem.W.keepIn K (.ref fib)=true)
  (afto:PySem.W.nsIn K mainGlobals "text_of"=some (some (.ref fto)))
  (lfto:K.lookup fto=some ⟨ocfto,odfto,.func (PySem.W.fnOf "text_of" "text_of" (defArgs db) (defBody db) (defScope db) .none kVfto dcfto pmfto anfto cdfto ctfto),slfto⟩)
  (cfto:PySem.W.codeIn K cdfto "text_of"=true)
  (kfto:PySem.W.keepIn K (.ref fto)=true)
  (aflo:PySem.W.nsIn K mainGlobals "line_of"=some (some (.ref flo)))
  (lflo:K.lookup flo=some ⟨ocflo,odflo,.func (PySem.W.fnOf "line_of" "line_of" (defArgs de) (defBody de) (defScope de) .none kVflo dcflo pmflo anflo cdflo ctflo),slflo⟩)
  (cflo:PySem.W.codeIn K cdflo "line_of"=true)
  (kflo:PySem.W.keepIn K (.ref flo)=true)
  (afrt:PySem.W.nsIn K mainGlobals "rows_text"=some (some (.ref frt)))
  (lfrt:K.lookup frt=some ⟨ocfrt,odfrt,.func (PySem.W.fnOf "rows_text" "rows_text" (defArgs cf) (defBody cf) (defScope cf) .none kVfrt dcfrt pmfrt anfrt cdfrt ctfrt),slfrt⟩)
  (cfrt:PySem.W.codeIn K cdfrt "rows_text"=true)
  (kfrt:PySem.W.keepIn K (.ref frt)=true)
  (afeo:PySem.W.nsIn K mainGlobals "ends_of"=some (some (.ref feo)))
  (lfeo:K.lookup feo=some ⟨ocfeo,odfeo,.func (PySem.W.fnOf "ends_of" "ends_of" (defArgs dg) (defBody dg) (defScope dg) .none kVfeo dcfeo pmfeo anfeo cdfeo ctfeo),slfeo⟩)
  (cfeo:PySem.W.codeIn K cdfeo "ends_of"=true)
  (kfeo:PySem.W.keepIn K (.ref feo)=true)
  (afca:PySem.W.nsIn K mainGlobals "codes_ahead"=some (some (.ref fca)))
  (lfca:K.lookup fca=some ⟨ocfca,odfca,.func (PySem.W.fnOf "codes_ahead" "codes_ahead" (defArgs bz) (defBody bz) (defScope bz) .none kVfca dcfca pmfca anfca cdfca ctfca),slfca⟩)
  (cfca:PySem.W.codeIn K cdfca "codes_ahead"=true)
  (kfca:PySem.W.keepIn K (.ref fca)=true)
  (afcf:PySem.W.nsIn K mainGlobals "can_follow"=some (some (.ref fcf)))
  (lfcf:K.lookup fcf=some ⟨ocfcf,odfcf,.func (PySem.W.fnOf "can_follow" "can_follow" (defArgs bQ) (defBody bQ) (defScope bQ) .none kVfcf dcfcf pmfcf anfcf cdfcf ctfcf),slfcf⟩)
  (cfcf:PySem.W.codeIn K cdfcf "can_follow"=true)
  (kfcf:PySem.W.keepIn K (.ref fcf)=true)
  (afrc:PySem.W.nsIn K mainGlobals "read_codes"=some (some (.ref frc)))
  (lfrc:K.lookup frc=some ⟨ocfrc,odfrc,.func (PySem.W.fnOf "read_codes" "read_codes" (defArgs bN) (defBody bN) (defScope bN) .none kVfrc dcfrc pmfrc anfrc cdfrc ctfrc),slfrc⟩)
  (cfrc:PySem.W.codeIn K cdfrc "read_codes"=true)
  (kfrc:PySem.W.keepIn K (.ref frc)=true)
  (afrr:PySem.W.nsIn K mainGlobals "read_rows_of"=some (some (.ref frr)))
  (lfrr:K.lookup frr=some ⟨ocfrr,odfrr,.func (PySem.W.fnOf "read_rows_of" "read_rows_of" (defArgs bq) (defBody bq) (defScope bq) .none kVfrr dcfrr pmfrr anfrr cdfrr ctfrr),slfrr⟩)
  (cfrr:PySem.W.codeIn K cdfrr "read_rows_of"=true)
  (kfrr:PySem.W.keepIn K (.ref frr)=true)
  (afrd:PySem.W.nsIn K mainGlobals "read_rows"=some (some (.ref frd)))
  (lfrd:K.lookup frd=some ⟨ocfrd,odfrd,.func (PySem.W.fnOf "read_rows" "read_rows" (defArgs cg) (defBody cg) (defScope cg) .none kVfrd dcfrd pmfrd anfrd cdfrd ctfrd),slfrd⟩)
  (cfrd:PySem.W.codeIn K cdfrd "read_rows"=true)
  (kfrd:PySem.W.keepIn K (.ref frd)=true)
  (afcl:PySem.W.nsIn K mainGlobals "_law_cell"=some (some (.ref fcl)))
  (lfcl:K.lookup fcl=some ⟨ocfcl,odfcl,.func (PySem.W.fnOf "_law_cell" "_law_cell" (defArgs sLcell) (defBody sLcell) (defScope sLcell) .none kVfcl dcfcl pmfcl anfcl cdfcl ctfcl),slfcl⟩)
  (cfcl:PySem.W.codeIn K cdfcl "_law_cell"=true)
  (kfcl:PySem.W.keepIn K (.ref fcl)=true)
  (afsta:PySem.W.nsIn K mainGlobals "_law_state"=some (some (.ref fsta)))
  (lfsta:K.lookup fsta=some ⟨ocfsta,odfsta,.func (PySem.W.fnOf "_law_state" "_law_state" (defArgs sLstate) (defBody sLstate) (defScope sLstate) .none kVfsta dcfsta pmfsta anfsta cdfsta ctfsta),slfsta⟩)
  (cfsta:PySem.W.codeIn K cdfsta "_law_state"=true)
  (kfsta:PySem.W.keepIn K (.ref fsta)=true)
  (aftake:PySem.W.nsIn K mainGlobals "_law_take"=some (some (.ref ftake)))
  (lftake:K.lookup ftake=some ⟨ocftake,odftake,.func (PySem.W.fnOf "_law_take" "_law_take" (defArgs sTake) (defBody sTake) (defScope sTake) .none kVftake dcftake pmftake anftake cdftake ctftake),slftake⟩)
  (cftake:PySem.W.codeIn K cdftake "_law_take"=true)
  (kftake:PySem.W.keepIn K (.ref ftake)=true)
  (aflw:PySem.W.nsIn K mainGlobals "_law_word"=some (some (.ref flw)))
  (lflw:K.lookup flw=some ⟨ocflw,odflw,.func (PySem.W.fnOf "_law_word" "_law_word" (defArgs sLword) (defBody sLword) (defScope sLword) .none kVflw dcflw pmflw anflw cdflw ctflw),slflw⟩)
  (cflw:PySem.W.codeIn K cdflw "_law_word"=true)
  (kflw:PySem.W.keepIn K (.ref flw)=true)
  (afsh:PySem.W.nsIn K mainGlobals "_law_shapes"=some (some (.ref fsh)))
  (lfsh:K.lookup fsh=some ⟨ocfsh,odfsh,.func (PySem.W.fnOf "_law_shapes" "_law_shapes" (defArgs sLshapes) (defBody sLshapes) (defScope sLshapes) .none kVfsh dcfsh pmfsh anfsh cdfsh ctfsh),slfsh⟩)
  (cfsh:PySem.W.codeIn K cdfsh "_law_shapes"=true)
  (kfsh:PySem.W.keepIn K (.ref fsh)=true)
  (afop:PySem.W.nsIn K mainGlobals "_law_operand"=some (some (.ref fop)))
  (lfop:K.lookup fop=some ⟨ocfop,odfop,.func (PySem.W.fnOf "_law_operand" "_law_operand" (defArgs sLoperand) (defBody sLoperand) (defScope sLoperand) .none kVfop dcfop pmfop anfop cdfop ctfop),slfop⟩)
  (cfop:PySem.W.codeIn K cdfop "_law_operand"=true)
  (kfop:PySem.W.keepIn K (.ref fop)=true)
  (aflf:PySem.W.nsIn K mainGlobals "_law_field"=some (some (.ref flf)))
  (lflf:K.lookup flf=some ⟨ocflf,odflf,.func (PySem.W.fnOf "_law_field" "_law_field" (defArgs sLfield) (defBody sLfield) (defScope sLfield) .none kVflf dcflf pmflf anflf cdflf ctflf),slflf⟩)
  (cflf:PySem.W.codeIn K cdflf "_law_field"=true)
  (kflf:PySem.W.keepIn K (.ref flf)=true)
  (aflr:PySem.W.nsIn K mainGlobals "_law_row"=some (some (.ref flr)))
  (lflr:K.lookup flr=some ⟨ocflr,odflr,.func (PySem.W.fnOf "_law_row" "_law_row" (defArgs sLrow) (defBody sLrow) (defScope sLrow) .none kVflr dcflr pmflr anflr cdflr ctflr),slflr⟩)
  (cflr:PySem.W.codeIn K cdflr "_law_row"=true)
  (kflr:PySem.W.keepIn K (.ref flr)=true)
  (afls:PySem.W.nsIn K mainGlobals "_law_rows"=some (some (.ref fls)))
  (lfls:K.lookup fls=some ⟨ocfls,odfls,.func (PySem.W.fnOf "_law_rows" "_law_rows" (defArgs sLrows) (defBody sLrows) (defScope sLrows) .none kVfls dcfls pmfls anfls cdfls ctfls),slfls⟩)
  (cfls:PySem.W.codeIn K cdfls "_law_rows"=true)
  (kfls:PySem.W.keepIn K (.ref fls)=true)
  (afqt:PySem.W.nsIn K mainGlobals "_law_operand_text"=some (some (.ref fqt)))
  (lfqt:K.lookup fqt=some ⟨ocfqt,odfqt,.func (PySem.W.fnOf "_law_operand_text" "_law_operand_text" (defArgs aY) (defBody aY) (defScope aY) .none kVfqt dcfqt pmfqt anfqt cdfqt ctfqt),slfqt⟩)
  (cfqt:PySem.W.codeIn K cdfqt "_law_operand_text"=true)
  (kfqt:PySem.W.keepIn K (.ref fqt)=true)
  (afqf:PySem.W.nsIn K mainGlobals "_law_field_text"=some (some (.ref fqf)))
  (lfqf:K.lookup fqf=some ⟨ocfqf,odfqf,.func (PySem.W.fnOf "_law_field_text" "_law_field_text" (defArgs bA) (defBody bA) (defScope bA) .none kVfqf dcfqf pmfqf anfqf cdfqf ctfqf),slfqf⟩)
  (cfqf:PySem.W.codeIn K cdfqf "_law_field_text"=true)
  (kfqf:PySem.W.keepIn K (.ref fqf)=true)
  (afll:PySem.W.nsIn K mainGlobals "_law_lines"=some (some (.ref fll)))
  (lfll:K.lookup fll=some ⟨ocfll,odfll,.func (PySem.W.fnOf "_law_lines" "_law_lines" (defArgs sLlines) (defBody sLlines) (defScope sLlines) .none kVfll dcfll pmfll anfll cdfll ctfll),slfll⟩)
  (cfll:PySem.W.codeIn K cdfll "_law_lines"=true)
  (kfll:PySem.W.keepIn K (.ref fll)=true)
  (aflaw:PySem.W.nsIn K mainGlobals "law"=some (some (.ref flaw)))
  (lflaw:K.lookup flaw=some ⟨ocflaw,odflaw,.func (PySem.W.fnOf "law" "law" (defArgs slaw) (defBody slaw) (defScope slaw) .none kVflaw dcflaw pmflaw anflaw cdflaw ctflaw),slflaw⟩)
  (cflaw:PySem.W.codeIn K cdflaw "law"=true)
  (kflaw:PySem.W.keepIn K (.ref flaw)=true)
  (zlen:PySem.W.nsIn K mainGlobals "len"=some none)
  (zlist:PySem.W.nsIn K mainGlobals "list"=some none)
  (ztuple:PySem.W.nsIn K mainGlobals "tuple"=some none)
  (zsorted:PySem.W.nsIn K mainGlobals "sorted"=some none)
  (zisinstance:PySem.W.nsIn K mainGlobals "isinstance"=some none)
  (zrange:PySem.W.nsIn K mainGlobals "range"=some none)
  (zint:PySem.W.nsIn K mainGlobals "int"=some none)
  (zzip:PySem.W.nsIn K mainGlobals "zip"=some none)
  (zbool:PySem.W.nsIn K mainGlobals "bool"=some none)
  (zstr:PySem.W.nsIn K mainGlobals "str"=some none)
  (zall:PySem.W.nsIn K mainGlobals "all"=some none)
  (zrepr:PySem.W.nsIn K mainGlobals "repr"=some none)
  (zset:PySem.W.nsIn K mainGlobals "set"=some none)
  (zenumerate:PySem.W.nsIn K mainGlobals "enumerate"=some none)
  (zmax:PySem.W.nsIn K mainGlobals "max"=some none)
  (zmin:PySem.W.nsIn K mainGlobals "min"=some none)
  (kII:PySem.W.kitOne K (.type "int") (.type "int")=some true)
  (kIB:PySem.W.kitOne K (.type "int") (.type "bool")=some false)
  (kSS:PySem.W.kitOne K (.type "str") (.type "str")=some true)
  (kST:PySem.W.kitOne K (.type "str") (.type "tuple")=some false)
  (gMir:PySem.W.nsIn K mainGlobals "MOST_IN_ROW"=some (some (.int 4 tgMir)))
  (gLp:PySem.W.nsIn K mainGlobals "LAST_PLACE"=some (some (.int 599 tgLp)))
  (gMf:PySem.W.nsIn K mainGlobals "MOST_FIGURES"=some (some (.int 12 tgMf)))
  (gMs:PySem.W.nsIn K mainGlobals "MOST_SIGNS"=some (some (.int 60000 tgMs)))
  (gMn:PySem.W.nsIn K mainGlobals "MOST_NAMES"=some (some (.int 300 tgMn)))
  (gMsl:PySem.W.nsIn K mainGlobals "MOST_SLOTS"=some (some (.int 600 tgMsl)))
  (gLet:PySem.W.nsIn K mainGlobals "LETTERS"=some (some (.str "abcdefghijklmnopqrstuvwxyz" tgLet)))
  (gFig:PySem.W.nsIn K mainGlobals "FIGURES"=some (some (.str "0123456789" tgFig)))
  (gF:PySem.W.nsIn K mainGlobals "FORMS"=some (some (.ref aF)))
  (lF:K.lookup aF=some ⟨.type "dict",none,.dict es nF,#[]⟩)
  (kF:PySem.W.KeysLit w.params es.toList)
  (oF:(aF == sysModules)=false)
  (gO:PySem.W.nsIn K mainGlobals "OPS"=some (some (.ref aO)))
  (lO:K.lookup aO=some ⟨.type "tuple",dO,.seq #[.str "add" uO_0,.str "sub" uO_1,.str "mul" uO_2,.str "less" uO_3,.str "same" uO_4] nO,sO⟩)
  (w0:PySem.W.nsIn K aF "move"=some (some (.ref tF0)))
  (lF0:K.lookup tF0=some ⟨.type "tuple",dF0,.seq #[.str "slot" uF0_0,.str "operand" uF0_1] nF0,sF0⟩)
  (w1:PySem.W.nsIn K aF "math"=some (some (.ref tF1)))
  (lF1:K.lookup tF1=some ⟨.type "tuple",dF1,.seq #[.str "slot" uF1_0,.str "op" uF1_1,.str "operand" uF1_2,.str "operand" uF1_3,.str "place" uF1_4] nF1,sF1⟩)
  (w2:PySem.W.nsIn K aF "tell"=some (some (.ref tF2)))
  (lF2:K.lookup tF2=some ⟨.type "tuple",dF2,.seq #[.str "slot" uF2_0,.str "operand" uF2_1,.str "place" uF2_2] nF2,sF2⟩)
  (w3:PySem.W.nsIn K aF "ask"=some (some (.ref tF3)))
  (lF3:K.lookup tF3=some ⟨.type "tuple",dF3,.seq #[.str "slot" uF3_0,.str "place" uF3_1] nF3,sF3⟩)
  (w4:PySem.W.nsIn K aF "load"=some (some (.ref tF4)))
  (lF4:K.lookup tF4=some ⟨.type "tuple",dF4,.seq #[.str "slot" uF4_0,.str "slot" uF4_1] nF4,sF4⟩)
  (w5:PySem.W.nsIn K aF "store"=some (some (.ref tF5)))
  (lF5:K.lookup tF5=some ⟨.type "tuple",dF5,.seq #[.str "slot" uF5_0,.str "slot" uF5_1,.str "operand" uF5_2,.str "place" uF5_3] nF5,sF5⟩)
  (w6:PySem.W.nsIn K aF "make"=some (some (.ref tF6)))
  (lF6:K.lookup tF6=some ⟨.type "tuple",dF6,.seq #[.str "slot" uF6_0,.str "word" uF6_1,.str "operands" uF6_2,.str "place" uF6_3,.str "live" uF6_4] nF6,sF6⟩)
  (w7:PySem.W.nsIn K aF "close"=some (some (.ref tF7)))
  (lF7:K.lookup tF7=some ⟨.type "tuple",dF7,.seq #[.str "slot" uF7_0,.str "code" uF7_1,.str "kept" uF7_2,.str "place" uF7_3,.str "live" uF7_4] nF7,sF7⟩)
  (w8:PySem.W.nsIn K aF "box"=some (some (.ref tF8)))
  (lF8:K.lookup tF8=some ⟨.type "tuple",dF8,.seq #[.str "slot" uF8_0,.str "operand" uF8_1,.str "place" uF8_2,.str "live" uF8_3] nF8,sF8⟩)
  (w9:PySem.W.nsIn K aF "call"=some (some (.ref tF9)))
  (lF9:K.lookup tF9=some ⟨.type "tuple",dF9,.seq #[.str "slot" uF9_0,.str "operand" uF9_1,.str "operands" uF9_2,.str "place" uF9_3,.str "live" uF9_4] nF9,sF9⟩)
  (w10:PySem.W.nsIn K aF "last"=some (some (.ref tF10)))
  (lF10:K.lookup tF10=some ⟨.type "tuple",dF10,.seq #[.str "operand" uF10_0,.str "operands" uF10_1,.str "place" uF10_2] nF10,sF10⟩)
  (w11:PySem.W.nsIn K aF "back"=some (some (.ref tF11)))
  (lF11:K.lookup tF11=some ⟨.type "tuple",dF11,.seq #[.str "operand" uF11_0] nF11,sF11⟩)
  (w12:PySem.W.nsIn K aF "test"=some (some (.ref tF12)))
  (lF12:K.lookup tF12=some ⟨.type "tuple",dF12,.seq #[.str "operand" uF12_0,.str "row" uF12_1,.str "place" uF12_2] nF12,sF12⟩)
  (w13:PySem.W.nsIn K aF "match"=some (some (.ref tF13)))
  (lF13:K.lookup tF13=some ⟨.type "tuple",dF13,.seq #[.str "operand" uF13_0,.str "word" uF13_1,.str "slots" uF13_2,.str "row" uF13_3,.str "place" uF13_4] nF13,sF13⟩)
  (w14:PySem.W.nsIn K aF "jump"=some (some (.ref tF14)))
  (lF14:K.lookup tF14=some ⟨.type "tuple",dF14,.seq #[.str "row" uF14_0] nF14,sF14⟩)
  (w15:PySem.W.nsIn K aF "guard"=some (some (.ref tF15)))
  (lF15:K.lookup tF15=some ⟨.type "tuple",dF15,.seq #[.str "word" uF15_0,.str "slot" uF15_1,.str "row" uF15_2] nF15,sF15⟩)
  (w16:PySem.W.nsIn K aF "unguard"=some (some (.ref tF16)))
  (lF16:K.lookup tF16=some ⟨.type "tuple",dF16,.seq #[] nF16,sF16⟩)
  (w17:PySem.W.nsIn K aF "raise"=some (some (.ref tF17)))
  (lF17:K.lookup tF17=some ⟨.type "tuple",dF17,.seq #[.str "word" uF17_0,.str "operand" uF17_1,.str "place" uF17_2] nF17,sF17⟩)
  :∃ fd:FuncData,(∀ (s:Shared) (v:Value),BindsTo s fd ⟨[v],[]⟩ [("_law_script",v)])∧∀ base:Heap,K.In base→base.Ns mainGlobals mg→FnOk l.prog w K mg base CX0 10 fa fd ["_law_script"] (spLaw K):=by
 have e:=hfa.symm.trans (PySem.W.mg_of X G aflaw)
 cases e
 have ylen:=PySem.W.mg_none_of X G zlen
 have ylist:=PySem.W.mg_none_of X G zlist
 have ytuple:=PySem.W.mg_none_of X G ztuple
 have ysorted:=PySem.W.mg_none_of X G zsorted
 have yisinstance:=PySem.W.mg_none_of X G zisinstance
 have yrange:=PySem.W.mg_none_of X G zrange
 have yint:=PySem.W.mg_none_of X G zint
 have yzip:=PySem.W.mg_none_of X G zzip
 have ybool:=PySem.W.mg_none_of X G zbool
 have ystr:=PySem.W.mg_none_of X G zstr
 have yall:=PySem.W.mg_none_of X G zall
 have yrepr:=PySem.W.mg_none_of X G zrepr
 have yset:=PySem.W.mg_none_of X G zset
 have yenumerate:=PySem.W.mg_none_of X G zenumerate
 have ymax:=PySem.W.mg_none_of X G zmax
 have ymin:=PySem.W.mg_none_of X G zmin
 have gC:=PySem.W.mg_of X G mcC
 have GfRI:=ar (st:=eE) lfRI cfRI kfRI
 have BfRI:=GfRI.binds (ps:=["self","line","number","codes","own","end"]) fun _ _ _ _ _ _ us hl=>by obtain ⟨_,_,_,_,_,_,rfl⟩:=len6 hl;exact rfl
 have GfNd:=ar (st:=eD) lfNd cfNd kfNd
 have BfNd:=GfNd.binds (ps:=["self","holds"]) fun _ _ _ _ _ _ us hl=>by obtain ⟨_,_,rfl⟩:=len2 hl;exact rfl
 have GfTk:=ar (st:=eC) lfTk cfTk kfTk
 have BfTk:=GfTk.binds (ps:=["self"]) fun _ _ _ _ _ _ us hl=>by obtain ⟨_,rfl⟩:=len1 hl;exact rfl
 have GfRw:=ar (st:=cq) lfRw cfRw kfRw
 have BfRw:=GfRw.binds (ps:=["self"]) fun _ _ _ _ _ _ us hl=>by obtain ⟨_,rfl⟩:=len1 hl;exact rfl
 have GfRh:=ar (st:=bE) lfRh cfRh kfRh
 have BfRh:=GfRh.binds (ps:=["self","sort"]) fun _ _ _ _ _ _ us hl=>by obtain ⟨_,_,rfl⟩:=len2 hl;exact rfl
 have GfNi:=ar (st:=bU) lfNi cfNi kfNi
 have BfNi:=GfNi.binds (ps:=["self","sort","word"]) fun _ _ _ _ _ _ us hl=>by obtain ⟨_,_,_,rfl⟩:=len3 hl;exact rfl
 have GfSi:=ar (st:=cK) lfSi cfSi kfSi
 have BfSi:=GfSi.binds (ps:=["self","word"]) fun _ _ _ _ _ _ us hl=>by obtain ⟨_,_,rfl⟩:=len2 hl;exact rfl
 have GfOi:=ar (st:=bG) lfOi cfOi kfOi
 have BfOi:=GfOi.binds (ps:=["self","word"]) fun _ _ _ _ _ _ us hl=>by obtain ⟨_,_,rfl⟩:=len2 hl;exact rfl
 have GfRo:=ar (st:=aX) lfRo cfRo kfRo
 have BfRo:=GfRo.binds (ps:=["self","sort"]) fun _ _ _ _ _ _ us hl=>by obtain ⟨_,_,rfl⟩:=len2 hl;exact rfl
 have GfRs:=ar (st:=bF) lfRs cfRs kfRs
 have BfRs:=GfRs.binds (ps:=["self","sort"]) fun _ _ _ _ _ _ us hl=>by obtain ⟨_,_,rfl⟩:=len2 hl;exact rfl
 have GfTb:=ar (st:=aU) lfTb cfTb kfTb
 have BfTb:=GfTb.binds (ps:=["self"]) fun _ _ _ _ _ _ us hl=>by obtain ⟨_,rfl⟩:=len1 hl;exact rfl
 have Gfisn:=ar (st:=ci) lfisn cfisn kfisn
 have Bfisn:=Gfisn.binds (ps:=["thing"]) fun _ _ _ _ _ _ us hl=>by obtain ⟨_,rfl⟩:=len1 hl;exact rfl
 have Fisn:Dn K mg "is_number" ci ["thing"]:=⟨fisn,_,Gfisn,Bfisn,PySem.W.mg_of X G afisn⟩
 have Gfpl:=ar (st:=cG) lfpl cfpl kfpl
 have Bfpl:=Gfpl.binds (ps:=["thing"]) fun _ _ _ _ _ _ us hl=>by obtain ⟨_,rfl⟩:=len1 hl;exact rfl
 have Fpl:Dn K mg "is_place" cG ["thing"]:=⟨fpl,_,Gfpl,Bfpl,PySem.W.mg_of X G afpl⟩
 have Gfiw:=ar (st:=df) lfiw cfiw kfiw
 have Bfiw:=Gfiw.binds (ps:=["thing"]) fun _ _ _ _ _ _ us hl=>by obtain ⟨_,rfl⟩:=len1 hl;exact rfl
 have Fiw:Dn K mg "is_word" df ["thing"]:=⟨fiw,_,Gfiw,Bfiw,PySem.W.mg_of X G afiw⟩
 have Gfpn:=ar (st:=splain) lfpn cfpn kfpn
 have Bfpn:=Gfpn.binds (ps:=["thing"]) fun _ _ _ _ _ _ us hl=>by obtain ⟨_,rfl⟩:=len1 hl;exact rfl
 have Fpn:Dn K mg "plain" splain ["thing"]:=⟨fpn,_,Gfpn,Bfpn,PySem.W.mg_of X G afpn⟩
 have Gfnw:=ar (st:=aS) lfnw cfnw kfnw
 have Bfnw:=Gfnw.binds (ps:=["word","most"]) fun _ _ _ _ _ _ us hl=>by obtain ⟨_,_,rfl⟩:=len2 hl;exact rfl
 have Fnw:Dn K mg "is_number_word" aS ["word","most"]:=⟨fnw,_,Gfnw,Bfnw,PySem.W.mg_of X G afnw⟩
 have Gffg:=ar (st:=bP) lffg cffg kffg
 have Bffg:=Gffg.binds (ps:=["word"]) fun _ _ _ _ _ _ us hl=>by obtain ⟨_,rfl⟩:=len1 hl;exact rfl
 have Ffg:Dn K mg "is_figures" bP ["word"]:=⟨ffg,_,Gffg,Bffg,PySem.W.mg_of X G affg⟩
 have Gfrf:=ar (st:=cF) lfrf cfrf kfrf
 have Bfrf:=Gfrf.binds (ps:=["word"]) fun _ _ _ _ _ _ us hl=>by obtain ⟨_,rfl⟩:=len1 hl;exact rfl
 have Frf:Dn K mg "row_form" cF ["word"]:=⟨frf,_,Gfrf,Bfrf,PySem.W.mg_of X G afrf⟩
 have Gfst:=ar (st:=ce) lfst cfst kfst
 have Bfst:=Gfst.binds (ps:=["slot"]) fun _ _ _ _ _ _ us hl=>by obtain ⟨_,rfl⟩:=len1 hl;exact rfl
 have Fst:Dn K mg "slot_text" ce ["slot"]:=⟨fst,_,Gfst,Bfst,PySem.W.mg_of X G afst⟩
 have Gfot:=ar (st:=bt) lfot cfot kfot
 have Bfot:=Gfot.binds (ps:=["operand"]) fun _ _ _ _ _ _ us hl=>by obtain ⟨_,rfl⟩:=len1 hl;exact rfl
 have Fot:Dn K mg "operand_text" bt ["operand"]:=⟨fot,_,Gfot,Bfot,PySem.W.mg_of X G afot⟩
 have Gfib:=ar (st:=bx) lfib cfib kfib
 have Bfib:=Gfib.binds (ps:=["words"]) fun _ _ _ _ _ _ us hl=>by obtain ⟨_,rfl⟩:=len1 hl;exact rfl
 have Fib:Dn K mg "in_brackets" bx ["words"]:=⟨fib,_,Gfib,Bfib,PySem.W.mg_of X G afib⟩
 have Gfto:=ar (st:=db) lfto cfto kfto
 have Bfto:=Gfto.binds (ps:=["sort","thing"]) fun _ _ _ _ _ _ us hl=>by obtain ⟨_,_,rfl⟩:=len2 hl;exact rfl
 have Fto:Dn K mg "text_of" db ["sort","thing"]:=⟨fto,_,Gfto,Bfto,PySem.W.mg_of X G afto⟩
 have Gflo:=ar (st:=de) lflo cflo kflo
 have Bflo:=Gflo.binds (ps:=["row"]) fun _ _ _ _ _ _ us hl=>by obtain ⟨_,rfl⟩:=len1 hl;exact rfl
 have Flo:Dn K mg "line_of" de ["row"]:=⟨flo,_,Gflo,Bflo,PySem.W.mg_of X G aflo⟩
 have Gfrt:=ar (st:=cf) lfrt cfrt kfrt
 have Bfrt:=Gfrt.binds (ps:=["program"]) fun _ _ _ _ _ _ us hl=>by obtain ⟨_,rfl⟩:=len1 hl;exact rfl
 have Frt:Dn K mg "rows_text" cf ["program"]:=⟨frt,_,Gfrt,Bfrt,PySem.W.mg_of X G afrt⟩
 have Gfeo:=ar (st:=dg) lfeo cfeo kfeo
 have Bfeo:=Gfeo.binds (ps:=["codes","many"]) fun _ _ _ _ _ _ us hl=>by obtain ⟨_,_,rfl⟩:=len2 hl;exact rfl
 have Feo:Dn K mg "ends_of" dg ["codes","many"]:=⟨feo,_,Gfeo,Bfeo,PySem.W.mg_of X G afeo⟩
 have Gfca:=ar (st:=bz) lfca cfca kfca
 have Bfca:=Gfca.binds (ps:=["lines"]) fun _ _ _ _ _ _ us hl=>by obtain ⟨_,rfl⟩:=len1 hl;exact rfl
 have Fca:Dn K mg "codes_ahead" bz ["lines"]:=⟨fca,_,Gfca,Bfca,PySem.W.mg_of X G afca⟩
 have Gfcf:=ar (st:=bQ) lfcf cfcf kfcf
 have Bfcf:=Gfcf.binds (ps:=["code","codes","many"]) fun _ _ _ _ _ _ us hl=>by obtain ⟨_,_,_,rfl⟩:=len3 hl;exact rfl
 have Fcf:Dn K mg "can_follow" bQ ["code","codes","many"]:=⟨fcf,_,Gfcf,Bfcf,PySem.W.mg_of X G afcf⟩
 have Gfrc:=ar (st:=bN) lfrc cfrc kfrc
 have Bfrc:=Gfrc.binds (ps:=["lines","many"]) fun _ _ _ _ _ _ us hl=>by obtain ⟨_,_,rfl⟩:=len2 hl;exact rfl
 have Frc:Dn K mg "read_codes" bN ["lines","many"]:=⟨frc,_,Gfrc,Bfrc,PySem.W.mg_of X G afrc⟩
 have Gfrr:=ar (st:=bq) lfrr cfrr kfrr
 have Bfrr:=Gfrr.binds (ps:=["code","end","codes","lines"]) fun _ _ _ _ _ _ us hl=>by obtain ⟨_,_,_,_,rfl⟩:=len4 hl;exact rfl
 have Frr:Dn K mg "read_rows_of" bq ["code","end","codes","lines"]:=⟨frr,_,Gfrr,Bfrr,PySem.W.mg_of X G afrr⟩
 have Gfrd:=ar (st:=cg) lfrd cfrd kfrd
 have Bfrd:=Gfrd.binds (ps:=["text"]) fun _ _ _ _ _ _ us hl=>by obtain ⟨_,rfl⟩:=len1 hl;exact rfl
 have Frd:Dn K mg "read_rows" cg ["text"]:=⟨frd,_,Gfrd,Bfrd,PySem.W.mg_of X G afrd⟩
 have Gfcl:=ar (st:=sLcell) lfcl cfcl kfcl
 have Bfcl:=Gfcl.binds (ps:=["_law_script","_law_k"]) fun _ _ _ _ _ _ us hl=>by obtain ⟨_,_,rfl⟩:=len2 hl;exact rfl
 have Fcl:Dn K mg "_law_cell" sLcell ["_law_script","_law_k"]:=⟨fcl,_,Gfcl,Bfcl,PySem.W.mg_of X G afcl⟩
 have Gfsta:=ar (st:=sLstate) lfsta cfsta kfsta
 have Bfsta:=Gfsta.binds (ps:=["_law_cell_here","_law_seed"]) fun _ _ _ _ _ _ us hl=>by obtain ⟨_,_,rfl⟩:=len2 hl;exact rfl
 have Fsta:Dn K mg "_law_state" sLstate ["_law_cell_here","_law_seed"]:=⟨fsta,_,Gfsta,Bfsta,PySem.W.mg_of X G afsta⟩
 have Gftake:=ar (st:=sTake) lftake cftake kftake
 have Bftake:=Gftake.binds (ps:=["_law_state_here","_law_many"]) fun _ _ _ _ _ _ us hl=>by obtain ⟨_,_,rfl⟩:=len2 hl;exact rfl
 have Ftake:Dn K mg "_law_take" sTake ["_law_state_here","_law_many"]:=⟨ftake,_,Gftake,Bftake,PySem.W.mg_of X G aftake⟩
 have Gflw:=ar (st:=sLword) lflw cflw kflw
 have Bflw:=Gflw.binds (ps:=["_law_state_here"]) fun _ _ _ _ _ _ us hl=>by obtain ⟨_,rfl⟩:=len1 hl;exact rfl
 have Flw:Dn K mg "_law_word" sLword ["_law_state_here"]:=⟨flw,_,Gflw,Bflw,PySem.W.mg_of X G aflw⟩
 have Gfsh:=ar (st:=sLshapes) lfsh cfsh kfsh
 have Bfsh:=Gfsh.binds (ps:=[]) fun _ _ _ _ _ _ us hl=>by obtain rfl:=List.length_eq_zero_iff.mp hl;exact rfl
 have Fsh:Dn K mg "_law_shapes" sLshapes []:=⟨fsh,_,Gfsh,Bfsh,PySem.W.mg_of X G afsh⟩
 have Gfop:=ar (st:=sLoperand) lfop cfop kfop
 have Bfop:=Gfop.binds (ps:=["_law_state_here","_law_slots"]) fun _ _ _ _ _ _ us hl=>by obtain ⟨_,_,rfl⟩:=len2 hl;exact rfl
 have Fop:Dn K mg "_law_operand" sLoperand ["_law_state_here","_law_slots"]:=⟨fop,_,Gfop,Bfop,PySem.W.mg_of X G afop⟩
 have Gflf:=ar (st:=sLfield) lflf cflf kflf
 have Bflf:=Gflf.binds (ps:=["_law_state_here","_law_sort","_law_code","_law_many","_law_kept"]) fun _ _ _ _ _ _ us hl=>by obtain ⟨_,_,_,_,_,rfl⟩:=len5 hl;exact rfl
 have Flf:Dn K mg "_law_field" sLfield ["_law_state_here","_law_sort","_law_code","_law_many","_law_kept"]:=⟨flf,_,Gflf,Bflf,PySem.W.mg_of X G aflf⟩
 have Gflr:=ar (st:=sLrow) lflr cflr kflr
 have Bflr:=Gflr.binds (ps:=["_law_state_here","_law_code","_law_many","_law_codes"]) fun _ _ _ _ _ _ us hl=>by obtain ⟨_,_,_,_,rfl⟩:=len4 hl;exact rfl
 have Flr:Dn K mg "_law_row" sLrow ["_law_state_here","_law_code","_law_many","_law_codes"]:=⟨flr,_,Gflr,Bflr,PySem.W.mg_of X G aflr⟩
 have Gfls:=ar (st:=sLrows) lfls cfls kfls
 have Bfls:=Gfls.binds (ps:=["_law_state_here"]) fun _ _ _ _ _ _ us hl=>by obtain ⟨_,rfl⟩:=len1 hl;exact rfl
 have Fls:Dn K mg "_law_rows" sLrows ["_law_state_here"]:=⟨fls,_,Gfls,Bfls,PySem.W.mg_of X G afls⟩
 have Gfqt:=ar (st:=aY) lfqt cfqt kfqt
 have Bfqt:=Gfqt.binds (ps:=["_law_operand_here"]) fun _ _ _ _ _ _ us hl=>by obtain ⟨_,rfl⟩:=len1 hl;exact rfl
 have Fqt:Dn K mg "_law_operand_text" aY ["_law_operand_here"]:=⟨fqt,_,Gfqt,Bfqt,PySem.W.mg_of X G afqt⟩
 have Gfqf:=ar (st:=bA) lfqf cfqf kfqf
 have Bfqf:=Gfqf.binds (ps:=["_law_sort","_law_field_here"]) fun _ _ _ _ _ _ us hl=>by obtain ⟨_,_,rfl⟩:=len2 hl;exact rfl
 have Fqf:Dn K mg "_law_field_text" bA ["_law_sort","_law_field_here"]:=⟨fqf,_,Gfqf,Bfqf,PySem.W.mg_of X G afqf⟩
 have Gfll:=ar (st:=sLlines) lfll cfll kfll
 have Bfll:=Gfll.binds (ps:=["_law_program"]) fun _ _ _ _ _ _ us hl=>by obtain ⟨_,rfl⟩:=len1 hl;exact rfl
 have Fll:Dn K mg "_law_lines" sLlines ["_law_program"]:=⟨fll,_,Gfll,Bfll,PySem.W.mg_of X G afll⟩
 have Gflaw:=ar (st:=slaw) lflaw cflaw kflaw
 have Bflaw:=Gflaw.binds (ps:=["_law_script"]) fun _ _ _ _ _ _ us hl=>by obtain ⟨_,rfl⟩:=len1 hl;exact rfl
 have hC:Cs K cC ["words","number","codes","own","end","at"]:=⟨⟨pgcC,hdcC,pocC,sacC⟩,fun f hf=>by
  simp only [xAv,xBv,or_false] at hf
  rcases hf with h | h | h | h | h | h
  ·rw [h];exact ncC_words
  ·rw [h];exact ncC_number
  ·rw [h];exact ncC_codes
  ·rw [h];exact ncC_own
  ·rw [h];exact ncC_end
  ·rw [h];exact ncC_at⟩
 have hfm:∀ p∈tab,∃ t,PySem.W.nsIn K aF p.1=some (some (.ref t))∧∀ H,SqT K H t (p.2.map fun s=>V.str s.nm):=by
  intro p hp
  simp only [tab,xAv,xBv,or_false] at hp
  rcases hp with rfl | rfl | rfl | rfl | rfl | rfl | rfl | rfl | rfl | rfl | rfl | rfl | rfl | rfl | rfl | rfl | rfl | rfl
  ·exact ⟨tF0,w0,bg lF0 (by show 2≤1000;decide) (.cons ⟨_,rfl⟩ (.cons ⟨_,rfl⟩ .nil))⟩
  ·exact ⟨tF1,w1,bg lF1 (by show 5≤1000;decide) (.cons ⟨_,rfl⟩ (.cons ⟨_,rfl⟩ (.cons ⟨_,rfl⟩ (.cons ⟨_,rfl⟩ (.cons ⟨_,rfl⟩ .nil)))))⟩
  ·exact ⟨tF2,w2,bg lF2 (by show 3≤1000;decide) (.cons ⟨_,rfl⟩ (.cons ⟨_,rfl⟩ (.cons ⟨_,rfl⟩ .nil)))⟩
  ·exact ⟨tF3,w3,bg lF3 (by show 2≤1000;decide) (.cons ⟨_,rfl⟩ (.cons ⟨_,rfl⟩ .nil))⟩
  ·exact ⟨tF4,w4,bg lF4 (by show 2≤1000;decide) (.cons ⟨_,rfl⟩ (.cons ⟨_,rfl⟩ .nil))⟩
  ·exact ⟨tF5,w5,bg lF5 (by show 4≤1000;decide) (.cons ⟨_,rfl⟩ (.cons ⟨_,rfl⟩ (.cons ⟨_,rfl⟩ (.cons ⟨_,rfl⟩ .nil))))⟩
  ·exact ⟨tF6,w6,bg lF6 (by show 5≤1000;decide) (.cons ⟨_,rfl⟩ (.cons ⟨_,rfl⟩ (.cons ⟨_,rfl⟩ (.cons ⟨_,rfl⟩ (.cons ⟨_,rfl⟩ .nil)))))⟩
  ·exact ⟨tF7,w7,bg lF7 (by show 5≤1000;decide) (.cons ⟨_,rfl⟩ (.cons ⟨_,rfl⟩ (.cons ⟨_,rfl⟩ (.cons ⟨_,rfl⟩ (.cons ⟨_,rfl⟩ .nil)))))⟩
  ·exact ⟨tF8,w8,bg lF8 (by show 4≤1000;decide) (.cons ⟨_,rfl⟩ (.cons ⟨_,rfl⟩ (.cons ⟨_,rfl⟩ (.cons ⟨_,rfl⟩ .nil))))⟩
  ·exact ⟨tF9,w9,bg lF9 (by show 5≤1000;decide) (.cons ⟨_,rfl⟩ (.cons ⟨_,rfl⟩ (.cons ⟨_,rfl⟩ (.cons ⟨_,rfl⟩ (.cons ⟨_,rfl⟩ .nil)))))⟩
  ·exact ⟨tF10,w10,bg lF10 (by show 3≤1000;decide) (.cons ⟨_,rfl⟩ (.cons ⟨_,rfl⟩ (.cons ⟨_,rfl⟩ .nil)))⟩
  ·exact ⟨tF11,w11,bg lF11 (by show 1≤1000;decide) (.cons ⟨_,rfl⟩ .nil)⟩
  ·exact ⟨tF12,w12,bg lF12 (by show 3≤1000;decide) (.cons ⟨_,rfl⟩ (.cons ⟨_,rfl⟩ (.cons ⟨_,rfl⟩ .nil)))⟩
  ·exact ⟨tF13,w13,bg lF13 (by show 5≤1000;decide) (.cons ⟨_,rfl⟩ (.cons ⟨_,rfl⟩ (.cons ⟨_,rfl⟩ (.cons ⟨_,rfl⟩ (.cons ⟨_,rfl⟩ .nil)))))⟩
  ·exact ⟨tF14,w14,bg lF14 (by show 1≤1000;decide) (.cons ⟨_,rfl⟩ .nil)⟩
  ·exact ⟨tF15,w15,bg lF15 (by show 3≤1000;decide) (.cons ⟨_,rfl⟩ (.cons ⟨_,rfl⟩ (.cons ⟨_,rfl⟩ .nil)))⟩
  ·exact ⟨tF16,w16,bg lF16 (by show 0≤1000;decide) .nil⟩
  ·exact ⟨tF17,w17,bg lF17 (by show 3≤1000;decide) (.cons ⟨_,rfl⟩ (.cons ⟨_,rfl⟩ (.cons ⟨_,rfl⟩ .nil)))⟩
 have T:Txt w K mg cC aF aO:=⟨ylen,ylist,ytuple,ysorted,yisinstance,yrange,yint,yzip,ybool,ystr,yall,yrepr,yset,yenumerate,ymax,ymin,kII,kIB,kSS,kST,⟨_,PySem.W.mg_of X G gMir⟩,⟨_,PySem.W.mg_of X G gLp⟩,⟨_,PySem.W.mg_of X G gMf⟩,⟨_,PySem.W.mg_of X G gMs⟩,⟨_,PySem.W.mg_of X G gMn⟩,⟨_,PySem.W.mg_of X G gMsl⟩,⟨_,PySem.W.mg_of X G gLet⟩,⟨_,PySem.W.mg_of X G gFig⟩,PySem.W.mg_of X G gF,PySem.W.mg_of X G gO,⟨es,nF,lF,kF,oF⟩,bg lO (by show 5≤1000;decide) (.cons ⟨_,rfl⟩ (.cons ⟨_,rfl⟩ (.cons ⟨_,rfl⟩ (.cons ⟨_,rfl⟩ (.cons ⟨_,rfl⟩ .nil))))),hfm,hC⟩
 exact ⟨PySem.W.fnOf "law" "law" (defArgs slaw) (defBody slaw) (defScope slaw) .none kVflaw dcflaw pmflaw anflaw cdflaw ctflaw,fun s v=>.of_eq rfl,fun base _ _=>by
  have c_isn:=tY (P:=l.prog) (w:=w) (base:=base) Fisn T
  have c_pl:=vM Fpl T c_isn
  have c_iw:=vZ (P:=l.prog) (w:=w) (base:=base) Fiw T
  have c_pn:=vL Fpn T c_isn
  have c_nw:=vQ (P:=l.prog) (w:=w) (base:=base) Fnw T
  have c_fg:=wa Ffg T c_nw
  have c_rf:=vG (P:=l.prog) (w:=w) (base:=base) Frf T
  have c_st:=vw (P:=l.prog) (w:=w) (base:=base) Fst T
  have c_ot:=vN Fot T c_st
  have c_ib:=v0 (P:=l.prog) (w:=w) (base:=base) Fib T
  have c_to:=vq Fto T c_st c_ot c_ib
  have c_lo:=vW Flo T c_to c_rf
  have c_rt:=vA Frt T c_lo
  have cNd:Mal l.prog w K mg base cC "need" 1 ["self","holds"] spNd:=⟨hC.c,fNd,_,⟨afNd,ifNd,kfNd⟩,vS (P:=l.prog) (w:=w) (base:=base) ⟨GfNd,BfNd⟩ T⟩
  have cTk:Mal l.prog w K mg base cC "take" 2 ["self"] (spTk cC):=⟨hC.c,fTk,_,⟨afTk,ifTk,kfTk⟩,vt ⟨GfTk,BfTk⟩ T cNd⟩
  have cSi:Mal l.prog w K mg base cC "slot_in" 3 ["self","word"] (spSi cC):=⟨hC.c,fSi,_,⟨afSi,ifSi,kfSi⟩,vx ⟨GfSi,BfSi⟩ T cNd c_fg⟩
  have cOi:Mal l.prog w K mg base cC "operand_in" 4 ["self","word"] (spOi cC):=⟨hC.c,fOi,_,⟨afOi,ifOi,kfOi⟩,vP ⟨GfOi,BfOi⟩ T cNd cSi c_nw⟩
  have cNi:Mal l.prog w K mg base cC "number_in" 3 ["self","sort","word"] (spNi cC):=⟨hC.c,fNi,_,⟨afNi,ifNi,kfNi⟩,vR ⟨GfNi,BfNi⟩ T cNd c_fg c_pl⟩
  have cTb:Mal l.prog w K mg base cC "take_bracketed" 3 ["self"] (spTb cC):=⟨hC.c,fTb,_,⟨afTb,ifTb,kfTb⟩,vv ⟨GfTb,BfTb⟩ T cNd cTk⟩
  have cRo:Mal l.prog w K mg base cC "read_operands" 5 ["self","sort"] (spRo cC):=⟨hC.c,fRo,_,⟨afRo,ifRo,kfRo⟩,vD ⟨GfRo,BfRo⟩ T cNd cOi cTb⟩
  have cRs:Mal l.prog w K mg base cC "read_slots" 4 ["self","sort"] (spRs cC):=⟨hC.c,fRs,_,⟨afRs,ifRs,kfRs⟩,vB ⟨GfRs,BfRs⟩ T cNd cSi cTb⟩
  have cRh:Mal l.prog w K mg base cC "read_thing" 6 ["self","sort"] (spRh cC):=⟨hC.c,fRh,_,⟨afRh,ifRh,kfRh⟩,vF ⟨GfRh,BfRh⟩ T cNd cTk cSi cOi cNi cRo cRs c_iw⟩
  have cRw:Mal l.prog w K mg base cC "read_row" 7 ["self"] (spRw cC):=⟨hC.c,fRw,_,⟨afRw,ifRw,kfRw⟩,vz ⟨GfRw,BfRw⟩ T cNd cTk cRh c_rf⟩
  have iRI:Ini l.prog w K mg base cC "RowReader" 1 ["self","line","number","codes","own","end"] (spRI cC):=⟨gC,fRI,_,⟨mkcC,afRI,ifRI,kccC⟩,vE (P:=l.prog) (w:=w) (base:=base) ⟨GfRI,BfRI⟩ T⟩
  have c_eo:=wb (P:=l.prog) (w:=w) (base:=base) Feo T
  have c_ca:=wf (P:=l.prog) (w:=w) (base:=base) Fca T
  have c_cf:=we Fcf T c_pl
  have c_rc:=vI Frc T c_fg c_cf
  have c_rr:=vC Frr T iRI cRw
  have c_rd:=vH Frd T c_pn c_ca c_rc c_eo c_rr
  have c_cl:=wc (P:=l.prog) (w:=w) (base:=base) Fcl T
  have c_sta:=tW (P:=l.prog) (w:=w) (base:=base) Fsta T
  have c_take:=qW (P:=l.prog) (w:=w) (base:=base) Ftake T
  have c_lw:=vT Flw T c_take
  have c_sh:=vy (P:=l.prog) (w:=w) (base:=base) Fsh T
  have c_op:=vO Fop T c_take
  have c_lf:=vY Flf T c_take c_op c_lw
  have c_lr:=vV Flr T c_take c_sh c_lf
  have c_ls:=vU Fls T c_take c_lr c_op
  have c_qt:=vJ (P:=l.prog) (w:=w) (base:=base) Fqt T
  have c_qf:=vK Fqf T c_qt
  have c_ll:=vX Fll T c_sh c_qf
  exact tX Gflaw T c_cl c_sta c_ls c_ll c_rt c_rd⟩
theorem walk {l:PySem.W.OpenLaw} {q:Program} {loose:List Str} {XP:(Str→Option Value)→Heap→Prop} {YP:World→Heap→Prop} {d:DefRec} {K:Params→xFr} (hn:l.most=some 63) (hdf:d.params.defaults=[])
  (hY:∀ (w:World) (h:Heap),YP w h→(K w.params).In h)
  (F:∀ (w:World) (mg:Str→Option Value) (fa:Addr) (h:Heap),(K w.params).In h→h.Ns mainGlobals mg→mg d.name=some (.ref fa) →
   ∃ fd:FuncData,(∀ (s:Shared) (u:Value),BindsTo s fd ⟨[u],[]⟩ [("_law_script",u)])∧∀ base:Heap,(K w.params).In base→base.Ns mainGlobals mg→FnOk l.prog w (K w.params) mg base CX0 10 fa fd ["_law_script"] (spLaw (K w.params))) :
  PySem.W.WalkO q loose XP YP l.row.toRowW d [] (fun f vs=>PySem.call f vs) :=
 L2.walk_of (n:=63) (k:=10) (x:="_law_script") (CX:=fun _=>CX0) (sp:=fun w=>spLaw (K w.params)) hn (by decide) hdf ⟨rfl,by decide,by decide,rfl⟩ hY F (fun _ _ a ns hl _ hS=>⟨a,ns,rfl,hS,fun _=>rfl⟩) fun _ _ _ _ _ z=>z
end
end K63
namespace PySem.W.Fast
abbrev tw18269986228715485687:PySem.Program:=PySem.Challenge.pw_spacewright_k63_rows_written_and_read
theorem te18269986228715485687:PySem.Challenge.pw_spacewright_k63_rows_written_and_read=tw18269986228715485687:=rfl
theorem te7047879152591361877:True:=trivial
theorem te10878421864139207582:True:=trivial
theorem te10413662685329972626:True:=trivial
theorem te2641937018869037538:True:=trivial
theorem te12241387866647697842:True:=trivial
theorem te15283756620668544558:True:=trivial
theorem te3777483712986363546:True:=trivial
theorem te12944671849452946569:True:=trivial
theorem te9414938510280288507:True:=trivial
theorem te1325277899342877859:True:=trivial
theorem te8305646002419072628:True:=trivial
theorem te11936103668402510220:True:=trivial
theorem te4850728115893489717:True:=trivial
theorem te9511572033653297637:True:=trivial
theorem te2968717581843845970:True:=trivial
theorem te12456028707317780743:True:=trivial
theorem te6528983492414521002:True:=trivial
theorem te4995155477627056334:True:=trivial
theorem te2542343118580715622:True:=trivial
theorem te269439335474917099:True:=trivial
theorem te9082455461469611309:True:=trivial
theorem te13230394649488525486:True:=trivial
theorem te5476074671913361671:True:=trivial
theorem te8411831098362753637:True:=trivial
theorem te14051434975033138617:True:=trivial
theorem te12803035861562703882:True:=trivial
theorem te3036093258272083883:True:=trivial
theorem te6198457677234428056:True:=trivial
theorem te4810070222207644789:True:=trivial
theorem te13661981866272684527:True:=trivial
theorem te14124780056365909789:True:=trivial
theorem te5691278428735945328:True:=trivial
theorem te3802139257073107744:True:=trivial
theorem te8008512015996660507:True:=trivial
theorem te5159111672493805537:True:=trivial
theorem te16061416277654547062:True:=trivial
theorem te5685269472992704570:True:=trivial
theorem te8071708022475784858:True:=trivial
theorem te5922611417194381935:True:=trivial
theorem te11086490432221484591:True:=trivial
theorem te8307635100915437662:True:=trivial
theorem te5487091810415774297:True:=trivial
theorem te14117901208733761796:True:=trivial
theorem te16910740318149395538:True:=trivial
theorem te10580464100934697417:True:=trivial
theorem te17633392396436390142:True:=trivial
theorem te7604552020172787793:True:=trivial
theorem te4083632771174947520:True:=trivial
theorem te4122909629049862429:True:=trivial
theorem te436890071062650418:True:=trivial
theorem te11805154099399560389:True:=trivial
theorem te9417372006233676376:True:=trivial
theorem te8005180412619403024:True:=trivial
theorem te11188390409190615837:True:=trivial
theorem te5397690591876169221:True:=trivial
theorem te1334626257902742694:True:=trivial
theorem te12395995493246345360:True:=trivial
theorem te10154956869267331683:True:=trivial
theorem te15812450065009435718:True:=trivial
theorem te4079214045401153486:True:=trivial
theorem te3696615916580060661:True:=trivial
theorem te2965423812245745409:True:=trivial
theorem te801992892387051960:True:=trivial
theorem te10314934294415897959:True:=trivial
theorem te11774780914707320037:True:=trivial
theorem te4072165834437380363:True:=trivial
theorem te934068599277078510:True:=trivial
theorem te14660706397121006942:True:=trivial
theorem te8586500057949411345:True:=trivial
theorem te2825575324866802328:True:=trivial
theorem te8899275031305725535:True:=trivial
theorem te15273442295815245648:True:=trivial
theorem te17298188464758253808:True:=trivial
theorem te11891673952343486228:True:=trivial
theorem te11646735118127334763:True:=trivial
theorem te5673659100995914620:True:=trivial
theorem te16107097347196341890:True:=trivial
theorem te4995209820279824643:True:=trivial
theorem te6200834438905787090:True:=trivial
theorem te400877815250525640:True:=trivial
theorem te17616954243354773179:True:=trivial
theorem te135773846648606317:True:=trivial
theorem te16867310182601084511:True:=trivial
theorem te10801577808852196868:True:=trivial
theorem te6710118613020968384:True:=trivial
theorem te1268241958355074596:True:=trivial
theorem te11733219147201802255:True:=trivial
theorem te16072905375667612336:True:=trivial
theorem te2658345301459684690:True:=trivial
theorem te7122786408427980961:True:=trivial
theorem te7618526525286950532:True:=trivial
theorem te6895584058558110630:True:=trivial
theorem te6731092582424152697:True:=trivial
theorem te5333227136100784258:True:=trivial
theorem te15949376097195041690:True:=trivial
theorem te6977652494321938403:True:=trivial
theorem te5613642287225468387:True:=trivial
theorem te16705724619414503587:True:=trivial
theorem te12890984083241841869:True:=trivial
theorem te8336038098797510347:True:=trivial
theorem te5355318442784404960:True:=trivial
theorem te2325156006409892597:True:=trivial
theorem te7469146973316490492:True:=trivial
theorem te3511847893366061704:True:=trivial
theorem te3364853694439343486:True:=trivial
theorem te15701272254820428246:True:=trivial
theorem te16284001699853909796:True:=trivial
theorem te9852051676393749383:True:=trivial
theorem te7525372058488588145:True:=trivial
theorem te15318973774358955728:True:=trivial
theorem te14599991628352378219:True:=trivial
theorem te757863773400946930:True:=trivial
theorem te7025667727954754673:True:=trivial
theorem te12314000851340512271:True:=trivial
theorem te16972438937662138183:True:=trivial
theorem te14648180625593237437:True:=trivial
theorem te15060306596628697439:True:=trivial
theorem te256951028486095402:True:=trivial
theorem te9235329013876470268:True:=trivial
theorem te17016417424696846625:True:=trivial
theorem te17188865086426401013:True:=trivial
theorem te18005204125745020093:True:=trivial
theorem te9230489508231705264:True:=trivial
theorem te15191294204424396446:True:=trivial
theorem te12625472519147953464:True:=trivial
theorem te6002346465253826288:True:=trivial
theorem te12754969180179401704:True:=trivial
theorem te9867622110100966770:True:=trivial
theorem te16483017521297140421:True:=trivial
theorem te8669841349580488218:True:=trivial
theorem te9023341512925159810:True:=trivial
theorem te2294118129155747707:True:=trivial
theorem te17525475444342701104:True:=trivial
theorem te16109586571411362046:True:=trivial
theorem te5913849480506038947:True:=trivial
theorem te11681820092856782126:True:=trivial
theorem te7676983632523403432:True:=trivial
theorem te1098958153434218800:True:=trivial
theorem te1192056719253660838:True:=trivial
theorem te4903519191986868945:True:=trivial
theorem te11517479532453129832:True:=trivial
theorem te7006728648153438191:True:=trivial
theorem te9760574919029032541:True:=trivial
theorem te6039221940456150633:True:=trivial
theorem te2182365433912536302:True:=trivial
theorem te6156321944274203766:True:=trivial
theorem te12909314493310165637:True:=trivial
theorem te1000563765330382138:True:=trivial
theorem te1826446007910180930:True:=trivial
theorem te3010830079782887348:True:=trivial
theorem te17649127130322983138:True:=trivial
theorem te15536069510318018548:True:=trivial
theorem te11938205987513230863:True:=trivial
theorem te9138172312766923224:True:=trivial
theorem te11959920435513075786:True:=trivial
theorem te8286762847456827059:True:=trivial
theorem te15029493606644281459:True:=trivial
theorem te13719548144504072771:True:=trivial
theorem te17282491013831648811:True:=trivial
theorem te14790545958966269021:True:=trivial
theorem te6429802105210649854:True:=trivial
theorem te7972080541573173202:True:=trivial
theorem te18163407472770404925:True:=trivial
theorem te5798988327658113577:True:=trivial
theorem te2231815628961003564:True:=trivial
theorem te383459384827631062:True:=trivial
theorem te16588330196629810826:True:=trivial
theorem te17686737202235038594:True:=trivial
theorem te10107966306214982668:True:=trivial
theorem te17379136894831491728:True:=trivial
theorem te12379026826667921421:True:=trivial
theorem te1387811447298226645:True:=trivial
theorem te22348552486124476:True:=trivial
theorem te12556128990510252581:True:=trivial
theorem te70987437911957123:True:=trivial
theorem te13170061385858478552:True:=trivial
theorem te9677950289602676045:True:=trivial
theorem te13494749955264856245:True:=trivial
theorem te16056880365976562127:True:=trivial
theorem te17605542252477695162:True:=trivial
theorem te10328029177630282:True:=trivial
theorem te11401983788974870876:True:=trivial
theorem te13763854340074302370:True:=trivial
theorem te6552539886762933455:True:=trivial
theorem te17924592894432630384:True:=trivial
theorem te8389145314011527240:True:=trivial
theorem te9554665258688525802:True:=trivial
theorem te3655391734000683258:True:=trivial
theorem te790258101893935411:True:=trivial
theorem te16852544817305440821:True:=trivial
theorem te12104738387610602971:True:=trivial
theorem te6690353881925801390:True:=trivial
theorem te6801010546136374772:True:=trivial
theorem te407659452724538353:True:=trivial
theorem te2282335209520181231:True:=trivial
theorem te4521629656754540451:True:=trivial
theorem te314473833300370060:True:=trivial
theorem te13371893761743723842:True:=trivial
theorem te12400047845723045635:True:=trivial
theorem te6009466612704498140:True:=trivial
theorem te10850969134470319581:True:=trivial
theorem te4215812346747668046:True:=trivial
theorem te17755526833628828098:True:=trivial
theorem te2558699129479639021:True:=trivial
theorem te8375068459585629549:True:=trivial
theorem te2642253038639241403:True:=trivial
theorem te3693395584961832370:True:=trivial
theorem te4782788658445374429:True:=trivial
theorem te16374781942675989203:True:=trivial
theorem te11575392036629695443:True:=trivial
theorem te17300453768246995915:True:=trivial
theorem te11267151975745576072:True:=trivial
theorem te10467167964478299962:True:=trivial
theorem te14649327267205443759:True:=trivial
theorem te6385234962810852912:True:=trivial
theorem te8456860604196428554:True:=trivial
theorem te8294053265290133822:True:=trivial
theorem te13949117683052200758:True:=trivial
theorem te15972676154040202368:True:=trivial
theorem te11784676038585666023:True:=trivial
theorem te12861261198067714554:True:=trivial
theorem te9274678659842466933:True:=trivial
theorem te8464356637453636050:True:=trivial
theorem te8115552868982290821:True:=trivial
theorem te6376808237972997329:True:=trivial
theorem te11222280054806222000:True:=trivial
theorem te13055986358813383841:True:=trivial
theorem te5741563113696778623:True:=trivial
theorem te18076341690102946833:True:=trivial
theorem te12685966965464303562:True:=trivial
theorem te13570623547198852636:True:=trivial
theorem te12999432523730484975:True:=trivial
theorem te13552705689727491201:True:=trivial
theorem te10425109578971411618:True:=trivial
theorem te9264946567893779832:True:=trivial
theorem te16076148381225492732:True:=trivial
theorem te13544091523427709163:True:=trivial
theorem te7878790659643449929:True:=trivial
theorem te3002484836189943842:True:=trivial
theorem te6214075875768816570:True:=trivial
theorem te12387159718619666707:True:=trivial
theorem te16322711674833138219:True:=trivial
theorem te7189155432074292918:True:=trivial
theorem te17404465599272216600:True:=trivial
theorem te1241871685996286619:True:=trivial
theorem te6392849475283023292:True:=trivial
theorem te17874200756231624726:True:=trivial
theorem te6316869459187851916:True:=trivial
theorem te9772383035499623961:True:=trivial
theorem te14802698723029513431:True:=trivial
theorem te8148622301665252052:True:=trivial
theorem te12708568714035393797:True:=trivial
theorem te15637591469828445972:True:=trivial
theorem te17123949511433895535:True:=trivial
theorem te4564335078391419324:True:=trivial
theorem te7770282162480934362:True:=trivial
theorem te7808644986161610361:True:=trivial
theorem te6383765523218048308:True:=trivial
theorem te5055010238166958153:True:=trivial
theorem te4704088674918303562:True:=trivial
theorem te11354928291524154293:True:=trivial
theorem te11326028989303416667:True:=trivial
theorem te3763405693047619830:True:=trivial
theorem te10073761153447699287:True:=trivial
theorem te17238520368771828762:True:=trivial
theorem te4720944775250192442:True:=trivial
theorem te2501182885988644707:True:=trivial
theorem te11378125634352923025:True:=trivial
theorem te18391821191184286830:True:=trivial
theorem te16807528899978872718:True:=trivial
theorem te16326096113252112926:True:=trivial
theorem te7387174382322816340:True:=trivial
theorem te2600472340017480523:True:=trivial
theorem te12691029737048846712:True:=trivial
theorem te3251716003958713686:True:=trivial
theorem te10919162252551452913:True:=trivial
theorem te2582333497619257514:True:=trivial
theorem te8357951806717779389:True:=trivial
theorem te3775346458942338814:True:=trivial
theorem te12030402806641855094:True:=trivial
theorem te10962839972163287419:True:=trivial
theorem te3912777155063661027:True:=trivial
theorem te13028900612632286289:True:=trivial
theorem te18194665724520112386:True:=trivial
theorem te9263479222540342035:True:=trivial
theorem te9548695825935270179:True:=trivial
theorem te4351999729538613200:True:=trivial
theorem te15884399020426967790:True:=trivial
theorem te16385639854846942685:True:=trivial
theorem te15143735262767280830:True:=trivial
theorem te18195565432715855477:True:=trivial
theorem te17560928349267218421:True:=trivial
theorem te2898484367194153761:True:=trivial
theorem te14474155480466395365:True:=trivial
theorem te1088906743648872664:True:=trivial
theorem te16348385522241856498:True:=trivial
theorem te7352842087279086575:True:=trivial
theorem te2365986032037361749:True:=trivial
theorem te17167098603766743136:True:=trivial
theorem te10051661580309363803:True:=trivial
theorem te8147101377411995991:True:=trivial
theorem te16190871881547318121:True:=trivial
theorem te4607133693525334215:True:=trivial
theorem te12152531926246429257:True:=trivial
theorem te11590517246833423982:True:=trivial
end PySem.W.Fast
open PySem PySem.W PyProof.Rows
set_option maxRecDepth 100000 in
set_option maxHeartbeats 0 in
theorem PySem.Challenge.cw_spacewright_k63_rows_written_and_read_holds : PySem.Challenge.rw_spacewright_k63_rows_written_and_read.Holds := by
  w_on; o_law; k_head; (case hw => w_witness2)
  k_fill
  refine K63.walk (l := PySem.Challenge.rw_spacewright_k63_rows_written_and_read) rfl rfl (fun w h Y => PySem.W.kIn_of Y) ?F
  case F =>
    intro w mg fa h KX G hmg
    refine' K63.all_mk KX G hmg ?mcC ?pgcC ?hdcC ?pocC ?sacC ?mkcC ?kccC ?ncC_words ?ncC_number ?ncC_codes ?ncC_own ?ncC_end ?ncC_at ?afRI ?ifRI ?lfRI ?cfRI ?kfRI ?afNd ?ifNd ?lfNd ?cfNd ?kfNd ?afTk ?ifTk ?lfTk ?cfTk ?kfTk ?afRw ?ifRw ?lfRw ?cfRw ?kfRw ?afRh ?ifRh ?lfRh ?cfRh ?kfRh ?afNi ?ifNi ?lfNi ?cfNi ?kfNi ?afSi ?ifSi ?lfSi ?cfSi ?kfSi ?afOi ?ifOi ?lfOi ?cfOi ?kfOi ?afRo ?ifRo ?lfRo ?cfRo ?kfRo ?afRs ?ifRs ?lfRs ?cfRs ?kfRs ?afTb ?ifTb ?lfTb ?cfTb ?kfTb ?afisn ?lfisn ?cfisn ?kfisn ?afpl ?lfpl ?cfpl ?kfpl ?afiw ?lfiw ?cfiw ?kfiw ?afpn ?lfpn ?cfpn ?kfpn ?afnw ?lfnw ?cfnw ?kfnw ?affg ?lffg ?cffg ?kffg ?afrf ?lfrf ?cfrf ?kfrf ?afst ?lfst ?cfst ?kfst ?afot ?lfot ?cfot ?kfot ?afib ?lfib ?cfib ?kfib ?afto ?lfto ?cfto ?kfto ?aflo ?lflo ?cflo ?kflo ?afrt ?lfrt ?cfrt ?kfrt ?afeo ?lfeo ?cfeo ?kfeo ?afca ?lfca ?cfca ?kfca ?afcf ?lfcf ?cfcf ?kfcf ?afrc ?lfrc ?cfrc ?kfrc ?afrr ?lfrr ?cfrr ?kfrr ?afrd ?lfrd ?cfrd ?kfrd ?afcl ?lfcl ?cfcl ?kfcl ?afsta ?lfsta ?cfsta ?kfsta ?aftake ?lftake ?cftake ?kftake ?aflw ?lflw ?cflw ?kflw ?afsh ?lfsh ?cfsh ?kfsh ?afop ?lfop ?cfop ?kfop ?aflf ?lflf ?cflf ?kflf ?aflr ?lflr ?cflr ?kflr ?afls ?lfls ?cfls ?kfls ?afqt ?lfqt ?cfqt ?kfqt ?afqf ?lfqf ?cfqf ?kfqf ?afll ?lfll ?cfll ?kfll ?aflaw ?lflaw ?cflaw ?kflaw ?zlen ?zlist ?ztuple ?zsorted ?zisinstance ?zrange ?zint ?zzip ?zbool ?zstr ?zall ?zrepr ?zset ?zenumerate ?zmax ?zmin ?kII ?kIB ?kSS ?kST ?gMir ?gLp ?gMf ?gMs ?gMn ?gMsl ?gLet ?gFig ?gF ?lF ?kF ?oF ?gO ?lO ?w0 ?lF0 ?w1 ?lF1 ?w2 ?lF2 ?w3 ?lF3 ?w4 ?lF4 ?w5 ?lF5 ?w6 ?lF6 ?w7 ?lF7 ?w8 ?lF8 ?w9 ?lF9 ?w10 ?lF10 ?w11 ?lF11 ?w12 ?lF12 ?w13 ?lF13 ?w14 ?lF14 ?w15 ?lF15 ?w16 ?lF16 ?w17 ?lF17
    (case mcC => k_is)
    (case pgcC => k_is)
    (case hdcC => k_is)
    (case pocC => k_is)
    (case sacC => k_is)
    (case mkcC => k_is)
    (case kccC => k_is)
    (case ncC_words => k_is)
    (case ncC_number => k_is)
    (case ncC_codes => k_is)
    (case ncC_own => k_is)
    (case ncC_end => k_is)
    (case ncC_at => k_is)
    (case afRI => k_is)
    (case ifRI => k_is)
    (case lfRI => k_is)
    (case cfRI => k_is)
    (case kfRI => k_is)
    (case afNd => k_is)
    (case ifNd => k_is)
    (case lfNd => k_is)
    (case cfNd => k_is)
    (case kfNd => k_is)
    (case afTk => k_is)
    (case ifTk => k_is)
    (case lfTk => k_is)
    (case cfTk => k_is)
    (case kfTk => k_is)
    (case afRw => k_is)
    (case ifRw => k_is)
    (case lfRw => k_is)
    (case cfRw => k_is)
    (case kfRw => k_is)
    (case afRh => k_is)
    (case ifRh => k_is)
    (case lfRh => k_is)
    (case cfRh => k_is)
    (case kfRh => k_is)
    (case afNi => k_is)
    (case ifNi => k_is)
    (case lfNi => k_is)
    (case cfNi => k_is)
    (case kfNi => k_is)
    (case afSi => k_is)
    (case ifSi => k_is)
    (case lfSi => k_is)
    (case cfSi => k_is)
    (case kfSi => k_is)
    (case afOi => k_is)
    (case ifOi => k_is)
    (case lfOi => k_is)
    (case cfOi => k_is)
    (case kfOi => k_is)
    (case afRo => k_is)
    (case ifRo => k_is)
    (case lfRo => k_is)
    (case cfRo => k_is)
    (case kfRo => k_is)
    (case afRs => k_is)
    (case ifRs => k_is)
    (case lfRs => k_is)
    (case cfRs => k_is)
    (case kfRs => k_is)
    (case afTb => k_is)
    (case ifTb => k_is)
    (case lfTb => k_is)
    (case cfTb => k_is)
    (case kfTb => k_is)
    (case afisn => k_is)
    (case lfisn => k_is)
    (case cfisn => k_is)
    (case kfisn => k_is)
    (case afpl => k_is)
    (case lfpl => k_is)
    (case cfpl => k_is)
    (case kfpl => k_is)
    (case afiw => k_is)
    (case lfiw => k_is)
    (case cfiw => k_is)
    (case kfiw => k_is)
    (case afpn => k_is)
    (case lfpn => k_is)
    (case cfpn => k_is)
    (case kfpn => k_is)
    (case afnw => k_is)
    (case lfnw => k_is)
    (case cfnw => k_is)
    (case kfnw => k_is)
    (case affg => k_is)
    (case lffg => k_is)
    (case cffg => k_is)
    (case kffg => k_is)
    (case afrf => k_is)
    (case lfrf => k_is)
    (case cfrf => k_is)
    (case kfrf => k_is)
    (case afst => k_is)
    (case lfst => k_is)
    (case cfst => k_is)
    (case kfst => k_is)
    (case afot => k_is)
    (case lfot => k_is)
    (case cfot => k_is)
    (case kfot => k_is)
    (case afib => k_is)
    (case lfib => k_is)
    (case cfib => k_is)
    (case kfib => k_is)
    (case afto => k_is)
    (case lfto => k_is)
    (case cfto => k_is)
    (case kfto => k_is)
    (case aflo => k_is)
    (case lflo => k_is)
    (case cflo => k_is)
    (case kflo => k_is)
    (case afrt => k_is)
    (case lfrt => k_is)
    (case cfrt => k_is)
    (case kfrt => k_is)
    (case afeo => k_is)
    (case lfeo => k_is)
    (case cfeo => k_is)
    (case kfeo => k_is)
    (case afca => k_is)
    (case lfca => k_is)
    (case cfca => k_is)
    (case kfca => k_is)
    (case afcf => k_is)
    (case lfcf => k_is)
    (case cfcf => k_is)
    (case kfcf => k_is)
    (case afrc => k_is)
    (case lfrc => k_is)
    (case cfrc => k_is)
    (case kfrc => k_is)
    (case afrr => k_is)
    (case lfrr => k_is)
    (case cfrr => k_is)
    (case kfrr => k_is)
    (case afrd => k_is)
    (case lfrd => k_is)
    (case cfrd => k_is)
    (case kfrd => k_is)
    (case afcl => k_is)
    (case lfcl => k_is)
    (case cfcl => k_is)
    (case kfcl => k_is)
    (case afsta => k_is)
    (case lfsta => k_is)
    (case cfsta => k_is)
    (case kfsta => k_is)
    (case aftake => k_is)
    (case lftake => k_is)
    (case cftake => k_is)
    (case kftake => k_is)
    (case aflw => k_is)
    (case lflw => k_is)
    (case cflw => k_is)
    (case kflw => k_is)
    (case afsh => k_is)
    (case lfsh => k_is)
    (case cfsh => k_is)
    (case kfsh => k_is)
    (case afop => k_is)
    (case lfop => k_is)
    (case cfop => k_is)
    (case kfop => k_is)
    (case aflf => k_is)
    (case lflf => k_is)
    (case cflf => k_is)
    (case kflf => k_is)
    (case aflr => k_is)
    (case lflr => k_is)
    (case cflr => k_is)
    (case kflr => k_is)
    (case afls => k_is)
    (case lfls => k_is)
    (case cfls => k_is)
    (case kfls => k_is)
    (case afqt => k_is)
    (case lfqt => k_is)
    (case cfqt => k_is)
    (case kfqt => k_is)
    (case afqf => k_is)
    (case lfqf => k_is)
    (case cfqf => k_is)
    (case kfqf => k_is)
    (case afll => k_is)
    (case lfll => k_is)
    (case cfll => k_is)
    (case kfll => k_is)
    (case aflaw => k_is)
    (case lflaw => k_is)
    (case cflaw => k_is)
    (case kflaw => k_is)
    (case zlen => k_is)
    (case zlist => k_is)
    (case ztuple => k_is)
    (case zsorted => k_is)
    (case zisinstance => k_is)
    (case zrange => k_is)
    (case zint => k_is)
    (case zzip => k_is)
    (case zbool => k_is)
    (case zstr => k_is)
    (case zall => k_is)
    (case zrepr => k_is)
    (case zset => k_is)
    (case zenumerate => k_is)
    (case zmax => k_is)
    (case zmin => k_is)
    (case kII => kit_is)
    (case kIB => kit_is)
    (case kSS => kit_is)
    (case kST => kit_is)
    (case gMir => k_is)
    (case gLp => k_is)
    (case gMf => k_is)
    (case gMs => k_is)
    (case gMn => k_is)
    (case gMsl => k_is)
    (case gLet => k_is)
    (case gFig => k_is)
    (case gF => k_is)
    (case lF => k_is)
    (case kF => exact ⟨⟨_, _, rfl, rfl⟩, ⟨_, _, rfl, rfl⟩, ⟨_, _, rfl, rfl⟩, ⟨_, _, rfl, rfl⟩, ⟨_, _, rfl, rfl⟩, ⟨_, _, rfl, rfl⟩, ⟨_, _, rfl, rfl⟩, ⟨_, _, rfl, rfl⟩, ⟨_, _, rfl, rfl⟩, ⟨_, _, rfl, rfl⟩, ⟨_, _, rfl, rfl⟩, ⟨_, _, rfl, rfl⟩, ⟨_, _, rfl, rfl⟩, ⟨_, _, rfl, rfl⟩, ⟨_, _, rfl, rfl⟩, ⟨_, _, rfl, rfl⟩, ⟨_, _, rfl, rfl⟩, ⟨_, _, rfl, rfl⟩, True.intro⟩)
    (case oF => rfl)
    (case gO => k_is)
    (case lO => k_is)
    (case w0 => k_is)
    (case lF0 => k_is)
    (case w1 => k_is)
    (case lF1 => k_is)
    (case w2 => k_is)
    (case lF2 => k_is)
    (case w3 => k_is)
    (case lF3 => k_is)
    (case w4 => k_is)
    (case lF4 => k_is)
    (case w5 => k_is)
    (case lF5 => k_is)
    (case w6 => k_is)
    (case lF6 => k_is)
    (case w7 => k_is)
    (case lF7 => k_is)
    (case w8 => k_is)
    (case lF8 => k_is)
    (case w9 => k_is)
    (case lF9 => k_is)
    (case w10 => k_is)
    (case lF10 => k_is)
    (case w11 => k_is)
    (case lF11 => k_is)
    (case w12 => k_is)
    (case lF12 => k_is)
    (case w13 => k_is)
    (case lF13 => k_is)
    (case w14 => k_is)
    (case lF14 => k_is)
    (case w15 => k_is)
    (case lF15 => k_is)
    (case w16 => k_is)
    (case lF16 => k_is)
    (case w17 => k_is)
    (case lF17 => k_is)
#print axioms PySem.Challenge.cw_spacewright_k63_rows_written_and_read_holds
