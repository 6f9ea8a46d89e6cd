import PyProof.Rows.All
import Wide.All
import OpenK.AllK
import Wide.FinOn
import PyProof.EqAt
import PyProof.EqKinds
import PyProof.NeKinds
import PyProof.TupleCall
import PyProof.SetKind
import PyProof.DictKinds
import PyProof.MeetsSeq2
import PyProof.SetRoads
import PyProof.SetNew
import PyProof.Rows.SetFrom
import KE.KDictList
import PyProof.Rows.SortWalk
import KE.KDictSum
import PyProof.EnumFor
import PyProof.EnumStmt
import PyProof.EnumMake
import KE.KRevIter
import PyProof.Draws
import PyProof.CollectIter
import PyProof.TupleOfGen
import PyProof.TupleOps
import KE.KEqDict
import PyProof.WalkInts
import KE.KSortTup
import PyProof.PureStr
import PyProof.Rows.StrJoin2
import PyProof.StrCalls2
import PyProof.ConsumeWalk
import KE.KIntText
import PyProof.DictUpdate
import PyProof.FString
import PyProof.StrOps2
import PyProof.SliceStr2
import PyProof.StrBlockI
import PyProof.StrWalks
import OpenK.KTop
import PyProof.ZipIter
import PyProof.StrLawsTight
import PyProof.StrLawsRepr
import PySem.Challenge.RW_spacewright_k15_cells_of_names
set_option Elab.async false
set_option linter.all false
set_option maxRecDepth 100000
set_option maxHeartbeats 4000000
abbrev xFr:=PySem.W.Frag
theorem xAa:type_of%@List.length_map:=@List.length_map
theorem xAb:type_of%@List.length_append:=@List.length_append
theorem xAc:type_of%@List.mem_of_getElem?:=@List.mem_of_getElem?
theorem xAd:type_of%@PySem.wpAny_bind:=@PySem.wpAny_bind
theorem xAe:type_of%@PySem.wpAny_pure:=@PySem.wpAny_pure
theorem xAf:type_of%@PySem.Heap.get?_push_of_some:=@PySem.Heap.get?_push_of_some
theorem xAg:type_of%@Nat.le_refl:=@Nat.le_refl
theorem xAh:type_of%@Array.length_toList:=@Array.length_toList
theorem xAi:type_of%@List.map_append:=@List.map_append
theorem xAj:type_of%@List.mem_append:=@List.mem_append
theorem xAk:type_of%@List.getElem?_eq_getElem:=@List.getElem?_eq_getElem
theorem xAl:type_of%@PySem.Heap.get?_push_size:=@PySem.Heap.get?_push_size
theorem xAm:type_of%@List.mem_singleton:=@List.mem_singleton
theorem xAo:type_of%@List.length_cons:=@List.length_cons
theorem xAp:type_of%@List.size_toArray:=@List.size_toArray
theorem xAq:type_of%@List.getElem?_eq_some_iff:=@List.getElem?_eq_some_iff
theorem xAr:type_of%@List.mem_cons_self:=@List.mem_cons_self
theorem xAs:type_of%@List.mem_cons_of_mem:=@List.mem_cons_of_mem
theorem xAt:type_of%@List.length_singleton:=@List.length_singleton
theorem xAv:type_of%@List.mem_cons:=@List.mem_cons
theorem xAw:type_of%@List.getElem?_map:=@List.getElem?_map
theorem xAx:type_of%@List.append_assoc:=@List.append_assoc
theorem xAy:type_of%@Bool.false_ne_true:=@Bool.false_ne_true
theorem xAz:type_of%@Bool.false_eq_true:=@Bool.false_eq_true
theorem xA0:type_of%@Nat.ne_of_lt:=@Nat.ne_of_lt
theorem xA1:type_of%@PySem.Heap.lt_size:=@PySem.Heap.lt_size
theorem xA2:type_of%@List.mem_map:=@List.mem_map
theorem xBc:type_of%@Nat.lt_of_lt_of_le:=@Nat.lt_of_lt_of_le
theorem xBd:type_of%@decide_eq_true:=@decide_eq_true
theorem xBe:type_of%@of_decide_eq_true:=@of_decide_eq_true
theorem xBl:type_of%@PySem.wpAny_newObj_type:=@PySem.wpAny_newObj_type
theorem xBn:type_of%@Nat.zero_le:=@Nat.zero_le
theorem xBo:type_of%@Nat.lt_irrefl:=@Nat.lt_irrefl
theorem xBq:type_of%@List.nodup_append:=@List.nodup_append
theorem xBs:type_of%@List.map_cons:=@List.map_cons
theorem xBt:type_of%@List.mem_append_right:=@List.mem_append_right
theorem xBv:type_of%@List.not_mem_nil:=@List.not_mem_nil
theorem xBz:type_of%@List.getD_eq_getElem?_getD:=@List.getD_eq_getElem?_getD
theorem xB0:type_of%@List.append_nil:=@List.append_nil
theorem xB3:type_of%@Option.some.inj:=@Option.some.inj
theorem xCb:type_of%@List.nodup_cons:=@List.nodup_cons
theorem xCf:type_of%@if_neg:=@if_neg
theorem xCg:type_of%@if_pos:=@if_pos
namespace L2
open PySem PySem.Spec PyProof.Rows
noncomputable abbrev Key:=Sum Int Str
noncomputable def keyIs:Key->Value->Bool
 | .inl k,v=>Value.isInt k v
 | .inr x,v=>Value.isStrOf x v
noncomputable def keyH (w:World):Key->Int
 | .inl k=>hashInt k
 | .inr x=>hashStr w x
theorem dw:∀ {k:Key} {v:Value},keyIs k v=true->(∃ i t,k=Sum.inl i/\v=Value.int i t)\/(∃ x t,k=Sum.inr x/\v=Value.str x t)
 | .inl i,v,h=>by
  obtain ⟨t,e⟩:=Value.isInt_shape (k:=i) (v:=v) h;exact .inl ⟨i,t,rfl,e⟩
 | .inr x,v,h=>by
  obtain ⟨t,e⟩:=Value.isStrOf_shape (x:=x) (v:=v) h;exact .inr ⟨x,t,rfl,e⟩
theorem lW (i:Int) (t:Tok):keyIs (.inl i) (.int i t)=true:=by simp [keyIs,Value.isInt]
theorem lV (x:Str) (t:Tok):keyIs (.inr x) (.str x t)=true:=by simp [keyIs,Value.isStrOf]
theorem uq (a b:Int):decide ((Sum.inl a:Key)=Sum.inl b)=(a == b):=by
 by_cases e:a=b
 ·subst e;simp
 ·have h:¬ (Sum.inl a:Key)=Sum.inl b:=fun q=>e (Sum.inl.inj q);rw [decide_eq_false h];exact (beq_eq_false_iff_ne.mpr e).symm
theorem ul (a b:Str):decide ((Sum.inr a:Key)=Sum.inr b)=decide (a=b):=by
 by_cases e:a=b
 ·subst e;simp
 ·have h:¬ (Sum.inr a:Key)=Sum.inr b:=fun q=>e (Sum.inr.inj q);rw [decide_eq_false h,decide_eq_false e]
theorem uo (a:Int) (b:Str):decide ((Sum.inl a:Key)=Sum.inr b)=false:=decide_eq_false (fun q=>nomatch q)
theorem um (a:Str) (b:Int):decide ((Sum.inr a:Key)=Sum.inl b)=false:=decide_eq_false (fun q=>nomatch q)
noncomputable def mixKind (prog:Program) (w:World):PySem.KeyKind prog w Key where
 is:=keyIs
 hash:=keyH w
 inj:=fun v a b ha hb=>by
  rcases dw ha with ⟨i,t,rfl,rfl⟩ | ⟨x,t,rfl,rfl⟩
  ·rcases dw hb with ⟨j,u,rfl,e⟩ | ⟨y,u,rfl,e⟩
   ·injection e with e1 _;rw [e1]
   ·exact nomatch e
  ·rcases dw hb with ⟨j,u,rfl,e⟩ | ⟨y,u,rfl,e⟩
   ·exact nomatch e
   ·injection e with e1 _;rw [e1]
 byValue:=fun k v h=>by
  rcases dw h with ⟨i,t,rfl,rfl⟩ | ⟨x,t,rfl,rfl⟩ <;> rfl
 pyHash:=fun hv h=>by
  rcases dw hv with ⟨i,t,rfl,rfl⟩ | ⟨x,t,rfl,rfl⟩
  ·exact wpAny_pyHash_int h
  ·exact wpAny_pyHash_str h
 eqBool:=fun hu hv h=>by
  rcases dw hu with ⟨i,t,rfl,rfl⟩ | ⟨x,t,rfl,rfl⟩
  ·rcases dw hv with ⟨j,u,rfl,rfl⟩ | ⟨y,u,rfl,rfl⟩
   ·rw [uq] at h;exact wpAny_eqBool_int h
   ·rw [uo] at h;exact SeqAt.EqAt.int_str i t y u _ _ _ _ h
  ·rcases dw hv with ⟨j,u,rfl,rfl⟩ | ⟨y,u,rfl,rfl⟩
   ·rw [um] at h;exact SeqAt.EqAt.str_int x t j u _ _ _ _ h
   ·rw [ul] at h;exact wpAny_eqBool_str h
 «strs»:=fun k x t v h=>by
  rcases dw h with ⟨i,u,rfl,e⟩ | ⟨y,u,rfl,e⟩
  ·exact nomatch e
  ·injection e with e1 _;subst e1;cases v <;> rfl
theorem i8 (prog:Program) (w:World) (i:Int) (t:Tok):(mixKind prog w).is (.inl i) (.int i t)=true:=lW i t
theorem i7 (prog:Program) (w:World) (x:Str) (t:Tok):(mixKind prog w).is (.inr x) (.str x t)=true:=lV x t
end L2
namespace L2
open PySem PySem.Spec PyProof.Rows
inductive V where
 | non | bl (b:Bool) | int (i:Int) | str (x:Str) | byt (b:Array UInt8) | flt (b:UInt64) | ref (a:Addr) | ty (n:String)
 deriving DecidableEq
noncomputable def RelV:V->Value->Prop
 | .non,u=>u=Value.none
 | .bl b,u=>u=Value.bool b
 | .int i,u=>∃ t,u=Value.int i t
 | .str x,u=>∃ t,u=Value.str x t
 | .byt b,u=>∃ t,u=Value.bytes b t
 | .flt b,u=>∃ t,u=Value.float b t
 | .ref a,u=>u=Value.ref a
 | .ty n,u=>u=Value.type n
noncomputable abbrev Vals:List V->List Value->Prop:=Paired RelV
theorem Vals.length {xs:List V} {us:List Value} (r:Vals xs us):xs.length=us.length:=Paired.length r
theorem Vals.get:∀ {xs:List V} {us:List Value} {i:Nat} {x:V},Vals xs us->xs[i]?=some x->∃ u,us[i]?=some u/\RelV x u
 | _,_,_,_,.nil,e=>by simp at e
 | _,_,0,_,.cons r _,e=>by simp at e;subst e;exact ⟨_,rfl,r⟩
 | _,_,i+1,x,.cons _ t,e=>by
  obtain ⟨u,h1,h2⟩:=Vals.get (i:=i) (x:=x) t (by simpa using e);exact ⟨u,by simpa using h1,h2⟩
theorem Vals.set {x:V} {u:Value} (r:RelV x u):∀ {xs:List V} {us:List Value} (i:Nat),Vals xs us->Vals (xs.set i x) (us.set i u)
 | _,_,_,.nil=>.nil
 | _,_,0,.cons _ t=>.cons r t
 | _,_,i+1,.cons q t=>.cons q (Vals.set r i t)
theorem Vals.append:∀ {xs ys:List V} {us ws:List Value},Vals xs us->Vals ys ws->Vals (xs++ys) (us++ws)
 | _,_,_,_,.nil,s=>s
 | _,_,_,_,.cons r t,s=>.cons r (Vals.append t s)
theorem Vals.take:∀ {xs:List V} {us:List Value} (n:Nat),Vals xs us->Vals (xs.take n) (us.take n)
 | _,_,0,_=>.nil
 | _,_,_+1,.nil=>.nil
 | _,_,n+1,.cons r t=>.cons r (Vals.take n t)
theorem Vals.drop:∀ {xs:List V} {us:List Value} (n:Nat),Vals xs us->Vals (xs.drop n) (us.drop n)
 | _,_,0,r=>r
 | _,_,_+1,.nil=>.nil
 | _,_,n+1,.cons _ t=>Vals.drop n t
noncomputable def RelO:Option V->Option Value->Prop
 | some v,some u=>RelV v u
 | none,none=>True
 | _,_=>False
noncomputable def KV {κ:Type}:List (κ×V)->List (κ×Value)->Prop:=Paired fun (p:κ×V) (q:κ×Value)=>p.1=q.1/\RelV p.2 q.2
noncomputable def kV:Key->V
 | .inl i=>.int i
 | .inr x=>.str x
inductive HO where
 
 | lst (xs:List V)
 
 | tup (xs:List V)
 
 | dK (kvs:List (Key×V)) | dT (kvs:List (List Key×V))
 
 | set (S:Int->Bool) (n:Nat)
 
 | ins (C dx:Addr) (fs:List (Str×V))
 
 | own (x:Addr)
 
 | xd (fs:List (Str×V))
 
 | met (f x:Addr)
 
 | rng (lo hi:Int)
 
 | frz (o:Obj) (u:HO)
 
 | tbl (ps:Array Value)
 
 | ext (φ:Heap->Prop)
noncomputable abbrev Hp:=Addr->Option HO
noncomputable def upd (H:Hp) (a:Addr) (o:HO):Hp:=fun b=>if b=a then some o else H b
theorem dk {H:Hp} {a:Addr} {o:HO}:upd H a o a=some o:=by unfold upd;rw [xCg rfl]
theorem dg {H:Hp} {a b:Addr} {o:HO} (h:b≠a):upd H a o b=H b:=by unfold upd;rw [xCf h]
theorem wm {H:Hp} {a b:Addr} {o u:HO} (h:H a=some o) (h':H b=some u) (d:o≠u):a≠b:=by
 intro e;subst e;rw [h] at h';exact d (xB3 h')
theorem dy {H:Hp} {a b:Addr} {o:HO} (h:H a=some o) (h':H b=none):a≠b:=by
 intro e;subst e;rw [h] at h';cases h'
section
variable (P:Program) (w:World)
noncomputable def ObjOk (H:Hp) (h:Heap) (a:Addr):HO->Prop
 | .lst xs=>xs.length<=sizeLine/\∃ (its:List Value) (n:Nat),Vals xs its/\h.get? a=some { cls:=.type "list",data:=.seq its.toArray n }
 | .tup xs=>xs.length<=sizeLine/\∃ its:List Value,Vals xs its/\IsTup h a its.toArray
 | .dK kvs=>kvs.length<=sizeLine/\(a == sysModules)=false/\∃ vs,KV kvs vs/\h.DictOf (mixKind P w) a vs
 | .dT kvs=>kvs.length<=sizeLine/\(a == sysModules)=false/\∃ xs:List (List Key×Addr×Value),
   Paired (fun (p:List Key×V) (q:List Key×Addr×Value)=>p.1=q.1/\H q.2.1=some (.tup (p.1.map kV))/\RelV p.2 q.2.2) kvs xs /\
   ∃ o es ep,h.get? a=some o/\o.ExactDict/\o.data = .dict es ep/\es.toList=xs.map (entryOfKey (tupleKind (mixKind P w)))/\(xs.map (·.1)).Nodup
 | .set S n=>h.SetOf (intKind P w) a S n
 | .ins C dx fs=>H dx=some (.own a)/\fs.length<=1000/\dx≠a/\h.get? a=some (W.instObj C dx) /\
   ∃ mA,h.Ns1 dx mA/\(∀ f,RelO (fs.lookup f) (mA f))/\PySem.Within mA (fs.map (·.1))
 | .own _=>∃ o,h.get? a=some o
 | .xd fs=>∃ mA,h.Ns1 a mA/\∀ f,RelO (fs.lookup f) (mA f)
 | .rng lo hi=>∃ t u v,h.get? a=some { cls:=.type "range",data:=.fields #[.int lo t,.int hi u,.int 1 v] }
 | .frz o u=>h.get? a=some o/\ObjOk H h a u
 | .tbl ps=>h.get? a=some { cls:=.none,data:=.fields ps }
 | .met f x=>h.get? a=some (W.methodObj (.ref f) (.ref x))
 | .ext φ=>φ h/\(∃ o,h.get? a=some o)/\∀ h1 h2:Heap,φ h1->(∀ o,h1.get? a=some o->h2.get? a=some o)->φ h2
def HOk (H:Hp) (h:Heap):Prop:=∀ a o,H a=some o->ObjOk P w H h a o
end
section
variable {P:Program} {w:World} {H H':Hp} {h h':Heap} {a:Addr} {o:HO}
theorem ObjOk.lt (x:ObjOk P w H h a o):a<h.objs.size:=by
 cases o with
 | lst xs=>obtain ⟨_,_,_,_,e⟩:=x;exact xA1 e
 | tup xs=>obtain ⟨_,_,_,p⟩:=x;exact p.lt
 | dK kvs=>obtain ⟨_,_,_,_,o,_,_,e,_⟩:=x;exact xA1 e
 | dT kvs=>obtain ⟨_,_,_,_,o,_,_,e,_⟩:=x;exact xA1 e
 | set S n=>obtain ⟨o,_,_,_,e,_⟩:=x;exact xA1 e
 | ins C dx fs=>obtain ⟨_,_,_,e,_⟩:=x;exact xA1 e
 | own y=>obtain ⟨_,e⟩:=x;exact xA1 e
 | xd fs=>obtain ⟨_,⟨_,_,_,e,_⟩,_⟩:=x;exact xA1 e
 | rng lo hi=>obtain ⟨_,_,_,e⟩:=x;exact xA1 e
 | frz ob u=>obtain ⟨e,_⟩:=x;exact xA1 e
 | tbl ps=>exact xA1 (show h.get? a=some _ from x)
 | met f y=>exact xA1 (show h.get? a=some _ from x)
 | ext φ=>obtain ⟨_,⟨_,e⟩,_⟩:=x;exact xA1 e
theorem Paired.mapP {α β:Type} {F G:α->β->Prop}:∀ {l₁:List α} {l₂:List β},Paired F l₁ l₂->(∀ a b,F a b->G a b)->Paired G l₁ l₂
 | _,_,.nil,_=>.nil
 | _,_,.cons r t,f=>.cons (f _ _ r) (Paired.mapP t f)
theorem ObjOk.stay (x:ObjOk P w H h a o) (k:∀ b u,(b=a\/H b=some (.own a))->h.get? b=some u->h'.get? b=some u)
  (ho:∀ b,H b=some (.own a)->H' b=some (.own a)) (ht:∀ b xs,H b=some (.tup xs)->H' b=some (.tup xs)):ObjOk P w H' h' a o:=by
 induction o with
 | lst xs=>obtain ⟨z,its,n,r,e⟩:=x;exact ⟨z,its,n,r,k _ _ (.inl rfl) e⟩
 | tup xs=>obtain ⟨z,its,r,ob,e,c⟩:=x;exact ⟨z,its,r,ob,k _ _ (.inl rfl) e,c⟩
 | dK kvs=>obtain ⟨z,y,vs,r,ob,es,ep,e,c⟩:=x;exact ⟨z,y,vs,r,ob,es,ep,k _ _ (.inl rfl) e,c⟩
 | dT kvs =>
  obtain ⟨z,y,xs,r,ob,es,ep,e,c⟩:=x;exact ⟨z,y,xs,Paired.mapP r fun p q z=>⟨z.1,ht _ _ z.2.1,z.2.2⟩,ob,es,ep,k _ _ (.inl rfl) e,c⟩
 | set S n=>obtain ⟨ob,es,ep,t,e,c⟩:=x;exact ⟨ob,es,ep,t,k _ _ (.inl rfl) e,c⟩
 | ins C dx fs =>
  obtain ⟨d,z,ne,e,mA,⟨od,es,ep,e2,c⟩,r⟩:=x;exact ⟨ho _ d,z,ne,k _ _ (.inl rfl) e,mA,⟨od,es,ep,k _ _ (.inr d) e2,c⟩,r⟩
 | own y=>obtain ⟨ob,e⟩:=x;exact ⟨ob,k _ _ (.inl rfl) e⟩
 | xd fs=>obtain ⟨mA,⟨od,es,ep,e,c⟩,r⟩:=x;exact ⟨mA,⟨od,es,ep,k _ _ (.inl rfl) e,c⟩,r⟩
 | rng lo hi=>obtain ⟨t,u,v,e⟩:=x;exact ⟨t,u,v,k _ _ (.inl rfl) e⟩
 | frz ob u ih=>obtain ⟨e,q⟩:=x;exact ⟨k _ _ (.inl rfl) e,ih q⟩
 | tbl ps =>
  have e:h.get? a=some { cls:=.none,data:=.fields ps }:=x;show h'.get? a=some { cls:=.none,data:=.fields ps };exact k a _ (.inl rfl) e
 | met f y =>
  have e:h.get? a=some (W.methodObj (.ref f) (.ref y)):=x;show h'.get? a=some (W.methodObj (.ref f) (.ref y));exact k a _ (.inl rfl) e
 | ext φ=>obtain ⟨p,⟨o,e⟩,st⟩:=x;exact ⟨st _ _ p fun o q=>k _ _ (.inl rfl) q,⟨o,k _ _ (.inl rfl) e⟩,st⟩
theorem HOk.lt (x:HOk P w H h) (e:H a=some o):a<h.objs.size:=(x a o e).lt
theorem HOk.fresh (x:HOk P w H h) (e:h.objs.size<=a):H a=none:=by
 cases q:H a with
 | none=>rfl
 | some u=>exact absurd (xBc (x.lt q) e) (xBo _)
theorem HOk.kept (x:HOk P w H h) (k:∀ b u,h.get? b=some u->h'.get? b=some u):HOk P w H h':=fun a o e =>
 (x a o e).stay (fun b u _ q=>k b u q) (fun _ q=>q) fun _ _ q=>q
theorem HOk.laid (x:HOk P w H h) (k:∀ b u,h.get? b=some u->h'.get? b=some u) (hp:h.objs.size<=a) (new:ObjOk P w (upd H a o) h' a o):HOk P w (upd H a o) h':=fun b u e=>by
 have hn:=x.fresh hp;by_cases hb:b=a
 ·subst hb;rw [dk] at e;cases e;exact new
 ·rw [dg hb] at e;exact (x b u e).stay (fun c v _ q=>k c v q) (fun c q=>by rw [dg (dy q hn)];exact q) fun c xs q=>by rw [dg (dy q hn)];exact q
end
def Rd (H:Hp) (a:Addr) (u:HO):Prop:=H a=some u\/∃ o,H a=some (.frz o u)
theorem Rd.ok {P:Program} {w:World} {H:Hp} {h:Heap} {a:Addr} {u:HO} (r:Rd H a u) (x:HOk P w H h):ObjOk P w H h a u:=by
 rcases r with r | ⟨o,r⟩
 ·exact x a u r
 ·obtain ⟨_,q⟩:=x a _ r;exact q
noncomputable def Mut:Option HO->Prop
 | some (.lst _)=>True
 | some (.dK _)=>True
 | some (.dT _)=>True
 | some (.set _ _)=>True
 | some (.ins _ _ _)=>True
 | some (.ext _)=>True
 | _=>False
section
variable {P:Program} {w:World} {H:Hp} {h h':Heap} {x e:Addr} {o':HO}
theorem HOk.write (ok:HOk P w H h) (mu:Mut (H x)) (he:e=x\/H e=some (.own x)) (k:∀ b u,b≠e->h.get? b=some u->h'.get? b=some u) (heo:∃ u,h'.get? e=some u)
  (new:ObjOk P w (upd H x o') h' x o'):HOk P w (upd H x o') h':=fun b u q=>by
 have nown:∀ c y,H c=some (.own y)->c≠x:=fun c y r z=>by subst z;rw [r] at mu;exact mu
 have ntup:∀ c xs,H c=some (.tup xs)->c≠x:=fun c xs r z=>by subst z;rw [r] at mu;exact mu
 by_cases hb:b=x
 ·subst hb;rw [dk] at q;cases q;exact new
 ·rw [dg hb] at q;by_cases hbe:b=e
  ·have q':H b=some (.own x):=by
    rcases he with z | z
    ·exact absurd (hbe.trans z) hb
    ·rw [hbe];exact z
   rw [q] at q';cases q';obtain ⟨v,hv⟩:=heo;exact ⟨v,by rw [hbe];exact hv⟩
  ·refine (ok b u q).stay (fun c v hc r=>k c v ?_ r) (fun c r=>by rw [dg (nown c b r)];exact r) fun c xs r=>by rw [dg (ntup c xs r)];exact r
   rcases hc with rfl | hc
   ·exact hbe
   ·rintro rfl
    rcases he with z | z
    ·exact nown c b hc z
    ·rw [hc] at z;cases z;exact hb rfl
end
structure Un (fs ex:List Addr) (H H':Hp) (h h':Heap):Prop where
 keep:∀ b o,h.get? b=some o->H b=none->b ∉ fs->b ∉ ex->h'.get? b=some o
 slot:∀ b o,h.get? b=some o->H b=none->b∈fs->b ∉ ex->∃ sl,h'.get? b=some { o with slots:=sl }
 free:∀ b o,h.get? b=some o->H b=none->b ∉ ex->H' b=none
 there:∀ b o,h.get? b=some o->b ∉ ex->∃ o',h'.get? b=some o'
 tups:∀ b xs,H b=some (.tup xs)->H' b=some (.tup xs)
 frzs:∀ b o u,H b=some (.frz o u)->H' b=some (.frz o u)
 tbls:∀ b ps,H b=some (.tbl ps)->∃ more,H' b=some (.tbl (ps++more))
section
variable {fs fs' ex ex':List Addr} {H H1 H2:Hp} {h h1 h2 h':Heap} {a x e:Addr} {o:HO}
theorem Un.any (u:Un fs ex H H1 h h1) {b:Addr} {ob:Obj} (q:h.get? b=some ob) (n:H b=none) (hx:b ∉ ex):∃ sl,h1.get? b=some { ob with slots:=sl }:=by
 by_cases hb:b∈fs
 ·exact u.slot b ob q n hb hx
 ·exact ⟨ob.slots,u.keep b ob q n hb hx⟩
theorem Un.kept (k:∀ b u,h.get? b=some u->h'.get? b=some u):Un fs ex H H h h' :=
 ⟨fun b ob q _ _ _=>k b ob q,fun b ob q _ _ _=>⟨ob.slots,k b ob q⟩,fun _ _ _ n _=>n,fun b ob q _=>⟨ob,k b ob q⟩,fun _ _ q=>q,fun _ _ _ q=>q,fun _ ps q=>⟨#[],by rw [q];simp⟩⟩
theorem Un.refl:Un fs ex H H h h:=Un.kept fun _ _ q=>q
theorem Un.laid (k:∀ b u,h.get? b=some u->h'.get? b=some u) (hp:h.objs.size<=a) (hn:H a=none):Un fs ex H (upd H a o) h h' where
 keep:=fun b u q _ _ _=>k b u q
 slot:=fun b u q _ _ _=>⟨u.slots,k b u q⟩
 free:=fun b u q n _=>by rw [dg (xA0 (xBc (xA1 q) hp))];exact n
 there:=fun b u q _=>⟨u,k b u q⟩
 tups:=fun b xs q=>by rw [dg (dy q hn)];exact q
 frzs:=fun b u xs q=>by rw [dg (dy q hn)];exact q
 tbls:=fun b ps q=>⟨#[],by rw [dg (dy q hn),q];simp⟩
theorem Un.write (mu:Mut (H x)) (he:e=x\/H e=some (.own x)) (k:∀ b u,b≠e->h.get? b=some u->h'.get? b=some u) (heo:∃ u,h'.get? e=some u):Un fs ex H (upd H x o) h h':=by
 have hx:∀ b,H b=none->b≠x:=fun b n z=>by subst z;rw [n] at mu;exact mu
 have hb:∀ b,H b=none->b≠e:=fun b n z=>by
  subst z;rcases he with r | r
  ·exact hx b n r
  ·rw [n] at r;cases r
 have hm:∀ b u,H b=some u->¬ Mut (some u)->b≠x:=fun b u q nm z=>by subst z;rw [q] at mu;exact nm mu
 refine ⟨fun b u q n _ _=>k b u (hb b n) q,fun b u q n _ _=>⟨u.slots,k b u (hb b n) q⟩,fun b u q n _=>by rw [dg (hx b n)];exact n,fun b u q _=>?_,
  fun b xs q=>by rw [dg (hm b _ q fun z=>z)];exact q,fun b u xs q=>by rw [dg (hm b _ q fun z=>z)];exact q,fun b ps q=>⟨#[],by rw [dg (hm b _ q fun z=>z),q];simp⟩⟩
 by_cases hbe:b=e
 ·subst hbe;exact heo
 ·exact ⟨u,k b u hbe q⟩
end
noncomputable def trk (h:Heap) (H:Hp):List Addr:=(List.range h.objs.size).filter fun a=>(H a).isSome
noncomputable def hidT (h:Heap) (H:Hp):Heap:=W.hideAll h (trk h H)
theorem lY (h:Heap) (H:Hp):(hidT h H).objs.size=h.objs.size:=W.hideAll_size _ _
theorem oE {h:Heap} {H:Hp} {b:Addr} {o:Obj} (e:h.get? b=some o) (n:H b=none):(hidT h H).get? b=some o :=
 W.hideAll_get _ e fun hm=>by
  have q:(H b).isSome=true:=(List.mem_filter.mp hm).2;rw [n] at q;simp at q
theorem qz {h:Heap} {H:Hp} {b:Addr} {o:Obj} (e:(hidT h H).get? b=some o):h.get? b=some o/\H b=none:=by
 have e':h.get? b=some o:=W.of_hideAll (trk h H) e;refine ⟨e',?_⟩;cases q:H b with
 | none=>rfl
 | some x =>
  have hm:b∈trk h H:=List.mem_filter.mpr ⟨List.mem_range.mpr (xA1 e'),by simp [q]⟩;have z:(hidT h H).get? b=none:=W.hideAll_none (trk h H) hm;rw [z] at e;cases e
end L2
namespace L2
open PySem PySem.Spec PyProof.Rows
structure Mod (K:xFr) (mg:Str->Option Value) (base:Heap):Prop where
 kin:K.In base
 glob:base.Ns mainGlobals mg
 blt:∃ mb,base.Ns builtinsNs mb/\∀ x:Str,x≠"__name__"->mb x=bootBuiltins x
 nolimit:base.NoLimit
structure Cx where
 prog:Program
 w:World
 K:xFr
 mg:Str->Option Value
 base:Heap
 A:Around
 N:List Str
 s₀:Shared
 H₀:Hp
 env:Env
 outer:List Env
 stack:List Env
 ex:List Addr
 fn:Str->Bool
 calm:Bool
 pn:List (Addr×Obj)
 xe:Value->Shared->Prop
noncomputable def frs (l:List Env):List Addr:=l.filterMap (·.frame)
noncomputable abbrev Cx.fs (X:Cx):List Addr:=frs X.outer
def Vis (sc:Scope) (x:Str):Prop:=sc.names.lookup x=some .local\/sc.names.lookup x=some .cell\/sc.names.lookup x=some .free
def Loc (sc:Scope) (x:Str):Prop:=sc.names.lookup x=some .local\/sc.names.lookup x=some .cell
def Look (env:Env) (h:Heap) (m:Str->Option Value) (x:Str) (u:Value):Prop :=
 (env.kindOf x=some .local/\m x=some u)\/((env.kindOf x=some .cell\/env.kindOf x=some .free)/\∃ c,env.cells.lookup x=some c/\h.IsCell c (some u))
structure Cx.Ok (X:Cx):Prop where
 mod:Mod X.K X.mg X.base
 kind:X.env.scope.kind = .function
 glob:X.env.globals=mainGlobals
 blt:X.env.builtins=builtinsNs
 above:X.s₀.heap.objs.size<=X.env.locals
 inj:∀ x y c,X.env.cells.lookup x=some c->X.env.cells.lookup y=some c->x=y
 has:∀ x,(X.env.kindOf x=some .cell\/X.env.kindOf x=some .free)->∃ c,X.env.cells.lookup x=some c
 cab:∀ x c,X.fn x=true->X.env.cells.lookup x=some c->X.s₀.heap.objs.size<=c
 hd:X.calm=true->X.A.handled=none
 frames:X.A.frames=some X.stack
 stk:X.stack=X.outer\/(X.stack=X.env::X.outer/\X.env.frame=some X.env.locals)
 exf:∀ b∈X.ex,b≠X.env.locals/\∀ x c,X.env.cells.lookup x=some c->c≠b
 bs:∀ b o,X.base.get? b=some o->X.s₀.heap.get? b=some o/\X.H₀ b=none
 bsz:X.base.objs.size<=X.s₀.heap.objs.size
 noex:∀ b o,X.base.get? b=some o->b ∉ X.ex
 exfs:∀ b∈X.ex,b ∉ X.fs
 funs:X.s₀.heap.FunFrames X.base X.outer
 frf:∀ b∈X.fs,X.H₀ b=none
structure Inv (X:Cx) (pins:List (Addr×Obj)) (σ:List (Option V)) (H:Hp) (s:Shared):Prop where
 ok:X.Ok
 os:s.os=X.s₀.os
 bare:AllBare s.gens
 base:Un X.fs X.ex X.H₀ H X.s₀.heap s.heap
 loc:∃ m,s.heap.Ns X.env.locals m/\∀ (i:Nat) (x:Str) (v:V),X.N[i]?=some x->σ[i]?=some (some v)->Vis X.env.scope x->∃ u,RelV v u/\Look X.env s.heap m x u
 cell:∀ x c,X.env.cells.lookup x=some c->∃ v,s.heap.IsCell c v
 free:H X.env.locals=none
 freeC:∀ x c,X.env.cells.lookup x=some c->H c=none
 pin:∀ p∈X.pn++pins,s.heap.get? p.1=some p.2/\H p.1=none/\p.1≠X.env.locals/\p.1 ∉ X.fs/\∀ v,p.2.data≠.cell v
 hok:HOk X.prog X.w H s.heap
 len:σ.length=X.N.length
section
variable {X:Cx} {pins:List (Addr×Obj)} {σ:List (Option V)} {H H':Hp} {s:Shared} {h':Heap}
theorem Cx.Ok.nofr (ok:X.Ok) {b:Addr} {o:Obj} (e:X.base.get? b=some o):b ∉ X.fs:=fun hb=>by
 have:=(ok.funs.mem hb).1;rw [e] at this;cases this
theorem Inv.bs (I:Inv X pins σ H s):∀ b o,X.base.get? b=some o->s.heap.get? b=some o/\H b=none:=fun b o e =>
 ⟨I.base.keep b o (I.ok.bs b o e).1 (I.ok.bs b o e).2 (I.ok.nofr e) (I.ok.noex b o e),I.base.free b o (I.ok.bs b o e).1 (I.ok.bs b o e).2 (I.ok.noex b o e)⟩
theorem Inv.bk (I:Inv X pins σ H s):∀ b o,X.base.get? b=some o->s.heap.get? b=some o:=fun b o e=>(I.bs b o e).1
theorem Inv.mod (I:Inv X pins σ H s):Mod X.K X.mg X.base:=I.ok.mod
theorem Inv.kIn (I:Inv X pins σ H s):X.K.In s.heap:=I.ok.mod.kin.keeps I.bk
theorem Inv.lt (I:Inv X pins σ H s):X.env.locals<s.heap.objs.size:=let ⟨_,hn,_⟩:=I.loc;hn.lt
theorem Inv.sz (I:Inv X pins σ H s):X.s₀.heap.objs.size<=s.heap.objs.size:=Nat.le_trans I.ok.above (Nat.le_of_lt I.lt)
theorem Inv.nofs (I:Inv X pins σ H s) {a:Addr} (h:s.heap.objs.size<=a):a ∉ X.fs:=fun hb=>by
 obtain ⟨_,o,ho,_⟩:=I.ok.funs.mem hb;exact absurd (xBc (xA1 ho) (Nat.le_trans I.sz h)) (xBo _)
theorem Inv.cne (I:Inv X pins σ H s):∀ x c,X.env.cells.lookup x=some c->c≠X.env.locals:=fun x c e z=>by
 obtain ⟨v,o,ho,hd⟩:=I.cell x c e;obtain ⟨m,⟨o',es,ep,ho',hd',_⟩,_⟩:=I.loc;rw [z,ho'] at ho;cases ho;rw [hd'] at hd;cases hd
theorem Inv.funs (I:Inv X pins σ H s):s.heap.FunFrames X.base X.outer:=by
 have all:∀ (l:List Env),(∀ b∈frs l,b∈X.fs)->X.s₀.heap.FunFrames X.base l->s.heap.FunFrames X.base l:=by
  intro l;induction l with
  | nil=>intro _ _;trivial
  | cons env r ih =>
   intro hs hl;obtain ⟨hk,⟨L,o,hf,hn,ho,hd⟩,hr⟩:=hl;have hL:L∈X.fs:=hs L (by unfold frs;rw [List.filterMap_cons,hf];exact xAr);obtain ⟨sl,e⟩:=I.base.slot L o ho (I.ok.frf L hL) hL fun z=>I.ok.exfs L z hL;exact ⟨hk,⟨L,_,hf,hn,e,hd⟩,ih (fun b hb=>hs b (by unfold frs;rw [List.filterMap_cons,hf];exact xAs _ hb)) hr⟩
 exact all X.outer (fun _ hb=>hb) I.ok.funs
theorem Inv.stack (I:Inv X pins σ H s):s.heap.FunFrames X.base X.stack:=by
 rcases I.ok.stk with e | ⟨e,hf⟩
 ·rw [e];exact I.funs
 ·rw [e];obtain ⟨m,hn,_⟩:=I.loc;refine .cons (by rw [I.ok.kind];decide) hf hn ?_ I.funs;exact Heap.get?_none_of_le (Nat.le_trans I.ok.bsz I.ok.above)
theorem Inv.stkSub (I:Inv X pins σ H s):∀ b∈frs X.stack,b∈X.env.locals::X.fs:=fun b hb=>by
 rcases I.ok.stk with e | ⟨e,hf⟩
 ·rw [e] at hb;exact xAs _ hb
 ·rw [e] at hb;unfold frs at hb;rw [List.filterMap_cons,hf] at hb;exact hb
theorem Inv.stkFree (I:Inv X pins σ H s):∀ b∈frs X.stack,H b=none:=fun b hb=>by
 rcases xAv.mp (I.stkSub b hb) with e | hb
 ·rw [e];exact I.free
 ·obtain ⟨_,o,ho,_⟩:=I.ok.funs.mem hb;exact I.base.free b o ho (I.ok.frf b hb) fun z=>I.ok.exfs b z hb
theorem Inv.step {g':Array GenState} {t':Nat} {d':Drawn} {ch:List Addr} (I:Inv X pins σ H s)
  (hch:∀ b∈ch,(b∈X.ex\/X.s₀.heap.objs.size<=b)/\b≠X.env.locals/\(∀ x c,X.env.cells.lookup x=some c->c≠b)/\∀ p∈X.pn++pins,p.1≠b)
  (keep:∀ b o,b≠X.env.locals->b ∉ X.fs->b ∉ ch->s.heap.get? b=some o->H b=none->h'.get? b=some o)
  (slot:∀ b o,b≠X.env.locals->b∈X.fs->b ∉ ch->s.heap.get? b=some o->H b=none->∃ sl,h'.get? b=some { o with slots:=sl }) (free:∀ b o,b ∉ ch->s.heap.get? b=some o->H b=none->H' b=none)
  (there:∀ b o,b ∉ ch->s.heap.get? b=some o->∃ o',h'.get? b=some o')
  (tups:∀ b xs,H b=some (.tup xs)->H' b=some (.tup xs)) (frzs:∀ b o u,H b=some (.frz o u)->H' b=some (.frz o u)) (tbls:∀ b ps,H b=some (.tbl ps)->∃ more,H' b=some (.tbl (ps++more)))
  (ns:∀ m,s.heap.Ns X.env.locals m->h'.Ns X.env.locals m) (hok:HOk X.prog X.w H' h') (hg:AllBare g') :
  Inv X pins σ H' { s with heap:=h',gens:=g',drawn:=d',toks:=t' }:=by
 have neL:∀ b o,X.s₀.heap.get? b=some o->b≠X.env.locals:=fun b o e=>xA0 (xBc (xA1 e) I.ok.above);have neC:∀ b o,X.s₀.heap.get? b=some o->b ∉ X.ex->b ∉ ch:=fun b o e hx hb=>by
  rcases (hch b hb).1 with z | z
  ·exact hx z
  ·exact absurd (xBc (xA1 e) z) (xBo _)
 have cellK:∀ x c,X.env.cells.lookup x=some c->∀ v,s.heap.IsCell c v->h'.IsCell c v:=fun x c e v ⟨o,ho,hd⟩=>by
  have nch:c ∉ ch:=fun z=>(hch c z).2.2.1 x c e rfl;by_cases hc:c∈X.fs
  ·obtain ⟨sl,q⟩:=slot c o (I.cne x c e) hc nch ho (I.freeC x c e);exact ⟨_,q,hd⟩
  ·exact ⟨o,keep c o (I.cne x c e) hc nch ho (I.freeC x c e),hd⟩
 refine ⟨I.ok,I.os,hg,⟨fun b o e n hb hx=>?_,fun b o e n hb hx=>?_,fun b o e n hx=>?_,fun b o e hx=>?_,fun b xs e=>tups b xs (I.base.tups b xs e),fun b o xs e=>frzs b o xs (I.base.frzs b o xs e),fun b ps e=>?_⟩,?_,fun x c e=>?_,?_,fun x c e=>?_,fun p hp=>?_,hok,I.len⟩
 ·exact keep b o (neL b o e) hb (neC b o e hx) (I.base.keep b o e n hb hx) (I.base.free b o e n hx)
 ·obtain ⟨sl,e1⟩:=I.base.slot b o e n hb hx;obtain ⟨sl',e2⟩:=slot b _ (neL b o e) hb (neC b o e hx) e1 (I.base.free b o e n hx);exact ⟨sl',e2⟩
 ·obtain ⟨o',e1⟩:=I.base.there b o e hx;exact free b o' (neC b o e hx) e1 (I.base.free b o e n hx)
 ·obtain ⟨o',e1⟩:=I.base.there b o e hx;exact there b o' (neC b o e hx) e1
 ·obtain ⟨m1,e1⟩:=I.base.tbls b ps e;obtain ⟨m2,e2⟩:=tbls b _ e1;exact ⟨m1++m2,by rw [e2,Array.append_assoc]⟩
 ·obtain ⟨m,hn,hl⟩:=I.loc;refine ⟨m,ns m hn,fun i x v e1 e2 e3=>?_⟩;obtain ⟨u,r,l⟩:=hl i x v e1 e2 e3;refine ⟨u,r,?_⟩;rcases l with l | ⟨k,c,e,z⟩
  ·exact .inl l
  ·exact .inr ⟨k,c,e,cellK x c e _ z⟩
 ·obtain ⟨v,z⟩:=I.cell x c e;exact ⟨v,cellK x c e v z⟩
 ·obtain ⟨m,⟨o,_,_,ho,_⟩,_⟩:=I.loc;exact free _ o (fun z=>(hch _ z).2.1 rfl) ho I.free
 ·obtain ⟨v,o,ho,hd⟩:=I.cell x c e;exact free c o (fun z=>(hch c z).2.2.1 x c e rfl) ho (I.freeC x c e)
 ·obtain ⟨e,n,ne,nf,d⟩:=I.pin p hp;have nch:p.1 ∉ ch:=fun z=>(hch p.1 z).2.2.2 p hp rfl;exact ⟨keep p.1 p.2 ne nf nch e n,free p.1 p.2 nch e n,ne,nf,d⟩
theorem Inv.un {t':Nat} (I:Inv X pins σ H s) (u:Un X.fs [] H H' s.heap h') (hok:HOk X.prog X.w H' h'):Inv X pins σ H' { s with heap:=h',toks:=t' }:=by
 obtain ⟨m,⟨o,es,ep,ho,r⟩,_⟩:=id I.loc;obtain ⟨sl,hL⟩:=u.any ho I.free (by simp);exact I.step (g':=s.gens) (d':=s.drawn) (ch:=[]) (fun _ z=>nomatch z) (fun b o _ hb _ e n=>u.keep b o e n hb (by simp)) (fun b o _ hb _ e n=>u.slot b o e n hb (by simp)) (fun b o _ e n=>u.free b o e n (by simp)) (fun b o _ e=>u.there b o e (by simp)) u.tups u.frzs u.tbls (fun m' hm=>by
  obtain ⟨o',es',ep',ho',r'⟩:=hm;rw [ho] at ho';cases ho';exact ⟨_,es',ep',hL,r'⟩) hok I.bare
theorem Inv.call {g':Array GenState} {t':Nat} {d':Drawn} {ch:List Addr} (I:Inv X pins σ H s) (u:Un (frs X.stack) ch H H' s.heap h') (hok:HOk X.prog X.w H' h') (hg:AllBare g')
  (hch:∀ b∈ch,(b∈X.ex\/X.s₀.heap.objs.size<=b)/\b≠X.env.locals/\(∀ x c,X.env.cells.lookup x=some c->c≠b)/\∀ p∈X.pn++pins,p.1≠b) :
  Inv X pins σ H' { s with heap:=h',gens:=g',drawn:=d',toks:=t' }:=by
 obtain ⟨m,⟨o,es,ep,ho,r⟩,_⟩:=id I.loc;obtain ⟨sl,hL⟩:=u.any ho I.free fun z=>(hch _ z).2.1 rfl;exact I.step (ch:=ch) hch (fun b o hL hb hc e n=>u.keep b o e n (fun z=>(xAv.mp (I.stkSub b z)).elim hL hb) hc) (fun b o _ _ hc e n=>u.any e n hc) (fun b o hc e n=>u.free b o e n hc) (fun b o hc e=>u.there b o e hc) u.tups u.frzs u.tbls (fun m' hm=>by
  obtain ⟨o',es',ep',ho',r'⟩:=hm;rw [ho] at ho';cases ho';exact ⟨_,es',ep',hL,r'⟩) hok hg
theorem Inv.turned {t':Nat} {it:Addr} (I:Inv X pins σ H s) (k:∀ b o,b≠it->s.heap.get? b=some o->h'.get? b=some o) (hn:H it=none) (hL:it≠X.env.locals)
  (h1:it∈X.ex\/X.s₀.heap.objs.size<=it) (h2:∀ x c,X.env.cells.lookup x=some c->c≠it) (h3:∀ p∈X.pn++pins,p.1≠it):Inv X pins σ H { s with heap:=h',toks:=t' }:=by
 have nit:∀ b u,H b=some u->b≠it:=fun b u e z=>by rw [z,hn] at e;cases e
 refine I.step (g':=s.gens) (d':=s.drawn) (ch:=[it]) (fun b hb=>?_) (fun b o _ _ hc e _=>k b o (fun z=>hc (by simp [z])) e) (fun b o _ _ hc e _=>⟨o.slots,k b o (fun z=>hc (by simp [z])) e⟩) (fun _ _ _ _ n=>n)
  (fun b o hc e=>⟨o,k b o (fun z=>hc (by simp [z])) e⟩) (fun _ _ e=>e) (fun _ _ _ e=>e) (fun b ps e=>⟨#[],by rw [e];simp⟩) (fun m hm=>?_) (fun b u e=>?_) I.bare
 ·have e:b=it:=by simpa using hb
  subst e;exact ⟨h1,hL,h2,h3⟩
 ·obtain ⟨o,es,ep,ho,r⟩:=hm;exact ⟨o,es,ep,k _ o (Ne.symm hL) ho,r⟩
 ·refine (I.hok b u e).stay (fun c v hc q=>k c v ?_ q) (fun _ q=>q) fun _ _ q=>q;rcases hc with z | z
  ·rw [z];exact nit b u e
  ·exact nit c _ z
theorem Inv.tok (I:Inv X pins σ H s) (t:Nat):Inv X pins σ H { s with toks:=t }:=I.un (h':=s.heap) (t':=t) Un.refl I.hok
theorem Inv.kept {t':Nat} (I:Inv X pins σ H s) (k:∀ b u,s.heap.get? b=some u->h'.get? b=some u):Inv X pins σ H { s with heap:=h',toks:=t' }:=I.un (Un.kept k) (I.hok.kept k)
theorem Inv.laid {a:Addr} {o:HO} {t':Nat} (I:Inv X pins σ H s) (k:∀ b u,s.heap.get? b=some u->h'.get? b=some u) (hp:s.heap.objs.size<=a) (new:ObjOk X.prog X.w (upd H a o) h' a o) :
  Inv X pins σ (upd H a o) { s with heap:=h',toks:=t' }:=I.un (Un.laid k hp (I.hok.fresh hp)) (I.hok.laid k hp new)
theorem Inv.write {x e:Addr} {o:HO} {t':Nat} (I:Inv X pins σ H s) (mu:Mut (H x)) (he:e=x\/H e=some (.own x)) (k:∀ b u,b≠e->s.heap.get? b=some u->h'.get? b=some u) (heo:∃ u,h'.get? e=some u)
  (new:ObjOk X.prog X.w (upd H x o) h' x o):Inv X pins σ (upd H x o) { s with heap:=h',toks:=t' }:=I.un (Un.write mu he k heo) (I.hok.write mu he k heo new)
theorem Inv.pins_of {pins':List (Addr×Obj)} (I:Inv X pins σ H s) (h:∀ p∈pins',s.heap.get? p.1=some p.2/\H p.1=none/\p.1≠X.env.locals/\p.1 ∉ X.fs/\∀ v,p.2.data≠.cell v):Inv X pins' σ H s :=
 ⟨I.ok,I.os,I.bare,I.base,I.loc,I.cell,I.free,I.freeC,fun p hp=>(xAj.mp hp).elim (fun z=>I.pin p (List.mem_append_left _ z)) (h p),I.hok,I.len⟩
theorem iZ {N:List Str} (hN:N.Nodup) {i j:Nat} {x:Str} (a:N[i]?=some x) (b:N[j]?=some x):i=j:=by
 obtain ⟨h1,e1⟩:=xAq.mp a;obtain ⟨h2,e2⟩:=xAq.mp b;exact (List.getElem_inj hN).mp (e1.trans e2.symm)
theorem lE {M:Model} {A:Around} {E:Value->Shared->Prop} {i:Nat} {x:Str} {v:V} {u:Value} {Q:Unit->Shared->Prop} (I:Inv X pins σ H s) (hN:X.N.Nodup) (hi:X.N[i]?=some x) (hx:Loc X.env.scope x) (r:RelV v u)
  (h:∀ s',Inv X pins (σ.set i (some v)) H s'->(∃ a,Heap.SameBut a s.heap s'.heap/\(a=X.env.locals\/X.env.cells.lookup x=some a))->Q () s') (hf:X.fn x=true\/X.env.scope.names.lookup x=some .local:=by first | exact .inl rfl | exact .inr rfl | assumption):wpAny M A (storeName X.env x u) Q E s:=by
 obtain ⟨m,hn,hl⟩:=id I.loc;have hcls:(X.env.scope.kind == .class || (X.env.scope.kind == .module && X.env.locals != X.env.globals))=false:=by rw [I.ok.kind];rfl
 have hiσ:i<σ.length:=by rw [I.len];exact (xAq.mp hi).1
 have cne:=I.cne;have tracked:∀ {a:Addr} {h':Heap},(∃ o,s.heap.get? a=some o/\H a=none)->Heap.SameBut a s.heap h'->HOk X.prog X.w H h':=fun {a h'} ha hs b ob e=>by
  obtain ⟨_,_,hfree⟩:=ha;refine (I.hok b ob e).stay (fun c w' hc q=>(hs.2 c ?_).trans q) (fun _ q=>q) fun _ _ q=>q;rintro rfl
  rcases hc with rfl | hc
  ·rw [hfree] at e;cases e
  ·rw [hfree] at hc;cases hc
 rcases hx with hk | hk
 ·refine wpAny_storeName_local hk hn (fun h' hn' hs=>?_) hcls;obtain ⟨oL,_,_,hoL,_⟩:=id hn;refine h _ ⟨I.ok,I.os,I.bare,⟨fun b o e n hb hx=>?_,fun b o e n hb hx=>?_,I.base.free,fun b o e hx=>?_,I.base.tups,I.base.frzs,I.base.tbls⟩,⟨_,hn',fun j y v' e1 e2 e3=>?_⟩,fun y c e=>?_,I.free,I.freeC,fun p hp=>?_,tracked ⟨oL,hoL,I.free⟩ hs,by simpa using I.len⟩ ⟨_,hs,.inl rfl⟩
  ·exact (hs.2 b (xA0 (xBc (xA1 e) I.ok.above))).trans (I.base.keep b o e n hb hx)
  ·obtain ⟨sl,e1⟩:=I.base.slot b o e n hb hx;exact ⟨sl,(hs.2 b (xA0 (xBc (xA1 e) I.ok.above))).trans e1⟩
  ·obtain ⟨o',e1⟩:=I.base.there b o e hx;exact ⟨o',(hs.2 b (xA0 (xBc (xA1 e) I.ok.above))).trans e1⟩
  ·by_cases hj:j=i
   ·subst hj;rw [hi] at e1;cases e1;rw [List.getElem?_set_self hiσ] at e2;cases e2;exact ⟨u,r,.inl ⟨hk,by simp⟩⟩
   ·rw [List.getElem?_set_ne (Ne.symm hj)] at e2;obtain ⟨u',r',q⟩:=hl j y v' e1 e2 e3;refine ⟨u',r',?_⟩;rcases q with ⟨k,e⟩ | ⟨k,c,e,z⟩
    ·refine .inl ⟨k,?_⟩;have:y≠x:=fun e=>hj (iZ hN e1 (e ▸ hi));simp [this,e]
    ·exact .inr ⟨k,c,e,z.sameBut hs (cne y c e)⟩
  ·obtain ⟨w',z⟩:=I.cell y c e;exact ⟨w',z.sameBut hs (cne y c e)⟩
  ·obtain ⟨e,n,ne,nf,d⟩:=I.pin p hp;exact ⟨(hs.2 p.1 ne).trans e,n,ne,nf,d⟩
 ·have hfn:X.fn x=true:=by
   rcases hf with z | z
   ·exact z
   ·rw [z] at hk;cases hk
  obtain ⟨c,hc⟩:=I.ok.has x (.inl hk);obtain ⟨w',z⟩:=I.cell x c hc;refine wpAny_storeName_cell I.ok.kind hk hc z (fun h' hc' hs=>?_);obtain ⟨oc,hoc,hocd⟩:=id z;refine h { s with heap:=h' } ⟨I.ok,I.os,I.bare,⟨fun b o e n hb hx=>?_,fun b o e n hb hx=>?_,I.base.free,fun b o e hx=>?_,I.base.tups,I.base.frzs,I.base.tbls⟩,⟨m,hn.sameBut hs (Ne.symm (cne x c hc)),fun j y v' e1 e2 e3=>?_⟩,fun y c' e=>?_,I.free,I.freeC,fun p hp=>?_,tracked ⟨oc,hoc,I.freeC x c hc⟩ hs,by simpa using I.len⟩ ⟨c,hs,.inr hc⟩
  ·exact (hs.2 b (xA0 (xBc (xA1 e) (I.ok.cab x c hfn hc)))).trans (I.base.keep b o e n hb hx)
  ·obtain ⟨sl,e1⟩:=I.base.slot b o e n hb hx;exact ⟨sl,(hs.2 b (xA0 (xBc (xA1 e) (I.ok.cab x c hfn hc)))).trans e1⟩
  ·obtain ⟨o',e1⟩:=I.base.there b o e hx;exact ⟨o',(hs.2 b (xA0 (xBc (xA1 e) (I.ok.cab x c hfn hc)))).trans e1⟩
  ·by_cases hj:j=i
   ·subst hj;rw [hi] at e1;cases e1;rw [List.getElem?_set_self hiσ] at e2;cases e2;exact ⟨u,r,.inr ⟨.inl hk,c,hc,hc'⟩⟩
   ·rw [List.getElem?_set_ne (Ne.symm hj)] at e2;obtain ⟨u',r',q⟩:=hl j y v' e1 e2 e3;refine ⟨u',r',?_⟩;rcases q with q | ⟨k,c',e,z'⟩
    ·exact .inl q
    ·refine .inr ⟨k,c',e,z'.sameBut hs ?_⟩;rintro rfl
     exact hj (iZ hN e1 (I.ok.inj _ _ _ e hc ▸ hi))
  ·by_cases hcc:c'=c
   ·subst hcc;exact ⟨_,hc'⟩
   ·obtain ⟨w2,z2⟩:=I.cell y c' e;exact ⟨w2,z2.sameBut hs hcc⟩
  ·obtain ⟨e,n,ne,nf,d⟩:=I.pin p hp;refine ⟨(hs.2 p.1 ?_).trans e,n,ne,nf,d⟩;intro q;rw [q,hoc] at e;have q':oc=p.2:=xB3 e;exact d w' (by rw [<- q'];exact hocd)
theorem iL {M:Model} {A:Around} {E:Value->Shared->Prop} {i:Nat} {x:Str} {v:V} {u:Value} {Q:Unit->Shared->Prop} (I:Inv X pins σ H s) (hN:X.N.Nodup) (hi:X.N[i]?=some x) (hx:Loc X.env.scope x) (r:RelV v u)
  (h:∀ s',Inv X pins (σ.set i (some v)) H s'->Q () s') (hf:X.fn x=true\/X.env.scope.names.lookup x=some .local:=by first | exact .inl rfl | exact .inr rfl | assumption):wpAny M A (storeName X.env x u) Q E s :=
 lE I hN hi hx r (fun s' I' _=>h s' I') hf
theorem Inv.call' {s':Shared} {ch:List Addr} (I:Inv X pins σ H s) (ho:s'.os=s.os) (u:Un (frs X.stack) ch H H' s.heap s'.heap) (hok:HOk X.prog X.w H' s'.heap) (hg:AllBare s'.gens)
  (hch:∀ b∈ch,(b∈X.ex\/X.s₀.heap.objs.size<=b)/\b≠X.env.locals/\(∀ x c,X.env.cells.lookup x=some c->c≠b)/\∀ p∈X.pn++pins,p.1≠b):Inv X pins σ H' s':=by
 obtain ⟨h',g',d',t',o'⟩:=s';have e:o'=s.os:=ho;subst e;exact I.call (g':=g') (t':=t') (d':=d') u hok hg hch
end
noncomputable abbrev XK:=Value->Option Addr->Hp->Prop
noncomputable abbrev St:=List (Option V)
noncomputable abbrev VK:=V->Hp->Prop
noncomputable abbrev TE:=St->Hp->VK->Prop
noncomputable abbrev TT:=St->Hp->(Bool->Hp->Prop)->Prop
noncomputable abbrev TA:=St->Hp->(List V->Hp->Prop)->Prop
structure Ends where
 nx:St->Hp->Prop
 rt:VK
 bk:St->Hp->Prop:=fun _ _=>False
 ct:St->Hp->Prop:=fun _ _=>False
noncomputable abbrev TS:=Ends->St->Hp->Prop
def EP (X:Cx) (pins:List (Addr×Obj)) (σ:St) (Q:VK) (u:Value) (s':Shared):Prop:=∃ v H',Inv X pins σ H' s'/\RelV v u/\Q v H'
def TP (X:Cx) (pins:List (Addr×Obj)) (σ:St) (Q:Bool->Hp->Prop) (b:Bool) (s':Shared):Prop:=∃ H',Inv X pins σ H' s'/\Q b H'
def AP (X:Cx) (pins:List (Addr×Obj)) (σ:St) (Q:List V->Hp->Prop) (us:List Value) (s':Shared):Prop:=∃ vs H',Inv X pins σ H' s'/\Vals vs us/\Q vs H'
def SP (X:Cx) (pins:List (Addr×Obj)) (D:Ends) (f:Flow) (s':Shared):Prop :=
 match f with
 | .next=>∃ σ' H',Inv X pins σ' H' s'/\D.nx σ' H'
 | .brk=>∃ σ' H',Inv X pins σ' H' s'/\D.bk σ' H'
 | .cont=>∃ σ' H',Inv X pins σ' H' s'/\D.ct σ' H'
 | .ret u=>∃ v σ' H',Inv X pins σ' H' s'/\RelV v u/\D.rt v H'
def PE (X:Cx) (e:Expr) (t:TE):Prop :=
 ∀ (pins:List (Addr×Obj)) (s:Shared) (σ:St) (H:Hp) (Q:VK),Inv X pins σ H s->t σ H Q->wpAny (model X.prog X.w) X.A (eval e X.env) (EP X pins σ Q) X.xe s
def PT (X:Cx) (e:Expr) (t:TT):Prop :=
 ∀ (pins:List (Addr×Obj)) (s:Shared) (σ:St) (H:Hp) (Q:Bool->Hp->Prop),Inv X pins σ H s->t σ H Q->wpAny (model X.prog X.w) X.A (isTrue e X.env (eval e X.env)) (TP X pins σ Q) X.xe s
def PW (X:Cx) (e:Expr) (t:TT):Prop :=
 ∀ (whole:Sem Value) (pins:List (Addr×Obj)) (s:Shared) (σ:St) (H:Hp) (Q:Bool->Hp->Prop),Inv X pins σ H s->t σ H Q->wpAny (model X.prog X.w) X.A (isTrue e X.env whole) (TP X pins σ Q) X.xe s
theorem PW.pt {X:Cx} {e:Expr} {t:TT} (h:PW X e t):PT X e t:=h _
def PA (X:Cx) (es:List Expr) (t:TA):Prop :=
 ∀ (pos:Pos) (pins:List (Addr×Obj)) (s:Shared) (σ:St) (H:Hp) (Q:List V->Hp->Prop),Inv X pins σ H s->t σ H Q->wpAny (model X.prog X.w) X.A (spliced (backTo pos (starEach es X.env))) (AP X pins σ Q) X.xe s
def PS (X:Cx) (st:Stmt) (t:TS):Prop :=
 ∀ (pins:List (Addr×Obj)) (s:Shared) (σ:St) (H:Hp) (D:Ends),Inv X pins σ H s->t D σ H->wpAny (model X.prog X.w) X.A (exec st X.env) (SP X pins D) X.xe s
def PSs (X:Cx) (st:List Stmt) (t:TS):Prop :=
 ∀ (pins:List (Addr×Obj)) (s:Shared) (σ:St) (H:Hp) (D:Ends),Inv X pins σ H s->t D σ H->wpAny (model X.prog X.w) X.A (execs st X.env) (SP X pins D) X.xe s
theorem thn {α:Type} {t:Sem α} {Q Q':α->Shared->Prop} {M:Model} {A:Around} {E:Value->Shared->Prop} {s:Shared} (h:wpAny M A t Q E s) (hQ:∀ a s,Q a s->Q' a s):wpAny M A t Q' E s:=wpAny_mono h hQ fun _ _ x=>x
end L2
namespace L2
open PySem PySem.Spec PyProof.Rows
section
variable {X:Cx}
noncomputable def tVar (i:Nat):TE:=fun σ H Q=>∃ v,σ[i]?=some (some v)/\Q v H
noncomputable def tC (v:V):TE:=fun _ H Q=>Q v H
theorem tG {i:Nat} {x:Str} {pos:Pos} (hN:X.N[i]?=some x) (hv:Vis X.env.scope x) (hd:(x == ("__debug__":Str))=false:=by decide) (hcd:(x == ("__classdict__":Str))=false:=by decide):PE X (.Name x pos) (tVar i):=by
 intro pins s σ H Q I h;obtain ⟨v,e,h⟩:=h;obtain ⟨m,hn,hl⟩:=I.loc;obtain ⟨u,r,l⟩:=hl i x v hN e hv;have fin:EP X pins σ Q u s:=⟨v,H,I,r,h⟩
 rcases l with ⟨hk,hm⟩ | ⟨hk,c,hc,hcell⟩
 ·exact wpAny_Name (wpAny_loadName_local I.ok.kind hk hn hm fin) hd
 ·rcases hk with hk | hk
  ·exact wpAny_Name (wpAny_loadName_cell I.ok.kind hk hc hcell fin) hd
  ·exact wpAny_Name (wpAny_loadName_free I.ok.kind hk hc hcell fin hcd) hd
theorem tM {i j pos}:PE X (.Constant (.int i) j pos) (tC (.int i)):=fun _ _ _ H _ I h=>wpAny_Constant_int ⟨.int i,H,I.tok _,⟨_,rfl⟩,h⟩
theorem vT {b j pos}:PE X (.Constant (.bool b) j pos) (tC (.bl b)):=fun _ _ _ H _ I h=>Constant_bool ⟨.bl b,H,I,rfl,h⟩
theorem jE {j pos}:PE X (.Constant .none j pos) (tC .non):=fun _ _ _ H _ I h=>Constant_none ⟨.non,H,I,rfl,h⟩
theorem nN {x j pos}:PE X (.Constant (.str x) j pos) (tC (.str x)):=fun _ _ _ H _ I h=>Calls.Constant_str ⟨.str x,H,I.tok _,⟨_,rfl⟩,h⟩
def Gl (X:Cx) (x:Str):Prop:=X.env.kindOf x=some .globalImplicit
theorem e9 {E:Value->Shared->Prop} {pins:List (Addr×Obj)} {s:Shared} {σ:St} {H:Hp} {x:Str} {u:Value} {pos:Pos} {Q:Value->Shared->Prop} (I:Inv X pins σ H s) (hg:Gl X x) (hm:X.mg x=some u) (h:Q u s)
  (hd:(x == ("__debug__":Str))=false:=by decide):wpAny (model X.prog X.w) X.A (eval (.Name x pos) X.env) Q E s :=
 Calls.Name_function_global I.ok.kind hg (Calls.loadGlobal_global (by rw [I.ok.glob];exact I.mod.glob.keeps I.bk) hm h) hd
theorem fC {E:Value->Shared->Prop} {pins:List (Addr×Obj)} {s:Shared} {σ:St} {H:Hp} {x:Str} {u:Value} {pos:Pos} {Q:Value->Shared->Prop} (I:Inv X pins σ H s) (hg:Gl X x) (hm:X.mg x=none) (hv:bootBuiltins x=some u) (h:Q u s)
  (hn:x≠"__name__":=by decide) (hd:(x == ("__debug__":Str))=false:=by decide):wpAny (model X.prog X.w) X.A (eval (.Name x pos) X.env) Q E s:=by
 obtain ⟨mb,h1,h2⟩:=I.mod.blt;exact Calls.Name_function_global I.ok.kind hg (Calls.loadGlobal_builtin (by rw [I.ok.glob];exact I.mod.glob.keeps I.bk) hm (by rw [I.ok.blt];exact h1.keeps I.bk) ((h2 x hn).trans hv) h) hd
theorem fX {x:Str} {v:V} {u:Value} {pos:Pos} (hg:Gl X x) (hm:X.mg x=some u) (r:RelV v u) (hd:(x == ("__debug__":Str))=false:=by decide):PE X (.Name x pos) (tC v) :=
 fun _ _ _ H _ I h=>e9 I hg hm ⟨v,H,I,r,h⟩ hd
theorem qh {x:Str} {v:V} {u:Value} {pos:Pos} (hg:Gl X x) (hm:X.mg x=none) (hv:bootBuiltins x=some u) (r:RelV v u) (hn:x≠"__name__":=by decide) (hd:(x == ("__debug__":Str))=false:=by decide):PE X (.Name x pos) (tC v) :=
 fun _ _ _ H _ I h=>fC I hg hm hv ⟨v,H,I,r,h⟩ hn hd
variable {a b:Expr} {ta tb:TE} {pos:Pos}
noncomputable def tB (t:TE):TT:=fun σ H Q=>t σ H fun x H1=>∃ c,x = .bl c/\Q c H1
theorem sX {e:Expr} {t:TE} (h:PE X e t) (he:∀ whole,isTrue e X.env whole=(do let v <- whole;standAt e.pos;holding [v] (truthy v)):=by intro _;rfl):PT X e (tB t):=by
 intro pins s σ H Q I hw;refine isTrue_plain (thn (h pins s σ H _ I hw) fun v s1 ⟨x,H1,I1,r1,q1⟩=>?_) (he _);obtain ⟨d,rfl,q⟩:=q1;cases r1;exact wpAny_truthy_bool ⟨H1,I1,q⟩
variable {tA tB':TT} {rest:List Expr}
noncomputable def tAnd (t u:TT):TT:=fun σ H Q=>t σ H fun c H1=>if c=true then u σ H1 Q else Q false H1
noncomputable def tOr (t u:TT):TT:=fun σ H Q=>t σ H fun c H1=>if c=true then Q true H1 else u σ H1 Q
noncomputable def tNot (t:TT):TT:=fun σ H Q=>t σ H fun c H1=>Q (!c) H1
theorem pS (ha:PT X a tA):PW X (.BoolOp .And [a] pos) tA:=by
 intro wh pins s σ H Q I h;refine isTrue_and (thn (ha pins s σ H Q I h) fun c s1 e=>?_);cases c with
 | true=>exact isTrue_and_nil e
 | false=>exact e
theorem sT (ha:PT X a tA):PW X (.BoolOp .Or [a] pos) tA:=by
 intro wh pins s σ H Q I h;refine isTrue_or (thn (ha pins s σ H Q I h) fun c s1 e=>?_);cases c with
 | false=>exact isTrue_or_nil e
 | true=>exact e
theorem sV (ha:PT X a tA) (hb:PW X (.BoolOp .And (b::rest) pos) tB'):PW X (.BoolOp .And (a::b::rest) pos) (tAnd tA tB'):=by
 intro wh pins s σ H Q I h;refine isTrue_and (thn (ha pins s σ H _ I h) fun c s1 ⟨H1,I1,q1⟩=>?_);cases c with
 | true=>exact hb wh pins s1 σ H1 Q I1 q1
 | false=>exact ⟨H1,I1,q1⟩
theorem vJ (ha:PT X a tA) (hb:PW X (.BoolOp .Or (b::rest) pos) tB'):PW X (.BoolOp .Or (a::b::rest) pos) (tOr tA tB'):=by
 intro wh pins s σ H Q I h;refine isTrue_or (thn (ha pins s σ H _ I h) fun c s1 ⟨H1,I1,q1⟩=>?_);cases c with
 | true=>exact ⟨H1,I1,q1⟩
 | false=>exact hb wh pins s1 σ H1 Q I1 q1
theorem sY (ha:PT X a tA):PT X (.UnaryOp .Not a pos) (tNot tA):=by
 intro pins s σ H Q I h;exact isTrue_not (ha pins s σ H (fun c H1=>Q (!c) H1) I h)
noncomputable def tAndV (ta tb:TE):TE:=fun σ H Q=>ta σ H fun x H1=>∃ c,x = .bl c/\if c=true then tb σ H1 Q else Q (.bl false) H1
noncomputable def tOrV (ta tb:TE):TE:=fun σ H Q=>ta σ H fun x H1=>∃ c,x = .bl c/\if c=true then Q (.bl true) H1 else tb σ H1 Q
noncomputable def tNotV (ta:TE):TE:=fun σ H Q=>ta σ H fun x H1=>∃ c,x = .bl c/\Q (.bl (!c)) H1
theorem tI {op} {t:TE} (h:PE X a t):PE X (.BoolOp op [a] pos) t:=fun pins s σ H Q I hw=>BoolOp_one (h pins s σ H Q I hw)
theorem tP (ha:PE X a ta) (hb:PE X (.BoolOp .And (b::rest) pos) tb):PE X (.BoolOp .And (a::b::rest) pos) (tAndV ta tb):=by
 intro pins s σ H Q I h;refine BoolOp_and (thn (ha pins s σ H _ I h) fun v s1 zz=>?_);obtain ⟨x,H1,I1,r1,q1⟩:=zz;obtain ⟨c,rfl,q1⟩:=q1;cases r1;refine wpAny_truthy_bool ?_;cases c with
 | true=>exact hb pins s1 σ H1 Q I1 q1
 | false=>exact ⟨.bl false,H1,I1,rfl,q1⟩
theorem vO (ha:PE X a ta) (hb:PE X (.BoolOp .Or (b::rest) pos) tb):PE X (.BoolOp .Or (a::b::rest) pos) (tOrV ta tb):=by
 intro pins s σ H Q I h;refine BoolOp_or (thn (ha pins s σ H _ I h) fun v s1 zz=>?_);obtain ⟨x,H1,I1,r1,q1⟩:=zz;obtain ⟨c,rfl,q1⟩:=q1;cases r1;refine wpAny_truthy_bool ?_;cases c with
 | false=>exact hb pins s1 σ H1 Q I1 q1
 | true=>exact ⟨.bl true,H1,I1,rfl,q1⟩
theorem tJ (ha:PE X a ta):PE X (.UnaryOp .Not a pos) (tNotV ta):=by
 intro pins s σ H Q I h;refine UnaryOp_ (thn (ha pins s σ H _ I h) fun v s1 zz=>?_);obtain ⟨x,H1,I1,r1,q1⟩:=zz;obtain ⟨c,rfl,q1⟩:=q1;cases r1;exact not_of (wpAny_truthy_bool ⟨.bl (!c),H1,I1,rfl,q1⟩)
noncomputable def tIf (t:TT) (ta tb:TE):TE:=fun σ H Q=>t σ H fun c H1=>if c=true then ta σ H1 Q else tb σ H1 Q
theorem nQ {c:Expr} (hc:PT X c tA) (ha:PE X a ta) (hb:PE X b tb):PE X (.IfExp c a b pos) (tIf tA ta tb):=by
 intro pins s σ H Q I h;refine wpAny_IfExp (thn (hc pins s σ H _ I h) fun d s1 ⟨H1,I1,q1⟩=>?_);cases d with
 | true=>exact ha pins s1 σ H1 Q I1 q1
 | false=>exact hb pins s1 σ H1 Q I1 q1
end
end L2
namespace L2
open PySem PySem.Spec PyProof.Rows
def SqL (K:xFr) (H:Hp) (a:Addr) (xs:List V):Prop :=
 Rd H a (.lst xs) \/
  ∃ (o:Obj) (its:Array Value) (n:Nat),K.lookup a=some o/\o.cls = .type "list"/\o.dict=none/\o.data = .seq its n/\its.size<=sizeLine/\Vals xs its.toList
def SqT (K:xFr) (H:Hp) (a:Addr) (xs:List V):Prop :=
 Rd H a (.tup xs) \/
  ∃ (o:Obj) (its:Array Value) (n:Nat),K.lookup a=some o/\o.cls = .type "tuple"/\o.data = .seq its n/\its.size<=sizeLine/\Vals xs its.toList
noncomputable def absV:Value->Option V
 | .none=>some .non
 | .bool b=>some (.bl b)
 | .int i _=>some (.int i)
 | .str x _=>some (.str x)
 | .bytes b _=>some (.byt b)
 | .float b _=>some (.flt b)
 | .ref a=>some (.ref a)
 | .type n=>some (.ty n)
 | _=>none
theorem RelV.abs {x:V} {u:Value} (r:RelV x u):absV u=some x:=by
 cases x with
 | non=>cases r;rfl
 | bl _=>cases r;rfl
 | int _=>obtain ⟨t,rfl⟩:=r;rfl
 | str _=>obtain ⟨t,rfl⟩:=r;rfl
 | byt _=>obtain ⟨t,rfl⟩:=r;rfl
 | flt _=>obtain ⟨t,rfl⟩:=r;rfl
 | ref _=>cases r;rfl
 | ty _=>cases r;rfl
theorem RelV.inj {x y:V} {u:Value} (r:RelV x u) (q:RelV y u):x=y:=xB3 (r.abs.symm.trans q.abs)
theorem Vals.inj:∀ {xs ys:List V} {us:List Value},Vals xs us->Vals ys us->xs=ys
 | _,_,_,.nil,.nil=>rfl
 | _,_,_,.cons r t,.cons r' t'=>by rw [r.inj r',Vals.inj t t']
section
variable {X:Cx} {pins:List (Addr×Obj)} {σ:St} {H:Hp} {s:Shared} {a:Addr} {xs ys:List V}
theorem SqL.of {K:xFr} (h:H a=some (.lst xs)):SqL K H a xs:=.inl (.inl h)
theorem SqT.of {K:xFr} (h:H a=some (.tup xs)):SqT K H a xs:=.inl (.inl h)
theorem Inv.list (I:Inv X pins σ H s) (h:SqL X.K H a xs):∃ its:List Value,Vals xs its/\PlainL s.heap a its.toArray/\xs.length<=sizeLine:=by
 rcases h with h | ⟨o,its,n,hk,hc,hd,hs,hz,r⟩
 ·obtain ⟨z,its,n,r,e⟩:=h.ok I.hok;exact ⟨its,r,⟨_,n,e,rfl,rfl,rfl⟩,z⟩
 ·refine ⟨its.toList,r,⟨o,n,I.kIn a o hk,hc,hd,by simpa using hs⟩,?_⟩;have e:=r.length;simp only [xAh] at e;lia
theorem Inv.tuple (I:Inv X pins σ H s) (h:SqT X.K H a xs):∃ its:List Value,Vals xs its/\IsTup s.heap a its.toArray/\xs.length<=sizeLine:=by
 rcases h with h | ⟨o,its,n,hk,hc,hs,hz,r⟩
 ·obtain ⟨z,its,r,p⟩:=h.ok I.hok;exact ⟨its,r,p,z⟩
 ·refine ⟨its.toList,r,⟨o,I.kIn a o hk,hc,n,by simpa using hs⟩,?_⟩;have e:=r.length;simp only [xAh] at e;lia
theorem Inv.list_inj (I:Inv X pins σ H s) (h:SqL X.K H a xs) (h':SqL X.K H a ys):xs=ys:=by
 obtain ⟨its,r,⟨o,n,e,_,_,d⟩,_⟩:=I.list h;obtain ⟨its',r',⟨o',n',e',_,_,d'⟩,_⟩:=I.list h';rw [e] at e';cases e';rw [d] at d';injection d' with d1 _;have:its=its':=by simpa using congrArg Array.toList d1
 subst this;exact r.inj r'
theorem Inv.tuple_inj (I:Inv X pins σ H s) (h:SqT X.K H a xs) (h':SqT X.K H a ys):xs=ys:=by
 obtain ⟨its,r,⟨o,e,_,n,d⟩,_⟩:=I.tuple h;obtain ⟨its',r',⟨o',e',_,n',d'⟩,_⟩:=I.tuple h';rw [e] at e';cases e';rw [d] at d';injection d' with d1 _;have:its=its':=by simpa using congrArg Array.toList d1
 subst this;exact r.inj r'
end
noncomputable abbrev Cx.wish (X:Cx) (E:Value->Shared->Prop):Cx:={ X with xe:=E }
theorem Cx.Ok.wish {X:Cx} (ok:X.Ok) (E:Value->Shared->Prop):(X.wish E).Ok :=
 ⟨ok.mod,ok.kind,ok.glob,ok.blt,ok.above,ok.inj,ok.has,ok.cab,ok.hd,ok.frames,ok.stk,ok.exf,ok.bs,ok.bsz,ok.noex,ok.exfs,ok.funs,ok.frf⟩
theorem Cx.Ok.unwish {X:Cx} {E:Value->Shared->Prop} (ok:(X.wish E).Ok):X.Ok :=
 ⟨ok.mod,ok.kind,ok.glob,ok.blt,ok.above,ok.inj,ok.has,ok.cab,ok.hd,ok.frames,ok.stk,ok.exf,ok.bs,ok.bsz,ok.noex,ok.exfs,ok.funs,ok.frf⟩
section
variable {X:Cx} {pins:List (Addr×Obj)} {σ:St} {H:Hp} {s:Shared} {E:Value->Shared->Prop}
theorem Inv.wish (I:Inv X pins σ H s) (E:Value->Shared->Prop):Inv (X.wish E) pins σ H s:=⟨I.ok.wish E,I.os,I.bare,I.base,I.loc,I.cell,I.free,I.freeC,I.pin,I.hok,I.len⟩
theorem Inv.unwish (I:Inv (X.wish E) pins σ H s):Inv X pins σ H s:=⟨I.ok.unwish,I.os,I.bare,I.base,I.loc,I.cell,I.free,I.freeC,I.pin,I.hok,I.len⟩
theorem SP.unwish {D:Ends} {f:Flow} {s':Shared} (h:SP (X.wish E) pins D f s'):SP X pins D f s':=by
 cases f with
 | next=>obtain ⟨σ',H',I,q⟩:=h;exact ⟨σ',H',I.unwish,q⟩
 | brk=>obtain ⟨σ',H',I,q⟩:=h;exact ⟨σ',H',I.unwish,q⟩
 | cont=>obtain ⟨σ',H',I,q⟩:=h;exact ⟨σ',H',I.unwish,q⟩
 | ret u=>obtain ⟨v,σ',H',I,r,q⟩:=h;exact ⟨v,σ',H',I.unwish,r,q⟩
end
section
variable {X:Cx} {st:Stmt} {rest:List Stmt} {t u:TS} {e:Expr} {te:TE} {pos:Pos}
noncomputable def tNext:TS:=fun D σ H=>D.nx σ H
noncomputable def tSeq (t u:TS):TS:=fun D σ H=>t { D with nx:=u D } σ H
theorem pX:PSs X [] tNext:=fun _ _ σ H _ I h=>wpAny_execs_nil ⟨σ,H,I,h⟩
theorem nA (h1:PS X st t) (h2:PSs X rest u):PSs X (st::rest) (tSeq t u):=by
 intro pins s σ H D I h;refine wpAny_execs_cons (thn (h1 pins s σ H { D with nx:=u D } I h) fun f s1 q=>?_);cases f with
 | next =>
  obtain ⟨σ',H',I',q⟩:=q;exact h2 pins s1 σ' H' D I' q
 | ret v=>exact q
 | brk=>exact q
 | cont=>exact q
theorem p0:PS X (.Pass pos) tNext:=fun _ _ σ H _ I h=>wpAny_Pass ⟨σ,H,I,h⟩
theorem Inv.quiet {pins:List (Addr×Obj)} {σ:St} {H:Hp} {s:Shared} (I:Inv X pins σ H s):interactive X.env=false:=by simp [interactive,I.ok.kind]
noncomputable def tDrop (te:TE):TS:=fun D σ H=>te σ H fun _ H1=>D.nx σ H1
theorem p6 (he:PE X e te) (hs:swapsWith e none pos.line X.env=pure false:=by rfl):PS X (.Expr e pos) (tDrop te):=by
 intro pins s σ H D I h;exact wpAny_Expr_any (thn (he pins s σ H _ I h) fun v s1 ⟨x,H1,I1,r1,q1⟩=>⟨σ,H1,I1,q1⟩) I.quiet hs
noncomputable def tRet (te:TE):TS:=fun D σ H=>te σ H D.rt
theorem tm (he:PE X e te):PS X (.Return (some e) pos) (tRet te):=by
 intro pins s σ H D I h;exact wpAny_Return_some (thn (he pins s σ H _ I h) fun v s1 ⟨x,H1,I1,r1,q1⟩=>⟨x,σ,H1,I1,r1,q1⟩)
noncomputable def tRetN:TS:=fun D _ H=>D.rt .non H
theorem pZ:PS X (.Return none pos) tRetN:=fun _ _ σ H _ I h=>wpAny_Return_none ⟨.non,σ,H,I,rfl,h⟩
noncomputable def tIfS (c:TT) (t u:TS):TS:=fun D σ H=>c σ H fun b H1=>if b=true then t D σ H1 else u D σ H1
theorem vK {c:Expr} {a b:List Stmt} {tc:TT} (hc:PT X c tc) (ha:PSs X a t) (hb:PSs X b u):PS X (.If c a b pos) (tIfS tc t u):=by
 intro pins s σ H D I h;refine wpAny_If (thn (hc pins s σ H _ I h) fun d s1 ⟨H1,I1,q1⟩=>?_);cases d with
 | true=>exact ha pins s1 σ H1 D I1 q1
 | false=>exact hb pins s1 σ H1 D I1 q1
end
noncomputable abbrev TG:=V->St->Hp->(St->Hp->Prop)->Prop
noncomputable abbrev TGs:=List V->St->Hp->(St->Hp->Prop)->Prop
def PG (X:Cx) (target:Expr) (t:TG):Prop :=
 ∀ (pins:List (Addr×Obj)) (s:Shared) (σ:St) (H:Hp) (v:V) (u:Value) (Q:St->Hp->Prop),Inv X pins σ H s->RelV v u->t v σ H Q ->
  wpAny (model X.prog X.w) X.A (assign target X.env u) (fun _ s'=>∃ σ' H',Inv X pins σ' H' s'/\Q σ' H') X.xe s
def PGs (X:Cx) (ts:List Expr) (t:TGs):Prop :=
 ∀ (pins:List (Addr×Obj)) (s:Shared) (σ:St) (H:Hp) (vs:List V) (us:List Value) (Q:St->Hp->Prop),Inv X pins σ H s->Vals vs us->t vs σ H Q ->
  wpAny (model X.prog X.w) X.A (assignInOrder ((assignEach ts X.env).map (·.2)) us) (fun _ s'=>∃ σ' H',Inv X pins σ' H' s'/\Q σ' H') X.xe s
noncomputable abbrev TSet:=V->V->V->Hp->(Hp->Prop)->Prop
def PSet (X:Cx) (t:TSet):Prop :=
 ∀ (pins:List (Addr×Obj)) (s:Shared) (σ:St) (H:Hp) (o i v:V) (ov iv u:Value) (Q:Hp->Prop),Inv X pins σ H s->RelV o ov->RelV i iv->RelV v u->t o i v H Q ->
  wpAny (model X.prog X.w) X.A (setItem ov iv u) (fun _ s'=>∃ H',Inv X pins σ H' s'/\Q H') X.xe s
section
variable {X:Cx} {pos:Pos}
noncomputable def gName (i:Nat):TG:=fun v σ H Q=>Q (σ.set i (some v)) H
theorem kD {i:Nat} {x:Str} (hN:X.N.Nodup) (hi:X.N[i]?=some x) (hx:Loc X.env.scope x) (hf:X.fn x=true\/X.env.scope.names.lookup x=some .local:=by first | exact .inl rfl | exact .inr rfl | assumption):PG X (.Name x pos) (gName i):=by
 intro pins s σ H v u Q I r h;exact wpAny_assign_Name (iL I hN hi hx r (fun s' I'=>⟨_,H,I',h⟩) hf)
noncomputable def gNil:TGs:=fun vs σ H Q=>vs=[]/\Q σ H
noncomputable def gCons (t:TG) (u:TGs):TGs:=fun vs σ H Q=>∃ v r,vs=v::r/\t v σ H fun σ' H'=>u r σ' H' Q
theorem qd:PGs X [] gNil:=by
 intro pins s σ H vs us Q I r h;obtain ⟨e,h⟩:=h;subst e;cases r;exact assignInOrder_nil ⟨σ,H,I,h⟩
theorem nL {e:Expr} {es:List Expr} {t:TG} {u:TGs} (h1:PG X e t) (h2:PGs X es u)
  (hs:(assignEach (e::es) X.env).map (·.2)=assign e X.env::(assignEach es X.env).map (·.2):=by rfl):PGs X (e::es) (gCons t u):=by
 intro pins s σ H vs us Q I r h;obtain ⟨v,vr,e1,h⟩:=h;subst e1;cases r with
 | cons r rr =>
  rw [hs];refine assignInOrder_cons (thn (h1 pins s σ H _ _ _ I r h) fun _ s1 zz=>?_);obtain ⟨σ1,H1,I1,q1⟩:=zz;exact h2 pins s1 σ1 H1 _ _ Q I1 rr q1
noncomputable def gTup (K:xFr) (n:Nat) (t:TGs):TG:=fun v σ H Q=>∃ a xs,v = .ref a/\SqT K H a xs/\xs.length=n/\t xs σ H Q
theorem nM {es:List Expr} {k:Nat} {t:TGs} {n:Nat} (hc:X.calm=true) (h:PGs X es t)
  (hn:(assignEach es X.env).length=n:=by rfl) (hst:(assignEach es X.env).findIdx? (·.1)=none:=by rfl):PG X (.Tuple es k pos) (gTup X.K n t):=by
 intro pins s σ H v u Q I r hw;obtain ⟨a,xs,e1,hq,hl,hw⟩:=hw;subst e1;cases r;obtain ⟨its,rv,ht,hz⟩:=I.tuple hq;refine assign_Tuple_tuple (I.ok.hd hc) ht (by simp [hn,<- hl,rv.length]) hst fun h' hx=>?_;have I1:Inv X pins σ H { s with heap:=h' }:=I.kept (t':=s.toks) fun b o e=>hx b o (xA0 (xA1 e)) e;exact h pins _ σ H xs _ Q I1 (by simpa using rv) hw
noncomputable def gSub (to ti:TE) (t:TSet):TG:=fun v σ H Q=>to σ H fun o H1=>ti σ H1 fun i H2=>t o i v H2 fun H3=>Q σ H3
theorem tE {o i:Expr} {to ti:TE} {t:TSet} (ho:PE X o to) (hi:PE X i ti) (hs:PSet X t)
  (ha:∀ v,assign (.Subscript o i pos) X.env v=(do
   let ov <- holding [v] (eval o X.env)
   let iv <- holding [v,ov] (eval i X.env)
   standAt pos
   holding [v,ov,iv] (setItem ov iv v)
   release [v,ov,iv] []):=by intro _;rfl):PG X (.Subscript o i pos) (gSub to ti t):=by
 intro pins s σ H v u Q I r h;rw [ha];refine xAd (wpAny_holding (thn (ho pins s σ H _ I h) fun ov s1 zz=>?_));obtain ⟨x,H1,I1,r1,q1⟩:=zz;refine xAd (wpAny_holding (thn (hi pins s1 σ H1 _ I1 q1) fun iv s2 zz=>?_));obtain ⟨y,H2,I2,r2,q2⟩:=zz;refine xAd (wpAny_standAt (xAd (wpAny_holding (thn (hs pins s2 σ H2 x y v ov iv u _ I2 r1 r2 r q2) fun _ s3 ⟨H3,I3,q3⟩=>?_))));exact wpAny_release ⟨σ,H3,I3,q3⟩
noncomputable def tAsg (te:TE) (g:TG):TS:=fun D σ H=>te σ H fun x H1=>g x σ H1 D.nx
theorem nB {tg e:Expr} {te:TE} {g:TG} (he:PE X e te) (hg:PG X tg g) (hs:swapsWithSole [tg] e pos.line X.env=pure false:=by rfl) (hw:swappedStores [tg] e X.env=pure none:=by rfl)
  (h1:(assignEach [tg] X.env).map (·.2)=[assign tg X.env]:=by rfl):PS X (.Assign [tg] e pos) (tAsg te g):=by
 intro pins s σ H D I h;refine wpAny_Assign_stores (thn (he pins s σ H _ I h) fun v s1 ⟨x,H1,I1,r1,q1⟩=>?_) hs hw;rw [h1];exact thn (hg pins s1 σ H1 x v _ I1 r1 q1) fun _ s2 q=>q
theorem tj {i:Nat} {x:Str} {e:Expr} {te:TE} {pos':Pos} (hN:X.N.Nodup) (hi:X.N[i]?=some x) (hx:Loc X.env.scope x) (he:PE X e te) (hs:swapsWith e (some (.Name x pos')) pos.line X.env=pure false:=by rfl) (hf:X.fn x=true\/X.env.scope.names.lookup x=some .local:=by first | exact .inl rfl | exact .inr rfl | assumption) :
  PS X (.Assign [.Name x pos'] e pos) (tAsg te (gName i)):=by
 intro pins s σ H D I h;refine wpAny_Assign_Name (thn (he pins s σ H _ I h) fun v s1 ⟨y,H1,I1,r1,q1⟩=>?_) hs;exact iL I1 hN hi hx r1 (fun s2 I2=>⟨_,H1,I2,q1⟩) hf
end
section
variable {X:Cx} {pos:Pos}
noncomputable def tWhile (c:TT) (tb:TS):TS:=fun D σ H=>∃ W:Nat->St->Hp->Prop,(∃ m,W m σ H)/\∀ m σ H,W m σ H ->
 c σ H fun b H1=>if b=true then ∃ N:St->Hp->Prop,(∀ σ' H',N σ' H'->∃ m',m'<m/\W m' σ' H')/\tb { D with nx:=N,ct:=N,bk:=D.nx } σ H1 else D.nx σ H1
end
structure It where
 go:Nat->Hp->Prop
 yld:Nat->Hp->V->Hp->Prop
 stop:Nat->Hp->Prop
def FpOk (X:Cx) (pins:List (Addr×Obj)) (H:Hp) (b:Addr):Prop :=
 H b=none/\b≠X.env.locals/\b ∉ X.fs/\(b∈X.ex\/X.s₀.heap.objs.size<=b)/\(∀ x c,X.env.cells.lookup x=some c->c≠b)/\∀ p∈X.pn++pins,p.1≠b
theorem Inv.fpOk {X:Cx} {pins:List (Addr×Obj)} {σ:St} {H H':Hp} {s:Shared} {b:Addr} (I:Inv X pins σ H s) (hb:s.heap.objs.size<=b) (hn:H' b=none):FpOk X pins H' b:=by
 refine ⟨hn,Nat.ne_of_gt (xBc I.lt hb),I.nofs hb,.inr (Nat.le_trans I.sz hb),fun x c e z=>?_,fun p hp z=>?_⟩
 ·obtain ⟨v,q⟩:=I.cell x c e;exact absurd (xBc q.lt (by rw [z];exact hb)) (xBo _)
 ·exact absurd (xBc (xA1 (I.pin p hp).1) (by rw [z];exact hb)) (xBo _)
structure Turn (P:Program) (w:World) (K:xFr) (tg:Expr) (J:It) (fp:List Addr) (it:Addr) (tn:Nat->Heap->Prop):Prop where
 mem:it∈fp
 obj:∀ i h,tn i h->∀ b∈fp,∃ o,h.get? b=some o/\∀ v,o.data≠.cell v
 keep:∀ i h h',tn i h->(∀ b∈fp,∀ o,h.get? b=some o->h'.get? b=some o)->tn i h'
 item:∀ (X:Cx),X.prog=P->X.w=w->X.K=K->X.calm=true->∀ (i:Nat) (pins:List (Addr×Obj)) (s:Shared) (σ:St) (H:Hp) (E:Value->Shared->Prop),Inv X pins σ H s->(∀ b∈fp,FpOk X pins H b)->tn i s.heap->J.go i H ->
  wpAny (model P w) X.A (pyNext (.ref it)) (fun r s1=>∃ u,r=some u /\
   wpAny (model P w) X.A (letOwnedTupleGo tg (.ref it) u) (fun _ s2=>∃ x H',Inv X pins σ H' s2/\RelV x u/\J.yld i H x H'/\tn (i+1) s2.heap/\∀ b∈fp,H' b=none) E s1) E s
 done:∀ (X:Cx),X.prog=P->X.w=w->X.K=K->X.calm=true->∀ (i:Nat) (pins:List (Addr×Obj)) (s:Shared) (σ:St) (H:Hp) (E:Value->Shared->Prop),Inv X pins σ H s->(∀ b∈fp,FpOk X pins H b)->tn i s.heap->J.stop i H ->
  wpAny (model P w) X.A (pyNext (.ref it)) (fun r s1=>r=none/\Inv X pins σ H s1) E s
 self:∀ (A:Around) (i:Nat) (s:Shared) (Q:Value->Shared->Prop) (E:Value->Shared->Prop),tn i s.heap->Q (.ref it) s->wpAny (model P w) A (pyIter (.ref it)) Q E s
noncomputable abbrev TI:=St->Hp->(It->Hp->Prop)->Prop
def PIE (X:Cx) (pins:List (Addr×Obj)) (σ:St) (tg:Expr) (R:It->Hp->Prop) (itv:Value) (s2:Shared):Prop :=
 ∃ (it:Addr) (fp:List Addr) (tn:Nat->Heap->Prop) (J:It) (H':Hp),itv = .ref it/\Inv X pins σ H' s2/\Turn X.prog X.w X.K tg J fp it tn/\tn 0 s2.heap/\(∀ b∈fp,FpOk X pins H' b)/\R J H'
def PI (X:Cx) (tg iter:Expr) (wi:TI):Prop :=
 ∀ (pins:List (Addr×Obj)) (s:Shared) (σ:St) (H:Hp) (R:It->Hp->Prop),Inv X pins σ H s->wi σ H R ->
  wpAny (model X.prog X.w) X.A (eval iter X.env) (fun v s1=>wpAny (model X.prog X.w) X.A (pyIter v) (PIE X pins σ tg R) X.xe s1) X.xe s
theorem gR {M:Model} {A:Around} {E:Value->Shared->Prop} {s:Shared} {tg:Expr} {it:Addr} {u:Value} {o:Obj} {n:String} {vs:Array Value} {Q:Unit->Shared->Prop} (ho:s.heap.get? it=some o) (hc:o.cls = .type n) (hd:o.data = .fields vs)
  (hn:["enumerate","zip","dict_itemiterator","dict_reverseitemiterator","odict_iterator","itertools.zip_longest","itertools.pairwise"].contains n=false) (hQ:Q () s):wpAny M A (letOwnedTupleGo tg (.ref it) u) Q E s:=by
 unfold letOwnedTupleGo;cases tg <;> first
  | exact xAe hQ
  | (cases u <;> first
    | exact xAe hQ
    | (refine xAd (wpAny_load ho ?_)
       rw [hc,hd];show wpAny M A (if (["enumerate","zip","dict_itemiterator","dict_reverseitemiterator","odict_iterator","itertools.zip_longest","itertools.pairwise"].contains n && vs[0]? == some (rawInt _))=true then _ else _) Q E s;rw [xCf (by intro h;rw [hn,Bool.false_and] at h;cases h)];exact xAe hQ))
noncomputable def Itl (K:xFr) (a:Addr):It :=
 ⟨fun i H=>∃ xs x,SqL K H a xs/\xs[i]?=some x,fun i H x H'=>H'=H/\∀ xs,SqL K H a xs->xs[i]?=some x,fun i H=>∃ xs,SqL K H a xs/\xs.length<=i⟩
noncomputable def Itt (K:xFr) (a:Addr):It :=
 ⟨fun i H=>∃ xs x,SqT K H a xs/\xs[i]?=some x,fun i H x H'=>H'=H/\∀ xs,SqT K H a xs->xs[i]?=some x,fun i H=>∃ xs,SqT K H a xs/\xs.length<=i⟩
noncomputable def Itr (lo:Int) (n:Nat):It:=⟨fun i _=>i<n,fun i H x H'=>H'=H/\x = .int (lo+i),fun i _=>n<=i⟩
theorem lB {P:Program} {w:World} {K:xFr} {tg:Expr} (a it:Addr):Turn P w K tg (Itl K a) [it] it (fun i h=>h.IsListIter it a i) where
 mem:=by simp
 obj:=fun i h st b hb=>by
  have e:b=it:=by simpa using hb
  subst e;obtain ⟨o,e,c,d⟩:=st;exact ⟨o,e,fun v z=>by rw [d] at z;cases z⟩
 keep:=fun i h h' st k=>st.at fun o e=>k it (by simp) o e
 item:=by
  intro X hP hw hK hc i pins s σ H E I hf st hg;subst hP hw hK;obtain ⟨xs,x,hq,hx⟩:=hg;obtain ⟨its,rv,p,hz⟩:=I.list hq;obtain ⟨u,hu,ru⟩:=rv.get hx;obtain ⟨f0,f1,f2,f3,f4,f5⟩:=hf it (by simp);refine wpAny_pyNext_list_item st p.isList (x:=u) (by simpa using hu) fun h' st' sb=>?_;have I1:Inv X pins σ H { s with heap:=h' }:=I.turned (t':=s.toks) (fun b o hb e=>(sb.2 b hb).trans e) f0 f1 f3 f4 f5;obtain ⟨o,e,c,d⟩:=id st';exact ⟨u,rfl,gR (s:={ s with heap:=h' }) e c d (by decide) ⟨x,H,I1,ru,⟨rfl,fun ys hy=>by rw [I.list_inj hy hq];exact hx⟩,st',fun b hb=>(hf b hb).1⟩⟩
 done:=by
  intro X hP hw hK hc i pins s σ H E I hf st hg;subst hP hw hK;obtain ⟨xs,hq,hx⟩:=hg;obtain ⟨its,rv,p,hz⟩:=I.list hq;obtain ⟨f0,f1,f2,f3,f4,f5⟩:=hf it (by simp);have hl:=rv.length;exact wpAny_pyNext_list_end (I.ok.hd hc) st p.isList (by simp;lia) fun h' eb=>⟨rfl,I.turned (t':=s.toks) (fun b o hb e=>eb b o hb e) f0 f1 f3 f4 f5⟩
 self:=fun _ _ _ _ _ st h=>wpAny_pyIter_listiter st h
theorem ju {P:Program} {w:World} {K:xFr} {tg:Expr} (a it:Addr):Turn P w K tg (Itt K a) [it] it (fun i h=>h.IsTupleIter it a i) where
 mem:=by simp
 obj:=fun i h st b hb=>by
  have e:b=it:=by simpa using hb
  subst e;obtain ⟨o,e,c,d⟩:=st;exact ⟨o,e,fun v z=>by rw [d] at z;cases z⟩
 keep:=fun i h h' st k=>st.at fun o e=>k it (by simp) o e
 item:=by
  intro X hP hw hK hc i pins s σ H E I hf st hg;subst hP hw hK;obtain ⟨xs,x,hq,hx⟩:=hg;obtain ⟨its,rv,p,hz⟩:=I.tuple hq;obtain ⟨u,hu,ru⟩:=rv.get hx;obtain ⟨f0,f1,f2,f3,f4,f5⟩:=hf it (by simp);refine wpAny_pyNext_tuple_item st (show s.heap.IsTuple a its.toArray from p) (x:=u) (by simpa using hu) fun h' st' sb=>?_;have I1:Inv X pins σ H { s with heap:=h' }:=I.turned (t':=s.toks) (fun b o hb e=>(sb.2 b hb).trans e) f0 f1 f3 f4 f5;obtain ⟨o,e,c,d⟩:=id st';exact ⟨u,rfl,gR (s:={ s with heap:=h' }) e c d (by decide) ⟨x,H,I1,ru,⟨rfl,fun ys hy=>by rw [I.tuple_inj hy hq];exact hx⟩,st',fun b hb=>(hf b hb).1⟩⟩
 done:=by
  intro X hP hw hK hc i pins s σ H E I hf st hg;subst hP hw hK;obtain ⟨xs,hq,hx⟩:=hg;obtain ⟨its,rv,p,hz⟩:=I.tuple hq;obtain ⟨f0,f1,f2,f3,f4,f5⟩:=hf it (by simp);have hl:=rv.length;exact wpAny_pyNext_tuple_end (I.ok.hd hc) st (show s.heap.IsTuple a its.toArray from p) (by simp;lia) fun h' eb=>⟨rfl,I.turned (t':=s.toks) (fun b o hb e=>eb b o hb e) f0 f1 f3 f4 f5⟩
 self:=fun _ _ _ _ _ st h=>wpAny_pyIter_tupleiter st h
theorem jv {P:Program} {w:World} {K:xFr} {tg:Expr} (it:Addr) (lo:Int) (n:Nat):Turn P w K tg (Itr lo n) [it] it (fun i h=>IsRangeIter h it (lo+(i:Nat) * 1) ((n:Int) - (i:Nat)) 1) where
 mem:=by simp
 obj:=fun i h st b hb=>by
  have e:b=it:=by simpa using hb
  subst e;exact ⟨_,st,fun v z=>by
   have z':Data.fields _=Data.cell v:=z;cases z'⟩
 keep:=fun i h h' st k=>k it (by simp) _ st
 item:=by
  intro X hP hw hK hc i pins s σ H E I hf st hg;subst hP hw hK;obtain ⟨f0,f1,f2,f3,f4,f5⟩:=hf it (by simp);have W:=Walks.range (prog:=X.prog) (w:=X.w) (I.ok.hd hc) it lo 1 n;refine W.item i s _ _ hg st fun v h' tk hv st' kk=>?_;obtain ⟨t,rfl⟩:=hv;have I1:Inv X pins σ H { s with heap:=h',toks:=tk }:=I.turned (fun b o hb e=>kk b o (by simpa using hb) e) f0 f1 f3 f4 f5;refine ⟨_,rfl,gR (s:={ s with heap:=h',toks:=tk }) (n:="range_iterator") st' rfl rfl (by decide) ⟨.int (lo+i),H,I1,⟨t,?_⟩,⟨rfl,rfl⟩,st',fun b hb=>(hf b hb).1⟩⟩;rw [Int.mul_one]
 done:=by
  intro X hP hw hK hc i pins s σ H E I hf st hg;subst hP hw hK;obtain ⟨f0,f1,f2,f3,f4,f5⟩:=hf it (by simp);exact wpAny_pyNext_range_end (I.ok.hd hc) st (by have:n<=i:=hg;lia) fun h' eb=>⟨rfl,I.turned (t':=s.toks) (fun b o hb e=>eb b o hb e) f0 f1 f3 f4 f5⟩
 self:=fun _ _ _ _ _ st h=>wpAny_pyIter_rangeiter st h
end L2
namespace L2
open PySem PySem.Spec PyProof.Rows
section
variable {X:Cx} {tg:Expr}
theorem nt {pins:List (Addr×Obj)} {σ:St} {H:Hp} {s:Shared} {R:It->Hp->Prop} {E:Value->Shared->Prop} {lo hi:Int} {t u v:Tok} {tk:Nat} (I:Inv X pins σ H s) (h1:-(2 ^ 62)<=lo) (h2:lo<2 ^ 62) (h3:-(2 ^ 62)<=hi) (h4:hi<2 ^ 62)
  (q:R (Itr lo (hi - lo).toNat) H):wpAny (model X.prog X.w) X.A (pyIter (.ref s.heap.objs.size)) (PIE X pins σ tg R) E { s with heap:=s.heap.push { cls:=.type "range",data:=.fields #[.int lo t,.int hi u,.int 1 v] },toks:=tk }:=by
 refine wpAny_pyIter_range (IsRange.new ..) (small_one h1 h2 h3 h4) ?_;have I1:Inv X pins σ H { s with heap:=s.heap.push { cls:=.type "range",data:=.fields #[.int lo t,.int hi u,.int 1 v] },toks:=tk }:=I.kept fun b o e=>xAf _ e;refine ⟨(s.heap.push { cls:=.type "range",data:=.fields #[.int lo t,.int hi u,.int 1 v] }).objs.size,[(s.heap.push { cls:=.type "range",data:=.fields #[.int lo t,.int hi u,.int 1 v] }).objs.size],_,_,H,rfl,
  I1.kept (t':=tk) fun b o e=>xAf _ e,jv _ lo (hi - lo).toNat,?_,fun b hb=>?_,q⟩
 ·have e1:lo+((0:Nat):Int) * 1=lo:=by simp
  have e2:(((hi - lo).toNat:Nat):Int) - ((0:Nat):Int)=Builtin.Range.rangeSize lo hi 1:=by rw [rangeSize_one];split <;> lia
  show IsRangeIter _ _ (lo+((0:Nat):Int) * 1) ((((hi - lo).toNat:Nat):Int) - ((0:Nat):Int)) 1;rw [e1,e2];exact xAl _ rfl
 ·have e:b=(s.heap.push { cls:=.type "range",data:=.fields #[.int lo t,.int hi u,.int 1 v] }).objs.size:=by simpa using hb
  subst e;exact I1.fpOk (xAg _) (I1.hok.fresh (xAg _))
noncomputable def iRng1 (ta:TA):TI:=fun σ H R=>ta σ H fun vs H1=>∃ j:Int,vs=[.int j]/\-(2 ^ 62)<=j/\j<2 ^ 62/\R (Itr 0 j.toNat) H1
theorem lK {a:Expr} {ta:TA} {p pos:Pos} (hg:Gl X "range") (hm:X.mg "range"=none) (ha:PA X [a] ta) (hs:starEach [a] X.env=[(false,eval a X.env)]:=by rfl):PI X tg (.Call (.Name "range" p) [a] [] pos) (iRng1 ta):=by
 intro pins s σ H R I h;refine Call_ (fC I hg hm boot_range (PyProof.Rows.callWith_type1 (thn (ha pos pins s σ H _ I h) fun us s1 ⟨vs,H1,I1,r1,q1⟩=>?_) hs rfl));obtain ⟨j,e,q1,q2,q⟩:=q1;subst e;cases r1 with
 | cons r rr =>
  cases rr;obtain ⟨t,rfl⟩:=r;exact call_range_1 (nt I1 (by lia) (by lia) q1 q2 (by simpa using q))
noncomputable def tFor (wi:TI) (g:TG) (tb:TS):TS:=fun D σ H=>wi σ H fun J H1=>∃ W:Nat->Nat->St->Hp->Prop,(∃ m,W 0 m σ H1)/\∀ i m σ H,W i m σ H ->
 (J.stop i H/\D.nx σ H)\/(J.go i H/\∃ N:St->Hp->Prop,(∀ σ' H',N σ' H'->∃ m',m'<m/\W (i+1) m' σ' H')/\∀ x H',J.yld i H x H'->g x σ H' fun σ2 H2=>tb { D with nx:=N,ct:=N,bk:=D.nx } σ2 H2)
noncomputable def pinsAt (fp:List Addr) (h:Heap):List (Addr×Obj):=fp.filterMap fun b=>(h.get? b).map fun o=>(b,o)
theorem eJ {fp:List Addr} {h:Heap} {b:Addr} {o:Obj} (hb:b∈fp) (e:h.get? b=some o):(b,o)∈pinsAt fp h:=List.mem_filterMap.mpr ⟨b,hb,by rw [e];rfl⟩
theorem lQ {fp:List Addr} {h:Heap} {p:Addr×Obj} (hp:p∈pinsAt fp h):p.1∈fp/\h.get? p.1=some p.2:=by
 obtain ⟨b,hb,e⟩:=List.mem_filterMap.mp hp;cases q:h.get? b with
 | none=>rw [q] at e;cases e
 | some o =>
  rw [q] at e;have e':(b,o)=p:=xB3 e;subst e';exact ⟨hb,q⟩
theorem Inv.pinned {pins:List (Addr×Obj)} {σ:St} {H:Hp} {s:Shared} {fp:List Addr} (I:Inv X pins σ H s) (hf:∀ b∈fp,FpOk X pins H b) (ho:∀ b∈fp,∃ o,s.heap.get? b=some o/\∀ v,o.data≠.cell v):Inv X (pins++pinsAt fp s.heap) σ H s :=
 I.pins_of fun p hp=>(xAj.mp hp).elim (fun z=>I.pin p (xBt _ z)) fun z=>by
  obtain ⟨hb,e⟩:=lQ z;obtain ⟨f0,f1,f2,_⟩:=hf p.1 hb;obtain ⟨o,e',d⟩:=ho p.1 hb;rw [e] at e';cases e';exact ⟨e,f0,f1,f2,d⟩
theorem Inv.unpinned {pins pl:List (Addr×Obj)} {σ:St} {H:Hp} {s:Shared} (I:Inv X (pins++pl) σ H s):Inv X pins σ H s:=I.pins_of fun p hp=>I.pin p (xBt _ (List.mem_append_left _ hp))
end
end L2
namespace L2
open PySem PySem.Spec PyProof.Rows
noncomputable abbrev R2:=V->V->Hp->VK->Prop
def OpR (X:Cx) (f:Value->Value->Sem Value) (r:R2):Prop :=
 ∀ (pins:List (Addr×Obj)) (s:Shared) (σ:St) (H:Hp) (x y:V) (v u:Value) (Q:VK),Inv X pins σ H s->RelV x v->RelV y u->r x y H Q ->
  wpAny (model X.prog X.w) X.A (f v u) (EP X pins σ Q) X.xe s
def CallR (X:Cx) (f:Value) (r:List V->Hp->VK->Prop):Prop :=
 ∀ (pins:List (Addr×Obj)) (s:Shared) (σ:St) (H:Hp) (xs:List V) (us:List Value) (Q:VK),Inv X pins σ H s->Vals xs us->r xs H Q ->
  wpAny (model X.prog X.w) X.A (call f us) (EP X pins σ Q) X.xe s
def TruR (X:Cx) (r:V->Hp->(Bool->Hp->Prop)->Prop):Prop :=
 ∀ (pins:List (Addr×Obj)) (s:Shared) (σ:St) (H:Hp) (x:V) (v:Value) (Q:Bool->Hp->Prop),Inv X pins σ H s->RelV x v->r x H Q ->
  wpAny (model X.prog X.w) X.A (truthy v) (TP X pins σ Q) X.xe s
noncomputable def tOp (r:R2) (ta tb:TE):TE:=fun σ H Q=>ta σ H fun x H1=>tb σ H1 fun y H2=>r x y H2 Q
noncomputable def rI (C:Int->Int->Prop) (g:Int->Int->V):R2:=fun x y H Q=>∃ i j,x = .int i/\y = .int j/\C i j/\Q (g i j) H
noncomputable def rI0 (g:Int->Int->V):R2:=fun x y H Q=>∃ i j,x = .int i/\y = .int j/\Q (g i j) H
section
variable {X:Cx} {a b c:Expr} {ta tb tc:TE} {pos:Pos}
theorem binT (ha:PE X a ta) (hb:PE X b tb) {pins:List (Addr×Obj)} {s:Shared} {σ:St} {H:Hp} {R:V->V->Hp->Prop} (I:Inv X pins σ H s)
  (h:ta σ H fun x H1=>tb σ H1 fun y H2=>R x y H2) {Q:Value->Shared->Prop} {f:Value->Value->Sem Value}
  (hf:∀ v u s2 x y H2,Inv X pins σ H2 s2->RelV x v->RelV y u->R x y H2->wpAny (model X.prog X.w) X.A (f v u) Q X.xe s2) :
  wpAny (model X.prog X.w) X.A (eval a X.env) (fun v s₁=>wpAny (model X.prog X.w) X.A (eval b X.env) (fun u s₂=>wpAny (model X.prog X.w) X.A (f v u) Q X.xe s₂) X.xe s₁) X.xe s:=by
 refine thn (ha pins s σ H _ I h) fun v s1 zz=>?_;obtain ⟨x,H1,I1,r1,q1⟩:=zz;refine thn (hb pins s1 σ H1 _ I1 q1) fun u s2 zz=>?_;obtain ⟨y,H2,I2,r2,q2⟩:=zz;exact hf v u s2 x y H2 I2 r1 r2 q2
theorem vP {op:Operator} {r:R2} (ho:OpR X (binaryOp op) r) (ha:PE X a ta) (hb:PE X b tb):PE X (.BinOp a op b pos) (tOp r ta tb):=by
 intro pins s σ H Q I h;exact wpAny_BinOp (binT ha hb I h fun v u s2 x y H2 I2 rx ry q=>ho pins s2 σ H2 x y v u Q I2 rx ry q)
theorem opI {f:Value->Value->Sem Value} {C:Int->Int->Prop} {g:Int->Int->Int}
  (rule:∀ (i j:Int) (t u:Tok) (s:Shared) (Q:Value->Shared->Prop) (E:Value->Shared->Prop),C i j->Q (.int (g i j) s.toks) { s with toks:=s.toks+1 }->wpAny (model X.prog X.w) X.A (f (.int i t) (.int j u)) Q E s) :
  OpR X f (rI C fun i j=>.int (g i j)):=by
 intro pins s σ H x y v u Q I rx ry h;obtain ⟨i,j,rfl,rfl,hc,q⟩:=h;obtain ⟨t,rfl⟩:=rx;obtain ⟨t',rfl⟩:=ry;exact rule i j t t' s _ _ hc ⟨.int (g i j),H,I.tok _,⟨_,rfl⟩,q⟩
theorem opI0 {f:Value->Value->Sem Value} {g:Int->Int->Int}
  (rule:∀ (i j:Int) (t u:Tok) (s:Shared) (Q:Value->Shared->Prop) (E:Value->Shared->Prop),Q (.int (g i j) s.toks) { s with toks:=s.toks+1 }->wpAny (model X.prog X.w) X.A (f (.int i t) (.int j u)) Q E s) :
  OpR X f (rI0 fun i j=>.int (g i j)):=by
 intro pins s σ H x y v u Q I rx ry h;obtain ⟨i,j,rfl,rfl,q⟩:=h;obtain ⟨t,rfl⟩:=rx;obtain ⟨t',rfl⟩:=ry;exact rule i j t t' s _ _ ⟨.int (g i j),H,I.tok _,⟨_,rfl⟩,q⟩
theorem opB0 {f:Value->Value->Sem Value} {g:Int->Int->Bool}
  (rule:∀ (i j:Int) (t u:Tok) (s:Shared) (Q:Value->Shared->Prop) (E:Value->Shared->Prop),Q (.bool (g i j)) s->wpAny (model X.prog X.w) X.A (f (.int i t) (.int j u)) Q E s) :
  OpR X f (rI0 fun i j=>.bl (g i j)):=by
 intro pins s σ H x y v u Q I rx ry h;obtain ⟨i,j,rfl,rfl,q⟩:=h;obtain ⟨t,rfl⟩:=rx;obtain ⟨t',rfl⟩:=ry;exact rule i j t t' s _ _ ⟨.bl (g i j),H,I,rfl,q⟩
def CPow (i j:Int):Prop:=0<=j/\j<=1000000/\i.natAbs<2 ^ 64
theorem ua:OpR X (binaryOp .Add) (rI0 fun i j=>.int (i+j)):=opI0 fun _ _ _ _ _ _ _ q=>add_int q
theorem tU:OpR X (binaryOp .Sub) (rI0 fun i j=>.int (i - j)):=opI0 fun _ _ _ _ _ _ _ q=>sub_int q
theorem tW:OpR X (binaryOp .Mod) (rI (fun _ j=>0<j) fun i j=>.int (i % j)):=opI fun i j _ _ _ _ _ hc q=>by
 have h1:(0:Int)<j:=hc;exact mod_int' (by lia) (by rw [Int.fmod_eq_emod_of_nonneg i (by lia)];exact q)
theorem tV:OpR X (binaryOp .Pow) (rI CPow fun i j=>.int (i ^ j.toNat)):=opI fun _ _ _ _ _ _ _ hc q=>pow_int_small hc.1 hc.2.1 hc.2.2 q
end
noncomputable def scal:V->V->Bool
 | .non,.non=>true | .non,.int _=>true | .int _,.non=>true | .non,.bl _=>true | .bl _,.non=>true | .non,.str _=>true | .str _,.non=>true
 | .int _,.int _=>true | .bl _,.bl _=>true | .str _,.str _=>true | .byt _,.byt _=>true
 | .int _,.str _=>true | .str _,.int _=>true | .bl _,.str _=>true | .str _,.bl _=>true
 | _,_=>false
noncomputable def rEq:R2:=fun x y H Q=>scal x y=true/\Q (.bl (decide (x=y))) H
noncomputable def rNe:R2:=fun x y H Q=>scal x y=true/\Q (.bl (!decide (x=y))) H
theorem kZ {i j:Int}:decide (V.int i=V.int j)=(i == j):=by
 rw [Bool.eq_iff_iff];simp
theorem o0 {i j:Bool}:decide (V.bl i=V.bl j)=(i == j):=by
 rw [Bool.eq_iff_iff];simp
theorem kY {i j:Str}:decide (V.str i=V.str j)=(i == j):=by
 rw [Bool.eq_iff_iff];simp
theorem k6 {i j:Array UInt8}:decide (V.byt i=V.byt j)=(i.toList == j.toList):=by
 rw [Bool.eq_iff_iff];cases i;cases j;simp
section
variable {X:Cx} {a b c:Expr} {ta tb tc:TE} {pos:Pos}
theorem dj {pins:List (Addr×Obj)} {σ:St} {H:Hp} {s:Shared} {Q:VK} {k k':Bool} (I:Inv X pins σ H s) (q:Q (.bl k) H) (e:k=k'):EP X pins σ Q (.bool k') s:=by
 subst e;exact ⟨.bl k,H,I,rfl,q⟩
theorem wg:OpR X (compareOp .Eq) rEq:=by
 intro pins s σ H x y v u Q I rx ry h;obtain ⟨hs,q⟩:=h;cases x with
 | non =>
  cases rx;cases y with
  | non=>cases ry;exact PySem.EqNone.eq_none_none (dj I q (by simp))
  | bl j=>cases ry;exact PySem.EqNone.eq_none_bool (dj I q (by simp))
  | int j=>obtain ⟨t',rfl⟩:=ry;exact PySem.EqNone.eq_none_int (dj I q (by simp))
  | str j=>obtain ⟨t',rfl⟩:=ry;exact PySem.EqNone.eq_none_str (dj I q (by simp))
  | _=>exact absurd (show false=true from hs) xAy
 | bl i =>
  cases rx;cases y with
  | non=>cases ry;exact PySem.EqNone.eq_bool_none (dj I q (by simp))
  | bl j=>cases ry;exact eq_bool (dj I q o0)
  | str j=>obtain ⟨t',rfl⟩:=ry;exact PySem.EqMixed.eq_bool_str (dj I q (by simp))
  | _=>exact absurd (show false=true from hs) xAy
 | int i =>
  obtain ⟨t,rfl⟩:=rx;cases y with
  | non=>cases ry;exact PySem.EqNone.eq_int_none (dj I q (by simp))
  | int j=>obtain ⟨t',rfl⟩:=ry;exact eq_int (dj I q kZ)
  | str j=>obtain ⟨t',rfl⟩:=ry;exact PySem.EqMixed.eq_int_str (dj I q (by simp))
  | _=>exact absurd (show false=true from hs) xAy
 | str i =>
  obtain ⟨t,rfl⟩:=rx;cases y with
  | non=>cases ry;exact PySem.EqNone.eq_str_none (dj I q (by simp))
  | bl j=>cases ry;exact PySem.EqMixed.eq_str_bool (dj I q (by simp))
  | int j=>obtain ⟨t',rfl⟩:=ry;exact PySem.EqMixed.eq_str_int (dj I q (by simp))
  | str j=>obtain ⟨t',rfl⟩:=ry;exact eq_str (dj I q kY)
  | _=>exact absurd (show false=true from hs) xAy
 | byt i =>
  obtain ⟨t,rfl⟩:=rx;cases y with
  | byt j=>obtain ⟨t',rfl⟩:=ry;exact W.eq_bytes (dj I q k6)
  | _=>exact absurd (show false=true from hs) xAy
 | _=>cases y <;> exact absurd (show false=true from hs) xAy
theorem wf:OpR X (compareOp .NotEq) rNe:=by
 intro pins s σ H x y v u Q I rx ry h;obtain ⟨hs,q⟩:=h;cases x with
 | non =>
  cases rx;cases y with
  | non=>cases ry;exact PySem.EqNone.ne_none_none (dj I q (by simp))
  | bl j=>cases ry;exact PySem.EqNone.ne_none_bool (dj I q (by simp))
  | int j=>obtain ⟨t',rfl⟩:=ry;exact PySem.EqNone.ne_none_int (dj I q (by simp))
  | str j=>obtain ⟨t',rfl⟩:=ry;exact PySem.EqNone.ne_none_str (dj I q (by simp))
  | _=>exact absurd (show false=true from hs) xAy
 | bl i =>
  cases rx;cases y with
  | non=>cases ry;exact PySem.EqNone.ne_bool_none (dj I q (by simp))
  | bl j=>cases ry;exact ne_bool (dj I q (congrArg not o0))
  | str j=>obtain ⟨t',rfl⟩:=ry;exact PySem.EqMixed.ne_bool_str (dj I q (by simp))
  | _=>exact absurd (show false=true from hs) xAy
 | int i =>
  obtain ⟨t,rfl⟩:=rx;cases y with
  | non=>cases ry;exact PySem.EqNone.ne_int_none (dj I q (by simp))
  | int j=>obtain ⟨t',rfl⟩:=ry;exact ne_int (dj I q (congrArg not kZ))
  | str j=>obtain ⟨t',rfl⟩:=ry;exact PySem.EqMixed.ne_int_str (dj I q (by simp))
  | _=>exact absurd (show false=true from hs) xAy
 | str i =>
  obtain ⟨t,rfl⟩:=rx;cases y with
  | non=>cases ry;exact PySem.EqNone.ne_str_none (dj I q (by simp))
  | bl j=>cases ry;exact PySem.EqMixed.ne_str_bool (dj I q (by simp))
  | int j=>obtain ⟨t',rfl⟩:=ry;exact PySem.EqMixed.ne_str_int (dj I q (by simp))
  | str j=>obtain ⟨t',rfl⟩:=ry;exact ne_str (dj I q (congrArg not kY))
  | _=>exact absurd (show false=true from hs) xAy
 | byt i =>
  obtain ⟨t,rfl⟩:=rx;cases y with
  | byt j=>obtain ⟨t',rfl⟩:=ry;exact W.ne_bytes (dj I q (congrArg not k6))
  | _=>exact absurd (show false=true from hs) xAy
 | _=>cases y <;> exact absurd (show false=true from hs) xAy
theorem rK:OpR X (compareOp .Lt) (rI0 fun i j=>.bl (decide (i<j))):=opB0 fun _ _ _ _ _ _ _ q=>lt_int q
theorem rL:OpR X (compareOp .LtE) (rI0 fun i j=>.bl (decide (i<=j))):=opB0 fun _ _ _ _ _ _ _ q=>le_int q
theorem rM:OpR X (compareOp .Gt) (rI0 fun i j=>.bl (decide (j<i))):=opB0 fun _ _ _ _ _ _ _ q=>gt_int q
theorem rN:OpR X (compareOp .GtE) (rI0 fun i j=>.bl (decide (j<=i))):=opB0 fun _ _ _ _ _ _ _ q=>ge_int q
theorem lO:OpR X (compareOp .In) (fun x y H Q=>∃ i j,x = .str i/\y = .str j/\Q (.bl (!(Builtin.Str.occurrences j i 0 j.length 1).isEmpty)) H):=by
 intro pins s σ H x y v u Q I rx ry h;obtain ⟨i,j,rfl,rfl,q⟩:=h;obtain ⟨t,rfl⟩:=rx;obtain ⟨t',rfl⟩:=ry;exact in_str (dj I q rfl)
theorem tX:OpR X (compareOp .Is) (fun x y H Q=>y = .non/\Q (.bl (decide (x = .non))) H):=by
 intro pins s σ H x y v u Q I rx ry h;obtain ⟨rfl,q⟩:=h;cases ry;refine is_none_gen (dj I q ?_);cases x <;> first
  | (cases rx;rfl)
  | (obtain ⟨t,rfl⟩:=rx;rfl)
theorem qt:OpR X (compareOp .IsNot) (fun x y H Q=>y = .non/\Q (.bl (!decide (x = .non))) H):=by
 intro pins s σ H x y v u Q I rx ry h;obtain ⟨rfl,q⟩:=h;cases ry;refine isnot_none_gen (dj I q ?_);cases x <;> first
  | (cases rx;rfl)
  | (obtain ⟨t,rfl⟩:=rx;rfl)
theorem hX:OpR X (compareOp .NotIn) (fun x y H Q=>∃ i j,x = .str i/\y = .str j/\Q (.bl (!(!(Builtin.Str.occurrences j i 0 j.length 1).isEmpty))) H):=by
 intro pins s σ H x y v u Q I rx ry h;obtain ⟨i,j,rfl,rfl,q⟩:=h;obtain ⟨t,rfl⟩:=rx;obtain ⟨t',rfl⟩:=ry;exact notIn_str (dj I q rfl)
theorem kE {op:CmpOp} {r:R2} (ho:OpR X (compareOp op) r) (ha:PE X a ta) (hb:PE X b tb) (hm:behindInMarks op b=false):PE X (.Compare a [op] [b] pos) (tOp r ta tb):=by
 intro pins s σ H Q I h;exact wpAny_Compare1 (binT ha hb I h fun v u s2 x y H2 I2 rx ry q=>ho pins s2 σ H2 x y v u Q I2 rx ry q) hm
noncomputable def tTest (t:TE):TT:=fun σ H Q=>t σ H fun x H'=>∃ k,x = .bl k/\Q k H'
theorem kr {op:CmpOp} {r:R2} (ho:OpR X (compareOp op) r) (ha:PE X a ta) (hb:PE X b tb) (hm:behindInMarks op b=false):PT X (.Compare a [op] [b] pos) (tTest (tOp r ta tb)):=by
 intro pins s σ H Q I h;refine wpAny_isTrue_Compare1 (thn (ha pins s σ H _ I h) fun v s1 ⟨x,H1,I1,r1,q1⟩=>thn (hb pins s1 σ H1 _ I1 q1) fun u s2 ⟨y,H2,I2,r2,q2⟩ =>
  thn (ho pins s2 σ H2 x y v u _ I2 r1 r2 q2) fun c s3 ⟨z,H3,I3,r3,k,e,q3⟩=>?_) hm
 subst e;cases r3;exact wpAny_truthy_bool ⟨H3,I3,q3⟩
noncomputable def tChain (r r':R2) (ta tb tc:TE):TE:=fun σ H Q=>ta σ H fun x H1=>tb σ H1 fun y H2=>r x y H2 fun z H3=>∃ k,z = .bl k /\
 (if k=true then tc σ H3 fun w' H4=>r' y w' H4 Q else Q (.bl false) H3)
theorem nT {op op':CmpOp} {r r':R2} (ho:OpR X (compareOp op) r) (ho':OpR X (compareOp op') r') (ha:PE X a ta) (hb:PE X b tb) (hc:PE X c tc)
  (hm:lastMarks [op,op'] [b,c]=false:=by with_unfolding_all rfl):PE X (.Compare a [op,op'] [b,c] pos) (tChain r r' ta tb tc):=by
 intro pins s σ H Q I h;refine Compare_chain (thn (ha pins s σ H _ I h) fun v s1 ⟨x,H1,I1,r1,q1⟩=>chain_link (thn (hb pins s1 σ H1 _ I1 q1) fun u s2 ⟨y,H2,I2,r2,q2⟩ =>
  thn (ho pins s2 σ H2 x y v u _ I2 r1 r2 q2) fun d s3 ⟨z,H3,I3,r3,k,e,q3⟩=>?_)) hm
 subst e;cases r3;refine wpAny_truthy_bool ?_;cases k with
 | false=>exact ite_ff ⟨.bl false,H3,I3,rfl,q3⟩
 | true=>exact ite_tt (chain_last (thn (hc pins s3 σ H3 _ I3 q3) fun w' s4 ⟨z',H4,I4,r4,q4⟩=>ho' pins s4 σ H4 y z' u w' Q I4 r2 r4 q4))
theorem nz {op op':CmpOp} {r r':R2} (ho:OpR X (compareOp op) r) (ho':OpR X (compareOp op') r') (ha:PE X a ta) (hb:PE X b tb) (hc:PE X c tc)
  (hm:lastMarks [op,op'] [b,c]=false:=by with_unfolding_all rfl):PT X (.Compare a [op,op'] [b,c] pos) (tTest (tChain r r' ta tb tc)):=by
 intro pins s σ H Q I h;refine isTrue_chain (thn (ha pins s σ H _ I h) fun v s1 ⟨x,H1,I1,r1,q1⟩=>test_link (thn (hb pins s1 σ H1 _ I1 q1) fun u s2 ⟨y,H2,I2,r2,q2⟩ =>
  thn (ho pins s2 σ H2 x y v u _ I2 r1 r2 q2) fun d s3 ⟨z,H3,I3,r3,k,e,q3⟩=>?_)) hm
 subst e;cases r3;refine wpAny_truthy_bool ?_;cases k with
 | false =>
  obtain ⟨k',e',q'⟩:=q3;cases e';exact ite_ff ⟨H3,I3,q'⟩
 | true =>
  refine ite_tt (test_last (thn (hc pins s3 σ H3 _ I3 q3) fun w' s4 ⟨z',H4,I4,r4,q4⟩=>thn (ho' pins s4 σ H4 y z' u w' _ I4 r2 r4 q4) fun d' s5 zz=>?_));obtain ⟨z2,H5,I5,r5,k2,e2,q5⟩:=zz;subst e2;cases r5;exact wpAny_truthy_bool ⟨H5,I5,q5⟩
def TruV (K:xFr) (x:V) (H:Hp) (k:Bool):Prop :=
 match x with
 | .non=>k=false
 | .bl b=>k=b
 | .int i=>k=(i != 0)
 | .str y=>y.length<=sizeLine/\k=((y.length:Int) != 0)
 | .byt y=>y.size<=sizeLine/\k=((y.size:Int) != 0)
 | .ref p=>(∃ xs,SqL K H p xs/\k=!xs.isEmpty)\/(∃ xs,SqT K H p xs/\k=!xs.isEmpty)\/∃ kvs,H p=some (.dK kvs)/\k=!kvs.isEmpty
 | _=>False
theorem jN {κ:Type} {kvs:List (κ×V)} {vs:List (κ×Value)} (r:KV kvs vs):(!vs.isEmpty)=!kvs.isEmpty:=by
 cases r <;> rfl
theorem gn {xs:List V} {its:List Value} (r:Vals xs its):(!its.toArray.isEmpty)=!xs.isEmpty:=by
 cases r <;> simp
theorem line63:(sizeLine:Nat)<2 ^ 63:=by rw [sizeLine_eq];decide
theorem sk:TruR X (fun x H Q=>∃ k,TruV X.K x H k/\Q k H):=by
 intro pins s σ H x v Q I rx h;obtain ⟨k,e,q⟩:=h;have hl:=line63;have hs:sizeLine=16777216:=sizeLine_eq;cases x with
 | non =>
  cases rx;have e':k=false:=e;subst e';exact truthy_none ⟨H,I,q⟩
 | bl b =>
  cases rx;have e':k=b:=e;subst e';exact wpAny_truthy_bool ⟨H,I,q⟩
 | int i =>
  obtain ⟨t,rfl⟩:=rx;have e':k=(i != 0):=e;subst e';exact PySem.P.truthy_int ⟨H,I,q⟩
 | str y =>
  obtain ⟨t,rfl⟩:=rx;obtain ⟨hy,e'⟩:y.length<=sizeLine/\k=((y.length:Int) != 0):=e;subst e';exact PySem.P.truthy_str (by lia) ⟨H,I.tok _,q⟩
 | byt y =>
  obtain ⟨t,rfl⟩:=rx;obtain ⟨hy,e'⟩:y.size<=sizeLine/\k=((y.size:Int) != 0):=e;subst e';exact W.truthy_bytes (by lia) ⟨H,I.tok _,q⟩
 | ref p =>
  cases rx;have e':(∃ xs,SqL X.K H p xs/\k=!xs.isEmpty)\/(∃ xs,SqT X.K H p xs/\k=!xs.isEmpty)\/∃ kvs,H p=some (.dK kvs)/\k=!kvs.isEmpty:=e;rcases e' with ⟨xs,hx,e'⟩ | ⟨xs,hx,e'⟩ | ⟨kvs,hx,e'⟩
  ·subst e';obtain ⟨its,r,pl,hz⟩:=I.list hx;have hlen:=r.length;exact wpAny_truthy_list pl.isList (by simp only [xAp];lia) ⟨H,I.tok _,by rw [gn r];exact q⟩
  ·subst e';obtain ⟨its,r,pl,hz⟩:=I.tuple hx;have hlen:=r.length;exact truthy_tuple pl (by simp only [xAp];lia) ⟨H,I.tok _,by rw [gn r];exact q⟩
  ·subst e';obtain ⟨hz,hS,vs,r,m⟩:kvs.length<=sizeLine/\(p == sysModules)=false/\∃ vs,KV kvs vs/\s.heap.DictOf (mixKind X.prog X.w) p vs:=I.hok p _ hx;have hlen:kvs.length=vs.length:=Paired.length r;exact wpAny_truthy_dict hS m (by lia) ⟨H,I.tok _,by rw [jN r];exact q⟩
 | _=>exact (show False from e).elim
theorem ny (ha:PE X a ta) (he:∀ whole,isTrue a X.env whole=(do let v <- whole;standAt a.pos;holding [v] (truthy v))) :
  PT X a (fun σ H Q=>ta σ H fun x H'=>∃ k,TruV X.K x H' k/\Q k H'):=by
 intro pins s σ H Q I h;exact isTrue_plain (thn (ha pins s σ H _ I h) fun v s1 ⟨x,H1,I1,r1,q1⟩=>sk pins s1 σ H1 x v Q I1 r1 q1) (he _)
theorem jG:OpR X (binaryOp .Add) (fun x y H Q=>∃ i j,x = .str i/\y = .str j/\i.length+j.length<=sizeLine/\Q (.str (i++j)) H):=by
 intro pins s σ H x y v u Q I rx ry h;obtain ⟨i,j,rfl,rfl,hz,q⟩:=h;obtain ⟨t,rfl⟩:=rx;obtain ⟨t',rfl⟩:=ry;exact add_str (fun t' tk=>⟨.str (i++j),H,I.tok _,⟨_,rfl⟩,q⟩) hz
theorem vals1 {x:V} {us:List Value} (r:Vals [x] us):∃ u,us=[u]/\RelV x u:=by
 cases r with
 | cons r1 r2=>cases r2;exact ⟨_,rfl,r1⟩
theorem vals2 {x y:V} {us:List Value} (r:Vals [x,y] us):∃ u w',us=[u,w']/\RelV x u/\RelV y w':=by
 cases r with
 | cons r1 r2 =>
  cases r2 with
  | cons r3 r4=>cases r4;exact ⟨_,_,rfl,r1,r3⟩
theorem pz:CallR X (.builtin "abs") (fun xs H Q=>∃ i,xs=[.int i]/\Q (.int (if i<0 then -i else i)) H):=by
 intro pins s σ H xs us Q I r h;obtain ⟨i,rfl,q⟩:=h;obtain ⟨u,rfl,t,rfl⟩:=vals1 r;exact call_abs_int fun u tk=>⟨.int (if i<0 then -i else i),H,I.tok _,⟨_,rfl⟩,q⟩
theorem mq (hc:X.calm=true):CallR X (.builtin "max") (fun xs H Q=>∃ i j,xs=[.int i,.int j]/\Q (.int (if j > i then j else i)) H):=by
 intro pins s σ H xs us Q I r h;obtain ⟨i,j,rfl,q⟩:=h;obtain ⟨u,w',rfl,⟨t,rfl⟩,⟨t',rfl⟩⟩:=vals2 r;refine max_two_ints (I.ok.hd hc) fun h' tk k=>⟨_,H,I.kept k,?_,q⟩
 by_cases hj:j > i
 ·rw [xCg hj,xCg hj];exact ⟨_,rfl⟩
 ·rw [xCf hj,xCf hj];exact ⟨_,rfl⟩
theorem mz:CallR X (.type "int") (fun xs H Q=>(∃ i,xs=[.int i]/\Q (.int i) H)\/∃ k,xs=[.bl k]/\Q (.int (if k then 1 else 0)) H):=by
 intro pins s σ H xs us Q I r h;rcases h with ⟨i,rfl,q⟩ | ⟨k,rfl,q⟩
 ·obtain ⟨u,rfl,t,rfl⟩:=vals1 r;exact call_int_int ⟨.int i,H,I,⟨_,rfl⟩,q⟩
 ·obtain ⟨u,rfl,r1⟩:=vals1 r;cases r1;exact call_int_bool ⟨.int (if k then 1 else 0),H,I.tok _,⟨_,rfl⟩,q⟩
def LenV (K:xFr) (x:V) (H:Hp) (n:Nat):Prop :=
 match x with
 | .str y=>y.length<=sizeLine/\n=y.length
 | .byt y=>y.size<=sizeLine/\n=y.size
 | .ref p=>(∃ xs,SqL K H p xs/\n=xs.length)\/∃ xs,SqT K H p xs/\n=xs.length
 | _=>False
theorem pw:CallR X (.builtin "len") (fun xs H Q=>∃ x n,xs=[x]/\LenV X.K x H n/\Q (.int n) H):=by
 intro pins s σ H xs us Q I r h;obtain ⟨x,n,rfl,e,q⟩:=h;obtain ⟨u,rfl,rx⟩:=vals1 r;have hl:=line63;have hs:sizeLine=16777216:=sizeLine_eq;cases x with
 | str y =>
  obtain ⟨t,rfl⟩:=rx;obtain ⟨hy,e'⟩:y.length<=sizeLine/\n=y.length:=e;subst e';exact len_str (by lia) ⟨.int _,H,I.tok _,⟨_,rfl⟩,q⟩
 | byt y =>
  obtain ⟨t,rfl⟩:=rx;obtain ⟨hy,e'⟩:y.size<=sizeLine/\n=y.size:=e;subst e';exact W.len_bytes (by lia) ⟨.int _,H,I.tok _,⟨_,rfl⟩,q⟩
 | ref p =>
  cases rx;have e':(∃ xs,SqL X.K H p xs/\n=xs.length)\/∃ xs,SqT X.K H p xs/\n=xs.length:=e;rcases e' with ⟨xs,hx,e'⟩ | ⟨xs,hx,e'⟩
  ·subst e';obtain ⟨its,r',pl,hz⟩:=I.list hx;have hlen:=r'.length;exact Calls.call_len_list pl.isList (by simp only [xAp];lia) ⟨.int xs.length,H,I.tok _,⟨_,by simp only [xAp];rw [hlen]⟩,q⟩
  ·subst e';obtain ⟨its,r',pl,hz⟩:=I.tuple hx;have hlen:=r'.length;exact len_tuple pl (by simp only [xAp];lia) ⟨.int xs.length,H,I.tok _,⟨_,by simp only [xAp];rw [hlen]⟩,q⟩
 | _=>exact (show False from e).elim
end
end L2
namespace L2
open PySem PySem.Spec PyProof.Rows
structure ObjM (h:Heap) (x dx C:Addr) (mA:Str->Option Value):Prop where
 obj:h.get? x=some (W.instObj C dx)
 ns:h.Ns1 dx mA
 ne:dx≠x
theorem lU {h:Heap} {dx:Addr} {mA:Str->Option Value} (n:h.Ns1 dx mA):∃ od,h.get? dx=some od/\∀ name,W.lookIn name od=some (mA name):=by
 obtain ⟨o,es,ep,ho,hd,hk,_,hm⟩:=n;refine ⟨o,ho,fun name=>?_⟩;have e:=hm name;unfold nsFind findBy at e;rw [<- Array.find?_toList] at e;unfold W.lookIn;rw [hd];dsimp only;split
 ·rename_i y q
  rw [q] at e;exact congrArg some e
 ·rename_i q
  rw [q] at e;have a:es.toList.any (·.refKey)=false:=by
   rw [List.any_eq_false];intro y hy;obtain ⟨z,t,hkey⟩:=hk y (Array.mem_toList_iff.mp hy);simp [DictEntry.refKey,hkey]
  have a':¬ es.toList.any (·.refKey)=true:=by rw [a];exact xAy
  rw [xCf a'];exact congrArg some e
theorem ObjM.look {h:Heap} {x dx C:Addr} {mA:Str->Option Value} (I:ObjM h x dx C mA):∃ od,PySem.W.InstAt h x (W.instObj C dx) C (some od)/\∀ name,W.lookIn name od=some (mA name) :=
 let ⟨od,ho,hl⟩:=lU I.ns
 ⟨od,⟨I.obj,rfl,rfl,ho⟩,hl⟩
section
variable {prog:Program} {w:World} {A:Around} {E:Value->Shared->Prop} {s:Shared} {K:xFr} {x dx C f:Addr} {mA:Str->Option Value} {name:Str} {v:Value}
theorem qI {expr:Bool} {Q:Value->Shared->Prop} (X:K.In s.heap) (I:ObjM s.heap x dx C mA) (hg:W.plainGet K C name=true) (hh:W.hasDictIn K C=true)
  (ha:W.findIn K (.ref C) name=some none) (hv:mA name=some v) (hv':W.handedIn v=true) (h:Q v { s with toks:=s.toks+1 }) :
  wpAny (model prog w) A (getAttr (.ref x) name expr) Q E s:=by
 obtain ⟨od,J,hl⟩:=I.look;exact W.get_value X J (W.plainGet_of hg).1 (W.findObj_own hh ha rfl (by rw [hl,hv])) hv' h
theorem oH {pl:Sem Bool} {Q:Value×List Value->Shared->Prop} (X:K.In s.heap) (I:ObjM s.heap x dx C mA) (hg:W.plainGet K C name=true)
  (hf:W.findIn K (.ref C) name=some (some (.ref f))) (ht:W.isFn K (.ref f)=true) (hv:mA name=none) (h:Q (.ref f,[.ref x]) s) :
  wpAny (model prog w) A (getMethod (.ref x) name pl) Q E s:=by
 obtain ⟨od,J,hl⟩:=I.look;exact W.method_fn X J (W.plainGet_of hg).1 (W.plainGet_of hg).2 hf (beq_iff_eq.mp ht) (by show (W.lookIn name od).map (·.isSome)=some false;rw [hl,hv];rfl) h
theorem pO {ns:List Str} {Q:Unit->Shared->Prop} (X:K.In s.heap) (I:ObjM s.heap x dx C mA)
  (hs:W.findIn K (.ref C) "__setattr__"=some (some (.builtin "object.__setattr__"))) (hp:W.plainOver K C=true) (ht:W.takerIn K C name=some none) (hh:W.hasDictIn K C=true)
  (hw:PySem.Within mA ns) (hsz:ns.length<=sizeLine)
  (h:∀ h',ObjM h' x dx C (fun y=>if y=name then some v else mA y)->Heap.SameBut dx s.heap h'->Q () { s with heap:=h',toks:=s.toks+2 }) :
  wpAny (model prog w) A (setAttr (.ref x) name v) Q E s:=by
 obtain ⟨od,J,hl⟩:=I.look;refine W.set_plain X J hs (W.osa_open (s:={ s with toks:=s.toks+1 }) (r:=none) X J hp ht fun b=>?_);obtain ⟨cd,hc,hd'⟩:=W.any_some hh;have hx:s.heap.get? x=some ⟨.ref C,some dx,.plain,#[]⟩:=I.obj;refine xAd (xAe (xAd (xAd (wpAny_loadPart hx (xAd (PySem.W.Looks.here (s:={ s with toks:=s.toks+1 }) (W.looks_clsIn X hc) ?_))))));rw [hd'];refine xAe (a:=some dx) (xAd (xAe (xAd ?_)));refine wpAny_nsSet1 (s:={ s with toks:=s.toks+1 }) I.ns fun h' hn2 hs2=>?_;obtain ⟨oD,esD,epD,hoD,hdD,hcD⟩:=hn2.count (PySem.Within.cons name v hw);refine xAd (wpAny_lookBehind hoD (by rw [hdD];exact pastItsLine_dict (Nat.le_trans hcD (by rw [xAo];lia))) ?_);exact xAe (h _ ⟨(hs2.2 _ (Ne.symm I.ne)).trans I.obj,hn2,I.ne⟩ hs2)
theorem oq {R:Result->Shared->Prop} {vs:List Value} {kw:List (Str×Value)} (X:K.In s.heap) (hm:W.makesIn K C=true)
  (hi:W.findIn K (.ref C) "__init__"=some (some (.ref f))) (hf:W.typeIn K (.ref f)=some (.type "function"))
  (h:codeAny (model prog w) (A.under (.builtin "type.__call__" ⟨.ref C::vs,kw⟩)) (.call (.ref f) ⟨.ref (s.heap.objs.size+1)::vs,kw⟩) (PySem.W.InitBack (s.heap.objs.size+1) R)
   { s with heap:=(s.heap.push W.emptyDict).push (W.instObj C s.heap.objs.size) }) :
  codeAny (model prog w) A (.call (.ref C) ⟨vs,kw⟩) R s:=by
 obtain ⟨hh,g,d,t,os⟩:=s;exact W.make_core (W.makes_of X hm) (W.looks_findIn X hi) (fun self=>W.bind_fn X self hf) (.inl rfl) h
end
noncomputable def putF (f:Str) (v:V):List (Str×V)->List (Str×V)
 | []=>[(f,v)]
 | (g,x)::r=>if g=f then (g,v)::r else (g,x)::putF f v r
theorem fJ (f g:Str) (v:V):∀ fs:List (Str×V),(putF f v fs).lookup g=if g=f then some v else fs.lookup g
 | []=>by
  show List.lookup g [(f,v)]=_;by_cases h:g=f
  ·have hb:(g == f)=true:=beq_iff_eq.mpr h;simp only [List.lookup,hb,xCg h]
  ·have hb:(g == f)=false:=beq_eq_false_iff_ne.mpr h;simp only [List.lookup,hb,xCf h]
 | (k,x)::r=>by
  have ih:=fJ f g v r;rw [show putF f v ((k,x)::r)=(if k=f then (k,v)::r else (k,x)::putF f v r) from rfl];by_cases hk:k=f
  ·rw [xCg hk];by_cases h:g=k
   ·have hb:(g == k)=true:=beq_iff_eq.mpr h;simp only [List.lookup,hb,xCg (h.trans hk)]
   ·have hb:(g == k)=false:=beq_eq_false_iff_ne.mpr h;simp only [List.lookup,hb,xCf (fun e:g=f=>h (e.trans hk.symm))]
  ·rw [xCf hk];by_cases h:g=k
   ·have hb:(g == k)=true:=beq_iff_eq.mpr h;simp only [List.lookup,hb,xCf (fun e:g=f=>hk (h.symm.trans e))]
   ·have hb:(g == k)=false:=beq_eq_false_iff_ne.mpr h;simp only [List.lookup,hb];exact ih
theorem fD (f:Str) (v:V):∀ fs:List (Str×V),f∈(putF f v fs).map (·.1)/\∀ g,g∈fs.map (·.1)->g∈(putF f v fs).map (·.1)
 | []=>⟨by simp [putF],fun g h=>by simp at h⟩
 | (k,x)::r=>by
  obtain ⟨i1,i2⟩:=fD f v r;rw [show putF f v ((k,x)::r)=(if k=f then (k,v)::r else (k,x)::putF f v r) from rfl];by_cases hk:k=f
  ·rw [xCg hk];subst hk;exact ⟨by simp,fun g h=>by simpa using h⟩
  ·rw [xCf hk];refine ⟨?_,fun g h=>?_⟩
   ·rw [xBs];exact xAs _ i1
   ·rw [xBs] at h ⊢;rcases xAv.mp h with e | e
    ·exact xAv.mpr (.inl e)
    ·exact xAs _ (i2 g e)
theorem fK (f:Str) (v:V):∀ fs:List (Str×V),(putF f v fs).length<=fs.length+1
 | []=>by simp [putF]
 | (k,x)::r=>by
  have ih:=fK f v r;rw [show putF f v ((k,x)::r)=(if k=f then (k,v)::r else (k,x)::putF f v r) from rfl];by_cases hk:k=f
  ·rw [xCg hk,xAo,xAo];lia
  ·rw [xCf hk,xAo,xAo];lia
theorem RelO.some_of {v:V} {o:Option Value} (r:RelO (some v) o):∃ u,o=some u/\RelV v u:=by
 cases o with
 | none=>exact (show False from r).elim
 | some u=>exact ⟨u,rfl,r⟩
theorem RelO.none_of {o:Option Value} (r:RelO none o):o=none:=by
 cases o with
 | none=>rfl
 | some u=>exact (show False from r).elim
theorem lZ {v:V} {u:Value} (r:RelV v u):W.handedIn u=true:=by
 cases v with
 | non=>cases (show u=Value.none from r);rfl
 | bl b=>cases (show u=Value.bool b from r);rfl
 | int i=>obtain ⟨t,e⟩:=(show ∃ t,u=Value.int i t from r);cases e;rfl
 | str x=>obtain ⟨t,e⟩:=(show ∃ t,u=Value.str x t from r);cases e;rfl
 | byt b=>obtain ⟨t,e⟩:=(show ∃ t,u=Value.bytes b t from r);cases e;rfl
 | flt b=>obtain ⟨t,e⟩:=(show ∃ t,u=Value.float b t from r);cases e;rfl
 | ref a=>cases (show u=Value.ref a from r);rfl
 | ty n=>cases (show u=Value.type n from r);rfl
section
variable {P:Program} {w:World} {H H':Hp} {h h':Heap} {a C dx:Addr} {fs fs':List (Str×V)}
theorem fY (hok:HOk P w H h) (e:H a=some (.ins C dx fs)):∃ mA,ObjM h a dx C mA/\(∀ f,RelO (fs.lookup f) (mA f))/\PySem.Within mA (fs.map (·.1))/\fs.length<=1000/\H dx=some (.own a):=by
 obtain ⟨d,z,ne,ob,mA,n,r,q⟩:=(show ObjOk P w H h a (.ins C dx fs) from hok a _ e)
 exact ⟨mA,⟨ob,n,ne⟩,r,q,z,d⟩
end
structure Cls (K:xFr) (C:Addr):Prop where
 pg:W.plainGet K C Str.empty=true
 hd:W.hasDictIn K C=true
 po:W.plainOver K C=true
 sa:W.findIn K (.ref C) "__setattr__"=some (some (.builtin "object.__setattr__"))
theorem Cls.get {K:xFr} {C:Addr} (c:Cls K C) (f:Str):W.plainGet K C f=true:=c.pg
def NoAttr (K:xFr) (C:Addr) (f:Str):Prop:=W.findIn K (.ref C) f=some none
theorem NoAttr.taker {K:xFr} {C:Addr} {f:Str} (n:NoAttr K C f):W.takerIn K C f=some none:=by
 unfold W.takerIn;rw [show W.findIn K (.ref C) f=some none from n];rfl
structure Meth (K:xFr) (C:Addr) (m:Str) (f:Addr):Prop where
 at_:W.findIn K (.ref C) m=some (some (.ref f))
 fn:W.isFn K (.ref f)=true
 kp:W.keepIn K (.ref f)=true
section
variable {X:Cx} {pins:List (Addr×Obj)} {σ:St} {H:Hp} {s:Shared} {a C dx:Addr} {fs:List (Str×V)} {f:Str} {v:V} {A:Around} {E:Value->Shared->Prop}
theorem jP {b:Bool} {Q:Value->Shared->Prop} (I:Inv X pins σ H s) (e:H a=some (.ins C dx fs)) (c:Cls X.K C) (n:NoAttr X.K C f) (l:fs.lookup f=some v)
  (h:∀ u s',Inv X pins σ H s'->RelV v u->Q u s'):wpAny (model X.prog X.w) A (getAttr (.ref a) f b) Q E s:=by
 obtain ⟨mA,O,r,_,_,_⟩:=fY I.hok e;obtain ⟨u,hu,ru⟩:=RelO.some_of (v:=v) (o:=mA f) (by rw [<- l];exact r f);exact qI I.kIn O (c.get f) c.hd n hu (lZ ru) (h u _ (I.tok _) ru)
theorem gu {m:Str} {g:Addr} {pl:Sem Bool} {Q:Value×List Value->Shared->Prop} (I:Inv X pins σ H s) (e:H a=some (.ins C dx fs)) (c:Cls X.K C) (k:Meth X.K C m g) (l:fs.lookup m=none)
  (h:Q (.ref g,[.ref a]) s):wpAny (model X.prog X.w) A (getMethod (.ref a) m pl) Q E s:=by
 obtain ⟨mA,O,r,_,_,_⟩:=fY I.hok e;have hn:mA m=none:=RelO.none_of (by rw [<- l];exact r m);exact oH I.kIn O (c.get m) k.at_ k.fn hn h
theorem jA {y:V} {u:Value} {Q:Unit->Shared->Prop} (I:Inv X pins σ H s) (e:H a=some (.ins C dx fs)) (c:Cls X.K C) (n:NoAttr X.K C f) (hl:fs.length<1000) (ry:RelV y u)
  (h:∀ s',Inv X pins σ (upd H a (.ins C dx (putF f y fs))) s'->Q () s'):wpAny (model X.prog X.w) A (setAttr (.ref a) f u) Q E s:=by
 obtain ⟨mA,O,r,wi,_,ho⟩:=fY I.hok e;have hz:(fs.map (·.1)).length<=sizeLine:=by rw [xAa,sizeLine_eq];lia
 refine pO I.kIn O c.sa c.po n.taker c.hd wi hz fun h' O' sb=>h _ ?_;have hd:∃ o,h'.get? dx=some o:=let ⟨o,_,_,e',_⟩:=O'.ns;⟨o,e'⟩;refine I.write (x:=a) (e:=dx) (by rw [e];exact True.intro) (.inr ho) (fun b q hb z=>(sb.2 b hb).trans z) hd ?_;refine ⟨by rw [dg O.ne];exact ho,?_,O.ne,O'.obj,_,O'.ns,fun g=>?_,fun g hg=>?_⟩
 ·have:=fK f y fs;lia
 ·show RelO ((putF f y fs).lookup g) (if g=f then some u else mA g);rw [fJ];by_cases q:g=f
  ·rw [xCg q,xCg q];exact ry
  ·rw [xCf q,xCf q];exact r g
 ·by_cases q:g=f
  ·rw [q];exact (fD f y fs).1
  ·refine (fD f y fs).2 g (wi g fun z=>hg ?_);show (if g=f then some u else mA g)=none;rw [xCf q];exact z
theorem Inv.made (I:Inv X pins σ H s):Inv X pins σ (upd (upd H s.heap.objs.size (.own (s.heap.objs.size+1))) (s.heap.objs.size+1) (.ins C s.heap.objs.size []))
  { s with heap:=(s.heap.push W.emptyDict).push (W.instObj C s.heap.objs.size) }:=by
 have e1:(s.heap.push W.emptyDict).get? s.heap.objs.size=some W.emptyDict:=xAl s.heap rfl;have e2:((s.heap.push W.emptyDict).push (W.instObj C s.heap.objs.size)).get? (s.heap.objs.size+1)=some (W.instObj C s.heap.objs.size):=by
  have:=xAl (s.heap.push W.emptyDict) (o:=W.instObj C s.heap.objs.size) rfl
  rwa [Heap.size_push] at this
 have e3:(s.heap.push W.emptyDict).Ns s.heap.objs.size (fun _=>none):=⟨W.emptyDict,#[],_,e1,rfl,(fun e he=>absurd he (by simp)),fun _=>rfl⟩
 have I1:=I.laid (a:=s.heap.objs.size) (o:=.own (s.heap.objs.size+1)) (h':=s.heap.push W.emptyDict) (t':=s.toks) (fun b u q=>xAf _ q) (xAg _) ⟨_,e1⟩;refine I1.laid (a:=s.heap.objs.size+1) (o:=.ins C s.heap.objs.size []) (t':=s.toks) (fun b u q=>xAf _ q) (Nat.le_of_eq (Heap.size_push _ _)) ?_;have ne:s.heap.objs.size≠s.heap.objs.size+1:=xA0 (Nat.lt_succ_self _);refine ⟨by rw [dg ne,dk],xBn _,ne,e2,fun _=>none,(Heap.Ns1.of_empty e3).at fun o q=>xAf _ q,fun _=>True.intro,fun y hy=>absurd rfl hy⟩
theorem rB {prog:Program} {w:World} {env:Env} {e:Expr} {f:Str} {pos:Pos} {s:Shared} {Q:Value->Shared->Prop} (hb:attributeBase e f env (eval e env)=eval e env)
  (h:wpAny (model prog w) A (eval e env) (fun o s₁=>wpAny (model prog w) A (getAttr o f true) Q E s₁) E s):wpAny (model prog w) A (eval (.Attribute e f pos) env) Q E s :=
 Attribute_any_ h (by rw [arm_eval_Attribute,hb])
end
noncomputable def tFld (K:xFr) (ta:TE) (f:Str):TE:=fun σ H Q=>ta σ H fun x H1=>∃ a C dx fs v,x = .ref a/\H1 a=some (.ins C dx fs)/\Cls K C/\NoAttr K C f/\fs.lookup f=some v/\Q v H1
noncomputable def sFld (K:xFr) (ta tv:TE) (f:Str):TS:=fun D σ H=>tv σ H fun y H1=>ta σ H1 fun x H2=>∃ a C dx fs,x = .ref a/\H2 a=some (.ins C dx fs)/\Cls K C/\NoAttr K C f/\fs.length<1000 /\
 D.nx σ (upd H2 a (.ins C dx (putF f y fs)))
section
variable {X:Cx} {o e value:Expr} {f:Str} {pos pos' tpos:Pos} {ta tv:TE}
theorem tN (he:PE X e ta) (hb:attributeBase e f X.env (eval e X.env)=eval e X.env):PE X (.Attribute e f pos) (tFld X.K ta f):=by
 intro pins s σ H Q I h;refine rB hb (thn (he pins s σ H _ I h) fun u s1 zz=>?_);obtain ⟨x,H1,I1,rx,a,C,dx,fs,v,ex,ea,c,n,l,q⟩:=zz;subst ex;obtain rfl:u=Value.ref a:=rx;exact jP I1 ea c n l fun u' s2 I2 ru=>⟨v,H1,I2,ru,q⟩
theorem tp (ha:PE X o ta) (hv:PE X value tv) (hs:swapsWith value (some (.Attribute o f pos')) pos.line X.env=pure false):PS X (.Assign [.Attribute o f pos'] value pos) (sFld X.K ta tv f):=by
 intro pins s σ H D I h;refine plainObj_wpAny_Assign_Attribute (thn (hv pins s σ H _ I h) fun u s1 ⟨y,H1,I1,ry,q⟩=>thn (ha pins s1 σ H1 _ I1 q) fun ov s2 ⟨x,H2,I2,rx,a,C,dx,fs,ex,ea,c,n,l,q2⟩=>?_) hs;subst ex;obtain rfl:ov=Value.ref a:=rx;exact jA I2 ea c n l ry fun s3 I3=>⟨σ,_,I3,q2⟩
end
section
variable {X:Cx} {pins:List (Addr×Obj)} {σ:St} {H:Hp} {s:Shared} {A:Around} {E:Value->Shared->Prop} {Q:Value->Shared->Prop} {c:Value} {b:Bool}
inductive TyOf (K:xFr) (H:Hp):V->Value->Prop where
 | non:TyOf K H .non (.type "NoneType")
 | bl (x:Bool):TyOf K H (.bl x) (.type "bool")
 | int (i:Int):TyOf K H (.int i) (.type "int")
 | str (x:Str):TyOf K H (.str x) (.type "str")
 | flt (x:UInt64):TyOf K H (.flt x) (.type "float")
 | lst {a:Addr} {xs:List V} (e:H a=some (.lst xs)):TyOf K H (.ref a) (.type "list")
 | frz {a:Addr} {o:Obj} {xs:List V} (e:H a=some (.frz o (.lst xs))):TyOf K H (.ref a) (.type "list")
 | tup {a:Addr} {xs:List V} (e:H a=some (.tup xs)):TyOf K H (.ref a) (.type "tuple")
 | dK {a:Addr} {kvs:List (Key×V)} (e:H a=some (.dK kvs)):TyOf K H (.ref a) (.type "dict")
 | dT {a:Addr} {kvs:List (List Key×V)} (e:H a=some (.dT kvs)):TyOf K H (.ref a) (.type "dict")
 | ins {a C dx:Addr} {fs:List (Str×V)} (e:H a=some (.ins C dx fs)) (cl:Cls K C) (ha:W.findIn K (.ref C) "__class__"=some (some (.builtin "object.__class__")))
   (hn:W.specialIn K (.builtin "object.__class__") "__get__"=some (some (.builtin "getset_descriptor.__get__"))) (htk:W.takesIn K (.builtin "object.__class__")=some true)
   (hm:W.mroIn K C (.type "object")=some true):TyOf K H (.ref a) (.ref C)
theorem gQ {x:V} {u t:Value} (I:Inv X pins σ H s) (rx:RelV x u) (ty:TyOf X.K H x t) (e:W.kitOne X.K t c=some b) (h:∀ tk,Q (.bool b) { s with toks:=tk }) :
  wpAny (model X.prog X.w) A (call (.builtin "isinstance") [u,c]) Q E s:=by
 cases ty with
 | non=>cases (show u=Value.none from rx);exact W.kia_one W.kitx_none I.kIn True.intro e (fun z=>nomatch z) h
 | bl y=>cases (show u=Value.bool y from rx);exact W.kia_one W.kitx_bool I.kIn True.intro e (fun z=>nomatch z) h
 | int i=>obtain ⟨t,q⟩:=(show ∃ t,u=Value.int i t from rx);cases q;exact W.kia_one W.kitx_int I.kIn True.intro e (fun z=>nomatch z) h
 | str y=>obtain ⟨t,q⟩:=(show ∃ t,u=Value.str y t from rx);cases q;exact W.kia_one W.kitx_str I.kIn True.intro e (fun z=>nomatch z) h
 | flt y=>obtain ⟨t,q⟩:=(show ∃ t,u=Value.float y t from rx);cases q;exact W.kia_one W.kitx_float I.kIn True.intro e (fun z=>nomatch z) h
 | @lst a xs ea =>
  cases (show u=Value.ref a from rx);obtain ⟨_,_,n,_,h1⟩:=(show ObjOk X.prog X.w H s.heap a (.lst xs) from I.hok a _ ea)
  exact W.kia_one W.kitx_list I.kIn ⟨_,h1,rfl⟩ e (fun z=>nomatch z) h
 | @frz a ob xs ea =>
  cases (show u=Value.ref a from rx);obtain ⟨_,_,_,n,_,h1⟩:=(show ObjOk X.prog X.w H s.heap a (.frz ob (.lst xs)) from I.hok a _ ea)
  exact W.kia_one W.kitx_list I.kIn ⟨_,h1,rfl⟩ e (fun z=>nomatch z) h
 | @tup a xs ea =>
  cases (show u=Value.ref a from rx);obtain ⟨_,_,_,p⟩:=(show ObjOk X.prog X.w H s.heap a (.tup xs) from I.hok a _ ea)
  obtain ⟨o,h1,h2,_⟩:=p;exact W.kia_one W.kitx_tuple I.kIn ⟨o,h1,h2⟩ e (fun z=>nomatch z) h
 | @dK a kvs ea =>
  cases (show u=Value.ref a from rx);obtain ⟨_,_,vs,_,p⟩:=(show ObjOk X.prog X.w H s.heap a (.dK kvs) from I.hok a _ ea)
  obtain ⟨o,es,ep,h1,h2,_⟩:=p;exact W.kia_one W.kitx_dict I.kIn ⟨o,h1,h2.1⟩ e (fun z=>nomatch z) h
 | @dT a kvs ea =>
  cases (show u=Value.ref a from rx);obtain ⟨_,_,xs,_,o,es,ep,h1,h2,_⟩:=(show ObjOk X.prog X.w H s.heap a (.dT kvs) from I.hok a _ ea)
  exact W.kia_one W.kitx_dict I.kIn ⟨o,h1,h2.1⟩ e (fun z=>nomatch z) h
 | @ins a C dx fs ea cl ha hn htk hm =>
  cases (show u=Value.ref a from rx);obtain ⟨mA,O,_⟩:=fY I.hok ea;obtain ⟨od,J,_⟩:=O.look;exact W.kia_one (W.kitx_own (cl.get _) cl.hd ha hn htk hm) I.kIn J e (fun z=>nomatch z) h
end
end L2
namespace L2
open PySem PySem.Spec PyProof.Rows
structure Room (k:Nat) (A:Around):Prop where
 hd:A.handled=none
 dp:A.depth+3 * k+5<recursionLimit
 un:A.units+16 * k+200<cLine
 gd:A.guards=some []
theorem Room.mono {j k:Nat} {A:Around} (r:Room k A) (h:j<=k):Room j A:=⟨r.hd,by have:=r.dp;lia,by have:=r.un;lia,r.gd⟩
theorem Room.deeper {k:Nat} {A:Around} (r:Room (k+1) A) (env:Env):Room k (A.deeper env) :=
 ⟨r.hd,by have:=r.dp;show A.depth+1+3 * k+5<_;lia,by have:=r.un;show A.units+3+16 * k+200<_;lia,r.gd⟩
theorem jK {A:Around} {C:Addr} {us:List Value} {kw:List (Str×Value)}:(A.under (.builtin "type.__call__" ⟨.ref C::us,kw⟩)).depth=A.depth+1:=by
 first | rfl | simp [Around.under,Code.weight,Code.isCreation,Code.isGuard,Code.isCaller,Code.frames,Code.isFrame,guardIds]
theorem jJ {A:Around} {C:Addr} {us:List Value} {kw:List (Str×Value)}:(A.under (.builtin "type.__call__" ⟨.ref C::us,kw⟩)).units=A.units+1:=by
 first | rfl | simp [Around.under,Code.cUnits,Code.frames,Code.isFrame]
theorem ja {A:Around} {C:Addr} {us:List Value} {kw:List (Str×Value)}:(A.under (.builtin "type.__call__" ⟨.ref C::us,kw⟩)).guards=A.guards:=by
 first | rfl | simp [Around.under,Code.weight,Code.isCreation,Code.isGuard,Code.isCaller,Code.frames,Code.isFrame,guardIds]
theorem Room.make {k:Nat} {A:Around} (r:Room (k+1) A) (C:Addr) (us:List Value) (kw:List (Str×Value)):Room k (A.under (.builtin "type.__call__" ⟨.ref C::us,kw⟩)) :=
 ⟨r.hd,by have:=r.dp;rw [jK];lia,by have:=r.un;rw [jJ];lia,ja.trans r.gd⟩
theorem Room.depth {k:Nat} {A:Around} (r:Room k A):A.depth<recursionLimit:=by have:=r.dp;lia
noncomputable def tNil:TA:=fun _ H Q=>Q [] H
noncomputable def tCons (ta:TE) (tr:TA):TA:=fun σ H Q=>ta σ H fun x H1=>tr σ H1 fun xs H2=>Q (x::xs) H2
section
variable {X:Cx} {e:Expr} {es:List Expr} {te:TE} {t:TA} {pos:Pos}
theorem gf:PA X [] tNil:=fun _ _ _ _ H Q I h=>Calls.spliced_nil ⟨[],H,I,.nil,h⟩
theorem qi (ha:PE X e te) (hr:PA X es t) (hs:starEach (e::es) X.env=(false,eval e X.env)::starEach es X.env:=by rfl):PA X (e::es) (tCons te t):=by
 intro pos pins s σ H Q I h;rw [hs];show wpAny _ _ (spliced ((false,eval e X.env)::backTo pos (starEach es X.env))) _ _ s;refine Calls.spliced_cons (thn (ha pins s σ H _ I h) fun u s1 zz=>?_);obtain ⟨x,H1,I1,r1,q1⟩:=zz;exact thn (hr pos pins s1 σ H1 _ I1 q1) fun us s2 ⟨xs,H2,I2,r2,q2⟩=>⟨x::xs,H2,I2,.cons r1 r2,q2⟩
noncomputable def tTup (t:TA):TE:=fun σ H Q=>t σ H fun xs H1=>xs.length<=sizeLine/\∀ p,H1 p=none->Q (.ref p) (upd H1 p (.tup xs))
noncomputable def tLst (t:TA):TE:=fun σ H Q=>t σ H fun xs H1=>xs.length<=sizeLine/\∀ p,H1 p=none->Q (.ref p) (upd H1 p (.lst xs))
theorem tH {x1} (h:PA X es t):PE X (.Tuple es x1 pos) (tTup t):=by
 intro pins s σ H Q I hq;refine wpAny_Tuple_spliced (thn (h pos pins s σ H _ I hq) fun us s1 ⟨xs,H1,I1,r,z,q⟩=>⟨by rw [<- r.length];exact z,?_⟩);have hf:H1 s1.heap.objs.size=none:=I1.hok.fresh (xAg _);refine ⟨.ref s1.heap.objs.size,upd H1 s1.heap.objs.size (.tup xs),I1.laid (t':=s1.toks) (fun b u e=>xAf _ e) (xAg _) ?_,rfl,q _ hf⟩;exact ⟨z,us,r,⟨_,xAl _ rfl,rfl,_,rfl⟩⟩
theorem tK (h:PA X es t):PE X (.List es pos) (tLst t):=by
 intro pins s σ H Q I hq;refine wpAny_List_spliced (thn (h pos pins s σ H _ I hq) fun us s1 ⟨xs,H1,I1,r,z,q⟩=>⟨by rw [<- r.length];exact z,?_⟩);have hf:H1 s1.heap.objs.size=none:=I1.hok.fresh (xAg _);refine ⟨.ref s1.heap.objs.size,upd H1 s1.heap.objs.size (.lst xs),I1.laid (t':=s1.toks) (fun b u e=>xAf _ e) (xAg _) ?_,rfl,q _ hf⟩;exact ⟨z,us,0,r,xAl _ rfl⟩
end
noncomputable abbrev Sp:=List V->Hp->VK->XK->Prop
noncomputable abbrev CXT:=List Env->Hp->Shared->XK->Value->Shared->Prop
structure Env0 (P:Program) (w:World) (K:xFr) (mg:Str->Option Value) (base:Heap) (A:Around) (outer:List Env) (s:Shared) (H:Hp):Prop where
 frames:A.frames=some outer
 mod:Mod K mg base
 bs:∀ b o,base.get? b=some o->s.heap.get? b=some o/\H b=none
 bsz:base.objs.size<=s.heap.objs.size
 funs:s.heap.FunFrames base outer
 frf:∀ b∈frs outer,H b=none
 hok:HOk P w H s.heap
 bare:AllBare s.gens
def CE (outer:List Env) (P:Program) (w:World) (H:Hp) (s:Shared) (Q:VK) (u:Value) (s':Shared):Prop :=
 ∃ v H',s'.os=s.os/\AllBare s'.gens/\Un (frs outer) [] H H' s.heap s'.heap/\HOk P w H' s'.heap/\RelV v u/\Q v H'
def CR (CX:CXT) (outer:List Env) (P:Program) (w:World) (H:Hp) (s:Shared) (Q:VK) (E:XK) (r:Result) (s':Shared):Prop :=
 match r with
 | .ok (.ret u)=>CE outer P w H s Q u s'
 | .ok _=>False
 | .error e=>CX outer H s E e s'
structure FnOk (P:Program) (w:World) (K:xFr) (mg:Str->Option Value) (base:Heap) (CX:CXT) (k:Nat) (f:Addr) (fd:FuncData) (ps:List Str) (sp:Sp):Prop where
 len:∀ vs H Q E,sp vs H Q E->vs.length=ps.length
 run:∀ (A:Around) (outer:List Env) (s:Shared) (H:Hp) (args:Args) (us:List Value) (vs:List V) (Q:VK) (E:XK),Room k A->Env0 P w K mg base A outer s H->BindsTo s fd args (ps.zip us)->Vals vs us->sp vs H Q E ->
  codeAny (model P w) A (.call (.ref f) args) (CR CX outer P w H s Q E) s
theorem FnOk.imp {P:Program} {w:World} {K:xFr} {mg:Str->Option Value} {base:Heap} {CX:CXT} {k:Nat} {f:Addr} {fd:FuncData} {ps:List Str} {sp sp':Sp} (F:FnOk P w K mg base CX k f fd ps sp)
  (h:∀ vs H Q E,sp' vs H Q E->sp vs H Q E):FnOk P w K mg base CX k f fd ps sp' :=
 ⟨fun vs H Q E q=>F.len vs H Q E (h _ _ _ _ q),fun A outer s H args us vs Q E hr he hb hv hs=>F.run A outer s H args us vs Q E hr he hb hv (h _ _ _ _ hs)⟩
theorem Env0.make {P:Program} {w:World} {K:xFr} {mg:Str->Option Value} {base:Heap} {A:Around} {outer:List Env} {s:Shared} {H:Hp} (e:Env0 P w K mg base A outer s H) (C:Addr) (us:List Value) (kw:List (Str×Value)) :
  Env0 P w K mg base (A.under (.builtin "type.__call__" ⟨.ref C::us,kw⟩)) outer s H:=⟨by first | exact e.frames | (simpa [Around.under,Code.envs,Code.isFrame,pushEnvs] using e.frames),e.mod,e.bs,e.bsz,e.funs,e.frf,e.hok,e.bare⟩
section
variable {X:Cx} {pins:List (Addr×Obj)} {σ:St} {H:Hp} {s s':Shared}
theorem Inv.env0 (I:Inv X pins σ H s):Env0 X.prog X.w X.K X.mg X.base X.A X.stack s H :=
 ⟨I.ok.frames,I.ok.mod,I.bs,Nat.le_trans I.ok.bsz I.sz,I.stack,I.stkFree,I.hok,I.bare⟩
theorem Inv.after {Q:VK} {u:Value} (I:Inv X pins σ H s) (h:CE X.stack X.prog X.w H s Q u s'):EP X pins σ Q u s':=by
 obtain ⟨v,H',os,bare,un,hok,r,q⟩:=h;obtain ⟨hh,g,d,t,os'⟩:=s';obtain rfl:os'=s.os:=os;exact ⟨v,H',I.call (h':=hh) (g':=g) (d':=d) (t':=t) (ch:=[]) un hok bare (fun b z=>absurd z (by simp)),r,q⟩
end
noncomputable def tMake (C:Addr) (sp:Sp) (dvs:List V) (E:XK) (t:TA):TE:=fun σ H Q=>t σ H fun vs H1=>∀ x dx,H1 x=none->H1 dx=none->dx≠x ->
 sp (.ref x::(vs++dvs)) (upd (upd H1 dx (.own x)) x (.ins C dx [])) (fun v H2=>v = .non/\Q (.ref x) H2) E
def Binds (K:xFr) (fd:FuncData) (ps:List Str) (ds:List Value):Prop :=
 ∀ (s:Shared) (us:List Value),K.In s.heap->(us++ds).length=ps.length->BindsTo s fd ⟨us,[]⟩ (ps.zip (us++ds))
theorem Binds.all {K:xFr} {fd:FuncData} {ps:List Str} (h:∀ us:List Value,us.length=ps.length->bindArgs fd ⟨us,[]⟩=pure (ps.zip us)):Binds K fd ps []:=fun s us _ hl=>by
 rw [xB0] at hl ⊢;exact .of_eq (h us hl)
def Passes (CX:CXT) (X:Cx) (E:XK):Prop:=∀ (pins:List (Addr×Obj)) (σ:St) (H:Hp) (s:Shared) (e:Value) (s':Shared),Inv X pins σ H s->CX X.stack H s E e s'->X.xe e s'
section
variable {X:Cx} {CX:CXT} {k:Nat} {f C:Addr} {fd:FuncData} {ps:List Str} {sp:Sp} {dvs:List V} {ds:List Value} {E:XK} {x m:Str} {p pos apos:Pos} {e o:Expr} {es:List Expr} {ta:TE} {t:TA}
structure Mk (K:xFr) (C f:Addr):Prop where
 makes:W.makesIn K C=true
 init:W.findIn K (.ref C) "__init__"=some (some (.ref f))
 fn:W.isFn K (.ref f)=true
 kp:W.keepIn K (.ref C)=true
theorem iR {pins:List (Addr×Obj)} {σ:St} {H:Hp} {s:Shared} {Q:VK} {us:List Value} {vs:List V} (M:Mk X.K C f) (F:FnOk X.prog X.w X.K X.mg X.base CX k f fd ps sp) (hr:Room (k+1) X.A) (hb:Binds X.K fd ps ds) (hd:Vals dvs ds)
  (hx:Passes CX X E) (I:Inv X pins σ H s) (r:Vals vs us)
  (h:∀ x dx,H x=none->H dx=none->dx≠x->sp (.ref x::(vs++dvs)) (upd (upd H dx (.own x)) x (.ins C dx [])) (fun v H2=>v = .non/\Q (.ref x) H2) E) :
  wpAny (model X.prog X.w) X.A (call (.ref C) us) (EP X pins σ Q) X.xe s:=by
 have hq:=h (s.heap.objs.size+1) s.heap.objs.size (I.hok.fresh (Nat.le_succ _)) (I.hok.fresh (xAg _)) (xA0 (Nat.lt_succ_self _));have I2:=Inv.made (C:=C) I;have r2:Vals (V.ref (s.heap.objs.size+1)::(vs++dvs)) (Value.ref (s.heap.objs.size+1)::(us++ds)):=.cons rfl (r.append hd);have hl:(Value.ref (s.heap.objs.size+1)::us++ds).length=ps.length:=by
  have e:=r2.length;rw [F.len _ _ _ _ hq] at e;exact e.symm
 refine wpAny_call (oq (f:=f) I.kIn M.makes M.init (beq_iff_eq.mp M.fn) (codeAny_mono (F.run _ X.stack _ _ ⟨Value.ref (s.heap.objs.size+1)::us,[]⟩ (Value.ref (s.heap.objs.size+1)::(us++ds)) _ _ E (hr.make C us [])
  (I2.env0.make C us []) (hb _ (Value.ref (s.heap.objs.size+1)::us) I2.kIn hl) r2 hq) fun r s' hq'=>?_))
 cases r with
 | error e=>exact hx pins σ _ _ e s' I2 hq'
 | ok fl =>
  cases fl with
  | ret u =>
   obtain ⟨v,H',I3,rv,ev,q3⟩:=I2.after hq';subst ev;exact ⟨rv,⟨V.ref (s.heap.objs.size+1),H',I3,rfl,q3⟩⟩
  | next=>exact False.elim hq'
  | brk=>exact False.elim hq'
  | cont=>exact False.elim hq'
theorem qe (M:Mk X.K C f) (F:FnOk X.prog X.w X.K X.mg X.base CX k f fd ps sp) (hr:Room (k+1) X.A) (hg:Gl X x) (hm:X.mg x=some (.ref C)) (hb:Binds X.K fd ps ds) (hd:Vals dvs ds) (hx:Passes CX X E)
  (ha:PA X (e::es) t) (hdb:(x == ("__debug__":Str))=false:=by decide) (he:starEach (e::es) X.env=(false,eval e X.env)::starEach es X.env:=by rfl) (hpl:(backTo pos (starEach es X.env)).any (·.1)=false:=by rfl) :
  PE X (.Call (.Name x p) (e::es) [] pos) (tMake C sp dvs E t):=by
 intro pins s σ H Q I h;refine wpAny_Call_Name_kw (e9 I hg hm ?_ hdb);refine W.callWith_K (h₀:=X.base) I.ok.mod.kin M.kp (thn (ha pos pins s σ H _ I h) fun us s1 ⟨vs,H1,I1,r,q⟩=>⟨I1.kIn,?_⟩) he hpl;exact iR M F hr hb hd hx I1 r q
theorem nP (M:Mk X.K C f) (F:FnOk X.prog X.w X.K X.mg X.base CX k f fd ps sp) (hr:Room (k+1) X.A) (hg:Gl X x) (hm:X.mg x=some (.ref C)) (hb:Binds X.K fd ps ds) (hd:Vals dvs ds) (hx:Passes CX X E)
  (hdb:(x == ("__debug__":Str))=false:=by decide):PE X (.Call (.Name x p) [] [] pos) (tMake C sp dvs E tNil):=by
 intro pins s σ H Q I h;refine wpAny_Call_Name_kw (e9 I hg hm ?_ hdb);exact W.callWith_K0 I.kIn M.kp (iR (us:=[]) M F hr hb hd hx I .nil h)
end
structure FnScope (N P:List Str) (sc:Scope):Prop where
 kind:sc.kind = .function
 co:sc.isCoroutine=false
 gen:sc.isGenerator=false
 nd:N.Nodup
 pre:N.take P.length=P
 par:∀ x∈P,sc.names.lookup x=some .local\/sc.names.lookup x=some .cell
 nofree:∀ y∈sc.names,y.2≠.free
theorem gU {kindOf:Str->Option NameKind} {x:Str}:∀ {binds:List (Str×Value)} {m:Str->Option Value},(∀ v,(x,v) ∉ binds)->bindL kindOf binds m x=m x
 | [],_,_=>rfl
 | (n,v)::r,m,h=>by
  unfold bindL;rw [gU fun w hw=>h w (xAs _ hw)];split
  ·have:x≠n:=by rintro rfl;exact h v xAr
   simp [this]
  ·rfl
theorem gW {kindOf:Str->Option NameKind} {x:Str}:∀ {binds:List (Str×Value)} {m:Str->Option Value},(∀ v,(x,v) ∉ binds)->bindC kindOf binds m x=m x
 | [],_,_=>rfl
 | (n,v)::r,m,h=>by
  unfold bindC;rw [gW fun w hw=>h w (xAs _ hw)];split
  ·rfl
  ·have:x≠n:=by rintro rfl;exact h v xAr
   simp [this]
theorem gV {kindOf:Str->Option NameKind} {x:Str} {v:Value}:∀ {P:List Str} {vs:List Value} {i:Nat} {m:Str->Option Value},P.Nodup->P[i]?=some x->vs[i]?=some v->kindOf x=some .local ->
  bindL kindOf (P.zip vs) m x=some v
 | [],_,_,_,_,h,_,_=>by simp at h
 | _::_,[],_,_,_,_,h,_=>by simp at h
 | p::P,w::vs,0,m,nd,h1,h2,hk=>by
  simp at h1 h2;subst h1;subst h2;show bindL kindOf ((p,w)::P.zip vs) m p=_;unfold bindL;rw [gU fun v hv=>(xCb.mp nd).1 (List.of_mem_zip hv).1,xCg hk];simp
 | p::P,w::vs,i+1,m,nd,h1,h2,hk=>by
  show bindL kindOf ((p,w)::P.zip vs) m x=_;unfold bindL;exact gV (i:=i) (xCb.mp nd).2 (by simpa using h1) (by simpa using h2) hk
theorem gX {kindOf:Str->Option NameKind} {x:Str} {v:Value}:∀ {P:List Str} {vs:List Value} {i:Nat} {m:Str->Option Value},P.Nodup->P[i]?=some x->vs[i]?=some v->kindOf x≠some .local ->
  bindC kindOf (P.zip vs) m x=some v
 | [],_,_,_,_,h,_,_=>by simp at h
 | _::_,[],_,_,_,_,h,_=>by simp at h
 | p::P,w::vs,0,m,nd,h1,h2,hk=>by
  simp at h1 h2;subst h1;subst h2;show bindC kindOf ((p,w)::P.zip vs) m p=_;unfold bindC;rw [gW fun v hv=>(xCb.mp nd).1 (List.of_mem_zip hv).1,xCf hk];simp
 | p::P,w::vs,i+1,m,nd,h1,h2,hk=>by
  show bindC kindOf ((p,w)::P.zip vs) m x=_;unfold bindC;exact gX (i:=i) (xCb.mp nd).2 (by simpa using h1) (by simpa using h2) hk
noncomputable def start (N:List Str) (vs:List V):St:=vs.map some++List.replicate (N.length - vs.length) none
noncomputable def cxOf (CX:CXT) (P:Program) (w:World) (K:xFr) (mg:Str->Option Value) (base:Heap) (N:List Str) (qual:Str) (scope:Scope) (f:Addr) (cd:Value) (A:Around) (outer:List Env) (s:Shared) (H:Hp) (E:XK):Cx where
 prog:=P
 w:=w
 K:=K
 mg:=mg
 base:=base
 A:=A.deeper (envOfC qual scope s.heap.objs.size f cd)
 N:=N
 s₀:=s
 H₀:=H
 env:=envOfC qual scope s.heap.objs.size f cd
 outer:=outer
 stack:=envOfC qual scope s.heap.objs.size f cd::outer
 ex:=[]
 calm:=true
 fn:=fun _=>true
 pn:=[]
 xe:=fun e s'=>wpAny (model P w) (A.deeper (envOfC qual scope s.heap.objs.size f cd)) (leaving (envOfC qual scope s.heap.objs.size f cd) e) (fun _ s''=>CX outer H s E e s'') (fun e' s''=>CX outer H s E e' s'') s'
theorem gy {sc:Scope} {n:Nat} {x:Str} (h:sc.names.lookup x=some .cell):∃ c,(cellsFrom n sc.names []).lookup x=some c:=by
 have q:=W.cellsFrom_some sc.names n [] (.inl h);exact Option.isSome_iff_exists.mp q
theorem lX {CX:CXT} {P:Program} {w:World} {K:xFr} {mg:Str->Option Value} {base:Heap} {N ps:List Str} {qual:Str} {scope:Scope} {f:Addr} {cd:Value} {A:Around} {outer:List Env} {s s1:Shared} {H:Hp} {E:XK} {us:List Value} {vs:List V}
  (S:FnScope N ps scope) (hd:A.handled=none) (e0:Env0 P w K mg base A outer s H) (hl:vs.length=ps.length) (r:Vals vs us)
  (x:InCallC s s.heap.objs.size (bindL (envOfC qual scope s.heap.objs.size f cd).kindOf (ps.zip us) fun _=>none) (cellsFrom (s.heap.objs.size+1) scope.names []) (bindC (envOfC qual scope s.heap.objs.size f cd).kindOf (ps.zip us) fun _=>none) s1) :
  Inv (cxOf CX P w K mg base N qual scope f cd A outer s H E) [] (start N vs) H s1:=by
 have hpl:ps.length<=N.length:=by have:=congrArg List.length S.pre;rw [List.length_take] at this;lia
 obtain ⟨h1,tk,rfl,hk⟩:=x.done;have noA:∀ b:Addr,b ∉ (cxOf CX P w K mg base N qual scope f cd A outer s H E).ex:=fun b z=>absurd (show b∈([]:List Addr) from z) (by simp);refine ⟨⟨e0.mod,S.kind,rfl,rfl,xAg _,fun y z c h1 h2=>?_,fun y hy=>?_,fun y c _ h=>?_,fun _=>hd,Around.frames_deeper e0.frames,.inr ⟨rfl,rfl⟩,fun b z=>absurd z (noA b),e0.bs,e0.bsz,fun b _ _=>noA b,fun b z=>absurd z (noA b),e0.funs,e0.frf⟩,
  rfl,e0.bare,Un.kept hk,⟨_,x.toInCall.ns,fun i y v h1 h2 h3=>?_⟩,fun y c h=>⟨_,x.cell y c h⟩,e0.hok.fresh (xAg _),fun y c h=>?_,fun p hp=>absurd (show p∈([]:List (Addr×Obj)) from hp) (by simp),e0.hok.kept hk,?_⟩
 ·exact name_of_addr x.apart (PySem.mem_of_lookup h1) (PySem.mem_of_lookup h2)
 ·have hy:scope.names.lookup y=some .cell\/scope.names.lookup y=some .free:=hy;rcases hy with hy | hy
  ·exact gy hy
  ·exact absurd rfl (S.nofree _ (PySem.mem_of_lookup hy))
 ·exact Nat.le_of_lt (x.above y c (PySem.mem_of_lookup h))
 ·have hi:i<vs.length:=by
   unfold start at h2;by_cases hi:i<vs.length
   ·exact hi
   ·rw [List.getElem?_append_right (by simpa using hi)] at h2;rw [List.getElem?_replicate] at h2;split at h2 <;> cases h2
  have ha:vs[i]?=some v:=by
   unfold start at h2;rw [List.getElem?_append_left (by simpa using hi),xAw] at h2;cases e:vs[i]? with
   | none=>rw [e] at h2;cases h2
   | some a=>rw [e] at h2;cases h2;rfl
  obtain ⟨u,hu,rv⟩:=r.get ha;have hp:ps[i]?=some y:=by
   rw [<- S.pre,List.getElem?_take_of_lt (by lia)];exact h1
  have ndP:ps.Nodup:=by rw [<- S.pre];exact S.nd.sublist (List.take_sublist _ _)
  refine ⟨u,rv,?_⟩;rcases S.par y (xAc hp) with k | k
  ·exact .inl ⟨k,gV ndP hp hu k⟩
  ·obtain ⟨c,e⟩:=gy (n:=s.heap.objs.size+1) k;refine .inr ⟨.inl k,c,e,?_⟩;have q:=x.cell y c e;rw [gX ndP hp hu (by show scope.names.lookup y≠_;rw [k];decide)] at q;exact q
 ·exact e0.hok.fresh (Nat.le_of_lt (x.above y c (PySem.mem_of_lookup h)))
 ·unfold start;show _=N.length;rw [xAb,xAa,List.length_replicate];lia
theorem wu {CX:CXT} {P:Program} {w:World} {K:xFr} {mg:Str->Option Value} {base:Heap} {k:Nat} {f:Addr} {name qual:Str} {params:Arguments} {body:List Stmt} {scope:Scope} {dV kV doc pm cdv ct oc:Value} {an od:Option Addr}
  {osl:Array (Option Value)} {N ps:List Str} {sp:Sp} (lk:K.lookup f=some ⟨oc,od,.func (W.fnOf name qual params body scope dV kV doc pm an cdv ct),osl⟩) (hcd:W.codeIn K cdv qual=true) (S:FnScope N ps scope)
  (len:∀ vs H Q E,sp vs H Q E->vs.length=ps.length)
  (hbody:∀ (A:Around) (outer:List Env) (s:Shared) (H:Hp) (vs:List V) (Q:VK) (E:XK),Room k (A.deeper (envOfC qual scope s.heap.objs.size f cdv))->sp vs H Q E ->
   ∃ t,PSs (cxOf CX P w K mg base N qual scope f cdv A outer s H E) body t/\t { nx:=fun _ H'=>Q .non H',rt:=Q } (start N vs) H) :
  FnOk P w K mg base CX (k+1) f (W.fnOf name qual params body scope dV kV doc pm an cdv ct) ps sp:=by
 refine ⟨len,fun A outer s H args us vs Q E hr e0 hb r hsp=>?_⟩;have hl:=len _ _ _ _ hsp;have KX:K.In s.heap:=e0.mod.kin.keeps fun b o e=>(e0.bs b o e).1;have lim:s.heap.NoLimit:=e0.mod.nolimit.keeps fun b o e=>(e0.bs b o e).1;have hkind:∀ y∈ps.zip us,scope.names.lookup y.1=some .local\/(scope.names.lookup y.1=some .cell/\((cellsFrom (s.heap.objs.size+1) scope.names []).lookup y.1).isSome=true):=fun ⟨n,v⟩ hy=>by
  rcases S.par n (List.of_mem_zip hy).1 with q | q
  ·exact .inl q
  ·exact .inr ⟨q,W.cellsFrom_some _ _ _ (.inl q)⟩
 refine codeAny_call_function hr.depth (KX _ _ lk) rfl S.co S.gen rfl (W.codeRec_of KX hcd) (hb _ _ _ _ ?_);refine wpAny_newFunctionEnv_cells S.kind hkind fun env he s1 x=>?_;subst he;refine ⟨lim.keeps x.toInCall.keep,codeAny_func ?_⟩;obtain ⟨t,ht,hq⟩:=hbody A outer s H vs Q E (hr.deeper _) hsp;have I:Inv (cxOf CX P w K mg base N qual scope f cdv A outer s H E) [] (start N vs) H s1:=lX S hr.hd e0 hl r x;refine wpAny_mono (ht [] s1 (start N vs) H _ I hq) (fun fl s' hs=>?_) fun e s' hs=>hs;have fin:∀ {σ':St} {H':Hp} {v:V} {u:Value},Inv (cxOf CX P w K mg base N qual scope f cdv A outer s H E) [] σ' H' s'->RelV v u->Q v H'->CE outer P w H s Q u s' :=
  fun {σ' H' v u} J rv q=>⟨v,H',J.os,J.bare,J.base,J.hok,rv,q⟩
 cases fl with
 | ret u =>
  obtain ⟨v,σ',H',J,rv,q⟩:=hs;exact fin J rv q
 | next =>
  obtain ⟨σ',H',J,q⟩:=hs;exact fin (v:=V.non) (u:=Value.none) J rfl q
 | brk =>
  obtain ⟨_,_,_,q⟩:=hs;exact False.elim q
 | cont =>
  obtain ⟨_,_,_,q⟩:=hs;exact False.elim q
end L2
namespace L2
open PySem PySem.Spec PyProof.Rows
section
variable {X:Cx} {x:Str} {p pos:Pos} {e:Expr} {es:List Expr} {t:TA} {id T:String} {r:List V->Hp->VK->Prop}
noncomputable def tCB (r:List V->Hp->VK->Prop) (t:TA):TE:=fun σ H Q=>t σ H fun vs H1=>r vs H1 Q
theorem nV (hc:CallR X (.builtin id) r) (hg:Gl X x) (hm:X.mg x=none) (hv:bootBuiltins x=some (.builtin id)) (ha:PA X (e::es) t) (hn:x≠"__name__":=by decide) (hdb:(x == ("__debug__":Str))=false:=by decide)
  (he:starEach (e::es) X.env=(false,eval e X.env)::starEach es X.env:=by rfl) (hpl:(backTo pos (starEach es X.env)).any (·.1)=false:=by rfl):PE X (.Call (.Name x p) (e::es) [] pos) (tCB r t):=by
 intro pins s σ H Q I h;refine wpAny_Call_Name_kw (fC I hg hm hv ?_ hn hdb);exact PyProof.Rows.callWith_builtin1 (thn (ha pos pins s σ H _ I h) fun us s1 ⟨vs,H1,I1,r1,q1⟩=>hc pins s1 σ H1 vs us Q I1 r1 q1) he hpl
theorem lM (hc:CallR X (.type T) r) (hg:Gl X x) (hm:X.mg x=none) (hv:bootBuiltins x=some (.type T)) (ha:PA X (e::es) t) (hn:x≠"__name__":=by decide) (hdb:(x == ("__debug__":Str))=false:=by decide)
  (he:starEach (e::es) X.env=(false,eval e X.env)::starEach es X.env:=by rfl) (hpl:(backTo pos (starEach es X.env)).any (·.1)=false:=by rfl):PE X (.Call (.Name x p) (e::es) [] pos) (tCB r t):=by
 intro pins s σ H Q I h;refine wpAny_Call_Name_kw (fC I hg hm hv ?_ hn hdb);exact PyProof.Rows.callWith_type1 (thn (ha pos pins s σ H _ I h) fun us s1 ⟨vs,H1,I1,r1,q1⟩=>hc pins s1 σ H1 vs us Q I1 r1 q1) he hpl
end
end L2
namespace HT
open PySem PyProof.Rows
section
open PySem.SeqAt
open PySem.AutoSeq1 (wpAny_loadPart')
open PySem.MeetsSeq PySem.MeetsSeq2 PySem.MeetsSeq3
end
section
variable {prog:Program} {w:World} {A:Around} {E:Value->Shared->Prop} {s:Shared}
theorem cat_tup {t b:Addr} {vs ws:List Value} {Q:Value->Shared->Prop} (ht:IsTup s.heap t vs.toArray) (hb:IsTup s.heap b ws.toArray) (hv:vs≠[])
  (h1:ws=[]->Q (.ref t) s) (h2:ws≠[]->Q (.ref s.heap.objs.size) { s with heap:=s.heap.push { cls:=.type "tuple",data:=.seq (vs++ws).toArray } })
  (hsz:vs.length+ws.length<=sizeLine):wpAny (model prog w) A (binaryOp .Add (.ref t) (.ref b)) Q E s:=by
 obtain ⟨⟨cls,dd,data,sl⟩,ho,hc,n,hd⟩:=id ht;obtain ⟨⟨cls2,dd2,data2,sl2⟩,ho2,hc2,n2,hd2⟩:=id hb;simp only at hc hd hc2 hd2;subst hc hd hc2 hd2;have e:vs.toArray++ws.toArray=(vs++ws).toArray:=by simp
 by_cases hw:ws=[]
 ·exact concat_meets ⟨_,ho,rfl⟩ ⟨_,ho2,rfl⟩ noFill_tuple_add seq_tuple_add PySem.F.slot_tuple_add PySem.F.entry_tuple_add (PySem.F.args_tuple_add_2 _ _)
   (tuple_addW1 t b vs.toArray ws.toArray n n2 dd dd2 sl sl2 (by simpa using hv) (by simp [hw])) ⟨ho,ho2,h1 hw⟩
 ·refine concat_meets ⟨_,ho,rfl⟩ ⟨_,ho2,rfl⟩ noFill_tuple_add seq_tuple_add PySem.F.slot_tuple_add PySem.F.entry_tuple_add (PySem.F.args_tuple_add_2 _ _)
   (tuple_addW2 t b vs.toArray ws.toArray n n2 dd dd2 sl sl2 (by simpa using hv) (by simpa using hw) (by rw [xAp,xAp];exact hsz)) ⟨ho,ho2,?_⟩
  rw [e];exact h2 hw
noncomputable def sIx (n d:Nat):Option Int->Nat
 | none=>d
 | some v=>if v<0 then (v+(n:Int)).toNat else min v.toNat n
theorem sIx_none (n d:Nat):sIx n d none=d:=rfl
theorem sIx_nat (n d k:Nat):sIx n d (some (k:Int))=min k n:=by
 show (if (k:Int)<0 then ((k:Int)+(n:Int)).toNat else min (k:Int).toNat n)=min k n;rw [xCf (by lia),Int.toNat_natCast]
theorem sK (n d:Nat) (hd:d<=n) (o:Option Int):sIx n d o<=n:=by
 cases o with
 | none=>exact hd
 | some v =>
  show (if v<0 then (v+(n:Int)).toNat else min v.toNat n)<=n;by_cases hv:v<0
  ·rw [xCg hv];lia
  ·rw [xCf hv];exact Nat.min_le_right _ _
theorem lb (v:Int) (n d:Nat):(if v<0 then max (v+(n:Int)) 0 else min v (n:Int))=((sIx n d (some v):Nat):Int):=by
 show (if v<0 then max (v+(n:Int)) 0 else min v (n:Int))=(((if v<0 then (v+(n:Int)).toNat else min v.toNat n):Nat):Int);by_cases hv:v<0
 ·simp only [xCg hv];lia
 ·simp only [xCf hv];lia
theorem j4 (lo hi:Option Int) (n:Nat):Builtin.Slice.sliceAdjust lo hi 1 (n:Int)=(((sIx n 0 lo:Nat):Int),((sIx n n hi:Nat):Int)):=by
 have h1:¬ ((1:Int)<0):=by lia
 unfold Builtin.Slice.sliceAdjust;simp only [h1,if_false];refine Prod.ext ?_ ?_
 ·cases lo with
  | none=>rfl
  | some v=>exact lb v n 0
 ·cases hi with
  | none=>rfl
  | some v=>exact lb v n n
theorem jC (i j:Nat):Builtin.Slice.slicePlaces (i:Int) (j:Int) 1=j - i:=by
 unfold Builtin.Slice.slicePlaces;have h1:(1:Int) > 0:=by lia
 simp only [h1,if_true,Int.ediv_one];split <;> lia
theorem f7 {v:Value} {o:Option Int} {Q:Option Int->Shared->Prop} (p:IsPart v o) (h:Q o s):wpAny (model prog w) A (Builtin.Slice.slicePartIndex v) Q E s:=by
 cases p with
 | none=>exact slicePart_none h
 | int i t=>exact slicePart_int h
theorem fq {sl:Addr} {vl vu:Value} {lo hi:Option Int} {n:Nat} {Q:Int×Int×Nat->Shared->Prop} (hs:s.heap.IsSliceOf sl vl vu .none) (pl:IsPart vl lo) (pu:IsPart vu hi)
  (h:Q (((sIx n 0 lo:Nat):Int),1,sIx n n hi - sIx n 0 lo) s):wpAny (model prog w) A (Builtin.Slice.sliceApplied (.ref sl) (pure (n:Int))) Q E s:=by
 obtain ⟨os,hos,hcs,hds⟩:=id hs;unfold Builtin.Slice.sliceApplied Builtin.Slice.sliceFields;refine xAd (xAd (wpAny_field hos hds (x:=vl) rfl (xAd (wpAny_field hos hds (x:=vu) rfl (xAd (wpAny_field hos hds (x:=.none) rfl (xAe ?_)))))));refine xAd (slicePart_none ?_);show wpAny _ _ (if ((1:Int) == 0)=true then _ else _) _ _ s;rw [xCf (by decide)];refine xAd (f7 pl (xAd (f7 pu (xAd (xAe ?_)))));show wpAny _ _ (match Builtin.Slice.sliceAdjust lo hi 1 (n:Int) with | (lo,hi)=>pure (lo,(1:Int),Builtin.Slice.slicePlaces lo hi 1)) _ _ s;rw [j4 lo hi n];show wpAny _ _ (pure (((sIx n 0 lo:Nat):Int),(1:Int),Builtin.Slice.slicePlaces ((sIx n 0 lo:Nat):Int) ((sIx n n hi:Nat):Int) 1)) _ _ s;rw [jC];exact xAe h
theorem nK (xs:Array Value) (i k:Nat):((List.range k).filterMap fun (m:Nat)=>xs[((i:Int)+(m:Int) * 1).toNat]?).toArray=((xs.toList.drop i).take k).toArray:=by
 have e:(fun (m:Nat)=>xs[((i:Int)+(m:Int) * 1).toNat]?)=fun m=>xs[i+m]?:=by
  funext m
  have:((i:Int)+(m:Int) * 1).toNat=i+m:=by lia
  rw [this]
 rw [e];have:=pick_run xs i k;rw [List.filterMap_map] at this;have e2:((fun x=>xs[x]?) ∘ fun x=>i+x)=fun m=>xs[i+m]?:=rfl;rw [e2] at this;rw [this]
theorem getItem_tuple_cut {t sl:Addr} {items:Array Value} {vl vu:Value} {lo hi:Option Int} {Q:Value->Shared->Prop} (ht:IsTup s.heap t items) (hs:s.heap.IsSliceOf sl vl vu .none) (pl:IsPart vl lo) (pu:IsPart vu hi)
  (hw:¬ (sIx items.size 0 lo=0/\sIx items.size items.size hi=items.size))
  (h:Q (.ref s.heap.objs.size) { s with heap:=s.heap.push { cls:=.type "tuple",data:=.seq ((items.toList.drop (sIx items.size 0 lo)).take (sIx items.size items.size hi - sIx items.size 0 lo)).toArray } })
  (hsz:items.size<=sizeLine):wpAny (model prog w) A (getItem (.ref t) (.ref sl)) Q E s:=by
 have htake:sizeOk (.seq ((items.toList.drop (sIx items.size 0 lo)).take (sIx items.size items.size hi - sIx items.size 0 lo)).toArray):=by
  show ((items.toList.drop (sIx items.size 0 lo)).take (sIx items.size items.size hi - sIx items.size 0 lo)).toArray.size<=sizeLine;rw [xAp,List.length_take,List.length_drop,xAh];omega
 have hj:sIx items.size items.size hi<=items.size:=sK _ _ (xAg _) hi;obtain ⟨os,hos,hcs,hds⟩:=id hs;have hTs:s.TypeIs (.ref sl) "slice":=⟨os,hos,hcs⟩
 unfold getItem;try with_reducible refine wpAny_holding ?_
 first | refine xAd (xAe ?_) | skip
 refine xAd (wpAny_sequenceKey ht.typeIs (by decide) ?_);refine xAd (wpAny_callSpecial?_slot (name:=Str.ofString "__getitem__") ht.typeIs PyProof.Rows.slot_tuple_getitem
  (wpAny_call_entry PyProof.Rows.slot_tuple_getitem ht.typeIs entry_tuple_getitem ?_ (args_tuple_getitem _ _)))
 show wpAny _ _ (Builtin.Tuple.tupleItemsOf (.ref t) >>= _) _ _ s;refine xAd (tupleItemsOf_ ht ?_);refine xAd (wpAny_typeOf hTs ?_);rw [xCg (by decide)];refine xAd (fq hs pl pu ?_);have hno:¬ ((((sIx items.size 0 lo:Nat):Int) == 0 && (1:Int) == 1 && (sIx items.size items.size hi - sIx items.size 0 lo) == items.size)=true):=by
  intro q;rw [Bool.and_eq_true,Bool.and_eq_true] at q;have q1:((sIx items.size 0 lo:Nat):Int)=0:=eq_of_beq q.1.1;have q2:sIx items.size items.size hi - sIx items.size 0 lo=items.size:=eq_of_beq q.2;exact hw ⟨by omega,by omega⟩
 show wpAny _ _ (if (((sIx items.size 0 lo:Nat):Int) == 0 && (1:Int) == 1 && (sIx items.size items.size hi - sIx items.size 0 lo) == items.size)=true then _ else _) _ _ s;rw [xCf hno,nK];first
  | exact xAd (m:=Builtin.Tuple.tupleExact _) (xBl (xAe ⟨_,rfl,xAe h⟩) htake)
  | exact xAd (m:=Builtin.Tuple.tupleExact _) (xBl (xAd (xAe (xAe ⟨_,rfl,xAe h⟩))) htake)
  | exact xAd (xAd (m:=Builtin.Tuple.tupleExact _) (xBl (xAe (xAe ⟨_,rfl,xAe h⟩)) htake))
  | exact xAd (xAd (m:=Builtin.Tuple.tupleExact _) (xBl (xAe ⟨_,rfl,xAe h⟩) htake))
end
end HT
namespace L2
open PySem PySem.Spec PyProof.Rows
noncomputable abbrev TO:=St->Hp->(Option Int->Hp->Prop)->Prop
def PO (X:Cx) (e:Option Expr) (t:TO):Prop :=
 ∀ (pins:List (Addr×Obj)) (s:Shared) (σ:St) (H:Hp) (Q:Option Int->Hp->Prop),Inv X pins σ H s->t σ H Q ->
  wpAny (model X.prog X.w) X.A (evalPart e X.env) (fun u s'=>∃ o H',Inv X pins σ H' s'/\IsPart u o/\Q o H') X.xe s
noncomputable def tNoPart:TO:=fun _ H Q=>Q none H
noncomputable def tPart (t:TE):TO:=fun σ H Q=>t σ H fun x H1=>∃ i,x = .int i/\Q (some i) H1
section
variable {X:Cx} {e:Expr} {te:TE} {lo hi:Option Expr} {tl th:TO} {pos p2:Pos}
theorem kC:PO X none tNoPart:=by
 intro pins s σ H Q I h;rw [evalPart_none];exact xAe ⟨none,H,I,.none,h⟩
theorem fW (h:PE X e te):PO X (some e) (tPart te):=by
 intro pins s σ H Q I hw;rw [evalPart_some];refine thn (h pins s σ H _ I hw) fun u s1 zz=>?_;obtain ⟨x,H1,I1,r1,q1⟩:=zz;obtain ⟨i,rfl,q⟩:=q1;obtain ⟨t,rfl⟩:=r1;exact ⟨some i,H1,I1,.int i t,q⟩
def SlR (X:Cx) (r:V->Option Int->Option Int->Hp->VK->Prop):Prop :=
 ∀ (pins:List (Addr×Obj)) (s:Shared) (σ:St) (H:Hp) (x:V) (v vl vu:Value) (lo hi:Option Int) (sl:Addr) (Q:VK),Inv X pins σ H s->RelV x v->s.heap.IsSliceOf sl vl vu .none->IsPart vl lo->IsPart vu hi->r x lo hi H Q ->
  ∃ T id,typeLookup (.type T) "__getitem__"=pure (some (.builtin id))/\s.TypeIs v T/\wpAny (model X.prog X.w) X.A (getItem v (.ref sl)) (EP X pins σ Q) X.xe s
noncomputable def tSl (r:V->Option Int->Option Int->Hp->VK->Prop) (te:TE) (tl th:TO):TE:=fun σ H Q=>te σ H fun x H1=>tl σ H1 fun l H2=>th σ H2 fun u H3=>r x l u H3 Q
theorem gc {r:V->Option Int->Option Int->Hp->VK->Prop} (hr:SlR X r) (he:PE X e te) (hl:PO X lo tl) (hu:PO X hi th):PE X (.Subscript e (.Slice lo hi none p2) pos) (tSl r te tl th):=by
 intro pins s σ H Q I h;refine Subscript_ (thn (he pins s σ H _ I h) fun v s1 zz=>?_);obtain ⟨x,H1,I1,r1,q1⟩:=zz;refine wpAny_Slice (thn (hl pins s1 σ H1 _ I1 q1) fun vl s2 ⟨l,H2,I2,pl,q2⟩=>thn (hu pins s2 σ H2 _ I2 q2) fun vu s3 zz=>?_);obtain ⟨u,H3,I3,pu,q3⟩:=zz;rw [evalPart_none];refine xAe ?_;have I4:Inv X pins σ H3 { s3 with heap:=s3.heap.push { cls:=.type "slice",data:=.fields #[vl,vu,.none] } }:=I3.kept (t':=s3.toks) fun b ob q=>xAf _ q;obtain ⟨T,id,hT,ht,hg⟩:=hr pins { s3 with heap:=s3.heap.push { cls:=.type "slice",data:=.fields #[vl,vu,.none] } } σ H3 x v vl vu l u s3.heap.objs.size Q I4 r1 (Heap.IsSliceOf.new ..) pl pu q3;show wpAny (model X.prog X.w) X.A (subscriptTail e (.Slice lo hi none p2) v (.ref s3.heap.objs.size)) (EP X pins σ Q) X.xe { s3 with heap:=s3.heap.push { cls:=.type "slice",data:=.fields #[vl,vu,.none] } };exact tail_any (ops:=[.ref s3.heap.objs.size,v]) ht hT hg (by with_unfolding_all rfl)
noncomputable def cutV (xs:List V) (lo hi:Option Int):List V:=(xs.drop (HT.sIx xs.length 0 lo)).take (HT.sIx xs.length xs.length hi - HT.sIx xs.length 0 lo)
theorem fN (xs:List V) (lo hi:Option Int):(cutV xs lo hi).length<=xs.length:=by
 unfold cutV;rw [List.length_take,List.length_drop];lia
noncomputable def rSlT (K:xFr):V->Option Int->Option Int->Hp->VK->Prop:=fun x lo hi H Q=>∃ a xs,x = .ref a/\SqT K H a xs /\
 ¬ (HT.sIx xs.length 0 lo=0/\HT.sIx xs.length xs.length hi=xs.length)/\∀ p,H p=none->Q (.ref p) (upd H p (.tup (cutV xs lo hi)))
theorem jz:SlR X (rSlT X.K):=by
 intro pins s σ H x v vl vu lo hi sl Q I rx hs pl pu h;obtain ⟨a,xs,rfl,hx,hw,q⟩:=h;cases rx;obtain ⟨its,r,ht,hz⟩:=I.tuple hx;have hlen:its.toArray.size=xs.length:=by rw [xAp];exact r.length.symm
 refine ⟨"tuple",_,PyProof.Rows.slot_tuple_getitem.lookup,ht.typeIs,?_⟩;refine HT.getItem_tuple_cut ht hs pl pu (by rw [hlen];exact hw) ?_ (by rw [hlen];exact hz);rw [hlen];refine ⟨.ref s.heap.objs.size,_,I.laid (t':=s.toks) (o:=.tup (cutV xs lo hi)) (fun b ob q=>xAf _ q) (xAg _) ?_,rfl,q _ (I.hok.fresh (xAg _))⟩;exact ⟨Nat.le_trans (fN xs lo hi) hz,_,(r.drop (HT.sIx xs.length 0 lo)).take (HT.sIx xs.length xs.length hi - HT.sIx xs.length 0 lo),IsTup.new _ _⟩
noncomputable def rCatT (K:xFr):R2:=fun x y H Q=>∃ a b xs ys,x = .ref a/\y = .ref b/\SqT K H a xs/\SqT K H b ys/\xs≠[]/\xs.length+ys.length<=sizeLine /\
 (ys=[]->Q (.ref a) H)/\(ys≠[]->∀ p,H p=none->Q (.ref p) (upd H p (.tup (xs++ys))))
theorem Vals.nil_iff {xs:List V} {us:List Value} (r:Vals xs us):us=[]↔xs=[]:=by
 cases r with
 | nil=>simp
 | cons _ _=>simp
theorem qy:OpR X (binaryOp .Add) (rCatT X.K):=by
 intro pins s σ H x y v u Q I rx ry h;obtain ⟨a,b,xs,ys,rfl,rfl,ha,hb,hx,hz,q1,q2⟩:=h;cases rx;cases ry;obtain ⟨its,r1,p1,_⟩:=I.tuple ha;obtain ⟨its2,r2,p2,_⟩:=I.tuple hb;refine HT.cat_tup p1 p2 (fun z=>hx (r1.nil_iff.mp z)) (fun z=>⟨.ref a,H,I,rfl,q1 (r2.nil_iff.mp z)⟩) (fun z=>?_) (by rw [<- r1.length,<- r2.length];exact hz);refine ⟨.ref s.heap.objs.size,_,I.laid (t':=s.toks) (o:=.tup (xs++ys)) (fun b ob q=>xAf _ q) (xAg _) ?_,rfl,q2 (fun w=>z (r2.nil_iff.mpr w)) _ (I.hok.fresh (xAg _))⟩;exact ⟨by rw [xAb];exact hz,_,r1.append r2,IsTup.new _ _⟩
end
end L2
namespace L2
open PySem PySem.Spec PyProof.Rows
noncomputable def ixN (n:Nat) (i:Int):Option Nat:=if 0<=i then (if i<n then some i.toNat else none) else if -(n:Int)<=i then some (i+n).toNat else none
noncomputable def atI {α:Type} (xs:List α) (i:Int):Option α:=(ixN xs.length i).bind fun j=>xs[j]?
theorem kN {n:Nat} {i:Int} {j:Nat} (h:ixN n i=some j):seqIndex? i n=some j/\j<n/\-(n:Int)<=i/\i<n:=by
 unfold ixN at h;by_cases h0:0<=i
 ·rw [xCg h0] at h;by_cases h1:i<n
  ·rw [xCg h1] at h;have e:i.toNat=j:=xB3 h;exact ⟨by rw [seqIndex_of h0 h1,e],by lia,by lia,h1⟩
  ·rw [xCf h1] at h;cases h
 ·rw [xCf h0] at h;by_cases h1:-(n:Int)<=i
  ·rw [xCg h1] at h;have e:(i+n).toNat=j:=xB3 h;exact ⟨by rw [seqIndex_neg (by lia) h1,e],by lia,h1,by lia⟩
  ·rw [xCf h1] at h;cases h
theorem iD {α:Type} {xs:List α} {i:Int} {v:α} (h:atI xs i=some v):∃ j,seqIndex? i xs.length=some j/\xs[j]?=some v/\j<xs.length/\-(xs.length:Int)<=i/\i<xs.length:=by
 unfold atI at h;cases e:ixN xs.length i with
 | none=>rw [e] at h;cases h
 | some j =>
  rw [e] at h;obtain ⟨h1,h2,h3,h4⟩:=kN e;exact ⟨j,h1,h,h2,h3,h4⟩
theorem eh {α:Type} {xs:List α} {j:Nat} {v:α} (h:xs[j]?=some v):atI xs (j:Int)=some v:=by
 have hj:j<xs.length:=(xAq.mp h).1;have e:ixN xs.length (j:Int)=some j:=by
  unfold ixN;rw [xCg (by lia),xCg (by lia)];simp
 unfold atI;rw [e];exact h
def PlainIx (b:Expr):Prop:=∀ o i,subscripted b false o i=operate [o,i] (getItem o i)
def IxR (X:Cx) (r:R2):Prop :=
 ∀ (value slice:Expr) (pins:List (Addr×Obj)) (s:Shared) (σ:St) (H:Hp) (x y:V) (v u:Value) (Q:VK),Inv X pins σ H s->RelV x v->RelV y u->r x y H Q ->
  subscripted slice false v u=operate [v,u] (getItem v u)->wpAny (model X.prog X.w) X.A (subscriptTail value slice v u) (EP X pins σ Q) X.xe s
def MtR (X:Cx) (id:String) (r:V->List V->Hp->VK->Prop):Prop :=
 ∀ (pins:List (Addr×Obj)) (s:Shared) (σ:St) (H:Hp) (x:V) (xs:List V) (v:Value) (us:List Value) (Q:VK),Inv X pins σ H s->RelV x v->Vals xs us->r x xs H Q ->
  wpAny (model X.prog X.w) X.A (call (.builtin id) (v::us)) (EP X pins σ Q) X.xe s
section
variable {X:Cx} {a b:Expr} {ta tb:TE} {pos:Pos}
theorem IxR.or {r r':R2} (h:IxR X r) (h':IxR X r'):IxR X (fun x y H Q=>r x y H Q\/r' x y H Q):=by
 intro value slice pins s σ H x y v u Q I rx ry q hs;rcases q with q | q
 ·exact h value slice pins s σ H x y v u Q I rx ry q hs
 ·exact h' value slice pins s σ H x y v u Q I rx ry q hs
theorem vR {r:R2} (hr:IxR X r) (ha:PE X a ta) (hb:PE X b tb) (hs:PlainIx b):PE X (.Subscript a b pos) (tOp r ta tb):=by
 intro pins s σ H Q I h;exact Subscript_ (binT ha hb I h fun v u s2 x y H2 I2 rx ry q=>hr a b pins s2 σ H2 x y v u Q I2 rx ry q (hs _ _))
noncomputable def rIxL (K:xFr):R2:=fun x y H Q=>∃ p xs i v,x = .ref p/\y = .int i/\SqL K H p xs/\atI xs i=some v/\Q v H
noncomputable def rIxT (K:xFr):R2:=fun x y H Q=>∃ p xs i v,x = .ref p/\y = .int i/\SqT K H p xs/\atI xs i=some v/\Q v H
noncomputable def rIxS:R2:=fun x y H Q=>∃ z i c,x = .str z/\y = .int i/\z.length<=sizeLine/\atI z.cps.toList i=some c/\Q (.str ⟨#[c]⟩) H
theorem qG:IxR X (rIxL X.K):=by
 intro value slice pins s σ H x y v u Q I rx ry h hs;obtain ⟨p,xs,i,z,rfl,rfl,hq,he,q⟩:=h;cases rx;obtain ⟨t,rfl⟩:=ry;obtain ⟨its,r,pl,hz⟩:=I.list hq;obtain ⟨j,h1,h2,h3,h4,h5⟩:=iD he;obtain ⟨w,ew,rw'⟩:=r.get h2;have hl:=r.length;have hn:=line63;have fin:EP X pins σ Q w s:=⟨z,H,I,rw',q⟩
 by_cases h0:0<=i
 ·have hj:i.toNat=j:=by
   rw [seqIndex_of h0 h5] at h1;exact xB3 h1
  exact item_listR pl.isList h0 (by lia) (by rw [hj];simpa using ew) fin hs
 ·have hj:(i+(its.toArray.size:Int)).toNat=j:=by
   rw [seqIndex_neg (by lia) h4] at h1;rw [xAp,<- hl];exact xB3 h1
  exact subscriptTail_builtinR (x:=w) pl.isList.typeIs slot_list_getitem.lookup
   (wpAny_getItem_list_neg (Q:=fun r s'=>r=w/\EP X pins σ Q r s') pl.isList (by lia) (by rw [xAp] <;> lia) (by lia) (by rw [hj];simpa using ew) ⟨rfl,fin⟩) hs
theorem ut:IxR X (rIxT X.K):=by
 intro value slice pins s σ H x y v u Q I rx ry h hs;obtain ⟨p,xs,i,z,rfl,rfl,hq,he,q⟩:=h;cases rx;obtain ⟨t,rfl⟩:=ry;obtain ⟨its,r,pl,hz⟩:=I.tuple hq;obtain ⟨j,h1,h2,h3,h4,h5⟩:=iD he;obtain ⟨w,ew,rw'⟩:=r.get h2;have hl:=r.length;have hn:=line63;have fin:EP X pins σ Q w s:=⟨z,H,I,rw',q⟩
 exact subscriptTail_builtinR (x:=w) pl.typeIs slot_tuple_getitem.lookup
  (getItem_tuple (j:=j) (Q:=fun r s'=>r=w/\EP X pins σ Q r s') pl (by lia) (by lia) (by rw [xAp,<- hl];exact h1) (by simpa using ew) ⟨rfl,fin⟩) hs
theorem uv:IxR X rIxS:=by
 intro value slice pins s σ H x y v u Q I rx ry h hs;obtain ⟨z,i,c,rfl,rfl,hz,he,q⟩:=h;obtain ⟨t,rfl⟩:=rx;obtain ⟨t',rfl⟩:=ry;obtain ⟨j,h1,h2,h3,h4,h5⟩:=iD he;have hl:z.cps.toList.length=z.length:=by simp [Str.length]
 rw [hl] at h1 h4 h5;have hn:=line63;exact tail_any (typeIs_str s z t) slot_str_getitem.lookup (getItem_str (c:=c) (by
  have e1:decide (i < -(2 ^ 63:Int))=false:=decide_eq_false (by lia);have e2:decide (i >= 2 ^ 63)=false:=decide_eq_false (by lia);rw [e1,e2,Bool.or_false]) (by rw [h1];simpa using h2) ⟨.str ⟨#[c]⟩,H,I.tok _,⟨_,rfl⟩,q⟩) hs
noncomputable def rIx (K:xFr):R2:=fun x y H Q=>rIxL K x y H Q\/rIxT K x y H Q\/rIxS x y H Q
theorem uw:IxR X (rIx X.K):=qG.or (ut.or uv)
theorem jI (its:List Value) (n j:Nat) (u:Value):Obj.mapSeq (·.setIfInBounds j u) { cls:=.type "list",data:=.seq its.toArray n }={ cls:=.type "list",data:=.seq (its.set j u).toArray n }:=by
 simp [Obj.mapSeq]
theorem Inv.lst {pins:List (Addr×Obj)} {σ:St} {H:Hp} {s:Shared} {p:Addr} {xs:List V} (I:Inv X pins σ H s) (h:H p=some (.lst xs)) :
  ∃ (its:List Value) (n:Nat),Vals xs its/\s.heap.get? p=some { cls:=.type "list",data:=.seq its.toArray n }/\xs.length<=sizeLine:=by
 obtain ⟨z,its,n,r,e⟩:=I.hok p _ h;exact ⟨its,n,r,e,z⟩
theorem Inv.lstUpd {pins:List (Addr×Obj)} {σ:St} {H:Hp} {s:Shared} {p:Addr} {xs ys:List V} {its its':List Value} {n n':Nat} {f:Obj->Obj} (I:Inv X pins σ H s) (h:H p=some (.lst xs))
  (ho:s.heap.get? p=some { cls:=.type "list",data:=.seq its.toArray n }) (hf:f { cls:=.type "list",data:=.seq its.toArray n }={ cls:=.type "list",data:=.seq its'.toArray n' }) (r:Vals ys its') (hz:ys.length<=sizeLine) (t:Nat) :
  Inv X pins σ (upd H p (.lst ys)) { s with heap:=s.heap.update p f,toks:=t }:=by
 have e:(s.heap.update p f).get? p=some { cls:=.type "list",data:=.seq its'.toArray n' }:=by
  rw [Heap.get?_update_self f ho (by rw [hf] <;> rfl),hf]
 refine I.write (x:=p) (e:=p) (by rw [h];trivial) (.inl rfl) (fun b u hb q=>(Heap.get?_update_other _ _ (Ne.symm hb)).trans q) ⟨_,e⟩ ?_;exact ⟨hz,its',n',r,e⟩
noncomputable def rSetL:V->V->V->Hp->(Hp->Prop)->Prop:=fun o i v H Q=>∃ p xs k j,o = .ref p/\i = .int k/\H p=some (.lst xs)/\ixN xs.length k=some j/\Q (upd H p (.lst (xs.set j v)))
theorem ni:PSet X rSetL:=by
 intro pins s σ H o i v ov iv u Q I ro ri rv h;obtain ⟨p,xs,k,j,rfl,rfl,hp,hj,q⟩:=h;cases ro;obtain ⟨t,rfl⟩:=ri;obtain ⟨its,n,r,ho,hz⟩:=I.lst hp;obtain ⟨h1,h2,h3,h4⟩:=kN hj;have hl:=r.length;have hn:=line63;have I':Inv X pins σ (upd H p (.lst (xs.set j v))) { s with heap:=s.heap.update p (Obj.mapSeq (·.setIfInBounds j u)) } :=
  I.lstUpd hp ho (jI its n j u) (r.set rv j) (by rw [List.length_set];exact hz) s.toks
 by_cases h0:0<=k
 ·have hk:k.toNat=j:=by
   rw [seqIndex_of h0 h4] at h1;exact xB3 h1
  exact W.ki_setAt ho h0 (by lia) (by rw [xAp,<- hl];exact h4) (by rw [hk];exact ⟨_,I',q⟩)
 ·have hk:(k+(its.toArray.size:Int)).toNat=j:=by
   rw [seqIndex_neg (by lia) h3] at h1;rw [xAp,<- hl];exact xB3 h1
  exact W.ki_setBack ho (by lia) (by rw [xAp,<- hl];exact h3) (by lia) (by rw [hk];exact ⟨_,I',q⟩)
theorem g8 (lo hi:Option Int) (n:Nat):(sliceBounds lo hi none n).1=((HT.sIx n 0 lo:Nat):Int)/\(sliceBounds lo hi none n).2.1=((HT.sIx n n hi:Nat):Int)/\(sliceBounds lo hi none n).2.2=1:=by
 refine ⟨?_,?_,rfl⟩
 ·cases lo with
  | none=>simp [sliceBounds,HT.sIx]
  | some i =>
   simp only [sliceBounds,HT.sIx,Option.getD_none,show (1:Int) > 0 by decide,if_true];by_cases h:i<0
   ·simp only [h,if_true] <;> lia
   ·simp only [h,if_false] <;> lia
 ·cases hi with
  | none=>simp [sliceBounds,HT.sIx]
  | some i =>
   simp only [sliceBounds,HT.sIx,Option.getD_none,show (1:Int) > 0 by decide,if_true];by_cases h:i<0
   ·simp only [h,if_true] <;> lia
   ·simp only [h,if_false] <;> lia
theorem gE (its:List Value) (lo hi:Option Int):slicePick its.toArray lo hi none=((its.drop (HT.sIx its.length 0 lo)).take (HT.sIx its.length its.length hi - HT.sIx its.length 0 lo)).toArray:=by
 obtain ⟨h1,h2,h3⟩:=g8 lo hi its.toArray.size;unfold slicePick;rw [h1,h2,h3];simp only [sliceRange_one,pick_run,xAp] <;> rfl
noncomputable def rSlL (K:xFr):V->Option Int->Option Int->Hp->VK->Prop:=fun x lo hi H Q=>∃ a xs,x = .ref a/\SqL K H a xs/\∀ p,H p=none->Q (.ref p) (upd H p (.lst (cutV xs lo hi)))
theorem g9:SlR X (rSlL X.K):=by
 intro pins s σ H x v vl vu lo hi sl Q I rx hs pl pu h;obtain ⟨a,xs,rfl,hx,q⟩:=h;cases rx;obtain ⟨its,r,ht,hz⟩:=I.list hx;have hlen:=r.length;refine ⟨"list",_,slot_list_getitem.lookup,ht.isList.typeIs,?_⟩;refine wpAny_getItem_list_slice ht.isList hs pl pu .none (by simp) ?_ (by rw [xAp] <;> lia);rw [gE,<- hlen];refine ⟨.ref s.heap.objs.size,_,I.laid (t':=s.toks) (o:=.lst (cutV xs lo hi)) (fun b ob q=>xAf _ q) (xAg _) ?_,rfl,q _ (I.hok.fresh (xAg _))⟩;exact ⟨Nat.le_trans (fN xs lo hi) hz,_,0,(r.drop (HT.sIx xs.length 0 lo)).take (HT.sIx xs.length xs.length hi - HT.sIx xs.length 0 lo),xAl _ rfl⟩
noncomputable def flatV:V->Bool
 | .non=>true
 | .bl _=>true
 | .int _=>true
 | .str _=>true
 | _=>false
noncomputable def eqV:V->V->Bool
 | .non,.non=>true
 | .bl a,.bl b=>a == b
 | .bl a,.int b=>(if a then 1 else 0) == b
 | .int a,.bl b=>a == (if b then 1 else 0)
 | .int a,.int b=>a == b
 | .str a,.str b=>a == b
 | _,_=>false
theorem oY {A:Around} {s:Shared} {y x:V} {u v:Value} (ry:RelV y u) (rx:RelV x v) (fy:flatV y=true) (fx:flatV x=true):SeqAt.EqAt A s u v (eqV y x):=by
 cases y with
 | non =>
  cases ry;cases x with
  | non=>cases rx;exact SeqAt.EqAt.same _
  | bl b=>cases rx;exact SeqAt.EqAt.none_bool b
  | int b=>obtain ⟨t,rfl⟩:=rx;exact SeqAt.EqAt.none_int b t
  | str b=>obtain ⟨t,rfl⟩:=rx;exact SeqAt.EqAt.none_str b t
  | _=>exact absurd (show false=true from fx) xAy
 | bl a =>
  cases ry;cases x with
  | non=>cases rx;exact SeqAt.EqAt.bool_none a
  | bl b=>cases rx;exact SeqAt.EqAt.bool_bool a b
  | int b=>obtain ⟨t,rfl⟩:=rx;exact SeqAt.EqAt.bool_int a b t
  | str b=>obtain ⟨t,rfl⟩:=rx;exact SeqAt.EqAt.bool_str a b t
  | _=>exact absurd (show false=true from fx) xAy
 | int a =>
  obtain ⟨t',rfl⟩:=ry;cases x with
  | non=>cases rx;exact SeqAt.EqAt.int_none a t'
  | bl b=>cases rx;exact SeqAt.EqAt.int_bool a t' b
  | int b=>obtain ⟨t,rfl⟩:=rx;exact SeqAt.EqAt.int_int a t' b t
  | str b=>obtain ⟨t,rfl⟩:=rx;exact SeqAt.EqAt.int_str a t' b t
  | _=>exact absurd (show false=true from fx) xAy
 | str a =>
  obtain ⟨t',rfl⟩:=ry;cases x with
  | non=>cases rx;exact SeqAt.EqAt.str_none a t'
  | bl b=>cases rx;exact SeqAt.EqAt.str_bool a t' b
  | int b=>obtain ⟨t,rfl⟩:=rx;exact SeqAt.EqAt.str_int a t' b t
  | str b=>obtain ⟨t,rfl⟩:=rx;exact SeqAt.EqAt.str_str a t' b t
  | _=>exact absurd (show false=true from fx) xAy
 | _=>exact absurd (show false=true from fy) xAy
noncomputable def eqU (x:V) (u:Value):Bool:=match u with
 | .none=>eqV .non x
 | .bool b=>eqV (.bl b) x
 | .int i _=>eqV (.int i) x
 | .str z _=>eqV (.str z) x
 | _=>false
theorem oW {x y:V} {u:Value} (r:RelV y u) (f:flatV y=true):eqU x u=eqV y x:=by
 cases y with
 | non=>cases r;rfl
 | bl b=>cases r;rfl
 | int i=>obtain ⟨t,rfl⟩:=r;rfl
 | str z=>obtain ⟨t,rfl⟩:=r;rfl
 | _=>exact absurd (show false=true from f) xAy
theorem fm {x:V}:∀ {xs:List V} {us:List Value},Vals xs us->xs.all flatV=true->us.any (eqU x)=xs.any fun y=>eqV y x
 | _,_,.nil,_=>rfl
 | y::xs,u::us,.cons r t,f=>by
  rw [List.all_cons,Bool.and_eq_true] at f;rw [List.any_cons,List.any_cons,oW r f.1,fm t f.2]
theorem eU {A:Around} {s:Shared} {x:V} {v:Value} (rx:RelV x v) (fx:flatV x=true):∀ {xs:List V} {us:List Value},Vals xs us->xs.all flatV=true->∀ u∈us,SeqAt.EqAt A s u v (eqU x u)
 | _,_,.nil,_=>fun u hu=>by cases hu
 | y::xs,u::us,.cons r t,f=>fun u' hu=>by
  rw [List.all_cons,Bool.and_eq_true] at f;rcases xAv.mp hu with rfl | hu
  ·rw [oW r f.1];exact oY r rx f.1 fx
  ·exact eU rx fx t f.2 u' hu
noncomputable def inV (x:V) (xs:List V):Bool:=xs.any fun y=>eqV y x
noncomputable def rIn (K:xFr) (neg:Bool):R2:=fun x y H Q=>∃ p xs,y = .ref p/\(SqL K H p xs\/SqT K H p xs)/\flatV x=true/\xs.all flatV=true/\Q (.bl (if neg then !inV x xs else inV x xs)) H
theorem lP:OpR X (compareOp .In) (rIn X.K false):=by
 intro pins s σ H x y v u Q I rx ry h;obtain ⟨p,xs,rfl,hq,fx,fs,q⟩:=h;cases ry;rcases hq with hq | hq
 ·obtain ⟨its,r,pl,hz⟩:=I.list hq;refine SeqAt.in_listAt (eqU x) pl.isList (fun w hw=>eU rx fx r fs w (by simpa using hw)) ⟨.bl _,H,I,rfl,?_⟩;rw [show its.toArray.any (eqU x)=its.any (eqU x) by simp,fm r fs];exact q
 ·obtain ⟨its,r,pl,hz⟩:=I.tuple hq;refine SeqAt.in_tupleAt (eqU x) pl (fun w hw=>eU rx fx r fs w (by simpa using hw)) ⟨.bl _,H,I,rfl,?_⟩;rw [show its.toArray.any (eqU x)=its.any (eqU x) by simp,fm r fs];exact q
theorem hZ:OpR X (compareOp .NotIn) (rIn X.K true):=by
 intro pins s σ H x y v u Q I rx ry h;obtain ⟨p,xs,rfl,hq,fx,fs,q⟩:=h;cases ry;rcases hq with hq | hq
 ·obtain ⟨its,r,pl,hz⟩:=I.list hq;refine SeqAt.notIn_listAt (eqU x) pl.isList (fun w hw=>eU rx fx r fs w (by simpa using hw)) ⟨.bl _,H,I,rfl,?_⟩;rw [show its.toArray.any (eqU x)=its.any (eqU x) by simp,fm r fs];exact q
 ·obtain ⟨its,r,pl,hz⟩:=I.tuple hq;refine SeqAt.notIn_tupleAt (eqU x) pl (fun w hw=>eU rx fx r fs w (by simpa using hw)) ⟨.bl _,H,I,rfl,?_⟩;rw [show its.toArray.any (eqU x)=its.any (eqU x) by simp,fm r fs];exact q
theorem iC:CallR X (.type "list") (fun xs H Q=>∃ p ys,xs=[.ref p]/\(SqL X.K H p ys\/SqT X.K H p ys)/\∀ l,H l=none->Q (.ref l) (upd H l (.lst ys))):=by
 intro pins s σ H xs us Q I r h;obtain ⟨p,ys,rfl,hq,q⟩:=h;obtain ⟨u,rfl,rx⟩:=vals1 r;cases rx;have fin:∀ (its:List Value),Vals ys its->ys.length<=sizeLine->∀ (h':Heap) (c':Nat),(∀ b o',s.heap.get? b=some o'->h'.get? b=some o') ->
   h'.get? s.heap.objs.size=some { cls:=.type "list",dict:=none,data:=.seq its.toArray c',slots:=#[] }->EP X pins σ Q (.ref s.heap.objs.size) { s with heap:=h' }:=fun its r' hz h' c' kp e =>
  ⟨.ref s.heap.objs.size,_,I.laid (t':=s.toks) kp (xAg _) (show ObjOk X.prog X.w _ h' _ (.lst ys) from ⟨hz,its,c',r',e⟩),rfl,q _ (I.hok.fresh (xAg _))⟩
 rcases hq with hq | hq
 ·obtain ⟨its,r',pl,hz⟩:=I.list hq;have hlen:=r'.length;obtain ⟨o,ho,hc,n,hd⟩:=pl.isList;exact call_list_seq p (.inl rfl) ho hc hd (fun h' c' kp e=>fin its r' hz h' c' kp e) (by simp only [xAp] <;> lia)
 ·obtain ⟨its,r',pl,hz⟩:=I.tuple hq;have hlen:=r'.length;obtain ⟨o,ho,hc,n,hd⟩:=pl;exact call_list_seq p (.inr rfl) ho hc hd (fun h' c' kp e=>fin its r' hz h' c' kp e) (by simp only [xAp] <;> lia)
theorem gH:CallR X (.type "tuple") (fun xs H Q=>∃ p ys,xs=[.ref p]/\((SqL X.K H p ys/\∀ l,H l=none->Q (.ref l) (upd H l (.tup ys)))\/(SqT X.K H p ys/\Q (.ref p) H))):=by
 intro pins s σ H xs us Q I r h;obtain ⟨p,ys,rfl,h⟩:=h;obtain ⟨u,rfl,rx⟩:=vals1 r;cases rx;rcases h with ⟨hq,q⟩ | ⟨hq,q⟩
 ·obtain ⟨its,r',pl,hz⟩:=I.list hq;have hlen:=r'.length;refine call_tuple_list pl.isList (fun h' kp=>?_) (by simp only [xAp] <;> lia);have I1:Inv X pins σ H { s with heap:=h' }:=I.kept (t':=s.toks) kp;have I2:Inv X pins σ (upd H h'.objs.size (.tup ys)) { s with heap:=h'.push { cls:=.type "tuple",data:=.seq its.toArray } } :=
   I1.laid (t':=s.toks) (fun b o e=>xAf _ e) (xAg _) (show ObjOk X.prog X.w _ _ _ (.tup ys) from ⟨hz,its,r',IsTup.new _ _⟩)
  exact ⟨.ref h'.objs.size,_,I2,rfl,q _ (I1.hok.fresh (xAg _))⟩
 ·obtain ⟨its,r',pl,hz⟩:=I.tuple hq;exact call_tuple_same pl ⟨.ref p,H,I,rfl,q⟩
def tyV (K:xFr) (T:String) (x:V) (H:Hp):Prop:=match x with
 | .str _=>T="str"
 | .int _=>T="int"
 | .ref p=>(T="list"/\∃ xs,SqL K H p xs)\/(T="tuple"/\∃ o,K.lookup p=some o/\o.cls = .type "tuple"/\o.dict=none) \/
   (T="dict"/\((∃ kvs,H p=some (.dK kvs))\/∃ kvs,H p=some (.dT kvs)))\/(T="set"/\∃ S n,H p=some (.set S n))
 | _=>False
theorem mZ {pins:List (Addr×Obj)} {σ:St} {H:Hp} {s:Shared} {T:String} {x:V} {v:Value} (I:Inv X pins σ H s) (r:RelV x v) (ty:tyV X.K T x H) :
  s.TypeIs v T/\∀ a,v = .ref a->∃ ob,s.heap.get? a=some ob/\ob.dict=none:=by
 cases x with
 | str z =>
  obtain ⟨t,rfl⟩:=r;cases (show T="str" from ty);exact ⟨typeIs_str s z t,fun _ e=>nomatch e⟩
 | int i =>
  obtain ⟨t,rfl⟩:=r;cases (show T="int" from ty);exact ⟨typeIs_int s i t,fun _ e=>nomatch e⟩
 | ref p =>
  cases r;rcases ty with ⟨rfl,xs,hq⟩ | ⟨rfl,o,hk,hc,hd⟩ | ⟨rfl,hk⟩ | ⟨rfl,S,n,hk⟩
  ·obtain ⟨its,_,pl,_⟩:=I.list hq;refine ⟨pl.isList.typeIs,fun a e=>?_⟩;cases e;obtain ⟨o,n,e,c,hd,_⟩:=pl;exact ⟨o,e,hd⟩
  ·refine ⟨⟨o,I.kIn p o hk,hc⟩,fun a e=>?_⟩;cases e;exact ⟨o,I.kIn _ o hk,hd⟩
  ·have z:∃ o,s.heap.get? p=some o/\o.ExactDict:=by
    rcases hk with ⟨kvs,hk⟩ | ⟨kvs,hk⟩
    ·obtain ⟨_,_,_,_,o,_,_,e,ex,_⟩:=I.hok p _ hk;exact ⟨o,e,ex⟩
    ·obtain ⟨_,_,_,_,o,_,_,e,ex,_⟩:=I.hok p _ hk;exact ⟨o,e,ex⟩
   obtain ⟨o,e,ex⟩:=z;refine ⟨⟨o,e,ex.1⟩,fun a e2=>?_⟩;cases e2;exact ⟨o,e,ex.2.1⟩
  ·obtain ⟨o,_,_,_,e,ex,_⟩:=I.hok p _ hk;refine ⟨⟨o,e,ex.1⟩,fun a e2=>?_⟩;cases e2;exact ⟨o,e,ex.2.1⟩
 | _=>exact False.elim ty
noncomputable def tBM0 (K:xFr) (T:String) (r:V->List V->Hp->VK->Prop) (to:TE):TE:=fun σ H Q=>to σ H fun x H1=>tyV K T x H1/\r x [] H1 Q
noncomputable def tBM (K:xFr) (T:String) (r:V->List V->Hp->VK->Prop) (to:TE) (t:TA):TE:=fun σ H Q=>to σ H fun x H1=>tyV K T x H1/\t σ H1 fun xs H2=>r x xs H2 Q
variable {o e:Expr} {es:List Expr} {to:TE} {t:TA} {name:Str} {apos cpos:Pos} {T id:String} {r:V->List V->Hp->VK->Prop}
theorem tO (pa:PlainAttrs T) (slot:Slot T name id) (hty:typeOf (.builtin id)=pure (.type "method_descriptor")) (hm:MtR X id r) (ho:PE X o to)
  (hbase:attributeBase o name X.env (eval o X.env)=eval o X.env:=by rfl) (hline:(apos.endLine == cpos.line)=true:=by rfl):PE X (.Call (.Attribute o name apos) [] [] cpos) (tBM0 X.K T r to):=by
 intro pins s σ H Q I h;refine wpAny_Call_method0_late hbase hline (thn (ho pins s σ H _ I h) fun v s1 zz=>?_);obtain ⟨x,H1,I1,r1,ty,q1⟩:=zz;obtain ⟨h1,h2⟩:=mZ I1 r1 ty;exact ⟨T,id,pa,slot,hty,h1,h2,Calls.callWith_builtin rfl (PySem.evalArgs_none (hm pins s1 σ H1 x [] v [] Q I1 r1 .nil q1))⟩
theorem vS (pa:PlainAttrs T) (slot:Slot T name id) (hty:typeOf (.builtin id)=pure (.type "method_descriptor")) (hm:MtR X id r) (ho:PE X o to) (ha:PA X (e::es) t)
  (hbase:attributeBase o name X.env (eval o X.env)=eval o X.env:=by rfl)
  (hfew:((backTo cpos (starEach (e::es) X.env)).all (fun x=>!x.1) && (backToKw cpos (keywordEach [] X.env)).all (fun x=>x.1.isSome)
   && decide ((e::es).length+([]:List Keyword).length+(if ([]:List Keyword).isEmpty then 0 else 1)<30))=true:=by rfl)
  (hline:(apos.endLine == cpos.line)=true:=by rfl) (hs:starEach (e::es) X.env=(false,eval e X.env)::starEach es X.env:=by rfl) (hplain:(backTo cpos (starEach es X.env)).any (·.1)=false:=by rfl) :
  PE X (.Call (.Attribute o name apos) (e::es) [] cpos) (tBM X.K T r to t):=by
 intro pins s σ H Q I h;refine wpAny_Call_method_late hbase hfew hline rfl (thn (ho pins s σ H _ I h) fun v s1 zz=>?_);obtain ⟨x,H1,I1,r1,ty,q1⟩:=zz;obtain ⟨h1,h2⟩:=mZ I1 r1 ty;refine ⟨T,id,pa,slot,hty,h1,h2,?_⟩;have hA:=ha cpos pins s1 σ H1 _ I1 q1;rw [hs] at hA ⊢;refine Calls.callWith_builtin (by show (false || (backTo cpos (starEach es X.env)).any (·.1))=false;rw [hplain] <;> rfl) (Calls.evalArgs_plain ?_);exact thn hA fun us s2 ⟨vs,H2,I2,r2,q2⟩=>hm pins s2 σ H2 x vs v us Q I2 r1 r2 q2
end
end L2
namespace L2
open PySem PySem.Spec PyProof.Rows
def MtM (X:Cx) (id:String) (r:V->List V->Hp->VK->Prop):Prop :=
 ∀ (pins:List (Addr×Obj)) (s:Shared) (σ:St) (H:Hp) (x:V) (xs:List V) (v:Value) (us:List Value) (Q:VK),Inv X pins σ H s->RelV x v->Vals xs us->r x xs H Q ->
  wpAny (model X.prog X.w) X.A (call (.builtin id) (v::us)) (EP X pins σ Q) X.xe s
theorem Vals.one:∀ {x:V} {us:List Value},Vals [x] us->∃ u,us=[u]/\RelV x u
 | _,_,.cons r .nil=>⟨_,rfl,r⟩
theorem Vals.zero:∀ {us:List Value},Vals [] us->us=[]
 | _,.nil=>rfl
theorem Vals.dropLast {xs:List V} {us:List Value} (h:Vals xs us):Vals xs.dropLast us.dropLast:=by
 induction h with
 | nil=>exact .nil
 | cons r t ih =>
  cases t with
  | nil=>exact .nil
  | cons q t'=>exact .cons r ih
theorem jT {α:Type} (l:List α):l.eraseIdx (l.length - 1)=l.dropLast:=by
 induction l with
 | nil=>rfl
 | cons a r ih =>
  cases r with
  | nil=>rfl
  | cons b r =>
   have e:(a::b::r).length - 1=((b::r).length - 1)+1:=by
    have h1:(a::b::r).length=r.length+2:=rfl;have h2:(b::r).length=r.length+1:=rfl;lia
   rw [e,List.eraseIdx_cons_succ,ih];all_goals rfl
section
variable {X:Cx} {pins:List (Addr×Obj)} {σ:St} {H:Hp} {s:Shared} {l b:Addr} {xs ys zs:List V}
theorem Inv.lset {its its':List Value} {n:Nat} {f:Array Value->Array Value} {t':Nat} (I:Inv X pins σ H s) (hH:H l=some (.lst xs))
  (e:s.heap.get? l=some { cls:=.type "list",data:=.seq its.toArray n }) (hf:f its.toArray=its'.toArray) (hv:Vals ys its') (hz:ys.length<=sizeLine) :
  Inv X pins σ (upd H l (.lst ys)) { s with heap:=s.heap.update l (Obj.mapSeq f),toks:=t' }:=by
 have q:=PySem.IsL.update e f;rw [hf] at q;refine I.write (x:=l) (e:=l) (by rw [hH];exact trivial) (.inl rfl) (fun b' u hb hu=>(Heap.get?_update_other s.heap (Obj.mapSeq f) (Ne.symm hb)).trans hu) ⟨_,q⟩ ?_;exact ⟨hz,its',_,hv,q⟩
theorem Inv.lnew {its:List Value} {t':Nat} (I:Inv X pins σ H s) (hv:Vals ys its) (hz:ys.length<=sizeLine) :
  Inv X pins σ (upd H s.heap.objs.size (.lst ys)) { s with heap:=s.heap.push { cls:=.type "list",data:=.seq its.toArray },toks:=t' } :=
 I.laid (fun _ _ q=>xAf _ q) (xAg _) ⟨hz,its,0,hv,xAl _ rfl⟩
theorem Inv.fresh (I:Inv X pins σ H s):H s.heap.objs.size=none:=I.hok.fresh (xAg _)
theorem Inv.lstM (I:Inv X pins σ H s) (hH:H l=some (.lst xs)):xs.length<=sizeLine/\∃ (its:List Value) (n:Nat),Vals xs its/\xs.length=its.length/\s.heap.get? l=some { cls:=.type "list",data:=.seq its.toArray n }:=by
 obtain ⟨z,its,n,r,e⟩:=I.hok l _ hH;exact ⟨z,its,n,r,r.length,e⟩
end
section
variable {X:Cx}
noncomputable def rAppend:V->List V->Hp->VK->Prop:=fun x vs H Q=>∃ l xs y,x = .ref l/\vs=[y]/\H l=some (.lst xs)/\xs.length<sizeLine/\Q .non (upd H l (.lst (xs++[y])))
theorem gK:MtM X "list.append" rAppend:=by
 intro pins s σ H x vs v us Q I rx rv h;obtain ⟨l,xs,y,rfl,rfl,hH,hz,q⟩:=h;cases rx;obtain ⟨u,rfl,ru⟩:=rv.one;obtain ⟨z,its,n,r,hl,e⟩:=I.lstM hH;refine call_meets F.slot_list_append ⟨_,e,rfl⟩ F.entry_list_append (F.args_list_append_2 _ _) (PySem.list_append l its.toArray n u (by rw [xAp];lia)) ⟨e,?_⟩;refine ⟨.non,_,I.lset (its':=its++[u]) hH e (by simp) (r.append (.cons ru .nil)) ?_,rfl,q⟩;rw [xAb,xAt];lia
noncomputable def rPop:V->List V->Hp->VK->Prop:=fun x vs H Q=>∃ l xs y,x = .ref l/\vs=[]/\H l=some (.lst xs)/\xs[xs.length - 1]?=some y/\Q y (upd H l (.lst xs.dropLast))
theorem ue:MtM X "list.pop" rPop:=by
 intro pins s σ H x vs v us Q I rx rv h;obtain ⟨l,xs,y,rfl,rfl,hH,hy,q⟩:=h;cases rx;have hus:=rv.zero;subst hus;obtain ⟨z,its,n,r,hl,e⟩:=I.lstM hH;obtain ⟨u,hu,ru⟩:=r.get hy;have hy':its.toArray[its.toArray.size - 1]?=some u:=by
  show its.toArray[its.length - 1]?=some u;rw [<- Array.getElem?_toList,<- hl];exact hu
 refine call_meets F.slot_list_pop ⟨_,e,rfl⟩ F.entry_list_pop (F.args_list_pop_1 _) (MeetsSeq.list_pop_last l its.toArray n u hy' (by rw [xAp];lia)) ⟨e,?_⟩;refine ⟨y,_,I.lset (its':=its.dropLast) hH e ?_ r.dropLast ?_,ru,q⟩
 ·show its.toArray.eraseIdxIfInBounds (its.toArray.size - 1)=its.dropLast.toArray;rw [xAp,List.eraseIdxIfInBounds_toArray,jT]
 ·rw [List.length_dropLast];lia
noncomputable def rCat:R2:=fun x y H Q=>∃ l b xs zs,x = .ref l/\y = .ref b/\H l=some (.lst xs)/\H b=some (.lst zs)/\xs.length+zs.length<=sizeLine/\∀ p,H p=none->Q (.ref p) (upd H p (.lst (xs++zs)))
theorem t8:OpR X (binaryOp .Add) rCat:=by
 intro pins s σ H x y v u Q I rx ry h;obtain ⟨l,b,xs,zs,rfl,rfl,hH,hB,hz,q⟩:=h;cases rx;cases ry;obtain ⟨z,its,n,r,hl,e⟩:=I.lstM hH;obtain ⟨z2,its2,n2,r2,hl2,e2⟩:=I.lstM hB;refine PySem.P.add_list e e2 ?_ (by rw [xAp,xAp];lia);have ea:its.toArray++its2.toArray=(its++its2).toArray:=by simp
 rw [ea];exact ⟨.ref _,_,I.lnew (t':=s.toks) (r.append r2) (by rw [xAb];lia),rfl,q _ I.fresh⟩
end
section
variable {prog:Program} {w:World} {A:Around} {E:Value->Shared->Prop} {s:Shared}
set_option maxRecDepth 100000 in
end
end L2
namespace L2
open PySem PySem.Spec PyProof.Rows
section
variable {κ:Type} [DecidableEq κ]
noncomputable def valV (kvs:List (κ×V)) (k:κ):Option V:=(kvs.find? fun kv=>decide (kv.1=k)).map (·.2)
noncomputable def putK (kvs:List (κ×V)) (k:κ) (v:V):List (κ×V) :=
 if (kvs.any fun kv=>decide (kv.1=k))=true then kvs.map (fun kv=>if kv.1=k then (kv.1,v) else kv) else kvs++[(k,v)]
theorem fe {p:κ×V} {r:List (κ×V)} {k:κ} (e:p.1=k):valV (p::r) k=some p.2:=by simp [valV,List.find?_cons,e]
theorem ff {p:κ×V} {r:List (κ×V)} {k:κ} (e:¬ p.1=k):valV (p::r) k=valV r k:=by simp [valV,List.find?_cons,e]
theorem iH (k:κ):∀ kvs:List (κ×V),(kvs.any fun kv=>decide (kv.1=k))=(valV kvs k).isSome
 | []=>rfl
 | p::r=>by
  rw [List.any_cons];by_cases e:p.1=k
  ·simp only [fe e,xBd e,Bool.true_or,Option.isSome_some]
  ·rw [ff e,decide_eq_false e,Bool.false_or];exact iH k r
theorem eV (kvs:List (κ×V)) (k:κ) (v:V):(putK kvs k v).length<=kvs.length+1:=by
 unfold putK;split
 ·rw [xAa];lia
 ·rw [xAb,xAo,List.length_nil];lia
theorem RelO.isSome_eq {o:Option V} {u:Option Value} (r:RelO o u):o.isSome=u.isSome:=by
 cases o with
 | none=>cases u with
  | none=>rfl
  | some _=>exact (show False from r).elim
 | some _=>cases u with
  | none=>exact (show False from r).elim
  | some _=>rfl
theorem KV.val {kvs:List (κ×V)} {vs:List (κ×Value)} (r:KV kvs vs) (k:κ):RelO (valV kvs k) (valueAt vs k):=by
 unfold KV at r;induction r with
 | nil=>exact True.intro
 | @cons p q ps qs h t ih =>
  obtain ⟨h1,h2⟩:=h;by_cases e:p.1=k
  ·have e':q.1=k:=h1.symm.trans e;have b:valueAt (q::qs) k=some q.2:=by simp [valueAt,List.find?_cons,e']
   rw [fe e,b];exact h2
  ·have e':¬ q.1=k:=fun z=>e (h1.trans z);have b:valueAt (q::qs) k=valueAt qs k:=by simp [valueAt,List.find?_cons,e']
   rw [ff e,b];exact ih
theorem KV.any {kvs:List (κ×V)} {vs:List (κ×Value)} (r:KV kvs vs) (k:κ):(kvs.any fun kv=>decide (kv.1=k))=vs.any fun kv=>decide (kv.1=k):=by
 unfold KV at r;induction r with
 | nil=>rfl
 | cons h t ih=>rw [List.any_cons,List.any_cons,ih,h.1]
theorem KV.repl {kvs:List (κ×V)} {vs:List (κ×Value)} (r:KV kvs vs) (k:κ) {y:V} {u:Value} (ry:RelV y u) :
  KV (kvs.map fun kv=>if kv.1=k then (kv.1,y) else kv) (vs.map fun kv=>if kv.1=k then (kv.1,u) else kv):=by
 unfold KV at r ⊢;induction r with
 | nil=>exact .nil
 | @cons p q ps qs h t ih =>
  rw [xBs,xBs];refine .cons ?_ ih;obtain ⟨h1,h2⟩:=h;by_cases e:p.1=k
  ·rw [xCg e,xCg (h1.symm.trans e)];exact ⟨h1,ry⟩
  ·rw [xCf e,xCf (fun z=>e (h1.trans z))];exact ⟨h1,h2⟩
theorem KV.put {kvs:List (κ×V)} {vs:List (κ×Value)} (r:KV kvs vs) (k:κ) {y:V} {u:Value} (ry:RelV y u):KV (putK kvs k y) (stored vs k u):=by
 unfold putK stored;rw [r.any k];by_cases e:(vs.any fun kv=>decide (kv.1=k))=true
 ·rw [xCg e,xCg e];exact r.repl k ry
 ·rw [xCf e,xCf e];exact Paired.snoc r ⟨rfl,ry⟩
theorem KV.keys {kvs:List (κ×V)} {vs:List (κ×Value)} (r:KV kvs vs):kvs.map (·.1)=vs.map (·.1):=by
 unfold KV at r;induction r with
 | nil=>rfl
 | cons h t ih=>rw [xBs,xBs,ih,h.1]
theorem KV.length {kvs:List (κ×V)} {vs:List (κ×Value)} (r:KV kvs vs):kvs.length=vs.length:=Paired.length r
end
theorem gO {P:Program} {w:World} {k:Key} {u:Value} (r:RelV (kV k) u):(mixKind P w).is k u=true:=by
 cases k with
 | inl i=>obtain ⟨t,e⟩:=(show ∃ t,u=Value.int i t from r);subst e;exact i8 P w i t
 | inr x=>obtain ⟨t,e⟩:=(show ∃ t,u=Value.str x t from r);subst e;exact i7 P w x t
theorem gP {P:Program} {w:World}:∀ {ks:List Key} {us:List Value},Vals (ks.map kV) us->ItemsAre (mixKind P w) ks us
 | [],_,r=>by rw [List.map_nil] at r;cases r;exact .nil
 | k::ks,_,r=>by
  rw [xBs] at r;cases r with
  | cons h t=>exact .cons (gO h) (gP t)
noncomputable abbrev KT (H:Hp):List (List Key×V)->List (List Key×Addr×Value)->Prop:=Paired fun p q=>p.1=q.1/\H q.2.1=some (.tup (p.1.map kV))/\RelV p.2 q.2.2
theorem KT.val {H:Hp} {kvs:List (List Key×V)} {xs:List (List Key×Addr×Value)} (r:KT H kvs xs) (k:List Key):RelO (valV kvs k) ((atKey xs k).map (·.2)):=by
 induction r with
 | nil=>exact True.intro
 | @cons p q ps qs h t ih =>
  obtain ⟨h1,_,h2⟩:=h;by_cases e:p.1=k
  ·have e':q.1=k:=h1.symm.trans e;have b:atKey (q::qs) k=some q.2:=by simp [atKey,List.find?_cons,e']
   rw [fe e,b];exact h2
  ·have e':¬ q.1=k:=fun z=>e (h1.trans z);have b:atKey (q::qs) k=atKey qs k:=by simp [atKey,List.find?_cons,e']
   rw [ff e,b];exact ih
theorem KT.repl {H:Hp} {kvs:List (List Key×V)} {xs:List (List Key×Addr×Value)} (r:KT H kvs xs) (k:List Key) {y:V} {u:Value} (ry:RelV y u) :
  KT H (kvs.map fun kv=>if kv.1=k then (kv.1,y) else kv) (xs.map (putAt k u)):=by
 induction r with
 | nil=>exact .nil
 | @cons p q ps qs h t ih =>
  rw [xBs,xBs];refine .cons ?_ ih;obtain ⟨h1,h2,h3⟩:=h;unfold putAt;by_cases e:p.1=k
  ·rw [xCg e,xCg (h1.symm.trans e)];exact ⟨h1,h2,ry⟩
  ·rw [xCf e,xCf (fun z=>e (h1.trans z))];exact ⟨h1,h2,h3⟩
theorem KT.put {H:Hp} {kvs:List (List Key×V)} {xs:List (List Key×Addr×Value)} (r:KT H kvs xs) (k:List Key) {b:Addr} {y:V} {u:Value} (hb:H b=some (.tup (k.map kV))) (ry:RelV y u) :
  KT H (putK kvs k y) (storedH xs k b u):=by
 have e:(kvs.any fun kv=>decide (kv.1=k))=(atKey xs k).isSome:=by
  rw [iH,(r.val k).isSome_eq,Option.isSome_map]
 unfold putK storedH;rw [e];by_cases q:(atKey xs k).isSome=true
 ·rw [xCg q,xCg q];exact r.repl k ry
 ·rw [xCf q,xCf q];exact Paired.snoc r ⟨rfl,hb,ry⟩
theorem KT.keeps {H H':Hp} {kvs:List (List Key×V)} {xs:List (List Key×Addr×Value)} (r:KT H kvs xs) (ht:∀ b ys,H b=some (.tup ys)->H' b=some (.tup ys)):KT H' kvs xs :=
 Paired.mapP r fun _ _ z=>⟨z.1,ht _ _ z.2.1,z.2.2⟩
section
variable {P:Program} {w:World} {H:Hp} {h:Heap} {a:Addr}
theorem rH {u:HO} (ok:HOk P w H h) (e:Rd H a u):ObjOk P w H h a u:=e.ok ok
theorem fM {kvs:List (Key×V)} (ok:HOk P w H h) (e:Rd H a (.dK kvs)):kvs.length<=sizeLine/\(a == sysModules)=false/\∃ vs,KV kvs vs/\h.DictOf (mixKind P w) a vs :=
 show ObjOk P w H h a (.dK kvs) from rH ok e
theorem kX {kvs:List (Key×V)} (ok:HOk P w H h) (e:H a=some (.dK kvs)):kvs.length<=sizeLine/\(a == sysModules)=false/\∃ vs,KV kvs vs/\h.DictOf (mixKind P w) a vs:=fM ok (.inl e)
theorem gm {ks:List Key} (ok:HOk P w H h) (e:H a=some (.tup (ks.map kV))):(tupleKind (mixKind P w)).is h ks a:=by
 obtain ⟨_,its,r,o,h1,h2,n,h3⟩:=(show ObjOk P w H h a (.tup (ks.map kV)) from ok a _ e)
 exact ⟨o,its.toArray,n,h1,h2,h3,by simpa using gP r⟩
theorem ji {kvs:List (List Key×V)} (ok:HOk P w H h) (e:Rd H a (.dT kvs)):kvs.length<=sizeLine/\(a == sysModules)=false /\
  ∃ xs,KT H kvs xs/\h.DictOfH (tupleKind (mixKind P w)) a xs:=by
 obtain ⟨z,y,xs,r,o,es,ep,h1,h2,h3,h4,h5⟩:=(show ObjOk P w H h a (.dT kvs) from rH ok e)
 refine ⟨z,y,xs,r,o,es,ep,h1,h2,h3,h4,fun x hx=>?_,h5⟩;have all:∀ {l:List (List Key×V)} {m:List (List Key×Addr×Value)},KT H l m->∀ x∈m,(tupleKind (mixKind P w)).is h x.1 x.2.1:=by
  intro l m q;induction q with
  | nil=>intro x hx;exact nomatch hx
  | @cons p q ps qs hq t ih =>
   intro x hx;rcases xAv.mp hx with e | hx
   ·subst e;exact gm ok (by rw [<- hq.1];exact hq.2.1)
   ·exact ih x hx
 exact all r x hx
theorem wU {kvs:List (List Key×V)} (ok:HOk P w H h) (e:H a=some (.dT kvs)):kvs.length<=sizeLine/\(a == sysModules)=false /\
  ∃ xs,KT H kvs xs/\h.DictOfH (tupleKind (mixKind P w)) a xs:=ji ok (.inl e)
end
def DGet (H:Hp) (a:Addr) (y:V) (r:Option V):Prop :=
 (∃ kvs k,Rd H a (.dK kvs)/\y=kV k/\r=valV kvs k)\/∃ kvs k b,Rd H a (.dT kvs)/\y = .ref b/\H b=some (.tup (k.map kV))/\r=valV kvs k
def DPut (H:Hp) (a:Addr) (y v:V) (H':Hp):Prop :=
 (∃ kvs k,H a=some (.dK kvs)/\y=kV k/\kvs.length<sizeLine/\H'=upd H a (.dK (putK kvs k v))) \/
 ∃ kvs k b,H a=some (.dT kvs)/\y = .ref b/\H b=some (.tup (k.map kV))/\kvs.length<sizeLine/\H'=upd H a (.dT (putK kvs k v))
section
variable {X:Cx} {pins:List (Addr×Obj)} {σ:St} {H:Hp} {s:Shared} {a:Addr} {y v:V} {u r:Value} {o:Option V} {A:Around} {E:Value->Shared->Prop}
theorem Inv.big (I:Inv X pins σ H s):sysModules<s.heap.objs.size:=by
 have h:mainGlobals<s.heap.objs.size:=(I.mod.glob.keeps I.bk).lt;exact Nat.lt_trans (by decide) h
theorem l9 {Q:Value->Shared->Prop} (hu:A.units+1<cLine) (I:Inv X pins σ H s) (g:DGet H a y (some v)) (ry:RelV y u) (h:∀ w' s',Inv X pins σ H s'->RelV v w'->Q w' s') :
  wpAny (model X.prog X.w) A (getItem (.ref a) u) Q E s:=by
 rcases g with ⟨kvs,k,e,ey,l⟩ | ⟨kvs,k,b,e,ey,eb,l⟩
 ·subst ey;obtain ⟨z,hd,vs,rel,dd⟩:=fM I.hok e;obtain ⟨w',hw,rw'⟩:=RelO.some_of (v:=v) (o:=valueAt vs k) (by rw [l];exact rel.val k);exact wpAny_getItem_of (gO ry) dd.mapOf hw (h w' _ (I.tok _) rw')
 ·subst ey;cases (show u=Value.ref b from ry);obtain ⟨z,hd,xs,rel,dd⟩:=ji I.hok e;obtain ⟨w',hw,rw'⟩:=RelO.some_of (v:=v) (o:=(atKey xs k).map (·.2)) (by rw [l];exact rel.val k);obtain ⟨p,hp,hp2⟩:=Option.map_eq_some_iff.mp hw;refine wpAny_getItem_heap (tupleKind_room_in1 hu) (gm I.hok eb) dd hp ?_;rw [hp2];exact h w' _ (I.tok _) rw'
theorem xG {Q:Value->Shared->Prop} (hu:A.units+1<cLine) (I:Inv X pins σ H s) (g:DGet H a y o) (ry:RelV y u) (h:∀ s',Inv X pins σ H s'->Q (.bool o.isSome) s') :
  wpAny (model X.prog X.w) A (compareOp .In u (.ref a)) Q E s:=by
 rcases g with ⟨kvs,k,e,ey,l⟩ | ⟨kvs,k,b,e,ey,eb,l⟩
 ·subst ey;obtain ⟨z,hd,vs,rel,dd⟩:=fM I.hok e;refine wpAny_in_of (gO ry) hd dd.mapOf ?_;rw [<- (rel.val k).isSome_eq,<- l];exact h _ (I.tok _)
 ·subst ey;cases (show u=Value.ref b from ry);obtain ⟨z,hd,xs,rel,dd⟩:=ji I.hok e;refine wpAny_in_heap (tupleKind_room_in1 hu) (gm I.hok eb) hd dd ?_;have q:=(rel.val k).isSome_eq;rw [Option.isSome_map] at q;rw [<- q,<- l];exact h _ (I.tok _)
theorem qR {Q:Value->Shared->Prop} (hu:A.units+1<cLine) (I:Inv X pins σ H s) (g:DGet H a y o) (ry:RelV y u) (h:∀ s',Inv X pins σ H s'->Q (.bool (!o.isSome)) s') :
  wpAny (model X.prog X.w) A (compareOp .NotIn u (.ref a)) Q E s:=by
 rcases g with ⟨kvs,k,e,ey,l⟩ | ⟨kvs,k,b,e,ey,eb,l⟩
 ·subst ey;obtain ⟨z,hd,vs,rel,dd⟩:=fM I.hok e;refine wpAny_notIn_of (gO ry) hd dd.mapOf ?_;rw [<- (rel.val k).isSome_eq,<- l];exact h _ (I.tok _)
 ·subst ey;cases (show u=Value.ref b from ry);obtain ⟨z,hd,xs,rel,dd⟩:=ji I.hok e;refine wpAny_notIn_heap (tupleKind_room_in1 hu) (gm I.hok eb) hd dd ?_;have q:=(rel.val k).isSome_eq;rw [Option.isSome_map] at q;rw [<- q,<- l];exact h _ (I.tok _)
theorem iz {h':Heap} {t':Nat} {ob:HO} (I:Inv X pins σ H s) (mu:Mut (H a)) (hs:Heap.SameBut a s.heap h') (he:∃ q,h'.get? a=some q) (new:ObjOk X.prog X.w (upd H a ob) h' a ob) :
  Inv X pins σ (upd H a ob) { s with heap:=h',toks:=t' } :=
 I.write (x:=a) (e:=a) mu (.inl rfl) (fun b q hb z=>(hs.2 b hb).trans z) he new
theorem jV {P:Program} {w:World} {H':Hp} {h':Heap} {kvs:List (Key×V)} {vs:List (Key×Value)} (z:kvs.length<=sizeLine) (hd:(a == sysModules)=false) (rel:KV kvs vs) (dd:h'.DictOf (mixKind P w) a vs) :
  ObjOk P w H' h' a (.dK kvs):=⟨z,hd,vs,rel,dd⟩
theorem l8 {H':Hp} {Q:Unit->Shared->Prop} (hu:A.units+1<cLine) (I:Inv X pins σ H s) (g:DPut H a y v H') (ry:RelV y u) (rv:RelV v r) (h:∀ s',Inv X pins σ H' s'->Q () s') :
  wpAny (model X.prog X.w) A (setItem (.ref a) u r) Q E s:=by
 rcases g with ⟨kvs,k,e,ey,l,eH⟩ | ⟨kvs,k,b,e,ey,eb,l,eH⟩
 ·subst ey eH;obtain ⟨z,hd,vs,rel,dd⟩:=kX I.hok e;have hz:vs.length<=sizeLine:=by rw [<- rel.length];exact z
  have hl:(putK kvs k v).length<=sizeLine:=by have:=eV kvs k v;lia
  refine wpAny_setItem_pairs (hsz:=hz) (gO ry) dd fun h' dd' hs=>h _ ?_;have he:∃ q,h'.get? a=some q:=let ⟨q,_,_,hq,_⟩:=dd';⟨q,hq⟩;exact iz I (by rw [e];exact True.intro) hs he (jV hl hd (rel.put k rv) dd')
 ·subst ey eH;cases (show u=Value.ref b from ry);obtain ⟨z,hd,xs,rel,dd⟩:=wU I.hok e;have hz:xs.length<=sizeLine:=by rw [<- Paired.length rel];exact z
  have hl:(putK kvs k v).length<=sizeLine:=by have:=eV kvs k v;lia
  refine wpAny_setItem_heap (hsz:=hz) (tupleKind_room_in1 hu) (gm I.hok eb) dd fun h' dd' hs=>h _ ?_;obtain ⟨q,es,ep,hq,h2,h3,h4,_,h5⟩:=dd';refine iz I (by rw [e];exact True.intro) hs ⟨q,hq⟩ ⟨hl,hd,_,(rel.put k eb rv).keeps fun c ys ec=>?_,q,es,ep,hq,h2,h3,h4,h5⟩;rw [dg (wm ec e (fun z=>nomatch z))];exact ec
end
section
variable {X:Cx} {pins:List (Addr×Obj)} {σ:St} {H:Hp} {s:Shared} {a:Addr} {kvs:List (Key×V)} {k:Key} {u:Value} {A:Around} {E:Value->Shared->Prop}
theorem wV {Q:Value->Shared->Prop} (I:Inv X pins σ H s) (e:Rd H a (.dK kvs)) (h:∀ t s',Inv X pins σ H s'->Q (.int kvs.length t) s'):wpAny (model X.prog X.w) A (call (.builtin "len") [.ref a]) Q E s:=by
 obtain ⟨z,hd,vs,rel,dd⟩:=fM I.hok e;refine call_len_dict hd dd (by rw [<- rel.length];rw [sizeLine_eq] at z;lia) ?_;rw [<- rel.length];exact h _ _ (I.tok _)
end
theorem jm {X:Cx} {pins:List (Addr×Obj)} {σ:St} {H:Hp} {s:Shared} {a:Addr} {y:V} {o:Option V} (I:Inv X pins σ H s) (g:DGet H a y o):s.TypeIs (.ref a) "dict":=by
 rcases g with ⟨kvs,k,e,_,_⟩ | ⟨kvs,k,b,e,_,_,_⟩
 ·obtain ⟨_,_,vs,_,dd⟩:=fM I.hok e;exact dd.typeIs
 ·obtain ⟨_,_,xs,_,dd⟩:=ji I.hok e;exact dd.typeIs
theorem jk {P:Program} {w:World} {H:Hp} (h:Heap) (hb:sysModules<h.objs.size):ObjOk P w H (h.push { cls:=.type "dict",data:=.dict #[] }) h.objs.size (.dK []) :=
 ⟨xBn _,beq_eq_false_iff_ne.mpr (Ne.symm (xA0 hb)),[],.nil,Heap.DictOf.new h⟩
noncomputable def tDNewK:TE:=fun _ H Q=>∀ p,H p=none->Q (.ref p) (upd H p (.dK []))
section
variable {X:Cx} {pos:Pos}
theorem nS:PE X (.Dict [] [] pos) tDNewK:=fun pins s σ H Q I h =>
 wpAny_Dict_empty ⟨.ref s.heap.objs.size,_,I.laid (a:=s.heap.objs.size) (o:=.dK []) (t':=s.toks) (fun _ _ q=>xAf _ q) (xAg _) (jk s.heap I.big),rfl,h _ (I.hok.fresh (xAg _))⟩
end
noncomputable def tPairs:List (TE×TE)->St->Hp->(List (V×V)->Hp->Prop)->Prop
 | [],_,H,Q=>Q [] H
 | (tk,tv)::r,σ,H,Q=>tk σ H fun x H1=>tv σ H1 fun y H2=>tPairs r σ H2 fun ps H3=>Q ((x,y)::ps) H3
noncomputable abbrev VV:List (V×V)->List (Value×Value)->Prop:=Paired fun p q=>RelV p.1 q.1/\RelV p.2 q.2
def PPs (X:Cx) (pos:Pos) (keys:List (Option Expr)) (values:List Expr) (trs:List (TE×TE)):Prop :=
 ∀ (pins:List (Addr×Obj)) (s:Shared) (σ:St) (H:Hp) (Q:List (V×V)->Hp->Prop),Inv X pins σ H s->tPairs trs σ H Q ->
  wpAny (model X.prog X.w) X.A (evalPairs (pairTrees keys values X.env pos)) (fun vs s'=>∃ ps H',Inv X pins σ H' s'/\VV ps vs/\Q ps H') X.xe s
theorem p8 {X:Cx} {pos:Pos}:PPs X pos [] [] []:=fun pins s σ H Q I h=>pairTrees_nil_walk ⟨[],H,I,.nil,h⟩
theorem nG {X:Cx} {pos:Pos} {k v:Expr} {ks:List (Option Expr)} {vs:List Expr} {tk tv:TE} {trs:List (TE×TE)} (hk:PE X k tk) (hv:PE X v tv) (hr:PPs X pos ks vs trs) :
  PPs X pos (some k::ks) (v::vs) ((tk,tv)::trs):=fun pins s σ H Q I h =>
 pairTrees_cons_walk (thn (hk pins s σ H _ I h) fun u s1 ⟨x,H1,I1,rx,q1⟩=>thn (hv pins s1 σ H1 _ I1 q1) fun w2 s2 ⟨y,H2,I2,ry,q2⟩ =>
  thn (hr pins s2 σ H2 _ I2 q2) fun ws s3 ⟨ps,H3,I3,rel,q3⟩=>⟨(x,y)::ps,H3,I3,.cons ⟨rx,ry⟩ rel,q3⟩)
noncomputable def mergeK (kvs more:List (Key×V)):List (Key×V):=more.foldl (fun acc kv=>putK acc kv.1 kv.2) kvs
theorem KV.merge:∀ {more:List (Key×V)} {rs:List (Key×Value)} {kvs:List (Key×V)} {vs:List (Key×Value)},KV more rs->KV kvs vs->KV (mergeK kvs more) (merged vs rs):=by
 intro more rs kvs vs r;unfold KV at r;induction r generalizing kvs vs with
 | nil=>intro q;exact q
 | @cons p q ps qs h t ih =>
  intro r0;have e:KV (putK kvs p.1 p.2) (stored vs q.1 q.2):=by
   have:=r0.put p.1 h.2;rw [<- h.1];exact this
  exact ih e
theorem fb:∀ (more kvs:List (Key×V)),(mergeK kvs more).length<=kvs.length+more.length
 | [],kvs=>by show kvs.length<=kvs.length+0;lia
 | p::r,kvs=>by
  have h1:=fb r (putK kvs p.1 p.2);have h2:=eV kvs p.1 p.2;show (mergeK (putK kvs p.1 p.2) r).length<=_;rw [xAo];lia
theorem gz {P:Program} {w:World}:∀ {kvs:List (Key×V)} {ws:List (Value×Value)},VV (kvs.map fun kv=>(kV kv.1,kv.2)) ws->∃ rs,Carries (mixKind P w) ws rs/\KV kvs rs
 | [],_,r=>by rw [List.map_nil] at r;cases r;exact ⟨[],True.intro,.nil⟩
 | p::kvs,_,r=>by
  rw [xBs] at r;cases r with
  | @cons a b as bs h t =>
   obtain ⟨rs,c,q⟩:=gz (P:=P) (w:=w) t;obtain ⟨b1,b2⟩:=b;exact ⟨(p.1,b2)::rs,⟨gO h.1,rfl,c⟩,.cons ⟨rfl,h.2⟩ q⟩
noncomputable def tDisp (trs:List (TE×TE)):TE:=fun σ H Q=>∀ p,H p=none->tPairs trs σ (upd H p (.dK [])) fun ps H2=>H2 p=some (.dK [])/\∃ kvs:List (Key×V),ps=kvs.map (fun kv=>(kV kv.1,kv.2))/\kvs.length<=15/\Q (.ref p) (upd H2 p (.dK (mergeK [] kvs)))
theorem qg {X:Cx} {pos:Pos} {keys:List (Option Expr)} {values:List Expr} {trs:List (TE×TE)} (h:PPs X pos keys values trs) (hall:keys.all (·.isSome)=true) (hl:keys.length=values.length) (h0:keys≠[])
  (h15:keys.length<=15):PE X (.Dict keys values pos) (tDisp trs):=by
 intro pins s σ H Q I q;have hn:=I.hok.fresh (xAg s.heap.objs.size);have I1:=I.laid (a:=s.heap.objs.size) (o:=.dK []) (h':=s.heap.push { cls:=.type "dict",data:=.dict #[] }) (t':=s.toks) (fun _ _ q=>xAf _ q) (xAg _) (jk s.heap I.big);refine wpAny_Dict_walk (knd:=mixKind X.prog X.w) hall hl h0 h15 (thn (h pins _ σ _ _ I1 (q _ hn)) fun ws s2 zz=>?_);obtain ⟨ps,H2,I2,rel,e,kvs,ep,lk,q2⟩:=zz;subst ep;obtain ⟨rs,c,rk⟩:=gz (P:=X.prog) (w:=X.w) rel;obtain ⟨z,hd,vs0,r0,dd⟩:=kX I2.hok e;cases r0;refine ⟨rs,c,dd,fun h' dd' hs=>⟨.ref s.heap.objs.size,_,?_,rfl,q2⟩⟩;have hz:(mergeK [] kvs).length<=sizeLine:=by
  have h1:=fb kvs [];rw [List.length_nil] at h1;rw [sizeLine_eq];lia
 have he:∃ q,h'.get? s.heap.objs.size=some q:=let ⟨q,_,_,hq,_⟩:=dd';⟨q,hq⟩;exact iz I2 (by rw [e];exact True.intro) hs he (jV hz hd (rk.merge .nil) dd')
structure M1 (X:Cx) (o:Expr) (m:Str) (apos:Pos) (e:Expr) (cpos:Pos):Prop where
 base:attributeBase o m X.env (eval o X.env)=eval o X.env
 few:((backTo cpos (starEach [e] X.env)).all (fun x=>!x.1) && (backToKw cpos (keywordEach [] X.env)).all (fun x=>x.1.isSome)
  && decide (([e]:List Expr).length+([]:List Keyword).length+(if ([]:List Keyword).isEmpty then 0 else 1)<30))=true
 line:(apos.endLine == cpos.line)=true
 trees:backTo cpos (starEach [e] X.env)=[(false,eval e X.env)]
structure M2 (X:Cx) (o:Expr) (m:Str) (apos:Pos) (e f:Expr) (cpos:Pos):Prop where
 base:attributeBase o m X.env (eval o X.env)=eval o X.env
 few:((backTo cpos (starEach [e,f] X.env)).all (fun x=>!x.1) && (backToKw cpos (keywordEach [] X.env)).all (fun x=>x.1.isSome)
  && decide (([e,f]:List Expr).length+([]:List Keyword).length+(if ([]:List Keyword).isEmpty then 0 else 1)<30))=true
 line:(apos.endLine == cpos.line)=true
 trees:backTo cpos (starEach [e,f] X.env)=[(false,eval e X.env),(false,eval f X.env)]
section
variable {X:Cx} {pins:List (Addr×Obj)} {σ:St} {H:Hp} {s:Shared} {a:Addr} {kvs:List (Key×V)} {A:Around} {E:Value->Shared->Prop}
theorem o6 {Q:Value->Shared->Prop} (I:Inv X pins σ H s) (e:Rd H a (.dK kvs)) (h:∀ p s',H p=none->Inv X pins σ (upd H p (.dK kvs)) s'->Q (.ref p) s'):wpAny (model X.prog X.w) A (call (.type "dict") [.ref a]) Q E s:=by
 obtain ⟨z,hd,vs,rel,dd⟩:=fM I.hok e;refine kt_call_dict hd dd (by rw [<- rel.length];exact z) fun h' dd' hs=>?_;refine h _ _ (I.hok.fresh (xAg _)) (I.laid (a:=s.heap.objs.size) (o:=.dK kvs) (t':=s.toks) (fun b q hq=>?_) (xAg _) (jV z (beq_eq_false_iff_ne.mpr (Ne.symm (xA0 I.big))) rel dd'));exact (hs.2 b (xA0 (xA1 hq))).trans (xAf _ hq)
end
end L2
namespace Att
open PySem PySem.W PySem.Calls PyProof.Rows
theorem fQ {P:Params} {h:Heap}:∀ (ns:List Int) (vs:List Value),WellAll P h vs (ns.map WData.int)->IntsAre vs ns:=by
 intro ns;induction ns with
 | nil =>
  intro vs w;rw [List.map_nil] at w;cases w;exact .nil
 | cons n ns ih =>
  intro vs w;rw [xBs] at w;cases w with
  | cons a b =>
   cases a;exact .cons _ _ (ih _ b)
theorem lG {l:OpenLaw} {n:Nat} (hn:l.most=some n) {P:Params} {h:Heap} {args:List WData} {vals:List Value}
  (hpre:l.row.toRowW.claim.pre args=true) (hwl:WellAll P h vals args) :
  ∃ a vs ns,vals=[Value.ref a]/\args=[WData.list (ns.map WData.int)]/\h.get? a=some { cls:=.type "list",data:=.seq vs.toArray }/\IntsAre vs ns/\ns.length<=n:=by
 have hsh:WShape.hasAll [] args [.list .int]=true:=(pre_splitW hpre).1;have hc:l.pre.holds [] { args:=args }=true:=(pre_splitW hpre).2;obtain ⟨d,r,rfl,h1,h2⟩:=hasAllW_cons hsh;obtain rfl:=hasAllW_nil h2;obtain ⟨xs,rfl,h3⟩:=hasW_list h1;obtain ⟨ns,rfl⟩:=items_int h3;have hlen:ns.length<=n:=by
  unfold OpenLaw.pre at hc;have h4:(WTm.not (.lt (.lit (.int (n:Int))) (.len (.arg 0)))).holds [] { args:=[.list (ns.map .int)] }=true:=by
   have h4:=(holds_andW hc).1;rw [hn] at h4;exact h4
  have h5:=condW_of h4 (w_not (w_lt w_lit (w_len_list (w_arg rfl))));rw [xAa] at h5;refine Nat.le_of_not_lt fun q=>?_;have q':(n:Int)<((ns.length:Nat):Int):=by lia
  first
   | (rw [xBd q'] at h5;exact absurd h5 (by decide))
   | (simp at h5;lia)
 cases hwl with
 | cons w1 w2 =>
  cases w2;cases w1 with
  | list ho hall=>exact ⟨_,_,ns,rfl,rfl,ho,fQ ns _ hall,hlen⟩
theorem lJ (l:OpenLaw) (args:List WData):l.row.toRowW.claim.post args (.bool true) args=true :=
 postW_of (r:=l.row.toRowW) (X:=(true == true))
  (show WShape.has [] (.bool true) .bool=true by first | rfl | decide | simp [WShape.has,WShape.arms,WShape.armsAll])
  (show (WTm.eq .res (.lit (.bool true))).value [] { args:=args,res:=some (.bool true),after:=args }=some (.bool (true == true)) from w_eq_bool (w_res rfl) w_lit) rfl
theorem attach_call {l:OpenLaw} {n:Nat} {q:Program} {loose:List Str} {XP:(Str->Option Value)->Heap->Prop} {YP:World->Heap->Prop} {d:DefRec}
  (hn:l.most=some n) (hdf:d.params.defaults=[])
  (call:∀ (w:World) (s₀ s₁:Shared) (mg mb:Str->Option Value) (fa:Addr) (o:Obj) (pm cd doc:Value) (a:Addr) (vs:List Value) (ns:List Int),
   Ground q loose [] XP w s₀ mg mb s₁.heap->YP w s₁.heap ->
   s₁.heap.get? fa=some o->o.data = .func (docDef d.name d.params d.body d.scope pm cd doc)->s₁.heap.CodeRec cd d.name->mg d.name=some (.ref fa) ->
   s₁.heap.get? a=some { cls:=.type "list",data:=.seq vs.toArray }->IntsAre vs ns->ns.length<=n->s₁.gens=#[] ->
   codeAny (model l.prog w) callerA (.call (.ref fa) ⟨[.ref a],[]⟩) (fun r s'=>r = .ok (.ret (.bool true))/\OldK s₁.heap s'.heap/\s'.os=s₁.os/\AllBare s'.gens) s₁) :
  WalkO q loose XP YP l.row.toRowW d [] (fun f vs=>PySem.call f vs):=by
 intro w s₀ s₁ mg mb G Y fa o pm cd doc dV kV ho hd hcd hD hmg hg args vals as hpre hlay hrd hwl hlo;obtain rfl:dV = .none:=Dflts.none hD hdf;obtain rfl:kV = .none:=Dflts.noKw hD;obtain ⟨a,vs,ns,rfl,rfl,hobj,hints,hlen⟩:=lG hn hpre hwl;refine enter_call (codeAny_mono (call w s₀ s₁ mg mb fa o pm cd doc a vs ns G Y ho (fd_plain hd) hcd hmg hobj hints hlen hg) fun r s' hq=>?_);obtain ⟨rfl,h2,h3,h4⟩:=hq;exact ⟨.inl ⟨.bool true,.bool true,[],rfl,fun _=>rfl,.bool true,lJ l _,fun _=>⟨List.Pairwise.nil,fun _ hm=>(nomatch hm)⟩⟩,h2,h3,h4⟩
end Att
namespace L2
open PySem PySem.Spec PyProof.Rows
theorem gJ:∀ {vs:List Value} {ns:List Int},IntsAre vs ns->Vals (ns.map V.int) vs
 | _,_,.nil=>.nil
 | _,_,.cons n t h=>.cons ⟨t,rfl⟩ (gJ h)
def Only (H:Hp):Prop:=∀ b,H b=none\/∃ o xs,H b=some (.frz o (.lst xs))
theorem ou {P:Program} {w:World} {K:xFr} {mg mb:Str->Option Value} {CX:CXT} {k:Nat} {fa a:Addr} {fd:FuncData} {x:Str} {sp:Sp} {s₁:Shared} {vs:List Value} {ns:List Int}
  (KX:K.In s₁.heap) (hns:s₁.heap.Ns mainGlobals mg) (hb:s₁.heap.Ns builtinsNs mb) (hbb:∀ x:Str,x≠"__name__"->mb x=bootBuiltins x) (hlim:s₁.heap.NoLimit) (hg:s₁.gens=#[])
  (ha:s₁.heap.get? a=some { cls:=.type "list",data:=.seq vs.toArray }) (hi:IntsAre vs ns) (hl:ns.length<=sizeLine) (hr:Room k callerA)
  (F:∀ base:Heap,K.In base->base.Ns mainGlobals mg->FnOk P w K mg base CX k fa fd [x] sp) (hbind:∀ (s:Shared) (u:Value),BindsTo s fd ⟨[u],[]⟩ [(x,u)])
  (hsp:∀ H:Hp,Only H->SqL K H a (ns.map V.int)->sp [.ref a] H (fun v _=>v = .bl true) fun _ _ _=>False)
  (hCX:∀ H e s',CX [] H s₁ (fun _ _ _=>False) e s'->False) :
  codeAny (model P w) callerA (.call (.ref fa) ⟨[.ref a],[]⟩) (fun r s'=>r = .ok (.ret (.bool true))/\OldK s₁.heap s'.heap/\s'.os=s₁.os/\AllBare s'.gens) s₁:=by
 have rv:=gJ hi;have lenV:=hi.length
 -- from an abstract heap in which nothing but the script may be tracked
 have core:∀ H:Hp,Only H->SqL K H a (ns.map V.int)->HOk P w H s₁.heap->(∀ b,H b≠none->b=a)->(H a≠none->K.lookup a=none) ->
   codeAny (model P w) callerA (.call (.ref fa) ⟨[.ref a],[]⟩) (fun r s'=>r = .ok (.ret (.bool true))/\OldK s₁.heap s'.heap/\s'.os=s₁.os/\AllBare s'.gens) s₁:=by
  intro H hO hS hok hA hK;have base_of:∀ {b:Addr} {o:Obj},s₁.heap.get? b=some o->H b=none->(hidT s₁.heap H).get? b=some o:=fun e n=>oE e n;have noA:∀ {b:Addr} {o:Obj} {es:Array DictEntry} {ep:Nat},s₁.heap.get? b=some o->o.data = .dict es ep->H b=none:=fun {b o es ep} e d=>by
   cases q:H b with
   | none=>rfl
   | some u =>
    have e':b=a:=hA b (by rw [q];simp);subst e';rw [ha] at e;cases e;have d':Data.seq vs.toArray _=Data.dict es ep:=d;cases d'
  have nsK:∀ {b:Addr} {m:Str->Option Value},s₁.heap.Ns b m->(hidT s₁.heap H).Ns b m:=fun {b m} ⟨o,es,ep,e,d,r⟩=>⟨o,es,ep,base_of e (noA e d),d,r⟩
  have hKb:K.In (hidT s₁.heap H):=fun b o e=>base_of (KX b o e) (by
   cases q:H b with
   | none=>rfl
   | some u =>
    have e':b=a:=hA b (by rw [q];simp);subst e';rw [hK (by rw [q];simp)] at e;cases e)
  have hM:Mod K mg (hidT s₁.heap H):=⟨hKb,nsK hns,⟨mb,nsK hb,hbb⟩,let ⟨mc,h1,h2⟩:=hlim;⟨mc,nsK h1,h2⟩⟩
  have e0:Env0 P w K mg (hidT s₁.heap H) callerA [] s₁ H:=⟨rfl,hM,fun b o e=>qz e,Nat.le_of_eq (lY _ _),trivial,fun b hb=>absurd (show b∈([]:List Addr) from hb) (by simp),hok,.of_eq hg⟩
  refine codeAny_mono ((F _ hKb (nsK hns)).run callerA [] s₁ H ⟨[.ref a],[]⟩ [.ref a] [.ref a] _ _ hr e0 (hbind s₁ (.ref a)) (.cons rfl .nil) (hsp H hO hS)) fun r s' h=>?_;cases r with
  | error e=>exact (hCX H e s' h).elim
  | ok fl =>
   cases fl with
   | next=>exact False.elim h
   | brk=>exact False.elim h
   | cont=>exact False.elim h
   | ret u =>
    obtain ⟨v,H',os,bare,un,hok',r',q⟩:=h;have q':v = .bl true:=q;subst q';obtain rfl:u=Value.bool true:=r';refine ⟨rfl,OldK.of_keep fun b o e=>?_,os,bare⟩;cases q:H b with
    | none=>exact un.keep b o e q (by intro z;exact absurd (show b∈([]:List Addr) from z) (by simp)) (by simp)
    | some u =>
     rcases hO b with z | ⟨ob,xs,z⟩
     ·rw [q] at z;cases z
     ·have z2:=un.frzs b ob _ z;obtain ⟨e1,_⟩:=hok b _ z;obtain ⟨e2,_⟩:=hok' b _ z2;rw [e] at e1;cases e1;exact e2
 cases hk:K.lookup a with
 | some o =>
  -- the script is one of the module's own objects
  have e:=KX a o hk;rw [ha] at e;cases e;refine core (fun _=>none) (fun _=>.inl rfl) (.inr ⟨_,vs.toArray,_,hk,rfl,rfl,rfl,by rw [xAp,lenV];exact hl,by simpa using rv⟩) (fun b u z=>by have z':(none:Option HO)=some u:=z;cases z') (fun b z=>absurd rfl z) fun z=>absurd rfl z
 | none =>
  refine core (fun b=>if b=a then some (.frz { cls:=.type "list",data:=.seq vs.toArray } (.lst (ns.map V.int))) else none) (fun b=>?_) (.inl (.inr ⟨{ cls:=.type "list",data:=.seq vs.toArray },xCg rfl⟩)) (fun b u z=>?_) (fun b z=>?_) fun _=>hk
  ·by_cases hb:b=a
   ·exact .inr ⟨_,_,xCg hb⟩
   ·exact .inl (xCf hb)
  ·by_cases hb:b=a
   ·have z':=(xCg hb).symm.trans z;cases z';subst hb;exact ⟨ha,by rw [xAa];exact hl,vs,_,rv,ha⟩
   ·have z':=(xCf hb).symm.trans z;cases z'
  ·by_cases hb:b=a
   ·exact hb
   ·exact absurd (xCf hb) z
end L2
namespace L2
open PySem PySem.Spec PyProof.Rows
theorem walk_of {l:PySem.W.OpenLaw} {n k:Nat} {q:Program} {loose:List Str} {XP:(Str->Option Value)->Heap->Prop} {YP:World->Heap->Prop} {d:DefRec} {K:Params->xFr} {CX:World->CXT} {sp:World->Sp} {x:Str}
  (hn:l.most=some n) (hn2:n<=sizeLine) (hdf:d.params.defaults=[]) (hr:Room k callerA)
  (hY:∀ (w:World) (h:Heap),YP w h->(K w.params).In h)
  (F:∀ (w:World) (mg:Str->Option Value) (fa:Addr) (h:Heap),(K w.params).In h->h.Ns mainGlobals mg->mg d.name=some (.ref fa) ->
   ∃ fd:FuncData,(∀ (s:Shared) (u:Value),BindsTo s fd ⟨[u],[]⟩ [(x,u)]) /\
    ∀ base:Heap,(K w.params).In base->base.Ns mainGlobals mg->FnOk l.prog w (K w.params) mg base (CX w) k fa fd [x] (sp w))
  (hsp:∀ (w:World) (H:Hp) (a:Addr) (ns:List Int),ns.length<=n->Only H->SqL (K w.params) H a (ns.map V.int)->sp w [.ref a] H (fun v _=>v = .bl true) fun _ _ _=>False)
  (hCX:∀ (w:World) (H:Hp) (s:Shared) (e:Value) (s':Shared),CX w [] H s (fun _ _ _=>False) e s'->False) :
  PySem.W.WalkO q loose XP YP l.row.toRowW d [] (fun f vs=>PySem.call f vs):=by
 refine Att.attach_call hn hdf fun w s₀ s₁ mg mb fa o pm cd doc a vs ns G Y ho hd hcd hmg hobj hints hlen hg=>?_;have KX:=hY w _ Y;obtain ⟨fd,hb,hF⟩:=F w mg fa _ KX G.T.g hmg;exact ou KX G.T.g G.T.b G.T.builtins G.T.nolimit hg hobj hints (Nat.le_trans hlen hn2) hr hF hb (fun H hO hS=>hsp w H a ns hlen hO hS) fun H e s'=>hCX w H s₁ e s'
end L2
namespace L2
open PySem PySem.Spec PyProof.Rows
noncomputable def inClass (s:Stmt) (j:Nat):Stmt:=match s with
 | .ClassDef _ _ _ body _ _ _ _ _ _ _=>body.getD j (.Pass ⟨0,0,0,0⟩)
 | _=>.Pass ⟨0,0,0,0⟩
noncomputable def defArgs (s:Stmt):Arguments:=match s with
 | .FunctionDef _ a _ _ _ _ _ _ _ _=>a
 | _=>{ posonlyargs:=[],args:=[],vararg:=none,kwonlyargs:=[],kw_defaults:=[],kwarg:=none,defaults:=[] }
noncomputable def defBody (s:Stmt):List Stmt:=match s with
 | .FunctionDef _ _ b _ _ _ _ _ _ _=>b
 | _=>[]
noncomputable def defScope (s:Stmt):Scope:=match s with
 | .FunctionDef _ _ _ _ _ _ sc _ _ _=>sc
 | _=>{ kind:=.function,names:=[],isGenerator:=false,isCoroutine:=false }
structure Fun (K:xFr) (x qual:Str) (st:Stmt) (f:Addr) (fd:FuncData):Prop where
 ex:∃ (oc:Value) (od:Option Addr) (kV doc pm:Value) (an:Option Addr) (cdv ct:Value) (osl:Array (Option Value)),
  fd=W.fnOf x qual (defArgs st) (defBody st) (defScope st) .none kV doc pm an cdv ct/\K.lookup f=some ⟨oc,od,.func fd,osl⟩/\W.codeIn K cdv qual=true
 kp:W.keepIn K (.ref f)=true
section
variable {P:Program} {w:World} {K:xFr} {mg:Str->Option Value} {base:Heap}
theorem Fun.binds {x qual:Str} {st:Stmt} {f:Addr} {fd:FuncData} {ps:List Str} (F:Fun K x qual st f fd)
  (h:∀ (kV doc pm:Value) (an:Option Addr) (cdv ct:Value) (us:List Value),us.length=ps.length->bindArgs (W.fnOf x qual (defArgs st) (defBody st) (defScope st) .none kV doc pm an cdv ct) ⟨us,[]⟩=pure (ps.zip us)):Binds K fd ps []:=by
 obtain ⟨oc,od,kV,doc,pm,an,cdv,ct,osl,rfl,lk,hcd⟩:=F.ex;exact .all (h kV doc pm an cdv ct)
theorem oI {x qual:Str} {st:Stmt} {f:Addr} {oc:Value} {od an:Option Addr} {osl:Array (Option Value)} {kV doc pm cdv ct:Value} (l:K.lookup f=some ⟨oc,od,.func (W.fnOf x qual (defArgs st) (defBody st) (defScope st) .none kV doc pm an cdv ct),osl⟩)
  (c:W.codeIn K cdv qual=true) (k:W.keepIn K (.ref f)=true):Fun K x qual st f (W.fnOf x qual (defArgs st) (defBody st) (defScope st) .none kV doc pm an cdv ct):=⟨⟨oc,od,kV,doc,pm,an,cdv,ct,osl,rfl,l,c⟩,k⟩
end
theorem small1000 {n:Nat} (h:n<=1000):n<sizeLine:=Nat.lt_of_le_of_lt h (by decide)
def Same (H H':Hp):Prop:=∀ b o,H b=some o->H' b=some o
theorem Same.refl (H:Hp):Same H H:=fun _ _ h=>h
section
variable {X:Cx}
theorem mw:CallR X (.builtin "len") (fun xs H Q=>∃ a kvs,xs=[V.ref a]/\H a=some (.dK kvs)/\Q (.int kvs.length) H):=by
 intro pins s σ H xs us Q I r h;obtain ⟨a,kvs,rfl,ha,q⟩:=h;obtain ⟨u,rfl,ru⟩:=vals1 r;cases ru;exact wV I (.inl ha) fun t s' I'=>⟨.int kvs.length,H,I',⟨t,rfl⟩,q⟩
end
end L2
namespace L2
open PySem PySem.Spec PyProof.Rows
noncomputable def cxComp (X:Cx) (N:List Str) (scope:Scope) (cl:List (Str×Addr)) (C:Addr) (s:Shared) (H:Hp) (fp:List Addr):Cx where
 prog:=X.prog
 w:=X.w
 K:=X.K
 mg:=X.mg
 base:=X.base
 A:=X.A
 N:=N
 s₀:=s
 H₀:=H
 env:=compEnvC scope cl C X.env
 outer:=X.stack
 stack:=X.stack
 ex:=fp
 fn:=fun _=>false
 calm:=X.calm
 pn:=[]
 xe:=fun _ _=>False
theorem fI {env:Env} {scope:Scope} {y:Str} {k:NameKind} (h:(relabel scope env).names.lookup y=some k):∃ k0,(y,k0)∈scope.names/\(k=k0\/(k0 = .free/\k = .cell)):=by
 unfold relabel at h;dsimp only at h;revert h;generalize scope.names=l;intro h;induction l with
 | nil=>simp at h
 | cons a r ih =>
  obtain ⟨n,k1⟩:=a;rw [xBs] at h;by_cases hc:(k1 == NameKind.free && env.scope.kind == .function && env.kindOf n == some .cell)=true
  ·dsimp only at h;rw [xCg hc] at h;rw [List.lookup_cons] at h;by_cases e:y == n
   ·rw [e] at h;have e':y=n:=eq_of_beq e;subst e';have hk:k1 = .free:=by
     rw [Bool.and_eq_true,Bool.and_eq_true] at hc;exact eq_of_beq hc.1.1
    subst hk;exact ⟨.free,xAr,.inr ⟨rfl,(xB3 h).symm⟩⟩
   ·rw [Bool.eq_false_iff.mpr e] at h;obtain ⟨k0,m,z⟩:=ih h;exact ⟨k0,xAs _ m,z⟩
  ·dsimp only at h;rw [xCf hc] at h;rw [List.lookup_cons] at h;by_cases e:y == n
   ·rw [e] at h;have e':y=n:=eq_of_beq e;subst e';exact ⟨k1,xAr,.inl (xB3 h).symm⟩
   ·rw [Bool.eq_false_iff.mpr e] at h;obtain ⟨k0,m,z⟩:=ih h;exact ⟨k0,xAs _ m,z⟩
theorem dS {env:Env} {scope:Scope} {y:Str} (h:scope.names.lookup y=some .free):(relabel scope env).names.lookup y=some .cell\/(relabel scope env).names.lookup y=some .free:=by
 unfold relabel;dsimp only;revert h;generalize scope.names=l;intro h;induction l with
 | nil=>simp at h
 | cons a r ih =>
  obtain ⟨n,k1⟩:=a;rw [xBs];rw [List.lookup_cons] at h;by_cases hc:(k1 == NameKind.free && env.scope.kind == .function && env.kindOf n == some .cell)=true
  ·dsimp only;rw [xCg hc];rw [List.lookup_cons];by_cases e:y == n
   ·rw [e];exact .inl rfl
   ·rw [Bool.eq_false_iff.mpr e] at h ⊢;exact ih h
  ·dsimp only;rw [xCf hc];rw [List.lookup_cons];by_cases e:y == n
   ·rw [e] at h ⊢;exact .inr h
   ·rw [Bool.eq_false_iff.mpr e] at h ⊢;exact ih h
noncomputable def capV (σ:St) (fr:List Nat):St:=fr.map fun k=>(σ[k]?).join
end L2
namespace L2
open PySem PySem.Spec PyProof.Rows
section
variable {X:Cx}
theorem mx:CallR X (.builtin "isinstance") (fun xs H Q=>∃ x n t b,xs=[x,V.ty n]/\TyOf X.K H x t/\W.kitOne X.K t (.type n)=some b/\Q (.bl b) H):=by
 intro pins s σ H xs us Q I r h;obtain ⟨x,n,t,b,rfl,ty,e,q⟩:=h;obtain ⟨u,u2,rfl,ru,ru2⟩:=vals2 r;cases (show u2=Value.type n from ru2);exact gQ I ru ty e fun tk=>⟨.bl b,H,I.tok tk,rfl,q⟩
theorem qw:OpR X (binaryOp .Mult) (rI (fun i j=>IntMulOk i j) fun i j=>.int (i * j)):=opI fun _ _ _ _ _ _ _ hc q=>mul_int q hc
theorem og:OpR X (binaryOp .FloorDiv) (rI (fun i j=>j≠0/\Builtin.divisionGoesByPylong i j=false) fun i j=>.int (i.fdiv j)):=opI fun _ _ _ _ _ _ _ hc q=>floordiv_int hc.1 q (.inl hc.2)
theorem oV {x:V} (h:flatV x=true):eqV x x=true:=by
 cases x <;> first | rfl | (exact absurd (show false=true from h) (by decide)) | (simp [eqV])
end
theorem small {n:Nat} (h:n<=1000):n<=sizeLine:=Nat.le_of_lt (small1000 h)
theorem ez {H:Hp} {p:Addr} (h:H p=none) (o:HO):Same H (upd H p o):=fun b u q=>by rw [dg (dy q h)];exact q
end L2
namespace L2
open PySem PySem.Spec PyProof.Rows
section
variable {X:Cx}
theorem my:CallR X (.builtin "isinstance") (fun xs H Q=>∃ x C t b,xs=[x,V.ref C]/\TyOf X.K H x t/\W.kitOne X.K t (.ref C)=some b/\Q (.bl b) H):=by
 intro pins s σ H xs us Q I r h;obtain ⟨x,C,t,b,rfl,ty,e,q⟩:=h;obtain ⟨u,u2,rfl,ru,ru2⟩:=vals2 r;cases (show u2=Value.ref C from ru2);exact gQ I ru ty e fun tk=>⟨.bl b,H,I.tok tk,rfl,q⟩
end
theorem dE {xs:List V} {us:List Value} (r:Vals xs us) {j:Nat} (hj:j<us.toArray.size):∃ x,xs[j]?=some x/\RelV x us.toArray[j]:=by
 rw [xAp] at hj;have jx:j<xs.length:=by rw [r.length];exact hj
 obtain ⟨u,e,q⟩:=r.get (xAk jx);refine ⟨xs[j],xAk jx,?_⟩;rw [List.getElem_toArray];have:us[j]=u:=(xAq.mp e).2;rw [this];exact q
end L2
namespace L2
open PySem PySem.Spec PyProof.Rows PySem.Builtin PySem.Builtin.ObjectAttr
theorem ObjOk.there {P:Program} {w:World} {H:Hp} {h:Heap} {a:Addr} {o:HO} (x:ObjOk P w H h a o):∃ u,h.get? a=some u:=by
 cases o with
 | lst xs=>obtain ⟨_,_,_,_,e⟩:=x;exact ⟨_,e⟩
 | tup xs=>obtain ⟨_,_,_,ob,e,_⟩:=x;exact ⟨_,e⟩
 | dK kvs=>obtain ⟨_,_,_,_,o,_,_,e,_⟩:=x;exact ⟨_,e⟩
 | dT kvs=>obtain ⟨_,_,_,_,o,_,_,e,_⟩:=x;exact ⟨_,e⟩
 | set S n=>obtain ⟨o,_,_,_,e,_⟩:=x;exact ⟨_,e⟩
 | ins C dx fs=>obtain ⟨_,_,_,e,_⟩:=x;exact ⟨_,e⟩
 | own y=>obtain ⟨_,e⟩:=x;exact ⟨_,e⟩
 | xd fs=>obtain ⟨_,⟨_,_,_,e,_⟩,_⟩:=x;exact ⟨_,e⟩
 | rng lo hi=>obtain ⟨_,_,_,e⟩:=x;exact ⟨_,e⟩
 | frz ob u=>obtain ⟨e,_⟩:=x;exact ⟨_,e⟩
 | tbl ps=>exact ⟨_,(show h.get? a=some _ from x)⟩
 | met f y=>exact ⟨_,(show h.get? a=some _ from x)⟩
 | ext φ=>obtain ⟨_,e,_⟩:=x;exact e
section
variable {X:Cx} {pins:List (Addr×Obj)} {σ:St} {H:Hp} {s:Shared} {h':Heap}
theorem Inv.laidN {a:Addr} {o:HO} {t':Nat} (I:Inv X pins σ H s) (k:∀ b u,s.heap.get? b=some u->h'.get? b=some u) (hf:s.heap.get? a=none) (new:ObjOk X.prog X.w (upd H a o) h' a o) :
  H a=none/\Inv X pins σ (upd H a o) { s with heap:=h',toks:=t' }:=by
 have hn:H a=none:=by
  cases q:H a with
  | none=>rfl
  | some u =>
   obtain ⟨v,e⟩:=(I.hok a u q).there;rw [hf] at e;cases e
 refine ⟨hn,I.un ⟨fun b u q _ _ _=>k b u q,fun b u q _ _ _=>⟨u.slots,k b u q⟩,fun b u q n _=>?_,fun b u q _=>⟨u,k b u q⟩,fun b xs q=>?_,fun b u xs q=>?_,fun b ps q=>⟨#[],?_⟩⟩ fun b u e=>?_⟩
 ·rw [dg (fun z=>by rw [z,hf] at q;cases q)];exact n
 ·rw [dg (dy q hn)];exact q
 ·rw [dg (dy q hn)];exact q
 ·rw [dg (dy q hn),q,Array.append_empty]
 ·by_cases hb:b=a
  ·subst hb;rw [dk] at e;cases e;exact new
  ·rw [dg hb] at e;exact (I.hok b u e).stay (fun c v _ q=>k c v q) (fun c q=>by rw [dg (dy q hn)];exact q) fun c xs q=>by rw [dg (dy q hn)];exact q
end
end L2
namespace L2
open PySem PySem.Spec PyProof.Rows PySem.Builtin PySem.Builtin.ObjectAttr
def PassS (CX:CXT) (X:Cx) (Ex:St->XK):Prop:=∀ (pins:List (Addr×Obj)) (σ:St) (H:Hp) (s:Shared) (ev:Value) (s':Shared),Inv X pins σ H s->CX X.stack H s (Ex σ) ev s'->X.xe ev s'
noncomputable def tCallS (sp:Sp) (dvs:List V) (Ex:St->XK) (t:TA):TE:=fun σ H Q=>t σ H fun vs H1=>sp (vs++dvs) H1 Q (Ex σ)
noncomputable def tMethS (C:Addr) (m:Str) (sp:Sp) (dvs:List V) (Ex:St->XK) (ta:TE) (t:TA):TE:=fun σ H Q=>ta σ H fun x H1=>∃ a dx fs,x = .ref a/\H1 a=some (.ins C dx fs)/\fs.lookup m=none /\
 t σ H1 fun vs H2=>sp (x::(vs++dvs)) H2 Q (Ex σ)
section
variable {X:Cx} {CX:CXT} {k:Nat} {f C:Addr} {fd:FuncData} {ps:List Str} {sp:Sp} {dvs:List V} {ds:List Value} {Ex:St->XK} {x m:Str} {p pos apos:Pos} {e o:Expr} {es:List Expr} {ta:TE} {t:TA}
theorem eY {pins:List (Addr×Obj)} {σ:St} {H:Hp} {s:Shared} {Q:VK} {us:List Value} {vs:List V} (F:FnOk X.prog X.w X.K X.mg X.base CX k f fd ps sp) (hr:Room k X.A) (hb:Binds X.K fd ps ds) (hd:Vals dvs ds) (hx:PassS CX X Ex)
  (I:Inv X pins σ H s) (r:Vals vs us) (h:sp (vs++dvs) H Q (Ex σ)):wpAny (model X.prog X.w) X.A (call (.ref f) us) (EP X pins σ Q) X.xe s:=by
 have r2:Vals (vs++dvs) (us++ds):=r.append hd;have hl:(us++ds).length=ps.length:=by rw [<- r2.length];exact F.len _ _ _ _ h
 refine wpAny_call (codeAny_mono (F.run X.A X.stack s H ⟨us,[]⟩ (us++ds) (vs++dvs) Q (Ex σ) hr I.env0 (hb s us I.kIn hl) r2 h) fun r s' hq=>?_);cases r with
 | error e=>exact hx pins σ H s e s' I hq
 | ok fl =>
  cases fl with
  | ret u=>exact I.after hq
  | next=>exact False.elim hq
  | brk=>exact False.elim hq
  | cont=>exact False.elim hq
theorem nU (F:FnOk X.prog X.w X.K X.mg X.base CX k f fd ps sp) (hr:Room k X.A) (hg:Gl X x) (hm:X.mg x=some (.ref f)) (hk:W.keepIn X.K (.ref f)=true) (hb:Binds X.K fd ps ds) (hd:Vals dvs ds) (hx:PassS CX X Ex)
  (ha:PA X (e::es) t) (hdb:(x == ("__debug__":Str))=false:=by decide) (he:starEach (e::es) X.env=(false,eval e X.env)::starEach es X.env:=by rfl) (hpl:(backTo pos (starEach es X.env)).any (·.1)=false:=by rfl) :
  PE X (.Call (.Name x p) (e::es) [] pos) (tCallS sp dvs Ex t):=by
 intro pins s σ H Q I h;refine wpAny_Call_Name_kw (e9 I hg hm ?_ hdb);refine W.callWith_K (h₀:=X.base) I.ok.mod.kin hk (thn (ha pos pins s σ H _ I h) fun us s1 ⟨vs,H1,I1,r,q⟩=>⟨I1.kIn,?_⟩) he hpl;exact eY F hr hb hd hx I1 r q
theorem lN (F:FnOk X.prog X.w X.K X.mg X.base CX k f fd ps sp) (hr:Room k X.A) (hg:Gl X x) (hm:X.mg x=some (.ref f)) (hk:W.keepIn X.K (.ref f)=true) (hb:Binds X.K fd ps ds) (hd:Vals dvs ds) (hx:PassS CX X Ex)
  (hdb:(x == ("__debug__":Str))=false:=by decide):PE X (.Call (.Name x p) [] [] pos) (tCallS sp dvs Ex tNil):=by
 intro pins s σ H Q I h;refine wpAny_Call_Name_kw (e9 I hg hm ?_ hdb);exact W.callWith_K0 I.kIn hk (eY (us:=[]) F hr hb hd hx I .nil h)
theorem nO {pl:Sem Bool} (he:PE X o ta) (c:Cls X.K C) (hm:Meth X.K C m f) (F:FnOk X.prog X.w X.K X.mg X.base CX k f fd ps sp) (hr:Room k X.A) (hb:Binds X.K fd ps ds) (hd:Vals dvs ds) (hx:PassS CX X Ex) (ha:PA X (e::es) t)
  (hst:starEach (e::es) X.env=(false,eval e X.env)::starEach es X.env:=by rfl) (hpl:(backTo pos (starEach es X.env)).any (·.1)=false:=by rfl)
  (ht:eval (.Call (.Attribute o m apos) (e::es) [] pos) X.env=(do
   let ov <- eval o X.env
   standAt apos.atName
   let (f,first) <- holding [ov] (getMethod ov m pl)
   callWith pos f first (backTo pos (starEach (e::es) X.env)) (backToKw pos (keywordEach [] X.env))):=by rfl) :
  PE X (.Call (.Attribute o m apos) (e::es) [] pos) (tMethS C m sp dvs Ex ta t):=by
 intro pins s σ H Q I h;refine W.methodCall_KW (pl:=pl) (thn (he pins s σ H _ I h) fun u s1 ⟨x,H1,I1,rx,a,dx,fs,ex,ea,l,q⟩=>?_) ht;subst ex;obtain rfl:u=Value.ref a:=rx;refine gu I1 ea c hm l ?_;refine W.callWith_K (first:=[.ref a]) (h₀:=X.base) I.ok.mod.kin hm.kp (thn (ha pos pins s1 σ H1 _ I1 q) fun us s2 ⟨vs,H2,I2,r,q2⟩=>⟨I2.kIn,?_⟩) hst hpl;exact eY (us:=.ref a::us) (vs:=.ref a::vs) F hr hb hd hx I2 (.cons rfl r) q2
theorem lL {pl:Sem Bool} (he:PE X o ta) (c:Cls X.K C) (hm:Meth X.K C m f) (F:FnOk X.prog X.w X.K X.mg X.base CX k f fd ps sp) (hr:Room k X.A) (hb:Binds X.K fd ps ds) (hd:Vals dvs ds) (hx:PassS CX X Ex)
  (ht:eval (.Call (.Attribute o m apos) [] [] pos) X.env=(do
   let ov <- eval o X.env
   standAt apos.atName
   let (f,first) <- holding [ov] (getMethod ov m pl)
   callWith pos f first (backTo pos (starEach [] X.env)) (backToKw pos (keywordEach [] X.env))):=by rfl) :
  PE X (.Call (.Attribute o m apos) [] [] pos) (tMethS C m sp dvs Ex ta tNil):=by
 intro pins s σ H Q I h;refine W.methodCall_KW (pl:=pl) (thn (he pins s σ H _ I h) fun u s1 ⟨x,H1,I1,rx,a,dx,fs,ex,ea,l,q⟩=>?_) ht;subst ex;obtain rfl:u=Value.ref a:=rx;refine gu I1 ea c hm l ?_;exact W.callWith_K0 (first:=[.ref a]) I1.kIn hm.kp (eY (us:=[.ref a]) (vs:=[.ref a]) F hr hb hd hx I1 (.cons rfl .nil) q)
end
end L2
namespace L2
open PySem PySem.Spec PyProof.Rows PySem.Builtin PySem.Builtin.ObjectAttr
noncomputable def Cx.trial (X:Cx) (pins:List (Addr×Obj)) (E:Value->Shared->Prop):Cx:={ X with xe:=E,pn:=X.pn++pins }
section
variable {X:Cx} {pins pins':List (Addr×Obj)} {σ:St} {H:Hp} {s:Shared} {E:Value->Shared->Prop} {e:Addr}
theorem Cx.Ok.trial (ok:X.Ok):(X.trial pins E).Ok:=⟨ok.mod,ok.kind,ok.glob,ok.blt,ok.above,ok.inj,ok.has,ok.cab,ok.hd,ok.frames,ok.stk,ok.exf,ok.bs,ok.bsz,ok.noex,ok.exfs,ok.funs,ok.frf⟩
theorem Inv.trial (I:Inv X pins σ H s):Inv (X.trial pins E) [] σ H s:=⟨I.ok.trial,I.os,I.bare,I.base,I.loc,I.cell,I.free,I.freeC,fun p hp=>I.pin p (by rw [xB0] at hp;exact hp),I.hok,I.len⟩
theorem Inv.untrial (ok:X.Ok) (I:Inv (X.trial pins E) pins' σ H s):Inv X pins σ H s:=⟨ok,I.os,I.bare,I.base,I.loc,I.cell,I.free,I.freeC,fun p hp=>I.pin p (List.mem_append_left _ hp),I.hok,I.len⟩
theorem SP.untrial {D:Ends} {f:Flow} (ok:X.Ok) (h:SP (X.trial pins E) pins' D f s):SP X pins D f s:=by
 cases f with
 | next=>obtain ⟨σ',H',I,q⟩:=h;exact ⟨σ',H',I.untrial ok,q⟩
 | brk=>obtain ⟨σ',H',I,q⟩:=h;exact ⟨σ',H',I.untrial ok,q⟩
 | cont=>obtain ⟨σ',H',I,q⟩:=h;exact ⟨σ',H',I.untrial ok,q⟩
 | ret u=>obtain ⟨v,σ',H',I,r,q⟩:=h;exact ⟨v,σ',H',I.untrial ok,r,q⟩
end
end L2
namespace L2
open PySem PySem.Spec PyProof.Rows
inductive Al (H:Hp):Nat->V->V->Prop where
 | flat {n:Nat} {x:V}:flatV x=true->Al H n x x
 | same {n:Nat} {a:Addr}:Al H n (.ref a) (.ref a)
 | tup {n:Nat} {a b:Addr} {xs ys:List V}:H a=some (.tup xs)->H b=some (.tup ys)->xs.length=ys.length->(∀ (j:Nat) (x y:V),xs[j]?=some x->ys[j]?=some y->Al H n x y)->Al H (n+1) (.ref a) (.ref b)
 | lst {n:Nat} {a b:Addr} {xs ys:List V}:H a=some (.lst xs)->H b=some (.lst ys)->xs.length=ys.length->(∀ (j:Nat) (x y:V),xs[j]?=some x->ys[j]?=some y->Al H n x y)->Al H (n+1) (.ref a) (.ref b)
theorem fZ {P:Program} {w:World} {H:Hp} {s:Shared} (hok:HOk P w H s.heap) {n:Nat} {x y:V} (h:Al H n x y):∀ {A:Around} {u v:Value},RelV x u->RelV y v->A.units+n<cLine->SeqAt.EqAt A s u v true:=by
 induction h with
 | @flat n x f =>
  intro A u v r1 r2 _;have:=oY (A:=A) (s:=s) r1 r2 f f;rw [oV f] at this;exact this
 | @same n a =>
  intro A u v r1 r2 _;cases (show u=Value.ref a from r1);cases (show v=Value.ref a from r2);exact SeqAt.EqAt.same _
 | @tup n a b xs ys ea eb el _ ih =>
  intro A u v r1 r2 hu;cases (show u=Value.ref a from r1);cases (show v=Value.ref b from r2);by_cases hab:a=b
  ·subst hab;exact SeqAt.EqAt.same _
  ·obtain ⟨_,its,q1,t1⟩:=(show ObjOk P w H s.heap a (.tup xs) from hok a _ ea)
   obtain ⟨_,its2,q2,t2⟩:=(show ObjOk P w H s.heap b (.tup ys) from hok b _ eb)
   have he:∀ j (h1:j<its.toArray.size) (h2:j<its2.toArray.size),SeqAt.EqAt A.in1 s its.toArray[j] its2.toArray[j] ((fun _=>true) j):=fun j j1 j2=>by
    obtain ⟨x1,e1,g1⟩:=dE q1 j1;obtain ⟨y1,e2,g2⟩:=dE q2 j2;exact ih j x1 y1 e1 e2 g1 g2 (by show A.units+1+n<cLine;lia)
   refine SeqAt.EqAt.of_refs hab ?_;have:=SeqAt.RcAt.tuples (e:=fun _=>true) t1 t2 (by lia) he;have ev:((List.range (min its.toArray.size its2.toArray.size)).all (fun _=>true) && its.toArray.size == its2.toArray.size)=true:=by
    rw [xAp,xAp,<- q1.length,<- q2.length,el];simp
   rw [ev] at this;exact this
 | @lst n a b xs ys ea eb el _ ih =>
  intro A u v r1 r2 hu;cases (show u=Value.ref a from r1);cases (show v=Value.ref b from r2);by_cases hab:a=b
  ·subst hab;exact SeqAt.EqAt.same _
  ·obtain ⟨_,its,n1,q1,t1⟩:=(show ObjOk P w H s.heap a (.lst xs) from hok a _ ea)
   obtain ⟨_,its2,n2,q2,t2⟩:=(show ObjOk P w H s.heap b (.lst ys) from hok b _ eb)
   have he:∀ j (h1:j<its.toArray.size) (h2:j<its2.toArray.size),SeqAt.EqAt A.in1 s its.toArray[j] its2.toArray[j] ((fun _=>true) j):=fun j j1 j2=>by
    obtain ⟨x1,e1,g1⟩:=dE q1 j1;obtain ⟨y1,e2,g2⟩:=dE q2 j2;exact ih j x1 y1 e1 e2 g1 g2 (by show A.units+1+n<cLine;lia)
   refine SeqAt.EqAt.of_refs hab ?_;have es:its.toArray.size=its2.toArray.size:=by rw [xAp,xAp,<- q1.length,<- q2.length,el]
   have:=SeqAt.RcAt.lists (e:=fun _=>true) ⟨_,t1,rfl,_,rfl⟩ ⟨_,t2,rfl,_,rfl⟩ es (by lia) he;have ev:(List.range its.toArray.size).all (fun _=>true)=true:=List.all_eq_true.mpr fun _ _=>rfl;rw [ev] at this;exact this
section
variable {X:Cx}
noncomputable def rAl (b:Bool):R2:=fun x y H Q=>∃ p q xs ys n,x = .ref p/\y = .ref q/\H p=some (.tup xs)/\H q=some (.tup ys)/\xs.length=ys.length/\n<=30/\(∀ (j:Nat) (x y:V),xs[j]?=some x->ys[j]?=some y->Al H n x y)/\Q (.bl b) H
theorem qv (hu:X.A.units+40<cLine):OpR X (compareOp .NotEq) (rAl false):=by
 intro pins s σ H x y v u Q I rx ry h;obtain ⟨a,b,xs,ys,n,rfl,rfl,ea,eb,el,hn,al,q⟩:=h;cases (show v=Value.ref a from rx);cases (show u=Value.ref b from ry);obtain ⟨_,its,q1,t1⟩:=(show ObjOk X.prog X.w H s.heap a (.tup xs) from I.hok a _ ea)
 obtain ⟨_,its2,q2,t2⟩:=(show ObjOk X.prog X.w H s.heap b (.tup ys) from I.hok b _ eb)
 have he:∀ j (h1:j<its.toArray.size) (h2:j<its2.toArray.size),SeqAt.EqAt X.A.in1 s its.toArray[j] its2.toArray[j] ((fun _=>true) j):=fun j j1 j2=>by
  obtain ⟨x1,e1,g1⟩:=dE q1 j1;obtain ⟨y1,e2,g2⟩:=dE q2 j2;exact fZ I.hok (al j x1 y1 e1 e2) g1 g2 (by show X.A.units+1+n<cLine;lia)
 refine (SeqAt.RcNeAt.tuples (e:=fun _=>true) t1 t2 (by lia) he) X.prog X.w X.xe _ ?_;refine dj I q ?_;rw [xAp,xAp,<- q1.length,<- q2.length,el];simp
theorem qx (hu:X.A.units+40<cLine):OpR X (compareOp .Eq) (rAl true):=by
 intro pins s σ H x y v u Q I rx ry h;obtain ⟨a,b,xs,ys,n,rfl,rfl,ea,eb,el,hn,al,q⟩:=h;cases (show v=Value.ref a from rx);cases (show u=Value.ref b from ry);obtain ⟨_,its,q1,t1⟩:=(show ObjOk X.prog X.w H s.heap a (.tup xs) from I.hok a _ ea)
 obtain ⟨_,its2,q2,t2⟩:=(show ObjOk X.prog X.w H s.heap b (.tup ys) from I.hok b _ eb)
 have he:∀ j (h1:j<its.toArray.size) (h2:j<its2.toArray.size),SeqAt.EqAt X.A.in1 s its.toArray[j] its2.toArray[j] ((fun _=>true) j):=fun j j1 j2=>by
  obtain ⟨x1,e1,g1⟩:=dE q1 j1;obtain ⟨y1,e2,g2⟩:=dE q2 j2;exact fZ I.hok (al j x1 y1 e1 e2) g1 g2 (by show X.A.units+1+n<cLine;lia)
 refine SeqAt.eq_tupleAt (e:=fun _=>true) t1 t2 (by lia) he ?_;refine dj I q ?_;rw [xAp,xAp,<- q1.length,<- q2.length,el];simp
end
end L2
namespace SetA
open PySem PySem.SetTable
theorem gF {α:Type} (xs:Array α) (p:Nat) (x:α):(insertAt xs p x).size=xs.size+1:=by
 rw [<- xAh,toList_insertAt];simp only [xAb,List.length_take,xAo,List.length_drop,xAh];lia
end SetA
namespace SetA
open PySem PySem.SetTable
noncomputable def setObj (es:Array (Int×Value)) (ep:Nat) (t:SetTable):Obj:={ cls:=.type "set",dict:=none,data:=.set es ep t,slots:=#[] }
end SetA
namespace SetA
open PySem PySem.Spec PySem.SetTable PyProof.Rows
section
variable {prog:Program} {w:World} {A:Around} {E:Value->Shared->Prop} {s:Shared}
theorem qD (x:Value) {Q₁:Value->Shared->Prop}
  (h:∀ led:Bool,(led=true\/w.params.followText "set-order"=true)->Q₁ (.ref s.heap.objs.size) { s with heap:=s.heap.push (setObj #[] 0 (.fresh 0 0 led)) }) :
  codeAny (model prog w) A (.call (.builtin "set.__new__") ⟨[.type "set",x],[]⟩) (wants Q₁ E) s:=by
 refine codeAny_of_tree ?_;change wpAny _ A.in1 (do checkBuiltinCall "set.__new__" ⟨[.type "set",x],[]⟩;again (.builtin "set.__new__" ⟨[.type "set",x],[]⟩)) _ _ s;refine xAd (wpAny_of_eq (PySem.F.newCall_set_1 x) (xAe ⟨plainId_quiet PySem.F.plain_set_new _,codeAny_builtin PySem.F.entry_set_new ?_⟩));rw [Around.under_plainId PySem.F.plain_set_new _];unfold Builtin.«set.__new__» Builtin.Frozenset.newClass;have hss:=sub_set_self;obtain ⟨hp,gg,dd,tt,oo⟩:=s;dsimp only;wp_walk
 refine wpAny_askSetting (xAe ?_);dsimp only;simp only [newObj];refine xAd (wpAny_alloc (xAe (xAe (h _ ?_))));change (!(w.params.followText "set-order"))=true\/w.params.followText "set-order"=true;cases w.params.followText "set-order" <;> simp
end
end SetA
namespace L2
open PySem PySem.Spec PyProof.Rows
structure CapsG (X:Cx) (scope:Scope) (cl:List (Str×Addr)) (ls N:List Str) (fr:List Nat):Prop where
 clos:closureFor scope X.env=pure cl
 cell:∀ y∈scope.names,y.2≠.cell
 kind:scope.kind = .function
 names:∀ y∈scope.names,y.2 = .local->scope.names.lookup y.1=some .local
 sub:∀ y c,cl.lookup y=some c->X.env.cells.lookup y=some c
 has:∀ y∈scope.names,y.2 = .free->∃ c,cl.lookup y.1=some c
 caps:∀ (j:Nat) (y:Str),N[j]?=some y->∃ k c,fr[j]?=some k/\X.N[k]?=some y/\Vis X.env.scope y/\X.env.kindOf y≠some .local/\cl.lookup y=some c/\(scope.names.lookup y=some .free)
 len:N.length=fr.length
theorem jX {prog:Program} {w:World} {A:Around} {R:Result->Shared->Prop} {s:Shared} {elt target iter:Expr} {ifs:List Expr} {scope:Scope} {pos:Pos} {it acc:Value} {env:Env} (J:Nat->Shared->Prop)
  (go:∀ n s,J n s->wpAny (model prog w) A (pyNext it) (fun r s1=>match r with
   | none=>R (.ok .next) s1
   | some v=>wpAny (model prog w) A (letOwnedTupleGo target it v) (fun _ s2=>wpAny (model prog w) A (assign target env v) (fun _ s3 =>
     wpAny (model prog w) A (forIn ifs true fun c r=>if r=true then do let ok <- isTrue c env (eval c env);pure (ForInStep.yield ok) else pure (ForInStep.yield r)) (fun ok s4 =>
      if ok=true then wpAny (model prog w) A (eval elt env) (fun x s5=>wpAny (model prog w) A (call (.builtin "list.append") [acc,x]) (fun _ s6=>∃ m,m<n/\J m s6) (notedBy (model prog w) A env fun e s'=>R (.error e) s') s5) (notedBy (model prog w) A env fun e s'=>R (.error e) s') s4
      else ∃ m,m<n/\J m s4) (notedBy (model prog w) A env fun e s'=>R (.error e) s') s3) (notedBy (model prog w) A env fun e s'=>R (.error e) s') s2) (notedBy (model prog w) A env fun e s'=>R (.error e) s') s1) (notedBy (model prog w) A env fun e s'=>R (.error e) s') s)
  (n:Nat) (h:J n s):codeAny (model prog w) A (.compLoop (.ListComp elt [⟨target,iter,ifs,0⟩] scope pos) 0 it acc env) R s:=by
 refine codeAny_loop rfl J (fun n s hJ=>?_) n h;change wpAny _ A ((compTurn (.ListComp elt [⟨target,iter,ifs,0⟩] scope pos) 0 it acc env).onRaise (fun x=>do noteFrame x env;theTreesLotGoes x)) _ _ s;refine wpAny_noted ?_;rw [compTurn_list];refine xAd (wpAny_standAt (xAd (wpAny_mono (go n s hJ) (fun r s1 h1=>?_) fun _ _ z=>z)));cases r with
 | none=>exact xAe h1
 | some v =>
  refine xAd (wpAny_mono h1 (fun _ s2 h2=>?_) fun _ _ z=>z);refine xAd (wpAny_mono h2 (fun _ s3 h3=>xAd (wpAny_mono h3 (fun ok s4 h4=>?_) fun _ _ z=>z)) fun _ _ z=>z);cases ok with
  | false=>exact xAe ⟨rfl,h4⟩
  | true=>exact xAd (xAd (wpAny_mono h4 (fun x s5 h5=>xAd (wpAny_mono h5 (fun _ s6 h6=>xAe (xAe ⟨rfl,h6⟩)) fun _ _ z=>z)) fun _ _ z=>z))
def PTs (X:Cx) (ifs:List Expr) (t:TT):Prop :=
 ∀ (pins:List (Addr×Obj)) (s:Shared) (σ:St) (H:Hp) (Q:Bool->Hp->Prop),Inv X pins σ H s->t σ H Q ->
  wpAny (model X.prog X.w) X.A (forIn ifs true fun c r=>if r=true then do let ok <- isTrue c X.env (eval c X.env);pure (ForInStep.yield ok) else pure (ForInStep.yield r)) (TP X pins σ Q) X.xe s
noncomputable def tYes:TT:=fun _ H Q=>Q true H
theorem pW {X:Cx}:PTs X [] tYes:=fun _ _ _ H _ I h=>wpAny_tests_nil ⟨H,I,h⟩
theorem pV {X:Cx} {c:Expr} {t:TT} (h:PT X c t):PTs X [c] t:=fun pins s σ H Q I q=>wpAny_tests_one (h pins s σ H Q I q)
noncomputable def tLCg (wi:TI) (m:Nat) (fr:List Nat) (g:TG) (tc:TT) (te:TE):TE:=fun σ H Q=>wi σ H fun J H1=>∀ D,H1 D=none->∃ W:Nat->Nat->List V->Hp->Prop,(∃ k,W 0 k [] (upd H1 D (.lst [])))/\∀ i k ys H,W i k ys H->H D=some (.lst ys) /\
 ((J.stop i H/\Q (.ref D) H)\/(J.go i H/\ys.length<sizeLine/\∃ N:List V->Hp->Prop,(∀ ys' H',N ys' H'->∃ k',k'<k/\W (i+1) k' ys' H') /\
  ∀ x H',J.yld i H x H'->g x (List.replicate m none++capV σ fr) H' fun σ2 H2=>σ2.drop m=capV σ fr/\σ2.length=m+fr.length /\
   tc σ2 H2 fun b H3=>H3 D=some (.lst ys)/\if b=true then te σ2 H3 fun v H4=>H4 D=some (.lst ys)/\N (ys++[v]) (upd H4 D (.lst (ys++[v]))) else N ys H3))
theorem Inv.forget {X:Cx} {pins:List (Addr×Obj)} {σ σ':St} {H:Hp} {s:Shared} (I:Inv X pins σ H s) (hl:σ'.length=σ.length) (h:∀ (i:Nat) (v:V),σ'[i]?=some (some v)->σ[i]?=some (some v)):Inv X pins σ' H s :=
 ⟨I.ok,I.os,I.bare,I.base,let ⟨m,h1,h2⟩:=I.loc;⟨m,h1,fun i x v e1 e2 e3=>h2 i x v e1 (h i v e2) e3⟩,I.cell,I.free,I.freeC,I.pin,I.hok,hl.trans I.len⟩
theorem iY {m:Nat} {cs:St} {i:Nat} {v:V} (h:(List.replicate m none++cs)[i]?=some (some v)):m<=i/\cs[i - m]?=some (some v):=by
 by_cases hi:i<m
 ·rw [List.getElem?_append_left (by simpa using hi),List.getElem?_replicate,xCg hi] at h;cases h
 ·rw [List.getElem?_append_right (by simp;lia),List.length_replicate] at h;exact ⟨by lia,h⟩
section
variable {X:Cx} {elt tg iter:Expr} {ifs:List Expr} {pos:Pos} {scope:Scope} {cl:List (Str×Addr)} {ls N:List Str} {fr:List Nat} {wi:TI} {g:TG} {tc:TT} {te:TE}
theorem pc {pins:List (Addr×Obj)} {σ:St} {H:Hp} {s:Shared} {fp:List Addr} {C:Addr} (cp:CapsG X scope cl ls N fr) (I:Inv X pins σ H s) (hC:s.heap.objs.size<=C) (hf:∀ b∈fp,FpOk X pins H b) (hl:∀ b∈fp,b<s.heap.objs.size) :
  (cxComp X (ls++N) scope cl C s H fp).Ok where
 mod:=I.ok.mod
 kind:=cp.kind
 glob:=I.ok.glob
 blt:=I.ok.blt
 above:=hC
 inj:=fun y z c e1 e2=>I.ok.inj y z c (cp.sub y c e1) (cp.sub z c e2)
 has:=fun y h=>by
  have h':(relabel scope X.env).names.lookup y=some .cell\/(relabel scope X.env).names.lookup y=some .free:=h;rcases h' with h' | h'
  ·obtain ⟨k0,m,z | ⟨z,_⟩⟩:=fI h'
   ·subst z;exact absurd rfl (cp.cell _ m)
   ·subst z;exact cp.has _ m rfl
  ·obtain ⟨k0,m,z | ⟨_,z⟩⟩:=fI h'
   ·subst z;exact cp.has _ m rfl
   ·cases z
 cab:=fun _ _ e=>absurd e xAy
 hd:=I.ok.hd
 frames:=I.ok.frames
 stk:=.inl rfl
 exf:=fun b hb=>⟨xA0 (xBc (hl b hb) hC),fun y c e z=>(hf b hb).2.2.2.2.1 y c (cp.sub y c e) z⟩
 bs:=I.bs
 bsz:=Nat.le_trans I.ok.bsz I.sz
 noex:=fun b o e hb=>by
  have q:=hf b hb;rcases q.2.2.2.1 with z | z
  ·exact I.ok.noex b o e z
  ·have:=xA1 (I.ok.bs b o e).1;exact absurd (xBc this z) (xBo _)
 exfs:=fun b hb z=>by
  have q:=hf b hb;rcases xAv.mp (I.stkSub b z) with z' | z'
  ·exact q.2.1 z'
  ·exact q.2.2.1 z'
 funs:=I.stack
 frf:=I.stkFree
theorem pe {pos':Pos} {pins:List (Addr×Obj)} {s:Shared} {σ:St} {H:Hp} {Q:VK} {use:Option (Value->Sem Unit)} {QQ:Value->Shared->Prop} (hc:X.calm=true) (cp:CapsG X scope cl ls N fr) (hi:PI X tg iter wi) (hg:∀ C s H fp,PG (cxComp X (ls++N) scope cl C s H fp) tg g) (ht:∀ C s H fp,PTs (cxComp X (ls++N) scope cl C s H fp) ifs tc) (he:∀ C s H fp,PE (cxComp X (ls++N) scope cl C s H fp) elt te)
  (hs:∀ v,foldedSetIterable iter X.env v=pure v) (I:Inv X pins σ H s) (h:tLCg wi ls.length fr g tc te σ H Q)
  (fin:∀ (B C:Addr) (H':Hp) (s4:Shared) (m:Str->Option Value),Inv X pins σ H' s4->FpOk X pins H' C->s4.heap.Ns C m->Q (.ref B) H'->compPost (model X.prog X.w) X.A X.xe use QQ (.ref B) C (.ok .next) s4) :
  wpAny (model X.prog X.w) X.A (comprehension (.ListComp elt [⟨tg,iter,ifs,0⟩] scope pos) scope X.env pos' (newList []) false (eval iter X.env) use) QQ X.xe s:=by
 refine wpAny_comprehension_free (use:=use) rfl hs cp.clos cp.kind cp.names (thn (hi pins s σ H _ I h) fun v s1 h1=>thn h1 fun itv s2 h2=>?_);obtain ⟨it,fp,tn,J,H2,e,I2,T,st2,f2,R⟩:=h2;subst e;have hfl:∀ b∈fp,b<s2.heap.objs.size:=fun b hb=>let ⟨o,e,_⟩:=T.obj _ _ st2 b hb;xA1 e;refine xBl (wpAny_newFunctionEnv cp.cell (by intro y hy;simp at hy) (fun h1 hns1 hsb1=>?_) cp.kind);dsimp only at hns1 hsb1 ⊢;generalize hG:s2.heap.push { cls:=.type "list",dict:=none,data:=.seq ([]:List Value).toArray }=G2 at hns1 hsb1 ⊢;have hCs:G2.objs.size=s2.heap.objs.size+1:=by rw [<- hG,Heap.size_push]
 have hDC:s2.heap.objs.size≠G2.objs.size:=by rw [hCs];exact xA0 (Nat.lt_succ_self _)
 have hCle:s2.heap.objs.size<=G2.objs.size:=by rw [hCs];exact Nat.le_succ _
 have old:∀ b o,s2.heap.get? b=some o->h1.get? b=some o:=fun b o e=>hsb1.extBut b o (xA0 (xBc (xA1 e) hCle)) (xAf _ (hG ▸ xAf _ e));have hacc:h1.get? s2.heap.objs.size=some { cls:=.type "list",dict:=none,data:=.seq ([]:List Value).toArray }:=hsb1.extBut _ _ hDC (xAf _ (hG ▸ xAl _ rfl));have hDn:H2 s2.heap.objs.size=none:=I2.hok.fresh (xAg _);have hCn:H2 G2.objs.size=none:=I2.hok.fresh hCle;obtain ⟨W,⟨m0,w0⟩,turn⟩:=R s2.heap.objs.size hDn;have okY:=pc (C:=G2.objs.size) cp I2 hCle f2 hfl;have I3:Inv (cxComp X (ls++N) scope cl G2.objs.size s2 H2 fp) [] (List.replicate ls.length none++capV σ fr) (upd H2 s2.heap.objs.size (.lst [])) { s2 with heap:=h1,toks:=s2.toks+([]:List (Str×Value)).length }:=by
  refine ⟨okY,rfl,I2.bare,Un.laid old (xAg _) hDn,⟨_,hns1,fun i y v e1 e2 e3=>?_⟩,fun y c e=>?_,?_,fun y c e=>?_,(fun p hp=>nomatch hp),I2.hok.laid old (xAg _) ⟨xBn _,[],0,.nil,hacc⟩,?_⟩
  ·obtain ⟨hm,e2'⟩:=iY e2;have e1':N[i - ls.length]?=some y:=by
    have e1'':(ls++N)[i]?=some y:=e1;rw [List.getElem?_append_right hm] at e1'';exact e1''
   obtain ⟨k,c,g1,g2,g3,g4,g5,g6⟩:=cp.caps _ y e1';have e4:σ[k]?=some (some v):=by
    unfold capV at e2';rw [xAw,g1] at e2';have e5:(σ[k]?).join=some v:=xB3 e2';cases z:σ[k]? with
    | none=>rw [z] at e5;cases e5
    | some o=>rw [z] at e5;exact congrArg some e5
   obtain ⟨m2,_,hl2⟩:=I2.loc;obtain ⟨u,r,lk⟩:=hl2 k y v g2 e4 g3;refine ⟨u,r,.inr ⟨dS g6,c,g5,?_⟩⟩;rcases lk with ⟨lk,_⟩ | ⟨_,c',lk1,o,lk2,lk3⟩
   ·exact absurd lk g4
   ·have:=cp.sub y c g5;rw [lk1] at this;cases this;exact ⟨o,old _ _ lk2,lk3⟩
  ·obtain ⟨v,o,e1,e2⟩:=I2.cell y c (cp.sub y c e);exact ⟨v,o,old _ _ e1,e2⟩
  ·show upd H2 s2.heap.objs.size (.lst []) G2.objs.size=none;rw [dg (Ne.symm hDC)];exact hCn
  ·obtain ⟨v,o,e1,e2⟩:=I2.cell y c (cp.sub y c e);rw [dg (xA0 (xA1 e1))];exact I2.freeC y c (cp.sub y c e)
  ·change (List.replicate ls.length none++capV σ fr).length=(ls++N).length;unfold capV;rw [xAb,xAb,List.length_replicate,xAa,cp.len]
 have stat:∀ {H':Hp},(∀ b∈fp,H' b=none)->∀ b∈fp,FpOk (cxComp X (ls++N) scope cl G2.objs.size s2 H2 fp) [] H' b:=fun hn b hb =>
  ⟨hn b hb,xA0 (xBc (hfl b hb) hCle),okY.exfs b hb,.inl hb,(okY.exf b hb).2,fun p hp=>nomatch hp⟩
 have loop:∀ s3:Shared,s3={ s2 with heap:=h1,toks:=s2.toks+([]:List (Str×Value)).length } ->
   codeAny (model X.prog X.w) X.A (.compLoop (.ListComp elt [⟨tg,iter,ifs,0⟩] scope pos) 0 (.ref it) (.ref s2.heap.objs.size) (compEnvC scope cl G2.objs.size X.env))
    (compPost (model X.prog X.w) X.A X.xe use QQ (.ref s2.heap.objs.size) G2.objs.size) s3:=by
  rintro s3 rfl
  refine jX (fun n s'=>∃ i ys H',Inv (cxComp X (ls++N) scope cl G2.objs.size s2 H2 fp) [] (List.replicate ls.length none++capV σ fr) H' s'/\tn i s'.heap/\(∀ b∈fp,H' b=none)/\W i n ys H') ?_ m0
   ⟨0,[],_,I3,T.keep _ _ _ st2 (fun b hb o e=>old b o e),fun b hb=>by rw [dg (xA0 (hfl b hb))];exact (f2 b hb).1,w0⟩
  rintro n s' ⟨i,ys,H',IY,st,frn,w'⟩
  obtain ⟨hD,hh⟩:=turn i n ys H' w';rcases hh with ⟨stop,q⟩ | ⟨go,hz,Nx,hN,step⟩
  ·refine wpAny_mono (T.done (cxComp X (ls++N) scope cl G2.objs.size s2 H2 fp) rfl rfl rfl hc i [] s' _ H' (fun _ _=>False) IY (stat frn) st stop) (fun r s4 h4=>?_) (fun _ _ z=>z.elim);obtain ⟨hr,I4⟩:=h4;subst hr;obtain ⟨mY,hnY,_⟩:=I4.loc;have I5:Inv X pins σ H' s4:=Inv.call' (s:=s2) (H:=H2) (ch:=fp) I2 I4.os I4.base I4.hok I4.bare (fun b hb=>⟨(f2 b hb).2.2.2.1,(f2 b hb).2.1,(f2 b hb).2.2.2.2.1,(f2 b hb).2.2.2.2.2⟩);exact fin _ _ H' s4 mY I5 (I2.fpOk hCle I4.free) hnY q
  ·refine wpAny_mono (T.item (cxComp X (ls++N) scope cl G2.objs.size s2 H2 fp) rfl rfl rfl hc i [] s' _ H' (fun _ _=>False) IY (stat frn) st go) (fun r s4 h4=>?_) (fun _ _ z=>z.elim);obtain ⟨u,hr,h4⟩:=h4;subst hr;refine wpAny_mono h4 (fun _ s5 h5=>?_) (fun _ _ z=>z.elim);obtain ⟨xv,H5,I5,r5,y5,st5,fr5⟩:=h5;have I5':=I5.pinned (stat fr5) (T.obj _ _ st5);refine wpAny_mono (hg G2.objs.size s2 H2 fp _ s5 _ H5 xv u _ I5' r5 (step xv H5 y5)) (fun _ s6 h6=>?_) (fun _ _ z=>z.elim);obtain ⟨σ6,H6,I6,c6,l6,t6⟩:=h6;have back:∀ {H7:Hp} {s7:Shared},Inv (cxComp X (ls++N) scope cl G2.objs.size s2 H2 fp) ([]++pinsAt fp s5.heap) σ6 H7 s7->Inv (cxComp X (ls++N) scope cl G2.objs.size s2 H2 fp) [] (List.replicate ls.length none++capV σ fr) H7 s7/\tn (i+1) s7.heap/\∀ b∈fp,H7 b=none:=fun {H7 s7} I7=>by
    refine ⟨I7.unpinned.forget ?_ (fun j v e=>?_),T.keep _ _ _ st5 fun b hb o e=>(I7.pin (b,o) (xBt _ (xBt _ (eJ hb e)))).1,fun b hb=>?_⟩
    ·rw [l6,xAb,List.length_replicate];unfold capV;rw [xAa]
    ·obtain ⟨hm,e'⟩:=iY e;rw [<- c6,List.getElem?_drop] at e';rw [show j=ls.length+(j - ls.length) by lia];exact e'
    ·obtain ⟨o,e,d⟩:=T.obj _ _ st5 b hb;exact (I7.pin (b,o) (xBt _ (xBt _ (eJ hb e)))).2.1
   refine wpAny_mono (ht G2.objs.size s2 H2 fp _ s6 _ H6 _ I6 t6) (fun ok s7 h7=>?_) (fun _ _ z=>z.elim);obtain ⟨H7,I7,hD7,h7⟩:=h7;cases ok with
   | false =>
    rw [xCf xAy] at h7 ⊢;obtain ⟨k',hk,w8⟩:=hN _ _ h7;obtain ⟨b1,b2,b3⟩:=back I7;exact ⟨k',hk,i+1,ys,H7,b1,b2,b3,w8⟩
   | true =>
    rw [xCg rfl] at h7 ⊢;refine wpAny_mono (he G2.objs.size s2 H2 fp _ s7 _ H7 _ I7 h7) (fun xv' s8 h8=>?_) (fun _ _ z=>z.elim);obtain ⟨v8,H8,I8,r8,hD8,n8⟩:=h8;refine wpAny_mono (gK (X:=cxComp X (ls++N) scope cl G2.objs.size s2 H2 fp) _ s8 _ H8 (.ref s2.heap.objs.size) [v8] (.ref s2.heap.objs.size) [xv'] (fun v' H9=>H9=upd H8 s2.heap.objs.size (.lst (ys++[v8]))) I8 rfl (.cons r8 .nil) ⟨s2.heap.objs.size,ys,v8,rfl,rfl,hD8,hz,rfl⟩) (fun _ s9 h9=>?_) (fun _ _ z=>z.elim);obtain ⟨v9,H9,I9,_,rfl⟩:=h9;obtain ⟨k',hk,w9⟩:=hN _ _ n8;obtain ⟨b1,b2,b3⟩:=back I9;exact ⟨k',hk,i+1,ys++[v8],_,b1,b2,b3,w9⟩
 exact codeAny_compStart_list (loop _ rfl) (T.self _ 0 _ _ _ (T.keep _ _ _ st2 (fun b hb o e=>old b o e)) (loop _ rfl))
theorem tL (hc:X.calm=true) (cp:CapsG X scope cl ls N fr) (hi:PI X tg iter wi) (hg:∀ C s H fp,PG (cxComp X (ls++N) scope cl C s H fp) tg g) (ht:∀ C s H fp,PTs (cxComp X (ls++N) scope cl C s H fp) ifs tc) (he:∀ C s H fp,PE (cxComp X (ls++N) scope cl C s H fp) elt te)
  (hs:∀ v,foldedSetIterable iter X.env v=pure v:=by intro _;rfl):PE X (.ListComp elt [⟨tg,iter,ifs,0⟩] scope pos) (tLCg wi ls.length fr g tc te):=by
 intro pins s σ H Q I h;rw [eval_ListComp];refine pe (use:=none) (QQ:=EP X pins σ Q) hc cp hi hg ht he hs I h fun B C H' s4 m I4 f4 n4 q4=>⟨m,n4,fun h' sb=>?_⟩
 exact ⟨.ref B,H',I4.turned (t':=s4.toks) (fun b o hb e=>sb.extBut b o hb e) f4.1 f4.2.1 f4.2.2.2.1 f4.2.2.2.2.1 f4.2.2.2.2.2,rfl,q4⟩
end
structure CapOne (X:Cx) (scope:Scope) (cl:List (Str×Addr)) (y:Str) (k:Nat):Prop where
 ex:∃ c,cl.lookup y=some c/\X.env.cells.lookup y=some c
 at':X.N[k]?=some y
 cell:X.env.scope.names.lookup y=some .cell
 free:scope.names.lookup y=some .free
theorem dG {α:Type} {y:Str} {c:α}:∀ {l:List (Str×α)},l.lookup y=some c->(y,c)∈l
 | [],h=>by simp at h
 | (z,d)::r,h=>by
  rw [List.lookup_cons] at h;by_cases e:y == z
  ·rw [e] at h;cases xB3 h;rw [eq_of_beq e];exact xAr
  ·rw [Bool.eq_false_iff.mpr e] at h;exact xAs _ (dG h)
theorem CapsG.mk' {X:Cx} {scope:Scope} {cl:List (Str×Addr)} {ls N:List Str} {fr:List Nat} (clos:closureFor scope X.env=pure cl) (cell:∀ y∈scope.names,y.2≠.cell) (kind:scope.kind = .function)
  (names:∀ y∈scope.names,y.2 = .local->scope.names.lookup y.1=some .local) (h:Paired (CapOne X scope cl) N fr) (has:∀ y∈scope.names,y.2 = .free->y.1∈N) (hk:cl.map (·.1)=N):CapsG X scope cl ls N fr:=by
 have get:∀ {N:List Str} {fr:List Nat},Paired (CapOne X scope cl) N fr->∀ (j:Nat) (y:Str),N[j]?=some y->∃ k,fr[j]?=some k/\CapOne X scope cl y k:=by
  intro N fr h;induction h with
  | nil=>intro j y e;simp at e
  | cons hd tl ih =>
   intro j y e;cases j with
   | zero=>simp at e;subst e;exact ⟨_,rfl,hd⟩
   | succ j=>exact ih j y (by simpa using e)
 have mem:∀ y∈N,∃ k,CapOne X scope cl y k:=fun y hy=>by
  obtain ⟨j,e⟩:=List.mem_iff_getElem?.mp hy;obtain ⟨k,_,c⟩:=get h j y e;exact ⟨k,c⟩
 refine ⟨clos,cell,kind,names,fun y c e=>?_,fun y hy e=>?_,fun j y e=>?_,h.length⟩
 ·have hy:y∈N:=by
   rw [<- hk];have:=dG e;exact xA2.mpr ⟨_,this,rfl⟩
  obtain ⟨k,⟨c',e1,e2⟩,_⟩:=mem y hy;rw [e] at e1;cases e1;exact e2
 ·obtain ⟨k,⟨c',e1,e2⟩,_⟩:=mem _ (has y hy e);exact ⟨c',e1⟩
 ·obtain ⟨k,e1,⟨c,e2,e3⟩,g1,g2,g3⟩:=get h j y e;refine ⟨k,c,e1,g1,.inr (.inl g2),fun q=>?_,e2,g3⟩;have q':X.env.scope.names.lookup y=some .local:=q;rw [g2] at q';cases q'
end L2
namespace L2
open PySem PySem.Spec PyProof.Rows
section
variable {X:Cx}
noncomputable def rAlL (b:Bool):R2:=fun x y H Q=>∃ p q xs ys n,x = .ref p/\y = .ref q/\H p=some (.lst xs)/\H q=some (.lst ys)/\xs.length=ys.length/\n<=30/\(∀ (j:Nat) (x y:V),xs[j]?=some x->ys[j]?=some y->Al H n x y)/\Q (.bl b) H
theorem n9 (hu:X.A.units+40<cLine):OpR X (compareOp .NotEq) (rAlL false):=by
 intro pins s σ H x y v u Q I rx ry h;obtain ⟨a,b,xs,ys,n,rfl,rfl,ea,eb,el,hn,al,q⟩:=h;cases (show v=Value.ref a from rx);cases (show u=Value.ref b from ry);obtain ⟨_,its,n1,q1,t1⟩:=(show ObjOk X.prog X.w H s.heap a (.lst xs) from I.hok a _ ea)
 obtain ⟨_,its2,n2,q2,t2⟩:=(show ObjOk X.prog X.w H s.heap b (.lst ys) from I.hok b _ eb)
 have he:∀ j (h1:j<its.toArray.size) (h2:j<its2.toArray.size),SeqAt.EqAt X.A.in1 s its.toArray[j] its2.toArray[j] ((fun _=>true) j):=fun j j1 j2=>by
  obtain ⟨x1,e1,g1⟩:=dE q1 j1;obtain ⟨y1,e2,g2⟩:=dE q2 j2;exact fZ I.hok (al j x1 y1 e1 e2) g1 g2 (by show X.A.units+1+n<cLine;lia)
 have es:its.toArray.size=its2.toArray.size:=by rw [xAp,xAp,<- q1.length,<- q2.length,el]
 refine (SeqAt.RcNeAt.lists (e:=fun _=>true) ⟨_,t1,rfl,_,rfl⟩ ⟨_,t2,rfl,_,rfl⟩ es (by lia) he) X.prog X.w X.xe _ ?_;refine dj I q ?_;simp
theorem oh (hu:X.A.units+40<cLine):OpR X (compareOp .Eq) (rAlL true):=by
 intro pins s σ H x y v u Q I rx ry h;obtain ⟨a,b,xs,ys,n,rfl,rfl,ea,eb,el,hn,al,q⟩:=h;cases (show v=Value.ref a from rx);cases (show u=Value.ref b from ry);obtain ⟨_,its,n1,q1,t1⟩:=(show ObjOk X.prog X.w H s.heap a (.lst xs) from I.hok a _ ea)
 obtain ⟨_,its2,n2,q2,t2⟩:=(show ObjOk X.prog X.w H s.heap b (.lst ys) from I.hok b _ eb)
 have he:∀ j (h1:j<its.toArray.size) (h2:j<its2.toArray.size),SeqAt.EqAt X.A.in1 s its.toArray[j] its2.toArray[j] ((fun _=>true) j):=fun j j1 j2=>by
  obtain ⟨x1,e1,g1⟩:=dE q1 j1;obtain ⟨y1,e2,g2⟩:=dE q2 j2;exact fZ I.hok (al j x1 y1 e1 e2) g1 g2 (by show X.A.units+1+n<cLine;lia)
 have es:its.toArray.size=its2.toArray.size:=by rw [xAp,xAp,<- q1.length,<- q2.length,el]
 refine SeqAt.eq_listAt (e:=fun _=>true) ⟨_,t1,rfl,_,rfl⟩ ⟨_,t2,rfl,_,rfl⟩ es (by lia) he ?_;refine dj I q ?_;simp
end
end L2
namespace L2
open PySem PySem.Spec PyProof.Rows
noncomputable def cLen (K:xFr):List V->Hp->VK->Prop:=fun xs H Q=>∃ x n,xs=[x]/\LenV K x H n/\Q (.int n) H
noncomputable def cLenD:List V->Hp->VK->Prop:=fun xs H Q=>∃ a kvs,xs=[V.ref a]/\H a=some (.dK kvs)/\Q (.int kvs.length) H
noncomputable def cList (K:xFr):List V->Hp->VK->Prop:=fun xs H Q=>∃ p ys,xs=[.ref p]/\(SqL K H p ys\/SqT K H p ys)/\∀ l,H l=none->Q (.ref l) (upd H l (.lst ys))
noncomputable def cTuple (K:xFr):List V->Hp->VK->Prop:=fun xs H Q=>∃ p ys,xs=[.ref p]/\((SqL K H p ys/\∀ l,H l=none->Q (.ref l) (upd H l (.tup ys)))\/(SqT K H p ys/\Q (.ref p) H))
noncomputable def cIsT (K:xFr):List V->Hp->VK->Prop:=fun xs H Q=>∃ x n t b,xs=[x,V.ty n]/\TyOf K H x t/\W.kitOne K t (.type n)=some b/\Q (.bl b) H
noncomputable def cInt1:List V->Hp->VK->Prop:=fun xs H Q=>(∃ i,xs=[.int i]/\Q (.int i) H)\/∃ k,xs=[.bl k]/\Q (.int (if k then 1 else 0)) H
section
variable {X:Cx}
theorem u7:CallR X (.builtin "len") (cLen X.K):=pw
theorem qV:CallR X (.builtin "len") cLenD:=mw
theorem qT:CallR X (.type "list") (cList X.K):=iC
theorem o7:CallR X (.type "tuple") (cTuple X.K):=gH
theorem u8:CallR X (.builtin "isinstance") (cIsT X.K):=mx
theorem qW:CallR X (.type "int") cInt1:=mz
end
noncomputable def nIsN:R2:=fun x y H Q=>y = .non/\Q (.bl (decide (x = .non))) H
theorem tT {X:Cx}:OpR X (compareOp .Is) nIsN:=tX
noncomputable def nNotN:R2:=fun x y H Q=>y = .non/\Q (.bl (!decide (x = .non))) H
theorem qq {X:Cx}:OpR X (compareOp .IsNot) nNotN:=qt
section
variable {J:It} {P:Hp->Prop} {n:Nat} {Y:Nat->Hp->V->Hp->Prop} {g:TG} {tb:TS} {Dn:Ends} {σ:St} {H:Hp}
variable {K:xFr} {tl:TE} {tas:TA} {R:It->Hp->Prop} {a:Addr} {xs:List V}
def nIterL (K:xFr) (x:V) (H:Hp) (R:It->Hp->Prop):Prop:=∃ a,x = .ref a/\(∃ xs,SqL K H a xs)/\R (Itl K a) H
def nIterT (K:xFr) (x:V) (H:Hp) (R:It->Hp->Prop):Prop:=∃ a,x = .ref a/\(∃ xs,SqT K H a xs)/\R (Itt K a) H
end
end L2
namespace L2
open PySem PySem.Spec PyProof.Rows
section
variable {prog:Program} {w:World} {A:Around} {E:Value->Shared->Prop} {s:Shared}
theorem gv {it l:Addr} {items:Array Value} (hne:l≠it):∀ (n i:Nat) (s:Shared) (Q:List Value->Shared->Prop),s.heap.IsListIter it l i->s.heap.IsList l items->i+n<=items.size ->
  (∀ h',h'.IsListIter it l (i+n)->Heap.SameBut it s.heap h'->Q ((items.toList.drop i).take n) { s with heap:=h' })->wpAny (model prog w) A (draw (.ref it) n) Q E s
 | 0,i,s,Q,hit,_,_,hQ=>by
  change wpAny _ _ (pure []) Q E s;exact xAe (by simpa using hQ s.heap hit (Heap.SameBut.refl ..))
 | n+1,i,s,Q,hit,hl,hle,hQ=>by
  have lt:i<items.size:=by lia
  change wpAny _ _ (pyNext (.ref it) >>= _) Q E s;refine xAd (wpAny_pyNext_list_item hit hl (x:=items[i]) (by simp [lt]) fun h1 it1 sb1=>?_);refine xAd (wpAny_holding (gv hne n (i+1) _ _ it1 (hl.at fun o e=>(sb1.2 l hne).trans e) (by lia) fun h2 it2 sb2=>xAe ?_));have hd:items.toList.drop i=items[i]::items.toList.drop (i+1):=by simp [List.drop_eq_getElem_cons,lt]
  have:=hQ h2 (by rw [show i+(n+1)=i+1+n by lia];exact it2) (sb1.trans sb2);rw [hd,List.take_succ_cons] at this;exact this
theorem gZ {l:Addr} {items:Array Value} {targets:List (Bool×(Value->Sem Unit))} {Q:Unit->Shared->Prop} (hh:A.handled=none) (hl:s.heap.IsList l items)
  (hn:targets.length=items.size) (hstar:targets.findIdx? (·.1)=none)
  (h:∀ h',Heap.ExtBut s.heap.objs.size s.heap h'->wpAny (model prog w) A (assignInOrder (targets.map (·.2)) items.toList) Q E { s with heap:=h' }) :
  wpAny (model prog w) A (unpack (.ref l) targets) Q E s:=by
 unfold unpack;rw [hn,hstar];refine xAd (wpAny_holding ?_);have lt:l≠s.heap.objs.size:=by obtain ⟨o,ho,_⟩:=hl;exact xA0 (xA1 ho)
 unfold unpackItems;refine xAd ?_;unfold notIterableAtAll;refine xAd (wpAny_specialOf hl.typeIs PySem.F.slot_list_iter.lookup ?_);refine xAe ?_;simp only [xAz,if_false];refine xAd (wpAny_holding (wpAny_pyIter_list hl ?_));refine xAd (wpAny_holding (gv lt items.size 0 _ _ ⟨_,xAl _ rfl,rfl,rfl⟩ (hl.push _) (by lia) fun h1 it1 sb1=>?_));have hall:List.take items.size (List.drop 0 items.toList)=items.toList:=by
  rw [List.drop_zero];exact List.take_of_length_le (by simp)
 rw [hall,xCf (by simp)];have hl1:h1.IsList l items:=(hl.push _).at fun o e=>(sb1.2 l lt).trans e;refine xAd (wpAny_holding (wpAny_pyNext_list_end hh it1 hl1 (by simp) fun h2 e2=>?_));simp only [Option.isSome_none,xAz,if_false];exact xAe (h h2 fun b o hb e=>e2 b o hb (sb1.extBut b o hb (xAf _ e)))
end
section
variable {X:Cx} {pos:Pos}
noncomputable def gLst (K:xFr) (n:Nat) (t:TGs):TG:=fun v σ H Q=>∃ a xs,v = .ref a/\SqL K H a xs/\xs.length=n/\t xs σ H Q
theorem tF {es:List Expr} {k:Nat} {t:TGs} {n:Nat} (hc:X.calm=true) (h:PGs X es t)
  (hn:(assignEach es X.env).length=n:=by rfl) (hst:(assignEach es X.env).findIdx? (·.1)=none:=by rfl):PG X (.Tuple es k pos) (gLst X.K n t):=by
 intro pins s σ H v u Q I r hw;obtain ⟨a,xs,e1,hq,hl,hw⟩:=hw;subst e1;cases r;obtain ⟨its,rv,ht,hz⟩:=I.list hq;rw [assign_Tuple];refine xAd (wpAny_standAt (gZ (I.ok.hd hc) ht.isList (by simp [hn,<- hl,rv.length]) hst fun h' hx=>?_));have I1:Inv X pins σ H { s with heap:=h' }:=I.kept (t':=s.toks) fun b o e=>hx b o (xA0 (xA1 e)) e;exact h pins _ σ H xs _ Q I1 (by simpa using rv) hw
end
section
variable {X:Cx}
noncomputable def rCatA (K:xFr):R2:=fun x y H Q=>∃ a b xs ys,x = .ref a/\y = .ref b/\H a=some (.tup xs)/\H b=some (.tup ys)/\xs.length+ys.length<=sizeLine/\∀ p H2,Same H H2->H2 p=some (.tup (xs++ys))->Q (.ref p) H2
theorem qr:OpR X (binaryOp .Add) (rCatA X.K):=by
 intro pins s σ H x y v u Q I rx ry h;obtain ⟨a,b,xs,ys,rfl,rfl,ha,hb,hz,q⟩:=h;by_cases hx:xs=[]
 ·cases (show v=Value.ref a from rx);cases (show u=Value.ref b from ry);subst hx;obtain ⟨its,r1,p1,_⟩:=I.tuple (SqT.of ha);obtain ⟨its2,r2,p2,_⟩:=I.tuple (SqT.of hb);have e1:its=[]:=r1.nil_iff.mpr rfl;subst e1;obtain ⟨⟨cls,dd,data,sl⟩,ho,hc,n,hd⟩:=id p1;obtain ⟨⟨cls2,dd2,data2,sl2⟩,ho2,hc2,n2,hd2⟩:=id p2;simp only at hc hd hc2 hd2;subst hc hd hc2 hd2;refine concat_meets ⟨_,ho,rfl⟩ ⟨_,ho2,rfl⟩ noFill_tuple_add seq_tuple_add PySem.F.slot_tuple_add PySem.F.entry_tuple_add (PySem.F.args_tuple_add_2 _ _)
   (tuple_addW0 a b ([]:List Value).toArray its2.toArray n n2 dd dd2 sl sl2 (by simp)) ⟨ho,ho2,?_⟩
  exact ⟨.ref b,H,I,rfl,q b H (.refl _) hb⟩
 ·refine qy pins s σ H _ _ v u Q I rx ry ⟨a,b,xs,ys,rfl,rfl,.of ha,.of hb,hx,hz,fun e=>?_,fun _ p hp=>q p _ (ez hp _) dk⟩;subst e;exact q a H (.refl _) (by rw [xB0];exact ha)
end
end L2
namespace L2
open PySem PySem.Spec PyProof.Rows
noncomputable def noStar:Expr->Bool
 | .Starred _ _=>false
 | _=>true
theorem dh {e:Expr} {es:List Expr} {env:Env} (h:noStar e=true):starEach (e::es) env=(false,eval e env)::starEach es env:=by
 cases e <;> first | rfl | cases h
theorem dL {pos:Pos} {env:Env}:∀ {es:List Expr},es.all noStar=true->(backTo pos (starEach es env)).any (·.1)=false
 | [],_=>rfl
 | e::es,h=>by
  rw [List.all_cons,Bool.and_eq_true] at h;rw [dh h.1];change (false || (backTo pos (starEach es env)).any (·.1))=false;rw [dL h.2];rfl
theorem iM {pos:Pos} {env:Env}:∀ {es:List Expr},es.all noStar=true->(backTo pos (starEach es env)).all (fun x=>!x.1)=true
 | [],_=>rfl
 | e::es,h=>by
  rw [List.all_cons,Bool.and_eq_true] at h;rw [dh h.1];change (true && (backTo pos (starEach es env)).all (fun x=>!x.1))=true;rw [iM h.2];rfl
noncomputable def noComp:Expr->Bool
 | .ListComp ..=>false
 | .SetComp ..=>false
 | .DictComp ..=>false
 | _=>true
theorem fg {e:Expr} {t:Option Expr} {l:Nat} {env:Env} (h:noComp e=true):swapsWith e t l env=pure false:=by
 cases e <;> first | rfl | cases h
noncomputable def noCall:Expr->Bool
 | .Call ..=>false
 | _=>true
theorem fh {o:Expr} {f:Str} {env:Env} {x:Sem Value} (h:noCall o=true):attributeBase o f env x=x:=by
 cases o <;> first | rfl | cases h
section
variable {X:Cx} {e o:Expr} {es:List Expr} {te to:TE} {t:TA} {pos p apos cpos:Pos} {x name:Str} {id T:String} {i:Nat} {r:List V->Hp->VK->Prop}
theorem jF (ha:PE X e te) (hr:PA X es t) (h:noStar e=true:=by rfl):PA X (e::es) (tCons te t):=qi ha hr (dh h)
theorem kF (hc:CallR X (.builtin id) r) (hg:Gl X x) (hm:X.mg x=none) (hv:bootBuiltins x=some (.builtin id)) (ha:PA X (e::es) t) (h:(e::es).all noStar=true:=by rfl) (hn:x≠"__name__":=by decide) (hdb:(x == ("__debug__":Str))=false:=by decide):PE X (.Call (.Name x p) (e::es) [] pos) (tCB r t):=by
 rw [List.all_cons,Bool.and_eq_true] at h;exact nV hc hg hm hv ha hn hdb (dh h.1) (dL h.2)
theorem rJ (hc:CallR X (.type T) r) (hg:Gl X x) (hm:X.mg x=none) (hv:bootBuiltins x=some (.type T)) (ha:PA X (e::es) t) (h:(e::es).all noStar=true:=by rfl) (hn:x≠"__name__":=by decide) (hdb:(x == ("__debug__":Str))=false:=by decide):PE X (.Call (.Name x p) (e::es) [] pos) (tCB r t):=by
 rw [List.all_cons,Bool.and_eq_true] at h;exact lM hc hg hm hv ha hn hdb (dh h.1) (dL h.2)
variable {k k':Nat} {ps:List Str} {sp:Sp}
theorem vL (he:PE X e te) (h:noComp e=true:=by rfl):PS X (.Expr e pos) (tDrop te):=p6 he (fg h)
variable {rm:V->List V->Hp->VK->Prop}
theorem xh (pa:PlainAttrs T) (slot:Slot T name id) (hty:typeOf (.builtin id)=pure (.type "method_descriptor")) (hm:MtR X id rm) (ho:PE X o to) (ha:PA X [e] t) (h:noCall o=true:=by rfl) (h2:noStar e=true:=by rfl) (hline:(apos.endLine == cpos.line)=true:=by rfl) :
  PE X (.Call (.Attribute o name apos) [e] [] cpos) (tBM X.K T rm to t) :=
 vS pa slot hty hm ho ha (fh h) (by rw [dh h2];rfl) hline (dh h2) rfl
theorem vQ (pa:PlainAttrs T) (slot:Slot T name id) (hty:typeOf (.builtin id)=pure (.type "method_descriptor")) (hm:MtR X id rm) (ho:PE X o to) (h:noCall o=true:=by rfl) (hline:(apos.endLine == cpos.line)=true:=by rfl) :
  PE X (.Call (.Attribute o name apos) [] [] cpos) (tBM0 X.K T rm to):=tO pa slot hty hm ho (fh h) hline
theorem vM {tg:Expr} {ta:TA} (hg:Gl X "range") (hm:X.mg "range"=none) (ha:PA X [e] ta) (h:noStar e=true:=by rfl):PI X tg (.Call (.Name "range" p) [e] [] pos) (iRng1 ta):=lK hg hm ha (dh h)
end
end L2
namespace L2
open PySem PySem.Spec PyProof.Rows
section
variable {X:Cx} {e a b c o:Expr} {es:List Expr} {te ta tb tc to:TE} {t u:TA} {pos p p2 apos cpos px:Pos} {x y name:Str} {id T:String} {i j k:Nat} {st:Stmt} {sts:List Stmt} {ts us:TS} {tt tt':TT}
noncomputable def noSlice:Expr->Bool
 | .Slice ..=>false
 | _=>true
theorem nH (h:noSlice b=true):PlainIx b:=fun o i=>by cases b <;> first | rfl | cases h
variable {r:List V->Hp->VK->Prop} {rm:V->List V->Hp->VK->Prop} {ps:List Str} {sp:Sp} {k':Nat}
variable {tg iter elt:Expr} {g:TG} {gs:TGs} {wi:TI} {tas:TA}
theorem rC {env:Env} (h:noStar e=true):assignEach (e::es) env=(false,assign e env)::assignEach es env:=by
 cases e <;> first | rfl | cases h
theorem eP {env:Env}:∀ {es:List Expr},es.all noStar=true->(assignEach es env).length=es.length/\(assignEach es env).findIdx? (·.1)=none
 | [],_=>⟨rfl,rfl⟩
 | e::es,h=>by
  rw [List.all_cons,Bool.and_eq_true] at h;obtain ⟨h1,h2⟩:=eP (env:=env) h.2;rw [rC h.1];refine ⟨by rw [xAo,h1,xAo],?_⟩;rw [List.findIdx?_cons,h2];rfl
variable {scope:Scope} {cl:List (Str×Addr)} {ls N:List Str} {fr:List Nat} {ifs:List Expr}
variable {body orelse:List Stmt}
end
end L2
namespace L2
open PySem PySem.Spec PyProof.Rows
theorem lineM {n:Nat} (h:n<=16000000):n<sizeLine:=by rw [sizeLine_eq];lia
theorem lineMe {n:Nat} (h:n<=16000000):n<=sizeLine:=Nat.le_of_lt (lineM h)
end L2
namespace L2
open PySem PySem.Spec PyProof.Rows
def CDivP (i j:Int):Prop:=0<j/\j<=10 ^ 18
theorem oa {X:Cx}:OpR X (binaryOp .FloorDiv) (rI CDivP fun i j=>.int (i / j)):=by
 intro pins s σ H x y v u Q I rx ry h;obtain ⟨i,j,rfl,rfl,⟨hj,hj2⟩,q⟩:=h;have hl:j.natAbs.log2<9000:=by
  have h1:j.natAbs<2 ^ 60:=by
   have:(2:Int) ^ 60=1152921504606846976:=by decide
   have:(10:Int) ^ 18=1000000000000000000:=by decide
   have:(2:Nat) ^ 60=1152921504606846976:=by decide
   lia
  have:=(Nat.log2_lt (n:=j.natAbs) (by lia)).mpr h1;lia
 refine og pins s σ H _ _ v u Q I rx ry ⟨i,j,rfl,rfl,⟨by lia,PyProof.noPylong_of_log2 hl⟩,?_⟩;have e:i.fdiv j=i / j:=Int.fdiv_eq_ediv_of_nonneg _ (by lia);change Q (.int (i.fdiv j)) H;rw [e];exact q
end L2
namespace L2
open PySem PySem.Spec PyProof.Rows
section
variable {X:Cx} {pins:List (Addr×Obj)} {σ:St} {H:Hp} {s:Shared} {h':Heap}
theorem Inv.turnedL {t':Nat} {fp:List Addr} (I:Inv X pins σ H s) (k:∀ b o,b ∉ fp->s.heap.get? b=some o->h'.get? b=some o) (hf:∀ b∈fp,FpOk X pins H b):Inv X pins σ H { s with heap:=h',toks:=t' }:=by
 have nit:∀ b u,H b=some u->b ∉ fp:=fun b u e z=>by rw [(hf b z).1] at e;cases e
 refine I.step (g':=s.gens) (d':=s.drawn) (ch:=fp) (fun b hb=>?_) (fun b o _ _ hc e _=>k b o hc e) (fun b o _ _ hc e _=>⟨o.slots,k b o hc e⟩) (fun _ _ _ _ n=>n)
  (fun b o hc e=>⟨o,k b o hc e⟩) (fun _ _ e=>e) (fun _ _ _ e=>e) (fun b ps e=>⟨#[],by rw [e];simp⟩) (fun m hm=>?_) (fun b u e=>?_) I.bare
 ·obtain ⟨f0,f1,f2,f3,f4,f5⟩:=hf b hb;exact ⟨f3,f1,f4,f5⟩
 ·obtain ⟨o,es,ep,ho,r⟩:=hm;exact ⟨o,es,ep,k _ o (fun z=>(hf _ z).2.1 rfl) ho,r⟩
 ·refine (I.hok b u e).stay (fun c v hc q=>k c v ?_ q) (fun _ q=>q) fun _ _ q=>q;rcases hc with z | z
  ·rw [z];exact nit b u e
  ·exact nit c _ z
end
end L2
namespace RevA
open PySem PySem.Spec PyProof.Rows
theorem nY:Manifest.owners.lookup (String.ofList ['d','e','s','r','e','v','e','r'].reverse)=some Manifest.sig_reversed:=by kernel_rfl
theorem iO:Slot "reversed" "__init__" "object.__init__" :=
 Slot.of (owner:="object") (n:="__init__") (by rw [typeLookup_type,builtinLookup_eq_fast];kernel_rfl) (by decide +kernel) (by decide +kernel) (by decide +kernel) (by first | exact .inl (by decide +kernel) | exact .inr (by decide +kernel)) (by rw [isSubtype_type];kernel_rfl)
theorem dM:Slot "reversed" "__next__" "reversed.__next__" :=
 Slot.of (owner:="reversed") (n:="__next__") (by rw [typeLookup_type,builtinLookup_eq_fast];kernel_rfl) (by decide +kernel) (by decide +kernel) (by decide +kernel) (by first | exact .inl (by decide +kernel) | exact .inr (by decide +kernel)) (by rw [isSubtype_type];kernel_rfl)
theorem fH:Slot "reversed" "__iter__" "reversed.__iter__" :=
 Slot.of (owner:="reversed") (n:="__iter__") (by rw [typeLookup_type,builtinLookup_eq_fast];kernel_rfl) (by decide +kernel) (by decide +kernel) (by decide +kernel) (by first | exact .inl (by decide +kernel) | exact .inr (by decide +kernel)) (by rw [isSubtype_type];kernel_rfl)
theorem fL:entryFor table "reversed.__next__"=some Builtin.«reversed.__next__»:=entryFor_of_tree (by kernel_rfl)
theorem jh:entryFor table "reversed.__iter__"=some Builtin.«dict_keyiterator.__iter__» :=
 entryFor_alias (id':="dict_keyiterator.__iter__") (by kernel_rfl) rfl (by decide +kernel) (by kernel_rfl)
theorem fP (a:Value):argsOk "reversed.__next__" ⟨[a],[]⟩:=by
 unfold argsOk;rw [signature?_of (id:="reversed.__next__") (n:=['_','_','t','x','e','n','_','_']) (o:=['d','e','s','r','e','v','e','r']) (by kernel_rfl) nY];kernel_rfl
theorem jq (a:Value):argsOk "reversed.__iter__" ⟨[a],[]⟩:=by
 unfold argsOk;rw [signature?_of (id:="reversed.__iter__") (n:=['_','_','r','e','t','i','_','_']) (o:=['d','e','s','r','e','v','e','r']) (by kernel_rfl) nY];kernel_rfl
theorem fF:TypeCalled "reversed" "reversed.__new__" "object.__init__" :=
 ⟨by decide +kernel,by decide +kernel,⟨_,_,PySem.F.mro_reversed⟩,PySem.F.made_reversed,by decide +kernel,PySem.F.sub_reversed_self,iO⟩
theorem lC:typeLookup (.type "tuple") "__reversed__"=pure none:=by rw [typeLookup_type,builtinLookup_eq_fast];kernel_rfl
theorem j6:typeLookup (.type "tuple") "__getitem__"=pure (some (.builtin "tuple.__getitem__")):=PySem.F.slot_tuple_getitem.lookup
theorem jw:isSubtype (.type "tuple") (.type "dict")=pure false:=by rw [isSubtype_type];kernel_rfl
noncomputable def rvObj (t:Addr) (i:Int):Obj:={ cls:=.type "reversed",dict:=none,data:=.fields #[.ref t,rawInt i],slots:=#[] }
section
variable {prog:Program} {w:World} {A:Around} {E:Value->Shared->Prop} {s:Shared}
theorem ud {t:Addr} {items:Array Value} {Q₁:Value->Shared->Prop} (ht:IsTup s.heap t items) (hfit:(items.size:Int)<2 ^ 63)
  (q:Q₁ (.ref s.heap.objs.size) { s with heap:=s.heap.push (rvObj t ((items.size:Int) - 1)),toks:=s.toks+1+1 }) :
  codeAny (model prog w) A (.call (.builtin "reversed.__new__") ⟨[.type "reversed",.ref t],[]⟩) (wants Q₁ E) s:=by
 refine codeAny_of_tree ?_;change wpAny _ A.in1 (do checkBuiltinCall "reversed.__new__" ⟨[.type "reversed",.ref t],[]⟩;again (.builtin "reversed.__new__" ⟨[.type "reversed",.ref t],[]⟩)) _ _ s;refine xAd (wpAny_of_eq (PySem.F.newCall_reversed_1 _) (xAe ⟨plainId_quiet PySem.F.plain_reversed_new _,codeAny_builtin PySem.F.entry_reversed_new ?_⟩));rw [Around.under_plainId PySem.F.plain_reversed_new _];unfold Builtin.«reversed.__new__»;refine xAd (wpAny_of_eq (newClass_reversed _) ?_);try dsimp only
 refine xAd (wpAny_of_eq (a:=()) (by first | rfl | kernel_rfl) ?_);refine xAd (wpAny_of_eq (a:=()) (by first | rfl | kernel_rfl) ?_);try dsimp only
 refine xAd (wpAny_specialOf ht.typeIs lC ?_);try dsimp only
 have ty:=ht.typeIs (s:=s);refine xAd ?_
 wp_delta
 refine xAd (wpAny_isInstance (T:="tuple") (b:=false) ty jw ?_);rw [xCf (by decide)];refine xAd (wpAny_specialOf ty j6 ?_);try dsimp only
 rw [xCg (by decide)];refine xAe ?_;rw [xCf (by decide)];refine xAd (len_tuple ht hfit ?_);refine xAd (m:=asInt? _) (xAe ?_);try dsimp only
 change wpAny _ _ (newObj (.type "reversed") (.fields #[.ref t,rawInt ((items.size:Int) - 1)]) >>= _) _ _ _;refine xAd (xBl ?_);exact xAe q
theorem rh {t:Addr} {items:Array Value} {Q:Value->Shared->Prop} (ht:IsTup s.heap t items) (hfit:(items.size:Int)<2 ^ 63)
  (q:Q (.ref s.heap.objs.size) { s with heap:=s.heap.push (rvObj t ((items.size:Int) - 1)),toks:=s.toks+1+1 }):wpAny (model prog w) A (call (.type "reversed") [.ref t]) Q E s:=by
 refine callType_codes (Q₁:=fun obj s₁=>s₁.TypeIs obj "reversed"/\Q obj s₁) fF (PySem.F.typeCall_reversed_1 _) PySem.F.entry_object_init
  (ud ht hfit ⟨⟨_,xAl _ rfl,rfl⟩,q⟩) fun obj s₁ h₁=>?_
 exact ⟨h₁.1,PySem.F.args_object_init_2 obj _,object_init_meets fF.init.lookup fF.made (by decide) prog w A.in1 _ s₁ ⟨h₁.1,rfl,h₁.2⟩⟩
theorem qB {it t:Addr} {i:Nat} {items:Array Value} {x:Value} {Q:Option Value->Shared->Prop} (hit:s.heap.get? it=some (rvObj t (i:Int))) (ht:IsTup s.heap t items) (hfit:(items.size:Int)<2 ^ 63) (hx:items[i]?=some x)
  (q:∀ h' tk,h'.get? it=some (rvObj t ((i:Int) - 1))->Heap.SameBut it s.heap h'->Q (some x) { s with heap:=h',toks:=tk }):wpAny (model prog w) A (pyNext (.ref it)) Q E s:=by
 have ty:s.TypeIs (.ref it) "reversed":=⟨_,hit,rfl⟩
 have hi:i<items.size:=(Array.getElem?_eq_some_iff.mp hx).1;have ix:seqIndex? (i:Int) items.size=some i:=by
  unfold seqIndex?;simp only [xCf (show ¬ (i:Int)<0 by lia)];rw [xCg (by simp;lia)];simp
 unfold pyNext;refine xAd (wpAny_attempt (wpAny_callSpecial?_slot (name:=Str.ofString "__next__") ty dM (wpAny_call_entry dM ty fL ?_ (fP _))));unfold Builtin.«reversed.__next__»;refine xAd (wpAny_of_eq (a:=(Value.ref it,[])) rfl ?_);try dsimp only
 refine xAd (wpAny_field hit rfl (x:=.ref t) rfl ?_);refine xAd (wpAny_field hit rfl (x:=rawInt (i:Int)) rfl ?_);change wpAny _ _ (if (i:Int)<0 then _ else _) _ _ s;rw [xCf (by lia)];refine xAd (wpAny_specialOf ht.typeIs j6 ?_);rw [xCf (by simp)];refine xAd (wpAny_mkInt ?_);refine xAd (wpAny_attempt (getItem_tuple (j:=i) (show IsTup s.heap t items from ht) (by lia) (by lia) ix hx ?_));try dsimp only
 refine xAd (wpAny_field (s:={ s with toks:=s.toks+1 }) hit rfl (x:=rawInt (i:Int)) rfl ?_);try dsimp only
 refine xAd (wpAny_setField (s:={ s with toks:=s.toks+1 }) hit rfl (by simp) ?_);refine xAe ⟨x,rfl,xAe (q _ _ ?_ (Heap.SameBut.update ..))⟩;exact Heap.get?_update_self _ hit rfl
theorem u6 {it t:Addr} {Q:Option Value->Shared->Prop} (hh:A.handled=none) (hit:s.heap.get? it=some (rvObj t (-1)))
  (q:∀ h',Heap.ExtBut it s.heap h'->Q none { s with heap:=h' }):wpAny (model prog w) A (pyNext (.ref it)) Q E s:=by
 have ty:s.TypeIs (.ref it) "reversed":=⟨_,hit,rfl⟩
 unfold pyNext;refine xAd (wpAny_attempt (wpAny_callSpecial?_slot (name:=Str.ofString "__next__") ty dM (wpAny_call_entry dM ty fL ?_ (fP _))));unfold Builtin.«reversed.__next__»;refine xAd (wpAny_of_eq (a:=(Value.ref it,[])) rfl ?_);try dsimp only
 refine xAd (wpAny_field hit rfl (x:=.ref t) rfl ?_);refine xAd (wpAny_field hit rfl (x:=rawInt (-1)) rfl ?_);change wpAny _ _ (if (-1:Int)<0 then _ else _) _ _ s;rw [xCg (by decide)];refine xAd (wpAny_rule ?_);refine xAd ?_
 wp_delta
 refine xAd (wpAny_setField hit rfl (by simp) ?_);have h2:=Heap.get?_update_self (Obj.mapFields (·.setIfInBounds 1 (rawInt (-1)))) hit rfl;refine wpAny_setField h2 rfl (by simp) ?_;first
 | change wpAny _ _ (newExc (.type "StopIteration") [] >>= _) _ _ _
 | (refine xAd ?_;change wpAny _ _ (newExc (.type "StopIteration") [] >>= _) _ _ _)
 refine xAd ?_;simp only [newExc,newTuple];refine xAd (xBl ?_ (by size_fits));refine xAd (m:=firstArgMember _ _) (wpAny_of_eq (a:=Value.none) (by first | rfl | (simp only [firstArgMember];rfl)) ?_);refine xBl ?_ (by size_fits);simp only [raiseNew];refine xAd (wpAny_handled ?_);first | rw [show A.in1.handled=none from hh] | rw [hh]
 refine xAd (xAe (wpAny_throw ?_));refine xAd (wpAny_isInstance (T:="StopIteration") (b:=true) ⟨_,xAl _ rfl,rfl⟩ isSubtype_stop ?_);refine xAe (q _ fun b o hb e=>?_);exact xAf _ (xAf _ ((Heap.get?_update_other _ _ (Ne.symm hb)).trans ((Heap.get?_update_other _ _ (Ne.symm hb)).trans e)))
theorem kP {it t:Addr} {i:Int} {Q:Value->Shared->Prop} (hit:s.heap.get? it=some (rvObj t i)) (h:Q (.ref it) s):wpAny (model prog w) A (pyIter (.ref it)) Q E s:=by
 have ty:s.TypeIs (.ref it) "reversed":=⟨_,hit,rfl⟩
 refine wpAny_pyIter_slot ty fH (wpAny_call_entry fH ty jh ?_ (jq _));change wpAny _ _ (ret (.ref it)) _ _ s;exact xAe ⟨_,rfl,"reversed",_,ty,dM.lookup,h⟩
end
end RevA
namespace L2
open PySem PySem.Spec PyProof.Rows RevA
noncomputable def Itv (K:xFr) (a:Addr) (n:Nat):It :=
 ⟨fun i H=>i<n/\∃ xs,SqT K H a xs/\xs.length=n,fun i H x H'=>H'=H/\∀ xs,SqT K H a xs->xs[n - 1 - i]?=some x,fun i _=>i=n⟩
theorem pI {P:Program} {w:World} {K:xFr} {tg:Expr} (a it:Addr) (n:Nat):Turn P w K tg (Itv K a n) [it] it (fun i h=>i<=n/\h.get? it=some (rvObj a ((n:Int) - 1 - (i:Int)))) where
 mem:=by simp
 obj:=fun i h st b hb=>by
  have e:b=it:=by simpa using hb
  subst e;exact ⟨_,st.2,fun v z=>by cases z⟩
 keep:=fun i h h' st k=>⟨st.1,k it (by simp) _ st.2⟩
 item:=by
  intro X hP hw hK hc i pins s σ H E I hf st hg;subst hP hw hK;obtain ⟨hin,xs,hq,hx⟩:=hg;obtain ⟨its,rv,p,hz⟩:=I.tuple hq;have hl:=rv.length;have l63:=line63;obtain ⟨u,hu,ru⟩:=rv.get (show xs[n - 1 - i]?=some (xs[n - 1 - i]'(by lia)) from xAk (by lia));obtain ⟨f0,f1,f2,f3,f4,f5⟩:=hf it (by simp);have e:(n:Int) - 1 - (i:Int)=((n - 1 - i:Nat):Int):=by lia
  have hit:=st.2;rw [e] at hit;refine qB hit p (by rw [xAp];lia) (x:=u) (by simpa using hu) fun h' tk st' sb=>?_;have I1:Inv X pins σ H { s with heap:=h',toks:=tk }:=I.turned (t':=tk) (fun b o hb e=>(sb.2 b hb).trans e) f0 f1 f3 f4 f5;refine ⟨u,rfl,gR (s:={ s with heap:=h',toks:=tk }) (n:="reversed") st' rfl rfl (by decide) ⟨_,H,I1,ru,⟨rfl,fun ys hy=>by rw [I.tuple_inj hy hq];exact xAk (by lia)⟩,⟨hin,?_⟩,fun b hb=>(hf b hb).1⟩⟩;have e2:((n - 1 - i:Nat):Int) - 1=(n:Int) - 1 - ((i+1:Nat):Int):=by lia
  rw [<- e2];exact st'
 done:=by
  intro X hP hw hK hc i pins s σ H E I hf st hg;subst hP hw hK;obtain rfl:i=n:=hg;obtain ⟨f0,f1,f2,f3,f4,f5⟩:=hf it (by simp);have hit:=st.2;rw [show (i:Int) - 1 - (i:Int) = -1 by lia] at hit;exact u6 (I.ok.hd hc) hit fun h' eb=>⟨rfl,I.turned (t':=s.toks) (fun b o hb e=>eb b o hb e) f0 f1 f3 f4 f5⟩
 self:=fun _ _ _ _ _ st h=>kP st.2 h
def nIterV (K:xFr) (vs:List V) (H:Hp) (R:It->Hp->Prop):Prop:=∃ a xs,vs=[.ref a]/\SqT K H a xs/\R (Itv K a xs.length) H
end L2
namespace RevA
open PySem PySem.Spec PyProof.Rows
open AutoSeq1 (wpAny_loadPart')
noncomputable def tiObj (t:Addr):Obj:={ cls:=.type "tuple_iterator",data:=.fields #[.ref t,.int 0 0] }
section
variable {prog:Program} {w:World} {A:Around} {E:Value->Shared->Prop} {s:Shared}
theorem jH {it t:Addr} {i:Nat} {xs:Array Value} {x:Value} {Q:Value->Shared->Prop} (hit:s.heap.IsTupleIter it t i) (hl:s.heap.IsTuple t xs) (hx:xs[i]?=some x)
  (q:∀ h',h'.IsTupleIter it t (i+1)->Heap.SameBut it s.heap h'->Q x { s with heap:=h' }):wpAny (model prog w) A (Builtin.SmallTypes.nextOf (.ref it)) Q E s:=by
 obtain ⟨o,ho,hc,hd⟩:=id hit;obtain ⟨ol,hol,_,nl,hdl⟩:=hl;unfold Builtin.SmallTypes.nextOf;refine xAd (wpAny_callSpecial?_slot (name:=Str.ofString "__next__") hit.typeIs PySem.F.slot_tuple_iterator_next (wpAny_call_entry PySem.F.slot_tuple_iterator_next hit.typeIs PySem.F.entry_tuple_iterator_next ?_ (PySem.F.args_tuple_iterator_next_1 _)));change wpAny _ _ (field (.ref it) 0 >>= _) _ _ s;refine xAd (wpAny_field ho hd (x:=.ref t) rfl ?_);change wpAny _ _ (if (Value.ref t == Value.none)=true then _ else _) _ _ s;rw [xCf (show ¬ ((Value.ref t == Value.none)=true) from xAy)];change wpAny _ _ (field (.ref it) 1 >>= _) _ _ s;refine xAd (wpAny_field ho hd (x:=.int i 0) rfl ?_);change wpAny _ _ (seqItems? (.ref t) >>= _) _ _ s;refine xAd (wpAny_seqItems hol hdl ?_);simp only [Int.toNat_natCast,hx];refine xAd (wpAny_setField ho hd (by simp) (xAe ⟨x,rfl,xAe (q _ ?_ (Heap.SameBut.update ..))⟩));exact ⟨_,Heap.get?_update_self _ ho (Obj.isFreed_of_fields (Obj.data_mapFields hd _)),(Obj.cls_mapFields ..).trans hc,by rw [Obj.data_mapFields hd];simp [rawInt]⟩
theorem lR {it t:Addr} {i:Nat} {xs:Array Value} {Q:Value->Shared->Prop} (hh:A.handled=none) (hit:s.heap.IsTupleIter it t i) (hl:s.heap.IsTuple t xs) (hx:xs[i]?=none)
  (q:∀ h' e,Heap.ExtBut it s.heap h'->(∃ o,h'.get? e=some o/\o.cls = .type "StopIteration")->E (.ref e) { s with heap:=h' }):wpAny (model prog w) A (Builtin.SmallTypes.nextOf (.ref it)) Q E s:=by
 obtain ⟨o,ho,hc,hd⟩:=id hit;obtain ⟨ol,hol,_,nl,hdl⟩:=hl;unfold Builtin.SmallTypes.nextOf;refine xAd (wpAny_callSpecial?_slot (name:=Str.ofString "__next__") hit.typeIs PySem.F.slot_tuple_iterator_next (wpAny_call_entry PySem.F.slot_tuple_iterator_next hit.typeIs PySem.F.entry_tuple_iterator_next ?_ (PySem.F.args_tuple_iterator_next_1 _)));change wpAny _ _ (field (.ref it) 0 >>= _) _ _ s;refine xAd (wpAny_field ho hd (x:=.ref t) rfl ?_);change wpAny _ _ (if (Value.ref t == Value.none)=true then _ else _) _ _ s;rw [xCf (show ¬ ((Value.ref t == Value.none)=true) from xAy)];change wpAny _ _ (field (.ref it) 1 >>= _) _ _ s;refine xAd (wpAny_field ho hd (x:=.int i 0) rfl ?_);change wpAny _ _ (seqItems? (.ref t) >>= _) _ _ s;refine xAd (wpAny_seqItems hol hdl ?_);simp only [Int.toNat_natCast,hx];refine xAd (wpAny_rule (xAd (wpAny_setField ho hd (by simp) ?_)));change wpAny _ _ (newExc (.type "StopIteration") [] >>= _) _ _ _;refine xAd ?_;simp only [newExc,newTuple];refine xAd (xBl ?_ (by size_fits));refine xAd (m:=firstArgMember _ _) (wpAny_of_eq (a:=Value.none) (by first | rfl | (simp only [firstArgMember];rfl)) ?_);refine xBl ?_ (by size_fits);simp only [raiseNew];refine xAd (wpAny_handled ?_);first | rw [show A.in1.handled=none from hh] | rw [hh]
 refine xAd (xAe (wpAny_throw ?_));exact q _ _ (((Heap.SameBut.update ..).extBut.push _).push _) ⟨_,xAl _ rfl,rfl⟩
end
theorem drawsT {prog:Program} {w:World} {A:Around} (hh:A.handled=none) (it l:Addr) (hne:l≠it) (xs:Array Value) :
  Draws prog w A it [it,l] xs.size (fun i v=>xs[i]?=some v) (fun i h=>h.IsTupleIter it l i/\h.IsTuple l xs) where
 live:=fun _ _ st=>let ⟨o,ho,_⟩:=st.1;⟨o,ho⟩
 frame:=fun _ _ _ st hk=>⟨st.1.at fun o e=>hk it (by simp) o e,st.2.at fun o e=>hk l (by simp) o e⟩
 item:=fun i s Q E hi st hQ=>by
  refine jH st.1 st.2 (x:=xs[i]) (by simp [hi]) fun h' hit' hs'=>?_;exact hQ _ h' s.toks (by simp [hi]) ⟨hit',st.2.extBut hs'.extBut hne⟩ hs'
 done:=fun s Q E st hE=>lR hh st.1 st.2 (by simp) hE
end RevA
namespace L2
open PySem PySem.Spec PyProof.Rows
theorem len1 {α:Type} {us:List α} (h:us.length=1):∃ x0,us=[x0]:=by
 cases us with
 | nil=>cases h
 | cons a r =>
  cases r with
  | nil=>exact ⟨a,rfl⟩
  | cons b r=>cases h
theorem len2 {α:Type} {us:List α} (h:us.length=2):∃ x0 x1,us=[x0,x1]:=by
 cases us with
 | nil=>cases h
 | cons a r =>
  obtain ⟨x1,rfl⟩:=len1 (Nat.succ.inj h);exact ⟨a,x1,rfl⟩
theorem len3 {α:Type} {us:List α} (h:us.length=3):∃ x0 x1 x2,us=[x0,x1,x2]:=by
 cases us with
 | nil=>cases h
 | cons a r =>
  obtain ⟨x1,x2,rfl⟩:=len2 (Nat.succ.inj h);exact ⟨a,x1,x2,rfl⟩
theorem len4 {α:Type} {us:List α} (h:us.length=4):∃ x0 x1 x2 x3,us=[x0,x1,x2,x3]:=by
 cases us with
 | nil=>cases h
 | cons a r =>
  obtain ⟨x1,x2,x3,rfl⟩:=len3 (Nat.succ.inj h);exact ⟨a,x1,x2,x3,rfl⟩
theorem len5 {α:Type} {us:List α} (h:us.length=5):∃ x0 x1 x2 x3 x4,us=[x0,x1,x2,x3,x4]:=by
 cases us with
 | nil=>cases h
 | cons a r =>
  obtain ⟨x1,x2,x3,x4,rfl⟩:=len4 (Nat.succ.inj h);exact ⟨a,x1,x2,x3,x4,rfl⟩
end L2
namespace L2
open PySem PySem.Spec PyProof.Rows SetA
noncomputable def cDictC:List V->Hp->VK->Prop:=fun xs H Q=>∃ d kvs,xs=[.ref d]/\Rd H d (.dK kvs)/\∀ p,H p=none->Q (.ref p) (upd H p (.dK kvs))
section
variable {X:Cx} {e tg o:Expr} {te td:TE} {apos cpos:Pos}
theorem o8:CallR X (.type "dict") cDictC:=by
 intro pins s σ H xs us Q I r h;obtain ⟨d,kvs,rfl,hd,q⟩:=h;obtain ⟨u,rfl,ru⟩:=vals1 r;obtain rfl:u=Value.ref d:=ru;exact o6 I hd fun p s' hp I'=>⟨.ref p,_,I',rfl,q p hp⟩
end
end L2
namespace SortS
open PySem PySem.W PyProof.Rows
noncomputable def evT {α:Type} (ask:Nat->Nat->Bool):KasT α->α
 | .ret a=>a
 | .ask i j k=>evT ask (k (ask i j))
noncomputable def okT (n:Nat):KasT (Array Nat)->Bool
 | .ret p=>Nat.beq p.size n && p.toList.all fun i=>Nat.blt i n
 | .ask i j k=>Nat.blt i n && Nat.blt j n && okT n (k true) && okT n (k false)
theorem ok4:∀ {n:Nat},2<=n->n<=4->okT n (kas_sort n)=true
 | 2,_,_=>by kernel_rfl
 | 3,_,_=>by kernel_rfl
 | 4,_,_=>by kernel_rfl
theorem sd {n:Nat} {cmp:Nat->Nat->(Bool->Shared->Prop)->Shared->Prop} {ask:Nat->Nat->Bool} {s:Shared} {Q:Array Nat->Shared->Prop} (h:∀ i j (C:Bool->Shared->Prop),i<n->j<n->C (ask i j) s->cmp i j C s):∀ (t:KasT (Array Nat)),okT n t=true->Q (evT ask t) s->t.kasWp cmp Q s
 | .ret a,_,q=>q
 | .ask i j k,e,q=>by
  unfold okT at e;simp only [Bool.and_eq_true] at e;refine h i j _ (Nat.le_of_ble_eq_true e.1.1.1) (Nat.le_of_ble_eq_true e.1.1.2) (sd h _ ?_ q);cases ask i j
  ·exact e.2
  ·exact e.1.2
theorem oU {n:Nat} {ask:Nat->Nat->Bool}:∀ (t:KasT (Array Nat)),okT n t=true->(evT ask t).size=n/\∀ i∈(evT ask t).toList,i<n
 | .ret a,e=>by
  unfold okT at e;rw [Bool.and_eq_true] at e;exact ⟨Nat.eq_of_beq_eq_true e.1,fun i hi=>Nat.le_of_ble_eq_true (List.all_eq_true.mp e.2 i hi)⟩
 | .ask i j k,e=>by
  unfold okT at e;simp only [Bool.and_eq_true] at e;refine oU (k (ask i j)) ?_;cases ask i j
  ·exact e.2
  ·exact e.1.2
noncomputable def srtP (ws:List Str):Array Nat:=evT (fun i j=>decide ((ws.getD i Str.empty).cps.toList<(ws.getD j Str.empty).cps.toList)) (kas_sort ws.length)
noncomputable def srtW (ws:List Str):List Str:=if ws.length<2 then ws else (srtP ws).toList.map fun i=>ws.getD i Str.empty
theorem srtW_ok {ws:List Str} (h:ws.length<=4):(srtW ws).length=ws.length/\∀ x∈srtW ws,x∈ws:=by
 unfold srtW;split
 ·exact ⟨rfl,fun _ z=>z⟩
 ·next h2 =>
  obtain ⟨a,b⟩:=oU (ask:=fun i j=>decide ((ws.getD i Str.empty).cps.toList<(ws.getD j Str.empty).cps.toList)) _ (ok4 (by lia) h);refine ⟨by rw [xAa,xAh];exact a,fun x hx=>?_⟩;obtain ⟨i,hi,rfl⟩:=xA2.mp hx;have:=b i hi;rw [xBz,xAk this];exact List.getElem_mem _
section
variable {prog:Program} {w:World} {A:Around} {E:Value->Shared->Prop} {s:Shared}
def Txs (ws:List Str) (vs:List Value):Prop:=vs.length=ws.length/\∀ i,i<ws.length->∃ t,vs.getD i Value.none = .str (ws.getD i Str.empty) t
theorem lD {a:Addr} {vs:List Value} {ws:List Str} {n:Nat} {P:PySem.Fin->Shared->Prop} (ho:s.heap.get? a=some (seqObj "list" vs.toArray n)) (hv:Txs ws vs) (h4:ws.length<=4)
  (h:∀ out:List Value,Txs (srtW ws) out->P (.done (.ret .none)) { s with heap:=sortedHeap s.heap a vs out.toArray }):wpAny (model prog w) A (Builtin.«list.sort» ⟨[.ref a],[]⟩) P E s:=by
 rw [list_sort_plain];have hl:=hv.1;have hz0:(64:Nat)<=sizeLine:=by rw [sizeLine_eq];decide
 have hz1:vs.toArray.size<=sizeLine:=by rw [xAp];lia
 refine xAd (listItems_at ho rfl (xAd (listUpdate_at ho rfl ?_ hz1 (xBn _))));obtain ⟨e1,g1⟩:∃ e1,(s.heap.update a (Obj.mapSeq fun _=>#[])).get? a=some (seqObj "list" #[] e1):=⟨_,get?_update_seq ho (fun _=>#[])⟩
 refine xAd (seqEpoch_at g1 rfl (xAd (wpAny_newTuple (xAd (wpAny_newList (wpAny_holding ?_))))));have g6:(((s.heap.update a (Obj.mapSeq fun _=>#[])).push (seqObj "tuple" vs.toArray 0)).push (seqObj "list" #[] 0)).get? a=some (seqObj "list" #[] e1):=by
  exact xAf _ (xAf _ g1)
 change wpAny (model prog w) A _ P E { s with heap:=((s.heap.update a (Obj.mapSeq fun _=>#[])).push (seqObj "tuple" vs.toArray 0)).push (seqObj "list" #[] 0) };dsimp only;by_cases few:vs.toArray.size<2
 ·rw [xCg few,xCg few];refine xAd (xAe ?_);rw [StateT.run_pure];refine xAd (xAe ?_);dsimp only;have few':ws.length<2:=by rw [xAp] at few;lia
  have eo:(vs.toArray.zip vs.toArray).map (·.2)=vs.toArray:=by
   apply Array.toList_inj.mp;rw [Array.toList_map,Array.toList_zip];exact List.map_snd_zip (xAg _)
  refine xAd (seqEpoch_at g6 rfl (xAd (listUpdate_at g6 rfl ?_ (xBn _) ?_)))
  ·simp only [bne_self_eq_false,xAz,if_false];have q:=h vs (by unfold srtW;rw [xCg few'];exact hv);rw [<- eo] at q;exact xAe q
  ·refine Nat.le_trans (Nat.le_of_eq ?_) (Nat.le_succ_of_le hz1);exact congrArg Array.size eo
 ·rw [xCf few,xCf few];have h2:2<=ws.length:=by rw [xAp] at few;lia
  have ok:=ok4 h2 h4;refine xAd (kas_kind (T:=.type "str") (by lia) (fun v hm=>?_) (by decide) rfl ?_)
  ·obtain ⟨i,hi,rfl⟩:=List.mem_iff_getElem.mp hm;obtain ⟨t,e⟩:=hv.2 i (by lia);rw [xBz,xAk hi] at e;rw [show vs[i]=_ from e];exact .now
  refine xAd (wpAny_mono (kat_run (vs:=vs) (ks:=vs) (G:=fun p s'=>s'={ s with heap:=((s.heap.update a (Obj.mapSeq fun _=>#[])).push (seqObj "tuple" vs.toArray 0)).push (seqObj "list" #[] 0) }/\p=srtP ws) (Q:=fun st' s'=>∃ p:Array Nat,arrOf st'=p.map (kas_item (vs.toArray.zip vs.toArray))/\failedOf st'=none/\s'={ s with heap:=((s.heap.update a (Obj.mapSeq fun _=>#[])).push (seqObj "tuple" vs.toArray 0)).push (seqObj "list" #[] 0) }/\p=srtP ws)
   rfl (by lia) (by lia) (fun p' st' s' a1 a2 a3 a4=>⟨p',a2,a3,a4⟩) ?_) ?_ fun _ _ e=>e)
  ·rw [hl];refine sd (ask:=fun i j=>decide ((ws.getD i Str.empty).cps.toList<(ws.getD j Str.empty).cps.toList)) (fun i j C hi hj hc=>?_) _ ok ⟨rfl,rfl⟩;obtain ⟨t,e⟩:=hv.2 i hi;obtain ⟨u,e2⟩:=hv.2 j hj;unfold kas_ask;rw [e,e2];exact kas_lt_str hc
  rintro ⟨⟨⟩,st'⟩ s' ⟨p,har,hf,rfl,rfl⟩
  dsimp only;obtain ⟨o1,o2⟩:=oU (ask:=fun i j=>decide ((ws.getD i Str.empty).cps.toList<(ws.getD j Str.empty).cps.toList)) _ ok;have o1:(srtP ws).size=ws.length:=o1;have hout:=kat_snds rfl har;refine xAd (seqEpoch_at g6 rfl (xAd (listUpdate_at g6 rfl ?_ (xBn _) ?_)))
  ·rw [hf];simp only [bne_self_eq_false,xAz,if_false];have q:=h ((srtP ws).toList.map fun i=>vs.getD i Value.none) (by
    unfold srtW;rw [xCf (by lia)];refine ⟨by simp,fun i hi=>?_⟩;rw [xAa,xAh] at hi;have hi':i<(srtP ws).toList.length:=by rw [xAh];exact hi
    obtain ⟨t,e⟩:=hv.2 _ (o2 _ (List.getElem_mem hi'));refine ⟨t,?_⟩;rw [xBz,xBz,xAw,xAw,xAk hi'];exact e)
   rw [<- hout] at q;exact xAe q
  ·rw [hout,xAp,xAa,xAh];lia
end
end SortS
namespace L2
open PySem PySem.Spec PyProof.Rows SortS
section
variable {X:Cx}
theorem iI:∀ {ws:List Str} {vs:List Value},Txs ws vs->Vals (ws.map V.str) vs
 | [],[],_=>.nil
 | [],_::_,h=>by have:=h.1;simp at this
 | _::_,[],h=>by have:=h.1;simp at this
 | w::ws,v::vs,h=>by
  obtain ⟨t,e⟩:=h.2 0 (by simp);exact .cons ⟨t,e⟩ (iI ⟨by simpa using h.1,fun i hi=>h.2 (i+1) (by simpa using hi)⟩)
theorem jy {kvs:List (Key×V)} {vs:List (Key×Value)} {ws:List Str} {P:Program} {w:World} {acc:Array Value} (rel:KV kvs vs) (hk:kvs.map (·.1)=ws.map Sum.inr)
  (hi:acc.size=vs.length) (hv:∀ (i:Nat) (v:Value),acc[i]?=some v->∃ k x,vs[i]?=some (k,x)/\(mixKind P w).is k v=true):Txs ws acc.toList:=by
 have hkeys:vs.map (·.1)=ws.map Sum.inr:=by rw [<- rel.keys];exact hk
 have hlen:ws.length=vs.length:=by
  have:=congrArg List.length hkeys;rw [xAa,xAa] at this;exact this.symm
 refine ⟨by rw [xAh];lia,fun i hi'=>?_⟩;have ha:i<acc.size:=by lia
 obtain ⟨k,x,e1,e2⟩:=hv i acc[i] (Array.getElem?_eq_getElem ha);have e3:(vs.map (·.1))[i]?=some k:=by rw [xAw,e1];rfl
 rw [hkeys,xAw,xAk hi'] at e3;cases e3;rcases dw (show keyIs (Sum.inr ws[i]) acc[i]=true from e2) with ⟨i',t,z1,z2⟩ | ⟨x',t,z1,z2⟩
 ·cases z1
 ·cases z1;refine ⟨t,?_⟩;rw [xBz,xBz,Array.getElem?_toList,Array.getElem?_eq_getElem ha,xAk hi'];exact z2
theorem gI (hc:X.calm=true):CallR X (.builtin "sorted") (fun xs H Q=>∃ (d:Addr) (kvs:List (Key×V)) (ws:List Str),xs=[.ref d]/\Rd H d (.dK kvs)/\kvs.map (·.1)=ws.map Sum.inr/\ws.length<=4 /\
  ∀ (l:Addr),H l=none->Q (.ref l) (upd H l (.lst ((srtW ws).map V.str)))):=by
 intro pins s σ H xs us Q I r h;obtain ⟨d,kvs,ws,rfl,hd,hk,h4,q⟩:=h;obtain ⟨u,rfl,ru⟩:=vals1 r;obtain rfl:u=Value.ref d:=ru;obtain ⟨hz,lo,vs,rel,dd⟩:=fM I.hok hd;obtain ⟨ep,hat⟩:=dd.dictAt;have hlv:=rel.length;refine Calls.call_function_entry kind_sorted plain_sorted entry_sorted (args_sorted1 _) ?_;unfold Builtin.«sorted»;refine xAd (m:=checkCount "sorted" 1 1 _) (xAe ?_);refine xAd (W.kdu_collect (A:=X.A.in1) (W.kdl_dict (knd:=mixKind X.prog X.w) (kvs:=vs) (ep:=ep) lo) (I.ok.hd hc) hat (by lia) fun h' tk acc hkeep hacc=>?_);have va:=jy rel hk hacc.1 (fun i v e=>hacc.2 i v e);have hz0:(64:Nat)<=sizeLine:=by show 64<=2 ^ 24;decide
 have hzl:acc.toList.length<=sizeLine:=by rw [va.1];lia
 refine xAd (wpAny_newList ?_ hzl);have gL:(h'.push (seqObj "list" acc.toList.toArray 0)).get? h'.objs.size=some (seqObj "list" acc.toList.toArray 0):=xAl _ rfl;refine xAd (wpAny_holding (wpAny_call_entry slot_list_sort ⟨_,gL,rfl⟩ entry_list_sort (lD gL va h4 fun out q1=>⟨_,rfl,?_⟩) (args_list_sort _)));refine xAe ⟨_,rfl,?_⟩;have keepAll:∀ b o,s.heap.get? b=some o->(sortedHeap (h'.push (seqObj "list" acc.toList.toArray 0)) h'.objs.size acc.toList out.toArray).get? b=some o:=fun b o e=>by
  have hb:=xA1 (hkeep b o e);rw [sortedHeap_old (xA0 hb) (by rw [size_push'];exact Nat.lt_succ_of_lt hb)];exact xAf _ (hkeep b o e)
 obtain ⟨e,g⟩:=sortedHeap_at (vs:=acc.toList) (out:=out.toArray) gL;have hfr:s.heap.get? h'.objs.size=none:=by
  cases z:s.heap.get? h'.objs.size with
  | none=>rfl
  | some o=>exact absurd (xA1 (hkeep _ _ z)) (xBo _)
 have new:ObjOk X.prog X.w (upd H h'.objs.size (.lst ((srtW ws).map V.str))) (sortedHeap (h'.push (seqObj "list" acc.toList.toArray 0)) h'.objs.size acc.toList out.toArray) h'.objs.size (.lst ((srtW ws).map V.str)):=by
  refine ⟨?_,out,e,iI q1,g⟩;rw [xAa,(srtW_ok h4).1];lia
 obtain ⟨hfree,I2⟩:=Inv.laidN (t':=tk) I keepAll hfr new;exact ⟨.ref h'.objs.size,_,I2,rfl,q _ hfree⟩
end
end L2
namespace Fx
open PySem L2
inductive U where
 | non | bl (b:Bool) | int (i:Int) | str (x:Str) | tup (xs:List U) | lst (xs:List U) | kt (xs:List U) | kl (xs:List U) | kd (kvs:List (Str×U)) (no:List Str) | ref (a:Nat) | ty (n:String) | gl (x:Str)
instance:Inhabited U:=⟨.non⟩
inductive Ob where
 | lst (xs:List U) | dct (kvs:List (Key×U)) | ins (C:Str) (fs:List (Str×U)) | dead
instance:Inhabited Ob:=⟨.dead⟩
noncomputable abbrev So:=List Ob
structure Xc where
 cls:Str
 fs:List (Str×U)
inductive Res where
 | ok (v:U) (S:So) | stuck
inductive Pm where
 | add (m:Bool) | sub | mul | fdiv | mod | pow | neg
 | eq | ne | lt | le | gt | ge | isN | notN | inn | nin
 | ix | sl (m a b:Bool) | tru | len | isT (n:String) | isC (C:Str) | abs | max | min | int1 | str1
 | lst (m:Bool) | dct (ks:List Str) | tupOf | lstOf (m:Bool) | dctOf | lenset | all | any
 | app | pop | ext | get1 | get2 | join
 | typ (T:String) | fld (f:Str) | setf (f:Str) | seti | cls (C m:Str) | unp (n:Nat) | new (C:Str)
 | rng1 | rng2 | rng3 | zip | enm | rev | seq | fnOf | frz | sortS
noncomputable def nth:List (Option U)->Nat->Option U
 | [],_=>none
 | v::_,0=>v
 | _::r,i+1=>nth r i
noncomputable def put:List (Option U)->Nat->U->List (Option U)
 | [],_,_=>[]
 | _::r,0,v=>some v::r
 | o::r,i+1,v=>o::put r i v
noncomputable def puts:List (Option U)->List Nat->List U->List (Option U)
 | σ,i::is,v::vs=>puts (put σ i v) is vs
 | σ,_,_=>σ
noncomputable def at? {α:Type}:List α->Nat->Option α
 | [],_=>none
 | v::_,0=>some v
 | _::r,i+1=>at? r i
noncomputable def set {α:Type}:List α->Nat->α->List α
 | [],_,_=>[]
 | _::r,0,v=>v::r
 | o::r,i+1,v=>o::set r i v
noncomputable def lsU (S:So):U->Option (List U)
 | .lst xs=>some xs
 | .kl xs=>some xs
 | .ref a=>match at? S a with
  | some (.lst xs)=>some xs
  | _=>none
 | _=>none
noncomputable def lsT (S:So):U->Option (List U)
 | .lst xs=>some xs
 | .ref a=>match at? S a with
  | some (.lst xs)=>some xs
  | _=>none
 | _=>none
noncomputable def sqU (S:So):U->Option (List U)
 | .tup xs=>some xs
 | .kt xs=>some xs
 | u=>lsU S u
noncomputable def sqF:U->Option (List U)
 | .tup xs=>some xs
 | .kt xs=>some xs
 | .lst xs=>some xs
 | .kl xs=>some xs
 | _=>none
noncomputable def mkL (m:Bool) (xs:List U) (S:So):Res:=match m with
 | true=>.ok (.ref S.length) (S++[.lst xs])
 | false=>.ok (.lst xs) S
noncomputable def fits (n:Nat) (r:Res):Res:=match Nat.ble n sizeLine with
 | true=>r
 | false=>.stuck
noncomputable def getF {α:Type} (f:Str):List (Str×α)->Option α
 | []=>none
 | (g,v)::r=>if f=g then some v else getF f r
noncomputable def putF (f:Str) (v:U):List (Str×U)->List (Str×U)
 | []=>[(f,v)]
 | (g,u)::r=>if g=f then (g,v)::r else (g,u)::putF f v r
noncomputable def getK (k:Key):List (Key×U)->Option U
 | []=>none
 | (g,v)::r=>if g=k then some v else getK k r
noncomputable def putK (k:Key) (v:U) (kvs:List (Key×U)):List (Key×U):=if (kvs.any fun kv=>decide (kv.1=k))=true then kvs.map (fun kv=>if kv.1=k then (kv.1,v) else kv) else kvs++[(k,v)]
noncomputable def keyU:U->Option Key
 | .int i=>some (.inl i)
 | .str x=>some (.inr x)
 | _=>none
inductive Sc where
 | non | int (i:Int) | bl (b:Bool) | str (x:Str)
noncomputable def Sc.u:Sc->U
 | .non=>.non
 | .int i=>.int i
 | .bl b=>.bl b
 | .str x=>.str x
noncomputable def sc:U->Option Sc
 | .non=>some .non
 | .int i=>some (.int i)
 | .bl b=>some (.bl b)
 | .str x=>some (.str x)
 | _=>none
theorem vw {u:U} {a:Sc} (h:sc u=some a):u=a.u:=by unfold sc at h;split at h <;> cases h <;> rfl
noncomputable def Sc.eq:Sc->Sc->Option Bool
 | .non,b=>match b with
  | .non=>some true
  | _=>some false
 | .int i,b=>match b with
  | .int j=>some (decide (i=j))
  | .bl _=>none
  | _=>some false
 | .bl i,b=>match b with
  | .bl j=>some (decide (i=j))
  | .int _=>none
  | _=>some false
 | .str i,b=>match b with
  | .str j=>some (decide (i=j))
  | _=>some false
noncomputable def eqS (x y:U):Option Bool:=(sc x).bind fun a=>(sc y).bind fun b=>a.eq b
noncomputable def flatU:U->Bool
 | .non=>true
 | .bl _=>true
 | .int _=>true
 | .str _=>true
 | _=>false
noncomputable def eqF:U->U->Bool
 | .non,.non=>true
 | .bl a,.bl b=>a == b
 | .bl a,.int b=>(if a then 1 else 0) == b
 | .int a,.bl b=>a == (if b then 1 else 0)
 | .int a,.int b=>a == b
 | .str a,.str b=>a == b
 | _,_=>false
noncomputable def zipAll {α:Type} (f:α->α->Bool):List α->List α->Bool
 | [],[]=>true
 | x::xs,y::ys=>f x y && zipAll f xs ys
 | _,_=>false
noncomputable def same (S:So):Nat->U->U->Bool
 | 0,x,y=>flatU x && flatU y && eqS x y == some true
 | n+1,x,y=>match x,y with
  | .tup xs,.tup ys=>zipAll (same S n) xs ys
  | x,y=>match lsT S x,lsT S y with
   | some xs,some ys=>zipAll (same S n) xs ys
   | _,_=>flatU x && flatU y && eqS x y == some true
noncomputable def anyF (x:U):List U->Bool
 | []=>false
 | y::ys=>eqF y x || anyF x ys
noncomputable def inU (S:So) (x y:U):Option Bool:=match y with
 | .str j=>match x with
  | .str i=>some (!(Builtin.Str.occurrences j i 0 j.length 1).isEmpty)
  | _=>none
 | .ref a=>match at? S a with
  | some (.dct kvs)=>(keyU x).map fun k=>(getK k kvs).isSome
  | some (.lst xs)=>if flatU x && xs.all flatU then some (anyF x xs) else none
  | _=>none
 | y=>match sqU S y with
  | some xs=>if flatU x && xs.all flatU then some (anyF x xs) else none
  | none=>none
noncomputable def obB (o:Option Bool) (f:Bool->Bool) (S:So):Res:=match o with
 | some b=>.ok (.bl (f b)) S
 | none=>.stuck
noncomputable def i2 (f:Int->Int->U) (S:So):List U->Res
 | [.int i,.int j]=>.ok (f i j) S
 | _=>.stuck
noncomputable def cutU (xs:List U) (lo hi:Option Int):List U:=(xs.drop (HT.sIx xs.length 0 lo)).take (HT.sIx xs.length xs.length hi - HT.sIx xs.length 0 lo)
noncomputable def slice (m:Bool) (x:U) (lo hi:Option Int) (S:So):Res:=match x with
 | .tup xs=>match decide (HT.sIx xs.length 0 lo=0/\HT.sIx xs.length xs.length hi=xs.length) with
  | true=>.stuck
  | false=>.ok (.tup (cutU xs lo hi)) S
 | x=>match lsU S x with
  | some xs=>mkL m (cutU xs lo hi) S
  | none=>.stuck
noncomputable def truU (S:So):U->Option Bool
 | .non=>some false
 | .bl b=>some b
 | .int i=>some (i != 0)
 | .ref a=>match at? S a with
  | some (.lst xs)=>some (!xs.isEmpty)
  | some (.dct kvs)=>some (!kvs.isEmpty)
  | _=>none
 | u=>(sqU S u).map fun xs=>!xs.isEmpty
noncomputable def isC (up:List (Str×Str)) (C D:Str):Bool:=decide (C=D) || up.any fun p=>decide (p.1=C) && decide (p.2=D)
noncomputable def tyU (S:So):U->Option String
 | .non=>some "NoneType"
 | .bl _=>some "bool"
 | .int _=>some "int"
 | .str _=>some "str"
 | .tup _=>some "tuple"
 | .lst _=>some "list"
 | .ref a=>match at? S a with
  | some (.lst _)=>some "list"
  | some (.dct _)=>some "dict"
  | some (.ins _ _)=>some "object"
  | _=>none
 | _=>none
noncomputable def isTb (t n:String):Bool:=(t == n) || (t == "bool" && n == "int")
noncomputable def strL:List U->Option (List Str)
 | []=>some []
 | .str x::r=>(strL r).map (x::·)
 | _=>none
noncomputable def blL:List U->Option (List Bool)
 | []=>some []
 | .bl x::r=>(blL r).map (x::·)
 | _=>none
noncomputable def dedup:List Str->List Str
 | []=>[]
 | x::r=>if r.any fun y=>decide (y=x) then dedup r else x::dedup r
noncomputable def intL (lo:Int):Nat->List U
 | 0=>[]
 | n+1=>.int lo::intL (lo+1) n
noncomputable def downL (lo:Int):Nat->List U
 | 0=>[]
 | n+1=>.int lo::downL (lo - 1) n
noncomputable def zipU:List U->List U->List U
 | x::xs,y::ys=>.tup [x,y]::zipU xs ys
 | _,_=>[]
noncomputable def enmU (i:Int):List U->List U
 | []=>[]
 | x::xs=>.tup [.int i,x]::enmU (i+1) xs
noncomputable def strK:List Key->Option (List Str)
 | []=>some []
 | k::r=>match k with
  | .inr x=>(strK r).map (x::·)
  | .inl _=>none
noncomputable def dctU (S:So):U->Option (List (Key×U))
 | .ref p=>match at? S p with
  | some (.dct kvs)=>some kvs
  | _=>none
 | _=>none
noncomputable def eqE (S:So) (a b:U):Option Bool:=(dctU S b).bind fun l=>match l with
 | []=>(dctU S a).map (·.isEmpty)
 | _::_=>none
noncomputable def dctZ:List Str->List U->List (Key×U)
 | k::ks,v::vs=>(.inr k,v)::dctZ ks vs
 | _,_=>[]
noncomputable def addU (m:Bool) (a b:U) (S:So):Res:=match a,b with
 | .int i,.int j=>.ok (.int (i+j)) S
 | .str x,.str y=>fits (x.length+y.length) (.ok (.str (x++y)) S)
 | .tup xs,.tup ys=>fits (xs.length+ys.length) (.ok (.tup (xs++ys)) S)
 | a,b=>match lsT S a,lsT S b with
  | some xs,some ys=>fits (xs.length+ys.length) (mkL m (xs++ys) S)
  | _,_=>.stuck
noncomputable def eqU (f:Bool->Bool) (a b:U) (S:So):Res:=match eqS a b with
 | some c=>.ok (.bl (f c)) S
 | none=>match same S 20 a b with
  | true=>.ok (.bl (f true)) S
  | false=>.stuck
noncomputable def opt (o:Option U) (S:So):Res:=match o with
 | some v=>.ok v S
 | none=>.stuck
noncomputable def ixU (a b:U) (S:So):Res:=match a with
 | .kd kvs _=>match b with
  | .str x=>opt (getF x kvs) S
  | _=>.stuck
 | .str z=>match b with
  | .int i=>match atI z.cps.toList i with
   | some c=>fits z.length (.ok (.str ⟨#[c]⟩) S)
   | none=>.stuck
  | _=>.stuck
 | .ref p=>match at? S p with
  | some (.dct kvs)=>match keyU b with
   | some k=>opt (getK k kvs) S
   | none=>.stuck
  | some (.lst xs)=>match b with
   | .int i=>opt (atI xs i) S
   | _=>.stuck
  | _=>.stuck
 | a=>match sqU S a with
  | some xs=>match b with
   | .int i=>opt (atI xs i) S
   | _=>.stuck
  | none=>.stuck
noncomputable def lenU (a:U) (S:So):Res:=match a with
 | .str x=>fits x.length (.ok (.int x.length) S)
 | .ref p=>match at? S p with
  | some (.lst xs)=>.ok (.int xs.length) S
  | some (.dct kvs)=>.ok (.int kvs.length) S
  | _=>.stuck
 | a=>match sqU S a with
  | some xs=>.ok (.int xs.length) S
  | none=>.stuck
noncomputable def isCU (D:Str) (a:U) (S:So) (up:List (Str×Str)):Res:=match a with
 | .ref p=>match at? S p with
  | some (.ins C _)=>.ok (.bl (isC up C D)) S
  | some (.lst _)=>.ok (.bl false) S
  | some (.dct _)=>.ok (.bl false) S
  | _=>.stuck
 | a=>match tyU S a with
  | some _=>.ok (.bl false) S
  | none=>.stuck
noncomputable def tupOfU (a:U) (S:So):Res:=match a with
 | .tup xs=>.ok (.tup xs) S
 | a=>match lsU S a with
  | some xs=>.ok (.tup xs) S
  | none=>.stuck
noncomputable def setiU (p:Nat) (k v:U) (S:So):Res:=match at? S p with
 | some (.dct kvs)=>match keyU k with
  | some k=>fits (kvs.length+1) (.ok .non (set S p (.dct (putK k v kvs))))
  | none=>.stuck
 | some (.lst xs)=>match k with
  | .int i=>match decide (0<=i/\i<xs.length) with
   | true=>.ok .non (set S p (.lst (set xs i.toNat v)))
   | false=>.stuck
  | _=>.stuck
 | _=>.stuck
noncomputable def seqU (f:List U->U) (a:U) (S:So):Res:=match a with
 | .str x=>.ok (f (x.cps.toList.map fun c=>.str ⟨#[c]⟩)) S
 | .ref p=>match at? S p with
  | some (.lst xs)=>.ok (f xs) (set S p .dead)
  | _=>.stuck
 | a=>match sqU S a with
  | some xs=>.ok (f xs) S
  | none=>.stuck
noncomputable def insU (p:Nat) (S:So) (f:Str->List (Str×U)->Res):Res:=match at? S p with
 | some (.ins C fs)=>f C fs
 | _=>.stuck
noncomputable def lstU (p:Nat) (S:So) (f:List U->Res):Res:=match at? S p with
 | some (.lst xs)=>f xs
 | _=>.stuck
noncomputable def strU:U->Option Str
 | .str x=>some x
 | _=>none
noncomputable def frzU:U->Option (List U)
 | .lst xs=>some xs
 | _=>none
noncomputable def one {α:Type}:List α->Option α
 | [x]=>some x
 | _=>none
noncomputable def joinA:List U->Option (Str×Str)
 | []=>none
 | a::r=>(strU a).bind fun s=>(one r).bind fun b=>(frzU b).bind fun l=>(one l).bind fun c=>(strU c).bind fun w=>some (s,w)
theorem m7 {u:U} {x:Str} (h:strU u=some x):u = .str x:=by unfold strU at h;split at h <;> cases h;rfl
theorem uE {u:U} {x:List U} (h:frzU u=some x):u = .lst x:=by unfold frzU at h;split at h <;> cases h;rfl
theorem rP {α:Type} {l:List α} {r} (h:one l=some r):l=[r]:=by unfold one at h;split at h <;> cases h;rfl
theorem qF {a:U} {r:List U} {p:Str×Str} (h:joinA (a::r)=some p):a = .str p.1/\r=[.lst [.str p.2]]:=by
 obtain ⟨s,h1,h⟩:=Option.bind_eq_some_iff.mp h;obtain ⟨b,h2,h⟩:=Option.bind_eq_some_iff.mp h;obtain ⟨l,h3,h⟩:=Option.bind_eq_some_iff.mp h;obtain ⟨c,h4,h⟩:=Option.bind_eq_some_iff.mp h;obtain ⟨w,h5,h⟩:=Option.bind_eq_some_iff.mp h;cases h;rw [m7 h1,rP h2,uE h3,rP h4,m7 h5];exact ⟨rfl,rfl⟩
noncomputable def revU (a:U) (S:So):Res:=match a with
 | .tup xs=>.ok (.tup xs.reverse) S
 | .kt xs=>.ok (.tup xs.reverse) S
 | .ref p=>lstU p S fun xs=>.ok (.tup xs.reverse) (set S p .dead)
 | _=>.stuck
variable (up:List (Str×Str))
noncomputable def pr:Pm->List U->So->Res
 | .add m,as,S=>match as with
  | [a,b]=>addU m a b S
  | _=>.stuck
 | .sub,as,S=>i2 (fun i j=>.int (i - j)) S as
 | .mul,as,S=>match as with
  | [.int i,.int j]=>match decide (i.natAbs<2 ^ 150/\j.natAbs<2 ^ 150\/j.natAbs<2 ^ 60\/i.natAbs<2 ^ 60) with
   | true=>.ok (.int (i * j)) S
   | false=>.stuck
  | _=>.stuck
 | .fdiv,as,S=>match as with
  | [.int i,.int j]=>match decide (0<j/\j<=10 ^ 18) with
   | true=>.ok (.int (i / j)) S
   | false=>.stuck
  | _=>.stuck
 | .mod,as,S=>match as with
  | [.int i,.int j]=>match decide (0<j) with
   | true=>.ok (.int (i % j)) S
   | false=>.stuck
  | _=>.stuck
 | .pow,as,S=>match as with
  | [.int i,.int j]=>match decide (0<=j/\j<=1000/\i.natAbs<2 ^ 60) with
   | true=>.ok (.int (i ^ j.toNat)) S
   | false=>.stuck
  | _=>.stuck
 | .neg,as,S=>match as with
  | [.int i]=>.ok (.int (-i)) S
  | _=>.stuck
 | .eq,as,S=>match as with
  | [a,b]=>match eqE S a b with
   | some c=>.ok (.bl c) S
   | none=>eqU id a b S
  | _=>.stuck
 | .ne,as,S=>match as with
  | [a,b]=>eqU not a b S
  | _=>.stuck
 | .lt,as,S=>i2 (fun i j=>.bl (decide (i<j))) S as
 | .le,as,S=>i2 (fun i j=>.bl (decide (i<=j))) S as
 | .gt,as,S=>i2 (fun i j=>.bl (decide (j<i))) S as
 | .ge,as,S=>i2 (fun i j=>.bl (decide (j<=i))) S as
 | .isN,as,S=>match as with
  | [a]=>.ok (.bl (match a with | .non=>true | _=>false)) S
  | _=>.stuck
 | .notN,as,S=>match as with
  | [a]=>.ok (.bl (match a with | .non=>false | _=>true)) S
  | _=>.stuck
 | .inn,as,S=>match as with
  | [a,b]=>obB (inU S a b) id S
  | _=>.stuck
 | .nin,as,S=>match as with
  | [a,b]=>obB (inU S a b) not S
  | _=>.stuck
 | .ix,as,S=>match as with
  | [a,b]=>ixU a b S
  | _=>.stuck
 | .sl m l h,as,S=>match l,h,as with
  | true,true,[x,.int i,.int j]=>slice m x (some i) (some j) S
  | true,false,[x,.int i]=>slice m x (some i) none S
  | false,true,[x,.int j]=>slice m x none (some j) S
  | _,_,_=>.stuck
 | .tru,as,S=>match as with
  | [a]=>obB (truU S a) id S
  | _=>.stuck
 | .len,as,S=>match as with
  | [a]=>lenU a S
  | _=>.stuck
 | .isT n,as,S=>match as with
  | [a]=>match tyU S a with
   | some t=>.ok (.bl (isTb t n)) S
   | none=>.stuck
  | _=>.stuck
 | .isC D,as,S=>match as with
  | [a]=>isCU D a S up
  | _=>.stuck
 | .abs,as,S=>match as with
  | [.int i]=>.ok (.int (if i<0 then -i else i)) S
  | _=>.stuck
 | .max,as,S=>i2 (fun i j=>.int (if j > i then j else i)) S as
 | .min,as,S=>i2 (fun i j=>.int (if j<i then j else i)) S as
 | .int1,as,S=>match as with
  | [a]=>match a with
   | .int i=>.ok (.int i) S
   | .bl b=>.ok (.int (if b then 1 else 0)) S
   | _=>.stuck
  | _=>.stuck
 | .lst m,as,S=>fits as.length (mkL m as S)
 | .dct ks,as,S=>match Nat.beq ks.length as.length with
  | true=>.ok (.ref S.length) (S++[.dct (dctZ ks as)])
  | false=>.stuck
 | .tupOf,as,S=>match as with
  | [a]=>tupOfU a S
  | _=>.stuck
 | .lstOf m,as,S=>match as with
  | [a]=>match sqU S a with
   | some xs=>mkL m xs S
   | none=>.stuck
  | _=>.stuck
 | .dctOf,as,S=>match as with
  | [.ref p]=>match at? S p with
   | some (.dct kvs)=>.ok (.ref S.length) (S++[.dct kvs])
   | _=>.stuck
  | _=>.stuck
 | .lenset,as,S=>match as with
  | [.tup xs]=>match strL xs with
   | some ws=>match Nat.ble ws.length 1 with
    | true=>.ok (.int (dedup ws).length) S
    | false=>.stuck
   | none=>.stuck
  | _=>.stuck
 | .all,as,S=>match as with
  | [.lst xs]=>match blL xs with
   | some bs=>.ok (.bl (bs.all id)) S
   | none=>.stuck
  | _=>.stuck
 | .any,as,S=>match as with
  | [.lst xs]=>match blL xs with
   | some bs=>.ok (.bl (bs.any id)) S
   | none=>.stuck
  | _=>.stuck
 | .app,as,S=>match as with
  | [.ref p,v]=>lstU p S fun xs=>fits (xs.length+1) (.ok .non (set S p (.lst (xs++[v]))))
  | _=>.stuck
 | .pop,as,S=>match as with
  | [.ref p]=>lstU p S fun xs=>match xs.getLast? with
   | some v=>.ok v (set S p (.lst xs.dropLast))
   | none=>.stuck
  | _=>.stuck
 | .ext,as,S=>match as with
  | [.ref p,b]=>lstU p S fun xs=>match lsT S b with
   | some ys=>fits (xs.length+ys.length) (.ok .non (set S p (.lst (xs++ys))))
   | none=>.stuck
  | _=>.stuck
 | .get1,as,S=>match as with
  | [.kd kvs _,.str x]=>opt (getF x kvs) S
  | _=>.stuck
 | .get2,as,S=>match as with
  | [.kd kvs no,.str x,d]=>match getF x kvs with
   | some v=>.ok v S
   | none=>match no.any fun y=>decide (y=x) with
    | true=>.ok d S
    | false=>.stuck
  | _=>.stuck
 | .join,as,S=>match joinA as with
  | some p=>fits (p.2.length+p.1.length) (.ok (.str p.2) S)
  | none=>.stuck
 | .fld f,as,S=>match as with
  | [.ref p]=>insU p S fun _ fs=>opt (getF f fs) S
  | _=>.stuck
 | .setf f,as,S=>match as with
  | [.ref p,v]=>insU p S fun C fs=>match Nat.ble fs.length 900 with
   | true=>.ok .non (set S p (.ins C (putF f v fs)))
   | false=>.stuck
  | _=>.stuck
 | .typ T,as,S=>match as with
  | [a]=>match tyU S a with
   | some t=>match t == T with
    | true=>.ok a S
    | false=>.stuck
   | none=>.stuck
  | _=>.stuck
 | .seti,as,S=>match as with
  | [.ref p,k,v]=>setiU p k v S
  | _=>.stuck
 | .cls C m,as,S=>match as with
  | [.ref p]=>insU p S fun D fs=>match decide (C=D) with
   | true=>match getF m fs with
    | none=>.ok (.ref p) S
    | some _=>.stuck
   | false=>.stuck
  | _=>.stuck
 | .unp n,as,S=>match as with
  | [a]=>match sqU S a with
   | some xs=>match Nat.beq xs.length n with
    | true=>.ok (.tup xs) S
    | false=>.stuck
   | none=>.stuck
  | _=>.stuck
 | .new C,as,S=>match as with
  | []=>.ok (.ref S.length) (S++[.ins C []])
  | _=>.stuck
 | .rng1,as,S=>match as with
  | [.int j]=>match decide (-(2 ^ 62)<=j/\j<2 ^ 62) with
   | true=>.ok (.tup (intL 0 j.toNat)) S
   | false=>.stuck
  | _=>.stuck
 | .rng2,as,S=>match as with
  | [.int i,.int j]=>match decide (-(2 ^ 62)<=i/\i<2 ^ 62/\-(2 ^ 62)<=j/\j<2 ^ 62) with
   | true=>.ok (.tup (intL i (j - i).toNat)) S
   | false=>.stuck
  | _=>.stuck
 | .rng3,as,S=>match as with
  | [.int i,.int j,.int k]=>match decide (k = -1/\-(2 ^ 62)<=i/\i<2 ^ 62/\-(2 ^ 62)<=j/\j<2 ^ 62) with
   | true=>.ok (.tup (downL i (i - j).toNat)) S
   | false=>.stuck
  | _=>.stuck
 | .zip,as,S=>match as with
  | [a,b]=>match sqF a,sqF b with
   | some xs,some ys=>match Nat.beq xs.length ys.length with
    | true=>.ok (.tup (zipU xs ys)) S
    | false=>.stuck
   | _,_=>.stuck
  | _=>.stuck
 | .enm,as,S=>match as with
  | [a]=>seqU (fun xs=>.tup (enmU 0 xs)) a S
  | _=>.stuck
 | .rev,as,S=>match as with
  | [a]=>revU a S
  | _=>.stuck
 | .seq,as,S=>match as with
  | [a]=>seqU .tup a S
  | _=>.stuck
 | .sortS,as,S=>match as with
  | [a]=>match (dctU S a).bind fun kvs=>strK (kvs.map (·.1)) with
   | some ws=>match Nat.ble ws.length 4 with
    | true=>mkL false ((SortS.srtW ws).map .str) S
    | false=>.stuck
   | none=>.stuck
  | _=>.stuck
 | .frz,as,S=>match as with
  | [.ref p]=>lstU p S fun xs=>.ok (.lst xs) (set S p .dead)
  | _=>.stuck
 | _,_,_=>.stuck
end Fx
namespace Fx
open PySem L2
noncomputable abbrev Sg:=List (Option U)
noncomputable abbrev Kx (α:Type):=Xc->So->α
noncomputable abbrev Kv (α:Type):=U->So->α
structure Gx (α:Type) where
 fail:α
 fuel:Nat
 prim:Pm->List U->So->Kx α->Kv α->α
 call:Nat->List U->So->Kx α->Kv α->α
 br:Bool->(Unit->α)->(Unit->α)->α
structure Ee (α:Type) where
 nx:Sg->So->α
 rt:Kv α
 bk:Sg->So->α
 ct:Sg->So->α
 x:Xc->Sg->So->α
noncomputable abbrev TEx (α:Type):=Gx α->Sg->So->Kx α->Kv α->α
noncomputable abbrev TTx (α:Type):=Gx α->Sg->So->Kx α->(Bool->So->α)->α
noncomputable abbrev TAx (α:Type):=Gx α->Sg->So->Kx α->(List U->So->α)->α
noncomputable abbrev TSx (α:Type):=Gx α->Sg->So->Ee α->α
section
variable {α:Type}
noncomputable def cV (i:Nat):TEx α:=fun G σ S _ k=>match nth σ i with
 | some v=>k v S
 | none=>G.fail
noncomputable def cC (u:U):TEx α:=fun _ _ S _ k=>k u S
noncomputable def aN:TAx α:=fun _ _ S _ k=>k [] S
noncomputable def aC (e:TEx α) (r:TAx α):TAx α:=fun G σ S x k=>e G σ S x fun v S1=>r G σ S1 x fun vs S2=>k (v::vs) S2
noncomputable def cP (p:Pm) (as:TAx α):TEx α:=fun G σ S x k=>as G σ S x fun vs S1=>G.prim p vs S1 x k
noncomputable def cT (as:TAx α):TEx α:=fun G σ S x k=>as G σ S x fun vs S1=>k (.tup vs) S1
noncomputable def cF (i:Nat) (as:TAx α) (ds:List U):TEx α:=fun G σ S x k=>as G σ S x fun vs S1=>G.call i (vs++ds) S1 x k
noncomputable def cM (C m:Str) (i:Nat) (o:TEx α) (as:TAx α) (ds:List U):TEx α:=fun G σ S x k=>o G σ S x fun v S1=>G.prim (.cls C m) [v] S1 x fun w S2=>as G σ S2 x fun vs S3=>G.call i (w::(vs++ds)) S3 x k
noncomputable def cK (C:Str) (i:Nat) (as:TAx α) (ds:List U):TEx α:=fun G σ S x k=>as G σ S x fun vs S1=>G.prim (.new C) [] S1 x fun w S2=>G.call i (w::(vs++ds)) S2 (fun _ _=>G.fail) fun r S3=>match r with
 | .non=>k w S3
 | _=>G.fail
noncomputable def cBM (T:String) (p:Pm) (o:TEx α) (as:TAx α):TEx α:=fun G σ S x k=>o G σ S x fun v S1=>G.prim (.typ T) [v] S1 x fun w S2=>as G σ S2 x fun vs S3=>G.prim p (w::vs) S3 x k
noncomputable def cD (fs:List (Str×Nat×Nat)) (f:TEx α) (as:TAx α):TEx α:=fun G σ S x k=>f G σ S x fun v S1=>match v with
 | .gl y=>match getF y fs with
  | some p=>as G σ S1 x fun vs S2=>G.call p.1 vs S2 x k
  | none=>G.fail
 | _=>G.fail
noncomputable def tB (e:TEx α):TTx α:=fun G σ S x k=>e G σ S x fun v S1=>match v with
 | .bl b=>k b S1
 | _=>G.fail
noncomputable def cI (e:TEx α):TEx α:=fun G σ S x k=>e G σ S x fun v S1=>match v with
 | .int i=>k (.int i) S1
 | _=>G.fail
noncomputable def tNt (t:TTx α):TTx α:=fun G σ S x k=>t G σ S x fun b S1=>k (!b) S1
noncomputable def tAn (t u:TTx α):TTx α:=fun G σ S x k=>t G σ S x fun b S1=>G.br b (fun _=>u G σ S1 x k) (fun _=>k false S1)
noncomputable def tOr' (t u:TTx α):TTx α:=fun G σ S x k=>t G σ S x fun b S1=>G.br b (fun _=>k true S1) (fun _=>u G σ S1 x k)
noncomputable def cB (t:TTx α):TEx α:=fun G σ S x k=>t G σ S x fun b S1=>k (.bl b) S1
noncomputable def cIf (t:TTx α) (a b:TEx α):TEx α:=fun G σ S x k=>t G σ S x fun c S1=>G.br c (fun _=>a G σ S1 x k) (fun _=>b G σ S1 x k)
noncomputable def tCh (p q:Pm) (a b c:TEx α):TTx α:=fun G σ S x k=>a G σ S x fun v S1=>b G σ S1 x fun w S2=>G.prim p [v,w] S2 x fun r S3=>match r with
 | .bl d=>G.br d (fun _=>c G σ S3 x fun z S4=>G.prim q [w,z] S4 x fun r2 S5=>match r2 with
  | .bl d2=>k d2 S5
  | _=>G.fail) (fun _=>k false S3)
 | _=>G.fail
noncomputable def forK:List U->(U->Sg->So->(Sg->So->α)->α)->Sg->So->(Sg->So->α)->α
 | [],_,σ,S,k=>k σ S
 | v::vs,b,σ,S,k=>b v σ S fun σ1 S1=>forK vs b σ1 S1 k
noncomputable def whK (t:Sg->So->(Bool->So->α)->α) (b:Sg->So->(Sg->So->α)->α) (br:Bool->(Unit->α)->(Unit->α)->α) (fail:α):Nat->Sg->So->(Sg->So->α)->α
 | 0,_,_,_=>fail
 | n+1,σ,S,k=>t σ S fun c S1=>br c (fun _=>b σ S1 fun σ2 S2=>whK t b br fail n σ2 S2 k) (fun _=>k σ S1)
noncomputable def tgt (is:List Nat) (one:Bool) (G:Gx α) (v:U) (σ:Sg) (k:Sg->α):α:=match one with
 | true=>k (puts σ is [v])
 | false=>match v with
  | .tup vs=>match Nat.beq vs.length is.length with
   | true=>k (puts σ is vs)
   | false=>G.fail
  | _=>G.fail
noncomputable def lcK (G:Gx α) (b:U->So->(Option U->So->α)->α):List U->List U->So->Kv α->α
 | [],ys,S,k=>k (.lst ys) S
 | v::vs,ys,S,k=>b v S fun o S1=>match o with
  | some u=>lcK G b vs (ys++[u]) S1 k
  | none=>lcK G b vs ys S1 k
noncomputable def lcB (is:List Nat) (one:Bool) (σ:Sg) (t:Option (TTx α)) (e:TEx α) (G:Gx α):U->So->(Option U->So->α)->α:=fun w S2 nx=>tgt is one G w σ fun σ1=>match t with
 | none=>e G σ1 S2 (fun _ _=>G.fail) fun u S3=>nx (some u) S3
 | some t=>t G σ1 S2 (fun _ _=>G.fail) fun b S3=>G.br b (fun _=>e G σ1 S3 (fun _ _=>G.fail) fun u S4=>nx (some u) S4) (fun _=>nx none S3)
noncomputable def cL (it:TEx α) (is:List Nat) (one:Bool) (n:Nat) (cs:List Nat) (t:Option (TTx α)) (e:TEx α):TEx α:=fun G σ S x k=>it G σ S x fun v S1=>match v with
 | .tup vs=>G.br (Nat.ble vs.length sizeLine) (fun _=>lcK G (lcB is one (List.replicate n none++cs.map (nth σ)) t e G) vs [] S1 k) (fun _=>G.fail)
 | _=>G.fail
noncomputable def sN:TSx α:=fun _ σ S E=>E.nx σ S
noncomputable abbrev sqE (E:Ee α) (nx:Sg->So->α):Ee α:={ E with nx:=nx }
noncomputable abbrev lpE (E:Ee α) (nx:Sg->So->α):Ee α:={ E with nx:=nx,ct:=nx,bk:=E.nx }
noncomputable def sQ (t u:TSx α):TSx α:=fun G σ S E=>t G σ S (sqE E fun σ1 S1=>u G σ1 S1 E)
noncomputable def sA (i:Nat) (e:TEx α):TSx α:=fun G σ S E=>e G σ S (fun x S1=>E.x x σ S1) fun v S1=>E.nx (put σ i v) S1
noncomputable def sU (is:List Nat) (e:TEx α):TSx α:=fun G σ S E=>e G σ S (fun x S1=>E.x x σ S1) fun v S1=>G.prim (.unp is.length) [v] S1 (fun x S1=>E.x x σ S1) fun w S2=>match w with
 | .tup vs=>E.nx (puts σ is vs) S2
 | _=>G.fail
noncomputable def sE (e:TEx α):TSx α:=fun G σ S E=>e G σ S (fun x S1=>E.x x σ S1) fun _ S1=>E.nx σ S1
noncomputable def sR (e:TEx α):TSx α:=fun G σ S E=>e G σ S (fun x S1=>E.x x σ S1) E.rt
noncomputable def sRN:TSx α:=fun _ _ S E=>E.rt .non S
noncomputable def sI (t:TTx α) (a b:TSx α):TSx α:=fun G σ S E=>t G σ S (fun x S1=>E.x x σ S1) fun c S1=>G.br c (fun _=>a G σ S1 E) (fun _=>b G σ S1 E)
noncomputable def sP (p:Pm) (e:TEx α) (os:TAx α):TSx α:=fun G σ S E=>e G σ S (fun x S1=>E.x x σ S1) fun v S1=>os G σ S1 (fun x S1=>E.x x σ S1) fun ws S2=>G.prim p (ws++[v]) S2 (fun x S1=>E.x x σ S1) fun _ S3=>E.nx σ S3
noncomputable def sF (it:TEx α) (is:List Nat) (one:Bool) (b:TSx α):TSx α:=fun G σ S E=>it G σ S (fun x S1=>E.x x σ S1) fun v S1=>match v with
 | .tup vs=>forK vs (fun w σ1 S2 nx=>tgt is one G w σ1 fun σ2=>b G σ2 S2 (lpE E nx)) σ S1 E.nx
 | _=>G.fail
noncomputable def sW (t:TTx α) (b:TSx α):TSx α:=fun G σ S E=>whK (fun σ1 S1 k=>t G σ1 S1 (fun x S2=>E.x x σ1 S2) k) (fun σ1 S1 nx=>b G σ1 S1 (lpE E nx)) G.br G.fail G.fuel σ S E.nx
end
noncomputable def lst2 {α:Type} (a b:TEx α):TAx α:=aC a (aC b aN)
noncomputable def nodupS:List Str->Bool
 | []=>true
 | x::r=>!(r.any fun y=>decide (y=x)) && nodupS r
end Fx
namespace Fx
open PySem PySem.Spec L2
structure Bs where
 K:xFr
 mg:Str->Option Value
 kd:Addr->List (Str×U)->List Str->Prop
 cl:Str->Addr->Prop
structure Wd where
 F:Hp
 μ:List Addr
 pr:List (Addr×HO)
structure Wd.Lf (W W':Wd):Prop where
 f:∀ p o,W.F p=some o->W'.F p=some o
 m:∀ a p,at? W.μ a=some p->at? W'.μ a=some p
structure Wd.Le (W W':Wd):Prop where
 f:∀ p o,W.F p=some o->W'.F p=some o
 m:∀ a p,at? W.μ a=some p->at? W'.μ a=some p
 r:W'.pr=W.pr
theorem Wd.Lf.pr {W:Wd} {l:List (Addr×HO)}:W.Lf { W with pr:=l }:=⟨fun _ _ h=>h,fun _ _ h=>h⟩
theorem Wd.Le.lf {W W':Wd} (h:W.Le W'):W.Lf W':=⟨h.f,h.m⟩
theorem Wd.Le.refl {W:Wd}:W.Le W:=⟨fun _ _ h=>h,fun _ _ h=>h,rfl⟩
theorem Wd.Le.trans {W W1 W2:Wd} (a:W.Le W1) (b:W1.Le W2):W.Le W2:=⟨fun p o h=>b.f p o (a.f p o h),fun i p h=>b.m i p (a.m i p h),b.r.trans a.r⟩
variable (B:Bs)
mutual
noncomputable def Rv (W:Wd):U->V->Prop
 | .non,v=>v = .non
 | .bl b,v=>v = .bl b
 | .int i,v=>v = .int i
 | .str x,v=>v = .str x
 | .tup xs,v=>∃ p vs,v = .ref p/\W.F p=some (.tup vs)/\Rvs W xs vs
 | .lst xs,v=>∃ p vs,v = .ref p/\W.F p=some (.lst vs)/\Rvs W xs vs
 | .kt xs,v=>∃ p vs,v = .ref p/\(∀ H,SqT B.K H p vs)/\Rvs W xs vs
 | .kl xs,v=>∃ p vs,v = .ref p/\SqL B.K W.F p vs/\Rvs W xs vs
 | .kd kvs no,v=>∃ p,v = .ref p/\B.kd p kvs no
 | .ref a,v=>∃ p,v = .ref p/\at? W.μ a=some p
 | .ty n,v=>v = .ty n
 | .gl x,v=>∃ p,v = .ref p/\B.mg x=some (.ref p)
noncomputable def Rvs (W:Wd):List U->List V->Prop
 | [],vs=>vs=[]
 | x::xs,vs=>∃ v r,vs=v::r/\Rv W x v/\Rvs W xs r
end
variable {B:Bs}
theorem eF {K:xFr} {F F':Hp} {p:Addr} {vs:List V} (le:∀ p o,F p=some o->F' p=some o) (h:SqL K F p vs):SqL K F' p vs:=by
 rcases h with (h | ⟨o,h⟩) | h
 ·exact .inl (.inl (le _ _ h))
 ·exact .inl (.inr ⟨o,le _ _ h⟩)
 ·exact .inr h
mutual
theorem Rv.lf {W W':Wd} (le:W.Lf W'):∀ {u:U} {v:V},Rv B W u v->Rv B W' u v
 | .non,_,h=>h
 | .bl _,_,h=>h
 | .int _,_,h=>h
 | .str _,_,h=>h
 | .tup _,_,h=>let ⟨p,vs,e,f,r⟩:=h;⟨p,vs,e,le.f _ _ f,Rvs.lf le r⟩
 | .lst _,_,h=>let ⟨p,vs,e,f,r⟩:=h;⟨p,vs,e,le.f _ _ f,Rvs.lf le r⟩
 | .kt _,_,h=>let ⟨p,vs,e,f,r⟩:=h;⟨p,vs,e,f,Rvs.lf le r⟩
 | .kl _,_,h=>let ⟨p,vs,e,f,r⟩:=h;⟨p,vs,e,eF le.f f,Rvs.lf le r⟩
 | .kd _ _,_,h=>h
 | .ref _,_,h=>let ⟨p,e,f⟩:=h;⟨p,e,le.m _ _ f⟩
 | .ty _,_,h=>h
 | .gl _,_,h=>h
theorem Rvs.lf {W W':Wd} (le:W.Lf W'):∀ {us:List U} {vs:List V},Rvs B W us vs->Rvs B W' us vs
 | [],_,h=>h
 | _::_,_,h=>let ⟨v,r,e,h1,h2⟩:=h;⟨v,r,e,Rv.lf le h1,Rvs.lf le h2⟩
end
theorem Rv.mono {W W':Wd} (le:W.Le W') {u:U} {v:V} (h:Rv B W u v):Rv B W' u v:=h.lf le.lf
theorem Rvs.mono {W W':Wd} (le:W.Le W') {u:List U} {v:List V} (h:Rvs B W u v):Rvs B W' u v:=h.lf le.lf
theorem Rvs.length {W:Wd}:∀ {us:List U} {vs:List V},Rvs B W us vs->vs.length=us.length
 | [],_,h=>by rw [show _=[] from h];rfl
 | _::_,_,h=>by obtain ⟨v,r,rfl,_,h2⟩:=h;simp [Rvs.length h2]
theorem Rvs.app {W:Wd}:∀ {us ws:List U} {vs zs:List V},Rvs B W us vs->Rvs B W ws zs->Rvs B W (us++ws) (vs++zs)
 | [],_,_,_,h,g=>by rw [show _=[] from h];exact g
 | _::_,_,_,_,h,g=>by obtain ⟨v,r,rfl,h1,h2⟩:=h;exact ⟨v,r++_,rfl,h1,Rvs.app h2 g⟩
theorem Rvs.one {W:Wd} {u:U} {v:V} (h:Rv B W u v):Rvs B W [u] [v]:=⟨v,[],rfl,h,rfl⟩
theorem Rvs.get {W:Wd}:∀ {us:List U} {vs:List V},Rvs B W us vs->∀ {i:Nat} {u:U},us[i]?=some u->∃ v,vs[i]?=some v/\Rv B W u v
 | [],_,_,_,_,e=>by simp at e
 | _::_,_,h,0,_,e=>by obtain ⟨v,r,rfl,h1,h2⟩:=h;simp at e;subst e;exact ⟨v,rfl,h1⟩
 | _::_,_,h,i+1,_,e=>by obtain ⟨v,r,rfl,h1,h2⟩:=h;exact Rvs.get h2 (by simpa using e)
theorem Rvs.drop {W:Wd}:∀ (n:Nat) {us:List U} {vs:List V},Rvs B W us vs->Rvs B W (us.drop n) (vs.drop n)
 | 0,_,_,h=>h
 | _+1,[],_,h=>by rw [show _=[] from h];rfl
 | n+1,_::_,_,h=>by obtain ⟨v,r,rfl,h1,h2⟩:=h;exact Rvs.drop n h2
theorem Rvs.take {W:Wd}:∀ (n:Nat) {us:List U} {vs:List V},Rvs B W us vs->Rvs B W (us.take n) (vs.take n)
 | 0,_,_,_=>rfl
 | _+1,[],_,h=>by rw [show _=[] from h];rfl
 | n+1,_::_,_,h=>by obtain ⟨v,r,rfl,h1,h2⟩:=h;exact ⟨v,r.take n,rfl,h1,Rvs.take n h2⟩
theorem Rvs.set {W:Wd} {u:U} {v:V} (g:Rv B W u v):∀ {us:List U} {vs:List V} (i:Nat),Rvs B W us vs->Rvs B W (Fx.set us i u) (vs.set i v)
 | [],_,_,h=>by rw [show _=[] from h];rfl
 | _::_,_,0,h=>by obtain ⟨v',r,rfl,h1,h2⟩:=h;exact ⟨v,r,rfl,g,h2⟩
 | _::_,_,i+1,h=>by obtain ⟨v',r,rfl,h1,h2⟩:=h;exact ⟨v',_,rfl,h1,Rvs.set g i h2⟩
noncomputable def Rn {κ:Type} (B:Bs) (W:Wd):List (κ×U)->List (κ×V)->Prop
 | [],vs=>vs=[]
 | x::xs,vs=>∃ v r,vs=(x.1,v)::r/\Rv B W x.2 v/\Rn B W xs r
theorem Rn.lf {κ:Type} {W W':Wd} (le:W.Lf W'):∀ {us:List (κ×U)} {vs:List (κ×V)},Rn B W us vs->Rn B W' us vs
 | [],_,h=>h
 | _::_,_,h=>let ⟨v,r,e,h1,h2⟩:=h;⟨v,r,e,h1.lf le,Rn.lf le h2⟩
theorem Rn.mono {κ:Type} {W W':Wd} (le:W.Le W') {us:List (κ×U)} {vs:List (κ×V)} (h:Rn B W us vs):Rn B W' us vs:=h.lf le.lf
theorem Rn.length {κ:Type} {W:Wd}:∀ {us:List (κ×U)} {vs:List (κ×V)},Rn B W us vs->vs.length=us.length
 | [],_,h=>by rw [show _=[] from h];rfl
 | _::_,_,h=>by obtain ⟨v,r,rfl,_,h2⟩:=h;simp [Rn.length h2]
noncomputable def Ro (B:Bs) (W:Wd):Ob->HO->Prop
 | .lst xs,o=>∃ vs,o = .lst vs/\Rvs B W xs vs
 | .dct kvs,o=>∃ vs,o = .dK vs/\Rn B W kvs vs
 | .ins C fs,o=>∃ c dx vs,B.cl C c/\o = .ins c dx vs/\Rn B W fs vs
 | .dead,o=>∃ vs,o = .lst vs
theorem Ro.lf {W W':Wd} (le:W.Lf W'):∀ {o:Ob} {h:HO},Ro B W o h->Ro B W' o h
 | .lst _,_,h=>let ⟨vs,e,r⟩:=h;⟨vs,e,r.lf le⟩
 | .dct _,_,h=>let ⟨vs,e,r⟩:=h;⟨vs,e,r.lf le⟩
 | .ins _ _,_,h=>let ⟨c,dx,vs,m,e,r⟩:=h;⟨c,dx,vs,m,e,r.lf le⟩
 | .dead,_,h=>h
theorem Ro.mono {W W':Wd} (le:W.Le W') {o:Ob} {h:HO} (r:Ro B W o h):Ro B W' o h:=r.lf le.lf
structure RS (B:Bs) (W:Wd) (S:So) (H:Hp):Prop where
 fz:∀ p o,W.F p=some o->H p=some o
 len:W.μ.length=S.length
 nd:∀ a b p,at? W.μ a=some p->at? W.μ b=some p->a=b
 ob:∀ a p,at? W.μ a=some p->∃ o h,at? S a=some o/\H p=some h/\Ro B W o h/\(o = .dead\/W.F p=none)
 pf:∀ q∈W.pr,H q.1=some q.2/\W.F q.1=none/\(∀ a,at? W.μ a≠some q.1)/\∀ vs,q.2≠.tup vs
section
variable {α:Type}
theorem lm:∀ {l:List α} {i:Nat} {v:α},at? l i=some v->i<l.length
 | _::_,0,_,_=>by simp
 | _::r,i+1,v,h=>by have:=lm (l:=r) (i:=i) h;simp;lia
theorem jp:∀ {l:List α} {i:Nat},i<l.length->∃ v,at? l i=some v
 | v::_,0,_=>⟨v,rfl⟩
 | _::r,i+1,h=>jp (l:=r) (i:=i) (by simpa using h)
theorem d8:∀ {l r:List α} {i:Nat} {v:α},at? l i=some v->at? (l++r) i=some v
 | _::_,_,0,_,h=>h
 | _::l,r,i+1,v,h=>d8 (l:=l) (r:=r) (i:=i) h
theorem gB:∀ {l:List α} {v:α},at? (l++[v]) l.length=some v
 | [],_=>rfl
 | _::l,v=>gB (l:=l) (v:=v)
theorem dX:∀ {l:List α} {v w:α} {i:Nat},at? (l++[v]) i=some w->at? l i=some w\/(i=l.length/\w=v)
 | [],v,w,0,h=>.inr ⟨rfl,(xB3 h).symm⟩
 | [],_,_,_+1,h=>by cases h
 | _::_,_,_,0,h=>.inl h
 | _::l,v,w,i+1,h=>by
  rcases dX (l:=l) (v:=v) (w:=w) (i:=i) h with z | ⟨z,e⟩
  ·exact .inl z
  ·exact .inr ⟨by simp [z],e⟩
theorem hW:∀ {l:List α} {i:Nat} {v:α},(set l i v).length=l.length
 | [],_,_=>rfl
 | _::_,0,_=>rfl
 | _::r,i+1,v=>by show (set r i v).length+1=r.length+1;rw [hW]
theorem j3:∀ {l:List α} {i:Nat} {v:α},i<l.length->at? (set l i v) i=some v
 | _::_,0,_,_=>rfl
 | _::r,i+1,v,h=>j3 (l:=r) (i:=i) (by simpa using h)
theorem fG:∀ {l:List α} {i j:Nat} {v:α},i≠j->at? (set l i v) j=at? l j
 | [],_,_,_,_=>rfl
 | _::_,0,0,_,h=>absurd rfl h
 | _::_,0,_+1,_,_=>rfl
 | _::_,_+1,0,_,_=>rfl
 | _::r,i+1,j+1,v,h=>fG (l:=r) (i:=i) (j:=j) (by lia)
end
section
variable {W:Wd} {S:So} {H H':Hp} {p:Addr}
theorem RS.here (r:RS B W S H) {a:Nat} {o:Ob} (e:at? S a=some o):∃ p h,at? W.μ a=some p/\H p=some h/\Ro B W o h/\(o = .dead\/W.F p=none):=by
 have hl:=lm e;obtain ⟨p,hp⟩:=jp (l:=W.μ) (i:=a) (by rw [r.len];exact hl);obtain ⟨o',h,e',hh,ro,q⟩:=r.ob a p hp;rw [e] at e';cases e';exact ⟨p,h,hp,hh,ro,q⟩
theorem RS.same (r:RS B W S H) (s:Same H H'):RS B W S H' :=
 ⟨fun p o h=>s _ _ (r.fz p o h),r.len,r.nd,fun a p h=>let ⟨o,g,e,hh,ro,q⟩:=r.ob a p h;⟨o,g,e,s _ _ hh,ro,q⟩,fun q hq=>⟨s _ _ (r.pf q hq).1,(r.pf q hq).2⟩⟩
theorem RS.add {o:HO} (r:RS B W S H) (e:H p=some o) (hm:∀ a,at? W.μ a≠some p) (hp:∀ q∈W.pr,q.1≠p):W.Le { W with F:=upd W.F p o }/\RS B { W with F:=upd W.F p o } S H:=by
 have le:W.Le { W with F:=upd W.F p o }:=⟨fun b o' h=>by
  by_cases z:b=p
  ·subst z;rw [r.fz _ _ h] at e;cases e;exact dk
  ·show upd W.F p o b=_;rw [dg z];exact h,fun _ _ h=>h,rfl⟩
 refine ⟨le,⟨fun b o' h=>?_,r.len,r.nd,fun a b h=>?_,fun q hq=>?_⟩⟩
 ·by_cases z:b=p
  ·subst z;have:some o=some o':=by rw [<- h];exact dk.symm
   cases this;exact e
  ·exact r.fz b o' (by rw [<- h];exact (dg z).symm)
 ·obtain ⟨o',g,e',hh,ro,q⟩:=r.ob a b h;refine ⟨o',g,e',hh,ro.mono le,q.imp id fun z=>?_⟩;show upd W.F p o b=none;rw [dg fun z'=>hm a (by rw [<- z'];exact h)];exact z
 ·obtain ⟨h1,h2,h3⟩:=r.pf q hq;exact ⟨h1,by show upd W.F p o q.1=none;rw [dg (hp q hq)];exact h2,h3⟩
theorem RS.addT {vs:List V} (r:RS B W S H) (e:H p=some (.tup vs)):W.Le { W with F:=upd W.F p (.tup vs) }/\RS B { W with F:=upd W.F p (.tup vs) } S H:=by
 by_cases z:W.F p=some (.tup vs)
 ·have:upd W.F p (.tup vs)=W.F:=by
   funext b
   by_cases y:b=p
   ·rw [y,dk,z]
   ·rw [dg y]
  rw [this];exact ⟨.refl,r⟩
 ·refine r.add e (fun a h=>?_) fun q hq z=>?_
  ·obtain ⟨o,g,e',hh,ro,q⟩:=r.ob a p h;rw [e] at hh;cases hh;cases o with
   | lst _=>obtain ⟨_,z,_⟩:=ro;cases z
   | dct _=>obtain ⟨_,z,_⟩:=ro;cases z
   | ins _ _=>obtain ⟨_,_,_,_,z,_⟩:=ro;cases z
   | dead=>obtain ⟨_,z⟩:=ro;cases z
  ·rw [<- z,(r.pf q hq).1] at e;exact (r.pf q hq).2.2.2 vs (xB3 e)
theorem RS.fresh {o:HO} (r:RS B W S H) (e:H p=none):W.Le { W with F:=upd W.F p o }/\RS B { W with F:=upd W.F p o } S (upd H p o):=by
 refine (r.same (ez e o)).add dk (fun a h=>?_) fun q hq z=>?_
 ·obtain ⟨_,g,_,hh,_⟩:=r.ob a p h;rw [e] at hh;cases hh
 ·rw [<- z,(r.pf q hq).1] at e;cases e
theorem RS.push {o:Ob} {h:HO} (r:RS B W S H) (e:H p=none) (ro:Ro B { W with μ:=W.μ++[p] } o h):W.Le { W with μ:=W.μ++[p] }/\RS B { W with μ:=W.μ++[p] } (S++[o]) (upd H p h)/\at? (W.μ++[p]) S.length=some p:=by
 have le:W.Le { W with μ:=W.μ++[p] }:=⟨fun _ _ h=>h,fun a b h=>d8 h,rfl⟩
 have nm:∀ a,at? W.μ a≠some p:=fun a z=>by
  obtain ⟨_,g,_,hh,_⟩:=r.ob a p z;rw [e] at hh;cases hh
 have hF:W.F p=none:=by
  cases z:W.F p with
  | none=>rfl
  | some o'=>rw [r.fz _ _ z] at e;cases e
 have sm:=ez e h;refine ⟨le,⟨fun b o' z=>sm _ _ (r.fz b o' z),by simp [r.len],fun a b q h1 h2=>?_,fun a q h1=>?_,fun q hq=>?_⟩,by rw [<- r.len];exact gB⟩
 ·rcases dX h1 with z1 | ⟨z1,e1⟩ <;> rcases dX h2 with z2 | ⟨z2,e2⟩
  ·exact r.nd a b q z1 z2
  ·exact absurd (e2 ▸ z1) (nm a)
  ·exact absurd (e1 ▸ z2) (nm b)
  ·rw [z1,z2]
 ·rcases dX h1 with z1 | ⟨z1,e1⟩
  ·obtain ⟨o',g,e',hh,ro',q'⟩:=r.ob a q z1;exact ⟨o',g,d8 e',sm _ _ hh,ro'.mono le,q'⟩
  ·subst e1;exact ⟨o,h,by rw [z1,r.len];exact gB,dk,ro,.inr hF⟩
 ·obtain ⟨h1,h2,h3⟩:=r.pf q hq;refine ⟨sm _ _ h1,h2,fun a z=>?_,h3.2⟩;rcases dX z with z1 | ⟨_,e1⟩
  ·exact h3.1 a z1
  ·rw [e1,e] at h1;cases h1
theorem RS.mut {a:Nat} {o o':Ob} {h:HO} (r:RS B W S H) (ea:at? W.μ a=some p) (e:at? S a=some o) (nd:o≠.dead) (ro:Ro B W o' h):RS B W (set S a o') (upd H p h):=by
 have hF:W.F p=none:=by
  obtain ⟨o2,g,e2,_,_,q⟩:=r.ob a p ea;rw [e] at e2;cases e2;exact q.resolve_left nd
 refine ⟨fun b o2 z=>?_,by rw [hW];exact r.len,r.nd,fun b q h1=>?_,fun q hq=>?_⟩
 ·rw [dg fun y=>by rw [y,hF] at z;cases z];exact r.fz b o2 z
 ·by_cases y:a=b
  ·subst y;rw [ea] at h1;cases h1;exact ⟨o',h,j3 (lm e),dk,ro,.inr hF⟩
  ·obtain ⟨o2,g,e2,hh,ro2,q2⟩:=r.ob b q h1;exact ⟨o2,g,by rw [fG y];exact e2,by rw [dg fun z=>y (r.nd a b p ea (by rw [<- z];exact h1))];exact hh,ro2,q2⟩
 ·obtain ⟨h1,h2,h3⟩:=r.pf q hq;exact ⟨by rw [dg fun z=>h3.1 a (by rw [z];exact ea)];exact h1,h2,h3⟩
theorem RS.freeze {a:Nat} {xs:List U} (r:RS B W S H) (e:at? S a=some (.lst xs)) (ea:at? W.μ a=some p):∃ W',W.Le W'/\RS B W' (set S a .dead) H/\Rv B W' (.lst xs) (.ref p):=by
 obtain ⟨o,g,e2,hh,ro,q⟩:=r.ob a p ea;rw [e] at e2;cases e2;obtain ⟨vs,rfl,rvs⟩:=ro;have hF:W.F p=none:=q.resolve_left (by intro z;cases z);have le:W.Le { W with F:=upd W.F p (.lst vs) }:=⟨fun b o' h=>by
  show upd W.F p _ b=_;rw [dg fun y=>by rw [y,hF] at h;cases h];exact h,fun _ _ h=>h,rfl⟩
 refine ⟨_,le,⟨fun b o' h=>?_,by rw [hW];exact r.len,r.nd,fun b q h1=>?_,fun q hq=>?_⟩,p,vs,rfl,dk,rvs.mono le⟩
 ·by_cases z:b=p
  ·subst z;have:some (HO.lst vs)=some o':=by rw [<- h];exact dk.symm
   cases this;exact hh
  ·exact r.fz b o' (by rw [<- h];exact (dg z).symm)
 ·by_cases y:a=b
  ·subst y;rw [ea] at h1;cases h1;exact ⟨.dead,_,j3 (lm e),hh,⟨vs,rfl⟩,.inl rfl⟩
  ·obtain ⟨o2,g,e2,hh2,ro2,q2⟩:=r.ob b q h1;refine ⟨o2,g,by rw [fG y];exact e2,hh2,ro2.mono le,q2.imp id fun z=>?_⟩;show upd W.F p _ q=none;rw [dg fun z=>y (r.nd a b p ea (by rw [<- z];exact h1))];exact z
 ·obtain ⟨h1,h2,h3⟩:=r.pf q hq;refine ⟨h1,?_,h3⟩;show upd W.F p _ q.1=none;rw [dg fun z=>h3.1 a (by rw [z];exact ea)];exact h2
theorem RS.hold {o:HO} (r:RS B W S H) (e:H p=none) (ht:∀ vs,o≠.tup vs):RS B { W with pr:=(p,o)::W.pr } S (upd H p o):=by
 have sm:=ez e o;have r':=r.same sm;refine ⟨r'.fz,r'.len,r'.nd,fun a q h=>let ⟨o',g,e',hh,ro,q'⟩:=r'.ob a q h;⟨o',g,e',hh,ro.lf (Wd.Lf.pr),q'⟩,fun q hq=>?_⟩;rcases xAv.mp hq with rfl | hq
 ·refine ⟨dk,?_,fun a z=>?_,ht⟩
  ·cases z:W.F p with
   | none=>rfl
   | some o'=>rw [r.fz _ _ z] at e;cases e
  ·obtain ⟨_,g,_,hh,_⟩:=r.ob a p z;rw [e] at hh;cases hh
 ·exact r'.pf q hq
theorem RS.held {o o':HO} {l:List (Addr×HO)} (r:RS B W S H) (hw:W.pr=(p,o)::l) (ht:∀ vs,o'≠.tup vs) (hl:∀ q∈l,q.1≠p):RS B { W with pr:=(p,o')::l } S (upd H p o'):=by
 obtain ⟨h1,h2,h3,_⟩:=r.pf (p,o) (by rw [hw];exact xAr);refine ⟨fun b u z=>?_,r.len,r.nd,fun a q h=>?_,fun q hq=>?_⟩
 ·rw [dg fun y=>by rw [y,h2] at z;cases z];exact r.fz b u z
 ·obtain ⟨o2,g,e',hh,ro,q'⟩:=r.ob a q h;exact ⟨o2,g,e',by rw [dg fun y=>h3 a (by rw [<- y];exact h)];exact hh,ro.lf (Wd.Lf.pr),q'⟩
 ·rcases xAv.mp hq with rfl | hq
  ·exact ⟨dk,h2,h3,ht⟩
  ·obtain ⟨k1,k2⟩:=r.pf q (by rw [hw];exact xAs _ hq);exact ⟨by rw [dg (hl q hq)];exact k1,k2⟩
theorem RS.heldF {o:HO} {l:List (Addr×HO)} (r:RS B W S H) (hw:W.pr=(p,o)::l) (hl:∀ q∈l,q.1≠p):RS B { W with pr:=l,F:=upd W.F p o } S H:=by
 obtain ⟨h1,h2,h3,_⟩:=r.pf (p,o) (by rw [hw];exact xAr);have lf:W.Lf { W with pr:=l,F:=upd W.F p o }:=⟨fun b u z=>by show upd W.F p o b=_;rw [dg fun y=>by rw [y,h2] at z;cases z];exact z,fun _ _ h=>h⟩
 refine ⟨fun b u z=>?_,r.len,r.nd,fun a q h=>?_,fun q hq=>?_⟩
 ·by_cases y:b=p
  ·subst y;have:some o=some u:=by rw [<- z];exact dk.symm
   cases this;exact h1
  ·exact r.fz b u (by rw [<- z];exact (dg y).symm)
 ·obtain ⟨o2,g,e',hh,ro,q'⟩:=r.ob a q h;exact ⟨o2,g,e',hh,ro.lf lf,q'.imp id fun z=>by show upd W.F p o q=none;rw [dg fun y=>h3 a (by rw [<- y];exact h)];exact z⟩
 ·obtain ⟨k1,k2,k3⟩:=r.pf q (by rw [hw];exact xAs _ hq);exact ⟨k1,by show upd W.F p o q.1=none;rw [dg (hl q hq)];exact k2,k3⟩
theorem RS.heldS {o h:HO} {b:Ob} {l:List (Addr×HO)} (r:RS B W S H) (hw:W.pr=(p,o)::l) (hl:∀ q∈l,q.1≠p) (ro:Ro B { W with pr:=l,μ:=W.μ++[p] } b h):RS B { W with pr:=l,μ:=W.μ++[p] } (S++[b]) (upd H p h)/\at? (W.μ++[p]) S.length=some p:=by
 obtain ⟨h1,h2,h3,_⟩:=r.pf (p,o) (by rw [hw];exact xAr);have lf:W.Lf { W with pr:=l,μ:=W.μ++[p] }:=⟨fun _ _ h=>h,fun _ _ h=>d8 h⟩
 refine ⟨⟨fun c u z=>?_,by simp [r.len],fun a c q y1 y2=>?_,fun a q y1=>?_,fun q hq=>?_⟩,by rw [<- r.len];exact gB⟩
 ·rw [dg fun y=>by rw [y,h2] at z;cases z];exact r.fz c u z
 ·rcases dX y1 with z1 | ⟨z1,e1⟩ <;> rcases dX y2 with z2 | ⟨z2,e2⟩
  ·exact r.nd a c q z1 z2
  ·exact absurd (e2 ▸ z1) (h3 a)
  ·exact absurd (e1 ▸ z2) (h3 c)
  ·rw [z1,z2]
 ·rcases dX y1 with z1 | ⟨z1,e1⟩
  ·obtain ⟨o',g,e',hh,ro',q'⟩:=r.ob a q z1;exact ⟨o',g,d8 e',by rw [dg fun y=>h3 a (by rw [<- y];exact z1)];exact hh,ro'.lf lf,q'⟩
  ·subst e1;exact ⟨b,h,by rw [z1,r.len];exact gB,dk,ro,.inr h2⟩
 ·obtain ⟨k1,k2,k3,k4⟩:=r.pf q (by rw [hw];exact xAs _ hq);refine ⟨by rw [dg (hl q hq)];exact k1,k2,fun a z=>?_,k4⟩;rcases dX z with z1 | ⟨_,e1⟩
  ·exact k3 a z1
  ·exact hl q hq e1
end
structure Rg (B:Bs) (W:Wd) (σ:Sg) (τ:St):Prop where
 l:τ.length=σ.length
 v:∀ i v,nth σ i=some v->∃ u,τ[i]?=some (some u)/\Rv B W v u
theorem Rg.mono {W W':Wd} {σ:Sg} {τ:St} (r:Rg B W σ τ) (le:W.Le W'):Rg B W' σ τ:=⟨r.l,fun i v h=>let ⟨u,e,q⟩:=r.v i v h;⟨u,e,q.mono le⟩⟩
theorem fT:∀ {σ:Sg} {i:Nat} {v:U},(put σ i v).length=σ.length
 | [],_,_=>rfl
 | _::_,0,_=>rfl
 | _::r,i+1,v=>by show (put r i v).length+1=r.length+1;rw [fT]
theorem kH:∀ {σ:Sg} {i j:Nat} {v w:U},nth (put σ i v) j=some w->(i=j/\w=v/\i<σ.length)\/(i≠j/\nth σ j=some w)
 | [],_,_,_,_,h=>by cases h
 | _::_,0,0,_,_,h=>.inl ⟨rfl,(xB3 h).symm,by simp⟩
 | _::_,0,_+1,_,_,h=>.inr ⟨by lia,h⟩
 | _::_,_+1,0,_,_,h=>.inr ⟨by lia,h⟩
 | _::r,i+1,j+1,v,w,h=>by
  rcases kH (σ:=r) (i:=i) (j:=j) h with ⟨a,b,c⟩ | ⟨a,b⟩
  ·exact .inl ⟨by lia,b,by simp;lia⟩
  ·exact .inr ⟨by lia,b⟩
theorem Rg.put {W:Wd} {σ:Sg} {τ:St} {i:Nat} {v:U} {u:V} (r:Rg B W σ τ) (q:Rv B W v u):Rg B W (put σ i v) (τ.set i (some u)):=by
 refine ⟨by rw [List.length_set,fT];exact r.l,fun j w h=>?_⟩;rcases kH h with ⟨rfl,rfl,hl⟩ | ⟨a,b⟩
 ·exact ⟨u,by rw [List.getElem?_set_self (by rw [r.l];exact hl)],q⟩
 ·obtain ⟨u',e,q'⟩:=r.v j w b;exact ⟨u',by rw [List.getElem?_set_ne a];exact e,q'⟩
structure RX (B:Bs) (W:Wd) (x:Xc) (S:So) (C:Value) (dx:Option Addr) (H:Hp):Prop where
 s:RS B W S H
 c:∃ c,B.mg x.cls=some (.ref c)/\C = .ref c
 f:(x.fs=[]/\dx=none)\/∃ d vs,dx=some d/\H d=some (.xd vs)/\Rn B W x.fs vs
noncomputable def XL (B:Bs) (W:Wd) (E:XK):Kx Prop:=fun x S=>∀ W' C dx H,W.Le W'->RX B W' x S C dx H->E C dx H
theorem XL.up {W W':Wd} {E:XK} {x:Xc} {S:So} (le:W.Le W') (h:XL B W E x S):XL B W' E x S:=fun W2 C dx H le2=>h W2 C dx H (le.trans le2)
noncomputable def VL (B:Bs) (W:Wd) (Q:VK):Kv Prop:=fun v S=>∀ W' u H,W.Le W'->RS B W' S H->Rv B W' v u->Q u H
noncomputable def AL (B:Bs) (W:Wd) (Q:List V->Hp->Prop):List U->So->Prop:=fun v S=>∀ W' u H,W.Le W'->RS B W' S H->Rvs B W' v u->Q u H
noncomputable def BL (B:Bs) (W:Wd) (Q:Bool->Hp->Prop):Bool->So->Prop:=fun b S=>∀ W' H,W.Le W'->RS B W' S H->Q b H
noncomputable def NL (B:Bs) (W:Wd) (Q:St->Hp->Prop):Sg->So->Prop:=fun σ S=>∀ W' τ H,W.Le W'->RS B W' S H->Rg B W' σ τ->Q τ H
section
variable (B) (G:Gx Prop) (Ex:St->XK)
noncomputable def LE (c:TEx Prop):TE:=fun τ H Q=>∃ W σ S,RS B W S H/\Rg B W σ τ/\c G σ S (XL B W (Ex τ)) (VL B W Q)
noncomputable def LA (c:TAx Prop):TA:=fun τ H Q=>∃ W σ S,RS B W S H/\Rg B W σ τ/\c G σ S (XL B W (Ex τ)) (AL B W Q)
noncomputable def LT (c:TTx Prop):TT:=fun τ H Q=>∃ W σ S,RS B W S H/\Rg B W σ τ/\c G σ S (XL B W (Ex τ)) (BL B W Q)
noncomputable def LEe (W:Wd) (D:Ends):Ee Prop where
 nx:=NL B W D.nx
 rt:=VL B W D.rt
 bk:=NL B W D.bk
 ct:=NL B W D.ct
 x:=fun x σ S=>∀ W' τ C dx H,W.Le W'->RX B W' x S C dx H->Rg B W' σ τ->Ex τ C dx H
noncomputable def LS (c:TSx Prop):TS:=fun D τ H=>∃ W σ S,RS B W S H/\Rg B W σ τ/\c G σ S (LEe B Ex W D)
end
structure MonE (G:Gx Prop) (c:TEx Prop):Prop where
 m:∀ {σ S} {x x':Kx Prop} {k k':Kv Prop},(∀ e S,x e S->x' e S)->(∀ v S,k v S->k' v S)->c G σ S x k->c G σ S x' k'
structure MonA (G:Gx Prop) (c:TAx Prop) (n:Nat):Prop where
 m:∀ {σ S} {x x':Kx Prop} {k k':List U->So->Prop},(∀ e S,x e S->x' e S)->(∀ v S,v.length=n->k v S->k' v S)->c G σ S x k->c G σ S x' k'
structure MonT (G:Gx Prop) (c:TTx Prop):Prop where
 m:∀ {σ S} {x x':Kx Prop} {k k':Bool->So->Prop},(∀ e S,x e S->x' e S)->(∀ v S,k v S->k' v S)->c G σ S x k->c G σ S x' k'
structure EeLe (E E':Ee Prop):Prop where
 nx:∀ σ S,E.nx σ S->E'.nx σ S
 rt:∀ v S,E.rt v S->E'.rt v S
 bk:∀ σ S,E.bk σ S->E'.bk σ S
 ct:∀ σ S,E.ct σ S->E'.ct σ S
 x:∀ e σ S,E.x e σ S->E'.x e σ S
structure MonS (G:Gx Prop) (c:TSx Prop):Prop where
 m:∀ {σ S} {E E':Ee Prop},EeLe E E'->c G σ S E->c G σ S E'
structure Box (p:Prop):Prop where
 h:p
def prP (up:List (Str×Str)) (p:Pm) (vs:List U) (S:So) (k:Kv Prop):Prop:=match pr up p vs S with
 | .ok v S1=>k v S1
 | .stuck=>False
structure MonG (up:List (Str×Str)) (G:Gx Prop):Prop where
 fail:G.fail=False
 prim:∀ p vs S x k,G.prim p vs S x k=Box (prP up p vs S k)
 br:∀ b p q,G.br b p q=Box (if b=true then p () else q ())
 call:∀ {i vs S} {x x':Kx Prop} {k k':Kv Prop},(∀ e S,x e S->x' e S)->(∀ v S,k v S->k' v S)->G.call i vs S x k->G.call i vs S x' k'
section
variable {up:List (Str×Str)} {G:Gx Prop} (g:MonG up G)
include g
theorem MonG.pm {p:Pm} {vs:List U} {S:So} {x x':Kx Prop} {k k':Kv Prop} (hk:∀ v S,k v S->k' v S) (h:G.prim p vs S x k):G.prim p vs S x' k':=by
 rw [g.prim] at h ⊢;obtain ⟨h⟩:=h;refine ⟨?_⟩;unfold prP at h ⊢;cases e:pr up p vs S with
 | ok v S1=>rw [e] at h;exact hk _ _ h
 | stuck=>rw [e] at h;exact h
theorem MonG.pok {p:Pm} {vs:List U} {S:So} {x:Kx Prop} {k:Kv Prop} (h:G.prim p vs S x k):∃ v S1,pr up p vs S = .ok v S1/\k v S1:=by
 rw [g.prim] at h;obtain ⟨h⟩:=h;unfold prP at h;cases e:pr up p vs S with
 | ok v S1=>rw [e] at h;exact ⟨v,S1,rfl,h⟩
 | stuck=>rw [e] at h;exact h.elim
theorem MonG.bm {b:Bool} {p q p' q':Unit->Prop} (hp:p ()->p' ()) (hq:q ()->q' ()) (h:G.br b p q):G.br b p' q':=by
 rw [g.br] at h ⊢;obtain ⟨h⟩:=h;refine ⟨?_⟩;cases b
 ·exact hq h
 ·exact hp h
theorem MonG.bk {b:Bool} {p q:Unit->Prop} (h:G.br b p q):if b=true then p () else q ():=by
 rw [g.br] at h;exact h.h
theorem MonG.no (h:G.fail):False:=by rw [g.fail] at h;exact h
theorem mV {i:Nat}:MonE G (cV i):=⟨fun hx hk h=>by
 unfold cV at h ⊢;split at h
 ·exact hk _ _ h
 ·exact h⟩
theorem mC {u:U}:MonE G (cC u):=⟨fun hx hk h=>hk _ _ h⟩
theorem mAN:MonA G aN 0:=⟨fun hx hk h=>hk _ _ rfl h⟩
theorem mAC {e:TEx Prop} {r:TAx Prop} {n:Nat} (a:MonE G e) (b:MonA G r n):MonA G (aC e r) (n+1):=⟨fun hx hk h=>a.m hx (fun v S1=>b.m hx fun vs S2 hl=>hk _ _ (by simp [hl])) h⟩
theorem mP {p:Pm} {as:TAx Prop} {n:Nat} (a:MonA G as n):MonE G (cP p as):=⟨fun hx hk h=>a.m hx (fun vs S1 _ h1=>g.pm hk h1) h⟩
theorem mT {as:TAx Prop} {n:Nat} (a:MonA G as n):MonE G (cT as):=⟨fun hx hk h=>a.m hx (fun vs S1 _ h1=>hk _ _ h1) h⟩
theorem mF {i:Nat} {as:TAx Prop} {ds:List U} {n:Nat} (a:MonA G as n):MonE G (cF i as ds):=⟨fun hx hk h=>a.m hx (fun vs S1 _ h1=>g.call hx hk h1) h⟩
theorem mM {C m:Str} {i:Nat} {o:TEx Prop} {as:TAx Prop} {ds:List U} {n:Nat} (b:MonE G o) (a:MonA G as n):MonE G (cM C m i o as ds):=⟨fun hx hk h=>b.m hx (fun v S1 h1=>g.pm (fun w S2 h2=>a.m hx (fun vs S3 _ h3=>g.call hx hk h3) h2) h1) h⟩
theorem mK {C:Str} {i:Nat} {as:TAx Prop} {ds:List U} {n:Nat} (a:MonA G as n):MonE G (cK C i as ds):=⟨fun hx hk h=>a.m hx (fun vs S1 _ h1=>g.pm (fun w S2 h2=>g.call (fun _ _ h=>h) (fun r S3 h3=>by cases r <;> first | exact hk _ _ h3 | exact h3) h2) h1) h⟩
theorem mBM {T:String} {p:Pm} {o:TEx Prop} {as:TAx Prop} {n:Nat} (b:MonE G o) (a:MonA G as n):MonE G (cBM T p o as):=⟨fun hx hk h=>b.m hx (fun v S1 h1=>g.pm (fun w S2 h2=>a.m hx (fun vs S3 _ h3=>g.pm hk h3) h2) h1) h⟩
theorem mD {fs:List (Str×Nat×Nat)} {f:TEx Prop} {as:TAx Prop} {n:Nat} (b:MonE G f) (a:MonA G as n):MonE G (cD fs f as):=⟨fun hx hk h=>b.m hx (fun v S1 h1=>by
 cases v <;> first | exact h1 | skip
 dsimp only at h1 ⊢;split at h1
 ·exact a.m hx (fun vs S2 _ h2=>g.call hx hk h2) h1
 ·exact h1) h⟩
theorem mB {e:TEx Prop} (a:MonE G e):MonT G (tB e):=⟨fun hx hk h=>a.m hx (fun v S1 h1=>by cases v <;> first | exact hk _ _ h1 | exact h1) h⟩
theorem mCI {e:TEx Prop} (a:MonE G e):MonE G (cI e):=⟨fun hx hk h=>a.m hx (fun v S1 h1=>by cases v <;> first | exact hk _ _ h1 | exact h1) h⟩
theorem mNt {t:TTx Prop} (a:MonT G t):MonT G (tNt t):=⟨fun hx hk h=>a.m hx (fun v S1 h1=>hk _ _ h1) h⟩
theorem mAn {t u:TTx Prop} (a:MonT G t) (b:MonT G u):MonT G (tAn t u):=⟨fun hx hk h=>a.m hx (fun v S1 h1=>g.bm (b.m hx hk) (hk _ _) h1) h⟩
theorem mOr {t u:TTx Prop} (a:MonT G t) (b:MonT G u):MonT G (tOr' t u):=⟨fun hx hk h=>a.m hx (fun v S1 h1=>g.bm (hk _ _) (b.m hx hk) h1) h⟩
theorem mCB {t:TTx Prop} (a:MonT G t):MonE G (cB t):=⟨fun hx hk h=>a.m hx (fun v S1 h1=>hk _ _ h1) h⟩
theorem mIf {t:TTx Prop} {e f:TEx Prop} (a:MonT G t) (b:MonE G e) (c:MonE G f):MonE G (cIf t e f):=⟨fun hx hk h=>a.m hx (fun v S1 h1=>g.bm (b.m hx hk) (c.m hx hk) h1) h⟩
theorem mCh {p q:Pm} {a b c:TEx Prop} (ha:MonE G a) (hb:MonE G b) (hc:MonE G c):MonT G (tCh p q a b c):=⟨fun hx hk h=>ha.m hx (fun v S1=>hb.m hx fun w S2=>g.pm fun r S3 h3=>by
 cases r <;> first | exact h3 | exact g.bm (hc.m hx fun z S4=>g.pm fun r2 S5 h5=>by cases r2 <;> first | exact hk _ _ h5 | exact h5) (hk _ _) h3) h⟩
theorem mN:MonS G sN:=⟨fun l h=>l.nx _ _ h⟩
omit g in
theorem EeLe.sq {E E':Ee Prop} {nx nx':Sg->So->Prop} (l:EeLe E E') (h:∀ σ S,nx σ S->nx' σ S):EeLe (sqE E nx) (sqE E' nx'):=⟨h,l.rt,l.bk,l.ct,l.x⟩
omit g in
theorem EeLe.lp {E E':Ee Prop} {nx nx':Sg->So->Prop} (l:EeLe E E') (h:∀ σ S,nx σ S->nx' σ S):EeLe (lpE E nx) (lpE E' nx'):=⟨h,l.rt,l.nx,h,l.x⟩
theorem mQ {t u:TSx Prop} (a:MonS G t) (b:MonS G u):MonS G (sQ t u):=⟨fun l h=>a.m (l.sq fun _ _=>b.m l) h⟩
theorem mA {i:Nat} {e:TEx Prop} (a:MonE G e):MonS G (sA i e):=⟨fun l h=>a.m (fun _ _=>l.x _ _ _) (fun _ _=>l.nx _ _) h⟩
theorem mU {is:List Nat} {e:TEx Prop} (a:MonE G e):MonS G (sU is e):=⟨fun l h=>a.m (fun _ _=>l.x _ _ _) (fun _ _=>g.pm fun w S h=>by cases w <;> first | exact l.nx _ _ h | exact h) h⟩
theorem mSE {e:TEx Prop} (a:MonE G e):MonS G (sE e):=⟨fun l h=>a.m (fun _ _=>l.x _ _ _) (fun _ _=>l.nx _ _) h⟩
theorem mR {e:TEx Prop} (a:MonE G e):MonS G (sR e):=⟨fun l h=>a.m (fun _ _=>l.x _ _ _) (fun _ _=>l.rt _ _) h⟩
theorem mRN:MonS G sRN:=⟨fun l h=>l.rt _ _ h⟩
theorem mI {t:TTx Prop} {u v:TSx Prop} (a:MonT G t) (b:MonS G u) (c:MonS G v):MonS G (sI t u v):=⟨fun l h=>a.m (fun _ _=>l.x _ _ _) (fun _ _=>g.bm (b.m l) (c.m l)) h⟩
theorem mSP {p:Pm} {e:TEx Prop} {os:TAx Prop} {n:Nat} (a:MonE G e) (b:MonA G os n):MonS G (sP p e os):=⟨fun l h=>a.m (fun _ _=>l.x _ _ _) (fun _ _=>b.m (fun _ _=>l.x _ _ _) fun _ _ _=>g.pm fun _ _=>l.nx _ _) h⟩
theorem mTgt {is:List Nat} {one:Bool} {v:U} {σ:Sg} {k k':Sg->Prop} (hk:∀ σ,k σ->k' σ) (h:tgt is one G v σ k):tgt is one G v σ k':=by
 unfold tgt at h ⊢;cases one with
 | true=>exact hk _ h
 | false=>cases v with
  | tup vs =>
   dsimp only at h ⊢;cases e:Nat.beq vs.length is.length with
   | true=>rw [e] at h;exact hk _ h
   | false=>rw [e] at h;exact (g.no h).elim
  | _=>exact (g.no h).elim
omit g in
theorem mFor {b b':U->Sg->So->(Sg->So->Prop)->Prop} (hb:∀ v σ S k k',(∀ σ S,k σ S->k' σ S)->b v σ S k->b' v σ S k'):∀ {vs:List U} {σ:Sg} {S:So} {k k':Sg->So->Prop},(∀ σ S,k σ S->k' σ S)->forK vs b σ S k->forK vs b' σ S k'
 | [],_,_,_,_,hk,h=>hk _ _ h
 | v::vs,_,_,_,_,hk,h=>hb _ _ _ _ _ (fun _ _ z=>mFor hb hk z) h
theorem mSF {it:TEx Prop} {is:List Nat} {one:Bool} {b:TSx Prop} (a:MonE G it) (hb:MonS G b):MonS G (sF it is one b):=⟨fun l h=>a.m (fun _ _=>l.x _ _ _) (fun v S1 h1=>by
 cases v <;> first | exact h1 | (dsimp only at h1 ⊢;refine mFor ?_ l.nx h1;exact fun _ _ _ _ _ hk=>mTgt g fun _=>hb.m (l.lp hk))) h⟩
theorem mSW {t:TTx Prop} {b:TSx Prop} (a:MonT G t) (hb:MonS G b):MonS G (sW t b):=⟨fun {σ S E E'} l h=>by
 unfold sW at h ⊢;generalize G.fuel=n at h ⊢;induction n generalizing σ S with
 | zero=>exact h
 | succ n ih=>exact a.m (fun _ _=>l.x _ _ _) (fun c S1=>g.bm (hb.m (l.lp fun _ _=>ih)) (l.nx _ _)) h⟩
omit g in
theorem mLc {b b':U->So->(Option U->So->Prop)->Prop} (hb:∀ v S k k',(∀ o S,k o S->k' o S)->b v S k->b' v S k'):∀ {vs ys:List U} {S:So} {k k':Kv Prop},(∀ v S,k v S->k' v S)->lcK G b vs ys S k->lcK G b' vs ys S k'
 | [],_,_,_,_,hk,h=>hk _ _ h
 | v::vs,_,_,_,_,hk,h=>hb _ _ _ _ (fun o S h2=>match o,h2 with
  | some _,h2=>mLc hb hk h2
  | none,h2=>mLc hb hk h2) h
theorem mL {it:TEx Prop} {is:List Nat} {one:Bool} {n:Nat} {cs:List Nat} {t:Option (TTx Prop)} {e:TEx Prop} (a:MonE G it) (hb:∀ u,t=some u->MonT G u) (he:MonE G e):MonE G (cL it is one n cs t e):=⟨fun hx hk h=>a.m hx (fun v S1 h1=>by
 cases v with
 | tup vs =>
  refine g.bm (fun h1=>?_) (fun h1=>h1) h1;refine mLc ?_ hk h1;refine fun _ _ _ _ ho=>mTgt g ?_;intro σ z;cases t with
  | none=>exact he.m (fun _ _ h=>h) (fun _ _=>ho _ _) z
  | some u=>exact (hb u rfl).m (fun _ _ h=>h) (fun c S3=>g.bm (he.m (fun _ _ h=>h) fun _ _=>ho _ _) (ho _ _)) z
 | _=>exact h1) h⟩
end
end Fx
namespace L2
open PySem PySem.Spec PyProof.Rows
section
variable {X:Cx}
theorem j9:∀ {ws:List Str} {us:List Value},Vals (ws.map V.str) us->StrsAre us ws
 | [],_,h=>by cases h;exact .nil
 | w::ws,_,h=>by
  cases h with
  | cons a b =>
   obtain ⟨t,rfl⟩:=a;exact .cons w t (j9 b)
noncomputable def rJoin (K:xFr):V->List V->Hp->VK->Prop:=fun x vs H Q=>∃ (sep:Str) (l:Addr) (ws:List Str),x = .str sep/\vs=[.ref l]/\SqL K H l (ws.map V.str)/\(ws.map (·.length)).sum+ws.length * sep.length<=16777216/\Q (.str (Txt.join sep ws)) H
theorem qC:MtR X "str.join" (rJoin X.K):=by
 intro pins s σ H x vs v us Q I rx rv h;obtain ⟨sep,l,ws,rfl,rfl,hS,hb,q⟩:=h;obtain ⟨t,rfl⟩:=rx;obtain ⟨u,rfl,ru⟩:=rv.one;obtain rfl:u=Value.ref l:=ru;obtain ⟨its,r1,t1,z1⟩:=I.list hS;refine join_list t1.isList (ys:=ws) (by simpa using j9 r1) hb fun t' k=>?_;exact ⟨.str _,H,I.tok _,⟨_,rfl⟩,q⟩
noncomputable def cAll (K:xFr):List V->Hp->VK->Prop:=fun xs H Q=>∃ (p:Addr) (bs:List Bool),xs=[.ref p]/\SqL K H p (bs.map V.bl)/\∀ b:Bool,b=bs.all id->Q (.bl b) H
theorem mG (bs:List Bool):(List.range bs.length).all (fun i=>bs.getD i true)=bs.all id:=by
 rw [Bool.eq_iff_iff,List.all_eq_true,List.all_eq_true];constructor
 ·intro h b hb;obtain ⟨i,hi,rfl⟩:=List.getElem_of_mem hb;have:=h i (List.mem_range.mpr hi);rw [xBz,xAk hi] at this;exact this
 ·intro h i hi;have hi:=List.mem_range.mp hi;rw [xBz,xAk hi];exact h _ (List.getElem_mem hi)
theorem u9 (hc:X.calm=true):CallR X (.builtin "all") (cAll X.K):=by
 intro pins s σ H xs us Q I r h;obtain ⟨p,bs,rfl,hS,q⟩:=h;obtain ⟨u,rfl,ru⟩:=vals1 r;obtain rfl:u=Value.ref p:=ru;obtain ⟨its,r1,t1,z1⟩:=I.list hS;have hl:=r1.length;rw [xAa] at hl;have hlt:p<s.heap.objs.size:=by
  obtain ⟨o,_,e,_⟩:=t1;exact xA1 e
 have hval:∀ (i:Nat) (v:Value),its.toArray[i]?=some v->v=Value.bool (bs.getD i true):=fun i v e=>by
  have e':its[i]?=some v:=by simpa using e
  have hi:i<bs.length:=by rw [hl];exact (xAq.mp e').1
  obtain ⟨u,hu,ru⟩:=r1.get (i:=i) (x:=.bl bs[i]) (by rw [xAw,xAk hi];rfl);rw [e'] at hu;cases hu;rw [xBz,xAk hi];exact ru
 refine call_all_walk (wpAny_pyIter_list t1.isList ?_);refine ⟨s.heap.objs.size,[s.heap.objs.size,p],[s.heap.objs.size],_,_,_,fun i=>bs.getD i true,rfl,Walks.list (A:=X.A.in1) (I.ok.hd hc) s.heap.objs.size p (xA0 hlt) its.toArray,⟨⟨_,xAl _ rfl,rfl,rfl⟩,t1.isList.push _⟩,fun i v s' Q' E' hP hQ=>?_,fun h' tk hk=>?_⟩
 ·rw [hval i v hP];exact wpAny_truthy_bool hQ
 ·refine ⟨.bl _,H,I.kept (t':=tk) fun b o e=>hk b o ?_ (xAf _ e),rfl,q _ ?_⟩
  ·rw [xAm];exact xA0 (xA1 e)
  ·rw [xAp,<- hl];exact mG bs
end
end L2
namespace L2
open PySem PySem.Spec PyProof.Rows
noncomputable def Its (z:Str):It:=⟨fun i _=>i<z.cps.size,fun i H x H'=>H'=H/\∃ c,z.cps[i]?=some c/\x = .str ⟨#[c]⟩,fun i _=>i=z.cps.size⟩
theorem iJ {P:Program} {w:World} {K:xFr} {tg:Expr} (it:Addr) (z:Str) (t:Tok) (ty:String) (hty:["enumerate","zip","dict_itemiterator","dict_reverseitemiterator","odict_iterator","itertools.zip_longest","itertools.pairwise"].contains ty=false)
  (W:∀ A':Around,A'.handled=none->Walks P w A' it [it] [it] z.cps.size (SignAt z) (fun i h=>h.IsStrIter it ty z t i)) (hself:∀ (A:Around) (i:Nat) (s:Shared) (Q:Value->Shared->Prop) (E:Value->Shared->Prop),s.heap.IsStrIter it ty z t i->Q (.ref it) s->wpAny (model P w) A (pyIter (.ref it)) Q E s) :
  Turn P w K tg (Its z) [it] it (fun i h=>h.IsStrIter it ty z t i) where
 mem:=by simp
 obj:=fun i h st b hb=>by
  have e:b=it:=by simpa using hb
  subst e;obtain ⟨o,e,c,d⟩:=st;exact ⟨o,e,fun v z=>by rw [d] at z;cases z⟩
 keep:=fun i h h' st k=>by
  obtain ⟨o,e,r⟩:=st;exact ⟨o,k it (by simp) o e,r⟩
 item:=by
  intro X hP hw hK hc i pins s σ H E I hf st hg;subst hP hw hK;obtain ⟨f0,f1,f2,f3,f4,f5⟩:=hf it (by simp);refine (W X.A (I.ok.hd hc)).item i s _ _ hg st fun v h' tk hv st' kk=>?_;obtain ⟨c,u,hcu,rfl⟩:=hv;have I1:Inv X pins σ H { s with heap:=h',toks:=tk }:=I.turned (fun b o hb e=>kk b o (by simpa using hb) e) f0 f1 f3 f4 f5;obtain ⟨o,e,c',d⟩:=id st';exact ⟨_,rfl,gR (s:={ s with heap:=h',toks:=tk }) e c' d hty ⟨.str ⟨#[c]⟩,H,I1,⟨u,rfl⟩,⟨rfl,c,hcu,rfl⟩,st',fun b hb=>(hf b hb).1⟩⟩
 done:=by
  intro X hP hw hK hc i pins s σ H E I hf st hg;subst hP hw hK;obtain ⟨f0,f1,f2,f3,f4,f5⟩:=hf it (by simp);have hg:i=z.cps.size:=hg;subst hg;exact (W X.A (I.ok.hd hc)).done s _ _ st fun h' tk eb=>⟨rfl,I.turned (t':=tk) (fun b o hb e=>eb b o (by simpa using hb) e) f0 f1 f3 f4 f5⟩
 self:=hself
def nIterStr (x:V) (H:Hp) (R:It->Hp->Prop):Prop:=∃ z:Str,x = .str z/\R (Its z) H
end L2
namespace L2
open PySem PySem.Spec PyProof.Rows
theorem pB:bootBuiltins "zip"=some (.type "zip"):=by decide +kernel
end L2
namespace L2
open PySem PySem.Spec PyProof.Rows
def nGetK (K:xFr) (a:Addr) (y:V) (H:Hp) (Q:VK):Prop:=∃ x v u,y = .str x/\PySem.W.nsIn K a x=some (some u)/\RelV v u/\Q v H
noncomputable def tGetK (K:xFr) (a:Addr) (te:TE):TE:=fun σ H Q=>te σ H fun y H2=>nGetK K a y H2 Q
def KD (w:World) (K:xFr) (a:Addr):Prop:=∃ es n,K.lookup a=some ⟨.type "dict",none,.dict es n,#[]⟩/\PySem.W.KeysLit w.params es.toList/\(a == sysModules)=false
section
variable {X:Cx} {o e:Expr} {te:TE} {a:Addr} {apos cpos:Pos}
theorem qf (d:KD X.w X.K a) (ho:PE X o (tC (.ref a))) (he:PE X e te) (m:M1 X o "get" apos e cpos):PE X (.Call (.Attribute o "get" apos) [e] [] cpos) (tGetK X.K a te):=by
 obtain ⟨es,n,hl,hk,lo⟩:=d;intro pins s σ H Q I h;refine wpAny_Call_method m.base m.few m.line PySem.F.plainAttrs_dict PySem.F.slot_dict_get PySem.F.type_dict_get (thn (ho pins s σ H (fun x H1=>x = .ref a/\te σ H1 fun y H2=>nGetK X.K a y H2 Q) I ⟨rfl,h⟩) fun u s1 zz=>?_);obtain ⟨x,H1,I1,rx,ex,q1⟩:=zz;subst ex;obtain rfl:u=Value.ref a:=rx;have hm1:=PySem.W.mapOf_K (prog:=X.prog) (w:=X.w) (fun b o e=>I1.kIn b o e) hl hk;refine ⟨hm1.typeIs,fun b e=>⟨_,by cases e;exact I1.kIn a _ hl,rfl⟩,?_⟩;rw [m.trees];refine Calls.callWith_builtin rfl (Calls.evalArgs_plain (Calls.spliced_cons (thn (he pins s1 σ H1 _ I1 q1) fun iv s2 ⟨y,H2,I2,ry,q2⟩=>Calls.spliced_nil ?_)));obtain ⟨z,v,u,rfl,hn,rv,q⟩:=q2;obtain ⟨t,rfl⟩:=ry;have hm:=PySem.W.mapOf_K (prog:=X.prog) (w:=X.w) (fun b o e=>I2.kIn b o e) hl hk;refine call_meetsIn PySem.F.slot_dict_get hm.typeIs PySem.F.entry_dict_get (PySem.F.args_dict_get_2 _ _) (meets_dict_get (strKind X.prog X.w) a (strKind_is X.prog X.w z t) lo) ⟨_,hm,?_⟩;rw [PySem.W.find_K hl hn];exact ⟨v,H2,I2.tok _,rv,q⟩
end
end L2
namespace RevA
open PySem PySem.Spec PyProof.Rows
structure ZAp (z TI TO i1 i2:Addr) (f1 f2:List Addr):Prop where
 q1:TI≠z
 q2:TO≠z
 q3:i1≠z
 q4:i2≠z
 q5:TI≠TO
 q6:TI≠i1
 q7:TI≠i2
 q8:TO≠i1
 q9:TO≠i2
 qa:i1≠i2
 n1:z ∉ f1
 n2:z ∉ f2
 n3:TO ∉ f1
 n4:TO ∉ f2
 n5:i1 ∉ f2
 n6:i2 ∉ f1
section
variable {prog:Program} {w:World} {A:Around} {E:Value->Shared->Prop} {s:Shared} {z TI TO i1 i2:Addr} {f1 f2:List Addr} {n1 n2 k:Nat} {P1 P2:Nat->Value->Prop} {S1 S2:Nat->Heap->Prop} {a b:Value}
theorem mH {Q:Value->Shared->Prop} (D1:Draws prog w A i1 f1 n1 P1 S1) (D2:Draws prog w A i2 f2 n2 P2 S2) (D:ZAp z TI TO i1 i2 f1 f2) (hz:IsZip s.heap z TI TO .none) (hTI:IsPair s.heap TI (.ref i1) (.ref i2)) (hTO:IsPair s.heap TO a b)
  (st1:S1 k s.heap) (st2:S2 k s.heap) (l1:k<n1) (l2:k<n2)
  (q:∀ x y h' tk,P1 k x->P2 k y->IsZip h' z TI TO (rawInt s.heap.objs.size)->IsPair h' TO x y->S1 (k+1) h'->S2 (k+1) h'->IsPair h' s.heap.objs.size x y->(∀ c o,c≠z->c≠TO->c≠i1->c≠i2->s.heap.get? c=some o->h'.get? c=some o) ->
   Q (.ref s.heap.objs.size) { s with heap:=h',toks:=tk }):wpAny (model prog w) A (Builtin.«zip.__next__» ⟨[.ref z],[]⟩) (fun fin s'=>∃ v,fin = .done (.ret v)/\Q v s') E s:=by
 obtain ⟨hp,g,d,tk0,os⟩:=s;change wpAny _ _ (field (.ref z) 2 >>= _) _ _ _;refine xAd (wpAny_field hz rfl (x:=.bool false) rfl ?_);change wpAny _ _ (field (.ref z) 3 >>= _) _ _ _;refine xAd (wpAny_field hz rfl (x:=.ref TI) rfl (xAd (wpAny_seqItems hTI rfl ?_)));change wpAny _ _ (Builtin.SmallTypes.ownedTupleIsFree (.ref z) >>= _) _ _ _;refine xAd ?_;unfold Builtin.SmallTypes.ownedTupleIsFree;refine xAd (wpAny_field hz rfl (x:=.none) rfl (xAe ?_));simp only [if_true];refine xAd (wpAny_rule (xAd (wpAny_field hz rfl (x:=.ref TO) rfl ?_)));refine xAd (wpAny_setField_rec hz (by simp) fun h1 z1 b1=>?_)
 replace z1:IsZip h1 z TI TO .ellipsis:=z1
 replace b1:Heap.SameBut z hp h1:=b1
 refine xAd ?_;simp only [List.zipIdx_cons,List.zipIdx_nil,List.forIn_cons,List.forIn_nil];refine xAd (xAd (wpAny_onRaise ?_));change wpAny _ _ (Builtin.SmallTypes.nextOf (.ref i1) >>= _) _ _ _;have t1:S1 k h1:=D1.frame _ _ _ st1 fun c hc o e=>b1.extBut c o (fun y=>D.n1 (y ▸ hc)) e;refine xAd (D1.item k ⟨h1,g,d,tk0,os⟩ _ _ l1 t1 fun x h2 tk2 px t2 b2=>xAe ?_)
 replace b2:Heap.SameBut i1 h1 h2:=b2
 have o2:IsPair h2 TO a b:=b2.extBut _ _ D.q8 (b1.extBut _ _ D.q2 hTO);refine xAd (wpAny_seqItems (s:=⟨h2,g,d,tk2,os⟩) o2 rfl ?_);refine xAd (wpAny_updateSeq_pair (s:=⟨h2,g,d,tk2,os⟩) o2 fun h3 o3 b3=>?_)
 replace o3:IsPair h3 TO x b:=o3
 replace b3:Heap.SameBut TO h2 h3:=b3
 refine xAd (wpAny_letGo (xAe ?_));refine xAd (xAd (wpAny_onRaise ?_));change wpAny _ _ (Builtin.SmallTypes.nextOf (.ref i2) >>= _) _ _ _;have u3:S2 k h3:=D2.frame _ _ _ st2 fun c hc o e=>b3.extBut c o (fun y=>D.n4 (y ▸ hc)) (b2.extBut c o (fun y=>D.n5 (y ▸ hc)) (b1.extBut c o (fun y=>D.n2 (y ▸ hc)) e));have t3:S1 (k+1) h3:=D1.frame _ _ _ t2 fun c hc o e=>b3.extBut c o (fun y=>D.n3 (y ▸ hc)) e;refine xAd (D2.item k ⟨h3,g,d,tk2,os⟩ _ _ l2 u3 fun y h4 tk4 py u4 b4=>xAe ?_)
 replace b4:Heap.SameBut i2 h3 h4:=b4
 have o4:IsPair h4 TO x b:=b4.extBut _ _ D.q9 o3;have t4:S1 (k+1) h4:=D1.frame _ _ _ t3 fun c hc o e=>b4.extBut c o (fun y=>D.n6 (y ▸ hc)) e;refine xAd (wpAny_seqItems (s:=⟨h4,g,d,tk4,os⟩) o4 rfl ?_);refine xAd (wpAny_updateSeq_pair (s:=⟨h4,g,d,tk4,os⟩) o4 fun h5 o5 b5=>?_)
 replace o5:IsPair h5 TO x y:=o5
 replace b5:Heap.SameBut TO h4 h5:=b5
 refine xAd (wpAny_letGo (xAe (xAe ?_)));have t5:S1 (k+1) h5:=D1.frame _ _ _ t4 fun c hc o e=>b5.extBut c o (fun y=>D.n3 (y ▸ hc)) e;have u5:S2 (k+1) h5:=D2.frame _ _ _ u4 fun c hc o e=>b5.extBut c o (fun y=>D.n4 (y ▸ hc)) e;refine xAd (wpAny_seqItems (s:=⟨h5,g,d,tk4,os⟩) o5 rfl ?_);refine xAd (wpAny_newTuple ?_);have sz:h5.objs.size=hp.objs.size:=by rw [b5.1,b4.1,b3.1,b2.1,b1.1]
 have z5:IsZip h5 z TI TO .ellipsis:=b5.extBut _ _ D.q2.symm (b4.extBut _ _ D.q4.symm (b3.extBut _ _ D.q2.symm (b2.extBut _ _ D.q3.symm z1)));have kk:∀ c o,c≠z->c≠TO->c≠i1->c≠i2->hp.get? c=some o->h5.get? c=some o:=fun c o c1 c2 c3 c4 e=>b5.extBut _ _ c2 (b4.extBut _ _ c4 (b3.extBut _ _ c2 (b2.extBut _ _ c3 (b1.extBut _ _ c1 e))));have zlt:z<h5.objs.size:=xA1 z5;change wpAny _ _ (Builtin.SmallTypes.ownedTupleHandOut (.ref z) (.ref h5.objs.size) >>= _) _ _ _;refine xAd ?_;unfold Builtin.SmallTypes.ownedTupleHandOut;have z6:IsZip (h5.push { cls:=.type "tuple",data:=.seq #[x,y] }) z TI TO .ellipsis:=xAf _ z5;refine xAd (wpAny_setField_rec z6 (by simp) fun h7 z7 b7=>?_)
 replace z7:IsZip h7 z TI TO (rawInt h5.objs.size):=z7
 refine wpAny_setField_rec z7 (by simp) fun h8 z8 b8=>?_
 replace z8:IsZip h8 z TI TO (rawInt h5.objs.size):=z8
 replace b7:Heap.SameBut z (h5.push { cls:=.type "tuple",data:=.seq #[x,y] }) h7:=b7
 replace b8:Heap.SameBut z h7 h8:=b8
 have up:∀ c o,c≠z->h5.get? c=some o->h8.get? c=some o:=fun c o c1 e=>b8.extBut _ _ c1 (b7.extBut _ _ c1 (xAf _ e));have T8:IsPair h8 h5.objs.size x y:=b8.extBut _ _ (Nat.ne_of_gt zlt) (b7.extBut _ _ (Nat.ne_of_gt zlt) (xAl _ rfl));rw [sz] at z8 T8;refine xAe ⟨_,rfl,?_⟩;change Q (.ref h5.objs.size) _;rw [sz];exact q x y h8 tk4 px py z8 (up _ _ D.q2 o5) (D1.frame _ _ _ t5 fun c hc o e=>up c o (fun y=>D.n1 (y ▸ hc)) e) (D2.frame _ _ _ u5 fun c hc o e=>up c o (fun y=>D.n2 (y ▸ hc)) e) T8 fun c o c1 c2 c3 c4 e=>up c o c1 (kk c o c1 c2 c3 c4 e)
theorem mJ {Q:Fin->Shared->Prop} (D1:Draws prog w A i1 f1 n1 P1 S1) (D:ZAp z TI TO i1 i2 f1 f2) (hz:IsZip s.heap z TI TO .none) (hTI:IsPair s.heap TI (.ref i1) (.ref i2)) (st1:S1 n1 s.heap)
  (q:∀ h' e,(∀ c o,c≠z->c≠TO->c≠i1->c≠i2->s.heap.get? c=some o->h'.get? c=some o)->(∃ o,h'.get? e=some o/\o.cls = .type "StopIteration")->E (.ref e) { s with heap:=h' }) :
  wpAny (model prog w) A (Builtin.«zip.__next__» ⟨[.ref z],[]⟩) Q E s:=by
 change wpAny _ _ (field (.ref z) 2 >>= _) _ _ _;refine xAd (wpAny_field hz rfl (x:=.bool false) rfl ?_);change wpAny _ _ (field (.ref z) 3 >>= _) _ _ _;refine xAd (wpAny_field hz rfl (x:=.ref TI) rfl (xAd (wpAny_seqItems hTI rfl ?_)));change wpAny _ _ (Builtin.SmallTypes.ownedTupleIsFree (.ref z) >>= _) _ _ _;refine xAd ?_;unfold Builtin.SmallTypes.ownedTupleIsFree;refine xAd (wpAny_field hz rfl (x:=.none) rfl (xAe ?_));simp only [if_true];refine xAd (wpAny_rule (xAd (wpAny_field hz rfl (x:=.ref TO) rfl ?_)));refine xAd (wpAny_setField_rec hz (by simp) fun h1 z1 b1=>?_)
 replace z1:IsZip h1 z TI TO .ellipsis:=z1
 refine xAd ?_;simp only [List.zipIdx_cons,List.zipIdx_nil,List.forIn_cons,List.forIn_nil];refine xAd (xAd (wpAny_onRaise ?_));change wpAny _ _ (Builtin.SmallTypes.nextOf (.ref i1) >>= _) _ _ _;have t1:S1 n1 h1:=D1.frame _ _ _ st1 fun c hc o e=>b1.extBut c o (fun y=>D.n1 (y ▸ hc)) e;refine xAd (D1.done { s with heap:=h1 } _ _ t1 fun h2 e b2 he=>?_);obtain ⟨oe,hoe,hce⟩:=he;have z2:IsZip h2 z TI TO .ellipsis:=b2 _ _ D.q3.symm z1;have hez:e≠z:=fun x=>by subst x;rw [z2] at hoe;cases hoe;simp at hce
 exact wpAny_setField_rec z2 (by simp) fun h3 _ b3=>q h3 e (fun c o c1 _ c3 _ x=>b3.extBut _ _ c1 (b2 _ _ c3 (b1.extBut _ _ c1 x))) ⟨oe,b3.extBut _ _ hez hoe,hce⟩
theorem lx {Q:Option Value->Shared->Prop} (D1:Draws prog w A.in1 i1 f1 n1 P1 S1) (D2:Draws prog w A.in1 i2 f2 n2 P2 S2) (D:ZAp z TI TO i1 i2 f1 f2) (hz:IsZip s.heap z TI TO .none) (hTI:IsPair s.heap TI (.ref i1) (.ref i2)) (hTO:IsPair s.heap TO a b)
  (st1:S1 k s.heap) (st2:S2 k s.heap) (l1:k<n1) (l2:k<n2)
  (q:∀ x y h' tk,P1 k x->P2 k y->IsZip h' z TI TO (rawInt s.heap.objs.size)->IsPair h' TO x y->S1 (k+1) h'->S2 (k+1) h'->IsPair h' s.heap.objs.size x y->(∀ c o,c≠z->c≠TO->c≠i1->c≠i2->s.heap.get? c=some o->h'.get? c=some o) ->
   Q (some (.ref s.heap.objs.size)) { s with heap:=h',toks:=tk }):wpAny (model prog w) A (pyNext (.ref z)) Q E s:=by
 have hT:s.TypeIs (.ref z) "zip":=⟨_,hz,rfl⟩
 unfold pyNext;exact xAd (wpAny_attempt (wpAny_callSpecial?_slot (name:=Str.ofString "__next__") hT PySem.F.slot_zip_next (wpAny_call_entry PySem.F.slot_zip_next hT PySem.F.entry_zip_next
  (mH D1 D2 D hz hTI hTO st1 st2 l1 l2 fun x y h' tk r1 r2 r3 r4 r5 r6 r7 r8=>xAe (q x y h' tk r1 r2 r3 r4 r5 r6 r7 r8)) (PySem.F.args_zip_next_1 _))))
theorem ly {Q:Option Value->Shared->Prop} (D1:Draws prog w A.in1 i1 f1 n1 P1 S1) (D:ZAp z TI TO i1 i2 f1 f2) (hz:IsZip s.heap z TI TO .none) (hTI:IsPair s.heap TI (.ref i1) (.ref i2)) (st1:S1 n1 s.heap)
  (q:∀ h',(∀ c o,c≠z->c≠TO->c≠i1->c≠i2->s.heap.get? c=some o->h'.get? c=some o)->Q none { s with heap:=h' }):wpAny (model prog w) A (pyNext (.ref z)) Q E s:=by
 have hT:s.TypeIs (.ref z) "zip":=⟨_,hz,rfl⟩
 unfold pyNext;refine xAd (wpAny_attempt (wpAny_callSpecial?_slot (name:=Str.ofString "__next__") hT PySem.F.slot_zip_next (wpAny_call_entry PySem.F.slot_zip_next hT PySem.F.entry_zip_next (mJ D1 D hz hTI st1 fun h' e hk he=>?_) (PySem.F.args_zip_next_1 _))));obtain ⟨o,ho,hc⟩:=he;exact xAd (wpAny_isInstance (T:="StopIteration") (b:=true) ⟨o,ho,hc⟩ isSubtype_stop (xAe (q _ hk)))
end
def IterTo (v:Value) (o:Obj) (h:Heap):Prop:=∀ (prog:Program) (w:World) (A:Around) (E:Value->Shared->Prop) (s:Shared) (Q:Value->Shared->Prop),s.heap=h->Q (.ref s.heap.objs.size) { s with heap:=s.heap.push o }->wpAny (model prog w) A (pyIter v) Q E s
theorem kO {prog:Program} {w:World} {A:Around} {E:Value->Shared->Prop} {s:Shared} {Q:Value->Shared->Prop} {v:Value} {o:Obj} (i:IterTo v o s.heap) (h:Q (.ref s.heap.objs.size) { s with heap:=s.heap.push o }):wpAny (model prog w) A (pyIter v) Q E s:=i _ _ _ _ _ _ rfl h
noncomputable abbrev zh3 (h:Heap) (o1 o2:Obj):Heap:=((h.push o1).push o2).push { cls:=.type "tuple",data:=.seq #[.ref h.objs.size,.ref (h.push o1).objs.size] }
noncomputable abbrev zh4 (h:Heap) (o1 o2:Obj):Heap:=(zh3 h o1 o2).push { cls:=.type "tuple",data:=.seq #[.none,.none] }
noncomputable abbrev zh5 (h:Heap) (o1 o2:Obj):Heap:=(zh4 h o1 o2).push { cls:=.type "zip",data:=.fields #[.none,.bool false,.bool false,.ref ((h.push o1).push o2).objs.size,.ref (zh3 h o1 o2).objs.size] }
theorem pF (v1 v2:Value) (o1 o2:Obj):Meets (Builtin.«zip.__new__» ⟨[.type "zip",v1,v2],[]⟩) (fun _ R s=>IterTo v1 o1 s.heap/\IterTo v2 o2 (s.heap.push o1)/\R (.ok (.ret (.ref (zh4 s.heap o1 o2).objs.size))) { s with heap:=zh5 s.heap o1 o2 }) :=
 .of_wp fun prog w A R s h=>by
  obtain ⟨hp,g,d,tk,os⟩:=s;obtain ⟨hl1,hl2,h⟩:=h;have hsub:=sub_zip;have j1:IterTo v1 o1 (Shared.heap ⟨hp,g,d,tk,os⟩):=hl1;have j2:IterTo v2 o2 (Shared.heap ⟨hp.push o1,g,d,tk,os⟩):=hl2;wp_walk using kO j1,kO j2
  exact ⟨_,rfl,h⟩
theorem mO {prog:Program} {w:World} {A:Around} {E:Value->Shared->Prop} {s:Shared} {v1 v2:Value} {o1 o2:Obj} {Q:Value->Shared->Prop} (j1:IterTo v1 o1 s.heap) (j2:IterTo v2 o2 (s.heap.push o1))
  (q:∀ h',IsZip h' (s.heap.objs.size+4) (s.heap.objs.size+2) (s.heap.objs.size+3) .none->IsPair h' (s.heap.objs.size+2) (.ref s.heap.objs.size) (.ref (s.heap.objs.size+1))->IsPair h' (s.heap.objs.size+3) .none .none ->
   (o1.isFreed=false->h'.get? s.heap.objs.size=some o1)->(o2.isFreed=false->h'.get? (s.heap.objs.size+1)=some o2)->(∀ c o,s.heap.get? c=some o->h'.get? c=some o)->Q (.ref (s.heap.objs.size+4)) { s with heap:=h' }) :
  wpAny (model prog w) A (call (.type "zip") [v1,v2]) Q E s:=by
 refine callType_new PySem.F.called_zip (by decide) (PySem.F.typeCall_zip_2 _ _) (PySem.F.newCall_zip_2 _ _) (fun obj=>PySem.F.args_object_init_3 obj _ _) PySem.F.entry_zip_new (pF v1 v2 o1 o2) ⟨j1,j2,?_⟩;have e1:(s.heap.push o1).objs.size=s.heap.objs.size+1:=Heap.size_push ..;have e2:((s.heap.push o1).push o2).objs.size=s.heap.objs.size+2:=by rw [Heap.size_push,e1]
 have e3:(zh3 s.heap o1 o2).objs.size=s.heap.objs.size+3:=by rw [Heap.size_push,e2]
 have e4:(zh4 s.heap o1 o2).objs.size=s.heap.objs.size+4:=by rw [Heap.size_push,e3]
 have g5:(zh5 s.heap o1 o2).get? (zh4 s.heap o1 o2).objs.size=some _:=xAl _ rfl;have g4:(zh5 s.heap o1 o2).get? (zh3 s.heap o1 o2).objs.size=some _:=xAf _ (xAl _ rfl);have g3:(zh5 s.heap o1 o2).get? ((s.heap.push o1).push o2).objs.size=some _:=xAf _ (xAf _ (xAl _ rfl));have g2:o2.isFreed=false->(zh5 s.heap o1 o2).get? (s.heap.push o1).objs.size=some o2:=fun f=>xAf _ (xAf _ (xAf _ (xAl _ f)));have g1:o1.isFreed=false->(zh5 s.heap o1 o2).get? s.heap.objs.size=some o1:=fun f=>xAf _ (xAf _ (xAf _ (xAf _ (xAl _ f))));change _/\_;rw [e2,e3,e4] at g5;rw [e1,e2] at g3;rw [e3] at g4;rw [e1] at g2;rw [e4];exact ⟨⟨_,g5,rfl⟩,q _ g5 g3 g4 g1 g2 fun c o x=>xAf _ (xAf _ (xAf _ (xAf _ (xAf _ x))))⟩
end RevA
namespace L2
open PySem PySem.Spec PyProof.Rows RevA
theorem mS {n:Nat} {f1 f2:List Addr} (m1:∀ b∈f1,b=n\/b<n) (m2:∀ b∈f2,b=n+1\/b<n):ZAp (n+4) (n+2) (n+3) n (n+1) f1 f2:=by
 have w1:∀ c:Nat,n<c->c ∉ f1:=fun c hc z=>by
  rcases m1 c z with e | e
  ·exact Nat.ne_of_gt hc e
  ·exact Nat.not_lt_of_lt hc e
 have w2:∀ c:Nat,n<=c->c≠n+1->c ∉ f2:=fun c hc hn z=>by
  rcases m2 c z with e | e
  ·exact hn e
  ·exact Nat.not_lt_of_le hc e
 exact ⟨by simp,by simp,by simp [xA0],by simp,by simp,by simp,by simp,by simp,by simp,by simp,w1 _ (by lia),w2 _ (by lia) (by simp),w1 _ (by lia),w2 _ (by lia) (by simp),w2 _ (xAg _) (by simp),w1 _ (by lia)⟩
end L2
namespace Prg
open PySem PySem.NumText PySem.StrLaws PyProof.Rows L2
section
variable {n:Nat} {sc:List Str} {pl:Int} {P:List Str->D->Prop} {kind:Str} {ds:List D} {i:Nat} {s:Ps} {x:D}
variable (h:0<=pl/\pl<=599)
include h
end
end Prg
namespace L2
open PySem PySem.Spec PyProof.Rows
def nGetK2 (K:xFr) (a:Addr) (y d:V) (H:Hp) (Q:VK):Prop:=∃ x v r,y = .str x/\PySem.W.nsIn K a x=some r/\(∀ u,r=some u->RelV v u)/\(r=none->v=d)/\Q v H
noncomputable def tGetK2 (K:xFr) (a:Addr) (te tf:TE):TE:=fun σ H Q=>te σ H fun y H2=>tf σ H2 fun d H3=>nGetK2 K a y d H3 Q
section
variable {X:Cx} {o e f:Expr} {te tf:TE} {a:Addr} {apos cpos:Pos}
theorem nR (d:KD X.w X.K a) (ho:PE X o (tC (.ref a))) (he:PE X e te) (hf:PE X f tf) (m:M2 X o "get" apos e f cpos):PE X (.Call (.Attribute o "get" apos) [e,f] [] cpos) (tGetK2 X.K a te tf):=by
 obtain ⟨es,n,hl,hk,lo⟩:=d;intro pins s σ H Q I h;refine wpAny_Call_method m.base m.few m.line PySem.F.plainAttrs_dict PySem.F.slot_dict_get PySem.F.type_dict_get (thn (ho pins s σ H (fun x H1=>x = .ref a/\te σ H1 fun y H2=>tf σ H2 fun d H3=>nGetK2 X.K a y d H3 Q) I ⟨rfl,h⟩) fun u s1 zz=>?_);obtain ⟨x,H1,I1,rx,ex,q1⟩:=zz;subst ex;obtain rfl:u=Value.ref a:=rx;have hm1:=PySem.W.mapOf_K (prog:=X.prog) (w:=X.w) (fun b o e=>I1.kIn b o e) hl hk;refine ⟨hm1.typeIs,fun b e=>⟨_,by cases e;exact I1.kIn a _ hl,rfl⟩,?_⟩;rw [m.trees];refine Calls.callWith_builtin rfl (Calls.evalArgs_plain (Calls.spliced_cons (thn (he pins s1 σ H1 _ I1 q1) fun iv s2 ⟨y,H2,I2,ry,q2⟩ =>
  Calls.spliced_cons (thn (hf pins s2 σ H2 _ I2 q2) fun fv s3 ⟨z,H3,I3,rz,q3⟩=>Calls.spliced_nil ?_))))
 obtain ⟨x,v,r,rfl,hn,r1,r2,q⟩:=q3;obtain ⟨t,rfl⟩:=ry;have hm:=PySem.W.mapOf_K (prog:=X.prog) (w:=X.w) (fun b o e=>I3.kIn b o e) hl hk;refine call_meetsIn PySem.F.slot_dict_get hm.typeIs PySem.F.entry_dict_get (PySem.F.args_dict_get_3 _ _ _) (meets_dict_get_default (strKind X.prog X.w) a (strKind_is X.prog X.w x t) lo fv) ⟨_,hm,?_⟩;rw [PySem.W.find_K hl hn];cases r with
 | none=>cases r2 rfl;exact ⟨_,H3,I3.tok _,rz,q⟩
 | some u=>exact ⟨v,H3,I3.tok _,r1 u rfl,q⟩
end
end L2
namespace SetA
open PySem PySem.Spec PySem.SetTable PyProof.Rows
structure UOk (t:SetTable) (n:Nat):Prop where
 msk:t.mask=7
 sz:t.place.size=n
 dm:t.dummies=#[]
 few:n<=4
theorem UOk.fits {t:SetTable} {n:Nat} (h:UOk t n):t.fits n=true:=by
 unfold SetTable.fits SetTable.fill;rw [h.sz,h.msk,h.dm];have:=h.few;simp only [beq_self_eq_true,Bool.true_and,decide_eq_true_eq,xAp,List.length_nil];lia
theorem UOk.full {t:SetTable} {n:Nat} (h:UOk t n):t.tooFull=false:=by
 unfold SetTable.tooFull SetTable.fill;rw [h.sz,h.msk,h.dm];have:=h.few;simp only [decide_eq_false_iff_not,xAp,List.length_nil,ge_iff_le];lia
theorem UOk.fresh (f m:Nat) (led:Bool):UOk (SetTable.fresh f m led) 0:=⟨rfl,rfl,rfl,by decide⟩
theorem UOk.plain {t:SetTable} {n:Nat} (h:UOk t n) (b:Bool):UOk { t with plain:=b } n:=⟨h.msk,h.sz,h.dm,h.few⟩
theorem UOk.new {t:SetTable} {n:Nat} (H:UOk t n) (es:Array (Int×Value)) (hn:es.size=n) (h4:n<1) (h:Int) (x:Value) :
  ∃ p t' wd,layNew t es h x=(insertAt es p (h,x),t',wd,false)/\t'.led=t.led/\UOk t' (n+1):=by
 obtain rfl:n=0:=by lia
 have e1:=H.msk;have e2:t.place=#[]:=Array.eq_empty_of_size_eq_zero H.sz;have e3:=H.dm;obtain rfl:es=#[]:=Array.eq_empty_of_size_eq_zero hn;obtain ⟨mk,pl,dm,fi,le,mo,pn⟩:=t;dsimp only at e1 e2 e3;subst e1 e2 e3;have f:SetTable.freeSlot ⟨7,#[],#[],fi,le,mo,pn⟩ h=some ((SetTable.probeStart ⟨7,#[],#[],fi,le,mo,pn⟩ h).j,false):=rfl;unfold layNew;rw [f];generalize (SetTable.probeStart ⟨7,#[],#[],fi,le,mo,pn⟩ h).j=j;exact ⟨0,⟨7,#[j],#[],fi,le,mo,pn⟩,false,rfl,rfl,rfl,rfl,rfl,by decide⟩
noncomputable def zKey (e:Int×Value):Str:=match e.2 with | .str k _=>k | _=>Str.empty
def ZOk (w:World) (l:List (Int×Value)):Prop:=∀ e∈l,∃ k t,e=(hashStr w k,Value.str k t)
structure ZIn (w:World) (h:Heap) (a:Addr) (es:Array (Int×Value)) (ep:Nat) (t:SetTable) (ks:List Str):Prop where
 ob:h.get? a=some (setObj es ep t)
 el:ZOk w es.toList
 ky:es.toList.map zKey=ks
 nd:ks.Nodup
 tb:UOk t es.size
 ld:t.led=true\/w.params.followText "set-order"=true
def ZetIs (w:World) (h:Heap) (a:Addr) (ks:List Str):Prop:=∃ es ep t,ZIn w h a es ep t ks
theorem ZIn.at' {w:World} {h h':Heap} {a:Addr} {es ep t ks} (S:ZIn w h a es ep t ks) (e:∀ o,h.get? a=some o->h'.get? a=some o):ZIn w h' a es ep t ks:={ S with ob:=e _ S.ob }
theorem ZetIs.at' {w:World} {h h':Heap} {a:Addr} {ks} (S:ZetIs w h a ks) (e:∀ o,h.get? a=some o->h'.get? a=some o):ZetIs w h' a ks:=let ⟨es,ep,t,q⟩:=S;⟨es,ep,t,q.at' e⟩
theorem ZIn.size {w:World} {h:Heap} {a:Addr} {es ep t ks} (S:ZIn w h a es ep t ks):es.size=ks.length:=by
 rw [<- S.ky,xAa,xAh]
section
variable {prog:Program} {w:World} {A:Around} {E:Value->Shared->Prop} {s:Shared} {a:Addr} {es:Array (Int×Value)} {ep:Nat} {t:SetTable} {ks:List Str}
theorem ZOk.elems {l:List (Int×Value)} (h:ZOk w l):ElemsOf (PySem.strKind prog w) l:=by
 intro e he;obtain ⟨k,t,rfl⟩:=h e he;exact ⟨⟨k,by simp [PySem.strKind,Value.isStrOf],rfl⟩,rfl⟩
theorem ZIn.state (S:ZIn w s.heap a es ep t ks) {Q:(Array (Int×Value)×Nat×SetTable)->Shared->Prop} (h:Q (es,ep,t) s):wpAny (model prog w) A (setState a) Q E s :=
 wpAny_setState_of S.ob rfl S.tb.fits h
theorem qN {l:List (Int×Value)} (h:ZOk w l) (k:Str):(∀ i,l.findIdx? (fun e=>(PySem.strKind prog w).is k e.2)=some i->(l.map zKey)[i]?=some k)/\(l.findIdx? (fun e=>(PySem.strKind prog w).is k e.2)=none->k ∉ l.map zKey):=by
 have his:∀ e∈l,(PySem.strKind prog w).is k e.2=true↔zKey e=k:=by
  intro e he;obtain ⟨k',t,rfl⟩:=h e he;simp [PySem.strKind,Value.isStrOf,zKey]
 constructor
 ·intro i hi;obtain ⟨hj,hp,_⟩:=List.findIdx?_eq_some_iff_getElem.mp hi;rw [xAw,xAk hj];have:=(his _ (List.getElem_mem hj)).mp hp;simp [this]
 ·intro hn hm;obtain ⟨e,he,hk⟩:=xA2.mp hm;have h1:=List.findIdx?_eq_none_iff.mp hn e he;have h2:=(his e he).mpr hk;rw [h2] at h1;cases h1
theorem ZIn.stored (S:ZIn w s.heap a es ep t ks) {es':Array (Int×Value)} {t':SetTable} {ks':List Str} (h1:ZOk w es'.toList) (h2:es'.toList.map zKey=ks') (h3:ks'.Nodup) (h4:UOk t' es'.size) (h5:t'.led=true\/w.params.followText "set-order"=true) :
  ZIn w (s.heap.update a (Obj.putSet es' t')) a es' (ep+1) t' ks':=by
 refine ⟨?_,h1,h2,h3,h4,h5⟩;have:=Heap.get?_update_self (Obj.putSet es' t') S.ob (by rw [putSet_of es' t' rfl];rfl);rw [putSet_of es' t' rfl] at this;exact this
theorem ZOk.perm {l l':List (Int×Value)} (h:ZOk w l) (p:l'.Perm l):ZOk w l':=fun e he=>h e (p.mem_iff.mp he)
theorem ZIn.add (S:ZIn w s.heap a es ep t ks) (hb:ks.length<1) {k:Str} {tk:Tok} {Q:Bool->Shared->Prop}
  (h:∀ (h':Heap) (ks':List Str),Heap.SameBut a s.heap h'->ZetIs w h' a ks'->(∀ x,x∈ks'↔x=k\/x∈ks)->ks'.length<=ks.length+1->Q (!decide (k∈ks)) { s with heap:=h' }) :
  wpAny (model prog w) A (setAddHashed a (.str k tk) (hashStr w k)) Q E s:=by
 have hsb:scanBound=4096:=rfl;have hkey:(PySem.strKind prog w).is k (.str k tk)=true:=by simp [PySem.strKind,Value.isStrOf]
 have hel:ElemsOf (PySem.strKind prog w) es.toList:=S.el.elems;unfold setAddHashed setAddHashedIn;refine wpAny_holding (xAd (S.state ?_));dsimp only;rw [byScan_of (x:=.str k tk) rfl (by rw [S.size];lia) hel];simp only [↓reduceIte];unfold setAddByScan;refine xAd (xAd (wpAny_rule ?_));obtain ⟨f1,f2⟩:=qN (prog:=prog) (w:=w) S.el k;rw [S.ky] at f1 f2;refine xAd (wpAny_setScan_of (knd:=PySem.strKind prog w) hkey S.ob rfl S.tb.fits hel ?_);cases hr:es.toList.findIdx? (fun e=>(PySem.strKind prog w).is k e.2) with
 | some j =>
  dsimp only;have hm:k∈ks:=xAc (f1 j hr);refine xAe (xAe ?_);have q:=h s.heap ks (Heap.SameBut.refl a s.heap) ⟨es,ep,t,S⟩ (fun x=>⟨.inr,fun z=>z.elim (fun e=>e ▸ hm) id⟩) (by lia);rw [xBd hm] at q;cases s;exact q
 | none =>
  dsimp only;have hm:k ∉ ks:=f2 hr;obtain ⟨p,t',wd,e,l1,l2⟩:=S.tb.new es rfl (by rw [S.size];exact hb) (hashStr w k) (.str k tk);rw [e];dsimp only;refine xAd (xAe ?_);have hpm:=insertAt_perm es p (hashStr w k,Value.str k tk);rw [Array.toList_push] at hpm;have hsz:(insertAt es p (hashStr w k,Value.str k tk)).size=es.size+1:=gF _ _ _;have hel1:ZOk w (insertAt es p (hashStr w k,Value.str k tk)).toList:=by
   refine ZOk.perm (fun x hx=>?_) hpm;rcases xAj.mp hx with hx | hx
   ·exact S.el x hx
   ·rw [xAm] at hx;exact ⟨k,tk,hx⟩
  have hkp:((insertAt es p (hashStr w k,Value.str k tk)).toList.map zKey).Perm (k::ks):=by
   refine (hpm.map zKey).trans ?_;rw [xAi,S.ky];exact List.perm_append_singleton _ _
  have hnd:(k::ks).Nodup:=xCb.mpr ⟨hm,S.nd⟩;have hz1:(insertAt es p (hashStr w k,Value.str k tk)).size<=sizeLine:=fits_of_scanBound (by rw [hsz,S.size];lia);have fin:∀ (h':Heap) (ks':List Str),Heap.SameBut a s.heap h'->ZetIs w h' a ks'->ks'.Perm (k::ks)->Q true { s with heap:=h' }:=by
   intro h' ks' b1 b2 b3;have q:=h h' ks' b1 b2 (fun x=>by rw [b3.mem_iff,xAv]) (by rw [b3.length_eq,xAo];exact xAg _);rw [decide_eq_false hm] at q;exact q
  have done:∀ t2:SetTable,t2.led=t'.led->UOk t2 (es.size+1)->Q true { s with heap:=s.heap.update a (Obj.putSet (insertAt es p (hashStr w k,Value.str k tk)) t2) }:=fun t2 e1 e2 =>
   fin _ _ (Heap.SameBut.update s.heap a (Obj.putSet (insertAt es p (hashStr w k,Value.str k tk)) t2)) ⟨_,_,_,S.stored hel1 rfl (hkp.nodup_iff.mpr hnd) (by rw [hsz];exact e2) (by rw [e1,l1];exact S.ld)⟩ hkp
  have f0:=l2.full;have f1':∀ b:Bool,({ t' with plain:=b }:SetTable).tooFull=false:=fun b=>(l2.plain b).full;cases hp:t'.plain with
  | true =>
   simp only [↓reduceIte];refine xAd ?_;rw [hashByValue_scannable 8 rfl];refine xAe ?_;cases plainKind (Value.str k tk) with
   | true =>
    simp only [↓reduceIte];refine xAd (wpAny_storeSet_of S.ob rfl ?_ hz1);rw [f0,Bool.and_false];simp only [xAz,↓reduceIte];exact xAe (xAe (done t' rfl l2))
   | false =>
    simp only [xAz,↓reduceIte];refine xAd (wpAny_storeSet_of S.ob rfl ?_ hz1);rw [f1',Bool.and_false];simp only [xAz,↓reduceIte];exact xAe (xAe (done _ rfl (l2.plain _)))
  | false =>
   simp only [xAz,↓reduceIte];refine xAd (xAe ?_);simp only [↓reduceIte];refine xAd (wpAny_storeSet_of S.ob rfl ?_ hz1);rw [f0,Bool.and_false];simp only [xAz,↓reduceIte];exact xAe (xAe (done t' rfl l2))
theorem l0 (led:Bool) (hl:led=true\/w.params.followText "set-order"=true) (h:Heap):ZIn w (h.push (setObj #[] 0 (.fresh 0 0 led))) h.objs.size #[] 0 (.fresh 0 0 led) [] :=
 ⟨xAl _ rfl,fun e he=>absurd he (by simp),rfl,List.nodup_nil,UOk.fresh 0 0 led,hl⟩
end
section
variable {prog:Program} {w:World} {A:Around} {R:Result->Shared->Prop} {I:Addr} {fp wr:List Addr} {G:Array GenState->Array GenState->Prop} {n:Nat} {P:Nat->Value->Prop} {St:Nat->Shared->Prop}
theorem jS (W:WalksS prog w A.in1 I fp wr G n P St) (S:Addr) (hSf:S ∉ fp) (val:Nat->Str) (hval:∀ i v,P i v->∃ t,v = .str (val i) t) (hn:n<=1) :
  ∀ (k i:Nat) (s:Shared) (ks:List Str),n - i=k->i<=n->St i s->ZetIs w s.heap S ks->ks.length<=i->(∀ x,x∈ks↔∃ j,j<i/\val j=x) ->
   (∀ s' ks',Moved (S::wr) G s s'->ZetIs w s'.heap S ks'->(∀ x,x∈ks'↔∃ j,j<n/\val j=x)->R (.ok (.ret .none)) s') ->
   codeAny (model prog w) A (.builtin "set.update.loop" ⟨[.ref S,.ref I],[]⟩) R s:=by
 have hSw:S ∉ wr:=fun h=>hSf (W.sub _ h);have hsu:∀ b∈wr,b∈S::wr:=fun b hb=>xAs _ hb;intro k;induction k with
 | zero =>
  intro i s ks hk hi hst hS hl hm hR;obtain rfl:i=n:=by lia
  refine codeAny_builtin PyProof.Rows.F.entry_set_update_loop ?_;rw [Around.under_plainId PyProof.Rows.F.plain_set_update_loop _];change wpAny _ A.in1 (pyNext (.ref I) >>= _) _ _ s;refine xAd (W.done s _ _ hst fun s' mv=>?_);change wpAny _ A.in1 (ret Value.none) _ _ s';exact xAe (hR s' ks (mv.mono hsu) (hS.at' fun o e=>mv.heap S _ hSw e) hm)
 | succ k ih =>
  intro i s ks hk hi hst hS hl hm hR;have hlt:i<n:=by lia
  refine codeAny_builtin PyProof.Rows.F.entry_set_update_loop ?_;rw [Around.under_plainId PyProof.Rows.F.plain_set_update_loop _];change wpAny _ A.in1 (pyNext (.ref I) >>= _) _ _ s;refine xAd (W.item i s _ _ hlt hst fun v s' hP hst' mv=>?_);obtain ⟨t,rfl⟩:=hval i v hP;have hS1:ZetIs w s'.heap S ks:=hS.at' fun o e=>mv.heap S _ hSw e;change wpAny _ A.in1 (holding [Value.str (val i) t] (setAdd S (.str (val i) t)) >>= _) _ _ s';refine xAd (wpAny_holding ?_);unfold setAdd;refine wpAny_holding ?_;refine xAd ((PySem.strKind prog w).pyHash (k:=val i) (PySem.strKind_is _ _ _ _) ?_);obtain ⟨es,ep,tb,hS1⟩:=hS1;refine ZIn.add (s:={ s' with toks:=s'.toks+1 }) hS1 (by lia) fun h' ks' c1 c2 c3 c4=>?_;refine xAe ⟨plainId_quiet PyProof.Rows.F.plain_set_update_loop _,ih (i+1) _ ks' (by lia) hlt (W.frame _ s' _ _ hst' (Nat.le_succ _) fun b hb o e=>?_) c2 (by lia) (fun x=>?_) fun s'' ks'' mv2 d1 d2=>?_⟩
  ·rw [c1.2 b (fun h:b=S=>hSf (by rw [<- h];exact hb))];exact e
  ·rw [c3,hm];constructor
   ·rintro (rfl | ⟨j,z1,z2⟩)
    ·exact ⟨i,by lia,rfl⟩
    ·exact ⟨j,by lia,z2⟩
   ·rintro ⟨j,z1,z2⟩
    by_cases e:j=i
    ·subst e;exact .inl z2.symm
    ·exact .inr ⟨j,by lia,z2⟩
  ·refine hR s'' ks'' (Moved.trans W.gtrans ((mv.mono hsu).then_heap (Nat.le_succ _) fun b o hb e=>?_) mv2) d1 d2;rw [c1.2 b (fun h:b=S=>hb (by rw [h];exact xAr))];exact e
end
section
variable {prog:Program} {w:World} {A:Around} {E:Value->Shared->Prop} {s:Shared}
theorem set_tupleZ {l:Addr} {items:Array Value} {ns:List Str} {Q:Value->Shared->Prop}
  (hh:A.handled=none) (hl:s.heap.IsTuple l items) (hlen:items.size=ns.length) (hi:∀ (i:Nat) (v:Value),items[i]?=some v->∃ t,v = .str (ns.getD i Str.empty) t) (hb:ns.length<=1)
  (h:∀ (h':Heap) (tk:Nat) (ks:List Str),ZetIs w h' s.heap.objs.size ks->(∀ x,x∈ks↔x∈ns) ->
   (∀ b o,s.heap.get? b=some o->h'.get? b=some o)->s.toks<=tk->Q (.ref s.heap.objs.size) { s with heap:=h',toks:=tk }) :
  wpAny (model prog w) A (call (.type "set") [.ref l]) Q E s:=by
 obtain ⟨c,tl,hmro⟩:=PySem.F.called_set.mro;have hmade:=PySem.F.called_set.made;have hsub:=PySem.F.called_set.sub;refine wpAny_call (codeAny_of_tree ?_);change wpAny _ _ (callAny (.type "set") _) _ _ _;refine xAe ⟨Code.quiet_builtin _ (by decide +kernel),codeAny_builtin PySem.F.entry_type_call ?_⟩;rw [Around.under_plain (weight_type_call_type "set" [.ref l] []) rfl];have q1:=PySem.F.called_set.notType;have q2:=PySem.F.called_set.canCreate;have q3:=PySem.F.typeCall_set_1 (.ref l);repeat (any_goals (first | assumption | wp_step))
 refine codeAny_mono (qD (.ref l) (E:=E) (Q₁:=fun obj s₁=>∃ led:Bool,(led=true\/w.params.followText "set-order"=true)/\obj = .ref s.heap.objs.size/\s₁={ s with heap:=s.heap.push (setObj #[] 0 (.fresh 0 0 led)) }) fun led hld=>⟨led,hld,rfl,rfl⟩) fun r s₁ hr=>?_;cases r with
 | error e=>exact hr
 | ok fl =>
  cases fl with
  | ret obj =>
   obtain ⟨led,hld,rfl,rfl⟩:=hr;have P0:=l0 (w:=w) led hld s.heap;have hT:Shared.TypeIs { s with heap:=s.heap.push (setObj #[] 0 (.fresh 0 0 led)) } (.ref s.heap.objs.size) "set":=⟨_,P0.ob,rfl⟩
   have hli:=PySem.F.called_set.init.lookup;have hbi:=PySem.F.called_set.init.bind (.ref s.heap.objs.size);repeat (any_goals (first | assumption | wp_step))
   refine codeAny_mono (codeAny_call_builtin (R:=wants (fun r s₂=>r = .none/\∃ h' tk ks,s₂={ s with heap:=h',toks:=tk }/\ZetIs w h' s.heap.objs.size ks/\(∀ x,x∈ks↔x∈ns) /\
     (∀ b o,s.heap.get? b=some o->h'.get? b=some o)/\s.toks<=tk) E) PySem.F.called_set.init.plain PySem.F.entry_set_init (check_set_init_1 hT ?_)) fun r₂ s₂ hr₂=>?_
   ·obtain ⟨ol,hol,hcl,nl,hdl⟩:=hl;obtain ⟨ocls,odict,odata,oslots⟩:=ol;simp only at hcl hdl;subst hcl;subst hdl;have hol1:(s.heap.push (setObj #[] 0 (.fresh 0 0 led))).get? l=some { cls:=.type "tuple",dict:=odict,data:=.seq items nl,slots:=oslots }:=xAf _ hol;have q4:=PySem.F.sub_tuple_set;have q5:=PySem.F.sub_tuple_frozenset;have q6:(Value.type "tuple" == Value.type "dict")=false:=by decide
    have hl1:(s.heap.push (setObj #[] 0 (.fresh 0 0 led))).IsTuple l items:=⟨_,hol1,rfl,nl,rfl⟩
    unfold Builtin.«set.__init__» noKeywords Builtin.Frozenset.updateFrom;generalize hPI:pyIter=PI;wp_walk
    subst hPI;refine wpAny_pyIter_tuple hl1 ?_;refine xAd (wpAny_runValue ?_);have hlS:l<s.heap.objs.size:=xA1 hol;have hh3:A.in1.in1.in1.handled=none:=by simp [hh]
    have hneI:l≠(s.heap.push (setObj #[] 0 (.fresh 0 0 led))).objs.size:=by
     rw [Heap.size_push];exact xA0 (Nat.lt_succ_of_lt hlS)
    have hSf:s.heap.objs.size ∉ [(s.heap.push (setObj #[] 0 (.fresh 0 0 led))).objs.size,l]:=by
     rw [Heap.size_push];simp only [xAv,xBv,or_false,not_or];exact ⟨xA0 (Nat.lt_succ_self _),Nat.ne_of_gt hlS⟩
    have hval:∀ (i:Nat) (v:Value),items[i]?=some v->∃ t,v = .str ((fun i=>ns.getD i Str.empty) i) t:=fun i v hv=>hi i v hv;refine jS ((Walks.tuple hh3 _ l hneI items).toS) s.heap.objs.size hSf (fun i=>ns.getD i Str.empty) hval (by lia) (items.size - 0) 0 _ [] (by lia) (xBn _)
     ⟨⟨_,xAl _ rfl,rfl,rfl⟩,(hl1.push _)⟩ ⟨_,_,_,P0.at' fun o e=>xAf _ e⟩ (xBn _) (fun x=>by simp) ?hR
    case hR =>
     intro s' ks' mv d1 d2;obtain ⟨h',g',d',tk',os'⟩:=s';have eg:g'=s.gens:=mv.gens;have ed:d'=s.drawn:=mv.drawn;have eo:os'=s.os:=mv.os;have et:s.toks<=tk':=mv.toks;subst eg;subst ed;subst eo;change wpAny _ _ _ _ _ _;refine xAe ?_;change wpAny _ _ (ret Value.none) _ _ _;refine xAe ⟨rfl,h',tk',ks',rfl,d1,fun x=>?_,fun b o e=>?_,et⟩
     ·rw [d2,List.mem_iff_getElem];constructor
      ·rintro ⟨j,z1,z2⟩
       refine ⟨j,by lia,?_⟩;rw [<- z2,xBz,xAk (by lia)];rfl
      ·rintro ⟨j,z1,z2⟩
       refine ⟨j,by lia,?_⟩;rw [<- z2,xBz,xAk (by lia)];rfl
     ·have hb0:=xA1 e;have hb1:b≠s.heap.objs.size:=xA0 hb0;have hb2:b≠(s.heap.push (setObj #[] 0 (.fresh 0 0 led))).objs.size:=by
       rw [Heap.size_push];exact xA0 (Nat.lt_succ_of_lt hb0)
      exact mv.heap b o (by simp only [xAv,xBv,or_false,not_or];exact ⟨hb1,hb2⟩) (xAf _ (xAf _ e))
   ·cases r₂ with
    | error e=>exact hr₂
    | ok fl₂ =>
     cases fl₂ with
     | ret r =>
      obtain ⟨rfl,h',tk,ks,rfl,z1,z2,z4,z5⟩:=hr₂;repeat (any_goals (first | assumption | wp_step))
      exact h _ _ _ z1 z2 z4 z5
     | _=>exact hr₂.elim
  | _=>exact hr.elim
end
end SetA
namespace L2
open PySem PySem.Spec PyProof.Rows SetA
noncomputable def ZetO (w:World) (p:Addr) (ks:List Str):HO:=HO.ext fun h=>ZetIs w h p ks
theorem sg {P:Program} {w:World} {H:Hp} {h:Heap} {p:Addr} {ks:List Str} (S:ZetIs w h p ks):ObjOk P w H h p (ZetO w p ks) :=
 ⟨S,let ⟨_,_,_,q⟩:=S;⟨_,q.ob⟩,fun h1 h2 q k=>q.at' k⟩
theorem sh {P:Program} {w w':World} {H:Hp} {h:Heap} {p:Addr} {ks:List Str} (ok:HOk P w' H h) (e:H p=some (ZetO w p ks)):ZetIs w h p ks:=(ok p _ e).1
noncomputable def cSetZ (w:World):List V->Hp->VK->Prop:=fun xs H Q=>∃ (p:Addr) (ns:List Str),xs=[.ref p]/\H p=some (.tup (ns.map V.str))/\ns.length<=1 /\
  ∀ (l:Addr) (ks:List Str),H l=none->ks.Nodup->(∀ z,z∈ks↔z∈ns)->Q (.ref l) (upd H l (ZetO w l ks))
noncomputable def cLenZ (w:World):List V->Hp->VK->Prop:=fun xs H Q=>∃ p ks,xs=[V.ref p]/\H p=some (ZetO w p ks)/\ks.length<=100000/\Q (.int ks.length) H
section
variable {X:Cx}
theorem pG {s:Shared} {pins:List (Addr×Obj)} {σ:St} {H:Hp} {h':Heap} {tk:Nat} {ks:List Str} {Q:VK} (I:Inv X pins σ H s) (k:∀ b o,s.heap.get? b=some o->h'.get? b=some o) (S:ZetIs X.w h' s.heap.objs.size ks)
  (q:H s.heap.objs.size=none->Q (.ref s.heap.objs.size) (upd H s.heap.objs.size (ZetO X.w s.heap.objs.size ks))):EP X pins σ Q (.ref s.heap.objs.size) { s with heap:=h',toks:=tk }:=by
 have hfr:s.heap.get? s.heap.objs.size=none:=by
  cases z:s.heap.get? s.heap.objs.size with
  | none=>rfl
  | some o=>exact absurd (xA1 z) (xBo _)
 obtain ⟨hfree,I2⟩:=Inv.laidN (t':=tk) I k hfr (sg S);exact ⟨.ref s.heap.objs.size,_,I2,rfl,q hfree⟩
theorem qS (hc:X.calm=true):CallR X (.type "set") (cSetZ X.w):=by
 intro pins s σ H xs us Q I r h;obtain ⟨p,ns,rfl,hS,hl,h⟩:=h;obtain ⟨u,rfl,ru⟩:=vals1 r;obtain rfl:u=Value.ref p:=ru;obtain ⟨its,r1,t1,z1⟩:=I.tuple (SqT.of hS);have hlen:=r1.length;rw [xAa] at hlen;refine SetA.set_tupleZ (ns:=ns) (I.ok.hd hc) t1 (by simpa using hlen.symm) (fun i v hv=>?_) hl fun h' tk ks c1 c2 c4 c5=>?_
 ·have hil:i<ns.length:=by
   have:=(Array.getElem?_eq_some_iff.mp hv).1;simp only [xAp] at this;lia
  obtain ⟨u,e,ru⟩:=r1.get (i:=i) (x:=.str (ns.getD i Str.empty)) (by rw [xAw,xAk hil,xBz,xAk hil];rfl);rw [List.getElem?_toArray,e] at hv;cases hv;exact ru
 ·exact pG (tk:=tk) I c4 c1 fun hf=>h _ ks hf (let ⟨_,_,_,z⟩:=c1;z.nd) c2
theorem qU:CallR X (.builtin "len") (cLenZ X.w):=by
 intro pins s σ H xs us Q I r h;obtain ⟨p,ks,rfl,hS,hl,q⟩:=h;obtain ⟨u,rfl,ru⟩:=vals1 r;obtain rfl:u=Value.ref p:=ru;obtain ⟨es,ep,t,S⟩:=sh I.hok hS;have hz:=S.size;have hb:=S.tb.fits;refine call_len_set S.ob ⟨rfl,rfl,rfl⟩ rfl hb (by rw [hz];have:=hl;lia) ?_;rw [hz];exact ⟨.int ks.length,H,I.tok _,⟨_,rfl⟩,q⟩
end
end L2
namespace Fx
open PySem PySem.Spec L2
theorem OpR.or {X:Cx} {f:Value->Value->Sem Value} {r r':R2} (h:OpR X f r) (h':OpR X f r'):OpR X f (fun x y H Q=>r x y H Q\/r' x y H Q):=by
 intro pins s σ H x y v u Q I rx ry q;rcases q with q | q
 ·exact h pins s σ H x y v u Q I rx ry q
 ·exact h' pins s σ H x y v u Q I rx ry q
theorem CallR.or {X:Cx} {f:Value} {r r':List V->Hp->VK->Prop} (h:CallR X f r) (h':CallR X f r'):CallR X f (fun xs H Q=>r xs H Q\/r' xs H Q):=by
 intro pins s σ H xs us Q I rx q;rcases q with q | q
 ·exact h pins s σ H xs us Q I rx q
 ·exact h' pins s σ H xs us Q I rx q
theorem SlR.or {X:Cx} {r r':V->Option Int->Option Int->Hp->VK->Prop} (h:SlR X r) (h':SlR X r'):SlR X (fun x a b H Q=>r x a b H Q\/r' x a b H Q):=by
 intro pins s σ H x v vl vu lo hi sl Q I rx hs pl pu q;rcases q with q | q
 ·exact h pins s σ H x v vl vu lo hi sl Q I rx hs pl pu q
 ·exact h' pins s σ H x v vl vu lo hi sl Q I rx hs pl pu q
section
variable {B:Bs} {W:Wd} {S S':So} {H:Hp} {v w z:U} {u u1 u2:V} {vs:List U} {us:List V} {Q:VK}
theorem eK (rs:RS B W S H) (rv:Rv B W v u) {xs:List U} (h:lsT S v=some xs):∃ p ys,u = .ref p/\H p=some (.lst ys)/\Rvs B W xs ys:=by
 cases v with
 | lst _=>cases h;obtain ⟨p,ys,e,f,r⟩:=rv;exact ⟨p,ys,e,rs.fz _ _ f,r⟩
 | ref a =>
  unfold lsT at h;dsimp only at h;obtain ⟨p,rfl,hm⟩:=rv;cases e:at? S a with
  | none=>rw [e] at h;cases h
  | some o =>
   rw [e] at h;cases o <;> cases h
   obtain ⟨p',g,hp,hh,ro,_⟩:=rs.here e;rw [hm] at hp;cases hp;obtain ⟨ys,rfl,r⟩:=ro;exact ⟨p,ys,rfl,hh,r⟩
 | _=>cases h
theorem gj (rs:RS B W S H) (rv:Rv B W v u) {xs:List U} (h:lsU S v=some xs):∃ p ys,u = .ref p/\SqL B.K H p ys/\Rvs B W xs ys:=by
 cases v with
 | kl _=>cases h;obtain ⟨p,ys,e,f,r⟩:=rv;exact ⟨p,ys,e,eF rs.fz f,r⟩
 | lst _=>obtain ⟨p,ys,e,f,r⟩:=eK (S:=S) rs rv (xs:=xs) h;exact ⟨p,ys,e,.of f,r⟩
 | ref a=>obtain ⟨p,ys,e,f,r⟩:=eK (S:=S) rs rv (xs:=xs) h;exact ⟨p,ys,e,.of f,r⟩
 | _=>cases h
theorem fo (rs:RS B W S H) (rv:Rv B W v u) {xs:List U} (h:sqU S v=some xs):∃ p ys,u = .ref p/\(SqL B.K H p ys\/SqT B.K H p ys)/\Rvs B W xs ys:=by
 cases v with
 | tup _=>cases h;obtain ⟨p,ys,e,f,r⟩:=rv;exact ⟨p,ys,e,.inr (.of (rs.fz _ _ f)),r⟩
 | kt _=>cases h;obtain ⟨p,ys,e,f,r⟩:=rv;exact ⟨p,ys,e,.inr (f H),r⟩
 | kl _=>obtain ⟨p,ys,e,f,r⟩:=gj (S:=S) rs rv (xs:=xs) h;exact ⟨p,ys,e,.inl f,r⟩
 | lst _=>obtain ⟨p,ys,e,f,r⟩:=gj (S:=S) rs rv (xs:=xs) h;exact ⟨p,ys,e,.inl f,r⟩
 | ref a=>obtain ⟨p,ys,e,f,r⟩:=gj (S:=S) rs rv (xs:=xs) h;exact ⟨p,ys,e,.inl f,r⟩
 | _=>cases h
theorem VL.here (h:VL B W Q z S) (rs:RS B W S H) (rv:Rv B W z u):Q u H:=h W u H .refl rs rv
theorem VL.tup (h:VL B W Q (.tup vs) S) (rs:RS B W S H) (rv:Rvs B W vs us) {p:Addr} (e:H p=none):Q (.ref p) (upd H p (.tup us)):=by
 obtain ⟨le,rs'⟩:=rs.fresh (o:=.tup us) e;exact h _ _ _ le rs' ⟨p,us,rfl,dk,rv.mono le⟩
theorem gi {m:Bool} (e:mkL m vs S = .ok z S') (h:VL B W Q z S') (rs:RS B W S H) (rv:Rvs B W vs us) {p:Addr} (hp:H p=none):Q (.ref p) (upd H p (.lst us)):=by
 cases m with
 | true =>
  cases e;have le:W.Le { W with μ:=W.μ++[p] }:=⟨fun _ _ h=>h,fun _ _ h=>d8 h,rfl⟩
  obtain ⟨_,rs',ha⟩:=rs.push (o:=.lst vs) (h:=.lst us) hp ⟨us,rfl,rv.mono le⟩;exact h _ _ _ le rs' ⟨p,rfl,ha⟩
 | false =>
  cases e;obtain ⟨le,rs'⟩:=rs.fresh (o:=.lst us) hp;exact h _ _ _ le rs' ⟨p,us,rfl,dk,rv.mono le⟩
theorem dW {n:Nat} {r:Res} (h:fits n r = .ok z S'):n<=sizeLine/\r = .ok z S':=by
 unfold fits at h;split at h
 ·next e=>exact ⟨Nat.le_of_ble_eq_true e,h⟩
 ·cases h
theorem k8 {xs:List U} {ys:List V} (r:Rvs B W xs ys) (lo hi:Option Int):Rvs B W (cutU xs lo hi) (cutV ys lo hi):=by
 unfold cutU cutV;rw [r.length];exact (r.drop _).take _
theorem ir (f:flatU v=true) (r:Rv B W v u):flatV u=true:=by
 cases v <;> first | (cases f;done) | (rw [show u=_ from r];rfl)
theorem jf:∀ {vs:List U} {us:List V},vs.all flatU=true->Rvs B W vs us->us.all flatV=true
 | [],_,_,r=>by rw [show _=[] from r];rfl
 | x::xs,_,f,r=>by
  obtain ⟨v,t,rfl,h1,h2⟩:=r;rw [List.all_cons,Bool.and_eq_true] at f;rw [List.all_cons,ir f.1 h1,jf f.2 h2];rfl
theorem uY (fv:flatU v=true) (fw:flatU w=true) (r1:Rv B W v u1) (r2:Rv B W w u2):eqV u1 u2=eqF v w:=by
 cases v <;> first | (cases fv;done) | (cases w <;> first | (cases fw;done) | (rw [show u1=_ from r1,show u2=_ from r2];rfl))
theorem lr (f:flatU v=true) (r:Rv B W v u):∀ {vs:List U} {us:List V},vs.all flatU=true->Rvs B W vs us->inV u us=anyF v vs
 | [],_,_,q=>by rw [show _=[] from q];rfl
 | x::xs,_,g,q=>by
  obtain ⟨y,t,rfl,h1,h2⟩:=q;rw [List.all_cons,Bool.and_eq_true] at g;show (eqV y u || inV u t)=_;rw [lr f r g.2 h2,uY g.1 f h1 r];rfl
theorem vm {xs:List U} {ys:List V} (r:Rvs B W xs ys) {i:Int} (h:atI xs i=some v):∃ y,atI ys i=some y/\Rv B W v y:=by
 unfold atI at h ⊢;rw [r.length];cases e:ixN xs.length i with
 | none=>rw [e] at h;cases h
 | some j=>rw [e] at h;exact r.get h
theorem gY {k:Key}:∀ {kvs:List (Key×U)} {vs:List (Key×V)},Rn B W kvs vs->(∀ v,getK k kvs=some v->∃ u,valV vs k=some u/\Rv B W v u)/\(getK k kvs=none->valV vs k=none)
 | [],_,r=>by rw [show _=[] from r];exact ⟨(fun v h=>nomatch h),fun _=>rfl⟩
 | (j,x)::t,_,r=>by
  obtain ⟨v,q,rfl,h1,h2⟩:=r;by_cases e:j=k
  ·subst e;rw [fe rfl];unfold getK;rw [xCg rfl];exact ⟨fun v' h=>by cases h;exact ⟨v,rfl,h1⟩,(fun h=>nomatch h)⟩
  ·rw [ff e];unfold getK;rw [xCf e];exact gY h2
theorem im {k:Key} (h:keyU v=some k) (r:Rv B W v u):u=kV k:=by
 cases v <;> first | (cases h;exact r) | (cases h;done)
theorem eu {f:U->U->Bool} {R:V->V->Prop} (hf:∀ x y a b,f x y=true->Rv B W x a->Rv B W y b->R a b):∀ {xs ys:List U} {as bs:List V},zipAll f xs ys=true->Rvs B W xs as->Rvs B W ys bs->as.length=bs.length/\∀ (j:Nat) (x y:V),as[j]?=some x->bs[j]?=some y->R x y
 | [],[],_,_,_,r,q=>by rw [show _=[] from r,show _=[] from q];exact ⟨rfl,fun j x y h=>by simp at h⟩
 | [],_::_,_,_,h,_,_=>by cases h
 | _::_,[],_,_,h,_,_=>by cases h
 | x::xs,y::ys,_,_,h,r,q=>by
  obtain ⟨a,t,rfl,r1,r2⟩:=r;obtain ⟨b,t',rfl,q1,q2⟩:=q;unfold zipAll at h;rw [Bool.and_eq_true] at h;obtain ⟨l,z⟩:=eu hf h.2 r2 q2;refine ⟨by simp [l],fun j x' y' e1 e2=>?_⟩;cases j with
  | zero=>simp at e1 e2;subst e1 e2;exact hf _ _ _ _ h.1 r1 q1
  | succ j=>exact z j x' y' (by simpa using e1) (by simpa using e2)
theorem jU {c:Bool} (h:eqS v w=some c) (r1:Rv B W v u1) (r2:Rv B W w u2):scal u1 u2=true/\decide (u1=u2)=c:=by
 obtain ⟨a,h1,h⟩:=Option.bind_eq_some_iff.mp h;obtain ⟨b,h2,h⟩:=Option.bind_eq_some_iff.mp h;rw [vw h1] at r1;rw [vw h2] at r2;cases a <;> cases b <;> first | (rw [show u1=_ from r1,show u2=_ from r2];refine ⟨rfl,?_⟩;cases h;first | rfl | simp) | (cases h;done)
theorem fA {n:Nat} (h:(flatU v && flatU w && eqS v w == some true)=true) (r1:Rv B W v u1) (r2:Rv B W w u2):Al H n u1 u2:=by
 simp only [Bool.and_eq_true,beq_iff_eq] at h;obtain ⟨⟨f1,f2⟩,e⟩:=h;have:u1=u2:=xBe (jU e r1 r2).2;subst this;exact .flat (ir f1 r1)
theorem fR (rs:RS B W S H):∀ {n:Nat} {v w:U} {u1 u2:V},same S n v w=true->Rv B W v u1->Rv B W w u2->Al H n u1 u2
 | 0,v,w,u1,u2,h,r1,r2=>fA (by unfold same at h;exact h) r1 r2
 | n+1,v,w,u1,u2,h,r1,r2=>by
  have key:(match lsT S v,lsT S w with
   | some xs,some ys=>zipAll (same S n) xs ys
   | _,_=>flatU v && flatU w && eqS v w == some true)=true->Al H (n+1) u1 u2:=fun h=>by
   cases e1:lsT S v with
   | none=>rw [e1] at h;exact fA h r1 r2
   | some xs =>
    cases e2:lsT S w with
    | none=>rw [e1,e2] at h;exact fA h r1 r2
    | some ys =>
     rw [e1,e2] at h;obtain ⟨p,as,rfl,hp,q1⟩:=eK rs r1 e1;obtain ⟨p',bs,rfl,hp',q2⟩:=eK rs r2 e2;obtain ⟨l,z⟩:=eu (fun x y a b hs ra rb=>fR rs hs ra rb) h q1 q2;exact .lst hp hp' l z
  unfold same at h;cases v <;> first | exact key h | (cases w <;> first | exact key h | (
   obtain ⟨p,as,rfl,f1,q1⟩:=r1;obtain ⟨p',bs,rfl,f2,q2⟩:=r2;obtain ⟨l,z⟩:=eu (fun x y a b hs ra rb=>fR rs hs ra rb) h q1 q2;exact .tup (rs.fz _ _ f1) (rs.fz _ _ f2) l z))
end
end Fx
namespace Fx
open PySem PySem.Spec L2 PyProof.Rows
def Pr2 (B:Bs) (up:List (Str×Str)) (p:Pm) (r:R2):Prop:=∀ {W:Wd} {S:So} {H:Hp} {v w:U} {u1 u2:V} {z:U} {S':So} {Q:VK},RS B W S H->Rv B W v u1->Rv B W w u2->pr up p [v,w] S = .ok z S'->VL B W Q z S'->r u1 u2 H Q
def PrN (B:Bs) (up:List (Str×Str)) (p:Pm) (r:List V->Hp->VK->Prop):Prop:=∀ {W:Wd} {S:So} {H:Hp} {vs:List U} {us:List V} {z:U} {S':So} {Q:VK},RS B W S H->Rvs B W vs us->pr up p vs S = .ok z S'->VL B W Q z S'->r us H Q
section
variable {B:Bs} {up:List (Str×Str)}
noncomputable def rOr (r r':R2):R2:=fun x y H Q=>r x y H Q\/r' x y H Q
noncomputable def rStr:R2:=fun x y H Q=>∃ i j,x = .str i/\y = .str j/\i.length+j.length<=sizeLine/\Q (.str (i++j)) H
noncomputable def rAdd (K:xFr):R2:=rOr (rI0 fun i j=>.int (i+j)) (rOr rStr (rOr (rCatA K) rCat))
theorem wc {m:Bool}:Pr2 B up (.add m) (rAdd B.K):=by
 intro W S H v w u1 u2 z S' Q rs r1 r2 h q;change addU m v w S=_ at h;unfold addU at h;split at h
 ·cases h;exact .inl ⟨_,_,r1,r2,q.here rs rfl⟩
 ·obtain ⟨hl,e⟩:=dW h;cases e;exact .inr (.inl ⟨_,_,r1,r2,hl,q.here rs rfl⟩)
 ·obtain ⟨hl,e⟩:=dW h;cases e;obtain ⟨p,xs,rfl,f1,q1⟩:=r1;obtain ⟨p',ys,rfl,f2,q2⟩:=r2;refine .inr (.inr (.inl ⟨p,p',xs,ys,rfl,rfl,rs.fz _ _ f1,rs.fz _ _ f2,by rw [q1.length,q2.length];exact hl,fun p2 H2 sm hp=>?_⟩));obtain ⟨le,rs2⟩:=(rs.same sm).addT hp;exact q _ _ _ le rs2 ⟨p2,_,rfl,dk,(q1.app q2).mono le⟩
 ·split at h
  ·next e1 e2 =>
   obtain ⟨hl,e⟩:=dW h;obtain ⟨p,xs,rfl,f1,q1⟩:=eK rs r1 e1;obtain ⟨p',ys,rfl,f2,q2⟩:=eK rs r2 e2;exact .inr (.inr (.inr ⟨p,p',xs,ys,rfl,rfl,f1,f2,by rw [q1.length,q2.length];exact hl,fun p2 hp=>gi e q rs (q1.app q2) hp⟩))
  ·cases h
theorem wl {X:Cx}:OpR X (binaryOp .Add) (rAdd X.K):=OpR.or ua (OpR.or jG (OpR.or qr t8))
theorem oC {f:Int->Int->U} {S:So} {vs:List U} {z:U} {S':So} (h:i2 f S vs = .ok z S'):∃ i j,vs=[.int i,.int j]/\z=f i j/\S'=S:=by
 unfold i2 at h;split at h
 ·cases h;exact ⟨_,_,rfl,rfl,rfl⟩
 ·cases h
theorem nX {p:Pm} {f:Int->Int->U} {g:Int->Int->V} (hp:∀ vs S,pr up p vs S=i2 f S vs) (hf:∀ W i j,Rv B W (f i j) (g i j)):Pr2 B up p (rI0 g):=by
 intro W S H v w u1 u2 z S' Q rs r1 r2 h q;rw [hp] at h;obtain ⟨i,j,e,rfl,rfl⟩:=oC h;cases e;exact ⟨i,j,r1,r2,q.here rs (hf _ _ _)⟩
theorem vU:Pr2 B up .sub (rI0 fun i j=>.int (i - j)):=nX (f:=fun i j=>.int (i - j)) (fun _ _=>rfl) fun _ _ _=>rfl
theorem v3:Pr2 B up .lt (rI0 fun i j=>.bl (decide (i<j))):=nX (f:=fun i j=>.bl (decide (i<j))) (fun _ _=>rfl) fun _ _ _=>rfl
theorem v5:Pr2 B up .le (rI0 fun i j=>.bl (decide (i<=j))):=nX (f:=fun i j=>.bl (decide (i<=j))) (fun _ _=>rfl) fun _ _ _=>rfl
theorem v6:Pr2 B up .gt (rI0 fun i j=>.bl (decide (j<i))):=nX (f:=fun i j=>.bl (decide (j<i))) (fun _ _=>rfl) fun _ _ _=>rfl
theorem v7:Pr2 B up .ge (rI0 fun i j=>.bl (decide (j<=i))):=nX (f:=fun i j=>.bl (decide (j<=i))) (fun _ _=>rfl) fun _ _ _=>rfl
theorem iB {C:Int->Int->Prop} [∀ i j,Decidable (C i j)] {f:Int->Int->U} {S:So} {vs:List U} {z:U} {S':So} (h:(match vs with
  | [.int i,.int j]=>match decide (C i j) with
   | true=>Res.ok (f i j) S
   | false=>.stuck
  | _=>.stuck) = .ok z S'):∃ i j,vs=[.int i,.int j]/\C i j/\z=f i j/\S'=S:=by
 split at h
 ·split at h
  ·next e=>cases h;exact ⟨_,_,rfl,xBe e,rfl,rfl⟩
  ·cases h
 ·cases h
theorem eO {i:Int} {n:Nat} (h:i.natAbs<2 ^ n):Builtin.Int.intBits i<=n:=by
 unfold Builtin.Int.intBits;by_cases e:i=0
 ·subst e;simp
 ·have h0:i.natAbs≠0:=by lia
  have:=(Nat.log2_lt h0).mpr h;split <;> lia
theorem vY:Pr2 B up .mul (rI (fun i j=>IntMulOk i j) fun i j=>.int (i * j)):=by
 intro W S H v w u1 u2 z S' Q rs r1 r2 h q;obtain ⟨i,j,e,hc,rfl,rfl⟩:=iB (C:=fun i j=>i.natAbs<2 ^ 150/\j.natAbs<2 ^ 150\/j.natAbs<2 ^ 60\/i.natAbs<2 ^ 60) (f:=fun i j=>.int (i * j)) h;cases e;refine ⟨i,j,r1,r2,?_,q.here rs rfl⟩;rcases hc with ⟨h1,h2⟩ | h1 | h1
 ·have a:=eO h1;have b:=eO h2;unfold IntMulOk;have:Builtin.Int.intTooBig (Builtin.Int.intBits i+Builtin.Int.intBits j)=false:=by
   unfold Builtin.Int.intTooBig bitsLine;exact decide_eq_false (by lia)
  rw [this];simp
 ·exact .of_right (Nat.le_trans (eO h1) (by lia))
 ·exact .of_left (Nat.le_trans (eO h1) (by lia))
theorem tS:Pr2 B up .fdiv (rI CDivP fun i j=>.int (i / j)):=by
 intro W S H v w u1 u2 z S' Q rs r1 r2 h q;obtain ⟨i,j,e,hc,rfl,rfl⟩:=iB (C:=fun i j=>0<j/\j<=10 ^ 18) (f:=fun i j=>.int (i / j)) h;cases e;exact ⟨i,j,r1,r2,hc,q.here rs rfl⟩
theorem vZ:Pr2 B up .mod (rI (fun _ j=>0<j) fun i j=>.int (i % j)):=by
 intro W S H v w u1 u2 z S' Q rs r1 r2 h q;obtain ⟨i,j,e,hc,rfl,rfl⟩:=iB (C:=fun i j=>0<j) (f:=fun i j=>.int (i % j)) h;cases e;exact ⟨i,j,r1,r2,hc,q.here rs rfl⟩
theorem vV:Pr2 B up .pow (rI CPow fun i j=>.int (i ^ j.toNat)):=by
 intro W S H v w u1 u2 z S' Q rs r1 r2 h q;obtain ⟨i,j,e,hc,rfl,rfl⟩:=iB (C:=fun i j=>0<=j/\j<=1000/\i.natAbs<2 ^ 60) (f:=fun i j=>.int (i ^ j.toNat)) h;cases e;exact ⟨i,j,r1,r2,⟨hc.1,by lia,Nat.lt_trans hc.2.2 (by decide)⟩,q.here rs rfl⟩
noncomputable def rEqE:R2:=fun x y H Q=>∃ a b kvs,x = .ref a/\y = .ref b/\H a=some (.dK kvs)/\H b=some (.dK [])/\Q (.bl kvs.isEmpty) H
theorem tZ {X:Cx} (hu:X.A.units+40<cLine):OpR X (compareOp .Eq) rEqE:=by
 intro pins s σ H x y v u Q I rx ry h;obtain ⟨a,b,kvs,rfl,rfl,e1,e2,q⟩:=h;cases (show v=Value.ref a from rx);cases (show u=Value.ref b from ry);obtain ⟨_,ha,va,ka,da⟩:=kX I.hok e1;obtain ⟨_,hb,vb,kb,db⟩:=kX I.hok e2;cases kb;have hl:=ka.length;refine PySem.W.keq_eq (r:=true) ha hb da db (by lia) (fun z=>?_) ?_
 ·cases va with
  | nil=>exact .nil
  | cons _ _=>cases z
 ·refine dj I q ?_;rw [Bool.and_true];cases kvs <;> cases va <;> first | rfl | (simp at hl;done)
noncomputable def rEqA:R2:=rOr rEqE (rOr rEq (rOr (rAl true) (rAlL true)))
theorem iy {W:Wd} {S:So} {H:Hp} {v:U} {u:V} {kvs:List (Key×U)} (rs:RS B W S H) (r:Rv B W v u) (h:dctU S v=some kvs):∃ p ks,u = .ref p/\H p=some (.dK ks)/\Rn B W kvs ks:=by
 unfold dctU at h;split at h
 ·split at h
  ·next p kvs' e =>
   cases h;obtain ⟨a,g,hm,hh,ro,_⟩:=rs.here e;obtain ⟨a',e2,hm'⟩:=r;rw [hm] at hm';cases hm';obtain ⟨ks,rfl,rn⟩:=ro;exact ⟨a,ks,e2,hh,rn⟩
  ·cases h
 ·cases h
theorem Rn.nil' {W:Wd} {kvs:List (Key×U)} {ks:List (Key×V)} (r:Rn B W kvs ks):kvs.isEmpty=ks.isEmpty:=by
 cases kvs with
 | nil=>rw [show ks=[] from r];rfl
 | cons p t=>obtain ⟨v,q,rfl,_⟩:=r;rfl
theorem kh {W:Wd}:∀ {kvs:List (Key×U)} {ks:List (Key×V)} {ws:List Str},Rn B W kvs ks->strK (kvs.map (·.1))=some ws->ks.map (·.1)=ws.map Sum.inr
 | [],_,_,r,h=>by rw [show _=[] from r];cases h;rfl
 | (k,x)::t,_,ws,r,h=>by
  obtain ⟨v,q,rfl,h1,h2⟩:=r;cases k with
  | inl _=>cases h
  | inr y =>
   obtain ⟨ws',e,rfl⟩:=Option.map_eq_some_iff.mp (show (strK (t.map (·.1))).map (y::·)=some ws from h);rw [xBs,xBs,kh h2 e]
noncomputable def rNeA:R2:=rOr rNe (rOr (rAl false) (rAlL false))
theorem iP {W:Wd} {S:So} {H:Hp} {v w:U} {u1 u2:V} {b:Bool} {Q:VK} (rs:RS B W S H) (r1:Rv B W v u1) (r2:Rv B W w u2) (hn:eqS v w=none) (h:same S 20 v w=true) (q:Q (.bl b) H):rOr (rAl b) (rAlL b) u1 u2 H Q:=by
 have key:(match lsT S v,lsT S w with
   | some xs,some ys=>zipAll (same S 19) xs ys
   | _,_=>flatU v && flatU w && eqS v w == some true)=true->rOr (rAl b) (rAlL b) u1 u2 H Q:=fun h=>by
  cases e1:lsT S v with
  | none=>rw [e1,hn] at h;simp at h
  | some xs =>
   cases e2:lsT S w with
   | none=>rw [e1,e2,hn] at h;simp at h
   | some ys =>
    rw [e1,e2] at h;obtain ⟨p,as,rfl,hp,q1⟩:=eK rs r1 e1;obtain ⟨p',bs,rfl,hp',q2⟩:=eK rs r2 e2;obtain ⟨l,z⟩:=eu (fun x y a b hs ra rb=>fR rs hs ra rb) h q1 q2;exact .inr ⟨p,p',as,bs,19,rfl,rfl,hp,hp',l,by decide,z,q⟩
 unfold same at h;cases v <;> first | exact key h | (cases w <;> first | exact key h | (
  obtain ⟨p,as,rfl,f1,q1⟩:=r1;obtain ⟨p',bs,rfl,f2,q2⟩:=r2;obtain ⟨l,z⟩:=eu (fun x y a b hs ra rb=>fR rs hs ra rb) h q1 q2;exact .inl ⟨p,p',as,bs,19,rfl,rfl,rs.fz _ _ f1,rs.fz _ _ f2,l,by decide,z,q⟩))
theorem xl:Pr2 B up .eq rEqA:=by
 intro W S H v w u1 u2 z S' Q rs r1 r2 h q;delta pr at h;dsimp only at h;split at h
 ·next c e =>
  cases h;obtain ⟨l,e1,e⟩:=Option.bind_eq_some_iff.mp e;cases l with
  | cons _ _=>cases e
  | nil =>
   obtain ⟨kvs,e2,rfl⟩:=Option.map_eq_some_iff.mp e;obtain ⟨p,ks,rfl,hp,rn⟩:=iy rs r1 e2;obtain ⟨p',ks',rfl,hp',rn'⟩:=iy rs r2 e1;cases (show ks'=[] from rn');exact .inl ⟨p,p',ks,rfl,rfl,hp,hp',by rw [<- rn.nil'];exact q.here rs rfl⟩
 unfold eqU at h;split at h
 ·next c e =>
  cases h;obtain ⟨a,b⟩:=jU e r1 r2;exact .inr (.inl ⟨a,by rw [b];exact q.here rs rfl⟩)
 ·next e =>
  split at h
  ·next e2=>cases h;exact .inr (.inr (iP rs r1 r2 e e2 (q.here rs rfl)))
  ·cases h
theorem xi:Pr2 B up .ne rNeA:=by
 intro W S H v w u1 u2 z S' Q rs r1 r2 h q;change eqU not v w S=_ at h;unfold eqU at h;split at h
 ·next c e =>
  cases h;obtain ⟨a,b⟩:=jU e r1 r2;exact .inl ⟨a,by rw [b];exact q.here rs rfl⟩
 ·next e =>
  split at h
  ·next e2=>cases h;exact .inr (iP rs r1 r2 e e2 (q.here rs rfl))
  ·cases h
theorem xo {X:Cx} (hu:X.A.units+40<cLine):OpR X (compareOp .Eq) rEqA:=OpR.or (tZ hu) (OpR.or wg (OpR.or (qx hu) (oh hu)))
theorem xm {X:Cx} (hu:X.A.units+40<cLine):OpR X (compareOp .NotEq) rNeA:=OpR.or wf (OpR.or (qv hu) (n9 hu))
noncomputable def rInS (n:Bool):R2:=fun x y H Q=>∃ i j,x = .str i/\y = .str j/\Q (.bl (if n then !(!(Builtin.Str.occurrences j i 0 j.length 1).isEmpty) else !(Builtin.Str.occurrences j i 0 j.length 1).isEmpty)) H
noncomputable def rInD (n:Bool):R2:=fun y x H Q=>∃ a o,x = .ref a/\DGet H a y o/\Q (.bl (if n then !o.isSome else o.isSome)) H
noncomputable def rInA (K:xFr) (n:Bool):R2:=rOr (rIn K n) (rOr (rInS n) (rInD n))
theorem oB {W:Wd} {S:So} {H:Hp} {v w:U} {u1 u2:V} {b n:Bool} {Q:VK} (rs:RS B W S H) (r1:Rv B W v u1) (r2:Rv B W w u2) (h:inU S v w=some b) (q:Q (.bl (if n then !b else b)) H):rInA B.K n u1 u2 H Q:=by
 have seq:∀ xs,sqU S w=some xs->(if flatU v && xs.all flatU then some (anyF v xs) else none)=some b->rInA B.K n u1 u2 H Q:=fun xs e h=>by
  split at h
  ·next hf =>
   rw [Bool.and_eq_true] at hf;cases h;obtain ⟨p,ys,rfl,sq,rr⟩:=fo rs r2 e;refine .inl ⟨p,ys,rfl,sq,ir hf.1 r1,jf hf.2 rr,?_⟩;rw [lr hf.1 r1 hf.2 rr];exact q
  ·cases h
 unfold inU at h;split at h
 ·split at h
  ·cases h;exact .inr (.inl ⟨_,_,r1,r2,q⟩)
  ·cases h
 ·next a =>
  split at h
  ·next kvs e =>
   obtain ⟨p,g,hm,hh,ro,_⟩:=rs.here e;obtain ⟨p',e2,hm'⟩:=r2;rw [hm] at hm';cases hm';obtain ⟨ks,rfl,rn⟩:=ro;cases ek:keyU v with
   | none=>rw [ek] at h;cases h
   | some k =>
    rw [ek] at h;have hb:(getK k kvs).isSome=b:=xB3 h;refine .inr (.inr ⟨p,valV ks k,e2,.inl ⟨ks,k,.inl hh,im ek r1,rfl⟩,?_⟩);have:(valV ks k).isSome=b:=by
     obtain ⟨h1,h2⟩:=gY (k:=k) rn;rw [<- hb];cases z:getK k kvs with
     | none=>rw [h2 z];rfl
     | some y=>obtain ⟨y',e3,_⟩:=h1 y z;rw [e3];rfl
    rw [this];exact q
  ·next xs e=>exact seq xs (by show lsU S (.ref a)=_;unfold lsU;dsimp only;rw [e]) h
  ·cases h
 ·split at h
  ·next xs e=>exact seq xs e h
  ·cases h
theorem xk:Pr2 B up .inn (rInA B.K false):=by
 intro W S H v w u1 u2 z S' Q rs r1 r2 h q;change obB (inU S v w) id S=_ at h;unfold obB at h;split at h
 ·next b e=>cases h;exact oB rs r1 r2 e (q.here rs rfl)
 ·cases h
theorem vX:Pr2 B up .nin (rInA B.K true):=by
 intro W S H v w u1 u2 z S' Q rs r1 r2 h q;change obB (inU S v w) not S=_ at h;unfold obB at h;split at h
 ·next b e=>cases h;exact oB rs r1 r2 e (q.here rs rfl)
 ·cases h
theorem tY {X:Cx} (hu:X.A.units+1<cLine):OpR X (compareOp .In) (rInD false):=by
 intro pins s σ H x y v u Q I rx ry ⟨a,o,e,g,q⟩;subst e;obtain rfl:u=Value.ref a:=ry;exact xG hu I g rx fun s3 I3=>⟨.bl o.isSome,H,I3,rfl,q⟩
theorem qu {X:Cx} (hu:X.A.units+1<cLine):OpR X (compareOp .NotIn) (rInD true):=by
 intro pins s σ H x y v u Q I rx ry ⟨a,o,e,g,q⟩;subst e;obtain rfl:u=Value.ref a:=ry;exact qR hu I g rx fun s3 I3=>⟨.bl (!o.isSome),H,I3,rfl,q⟩
theorem xn {X:Cx} (hu:X.A.units+1<cLine):OpR X (compareOp .In) (rInA X.K false):=OpR.or lP (OpR.or lO (tY hu))
theorem wj {X:Cx} (hu:X.A.units+1<cLine):OpR X (compareOp .NotIn) (rInA X.K true):=OpR.or hZ (OpR.or hX (qu hu))
noncomputable def rIxD:R2:=fun x y H Q=>∃ a v,x = .ref a/\DGet H a y (some v)/\Q v H
theorem qH {X:Cx} (hu:X.A.units+1<cLine):IxR X rIxD:=by
 intro value slice pins s σ H x y v u Q I rx ry ⟨a,w,e,g,q⟩ hs;subst e;obtain rfl:v=Value.ref a:=rx;have hT:=jm I g;unfold subscriptTail;refine xAd ?_;rw [getitemInPython_of_ne hT.not_modules];refine xAd (wpAny_specialOf hT PySem.F.slot_dict_getitem.lookup ?_);have fin:wpAny (model X.prog X.w) X.A (subscripted slice false (.ref a) u) (fun r s₃=>wpAny (model X.prog X.w) X.A (letTemporaryGo value (.ref a) r >>= fun _=>pure r) (EP X pins σ Q) X.xe s₃) X.xe s:=by
  rw [hs];exact wpAny_operating (l9 hu I g ry fun w' s3 I3 rw'=>xAd (wpAny_letTemporaryGo (xAe ⟨w,H,I3,rw',q⟩)))
 first
  | exact xAe (xAd fin)
  | exact xAd (xAe (xAd fin))
  | exact xAd fin
noncomputable def rIxK (w:World) (K:xFr):R2:=fun x y H Q=>∃ a z v u,x = .ref a/\KD w K a/\y = .str z/\PySem.W.nsIn K a z=some (some u)/\RelV v u/\Q v H
theorem wp {X:Cx}:IxR X (rIxK X.w X.K):=by
 intro value slice pins s σ H x y v u Q I rx ry ⟨a,z,w,uu,e,⟨es,n,hl,hk,lo⟩,e2,hn,rw',q⟩ hs;subst e e2;obtain rfl:v=Value.ref a:=rx;obtain ⟨t,rfl⟩:=ry;have hm:=PySem.W.mapOf_K (prog:=X.prog) (w:=X.w) (fun b o e=>I.kIn b o e) hl hk;have hT:=hm.typeIs;unfold subscriptTail;refine xAd ?_;rw [getitemInPython_of_ne hT.not_modules];refine xAd (wpAny_specialOf hT PySem.F.slot_dict_getitem.lookup ?_);have fin:wpAny (model X.prog X.w) X.A (subscripted slice false (.ref a) (.str z t)) (fun r s₃=>wpAny (model X.prog X.w) X.A (letTemporaryGo value (.ref a) r >>= fun _=>pure r) (EP X pins σ Q) X.xe s₃) X.xe s:=by
  rw [hs];exact wpAny_operating (wpAny_getItem_of (strKind_is X.prog X.w z t) hm (PySem.W.find_K hl hn) (xAd (wpAny_letTemporaryGo (xAe ⟨w,H,I.tok _,rw',q⟩))))
 first
  | exact xAe (xAd fin)
  | exact xAd (xAe (xAd fin))
  | exact xAd fin
noncomputable def rIxA (w:World) (K:xFr):R2:=fun x y H Q=>(rIx K x y H Q\/rIxD x y H Q)\/rIxK w K x y H Q
theorem w5 {X:Cx} (hu:X.A.units+1<cLine):IxR X (rIxA X.w X.K):=(uw.or (qH hu)).or wp
end
end Fx
namespace Fx
open PySem PySem.Spec L2
open PyProof.Rows hiding St
structure FE (X:Cx) (B:Bs) (G:Gx Prop) (Ex:St->XK) (e:Expr) (c:TEx Prop):Prop where
 p:PE X e (LE B G Ex c)
 m:MonE G c
structure FA (X:Cx) (B:Bs) (G:Gx Prop) (Ex:St->XK) (es:List Expr) (c:TAx Prop):Prop where
 p:PA X es (LA B G Ex c)
 m:MonA G c es.length
structure FT (X:Cx) (B:Bs) (G:Gx Prop) (Ex:St->XK) (e:Expr) (c:TTx Prop):Prop where
 p:PT X e (LT B G Ex c)
 m:MonT G c
structure FS (X:Cx) (B:Bs) (G:Gx Prop) (Ex:St->XK) (s:Stmt) (c:TSx Prop):Prop where
 p:PS X s (LS B G Ex c)
 m:MonS G c
structure FSs (X:Cx) (B:Bs) (G:Gx Prop) (Ex:St->XK) (s:List Stmt) (c:TSx Prop):Prop where
 p:PSs X s (LS B G Ex c)
 m:MonS G c
section
variable {X:Cx} {e:Expr} {es:List Expr} {st:Stmt} {sts:List Stmt}
theorem wkE {t t':TE} (h:PE X e t) (w:∀ σ H Q,t' σ H Q->t σ H Q):PE X e t':=fun pins s σ H Q I q=>h pins s σ H Q I (w _ _ _ q)
theorem wkA {t t':TA} (h:PA X es t) (w:∀ σ H Q,t' σ H Q->t σ H Q):PA X es t':=fun pos pins s σ H Q I q=>h pos pins s σ H Q I (w _ _ _ q)
theorem wkT {t t':TT} (h:PT X e t) (w:∀ σ H Q,t' σ H Q->t σ H Q):PT X e t':=fun pins s σ H Q I q=>h pins s σ H Q I (w _ _ _ q)
theorem wkS {t t':TS} (h:PS X st t) (w:∀ D σ H,t' D σ H->t D σ H):PS X st t':=fun pins s σ H D I q=>h pins s σ H D I (w _ _ _ q)
theorem wkSs {t t':TS} (h:PSs X sts t) (w:∀ D σ H,t' D σ H->t D σ H):PSs X sts t':=fun pins s σ H D I q=>h pins s σ H D I (w _ _ _ q)
end
section
variable {B:Bs} {up:List (Str×Str)} {G:Gx Prop} {Ex:St->XK} {τ:St} {H:Hp} {Q:VK} {W W':Wd} {c a b:TEx Prop} {as:TAx Prop} {n:Nat} {p:Pm}
theorem VL.inc {v:U} {S:So} (le:W.Le W') (h:VL B W Q v S):VL B W' Q v S:=fun W2 u H le2=>h W2 u H (le.trans le2)
theorem NL.inc {Q:St->Hp->Prop} {v:Sg} {S:So} (le:W.Le W') (h:NL B W Q v S):NL B W' Q v S:=fun W2 u H le2=>h W2 u H (le.trans le2)
theorem LEe.inc {D:Ends} (le:W.Le W'):EeLe (LEe B Ex W D) (LEe B Ex W' D):=⟨fun _ _=>NL.inc le,fun _ _=>VL.inc le,fun _ _=>NL.inc le,fun _ _=>NL.inc le,fun _ _ _ h W2 τ C dx H le2=>h W2 τ C dx H (le.trans le2)⟩
theorem LE.go {S:So} {σ:Sg} {k:Kv Prop} (m:MonE G c) (rs:RS B W S H) (rg:Rg B W σ τ) (h:c G σ S (XL B W (Ex τ)) k) (hk:∀ v S' W' u H',W.Le W'->RS B W' S' H'->Rv B W' v u->Rg B W' σ τ->k v S'->Q u H'):LE B G Ex c τ H Q :=
 ⟨W,σ,S,rs,rg,m.m (fun _ _ h=>h) (fun v S' h' W' u H' le rs' rv=>hk v S' W' u H' le rs' rv (rg.mono le) h') h⟩
theorem LA.go {S:So} {σ:Sg} {k:List U->So->Prop} {Q:List V->Hp->Prop} (m:MonA G as n) (rs:RS B W S H) (rg:Rg B W σ τ) (h:as G σ S (XL B W (Ex τ)) k) (hk:∀ v S' W' u H',v.length=n->W.Le W'->RS B W' S' H'->Rvs B W' v u->Rg B W' σ τ->k v S'->Q u H'):LA B G Ex as τ H Q :=
 ⟨W,σ,S,rs,rg,m.m (fun _ _ h=>h) (fun v S' hl h' W' u H' le rs' rv=>hk v S' W' u H' hl le rs' rv (rg.mono le) h') h⟩
theorem LT.go {t:TTx Prop} {S:So} {σ:Sg} {k:Bool->So->Prop} {Q:Bool->Hp->Prop} (m:MonT G t) (rs:RS B W S H) (rg:Rg B W σ τ) (h:t G σ S (XL B W (Ex τ)) k) (hk:∀ v S' W' H',W.Le W'->RS B W' S' H'->Rg B W' σ τ->k v S'->Q v H'):LT B G Ex t τ H Q :=
 ⟨W,σ,S,rs,rg,m.m (fun _ _ h=>h) (fun v S' h' W' H' le rs'=>hk v S' W' H' le rs' (rg.mono le) h') h⟩
theorem XL.upf (le:W.Le W') (E:XK):∀ e S,XL B W E e S->XL B W' E e S:=fun _ _=>XL.up le
noncomputable def K1 (B:Bs) (up:List (Str×Str)) (p:Pm) (Q:VK):VK:=fun u H=>∃ W S v z S',RS B W S H/\Rv B W v u/\pr up p [v] S = .ok z S'/\VL B W Q z S'
noncomputable def K2 (B:Bs) (up:List (Str×Str)) (p:Pm) (Q:VK):V->V->Hp->Prop:=fun u1 u2 H=>∃ W S v w z S',RS B W S H/\Rv B W v u1/\Rv B W w u2/\pr up p [v,w] S = .ok z S'/\VL B W Q z S'
noncomputable def KN (B:Bs) (up:List (Str×Str)) (p:Pm) (Q:VK):List V->Hp->Prop:=fun us H=>∃ W S vs z S',RS B W S H/\Rvs B W vs us/\pr up p vs S = .ok z S'/\VL B W Q z S'
variable (g:MonG up G)
include g
theorem LE.p1 (ma:MonE G a) (h:LE B G Ex (cP p (aC a aN)) τ H Q):LE B G Ex a τ H (K1 B up p Q):=by
 obtain ⟨W,σ,S,rs,rg,h⟩:=h;refine LE.go ma rs rg h fun v S' W' u H' le rs' rv rg' h'=>?_;obtain ⟨z,S2,e,q⟩:=g.pok h';exact ⟨W',S',v,z,S2,rs',rv,e,q.inc le⟩
theorem LE.p2 (ma:MonE G a) (mb:MonE G b) (h:LE B G Ex (cP p (lst2 a b)) τ H Q):LE B G Ex a τ H fun x H1=>LE B G Ex b τ H1 fun y H2=>K2 B up p Q x y H2:=by
 obtain ⟨W,σ,S,rs,rg,h⟩:=h;refine LE.go ma rs rg h fun v S' W' u H' le rs' rv rg' h'=>?_;refine LE.go mb rs' rg' (mb.m (XL.upf le _) (fun _ _ h=>h) h') fun w S2 W2 u2 H2 le2 rs2 rv2 _ h2=>?_;obtain ⟨z,S3,e,q⟩:=g.pok h2;exact ⟨W2,S2,v,w,z,S3,rs2,rv.mono le2,rv2,e,q.inc (le.trans le2)⟩
theorem LE.pn (ma:MonA G as n) (h:LE B G Ex (cP p as) τ H Q):LA B G Ex as τ H (KN B up p Q):=by
 obtain ⟨W,σ,S,rs,rg,h⟩:=h;refine LA.go ma rs rg h fun v S' W' u H' _ le rs' rv rg' h'=>?_;obtain ⟨z,S2,e,q⟩:=g.pok h';exact ⟨W',S',v,z,S2,rs',rv,e,q.inc le⟩
end
section
variable {B:Bs} {up:List (Str×Str)} {G:Gx Prop} {Ex:St->XK} {c a b:TEx Prop} {as:TAx Prop} {t u:TTx Prop}
theorem LE.imp {τ:St} {H:Hp} {Q Q':VK} (m:MonE G c) (h:LE B G Ex c τ H Q) (hq:∀ u H,Q u H->Q' u H):LE B G Ex c τ H Q':=by
 obtain ⟨W,σ,S,rs,rg,h⟩:=h;exact ⟨W,σ,S,rs,rg,m.m (fun _ _ h=>h) (fun v S h W' u H le rs rv=>hq _ _ (h W' u H le rs rv)) h⟩
theorem LA.imp {τ:St} {H:Hp} {n:Nat} {Q Q':List V->Hp->Prop} (m:MonA G as n) (h:LA B G Ex as τ H Q) (hq:∀ u H,Q u H->Q' u H):LA B G Ex as τ H Q':=by
 obtain ⟨W,σ,S,rs,rg,h⟩:=h;exact ⟨W,σ,S,rs,rg,m.m (fun _ _ h=>h) (fun v S _ h W' u H le rs rv=>hq _ _ (h W' u H le rs rv)) h⟩
variable {X:Cx} {e ea eb ec ed:Expr} {es:List Expr} {pos p1 p2:Pos} {x:Str} {i:Nat} {pm:Pm} (g:MonG up G)
include g
theorem f_v (hN:X.N[i]?=some x) (hv:Vis X.env.scope x) (hd:(x == ("__debug__":Str))=false) (hcd:(x == ("__classdict__":Str))=false):FE X B G Ex (.Name x pos) (cV i) :=
 ⟨wkE (tG hN hv hd hcd) fun τ H Q zz=>by
  obtain ⟨W,σ,S,rs,rg,h⟩:=zz;unfold cV at h;cases e:nth σ i with
  | none=>rw [e] at h;exact (g.no h).elim
  | some v=>rw [e] at h;obtain ⟨u,e2,rv⟩:=rg.v i v e;exact ⟨u,e2,h W u H .refl rs rv⟩,mV g⟩
omit g in
theorem f_c {v:V} {u:U} (h:PE X e (tC v)) (r:∀ W,Rv B W u v):FE X B G Ex e (cC u):=⟨wkE h fun τ H Q ⟨W,σ,S,rs,rg,h⟩=>h W v H .refl rs (r W),⟨fun hx hk h=>hk _ _ h⟩⟩
theorem l7 {op:Operator} {r:R2} (ho:OpR X (binaryOp op) r) (hp:Pr2 B up pm r) (ha:FE X B G Ex ea a) (hb:FE X B G Ex eb b):FE X B G Ex (.BinOp ea op eb pos) (cP pm (lst2 a b)) :=
 ⟨wkE (vP ho ha.p hb.p) fun τ H Q h=>(LE.p2 g ha.m hb.m h).imp ha.m fun x H1 h1=>h1.imp hb.m fun y H2 ⟨W,S,v,w,z,S',rs,r1,r2,e,q⟩=>hp rs r1 r2 e q,mP g (mAC g ha.m (mAC g hb.m (mAN g)))⟩
theorem xw {r:R2} (hr:IxR X r) (hp:Pr2 B up pm r) (ha:FE X B G Ex ea a) (hb:FE X B G Ex eb b) (hs:PlainIx eb):FE X B G Ex (.Subscript ea eb pos) (cP pm (lst2 a b)) :=
 ⟨wkE (vR hr ha.p hb.p hs) fun τ H Q h=>(LE.p2 g ha.m hb.m h).imp ha.m fun x H1 h1=>h1.imp hb.m fun y H2 ⟨W,S,v,w,z,S',rs,r1,r2,e,q⟩=>hp rs r1 r2 e q,mP g (mAC g ha.m (mAC g hb.m (mAN g)))⟩
theorem jg:FA X B G Ex [] aN:=⟨wkA gf fun τ H Q ⟨W,σ,S,rs,rg,h⟩=>h W [] H .refl rs rfl,mAN g⟩
theorem gG (ha:FE X B G Ex e a) (hs:FA X B G Ex es as) (hst:noStar e=true):FA X B G Ex (e::es) (aC a as) :=
 ⟨wkA (jF ha.p hs.p hst) fun τ H Q ⟨W,σ,S,rs,rg,h⟩=>LE.go ha.m rs rg h fun v S' W' u H' le rs' rv rg' h' =>
  LA.go hs.m rs' rg' (hs.m.m (XL.upf le _) (fun _ _ _ h=>h) h') fun vs S2 W2 us H2 _ le2 rs2 rvs _ h2=>h2 W2 (u::us) H2 (le.trans le2) rs2 ⟨u,us,rfl,rv.mono le2,rvs⟩,mAC g ha.m hs.m⟩
theorem wB {k:Nat} (hs:FA X B G Ex es as) (hl:es.length<=1000):FE X B G Ex (.Tuple es k pos) (cT as) :=
 ⟨wkE (tH hs.p) fun τ H Q ⟨W,σ,S,rs,rg,h⟩=>LA.go hs.m rs rg h fun vs S' W' us H' hn le rs' rvs _ h'=>⟨by rw [rvs.length,hn];exact small hl,fun p hp=>VL.tup (VL.inc le h') rs' rvs hp⟩,mT g hs.m⟩
theorem wI {m:Bool} (hs:FA X B G Ex es as):FE X B G Ex (.List es pos) (cP (.lst m) as) :=
 ⟨wkE (tK hs.p) fun τ H Q h=>(LE.pn g hs.m h).imp hs.m fun us H1 zz=>by
  obtain ⟨W,S,vs,z,S',rs,rv,e,q⟩:=zz;obtain ⟨hl,e⟩:=dW (show fits vs.length (mkL m vs S)=_ from e);exact ⟨by rw [rv.length];exact hl,fun p hp=>gi e q rs rv hp⟩,mP g hs.m⟩
theorem wR {op:CmpOp} {r:R2} (ho:OpR X (compareOp op) r) (hp:Pr2 B up pm r) (hv:∀ v w S z S',pr up pm [v,w] S = .ok z S'->∃ c,z = .bl c) (ha:FE X B G Ex ea a) (hb:FE X B G Ex eb b) (hm:behindInMarks op eb=false):FT X B G Ex (.Compare ea [op] [eb] pos) (tB (cP pm (lst2 a b))):=by
 have mm:=mP g (p:=pm) (mAC g ha.m (mAC g hb.m (mAN g)));refine ⟨wkT (kr ho ha.p hb.p hm) fun τ H Q h=>?_,mB g mm⟩;have h':LE B G Ex (cP pm (lst2 a b)) τ H (fun x H'=>∃ k,x = .bl k/\Q k H'):=by
  obtain ⟨W,σ,S,rs,rg,h⟩:=h;refine LE.go mm rs rg h fun v S' W' u H' le rs' rv rg' h'=>?_;cases v <;> first | (exact (g.no h').elim) | exact ⟨_,rv,h' W' H' le rs'⟩
 exact (LE.p2 g ha.m hb.m h').imp ha.m fun x H1 h1=>h1.imp hb.m fun y H2 ⟨W,S,v,w,z,S',rs,r1,r2,e,q⟩=>hp rs r1 r2 e q
theorem wA (h:FE X B G Ex e c) (he:∀ whole,isTrue e X.env whole=(do let v <- whole;standAt e.pos;holding [v] (truthy v))):FT X B G Ex e (tB c) :=
 ⟨wkT (sX h.p he) fun τ H Q ⟨W,σ,S,rs,rg,h1⟩=>LE.go h.m rs rg h1 fun v S' W' u H' le rs' rv rg' h'=>by
  cases v <;> first | (exact (g.no h').elim) | exact ⟨_,rv,h' W' H' le rs'⟩,mB g h.m⟩
theorem xu (h:FT X B G Ex ea t):FT X B G Ex (.UnaryOp .Not ea pos) (tNt t) :=
 ⟨wkT (sY h.p) fun τ H Q ⟨W,σ,S,rs,rg,h1⟩=>LT.go h.m rs rg h1 fun v S' W' H' le rs' rg' h'=>h' W' H' le rs',mNt g h.m⟩
end
end Fx
namespace L2
open PySem PySem.Spec PyProof.Rows PySem.Builtin PySem.Builtin.ObjectAttr
noncomputable abbrev Cx.lp (X:Cx):Cx:=X.wish (notedBy (model X.prog X.w) X.A X.env (cameBackBy (model X.prog X.w) X.A X.env X.xe))
section
variable {X:Cx} {pos:Pos}
theorem lH {c:Expr} {body:List Stmt} {tc:TT} {tb:TS} (hc:PT X.lp c tc) (hb:PSs X.lp body tb):PS X (.While c body [] pos) (tWhile tc tb):=by
 intro pins s σ H D I h;obtain ⟨W,⟨m0,w0⟩,turn⟩:=h;refine wpAny_While (codeAny_whileLoop (fun n s'=>∃ σ' H',Inv X pins σ' H' s'/\W n σ' H') ?_ m0 ⟨σ,H,I,w0⟩);rintro n s1 ⟨σ1,H1,I1,w1⟩
 refine thn (hc pins s1 σ1 H1 _ (I1.wish _) (turn n σ1 H1 w1)) fun b s2 ⟨H2,I2,q2⟩=>?_;cases b with
 | true =>
  obtain ⟨N,hN,q2⟩:=q2;rw [xCg rfl];refine thn (hb pins s2 σ1 H2 _ I2 q2) fun f s3 q3=>?_;cases f with
  | next =>
   obtain ⟨σ3,H3,I3,n3⟩:=q3;obtain ⟨m',hm,w3⟩:=hN σ3 H3 n3;exact ⟨m',hm,σ3,H3,I3.unwish,w3⟩
  | cont =>
   obtain ⟨σ3,H3,I3,n3⟩:=q3;obtain ⟨m',hm,w3⟩:=hN σ3 H3 n3;exact ⟨m',hm,σ3,H3,I3.unwish,w3⟩
  | brk=>exact SP.unwish (f:=.next) q3
  | ret v=>exact SP.unwish (f:=.ret v) q3
 | false =>
  rw [xCf xAy];exact wpAny_execs_nil ⟨σ1,H2,I2.unwish,q2⟩
theorem p5 {tg iter:Expr} {body:List Stmt} {wi:TI} {g:TG} {tb:TS} (hc:X.calm=true) (hi:PI X tg iter wi) (hg:PG X.lp tg g) (hb:PSs X.lp body tb)
  (hs:∀ x,foldedSetIterable iter X.env x=pure x):PS X (.For tg iter body [] pos) (tFor wi g tb):=by
 intro pins s σ H D I h;refine wpAny_For (thn (hi pins s σ H _ I h) fun v s1 h1=>thn h1 fun itv s2 h2=>?_) hs;obtain ⟨it,fp,tn,J,H2,e,I2,T,st2,f2,W,⟨m0,w0⟩,turn⟩:=h2;subst e;have stat:∀ {H':Hp},(∀ b∈fp,H' b=none)->∀ b∈fp,FpOk X pins H' b:=fun hn b hb=>⟨hn b hb,(f2 b hb).2⟩
 refine codeAny_forLoop_any (fun n s'=>∃ i σ' H',Inv X pins σ' H' s'/\tn i s'.heap/\(∀ b∈fp,H' b=none)/\W i n σ' H') ?_ m0 ⟨0,σ,H2,I2,st2,fun b hb=>(f2 b hb).1,w0⟩;rintro n s3 ⟨i,σ3,H3,I3,st3,fr3,w3⟩
 rcases turn i n σ3 H3 w3 with ⟨stop,qn⟩ | ⟨go,N,hN,step⟩
 ·refine thn (T.done X rfl rfl rfl hc i pins s3 σ3 H3 _ I3 (stat fr3) st3 stop) fun r s4 ⟨hr,I4⟩=>?_;subst hr;exact wpAny_execs_nil ⟨σ3,H3,I4,qn⟩
 ·refine thn (T.item X rfl rfl rfl hc i pins s3 σ3 H3 _ I3 (stat fr3) st3 go) fun r s4 ⟨u,hr,h4⟩=>?_;subst hr;refine thn h4 fun _ s5 zz=>?_;obtain ⟨x,H5,I5,r5,y5,st5,fr5⟩:=zz;have I5':=I5.pinned (stat fr5) (T.obj _ _ st5);refine thn (hg _ s5 σ3 H5 x u _ (I5'.wish _) r5 (step x H5 y5)) fun _ s6 zz=>?_;obtain ⟨σ6,H6,I6,q6⟩:=zz;refine thn (hb _ s6 σ6 H6 _ I6 q6) fun f s7 q7=>?_;have again:∀ {σ7:St} {H7:Hp},Inv X (pins++pinsAt fp s5.heap) σ7 H7 s7->N σ7 H7->∃ m,m<n/\∃ i σ' H',Inv X pins σ' H' s7/\tn i s7.heap/\(∀ b∈fp,H' b=none)/\W i m σ' H':=fun {σ7 H7} I7 n7=>by
   obtain ⟨m',hm,w7⟩:=hN σ7 H7 n7;refine ⟨m',hm,i+1,σ7,H7,I7.unpinned,T.keep _ _ _ st5 fun b hb o e=>(I7.pin (b,o) (xBt _ (xBt _ (eJ hb e)))).1,fun b hb=>?_,w7⟩;obtain ⟨o,e,d⟩:=T.obj _ _ st5 b hb;exact (I7.pin (b,o) (xBt _ (xBt _ (eJ hb e)))).2.1
  cases f with
  | next=>obtain ⟨σ7,H7,I7,n7⟩:=q7;exact again I7.unwish n7
  | cont=>obtain ⟨σ7,H7,I7,n7⟩:=q7;exact again I7.unwish n7
  | brk=>obtain ⟨σ7,H7,I7,q7⟩:=q7;exact ⟨σ7,H7,I7.unwish.unpinned,q7⟩
  | ret v=>obtain ⟨x7,σ7,H7,I7,r7,q7⟩:=q7;exact ⟨x7,σ7,H7,I7.unwish.unpinned,r7,q7⟩
end
end L2
namespace L2
open PySem PySem.Spec PyProof.Rows PySem.Builtin PySem.Builtin.ObjectAttr
noncomputable def CXz (_:Program) (_:World):CXT:=fun _ _ _ _ _ _=>False
structure Catz (X:Cx) (Ex:St->XK):Prop where
 pass:PassS (CXz X.prog X.w) X Ex
theorem catz {X:Cx} {Ex:St->XK}:Catz X Ex:=⟨fun _ _ _ _ _ _ _ h=>h.elim⟩
theorem pY {X:Cx} {body:List Stmt} {h0:ExceptHandler} {hs:List ExceptHandler} {pos:Pos} {tb:TS} (hb:∀ (pins:List (Addr×Obj)),PSs (X.trial pins fun _ _=>False) body tb):PS X (.Try body (h0::hs) [] [] pos) tb:=by
 intro pins s σ H D I h;refine wpAny_Try_except ?_;refine wpAny_mono (hb pins [] s σ H D I.trial h) (fun f s1 q=>?_) fun _ _ z=>z.elim;have q':=SP.untrial I.ok q;cases f with
 | next=>exact wpAny_execs_nil q'
 | brk=>exact q'
 | cont=>exact q'
 | ret u=>exact q'
end L2
namespace Fx
open PySem PySem.Spec L2
open PyProof.Rows hiding St
structure FW (X:Cx) (B:Bs) (G:Gx Prop) (Ex:St->XK) (e:Expr) (c:TTx Prop):Prop where
 p:PW X e (LT B G Ex c)
 m:MonT G c
noncomputable def spF (B:Bs) (G:Gx Prop) (i np:Nat):Sp:=fun vs H Q E=>vs.length=np/\∃ W us S,RS B W S H/\Rvs B W us vs/\G.call i us S (XL B W E) (VL B W Q)
section
variable {B:Bs} {up:List (Str×Str)} {G:Gx Prop} {Ex:St->XK} {c a b d:TEx Prop} {as:TAx Prop} {t u:TTx Prop}
variable {X:Cx} {e ea eb ec ed:Expr} {es rest:List Expr} {pos p1 p2 apos:Pos} {x m:Str} {i:Nat} {pm:Pm} (g:MonG up G)
theorem wkW {t t':TT} (h:PW X e t) (w:∀ σ H Q,t' σ H Q->t σ H Q):PW X e t':=fun wh pins s σ H Q I q=>h wh pins s σ H Q I (w _ _ _ q)
omit g in
theorem rV (h:FT X B G Ex ea t):FW X B G Ex (.BoolOp .And [ea] pos) t:=⟨pS h.p,h.m⟩
theorem rU (h:FT X B G Ex ea t):FW X B G Ex (.BoolOp .Or [ea] pos) t:=⟨sT h.p,h.m⟩
theorem FW.ft (h:FW X B G Ex e t):FT X B G Ex e t:=⟨h.p.pt,h.m⟩
include g
theorem wz (h:FT X B G Ex ea t) (h2:FW X B G Ex (.BoolOp .And (eb::rest) pos) u):FW X B G Ex (.BoolOp .And (ea::eb::rest) pos) (tAn t u) :=
 ⟨wkW (sV h.p h2.p) fun τ H Q ⟨W,σ,S,rs,rg,hh⟩=>LT.go h.m rs rg hh fun v S' W' H' le rs' rg' h'=>by
  have h':=g.bk h';cases v with
  | true=>exact LT.go h2.m rs' rg' (h2.m.m (XL.upf le _) (fun _ _ h=>h) h') fun w S2 W2 H2 le2 rs2 _ h3=>h3 W2 H2 (le.trans le2) rs2
  | false=>exact h' W' H' le rs',mAn g h.m h2.m⟩
theorem wy (h:FT X B G Ex ea t) (h2:FW X B G Ex (.BoolOp .Or (eb::rest) pos) u):FW X B G Ex (.BoolOp .Or (ea::eb::rest) pos) (tOr' t u) :=
 ⟨wkW (vJ h.p h2.p) fun τ H Q ⟨W,σ,S,rs,rg,hh⟩=>LT.go h.m rs rg hh fun v S' W' H' le rs' rg' h'=>by
  have h':=g.bk h';cases v with
  | false=>exact LT.go h2.m rs' rg' (h2.m.m (XL.upf le _) (fun _ _ h=>h) h') fun w S2 W2 H2 le2 rs2 _ h3=>h3 W2 H2 (le.trans le2) rs2
  | true=>exact h' W' H' le rs',mOr g h.m h2.m⟩
theorem uT (h:FE X B G Ex e c):FE X B G Ex e (cB (tB c)) :=
 ⟨wkE h.p fun τ H Q ⟨W,σ,S,rs,rg,hh⟩=>LE.go h.m rs rg hh fun v S' W' u H' le rs' rv rg' h'=>by
  cases v <;> first | (exact (g.no h').elim) | exact h' W' u H' le rs' rv,mCB g (mB g h.m)⟩
theorem uS {op:CmpOp} {r:R2} (ho:OpR X (compareOp op) r) (hp:Pr2 B up pm r) (ha:FE X B G Ex ea a) (hb:FE X B G Ex eb b) (hm:behindInMarks op eb=false):FE X B G Ex (.Compare ea [op] [eb] pos) (cP pm (lst2 a b)) :=
 ⟨wkE (kE ho ha.p hb.p hm) fun τ H Q h=>(LE.p2 g ha.m hb.m h).imp ha.m fun x H1 h1=>h1.imp hb.m fun y H2 ⟨W,S,v,w,z,S',rs,r1,r2,e,q⟩=>hp rs r1 r2 e q,mP g (mAC g ha.m (mAC g hb.m (mAN g)))⟩
theorem oQ (h:FE X B G Ex ea (cB t)) (mt:MonT G t):FE X B G Ex (.UnaryOp .Not ea pos) (cB (tNt t)) :=
 ⟨wkE (tJ h.p) fun τ H Q ⟨W,σ,S,rs,rg,hh⟩=>⟨W,σ,S,rs,rg,mt.m (fun _ _ h=>h) (fun v S' h' W' u H' le rs' rv=>⟨v,rv,h' W' (.bl (!v)) H' le rs' rfl⟩) hh⟩,mCB g (mNt g mt)⟩
theorem uU (h:FE X B G Ex ea (cB t)) (mt:MonT G t) (h2:FE X B G Ex (.BoolOp .And (eb::rest) pos) (cB u)) (mu:MonT G u):FE X B G Ex (.BoolOp .And (ea::eb::rest) pos) (cB (tAn t u)) :=
 ⟨wkE (tP h.p h2.p) fun τ H Q ⟨W,σ,S,rs,rg,hh⟩=>⟨W,σ,S,rs,rg,mt.m (fun _ _ h=>h) (fun v S' h' W' w H' le rs' rv=>⟨v,rv,by
  have h':=g.bk h';cases v with
  | true=>exact ⟨W',σ,S',rs',rg.mono le,mu.m (XL.upf le _) (fun z S2 h3 W2 y H2 le2 rs2 rv2=>h3 W2 y H2 (le.trans le2) rs2 rv2) h'⟩
  | false=>exact h' W' _ H' le rs' rfl⟩) hh⟩,mCB g (mAn g mt mu)⟩
theorem wH (h:FE X B G Ex ea (cB t)) (mt:MonT G t) (h2:FE X B G Ex (.BoolOp .Or (eb::rest) pos) (cB u)) (mu:MonT G u):FE X B G Ex (.BoolOp .Or (ea::eb::rest) pos) (cB (tOr' t u)) :=
 ⟨wkE (vO h.p h2.p) fun τ H Q ⟨W,σ,S,rs,rg,hh⟩=>⟨W,σ,S,rs,rg,mt.m (fun _ _ h=>h) (fun v S' h' W' w H' le rs' rv=>⟨v,rv,by
  have h':=g.bk h';cases v with
  | false=>exact ⟨W',σ,S',rs',rg.mono le,mu.m (XL.upf le _) (fun z S2 h3 W2 y H2 le2 rs2 rv2=>h3 W2 y H2 (le.trans le2) rs2 rv2) h'⟩
  | true=>exact h' W' _ H' le rs' rfl⟩) hh⟩,mCB g (mOr g mt mu)⟩
omit g in
theorem rY {op:BoolOp} (h:FE X B G Ex ea c):FE X B G Ex (.BoolOp op [ea] pos) c:=⟨tI h.p,h.m⟩
theorem xx (h:FT X B G Ex ec t) (ha:FE X B G Ex ea a) (hb:FE X B G Ex eb b):FE X B G Ex (.IfExp ec ea eb pos) (cIf t a b) :=
 ⟨wkE (nQ h.p ha.p hb.p) fun τ H Q ⟨W,σ,S,rs,rg,hh⟩=>LT.go h.m rs rg hh fun v S' W' H' le rs' rg' h'=>by
  have h':=g.bk h';cases v with
  | true=>exact LE.go ha.m rs' rg' (ha.m.m (XL.upf le _) (fun _ _ h=>h) h') fun w S2 W2 u2 H2 le2 rs2 rv2 _ h3=>h3 W2 u2 H2 (le.trans le2) rs2 rv2
  | false=>exact LE.go hb.m rs' rg' (hb.m.m (XL.upf le _) (fun _ _ h=>h) h') fun w S2 W2 u2 H2 le2 rs2 rv2 _ h3=>h3 W2 u2 H2 (le.trans le2) rs2 rv2,mIf g h.m ha.m hb.m⟩
theorem li {p q:Pm} {r r':R2} (hp:Pr2 B up p r) (hq:Pr2 B up q r') (ma:MonE G a) (mb:MonE G b) (mc:MonE G c) {τ:St} {H:Hp} {Q:Bool->Hp->Prop} (h:LT B G Ex (tCh p q a b c) τ H Q) :
  tChain r r' (LE B G Ex a) (LE B G Ex b) (LE B G Ex c) τ H (fun x H'=>∃ k,x=V.bl k/\Q k H'):=by
 obtain ⟨W,σ,S,rs,rg,hh⟩:=h;refine LE.go ma rs rg hh fun v S1 W1 u1 H1 le1 rs1 rv1 rg1 h1=>?_;refine LE.go mb rs1 rg1 (mb.m (XL.upf le1 _) (fun _ _ h=>h) h1) fun w S2 W2 u2 H2 le2 rs2 rv2 rg2 h2=>?_;obtain ⟨z,S3,e,q3⟩:=g.pok h2;refine hp rs2 (rv1.mono le2) rv2 e fun W3 u3 H3 le3 rs3 rv3=>?_;cases z <;> first | (exact (g.no q3).elim) | skip
 refine ⟨_,rv3,?_⟩;have q3:=g.bk q3;split
 ·next hb =>
  rw [xCg hb] at q3;refine LE.go mc rs3 ((rg2.mono le3)) (mc.m (XL.upf (le1.trans (le2.trans le3)) _) (fun _ _ h=>h) q3) fun y S4 W4 u4 H4 le4 rs4 rv4 _ h4=>?_;obtain ⟨z2,S5,e2,q5⟩:=g.pok h4;refine hq rs4 ((rv2.mono le3).mono le4) rv4 e2 fun W5 u5 H5 le5 rs5 rv5=>?_;cases z2 <;> first | (exact (g.no q5).elim) | exact ⟨_,rv5,q5 W5 H5 (le1.trans (le2.trans (le3.trans (le4.trans le5)))) rs5⟩
 ·next hb =>
  rw [xCf hb] at q3;exact ⟨false,rfl,q3 W3 H3 (le1.trans (le2.trans le3)) rs3⟩
theorem xD {op op':CmpOp} {p q:Pm} {r r':R2} (ho:OpR X (compareOp op) r) (ho':OpR X (compareOp op') r') (hp:Pr2 B up p r) (hq:Pr2 B up q r') (ha:FE X B G Ex ea a) (hb:FE X B G Ex eb b) (hc:FE X B G Ex ec c) (hm:lastMarks [op,op'] [eb,ec]=false):FT X B G Ex (.Compare ea [op,op'] [eb,ec] pos) (tCh p q a b c) :=
 ⟨wkT (nz ho ho' ha.p hb.p hc.p hm) fun τ H Q h=>li g hp hq ha.m hb.m hc.m h,mCh g ha.m hb.m hc.m⟩
theorem wS {op op':CmpOp} {p q:Pm} {r r':R2} (ho:OpR X (compareOp op) r) (ho':OpR X (compareOp op') r') (hp:Pr2 B up p r) (hq:Pr2 B up q r') (ha:FE X B G Ex ea a) (hb:FE X B G Ex eb b) (hc:FE X B G Ex ec c) (hm:lastMarks [op,op'] [eb,ec]=false)
  (hi:∀ x y H Q,r x y H Q->r x y H Q) (mo:∀ {x y H} {Q Q':VK},(∀ v H,Q v H->Q' v H)->r x y H Q->r x y H Q') (mo':∀ {x y H} {Q Q':VK},(∀ v H,Q v H->Q' v H)->r' x y H Q->r' x y H Q'):FE X B G Ex (.Compare ea [op,op'] [eb,ec] pos) (cB (tCh p q a b c)) :=
 ⟨wkE (nT ho ho' ha.p hb.p hc.p hm) fun τ H Q zz=>by
  obtain ⟨W,σ,S,rs,rg,hh⟩:=zz;have h0:LT B G Ex (tCh p q a b c) τ H (fun k H'=>Q (.bl k) H'):=⟨W,σ,S,rs,rg,(mCh g ha.m hb.m hc.m).m (fun _ _ h=>h) (fun v S' h' W' H' le rs'=>h' W' (.bl v) H' le rs' rfl) hh⟩
  have h1:=li g hp hq ha.m hb.m hc.m h0;refine LE.imp ha.m h1 fun x H1 h2=>LE.imp hb.m h2 fun y H2 h3=>mo (fun z H3 ⟨k,e,h4⟩=>⟨k,e,?_⟩) h3;split
  ·next hk=>rw [xCg hk] at h4;exact LE.imp hc.m h4 fun w H4 h5=>mo' (fun z5 H5 ⟨k5,e5,q5⟩=>by rw [e5];exact q5) h5
  ·next hk=>rw [xCf hk] at h4;obtain ⟨k5,e5,q5⟩:=h4;cases e5;exact q5,mCB g (mCh g ha.m hb.m hc.m)⟩
variable {k:Nat} {f:Addr} {fd:FuncData} {ps:List Str} {np:Nat} {ds:List Value} {dvs:List V} {dus:List U}
theorem f_call (F:FnOk X.prog X.w X.K X.mg X.base (CXz X.prog X.w) k f fd ps (spF B G i np)) (hr:Room k X.A) (hg:Gl X x) (hm:X.mg x=some (.ref f)) (hk:PySem.W.keepIn X.K (.ref f)=true) (hb:Binds X.K fd ps ds) (hd:Vals dvs ds) (hdu:∀ W,Rvs B W dus dvs) (hx:PassS (CXz X.prog X.w) X Ex)
  (hdb:(x == ("__debug__":Str))=false) (hs:FA X B G Ex es as) (h0:es=[]->as=aN) (hn:es.length+dus.length=np) (hst:es.all noStar=true):FE X B G Ex (.Call (.Name x p1) es [] pos) (cF i as dus):=by
 refine ⟨?_,mF g hs.m⟩;have core:∀ τ H Q,LE B G Ex (cF i as dus) τ H Q->tCallS (spF B G i np) dvs Ex (LA B G Ex as) τ H Q:=fun τ H Q ⟨W,σ,S,rs,rg,hh⟩=>LA.go hs.m rs rg hh fun v S' W' u H' hl le rs' rv rg' h' =>
  ⟨by rw [xAb,rv.length,(hdu W').length,hl];exact hn,W',v++dus,S',rs',rv.app (hdu W'),g.call (XL.upf le _) (fun _ _=>VL.inc le) h'⟩
 cases es with
 | nil =>
  rw [h0 rfl] at core ⊢;refine wkE (lN F hr hg hm hk hb hd hx hdb) fun τ H Q h=>?_;obtain ⟨W,σ,S,rs,rg,hh⟩:=core τ H Q h;exact hh W [] H .refl rs rfl
 | cons e es =>
  rw [List.all_cons,Bool.and_eq_true] at hst;exact wkE (nU F hr hg hm hk hb hd hx hs.p hdb (dh hst.1) (dL hst.2)) core
end
end Fx
namespace Fx
open PySem PySem.Spec L2
open PyProof.Rows hiding St
section
variable {B:Bs} {up:List (Str×Str)}
theorem Rvs.inv1 {W:Wd} {v:U} {us:List V} (r:Rvs B W [v] us):∃ u,us=[u]/\Rv B W v u:=by obtain ⟨u,t,rfl,h,h2⟩:=r;rw [show t=[] from h2];exact ⟨u,rfl,h⟩
theorem Rvs.inv2 {W:Wd} {v w:U} {us:List V} (r:Rvs B W [v,w] us):∃ u1 u2,us=[u1,u2]/\Rv B W v u1/\Rv B W w u2:=by
 obtain ⟨u,t,rfl,h,h2⟩:=r;obtain ⟨u2,rfl,h3⟩:=Rvs.inv1 h2;exact ⟨u,u2,rfl,h,h3⟩
theorem xj {wo:World} (hk:∀ {W:Wd} {p:Addr} {kvs:List (Str×U)} {no:List Str} {x:Str} {v:U} {H:Hp} {Q:VK},B.kd p kvs no->getF x kvs=some v->(∀ u,Rv B W v u->Q u H)->rIxA wo B.K (.ref p) (.str x) H Q):Pr2 B up .ix (rIxA wo B.K):=by
 intro W S H v w u1 u2 z S' Q rs r1 r2 h q;change ixU v w S=_ at h;have seq:∀ xs,sqU S v=some xs->(match w with
   | .int i=>opt (atI xs i) S
   | _=>Res.stuck) = .ok z S'->rIxA wo B.K u1 u2 H Q:=fun xs e h=>by
  split at h
  ·unfold opt at h;split at h
   ·next i v' e2 =>
    cases h;obtain ⟨p,ys,rfl,sq,rr⟩:=fo rs r1 e;obtain ⟨y,e3,ry⟩:=vm rr e2;rcases sq with sq | sq
    ·exact .inl (.inl (.inl ⟨p,ys,_,y,rfl,r2,sq,e3,q.here rs ry⟩))
    ·exact .inl (.inl (.inr (.inl ⟨p,ys,_,y,rfl,r2,sq,e3,q.here rs ry⟩)))
   ·cases h
  ·cases h
 unfold ixU at h;split at h
 ·next kvs =>
  split at h
  ·next x =>
   unfold opt at h;split at h
   ·next v' e =>
    cases h;obtain ⟨p,rfl,hd⟩:=r1;rw [show u2 = .str x from r2];exact hk (W:=W) hd e fun u ru=>q.here rs ru
   ·cases h
  ·cases h
 ·split at h
  ·split at h
   ·next zz i c e =>
    obtain ⟨hl,e2⟩:=dW h;cases e2;exact .inl (.inl (.inr (.inr ⟨_,_,_,r1,r2,hl,e,q.here rs rfl⟩)))
   ·cases h
  ·cases h
 ·next p =>
  split at h
  ·next kvs e =>
   split at h
   ·next k ek =>
    unfold opt at h;split at h
    ·next v' e3 =>
     cases h;obtain ⟨a,g,hm,hh,ro,_⟩:=rs.here e;obtain ⟨a',e2,hm'⟩:=r1;rw [hm] at hm';cases hm';obtain ⟨ks,rfl,rn⟩:=ro;obtain ⟨y,ey,ry⟩:=(gY (k:=k) rn).1 _ e3;exact .inl (.inr ⟨a,y,e2,.inl ⟨ks,k,.inl hh,im ek r2,ey.symm⟩,q.here rs ry⟩)
    ·cases h
   ·cases h
  ·next xs e=>exact seq xs (by show lsU S (.ref p)=_;unfold lsU;dsimp only;rw [e]) h
  ·cases h
 ·split at h
  ·next xs e=>exact seq xs e h
  ·cases h
noncomputable def cLenA (K:xFr):List V->Hp->VK->Prop:=fun xs H Q=>cLen K xs H Q\/cLenD xs H Q
theorem vI {X:Cx}:CallR X (.builtin "len") (cLenA X.K):=CallR.or u7 qV
theorem v4:PrN B up .len (cLenA B.K):=by
 intro W S H vs us z S' Q rs rv h q;cases vs with
 | nil=>cases h
 | cons v t=>cases t with
  | cons _ _=>cases h
  | nil =>
   obtain ⟨u,rfl,r1⟩:=rv.inv1;change lenU v S=_ at h;have seq:∀ xs,sqU S v=some xs->z = .int xs.length->S'=S->cLenA B.K [u] H Q:=fun xs e hz hs=>by
    subst hz hs;obtain ⟨p,ys,rfl,sq,rr⟩:=fo rs r1 e;have:=q.here rs (u:=.int xs.length) rfl;rw [<- rr.length] at this;rcases sq with sq | sq
    ·exact .inl ⟨_,_,rfl,.inl ⟨ys,sq,rfl⟩,this⟩
    ·exact .inl ⟨_,_,rfl,.inr ⟨ys,sq,rfl⟩,this⟩
   unfold lenU at h;split at h
   ·obtain ⟨hl,e2⟩:=dW h;cases e2;rw [show u = .str _ from r1];exact .inl ⟨_,_,rfl,⟨hl,rfl⟩,q.here rs rfl⟩
   ·next p =>
    split at h
    ·next xs e=>cases h;exact seq xs (by show lsU S (.ref p)=_;unfold lsU;dsimp only;rw [e]) rfl rfl
    ·next kvs e =>
     cases h;obtain ⟨a,g,hm,hh,ro,_⟩:=rs.here e;obtain ⟨a',e2,hm'⟩:=r1;rw [hm] at hm';cases hm';obtain ⟨ks,rfl,rn⟩:=ro;have:=q.here rs (u:=.int kvs.length) rfl;rw [<- rn.length] at this;subst e2;exact .inr ⟨a,ks,rfl,hh,this⟩
    ·cases h
   ·split at h
    ·next xs e=>cases h;exact seq xs e rfl rfl
    ·cases h
theorem vs1 {vs:List U} {p:Pm} {S:So} {z:U} {S':So} (h:pr up p vs S = .ok z S') (h0:pr up p [] S = .stuck) (h2:∀ a b r,pr up p (a::b::r) S = .stuck):∃ v,vs=[v]:=by
 cases vs with
 | nil=>rw [h0] at h;cases h
 | cons v t=>cases t with
  | nil=>exact ⟨v,rfl⟩
  | cons _ _=>rw [h2] at h;cases h
theorem we:PrN B up .abs (fun xs H Q=>∃ i,xs=[.int i]/\Q (.int (if i<0 then -i else i)) H):=by
 intro W S H vs us z S' Q rs rv h q;obtain ⟨v,rfl⟩:=vs1 h rfl fun a b r=>by cases a <;> rfl
 obtain ⟨u,rfl,r1⟩:=rv.inv1;cases v <;> first | (cases h;done) | (cases h;exact ⟨_,by rw [show u=_ from r1],q.here rs rfl⟩)
theorem v0:PrN B up .max (fun xs H Q=>∃ i j,xs=[.int i,.int j]/\Q (.int (if j > i then j else i)) H):=by
 intro W S H vs us z S' Q rs rv h q;obtain ⟨i,j,rfl,rfl,rfl⟩:=oC (f:=fun i j=>.int (if j > i then j else i)) h;obtain ⟨u1,u2,rfl,r1,r2⟩:=rv.inv2;exact ⟨i,j,by rw [show u1=_ from r1,show u2=_ from r2],q.here rs rfl⟩
theorem tR:PrN B up .int1 cInt1:=by
 intro W S H vs us z S' Q rs rv h q;obtain ⟨v,rfl⟩:=vs1 h rfl fun a b r=>by cases a <;> rfl
 obtain ⟨u,rfl,r1⟩:=rv.inv1;cases v <;> first | (cases h;done) | (cases h;rw [show u=_ from r1];first | exact .inl ⟨_,rfl,q.here rs rfl⟩ | exact .inr ⟨_,rfl,q.here rs rfl⟩)
theorem qj:PrN B up .tupOf (cTuple B.K):=by
 intro W S H vs us z S' Q rs rv h q;obtain ⟨v,rfl⟩:=vs1 h rfl fun a b r=>by cases a <;> rfl
 obtain ⟨u,rfl,r1⟩:=rv.inv1;change tupOfU v S=_ at h;unfold tupOfU at h;split at h
 ·cases h;obtain ⟨p,ys,rfl,f,rr⟩:=r1;exact ⟨p,ys,rfl,.inr ⟨.of (rs.fz _ _ f),q.here rs ⟨p,ys,rfl,f,rr⟩⟩⟩
 ·split at h
  ·next xs e =>
   cases h;obtain ⟨p,ys,rfl,sq,rr⟩:=gj rs r1 e;exact ⟨p,ys,rfl,.inl ⟨sq,fun l hl=>q.tup rs rr hl⟩⟩
  ·cases h
theorem qo {m:Bool}:PrN B up (.lstOf m) (cList B.K):=by
 intro W S H vs us z S' Q rs rv h q;obtain ⟨v,rfl⟩:=vs1 h rfl fun a b r=>by cases a <;> rfl
 obtain ⟨u,rfl,r1⟩:=rv.inv1;delta pr at h;dsimp only at h;split at h
 ·next xs e =>
  obtain ⟨p,ys,rfl,sq,rr⟩:=fo rs r1 e;exact ⟨p,ys,rfl,sq,fun l hl=>gi h q rs rr hl⟩
 ·cases h
theorem ql:PrN B up .sortS (fun xs H Q=>∃ (d:Addr) (kvs:List (Key×V)) (ws:List Str),xs=[.ref d]/\Rd H d (.dK kvs)/\kvs.map (·.1)=ws.map Sum.inr/\ws.length<=4/\∀ (l:Addr),H l=none->Q (.ref l) (upd H l (.lst ((SortS.srtW ws).map V.str)))):=by
 intro W S H vs us z S' Q rs rv h q;obtain ⟨v,rfl⟩:=vs1 h rfl fun a b r=>by cases a <;> rfl
 obtain ⟨u,rfl,r1⟩:=rv.inv1;delta pr at h;dsimp only at h;split at h
 ·next ws e =>
  obtain ⟨kvs,e1,e2⟩:=Option.bind_eq_some_iff.mp e;split at h
  ·next h4 =>
   obtain ⟨p,ks,rfl,hp,rn⟩:=iy rs r1 e1;refine ⟨p,ks,ws,rfl,.inl hp,kh rn e2,Nat.le_of_ble_eq_true h4,fun l hl=>gi h q rs ?_ hl⟩;generalize SortS.srtW ws=zs;induction zs with
   | nil=>rfl
   | cons z zs ih=>exact ⟨_,_,rfl,rfl,ih⟩
  ·cases h
 ·cases h
theorem qp:PrN B up .dctOf cDictC:=by
 intro W S H vs us z S' Q rs rv h q;obtain ⟨v,rfl⟩:=vs1 h rfl fun a b r=>by cases a <;> rfl
 obtain ⟨u,rfl,r1⟩:=rv.inv1;cases v <;> try (cases h;done)
 delta pr at h;dsimp only at h;split at h
 ·next kvs e =>
  cases h;obtain ⟨a,g,hm,hh,ro,_⟩:=rs.here e;obtain ⟨a',e2,hm'⟩:=r1;rw [hm] at hm';cases hm';obtain ⟨ks,rfl,rn⟩:=ro;refine ⟨a,ks,by rw [e2],.inl hh,fun p hp=>?_⟩;have le:W.Le { W with μ:=W.μ++[p] }:=⟨fun _ _ h=>h,fun _ _ h=>d8 h,rfl⟩
  obtain ⟨_,rs',ha⟩:=rs.push (o:=.dct kvs) (h:=.dK ks) hp ⟨ks,rfl,rn.mono le⟩;exact q _ _ _ le rs' ⟨p,rfl,ha⟩
 ·cases h
theorem pC {W:Wd}:∀ {vs:List U} {us:List V} {bs:List Bool},blL vs=some bs->Rvs B W vs us->us=bs.map V.bl
 | [],_,_,h,r=>by cases h;exact r
 | x::t,_,_,h,r=>by
  obtain ⟨u,s,rfl,h1,h2⟩:=r;cases x <;> try (cases h;done)
  simp only [blL] at h;cases e:blL t with
  | none=>rw [e] at h;cases h
  | some bs =>
   rw [e] at h;cases h;rw [pC e h2,show u=_ from h1];rfl
theorem kg {W:Wd}:∀ {vs:List U} {us:List V} {bs:List Str},strL vs=some bs->Rvs B W vs us->us=bs.map V.str
 | [],_,_,h,r=>by cases h;exact r
 | x::t,_,_,h,r=>by
  obtain ⟨u,s,rfl,h1,h2⟩:=r;cases x <;> try (cases h;done)
  simp only [strL] at h;cases e:strL t with
  | none=>rw [e] at h;cases h
  | some bs =>
   rw [e] at h;cases h;rw [kg e h2,show u=_ from h1];rfl
theorem wb:PrN B up .all (cAll B.K):=by
 intro W S H vs us z S' Q rs rv h q;obtain ⟨v,rfl⟩:=vs1 h rfl fun a b r=>by cases a <;> rfl
 obtain ⟨u,rfl,r1⟩:=rv.inv1;cases v <;> try (cases h;done)
 delta pr at h;dsimp only at h;split at h
 ·next bs e =>
  cases h;obtain ⟨p,ys,rfl,f,rr⟩:=r1;refine ⟨p,bs,rfl,.of (by rw [<- pC e rr];exact rs.fz _ _ f),fun b hb=>?_⟩;subst hb;exact q.here rs rfl
 ·cases h
end
section
variable {B:Bs} {up:List (Str×Str)} {G:Gx Prop} {Ex:St->XK} {c a b d:TEx Prop} {as:TAx Prop}
variable {X:Cx} {e ea eb:Expr} {es:List Expr} {pos p1 p2 apos:Pos} {x:Str} {id T:String} {pm:Pm} {r:List V->Hp->VK->Prop} (g:MonG up G)
include g
theorem oS (hc:CallR X (.builtin id) r) (hp:PrN B up pm r) (hg:Gl X x) (hm:X.mg x=none) (hv:bootBuiltins x=some (.builtin id)) (hs:FA X B G Ex (e::es) as) (h:(e::es).all noStar=true) (hn:x≠"__name__") (hdb:(x == ("__debug__":Str))=false):FE X B G Ex (.Call (.Name x p1) (e::es) [] pos) (cP pm as) :=
 ⟨wkE (kF hc hg hm hv hs.p h hn hdb) fun τ H Q h=>(LE.pn g hs.m h).imp hs.m fun us H1 ⟨W,S,vs,z,S',rs,rv,e,q⟩=>hp rs rv e q,mP g hs.m⟩
theorem qQ (hc:CallR X (.type T) r) (hp:PrN B up pm r) (hg:Gl X x) (hm:X.mg x=none) (hv:bootBuiltins x=some (.type T)) (hs:FA X B G Ex (e::es) as) (h:(e::es).all noStar=true) (hn:x≠"__name__") (hdb:(x == ("__debug__":Str))=false):FE X B G Ex (.Call (.Name x p1) (e::es) [] pos) (cP pm as) :=
 ⟨wkE (rJ hc hg hm hv hs.p h hn hdb) fun τ H Q h=>(LE.pn g hs.m h).imp hs.m fun us H1 ⟨W,S,vs,z,S',rs,rv,e,q⟩=>hp rs rv e q,mP g hs.m⟩
end
end Fx
namespace Fx
open PySem PySem.Spec L2
open PyProof.Rows hiding St
section
variable {B:Bs} {W:Wd} {S S':So} {H:Hp}
theorem fB {f:Str}:∀ {fs:List (Str×U)} {vs:List (Str×V)},Rn B W fs vs->(∀ v,getF f fs=some v->∃ u,vs.lookup f=some u/\Rv B W v u)/\(getF f fs=none->vs.lookup f=none)
 | [],_,r=>by rw [show _=[] from r];exact ⟨(fun v h=>nomatch h),fun _=>rfl⟩
 | (j,x)::t,_,r=>by
  obtain ⟨v,q,rfl,h1,h2⟩:=r;by_cases e:f=j
  ·subst e;unfold getF;rw [xCg rfl];refine ⟨fun v' h=>?_,(fun h=>nomatch h)⟩;cases h;exact ⟨v,by simp [List.lookup],h1⟩
  ·have hb:(f == j)=false:=beq_eq_false_iff_ne.mpr e;unfold getF;rw [xCf e];simp only [List.lookup,hb];exact fB h2
theorem ko {f:Str} {x:U} {y:V} (g:Rv B W x y):∀ {fs:List (Str×U)} {vs:List (Str×V)},Rn B W fs vs->Rn B W (putF f x fs) (L2.putF f y vs)
 | [],_,r=>by rw [show _=[] from r];exact ⟨y,[],rfl,g,rfl⟩
 | (j,z)::t,_,r=>by
  obtain ⟨v,q,rfl,h1,h2⟩:=r;unfold putF L2.putF;by_cases e:j=f
  ·rw [xCg e,xCg e];exact ⟨y,q,rfl,g,h2⟩
  ·rw [xCf e,xCf e];exact ⟨v,_,rfl,h1,ko g h2⟩
theorem Rn.app {κ:Type}:∀ {us ws:List (κ×U)} {vs zs:List (κ×V)},Rn B W us vs->Rn B W ws zs->Rn B W (us++ws) (vs++zs)
 | [],_,_,_,h,g=>by rw [show _=[] from h];exact g
 | _::_,_,_,_,h,g=>by obtain ⟨v,r,rfl,h1,h2⟩:=h;exact ⟨v,r++_,rfl,h1,Rn.app h2 g⟩
theorem pT {k:Key} {x:U} {y:V} (g:Rv B W x y) {fs:List (Key×U)} {vs:List (Key×V)} (r:Rn B W fs vs):Rn B W (putK k x fs) (L2.putK vs k y):=by
 have an:(vs.any fun kv=>decide (kv.1=k))=(fs.any fun kv=>decide (kv.1=k)):=by
  clear g;induction fs generalizing vs with
  | nil=>rw [show vs=[] from r];rfl
  | cons p t ih=>obtain ⟨v,q,rfl,h1,h2⟩:=r;rw [List.any_cons,List.any_cons,ih h2]
 unfold putK L2.putK;rw [an];split
 ·next hh =>
  clear hh an;induction fs generalizing vs with
  | nil=>rw [show vs=[] from r];rfl
  | cons p t ih =>
   obtain ⟨v,q,rfl,h1,h2⟩:=r;rw [xBs,xBs];by_cases e:p.1=k
   ·rw [xCg e,xCg e];exact ⟨y,_,rfl,g,ih h2⟩
   ·rw [xCf e,xCf e];exact ⟨v,_,rfl,h1,ih h2⟩
 ·exact r.app ⟨y,[],rfl,g,rfl⟩
theorem ip {p:Nat} {f:Str->List (Str×U)->Res} {z:U} {u:V} (rs:RS B W S H) (r1:Rv B W (.ref p) u) (h:insU p S f = .ok z S'):∃ C fs a c dx vs,at? S p=some (.ins C fs)/\f C fs = .ok z S'/\u = .ref a/\at? W.μ p=some a/\B.cl C c/\H a=some (.ins c dx vs)/\Rn B W fs vs:=by
 unfold insU at h;split at h
 ·next C fs e =>
  obtain ⟨a,g,hm,hh,ro,_⟩:=rs.here e;obtain ⟨a',e2,hm'⟩:=r1;rw [hm] at hm';cases hm';obtain ⟨c,dx,vs,hc,rfl,rn⟩:=ro;exact ⟨C,fs,a,c,dx,vs,e,h,e2,hm,hc,hh,rn⟩
 ·cases h
theorem kL {p:Nat} {f:List U->Res} {z:U} {u:V} (rs:RS B W S H) (r1:Rv B W (.ref p) u) (h:lstU p S f = .ok z S'):∃ xs a vs,at? S p=some (.lst xs)/\f xs = .ok z S'/\u = .ref a/\at? W.μ p=some a/\H a=some (.lst vs)/\Rvs B W xs vs:=by
 unfold lstU at h;split at h
 ·next xs e =>
  obtain ⟨a,g,hm,hh,ro,_⟩:=rs.here e;obtain ⟨a',e2,hm'⟩:=r1;rw [hm] at hm';cases hm';obtain ⟨vs,rfl,rn⟩:=ro;exact ⟨xs,a,vs,e,h,e2,hm,hh,rn⟩
 ·cases h
end
section
variable {B:Bs} {up:List (Str×Str)} {G:Gx Prop} {Ex:St->XK} {c a b d:TEx Prop} {as:TAx Prop}
variable {X:Cx} {e ea eb o value:Expr} {es:List Expr} {pos p1 p2 apos cpos pos':Pos} {x f m C:Str} {id T:String} {pm:Pm} {i:Nat} (g:MonG up G)
structure ClF (B:Bs) (flds:List Str):Prop where
 c:∀ {C c},B.cl C c->Cls B.K c
 n:∀ {C c f},B.cl C c->f∈flds->NoAttr B.K c f
variable {fl:List Str}
include g
theorem wN (hK:X.K=B.K) (F:ClF B fl) (hf:f∈fl) (ho:FE X B G Ex o a) (h:noCall o=true):FE X B G Ex (.Attribute o f pos) (cP (.fld f) (aC a aN)) :=
 ⟨wkE (tN ho.p (fh h)) fun τ H Q h=>(LE.p1 g ho.m h).imp ho.m fun u H1 zz=>by
  obtain ⟨W,S,v,z,S',rs,r1,e,q⟩:=zz;cases v <;> try (cases e;done)
  obtain ⟨C,fs,a,c,dx,vs,_,h2,e2,_,hc,hh,rn⟩:=ip rs r1 e;unfold opt at h2;split at h2
  ·next v' e3 =>
   cases h2;obtain ⟨y,e4,ry⟩:=(fB (f:=f) rn).1 _ e3;exact ⟨a,c,dx,vs,y,e2,hh,by rw [hK];exact F.c hc,by rw [hK];exact F.n hc hf,e4,q.here rs ry⟩
  ·(cases h2),mP g (mAC g ho.m (mAN g))⟩
theorem uN {k np:Nat} {f' c':Addr} {fd:FuncData} {ps:List Str} {ds:List Value} {dvs:List V} {dus:List U} (hcl:∀ c,B.cl C c->c=c') (cc:Cls X.K c') (hm:Meth X.K c' m f') (F:FnOk X.prog X.w X.K X.mg X.base (CXz X.prog X.w) k f' fd ps (spF B G i np)) (hr:Room k X.A) (hb:Binds X.K fd ps ds) (hd:Vals dvs ds) (hdu:∀ W,Rvs B W dus dvs) (hx:PassS (CXz X.prog X.w) X Ex)
  (ho:FE X B G Ex o a) (hs:FA X B G Ex es as) (h0:es=[]->as=aN) (hn:es.length+1+dus.length=np) (hst:es.all noStar=true)
  (ht:∃ pl,eval (.Call (.Attribute o m apos) es [] pos) X.env=(do
   let ov <- eval o X.env
   standAt apos.atName
   let (f,first) <- holding [ov] (getMethod ov m pl)
   callWith pos f first (backTo pos (starEach es X.env)) (backToKw pos (keywordEach [] X.env)))):FE X B G Ex (.Call (.Attribute o m apos) es [] pos) (cM C m i a as dus):=by
 refine ⟨?_,mM g ho.m hs.m⟩;have core:∀ τ H Q,LE B G Ex (cM C m i a as dus) τ H Q->tMethS c' m (spF B G i np) dvs Ex (LE B G Ex a) (LA B G Ex as) τ H Q:=fun τ H Q ⟨W,σ,S,rs,rg,hh⟩=>LE.go ho.m rs rg hh fun v S1 W1 u1 H1 le1 rs1 rv1 rg1 h1=>by
  obtain ⟨w,S2,e,h2⟩:=g.pok h1;cases v <;> try (cases e;done)
  obtain ⟨D,fs,aa,c,dx,vs,_,e2,e3,hμ,hc,hha,rn⟩:=ip rs1 rv1 e;split at e2
  ·next hD =>
   have hD:=xBe hD;subst hD;split at e2
   ·next hf =>
    cases e2;obtain rfl:=hcl c hc;refine ⟨aa,dx,vs,e3,hha,(fB (f:=m) rn).2 hf,?_⟩;refine LA.go hs.m rs1 rg1 (hs.m.m (XL.upf le1 _) (fun _ _ _ h=>h) h2) fun ws S3 W3 us H3 hl le3 rs3 rv3 _ h3=>?_;exact ⟨by rw [xAo,xAb,rv3.length,(hdu W3).length,hl,<- hn];lia,W3,.ref _::(ws++dus),S3,rs3,⟨u1,_,rfl,rv1.mono le3,rv3.app (hdu W3)⟩,g.call (XL.upf (le1.trans le3) _) (fun _ _=>VL.inc (le1.trans le3)) h3⟩
   ·cases e2
  ·cases e2
 obtain ⟨pl,ht⟩:=ht;cases es with
 | nil =>
  rw [h0 rfl] at core ⊢;refine wkE (lL (pl:=pl) ho.p cc hm F hr hb hd hx ht) fun τ H Q h=>?_;refine (core τ H Q h).imp ho.m fun u H1 ⟨a',dx,fs,e1,e2,e3,h4⟩=>⟨a',dx,fs,e1,e2,e3,?_⟩
  obtain ⟨W,σ,S,rs,rg,hh⟩:=h4;exact hh W [] H1 .refl rs rfl
 | cons e es =>
  rw [List.all_cons,Bool.and_eq_true] at hst;exact wkE (nO (pl:=pl) ho.p cc hm F hr hb hd hx hs.p (dh hst.1) (dL hst.2) ht) core
omit g in
theorem passN:Passes (CXz X.prog X.w) X (fun _ _ _=>False):=fun pins σ H s ev s' I z=>z.elim
theorem uP {k np:Nat} {f' c':Addr} {fd:FuncData} {ps:List Str} {ds:List Value} {dvs:List V} {dus:List U} (hcl:B.cl x c') (M:Mk X.K c' f') (F:FnOk X.prog X.w X.K X.mg X.base (CXz X.prog X.w) k f' fd ps (spF B G i np)) (hr:Room (k+1) X.A) (hg:Gl X x) (hm:X.mg x=some (.ref c')) (hb:Binds X.K fd ps ds) (hd:Vals dvs ds) (hdu:∀ W,Rvs B W dus dvs)
  (hdb:(x == ("__debug__":Str))=false) (hs:FA X B G Ex es as) (h0:es=[]->as=aN) (hn:es.length+1+dus.length=np) (hst:es.all noStar=true):FE X B G Ex (.Call (.Name x p1) es [] pos) (cK x i as dus):=by
 refine ⟨?_,mK g hs.m⟩;have core:∀ τ H Q,LE B G Ex (cK x i as dus) τ H Q->tMake c' (spF B G i np) dvs (fun _ _ _=>False) (LA B G Ex as) τ H Q:=fun τ H Q ⟨W,σ,S,rs,rg,hh⟩=>LA.go hs.m rs rg hh fun ws S1 W1 us H1 hl le1 rs1 rv1 _ h1=>by
  intro xa dx hxa hdx hne;obtain ⟨w,S2,e,h2⟩:=g.pok h1;cases e;have sm:=ez hdx (.own xa);have hxa':upd H1 dx (.own xa) xa=none:=by rw [dg (Ne.symm hne)];exact hxa
  have le2:W1.Le { W1 with μ:=W1.μ++[xa] }:=⟨fun _ _ h=>h,fun _ _ h=>d8 h,rfl⟩
  obtain ⟨_,rs2,ha⟩:=(rs1.same sm).push (o:=.ins x []) (h:=.ins c' dx []) hxa' ⟨c',dx,[],hcl,rfl,rfl⟩;refine ⟨by rw [xAo,xAb,rv1.length,(hdu W1).length,hl,<- hn];lia,_,.ref S1.length::(ws++dus),_,rs2,⟨_,_,rfl,⟨xa,rfl,ha⟩,(rv1.mono le2).app (hdu _)⟩,g.call (fun _ _ h=>(g.no h).elim) (fun r S3 h3 W3 u3 H3 le3 rs3 rv3=>?_) h2⟩;cases r <;> first | (exact (g.no h3).elim) | exact ⟨rv3,h3 W3 (.ref xa) H3 (le1.trans (le2.trans le3)) rs3 ⟨xa,rfl,le3.m _ _ ha⟩⟩
 cases es with
 | nil =>
  rw [h0 rfl] at core ⊢;refine wkE (nP M F hr hg hm hb hd passN hdb) fun τ H Q h=>?_;obtain ⟨W,σ,S,rs,rg,hh⟩:=core τ H Q h;exact hh W [] H .refl rs rfl
 | cons e es =>
  rw [List.all_cons,Bool.and_eq_true] at hst;exact wkE (qe M F hr hg hm hb hd passN hs.p hdb (dh hst.1) (dL hst.2)) core
end
end Fx
namespace Fx
open PySem PySem.Spec L2
open PyProof.Rows hiding St
section
variable {B:Bs} {W:Wd} {S S':So} {H:Hp}
theorem Rg.lf {W W':Wd} {σ:Sg} {τ:St} (r:Rg B W σ τ) (le:W.Lf W'):Rg B W' σ τ:=⟨r.l,fun i v h=>let ⟨u,e,q⟩:=r.v i v h;⟨u,e,q.lf le⟩⟩
theorem RS.drop (r:RS B W S H) {l:List (Addr×HO)} (h:∀ q∈l,q∈W.pr):RS B { W with pr:=l } S H :=
 ⟨r.fz,r.len,r.nd,fun a p z=>let ⟨o,g,e,hh,ro,q⟩:=r.ob a p z;⟨o,g,e,hh,ro.lf .pr,q⟩,fun q hq=>r.pf q (h q hq)⟩
theorem XL.hold {E:XK} {x:Xc} {pp:Addr×HO} (h:XL B W E x S):XL B { W with pr:=pp::W.pr } E x S:=fun W' C dx H le rx =>
 h { W' with pr:=W.pr } C dx H ⟨le.f,le.m,rfl⟩ ⟨rx.s.drop fun q hq=>by rw [le.r];exact xAs _ hq,rx.c,rx.f.imp id fun ⟨d,vs,e1,e2,e3⟩=>⟨d,vs,e1,e2,e3.lf .pr⟩⟩
noncomputable def rSlA (K:xFr):V->Option Int->Option Int->Hp->VK->Prop:=fun x a b H Q=>rSlT K x a b H Q\/rSlL K x a b H Q
theorem hU {m:Bool} {v z:U} {u:V} {lo hi:Option Int} {Q:VK} (rs:RS B W S H) (r1:Rv B W v u) (h:slice m v lo hi S = .ok z S') (q:VL B W Q z S'):rSlA B.K u lo hi H Q:=by
 unfold slice at h;split at h
 ·next xs =>
  split at h
  ·cases h
  ·next hd =>
   cases h;obtain ⟨p,ys,rfl,f,rr⟩:=r1;have hl:=rr.length;refine .inl ⟨p,ys,rfl,.of (rs.fz _ _ f),by rw [hl];exact of_decide_eq_false hd,fun p' hp=>q.tup rs (k8 rr lo hi) hp⟩
 ·split at h
  ·next xs e =>
   obtain ⟨p,ys,rfl,sq,rr⟩:=gj rs r1 e;exact .inr ⟨p,ys,rfl,sq,fun p' hp=>gi h q rs (k8 rr lo hi) hp⟩
  ·cases h
end
section
variable {B:Bs} {up:List (Str×Str)} {G:Gx Prop} {Ex:St->XK} {c a b d:TEx Prop} {as:TAx Prop}
variable {X:Cx} {e ea eb ec o:Expr} {es:List Expr} {pos p1 p2 p3 apos cpos:Pos} {x f m C:Str} {id T:String} {pm:Pm} {i:Nat} (g:MonG up G)
include g
theorem wC {m:Bool} (hK:X.K=B.K) (ha:FE X B G Ex ea a) (hb:FE X B G Ex eb b):FE X B G Ex (.Subscript ea (.Slice (some eb) none none p2) pos) (cP (.sl m true false) (lst2 a b)) :=
 ⟨wkE (gc (SlR.or jz g9) ha.p (fW hb.p) kC) fun τ H Q h=>(LE.p2 g ha.m hb.m h).imp ha.m fun x H1 h1=>h1.imp hb.m fun y H2 zz=>by
  obtain ⟨W,S,v,w,z,S',rs,r1,r2,e,q⟩:=zz;cases w <;> try (cases e;done)
  have:=hU (lo:=some _) (hi:=none) rs r1 e q;rw [<- hK] at this;exact ⟨_,r2,this⟩,mP g (mAC g ha.m (mAC g hb.m (mAN g)))⟩
theorem wD {m:Bool} (hK:X.K=B.K) (ha:FE X B G Ex ea a) (hb:FE X B G Ex eb b):FE X B G Ex (.Subscript ea (.Slice none (some eb) none p2) pos) (cP (.sl m false true) (lst2 a b)) :=
 ⟨wkE (gc (SlR.or jz g9) ha.p kC (fW hb.p)) fun τ H Q h=>(LE.p2 g ha.m hb.m h).imp ha.m fun x H1 h1=>h1.imp hb.m fun y H2 zz=>by
  obtain ⟨W,S,v,w,z,S',rs,r1,r2,e,q⟩:=zz;cases w <;> try (cases e;done)
  have:=hU (lo:=none) (hi:=some _) rs r1 e q;rw [<- hK] at this;exact ⟨_,r2,this⟩,mP g (mAC g ha.m (mAC g hb.m (mAN g)))⟩
theorem wE {m:Bool} (hK:X.K=B.K) (ha:FE X B G Ex ea a) (hb:FE X B G Ex eb b) (hc:FE X B G Ex ec c):FE X B G Ex (.Subscript ea (.Slice (some eb) (some ec) none p2) pos) (cP (.sl m true true) (aC a (lst2 (cI b) c))) :=
 ⟨wkE (gc (SlR.or jz g9) ha.p (fW hb.p) (fW hc.p)) fun τ H Q ⟨W,σ,S,rs,rg,h⟩=>LE.go ha.m rs rg h fun v S1 W1 u1 H1 le1 rs1 rv1 rg1 h1 =>
  LE.go hb.m rs1 rg1 (hb.m.m (XL.upf le1 _) (fun _ _ h=>h) h1) fun w S2 W2 u2 H2 le2 rs2 rv2 rg2 h2=>by
   cases w <;> first | (exact (g.no h2).elim) | skip
   refine ⟨_,rv2,?_⟩;refine LE.go hc.m rs2 rg2 (hc.m.m (XL.upf (le1.trans le2) _) (fun _ _ h=>h) h2) fun w3 S3 W3 u3 H3 le3 rs3 rv3 _ h3=>?_;obtain ⟨z,S4,e,q⟩:=g.pok h3;cases w3 <;> try (cases e;done)
   have:=hU (lo:=some _) (hi:=some _) rs3 ((rv1.mono le2).mono le3) e (q.inc (le1.trans (le2.trans le3)));rw [<- hK] at this;exact ⟨_,rv3,this⟩,mP g (mAC g ha.m (mAC g (mCI g hb.m) (mAC g hc.m (mAN g))))⟩
omit g in
structure FP (X:Cx) (B:Bs) (G:Gx Prop) (Ex:St->XK) (pos:Pos) (kx:List (Option Expr)) (ks:List Str) (es:List Expr) (as:TAx Prop):Prop where
 ex:∃ trs,PPs X pos kx es trs/\∀ τ H Q,LA B G Ex as τ H (fun us H'=>Q ((ks.zip us).map fun p=>(V.str p.1,p.2)) H')->tPairs trs τ H Q
 m:MonA G as es.length
theorem xr:FP X B G Ex pos [] [] [] aN:=⟨⟨[],p8,fun τ H Q ⟨W,σ,S,rs,rg,h⟩=>h W [] H .refl rs rfl⟩,mAN g⟩
theorem xt {k:Str} {ks:List Str} {kx:List (Option Expr)} {j:Nat} (ha:FE X B G Ex e a) (hs:FP X B G Ex pos kx ks es as):FP X B G Ex pos (some (.Constant (.str k) j p2)::kx) (k::ks) (e::es) (aC a as):=by
 obtain ⟨trs,hp,hq⟩:=hs.ex;refine ⟨⟨_,nG nN ha.p hp,fun τ H Q ⟨W,σ,S,rs,rg,h⟩=>?_⟩,mAC g ha.m hs.m⟩;refine LE.go ha.m rs rg h fun v S1 W1 u1 H1 le1 rs1 rv1 rg1 h1=>hq τ H1 _ ?_;exact LA.go hs.m rs1 rg1 (hs.m.m (XL.upf le1 _) (fun _ _ _ h=>h) h1) fun vs S2 W2 us H2 _ le2 rs2 rvs _ h2=>h2 W2 (u1::us) H2 (le1.trans le2) rs2 ⟨u1,us,rfl,rv1.mono le2,rvs⟩
omit g in
theorem k7 {W:Wd}:∀ {ks:List Str} {vs:List U} {us:List V},Rvs B W vs us->Rn B W (dctZ ks vs) ((ks.zip us).map fun p=>((Sum.inr p.1:Key),p.2))
 | [],vs,us,r=>by cases vs <;> rfl
 | k::ks,[],us,r=>by rw [show us=[] from r];rfl
 | k::ks,v::vs,us,r=>by
  obtain ⟨u,t,rfl,h1,h2⟩:=r;exact ⟨u,_,rfl,h1,k7 h2⟩
omit g in
theorem eB:∀ {ks:List Str},nodupS ks=true->ks.Nodup
 | [],_=>List.nodup_nil
 | k::ks,h=>by
  simp only [nodupS,Bool.and_eq_true,Bool.not_eq_true'] at h;refine xCb.mpr ⟨fun hm=>?_,eB h.2⟩;have:(ks.any fun y=>decide (y=k))=true:=List.any_eq_true.mpr ⟨k,hm,by simp⟩;rw [h.1] at this;cases this
omit g in
theorem nv {acc:List (Key×V)} {k:Key} {v:V} (h:k ∉ acc.map (·.1)):L2.putK acc k v=acc++[(k,v)]:=by
 unfold L2.putK;rw [xCf];intro z;obtain ⟨p,hp,e⟩:=List.any_eq_true.mp z;exact h (xA2.mpr ⟨p,hp,xBe e⟩)
omit g in
theorem gM:∀ {more acc:List (Key×V)},(acc.map (·.1)++more.map (·.1)).Nodup->mergeK acc more=acc++more
 | [],acc,_=>by simp [mergeK]
 | p::t,acc,h=>by
  have hn:p.1 ∉ acc.map (·.1):=fun z=>by
   have:=(xBq.mp h).2.2 p.1 z p.1 (by simp);exact this rfl
  show mergeK (L2.putK acc p.1 p.2) t=_;rw [nv hn,gM (by simpa [xAx] using h)];simp
omit g in
theorem iE:∀ {ks:List Str} {us:List V},ks.length=us.length->(ks.zip us).map ((fun x=>x.1) ∘ fun p=>((Sum.inr p.1:Key),p.2))=ks.map fun k=>(Sum.inr k:Key)
 | [],_,_=>rfl
 | k::t,[],h=>by cases h
 | k::t,u::r,h=>by rw [List.zip_cons_cons,xBs,xBs,iE (by simpa using h)];rfl
theorem wQ {kx:List (Option Expr)} {ks:List Str} (hp:FP X B G Ex pos kx ks es as) (hn:nodupS ks=true) (hl:ks.length=es.length) (hk:kx.length=es.length) (hall:kx.all (·.isSome)=true) (h0:kx≠[]) (h15:ks.length<=15):FE X B G Ex (.Dict kx es pos) (cP (.dct ks) as):=by
 obtain ⟨trs,h1,h2⟩:=hp.ex;refine ⟨wkE (qg h1 hall hk h0 (by lia)) fun τ H Q ⟨W,σ,S,rs,rg,h⟩=>?_,mP g hp.m⟩;intro p hpn;refine h2 τ _ _ ?_;refine LA.go hp.m (rs.hold (o:=.dK []) hpn (fun _=>nofun)) (rg.lf .pr) (hp.m.m (fun _ _=>XL.hold) (fun _ _ _ h=>h) h) fun vs S1 W1 us H1 hvl le1 rs1 rv1 _ h3=>?_;obtain ⟨z,S2,e,q⟩:=g.pok h3;delta pr at e;dsimp only at e;split at e
 ·cases e;have hu:=rv1.length;have hpr:W1.pr=(p,.dK [])::W.pr:=le1.r;refine ⟨(rs1.pf _ (by rw [hpr];exact xAr)).1,(ks.zip us).map fun p=>((Sum.inr p.1:Key),p.2),by rw [List.map_map];rfl,by rw [xAa,List.length_zip];lia,?_⟩;have hnd:(((ks.zip us).map fun p=>((Sum.inr p.1:Key),p.2)).map (·.1)).Nodup:=by
   rw [List.map_map];have:=iE (ks:=ks) (us:=us) (by lia);rw [this];exact List.Pairwise.map _ (fun a b h z=>h (Sum.inr.inj z)) (eB hn)
  rw [gM (acc:=[]) (by simpa using hnd)];have hne:∀ q∈W.pr,q.1≠p:=fun q hq z=>by rw [<- z,(rs.pf q hq).1] at hpn;cases hpn
  have lf:W1.Lf { W1 with pr:=W.pr,μ:=W1.μ++[p] }:=⟨fun _ _ h=>h,fun _ _ h=>d8 h⟩
  obtain ⟨rs2,ha⟩:=rs1.heldS (b:=.dct (dctZ ks vs)) (h:=.dK ([]++(ks.zip us).map fun p=>((Sum.inr p.1:Key),p.2))) hpr hne ⟨_,rfl,by rw [List.nil_append];exact (k7 rv1).lf lf⟩;exact q { W1 with pr:=W.pr,μ:=W1.μ++[p] } _ _ ⟨fun b o z=>le1.f b o z,fun a b z=>d8 (le1.m a b z),rfl⟩ rs2 ⟨p,rfl,ha⟩
 ·cases e
theorem xC:FE X B G Ex (.Dict [] [] pos) (cP (.dct []) aN) :=
 ⟨wkE nS fun τ H Q zz=>by
  obtain ⟨W,σ,S,rs,rg,h⟩:=zz;obtain ⟨z,S2,e,q⟩:=g.pok h;cases e;intro p hp;have le:W.Le { W with μ:=W.μ++[p] }:=⟨fun _ _ h=>h,fun _ _ h=>d8 h,rfl⟩
  obtain ⟨_,rs',ha⟩:=rs.push (o:=.dct []) (h:=.dK []) hp ⟨[],rfl,rfl⟩;exact q _ _ _ le rs' ⟨p,rfl,ha⟩,mP g (mAN g)⟩
end
end Fx
namespace Fx
open PySem PySem.Spec L2
open PyProof.Rows hiding St
theorem sf:bootBuiltins "isinstance"=some (.builtin "isinstance"):=by decide +kernel
noncomputable def tys:List String:=["NoneType","bool","int","str","tuple","list","dict"]
structure ClT (B:Bs):Prop where
 ty:∀ {C c H a dx fs},B.cl C c->H a=some (.ins c dx fs)->TyOf B.K H (.ref a) (.ref c)
structure KitT (B:Bs) (n:String):Prop where
 t:∀ t∈tys,PySem.W.kitOne B.K (.type t) (.type n)=some (isTb t n)
 o:∀ {C c},B.cl C c->PySem.W.kitOne B.K (.ref c) (.type n)=some (isTb "object" n)
structure KitC (B:Bs) (up:List (Str×Str)) (D:Str) (d:Addr):Prop where
 t:∀ t∈tys,PySem.W.kitOne B.K (.type t) (.ref d)=some false
 o:∀ {C c},B.cl C c->PySem.W.kitOne B.K (.ref c) (.ref d)=some (isC up C D)
section
variable {B:Bs} {W:Wd} {S S':So} {H:Hp}
theorem m3 {v:U} {u:V} {t:String} (T:ClT B) (rs:RS B W S H) (r:Rv B W v u) (h:tyU S v=some t):(t∈tys/\TyOf B.K H u (.type t))\/(t="object"/\∃ p C fs c,v = .ref p/\at? S p=some (.ins C fs)/\B.cl C c/\TyOf B.K H u (.ref c)):=by
 cases v with
 | non=>cases h;rw [show u=_ from r];exact .inl ⟨by decide,.non⟩
 | bl b=>cases h;rw [show u=_ from r];exact .inl ⟨by decide,.bl b⟩
 | int i=>cases h;rw [show u=_ from r];exact .inl ⟨by decide,.int i⟩
 | str x=>cases h;rw [show u=_ from r];exact .inl ⟨by decide,.str x⟩
 | tup xs=>cases h;obtain ⟨p,vs,rfl,f,_⟩:=r;exact .inl ⟨by decide,.tup (rs.fz _ _ f)⟩
 | lst xs=>cases h;obtain ⟨p,vs,rfl,f,_⟩:=r;exact .inl ⟨by decide,.lst (rs.fz _ _ f)⟩
 | ref p =>
  unfold tyU at h;dsimp only at h;obtain ⟨a,rfl,hm⟩:=r;cases e:at? S p with
  | none=>rw [e] at h;cases h
  | some o =>
   obtain ⟨a',g,hm',hh,ro,_⟩:=rs.here e;rw [hm] at hm';cases hm';rw [e] at h;cases o with
   | lst xs=>cases h;obtain ⟨vs,rfl,_⟩:=ro;exact .inl ⟨by decide,.lst hh⟩
   | dct kvs=>cases h;obtain ⟨vs,rfl,_⟩:=ro;exact .inl ⟨by decide,.dK hh⟩
   | ins C fs=>cases h;obtain ⟨c,dx,vs,hc,rfl,_⟩:=ro;exact .inr ⟨rfl,p,C,fs,c,rfl,e,hc,T.ty hc hh⟩
   | dead=>cases h
 | _=>cases h
theorem mX {v z:U} {u:V} {T:String} {up:List (Str×Str)} (rs:RS B W S H) (r:Rv B W v u) (h:pr up (.typ T) [v] S = .ok z S') (hT:T="list"\/T="str"):z=v/\S'=S/\tyV B.K T u H:=by
 delta pr at h;dsimp only at h;split at h
 ·next t e =>
  split at h
  ·next et =>
   cases h;refine ⟨rfl,rfl,?_⟩;have et:t=T:=beq_iff_eq.mp et;subst et;rcases hT with rfl | rfl
   ·cases v with
    | lst xs=>obtain ⟨p,vs,rfl,f,_⟩:=r;exact .inl ⟨rfl,vs,.of (rs.fz _ _ f)⟩
    | ref p =>
     unfold tyU at e;dsimp only at e;cases e2:at? S p with
     | none=>rw [e2] at e;cases e
     | some o =>
      rw [e2] at e;cases o <;> try (simp at e;done)
      obtain ⟨a',vs,e3,hh,_⟩:=eK rs r (xs:=_) (by unfold lsT;dsimp only;rw [e2]);subst e3;exact .inl ⟨rfl,vs,.of hh⟩
    | _=>simp [tyU] at e
   ·cases v with
    | str x=>rw [show u=_ from r];rfl
    | ref p =>
     unfold tyU at e;dsimp only at e;split at e <;> simp at e
    | _=>simp [tyU] at e
  ·cases h
 ·cases h
end
section
variable {B:Bs} {up:List (Str×Str)} {G:Gx Prop} {Ex:St->XK} {c a b d:TEx Prop} {as:TAx Prop}
variable {X:Cx} {e ea eb ec o:Expr} {es:List Expr} {pos p1 p2 p3 apos cpos:Pos} {x y f m C:Str} {id T:String} {pm:Pm} {i:Nat} (g:MonG up G)
include g
theorem kW (hK:X.K=B.K) (ct:ClT B) (kt:KitT B T) (hg:Gl X "isinstance") (hm:X.mg "isinstance"=none) (hgy:Gl X y) (hmy:X.mg y=none) (hvy:bootBuiltins y=some (.type T)) (hny:y≠"__name__") (hdy:(y == ("__debug__":Str))=false) (ha:FE X B G Ex ea a) (hst:noStar ea=true):FE X B G Ex (.Call (.Name "isinstance" p1) [ea,.Name y p2] [] pos) (cP (.isT T) (aC a aN)) :=
 ⟨wkE (kF u8 hg hm sf (jF ha.p (jF (qh hgy hmy hvy (v:=.ty T) rfl hny hdy) gf rfl) hst) (by rw [List.all_cons,hst];rfl)) fun τ H Q h=>(LE.p1 g ha.m h).imp ha.m fun u H1 zz=>by
  obtain ⟨W,S,v,z,S',rs,r1,e,q⟩:=zz;delta pr at e;dsimp only at e;split at e
  ·next t et =>
   cases e;rcases m3 ct rs r1 et with ⟨ht,ty⟩ | ⟨rfl,p,C,fs,c,_,_,hc,ty⟩
   ·exact ⟨u,T,_,_,rfl,by rw [hK];exact ty,by rw [hK];exact kt.t _ ht,q.here rs rfl⟩
   ·exact ⟨u,T,_,_,rfl,by rw [hK];exact ty,by rw [hK];exact kt.o hc,q.here rs rfl⟩
  ·(cases e),mP g (mAC g ha.m (mAN g))⟩
theorem wL {dd:Addr} (hK:X.K=B.K) (ct:ClT B) (kt:KitC B up y dd) (hg:Gl X "isinstance") (hm:X.mg "isinstance"=none) (hgy:Gl X y) (hmy:X.mg y=some (.ref dd)) (hdy:(y == ("__debug__":Str))=false) (ha:FE X B G Ex ea a) (hst:noStar ea=true):FE X B G Ex (.Call (.Name "isinstance" p1) [ea,.Name y p2] [] pos) (cP (.isC y) (aC a aN)) :=
 ⟨wkE (kF my hg hm sf (jF ha.p (jF (fX hgy hmy (v:=.ref dd) rfl hdy) gf rfl) hst) (by rw [List.all_cons,hst];rfl)) fun τ H Q h=>(LE.p1 g ha.m h).imp ha.m fun u H1 zz=>by
  obtain ⟨W,S,v,z,S',rs,r1,e,q⟩:=zz;have fin:∀ t b,tyU S v=some t->(t≠"object"->b=false)->(∀ p C fs,v = .ref p->at? S p=some (.ins C fs)->b=isC up C y)->z = .bl b->S'=S->∃ x C t b,[u,V.ref dd]=[x,V.ref C]/\TyOf X.K H1 x t/\PySem.W.kitOne X.K t (.ref C)=some b/\Q (.bl b) H1:=fun t b et h1 h2 hz hs=>by
   subst hz hs;rcases m3 ct rs r1 et with ⟨ht,ty⟩ | ⟨rfl,p,C,fs,c,ev,ea,hc,ty⟩
   ·have:b=false:=h1 fun z=>by rw [z] at ht;revert ht;decide
    exact ⟨u,dd,_,false,rfl,by rw [hK];exact ty,by rw [hK];exact kt.t _ ht,by rw [<- this];exact q.here rs rfl⟩
   ·exact ⟨u,dd,_,_,rfl,by rw [hK];exact ty,by rw [hK];exact kt.o hc,by rw [<- h2 p C fs ev ea];exact q.here rs rfl⟩
  change isCU y v S up=_ at e;unfold isCU at e;split at e
  ·next p =>
   split at e
   ·next C fs e2=>cases e;exact fin "object" _ (by unfold tyU;dsimp only;rw [e2]) (fun z=>absurd rfl z) (fun p' C' fs' z z2=>by cases z;rw [e2] at z2;cases z2;rfl) rfl rfl
   ·next xs e2=>cases e;exact fin "list" _ (by unfold tyU;dsimp only;rw [e2]) (fun _=>rfl) (fun p' C' fs' z z2=>by cases z;rw [e2] at z2;cases z2) rfl rfl
   ·next xs e2=>cases e;exact fin "dict" _ (by unfold tyU;dsimp only;rw [e2]) (fun _=>rfl) (fun p' C' fs' z z2=>by cases z;rw [e2] at z2;cases z2) rfl rfl
   ·cases e
  ·next hne =>
   split at e
   ·next t et=>cases e;exact fin t _ et (fun _=>rfl) (fun p C fs z _=>(hne p z).elim) rfl rfl
   ·(cases e),mP g (mAC g ha.m (mAN g))⟩
omit g in
def PrM (B:Bs) (up:List (Str×Str)) (p:Pm) (r:V->List V->Hp->VK->Prop):Prop:=∀ {W:Wd} {S:So} {H:Hp} {v:U} {u:V} {vs:List U} {us:List V} {z:U} {S':So} {Q:VK},RS B W S H->Rv B W v u->Rvs B W vs us->pr up p (v::vs) S = .ok z S'->VL B W Q z S'->r u us H Q
theorem rZ {r:V->List V->Hp->VK->Prop} {name:Str} (hK:X.K=B.K) (pa:PlainAttrs T) (slot:Slot T name id) (hty:typeOf (.builtin id)=pure (.type "method_descriptor")) (hm:MtR X id r) (hp:PrM B up pm r) (hT:T="list"\/T="str") (ho:FE X B G Ex o a) (he:FE X B G Ex e b) (h:noCall o=true) (h2:noStar e=true) (hl:(apos.endLine == cpos.line)=true):FE X B G Ex (.Call (.Attribute o name apos) [e] [] cpos) (cBM T pm a (aC b aN)) :=
 ⟨wkE (xh pa slot hty hm ho.p (gG g he (jg g) h2).p h h2 hl) fun τ H Q ⟨W,σ,S,rs,rg,hh⟩=>LE.go ho.m rs rg hh fun v S1 W1 u1 H1 le1 rs1 rv1 rg1 h1=>by
  obtain ⟨z,S2,e2,h2⟩:=g.pok h1;obtain ⟨rfl,rfl,ty⟩:=mX rs1 rv1 e2 hT;have fa:FA X B G Ex [e] (aC b aN):=gG g he (jg g) ‹_›;refine ⟨by rw [hK];exact ty,LA.go fa.m rs1 rg1 (fa.m.m (XL.upf le1 _) (fun _ _ _ h=>h) h2) fun ws S3 W3 us H3 hl le3 rs3 rv3 _ h3=>?_⟩;obtain ⟨z3,S4,e4,q⟩:=g.pok h3;exact hp rs3 (rv1.mono le3) rv3 e4 (q.inc (le1.trans le3)),mBM g ho.m (mAC g he.m (mAN g))⟩
theorem wT {r:V->List V->Hp->VK->Prop} {name:Str} (hK:X.K=B.K) (pa:PlainAttrs T) (slot:Slot T name id) (hty:typeOf (.builtin id)=pure (.type "method_descriptor")) (hm:MtR X id r) (hp:PrM B up pm r) (hT:T="list"\/T="str") (ho:FE X B G Ex o a) (h:noCall o=true) (hl:(apos.endLine == cpos.line)=true):FE X B G Ex (.Call (.Attribute o name apos) [] [] cpos) (cBM T pm a aN) :=
 ⟨wkE (vQ pa slot hty hm ho.p h hl) fun τ H Q ⟨W,σ,S,rs,rg,hh⟩=>LE.go ho.m rs rg hh fun v S1 W1 u1 H1 le1 rs1 rv1 rg1 h1=>by
  obtain ⟨z,S2,e2,h2⟩:=g.pok h1;obtain ⟨rfl,rfl,ty⟩:=mX rs1 rv1 e2 hT;obtain ⟨z3,S4,e4,q⟩:=g.pok h2;exact ⟨by rw [hK];exact ty,hp (vs:=[]) rs1 rv1 rfl e4 (q.inc le1)⟩,mBM g ho.m (mAN g)⟩
omit g in
theorem wa:PrM B up .app rAppend:=by
 intro W S H v u vs us z S' Q rs rv rvs h q;cases vs with
 | nil=>cases v <;> cases h
 | cons w t=>cases t with
  | cons _ _=>cases v <;> cases h
  | nil =>
   cases v <;> try (cases h;done)
   obtain ⟨xs,aa,ys,e1,h2,e2,hm,hh,rr⟩:=kL rs rv h;obtain ⟨hl,e3⟩:=dW h2;cases e3;obtain ⟨u2,rfl,r2⟩:=rvs.inv1;exact ⟨aa,ys,u2,e2,rfl,hh,by rw [rr.length];lia,q.here (rs.mut hm e1 (by nofun) ⟨_,rfl,rr.app (.one r2)⟩) rfl⟩
omit g in
theorem jQ {W:Wd} {xs:List U} {ys:List V} {v:U} (rr:Rvs B W xs ys) (h:xs.getLast?=some v):∃ y,ys[ys.length - 1]?=some y/\Rv B W v y:=by
 rw [List.getLast?_eq_getElem?] at h;rw [rr.length];exact rr.get h
omit g in
theorem jj {W:Wd} {xs:List U} {ys:List V} (rr:Rvs B W xs ys):Rvs B W xs.dropLast ys.dropLast:=by
 rw [List.dropLast_eq_take,List.dropLast_eq_take,rr.length];exact rr.take _
omit g in
theorem vW:PrM B up .pop rPop:=by
 intro W S H v u vs us z S' Q rs rv rvs h q;cases vs with
 | cons w t=>cases v <;> cases h
 | nil =>
  cases v <;> try (cases h;done)
  obtain ⟨xs,aa,ys,e1,h2,e2,hm,hh,rr⟩:=kL rs rv h;split at h2
  ·next w hw =>
   cases h2;obtain ⟨y,e3,ry⟩:=jQ rr hw;exact ⟨aa,ys,y,e2,rvs,hh,e3,q.here (rs.mut hm e1 (by nofun) ⟨_,rfl,jj rr⟩) ry⟩
  ·cases h2
omit g in
theorem tQ:PrM B up .join (fun x vs H Q=>∃ (sep:Str) (l:Addr) (w:Str),x = .str sep/\vs=[.ref l]/\H l=some (.lst [.str w])/\w.length+sep.length<=sizeLine/\Q (.str w) H):=by
 intro W S H v u vs us z S' Q rs rv rvs h q;delta pr at h;dsimp only at h;split at h
 ·next p hp =>
  obtain ⟨rfl,rfl⟩:=qF hp;obtain ⟨hl,e⟩:=dW h;cases e;obtain ⟨u2,rfl,r2⟩:=rvs.inv1;obtain ⟨a,ys,rfl,f,rr⟩:=r2;obtain ⟨u3,rfl,r3⟩:=rr.inv1;rw [show u3=_ from r3] at f;exact ⟨p.1,a,p.2,rv,rfl,rs.fz _ _ f,hl,q.here rs rfl⟩
 ·cases h
theorem rW (hK:X.K=B.K) (h:FE X B G Ex e c) (he:∀ whole,isTrue e X.env whole=(do let v <- whole;standAt e.pos;holding [v] (truthy v))):FT X B G Ex e (tB (cP .tru (aC c aN))):=by
 have mm:=mP g (p:=.tru) (mAC g h.m (mAN g));refine ⟨wkT (ny h.p he) fun τ H Q hh=>?_,mB g mm⟩;have h':LE B G Ex (cP .tru (aC c aN)) τ H (fun x H'=>∃ k,x = .bl k/\Q k H'):=by
  obtain ⟨W,σ,S,rs,rg,hh⟩:=hh;refine LE.go mm rs rg hh fun v S' W' u H' le rs' rv rg' h'=>?_;cases v <;> first | (exact (g.no h').elim) | exact ⟨_,rv,h' W' H' le rs'⟩
 refine (LE.p1 g h.m h').imp h.m fun u H1 zz=>?_;obtain ⟨W,S,v,z,S',rs,r1,e,q⟩:=zz;change obB (truU S v) id S=_ at e;unfold obB at e;split at e
 ·next b eb =>
  cases e;obtain ⟨k,ek,qk⟩:=q.here rs (u:=.bl b) rfl;cases ek;refine ⟨b,?_,qk⟩;have seq:∀ xs,sqU S v=some xs->b=!xs.isEmpty->TruV X.K u H1 b:=fun xs ex hb=>by
   obtain ⟨p,ys,rfl,sq,rr⟩:=fo rs r1 ex;have hb':b=!ys.isEmpty:=by rw [hb];cases xs <;> cases ys <;> first | rfl | (have:=rr.length;simp at this)
   rw [hK];rcases sq with sq | sq
   ·exact .inl ⟨ys,sq,hb'⟩
   ·exact .inr (.inl ⟨ys,sq,hb'⟩)
  unfold truU at eb;split at eb
  ·cases eb;rw [show u=_ from r1];rfl
  ·cases eb;rw [show u=_ from r1];rfl
  ·cases eb;rw [show u=_ from r1];rfl
  ·next p =>
   split at eb
   ·next xs e2=>exact seq xs (by show lsU S (.ref p)=_;unfold lsU;dsimp only;rw [e2]) (xB3 eb).symm
   ·next kvs e2 =>
    obtain ⟨a,g2,hm,hh2,ro,_⟩:=rs.here e2;obtain ⟨a',e3,hm'⟩:=r1;rw [hm] at hm';cases hm';obtain ⟨ks,rfl,rn⟩:=ro;subst e3;refine .inr (.inr ⟨ks,hh2,?_⟩);rw [<- xB3 eb];cases kvs <;> cases ks <;> first | rfl | (have:=rn.length;simp at this)
   ·cases eb
  ·next u' _ _ _ _ =>
   cases e2:sqU S v with
   | none=>rw [e2] at eb;cases eb
   | some xs=>rw [e2] at eb;exact seq xs e2 (xB3 eb).symm
 ·cases e
omit g in
structure KdF (wo:World) (B:Bs):Prop where
 d:∀ {p kvs no},B.kd p kvs no->KD wo B.K p
 y:∀ {p kvs no x v},B.kd p kvs no->getF x kvs=some v->∃ u val,PySem.W.nsIn B.K p x=some (some val)/\RelV u val/\∀ W,Rv B W v u
 n:∀ {p kvs no x},B.kd p kvs no->x∈no->PySem.W.nsIn B.K p x=some none
theorem uR {kvs:List (Str×U)} {no:List Str} {p:Addr} (hK:X.K=B.K) (F:KdF X.w B) (hd:B.kd p kvs no) (hg:Gl X x) (hm:X.mg x=some (.ref p)) (hdb:(x == ("__debug__":Str))=false) (he:FE X B G Ex e b) (h2:noStar e=true) (hl:(apos.endLine == cpos.line)=true):FE X B G Ex (.Call (.Attribute (.Name x p1) "get" apos) [e] [] cpos) (cP .get1 (aC (cC (.kd kvs no)) (aC b aN))) :=
 ⟨wkE (qf (by rw [hK];exact F.d hd) (fX hg hm (v:=.ref p) rfl hdb) he.p ⟨fh rfl,by rw [dh h2];rfl,hl,by rw [dh h2];rfl⟩) fun τ H Q ⟨W,σ,S,rs,rg,hh⟩=>LE.go he.m rs rg hh fun v S1 W1 u1 H1 le1 rs1 rv1 rg1 h1=>by
  obtain ⟨z,S2,e2,q⟩:=g.pok h1;cases v <;> try (cases e2;done)
  change opt _ _=_ at e2;unfold opt at e2;split at e2
  ·next v' ev =>
   cases e2;obtain ⟨u,val,e3,r3,r4⟩:=F.y hd ev;exact ⟨_,u,val,rv1,by rw [hK];exact e3,r3,(q.inc le1).here rs1 (r4 _)⟩
  ·(cases e2),mP g (mAC g (mC g) (mAC g he.m (mAN g)))⟩
theorem uQ {kvs:List (Str×U)} {no:List Str} {p:Addr} (hK:X.K=B.K) (F:KdF X.w B) (hd:B.kd p kvs no) (hg:Gl X x) (hm:X.mg x=some (.ref p)) (hdb:(x == ("__debug__":Str))=false) (he:FE X B G Ex e b) (hc:FE X B G Ex ec c) (h2:noStar e=true) (h3:noStar ec=true) (hl:(apos.endLine == cpos.line)=true):FE X B G Ex (.Call (.Attribute (.Name x p1) "get" apos) [e,ec] [] cpos) (cP .get2 (aC (cC (.kd kvs no)) (lst2 b c))) :=
 ⟨wkE (nR (by rw [hK];exact F.d hd) (fX hg hm (v:=.ref p) rfl hdb) he.p hc.p ⟨fh rfl,by rw [dh h2,dh h3];rfl,hl,by rw [dh h2,dh h3];rfl⟩) fun τ H Q ⟨W,σ,S,rs,rg,hh⟩=>LE.go he.m rs rg hh fun v S1 W1 u1 H1 le1 rs1 rv1 rg1 h1 =>
  LE.go hc.m rs1 rg1 (hc.m.m (XL.upf le1 _) (fun _ _ h=>h) h1) fun w S2 W2 u2 H2 le2 rs2 rv2 _ h2=>by
   obtain ⟨z,S3,e2,q⟩:=g.pok h2;cases v <;> try (cases e2;done)
   delta pr at e2;dsimp only at e2;split at e2
   ·next v' ev =>
    cases e2;obtain ⟨u,val,e3,r3,r4⟩:=F.y hd ev;exact ⟨_,u,some val,rv1,by rw [hK];exact e3,fun _ z=>by cases z;exact r3,nofun,(q.inc (le1.trans le2)).here rs2 (r4 _)⟩
   ·split at e2
    ·next hn =>
     cases e2;obtain ⟨y,hy,ey⟩:=List.any_eq_true.mp hn;have ey:=xBe ey;subst ey;exact ⟨_,u2,none,rv1,by rw [hK];exact F.n hd hy,nofun,fun _=>rfl,(q.inc (le1.trans le2)).here rs2 rv2⟩
    ·(cases e2),mP g (mAC g (mC g) (mAC g he.m (mAC g hc.m (mAN g))))⟩
end
end Fx
namespace L2
open PySem PySem.Spec PyProof.Rows RevA
def sqB (k:Bool) (K:xFr) (H:Hp) (a:Addr) (xs:List V):Prop:=match k with
 | true=>SqT K H a xs
 | false=>SqL K H a xs
def sqK (k:Bool) (K:xFr) (H:Hp) (x:V) (xs:List V):Prop:=∃ a,x = .ref a/\sqB k K H a xs
structure SrW (k:Bool) (P:Program) (w:World) (K:xFr) (lim:Nat) (x:V) (it:Addr) (tn:Nat->Heap->Prop):Prop where
 obj:∀ i h,tn i h->∃ o,h.get? it=some o/\∀ v,o.data≠.cell v
 keep:∀ i h h',tn i h->(∀ o,h.get? it=some o->h'.get? it=some o)->tn i h'
 dr:∀ (X:Cx),X.prog=P->X.w=w->X.K=K->X.calm=true->∀ (pins:List (Addr×Obj)) (σ:St) (H:Hp) (s:Shared),Inv X pins σ H s->∀ xs,sqK k K H x xs->∃ (f:List Addr) (Pv:Nat->Value->Prop) (S:Nat->Heap->Prop),
  (∀ b∈f,b=it\/b<lim)/\Draws P w X.A.in1 it f xs.length Pv S/\(∀ i,tn i s.heap->S i s.heap)/\(∀ i h,S i h->tn i h)/\(∀ i v,Pv i v->∃ u,xs[i]?=some u/\RelV u v)/\∀ ys,sqK k K H x ys->ys=xs
theorem pL {P:Program} {w:World} {K:xFr} {lim:Nat} {a it:Addr} (ha:a<lim) (hi:lim<=it):SrW true P w K lim (.ref a) it (fun i h=>h.IsTupleIter it a i) where
 obj:=fun i h ⟨o,e,_,d⟩=>⟨o,e,fun v z=>by rw [d] at z;cases z⟩
 keep:=fun i h h' st k=>st.at fun o e=>k o e
 dr:=by
  intro X hP hw hK hc pins σ H s I xs hx;subst hP hw hK;obtain ⟨b,e,hx⟩:=hx
  ·cases e;obtain ⟨its,rv,p,hz⟩:=I.tuple hx;have hl:=rv.length;have D:=drawsT (prog:=X.prog) (w:=X.w) (A:=X.A.in1) (by simpa using I.ok.hd hc) it a (xA0 (xBc ha hi)) its.toArray;rw [xAp,<- hl] at D;refine ⟨_,_,_,fun b hb=>?_,D,fun i st=>⟨st,p⟩,fun i h st=>st.1,fun i v hv=>?_,fun ys hy=>?_⟩
   ·simp only [xAv,xBv,or_false] at hb;rcases hb with rfl | rfl
    ·exact .inl rfl
    ·exact .inr ha
   ·have hv:its[i]?=some v:=by simpa using hv
    have hi:i<xs.length:=by rw [hl];exact (xAq.mp hv).1
    obtain ⟨u,hu,ru⟩:=rv.get (xAk hi);rw [hv] at hu;cases hu;exact ⟨_,xAk hi,ru⟩
   ·obtain ⟨b,e,hy⟩:=hy;cases e;exact I.tuple_inj hy hx
theorem pM {P:Program} {w:World} {K:xFr} {lim:Nat} {a it:Addr} (ha:a<lim) (hi:lim<=it):SrW false P w K lim (.ref a) it (fun i h=>h.IsListIter it a i) where
 obj:=fun i h ⟨o,e,_,d⟩=>⟨o,e,fun v z=>by rw [d] at z;cases z⟩
 keep:=fun i h h' st k=>st.at fun o e=>k o e
 dr:=by
  intro X hP hw hK hc pins σ H s I xs hx;subst hP hw hK;obtain ⟨b,e,hx⟩:=hx
  ·cases e;obtain ⟨its,rv,p,hz⟩:=I.list hx;have hl:=rv.length;have D:=Draws.list (prog:=X.prog) (w:=X.w) (A:=X.A.in1) (by simpa using I.ok.hd hc) it a (xA0 (xBc ha hi)) its.toArray;rw [xAp,<- hl] at D;refine ⟨_,_,_,fun b hb=>?_,D,fun i st=>⟨st,p.isList⟩,fun i h st=>st.1,fun i v hv=>?_,fun ys hy=>?_⟩
   ·simp only [xAv,xBv,or_false] at hb;rcases hb with rfl | rfl
    ·exact .inl rfl
    ·exact .inr ha
   ·have hv:its[i]?=some v:=by simpa using hv
    have hi:i<xs.length:=by rw [hl];exact (xAq.mp hv).1
    obtain ⟨u,hu,ru⟩:=rv.get (xAk hi);rw [hv] at hu;cases hu;exact ⟨_,xAk hi,ru⟩
   ·obtain ⟨b,e,hy⟩:=hy;cases e;exact I.list_inj hy hx
noncomputable def Itzw (kx ky:Bool) (K:xFr) (x y:V):It :=
 ⟨fun i H=>∃ xs ys u v,sqK kx K H x xs/\sqK ky K H y ys/\xs[i]?=some u/\ys[i]?=some v,
  fun i H p H'=>∃ (q:Addr) (u v:V),p = .ref q/\H q=none/\H'=upd H q (.tup [u,v])/\(∀ xs,sqK kx K H x xs->xs[i]?=some u)/\∀ ys,sqK ky K H y ys->ys[i]?=some v,
  fun i H=>∃ xs,sqK kx K H x xs/\xs.length=i⟩
theorem lA {P:Program} {w:World} {K:xFr} {elts:List Expr} {k:Nat} {pos:Pos} {x y:V} {n:Nat} {t1 t2:Nat->Heap->Prop} {kx ky:Bool} (s1:SrW kx P w K n x n t1) (s2:SrW ky P w K n y (n+1) t2) :
  Turn P w K (.Tuple elts k pos) (Itzw kx ky K x y) [n+4,n+2,n+3,n,n+1] (n+4) (fun i h=>IsZip h (n+4) (n+2) (n+3) .none/\IsPair h (n+2) (.ref n) (.ref (n+1))/\(∃ x y,IsPair h (n+3) x y)/\t1 i h/\t2 i h) where
 mem:=by simp
 obj:=fun i h st c hc=>by
  obtain ⟨q1,q2,⟨x,y,q3⟩,q4,q5⟩:=st;simp only [xAv,xBv,or_false] at hc;rcases hc with rfl | rfl | rfl | rfl | rfl
  ·exact ⟨_,q1,fun v z=>by cases z⟩
  ·exact ⟨_,q2,fun v z=>by cases z⟩
  ·exact ⟨_,q3,fun v z=>by cases z⟩
  ·exact s1.obj i h q4
  ·exact s2.obj i h q5
 keep:=fun i h h' st k=>by
  obtain ⟨q1,q2,⟨x,y,q3⟩,q4,q5⟩:=st;exact ⟨k _ (by simp) _ q1,k _ (by simp) _ q2,⟨x,y,k _ (by simp) _ q3⟩,s1.keep i h h' q4 fun o e=>k _ (by simp) o e,s2.keep i h h' q5 fun o e=>k _ (by simp) o e⟩
 item:=by
  intro X hP hw hK hc i pins s σ H E I hf st hg;subst hP hw hK;obtain ⟨xs,ys,u,v,hq,hr,hx,hy⟩:=hg;obtain ⟨q1,q2,⟨x0,y0,q3⟩,q4,q5⟩:=st;obtain ⟨f1,P1,S1,m1,D1,a1,c1,r1,j1⟩:=s1.dr X rfl rfl rfl hc pins σ H s I xs hq;obtain ⟨f2,P2,S2,m2,D2,a2,c2,r2,j2⟩:=s2.dr X rfl rfl rfl hc pins σ H s I ys hr;have AP:=mS (f1:=f1) (f2:=f2) m1 m2;have lz:n+4<s.heap.objs.size:=xA1 q1;have h0:H s.heap.objs.size=none:=I.hok.fresh (xAg _);refine lx D1 D2 AP q1 q2 q3 (a1 i q4) (a2 i q5) (xAq.mp hx).1 (xAq.mp hy).1 fun u1 v1 h1 tk p1 p2 b1 b2 b3 b4 b5 hk=>?_;obtain ⟨u',hu',ru⟩:=r1 i u1 p1;rw [hx] at hu';cases hu';obtain ⟨v',hv',rv⟩:=r2 i v1 p2;rw [hy] at hv';cases hv';have I1:Inv X pins σ (upd H s.heap.objs.size (.tup [u,v])) { s with heap:=s.heap.push { cls:=.type "tuple",data:=.seq #[u1,v1] },toks:=tk }:=by
   refine I.laid (fun b o e=>xAf _ e) (xAg _) ⟨by simp [sizeLine_eq],[u1,v1],.cons ru (.cons rv .nil),_,xAl _ rfl,rfl,_,rfl⟩
  refine ⟨_,rfl,wpAny_letOwnedTupleGo_zip (s:={ s with heap:=h1,toks:=tk }) b1 fun h2 e1 hs2=>?_⟩;have hs2':Heap.SameBut (n+4) h1 h2:=hs2;have fp':∀ b∈[n+4,n+2,n+3,n,n+1],FpOk X pins (upd H s.heap.objs.size (.tup [u,v])) b:=fun b hb=>by
   obtain ⟨f0,f⟩:=hf b hb;refine ⟨?_,f⟩;rw [dg]
   ·exact f0
   ·simp only [xAv,xBv,or_false] at hb;rcases hb with rfl | rfl | rfl | rfl | rfl <;> exact xA0 (by lia)
  have I2:=Inv.turnedL (t':=tk) (h':=h2) (fp:=[n+4,n+2,n+3,n,n+1]) I1 (fun b o hb eb=>?_) fp'
  ·refine ⟨.ref s.heap.objs.size,_,I2,rfl,⟨_,u,v,rfl,h0,rfl,fun zs hz=>by rw [j1 zs hz];exact hx,fun zs hz=>by rw [j2 zs hz];exact hy⟩,⟨e1,?_,⟨u1,v1,?_⟩,?_,?_⟩,fun b hb=>(fp' b hb).1⟩
   ·exact (hs2'.2 _ AP.q1).trans (hk _ _ AP.q1 AP.q5 AP.q6 AP.q7 q2)
   ·exact (hs2'.2 _ AP.q2).trans b2
   ·exact s1.keep _ _ _ (c1 _ _ b3) fun o e=>(hs2'.2 _ AP.q3).trans e
   ·exact s2.keep _ _ _ (c2 _ _ b4) fun o e=>(hs2'.2 _ AP.q4).trans e
  ·simp only [xAv,xBv,or_false,not_or] at hb;rw [hs2'.2 b hb.1];by_cases zz:b=s.heap.objs.size
   ·subst zz;rw [show h1.get? s.heap.objs.size=_ from b5];rw [<- eb];exact (xAl _ rfl).symm
   ·refine hk b o hb.1 hb.2.2.1 hb.2.2.2.1 hb.2.2.2.2 ?_;exact (Heap.get?_push_cases eb).elim (fun y=>absurd y.1 zz) id
 done:=by
  intro X hP hw hK hc i pins s σ H E I hf st hg;subst hP hw hK;obtain ⟨xs,hq,rfl⟩:=hg;obtain ⟨q1,q2,⟨x0,y0,q3⟩,q4,q5⟩:=st;obtain ⟨f1,P1,S1,m1,D1,a1,c1,r1,j1⟩:=s1.dr X rfl rfl rfl hc pins σ H s I xs hq;have AP:=mS (f1:=f1) (f2:=[]) m1 fun b hb=>nomatch hb;refine ly D1 AP q1 q2 (a1 _ q4) fun h' eb=>⟨rfl,Inv.turnedL (t':=s.toks) (fp:=[n+4,n+2,n+3,n,n+1]) I (fun b o hb e=>?_) hf⟩
  simp only [xAv,xBv,or_false,not_or] at hb;exact eb b o hb.1 hb.2.2.1 hb.2.2.2.1 hb.2.2.2.2 e
 self:=fun _ _ _ _ _ st h=>wpAny_pyIter_zip st.1 h
def nIterZw (K:xFr) (vs:List V) (H:Hp) (R:It->Hp->Prop):Prop:=∃ x y kx ky,vs=[x,y]/\(∃ xs,sqK kx K H x xs)/\(∃ ys,sqK ky K H y ys)/\R (Itzw kx ky K x y) H
noncomputable def iZipw (K:xFr) (ta:TA):TI:=fun σ H R=>ta σ H fun vs H1=>nIterZw K vs H1 R
section
variable {X:Cx}
theorem m9 {kx:Bool} {pins:List (Addr×Obj)} {σ:St} {H:Hp} {s:Shared} {x:V} {v:Value} (I:Inv X pins σ H s) (r:RelV x v) {xs:List V} (h:sqK kx X.K H x xs) (lim it:Nat) (hl:s.heap.objs.size<=lim) (hi:lim<=it) :
  ∃ (o:Obj) (tn:Nat->Heap->Prop),(∀ h',(∀ c o,s.heap.get? c=some o->h'.get? c=some o)->IterTo v o h')/\o.isFreed=false/\SrW kx X.prog X.w X.K lim x it tn/\∀ h',h'.get? it=some o->tn 0 h':=by
 obtain ⟨a,rfl,hx⟩:=h;obtain rfl:v=Value.ref a:=r;cases kx with
 | true =>
  obtain ⟨its,rv,p,hz⟩:=I.tuple hx;have ha:a<s.heap.objs.size:=by obtain ⟨o,e,_⟩:=p;exact xA1 e
  refine ⟨tiObj a,_,fun h' k=>?_,rfl,pL (xBc ha hl) hi,fun h' e=>⟨_,e,rfl,rfl⟩⟩;intro prog w A E s' Q e q;subst e;obtain ⟨o,e,r⟩:=p;exact wpAny_pyIter_tuple (items:=its.toArray) ⟨o,k _ _ e,r⟩ q
 | false =>
  obtain ⟨its,rv,p,hz⟩:=I.list hx;have ha:a<s.heap.objs.size:=by obtain ⟨o,n,e,_⟩:=p;exact xA1 e
  refine ⟨{ cls:=.type "list_iterator",data:=.fields #[.ref a,.int 0 0] },_,fun h' k=>?_,rfl,pM (xBc ha hl) hi,fun h' e=>⟨_,e,rfl,rfl⟩⟩;intro prog w A E s' Q e q;subst e;obtain ⟨o,n,e,r⟩:=p;exact wpAny_pyIter_list (PlainL.isList ⟨o,n,k _ _ e,r⟩) q
theorem qb {a b:Expr} {ta:TA} {p pos pt:Pos} {elts:List Expr} {k:Nat} (hg:Gl X "zip") (hm:X.mg "zip"=none) (ha:PA X [a,b] ta) (hs:starEach [a,b] X.env=(false,eval a X.env)::starEach [b] X.env) (hs2:starEach [b] X.env=[(false,eval b X.env)]) :
  PI X (.Tuple elts k pt) (.Call (.Name "zip" p) [a,b] [] pos) (iZipw X.K ta):=by
 intro pins s σ H R I h;refine Call_ (fC I hg hm pB (PyProof.Rows.callWith_type1 (thn (ha pos pins s σ H _ I h) fun us s1 ⟨vs,H1,I1,r1,q1⟩=>?_) hs (by rw [hs2];rfl)));obtain ⟨x,y,kx,ky,e,⟨xs,hq⟩,⟨ys,hr⟩,q⟩:=q1;subst e;cases r1 with
 | cons r rr =>
  cases rr with
  | cons r2 rr =>
   cases rr;obtain ⟨o1,t1,j1,fr1,S1,z1⟩:=m9 I1 r hq s1.heap.objs.size s1.heap.objs.size (xAg _) (xAg _);obtain ⟨o2,t2,j2,fr2,S2,z2⟩:=m9 I1 r2 hr s1.heap.objs.size (s1.heap.objs.size+1) (xAg _) (Nat.le_succ _);refine mO (j1 _ fun _ _ e=>e) (j2 _ fun _ _ e=>xAf _ e) fun h' a1 a2 a3 a4 a5 hk=>?_;refine wpAny_pyIter_zip a1 ?_;have I2:Inv X pins σ H1 { s1 with heap:=h' }:=I1.kept (t':=s1.toks) hk;refine ⟨s1.heap.objs.size+4,[s1.heap.objs.size+4,s1.heap.objs.size+2,s1.heap.objs.size+3,s1.heap.objs.size,s1.heap.objs.size+1],_,_,H1,rfl,I2,lA S1 S2,⟨a1,a2,⟨_,_,a3⟩,z1 _ (a4 fr1),z2 _ (a5 fr2)⟩,fun b hb=>?_,q⟩;have hb':s1.heap.objs.size<=b:=by
    simp only [xAv,xBv,or_false] at hb;rcases hb with rfl | rfl | rfl | rfl | rfl <;> lia
   exact I1.fpOk hb' (I1.hok.fresh hb')
end
end L2
namespace L2
open PySem PySem.Spec PyProof.Rows RevA
noncomputable def Itrw (K:xFr) (a:Addr) (n:Nat):It :=
 ⟨fun i H=>i<n/\∃ xs,SqL K H a xs/\xs.length=n,fun i H x H'=>H'=H/\∀ xs,SqL K H a xs->xs[n - 1 - i]?=some x,fun i _=>i=n⟩
theorem pH {P:Program} {w:World} {K:xFr} {tg:Expr} (a it:Addr) (n:Nat):Turn P w K tg (Itrw K a n) [it] it (fun i h=>i<=n/\h.IsRevIter it a ((n:Int) - 1 - (i:Int))) where
 mem:=by simp
 obj:=fun i h st b hb=>by
  have e:b=it:=by simpa using hb
  subst e;obtain ⟨o,e,_,d⟩:=st.2;exact ⟨o,e,fun v z=>by rw [d] at z;cases z⟩
 keep:=fun i h h' st k=>⟨st.1,st.2.at fun o e=>k it (by simp) o e⟩
 item:=by
  intro X hP hw hK hc i pins s σ H E I hf st hg;subst hP hw hK;obtain ⟨hin,xs,hq,hx⟩:=hg;obtain ⟨its,rv,p,hz⟩:=I.list hq;have hl:=rv.length;obtain ⟨u,hu,ru⟩:=rv.get (show xs[n - 1 - i]?=some (xs[n - 1 - i]'(by lia)) from xAk (by lia));obtain ⟨f0,f1,f2,f3,f4,f5⟩:=hf it (by simp);have e:(n:Int) - 1 - (i:Int)=((n - 1 - i:Nat):Int):=by lia
  have hit:=st.2;rw [e] at hit;refine wpAny_pyNext_rev_item hit p.isList (x:=u) (by simpa using hu) fun h' st' sb=>?_;have I1:Inv X pins σ H { s with heap:=h' }:=I.turned (t':=s.toks) (fun b o hb e=>(sb.2 b hb).trans e) f0 f1 f3 f4 f5;have e2:((n - 1 - i:Nat):Int) - 1=(n:Int) - 1 - ((i+1:Nat):Int):=by lia
  rw [e2] at st';obtain ⟨o,e,c,d⟩:=id st';exact ⟨u,rfl,gR (s:={ s with heap:=h' }) e c d (by decide) ⟨_,H,I1,ru,⟨rfl,fun ys hy=>by rw [I.list_inj hy hq];exact xAk (by lia)⟩,⟨hin,st'⟩,fun b hb=>(hf b hb).1⟩⟩
 done:=by
  intro X hP hw hK hc i pins s σ H E I hf st hg;subst hP hw hK;obtain rfl:i=n:=hg;obtain ⟨f0,f1,f2,f3,f4,f5⟩:=hf it (by simp);have hit:=st.2;rw [show (i:Int) - 1 - (i:Int) = -1 by lia] at hit;exact wpAny_pyNext_rev_end (I.ok.hd hc) hit fun h' eb=>⟨rfl,I.turned (t':=s.toks) (fun b o hb e=>eb b o hb e) f0 f1 f3 f4 f5⟩
 self:=fun _ _ _ _ _ st h=>wpAny_pyIter_revIter st.2 h
def nIterRw (K:xFr) (vs:List V) (H:Hp) (R:It->Hp->Prop):Prop:=nIterV K vs H R\/∃ a xs,vs=[.ref a]/\SqL K H a xs/\R (Itrw K a xs.length) H
noncomputable def iRevRw (K:xFr) (ta:TA):TI:=fun σ H R=>ta σ H fun vs H1=>nIterRw K vs H1 R
section
variable {X:Cx}
theorem qc {a tg:Expr} {ta:TA} {p pos:Pos} (hg:Gl X "reversed") (hm:X.mg "reversed"=none) (ha:PA X [a] ta) (hs:starEach [a] X.env=[(false,eval a X.env)]:=by rfl):PI X tg (.Call (.Name "reversed" p) [a] [] pos) (iRevRw X.K ta):=by
 intro pins s σ H R I h;refine Call_ (fC I hg hm boot_reversed (PyProof.Rows.callWith_type1 (thn (ha pos pins s σ H _ I h) fun us s1 ⟨vs,H1,I1,r1,q1⟩=>?_) hs rfl));rcases q1 with ⟨l,xs,rfl,hq,q⟩ | ⟨l,xs,rfl,hq,q⟩;all_goals
  cases r1 with
  | cons r rr=>?_
  cases rr;cases r;have fp:=I1.fpOk (xAg _) (I1.hok.fresh (xAg _))
 ·obtain ⟨its,rv,pl,hz⟩:=I1.tuple hq;have hl:=rv.length;have l63:=line63;refine rh pl (by rw [xAp];lia) ?_;rw [show its.toArray.size=xs.length by rw [xAp,hl]];refine kP (t:=l) (i:=(xs.length:Int) - 1) (xAl _ rfl) ?_;have I2:Inv X pins σ H1 { s1 with heap:=s1.heap.push (rvObj l ((xs.length:Int) - 1)),toks:=s1.toks+1+1 }:=I1.kept fun b o e=>xAf _ e;refine ⟨s1.heap.objs.size,[s1.heap.objs.size],_,_,H1,rfl,I2,pI l _ xs.length,⟨xBn _,?_⟩,fun b hb=>by rw [xAm.mp hb];exact fp,q⟩;rw [show (xs.length:Int) - 1 - ((0:Nat):Int)=(xs.length:Int) - 1 by lia];exact xAl _ rfl
 ·obtain ⟨its,rv,pl,hz⟩:=I1.list hq;have hl:=rv.length;refine call_reversed_list pl.isList ?_;rw [show its.toArray.size=xs.length by rw [xAp,hl]];have st:(s1.heap.push (revObj l ((xs.length:Int) - 1))).IsRevIter s1.heap.objs.size l ((xs.length:Int) - 1):=⟨_,xAl _ rfl,rfl,rfl⟩
  refine wpAny_pyIter_revIter st ?_;have I2:Inv X pins σ H1 { s1 with heap:=s1.heap.push (revObj l ((xs.length:Int) - 1)) }:=I1.kept (t':=s1.toks) fun b o e=>xAf _ e;refine ⟨s1.heap.objs.size,[s1.heap.objs.size],_,_,H1,rfl,I2,pH l _ xs.length,⟨xBn _,?_⟩,fun b hb=>by rw [xAm.mp hb];exact fp,q⟩;rw [show (xs.length:Int) - 1 - ((0:Nat):Int)=(xs.length:Int) - 1 by lia];exact st
end
end L2
namespace Fx
open PySem PySem.Spec L2
open PyProof.Rows hiding St
structure Wku (B:Bs) (J:It) (W:Wd) (vs:List U):Prop where
 go:∀ {i:Nat} {H:Hp} {W':Wd} {S:So},W.Lf W'->RS B W' S H->i<vs.length->J.go i H
 yld:∀ {i:Nat} {H H':Hp} {x:V} {v:U} {W':Wd} {S:So},W.Lf W'->RS B W' S H->vs[i]?=some v->J.yld i H x H'->∃ W2,W'.Le W2/\RS B W2 S H'/\Rv B W2 v x
 stop:∀ {H:Hp} {W':Wd} {S:So},W.Lf W'->RS B W' S H->J.stop vs.length H
noncomputable def IL (B:Bs) (W:Wd) (R:It->Hp->Prop):Kv Prop:=fun v S=>∀ W' J H vs,W.Le W'->RS B W' S H->v = .tup vs->Wku B J W' vs->R J H
noncomputable def LI (B:Bs) (G:Gx Prop) (Ex:St->XK) (c:TEx Prop):TI:=fun τ H R=>∃ W σ S,RS B W S H/\Rg B W σ τ/\c G σ S (XL B W (Ex τ)) (IL B W R)
structure FI (X:Cx) (B:Bs) (G:Gx Prop) (Ex:St->XK) (tg it:Expr) (c:TEx Prop):Prop where
 p:PI X tg it (LI B G Ex c)
 m:MonE G c
theorem wkI {X:Cx} {tg e:Expr} {t t':TI} (h:PI X tg e t) (w:∀ σ H R,t' σ H R->t σ H R):PI X tg e t':=fun pins s σ H R I q=>h pins s σ H R I (w _ _ _ q)
section
variable {B:Bs} {W:Wd} {vs:List U}
theorem wkuL {a:Addr} {ys:List V} (h:SqL B.K W.F a ys) (r:Rvs B W vs ys):Wku B (Itl B.K a) W vs where
 go:=fun {i H W' S} le rs hi=>⟨ys,ys[i]'(by rw [r.length];exact hi),eF (fun p o z=>rs.fz p o (le.f p o z)) h,by simp⟩
 yld:=fun {i H H' x v W' S} le rs hv ⟨e,y⟩=>by
  subst e;obtain ⟨u,e2,ru⟩:=r.get hv;have:=y ys (eF (fun p o z=>rs.fz p o (le.f p o z)) h);rw [e2] at this;cases this;exact ⟨W',.refl,rs,ru.lf le⟩
 stop:=fun le rs=>⟨ys,eF (fun p o z=>rs.fz p o (le.f p o z)) h,by rw [r.length];exact xAg _⟩
theorem wkuT {a:Addr} {ys:List V} (h:∀ H:Hp,(∀ p o,W.F p=some o->H p=some o)->SqT B.K H a ys) (r:Rvs B W vs ys):Wku B (Itt B.K a) W vs where
 go:=fun {i H W' S} le rs hi=>⟨ys,ys[i]'(by rw [r.length];exact hi),h _ fun p o z=>rs.fz p o (le.f p o z),by simp⟩
 yld:=fun {i H H' x v W' S} le rs hv ⟨e,y⟩=>by
  subst e;obtain ⟨u,e2,ru⟩:=r.get hv;have:=y ys (h _ fun p o z=>rs.fz p o (le.f p o z));rw [e2] at this;cases this;exact ⟨W',.refl,rs,ru.lf le⟩
 stop:=fun le rs=>⟨ys,h _ fun p o z=>rs.fz p o (le.f p o z),by rw [r.length];exact xAg _⟩
theorem wkuV {a:Addr} {ys:List V} (h:∀ H:Hp,(∀ p o,W.F p=some o->H p=some o)->SqT B.K H a ys) (r:Rvs B W vs ys):Wku B (Itv B.K a ys.length) W vs.reverse where
 go:=fun le rs hi=>⟨by rw [List.length_reverse] at hi;rw [r.length];exact hi,ys,h _ fun p o z=>rs.fz p o (le.f p o z),rfl⟩
 yld:=fun {i H H' x v W' S} le rs hv ⟨e,y⟩=>by
  subst e;have hi:i<vs.length:=by have:=(xAq.mp hv).1;rwa [List.length_reverse] at this
  rw [List.getElem?_reverse hi] at hv;obtain ⟨u,e2,ru⟩:=r.get hv;have:=y ys (h _ fun p o z=>rs.fz p o (le.f p o z));rw [r.length,e2] at this;cases this;exact ⟨W',.refl,rs,ru.lf le⟩
 stop:=fun le rs=>by show _=_;rw [List.length_reverse,r.length]
theorem jd:∀ {n:Nat} {lo:Int} {i:Nat},(intL lo n)[i]?=if i<n then some (.int (lo+i)) else none
 | 0,_,_=>by simp [intL]
 | n+1,lo,0=>by simp [intL]
 | n+1,lo,i+1=>by
  show (intL (lo+1) n)[i]?=_;rw [jd];by_cases h:i<n
  ·rw [xCg h,xCg (by lia)];congr 2;lia
  ·rw [xCf h,xCf (by lia)]
theorem intL_len:∀ {n:Nat} {lo:Int},(intL lo n).length=n
 | 0,_=>rfl
 | n+1,lo=>by show (intL (lo+1) n).length+1=_;rw [intL_len]
theorem wkuR {lo:Int} {n:Nat}:Wku B (Itr lo n) W (intL lo n) where
 go:=fun le rs hi=>by rw [intL_len] at hi;exact hi
 yld:=fun {i H H' x v W' S} le rs hv ⟨e,y⟩=>by
  subst e y;rw [jd] at hv;split at hv
  ·cases hv;exact ⟨W',.refl,rs,rfl⟩
  ·cases hv
 stop:=fun le rs=>by rw [intL_len];exact xAg _
theorem wkuS {z:Str}:Wku B (Its z) W (z.cps.toList.map fun c=>.str ⟨#[c]⟩) where
 go:=fun le rs hi=>by show _<z.cps.size;simpa using hi
 yld:=fun {i H H' x v W' S} le rs hv y=>by
  obtain ⟨e,c,hc,ex⟩:=y;subst e ex;rw [xAw] at hv;have:z.cps.toList[i]?=some c:=by simpa using hc
  rw [this] at hv;cases hv;exact ⟨W',.refl,rs,rfl⟩
 stop:=fun le rs=>by show _=z.cps.size;simp
theorem iG:∀ {xs ys:List U} {i:Nat} {v:U},(zipU xs ys)[i]?=some v->∃ x y,xs[i]?=some x/\ys[i]?=some y/\v = .tup [x,y]
 | [],_,_,_,h=>by simp [zipU] at h
 | _::_,[],_,_,h=>by simp [zipU] at h
 | x::xs,y::ys,0,_,h=>by simp [zipU] at h;exact ⟨x,y,rfl,rfl,h.symm⟩
 | x::xs,y::ys,i+1,_,h=>by simpa using iG (xs:=xs) (ys:=ys) (i:=i) (by simpa [zipU] using h)
theorem f6:∀ {xs ys:List U},xs.length=ys.length->(zipU xs ys).length=xs.length
 | [],_,_=>rfl
 | x::xs,[],h=>by cases h
 | x::xs,y::ys,h=>by simp [zipU,f6 (xs:=xs) (ys:=ys) (by simpa using h)]
theorem wkuZ {k1 k2:Bool} {x y:V} {as bs:List V} {xs ys:List U} (h1:∀ H:Hp,(∀ p o,W.F p=some o->H p=some o)->sqK k1 B.K H x as) (h2:∀ H:Hp,(∀ p o,W.F p=some o->H p=some o)->sqK k2 B.K H y bs) (r1:Rvs B W xs as) (r2:Rvs B W ys bs) (hl:xs.length=ys.length):Wku B (Itzw k1 k2 B.K x y) W (zipU xs ys) where
 go:=fun {i H W' S} le rs hi=>by
  rw [f6 hl] at hi;exact ⟨as,bs,as[i]'(by rw [r1.length];exact hi),bs[i]'(by rw [r2.length,<- hl];exact hi),h1 _ fun p o z=>rs.fz p o (le.f p o z),h2 _ fun p o z=>rs.fz p o (le.f p o z),by simp,by simp⟩
 yld:=fun {i H H' x' v W' S} le rs hv ⟨q,u,u2,e1,e2,e3,e4,e5⟩=>by
  subst e1 e3;obtain ⟨a,b,ea,eb,rfl⟩:=iG hv;obtain ⟨u',e6,ru⟩:=r1.get ea;have:=e4 as (h1 _ fun p o z=>rs.fz p o (le.f p o z));rw [e6] at this;cases this;obtain ⟨u',e7,ru2⟩:=r2.get eb;have:=e5 bs (h2 _ fun p o z=>rs.fz p o (le.f p o z));rw [e7] at this;cases this;obtain ⟨le2,rs2⟩:=rs.fresh (o:=.tup [u,u2]) e2;exact ⟨_,le2,rs2,q,_,rfl,dk,⟨_,_,rfl,(ru.lf le).mono le2,⟨_,_,rfl,(ru2.lf le).mono le2,rfl⟩⟩⟩
 stop:=fun le rs=>⟨as,h1 _ fun p o z=>rs.fz p o (le.f p o z),by rw [f6 hl];exact r1.length⟩
end
def nIterA (K:xFr) (x:V) (H:Hp) (R:It->Hp->Prop):Prop:=nIterL K x H R\/nIterT K x H R\/nIterStr x H R
noncomputable def iA (K:xFr) (te:TE):TI:=fun σ H R=>te σ H fun x H1=>nIterA K x H1 R
section
variable {X:Cx} {e tg:Expr} {te:TE}
theorem xg (he:PE X e te):PI X tg e (iA X.K te):=by
 intro pins s σ H R I h;refine thn (he pins s σ H _ I h) fun v s1 zz=>?_;obtain ⟨x,H1,I1,r1,q1⟩:=zz;rcases q1 with ⟨a,e,⟨xs,hq⟩,q⟩ | ⟨a,e,⟨xs,hq⟩,q⟩ | q
 ·subst e;cases r1;obtain ⟨its,rv,p,hz⟩:=I1.list hq;refine wpAny_pyIter_list p.isList ?_;refine ⟨s1.heap.objs.size,[s1.heap.objs.size],_,_,H1,rfl,I1.kept (t':=s1.toks) fun b o e=>xAf _ e,lB a _,⟨_,xAl _ rfl,rfl,rfl⟩,fun b hb=>?_,q⟩;have e:b=s1.heap.objs.size:=by simpa using hb
  subst e;exact I1.fpOk (xAg _) (I1.hok.fresh (xAg _))
 ·subst e;cases r1;obtain ⟨its,rv,p,hz⟩:=I1.tuple hq;refine wpAny_pyIter_tuple (show s1.heap.IsTuple a its.toArray from p) ?_;refine ⟨s1.heap.objs.size,[s1.heap.objs.size],_,_,H1,rfl,I1.kept (t':=s1.toks) fun b o e=>xAf _ e,ju a _,⟨_,xAl _ rfl,rfl,rfl⟩,fun b hb=>?_,q⟩;have e:b=s1.heap.objs.size:=by simpa using hb
  subst e;exact I1.fpOk (xAg _) (I1.hok.fresh (xAg _))
 ·obtain ⟨z,rfl,q⟩:=q;obtain ⟨t,rfl⟩:=r1;cases ha:z.cps.all (·<128)
  ·refine wpAny_pyIter_wide ha ⟨s1.heap.objs.size,[s1.heap.objs.size],_,_,H1,rfl,I1.kept (t':=s1.toks) fun b o e=>xAf _ e,iJ _ z t "str_iterator" (by decide) (fun A' hA=>Walks.strWide hA _ z t) (fun _ _ _ _ _ st h=>wpAny_pyIter_striter_wide st h),⟨_,xAl _ rfl,rfl,rfl⟩,fun b hb=>?_,q⟩;have e:b=s1.heap.objs.size:=by simpa using hb
   subst e;exact I1.fpOk (xAg _) (I1.hok.fresh (xAg _))
  ·refine wpAny_pyIter_ascii ha ⟨s1.heap.objs.size,[s1.heap.objs.size],_,_,H1,rfl,I1.kept (t':=s1.toks) fun b o e=>xAf _ e,iJ _ z t "str_ascii_iterator" (by decide) (fun A' hA=>Walks.strAscii hA _ z t) (fun _ _ _ _ _ st h=>wpAny_pyIter_striter_ascii st h),⟨_,xAl _ rfl,rfl,rfl⟩,fun b hb=>?_,q⟩;have e:b=s1.heap.objs.size:=by simpa using hb
   subst e;exact I1.fpOk (xAg _) (I1.hok.fresh (xAg _))
end
section
variable {B:Bs} {up:List (Str×Str)} {G:Gx Prop} {Ex:St->XK} {c a b d:TEx Prop} {as:TAx Prop}
variable {X:Cx} {e ea eb tg:Expr} {es:List Expr} {pos p1 p2:Pos} {x:Str} (g:MonG up G)
include g
theorem rX (hK:X.K=B.K) (h:FE X B G Ex e a):FI X B G Ex tg e (cP .seq (aC a aN)) :=
 ⟨wkI (xg h.p) fun τ H R ⟨W,σ,S,rs,rg,hh⟩=>LE.go h.m rs rg hh fun v S1 W1 u1 H1 le1 rs1 rv1 rg1 h1=>by
  obtain ⟨z,S2,e2,q⟩:=g.pok h1;change seqU .tup v S1=_ at e2;unfold seqU at e2;rw [hK];split at e2
  ·next z2 =>
   cases e2;exact .inr (.inr ⟨z2,rv1,q W1 _ H1 _ le1 rs1 rfl wkuS⟩)
  ·next p =>
   split at e2
   ·next xs ex =>
    cases e2;obtain ⟨aa,rfl,hm⟩:=rv1;obtain ⟨W2,le2,rs2,p',ys,e3,f3,r3⟩:=rs1.freeze ex hm;cases e3;exact .inl ⟨aa,rfl,⟨ys,.of (rs2.fz _ _ f3)⟩,q W2 _ H1 xs (le1.trans le2) rs2 rfl (wkuL (.of f3) r3)⟩
   ·cases e2
  ·next hs hr =>
   split at e2
   ·next xs ex =>
    cases e2;cases v with
    | tup _=>cases ex;obtain ⟨p,ys,rfl,f,r⟩:=rv1;exact .inr (.inl ⟨p,rfl,⟨ys,.of (rs1.fz _ _ f)⟩,q W1 _ H1 xs le1 rs1 rfl (wkuT (fun H hF=>.of (hF _ _ f)) r)⟩)
    | kt _=>cases ex;obtain ⟨p,ys,rfl,f,r⟩:=rv1;exact .inr (.inl ⟨p,rfl,⟨ys,f H1⟩,q W1 _ H1 xs le1 rs1 rfl (wkuT (fun H _=>f H) r)⟩)
    | lst _=>cases ex;obtain ⟨p,ys,rfl,f,r⟩:=rv1;exact .inl ⟨p,rfl,⟨ys,.of (rs1.fz _ _ f)⟩,q W1 _ H1 xs le1 rs1 rfl (wkuL (.of f) r)⟩
    | kl _=>cases ex;obtain ⟨p,ys,rfl,f,r⟩:=rv1;exact .inl ⟨p,rfl,⟨ys,eF rs1.fz f⟩,q W1 _ H1 xs le1 rs1 rfl (wkuL f r)⟩
    | ref p=>exact (hr p rfl).elim
    | _=>cases ex
   ·(cases e2),mP g (mAC g h.m (mAN g))⟩
theorem uM (hg:Gl X "range") (hm:X.mg "range"=none) (h:FE X B G Ex e a) (hst:noStar e=true):FI X B G Ex tg (.Call (.Name "range" p1) [e] [] pos) (cP .rng1 (aC a aN)) :=
 ⟨wkI (vM hg hm (gG g h (jg g) hst).p hst) fun τ H R ⟨W,σ,S,rs,rg,hh⟩=>LA.go (mAC g h.m (mAN g)) rs rg hh fun vs S1 W1 us H1 hl le1 rs1 rv1 rg1 h1=>by
  obtain ⟨z,S2,e2,q⟩:=g.pok h1;obtain ⟨v,rfl⟩:=vs1 e2 rfl fun a b r=>by cases a <;> rfl
  obtain ⟨u,rfl,r1⟩:=rv1.inv1;cases v <;> try (cases e2;done)
  delta pr at e2;dsimp only at e2;split at e2
  ·next j hd =>
   cases e2;obtain ⟨h1,h2⟩:=xBe hd;exact ⟨_,by rw [show u=_ from r1],h1,h2,q W1 _ H1 _ le1 rs1 rfl wkuR⟩
  ·(cases e2),mP g (mAC g h.m (mAN g))⟩
omit g in
theorem wkuW {W:Wd} {vs:List U} {a:Addr} {ys:List V} (h:SqL B.K W.F a ys) (r:Rvs B W vs ys):Wku B (Itrw B.K a ys.length) W vs.reverse where
 go:=fun le rs hi=>⟨by rw [List.length_reverse] at hi;rw [r.length];exact hi,ys,eF (fun p o z=>rs.fz p o (le.f p o z)) h,rfl⟩
 yld:=fun {i H H' x v W' S} le rs hv ⟨e,y⟩=>by
  subst e;have hi:i<vs.length:=by have:=(xAq.mp hv).1;rwa [List.length_reverse] at this
  rw [List.getElem?_reverse hi] at hv;obtain ⟨u,e2,ru⟩:=r.get hv;have:=y ys (eF (fun p o z=>rs.fz p o (le.f p o z)) h);rw [r.length,e2] at this;cases this;exact ⟨W',.refl,rs,ru.lf le⟩
 stop:=fun le rs=>by show _=_;rw [List.length_reverse,r.length]
theorem wG (hK:X.K=B.K) (hg:Gl X "reversed") (hm:X.mg "reversed"=none) (h:FE X B G Ex e a) (hst:noStar e=true):FI X B G Ex tg (.Call (.Name "reversed" p1) [e] [] pos) (cP .rev (aC a aN)) :=
 ⟨wkI (qc hg hm (gG g h (jg g) hst).p (by rw [dh hst];rfl)) fun τ H R ⟨W,σ,S,rs,rg,hh⟩=>LA.go (mAC g h.m (mAN g)) rs rg hh fun vs S1 W1 us H1 hl le1 rs1 rv1 rg1 h1=>(by
  obtain ⟨z,S2,e2,q⟩:=g.pok h1;obtain ⟨v,rfl⟩:=vs1 e2 rfl fun a b r=>by cases a <;> rfl
  obtain ⟨u,rfl,r1⟩:=rv1.inv1;cases v <;> try (cases e2;done)
  ·cases e2;obtain ⟨p,ys,rfl,f,r⟩:=r1;rw [hK];exact .inl ⟨p,ys,rfl,.of (rs1.fz _ _ f),q W1 _ H1 _ le1 rs1 rfl (wkuV (fun H hF=>.of (hF _ _ f)) r)⟩
  ·cases e2;obtain ⟨p,ys,rfl,f,r⟩:=r1;rw [hK];exact .inl ⟨p,ys,rfl,f H1,q W1 _ H1 _ le1 rs1 rfl (wkuV (fun H _=>f H) r)⟩
  ·next p =>
   change lstU p S1 _=_ at e2;unfold lstU at e2;split at e2
   ·next xs ex =>
    cases e2;obtain ⟨aa,rfl,hm⟩:=r1;obtain ⟨W2,le2,rs2,p',ys,e3,f3,r3⟩:=rs1.freeze ex hm;cases e3;rw [hK];exact .inr ⟨aa,ys,rfl,.of (rs2.fz _ _ f3),q W2 _ H1 _ (le1.trans le2) rs2 rfl (wkuW (.of f3) r3)⟩
   ·cases e2),mP g (mAC g h.m (mAN g))⟩
omit g in
theorem nc {W:Wd} {v:U} {u:V} {xs:List U} (r:Rv B W v u) (h:sqF v=some xs):∃ k ys,(∀ H:Hp,(∀ p o,W.F p=some o->H p=some o)->sqK k B.K H u ys)/\Rvs B W xs ys:=by
 cases v with
 | tup _=>cases h;obtain ⟨p,ys,rfl,f,r⟩:=r;exact ⟨true,ys,fun H hF=>⟨p,rfl,.of (hF _ _ f)⟩,r⟩
 | kt _=>cases h;obtain ⟨p,ys,rfl,f,r⟩:=r;exact ⟨true,ys,fun H _=>⟨p,rfl,f H⟩,r⟩
 | lst _=>cases h;obtain ⟨p,ys,rfl,f,r⟩:=r;exact ⟨false,ys,fun H hF=>⟨p,rfl,.of (hF _ _ f)⟩,r⟩
 | kl _=>cases h;obtain ⟨p,ys,rfl,f,r⟩:=r;exact ⟨false,ys,fun H hF=>⟨p,rfl,eF hF f⟩,r⟩
 | _=>cases h
theorem wx {ts:List Expr} {k:Nat} (hK:X.K=B.K) (hg:Gl X "zip") (hm:X.mg "zip"=none) (h:FE X B G Ex ea a) (h2:FE X B G Ex eb b) (hst:noStar ea=true) (hst2:noStar eb=true):FI X B G Ex (.Tuple ts k p2) (.Call (.Name "zip" p1) [ea,eb] [] pos) (cP .zip (lst2 a b)):=by
 have fa:FA X B G Ex [ea,eb] (lst2 a b):=gG g h (gG g h2 (jg g) hst2) hst;refine ⟨wkI (qb hg hm fa.p (dh hst) (by rw [dh hst2];rfl)) fun τ H R ⟨W,σ,S,rs,rg,hh⟩=>LA.go fa.m rs rg hh fun vs S1 W1 us H1 hl le1 rs1 rv1 rg1 h1=>?_,mP g fa.m⟩;obtain ⟨z,S2,e2,q⟩:=g.pok h1;match vs,hl with
 | [v,w],_ =>
  obtain ⟨u,u2,rfl,r1,r2⟩:=rv1.inv2;delta pr at e2;dsimp only at e2;split at e2
  ·next xs ys ex ey =>
   split at e2
   ·next hn =>
    cases e2;obtain ⟨k1,as,q1,rr1⟩:=nc r1 ex;obtain ⟨k2,bs,q2,rr2⟩:=nc r2 ey;rw [hK];exact ⟨u,u2,k1,k2,rfl,⟨as,q1 _ rs1.fz⟩,⟨bs,q2 _ rs1.fz⟩,q W1 _ H1 _ le1 rs1 rfl (wkuZ q1 q2 rr1 rr2 (Nat.eq_of_beq_eq_true hn))⟩
   ·cases e2
  ·cases e2
end
end Fx
namespace Fx
open PySem PySem.Spec L2
open PyProof.Rows hiding St
noncomputable def gsOf:List Nat->TGs
 | []=>gNil
 | i::is=>gCons (gName i) (gsOf is)
noncomputable def ggOf (K:xFr) (is:List Nat) (one:Bool):TG:=match one with
 | true=>gName (is.headD 0)
 | false=>gTup K is.length (gsOf is)
structure FG (X:Cx) (B:Bs) (G:Gx Prop) (tg:Expr) (is:List Nat) (one:Bool):Prop where
 p:PG X tg (ggOf B.K is one)
section
variable {B:Bs} {up:List (Str×Str)} {G:Gx Prop} {Ex:St->XK} {c a b d:TEx Prop} {as:TAx Prop} {t:TTx Prop} {u v:TSx Prop}
variable {X:Cx} {e ea eb tg iter:Expr} {es:List Expr} {st:Stmt} {sts body orelse:List Stmt} {pos p1 p2:Pos} {x y:Str} {i:Nat} (g:MonG up G)
theorem xz (hN:X.N.Nodup) (hi:X.N[i]?=some x) (hx:Loc X.env.scope x) (hf:X.fn x=true\/X.env.scope.names.lookup x=some .local):FG X B G (.Name x pos) [i] true:=⟨kD hN hi hx hf⟩
theorem gp (hN:X.N.Nodup):∀ {es:List Expr} {is:List Nat},(∀ (j:Nat) (e:Expr),es[j]?=some e->∃ x p i,e = .Name x p/\is[j]?=some i/\X.N[i]?=some x/\Loc X.env.scope x/\(X.fn x=true\/X.env.scope.names.lookup x=some .local))->es.length=is.length->PGs X es (gsOf is)/\es.all noStar=true
 | [],[],_,_=>⟨qd,rfl⟩
 | e::es,[],_,hl=>by cases hl
 | [],i::is,_,hl=>by cases hl
 | e::es,i::is,h,hl=>by
  obtain ⟨x,p,i',rfl,hi,h1,h2,h3⟩:=h 0 e rfl;cases hi;obtain ⟨q1,q2⟩:=gp hN (es:=es) (is:=is) (fun j e hj=>h (j+1) e hj) (by simpa using hl);exact ⟨nL (kD hN h1 h2 h3) q1 rfl,by rw [List.all_cons,q2];rfl⟩
theorem oF:∀ {is:List Nat} {W:Wd} {S:So} {H:Hp} {σ:Sg} {τ:St} {vs:List U} {us:List V} {QS:St->Hp->Prop},RS B W S H->Rg B W σ τ->Rvs B W vs us->vs.length=is.length->(∀ τ',Rg B W (puts σ is vs) τ'->(∀ j,j ∉ is->τ'[j]?=τ[j]?)->QS τ' H)->gsOf is us τ H QS
 | [],W,S,H,σ,τ,vs,us,QS,rs,rg,rv,hl,q=>by
  match vs,hl with
  | [],_=>rw [show us=[] from rv];exact ⟨rfl,q τ rg fun _ _=>rfl⟩
 | i::is,W,S,H,σ,τ,vs,us,QS,rs,rg,rv,hl,q=>by
  match vs,hl with
  | v::vs,hl =>
   obtain ⟨u,us,rfl,r1,r2⟩:=rv;exact ⟨u,us,rfl,oF rs (rg.put r1) r2 (by simpa using hl) fun τ' rg' hj=>q τ' rg' fun j hm=>by
    rw [hj j (fun z=>hm (xAs _ z)),List.getElem?_set_ne (fun z=>hm (by simp [z]))]⟩
theorem iT:∀ {is:List Nat} {σ:Sg} {vs:List U},(puts σ is vs).length=σ.length
 | [],_,_=>by cases ‹List U› <;> rfl
 | i::is,σ,[]=>rfl
 | i::is,σ,v::vs=>by show (puts (put σ i v) is vs).length=_;rw [iT,fT]
include g
theorem rS {is:List Nat} {one:Bool} {W:Wd} {S:So} {H:Hp} {σ:Sg} {τ:St} {v:U} {x:V} {k:Sg->Prop} {QS:St->Hp->Prop} (h1:one=true->is.length=1) (rs:RS B W S H) (rg:Rg B W σ τ) (rv:Rv B W v x) (h:tgt is one G v σ k) (q:∀ σ' τ',k σ'->Rg B W σ' τ'->σ'.length=σ.length->(∀ j,j ∉ is->τ'[j]?=τ[j]?)->QS τ' H):ggOf B.K is one x τ H QS:=by
 cases one with
 | true =>
  match is,h1 rfl with
  | [i],_=>exact q (put σ i v) _ h (rg.put rv) fT fun j hj=>by rw [List.getElem?_set_ne (fun z=>hj (by rw [<- z];simp))]
 | false =>
  unfold tgt at h;dsimp only at h;cases v <;> try (exact (g.no h).elim)
  dsimp only at h;split at h
  ·next hn =>
   have hn:=Nat.eq_of_beq_eq_true hn;obtain ⟨p,ys,rfl,f,r⟩:=rv;exact ⟨p,ys,rfl,.of (rs.fz _ _ f),by rw [r.length,hn],oF rs rg r hn fun τ' rg' hj=>q _ τ' h rg' iT hj⟩
  ·exact (g.no h).elim
omit g in
theorem xy {is:List Nat} {k:Nat} (hK:X.K=B.K) (hc:X.calm=true) (hN:X.N.Nodup) (h:∀ (j:Nat) (e:Expr),es[j]?=some e->∃ x p i,e = .Name x p/\is[j]?=some i/\X.N[i]?=some x/\Loc X.env.scope x/\(X.fn x=true\/X.env.scope.names.lookup x=some .local)) (hl:es.length=is.length):FG X B G (.Tuple es k pos) is false:=by
 obtain ⟨q1,q2⟩:=gp hN h hl;refine ⟨?_⟩;show PG X _ (gTup B.K is.length (gsOf is));rw [<- hK];exact nM hc q1 ((eP q2).1.trans hl) (eP q2).2
theorem sG:FS X B G Ex (.Pass pos) sN:=⟨wkS p0 fun D τ H ⟨W,σ,S,rs,rg,h⟩=>h W τ H .refl rs rg,mN g⟩
theorem vz:FSs X B G Ex [] sN:=⟨wkSs pX fun D τ H ⟨W,σ,S,rs,rg,h⟩=>h W τ H .refl rs rg,mN g⟩
theorem sJ (h1:FS X B G Ex st u) (h2:FSs X B G Ex sts v):FSs X B G Ex (st::sts) (sQ u v) :=
 ⟨wkSs (nA h1.p h2.p) fun D τ H ⟨W,σ,S,rs,rg,h⟩=>⟨W,σ,S,rs,rg,h1.m.m (E:=sqE (LEe B Ex W D) fun σ1 S1=>v G σ1 S1 (LEe B Ex W D)) (E':=LEe B Ex W { D with nx:=LS B G Ex v D }) ⟨fun σ1 S1 h3 W1 τ1 H1 le1 rs1 rg1=>⟨W1,σ1,S1,rs1,rg1,h2.m.m (LEe.inc le1) h3⟩,fun _ _ z=>z,fun _ _ z=>z,fun _ _ z=>z,fun _ _ _ z=>z⟩ h⟩,mQ g h1.m h2.m⟩
omit g in
theorem xle {W:Wd} {σ:Sg} {τ:St} {D:Ends} (rg:Rg B W σ τ):∀ x S,(LEe B Ex W D).x x σ S->XL B W (Ex τ) x S:=fun x S h W' C dx H le rx=>h W' τ C dx H le rx (rg.mono le)
omit g in
theorem LE.stm {S:So} {σ:Sg} {τ:St} {H:Hp} {W:Wd} {D:Ends} {Q:VK} {k:Kv Prop} (m:MonE G c) (rs:RS B W S H) (rg:Rg B W σ τ) (h:c G σ S (fun x S1=>(LEe B Ex W D).x x σ S1) k) (hk:∀ v S' W' u H',W.Le W'->RS B W' S' H'->Rv B W' v u->Rg B W' σ τ->k v S'->Q u H'):LE B G Ex c τ H Q :=
 LE.go m rs rg (m.m (fun x S=>xle rg x S) (fun _ _ h=>h) h) hk
theorem vF (he:FE X B G Ex e c) (hN:X.N.Nodup) (hi:X.N[i]?=some x) (hx:Loc X.env.scope x) (hsw:swapsWith e (some (.Name x p1)) pos.line X.env=pure false) (hf:X.fn x=true\/X.env.scope.names.lookup x=some .local):FS X B G Ex (.Assign [.Name x p1] e pos) (sA i c) :=
 ⟨wkS (tj hN hi hx he.p hsw hf) fun D τ H ⟨W,σ,S,rs,rg,h⟩=>LE.stm he.m rs rg h fun v S' W' u H' le rs' rv rg' h'=>h' W' _ H' le rs' (rg'.put rv),mA g he.m⟩
theorem xf (he:FE X B G Ex e c) (hc:noComp e=true):FS X B G Ex (.Expr e pos) (sE c) :=
 ⟨wkS (vL he.p hc) fun D τ H ⟨W,σ,S,rs,rg,h⟩=>LE.stm he.m rs rg h fun v S' W' u H' le rs' rv rg' h'=>h' W' τ H' le rs' rg',mSE g he.m⟩
theorem vy (he:FE X B G Ex e c):FS X B G Ex (.Return (some e) pos) (sR c) :=
 ⟨wkS (tm he.p) fun D τ H ⟨W,σ,S,rs,rg,h⟩=>LE.stm he.m rs rg h fun v S' W' u H' le rs' rv rg' h'=>h' W' u H' le rs' rv,mR g he.m⟩
theorem sD:FS X B G Ex (.Return none pos) sRN:=⟨wkS pZ fun D τ H ⟨W,σ,S,rs,rg,h⟩=>h W _ H .refl rs rfl,mRN g⟩
theorem xc (ht:FT X B G Ex e t) (ha:FSs X B G Ex body u) (hb:FSs X B G Ex orelse v):FS X B G Ex (.If e body orelse pos) (sI t u v) :=
 ⟨wkS (vK ht.p ha.p hb.p) fun D τ H ⟨W,σ,S,rs,rg,h⟩=>LT.go ht.m rs rg (ht.m.m (fun x S=>xle rg x S) (fun _ _ h=>h) h) fun c S' W' H' le rs' rg' h'=>by
  have h':=g.bk h';cases c with
  | true=>exact ⟨W',σ,S',rs',rg',ha.m.m (LEe.inc le) h'⟩
  | false=>exact ⟨W',σ,S',rs',rg',hb.m.m (LEe.inc le) h'⟩,mI g ht.m ha.m hb.m⟩
omit g in
theorem PG.or' {t1 t2:TG} (h1:PG X tg t1) (h2:PG X tg t2):PG X tg (fun v σ H Q=>t1 v σ H Q\/t2 v σ H Q):=fun pins s σ H v u Q I r q=>q.elim (h1 pins s σ H v u Q I r) (h2 pins s σ H v u Q I r)
theorem vx {is:List Nat} {k:Nat} {pt:Pos} (hK:X.K=B.K) (hc:X.calm=true) (hN:X.N.Nodup) (he:FE X B G Ex e c) (h:∀ (j:Nat) (e:Expr),es[j]?=some e->∃ x p i,e = .Name x p/\is[j]?=some i/\X.N[i]?=some x/\Loc X.env.scope x/\(X.fn x=true\/X.env.scope.names.lookup x=some .local)) (hl:es.length=is.length)
  (hs:swapsWithSole [.Tuple es k pt] e pos.line X.env=pure false) (hw:swappedStores [.Tuple es k pt] e X.env=pure none):FS X B G Ex (.Assign [.Tuple es k pt] e pos) (sU is c):=by
 obtain ⟨q1,q2⟩:=gp hN h hl;refine ⟨wkS (nB he.p (PG.or' (nM (k:=k) (pos:=pt) hc q1 (eP q2).1 (eP q2).2) (tF (k:=k) (pos:=pt) hc q1 (eP q2).1 (eP q2).2)) hs hw) fun D τ H ⟨W,σ,S,rs,rg,h⟩=>LE.stm he.m rs rg h fun v S' W' u H' le rs' rv rg' h'=>?_,mU g he.m⟩;obtain ⟨z,S2,e2,q⟩:=g.pok h';delta pr at e2;dsimp only at e2;split at e2
 ·next xs ex =>
  split at e2
  ·next hn =>
   cases e2;have hn:=Nat.eq_of_beq_eq_true hn;obtain ⟨p,ys,rfl,sq,rr⟩:=fo rs' rv ex;have fin:=oF rs' rg' rr hn fun τ' rg2 _=>q W' τ' H' le rs' rg2;rw [hK];rcases sq with sq | sq
   ·exact .inr ⟨p,ys,rfl,sq,by rw [rr.length,hn,hl],fin⟩
   ·exact .inl ⟨p,ys,rfl,sq,by rw [rr.length,hn,hl],fin⟩
  ·cases e2
 ·cases e2
theorem vD {fl:List Str} {f:Str} {o:Expr} (hK:X.K=B.K) (F:ClF B fl) (hf:f∈fl) (ho:FE X B G Ex o a) (he:FE X B G Ex e c) (hc:noComp e=true):FS X B G Ex (.Assign [.Attribute o f p1] e pos) (sP (.setf f) c (aC a aN)) :=
 ⟨wkS (tp ho.p he.p (fg hc)) fun D τ H ⟨W,σ,S,rs,rg,h⟩=>LE.stm he.m rs rg h fun v S1 W1 u1 H1 le1 rs1 rv1 rg1 h1=>by
  refine LE.go ho.m rs1 rg1 (ho.m.m (fun x S z=>XL.up le1 (xle rg x S z)) (fun _ _ z=>z) h1) fun w S2 W2 u2 H2 le2 rs2 rv2 rg2 h2=>?_;obtain ⟨z,S3,e3,q⟩:=g.pok h2;cases w <;> try (cases e3;done)
  obtain ⟨C,fs,aa,cc,dx,vs,e4,e5,e6,hm,hcl,hh,rn⟩:=ip rs2 rv2 (show insU _ _ _=_ from e3);split at e5
  ·next hb =>
   cases e5;have hb:=Nat.le_of_ble_eq_true hb;exact ⟨aa,cc,dx,vs,e6,hh,by rw [hK];exact F.c hcl,by rw [hK];exact F.n hcl hf,by rw [rn.length];lia,q W2 τ _ (le1.trans le2) (rs2.mut hm e4 (by nofun) ⟨cc,dx,_,hcl,rfl,ko (rv1.mono le2) rn⟩) rg2⟩
  ·(cases e5),mSP g he.m (mAC g ho.m (mAN g))⟩
omit g in
noncomputable def rSetA:TSet:=fun o i v H Q=>rSetL o i v H Q\/∃ a H4,o = .ref a/\DPut H a i v H4/\Q H4
omit g in
theorem vv (hu:X.A.units+1<cLine):PSet X rSetA:=by
 intro pins s σ H o i v ov iv u Q I ro ri rv h;rcases h with h | ⟨a,H4,rfl,d,q⟩
 ·exact ni pins s σ H o i v ov iv u Q I ro ri rv h
 ·obtain rfl:ov=Value.ref a:=ro;exact l8 hu I d ri rv fun s4 I4=>⟨H4,I4,q⟩
theorem sH {o ei:Expr} (hu:X.A.units+1<cLine) (ho:FE X B G Ex o a) (hi:FE X B G Ex ei b) (he:FE X B G Ex e c) (hs:noSlice ei=true) (hc:noComp e=true):FS X B G Ex (.Assign [.Subscript o ei p1] e pos) (sP .seti c (lst2 a b)):=by
 refine ⟨wkS (nB he.p (tE ho.p hi.p (vv hu) (by intro _;cases ei <;> first | rfl | cases hs)) (by rw [show swapsWithSole [Expr.Subscript o ei p1] e pos.line X.env=swapsWith e (some (.Subscript o ei p1)) pos.line X.env from rfl];exact fg hc) rfl rfl) fun D τ H ⟨W,σ,S,rs,rg,h⟩=>LE.stm he.m rs rg h fun v S1 W1 u1 H1 le1 rs1 rv1 rg1 h1=>?_,mSP g he.m (mAC g ho.m (mAC g hi.m (mAN g)))⟩;refine LE.go ho.m rs1 rg1 (ho.m.m (fun x S z=>XL.up le1 (xle rg x S z)) (fun _ _ z=>z) h1) fun w S2 W2 u2 H2 le2 rs2 rv2 rg2 h2=>?_;refine LE.go hi.m rs2 rg2 (hi.m.m (fun x S z=>XL.up (le1.trans le2) (xle rg x S z)) (fun _ _ z=>z) h2) fun w3 S3 W3 u3 H3 le3 rs3 rv3 rg3 h3=>?_;obtain ⟨z,S4,e4,q⟩:=g.pok h3;have rv2:=rv2.mono le3;have rv1:=(rv1.mono le2).mono le3;have lee:=le1.trans (le2.trans le3);cases w <;> try (cases e4;done)
 change setiU _ w3 v S3=_ at e4;unfold setiU at e4;split at e4
 ·next kvs ek =>
  split at e4
  ·next kk ekk =>
   obtain ⟨hl,e5⟩:=dW e4;cases e5;obtain ⟨aa,hh,hm,hH,ro,_⟩:=rs3.here ek;obtain ⟨aa',e6,hm'⟩:=rv2;rw [hm] at hm';cases hm';obtain ⟨ks,rfl,rn⟩:=ro;exact .inr ⟨aa,_,e6,.inl ⟨ks,kk,hH,im ekk rv3,by rw [rn.length];lia,rfl⟩,q W3 τ _ lee (rs3.mut hm ek (by nofun) ⟨_,rfl,pT rv1 rn⟩) rg3⟩
  ·cases e4
 ·next xs ek =>
  split at e4
  ·next ii =>
   split at e4
   ·next hd =>
    cases e4;obtain ⟨h0,h1⟩:=xBe hd;obtain ⟨aa,hh,hm,hH,ro,_⟩:=rs3.here ek;obtain ⟨aa',e6,hm'⟩:=rv2;rw [hm] at hm';cases hm';obtain ⟨ys,rfl,rr⟩:=ro;refine .inl ⟨aa,ys,ii,ii.toNat,e6,rv3,hH,?_,q W3 τ _ lee (rs3.mut hm ek (by nofun) ⟨_,rfl,rr.set rv1 _⟩) rg3⟩;unfold ixN;rw [xCg h0,xCg (by rw [rr.length];exact h1)]
   ·cases e4
  ·cases e4
 ·cases e4
theorem vB {is:List Nat} {one:Bool} (ho:one=true->is.length=1) (hc:X.calm=true) (hi:FI X B G Ex tg iter c) (hg:FG X.lp B G tg is one) (hb:FSs X.lp B G Ex body u) (hs:∀ x,foldedSetIterable iter X.env x=pure x):FS X B G Ex (.For tg iter body [] pos) (sF c is one u):=by
 refine ⟨wkS (p5 hc hi.p hg.p hb.p hs) fun D τ H ⟨W,σ,S,rs,rg,h⟩=>?_,mSF g hi.m hb.m⟩;refine ⟨W,σ,S,rs,rg,hi.m.m (fun x S z=>xle rg x S z) (fun v S1 h1 W1 J H1 vs le1 rs1 ev wk=>?_) h⟩;subst ev;dsimp only at h1;refine ⟨fun i m τ' H'=>i<=vs.length/\m=vs.length - i/\∃ W' σ' S',W1.Le W'/\RS B W' S' H'/\Rg B W' σ' τ'/\forK (vs.drop i) (fun w σ1 S2 nx=>tgt is one G w σ1 fun σ2=>u G σ2 S2 (lpE (LEe B Ex W D) nx)) σ' S' (LEe B Ex W D).nx,⟨vs.length,xBn _,rfl,W1,σ,S1,.refl,rs1,rg.mono le1,h1⟩,?_⟩;rintro i m τ' H' ⟨hi',rfl,W',σ',S',le',rs',rg',hh⟩
 by_cases hlt:i<vs.length
 ·refine .inr ⟨wk.go le'.lf rs' hlt,fun τ2 H2=>∃ W2 σ2 S2,W1.Le W2/\RS B W2 S2 H2/\Rg B W2 σ2 τ2/\forK (vs.drop (i+1)) (fun w σ1 S2 nx=>tgt is one G w σ1 fun σ2=>u G σ2 S2 (lpE (LEe B Ex W D) nx)) σ2 S2 (LEe B Ex W D).nx,fun τ2 H2 ⟨W2,σ2,S2,l2,r2,g2,f2⟩=>⟨vs.length - (i+1),by lia,hlt,rfl,W2,σ2,S2,l2,r2,g2,f2⟩,fun x H2 y=>?_⟩;rw [List.drop_eq_getElem_cons hlt] at hh;obtain ⟨W2,le2,rs2,rv2⟩:=wk.yld le'.lf rs' (xAk hlt) y;refine rS g ho (k:=fun σ2=>u G σ2 S' (lpE (LEe B Ex W D) fun σ1 S1=>forK (vs.drop (i+1)) (fun w σ1 S2 nx=>tgt is one G w σ1 fun σ2=>u G σ2 S2 (lpE (LEe B Ex W D) nx)) σ1 S1 (LEe B Ex W D).nx)) rs2 (rg'.mono le2) rv2 hh fun σ3 τ3 h3 rg3 _ _=>⟨W2,σ3,S',rs2,rg3,hb.m.m ?_ h3⟩
  have lew:W.Le W2:=le1.trans (le'.trans le2);exact ⟨fun σ4 S4 h4 W4 τ4 H4 le4 rs4 rg4=>⟨W4,σ4,S4,le'.trans (le2.trans le4),rs4,rg4,h4⟩,fun _ _=>VL.inc lew,fun _ _=>NL.inc lew,fun σ4 S4 h4 W4 τ4 H4 le4 rs4 rg4=>⟨W4,σ4,S4,le'.trans (le2.trans le4),rs4,rg4,h4⟩,(LEe.inc lew).x⟩
 ·have e:i=vs.length:=by lia
  subst e;rw [List.drop_length] at hh;exact .inl ⟨wk.stop le'.lf rs',hh W' τ' H' (le1.trans le') rs' rg'⟩
theorem pP (ht:FT X.lp B G Ex e t) (hb:FSs X.lp B G Ex body u):FS X B G Ex (.While e body [] pos) (sW t u):=by
 refine ⟨wkS (lH ht.p hb.p) fun D τ H ⟨W,σ,S,rs,rg,h⟩=>?_,mSW g ht.m hb.m⟩;refine ⟨fun m τ' H'=>∃ W' σ' S',W.Le W'/\RS B W' S' H'/\Rg B W' σ' τ'/\whK (fun σ1 S1 k=>t G σ1 S1 (fun x S2=>(LEe B Ex W D).x x σ1 S2) k) (fun σ1 S1 nx=>u G σ1 S1 (lpE (LEe B Ex W D) nx)) G.br G.fail m σ' S' (LEe B Ex W D).nx,⟨G.fuel,W,σ,S,.refl,rs,rg,h⟩,?_⟩;rintro m τ' H' ⟨W',σ',S',le',rs',rg',hh⟩
 cases m with
 | zero=>exact (g.no hh).elim
 | succ m =>
  refine LT.go ht.m rs' rg' (ht.m.m (fun x S z=>fun W2 C dx H le2 rx=>z W2 τ' C dx H (le'.trans le2) rx (rg'.mono le2)) (fun _ _ z=>z) hh) fun cc S2 W2 H2 le2 rs2 rg2 h2=>?_;have h2:=g.bk h2;have lew:W.Le W2:=le'.trans le2;cases cc with
  | true =>
   rw [xCg rfl] at h2 ⊢;refine ⟨fun τ3 H3=>∃ W3 σ3 S3,W.Le W3/\RS B W3 S3 H3/\Rg B W3 σ3 τ3/\whK (fun σ1 S1 k=>t G σ1 S1 (fun x S2=>(LEe B Ex W D).x x σ1 S2) k) (fun σ1 S1 nx=>u G σ1 S1 (lpE (LEe B Ex W D) nx)) G.br G.fail m σ3 S3 (LEe B Ex W D).nx,fun τ3 H3 z=>⟨m,Nat.lt_succ_self _,z⟩,W2,σ',S2,rs2,rg2,hb.m.m ?_ h2⟩;exact ⟨fun σ4 S4 h4 W4 τ4 H4 le4 rs4 rg4=>⟨W4,σ4,S4,lew.trans le4,rs4,rg4,h4⟩,fun _ _=>VL.inc lew,fun _ _=>NL.inc lew,fun σ4 S4 h4 W4 τ4 H4 le4 rs4 rg4=>⟨W4,σ4,S4,lew.trans le4,rs4,rg4,h4⟩,(LEe.inc lew).x⟩
  | false =>
   rw [xCf xAy] at h2 ⊢;exact h2 W2 τ' H2 lew rs2 rg2
end
end Fx
namespace Fx
open PySem PySem.Spec L2
open PyProof.Rows hiding St
section
variable {B:Bs} {up:List (Str×Str)} {G:Gx Prop} {Ex:St->XK} {c a b d:TEx Prop} {as:TAx Prop} {t:TTx Prop} {u v:TSx Prop}
variable {X:Cx} {e ea eb:Expr} {es:List Expr} {st:Stmt} {sts body suite:List Stmt} {pos p1 p2 p3 np hpos:Pos} {x y:Str} {i:Nat} {cc:Addr} (g:MonG up G)
include g
theorem wP {fs:List (Str×Nat×Nat)} {e1:Expr} (hx:PassS (CXz X.prog X.w) X Ex) (he:FE X B G Ex e a) (hs:FA X B G Ex (e1::es) as) (hst:(e1::es).all noStar=true)
  (hv:∀ {y p},getF y fs=some p->∃ f kk fd ps,B.mg y=some (.ref f)/\PySem.W.keepIn X.K (.ref f)=true/\Room kk X.A/\FnOk X.prog X.w X.K X.mg X.base (CXz X.prog X.w) kk f fd ps (spF B G p.1 p.2)/\Binds X.K fd ps []/\es.length+1=p.2)
  (hcall:eval (.Call e (e1::es) [] pos) X.env=(do callWith pos (<- eval e X.env) [] (backTo pos (starEach (e1::es) X.env)) (backToKw pos (keywordEach [] X.env)))):FE X B G Ex (.Call e (e1::es) [] pos) (cD fs a as):=by
 refine ⟨fun pins s τ H Q I ⟨W,σ,S,rs,rg,h⟩=>?_,mD g he.m hs.m⟩;rw [hcall];have h0:=LE.go (Q:=fun u H1=>∃ y p,getF y fs=some p/\(∃ f,u = .ref f/\B.mg y=some (.ref f))/\LA B G Ex as τ H1 fun us H2=>spF B G p.1 p.2 us H2 Q (Ex τ)) he.m rs rg h fun v S1 W1 u1 H1 le1 rs1 rv1 rg1 h1=>by
  cases v <;> first | (exact (g.no h1).elim) | skip
  dsimp only at h1;split at h1
  ·next y p hp =>
   obtain ⟨f,kk,fd,ps,hm,hk,hr,F,hb,hn⟩:=hv hp;obtain ⟨f',e2,hm'⟩:=rv1;refine ⟨_,_,hp,⟨f',e2,hm'⟩,LA.go hs.m rs1 rg1 (hs.m.m (XL.upf le1 _) (fun _ _ _ z=>z) h1) fun vs S2 W2 us H2 hl le2 rs2 rv2 _ h2=>⟨by rw [rv2.length,hl];exact hn,W2,vs,S2,rs2,rv2,g.call (XL.upf (le1.trans le2) _) (fun _ _=>VL.inc (le1.trans le2)) h2⟩⟩
  ·exact (g.no h1).elim
 refine xAd (thn (he.p pins s τ H _ I h0) fun fv s1 zz=>?_);obtain ⟨u,H1,I1,r1,y,p,hp,⟨f',e2,hm'⟩,h1⟩:=zz;subst e2;obtain rfl:fv=Value.ref f':=r1;obtain ⟨f,kk,fd,ps,hm,hk,hr,F,hb,hn⟩:=hv hp;rw [hm] at hm';cases hm';rw [List.all_cons,Bool.and_eq_true] at hst;refine PySem.W.callWith_K (h₀:=X.base) I.ok.mod.kin hk (thn (hs.p pos pins s1 τ H1 _ I1 h1) fun us s2 ⟨vs,H2,I2,r2,q2⟩=>⟨I2.kIn,?_⟩) (dh hst.1) (dL hst.2);exact eY (dvs:=[]) (ds:=[]) F hr hb .nil hx I2 r2 (by rw [xB0];exact q2)
theorem wM {k np:Nat} {f':Addr} {fd:FuncData} {ps:List Str} {mc:Value} {e1:Expr} {m:Str} {apos:Pos} (hg:Gl X x) (hm:X.mg x=some (.ref cc)) (hdb:(x == ("__debug__":Str))=false) (h1:PySem.W.specialIn X.K (.ref cc) "__getattribute__"=some (some (.builtin "type.__getattribute__"))) (h2:PySem.W.readsIn X.K cc mc=true) (h3:PySem.W.findCls X.K (.ref cc) mc m=some (.val (.ref f'))) (h4:PySem.W.handedIn (.ref f')=true) (hk:PySem.W.keepIn X.K (.ref f')=true)
  (F:FnOk X.prog X.w X.K X.mg X.base (CXz X.prog X.w) k f' fd ps (spF B G i np)) (hr:Room k X.A) (hb:Binds X.K fd ps []) (hx:PassS (CXz X.prog X.w) X Ex) (hs:FA X B G Ex (e1::es) as) (hst:(e1::es).all noStar=true) (hn:es.length+1=np)
  (ht:∃ pl,eval (.Call (.Attribute (.Name x p1) m apos) (e1::es) [] pos) X.env=(do
   let ov <- eval (.Name x p1) X.env
   standAt apos.atName
   let (f,first) <- holding [ov] (getMethod ov m pl)
   callWith pos f first (backTo pos (starEach (e1::es) X.env)) (backToKw pos (keywordEach [] X.env)))):FE X B G Ex (.Call (.Attribute (.Name x p1) m apos) (e1::es) [] pos) (cF i as []):=by
 refine ⟨fun pins s τ H Q I ⟨W,σ,S,rs,rg,h⟩=>?_,mF g hs.m⟩;obtain ⟨pl,ht⟩:=ht;have h0:LA B G Ex as τ H fun us H2=>spF B G i np us H2 Q (Ex τ):=LA.go hs.m rs rg h fun vs S2 W2 us H2 hl le2 rs2 rv2 _ h2=>⟨by rw [rv2.length,hl];exact hn,W2,vs,S2,rs2,rv2,g.call (XL.upf le2 _) (fun _ _=>VL.inc le2) (by rw [xB0] at h2;exact h2)⟩
 refine PySem.W.methodCall_KW (pl:=pl) (e9 I hg hm ?_ hdb) ht;refine PySem.W.method_cls I.kIn h1 (PySem.W.cls_value I.kIn h2 h3 h4 ?_);rw [List.all_cons,Bool.and_eq_true] at hst;have I1:=I.tok (t:=s.toks+1);refine PySem.W.callWith_K (first:=[]) (h₀:=X.base) I.ok.mod.kin hk (thn (hs.p pos pins _ τ H _ I1 h0) fun us s2 ⟨vs,H2,I2,r2,q2⟩=>⟨I2.kIn,?_⟩) (dh hst.1) (dL hst.2);exact eY (dvs:=[]) (ds:=[]) F hr hb .nil hx I2 r2 (by rw [xB0];exact q2)
end
end Fx
namespace Fx
open PySem PySem.Spec L2
open PyProof.Rows hiding St
section
variable {B:Bs} {up:List (Str×Str)} {G:Gx Prop} {Ex:St->XK} {c a b d:TEx Prop} {as:TAx Prop} {t:TTx Prop} {u v:TSx Prop}
variable {X:Cx} {e ea eb tg iter elt:Expr} {es:List Expr} {st:Stmt} {sts body:List Stmt} {pos p1 p2 p3 p4 np hpos:Pos} {x y n f:Str} {i j:Nat} {cc:Addr} (g:MonG up G)
include g
omit g in
theorem sB {h0:ExceptHandler} {hs:List ExceptHandler} (mu:MonS G u) (hx:∀ (pins:List (Addr×Obj)),FSs (X.trial pins fun _ _=>False) B G Ex body u):FS X B G Ex (.Try body (h0::hs) [] [] pos) u:=⟨pY fun pins=>(hx pins).p,mu⟩
omit g in
theorem dY:∀ {ws:List Str} {z:Str},z∈dedup ws↔z∈ws
 | [],z=>Iff.rfl
 | w::r,z=>by
  unfold dedup;split
  ·next h =>
   obtain ⟨y,hy,e⟩:=List.any_eq_true.mp h;have e:=xBe e;subst e;rw [dY];exact ⟨fun h=>xAs _ h,fun h=>by rcases xAv.mp h with rfl | h;exact hy;exact h⟩
  ·rw [xAv,xAv,dY]
omit g in
theorem d0:∀ {ws:List Str},(dedup ws).Nodup
 | []=>List.nodup_nil
 | w::r=>by
  unfold dedup;split
  ·exact d0
  ·next h =>
   refine xCb.mpr ⟨fun z=>h ?_,d0⟩;exact List.any_eq_true.mpr ⟨w,dY.mp z,by simp⟩
omit g in
theorem gh:∀ {l m:List Str},l.Nodup->m.Nodup->(∀ z,z∈l->z∈m)->l.length<=m.length
 | [],_,_,_,_=>xBn _
 | x::l,m,h1,h2,hs=>by
  obtain ⟨h3,h4⟩:=xCb.mp h1;have hx:x∈m:=hs x (by simp);have:=gh (l:=l) (m:=m.erase x) h4 (h2.erase x) fun z hz=>by
   rw [List.mem_erase_of_ne (fun (e:z=x)=>h3 (by rw [<- e];exact hz))];exact hs z (xAs _ hz)
  rw [List.length_erase_of_mem hx] at this;have:=List.length_pos_of_mem hx;simp only [xAo];lia
theorem oR (hc:X.calm=true) (hg:Gl X "len") (hm:X.mg "len"=none) (hg2:Gl X "set") (hm2:X.mg "set"=none) (ha:FE X B G Ex ea a) (hst:noStar ea=true):FE X B G Ex (.Call (.Name "len" p1) [.Call (.Name "set" p2) [ea] [] p3] [] pos) (cP .lenset (aC a aN)) :=
 ⟨wkE (kF qU hg hm (by decide +kernel) (jF (rJ (qS hc) hg2 hm2 (by decide +kernel) (jF ha.p gf hst) (by rw [List.all_cons,hst];rfl)) gf rfl) rfl) fun τ H Q h=>(LE.p1 g ha.m h).imp ha.m fun w H1 zz=>by
  obtain ⟨W,S,v,z,S',rs,r1,e,q⟩:=zz;cases v <;> try (cases e;done)
  delta pr at e;dsimp only at e;split at e
  ·next ws ew =>
   split at e
   ·next hb =>
    cases e;obtain ⟨p,ys,rfl,f,r⟩:=r1;have hys:=kg ew r;subst hys;refine ⟨p,ws,rfl,rs.fz _ _ f,Nat.le_of_ble_eq_true hb,fun l ks hl hnd hmem=>⟨l,ks,rfl,dk,?_,?_⟩⟩
    ·have:ks.length<=ws.length:=Nat.le_trans (gh hnd (d0 (ws:=ws)) fun z hz=>dY.mpr ((hmem z).mp hz)) ?_
     ·have:=Nat.le_of_ble_eq_true hb;lia
     ·exact Nat.le_trans (gh (d0 (ws:=ws)) (d0 (ws:=ws)) fun z hz=>hz) (by
       clear q rs r f hmem hnd hb ew;induction ws with
       | nil=>exact xAg _
       | cons w r ih=>unfold dedup;split <;> simp only [xAo] <;> lia)
    ·have el:ks.length=(dedup ws).length:=Nat.le_antisymm (gh hnd d0 fun z hz=>dY.mpr ((hmem z).mp hz)) (gh d0 hnd fun z hz=>(hmem z).mpr (dY.mp hz));rw [el];exact q W _ _ .refl (rs.same (ez hl _)) rfl
   ·cases e
  ·(cases e),mP g (mAC g ha.m (mAN g))⟩
omit g in
theorem kJ:∀ {n:Nat} {l:List (Option U)} {k:Nat} {v:U},nth (List.replicate n none++l) k=some v->n<=k/\nth l (k - n)=some v
 | 0,l,k,v,h=>⟨xBn _,by simpa using h⟩
 | n+1,l,0,v,h=>by cases h
 | n+1,l,k+1,v,h=>by
  have h:nth (List.replicate n none++l) k=some v:=by simpa [List.replicate_succ,nth] using h
  obtain ⟨a,b⟩:=kJ h;exact ⟨by lia,by rw [show k+1 - (n+1)=k - n by lia];exact b⟩
omit g in
theorem kI {σ:Sg}:∀ {cs:List Nat} {k:Nat} {v:U},nth (cs.map (nth σ)) k=some v->∃ c,cs[k]?=some c/\nth σ c=some v
 | [],_,_,h=>by cases h
 | c::cs,0,v,h=>⟨c,rfl,h⟩
 | c::cs,k+1,v,h=>by simpa using kI (cs:=cs) (k:=k) (by simpa [nth] using h)
omit g in
theorem vj {W:Wd} {σ:Sg} {τ:St} {m:Nat} {cs:List Nat} (rg:Rg B W σ τ):Rg B W (List.replicate m none++cs.map (nth σ)) (List.replicate m none++capV τ cs):=by
 refine ⟨by simp [capV],fun k v h=>?_⟩;obtain ⟨h1,h2⟩:=kJ h;obtain ⟨c,h3,h4⟩:=kI h2;obtain ⟨u,e,r⟩:=rg.v c v h4;refine ⟨u,?_,r⟩;rw [List.getElem?_append_right (by simpa using h1),List.length_replicate];unfold capV;rw [xAw,h3];simp [e]
theorem wK {scope:Scope} {cl:List (Str×Addr)} {ls N:List Str} {cs is:List Nat} {one:Bool} {ifs:List Expr} {to:Option (TTx Prop)} (ho:one=true->is.length=1) (his:∀ k∈is,k<ls.length) (hc:X.calm=true) (cp:CapsG X scope cl ls N cs) (hi:FI X B G Ex tg iter c)
  (hg:∀ C s H fp,FG (cxComp X (ls++N) scope cl C s H fp) B G tg is one) (he:∀ C s H fp,FE (cxComp X (ls++N) scope cl C s H fp) B G (fun _ _ _ _=>False) elt a)
  (ht:(ifs=[]/\to=none)\/∃ ec t,ifs=[ec]/\to=some t/\MonT G t/\∀ C s H fp,FT (cxComp X (ls++N) scope cl C s H fp) B G (fun _ _ _ _=>False) ec t) (hs:∀ v,foldedSetIterable iter X.env v=pure v) (me:MonE G a):FE X B G Ex (.ListComp elt [⟨tg,iter,ifs,0⟩] scope pos) (cL c is one ls.length cs to a):=by
 have mt:∀ u,to=some u->MonT G u:=fun u hu=>by
  rcases ht with ⟨_,h⟩ | ⟨_,t,_,h,mt,_⟩
  ·rw [h] at hu;cases hu
  ·rw [h] at hu;cases hu;exact mt
 let tc:TT:=(to.map fun t=>LT B G (fun _ _ _ _=>False) t).getD tYes
 have htc:∀ C s H fp,PTs (cxComp X (ls++N) scope cl C s H fp) ifs tc:=fun C s H fp=>by
  rcases ht with ⟨h1,h2⟩ | ⟨ec,t,h1,h2,_,h3⟩
  ·subst h1 h2;exact pW
  ·subst h1 h2;exact pV (h3 C s H fp).p
 refine ⟨wkE (tL hc cp hi.p (fun C s H fp=>(hg C s H fp).p) htc (fun C s H fp=>(he C s H fp).p) hs) fun τ H Q ⟨W,σ,S,rs,rg,h⟩=>?_,mL g hi.m mt me⟩;refine ⟨W,σ,S,rs,rg,hi.m.m (fun _ _ z=>z) (fun v S1 h1 W1 J H1 vs le1 rs1 ev wk=>?_) h⟩;subst ev;have h1:=g.bk h1;split at h1
 ·next hsz =>
  have hsz:=Nat.le_of_ble_eq_true hsz;intro D hD;generalize hbody:lcB is one (List.replicate ls.length none++cs.map (nth σ)) to a G=bd at h1;have hne:∀ q∈W1.pr,q.1≠D:=fun q hq z=>by rw [<- z,(rs1.pf q hq).1] at hD;cases hD
  let Wi:Nat->Nat->List V->Hp->Prop:=fun i k ys H'=>i<=vs.length/\k=vs.length - i/\ys.length<=i/\∃ W' S' us,W1.Lf W'/\W'.pr=(D,.lst ys)::W1.pr/\RS B W' S' H'/\Rvs B W' us ys/\lcK G bd (vs.drop i) us S' (VL B W Q)
  have again:∀ {i:Nat} {ys:List V} {W':Wd} {S':So} {H':Hp} {us:List U},i<vs.length->ys.length<=i+1->W1.Lf W'->W'.pr=(D,.lst ys)::W1.pr->RS B W' S' H'->Rvs B W' us ys->lcK G bd (vs.drop (i+1)) us S' (VL B W Q)->Wi (i+1) (vs.length - (i+1)) ys H':=fun hi hy l1 l2 l3 l4 l5=>⟨hi,rfl,hy,_,_,_,l1,l2,l3,l4,l5⟩
  refine ⟨Wi,⟨vs.length,xBn _,rfl,xAg _,_,S1,[],Wd.Lf.pr,rfl,rs1.hold (o:=.lst []) hD (fun _=>nofun),rfl,h1⟩,?_⟩;rintro i k ys H2 ⟨hi',rfl,hy,W2,S2,us,lf2,hpr2,rs2,rv2,hh⟩
  refine ⟨(rs2.pf _ (by rw [hpr2];exact xAr)).1,?_⟩;by_cases hlt:i<vs.length
  ·refine .inr ⟨wk.go lf2 rs2 hlt,Nat.lt_of_le_of_lt hy (xBc hlt hsz),fun ys' H'=>Wi (i+1) (vs.length - (i+1)) ys' H',fun ys' H' z=>⟨_,by lia,z⟩,fun x H3 yy=>?_⟩;rw [List.drop_eq_getElem_cons hlt] at hh;obtain ⟨W3,le3,rs3,rv3⟩:=wk.yld lf2 rs2 (xAk hlt) yy;have hh:lcB is one (List.replicate ls.length none++cs.map (nth σ)) to a G vs[i] S2 fun o S1=>match o with
    | some u=>lcK G bd (vs.drop (i+1)) (us++[u]) S1 (VL B W Q)
    | none=>lcK G bd (vs.drop (i+1)) us S1 (VL B W Q):=by rw [hbody];exact hh
   have lf3:W1.Lf W3:=⟨fun p o z=>le3.f p o (lf2.f p o z),fun p o z=>le3.m p o (lf2.m p o z)⟩
   have hpr3:W3.pr=(D,.lst ys)::W1.pr:=le3.r.trans hpr2;refine rS g ho rs3 (vj ((rg.mono le1).lf lf3)) rv3 hh fun σ4 τ4 h4 rg4 hl4 hj4=>⟨?_,?_,?_⟩
   ·have hl:τ4.length=ls.length+cs.length:=by rw [rg4.l,hl4];simp
    apply List.ext_getElem?;intro q;rw [List.getElem?_drop,hj4 _ (fun z=>absurd (his _ z) (by lia)),List.getElem?_append_right (by simp),List.length_replicate];congr 1;lia
   ·rw [rg4.l,hl4];simp
   ·-- the element
    have elem:∀ {W5:Wd} {S5:So} {H5:Hp},W3.Le W5->RS B W5 S5 H5->a G σ4 S5 (fun _ _=>G.fail) (fun u S6=>lcK G bd (vs.drop (i+1)) (us++[u]) S6 (VL B W Q))->LE B G (fun _ _ _ _=>False) a τ4 H5 fun v H6=>H6 D=some (.lst ys)/\Wi (i+1) (vs.length - (i+1)) (ys++[v]) (upd H6 D (.lst (ys++[v]))):=fun {W5 S5 H5} le5 rs5 h5 =>
     LE.go me rs5 (rg4.mono le5) (me.m (fun _ _ z=>(g.no z).elim) (fun _ _ z=>z) h5) fun u S6 W6 uu H6 le6 rs6 ru _ h6=>by
      have hpr6:W6.pr=(D,.lst ys)::W1.pr:=(le5.trans le6).r.trans hpr3;refine ⟨(rs6.pf _ (by rw [hpr6];exact xAr)).1,again hlt (by simp;lia) (W':={ W6 with pr:=(D,.lst (ys++[uu]))::W1.pr }) ?_ rfl (rs6.held hpr6 (fun _=>nofun) hne) ?_ h6⟩
      ·exact ⟨fun p o z=>(le5.trans le6).f p o (lf3.f p o z),fun p o z=>(le5.trans le6).m p o (lf3.m p o z)⟩
      ·exact (((rv2.mono le3).mono (le5.trans le6)).app (.one ru)).lf .pr
    cases to with
    | none=>exact ⟨(rs3.pf _ (by rw [hpr3];exact xAr)).1,by rw [xCg rfl];exact elem .refl rs3 h4⟩
    | some t =>
     show LT B G (fun _ _ _ _=>False) t τ4 H3 _;refine LT.go (mt t rfl) rs3 rg4 ((mt t rfl).m (fun _ _ z=>(g.no z).elim) (fun _ _ z=>z) h4) fun bb S5 W5 H5 le5 rs5 rg5 h5=>?_;have h5:=g.bk h5;have hpr5:W5.pr=(D,.lst ys)::W1.pr:=le5.r.trans hpr3;refine ⟨(rs5.pf _ (by rw [hpr5];exact xAr)).1,?_⟩;cases bb with
     | true=>rw [xCg rfl] at h5 ⊢;exact elem le5 rs5 h5
     | false =>
      rw [xCf xAy] at h5 ⊢;exact again hlt (by lia) ⟨fun p o z=>le5.f p o (lf3.f p o z),fun p o z=>le5.m p o (lf3.m p o z)⟩ hpr5 rs5 ((rv2.mono le3).mono le5) h5
  ·have e:i=vs.length:=by lia
   subst e;rw [List.drop_length] at hh;refine .inl ⟨wk.stop lf2 rs2,?_⟩;have rs3:=rs2.heldF hpr2 hne;have lf4:W2.Lf { W2 with pr:=W1.pr,F:=upd W2.F D (.lst ys) }:=by
    have hF:=(rs2.pf (D,.lst ys) (by rw [hpr2];exact xAr)).2.1;exact ⟨fun p o z=>by show upd W2.F D _ p=_;rw [dg fun y=>by rw [y,hF] at z;cases z];exact z,fun _ _ z=>z⟩
   exact hh { W2 with pr:=W1.pr,F:=upd W2.F D (.lst ys) } (.ref D) H2 ⟨fun p o z=>lf4.f p o (lf2.f p o (le1.f p o z)),fun p o z=>lf4.m p o (lf2.m p o (le1.m p o z)),le1.r⟩ rs3 ⟨D,ys,rfl,dk,rv2.lf lf4⟩
 ·exact (g.no h1).elim
end
end Fx
namespace Fx
open PySem L2
inductive Gd where
 | fn (i np:Nat) (df:List U) (mp:List Bool) | cl (i np:Nat) (df:List U) | con (u:U)
structure Ct where
 N:List Str
 sc:List (Str×NameKind)
 gl:List (Str×Gd)
 ms:List (Str×Str×Nat×Nat)
 mu:List Str
 fl:List Str
 bl:List Str
 ini:List Str
 isc:List Str
 inC:Bool
noncomputable def idx (x:Str):List Str->Nat->Option Nat
 | [],_=>none
 | y::r,i=>if x=y then some i else idx x r (i+1)
noncomputable def okN (x:Str):Bool:=!(x == ("__debug__":Str)) && !(x == ("__classdict__":Str)) && !(x == ("__name__":Str))
noncomputable def isV (c:Ct) (x:Str):Bool:=match getF x c.sc with
 | some .local=>true
 | some .cell=>true
 | some .free=>true
 | _=>false
noncomputable def isL (c:Ct) (x:Str):Bool:=match getF x c.sc with
 | some .local=>true
 | some .cell=>true
 | _=>false
noncomputable def isG (c:Ct) (x:Str):Bool:=(match getF x c.sc with
 | some .globalImplicit=>true
 | _=>false) && okN x
noncomputable def vIx (c:Ct) (x:Str):Option Nat:=if isV c x && okN x then idx x c.N 0 else none
noncomputable def lIx (c:Ct) (x:Str):Option Nat:=if isL c x then idx x c.N 0 else none
noncomputable def glo (c:Ct) (x:Str):Option Gd:=if isG c x then getF x c.gl else none
noncomputable def isB (c:Ct) (x:Str):Bool:=isG c x && c.bl.any fun y=>decide (y=x)
noncomputable def o1 {α β:Type} (f:α->β):Option α->Option β
 | some a=>some (f a)
 | none=>none
noncomputable def o2 {α β γ:Type} (f:α->β->γ):Option α->Option β->Option γ
 | some a,some b=>some (f a b)
 | _,_=>none
noncomputable def o3 {α β γ δ:Type} (f:α->β->γ->δ):Option α->Option β->Option γ->Option δ
 | some a,some b,some c=>some (f a b c)
 | _,_,_=>none
noncomputable def gd {α:Type} (b:Bool) (o:Option α):Option α:=match b with
 | true=>o
 | false=>none
noncomputable def opOf (m:Bool):Operator->Option Pm
 | .Add=>some (.add m) | .Sub=>some .sub | .Mult=>some .mul | .FloorDiv=>some .fdiv | .Mod=>some .mod | .Pow=>some .pow | _=>none
noncomputable def cmpOf:CmpOp->Option Pm
 | .Eq=>some .eq | .NotEq=>some .ne | .Lt=>some .lt | .LtE=>some .le | .Gt=>some .gt | .GtE=>some .ge | .In=>some .inn | .NotIn=>some .nin | _=>none
noncomputable def ordOf:CmpOp->Option Pm
 | .Lt=>some .lt | .LtE=>some .le | .Gt=>some .gt | .GtE=>some .ge | _=>none
noncomputable def noSetD:Expr->Bool
 | .Set ..=>false
 | _=>true
noncomputable def tyOf (x:Str):Option String:=if x="int" then some "int" else if x="bool" then some "bool" else if x="str" then some "str" else if x="tuple" then some "tuple" else none
noncomputable def blt1 (m:Bool) (x:Str):Option Pm:=if x="len" then some .len else if x="abs" then some .abs else if x="int" then some .int1 else if x="tuple" then some .tupOf else if x="list" then some (.lstOf m) else if x="dict" then some .dctOf else if x="all" then some .all else if x="sorted" then some .sortS else none
noncomputable def blt2 (x:Str):Option Pm:=if x="max" then some .max else none
noncomputable def conS:Const->Option Str
 | .str x=>some x
 | _=>none
noncomputable def conT:Expr->Option (Str×Nat×Pos)
 | .Constant k j p=>o1 (fun x=>(x,j,p)) (conS k)
 | _=>none
noncomputable def keysOf:List (Option Expr)->Option (List Str)
 | []=>some []
 | e::r=>o2 (fun x ks=>x.1::ks) (e.bind conT) (keysOf r)
noncomputable def namesOf (c:Ct):List Expr->Option (List Nat)
 | []=>some []
 | .Name x _::r=>o2 (fun i is=>i::is) (lIx c x) (namesOf c r)
 | _=>none
noncomputable def tgOf (c:Ct):Expr->Option (List Nat×Bool)
 | .Name x _=>o1 (fun i=>([i],true)) (lIx c x)
 | .Tuple es _ _=>o1 (fun is=>(is,false)) (namesOf c es)
 | _=>none
noncomputable def locs:List (Str×NameKind)->List Str
 | []=>[]
 | (x,.local)::r=>x::locs r
 | _::r=>locs r
noncomputable def frees:List (Str×NameKind)->List Str
 | []=>[]
 | (x,.free)::r=>frees r++[x]
 | _::r=>frees r
noncomputable def capIx (c:Ct):List Str->Option (List Nat)
 | []=>some []
 | x::r=>match getF x c.sc with
  | some .cell=>o2 (fun i is=>i::is) (idx x c.N 0) (capIx c r)
  | _=>none
noncomputable def okSc (sc:Scope):Bool:=decide (sc.kind = .function) && sc.names.all (fun p=>match p.2 with
 | .local=>true
 | .free=>true
 | .globalImplicit=>true
 | _=>false) && nodupS (sc.names.map (·.1))
noncomputable def dflt (np n:Nat) (df:List U):Option (List U):=if n<=np/\np - n<=df.length then some (df.drop (df.length - (np - n))) else none
noncomputable def fnsOf (gl:List (Str×Gd)):List (Str×U)->List (Str×Nat×Nat)
 | []=>[]
 | (_,.gl x)::r=>match getF x gl with
  | some (.fn i np _ _)=>(x,i,np)::fnsOf gl r
  | _=>fnsOf gl r
 | _::r=>fnsOf gl r
noncomputable def notSup:Expr->Bool
 | .Call (.Name y _) _ _ _=>y != ("super":Str)
 | .Call ..=>false
 | _=>true
noncomputable def tg1:Expr->Bool
 | .Tuple ..=>false
 | _=>true
noncomputable def isTup:Expr->Bool
 | .Tuple ..=>true
 | _=>false
section
variable {α:Type}
structure Cps (α:Type) where
 E:Ct->Bool->Expr->Option (TEx α)
 C:Ct->Bool->Expr->List Expr->Pos->Option (TEx α)
 M:Ct->Expr->Str->List Expr->Option (TEx α)
 A:Ct->List Bool->List Expr->Option (TAx α)
 T:Ct->Bool->Expr->Option (TTx α)
 I:Ct->Bool->Expr->Option (TEx α)
noncomputable def eE (r:Cps α) (c:Ct) (m:Bool) (e:Expr):Option (TEx α):=match e with
  | .Name x _=>match vIx c x with
   | some i=>some (cV i)
   | none=>match glo c x with
    | some (.con u)=>some (cC u)
    | _=>none
  | .Constant k _ _=>match k with
   | .int i=>some (cC (.int i))
   | .str x=>some (cC (.str x))
   | .bool b=>some (cC (.bl b))
   | .none=>some (cC .non)
   | _=>none
  | .BinOp a op b _=>o3 (fun p x y=>cP p (lst2 x y)) (opOf m op) (r.E c false a) (r.E c false b)
  | .UnaryOp op a _=>match op with
   | .Not=>o1 (fun t=>cB (tNt t)) (r.T c true a)
   | _=>none
  | .BoolOp op vs p=>o1 cB (r.T c true (.BoolOp op vs p))
  | .Compare a ops bs p=>o1 cB (r.T c true (.Compare a ops bs p))
  | .IfExp t a b _=>o3 cIf (r.T c false t) (r.E c m a) (r.E c m b)
  | .Tuple es _ _=>gd (Nat.ble es.length 1000) (o1 cT (r.A c [] es))
  | .List es _=>o1 (cP (.lst m)) (r.A c [] es)
  | .Dict ks vs _=>match ks,vs with
   | [],[]=>some (cP (.dct []) aN)
   | ks,vs=>match keysOf ks with
    | some kk=>gd (nodupS kk && Nat.ble kk.length 15 && Nat.beq kk.length vs.length) (o1 (cP (.dct kk)) (r.A c (vs.map fun _=>true) vs))
    | none=>none
  | .Subscript a b _=>match b with
   | .Slice lo hi none _=>match lo,hi with
    | some l,some h=>o3 (fun x y z=>cP (.sl m true true) (aC x (lst2 (cI y) z))) (r.E c false a) (r.E c false l) (r.E c false h)
    | some l,none=>o2 (fun x y=>cP (.sl m true false) (lst2 x y)) (r.E c false a) (r.E c false l)
    | none,some h=>o2 (fun x y=>cP (.sl m false true) (lst2 x y)) (r.E c false a) (r.E c false h)
    | none,none=>none
   | b=>gd (noSlice b) (o2 (fun x y=>cP .ix (lst2 x y)) (r.E c false a) (r.E c false b))
  | .Attribute o f _=>gd (noCall o && c.fl.any fun g=>decide (g=f)) (o1 (fun x=>cP (.fld f) (aC x aN)) (r.E c false o))
  | .ListComp elt gens sc _=>match gens with
   | [⟨tg,it,ifs,0⟩]=>match capIx c (frees sc.names),tgOf { c with N:=locs sc.names++frees sc.names,sc:=sc.names,inC:=true } tg,r.I c (tg1 tg) it,r.E { c with N:=locs sc.names++frees sc.names,sc:=sc.names,inC:=true } false elt with
    | some cs,some (is,one),some ti,some te=>gd (!c.inC && okSc sc && noSetD it && is.all (fun k=>Nat.blt k (locs sc.names).length)) (match ifs with
     | []=>some (cL ti is one (locs sc.names).length cs none te)
     | [t]=>o1 (fun t=>cL ti is one (locs sc.names).length cs (some t) te) (r.T { c with N:=locs sc.names++frees sc.names,sc:=sc.names,inC:=true } false t)
     | _=>none)
    | _,_,_,_=>none
   | _=>none
  | .Call f as kws pos=>match kws with
   | []=>gd (as.all noStar) (r.C c m f as pos)
   | _=>none
  | _=>none
noncomputable def eC (r:Cps α) (c:Ct) (m:Bool) (f:Expr) (as:List Expr) (pos:Pos):Option (TEx α):=match f with
  | .Name x _=>match glo c x with
   | some (.fn i np df mp)=>o2 (fun a d=>cF i a d) (r.A c mp as) (dflt np as.length df)
   | some (.cl i np df)=>gd (!c.inC) (o2 (fun a d=>cK x i a d) (r.A c [] as) (dflt np (as.length+1) df))
   | some _=>none
   | none=>gd (isB c x) (match as with
    | [a]=>match a with
     | .Call (.Name y _) [b] [] _=>match decide (x="len"),decide (y="set") with
      | true,true=>gd (isB c y && noStar b) (o1 (fun z=>cP .lenset (aC z aN)) (r.E c false b))
      | _,_=>o2 (fun p z=>cP p (aC z aN)) (blt1 m x) (r.E c false a)
     | a=>o2 (fun p z=>cP p (aC z aN)) (blt1 m x) (r.E c false a)
    | [a,b]=>match decide (x="isinstance") with
     | true=>match b with
      | .Name y _=>match tyOf y with
       | some t=>gd (isB c y) (o1 (fun z=>cP (.isT t) (aC z aN)) (r.E c false a))
       | none=>match glo c y with
        | some (.cl ..)=>gd (c.isc.any fun z=>decide (z=y)) (o1 (fun z=>cP (.isC y) (aC z aN)) (r.E c false a))
        | _=>none
      | _=>none
     | false=>o3 (fun p z w=>cP p (lst2 z w)) (blt2 x) (r.E c false a) (r.E c false b)
    | _=>none)
  | .Attribute o a apos=>gd (apos.endLine == pos.line && Nat.blt as.length 29) (match getF a c.ms with
   | some (C,i,np)=>gd (notSup o) (o3 (fun z w d=>cM C a i z w d) (r.E c false o) (r.A c [] as) (dflt np (as.length+1) []))
   | none=>match o with
    | .Name y _=>match glo c y with
     | some (.cl i np df)=>gd (decide (a="__init__") && (c.ini.any fun z=>decide (z=y)) && Nat.beq as.length np && !as.isEmpty && !c.inC) (o1 (fun w=>cF i w []) (r.A c [] as))
     | some (.con (.kd kvs no))=>gd (decide (a="get")) (match as with
      | [e]=>o1 (fun z=>cP .get1 (aC (cC (.kd kvs no)) (aC z aN))) (r.E c false e)
      | [e,d]=>o2 (fun z w=>cP .get2 (aC (cC (.kd kvs no)) (lst2 z w))) (r.E c false e) (r.E c false d)
      | _=>none)
     | _=>r.M c o a as
    | o=>r.M c o a as)
  | .Subscript g b p=>match g with
   | .Name y _=>match glo c y with
    | some (.con (.kd kvs no))=>gd (!as.isEmpty && (fnsOf c.gl kvs).all fun p=>Nat.beq p.2.2 as.length) (o2 (fun z w=>cD (fnsOf c.gl kvs) z w) (r.E c false (.Subscript g b p)) (r.A c [] as))
    | _=>none
   | _=>none
  | _=>none
noncomputable def eM (r:Cps α) (c:Ct) (o:Expr) (a:Str) (as:List Expr):Option (TEx α):=gd (noCall o) (match as with
  | []=>gd (decide (a="pop")) (o1 (fun z=>cBM "list" .pop z aN) (r.E c false o))
  | [e]=>if a="append" then o2 (fun z w=>cBM "list" .app z (aC w aN)) (r.E c false o) (r.E c false e)
   else if a="join" then o2 (fun z w=>cBM "str" .join z (aC w aN)) (r.E c false o) (r.E c false e)
   else none
  | _=>none)
noncomputable def eA (r:Cps α) (c:Ct) (m:List Bool) (es:List Expr):Option (TAx α):=match es with
 | []=>some aN
 | e::q=>gd (noStar e) (o2 aC (r.E c (m.headD false) e) (r.A c m.tail q))
noncomputable def eT (r:Cps α) (c:Ct) (vl:Bool) (e:Expr):Option (TTx α):=match e with
  | .UnaryOp op a _=>match op with
   | .Not=>o1 tNt (r.T c vl a)
   | _=>none
  | .BoolOp op vs p=>match vs with
   | []=>none
   | [a]=>r.T c vl a
   | a::b::q=>match op with
    | .And=>o2 tAn (r.T c vl a) (r.T c vl (.BoolOp .And (b::q) p))
    | .Or=>o2 tOr' (r.T c vl a) (r.T c vl (.BoolOp .Or (b::q) p))
  | .Compare a ops bs _=>match ops,bs with
   | [op],[b]=>match op,b with
    | .Is,.Constant .none _ _=>o1 (fun x=>tB (cP .isN (aC x aN))) (r.E c false a)
    | .IsNot,.Constant .none _ _=>o1 (fun x=>tB (cP .notN (aC x aN))) (r.E c false a)
    | op,b=>gd (noSetD b) (o3 (fun p x y=>tB (cP p (lst2 x y))) (cmpOf op) (r.E c false a) (r.E c false b))
   | [p,q],[b,d]=>gd (noSetD b && noSetD d) (match ordOf p,ordOf q with
    | some p,some q=>o3 (fun x y z=>tCh p q x y z) (r.E c false a) (r.E c false b) (r.E c false d)
    | _,_=>none)
   | _,_=>none
  | .Call f as kws p=>o1 tB (r.E c false (.Call f as kws p))
  | .Attribute o f p=>gd (!vl) (o1 (fun x=>tB (cP .tru (aC x aN))) (r.E c false (.Attribute o f p)))
  | .Name x p=>gd (!vl) (o1 (fun y=>tB (cP .tru (aC y aN))) (r.E c false (.Name x p)))
  | _=>none
noncomputable def eI (r:Cps α) (c:Ct) (one:Bool) (e:Expr):Option (TEx α):=match e with
  | .Call (.Name x p) as [] q=>match isB c x && decide (x="range") with
   | true=>match as with
    | [a]=>gd (noStar a) (o1 (fun z=>cP .rng1 (aC z aN)) (r.E c false a))
    | _=>none
   | false=>match isB c x && decide (x="zip") with
    | true=>match as with
     | [a,b]=>gd (!one && noStar a && noStar b) (o2 (fun z w=>cP .zip (lst2 z w)) (r.E c false a) (r.E c false b))
     | _=>none
    | false=>match isB c x && decide (x="reversed") with
     | true=>match as with
      | [a]=>gd (noStar a) (o1 (fun z=>cP .rev (aC z aN)) (r.E c false a))
      | _=>none
     | false=>o1 (fun z=>cP .seq (aC z aN)) (r.E c false (.Call (.Name x p) as [] q))
  | e=>o1 (fun z=>cP .seq (aC z aN)) (r.E c false e)
noncomputable def cps:Nat->Cps α
 | 0=>⟨fun _ _ _=>none,fun _ _ _ _ _=>none,fun _ _ _ _=>none,fun _ _ _=>none,fun _ _ _=>none,fun _ _ _=>none⟩
 | n+1=>⟨eE (cps n),eC (cps n),eM (cps n),eA (cps n),eT (cps n),eI (cps n)⟩
noncomputable def cpE (c:Ct) (n:Nat) (m:Bool) (e:Expr):Option (TEx α):=(cps n).E c m e
noncomputable def cpC (c:Ct) (n:Nat) (m:Bool) (f:Expr) (as:List Expr) (pos:Pos):Option (TEx α):=(cps n).C c m f as pos
noncomputable def cpM (c:Ct) (n:Nat) (o:Expr) (a:Str) (as:List Expr):Option (TEx α):=(cps n).M c o a as
noncomputable def cpA (c:Ct) (n:Nat) (m:List Bool) (es:List Expr):Option (TAx α):=(cps n).A c m es
noncomputable def cpT (c:Ct) (n:Nat) (vl:Bool) (e:Expr):Option (TTx α):=(cps n).T c vl e
noncomputable def cpI (c:Ct) (n:Nat) (one:Bool) (e:Expr):Option (TEx α):=(cps n).I c one e
noncomputable def sZ:TSx α:=fun G _ _ _=>G.fail
structure Cpt (α:Type) where
 S:Ct->Stmt->Option (TSx α)
 L:Ct->List Stmt->Option (TSx α)
noncomputable def eS (n:Nat) (r:Cpt α) (c:Ct) (s:Stmt):Option (TSx α):=match s with
  | .Pass _=>some sN
  | .Expr e _=>gd (noComp e) (o1 sE (cpE c n false e))
  | .Return e _=>match e with
   | some e=>o1 sR (cpE c n false e)
   | none=>some sRN
  | .If t a b _=>o3 sI (cpT c n false t) (r.L c a) (r.L c b)
  | .While t b orelse _=>match orelse with
   | []=>o2 sW (cpT c n false t) (r.L c b)
   | _=>none
  | .For tg it b orelse _=>match orelse with
   | []=>match tgOf c tg with
    | some (is,one)=>gd (noSetD it && (one || isTup tg)) (o2 (fun z w=>sF z is one w) (cpI c n (tg1 tg) it) (r.L c b))
    | none=>none
   | _=>none
  | .Assign tgs e _=>match tgs with
   | [tg]=>gd (noComp e) (match tg with
    | .Name x _=>o2 sA (lIx c x) (cpE c n (c.mu.any fun y=>decide (x=y)) e)
    | .Tuple es _ _=>gd (!isTup e) (o2 sU (namesOf c es) (cpE c n false e))
    | .Attribute o f _=>gd (c.fl.any fun g=>decide (g=f)) (o2 (fun z w=>sP (.setf f) w (aC z aN)) (cpE c n false o) (cpE c n true e))
    | .Subscript o i _=>gd (noSlice i) (o3 (fun z w v=>sP .seti v (lst2 z w)) (cpE c n false o) (cpE c n false i) (cpE c n true e))
    | _=>none)
   | _=>none
  | .Raise ..=>some sZ
  | .Try b hs orelse fin _=>match hs with
   | []=>none
   | _::_=>gd (orelse.isEmpty && fin.isEmpty) (r.L c b)
  | _=>none
noncomputable def eL (r:Cpt α) (c:Ct) (ss:List Stmt):Option (TSx α):=match ss with
 | []=>some sN
 | s::q=>o2 sQ (some ((r.S c s).getD sZ)) (r.L c q)
noncomputable def cpt:Nat->Cpt α
 | 0=>⟨fun _ _=>none,fun _ _=>none⟩
 | n+1=>⟨eS n (cpt n),eL (cpt n)⟩
noncomputable def cpS (c:Ct) (n:Nat) (s:Stmt):Option (TSx α):=(cpt n).S c s
noncomputable def cpSs (c:Ct) (n:Nat) (ss:List Stmt):Option (TSx α):=(cpt n).L c ss
end
end Fx
namespace Fx
open PySem PySem.Spec L2
open PyProof.Rows hiding St
theorem dF {α β:Type} {f:α->β} {o:Option α} {b:β} (h:o1 f o=some b):∃ a,o=some a/\b=f a:=by cases o <;> cases h;exact ⟨_,rfl,rfl⟩
theorem dN {α β γ:Type} {f:α->β->γ} {o:Option α} {p:Option β} {b:γ} (h:o2 f o p=some b):∃ x y,o=some x/\p=some y/\b=f x y:=by cases o <;> cases p <;> cases h;exact ⟨_,_,rfl,rfl,rfl⟩
theorem ig {α β γ δ:Type} {f:α->β->γ->δ} {o:Option α} {p:Option β} {q:Option γ} {b:δ} (h:o3 f o p q=some b):∃ x y z,o=some x/\p=some y/\q=some z/\b=f x y z:=by cases o <;> cases p <;> cases q <;> cases h;exact ⟨_,_,_,rfl,rfl,rfl,rfl⟩
theorem dD {α:Type} {b:Bool} {o:Option α} {x:α} (h:gd b o=some x):b=true/\o=some x:=by
 cases b with
 | true=>exact ⟨rfl,h⟩
 | false=>cases h
theorem iq {x:Str}:∀ {l:List Str} {i j:Nat},idx x l i=some j->i<=j/\l[j - i]?=some x
 | [],_,_,h=>by cases h
 | y::r,i,j,h=>by
  unfold idx at h;split at h
  ·next e=>cases h;exact ⟨xAg _,by rw [Nat.sub_self,e];rfl⟩
  ·obtain ⟨h1,h2⟩:=iq h;exact ⟨by lia,by rw [show j - i=(j - (i+1))+1 by lia];simpa using h2⟩
theorem kK {o:Expr} {m:Str} {apos pos:Pos} {es:List Expr} {env:Env} (hb:attributeBase o m env (eval o env)=eval o env) (hst:es.all noStar=true) (hn:es.length<29) (hl:(apos.endLine == pos.line)=true):∃ pl,eval (.Call (.Attribute o m apos) es [] pos) env=(do
   let ov <- eval o env
   standAt apos.atName
   let (f,first) <- holding [ov] (getMethod ov m pl)
   callWith pos f first (backTo pos (starEach es env)) (backToKw pos (keywordEach [] env))):=by
 have hf:methodCallForm (es.length+([]:List Keyword).length) (backTo pos (starEach es env)) (backToKw pos (keywordEach [] env))=true:=by
  unfold methodCallForm;rw [iM hst];simp [keywordEach,backToKw];lia
 refine ⟨do return (<- importBound o env).getD true,?_⟩;rw [show eval (.Call (.Attribute o m apos) es [] pos) env=(do
  let ov <- attributeBase o m env (eval o env)
  standAt apos.atName
  methodCall o m apos pos env ov (es.length+([]:List Keyword).length) (backTo pos (starEach es env)) (backToKw pos (keywordEach [] env))) from rfl,hb]
 unfold methodCall methodCallPos calleeOf;rw [hf,hl];rfl
theorem rA {o:Expr} {m:Str} {env:Env} {x:Sem Value} (h:notSup o=true):attributeBase o m env x=x:=by
 cases o <;> try rfl
 rename_i f as ks p
 cases f <;> try (cases h;done)
 rename_i y q
 have h':(y != ("super":Str))=true:=h;cases as <;> cases ks <;> try rfl
 unfold attributeBase;dsimp only;rw [xCg (by rw [h'];rfl)]
structure Fc (P:Program) (w:World) (base:Heap) (B:Bs) (up:List (Str×Str)) (G:Gx Prop) (lv:Nat) (c:Ct):Prop where
 g:MonG up G
 fn:∀ {x i np df mp},getF x c.gl=some (.fn i np df mp)->∃ f fd ps,B.mg x=some (.ref f)/\PySem.W.keepIn B.K (.ref f)=true/\FnOk P w B.K B.mg base (CXz P w) lv f fd ps (spF B G i np)/\(∀ {n ds},dflt np n df=some ds->n+ds.length=np/\∃ dvs dv,Binds B.K fd ps dv/\Vals dvs dv/\∀ W,Rvs B W ds dvs)
 cl:∀ {x i np df},getF x c.gl=some (.cl i np df)->∃ cc f fd ps,B.cl x cc/\B.mg x=some (.ref cc)/\Mk B.K cc f/\FnOk P w B.K B.mg base (CXz P w) lv f fd ps (spF B G i np)/\(∀ {n ds},dflt np n df=some ds->n+ds.length=np/\∃ dvs dv,Binds B.K fd ps dv/\Vals dvs dv/\∀ W,Rvs B W ds dvs)/\(x∈c.isc->KitC B up x cc)/\(x∈c.ini->Binds B.K fd ps []/\∃ mc,PySem.W.specialIn B.K (.ref cc) "__getattribute__"=some (some (.builtin "type.__getattribute__"))/\PySem.W.readsIn B.K cc mc=true/\PySem.W.findCls B.K (.ref cc) mc "__init__"=some (.val (.ref f))/\PySem.W.handedIn (.ref f)=true/\PySem.W.keepIn B.K (.ref f)=true)
 ms:∀ {m C i np},getF m c.ms=some (C,i,np)->∃ cc f fd ps,(∀ c',B.cl C c'->c'=cc)/\Cls B.K cc/\Meth B.K cc m f/\FnOk P w B.K B.mg base (CXz P w) lv f fd ps (spF B G i np)/\Binds B.K fd ps []
 con:∀ {x u},getF x c.gl=some (.con u)->∃ v val,B.mg x=some val/\RelV v val/\∀ W,Rv B W u v
 bl:∀ {x},x∈c.bl->B.mg x=none
 k1:KitT B "int"
 k2:KitT B "bool"
 k3:KitT B "str"
 k4:KitT B "tuple"
 clf:ClF B c.fl
 clt:ClT B
 kdf:KdF w B
structure Cok (P:Program) (w:World) (base:Heap) (B:Bs) (lv:Nat) (c:Ct) (X:Cx):Prop where
 hP:X.prog=P
 hw:X.w=w
 hK:X.K=B.K
 hM:X.mg=B.mg
 hb:X.base=base
 N:X.N=c.N
 nd:X.N.Nodup
 vis:∀ {x},isV c x=true->Vis X.env.scope x
 loc:∀ {x},isL c x=true->Loc X.env.scope x/\(X.fn x=true\/X.env.scope.names.lookup x=some .local)
 lc:∀ {x},getF x c.sc=some .local->X.env.kindOf x=some .local
 gl:∀ {x},isG c x=true->Gl X x
 calm:X.calm=true
 hr:Room (lv+1) X.A
 cap:c.inC=false->∀ {x},getF x c.sc=some .cell->X.env.scope.names.lookup x=some .cell/\∃ a,X.env.cells.lookup x=some a
section
variable {P:Program} {w:World} {base:Heap} {B:Bs} {up:List (Str×Str)} {G:Gx Prop} {lv:Nat} {c:Ct} {X:Cx} {Ex:St->XK}
theorem Cok.f {k:Nat} {f:Addr} {fd:FuncData} {ps:List Str} {sp:Sp} (k':Cok P w base B lv c X) (F:FnOk P w B.K B.mg base (CXz P w) k f fd ps sp):FnOk X.prog X.w X.K X.mg X.base (CXz X.prog X.w) k f fd ps sp:=by
 rw [k'.hP,k'.hw,k'.hK,k'.hM,k'.hb];exact F
theorem er {x:Str} (h:isG c x=true):okN x=true:=by unfold isG at h;rw [Bool.and_eq_true] at h;exact h.2
theorem dZ {x:Str} (h:okN x=true):(x == ("__debug__":Str))=false/\(x == ("__classdict__":Str))=false/\x≠"__name__":=by
 simp only [okN,Bool.and_eq_true,Bool.not_eq_true'] at h;exact ⟨h.1.1,h.1.2,fun z=>by have:=h.2;rw [z] at this;simp at this⟩
theorem fE {x:Str} {d:Gd} (h:glo c x=some d):isG c x=true/\getF x c.gl=some d:=by
 unfold glo at h;split at h
 ·next e=>exact ⟨e,h⟩
 ·cases h
theorem fc {x:Str} (h:isB c x=true):isG c x=true/\x∈c.bl:=by
 unfold isB at h;rw [Bool.and_eq_true] at h;obtain ⟨y,hy,e⟩:=List.any_eq_true.mp h.2;exact ⟨h.1,by rw [<- xBe e];exact hy⟩
theorem si {x:Str} {i:Nat} (k:Cok P w base B lv c X) (h:vIx c x=some i):X.N[i]?=some x/\Vis X.env.scope x/\okN x=true:=by
 unfold vIx at h;split at h
 ·next e =>
  rw [Bool.and_eq_true] at e;obtain ⟨_,h2⟩:=iq h;exact ⟨by rw [k.N];simpa using h2,k.vis e.1,e.2⟩
 ·cases h
theorem jL {x:Str} {i:Nat} (k:Cok P w base B lv c X) (h:lIx c x=some i):X.N[i]?=some x/\Loc X.env.scope x/\(X.fn x=true\/X.env.scope.names.lookup x=some .local):=by
 unfold lIx at h;split at h
 ·next e =>
  obtain ⟨_,h2⟩:=iq h;exact ⟨by rw [k.N];simpa using h2,k.loc e⟩
 ·cases h
theorem names_ok (k:Cok P w base B lv c X):∀ {es:List Expr} {is:List Nat},namesOf c es=some is->es.length=is.length/\∀ (j:Nat) (e:Expr),es[j]?=some e->∃ x p i,e = .Name x p/\is[j]?=some i/\X.N[i]?=some x/\Loc X.env.scope x/\(X.fn x=true\/X.env.scope.names.lookup x=some .local)
 | [],is,h=>by cases h;exact ⟨rfl,fun j e z=>by simp at z⟩
 | e::es,is,h=>by
  cases e <;> try (cases h;done)
  rename_i x p
  obtain ⟨i,is',h1,h2,rfl⟩:=dN (show o2 _ (lIx c x) (namesOf c es)=_ from h);obtain ⟨l,q⟩:=names_ok k h2;refine ⟨by simp [l],fun j e z=>?_⟩;cases j with
  | zero=>simp at z;subst z;exact ⟨x,p,i,rfl,rfl,jL k h1⟩
  | succ j=>simpa using q j e (by simpa using z)
theorem rE {tg:Expr} {is:List Nat} {one:Bool} (k:Cok P w base B lv c X) (h:tgOf c tg=some (is,one)):FG X B G tg is one/\(one=true->is.length=1):=by
 cases tg <;> try (cases h;done)
 ·obtain ⟨i,h1,e⟩:=dF (show o1 _ _=_ from h);cases e;obtain ⟨a,b,d⟩:=jL k h1;exact ⟨xz k.nd a b d,fun _=>rfl⟩
 ·obtain ⟨i,h1,e⟩:=dF (show o1 _ _=_ from h);cases e;obtain ⟨l,q⟩:=names_ok k h1;exact ⟨xy k.hK k.calm k.nd q l,nofun⟩
theorem du {α:Type} {x:Str}:∀ {l:List (Str×α)},getF x l=l.lookup x
 | []=>rfl
 | (y,v)::r=>by
  unfold getF;rw [List.lookup_cons];by_cases e:x=y
  ·rw [xCg e,e];simp
  ·rw [xCf e,beq_false_of_ne e];exact du
theorem dR {env:Env}:∀ {names:List (Str×NameKind)} {x:Str},names.lookup x=some .globalImplicit ->
  (names.map fun (n,k)=>if (k == NameKind.free && env.scope.kind == .function && env.kindOf n == some .cell) then (n,NameKind.cell) else (n,k)).lookup x=some .globalImplicit
 | [],_,h=>by simp at h
 | (n,k)::r,x,h=>by
  have ih:=@dR env r x;show List.lookup x ((if (k == NameKind.free && env.scope.kind == .function && env.kindOf n == some .cell)=true then (n,NameKind.cell) else (n,k))::_)=_;cases hx:x == n with
  | true =>
   simp only [List.lookup_cons,hx] at h;cases h;simp [hx,List.lookup_cons]
  | false =>
   simp only [List.lookup_cons,hx] at h;split <;> simp only [List.lookup_cons,hx] <;> exact ih h
theorem jZ {env:Env}:∀ {l:List (Str×NameKind)},(∀ y,(y,NameKind.free)∈l->∃ a,env.cells.lookup y=some a)->∀ acc:List (Str×Addr),∃ cl,(forIn l acc fun (p:Str×NameKind) (cs:List (Str×Addr))=>(do
   if (p.2 == NameKind.free)=true then do
    let a <- cellOf env p.1
    pure (ForInStep.yield ((p.1,a)::cs))
   else pure (ForInStep.yield cs):Sem (ForInStep (List (Str×Addr)))))=pure (cl++acc)/\cl.map (·.1)=frees l/\∀ q∈cl,env.cells.lookup q.1=some q.2
 | [],_,acc=>⟨[],rfl,rfl,fun _ h=>nomatch h⟩
 | (y,k)::r,h,acc=>by
  by_cases e:k = .free
  ·subst e;obtain ⟨a,ha⟩:=h y xAr;obtain ⟨cl,e1,e2,e3⟩:=jZ (l:=r) (fun z hz=>h z (xAs _ hz)) ((y,a)::acc);refine ⟨cl++[(y,a)],?_,by rw [xAi,e2];rfl,fun q hq=>?_⟩
   ·rw [List.forIn_cons,xAx,show [(y,a)]++acc=(y,a)::acc from rfl,<- e1];simp only [cellOf,ha];rfl
   ·rcases xAj.mp hq with hq | hq
    ·exact e3 q hq
    ·rw [xAm.mp hq];exact ha
  ·obtain ⟨cl,e1,e2,e3⟩:=jZ (l:=r) (fun z hz=>h z (xAs _ hz)) acc;refine ⟨cl,?_,by rw [e2];cases k <;> first | rfl | exact absurd rfl e,e3⟩;rw [List.forIn_cons,<- e1];simp only [show (k == NameKind.free)=false from beq_false_of_ne e];rfl
theorem jY {env:Env} {scope:Scope} (h:∀ y,(y,NameKind.free)∈scope.names->∃ a,env.cells.lookup y=some a):∃ cl,closureFor scope env=pure cl/\cl.map (·.1)=frees scope.names/\∀ q∈cl,env.cells.lookup q.1=some q.2:=by
 obtain ⟨cl,e1,e2,e3⟩:=jZ h [];refine ⟨cl,?_,e2,e3⟩;rw [xB0] at e1;have:=congrArg (fun z:Sem (List (Str×Addr))=>z >>= fun r=>pure r) e1;exact this
theorem i9 {x:Str}:∀ {l:List (Str×NameKind)},x∈locs l↔(x,NameKind.local)∈l
 | []=>by simp [locs]
 | (y,k)::r=>by cases k <;> simp [locs,i9 (l:=r)]
theorem eD {x:Str}:∀ {l:List (Str×NameKind)},x∈frees l↔(x,NameKind.free)∈l
 | []=>by simp [frees]
 | (y,k)::r=>by cases k <;> simp [frees,eD (l:=r),or_comm]
theorem ij {y:Str} {k:NameKind}:∀ {l:List (Str×NameKind)},(l.map (·.1)).Nodup->(y,k)∈l->l.lookup y=some k
 | [],_,h=>nomatch h
 | (z,k')::r,nd,h=>by
  rw [xBs,xCb] at nd;rw [List.lookup_cons];rcases xAv.mp h with e | h
  ·cases e;simp
  ·have:y≠z:=fun e=>nd.1 (by rw [<- e];exact xA2.mpr ⟨_,h,rfl⟩);rw [beq_false_of_ne this];exact ij nd.2 h
theorem i6:∀ {l:List (Str×NameKind)},(l.map (·.1)).Nodup->(locs l++frees l).Nodup
 | [],_=>List.nodup_nil
 | (z,k)::r,nd=>by
  rw [xBs,xCb] at nd;have ih:=i6 nd.2;have h1:z ∉ locs r:=fun h=>nd.1 (xA2.mpr ⟨_,i9.mp h,rfl⟩);have h2:z ∉ frees r:=fun h=>nd.1 (xA2.mpr ⟨_,eD.mp h,rfl⟩);cases k <;> try exact ih
  ·show (z::(locs r++frees r)).Nodup;exact xCb.mpr ⟨fun h=>(xAj.mp h).elim h1 h2,ih⟩
  ·show (locs r++(frees r++[z])).Nodup;rw [<- xAx];refine xBq.mpr ⟨ih,by simp,fun a ha b hb=>?_⟩;rw [xAm.mp hb];rintro rfl
   exact (xAj.mp ha).elim h1 h2
theorem pj (k:Cok P w base B lv c X) (hc:c.inC=false) {scope:Scope} {cl:List (Str×Addr)} (hcl:∀ q∈cl,X.env.cells.lookup q.1=some q.2) (hsc:∀ y,(y,NameKind.free)∈scope.names->scope.names.lookup y=some .free) :
  ∀ {fs:List Str} {cs:List Nat},(∀ y∈fs,(y,NameKind.free)∈scope.names/\∃ a,cl.lookup y=some a)->capIx c fs=some cs->Paired (CapOne X scope cl) fs cs
 | [],cs,_,h=>by cases h;exact .nil
 | y::fs,cs,hf,h=>by
  unfold capIx at h;split at h <;> try (cases h;done)
  next e =>
   obtain ⟨i,is,h1,h2,rfl⟩:=dN h;obtain ⟨h3,a,h4⟩:=hf y xAr;obtain ⟨_,h5⟩:=iq h1;exact .cons ⟨⟨a,h4,hcl _ (dG h4)⟩,by rw [k.N];simpa using h5,(k.cap hc e).1,hsc y h3⟩ (pj k hc hcl hsc (fun z hz=>hf z (xAs _ hz)) h2)
theorem jn:∀ {fs:List Str} {cs:List Nat},capIx c fs=some cs->∀ y∈fs,getF y c.sc=some .cell
 | [],cs,_,y,hy=>nomatch hy
 | z::fs,cs,h,y,hy=>by
  unfold capIx at h;split at h <;> try (cases h;done)
  next e =>
   obtain ⟨i,is,h1,h2,rfl⟩:=dN h;rcases xAv.mp hy with rfl | hy
   ·exact e
   ·exact jn h2 y hy
noncomputable def cty (c:Ct) (sc:Scope):Ct:={ c with N:=locs sc.names++frees sc.names,sc:=sc.names,inC:=true }
theorem Fc.re {sc:Scope} (F:Fc P w base B up G lv c):Fc P w base B up G lv (cty c sc):=⟨F.g,F.fn,F.cl,F.ms,F.con,F.bl,F.k1,F.k2,F.k3,F.k4,F.clf,F.clt,F.kdf⟩
theorem passF {X:Cx}:PassS (CXz X.prog X.w) X (fun _ _ _ _=>False):=fun pins σ H s ev s' I z=>z.elim
theorem kG {sc:Scope} (h:okSc sc=true):sc.kind = .function/\(sc.names.map (·.1)).Nodup/\∀ y k,(y,k)∈sc.names->k = .local\/k = .free\/k = .globalImplicit:=by
 simp only [okSc,Bool.and_eq_true,List.all_eq_true] at h;refine ⟨xBe h.1.1,eB h.2,fun y k hm=>?_⟩;have:=h.1.2 _ hm;cases k <;> simp_all
theorem ph {sc:Scope} {cl:List (Str×Addr)} {C:Addr} {s:Shared} {H:Hp} {fp:List Addr} (k:Cok P w base B lv c X) (h:okSc sc=true):Cok P w base B lv (cty c sc) (cxComp X (locs sc.names++frees sc.names) sc cl C s H fp):=by
 obtain ⟨h1,h2,h3⟩:=kG h;refine ⟨k.hP,k.hw,k.hK,k.hM,k.hb,rfl,i6 h2,fun {x} hx=>?_,fun {x} hx=>?_,fun {x} hx=>lookup_relabel_local (by rw [<- du];exact hx),fun {x} hx=>?_,k.calm,k.hr,nofun⟩
 ·unfold isV at hx;rw [du] at hx;split at hx <;> try (cases hx;done)
  ·next e=>exact .inl (lookup_relabel_local e)
  ·next e=>rcases h3 _ _ (dG e) with z | z | z <;> cases z
  ·next e=>exact .inr (dS e)
 ·unfold isL at hx;rw [du] at hx;split at hx <;> try (cases hx;done)
  ·next e=>exact ⟨.inl (lookup_relabel_local e),.inr (lookup_relabel_local e)⟩
  ·next e=>rcases h3 _ _ (dG e) with z | z | z <;> cases z
 ·unfold isG at hx;rw [Bool.and_eq_true,du] at hx;have h4:=hx.1;split at h4
  ·next e=>exact dR e
  ·cases h4
theorem rf {sc:Scope} {cs:List Nat} (k:Cok P w base B lv c X) (hc:c.inC=false) (h:okSc sc=true) (hcs:capIx c (frees sc.names)=some cs):∃ cl,CapsG X sc cl (locs sc.names) (frees sc.names) cs:=by
 obtain ⟨h1,h2,h3⟩:=kG h;obtain ⟨cl,e1,e2,e3⟩:=jY (scope:=sc) (env:=X.env) fun y hy=>(k.cap hc (jn hcs y (eD.mpr hy))).2;have hl:∀ y∈frees sc.names,∃ a,cl.lookup y=some a:=fun y hy=>by
  rw [<- e2] at hy;obtain ⟨q,hq,rfl⟩:=xA2.mp hy;clear e1 e2 e3 hy;induction cl with
  | nil=>cases hq
  | cons p r ih =>
   rw [List.lookup_cons];by_cases e:q.1 == p.1
   ·rw [e];exact ⟨_,rfl⟩
   ·rw [Bool.eq_false_iff.mpr e];rcases xAv.mp hq with rfl | hq
    ·simp at e
    ·exact ih hq
 exact ⟨cl,CapsG.mk' e1 (fun y hy e=>by rcases h3 y.1 y.2 hy with z | z | z <;> rw [e] at z <;> cases z) h1 (fun y hy e=>ij h2 (by rw [<- e];exact hy)) (pj k hc e3 (fun y hy=>ij h2 hy) (fun y hy=>⟨eD.mp hy,hl y hy⟩) hcs) (fun y hy e=>eD.mpr (by rw [<- e];exact hy)) e2⟩
end
end Fx
namespace Fx
open PySem PySem.Spec L2
open PyProof.Rows hiding St
section
variable {B:Bs} {up:List (Str×Str)} {G:Gx Prop} {Ex:St->XK} {a b d:TEx Prop} {X:Cx} {e ea eb ec:Expr} {pos p1:Pos} {j:Nat} (g:MonG up G)
theorem kQ {f:Int->Int->Bool} {vs:List U} {S:So} {z:U} {S':So} (h:i2 (fun i j=>.bl (f i j)) S vs = .ok z S'):∃ c,z = .bl c:=by
 obtain ⟨i,j,_,rfl,_⟩:=oC h;exact ⟨_,rfl⟩
theorem uZ {v w:U} {S:So} {z:U} {S':So} (h:pr up .eq [v,w] S = .ok z S'):∃ c,z = .bl c:=by
 delta pr at h;dsimp only at h;split at h
 ·cases h;exact ⟨_,rfl⟩
 unfold Fx.eqU at h;split at h
 ·cases h;exact ⟨_,rfl⟩
 ·split at h
  ·cases h;exact ⟨_,rfl⟩
  ·cases h
theorem uX {f:Bool->Bool} {v w:U} {S:So} {z:U} {S':So} (h:Fx.eqU f v w S = .ok z S'):∃ c,z = .bl c:=by
 unfold Fx.eqU at h;split at h
 ·cases h;exact ⟨_,rfl⟩
 ·split at h
  ·cases h;exact ⟨_,rfl⟩
  ·cases h
theorem oi {f:Bool->Bool} {o:Option Bool} {S:So} {z:U} {S':So} (h:obB o f S = .ok z S'):∃ c,z = .bl c:=by
 unfold obB at h;split at h
 ·cases h;exact ⟨_,rfl⟩
 ·cases h
theorem unmarked {op:CmpOp} (h:noSetD eb=true):behindInMarks op eb=false:=by cases eb <;> first | rfl | cases h
include g
theorem vg {op:CmpOp} {p:Pm} (hK:X.K=B.K) (hu:X.A.units+40<cLine) (h:cmpOf op=some p) (hs:noSetD eb=true) (ha:FE X B G Ex ea a) (hb:FE X B G Ex eb b) :
  FT X B G Ex (.Compare ea [op] [eb] pos) (tB (cP p (lst2 a b)))/\FE X B G Ex (.Compare ea [op] [eb] pos) (cB (tB (cP p (lst2 a b)))):=by
 have fin:∀ {r:R2},OpR X (compareOp op) r->Pr2 B up p r->(∀ v w S z S',pr up p [v,w] S = .ok z S'->∃ c,z = .bl c)->FT X B G Ex (.Compare ea [op] [eb] pos) (tB (cP p (lst2 a b)))/\FE X B G Ex (.Compare ea [op] [eb] pos) (cB (tB (cP p (lst2 a b)))):=fun ho hp hv =>
  ⟨wR g ho hp hv ha hb (unmarked hs),uT g (uS g ho hp ha hb (unmarked hs))⟩
 have hu1:X.A.units+1<cLine:=by lia
 cases op <;> cases h
 ·exact fin (xo hu) xl fun _ _ _ _ _=>uZ
 ·exact fin (xm hu) xi fun _ _ _ _ _=>uX
 ·exact fin rK v3 fun _ _ _ _ _=>kQ
 ·exact fin rL v5 fun _ _ _ _ _=>kQ
 ·exact fin rM v6 fun _ _ _ _ _=>kQ
 ·exact fin rN v7 fun _ _ _ _ _=>kQ
 ·exact fin (xn hu1) (by rw [hK];exact xk) fun _ _ _ _ _=>oi
 ·exact fin (wj hu1) (by rw [hK];exact vX) fun _ _ _ _ _=>oi
omit g in
theorem nu {f:Int->Int->V} {x y:V} {H:Hp} {Q Q':VK} (h:∀ v H,Q v H->Q' v H) (q:rI0 f x y H Q):rI0 f x y H Q':=by
 obtain ⟨i,j,e1,e2,q⟩:=q;exact ⟨i,j,e1,e2,h _ _ q⟩
omit g in
theorem nZ {op:CmpOp} {p:Pm} (h:ordOf op=some p):∃ f,OpR X (compareOp op) (rI0 f)/\Pr2 B up p (rI0 f):=by
 cases op <;> cases h
 ·exact ⟨_,rK,v3⟩
 ·exact ⟨_,rL,v5⟩
 ·exact ⟨_,rM,v6⟩
 ·exact ⟨_,rN,v7⟩
theorem wY {op op':CmpOp} {p q:Pm} (h:ordOf op=some p) (h':ordOf op'=some q) (hs:noSetD ec=true) (ha:FE X B G Ex ea a) (hb:FE X B G Ex eb b) (hc:FE X B G Ex ec d) :
  FT X B G Ex (.Compare ea [op,op'] [eb,ec] pos) (tCh p q a b d)/\FE X B G Ex (.Compare ea [op,op'] [eb,ec] pos) (cB (tCh p q a b d)):=by
 obtain ⟨f,o1,q1⟩:=nZ (X:=X) (B:=B) (up:=up) h;obtain ⟨f',o2,q2⟩:=nZ (X:=X) (B:=B) (up:=up) h';have hm:lastMarks [op,op'] [eb,ec]=false:=unmarked (op:=op') hs;exact ⟨xD g o1 o2 q1 q2 ha hb hc hm,wS g o1 o2 q1 q2 ha hb hc hm (fun _ _ _ _ h=>h) nu nu⟩
theorem jc {p:Pm} {f:Bool->Bool} (hp:∀ v S,pr up p [v] S = .ok (.bl (f (match v with | .non=>true | _=>false))) S) {op:CmpOp} (ho:OpR X (compareOp op) (fun x y H Q=>y = .non/\Q (.bl (f (decide (x = .non)))) H)) (hn:op≠.In) (hn2:op≠.NotIn) (ha:FE X B G Ex ea a) :
  FT X B G Ex (.Compare ea [op] [.Constant .none j p1] pos) (tB (cP p (aC a aN)))/\FE X B G Ex (.Compare ea [op] [.Constant .none j p1] pos) (cB (tB (cP p (aC a aN)))):=by
 have hm:behindInMarks op (.Constant .none j p1)=false:=rfl;have mm:=mP g (p:=p) (mAC g ha.m (mAN g));have one:∀ {W:Wd} {v:U} {u:V},Rv B W v u->(match v with | .non=>true | _=>false)=decide (u = .non):=fun {W v u} r=>by
  cases v with
  | non=>rw [show u = .non from r];rfl
  | bl b=>rw [show u = .bl b from r];rfl
  | int i=>rw [show u = .int i from r];rfl
  | str i=>rw [show u = .str i from r];rfl
  | ty i=>rw [show u = .ty i from r];rfl
  | tup xs=>obtain ⟨p,vs,rfl,_⟩:=r;rfl
  | lst xs=>obtain ⟨p,vs,rfl,_⟩:=r;rfl
  | kt xs=>obtain ⟨p,vs,rfl,_⟩:=r;rfl
  | kl xs=>obtain ⟨p,vs,rfl,_⟩:=r;rfl
  | kd kvs no=>obtain ⟨p,rfl,_⟩:=r;rfl
  | ref a=>obtain ⟨p,rfl,_⟩:=r;rfl
  | gl x=>obtain ⟨p,rfl,_⟩:=r;rfl
 have core:∀ {τ:St} {H:Hp} {Q:VK},LE B G Ex (cP p (aC a aN)) τ H Q->LE B G Ex a τ H (fun x H1=>Q (.bl (f (decide (x = .non)))) H1):=fun h=>(LE.p1 g ha.m h).imp ha.m fun u H1 zz=>by
  obtain ⟨W,S,v,z,S',rs,r1,e,q⟩:=zz;rw [hp] at e;cases e;rw [<- one r1];exact q.here rs rfl
 have hE:FE X B G Ex (.Compare ea [op] [.Constant .none j p1] pos) (cP p (aC a aN)):=⟨wkE (kE ho ha.p jE hm) fun τ H Q h=>(core h).imp ha.m fun u H1 q=>⟨rfl,q⟩,mm⟩
 refine ⟨⟨wkT (kr ho ha.p jE hm) fun τ H Q h=>?_,mB g mm⟩,uT g hE⟩;have h':LE B G Ex (cP p (aC a aN)) τ H (fun x H'=>∃ k,x = .bl k/\Q k H'):=by
  obtain ⟨W,σ,S,rs,rg,h⟩:=h;refine LE.go mm rs rg h fun v S' W' u H' le rs' rv rg' h'=>?_;cases v <;> first | (exact (g.no h').elim) | exact ⟨_,rv,h' W' H' le rs'⟩
 exact (core h').imp ha.m fun u H1 q=>⟨rfl,q⟩
end
end Fx
namespace Fx
open PySem PySem.Spec L2
open PyProof.Rows hiding St
theorem rJ1 {X:Cx}:MtR X "str.join" (fun x vs H Q=>∃ (sep:Str) (l:Addr) (w:Str),x = .str sep/\vs=[.ref l]/\H l=some (.lst [.str w])/\w.length+sep.length<=sizeLine/\Q (.str w) H):=fun pins s σ H x xs v us Q I r rv h=>qC pins s σ H x xs v us Q I r rv (by
 obtain ⟨sep,l,w,e1,e2,e3,e4,q⟩:=h;refine ⟨sep,l,[w],e1,e2,.inl (.inl e3),?_,?_⟩
 ·have:sizeLine=16777216:=rfl;simp only [xBs,List.map_nil,List.sum_cons,List.sum_nil,xAo,List.length_nil];lia
 ·have:Txt.join sep [w]=w:=by first | rfl | simp [Txt.join]
  rw [this];exact q)
section
variable {P:Program} {w:World} {base:Heap} {B:Bs} {up:List (Str×Str)} {G:Gx Prop} {lv:Nat} {c:Ct} {X:Cx} {Ex:St->XK} {a b:TEx Prop} {ea eb:Expr} {p1 pos:Pos} {x:Str} {m:Bool} {p:Pm}
theorem pA (F:Fc P w base B up G lv c) (k:Cok P w base B lv c X) (h:blt1 m x=some p) (hb:isB c x=true) (hst:noStar ea=true) (ha:FE X B G Ex ea a):FE X B G Ex (.Call (.Name x p1) [ea] [] pos) (cP p (aC a aN)):=by
 have g:=F.g;obtain ⟨h1,h2⟩:=fc hb;obtain ⟨n1,_,n2⟩:=dZ (er h1);have hg:=k.gl h1;have hm:X.mg x=none:=by rw [k.hM];exact F.bl h2
 have fa:FA X B G Ex [ea] (aC a aN):=gG g ha (jg g) hst;have hs:[ea].all noStar=true:=by rw [List.all_cons,hst];rfl
 have hK:=k.hK;unfold blt1 at h;split at h
 ·next e=>subst e;cases h;exact oS g vI (by rw [hK];exact v4) hg hm (by decide +kernel) fa hs n2 n1
 split at h
 ·next e=>subst e;cases h;exact oS g pz we hg hm (by decide +kernel) fa hs n2 n1
 split at h
 ·next e=>subst e;cases h;exact qQ g qW tR hg hm (by decide +kernel) fa hs n2 n1
 split at h
 ·next e=>subst e;cases h;exact qQ g o7 (by rw [hK];exact qj) hg hm (by decide +kernel) fa hs n2 n1
 split at h
 ·next e=>subst e;cases h;exact qQ g qT (by rw [hK];exact qo) hg hm (by decide +kernel) fa hs n2 n1
 split at h
 ·next e=>subst e;cases h;exact qQ g o8 qp hg hm (by decide +kernel) fa hs n2 n1
 split at h
 ·next e=>subst e;cases h;exact oS g (u9 k.calm) (by rw [hK];exact wb) hg hm (by decide +kernel) fa hs n2 n1
 split at h
 ·next e=>subst e;cases h;exact oS g (gI k.calm) ql hg hm (by decide +kernel) fa hs n2 n1
 ·cases h
theorem vk (F:Fc P w base B up G lv c) (k:Cok P w base B lv c X) (h:blt2 x=some p) (hb:isB c x=true) (hst:noStar ea=true) (hst2:noStar eb=true) (ha:FE X B G Ex ea a) (hb':FE X B G Ex eb b):FE X B G Ex (.Call (.Name x p1) [ea,eb] [] pos) (cP p (lst2 a b)):=by
 have g:=F.g;obtain ⟨h1,h2⟩:=fc hb;obtain ⟨n1,_,n2⟩:=dZ (er h1);have hg:=k.gl h1;have hm:X.mg x=none:=by rw [k.hM];exact F.bl h2
 have fa:FA X B G Ex [ea,eb] (lst2 a b):=gG g ha (gG g hb' (jg g) hst2) hst;have hs:[ea,eb].all noStar=true:=by rw [List.all_cons,List.all_cons,hst,hst2];rfl
 unfold blt2 at h;split at h
 ·next e=>subst e;cases h;exact oS g (mq k.calm) v0 hg hm (by decide +kernel) fa hs n2 n1
 ·cases h
theorem ur (F:KdF w B):Pr2 B up .ix (rIxA w B.K):=xj fun {W q kvs no x v H Q} hd hy q=>by
 obtain ⟨u,val,e1,e2,e3⟩:=F.y hd hy;exact .inr ⟨_,_,u,val,rfl,F.d hd,rfl,e1,e2,q u (e3 W)⟩
theorem dflt0 {np n:Nat} {ds:List U} (h:dflt np n []=some ds):ds=[]/\n=np:=by
 unfold dflt at h;split at h
 ·next e=>cases h;exact ⟨by simp,by have:=e.1;have:=e.2;simp at this;lia⟩
 ·cases h
theorem dfltN {np:Nat} {df:List U}:dflt np np df=some []:=by
 unfold dflt;rw [xCg ⟨xAg _,by lia⟩,Nat.sub_self,Nat.sub_zero,List.drop_length]
theorem jR {gl:List (Str×Gd)} {y:Str} {q:Nat×Nat}:∀ {kvs:List (Str×U)},getF y (fnsOf gl kvs)=some q->(∃ df mp,getF y gl=some (.fn q.1 q.2 df mp))/\(y,q)∈fnsOf gl kvs
 | [],h=>by cases h
 | (z,u)::r,h=>by
  have skip:fnsOf gl ((z,u)::r)=fnsOf gl r->(∃ df mp,getF y gl=some (.fn q.1 q.2 df mp))/\(y,q)∈fnsOf gl ((z,u)::r):=fun e=>by
   rw [e] at h ⊢;exact jR h
  cases u <;> try exact skip rfl
  rename_i x
  cases hx:getF x gl with
  | none=>exact skip (by simp only [fnsOf,hx])
  | some d =>
   cases d with
   | fn i np df mp =>
    have e:fnsOf gl ((z,.gl x)::r)=(x,i,np)::fnsOf gl r:=by simp only [fnsOf,hx]
    rw [e] at h ⊢;unfold getF at h;split at h
    ·next e2=>cases h;subst e2;exact ⟨⟨df,mp,hx⟩,xAr⟩
    ·obtain ⟨h1,h2⟩:=jR h;exact ⟨h1,xAs _ h2⟩
   | cl=>exact skip (by simp only [fnsOf,hx])
   | con=>exact skip (by simp only [fnsOf,hx])
end
structure Snd (P:Program) (w:World) (base:Heap) (B:Bs) (up:List (Str×Str)) (G:Gx Prop) (lv n:Nat):Prop where
 E:∀ {c X Ex m e t},Fc P w base B up G lv c->Cok P w base B lv c X->PassS (CXz X.prog X.w) X Ex->cpE c n m e=some t->FE X B G Ex e t
 C:∀ {c X Ex m f as pos t},Fc P w base B up G lv c->Cok P w base B lv c X->PassS (CXz X.prog X.w) X Ex->as.all noStar=true->cpC c n m f as pos=some t->FE X B G Ex (.Call f as [] pos) t
 M:∀ {c X Ex o a as apos pos t},Fc P w base B up G lv c->Cok P w base B lv c X->PassS (CXz X.prog X.w) X Ex->as.all noStar=true->(apos.endLine == pos.line)=true->cpM c n o a as=some t->FE X B G Ex (.Call (.Attribute o a apos) as [] pos) t
 A:∀ {c X Ex m es t},Fc P w base B up G lv c->Cok P w base B lv c X->PassS (CXz X.prog X.w) X Ex->cpA c n m es=some t->FA X B G Ex es t/\(es=[]->t=aN)/\es.all noStar=true
 D:∀ {c X Ex m es t ks kk pos},Fc P w base B up G lv c->Cok P w base B lv c X->PassS (CXz X.prog X.w) X Ex->cpA c n m es=some t->keysOf ks=some kk->kk.length=es.length->FP X B G Ex pos ks kk es t
 T:∀ {c X Ex vl e t},Fc P w base B up G lv c->Cok P w base B lv c X->PassS (CXz X.prog X.w) X Ex->cpT c n vl e=some t->FT X B G Ex e t/\(vl=true->FE X B G Ex e (cB t))/\∀ op vs p,e=Expr.BoolOp op vs p->FW X B G Ex e t
 I:∀ {c X Ex one tg e t},Fc P w base B up G lv c->Cok P w base B lv c X->PassS (CXz X.prog X.w) X Ex->(one=false->∃ ts k p,tg=Expr.Tuple ts k p)->cpI c n one e=some t->FI X B G Ex tg e t
section
variable {P:Program} {w:World} {base:Heap} {B:Bs} {up:List (Str×Str)} {G:Gx Prop} {lv n:Nat} {c:Ct} {X:Cx} {Ex:St->XK}
theorem noneS {α:Type} {t:α} {p:Prop} (h:(none:Option α)=some t):p:=by cases h
theorem snd0:Snd P w base B up G lv 0 :=
 ⟨fun _ _ _ h=>noneS h,fun _ _ _ _ h=>noneS h,fun _ _ _ _ _ h=>noneS h,fun _ _ _ h=>noneS h,fun _ _ _ h _ _=>noneS h,fun _ _ _ h=>noneS h,fun _ _ _ _ h=>noneS h⟩
theorem xI {m:List Bool} {es:List Expr} {t:TAx Prop} (s:Snd P w base B up G lv n) (F:Fc P w base B up G lv c) (k:Cok P w base B lv c X) (hx:PassS (CXz X.prog X.w) X Ex) (h:cpA c (n+1) m es=some t):FA X B G Ex es t/\(es=[]->t=aN)/\es.all noStar=true:=by
 cases es with
 | nil=>cases h;exact ⟨jg F.g,fun _=>rfl,rfl⟩
 | cons e r =>
  obtain ⟨h1,h2⟩:=dD (show gd (noStar e) (o2 aC (cpE c n (m.headD false) e) (cpA c n m.tail r))=_ from h);obtain ⟨x,y,h3,h4,rfl⟩:=dN h2;obtain ⟨q1,_,q3⟩:=s.A F k hx h4;exact ⟨gG F.g (s.E F k hx h3) q1 h1,nofun,by rw [List.all_cons,h1,q3];rfl⟩
theorem oy {a:Option Expr} {r:List (Option Expr)} {kk:List Str} (h:keysOf (a::r)=some kk):∃ z j p kk',a=some (.Constant (.str z) j p)/\keysOf r=some kk'/\kk=z::kk':=by
 obtain ⟨x,ks,h1,h2,rfl⟩:=dN h;obtain ⟨e,rfl,h3⟩:=Option.bind_eq_some_iff.mp h1;unfold conT at h3;split at h3
 ·obtain ⟨y,h4,rfl⟩:=dF h3;unfold conS at h4;split at h4
  ·cases h4;exact ⟨_,_,_,ks,rfl,h2,rfl⟩
  ·cases h4
 ·cases h3
theorem ik:∀ {ks:List (Option Expr)} {kk:List Str},keysOf ks=some kk->ks.length=kk.length/\ks.all (·.isSome)=true
 | [],kk,h=>by cases h;exact ⟨rfl,rfl⟩
 | a::r,kk,h=>by
  obtain ⟨z,j,p,kk',rfl,hq,rfl⟩:=oy h;obtain ⟨h1,h2⟩:=ik hq;exact ⟨by simp [h1],by rw [List.all_cons,h2];rfl⟩
theorem xF {m:List Bool} {es:List Expr} {t:TAx Prop} {ks:List (Option Expr)} {kk:List Str} {pos:Pos} (s:Snd P w base B up G lv n) (F:Fc P w base B up G lv c) (k:Cok P w base B lv c X) (hx:PassS (CXz X.prog X.w) X Ex) (h:cpA c (n+1) m es=some t) (hk:keysOf ks=some kk) (hl:kk.length=es.length):FP X B G Ex pos ks kk es t:=by
 cases es with
 | nil =>
  cases h;cases kk with
  | cons _ _=>cases hl
  | nil =>
   have:=(ik hk).1;cases ks with
   | nil=>exact xr F.g
   | cons a r=>simp at this
 | cons e r =>
  obtain ⟨h1,h2⟩:=dD (show gd (noStar e) (o2 aC (cpE c n (m.headD false) e) (cpA c n m.tail r))=_ from h);obtain ⟨x,y,h3,h4,rfl⟩:=dN h2;cases ks with
  | nil=>cases hk;cases hl
  | cons a ks' =>
   obtain ⟨z,j,p,kk',rfl,hq,rfl⟩:=oy hk;exact xt F.g (s.E F k hx h3) (s.D F k hx h4 hq (by simpa using hl))
end
end Fx
namespace Fx
open PySem PySem.Spec L2
open PyProof.Rows hiding St
section
variable {P:Program} {w:World} {base:Heap} {B:Bs} {up:List (Str×Str)} {G:Gx Prop} {lv n:Nat} {c:Ct} {X:Cx} {Ex:St->XK}
theorem xp {o:Expr} {a:Str} {as:List Expr} {apos pos:Pos} {t:TEx Prop} (s:Snd P w base B up G lv n) (F:Fc P w base B up G lv c) (k:Cok P w base B lv c X) (hx:PassS (CXz X.prog X.w) X Ex) (hst:as.all noStar=true) (hl:(apos.endLine == pos.line)=true) (h:cpM c (n+1) o a as=some t):FE X B G Ex (.Call (.Attribute o a apos) as [] pos) t:=by
 have g:=F.g;change eM (cps n) _ _ _ _=_ at h;unfold eM at h;obtain ⟨hn,h⟩:=dD h;split at h
 ·obtain ⟨h1,h2⟩:=dD h;obtain ⟨z,h3,rfl⟩:=dF h2;cases xBe h1;exact wT g k.hK PySem.F.plainAttrs_list PySem.F.slot_list_pop PySem.F.type_list_pop ue vW (.inl rfl) (s.E F k hx h3) hn hl
 ·next e =>
  rw [List.all_cons,Bool.and_eq_true] at hst;split at h
  ·next ea =>
   subst ea;obtain ⟨z,v,h3,h4,rfl⟩:=dN h;exact rZ g k.hK PySem.F.plainAttrs_list PySem.F.slot_list_append PySem.F.type_list_append gK wa (.inl rfl) (s.E F k hx h3) (s.E F k hx h4) hn hst.1 hl
  split at h
  ·next ea =>
   subst ea;obtain ⟨z,v,h3,h4,rfl⟩:=dN h;exact rZ g k.hK PySem.F.plainAttrs_str PySem.F.slot_str_join PySem.F.type_str_join rJ1 tQ (.inr rfl) (s.E F k hx h3) (s.E F k hx h4) hn hst.1 hl
  ·cases h
 ·cases h
theorem w6 {vl:Bool} {e:Expr} {t:TTx Prop} (s:Snd P w base B up G lv n) (F:Fc P w base B up G lv c) (k:Cok P w base B lv c X) (hx:PassS (CXz X.prog X.w) X Ex) (h:cpT c (n+1) vl e=some t):FT X B G Ex e t/\(vl=true->FE X B G Ex e (cB t))/\∀ op vs p,e=Expr.BoolOp op vs p->FW X B G Ex e t:=by
 have g:=F.g;have hu:X.A.units+40<cLine:=by have:=k.hr.un;lia
 change eT (cps n) _ _ _=_ at h;unfold eT at h;cases e <;> dsimp only at h <;> try (cases h;done)
 case UnaryOp op a p =>
  cases op <;> dsimp only at h <;> try (cases h;done)
  obtain ⟨x,h1,rfl⟩:=dF h;obtain ⟨q1,q2,_⟩:=s.T F k hx h1;exact ⟨xu g q1,fun v=>oQ g (q2 v) q1.m,nofun⟩
 case BoolOp op vs p =>
  match vs,h with
  | [],h=>cases h
  | [a],h =>
   obtain ⟨q1,q2,_⟩:=s.T F k hx h;cases op with
   | And=>exact ⟨(rV q1).ft,fun v=>rY (q2 v),fun _ _ _ _=>rV q1⟩
   | Or=>exact ⟨(rU q1).ft,fun v=>rY (q2 v),fun _ _ _ _=>rU q1⟩
  | a::b::r,h =>
   cases op with
   | And =>
    obtain ⟨x,y,h1,h2,rfl⟩:=dN h;obtain ⟨q1,q2,_⟩:=s.T F k hx h1;obtain ⟨q3,q4,q5⟩:=s.T F k hx h2;exact ⟨(wz g q1 (q5 _ _ _ rfl)).ft,fun v=>uU g (q2 v) q1.m (q4 v) q3.m,fun _ _ _ _=>wz g q1 (q5 _ _ _ rfl)⟩
   | Or =>
    obtain ⟨x,y,h1,h2,rfl⟩:=dN h;obtain ⟨q1,q2,_⟩:=s.T F k hx h1;obtain ⟨q3,q4,q5⟩:=s.T F k hx h2;exact ⟨(wy g q1 (q5 _ _ _ rfl)).ft,fun v=>wH g (q2 v) q1.m (q4 v) q3.m,fun _ _ _ _=>wy g q1 (q5 _ _ _ rfl)⟩
 case Compare a ops bs p =>
  match ops,bs,h with
  | [],_,h=>cases h
  | [op],[],h=>cases h
  | [op],[b],h =>
   dsimp only at h;split at h
   ·next j q =>
    obtain ⟨x,h1,rfl⟩:=dF h;obtain ⟨q1,q2⟩:=jc g (p:=.isN) (f:=id) (j:=j) (p1:=q) (pos:=p) (fun v S=>by cases v <;> rfl) tT nofun nofun (s.E F k hx h1);exact ⟨q1,fun _=>q2,nofun⟩
   ·next j q =>
    obtain ⟨x,h1,rfl⟩:=dF h;obtain ⟨q1,q2⟩:=jc g (p:=.notN) (f:=not) (j:=j) (p1:=q) (pos:=p) (fun v S=>by cases v <;> rfl) qq nofun nofun (s.E F k hx h1);exact ⟨q1,fun _=>q2,nofun⟩
   ·obtain ⟨h1,h2⟩:=dD h;obtain ⟨pm,x,y,h3,h4,h5,rfl⟩:=ig h2;obtain ⟨q1,q2⟩:=vg g (pos:=p) k.hK hu h3 h1 (s.E F k hx h4) (s.E F k hx h5);exact ⟨q1,fun _=>q2,nofun⟩
  | [op],_::_::_,h=>cases h
  | [p1,p2],[b,d],h =>
   dsimp only at h;obtain ⟨h1,h2⟩:=dD h;rw [Bool.and_eq_true] at h1;split at h2
   ·next pm qm e1 e2 =>
    obtain ⟨x,y,z,h3,h4,h5,rfl⟩:=ig h2;obtain ⟨q1,q2⟩:=wY g (pos:=p) e1 e2 h1.2 (s.E F k hx h3) (s.E F k hx h4) (s.E F k hx h5);exact ⟨q1,fun _=>q2,nofun⟩
   ·cases h2
  | [_,_],[],h=>cases h
  | [_,_],[_],h=>cases h
  | [_,_],_::_::_::_,h=>cases h
  | _::_::_::_,_,h=>cases h
 case Call f as kws p =>
  obtain ⟨x,h1,rfl⟩:=dF h;have q:=s.E F k hx h1;exact ⟨wA g q fun _=>rfl,fun _=>uT g q,nofun⟩
 case Attribute o f p =>
  obtain ⟨h1,h2⟩:=dD h;obtain ⟨x,h3,rfl⟩:=dF h2;exact ⟨rW g k.hK (s.E F k hx h3) fun _=>rfl,fun z=>(by subst z;cases h1),nofun⟩
 case Name x p =>
  obtain ⟨h1,h2⟩:=dD h;obtain ⟨x,h3,rfl⟩:=dF h2;exact ⟨rW g k.hK (s.E F k hx h3) fun _=>rfl,fun z=>(by subst z;cases h1),nofun⟩
end
end Fx
namespace Fx
open PySem PySem.Spec L2
open PyProof.Rows hiding St
section
variable {P:Program} {w:World} {base:Heap} {B:Bs} {up:List (Str×Str)} {G:Gx Prop} {lv n:Nat} {c:Ct} {X:Cx} {Ex:St->XK}
theorem xq {one:Bool} {tg e:Expr} {t:TEx Prop} (s:Snd P w base B up G lv n) (F:Fc P w base B up G lv c) (k:Cok P w base B lv c X) (hx:PassS (CXz X.prog X.w) X Ex) (ht:one=false->∃ ts k p,tg=Expr.Tuple ts k p) (h:cpI c (n+1) one e=some t):FI X B G Ex tg e t:=by
 have g:=F.g;have bl:∀ {x y:Str},(isB c x && decide (x=y))=true->x=y/\Gl X y/\X.mg y=none:=fun {x y} h=>by
  rw [Bool.and_eq_true] at h;cases xBe h.2;obtain ⟨h1,h2⟩:=fc h.1;exact ⟨rfl,k.gl h1,by rw [k.hM];exact F.bl h2⟩
 change eI (cps n) _ _ _=_ at h;unfold eI at h;split at h
 ·next x p as q =>
  split at h
  ·next hb =>
   obtain ⟨rfl,hg,hm⟩:=bl hb;split at h
   ·obtain ⟨h1,h2⟩:=dD h;obtain ⟨z,h3,rfl⟩:=dF h2;exact uM g hg hm (s.E F k hx h3) h1
   ·cases h
  split at h
  ·next hb =>
   obtain ⟨rfl,hg,hm⟩:=bl hb;split at h
   ·obtain ⟨h1,h2⟩:=dD h;rw [Bool.and_eq_true,Bool.and_eq_true] at h1;obtain ⟨z,v,h3,h4,rfl⟩:=dN h2;obtain ⟨ts,kk,pp,rfl⟩:=ht (by simpa using h1.1.1);exact wx g k.hK hg hm (s.E F k hx h3) (s.E F k hx h4) h1.1.2 h1.2
   ·cases h
  split at h
  ·next hb =>
   obtain ⟨rfl,hg,hm⟩:=bl hb;split at h
   ·obtain ⟨h1,h2⟩:=dD h;obtain ⟨z,h3,rfl⟩:=dF h2;exact wG g k.hK hg hm (s.E F k hx h3) h1
   ·cases h
  ·obtain ⟨z,h3,rfl⟩:=dF h;exact rX g k.hK (s.E F k hx h3)
 ·obtain ⟨z,h3,rfl⟩:=dF h;exact rX g k.hK (s.E F k hx h3)
theorem m4 {tg:Expr} (h:tg1 tg=false):∃ ts k p,tg=Expr.Tuple ts k p:=by
 cases tg <;> first | exact ⟨_,_,_,rfl⟩ | cases h
theorem xE {m:Bool} {e:Expr} {t:TEx Prop} (s:Snd P w base B up G lv n) (F:Fc P w base B up G lv c) (k:Cok P w base B lv c X) (hx:PassS (CXz X.prog X.w) X Ex) (h:cpE c (n+1) m e=some t):FE X B G Ex e t:=by
 have g:=F.g;have hK:=k.hK;have hu:X.A.units+1<cLine:=by have:=k.hr.un;lia
 change eE (cps n) _ _ _=_ at h;unfold eE at h;cases e <;> dsimp only at h <;> try (cases h;done)
 case Name x p =>
  split at h
  ·next i hi =>
   cases h;obtain ⟨a,b,d⟩:=si k hi;obtain ⟨d1,d2,_⟩:=dZ d;exact f_v g a b d1 d2
  ·split at h
   ·next u hq =>
    cases h;obtain ⟨q1,q2⟩:=fE hq;obtain ⟨v,val,m1,r1,r2⟩:=F.con q2;exact f_c (fX (k.gl q1) (by rw [k.hM];exact m1) r1 (dZ (er q1)).1) r2
   ·cases h
 case Constant kk j p =>
  split at h <;> try (cases h;done)
  ·cases h;exact f_c tM fun _=>rfl
  ·cases h;exact f_c nN fun _=>rfl
  ·cases h;exact f_c vT fun _=>rfl
  ·cases h;exact f_c jE fun _=>rfl
 case BinOp a op b p =>
  obtain ⟨pm,x,y,h1,h2,h3,rfl⟩:=ig h;have ha:=s.E F k hx h2;have hb:=s.E F k hx h3;cases op <;> cases h1
  ·exact l7 g wl (by rw [hK];exact wc) ha hb
  ·exact l7 g tU vU ha hb
  ·exact l7 g qw vY ha hb
  ·exact l7 g tW vZ ha hb
  ·exact l7 g tV vV ha hb
  ·exact l7 g oa tS ha hb
 case UnaryOp op a p =>
  cases op <;> dsimp only at h <;> try (cases h;done)
  ·obtain ⟨x,h1,rfl⟩:=dF h;obtain ⟨q1,q2,_⟩:=s.T F k hx h1;exact oQ g (q2 rfl) q1.m
 case BoolOp op vs p =>
  obtain ⟨x,h1,rfl⟩:=dF h;exact (s.T F k hx h1).2.1 rfl
 case Compare a ops bs p =>
  obtain ⟨x,h1,rfl⟩:=dF h;exact (s.T F k hx h1).2.1 rfl
 case IfExp q a b p =>
  obtain ⟨x,y,z,h1,h2,h3,rfl⟩:=ig h;exact xx g (s.T F k hx h1).1 (s.E F k hx h2) (s.E F k hx h3)
 case Tuple es kk p =>
  obtain ⟨h1,h2⟩:=dD h;obtain ⟨x,h3,rfl⟩:=dF h2;exact wB g (s.A F k hx h3).1 (Nat.le_of_ble_eq_true h1)
 case List es p =>
  obtain ⟨x,h3,rfl⟩:=dF h;exact wI g (s.A F k hx h3).1
 case Dict ks vs p =>
  split at h
  ·cases h;exact xC g
  ·next hne =>
   split at h
   ·next kk hk =>
    obtain ⟨h1,h2⟩:=dD h;obtain ⟨x,h3,rfl⟩:=dF h2;rw [Bool.and_eq_true,Bool.and_eq_true] at h1;have hl:=Nat.eq_of_beq_eq_true h1.2;obtain ⟨k1,k2⟩:=ik hk;refine wQ g (s.D F k hx h3 hk hl) h1.1.1 hl (k1.trans hl) k2 (fun z=>?_) (Nat.le_of_ble_eq_true h1.1.2);subst z;have:vs=[]:=by
     have:=k1.trans hl;exact List.eq_nil_of_length_eq_zero (by simpa using this.symm)
    exact hne rfl this
   ·cases h
 case Subscript a b p =>
  split at h
  ·split at h
   ·obtain ⟨x,y,z,h1,h2,h3,rfl⟩:=ig h;exact wE g hK (s.E F k hx h1) (s.E F k hx h2) (s.E F k hx h3)
   ·obtain ⟨x,y,h1,h2,rfl⟩:=dN h;exact wC g hK (s.E F k hx h1) (s.E F k hx h2)
   ·obtain ⟨x,y,h1,h2,rfl⟩:=dN h;exact wD g hK (s.E F k hx h1) (s.E F k hx h2)
   ·cases h
  ·obtain ⟨h1,h2⟩:=dD h;obtain ⟨x,y,h3,h4,rfl⟩:=dN h2;exact xw g (w5 hu) (by rw [hK,k.hw];exact ur F.kdf) (s.E F k hx h3) (s.E F k hx h4) (nH h1)
 case Attribute o f p =>
  obtain ⟨h1,h2⟩:=dD h;obtain ⟨x,h3,rfl⟩:=dF h2;rw [Bool.and_eq_true] at h1;obtain ⟨y,hy,e⟩:=List.any_eq_true.mp h1.2;cases xBe e;exact wN g hK F.clf hy (s.E F k hx h3) h1.1
 case Call f as kws p =>
  split at h
  ·obtain ⟨h1,h2⟩:=dD h;exact s.C F k hx h1 h2
  ·cases h
 case ListComp elt gens sc p =>
  split at h
  ·next tg it ifs =>
   split at h
   ·next cs is one ti te e1 e2 e3 e4 =>
    obtain ⟨hg,h2⟩:=dD h;simp only [Bool.and_eq_true,Bool.not_eq_true'] at hg;obtain ⟨⟨⟨hc,hok⟩,hns⟩,his⟩:=hg;obtain ⟨cl,cp⟩:=rf k hc hok e1;have ck:∀ C s' H fp,Cok P w base B lv (cty c sc) (cxComp X (locs sc.names++frees sc.names) sc cl C s' H fp):=fun _ _ _ _=>ph k hok;have hE:∀ C s' H fp,FE (cxComp X (locs sc.names++frees sc.names) sc cl C s' H fp) B G (fun _ _ _ _=>False) elt te:=fun C s' H fp=>s.E F.re (ck C s' H fp) passF e4;have hT:=fun C s' H fp=>rE (G:=G) (ck C s' H fp) e2;have h1:one=true->is.length=1:=(hT 0 X.s₀ X.H₀ []).2;have hi:∀ kk∈is,kk<(locs sc.names).length:=fun kk hk=>Nat.le_of_ble_eq_true (List.all_eq_true.mp his kk hk);have hf:∀ v,foldedSetIterable it X.env v=pure v:=fun v=>by cases it <;> first | rfl | cases hns
    have hI:FI X B G Ex tg it ti:=s.I F k hx (fun z=>m4 z) e3;split at h2
    ·cases h2;exact wK g h1 hi k.calm cp hI (fun C s' H fp=>(hT C s' H fp).1) hE (.inl ⟨rfl,rfl⟩) hf (hE 0 X.s₀ X.H₀ []).m
    ·next q =>
     obtain ⟨tt,h3,rfl⟩:=dF h2;have hq:∀ C s' H fp,FT (cxComp X (locs sc.names++frees sc.names) sc cl C s' H fp) B G (fun _ _ _ _=>False) q tt:=fun C s' H fp=>(s.T F.re (ck C s' H fp) passF h3).1;exact wK g h1 hi k.calm cp hI (fun C s' H fp=>(hT C s' H fp).1) hE (.inr ⟨q,tt,rfl,rfl,(hq 0 X.s₀ X.H₀ []).m,hq⟩) hf (hE 0 X.s₀ X.H₀ []).m
    ·cases h2
   ·cases h
  ·cases h
theorem xH {m:Bool} {f:Expr} {as:List Expr} {pos:Pos} {t:TEx Prop} (s:Snd P w base B up G lv n) (F:Fc P w base B up G lv c) (k:Cok P w base B lv c X) (hx:PassS (CXz X.prog X.w) X Ex) (hst:as.all noStar=true) (h:cpC c (n+1) m f as pos=some t):FE X B G Ex (.Call f as [] pos) t:=by
 have g:=F.g;have hK:=k.hK;have hr:Room lv X.A:=k.hr.mono (Nat.le_succ _);change eC (cps n) _ _ _ _ _=_ at h;unfold eC at h;cases f <;> dsimp only at h <;> try (cases h;done)
 case Name x p =>
  split at h
  ·next i np df mp e =>
   obtain ⟨q1,q2⟩:=fE e;obtain ⟨a,d,h1,h2,rfl⟩:=dN h;obtain ⟨f,fd,ps,m1,kp,FO,hd⟩:=F.fn q2;obtain ⟨e1,dvs,dv,b1,b2,b3⟩:=hd h2;obtain ⟨A1,A2,_⟩:=s.A F k hx h1;exact f_call g (k.f FO) hr (k.gl q1) (by rw [k.hM];exact m1) (by rw [hK];exact kp) (by rw [hK];exact b1) b2 b3 hx (dZ (er q1)).1 A1 A2 e1 hst
  ·next i np df e =>
   obtain ⟨q1,q2⟩:=fE e;obtain ⟨_,h⟩:=dD h;obtain ⟨a,d,h1,h2,rfl⟩:=dN h;obtain ⟨cc,f,fd,ps,c1,m1,mk,FO,hd,_,_⟩:=F.cl q2;obtain ⟨e1,dvs,dv,b1,b2,b3⟩:=hd h2;obtain ⟨A1,A2,_⟩:=s.A F k hx h1;exact uP g c1 (by rw [hK];exact mk) (k.f FO) k.hr (k.gl q1) (by rw [k.hM];exact m1) (by rw [hK];exact b1) b2 b3 (dZ (er q1)).1 A1 A2 e1 hst
  ·cases h
  ·obtain ⟨hb,h⟩:=dD h;split at h
   ·next a =>
    rw [List.all_cons,Bool.and_eq_true] at hst;split at h
    ·next y _ b _ =>
     split at h
     ·next e1 e2 =>
      cases xBe e1;cases xBe e2;obtain ⟨h1,h2⟩:=dD h;rw [Bool.and_eq_true] at h1;obtain ⟨z,h3,rfl⟩:=dF h2;obtain ⟨a1,a2⟩:=fc hb;obtain ⟨b1,b2⟩:=fc h1.1;exact oR g k.calm (k.gl a1) (by rw [k.hM];exact F.bl a2) (k.gl b1) (by rw [k.hM];exact F.bl b2) (s.E F k hx h3) h1.2
     ·obtain ⟨pm,z,h1,h2,rfl⟩:=dN h;exact pA F k h1 hb hst.1 (s.E F k hx h2)
    ·obtain ⟨pm,z,h1,h2,rfl⟩:=dN h;exact pA F k h1 hb hst.1 (s.E F k hx h2)
   ·next a b =>
    rw [List.all_cons,Bool.and_eq_true,List.all_cons,Bool.and_eq_true] at hst;split at h
    ·next e1 =>
     cases xBe e1;obtain ⟨a1,a2⟩:=fc hb;have z1:X.mg "isinstance"=none:=by rw [k.hM];exact F.bl a2
     split at h
     ·next y py =>
      split at h
      ·next ty et =>
       obtain ⟨h1,h2⟩:=dD h;obtain ⟨z,h3,rfl⟩:=dF h2;obtain ⟨b1,b2⟩:=fc h1;have z2:X.mg y=none:=by rw [k.hM];exact F.bl b2
       obtain ⟨n1,_,n2⟩:=dZ (er b1);unfold tyOf at et;split at et
       ·next e=>subst e;cases et;exact kW g hK F.clt F.k1 (k.gl a1) z1 (k.gl b1) z2 (by decide +kernel) n2 n1 (s.E F k hx h3) hst.1
       split at et
       ·next e=>subst e;cases et;exact kW g hK F.clt F.k2 (k.gl a1) z1 (k.gl b1) z2 (by decide +kernel) n2 n1 (s.E F k hx h3) hst.1
       split at et
       ·next e=>subst e;cases et;exact kW g hK F.clt F.k3 (k.gl a1) z1 (k.gl b1) z2 (by decide +kernel) n2 n1 (s.E F k hx h3) hst.1
       split at et
       ·next e=>subst e;cases et;exact kW g hK F.clt F.k4 (k.gl a1) z1 (k.gl b1) z2 (by decide +kernel) n2 n1 (s.E F k hx h3) hst.1
       ·cases et
      ·split at h
       ·next e2 =>
        obtain ⟨hi,h⟩:=dD h;obtain ⟨z,h3,rfl⟩:=dF h;obtain ⟨y',hy,ey⟩:=List.any_eq_true.mp hi;cases xBe ey;obtain ⟨q1,q2⟩:=fE e2;obtain ⟨cc,f,fd,ps,c1,m1,mk,FO,hd,kc,_⟩:=F.cl q2;exact wL g hK F.clt (kc hy) (k.gl a1) z1 (k.gl q1) (by rw [k.hM];exact m1) (dZ (er q1)).1 (s.E F k hx h3) hst.1
       ·cases h
     ·cases h
    ·obtain ⟨pm,z,v,h1,h2,h3,rfl⟩:=ig h;exact vk F k h1 hb hst.1 hst.2.1 (s.E F k hx h2) (s.E F k hx h3)
   ·cases h
 case Attribute o a apos =>
  obtain ⟨h1,h⟩:=dD h;rw [Bool.and_eq_true] at h1;have h29:as.length<29:=Nat.le_of_ble_eq_true h1.2;split at h
  ·next C i np e =>
   obtain ⟨h2,h⟩:=dD h;obtain ⟨z,v,d,h3,h4,h5,rfl⟩:=ig h;obtain ⟨rfl,e1⟩:=dflt0 h5;obtain ⟨cc,f,fd,ps,u1,cls,meth,FO,bd⟩:=F.ms e;obtain ⟨A1,A2,_⟩:=s.A F k hx h4;exact uN g u1 (by rw [hK];exact cls) (by rw [hK];exact meth) (k.f FO) hr (by rw [hK];exact bd) .nil (fun _=>rfl) hx (s.E F k hx h3) A1 A2 e1 hst (kK (rA h2) hst h29 h1.1)
  ·split at h
   ·next y py =>
    split at h
    ·next i np df e =>
     obtain ⟨h2,h⟩:=dD h;obtain ⟨v,h4,rfl⟩:=dF h;simp only [Bool.and_eq_true,Bool.not_eq_true'] at h2;obtain ⟨⟨⟨⟨b1,b2⟩,b3⟩,b4⟩,b5⟩:=h2;cases xBe b1;obtain ⟨y',hy,ey⟩:=List.any_eq_true.mp b2;cases xBe ey;obtain ⟨q1,q2⟩:=fE e;obtain ⟨cc,f,fd,ps,c1,m1,mk,FO,hd,_,hi⟩:=F.cl q2;obtain ⟨bd,mc,i1,i2,i3,i4,i5⟩:=hi hy;obtain ⟨A1,A2,_⟩:=s.A F k hx h4;cases as with
     | nil=>cases b4
     | cons e1 es =>
      exact wM g (k.gl q1) (by rw [k.hM];exact m1) (dZ (er q1)).1 (by rw [hK];exact i1) (by rw [hK];exact i2) (by rw [hK];exact i3) i4 (by rw [hK];exact i5) (k.f FO) hr (by rw [hK];exact bd) hx A1 hst (Nat.eq_of_beq_eq_true b3) (kK rfl hst h29 h1.1)
    ·next kvs no e =>
     obtain ⟨h2,h⟩:=dD h;cases xBe h2;obtain ⟨q1,q2⟩:=fE e;obtain ⟨v,val,m1,r1,r2⟩:=F.con q2;obtain ⟨pp,rfl,hd⟩:=r2 ⟨fun _=>none,[],[]⟩;rw [show val = .ref pp from r1] at m1;have kf:KdF X.w B:=by rw [k.hw];exact F.kdf
     split at h
     ·next e1 =>
      rw [List.all_cons,Bool.and_eq_true] at hst;obtain ⟨z,h3,rfl⟩:=dF h;exact uR g hK kf hd (k.gl q1) (by rw [k.hM];exact m1) (dZ (er q1)).1 (s.E F k hx h3) hst.1 h1.1
     ·next e1 e2 =>
      rw [List.all_cons,Bool.and_eq_true,List.all_cons,Bool.and_eq_true] at hst;obtain ⟨z,v,h3,h4,rfl⟩:=dN h;exact uQ g hK kf hd (k.gl q1) (by rw [k.hM];exact m1) (dZ (er q1)).1 (s.E F k hx h3) (s.E F k hx h4) hst.1 hst.2.1 h1.1
     ·cases h
    ·exact s.M F k hx hst h1.1 h
   ·exact s.M F k hx hst h1.1 h
 case Subscript gx b p =>
  split at h
  ·next y py =>
   split at h
   ·next kvs no e =>
    obtain ⟨h1,h⟩:=dD h;obtain ⟨z,v,h3,h4,rfl⟩:=dN h;simp only [Bool.and_eq_true,Bool.not_eq_true'] at h1;obtain ⟨A1,A2,_⟩:=s.A F k hx h4;cases as with
    | nil=>cases h1.1
    | cons e1 es =>
     refine wP g hx (s.E F k hx h3) A1 hst (fun {y q} hy=>?_) rfl;obtain ⟨⟨df,mp,hq⟩,hm⟩:=jR hy;obtain ⟨f,fd,ps,m1,kp,FO,hd⟩:=F.fn hq;obtain ⟨e1,dvs,dv,b1,b2,b3⟩:=hd dfltN;have hz:dvs=[]:=b3 ⟨fun _=>none,[],[]⟩;subst hz;cases b2;exact ⟨f,lv,fd,ps,m1,by rw [hK];exact kp,hr,k.f FO,by rw [hK];exact b1,(Nat.eq_of_beq_eq_true (List.all_eq_true.mp h1.2 _ hm)).symm⟩
   ·cases h
  ·cases h
theorem snd:∀ n,Snd P w base B up G lv n
 | 0=>snd0
 | n+1=>⟨xE (snd n),xH (snd n),xp (snd n),xI (snd n),xF (snd n),w6 (snd n),xq (snd n)⟩
end
end Fx
namespace Fx
open PySem PySem.Spec L2
open PyProof.Rows hiding St
structure SndS (P:Program) (w:World) (base:Heap) (B:Bs) (up:List (Str×Str)) (G:Gx Prop) (lv n:Nat):Prop where
 S:∀ {c X Ex s t},Fc P w base B up G lv c->Cok P w base B lv c X->Catz X Ex->cpS c n s=some t->FS X B G Ex s t
 L:∀ {c X Ex s t},Fc P w base B up G lv c->Cok P w base B lv c X->Catz X Ex->cpSs c n s=some t->FSs X B G Ex s t
section
variable {P:Program} {w:World} {base:Heap} {B:Bs} {up:List (Str×Str)} {G:Gx Prop} {lv n:Nat} {c:Ct} {X:Cx} {Ex:St->XK}
theorem Cok.lp (k:Cok P w base B lv c X):Cok P w base B lv c X.lp:=⟨k.hP,k.hw,k.hK,k.hM,k.hb,k.N,k.nd,k.vis,k.loc,k.lc,k.gl,k.calm,k.hr,k.cap⟩
theorem Cok.trial {pins:List (Addr×Obj)} {E:Value->Shared->Prop} (k:Cok P w base B lv c X):Cok P w base B lv c (X.trial pins E):=⟨k.hP,k.hw,k.hK,k.hM,k.hb,k.N,k.nd,k.vis,k.loc,k.lc,k.gl,k.calm,k.hr,k.cap⟩
theorem sn {tg:Expr} {is:List Nat} {one:Bool} (h:tgOf c tg=some (is,one)):one=true->is.length=1:=by
 cases tg <;> try (cases h;done)
 ·obtain ⟨i,h1,e⟩:=dF (show o1 _ _=_ from h);cases e;exact fun _=>rfl
 ·obtain ⟨i,h1,e⟩:=dF (show o1 _ _=_ from h);cases e;exact nofun
theorem kj {st:Stmt} (g:MonG up G):FS X B G Ex st sZ:=⟨fun _ _ _ _ _ _ ⟨_,_,_,_,_,h⟩=>(g.no h).elim,⟨fun _ h=>(g.no h).elim⟩⟩
theorem xb {st:Stmt} {t:TSx Prop} (s:SndS P w base B up G lv n) (F:Fc P w base B up G lv c) (k:Cok P w base B lv c X) (ca:Catz X Ex) (h:cpS c (n+1) st=some t):FS X B G Ex st t:=by
 have g:=F.g;have hK:=k.hK;have hx:=ca.pass;have hu:X.A.units+1<cLine:=by have:=k.hr.un;lia
 change eS n (cpt n) _ _=_ at h;unfold eS at h;cases st <;> dsimp only at h <;> try (cases h;done)
 case Pass p=>cases h;exact sG g
 case Expr e p =>
  obtain ⟨h1,h⟩:=dD h;obtain ⟨x,h2,rfl⟩:=dF h;exact xf g ((snd n).E F k hx h2) h1
 case Return e p =>
  split at h
  ·obtain ⟨x,h2,rfl⟩:=dF h;exact vy g ((snd n).E F k hx h2)
  ·cases h;exact sD g
 case If q a b p =>
  obtain ⟨x,y,z,h1,h2,h3,rfl⟩:=ig h;exact xc g ((snd n).T F k hx h1).1 (s.L F k ca h2) (s.L F k ca h3)
 case While q b orelse p =>
  split at h
  ·obtain ⟨x,y,h1,h2,rfl⟩:=dN h;exact pP g ((snd n).T F k.lp catz.pass h1).1 (s.L F k.lp catz h2)
  ·cases h
 case For tg it b orelse p =>
  split at h
  ·split at h
   ·next is one e =>
    obtain ⟨h1,h⟩:=dD h;rw [Bool.and_eq_true] at h1;obtain ⟨x,y,h2,h3,rfl⟩:=dN h;exact vB g (sn e) k.calm ((snd n).I F k hx (fun z=>m4 z) h2) (rE k.lp e).1 (s.L F k.lp catz h3) (fun v=>by cases it <;> first | rfl | cases h1.1)
   ·cases h
  ·cases h
 case Assign tgs e p =>
  split at h
  ·obtain ⟨hc,h⟩:=dD h;split at h
   ·next x px =>
    obtain ⟨i,y,h1,h2,rfl⟩:=dN h;obtain ⟨a1,a2,a3⟩:=jL k h1;exact vF g ((snd n).E F k hx h2) k.nd a1 a2 (fg hc) a3
   ·next es j pt =>
    obtain ⟨h1,h⟩:=dD h;obtain ⟨is,y,h2,h3,rfl⟩:=dN h;obtain ⟨a1,a2⟩:=names_ok k h2;exact vx g hK k.calm k.nd ((snd n).E F k hx h3) a2 a1 (by unfold swapsWithSole;exact fg hc) (by cases e <;> first | rfl | cases h1)
   ·next o f po =>
    obtain ⟨h1,h⟩:=dD h;obtain ⟨x,y,h2,h3,rfl⟩:=dN h;obtain ⟨f',hy,ee⟩:=List.any_eq_true.mp h1;cases xBe ee;exact vD g hK F.clf hy ((snd n).E F k hx h2) ((snd n).E F k hx h3) hc
   ·next o i po =>
    obtain ⟨h1,h⟩:=dD h;obtain ⟨x,y,z,h2,h3,h4,rfl⟩:=ig h;exact sH g hu ((snd n).E F k hx h2) ((snd n).E F k hx h3) ((snd n).E F k hx h4) h1 hc
   ·cases h
  ·cases h
 case Raise e cau p =>
  cases h;exact kj g
 case Try b hs orelse fin p =>
  split at h
  ·cases h
  ·obtain ⟨hg,hB⟩:=dD h;rw [Bool.and_eq_true] at hg;cases List.isEmpty_iff.mp hg.1;cases List.isEmpty_iff.mp hg.2;exact sB (s.L F k ca hB).m fun pins=>s.L F k.trial catz hB
theorem vp {st:List Stmt} {t:TSx Prop} (s:SndS P w base B up G lv n) (F:Fc P w base B up G lv c) (k:Cok P w base B lv c X) (ca:Catz X Ex) (h:cpSs c (n+1) st=some t):FSs X B G Ex st t:=by
 change eL (cpt n) _ _=_ at h;unfold eL at h;split at h
 ·cases h;exact vz F.g
 ·next a r =>
  obtain ⟨x,y,h1,h2,rfl⟩:=dN h;cases h1;refine sJ F.g ?_ (s.L F k ca h2);cases e:(cpt n).S c a with
  | none=>exact kj F.g
  | some z=>exact s.S F k ca e
theorem sndS:∀ n,SndS P w base B up G lv n
 | 0=>⟨(fun _ _ _ h=>nomatch (show none=some _ from h)),(fun _ _ _ h=>nomatch (show none=some _ from h))⟩
 | n+1=>⟨xb (sndS n),vp (sndS n)⟩
end
end Fx
namespace Fx
open PySem PySem.Spec L2
open PyProof.Rows hiding St
structure De where
 np:Nat
 n:Nat
 t:TSx Prop
noncomputable def endsOf (x:Kx Prop) (k:Kv Prop):Ee Prop:={ nx:=fun _ S=>k .non S,rt:=k,bk:=fun _ _=>False,ct:=fun _ _=>False,x:=fun e _ S=>x e S }
noncomputable def stU (n:Nat) (vs:List U):Sg:=vs.map some++List.replicate (n - vs.length) none
noncomputable def base0 (up:List (Str×Str)) (fw:Nat) (call:Nat->List U->So->Kx Prop->Kv Prop->Prop):Gx Prop:={ fail:=False,fuel:=fw,prim:=fun p vs S x k=>Box (prP up p vs S k),call:=call,br:=fun b p q=>Box (if b=true then p () else q ()) }
structure CallD (tab:Nat->Option De) (G:Gx Prop) (i:Nat) (vs:List U) (S:So) (x:Kx Prop) (k:Kv Prop):Prop where
 ex:∃ (x':Kx Prop) (k':Kv Prop) (de:De),(∀ e S,x' e S->x e S)/\(∀ v S,k' v S->k v S)/\tab i=some de/\vs.length=de.np/\de.t G (stU de.n vs) S (endsOf x' k')
noncomputable def callG (up:List (Str×Str)) (tab:Nat->Option De) (fw:Nat):Nat->Gx Prop
 | 0=>base0 up fw fun _ _ _ _ _=>False
 | d+1=>base0 up fw (CallD tab (callG up tab fw d))
theorem monG {up:List (Str×Str)} {tab:Nat->Option De} {fw:Nat}:∀ d,MonG up (callG up tab fw d)
 | 0=>⟨rfl,fun _ _ _ _ _=>rfl,fun _ _ _=>rfl,fun _ _ h=>h⟩
 | d+1=>⟨rfl,fun _ _ _ _ _=>rfl,fun _ _ _=>rfl,fun hx hk ⟨x',k',de,h1,h2,h3⟩=>⟨x',k',de,fun e S z=>hx e S (h1 e S z),fun v S z=>hk v S (h2 v S z),h3⟩⟩
theorem callD {up:List (Str×Str)} {tab:Nat->Option De} {fw d i:Nat} {vs:List U} {S:So} {x:Kx Prop} {k:Kv Prop} {de:De} (e:tab i=some de) (hl:vs.length=de.np) (h:de.t (callG up tab fw d) (stU de.n vs) S (endsOf x k)):(callG up tab fw (d+1)).call i vs S x k :=
 CallD.mk ⟨x,k,de,fun _ _ z=>z,fun _ _ z=>z,e,hl,h⟩
structure FunA (K:xFr) (x qual:Str) (st:Stmt) (f:Addr) (fd:FuncData):Prop where
 ex:∃ (oc:Value) (od:Option Addr) (dv kV doc pm:Value) (an:Option Addr) (cdv ct:Value) (osl:Array (Option Value)),
  fd=PySem.W.fnOf x qual (defArgs st) (defBody st) (defScope st) dv kV doc pm an cdv ct/\K.lookup f=some ⟨oc,od,.func fd,osl⟩/\PySem.W.codeIn K cdv qual=true
section
variable {P:Program} {w:World} {B:Bs} {base:Heap} {up:List (Str×Str)} {tab:Nat->Option De} {fw d i fu:Nat} {c:Ct} {x qual:Str} {st:Stmt} {f:Addr} {fd:FuncData} {N ps:List Str} {de:De}
theorem FunA.okX {K:xFr} {mg:Str->Option Value} {k:Nat} {sp:Sp} (F:FunA K x qual st f fd) (S:FnScope N ps (defScope st)) (len:∀ vs H Q E,sp vs H Q E->vs.length=ps.length)
  (hbody:∀ (cdv:Value) (A:Around) (outer:List Env) (s:Shared) (H:Hp) (vs:List V) (Q:VK) (E:XK),Room k (A.deeper (envOfC qual (defScope st) s.heap.objs.size f cdv))->sp vs H Q E ->
   ∃ t,PSs (cxOf (CXz P w) P w K mg base N qual (defScope st) f cdv A outer s H E) (defBody st) t/\t { nx:=fun _ H'=>Q .non H',rt:=Q } (start N vs) H):FnOk P w K mg base (CXz P w) (k+1) f fd ps sp:=by
 obtain ⟨oc,od,dv,kV,doc,pm,an,cdv,ct,osl,rfl,lk,hcd⟩:=F.ex;exact wu lk hcd S len fun A outer s H vs Q E hr hsp=>hbody cdv A outer s H vs Q E hr hsp
theorem iX:∀ {l:List U} {n i:Nat} {v:U},nth (l.map some++List.replicate n none) i=some v->l[i]?=some v
 | [],n,i,v,h=>by
  exfalso;rw [List.map_nil,List.nil_append] at h;revert h;induction n generalizing i with
  | zero=>intro h;cases h
  | succ n ih =>
   cases i with
   | zero=>intro h;cases h
   | succ i=>exact ih (i:=i)
 | u::l,n,0,v,h=>h
 | u::l,n,i+1,v,h=>by simpa using iX (l:=l) (n:=n) (i:=i) h
theorem m8 {W:Wd} {us:List U} {vs:List V} (r:Rvs B W us vs):Rg B W (stU N.length us) (start N vs):=by
 have hl:=r.length;refine ⟨?_,fun i v h=>?_⟩
 ·unfold stU L2.start;rw [xAb,xAb,xAa,xAa,List.length_replicate,List.length_replicate,hl]
 ·obtain ⟨u,e,ru⟩:=r.get (iX h);refine ⟨u,?_,ru⟩;unfold L2.start;have hi:i<vs.length:=(xAq.mp e).1;rw [List.getElem?_append_left (by simpa using hi),xAw,e];rfl
theorem qL (F:FunA B.K x qual st f fd) (S:FnScope N ps (defScope st)) (hN:c.N=N) (hsc:c.sc=(defScope st).names) (ht:tab i=some de) (hnp:de.np=ps.length) (hn:de.n=N.length) (cp:cpSs c fu (defBody st)=some de.t) (FC:Fc P w base B up (callG up tab fw d) (2 * d+1) c) :
  FnOk P w B.K B.mg base (CXz P w) (2 * (d+1)+1) f fd ps (spF B (callG up tab fw (d+1)) i de.np):=by
 refine FunA.okX (k:=2 * d+2) F S (fun vs H Q E h=>by rw [h.1,hnp]) fun cdv A outer s H vs Q E hr hsp=>?_;obtain ⟨hl,W,us,S0,rs,rv,hc⟩:=hsp;obtain ⟨x',k',de',hx,hk,e,hl',body⟩:=CallD.ex hc;rw [ht] at e;cases e;have ck:Cok P w base B (2 * d+1) c (cxOf (CXz P w) P w B.K B.mg base N qual (defScope st) f cdv A outer s H E):=by
  refine ⟨rfl,rfl,rfl,rfl,rfl,hN.symm,S.nd,fun {x} h=>?_,fun {x} h=>?_,fun {x} h=>?_,fun {x} h=>?_,rfl,hr,fun _ {x} h=>?_⟩
  ·unfold isV at h;rw [du,hsc] at h;split at h <;> first | cases h;done | skip
   ·next e=>exact .inl e
   ·next e=>exact .inr (.inl e)
   ·next e=>exact .inr (.inr e)
  ·unfold isL at h;rw [du,hsc] at h;split at h <;> first | cases h;done | skip
   ·next e=>exact ⟨.inl e,.inl rfl⟩
   ·next e=>exact ⟨.inr e,.inl rfl⟩
  ·rw [du,hsc] at h;exact h
  ·unfold isG at h;rw [Bool.and_eq_true,du,hsc] at h;have h4:=h.1;split at h4
   ·next e=>exact e
   ·cases h4
  ·rw [du,hsc] at h;exact ⟨h,gy h⟩
 have fs:=(sndS fu).L FC ck (catz (Ex:=fun _=>E)) cp;refine ⟨_,fs.p,W,stU N.length us,S0,rs,m8 rv,?_⟩;rw [hn] at body;refine fs.m.m (E:=endsOf x' k') ⟨fun σ S1 z=>?_,fun v S1 z=>hk v S1 z,fun _ _ z=>False.elim z,fun _ _ z=>False.elim z,fun e σ S1 z=>?_⟩ body
 ·exact fun W' τ H' le rs' rg=>hk _ _ z W' .non H' le rs' rfl
 ·exact fun W' τ C dx H' le rx rg=>hx _ _ z W' C dx H' le rx
end
end Fx
namespace Fx
open PySem PySem.Spec L2
open PyProof.Rows hiding St
structure Row where
 x:Str
 qual:Str
 i:Nat
 st:Stmt
 ps:List Str
 N:List Str
 mu:List Str
 t:TSx Prop
structure Tb where
 gl:List (Str×Gd)
 ms:List (Str×Str×Nat×Nat)
 fl:List Str
 bl:List Str
 ini:List Str
 isc:List Str
noncomputable def Tb.ct (b:Tb) (N mu:List Str) (st:Stmt):Ct:=⟨N,(defScope st).names,b.gl,b.ms,mu,b.fl,b.bl,b.ini,b.isc,false⟩
noncomputable def rowAt:List Row->Nat->Option De
 | [],_=>none
 | r::l,i=>match Nat.beq r.i i with
  | true=>some ⟨r.ps.length,r.N.length,r.t⟩
  | false=>rowAt l i
structure RowC (b:Tb) (tab:Nat->Option De) (r:Row):Prop where
 S:FnScope r.N r.ps (defScope r.st)
 cp:∃ fu,cpSs (b.ct r.N r.mu r.st) fu (defBody r.st)=some r.t
 ta:tab r.i=some ⟨r.ps.length,r.N.length,r.t⟩
def Dfl (B:Bs) (fd:FuncData) (ps:List Str) (np:Nat) (df:List U):Prop:=∀ {n ds},dflt np n df=some ds->n+ds.length=np/\∃ dvs dv,Binds B.K fd ps dv/\Vals dvs dv/\∀ W,Rvs B W ds dvs
structure Pf (P:Program) (w:World) (base:Heap) (B:Bs) (up:List (Str×Str)) (b:Tb) (rows:List Row):Prop where
 fn:∀ {x i np df mp},getF x b.gl=some (.fn i np df mp)->∃ r f fd,r∈rows/\r.i=i/\r.ps.length=np/\B.mg x=some (.ref f)/\PySem.W.keepIn B.K (.ref f)=true/\FunA B.K r.x r.qual r.st f fd/\Dfl B fd r.ps np df
 cl:∀ {x i np df},getF x b.gl=some (.cl i np df)->∃ r cc f fd,r∈rows/\r.i=i/\r.ps.length=np/\B.cl x cc/\B.mg x=some (.ref cc)/\Mk B.K cc f/\FunA B.K r.x r.qual r.st f fd/\Dfl B fd r.ps np df/\(x∈b.isc->KitC B up x cc) /\
  (x∈b.ini->Binds B.K fd r.ps []/\∃ mc,PySem.W.specialIn B.K (.ref cc) "__getattribute__"=some (some (.builtin "type.__getattribute__"))/\PySem.W.readsIn B.K cc mc=true/\PySem.W.findCls B.K (.ref cc) mc "__init__"=some (.val (.ref f))/\PySem.W.handedIn (.ref f)=true/\PySem.W.keepIn B.K (.ref f)=true)
 ms:∀ {m C i np},getF m b.ms=some (C,i,np)->∃ r cc f fd,r∈rows/\r.i=i/\r.ps.length=np/\(∀ c',B.cl C c'->c'=cc)/\Cls B.K cc/\Meth B.K cc m f/\FunA B.K r.x r.qual r.st f fd/\Binds B.K fd r.ps []
 con:∀ {x u},getF x b.gl=some (.con u)->∃ v val,B.mg x=some val/\RelV v val/\∀ W,Rv B W u v
 bl:∀ {x},x∈b.bl->B.mg x=none
 k1:KitT B "int"
 k2:KitT B "bool"
 k3:KitT B "str"
 k4:KitT B "tuple"
 clf:ClF B b.fl
 clt:ClT B
 kdf:KdF w B
section
variable {P:Program} {w:World} {base:Heap} {B:Bs} {up:List (Str×Str)} {b:Tb} {rows:List Row} {tab:Nat->Option De} {fw:Nat}
theorem row_ok (rc:∀ r∈rows,RowC b tab r) {r:Row} (hr:r∈rows) {f:Addr} {fd:FuncData} (F:FunA B.K r.x r.qual r.st f fd):∀ d,(∀ N mu st,Fc P w base B up (callG up tab fw d) (2 * d+1) (b.ct N mu st))->FnOk P w B.K B.mg base (CXz P w) (2 * (d+1)+1) f fd r.ps (spF B (callG up tab fw (d+1)) r.i r.ps.length):=fun d h =>
 let ⟨S,⟨_,cp⟩,ta⟩:=rc r hr
 qL (c:=b.ct r.N r.mu r.st) F S rfl rfl ta rfl rfl cp (h _ _ _)
theorem vH {r:Row} {f:Addr} {fd:FuncData}:FnOk P w B.K B.mg base (CXz P w) (2 * 0+1) f fd r.ps (spF B (callG up tab fw 0) r.i r.ps.length) :=
 ⟨fun _ _ _ _ h=>h.1,fun _ _ _ _ _ _ _ _ _ _ _ _ _ h=>by obtain ⟨_,_,_,_,_,_,h⟩:=h;exact False.elim h⟩
theorem rT (p:Pf P w base B up b rows) (rc:∀ r∈rows,RowC b tab r) (d:Nat) (ok:∀ {r:Row} {f:Addr} {fd:FuncData},r∈rows->FunA B.K r.x r.qual r.st f fd->FnOk P w B.K B.mg base (CXz P w) (2 * d+1) f fd r.ps (spF B (callG up tab fw d) r.i r.ps.length)) (N mu:List Str) (st:Stmt):Fc P w base B up (callG up tab fw d) (2 * d+1) (b.ct N mu st) where
 g:=monG d
 fn:=fun h=>by
  obtain ⟨r,f,fd,hr,rfl,rfl,h1,h2,F,hd⟩:=p.fn h;exact ⟨f,fd,r.ps,h1,h2,ok hr F,hd⟩
 cl:=fun h=>by
  obtain ⟨r,cc,f,fd,hr,rfl,rfl,h1,h2,h3,F,hd,h4,h5⟩:=p.cl h;exact ⟨cc,f,fd,r.ps,h1,h2,h3,ok hr F,hd,h4,h5⟩
 ms:=fun h=>by
  obtain ⟨r,cc,f,fd,hr,rfl,rfl,h1,h2,h3,F,hd⟩:=p.ms h;exact ⟨cc,f,fd,r.ps,h1,h2,h3,ok hr F,hd⟩
 con:=p.con
 bl:=p.bl
 k1:=p.k1
 k2:=p.k2
 k3:=p.k3
 k4:=p.k4
 clf:=p.clf
 clt:=p.clt
 kdf:=p.kdf
theorem oP (p:Pf P w base B up b rows) (rc:∀ r∈rows,RowC b tab r):∀ (d:Nat) (N mu:List Str) (st:Stmt),Fc P w base B up (callG up tab fw d) (2 * d+1) (b.ct N mu st)
 | 0=>rT p rc 0 fun _ _=>vH
 | d+1=>rT p rc (d+1) fun hr F=>row_ok rc hr F d (oP p rc d)
theorem vn (p:Pf P w base B up b rows) (rc:∀ r∈rows,RowC b tab r) {r:Row} (hr:r∈rows) {f:Addr} {fd:FuncData} (F:FunA B.K r.x r.qual r.st f fd) (d:Nat):FnOk P w B.K B.mg base (CXz P w) (2 * (d+1)+1) f fd r.ps (spF B (callG up tab fw (d+1)) r.i r.ps.length):=row_ok rc hr F d (oP p rc d)
end
end Fx
namespace Fx
open PySem PySem.Spec L2
open PyProof.Rows hiding St
noncomputable def isLC:Option NameKind->Bool
 | some .local=>true
 | some .cell=>true
 | _=>false
noncomputable def notFree:NameKind->Bool
 | .free=>false
 | _=>true
noncomputable def eqL:List Str->List Str->Bool
 | [],[]=>true
 | x::r,y::s=>decide (x=y) && eqL r s
 | _,_=>false
theorem oX:∀ {a b:List Str},eqL a b=true->a=b
 | [],[],_=>rfl
 | [],_::_,h=>by cases h
 | _::_,[],h=>by cases h
 | x::r,y::s,h=>by
  simp only [eqL,Bool.and_eq_true,decide_eq_true_eq] at h;rw [h.1,oX h.2]
noncomputable def scB (N ps:List Str) (sc:Scope):Bool:=decide (sc.kind = .function) && (!sc.isCoroutine && (!sc.isGenerator && (nodupS N && (eqL (N.take ps.length) ps && (ps.all (fun x=>isLC (getF x sc.names)) && sc.names.all fun y=>notFree y.2)))))
theorem sx {N ps:List Str} {sc:Scope} (h:scB N ps sc=true):FnScope N ps sc:=by
 simp only [scB,Bool.and_eq_true,Bool.not_eq_true'] at h;obtain ⟨h1,h2,h3,h4,h5,h6,h7⟩:=h;refine ⟨xBe h1,h2,h3,eB h4,oX h5,fun x hx=>?_,fun y hy e=>?_⟩
 ·have:=List.all_eq_true.mp h6 x hx;rw [du] at this;unfold isLC at this;split at this
  ·next e=>exact .inl e
  ·next e=>exact .inr e
  ·cases this
 ·have:=List.all_eq_true.mp h7 y hy;rw [e] at this;cases this
theorem rowC {b:Tb} {tab:Nat->Option De} {r:Row} (h1:scB r.N r.ps (defScope r.st)=true) (h2:cpSs (b.ct r.N r.mu r.st) 100 (defBody r.st)=some r.t) (h3:tab r.i=some ⟨r.ps.length,r.N.length,r.t⟩):RowC b tab r:=⟨sx h1,⟨_,h2⟩,h3⟩
theorem alln {α:Type} {p:α->Prop}:∀ x∈([]:List α),p x:=fun _ h=>nomatch h
theorem allc {α:Type} {p:α->Prop} {a:α} {l:List α} (h:p a) (r:∀ x∈l,p x):∀ x∈a::l,p x:=List.forall_mem_cons.mpr ⟨h,r⟩
end Fx
namespace Fx
open PySem PySem.Spec L2
open PyProof.Rows hiding St
theorem eW {α:Type} {x:Str} {v:α} {l:List (Str×α)} (h:getF x l=some v):(x,v)∈l:=dG (by rw [<- du];exact h)
noncomputable def mkB (K:xFr) (mg:Str->Option Value) (cls:List (Str×Addr)) (kds:List (Addr×List (Str×U)×List Str)):Bs:=⟨K,mg,fun p kvs no=>(p,kvs,no)∈kds,fun C c=>(C,c)∈cls⟩
noncomputable def isNo {α:Type}:Option (Option α)->Bool
 | some none=>true
 | _=>false
theorem io {α:Type} {o:Option (Option α)} (h:isNo o=true):o=some none:=by
 unfold isNo at h;split at h
 ·rfl
 ·cases h
noncomputable def noneB (K:xFr) (C:Addr) (fl:List Str):Bool:=fl.all fun f=>isNo (PySem.W.findIn K (.ref C) f)
noncomputable def mgB (K:xFr) (l:List Str):Bool:=l.all fun x=>isNo (PySem.W.nsIn K mainGlobals x)
noncomputable def nsB (K:xFr) (p:Addr) (l:List Str):Bool:=l.all fun x=>isNo (PySem.W.nsIn K p x)
noncomputable def eqO:Option Bool->Bool->Bool
 | some true,true=>true
 | some false,false=>true
 | _,_=>false
theorem iu {o:Option Bool} {b:Bool} (h:eqO o b=true):o=some b:=by
 unfold eqO at h;split at h <;> first | rfl | cases h
noncomputable def kitTB (K:xFr) (n:String) (cls:List (Str×Addr)):Bool:=(tys.all fun t=>eqO (PySem.W.kitOne K (.type t) (.type n)) (isTb t n)) && cls.all fun c=>eqO (PySem.W.kitOne K (.ref c.2) (.type n)) (isTb "object" n)
noncomputable def kitCB (K:xFr) (up:List (Str×Str)) (D:Str) (d:Addr) (cls:List (Str×Addr)):Bool:=(tys.all fun t=>eqO (PySem.W.kitOne K (.type t) (.ref d)) false) && cls.all fun c=>eqO (PySem.W.kitOne K (.ref c.2) (.ref d)) (isC up c.1 D)
section
variable {K:xFr} {mg:Str->Option Value} {cls:List (Str×Addr)} {kds:List (Addr×List (Str×U)×List Str)} {up:List (Str×Str)}
theorem kitT {n:String} (h:kitTB K n cls=true):KitT (mkB K mg cls kds) n:=by
 simp only [kitTB,Bool.and_eq_true,List.all_eq_true] at h;exact ⟨fun t ht=>iu (h.1 t ht),fun {C c} hc=>iu (h.2 (C,c) hc)⟩
theorem kitC {D:Str} {d:Addr} (h:kitCB K up D d cls=true):KitC (mkB K mg cls kds) up D d:=by
 simp only [kitCB,Bool.and_eq_true,List.all_eq_true] at h;exact ⟨fun t ht=>iu (h.1 t ht),fun {C c} hc=>iu (h.2 (C,c) hc)⟩
theorem clF {fl:List Str} (h1:∀ p∈cls,Cls K p.2) (h2:∀ p∈cls,noneB K p.2 fl=true):ClF (mkB K mg cls kds) fl:=⟨fun {C c} hc=>h1 (C,c) hc,fun {C c f} hc hf=>io (List.all_eq_true.mp (h2 (C,c) hc) f hf)⟩
structure FunD (K:xFr) (x qual:Str) (st:Stmt) (f:Addr) (fd:FuncData) (ds:List Value):Prop where
 ex:∃ (oc:Value) (od:Option Addr) (T:Addr) (kV doc pm:Value) (an:Option Addr) (cdv ct:Value) (osl:Array (Option Value)) (oT:Obj) (n:Nat),
  fd=PySem.W.fnOf x qual (defArgs st) (defBody st) (defScope st) (.ref T) kV doc pm an cdv ct/\K.lookup f=some ⟨oc,od,.func fd,osl⟩/\PySem.W.codeIn K cdv qual=true/\K.lookup T=some oT/\oT.data = .seq ds.toArray n
variable {x qual:Str} {st:Stmt} {f:Addr} {fd:FuncData} {ps:List Str} {ds es:List Value}
theorem FunD.fa (F:FunD K x qual st f fd ds):FunA K x qual st f fd:=by
 obtain ⟨oc,od,T,kV,doc,pm,an,cdv,ct,osl,oT,n,e,lk,hcd,_⟩:=F.ex;exact ⟨oc,od,_,kV,doc,pm,an,cdv,ct,osl,e,lk,hcd⟩
theorem Fun.fa (F:Fun K x qual st f fd):FunA K x qual st f fd:=by
 obtain ⟨oc,od,kV,doc,pm,an,cdv,ct,osl,e,lk,hcd⟩:=F.ex;exact ⟨oc,od,_,kV,doc,pm,an,cdv,ct,osl,e,lk,hcd⟩
theorem FunD.binds (F:FunD K x qual st f fd ds)
  (h:∀ (T:Addr) (kV doc pm:Value) (an:Option Addr) (cdv ct:Value) (us:List Value),(us++es).length=ps.length ->
   ∃ k,bindArgs (PySem.W.fnOf x qual (defArgs st) (defBody st) (defScope st) (.ref T) kV doc pm an cdv ct) ⟨us,[]⟩=(seqItems? (.ref T) >>= k)/\k (some ds.toArray)=pure (ps.zip (us++es))):Binds K fd ps es:=by
 obtain ⟨oc,od,T,kV,doc,pm,an,cdv,ct,osl,oT,n,rfl,lk,hcd,lT,dT⟩:=F.ex;intro s us KX hl;obtain ⟨k,e1,e2⟩:=h T kV doc pm an cdv ct us hl;exact PySem.W.binds_K KX rfl lT dT e1 e2
def BdC (r:Row):Prop:=∀ (kV doc pm:Value) (an:Option Addr) (cdv ct:Value) (us:List Value),us.length=r.ps.length->bindArgs (PySem.W.fnOf r.x r.qual (defArgs r.st) (defBody r.st) (defScope r.st) .none kV doc pm an cdv ct) ⟨us,[]⟩=pure (r.ps.zip us)
def BdD (r:Row):Prop:=∀ (d:Value) (T:Addr) (kV doc pm:Value) (an:Option Addr) (cdv ct:Value) (us es:List Value),(us++es).length=r.ps.length->es=[]\/es=[d] ->
 ∃ k,bindArgs (PySem.W.fnOf r.x r.qual (defArgs r.st) (defBody r.st) (defScope r.st) (.ref T) kV doc pm an cdv ct) ⟨us,[]⟩=(seqItems? (.ref T) >>= k)/\k (some #[d])=pure (r.ps.zip (us++es))
theorem dfl0 {r:Row} (F:Fun K r.x r.qual r.st f fd) (b:BdC r):Dfl (mkB K mg cls kds) fd r.ps r.ps.length []:=fun {n ds} h=>by
 obtain ⟨rfl,e⟩:=dflt0 h;exact ⟨by simpa using e,[],[],F.binds b,.nil,fun _=>rfl⟩
theorem dfl1 {r:Row} {u:U} {v:V} {d:Value} (F:FunD K r.x r.qual r.st f fd [d]) (b:BdD r) (rv:RelV v d) (ru:∀ W,Rv (mkB K mg cls kds) W u v):Dfl (mkB K mg cls kds) fd r.ps r.ps.length [u]:=fun {n ds} h=>by
 unfold dflt at h;split at h
 ·next e =>
  cases h;by_cases q:n=r.ps.length
  ·subst q;simp only [xAo,List.length_nil,Nat.sub_self,Nat.sub_zero];exact ⟨rfl,[],[],F.binds fun T kV doc pm an cdv ct us hl=>b d T kV doc pm an cdv ct us [] hl (.inl rfl),.nil,fun _=>rfl⟩
  ·have h1:r.ps.length - n=1:=by have:=e.1;have:=e.2;simp at this;lia
   rw [h1];refine ⟨by have:=e.1;simp;lia,[v],[d],F.binds fun T kV doc pm an cdv ct us hl=>b d T kV doc pm an cdv ct us [d] hl (.inr rfl),.cons rv .nil,fun W=>⟨v,[],rfl,ru W,rfl⟩⟩
 ·cases h
end
noncomputable def GlOk (P:Program) (w:World) (base:Heap) (B:Bs) (up:List (Str×Str)) (b:Tb) (rows:List Row):Str×Gd->Prop
 | (x,.fn i np df _)=>∃ r f fd,r∈rows/\r.i=i/\r.ps.length=np/\B.mg x=some (.ref f)/\PySem.W.keepIn B.K (.ref f)=true/\FunA B.K r.x r.qual r.st f fd/\Dfl B fd r.ps np df
 | (x,.cl i np df)=>∃ r cc f fd,r∈rows/\r.i=i/\r.ps.length=np/\B.cl x cc/\B.mg x=some (.ref cc)/\Mk B.K cc f/\FunA B.K r.x r.qual r.st f fd/\Dfl B fd r.ps np df/\(x∈b.isc->KitC B up x cc) /\
  (x∈b.ini->Binds B.K fd r.ps []/\∃ mc,PySem.W.specialIn B.K (.ref cc) "__getattribute__"=some (some (.builtin "type.__getattribute__"))/\PySem.W.readsIn B.K cc mc=true/\PySem.W.findCls B.K (.ref cc) mc "__init__"=some (.val (.ref f))/\PySem.W.handedIn (.ref f)=true/\PySem.W.keepIn B.K (.ref f)=true)
 | (x,.con u)=>∃ v val,B.mg x=some val/\RelV v val/\∀ W,Rv B W u v
def MsOk (B:Bs) (rows:List Row) (p:Str×Str×Nat×Nat):Prop:=∃ r cc f fd,r∈rows/\r.i=p.2.2.1/\r.ps.length=p.2.2.2/\(∀ c',B.cl p.2.1 c'->c'=cc)/\Cls B.K cc/\Meth B.K cc p.1 f/\FunA B.K r.x r.qual r.st f fd/\Binds B.K fd r.ps []
theorem vN {P:Program} {w:World} {base:Heap} {B:Bs} {up:List (Str×Str)} {b:Tb} {rows:List Row} (h1:∀ p∈b.gl,GlOk P w base B up b rows p) (h2:∀ p∈b.ms,MsOk B rows p) (h3:∀ x∈b.bl,B.mg x=none) (k1:KitT B "int") (k2:KitT B "bool") (k3:KitT B "str") (k4:KitT B "tuple") (clf:ClF B b.fl) (clt:ClT B) (kdf:KdF w B):Pf P w base B up b rows where
 fn:=fun h=>h1 _ (eW h)
 cl:=fun h=>h1 _ (eW h)
 ms:=fun h=>h2 _ (eW h)
 con:=fun h=>h1 _ (eW h)
 bl:=fun h=>h3 _ h
 k1:=k1
 k2:=k2
 k3:=k3
 k4:=k4
 clf:=clf
 clt:=clt
 kdf:=kdf
end Fx
namespace Fx
open PySem PySem.Spec L2
open PyProof.Rows hiding St
def DnR (K:xFr) (r:Row):Prop:=∃ (f:Addr) (fd:FuncData),PySem.W.nsIn K mainGlobals r.x=some (some (.ref f))/\Fun K r.x r.qual r.st f fd
def DnD (K:xFr) (r:Row) (d:Value):Prop:=∃ (f:Addr) (fd:FuncData),PySem.W.nsIn K mainGlobals r.x=some (some (.ref f))/\PySem.W.keepIn K (.ref f)=true/\FunD K r.x r.qual r.st f fd [d]
def MdR (K:xFr) (C:Addr) (r:Row):Prop:=∃ (f:Addr) (fd:FuncData),PySem.W.findIn K (.ref C) r.x=some (some (.ref f))/\PySem.W.isFn K (.ref f)=true/\PySem.W.keepIn K (.ref f)=true/\Fun K r.x r.qual r.st f fd
def MdD (K:xFr) (C:Addr) (r:Row) (d:Value):Prop:=∃ (f:Addr) (fd:FuncData),PySem.W.findIn K (.ref C) r.x=some (some (.ref f))/\PySem.W.isFn K (.ref f)=true/\PySem.W.keepIn K (.ref f)=true/\FunD K r.x r.qual r.st f fd [d]
section
variable {K:xFr} {f T C:Addr} {oc kV dc pm cd ct:Value} {od an:Option Addr} {sl:Array (Option Value)} {nm q:Str} {st:Stmt} {m:Str} {i:Nat} {ps N mu:List Str} {t:TSx Prop} {d:Value} {oT:Obj} {n:Nat}
theorem dnr (h0:PySem.W.nsIn K mainGlobals nm=some (some (.ref f))) (h1:K.lookup f=some ⟨oc,od,.func (PySem.W.fnOf nm q (defArgs st) (defBody st) (defScope st) .none kV dc pm an cd ct),sl⟩) (h2:PySem.W.codeIn K cd q=true) (h3:PySem.W.keepIn K (.ref f)=true):DnR K ⟨nm,q,i,st,ps,N,mu,t⟩:=⟨f,_,h0,oI h1 h2 h3⟩
theorem mdr (h0:PySem.W.findIn K (.ref C) m=some (some (.ref f))) (h4:PySem.W.isFn K (.ref f)=true) (h1:K.lookup f=some ⟨oc,od,.func (PySem.W.fnOf m q (defArgs st) (defBody st) (defScope st) .none kV dc pm an cd ct),sl⟩) (h2:PySem.W.codeIn K cd q=true) (h3:PySem.W.keepIn K (.ref f)=true):MdR K C ⟨m,q,i,st,ps,N,mu,t⟩:=⟨f,_,h0,h4,h3,oI h1 h2 h3⟩
theorem dnd (h0:PySem.W.nsIn K mainGlobals nm=some (some (.ref f))) (h1:K.lookup f=some ⟨oc,od,.func (PySem.W.fnOf nm q (defArgs st) (defBody st) (defScope st) (.ref T) kV dc pm an cd ct),sl⟩) (h2:PySem.W.codeIn K cd q=true) (h3:PySem.W.keepIn K (.ref f)=true) (h5:K.lookup T=some oT) (h6:oT.data = .seq #[d] n):DnD K ⟨nm,q,i,st,ps,N,mu,t⟩ d:=⟨f,_,h0,h3,⟨oc,od,T,kV,dc,pm,an,cd,ct,sl,oT,n,rfl,h1,h2,h5,h6⟩⟩
theorem mdd (h0:PySem.W.findIn K (.ref C) m=some (some (.ref f))) (h4:PySem.W.isFn K (.ref f)=true) (h1:K.lookup f=some ⟨oc,od,.func (PySem.W.fnOf m q (defArgs st) (defBody st) (defScope st) (.ref T) kV dc pm an cd ct),sl⟩) (h2:PySem.W.codeIn K cd q=true) (h3:PySem.W.keepIn K (.ref f)=true) (h5:K.lookup T=some oT) (h6:oT.data = .seq #[d] n):MdD K C ⟨m,q,i,st,ps,N,mu,t⟩ d:=⟨f,_,h0,h4,h3,⟨oc,od,T,kV,dc,pm,an,cd,ct,sl,oT,n,rfl,h1,h2,h5,h6⟩⟩
end
section
variable {P:Program} {w:World} {base h:Heap} {K:xFr} {mg:Str->Option Value} {cls:List (Str×Addr)} {kds:List (Addr×List (Str×U)×List Str)} {up:List (Str×Str)} {b:Tb} {rows:List Row} {r:Row} {mp:List Bool} {x C:Str} {cc a:Addr} {i:Int} {tk:Tok}
theorem dt (X:K.In h) (G:h.Ns mainGlobals mg) (d:DnR K r) (hr:r∈rows) (bd:BdC r):GlOk P w base (mkB K mg cls kds) up b rows (r.x,.fn r.i r.ps.length [] mp) :=
 let ⟨f,fd,h0,F⟩:=d
 ⟨r,f,fd,hr,rfl,rfl,PySem.W.mg_of X G h0,F.kp,Fun.fa F,dfl0 F bd⟩
theorem uB {i:Int} {tk:Tok} (X:K.In h) (G:h.Ns mainGlobals mg) (d:DnD K r (.int i tk)) (hr:r∈rows) (bd:BdD r):GlOk P w base (mkB K mg cls kds) up b rows (r.x,.fn r.i r.ps.length [.int i] mp) :=
 let ⟨f,fd,h0,kp,F⟩:=d
 ⟨r,f,fd,hr,rfl,rfl,PySem.W.mg_of X G h0,kp,F.fa,dfl1 (u:=.int i) (v:=.int i) F bd ⟨_,rfl⟩ fun _=>rfl⟩
structure CsR (K:xFr) (C:Addr) (n:Str):Prop where
 at_:PySem.W.nsIn K mainGlobals n=some (some (.ref C))
 cls:Cls K C
 mks:PySem.W.makesIn K C=true
 kp:PySem.W.keepIn K (.ref C)=true
 ha:PySem.W.findIn K (.ref C) "__class__"=some (some (.builtin "object.__class__"))
 hm:PySem.W.mroIn K C (.type "object")=some true
def IniR (K:xFr) (cc:Addr):Prop:=∃ mc,PySem.W.specialIn K (.ref cc) "__getattribute__"=some (some (.builtin "type.__getattribute__"))/\PySem.W.readsIn K cc mc=true/\∀ f,PySem.W.findIn K (.ref cc) "__init__"=some (some (.ref f))->PySem.W.findCls K (.ref cc) mc "__init__"=some (.val (.ref f))/\PySem.W.handedIn (.ref f)=true
theorem gr (X:K.In h) (G:h.Ns mainGlobals mg) (c:CsR K cc C) (d:MdR K cc r) (hx:r.x="__init__") (hr:r∈rows) (hc:(C,cc)∈cls) (bd:BdC r) (hk:C∈b.isc->kitCB K up C cc cls=true) (hi:C∈b.ini->IniR K cc):GlOk P w base (mkB K mg cls kds) up b rows (C,.cl r.i r.ps.length []):=by
 obtain ⟨f,fd,h0,h1,kp,F⟩:=d;have h0':PySem.W.findIn K (.ref cc) "__init__"=some (some (.ref f)):=by rw [<- hx];exact h0
 refine ⟨r,cc,f,fd,hr,rfl,rfl,hc,PySem.W.mg_of X G c.at_,⟨c.mks,h0',h1,c.kp⟩,Fun.fa F,dfl0 F bd,fun z=>kitC (hk z),fun z=>?_⟩;obtain ⟨mc,e1,e2,e3⟩:=hi z;exact ⟨F.binds bd,mc,e1,e2,(e3 f h0').1,(e3 f h0').2,kp⟩
theorem uC (X:K.In h) (G:h.Ns mainGlobals mg) (c:CsR K cc C) (d:MdD K cc r (.int i tk)) (hx:r.x="__init__") (hr:r∈rows) (hc:(C,cc)∈cls) (bd:BdD r) (hk:C ∉ b.isc) (hi:C ∉ b.ini):GlOk P w base (mkB K mg cls kds) up b rows (C,.cl r.i r.ps.length [.int i]):=by
 obtain ⟨f,fd,h0,h1,kp,F⟩:=d;have h0':PySem.W.findIn K (.ref cc) "__init__"=some (some (.ref f)):=by rw [<- hx];exact h0
 exact ⟨r,cc,f,fd,hr,rfl,rfl,hc,PySem.W.mg_of X G c.at_,⟨c.mks,h0',h1,c.kp⟩,F.fa,dfl1 (u:=.int i) (v:=.int i) F bd ⟨_,rfl⟩ (fun _=>rfl),fun z=>absurd z hk,fun z=>absurd z hi⟩
theorem uniq:∀ {cls:List (Str×Addr)} {C:Str} {c c':Addr},nodupS (cls.map (·.1))=true->(C,c)∈cls->(C,c')∈cls->c'=c:=fun {cls C c c'} nd h1 h2=>by
 have nd:=eB nd;clear ‹nodupS _=true›;induction cls with
 | nil=>cases h1
 | cons p r ih =>
  rw [xBs,xCb] at nd;rcases xAv.mp h1 with e1 | h1 <;> rcases xAv.mp h2 with e2 | h2
  ·rw [<- e1] at e2;cases e2;rfl
  ·exact absurd (xA2.mpr ⟨_,h2,by rw [<- e1]⟩) nd.1
  ·exact absurd (xA2.mpr ⟨_,h1,by rw [<- e2]⟩) nd.1
  ·exact ih h1 h2 nd.2
theorem eQ (nd:nodupS (cls.map (·.1))=true) (c:CsR K cc C) (d:MdR K cc r) (hr:r∈rows) (hc:(C,cc)∈cls) (bd:BdC r):MsOk (mkB K mg cls kds) rows (r.x,C,r.i,r.ps.length) :=
 let ⟨f,fd,h0,h1,kp,F⟩:=d
 ⟨r,cc,f,fd,hr,rfl,rfl,fun c' h=>uniq nd hc h,c.cls,⟨h0,h1,kp⟩,Fun.fa F,F.binds bd⟩
theorem gq (X:K.In h) (G:h.Ns mainGlobals mg) (e:PySem.W.nsIn K mainGlobals x=some (some (.int i tk))):GlOk P w base (mkB K mg cls kds) up b rows (x,.con (.int i)):=⟨.int i,_,PySem.W.mg_of X G e,⟨_,rfl⟩,fun _=>rfl⟩
theorem uA {z:Str} (X:K.In h) (G:h.Ns mainGlobals mg) (e:PySem.W.nsIn K mainGlobals x=some (some (.str z tk))):GlOk P w base (mkB K mg cls kds) up b rows (x,.con (.str z)):=⟨.str z,_,PySem.W.mg_of X G e,⟨_,rfl⟩,fun _=>rfl⟩
theorem fS {B:Bs} {W:Wd} {β:Type} {f:β->U} {g:β->V} (h:∀ x,Rv B W (f x) (g x)):∀ (l:List β),Rvs B W (l.map f) (l.map g)
 | []=>rfl
 | x::l=>⟨g x,l.map g,rfl,h x,fS h l⟩
theorem uj {B:Bs} {l:List Str} (h:∀ H,SqT B.K H a (l.map .str)) (W:Wd):Rv B W (.kt (l.map .str)) (.ref a):=⟨a,_,rfl,h,fS (f:=U.str) (g:=V.str) (fun _=>rfl) l⟩
theorem uk {B:Bs} {l:List Int} (h:∀ H,SqT B.K H a (l.map .int)) (W:Wd):Rv B W (.kt (l.map .int)) (.ref a):=⟨a,_,rfl,h,fS (f:=U.int) (g:=V.int) (fun _=>rfl) l⟩
theorem kR {u:U} (X:K.In h) (G:h.Ns mainGlobals mg) (e:PySem.W.nsIn K mainGlobals x=some (some (.ref a))) (r:∀ W,Rv (mkB K mg cls kds) W u (.ref a)):GlOk P w base (mkB K mg cls kds) up b rows (x,.con u):=⟨.ref a,_,PySem.W.mg_of X G e,rfl,r⟩
theorem oG {kvs:List (Str×U)} {no:List Str} (X:K.In h) (G:h.Ns mainGlobals mg) (e:PySem.W.nsIn K mainGlobals x=some (some (.ref a))) (hd:(a,kvs,no)∈kds):GlOk P w base (mkB K mg cls kds) up b rows (x,.con (.kd kvs no)):=⟨.ref a,_,PySem.W.mg_of X G e,rfl,fun _=>⟨a,rfl,hd⟩⟩
structure KdOk (w:World) (B:Bs) (q:Addr×List (Str×U)×List Str):Prop where
 d:KD w B.K q.1
 y:∀ e∈q.2.1,∃ u val,PySem.W.nsIn B.K q.1 e.1=some (some val)/\RelV u val/\∀ W,Rv B W e.2 u
 n:nsB B.K q.1 q.2.2=true
theorem kdF (hq:∀ q∈kds,KdOk w (mkB K mg cls kds) q):KdF w (mkB K mg cls kds) :=
 ⟨fun {p kvs no} hd=>(hq _ hd).d,fun {p kvs no x v} hd hy=>(hq _ hd).y _ (eW hy),fun {p kvs no x} hd hx=>io (List.all_eq_true.mp (hq _ hd).n x hx)⟩
theorem clT (h1:∀ p∈cls,Cls K p.2/\PySem.W.findIn K (.ref p.2) "__class__"=some (some (.builtin "object.__class__"))/\PySem.W.mroIn K p.2 (.type "object")=some true) (hn:PySem.W.specialIn K (.builtin "object.__class__") "__get__"=some (some (.builtin "getset_descriptor.__get__"))) (htk:PySem.W.takesIn K (.builtin "object.__class__")=some true):ClT (mkB K mg cls kds) :=
 ⟨fun {C c H a dx fs} hc e=>let ⟨c1,c2,c3⟩:=h1 (C,c) hc;.ins e c1 c2 hn htk c3⟩
noncomputable def spLaw (K:xFr) (n:Nat):Sp:=fun vs H Q _=>∃ (a:Addr) (ns:List Int),vs=[.ref a]/\ns.length<=n/\SqL K H a (ns.map V.int)/\∀ H',Q (.bl true) H'
theorem uh {B:Bs} {G:Gx Prop} {i n:Nat} (g:MonG up G) (math:∀ ns:List Int,ns.length<=n->G.call i [.kl (ns.map U.int)] [] (fun _ _=>False) (fun v _=>v = .bl true)):∀ vs H Q E,spLaw B.K n vs H Q E->spF B G i 1 vs H Q E:=fun vs H Q E zz=>by
 obtain ⟨a,ns,e,hl,hs,q⟩:=zz;subst e;refine ⟨rfl,⟨H,[],[]⟩,[.kl (ns.map U.int)],[],⟨fun _ _ h=>h,rfl,fun _ _ _ h=>(by cases h),fun _ _ h=>(by cases h),fun _ h=>(by cases h)⟩,⟨.ref a,[],rfl,⟨a,ns.map V.int,rfl,hs,fS (f:=U.int) (g:=V.int) (fun _=>rfl) ns⟩,rfl⟩,?_⟩;refine g.call (fun _ _ z=>z.elim) (fun v S z=>?_) (math ns hl);subst z;exact fun W' u H' le rs rv=>by rw [show u = .bl true from rv];exact q H'
end
end Fx
namespace Fx
open PySem PySem.Spec L2
open PyProof.Rows hiding St
theorem bdD3 {r:Row} {a b c:Str} (hp:r.ps=[a,b,c])
  (h3:∀ (d:Value) (T:Addr) (kV doc pm:Value) (an:Option Addr) (cdv ct x y z:Value),∃ k,bindArgs (PySem.W.fnOf r.x r.qual (defArgs r.st) (defBody r.st) (defScope r.st) (.ref T) kV doc pm an cdv ct) ⟨[x,y,z],[]⟩=(seqItems? (.ref T) >>= k)/\k (some #[d])=pure ([a,b,c].zip [x,y,z]))
  (h2:∀ (d:Value) (T:Addr) (kV doc pm:Value) (an:Option Addr) (cdv ct x y:Value),∃ k,bindArgs (PySem.W.fnOf r.x r.qual (defArgs r.st) (defBody r.st) (defScope r.st) (.ref T) kV doc pm an cdv ct) ⟨[x,y],[]⟩=(seqItems? (.ref T) >>= k)/\k (some #[d])=pure ([a,b,c].zip [x,y,d])):BdD r:=by
 intro d T kV doc pm an cdv ct us es hl he;rw [hp] at hl ⊢;rcases he with rfl | rfl
 ·obtain ⟨x,y,z,rfl⟩:=len3 (show us.length=3 by simpa using hl);exact h3 d T kV doc pm an cdv ct x y z
 ·obtain ⟨x,y,rfl⟩:=len2 (show us.length=2 by simpa using hl);exact h2 d T kV doc pm an cdv ct x y
end Fx
namespace Fx
open PySem L2
section
variable {up:List (Str×Str)} {tab:Nat->Option De} {fw d:Nat} {p:Pm} {vs:List U} {S S':So} {x:Kx Prop} {k:Kv Prop} {v:U} {a b:Unit->Prop}
theorem pm (e:pr up p vs S = .ok v S') (h:k v S'):(callG up tab fw d).prim p vs S x k:=by
 rw [(monG (up:=up) (tab:=tab) (fw:=fw) d).prim];exact ⟨by unfold prP;rw [e];exact h⟩
theorem brT (h:a ()):(callG up tab fw d).br true a b:=by
 rw [(monG (up:=up) (tab:=tab) (fw:=fw) d).br];exact ⟨by rw [xCg rfl];exact h⟩
theorem brF (h:b ()):(callG up tab fw d).br false a b:=by
 rw [(monG (up:=up) (tab:=tab) (fw:=fw) d).br];exact ⟨by rw [xCf (by decide)];exact h⟩
theorem p7 {xs:List U} {j:Nat} (h:xs[j]?=some v):pr up .ix [.kl xs,.int j] S = .ok v S:=by
 show opt (atI xs (j:Int)) S=_;rw [eh h];rfl
theorem nD {xs:List U}:pr up .len [.kl xs] S = .ok (.int xs.length) S:=rfl
end
end Fx
namespace Fx
open PySem L2
section
variable {up:List (Str×Str)} {S S':So} {p q:Nat} {o o':Ob} {C f m:Str} {fs fs':List (Str×U)} {v u:U} {xs ys:List U}
theorem atLt {α:Type}:∀ {l:List α} {p:Nat} {o:α},at? l p=some o->p<l.length
 | _::_,0,_,_=>by simp
 | _::l,p+1,_,h=>by have:=atLt (l:=l) h;simp;lia
theorem atSet {α:Type}:∀ {l:List α} {p:Nat} {o o':α},at? l p=some o->at? (set l p o') p=some o'
 | _::_,0,_,_,_=>rfl
 | _::l,p+1,_,_,h=>atSet (l:=l) h
theorem atNe {α:Type}:∀ {l:List α} {p q:Nat} {o:α},p≠q->at? (set l p o) q=at? l q
 | [],_,_,_,_=>rfl
 | _::_,0,0,_,h=>absurd rfl h
 | _::_,0,_+1,_,_=>rfl
 | _::_,_+1,0,_,_=>rfl
 | _::l,p+1,q+1,_,h=>atNe (l:=l) (by lia)
theorem lenSet {α:Type}:∀ {l:List α} {p:Nat} {o:α},(set l p o).length=l.length
 | [],_,_=>rfl
 | _::_,0,_=>rfl
 | _::l,p+1,_=>congrArg (·+1) (lenSet (l:=l))
theorem atApp {α:Type}:∀ {l t:List α} {p:Nat} {o:α},at? l p=some o->at? (l++t) p=some o
 | _::_,_,0,_,h=>h
 | _::l,_,p+1,_,h=>atApp (l:=l) h
theorem atNew {α:Type}:∀ {l:List α} {o:α},at? (l++[o]) l.length=some o
 | [],_=>rfl
 | _::l,_=>atNew (l:=l)
theorem setSet {α:Type}:∀ {l:List α} {p:Nat} {o o':α},set (set l p o) p o'=set l p o'
 | [],_,_,_=>rfl
 | _::_,0,_,_=>rfl
 | x::l,p+1,_,_=>congrArg (x::·) (setSet (l:=l))
theorem f9 (h:at? S p=some (.ins C fs)) (e:getF f fs=some v):pr up (.fld f) [.ref p] S = .ok v S:=by
 show insU p S _=_;unfold insU;rw [h];show opt (getF f fs) S=_;rw [e];rfl
theorem dU (h:at? S p=some (.ins C fs)) (e:putF f v fs=fs') (hl:Nat.ble fs.length 900=true):pr up (.setf f) [.ref p,v] S = .ok .non (set S p (.ins C fs')):=by
 show insU p S _=_;unfold insU;rw [h];dsimp only;rw [hl,e]
theorem fitsO {n:Nat} {r:Res} (h:n<=sizeLine):fits n r=r:=by
 unfold fits;rw [Nat.ble_eq_true_of_le h]
theorem dA (h:at? S p=some (.lst xs)) (hl:xs.length+1<=sizeLine):pr up .app [.ref p,v] S = .ok .non (set S p (.lst (xs++[v]))):=by
 show lstU p S _=_;unfold lstU;rw [h];exact fitsO hl
theorem nC (h:at? S p=some (.lst (xs++[v]))):pr up .pop [.ref p] S = .ok v (set S p (.lst xs)):=by
 show lstU p S _=_;unfold lstU;rw [h];dsimp only;rw [List.getLast?_concat,List.dropLast_concat]
theorem dH (h:at? S p=some (.lst xs)):pr up (.typ "list") [.ref p] S = .ok (.ref p) S:=by
 delta pr;dsimp only [tyU];rw [h];rfl
theorem ga (h:at? S p=some (.ins C fs)) (e:getF m fs=none):pr up (.cls C m) [.ref p] S = .ok (.ref p) S:=by
 show insU p S _=_;unfold insU;rw [h];dsimp only;rw [xBd rfl,e]
theorem fV (h:at? S p=some (.lst xs)):pr up .len [.ref p] S = .ok (.int xs.length) S:=by
 show lenU (.ref p) S=_;unfold lenU;dsimp only;rw [h]
theorem kz {kvs:List (Key×U)} (h:at? S p=some (.dct kvs)):pr up .len [.ref p] S = .ok (.int kvs.length) S:=by
 show lenU (.ref p) S=_;unfold lenU;dsimp only;rw [h]
theorem jB (h:at? S p=some (.lst xs)):pr up .tru [.ref p] S = .ok (.bl (!xs.isEmpty)) S:=by
 show obB (truU S (.ref p)) id S=_;unfold truU;dsimp only;rw [h];rfl
theorem sIx0 {n:Nat}:HT.sIx n 0 none=0:=rfl
theorem tq (h:at? S p=some (.lst (xs++ys))):pr up (.sl false true false) [.ref p,.int xs.length] S = .ok (.lst ys) S:=by
 show slice false (.ref p) (some (xs.length:Int)) none S=_;unfold slice;dsimp only [lsU];rw [h];show Res.ok (.lst (cutU (xs++ys) (some (xs.length:Int)) none)) S=_;congr 2;unfold cutU;have e1:HT.sIx (xs++ys).length 0 (some (xs.length:Int))=xs.length:=by
  rw [HT.sIx_nat,xAb];lia
 have e2:HT.sIx (xs++ys).length (xs++ys).length none=(xs++ys).length:=by
  exact HT.sIx_none _ _
 rw [e1,e2];simp
theorem tu (h:at? S p=some (.lst (xs++ys))):pr up (.sl true false true) [.ref p,.int xs.length] S = .ok (.ref S.length) (S++[.lst xs]):=by
 show slice true (.ref p) none (some (xs.length:Int)) S=_;unfold slice;dsimp only [lsU];rw [h];show Res.ok (.ref S.length) (S++[.lst (cutU (xs++ys) none (some (xs.length:Int)))])=_;congr 4;unfold cutU;have e1:HT.sIx (xs++ys).length (xs++ys).length (some (xs.length:Int))=xs.length:=by
  rw [HT.sIx_nat,xAb];lia
 rw [e1,sIx0];simp
theorem iW {kvs:List (Key×U)} (h:at? S p=some (.dct kvs)):pr up .dctOf [.ref p] S = .ok (.ref S.length) (S++[.dct kvs]):=by
 delta pr;dsimp only;rw [h]
theorem eG {kvs:List (Key×U)} {x:Str} (h:at? S p=some (.dct kvs)) (hl:kvs.length+1<=sizeLine):pr up .seti [.ref p,.str x,v] S = .ok .non (set S p (.dct (putK (.inr x) v kvs))):=by
 show setiU p (.str x) v S=_;unfold setiU;rw [h];exact fitsO hl
theorem dQ {kvs:List (Key×U)} {x:Str} (h:at? S p=some (.dct kvs)) (e:getK (.inr x) kvs=some v):pr up .ix [.ref p,.str x] S = .ok v S:=by
 show ixU (.ref p) (.str x) S=_;unfold ixU;dsimp only;rw [h];show opt (getK (.inr x) kvs) S=_;rw [e];rfl
theorem iV (h:at? S p=some (.lst xs)):pr up (.lstOf false) [.ref p] S = .ok (.lst xs) S:=by
 delta pr;dsimp only [sqU,lsU];rw [h];rfl
end
end Fx
namespace Fx
open PySem L2
section
variable {up:List (Str×Str)} {S T:So} {o o':Ob} {C f:Str} {fs fs':List (Str×U)} {v:U}
theorem setMid {α:Type}:∀ {l t:List α} {o o':α},set (l++o::t) l.length o'=l++o'::t
 | [],_,_,_=>rfl
 | x::l,_,_,_=>congrArg (x::·) (setMid (l:=l))
theorem atMid {α:Type}:∀ {l t:List α} {o:α},at? (l++o::t) l.length=some o
 | [],_,_=>rfl
 | _::l,_,_=>atMid (l:=l)
theorem atMid1 {α:Type}:∀ {l t:List α} {o o2:α},at? (l++o::o2::t) (l.length+1)=some o2
 | [],_,_,_=>rfl
 | _::l,_,_,_=>atMid1 (l:=l)
theorem dI (e:putF f v fs=fs') (hl:Nat.ble fs.length 900=true):pr up (.setf f) [.ref S.length,v] (S++.ins C fs::T) = .ok .non (S++.ins C fs'::T):=by
 rw [dU atMid e hl,setMid]
theorem je {k:Key}:∀ {kvs:List (Key×U)},getK k (putK k v kvs)=some v:=by
 intro kvs;unfold putK;split
 ·next h =>
  induction kvs with
  | nil=>cases h
  | cons a r ih =>
   obtain ⟨g,u⟩:=a;by_cases hg:g=k
   ·subst hg;simp [getK]
   ·have:(r.any fun kv=>decide (kv.1=k))=true:=by simpa [hg] using h
    simpa [getK,hg] using ih this
 ·next h =>
  induction kvs with
  | nil=>simp [getK]
  | cons a r ih =>
   obtain ⟨g,u⟩:=a;have hg:g≠k:=fun e=>h (by simp [e]);have:¬ (r.any fun kv=>decide (kv.1=k))=true:=fun e=>h (by simp only [List.any_cons,Bool.or_eq_true];exact .inr e);simpa [getK,hg] using ih this
theorem kT {k k':Key} (hk:k'≠k):∀ {kvs:List (Key×U)},getK k' (putK k v kvs)=getK k' kvs:=by
 intro kvs;unfold putK;split
 ·next h =>
  clear h;induction kvs with
  | nil=>rfl
  | cons a r ih =>
   obtain ⟨g,u⟩:=a;by_cases hg:g=k
   ·subst hg;simp only [xBs,if_true,getK,xCf (Ne.symm hk)];exact ih
   ·simp only [xBs,xCf hg,getK];rw [ih]
 ·next h =>
  clear h;induction kvs with
  | nil=>simp [getK,Ne.symm hk]
  | cons a r ih =>
   obtain ⟨g,u⟩:=a;simp only [List.cons_append,getK];rw [ih]
theorem nw {k:Key} {kvs:List (Key×U)}:(putK k v kvs).length<=kvs.length+1:=by
 unfold putK;split <;> simp
end
end Fx
namespace K15
open PySem L2 Fx
noncomputable def top (i:Nat):Stmt:=PySem.Challenge.pw_spacewright_k15_cells_of_names.main.body.getD i (.Pass ⟨0,0,0,0⟩)
noncomputable def dz:List (Str×U):=[("number",(.kt [(.str "number")])),("name",(.kt [(.str "used")])),("fn",(.kt [(.str "names"),(.str "part")])),("call",(.kt [(.str "part"),(.str "parts")])),("let",(.kt [(.str "name"),(.str "part"),(.str "part")])),("set",(.kt [(.str "used"),(.str "part")])),("do",(.kt [(.str "part"),(.str "part")])),("if",(.kt [(.str "part"),(.str "part"),(.str "part")])),("math",(.kt [(.str "op"),(.str "part"),(.str "part")])),("make",(.kt [(.str "word"),(.str "parts")])),("match",(.kt [(.str "part"),(.str "word"),(.str "names"),(.str "part"),(.str "part")])),("raise",(.kt [(.str "word"),(.str "part")])),("try",(.kt [(.str "part"),(.str "word"),(.str "name"),(.str "part")])),("tell",(.kt [(.str "part")])),("ask",(.kt []))]
noncomputable def dC:List Str:=[]
noncomputable def gN:U:=.kd dz dC
noncomputable def eN:List (Str×U):=[("fn",(.kt [(.int (2)),(.int (3))])),("let",(.kt [(.int (2)),(.int (4))])),("match",(.kt [(.int (4)),(.int (5))])),("try",(.kt [(.int (4)),(.int (5))]))]
noncomputable def en:List Str:=["number","name","call","set","do","if","math","make","raise","tell","ask"]
noncomputable def oz:U:=.kd eN en
noncomputable def dJ:List (Str×U):=[("let",(.gl "finish_let")),("do",(.gl "finish_do")),("try",(.gl "finish_try")),("fn",(.gl "finish_fn")),("call",(.gl "finish_call")),("set",(.gl "finish_set")),("if",(.gl "finish_if")),("math",(.gl "finish_math")),("make",(.gl "finish_make")),("match",(.gl "finish_match")),("raise",(.gl "finish_raise")),("tell",(.gl "finish_tell")),("ask",(.gl "finish_ask"))]
noncomputable def ef:List Str:=[]
noncomputable def jM:U:=.kd dJ ef
noncomputable def gls:List (Str×Gd):=[((Str.ofString "Block"),.cl 1 3 []),((Str.ofString "Function"),.cl 2 2 []),((Str.ofString "is_number"),.fn 3 1 [] [false]),((Str.ofString "shown_of"),.fn 4 1 [] [false]),((Str.ofString "shown_within"),.fn 5 1 [] [false]),((Str.ofString "math_of"),.fn 6 3 [] [false,false,false]),((Str.ofString "reckoned"),.fn 7 3 [] [false,false,false]),((Str.ofString "call_fault"),.fn 9 2 [] [false,false]),((Str.ofString "form_of"),.fn 10 1 [] [false]),((Str.ofString "told_anew"),.fn 11 2 [] [false,false]),((Str.ofString "parts_ahead"),.fn 12 1 [] [false]),((Str.ofString "is_word"),.fn 13 1 [] [false]),((Str.ofString "is_name"),.fn 14 1 [] [false]),((Str.ofString "is_place"),.fn 15 1 [] [false]),((Str.ofString "is_written_number"),.fn 16 1 [] [false]),((Str.ofString "plain"),.fn 17 1 [] [false]),((Str.ofString "Checker"),.cl 18 1 []),((Str.ofString "checked_row"),.fn 22 1 [] [false]),((Str.ofString "checked_names"),.fn 23 1 [] [false]),((Str.ofString "fits"),.fn 24 3 [] [false,false,false]),((Str.ofString "checked_program"),.fn 25 1 [] [false]),((Str.ofString "World"),.cl 26 3 [(.int (1000))]),((Str.ofString "run_of"),.fn 34 1 [] [false]),((Str.ofString "Cell"),.cl 35 2 []),((Str.ofString "SourceFunction"),.cl 36 3 []),((Str.ofString "Job"),.cl 37 4 []),((Str.ofString "scope_with"),.fn 38 3 [] [false,false,false]),((Str.ofString "first_parts"),.fn 39 1 [] [false]),((Str.ofString "finish_let"),.fn 40 3 [] [false,false,false]),((Str.ofString "finish_do"),.fn 41 3 [] [false,false,false]),((Str.ofString "finish_fn"),.fn 43 3 [] [false,false,false]),((Str.ofString "finish_call"),.fn 44 3 [] [false,false,false]),((Str.ofString "finish_set"),.fn 45 3 [] [false,false,false]),((Str.ofString "finish_math"),.fn 47 3 [] [false,false,false]),((Str.ofString "finish_tell"),.fn 51 3 [] [false,false,false]),((Str.ofString "SourceRun"),.cl 53 3 []),((Str.ofString "run_source"),.fn 60 3 [(.int (1000))] [false,false,false]),((Str.ofString "_law_cell"),.fn 61 2 [] [false,false]),((Str.ofString "_law_names"),.fn 62 1 [] [false]),((Str.ofString "_law_place"),.fn 63 1 [] [true]),((Str.ofString "_law_number"),.fn 64 2 [] [false,false]),((Str.ofString "_law_add"),.fn 65 3 [] [false,false,false]),((Str.ofString "_law_of_scope"),.fn 66 4 [] [false,false,false,false]),((Str.ofString "_law_of_param"),.fn 67 3 [] [false,false,false]),((Str.ofString "_law_bound"),.fn 68 5 [] [false,true,false,false,false]),((Str.ofString "_law_called"),.fn 69 4 [] [true,false,false,false]),((Str.ofString "_law_use"),.fn 70 5 [] [false,false,false,false,false]),((Str.ofString "_law_row"),.fn 71 4 [] [false,false,false,false]),((Str.ofString "law"),.fn 72 1 [] [false]),((Str.ofString "MOST_PARTS"),.con (.int (300))),((Str.ofString "MOST_WITHIN"),.con (.int (20))),((Str.ofString "MOST_IN_ROW"),.con (.int (4))),((Str.ofString "LAST_PLACE"),.con (.int (599))),((Str.ofString "LETTERS"),.con (.str (Str.ofString "abcdefghijklmnopqrstuvwxyz"))),((Str.ofString "OPS"),.con (.kt [(.str (Str.ofString "add")),(.str (Str.ofString "sub")),(.str (Str.ofString "mul")),(.str (Str.ofString "less")),(.str (Str.ofString "same"))])),((Str.ofString "HEADS"),.con (.kt [(.str (Str.ofString "fn")),(.str (Str.ofString "call")),(.str (Str.ofString "let")),(.str (Str.ofString "set")),(.str (Str.ofString "do")),(.str (Str.ofString "if")),(.str (Str.ofString "add")),(.str (Str.ofString "sub")),(.str (Str.ofString "mul")),(.str (Str.ofString "less")),(.str (Str.ofString "same")),(.str (Str.ofString "make")),(.str (Str.ofString "match")),(.str (Str.ofString "raise")),(.str (Str.ofString "try")),(.str (Str.ofString "tell")),(.str (Str.ofString "ask"))])),((Str.ofString "FORMS"),.con gN),((Str.ofString "SCOPES"),.con oz),((Str.ofString "MOST_CALLS"),.con (.int (50))),((Str.ofString "NO_DEEDS"),.con (.kt [(.str (Str.ofString "let")),(.str (Str.ofString "do")),(.str (Str.ofString "try"))])),((Str.ofString "LEAVE"),.con (.kt [(.str (Str.ofString "leave"))])),((Str.ofString "FINISHES"),.con jM)]
noncomputable def mss:List (Str×Str×Nat×Nat):=[("check_part","Checker",19,4),("check_place","Checker",20,2),("check_thing","Checker",21,5),("note","World",27,2),("say","World",29,2),("enter","World",30,2),("leave","World",31,1),("result","World",33,2),("last_value","SourceRun",54,1),("add_job","SourceRun",55,4),("begin","SourceRun",56,2),("finish","SourceRun",57,2)]
noncomputable def fls:List Str:=["tag","fields","place","params","body","scope","inside","part","last","height","calls","places","inputs","taken","most","log","deeds","deepest","world","jobs","pile"]
noncomputable def bls:List Str:=["len","isinstance","abs","int","tuple","list","dict","all","sorted","any","max","min","range","zip","reversed","set","str","bool"]
noncomputable def ups:List (Str×Str):=[("SpaceError","ValueError"),("NoPart","SpaceError"),("Ended","SpaceError"),("SourceFunction","Function")]
noncomputable def tb:Tb:=⟨gls,mss,fls,bls,["Function"],["Block","Function"]⟩
noncomputable def t1:TSx Prop:=(sQ (sP (.setf "tag") (cV 1) (aC (cV 0) aN)) (sQ (sP (.setf "fields") (cP .tupOf (aC (cV 2) aN)) (aC (cV 0) aN)) sN))
noncomputable def r1:Fx.Row:=⟨"__init__","Block.__init__",1,inClass (top 5) 0,["self","tag","fields"],["self","tag","fields"],[],t1⟩
noncomputable def t2:TSx Prop:=(sQ (sP (.setf "place") (cV 1) (aC (cV 0) aN)) sN)
noncomputable def r2:Fx.Row:=⟨"__init__","Function.__init__",2,inClass (top 6) 0,["self","place"],["self","place"],[],t2⟩
noncomputable def t3:TSx Prop:=(sQ (sR (cB (tAn (tB (cP (.isT "int") (aC (cV 0) aN))) (tNt (tB (cP (.isT "bool") (aC (cV 0) aN))))))) sN)
noncomputable def r3:Fx.Row:=⟨"is_number","is_number",3,top 7,["thing"],["thing"],[],t3⟩
noncomputable def t4:TSx Prop:=(sQ (sI (tB (cP (.isC "Block") (aC (cV 0) aN))) (sQ (sR (cT (aC (cC (.str "block")) (aC (cP (.fld "tag") (aC (cV 0) aN)) (aC (cP .tupOf (aC (cL (cP .seq (aC (cP (.fld "fields") (aC (cV 0) aN)) aN)) [1] true 2 [] none (cF 5 (aC (cV 1) aN) [])) aN)) aN))))) sN) sN) (sQ (sR (cF 5 (aC (cV 0) aN) [])) sN))
noncomputable def r4:Fx.Row:=⟨"shown_of","shown_of",4,top 8,["value"],["value"],[],t4⟩
noncomputable def t5:TSx Prop:=(sQ (sI (tB (cP (.isC "Block") (aC (cV 0) aN))) (sQ (sR (cT (aC (cC (.str "block")) (aC (cP (.fld "tag") (aC (cV 0) aN)) aN)))) sN) sN) (sQ (sI (tB (cP (.isC "Function") (aC (cV 0) aN))) (sQ (sR (cT (aC (cC (.str "fn")) (aC (cP (.fld "place") (aC (cV 0) aN)) aN)))) sN) sN) (sQ (sR (cV 0)) sN)))
noncomputable def r5:Fx.Row:=⟨"shown_within","shown_within",5,top 9,["value"],["value"],[],t5⟩
noncomputable def t6:TSx Prop:=(sQ (sI (tNt (tAn (tB (cF 3 (aC (cV 1) aN) [])) (tB (cF 3 (aC (cV 2) aN) [])))) (sQ (sR (cT (aC (cC (.str "kind")) (aC (cC (.int (0))) aN)))) sN) sN) (sQ (sA 3 (cF 7 (aC (cV 0) (aC (cV 1) (aC (cV 2) aN))) [])) (sQ (sI (tB (cP .ge (lst2 (cP .abs (aC (cV 3) aN)) (cP .pow (lst2 (cC (.int (10))) (cC (.int (40)))))))) (sQ (sR (cT (aC (cC (.str "big")) (aC (cC (.int (0))) aN)))) sN) sN) (sQ (sR (cT (aC (cC .non) (aC (cV 3) aN)))) sN))))
noncomputable def r6:Fx.Row:=⟨"math_of","math_of",6,top 10,["op","one","other"],["op","one","other","number"],[],t6⟩
noncomputable def t7:TSx Prop:=(sQ (sI (tB (cP .eq (lst2 (cV 0) (cC (.str "add"))))) (sQ (sR (cP (.add false) (lst2 (cV 1) (cV 2)))) sN) sN) (sQ (sI (tB (cP .eq (lst2 (cV 0) (cC (.str "sub"))))) (sQ (sR (cP .sub (lst2 (cV 1) (cV 2)))) sN) sN) (sQ (sI (tB (cP .eq (lst2 (cV 0) (cC (.str "mul"))))) (sQ (sR (cP .mul (lst2 (cV 1) (cV 2)))) sN) sN) (sQ (sI (tB (cP .eq (lst2 (cV 0) (cC (.str "less"))))) (sQ (sR (cIf (tB (cP .lt (lst2 (cV 1) (cV 2)))) (cC (.int (1))) (cC (.int (0))))) sN) sN) (sQ (sR (cIf (tB (cP .eq (lst2 (cV 1) (cV 2)))) (cC (.int (1))) (cC (.int (0))))) sN)))))
noncomputable def r7:Fx.Row:=⟨"reckoned","reckoned",7,top 11,["op","one","other"],["op","one","other"],[],t7⟩
noncomputable def t9:TSx Prop:=(sQ (sI (tNt (tB (cP (.isC "Function") (aC (cV 0) aN)))) (sQ (sR (cC (.str "kind"))) sN) sN) (sQ (sR (cIf (tB (cP .eq (lst2 (cP .len (aC (cP (.fld "params") (aC (cV 0) aN)) aN)) (cV 1)))) (cC .non) (cC (.str "odd")))) sN))
noncomputable def r9:Fx.Row:=⟨"call_fault","call_fault",9,top 13,["value","many"],["value","many"],[],t9⟩
noncomputable def t10:TSx Prop:=(sQ (sR (cIf (tB (cP (.isT "str") (aC (cV 0) aN))) (cP .get1 (aC (cC gN) (aC (cV 0) aN))) (cC .non))) sN)
noncomputable def r10:Fx.Row:=⟨"form_of","form_of",10,top 24,["kind"],["kind"],[],t10⟩
noncomputable def t11:TSx Prop:=(sQ (sU [2,3] (cP .get2 (aC (cC oz) (lst2 (cP .ix (lst2 (cV 0) (cC (.int (0))))) (cT (aC (cC .non) (aC (cC .non) aN))))))) (sQ (sI (tB (cP .ne (lst2 (cV 1) (cV 3)))) (sQ (sR (cT aN)) sN) sN) (sQ (sA 4 (cP .ix (lst2 (cV 0) (cV 2)))) (sQ (sR (cIf (tB (cP (.isT "tuple") (aC (cV 4) aN))) (cV 4) (cT (aC (cV 4) aN)))) sN))))
noncomputable def r11:Fx.Row:=⟨"told_anew","told_anew",11,top 25,["part","index"],["part","index","names_at","scope_at","names"],[],t11⟩
noncomputable def t12:TSx Prop:=(sQ (sA 1 (cP .ix (lst2 (cV 0) (cC (.int (0)))))) (sQ (sI (tB (cP .eq (lst2 (cV 1) (cC (.str "call"))))) (sQ (sR (cP (.add false) (lst2 (cT (aC (cP .ix (lst2 (cV 0) (cC (.int (2))))) aN)) (cP .ix (lst2 (cV 0) (cC (.int (3)))))))) sN) sN) (sQ (sI (tB (cP .eq (lst2 (cV 1) (cC (.str "math"))))) (sQ (sR (cP (.sl false true false) (lst2 (cV 0) (cC (.int (3)))))) sN) sN) (sQ (sI (tB (cP .eq (lst2 (cV 1) (cC (.str "make"))))) (sQ (sR (cP .ix (lst2 (cV 0) (cC (.int (3)))))) sN) sN) (sQ (sI (tB (cP .inn (lst2 (cV 1) (cT (aC (cC (.str "set")) (aC (cC (.str "raise")) aN)))))) (sQ (sR (cT (aC (cP .ix (lst2 (cV 0) (cC (.int (3))))) aN))) sN) sN) (sQ (sI (tB (cP .inn (lst2 (cV 1) (cT (aC (cC (.str "if")) (aC (cC (.str "match")) (aC (cC (.str "tell")) aN))))))) (sQ (sR (cT (aC (cP .ix (lst2 (cV 0) (cC (.int (2))))) aN))) sN) sN) (sQ (sR (cT aN)) sN)))))))
noncomputable def r12:Fx.Row:=⟨"parts_ahead","parts_ahead",12,top 26,["part"],["part","kind"],[],t12⟩
noncomputable def t13:TSx Prop:=(sQ (sI (tOr' (tNt (tB (cP (.isT "str") (aC (cV 0) aN)))) (tNt (tCh .le .le (cC (.int (1))) (cP .len (aC (cV 0) aN)) (cC (.int (8)))))) (sQ (sR (cC (.bl false))) sN) sN) (sQ (sR (cP .all (aC (cL (cP .seq (aC (cV 0) aN)) [1] true 2 [] none (cB (tB (cP .inn (lst2 (cV 1) (cC (.str "abcdefghijklmnopqrstuvwxyz"))))))) aN))) sN))
noncomputable def r13:Fx.Row:=⟨"is_word","is_word",13,top 27,["thing"],["thing"],[],t13⟩
noncomputable def t14:TSx Prop:=(sQ (sR (cB (tAn (tB (cF 13 (aC (cV 0) aN) [])) (tB (cP .nin (lst2 (cV 0) (cC (.kt [(.str "fn"),(.str "call"),(.str "let"),(.str "set"),(.str "do"),(.str "if"),(.str "add"),(.str "sub"),(.str "mul"),(.str "less"),(.str "same"),(.str "make"),(.str "match"),(.str "raise"),(.str "try"),(.str "tell"),(.str "ask")])))))))) sN)
noncomputable def r14:Fx.Row:=⟨"is_name","is_name",14,top 28,["thing"],["thing"],[],t14⟩
noncomputable def t15:TSx Prop:=(sQ (sR (cB (tAn (tB (cF 3 (aC (cV 0) aN) [])) (tCh .le .le (cC (.int (0))) (cV 0) (cC (.int (599))))))) sN)
noncomputable def r15:Fx.Row:=⟨"is_place","is_place",15,top 29,["thing"],["thing"],[],t15⟩
noncomputable def t16:TSx Prop:=(sQ (sR (cB (tAn (tB (cF 3 (aC (cV 0) aN) [])) (tB (cP .lt (lst2 (cP .abs (aC (cV 0) aN)) (cP .pow (lst2 (cC (.int (10))) (cC (.int (12))))))))))) sN)
noncomputable def r16:Fx.Row:=⟨"is_written_number","is_written_number",16,top 30,["thing"],["thing"],[],t16⟩
noncomputable def t17:TSx Prop:=(sQ (sI (tB (cP (.isT "tuple") (aC (cV 0) aN))) (sQ (sR (cP (.add false) (lst2 (cT aN) (cV 0)))) sN) sN) (sQ (sI (tB (cP (.isT "str") (aC (cV 0) aN))) (sQ (sR (cBM "str" .join (cC (.str "")) (aC (cP (.lst false) (aC (cV 0) aN)) aN))) sN) sN) (sQ (sI (tB (cF 3 (aC (cV 0) aN) [])) (sQ (sR (cP .int1 (aC (cV 0) aN))) sN) sN) (sQ (sR (cV 0)) sN))))
noncomputable def r17:Fx.Row:=⟨"plain","plain",17,top 31,["thing"],["thing"],[],t17⟩
noncomputable def t18:TSx Prop:=(sQ (sP (.setf "places") (cP (.dct []) aN) (aC (cV 0) aN)) sN)
noncomputable def r18:Fx.Row:=⟨"__init__","Checker.__init__",18,inClass (top 32) 0,["self"],["self"],[],t18⟩
noncomputable def t19:TSx Prop:=(sQ (sA 4 (cF 17 (aC (cV 1) aN) [])) (sQ (sI (tOr' (tNt (tB (cP (.isT "tuple") (aC (cV 4) aN)))) (tB (cP .lt (lst2 (cP .len (aC (cV 4) aN)) (cC (.int (2))))))) (sQ sZ sN) sN) (sQ (sA 5 (cP (.lst true) (aC (cF 17 (aC (cP .ix (lst2 (cV 4) (cC (.int (0))))) aN) []) (aC (cF 17 (aC (cP .ix (lst2 (cV 4) (cC (.int (1))))) aN) []) aN)))) (sQ (sA 6 (cF 10 (aC (cP .ix (lst2 (cV 5) (cC (.int (0))))) aN) [])) (sQ (sI (tOr' (tB (cP .isN (aC (cV 6) aN))) (tB (cP .ne (lst2 (cP .len (aC (cV 4) aN)) (cP (.add false) (lst2 (cC (.int (2))) (cP .len (aC (cV 6) aN)))))))) (sQ sZ sN) sN) (sQ (sE (cM "Checker" "check_place" 20 (cV 0) (aC (cP .ix (lst2 (cV 5) (cC (.int (1))))) aN) [])) (sQ (sI (tB (cP .nin (lst2 (cP .ix (lst2 (cV 5) (cC (.int (0))))) (cT (aC (cC (.str "number")) (aC (cC (.str "name")) aN)))))) (sQ (sA 3 (cP (.add false) (lst2 (cV 3) (cC (.int (1)))))) sN) sN) (sQ (sI (tB (cP .gt (lst2 (cV 3) (cC (.int (20)))))) (sQ sZ sN) sN) (sQ (sF (cP .zip (lst2 (cV 6) (cP (.sl false true false) (lst2 (cV 4) (cC (.int (2))))))) [7,8] false (sQ (sA 9 (cP (.add false) (lst2 (cV 2) (cF 11 (aC (cV 5) (aC (cP .len (aC (cV 5) aN)) aN)) [])))) (sQ (sE (cBM "list" .app (cV 5) (aC (cM "Checker" "check_thing" 21 (cV 0) (aC (cV 7) (aC (cV 8) (aC (cV 9) (aC (cV 3) aN)))) []) aN))) sN))) (sQ (sR (cP .tupOf (aC (cV 5) aN))) sN))))))))))
noncomputable def r19:Fx.Row:=⟨"check_part","Checker.check_part",19,inClass (top 32) 1,["self","thing","there","within"],["self","thing","there","within","part","known","form","sort","inner","scope"],["known"],t19⟩
noncomputable def t20:TSx Prop:=(sQ (sI (tOr' (tNt (tB (cF 15 (aC (cV 1) aN) []))) (tB (cP .inn (lst2 (cV 1) (cP (.fld "places") (aC (cV 0) aN)))))) (sQ sZ sN) sN) (sQ (sP .seti (cC (.bl true)) (lst2 (cP (.fld "places") (aC (cV 0) aN)) (cV 1))) (sQ (sI (tB (cP .gt (lst2 (cP .len (aC (cP (.fld "places") (aC (cV 0) aN)) aN)) (cC (.int (300)))))) (sQ sZ sN) sN) sN)))
noncomputable def r20:Fx.Row:=⟨"check_place","Checker.check_place",20,inClass (top 32) 2,["self","place"],["self","place"],[],t20⟩
noncomputable def t21:TSx Prop:=(sQ (sI (tB (cP .eq (lst2 (cV 1) (cC (.str "part"))))) (sQ (sR (cM "Checker" "check_part" 19 (cV 0) (aC (cV 2) (aC (cV 3) (aC (cV 4) aN))) [])) sN) sN) (sQ (sI (tB (cP .eq (lst2 (cV 1) (cC (.str "parts"))))) (sQ (sR (cP .tupOf (aC (cL (cP .seq (aC (cF 22 (aC (cV 2) aN) []) aN)) [1] true 2 [4,3,0] none (cM "Checker" "check_part" 19 (cV 4) (aC (cV 1) (aC (cV 3) (aC (cV 2) aN))) [])) aN))) sN) sN) (sQ (sI (tB (cP .eq (lst2 (cV 1) (cC (.str "names"))))) (sQ (sR (cF 23 (aC (cV 2) aN) [])) sN) sN) (sQ (sA 5 (cF 17 (aC (cV 2) aN) [])) (sQ (sI (tNt (tB (cF 24 (aC (cV 1) (aC (cV 5) (aC (cV 3) aN))) []))) (sQ sZ sN) sN) (sQ (sR (cV 5)) sN))))))
noncomputable def r21:Fx.Row:=⟨"check_thing","Checker.check_thing",21,inClass (top 32) 3,["self","sort","thing","there","within"],["self","sort","thing","there","within","single"],[],t21⟩
noncomputable def t22:TSx Prop:=(sQ (sA 1 (cF 17 (aC (cV 0) aN) [])) (sQ (sI (tOr' (tNt (tB (cP (.isT "tuple") (aC (cV 1) aN)))) (tB (cP .gt (lst2 (cP .len (aC (cV 1) aN)) (cC (.int (4))))))) (sQ sZ sN) sN) (sQ (sR (cV 1)) sN)))
noncomputable def r22:Fx.Row:=⟨"checked_row","checked_row",22,top 33,["thing"],["thing","row"],[],t22⟩
noncomputable def t23:TSx Prop:=(sQ (sA 1 (cP .tupOf (aC (cL (cP .seq (aC (cF 22 (aC (cV 0) aN) []) aN)) [1] true 2 [] none (cF 17 (aC (cV 1) aN) [])) aN))) (sQ (sI (tOr' (tNt (tB (cP .all (aC (cL (cP .seq (aC (cV 1) aN)) [1] true 2 [] none (cF 14 (aC (cV 1) aN) [])) aN)))) (tB (cP .lt (lst2 (cP .lenset (aC (cV 1) aN)) (cP .len (aC (cV 1) aN)))))) (sQ sZ sN) sN) (sQ (sR (cV 1)) sN)))
noncomputable def r23:Fx.Row:=⟨"checked_names","checked_names",23,top 34,["thing"],["thing","names"],[],t23⟩
noncomputable def t24:TSx Prop:=(sQ (sI (tB (cP .eq (lst2 (cV 0) (cC (.str "number"))))) (sQ (sR (cF 16 (aC (cV 1) aN) [])) sN) sN) (sQ (sI (tB (cP .eq (lst2 (cV 0) (cC (.str "op"))))) (sQ (sR (cB (tAn (tB (cF 13 (aC (cV 1) aN) [])) (tB (cP .inn (lst2 (cV 1) (cC (.kt [(.str "add"),(.str "sub"),(.str "mul"),(.str "less"),(.str "same")])))))))) sN) sN) (sQ (sI (tB (cP .eq (lst2 (cV 0) (cC (.str "word"))))) (sQ (sR (cF 13 (aC (cV 1) aN) [])) sN) sN) (sQ (sI (tB (cP .eq (lst2 (cV 0) (cC (.str "used"))))) (sQ (sR (cB (tAn (tB (cF 14 (aC (cV 1) aN) [])) (tB (cP .inn (lst2 (cV 1) (cV 2))))))) sN) sN) (sQ (sR (cF 14 (aC (cV 1) aN) [])) sN)))))
noncomputable def r24:Fx.Row:=⟨"fits","fits",24,top 35,["sort","thing","there"],["sort","thing","there"],[],t24⟩
noncomputable def t25:TSx Prop:=(sQ (sR (cM "Checker" "check_part" 19 (cK "Checker" 18 aN []) (aC (cV 0) (aC (cT aN) (aC (cC (.int (0))) aN))) [])) sN)
noncomputable def r25:Fx.Row:=⟨"checked_program","checked_program",25,top 36,["thing"],["thing"],[],t25⟩
noncomputable def t26:TSx Prop:=(sQ (sP (.setf "inputs") (cP (.lstOf true) (aC (cV 1) aN)) (aC (cV 0) aN)) (sQ (sP (.setf "taken") (cC (.int (0))) (aC (cV 0) aN)) (sQ (sP (.setf "most") (cV 2) (aC (cV 0) aN)) (sQ (sP (.setf "log") (cP (.lst true) aN) (aC (cV 0) aN)) (sQ (sP (.setf "deeds") (cP (.lst true) aN) (aC (cV 0) aN)) (sQ (sP (.setf "calls") (cC (.int (0))) (aC (cV 0) aN)) (sQ (sP (.setf "deepest") (cC (.int (0))) (aC (cV 0) aN)) sN)))))))
noncomputable def r26:Fx.Row:=⟨"__init__","World.__init__",26,inClass (top 39) 0,["self","inputs","most"],["self","inputs","most"],[],t26⟩
noncomputable def t27:TSx Prop:=(sQ (sI (tB (cP .ge (lst2 (cP .len (aC (cP (.fld "deeds") (aC (cV 0) aN)) aN)) (cP (.fld "most") (aC (cV 0) aN))))) (sQ sZ sN) sN) (sQ (sE (cBM "list" .app (cP (.fld "deeds") (aC (cV 0) aN)) (aC (cV 1) aN))) sN))
noncomputable def r27:Fx.Row:=⟨"note","World.note",27,inClass (top 39) 1,["self","place"],["self","place"],[],t27⟩
noncomputable def t29:TSx Prop:=(sQ (sE (cBM "list" .app (cP (.fld "log") (aC (cV 0) aN)) (aC (cV 1) aN))) sN)
noncomputable def r29:Fx.Row:=⟨"say","World.say",29,inClass (top 39) 3,["self","number"],["self","number"],[],t29⟩
noncomputable def t30:TSx Prop:=(sQ (sI (tB (cP .ge (lst2 (cP (.fld "calls") (aC (cV 0) aN)) (cC (.int (50)))))) (sQ sZ sN) sN) (sQ (sP (.setf "calls") (cP (.add true) (lst2 (cP (.fld "calls") (aC (cV 0) aN)) (cC (.int (1))))) (aC (cV 0) aN)) (sQ (sP (.setf "deepest") (cP .max (lst2 (cP (.fld "deepest") (aC (cV 0) aN)) (cP (.fld "calls") (aC (cV 0) aN)))) (aC (cV 0) aN)) sN)))
noncomputable def r30:Fx.Row:=⟨"enter","World.enter",30,inClass (top 39) 4,["self","place"],["self","place"],[],t30⟩
noncomputable def t31:TSx Prop:=(sQ (sP (.setf "calls") (cP .sub (lst2 (cP (.fld "calls") (aC (cV 0) aN)) (cC (.int (1))))) (aC (cV 0) aN)) sN)
noncomputable def r31:Fx.Row:=⟨"leave","World.leave",31,inClass (top 39) 5,["self"],["self"],[],t31⟩
noncomputable def t33:TSx Prop:=(sQ (sR (cT (aC (cV 1) (aC (cP (.lstOf false) (aC (cP (.fld "log") (aC (cV 0) aN)) aN)) (aC (cP (.lstOf false) (aC (cP (.fld "deeds") (aC (cV 0) aN)) aN)) (aC (cP (.fld "deepest") (aC (cV 0) aN)) aN)))))) sN)
noncomputable def r33:Fx.Row:=⟨"result","World.result",33,inClass (top 39) 7,["self","end"],["self","end"],[],t33⟩
noncomputable def t34:TSx Prop:=(sQ (sQ (sA 1 (cT (aC (cC (.str "value")) (aC (cF 4 (aC (cM "SourceRun" "last_value" 54 (cV 0) aN []) aN) []) aN)))) sN) (sQ (sR (cM "World" "result" 33 (cP (.fld "world") (aC (cV 0) aN)) (aC (cV 1) aN) [])) sN))
noncomputable def r34:Fx.Row:=⟨"run_of","run_of",34,top 40,["runner"],["runner","end","ended"],[],t34⟩
noncomputable def t35:TSx Prop:=(sQ (sP (.setf "inside") (cV 1) (aC (cV 0) aN)) sN)
noncomputable def r35:Fx.Row:=⟨"__init__","Cell.__init__",35,inClass (top 44) 0,["self","inside"],["self","inside"],[],t35⟩
noncomputable def t36:TSx Prop:=(sQ (sE (cF 2 (aC (cV 0) (aC (cP .ix (lst2 (cV 1) (cC (.int (1))))) aN)) [])) (sQ (sP (.setf "params") (cP .ix (lst2 (cV 1) (cC (.int (2))))) (aC (cV 0) aN)) (sQ (sP (.setf "body") (cP .ix (lst2 (cV 1) (cC (.int (3))))) (aC (cV 0) aN)) (sQ (sP (.setf "scope") (cV 2) (aC (cV 0) aN)) sN))))
noncomputable def r36:Fx.Row:=⟨"__init__","SourceFunction.__init__",36,inClass (top 45) 0,["self","part","scope"],["self","part","scope"],[],t36⟩
noncomputable def t37:TSx Prop:=(sQ (sP (.setf "part") (cV 1) (aC (cV 0) aN)) (sQ (sP (.setf "scope") (cV 2) (aC (cV 0) aN)) (sQ (sP (.setf "last") (cV 3) (aC (cV 0) aN)) (sQ (sP (.setf "height") (cC .non) (aC (cV 0) aN)) (sQ (sP (.setf "calls") (cC (.int (0))) (aC (cV 0) aN)) sN)))))
noncomputable def r37:Fx.Row:=⟨"__init__","Job.__init__",37,inClass (top 46) 0,["self","part","scope","last"],["self","part","scope","last"],[],t37⟩
noncomputable def t38:TSx Prop:=(sQ (sA 3 (cP .dctOf (aC (cV 0) aN))) (sQ (sF (cP .zip (lst2 (cV 1) (cV 2))) [4,5] false (sQ (sP .seti (cK "Cell" 35 (aC (cV 5) aN) []) (lst2 (cV 3) (cV 4))) sN)) (sQ (sR (cV 3)) sN)))
noncomputable def r38:Fx.Row:=⟨"scope_with","scope_with",38,top 47,["scope","names","values"],["scope","names","values","grown","name","value"],["grown"],t38⟩
noncomputable def t39:TSx Prop:=(sQ (sI (tB (cP .eq (lst2 (cP .ix (lst2 (cV 0) (cC (.int (0))))) (cC (.str "let"))))) (sQ (sR (cT (aC (cP .ix (lst2 (cV 0) (cC (.int (3))))) aN))) sN) sN) (sQ (sI (tB (cP .inn (lst2 (cP .ix (lst2 (cV 0) (cC (.int (0))))) (cT (aC (cC (.str "do")) (aC (cC (.str "try")) aN)))))) (sQ (sR (cT (aC (cP .ix (lst2 (cV 0) (cC (.int (2))))) aN))) sN) sN) (sQ (sR (cF 12 (aC (cV 0) aN) [])) sN)))
noncomputable def r39:Fx.Row:=⟨"first_parts","first_parts",39,top 48,["part"],["part"],[],t39⟩
noncomputable def t40:TSx Prop:=(sQ (sE (cM "SourceRun" "add_job" 55 (cV 0) (aC (cP .ix (lst2 (cP (.fld "part") (aC (cV 1) aN)) (cC (.int (4))))) (aC (cF 38 (aC (cP (.fld "scope") (aC (cV 1) aN)) (aC (cT (aC (cP .ix (lst2 (cP (.fld "part") (aC (cV 1) aN)) (cC (.int (2))))) aN)) (aC (cV 2) aN))) []) (aC (cP (.fld "last") (aC (cV 1) aN)) aN))) [])) sN)
noncomputable def r40:Fx.Row:=⟨"finish_let","finish_let",40,top 49,["run","job","values"],["run","job","values"],[],t40⟩
noncomputable def t41:TSx Prop:=(sQ (sE (cM "SourceRun" "add_job" 55 (cV 0) (aC (cP .ix (lst2 (cP (.fld "part") (aC (cV 1) aN)) (cC (.int (3))))) (aC (cP (.fld "scope") (aC (cV 1) aN)) (aC (cP (.fld "last") (aC (cV 1) aN)) aN))) [])) sN)
noncomputable def r41:Fx.Row:=⟨"finish_do","finish_do",41,top 50,["run","job","values"],["run","job","values"],[],t41⟩
noncomputable def t43:TSx Prop:=(sQ (sE (cBM "list" .app (cP (.fld "pile") (aC (cV 0) aN)) (aC (cK "SourceFunction" 36 (aC (cP (.fld "part") (aC (cV 1) aN)) (aC (cP (.fld "scope") (aC (cV 1) aN)) aN)) []) aN))) sN)
noncomputable def r43:Fx.Row:=⟨"finish_fn","finish_fn",43,top 52,["run","job","values"],["run","job","values"],[],t43⟩
noncomputable def t44:TSx Prop:=(sQ (sA 3 (cP .ix (lst2 (cP (.fld "part") (aC (cV 1) aN)) (cC (.int (1)))))) (sQ (sA 4 (cP .ix (lst2 (cV 2) (cC (.int (0)))))) (sQ (sA 5 (cP (.sl false true false) (lst2 (cV 2) (cC (.int (1)))))) (sQ (sA 6 (cF 9 (aC (cV 4) (aC (cP .len (aC (cV 5) aN)) aN)) [])) (sQ (sI (tB (cP .notN (aC (cV 6) aN))) (sQ sZ (sQ sRN sN)) sN) (sQ (sI (tNt (tB (cP .tru (aC (cP (.fld "last") (aC (cV 1) aN)) aN)))) (sQ (sE (cM "World" "enter" 30 (cP (.fld "world") (aC (cV 0) aN)) (aC (cV 3) aN) [])) (sQ (sE (cM "SourceRun" "add_job" 55 (cV 0) (aC (cC (.kt [(.str "leave")])) (aC (cP (.dct []) aN) (aC (cC (.bl false)) aN))) [])) sN)) sN) (sQ (sE (cM "SourceRun" "add_job" 55 (cV 0) (aC (cP (.fld "body") (aC (cV 4) aN)) (aC (cF 38 (aC (cP (.fld "scope") (aC (cV 4) aN)) (aC (cP (.fld "params") (aC (cV 4) aN)) (aC (cV 5) aN))) []) (aC (cC (.bl true)) aN))) [])) sN)))))))
noncomputable def r44:Fx.Row:=⟨"finish_call","finish_call",44,top 53,["run","job","values"],["run","job","values","place","function","arguments","word"],[],t44⟩
noncomputable def t45:TSx Prop:=(sQ (sA 3 (cP .ix (lst2 (cP (.fld "scope") (aC (cV 1) aN)) (cP .ix (lst2 (cP (.fld "part") (aC (cV 1) aN)) (cC (.int (2)))))))) (sQ (sP (.setf "inside") (cP .ix (lst2 (cV 2) (cC (.int (0))))) (aC (cV 3) aN)) (sQ (sE (cBM "list" .app (cP (.fld "pile") (aC (cV 0) aN)) (aC (cP .ix (lst2 (cV 2) (cC (.int (0))))) aN))) sN)))
noncomputable def r45:Fx.Row:=⟨"finish_set","finish_set",45,top 54,["run","job","values"],["run","job","values","cell"],[],t45⟩
noncomputable def t47:TSx Prop:=(sQ (sU [3,4] (cF 6 (aC (cP .ix (lst2 (cP (.fld "part") (aC (cV 1) aN)) (cC (.int (2))))) (aC (cP .ix (lst2 (cV 2) (cC (.int (0))))) (aC (cP .ix (lst2 (cV 2) (cC (.int (1))))) aN))) [])) (sQ (sI (tB (cP .isN (aC (cV 3) aN))) (sQ (sE (cBM "list" .app (cP (.fld "pile") (aC (cV 0) aN)) (aC (cV 4) aN))) sN) (sQ sZ sN)) sN))
noncomputable def r47:Fx.Row:=⟨"finish_math","finish_math",47,top 56,["run","job","values"],["run","job","values","word","number"],[],t47⟩
noncomputable def t51:TSx Prop:=(sQ (sI (tNt (tB (cF 3 (aC (cP .ix (lst2 (cV 2) (cC (.int (0))))) aN) []))) (sQ sZ sN) (sQ (sE (cM "World" "say" 29 (cP (.fld "world") (aC (cV 0) aN)) (aC (cP .ix (lst2 (cV 2) (cC (.int (0))))) aN) [])) (sQ (sE (cBM "list" .app (cP (.fld "pile") (aC (cV 0) aN)) (aC (cP .ix (lst2 (cV 2) (cC (.int (0))))) aN))) sN))) sN)
noncomputable def r51:Fx.Row:=⟨"finish_tell","finish_tell",51,top 60,["run","job","values"],["run","job","values"],[],t51⟩
noncomputable def t53:TSx Prop:=(sQ (sP (.setf "world") (cV 2) (aC (cV 0) aN)) (sQ (sP (.setf "jobs") (cP (.lst true) (aC (cK "Job" 37 (aC (cV 1) (aC (cP (.dct []) aN) (aC (cC (.bl true)) aN))) []) aN)) (aC (cV 0) aN)) (sQ (sP (.setf "pile") (cP (.lst true) aN) (aC (cV 0) aN)) sN)))
noncomputable def r53:Fx.Row:=⟨"__init__","SourceRun.__init__",53,inClass (top 63) 0,["self","program","world"],["self","program","world"],[],t53⟩
noncomputable def t54:TSx Prop:=(sQ (sW (tB (cP .tru (aC (cP (.fld "jobs") (aC (cV 0) aN)) aN))) (sQ (sA 1 (cBM "list" .pop (cP (.fld "jobs") (aC (cV 0) aN)) aN)) (sQ (sI (tB (cP .isN (aC (cP (.fld "height") (aC (cV 1) aN)) aN))) (sQ (sE (cM "SourceRun" "begin" 56 (cV 0) (aC (cV 1) aN) [])) sN) (sQ (sE (cM "SourceRun" "finish" 57 (cV 0) (aC (cV 1) aN) [])) sN)) sN))) (sQ (sR (cP .ix (lst2 (cP (.fld "pile") (aC (cV 0) aN)) (cC (.int (0)))))) sN))
noncomputable def r54:Fx.Row:=⟨"last_value","SourceRun.last_value",54,inClass (top 63) 1,["self"],["self","job"],[],t54⟩
noncomputable def t55:TSx Prop:=(sQ (sE (cBM "list" .app (cP (.fld "jobs") (aC (cV 0) aN)) (aC (cK "Job" 37 (aC (cV 1) (aC (cV 2) (aC (cV 3) aN))) []) aN))) sN)
noncomputable def r55:Fx.Row:=⟨"add_job","SourceRun.add_job",55,inClass (top 63) 2,["self","part","scope","last"],["self","part","scope","last"],[],t55⟩
noncomputable def t56:TSx Prop:=(sQ (sA 2 (cP .ix (lst2 (cP (.fld "part") (aC (cV 1) aN)) (cC (.int (0)))))) (sQ (sI (tB (cP .eq (lst2 (cV 2) (cC (.str "number"))))) (sQ (sE (cBM "list" .app (cP (.fld "pile") (aC (cV 0) aN)) (aC (cP .ix (lst2 (cP (.fld "part") (aC (cV 1) aN)) (cC (.int (2))))) aN))) sN) (sQ (sI (tB (cP .eq (lst2 (cV 2) (cC (.str "name"))))) (sQ (sE (cBM "list" .app (cP (.fld "pile") (aC (cV 0) aN)) (aC (cP (.fld "inside") (aC (cP .ix (lst2 (cP (.fld "scope") (aC (cV 1) aN)) (cP .ix (lst2 (cP (.fld "part") (aC (cV 1) aN)) (cC (.int (2))))))) aN)) aN))) sN) (sQ (sI (tB (cP .eq (lst2 (cV 2) (cC (.str "leave"))))) (sQ (sE (cM "World" "leave" 31 (cP (.fld "world") (aC (cV 0) aN)) aN [])) sN) (sQ (sP (.setf "height") (cP .len (aC (cP (.fld "pile") (aC (cV 0) aN)) aN)) (aC (cV 1) aN)) (sQ (sP (.setf "calls") (cP (.fld "calls") (aC (cP (.fld "world") (aC (cV 0) aN)) aN)) (aC (cV 1) aN)) (sQ (sE (cBM "list" .app (cP (.fld "jobs") (aC (cV 0) aN)) (aC (cV 1) aN))) (sQ (sF (cP .rev (aC (cF 39 (aC (cP (.fld "part") (aC (cV 1) aN)) aN) []) aN)) [3] true (sQ (sE (cM "SourceRun" "add_job" 55 (cV 0) (aC (cV 3) (aC (cP (.fld "scope") (aC (cV 1) aN)) (aC (cC (.bl false)) aN))) [])) sN)) sN))))) sN)) sN)) sN))
noncomputable def r56:Fx.Row:=⟨"begin","SourceRun.begin",56,inClass (top 63) 3,["self","job"],["self","job","kind","part"],[],t56⟩
noncomputable def t57:TSx Prop:=(sQ (sA 2 (cP (.sl false true false) (lst2 (cP (.fld "pile") (aC (cV 0) aN)) (cP (.fld "height") (aC (cV 1) aN))))) (sQ (sP (.setf "pile") (cP (.sl true false true) (lst2 (cP (.fld "pile") (aC (cV 0) aN)) (cP (.fld "height") (aC (cV 1) aN)))) (aC (cV 0) aN)) (sQ (sI (tB (cP .nin (lst2 (cP .ix (lst2 (cP (.fld "part") (aC (cV 1) aN)) (cC (.int (0))))) (cC (.kt [(.str "let"),(.str "do"),(.str "try")]))))) (sQ (sE (cM "World" "note" 27 (cP (.fld "world") (aC (cV 0) aN)) (aC (cP .ix (lst2 (cP (.fld "part") (aC (cV 1) aN)) (cC (.int (1))))) aN) [])) sN) sN) (sQ (sE (cD [("finish_let",40,3),("finish_do",41,3),("finish_fn",43,3),("finish_call",44,3),("finish_set",45,3),("finish_math",47,3),("finish_tell",51,3)] (cP .ix (lst2 (cC jM) (cP .ix (lst2 (cP (.fld "part") (aC (cV 1) aN)) (cC (.int (0))))))) (aC (cV 0) (aC (cV 1) (aC (cV 2) aN))))) sN))))
noncomputable def r57:Fx.Row:=⟨"finish","SourceRun.finish",57,inClass (top 63) 4,["self","job"],["self","job","values"],[],t57⟩
noncomputable def t60:TSx Prop:=(sQ (sR (cF 34 (aC (cK "SourceRun" 53 (aC (cF 25 (aC (cV 0) aN) []) (aC (cK "World" 26 (aC (cV 1) (aC (cV 2) aN)) []) aN)) []) aN) [])) sN)
noncomputable def r60:Fx.Row:=⟨"run_source","run_source",60,top 64,["program","inputs","most"],["program","inputs","most"],[],t60⟩
noncomputable def t61:TSx Prop:=(sQ (sI (tB (cP .lt (lst2 (cV 1) (cP .len (aC (cV 0) aN))))) (sQ (sR (cP .ix (lst2 (cV 0) (cV 1)))) sN) sN) (sQ (sR (cC (.int (0)))) sN))
noncomputable def r61:Fx.Row:=⟨"_law_cell","_law_cell",61,top 66,["_law_script","_law_k"],["_law_script","_law_k"],[],t61⟩
noncomputable def t62:TSx Prop:=(sQ (sA 1 (cC (.str "q"))) (sQ (sA 2 (cP .fdiv (lst2 (cV 0) (cC (.int (8)))))) (sQ (sF (cP .rng1 (aC (cP .mod (lst2 (cV 0) (cC (.int (7))))) aN)) [3] true (sQ (sA 1 (cP (.add false) (lst2 (cV 1) (cP .ix (lst2 (cC (.str "abcdefghijklmnopqrstuvwxyz")) (cP .mod (lst2 (cV 2) (cC (.int (26)))))))))) (sQ (sA 2 (cP .fdiv (lst2 (cV 2) (cC (.int (26)))))) sN))) (sQ (sR (cL (cP .seq (aC (cC (.str "jkmq")) aN)) [1] true 2 [1] none (cP (.add false) (lst2 (cV 2) (cV 1))))) sN))))
noncomputable def r62:Fx.Row:=⟨"_law_names","_law_names",62,top 67,["_law_cell_here"],["_law_cell_here","_law_word","_law_number_here","_law_k"],[],t62⟩
noncomputable def t63:TSx Prop:=(sQ (sP .seti (cP (.add true) (lst2 (cP .ix (lst2 (cV 0) (cC (.str "places")))) (cC (.int (1))))) (lst2 (cV 0) (cC (.str "places")))) (sQ (sR (cP .mod (lst2 (cP (.add false) (lst2 (cP .mul (lst2 (cP .ix (lst2 (cV 0) (cC (.str "places")))) (cC (.int (7))))) (cP .ix (lst2 (cV 0) (cC (.str "shift")))))) (cC (.int (600)))))) sN))
noncomputable def r63:Fx.Row:=⟨"_law_place","_law_place",63,top 68,["_law_state"],["_law_state"],["_law_state"],t63⟩
noncomputable def t64:TSx Prop:=(sQ (sR (cT (aC (cC (.str "number")) (aC (cF 63 (aC (cV 0) aN) []) (aC (cV 1) aN))))) sN)
noncomputable def r64:Fx.Row:=⟨"_law_number","_law_number",64,top 69,["_law_state","_law_number_here"],["_law_state","_law_number_here"],[],t64⟩
noncomputable def t65:TSx Prop:=(sQ (sA 3 (cT (aC (cC (.str "name")) (aC (cF 63 (aC (cV 0) aN) []) (aC (cV 1) aN))))) (sQ (sR (cT (aC (cC (.str "math")) (aC (cF 63 (aC (cV 0) aN) []) (aC (cC (.str "add")) (aC (cV 3) (aC (cF 64 (aC (cV 0) (aC (cV 2) aN)) []) aN))))))) sN))
noncomputable def r65:Fx.Row:=⟨"_law_add","_law_add",65,top 70,["_law_state","_law_name","_law_number_here"],["_law_state","_law_name","_law_number_here","_law_one"],[],t65⟩
noncomputable def t66:TSx Prop:=(sQ (sA 4 (cF 65 (aC (cV 0) (aC (cV 2) (aC (cV 3) aN))) [])) (sQ (sA 5 (cT (aC (cC (.str "set")) (aC (cF 63 (aC (cV 0) aN) []) (aC (cV 2) (aC (cV 4) aN)))))) (sQ (sA 6 (cF 63 (aC (cV 0) aN) [])) (sQ (sE (cBM "list" .app (cP .ix (lst2 (cV 0) (cC (.str "deeds")))) (aC (cV 6) aN))) (sQ (sR (cP (.lst false) (aC (cT (aC (cC (.str "fn")) (aC (cV 6) (aC (cT aN) (aC (cV 5) aN))))) (aC (cT (aC (cC (.str "fn")) (aC (cP .ix (lst2 (cV 1) (cV 2))) (aC (cV 3) (aC (cP .ix (lst2 (cV 4) (cC (.int (1))))) (aC (cP .ix (lst2 (cV 5) (cC (.int (1))))) aN)))))) aN)))) sN)))))
noncomputable def r66:Fx.Row:=⟨"_law_of_scope","_law_of_scope",66,top 71,["_law_state","_law_scope","_law_name","_law_number_here"],["_law_state","_law_scope","_law_name","_law_number_here","_law_first","_law_setting","_law_place_here"],[],t66⟩
noncomputable def t67:TSx Prop:=(sQ (sA 3 (cF 65 (aC (cV 0) (aC (cV 1) (aC (cV 2) aN))) [])) (sQ (sA 4 (cT (aC (cC (.str "set")) (aC (cF 63 (aC (cV 0) aN) []) (aC (cV 1) (aC (cV 3) aN)))))) (sQ (sA 5 (cT (aC (cC (.str "do")) (aC (cF 63 (aC (cV 0) aN) []) (aC (cV 4) (aC (cT (aC (cC (.str "name")) (aC (cF 63 (aC (cV 0) aN) []) (aC (cV 1) aN)))) aN)))))) (sQ (sA 6 (cF 63 (aC (cV 0) aN) [])) (sQ (sE (cBM "list" .app (cP .ix (lst2 (cV 0) (cC (.str "deeds")))) (aC (cV 6) aN))) (sQ (sR (cP (.lst false) (aC (cT (aC (cC (.str "fn")) (aC (cV 6) (aC (cT (aC (cV 1) aN)) (aC (cV 5) aN))))) (aC (cT (aC (cC (.str "fn")) (aC (cC .non) (aC (cV 2) (aC (cP .ix (lst2 (cV 3) (cC (.int (1))))) (aC (cP .ix (lst2 (cV 4) (cC (.int (1))))) aN)))))) aN)))) sN))))))
noncomputable def r67:Fx.Row:=⟨"_law_of_param","_law_of_param",67,top 72,["_law_state","_law_name","_law_number_here"],["_law_state","_law_name","_law_number_here","_law_first","_law_setting","_law_body","_law_place_here"],[],t67⟩
noncomputable def t68:TSx Prop:=(sQ (sE (cBM "list" .app (cP .ix (lst2 (cV 0) (cC (.str "cells")))) (aC (cV 4) aN))) (sQ (sP .seti (cP .sub (lst2 (cP .len (aC (cP .ix (lst2 (cV 0) (cC (.str "cells")))) aN)) (cC (.int (1))))) (lst2 (cV 1) (cV 2))) (sQ (sR (cP (.lst false) (aC (cC (.str "let")) (aC (cF 63 (aC (cV 0) aN) []) (aC (cV 2) (aC (cV 3) aN)))))) sN)))
noncomputable def r68:Fx.Row:=⟨"_law_bound","_law_bound",68,top 73,["_law_state","_law_scope","_law_name","_law_one","_law_value"],["_law_state","_law_scope","_law_name","_law_one","_law_value"],["_law_scope"],t68⟩
noncomputable def t69:TSx Prop:=(sQ (sA 4 (cP .ix (lst2 (cP .ix (lst2 (cV 0) (cC (.str "cells")))) (cP .ix (lst2 (cV 1) (cV 2)))))) (sQ (sA 5 (cT (aC (cC (.str "name")) (aC (cF 63 (aC (cV 0) aN) []) (aC (cV 2) aN))))) (sQ (sA 6 (cF 63 (aC (cV 0) aN) [])) (sQ (sA 7 (cT aN)) (sQ (sI (tB (cP .isN (aC (cP .ix (lst2 (cV 4) (cC (.int (1))))) aN))) (sQ (sA 7 (cT (aC (cF 64 (aC (cV 0) (aC (cV 3) aN)) []) aN))) sN) sN) (sQ (sP .seti (cP (.add true) (lst2 (cP .ix (lst2 (cV 0) (cC (.str "deeds")))) (cP (.lst false) (aC (cV 6) (aC (cP .ix (lst2 (cV 4) (cC (.int (3))))) (aC (cP .ix (lst2 (cV 4) (cC (.int (4))))) aN)))))) (lst2 (cV 0) (cC (.str "deeds")))) (sQ (sP .seti (cC (.int (1))) (lst2 (cV 0) (cC (.str "deepest")))) (sQ (sA 8 (cP (.add false) (lst2 (cV 3) (cP .ix (lst2 (cV 4) (cC (.int (2)))))))) (sQ (sI (tB (cP .notN (aC (cP .ix (lst2 (cV 4) (cC (.int (1))))) aN))) (sQ (sA 8 (cP (.add false) (lst2 (cP .ix (lst2 (cP .ix (lst2 (cV 0) (cC (.str "cells")))) (cP .ix (lst2 (cV 4) (cC (.int (1))))))) (cP .ix (lst2 (cV 4) (cC (.int (2)))))))) (sQ (sP .seti (cV 8) (lst2 (cP .ix (lst2 (cV 0) (cC (.str "cells")))) (cP .ix (lst2 (cV 4) (cC (.int (1))))))) sN)) sN) (sQ (sR (cP (.lst false) (aC (cT (aC (cC (.str "call")) (aC (cV 6) (aC (cV 5) (aC (cV 7) aN))))) (aC (cV 8) aN)))) sN))))))))))
noncomputable def r69:Fx.Row:=⟨"_law_called","_law_called",69,top 74,["_law_state","_law_scope","_law_name","_law_number_here"],["_law_state","_law_scope","_law_name","_law_number_here","_law_value","_law_function","_law_place_here","_law_args","_law_found"],["_law_state"],t69⟩
noncomputable def t70:TSx Prop:=(sQ (sA 5 (cP .ix (lst2 (cP .ix (lst2 (cV 0) (cC (.str "cells")))) (cP .ix (lst2 (cV 1) (cV 2)))))) (sQ (sI (tAn (tB (cP (.isT "int") (aC (cV 5) aN))) (tB (cP .eq (lst2 (cP .mod (lst2 (cV 4) (cC (.int (2))))) (cC (.int (0))))))) (sQ (sA 6 (cF 64 (aC (cV 0) (aC (cV 3) aN)) [])) (sQ (sA 7 (cF 63 (aC (cV 0) aN) [])) (sQ (sE (cBM "list" .app (cP .ix (lst2 (cV 0) (cC (.str "deeds")))) (aC (cV 7) aN))) (sQ (sP .seti (cV 3) (lst2 (cP .ix (lst2 (cV 0) (cC (.str "cells")))) (cP .ix (lst2 (cV 1) (cV 2))))) (sQ (sR (cP (.lst false) (aC (cC (.str "do")) (aC (cF 63 (aC (cV 0) aN) []) (aC (cT (aC (cC (.str "set")) (aC (cV 7) (aC (cV 2) (aC (cV 6) aN))))) aN))))) sN))))) sN) (sQ (sA 8 (cP (.lst false) (aC (cT (aC (cC (.str "name")) (aC (cF 63 (aC (cV 0) aN) []) (aC (cV 2) aN)))) (aC (cV 5) aN)))) (sQ (sI (tNt (tB (cP (.isT "int") (aC (cV 5) aN)))) (sQ (sA 8 (cF 69 (aC (cV 0) (aC (cV 1) (aC (cV 2) (aC (cV 3) aN)))) [])) sN) sN) (sQ (sI (tAn (tB (cP .eq (lst2 (cP .mod (lst2 (cV 4) (cC (.int (3))))) (cC (.int (0)))))) (tNt (tB (cP (.isT "int") (aC (cV 5) aN))))) (sQ (sR (cP (.lst false) (aC (cC (.str "do")) (aC (cF 63 (aC (cV 0) aN) []) (aC (cP .ix (lst2 (cV 8) (cC (.int (0))))) aN))))) sN) sN) (sQ (sA 7 (cF 63 (aC (cV 0) aN) [])) (sQ (sE (cBM "list" .app (cP .ix (lst2 (cV 0) (cC (.str "deeds")))) (aC (cV 7) aN))) (sQ (sE (cBM "list" .app (cP .ix (lst2 (cV 0) (cC (.str "log")))) (aC (cP .ix (lst2 (cV 8) (cC (.int (1))))) aN))) (sQ (sR (cP (.lst false) (aC (cC (.str "do")) (aC (cF 63 (aC (cV 0) aN) []) (aC (cT (aC (cC (.str "tell")) (aC (cV 7) (aC (cP .ix (lst2 (cV 8) (cC (.int (0))))) aN)))) aN))))) sN)))))))))
noncomputable def r70:Fx.Row:=⟨"_law_use","_law_use",70,top 75,["_law_state","_law_scope","_law_name","_law_number_here","_law_way"],["_law_state","_law_scope","_law_name","_law_number_here","_law_way","_law_value","_law_one","_law_place_here","_law_told"],[],t70⟩
noncomputable def t71:TSx Prop:=(sQ (sA 4 (cP .ix (lst2 (cV 2) (cP .mod (lst2 (cP .fdiv (lst2 (cV 3) (cC (.int (8))))) (cC (.int (4)))))))) (sQ (sA 5 (cP .ix (lst2 (cV 2) (cP .mod (lst2 (cP .fdiv (lst2 (cV 3) (cC (.int (32))))) (cC (.int (4)))))))) (sQ (sA 6 (cP (.add false) (lst2 (cP .sub (lst2 (cP .mod (lst2 (cP .fdiv (lst2 (cV 3) (cC (.int (768))))) (cP .sub (lst2 (cP .mul (lst2 (cC (.int (2))) (cP .pow (lst2 (cC (.int (10))) (cC (.int (12))))))) (cC (.int (1))))))) (cP .pow (lst2 (cC (.int (10))) (cC (.int (12))))))) (cC (.int (1)))))) (sQ (sA 7 (cP .mod (lst2 (cV 3) (cC (.int (8)))))) (sQ (sI (tOr' (tB (cP .lt (lst2 (cV 7) (cC (.int (2)))))) (tB (cP .eq (lst2 (cV 1) (cP (.dct []) aN))))) (sQ (sR (cF 68 (aC (cV 0) (aC (cV 1) (aC (cV 4) (aC (cF 64 (aC (cV 0) (aC (cV 6) aN)) []) (aC (cV 6) aN))))) [])) sN) sN) (sQ (sI (tB (cP .nin (lst2 (cV 5) (cV 1)))) (sQ (sA 5 (cP .ix (lst2 (cP .sortS (aC (cV 1) aN)) (cP .mod (lst2 (cP .fdiv (lst2 (cV 3) (cC (.int (128))))) (cP .len (aC (cV 1) aN))))))) sN) sN) (sQ (sI (tAn (tB (cP .eq (lst2 (cV 7) (cC (.int (2)))))) (tB (cP (.isT "int") (aC (cP .ix (lst2 (cP .ix (lst2 (cV 0) (cC (.str "cells")))) (cP .ix (lst2 (cV 1) (cV 5))))) aN)))) (sQ (sU [8,9] (cF 66 (aC (cV 0) (aC (cV 1) (aC (cV 5) (aC (cV 6) aN)))) [])) (sQ (sR (cF 68 (aC (cV 0) (aC (cV 1) (aC (cV 4) (aC (cV 8) (aC (cV 9) aN))))) [])) sN)) sN) (sQ (sI (tB (cP .eq (lst2 (cV 7) (cC (.int (3)))))) (sQ (sU [8,9] (cF 67 (aC (cV 0) (aC (cV 5) (aC (cV 6) aN))) [])) (sQ (sR (cF 68 (aC (cV 0) (aC (cV 1) (aC (cV 4) (aC (cV 8) (aC (cV 9) aN))))) [])) sN)) sN) (sQ (sR (cF 70 (aC (cV 0) (aC (cV 1) (aC (cV 5) (aC (cV 6) (aC (cP .mod (lst2 (cP .fdiv (lst2 (cV 3) (cC (.int (128))))) (cC (.int (6))))) aN))))) [])) sN)))))))))
noncomputable def r71:Fx.Row:=⟨"_law_row","_law_row",71,top 76,["_law_state","_law_scope","_law_names_here","_law_cell_here"],["_law_state","_law_scope","_law_names_here","_law_cell_here","_law_name","_law_other","_law_number_here","_law_way","_law_one","_law_value"],[],t71⟩
noncomputable def t72:TSx Prop:=(sQ (sA 1 (cF 62 (aC (cF 61 (aC (cV 0) (aC (cC (.int (0))) aN)) []) aN) [])) (sQ (sA 2 (cP (.dct ["places","shift","deeds","log","cells","deepest"]) (aC (cC (.int (0))) (aC (cP .mod (lst2 (cF 61 (aC (cV 0) (aC (cC (.int (0))) aN)) []) (cC (.int (600))))) (aC (cP (.lst true) aN) (aC (cP (.lst true) aN) (aC (cP (.lst true) aN) (aC (cC (.int (0))) aN)))))))) (sQ (sA 3 (cP (.dct []) aN)) (sQ (sA 4 (cP (.lst true) aN)) (sQ (sF (cP .seq (aC (cP (.sl false true true) (aC (cV 0) (lst2 (cI (cC (.int (1)))) (cC (.int (15)))))) aN)) [5] true (sQ (sE (cBM "list" .app (cV 4) (aC (cF 71 (aC (cV 2) (aC (cV 3) (aC (cV 1) (aC (cV 5) aN)))) []) aN))) sN)) (sQ (sA 6 (cT (aC (cC (.str "number")) (aC (cF 63 (aC (cV 2) aN) []) (aC (cC (.int (7))) aN))))) (sQ (sF (cP .rev (aC (cV 4) aN)) [7] true (sQ (sA 6 (cP (.add false) (lst2 (cP .tupOf (aC (cV 7) aN)) (cT (aC (cV 6) aN))))) sN)) (sQ (sA 8 (cT (aC (cT (aC (cC (.str "value")) (aC (cC (.int (7))) aN))) (aC (cP .ix (lst2 (cV 2) (cC (.str "log")))) (aC (cP .ix (lst2 (cV 2) (cC (.str "deeds")))) (aC (cP .ix (lst2 (cV 2) (cC (.str "deepest")))) aN)))))) (sQ (sR (cB (tAn (tB (cP .eq (lst2 (cF 60 (aC (cV 6) (aC (cP (.lst false) aN) aN)) [(.int (1000))]) (cV 8)))) (tB (cP .eq (lst2 (cF 60 (aC (cV 6) (aC (cP (.lst false) aN) (aC (cC (.int (2000))) aN))) []) (cV 8))))))) sN)))))))))
noncomputable def r72:Fx.Row:=⟨"law","law",72,top 77,["_law_script"],["_law_script","_law_names_here","_law_state","_law_scope","_law_rows","_law_cell_here","_law_part","_law_row_here","_law_due"],["_law_rows"],t72⟩
noncomputable def rows:List Fx.Row:=[r1,r2,r3,r4,r5,r6,r7,r9,r10,r11,r12,r13,r14,r15,r16,r17,r18,r19,r20,r21,r22,r23,r24,r25,r26,r27,r29,r30,r31,r33,r34,r35,r36,r37,r38,r39,r40,r41,r43,r44,r45,r47,r51,r53,r54,r55,r56,r57,r60,r61,r62,r63,r64,r65,r66,r67,r68,r69,r70,r71,r72]
noncomputable def tab:Nat->Option De:=rowAt rows
theorem rowsC:∀ r∈rows,RowC tb tab r:=by
 repeat' first | exact alln | refine allc (rowC (by kernel_rfl) (by kernel_rfl) (by kernel_rfl)) ?_
theorem bd1 {r:Fx.Row} (hp:r.ps.length=1) (h:∀ (kV doc pm:Value) (an:Option Addr) (cdv ct x0:Value),bindArgs (PySem.W.fnOf r.x r.qual (defArgs r.st) (defBody r.st) (defScope r.st) .none kV doc pm an cdv ct) ⟨[x0],[]⟩=pure (r.ps.zip [x0]):=by intros;rfl):BdC r:=fun _ _ _ _ _ _ us hl=>by
 obtain ⟨_,rfl⟩:=len1 (hl.trans hp);exact h ..
theorem bd2 {r:Fx.Row} (hp:r.ps.length=2) (h:∀ (kV doc pm:Value) (an:Option Addr) (cdv ct x0 x1:Value),bindArgs (PySem.W.fnOf r.x r.qual (defArgs r.st) (defBody r.st) (defScope r.st) .none kV doc pm an cdv ct) ⟨[x0,x1],[]⟩=pure (r.ps.zip [x0,x1]):=by intros;rfl):BdC r:=fun _ _ _ _ _ _ us hl=>by
 obtain ⟨_,_,rfl⟩:=len2 (hl.trans hp);exact h ..
theorem bd3 {r:Fx.Row} (hp:r.ps.length=3) (h:∀ (kV doc pm:Value) (an:Option Addr) (cdv ct x0 x1 x2:Value),bindArgs (PySem.W.fnOf r.x r.qual (defArgs r.st) (defBody r.st) (defScope r.st) .none kV doc pm an cdv ct) ⟨[x0,x1,x2],[]⟩=pure (r.ps.zip [x0,x1,x2]):=by intros;rfl):BdC r:=fun _ _ _ _ _ _ us hl=>by
 obtain ⟨_,_,_,rfl⟩:=len3 (hl.trans hp);exact h ..
theorem bd4 {r:Fx.Row} (hp:r.ps.length=4) (h:∀ (kV doc pm:Value) (an:Option Addr) (cdv ct x0 x1 x2 x3:Value),bindArgs (PySem.W.fnOf r.x r.qual (defArgs r.st) (defBody r.st) (defScope r.st) .none kV doc pm an cdv ct) ⟨[x0,x1,x2,x3],[]⟩=pure (r.ps.zip [x0,x1,x2,x3]):=by intros;rfl):BdC r:=fun _ _ _ _ _ _ us hl=>by
 obtain ⟨_,_,_,_,rfl⟩:=len4 (hl.trans hp);exact h ..
theorem bd5 {r:Fx.Row} (hp:r.ps.length=5) (h:∀ (kV doc pm:Value) (an:Option Addr) (cdv ct x0 x1 x2 x3 x4:Value),bindArgs (PySem.W.fnOf r.x r.qual (defArgs r.st) (defBody r.st) (defScope r.st) .none kV doc pm an cdv ct) ⟨[x0,x1,x2,x3,x4],[]⟩=pure (r.ps.zip [x0,x1,x2,x3,x4]):=by intros;rfl):BdC r:=fun _ _ _ _ _ _ us hl=>by
 obtain ⟨_,_,_,_,_,rfl⟩:=len5 (hl.trans hp);exact h ..
theorem b26:BdD r26:=bdD3 rfl (fun _ _ _ _ _ _ _ _ _ _ _=>⟨_,rfl,rfl⟩) fun _ _ _ _ _ _ _ _ _ _=>⟨_,rfl,rfl⟩
theorem b60:BdD r60:=bdD3 rfl (fun _ _ _ _ _ _ _ _ _ _ _=>⟨_,rfl,rfl⟩) fun _ _ _ _ _ _ _ _ _ _=>⟨_,rfl,rfl⟩
section
variable {K:xFr} {f C:Addr} {oc kV dc pm cd ct mc:Value} {od an:Option Addr} {sl:Array (Option Value)} {nm q:Str} {st:Stmt}
theorem csr (h0:PySem.W.nsIn K mainGlobals nm=some (some (.ref C))) (h1:PySem.W.plainGet K C Str.empty=true) (h2:PySem.W.hasDictIn K C=true) (h3:PySem.W.plainOver K C=true) (h4:PySem.W.findIn K (.ref C) "__setattr__"=some (some (.builtin "object.__setattr__"))) (h5:PySem.W.makesIn K C=true) (h6:PySem.W.keepIn K (.ref C)=true) (h7:PySem.W.findIn K (.ref C) "__class__"=some (some (.builtin "object.__class__"))) (h8:PySem.W.mroIn K C (.type "object")=some true):CsR K C nm:=⟨h0,⟨h1,h2,h3,h4⟩,h5,h6,h7,h8⟩
def TxA (K:xFr) (t:Addr) (xs:List V):Prop:=∀ H,SqT K H t xs
theorem tup_is {t:Addr} {d:Option Addr} {its:Array Value} {n:Nat} {sl:Array (Option Value)} {xs:List V} (h:K.lookup t=some ⟨.type "tuple",d,.seq its n,sl⟩) (hz:its.size<=1000) (hv:Vals xs its.toList):TxA K t xs:=fun H=>.inr ⟨_,its,n,h,rfl,rfl,lineMe (by lia),hv⟩
theorem uz (h0:PySem.W.findIn K (.ref C) "__init__"=some (some (.ref f))) (e1:PySem.W.specialIn K (.ref C) "__getattribute__"=some (some (.builtin "type.__getattribute__"))) (e2:PySem.W.readsIn K C mc=true) (e3:PySem.W.findCls K (.ref C) mc "__init__"=some (.val (.ref f))) (e4:PySem.W.handedIn (.ref f)=true):IniR K C:=⟨mc,e1,e2,fun f' h=>by rw [h0] at h;cases h;exact ⟨e3,e4⟩⟩
theorem ktS {mg:Str->Option Value} {cls:List (Str×Addr)} {kds:List (Addr×List (Str×U)×List Str)} {l:List Str} (h:TxA K C (l.map V.str)) (W:Wd):Rv (mkB K mg cls kds) W (.kt (l.map U.str)) (.ref C):=uj (B:=mkB K mg cls kds) h W
theorem ktI {mg:Str->Option Value} {cls:List (Str×Addr)} {kds:List (Addr×List (Str×U)×List Str)} {l:List Int} (h:TxA K C (l.map V.int)) (W:Wd):Rv (mkB K mg cls kds) W (.kt (l.map U.int)) (.ref C):=uk (B:=mkB K mg cls kds) h W
end
noncomputable def cl8 (cBlock cFunction cChecker cWorld cCell cSourceFunction cJob cSourceRun:Addr):List (Str×Addr):=[("Block",cBlock),("Function",cFunction),("Checker",cChecker),("World",cWorld),("Cell",cCell),("SourceFunction",cSourceFunction),("Job",cJob),("SourceRun",cSourceRun)]
theorem mr {r:Fx.Row} (i:Nat) (h:rows[i]?=some r):r∈rows:=xAc h
theorem all_mk {l:PySem.W.OpenLaw} {w:World} {K:xFr} {h:Heap} {mg:Str->Option Value} {fa aH aD aE aG aK aA aM aC cL c1 bw aF au a0 ay ax ar aw av aq a1 az ai am al af aj aI ag ae ad ah a2 bt aB aY aV ac aZ ab aW aT aX aU aa aS aR aQ:Addr} {fw d:Nat} (X:K.In h) (G:h.Ns mainGlobals mg) (hfa:mg "law"=some (.ref fa)) {c5:Tok} {c9:Tok} {bg:Tok} {bF:Tok} {bC:Tok} {bJ:Tok} {cG:Tok} {bh:Array DictEntry} {cw:Nat} {a9:Array DictEntry} {cd:Nat} {bM:Tok} {ao:Array DictEntry} {b4:Nat} (ap:CsR K aH "Block") (ce:noneB K aH fls=true) (aP:CsR K aD "Function") (bl:noneB K aD fls=true) (aN:CsR K aE "Checker") (b2:noneB K aE fls=true) (aO:CsR K aG "World") (cu:noneB K aG fls=true) (a5:CsR K aK "Cell") (cy:noneB K aK fls=true) (aL:CsR K aA "SourceFunction") (ak:noneB K aA fls=true) (bo:CsR K aM "Job") (c4:noneB K aM fls=true) (aJ:CsR K aC "SourceRun") (ba:noneB K aC fls=true) (cz:kitTB K "int" (cl8 aH aD aE aG aK aA aM aC)=true) (cn:kitTB K "bool" (cl8 aH aD aE aG aK aA aM aC)=true) (c0:kitTB K "str" (cl8 aH aD aE aG aK aA aM aC)=true) (cQ:kitTB K "tuple" (cl8 aH aD aE aG aK aA aM aC)=true) (cI:kitCB K ups "Block" aH (cl8 aH aD aE aG aK aA aM aC)=true) (bT:kitCB K ups "Function" aD (cl8 aH aD aE aG aK aA aM aC)=true) (c7:mgB K bls=true) (hn_:PySem.W.specialIn K (.builtin "object.__class__") "__get__"=some (some (.builtin "getset_descriptor.__get__"))) (ht_:PySem.W.takesIn K (.builtin "object.__class__")=some true) (d1:MdR K aH r1) (d2:MdR K aD r2) (d3:DnR K r3) (d4:DnR K r4) (d5:DnR K r5) (d6:DnR K r6) (d7:DnR K r7) (d9:DnR K r9) (d10:DnR K r10) (d11:DnR K r11) (d12:DnR K r12) (d13:DnR K r13) (d14:DnR K r14) (d15:DnR K r15) (d16:DnR K r16) (d17:DnR K r17) (d18:MdR K aE r18) (d19:MdR K aE r19) (d20:MdR K aE r20) (d21:MdR K aE r21) (d22:DnR K r22) (d23:DnR K r23) (d24:DnR K r24) (d25:DnR K r25) (d26:MdD K aG r26 (.int 1000 c5)) (d27:MdR K aG r27) (d29:MdR K aG r29) (d30:MdR K aG r30) (d31:MdR K aG r31) (d33:MdR K aG r33) (d34:DnR K r34) (d35:MdR K aK r35) (d36:MdR K aA r36) (d37:MdR K aM r37) (d38:DnR K r38) (d39:DnR K r39) (d40:DnR K r40) (d41:DnR K r41) (d43:DnR K r43) (d44:DnR K r44) (d45:DnR K r45) (d47:DnR K r47) (d51:DnR K r51) (d53:MdR K aC r53) (d54:MdR K aC r54) (d55:MdR K aC r55) (d56:MdR K aC r56) (d57:MdR K aC r57) (d60:DnD K r60 (.int 1000 c9)) (d61:DnR K r61) (d62:DnR K r62) (d63:DnR K r63) (d64:DnR K r64) (d65:DnR K r65) (d66:DnR K r66) (d67:DnR K r67) (d68:DnR K r68) (d69:DnR K r69) (d70:DnR K r70) (d71:DnR K r71) (d72:DnR K r72) (ia:PySem.W.findIn K (.ref aD) "__init__"=some (some (.ref cL))) (ib:PySem.W.specialIn K (.ref aD) "__getattribute__"=some (some (.builtin "type.__getattribute__"))) (ic:PySem.W.readsIn K aD (.type "type")=true) (id_:PySem.W.findCls K (.ref aD) (.type "type") "__init__"=some (.val (.ref cL))) (ie:PySem.W.handedIn (.ref cL)=true) (a6:PySem.W.nsIn K mainGlobals "MOST_PARTS"=some (some (.int 300 bg))) (a3:PySem.W.nsIn K mainGlobals "MOST_WITHIN"=some (some (.int 20 bF))) (a4:PySem.W.nsIn K mainGlobals "MOST_IN_ROW"=some (some (.int 4 bC))) (bA:PySem.W.nsIn K mainGlobals "LAST_PLACE"=some (some (.int 599 bJ))) (br:PySem.W.nsIn K mainGlobals "LETTERS"=some (some (.str "abcdefghijklmnopqrstuvwxyz" cG))) (c3:PySem.W.nsIn K mainGlobals "OPS"=some (some (.ref c1))) (c8:TxA K c1 ((["add","sub","mul","less","same"]:List Str).map V.str)) (cv:PySem.W.nsIn K mainGlobals "HEADS"=some (some (.ref bw))) (cx:TxA K bw ((["fn","call","let","set","do","if","add","sub","mul","less","same","make","match","raise","try","tell","ask"]:List Str).map V.str)) (ck:PySem.W.nsIn K mainGlobals "FORMS"=some (some (.ref aF))) (cs:K.lookup aF=some ⟨.type "dict",none,.dict bh cw,#[]⟩) (cq:PySem.W.KeysLit w.params bh.toList) (ci:(aF == sysModules)=false) (co:nsB K aF dC=true) (cC:PySem.W.nsIn K aF "number"=some (some (.ref au))) (cf:TxA K au ((["number"]:List Str).map V.str)) (cH:PySem.W.nsIn K aF "name"=some (some (.ref a0))) (cm:TxA K a0 ((["used"]:List Str).map V.str)) (cW:PySem.W.nsIn K aF "fn"=some (some (.ref ay))) (cg:TxA K ay ((["names","part"]:List Str).map V.str)) (b7:PySem.W.nsIn K aF "call"=some (some (.ref ax))) (ch:TxA K ax ((["part","parts"]:List Str).map V.str)) (cX:PySem.W.nsIn K aF "let"=some (some (.ref ar))) (cj:TxA K ar ((["name","part","part"]:List Str).map V.str)) (cK:PySem.W.nsIn K aF "set"=some (some (.ref aw))) (cc:TxA K aw ((["used","part"]:List Str).map V.str)) (cN:PySem.W.nsIn K aF "do"=some (some (.ref av))) (cr:TxA K av ((["part","part"]:List Str).map V.str)) (cR:PySem.W.nsIn K aF "if"=some (some (.ref aq))) (cb:TxA K aq ((["part","part","part"]:List Str).map V.str)) (cP:PySem.W.nsIn K aF "math"=some (some (.ref a1))) (cZ:TxA K a1 ((["op","part","part"]:List Str).map V.str)) (cJ:PySem.W.nsIn K aF "make"=some (some (.ref az))) (cl:TxA K az ((["word","parts"]:List Str).map V.str)) (bx:PySem.W.nsIn K aF "match"=some (some (.ref ai))) (cT:TxA K ai ((["part","word","names","part","part"]:List Str).map V.str)) (bq:PySem.W.nsIn K aF "raise"=some (some (.ref am))) (cB:TxA K am ((["word","part"]:List Str).map V.str)) (b0:PySem.W.nsIn K aF "try"=some (some (.ref al))) (cD:TxA K al ((["part","word","name","part"]:List Str).map V.str)) (bv:PySem.W.nsIn K aF "tell"=some (some (.ref af))) (b9:TxA K af ((["part"]:List Str).map V.str)) (bu:PySem.W.nsIn K aF "ask"=some (some (.ref aj))) (cF:TxA K aj (([]:List Str).map V.str)) (cA:PySem.W.nsIn K mainGlobals "SCOPES"=some (some (.ref aI))) (cS:K.lookup aI=some ⟨.type "dict",none,.dict a9 cd,#[]⟩) (b8:PySem.W.KeysLit w.params a9.toList) (cM:(aI == sysModules)=false) (cY:nsB K aI en=true) (b3:PySem.W.nsIn K aI "fn"=some (some (.ref ag))) (cU:TxA K ag (([2,3]:List Int).map V.int)) (b5:PySem.W.nsIn K aI "let"=some (some (.ref ae))) (cV:TxA K ae (([2,4]:List Int).map V.int)) (b1:PySem.W.nsIn K aI "match"=some (some (.ref ad))) (b6:TxA K ad (([4,5]:List Int).map V.int)) (bs:PySem.W.nsIn K aI "try"=some (some (.ref ah))) (cE:TxA K ah (([4,5]:List Int).map V.int)) (bG:PySem.W.nsIn K mainGlobals "MOST_CALLS"=some (some (.int 50 bM))) (bk:PySem.W.nsIn K mainGlobals "NO_DEEDS"=some (some (.ref a2))) (bz:TxA K a2 ((["let","do","try"]:List Str).map V.str)) (cp:PySem.W.nsIn K mainGlobals "LEAVE"=some (some (.ref bt))) (c2:TxA K bt ((["leave"]:List Str).map V.str)) (bm:PySem.W.nsIn K mainGlobals "FINISHES"=some (some (.ref aB))) (bn:K.lookup aB=some ⟨.type "dict",none,.dict ao b4,#[]⟩) (bj:PySem.W.KeysLit w.params ao.toList) (bp:(aB == sysModules)=false) (bi:nsB K aB ef=true) (bP:PySem.W.nsIn K aB "let"=some (some (.ref aY))) (bW:PySem.W.nsIn K mainGlobals "finish_let"=some (some (.ref aY))) (bI:PySem.W.nsIn K aB "do"=some (some (.ref aV))) (bQ:PySem.W.nsIn K mainGlobals "finish_do"=some (some (.ref aV))) (bZ:PySem.W.nsIn K aB "try"=some (some (.ref ac))) (bV:PySem.W.nsIn K mainGlobals "finish_try"=some (some (.ref ac))) (bK:PySem.W.nsIn K aB "fn"=some (some (.ref aZ))) (be:PySem.W.nsIn K mainGlobals "finish_fn"=some (some (.ref aZ))) (bL:PySem.W.nsIn K aB "call"=some (some (.ref ab))) (bb:PySem.W.nsIn K mainGlobals "finish_call"=some (some (.ref ab))) (bf:PySem.W.nsIn K aB "set"=some (some (.ref aW))) (bc:PySem.W.nsIn K mainGlobals "finish_set"=some (some (.ref aW))) (bX:PySem.W.nsIn K aB "if"=some (some (.ref aT))) (bS:PySem.W.nsIn K mainGlobals "finish_if"=some (some (.ref aT))) (bN:PySem.W.nsIn K aB "math"=some (some (.ref aX))) (bO:PySem.W.nsIn K mainGlobals "finish_math"=some (some (.ref aX))) (bd:PySem.W.nsIn K aB "make"=some (some (.ref aU))) (bU:PySem.W.nsIn K mainGlobals "finish_make"=some (some (.ref aU))) (bY:PySem.W.nsIn K aB "match"=some (some (.ref aa))) (bR:PySem.W.nsIn K mainGlobals "finish_match"=some (some (.ref aa))) (bH:PySem.W.nsIn K aB "raise"=some (some (.ref aS))) (a7:PySem.W.nsIn K mainGlobals "finish_raise"=some (some (.ref aS))) (bD:PySem.W.nsIn K aB "tell"=some (some (.ref aR))) (bB:PySem.W.nsIn K mainGlobals "finish_tell"=some (some (.ref aR))) (a8:PySem.W.nsIn K aB "ask"=some (some (.ref aQ))) (bE:PySem.W.nsIn K mainGlobals "finish_ask"=some (some (.ref aQ))) (c6:∀ ns:List Int,ns.length<=63->(callG ups tab fw (d+1)).call 72 [.kl (ns.map U.int)] [] (fun _ _=>False) (fun v _=>v = .bl true))
  :∃ fd:FuncData,(∀ (s:Shared) (v:Value),BindsTo s fd ⟨[v],[]⟩ [("_law_script",v)])/\∀ base:Heap,K.In base->base.Ns mainGlobals mg->FnOk l.prog w K mg base (CXz l.prog w) (2 * (d+1)+1) fa fd ["_law_script"] (spLaw K 63):=by
 have hgl:∀ base,∀ p∈gls,GlOk l.prog w base (mkB K mg (cl8 aH aD aE aG aK aA aM aC) [(aF,dz,dC),(aI,eN,en),(aB,dJ,ef)]) ups tb rows p:=fun base=>(allc (gr X G ap d1 rfl (mr 0 rfl) (xAc (i:=0) rfl) (bd3 rfl) (fun _=>cI) (fun z=>absurd z (by decide +kernel)))
   (allc (gr X G aP d2 rfl (mr 1 rfl) (xAc (i:=1) rfl) (bd2 rfl) (fun _=>bT) (fun _=>uz ia ib ic id_ ie))
   (allc (dt X G d3 (mr 2 rfl) (bd1 rfl))
   (allc (dt X G d4 (mr 3 rfl) (bd1 rfl))
   (allc (dt X G d5 (mr 4 rfl) (bd1 rfl))
   (allc (dt X G d6 (mr 5 rfl) (bd3 rfl))
   (allc (dt X G d7 (mr 6 rfl) (bd3 rfl))
   (allc (dt X G d9 (mr 7 rfl) (bd2 rfl))
   (allc (dt X G d10 (mr 8 rfl) (bd1 rfl))
   (allc (dt X G d11 (mr 9 rfl) (bd2 rfl))
   (allc (dt X G d12 (mr 10 rfl) (bd1 rfl))
   (allc (dt X G d13 (mr 11 rfl) (bd1 rfl))
   (allc (dt X G d14 (mr 12 rfl) (bd1 rfl))
   (allc (dt X G d15 (mr 13 rfl) (bd1 rfl))
   (allc (dt X G d16 (mr 14 rfl) (bd1 rfl))
   (allc (dt X G d17 (mr 15 rfl) (bd1 rfl))
   (allc (gr X G aN d18 rfl (mr 16 rfl) (xAc (i:=2) rfl) (bd1 rfl) (fun z=>absurd z (by decide +kernel)) (fun z=>absurd z (by decide +kernel)))
   (allc (dt X G d22 (mr 20 rfl) (bd1 rfl))
   (allc (dt X G d23 (mr 21 rfl) (bd1 rfl))
   (allc (dt X G d24 (mr 22 rfl) (bd3 rfl))
   (allc (dt X G d25 (mr 23 rfl) (bd1 rfl))
   (allc (uC X G aO d26 rfl (mr 24 rfl) (xAc (i:=3) rfl) b26 (by decide +kernel) (by decide +kernel))
   (allc (dt X G d34 (mr 30 rfl) (bd1 rfl))
   (allc (gr X G a5 d35 rfl (mr 31 rfl) (xAc (i:=4) rfl) (bd2 rfl) (fun z=>absurd z (by decide +kernel)) (fun z=>absurd z (by decide +kernel)))
   (allc (gr X G aL d36 rfl (mr 32 rfl) (xAc (i:=5) rfl) (bd3 rfl) (fun z=>absurd z (by decide +kernel)) (fun z=>absurd z (by decide +kernel)))
   (allc (gr X G bo d37 rfl (mr 33 rfl) (xAc (i:=6) rfl) (bd4 rfl) (fun z=>absurd z (by decide +kernel)) (fun z=>absurd z (by decide +kernel)))
   (allc (dt X G d38 (mr 34 rfl) (bd3 rfl))
   (allc (dt X G d39 (mr 35 rfl) (bd1 rfl))
   (allc (dt X G d40 (mr 36 rfl) (bd3 rfl))
   (allc (dt X G d41 (mr 37 rfl) (bd3 rfl))
   (allc (dt X G d43 (mr 38 rfl) (bd3 rfl))
   (allc (dt X G d44 (mr 39 rfl) (bd3 rfl))
   (allc (dt X G d45 (mr 40 rfl) (bd3 rfl))
   (allc (dt X G d47 (mr 41 rfl) (bd3 rfl))
   (allc (dt X G d51 (mr 42 rfl) (bd3 rfl))
   (allc (gr X G aJ d53 rfl (mr 43 rfl) (xAc (i:=7) rfl) (bd3 rfl) (fun z=>absurd z (by decide +kernel)) (fun z=>absurd z (by decide +kernel)))
   (allc (uB X G d60 (mr 48 rfl) b60)
   (allc (dt X G d61 (mr 49 rfl) (bd2 rfl))
   (allc (dt X G d62 (mr 50 rfl) (bd1 rfl))
   (allc (dt X G d63 (mr 51 rfl) (bd1 rfl))
   (allc (dt X G d64 (mr 52 rfl) (bd2 rfl))
   (allc (dt X G d65 (mr 53 rfl) (bd3 rfl))
   (allc (dt X G d66 (mr 54 rfl) (bd4 rfl))
   (allc (dt X G d67 (mr 55 rfl) (bd3 rfl))
   (allc (dt X G d68 (mr 56 rfl) (bd5 rfl))
   (allc (dt X G d69 (mr 57 rfl) (bd4 rfl))
   (allc (dt X G d70 (mr 58 rfl) (bd5 rfl))
   (allc (dt X G d71 (mr 59 rfl) (bd4 rfl))
   (allc (dt X G d72 (mr 60 rfl) (show BdC r72 from bd1 rfl))
   (allc (gq X G a6)
   (allc (gq X G a3)
   (allc (gq X G a4)
   (allc (gq X G bA)
   (allc (uA X G br)
   (allc (kR X G c3 fun W=>(ktS c8) W)
   (allc (kR X G cv fun W=>(ktS cx) W)
   (allc (oG X G ck (xAc (i:=0) rfl))
   (allc (oG X G cA (xAc (i:=1) rfl))
   (allc (gq X G bG)
   (allc (kR X G bk fun W=>(ktS bz) W)
   (allc (kR X G cp fun W=>(ktS c2) W)
   (allc (oG X G bm (xAc (i:=2) rfl))
   alln))))))))))))))))))))))))))))))))))))))))))))))))))))))))))))))
 have hms:∀ p∈mss,MsOk (mkB K mg (cl8 aH aD aE aG aK aA aM aC) [(aF,dz,dC),(aI,eN,en),(aB,dJ,ef)]) rows p:=(allc (eQ (by kernel_rfl) aN d19 (mr 17 rfl) (xAc (i:=2) rfl) (bd4 rfl))
   (allc (eQ (by kernel_rfl) aN d20 (mr 18 rfl) (xAc (i:=2) rfl) (bd2 rfl))
   (allc (eQ (by kernel_rfl) aN d21 (mr 19 rfl) (xAc (i:=2) rfl) (bd5 rfl))
   (allc (eQ (by kernel_rfl) aO d27 (mr 25 rfl) (xAc (i:=3) rfl) (bd2 rfl))
   (allc (eQ (by kernel_rfl) aO d29 (mr 26 rfl) (xAc (i:=3) rfl) (bd2 rfl))
   (allc (eQ (by kernel_rfl) aO d30 (mr 27 rfl) (xAc (i:=3) rfl) (bd2 rfl))
   (allc (eQ (by kernel_rfl) aO d31 (mr 28 rfl) (xAc (i:=3) rfl) (bd1 rfl))
   (allc (eQ (by kernel_rfl) aO d33 (mr 29 rfl) (xAc (i:=3) rfl) (bd2 rfl))
   (allc (eQ (by kernel_rfl) aJ d54 (mr 44 rfl) (xAc (i:=7) rfl) (bd1 rfl))
   (allc (eQ (by kernel_rfl) aJ d55 (mr 45 rfl) (xAc (i:=7) rfl) (bd4 rfl))
   (allc (eQ (by kernel_rfl) aJ d56 (mr 46 rfl) (xAc (i:=7) rfl) (bd2 rfl))
   (allc (eQ (by kernel_rfl) aJ d57 (mr 47 rfl) (xAc (i:=7) rfl) (bd2 rfl))
   alln))))))))))))
 have hcl:∀ p∈(cl8 aH aD aE aG aK aA aM aC),Cls K p.2/\PySem.W.findIn K (.ref p.2) "__class__"=some (some (.builtin "object.__class__"))/\PySem.W.mroIn K p.2 (.type "object")=some true:=(allc ⟨ap.cls,ap.ha,ap.hm⟩
   (allc ⟨aP.cls,aP.ha,aP.hm⟩
   (allc ⟨aN.cls,aN.ha,aN.hm⟩
   (allc ⟨aO.cls,aO.ha,aO.hm⟩
   (allc ⟨a5.cls,a5.ha,a5.hm⟩
   (allc ⟨aL.cls,aL.ha,aL.hm⟩
   (allc ⟨bo.cls,bo.ha,bo.hm⟩
   (allc ⟨aJ.cls,aJ.ha,aJ.hm⟩
   alln))))))))
 have hno:∀ p∈(cl8 aH aD aE aG aK aA aM aC),noneB K p.2 fls=true:=(allc ce
   (allc bl
   (allc b2
   (allc cu
   (allc cy
   (allc ak
   (allc c4
   (allc ba
   alln))))))))
 have hkd:∀ q∈([(aF,dz,dC),(aI,eN,en),(aB,dJ,ef)]:List (Addr×List (Str×U)×List Str)),KdOk w (mkB K mg (cl8 aH aD aE aG aK aA aM aC) [(aF,dz,dC),(aI,eN,en),(aB,dJ,ef)]) q:=(allc ⟨⟨_,_,cs,cq,ci⟩,(allc ⟨.ref au,_,cC,rfl,fun W=>(ktS cf) W⟩ (allc ⟨.ref a0,_,cH,rfl,fun W=>(ktS cm) W⟩ (allc ⟨.ref ay,_,cW,rfl,fun W=>(ktS cg) W⟩ (allc ⟨.ref ax,_,b7,rfl,fun W=>(ktS ch) W⟩ (allc ⟨.ref ar,_,cX,rfl,fun W=>(ktS cj) W⟩ (allc ⟨.ref aw,_,cK,rfl,fun W=>(ktS cc) W⟩ (allc ⟨.ref av,_,cN,rfl,fun W=>(ktS cr) W⟩ (allc ⟨.ref aq,_,cR,rfl,fun W=>(ktS cb) W⟩ (allc ⟨.ref a1,_,cP,rfl,fun W=>(ktS cZ) W⟩ (allc ⟨.ref az,_,cJ,rfl,fun W=>(ktS cl) W⟩ (allc ⟨.ref ai,_,bx,rfl,fun W=>(ktS cT) W⟩ (allc ⟨.ref am,_,bq,rfl,fun W=>(ktS cB) W⟩ (allc ⟨.ref al,_,b0,rfl,fun W=>(ktS cD) W⟩ (allc ⟨.ref af,_,bv,rfl,fun W=>(ktS b9) W⟩ (allc ⟨.ref aj,_,bu,rfl,fun W=>(ktS cF) W⟩ alln))))))))))))))),co⟩
   (allc ⟨⟨_,_,cS,b8,cM⟩,(allc ⟨.ref ag,_,b3,rfl,fun W=>(ktI cU) W⟩ (allc ⟨.ref ae,_,b5,rfl,fun W=>(ktI cV) W⟩ (allc ⟨.ref ad,_,b1,rfl,fun W=>(ktI b6) W⟩ (allc ⟨.ref ah,_,bs,rfl,fun W=>(ktI cE) W⟩ alln)))),cY⟩
   (allc ⟨⟨_,_,bn,bj,bp⟩,(allc ⟨.ref aY,_,bP,rfl,fun _=>⟨_,rfl,PySem.W.mg_of X G bW⟩⟩ (allc ⟨.ref aV,_,bI,rfl,fun _=>⟨_,rfl,PySem.W.mg_of X G bQ⟩⟩ (allc ⟨.ref ac,_,bZ,rfl,fun _=>⟨_,rfl,PySem.W.mg_of X G bV⟩⟩ (allc ⟨.ref aZ,_,bK,rfl,fun _=>⟨_,rfl,PySem.W.mg_of X G be⟩⟩ (allc ⟨.ref ab,_,bL,rfl,fun _=>⟨_,rfl,PySem.W.mg_of X G bb⟩⟩ (allc ⟨.ref aW,_,bf,rfl,fun _=>⟨_,rfl,PySem.W.mg_of X G bc⟩⟩ (allc ⟨.ref aT,_,bX,rfl,fun _=>⟨_,rfl,PySem.W.mg_of X G bS⟩⟩ (allc ⟨.ref aX,_,bN,rfl,fun _=>⟨_,rfl,PySem.W.mg_of X G bO⟩⟩ (allc ⟨.ref aU,_,bd,rfl,fun _=>⟨_,rfl,PySem.W.mg_of X G bU⟩⟩ (allc ⟨.ref aa,_,bY,rfl,fun _=>⟨_,rfl,PySem.W.mg_of X G bR⟩⟩ (allc ⟨.ref aS,_,bH,rfl,fun _=>⟨_,rfl,PySem.W.mg_of X G a7⟩⟩ (allc ⟨.ref aR,_,bD,rfl,fun _=>⟨_,rfl,PySem.W.mg_of X G bB⟩⟩ (allc ⟨.ref aQ,_,a8,rfl,fun _=>⟨_,rfl,PySem.W.mg_of X G bE⟩⟩ alln))))))))))))),bi⟩
   alln)))
 have pf:∀ base,Pf l.prog w base (mkB K mg (cl8 aH aD aE aG aK aA aM aC) [(aF,dz,dC),(aI,eN,en),(aB,dJ,ef)]) ups tb rows:=fun base =>
  vN (hgl base) hms (fun x hx=>PySem.W.mg_none_of X G (io (List.all_eq_true.mp c7 x hx))) (kitT cz) (kitT cn) (kitT c0) (kitT cQ) (clF (fun p hp=>(hcl p hp).1) hno) (clT hcl hn_ ht_) (kdF hkd)
 obtain ⟨f,fd,h0,F⟩:=d72;have e:=hfa.symm.trans (PySem.W.mg_of X G h0);cases e;refine ⟨fd,fun s v=>?_,fun base _ _=>?_⟩
 ·obtain ⟨oc,od,kV,doc,pm,an,cdv,ct,osl,rfl,_⟩:=F.ex;exact .of_eq ((show BdC r72 from bd1 rfl) kV doc pm an cdv ct [v] rfl)
 ·exact (vn (fw:=fw) (pf base) rowsC (r:=r72) (mr 60 rfl) (Fun.fa F) d).imp fun vs H Q E z=>uh (B:=mkB K mg (cl8 aH aD aE aG aK aA aM aC) [(aF,dz,dC),(aI,eN,en),(aB,dJ,ef)]) (monG (d+1)) c6 vs H Q E z
noncomputable def rO (w jl pl:Nat):Ob:=.ins "SourceRun" [("world",.ref w),("jobs",.ref jl),("pile",.ref pl)]
noncomputable def wO (il ll dl:Nat) (mo ca dp:Int):Ob:=.ins "World" [("inputs",.ref il),("taken",.int 0),("most",.int mo),("log",.ref ll),("deeds",.ref dl),("calls",.int ca),("deepest",.int dp)]
noncomputable def jO (p:U) (sc:Nat) (la:Bool) (h:U) (c:Int):Ob:=.ins "Job" [("part",p),("scope",.ref sc),("last",.bl la),("height",h),("calls",.int c)]
noncomputable def cO (u:U):Ob:=.ins "Cell" [("inside",u)]
noncomputable def fO (pl:Int) (ps b:U) (sc:Nat):Ob:=.ins "SourceFunction" [("place",.int pl),("params",ps),("body",b),("scope",.ref sc)]
structure Ad where
 r:Nat
 w:Nat
 il:Nat
 ll:Nat
 dl:Nat
 jl:Nat
 ks:List (Nat×List U)
structure Mc where
 pl:Nat
 js:List U
 ps:List U
 ds:List U
 lg:List U
 ca:Int
 dp:Int
noncomputable def kd:Ob->Str
 | .lst _=>""
 | .dct _=>"d"
 | .ins C _=>C
 | .dead=>"x"
theorem dRW:("SourceRun":Str)≠"World":=by decide
theorem dRl:("SourceRun":Str)≠"":=by decide
theorem dWl:("World":Str)≠"":=by decide
theorem dJR:("Job":Str)≠"SourceRun":=by decide
theorem dJW:("Job":Str)≠"World":=by decide
theorem dJl:("Job":Str)≠"":=by decide
section
variable {S S1 S2 S':So} {p q j j1:Nat} {o o1 o2 o':Ob} {A:Ad} {mo:Nat} {M:Mc} {xs:List U} {v:U} {cm cm1 cm2:List Nat}
theorem neK (h1:at? S p=some o1) (h2:at? S q=some o2) (h:kd o1≠kd o2):p≠q:=fun e=>by
 subst e;rw [h1] at h2;injection h2 with h2;exact h (by rw [h2])
theorem atN (h:p≠q) (h2:at? S q=some o2):at? (set S p o') q=some o2:=by
 rw [atNe h];exact h2
theorem atK (h1:at? S p=some o1) (h2:at? S q=some o2) (h:kd o1≠kd o2):at? (set S p o') q=some o2:=atN (neK h1 h2 h) h2
structure RS (A:Ad) (mo:Nat) (M:Mc) (S:So):Prop where
 run:at? S A.r=some (rO A.w A.jl M.pl)
 wor:at? S A.w=some (wO A.il A.ll A.dl mo M.ca M.dp)
 jb:at? S A.jl=some (.lst M.js)
 pi:at? S M.pl=some (.lst M.ps)
 de:at? S A.dl=some (.lst M.ds)
 lo:at? S A.ll=some (.lst M.lg)
 n1:A.jl≠M.pl
 n2:A.jl≠A.dl
 n3:M.pl≠A.dl
 n4:A.jl≠A.ll
 n5:M.pl≠A.ll
 n6:A.dl≠A.ll
 cd:M.ca<=M.dp
 ke:∀ k∈A.ks,at? S k.1=some (.lst k.2)
 m:∀ k∈A.ks,A.jl≠k.1/\M.pl≠k.1/\A.dl≠k.1/\A.ll≠k.1
theorem RS.app {T:So} (R:RS A mo M S):RS A mo M (S++T):=⟨atApp R.run,atApp R.wor,atApp R.jb,atApp R.pi,atApp R.de,atApp R.lo,R.n1,R.n2,R.n3,R.n4,R.n5,R.n6,R.cd,fun k h=>atApp (R.ke k h),R.m⟩
theorem RS.oth (R:RS A mo M S) (h:at? S p=some o) (h1:kd o≠"SourceRun") (h2:kd o≠"World") (h3:kd o≠""):RS A mo M (set S p o'):=⟨atK h R.run h1,atK h R.wor h2,atK h R.jb h3,atK h R.pi h3,atK h R.de h3,atK h R.lo h3,R.n1,R.n2,R.n3,R.n4,R.n5,R.n6,R.cd,fun k z=>atK h (R.ke k z) h3,R.m⟩
theorem RS.deed (R:RS A mo M S):RS A mo { M with ds:=xs } (set S A.dl (.lst xs)):=⟨atK R.de R.run dRl.symm,atK R.de R.wor dWl.symm,atN R.n2.symm R.jb,atN R.n3.symm R.pi,atSet R.de,atN R.n6 R.lo,R.n1,R.n2,R.n3,R.n4,R.n5,R.n6,R.cd,fun k z=>atN (R.m k z).2.2.1 (R.ke k z),R.m⟩
theorem RS.told (R:RS A mo M S):RS A mo { M with lg:=xs } (set S A.ll (.lst xs)):=⟨atK R.lo R.run dRl.symm,atK R.lo R.wor dWl.symm,atN R.n4.symm R.jb,atN R.n5.symm R.pi,atN R.n6.symm R.de,atSet R.lo,R.n1,R.n2,R.n3,R.n4,R.n5,R.n6,R.cd,fun k z=>atN (R.m k z).2.2.2 (R.ke k z),R.m⟩
theorem RS.jobs (R:RS A mo M S):RS A mo { M with js:=xs } (set S A.jl (.lst xs)):=⟨atK R.jb R.run dRl.symm,atK R.jb R.wor dWl.symm,atSet R.jb,atN R.n1 R.pi,atN R.n2 R.de,atN R.n4 R.lo,R.n1,R.n2,R.n3,R.n4,R.n5,R.n6,R.cd,fun k z=>atN (R.m k z).1 (R.ke k z),R.m⟩
theorem RS.pile (R:RS A mo M S):RS A mo { M with ps:=xs } (set S M.pl (.lst xs)):=⟨atK R.pi R.run dRl.symm,atK R.pi R.wor dWl.symm,atN R.n1.symm R.jb,atSet R.pi,atN R.n3 R.de,atN R.n5 R.lo,R.n1,R.n2,R.n3,R.n4,R.n5,R.n6,R.cd,fun k z=>atN (R.m k z).2.1 (R.ke k z),R.m⟩
theorem RS.cut (R:RS A mo M S):RS A mo { M with ps:=xs,pl:=S.length } (set (S++[.lst xs]) A.r (rO A.w A.jl S.length)) :=
 have R':=R.app (T:=[.lst xs])
 ⟨atSet R'.run,atK R'.run R'.wor dRW,atK R'.run R'.jb dRl,atK R'.run atNew dRl,atK R'.run R'.de dRl,atK R'.run R'.lo dRl,xA0 (atLt R.jb),R.n2,(xA0 (atLt R.de)).symm,R.n4,(xA0 (atLt R.lo)).symm,R.n6,R.cd,fun k z=>atK R'.run (R'.ke k z) dRl,fun k z=>⟨(R.m k z).1,(xA0 (atLt (R.ke k z))).symm,(R.m k z).2.2⟩⟩
theorem RS.calls (R:RS A mo M S) {a b:Int} (h:a<=b):RS A mo { M with ca:=a,dp:=b } (set S A.w (wO A.il A.ll A.dl mo a b)):=⟨atK R.wor R.run dRW.symm,atSet R.wor,atK R.wor R.jb dWl,atK R.wor R.pi dWl,atK R.wor R.de dWl,atK R.wor R.lo dWl,R.n1,R.n2,R.n3,R.n4,R.n5,R.n6,h,fun k z=>atK R.wor (R.ke k z) dWl,R.m⟩
noncomputable def fz (q j:Nat):Ob->Prop
 | .dct _=>True
 | .ins C _=>C≠"SourceRun"/\C≠"World"/\(C="Job"->q<j)
 | _=>False
structure Le (j:Nat) (S S':So):Prop where
 len:S.length<=S'.length
 ky:∀ {q o},fz q j o->at? S q=some o->at? S' q=some o
theorem fz.up (f:fz q j o) (hj:j<=j1):fz q j1 o:=by
 cases o with
 | dct _=>trivial
 | ins C _=>exact ⟨f.1,f.2.1,fun e=>xBc (f.2.2 e) hj⟩
 | lst _=>exact f
 | dead=>exact f
theorem Le.refl:Le j S S:=⟨xAg _,fun _ h=>h⟩
theorem Le.trans (h1:Le j S S1) (h2:Le j1 S1 S2) (hj:j<=j1):Le j S S2:=⟨Nat.le_trans h1.len h2.len,fun f h=>h2.ky (f.up hj) (h1.ky f h)⟩
theorem Le.set (h:at? S p=some o) (hn:∀ j,¬ fz p j o):Le j S (set S p o'):=⟨by rw [lenSet];exact xAg _,fun {q o2} f h2=>atN (fun e=>by
 subst e;rw [h] at h2;injection h2 with h2;rw [h2] at hn;exact hn _ f) h2⟩
theorem Le.setj {P:U} {sc:Nat} {la:Bool} {h:U} {c:Int} (hj:at? S j=some (jO P sc la h c)):Le j S (Fx.set S j o'):=⟨by rw [lenSet];exact xAg _,fun {q o2} f h2=>atN (fun e=>by
 subst e;rw [hj] at h2;injection h2 with h2;rw [<- h2] at f;exact xBo _ (f.2.2 rfl)) h2⟩
theorem Le.app {T:So}:Le j S (S++T):=⟨by simp,fun _ h=>atApp h⟩
structure Lw (j:Nat) (S S':So) (cm cm':List Nat):Prop where
 len:S.length<=S'.length
 ky:∀ {q o},fz q j o->kd o≠"Cell"->at? S q=some o->at? S' q=some o
 ex:∃ t,cm'=cm++t
theorem Le.lw (l:Le j S S'):Lw j S S' cm cm:=⟨l.len,fun f _ h=>l.ky f h,[],(xB0 _).symm⟩
theorem Lw.trans (h1:Lw j S S1 cm cm1) (h2:Lw j1 S1 S2 cm1 cm2) (hj:j<=j1):Lw j S S2 cm cm2:=⟨Nat.le_trans h1.len h2.len,fun f g h=>h2.ky (f.up hj) g (h1.ky f g h),by
 obtain ⟨a,rfl⟩:=h1.ex;obtain ⟨b,rfl⟩:=h2.ex;exact ⟨a++b,xAx ..⟩⟩
theorem Lw.at (l:Lw j S S' cm cm1) {i a:Nat} (h:cm[i]?=some a):cm1[i]?=some a:=by
 obtain ⟨t,rfl⟩:=l.ex;rw [List.getElem?_append_left (xAq.mp h).1];exact h
theorem nzl {xs:List U}:∀ j,¬ fz p j (.lst xs):=fun _ h=>h
theorem nzr {a b c:Nat}:∀ j,¬ fz p j (rO a b c):=fun _ h=>h.1 rfl
theorem nzw {a b c:Nat} {d e f:Int}:∀ j,¬ fz p j (wO a b c d e f):=fun _ h=>h.2.1 rfl
theorem fzj {P:U} {sc:Nat} {la:Bool} {h:U} {c:Int} (hn:q<j):fz q j (jO P sc la h c):=⟨dJR,dJW,fun _=>hn⟩
theorem fzf {pl:Int} {ps b:U} {sc:Nat}:fz q j (fO pl ps b sc):=⟨by decide,by decide,fun h=>absurd h (by decide)⟩
theorem fzc {u:U}:fz q j (cO u):=⟨by decide,by decide,fun h=>absurd h (by decide)⟩
theorem Lw.job (l:Lw j S S' cm cm1) {P:U} {sc:Nat} {la:Bool} {h:U} {c:Int} (hn:q<j) (hq:at? S q=some (jO P sc la h c)):at? S' q=some (jO P sc la h c):=l.ky (fzj hn) (show ("Job":Str)≠"Cell" by decide) hq
def EnvR (S:So) (cm:List Nat) (env:List (Str×Nat)) (n sc:Nat):Prop:=∃ kvs,at? S sc=some (.dct kvs)/\kvs.length<=n/\∀ x i,getF x env=some i->∃ a,getK (.inr x) kvs=some (.ref a)/\cm[i]?=some a
theorem EnvR.lw {env:List (Str×Nat)} {n sc:Nat} (h:EnvR S cm env n sc) (l:Lw j S S' cm cm1):EnvR S' cm1 env n sc:=by
 obtain ⟨kvs,h1,h2,h3⟩:=h;refine ⟨kvs,l.ky trivial (show ("d":Str)≠"Cell" by decide) h1,h2,fun x i e=>?_⟩;obtain ⟨a,h4,h5⟩:=h3 x i e;exact ⟨a,h4,l.at h5⟩
inductive Vl where
 | int (i:Int) | fn (pl:Int) (ps:List Str) (b:U) (env:List (Str×Nat)) (n:Nat)
noncomputable def VR (S:So) (cm:List Nat):Vl->U->Prop
 | .int i,u=>u = .int i
 | .fn pl ps b env n,u=>∃ p sc,u = .ref p/\at? S p=some (fO pl (.tup (ps.map .str)) b sc)/\EnvR S cm env n sc
theorem VR.lw {V:Vl} {u:U} (h:VR S cm V u) (l:Lw j S S' cm cm1):VR S' cm1 V u:=by
 cases V with
 | int i=>exact h
 | fn pl ps b env n=>obtain ⟨p,sc,e,h1,h2⟩:=h;exact ⟨p,sc,e,l.ky fzf (show ("SourceFunction":Str)≠"Cell" by decide) h1,h2.lw l⟩
structure CellR (S:So) (cm:List Nat) (γ:List Vl):Prop where
 len:cm.length=γ.length
 nd:cm.Nodup
 at_:∀ {i:Nat} {V:Vl},γ[i]?=some V->∃ a u,cm[i]?=some a/\at? S a=some (cO u)/\VR S cm V u
theorem CellR.le {γ:List Vl} (h:CellR S cm γ) (l:Le j S S'):CellR S' cm γ:=⟨h.len,h.nd,fun e=>by
 obtain ⟨a,u,h1,h2,h3⟩:=h.at_ e;exact ⟨a,u,h1,l.ky fzc h2,h3.lw l.lw⟩⟩
theorem CellR.cell {γ:List Vl} (h:CellR S cm γ) {i a:Nat} (e:cm[i]?=some a):∃ u,at? S a=some (cO u):=by
 obtain ⟨hi,_⟩:=xAq.mp e;have hi':i<γ.length:=by rw [<- h.len];exact hi
 obtain ⟨a',u,h1,h2,_⟩:=h.at_ (xAk hi');rw [e] at h1;cases h1;exact ⟨u,h2⟩
theorem CellR.push {γ:List Vl} {V:Vl} {a:Nat} {u:U} (h:CellR S cm γ) (l:Le j S S') (hn:S.length<=a) (ha:at? S' a=some (cO u)) (hV:VR S cm V u):CellR S' (cm++[a]) (γ++[V])/\Lw j S S' cm (cm++[a]):=by
 have lw:Lw j S S' cm (cm++[a]):=⟨l.len,fun f _ h=>l.ky f h,_,rfl⟩
 refine ⟨⟨by rw [xAb,xAb,h.len];rfl,?_,fun {i W} e=>?_⟩,lw⟩
 ·refine xBq.mpr ⟨h.nd,xCb.mpr ⟨fun z=>(nomatch z),List.nodup_nil⟩,fun x hx y hy=>?_⟩;cases xAm.mp hy;obtain ⟨i,hi⟩:=List.getElem?_of_mem hx;obtain ⟨u',hu⟩:=h.cell hi;have:=atLt hu;lia
 ·rcases Nat.lt_or_ge i γ.length with hi | hi
  ·rw [List.getElem?_append_left hi] at e;obtain ⟨b,u',h1,h2,h3⟩:=h.at_ e;exact ⟨b,u',lw.at h1,l.ky fzc h2,h3.lw lw⟩
  ·rw [List.getElem?_append_right hi] at e;have:i - γ.length=0:=by
    have:=(xAq.mp e).1;simp at this;lia
   rw [this] at e;cases e;refine ⟨a,u,?_,ha,hV.lw lw⟩;rw [show i=cm.length by rw [h.len];lia,List.getElem?_append_right (xAg _),Nat.sub_self];rfl
theorem CellR.put {γ:List Vl} {V:Vl} {a i:Nat} {u:U} (h:CellR S cm γ) (ha:cm[i]?=some a) (hV:VR S cm V u):CellR (Fx.set S a (cO u)) cm (γ.set i V)/\Lw j S (Fx.set S a (cO u)) cm cm:=by
 obtain ⟨u0,hu0⟩:=h.cell ha;have lw:∀ j,Lw j S (Fx.set S a (cO u)) cm cm:=fun j=>⟨by rw [lenSet];exact xAg _,fun {q o} _ g h2=>atK hu0 h2 (Ne.symm g),[],(xB0 _).symm⟩
 refine ⟨⟨by rw [List.length_set];exact h.len,h.nd,fun {k W} e=>?_⟩,lw j⟩;rw [List.getElem?_set] at e;by_cases hk:i=k
 ·subst hk;rw [xCg rfl] at e;split at e
  ·cases e;exact ⟨a,u,ha,atSet hu0,hV.lw (lw 0)⟩
  ·cases e
 ·rw [xCf hk] at e;obtain ⟨b,u',h1,h2,h3⟩:=h.at_ e;refine ⟨b,u',h1,atN (fun z=>hk ?_) h2,h3.lw (lw 0)⟩;subst z;exact (List.getElem?_inj (xAq.mp ha).1 h.nd).mp (ha.trans h1.symm)
end
@[irreducible] noncomputable def Gd (fw d:Nat):Gx Prop:=callG ups tab fw d
theorem gD {fw d:Nat}:Gd fw d=callG ups tab fw d:=by unfold Gd;rfl
section
variable {fw d i:Nat} {p:Pm} {vs:List U} {S S':So} {x:Kx Prop} {k:Kv Prop} {v:U} {a b:Unit->Prop} {de:De}
theorem pd (e:pr ups p vs S = .ok v S') (h:k v S'):(Gd fw d).prim p vs S x k:=by rw [gD];exact pm e h
theorem pv (v:U) (h:k v S) (e:pr ups p vs S = .ok v S:=by rfl):(Gd fw d).prim p vs S x k:=pd e h
theorem bT (h:a ()):(Gd fw d).br true a b:=by rw [gD];exact brT h
theorem bF (h:b ()):(Gd fw d).br false a b:=by rw [gD];exact brF h
theorem bI {c:Bool} (h1:c=true->a ()) (h2:c=false->b ()):(Gd fw d).br c a b:=by
 cases c
 ·exact bF (h2 rfl)
 ·exact bT (h1 rfl)
theorem cd (de:De) (h:de.t (Gd fw d) (stU de.n vs) S (endsOf x k)) (e:tab i=some de:=by kernel_rfl) (hl:vs.length=de.np:=by rfl):(Gd fw (d+1)).call i vs S x k:=by
 rw [gD] at h ⊢;exact callD e hl h
theorem cm {x':Kx Prop} {k':Kv Prop} (hx:∀ e S,x' e S->x e S) (hk:∀ v S,k' v S->k v S) (h:(Gd fw d).call i vs S x' k'):(Gd fw d).call i vs S x k:=by
 rw [gD] at h ⊢;exact (monG d).call hx hk h
theorem fuel:(Gd fw d).fuel=fw:=by
 rw [gD];cases d <;> rfl
end
local macro_rules | `(tactic| walk_at "m")=>`(tactic| first | refine pd (f9 (by assumption) rfl) ?_ | refine bT ?_ | refine bF ?_ | refine pd (ga (by assumption) rfl) ?_ | refine pd (dH (by assumption)) ?_ | refine pd (by rfl) ?_)
section
variable {fw d:Nat} {S S1 S2 S':So} {j j1:Nat} {A:Ad} {mo:Nat} {M:Mc} {x:Kx Prop} {K:Kv Prop} {u v:U}
theorem qA {p:Int} (R:RS A mo M S) (hm:mo<=2000) (hl:M.ds.length<mo) (hk:∀ S',RS A mo { M with ds:=M.ds++[.int p] } S'->(∀ j,Le j S S')->K .non S'):(Gd fw (d+1)).call 27 [.ref A.w,.int p] S x K:=by
 refine cd ⟨2,2,t27⟩ ?_;have h1:=R.wor;have h2:=R.de;walk_at "m"
 refine pd (fV h2) ?_;walk_at "m"
 walk_at "m"
 refine bI (fun h=>?_) fun h=>?_
 ·have h:mo<=M.ds.length:=by simpa using h
  lia
 ·walk_at "m"
  walk_at "m"
  refine pd (dA h2 (by show _<=2 ^ 24;lia)) ?_;exact hk _ R.deed fun j=>Le.set h2 nzl
theorem sy {p:Int} (R:RS A mo M S) (hl:M.lg.length<=1000) (hk:∀ S',RS A mo { M with lg:=M.lg++[.int p] } S'->(∀ j,Le j S S')->K .non S'):(Gd fw (d+1)).call 29 [.ref A.w,.int p] S x K:=by
 refine cd ⟨2,2,t29⟩ ?_;have h1:=R.wor;have h2:=R.lo;walk_at "m"
 walk_at "m"
 refine pd (dA h2 (by show _<=2 ^ 24;lia)) ?_;exact hk _ R.told fun j=>Le.set h2 nzl
theorem oZ {p:Int} (R:RS A mo M S) (h:M.ca<50) (hk:∀ S',RS A mo { M with ca:=M.ca+1,dp:=if M.ca+1 > M.dp then M.ca+1 else M.dp } S'->(∀ j,Le j S S')->K .non S'):(Gd fw (d+1)).call 30 [.ref A.w,.int p] S x K:=by
 refine cd ⟨2,2,t30⟩ ?_;have h1:=R.wor;walk_at "m"
 refine pd (v:=.bl false) (S':=S) (by show Res.ok (.bl (decide ((50:Int)<=M.ca))) S=_;rw [decide_eq_false (by lia)]) ?_;walk_at "m"
 walk_at "m"
 walk_at "m"
 refine pd (dU (fs':=[("inputs",.ref A.il),("taken",.int 0),("most",.int mo),("log",.ref A.ll),("deeds",.ref A.dl),("calls",.int (M.ca+1)),("deepest",.int M.dp)]) h1 (by rfl) rfl) ?_;have h2:=atSet (o':=wO A.il A.ll A.dl mo (M.ca+1) M.dp) h1;walk_at "m"
 walk_at "m"
 walk_at "m"
 refine pd (dU (fs':=[("inputs",.ref A.il),("taken",.int 0),("most",.int mo),("log",.ref A.ll),("deeds",.ref A.dl),("calls",.int (M.ca+1)),("deepest",.int (if M.ca+1 > M.dp then M.ca+1 else M.dp))]) h2 (by rfl) rfl) ?_;rw [setSet];exact hk _ (R.calls (by split <;> lia)) fun j=>Le.set h1 nzw
theorem ot (R:RS A mo M S) (hk:∀ S',RS A mo { M with ca:=M.ca - 1 } S'->(∀ j,Le j S S')->K .non S'):(Gd fw (d+1)).call 31 [.ref A.w] S x K:=by
 refine cd ⟨1,1,t31⟩ ?_;have h1:=R.wor;have:=R.cd;walk_at "m"
 walk_at "m"
 refine pd (dU (fs':=[("inputs",.ref A.il),("taken",.int 0),("most",.int mo),("log",.ref A.ll),("deeds",.ref A.dl),("calls",.int (M.ca - 1)),("deepest",.int M.dp)]) h1 (by rfl) rfl) ?_;exact hk _ (R.calls (by lia)) fun j=>Le.set h1 nzw
theorem oA {p:U} {sc:Nat} {la:Bool} (hk:K .non (S++[jO p sc la .non 0])):(Gd fw (d+1)).call 37 [.ref S.length,p,.ref sc,.bl la] (S++[.ins "Job" []]) x K:=by
 refine cd ⟨4,4,t37⟩ ?_;refine pd (dI (by rfl) rfl) ?_;refine pd (dI (by rfl) rfl) ?_;refine pd (dI (by rfl) rfl) ?_;refine pd (dI (by rfl) rfl) ?_;refine pd (dI (by rfl) rfl) ?_;exact hk
theorem gC {p:U} {sc:Nat} {la:Bool} (R:RS A mo M S) (hl:M.js.length<=100000) (hk:∀ S' q,RS A mo { M with js:=M.js++[.ref q] } S'->(∀ j,Le j S S')->S.length<=q->at? S' q=some (jO p sc la .non 0)->K .non S'):(Gd fw (d+2)).call 55 [.ref A.r,p,.ref sc,.bl la] S x K:=by
 refine cd ⟨4,4,t55⟩ ?_;have h1:=R.run;have h2:=R.jb;walk_at "m"
 walk_at "m"
 walk_at "m"
 refine oA ?_;have R':=R.app (T:=[jO p sc la .non 0]);refine pd (dA R'.jb (by show _<=2 ^ 24;lia)) ?_;exact hk _ S.length R'.jobs (fun j=>Le.app.trans (Le.set R'.jb nzl) (xAg _)) (xAg _) (atK R'.jb atNew dJl.symm)
theorem vi {u:U} (hk:K .non (S++[cO u])):(Gd fw (d+1)).call 35 [.ref S.length,u] (S++[.ins "Cell" []]) x K:=by
 refine cd ⟨2,2,t35⟩ ?_;refine pd (dI (by rfl) rfl) ?_;exact hk
theorem sw {n sc:Nat} {env:List (Str×Nat)} {cm:List Nat} (R:RS A mo M S) (he:EnvR S cm env n sc) (hk:∀ S' sc',RS A mo M S'->(∀ j,Le j S S')->EnvR S' cm env n sc'->K (.ref sc') S'):(Gd fw (d+2)).call 38 [.ref sc,.tup [],.lst []] S x K:=by
 refine cd ⟨3,6,t38⟩ ?_;obtain ⟨kvs,h1,h2,h3⟩:=he;refine pd (iW h1) ?_;refine pd (v:=.tup []) (S':=S++[.dct kvs]) (by rfl) ?_;exact hk _ S.length R.app (fun j=>Le.app) ⟨kvs,atNew,h2,h3⟩
theorem m6 {n sc:Nat} {env:List (Str×Nat)} {cm:List Nat} {γ:List Vl} {y:Str} {V:Vl} (R:RS A mo M S) (he:EnvR S cm env n sc) (hC:CellR S cm γ) (hn:n<=100000) (hV:VR S cm V u) (hk:∀ S' sc' cm',RS A mo M S'->(∀ j,Lw j S S' cm cm')->EnvR S' cm' ((y,γ.length)::env) (n+1) sc'->CellR S' cm' (γ++[V])->K (.ref sc') S'):(Gd fw (d+2)).call 38 [.ref sc,.tup [.str y],.lst [u]] S x K:=by
 refine cd ⟨3,6,t38⟩ ?_;obtain ⟨kvs,h1,h2,h3⟩:=he;refine pd (iW h1) ?_;refine pd (v:=.tup [.tup [.str y,u]]) (S':=S++[.dct kvs]) (by rfl) ?_;walk_at "m"
 refine vi ?_;refine pd (eG (kvs:=kvs) (atApp atNew) (by show _<=2 ^ 24;lia)) ?_;have e3:(S++[Ob.dct kvs]).length=S.length+1:=by simp
 have e:set (S++[Ob.dct kvs]++[cO u]) S.length (.dct (putK (.inr y) (.ref (S.length+1)) kvs))=S++[.dct (putK (.inr y) (.ref (S.length+1)) kvs),cO u]:=by
  rw [xAx];exact setMid
 rw [e3,e];have l:∀ j,Le j S (S++[.dct (putK (.inr y) (.ref (S.length+1)) kvs),cO u]):=fun j=>Le.app;have p:=fun j=>hC.push (V:=V) (l j) (Nat.le_succ S.length) atMid1 hV;refine hk _ S.length (cm++[S.length+1]) R.app (fun j=>(p j).2) ⟨_,atMid,Nat.le_trans nw (by lia),fun z i e=>?_⟩ (p 0).1;by_cases hz:z=y
 ·subst hz;have:i=γ.length:=by simpa [getF] using e.symm
  subst this;refine ⟨_,je,?_⟩;rw [<- hC.len,List.getElem?_append_right (xAg _),Nat.sub_self];rfl
 ·have:getF z env=some i:=by simpa [getF,hz] using e
  obtain ⟨a,h4,h5⟩:=h3 z i this;exact ⟨a,by rw [kT (by simpa using hz)];exact h4,(p 0).2.at h5⟩
end
theorem tz {up:List (Str×Str)} {S:So} {a b:Str} (h:a=b):pr up .eq [.str a,.str b] S = .ok (.bl true) S:=by
 show Res.ok (.bl (decide (a=b))) S=_;rw [xBd h]
theorem tD {up:List (Str×Str)} {S:So} {a b:Str} (h:a≠b):pr up .eq [.str a,.str b] S = .ok (.bl false) S:=by
 show Res.ok (.bl (decide (a=b))) S=_;rw [decide_eq_false h]
theorem nF {up:List (Str×Str)} {S:So} {v:U} {r:List U}:pr up .ix [.tup (v::r),.int 0] S = .ok v S:=by
 show opt (atI (v::r) ((0:Nat):Int)) S=_;rw [eh (v:=v) rfl];rfl
local macro_rules | `(tactic| walk_at "w")=>`(tactic| repeat first | refine pd (tz rfl) ?_ | refine pd (tD (by first | assumption | decide)) ?_ | refine pd (f9 (by assumption) rfl) ?_ | refine bT ?_ | refine bF ?_ | refine pd (ga (by assumption) rfl) ?_ | refine pd (dH (by assumption)) ?_ | refine pd (by rfl) ?_ | refine pd nF ?_)
section
variable {fw d:Nat} {S S1 S2 S':So} {j j1:Nat} {A:Ad} {mo:Nat} {M:Mc} {x:Kx Prop} {K:Kv Prop} {u v:U} {p:Nat} {C:Str} {fs:List (Str×U)}
theorem e8 {i:Int} (hk:K (.bl true) S):(Gd fw (d+1)).call 3 [.int i] S x K:=by
 refine cd ⟨1,1,t3⟩ ?_;walk_at "w"
 exact hk
theorem tx {D:Str} (h:at? S p=some (.ins C fs)):pr ups (.isC D) [.ref p] S = .ok (.bl (isC ups C D)) S:=by
 show isCU D (.ref p) S ups=_;unfold isCU;dsimp only;rw [h]
theorem wZ {pl:Int} {ps:List U} {b:U} {sc:Nat} (h:at? S p=some (fO pl (.tup ps) b sc)) (hk:K .non S):(Gd fw (d+1)).call 9 [.ref p,.int ps.length] S x K:=by
 refine cd ⟨2,2,t9⟩ ?_;refine pd (v:=.bl true) (S':=S) (by rw [tx h];rfl) ?_;walk_at "w"
 refine bI (fun _=>?_) fun h=>absurd (show (ps.length:Int)=ps.length from rfl) (of_decide_eq_false h);exact hk
theorem nr {a b:Int} (hk:K (.int (a+b)) S):(Gd fw (d+1)).call 7 [.str "add",.int a,.int b] S x K:=by
 refine cd ⟨3,3,t7⟩ ?_;walk_at "w"
 exact hk
def big (i:Int):Prop:=10 ^ 40<=(if i<0 then -i else i)
instance:Decidable (big i):=inferInstanceAs (Decidable (_<=_))
theorem om {op:Str} {a b r:Int} (hr:∀ {fw d:Nat} {S:So} {x:Kx Prop} {K:Kv Prop},K (.int r) S->(Gd fw (d+1)).call 7 [.str op,.int a,.int b] S x K) (hB:¬ big r) (hk:K (.tup [.non,.int r]) S):(Gd fw (d+2)).call 6 [.str op,.int a,.int b] S x K:=by
 refine cd ⟨3,4,t6⟩ ?_;refine e8 ?_;walk_at "w"
 refine e8 ?_;walk_at "w"
 refine hr ?_;walk_at "w"
 refine bI (fun h=>absurd (show big r from xBe h) hB) fun h=>?_;exact hk
theorem jt {i:Int} (hk:K (.int i) S):(Gd fw (d+1)).call 5 [.int i] S x K:=by
 refine cd ⟨1,1,t5⟩ ?_;walk_at "w"
 exact hk
theorem lF {i:Int} (hk:K (.int i) S):(Gd fw (d+2)).call 4 [.int i] S x K:=by
 refine cd ⟨1,1,t4⟩ ?_;walk_at "w"
 exact jt hk
def FP (part:U) (ops:List U):Prop:=∀ {fw d:Nat} {S:So} {x:Kx Prop} {K:Kv Prop},K (.tup ops) S->(Gd fw (d+2)).call 39 [part] S x K
theorem uG {a b p q:U}:FP (.tup [.str "let",a,b,p,q]) [p]:=fun {fw d S x K} hk=>by
 refine cd ⟨1,1,t39⟩ ?_;walk_at "w"
 exact hk
theorem wt {a p q:U}:FP (.tup [.str "do",a,p,q]) [p]:=fun {fw d S x K} hk=>by
 refine cd ⟨1,1,t39⟩ ?_;walk_at "w"
 exact hk
theorem wq {a n q:U}:FP (.tup [.str "fn",a,n,q]) []:=fun {fw d S x K} hk=>by
 refine cd ⟨1,1,t39⟩ ?_;walk_at "w"
 refine cd ⟨1,2,t12⟩ ?_;walk_at "w"
 exact hk
theorem kU {a f:U} {as:List U} (ha:as.length<=1000:=by simp):FP (.tup [.str "call",a,f,.tup as]) (f::as):=fun {fw d S x K} hk=>by
 refine cd ⟨1,1,t39⟩ ?_;walk_at "w"
 refine cd ⟨1,2,t12⟩ ?_;walk_at "w"
 refine pd (v:=.tup (f::as)) (S':=S) (fitsO (by show 1+as.length<=2 ^ 24;lia)) ?_;exact hk
theorem qK {a o p q:U}:FP (.tup [.str "math",a,o,p,q]) [p,q]:=fun {fw d S x K} hk=>by
 refine cd ⟨1,1,t39⟩ ?_;walk_at "w"
 refine cd ⟨1,2,t12⟩ ?_;walk_at "w"
 exact hk
theorem uF {a o p:U}:FP (.tup [.str "set",a,o,p]) [p]:=fun {fw d S x K} hk=>by
 refine cd ⟨1,1,t39⟩ ?_;walk_at "w"
 refine cd ⟨1,2,t12⟩ ?_;walk_at "w"
 exact hk
theorem qJ {a p:U}:FP (.tup [.str "tell",a,p]) [p]:=fun {fw d S x K} hk=>by
 refine cd ⟨1,1,t39⟩ ?_;walk_at "w"
 refine cd ⟨1,2,t12⟩ ?_;walk_at "w"
 exact hk
theorem vt {pl:Int} {k:Str} {ps b:U} {sc:Nat} (hk:K .non (S++[fO pl ps b sc])):(Gd fw (d+2)).call 36 [.ref S.length,.tup [.str k,.int pl,ps,b],.ref sc] (S++[.ins "SourceFunction" []]) x K:=by
 refine cd ⟨3,3,t36⟩ ?_;walk_at "w"
 refine cd ⟨2,2,t2⟩ ?_;refine pd (dI (by rfl) rfl) ?_;walk_at "w"
 refine pd (dI (by rfl) rfl) ?_;walk_at "w"
 refine pd (dI (by rfl) rfl) ?_;refine pd (dI (by rfl) rfl) ?_;exact hk
end
noncomputable def ts54:TTx Prop:=tB (cP .tru (aC (cP (.fld "jobs") (aC (cV 0) aN)) aN))
noncomputable def bd54:TSx Prop:=sQ (sA 1 (cBM "list" .pop (cP (.fld "jobs") (aC (cV 0) aN)) aN)) (sQ (sI (tB (cP .isN (aC (cP (.fld "height") (aC (cV 1) aN)) aN))) (sQ (sE (cM "SourceRun" "begin" 56 (cV 0) (aC (cV 1) aN) [])) sN) (sQ (sE (cM "SourceRun" "finish" 57 (cV 0) (aC (cV 1) aN) [])) sN)) sN)
noncomputable def en54:TSx Prop:=sQ (sR (cP .ix (lst2 (cP (.fld "pile") (aC (cV 0) aN)) (cC (.int 0))))) sN
theorem sv:t54=sQ (sW ts54 bd54) en54:=rfl
def Lp (fw d r:Nat) (E:Ee Prop) (n:Nat) (S:So):Prop:=∀ o,whK (fun σ1 S1 k=>ts54 (Gd fw d) σ1 S1 (fun x S2=>E.x x σ1 S2) k) (fun σ1 S1 nx=>bd54 (Gd fw d) σ1 S1 (lpE E nx)) (Gd fw d).br (Gd fw d).fail n [some (.ref r),o] S E.nx
section
variable {fw d n:Nat} {S S1 S2 S':So} {j j1:Nat} {A:Ad} {mo:Nat} {M:Mc} {x:Kx Prop} {K:Kv Prop} {u v:U} {E:Ee Prop} {J:List U} {P:U} {sc:Nat} {la:Bool} {h:U} {c:Int}
theorem ug (R:RS A mo M S) (hj:M.js=[]) (hk:∀ o,E.nx [some (.ref A.r),o] S):Lp fw d A.r E (n+1) S:=fun o=>by
 have h1:=R.run;have h2:=R.jb;rw [hj] at h2;show ts54 _ _ _ _ _;walk_at "w"
 refine pd (jB h2) ?_;walk_at "w"
 exact hk o
theorem fj (R:RS A mo M S) (hj:M.js=J++[.ref j]) (hb:at? S j=some (jO P sc la .non c))
  (hk:∀ S1,RS A mo { M with js:=J } S1->(∀ j,Le j S S1)->at? S1 j=some (jO P sc la .non c)->(Gd fw d).call 56 [.ref A.r,.ref j] S1 (fun e S'=>∀ σ,E.x e σ S') (fun _ S'=>Lp fw d A.r E n S')):Lp fw d A.r E (n+1) S:=fun o=>by
 have h1:=R.run;have h2:=R.jb;rw [hj] at h2;show ts54 _ _ _ _ _;walk_at "w"
 refine pd (jB h2) ?_;rw [show (!(J++[U.ref j]).isEmpty)=true by simp];walk_at "w"
 refine pd (nC h2) ?_;have R1:=R.jobs (xs:=J);have h3:=R1.run;have h4:at? (set S A.jl (.lst J)) j=some (jO P sc la .non c):=atK R.jb hb dJl.symm;walk_at "w"
 refine cm (fun e S' z=>?_) (fun v S' z=>?_) (hk _ R1 (fun j=>Le.set R.jb nzl) h4)
 ·exact z _
 ·exact z _
theorem lS {i:Int} (R:RS A mo M S) (hj:M.js=J++[.ref j]) (hb:at? S j=some (jO P sc la (.int i) c))
  (hk:∀ S1,RS A mo { M with js:=J } S1->(∀ j,Le j S S1)->at? S1 j=some (jO P sc la (.int i) c)->(Gd fw d).call 57 [.ref A.r,.ref j] S1 (fun e S'=>∀ σ,E.x e σ S') (fun _ S'=>Lp fw d A.r E n S')):Lp fw d A.r E (n+1) S:=fun o=>by
 have h1:=R.run;have h2:=R.jb;rw [hj] at h2;show ts54 _ _ _ _ _;walk_at "w"
 refine pd (jB h2) ?_;rw [show (!(J++[U.ref j]).isEmpty)=true by simp];walk_at "w"
 refine pd (nC h2) ?_;have R1:=R.jobs (xs:=J);have h3:=R1.run;have h4:at? (set S A.jl (.lst J)) j=some (jO P sc la (.int i) c):=atK R.jb hb dJl.symm;walk_at "w"
 refine cm (fun e S' z=>?_) (fun v S' z=>?_) (hk _ R1 (fun j=>Le.set R.jb nzl) h4)
 ·exact z _
 ·exact z _
end
section
variable {fw d n:Nat} {S S1 S2 S':So} {j j1:Nat} {A:Ad} {mo:Nat} {M:Mc} {x:Kx Prop} {K:Kv Prop} {u v:U} {E:Ee Prop} {J:List U} {P:U} {sc:Nat} {la:Bool} {h:U} {c:Int}
theorem rp {pl i:Int} (R:RS A mo M S) (hl:M.ps.length<=100000) (hb:at? S j=some (jO (.tup [.str "number",.int pl,.int i]) sc la .non c)) (hk:∀ S',RS A mo { M with ps:=M.ps++[.int i] } S'->(∀ j,Le j S S')->K .non S'):(Gd fw (d+1)).call 56 [.ref A.r,.ref j] S x K:=by
 refine cd ⟨2,4,t56⟩ ?_;have h1:=R.run;have h2:=R.pi;walk_at "w"
 refine pd (dA h2 (by show _<=2 ^ 24;lia)) ?_;exact hk _ R.pile fun j=>Le.set R.pi nzl
theorem pD {pl:Int} {y:Str} {env:List (Str×Nat)} {cm:List Nat} {γ:List Vl} {i:Nat} {V:Vl} (R:RS A mo M S) (hl:M.ps.length<=100000) (hb:at? S j=some (jO (.tup [.str "name",.int pl,.str y]) sc la .non c)) (he:EnvR S cm env n sc) (hC:CellR S cm γ) (hy:getF y env=some i) (hi:γ[i]?=some V) (hk:∀ S' u,RS A mo { M with ps:=M.ps++[u] } S'->(∀ j,Le j S S')->VR S' cm V u->K .non S'):(Gd fw (d+1)).call 56 [.ref A.r,.ref j] S x K:=by
 refine cd ⟨2,4,t56⟩ ?_;have h1:=R.run;have h2:=R.pi;obtain ⟨kvs,e1,e2,e3⟩:=he;obtain ⟨a,e4,e5⟩:=e3 _ _ hy;obtain ⟨b,u,f1,f2,f3⟩:=hC.at_ hi;rw [e5] at f1;cases f1;walk_at "w"
 refine pd (dQ e1 e4) ?_;walk_at "w"
 refine pd (dA h2 (by show _<=2 ^ 24;lia)) ?_;exact hk _ u R.pile (fun j=>Le.set R.pi nzl) (f3.lw (Le.set (j:=0) R.pi nzl).lw)
theorem mE (R:RS A mo M S) (hb:at? S j=some (jO (.kt [.str "leave"]) sc la .non c)) (hk:∀ S',RS A mo { M with ca:=M.ca - 1 } S'->(∀ j,Le j S S')->K .non S'):(Gd fw (d+2)).call 56 [.ref A.r,.ref j] S x K:=by
 refine cd ⟨2,4,t56⟩ ?_;have h1:=R.run;have h2:=R.wor;walk_at "w"
 refine ot R hk
inductive JF (S:So) (sc lo:Nat):Nat->List U->List U->Prop
 | nil {hi:Nat}:JF S sc lo hi [] []
 | cons {op:U} {ops js:List U} {q hi:Nat} (h:JF S sc lo q ops js) (hq:at? S q=some (jO op sc false .non 0)) (h1:lo<=q) (h2:q<hi):JF S sc lo hi (op::ops) (js++[.ref q])
theorem JF.le {lo hi:Nat} {ops js:List U} {cm cm':List Nat} (l:Lw j S S' cm cm') (hj:hi<=j) (h:JF S sc lo hi ops js):JF S' sc lo hi ops js:=by
 induction h with
 | nil=>exact .nil
 | cons h hq h1 h2 ih=>exact .cons (ih (by lia)) (l.job (by lia) hq) h1 h2
theorem JF.hi {lo hi hi':Nat} {ops js:List U} (h:JF S sc lo hi ops js) (hh:hi<=hi'):JF S sc lo hi' ops js:=by
 induction h with
 | nil=>exact .nil
 | cons h hq h1 h2 ih=>exact .cons h hq h1 (by lia)
theorem JF.len {lo hi:Nat} {ops js:List U} (h:JF S sc lo hi ops js):js.length=ops.length:=by
 induction h with
 | nil=>rfl
 | cons h hq h1 h2 ih=>simp [ih]
noncomputable def bd56:TSx Prop:=sQ (sE (cM "SourceRun" "add_job" 55 (cV 0) (aC (cV 3) (aC (cP (.fld "scope") (aC (cV 1) aN)) (aC (cC (.bl false)) aN))) [])) sN
theorem adds {d:Nat} {k0:Option U} {E':Ee Prop} {kk:Sg->So->Prop} {lo:Nat}:∀ (rs ops:List U) {js:List U} {S:So} {M:Mc} {o:Option U},M.js=J++js->RS A mo M S->at? S j=some (jO P sc la h c)->j<lo->lo<=S.length->JF S sc lo S.length ops js->J.length+rs.length+ops.length<=90000 ->
  (∀ S' js' o',RS A mo { M with js:=J++js' } S'->Le j S S'->at? S' j=some (jO P sc la h c)->JF S' sc lo S'.length (rs.reverse++ops) js'->kk [some (.ref A.r),some (.ref j),k0,o'] S') ->
  forK rs (fun w σ1 S2 nx=>tgt [3] true (Gd fw (d+2)) w σ1 fun σ2=>bd56 (Gd fw (d+2)) σ2 S2 (lpE E' nx)) [some (.ref A.r),some (.ref j),k0,o] S kk
 | [],ops,js,S,M,o,e,R,hb,hj,hl,f,hc,hk=>by
  refine hk S js o ?_ Le.refl hb f;rw [<- e];exact R
 | r::rs,ops,js,S,M,o,e,R,hb,hj,hl,f,hc,hk=>by
  have h1:=R.run;have e2:=f.len;simp only [xAo] at hc;walk_at "w"
  refine gC R (by rw [e,xAb];lia) fun S' q R' l hq hq'=>?_;have e3:M.js++[U.ref q]=J++(js++[.ref q]):=by rw [e,xAx]
  rw [e3] at R';refine adds rs (r::ops) (M:={ M with js:=J++(js++[.ref q]) }) rfl R' ((l (j+1)).ky (fzj (by lia)) hb) hj (Nat.le_trans hl (l 0).len) (.cons ((f.le (cm:=[]) (l (S.length)).lw (by lia)).hi hq) hq' (by lia) (atLt hq')) (by simp only [xAo];lia) fun S'' js' o' R'' l' hb' f'=>?_;refine hk S'' js' o' R'' ((l j).trans l' (xAg _)) hb' ?_;rw [List.reverse_cons,xAx];exact f'
theorem rj {k:Str} {r:List U} {ops:List U} (R:RS A mo M S) (hP:P = .tup (.str k::r)) (k1:k≠"number") (k2:k≠"name") (k3:k≠"leave") (fp:FP P ops) (hl:M.js.length+ops.length+1<=90000) (hb:at? S j=some (jO P sc la .non c))
  (hk:∀ S' js,RS A mo { M with js:=M.js++[.ref j]++js } S'->Le j S S'->at? S' j=some (jO P sc la (.int M.ps.length) M.ca)->JF S' sc S.length S'.length ops js->K .non S'):(Gd fw (d+3)).call 56 [.ref A.r,.ref j] S x K:=by
 refine cd ⟨2,4,t56⟩ ?_;have h1:=R.run;have h2:=R.pi;have h3:=R.wor;have hb':=hb;rw [hP] at hb';walk_at "w"
 refine pd (fV h2) ?_;refine pd (dU (fs':=[("part",P),("scope",.ref sc),("last",.bl la),("height",.int M.ps.length),("calls",.int c)]) hb (by rfl) rfl) ?_;have R1:=R.oth (o':=jO P sc la (.int M.ps.length) c) hb dJR dJW dJl;have g1:=R1.run;have g2:=R1.wor;have g3:=atSet (o':=jO P sc la (.int M.ps.length) c) hb;walk_at "w"
 refine pd (dU (fs':=[("part",P),("scope",.ref sc),("last",.bl la),("height",.int M.ps.length),("calls",.int M.ca)]) g3 (by rfl) rfl) ?_;rw [setSet];have R2:=R.oth (o':=jO P sc la (.int M.ps.length) M.ca) hb dJR dJW dJl;have l2:=Le.setj (o':=jO P sc la (.int M.ps.length) M.ca) hb;have f1:=R2.run;have f2:=R2.jb;have f3:=atSet (o':=jO P sc la (.int M.ps.length) M.ca) hb;walk_at "w"
 refine pd (dA f2 (by show _<=2 ^ 24;lia)) ?_;have R3:=R2.jobs (xs:=M.js++[.ref j]);have g4:at? (set (set S j (jO P sc la (.int M.ps.length) M.ca)) A.jl (.lst (M.js++[.ref j]))) j=some (jO P sc la (.int M.ps.length) M.ca):=atK f2 f3 dJl.symm;walk_at "w"
 refine fp ?_;walk_at "w"
 refine adds (J:=M.js++[.ref j]) (lo:=S.length) ops.reverse [] (js:=[]) (M:={ M with js:=M.js++[.ref j] }) (by simp) R3 g4 (atLt hb) (by rw [lenSet,lenSet];exact xAg _) .nil (by simp;lia) fun S' js' o' R' l' hb' f'=>?_;refine hk S' js' R' ((l2.trans (Le.set f2 nzl) (xAg _)).trans l' (xAg _)) hb' ?_;rw [List.reverse_reverse,xB0] at f';exact f'
end
section
variable {fw d n:Nat} {S S1 S2 S':So} {j j1:Nat} {A:Ad} {mo:Nat} {M:Mc} {x:Kx Prop} {K:Kv Prop} {u v:U} {E:Ee Prop} {J:List U} {P:U} {sc:Nat} {la:Bool} {h:U} {c:Int}
theorem nE {up:List (Str×Str)} {v w:U} {r:List U}:pr up .ix [.tup (w::v::r),.int 1] S = .ok v S:=by
 show opt (atI (w::v::r) ((1:Nat):Int)) S=_;rw [eh (v:=v) rfl];rfl
theorem w4 {fs:List (Str×Nat×Nat)} {f:TEx Prop} {as:TAx Prop} {G:Gx Prop} {σ:Sg} {k:Kv Prop} {g:Str} {i m:Nat} (hf:∀ kk:Kv Prop,kk (.gl g) S->f G σ S x kk) (hg:getF g fs=some (i,m)) (h:as G σ S x fun vs S2=>G.call i vs S2 x k):cD fs f as G σ S x k:=by
 unfold cD;refine hf _ ?_;dsimp only;rw [hg];exact h
noncomputable def fins:List (Str×Nat×Nat):=[("finish_let",40,3),("finish_do",41,3),("finish_fn",43,3),("finish_call",44,3),("finish_set",45,3),("finish_math",47,3),("finish_tell",51,3)]
theorem uI {k g:Str} {i m:Nat} {b:Bool} {pl:Int} {r us ps0:List U} (R:RS A mo M S) (hm:mo<=2000) (hP:P = .tup (.str k::.int pl::r)) (hb:at? S j=some (jO P sc la (.int ps0.length) c)) (hps:M.ps=ps0++us) (hn:(!anyF (.str k) [.str "let",.str "do",.str "try"])=b) (hg:getF k dJ=some (.gl g)) (hi:getF g fins=some (i,m)) (hlt:b=true->M.ds.length<mo)
  (hk:∀ S' q,RS A mo ⟨q,M.js,ps0,M.ds++(if b then [.int pl] else []),M.lg,M.ca,M.dp⟩ S'->(∀ j,Le j S S')->at? S' j=some (jO P sc la (.int ps0.length) c)->(Gd fw (d+1)).call i [.ref A.r,.ref j,.lst us] S' x (fun _ S'=>K .non S')):(Gd fw (d+2)).call 57 [.ref A.r,.ref j] S x K:=by
 refine cd ⟨2,3,t57⟩ ?_;have h1:=R.run;have h2:=R.pi;rw [hps] at h2;walk_at "w"
 refine pd (tq h2) ?_;walk_at "w"
 refine pd (tu h2) ?_;have g1:=(R.app (T:=[.lst ps0])).run;refine pd (dU (fs':=[("world",.ref A.w),("jobs",.ref A.jl),("pile",.ref S.length)]) g1 (by rfl) rfl) ?_;have R1:=R.cut (xs:=ps0);have l1:∀ j,Le j S (set (S++[.lst ps0]) A.r (rO A.w A.jl S.length)):=fun j=>Le.app.trans (Le.set g1 nzr) (xAg _);have hb1:=(l1 (j+1)).ky (fzj (by lia)) hb;change RS _ _ _ (set (S++[.lst ps0]) A.r (.ins "SourceRun" [("world",.ref A.w),("jobs",.ref A.jl),("pile",.ref S.length)])) at R1;change ∀ j,Le j S (set (S++[.lst ps0]) A.r (.ins "SourceRun" [("world",.ref A.w),("jobs",.ref A.jl),("pile",.ref S.length)])) at l1;change at? (set (S++[.lst ps0]) A.r (.ins "SourceRun" [("world",.ref A.w),("jobs",.ref A.jl),("pile",.ref S.length)])) j=_ at hb1;generalize set (S++[.lst ps0]) A.r (.ins "SourceRun" [("world",.ref A.w),("jobs",.ref A.jl),("pile",.ref S.length)])=T at R1 l1 hb1 ⊢;have f1:=R1.run;have f2:=R1.wor;have hb2:=hb1;rw [hP] at hb2;walk_at "w"
 rw [hn];have last:∀ {T':So} {ds:List U},(∀ j,Le j T T')->RS A mo ⟨S.length,M.js,ps0,ds,M.lg,M.ca,M.dp⟩ T'->ds=M.ds++(if b then [.int pl] else [])->(sQ (sE (cD fins (cP .ix (lst2 (cC jM) (cP .ix (lst2 (cP (.fld "part") (aC (cV 1) aN)) (cC (.int (0))))))) (aC (cV 0) (aC (cV 1) (aC (cV 2) aN))))) sN) (Gd fw (d+1)) [some (.ref A.r),some (.ref j),some (.lst us)] T' (endsOf x K):=by
  intro T' ds l2 R2 e;rw [e] at R2;have f3:=(l2 (j+1)).ky (fzj (by lia)) hb1;have hb3:=f3;rw [hP] at hb3;refine w4 (g:=g) (i:=i) (m:=m) (fun kk z=>?_) hi ?_
  ·walk_at "w"
   refine pd (v:=.gl g) (S':=T') (by show opt (getF k dJ) T'=_;rw [hg];rfl) ?_;exact z
  ·exact hk T' S.length R2 (fun j=>(l1 j).trans (l2 j) (xAg _)) f3
 cases b with
 | false =>
  refine bF ?_;exact last (fun j=>Le.refl) R1 (by simp)
 | true =>
  walk_at "w"
  refine pd nE ?_;exact qA R1 hm (hlt rfl) fun T' R2 l2=>last l2 R2 rfl
end
section
variable {fw d n:Nat} {S S1 S2 S':So} {j j1:Nat} {A:Ad} {mo:Nat} {M:Mc} {x:Kx Prop} {K:Kv Prop} {u v:U} {E:Ee Prop} {J:List U} {P:U} {sc:Nat} {la:Bool} {h:U} {c:Int} {w:Str} {pl:Int} {m:Nat} {env:List (Str×Nat)} {cm:List Nat} {γ:List Vl}
theorem wJ {p1 p3 q:U} {y:Str} {V:Vl} (R:RS A mo M S) (hb:at? S j=some (jO (.tup [.str "let",p1,.str y,p3,q]) sc la h c)) (he:EnvR S cm env n sc) (hC:CellR S cm γ) (hn:n<=90000) (hl:M.js.length<=90000) (hV:VR S cm V u)
  (hk:∀ S' b sc' cm',RS A mo { M with js:=M.js++[.ref b] } S'->(∀ j,Lw j S S' cm cm')->S.length<=b->at? S' b=some (jO q sc' la .non 0)->EnvR S' cm' ((y,γ.length)::env) (n+1) sc'->CellR S' cm' (γ++[V])->K .non S'):(Gd fw (d+3)).call 40 [.ref A.r,.ref j,.lst [u]] S x K:=by
 refine cd ⟨3,3,t40⟩ ?_;have h1:=R.run;walk_at "w"
 refine m6 (env:=env) (V:=V) R he hC (by lia) hV fun T3 sc' cm' R3 l3 he3 hC3=>?_;have hb3:=(l3 (j+1)).job (by lia) hb;walk_at "w"
 refine gC R3 (by lia) fun T4 b R4 l4 hb4 hj4=>?_;exact hk T4 b sc' cm' R4 (fun j=>(l3 j).trans (l4 j).lw (xAg _)) (Nat.le_trans (l3 0).len hb4) hj4 (he3.lw (l4 0).lw) (hC3.le (l4 0))
theorem xB {p1 p2 q vs:U} (R:RS A mo M S) (hb:at? S j=some (jO (.tup [.str "do",p1,p2,q]) sc la h c)) (hl:M.js.length<=90000)
  (hk:∀ S' b,RS A mo { M with js:=M.js++[.ref b] } S'->(∀ j,Le j S S')->S.length<=b->at? S' b=some (jO q sc la .non 0)->K .non S'):(Gd fw (d+3)).call 41 [.ref A.r,.ref j,vs] S x K:=by
 refine cd ⟨3,3,t41⟩ ?_;have h1:=R.run;walk_at "w"
 exact gC R (by lia) hk
theorem xA {vs q:U} {ps:List Str} (R:RS A mo M S) (hb:at? S j=some (jO (.tup [.str "fn",.int pl,.tup (ps.map .str),q]) sc la h c)) (he:EnvR S cm env n sc) (hl:M.ps.length<=90000) (hk:∀ S' u,RS A mo { M with ps:=M.ps++[u] } S'->(∀ j,Le j S S')->VR S' cm (.fn pl ps q env n) u->K .non S'):(Gd fw (d+3)).call 43 [.ref A.r,.ref j,vs] S x K:=by
 refine cd ⟨3,3,t43⟩ ?_;have h1:=R.run;have h2:=R.pi;walk_at "w"
 refine vt ?_;have R':=R.app (T:=[fO pl (.tup (ps.map .str)) q sc]);refine pd (dA R'.pi (by show _<=2 ^ 24;lia)) ?_;have l:∀ j,Le j S (set (S++[fO pl (.tup (ps.map .str)) q sc]) M.pl (.lst (M.ps++[.ref S.length]))):=fun j=>Le.app.trans (Le.set R'.pi nzl) (xAg _);exact hk _ _ R'.pile l ⟨S.length,sc,rfl,(Le.set (j:=0) R'.pi nzl).ky fzf atNew,he.lw (l 0).lw⟩
theorem uL {p3:U} {i:Int} (R:RS A mo M S) (hb:at? S j=some (jO (.tup [.str "tell",.int pl,p3]) sc la h c)) (hl:M.ps.length<=90000) (hg:M.lg.length<=1000) (hk:∀ S',RS A mo { M with ps:=M.ps++[.int i],lg:=M.lg++[.int i] } S'->(∀ j,Le j S S')->K .non S'):(Gd fw (d+3)).call 51 [.ref A.r,.ref j,.lst [.int i]] S x K:=by
 refine cd ⟨3,3,t51⟩ ?_;have h1:=R.run;have h2:=R.wor;walk_at "w"
 refine e8 ?_;walk_at "w"
 refine sy R hg fun T R1 l1=>?_;have g1:=R1.run;have g2:=R1.pi;walk_at "w"
 refine pd (dA g2 (by show M.ps.length+1<=2 ^ 24;lia)) ?_;exact hk _ R1.pile fun j=>(l1 j).trans (Le.set g2 nzl) (xAg _)
theorem wF {p3:U} {y:Str} {i:Nat} {V:Vl} (R:RS A mo M S) (hb:at? S j=some (jO (.tup [.str "set",.int pl,.str y,p3]) sc la h c)) (he:EnvR S cm env n sc) (hC:CellR S cm γ) (hy:getF y env=some i) (hV:VR S cm V u) (hl:M.ps.length<=90000) (hk:∀ S',RS A mo { M with ps:=M.ps++[u] } S'->(∀ j,Lw j S S' cm cm)->CellR S' cm (γ.set i V)->K .non S'):(Gd fw (d+3)).call 45 [.ref A.r,.ref j,.lst [u]] S x K:=by
 refine cd ⟨3,4,t45⟩ ?_;have h1:=R.run;obtain ⟨kvs,e1,e2,e3⟩:=he;obtain ⟨a,e4,e5⟩:=e3 _ _ hy;obtain ⟨u0,hu0⟩:=hC.cell e5;have pt:=fun j=>hC.put (j:=j) e5 hV;walk_at "w"
 refine pd (dQ e1 e4) ?_;walk_at "w"
 refine pd (dU (fs':=[("inside",u)]) hu0 (by rfl) rfl) ?_;have R1:RS A mo M (set S a (cO u)):=R.oth hu0 (show ("Cell":Str)≠"SourceRun" by decide) (show ("Cell":Str)≠"World" by decide) (show ("Cell":Str)≠"" by decide);change RS A mo M (set S a (.ins "Cell" [("inside",u)])) at R1;change ∀ j,CellR (set S a (.ins "Cell" [("inside",u)])) cm (γ.set i V)/\Lw j S (set S a (.ins "Cell" [("inside",u)])) cm cm at pt;generalize set S a (.ins "Cell" [("inside",u)])=T at R1 pt ⊢;have g1:=R1.run;have g2:=R1.pi;walk_at "w"
 refine pd (dA g2 (by show _<=2 ^ 24;lia)) ?_;exact hk _ R1.pile (fun j=>(pt j).2.trans (Le.set g2 nzl).lw (xAg _)) ((pt 0).1.le (Le.set (j:=0) g2 nzl))
theorem uO {p3 p4:U} {op:Str} {a b r:Int} (R:RS A mo M S) (hb:at? S j=some (jO (.tup [.str "math",.int pl,.str op,p3,p4]) sc la h c)) (hr:∀ {fw d:Nat} {S:So} {x:Kx Prop} {K:Kv Prop},K (.int r) S->(Gd fw (d+1)).call 7 [.str op,.int a,.int b] S x K) (hB:¬ big r) (hl:M.ps.length<=90000)
  (hk:∀ S',RS A mo { M with ps:=M.ps++[.int r] } S'->(∀ j,Le j S S')->K .non S'):(Gd fw (d+3)).call 47 [.ref A.r,.ref j,.lst [.int a,.int b]] S x K:=by
 refine cd ⟨3,5,t47⟩ ?_;have g1:=R.run;have g2:=R.pi;walk_at "w"
 refine om hr hB ?_;walk_at "w"
 refine pd (dA g2 (by show _<=2 ^ 24;lia)) ?_;exact hk _ R.pile fun j=>Le.set R.pi nzl
noncomputable def LV:U:=.kt [.str "leave"]
theorem f_call {p2 p3 q:U} {k:Int} {ps:List Str} {vs:List U} {env':List (Str×Nat)} {n':Nat} {γ':List Vl} (R:RS A mo M S) (hV:VR S cm (.fn k ps q env n) u) (hvs:vs.length=ps.length) (hsl:∀ p,pr ups (.sl false true false) [.lst (.ref p::vs),.int 1] S = .ok (.lst vs) S) (hb:at? S j=some (jO (.tup [.str "call",.int pl,p2,p3]) sc false h c)) (hl:M.js.length<=90000) (hc:M.ca<50)
  (hsw:∀ {S' M' sc0 K'},RS A mo M' S'->(∀ j,Le j S S')->EnvR S' cm env n sc0->(∀ T sc' cm',RS A mo M' T->(∀ j,Lw j S' T cm cm')->EnvR T cm' env' n' sc'->CellR T cm' γ'->K' (.ref sc') T)->(Gd fw (d+2)).call 38 [.ref sc0,.tup (ps.map .str),.lst vs] S' x K')
  (hk:∀ S' a b s0 sc' cm',RS A mo { M with js:=M.js++[.ref a]++[.ref b],ca:=M.ca+1,dp:=if M.ca+1 > M.dp then M.ca+1 else M.dp } S'->(∀ j,Lw j S S' cm cm')->S.length<=a->a<b->at? S' a=some (jO LV s0 false .non 0)->at? S' b=some (jO q sc' true .non 0)->EnvR S' cm' env' n' sc'->CellR S' cm' γ'->K .non S'):(Gd fw (d+3)).call 44 [.ref A.r,.ref j,.lst (u::vs)] S x K:=by
 refine cd ⟨3,7,t44⟩ ?_;have g1:=R.run;have g2:=R.wor;obtain ⟨p,sc',rfl,hp,he⟩:=hV;walk_at "w"
 refine pd (v:=.ref p) (S':=S) (by show opt (atI (.ref p::vs) ((0:Nat):Int)) S=_;rw [eh (v:=.ref p) rfl];rfl) ?_;refine pd (hsl p) ?_;refine pd (v:=.int (ps.map U.str).length) (S':=S) (by show Res.ok (.int (vs.length:Nat)) S=_;rw [hvs,xAa]) ?_;refine wZ hp ?_;walk_at "w"
 refine oZ R hc fun T1 R1 l1=>?_;have g3:=R1.run;walk_at "w"
 have R2:=R1.app (T:=[.dct []]);refine gC R2 (by show M.js.length<=_;lia) fun T3 a R3 l3 ha hja=>?_;have l13:∀ j,Le j S T3:=fun j=>((l1 j).trans Le.app (xAg _)).trans (l3 j) (xAg _);have g4:=R3.run;have hp3:=(l13 0).ky fzf hp;walk_at "w"
 refine hsw R3 l13 (he.lw (l13 0).lw) fun T4 sc4 cm4 R4 l4 he4 hC4=>?_;walk_at "w"
 refine gC R4 (by show (M.js++[_]).length<=_;simp;lia) fun T5 b R5 l5 hb5 hj5=>?_;have l45:∀ j,Lw j T3 T5 cm cm4:=fun j=>(l4 j).trans (l5 j).lw (xAg _);refine hk T5 a b _ sc4 cm4 R5 (fun j=>(l13 j).lw.trans (l45 j) (xAg _)) ?_ ?_ ((l45 (a+1)).job (by lia) hja) hj5 (he4.lw (l5 0).lw) (hC4.le (l5 0))
 ·have:=(l1 0).len;simp at ha;lia
 ·have:=atLt hja;have:=(l4 0).len;lia
end
noncomputable def VRs (S:So) (cm:List Nat):List Vl->List U->Prop
 | [],us=>us=[]
 | V::Vs,us=>∃ u us',us=u::us'/\VR S cm V u/\VRs S cm Vs us'
theorem VRs.lw {S S':So} {cm cm':List Nat} {j:Nat} (l:Lw j S S' cm cm'):∀ {Vs:List Vl} {us:List U},VRs S cm Vs us->VRs S' cm' Vs us
 | [],_,h=>h
 | _::_,_,⟨u,us',e,h1,h2⟩=>⟨u,us',e,h1.lw l,VRs.lw l h2⟩
structure Cn where
 fw:Nat
 e:Nat
 A:Ad
 mo:Nat
 E:Ee Prop
 hm:mo<=2000
def Cn.L (k:Cn) (n:Nat) (S:So):Prop:=Lp k.fw (k.e+6) k.A.r k.E n S
noncomputable def Cn.X (k:Cn):Kx Prop:=fun x S'=>∀ σ,k.E.x x σ S'
structure Bd (k:Cn) (M:Mc) (N c:Nat) (ds lg:List Int) (dp:Nat):Prop where
 sz:N+M.js.length+M.ps.length+8 * c<=80000
 ca:M.ca+dp<=50
 ds:M.ds.length+ds.length<=k.mo
 lg:M.lg.length+lg.length<=1000
noncomputable def Mc.to (M:Mc) (q:Nat) (J us:List U) (ds lg:List Int) (dp:Nat):Mc:=⟨q,J,M.ps++us,M.ds++ds.map .int,M.lg++lg.map .int,M.ca,max M.dp (M.ca+dp)⟩
structure Sem (la:Bool) (env:List (Str×Nat)) (N:Nat) (P:U) (c:Nat) (γ γ':List Vl) (ds lg:List Int) (V:Vl) (dp:Nat):Prop where
 h:∀ {k:Cn} {n:Nat} {M:Mc} {S:So} {J:List U} {j sc:Nat} {cm:List Nat},RS k.A k.mo M S->M.js=J++[.ref j]->at? S j=some (jO P sc la .non 0)->EnvR S cm env N sc->CellR S cm γ->Bd k M N c ds lg dp ->
 (∀ S' q u cm',RS k.A k.mo (M.to q J [u] ds lg dp) S'->Lw j S S' cm cm'->CellR S' cm' γ'->VR S' cm' V u->k.L n S')->k.L (n+c) S
structure SemL (env:List (Str×Nat)) (N:Nat) (ops:List U) (c:Nat) (γ γ':List Vl) (ds lg:List Int) (Vs:List Vl) (dp:Nat):Prop where
 h:∀ {k:Cn} {n:Nat} {M:Mc} {S:So} {J js:List U} {lo hi sc:Nat} {cm:List Nat},RS k.A k.mo M S->M.js=J++js->JF S sc lo hi ops js->EnvR S cm env N sc->CellR S cm γ->Bd k M N c ds lg dp ->
 (∀ S' q us cm',RS k.A k.mo (M.to q J us ds lg dp) S'->Lw lo S S' cm cm'->CellR S' cm' γ'->VRs S' cm' Vs us->k.L n S')->k.L (n+c) S
theorem RS.to {A:Ad} {mo:Nat} {M:Mc} {S:So} {js ps ds lg:List U} {ca dp:Int} (R:RS A mo M S) (h1:M.js=js) (h2:M.ps=ps) (h3:M.ds=ds) (h6:M.lg=lg) (h4:M.ca=ca) (h5:M.dp=dp):RS A mo ⟨M.pl,js,ps,ds,lg,ca,dp⟩ S:=by
 subst h1 h2 h3 h4 h5 h6;exact R
theorem max0 {a b:Int} (h:a<=b):b=max b (a+(0:Nat)):=by lia
theorem maxmax {a b:Int} {x y:Nat}:max (max a (b+x)) (b+y)=max a (b+(max x y:Nat)):=by lia
theorem mxi {a b:Int} {d:Nat}:max (if a+1 > b then a+1 else b) (a+1+d)=max b (a+(d+1:Nat)):=by split <;> lia
theorem Mc.to0 {M:Mc} {q:Nat} {J:List U} {u:List U} (h:M.ca<=M.dp):M.to q J u [] [] 0=⟨q,J,M.ps++u,M.ds,M.lg,M.ca,M.dp⟩:=by
 unfold Mc.to;rw [<- max0 h,List.map_nil,xB0,xB0]
theorem Mc.to2 {M:Mc} {q q':Nat} {J J' us us':List U} {ds ds' lg lg':List Int} {dp dp':Nat}:(M.to q J us ds lg dp).to q' J' us' ds' lg' dp'=M.to q' J' (us++us') (ds++ds') (lg++lg') (max dp dp'):=by
 unfold Mc.to;dsimp only;rw [maxmax,xAi,xAi,xAx,xAx,xAx]
theorem SemL.nil {env:List (Str×Nat)} {N:Nat} {γ:List Vl}:SemL env N [] 0 γ γ [] [] [] 0:=by
 refine ⟨?_⟩;intro k n M S J js lo hi sc cm R hj f he hC hB hv;cases f;refine hv S M.pl [] cm ?_ Le.refl.lw hC rfl;rw [Mc.to0 R.cd,xB0];exact R.to (by rw [hj,xB0]) rfl rfl rfl rfl rfl
theorem SemL.cons {env:List (Str×Nat)} {N c1 c2 dp1 dp2:Nat} {op:U} {ops:List U} {V:Vl} {Vs:List Vl} {γ γ1 γ2:List Vl} {ds1 ds2 lg1 lg2:List Int} (h1:Sem false env N op c1 γ γ1 ds1 lg1 V dp1) (h2:SemL env N ops c2 γ1 γ2 ds2 lg2 Vs dp2) (hc1:1<=c1):SemL env N (op::ops) (c1+c2) γ γ2 (ds1++ds2) (lg1++lg2) (V::Vs) (max dp1 dp2):=by
 refine ⟨?_⟩;intro k n M S J js lo hi sc cm R hj f he hC hB hv;cases f with
 | @cons _ _ js q _ f hq l1 l2 =>
 rw [show n+(c1+c2)=n+c2+c1 by lia];have ej:M.js=(J++js)++[.ref q]:=by rw [hj,xAx]
 have el:M.js.length=(J++js).length+1:=by rw [ej,xAb];rfl
 have b1:=hB.sz;have b2:=hB.ca;have b3:=hB.ds;have b4:=hB.lg;rw [xAb] at b3 b4;refine h1.h R ej hq he hC ⟨by lia,by lia,by lia,by lia⟩ fun S' q' u cm' R' l hC' hV=>?_;refine h2.h (J:=J) R' rfl (f.le l (xAg _)) (he.lw l) hC' ⟨?_,?_,?_,?_⟩ fun S'' q'' us cm'' R'' l'' hC'' hV''=>?_
 ·show N+(J++js).length+(M.ps++[u]).length+8 * c2<=_;rw [xAb (as:=M.ps)];simp only [xAt];lia
 ·show M.ca+_<=_;lia
 ·show (M.ds++ds1.map U.int).length+_<=_;rw [xAb,xAa];lia
 ·show (M.lg++lg1.map U.int).length+_<=_;rw [xAb,xAa];lia
 ·rw [Mc.to2] at R'';exact hv S'' q'' (u::us) cm'' R'' ((Lw.trans ⟨l.len,fun f g=>l.ky (f.up l1) g,l.ex⟩ l'' (xAg _))) hC'' ⟨u,us,rfl,hV.lw l'',hV''⟩
section
variable {la:Bool} {env:List (Str×Nat)} {N c c3 dp dp3:Nat} {P:U} {ops r:List U} {κ g:Str} {i m:Nat} {b:Bool} {pl:Int} {ds ds3 lg lg3:List Int} {Vs:List Vl} {V:Vl} {γ γ1 γ2:List Vl}
structure Fin (la:Bool) (env:List (Str×Nat)) (N:Nat) (P:U) (i c3:Nat) (γ γ':List Vl) (ds3 lg3:List Int) (Vs:List Vl) (V:Vl) (dp3:Nat):Prop where
 h:∀ {k:Cn} {n:Nat} {M:Mc} {S:So} {j sc:Nat} {h:U} {a:Int} {us:List U} {cm:List Nat},RS k.A k.mo M S->at? S j=some (jO P sc la h a)->EnvR S cm env N sc->CellR S cm γ->VRs S cm Vs us->Bd k M N (c3+1) ds3 lg3 dp3 ->
 (∀ S' q u cm',RS k.A k.mo (M.to q M.js [u] ds3 lg3 dp3) S'->Lw S.length S S' cm cm'->CellR S' cm' γ'->VR S' cm' V u->k.L n S')->(Gd k.fw (k.e+5)).call i [.ref k.A.r,.ref j,.lst us] S k.X (fun _ S'=>k.L (n+c3) S')
noncomputable def nts (b:Bool) (pl:Int):List Int:=if b then [pl] else []
theorem eR (b:Bool) (g:Str) (hP:P = .tup (.str κ::.int pl::r)) (fp:FP P ops) (hL:SemL env N ops c γ γ1 ds lg Vs dp) (hF:Fin la env N P i c3 γ1 γ2 ds3 lg3 Vs V dp3) (k1:κ≠"number":=by decide) (k2:κ≠"name":=by decide) (k3:κ≠"leave":=by decide) (ho:ops.length<=6:=by simp) (hn:(!anyF (.str κ) [.str "let",.str "do",.str "try"])=b:=by rfl) (hg:getF κ dJ=some (.gl g):=by rfl) (hi:getF g fins=some (i,3):=by rfl):Sem la env N P (c+c3+2) γ γ2 (ds++nts b pl++ds3) (lg++lg3) V (max dp dp3):=by
 refine ⟨?_⟩;intro k n M S J j sc cm R hj hb he hC hB hv;have b1:=hB.sz;have b2:=hB.ca;have b3:=hB.ds;have b4:=hB.lg;rw [xAb,xAb] at b3;rw [xAb] at b4;have hjl:M.js.length=J.length+1:=by rw [hj,xAb];rfl
 rw [show n+(c+c3+2)=n+c3+1+c+1 by lia];refine fj (d:=k.e+6) R hj hb fun S1 R1 l1 hb1=>?_;refine rj (d:=k.e+3) R1 hP k1 k2 k3 fp (by show J.length+_+1<=_;lia) hb1 fun S2 js R2 l2 hb2 f2=>?_;have jl:=atLt hb1;have l12:Le j S S2:=(l1 j).trans l2 (xAg _);have fl:=f2.len;refine hL.h (J:=J++[.ref j]) R2 rfl f2 (he.lw l12.lw) (hC.le l12) ⟨by show N+(J++[U.ref j]++js).length+M.ps.length+8 * c<=_;simp only [xAb,xAt];lia,by show M.ca+_<=_;lia,by show M.ds.length+_<=_;lia,by show M.lg.length+_<=_;lia⟩ fun S3 q us cm3 R3 l3 hC3 hV3=>?_;have hb3:=l3.job jl hb2;have l13:Lw j S S3 cm cm3:=l12.lw.trans l3 (Nat.le_of_lt jl);refine lS (d:=k.e+6) R3 (J:=J) rfl hb3 fun S4 R4 l4 hb4=>?_;have ln:b=true->(nts b pl).length=1:=fun z=>by rw [z];rfl
 refine uI (d:=k.e+4) R4 k.hm hP hb4 rfl hn hg hi (fun z=>?_) fun S5 q5 R5 l5 hb5=>?_
 ·show (M.ds++ds.map U.int).length<_;rw [xAb,xAa];have:=ln z;lia
 have l35:∀ j,Le j S3 S5:=fun j=>(l4 j).trans (l5 j) (xAg _);have l15:Lw j S S5 cm cm3:=l13.trans (l35 j).lw (xAg _);have e5:(if b=true then [U.int pl] else [])=(nts b pl).map U.int:=by cases b <;> rfl
 rw [e5] at R5;refine hF.h R5 hb5 (he.lw l15) (hC3.le (l35 0)) (hV3.lw (l35 0).lw) ⟨?_,?_,?_,?_⟩ fun S6 q6 u cm6 R6 l6 hC6 hV6=>?_
 ·show N+J.length+M.ps.length+8 * (c3+1)<=80000;lia
 ·show M.ca+_<=_;lia
 ·show (M.ds++ds.map U.int++(nts b pl).map U.int).length+_<=_;simp only [xAb,xAa];lia
 ·show (M.lg++lg.map U.int).length+_<=_;rw [xAb,xAa];lia
 ·refine hv S6 q6 u cm6 ?_ (l15.trans l6 (Nat.le_of_lt (atLt hb5))) hC6 hV6;have e:M.to q6 J [u] (ds++nts b pl++ds3) (lg++lg3) (max dp dp3)=⟨q6,J,M.ps++[u],M.ds++ds.map .int++(nts b pl).map .int++ds3.map .int,M.lg++lg.map .int++lg3.map .int,M.ca,max (max M.dp (M.ca+dp)) (M.ca+dp3)⟩:=by
   unfold Mc.to;rw [maxmax,xAi,xAi,xAi,xAx,xAx,xAx,xAx]
  rw [e];exact R6
end
section
variable {la:Bool} {env env0:List (Str×Nat)} {N n0 c c1 c2 dp dp1 dp2 i:Nat} {p q p1 p2 p3:U} {pl a b r:Int} {ds ds1 ds2 lg lg1 lg2:List Int} {V V1 V2:Vl} {γ γ1 γ2 γ3:List Vl} {y op:Str} {ps:List Str}
theorem iQ:Sem la env N (.tup [.str "number",.int pl,.int a]) 1 γ γ [] [] (.int a) 0:=by
 refine ⟨?_⟩;intro k n M S J j sc cm R hj hb he hC hB hv;have b1:=hB.sz;refine fj (d:=k.e+6) R hj hb fun S1 R1 l1 hb1=>?_;refine rp R1 (by show M.ps.length<=_;lia) hb1 fun S2 R2 l2=>?_;have l:=(l1 j).trans (l2 j) (xAg _);refine hv S2 M.pl (.int a) cm ?_ l.lw (hC.le l) rfl;rw [Mc.to0 R.cd];exact R2
theorem f8 (hy:getF y env=some i) (hi:γ[i]?=some V):Sem la env N (.tup [.str "name",.int pl,.str y]) 1 γ γ [] [] V 0:=by
 refine ⟨?_⟩;intro k n M S J j sc cm R hj hb he hC hB hv;have b1:=hB.sz;refine fj (d:=k.e+6) R hj hb fun S1 R1 l1 hb1=>?_;refine pD R1 (by show M.ps.length<=_;lia) hb1 (he.lw (l1 0).lw) (hC.le (l1 0)) hy hi fun S2 u R2 l2 hV=>?_;have l:=(l1 j).trans (l2 j) (xAg _);refine hv S2 M.pl u cm ?_ l.lw (hC.le l) hV;rw [Mc.to0 R.cd];exact R2
theorem wv:Fin la env N (.tup [.str "fn",.int pl,.tup (ps.map .str),q]) 43 0 γ γ [] [] [] (.fn pl ps q env N) 0:=by
 refine ⟨?_⟩;intro k n M S j sc h a us cm R hb he hC hV hB hv;have b1:=hB.sz;refine xA (d:=k.e+2) R hb he (by lia) fun S2 u R2 l2 hV2=>?_;refine hv S2 M.pl u cm ?_ (l2 _).lw (hC.le (l2 0)) hV2;rw [Mc.to0 R.cd];exact R2
theorem qO:Fin la env N (.tup [.str "tell",.int pl,p]) 51 0 γ γ [] [a] [.int a] (.int a) 0:=by
 refine ⟨?_⟩;intro k n M S j sc h _ us cm R hb he hC hV hB hv;obtain ⟨_,_,rfl,rfl,rfl⟩:=hV;have b1:=hB.sz;have b4:=hB.lg;refine uL (d:=k.e+2) R hb (by lia) (by lia) fun S2 R2 l2=>?_;refine hv S2 M.pl (.int a) cm ?_ (l2 _).lw (hC.le (l2 0)) rfl;unfold Mc.to;rw [<- max0 R.cd,List.map_nil,xB0];exact R2
theorem uJ (hy:getF y env=some i):Fin la env N (.tup [.str "set",.int pl,.str y,p]) 45 0 γ (γ.set i V) [] [] [V] V 0:=by
 refine ⟨?_⟩;intro k n M S j sc h _ us cm R hb he hC hV hB hv;obtain ⟨u,_,rfl,hV,rfl⟩:=hV;have b1:=hB.sz;refine wF (d:=k.e+2) R hb he hC hy hV (by lia) fun S2 R2 l2 hC2=>?_;refine hv S2 M.pl u cm ?_ (l2 _) hC2 (hV.lw (l2 0));rw [Mc.to0 R.cd];exact R2
theorem qP (hr:∀ {fw d:Nat} {S:So} {x:Kx Prop} {K:Kv Prop},K (.int r) S->(Gd fw (d+1)).call 7 [.str op,.int a,.int b] S x K) (hG:¬ big r):Fin la env N (.tup [.str "math",.int pl,.str op,p,q]) 47 0 γ γ [] [] [.int a,.int b] (.int r) 0:=by
 refine ⟨?_⟩;intro k n M S j sc h _ us cm R hb he hC hV hB hv;obtain ⟨_,_,rfl,rfl,_,_,rfl,rfl,rfl⟩:=hV;have b1:=hB.sz;refine uO (d:=k.e+2) R hb hr hG (by lia) fun S2 R2 l2=>?_;refine hv S2 M.pl (.int r) cm ?_ (l2 _).lw (hC.le (l2 0)) rfl;rw [Mc.to0 R.cd];exact R2
theorem ww (h2:Sem la env N q c2 γ γ2 ds2 lg2 V dp2):Fin la env N (.tup [.str "do",p1,p2,q]) 41 c2 γ γ2 ds2 lg2 [V1] V dp2:=by
 refine ⟨?_⟩;intro k n M S j sc h _ us cm R hb he hC hV hB hv;have b1:=hB.sz;refine xB (d:=k.e+2) R hb (by lia) fun S2 b R2 l2 hb2 hj2=>?_;refine h2.h R2 rfl hj2 (he.lw (l2 0).lw) (hC.le (l2 0)) ⟨by simp only [xAb,xAt];lia,hB.ca,hB.ds,hB.lg⟩ fun S3 q3 u cm3 R3 l3=>hv S3 q3 u cm3 R3 ((l2 _).lw.trans l3 hb2)
theorem uK (h2:Sem la ((y,γ.length)::env) (N+1) q c2 (γ++[V1]) γ2 ds2 lg2 V dp2):Fin la env N (.tup [.str "let",p1,.str y,p3,q]) 40 c2 γ γ2 ds2 lg2 [V1] V dp2:=by
 refine ⟨?_⟩;intro k n M S j sc h _ us cm R hb he hC hV hB hv;obtain ⟨u,_,rfl,hV,rfl⟩:=hV;have b1:=hB.sz;refine wJ (d:=k.e+2) R hb he hC (by lia) (by lia) hV fun S2 b sc' cm2 R2 l2 hb2 hj2 he2 hC2=>?_;refine h2.h R2 rfl hj2 he2 hC2 ⟨by simp only [xAb,xAt];lia,hB.ca,hB.ds,hB.lg⟩ fun S3 q3 u cm3 R3 l3=>hv S3 q3 u cm3 R3 ((l2 _).trans l3 hb2)
theorem cal {k:Cn} {n:Nat} {M:Mc} {S S2:So} {a b0 s0 sc':Nat} {cm cm2:List Nat} (hn:n0<=N+1) (h2:Sem true env0 n0 q c2 γ γ2 ds2 lg2 V dp2) (R:RS k.A k.mo M S) (hB:Bd k M N (c2+1+1) ds2 lg2 (dp2+1)) (R2:RS k.A k.mo { M with js:=M.js++[.ref a]++[.ref b0],ca:=M.ca+1,dp:=if M.ca+1 > M.dp then M.ca+1 else M.dp } S2) (l2:∀ j,Lw j S S2 cm cm2) (ha:S.length<=a) (hab:a<b0) (hja:at? S2 a=some (jO LV s0 false .non 0)) (hjb:at? S2 b0=some (jO q sc' true .non 0)) (he2:EnvR S2 cm2 env0 n0 sc') (hC2:CellR S2 cm2 γ) (hv:∀ S' q u cm',RS k.A k.mo (M.to q M.js [u] ds2 lg2 (dp2+1)) S'->Lw S.length S S' cm cm'->CellR S' cm' γ2->VR S' cm' V u->k.L n S'):k.L (n+(c2+1)) S2:=by
 have b1:=hB.sz;have b2:=hB.ca;rw [show n+(c2+1)=n+1+c2 by lia];refine h2.h R2 rfl hjb he2 hC2 ⟨by simp only [xAb,xAt];lia,by show M.ca+1+_<=_;lia,hB.ds,hB.lg⟩ fun S3 q3 u cm3 R3 l3 hC3 hV3=>?_;have hja3:=l3.job hab hja;refine fj (d:=k.e+6) R3 (J:=M.js) rfl hja3 fun S4 R4 l4 hb4=>?_;refine mE (d:=k.e+4) R4 hb4 fun S5 R5 l5=>?_;have l45:∀ j,Le j S3 S5:=fun j=>(l4 j).trans (l5 j) (xAg _);refine hv S5 q3 u cm3 ?_ (((l2 _).trans l3 (by lia)).trans (l45 _).lw (xAg _)) (hC3.le (l45 0)) (hV3.lw (l45 0).lw);refine R5.to rfl rfl rfl rfl ?_ mxi;show M.ca+1 - 1=_;lia
theorem oO (hn:n0<=N) (h2:Sem true env0 n0 q c2 γ γ2 ds2 lg2 V dp2):Fin false env N (.tup [.str "call",.int pl,p,p2]) 44 (c2+1) γ γ2 ds2 lg2 [.fn a [] q env0 n0] V (dp2+1):=by
 refine ⟨?_⟩;intro k n M S j sc h _ us cm R hb he hC hV hB hv;obtain ⟨u,_,rfl,hV,rfl⟩:=hV;have b1:=hB.sz;have b2:=hB.ca;refine f_call (d:=k.e+2) (vs:=[]) (γ':=γ) R hV rfl (fun _=>rfl) hb (by lia) (by lia) (fun R' l' he' hk=>sw (d:=k.e+2) R' he' fun T sc' R'' l'' he''=>hk T sc' cm R'' (fun j=>(l'' j).lw) he'' ((hC.le (l' 0)).le (l'' 0))) fun S2 a b s0 sc' cm2 R2 l2 ha hab hja hjb he2 hC2=>?_;exact cal (N:=N) (by lia) h2 R hB R2 l2 ha hab hja hjb he2 hC2 hv
theorem oM (hn:n0<=N) (h2:Sem true ((y,γ.length)::env0) (n0+1) q c2 (γ++[V1]) γ2 ds2 lg2 V dp2):Fin false env N (.tup [.str "call",.int pl,p,p2]) 44 (c2+1) γ γ2 ds2 lg2 [.fn a [y] q env0 n0,V1] V (dp2+1):=by
 refine ⟨?_⟩;intro k n M S j sc h _ us cm R hb he hC hV hB hv;obtain ⟨u,_,rfl,hV,u1,_,rfl,hV1,rfl⟩:=hV;have b1:=hB.sz;have b2:=hB.ca;refine f_call (d:=k.e+2) (vs:=[u1]) (γ':=γ++[V1]) R hV rfl (fun _=>rfl) hb (by lia) (by lia) (fun R' l' he' hk=>m6 (d:=k.e+2) R' he' (hC.le (l' 0)) (by lia) (hV1.lw (l' 0).lw) hk) fun S2 a b s0 sc' cm2 R2 l2 ha hab hja hjb he2 hC2=>?_;exact cal (N:=N) (n0:=n0+1) (by lia) h2 R hB R2 l2 ha hab hja hjb he2 hC2 hv
theorem Sem.to {c' dp':Nat} {ds' lg':List Int} (h:Sem la env N p c γ γ2 ds lg V dp) (e1:c=c') (e2:ds=ds') (e3:lg=lg') (e4:dp=dp'):Sem la env N p c' γ γ2 ds' lg' V dp':=by
 subst e1 e2 e3 e4;exact h
theorem SemL.one (h:Sem false env N p c γ γ1 ds lg V dp) (hc:1<=c):SemL env N [p] c γ γ1 ds lg [V] dp:=by
 have:=SemL.cons h SemL.nil hc
 rwa [xB0,xB0,Nat.max_zero] at this
theorem SemL.two (h1:Sem false env N p c1 γ γ1 ds1 lg1 V1 dp1) (h2:Sem false env N q c2 γ1 γ2 ds2 lg2 V2 dp2) (hc1:1<=c1) (hc2:1<=c2):SemL env N [p,q] (c1+c2) γ γ2 (ds1++ds2) (lg1++lg2) [V1,V2] (max dp1 dp2):=SemL.cons h1 (SemL.one h2 hc2) hc1
theorem vC:Sem la env N (.tup [.str "fn",.int pl,.tup (ps.map .str),q]) 2 γ γ [pl] [] (.fn pl ps q env N) 0 :=
 eR true "finish_fn" rfl wq SemL.nil wv
theorem sC (h:Sem false env N p c γ γ1 ds lg (.int a) dp) (hc:1<=c):Sem la env N (.tup [.str "tell",.int pl,p]) (c+2) γ γ1 (ds++[pl]) (lg++[a]) (.int a) dp :=
 (eR true "finish_tell" rfl qJ (.one h hc) qO).to rfl (xB0 _) rfl (Nat.max_zero _)
theorem rG (h:Sem false env N p c γ γ1 ds lg V dp) (hc:1<=c) (hy:getF y env=some i):Sem la env N (.tup [.str "set",.int pl,.str y,p]) (c+2) γ (γ1.set i V) (ds++[pl]) lg V dp :=
 (eR true "finish_set" rfl uF (.one h hc) (uJ hy)).to rfl (xB0 _) (xB0 _) (Nat.max_zero _)
theorem vG (h1:Sem false env N p c1 γ γ1 ds1 lg1 (.int a) dp1) (h2:Sem false env N q c2 γ1 γ2 ds2 lg2 (.int b) dp2) (hc1:1<=c1) (hc2:1<=c2) (hG:¬ big (a+b)):Sem la env N (.tup [.str "math",.int pl,.str "add",p,q]) (c1+c2+2) γ γ2 (ds1++ds2++[pl]) (lg1++lg2) (.int (a+b)) (max dp1 dp2) :=
 (eR true "finish_math" rfl qK (.two h1 h2 hc1 hc2) (qP nr hG)).to rfl (xB0 _) (xB0 _) (Nat.max_zero _)
theorem pR (h1:Sem false env N p c1 γ γ1 ds1 lg1 (.fn a [] q env0 n0) dp1) (hc1:1<=c1) (hn:n0<=N) (h2:Sem true env0 n0 q c2 γ1 γ2 ds2 lg2 V dp2):Sem false env N (.tup [.str "call",.int pl,p,.tup []]) (c1+c2+3) γ γ2 (ds1++[pl]++ds2) (lg1++lg2) V (max dp1 (dp2+1)) :=
 (eR true "finish_call" rfl kU (.one h1 hc1) (oO hn h2)).to (by lia) rfl rfl rfl
theorem pQ (h1:Sem false env N p c1 γ γ1 ds1 lg1 (.fn a [y] q env0 n0) dp1) (hc1:1<=c1) (h3:Sem false env N p2 c γ1 γ2 ds lg V1 dp) (hc:1<=c) (hn:n0<=N) (h2:Sem true ((y,γ2.length)::env0) (n0+1) q c2 (γ2++[V1]) γ3 ds2 lg2 V dp2):Sem false env N (.tup [.str "call",.int pl,p,.tup [p2]]) (c1+c+c2+3) γ γ3 (ds1++ds++[pl]++ds2) (lg1++lg++lg2) V (max (max dp1 dp) (dp2+1)) :=
 (eR true "finish_call" rfl kU (.two h1 h3 hc1 hc) (oM hn h2)).to (by lia) rfl rfl rfl
theorem vE (h1:Sem false env N p c1 γ γ1 ds1 lg1 V1 dp1) (hc1:1<=c1) (h2:Sem la env N q c2 γ1 γ2 ds2 lg2 V dp2):Sem la env N (.tup [.str "do",.int pl,p,q]) (c1+c2+2) γ γ2 (ds1++ds2) (lg1++lg2) V (max dp1 dp2) :=
 (eR false "finish_do" rfl wt (.one h1 hc1) (ww h2)).to rfl (by rw [show nts false pl=[] from rfl,xB0]) rfl rfl
theorem vA (h1:Sem false env N p c1 γ γ1 ds1 lg1 V1 dp1) (hc1:1<=c1) (h2:Sem la ((y,γ1.length)::env) (N+1) q c2 (γ1++[V1]) γ2 ds2 lg2 V dp2):Sem la env N (.tup [.str "let",.int pl,.str y,p,q]) (c1+c2+2) γ γ2 (ds1++ds2) (lg1++lg2) V (max dp1 dp2) :=
 (eR false "finish_let" rfl uG (.one h1 hc1) (uK h2)).to rfl (by rw [show nts false pl=[] from rfl,xB0]) rfl rfl
end
section
variable {up:List (Str×Str)} {S T:So} {C f:Str} {fs fs':List (Str×U)} {v:U} {as:List U} {k:Nat} {o:Ob}
theorem atOff:∀ {S T:So} {k:Nat},at? (S++T) (S.length+k)=at? T k
 | [],T,k=>by simp
 | _::S,T,k=>by
  rw [xAo,show S.length+1+k=(S.length+k)+1 by lia];exact atOff (S:=S)
theorem setOff:∀ {S T:So} {k:Nat},set (S++T) (S.length+k) o=S++set T k o
 | [],T,k=>by simp
 | x::S,T,k=>by
  rw [xAo,show S.length+1+k=(S.length+k)+1 by lia];exact congrArg (x::·) (setOff (S:=S))
theorem ku:pr up (.new C) [] (S++T) = .ok (.ref (S.length+T.length)) (S++(T++[.ins C []])):=by
 show Res.ok (.ref (S++T).length) (S++T++[.ins C []])=_;rw [xAb,xAx]
theorem fU (h:as.length<=1000):pr up (.lst true) as (S++T) = .ok (.ref (S.length+T.length)) (S++(T++[.lst as])):=by
 show fits as.length (Res.ok (.ref (S++T).length) (S++T++[.lst as]))=_;rw [fitsO (by show _<=2 ^ 24;lia),xAb,xAx]
theorem kA:pr up (.dct []) [] (S++T) = .ok (.ref (S.length+T.length)) (S++(T++[.dct []])):=by
 show Res.ok (.ref (S++T).length) (S++T++[.dct []])=_;rw [xAb,xAx]
theorem lI:pr up (.lstOf true) [.lst as] (S++T) = .ok (.ref (S.length+T.length)) (S++(T++[.lst as])):=by
 show Res.ok (.ref (S++T).length) (S++T++[.lst as])=_;rw [xAb,xAx]
theorem dB (k:Nat) (h:at? T k=some (.ins C fs)) (e:putF f v fs=fs') (hl:Nat.ble fs.length 900=true):pr up (.setf f) [.ref (S.length+k),v] (S++T) = .ok .non (S++set T k (.ins C fs')):=by
 rw [dU (by rw [atOff];exact h) e hl,setOff]
end
section
variable {fw d n:Nat} {S S1 S2 S':So} {A:Ad} {mo:Nat} {M:Mc} {x:Kx Prop} {K:Kv Prop} {u v P:U}
theorem mW (hk:K .non (S++[wO (S.length+1) (S.length+2) (S.length+3) mo 0 0,.lst [],.lst [],.lst []])):(Gd fw (d+1)).call 26 [.ref S.length,.lst [],.int mo] (S++[.ins "World" []]) x K:=by
 refine cd ⟨3,3,t26⟩ ?_;refine pd lI ?_;refine pd (dB 0 rfl (by rfl) rfl) ?_;refine pd (dB 0 rfl (by rfl) rfl) ?_;refine pd (dB 0 rfl (by rfl) rfl) ?_;refine pd (fU (by decide)) ?_;refine pd (dB 0 rfl (by rfl) rfl) ?_;refine pd (fU (by decide)) ?_;refine pd (dB 0 rfl (by rfl) rfl) ?_;refine pd (dB 0 rfl (by rfl) rfl) ?_;refine pd (dB 0 rfl (by rfl) rfl) ?_;exact hk
theorem jobT {T:So} {p:U} {sc:Nat} {la:Bool} (hk:K .non (S++(T++[jO p sc la .non 0]))):(Gd fw (d+1)).call 37 [.ref (S.length+T.length),p,.ref sc,.bl la] (S++(T++[.ins "Job" []])) x K:=by
 rw [<- xAb,<- xAx];rw [<- xAx] at hk;exact oA hk
theorem vq {w0 l1 l2 l3:Ob} (hk:K .non (S++[w0,l1,l2,l3,rO S.length (S.length+7) (S.length+8),.dct [],jO P (S.length+5) true .non 0,.lst [.ref (S.length+6)],.lst []])):(Gd fw (d+2)).call 53 [.ref (S.length+4),P,.ref S.length] (S++[w0,l1,l2,l3,.ins "SourceRun" []]) x K:=by
 refine cd ⟨3,3,t53⟩ ?_;refine pd (dB 4 rfl (by rfl) rfl) ?_;refine pd kA ?_;refine pd ku ?_;refine jobT ?_;refine pd (fU (by show 1<=1000;decide)) ?_;refine pd (dB 4 rfl (by rfl) rfl) ?_;refine pd (fU (by show 0<=1000;decide)) ?_;refine pd (dB 4 rfl (by rfl) rfl) ?_;exact hk
theorem sS {e:U} (R:RS A mo M S) (hk:K (.tup [e,.lst M.lg,.lst M.ds,.int M.dp]) S):(Gd fw (d+1)).call 33 [.ref A.w,e] S x K:=by
 refine cd ⟨2,2,t33⟩ ?_;have h1:=R.wor;walk_at "w"
 refine pd (iV R.lo) ?_;walk_at "w"
 refine pd (iV R.de) ?_;walk_at "w"
 exact hk
theorem wn (h:Lp fw d A.r (sqE (endsOf x K) fun σ1 S1=>en54 (Gd fw d) σ1 S1 (endsOf x K)) fw S):(Gd fw (d+1)).call 54 [.ref A.r] S x K:=by
 refine cd ⟨1,2,t54⟩ ?_;rw [sv];show whK _ _ _ _ (Gd fw d).fuel _ _ _;rw [fuel];exact h none
end
section
variable {fw d n e:Nat} {S S1 S2 S':So} {A:Ad} {mo:Nat} {M:Mc} {x:Kx Prop} {K:Kv Prop} {u v P:U} {E:Ee Prop} {c dp:Nat} {ds:List Int} {out:Out} {j sc:Nat}
theorem uf {γ:List Vl} {lg:List Int} {i:Int} {q0:Nat} (h:Sem true [] 0 P c [] γ ds lg (.int i) dp) (hc:c<=9000) (hdp:dp<=50) (hm:mo<=2000) (hds:ds.length<=mo) (hlg:lg.length<=1000) (hf:9000<fw) (R:RS A mo ⟨q0,[.ref j],[],[],[],0,0⟩ S) (hj:at? S j=some (jO P sc true .non 0)) (hs:at? S sc=some (.dct []))
  (h1:∀ S' q,RS A mo ⟨q,[],[.int i],ds.map .int,lg.map .int,0,dp⟩ S'->∀ o,E.nx [some (.ref A.r),o] S'):Lp fw (e+6) A.r E fw S:=by
 obtain ⟨m,em⟩:∃ m,fw=m+1+c:=⟨fw - c - 1,by lia⟩
 have key:=h.h (k:=⟨fw,e,A,mo,E,hm⟩) (n:=m+1) (J:=[]) (cm:=[]) R rfl hj ⟨[],hs,xAg _,fun _ _ z=>nomatch z⟩ ⟨rfl,List.nodup_nil,fun z=>nomatch z⟩ ⟨by show 0+1+0+8 * c<=_;lia,by show (0:Int)+_<=_;lia,by show 0+ds.length<=mo;lia,by show 0+_<=_;lia⟩ fun S' q u cm' R' l hC hV=>?_
 ·rw [<- em] at key;exact key
 ·rw [show u = .int i from hV] at R';refine ug R' rfl fun o=>h1 S' q ?_ o;refine R'.to rfl rfl rfl rfl rfl ?_;show max (0:Int) (0+dp)=dp;lia
theorem sL {ks:List (Nat×List U)} {γ:List Vl} {lg:List Int} {i:Int} (h:Sem true [] 0 P c [] γ ds lg (.int i) dp) (hc:c<=9000) (hdp:dp<=50) (hm:mo<=2000) (hds:ds.length<=mo) (hlg:lg.length<=1000) (hf:9000<fw)
  (hck:∀ {d:Nat} {S:So} {x:Kx Prop} {K:Kv Prop},(∀ S',(∀ q o,at? S q=some o->at? S' q=some o)->K P S')->(Gd fw (d+60)).call 25 [P] S x K) (hl:∀ k∈ks,at? S k.1=some (.lst k.2))
  (hk:∀ S',(∀ k∈ks,at? S' k.1=some (.lst k.2))->K (.tup [.tup [.str "value",.int i],.lst (lg.map .int),.lst (ds.map .int),.int dp]) S'):(Gd fw (d+61)).call 60 [P,.lst [],.int mo] S x K:=by
 refine cd ⟨3,3,t60⟩ ?_;refine hck fun T hT=>?_;walk_at "w"
 refine mW ?_;refine pd ku ?_;refine vq ?_;refine cd ⟨1,3,t34⟩ ?_;have hkl:=fun k z=>hT _ _ (hl k z);have hlt:=fun k z=>atLt (hkl k z);have R:RS ⟨T.length+4,T.length,T.length+1,T.length+2,T.length+3,T.length+7,ks⟩ mo ⟨T.length+8,[.ref (T.length+6)],[],[],[],0,0⟩ (T++[wO (T.length+1) (T.length+2) (T.length+3) mo 0 0,.lst [],.lst [],.lst [],rO T.length (T.length+7) (T.length+8),.dct [],jO P (T.length+5) true .non 0,.lst [.ref (T.length+6)],.lst []]):=by
  refine ⟨atOff,atOff (k:=0),atOff,atOff,atOff,atOff,?_,?_,?_,?_,?_,?_,Int.le_refl _,fun k z=>atApp (hkl k z),fun k z=>?_⟩
  rotate_right
  ·have:=hlt k z;dsimp only;lia
  all_goals (dsimp only;lia)
 have g1:=R.run;walk_at "w"
 refine wn (A:=⟨T.length+4,T.length,T.length+1,T.length+2,T.length+3,T.length+7,ks⟩) ?_;refine uf (e:=d+52) h hc hdp hm hds hlg hf R (j:=T.length+6) (sc:=T.length+5) atOff atOff fun S' q R' o=>?_;have g2:=R'.run;have g3:=R'.pi;walk_at "w"
 refine pd (v:=.int i) (S':=S') (by show ixU (.ref q) (.int 0) S'=_;unfold ixU;dsimp only;rw [g3];rfl) ?_;refine lF ?_;have g4:=R'.wor;walk_at "w"
 refine sS R' ?_;exact hk S' R'.ke
end
section
variable {fw d n e:Nat} {S S1 S2 S':So} {x:Kx Prop} {K:Kv Prop} {u v P:U} {w:Str} {xs:List U} {i:Int}
theorem nI (h:xs.length<=1000) (hk:K (.tup xs) S):(Gd fw (d+1)).call 17 [.tup xs] S x K:=by
 refine cd ⟨1,1,t17⟩ ?_;walk_at "w"
 refine pd (v:=.tup xs) (S':=S) (fitsO (by show 0+xs.length<=2 ^ 24;lia)) ?_;exact hk
theorem jD (h:w.length<=1000) (hk:K (.str w) S):(Gd fw (d+1)).call 17 [.str w] S x K:=by
 refine cd ⟨1,1,t17⟩ ?_;walk_at "w"
 refine pd (v:=.str w) (S':=S) (fitsO (by show w.length+0<=2 ^ 24;lia)) ?_;exact hk
theorem nJ (hk:K (.int i) S):(Gd fw (d+2)).call 17 [.int i] S x K:=by
 refine cd ⟨1,1,t17⟩ ?_;walk_at "w"
 refine e8 ?_;walk_at "w"
 exact hk
noncomputable def ltrs:Str:="abcdefghijklmnopqrstuvwxyz"
noncomputable def chs (w:Str):List U:=w.cps.toList.map fun c=>.str ⟨#[c]⟩
noncomputable def inL (c:U):Bool:=match inU [] c (.str ltrs) with
 | some b=>b
 | none=>false
noncomputable def wordB (w:Str):Bool:=Nat.ble 1 w.length && Nat.ble w.length 8 && (chs w).all inL
theorem rR:∀ {cs ys:List U},(∀ c∈cs,inL c=true)->K (.lst (ys++cs.map fun _=>.bl true)) S->lcK (Gd fw d) (lcB [1] true [none,none] none (cB (tB (cP .inn (lst2 (cV 1) (cC (.str ltrs)))))) (Gd fw d)) cs ys S K
 | [],ys,h,hk=>by
  rw [List.map_nil,xB0] at hk;exact hk
 | c::cs,ys,h,hk=>by
  have h1:=h c (xAr ..);refine pd (v:=.bl true) (S':=S) ?_ ?_
  ·show obB (inU S c (.str ltrs)) id S=_;unfold inL at h1;have e:inU S c (.str ltrs)=inU [] c (.str ltrs):=rfl;rw [e];split at h1
   ·next b hb=>rw [hb,h1];rfl
   ·cases h1
  ·refine rR (cs:=cs) (ys:=ys++[.bl true]) (fun c hc=>h c (xAs _ hc)) ?_;rw [xAx];exact hk
theorem jo:∀ {cs:List U},blL (cs.map fun _=>U.bl true)=some (cs.map fun _=>true)
 | []=>rfl
 | _::cs=>by show (blL _).map _=_;rw [jo];rfl
theorem isw (h:wordB w=true) (hk:K (.bl true) S):(Gd fw (d+1)).call 13 [.str w] S x K:=by
 unfold wordB at h;rw [Bool.and_eq_true,Bool.and_eq_true] at h;obtain ⟨⟨h1,h2⟩,h3⟩:=h;have h1:=Nat.le_of_ble_eq_true h1;have h2:=Nat.le_of_ble_eq_true h2;refine cd ⟨1,1,t13⟩ ?_;walk_at "w"
 refine pd (v:=.int w.length) (S':=S) (fitsO (by show _<=2 ^ 24;lia)) ?_;refine pd (v:=.bl true) (S':=S) (by show Res.ok (.bl (decide ((1:Int)<=w.length))) S=_;rw [xBd (by lia)]) ?_;refine bT ?_;refine pd (v:=.bl true) (S':=S) (by show Res.ok (.bl (decide ((w.length:Int)<=8))) S=_;rw [xBd (by lia)]) ?_;refine bF ?_;refine pv (.tup (chs w)) ?_;have hc:(chs w).length<=sizeLine:=by
  show _<=2 ^ 24;have:(chs w).length=w.length:=by unfold chs;rw [xAa];rfl
  lia
 refine bI (c:=Nat.ble (chs w).length sizeLine) (fun _=>?_) fun z=>absurd (Nat.ble_eq_true_of_le hc) (by rw [z];decide);refine rR (cs:=chs w) (ys:=[]) (fun c hc=>List.all_eq_true.mp h3 c hc) ?_;refine pd (v:=.bl true) (S':=S) ?_ hk;show (match blL ([]++(chs w).map fun _=>U.bl true) with | some bs=>Res.ok (.bl (bs.all id)) S | none=>.stuck)=_;rw [List.nil_append,jo];simp
noncomputable def headsL:List U:=[.str "fn",.str "call",.str "let",.str "set",.str "do",.str "if",.str "add",.str "sub",.str "mul",.str "less",.str "same",.str "make",.str "match",.str "raise",.str "try",.str "tell",.str "ask"]
noncomputable def nameB (w:Str):Bool:=wordB w && !anyF (.str w) headsL
theorem isn (h:nameB w=true) (hk:K (.bl true) S):(Gd fw (d+2)).call 14 [.str w] S x K:=by
 unfold nameB at h;rw [Bool.and_eq_true] at h;refine cd ⟨1,1,t14⟩ ?_;refine isw h.1 ?_;refine bT ?_;refine pd (v:=.bl true) (S':=S) ?_ hk;show obB (some (anyF (.str w) headsL)) not S=_;have:=h.2;rw [Bool.not_eq_true'] at this;rw [this];rfl
theorem qM (h:-(10 ^ 12)<i/\i<10 ^ 12) (hk:K (.bl true) S):(Gd fw (d+3)).call 24 [.str "number",.int i,v] S x K:=by
 refine cd ⟨3,3,t24⟩ ?_;walk_at "w"
 refine cd ⟨1,1,t16⟩ ?_;refine e8 ?_;refine bT ?_;refine pv (.int (if i<0 then -i else i)) ?_;refine pv (.int (10 ^ 12)) ?_;refine pd (v:=.bl true) (S':=S) ?_ hk;show Res.ok (.bl (decide ((if i<0 then -i else i)<10 ^ 12))) S=_;rw [xBd (by split <;> lia)]
noncomputable def opsB (w:Str):Bool:=wordB w && anyF (.str w) [.str "add",.str "sub",.str "mul",.str "less",.str "same"]
theorem uH (h:opsB w=true) (hk:K (.bl true) S):(Gd fw (d+2)).call 24 [.str "op",.str w,v] S x K:=by
 unfold opsB at h;rw [Bool.and_eq_true] at h;refine cd ⟨3,3,t24⟩ ?_;walk_at "w"
 refine isw h.1 ?_;refine bT ?_;refine pd (v:=.bl true) (S':=S) ?_ hk;show obB (some (anyF (.str w) [.str "add",.str "sub",.str "mul",.str "less",.str "same"])) id S=_;rw [h.2];rfl
theorem oK (h:nameB w=true) (hk:K (.bl true) S):(Gd fw (d+3)).call 24 [.str "name",.str w,v] S x K:=by
 refine cd ⟨3,3,t24⟩ ?_;walk_at "w"
 exact isn h hk
theorem gS:∀ {th:List Str},(th.map U.str).all flatU=true
 | []=>rfl
 | _::th=>by rw [xBs,List.all_cons,gS];rfl
theorem jr:∀ {th:List Str},w∈th->anyF (.str w) (th.map U.str)=true
 | y::th,h=>by
  show ((y == w) || anyF (.str w) (th.map U.str))=true;rcases xAv.mp h with rfl | h
  ·rw [show (w == w)=true by exact beq_self_eq_true w];rfl
  ·rw [jr h,Bool.or_true]
theorem oJ {th:List Str} (h:nameB w=true) (ht:w∈th) (hk:K (.bl true) S):(Gd fw (d+3)).call 24 [.str "used",.str w,.tup (th.map .str)] S x K:=by
 refine cd ⟨3,3,t24⟩ ?_;walk_at "w"
 refine isn h ?_;refine bT ?_;refine pd (v:=.bl true) (S':=S) ?_ hk;show obB (if (flatU (.str w) && (th.map U.str).all flatU)=true then some (anyF (.str w) (th.map U.str)) else none) id S=_;rw [gS,jr ht];rfl
end
section
variable {fw d n e:Nat} {S S1 S2 S':So} {x:Kx Prop} {K:Kv Prop} {u v P:U} {w:Str} {xs:List U} {i pl:Int} {h pq kq:Nat} {ps pls:List Int} {th nn:List Str}
noncomputable def plK (ps:List Int):List (Key×U):=ps.map fun i=>(Sum.inl i,.bl true)
structure ChS (h pq:Nat) (ps:List Int) (S:So):Prop where
 ob:at? S h=some (.ins "Checker" [("places",.ref pq)])
 di:at? S pq=some (.dct (plK ps))
structure Pc (pq:Nat) (S S':So):Prop where
 len:S.length<=S'.length
 ky:∀ {q o},q≠pq->at? S q=some o->at? S' q=some o
theorem Pc.refl:Pc pq S S:=⟨xAg _,fun _ b=>b⟩
theorem kS:∀ {ps:List Int},pl ∉ ps->getK (.inl pl) (plK ps)=none
 | [],_=>rfl
 | a::ps,h=>by
  show (if (Sum.inl a:Key) = .inl pl then _ else getK (.inl pl) (plK ps))=_;rw [xCf (by intro z;injection z with z;exact h (by rw [z];exact xAr ..)),kS fun z=>h (xAs _ z)]
theorem pE:∀ {ps:List Int},pl ∉ ps->((plK ps).any fun kv=>decide (kv.1 = .inl pl))=false
 | [],_=>rfl
 | a::ps,h=>by
  show (decide ((Sum.inl a:Key) = .inl pl) || (plK ps).any _)=_;rw [decide_eq_false (by intro z;injection z with z;exact h (by rw [z];exact xAr ..)),pE fun z=>h (xAs _ z)];rfl
theorem pU (hp:pl ∉ ps):putK (.inl pl) (.bl true) (plK ps)=plK (ps++[pl]):=by
 unfold Fx.putK;rw [pE hp];simp [plK]
theorem wW (C:ChS h pq ps S) (hp:0<=pl/\pl<=599) (hn:pl ∉ ps) (hl:ps.length<300) (hk:∀ S',ChS h pq (ps++[pl]) S'->Pc pq S S'->K .non S'):(Gd fw (d+3)).call 20 [.ref h,.int pl] S x K:=by
 refine cd ⟨2,2,t20⟩ ?_;refine cd ⟨1,1,t15⟩ ?_;refine e8 ?_;refine bT ?_;refine pd (v:=.bl true) (S':=S) (by show Res.ok (.bl (decide ((0:Int)<=pl))) S=_;rw [xBd hp.1]) ?_;refine bT ?_;refine pd (v:=.bl true) (S':=S) (by show Res.ok (.bl (decide (pl<=(599:Int)))) S=_;rw [xBd hp.2]) ?_;refine bF ?_;have h1:=C.ob;have h2:=C.di;refine pd (f9 h1 rfl) ?_;refine pd (v:=.bl false) (S':=S) ?_ ?_
 ·show obB (inU S (.int pl) (.ref pq)) id S=_;unfold inU;dsimp only;rw [h2];show obB (some (getK (.inl pl) (plK ps)).isSome) id S=_;rw [kS hn];rfl
 refine bF ?_;refine pd (f9 h1 rfl) ?_;have hL:(plK ps).length=ps.length:=by simp [plK]
 refine pd (v:=.non) (S':=set S pq (.dct (plK (ps++[pl])))) ?_ ?_
 ·show setiU pq (.int pl) (.bl true) S=_;unfold setiU;rw [h2];show fits _ _=_;rw [fitsO (by show _<=2 ^ 24;lia),pU hn]
 have C':ChS h pq (ps++[pl]) (set S pq (.dct (plK (ps++[pl])))):=⟨atK h2 h1 (show ("d":Str)≠"Checker" by decide),atSet h2⟩
 have h3:=C'.ob;refine pd (f9 h3 rfl) ?_;refine pd (kz C'.di) ?_;refine pd (v:=.bl false) (S':=set S pq (.dct (plK (ps++[pl])))) (by show Res.ok (.bl (decide ((300:Int)<(plK (ps++[pl])).length))) _=_;rw [decide_eq_false (by simp [plK];lia)]) ?_;refine bF ?_;exact hk _ C' ⟨by rw [lenSet];exact xAg _,fun a b=>atN (Ne.symm a) b⟩
structure TA (vs:List U) (nn:List Str):Prop where
 h:∀ {fw d:Nat} {S:So} {kq:Nat} {x:Kx Prop} {K:Kv Prop},at? S kq=some (.lst vs)->K (.tup (nn.map .str)) S->(Gd fw (d+1)).call 11 [.ref kq,.int vs.length] S x K
theorem dP {up:List (Str×Str)} {j:Nat} (hq:at? S kq=some (.lst xs)) (hj:xs[j]?=some v):pr up .ix [.ref kq,.int j] S = .ok v S:=by
 show ixU (.ref kq) (.int j) S=_;unfold ixU;dsimp only;rw [hq];show opt (atI xs (j:Int)) S=_;rw [eh hj];rfl
theorem g7 {k:Str} {r:List U} (h1:getF k eN=none) (h2:(en.any fun y=>decide (y=k))=true):TA (.str k::r) []:=⟨fun {fw d S kq x K} hq hk=>by
 refine cd ⟨2,5,t11⟩ ?_;refine pd (dP (j:=0) hq rfl) ?_;refine pd (v:=.tup [.non,.non]) (S':=S) ?_ ?_
 ·delta pr;dsimp only [oz];rw [h1,h2]
 walk_at "w"
 exact hk⟩
theorem rF {p:U}:TA [.str "fn",p] []:=⟨fun {fw d S kq x K} hq hk=>by
 refine cd ⟨2,5,t11⟩ ?_;refine pd (dP (j:=0) hq rfl) ?_;walk_at "w"
 exact hk⟩
theorem m5 {p:U} {ns:List Str}:TA [.str "fn",p,.tup (ns.map .str)] ns:=⟨fun {fw d S kq x K} hq hk=>by
 refine cd ⟨2,5,t11⟩ ?_;refine pd (dP (j:=0) hq rfl) ?_;walk_at "w"
 refine pd (dP (j:=2) hq rfl) ?_;walk_at "w"
 exact hk⟩
theorem su {p:U}:TA [.str "let",p] []:=⟨fun {fw d S kq x K} hq hk=>by
 refine cd ⟨2,5,t11⟩ ?_;refine pd (dP (j:=0) hq rfl) ?_;walk_at "w"
 exact hk⟩
theorem pK {p q:U}:TA [.str "let",p,q] []:=⟨fun {fw d S kq x K} hq hk=>by
 refine cd ⟨2,5,t11⟩ ?_;refine pd (dP (j:=0) hq rfl) ?_;walk_at "w"
 exact hk⟩
theorem pJ {p q:U} {y:Str}:TA [.str "let",p,.str y,q] [y]:=⟨fun {fw d S kq x K} hq hk=>by
 refine cd ⟨2,5,t11⟩ ?_;refine pd (dP (j:=0) hq rfl) ?_;walk_at "w"
 refine pd (dP (j:=2) hq rfl) ?_;walk_at "w"
 exact hk⟩
end
structure ChkI (s:Str) (v:U) (pls:List Int) (th:List Str) (wi:Int) (D:Nat):Prop where
 h:∀ {fw d h pq:Nat} {ps:List Int} {S:So} {x:Kx Prop} {K:Kv Prop},D<=d->ChS h pq ps S->(ps++pls).Nodup->(ps++pls).length<=300->(∀ S',ChS h pq (ps++pls) S'->Pc pq S S'->K v S')->(Gd fw d).call 21 [.ref h,.str s,v,.tup (th.map .str),.int wi] S x K
structure Chk (P:U) (pls:List Int) (th:List Str) (wi:Int) (D:Nat):Prop where
 h:∀ {fw d h pq:Nat} {ps:List Int} {S:So} {x:Kx Prop} {K:Kv Prop},D<=d->ChS h pq ps S->(ps++pls).Nodup->(ps++pls).length<=300->(∀ S',ChS h pq (ps++pls) S'->Pc pq S S'->K P S')->(Gd fw d).call 19 [.ref h,P,.tup (th.map .str),.int wi] S x K
inductive Its (th:List Str) (wi:Int) (D:Nat):List U->List (Str×U)->List Int->Prop
 | nil {vs:List U}:Its th wi D vs [] []
 | cons {vs:List U} {s:Str} {v:U} {nn:List Str} {r:List (Str×U)} {pl pls:List Int} (t:TA vs nn) (c:ChkI s v pl (th++nn) wi D) (hn:nn.length<=10) (i:Its th wi D (vs++[v]) r pls):Its th wi D vs ((s,v)::r) (pl++pls)
noncomputable def bd19:TSx Prop:=sQ (sA 9 (cP (.add false) (lst2 (cV 2) (cF 11 (aC (cV 5) (aC (cP .len (aC (cV 5) aN)) aN)) [])))) (sQ (sE (cBM "list" .app (cV 5) (aC (cM "Checker" "check_thing" 21 (cV 0) (aC (cV 7) (aC (cV 8) (aC (cV 9) (aC (cV 3) aN)))) []) aN))) sN)
theorem ux {th:List Str} {wi:Int} {D fw d h pq kq:Nat} {E:Ee Prop} {kk:Sg->So->Prop} {a1 a4 a6:Option U} (hD:D<=d+1) (hth:th.length<=1000):∀ {vs:List U} {items:List (Str×U)} {pls:List Int},Its th wi D vs items pls->∀ {S:So} {ps:List Int} {a b c:Option U},ChS h pq ps S->kq≠pq->at? S kq=some (.lst vs)->(ps++pls).Nodup->(ps++pls).length<=300->vs.length+items.length<=100 ->
  (∀ S' a b c,ChS h pq (ps++pls) S'->S.length<=S'.length->(∀ {q o},q≠pq->q≠kq->at? S q=some o->at? S' q=some o)->at? S' kq=some (.lst (vs++items.map (·.2)))->kk [some (.ref h),a1,some (.tup (th.map .str)),some (.int wi),a4,some (.ref kq),a6,a,b,c] S') ->
  forK (items.map fun p=>U.tup [.str p.1,p.2]) (fun w σ1 S2 nx=>tgt [7,8] false (Gd fw (d+1)) w σ1 fun σ2=>bd19 (Gd fw (d+1)) σ2 S2 (lpE E nx)) [some (.ref h),a1,some (.tup (th.map .str)),some (.int wi),a4,some (.ref kq),a6,a,b,c] S kk:=by
 intro vs items pls hI;induction hI with
 | nil =>
  intro S ps a b c C hq hk hn hl hb hkk;refine hkk S a b c ?_ (xAg _) (fun _ _ z=>z) ?_
  ·rw [xB0];exact C
  ·rw [List.map_nil,xB0];exact hk
 | @cons vs s v nn r pl pls t ci hnn i ih =>
  intro S ps a b c C hq hk hn hl hb hkk;have h1:=C.ob;rw [xBs,forK];refine pd (fV hk) ?_;refine t.h hk ?_;refine pd (v:=.tup ((th++nn).map .str)) (S':=S) ?_ ?_
  ·show fits _ _=_;rw [fitsO (by show _<=2 ^ 24;rw [xAa,xAa];lia),xAi]
  refine pd (dH hk) ?_;refine pd (ga h1 rfl) ?_;rw [<- xAx] at hn hl hkk;have hn1:(ps++pl).Nodup:=(xBq.mp hn).1;refine ci.h hD C hn1 (by rw [xAb (as:=ps++pl)] at hl;lia) fun S1 C1 p1=>?_;have hk1:=p1.ky hq hk;simp only [xAo] at hb;refine pd (dA hk1 (by show _<=2 ^ 24;lia)) ?_;have C2:ChS h pq (ps++pl) (set S1 kq (.lst (vs++[v]))):=⟨atK hk1 C1.ob (show ("":Str)≠"Checker" by decide),atN hq C1.di⟩
  refine ih C2 hq (atSet hk1) hn hl (by simp;lia) fun S' a b c C' ln ky hk'=>?_;refine hkk S' a b c C' (by rw [lenSet] at ln;exact Nat.le_trans p1.len ln) (fun n1 n2 z=>ky n1 n2 (atN (Ne.symm n2) (p1.ky n1 z))) ?_;rw [xAx] at hk';exact hk'
theorem cutU2 {a b:U} {r:List U}:pr ups (.sl false true false) [.tup (a::b::r),.int 2] [] = .ok (.tup r) []:=by
 show slice false (.tup (a::b::r)) (some ((2:Nat):Int)) none []=_;unfold slice;dsimp only;rw [HT.sIx_nat,show min 2 (a::b::r).length=2 by simp,decide_eq_false (by lia)];dsimp only;congr 2;unfold cutU;rw [HT.sIx_nat,show min 2 (a::b::r).length=2 by simp,HT.sIx_none];simp
theorem tw {a b:U} {r:List U} {S:So}:pr ups (.sl false true false) [.tup (a::b::r),.int 2] S = .ok (.tup r) S:=by
 have e:∀ S,pr ups (.sl false true false) [.tup (a::b::r),.int 2] S=slice false (.tup (a::b::r)) (some 2) none S:=fun _=>rfl;have:=cutU2 (a:=a) (b:=b) (r:=r);rw [e] at this ⊢;unfold slice at this ⊢;dsimp only at this ⊢;split at this
 ·cases this
 ·injection this with this _;rw [this]
theorem j5:∀ {its:List (Str×U)},zipU (its.map fun p=>.str p.1) (its.map (·.2))=its.map fun p=>.tup [.str p.1,p.2]
 | []=>rfl
 | p::its=>by
  show U.tup [.str p.1,p.2]::zipU _ _=_;rw [j5];rfl
theorem gw {P:U} {k:Str} {pl wi wi':Int} {items:List (Str×U)} {pls:List Int} {th:List Str} {D:Nat} {b:Bool} (hP:P = .tup (.str k::.int pl::items.map (·.2))) (hf:getF k dz=some (.kt (items.map fun p=>.str p.1))) (hw:(!anyF (.str k) [.str "number",.str "name"])=b) (hwi:wi'=if b then wi+1 else wi) (h20:wi'<=20) (hkl:k.length<=1000) (hil:items.length<=10) (hpl:0<=pl/\pl<=599) (hth:th.length<=1000) (hD:4<=D) (hI:Its th wi' D [.str k,.int pl] items pls):Chk P (pl::pls) th wi (D+1):=by
 refine ⟨?_⟩;intro fw d h pq ps S x K hd C hn hl hk;obtain ⟨d,rfl⟩:∃ d',d=d'+4:=⟨d - 4,by lia⟩
 refine cd ⟨4,10,t19⟩ ?_;rw [hP];have hlm:(items.map (·.2)).length=items.length:=xAa ..;refine nI (by simp only [xAo,hlm];lia) ?_;refine pv (.bl true) ?_;refine bF ?_;refine pd (v:=.int (items.length+2:Nat)) (S':=S) (by show Res.ok (.int ((items.map (·.2)).length+1+1:Nat)) S=_;rw [hlm]) ?_;refine pd (v:=.bl false) (S':=S) (by show Res.ok (.bl (decide (((items.length+2:Nat):Int)<2))) S=_;rw [decide_eq_false (by lia)]) ?_;refine bF ?_;refine pd nF ?_;refine jD hkl ?_;refine pd nE ?_;refine nJ ?_;refine pd (v:=.ref S.length) (S':=S++[.lst [.str k,.int pl]]) (by rfl) ?_;have hk1:at? (S++[Ob.lst [.str k,.int pl]]) S.length=some (.lst [.str k,.int pl]):=atNew;have C1:ChS h pq ps (S++[.lst [.str k,.int pl]]):=⟨atApp C.ob,atApp C.di⟩
 have hq:S.length≠pq:=by have:=atLt C.di;lia
 have lt1:S.length<=(S++[Ob.lst [.str k,.int pl]]).length:=by simp
 have ky1:∀ {q o},at? S q=some o->at? (S++[Ob.lst [.str k,.int pl]]) q=some o:=fun z=>atApp z;generalize S++[Ob.lst [.str k,.int pl]]=T at hk1 C1 lt1 ky1 ⊢;refine pd (dP (j:=0) hk1 rfl) ?_;refine cd ⟨1,1,t10⟩ ?_;refine pv (.bl true) ?_;refine bT ?_;refine pd (v:=.kt (items.map fun p=>.str p.1)) (S':=T) (by show opt (getF k dz) T=_;rw [hf];rfl) ?_;refine pv (.bl false) ?_;refine bF ?_;refine pd (v:=.int (items.length+2:Nat)) (S':=T) (by show Res.ok (.int ((items.map (·.2)).length+1+1:Nat)) T=_;rw [hlm]) ?_;refine pd (v:=.int items.length) (S':=T) (by show Res.ok (.int ((items.map fun p=>U.str p.1).length:Nat)) T=_;rw [xAa]) ?_;refine pv (.int (2+items.length)) ?_;refine pd (v:=.bl false) (S':=T) (by show Res.ok (.bl (!(decide (((items.length+2:Nat):Int)=2+items.length)))) T=_;rw [xBd (by lia)];rfl) ?_;refine bF ?_;have h1:=C1.ob;refine pd (ga h1 rfl) ?_;refine pd (dP (j:=1) hk1 rfl) ?_;rw [show ps++pl::pls=ps++[pl]++pls by simp] at hn hl hk;have hnn:=(xBq.mp hn).1;refine wW (d:=d) C1 hpl (fun z=>(xBq.mp hnn).2.2 pl z pl (xAm.mpr rfl) rfl) (by rw [xAb,xAb] at hl;simp at hl;lia) fun T2 C2 p2=>?_;have hk2:=p2.ky hq hk1;refine pd (dP (j:=0) hk2 rfl) ?_;refine pd (v:=.bl b) (S':=T2) (by show obB (some (anyF (.str k) [.str "number",.str "name"])) not T2=_;rw [<- hw];rfl) ?_;have fin:∀ {c1 c2 c3:Option U},(sQ (sI (tB (cP .gt (lst2 (cV 3) (cC (.int (20)))))) (sQ sZ sN) sN) (sQ (sF (cP .zip (lst2 (cV 6) (cP (.sl false true false) (lst2 (cV 4) (cC (.int (2))))))) [7,8] false bd19) (sQ (sR (cP .tupOf (aC (cV 5) aN))) sN))) (Gd fw (d+3)) [some (.ref h),some P,some (.tup (th.map .str)),some (.int wi'),some P,some (.ref S.length),some (.kt (items.map fun p=>.str p.1)),c1,c2,c3] T2 (endsOf x K):=by
  intro c1 c2 c3;refine pd (v:=.bl false) (S':=T2) (by show Res.ok (.bl (decide ((20:Int)<wi'))) T2=_;rw [decide_eq_false (by lia)]) ?_;refine bF ?_;rw [hP];refine pd tw ?_;refine pd (v:=.tup (items.map fun p=>.tup [.str p.1,p.2])) (S':=T2) ?_ ?_
  ·show (match Nat.beq (items.map fun p:Str×U=>U.str p.1).length (items.map fun p:Str×U=>p.2).length with | true=>Res.ok (.tup (zipU (items.map fun p:Str×U=>U.str p.1) (items.map fun p:Str×U=>p.2))) T2 | false=>.stuck)=_;rw [hlm,xAa,show Nat.beq items.length items.length=true from Nat.beq_refl _,j5]
  refine ux (d:=d+2) (D:=D) (by lia) hth hI C2 hq hk2 hn hl (by show 2+items.length<=100;lia) fun S' a b c C' ln ky hk'=>?_;refine pd (v:=.tup (.str k::.int pl::items.map (·.2))) (S':=S') (by show tupOfU (.ref S.length) S'=_;unfold tupOfU;dsimp only [lsU];rw [hk'];rfl) ?_;rw [<- hP];exact hk S' C' ⟨Nat.le_trans lt1 (Nat.le_trans p2.len ln),fun n1 z=>ky n1 (by have:=atLt z;lia) (p2.ky n1 (ky1 z))⟩
 rw [<- hP];cases b with
 | true =>
  refine bT ?_;refine pd (v:=.int wi') (S':=T2) (by rw [hwi];rfl) ?_;exact fin
 | false =>
  refine bF ?_;rw [show wi=wi' by rw [hwi];rfl];exact fin
section
variable {th:List Str} {wi pl i:Int} {w y t:Str} {p q:U} {pls pls1 pls2:List Int} {D dep dep':Nat} {req:List Str}
theorem ChS.nil {h pq:Nat} {ps:List Int} {S:So} (C:ChS h pq ps S):ChS h pq (ps++[]) S:=by rw [xB0];exact C
theorem vh (hi:-(10 ^ 12)<i/\i<10 ^ 12):ChkI "number" (.int i) [] th wi 4:=by
 refine ⟨?_⟩;intro fw d h pq ps S x K hd C hn hl hk;obtain ⟨d,rfl⟩:∃ d',d=d'+4:=⟨d - 4,by lia⟩
 refine cd ⟨5,6,t21⟩ ?_;walk_at "w"
 refine nJ ?_;refine qM hi ?_;refine bF ?_;exact hk S C.nil Pc.refl
theorem j0 {s:Str} (h1:s≠"part") (h2:s≠"parts") (h3:s≠"names") (hw:w.length<=1000) (hf:∀ {fw d:Nat} {S:So} {x:Kx Prop} {K:Kv Prop},K (.bl true) S->(Gd fw (d+3)).call 24 [.str s,.str w,.tup (th.map .str)] S x K):ChkI s (.str w) [] th wi 4:=by
 refine ⟨?_⟩;intro fw d h pq ps S x K hd C hn hl hk;obtain ⟨d,rfl⟩:∃ d',d=d'+4:=⟨d - 4,by lia⟩
 refine cd ⟨5,6,t21⟩ ?_;walk_at "w"
 refine jD hw ?_;refine hf ?_;refine bF ?_;exact hk S C.nil Pc.refl
theorem wlen (h:wordB w=true):w.length<=1000:=by
 unfold wordB at h;rw [Bool.and_eq_true,Bool.and_eq_true] at h;have:=Nat.le_of_ble_eq_true h.1.2;lia
theorem nword (h:nameB w=true):wordB w=true:=by
 unfold nameB at h;rw [Bool.and_eq_true] at h;exact h.1
theorem wX (h:opsB w=true):ChkI "op" (.str w) [] th wi 4:=j0 (by decide) (by decide) (by decide) (wlen (by unfold opsB at h;rw [Bool.and_eq_true] at h;exact h.1)) fun z=>uH h z
theorem rd (h:nameB w=true):ChkI "name" (.str w) [] th wi 4:=j0 (by decide) (by decide) (by decide) (wlen (nword h)) fun z=>oK h z
theorem lh (h:nameB w=true) (ht:w∈th):ChkI "used" (.str w) [] th wi 4:=j0 (by decide) (by decide) (by decide) (wlen (nword h)) fun z=>oJ h ht z
theorem row_ok {fw d:Nat} {S:So} {x:Kx Prop} {K:Kv Prop} {xs:List U} (h:xs.length<=4) (hk:K (.tup xs) S):(Gd fw (d+2)).call 22 [.tup xs] S x K:=by
 refine cd ⟨1,2,t22⟩ ?_;refine nI (by lia) ?_;refine pv (.bl true) ?_;refine bF ?_;refine pv (.int xs.length) ?_;refine pd (v:=.bl false) (S':=S) (by show Res.ok (.bl (decide ((4:Int)<xs.length))) S=_;rw [decide_eq_false (by lia)]) ?_;refine bF ?_;exact hk
theorem mi:ChkI "names" (.tup []) [] th wi 4:=by
 refine ⟨?_⟩;intro fw d h pq ps S x K hd C hn hl hk;obtain ⟨d,rfl⟩:∃ d',d=d'+4:=⟨d - 4,by lia⟩
 refine cd ⟨5,6,t21⟩ ?_;walk_at "w"
 refine cd ⟨1,2,t23⟩ ?_;refine row_ok (by decide) ?_;walk_at "w"
 exact hk S C.nil Pc.refl
theorem mh (hy:nameB y=true):ChkI "names" (.tup [.str y]) [] th wi 4:=by
 refine ⟨?_⟩;intro fw d h pq ps S x K hd C hn hl hk;obtain ⟨d,rfl⟩:∃ d',d=d'+4:=⟨d - 4,by lia⟩
 refine cd ⟨5,6,t21⟩ ?_;walk_at "w"
 refine cd ⟨1,2,t23⟩ ?_;refine row_ok (by show 1<=4;decide) ?_;walk_at "w"
 refine jD (wlen (nword hy)) ?_;walk_at "w"
 refine isn hy ?_;walk_at "w"
 exact hk S C.nil Pc.refl
theorem qZ (c:Chk p pls th wi D):ChkI "part" p pls th wi (D+1):=by
 refine ⟨?_⟩;intro fw d h pq ps S x K hd C hn hl hk;obtain ⟨d,rfl⟩:∃ d',d=d'+1:=⟨d - 1,by lia⟩
 refine cd ⟨5,6,t21⟩ ?_;have h1:=C.ob;walk_at "w"
 exact c.h (by lia) C hn hl hk
theorem mf:ChkI "parts" (.tup []) [] th wi 4:=by
 refine ⟨?_⟩;intro fw d h pq ps S x K hd C hn hl hk;obtain ⟨d,rfl⟩:∃ d',d=d'+4:=⟨d - 4,by lia⟩
 refine cd ⟨5,6,t21⟩ ?_;walk_at "w"
 refine row_ok (by decide) ?_;walk_at "w"
 exact hk S C.nil Pc.refl
theorem md (c:Chk p pls th wi D) (hD:4<=D):ChkI "parts" (.tup [p]) pls th wi (D+1):=by
 refine ⟨?_⟩;intro fw d h pq ps S x K hd C hn hl hk;obtain ⟨d,rfl⟩:∃ d',d=d'+3:=⟨d - 3,by lia⟩
 refine cd ⟨5,6,t21⟩ ?_;have h1:=C.ob;walk_at "w"
 refine row_ok (by show 1<=4;decide) ?_;walk_at "w"
 refine c.h (by lia) C hn hl fun S' C' p'=>?_;walk_at "w"
 exact hk S' C' p'
theorem ChkI.mono {s:Str} {v:U} {D':Nat} (h:ChkI s v pls th wi D) (hD:D<=D'):ChkI s v pls th wi D':=⟨fun a=>h.h (Nat.le_trans hD a)⟩
structure CP (P:U) (pls:List Int) (dep:Nat) (req:List Str):Prop where
 h:∀ {th:List Str} {wi:Int},(∀ y∈req,y∈th)->th.length+dep<=1000->wi+dep<=20->Chk P pls th wi (2 * dep+5)
theorem CP.mono (h:CP p pls dep req) (hd:dep<=dep'):CP p pls dep' req:=⟨fun a b c=>⟨fun e=>(h.h a (by lia) (by lia)).h (by lia)⟩⟩
theorem CP.to (h:CP p pls1 dep req) (e:pls1=pls2):CP p pls2 dep req:=e ▸ h
def okP (pl:Int):Prop:=0<=pl/\pl<=599
theorem vc (hp:okP pl) (hi:-(10 ^ 12)<i/\i<10 ^ 12):CP (.tup [.str "number",.int pl,.int i]) [pl] 0 []:=⟨fun {th wi} _ ht hw =>
 gw (items:=[("number",.int i)]) (b:=false) (wi':=wi) (D:=4) rfl (by rfl) (by rfl) rfl (by lia) (by decide) (by show 1<=10;decide) hp (by lia) (by lia) (.cons (pl:=[]) (g7 (by rfl) (by decide)) (vh hi) (by decide) .nil)⟩
theorem qY (hp:okP pl) (hy:nameB y=true):CP (.tup [.str "name",.int pl,.str y]) [pl] 0 [y]:=⟨fun {th wi} hr ht hw =>
 gw (items:=[("used",.str y)]) (b:=false) (wi':=wi) (D:=4) rfl (by rfl) (by rfl) rfl (by lia) (by decide) (by show 1<=10;decide) hp (by lia) (by lia) (.cons (pl:=[]) (g7 (by rfl) (by decide)) (lh hy (List.mem_append_left _ (hr y (xAm.mpr rfl)))) (by decide) .nil)⟩
theorem fk {k:Str} {items:List (Str×U)} (hp:okP pl) (hI:∀ {th:List Str} {wi:Int},(∀ y∈req,y∈th)->th.length+dep+1<=1000->wi+dep<=20->Its th wi (2 * dep+6) [.str k,.int pl] items pls) (hf:getF k dz=some (.kt (items.map fun p=>.str p.1)):=by rfl) (hw:(!anyF (.str k) [.str "number",.str "name"])=true:=by rfl) (hkl:k.length<=1000:=by decide) (hil:items.length<=10:=by simp):CP (.tup (.str k::.int pl::items.map (·.2))) (pl::pls) (dep+1) req:=⟨fun {th wi} hr ht hw' =>
 gw (items:=items) (b:=true) (wi':=wi+1) (D:=2 * dep+6) rfl hf hw rfl (by lia) hkl hil hp (by lia) (by lia) (hI hr (by lia) (by lia))⟩
variable {vs:List U} {nn:List Str} {r:List (Str×U)}
theorem itp (t:TA vs nn) (h:CP p pls1 dep req) (hr:∀ y∈req,y∈th++nn) (hb:th.length+dep+1<=1000) (hw:wi+dep<=20) (i:Its th wi (2 * dep+6) (vs++[p]) r pls2) (hn:nn.length<=1:=by simp):Its th wi (2 * dep+6) vs (("part",p)::r) (pls1++pls2) :=
 .cons t (qZ (h.h hr (by rw [xAb];lia) hw)) (by lia) i
theorem its {s:Str} {v:U} (t:TA vs nn) (c:ChkI s v [] (th++nn) wi 4) (i:Its th wi (2 * dep+6) (vs++[v]) r pls2) (hn:nn.length<=1:=by simp):Its th wi (2 * dep+6) vs ((s,v)::r) pls2 :=
 .cons (pl:=[]) t (c.mono (by lia)) (by lia) i
theorem tn {k:Str} {r:List U} (h1:getF k eN=none:=by rfl) (h2:(en.any fun y=>decide (y=k))=true:=by decide):TA (.str k::r) []:=g7 h1 h2
theorem up0 {th req:List Str} (hr:∀ y∈req,y∈th):∀ y∈req,y∈th++[]:=fun y z=>by rw [xB0];exact hr y z
theorem up1 {th req req':List Str} (hr:∀ z∈req,z∈th) (h:∀ z∈req',z=y\/z∈req):∀ z∈req',z∈th++[y]:=fun z hz=>(h z hz).elim (fun e=>xBt _ (xAm.mpr e)) fun e=>List.mem_append_left _ (hr z e)
theorem gT (hp:okP pl) (hy:nameB y=true) (hr:y∈req):CP (.tup [.str "name",.int pl,.str y]) [pl] 0 req:=⟨fun {th wi} hr' ht hw=>(qY hp hy).h (fun z hz=>by rw [xAm.mp hz];exact hr' y hr) ht hw⟩
theorem CP.any (h:CP p pls dep []):CP p pls dep req:=⟨fun _=>h.h fun _ z=>nomatch z⟩
theorem qX (hp:okP pl) (h:CP p pls dep req):CP (.tup [.str "tell",.int pl,p]) (pl::pls) (dep+1) req :=
 (fk (items:=[("part",p)]) hp fun hr a b=>itp tn h (up0 hr) a b .nil).to (by simp)
theorem jW (hp:okP pl) (hy:nameB y=true) (hr0:y∈req) (h:CP p pls dep req):CP (.tup [.str "set",.int pl,.str y,p]) (pl::pls) (dep+1) req :=
 (fk (items:=[("used",.str y),("part",p)]) hp fun hr a b=>its tn (lh hy (up0 hr y hr0)) (itp tn h (up0 hr) a b .nil)).to (by simp)
theorem k9 (hp:okP pl) (hw:opsB w=true) (h:CP p pls1 dep req) (h2:CP q pls2 dep req):CP (.tup [.str "math",.int pl,.str w,p,q]) (pl::(pls1++pls2)) (dep+1) req :=
 (fk (items:=[("op",.str w),("part",p),("part",q)]) hp fun hr a b=>its tn (wX hw) (itp tn h (up0 hr) a b (itp tn h2 (up0 hr) a b .nil))).to (by simp)
theorem vf (hp:okP pl) (h:CP q pls dep req):CP (.tup [.str "fn",.int pl,.tup [],q]) (pl::pls) (dep+1) req :=
 (fk (items:=[("names",.tup []),("part",q)]) hp fun hr a b=>its rF mi (itp (m5 (ns:=[])) h (up0 hr) a b .nil)).to (by simp)
theorem ve {req':List Str} (hp:okP pl) (hy:nameB y=true) (h:CP q pls dep req') (hq:∀ z∈req',z=y\/z∈req):CP (.tup [.str "fn",.int pl,.tup [.str y],q]) (pl::pls) (dep+1) req :=
 (fk (items:=[("names",.tup [.str y]),("part",q)]) hp fun hr a b=>its rF (mh hy) (itp (m5 (ns:=[y])) h (up1 hr hq) a b .nil)).to (by simp)
theorem pb (hp:okP pl) (h:CP p pls dep req):CP (.tup [.str "call",.int pl,p,.tup []]) (pl::pls) (dep+1) req :=
 (fk (items:=[("part",p),("parts",.tup [])]) hp fun hr a b=>itp tn h (up0 hr) a b (its tn mf .nil)).to (by simp)
theorem o9 (hp:okP pl) (h:CP p pls1 dep req) (h2:CP q pls2 dep req):CP (.tup [.str "call",.int pl,p,.tup [q]]) (pl::(pls1++pls2)) (dep+1) req :=
 (fk (items:=[("part",p),("parts",.tup [q])]) hp fun hr a b=>itp tn h (up0 hr) a b (.cons tn (md (h2.h (up0 hr) (by rw [xB0];lia) b) (by lia)) (by decide) .nil)).to (by simp)
theorem se (hp:okP pl) (h:CP p pls1 dep req) (h2:CP q pls2 dep req):CP (.tup [.str "do",.int pl,p,q]) (pl::(pls1++pls2)) (dep+1) req :=
 (fk (items:=[("part",p),("part",q)]) hp fun hr a b=>itp tn h (up0 hr) a b (itp tn h2 (up0 hr) a b .nil)).to (by simp)
theorem vd {req':List Str} (hp:okP pl) (hy:nameB y=true) (h:CP p pls1 dep req) (h2:CP q pls2 dep req') (hq:∀ z∈req',z=y\/z∈req):CP (.tup [.str "let",.int pl,.str y,p,q]) (pl::(pls1++pls2)) (dep+1) req :=
 (fk (items:=[("name",.str y),("part",p),("part",q)]) hp fun hr a b=>its su (rd hy) (itp pK h (up0 hr) a b (itp pJ h2 (up1 hr hq) a b .nil))).to (by simp)
theorem checked {P:U} (c:CP P pls dep []) (hd:dep<=20) (hn:pls.Nodup) (hl:pls.length<=300) {fw d:Nat} {S:So} {x:Kx Prop} {K:Kv Prop} (hk:∀ S',(∀ q o,at? S q=some o->at? S' q=some o)->K P S'):(Gd fw (d+60)).call 25 [P] S x K:=by
 refine cd ⟨1,1,t25⟩ ?_;refine pd (v:=.ref S.length) (S':=S++[.ins "Checker" []]) (by rfl) ?_;refine cd ⟨1,1,t18⟩ ?_;refine pd kA ?_;refine pd (dB 0 rfl (by rfl) rfl) ?_;have C:ChS S.length (S.length+1) [] (S++[.ins "Checker" [("places",.ref (S.length+1))],.dct []]):=⟨atOff (k:=0),atOff⟩
 have h1:=C.ob;refine pd (ga (C:="Checker") h1 rfl) ?_;refine (c.h (th:=[]) (wi:=0) (fun _ z=>nomatch z) (by simp;lia) (by lia)).h (by lia) C (by simpa using hn) (by simpa using hl) fun S' C' p'=>?_;exact hk S' fun q o z=>p'.ky (by have:=atLt z;lia) (atApp z)
end
section
variable {fw d:Nat} {S S' S1 S2:So} {x:Kx Prop} {K:Kv Prop}
theorem lj {ns:List Int} {k:Nat} (h:K (.int (ns.getD k 0)) S):(Gd fw (d+1)).call 61 [.kl (ns.map U.int),.int k] S x K:=by
 refine cd ⟨2,2,t61⟩ ?_;refine pd (v:=.int ns.length) (S':=S) (by rw [nD,xAa]) ?_;refine pd (v:=.bl (decide ((k:Int)<ns.length))) (S':=S) rfl ?_;refine bI (fun hk=>?_) fun hk=>?_
 ·have hk':k<ns.length:=by have:=xBe hk;lia
  exact pd (v:=.int (ns.getD k 0)) (S':=S) (p7 (by rw [xAw,xBz,xAk hk'];rfl)) h
 ·have hk:=of_decide_eq_false hk;have:ns.getD k 0=0:=by
   have:ns.length<=k:=by lia
   simp [List.getD,List.getElem?_eq_none this]
  rw [this] at h;exact h
structure Sta where
 a:Int
 s:Int
 dq:Nat
 lq:Nat
 cq:Nat
 dp:Int
noncomputable def Sta.o (t:Sta):Ob:=.dct [(.inr "places",.int t.a),(.inr "shift",.int t.s),(.inr "deeds",.ref t.dq),(.inr "log",.ref t.lq),(.inr "cells",.ref t.cq),(.inr "deepest",.int t.dp)]
noncomputable def plc (s k:Int):Int:=(k * 7+s) % 600
noncomputable def Sta.pl (t:Sta):Int:=plc t.s (t.a+1)
noncomputable def Sta.nx (t:Sta):Sta:={ t with a:=t.a+1 }
inductive Lv where
 | int (i:Int) | sc (k:Nat) (n a b:Int) | pa (n a b:Int)
noncomputable def Lv.u:Lv->U
 | .int i=>.int i
 | .sc k n a b=>.tup [.str "fn",.int k,.int n,.int a,.int b]
 | .pa n a b=>.tup [.str "fn",.non,.int n,.int a,.int b]
structure At where
 p:Nat
 sq:Nat
 rq:Nat
structure LS (A:At) (t:Sta) (kv:List (Key×U)) (cs:List Lv) (ds lg:List Int) (rows:List U) (S:So):Prop where
 st:at? S A.p=some t.o
 de:at? S t.dq=some (.lst (ds.map .int))
 lo:at? S t.lq=some (.lst (lg.map .int))
 ce:at? S t.cq=some (.lst (cs.map Lv.u))
 sc:at? S A.sq=some (.dct kv)
 ro:at? S A.rq=some (.lst rows)
 n1:t.dq≠t.lq
 n2:t.dq≠t.cq
 n3:t.lq≠t.cq
 n4:A.p≠A.sq
 n5:A.rq≠t.dq
 n6:A.rq≠t.lq
 n7:A.rq≠t.cq
variable {A:At} {t:Sta} {kv kv':List (Key×U)} {cs cs':List Lv} {ds lg:List Int} {rows:List U}
theorem kdl {xs:List U} {kvs:List (Key×U)}:kd (.lst xs)≠kd (.dct kvs):=show ("":Str)≠"d" by decide
theorem LS.state {t':Sta} (L:LS A t kv cs ds lg rows S) (h1:t'.dq=t.dq) (h2:t'.lq=t.lq) (h3:t'.cq=t.cq):LS A t' kv cs ds lg rows (set S A.p t'.o):=by
 have k:∀ {q xs},at? S q=some (.lst xs)->at? (set S A.p t'.o) q=some (.lst xs):=fun h=>atK L.st h kdl.symm;refine ⟨atSet L.st,?_,?_,?_,atN L.n4 L.sc,k L.ro,?_,?_,?_,L.n4,?_,?_,?_⟩ <;> (first | rw [h1,h2] | rw [h1,h3] | rw [h2,h3] | rw [h1] | rw [h2] | rw [h3])
 ·exact k L.de
 ·exact k L.lo
 ·exact k L.ce
 ·exact L.n1
 ·exact L.n2
 ·exact L.n3
 ·exact L.n5
 ·exact L.n6
 ·exact L.n7
theorem LS.deed {i:Int} (L:LS A t kv cs ds lg rows S):LS A t kv cs (ds++[i]) lg rows (set S t.dq (.lst (ds.map .int++[.int i]))) :=
 ⟨atK L.de L.st kdl,by rw [xAi];exact atSet L.de,atN L.n1 L.lo,atN L.n2 L.ce,atK L.de L.sc kdl,atN L.n5.symm L.ro,L.n1,L.n2,L.n3,L.n4,L.n5,L.n6,L.n7⟩
theorem LS.told {i:Int} (L:LS A t kv cs ds lg rows S):LS A t kv cs ds (lg++[i]) rows (set S t.lq (.lst (lg.map .int++[.int i]))) :=
 ⟨atK L.lo L.st kdl,atN L.n1.symm L.de,by rw [xAi];exact atSet L.lo,atN L.n3 L.ce,atK L.lo L.sc kdl,atN L.n6.symm L.ro,L.n1,L.n2,L.n3,L.n4,L.n5,L.n6,L.n7⟩
theorem LS.cell {xs:List U} (L:LS A t kv cs ds lg rows S) (e:xs=cs'.map Lv.u):LS A t kv cs' ds lg rows (set S t.cq (.lst xs)) :=
 ⟨atK L.ce L.st kdl,atN L.n2.symm L.de,atN L.n3.symm L.lo,by rw [e];exact atSet L.ce,atK L.ce L.sc kdl,atN L.n7.symm L.ro,L.n1,L.n2,L.n3,L.n4,L.n5,L.n6,L.n7⟩
theorem LS.scope (L:LS A t kv cs ds lg rows S):LS A t kv' cs ds lg rows (set S A.sq (.dct kv')) :=
 ⟨atN L.n4.symm L.st,atK L.sc L.de kdl.symm,atK L.sc L.lo kdl.symm,atK L.sc L.ce kdl.symm,atSet L.sc,atK L.sc L.ro kdl.symm,L.n1,L.n2,L.n3,L.n4,L.n5,L.n6,L.n7⟩
theorem LS.row {xs:List U} (L:LS A t kv cs ds lg rows S):LS A t kv cs ds lg xs (set S A.rq (.lst xs)) :=
 ⟨atK L.ro L.st kdl,atN L.n5 L.de,atN L.n6 L.lo,atN L.n7 L.ce,atK L.ro L.sc kdl,atSet L.ro,L.n1,L.n2,L.n3,L.n4,L.n5,L.n6,L.n7⟩
theorem LS.app {T:So} (L:LS A t kv cs ds lg rows S):LS A t kv cs ds lg rows (S++T) :=
 ⟨atApp L.st,atApp L.de,atApp L.lo,atApp L.ce,atApp L.sc,atApp L.ro,L.n1,L.n2,L.n3,L.n4,L.n5,L.n6,L.n7⟩
theorem LS.deeds {ds':List Int} (L:LS A t kv cs ds lg rows S):LS A { t with dq:=S.length } kv cs ds' lg rows (set (S++[.lst (ds'.map .int)]) A.p ({ t with dq:=S.length }:Sta).o):=by
 have L':=L.app (T:=[.lst (ds'.map U.int)]);have k:∀ {q xs},at? (S++[.lst (ds'.map U.int)]) q=some (.lst xs)->at? (set (S++[.lst (ds'.map U.int)]) A.p ({ t with dq:=S.length }:Sta).o) q=some (.lst xs):=fun h=>atK L'.st h kdl.symm;have h1:=atLt L.lo;have h2:=atLt L.ce;have h3:=atLt L.ro;exact ⟨atSet L'.st,k atNew,k L'.lo,k L'.ce,atN L.n4 L'.sc,k L'.ro,by dsimp only;lia,by dsimp only;lia,L.n3,L.n4,by dsimp only;lia,L.n6,L.n7⟩
theorem LS.get (L:LS A t kv cs ds lg rows S) {k:Str} {v:U} (e:getK (.inr k) [(.inr "places",.int t.a),(.inr "shift",.int t.s),(.inr "deeds",.ref t.dq),(.inr "log",.ref t.lq),(.inr "cells",.ref t.cq),(.inr "deepest",.int t.dp)]=some v):pr ups .ix [.ref A.p,.str k] S = .ok v S:=dQ L.st e
theorem dn (L:LS A t kv cs ds lg rows S) (hk:∀ S',LS A t.nx kv cs ds lg rows S'->K (.int t.pl) S'):(Gd fw (d+1)).call 63 [.ref A.p] S x K:=by
 refine cd ⟨1,1,t63⟩ ?_;refine pd (L.get rfl) ?_;refine pv (.int (t.a+1)) ?_;refine pd (v:=.non) (S':=set S A.p t.nx.o) (eG L.st (by show 7<=2 ^ 24;decide)) ?_;have L2:=L.state (t':=t.nx) rfl rfl rfl;generalize set S A.p t.nx.o=T at L2 ⊢;refine pd (L2.get rfl) ?_;refine pd (v:=.int ((t.a+1) * 7)) (S':=T) (by delta pr;dsimp only [Sta.nx];rw [xBd (.inr (.inl (by decide)))]) ?_;refine pd (L2.get rfl) ?_;refine pv (.int ((t.a+1) * 7+t.s)) ?_;exact pv (.int (((t.a+1) * 7+t.s) % 600)) (hk T L2)
noncomputable def numU (pl n:Int):U:=.tup [.str "number",.int pl,.int n]
noncomputable def nmU (pl:Int) (y:Str):U:=.tup [.str "name",.int pl,.str y]
noncomputable def addU (a b c:Int) (y:Str) (n:Int):U:=.tup [.str "math",.int b,.str "add",nmU a y,numU c n]
theorem eZ {n:Int} (L:LS A t kv cs ds lg rows S) (hk:∀ S',LS A t.nx kv cs ds lg rows S'->K (numU t.pl n) S'):(Gd fw (d+2)).call 64 [.ref A.p,.int n] S x K:=by
 refine cd ⟨2,2,t64⟩ ?_;exact dn L hk
theorem lu {n:Int} {y:Str} (L:LS A t kv cs ds lg rows S) (hk:∀ S',LS A t.nx.nx.nx kv cs ds lg rows S'->K (addU t.pl t.nx.pl t.nx.nx.pl y n) S'):(Gd fw (d+3)).call 65 [.ref A.p,.str y,.int n] S x K:=by
 refine cd ⟨3,4,t65⟩ ?_;refine dn L fun S1 L1=>?_;refine dn L1 fun S2 L2=>?_;exact eZ L2 hk
theorem nj {α:Type}:∀ {xs:List α} {k:Nat} {v:α},Fx.set xs k v=xs.set k v
 | [],_,_=>rfl
 | _::_,0,_=>rfl
 | x::xs,k+1,v=>by rw [List.set_cons_succ,<- nj];rfl
theorem iU {up:List (Str×Str)} {p k:Nat} {xs:List U} {v:U} (h:at? S p=some (.lst xs)) (hk:k<xs.length):pr up .seti [.ref p,.int k,v] S = .ok .non (set S p (.lst (xs.set k v))):=by
 show setiU p (.int k) v S=_;unfold setiU;rw [h];dsimp only;rw [xBd (by lia)];dsimp only;rw [Int.toNat_natCast,nj (xs:=xs)]
end
section
variable {fw d:Nat} {S S' S1 S2:So} {x:Kx Prop} {K:Kv Prop}
structure Qw (n:Nat) (w:Str):Prop where
 len:w.length<=n
 hd:∃ r,w.cps.toList=113::r
 ch:∀ c∈w.cps.toList,inL (.str ⟨#[c]⟩)=true
theorem Qw.name {w:Str} (h:Qw 8 w):nameB w=true:=by
 obtain ⟨r,hr⟩:=h.hd;have hl:w.length=w.cps.toList.length:=rfl;unfold nameB wordB;rw [Nat.ble_eq_true_of_le h.len,Nat.ble_eq_true_of_le (by rw [hl,hr];simp)];have e:(chs w).all inL=true:=by
  rw [List.all_eq_true];intro c hc;obtain ⟨z,hz,rfl⟩:=xA2.mp hc;exact h.ch z hz
 rw [e];have ne:∀ z:Str,z.cps.toList.head?≠some 113->(z == w)=false:=fun z hz=>by
  rw [beq_eq_false_iff_ne];intro e;subst e;rw [hr] at hz;exact hz rfl
 have:anyF (.str w) headsL=false:=by
  have k:∀ {l:List Str},(∀ z∈l,z.cps.toList.head?≠some 113)->anyF (.str w) (l.map U.str)=false:=by
   intro l;induction l with
   | nil=>intro _;rfl
   | cons z l ih =>
    intro hz;show ((z == w) || anyF (.str w) (l.map U.str))=false;rw [ne z (hz z (xAr ..)),ih fun y hy=>hz y (xAs _ hy)];rfl
  exact k (l:=["fn","call","let","set","do","if","add","sub","mul","less","same","make","match","raise","try","tell","ask"]) (by decide +kernel)
 rw [this];rfl
noncomputable def abc:Str:="abcdefghijklmnopqrstuvwxyz"
theorem rD:((List.range 26).all fun j=>inL (.str ⟨#[97+j]⟩) && (abc.cps.toList[j]? == some (97+j)))=true:=by kernel_rfl
theorem vo {i:Int}:∃ c,pr ups .ix [.str abc,.int (i % 26)] S = .ok (.str ⟨#[c]⟩) S/\inL (.str ⟨#[c]⟩)=true:=by
 obtain ⟨j,hj⟩:∃ j:Nat,i % 26=j:=⟨(i % 26).toNat,by lia⟩
 have h6:j<26:=by lia
 rw [hj];have h:=List.all_eq_true.mp rD j (List.mem_range.mpr h6);rw [Bool.and_eq_true] at h;refine ⟨97+j,?_,h.1⟩;show (match atI abc.cps.toList (j:Int) with | some c=>fits abc.length (Res.ok (.str ⟨#[c]⟩) S) | none=>.stuck)=_;rw [eh (eq_of_beq h.2)];exact fitsO (by show _<=2 ^ 24;decide)
theorem Qw.snoc {n c:Nat} {w:Str} (h:Qw n w) (hc:inL (.str ⟨#[c]⟩)=true):Qw (n+1) (w++(⟨#[c]⟩:Str)):=by
 have e:(w++(⟨#[c]⟩:Str)).cps.toList=w.cps.toList++[c]:=by
  show (w.cps++#[c]).toList=_;simp
 obtain ⟨r,hr⟩:=h.hd;refine ⟨?_,⟨r++[c],by rw [e,hr];rfl⟩,fun z hz=>?_⟩
 ·show (w++(⟨#[c]⟩:Str)).cps.toList.length<=n+1;have:w.cps.toList.length<=n:=h.len;rw [e,xAb];simp at this ⊢;lia
 ·rw [e] at hz;rcases xAj.mp hz with hz | hz
  ·exact h.ch z hz
  ·rw [xAm.mp hz];exact hc
theorem gb {a b:Str} (h:a.length+b.length<=1000):pr ups (.add false) [.str a,.str b] S = .ok (.str (a++b)) S:=fitsO (by show _<=2 ^ 24;lia)
noncomputable def bd62:TSx Prop:=sQ (sA 1 (cP (.add false) (lst2 (cV 1) (cP .ix (lst2 (cC (.str abc)) (cP .mod (lst2 (cV 2) (cC (.int (26)))))))))) (sQ (sA 2 (cP .fdiv (lst2 (cV 2) (cC (.int (26)))))) sN)
theorem turns62 {E:Ee Prop} {kk:Sg->So->Prop} {a0:Option U}:∀ {us:List U} {n:Nat} {w:Str} {i:Int} {o:Option U},Qw n w->n+us.length<=100->(∀ w' i' o',Qw (n+us.length) w'->kk [a0,some (.str w'),some (.int i'),o'] S)->forK us (fun v σ1 S2 nx=>tgt [3] true (Gd fw d) v σ1 fun σ2=>bd62 (Gd fw d) σ2 S2 (lpE E nx)) [a0,some (.str w),some (.int i),o] S kk
 | [],n,w,i,o,hw,hl,hk=>hk w i o hw
 | u::us,n,w,i,o,hw,hl,hk=>by
  simp only [xAo] at hl;refine pv (.int (i % 26)) ?_;obtain ⟨c,h1,h2⟩:=vo (S:=S) (i:=i);refine pd h1 ?_;refine pd (gb (by have:=hw.len;show _+1<=_;lia)) ?_;refine pv (.int (i / 26)) ?_;refine turns62 (us:=us) (hw.snoc h2) (by lia) fun w' i' o' h=>hk w' i' o' ?_;rw [xAo,show n+(us.length+1)=n+1+us.length by lia];exact h
noncomputable def sgs:List Nat:=[106,107,109,113]
noncomputable def nms (w:Str):List Str:=sgs.map fun c=>w++(⟨#[c]⟩:Str)
theorem intL_len:∀ {n:Nat} {lo:Int},(intL lo n).length=n
 | 0,_=>rfl
 | n+1,lo=>by show (intL (lo+1) n).length+1=_;rw [intL_len]
theorem names_ok {n:Int} (hk:∀ w,(∀ y∈nms w,nameB y=true)->K (.lst ((nms w).map .str)) S):(Gd fw (d+1)).call 62 [.int n] S x K:=by
 refine cd ⟨1,4,t62⟩ ?_;refine pv (.int (n / 8)) ?_;refine pv (.int (n % 7)) ?_;refine pd (v:=.tup (intL 0 (n % 7).toNat)) (S':=S) (by delta pr;dsimp only;rw [xBd (by lia)]) ?_;have hl:(intL 0 (n % 7).toNat).length<=6:=by rw [intL_len];lia
 refine turns62 (us:=intL 0 (n % 7).toNat) (n:=1) (w:="q") ⟨by decide,⟨[],by rfl⟩,by decide +kernel⟩ (by lia) fun w i o hw=>?_;refine pv (.tup (sgs.map fun c=>.str ⟨#[c]⟩)) ?_;refine bT ?_;have hw:Qw 7 w:=⟨by have:=hw.len;lia,hw.hd,hw.ch⟩
 have hl:w.length<=7:=hw.len;refine pd (gb (by show w.length+1<=_;lia)) ?_;refine pd (gb (by show w.length+1<=_;lia)) ?_;refine pd (gb (by show w.length+1<=_;lia)) ?_;refine pd (gb (by show w.length+1<=_;lia)) ?_;refine hk w fun y hy=>?_;obtain ⟨c,hc,rfl⟩:=xA2.mp hy;exact (hw.snoc (List.all_eq_true.mp (show (sgs.all fun c=>inL (.str ⟨#[c]⟩))=true by kernel_rfl) c hc)).name
end
noncomputable def wrap:List (List U)->U->U
 | [],Q=>Q
 | r::rs,Q=>.tup (r++[wrap rs Q])
theorem eX:∀ {rs:List (List U)} {r:List U} {Q:U},wrap (rs++[r]) Q=wrap rs (.tup (r++[Q]))
 | [],_,_=>rfl
 | a::rs,r,Q=>congrArg (fun z=>U.tup (a++[z])) (eX (rs:=rs))
structure SR (nm:List Str) (kv:List (Key×U)) (ws:List Str) (env:List (Str×Nat)) (ix:List Nat):Prop where
 ks:kv.map (·.1)=ws.map Sum.inr
 nd:ws.Nodup
 nm:∀ w∈ws,w∈nm
 at_:∀ w∈ws,∃ (k m:Nat),getK (.inr w) kv=some (.int k)/\ix[k]?=some m/\getF w env=some m
theorem ox {k:Key} {v:U} {kv:List (Key×U)}:(putK k v kv).map (·.1)=if (kv.any fun x=>decide (x.1=k))=true then kv.map (·.1) else kv.map (·.1)++[k]:=by
 unfold Fx.putK;split
 ·rw [List.map_map];refine List.map_congr_left fun x _=>?_;show (if x.1=k then (x.1,v) else x).1=x.1;split <;> rfl
 ·simp
theorem SR.put {nm:List Str} {kv:List (Key×U)} {ws:List Str} {env:List (Str×Nat)} {ix:List Nat} {y:Str} {m:Nat} (h:SR nm kv ws env ix) (hy:y∈nm):∃ ws',SR nm (putK (.inr y) (.int ix.length) kv) ws' ((y,m)::env) (ix++[m])/\∀ z∈ws',z=y\/z∈ws:=by
 have key:∃ ws':List Str,(putK (.inr y) (.int ix.length) kv).map (·.1)=ws'.map Sum.inr/\ws'.Nodup/\∀ z∈ws',z=y\/z∈ws:=by
  rw [ox];split
  ·exact ⟨ws,h.ks,h.nd,fun z hz=>.inr hz⟩
  ·next hn =>
   refine ⟨ws++[y],by rw [h.ks,xAi];rfl,xBq.mpr ⟨h.nd,xCb.mpr ⟨fun z=>(nomatch z),List.nodup_nil⟩,fun a ha b hb e=>?_⟩,fun z hz=>?_⟩
   ·cases xAm.mp hb;subst e;refine hn (List.any_eq_true.mpr ?_);have:Sum.inr a∈kv.map (·.1):=by rw [h.ks];exact xA2.mpr ⟨a,ha,rfl⟩
    obtain ⟨q,hq,e⟩:=xA2.mp this;exact ⟨q,hq,xBd e⟩
   ·rcases xAj.mp hz with hz | hz
    ·exact .inr hz
    ·exact .inl (xAm.mp hz)
 obtain ⟨ws',e1,e2,e3⟩:=key;refine ⟨ws',⟨e1,e2,fun w hw=>(e3 w hw).elim (fun e=>e ▸ hy) (h.nm w),fun w hw=>?_⟩,e3⟩;by_cases e:w=y
 ·subst e;refine ⟨ix.length,m,je,?_,by simp [getF]⟩;rw [List.getElem?_append_right (xAg _),Nat.sub_self];rfl
 ·obtain ⟨k,m',h1,h2,h3⟩:=h.at_ w ((e3 w hw).resolve_left e);refine ⟨k,m',by rw [kT (by simpa using e)];exact h1,?_,by simpa [getF,e] using h3⟩;rw [List.getElem?_append_left (xAq.mp h2).1];exact h2
theorem j8 {α:Type} [DecidableEq α]:∀ {a b:List α},a.Nodup->(∀ z∈a,z∈b)->a.length<=b.length
 | [],_,_,_=>xBn _
 | x::a,b,h,hs=>by
  obtain ⟨h1,h2⟩:=xCb.mp h;have hx:=hs x (xAr ..);have:=j8 (b:=b.erase x) h2 fun z hz=>(List.mem_erase_of_ne fun (e:z=x)=>h1 (e ▸ hz)).mpr (hs z (xAs _ hz));rw [List.length_erase_of_mem hx] at this;have:=List.length_pos_of_mem hx;rw [xAo];lia
noncomputable def setU (p2:Int) (y:Str) (a b c n:Int):U:=.tup [.str "set",.int p2,.str y,addU a b c y n]
noncomputable def doU (p:Int) (p2:Int) (y:Str) (a b c n e:Int):U:=.tup [.str "do",.int p,setU p2 y a b c n,nmU e y]
def nb (n:Int):Prop:=-1000000000000<n/\n<1000000000000
noncomputable def CV (B:Int) (N:Nat) (cs:List Lv) (ix:List Nat):Lv->Vl->Prop
 | .int i,V=>V = .int i/\-B<=i/\i<=B
 | .sc k n p1 p2,V=>∃ pl y a c env N0 m i,V = .fn pl [] (setU p2 y a p1 c n) env N0/\N0<=N/\ix[k]?=some m/\getF y env=some m/\cs[k]?=some (.int i)/\nb n
 | .pa n p1 p2,V=>∃ pl y a c p e env N0,V = .fn pl [y] (doU p p2 y a p1 c n e) env N0/\N0<=N/\nb n
structure CR (B:Int) (N:Nat) (cs:List Lv) (γ:List Vl) (ix:List Nat):Prop where
 len:cs.length=ix.length
 nd:ix.Nodup
 lt:∀ m∈ix,m<γ.length
 at_:∀ {k:Nat} {c:Lv},cs[k]?=some c->∃ (m:Nat) (V:Vl),ix[k]?=some m/\γ[m]?=some V/\CV B N cs ix c V
theorem CV.up {B B':Int} {N N':Nat} {cs cs':List Lv} {ix ix':List Nat} {c:Lv} {V:Vl} (h:CV B N cs ix c V) (hB:B<=B') (hN:N<=N') (h1:∀ {k:Nat} {i:Int},cs[k]?=some (.int i)->∃ i',cs'[k]?=some (.int i')) (h2:∀ {k m:Nat},ix[k]?=some m->ix'[k]?=some m):CV B' N' cs' ix' c V:=by
 cases c with
 | int i=>exact ⟨h.1,by have:=h.2;lia,by have:=h.2;lia⟩
 | sc k n p1 p2 =>
  obtain ⟨pl,y,a,c,env,N0,m,i,e,e1,e2,e3,e4,e5⟩:=h;obtain ⟨i',e6⟩:=h1 e4;exact ⟨pl,y,a,c,env,N0,m,i',e,Nat.le_trans e1 hN,h2 e2,e3,e6,e5⟩
 | pa n p1 p2 =>
  obtain ⟨pl,y,a,c,p,e,env,N0,e0,e1,e2⟩:=h;exact ⟨pl,y,a,c,p,e,env,N0,e0,Nat.le_trans e1 hN,e2⟩
theorem CR.up {B B':Int} {N N':Nat} {cs:List Lv} {γ γ':List Vl} {ix:List Nat} (h:CR B N cs γ ix) (hB:B<=B') (hN:N<=N') (hg:∃ t,γ'=γ++t):CR B' N' cs γ' ix:=by
 obtain ⟨t,rfl⟩:=hg;refine ⟨h.len,h.nd,fun m hm=>by have:=h.lt m hm;rw [xAb];lia,fun e=>?_⟩;obtain ⟨m,V,e1,e2,e3⟩:=h.at_ e;exact ⟨m,V,e1,by rw [List.getElem?_append_left (xAq.mp e2).1];exact e2,e3.up hB hN (fun z=>⟨_,z⟩) fun z=>z⟩
theorem CR.push {B:Int} {N:Nat} {cs:List Lv} {γ:List Vl} {ix:List Nat} {c:Lv} {V:Vl} (h:CR B N cs γ ix) (hV:CV B N cs ix c V):CR B N (cs++[c]) (γ++[V]) (ix++[γ.length]):=by
 have up:∀ {c V},CV B N cs ix c V->CV B N (cs++[c]) (ix++[γ.length]) c V:=fun z=>z.up (Int.le_refl _) (xAg _) (fun e=>⟨_,by rw [List.getElem?_append_left (xAq.mp e).1];exact e⟩) fun e=>by rw [List.getElem?_append_left (xAq.mp e).1];exact e
 have up':∀ {c' V},CV B N cs ix c' V->CV B N (cs++[c]) (ix++[γ.length]) c' V:=fun z=>z.up (Int.le_refl _) (xAg _) (fun e=>⟨_,by rw [List.getElem?_append_left (xAq.mp e).1];exact e⟩) fun e=>by rw [List.getElem?_append_left (xAq.mp e).1];exact e
 refine ⟨by rw [xAb,xAb,h.len];rfl,xBq.mpr ⟨h.nd,xCb.mpr ⟨fun z=>(nomatch z),List.nodup_nil⟩,fun a ha b hb e=>?_⟩,fun m hm=>?_,fun {k c'} e=>?_⟩
 ·cases xAm.mp hb;have:=h.lt a ha;lia
 ·rw [xAb];rcases xAj.mp hm with hm | hm
  ·have:=h.lt m hm;lia
  ·rw [xAm.mp hm];simp
 ·rcases Nat.lt_or_ge k cs.length with hk | hk
  ·rw [List.getElem?_append_left hk] at e;obtain ⟨m,W,e1,e2,e3⟩:=h.at_ e;exact ⟨m,W,by rw [List.getElem?_append_left (xAq.mp e1).1];exact e1,by rw [List.getElem?_append_left (xAq.mp e2).1];exact e2,up' e3⟩
  ·rw [List.getElem?_append_right hk] at e;have:k - cs.length=0:=by
    have:=(xAq.mp e).1;simp at this;lia
   rw [this] at e;cases e;refine ⟨γ.length,V,?_,?_,up hV⟩
   ·rw [show k=ix.length by rw [<- h.len];lia,List.getElem?_append_right (xAg _),Nat.sub_self];rfl
   ·rw [List.getElem?_append_right (xAg _),Nat.sub_self];rfl
theorem CR.put {B:Int} {N:Nat} {cs:List Lv} {γ:List Vl} {ix:List Nat} {k m:Nat} {i i0:Int} (h:CR B N cs γ ix) (hk:cs[k]?=some (.int i0)) (hm:ix[k]?=some m) (hi:-B<=i/\i<=B):CR B N (cs.set k (.int i)) (γ.set m (.int i)) ix:=by
 have hkl:=(xAq.mp hk).1;refine ⟨by rw [List.length_set];exact h.len,h.nd,fun m hm=>by rw [List.length_set];exact h.lt m hm,fun {k' c'} e=>?_⟩;have st:∀ {k2:Nat} {i2:Int},cs[k2]?=some (.int i2)->∃ i',(cs.set k (.int i))[k2]?=some (.int i'):=fun {k2 i2} z=>by
  rw [List.getElem?_set];split
  ·next e=>subst e;first | exact ⟨i,rfl⟩ | (rw [xCg hkl];exact ⟨i,rfl⟩)
  ·exact ⟨i2,z⟩
 rw [List.getElem?_set] at e;by_cases ek:k=k'
 ·subst ek;rw [xCg rfl,xCg hkl] at e;cases e;refine ⟨m,.int i,hm,?_,rfl,hi⟩;rw [List.getElem?_set,xCg rfl,xCg (h.lt m (xAc hm))]
 ·rw [xCf ek] at e;obtain ⟨m',W,e1,e2,e3⟩:=h.at_ e;refine ⟨m',W,e1,?_,e3.up (Int.le_refl _) (xAg _) st fun z=>z⟩;rw [List.getElem?_set,xCf fun z=>ek ?_]
  ·exact e2
  ·subst z;exact (List.getElem?_inj (xAq.mp hm).1 h.nd).mp (hm.trans e1.symm)
structure Inv (nm:List Str) (m:Nat) (t:Sta) (rows:List (List U)) (kv:List (Key×U)) (ws:List Str) (env:List (Str×Nat)) (N:Nat) (γ:List Vl) (ix:List Nat) (cs:List Lv) (ds lg:List Int) (c dp:Nat) (ks:List Int):Prop where
 ctx:∀ {Q:U} {c2:Nat} {γ':List Vl} {ds2 lg2:List Int} {V:Vl} {dp2:Nat},Sem true env N Q c2 γ γ' ds2 lg2 V dp2->Sem true [] 0 (wrap rows Q) (c+c2) [] γ' (ds++ds2) (lg++lg2) V (max dp dp2)
 cp:∀ {Q:U} {pls:List Int} {dep:Nat},4<=dep->CP Q pls dep ws->CP (wrap rows Q) (ks.map (plc t.s)++pls) (dep+rows.length) []
 nd:ks.Nodup
 pk:∀ k∈ks,1<=k/\k<=t.a
 ha:0<=t.a/\t.a+8 * m<=112
 hr:rows.length+m<=14
 hk:ks.length+8 * m<=112
 hc:c+20 * m<=280
 hd:ds.length+4 * m<=56
 hl:lg.length+m<=14
 hN:N+m<=14
 dp:t.dp=dp/\dp<=1
 sr:SR nm kv ws env ix
 cr:CR (1000000000000 * (15 - m)) N cs γ ix
 rl:∀ r∈rows,r.length<=4
 cl:cs.length+m<=14
section
variable {nm:List Str} {m:Nat} {t t':Sta} {rows:List (List U)} {kv kv':List (Key×U)} {ws ws':List Str} {env env':List (Str×Nat)} {N N':Nat} {γ γ':List Vl} {ix ix':List Nat} {cs cs':List Lv} {ds lg ds1 lg1:List Int} {c c1 dp dp1:Nat} {ks ks1:List Int}
theorem Inv.step (I:Inv nm (m+1) t rows kv ws env N γ ix cs ds lg c dp ks) (r:List U)
  (sem:∀ {Q:U} {c2:Nat} {γ'':List Vl} {ds2 lg2:List Int} {V:Vl} {dp2:Nat},Sem true env' N' Q c2 γ' γ'' ds2 lg2 V dp2->Sem true env N (.tup (r++[Q])) (c1+c2) γ γ'' (ds1++ds2) (lg1++lg2) V (max dp1 dp2))
  (cp:∀ {Q:U} {pls:List Int} {dep:Nat},4<=dep->CP Q pls dep ws'->CP (.tup (r++[Q])) (ks1.map (plc t.s)++pls) (dep+1) ws)
  (hs:t'.s=t.s) (nd1:ks1.Nodup) (hk1:∀ k∈ks1,t.a<k/\k<=t'.a) (hl1:ks1.length<=8) (ha:t.a<=t'.a/\t'.a<=t.a+8) (hc:c1<=20) (hd:ds1.length<=4) (hl:lg1.length<=1) (hN:N'<=N+1) (hdp:t'.dp=max dp dp1/\dp1<=1) (sr:SR nm kv' ws' env' ix') (cr:CR (1000000000000 * (15 - m)) N' cs' γ' ix') (hrl:r.length<=4) (hcl:cs'.length<=cs.length+1):Inv nm m t' (rows++[r]) kv' ws' env' N' γ' ix' cs' (ds++ds1) (lg++lg1) (c+c1) (max dp dp1) (ks++ks1):=by
 have h1:=I.ha;have h2:=I.hr;have h3:=I.hk;have h4:=I.hc;have h5:=I.hd;have h6:=I.hl;have h7:=I.hN;have h8:=I.dp;refine ⟨fun s=>?_,fun hd h=>?_,xBq.mpr ⟨I.nd,nd1,fun a ha b hb=>?_⟩,fun k hk=>?_,by lia,?_,?_,by lia,?_,?_,by lia,⟨hdp.1,by lia⟩,sr,cr,fun r' hr'=>(xAj.mp hr').elim (I.rl r') fun z=>xAm.mp z ▸ hrl,by have:=I.cl;lia⟩
 ·rw [eX];exact (I.ctx (sem s)).to (by lia) (xAx ..).symm (xAx ..).symm (Nat.max_assoc ..).symm
 ·rw [eX,hs,xAi,xAx,xAb];have:=I.cp (by lia) (cp hd h);rw [show ∀ a b:Nat,a+1+b=a+(b+1) by lia] at this;exact this
 ·have:=I.pk a ha;have:=hk1 b hb;lia
 ·rcases xAj.mp hk with hk | hk
  ·have:=I.pk k hk;lia
  ·have:=hk1 k hk;lia
 all_goals (rw [xAb];first | lia | (simp only [xAt];lia))
end
section
variable {fw d:Nat} {S S' S1 S2:So} {x:Kx Prop} {K:Kv Prop} {A:At} {t:Sta} {kv kv':List (Key×U)} {cs cs':List Lv} {ds lg:List Int} {rows:List U} {y:Str} {n i:Int} {k:Nat}
theorem gA {one:U} {c:Lv} (L:LS A t kv cs ds lg rows S) (hl:cs.length<=100) (hkl:kv.length<=100) (hk:∀ S',LS A t.nx (putK (.inr y) (.int cs.length) kv) (cs++[c]) ds lg rows S'->K (.lst [.str "let",.int t.pl,.str y,one]) S'):(Gd fw (d+2)).call 68 [.ref A.p,.ref A.sq,.str y,one,c.u] S x K:=by
 refine cd ⟨5,5,t68⟩ ?_;refine pd (L.get rfl) ?_;refine pd (dH L.ce) ?_;refine pd (dA L.ce (by show _<=2 ^ 24;rw [xAa];lia)) ?_;have L2:=L.cell (cs':=cs++[c]) (xs:=cs.map Lv.u++[c.u]) (by rw [xAi];rfl);generalize set S t.cq (.lst (cs.map Lv.u++[c.u]))=T at L2 ⊢;refine pd (L2.get rfl) ?_;refine pd (fV L2.ce) ?_;refine pd (v:=.int cs.length) (S':=T) ?_ ?_
 ·show Res.ok (.int ((((cs++[c]).map Lv.u).length:Nat) - 1)) T=_;rw [xAa,xAb];congr 2;show ((cs.length+1:Nat):Int) - 1=_;lia
 refine pd (eG L2.sc (by show _<=2 ^ 24;lia)) ?_;have L3:=L2.scope (kv':=putK (.inr y) (.int cs.length) kv);generalize set T A.sq (.dct (putK (.inr y) (.int cs.length) kv))=T' at L3 ⊢;refine dn L3 fun S' L4=>?_;refine pd (v:=.lst [.str "let",.int t.pl,.str y,one]) (S':=S') (by rfl) ?_;exact hk S' L4
theorem kB {up:List (Str×Str)} {q:Nat} {xs ys:List U} (h:at? S q=some (.lst xs)) (hl:xs.length+ys.length<=1000):pr up (.add true) [.ref q,.lst ys] S = .ok (.ref S.length) (S++[.lst (xs++ys)]):=by
 show (match lsT S (.ref q),some ys with | some xs,some ys=>fits (xs.length+ys.length) (mkL true (xs++ys) S) | _,_=>.stuck)=_;have e:lsT S (.ref q)=some xs:=by show (match at? S q with | some (.lst xs)=>some xs | _=>none)=_;rw [h]
 rw [e];exact fitsO (by show _<=2 ^ 24;lia)
theorem nk (L:LS A t kv cs ds lg rows S) (hg:getK (.inr y) kv=some (.int k)) (hl:ds.length<=100) (hk:∀ S',LS A t.nx.nx.nx.nx.nx kv cs (ds++[t.nx.nx.nx.nx.pl]) lg rows S'->K (.lst [.tup [.str "fn",.int t.nx.nx.nx.nx.pl,.tup [],setU t.nx.nx.nx.pl y t.pl t.nx.pl t.nx.nx.pl n],(Lv.sc k n t.nx.pl t.nx.nx.nx.pl).u]) S'):(Gd fw (d+4)).call 66 [.ref A.p,.ref A.sq,.str y,.int n] S x K:=by
 refine cd ⟨4,7,t66⟩ ?_;refine lu L fun S1 L1=>?_;refine dn L1 fun S2 L2=>?_;refine dn L2 fun S3 L3=>?_;refine pd (L3.get rfl) ?_;refine pd (dH L3.de) ?_;refine pd (dA L3.de (by show _<=2 ^ 24;rw [xAa];lia)) ?_;have L4:=L3.deed (i:=t.nx.nx.nx.nx.pl);generalize set S3 _ _=T at L4 ⊢;refine pd (dQ L4.sc hg) ?_;refine pv (.int t.nx.pl) ?_;refine pv (.int t.nx.nx.nx.pl) ?_;refine pd (S':=T) (by rfl) ?_;exact hk T L4
theorem nW (L:LS A t kv cs ds lg rows S) (hl:ds.length<=100) (hk:∀ S',LS A t.nx.nx.nx.nx.nx.nx.nx kv cs (ds++[t.nx.nx.nx.nx.nx.nx.pl]) lg rows S'->K (.lst [.tup [.str "fn",.int t.nx.nx.nx.nx.nx.nx.pl,.tup [.str y],doU t.nx.nx.nx.nx.pl t.nx.nx.nx.pl y t.pl t.nx.pl t.nx.nx.pl n t.nx.nx.nx.nx.nx.pl],(Lv.pa n t.nx.pl t.nx.nx.nx.pl).u]) S'):(Gd fw (d+4)).call 67 [.ref A.p,.str y,.int n] S x K:=by
 refine cd ⟨3,7,t67⟩ ?_;refine lu L fun S1 L1=>?_;refine dn L1 fun S2 L2=>?_;refine dn L2 fun S3 L3=>?_;refine dn L3 fun S4 L4=>?_;refine dn L4 fun S5 L5=>?_;refine pd (L5.get rfl) ?_;refine pd (dH L5.de) ?_;refine pd (dA L5.de (by show _<=2 ^ 24;rw [xAa];lia)) ?_;have L6:=L5.deed (i:=t.nx.nx.nx.nx.nx.nx.pl);generalize set S5 _ _=T at L6 ⊢;refine pv (.int t.nx.pl) ?_;refine pv (.int t.nx.nx.nx.pl) ?_;refine pd (S':=T) (by rfl) ?_;exact hk T L6
theorem LS.cellAt (L:LS A t kv cs ds lg rows S) {c:Lv} (h:cs[k]?=some c):pr ups .ix [.ref t.cq,.int k] S = .ok c.u S:=dP L.ce (by rw [xAw,h];rfl)
noncomputable def Sta.dd (t:Sta) (q:Nat):Sta:={ t with dq:=q,dp:=1 }
theorem mj {k':Nat} {n0 p1 p2 i0:Int} (L:LS A t kv cs ds lg rows S) (hg:getK (.inr y) kv=some (.int k)) (hc:cs[k]?=some (.sc k' n0 p1 p2)) (hc':cs[k']?=some (.int i0)) (hl:ds.length<=100) (hk:∀ S' q,LS A (t.nx.nx.dd q) kv (cs.set k' (.int (i0+n0))) (ds++[t.nx.pl,p1,p2]) lg rows S'->K (.lst [.tup [.str "call",.int t.nx.pl,nmU t.pl y,.tup []],.int (i0+n0)]) S'):(Gd fw (d+3)).call 69 [.ref A.p,.ref A.sq,.str y,.int n] S x K:=by
 refine cd ⟨4,9,t69⟩ ?_;refine pd (L.get rfl) ?_;refine pd (dQ L.sc hg) ?_;refine pd (L.cellAt hc) ?_;refine dn L fun S1 L1=>?_;refine dn L1 fun S2 L2=>?_;refine pv (.int k') ?_;refine pv (.bl false) ?_;refine bF ?_;refine pd (L2.get rfl) ?_;refine pv (.int p1) ?_;refine pv (.int p2) ?_;refine pv (.lst [.int t.nx.pl,.int p1,.int p2]) ?_;refine pd (kB L2.de (by show _+3<=_;rw [xAa];lia)) ?_;have e:ds.map U.int++[.int t.nx.pl,.int p1,.int p2]=(ds++[t.nx.pl,p1,p2]).map U.int:=by rw [xAi];rfl
 rw [e];refine pd (v:=.non) (S':=set (S2++[.lst ((ds++[t.nx.pl,p1,p2]).map U.int)]) A.p ({ t.nx.nx with dq:=S2.length }:Sta).o) (eG (L2.app (T:=[.lst ((ds++[t.nx.pl,p1,p2]).map U.int)])).st (by show 7<=2 ^ 24;decide)) ?_;have L3:=L2.deeds (ds':=ds++[t.nx.pl,p1,p2]);generalize set (S2++[.lst ((ds++[t.nx.pl,p1,p2]).map U.int)]) A.p ({ t.nx.nx with dq:=S2.length }:Sta).o=T at L3 ⊢;refine pd (v:=.non) (S':=set T A.p (t.nx.nx.dd S2.length).o) (eG L3.st (by show 7<=2 ^ 24;decide)) ?_;have L4:=L3.state (t':=t.nx.nx.dd S2.length) rfl rfl rfl;generalize set T A.p (t.nx.nx.dd S2.length).o=T2 at L4 ⊢;refine pv (.int n0) ?_;refine pv (.int (n+n0)) ?_;refine pv (.int k') ?_;refine pv (.bl true) ?_;refine bT ?_;refine pd (L4.get rfl) ?_;refine pv (.int k') ?_;refine pd (L4.cellAt hc') ?_;refine pv (.int n0) ?_;refine pv (.int (i0+n0)) ?_;refine pd (L4.get rfl) ?_;refine pv (.int k') ?_;refine pd (iU L4.ce (by rw [xAa];exact (xAq.mp hc').1)) ?_;have L5:=L4.cell (cs':=cs.set k' (.int (i0+n0))) (xs:=(cs.map Lv.u).set k' (.int (i0+n0))) (by rw [List.map_set];rfl);refine pd (by rfl) ?_;exact hk _ _ L5
theorem ml {n0 p1 p2:Int} (L:LS A t kv cs ds lg rows S) (hg:getK (.inr y) kv=some (.int k)) (hc:cs[k]?=some (.pa n0 p1 p2)) (hl:ds.length<=100) (hk:∀ S' q,LS A (t.nx.nx.nx.dd q) kv cs (ds++[t.nx.pl,p1,p2]) lg rows S'->K (.lst [.tup [.str "call",.int t.nx.pl,nmU t.pl y,.tup [numU t.nx.nx.pl n]],.int (n+n0)]) S'):(Gd fw (d+3)).call 69 [.ref A.p,.ref A.sq,.str y,.int n] S x K:=by
 refine cd ⟨4,9,t69⟩ ?_;refine pd (L.get rfl) ?_;refine pd (dQ L.sc hg) ?_;refine pd (L.cellAt hc) ?_;refine dn L fun S1 L1=>?_;refine dn L1 fun S0 L0=>?_;refine pv .non ?_;refine pv (.bl true) ?_;refine bT ?_;refine eZ L0 fun S2 L2=>?_;refine pd (L2.get rfl) ?_;refine pv (.int p1) ?_;refine pv (.int p2) ?_;refine pv (.lst [.int t.nx.pl,.int p1,.int p2]) ?_;refine pd (kB L2.de (by show _+3<=_;rw [xAa];lia)) ?_;have e:ds.map U.int++[.int t.nx.pl,.int p1,.int p2]=(ds++[t.nx.pl,p1,p2]).map U.int:=by rw [xAi];rfl
 rw [e];refine pd (v:=.non) (S':=set (S2++[.lst ((ds++[t.nx.pl,p1,p2]).map U.int)]) A.p ({ t.nx.nx.nx with dq:=S2.length }:Sta).o) (eG (L2.app (T:=[.lst ((ds++[t.nx.pl,p1,p2]).map U.int)])).st (by show 7<=2 ^ 24;decide)) ?_;have L3:=L2.deeds (ds':=ds++[t.nx.pl,p1,p2]);generalize set (S2++[.lst ((ds++[t.nx.pl,p1,p2]).map U.int)]) A.p ({ t.nx.nx.nx with dq:=S2.length }:Sta).o=T at L3 ⊢;refine pd (v:=.non) (S':=set T A.p (t.nx.nx.nx.dd S2.length).o) (eG L3.st (by show 7<=2 ^ 24;decide)) ?_;have L4:=L3.state (t':=t.nx.nx.nx.dd S2.length) rfl rfl rfl;generalize set T A.p (t.nx.nx.nx.dd S2.length).o=T2 at L4 ⊢;refine pv (.int n0) ?_;refine pv (.int (n+n0)) ?_;refine pv .non ?_;refine pv (.bl false) ?_;refine bF ?_;refine pd (by rfl) ?_;exact hk _ _ L4
end
theorem ten40:(10:Int) ^ 40=10000000000000000000000000000000000000000:=by decide
theorem nobig {v:Int} (h:-100000000000000<=v/\v<=100000000000000):¬ big v:=by
 unfold big;rw [ten40];split <;> lia
theorem okp {s k:Int}:okP (plc s k):=by unfold okP plc;lia
theorem cpn {s k i:Int} {req:List Str} (h:nb i):CP (numU (plc s k) i) [plc s k] 0 req:=(vc okp (by have:=h.1;have:=h.2;constructor <;> (show _<_;lia))).any
section
variable {fw d:Nat} {S S' S1 S2:So} {x:Kx Prop} {K:Kv Prop} {A:At} {nm:List Str} {m:Nat} {t:Sta} {rows:List (List U)} {kv:List (Key×U)} {ws:List Str} {env:List (Str×Nat)} {N:Nat} {γ:List Vl} {ix:List Nat} {cs:List Lv} {ds lg:List Int} {c dp:Nat} {ks:List Int} {y w:Str} {n i:Int} {k:Nat}
def Kr (nm:List Str) (m:Nat) (A:At) (rows:List (List U)) (K:Kv Prop):Prop:=∀ S' r t' kv' ws' env' N' γ' ix' cs' ds' lg' c' dp' ks',Inv nm m t' (rows++[r]) kv' ws' env' N' γ' ix' cs' ds' lg' c' dp' ks'->LS A t' kv' cs' ds' lg' (rows.map U.lst) S'->K (.lst r) S'
theorem Bup {m:Nat}:(1000000000000:Int) * (15 - (m+1:Nat))<=1000000000000 * (15 - m):=by lia
theorem Inv.cr' (I:Inv nm (m+1) t rows kv ws env N γ ix cs ds lg c dp ks) {N':Nat} (hN:N<=N'):CR (1000000000000 * (15 - m)) N' cs γ ix:=I.cr.up Bup hN ⟨[],(xB0 _).symm⟩
theorem gk {V:Vl} {cv:Lv} {one:U} {c1:Nat} {ds1:List Int} {t':Sta} {ks1:List Int} (I:Inv nm (m+1) t rows kv ws env N γ ix cs ds lg c dp ks) (hy:y∈nm) (hyn:nameB y=true) (s1:Sem false env N one c1 γ γ ds1 [] V 0) (hc1:1<=c1/\c1<=10) (hcp:CP one (ks1.map (plc t.s)) 4 ws) (hV:CV (1000000000000 * (15 - m)) (N+1) cs ix cv V) (hs:t'.s=t.s/\t'.dp=t.dp) (ha:t.a<=t'.a/\t'.a<=t.a+8) (nd1:ks1.Nodup) (hk1:∀ k∈ks1,t.a<k/\k<t'.a) (hl1:ks1.length<=7) (hd1:ds1.length<=4) (hta:t.a<t'.a)
  (hk:Kr nm m A rows K) (L:LS A t' (putK (.inr y) (.int cs.length) kv) (cs++[cv]) (ds++ds1) lg (rows.map U.lst) S):K (.lst [.str "let",.int (plc t.s t'.a),.str y,one]) S:=by
 obtain ⟨ws',sr',hws⟩:=I.sr.put (m:=γ.length) hy;rw [<- I.cr.len] at sr';refine hk S [.str "let",.int (plc t.s t'.a),.str y,one] t' _ ws' ((y,γ.length)::env) (N+1) (γ++[V]) (ix++[γ.length]) (cs++[cv]) (ds++ds1) (lg++[]) (c+(c1+2)) (max dp 0) (ks++t'.a::ks1) (I.step _ (fun s=>?_) (fun hd h=>?_) hs.1 ?_ ?_ ?_ ha (by lia) hd1 (by decide) (xAg _) ⟨by rw [hs.2,I.dp.1,Nat.max_zero],by decide⟩ sr' ((I.cr' (Nat.le_succ N)).push hV) (by show 4<=4;decide) (by rw [xAb];exact xAg _)) (by rw [xB0];exact L)
 ·exact (vA s1 hc1.1 s).to (by lia) rfl rfl rfl
 ·have:=vd (pl:=plc t.s t'.a) okp hyn (hcp.mono hd) h hws;exact this
 ·exact xCb.mpr ⟨fun z=>by have:=hk1 _ z;lia,nd1⟩
 ·intro k hk;rcases xAv.mp hk with rfl | hk
  ·lia
  ·have:=hk1 k hk;lia
 ·rw [xAo];lia
theorem iw {V:Vl} {p:U} {γ1:List Vl} {cs':List Lv} {c1 dp1:Nat} {ds1 lg1:List Int} {t':Sta} {ks1:List Int} (I:Inv nm (m+1) t rows kv ws env N γ ix cs ds lg c dp ks) (s1:Sem false env N p c1 γ γ1 ds1 lg1 V dp1) (hc1:1<=c1/\c1<=18) (hcp:CP p (ks1.map (plc t.s)) 4 ws) (hs:t'.s=t.s/\t'.dp=max dp dp1) (hdp:dp1<=1) (ha:t.a<=t'.a/\t'.a<=t.a+8) (nd1:ks1.Nodup) (hk1:∀ k∈ks1,t.a<k/\k<t'.a) (hl1:ks1.length<=7) (hd1:ds1.length<=4) (hlg:lg1.length<=1) (hta:t.a<t'.a) (cr:CR (1000000000000 * (15 - m)) N cs' γ1 ix)
  (hk:Kr nm m A rows K) (L:LS A t' kv cs' (ds++ds1) (lg++lg1) (rows.map U.lst) S):K (.lst [.str "do",.int (plc t.s t'.a),p]) S:=by
 refine hk S [.str "do",.int (plc t.s t'.a),p] t' kv ws env N γ1 ix cs' (ds++ds1) (lg++lg1) (c+(c1+2)) (max dp dp1) (ks++t'.a::ks1) (I.step _ (fun s=>?_) (fun hd h=>?_) hs.1 ?_ ?_ ?_ ha (by lia) hd1 hlg (Nat.le_succ N) ⟨hs.2,hdp⟩ I.sr cr (by show 3<=4;decide) (by rw [cr.len,<- I.cr.len];exact Nat.le_succ _)) L
 ·exact (vE s1 hc1.1 s).to (by lia) rfl rfl rfl
 ·have:=se (pl:=plc t.s t'.a) okp (hcp.mono hd) h;exact this
 ·exact xCb.mpr ⟨fun z=>by have:=hk1 _ z;lia,nd1⟩
 ·intro k hk;rcases xAv.mp hk with rfl | hk
  ·lia
  ·have:=hk1 k hk;lia
 ·rw [xAo];lia
end
section
variable {fw d:Nat} {S S' S1 S2:So} {x:Kx Prop} {K:Kv Prop} {A:At} {nm:List Str} {m:Nat} {t t0:Sta} {rows:List (List U)} {kv:List (Key×U)} {ws:List Str} {env env0:List (Str×Nat)} {N N0:Nat} {γ:List Vl} {ix:List Nat} {cs:List Lv} {ds lg:List Int} {c dp:Nat} {ks:List Int} {y w:Str} {n i:Int} {k:Nat}
theorem addS {la:Bool} {a p1 e i0 n0:Int} {j:Nat} (h1:getF y env=some j) (h2:γ[j]?=some (.int i0)) (hb:¬ big (i0+n0)):Sem la env N (addU a p1 e y n0) 4 γ γ [p1] [] (.int (i0+n0)) 0:=vG (f8 h1 h2) iQ (by decide) (by decide) hb
theorem setS {la:Bool} {a p1 p2 e i0 n0:Int} {j:Nat} (h1:getF y env=some j) (h2:γ[j]?=some (.int i0)) (hb:¬ big (i0+n0)):Sem la env N (setU p2 y a p1 e n0) 6 γ (γ.set j (.int (i0+n0))) [p1,p2] [] (.int (i0+n0)) 0:=rG (addS h1 h2 hb) (by decide) h1
theorem callS {a b p1 p2 e i0 n0 pf pl:Int} {j q:Nat} (hy:getF w env=some q) (hq:γ[q]?=some (.fn pf [] (setU p2 y a p1 e n0) env0 N0)) (hN:N0<=N) (h1:getF y env0=some j) (h2:γ[j]?=some (.int i0)) (hb:¬ big (i0+n0)):Sem false env N (.tup [.str "call",.int pl,nmU b w,.tup []]) 10 γ (γ.set j (.int (i0+n0))) [pl,p1,p2] [] (.int (i0+n0)) 1:=pR (f8 hy hq) (by decide) hN (setS h1 h2 hb)
theorem callP {a b p p1 p2 e f g n n0 pf pl:Int} {q:Nat} (hy:getF w env=some q) (hq:γ[q]?=some (.fn pf [y] (doU p p2 y a p1 e n0 f) env0 N0)) (hN:N0<=N) (hb:¬ big (n+n0)):Sem false env N (.tup [.str "call",.int pl,nmU b w,.tup [numU g n]]) 14 γ (γ++[.int (n+n0)]) [pl,p1,p2] [] (.int (n+n0)) 1:=by
 have e1:(γ++[Vl.int n])[γ.length]?=some (.int n):=by rw [List.getElem?_append_right (xAg _),Nat.sub_self];rfl
 have e2:(γ++[Vl.int n]).set γ.length (.int (n+n0))=γ++[.int (n+n0)]:=by rw [List.set_append_right _ _ (xAg _),Nat.sub_self];rfl
 have e3:(γ++[Vl.int (n+n0)])[γ.length]?=some (.int (n+n0)):=by rw [List.getElem?_append_right (xAg _),Nat.sub_self];rfl
 have g0:getF y ((y,γ.length)::env0)=some γ.length:=by simp [getF]
 have s1:=setS (la:=false) (N:=N0+1) (a:=a) (p1:=p1) (p2:=p2) (e:=e) g0 e1 hb;rw [e2] at s1;exact pQ (f8 hy hq) (by decide) iQ (by decide) hN (vE s1 (by decide) (f8 g0 e3))
theorem CR.num {B:Int} (h:CR B N cs γ ix) (hc:cs[k]?=some (.int i)):∃ j,ix[k]?=some j/\γ[j]?=some (.int i)/\-B<=i/\i<=B:=by
 obtain ⟨j,V,h1,h2,h3,h4⟩:=h.at_ hc;rw [h3] at h2;exact ⟨j,h1,h2,h4⟩
noncomputable def isF:Lv->Prop
 | .int _=>False
 | _=>True
theorem mn {cv:Lv} {mm:Nat} (I:Inv nm (m+1) t rows kv ws env N γ ix cs ds lg c dp ks) (hy:y∈ws) (hyn:nameB y=true) (L:LS A t0 kv cs ds lg (rows.map U.lst) S) (ht:t0.s=t.s) (hg:getK (.inr y) kv=some (.int k)) (hix:ix[k]?=some mm) (henv:getF y env=some mm) (hc:cs[k]?=some cv) (hF:isF cv) (hn:nb n)
  (hk:∀ (S':So) (p:U) (γ1:List Vl) (cs':List Lv) (v:Int) (c1:Nat) (t1:Sta) (ks1 ds1:List Int),LS A t1 kv cs' (ds++ds1) lg (rows.map U.lst) S'->Sem false env N p c1 γ γ1 ds1 [] (.int v) 1->(1<=c1/\c1<=14)->CP p (ks1.map (plc t.s)) 1 ws->t1.s=t.s/\t1.dp=1->t0.a<=t1.a/\t1.a<=t0.a+3->ks1.Nodup->(∀ k∈ks1,t0.a<k/\k<=t1.a)->ks1.length<=3->ds1.length=3->CR (1000000000000 * (15 - m)) N cs' γ1 ix->K (.lst [p,.int v]) S'):(Gd fw (d+3)).call 69 [.ref A.p,.ref A.sq,.str y,.int n] S x K:=by
 have h5:=I.hd;have cr:=I.cr' (xAg N);have hN:=I.hN;cases cv with
 | int i=>exact hF.elim
 | sc k' n0 p1 p2 =>
  obtain ⟨j,V,e1,e2,e3⟩:=I.cr.at_ hc;rw [hix] at e1;cases e1;obtain ⟨pf,y',a,e,env0,N0,m',i0,rfl,f1,f2,f3,f4,f5⟩:=e3;obtain ⟨j',g1,g2,g3⟩:=I.cr.num f4;rw [f2] at g1;cases g1;have B1:=f5.1;have B2:=f5.2;refine mj L hg hc f4 (by lia) fun S' q L'=>?_;refine hk S' _ _ _ _ _ _ [t0.a+1+1,t0.a+1] [t0.nx.pl,p1,p2] L' (callS henv e2 f1 f3 g2 (nobig (by lia))) (by decide) ?_ ⟨ht,rfl⟩ ?_ ?_ ?_ (by show 2<=3;decide) rfl (cr.put f4 f2 (by lia))
  ·have:=pb (pl:=plc t.s (t0.a+1+1)) okp (gT (pl:=plc t.s (t0.a+1)) okp hyn hy);rw [<- ht] at this;rw [<- ht];exact this
  ·show t0.a<=t0.a+1+1/\t0.a+1+1<=t0.a+3;lia
  ·simp;lia
  ·intro k hk;show _/\k<=t0.a+1+1;simp at hk;lia
 | pa n0 p1 p2 =>
  obtain ⟨j,V,e1,e2,e3⟩:=I.cr.at_ hc;rw [hix] at e1;cases e1;obtain ⟨pf,y',a,e,p,f,env0,N0,rfl,f1,f5⟩:=e3;have B1:=f5.1;have B2:=f5.2;have B3:=hn.1;have B4:=hn.2;refine ml L hg hc (by lia) fun S' q L'=>?_;refine hk S' _ _ _ _ _ _ [t0.a+1+1,t0.a+1,t0.a+1+1+1] [t0.nx.pl,p1,p2] L' (callP henv e2 f1 (nobig (by lia))) (by decide) ?_ ⟨ht,rfl⟩ ?_ ?_ ?_ (by show 3<=3;decide) rfl (cr.up (Int.le_refl _) (xAg _) ⟨_,rfl⟩)
  ·have:=o9 (pl:=plc t.s (t0.a+1+1)) okp (gT (pl:=plc t.s (t0.a+1)) okp hyn hy) (cpn (s:=t.s) (k:=t0.a+1+1+1) hn);rw [<- ht] at this;rw [<- ht];exact this
  ·show t0.a<=t0.a+1+1+1/\t0.a+1+1+1<=t0.a+3;lia
  ·simp;lia
  ·intro k hk;show _/\k<=t0.a+1+1+1;simp at hk;lia
theorem ieq {n b:Int} {up:List (Str×Str)}:pr up .eq [.int n,.int b] S = .ok (.bl (decide (n=b))) S:=rfl
noncomputable def tl70:TSx Prop:=sQ (sA 7 (cF 63 (aC (cV 0) aN) [])) (sQ (sE (cBM "list" .app (cP .ix (lst2 (cV 0) (cC (.str "deeds")))) (aC (cV 7) aN))) (sQ (sE (cBM "list" .app (cP .ix (lst2 (cV 0) (cC (.str "log")))) (aC (cP .ix (lst2 (cV 8) (cC (.int (1))))) aN))) (sQ (sR (cP (.lst false) (aC (cC (.str "do")) (aC (cF 63 (aC (cV 0) aN) []) (aC (cT (aC (cC (.str "tell")) (aC (cV 7) (aC (cP .ix (lst2 (cV 8) (cC (.int (0))))) aN)))) aN))))) sN)))
theorem j7 {p:U} {v:Int} {c1 dp1:Nat} {γ1:List Vl} {cs':List Lv} {ds1 ks1:List Int} {t1:Sta} {a1 a2 a3 a4 a5 a6:Option U} (I:Inv nm (m+1) t rows kv ws env N γ ix cs ds lg c dp ks) (L:LS A t1 kv cs' (ds++ds1) lg (rows.map U.lst) S) (s1:Sem false env N p c1 γ γ1 ds1 [] (.int v) dp1) (hc1:1<=c1/\c1<=14) (hcp:CP p (ks1.map (plc t.s)) 1 ws) (ht1:t1.s=t.s/\t1.dp=max dp dp1) (hdp:dp1<=1) (ha1:t.a<=t1.a/\t1.a<=t.a+4) (nd1:ks1.Nodup) (hk1:∀ k∈ks1,t.a<k/\k<=t1.a) (hl1:ks1.length<=3) (hd1:ds1.length<=3) (cr1:CR (1000000000000 * (15 - m)) N cs' γ1 ix) (hk:Kr nm m A rows K):tl70 (Gd fw (d+3)) [some (.ref A.p),a1,a2,a3,a4,a5,a6,none,some (.lst [p,.int v])] S (endsOf x K):=by
 have h5:=I.hd;have h6:=I.hl;have e:t1.pl=plc t.s (t1.a+1):=by show plc t1.s _=_;rw [ht1.1]
 have e':t1.nx.pl=plc t.s t1.nx.nx.a:=by show plc t1.s _=_;rw [ht1.1];rfl
 refine dn L fun S3 L3=>?_;refine pd (L3.get rfl) ?_;refine pd (dH L3.de) ?_;refine pd (dA L3.de (by show _<=2 ^ 24;rw [xAa,xAb];lia)) ?_;have L4:=L3.deed (i:=t1.pl);generalize set S3 _ _=T at L4 ⊢;refine pd (L4.get rfl) ?_;refine pd (dH L4.lo) ?_;refine pv (.int v) ?_;refine pd (dA L4.lo (by show _<=2 ^ 24;rw [xAa];lia)) ?_;have L5:=L4.told (i:=v);generalize set T _ _=T' at L5 ⊢;refine dn L5 fun S6 L6=>?_;refine pv p ?_;refine pd (S':=S6) (by rfl) ?_;rw [xAx] at L6;show K (.lst [.str "do",.int t1.nx.pl,.tup [.str "tell",.int t1.pl,p]]) S6;rw [e] at L6 ⊢;rw [e'];refine iw (t':=t1.nx.nx) (ks1:=(t1.a+1)::ks1) (lg1:=[v]) I (sC s1 hc1.1) (by lia) ((qX okp hcp).mono (by decide)) ⟨ht1.1,ht1.2⟩ hdp ?_ (xCb.mpr ⟨fun z=>by have:=hk1 _ z;lia,nd1⟩) ?_ ?_ ?_ (by show 1<=1;decide) ?_ cr1 hk L6
 ·show t.a<=t1.a+1+1/\t1.a+1+1<=t.a+8;lia
 ·intro k hk;show _/\k<t1.a+1+1;rcases xAv.mp hk with rfl | hk
  ·lia
  ·have:=hk1 k hk;lia
 ·rw [xAo];lia
 ·rw [xAb];show _+1<=_;lia
 ·show t.a<t1.a+1+1;lia
theorem sj {way:Int} (I:Inv nm (m+1) t rows kv ws env N γ ix cs ds lg c dp ks) (hy:y∈ws) (hyn:nameB y=true) (L:LS A t kv cs ds lg (rows.map U.lst) S) (hn:nb n) (hk:Kr nm m A rows K):(Gd fw (d+4)).call 70 [.ref A.p,.ref A.sq,.str y,.int n,.int way] S x K:=by
 obtain ⟨k,mm,hg,hix,henv⟩:=I.sr.at_ y hy;have hkl:k<cs.length:=by rw [I.cr.len];exact (xAq.mp hix).1
 obtain ⟨cv,hc⟩:∃ cv,cs[k]?=some cv:=⟨_,xAk hkl⟩
 have h5:=I.hd;have h8:=I.dp;have cr:=I.cr' (xAg N);have B1:=hn.1;have B2:=hn.2;have hN:=I.hN;refine cd ⟨5,9,t70⟩ ?_;refine pd (L.get rfl) ?_;refine pd (dQ L.sc hg) ?_;refine pd (L.cellAt hc) ?_;by_cases hF:isF cv
 ·refine pv (.bl false) ?_ (by cases cv <;> first | exact hF.elim | rfl);refine bF ?_;refine bF ?_;refine dn L fun S1 L1=>?_;refine pd (S':=S1) (by rfl) ?_;refine pv (.bl false) ?_ (by cases cv <;> first | exact hF.elim | rfl);refine bT ?_;refine mn (t0:=t.nx) I hy hyn L1 rfl hg hix henv hc hF hn fun S2 p γ1 cs' v c1 t1 ks1 ds1 L2 s1 hc1 hcp ht1 ha1 nd1 hk1 hl1 hd1 cr1=>?_;have ha1:t.a+1<=t1.a/\t1.a<=t.a+1+3:=ha1;have hk1:∀ k∈ks1,t.a<k/\k<=t1.a:=fun k hk=>⟨by have:t.a+1<k:=(hk1 k hk).1;lia,(hk1 k hk).2⟩
  have hdp:t1.dp=(max dp 1:Nat):=by rw [ht1.2];lia
  refine pv (.int (way % 3)) ?_;refine pd ieq ?_;refine bI (fun _=>?_) fun _=>?_
  ·refine pv (.bl false) ?_ (by cases cv <;> first | exact hF.elim | rfl);refine bT ?_;refine dn L2 fun S3 L3=>?_;refine pv p ?_;refine pd (S':=S3) (by rfl) ?_;show K (.lst [.str "do",.int (plc t1.s (t1.a+1)),p]) S3;rw [ht1.1];refine iw (t':=t1.nx) (lg1:=[]) I s1 (by lia) (hcp.mono (by decide)) ⟨ht1.1,hdp⟩ (by decide) ?_ nd1 ?_ (by lia) (by lia) (by decide) ?_ cr1 hk (by rw [xB0];exact L3)
   ·show t.a<=t1.a+1/\t1.a+1<=t.a+8;lia
   ·intro k hk;show _/\k<t1.a+1;have:=hk1 k hk;lia
   ·show t.a<t1.a+1;lia
  ·refine bF ?_;exact j7 I L2 s1 hc1 hcp ⟨ht1.1,hdp⟩ (by decide) (by lia) nd1 hk1 hl1 (by lia) cr1 hk
 ·cases cv with
  | sc=>exact (hF trivial).elim
  | pa=>exact (hF trivial).elim
  | int i0 =>
  obtain ⟨j,g1,g2,g3⟩:=I.cr.num hc;rw [hix] at g1;cases g1;have tl:∀ {T:So} {a1 a2 a3 a4 a5 a6:Option U},LS A t.nx kv cs ds lg (rows.map U.lst) T->tl70 (Gd fw (d+3)) [some (.ref A.p),a1,a2,a3,a4,a5,a6,none,some (.lst [nmU t.pl y,.int i0])] T (endsOf x K):=by
   intro T a1 a2 a3 a4 a5 a6 LT;refine j7 (t1:=t.nx) (ks1:=[t.a+1]) (ds1:=[]) I (by rw [xB0];exact LT) (f8 henv g2) (by decide) ((gT okp hyn hy).mono (by decide)) ⟨rfl,by rw [Nat.max_zero];exact h8.1⟩ (by decide) ?_ (by simp) ?_ (by show 1<=3;decide) (by decide) cr hk
   ·show t.a<=t.a+1/\t.a+1<=t.a+4;lia
   ·intro k hk;show _/\k<=t.a+1;rw [xAm.mp hk];lia
  refine pv (.bl true) ?_;refine bT ?_;refine pv (.int (way % 2)) ?_;refine pd ieq ?_;refine bI (fun _=>?_) fun _=>?_
  ·refine eZ L fun S1 L1=>?_;refine dn L1 fun S2 L2=>?_;refine pd (L2.get rfl) ?_;refine pd (dH L2.de) ?_;refine pd (dA L2.de (by show _<=2 ^ 24;rw [xAa];lia)) ?_;have L3:=L2.deed (i:=t.nx.pl);generalize set S2 _ _=T at L3 ⊢;refine pd (L3.get rfl) ?_;refine pd (dQ L3.sc hg) ?_;refine pd (iU L3.ce (by rw [xAa];exact hkl)) ?_;have L4:=L3.cell (cs':=cs.set k (.int n)) (xs:=(cs.map Lv.u).set k (.int n)) (by rw [List.map_set];rfl);generalize set T _ _=T' at L4 ⊢;refine dn L4 fun S5 L5=>?_;refine pd (S':=S5) (by rfl) ?_;show K (.lst [.str "do",.int (plc t.s t.nx.nx.nx.a),.tup [.str "set",.int t.nx.pl,.str y,numU t.pl n]]) S5;refine iw (t':=t.nx.nx.nx) (lg1:=[]) (ks1:=[t.a+1+1,t.a+1]) I (rG iQ (by decide) henv) (by decide) ((jW (pl:=plc t.s (t.a+1+1)) okp hyn hy (cpn (s:=t.s) (k:=t.a+1) hn)).mono (by decide)) ⟨rfl,by rw [Nat.max_zero];exact h8.1⟩ (by decide) ?_ ?_ ?_ (by show 2<=7;decide) (by show 1<=4;decide) (by decide) ?_ (cr.put hc hix (by lia)) hk (by rw [xB0];exact L5)
   ·show t.a<=t.a+1+1+1/\t.a+1+1+1<=t.a+8;lia
   ·simp;lia
   ·intro k hk;show _/\k<t.a+1+1+1;simp at hk;lia
   ·show t.a<t.a+1+1+1;lia
  ·refine dn L fun S1 L1=>?_;refine pd (S':=S1) (by rfl) ?_;refine pv (.bl true) ?_;refine bF ?_;refine pv (.int (way % 3)) ?_;refine pd ieq ?_;refine bI (fun _=>?_) fun _=>?_
   ·refine pv (.bl true) ?_;refine bF ?_;exact tl L1
   ·refine bF ?_;exact tl L1
end
section
variable {fw d:Nat} {S S' S1 S2:So} {x:Kx Prop} {K:Kv Prop} {A:At} {nm:List Str} {m:Nat} {t t0:Sta} {rows:List (List U)} {kv:List (Key×U)} {ws:List Str} {env env0:List (Str×Nat)} {N N0:Nat} {γ:List Vl} {ix:List Nat} {cs:List Lv} {ds lg:List Int} {c dp:Nat} {ks:List Int} {y w:Str} {n i:Int} {k:Nat}
theorem rQ (h:nm.length=4):∃ y∈nm,∀ S,pr ups .ix [.lst (nm.map .str),.int (i % 4)] S = .ok (.str y) S:=by
 obtain ⟨j,hj⟩:∃ j:Nat,i % 4=j:=⟨(i % 4).toNat,by lia⟩
 have h4:j<nm.length:=by lia
 refine ⟨nm[j],List.getElem_mem h4,fun S=>?_⟩;rw [hj];show opt (atI (nm.map U.str) (j:Int)) S=_;rw [eh (v:=.str nm[j]) (by rw [xAw,xAk h4];rfl)];rfl
theorem uV (h:at? S k=some (.dct kv)):pr ups .eq [.ref k,.ref S.length] (S++[Ob.dct []]) = .ok (.bl kv.isEmpty) (S++[Ob.dct []]):=by
 have e1:dctU (S++[Ob.dct []]) (.ref S.length)=some []:=by show (match at? (S++[Ob.dct []]) S.length with | some (.dct kvs)=>some kvs | _=>none)=_;rw [atNew]
 have e2:dctU (S++[Ob.dct []]) (.ref k)=some kv:=by show (match at? (S++[Ob.dct []]) k with | some (.dct kvs)=>some kvs | _=>none)=_;rw [atApp h]
 show (match eqE (S++[Ob.dct []]) (.ref k) (.ref S.length) with | some c=>Res.ok (.bl c) (S++[Ob.dct []]) | none=>Fx.eqU id (.ref k) (.ref S.length) (S++[Ob.dct []]))=_;unfold eqE;rw [e1,e2];rfl
theorem uc (h:at? S k=some (.dct kv)):pr ups .nin [.str w,.ref k] S = .ok (.bl (!(getK (.inr w) kv).isSome)) S:=by
 show obB (inU S (.str w) (.ref k)) not S=_;unfold inU;dsimp only;rw [h];rfl
theorem iK:∀ {ws:List Str},strK (ws.map Sum.inr)=some ws
 | []=>rfl
 | w::ws=>by show (strK (ws.map Sum.inr)).map (w::·)=_;rw [iK];rfl
theorem pN (h:at? S k=some (.dct kv)) (e:kv.map (·.1)=ws.map Sum.inr) (hl:ws.length<=4):pr ups .sortS [.ref k] S = .ok (.lst ((SortS.srtW ws).map .str)) S:=by
 have e1:dctU S (.ref k)=some kv:=by show (match at? S k with | some (.dct kvs)=>some kvs | _=>none)=_;rw [h]
 show (match (dctU S (.ref k)).bind fun kvs=>strK (kvs.map (·.1)) with | some ws=>(match Nat.ble ws.length 4 with | true=>mkL false ((SortS.srtW ws).map .str) S | false=>.stuck) | none=>.stuck)=_;rw [e1];show (match strK (kv.map (·.1)) with | some ws=>(match Nat.ble ws.length 4 with | true=>mkL false ((SortS.srtW ws).map .str) S | false=>.stuck) | none=>.stuck)=_;rw [e,iK];dsimp only;rw [Nat.ble_eq_true_of_le hl];rfl
theorem uD {nm:List Str} (h:SR nm kv ws env ix) (e:(getK (.inr w) kv).isSome=true):w∈ws:=by
 have:Sum.inr w∈kv.map (·.1):=by
  have k:∀ {kv:List (Key×U)},(getK (.inr w) kv).isSome=true->Sum.inr w∈kv.map (·.1):=by
   intro kv;induction kv with
   | nil=>exact fun z=>nomatch z
   | cons q kv ih =>
    intro z;by_cases hq:q.1 = .inr w
    ·exact xAv.mpr (.inl hq.symm)
    ·refine xAv.mpr (.inr (ih ?_));have:getK (.inr w) (q::kv)=getK (.inr w) kv:=by show (if q.1 = .inr w then some q.2 else _)=_;rw [xCf hq]
     rwa [this] at z
  exact k e
 rw [h.ks] at this;obtain ⟨z,hz,e⟩:=xA2.mp this;cases e;exact hz
theorem ow (h:SR nm kv ws env ix):kv.length=ws.length:=by
 have:=congrArg List.length h.ks;simpa using this
theorem ten12:(10:Int) ^ 12=1000000000000:=by decide
theorem ub:nb (n / 768 % (2 * 10 ^ 12 - 1) - 10 ^ 12+1):=by
 rw [ten12];unfold nb;lia
theorem km (I:Inv nm (m+1) t rows kv ws env N γ ix cs ds lg c dp ks) (hy:y∈nm) (hyn:nameB y=true) (L:LS A t kv cs ds lg (rows.map U.lst) S) (hn:nb n) (hl:cs.length<=100) (hkl:kv.length<=100) (hk:Kr nm m A rows K):(Gd fw (d+2)).call 64 [.ref A.p,.int n] S x fun v T=>(Gd fw (d+2)).call 68 [.ref A.p,.ref A.sq,.str y,v,.int n] T x K:=by
 have B1:=hn.1;have B2:=hn.2;have hN:=I.hN;refine eZ L fun S1 L1=>?_;refine gA (c:=.int n) L1 hl hkl fun S2 L2=>?_;show K (.lst [.str "let",.int (plc t.s t.nx.nx.a),.str y,numU t.pl n]) S2;refine gk (t:=t) (cv:=.int n) (t':=t.nx.nx) (ks1:=[t.a+1]) (ds1:=[]) I hy hyn iQ (by decide) ((cpn hn).mono (by decide)) ⟨rfl,by lia,by lia⟩ ⟨rfl,rfl⟩ ?_ (by simp) ?_ (by show 1<=7;decide) (by decide) ?_ hk (by rw [xB0];exact L2)
 ·show t.a<=t.a+1+1/\t.a+1+1<=t.a+8;lia
 ·intro k hk;show _/\k<t.a+1+1;rw [xAm.mp hk];lia
 ·show t.a<t.a+1+1;lia
theorem sM {K1:Kv Prop} (I:Inv nm (m+1) t rows kv ws env N γ ix cs ds lg c dp ks) (hy:y∈nm) (hyn:nameB y=true) (hw:w∈ws) (hwn:nameB w=true) (L:LS A t kv cs ds lg (rows.map U.lst) S) (hn:nb n) (hl:cs.length<=100) (hkl:kv.length<=100) {mm:Nat} {i0:Int} (hg:getK (.inr w) kv=some (.int k)) (hix:ix[k]?=some mm) (henv:getF w env=some mm) (hc:cs[k]?=some (.int i0)) (hk:Kr nm m A rows K) (hK:∀ {T:So} {u1 u2:U},(Gd fw (d+4)).call 68 [.ref A.p,.ref A.sq,.str y,u1,u2] T x K->K1 (.lst [u1,u2]) T):(Gd fw (d+4)).call 66 [.ref A.p,.ref A.sq,.str w,.int n] S x K1:=by
 have h5:=I.hd;refine nk L hg (by lia) fun S1 L1=>hK ?_;refine gA (d:=d+2) (c:=.sc k n t.nx.pl t.nx.nx.nx.pl) L1 hl hkl fun S2 L2=>?_;show K (.lst [.str "let",.int (plc t.s t.nx.nx.nx.nx.nx.nx.a),.str y,.tup [.str "fn",.int t.nx.nx.nx.nx.pl,.tup [],setU t.nx.nx.nx.pl w t.pl t.nx.pl t.nx.nx.pl n]]) S2;refine gk (t:=t) (cv:=.sc k n t.nx.pl t.nx.nx.nx.pl) (t':=t.nx.nx.nx.nx.nx.nx) (ks1:=[t.a+1+1+1+1+1,t.a+1+1+1+1,t.a+1+1,t.a+1,t.a+1+1+1]) I hy hyn (vC (ps:=[])) (by decide) ?_ ⟨_,w,_,_,env,N,mm,i0,rfl,Nat.le_succ N,hix,henv,hc,hn⟩ ⟨rfl,rfl⟩ ?_ ?_ ?_ (by show 5<=7;decide) (by show 1<=4;decide) ?_ hk L2
 ·exact (vf okp (jW okp hwn hw (k9 okp (by kernel_rfl) (gT okp hwn hw) (cpn hn)))).mono (by decide)
 ·show t.a<=t.a+1+1+1+1+1+1/\t.a+1+1+1+1+1+1<=t.a+8;lia
 ·simp;lia
 ·intro k hk;show _/\k<t.a+1+1+1+1+1+1;simp at hk;lia
 ·show t.a<t.a+1+1+1+1+1+1;lia
theorem sO {K1:Kv Prop} (I:Inv nm (m+1) t rows kv ws env N γ ix cs ds lg c dp ks) (hy:y∈nm) (hyn:nameB y=true) (hw:w∈ws) (hwn:nameB w=true) (L:LS A t kv cs ds lg (rows.map U.lst) S) (hn:nb n) (hl:cs.length<=100) (hkl:kv.length<=100) (hk:Kr nm m A rows K) (hK:∀ {T:So} {u1 u2:U},(Gd fw (d+4)).call 68 [.ref A.p,.ref A.sq,.str y,u1,u2] T x K->K1 (.lst [u1,u2]) T):(Gd fw (d+4)).call 67 [.ref A.p,.str w,.int n] S x K1:=by
 have h5:=I.hd;refine nW L (by lia) fun S1 L1=>hK ?_;refine gA (d:=d+2) (c:=.pa n t.nx.pl t.nx.nx.nx.pl) L1 hl hkl fun S2 L2=>?_;show K (.lst [.str "let",.int (plc t.s t.nx.nx.nx.nx.nx.nx.nx.nx.a),.str y,.tup [.str "fn",.int t.nx.nx.nx.nx.nx.nx.pl,.tup [.str w],doU t.nx.nx.nx.nx.pl t.nx.nx.nx.pl w t.pl t.nx.pl t.nx.nx.pl n t.nx.nx.nx.nx.nx.pl]]) S2;refine gk (t:=t) (cv:=.pa n t.nx.pl t.nx.nx.nx.pl) (t':=t.nx.nx.nx.nx.nx.nx.nx.nx) (ks1:=[t.a+1+1+1+1+1+1+1,t.a+1+1+1+1+1,t.a+1+1+1+1,t.a+1+1,t.a+1,t.a+1+1+1,t.a+1+1+1+1+1+1]) I hy hyn (vC (ps:=[w])) (by decide) ?_ ⟨_,w,_,_,_,_,env,N,rfl,Nat.le_succ N,hn⟩ ⟨rfl,rfl⟩ ?_ ?_ ?_ (by show 7<=7;decide) (by show 1<=4;decide) ?_ hk L2
 ·exact ve okp hwn (se okp (jW okp hwn hw (k9 okp (by kernel_rfl) (gT okp hwn hw) (cpn hn))) ((gT okp hwn hw).mono (by decide))) fun _ z=>.inr z
 ·show t.a<=t.a+1+1+1+1+1+1+1+1/\t.a+1+1+1+1+1+1+1+1<=t.a+8;lia
 ·simp;lia
 ·intro k hk;show _/\k<t.a+1+1+1+1+1+1+1+1;simp at hk;lia
 ·show t.a<t.a+1+1+1+1+1+1+1+1;lia
end
section
variable {fw d:Nat} {S S' S1 S2:So} {x:Kx Prop} {K:Kv Prop} {A:At} {nm:List Str} {m:Nat} {t t0:Sta} {rows:List (List U)} {kv:List (Key×U)} {ws:List Str} {env env0:List (Str×Nat)} {N N0:Nat} {γ:List Vl} {ix:List Nat} {cs:List Lv} {ds lg:List Int} {c dp:Nat} {ks:List Int} {y w:Str} {n i:Int} {k:Nat}
noncomputable def rs71:TSx Prop:=sQ (sI (tAn (tB (cP .eq (lst2 (cV 7) (cC (.int (2)))))) (tB (cP (.isT "int") (aC (cP .ix (lst2 (cP .ix (lst2 (cV 0) (cC (.str "cells")))) (cP .ix (lst2 (cV 1) (cV 5))))) aN)))) (sQ (sU [8,9] (cF 66 (aC (cV 0) (aC (cV 1) (aC (cV 5) (aC (cV 6) aN)))) [])) (sQ (sR (cF 68 (aC (cV 0) (aC (cV 1) (aC (cV 4) (aC (cV 8) (aC (cV 9) aN))))) [])) sN)) sN) (sQ (sI (tB (cP .eq (lst2 (cV 7) (cC (.int (3)))))) (sQ (sU [8,9] (cF 67 (aC (cV 0) (aC (cV 5) (aC (cV 6) aN))) [])) (sQ (sR (cF 68 (aC (cV 0) (aC (cV 1) (aC (cV 4) (aC (cV 8) (aC (cV 9) aN))))) [])) sN)) sN) (sQ (sR (cF 70 (aC (cV 0) (aC (cV 1) (aC (cV 5) (aC (cV 6) (aC (cP .mod (lst2 (cP .fdiv (lst2 (cV 3) (cC (.int (128))))) (cC (.int (6))))) aN))))) [])) sN))
theorem uy {cv:Lv} (h:isF cv) {up:List (Str×Str)}:pr up (.isT "int") [cv.u] S = .ok (.bl false) S:=by cases cv <;> first | exact h.elim | rfl
theorem kn {way:Int} {a7:Option U} (I:Inv nm (m+1) t rows kv ws env N γ ix cs ds lg c dp ks) (hnm:nm.length=4) (hnn:∀ y∈nm,nameB y=true) (L:LS A t kv cs ds lg (rows.map U.lst) S) (hcl:cs.length<=14) (hws:ws.length<=4) (hy:y∈nm) (hw:w∈ws) (hn:nb i) (hk:Kr nm m A rows K):rs71 (Gd fw (d+4)) [some (.ref A.p),some (.ref A.sq),a7,some (.int n),some (.str y),some (.str w),some (.int i),some (.int way),none,none] S (endsOf x K):=by
 have hkl:=ow I.sr;have hwn:=hnn w (I.sr.nm w hw);obtain ⟨k,mm,hg,hix,henv⟩:=I.sr.at_ w hw;have hkl':k<cs.length:=by rw [I.cr.len];exact (xAq.mp hix).1
 obtain ⟨cv,hc⟩:∃ cv,cs[k]?=some cv:=⟨_,xAk hkl'⟩
 have hu:∀ {T:So} {b:Option U},LS A t kv cs ds lg (rows.map U.lst) T->(sQ (sI (tB (cP .eq (lst2 (cV 7) (cC (.int (3)))))) (sQ (sU [8,9] (cF 67 (aC (cV 0) (aC (cV 5) (aC (cV 6) aN))) [])) (sQ (sR (cF 68 (aC (cV 0) (aC (cV 1) (aC (cV 4) (aC (cV 8) (aC (cV 9) aN))))) [])) sN)) sN) (sQ (sR (cF 70 (aC (cV 0) (aC (cV 1) (aC (cV 5) (aC (cV 6) (aC (cP .mod (lst2 (cP .fdiv (lst2 (cV 3) (cC (.int (128))))) (cC (.int (6))))) aN))))) [])) sN)) (Gd fw (d+4)) [some (.ref A.p),some (.ref A.sq),a7,some (.int n),some (.str y),some (.str w),some (.int i),some (.int way),none,none] T (endsOf x K):=by
  intro T b LT;refine pd ieq ?_;refine bI (fun _=>?_) fun _=>?_
  ·refine sO I hy (hnn y hy) hw hwn LT hn (by lia) (by lia) hk fun {T u1 u2} z=>?_;refine pd (v:=.tup [u1,u2]) (S':=T) (by rfl) ?_;exact z
  ·refine pv (.int (n / 128)) ?_;refine pv (.int (n / 128 % 6)) ?_;exact sj I hw hwn LT hn hk
 refine pd ieq ?_;refine bI (fun _=>?_) fun _=>?_
 ·refine pd (L.get rfl) ?_;refine pd (dQ L.sc hg) ?_;refine pd (L.cellAt hc) ?_;by_cases hF:isF cv
  ·refine pd (uy hF) ?_;refine bF ?_;exact hu (b:=none) L
  ·cases cv with
   | sc=>exact (hF trivial).elim
   | pa=>exact (hF trivial).elim
   | int i0 =>
    refine pv (.bl true) ?_;refine bT ?_;refine sM I hy (hnn y hy) hw hwn L hn (by lia) (by lia) hg hix henv hc hk fun {T u1 u2} z=>?_;refine pd (v:=.tup [u1,u2]) (S':=T) (by rfl) ?_;exact z
 ·refine bF ?_;exact hu (b:=none) L
theorem qE (I:Inv nm (m+1) t rows kv ws env N γ ix cs ds lg c dp ks) (hnm:nm.length=4) (hnn:∀ y∈nm,nameB y=true) (L:LS A t kv cs ds lg (rows.map U.lst) S) (hk:Kr nm m A rows K):(Gd fw (d+5)).call 71 [.ref A.p,.ref A.sq,.lst (nm.map .str),.int n] S x K:=by
 have hws:ws.length<=4:=hnm ▸ j8 I.sr.nd I.sr.nm;have hkl:=ow I.sr;have hcl:cs.length<=14:=by have:=I.cl;lia
 refine cd ⟨4,10,t71⟩ ?_;refine pv (.int (n / 8)) ?_;refine pv (.int (n / 8 % 4)) ?_;obtain ⟨y,hy,ey⟩:=rQ (i:=n / 8) hnm;refine pd (ey S) ?_;refine pv (.int (n / 32)) ?_;refine pv (.int (n / 32 % 4)) ?_;obtain ⟨w,hw,ew⟩:=rQ (i:=n / 32) hnm;refine pd (ew S) ?_;refine pv (.int (n / 768)) ?_;refine pv (.int (10 ^ 12)) ?_;refine pv (.int (2 * 10 ^ 12)) ?_;refine pv (.int (2 * 10 ^ 12 - 1)) ?_;refine pv (.int (n / 768 % (2 * 10 ^ 12 - 1))) ?_;refine pv (.int (10 ^ 12)) ?_;refine pv (.int (n / 768 % (2 * 10 ^ 12 - 1) - 10 ^ 12)) ?_;refine pv (.int (n / 768 % (2 * 10 ^ 12 - 1) - 10 ^ 12+1)) ?_;have hn:=@ub n;generalize n / 768 % (2 * 10 ^ 12 - 1) - 10 ^ 12+1=v at hn ⊢;refine pv (.int (n % 8)) ?_;refine pv (.bl (decide (n % 8<2))) ?_;refine bI (fun _=>?_) fun _=>?_
 ·refine bT ?_;exact km I hy (hnn y hy) L hn (by lia) (by lia) hk
 ·refine pd (v:=.ref S.length) (S':=S++[Ob.dct []]) (by rfl) ?_;refine pd (uV L.sc) ?_;have L1:=L.app (T:=[Ob.dct []]);generalize S++[Ob.dct []]=T at L1 ⊢;refine bI (fun _=>?_) fun he=>?_
  ·exact km I hy (hnn y hy) L1 hn (by lia) (by lia) hk
  ·have hne:ws≠[]:=fun e=>by
    have:kv=[]:=by cases kv with | nil=>rfl | cons=>rw [e] at hkl;exact absurd hkl (by simp)
    rw [this] at he;exact absurd he (by decide)
   refine pd (uc L1.sc) ?_;cases hin:(getK (.inr w) kv).isSome with
   | true =>
    refine bF ?_;exact kn I hnm hnn L1 hcl hws hy (uD I.sr hin) hn hk
   | false =>
    refine bT ?_;refine pd (pN L1.sc I.sr.ks hws) ?_;refine pv (.int (n / 128)) ?_;refine pd (kz L1.sc) ?_;have hpos:0<ws.length:=List.length_pos_iff.mpr hne;have so:=SortS.srtW_ok hws;obtain ⟨j,hj⟩:∃ j:Nat,n / 128 % (kv.length:Int)=j:=⟨(n / 128 % (kv.length:Int)).toNat,by have:=Int.emod_nonneg (n / 128) (show (kv.length:Int)≠0 by lia);lia⟩
    have hlt:=Int.emod_lt_of_pos (n / 128) (show (0:Int)<kv.length by lia);refine pd (v:=.int j) (S':=T) (by delta pr;dsimp only;rw [xBd (by lia),<- hj]) ?_;have hj':j<(SortS.srtW ws).length:=by rw [so.1];lia
    refine pd (v:=.str (SortS.srtW ws)[j]) (S':=T) ?_ ?_
    ·show opt (atI ((SortS.srtW ws).map U.str) (j:Int)) T=_;rw [eh (v:=.str (SortS.srtW ws)[j]) (by rw [xAw,xAk hj'];rfl)];rfl
    ·exact kn I hnm hnn L1 hcl hws hy (so.2 _ (List.getElem_mem hj')) hn hk
end
section
variable {fw d:Nat} {S S' S1 S2:So} {x:Kx Prop} {K:Kv Prop} {A:At} {nm:List Str} {m:Nat} {t t0:Sta} {rows:List (List U)} {kv:List (Key×U)} {ws:List Str} {env env0:List (Str×Nat)} {N N0:Nat} {γ:List Vl} {ix:List Nat} {cs:List Lv} {ds lg:List Int} {c dp:Nat} {ks:List Int} {y w:Str} {n i:Int} {k:Nat}
noncomputable def bd72:TSx Prop:=sQ (sE (cBM "list" .app (cV 4) (aC (cF 71 (aC (cV 2) (aC (cV 3) (aC (cV 1) (aC (cV 5) aN)))) []) aN))) sN
theorem kM {E:Ee Prop} {kk:Sg->So->Prop} {a0 a6 a7 a8:Option U} (hnm:nm.length=4) (hnn:∀ y∈nm,nameB y=true):∀ {us:List Int} {m:Nat} {S:So} {t:Sta} {rows:List (List U)} {kv:List (Key×U)} {ws:List Str} {env:List (Str×Nat)} {N:Nat} {γ:List Vl} {ix:List Nat} {cs:List Lv} {ds lg:List Int} {c dp:Nat} {ks:List Int} {a5:Option U},us.length<=m->Inv nm m t rows kv ws env N γ ix cs ds lg c dp ks->LS A t kv cs ds lg (rows.map U.lst) S ->
  (∀ S' t' rows' kv' ws' env' N' γ' ix' cs' ds' lg' c' dp' ks' m' a5',Inv nm m' t' rows' kv' ws' env' N' γ' ix' cs' ds' lg' c' dp' ks'->LS A t' kv' cs' ds' lg' (rows'.map U.lst) S'->kk [a0,some (.lst (nm.map .str)),some (.ref A.p),some (.ref A.sq),some (.ref A.rq),a5',a6,a7,a8] S') ->
  forK (us.map U.int) (fun w σ1 S2 nx=>tgt [5] true (Gd fw (d+5)) w σ1 fun σ2=>bd72 (Gd fw (d+5)) σ2 S2 (lpE E nx)) [a0,some (.lst (nm.map .str)),some (.ref A.p),some (.ref A.sq),some (.ref A.rq),a5,a6,a7,a8] S kk
 | [],m,S,t,rows,kv,ws,env,N,γ,ix,cs,ds,lg,c,dp,ks,a5,hl,I,L,hk=>hk S t rows kv ws env N γ ix cs ds lg c dp ks m a5 I L
 | n::us,0,S,t,rows,kv,ws,env,N,γ,ix,cs,ds,lg,c,dp,ks,a5,hl,I,L,hk=>absurd hl (by simp)
 | n::us,m+1,S,t,rows,kv,ws,env,N,γ,ix,cs,ds,lg,c,dp,ks,a5,hl,I,L,hk=>by
  have h1:=I.hr;rw [xBs,forK];refine pd (dH L.ro) ?_;refine qE I hnm hnn L ?_;intro S' r t' kv' ws' env' N' γ' ix' cs' ds' lg' c' dp' ks' I' L';refine pd (dA L'.ro (by show _<=2 ^ 24;rw [xAa];lia)) ?_;have L2:=L'.row (xs:=rows.map U.lst++[.lst r]);rw [show rows.map U.lst++[.lst r]=(rows++[r]).map U.lst by rw [xAi];rfl] at L2 ⊢;exact kM hnm hnn (us:=us) (m:=m) (by simpa using hl) I' L2 hk
noncomputable def bd72b:TSx Prop:=sQ (sA 6 (cP (.add false) (lst2 (cP .tupOf (aC (cV 7) aN)) (cT (aC (cV 6) aN))))) sN
theorem nq {E:Ee Prop} {kk:Sg->So->Prop} {a0 a1 a2 a3 a4 a5 a8:Option U}:∀ {rs:List (List U)} {Q:U} {a7:Option U},(∀ r∈rs,r.length<=4)->(∀ a7',kk [a0,a1,a2,a3,a4,a5,some (wrap rs.reverse Q),a7',a8] S) ->
  forK (rs.map U.lst) (fun w σ1 S2 nx=>tgt [7] true (Gd fw d) w σ1 fun σ2=>bd72b (Gd fw d) σ2 S2 (lpE E nx)) [a0,a1,a2,a3,a4,a5,some Q,a7,a8] S kk
 | [],Q,a7,hl,hk=>hk a7
 | r::rs,Q,a7,hl,hk=>by
  rw [xBs,forK];refine pv (.tup r) ?_;have h4:=hl r (xAr ..);refine pd (v:=.tup (r++[Q])) (S':=S) (fitsO (by show _+1<=2 ^ 24;lia)) ?_;refine nq (rs:=rs) (fun r hr=>hl r (xAs _ hr)) fun a7'=>?_;have:=hk a7';rw [List.reverse_cons,eX] at this;exact this
theorem p9 {s a b:Int} (ha:1<=a/\a<=200) (hb:1<=b/\b<=200) (h:plc s a=plc s b):a=b:=by unfold plc at h;lia
theorem oj {s:Int}:∀ {ks:List Int},ks.Nodup->(∀ k∈ks,1<=k/\k<=200)->(ks.map (plc s)).Nodup
 | [],_,_=>List.nodup_nil
 | k::ks,h,hb=>by
  obtain ⟨h1,h2⟩:=xCb.mp h;rw [xBs];refine xCb.mpr ⟨fun z=>?_,oj h2 fun k' hk'=>hb k' (xAs _ hk')⟩;obtain ⟨a,ha,e⟩:=xA2.mp z;exact h1 (p9 (hb a (xAs _ ha)) (hb k (xAr ..)) e ▸ ha)
theorem na {mo:Nat} {kl:List (Nat×List U)} (I:Inv nm m t rows kv ws env N γ ix cs ds lg c dp ks) (hm:mo<=2000) (hm':100<=mo) (hf:9000<fw) (hl:∀ k∈kl,at? S k.1=some (.lst k.2)) (hk:∀ S',(∀ k∈kl,at? S' k.1=some (.lst k.2))->K (.tup [.tup [.str "value",.int 7],.lst (lg.map .int),.lst (ds.map .int),.int dp]) S'):(Gd fw (d+61)).call 60 [wrap rows (numU t.pl 7),.lst [],.int mo] S x K:=by
 have h1:=I.ha;have h2:=I.hr;have h3:=I.hk;have h4:=I.hc;have h5:=I.hd;have h6:=I.hl;have h8:=I.dp;have s:=I.ctx (Q:=numU t.pl 7) (iQ (γ:=γ));rw [xB0,xB0,Nat.max_zero] at s;have cp:=I.cp (Q:=numU t.pl 7) (pls:=[plc t.s (t.a+1)]) (dep:=4) (by decide) ((cpn ⟨by decide,by decide⟩).mono (by decide));have e:ks.map (plc t.s)++[plc t.s (t.a+1)]=(ks++[t.a+1]).map (plc t.s):=by rw [xAi];rfl
 rw [e] at cp;refine sL s (by lia) (by lia) hm (by lia) (by lia) hf (fun hk'=>checked cp (by lia) (oj (xBq.mpr ⟨I.nd,xCb.mpr ⟨fun z=>(nomatch z),List.nodup_nil⟩,fun a ha b hb=>?_⟩) fun k hk'=>?_) (by rw [xAa,xAb];show _+1<=_;lia) hk') hl hk
 ·have:=I.pk a ha;rw [xAm.mp hb];lia
 ·rcases xAj.mp hk' with z | z
  ·have:=I.pk k z;lia
  ·rw [xAm.mp z];lia
theorem nh {n:Nat}:same S (n+1) (.int i) (.int i)=true:=by
 show (true && true && (some (decide (i=i)) == some true))=true;rw [xBd rfl];rfl
theorem ki {n:Nat}:∀ {ds:List Int},zipAll (same S (n+1)) (ds.map U.int) (ds.map U.int)=true
 | []=>rfl
 | i::ds=>by
  show (same S (n+1) (.int i) (.int i) && zipAll _ _ _)=true;rw [nh,ki];rfl
theorem ng {n q:Nat} (h:at? S q=some (.lst (ds.map .int))):same S (n+2) (.lst (ds.map .int)) (.ref q)=true:=by
 have e:lsT S (.ref q)=some (ds.map .int):=by show (match at? S q with | some (.lst xs)=>some xs | _=>none)=_;rw [h]
 show (match some (ds.map U.int),lsT S (.ref q) with | some xs,some ys=>zipAll (same S (n+1)) xs ys | _,_=>flatU (.lst (ds.map .int)) && flatU (.ref q) && eqS (.lst (ds.map .int)) (.ref q) == some true)=true;rw [e];exact ki
theorem uW {q r:Nat} (h1:at? S q=some (.lst (lg.map .int))) (h2:at? S r=some (.lst (ds.map .int))):pr ups .eq [.tup [.tup [.str "value",.int 7],.lst (lg.map .int),.lst (ds.map .int),.int dp],.tup [.tup [.str "value",.int 7],.ref q,.ref r,.int dp]] S = .ok (.bl true) S:=by
 have e:same S 20 (.tup [.tup [.str "value",.int 7],.lst (lg.map .int),.lst (ds.map .int),.int dp]) (.tup [.tup [.str "value",.int 7],.ref q,.ref r,.int dp])=true:=by
  show (true && (same S 19 (.lst (lg.map .int)) (.ref q) && (same S 19 (.lst (ds.map .int)) (.ref r) && (same S 19 (.int dp) (.int dp) && true))))=true;rw [ng (n:=17) h1,ng (n:=17) h2,nh (n:=18)];rfl
 show (match same S 20 (.tup [.tup [.str "value",.int 7],.lst (lg.map .int),.lst (ds.map .int),.int dp]) (.tup [.tup [.str "value",.int 7],.ref q,.ref r,.int dp]) with | true=>Res.ok (.bl (id true)) S | false=>.stuck)=_;rw [e];rfl
theorem inv0 {s:Int} {nm:List Str}:Inv nm 14 ⟨0,s,0,1,2,0⟩ [] [] [] [] 0 [] [] [] [] [] 0 0 [] where
 ctx:=fun s=>s.to (Nat.zero_add _).symm rfl rfl (Nat.zero_max _).symm
 cp:=fun _ h=>h
 nd:=List.nodup_nil
 pk:=fun _ h=>nomatch h
 ha:=by dsimp only;decide
 hr:=by decide
 hk:=by decide
 hc:=by decide
 hd:=by decide
 hl:=by decide
 hN:=by decide
 dp:=⟨rfl,by decide⟩
 sr:=⟨rfl,List.nodup_nil,(fun _ h=>nomatch h),(fun _ h=>nomatch h)⟩
 cr:=⟨rfl,List.nodup_nil,(fun _ h=>nomatch h),(fun h=>nomatch h)⟩
 rl:=fun _ h=>nomatch h
 cl:=by decide
theorem ui {ns:List Int} (hf:9000<fw):(Gd fw (d+64)).call 72 [.kl (ns.map U.int)] [] x (fun v _=>v = .bl true):=by
 refine cd ⟨1,9,t72⟩ ?_;refine lj (k:=0) ?_;refine names_ok fun w hw=>?_;refine lj (k:=0) ?_;refine pv (.int (ns.getD 0 0 % 600)) ?_;refine pd (v:=.ref 0) (S':=[.lst []]) (by rfl) ?_;refine pd (v:=.ref 1) (S':=[.lst [],.lst []]) (by rfl) ?_;refine pd (v:=.ref 2) (S':=[.lst [],.lst [],.lst []]) (by rfl) ?_;refine pd (v:=.ref 3) (S':=[.lst [],.lst [],.lst [],(⟨0,ns.getD 0 0 % 600,0,1,2,0⟩:Sta).o]) (by rfl) ?_;refine pd (v:=.ref 4) (S':=[.lst [],.lst [],.lst [],(⟨0,ns.getD 0 0 % 600,0,1,2,0⟩:Sta).o,.dct []]) (by rfl) ?_;refine pd (v:=.ref 5) (S':=[.lst [],.lst [],.lst [],(⟨0,ns.getD 0 0 % 600,0,1,2,0⟩:Sta).o,.dct [],.lst []]) (by rfl) ?_;have L:LS ⟨3,4,5⟩ ⟨0,ns.getD 0 0 % 600,0,1,2,0⟩ [] [] [] [] (([]:List (List U)).map U.lst) [.lst [],.lst [],.lst [],(⟨0,ns.getD 0 0 % 600,0,1,2,0⟩:Sta).o,.dct [],.lst []]:=⟨rfl,rfl,rfl,rfl,rfl,rfl,by dsimp only;decide,by dsimp only;decide,by dsimp only;decide,by decide,by dsimp only;decide,by dsimp only;decide,by dsimp only;decide⟩
 generalize ([.lst [],.lst [],.lst [],(⟨0,ns.getD 0 0 % 600,0,1,2,0⟩:Sta).o,.dct [],.lst []]:So)=S at L ⊢;refine pd (v:=.lst (((ns.drop 1).take 14).map .int)) (S':=S) ?_ ?_
 ·show Res.ok (.lst (cutU (ns.map U.int) (some ((1:Nat):Int)) (some ((15:Nat):Int)))) S=_;congr 2;unfold cutU;rw [HT.sIx_nat,HT.sIx_nat,xAa,List.map_take,List.map_drop];rcases Nat.le_total 15 ns.length with z | z
  ·rw [Nat.min_eq_left z,Nat.min_eq_left (by lia)]
  ·rcases Nat.le_total 1 ns.length with z1 | z1
   ·rw [Nat.min_eq_right z,Nat.min_eq_left z1,List.take_of_length_le (by simp),List.take_of_length_le (by simp;lia)]
   ·rw [Nat.min_eq_right z,Nat.min_eq_right z1,List.drop_of_length_le (by simp),List.drop_of_length_le (by simpa using z1),List.take_nil,List.take_nil]
 refine pd (v:=.tup (((ns.drop 1).take 14).map .int)) (S':=S) (by rfl) ?_;refine kM (A:=⟨3,4,5⟩) (nm:=nms w) (d:=d+58) rfl hw (m:=14) (by rw [List.length_take];lia) inv0 L ?_;intro S t rows kv ws env N γ ix cs ds lg c dp ks m a5 I L;refine dn L fun S1 L1=>?_;refine pd (v:=.tup ((rows.reverse).map U.lst)) (S':=set S1 5 .dead) ?_ ?_
 ·show lstU 5 S1 (fun xs=>Res.ok (.tup xs.reverse) (set S1 5 .dead))=_;unfold lstU;rw [show at? S1 5=_ from L1.ro];dsimp only;rw [List.map_reverse]
 refine nq (fun r hr=>I.rl r (List.mem_reverse.mp hr)) fun a7=>?_;rw [List.reverse_reverse];have g1:at? (set S1 5 .dead) 3=some t.nx.o:=atN (by decide) L1.st;have g2:at? (set S1 5 .dead) t.lq=some (.lst (lg.map .int)):=atN L1.n6 L1.lo;have g3:at? (set S1 5 .dead) t.dq=some (.lst (ds.map .int)):=atN L1.n5 L1.de;generalize set S1 5 .dead=T at g1 g2 g3 ⊢;refine pd (dQ g1 rfl) ?_;refine pd (dQ g1 rfl) ?_;refine pd (dQ g1 rfl) ?_;have kl:∀ k∈[(t.lq,lg.map U.int),(t.dq,ds.map U.int)],at? T k.1=some (.lst k.2):=fun k hk=>by
  rcases xAv.mp hk with rfl | hk
  ·exact g2
  ·rw [xAm.mp hk];exact g3
 have due:∀ {S':So},(∀ k∈[(t.lq,lg.map U.int),(t.dq,ds.map U.int)],at? S' k.1=some (.lst k.2))->pr ups .eq [.tup [.tup [.str "value",.int 7],.lst (lg.map .int),.lst (ds.map .int),.int dp],.tup [.tup [.str "value",.int 7],.ref t.lq,.ref t.dq,.int t.dp]] S' = .ok (.bl true) S':=fun h=>by
  rw [I.dp.1];exact uW (h _ (xAr ..)) (h _ (xAs _ (xAr ..)))
 refine pv (.lst []) ?_;refine na (d:=d+2) (mo:=1000) I (by decide) (by decide) hf kl fun S2 k2=>?_;refine pd (due k2) ?_;refine bT ?_;refine pv (.lst []) ?_;refine na (d:=d+2) (mo:=2000) I (by decide) (by decide) hf k2 fun S3 k3=>?_;refine pd (due k3) ?_;rfl
theorem math:∀ ns:List Int,ns.length<=63->(callG ups tab 100000 (80+1)).call 72 [.kl (ns.map U.int)] [] (fun _ _=>False) (fun v _=>v = .bl true):=fun ns _=>by
 have:=ui (fw:=100000) (d:=17) (ns:=ns) (x:=fun _ _=>False) (by decide);rw [gD] at this;exact this
end
end K15
namespace K15
open PySem L2 Fx
theorem walk {l:PySem.W.OpenLaw} {q:Program} {loose:List Str} {XP:(Str->Option Value)->Heap->Prop} {YP:World->Heap->Prop} {d:DefRec} {K:Params->xFr} (hn:l.most=some 63) (hdf:d.params.defaults=[])
  (hY:∀ (w:World) (h:Heap),YP w h->(K w.params).In h)
  (F:∀ (w:World) (mg:Str->Option Value) (fa:Addr) (h:Heap),(K w.params).In h->h.Ns mainGlobals mg->mg d.name=some (.ref fa) ->
   ∃ fd:FuncData,(∀ (s:Shared) (u:Value),BindsTo s fd ⟨[u],[]⟩ [("_law_script",u)])/\∀ base:Heap,(K w.params).In base->base.Ns mainGlobals mg->FnOk l.prog w (K w.params) mg base (CXz l.prog w) (2 * (80+1)+1) fa fd ["_law_script"] (spLaw (K w.params) 63)) :
  PySem.W.WalkO q loose XP YP l.row.toRowW d [] (fun f vs=>PySem.call f vs) :=
 L2.walk_of (n:=63) (k:=2 * (80+1)+1) (x:="_law_script") (CX:=fun w=>CXz l.prog w) (sp:=fun w=>spLaw (K w.params) 63) hn (by decide) hdf ⟨rfl,by decide,by decide,rfl⟩ hY F (fun _ _ a ns hl _ hS=>⟨a,ns,rfl,hl,hS,fun _=>rfl⟩) fun _ _ _ _ _ z=>z
end K15
namespace PySem.W.Fast
noncomputable abbrev tw3348091294700851922 : PySem.Program := PySem.Challenge.pw_spacewright_k15_cells_of_names
theorem te3348091294700851922 : PySem.Challenge.pw_spacewright_k15_cells_of_names = tw3348091294700851922 := rfl
theorem te13138635175047657973:True:=⟨⟩
theorem te13163925819288136244:True:=⟨⟩
theorem te18339567974800339113:True:=⟨⟩
theorem te4849336893433982537:True:=⟨⟩
theorem te3898265227431523267:True:=⟨⟩
theorem te8377534000162828219:True:=⟨⟩
theorem te13502837291456150701:True:=⟨⟩
theorem te17971416446221031564:True:=⟨⟩
theorem te18374176873260245343:True:=⟨⟩
theorem te3596227137613357157:True:=⟨⟩
theorem te17630432452874322:True:=⟨⟩
theorem te4368843723741413256:True:=⟨⟩
theorem te3045168083531910219:True:=⟨⟩
theorem te4247366921472441886:True:=⟨⟩
theorem te13747908860330989918:True:=⟨⟩
theorem te14438492665929200109:True:=⟨⟩
theorem te13126986840609623629:True:=⟨⟩
theorem te9970092749733007336:True:=⟨⟩
theorem te5511256968804964524:True:=⟨⟩
theorem te7370186402218548164:True:=⟨⟩
theorem te13199889586637591751:True:=⟨⟩
theorem te11045524578775770118:True:=⟨⟩
theorem te7165460750631425806:True:=⟨⟩
theorem te16382294383638726336:True:=⟨⟩
theorem te7380601318226603744:True:=⟨⟩
theorem te13596130011884692555:True:=⟨⟩
theorem te11910926336761981375:True:=⟨⟩
theorem te6523727671029919348:True:=⟨⟩
theorem te2053667482770132698:True:=⟨⟩
theorem te18340038720963988778:True:=⟨⟩
theorem te6905580948408511010:True:=⟨⟩
theorem te1262551677761235580:True:=⟨⟩
theorem te8219304733382258929:True:=⟨⟩
theorem te7977737231926544950:True:=⟨⟩
theorem te16469531641061465559:True:=⟨⟩
theorem te15973119789620748959:True:=⟨⟩
theorem te2177808819259252460:True:=⟨⟩
theorem te2548571453884603373:True:=⟨⟩
theorem te18119549333481839071:True:=⟨⟩
theorem te460837826978065765:True:=⟨⟩
theorem te14828912090469518897:True:=⟨⟩
theorem te9105170169380577385:True:=⟨⟩
theorem te8147435159899661351:True:=⟨⟩
theorem te15905062400977075429:True:=⟨⟩
theorem te18051214216173664497:True:=⟨⟩
theorem te694343586731822736:True:=⟨⟩
theorem te9928412211704446068:True:=⟨⟩
theorem te6584636053460598492:True:=⟨⟩
theorem te11034832521132776212:True:=⟨⟩
theorem te223906295179725031:True:=⟨⟩
theorem te9306773217573452180:True:=⟨⟩
theorem te3444830160221680420:True:=⟨⟩
theorem te2158372315031376413:True:=⟨⟩
theorem te6302777554464733007:True:=⟨⟩
theorem te17936078581241642483:True:=⟨⟩
theorem te6277374747951360622:True:=⟨⟩
theorem te8930247105268377759:True:=⟨⟩
theorem te3682136061951756812:True:=⟨⟩
theorem te11474894256027883685:True:=⟨⟩
theorem te211775789650401268:True:=⟨⟩
theorem te16837092213421650497:True:=⟨⟩
theorem te17258589371209955639:True:=⟨⟩
theorem te17935305678433447395:True:=⟨⟩
theorem te7550337472048253676:True:=⟨⟩
theorem te218680618696131502:True:=⟨⟩
theorem te17472182859897225170:True:=⟨⟩
theorem te1728784728728541522:True:=⟨⟩
theorem te3701313556659900669:True:=⟨⟩
theorem te17847666584999691441:True:=⟨⟩
theorem te11786711791846193654:True:=⟨⟩
theorem te16863183542297685226:True:=⟨⟩
theorem te15141074451375652203:True:=⟨⟩
theorem te6401461723722446324:True:=⟨⟩
theorem te15552683973314485891:True:=⟨⟩
theorem te5996921420693116939:True:=⟨⟩
theorem te4984891899336587123:True:=⟨⟩
theorem te8186745784473001526:True:=⟨⟩
theorem te17692635692733046356:True:=⟨⟩
theorem te16069439123860403045:True:=⟨⟩
theorem te5575225866645159400:True:=⟨⟩
theorem te11804443024585647128:True:=⟨⟩
theorem te18073593616950570276:True:=⟨⟩
theorem te7588363923925197584:True:=⟨⟩
theorem te4340111031473214439:True:=⟨⟩
theorem te17651647724003685913:True:=⟨⟩
theorem te14187828615697166862:True:=⟨⟩
theorem te12752696507973450063:True:=⟨⟩
theorem te15445585152772025055:True:=⟨⟩
theorem te16924399454027080803:True:=⟨⟩
theorem te978738629093985136:True:=⟨⟩
theorem te17646575962785055818:True:=⟨⟩
theorem te10704392793165805036:True:=⟨⟩
theorem te11556529183775707837:True:=⟨⟩
theorem te9700650885637977329:True:=⟨⟩
theorem te14597747689433150525:True:=⟨⟩
theorem te4255190014347721080:True:=⟨⟩
theorem te11333349760702950726:True:=⟨⟩
theorem te5737929521044230936:True:=⟨⟩
theorem te2733634092496428958:True:=⟨⟩
theorem te6870130604338991753:True:=⟨⟩
theorem te3619597610510263541:True:=⟨⟩
theorem te16548557929881337619:True:=⟨⟩
theorem te14139248033021577792:True:=⟨⟩
theorem te10070997643013657372:True:=⟨⟩
theorem te3592185918040204776:True:=⟨⟩
theorem te4034147671212450008:True:=⟨⟩
theorem te17313035153995070211:True:=⟨⟩
theorem te7819371772187373014:True:=⟨⟩
theorem te5493296074223401866:True:=⟨⟩
theorem te15140529747983526753:True:=⟨⟩
theorem te7569785914554030862:True:=⟨⟩
theorem te13919559059708153592:True:=⟨⟩
theorem te105622019655973718:True:=⟨⟩
theorem te14456015813437081555:True:=⟨⟩
theorem te8338004069984082509:True:=⟨⟩
theorem te16178379599053828182:True:=⟨⟩
theorem te2141841697173312416:True:=⟨⟩
theorem te846924407493809009:True:=⟨⟩
theorem te13085209292401306636:True:=⟨⟩
theorem te3958962837158361877:True:=⟨⟩
theorem te17888900355248797407:True:=⟨⟩
theorem te10639890246334165895:True:=⟨⟩
theorem te8625832690130631421:True:=⟨⟩
theorem te7501530434015482244:True:=⟨⟩
theorem te6802201420821299105:True:=⟨⟩
theorem te1386229810156509479:True:=⟨⟩
theorem te4112701917562714038:True:=⟨⟩
theorem te16733999172235216449:True:=⟨⟩
theorem te4384430722249644050:True:=⟨⟩
theorem te2748518586271884904:True:=⟨⟩
theorem te1700490388536599010:True:=⟨⟩
theorem te7507101335081189363:True:=⟨⟩
theorem te16691613017020415141:True:=⟨⟩
theorem te3976677856333417397:True:=⟨⟩
theorem te7733305493707934131:True:=⟨⟩
theorem te6450586250380582492:True:=⟨⟩
theorem te2395335403945269809:True:=⟨⟩
theorem te3122408196020193811:True:=⟨⟩
theorem te1205619578994650913:True:=⟨⟩
theorem te906148515930421484:True:=⟨⟩
theorem te14856352971267739379:True:=⟨⟩
theorem te16884143750596539906:True:=⟨⟩
theorem te8292213395128115876:True:=⟨⟩
theorem te1288598481720632525:True:=⟨⟩
theorem te11137019933129005836:True:=⟨⟩
theorem te17441758480475713552:True:=⟨⟩
theorem te1006382765222987758:True:=⟨⟩
theorem te12424538674503250458:True:=⟨⟩
theorem te8054992754052319857:True:=⟨⟩
theorem te1726702918390435335:True:=⟨⟩
theorem te14693777828892401446:True:=⟨⟩
theorem te13216787424146735877:True:=⟨⟩
theorem te5366739472888676987:True:=⟨⟩
theorem te5104521989515124465:True:=⟨⟩
theorem te17949543441358920440:True:=⟨⟩
theorem te15505235293817135528:True:=⟨⟩
theorem te12884980401263920914:True:=⟨⟩
theorem te8591608433316422436:True:=⟨⟩
theorem te1374475048748680309:True:=⟨⟩
theorem te14343332301720982668:True:=⟨⟩
theorem te2285873270113649117:True:=⟨⟩
theorem te5923856550392472506:True:=⟨⟩
theorem te17550405644858963468:True:=⟨⟩
theorem te10629332649089598465:True:=⟨⟩
theorem te12345353628016164525:True:=⟨⟩
theorem te16654705659671863908:True:=⟨⟩
theorem te17276887493817384601:True:=⟨⟩
theorem te13644891698336505694:True:=⟨⟩
theorem te2320500066487148576:True:=⟨⟩
theorem te17744316909119483577:True:=⟨⟩
theorem te6155865233941472741:True:=⟨⟩
theorem te3547023468358444196:True:=⟨⟩
theorem te13983195026212708777:True:=⟨⟩
theorem te10990690939493670012:True:=⟨⟩
theorem te2212897445508823741:True:=⟨⟩
theorem te9194041949654953473:True:=⟨⟩
theorem te10345427192227564436:True:=⟨⟩
theorem te11696202326601645069:True:=⟨⟩
theorem te12163217776960222843:True:=⟨⟩
theorem te10480216920612244178:True:=⟨⟩
theorem te1974279229052864154:True:=⟨⟩
theorem te9281355063070940416:True:=⟨⟩
theorem te13630041089747846584:True:=⟨⟩
theorem te9140481681411534555:True:=⟨⟩
theorem te4414219237737275651:True:=⟨⟩
theorem te8666673620857619650:True:=⟨⟩
theorem te1703384031280108670:True:=⟨⟩
theorem te5239448592237554020:True:=⟨⟩
theorem te4100078500355096307:True:=⟨⟩
theorem te13892133702418988241:True:=⟨⟩
theorem te10194657877227457260:True:=⟨⟩
theorem te9118483822951487257:True:=⟨⟩
theorem te17708313636619006252:True:=⟨⟩
theorem te14224536205818944938:True:=⟨⟩
theorem te14352086786516503662:True:=⟨⟩
theorem te14882072841200710607:True:=⟨⟩
theorem te15370462000439437174:True:=⟨⟩
theorem te13282047475689901647:True:=⟨⟩
theorem te11726558725112437036:True:=⟨⟩
theorem te1859625522426979721:True:=⟨⟩
theorem te15534345222970266527:True:=⟨⟩
theorem te4709593272948570452:True:=⟨⟩
theorem te15423555066006706683:True:=⟨⟩
theorem te12751745125087868818:True:=⟨⟩
theorem te9814630827826084222:True:=⟨⟩
theorem te11263705917945325304:True:=⟨⟩
theorem te7876639662412694209:True:=⟨⟩
theorem te16640057471412935517:True:=⟨⟩
theorem te7256195517151671349:True:=⟨⟩
theorem te12093774382172135085:True:=⟨⟩
theorem te13026657554574422575:True:=⟨⟩
theorem te4242118999074353984:True:=⟨⟩
theorem te2835498355984156122:True:=⟨⟩
theorem te12401045727855097876:True:=⟨⟩
theorem te4195549339007529589:True:=⟨⟩
theorem te18081820460560713611:True:=⟨⟩
theorem te12699064661219176156:True:=⟨⟩
theorem te14467747877583464881:True:=⟨⟩
theorem te11787781647350121052:True:=⟨⟩
theorem te13747368739354326745:True:=⟨⟩
theorem te13457207920275904810:True:=⟨⟩
theorem te11300643528499108350:True:=⟨⟩
theorem te4480777179156836138:True:=⟨⟩
theorem te11494420644525204951:True:=⟨⟩
theorem te3593362746748864056:True:=⟨⟩
theorem te15313111694229386921:True:=⟨⟩
theorem te8013765545635716713:True:=⟨⟩
theorem te6113229118838096409:True:=⟨⟩
theorem te10310509714780319247:True:=⟨⟩
theorem te15031219366508635249:True:=⟨⟩
theorem te13229967100531834110:True:=⟨⟩
theorem te11878627073201535454:True:=⟨⟩
theorem te1942416987888682423:True:=⟨⟩
theorem te11135694627702454604:True:=⟨⟩
theorem te5442382076836742882:True:=⟨⟩
theorem te16479407968675813692:True:=⟨⟩
theorem te6506913129227137385:True:=⟨⟩
theorem te11877955058160149311:True:=⟨⟩
theorem te9394213897819214695:True:=⟨⟩
theorem te8108818647901655486:True:=⟨⟩
theorem te936184078632812629:True:=⟨⟩
theorem te11972337433757349463:True:=⟨⟩
theorem te11162504119551680763:True:=⟨⟩
theorem te9321682594973608662:True:=⟨⟩
theorem te10392985881997245744:True:=⟨⟩
theorem te9187997725506062299:True:=⟨⟩
theorem te3370510592972584505:True:=⟨⟩
theorem te9986941223104899396:True:=⟨⟩
theorem te13595561781607949883:True:=⟨⟩
theorem te12098324085784964757:True:=⟨⟩
theorem te9603398345571459016:True:=⟨⟩
theorem te2206438245475891869:True:=⟨⟩
theorem te14360003734105131466:True:=⟨⟩
theorem te7022970755719656636:True:=⟨⟩
theorem te12387551245274148080:True:=⟨⟩
theorem te17019089920413757374:True:=⟨⟩
theorem te3427778466632344724:True:=⟨⟩
theorem te12622213500164981294:True:=⟨⟩
theorem te11708586061422236732:True:=⟨⟩
theorem te14310474311923895340:True:=⟨⟩
theorem te2862184365060880639:True:=⟨⟩
theorem te13470608815705935409:True:=⟨⟩
theorem te18068391228990306381:True:=⟨⟩
theorem te10262554173420252794:True:=⟨⟩
theorem te6807208712009710946:True:=⟨⟩
theorem te18377644403641461702:True:=⟨⟩
theorem te4373138443568311639:True:=⟨⟩
theorem te2525601437032506883:True:=⟨⟩
theorem te14869218133003515381:True:=⟨⟩
theorem te8360291631793442427:True:=⟨⟩
theorem te2834411415757538932:True:=⟨⟩
theorem te12876600543167548812:True:=⟨⟩
theorem te5915636768937737633:True:=⟨⟩
theorem te12463550745811388810:True:=⟨⟩
theorem te12190331820383506352:True:=⟨⟩
theorem te17774334942652065844:True:=⟨⟩
theorem te1395669857183867955:True:=⟨⟩
theorem te6982945560274882438:True:=⟨⟩
theorem te7524439568191289814:True:=⟨⟩
theorem te7120396883225412379:True:=⟨⟩
theorem te8817844059712580465:True:=⟨⟩
theorem te12415991826467449856:True:=⟨⟩
theorem te2930417912010370018:True:=⟨⟩
theorem te3982922159109139361:True:=⟨⟩
theorem te4198892556048264755:True:=⟨⟩
theorem te8774099842152718387:True:=⟨⟩
theorem te7026826255724154322:True:=⟨⟩
theorem te13222898469840331713:True:=⟨⟩
theorem te1796608421572412761:True:=⟨⟩
theorem te14371199346738306296:True:=⟨⟩
theorem te10469442281114790956:True:=⟨⟩
theorem te14466584448136985741:True:=⟨⟩
theorem te7120735389748381403:True:=⟨⟩
theorem te11988539327833628862:True:=⟨⟩
theorem te6195872009366397224:True:=⟨⟩
theorem te8421119238140025255:True:=⟨⟩
theorem te8405957460219922279:True:=⟨⟩
theorem te2151095743352680288:True:=⟨⟩
theorem te12452399277827367856:True:=⟨⟩
theorem te13891612638506005002:True:=⟨⟩
theorem te10235548062425218480:True:=⟨⟩
theorem te16708677905429751378:True:=⟨⟩
theorem te4355132121750458021:True:=⟨⟩
theorem te7233870015035694727:True:=⟨⟩
theorem te3974535796228399232:True:=⟨⟩
theorem te7380204606914450897:True:=⟨⟩
theorem te10023687537500170386:True:=⟨⟩
theorem te1936517148855071613:True:=⟨⟩
theorem te13498226637446383415:True:=⟨⟩
theorem te9833115499714104780:True:=⟨⟩
theorem te15082387272682290082:True:=⟨⟩
theorem te15770045359360057996:True:=⟨⟩
theorem te1032280376299956067:True:=⟨⟩
theorem te3803709054555832982:True:=⟨⟩
theorem te16489738699410570147:True:=⟨⟩
theorem te5678081855148127559:True:=⟨⟩
theorem te7632600581916470137:True:=⟨⟩
theorem te976823032357231598:True:=⟨⟩
theorem te5881653300139274738:True:=⟨⟩
theorem te2549588244057555885:True:=⟨⟩
theorem te1007483300019967658:True:=⟨⟩
theorem te16362969732670648388:True:=⟨⟩
theorem te7658882912656723819:True:=⟨⟩
theorem te3318468611193334713:True:=⟨⟩
theorem te8156924405581154129:True:=⟨⟩
theorem te16999456777038982411:True:=⟨⟩
theorem te5810734536028994159:True:=⟨⟩
theorem te5756012755476146043:True:=⟨⟩
theorem te7445153235376030609:True:=⟨⟩
theorem te6150373766754504823:True:=⟨⟩
theorem te6034993272768897978:True:=⟨⟩
theorem te14688137917501192125:True:=⟨⟩
theorem te17931834328143365100:True:=⟨⟩
theorem te3930420372735312775:True:=⟨⟩
theorem te6924979929112115333:True:=⟨⟩
theorem te13120214487013520544:True:=⟨⟩
theorem te16445086605102045148:True:=⟨⟩
theorem te8472975120310842991:True:=⟨⟩
theorem te7252841108847797060:True:=⟨⟩
theorem te3711155940837094251:True:=⟨⟩
theorem te7687442080067025054:True:=⟨⟩
theorem te554981199055443073:True:=⟨⟩
theorem te15875821600363354994:True:=⟨⟩
theorem te18176445147311596785:True:=⟨⟩
theorem te10494744709436676034:True:=⟨⟩
theorem te12759176451519738755:True:=⟨⟩
theorem te11747935463889736076:True:=⟨⟩
theorem te7490706055917019246:True:=⟨⟩
theorem te10844185711888290206:True:=⟨⟩
theorem te13737029138594380093:True:=⟨⟩
theorem te14511059979164501776:True:=⟨⟩
theorem te2880241395493309339:True:=⟨⟩
theorem te5988740794403628350:True:=⟨⟩
theorem te10002841304379828212:True:=⟨⟩
theorem te13396250144172834886:True:=⟨⟩
theorem te9600941332579623761:True:=⟨⟩
theorem te4505981414511258229:True:=⟨⟩
theorem te3921104865428114908:True:=⟨⟩
theorem te16832670322130947095:True:=⟨⟩
theorem te6617115485322549581:True:=⟨⟩
theorem te2925269216351856862:True:=⟨⟩
theorem te2864518237385307728:True:=⟨⟩
theorem te1152869461122169172:True:=⟨⟩
theorem te9479007343049100433:True:=⟨⟩
theorem te14225604533468787372:True:=⟨⟩
theorem te13045650648570217325:True:=⟨⟩
theorem te17653670305764975923:True:=⟨⟩
theorem te18003502662316104900:True:=⟨⟩
theorem te16752493373753249605:True:=⟨⟩
theorem te6909430164525888630:True:=⟨⟩
theorem te3867976108137498351:True:=⟨⟩
theorem te4628298796748615841:True:=⟨⟩
theorem te17808537021901377557:True:=⟨⟩
theorem te12809932704601639275:True:=⟨⟩
theorem te6054614781172459426:True:=⟨⟩
theorem te8443406207559706623:True:=⟨⟩
theorem te13716230910451348049:True:=⟨⟩
theorem te1813912738028102082:True:=⟨⟩
theorem te3651579199003804411:True:=⟨⟩
theorem te17310038455880413857:True:=⟨⟩
theorem te1882944997546157056:True:=⟨⟩
theorem te16740008433710511628:True:=⟨⟩
theorem te3751021203249715772:True:=⟨⟩
theorem te1673194678199165661:True:=⟨⟩
theorem te5030252310013890017:True:=⟨⟩
theorem te5766001586250155967:True:=⟨⟩
theorem te4278924780789404950:True:=⟨⟩
theorem te11166881672246989946:True:=⟨⟩
theorem te17371059176245884317:True:=⟨⟩
theorem te8161861972392272310:True:=⟨⟩
theorem te12587365530616349171:True:=⟨⟩
theorem te12066503025062042363:True:=⟨⟩
theorem te11121244968318491492:True:=⟨⟩
theorem te1691936056820378140:True:=⟨⟩
theorem te10459548359535524901:True:=⟨⟩
theorem te14788330637394214155:True:=⟨⟩
theorem te345800089946708818:True:=⟨⟩
theorem te1209107318898810404:True:=⟨⟩
theorem te3045092875317195288:True:=⟨⟩
theorem te1830262633928970371:True:=⟨⟩
theorem te1305120482687429189:True:=⟨⟩
theorem te8467868313647344014:True:=⟨⟩
theorem te14482864644108920935:True:=⟨⟩
theorem te7987479297136006762:True:=⟨⟩
theorem te10373719993818780819:True:=⟨⟩
theorem te8537195059528814518:True:=⟨⟩
theorem te2311512137572974242:True:=⟨⟩
theorem te15022905876890153143:True:=⟨⟩
theorem te8847945609804513049:True:=⟨⟩
theorem te14432115068957062566:True:=⟨⟩
theorem te9696280747274921284:True:=⟨⟩
theorem te3889963330724682423:True:=⟨⟩
theorem te8596492250094130918:True:=⟨⟩
theorem te3835989264661659133:True:=⟨⟩
theorem te16746260472127211980:True:=⟨⟩
theorem te9382353260508113202:True:=⟨⟩
theorem te13734664302117047638:True:=⟨⟩
theorem te17409430620334912097:True:=⟨⟩
theorem te1511382985124457872:True:=⟨⟩
theorem te11064275188984367723:True:=⟨⟩
theorem te7507700990609894020:True:=⟨⟩
theorem te16750905246842836155:True:=⟨⟩
theorem te4261996258102629659:True:=⟨⟩
theorem te8410390892413458237:True:=⟨⟩
theorem te10945413206290426808:True:=⟨⟩
theorem te13698005852739657059:True:=⟨⟩
theorem te18066213993976080219:True:=⟨⟩
theorem te18237631879279170254:True:=⟨⟩
theorem te1338923537271135266:True:=⟨⟩
theorem te9886022334750457314:True:=⟨⟩
theorem te12832645915249423382:True:=⟨⟩
theorem te7719391354129160806:True:=⟨⟩
theorem te12308545691159330370:True:=⟨⟩
theorem te3920339979284245435:True:=⟨⟩
theorem te14280892382284929144:True:=⟨⟩
theorem te2317327213754834303:True:=⟨⟩
theorem te12689948543021898782:True:=⟨⟩
theorem te3920434559461042913:True:=⟨⟩
theorem te9824402027906028166:True:=⟨⟩
theorem te4914564452774361366:True:=⟨⟩
theorem te11329757705623373428:True:=⟨⟩
theorem te4255644579420607405:True:=⟨⟩
theorem te3065667844134935711:True:=⟨⟩
theorem te11742434408794180312:True:=⟨⟩
theorem te1004307787778225862:True:=⟨⟩
theorem te9731302627739589524:True:=⟨⟩
theorem te16515881128349506522:True:=⟨⟩
theorem te6647446006612656680:True:=⟨⟩
theorem te17590797229862450887:True:=⟨⟩
theorem te14281027231235394197:True:=⟨⟩
theorem te5299142321219419512:True:=⟨⟩
theorem te8853602071598656960:True:=⟨⟩
theorem te4940022524575506691:True:=⟨⟩
theorem te2516688011973991860:True:=⟨⟩
theorem te752937996059050357:True:=⟨⟩
theorem te10120677806749903644:True:=⟨⟩
theorem te14294259596551441000:True:=⟨⟩
theorem te16228618645345325800:True:=⟨⟩
theorem te3814918883437750411:True:=⟨⟩
theorem te62911653907287443:True:=⟨⟩
theorem te13812413529954127667:True:=⟨⟩
theorem te8239692355807052589:True:=⟨⟩
theorem te6749816022756997756:True:=⟨⟩
theorem te3027062378676339079:True:=⟨⟩
theorem te17325071900298111762:True:=⟨⟩
theorem te14532896840278992839:True:=⟨⟩
theorem te7126975518985658925:True:=⟨⟩
theorem te7877951572934346241:True:=⟨⟩
theorem te4141507966849484497:True:=⟨⟩
theorem te6028809262856670567:True:=⟨⟩
theorem te6219600122823157768:True:=⟨⟩
theorem te2809278604067983497:True:=⟨⟩
theorem te8598656645009427934:True:=⟨⟩
theorem te2257023797279636909:True:=⟨⟩
theorem te5747943560572046330:True:=⟨⟩
theorem te4140179441456964842:True:=⟨⟩
theorem te804440075028868244:True:=⟨⟩
theorem te2097158038661542992:True:=⟨⟩
theorem te9702433853700827488:True:=⟨⟩
theorem te4921998980709364455:True:=⟨⟩
theorem te10467668515740496569:True:=⟨⟩
theorem te6170692823989606527:True:=⟨⟩
theorem te7709329880262494705:True:=⟨⟩
theorem te1462260846443349252:True:=⟨⟩
theorem te12344244270401091966:True:=⟨⟩
theorem te16902935394928636758:True:=⟨⟩
theorem te15217047719973636566:True:=⟨⟩
theorem te13343233081056383082:True:=⟨⟩
theorem te16743919094532871247:True:=⟨⟩
theorem te9646030957765503098:True:=⟨⟩
theorem te12323522811719801578:True:=⟨⟩
theorem te5007473603475501455:True:=⟨⟩
theorem te1959141249412160762:True:=⟨⟩
theorem te17819667712850054808:True:=⟨⟩
theorem te16211853061085607762:True:=⟨⟩
theorem te12604503067393643672:True:=⟨⟩
theorem te4917260698281373021:True:=⟨⟩
theorem te13290083899211820019:True:=⟨⟩
theorem te11824317228841347882:True:=⟨⟩
theorem te18337263098109447081:True:=⟨⟩
theorem te4849455110959188685:True:=⟨⟩
theorem te2227763180838826295:True:=⟨⟩
theorem te1813529816445877583:True:=⟨⟩
theorem te13160415687252131997:True:=⟨⟩
theorem te11041661621068367586:True:=⟨⟩
theorem te10379128024593204092:True:=⟨⟩
theorem te11371013966631761872:True:=⟨⟩
theorem te9152366195669953361:True:=⟨⟩
theorem te5968002354070625209:True:=⟨⟩
theorem te4740239641064672704:True:=⟨⟩
theorem te9505018459194549623:True:=⟨⟩
theorem te10608005503812986270:True:=⟨⟩
theorem te15991829725695925463:True:=⟨⟩
theorem te10167501374169945816:True:=⟨⟩
theorem te14867785968257915311:True:=⟨⟩
theorem te9622592172113248902:True:=⟨⟩
theorem te18284513277226172739:True:=⟨⟩
theorem te11226816000097564808:True:=⟨⟩
theorem te16813495490990631539:True:=⟨⟩
theorem te4585384042872923034:True:=⟨⟩
theorem te2551102563237261247:True:=⟨⟩
theorem te16205650284826786324:True:=⟨⟩
theorem te14561834410867693719:True:=⟨⟩
theorem te8999430235504693490:True:=⟨⟩
theorem te15270589063984241441:True:=⟨⟩
theorem te677770626626133183:True:=⟨⟩
theorem te3666779358733876865:True:=⟨⟩
theorem te4706730019985072197:True:=⟨⟩
theorem te15542571828579366146:True:=⟨⟩
theorem te11282756328119667561:True:=⟨⟩
theorem te360414842054866073:True:=⟨⟩
theorem te14356467210822742908:True:=⟨⟩
theorem te10100916178258052200:True:=⟨⟩
theorem te8189051569798803744:True:=⟨⟩
theorem te7890840828585969559:True:=⟨⟩
theorem te14227019150901024295:True:=⟨⟩
theorem te16482818217985632461:True:=⟨⟩
theorem te3491979056845488877:True:=⟨⟩
theorem te11830783291236490967:True:=⟨⟩
theorem te8438092295034336206:True:=⟨⟩
theorem te341205443035259922:True:=⟨⟩
theorem te12829584314936423370:True:=⟨⟩
theorem te8391544932869262785:True:=⟨⟩
theorem te12529239813535405740:True:=⟨⟩
theorem te15250455745228606606:True:=⟨⟩
theorem te5694268697641892491:True:=⟨⟩
theorem te9526312003062030778:True:=⟨⟩
theorem te3612592182167674706:True:=⟨⟩
theorem te10829861386692129563:True:=⟨⟩
theorem te8797124541103251256:True:=⟨⟩
theorem te13348309582516644355:True:=⟨⟩
theorem te7447265304433963780:True:=⟨⟩
theorem te2769179203833981986:True:=⟨⟩
theorem te7903739107501753962:True:=⟨⟩
theorem te9953913541803701844:True:=⟨⟩
theorem te2204227114439954064:True:=⟨⟩
theorem te17900907878860444871:True:=⟨⟩
theorem te8055222034482533213:True:=⟨⟩
theorem te13054029584598237930:True:=⟨⟩
theorem te9968132829249926242:True:=⟨⟩
theorem te8575741018289921283:True:=⟨⟩
theorem te529768012542259397:True:=⟨⟩
theorem te1709954987422694897:True:=⟨⟩
theorem te8690829727608747349:True:=⟨⟩
theorem te11379873911716665007:True:=⟨⟩
theorem te6096273251380509289:True:=⟨⟩
theorem te7870586037954681346:True:=⟨⟩
theorem te9360661954623500056:True:=⟨⟩
theorem te1711232113669426707:True:=⟨⟩
theorem te9293295977351545985:True:=⟨⟩
theorem te967937611509697236:True:=⟨⟩
theorem te7148218083462088695:True:=⟨⟩
theorem te161240904693370759:True:=⟨⟩
theorem te3019845442606066977:True:=⟨⟩
theorem te4682128740023748703:True:=⟨⟩
theorem te11800724528849167653:True:=⟨⟩
theorem te9646162439158215297:True:=⟨⟩
theorem te6666266186641176707:True:=⟨⟩
theorem te13825086298991103924:True:=⟨⟩
theorem te4542566060010906512:True:=⟨⟩
theorem te2419206528438211132:True:=⟨⟩
theorem te16434217179059699373:True:=⟨⟩
theorem te11496351443523065681:True:=⟨⟩
theorem te13749083963172695142:True:=⟨⟩
theorem te10299864718434876599:True:=⟨⟩
theorem te12257272003095292290:True:=⟨⟩
theorem te10853127983810539849:True:=⟨⟩
theorem te17650787134509238242:True:=⟨⟩
theorem te17741624877256639003:True:=⟨⟩
theorem te13774317884246731295:True:=⟨⟩
theorem te824318971978170264:True:=⟨⟩
theorem te14144325016035782092:True:=⟨⟩
theorem te440512088599464718:True:=⟨⟩
theorem te6683395555406576509:True:=⟨⟩
theorem te5128431465704143715:True:=⟨⟩
theorem te7694202039719062089:True:=⟨⟩
theorem te15061629048857893145:True:=⟨⟩
theorem te17069976745481343506:True:=⟨⟩
theorem te6721889922802049856:True:=⟨⟩
theorem te13850756162539995713:True:=⟨⟩
theorem te17931958716875668323:True:=⟨⟩
theorem te17293930101478689177:True:=⟨⟩
theorem te6392134543668183971:True:=⟨⟩
theorem te14526669694910994947:True:=⟨⟩
theorem te1829440816370314758:True:=⟨⟩
theorem te10639225083050632327:True:=⟨⟩
theorem te12875813232397572060:True:=⟨⟩
theorem te6464117144727971058:True:=⟨⟩
theorem te4088377363552607763:True:=⟨⟩
theorem te14023105666691521525:True:=⟨⟩
theorem te9022148851185452812:True:=⟨⟩
theorem te1037064625872414098:True:=⟨⟩
theorem te9676263982586038985:True:=⟨⟩
theorem te10049487870791582661:True:=⟨⟩
theorem te1001513274095515929:True:=⟨⟩
theorem te14189411335549235948:True:=⟨⟩
theorem te9935617230320634923:True:=⟨⟩
theorem te16700465726443162913:True:=⟨⟩
end PySem.W.Fast
set_option maxHeartbeats 0 in
open PySem PySem.W PyProof.Rows in
theorem PySem.Challenge.cw_spacewright_k15_cells_of_names_holds : PySem.Challenge.rw_spacewright_k15_cells_of_names.Holds := by
  w_on; o_law; k_head; (case hw => w_witness2)
  k_fill
  refine K15.walk (l := PySem.Challenge.rw_spacewright_k15_cells_of_names) rfl rfl (fun w h Y => PySem.W.kIn_of Y) ?F;case F =>
    intro w mg fa h KX G hmg;refine' K15.all_mk KX G hmg (K15.csr ?_ ?_ ?_ ?_ ?_ ?_ ?_ ?_ ?_) ?_ (K15.csr ?_ ?_ ?_ ?_ ?_ ?_ ?_ ?_ ?_) ?_ (K15.csr ?_ ?_ ?_ ?_ ?_ ?_ ?_ ?_ ?_) ?_ (K15.csr ?_ ?_ ?_ ?_ ?_ ?_ ?_ ?_ ?_) ?_ (K15.csr ?_ ?_ ?_ ?_ ?_ ?_ ?_ ?_ ?_) ?_ (K15.csr ?_ ?_ ?_ ?_ ?_ ?_ ?_ ?_ ?_) ?_ (K15.csr ?_ ?_ ?_ ?_ ?_ ?_ ?_ ?_ ?_) ?_ (K15.csr ?_ ?_ ?_ ?_ ?_ ?_ ?_ ?_ ?_) ?_ ?_ ?_ ?_ ?_ ?_ ?_ ?_ ?_ ?_ (Fx.mdr ?_ ?_ ?_ ?_ ?_) (Fx.mdr ?_ ?_ ?_ ?_ ?_) (Fx.dnr ?_ ?_ ?_ ?_) (Fx.dnr ?_ ?_ ?_ ?_) (Fx.dnr ?_ ?_ ?_ ?_) (Fx.dnr ?_ ?_ ?_ ?_) (Fx.dnr ?_ ?_ ?_ ?_) (Fx.dnr ?_ ?_ ?_ ?_) (Fx.dnr ?_ ?_ ?_ ?_) (Fx.dnr ?_ ?_ ?_ ?_) (Fx.dnr ?_ ?_ ?_ ?_) (Fx.dnr ?_ ?_ ?_ ?_) (Fx.dnr ?_ ?_ ?_ ?_) (Fx.dnr ?_ ?_ ?_ ?_) (Fx.dnr ?_ ?_ ?_ ?_) (Fx.dnr ?_ ?_ ?_ ?_) (Fx.mdr ?_ ?_ ?_ ?_ ?_) (Fx.mdr ?_ ?_ ?_ ?_ ?_) (Fx.mdr ?_ ?_ ?_ ?_ ?_) (Fx.mdr ?_ ?_ ?_ ?_ ?_) (Fx.dnr ?_ ?_ ?_ ?_) (Fx.dnr ?_ ?_ ?_ ?_) (Fx.dnr ?_ ?_ ?_ ?_) (Fx.dnr ?_ ?_ ?_ ?_) (Fx.mdd ?_ ?_ ?_ ?_ ?_ ?_ ?U26) (Fx.mdr ?_ ?_ ?_ ?_ ?_) (Fx.mdr ?_ ?_ ?_ ?_ ?_) (Fx.mdr ?_ ?_ ?_ ?_ ?_) (Fx.mdr ?_ ?_ ?_ ?_ ?_) (Fx.mdr ?_ ?_ ?_ ?_ ?_) (Fx.dnr ?_ ?_ ?_ ?_) (Fx.mdr ?_ ?_ ?_ ?_ ?_) (Fx.mdr ?_ ?_ ?_ ?_ ?_) (Fx.mdr ?_ ?_ ?_ ?_ ?_) (Fx.dnr ?_ ?_ ?_ ?_) (Fx.dnr ?_ ?_ ?_ ?_) (Fx.dnr ?_ ?_ ?_ ?_) (Fx.dnr ?_ ?_ ?_ ?_) (Fx.dnr ?_ ?_ ?_ ?_) (Fx.dnr ?_ ?_ ?_ ?_) (Fx.dnr ?_ ?_ ?_ ?_) (Fx.dnr ?_ ?_ ?_ ?_) (Fx.dnr ?_ ?_ ?_ ?_) (Fx.mdr ?_ ?_ ?_ ?_ ?_) (Fx.mdr ?_ ?_ ?_ ?_ ?_) (Fx.mdr ?_ ?_ ?_ ?_ ?_) (Fx.mdr ?_ ?_ ?_ ?_ ?_) (Fx.mdr ?_ ?_ ?_ ?_ ?_) (Fx.dnd ?_ ?_ ?_ ?_ ?_ ?U60) (Fx.dnr ?_ ?_ ?_ ?_) (Fx.dnr ?_ ?_ ?_ ?_) (Fx.dnr ?_ ?_ ?_ ?_) (Fx.dnr ?_ ?_ ?_ ?_) (Fx.dnr ?_ ?_ ?_ ?_) (Fx.dnr ?_ ?_ ?_ ?_) (Fx.dnr ?_ ?_ ?_ ?_) (Fx.dnr ?_ ?_ ?_ ?_) (Fx.dnr ?_ ?_ ?_ ?_) (Fx.dnr ?_ ?_ ?_ ?_) (Fx.dnr ?_ ?_ ?_ ?_) (Fx.dnr ?_ ?_ ?_ ?_) ?_ ?_ ?_ ?_ ?_ ?_ ?_ ?_ ?_ ?_ ?_ (K15.tup_is ?_ ?_ ?_) ?_ (K15.tup_is ?_ ?_ ?_) ?_ ?_ ?gkFORMS ?goFORMS ?_ ?_ (K15.tup_is ?_ ?_ ?_) ?_ (K15.tup_is ?_ ?_ ?_) ?_ (K15.tup_is ?_ ?_ ?_) ?_ (K15.tup_is ?_ ?_ ?_) ?_ (K15.tup_is ?_ ?_ ?_) ?_ (K15.tup_is ?_ ?_ ?_) ?_ (K15.tup_is ?_ ?_ ?_) ?_ (K15.tup_is ?_ ?_ ?_) ?_ (K15.tup_is ?_ ?_ ?_) ?_ (K15.tup_is ?_ ?_ ?_) ?_ (K15.tup_is ?_ ?_ ?_) ?_ (K15.tup_is ?_ ?_ ?_) ?_ (K15.tup_is ?_ ?_ ?_) ?_ (K15.tup_is ?_ ?_ ?_) ?_ (K15.tup_is ?_ ?_ ?_) ?_ ?_ ?gkSCOPES ?goSCOPES ?_ ?_ (K15.tup_is ?_ ?_ ?_) ?_ (K15.tup_is ?_ ?_ ?_) ?_ (K15.tup_is ?_ ?_ ?_) ?_ (K15.tup_is ?_ ?_ ?_) ?_ ?_ (K15.tup_is ?_ ?_ ?_) ?_ (K15.tup_is ?_ ?_ ?_) ?_ ?_ ?gkFINISHES ?goFINISHES ?_ ?_ ?_ ?_ ?_ ?_ ?_ ?_ ?_ ?_ ?_ ?_ ?_ ?_ ?_ ?_ ?_ ?_ ?_ ?_ ?_ ?_ ?_ ?_ ?_ ?_ ?_ K15.math;any_goals k_is
    (case U26 => rfl)
    (case U60 => rfl)
    (case gkFORMS => exact ⟨⟨_, _, rfl, rfl⟩, ⟨_, _, rfl, rfl⟩, ⟨_, _, rfl, rfl⟩, ⟨_, _, rfl, rfl⟩, ⟨_, _, rfl, rfl⟩, ⟨_, _, rfl, rfl⟩, ⟨_, _, rfl, rfl⟩, ⟨_, _, rfl, rfl⟩, ⟨_, _, rfl, rfl⟩, ⟨_, _, rfl, rfl⟩, ⟨_, _, rfl, rfl⟩, ⟨_, _, rfl, rfl⟩, ⟨_, _, rfl, rfl⟩, ⟨_, _, rfl, rfl⟩, ⟨_, _, rfl, rfl⟩, True.intro⟩)
    (case goFORMS => rfl)
    (case gkSCOPES => exact ⟨⟨_, _, rfl, rfl⟩, ⟨_, _, rfl, rfl⟩, ⟨_, _, rfl, rfl⟩, ⟨_, _, rfl, rfl⟩, True.intro⟩)
    (case goSCOPES => rfl)
    (case gkFINISHES => exact ⟨⟨_, _, rfl, rfl⟩, ⟨_, _, rfl, rfl⟩, ⟨_, _, rfl, rfl⟩, ⟨_, _, rfl, rfl⟩, ⟨_, _, rfl, rfl⟩, ⟨_, _, rfl, rfl⟩, ⟨_, _, rfl, rfl⟩, ⟨_, _, rfl, rfl⟩, ⟨_, _, rfl, rfl⟩, ⟨_, _, rfl, rfl⟩, ⟨_, _, rfl, rfl⟩, ⟨_, _, rfl, rfl⟩, ⟨_, _, rfl, rfl⟩, True.intro⟩)
    (case goFINISHES => rfl)
    all_goals first | kernel_rfl | decide | (repeat' first | exact .nil | refine .cons ⟨_, rfl⟩ ?_)
#print axioms PySem.Challenge.cw_spacewright_k15_cells_of_names_holds
