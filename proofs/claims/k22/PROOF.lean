import PyProof.Rows.All
import Wide.All
import OpenK.AllK
import Wide.FinOn
import PyProof.EqAt
import PyProof.EqKinds
import PyProof.NeKinds
import PyProof.TupleCall
import PyProof.SetKind
import PyProof.DictKinds
import PyProof.MeetsSeq2
import PyProof.SetRoads
import PyProof.SetNew
import PyProof.Rows.SetFrom
import KE.KDictList
import PyProof.Rows.SortWalk
import KE.KDictSum
import PyProof.EnumFor
import PyProof.EnumStmt
import PyProof.EnumMake
import KE.KRevIter
import PyProof.Draws
import PyProof.CollectIter
import PyProof.TupleOfGen
import PyProof.TupleOps
import KE.KEqDict
import PyProof.WalkInts
import PyProof.PureStr
import PyProof.Rows.StrJoin2
import PyProof.StrCalls2
import PyProof.ConsumeWalk
import KE.KIntText
import PyProof.DictUpdate
import PyProof.FString
import PyProof.StrOps2
import PyProof.SliceStr2
import PyProof.StrBlockI
import PyProof.StrWalks
import OpenK.KTop
import PyProof.ZipIter
import PyProof.StrLawsTight
import PyProof.StrLawsRepr
import KE.KSortTup
import PySem.Challenge.RW_spacewright_k22_each_name_once
set_option Elab.async false
set_option linter.all false
set_option maxRecDepth 100000
set_option maxHeartbeats 4000000
noncomputable section
abbrev xFr:=PySem.W.Frag
theorem xAa:type_of%@List.length_map:=@List.length_map
theorem xAb:type_of%@List.length_append:=@List.length_append
theorem xAc:type_of%@List.mem_of_getElem?:=@List.mem_of_getElem?
theorem xAd:type_of%@PySem.wpAny_bind:=@PySem.wpAny_bind
theorem xAe:type_of%@PySem.wpAny_pure:=@PySem.wpAny_pure
theorem xAf:type_of%@PySem.Heap.get?_push_of_some:=@PySem.Heap.get?_push_of_some
theorem xAg:type_of%@Nat.le_refl:=@Nat.le_refl
theorem xAh:type_of%@Array.length_toList:=@Array.length_toList
theorem xAi:type_of%@List.map_append:=@List.map_append
theorem xAj:type_of%@List.mem_append:=@List.mem_append
theorem xAk:type_of%@List.getElem?_eq_getElem:=@List.getElem?_eq_getElem
theorem xAl:type_of%@PySem.Heap.get?_push_size:=@PySem.Heap.get?_push_size
theorem xAm:type_of%@List.mem_singleton:=@List.mem_singleton
theorem xAo:type_of%@List.length_cons:=@List.length_cons
theorem xAp:type_of%@List.size_toArray:=@List.size_toArray
theorem xAq:type_of%@List.getElem?_eq_some_iff:=@List.getElem?_eq_some_iff
theorem xAr:type_of%@List.mem_cons_self:=@List.mem_cons_self
theorem xAs:type_of%@List.mem_cons_of_mem:=@List.mem_cons_of_mem
theorem xAt:type_of%@List.length_singleton:=@List.length_singleton
theorem xAv:type_of%@List.mem_cons:=@List.mem_cons
theorem xAw:type_of%@List.getElem?_map:=@List.getElem?_map
theorem xAx:type_of%@List.append_assoc:=@List.append_assoc
theorem xAy:type_of%@Bool.false_ne_true:=@Bool.false_ne_true
theorem xAz:type_of%@Bool.false_eq_true:=@Bool.false_eq_true
theorem xA0:type_of%@Nat.ne_of_lt:=@Nat.ne_of_lt
theorem xA1:type_of%@PySem.Heap.lt_size:=@PySem.Heap.lt_size
theorem xA2:type_of%@List.mem_map:=@List.mem_map
theorem xBa:type_of%@Int.emod_nonneg:=@Int.emod_nonneg
theorem xBb:type_of%@Int.emod_lt_of_pos:=@Int.emod_lt_of_pos
theorem xBc:type_of%@Nat.lt_of_lt_of_le:=@Nat.lt_of_lt_of_le
theorem xBd:type_of%@decide_eq_true:=@decide_eq_true
theorem xBe:type_of%@of_decide_eq_true:=@of_decide_eq_true
theorem xBl:type_of%@PySem.wpAny_newObj_type:=@PySem.wpAny_newObj_type
theorem xBn:type_of%@Nat.zero_le:=@Nat.zero_le
theorem xBq:type_of%@List.nodup_append:=@List.nodup_append
theorem xBs:type_of%@List.map_cons:=@List.map_cons
theorem xBt:type_of%@List.mem_append_right:=@List.mem_append_right
theorem xBu:type_of%@Int.le_refl:=@Int.le_refl
theorem xBv:type_of%@List.not_mem_nil:=@List.not_mem_nil
theorem xBw:type_of%@List.mem_append_left:=@List.mem_append_left
theorem xBz:type_of%@List.getD_eq_getElem?_getD:=@List.getD_eq_getElem?_getD
theorem xB0:type_of%@List.append_nil:=@List.append_nil
theorem xB3:type_of%@Option.some.inj:=@Option.some.inj
theorem xCb:type_of%@List.nodup_cons:=@List.nodup_cons
theorem xCf:type_of%@if_neg:=@if_neg
theorem xCg:type_of%@if_pos:=@if_pos
theorem xCh:type_of%@Bool.and_eq_true:=@Bool.and_eq_true
theorem xCi:type_of%@Option.bind_eq_some_iff:=@Option.bind_eq_some_iff
theorem xCj:type_of%@List.all_cons:=@List.all_cons
theorem xCk:type_of%@Nat.le_trans:=@Nat.le_trans
theorem xCl:type_of%@List.getElem?_append_right:=@List.getElem?_append_right
theorem xCn:type_of%@decide_eq_false:=@decide_eq_false
theorem xCo:type_of%@Nat.le_of_ble_eq_true:=@Nat.le_of_ble_eq_true
theorem xCu:type_of%@List.length_replicate:=@List.length_replicate
theorem xCx:type_of%@List.all_eq_true:=@List.all_eq_true
theorem xCy:type_of%@List.any_eq_true:=@List.any_eq_true
theorem xC3:type_of%@Int.toNat_natCast:=@Int.toNat_natCast
theorem xC6:type_of%@List.nil_append:=@List.nil_append
theorem xDa:type_of%@PySem.wpAny_field:=@PySem.wpAny_field
theorem xDc:type_of%@PySem.wpAny_holding:=@PySem.wpAny_holding
theorem xDk:type_of%@Nat.ble_eq_true_of_le:=@Nat.ble_eq_true_of_le
namespace L2
open PySem PySem.Spec PyProof.Rows
variable{H:Hp}{h base:Heap}{g':Array GenState}{t' j k:Nat}{d':Drawn}{ch fp:List Addr}{it dx C:Addr}{N ps:List Str}{M:Model}{A:Around}{X:Cx}{pos:Pos}{Z:List (Addr×Obj)}{Q:Value->Shared->Prop}{y:V}{K:xFr}{es:List Expr}{tg:Expr}{te:TE}{g:Int->Int->Int}{op op':CmpOp}{r':R2}{kw:List (Str×Value)}{mg:Str->Option Value}{CX:CXT}{fd:FuncData}{sp:Sp}{outer:List Env}{vs:List V}{qual:Str}{scope:Scope}
noncomputable abbrev Key:=Sum Int Str
noncomputable def keyIs:Key->Value->Bool
 |.inl k,v=>Value.isInt k v
 |.inr x,v=>Value.isStrOf x v
noncomputable def keyH(w:World):Key->Int
 |.inl k=>hashInt k
 |.inr x=>hashStr w x
theorem cr:∀{k:Key}{v:Value},keyIs k v=true->(∃i t,k=Sum.inl i/\v=Value.int i t)\/(∃x t,k=Sum.inr x/\v=Value.str x t)
 |.inl i,v,h=>by
  obtain⟨t,e⟩:=Value.isInt_shape (k:=i) (v:=v) h;exact .inl ⟨i,t,rfl,e⟩
 |.inr x,v,h=>by
  obtain⟨t,e⟩:=Value.isStrOf_shape (x:=x) (v:=v) h;exact .inr ⟨x,t,rfl,e⟩
theorem mh(i:Int)(t:Tok):keyIs (.inl i) (.int i t)=true:=by simp[keyIs,Value.isInt]
theorem mf(x:Str)(t:Tok):keyIs (.inr x) (.str x t)=true:=by simp[keyIs,Value.isStrOf]
theorem vQ(a b:Int):decide ((Sum.inl a:Key)=Sum.inl b)=(a==b):=by
 by_cases e:a=b
 ·subst e;simp
 ·have h:¬ (Sum.inl a:Key)=Sum.inl b:=λq=>e (Sum.inl.inj q);rw[xCn h];exact(beq_eq_false_iff_ne.mpr e).symm
theorem vN(a b:Str):decide ((Sum.inr a:Key)=Sum.inr b)=decide (a=b):=by
 by_cases e:a=b
 ·subst e;simp
 ·have h:¬ (Sum.inr a:Key)=Sum.inr b:=λq=>e (Sum.inr.inj q);rw[xCn h,xCn e]
theorem vP(a:Int)(b:Str):decide ((Sum.inl a:Key)=Sum.inr b)=false:=xCn (λq=>nomatch q)
theorem vO(a:Str)(b:Int):decide ((Sum.inr a:Key)=Sum.inl b)=false:=xCn (λq=>nomatch q)
noncomputable def mixKind(prog:Program)(w:World):PySem.KeyKind prog w Key where
 is:=keyIs
 hash:=keyH w
 inj:=λv a b ha hb=>by
  rcases cr ha with ⟨i,t,rfl,rfl⟩|⟨x,t,rfl,rfl⟩
  ·rcases cr hb with ⟨j,u,rfl,e⟩|⟨y,u,rfl,e⟩
   ·injection e with e1 _;rw[e1]
   ·exact nomatch e
  ·rcases cr hb with ⟨j,u,rfl,e⟩|⟨y,u,rfl,e⟩
   ·exact nomatch e
   ·injection e with e1 _;rw[e1]
 byValue:=λk v h=>by
  rcases cr h with ⟨i,t,rfl,rfl⟩|⟨x,t,rfl,rfl⟩ <;> rfl
 pyHash:=λhv h=>by
  rcases cr hv with ⟨i,t,rfl,rfl⟩|⟨x,t,rfl,rfl⟩
  ·exact wpAny_pyHash_int h
  ·exact wpAny_pyHash_str h
 eqBool:=λhu hv h=>by
  rcases cr hu with ⟨i,t,rfl,rfl⟩|⟨x,t,rfl,rfl⟩
  ·rcases cr hv with ⟨j,u,rfl,rfl⟩|⟨y,u,rfl,rfl⟩
   ·rw[vQ] at h;exact wpAny_eqBool_int h
   ·rw[vP] at h;exact SeqAt.EqAt.int_str i t y u _ _ _ _ h
  ·rcases cr hv with ⟨j,u,rfl,rfl⟩|⟨y,u,rfl,rfl⟩
   ·rw[vO] at h;exact SeqAt.EqAt.str_int x t j u _ _ _ _ h
   ·rw[vN] at h;exact wpAny_eqBool_str h
 «strs»:=λk x t v h=>by
  rcases cr h with ⟨i,u,rfl,e⟩|⟨y,u,rfl,e⟩
  ·exact nomatch e
  ·injection e with e1 _;subst e1;cases v <;> rfl
theorem iO(prog:Program)(w:World)(i:Int)(t:Tok):(mixKind prog w).is (.inl i) (.int i t)=true:=mh i t
theorem iM(prog:Program)(w:World)(x:Str)(t:Tok):(mixKind prog w).is (.inr x) (.str x t)=true:=mf x t
inductive V where
 |non|bl (b:Bool)|int (i:Int)|str (x:Str)|byt (b:Array UInt8)|flt (b:UInt64)|ref (a:Addr)|ty (n:String)
 deriving DecidableEq
def RelV:V->Value->Prop
 |.non,u=>u=Value.none
 |.bl b,u=>u=Value.bool b
 |.int i,u=>∃t,u=Value.int i t
 |.str x,u=>∃t,u=Value.str x t
 |.byt b,u=>∃t,u=Value.bytes b t
 |.flt b,u=>∃t,u=Value.float b t
 |.ref a,u=>u=Value.ref a
 |.ty n,u=>u=Value.type n
noncomputable abbrev Vals:List V->List Value->Prop:=Paired RelV
theorem Vals.length{xs:List V}{us:List Value}(r:Vals xs us):xs.length=us.length:=Paired.length r
theorem Vals.get:∀{xs:List V}{us:List Value}{i:Nat}{x:V},Vals xs us->xs[i]?=some x->∃u,us[i]?=some u/\RelV x u
 |_,_,_,_,.nil,e=>by simp at e
 |_,_,0,_,.cons r _,e=>by simp at e;subst e;exact⟨_,rfl,r⟩
 |_,_,i+1,x,.cons _ t,e=>by
  obtain⟨u,h1,h2⟩:=Vals.get (i:=i) (x:=x) t (by simpa using e);exact⟨u,by simpa using h1,h2⟩
theorem Vals.set{x:V}{u:Value}(r:RelV x u):∀{xs:List V}{us:List Value}(i:Nat),Vals xs us->Vals (xs.set i x) (us.set i u)
 |_,_,_,.nil=>.nil
 |_,_,0,.cons _ t=>.cons r t
 |_,_,i+1,.cons q t=>.cons q (Vals.set r i t)
theorem Vals.append:∀{xs ys:List V}{us ws:List Value},Vals xs us->Vals ys ws->Vals (xs++ys) (us++ws)
 |_,_,_,_,.nil,s=>s
 |_,_,_,_,.cons r t,s=>.cons r (Vals.append t s)
theorem Vals.take:∀{xs:List V}{us:List Value}(n:Nat),Vals xs us->Vals (xs.take n) (us.take n)
 |_,_,0,_=>.nil
 |_,_,_+1,.nil=>.nil
 |_,_,n+1,.cons r t=>.cons r (Vals.take n t)
theorem Vals.drop:∀{xs:List V}{us:List Value}(n:Nat),Vals xs us->Vals (xs.drop n) (us.drop n)
 |_,_,0,r=>r
 |_,_,_+1,.nil=>.nil
 |_,_,n+1,.cons _ t=>Vals.drop n t
def RelO:Option V->Option Value->Prop
 |some v,some u=>RelV v u
 |none,none=>True
 |_,_=>False
def KV{κ:Type}:List (κ×V)->List (κ×Value)->Prop:=Paired λ(p:κ×V) (q:κ×Value)=>p.1=q.1/\RelV p.2 q.2
noncomputable def kV:Key->V
 |.inl i=>.int i
 |.inr x=>.str x
inductive HO where
 
 |lst (xs:List V)
 
 |tup (xs:List V)
 
 |dK (kvs:List (Key×V))|dT (kvs:List (List Key×V))
 
 |set (S:Int->Bool) (n:Nat)
 
 |ins (C dx:Addr) (fs:List (Str×V))
 
 |own (x:Addr)
 
 |xd (fs:List (Str×V))
 
 |met (f x:Addr)
 
 |rng (lo hi:Int)
 
 |frz (o:Obj) (u:HO)
 
 |tbl (ps:Array Value)
 
 |ext (φ:Heap->Prop)
noncomputable abbrev Hp:=Addr->Option HO
def upd(H:Hp)(a:Addr)(o:HO):Hp:=λb=>if b=a then some o else H b
theorem bt{a:Addr}{o:HO}:upd H a o a=some o:=by unfold upd;rw[xCg rfl]
theorem bq{a b:Addr}{o:HO}(h:b≠a):upd H a o b=H b:=by unfold upd;rw[xCf h]
theorem xX{a b:Addr}{o u:HO}(h:H a=some o)(h':H b=some u)(d:o≠u):a≠b:=by
 intro e;subst e;rw[h] at h';exact d (xB3 h')
theorem cn{a b:Addr}{o:HO}(h:H a=some o)(h':H b=none):a≠b:=by
 intro e;subst e;rw[h] at h';cases h'
section
variable(P:Program)(w:World)
def ObjOk(H:Hp)(h:Heap)(a:Addr):HO->Prop
 |.lst xs=>xs.length<=sizeLine/\∃(its:List Value) (n:Nat),Vals xs its/\h.get? a=some {cls:=.type "list",data:=.seq its.toArray n}
 |.tup xs=>xs.length<=sizeLine/\∃its:List Value,Vals xs its/\IsTup h a its.toArray
 |.dK kvs=>kvs.length<=sizeLine/\(a==sysModules)=false/\∃vs,KV kvs vs/\h.DictOf (mixKind P w) a vs
 |.dT kvs=>kvs.length<=sizeLine/\(a==sysModules)=false/\∃xs:List (List Key×Addr×Value),
   Paired (λ(p:List Key×V) (q:List Key×Addr×Value)=>p.1=q.1/\H q.2.1=some (.tup (p.1.map kV))/\RelV p.2 q.2.2) kvs xs /\
   ∃o es ep,h.get? a=some o/\o.ExactDict/\o.data=.dict es ep/\es.toList=xs.map (entryOfKey (tupleKind (mixKind P w)))/\(xs.map (·.1)).Nodup
 |.set S n=>h.SetOf (intKind P w) a S n
 |.ins C dx fs=>H dx=some (.own a)/\fs.length<=1000/\dx≠a/\h.get? a=some (W.instObj C dx) /\
   ∃mA,h.Ns1 dx mA/\(∀f,RelO (fs.lookup f) (mA f))/\PySem.Within mA (fs.map (·.1))
 |.own _=>∃o,h.get? a=some o
 |.xd fs=>∃mA,h.Ns1 a mA/\∀f,RelO (fs.lookup f) (mA f)
 |.rng lo hi=>∃t u v,h.get? a=some {cls:=.type "range",data:=.fields #[.int lo t,.int hi u,.int 1 v]}
 |.frz o u=>h.get? a=some o/\ObjOk H h a u
 |.tbl ps=>h.get? a=some {cls:=.none,data:=.fields ps}
 |.met f x=>h.get? a=some (W.methodObj (.ref f) (.ref x))
 |.ext φ=>φ h/\(∃o,h.get? a=some o)/\∀h1 h2:Heap,φ h1->(∀o,h1.get? a=some o->h2.get? a=some o)->φ h2
def HOk(H:Hp)(h:Heap):Prop:=∀a o,H a=some o->ObjOk P w H h a o
end
section
variable{P:Program}{w:World}{H H':Hp}{h h':Heap}{a:Addr}{o:HO}
theorem ObjOk.lt(x:ObjOk P w H h a o):a<h.objs.size:=by
 cases o with
 |lst xs=>obtain⟨_,_,_,_,e⟩:=x;exact xA1 e
 |tup xs=>obtain⟨_,_,_,p⟩:=x;exact p.lt
 |dK kvs=>obtain⟨_,_,_,_,o,_,_,e,_⟩:=x;exact xA1 e
 |dT kvs=>obtain⟨_,_,_,_,o,_,_,e,_⟩:=x;exact xA1 e
 |set S n=>obtain⟨o,_,_,_,e,_⟩:=x;exact xA1 e
 |ins C dx fs=>obtain⟨_,_,_,e,_⟩:=x;exact xA1 e
 |own y=>obtain⟨_,e⟩:=x;exact xA1 e
 |xd fs=>obtain⟨_,⟨_,_,_,e,_⟩,_⟩:=x;exact xA1 e
 |rng lo hi=>obtain⟨_,_,_,e⟩:=x;exact xA1 e
 |frz ob u=>obtain⟨e,_⟩:=x;exact xA1 e
 |tbl ps=>exact xA1 (show h.get? a=some _ from x)
 |met f y=>exact xA1 (show h.get? a=some _ from x)
 |ext φ=>obtain⟨_,⟨_,e⟩,_⟩:=x;exact xA1 e
theorem Paired.mapP{α β:Type}{F G:α->β->Prop}:∀{l₁:List α}{l₂:List β},Paired F l₁ l₂->(∀a b,F a b->G a b)->Paired G l₁ l₂
 |_,_,.nil,_=>.nil
 |_,_,.cons r t,f=>.cons (f _ _ r) (Paired.mapP t f)
theorem ObjOk.stay(x:ObjOk P w H h a o)(k:∀b u,(b=a\/H b=some (.own a))->h.get? b=some u->h'.get? b=some u)(ho:∀b,H b=some (.own a)->H' b=some (.own a))(ht:∀b xs,H b=some (.tup xs)->H' b=some (.tup xs)):ObjOk P w H' h' a o:=by
 induction o with
 |lst xs=>obtain⟨z,its,n,r,e⟩:=x;exact⟨z,its,n,r,k _ _ (.inl rfl) e⟩
 |tup xs=>obtain⟨z,its,r,ob,e,c⟩:=x;exact⟨z,its,r,ob,k _ _ (.inl rfl) e,c⟩
 |dK kvs=>obtain⟨z,y,vs,r,ob,es,ep,e,c⟩:=x;exact⟨z,y,vs,r,ob,es,ep,k _ _ (.inl rfl) e,c⟩
 |dT kvs=>
  obtain⟨z,y,xs,r,ob,es,ep,e,c⟩:=x;exact⟨z,y,xs,Paired.mapP r λp q z=>⟨z.1,ht _ _ z.2.1,z.2.2⟩,ob,es,ep,k _ _ (.inl rfl) e,c⟩
 |set S n=>obtain⟨ob,es,ep,t,e,c⟩:=x;exact⟨ob,es,ep,t,k _ _ (.inl rfl) e,c⟩
 |ins C dx fs=>
  obtain⟨d,z,ne,e,mA,⟨od,es,ep,e2,c⟩,r⟩:=x;exact⟨ho _ d,z,ne,k _ _ (.inl rfl) e,mA,⟨od,es,ep,k _ _ (.inr d) e2,c⟩,r⟩
 |own y=>obtain⟨ob,e⟩:=x;exact⟨ob,k _ _ (.inl rfl) e⟩
 |xd fs=>obtain⟨mA,⟨od,es,ep,e,c⟩,r⟩:=x;exact⟨mA,⟨od,es,ep,k _ _ (.inl rfl) e,c⟩,r⟩
 |rng lo hi=>obtain⟨t,u,v,e⟩:=x;exact⟨t,u,v,k _ _ (.inl rfl) e⟩
 |frz ob u ih=>obtain⟨e,q⟩:=x;exact⟨k _ _ (.inl rfl) e,ih q⟩
 |tbl ps=>
  have e:h.get? a=some {cls:=.none,data:=.fields ps}:=x;show h'.get? a=some {cls:=.none,data:=.fields ps};exact k a _ (.inl rfl) e
 |met f y=>
  have e:h.get? a=some (W.methodObj (.ref f) (.ref y)):=x;show h'.get? a=some (W.methodObj (.ref f) (.ref y));exact k a _ (.inl rfl) e
 |ext φ=>obtain⟨p,⟨o,e⟩,st⟩:=x;exact⟨st _ _ p λo q=>k _ _ (.inl rfl) q,⟨o,k _ _ (.inl rfl) e⟩,st⟩
theorem HOk.lt(x:HOk P w H h)(e:H a=some o):a<h.objs.size:=(x a o e).lt
theorem HOk.fresh(x:HOk P w H h)(e:h.objs.size<=a):H a=none:=by
 cases q:H a with
 |none=>rfl
 |some u=>exact absurd (xBc (x.lt q) e) (Nat.lt_irrefl _)
theorem HOk.kept(x:HOk P w H h)(k:∀b u,h.get? b=some u->h'.get? b=some u):HOk P w H h':=λa o e=>
 (x a o e).stay (λb u _ q=>k b u q) (λ_ q=>q) λ_ _ q=>q
theorem HOk.laid(x:HOk P w H h)(k:∀b u,h.get? b=some u->h'.get? b=some u)(hp:h.objs.size<=a)(new:ObjOk P w (upd H a o) h' a o):HOk P w (upd H a o) h':=λb u e=>by
 have hn:=x.fresh hp;by_cases hb:b=a
 ·subst hb;rw[bt] at e;cases e;exact new
 ·rw[bq hb] at e;exact(x b u e).stay (λc v _ q=>k c v q) (λc q=>by rw[bq (cn q hn)];exact q) λc xs q=>by rw[bq (cn q hn)];exact q
end
def Rd(H:Hp)(a:Addr)(u:HO):Prop:=H a=some u\/∃o,H a=some (.frz o u)
theorem Rd.ok{P:Program}{w:World}{a:Addr}{u:HO}(r:Rd H a u)(x:HOk P w H h):ObjOk P w H h a u:=by
 rcases r with r|⟨o,r⟩
 ·exact x a u r
 ·obtain⟨_,q⟩:=x a _ r;exact q
def Mut:Option HO->Prop
 |some (.lst _)=>True
 |some (.dK _)=>True
 |some (.dT _)=>True
 |some (.set _ _)=>True
 |some (.ins _ _ _)=>True
 |some (.ext _)=>True
 |_=>False
section
variable{P:Program}{w:World}{H:Hp}{h h':Heap}{x e:Addr}{o':HO}
theorem HOk.write(ok:HOk P w H h)(mu:Mut (H x))(he:e=x\/H e=some (.own x))(k:∀b u,b≠e->h.get? b=some u->h'.get? b=some u)(heo:∃u,h'.get? e=some u)(new:ObjOk P w (upd H x o') h' x o'):HOk P w (upd H x o') h':=λb u q=>by
 have nown:∀c y,H c=some (.own y)->c≠x:=λc y r z=>by subst z;rw[r] at mu;exact mu
 have ntup:∀c xs,H c=some (.tup xs)->c≠x:=λc xs r z=>by subst z;rw[r] at mu;exact mu
 by_cases hb:b=x
 ·subst hb;rw[bt] at q;cases q;exact new
 ·rw[bq hb] at q;by_cases hbe:b=e
  ·have q':H b=some (.own x):=by
    rcases he with z|z
    ·exact absurd (hbe.trans z) hb
    ·rw[hbe];exact z
   rw[q] at q';cases q';obtain⟨v,hv⟩:=heo;exact⟨v,by rw[hbe];exact hv⟩
  ·refine(ok b u q).stay (λc v hc r=>k c v ?_ r) (λc r=>by rw[bq (nown c b r)];exact r) λc xs r=>by rw[bq (ntup c xs r)];exact r
   rcases hc with rfl|hc
   ·exact hbe
   ·rintro rfl
    rcases he with z|z
    ·exact nown c b hc z
    ·rw[hc] at z;cases z;exact hb rfl
end
structure Un(fs ex:List Addr)(H H':Hp)(h h':Heap):Prop where
 keep:∀b o,h.get? b=some o->H b=none->b∉fs->b∉ex->h'.get? b=some o
 slot:∀b o,h.get? b=some o->H b=none->b∈fs->b∉ex->∃sl,h'.get? b=some {o with slots:=sl}
 free:∀b o,h.get? b=some o->H b=none->b∉ex->H' b=none
 there:∀b o,h.get? b=some o->b∉ex->∃o',h'.get? b=some o'
 tups:∀b xs,H b=some (.tup xs)->H' b=some (.tup xs)
 frzs:∀b o u,H b=some (.frz o u)->H' b=some (.frz o u)
 tbls:∀b ps,H b=some (.tbl ps)->∃more,H' b=some (.tbl (ps++more))
section
variable{fs fs' ex ex':List Addr}{H H1 H2:Hp}{h h1 h2 h':Heap}{a x e:Addr}{o:HO}
theorem Un.any(u:Un fs ex H H1 h h1){b:Addr}{ob:Obj}(q:h.get? b=some ob)(n:H b=none)(hx:b∉ex):∃sl,h1.get? b=some {ob with slots:=sl}:=by
 by_cases hb:b∈fs
 ·exact u.slot b ob q n hb hx
 ·exact⟨ob.slots,u.keep b ob q n hb hx⟩
theorem Un.kept(k:∀b u,h.get? b=some u->h'.get? b=some u):Un fs ex H H h h':=
 ⟨λb ob q _ _ _=>k b ob q,λb ob q _ _ _=>⟨ob.slots,k b ob q⟩,λ_ _ _ n _=>n,λb ob q _=>⟨ob,k b ob q⟩,λ_ _ q=>q,λ_ _ _ q=>q,λ_ ps q=>⟨#[],by rw[q];simp⟩⟩
theorem Un.refl:Un fs ex H H h h:=Un.kept λ_ _ q=>q
theorem Un.laid(k:∀b u,h.get? b=some u->h'.get? b=some u)(hp:h.objs.size<=a)(hn:H a=none):Un fs ex H (upd H a o) h h' where
 keep:=λb u q _ _ _=>k b u q
 slot:=λb u q _ _ _=>⟨u.slots,k b u q⟩
 free:=λb u q n _=>by rw[bq (xA0 (xBc (xA1 q) hp))];exact n
 there:=λb u q _=>⟨u,k b u q⟩
 tups:=λb xs q=>by rw[bq (cn q hn)];exact q
 frzs:=λb u xs q=>by rw[bq (cn q hn)];exact q
 tbls:=λb ps q=>⟨#[],by rw[bq (cn q hn),q];simp⟩
theorem Un.write(mu:Mut (H x))(he:e=x\/H e=some (.own x))(k:∀b u,b≠e->h.get? b=some u->h'.get? b=some u)(heo:∃u,h'.get? e=some u):Un fs ex H (upd H x o) h h':=by
 have hx:∀b,H b=none->b≠x:=λb n z=>by subst z;rw[n] at mu;exact mu
 have hb:∀b,H b=none->b≠e:=λb n z=>by
  subst z;rcases he with r|r
  ·exact hx b n r
  ·rw[n] at r;cases r
 have hm:∀b u,H b=some u->¬ Mut (some u)->b≠x:=λb u q nm z=>by subst z;rw[q] at mu;exact nm mu
 refine⟨λb u q n _ _=>k b u (hb b n) q,λb u q n _ _=>⟨u.slots,k b u (hb b n) q⟩,λb u q n _=>by rw[bq (hx b n)];exact n,λb u q _=>?_,
  λb xs q=>by rw[bq (hm b _ q λz=>z)];exact q,λb u xs q=>by rw[bq (hm b _ q λz=>z)];exact q,λb ps q=>⟨#[],by rw[bq (hm b _ q λz=>z),q];simp⟩⟩
 by_cases hbe:b=e
 ·subst hbe;exact heo
 ·exact⟨u,k b u hbe q⟩
end
noncomputable def trk(h:Heap)(H:Hp):List Addr:=(List.range h.objs.size).filter λa=>(H a).isSome
noncomputable def hidT(h:Heap)(H:Hp):Heap:=W.hideAll h (trk h H)
theorem mq(h:Heap)(H:Hp):(hidT h H).objs.size=h.objs.size:=W.hideAll_size _ _
theorem pC{b:Addr}{o:Obj}(e:h.get? b=some o)(n:H b=none):(hidT h H).get? b=some o:=
 W.hideAll_get _ e λhm=>by
  have q:(H b).isSome=true:=(List.mem_filter.mp hm).2;rw[n] at q;simp at q
theorem rW{b:Addr}{o:Obj}(e:(hidT h H).get? b=some o):h.get? b=some o/\H b=none:=by
 have e':h.get? b=some o:=W.of_hideAll (trk h H) e;refine⟨e',?_⟩;cases q:H b with
 |none=>rfl
 |some x=>
  have hm:b∈trk h H:=List.mem_filter.mpr ⟨List.mem_range.mpr (xA1 e'),by simp[q]⟩;have z:(hidT h H).get? b=none:=W.hideAll_none (trk h H) hm;rw[z] at e;cases e
structure Mod(K:xFr)(mg:Str->Option Value)(base:Heap):Prop where
 kin:K.In base
 glob:base.Ns mainGlobals mg
 blt:∃mb,base.Ns builtinsNs mb/\∀x:Str,x≠"__name__"->mb x=bootBuiltins x
 nolimit:base.NoLimit
structure Cx where
 prog:Program
 w:World
 K:xFr
 mg:Str->Option Value
 base:Heap
 A:Around
 N:List Str
 s₀:Shared
 H₀:Hp
 env:Env
 outer:List Env
 stack:List Env
 ex:List Addr
 fn:Str->Bool
 calm:Bool
 pn:List (Addr×Obj)
 xe:Value->Shared->Prop
noncomputable def frs(l:List Env):List Addr:=l.filterMap (·.frame)
noncomputable abbrev Cx.fs(X:Cx):List Addr:=frs X.outer
def Vis(sc:Scope)(x:Str):Prop:=sc.names.lookup x=some .local\/sc.names.lookup x=some .cell\/sc.names.lookup x=some .free
def Loc(sc:Scope)(x:Str):Prop:=sc.names.lookup x=some .local\/sc.names.lookup x=some .cell
def Look(env:Env)(h:Heap)(m:Str->Option Value)(x:Str)(u:Value):Prop:=
 (env.kindOf x=some .local/\m x=some u)\/((env.kindOf x=some .cell\/env.kindOf x=some .free)/\∃c,env.cells.lookup x=some c/\h.IsCell c (some u))
structure Cx.Ok(X:Cx):Prop where
 mod:Mod X.K X.mg X.base
 kind:X.env.scope.kind=.function
 glob:X.env.globals=mainGlobals
 blt:X.env.builtins=builtinsNs
 above:X.s₀.heap.objs.size<=X.env.locals
 inj:∀x y c,X.env.cells.lookup x=some c->X.env.cells.lookup y=some c->x=y
 has:∀x,(X.env.kindOf x=some .cell\/X.env.kindOf x=some .free)->∃c,X.env.cells.lookup x=some c
 cab:∀x c,X.fn x=true->X.env.cells.lookup x=some c->X.s₀.heap.objs.size<=c
 hd:X.calm=true->X.A.handled=none
 frames:X.A.frames=some X.stack
 stk:X.stack=X.outer\/(X.stack=X.env::X.outer/\X.env.frame=some X.env.locals)
 exf:∀b∈X.ex,b≠X.env.locals/\∀x c,X.env.cells.lookup x=some c->c≠b
 bs:∀b o,X.base.get? b=some o->X.s₀.heap.get? b=some o/\X.H₀ b=none
 bsz:X.base.objs.size<=X.s₀.heap.objs.size
 noex:∀b o,X.base.get? b=some o->b∉X.ex
 exfs:∀b∈X.ex,b∉X.fs
 funs:X.s₀.heap.FunFrames X.base X.outer
 frf:∀b∈X.fs,X.H₀ b=none
structure Inv(X:Cx)(Z:List (Addr×Obj))(σ:List (Option V))(H:Hp)(s:Shared):Prop where
 ok:X.Ok
 os:s.os=X.s₀.os
 bare:AllBare s.gens
 base:Un X.fs X.ex X.H₀ H X.s₀.heap s.heap
 loc:∃m,s.heap.Ns X.env.locals m/\∀(i:Nat)(x:Str)(v:V),X.N[i]?=some x->σ[i]?=some (some v)->Vis X.env.scope x->∃u,RelV v u/\Look X.env s.heap m x u
 cell:∀x c,X.env.cells.lookup x=some c->∃v,s.heap.IsCell c v
 free:H X.env.locals=none
 freeC:∀x c,X.env.cells.lookup x=some c->H c=none
 pin:∀p∈X.pn++Z,s.heap.get? p.1=some p.2/\H p.1=none/\p.1≠X.env.locals/\p.1∉X.fs/\∀v,p.2.data≠.cell v
 hok:HOk X.prog X.w H s.heap
 len:σ.length=X.N.length
section
variable{X:Cx}{Z:List (Addr×Obj)}{σ:List (Option V)}{H H':Hp}{s:Shared}{h':Heap}
theorem Cx.Ok.nofr(ok:X.Ok){b:Addr}{o:Obj}(e:X.base.get? b=some o):b∉X.fs:=λhb=>by
 have:=(ok.funs.mem hb).1;rw[e] at this;cases this
theorem Inv.bs(I:Inv X Z σ H s):∀b o,X.base.get? b=some o->s.heap.get? b=some o/\H b=none:=λb o e=>
 ⟨I.base.keep b o (I.ok.bs b o e).1 (I.ok.bs b o e).2 (I.ok.nofr e) (I.ok.noex b o e),I.base.free b o (I.ok.bs b o e).1 (I.ok.bs b o e).2 (I.ok.noex b o e)⟩
theorem Inv.bk(I:Inv X Z σ H s):∀b o,X.base.get? b=some o->s.heap.get? b=some o:=λb o e=>(I.bs b o e).1
theorem Inv.mod(I:Inv X Z σ H s):Mod X.K X.mg X.base:=I.ok.mod
theorem Inv.kIn(I:Inv X Z σ H s):X.K.In s.heap:=I.ok.mod.kin.keeps I.bk
theorem Inv.lt(I:Inv X Z σ H s):X.env.locals<s.heap.objs.size:=let ⟨_,hn,_⟩:=I.loc;hn.lt
theorem Inv.sz(I:Inv X Z σ H s):X.s₀.heap.objs.size<=s.heap.objs.size:=xCk I.ok.above (Nat.le_of_lt I.lt)
theorem Inv.nofs(I:Inv X Z σ H s){a:Addr}(h:s.heap.objs.size<=a):a∉X.fs:=λhb=>by
 obtain⟨_,o,ho,_⟩:=I.ok.funs.mem hb;exact absurd (xBc (xA1 ho) (xCk I.sz h)) (Nat.lt_irrefl _)
theorem Inv.cne(I:Inv X Z σ H s):∀x c,X.env.cells.lookup x=some c->c≠X.env.locals:=λx c e z=>by
 obtain⟨v,o,ho,hd⟩:=I.cell x c e;obtain⟨m,⟨o',es,ep,ho',hd',_⟩,_⟩:=I.loc;rw[z,ho'] at ho;cases ho;rw[hd'] at hd;cases hd
theorem Inv.funs(I:Inv X Z σ H s):s.heap.FunFrames X.base X.outer:=by
 have all:∀(l:List Env),(∀b∈frs l,b∈X.fs)->X.s₀.heap.FunFrames X.base l->s.heap.FunFrames X.base l:=by
  intro l;induction l with
  |nil=>intro _ _;trivial
  |cons env r ih=>
   intro hs hl;obtain⟨hk,⟨L,o,hf,hn,ho,hd⟩,hr⟩:=hl;have hL:L∈X.fs:=hs L (by unfold frs;rw[List.filterMap_cons,hf];exact xAr);obtain⟨sl,e⟩:=I.base.slot L o ho (I.ok.frf L hL) hL λz=>I.ok.exfs L z hL;exact⟨hk,⟨L,_,hf,hn,e,hd⟩,ih (λb hb=>hs b (by unfold frs;rw[List.filterMap_cons,hf];exact xAs _ hb)) hr⟩
 exact all X.outer (λ_ hb=>hb) I.ok.funs
theorem Inv.stack(I:Inv X Z σ H s):s.heap.FunFrames X.base X.stack:=by
 rcases I.ok.stk with e|⟨e,hf⟩
 ·rw[e];exact I.funs
 ·rw[e];obtain⟨m,hn,_⟩:=I.loc;refine .cons (by rw[I.ok.kind];decide) hf hn ?_ I.funs;exact Heap.get?_none_of_le (xCk I.ok.bsz I.ok.above)
theorem Inv.stkSub(I:Inv X Z σ H s):∀b∈frs X.stack,b∈X.env.locals::X.fs:=λb hb=>by
 rcases I.ok.stk with e|⟨e,hf⟩
 ·rw[e] at hb;exact xAs _ hb
 ·rw[e] at hb;unfold frs at hb;rw[List.filterMap_cons,hf] at hb;exact hb
theorem Inv.stkFree(I:Inv X Z σ H s):∀b∈frs X.stack,H b=none:=λb hb=>by
 rcases xAv.mp (I.stkSub b hb) with e|hb
 ·rw[e];exact I.free
 ·obtain⟨_,o,ho,_⟩:=I.ok.funs.mem hb;exact I.base.free b o ho (I.ok.frf b hb) λz=>I.ok.exfs b z hb
theorem Inv.step(I:Inv X Z σ H s)(hch:∀b∈ch,(b∈X.ex\/X.s₀.heap.objs.size<=b)/\b≠X.env.locals/\(∀x c,X.env.cells.lookup x=some c->c≠b)/\∀p∈X.pn++Z,p.1≠b)(keep:∀b o,b≠X.env.locals->b∉X.fs->b∉ch->s.heap.get? b=some o->H b=none->h'.get? b=some o)(slot:∀b o,b≠X.env.locals->b∈X.fs->b∉ch->s.heap.get? b=some o->H b=none->∃sl,h'.get? b=some {o with slots:=sl})(free:∀b o,b∉ch->s.heap.get? b=some o->H b=none->H' b=none)(there:∀b o,b∉ch->s.heap.get? b=some o->∃o',h'.get? b=some o')(tups:∀b xs,H b=some (.tup xs)->H' b=some (.tup xs))(frzs:∀b o u,H b=some (.frz o u)->H' b=some (.frz o u))(tbls:∀b ps,H b=some (.tbl ps)->∃more,H' b=some (.tbl (ps++more)))(ns:∀m,s.heap.Ns X.env.locals m->h'.Ns X.env.locals m)(hok:HOk X.prog X.w H' h')(hg:AllBare g') :
  Inv X Z σ H' {s with heap:=h',gens:=g',drawn:=d',toks:=t'}:=by
 have neL:∀b o,X.s₀.heap.get? b=some o->b≠X.env.locals:=λb o e=>xA0 (xBc (xA1 e) I.ok.above);have neC:∀b o,X.s₀.heap.get? b=some o->b∉X.ex->b∉ch:=λb o e hx hb=>by
  rcases(hch b hb).1 with z|z
  ·exact hx z
  ·exact absurd (xBc (xA1 e) z) (Nat.lt_irrefl _)
 have cellK:∀x c,X.env.cells.lookup x=some c->∀v,s.heap.IsCell c v->h'.IsCell c v:=λx c e v ⟨o,ho,hd⟩=>by
  have nch:c∉ch:=λz=>(hch c z).2.2.1 x c e rfl;by_cases hc:c∈X.fs
  ·obtain⟨sl,q⟩:=slot c o (I.cne x c e) hc nch ho (I.freeC x c e);exact⟨_,q,hd⟩
  ·exact⟨o,keep c o (I.cne x c e) hc nch ho (I.freeC x c e),hd⟩
 refine⟨I.ok,I.os,hg,⟨λb o e n hb hx=>?_,λb o e n hb hx=>?_,λb o e n hx=>?_,λb o e hx=>?_,λb xs e=>tups b xs (I.base.tups b xs e),λb o xs e=>frzs b o xs (I.base.frzs b o xs e),λb ps e=>?_⟩,?_,λx c e=>?_,?_,λx c e=>?_,λp hp=>?_,hok,I.len⟩
 ·exact keep b o (neL b o e) hb (neC b o e hx) (I.base.keep b o e n hb hx) (I.base.free b o e n hx)
 ·obtain⟨sl,e1⟩:=I.base.slot b o e n hb hx;obtain⟨sl',e2⟩:=slot b _ (neL b o e) hb (neC b o e hx) e1 (I.base.free b o e n hx);exact⟨sl',e2⟩
 ·obtain⟨o',e1⟩:=I.base.there b o e hx;exact free b o' (neC b o e hx) e1 (I.base.free b o e n hx)
 ·obtain⟨o',e1⟩:=I.base.there b o e hx;exact there b o' (neC b o e hx) e1
 ·obtain⟨m1,e1⟩:=I.base.tbls b ps e;obtain⟨m2,e2⟩:=tbls b _ e1;exact⟨m1++m2,by rw[e2,Array.append_assoc]⟩
 ·obtain⟨m,hn,hl⟩:=I.loc;refine⟨m,ns m hn,λi x v e1 e2 e3=>?_⟩;obtain⟨u,r,l⟩:=hl i x v e1 e2 e3;refine⟨u,r,?_⟩;rcases l with l|⟨k,c,e,z⟩
  ·exact .inl l
  ·exact .inr ⟨k,c,e,cellK x c e _ z⟩
 ·obtain⟨v,z⟩:=I.cell x c e;exact⟨v,cellK x c e v z⟩
 ·obtain⟨m,⟨o,_,_,ho,_⟩,_⟩:=I.loc;exact free _ o (λz=>(hch _ z).2.1 rfl) ho I.free
 ·obtain⟨v,o,ho,hd⟩:=I.cell x c e;exact free c o (λz=>(hch c z).2.2.1 x c e rfl) ho (I.freeC x c e)
 ·obtain⟨e,n,ne,nf,d⟩:=I.pin p hp;have nch:p.1∉ch:=λz=>(hch p.1 z).2.2.2 p hp rfl;exact⟨keep p.1 p.2 ne nf nch e n,free p.1 p.2 nch e n,ne,nf,d⟩
theorem Inv.un(I:Inv X Z σ H s)(u:Un X.fs [] H H' s.heap h')(hok:HOk X.prog X.w H' h'):Inv X Z σ H' {s with heap:=h',toks:=t'}:=by
 obtain⟨m,⟨o,es,ep,ho,r⟩,_⟩:=id I.loc;obtain⟨sl,hL⟩:=u.any ho I.free (by simp);exact I.step (g':=s.gens) (d':=s.drawn) (ch:=[]) (λ_ z=>nomatch z) (λb o _ hb _ e n=>u.keep b o e n hb (by simp)) (λb o _ hb _ e n=>u.slot b o e n hb (by simp)) (λb o _ e n=>u.free b o e n (by simp)) (λb o _ e=>u.there b o e (by simp)) u.tups u.frzs u.tbls (λm' hm=>by
  obtain⟨o',es',ep',ho',r'⟩:=hm;rw[ho] at ho';cases ho';exact⟨_,es',ep',hL,r'⟩) hok I.bare
theorem Inv.call(I:Inv X Z σ H s)(u:Un (frs X.stack) ch H H' s.heap h')(hok:HOk X.prog X.w H' h')(hg:AllBare g')(hch:∀b∈ch,(b∈X.ex\/X.s₀.heap.objs.size<=b)/\b≠X.env.locals/\(∀x c,X.env.cells.lookup x=some c->c≠b)/\∀p∈X.pn++Z,p.1≠b) :
  Inv X Z σ H' {s with heap:=h',gens:=g',drawn:=d',toks:=t'}:=by
 obtain⟨m,⟨o,es,ep,ho,r⟩,_⟩:=id I.loc;obtain⟨sl,hL⟩:=u.any ho I.free λz=>(hch _ z).2.1 rfl;exact I.step (ch:=ch) hch (λb o hL hb hc e n=>u.keep b o e n (λz=>(xAv.mp (I.stkSub b z)).elim hL hb) hc) (λb o _ _ hc e n=>u.any e n hc) (λb o hc e n=>u.free b o e n hc) (λb o hc e=>u.there b o e hc) u.tups u.frzs u.tbls (λm' hm=>by
  obtain⟨o',es',ep',ho',r'⟩:=hm;rw[ho] at ho';cases ho';exact⟨_,es',ep',hL,r'⟩) hok hg
theorem Inv.turned(I:Inv X Z σ H s)(k:∀b o,b≠it->s.heap.get? b=some o->h'.get? b=some o)(hn:H it=none)(hL:it≠X.env.locals)(h1:it∈X.ex\/X.s₀.heap.objs.size<=it)(h2:∀x c,X.env.cells.lookup x=some c->c≠it)(h3:∀p∈X.pn++Z,p.1≠it):Inv X Z σ H {s with heap:=h',toks:=t'}:=by
 have nit:∀b u,H b=some u->b≠it:=λb u e z=>by rw[z,hn] at e;cases e
 refine I.step (g':=s.gens) (d':=s.drawn) (ch:=[it]) (λb hb=>?_) (λb o _ _ hc e _=>k b o (λz=>hc (by simp[z])) e) (λb o _ _ hc e _=>⟨o.slots,k b o (λz=>hc (by simp[z])) e⟩) (λ_ _ _ _ n=>n)
  (λb o hc e=>⟨o,k b o (λz=>hc (by simp[z])) e⟩) (λ_ _ e=>e) (λ_ _ _ e=>e) (λb ps e=>⟨#[],by rw[e];simp⟩) (λm hm=>?_) (λb u e=>?_) I.bare
 ·have e:b=it:=by simpa using hb
  subst e;exact⟨h1,hL,h2,h3⟩
 ·obtain⟨o,es,ep,ho,r⟩:=hm;exact⟨o,es,ep,k _ o (Ne.symm hL) ho,r⟩
 ·refine(I.hok b u e).stay (λc v hc q=>k c v ?_ q) (λ_ q=>q) λ_ _ q=>q;rcases hc with z|z
  ·rw[z];exact nit b u e
  ·exact nit c _ z
theorem Inv.tok(I:Inv X Z σ H s)(t:Nat):Inv X Z σ H {s with toks:=t}:=I.un (h':=s.heap) (t':=t) Un.refl I.hok
theorem Inv.kept{t':Nat}(I:Inv X Z σ H s)(k:∀b u,s.heap.get? b=some u->h'.get? b=some u):Inv X Z σ H {s with heap:=h',toks:=t'}:=I.un (Un.kept k) (I.hok.kept k)
theorem Inv.laid{a:Addr}{o:HO}{t':Nat}(I:Inv X Z σ H s)(k:∀b u,s.heap.get? b=some u->h'.get? b=some u)(hp:s.heap.objs.size<=a)(new:ObjOk X.prog X.w (upd H a o) h' a o) :
  Inv X Z σ (upd H a o) {s with heap:=h',toks:=t'}:=I.un (Un.laid k hp (I.hok.fresh hp)) (I.hok.laid k hp new)
theorem Inv.write{x e:Addr}{o:HO}{t':Nat}(I:Inv X Z σ H s)(mu:Mut (H x))(he:e=x\/H e=some (.own x))(k:∀b u,b≠e->s.heap.get? b=some u->h'.get? b=some u)(heo:∃u,h'.get? e=some u)(new:ObjOk X.prog X.w (upd H x o) h' x o):Inv X Z σ (upd H x o) {s with heap:=h',toks:=t'}:=I.un (Un.write mu he k heo) (I.hok.write mu he k heo new)
theorem Inv.pins_of{pins':List (Addr×Obj)}(I:Inv X Z σ H s)(h:∀p∈pins',s.heap.get? p.1=some p.2/\H p.1=none/\p.1≠X.env.locals/\p.1∉X.fs/\∀v,p.2.data≠.cell v):Inv X pins' σ H s:=
 ⟨I.ok,I.os,I.bare,I.base,I.loc,I.cell,I.free,I.freeC,λp hp=>(xAj.mp hp).elim (λz=>I.pin p (xBw _ z)) (h p),I.hok,I.len⟩
theorem iI(hN:N.Nodup){i:Nat}{x:Str}(a:N[i]?=some x)(b:N[j]?=some x):i=j:=by
 obtain⟨h1,e1⟩:=xAq.mp a;obtain⟨h2,e2⟩:=xAq.mp b;exact(List.getElem_inj hN).mp (e1.trans e2.symm)
theorem ga{E:Value->Shared->Prop}{i:Nat}{x:Str}{v:V}{u:Value}{Q:Unit->Shared->Prop}(I:Inv X Z σ H s)(hN:X.N.Nodup)(hi:X.N[i]?=some x)(hx:Loc X.env.scope x)(r:RelV v u)(h:∀s',Inv X Z (σ.set i (some v)) H s'->(∃a,Heap.SameBut a s.heap s'.heap/\(a=X.env.locals\/X.env.cells.lookup x=some a))->Q () s')(hf:X.fn x=true\/X.env.scope.names.lookup x=some .local:=by first|exact .inl rfl|exact .inr rfl|assumption):wpAny M A (storeName X.env x u) Q E s:=by
 obtain⟨m,hn,hl⟩:=id I.loc;have hcls:(X.env.scope.kind == .class||(X.env.scope.kind == .module&&X.env.locals != X.env.globals))=false:=by rw[I.ok.kind];rfl
 have hiσ:i<σ.length:=by rw[I.len];exact(xAq.mp hi).1
 have cne:=I.cne;have tracked:∀{a:Addr}{h':Heap},(∃o,s.heap.get? a=some o/\H a=none)->Heap.SameBut a s.heap h'->HOk X.prog X.w H h':=λ{a h'} ha hs b ob e=>by
  obtain⟨_,_,hfree⟩:=ha;refine(I.hok b ob e).stay (λc w' hc q=>(hs.2 c ?_).trans q) (λ_ q=>q) λ_ _ q=>q;rintro rfl
  rcases hc with rfl|hc
  ·rw[hfree] at e;cases e
  ·rw[hfree] at hc;cases hc
 rcases hx with hk|hk
 ·refine wpAny_storeName_local hk hn (λh' hn' hs=>?_) hcls;obtain⟨oL,_,_,hoL,_⟩:=id hn;refine h _ ⟨I.ok,I.os,I.bare,⟨λb o e n hb hx=>?_,λb o e n hb hx=>?_,I.base.free,λb o e hx=>?_,I.base.tups,I.base.frzs,I.base.tbls⟩,⟨_,hn',λj y v' e1 e2 e3=>?_⟩,λy c e=>?_,I.free,I.freeC,λp hp=>?_,tracked ⟨oL,hoL,I.free⟩ hs,by simpa using I.len⟩ ⟨_,hs,.inl rfl⟩
  ·exact(hs.2 b (xA0 (xBc (xA1 e) I.ok.above))).trans (I.base.keep b o e n hb hx)
  ·obtain⟨sl,e1⟩:=I.base.slot b o e n hb hx;exact⟨sl,(hs.2 b (xA0 (xBc (xA1 e) I.ok.above))).trans e1⟩
  ·obtain⟨o',e1⟩:=I.base.there b o e hx;exact⟨o',(hs.2 b (xA0 (xBc (xA1 e) I.ok.above))).trans e1⟩
  ·by_cases hj:j=i
   ·subst hj;rw[hi] at e1;cases e1;rw[List.getElem?_set_self hiσ] at e2;cases e2;exact⟨u,r,.inl ⟨hk,by simp⟩⟩
   ·rw[List.getElem?_set_ne (Ne.symm hj)] at e2;obtain⟨u',r',q⟩:=hl j y v' e1 e2 e3;refine⟨u',r',?_⟩;rcases q with ⟨k,e⟩|⟨k,c,e,z⟩
    ·refine .inl ⟨k,?_⟩;have:y≠x:=λe=>hj (iI hN e1 (e▸hi));simp[this,e]
    ·exact .inr ⟨k,c,e,z.sameBut hs (cne y c e)⟩
  ·obtain⟨w',z⟩:=I.cell y c e;exact⟨w',z.sameBut hs (cne y c e)⟩
  ·obtain⟨e,n,ne,nf,d⟩:=I.pin p hp;exact⟨(hs.2 p.1 ne).trans e,n,ne,nf,d⟩
 ·have hfn:X.fn x=true:=by
   rcases hf with z|z
   ·exact z
   ·rw[z] at hk;cases hk
  obtain⟨c,hc⟩:=I.ok.has x (.inl hk);obtain⟨w',z⟩:=I.cell x c hc;refine wpAny_storeName_cell I.ok.kind hk hc z (λh' hc' hs=>?_);obtain⟨oc,hoc,hocd⟩:=id z;refine h {s with heap:=h'} ⟨I.ok,I.os,I.bare,⟨λb o e n hb hx=>?_,λb o e n hb hx=>?_,I.base.free,λb o e hx=>?_,I.base.tups,I.base.frzs,I.base.tbls⟩,⟨m,hn.sameBut hs (Ne.symm (cne x c hc)),λj y v' e1 e2 e3=>?_⟩,λy c' e=>?_,I.free,I.freeC,λp hp=>?_,tracked ⟨oc,hoc,I.freeC x c hc⟩ hs,by simpa using I.len⟩ ⟨c,hs,.inr hc⟩
  ·exact(hs.2 b (xA0 (xBc (xA1 e) (I.ok.cab x c hfn hc)))).trans (I.base.keep b o e n hb hx)
  ·obtain⟨sl,e1⟩:=I.base.slot b o e n hb hx;exact⟨sl,(hs.2 b (xA0 (xBc (xA1 e) (I.ok.cab x c hfn hc)))).trans e1⟩
  ·obtain⟨o',e1⟩:=I.base.there b o e hx;exact⟨o',(hs.2 b (xA0 (xBc (xA1 e) (I.ok.cab x c hfn hc)))).trans e1⟩
  ·by_cases hj:j=i
   ·subst hj;rw[hi] at e1;cases e1;rw[List.getElem?_set_self hiσ] at e2;cases e2;exact⟨u,r,.inr ⟨.inl hk,c,hc,hc'⟩⟩
   ·rw[List.getElem?_set_ne (Ne.symm hj)] at e2;obtain⟨u',r',q⟩:=hl j y v' e1 e2 e3;refine⟨u',r',?_⟩;rcases q with q|⟨k,c',e,z'⟩
    ·exact .inl q
    ·refine .inr ⟨k,c',e,z'.sameBut hs ?_⟩;rintro rfl
     exact hj (iI hN e1 (I.ok.inj _ _ _ e hc▸hi))
  ·by_cases hcc:c'=c
   ·subst hcc;exact⟨_,hc'⟩
   ·obtain⟨w2,z2⟩:=I.cell y c' e;exact⟨w2,z2.sameBut hs hcc⟩
  ·obtain⟨e,n,ne,nf,d⟩:=I.pin p hp;refine⟨(hs.2 p.1 ?_).trans e,n,ne,nf,d⟩;intro q;rw[q,hoc] at e;have q':oc=p.2:=xB3 e;exact d w' (by rw[<- q'];exact hocd)
theorem dZ{E:Value->Shared->Prop}{i:Nat}{x:Str}{v:V}{u:Value}{Q:Unit->Shared->Prop}(I:Inv X Z σ H s)(hN:X.N.Nodup)(hi:X.N[i]?=some x)(hx:Loc X.env.scope x)(r:RelV v u)(h:∀s',Inv X Z (σ.set i (some v)) H s'->Q () s')(hf:X.fn x=true\/X.env.scope.names.lookup x=some .local:=by first|exact .inl rfl|exact .inr rfl|assumption):wpAny M A (storeName X.env x u) Q E s:=
 ga I hN hi hx r (λs' I' _=>h s' I') hf
theorem Inv.call'{s':Shared}(I:Inv X Z σ H s)(ho:s'.os=s.os)(u:Un (frs X.stack) ch H H' s.heap s'.heap)(hok:HOk X.prog X.w H' s'.heap)(hg:AllBare s'.gens)(hch:∀b∈ch,(b∈X.ex\/X.s₀.heap.objs.size<=b)/\b≠X.env.locals/\(∀x c,X.env.cells.lookup x=some c->c≠b)/\∀p∈X.pn++Z,p.1≠b):Inv X Z σ H' s':=by
 obtain⟨h',g',d',t',o'⟩:=s';have e:o'=s.os:=ho;subst e;exact I.call (g':=g') (t':=t') (d':=d') u hok hg hch
end
noncomputable abbrev XK:=Value->Option Addr->Hp->Prop
noncomputable abbrev St:=List (Option V)
noncomputable abbrev VK:=V->Hp->Prop
noncomputable abbrev TE:=St->Hp->VK->Prop
noncomputable abbrev TT:=St->Hp->(Bool->Hp->Prop)->Prop
noncomputable abbrev TA:=St->Hp->(List V->Hp->Prop)->Prop
structure Ends where
 nx:St->Hp->Prop
 rt:VK
 bk:St->Hp->Prop:=λ_ _=>False
 ct:St->Hp->Prop:=λ_ _=>False
noncomputable abbrev TS:=Ends->St->Hp->Prop
def EP(X:Cx)(Z:List (Addr×Obj))(σ:St)(Q:VK)(u:Value)(s':Shared):Prop:=∃v H',Inv X Z σ H' s'/\RelV v u/\Q v H'
def TP(X:Cx)(Z:List (Addr×Obj))(σ:St)(Q:Bool->Hp->Prop)(b:Bool)(s':Shared):Prop:=∃H',Inv X Z σ H' s'/\Q b H'
def AP(X:Cx)(Z:List (Addr×Obj))(σ:St)(Q:List V->Hp->Prop)(us:List Value)(s':Shared):Prop:=∃vs H',Inv X Z σ H' s'/\Vals vs us/\Q vs H'
def SP(X:Cx)(Z:List (Addr×Obj))(D:Ends)(f:Flow)(s':Shared):Prop:=
 match f with
 |.next=>∃σ' H',Inv X Z σ' H' s'/\D.nx σ' H'
 |.brk=>∃σ' H',Inv X Z σ' H' s'/\D.bk σ' H'
 |.cont=>∃σ' H',Inv X Z σ' H' s'/\D.ct σ' H'
 |.ret u=>∃v σ' H',Inv X Z σ' H' s'/\RelV v u/\D.rt v H'
def PE(X:Cx)(e:Expr)(t:TE):Prop:=
 ∀(Z:List (Addr×Obj))(s:Shared)(σ:St)(H:Hp)(Q:VK),Inv X Z σ H s->t σ H Q->wpAny (model X.prog X.w) X.A (eval e X.env) (EP X Z σ Q) X.xe s
def PT(X:Cx)(e:Expr)(t:TT):Prop:=
 ∀(Z:List (Addr×Obj))(s:Shared)(σ:St)(H:Hp)(Q:Bool->Hp->Prop),Inv X Z σ H s->t σ H Q->wpAny (model X.prog X.w) X.A (isTrue e X.env (eval e X.env)) (TP X Z σ Q) X.xe s
def PW(X:Cx)(e:Expr)(t:TT):Prop:=
 ∀(whole:Sem Value)(Z:List (Addr×Obj))(s:Shared)(σ:St)(H:Hp)(Q:Bool->Hp->Prop),Inv X Z σ H s->t σ H Q->wpAny (model X.prog X.w) X.A (isTrue e X.env whole) (TP X Z σ Q) X.xe s
theorem PW.pt{e:Expr}{t:TT}(h:PW X e t):PT X e t:=h _
def PA(X:Cx)(es:List Expr)(t:TA):Prop:=
 ∀(pos:Pos)(Z:List (Addr×Obj))(s:Shared)(σ:St)(H:Hp)(Q:List V->Hp->Prop),Inv X Z σ H s->t σ H Q->wpAny (model X.prog X.w) X.A (spliced (backTo pos (starEach es X.env))) (AP X Z σ Q) X.xe s
def PS(X:Cx)(st:Stmt)(t:TS):Prop:=
 ∀(Z:List (Addr×Obj))(s:Shared)(σ:St)(H:Hp)(D:Ends),Inv X Z σ H s->t D σ H->wpAny (model X.prog X.w) X.A (exec st X.env) (SP X Z D) X.xe s
def PSs(X:Cx)(st:List Stmt)(t:TS):Prop:=
 ∀(Z:List (Addr×Obj))(s:Shared)(σ:St)(H:Hp)(D:Ends),Inv X Z σ H s->t D σ H->wpAny (model X.prog X.w) X.A (execs st X.env) (SP X Z D) X.xe s
theorem thn{α:Type}{t:Sem α}{Q Q':α->Shared->Prop}{E:Value->Shared->Prop}{s:Shared}(h:wpAny M A t Q E s)(hQ:∀a s,Q a s->Q' a s):wpAny M A t Q' E s:=wpAny_mono h hQ λ_ _ x=>x
section
variable{X:Cx}
def tVar(i:Nat):TE:=λσ H Q=>∃v,σ[i]?=some (some v)/\Q v H
def tC(v:V):TE:=λ_ H Q=>Q v H
theorem uZ{i:Nat}{x:Str}(hN:X.N[i]?=some x)(hv:Vis X.env.scope x)(hd:(x==("__debug__":Str))=false:=by decide)(hcd:(x==("__classdict__":Str))=false:=by decide):PE X (.Name x pos) (tVar i):=by
 intro Z s σ H Q I h;obtain⟨v,e,h⟩:=h;obtain⟨m,hn,hl⟩:=I.loc;obtain⟨u,r,l⟩:=hl i x v hN e hv;have fin:EP X Z σ Q u s:=⟨v,H,I,r,h⟩
 rcases l with ⟨hk,hm⟩|⟨hk,c,hc,hcell⟩
 ·exact wpAny_Name (wpAny_loadName_local I.ok.kind hk hn hm fin) hd
 ·rcases hk with hk|hk
  ·exact wpAny_Name (wpAny_loadName_cell I.ok.kind hk hc hcell fin) hd
  ·exact wpAny_Name (wpAny_loadName_free I.ok.kind hk hc hcell fin hcd) hd
theorem vc{i j pos}:PE X (.Constant (.int i) j pos) (tC (.int i)):=λ_ _ _ H _ I h=>wpAny_Constant_int ⟨.int i,H,I.tok _,⟨_,rfl⟩,h⟩
theorem xt{b j pos}:PE X (.Constant (.bool b) j pos) (tC (.bl b)):=λ_ _ _ H _ I h=>Constant_bool ⟨.bl b,H,I,rfl,h⟩
theorem ju{j pos}:PE X (.Constant .none j pos) (tC .non):=λ_ _ _ H _ I h=>Constant_none ⟨.non,H,I,rfl,h⟩
theorem oy{x j pos}:PE X (.Constant (.str x) j pos) (tC (.str x)):=λ_ _ _ H _ I h=>Calls.Constant_str ⟨.str x,H,I.tok _,⟨_,rfl⟩,h⟩
def Gl(X:Cx)(x:Str):Prop:=X.env.kindOf x=some .globalImplicit
theorem er{E:Value->Shared->Prop}{s:Shared}{σ:St}{x:Str}{u:Value}(I:Inv X Z σ H s)(hg:Gl X x)(hm:X.mg x=some u)(h:Q u s)(hd:(x==("__debug__":Str))=false:=by decide):wpAny (model X.prog X.w) X.A (eval (.Name x pos) X.env) Q E s:=
 Calls.Name_function_global I.ok.kind hg (Calls.loadGlobal_global (by rw[I.ok.glob];exact I.mod.glob.keeps I.bk) hm h) hd
theorem eN{E:Value->Shared->Prop}{s:Shared}{σ:St}{x:Str}{u:Value}(I:Inv X Z σ H s)(hg:Gl X x)(hm:X.mg x=none)(hv:bootBuiltins x=some u)(h:Q u s)(hn:x≠"__name__":=by decide)(hd:(x==("__debug__":Str))=false:=by decide):wpAny (model X.prog X.w) X.A (eval (.Name x pos) X.env) Q E s:=by
 obtain⟨mb,h1,h2⟩:=I.mod.blt;exact Calls.Name_function_global I.ok.kind hg (Calls.loadGlobal_builtin (by rw[I.ok.glob];exact I.mod.glob.keeps I.bk) hm (by rw[I.ok.blt];exact h1.keeps I.bk) ((h2 x hn).trans hv) h) hd
theorem gK{x:Str}{v:V}{u:Value}(hg:Gl X x)(hm:X.mg x=some u)(r:RelV v u)(hd:(x==("__debug__":Str))=false:=by decide):PE X (.Name x pos) (tC v):=
 λ_ _ _ H _ I h=>er I hg hm ⟨v,H,I,r,h⟩ hd
theorem rD{x:Str}{v:V}{u:Value}(hg:Gl X x)(hm:X.mg x=none)(hv:bootBuiltins x=some u)(r:RelV v u)(hn:x≠"__name__":=by decide)(hd:(x==("__debug__":Str))=false:=by decide):PE X (.Name x pos) (tC v):=
 λ_ _ _ H _ I h=>eN I hg hm hv ⟨v,H,I,r,h⟩ hn hd
variable{a b:Expr}{ta tb:TE}{pos:Pos}
def tB(t:TE):TT:=λσ H Q=>t σ H λx H1=>∃c,x=.bl c/\Q c H1
theorem uJ{e:Expr}{t:TE}(h:PE X e t)(he:∀whole,isTrue e X.env whole=(do let v <- whole;standAt e.pos;holding [v] (truthy v)):=by intro _;rfl):PT X e (tB t):=by
 intro Z s σ H Q I hw;refine isTrue_plain (thn (h Z s σ H _ I hw) λv s1 ⟨x,H1,I1,r1,q1⟩=>?_) (he _);obtain⟨d,rfl,q⟩:=q1;cases r1;exact wpAny_truthy_bool ⟨H1,I1,q⟩
variable{tA tB':TT}{rest:List Expr}
def tAnd(t u:TT):TT:=λσ H Q=>t σ H λc H1=>if c=true then u σ H1 Q else Q false H1
def tOr(t u:TT):TT:=λσ H Q=>t σ H λc H1=>if c=true then Q true H1 else u σ H1 Q
def tNot(t:TT):TT:=λσ H Q=>t σ H λc H1=>Q (!c) H1
theorem qJ(ha:PT X a tA):PW X (.BoolOp .And [a] pos) tA:=by
 intro wh Z s σ H Q I h;refine isTrue_and (thn (ha Z s σ H Q I h) λc s1 e=>?_);cases c with
 |true=>exact isTrue_and_nil e
 |false=>exact e
theorem uH(ha:PT X a tA):PW X (.BoolOp .Or [a] pos) tA:=by
 intro wh Z s σ H Q I h;refine isTrue_or (thn (ha Z s σ H Q I h) λc s1 e=>?_);cases c with
 |false=>exact isTrue_or_nil e
 |true=>exact e
theorem uI(ha:PT X a tA)(hb:PW X (.BoolOp .And (b::rest) pos) tB'):PW X (.BoolOp .And (a::b::rest) pos) (tAnd tA tB'):=by
 intro wh Z s σ H Q I h;refine isTrue_and (thn (ha Z s σ H _ I h) λc s1 ⟨H1,I1,q1⟩=>?_);cases c with
 |true=>exact hb wh Z s1 σ H1 Q I1 q1
 |false=>exact⟨H1,I1,q1⟩
theorem xg(ha:PT X a tA)(hb:PW X (.BoolOp .Or (b::rest) pos) tB'):PW X (.BoolOp .Or (a::b::rest) pos) (tOr tA tB'):=by
 intro wh Z s σ H Q I h;refine isTrue_or (thn (ha Z s σ H _ I h) λc s1 ⟨H1,I1,q1⟩=>?_);cases c with
 |true=>exact⟨H1,I1,q1⟩
 |false=>exact hb wh Z s1 σ H1 Q I1 q1
theorem uK(ha:PT X a tA):PT X (.UnaryOp .Not a pos) (tNot tA):=by
 intro Z s σ H Q I h;exact isTrue_not (ha Z s σ H (λc H1=>Q (!c) H1) I h)
def tAndV(ta tb:TE):TE:=λσ H Q=>ta σ H λx H1=>∃c,x=.bl c/\if c=true then tb σ H1 Q else Q (.bl false) H1
def tOrV(ta tb:TE):TE:=λσ H Q=>ta σ H λx H1=>∃c,x=.bl c/\if c=true then Q (.bl true) H1 else tb σ H1 Q
def tNotV(ta:TE):TE:=λσ H Q=>ta σ H λx H1=>∃c,x=.bl c/\Q (.bl (!c)) H1
theorem u6{op}{t:TE}(h:PE X a t):PE X (.BoolOp op [a] pos) t:=λZ s σ H Q I hw=>BoolOp_one (h Z s σ H Q I hw)
theorem ve(ha:PE X a ta)(hb:PE X (.BoolOp .And (b::rest) pos) tb):PE X (.BoolOp .And (a::b::rest) pos) (tAndV ta tb):=by
 intro Z s σ H Q I h;refine BoolOp_and (thn (ha Z s σ H _ I h) λv s1 zz=>?_);obtain⟨x,H1,I1,r1,q1⟩:=zz;obtain⟨c,rfl,q1⟩:=q1;cases r1;refine wpAny_truthy_bool ?_;cases c with
 |true=>exact hb Z s1 σ H1 Q I1 q1
 |false=>exact⟨.bl false,H1,I1,rfl,q1⟩
theorem xo(ha:PE X a ta)(hb:PE X (.BoolOp .Or (b::rest) pos) tb):PE X (.BoolOp .Or (a::b::rest) pos) (tOrV ta tb):=by
 intro Z s σ H Q I h;refine BoolOp_or (thn (ha Z s σ H _ I h) λv s1 zz=>?_);obtain⟨x,H1,I1,r1,q1⟩:=zz;obtain⟨c,rfl,q1⟩:=q1;cases r1;refine wpAny_truthy_bool ?_;cases c with
 |false=>exact hb Z s1 σ H1 Q I1 q1
 |true=>exact⟨.bl true,H1,I1,rfl,q1⟩
theorem u7(ha:PE X a ta):PE X (.UnaryOp .Not a pos) (tNotV ta):=by
 intro Z s σ H Q I h;refine UnaryOp_ (thn (ha Z s σ H _ I h) λv s1 zz=>?_);obtain⟨x,H1,I1,r1,q1⟩:=zz;obtain⟨c,rfl,q1⟩:=q1;cases r1;exact not_of (wpAny_truthy_bool ⟨.bl (!c),H1,I1,rfl,q1⟩)
def tIf(t:TT)(ta tb:TE):TE:=λσ H Q=>t σ H λc H1=>if c=true then ta σ H1 Q else tb σ H1 Q
theorem oB{c:Expr}(hc:PT X c tA)(ha:PE X a ta)(hb:PE X b tb):PE X (.IfExp c a b pos) (tIf tA ta tb):=by
 intro Z s σ H Q I h;refine wpAny_IfExp (thn (hc Z s σ H _ I h) λd s1 ⟨H1,I1,q1⟩=>?_);cases d with
 |true=>exact ha Z s1 σ H1 Q I1 q1
 |false=>exact hb Z s1 σ H1 Q I1 q1
end
def SqL(K:xFr)(H:Hp)(a:Addr)(xs:List V):Prop:=
 Rd H a (.lst xs) \/
  ∃(o:Obj) (its:Array Value) (n:Nat),K.lookup a=some o/\o.cls=.type "list"/\o.dict=none/\o.data=.seq its n/\its.size<=sizeLine/\Vals xs its.toList
def SqT(K:xFr)(H:Hp)(a:Addr)(xs:List V):Prop:=
 Rd H a (.tup xs) \/
  ∃(o:Obj) (its:Array Value) (n:Nat),K.lookup a=some o/\o.cls=.type "tuple"/\o.data=.seq its n/\its.size<=sizeLine/\Vals xs its.toList
noncomputable def absV:Value->Option V
 |.none=>some .non
 |.bool b=>some (.bl b)
 |.int i _=>some (.int i)
 |.str x _=>some (.str x)
 |.bytes b _=>some (.byt b)
 |.float b _=>some (.flt b)
 |.ref a=>some (.ref a)
 |.type n=>some (.ty n)
 |_=>none
theorem RelV.abs{x:V}{u:Value}(r:RelV x u):absV u=some x:=by
 cases x with
 |non=>cases r;rfl
 |bl _=>cases r;rfl
 |int _=>obtain⟨t,rfl⟩:=r;rfl
 |str _=>obtain⟨t,rfl⟩:=r;rfl
 |byt _=>obtain⟨t,rfl⟩:=r;rfl
 |flt _=>obtain⟨t,rfl⟩:=r;rfl
 |ref _=>cases r;rfl
 |ty _=>cases r;rfl
theorem RelV.inj{x:V}{u:Value}(r:RelV x u)(q:RelV y u):x=y:=xB3 (r.abs.symm.trans q.abs)
theorem Vals.inj:∀{xs ys:List V}{us:List Value},Vals xs us->Vals ys us->xs=ys
 |_,_,_,.nil,.nil=>rfl
 |_,_,_,.cons r t,.cons r' t'=>by rw[r.inj r',Vals.inj t t']
section
variable{X:Cx}{Z:List (Addr×Obj)}{σ:St}{H:Hp}{s:Shared}{a:Addr}{xs ys:List V}
theorem SqL.of(h:H a=some (.lst xs)):SqL K H a xs:=.inl (.inl h)
theorem SqT.of(h:H a=some (.tup xs)):SqT K H a xs:=.inl (.inl h)
theorem Inv.list(I:Inv X Z σ H s)(h:SqL X.K H a xs):∃its:List Value,Vals xs its/\PlainL s.heap a its.toArray/\xs.length<=sizeLine:=by
 rcases h with h|⟨o,its,n,hk,hc,hd,hs,hz,r⟩
 ·obtain⟨z,its,n,r,e⟩:=h.ok I.hok;exact⟨its,r,⟨_,n,e,rfl,rfl,rfl⟩,z⟩
 ·refine⟨its.toList,r,⟨o,n,I.kIn a o hk,hc,hd,by simpa using hs⟩,?_⟩;have e:=r.length;simp only[xAh] at e;lia
theorem Inv.tuple(I:Inv X Z σ H s)(h:SqT X.K H a xs):∃its:List Value,Vals xs its/\IsTup s.heap a its.toArray/\xs.length<=sizeLine:=by
 rcases h with h|⟨o,its,n,hk,hc,hs,hz,r⟩
 ·obtain⟨z,its,r,p⟩:=h.ok I.hok;exact⟨its,r,p,z⟩
 ·refine⟨its.toList,r,⟨o,I.kIn a o hk,hc,n,by simpa using hs⟩,?_⟩;have e:=r.length;simp only[xAh] at e;lia
theorem Inv.list_inj(I:Inv X Z σ H s)(h:SqL X.K H a xs)(h':SqL X.K H a ys):xs=ys:=by
 obtain⟨its,r,⟨o,n,e,_,_,d⟩,_⟩:=I.list h;obtain⟨its',r',⟨o',n',e',_,_,d'⟩,_⟩:=I.list h';rw[e] at e';cases e';rw[d] at d';injection d' with d1 _;have:its=its':=by simpa using congrArg Array.toList d1
 subst this;exact r.inj r'
theorem Inv.tuple_inj(I:Inv X Z σ H s)(h:SqT X.K H a xs)(h':SqT X.K H a ys):xs=ys:=by
 obtain⟨its,r,⟨o,e,_,n,d⟩,_⟩:=I.tuple h;obtain⟨its',r',⟨o',e',_,n',d'⟩,_⟩:=I.tuple h';rw[e] at e';cases e';rw[d] at d';injection d' with d1 _;have:its=its':=by simpa using congrArg Array.toList d1
 subst this;exact r.inj r'
end
noncomputable abbrev Cx.wish(X:Cx)(E:Value->Shared->Prop):Cx:={X with xe:=E}
theorem Cx.Ok.wish{X:Cx}(ok:X.Ok)(E:Value->Shared->Prop):(X.wish E).Ok:=
 ⟨ok.mod,ok.kind,ok.glob,ok.blt,ok.above,ok.inj,ok.has,ok.cab,ok.hd,ok.frames,ok.stk,ok.exf,ok.bs,ok.bsz,ok.noex,ok.exfs,ok.funs,ok.frf⟩
theorem Cx.Ok.unwish{E:Value->Shared->Prop}(ok:(X.wish E).Ok):X.Ok:=
 ⟨ok.mod,ok.kind,ok.glob,ok.blt,ok.above,ok.inj,ok.has,ok.cab,ok.hd,ok.frames,ok.stk,ok.exf,ok.bs,ok.bsz,ok.noex,ok.exfs,ok.funs,ok.frf⟩
section
variable{X:Cx}{Z:List (Addr×Obj)}{σ:St}{H:Hp}{s:Shared}{E:Value->Shared->Prop}
theorem Inv.wish(I:Inv X Z σ H s)(E:Value->Shared->Prop):Inv (X.wish E) Z σ H s:=⟨I.ok.wish E,I.os,I.bare,I.base,I.loc,I.cell,I.free,I.freeC,I.pin,I.hok,I.len⟩
theorem Inv.unwish(I:Inv (X.wish E) Z σ H s):Inv X Z σ H s:=⟨I.ok.unwish,I.os,I.bare,I.base,I.loc,I.cell,I.free,I.freeC,I.pin,I.hok,I.len⟩
end
section
variable{X:Cx}{st:Stmt}{rest:List Stmt}{t u:TS}{e:Expr}{te:TE}{pos:Pos}
def tNext:TS:=λD σ H=>D.nx σ H
def tSeq(t u:TS):TS:=λD σ H=>t {D with nx:=u D} σ H
theorem qN:PSs X [] tNext:=λ_ _ σ H _ I h=>wpAny_execs_nil ⟨σ,H,I,h⟩
theorem nR(h1:PS X st t)(h2:PSs X rest u):PSs X (st::rest) (tSeq t u):=by
 intro Z s σ H D I h;refine wpAny_execs_cons (thn (h1 Z s σ H {D with nx:=u D} I h) λf s1 q=>?_);cases f with
 |next=>
  obtain⟨σ',H',I',q⟩:=q;exact h2 Z s1 σ' H' D I' q
 |ret v=>exact q
 |brk=>exact q
 |cont=>exact q
theorem qO:PS X (.Pass pos) tNext:=λ_ _ σ H _ I h=>wpAny_Pass ⟨σ,H,I,h⟩
theorem Inv.quiet{σ:St}{s:Shared}(I:Inv X Z σ H s):interactive X.env=false:=by simp[interactive,I.ok.kind]
def tDrop(te:TE):TS:=λD σ H=>te σ H λ_ H1=>D.nx σ H1
theorem qQ(he:PE X e te)(hs:swapsWith e none pos.line X.env=pure false:=by rfl):PS X (.Expr e pos) (tDrop te):=by
 intro Z s σ H D I h;exact wpAny_Expr_any (thn (he Z s σ H _ I h) λv s1 ⟨x,H1,I1,r1,q1⟩=>⟨σ,H1,I1,q1⟩) I.quiet hs
def tRet(te:TE):TS:=λD σ H=>te σ H D.rt
theorem uM(he:PE X e te):PS X (.Return (some e) pos) (tRet te):=by
 intro Z s σ H D I h;exact wpAny_Return_some (thn (he Z s σ H _ I h) λv s1 ⟨x,H1,I1,r1,q1⟩=>⟨x,σ,H1,I1,r1,q1⟩)
def tIfS(c:TT)(t u:TS):TS:=λD σ H=>c σ H λb H1=>if b=true then t D σ H1 else u D σ H1
theorem xh{c:Expr}{a b:List Stmt}{tc:TT}(hc:PT X c tc)(ha:PSs X a t)(hb:PSs X b u):PS X (.If c a b pos) (tIfS tc t u):=by
 intro Z s σ H D I h;refine wpAny_If (thn (hc Z s σ H _ I h) λd s1 ⟨H1,I1,q1⟩=>?_);cases d with
 |true=>exact ha Z s1 σ H1 D I1 q1
 |false=>exact hb Z s1 σ H1 D I1 q1
end
noncomputable abbrev TG:=V->St->Hp->(St->Hp->Prop)->Prop
noncomputable abbrev TGs:=List V->St->Hp->(St->Hp->Prop)->Prop
def PG(X:Cx)(target:Expr)(t:TG):Prop:=
 ∀(Z:List (Addr×Obj))(s:Shared)(σ:St)(H:Hp)(v:V)(u:Value)(Q:St->Hp->Prop),Inv X Z σ H s->RelV v u->t v σ H Q ->
  wpAny (model X.prog X.w) X.A (assign target X.env u) (λ_ s'=>∃σ' H',Inv X Z σ' H' s'/\Q σ' H') X.xe s
def PGs(X:Cx)(ts:List Expr)(t:TGs):Prop:=
 ∀(Z:List (Addr×Obj))(s:Shared)(σ:St)(H:Hp)(vs:List V)(us:List Value)(Q:St->Hp->Prop),Inv X Z σ H s->Vals vs us->t vs σ H Q ->
  wpAny (model X.prog X.w) X.A (assignInOrder ((assignEach ts X.env).map (·.2)) us) (λ_ s'=>∃σ' H',Inv X Z σ' H' s'/\Q σ' H') X.xe s
noncomputable abbrev TSet:=V->V->V->Hp->(Hp->Prop)->Prop
def PSet(X:Cx)(t:TSet):Prop:=
 ∀(Z:List (Addr×Obj))(s:Shared)(σ:St)(H:Hp)(o i v:V)(ov iv u:Value)(Q:Hp->Prop),Inv X Z σ H s->RelV o ov->RelV i iv->RelV v u->t o i v H Q ->
  wpAny (model X.prog X.w) X.A (setItem ov iv u) (λ_ s'=>∃H',Inv X Z σ H' s'/\Q H') X.xe s
section
variable{X:Cx}{pos:Pos}
def gName(i:Nat):TG:=λv σ H Q=>Q (σ.set i (some v)) H
theorem kj{i:Nat}{x:Str}(hN:X.N.Nodup)(hi:X.N[i]?=some x)(hx:Loc X.env.scope x)(hf:X.fn x=true\/X.env.scope.names.lookup x=some .local:=by first|exact .inl rfl|exact .inr rfl|assumption):PG X (.Name x pos) (gName i):=by
 intro Z s σ H v u Q I r h;exact wpAny_assign_Name (dZ I hN hi hx r (λs' I'=>⟨_,H,I',h⟩) hf)
def gNil:TGs:=λvs σ H Q=>vs=[]/\Q σ H
def gCons(t:TG)(u:TGs):TGs:=λvs σ H Q=>∃v r,vs=v::r/\t v σ H λσ' H'=>u r σ' H' Q
theorem rq:PGs X [] gNil:=by
 intro Z s σ H vs us Q I r h;obtain⟨e,h⟩:=h;subst e;cases r;exact assignInOrder_nil ⟨σ,H,I,h⟩
theorem ow{e:Expr}{t:TG}{u:TGs}(h1:PG X e t)(h2:PGs X es u)(hs:(assignEach (e::es) X.env).map (·.2)=assign e X.env::(assignEach es X.env).map (·.2):=by rfl):PGs X (e::es) (gCons t u):=by
 intro Z s σ H vs us Q I r h;obtain⟨v,vr,e1,h⟩:=h;subst e1;cases r with
 |cons r rr=>
  rw[hs];refine assignInOrder_cons (thn (h1 Z s σ H _ _ _ I r h) λ_ s1 zz=>?_);obtain⟨σ1,H1,I1,q1⟩:=zz;exact h2 Z s1 σ1 H1 _ _ Q I1 rr q1
def gTup(K:xFr)(n:Nat)(t:TGs):TG:=λv σ H Q=>∃a xs,v=.ref a/\SqT K H a xs/\xs.length=n/\t xs σ H Q
theorem ox{t:TGs}{n:Nat}(hc:X.calm=true)(h:PGs X es t)(hn:(assignEach es X.env).length=n:=by rfl)(hst:(assignEach es X.env).findIdx? (·.1)=none:=by rfl):PG X (.Tuple es k pos) (gTup X.K n t):=by
 intro Z s σ H v u Q I r hw;obtain⟨a,xs,e1,hq,hl,hw⟩:=hw;subst e1;cases r;obtain⟨its,rv,ht,hz⟩:=I.tuple hq;refine assign_Tuple_tuple (I.ok.hd hc) ht (by simp[hn,<- hl,rv.length]) hst λh' hx=>?_;have I1:Inv X Z σ H {s with heap:=h'}:=I.kept (t':=s.toks) λb o e=>hx b o (xA0 (xA1 e)) e;exact h Z _ σ H xs _ Q I1 (by simpa using rv) hw
def gSub(to ti:TE)(t:TSet):TG:=λv σ H Q=>to σ H λo H1=>ti σ H1 λi H2=>t o i v H2 λH3=>Q σ H3
theorem uX{o i:Expr}{to ti:TE}{t:TSet}(ho:PE X o to)(hi:PE X i ti)(hs:PSet X t)(ha:∀v,assign (.Subscript o i pos) X.env v=(do
   let ov <- holding [v] (eval o X.env)
   let iv <- holding [v,ov] (eval i X.env)
   standAt pos
   holding [v,ov,iv] (setItem ov iv v)
   release [v,ov,iv] []):=by intro _;rfl):PG X (.Subscript o i pos) (gSub to ti t):=by
 intro Z s σ H v u Q I r h;rw[ha];refine xAd (xDc (thn (ho Z s σ H _ I h) λov s1 zz=>?_));obtain⟨x,H1,I1,r1,q1⟩:=zz;refine xAd (xDc (thn (hi Z s1 σ H1 _ I1 q1) λiv s2 zz=>?_));obtain⟨y,H2,I2,r2,q2⟩:=zz;refine xAd (wpAny_standAt (xAd (xDc (thn (hs Z s2 σ H2 x y v ov iv u _ I2 r1 r2 r q2) λ_ s3 ⟨H3,I3,q3⟩=>?_))));exact wpAny_release ⟨σ,H3,I3,q3⟩
def tAsg(te:TE)(g:TG):TS:=λD σ H=>te σ H λx H1=>g x σ H1 D.nx
theorem nT{e:Expr}{g:TG}(he:PE X e te)(hg:PG X tg g)(hs:swapsWithSole [tg] e pos.line X.env=pure false:=by rfl)(hw:swappedStores [tg] e X.env=pure none:=by rfl)(h1:(assignEach [tg] X.env).map (·.2)=[assign tg X.env]:=by rfl):PS X (.Assign [tg] e pos) (tAsg te g):=by
 intro Z s σ H D I h;refine wpAny_Assign_stores (thn (he Z s σ H _ I h) λv s1 ⟨x,H1,I1,r1,q1⟩=>?_) hs hw;rw[h1];exact thn (hg Z s1 σ H1 x v _ I1 r1 q1) λ_ s2 q=>q
theorem uL{i:Nat}{x:Str}{e:Expr}{pos':Pos}(hN:X.N.Nodup)(hi:X.N[i]?=some x)(hx:Loc X.env.scope x)(he:PE X e te)(hs:swapsWith e (some (.Name x pos')) pos.line X.env=pure false:=by rfl)(hf:X.fn x=true\/X.env.scope.names.lookup x=some .local:=by first|exact .inl rfl|exact .inr rfl|assumption) :
  PS X (.Assign [.Name x pos'] e pos) (tAsg te (gName i)):=by
 intro Z s σ H D I h;refine wpAny_Assign_Name (thn (he Z s σ H _ I h) λv s1 ⟨y,H1,I1,r1,q1⟩=>?_) hs;exact dZ I1 hN hi hx r1 (λs2 I2=>⟨_,H1,I2,q1⟩) hf
def tPar(i j:Nat)(ta:TA):TS:=λD σ H=>ta σ H λvs H1=>∃v w,vs=[v,w]/\D.nx ((σ.set i (some v)).set j (some w)) H1
theorem uN{i:Nat}{x y:Str}{a b:Expr}{ta:TA}{px py pt:Pos}{kt k2 pt2}(hc:X.calm=true)(hN:X.N.Nodup)(hi:X.N[i]?=some x)(hj:X.N[j]?=some y)(hij:i≠j)(hx:X.env.scope.names.lookup x=some .local)(hy:X.env.scope.names.lookup y=some .local)(ha:PA X [a,b] ta)(hw:swappedStores [.Tuple [.Name x px,.Name y py] kt pt] (.Tuple [a,b] k2 pt2) X.env=pure (some [x,y]))(hs:swapsWithSole [.Tuple [.Name x px,.Name y py] kt pt] (.Tuple [a,b] k2 pt2) pos.line X.env=pure false:=by rfl) :
  PS X (.Assign [.Tuple [.Name x px,.Name y py] kt pt] (.Tuple [a,b] k2 pt2) pos) (tPar i j ta):=by
 intro Z s σ H D I h;rw[exec_Assign_arm];refine xAd (wpAny_standAt ?_);rw[hs];refine xAd (xAe ?_);rw[xCf (by decide)];refine xAd (Tuple_ (thn (ha _ Z s σ H _ I h) λus s1 zz=>?_));obtain⟨vs,H1,I1,r1,q1⟩:=zz;obtain⟨v,w,e1,q1⟩:=q1;subst e1;obtain⟨u1,u2,rfl,rv,rw'⟩:∃u1 u2,us=[u1,u2]/\RelV v u1/\RelV w u2:=by
  cases r1 with
  |cons p q=>
   cases q with
   |cons p' q'=>
    cases q';exact⟨_,_,rfl,p,p'⟩
 refine xBl ?_ (by show 2<=sizeLine;decide);have I2:Inv X Z σ H1 {s1 with heap:=s1.heap.push {cls:=.type "tuple",data:=.seq [u1,u2].toArray} }:=I1.kept (t':=s1.toks) λb o e=>xAf _ e;rw[hw];refine xAd (xAe ?_);show wpAny (model X.prog X.w) X.A (do rule "assign.swapped-stores";let items <- unpackItems (.ref s1.heap.objs.size) 2 none;assignInOrder [λv=>bindName X.env y v,λv=>bindName X.env x v] items.reverse;pure Flow.next) _ _ _;refine xAd (wpAny_rule (xAd (unpackItems_tuple (items:=#[u1,u2]) (I.ok.hd hc) (IsTup.new s1.heap _) λh' hx'=>?_)));have I3:=I2.kept (h':=h') (t':=s1.toks) λb o e=>hx' b o (xA0 (xA1 e)) e;show wpAny _ _ (assignInOrder [λv=>bindName X.env y v,λv=>bindName X.env x v] [u2,u1]>>=λ_=>pure Flow.next) _ _ _;refine xAd (assignInOrder_cons (wpAny_bindName (dZ I3 hN hj (.inl hy) rw' (λs2 I4=>?_) (.inr hy))));refine assignInOrder_cons (wpAny_bindName (dZ I4 hN hi (.inl hx) rv (λs3 I5=>assignInOrder_nil (xAe ?_)) (.inr hx)));rw[List.set_comm _ _ (Ne.symm hij)] at I5;exact⟨_,H1,I5,q1⟩
end
structure It where
 go:Nat->Hp->Prop
 yld:Nat->Hp->V->Hp->Prop
 stop:Nat->Hp->Prop
def FpOk(X:Cx)(Z:List (Addr×Obj))(H:Hp)(b:Addr):Prop:=
 H b=none/\b≠X.env.locals/\b∉X.fs/\(b∈X.ex\/X.s₀.heap.objs.size<=b)/\(∀x c,X.env.cells.lookup x=some c->c≠b)/\∀p∈X.pn++Z,p.1≠b
theorem Inv.fpOk{σ:St}{H':Hp}{s:Shared}{b:Addr}(I:Inv X Z σ H s)(hb:s.heap.objs.size<=b)(hn:H' b=none):FpOk X Z H' b:=by
 refine⟨hn,Nat.ne_of_gt (xBc I.lt hb),I.nofs hb,.inr (xCk I.sz hb),λx c e z=>?_,λp hp z=>?_⟩
 ·obtain⟨v,q⟩:=I.cell x c e;exact absurd (xBc q.lt (by rw[z];exact hb)) (Nat.lt_irrefl _)
 ·exact absurd (xBc (xA1 (I.pin p hp).1) (by rw[z];exact hb)) (Nat.lt_irrefl _)
structure Turn(P:Program)(w:World)(K:xFr)(tg:Expr)(J:It)(fp:List Addr)(it:Addr)(tn:Nat->Heap->Prop):Prop where
 mem:it∈fp
 obj:∀i h,tn i h->∀b∈fp,∃o,h.get? b=some o/\∀v,o.data≠.cell v
 keep:∀i h h',tn i h->(∀b∈fp,∀o,h.get? b=some o->h'.get? b=some o)->tn i h'
 item:∀(X:Cx),X.prog=P->X.w=w->X.K=K->X.calm=true->∀(i:Nat)(Z:List (Addr×Obj))(s:Shared)(σ:St)(H:Hp)(E:Value->Shared->Prop),Inv X Z σ H s->(∀b∈fp,FpOk X Z H b)->tn i s.heap->J.go i H ->
  wpAny (model P w) X.A (pyNext (.ref it)) (λr s1=>∃u,r=some u /\
   wpAny (model P w) X.A (letOwnedTupleGo tg (.ref it) u) (λ_ s2=>∃x H',Inv X Z σ H' s2/\RelV x u/\J.yld i H x H'/\tn (i+1) s2.heap/\∀b∈fp,H' b=none) E s1) E s
 done:∀(X:Cx),X.prog=P->X.w=w->X.K=K->X.calm=true->∀(i:Nat)(Z:List (Addr×Obj))(s:Shared)(σ:St)(H:Hp)(E:Value->Shared->Prop),Inv X Z σ H s->(∀b∈fp,FpOk X Z H b)->tn i s.heap->J.stop i H ->
  wpAny (model P w) X.A (pyNext (.ref it)) (λr s1=>r=none/\Inv X Z σ H s1) E s
 self:∀(A:Around)(i:Nat)(s:Shared)(Q:Value->Shared->Prop)(E:Value->Shared->Prop),tn i s.heap->Q (.ref it) s->wpAny (model P w) A (pyIter (.ref it)) Q E s
noncomputable abbrev TI:=St->Hp->(It->Hp->Prop)->Prop
def PIE(X:Cx)(Z:List (Addr×Obj))(σ:St)(tg:Expr)(R:It->Hp->Prop)(itv:Value)(s2:Shared):Prop:=
 ∃(it:Addr) (fp:List Addr) (tn:Nat->Heap->Prop) (J:It) (H':Hp),itv=.ref it/\Inv X Z σ H' s2/\Turn X.prog X.w X.K tg J fp it tn/\tn 0 s2.heap/\(∀b∈fp,FpOk X Z H' b)/\R J H'
def PI(X:Cx)(tg iter:Expr)(wi:TI):Prop:=
 ∀(Z:List (Addr×Obj))(s:Shared)(σ:St)(H:Hp)(R:It->Hp->Prop),Inv X Z σ H s->wi σ H R ->
  wpAny (model X.prog X.w) X.A (eval iter X.env) (λv s1=>wpAny (model X.prog X.w) X.A (pyIter v) (PIE X Z σ tg R) X.xe s1) X.xe s
theorem kP{E:Value->Shared->Prop}{s:Shared}{u:Value}{o:Obj}{n:String}{vs:Array Value}{Q:Unit->Shared->Prop}(ho:s.heap.get? it=some o)(hc:o.cls=.type n)(hd:o.data=.fields vs)(hn:["enumerate","zip","dict_itemiterator","dict_reverseitemiterator","odict_iterator","itertools.zip_longest","itertools.pairwise"].contains n=false)(hQ:Q () s):wpAny M A (letOwnedTupleGo tg (.ref it) u) Q E s:=by
 unfold letOwnedTupleGo;cases tg <;> first
  |exact xAe hQ
  | (cases u <;> first
    |exact xAe hQ
    | (refine xAd (wpAny_load ho ?_)
       rw[hc,hd];show wpAny M A (if(["enumerate","zip","dict_itemiterator","dict_reverseitemiterator","odict_iterator","itertools.zip_longest","itertools.pairwise"].contains n&&vs[0]?==some (rawInt _))=true then _ else _) Q E s;rw[xCf (by intro h;rw[hn,Bool.false_and] at h;cases h)];exact xAe hQ))
def Itl(K:xFr)(a:Addr):It:=
 ⟨λi H=>∃xs x,SqL K H a xs/\xs[i]?=some x,λi H x H'=>H'=H/\∀xs,SqL K H a xs->xs[i]?=some x,λi H=>∃xs,SqL K H a xs/\xs.length<=i⟩
def Itt(K:xFr)(a:Addr):It:=
 ⟨λi H=>∃xs x,SqT K H a xs/\xs[i]?=some x,λi H x H'=>H'=H/\∀xs,SqT K H a xs->xs[i]?=some x,λi H=>∃xs,SqT K H a xs/\xs.length<=i⟩
def Itr(lo:Int)(n:Nat):It:=⟨λi _=>i<n,λi H x H'=>H'=H/\x=.int (lo+i),λi _=>n<=i⟩
theorem lK{P:Program}{w:World}(a it:Addr):Turn P w K tg (Itl K a) [it] it (λi h=>h.IsListIter it a i) where
 mem:=by simp
 obj:=λi h st b hb=>by
  have e:b=it:=by simpa using hb
  subst e;obtain⟨o,e,c,d⟩:=st;exact⟨o,e,λv z=>by rw[d] at z;cases z⟩
 keep:=λi h h' st k=>st.at λo e=>k it (by simp) o e
 item:=by
  intro X hP hw hK hc i Z s σ H E I hf st hg;subst hP hw hK;obtain⟨xs,x,hq,hx⟩:=hg;obtain⟨its,rv,p,hz⟩:=I.list hq;obtain⟨u,hu,ru⟩:=rv.get hx;obtain⟨f0,f1,f2,f3,f4,f5⟩:=hf it (by simp);refine wpAny_pyNext_list_item st p.isList (x:=u) (by simpa using hu) λh' st' sb=>?_;have I1:Inv X Z σ H {s with heap:=h'}:=I.turned (t':=s.toks) (λb o hb e=>(sb.2 b hb).trans e) f0 f1 f3 f4 f5;obtain⟨o,e,c,d⟩:=id st';exact⟨u,rfl,kP (s:={s with heap:=h'}) e c d (by decide) ⟨x,H,I1,ru,⟨rfl,λys hy=>by rw[I.list_inj hy hq];exact hx⟩,st',λb hb=>(hf b hb).1⟩⟩
 done:=by
  intro X hP hw hK hc i Z s σ H E I hf st hg;subst hP hw hK;obtain⟨xs,hq,hx⟩:=hg;obtain⟨its,rv,p,hz⟩:=I.list hq;obtain⟨f0,f1,f2,f3,f4,f5⟩:=hf it (by simp);have hl:=rv.length;exact wpAny_pyNext_list_end (I.ok.hd hc) st p.isList (by simp;lia) λh' eb=>⟨rfl,I.turned (t':=s.toks) (λb o hb e=>eb b o hb e) f0 f1 f3 f4 f5⟩
 self:=λ_ _ _ _ _ st h=>wpAny_pyIter_listiter st h
theorem jj{P:Program}{w:World}(a it:Addr):Turn P w K tg (Itt K a) [it] it (λi h=>h.IsTupleIter it a i) where
 mem:=by simp
 obj:=λi h st b hb=>by
  have e:b=it:=by simpa using hb
  subst e;obtain⟨o,e,c,d⟩:=st;exact⟨o,e,λv z=>by rw[d] at z;cases z⟩
 keep:=λi h h' st k=>st.at λo e=>k it (by simp) o e
 item:=by
  intro X hP hw hK hc i Z s σ H E I hf st hg;subst hP hw hK;obtain⟨xs,x,hq,hx⟩:=hg;obtain⟨its,rv,p,hz⟩:=I.tuple hq;obtain⟨u,hu,ru⟩:=rv.get hx;obtain⟨f0,f1,f2,f3,f4,f5⟩:=hf it (by simp);refine wpAny_pyNext_tuple_item st (show s.heap.IsTuple a its.toArray from p) (x:=u) (by simpa using hu) λh' st' sb=>?_;have I1:Inv X Z σ H {s with heap:=h'}:=I.turned (t':=s.toks) (λb o hb e=>(sb.2 b hb).trans e) f0 f1 f3 f4 f5;obtain⟨o,e,c,d⟩:=id st';exact⟨u,rfl,kP (s:={s with heap:=h'}) e c d (by decide) ⟨x,H,I1,ru,⟨rfl,λys hy=>by rw[I.tuple_inj hy hq];exact hx⟩,st',λb hb=>(hf b hb).1⟩⟩
 done:=by
  intro X hP hw hK hc i Z s σ H E I hf st hg;subst hP hw hK;obtain⟨xs,hq,hx⟩:=hg;obtain⟨its,rv,p,hz⟩:=I.tuple hq;obtain⟨f0,f1,f2,f3,f4,f5⟩:=hf it (by simp);have hl:=rv.length;exact wpAny_pyNext_tuple_end (I.ok.hd hc) st (show s.heap.IsTuple a its.toArray from p) (by simp;lia) λh' eb=>⟨rfl,I.turned (t':=s.toks) (λb o hb e=>eb b o hb e) f0 f1 f3 f4 f5⟩
 self:=λ_ _ _ _ _ st h=>wpAny_pyIter_tupleiter st h
theorem jk{P:Program}{w:World}(it:Addr)(lo:Int)(n:Nat):Turn P w K tg (Itr lo n) [it] it (λi h=>IsRangeIter h it (lo+(i:Nat)*1) ((n:Int)-(i:Nat)) 1) where
 mem:=by simp
 obj:=λi h st b hb=>by
  have e:b=it:=by simpa using hb
  subst e;exact⟨_,st,λv z=>by
   have z':Data.fields _=Data.cell v:=z;cases z'⟩
 keep:=λi h h' st k=>k it (by simp) _ st
 item:=by
  intro X hP hw hK hc i Z s σ H E I hf st hg;subst hP hw hK;obtain⟨f0,f1,f2,f3,f4,f5⟩:=hf it (by simp);have W:=Walks.range (prog:=X.prog) (w:=X.w) (I.ok.hd hc) it lo 1 n;refine W.item i s _ _ hg st λv h' tk hv st' kk=>?_;obtain⟨t,rfl⟩:=hv;have I1:Inv X Z σ H {s with heap:=h',toks:=tk}:=I.turned (λb o hb e=>kk b o (by simpa using hb) e) f0 f1 f3 f4 f5;refine⟨_,rfl,kP (s:={s with heap:=h',toks:=tk}) (n:="range_iterator") st' rfl rfl (by decide) ⟨.int (lo+i),H,I1,⟨t,?_⟩,⟨rfl,rfl⟩,st',λb hb=>(hf b hb).1⟩⟩;rw[Int.mul_one]
 done:=by
  intro X hP hw hK hc i Z s σ H E I hf st hg;subst hP hw hK;obtain⟨f0,f1,f2,f3,f4,f5⟩:=hf it (by simp);exact wpAny_pyNext_range_end (I.ok.hd hc) st (by have:n<=i:=hg;lia) λh' eb=>⟨rfl,I.turned (t':=s.toks) (λb o hb e=>eb b o hb e) f0 f1 f3 f4 f5⟩
 self:=λ_ _ _ _ _ st h=>wpAny_pyIter_rangeiter st h
section
variable{X:Cx}{tg:Expr}
theorem nM{σ:St}{s:Shared}{R:It->Hp->Prop}{E:Value->Shared->Prop}{lo hi:Int}{t u v:Tok}{tk:Nat}(I:Inv X Z σ H s)(h1:-(2^62)<=lo)(h2:lo<2^62)(h3:-(2^62)<=hi)(h4:hi<2^62)(q:R (Itr lo (hi-lo).toNat) H):wpAny (model X.prog X.w) X.A (pyIter (.ref s.heap.objs.size)) (PIE X Z σ tg R) E {s with heap:=s.heap.push {cls:=.type "range",data:=.fields #[.int lo t,.int hi u,.int 1 v]},toks:=tk}:=by
 refine wpAny_pyIter_range (IsRange.new ..) (small_one h1 h2 h3 h4) ?_;have I1:Inv X Z σ H { s with heap:=s.heap.push { cls:=.type "range",data:=.fields #[.int lo t,.int hi u,.int 1 v] },toks:=tk }:=I.kept λb o e=>xAf _ e;refine⟨(s.heap.push { cls:=.type "range",data:=.fields #[.int lo t,.int hi u,.int 1 v] }).objs.size,[(s.heap.push { cls:=.type "range",data:=.fields #[.int lo t,.int hi u,.int 1 v] }).objs.size],_,_,H,rfl,
  I1.kept (t':=tk) λb o e=>xAf _ e,jk _ lo (hi-lo).toNat,?_,λb hb=>?_,q⟩
 ·have e1:lo+((0:Nat):Int)*1=lo:=by simp
  have e2:(((hi-lo).toNat:Nat):Int)-((0:Nat):Int)=Builtin.Range.rangeSize lo hi 1:=by rw[rangeSize_one];split <;> lia
  show IsRangeIter _ _ (lo+((0:Nat):Int)*1) ((((hi-lo).toNat:Nat):Int)-((0:Nat):Int)) 1;rw[e1,e2];exact xAl _ rfl
 ·have e:b=(s.heap.push {cls:=.type "range",data:=.fields #[.int lo t,.int hi u,.int 1 v]}).objs.size:=by simpa using hb
  subst e;exact I1.fpOk (xAg _) (I1.hok.fresh (xAg _))
def iRng1(ta:TA):TI:=λσ H R=>ta σ H λvs H1=>∃j:Int,vs=[.int j]/\-(2^62)<=j/\j<2^62/\R (Itr 0 j.toNat) H1
theorem lS{a:Expr}{ta:TA}{p:Pos}(hg:Gl X "range")(hm:X.mg "range"=none)(ha:PA X [a] ta)(hs:starEach [a] X.env=[(false,eval a X.env)]:=by rfl):PI X tg (.Call (.Name "range" p) [a] [] pos) (iRng1 ta):=by
 intro Z s σ H R I h;refine Call_ (eN I hg hm boot_range (PyProof.Rows.callWith_type1 (thn (ha pos Z s σ H _ I h) λus s1 ⟨vs,H1,I1,r1,q1⟩=>?_) hs rfl));obtain⟨j,e,q1,q2,q⟩:=q1;subst e;cases r1 with
 |cons r rr=>
  cases rr;obtain⟨t,rfl⟩:=r;exact call_range_1 (nM I1 (by lia) (by lia) q1 q2 (by simpa using q))
def tFor(wi:TI)(g:TG)(tb:TS):TS:=λD σ H=>wi σ H λJ H1=>∃W:Nat->Nat->St->Hp->Prop,(∃m,W 0 m σ H1)/\∀i m σ H,W i m σ H ->
 (J.stop i H/\D.nx σ H)\/(J.go i H/\∃N:St->Hp->Prop,(∀σ' H',N σ' H'->∃m',m'<m/\W (i+1) m' σ' H')/\∀x H',J.yld i H x H'->g x σ H' λσ2 H2=>tb {D with nx:=N,ct:=N,bk:=D.nx} σ2 H2)
noncomputable def pinsAt(fp:List Addr)(h:Heap):List (Addr×Obj):=fp.filterMap λb=>(h.get? b).map λo=>(b,o)
theorem dz{b:Addr}{o:Obj}(hb:b∈fp)(e:h.get? b=some o):(b,o)∈pinsAt fp h:=List.mem_filterMap.mpr ⟨b,hb,by rw[e];rfl⟩
theorem lY{p:Addr×Obj}(hp:p∈pinsAt fp h):p.1∈fp/\h.get? p.1=some p.2:=by
 obtain⟨b,hb,e⟩:=List.mem_filterMap.mp hp;cases q:h.get? b with
 |none=>rw[q] at e;cases e
 |some o=>
  rw[q] at e;have e':(b,o)=p:=xB3 e;subst e';exact⟨hb,q⟩
theorem Inv.pinned{σ:St}{s:Shared}(I:Inv X Z σ H s)(hf:∀b∈fp,FpOk X Z H b)(ho:∀b∈fp,∃o,s.heap.get? b=some o/\∀v,o.data≠.cell v):Inv X (Z++pinsAt fp s.heap) σ H s:=
 I.pins_of λp hp=>(xAj.mp hp).elim (λz=>I.pin p (xBt _ z)) λz=>by
  obtain⟨hb,e⟩:=lY z;obtain⟨f0,f1,f2,_⟩:=hf p.1 hb;obtain⟨o,e',d⟩:=ho p.1 hb;rw[e] at e';cases e';exact⟨e,f0,f1,f2,d⟩
theorem Inv.unpinned{pl:List (Addr×Obj)}{σ:St}{s:Shared}(I:Inv X (Z++pl) σ H s):Inv X Z σ H s:=I.pins_of λp hp=>I.pin p (xBt _ (xBw _ hp))
end
noncomputable abbrev R2:=V->V->Hp->VK->Prop
def OpR(X:Cx)(f:Value->Value->Sem Value)(r:R2):Prop:=
 ∀(Z:List (Addr×Obj))(s:Shared)(σ:St)(H:Hp)(x y:V)(v u:Value)(Q:VK),Inv X Z σ H s->RelV x v->RelV y u->r x y H Q ->
  wpAny (model X.prog X.w) X.A (f v u) (EP X Z σ Q) X.xe s
def UnR(X:Cx)(f:Value->Sem Value)(r:V->Hp->VK->Prop):Prop:=
 ∀(Z:List (Addr×Obj))(s:Shared)(σ:St)(H:Hp)(x:V)(v:Value)(Q:VK),Inv X Z σ H s->RelV x v->r x H Q ->
  wpAny (model X.prog X.w) X.A (f v) (EP X Z σ Q) X.xe s
def CallR(X:Cx)(f:Value)(r:List V->Hp->VK->Prop):Prop:=
 ∀(Z:List (Addr×Obj))(s:Shared)(σ:St)(H:Hp)(xs:List V)(us:List Value)(Q:VK),Inv X Z σ H s->Vals xs us->r xs H Q ->
  wpAny (model X.prog X.w) X.A (call f us) (EP X Z σ Q) X.xe s
def TruR(X:Cx)(r:V->Hp->(Bool->Hp->Prop)->Prop):Prop:=
 ∀(Z:List (Addr×Obj))(s:Shared)(σ:St)(H:Hp)(x:V)(v:Value)(Q:Bool->Hp->Prop),Inv X Z σ H s->RelV x v->r x H Q ->
  wpAny (model X.prog X.w) X.A (truthy v) (TP X Z σ Q) X.xe s
def tOp(r:R2)(ta tb:TE):TE:=λσ H Q=>ta σ H λx H1=>tb σ H1 λy H2=>r x y H2 Q
def tUn(r:V->Hp->VK->Prop)(ta:TE):TE:=λσ H Q=>ta σ H λx H1=>r x H1 Q
def rI(C:Int->Int->Prop)(g:Int->Int->V):R2:=λx y H Q=>∃i j,x=.int i/\y=.int j/\C i j/\Q (g i j) H
def rI0(g:Int->Int->V):R2:=λx y H Q=>∃i j,x=.int i/\y=.int j/\Q (g i j) H
def rU(g:Int->V):V->Hp->VK->Prop:=λx H Q=>∃i,x=.int i/\Q (g i) H
section
variable{X:Cx}{a b c:Expr}{ta tb tc:TE}{pos:Pos}
theorem binT(ha:PE X a ta)(hb:PE X b tb){s:Shared}{σ:St}{R:V->V->Hp->Prop}(I:Inv X Z σ H s)(h:ta σ H λx H1=>tb σ H1 λy H2=>R x y H2){f:Value->Value->Sem Value}(hf:∀v u s2 x y H2,Inv X Z σ H2 s2->RelV x v->RelV y u->R x y H2->wpAny (model X.prog X.w) X.A (f v u) Q X.xe s2) :
  wpAny (model X.prog X.w) X.A (eval a X.env) (λv s₁=>wpAny (model X.prog X.w) X.A (eval b X.env) (λu s₂=>wpAny (model X.prog X.w) X.A (f v u) Q X.xe s₂) X.xe s₁) X.xe s:=by
 refine thn (ha Z s σ H _ I h) λv s1 zz=>?_;obtain⟨x,H1,I1,r1,q1⟩:=zz;refine thn (hb Z s1 σ H1 _ I1 q1) λu s2 zz=>?_;obtain⟨y,H2,I2,r2,q2⟩:=zz;exact hf v u s2 x y H2 I2 r1 r2 q2
theorem xp{op:Operator}{r:R2}(ho:OpR X (binaryOp op) r)(ha:PE X a ta)(hb:PE X b tb):PE X (.BinOp a op b pos) (tOp r ta tb):=by
 intro Z s σ H Q I h;exact wpAny_BinOp (binT ha hb I h λv u s2 x y H2 I2 rx ry q=>ho Z s2 σ H2 x y v u Q I2 rx ry q)
theorem xn{op:UnaryOp}{r:V->Hp->VK->Prop}(ho:UnR X (unaryOp op) r)(ha:PE X a ta):PE X (.UnaryOp op a pos) (tUn r ta):=by
 intro Z s σ H Q I h;exact UnaryOp_ (thn (ha Z s σ H _ I h) λv s1 ⟨x,H1,I1,r1,q1⟩=>ho Z s1 σ H1 x v Q I1 r1 q1)
theorem opI{f:Value->Value->Sem Value}{C:Int->Int->Prop}(rule:∀(i j:Int)(t u:Tok)(s:Shared)(Q:Value->Shared->Prop)(E:Value->Shared->Prop),C i j->Q (.int (g i j) s.toks) {s with toks:=s.toks+1}->wpAny (model X.prog X.w) X.A (f (.int i t) (.int j u)) Q E s) :
  OpR X f (rI C λi j=>.int (g i j)):=by
 intro Z s σ H x y v u Q I rx ry h;obtain⟨i,j,rfl,rfl,hc,q⟩:=h;obtain⟨t,rfl⟩:=rx;obtain⟨t',rfl⟩:=ry;exact rule i j t t' s _ _ hc ⟨.int (g i j),H,I.tok _,⟨_,rfl⟩,q⟩
theorem opI0{f:Value->Value->Sem Value}(rule:∀(i j:Int)(t u:Tok)(s:Shared)(Q:Value->Shared->Prop)(E:Value->Shared->Prop),Q (.int (g i j) s.toks) {s with toks:=s.toks+1}->wpAny (model X.prog X.w) X.A (f (.int i t) (.int j u)) Q E s) :
  OpR X f (rI0 λi j=>.int (g i j)):=by
 intro Z s σ H x y v u Q I rx ry h;obtain⟨i,j,rfl,rfl,q⟩:=h;obtain⟨t,rfl⟩:=rx;obtain⟨t',rfl⟩:=ry;exact rule i j t t' s _ _ ⟨.int (g i j),H,I.tok _,⟨_,rfl⟩,q⟩
theorem opB0{f:Value->Value->Sem Value}{g:Int->Int->Bool}(rule:∀(i j:Int)(t u:Tok)(s:Shared)(Q:Value->Shared->Prop)(E:Value->Shared->Prop),Q (.bool (g i j)) s->wpAny (model X.prog X.w) X.A (f (.int i t) (.int j u)) Q E s) :
  OpR X f (rI0 λi j=>.bl (g i j)):=by
 intro Z s σ H x y v u Q I rx ry h;obtain⟨i,j,rfl,rfl,q⟩:=h;obtain⟨t,rfl⟩:=rx;obtain⟨t',rfl⟩:=ry;exact rule i j t t' s _ _ ⟨.bl (g i j),H,I,rfl,q⟩
def CPow(i j:Int):Prop:=0<=j/\j<=1000000/\i.natAbs<2^64
theorem vz:OpR X (binaryOp .Add) (rI0 λi j=>.int (i+j)):=opI0 λ_ _ _ _ _ _ _ q=>add_int q
theorem vq:OpR X (binaryOp .Sub) (rI0 λi j=>.int (i-j)):=opI0 λ_ _ _ _ _ _ _ q=>sub_int q
theorem vv:OpR X (binaryOp .Mod) (rI (λ_ j=>0<j) λi j=>.int (i%j)):=opI λi j _ _ _ _ _ hc q=>by
 have h1:(0:Int)<j:=hc;exact mod_int' (by lia) (by rw[Int.fmod_eq_emod_of_nonneg i (by lia)];exact q)
theorem vt:OpR X (binaryOp .Pow) (rI CPow λi j=>.int (i^j.toNat)):=opI λ_ _ _ _ _ _ _ hc q=>pow_int_small hc.1 hc.2.1 hc.2.2 q
theorem unI{f:Value->Sem Value}{g:Int->Int}(rule:∀(i:Int)(t:Tok)(s:Shared)(Q:Value->Shared->Prop)(E:Value->Shared->Prop),Q (.int (g i) s.toks) {s with toks:=s.toks+1}->wpAny (model X.prog X.w) X.A (f (.int i t)) Q E s) :
  UnR X f (rU λi=>.int (g i)):=by
 intro Z s σ H x v Q I rx h;obtain⟨i,rfl,q⟩:=h;obtain⟨t,rfl⟩:=rx;exact rule i t s _ _ ⟨.int (g i),H,I.tok _,⟨_,rfl⟩,q⟩
theorem um:UnR X (unaryOp .USub) (rU λi=>.int (-i)):=unI λ_ _ _ _ _ q=>neg_int q
end
noncomputable def scal:V->V->Bool
 |.non,.non=>true|.non,.int _=>true|.int _,.non=>true|.non,.bl _=>true|.bl _,.non=>true|.non,.str _=>true|.str _,.non=>true
 |.int _,.int _=>true|.bl _,.bl _=>true|.str _,.str _=>true|.byt _,.byt _=>true
 |.int _,.str _=>true|.str _,.int _=>true|.bl _,.str _=>true|.str _,.bl _=>true
 |_,_=>false
def rEq:R2:=λx y H Q=>scal x y=true/\Q (.bl (decide (x=y))) H
def rNe:R2:=λx y H Q=>scal x y=true/\Q (.bl (!decide (x=y))) H
theorem k7{i j:Int}:decide (V.int i=V.int j)=(i==j):=by
 rw[Bool.eq_iff_iff];simp
theorem pS{i j:Bool}:decide (V.bl i=V.bl j)=(i==j):=by
 rw[Bool.eq_iff_iff];simp
theorem kZ{i j:Str}:decide (V.str i=V.str j)=(i==j):=by
 rw[Bool.eq_iff_iff];simp
theorem k8{i j:Array UInt8}:decide (V.byt i=V.byt j)=(i.toList==j.toList):=by
 rw[Bool.eq_iff_iff];cases i;cases j;simp
section
variable{X:Cx}{a b c:Expr}{ta tb tc:TE}{pos:Pos}
theorem bu{σ:St}{s:Shared}{Q:VK}{k k':Bool}(I:Inv X Z σ H s)(q:Q (.bl k) H)(e:k=k'):EP X Z σ Q (.bool k') s:=by
 subst e;exact⟨.bl k,H,I,rfl,q⟩
theorem xT:OpR X (compareOp .Eq) rEq:=by
 intro Z s σ H x y v u Q I rx ry h;obtain⟨hs,q⟩:=h;cases x with
 |non=>
  cases rx;cases y with
  |non=>cases ry;exact PySem.EqNone.eq_none_none (bu I q (by simp))
  |bl j=>cases ry;exact PySem.EqNone.eq_none_bool (bu I q (by simp))
  |int j=>obtain⟨t',rfl⟩:=ry;exact PySem.EqNone.eq_none_int (bu I q (by simp))
  |str j=>obtain⟨t',rfl⟩:=ry;exact PySem.EqNone.eq_none_str (bu I q (by simp))
  |_=>exact absurd (show false=true from hs) xAy
 |bl i=>
  cases rx;cases y with
  |non=>cases ry;exact PySem.EqNone.eq_bool_none (bu I q (by simp))
  |bl j=>cases ry;exact eq_bool (bu I q pS)
  |str j=>obtain⟨t',rfl⟩:=ry;exact PySem.EqMixed.eq_bool_str (bu I q (by simp))
  |_=>exact absurd (show false=true from hs) xAy
 |int i=>
  obtain⟨t,rfl⟩:=rx;cases y with
  |non=>cases ry;exact PySem.EqNone.eq_int_none (bu I q (by simp))
  |int j=>obtain⟨t',rfl⟩:=ry;exact eq_int (bu I q k7)
  |str j=>obtain⟨t',rfl⟩:=ry;exact PySem.EqMixed.eq_int_str (bu I q (by simp))
  |_=>exact absurd (show false=true from hs) xAy
 |str i=>
  obtain⟨t,rfl⟩:=rx;cases y with
  |non=>cases ry;exact PySem.EqNone.eq_str_none (bu I q (by simp))
  |bl j=>cases ry;exact PySem.EqMixed.eq_str_bool (bu I q (by simp))
  |int j=>obtain⟨t',rfl⟩:=ry;exact PySem.EqMixed.eq_str_int (bu I q (by simp))
  |str j=>obtain⟨t',rfl⟩:=ry;exact eq_str (bu I q kZ)
  |_=>exact absurd (show false=true from hs) xAy
 |byt i=>
  obtain⟨t,rfl⟩:=rx;cases y with
  |byt j=>obtain⟨t',rfl⟩:=ry;exact W.eq_bytes (bu I q k8)
  |_=>exact absurd (show false=true from hs) xAy
 |_=>cases y <;> exact absurd (show false=true from hs) xAy
theorem xS:OpR X (compareOp .NotEq) rNe:=by
 intro Z s σ H x y v u Q I rx ry h;obtain⟨hs,q⟩:=h;cases x with
 |non=>
  cases rx;cases y with
  |non=>cases ry;exact PySem.EqNone.ne_none_none (bu I q (by simp))
  |bl j=>cases ry;exact PySem.EqNone.ne_none_bool (bu I q (by simp))
  |int j=>obtain⟨t',rfl⟩:=ry;exact PySem.EqNone.ne_none_int (bu I q (by simp))
  |str j=>obtain⟨t',rfl⟩:=ry;exact PySem.EqNone.ne_none_str (bu I q (by simp))
  |_=>exact absurd (show false=true from hs) xAy
 |bl i=>
  cases rx;cases y with
  |non=>cases ry;exact PySem.EqNone.ne_bool_none (bu I q (by simp))
  |bl j=>cases ry;exact ne_bool (bu I q (congrArg not pS))
  |str j=>obtain⟨t',rfl⟩:=ry;exact PySem.EqMixed.ne_bool_str (bu I q (by simp))
  |_=>exact absurd (show false=true from hs) xAy
 |int i=>
  obtain⟨t,rfl⟩:=rx;cases y with
  |non=>cases ry;exact PySem.EqNone.ne_int_none (bu I q (by simp))
  |int j=>obtain⟨t',rfl⟩:=ry;exact ne_int (bu I q (congrArg not k7))
  |str j=>obtain⟨t',rfl⟩:=ry;exact PySem.EqMixed.ne_int_str (bu I q (by simp))
  |_=>exact absurd (show false=true from hs) xAy
 |str i=>
  obtain⟨t,rfl⟩:=rx;cases y with
  |non=>cases ry;exact PySem.EqNone.ne_str_none (bu I q (by simp))
  |bl j=>cases ry;exact PySem.EqMixed.ne_str_bool (bu I q (by simp))
  |int j=>obtain⟨t',rfl⟩:=ry;exact PySem.EqMixed.ne_str_int (bu I q (by simp))
  |str j=>obtain⟨t',rfl⟩:=ry;exact ne_str (bu I q (congrArg not kZ))
  |_=>exact absurd (show false=true from hs) xAy
 |byt i=>
  obtain⟨t,rfl⟩:=rx;cases y with
  |byt j=>obtain⟨t',rfl⟩:=ry;exact W.ne_bytes (bu I q (congrArg not k8))
  |_=>exact absurd (show false=true from hs) xAy
 |_=>cases y <;> exact absurd (show false=true from hs) xAy
theorem tG:OpR X (compareOp .Lt) (rI0 λi j=>.bl (decide (i<j))):=opB0 λ_ _ _ _ _ _ _ q=>lt_int q
theorem tH:OpR X (compareOp .LtE) (rI0 λi j=>.bl (decide (i<=j))):=opB0 λ_ _ _ _ _ _ _ q=>le_int q
theorem tI:OpR X (compareOp .Gt) (rI0 λi j=>.bl (decide (j<i))):=opB0 λ_ _ _ _ _ _ _ q=>gt_int q
theorem tJ:OpR X (compareOp .GtE) (rI0 λi j=>.bl (decide (j<=i))):=opB0 λ_ _ _ _ _ _ _ q=>ge_int q
theorem lW:OpR X (compareOp .In) (λx y H Q=>∃i j,x=.str i/\y=.str j/\Q (.bl (!(Builtin.Str.occurrences j i 0 j.length 1).isEmpty)) H):=by
 intro Z s σ H x y v u Q I rx ry h;obtain⟨i,j,rfl,rfl,q⟩:=h;obtain⟨t,rfl⟩:=rx;obtain⟨t',rfl⟩:=ry;exact in_str (bu I q rfl)
theorem vw:OpR X (compareOp .Is) (λx y H Q=>y=.non/\Q (.bl (decide (x=.non))) H):=by
 intro Z s σ H x y v u Q I rx ry h;obtain⟨rfl,q⟩:=h;cases ry;refine is_none_gen (bu I q ?_);cases x <;> first
  |(cases rx;rfl)
  |(obtain⟨t,rfl⟩:=rx;rfl)
theorem rP:OpR X (compareOp .IsNot) (λx y H Q=>y=.non/\Q (.bl (!decide (x=.non))) H):=by
 intro Z s σ H x y v u Q I rx ry h;obtain⟨rfl,q⟩:=h;cases ry;refine isnot_none_gen (bu I q ?_);cases x <;> first
  |(cases rx;rfl)
  |(obtain⟨t,rfl⟩:=rx;rfl)
theorem gM:OpR X (compareOp .NotIn) (λx y H Q=>∃i j,x=.str i/\y=.str j/\Q (.bl (!(!(Builtin.Str.occurrences j i 0 j.length 1).isEmpty))) H):=by
 intro Z s σ H x y v u Q I rx ry h;obtain⟨i,j,rfl,rfl,q⟩:=h;obtain⟨t,rfl⟩:=rx;obtain⟨t',rfl⟩:=ry;exact notIn_str (bu I q rfl)
theorem km{r:R2}(ho:OpR X (compareOp op) r)(ha:PE X a ta)(hb:PE X b tb)(hm:behindInMarks op b=false):PE X (.Compare a [op] [b] pos) (tOp r ta tb):=by
 intro Z s σ H Q I h;exact wpAny_Compare1 (binT ha hb I h λv u s2 x y H2 I2 rx ry q=>ho Z s2 σ H2 x y v u Q I2 rx ry q) hm
def tTest(t:TE):TT:=λσ H Q=>t σ H λx H'=>∃k,x=.bl k/\Q k H'
theorem j8{r:R2}(ho:OpR X (compareOp op) r)(ha:PE X a ta)(hb:PE X b tb)(hm:behindInMarks op b=false):PT X (.Compare a [op] [b] pos) (tTest (tOp r ta tb)):=by
 intro Z s σ H Q I h;refine wpAny_isTrue_Compare1 (thn (ha Z s σ H _ I h) λv s1 ⟨x,H1,I1,r1,q1⟩=>thn (hb Z s1 σ H1 _ I1 q1) λu s2 ⟨y,H2,I2,r2,q2⟩ =>
  thn (ho Z s2 σ H2 x y v u _ I2 r1 r2 q2) λc s3 ⟨z,H3,I3,r3,k,e,q3⟩=>?_) hm
 subst e;cases r3;exact wpAny_truthy_bool ⟨H3,I3,q3⟩
def tChain(r r':R2)(ta tb tc:TE):TE:=λσ H Q=>ta σ H λx H1=>tb σ H1 λy H2=>r x y H2 λz H3=>∃k,z=.bl k /\
 (if k=true then tc σ H3 λw' H4=>r' y w' H4 Q else Q (.bl false) H3)
theorem oG{r:R2}(ho:OpR X (compareOp op) r)(ho':OpR X (compareOp op') r')(ha:PE X a ta)(hb:PE X b tb)(hc:PE X c tc)(hm:lastMarks [op,op'] [b,c]=false:=by with_unfolding_all rfl):PE X (.Compare a [op,op'] [b,c] pos) (tChain r r' ta tb tc):=by
 intro Z s σ H Q I h;refine Compare_chain (thn (ha Z s σ H _ I h) λv s1 ⟨x,H1,I1,r1,q1⟩=>chain_link (thn (hb Z s1 σ H1 _ I1 q1) λu s2 ⟨y,H2,I2,r2,q2⟩ =>
  thn (ho Z s2 σ H2 x y v u _ I2 r1 r2 q2) λd s3 ⟨z,H3,I3,r3,k,e,q3⟩=>?_)) hm
 subst e;cases r3;refine wpAny_truthy_bool ?_;cases k with
 |false=>exact ite_ff ⟨.bl false,H3,I3,rfl,q3⟩
 |true=>exact ite_tt (chain_last (thn (hc Z s3 σ H3 _ I3 q3) λw' s4 ⟨z',H4,I4,r4,q4⟩=>ho' Z s4 σ H4 y z' u w' Q I4 r2 r4 q4))
theorem nQ{r:R2}(ho:OpR X (compareOp op) r)(ho':OpR X (compareOp op') r')(ha:PE X a ta)(hb:PE X b tb)(hc:PE X c tc)(hm:lastMarks [op,op'] [b,c]=false:=by with_unfolding_all rfl):PT X (.Compare a [op,op'] [b,c] pos) (tTest (tChain r r' ta tb tc)):=by
 intro Z s σ H Q I h;refine isTrue_chain (thn (ha Z s σ H _ I h) λv s1 ⟨x,H1,I1,r1,q1⟩=>test_link (thn (hb Z s1 σ H1 _ I1 q1) λu s2 ⟨y,H2,I2,r2,q2⟩ =>
  thn (ho Z s2 σ H2 x y v u _ I2 r1 r2 q2) λd s3 ⟨z,H3,I3,r3,k,e,q3⟩=>?_)) hm
 subst e;cases r3;refine wpAny_truthy_bool ?_;cases k with
 |false=>
  obtain⟨k',e',q'⟩:=q3;cases e';exact ite_ff ⟨H3,I3,q'⟩
 |true=>
  refine ite_tt (test_last (thn (hc Z s3 σ H3 _ I3 q3) λw' s4 ⟨z',H4,I4,r4,q4⟩=>thn (ho' Z s4 σ H4 y z' u w' _ I4 r2 r4 q4) λd' s5 zz=>?_));obtain⟨z2,H5,I5,r5,k2,e2,q5⟩:=zz;subst e2;cases r5;exact wpAny_truthy_bool ⟨H5,I5,q5⟩
def TruV(K:xFr)(x:V)(H:Hp)(k:Bool):Prop:=
 match x with
 |.non=>k=false
 |.bl b=>k=b
 |.int i=>k=(i != 0)
 |.str y=>y.length<=sizeLine/\k=((y.length:Int) != 0)
 |.byt y=>y.size<=sizeLine/\k=((y.size:Int) != 0)
 |.ref p=>(∃xs,SqL K H p xs/\k=!xs.isEmpty)\/(∃xs,SqT K H p xs/\k=!xs.isEmpty)\/∃kvs,H p=some (.dK kvs)/\k=!kvs.isEmpty
 |_=>False
theorem jE{κ:Type}{kvs:List (κ×V)}{vs:List (κ×Value)}(r:KV kvs vs):(!vs.isEmpty)=!kvs.isEmpty:=by
 cases r <;> rfl
theorem fP{xs:List V}{its:List Value}(r:Vals xs its):(!its.toArray.isEmpty)=!xs.isEmpty:=by
 cases r <;> simp
theorem line63:(sizeLine:Nat)<2^63:=by rw[sizeLine_eq];decide
theorem uv:TruR X (λx H Q=>∃k,TruV X.K x H k/\Q k H):=by
 intro Z s σ H x v Q I rx h;obtain⟨k,e,q⟩:=h;have hl:=line63;have hs:sizeLine=16777216:=sizeLine_eq;cases x with
 |non=>
  cases rx;have e':k=false:=e;subst e';exact truthy_none ⟨H,I,q⟩
 |bl b=>
  cases rx;have e':k=b:=e;subst e';exact wpAny_truthy_bool ⟨H,I,q⟩
 |int i=>
  obtain⟨t,rfl⟩:=rx;have e':k=(i != 0):=e;subst e';exact PySem.P.truthy_int ⟨H,I,q⟩
 |str y=>
  obtain⟨t,rfl⟩:=rx;obtain⟨hy,e'⟩:y.length<=sizeLine/\k=((y.length:Int) != 0):=e;subst e';exact PySem.P.truthy_str (by lia) ⟨H,I.tok _,q⟩
 |byt y=>
  obtain⟨t,rfl⟩:=rx;obtain⟨hy,e'⟩:y.size<=sizeLine/\k=((y.size:Int) != 0):=e;subst e';exact W.truthy_bytes (by lia) ⟨H,I.tok _,q⟩
 |ref p=>
  cases rx;have e':(∃xs,SqL X.K H p xs/\k=!xs.isEmpty)\/(∃xs,SqT X.K H p xs/\k=!xs.isEmpty)\/∃kvs,H p=some (.dK kvs)/\k=!kvs.isEmpty:=e;rcases e' with ⟨xs,hx,e'⟩|⟨xs,hx,e'⟩|⟨kvs,hx,e'⟩
  ·subst e';obtain⟨its,r,pl,hz⟩:=I.list hx;have hlen:=r.length;exact wpAny_truthy_list pl.isList (by simp only[xAp];lia) ⟨H,I.tok _,by rw[fP r];exact q⟩
  ·subst e';obtain⟨its,r,pl,hz⟩:=I.tuple hx;have hlen:=r.length;exact truthy_tuple pl (by simp only[xAp];lia) ⟨H,I.tok _,by rw[fP r];exact q⟩
  ·subst e';obtain⟨hz,hS,vs,r,m⟩:kvs.length<=sizeLine/\(p==sysModules)=false/\∃vs,KV kvs vs/\s.heap.DictOf (mixKind X.prog X.w) p vs:=I.hok p _ hx;have hlen:kvs.length=vs.length:=Paired.length r;exact wpAny_truthy_dict hS m (by lia) ⟨H,I.tok _,by rw[jE r];exact q⟩
 |_=>exact(show False from e).elim
theorem nP(ha:PE X a ta)(he:∀whole,isTrue a X.env whole=(do let v <- whole;standAt a.pos;holding [v] (truthy v))) :
  PT X a (λσ H Q=>ta σ H λx H'=>∃k,TruV X.K x H' k/\Q k H'):=by
 intro Z s σ H Q I h;exact isTrue_plain (thn (ha Z s σ H _ I h) λv s1 ⟨x,H1,I1,r1,q1⟩=>uv Z s1 σ H1 x v Q I1 r1 q1) (he _)
theorem vals1{x:V}{us:List Value}(r:Vals [x] us):∃u,us=[u]/\RelV x u:=by
 cases r with
 |cons r1 r2=>cases r2;exact⟨_,rfl,r1⟩
theorem vals2{x:V}{us:List Value}(r:Vals [x,y] us):∃u w',us=[u,w']/\RelV x u/\RelV y w':=by
 cases r with
 |cons r1 r2=>
  cases r2 with
  |cons r3 r4=>cases r4;exact⟨_,_,rfl,r1,r3⟩
theorem qb:CallR X (.builtin "abs") (λxs H Q=>∃i,xs=[.int i]/\Q (.int (if i<0 then -i else i)) H):=by
 intro Z s σ H xs us Q I r h;obtain⟨i,rfl,q⟩:=h;obtain⟨u,rfl,t,rfl⟩:=vals1 r;exact call_abs_int λu tk=>⟨.int (if i<0 then -i else i),H,I.tok _,⟨_,rfl⟩,q⟩
theorem mJ(hc:X.calm=true):CallR X (.builtin "max") (λxs H Q=>∃i j,xs=[.int i,.int j]/\Q (.int (if j>i then j else i)) H):=by
 intro Z s σ H xs us Q I r h;obtain⟨i,j,rfl,q⟩:=h;obtain⟨u,w',rfl,⟨t,rfl⟩,⟨t',rfl⟩⟩:=vals2 r;refine max_two_ints (I.ok.hd hc) λh' tk k=>⟨_,H,I.kept k,?_,q⟩
 by_cases hj:j>i
 ·rw[xCg hj,xCg hj];exact⟨_,rfl⟩
 ·rw[xCf hj,xCf hj];exact⟨_,rfl⟩
theorem mH(hc:X.calm=true):CallR X (.builtin "min") (λxs H Q=>∃i j,xs=[.int i,.int j]/\Q (.int (if j<i then j else i)) H):=by
 intro Z s σ H xs us Q I r h;obtain⟨i,j,rfl,q⟩:=h;obtain⟨u,w',rfl,⟨t,rfl⟩,⟨t',rfl⟩⟩:=vals2 r;refine min_two_ints (I.ok.hd hc) λh' tk k=>⟨_,H,I.kept k,?_,q⟩
 by_cases hj:j<i
 ·rw[xCg hj,xCg hj];exact⟨_,rfl⟩
 ·rw[xCf hj,xCf hj];exact⟨_,rfl⟩
theorem mW:CallR X (.type "int") (λxs H Q=>(∃i,xs=[.int i]/\Q (.int i) H)\/∃k,xs=[.bl k]/\Q (.int (if k then 1 else 0)) H):=by
 intro Z s σ H xs us Q I r h;rcases h with ⟨i,rfl,q⟩|⟨k,rfl,q⟩
 ·obtain⟨u,rfl,t,rfl⟩:=vals1 r;exact call_int_int ⟨.int i,H,I,⟨_,rfl⟩,q⟩
 ·obtain⟨u,rfl,r1⟩:=vals1 r;cases r1;exact call_int_bool ⟨.int (if k then 1 else 0),H,I.tok _,⟨_,rfl⟩,q⟩
def LenV(K:xFr)(x:V)(H:Hp)(n:Nat):Prop:=
 match x with
 |.str y=>y.length<=sizeLine/\n=y.length
 |.byt y=>y.size<=sizeLine/\n=y.size
 |.ref p=>(∃xs,SqL K H p xs/\n=xs.length)\/∃xs,SqT K H p xs/\n=xs.length
 |_=>False
theorem p9:CallR X (.builtin "len") (λxs H Q=>∃x n,xs=[x]/\LenV X.K x H n/\Q (.int n) H):=by
 intro Z s σ H xs us Q I r h;obtain⟨x,n,rfl,e,q⟩:=h;obtain⟨u,rfl,rx⟩:=vals1 r;have hl:=line63;have hs:sizeLine=16777216:=sizeLine_eq;cases x with
 |str y=>
  obtain⟨t,rfl⟩:=rx;obtain⟨hy,e'⟩:y.length<=sizeLine/\n=y.length:=e;subst e';exact len_str (by lia) ⟨.int _,H,I.tok _,⟨_,rfl⟩,q⟩
 |byt y=>
  obtain⟨t,rfl⟩:=rx;obtain⟨hy,e'⟩:y.size<=sizeLine/\n=y.size:=e;subst e';exact W.len_bytes (by lia) ⟨.int _,H,I.tok _,⟨_,rfl⟩,q⟩
 |ref p=>
  cases rx;have e':(∃xs,SqL X.K H p xs/\n=xs.length)\/∃xs,SqT X.K H p xs/\n=xs.length:=e;rcases e' with ⟨xs,hx,e'⟩|⟨xs,hx,e'⟩
  ·subst e';obtain⟨its,r',pl,hz⟩:=I.list hx;have hlen:=r'.length;exact Calls.call_len_list pl.isList (by simp only[xAp];lia) ⟨.int xs.length,H,I.tok _,⟨_,by simp only[xAp];rw[hlen]⟩,q⟩
  ·subst e';obtain⟨its,r',pl,hz⟩:=I.tuple hx;have hlen:=r'.length;exact len_tuple pl (by simp only[xAp];lia) ⟨.int xs.length,H,I.tok _,⟨_,by simp only[xAp];rw[hlen]⟩,q⟩
 |_=>exact(show False from e).elim
end
structure ObjM(h:Heap)(x dx C:Addr)(mA:Str->Option Value):Prop where
 obj:h.get? x=some (W.instObj C dx)
 ns:h.Ns1 dx mA
 ne:dx≠x
theorem md{mA:Str->Option Value}(n:h.Ns1 dx mA):∃od,h.get? dx=some od/\∀name,W.lookIn name od=some (mA name):=by
 obtain⟨o,es,ep,ho,hd,hk,_,hm⟩:=n;refine⟨o,ho,λname=>?_⟩;have e:=hm name;unfold nsFind findBy at e;rw[<- Array.find?_toList] at e;unfold W.lookIn;rw[hd];dsimp only;split
 ·rename_i y q
  rw[q] at e;exact congrArg some e
 ·rename_i q
  rw[q] at e;have a:es.toList.any (·.refKey)=false:=by
   rw[List.any_eq_false];intro y hy;obtain⟨z,t,hkey⟩:=hk y (Array.mem_toList_iff.mp hy);simp[DictEntry.refKey,hkey]
  have a':¬ es.toList.any (·.refKey)=true:=by rw[a];exact xAy
  rw[xCf a'];exact congrArg some e
theorem ObjM.look{x:Addr}{mA:Str->Option Value}(I:ObjM h x dx C mA):∃od,PySem.W.InstAt h x (W.instObj C dx) C (some od)/\∀name,W.lookIn name od=some (mA name):=
 let ⟨od,ho,hl⟩:=md I.ns
 ⟨od,⟨I.obj,rfl,rfl,ho⟩,hl⟩
section
variable{prog:Program}{w:World}{A:Around}{E:Value->Shared->Prop}{s:Shared}{K:xFr}{x dx C f:Addr}{mA:Str->Option Value}{name:Str}{v:Value}
theorem sn{expr:Bool}(X:K.In s.heap)(I:ObjM s.heap x dx C mA)(hg:W.plainGet K C name=true)(hh:W.hasDictIn K C=true)(ha:W.findIn K (.ref C) name=some none)(hv:mA name=some v)(hv':W.handedIn v=true)(h:Q v {s with toks:=s.toks+1}) :
  wpAny (model prog w) A (getAttr (.ref x) name expr) Q E s:=by
 obtain⟨od,J,hl⟩:=I.look;exact W.get_value X J (W.plainGet_of hg).1 (W.findObj_own hh ha rfl (by rw[hl,hv])) hv' h
theorem pE{pl:Sem Bool}{Q:Value×List Value->Shared->Prop}(X:K.In s.heap)(I:ObjM s.heap x dx C mA)(hg:W.plainGet K C name=true)(hf:W.findIn K (.ref C) name=some (some (.ref f)))(ht:W.isFn K (.ref f)=true)(hv:mA name=none)(h:Q (.ref f,[.ref x]) s) :
  wpAny (model prog w) A (getMethod (.ref x) name pl) Q E s:=by
 obtain⟨od,J,hl⟩:=I.look;exact W.method_fn X J (W.plainGet_of hg).1 (W.plainGet_of hg).2 hf (beq_iff_eq.mp ht) (by show(W.lookIn name od).map (·.isSome)=some false;rw[hl,hv];rfl) h
theorem qH{ns:List Str}{Q:Unit->Shared->Prop}(X:K.In s.heap)(I:ObjM s.heap x dx C mA)(hs:W.findIn K (.ref C) "__setattr__"=some (some (.builtin "object.__setattr__")))(hp:W.plainOver K C=true)(ht:W.takerIn K C name=some none)(hh:W.hasDictIn K C=true)(hw:PySem.Within mA ns)(hsz:ns.length<=sizeLine)(h:∀h',ObjM h' x dx C (λy=>if y=name then some v else mA y)->Heap.SameBut dx s.heap h'->Q () {s with heap:=h',toks:=s.toks+2}) :
  wpAny (model prog w) A (setAttr (.ref x) name v) Q E s:=by
 obtain⟨od,J,hl⟩:=I.look;refine W.set_plain X J hs (W.osa_open (s:={s with toks:=s.toks+1}) (r:=none) X J hp ht λb=>?_);obtain⟨cd,hc,hd'⟩:=W.any_some hh;have hx:s.heap.get? x=some ⟨.ref C,some dx,.plain,#[]⟩:=I.obj;refine xAd (xAe (xAd (xAd (wpAny_loadPart hx (xAd (PySem.W.Looks.here (s:={s with toks:=s.toks+1}) (W.looks_clsIn X hc) ?_))))));rw[hd'];refine xAe (a:=some dx) (xAd (xAe (xAd ?_)));refine wpAny_nsSet1 (s:={s with toks:=s.toks+1}) I.ns λh' hn2 hs2=>?_;obtain⟨oD,esD,epD,hoD,hdD,hcD⟩:=hn2.count (PySem.Within.cons name v hw);refine xAd (wpAny_lookBehind hoD (by rw[hdD];exact pastItsLine_dict (xCk hcD (by rw[xAo];lia))) ?_);exact xAe (h _ ⟨(hs2.2 _ (Ne.symm I.ne)).trans I.obj,hn2,I.ne⟩ hs2)
theorem o9{R:Result->Shared->Prop}{vs:List Value}(X:K.In s.heap)(hm:W.makesIn K C=true)(hi:W.findIn K (.ref C) "__init__"=some (some (.ref f)))(hf:W.typeIn K (.ref f)=some (.type "function"))(h:codeAny (model prog w) (A.under (.builtin "type.__call__" ⟨.ref C::vs,kw⟩)) (.call (.ref f) ⟨.ref (s.heap.objs.size+1)::vs,kw⟩) (PySem.W.InitBack (s.heap.objs.size+1) R)
   {s with heap:=(s.heap.push W.emptyDict).push (W.instObj C s.heap.objs.size)}) :
  codeAny (model prog w) A (.call (.ref C) ⟨vs,kw⟩) R s:=by
 obtain⟨hh,g,d,t,os⟩:=s;exact W.make_core (W.makes_of X hm) (W.looks_findIn X hi) (λself=>W.bind_fn X self hf) (.inl rfl) h
end
noncomputable def putF(f:Str)(v:V):List (Str×V)->List (Str×V)
 |[]=>[(f,v)]
 |(g,x)::r=>if g=f then(g,v)::r else(g,x)::putF f v r
theorem eV(f g:Str)(v:V):∀fs:List (Str×V),(putF f v fs).lookup g=if g=f then some v else fs.lookup g
 |[]=>by
  show List.lookup g [(f,v)]=_;by_cases h:g=f
  ·have hb:(g==f)=true:=beq_iff_eq.mpr h;simp only[List.lookup,hb,xCg h]
  ·have hb:(g==f)=false:=beq_eq_false_iff_ne.mpr h;simp only[List.lookup,hb,xCf h]
 |(k,x)::r=>by
  have ih:=eV f g v r;rw[show putF f v ((k,x)::r)=(if k=f then(k,v)::r else(k,x)::putF f v r) from rfl];by_cases hk:k=f
  ·rw[xCg hk];by_cases h:g=k
   ·have hb:(g==k)=true:=beq_iff_eq.mpr h;simp only[List.lookup,hb,xCg (h.trans hk)]
   ·have hb:(g==k)=false:=beq_eq_false_iff_ne.mpr h;simp only[List.lookup,hb,xCf (λe:g=f=>h (e.trans hk.symm))]
  ·rw[xCf hk];by_cases h:g=k
   ·have hb:(g==k)=true:=beq_iff_eq.mpr h;simp only[List.lookup,hb,xCf (λe:g=f=>hk (h.symm.trans e))]
   ·have hb:(g==k)=false:=beq_eq_false_iff_ne.mpr h;simp only[List.lookup,hb];exact ih
theorem eP(f:Str)(v:V):∀fs:List (Str×V),f∈(putF f v fs).map (·.1)/\∀g,g∈fs.map (·.1)->g∈(putF f v fs).map (·.1)
 |[]=>⟨by simp[putF],λg h=>by simp at h⟩
 |(k,x)::r=>by
  obtain⟨i1,i2⟩:=eP f v r;rw[show putF f v ((k,x)::r)=(if k=f then(k,v)::r else(k,x)::putF f v r) from rfl];by_cases hk:k=f
  ·rw[xCg hk];subst hk;exact⟨by simp,λg h=>by simpa using h⟩
  ·rw[xCf hk];refine⟨?_,λg h=>?_⟩
   ·rw[xBs];exact xAs _ i1
   ·rw[xBs] at h⊢;rcases xAv.mp h with e|e
    ·exact xAv.mpr (.inl e)
    ·exact xAs _ (i2 g e)
theorem eW(f:Str)(v:V):∀fs:List (Str×V),(putF f v fs).length<=fs.length+1
 |[]=>by simp[putF]
 |(k,x)::r=>by
  have ih:=eW f v r;rw[show putF f v ((k,x)::r)=(if k=f then(k,v)::r else(k,x)::putF f v r) from rfl];by_cases hk:k=f
  ·rw[xCg hk,xAo,xAo];lia
  ·rw[xCf hk,xAo,xAo];lia
theorem RelO.some_of{v:V}{o:Option Value}(r:RelO (some v) o):∃u,o=some u/\RelV v u:=by
 cases o with
 |none=>exact(show False from r).elim
 |some u=>exact⟨u,rfl,r⟩
theorem RelO.none_of{o:Option Value}(r:RelO none o):o=none:=by
 cases o with
 |none=>rfl
 |some u=>exact(show False from r).elim
theorem mx{v:V}{u:Value}(r:RelV v u):W.handedIn u=true:=by
 cases v with
 |non=>cases (show u=Value.none from r);rfl
 |bl b=>cases (show u=Value.bool b from r);rfl
 |int i=>obtain⟨t,e⟩:=(show ∃t,u=Value.int i t from r);cases e;rfl
 |str x=>obtain⟨t,e⟩:=(show ∃t,u=Value.str x t from r);cases e;rfl
 |byt b=>obtain⟨t,e⟩:=(show ∃t,u=Value.bytes b t from r);cases e;rfl
 |flt b=>obtain⟨t,e⟩:=(show ∃t,u=Value.float b t from r);cases e;rfl
 |ref a=>cases (show u=Value.ref a from r);rfl
 |ty n=>cases (show u=Value.type n from r);rfl
section
variable{P:Program}{w:World}{H H':Hp}{h h':Heap}{a C dx:Addr}{fs fs':List (Str×V)}
theorem fm(hok:HOk P w H h)(e:H a=some (.ins C dx fs)):∃mA,ObjM h a dx C mA/\(∀f,RelO (fs.lookup f) (mA f))/\PySem.Within mA (fs.map (·.1))/\fs.length<=1000/\H dx=some (.own a):=by
 obtain⟨d,z,ne,ob,mA,n,r,q⟩:=(show ObjOk P w H h a (.ins C dx fs) from hok a _ e)
 exact⟨mA,⟨ob,n,ne⟩,r,q,z,d⟩
end
structure Cls(K:xFr)(C:Addr):Prop where
 pg:W.plainGet K C Str.empty=true
 hd:W.hasDictIn K C=true
 po:W.plainOver K C=true
 sa:W.findIn K (.ref C) "__setattr__"=some (some (.builtin "object.__setattr__"))
theorem Cls.get(c:Cls K C)(f:Str):W.plainGet K C f=true:=c.pg
def NoAttr(K:xFr)(C:Addr)(f:Str):Prop:=W.findIn K (.ref C) f=some none
theorem NoAttr.taker{f:Str}(n:NoAttr K C f):W.takerIn K C f=some none:=by
 unfold W.takerIn;rw[show W.findIn K (.ref C) f=some none from n];rfl
structure Meth(K:xFr)(C:Addr)(m:Str)(f:Addr):Prop where
 at_:W.findIn K (.ref C) m=some (some (.ref f))
 fn:W.isFn K (.ref f)=true
 kp:W.keepIn K (.ref f)=true
section
variable{X:Cx}{Z:List (Addr×Obj)}{σ:St}{H:Hp}{s:Shared}{a C dx:Addr}{fs:List (Str×V)}{f:Str}{v:V}{A:Around}{E:Value->Shared->Prop}
theorem jH{b:Bool}(I:Inv X Z σ H s)(e:H a=some (.ins C dx fs))(c:Cls X.K C)(n:NoAttr X.K C f)(l:fs.lookup f=some v)(h:∀u s',Inv X Z σ H s'->RelV v u->Q u s'):wpAny (model X.prog X.w) A (getAttr (.ref a) f b) Q E s:=by
 obtain⟨mA,O,r,_,_,_⟩:=fm I.hok e;obtain⟨u,hu,ru⟩:=RelO.some_of (v:=v) (o:=mA f) (by rw[<- l];exact r f);exact sn I.kIn O (c.get f) c.hd n hu (mx ru) (h u _ (I.tok _) ru)
theorem fR{m:Str}{g:Addr}{pl:Sem Bool}{Q:Value×List Value->Shared->Prop}(I:Inv X Z σ H s)(e:H a=some (.ins C dx fs))(c:Cls X.K C)(k:Meth X.K C m g)(l:fs.lookup m=none)(h:Q (.ref g,[.ref a]) s):wpAny (model X.prog X.w) A (getMethod (.ref a) m pl) Q E s:=by
 obtain⟨mA,O,r,_,_,_⟩:=fm I.hok e;have hn:mA m=none:=RelO.none_of (by rw[<- l];exact r m);exact pE I.kIn O (c.get m) k.at_ k.fn hn h
theorem jm{u:Value}{Q:Unit->Shared->Prop}(I:Inv X Z σ H s)(e:H a=some (.ins C dx fs))(c:Cls X.K C)(n:NoAttr X.K C f)(hl:fs.length<1000)(ry:RelV y u)(h:∀s',Inv X Z σ (upd H a (.ins C dx (putF f y fs))) s'->Q () s'):wpAny (model X.prog X.w) A (setAttr (.ref a) f u) Q E s:=by
 obtain⟨mA,O,r,wi,_,ho⟩:=fm I.hok e;have hz:(fs.map (·.1)).length<=sizeLine:=by rw[xAa,sizeLine_eq];lia
 refine qH I.kIn O c.sa c.po n.taker c.hd wi hz λh' O' sb=>h _ ?_;have hd:∃o,h'.get? dx=some o:=let ⟨o,_,_,e',_⟩:=O'.ns;⟨o,e'⟩;refine I.write (x:=a) (e:=dx) (by rw[e];exact True.intro) (.inr ho) (λb q hb z=>(sb.2 b hb).trans z) hd ?_;refine⟨by rw[bq O.ne];exact ho,?_,O.ne,O'.obj,_,O'.ns,λg=>?_,λg hg=>?_⟩
 ·have:=eW f y fs;lia
 ·show RelO ((putF f y fs).lookup g) (if g=f then some u else mA g);rw[eV];by_cases q:g=f
  ·rw[xCg q,xCg q];exact ry
  ·rw[xCf q,xCf q];exact r g
 ·by_cases q:g=f
  ·rw[q];exact(eP f y fs).1
  ·refine(eP f y fs).2 g (wi g λz=>hg ?_);show(if g=f then some u else mA g)=none;rw[xCf q];exact z
theorem Inv.made(I:Inv X Z σ H s):Inv X Z σ (upd (upd H s.heap.objs.size (.own (s.heap.objs.size+1))) (s.heap.objs.size+1) (.ins C s.heap.objs.size []))
  {s with heap:=(s.heap.push W.emptyDict).push (W.instObj C s.heap.objs.size)}:=by
 have e1:(s.heap.push W.emptyDict).get? s.heap.objs.size=some W.emptyDict:=xAl s.heap rfl;have e2:((s.heap.push W.emptyDict).push (W.instObj C s.heap.objs.size)).get? (s.heap.objs.size+1)=some (W.instObj C s.heap.objs.size):=by
  have:=xAl (s.heap.push W.emptyDict) (o:=W.instObj C s.heap.objs.size) rfl
  rwa[Heap.size_push] at this
 have e3:(s.heap.push W.emptyDict).Ns s.heap.objs.size (λ_=>none):=⟨W.emptyDict,#[],_,e1,rfl,(λe he=>absurd he (by simp)),λ_=>rfl⟩
 have I1:=I.laid (a:=s.heap.objs.size) (o:=.own (s.heap.objs.size+1)) (h':=s.heap.push W.emptyDict) (t':=s.toks) (λb u q=>xAf _ q) (xAg _) ⟨_,e1⟩;refine I1.laid (a:=s.heap.objs.size+1) (o:=.ins C s.heap.objs.size []) (t':=s.toks) (λb u q=>xAf _ q) (Nat.le_of_eq (Heap.size_push _ _)) ?_;have ne:s.heap.objs.size≠s.heap.objs.size+1:=xA0 (Nat.lt_succ_self _);refine⟨by rw[bq ne,bt],xBn _,ne,e2,λ_=>none,(Heap.Ns1.of_empty e3).at λo q=>xAf _ q,λ_=>True.intro,λy hy=>absurd rfl hy⟩
theorem sY{prog:Program}{w:World}{env:Env}{e:Expr}{f:Str}{s:Shared}(hb:attributeBase e f env (eval e env)=eval e env)(h:wpAny (model prog w) A (eval e env) (λo s₁=>wpAny (model prog w) A (getAttr o f true) Q E s₁) E s):wpAny (model prog w) A (eval (.Attribute e f pos) env) Q E s:=
 Attribute_any_ h (by rw[arm_eval_Attribute,hb])
end
def tFld(K:xFr)(ta:TE)(f:Str):TE:=λσ H Q=>ta σ H λx H1=>∃a C dx fs v,x=.ref a/\H1 a=some (.ins C dx fs)/\Cls K C/\NoAttr K C f/\fs.lookup f=some v/\Q v H1
def sFld(K:xFr)(ta tv:TE)(f:Str):TS:=λD σ H=>tv σ H λy H1=>ta σ H1 λx H2=>∃a C dx fs,x=.ref a/\H2 a=some (.ins C dx fs)/\Cls K C/\NoAttr K C f/\fs.length<1000 /\
 D.nx σ (upd H2 a (.ins C dx (putF f y fs)))
section
variable{X:Cx}{o e value:Expr}{f:Str}{pos pos' tpos:Pos}{ta tv:TE}
theorem vd(he:PE X e ta)(hb:attributeBase e f X.env (eval e X.env)=eval e X.env):PE X (.Attribute e f pos) (tFld X.K ta f):=by
 intro Z s σ H Q I h;refine sY hb (thn (he Z s σ H _ I h) λu s1 zz=>?_);obtain⟨x,H1,I1,rx,a,C,dx,fs,v,ex,ea,c,n,l,q⟩:=zz;subst ex;obtain rfl:u=Value.ref a:=rx;exact jH I1 ea c n l λu' s2 I2 ru=>⟨v,H1,I2,ru,q⟩
theorem uO(ha:PE X o ta)(hv:PE X value tv)(hs:swapsWith value (some (.Attribute o f pos')) pos.line X.env=pure false):PS X (.Assign [.Attribute o f pos'] value pos) (sFld X.K ta tv f):=by
 intro Z s σ H D I h;refine plainObj_wpAny_Assign_Attribute (thn (hv Z s σ H _ I h) λu s1 ⟨y,H1,I1,ry,q⟩=>thn (ha Z s1 σ H1 _ I1 q) λov s2 ⟨x,H2,I2,rx,a,C,dx,fs,ex,ea,c,n,l,q2⟩=>?_) hs;subst ex;obtain rfl:ov=Value.ref a:=rx;exact jm I2 ea c n l ry λs3 I3=>⟨σ,_,I3,q2⟩
end
section
variable{X:Cx}{Z:List (Addr×Obj)}{σ:St}{H:Hp}{s:Shared}{A:Around}{E:Value->Shared->Prop}{Q:Value->Shared->Prop}{c:Value}{b:Bool}
inductive TyOf(K:xFr)(H:Hp):V->Value->Prop where
 |non:TyOf K H .non (.type "NoneType")
 |bl (x:Bool):TyOf K H (.bl x) (.type "bool")
 |int (i:Int):TyOf K H (.int i) (.type "int")
 |str (x:Str):TyOf K H (.str x) (.type "str")
 |flt (x:UInt64):TyOf K H (.flt x) (.type "float")
 |lst {a:Addr} {xs:List V} (e:H a=some (.lst xs)):TyOf K H (.ref a) (.type "list")
 |frz {a:Addr} {o:Obj} {xs:List V} (e:H a=some (.frz o (.lst xs))):TyOf K H (.ref a) (.type "list")
 |tup {a:Addr} {xs:List V} (e:H a=some (.tup xs)):TyOf K H (.ref a) (.type "tuple")
 |dK {a:Addr} {kvs:List (Key×V)} (e:H a=some (.dK kvs)):TyOf K H (.ref a) (.type "dict")
 |dT {a:Addr} {kvs:List (List Key×V)} (e:H a=some (.dT kvs)):TyOf K H (.ref a) (.type "dict")
 |ins {a C dx:Addr} {fs:List (Str×V)} (e:H a=some (.ins C dx fs)) (cl:Cls K C) (ha:W.findIn K (.ref C) "__class__"=some (some (.builtin "object.__class__")))
   (hn:W.specialIn K (.builtin "object.__class__") "__get__"=some (some (.builtin "getset_descriptor.__get__"))) (htk:W.takesIn K (.builtin "object.__class__")=some true)
   (hm:W.mroIn K C (.type "object")=some true):TyOf K H (.ref a) (.ref C)
theorem mj{x:V}{u t:Value}(I:Inv X Z σ H s)(rx:RelV x u)(ty:TyOf X.K H x t)(e:W.kitOne X.K t c=some b)(h:∀tk,Q (.bool b) {s with toks:=tk}) :
  wpAny (model X.prog X.w) A (call (.builtin "isinstance") [u,c]) Q E s:=by
 cases ty with
 |non=>cases (show u=Value.none from rx);exact W.kia_one W.kitx_none I.kIn True.intro e (λz=>nomatch z) h
 |bl y=>cases (show u=Value.bool y from rx);exact W.kia_one W.kitx_bool I.kIn True.intro e (λz=>nomatch z) h
 |int i=>obtain⟨t,q⟩:=(show ∃t,u=Value.int i t from rx);cases q;exact W.kia_one W.kitx_int I.kIn True.intro e (λz=>nomatch z) h
 |str y=>obtain⟨t,q⟩:=(show ∃t,u=Value.str y t from rx);cases q;exact W.kia_one W.kitx_str I.kIn True.intro e (λz=>nomatch z) h
 |flt y=>obtain⟨t,q⟩:=(show ∃t,u=Value.float y t from rx);cases q;exact W.kia_one W.kitx_float I.kIn True.intro e (λz=>nomatch z) h
 |@lst a xs ea=>
  cases (show u=Value.ref a from rx);obtain⟨_,_,n,_,h1⟩:=(show ObjOk X.prog X.w H s.heap a (.lst xs) from I.hok a _ ea)
  exact W.kia_one W.kitx_list I.kIn ⟨_,h1,rfl⟩ e (λz=>nomatch z) h
 |@frz a ob xs ea=>
  cases (show u=Value.ref a from rx);obtain⟨_,_,_,n,_,h1⟩:=(show ObjOk X.prog X.w H s.heap a (.frz ob (.lst xs)) from I.hok a _ ea)
  exact W.kia_one W.kitx_list I.kIn ⟨_,h1,rfl⟩ e (λz=>nomatch z) h
 |@tup a xs ea=>
  cases (show u=Value.ref a from rx);obtain⟨_,_,_,p⟩:=(show ObjOk X.prog X.w H s.heap a (.tup xs) from I.hok a _ ea)
  obtain⟨o,h1,h2,_⟩:=p;exact W.kia_one W.kitx_tuple I.kIn ⟨o,h1,h2⟩ e (λz=>nomatch z) h
 |@dK a kvs ea=>
  cases (show u=Value.ref a from rx);obtain⟨_,_,vs,_,p⟩:=(show ObjOk X.prog X.w H s.heap a (.dK kvs) from I.hok a _ ea)
  obtain⟨o,es,ep,h1,h2,_⟩:=p;exact W.kia_one W.kitx_dict I.kIn ⟨o,h1,h2.1⟩ e (λz=>nomatch z) h
 |@dT a kvs ea=>
  cases (show u=Value.ref a from rx);obtain⟨_,_,xs,_,o,es,ep,h1,h2,_⟩:=(show ObjOk X.prog X.w H s.heap a (.dT kvs) from I.hok a _ ea)
  exact W.kia_one W.kitx_dict I.kIn ⟨o,h1,h2.1⟩ e (λz=>nomatch z) h
 |@ins a C dx fs ea cl ha hn htk hm=>
  cases (show u=Value.ref a from rx);obtain⟨mA,O,_⟩:=fm I.hok ea;obtain⟨od,J,_⟩:=O.look;exact W.kia_one (W.kitx_own (cl.get _) cl.hd ha hn htk hm) I.kIn J e (λz=>nomatch z) h
end
structure Room(k:Nat)(A:Around):Prop where
 hd:A.handled=none
 dp:A.depth+3*k+5<recursionLimit
 un:A.units+16*k+200<cLine
 gd:A.guards=some []
theorem Room.mono(r:Room k A)(h:j<=k):Room j A:=⟨r.hd,by have:=r.dp;lia,by have:=r.un;lia,r.gd⟩
theorem Room.deeper{k:Nat}{A:Around}(r:Room (k+1) A)(env:Env):Room k (A.deeper env):=
 ⟨r.hd,by have:=r.dp;show A.depth+1+3*k+5<_;lia,by have:=r.un;show A.units+3+16*k+200<_;lia,r.gd⟩
theorem jD{us:List Value}:(A.under (.builtin "type.__call__" ⟨.ref C::us,kw⟩)).depth=A.depth+1:=by
 first|rfl|simp[Around.under,Code.weight,Code.isCreation,Code.isGuard,Code.isCaller,Code.frames,Code.isFrame,guardIds]
theorem jC{us:List Value}:(A.under (.builtin "type.__call__" ⟨.ref C::us,kw⟩)).units=A.units+1:=by
 first|rfl|simp[Around.under,Code.cUnits,Code.frames,Code.isFrame]
theorem iQ{us:List Value}:(A.under (.builtin "type.__call__" ⟨.ref C::us,kw⟩)).guards=A.guards:=by
 first|rfl|simp[Around.under,Code.weight,Code.isCreation,Code.isGuard,Code.isCaller,Code.frames,Code.isFrame,guardIds]
theorem Room.make(r:Room (k+1) A)(C:Addr)(us:List Value)(kw:List (Str×Value)):Room k (A.under (.builtin "type.__call__" ⟨.ref C::us,kw⟩)):=
 ⟨r.hd,by have:=r.dp;rw[jD];lia,by have:=r.un;rw[jC];lia,iQ.trans r.gd⟩
theorem Room.depth{k:Nat}{A:Around}(r:Room k A):A.depth<recursionLimit:=by have:=r.dp;lia
def tNil:TA:=λ_ H Q=>Q [] H
def tCons(ta:TE)(tr:TA):TA:=λσ H Q=>ta σ H λx H1=>tr σ H1 λxs H2=>Q (x::xs) H2
section
variable{X:Cx}{e:Expr}{es:List Expr}{te:TE}{t:TA}{pos:Pos}
theorem eJ:PA X [] tNil:=λ_ _ _ _ H Q I h=>Calls.spliced_nil ⟨[],H,I,.nil,h⟩
theorem rH(ha:PE X e te)(hr:PA X es t)(hs:starEach (e::es) X.env=(false,eval e X.env)::starEach es X.env:=by rfl):PA X (e::es) (tCons te t):=by
 intro pos Z s σ H Q I h;rw[hs];show wpAny _ _ (spliced ((false,eval e X.env)::backTo pos (starEach es X.env))) _ _ s;refine Calls.spliced_cons (thn (ha Z s σ H _ I h) λu s1 zz=>?_);obtain⟨x,H1,I1,r1,q1⟩:=zz;exact thn (hr pos Z s1 σ H1 _ I1 q1) λus s2 ⟨xs,H2,I2,r2,q2⟩=>⟨x::xs,H2,I2,.cons r1 r2,q2⟩
def tTup(t:TA):TE:=λσ H Q=>t σ H λxs H1=>xs.length<=sizeLine/\∀p,H1 p=none->Q (.ref p) (upd H1 p (.tup xs))
def tLst(t:TA):TE:=λσ H Q=>t σ H λxs H1=>xs.length<=sizeLine/\∀p,H1 p=none->Q (.ref p) (upd H1 p (.lst xs))
theorem u0{x1}(h:PA X es t):PE X (.Tuple es x1 pos) (tTup t):=by
 intro Z s σ H Q I hq;refine wpAny_Tuple_spliced (thn (h pos Z s σ H _ I hq) λus s1 ⟨xs,H1,I1,r,z,q⟩=>⟨by rw[<- r.length];exact z,?_⟩);have hf:H1 s1.heap.objs.size=none:=I1.hok.fresh (xAg _);refine⟨.ref s1.heap.objs.size,upd H1 s1.heap.objs.size (.tup xs),I1.laid (t':=s1.toks) (λb u e=>xAf _ e) (xAg _) ?_,rfl,q _ hf⟩;exact⟨z,us,r,⟨_,xAl _ rfl,rfl,_,rfl⟩⟩
theorem va(h:PA X es t):PE X (.List es pos) (tLst t):=by
 intro Z s σ H Q I hq;refine wpAny_List_spliced (thn (h pos Z s σ H _ I hq) λus s1 ⟨xs,H1,I1,r,z,q⟩=>⟨by rw[<- r.length];exact z,?_⟩);have hf:H1 s1.heap.objs.size=none:=I1.hok.fresh (xAg _);refine⟨.ref s1.heap.objs.size,upd H1 s1.heap.objs.size (.lst xs),I1.laid (t':=s1.toks) (λb u e=>xAf _ e) (xAg _) ?_,rfl,q _ hf⟩;exact⟨z,us,0,r,xAl _ rfl⟩
end
noncomputable abbrev Sp:=List V->Hp->VK->XK->Prop
noncomputable abbrev CXT:=List Env->Hp->Shared->XK->Value->Shared->Prop
structure Env0(P:Program)(w:World)(K:xFr)(mg:Str->Option Value)(base:Heap)(A:Around)(outer:List Env)(s:Shared)(H:Hp):Prop where
 frames:A.frames=some outer
 mod:Mod K mg base
 bs:∀b o,base.get? b=some o->s.heap.get? b=some o/\H b=none
 bsz:base.objs.size<=s.heap.objs.size
 funs:s.heap.FunFrames base outer
 frf:∀b∈frs outer,H b=none
 hok:HOk P w H s.heap
 bare:AllBare s.gens
def CE(outer:List Env)(P:Program)(w:World)(H:Hp)(s:Shared)(Q:VK)(u:Value)(s':Shared):Prop:=
 ∃v H',s'.os=s.os/\AllBare s'.gens/\Un (frs outer) [] H H' s.heap s'.heap/\HOk P w H' s'.heap/\RelV v u/\Q v H'
def CR(CX:CXT)(outer:List Env)(P:Program)(w:World)(H:Hp)(s:Shared)(Q:VK)(E:XK)(r:Result)(s':Shared):Prop:=
 match r with
 |.ok (.ret u)=>CE outer P w H s Q u s'
 |.ok _=>False
 |.error e=>CX outer H s E e s'
structure FnOk(P:Program)(w:World)(K:xFr)(mg:Str->Option Value)(base:Heap)(CX:CXT)(k:Nat)(f:Addr)(fd:FuncData)(ps:List Str)(sp:Sp):Prop where
 len:∀vs H Q E,sp vs H Q E->vs.length=ps.length
 run:∀(A:Around)(outer:List Env)(s:Shared)(H:Hp)(args:Args)(us:List Value)(vs:List V)(Q:VK)(E:XK),Room k A->Env0 P w K mg base A outer s H->BindsTo s fd args (ps.zip us)->Vals vs us->sp vs H Q E ->
  codeAny (model P w) A (.call (.ref f) args) (CR CX outer P w H s Q E) s
theorem FnOk.imp{P:Program}{w:World}{f:Addr}{sp':Sp}(F:FnOk P w K mg base CX k f fd ps sp)(h:∀vs H Q E,sp' vs H Q E->sp vs H Q E):FnOk P w K mg base CX k f fd ps sp':=
 ⟨λvs H Q E q=>F.len vs H Q E (h _ _ _ _ q),λA outer s H args us vs Q E hr he hb hv hs=>F.run A outer s H args us vs Q E hr he hb hv (h _ _ _ _ hs)⟩
theorem Env0.make{P:Program}{w:World}{s:Shared}(e:Env0 P w K mg base A outer s H)(C:Addr)(us:List Value)(kw:List (Str×Value)) :
  Env0 P w K mg base (A.under (.builtin "type.__call__" ⟨.ref C::us,kw⟩)) outer s H:=⟨by first|exact e.frames|(simpa [Around.under,Code.envs,Code.isFrame,pushEnvs] using e.frames),e.mod,e.bs,e.bsz,e.funs,e.frf,e.hok,e.bare⟩
section
variable{X:Cx}{Z:List (Addr×Obj)}{σ:St}{H:Hp}{s s':Shared}
theorem Inv.env0(I:Inv X Z σ H s):Env0 X.prog X.w X.K X.mg X.base X.A X.stack s H:=
 ⟨I.ok.frames,I.ok.mod,I.bs,xCk I.ok.bsz I.sz,I.stack,I.stkFree,I.hok,I.bare⟩
theorem Inv.after{Q:VK}{u:Value}(I:Inv X Z σ H s)(h:CE X.stack X.prog X.w H s Q u s'):EP X Z σ Q u s':=by
 obtain⟨v,H',os,bare,un,hok,r,q⟩:=h;obtain⟨hh,g,d,t,os'⟩:=s';obtain rfl:os'=s.os:=os;exact⟨v,H',I.call (h':=hh) (g':=g) (d':=d) (t':=t) (ch:=[]) un hok bare (λb z=>absurd z (by simp)),r,q⟩
end
def tMake(C:Addr)(sp:Sp)(dvs:List V)(E:XK)(t:TA):TE:=λσ H Q=>t σ H λvs H1=>∀x dx,H1 x=none->H1 dx=none->dx≠x ->
 sp (.ref x::(vs++dvs)) (upd (upd H1 dx (.own x)) x (.ins C dx [])) (λv H2=>v=.non/\Q (.ref x) H2) E
def Binds(K:xFr)(fd:FuncData)(ps:List Str)(ds:List Value):Prop:=
 ∀(s:Shared)(us:List Value),K.In s.heap->(us++ds).length=ps.length->BindsTo s fd ⟨us,[]⟩ (ps.zip (us++ds))
theorem Binds.all(h:∀us:List Value,us.length=ps.length->bindArgs fd ⟨us,[]⟩=pure (ps.zip us)):Binds K fd ps []:=λs us _ hl=>by
 rw[xB0] at hl⊢;exact .of_eq (h us hl)
def Passes(CX:CXT)(X:Cx)(E:XK):Prop:=∀(Z:List (Addr×Obj))(σ:St)(H:Hp)(s:Shared)(e:Value)(s':Shared),Inv X Z σ H s->CX X.stack H s E e s'->X.xe e s'
section
variable{X:Cx}{CX:CXT}{k:Nat}{f C:Addr}{fd:FuncData}{ps:List Str}{sp:Sp}{dvs:List V}{ds:List Value}{E:XK}{x m:Str}{p pos apos:Pos}{e o:Expr}{es:List Expr}{ta:TE}{t:TA}
structure Mk(K:xFr)(C f:Addr):Prop where
 makes:W.makesIn K C=true
 init:W.findIn K (.ref C) "__init__"=some (some (.ref f))
 fn:W.isFn K (.ref f)=true
 kp:W.keepIn K (.ref C)=true
theorem iy{σ:St}{s:Shared}{Q:VK}{us:List Value}(M:Mk X.K C f)(F:FnOk X.prog X.w X.K X.mg X.base CX k f fd ps sp)(hr:Room (k+1) X.A)(hb:Binds X.K fd ps ds)(hd:Vals dvs ds)(hx:Passes CX X E)(I:Inv X Z σ H s)(r:Vals vs us)(h:∀x dx,H x=none->H dx=none->dx≠x->sp (.ref x::(vs++dvs)) (upd (upd H dx (.own x)) x (.ins C dx [])) (λv H2=>v=.non/\Q (.ref x) H2) E) :
  wpAny (model X.prog X.w) X.A (call (.ref C) us) (EP X Z σ Q) X.xe s:=by
 have hq:=h (s.heap.objs.size+1) s.heap.objs.size (I.hok.fresh (Nat.le_succ _)) (I.hok.fresh (xAg _)) (xA0 (Nat.lt_succ_self _));have I2:=Inv.made (C:=C) I;have r2:Vals (V.ref (s.heap.objs.size+1)::(vs++dvs)) (Value.ref (s.heap.objs.size+1)::(us++ds)):=.cons rfl (r.append hd);have hl:(Value.ref (s.heap.objs.size+1)::us++ds).length=ps.length:=by
  have e:=r2.length;rw[F.len _ _ _ _ hq] at e;exact e.symm
 refine wpAny_call (o9 (f:=f) I.kIn M.makes M.init (beq_iff_eq.mp M.fn) (codeAny_mono (F.run _ X.stack _ _ ⟨Value.ref (s.heap.objs.size+1)::us,[]⟩ (Value.ref (s.heap.objs.size+1)::(us++ds)) _ _ E (hr.make C us [])
  (I2.env0.make C us []) (hb _ (Value.ref (s.heap.objs.size+1)::us) I2.kIn hl) r2 hq) λr s' hq'=>?_))
 cases r with
 |error e=>exact hx Z σ _ _ e s' I2 hq'
 |ok fl=>
  cases fl with
  |ret u=>
   obtain⟨v,H',I3,rv,ev,q3⟩:=I2.after hq';subst ev;exact⟨rv,⟨V.ref (s.heap.objs.size+1),H',I3,rfl,q3⟩⟩
  |next=>exact False.elim hq'
  |brk=>exact False.elim hq'
  |cont=>exact False.elim hq'
theorem rA(M:Mk X.K C f)(F:FnOk X.prog X.w X.K X.mg X.base CX k f fd ps sp)(hr:Room (k+1) X.A)(hg:Gl X x)(hm:X.mg x=some (.ref C))(hb:Binds X.K fd ps ds)(hd:Vals dvs ds)(hx:Passes CX X E)(ha:PA X (e::es) t)(hdb:(x==("__debug__":Str))=false:=by decide)(he:starEach (e::es) X.env=(false,eval e X.env)::starEach es X.env:=by rfl)(hpl:(backTo pos (starEach es X.env)).any (·.1)=false:=by rfl) :
  PE X (.Call (.Name x p) (e::es) [] pos) (tMake C sp dvs E t):=by
 intro Z s σ H Q I h;refine wpAny_Call_Name_kw (er I hg hm ?_ hdb);refine W.callWith_K (h₀:=X.base) I.ok.mod.kin M.kp (thn (ha pos Z s σ H _ I h) λus s1 ⟨vs,H1,I1,r,q⟩=>⟨I1.kIn,?_⟩) he hpl;exact iy M F hr hb hd hx I1 r q
theorem oA(M:Mk X.K C f)(F:FnOk X.prog X.w X.K X.mg X.base CX k f fd ps sp)(hr:Room (k+1) X.A)(hg:Gl X x)(hm:X.mg x=some (.ref C))(hb:Binds X.K fd ps ds)(hd:Vals dvs ds)(hx:Passes CX X E)(hdb:(x==("__debug__":Str))=false:=by decide):PE X (.Call (.Name x p) [] [] pos) (tMake C sp dvs E tNil):=by
 intro Z s σ H Q I h;refine wpAny_Call_Name_kw (er I hg hm ?_ hdb);exact W.callWith_K0 I.kIn M.kp (iy (us:=[]) M F hr hb hd hx I .nil h)
end
structure FnScope(N P:List Str)(sc:Scope):Prop where
 kind:sc.kind=.function
 co:sc.isCoroutine=false
 gen:sc.isGenerator=false
 nd:N.Nodup
 pre:N.take P.length=P
 par:∀x∈P,sc.names.lookup x=some .local\/sc.names.lookup x=some .cell
 nofree:∀y∈sc.names,y.2≠.free
theorem gq{kindOf:Str->Option NameKind}{x:Str}:∀{binds:List (Str×Value)}{m:Str->Option Value},(∀v,(x,v)∉binds)->bindL kindOf binds m x=m x
 |[],_,_=>rfl
 |(n,v)::r,m,h=>by
  unfold bindL;rw[gq λw hw=>h w (xAs _ hw)];split
  ·have:x≠n:=by rintro rfl;exact h v xAr
   simp[this]
  ·rfl
theorem gw{kindOf:Str->Option NameKind}{x:Str}:∀{binds:List (Str×Value)}{m:Str->Option Value},(∀v,(x,v)∉binds)->bindC kindOf binds m x=m x
 |[],_,_=>rfl
 |(n,v)::r,m,h=>by
  unfold bindC;rw[gw λw hw=>h w (xAs _ hw)];split
  ·rfl
  ·have:x≠n:=by rintro rfl;exact h v xAr
   simp[this]
theorem gu{kindOf:Str->Option NameKind}{x:Str}{v:Value}:∀{P:List Str}{vs:List Value}{i:Nat}{m:Str->Option Value},P.Nodup->P[i]?=some x->vs[i]?=some v->kindOf x=some .local ->
  bindL kindOf (P.zip vs) m x=some v
 |[],_,_,_,_,h,_,_=>by simp at h
 |_::_,[],_,_,_,_,h,_=>by simp at h
 |p::P,w::vs,0,m,nd,h1,h2,hk=>by
  simp at h1 h2;subst h1;subst h2;show bindL kindOf ((p,w)::P.zip vs) m p=_;unfold bindL;rw[gq λv hv=>(xCb.mp nd).1 (List.of_mem_zip hv).1,xCg hk];simp
 |p::P,w::vs,i+1,m,nd,h1,h2,hk=>by
  show bindL kindOf ((p,w)::P.zip vs) m x=_;unfold bindL;exact gu (i:=i) (xCb.mp nd).2 (by simpa using h1) (by simpa using h2) hk
theorem gx{kindOf:Str->Option NameKind}{x:Str}{v:Value}:∀{P:List Str}{vs:List Value}{i:Nat}{m:Str->Option Value},P.Nodup->P[i]?=some x->vs[i]?=some v->kindOf x≠some .local ->
  bindC kindOf (P.zip vs) m x=some v
 |[],_,_,_,_,h,_,_=>by simp at h
 |_::_,[],_,_,_,_,h,_=>by simp at h
 |p::P,w::vs,0,m,nd,h1,h2,hk=>by
  simp at h1 h2;subst h1;subst h2;show bindC kindOf ((p,w)::P.zip vs) m p=_;unfold bindC;rw[gw λv hv=>(xCb.mp nd).1 (List.of_mem_zip hv).1,xCf hk];simp
 |p::P,w::vs,i+1,m,nd,h1,h2,hk=>by
  show bindC kindOf ((p,w)::P.zip vs) m x=_;unfold bindC;exact gx (i:=i) (xCb.mp nd).2 (by simpa using h1) (by simpa using h2) hk
def start(N:List Str)(vs:List V):St:=vs.map some++List.replicate (N.length-vs.length) none
noncomputable def cxOf(CX:CXT)(P:Program)(w:World)(K:xFr)(mg:Str->Option Value)(base:Heap)(N:List Str)(qual:Str)(scope:Scope)(f:Addr)(cd:Value)(A:Around)(outer:List Env)(s:Shared)(H:Hp)(E:XK):Cx where
 prog:=P
 w:=w
 K:=K
 mg:=mg
 base:=base
 A:=A.deeper (envOfC qual scope s.heap.objs.size f cd)
 N:=N
 s₀:=s
 H₀:=H
 env:=envOfC qual scope s.heap.objs.size f cd
 outer:=outer
 stack:=envOfC qual scope s.heap.objs.size f cd::outer
 ex:=[]
 calm:=true
 fn:=λ_=>true
 pn:=[]
 xe:=λe s'=>wpAny (model P w) (A.deeper (envOfC qual scope s.heap.objs.size f cd)) (leaving (envOfC qual scope s.heap.objs.size f cd) e) (λ_ s''=>CX outer H s E e s'') (λe' s''=>CX outer H s E e' s'') s'
theorem fW{sc:Scope}{n:Nat}{x:Str}(h:sc.names.lookup x=some .cell):∃c,(cellsFrom n sc.names []).lookup x=some c:=by
 have q:=W.cellsFrom_some sc.names n [] (.inl h);exact Option.isSome_iff_exists.mp q
theorem mn{P:Program}{w:World}{f:Addr}{cd:Value}{s s1:Shared}{E:XK}{us:List Value}(S:FnScope N ps scope)(hd:A.handled=none)(e0:Env0 P w K mg base A outer s H)(hl:vs.length=ps.length)(r:Vals vs us)(x:InCallC s s.heap.objs.size (bindL (envOfC qual scope s.heap.objs.size f cd).kindOf (ps.zip us) λ_=>none) (cellsFrom (s.heap.objs.size+1) scope.names []) (bindC (envOfC qual scope s.heap.objs.size f cd).kindOf (ps.zip us) λ_=>none) s1) :
  Inv (cxOf CX P w K mg base N qual scope f cd A outer s H E) [] (start N vs) H s1:=by
 have hpl:ps.length<=N.length:=by have:=congrArg List.length S.pre;rw[List.length_take] at this;lia
 obtain⟨h1,tk,rfl,hk⟩:=x.done;have noA:∀b:Addr,b ∉ (cxOf CX P w K mg base N qual scope f cd A outer s H E).ex:=λb z=>absurd (show b∈([]:List Addr) from z) (by simp);refine⟨⟨e0.mod,S.kind,rfl,rfl,xAg _,λy z c h1 h2=>?_,λy hy=>?_,λy c _ h=>?_,λ_=>hd,Around.frames_deeper e0.frames,.inr ⟨rfl,rfl⟩,λb z=>absurd z (noA b),e0.bs,e0.bsz,λb _ _=>noA b,λb z=>absurd z (noA b),e0.funs,e0.frf⟩,
  rfl,e0.bare,Un.kept hk,⟨_,x.toInCall.ns,λi y v h1 h2 h3=>?_⟩,λy c h=>⟨_,x.cell y c h⟩,e0.hok.fresh (xAg _),λy c h=>?_,λp hp=>absurd (show p∈([]:List (Addr×Obj)) from hp) (by simp),e0.hok.kept hk,?_⟩
 ·exact name_of_addr x.apart (PySem.mem_of_lookup h1) (PySem.mem_of_lookup h2)
 ·have hy:scope.names.lookup y=some .cell\/scope.names.lookup y=some .free:=hy;rcases hy with hy|hy
  ·exact fW hy
  ·exact absurd rfl (S.nofree _ (PySem.mem_of_lookup hy))
 ·exact Nat.le_of_lt (x.above y c (PySem.mem_of_lookup h))
 ·have hi:i<vs.length:=by
   unfold start at h2;by_cases hi:i<vs.length
   ·exact hi
   ·rw[xCl (by simpa using hi)] at h2;rw[List.getElem?_replicate] at h2;split at h2 <;> cases h2
  have ha:vs[i]?=some v:=by
   unfold start at h2;rw[List.getElem?_append_left (by simpa using hi),xAw] at h2;cases e:vs[i]? with
   |none=>rw[e] at h2;cases h2
   |some a=>rw[e] at h2;cases h2;rfl
  obtain⟨u,hu,rv⟩:=r.get ha;have hp:ps[i]?=some y:=by
   rw[<- S.pre,List.getElem?_take_of_lt (by lia)];exact h1
  have ndP:ps.Nodup:=by rw[<- S.pre];exact S.nd.sublist (List.take_sublist _ _)
  refine⟨u,rv,?_⟩;rcases S.par y (xAc hp) with k|k
  ·exact .inl ⟨k,gu ndP hp hu k⟩
  ·obtain⟨c,e⟩:=fW (n:=s.heap.objs.size+1) k;refine .inr ⟨.inl k,c,e,?_⟩;have q:=x.cell y c e;rw[gx ndP hp hu (by show scope.names.lookup y≠_;rw[k];decide)] at q;exact q
 ·exact e0.hok.fresh (Nat.le_of_lt (x.above y c (PySem.mem_of_lookup h)))
 ·unfold start;show _=N.length;rw[xAb,xAa,xCu];lia
theorem yj{P:Program}{w:World}{f:Addr}{name:Str}{params:Arguments}{body:List Stmt}{dV kV doc pm cdv ct oc:Value}{an od:Option Addr}{osl:Array (Option Value)}(lk:K.lookup f=some ⟨oc,od,.func (W.fnOf name qual params body scope dV kV doc pm an cdv ct),osl⟩)(hcd:W.codeIn K cdv qual=true)(S:FnScope N ps scope)(len:∀vs H Q E,sp vs H Q E->vs.length=ps.length)(hbody:∀(A:Around)(outer:List Env)(s:Shared)(H:Hp)(vs:List V)(Q:VK)(E:XK),Room k (A.deeper (envOfC qual scope s.heap.objs.size f cdv))->sp vs H Q E ->
   ∃t,PSs (cxOf CX P w K mg base N qual scope f cdv A outer s H E) body t/\t {nx:=λ_ H'=>Q .non H',rt:=Q} (start N vs) H) :
  FnOk P w K mg base CX (k+1) f (W.fnOf name qual params body scope dV kV doc pm an cdv ct) ps sp:=by
 refine⟨len,λA outer s H args us vs Q E hr e0 hb r hsp=>?_⟩;have hl:=len _ _ _ _ hsp;have KX:K.In s.heap:=e0.mod.kin.keeps λb o e=>(e0.bs b o e).1;have lim:s.heap.NoLimit:=e0.mod.nolimit.keeps λb o e=>(e0.bs b o e).1;have hkind:∀y∈ps.zip us,scope.names.lookup y.1=some .local\/(scope.names.lookup y.1=some .cell/\((cellsFrom (s.heap.objs.size+1) scope.names []).lookup y.1).isSome=true):=λ⟨n,v⟩ hy=>by
  rcases S.par n (List.of_mem_zip hy).1 with q|q
  ·exact .inl q
  ·exact .inr ⟨q,W.cellsFrom_some _ _ _ (.inl q)⟩
 refine codeAny_call_function hr.depth (KX _ _ lk) rfl S.co S.gen rfl (W.codeRec_of KX hcd) (hb _ _ _ _ ?_);refine wpAny_newFunctionEnv_cells S.kind hkind λenv he s1 x=>?_;subst he;refine⟨lim.keeps x.toInCall.keep,codeAny_func ?_⟩;obtain⟨t,ht,hq⟩:=hbody A outer s H vs Q E (hr.deeper _) hsp;have I:Inv (cxOf CX P w K mg base N qual scope f cdv A outer s H E) [] (start N vs) H s1:=mn S hr.hd e0 hl r x;refine wpAny_mono (ht [] s1 (start N vs) H _ I hq) (λfl s' hs=>?_) λe s' hs=>hs;have fin:∀{σ':St}{H':Hp}{v:V}{u:Value},Inv (cxOf CX P w K mg base N qual scope f cdv A outer s H E) [] σ' H' s'->RelV v u->Q v H'->CE outer P w H s Q u s':=
  λ{σ' H' v u} J rv q=>⟨v,H',J.os,J.bare,J.base,J.hok,rv,q⟩
 cases fl with
 |ret u=>
  obtain⟨v,σ',H',J,rv,q⟩:=hs;exact fin J rv q
 |next=>
  obtain⟨σ',H',J,q⟩:=hs;exact fin (v:=V.non) (u:=Value.none) J rfl q
 |brk=>
  obtain⟨_,_,_,q⟩:=hs;exact False.elim q
 |cont=>
  obtain⟨_,_,_,q⟩:=hs;exact False.elim q
section
variable{X:Cx}{x:Str}{p pos:Pos}{e:Expr}{es:List Expr}{t:TA}{id T:String}{r:List V->Hp->VK->Prop}
def tCB(r:List V->Hp->VK->Prop)(t:TA):TE:=λσ H Q=>t σ H λvs H1=>r vs H1 Q
theorem oI(hc:CallR X (.builtin id) r)(hg:Gl X x)(hm:X.mg x=none)(hv:bootBuiltins x=some (.builtin id))(ha:PA X (e::es) t)(hn:x≠"__name__":=by decide)(hdb:(x==("__debug__":Str))=false:=by decide)(he:starEach (e::es) X.env=(false,eval e X.env)::starEach es X.env:=by rfl)(hpl:(backTo pos (starEach es X.env)).any (·.1)=false:=by rfl):PE X (.Call (.Name x p) (e::es) [] pos) (tCB r t):=by
 intro Z s σ H Q I h;refine wpAny_Call_Name_kw (eN I hg hm hv ?_ hn hdb);exact PyProof.Rows.callWith_builtin1 (thn (ha pos Z s σ H _ I h) λus s1 ⟨vs,H1,I1,r1,q1⟩=>hc Z s1 σ H1 vs us Q I1 r1 q1) he hpl
theorem lU(hc:CallR X (.type T) r)(hg:Gl X x)(hm:X.mg x=none)(hv:bootBuiltins x=some (.type T))(ha:PA X (e::es) t)(hn:x≠"__name__":=by decide)(hdb:(x==("__debug__":Str))=false:=by decide)(he:starEach (e::es) X.env=(false,eval e X.env)::starEach es X.env:=by rfl)(hpl:(backTo pos (starEach es X.env)).any (·.1)=false:=by rfl):PE X (.Call (.Name x p) (e::es) [] pos) (tCB r t):=by
 intro Z s σ H Q I h;refine wpAny_Call_Name_kw (eN I hg hm hv ?_ hn hdb);exact PyProof.Rows.callWith_type1 (thn (ha pos Z s σ H _ I h) λus s1 ⟨vs,H1,I1,r1,q1⟩=>hc Z s1 σ H1 vs us Q I1 r1 q1) he hpl
end
end L2
namespace HT
open PySem PyProof.Rows
variable{t sl:Addr}{Q:Value->Shared->Prop}{vl vu:Value}{lo hi:Option Int}
section
open PySem.SeqAt
open PySem.AutoSeq1 (wpAny_loadPart')
open PySem.MeetsSeq PySem.MeetsSeq2 PySem.MeetsSeq3
end
section
variable{prog:Program}{w:World}{A:Around}{E:Value->Shared->Prop}{s:Shared}
theorem cat_tup{b:Addr}{vs ws:List Value}(ht:IsTup s.heap t vs.toArray)(hb:IsTup s.heap b ws.toArray)(hv:vs≠[])(h1:ws=[]->Q (.ref t) s)(h2:ws≠[]->Q (.ref s.heap.objs.size) {s with heap:=s.heap.push {cls:=.type "tuple",data:=.seq (vs++ws).toArray} })(hsz:vs.length+ws.length<=sizeLine):wpAny (model prog w) A (binaryOp .Add (.ref t) (.ref b)) Q E s:=by
 obtain⟨⟨cls,dd,data,sl⟩,ho,hc,n,hd⟩:=id ht;obtain⟨⟨cls2,dd2,data2,sl2⟩,ho2,hc2,n2,hd2⟩:=id hb;simp only at hc hd hc2 hd2;subst hc hd hc2 hd2;have e:vs.toArray++ws.toArray=(vs++ws).toArray:=by simp
 by_cases hw:ws=[]
 ·exact concat_meets ⟨_,ho,rfl⟩ ⟨_,ho2,rfl⟩ noFill_tuple_add seq_tuple_add PySem.F.slot_tuple_add PySem.F.entry_tuple_add (PySem.F.args_tuple_add_2 _ _)
   (tuple_addW1 t b vs.toArray ws.toArray n n2 dd dd2 sl sl2 (by simpa using hv) (by simp[hw])) ⟨ho,ho2,h1 hw⟩
 ·refine concat_meets ⟨_,ho,rfl⟩ ⟨_,ho2,rfl⟩ noFill_tuple_add seq_tuple_add PySem.F.slot_tuple_add PySem.F.entry_tuple_add (PySem.F.args_tuple_add_2 _ _)
   (tuple_addW2 t b vs.toArray ws.toArray n n2 dd dd2 sl sl2 (by simpa using hv) (by simpa using hw) (by rw[xAp,xAp];exact hsz)) ⟨ho,ho2,?_⟩
  rw[e];exact h2 hw
noncomputable def sIx(n d:Nat):Option Int->Nat
 |none=>d
 |some v=>if v<0 then(v+(n:Int)).toNat else min v.toNat n
theorem sIx_none(n d:Nat):sIx n d none=d:=rfl
theorem sIx_nat(n d k:Nat):sIx n d (some (k:Int))=min k n:=by
 show(if(k:Int)<0 then((k:Int)+(n:Int)).toNat else min (k:Int).toNat n)=min k n;rw[xCf (by lia),xC3]
theorem nF(n d:Nat)(hd:d<=n)(o:Option Int):sIx n d o<=n:=by
 cases o with
 |none=>exact hd
 |some v=>
  show(if v<0 then(v+(n:Int)).toNat else min v.toNat n)<=n;by_cases hv:v<0
  ·rw[xCg hv];lia
  ·rw[xCf hv];exact Nat.min_le_right _ _
theorem li(v:Int)(n d:Nat):(if v<0 then max (v+(n:Int)) 0 else min v (n:Int))=((sIx n d (some v):Nat):Int):=by
 show(if v<0 then max (v+(n:Int)) 0 else min v (n:Int))=(((if v<0 then(v+(n:Int)).toNat else min v.toNat n):Nat):Int);by_cases hv:v<0
 ·simp only[xCg hv];lia
 ·simp only[xCf hv];lia
theorem jR(lo hi:Option Int)(n:Nat):Builtin.Slice.sliceAdjust lo hi 1 (n:Int)=(((sIx n 0 lo:Nat):Int),((sIx n n hi:Nat):Int)):=by
 have h1:¬ ((1:Int)<0):=by lia
 unfold Builtin.Slice.sliceAdjust;simp only[h1,if_false];refine Prod.ext ?_ ?_
 ·cases lo with
  |none=>rfl
  |some v=>exact li v n 0
 ·cases hi with
  |none=>rfl
  |some v=>exact li v n n
theorem jr(i j:Nat):Builtin.Slice.slicePlaces (i:Int) (j:Int) 1=j-i:=by
 unfold Builtin.Slice.slicePlaces;have h1:(1:Int)>0:=by lia
 simp only[h1,if_true,Int.ediv_one];split <;> lia
theorem fE{v:Value}{o:Option Int}{Q:Option Int->Shared->Prop}(p:IsPart v o)(h:Q o s):wpAny (model prog w) A (Builtin.Slice.slicePartIndex v) Q E s:=by
 cases p with
 |none=>exact slicePart_none h
 |int i t=>exact slicePart_int h
theorem dk{n:Nat}{Q:Int×Int×Nat->Shared->Prop}(hs:s.heap.IsSliceOf sl vl vu .none)(pl:IsPart vl lo)(pu:IsPart vu hi)(h:Q (((sIx n 0 lo:Nat):Int),1,sIx n n hi-sIx n 0 lo) s):wpAny (model prog w) A (Builtin.Slice.sliceApplied (.ref sl) (pure (n:Int))) Q E s:=by
 obtain⟨os,hos,hcs,hds⟩:=id hs;unfold Builtin.Slice.sliceApplied Builtin.Slice.sliceFields;refine xAd (xAd (xDa hos hds (x:=vl) rfl (xAd (xDa hos hds (x:=vu) rfl (xAd (xDa hos hds (x:=.none) rfl (xAe ?_)))))));refine xAd (slicePart_none ?_);show wpAny _ _ (if((1:Int)==0)=true then _ else _) _ _ s;rw[xCf (by decide)];refine xAd (fE pl (xAd (fE pu (xAd (xAe ?_)))));show wpAny _ _ (match Builtin.Slice.sliceAdjust lo hi 1 (n:Int) with|(lo,hi)=>pure (lo,(1:Int),Builtin.Slice.slicePlaces lo hi 1)) _ _ s;rw[jR lo hi n];show wpAny _ _ (pure (((sIx n 0 lo:Nat):Int),(1:Int),Builtin.Slice.slicePlaces ((sIx n 0 lo:Nat):Int) ((sIx n n hi:Nat):Int) 1)) _ _ s;rw[jr];exact xAe h
theorem oq(xs:Array Value)(i k:Nat):((List.range k).filterMap λ(m:Nat)=>xs[((i:Int)+(m:Int)*1).toNat]?).toArray=((xs.toList.drop i).take k).toArray:=by
 have e:(λ(m:Nat)=>xs[((i:Int)+(m:Int)*1).toNat]?)=λm=>xs[i+m]?:=by
  funext m
  have:((i:Int)+(m:Int)*1).toNat=i+m:=by lia
  rw[this]
 rw[e];have:=pick_run xs i k;rw[List.filterMap_map] at this;have e2:((λx=>xs[x]?) ∘ λx=>i+x)=λm=>xs[i+m]?:=rfl;rw[e2] at this;rw[this]
theorem getItem_tuple_cut{items:Array Value}(ht:IsTup s.heap t items)(hs:s.heap.IsSliceOf sl vl vu .none)(pl:IsPart vl lo)(pu:IsPart vu hi)(hw:¬ (sIx items.size 0 lo=0/\sIx items.size items.size hi=items.size))(h:Q (.ref s.heap.objs.size) {s with heap:=s.heap.push {cls:=.type "tuple",data:=.seq ((items.toList.drop (sIx items.size 0 lo)).take (sIx items.size items.size hi-sIx items.size 0 lo)).toArray} })(hsz:items.size<=sizeLine):wpAny (model prog w) A (getItem (.ref t) (.ref sl)) Q E s:=by
 have htake:sizeOk (.seq ((items.toList.drop (sIx items.size 0 lo)).take (sIx items.size items.size hi-sIx items.size 0 lo)).toArray):=by
  show((items.toList.drop (sIx items.size 0 lo)).take (sIx items.size items.size hi-sIx items.size 0 lo)).toArray.size<=sizeLine;rw[xAp,List.length_take,List.length_drop,xAh];omega
 have hj:sIx items.size items.size hi<=items.size:=nF _ _ (xAg _) hi;obtain⟨os,hos,hcs,hds⟩:=id hs;have hTs:s.TypeIs (.ref sl) "slice":=⟨os,hos,hcs⟩
 unfold getItem;try with_reducible refine xDc ?_
 first|refine xAd (xAe ?_)|skip
 refine xAd (wpAny_sequenceKey ht.typeIs (by decide) ?_);refine xAd (wpAny_callSpecial?_slot (name:=Str.ofString "__getitem__") ht.typeIs PyProof.Rows.slot_tuple_getitem
  (wpAny_call_entry PyProof.Rows.slot_tuple_getitem ht.typeIs entry_tuple_getitem ?_ (args_tuple_getitem _ _)))
 show wpAny _ _ (Builtin.Tuple.tupleItemsOf (.ref t)>>=_) _ _ s;refine xAd (tupleItemsOf_ ht ?_);refine xAd (wpAny_typeOf hTs ?_);rw[xCg (by decide)];refine xAd (dk hs pl pu ?_);have hno:¬ ((((sIx items.size 0 lo:Nat):Int)==0&&(1:Int)==1&&(sIx items.size items.size hi-sIx items.size 0 lo)==items.size)=true):=by
  intro q;rw[xCh,xCh] at q;have q1:((sIx items.size 0 lo:Nat):Int)=0:=eq_of_beq q.1.1;have q2:sIx items.size items.size hi-sIx items.size 0 lo=items.size:=eq_of_beq q.2;exact hw ⟨by omega,by omega⟩
 show wpAny _ _ (if(((sIx items.size 0 lo:Nat):Int)==0&&(1:Int)==1&&(sIx items.size items.size hi-sIx items.size 0 lo)==items.size)=true then _ else _) _ _ s;rw[xCf hno,oq];first
  |exact xAd (m:=Builtin.Tuple.tupleExact _) (xBl (xAe ⟨_,rfl,xAe h⟩) htake)
  |exact xAd (m:=Builtin.Tuple.tupleExact _) (xBl (xAd (xAe (xAe ⟨_,rfl,xAe h⟩))) htake)
  |exact xAd (xAd (m:=Builtin.Tuple.tupleExact _) (xBl (xAe (xAe ⟨_,rfl,xAe h⟩)) htake))
  |exact xAd (xAd (m:=Builtin.Tuple.tupleExact _) (xBl (xAe ⟨_,rfl,xAe h⟩) htake))
end
end HT
namespace L2
open PySem PySem.Spec PyProof.Rows
variable{xs:List V}{j t':Nat}{α:Type}{Z:List (Addr×Obj)}{σ:St}{H H':Hp}{its':List Value}{y x:V}{P:Program}{w:World}{kvs:List (Key×V)}{Q:Value->Shared->Prop}{h':Heap}{X:Cx}{pos:Pos}{trs:List (TE×TE)}
noncomputable abbrev TO:=St->Hp->(Option Int->Hp->Prop)->Prop
def PO(X:Cx)(e:Option Expr)(t:TO):Prop:=
 ∀(Z:List (Addr×Obj))(s:Shared)(σ:St)(H:Hp)(Q:Option Int->Hp->Prop),Inv X Z σ H s->t σ H Q ->
  wpAny (model X.prog X.w) X.A (evalPart e X.env) (λu s'=>∃o H',Inv X Z σ H' s'/\IsPart u o/\Q o H') X.xe s
def tNoPart:TO:=λ_ H Q=>Q none H
def tPart(t:TE):TO:=λσ H Q=>t σ H λx H1=>∃i,x=.int i/\Q (some i) H1
theorem jF{ns:List Int}:∀{us:List Value},Vals (ns.map V.int) us->IntsAre us ns:=by
 induction ns with
 |nil=>intro us r;rw[List.map_nil] at r;cases r;exact .nil
 |cons n ns ih=>
  intro us r;rw[xBs] at r;cases r with
  |cons r1 r2=>
   obtain⟨t,e⟩:=r1;subst e;exact .cons n t (ih r2)
section
variable{X:Cx}{e:Expr}{te:TE}{lo hi:Option Expr}{tl th:TO}{pos p2:Pos}
theorem ke:PO X none tNoPart:=by
 intro Z s σ H Q I h;rw[evalPart_none];exact xAe ⟨none,H,I,.none,h⟩
theorem kc(h:PE X e te):PO X (some e) (tPart te):=by
 intro Z s σ H Q I hw;rw[evalPart_some];refine thn (h Z s σ H _ I hw) λu s1 zz=>?_;obtain⟨x,H1,I1,r1,q1⟩:=zz;obtain⟨i,rfl,q⟩:=q1;obtain⟨t,rfl⟩:=r1;exact⟨some i,H1,I1,.int i t,q⟩
def SlR(X:Cx)(r:V->Option Int->Option Int->Hp->VK->Prop):Prop:=
 ∀(Z:List (Addr×Obj))(s:Shared)(σ:St)(H:Hp)(x:V)(v vl vu:Value)(lo hi:Option Int)(sl:Addr)(Q:VK),Inv X Z σ H s->RelV x v->s.heap.IsSliceOf sl vl vu .none->IsPart vl lo->IsPart vu hi->r x lo hi H Q ->
  ∃T id,typeLookup (.type T) "__getitem__"=pure (some (.builtin id))/\s.TypeIs v T/\wpAny (model X.prog X.w) X.A (getItem v (.ref sl)) (EP X Z σ Q) X.xe s
def tSl(r:V->Option Int->Option Int->Hp->VK->Prop)(te:TE)(tl th:TO):TE:=λσ H Q=>te σ H λx H1=>tl σ H1 λl H2=>th σ H2 λu H3=>r x l u H3 Q
theorem iD{r:V->Option Int->Option Int->Hp->VK->Prop}(hr:SlR X r)(he:PE X e te)(hl:PO X lo tl)(hu:PO X hi th):PE X (.Subscript e (.Slice lo hi none p2) pos) (tSl r te tl th):=by
 intro Z s σ H Q I h;refine Subscript_ (thn (he Z s σ H _ I h) λv s1 zz=>?_);obtain⟨x,H1,I1,r1,q1⟩:=zz;refine wpAny_Slice (thn (hl Z s1 σ H1 _ I1 q1) λvl s2 ⟨l,H2,I2,pl,q2⟩=>thn (hu Z s2 σ H2 _ I2 q2) λvu s3 zz=>?_);obtain⟨u,H3,I3,pu,q3⟩:=zz;rw[evalPart_none];refine xAe ?_;have I4:Inv X Z σ H3 {s3 with heap:=s3.heap.push {cls:=.type "slice",data:=.fields #[vl,vu,.none]} }:=I3.kept (t':=s3.toks) λb ob q=>xAf _ q;obtain⟨T,id,hT,ht,hg⟩:=hr Z {s3 with heap:=s3.heap.push {cls:=.type "slice",data:=.fields #[vl,vu,.none]} } σ H3 x v vl vu l u s3.heap.objs.size Q I4 r1 (Heap.IsSliceOf.new ..) pl pu q3;show wpAny (model X.prog X.w) X.A (subscriptTail e (.Slice lo hi none p2) v (.ref s3.heap.objs.size)) (EP X Z σ Q) X.xe {s3 with heap:=s3.heap.push {cls:=.type "slice",data:=.fields #[vl,vu,.none]} };exact tail_any (ops:=[.ref s3.heap.objs.size,v]) ht hT hg (by with_unfolding_all rfl)
noncomputable def cutV(xs:List V)(lo hi:Option Int):List V:=(xs.drop (HT.sIx xs.length 0 lo)).take (HT.sIx xs.length xs.length hi-HT.sIx xs.length 0 lo)
theorem eX(xs:List V)(lo hi:Option Int):(cutV xs lo hi).length<=xs.length:=by
 unfold cutV;rw[List.length_take,List.length_drop];lia
def rSlT(K:xFr):V->Option Int->Option Int->Hp->VK->Prop:=λx lo hi H Q=>∃a xs,x=.ref a/\SqT K H a xs /\
 ¬ (HT.sIx xs.length 0 lo=0/\HT.sIx xs.length xs.length hi=xs.length)/\∀p,H p=none->Q (.ref p) (upd H p (.tup (cutV xs lo hi)))
theorem nC:SlR X (rSlT X.K):=by
 intro Z s σ H x v vl vu lo hi sl Q I rx hs pl pu h;obtain⟨a,xs,rfl,hx,hw,q⟩:=h;cases rx;obtain⟨its,r,ht,hz⟩:=I.tuple hx;have hlen:its.toArray.size=xs.length:=by rw[xAp];exact r.length.symm
 refine⟨"tuple",_,PyProof.Rows.slot_tuple_getitem.lookup,ht.typeIs,?_⟩;refine HT.getItem_tuple_cut ht hs pl pu (by rw[hlen];exact hw) ?_ (by rw[hlen];exact hz);rw[hlen];refine⟨.ref s.heap.objs.size,_,I.laid (t':=s.toks) (o:=.tup (cutV xs lo hi)) (λb ob q=>xAf _ q) (xAg _) ?_,rfl,q _ (I.hok.fresh (xAg _))⟩;exact⟨xCk (eX xs lo hi) hz,_,(r.drop (HT.sIx xs.length 0 lo)).take (HT.sIx xs.length xs.length hi-HT.sIx xs.length 0 lo),IsTup.new _ _⟩
def rCatT(K:xFr):R2:=λx y H Q=>∃a b xs ys,x=.ref a/\y=.ref b/\SqT K H a xs/\SqT K H b ys/\xs≠[]/\xs.length+ys.length<=sizeLine /\
 (ys=[]->Q (.ref a) H)/\(ys≠[]->∀p,H p=none->Q (.ref p) (upd H p (.tup (xs++ys))))
theorem Vals.nil_iff{us:List Value}(r:Vals xs us):us=[]↔xs=[]:=by
 cases r with
 |nil=>simp
 |cons _ _=>simp
theorem rV:OpR X (binaryOp .Add) (rCatT X.K):=by
 intro Z s σ H x y v u Q I rx ry h;obtain⟨a,b,xs,ys,rfl,rfl,ha,hb,hx,hz,q1,q2⟩:=h;cases rx;cases ry;obtain⟨its,r1,p1,_⟩:=I.tuple ha;obtain⟨its2,r2,p2,_⟩:=I.tuple hb;refine HT.cat_tup p1 p2 (λz=>hx (r1.nil_iff.mp z)) (λz=>⟨.ref a,H,I,rfl,q1 (r2.nil_iff.mp z)⟩) (λz=>?_) (by rw[<- r1.length,<- r2.length];exact hz);refine⟨.ref s.heap.objs.size,_,I.laid (t':=s.toks) (o:=.tup (xs++ys)) (λb ob q=>xAf _ q) (xAg _) ?_,rfl,q2 (λw=>z (r2.nil_iff.mpr w)) _ (I.hok.fresh (xAg _))⟩;exact⟨by rw[xAb];exact hz,_,r1.append r2,IsTup.new _ _⟩
end
noncomputable def ixN(n:Nat)(i:Int):Option Nat:=if 0<=i then(if i<n then some i.toNat else none) else if -(n:Int)<=i then some (i+n).toNat else none
noncomputable def atI{α:Type}(xs:List α)(i:Int):Option α:=(ixN xs.length i).bind λj=>xs[j]?
theorem kK{n:Nat}{i:Int}(h:ixN n i=some j):seqIndex? i n=some j/\j<n/\-(n:Int)<=i/\i<n:=by
 unfold ixN at h;by_cases h0:0<=i
 ·rw[xCg h0] at h;by_cases h1:i<n
  ·rw[xCg h1] at h;have e:i.toNat=j:=xB3 h;exact⟨by rw[seqIndex_of h0 h1,e],by lia,by lia,h1⟩
  ·rw[xCf h1] at h;cases h
 ·rw[xCf h0] at h;by_cases h1:-(n:Int)<=i
  ·rw[xCg h1] at h;have e:(i+n).toNat=j:=xB3 h;exact⟨by rw[seqIndex_neg (by lia) h1,e],by lia,h1,by lia⟩
  ·rw[xCf h1] at h;cases h
theorem ia{xs:List α}{i:Int}{v:α}(h:atI xs i=some v):∃j,seqIndex? i xs.length=some j/\xs[j]?=some v/\j<xs.length/\-(xs.length:Int)<=i/\i<xs.length:=by
 unfold atI at h;cases e:ixN xs.length i with
 |none=>rw[e] at h;cases h
 |some j=>
  rw[e] at h;obtain⟨h1,h2,h3,h4⟩:=kK e;exact⟨j,h1,h,h2,h3,h4⟩
theorem c9{xs:List α}{v:α}(h:xs[j]?=some v):atI xs (j:Int)=some v:=by
 have hj:j<xs.length:=(xAq.mp h).1;have e:ixN xs.length (j:Int)=some j:=by
  unfold ixN;rw[xCg (by lia),xCg (by lia)];simp
 unfold atI;rw[e];exact h
def PlainIx(b:Expr):Prop:=∀o i,subscripted b false o i=operate [o,i] (getItem o i)
def IxR(X:Cx)(r:R2):Prop:=
 ∀(value slice:Expr)(Z:List (Addr×Obj))(s:Shared)(σ:St)(H:Hp)(x y:V)(v u:Value)(Q:VK),Inv X Z σ H s->RelV x v->RelV y u->r x y H Q ->
  subscripted slice false v u=operate [v,u] (getItem v u)->wpAny (model X.prog X.w) X.A (subscriptTail value slice v u) (EP X Z σ Q) X.xe s
def MtR(X:Cx)(id:String)(r:V->List V->Hp->VK->Prop):Prop:=
 ∀(Z:List (Addr×Obj))(s:Shared)(σ:St)(H:Hp)(x:V)(xs:List V)(v:Value)(us:List Value)(Q:VK),Inv X Z σ H s->RelV x v->Vals xs us->r x xs H Q ->
  wpAny (model X.prog X.w) X.A (call (.builtin id) (v::us)) (EP X Z σ Q) X.xe s
section
variable{X:Cx}{a b:Expr}{ta tb:TE}{pos:Pos}
theorem IxR.or{r r':R2}(h:IxR X r)(h':IxR X r'):IxR X (λx y H Q=>r x y H Q\/r' x y H Q):=by
 intro value slice Z s σ H x y v u Q I rx ry q hs;rcases q with q|q
 ·exact h value slice Z s σ H x y v u Q I rx ry q hs
 ·exact h' value slice Z s σ H x y v u Q I rx ry q hs
theorem xq{r:R2}(hr:IxR X r)(ha:PE X a ta)(hb:PE X b tb)(hs:PlainIx b):PE X (.Subscript a b pos) (tOp r ta tb):=by
 intro Z s σ H Q I h;exact Subscript_ (binT ha hb I h λv u s2 x y H2 I2 rx ry q=>hr a b Z s2 σ H2 x y v u Q I2 rx ry q (hs _ _))
def rIxL(K:xFr):R2:=λx y H Q=>∃p xs i v,x=.ref p/\y=.int i/\SqL K H p xs/\atI xs i=some v/\Q v H
def rIxT(K:xFr):R2:=λx y H Q=>∃p xs i v,x=.ref p/\y=.int i/\SqT K H p xs/\atI xs i=some v/\Q v H
def rIxS:R2:=λx y H Q=>∃z i c,x=.str z/\y=.int i/\z.length<=sizeLine/\atI z.cps.toList i=some c/\Q (.str ⟨#[c]⟩) H
theorem si:IxR X (rIxL X.K):=by
 intro value slice Z s σ H x y v u Q I rx ry h hs;obtain⟨p,xs,i,z,rfl,rfl,hq,he,q⟩:=h;cases rx;obtain⟨t,rfl⟩:=ry;obtain⟨its,r,pl,hz⟩:=I.list hq;obtain⟨j,h1,h2,h3,h4,h5⟩:=ia he;obtain⟨w,ew,rw'⟩:=r.get h2;have hl:=r.length;have hn:=line63;have fin:EP X Z σ Q w s:=⟨z,H,I,rw',q⟩
 by_cases h0:0<=i
 ·have hj:i.toNat=j:=by
   rw[seqIndex_of h0 h5] at h1;exact xB3 h1
  exact item_listR pl.isList h0 (by lia) (by rw[hj];simpa using ew) fin hs
 ·have hj:(i+(its.toArray.size:Int)).toNat=j:=by
   rw[seqIndex_neg (by lia) h4] at h1;rw[xAp,<- hl];exact xB3 h1
  exact subscriptTail_builtinR (x:=w) pl.isList.typeIs slot_list_getitem.lookup
   (wpAny_getItem_list_neg (Q:=λr s'=>r=w/\EP X Z σ Q r s') pl.isList (by lia) (by rw[xAp] <;> lia) (by lia) (by rw[hj];simpa using ew) ⟨rfl,fin⟩) hs
theorem vS:IxR X (rIxT X.K):=by
 intro value slice Z s σ H x y v u Q I rx ry h hs;obtain⟨p,xs,i,z,rfl,rfl,hq,he,q⟩:=h;cases rx;obtain⟨t,rfl⟩:=ry;obtain⟨its,r,pl,hz⟩:=I.tuple hq;obtain⟨j,h1,h2,h3,h4,h5⟩:=ia he;obtain⟨w,ew,rw'⟩:=r.get h2;have hl:=r.length;have hn:=line63;have fin:EP X Z σ Q w s:=⟨z,H,I,rw',q⟩
 exact subscriptTail_builtinR (x:=w) pl.typeIs slot_tuple_getitem.lookup
  (getItem_tuple (j:=j) (Q:=λr s'=>r=w/\EP X Z σ Q r s') pl (by lia) (by lia) (by rw[xAp,<- hl];exact h1) (by simpa using ew) ⟨rfl,fin⟩) hs
theorem vT:IxR X rIxS:=by
 intro value slice Z s σ H x y v u Q I rx ry h hs;obtain⟨z,i,c,rfl,rfl,hz,he,q⟩:=h;obtain⟨t,rfl⟩:=rx;obtain⟨t',rfl⟩:=ry;obtain⟨j,h1,h2,h3,h4,h5⟩:=ia he;have hl:z.cps.toList.length=z.length:=by simp[Str.length]
 rw[hl] at h1 h4 h5;have hn:=line63;exact tail_any (typeIs_str s z t) slot_str_getitem.lookup (getItem_str (c:=c) (by
  have e1:decide (i < -(2^63:Int))=false:=xCn (by lia);have e2:decide (i >= 2^63)=false:=xCn (by lia);rw[e1,e2,Bool.or_false]) (by rw[h1];simpa using h2) ⟨.str ⟨#[c]⟩,H,I.tok _,⟨_,rfl⟩,q⟩) hs
def rIx(K:xFr):R2:=λx y H Q=>rIxL K x y H Q\/rIxT K x y H Q\/rIxS x y H Q
theorem vU:IxR X (rIx X.K):=si.or (vS.or vT)
theorem jB(its:List Value)(n j:Nat)(u:Value):Obj.mapSeq (·.setIfInBounds j u) {cls:=.type "list",data:=.seq its.toArray n}={cls:=.type "list",data:=.seq (its.set j u).toArray n}:=by
 simp[Obj.mapSeq]
theorem Inv.lst{Z:List (Addr×Obj)}{σ:St}{H:Hp}{s:Shared}{p:Addr}{xs:List V}(I:Inv X Z σ H s)(h:H p=some (.lst xs)) :
  ∃(its:List Value) (n:Nat),Vals xs its/\s.heap.get? p=some {cls:=.type "list",data:=.seq its.toArray n}/\xs.length<=sizeLine:=by
 obtain⟨z,its,n,r,e⟩:=I.hok p _ h;exact⟨its,n,r,e,z⟩
theorem Inv.lstUpd{s:Shared}{p:Addr}{ys:List V}{its:List Value}{n n':Nat}{f:Obj->Obj}(I:Inv X Z σ H s)(h:H p=some (.lst xs))(ho:s.heap.get? p=some {cls:=.type "list",data:=.seq its.toArray n})(hf:f {cls:=.type "list",data:=.seq its.toArray n}={cls:=.type "list",data:=.seq its'.toArray n'})(r:Vals ys its')(hz:ys.length<=sizeLine)(t:Nat) :
  Inv X Z σ (upd H p (.lst ys)) {s with heap:=s.heap.update p f,toks:=t}:=by
 have e:(s.heap.update p f).get? p=some {cls:=.type "list",data:=.seq its'.toArray n'}:=by
  rw[Heap.get?_update_self f ho (by rw[hf] <;> rfl),hf]
 refine I.write (x:=p) (e:=p) (by rw[h];trivial) (.inl rfl) (λb u hb q=>(Heap.get?_update_other _ _ (Ne.symm hb)).trans q) ⟨_,e⟩ ?_;exact⟨hz,its',n',r,e⟩
def rSetL:V->V->V->Hp->(Hp->Prop)->Prop:=λo i v H Q=>∃p xs k j,o=.ref p/\i=.int k/\H p=some (.lst xs)/\ixN xs.length k=some j/\Q (upd H p (.lst (xs.set j v)))
theorem nD:PSet X rSetL:=by
 intro Z s σ H o i v ov iv u Q I ro ri rv h;obtain⟨p,xs,k,j,rfl,rfl,hp,hj,q⟩:=h;cases ro;obtain⟨t,rfl⟩:=ri;obtain⟨its,n,r,ho,hz⟩:=I.lst hp;obtain⟨h1,h2,h3,h4⟩:=kK hj;have hl:=r.length;have hn:=line63;have I':Inv X Z σ (upd H p (.lst (xs.set j v))) {s with heap:=s.heap.update p (Obj.mapSeq (·.setIfInBounds j u))}:=
  I.lstUpd hp ho (jB its n j u) (r.set rv j) (by rw[List.length_set];exact hz) s.toks
 by_cases h0:0<=k
 ·have hk:k.toNat=j:=by
   rw[seqIndex_of h0 h4] at h1;exact xB3 h1
  exact W.ki_setAt ho h0 (by lia) (by rw[xAp,<- hl];exact h4) (by rw[hk];exact⟨_,I',q⟩)
 ·have hk:(k+(its.toArray.size:Int)).toNat=j:=by
   rw[seqIndex_neg (by lia) h3] at h1;rw[xAp,<- hl];exact xB3 h1
  exact W.ki_setBack ho (by lia) (by rw[xAp,<- hl];exact h3) (by lia) (by rw[hk];exact⟨_,I',q⟩)
theorem gB(lo hi:Option Int)(n:Nat):(sliceBounds lo hi none n).1=((HT.sIx n 0 lo:Nat):Int)/\(sliceBounds lo hi none n).2.1=((HT.sIx n n hi:Nat):Int)/\(sliceBounds lo hi none n).2.2=1:=by
 refine⟨?_,?_,rfl⟩
 ·cases lo with
  |none=>simp[sliceBounds,HT.sIx]
  |some i=>
   simp only[sliceBounds,HT.sIx,Option.getD_none,show(1:Int)>0 by decide,if_true];by_cases h:i<0
   ·simp only[h,if_true] <;> lia
   ·simp only[h,if_false] <;> lia
 ·cases hi with
  |none=>simp[sliceBounds,HT.sIx]
  |some i=>
   simp only[sliceBounds,HT.sIx,Option.getD_none,show(1:Int)>0 by decide,if_true];by_cases h:i<0
   ·simp only[h,if_true] <;> lia
   ·simp only[h,if_false] <;> lia
theorem f7(its:List Value)(lo hi:Option Int):slicePick its.toArray lo hi none=((its.drop (HT.sIx its.length 0 lo)).take (HT.sIx its.length its.length hi-HT.sIx its.length 0 lo)).toArray:=by
 obtain⟨h1,h2,h3⟩:=gB lo hi its.toArray.size;unfold slicePick;rw[h1,h2,h3];simp only[sliceRange_one,pick_run,xAp] <;> rfl
def rSlL(K:xFr):V->Option Int->Option Int->Hp->VK->Prop:=λx lo hi H Q=>∃a xs,x=.ref a/\SqL K H a xs/\∀p,H p=none->Q (.ref p) (upd H p (.lst (cutV xs lo hi)))
theorem jX:SlR X (rSlL X.K):=by
 intro Z s σ H x v vl vu lo hi sl Q I rx hs pl pu h;obtain⟨a,xs,rfl,hx,q⟩:=h;cases rx;obtain⟨its,r,ht,hz⟩:=I.list hx;have hlen:=r.length;refine⟨"list",_,slot_list_getitem.lookup,ht.isList.typeIs,?_⟩;refine wpAny_getItem_list_slice ht.isList hs pl pu .none (by simp) ?_ (by rw[xAp] <;> lia);rw[f7,<- hlen];refine⟨.ref s.heap.objs.size,_,I.laid (t':=s.toks) (o:=.lst (cutV xs lo hi)) (λb ob q=>xAf _ q) (xAg _) ?_,rfl,q _ (I.hok.fresh (xAg _))⟩;exact⟨xCk (eX xs lo hi) hz,_,0,(r.drop (HT.sIx xs.length 0 lo)).take (HT.sIx xs.length xs.length hi-HT.sIx xs.length 0 lo),xAl _ rfl⟩
noncomputable def flatV:V->Bool
 |.non=>true
 |.bl _=>true
 |.int _=>true
 |.str _=>true
 |_=>false
noncomputable def eqV:V->V->Bool
 |.non,.non=>true
 |.bl a,.bl b=>a==b
 |.bl a,.int b=>(if a then 1 else 0)==b
 |.int a,.bl b=>a==(if b then 1 else 0)
 |.int a,.int b=>a==b
 |.str a,.str b=>a==b
 |_,_=>false
theorem pQ{A:Around}{s:Shared}{u v:Value}(ry:RelV y u)(rx:RelV x v)(fy:flatV y=true)(fx:flatV x=true):SeqAt.EqAt A s u v (eqV y x):=by
 cases y with
 |non=>
  cases ry;cases x with
  |non=>cases rx;exact SeqAt.EqAt.same _
  |bl b=>cases rx;exact SeqAt.EqAt.none_bool b
  |int b=>obtain⟨t,rfl⟩:=rx;exact SeqAt.EqAt.none_int b t
  |str b=>obtain⟨t,rfl⟩:=rx;exact SeqAt.EqAt.none_str b t
  |_=>exact absurd (show false=true from fx) xAy
 |bl a=>
  cases ry;cases x with
  |non=>cases rx;exact SeqAt.EqAt.bool_none a
  |bl b=>cases rx;exact SeqAt.EqAt.bool_bool a b
  |int b=>obtain⟨t,rfl⟩:=rx;exact SeqAt.EqAt.bool_int a b t
  |str b=>obtain⟨t,rfl⟩:=rx;exact SeqAt.EqAt.bool_str a b t
  |_=>exact absurd (show false=true from fx) xAy
 |int a=>
  obtain⟨t',rfl⟩:=ry;cases x with
  |non=>cases rx;exact SeqAt.EqAt.int_none a t'
  |bl b=>cases rx;exact SeqAt.EqAt.int_bool a t' b
  |int b=>obtain⟨t,rfl⟩:=rx;exact SeqAt.EqAt.int_int a t' b t
  |str b=>obtain⟨t,rfl⟩:=rx;exact SeqAt.EqAt.int_str a t' b t
  |_=>exact absurd (show false=true from fx) xAy
 |str a=>
  obtain⟨t',rfl⟩:=ry;cases x with
  |non=>cases rx;exact SeqAt.EqAt.str_none a t'
  |bl b=>cases rx;exact SeqAt.EqAt.str_bool a t' b
  |int b=>obtain⟨t,rfl⟩:=rx;exact SeqAt.EqAt.str_int a t' b t
  |str b=>obtain⟨t,rfl⟩:=rx;exact SeqAt.EqAt.str_str a t' b t
  |_=>exact absurd (show false=true from fx) xAy
 |_=>exact absurd (show false=true from fy) xAy
noncomputable def eqU(x:V)(u:Value):Bool:=match u with
 |.none=>eqV .non x
 |.bool b=>eqV (.bl b) x
 |.int i _=>eqV (.int i) x
 |.str z _=>eqV (.str z) x
 |_=>false
theorem pO{u:Value}(r:RelV y u)(f:flatV y=true):eqU x u=eqV y x:=by
 cases y with
 |non=>cases r;rfl
 |bl b=>cases r;rfl
 |int i=>obtain⟨t,rfl⟩:=r;rfl
 |str z=>obtain⟨t,rfl⟩:=r;rfl
 |_=>exact absurd (show false=true from f) xAy
theorem eu{x:V}:∀{xs:List V}{us:List Value},Vals xs us->xs.all flatV=true->us.any (eqU x)=xs.any λy=>eqV y x
 |_,_,.nil,_=>rfl
 |y::xs,u::us,.cons r t,f=>by
  rw[xCj,xCh] at f;rw[List.any_cons,List.any_cons,pO r f.1,eu t f.2]
theorem dF{A:Around}{s:Shared}{x:V}{v:Value}(rx:RelV x v)(fx:flatV x=true):∀{xs:List V}{us:List Value},Vals xs us->xs.all flatV=true->∀u∈us,SeqAt.EqAt A s u v (eqU x u)
 |_,_,.nil,_=>λu hu=>by cases hu
 |y::xs,u::us,.cons r t,f=>λu' hu=>by
  rw[xCj,xCh] at f;rcases xAv.mp hu with rfl|hu
  ·rw[pO r f.1];exact pQ r rx f.1 fx
  ·exact dF rx fx t f.2 u' hu
noncomputable def inV(x:V)(xs:List V):Bool:=xs.any λy=>eqV y x
def rIn(K:xFr)(neg:Bool):R2:=λx y H Q=>∃p xs,y=.ref p/\(SqL K H p xs\/SqT K H p xs)/\flatV x=true/\xs.all flatV=true/\Q (.bl (if neg then !inV x xs else inV x xs)) H
theorem lX:OpR X (compareOp .In) (rIn X.K false):=by
 intro Z s σ H x y v u Q I rx ry h;obtain⟨p,xs,rfl,hq,fx,fs,q⟩:=h;cases ry;rcases hq with hq|hq
 ·obtain⟨its,r,pl,hz⟩:=I.list hq;refine SeqAt.in_listAt (eqU x) pl.isList (λw hw=>dF rx fx r fs w (by simpa using hw)) ⟨.bl _,H,I,rfl,?_⟩;rw[show its.toArray.any (eqU x)=its.any (eqU x) by simp,eu r fs];exact q
 ·obtain⟨its,r,pl,hz⟩:=I.tuple hq;refine SeqAt.in_tupleAt (eqU x) pl (λw hw=>dF rx fx r fs w (by simpa using hw)) ⟨.bl _,H,I,rfl,?_⟩;rw[show its.toArray.any (eqU x)=its.any (eqU x) by simp,eu r fs];exact q
theorem gN:OpR X (compareOp .NotIn) (rIn X.K true):=by
 intro Z s σ H x y v u Q I rx ry h;obtain⟨p,xs,rfl,hq,fx,fs,q⟩:=h;cases ry;rcases hq with hq|hq
 ·obtain⟨its,r,pl,hz⟩:=I.list hq;refine SeqAt.notIn_listAt (eqU x) pl.isList (λw hw=>dF rx fx r fs w (by simpa using hw)) ⟨.bl _,H,I,rfl,?_⟩;rw[show its.toArray.any (eqU x)=its.any (eqU x) by simp,eu r fs];exact q
 ·obtain⟨its,r,pl,hz⟩:=I.tuple hq;refine SeqAt.notIn_tupleAt (eqU x) pl (λw hw=>dF rx fx r fs w (by simpa using hw)) ⟨.bl _,H,I,rfl,?_⟩;rw[show its.toArray.any (eqU x)=its.any (eqU x) by simp,eu r fs];exact q
theorem hZ:CallR X (.type "list") (λxs H Q=>∃p ys,xs=[.ref p]/\(SqL X.K H p ys\/SqT X.K H p ys)/\∀l,H l=none->Q (.ref l) (upd H l (.lst ys))):=by
 intro Z s σ H xs us Q I r h;obtain⟨p,ys,rfl,hq,q⟩:=h;obtain⟨u,rfl,rx⟩:=vals1 r;cases rx;have fin:∀(its:List Value),Vals ys its->ys.length<=sizeLine->∀(h':Heap)(c':Nat),(∀b o',s.heap.get? b=some o'->h'.get? b=some o') ->
   h'.get? s.heap.objs.size=some {cls:=.type "list",dict:=none,data:=.seq its.toArray c',slots:=#[]}->EP X Z σ Q (.ref s.heap.objs.size) {s with heap:=h'}:=λits r' hz h' c' kp e=>
  ⟨.ref s.heap.objs.size,_,I.laid (t':=s.toks) kp (xAg _) (show ObjOk X.prog X.w _ h' _ (.lst ys) from⟨hz,its,c',r',e⟩),rfl,q _ (I.hok.fresh (xAg _))⟩
 rcases hq with hq|hq
 ·obtain⟨its,r',pl,hz⟩:=I.list hq;have hlen:=r'.length;obtain⟨o,ho,hc,n,hd⟩:=pl.isList;exact call_list_seq p (.inl rfl) ho hc hd (λh' c' kp e=>fin its r' hz h' c' kp e) (by simp only[xAp] <;> lia)
 ·obtain⟨its,r',pl,hz⟩:=I.tuple hq;have hlen:=r'.length;obtain⟨o,ho,hc,n,hd⟩:=pl;exact call_list_seq p (.inr rfl) ho hc hd (λh' c' kp e=>fin its r' hz h' c' kp e) (by simp only[xAp] <;> lia)
theorem f8:CallR X (.type "tuple") (λxs H Q=>∃p ys,xs=[.ref p]/\((SqL X.K H p ys/\∀l,H l=none->Q (.ref l) (upd H l (.tup ys)))\/(SqT X.K H p ys/\Q (.ref p) H))):=by
 intro Z s σ H xs us Q I r h;obtain⟨p,ys,rfl,h⟩:=h;obtain⟨u,rfl,rx⟩:=vals1 r;cases rx;rcases h with ⟨hq,q⟩|⟨hq,q⟩
 ·obtain⟨its,r',pl,hz⟩:=I.list hq;have hlen:=r'.length;refine call_tuple_list pl.isList (λh' kp=>?_) (by simp only[xAp] <;> lia);have I1:Inv X Z σ H {s with heap:=h'}:=I.kept (t':=s.toks) kp;have I2:Inv X Z σ (upd H h'.objs.size (.tup ys)) {s with heap:=h'.push {cls:=.type "tuple",data:=.seq its.toArray} }:=
   I1.laid (t':=s.toks) (λb o e=>xAf _ e) (xAg _) (show ObjOk X.prog X.w _ _ _ (.tup ys) from⟨hz,its,r',IsTup.new _ _⟩)
  exact⟨.ref h'.objs.size,_,I2,rfl,q _ (I1.hok.fresh (xAg _))⟩
 ·obtain⟨its,r',pl,hz⟩:=I.tuple hq;exact call_tuple_same pl ⟨.ref p,H,I,rfl,q⟩
def tyV(K:xFr)(T:String)(x:V)(H:Hp):Prop:=match x with
 |.str _=>T="str"
 |.int _=>T="int"
 |.ref p=>(T="list"/\∃xs,SqL K H p xs)\/(T="tuple"/\∃o,K.lookup p=some o/\o.cls=.type "tuple"/\o.dict=none) \/
   (T="dict"/\((∃kvs,H p=some (.dK kvs))\/∃kvs,H p=some (.dT kvs)))\/(T="set"/\∃S n,H p=some (.set S n))
 |_=>False
theorem uq{s:Shared}{T:String}{v:Value}(I:Inv X Z σ H s)(r:RelV x v)(ty:tyV X.K T x H) :
  s.TypeIs v T/\∀a,v=.ref a->∃ob,s.heap.get? a=some ob/\ob.dict=none:=by
 cases x with
 |str z=>
  obtain⟨t,rfl⟩:=r;cases (show T="str" from ty);exact⟨typeIs_str s z t,λ_ e=>nomatch e⟩
 |int i=>
  obtain⟨t,rfl⟩:=r;cases (show T="int" from ty);exact⟨typeIs_int s i t,λ_ e=>nomatch e⟩
 |ref p=>
  cases r;rcases ty with ⟨rfl,xs,hq⟩|⟨rfl,o,hk,hc,hd⟩|⟨rfl,hk⟩|⟨rfl,S,n,hk⟩
  ·obtain⟨its,_,pl,_⟩:=I.list hq;refine⟨pl.isList.typeIs,λa e=>?_⟩;cases e;obtain⟨o,n,e,c,hd,_⟩:=pl;exact⟨o,e,hd⟩
  ·refine⟨⟨o,I.kIn p o hk,hc⟩,λa e=>?_⟩;cases e;exact⟨o,I.kIn _ o hk,hd⟩
  ·have z:∃o,s.heap.get? p=some o/\o.ExactDict:=by
    rcases hk with ⟨kvs,hk⟩|⟨kvs,hk⟩
    ·obtain⟨_,_,_,_,o,_,_,e,ex,_⟩:=I.hok p _ hk;exact⟨o,e,ex⟩
    ·obtain⟨_,_,_,_,o,_,_,e,ex,_⟩:=I.hok p _ hk;exact⟨o,e,ex⟩
   obtain⟨o,e,ex⟩:=z;refine⟨⟨o,e,ex.1⟩,λa e2=>?_⟩;cases e2;exact⟨o,e,ex.2.1⟩
  ·obtain⟨o,_,_,_,e,ex,_⟩:=I.hok p _ hk;refine⟨⟨o,e,ex.1⟩,λa e2=>?_⟩;cases e2;exact⟨o,e,ex.2.1⟩
 |_=>exact False.elim ty
def tBM(K:xFr)(T:String)(r:V->List V->Hp->VK->Prop)(to:TE)(t:TA):TE:=λσ H Q=>to σ H λx H1=>tyV K T x H1/\t σ H1 λxs H2=>r x xs H2 Q
variable{o e:Expr}{es:List Expr}{to:TE}{t:TA}{name:Str}{apos cpos:Pos}{T id:String}{r:V->List V->Hp->VK->Prop}
theorem xr(pa:PlainAttrs T)(slot:Slot T name id)(hty:typeOf (.builtin id)=pure (.type "method_descriptor"))(hm:MtR X id r)(ho:PE X o to)(ha:PA X (e::es) t)(hbase:attributeBase o name X.env (eval o X.env)=eval o X.env:=by rfl)(hfew:((backTo cpos (starEach (e::es) X.env)).all (λx=>!x.1) && (backToKw cpos (keywordEach [] X.env)).all (λx=>x.1.isSome)
   && decide ((e::es).length+([]:List Keyword).length+(if([]:List Keyword).isEmpty then 0 else 1)<30))=true:=by rfl)(hline:(apos.endLine==cpos.line)=true:=by rfl)(hs:starEach (e::es) X.env=(false,eval e X.env)::starEach es X.env:=by rfl)(hplain:(backTo cpos (starEach es X.env)).any (·.1)=false:=by rfl) :
  PE X (.Call (.Attribute o name apos) (e::es) [] cpos) (tBM X.K T r to t):=by
 intro Z s σ H Q I h;refine wpAny_Call_method_late hbase hfew hline rfl (thn (ho Z s σ H _ I h) λv s1 zz=>?_);obtain⟨x,H1,I1,r1,ty,q1⟩:=zz;obtain⟨h1,h2⟩:=uq I1 r1 ty;refine⟨T,id,pa,slot,hty,h1,h2,?_⟩;have hA:=ha cpos Z s1 σ H1 _ I1 q1;rw[hs] at hA⊢;refine Calls.callWith_builtin (by show(false||(backTo cpos (starEach es X.env)).any (·.1))=false;rw[hplain] <;> rfl) (Calls.evalArgs_plain ?_);exact thn hA λus s2 ⟨vs,H2,I2,r2,q2⟩=>hm Z s2 σ H2 x vs v us Q I2 r1 r2 q2
end
def MtM(X:Cx)(id:String)(r:V->List V->Hp->VK->Prop):Prop:=
 ∀(Z:List (Addr×Obj))(s:Shared)(σ:St)(H:Hp)(x:V)(xs:List V)(v:Value)(us:List Value)(Q:VK),Inv X Z σ H s->RelV x v->Vals xs us->r x xs H Q ->
  wpAny (model X.prog X.w) X.A (call (.builtin id) (v::us)) (EP X Z σ Q) X.xe s
theorem Vals.one:∀{x:V}{us:List Value},Vals [x] us->∃u,us=[u]/\RelV x u
 |_,_,.cons r .nil=>⟨_,rfl,r⟩
section
variable{X:Cx}{Z:List (Addr×Obj)}{σ:St}{H:Hp}{s:Shared}{l b:Addr}{xs ys zs:List V}
theorem Inv.lset{its:List Value}{n:Nat}{f:Array Value->Array Value}(I:Inv X Z σ H s)(hH:H l=some (.lst xs))(e:s.heap.get? l=some {cls:=.type "list",data:=.seq its.toArray n})(hf:f its.toArray=its'.toArray)(hv:Vals ys its')(hz:ys.length<=sizeLine) :
  Inv X Z σ (upd H l (.lst ys)) {s with heap:=s.heap.update l (Obj.mapSeq f),toks:=t'}:=by
 have q:=PySem.IsL.update e f;rw[hf] at q;refine I.write (x:=l) (e:=l) (by rw[hH];exact trivial) (.inl rfl) (λb' u hb hu=>(Heap.get?_update_other s.heap (Obj.mapSeq f) (Ne.symm hb)).trans hu) ⟨_,q⟩ ?_;exact⟨hz,its',_,hv,q⟩
theorem Inv.lnew{its:List Value}(I:Inv X Z σ H s)(hv:Vals ys its)(hz:ys.length<=sizeLine) :
  Inv X Z σ (upd H s.heap.objs.size (.lst ys)) {s with heap:=s.heap.push {cls:=.type "list",data:=.seq its.toArray},toks:=t'}:=
 I.laid (λ_ _ q=>xAf _ q) (xAg _) ⟨hz,its,0,hv,xAl _ rfl⟩
theorem Inv.fresh(I:Inv X Z σ H s):H s.heap.objs.size=none:=I.hok.fresh (xAg _)
theorem Inv.lstM(I:Inv X Z σ H s)(hH:H l=some (.lst xs)):xs.length<=sizeLine/\∃(its:List Value) (n:Nat),Vals xs its/\xs.length=its.length/\s.heap.get? l=some {cls:=.type "list",data:=.seq its.toArray n}:=by
 obtain⟨z,its,n,r,e⟩:=I.hok l _ hH;exact⟨z,its,n,r,r.length,e⟩
theorem notLongL{n:Nat}(h:n<=sizeLine):Builtin.List.listTooLong n=false:=by
 unfold Builtin.List.listTooLong;exact xCn (by lia)
end
section
variable{X:Cx}
def rAppend:V->List V->Hp->VK->Prop:=λx vs H Q=>∃l xs y,x=.ref l/\vs=[y]/\H l=some (.lst xs)/\xs.length<sizeLine/\Q .non (upd H l (.lst (xs++[y])))
theorem gc:MtM X "list.append" rAppend:=by
 intro Z s σ H x vs v us Q I rx rv h;obtain⟨l,xs,y,rfl,rfl,hH,hz,q⟩:=h;cases rx;obtain⟨u,rfl,ru⟩:=rv.one;obtain⟨z,its,n,r,hl,e⟩:=I.lstM hH;refine call_meets F.slot_list_append ⟨_,e,rfl⟩ F.entry_list_append (F.args_list_append_2 _ _) (PySem.list_append l its.toArray n u (by rw[xAp];lia)) ⟨e,?_⟩;refine⟨.non,_,I.lset (its':=its++[u]) hH e (by simp) (r.append (.cons ru .nil)) ?_,rfl,q⟩;rw[xAb,xAt];lia
def rExtend:V->List V->Hp->VK->Prop:=λx vs H Q=>∃l b xs zs,x=.ref l/\vs=[.ref b]/\H l=some (.lst xs)/\H b=some (.lst zs)/\xs.length+zs.length<=sizeLine/\Q .non (upd H l (.lst (xs++zs)))
theorem l9:MtM X "list.extend" rExtend:=by
 intro Z s σ H x vs v us Q I rx rv h;obtain⟨l,b,xs,zs,rfl,rfl,hH,hB,hz,q⟩:=h;cases rx;obtain⟨u,rfl,ru⟩:=rv.one;cases ru;obtain⟨z,its,n,r,hl,e⟩:=I.lstM hH;obtain⟨z2,its2,n2,r2,hl2,e2⟩:=I.lstM hB;have hsz:its.toArray.size+its2.toArray.size<=sizeLine:=by rw[xAp,xAp];lia
 have hlong:¬ (!its.toArray.isEmpty&&Builtin.List.listTooLong (its.toArray.size+its2.toArray.size))=true:=by
  rw[notLongL hsz,Bool.and_false];exact xAy
 refine call_meets F.slot_list_extend ⟨_,e,rfl⟩ F.entry_list_extend (F.args_list_extend_2 _ _)
  (AutoSeq1.list_extend_list_list_0 l its.toArray n b its2.toArray n2 hlong (by rw[xAp];lia) (by lia)) ⟨e,e2,?_⟩
 refine⟨.non,_,I.lset (its':=its++its2) hH e (by simp) (r.append r2) ?_,rfl,q⟩;rw[xAb];lia
def rCat:R2:=λx y H Q=>∃l b xs zs,x=.ref l/\y=.ref b/\H l=some (.lst xs)/\H b=some (.lst zs)/\xs.length+zs.length<=sizeLine/\∀p,H p=none->Q (.ref p) (upd H p (.lst (xs++zs)))
theorem vy:OpR X (binaryOp .Add) rCat:=by
 intro Z s σ H x y v u Q I rx ry h;obtain⟨l,b,xs,zs,rfl,rfl,hH,hB,hz,q⟩:=h;cases rx;cases ry;obtain⟨z,its,n,r,hl,e⟩:=I.lstM hH;obtain⟨z2,its2,n2,r2,hl2,e2⟩:=I.lstM hB;refine PySem.P.add_list e e2 ?_ (by rw[xAp,xAp];lia);have ea:its.toArray++its2.toArray=(its++its2).toArray:=by simp
 rw[ea];exact⟨.ref _,_,I.lnew (t':=s.toks) (r.append r2) (by rw[xAb];lia),rfl,q _ I.fresh⟩
end
section
variable{prog:Program}{w:World}{A:Around}{E:Value->Shared->Prop}{s:Shared}
set_option maxRecDepth 100000 in
end
section
variable{κ:Type} [DecidableEq κ]
noncomputable def valV(kvs:List (κ×V))(k:κ):Option V:=(kvs.find? λkv=>decide (kv.1=k)).map (·.2)
noncomputable def putK(kvs:List (κ×V))(k:κ)(v:V):List (κ×V):=
 if(kvs.any λkv=>decide (kv.1=k))=true then kvs.map (λkv=>if kv.1=k then(kv.1,v) else kv) else kvs++[(k,v)]
theorem dX{p:κ×V}{r:List (κ×V)}{k:κ}(e:p.1=k):valV (p::r) k=some p.2:=by simp[valV,List.find?_cons,e]
theorem dY{p:κ×V}{r:List (κ×V)}{k:κ}(e:¬ p.1=k):valV (p::r) k=valV r k:=by simp[valV,List.find?_cons,e]
theorem ik(k:κ):∀kvs:List (κ×V),(kvs.any λkv=>decide (kv.1=k))=(valV kvs k).isSome
 |[]=>rfl
 |p::r=>by
  rw[List.any_cons];by_cases e:p.1=k
  ·simp only[dX e,xBd e,Bool.true_or,Option.isSome_some]
  ·rw[dY e,xCn e,Bool.false_or];exact ik k r
theorem dG(kvs:List (κ×V))(k:κ)(v:V):(putK kvs k v).length<=kvs.length+1:=by
 unfold putK;split
 ·rw[xAa];lia
 ·rw[xAb,xAo,List.length_nil];lia
theorem RelO.isSome_eq{o:Option V}{u:Option Value}(r:RelO o u):o.isSome=u.isSome:=by
 cases o with
 |none=>cases u with
  |none=>rfl
  |some _=>exact(show False from r).elim
 |some _=>cases u with
  |none=>exact(show False from r).elim
  |some _=>rfl
theorem KV.val{kvs:List (κ×V)}{vs:List (κ×Value)}(r:KV kvs vs)(k:κ):RelO (valV kvs k) (valueAt vs k):=by
 unfold KV at r;induction r with
 |nil=>exact True.intro
 |@cons p q ps qs h t ih=>
  obtain⟨h1,h2⟩:=h;by_cases e:p.1=k
  ·have e':q.1=k:=h1.symm.trans e;have b:valueAt (q::qs) k=some q.2:=by simp[valueAt,List.find?_cons,e']
   rw[dX e,b];exact h2
  ·have e':¬ q.1=k:=λz=>e (h1.trans z);have b:valueAt (q::qs) k=valueAt qs k:=by simp[valueAt,List.find?_cons,e']
   rw[dY e,b];exact ih
theorem KV.any{kvs:List (κ×V)}{vs:List (κ×Value)}(r:KV kvs vs)(k:κ):(kvs.any λkv=>decide (kv.1=k))=vs.any λkv=>decide (kv.1=k):=by
 unfold KV at r;induction r with
 |nil=>rfl
 |cons h t ih=>rw[List.any_cons,List.any_cons,ih,h.1]
theorem KV.repl{kvs:List (κ×V)}{vs:List (κ×Value)}(r:KV kvs vs)(k:κ){u:Value}(ry:RelV y u) :
  KV (kvs.map λkv=>if kv.1=k then(kv.1,y) else kv) (vs.map λkv=>if kv.1=k then(kv.1,u) else kv):=by
 unfold KV at r⊢;induction r with
 |nil=>exact .nil
 |@cons p q ps qs h t ih=>
  rw[xBs,xBs];refine .cons ?_ ih;obtain⟨h1,h2⟩:=h;by_cases e:p.1=k
  ·rw[xCg e,xCg (h1.symm.trans e)];exact⟨h1,ry⟩
  ·rw[xCf e,xCf (λz=>e (h1.trans z))];exact⟨h1,h2⟩
theorem KV.put{kvs:List (κ×V)}{vs:List (κ×Value)}(r:KV kvs vs)(k:κ){u:Value}(ry:RelV y u):KV (putK kvs k y) (stored vs k u):=by
 unfold putK stored;rw[r.any k];by_cases e:(vs.any λkv=>decide (kv.1=k))=true
 ·rw[xCg e,xCg e];exact r.repl k ry
 ·rw[xCf e,xCf e];exact Paired.snoc r ⟨rfl,ry⟩
theorem KV.length{kvs:List (κ×V)}{vs:List (κ×Value)}(r:KV kvs vs):kvs.length=vs.length:=Paired.length r
end
theorem gk{k:Key}{u:Value}(r:RelV (kV k) u):(mixKind P w).is k u=true:=by
 cases k with
 |inl i=>obtain⟨t,e⟩:=(show ∃t,u=Value.int i t from r);subst e;exact iO P w i t
 |inr x=>obtain⟨t,e⟩:=(show ∃t,u=Value.str x t from r);subst e;exact iM P w x t
theorem gm{P:Program}{w:World}:∀{ks:List Key}{us:List Value},Vals (ks.map kV) us->ItemsAre (mixKind P w) ks us
 |[],_,r=>by rw[List.map_nil] at r;cases r;exact .nil
 |k::ks,_,r=>by
  rw[xBs] at r;cases r with
  |cons h t=>exact .cons (gk h) (gm t)
noncomputable abbrev KT(H:Hp):List (List Key×V)->List (List Key×Addr×Value)->Prop:=Paired λp q=>p.1=q.1/\H q.2.1=some (.tup (p.1.map kV))/\RelV p.2 q.2.2
theorem KT.val{kvs:List (List Key×V)}{xs:List (List Key×Addr×Value)}(r:KT H kvs xs)(k:List Key):RelO (valV kvs k) ((atKey xs k).map (·.2)):=by
 induction r with
 |nil=>exact True.intro
 |@cons p q ps qs h t ih=>
  obtain⟨h1,_,h2⟩:=h;by_cases e:p.1=k
  ·have e':q.1=k:=h1.symm.trans e;have b:atKey (q::qs) k=some q.2:=by simp[atKey,List.find?_cons,e']
   rw[dX e,b];exact h2
  ·have e':¬ q.1=k:=λz=>e (h1.trans z);have b:atKey (q::qs) k=atKey qs k:=by simp[atKey,List.find?_cons,e']
   rw[dY e,b];exact ih
theorem KT.repl{kvs:List (List Key×V)}{xs:List (List Key×Addr×Value)}(r:KT H kvs xs)(k:List Key){u:Value}(ry:RelV y u) :
  KT H (kvs.map λkv=>if kv.1=k then(kv.1,y) else kv) (xs.map (putAt k u)):=by
 induction r with
 |nil=>exact .nil
 |@cons p q ps qs h t ih=>
  rw[xBs,xBs];refine .cons ?_ ih;obtain⟨h1,h2,h3⟩:=h;unfold putAt;by_cases e:p.1=k
  ·rw[xCg e,xCg (h1.symm.trans e)];exact⟨h1,h2,ry⟩
  ·rw[xCf e,xCf (λz=>e (h1.trans z))];exact⟨h1,h2,h3⟩
theorem KT.put{kvs:List (List Key×V)}{xs:List (List Key×Addr×Value)}(r:KT H kvs xs)(k:List Key){b:Addr}{u:Value}(hb:H b=some (.tup (k.map kV)))(ry:RelV y u) :
  KT H (putK kvs k y) (storedH xs k b u):=by
 have e:(kvs.any λkv=>decide (kv.1=k))=(atKey xs k).isSome:=by
  rw[ik,(r.val k).isSome_eq,Option.isSome_map]
 unfold putK storedH;rw[e];by_cases q:(atKey xs k).isSome=true
 ·rw[xCg q,xCg q];exact r.repl k ry
 ·rw[xCf q,xCf q];exact Paired.snoc r ⟨rfl,hb,ry⟩
theorem KT.keeps{kvs:List (List Key×V)}{xs:List (List Key×Addr×Value)}(r:KT H kvs xs)(ht:∀b ys,H b=some (.tup ys)->H' b=some (.tup ys)):KT H' kvs xs:=
 Paired.mapP r λ_ _ z=>⟨z.1,ht _ _ z.2.1,z.2.2⟩
section
variable{P:Program}{w:World}{H:Hp}{h:Heap}{a:Addr}
theorem tF{u:HO}(ok:HOk P w H h)(e:Rd H a u):ObjOk P w H h a u:=e.ok ok
theorem fU(ok:HOk P w H h)(e:Rd H a (.dK kvs)):kvs.length<=sizeLine/\(a==sysModules)=false/\∃vs,KV kvs vs/\h.DictOf (mixKind P w) a vs:=
 show ObjOk P w H h a (.dK kvs) from tF ok e
theorem kY(ok:HOk P w H h)(e:H a=some (.dK kvs)):kvs.length<=sizeLine/\(a==sysModules)=false/\∃vs,KV kvs vs/\h.DictOf (mixKind P w) a vs:=fU ok (.inl e)
theorem fN{ks:List Key}(ok:HOk P w H h)(e:H a=some (.tup (ks.map kV))):(tupleKind (mixKind P w)).is h ks a:=by
 obtain⟨_,its,r,o,h1,h2,n,h3⟩:=(show ObjOk P w H h a (.tup (ks.map kV)) from ok a _ e)
 exact⟨o,its.toArray,n,h1,h2,h3,by simpa using gm r⟩
theorem iZ{kvs:List (List Key×V)}(ok:HOk P w H h)(e:Rd H a (.dT kvs)):kvs.length<=sizeLine/\(a==sysModules)=false /\
  ∃xs,KT H kvs xs/\h.DictOfH (tupleKind (mixKind P w)) a xs:=by
 obtain⟨z,y,xs,r,o,es,ep,h1,h2,h3,h4,h5⟩:=(show ObjOk P w H h a (.dT kvs) from tF ok e)
 refine⟨z,y,xs,r,o,es,ep,h1,h2,h3,h4,λx hx=>?_,h5⟩;have all:∀{l:List (List Key×V)}{m:List (List Key×Addr×Value)},KT H l m->∀x∈m,(tupleKind (mixKind P w)).is h x.1 x.2.1:=by
  intro l m q;induction q with
  |nil=>intro x hx;exact nomatch hx
  |@cons p q ps qs hq t ih=>
   intro x hx;rcases xAv.mp hx with e|hx
   ·subst e;exact fN ok (by rw[<- hq.1];exact hq.2.1)
   ·exact ih x hx
 exact all r x hx
theorem yz{kvs:List (List Key×V)}(ok:HOk P w H h)(e:H a=some (.dT kvs)):kvs.length<=sizeLine/\(a==sysModules)=false /\
  ∃xs,KT H kvs xs/\h.DictOfH (tupleKind (mixKind P w)) a xs:=iZ ok (.inl e)
end
def DGet(H:Hp)(a:Addr)(y:V)(r:Option V):Prop:=
 (∃kvs k,Rd H a (.dK kvs)/\y=kV k/\r=valV kvs k)\/∃kvs k b,Rd H a (.dT kvs)/\y=.ref b/\H b=some (.tup (k.map kV))/\r=valV kvs k
def DPut(H:Hp)(a:Addr)(y v:V)(H':Hp):Prop:=
 (∃kvs k,H a=some (.dK kvs)/\y=kV k/\kvs.length<sizeLine/\H'=upd H a (.dK (putK kvs k v))) \/
 ∃kvs k b,H a=some (.dT kvs)/\y=.ref b/\H b=some (.tup (k.map kV))/\kvs.length<sizeLine/\H'=upd H a (.dT (putK kvs k v))
section
variable{X:Cx}{Z:List (Addr×Obj)}{σ:St}{H:Hp}{s:Shared}{a:Addr}{y v:V}{u r:Value}{o:Option V}{A:Around}{E:Value->Shared->Prop}
theorem Inv.big(I:Inv X Z σ H s):sysModules<s.heap.objs.size:=by
 have h:mainGlobals<s.heap.objs.size:=(I.mod.glob.keeps I.bk).lt;exact Nat.lt_trans (by decide) h
theorem mG(hu:A.units+1<cLine)(I:Inv X Z σ H s)(g:DGet H a y (some v))(ry:RelV y u)(h:∀w' s',Inv X Z σ H s'->RelV v w'->Q w' s') :
  wpAny (model X.prog X.w) A (getItem (.ref a) u) Q E s:=by
 rcases g with ⟨kvs,k,e,ey,l⟩|⟨kvs,k,b,e,ey,eb,l⟩
 ·subst ey;obtain⟨z,hd,vs,rel,dd⟩:=fU I.hok e;obtain⟨w',hw,rw'⟩:=RelO.some_of (v:=v) (o:=valueAt vs k) (by rw[l];exact rel.val k);exact wpAny_getItem_of (gk ry) dd.mapOf hw (h w' _ (I.tok _) rw')
 ·subst ey;cases (show u=Value.ref b from ry);obtain⟨z,hd,xs,rel,dd⟩:=iZ I.hok e;obtain⟨w',hw,rw'⟩:=RelO.some_of (v:=v) (o:=(atKey xs k).map (·.2)) (by rw[l];exact rel.val k);obtain⟨p,hp,hp2⟩:=Option.map_eq_some_iff.mp hw;refine wpAny_getItem_heap (tupleKind_room_in1 hu) (fN I.hok eb) dd hp ?_;rw[hp2];exact h w' _ (I.tok _) rw'
theorem zr(hu:A.units+1<cLine)(I:Inv X Z σ H s)(g:DGet H a y o)(ry:RelV y u)(h:∀s',Inv X Z σ H s'->Q (.bool o.isSome) s') :
  wpAny (model X.prog X.w) A (compareOp .In u (.ref a)) Q E s:=by
 rcases g with ⟨kvs,k,e,ey,l⟩|⟨kvs,k,b,e,ey,eb,l⟩
 ·subst ey;obtain⟨z,hd,vs,rel,dd⟩:=fU I.hok e;refine wpAny_in_of (gk ry) hd dd.mapOf ?_;rw[<- (rel.val k).isSome_eq,<- l];exact h _ (I.tok _)
 ·subst ey;cases (show u=Value.ref b from ry);obtain⟨z,hd,xs,rel,dd⟩:=iZ I.hok e;refine wpAny_in_heap (tupleKind_room_in1 hu) (fN I.hok eb) hd dd ?_;have q:=(rel.val k).isSome_eq;rw[Option.isSome_map] at q;rw[<- q,<- l];exact h _ (I.tok _)
theorem sy(hu:A.units+1<cLine)(I:Inv X Z σ H s)(g:DGet H a y o)(ry:RelV y u)(h:∀s',Inv X Z σ H s'->Q (.bool (!o.isSome)) s') :
  wpAny (model X.prog X.w) A (compareOp .NotIn u (.ref a)) Q E s:=by
 rcases g with ⟨kvs,k,e,ey,l⟩|⟨kvs,k,b,e,ey,eb,l⟩
 ·subst ey;obtain⟨z,hd,vs,rel,dd⟩:=fU I.hok e;refine wpAny_notIn_of (gk ry) hd dd.mapOf ?_;rw[<- (rel.val k).isSome_eq,<- l];exact h _ (I.tok _)
 ·subst ey;cases (show u=Value.ref b from ry);obtain⟨z,hd,xs,rel,dd⟩:=iZ I.hok e;refine wpAny_notIn_heap (tupleKind_room_in1 hu) (fN I.hok eb) hd dd ?_;have q:=(rel.val k).isSome_eq;rw[Option.isSome_map] at q;rw[<- q,<- l];exact h _ (I.tok _)
theorem hV{ob:HO}(I:Inv X Z σ H s)(mu:Mut (H a))(hs:Heap.SameBut a s.heap h')(he:∃q,h'.get? a=some q)(new:ObjOk X.prog X.w (upd H a ob) h' a ob) :
  Inv X Z σ (upd H a ob) {s with heap:=h',toks:=t'}:=
 I.write (x:=a) (e:=a) mu (.inl rfl) (λb q hb z=>(hs.2 b hb).trans z) he new
theorem hU{vs:List (Key×Value)}(z:kvs.length<=sizeLine)(hd:(a==sysModules)=false)(rel:KV kvs vs)(dd:h'.DictOf (mixKind P w) a vs) :
  ObjOk P w H' h' a (.dK kvs):=⟨z,hd,vs,rel,dd⟩
theorem mE{Q:Unit->Shared->Prop}(hu:A.units+1<cLine)(I:Inv X Z σ H s)(g:DPut H a y v H')(ry:RelV y u)(rv:RelV v r)(h:∀s',Inv X Z σ H' s'->Q () s') :
  wpAny (model X.prog X.w) A (setItem (.ref a) u r) Q E s:=by
 rcases g with ⟨kvs,k,e,ey,l,eH⟩|⟨kvs,k,b,e,ey,eb,l,eH⟩
 ·subst ey eH;obtain⟨z,hd,vs,rel,dd⟩:=kY I.hok e;have hz:vs.length<=sizeLine:=by rw[<- rel.length];exact z
  have hl:(putK kvs k v).length<=sizeLine:=by have:=dG kvs k v;lia
  refine wpAny_setItem_pairs (hsz:=hz) (gk ry) dd λh' dd' hs=>h _ ?_;have he:∃q,h'.get? a=some q:=let ⟨q,_,_,hq,_⟩:=dd';⟨q,hq⟩;exact hV I (by rw[e];exact True.intro) hs he (hU hl hd (rel.put k rv) dd')
 ·subst ey eH;cases (show u=Value.ref b from ry);obtain⟨z,hd,xs,rel,dd⟩:=yz I.hok e;have hz:xs.length<=sizeLine:=by rw[<- Paired.length rel];exact z
  have hl:(putK kvs k v).length<=sizeLine:=by have:=dG kvs k v;lia
  refine wpAny_setItem_heap (hsz:=hz) (tupleKind_room_in1 hu) (fN I.hok eb) dd λh' dd' hs=>h _ ?_;obtain⟨q,es,ep,hq,h2,h3,h4,_,h5⟩:=dd';refine hV I (by rw[e];exact True.intro) hs ⟨q,hq⟩ ⟨hl,hd,_,(rel.put k eb rv).keeps λc ys ec=>?_,q,es,ep,hq,h2,h3,h4,h5⟩;rw[bq (xX ec e (λz=>nomatch z))];exact ec
end
section
variable{X:Cx}{Z:List (Addr×Obj)}{σ:St}{H:Hp}{s:Shared}{a:Addr}{kvs:List (Key×V)}{k:Key}{u:Value}{A:Around}{E:Value->Shared->Prop}
theorem yA(I:Inv X Z σ H s)(e:Rd H a (.dK kvs))(h:∀t s',Inv X Z σ H s'->Q (.int kvs.length t) s'):wpAny (model X.prog X.w) A (call (.builtin "len") [.ref a]) Q E s:=by
 obtain⟨z,hd,vs,rel,dd⟩:=fU I.hok e;refine call_len_dict hd dd (by rw[<- rel.length];rw[sizeLine_eq] at z;lia) ?_;rw[<- rel.length];exact h _ _ (I.tok _)
end
theorem i9{s:Shared}{a:Addr}{o:Option V}(I:Inv X Z σ H s)(g:DGet H a y o):s.TypeIs (.ref a) "dict":=by
 rcases g with ⟨kvs,k,e,_,_⟩|⟨kvs,k,b,e,_,_,_⟩
 ·obtain⟨_,_,vs,_,dd⟩:=fU I.hok e;exact dd.typeIs
 ·obtain⟨_,_,xs,_,dd⟩:=iZ I.hok e;exact dd.typeIs
theorem i8(h:Heap)(hb:sysModules<h.objs.size):ObjOk P w H (h.push {cls:=.type "dict",data:=.dict #[]}) h.objs.size (.dK []):=
 ⟨xBn _,beq_eq_false_iff_ne.mpr (Ne.symm (xA0 hb)),[],.nil,Heap.DictOf.new h⟩
theorem pR(h:Heap)(hb:sysModules<h.objs.size):ObjOk P w H (h.push {cls:=.type "dict",data:=.dict #[]}) h.objs.size (.dT []):=
 ⟨xBn _,beq_eq_false_iff_ne.mpr (Ne.symm (xA0 hb)),[],.nil,_,#[],0,xAl _ rfl,⟨rfl,rfl,rfl⟩,rfl,rfl,List.nodup_nil⟩
def tDNewK:TE:=λ_ H Q=>∀p,H p=none->Q (.ref p) (upd H p (.dK []))
def tDNewT:TE:=λ_ H Q=>∀p,H p=none->Q (.ref p) (upd H p (.dT []))
section
variable{X:Cx}{pos:Pos}
theorem oF:PE X (.Dict [] [] pos) tDNewK:=λZ s σ H Q I h=>
 wpAny_Dict_empty ⟨.ref s.heap.objs.size,_,I.laid (a:=s.heap.objs.size) (o:=.dK []) (t':=s.toks) (λ_ _ q=>xAf _ q) (xAg _) (i8 s.heap I.big),rfl,h _ (I.hok.fresh (xAg _))⟩
theorem oE:PE X (.Dict [] [] pos) tDNewT:=λZ s σ H Q I h=>
 wpAny_Dict_empty ⟨.ref s.heap.objs.size,_,I.laid (a:=s.heap.objs.size) (o:=.dT []) (t':=s.toks) (λ_ _ q=>xAf _ q) (xAg _) (pR s.heap I.big),rfl,h _ (I.hok.fresh (xAg _))⟩
end
def tPairs:List (TE×TE)->St->Hp->(List (V×V)->Hp->Prop)->Prop
 |[],_,H,Q=>Q [] H
 |(tk,tv)::r,σ,H,Q=>tk σ H λx H1=>tv σ H1 λy H2=>tPairs r σ H2 λps H3=>Q ((x,y)::ps) H3
noncomputable abbrev VV:List (V×V)->List (Value×Value)->Prop:=Paired λp q=>RelV p.1 q.1/\RelV p.2 q.2
def PPs(X:Cx)(pos:Pos)(keys:List (Option Expr))(values:List Expr)(trs:List (TE×TE)):Prop:=
 ∀(Z:List (Addr×Obj))(s:Shared)(σ:St)(H:Hp)(Q:List (V×V)->Hp->Prop),Inv X Z σ H s->tPairs trs σ H Q ->
  wpAny (model X.prog X.w) X.A (evalPairs (pairTrees keys values X.env pos)) (λvs s'=>∃ps H',Inv X Z σ H' s'/\VV ps vs/\Q ps H') X.xe s
theorem qW:PPs X pos [] [] []:=λZ s σ H Q I h=>pairTrees_nil_walk ⟨[],H,I,.nil,h⟩
theorem nY{k v:Expr}{ks:List (Option Expr)}{vs:List Expr}{tk tv:TE}(hk:PE X k tk)(hv:PE X v tv)(hr:PPs X pos ks vs trs) :
  PPs X pos (some k::ks) (v::vs) ((tk,tv)::trs):=λZ s σ H Q I h=>
 pairTrees_cons_walk (thn (hk Z s σ H _ I h) λu s1 ⟨x,H1,I1,rx,q1⟩=>thn (hv Z s1 σ H1 _ I1 q1) λw2 s2 ⟨y,H2,I2,ry,q2⟩ =>
  thn (hr Z s2 σ H2 _ I2 q2) λws s3 ⟨ps,H3,I3,rel,q3⟩=>⟨(x,y)::ps,H3,I3,.cons ⟨rx,ry⟩ rel,q3⟩)
noncomputable def mergeK(kvs more:List (Key×V)):List (Key×V):=more.foldl (λacc kv=>putK acc kv.1 kv.2) kvs
theorem KV.merge:∀{more:List (Key×V)}{rs:List (Key×Value)}{kvs:List (Key×V)}{vs:List (Key×Value)},KV more rs->KV kvs vs->KV (mergeK kvs more) (merged vs rs):=by
 intro more rs kvs vs r;unfold KV at r;induction r generalizing kvs vs with
 |nil=>intro q;exact q
 |@cons p q ps qs h t ih=>
  intro r0;have e:KV (putK kvs p.1 p.2) (stored vs q.1 q.2):=by
   have:=r0.put p.1 h.2;rw[<- h.1];exact this
  exact ih e
theorem dQ:∀(more kvs:List (Key×V)),(mergeK kvs more).length<=kvs.length+more.length
 |[],kvs=>by show kvs.length<=kvs.length+0;lia
 |p::r,kvs=>by
  have h1:=dQ r (putK kvs p.1 p.2);have h2:=dG kvs p.1 p.2;show(mergeK (putK kvs p.1 p.2) r).length<=_;rw[xAo];lia
theorem fX{P:Program}{w:World}:∀{kvs:List (Key×V)}{ws:List (Value×Value)},VV (kvs.map λkv=>(kV kv.1,kv.2)) ws->∃rs,Carries (mixKind P w) ws rs/\KV kvs rs
 |[],_,r=>by rw[List.map_nil] at r;cases r;exact⟨[],True.intro,.nil⟩
 |p::kvs,_,r=>by
  rw[xBs] at r;cases r with
  |@cons a b as bs h t=>
   obtain⟨rs,c,q⟩:=fX (P:=P) (w:=w) t;obtain⟨b1,b2⟩:=b;exact⟨(p.1,b2)::rs,⟨gk h.1,rfl,c⟩,.cons ⟨rfl,h.2⟩ q⟩
def tDisp(trs:List (TE×TE)):TE:=λσ H Q=>∀p,H p=none->tPairs trs σ (upd H p (.dK [])) λps H2=>H2 p=some (.dK [])/\∃kvs:List (Key×V),ps=kvs.map (λkv=>(kV kv.1,kv.2))/\kvs.length<=15/\Q (.ref p) (upd H2 p (.dK (mergeK [] kvs)))
theorem rC{keys:List (Option Expr)}{values:List Expr}(h:PPs X pos keys values trs)(hall:keys.all (·.isSome)=true)(hl:keys.length=values.length)(h0:keys≠[])(h15:keys.length<=15):PE X (.Dict keys values pos) (tDisp trs):=by
 intro Z s σ H Q I q;have hn:=I.hok.fresh (xAg s.heap.objs.size);have I1:=I.laid (a:=s.heap.objs.size) (o:=.dK []) (h':=s.heap.push {cls:=.type "dict",data:=.dict #[]}) (t':=s.toks) (λ_ _ q=>xAf _ q) (xAg _) (i8 s.heap I.big);refine wpAny_Dict_walk (knd:=mixKind X.prog X.w) hall hl h0 h15 (thn (h Z _ σ _ _ I1 (q _ hn)) λws s2 zz=>?_);obtain⟨ps,H2,I2,rel,e,kvs,ep,lk,q2⟩:=zz;subst ep;obtain⟨rs,c,rk⟩:=fX (P:=X.prog) (w:=X.w) rel;obtain⟨z,hd,vs0,r0,dd⟩:=kY I2.hok e;cases r0;refine⟨rs,c,dd,λh' dd' hs=>⟨.ref s.heap.objs.size,_,?_,rfl,q2⟩⟩;have hz:(mergeK [] kvs).length<=sizeLine:=by
  have h1:=dQ kvs [];rw[List.length_nil] at h1;rw[sizeLine_eq];lia
 have he:∃q,h'.get? s.heap.objs.size=some q:=let ⟨q,_,_,hq,_⟩:=dd';⟨q,hq⟩;exact hV I2 (by rw[e];exact True.intro) hs he (hU hz hd (rk.merge .nil) dd')
structure M1(X:Cx)(o:Expr)(m:Str)(apos:Pos)(e:Expr)(cpos:Pos):Prop where
 base:attributeBase o m X.env (eval o X.env)=eval o X.env
 few:((backTo cpos (starEach [e] X.env)).all (λx=>!x.1) && (backToKw cpos (keywordEach [] X.env)).all (λx=>x.1.isSome)
  && decide (([e]:List Expr).length+([]:List Keyword).length+(if([]:List Keyword).isEmpty then 0 else 1)<30))=true
 line:(apos.endLine==cpos.line)=true
 trees:backTo cpos (starEach [e] X.env)=[(false,eval e X.env)]
structure M2(X:Cx)(o:Expr)(m:Str)(apos:Pos)(e f:Expr)(cpos:Pos):Prop where
 base:attributeBase o m X.env (eval o X.env)=eval o X.env
 few:((backTo cpos (starEach [e,f] X.env)).all (λx=>!x.1) && (backToKw cpos (keywordEach [] X.env)).all (λx=>x.1.isSome)
  && decide (([e,f]:List Expr).length+([]:List Keyword).length+(if([]:List Keyword).isEmpty then 0 else 1)<30))=true
 line:(apos.endLine==cpos.line)=true
 trees:backTo cpos (starEach [e,f] X.env)=[(false,eval e X.env),(false,eval f X.env)]
section
variable{X:Cx}{Z:List (Addr×Obj)}{σ:St}{H:Hp}{s:Shared}{a:Addr}{kvs:List (Key×V)}{A:Around}{E:Value->Shared->Prop}
theorem pT(I:Inv X Z σ H s)(e:Rd H a (.dK kvs))(h:∀p s',H p=none->Inv X Z σ (upd H p (.dK kvs)) s'->Q (.ref p) s'):wpAny (model X.prog X.w) A (call (.type "dict") [.ref a]) Q E s:=by
 obtain⟨z,hd,vs,rel,dd⟩:=fU I.hok e;refine kt_call_dict hd dd (by rw[<- rel.length];exact z) λh' dd' hs=>?_;refine h _ _ (I.hok.fresh (xAg _)) (I.laid (a:=s.heap.objs.size) (o:=.dK kvs) (t':=s.toks) (λb q hq=>?_) (xAg _) (hU z (beq_eq_false_iff_ne.mpr (Ne.symm (xA0 I.big))) rel dd'));exact(hs.2 b (xA0 (xA1 hq))).trans (xAf _ hq)
end
end L2
namespace Att
open PySem PySem.W PySem.Calls PyProof.Rows
theorem eY{P:Params}{h:Heap}:∀(ns:List Int)(vs:List Value),WellAll P h vs (ns.map WData.int)->IntsAre vs ns:=by
 intro ns;induction ns with
 |nil=>
  intro vs w;rw[List.map_nil] at w;cases w;exact .nil
 |cons n ns ih=>
  intro vs w;rw[xBs] at w;cases w with
  |cons a b=>
   cases a;exact .cons _ _ (ih _ b)
theorem lN{l:OpenLaw}{n:Nat}(hn:l.most=some n){P:Params}{h:Heap}{args:List WData}{vals:List Value}(hpre:l.row.toRowW.claim.pre args=true)(hwl:WellAll P h vals args) :
  ∃a vs ns,vals=[Value.ref a]/\args=[WData.list (ns.map WData.int)]/\h.get? a=some {cls:=.type "list",data:=.seq vs.toArray}/\IntsAre vs ns/\ns.length<=n:=by
 have hsh:WShape.hasAll [] args [.list .int]=true:=(pre_splitW hpre).1;have hc:l.pre.holds [] {args:=args}=true:=(pre_splitW hpre).2;obtain⟨d,r,rfl,h1,h2⟩:=hasAllW_cons hsh;obtain rfl:=hasAllW_nil h2;obtain⟨xs,rfl,h3⟩:=hasW_list h1;obtain⟨ns,rfl⟩:=items_int h3;have hlen:ns.length<=n:=by
  unfold OpenLaw.pre at hc;have h4:(WTm.not (.lt (.lit (.int (n:Int))) (.len (.arg 0)))).holds [] {args:=[.list (ns.map .int)]}=true:=by
   have h4:=(holds_andW hc).1;rw[hn] at h4;exact h4
  have h5:=condW_of h4 (w_not (w_lt w_lit (w_len_list (w_arg rfl))));rw[xAa] at h5;refine Nat.le_of_not_lt λq=>?_;have q':(n:Int)<((ns.length:Nat):Int):=by lia
  first
   |(rw[xBd q'] at h5;exact absurd h5 (by decide))
   |(simp at h5;lia)
 cases hwl with
 |cons w1 w2=>
  cases w2;cases w1 with
  |list ho hall=>exact⟨_,_,ns,rfl,rfl,ho,eY ns _ hall,hlen⟩
theorem lO(l:OpenLaw)(args:List WData):l.row.toRowW.claim.post args (.bool true) args=true:=
 postW_of (r:=l.row.toRowW) (X:=(true==true))
  (show WShape.has [] (.bool true) .bool=true by first|rfl|decide|simp[WShape.has,WShape.arms,WShape.armsAll])
  (show(WTm.eq .res (.lit (.bool true))).value [] {args:=args,res:=some (.bool true),after:=args}=some (.bool (true==true)) from w_eq_bool (w_res rfl) w_lit) rfl
theorem attach_call{l:OpenLaw}{n:Nat}{q:Program}{loose:List Str}{XP:(Str->Option Value)->Heap->Prop}{YP:World->Heap->Prop}{d:DefRec}(hn:l.most=some n)(hdf:d.params.defaults=[])(call:∀(w:World)(s₀ s₁:Shared)(mg mb:Str->Option Value)(fa:Addr)(o:Obj)(pm cd doc:Value)(a:Addr)(vs:List Value)(ns:List Int),
   Ground q loose [] XP w s₀ mg mb s₁.heap->YP w s₁.heap ->
   s₁.heap.get? fa=some o->o.data=.func (docDef d.name d.params d.body d.scope pm cd doc)->s₁.heap.CodeRec cd d.name->mg d.name=some (.ref fa) ->
   s₁.heap.get? a=some {cls:=.type "list",data:=.seq vs.toArray}->IntsAre vs ns->ns.length<=n->s₁.gens=#[] ->
   codeAny (model l.prog w) callerA (.call (.ref fa) ⟨[.ref a],[]⟩) (λr s'=>r=.ok (.ret (.bool true))/\OldK s₁.heap s'.heap/\s'.os=s₁.os/\AllBare s'.gens) s₁) :
  WalkO q loose XP YP l.row.toRowW d [] (λf vs=>PySem.call f vs):=by
 intro w s₀ s₁ mg mb G Y fa o pm cd doc dV kV ho hd hcd hD hmg hg args vals as hpre hlay hrd hwl hlo;obtain rfl:dV=.none:=Dflts.none hD hdf;obtain rfl:kV=.none:=Dflts.noKw hD;obtain⟨a,vs,ns,rfl,rfl,hobj,hints,hlen⟩:=lN hn hpre hwl;refine enter_call (codeAny_mono (call w s₀ s₁ mg mb fa o pm cd doc a vs ns G Y ho (fd_plain hd) hcd hmg hobj hints hlen hg) λr s' hq=>?_);obtain⟨rfl,h2,h3,h4⟩:=hq;exact⟨.inl ⟨.bool true,.bool true,[],rfl,λ_=>rfl,.bool true,lO l _,λ_=>⟨List.Pairwise.nil,λ_ hm=>(nomatch hm)⟩⟩,h2,h3,h4⟩
end Att
namespace L2
open PySem PySem.Spec PyProof.Rows
variable{k:Nat}{fd:FuncData}{x qual y:Str}{st:Stmt}{env:Env}{scope:Scope}
theorem eB:∀{vs:List Value}{ns:List Int},IntsAre vs ns->Vals (ns.map V.int) vs
 |_,_,.nil=>.nil
 |_,_,.cons n t h=>.cons ⟨t,rfl⟩ (eB h)
def Only(H:Hp):Prop:=∀b,H b=none\/∃o xs,H b=some (.frz o (.lst xs))
theorem ph{P:Program}{w:World}{K:xFr}{mg mb:Str->Option Value}{CX:CXT}{fa a:Addr}{sp:Sp}{s₁:Shared}{vs:List Value}{ns:List Int}(KX:K.In s₁.heap)(hns:s₁.heap.Ns mainGlobals mg)(hb:s₁.heap.Ns builtinsNs mb)(hbb:∀x:Str,x≠"__name__"->mb x=bootBuiltins x)(hlim:s₁.heap.NoLimit)(hg:s₁.gens=#[])(ha:s₁.heap.get? a=some {cls:=.type "list",data:=.seq vs.toArray})(hi:IntsAre vs ns)(hl:ns.length<=sizeLine)(hr:Room k callerA)(F:∀base:Heap,K.In base->base.Ns mainGlobals mg->FnOk P w K mg base CX k fa fd [x] sp)(hbind:∀(s:Shared)(u:Value),BindsTo s fd ⟨[u],[]⟩ [(x,u)])(hsp:∀H:Hp,Only H->SqL K H a (ns.map V.int)->sp [.ref a] H (λv _=>v=.bl true) λ_ _ _=>False)(hCX:∀H e s',CX [] H s₁ (λ_ _ _=>False) e s'->False) :
  codeAny (model P w) callerA (.call (.ref fa) ⟨[.ref a],[]⟩) (λr s'=>r=.ok (.ret (.bool true))/\OldK s₁.heap s'.heap/\s'.os=s₁.os/\AllBare s'.gens) s₁:=by
 have rv:=eB hi;have lenV:=hi.length
 -- from an abstract heap in which nothing but the script may be tracked
 have core:∀H:Hp,Only H->SqL K H a (ns.map V.int)->HOk P w H s₁.heap->(∀b,H b≠none->b=a)->(H a≠none->K.lookup a=none) ->
   codeAny (model P w) callerA (.call (.ref fa) ⟨[.ref a],[]⟩) (λr s'=>r=.ok (.ret (.bool true))/\OldK s₁.heap s'.heap/\s'.os=s₁.os/\AllBare s'.gens) s₁:=by
  intro H hO hS hok hA hK;have base_of:∀{b:Addr}{o:Obj},s₁.heap.get? b=some o->H b=none->(hidT s₁.heap H).get? b=some o:=λe n=>pC e n;have noA:∀{b:Addr}{o:Obj}{es:Array DictEntry}{ep:Nat},s₁.heap.get? b=some o->o.data=.dict es ep->H b=none:=λ{b o es ep} e d=>by
   cases q:H b with
   |none=>rfl
   |some u=>
    have e':b=a:=hA b (by rw[q];simp);subst e';rw[ha] at e;cases e;have d':Data.seq vs.toArray _=Data.dict es ep:=d;cases d'
  have nsK:∀{b:Addr}{m:Str->Option Value},s₁.heap.Ns b m->(hidT s₁.heap H).Ns b m:=λ{b m} ⟨o,es,ep,e,d,r⟩=>⟨o,es,ep,base_of e (noA e d),d,r⟩
  have hKb:K.In (hidT s₁.heap H):=λb o e=>base_of (KX b o e) (by
   cases q:H b with
   |none=>rfl
   |some u=>
    have e':b=a:=hA b (by rw[q];simp);subst e';rw[hK (by rw[q];simp)] at e;cases e)
  have hM:Mod K mg (hidT s₁.heap H):=⟨hKb,nsK hns,⟨mb,nsK hb,hbb⟩,let ⟨mc,h1,h2⟩:=hlim;⟨mc,nsK h1,h2⟩⟩
  have e0:Env0 P w K mg (hidT s₁.heap H) callerA [] s₁ H:=⟨rfl,hM,λb o e=>rW e,Nat.le_of_eq (mq _ _),trivial,λb hb=>absurd (show b∈([]:List Addr) from hb) (by simp),hok,.of_eq hg⟩
  refine codeAny_mono ((F _ hKb (nsK hns)).run callerA [] s₁ H ⟨[.ref a],[]⟩ [.ref a] [.ref a] _ _ hr e0 (hbind s₁ (.ref a)) (.cons rfl .nil) (hsp H hO hS)) λr s' h=>?_;cases r with
  |error e=>exact(hCX H e s' h).elim
  |ok fl=>
   cases fl with
   |next=>exact False.elim h
   |brk=>exact False.elim h
   |cont=>exact False.elim h
   |ret u=>
    obtain⟨v,H',os,bare,un,hok',r',q⟩:=h;have q':v=.bl true:=q;subst q';obtain rfl:u=Value.bool true:=r';refine⟨rfl,OldK.of_keep λb o e=>?_,os,bare⟩;cases q:H b with
    |none=>exact un.keep b o e q (by intro z;exact absurd (show b∈([]:List Addr) from z) (by simp)) (by simp)
    |some u=>
     rcases hO b with z|⟨ob,xs,z⟩
     ·rw[q] at z;cases z
     ·have z2:=un.frzs b ob _ z;obtain⟨e1,_⟩:=hok b _ z;obtain⟨e2,_⟩:=hok' b _ z2;rw[e] at e1;cases e1;exact e2
 cases hk:K.lookup a with
 |some o=>
  -- the script is one of the module's own objects
  have e:=KX a o hk;rw[ha] at e;cases e;refine core (λ_=>none) (λ_=>.inl rfl) (.inr ⟨_,vs.toArray,_,hk,rfl,rfl,rfl,by rw[xAp,lenV];exact hl,by simpa using rv⟩) (λb u z=>by have z':(none:Option HO)=some u:=z;cases z') (λb z=>absurd rfl z) λz=>absurd rfl z
 |none=>
  refine core (λb=>if b=a then some (.frz {cls:=.type "list",data:=.seq vs.toArray} (.lst (ns.map V.int))) else none) (λb=>?_) (.inl (.inr ⟨{cls:=.type "list",data:=.seq vs.toArray},xCg rfl⟩)) (λb u z=>?_) (λb z=>?_) λ_=>hk
  ·by_cases hb:b=a
   ·exact .inr ⟨_,_,xCg hb⟩
   ·exact .inl (xCf hb)
  ·by_cases hb:b=a
   ·have z':=(xCg hb).symm.trans z;cases z';subst hb;exact⟨ha,by rw[xAa];exact hl,vs,_,rv,ha⟩
   ·have z':=(xCf hb).symm.trans z;cases z'
  ·by_cases hb:b=a
   ·exact hb
   ·exact absurd (xCf hb) z
theorem walk_of{l:PySem.W.OpenLaw}{n:Nat}{q:Program}{loose:List Str}{XP:(Str->Option Value)->Heap->Prop}{YP:World->Heap->Prop}{d:DefRec}{K:Params->xFr}{CX:World->CXT}{sp:World->Sp}(hn:l.most=some n)(hn2:n<=sizeLine)(hdf:d.params.defaults=[])(hr:Room k callerA)(hY:∀(w:World)(h:Heap),YP w h->(K w.params).In h)(F:∀(w:World)(mg:Str->Option Value)(fa:Addr)(h:Heap),(K w.params).In h->h.Ns mainGlobals mg->mg d.name=some (.ref fa) ->
   ∃fd:FuncData,(∀(s:Shared)(u:Value),BindsTo s fd ⟨[u],[]⟩ [(x,u)]) /\
    ∀base:Heap,(K w.params).In base->base.Ns mainGlobals mg->FnOk l.prog w (K w.params) mg base (CX w) k fa fd [x] (sp w))(hsp:∀(w:World)(H:Hp)(a:Addr)(ns:List Int),ns.length<=n->Only H->SqL (K w.params) H a (ns.map V.int)->sp w [.ref a] H (λv _=>v=.bl true) λ_ _ _=>False)(hCX:∀(w:World)(H:Hp)(s:Shared)(e:Value)(s':Shared),CX w [] H s (λ_ _ _=>False) e s'->False) :
  PySem.W.WalkO q loose XP YP l.row.toRowW d [] (λf vs=>PySem.call f vs):=by
 refine Att.attach_call hn hdf λw s₀ s₁ mg mb fa o pm cd doc a vs ns G Y ho hd hcd hmg hobj hints hlen hg=>?_;have KX:=hY w _ Y;obtain⟨fd,hb,hF⟩:=F w mg fa _ KX G.T.g hmg;exact ph KX G.T.g G.T.b G.T.builtins G.T.nolimit hg hobj hints (xCk hlen hn2) hr hF hb (λH hO hS=>hsp w H a ns hlen hO hS) λH e s'=>hCX w H s₁ e s'
noncomputable def inClass(s:Stmt)(j:Nat):Stmt:=match s with
 |.ClassDef _ _ _ body _ _ _ _ _ _ _=>body.getD j (.Pass ⟨0,0,0,0⟩)
 |_=>.Pass ⟨0,0,0,0⟩
noncomputable def defArgs(s:Stmt):Arguments:=match s with
 |.FunctionDef _ a _ _ _ _ _ _ _ _=>a
 |_=>{posonlyargs:=[],args:=[],vararg:=none,kwonlyargs:=[],kw_defaults:=[],kwarg:=none,defaults:=[]}
noncomputable def defBody(s:Stmt):List Stmt:=match s with
 |.FunctionDef _ _ b _ _ _ _ _ _ _=>b
 |_=>[]
noncomputable def defScope(s:Stmt):Scope:=match s with
 |.FunctionDef _ _ _ _ _ _ sc _ _ _=>sc
 |_=>{kind:=.function,names:=[],isGenerator:=false,isCoroutine:=false}
structure Fun(K:xFr)(x qual:Str)(st:Stmt)(f:Addr)(fd:FuncData):Prop where
 ex:∃(oc:Value) (od:Option Addr) (kV doc pm:Value) (an:Option Addr) (cdv ct:Value) (osl:Array (Option Value)),
  fd=W.fnOf x qual (defArgs st) (defBody st) (defScope st) .none kV doc pm an cdv ct/\K.lookup f=some ⟨oc,od,.func fd,osl⟩/\W.codeIn K cdv qual=true
 kp:W.keepIn K (.ref f)=true
section
variable{P:Program}{w:World}{K:xFr}{mg:Str->Option Value}{base:Heap}
theorem Fun.binds{f:Addr}{ps:List Str}(F:Fun K x qual st f fd)(h:∀(kV doc pm:Value)(an:Option Addr)(cdv ct:Value)(us:List Value),us.length=ps.length->bindArgs (W.fnOf x qual (defArgs st) (defBody st) (defScope st) .none kV doc pm an cdv ct) ⟨us,[]⟩=pure (ps.zip us)):Binds K fd ps []:=by
 obtain⟨oc,od,kV,doc,pm,an,cdv,ct,osl,rfl,lk,hcd⟩:=F.ex;exact .all (h kV doc pm an cdv ct)
theorem pF{f:Addr}{oc:Value}{od an:Option Addr}{osl:Array (Option Value)}{kV doc pm cdv ct:Value}(l:K.lookup f=some ⟨oc,od,.func (W.fnOf x qual (defArgs st) (defBody st) (defScope st) .none kV doc pm an cdv ct),osl⟩)(c:W.codeIn K cdv qual=true)(k:W.keepIn K (.ref f)=true):Fun K x qual st f (W.fnOf x qual (defArgs st) (defBody st) (defScope st) .none kV doc pm an cdv ct):=⟨⟨oc,od,kV,doc,pm,an,cdv,ct,osl,rfl,l,c⟩,k⟩
end
theorem small1000{n:Nat}(h:n<=1000):n<sizeLine:=Nat.lt_of_le_of_lt h (by decide)
def Same(H H':Hp):Prop:=∀b o,H b=some o->H' b=some o
theorem Same.refl(H:Hp):Same H H:=λ_ _ h=>h
section
variable{X:Cx}
theorem mO:CallR X (.builtin "len") (λxs H Q=>∃a kvs,xs=[V.ref a]/\H a=some (.dK kvs)/\Q (.int kvs.length) H):=by
 intro Z s σ H xs us Q I r h;obtain⟨a,kvs,rfl,ha,q⟩:=h;obtain⟨u,rfl,ru⟩:=vals1 r;cases ru;exact yA I (.inl ha) λt s' I'=>⟨.int kvs.length,H,I',⟨t,rfl⟩,q⟩
end
noncomputable def cxComp(X:Cx)(N:List Str)(scope:Scope)(cl:List (Str×Addr))(C:Addr)(s:Shared)(H:Hp)(fp:List Addr):Cx where
 prog:=X.prog
 w:=X.w
 K:=X.K
 mg:=X.mg
 base:=X.base
 A:=X.A
 N:=N
 s₀:=s
 H₀:=H
 env:=compEnvC scope cl C X.env
 outer:=X.stack
 stack:=X.stack
 ex:=fp
 fn:=λ_=>false
 calm:=X.calm
 pn:=[]
 xe:=λ_ _=>False
theorem eU{k:NameKind}(h:(relabel scope env).names.lookup y=some k):∃k0,(y,k0)∈scope.names/\(k=k0\/(k0=.free/\k=.cell)):=by
 unfold relabel at h;dsimp only at h;revert h;generalize scope.names=l;intro h;induction l with
 |nil=>simp at h
 |cons a r ih=>
  obtain⟨n,k1⟩:=a;rw[xBs] at h;by_cases hc:(k1==NameKind.free&&env.scope.kind == .function&&env.kindOf n==some .cell)=true
  ·dsimp only at h;rw[xCg hc] at h;rw[List.lookup_cons] at h;by_cases e:y==n
   ·rw[e] at h;have e':y=n:=eq_of_beq e;subst e';have hk:k1=.free:=by
     rw[xCh,xCh] at hc;exact eq_of_beq hc.1.1
    subst hk;exact⟨.free,xAr,.inr ⟨rfl,(xB3 h).symm⟩⟩
   ·rw[Bool.eq_false_iff.mpr e] at h;obtain⟨k0,m,z⟩:=ih h;exact⟨k0,xAs _ m,z⟩
  ·dsimp only at h;rw[xCf hc] at h;rw[List.lookup_cons] at h;by_cases e:y==n
   ·rw[e] at h;have e':y=n:=eq_of_beq e;subst e';exact⟨k1,xAr,.inl (xB3 h).symm⟩
   ·rw[Bool.eq_false_iff.mpr e] at h;obtain⟨k0,m,z⟩:=ih h;exact⟨k0,xAs _ m,z⟩
theorem cU(h:scope.names.lookup y=some .free):(relabel scope env).names.lookup y=some .cell\/(relabel scope env).names.lookup y=some .free:=by
 unfold relabel;dsimp only;revert h;generalize scope.names=l;intro h;induction l with
 |nil=>simp at h
 |cons a r ih=>
  obtain⟨n,k1⟩:=a;rw[xBs];rw[List.lookup_cons] at h;by_cases hc:(k1==NameKind.free&&env.scope.kind == .function&&env.kindOf n==some .cell)=true
  ·dsimp only;rw[xCg hc];rw[List.lookup_cons];by_cases e:y==n
   ·rw[e];exact .inl rfl
   ·rw[Bool.eq_false_iff.mpr e] at h⊢;exact ih h
  ·dsimp only;rw[xCf hc];rw[List.lookup_cons];by_cases e:y==n
   ·rw[e] at h⊢;exact .inr h
   ·rw[Bool.eq_false_iff.mpr e] at h⊢;exact ih h
def capV(σ:St)(fr:List Nat):St:=fr.map λk=>(σ[k]?).join
section
variable{X:Cx}
theorem mS:CallR X (.builtin "isinstance") (λxs H Q=>∃x n t b,xs=[x,V.ty n]/\TyOf X.K H x t/\W.kitOne X.K t (.type n)=some b/\Q (.bl b) H):=by
 intro Z s σ H xs us Q I r h;obtain⟨x,n,t,b,rfl,ty,e,q⟩:=h;obtain⟨u,u2,rfl,ru,ru2⟩:=vals2 r;cases (show u2=Value.type n from ru2);exact mj I ru ty e λtk=>⟨.bl b,H,I.tok tk,rfl,q⟩
theorem rS:OpR X (binaryOp .Mult) (rI (λi j=>IntMulOk i j) λi j=>.int (i*j)):=opI λ_ _ _ _ _ _ _ hc q=>mul_int q hc
theorem oV:OpR X (binaryOp .FloorDiv) (rI (λi j=>j≠0/\Builtin.divisionGoesByPylong i j=false) λi j=>.int (i.fdiv j)):=opI λ_ _ _ _ _ _ _ hc q=>floordiv_int hc.1 q (.inl hc.2)
theorem pN{x:V}(h:flatV x=true):eqV x x=true:=by
 cases x <;> first|rfl|(exact absurd (show false=true from h) (by decide))|(simp[eqV])
end
theorem small{n:Nat}(h:n<=1000):n<=sizeLine:=Nat.le_of_lt (small1000 h)
theorem cY{H:Hp}{p:Addr}(h:H p=none)(o:HO):Same H (upd H p o):=λb u q=>by rw[bq (cn q h)];exact q
theorem cD{xs:List V}{us:List Value}(r:Vals xs us){j:Nat}(hj:j<us.toArray.size):∃x,xs[j]?=some x/\RelV x us.toArray[j]:=by
 rw[xAp] at hj;have jx:j<xs.length:=by rw[r.length];exact hj
 obtain⟨u,e,q⟩:=r.get (xAk jx);refine⟨xs[j],xAk jx,?_⟩;rw[List.getElem_toArray];have:us[j]=u:=(xAq.mp e).2;rw[this];exact q
end L2
namespace L2
open PySem PySem.Spec PyProof.Rows PySem.Builtin PySem.Builtin.ObjectAttr
theorem ObjOk.there{P:Program}{w:World}{H:Hp}{h:Heap}{a:Addr}{o:HO}(x:ObjOk P w H h a o):∃u,h.get? a=some u:=by
 cases o with
 |lst xs=>obtain⟨_,_,_,_,e⟩:=x;exact⟨_,e⟩
 |tup xs=>obtain⟨_,_,_,ob,e,_⟩:=x;exact⟨_,e⟩
 |dK kvs=>obtain⟨_,_,_,_,o,_,_,e,_⟩:=x;exact⟨_,e⟩
 |dT kvs=>obtain⟨_,_,_,_,o,_,_,e,_⟩:=x;exact⟨_,e⟩
 |set S n=>obtain⟨o,_,_,_,e,_⟩:=x;exact⟨_,e⟩
 |ins C dx fs=>obtain⟨_,_,_,e,_⟩:=x;exact⟨_,e⟩
 |own y=>obtain⟨_,e⟩:=x;exact⟨_,e⟩
 |xd fs=>obtain⟨_,⟨_,_,_,e,_⟩,_⟩:=x;exact⟨_,e⟩
 |rng lo hi=>obtain⟨_,_,_,e⟩:=x;exact⟨_,e⟩
 |frz ob u=>obtain⟨e,_⟩:=x;exact⟨_,e⟩
 |tbl ps=>exact⟨_,(show h.get? a=some _ from x)⟩
 |met f y=>exact⟨_,(show h.get? a=some _ from x)⟩
 |ext φ=>obtain⟨_,e,_⟩:=x;exact e
section
variable{X:Cx}{Z:List (Addr×Obj)}{σ:St}{H:Hp}{s:Shared}{h':Heap}
theorem Inv.laidN{a:Addr}{o:HO}{t':Nat}(I:Inv X Z σ H s)(k:∀b u,s.heap.get? b=some u->h'.get? b=some u)(hf:s.heap.get? a=none)(new:ObjOk X.prog X.w (upd H a o) h' a o) :
  H a=none/\Inv X Z σ (upd H a o) {s with heap:=h',toks:=t'}:=by
 have hn:H a=none:=by
  cases q:H a with
  |none=>rfl
  |some u=>
   obtain⟨v,e⟩:=(I.hok a u q).there;rw[hf] at e;cases e
 refine⟨hn,I.un ⟨λb u q _ _ _=>k b u q,λb u q _ _ _=>⟨u.slots,k b u q⟩,λb u q n _=>?_,λb u q _=>⟨u,k b u q⟩,λb xs q=>?_,λb u xs q=>?_,λb ps q=>⟨#[],?_⟩⟩ λb u e=>?_⟩
 ·rw[bq (λz=>by rw[z,hf] at q;cases q)];exact n
 ·rw[bq (cn q hn)];exact q
 ·rw[bq (cn q hn)];exact q
 ·rw[bq (cn q hn),q,Array.append_empty]
 ·by_cases hb:b=a
  ·subst hb;rw[bt] at e;cases e;exact new
  ·rw[bq hb] at e;exact(I.hok b u e).stay (λc v _ q=>k c v q) (λc q=>by rw[bq (cn q hn)];exact q) λc xs q=>by rw[bq (cn q hn)];exact q
end
def PassS(CX:CXT)(X:Cx)(Ex:St->XK):Prop:=∀(Z:List (Addr×Obj))(σ:St)(H:Hp)(s:Shared)(ev:Value)(s':Shared),Inv X Z σ H s->CX X.stack H s (Ex σ) ev s'->X.xe ev s'
def tCallS(sp:Sp)(dvs:List V)(Ex:St->XK)(t:TA):TE:=λσ H Q=>t σ H λvs H1=>sp (vs++dvs) H1 Q (Ex σ)
def tMethS(C:Addr)(m:Str)(sp:Sp)(dvs:List V)(Ex:St->XK)(ta:TE)(t:TA):TE:=λσ H Q=>ta σ H λx H1=>∃a dx fs,x=.ref a/\H1 a=some (.ins C dx fs)/\fs.lookup m=none /\
 t σ H1 λvs H2=>sp (x::(vs++dvs)) H2 Q (Ex σ)
section
variable{X:Cx}{CX:CXT}{k:Nat}{f C:Addr}{fd:FuncData}{ps:List Str}{sp:Sp}{dvs:List V}{ds:List Value}{Ex:St->XK}{x m:Str}{p pos apos:Pos}{e o:Expr}{es:List Expr}{ta:TE}{t:TA}
theorem fe{Z:List (Addr×Obj)}{σ:St}{H:Hp}{s:Shared}{Q:VK}{us:List Value}{vs:List V}(F:FnOk X.prog X.w X.K X.mg X.base CX k f fd ps sp)(hr:Room k X.A)(hb:Binds X.K fd ps ds)(hd:Vals dvs ds)(hx:PassS CX X Ex)(I:Inv X Z σ H s)(r:Vals vs us)(h:sp (vs++dvs) H Q (Ex σ)):wpAny (model X.prog X.w) X.A (call (.ref f) us) (EP X Z σ Q) X.xe s:=by
 have r2:Vals (vs++dvs) (us++ds):=r.append hd;have hl:(us++ds).length=ps.length:=by rw[<- r2.length];exact F.len _ _ _ _ h
 refine wpAny_call (codeAny_mono (F.run X.A X.stack s H ⟨us,[]⟩ (us++ds) (vs++dvs) Q (Ex σ) hr I.env0 (hb s us I.kIn hl) r2 h) λr s' hq=>?_);cases r with
 |error e=>exact hx Z σ H s e s' I hq
 |ok fl=>
  cases fl with
  |ret u=>exact I.after hq
  |next=>exact False.elim hq
  |brk=>exact False.elim hq
  |cont=>exact False.elim hq
theorem oH(F:FnOk X.prog X.w X.K X.mg X.base CX k f fd ps sp)(hr:Room k X.A)(hg:Gl X x)(hm:X.mg x=some (.ref f))(hk:W.keepIn X.K (.ref f)=true)(hb:Binds X.K fd ps ds)(hd:Vals dvs ds)(hx:PassS CX X Ex)(ha:PA X (e::es) t)(hdb:(x==("__debug__":Str))=false:=by decide)(he:starEach (e::es) X.env=(false,eval e X.env)::starEach es X.env:=by rfl)(hpl:(backTo pos (starEach es X.env)).any (·.1)=false:=by rfl) :
  PE X (.Call (.Name x p) (e::es) [] pos) (tCallS sp dvs Ex t):=by
 intro Z s σ H Q I h;refine wpAny_Call_Name_kw (er I hg hm ?_ hdb);refine W.callWith_K (h₀:=X.base) I.ok.mod.kin hk (thn (ha pos Z s σ H _ I h) λus s1 ⟨vs,H1,I1,r,q⟩=>⟨I1.kIn,?_⟩) he hpl;exact fe F hr hb hd hx I1 r q
theorem lV(F:FnOk X.prog X.w X.K X.mg X.base CX k f fd ps sp)(hr:Room k X.A)(hg:Gl X x)(hm:X.mg x=some (.ref f))(hk:W.keepIn X.K (.ref f)=true)(hb:Binds X.K fd ps ds)(hd:Vals dvs ds)(hx:PassS CX X Ex)(hdb:(x==("__debug__":Str))=false:=by decide):PE X (.Call (.Name x p) [] [] pos) (tCallS sp dvs Ex tNil):=by
 intro Z s σ H Q I h;refine wpAny_Call_Name_kw (er I hg hm ?_ hdb);exact W.callWith_K0 I.kIn hk (fe (us:=[]) F hr hb hd hx I .nil h)
theorem oz{pl:Sem Bool}(he:PE X o ta)(c:Cls X.K C)(hm:Meth X.K C m f)(F:FnOk X.prog X.w X.K X.mg X.base CX k f fd ps sp)(hr:Room k X.A)(hb:Binds X.K fd ps ds)(hd:Vals dvs ds)(hx:PassS CX X Ex)(ha:PA X (e::es) t)(hst:starEach (e::es) X.env=(false,eval e X.env)::starEach es X.env:=by rfl)(hpl:(backTo pos (starEach es X.env)).any (·.1)=false:=by rfl)(ht:eval (.Call (.Attribute o m apos) (e::es) [] pos) X.env=(do
   let ov <- eval o X.env
   standAt apos.atName
   let (f,first) <- holding [ov] (getMethod ov m pl)
   callWith pos f first (backTo pos (starEach (e::es) X.env)) (backToKw pos (keywordEach [] X.env))):=by rfl) :
  PE X (.Call (.Attribute o m apos) (e::es) [] pos) (tMethS C m sp dvs Ex ta t):=by
 intro Z s σ H Q I h;refine W.methodCall_KW (pl:=pl) (thn (he Z s σ H _ I h) λu s1 ⟨x,H1,I1,rx,a,dx,fs,ex,ea,l,q⟩=>?_) ht;subst ex;obtain rfl:u=Value.ref a:=rx;refine fR I1 ea c hm l ?_;refine W.callWith_K (first:=[.ref a]) (h₀:=X.base) I.ok.mod.kin hm.kp (thn (ha pos Z s1 σ H1 _ I1 q) λus s2 ⟨vs,H2,I2,r,q2⟩=>⟨I2.kIn,?_⟩) hst hpl;exact fe (us:=.ref a::us) (vs:=.ref a::vs) F hr hb hd hx I2 (.cons rfl r) q2
theorem lT{pl:Sem Bool}(he:PE X o ta)(c:Cls X.K C)(hm:Meth X.K C m f)(F:FnOk X.prog X.w X.K X.mg X.base CX k f fd ps sp)(hr:Room k X.A)(hb:Binds X.K fd ps ds)(hd:Vals dvs ds)(hx:PassS CX X Ex)(ht:eval (.Call (.Attribute o m apos) [] [] pos) X.env=(do
   let ov <- eval o X.env
   standAt apos.atName
   let (f,first) <- holding [ov] (getMethod ov m pl)
   callWith pos f first (backTo pos (starEach [] X.env)) (backToKw pos (keywordEach [] X.env))):=by rfl) :
  PE X (.Call (.Attribute o m apos) [] [] pos) (tMethS C m sp dvs Ex ta tNil):=by
 intro Z s σ H Q I h;refine W.methodCall_KW (pl:=pl) (thn (he Z s σ H _ I h) λu s1 ⟨x,H1,I1,rx,a,dx,fs,ex,ea,l,q⟩=>?_) ht;subst ex;obtain rfl:u=Value.ref a:=rx;refine fR I1 ea c hm l ?_;exact W.callWith_K0 (first:=[.ref a]) I1.kIn hm.kp (fe (us:=[.ref a]) (vs:=[.ref a]) F hr hb hd hx I1 (.cons rfl .nil) q)
end
end L2
namespace L2
open PySem PySem.Spec PyProof.Rows
inductive Al(H:Hp):Nat->V->V->Prop where
 |flat {n:Nat} {x:V}:flatV x=true->Al H n x x
 |same {n:Nat} {a:Addr}:Al H n (.ref a) (.ref a)
 |tup {n:Nat} {a b:Addr} {xs ys:List V}:H a=some (.tup xs)->H b=some (.tup ys)->xs.length=ys.length->(∀(j:Nat)(x y:V),xs[j]?=some x->ys[j]?=some y->Al H n x y)->Al H (n+1) (.ref a) (.ref b)
 |lst {n:Nat} {a b:Addr} {xs ys:List V}:H a=some (.lst xs)->H b=some (.lst ys)->xs.length=ys.length->(∀(j:Nat)(x y:V),xs[j]?=some x->ys[j]?=some y->Al H n x y)->Al H (n+1) (.ref a) (.ref b)
theorem fB{P:Program}{w:World}{H:Hp}{s:Shared}(hok:HOk P w H s.heap){n:Nat}{x y:V}(h:Al H n x y):∀{A:Around}{u v:Value},RelV x u->RelV y v->A.units+n<cLine->SeqAt.EqAt A s u v true:=by
 induction h with
 |@flat n x f=>
  intro A u v r1 r2 _;have:=pQ (A:=A) (s:=s) r1 r2 f f;rw[pN f] at this;exact this
 |@same n a=>
  intro A u v r1 r2 _;cases (show u=Value.ref a from r1);cases (show v=Value.ref a from r2);exact SeqAt.EqAt.same _
 |@tup n a b xs ys ea eb el _ ih=>
  intro A u v r1 r2 hu;cases (show u=Value.ref a from r1);cases (show v=Value.ref b from r2);by_cases hab:a=b
  ·subst hab;exact SeqAt.EqAt.same _
  ·obtain⟨_,its,q1,t1⟩:=(show ObjOk P w H s.heap a (.tup xs) from hok a _ ea)
   obtain⟨_,its2,q2,t2⟩:=(show ObjOk P w H s.heap b (.tup ys) from hok b _ eb)
   have he:∀j (h1:j<its.toArray.size) (h2:j<its2.toArray.size),SeqAt.EqAt A.in1 s its.toArray[j] its2.toArray[j] ((λ_=>true) j):=λj j1 j2=>by
    obtain⟨x1,e1,g1⟩:=cD q1 j1;obtain⟨y1,e2,g2⟩:=cD q2 j2;exact ih j x1 y1 e1 e2 g1 g2 (by show A.units+1+n<cLine;lia)
   refine SeqAt.EqAt.of_refs hab ?_;have:=SeqAt.RcAt.tuples (e:=λ_=>true) t1 t2 (by lia) he;have ev:((List.range (min its.toArray.size its2.toArray.size)).all (λ_=>true)&&its.toArray.size==its2.toArray.size)=true:=by
    rw[xAp,xAp,<- q1.length,<- q2.length,el];simp
   rw[ev] at this;exact this
 |@lst n a b xs ys ea eb el _ ih=>
  intro A u v r1 r2 hu;cases (show u=Value.ref a from r1);cases (show v=Value.ref b from r2);by_cases hab:a=b
  ·subst hab;exact SeqAt.EqAt.same _
  ·obtain⟨_,its,n1,q1,t1⟩:=(show ObjOk P w H s.heap a (.lst xs) from hok a _ ea)
   obtain⟨_,its2,n2,q2,t2⟩:=(show ObjOk P w H s.heap b (.lst ys) from hok b _ eb)
   have he:∀j (h1:j<its.toArray.size) (h2:j<its2.toArray.size),SeqAt.EqAt A.in1 s its.toArray[j] its2.toArray[j] ((λ_=>true) j):=λj j1 j2=>by
    obtain⟨x1,e1,g1⟩:=cD q1 j1;obtain⟨y1,e2,g2⟩:=cD q2 j2;exact ih j x1 y1 e1 e2 g1 g2 (by show A.units+1+n<cLine;lia)
   refine SeqAt.EqAt.of_refs hab ?_;have es:its.toArray.size=its2.toArray.size:=by rw[xAp,xAp,<- q1.length,<- q2.length,el]
   have:=SeqAt.RcAt.lists (e:=λ_=>true) ⟨_,t1,rfl,_,rfl⟩ ⟨_,t2,rfl,_,rfl⟩ es (by lia) he;have ev:(List.range its.toArray.size).all (λ_=>true)=true:=xCx.mpr λ_ _=>rfl;rw[ev] at this;exact this
section
variable{X:Cx}
def rAl(b:Bool):R2:=λx y H Q=>∃p q xs ys n,x=.ref p/\y=.ref q/\H p=some (.tup xs)/\H q=some (.tup ys)/\xs.length=ys.length/\n<=90/\(∀(j:Nat)(x y:V),xs[j]?=some x->ys[j]?=some y->Al H n x y)/\Q (.bl b) H
theorem rR(hu:X.A.units+100<cLine):OpR X (compareOp .NotEq) (rAl false):=by
 intro Z s σ H x y v u Q I rx ry h;obtain⟨a,b,xs,ys,n,rfl,rfl,ea,eb,el,hn,al,q⟩:=h;cases (show v=Value.ref a from rx);cases (show u=Value.ref b from ry);obtain⟨_,its,q1,t1⟩:=(show ObjOk X.prog X.w H s.heap a (.tup xs) from I.hok a _ ea)
 obtain⟨_,its2,q2,t2⟩:=(show ObjOk X.prog X.w H s.heap b (.tup ys) from I.hok b _ eb)
 have he:∀j (h1:j<its.toArray.size) (h2:j<its2.toArray.size),SeqAt.EqAt X.A.in1 s its.toArray[j] its2.toArray[j] ((λ_=>true) j):=λj j1 j2=>by
  obtain⟨x1,e1,g1⟩:=cD q1 j1;obtain⟨y1,e2,g2⟩:=cD q2 j2;exact fB I.hok (al j x1 y1 e1 e2) g1 g2 (by show X.A.units+1+n<cLine;lia)
 refine(SeqAt.RcNeAt.tuples (e:=λ_=>true) t1 t2 (by lia) he) X.prog X.w X.xe _ ?_;refine bu I q ?_;rw[xAp,xAp,<- q1.length,<- q2.length,el];simp
theorem rT(hu:X.A.units+100<cLine):OpR X (compareOp .Eq) (rAl true):=by
 intro Z s σ H x y v u Q I rx ry h;obtain⟨a,b,xs,ys,n,rfl,rfl,ea,eb,el,hn,al,q⟩:=h;cases (show v=Value.ref a from rx);cases (show u=Value.ref b from ry);obtain⟨_,its,q1,t1⟩:=(show ObjOk X.prog X.w H s.heap a (.tup xs) from I.hok a _ ea)
 obtain⟨_,its2,q2,t2⟩:=(show ObjOk X.prog X.w H s.heap b (.tup ys) from I.hok b _ eb)
 have he:∀j (h1:j<its.toArray.size) (h2:j<its2.toArray.size),SeqAt.EqAt X.A.in1 s its.toArray[j] its2.toArray[j] ((λ_=>true) j):=λj j1 j2=>by
  obtain⟨x1,e1,g1⟩:=cD q1 j1;obtain⟨y1,e2,g2⟩:=cD q2 j2;exact fB I.hok (al j x1 y1 e1 e2) g1 g2 (by show X.A.units+1+n<cLine;lia)
 refine SeqAt.eq_tupleAt (e:=λ_=>true) t1 t2 (by lia) he ?_;refine bu I q ?_;rw[xAp,xAp,<- q1.length,<- q2.length,el];simp
end
end L2
namespace HT
open PySem PyProof.Rows
section
open PySem.SeqAt
open PySem.AutoSeq1 (wpAny_loadPart')
open PySem.MeetsSeq PySem.MeetsSeq2 PySem.MeetsSeq3
section
variable{prog:Program}{w:World}{A:Around}{E:Value->Shared->Prop}{s:Shared}
theorem getItem_tuple_all{t sl:Addr}{items:Array Value}{vl vu:Value}{lo hi:Option Int}{Q:Value->Shared->Prop}(ht:IsTup s.heap t items)(hs:s.heap.IsSliceOf sl vl vu .none)(pl:IsPart vl lo)(pu:IsPart vu hi)(hw:sIx items.size 0 lo=0/\sIx items.size items.size hi=items.size)(h:Q (.ref t) s):wpAny (model prog w) A (getItem (.ref t) (.ref sl)) Q E s:=by
 have hj:sIx items.size items.size hi<=items.size:=nF _ _ (xAg _) hi;obtain⟨os,hos,hcs,hds⟩:=id hs;have hTs:s.TypeIs (.ref sl) "slice":=⟨os,hos,hcs⟩
 unfold getItem;try with_reducible refine xDc ?_
 first|refine xAd (xAe ?_)|skip
 refine xAd (wpAny_sequenceKey ht.typeIs (by decide) ?_);refine xAd (wpAny_callSpecial?_slot (name:=Str.ofString "__getitem__") ht.typeIs PyProof.Rows.slot_tuple_getitem
  (wpAny_call_entry PyProof.Rows.slot_tuple_getitem ht.typeIs entry_tuple_getitem ?_ (args_tuple_getitem _ _)))
 show wpAny _ _ (Builtin.Tuple.tupleItemsOf (.ref t)>>=_) _ _ s;refine xAd (tupleItemsOf_ ht ?_);refine xAd (wpAny_typeOf hTs ?_);rw[xCg (by decide)];refine xAd (dk hs pl pu ?_);show wpAny _ _ (if(((sIx items.size 0 lo:Nat):Int)==0&&(1:Int)==1&&(sIx items.size items.size hi-sIx items.size 0 lo)==items.size)=true then _ else _) _ _ s;rw[xCg (by rw[hw.1,hw.2];simp)];refine xAd ?_;unfold Builtin.Tuple.tupleIsExact;refine xAd (wpAny_typeOf ht.typeIs (xAe ?_));rw[xCg (by decide)];refine xAd (wpAny_rule ?_);exact xAe ⟨_,rfl,xAe h⟩
end
end
end HT
namespace L2
open PySem PySem.Spec PyProof.Rows
def rSlF(K:xFr):V->Option Int->Option Int->Hp->VK->Prop:=λx lo hi H Q=>∃a xs,x=.ref a/\SqT K H a xs/\(HT.sIx xs.length 0 lo=0/\HT.sIx xs.length xs.length hi=xs.length)/\Q (.ref a) H
theorem jW{X:Cx}:SlR X (rSlF X.K):=by
 intro Z s σ H x v vl vu lo hi sl Q I rx hs pl pu h;obtain⟨a,xs,rfl,hx,hw,q⟩:=h;cases rx;obtain⟨its,r,ht,hz⟩:=I.tuple hx;have hlen:its.toArray.size=xs.length:=by rw[xAp];exact r.length.symm
 refine⟨"tuple",_,PyProof.Rows.slot_tuple_getitem.lookup,ht.typeIs,?_⟩;exact HT.getItem_tuple_all ht hs pl pu (by rw[hlen];exact hw) ⟨.ref a,H,I,rfl,q⟩
end L2
namespace SetA
open PySem PySem.SetTable
theorem dN{α:Type}(xs:Array α)(p:Nat)(x:α):(insertAt xs p x).size=xs.size+1:=by
 rw[<- xAh,toList_insertAt];simp only[xAb,List.length_take,xAo,List.length_drop,xAh];lia
def setObj(es:Array (Int×Value))(ep:Nat)(t:SetTable):Obj:={cls:=.type "set",dict:=none,data:=.set es ep t,slots:=#[]}
end SetA
namespace SetA
open PySem PySem.Spec PySem.SetTable PyProof.Rows
section
variable{prog:Program}{w:World}{A:Around}{E:Value->Shared->Prop}{s:Shared}
theorem sd(x:Value){Q₁:Value->Shared->Prop}(h:∀led:Bool,(led=true\/w.params.followText "set-order"=true)->Q₁ (.ref s.heap.objs.size) {s with heap:=s.heap.push (setObj #[] 0 (.fresh 0 0 led))}) :
  codeAny (model prog w) A (.call (.builtin "set.__new__") ⟨[.type "set",x],[]⟩) (wants Q₁ E) s:=by
 refine codeAny_of_tree ?_;change wpAny _ A.in1 (do checkBuiltinCall "set.__new__" ⟨[.type "set",x],[]⟩;again (.builtin "set.__new__" ⟨[.type "set",x],[]⟩)) _ _ s;refine xAd (wpAny_of_eq (PySem.F.newCall_set_1 x) (xAe ⟨plainId_quiet PySem.F.plain_set_new _,codeAny_builtin PySem.F.entry_set_new ?_⟩));rw[Around.under_plainId PySem.F.plain_set_new _];unfold Builtin.«set.__new__» Builtin.Frozenset.newClass;have hss:=sub_set_self;obtain⟨hp,gg,dd,tt,oo⟩:=s;dsimp only;wp_walk
 refine wpAny_askSetting (xAe ?_);dsimp only;simp only[newObj];refine xAd (wpAny_alloc (xAe (xAe (h _ ?_))));change(!(w.params.followText "set-order"))=true\/w.params.followText "set-order"=true;cases w.params.followText "set-order" <;> simp
end
end SetA
namespace L2
open PySem PySem.Spec PyProof.Rows
variable{scope:Scope}{env:Env}{X:Cx}{Z:List (Addr×Obj)}{σ:St}{H:Hp}{fp:List Addr}{es:List Expr}{e:Expr}
structure CapsG(X:Cx)(scope:Scope)(cl:List (Str×Addr))(ls N:List Str)(fr:List Nat):Prop where
 clos:closureFor scope X.env=pure cl
 cell:∀y∈scope.names,y.2≠.cell
 kind:scope.kind=.function
 names:∀y∈scope.names,y.2=.local->scope.names.lookup y.1=some .local
 sub:∀y c,cl.lookup y=some c->X.env.cells.lookup y=some c
 has:∀y∈scope.names,y.2=.free->∃c,cl.lookup y.1=some c
 caps:∀(j:Nat)(y:Str),N[j]?=some y->∃k c,fr[j]?=some k/\X.N[k]?=some y/\Vis X.env.scope y/\X.env.kindOf y≠some .local/\cl.lookup y=some c/\(scope.names.lookup y=some .free)
 len:N.length=fr.length
theorem jL{prog:Program}{w:World}{A:Around}{R:Result->Shared->Prop}{s:Shared}{elt target iter:Expr}{ifs:List Expr}{pos:Pos}{it acc:Value}(J:Nat->Shared->Prop)(go:∀n s,J n s->wpAny (model prog w) A (pyNext it) (λr s1=>match r with
   |none=>R (.ok .next) s1
   | some v=>wpAny (model prog w) A (letOwnedTupleGo target it v) (λ_ s2=>wpAny (model prog w) A (assign target env v) (λ_ s3 =>
     wpAny (model prog w) A (forIn ifs true λc r=>if r=true then do let ok <- isTrue c env (eval c env);pure (ForInStep.yield ok) else pure (ForInStep.yield r)) (λok s4 =>
      if ok=true then wpAny (model prog w) A (eval elt env) (λx s5=>wpAny (model prog w) A (call (.builtin "list.append") [acc,x]) (λ_ s6=>∃m,m<n/\J m s6) (notedBy (model prog w) A env λe s'=>R (.error e) s') s5) (notedBy (model prog w) A env λe s'=>R (.error e) s') s4
      else ∃m,m<n/\J m s4) (notedBy (model prog w) A env λe s'=>R (.error e) s') s3) (notedBy (model prog w) A env λe s'=>R (.error e) s') s2) (notedBy (model prog w) A env λe s'=>R (.error e) s') s1) (notedBy (model prog w) A env λe s'=>R (.error e) s') s)(n:Nat)(h:J n s):codeAny (model prog w) A (.compLoop (.ListComp elt [⟨target,iter,ifs,0⟩] scope pos) 0 it acc env) R s:=by
 refine codeAny_loop rfl J (λn s hJ=>?_) n h;change wpAny _ A ((compTurn (.ListComp elt [⟨target,iter,ifs,0⟩] scope pos) 0 it acc env).onRaise (λx=>do noteFrame x env;theTreesLotGoes x)) _ _ s;refine wpAny_noted ?_;rw[compTurn_list];refine xAd (wpAny_standAt (xAd (wpAny_mono (go n s hJ) (λr s1 h1=>?_) λ_ _ z=>z)));cases r with
 |none=>exact xAe h1
 |some v=>
  refine xAd (wpAny_mono h1 (λ_ s2 h2=>?_) λ_ _ z=>z);refine xAd (wpAny_mono h2 (λ_ s3 h3=>xAd (wpAny_mono h3 (λok s4 h4=>?_) λ_ _ z=>z)) λ_ _ z=>z);cases ok with
  |false=>exact xAe ⟨rfl,h4⟩
  |true=>exact xAd (xAd (wpAny_mono h4 (λx s5 h5=>xAd (wpAny_mono h5 (λ_ s6 h6=>xAe (xAe ⟨rfl,h6⟩)) λ_ _ z=>z)) λ_ _ z=>z))
def PTs(X:Cx)(ifs:List Expr)(t:TT):Prop:=
 ∀(Z:List (Addr×Obj))(s:Shared)(σ:St)(H:Hp)(Q:Bool->Hp->Prop),Inv X Z σ H s->t σ H Q ->
  wpAny (model X.prog X.w) X.A (forIn ifs true λc r=>if r=true then do let ok <- isTrue c X.env (eval c X.env);pure (ForInStep.yield ok) else pure (ForInStep.yield r)) (TP X Z σ Q) X.xe s
def tYes:TT:=λ_ H Q=>Q true H
theorem qM:PTs X [] tYes:=λ_ _ _ H _ I h=>wpAny_tests_nil ⟨H,I,h⟩
theorem qL{c:Expr}{t:TT}(h:PT X c t):PTs X [c] t:=λZ s σ H Q I q=>wpAny_tests_one (h Z s σ H Q I q)
def tLCg(wi:TI)(m:Nat)(fr:List Nat)(g:TG)(tc:TT)(te:TE):TE:=λσ H Q=>wi σ H λJ H1=>∀D,H1 D=none->∃W:Nat->Nat->List V->Hp->Prop,(∃k,W 0 k [] (upd H1 D (.lst [])))/\∀i k ys H,W i k ys H->H D=some (.lst ys) /\
 ((J.stop i H/\Q (.ref D) H)\/(J.go i H/\ys.length<sizeLine/\∃N:List V->Hp->Prop,(∀ys' H',N ys' H'->∃k',k'<k/\W (i+1) k' ys' H') /\
  ∀x H',J.yld i H x H'->g x (List.replicate m none++capV σ fr) H' λσ2 H2=>σ2.drop m=capV σ fr/\σ2.length=m+fr.length /\
   tc σ2 H2 λb H3=>H3 D=some (.lst ys)/\if b=true then te σ2 H3 λv H4=>H4 D=some (.lst ys)/\N (ys++[v]) (upd H4 D (.lst (ys++[v]))) else N ys H3))
theorem Inv.forget{σ':St}{s:Shared}(I:Inv X Z σ H s)(hl:σ'.length=σ.length)(h:∀(i:Nat)(v:V),σ'[i]?=some (some v)->σ[i]?=some (some v)):Inv X Z σ' H s:=
 ⟨I.ok,I.os,I.bare,I.base,let ⟨m,h1,h2⟩:=I.loc;⟨m,h1,λi x v e1 e2 e3=>h2 i x v e1 (h i v e2) e3⟩,I.cell,I.free,I.freeC,I.pin,I.hok,hl.trans I.len⟩
theorem iH{m:Nat}{cs:St}{i:Nat}{v:V}(h:(List.replicate m none++cs)[i]?=some (some v)):m<=i/\cs[i-m]?=some (some v):=by
 by_cases hi:i<m
 ·rw[List.getElem?_append_left (by simpa using hi),List.getElem?_replicate,xCg hi] at h;cases h
 ·rw[xCl (by simp;lia),xCu] at h;exact⟨by lia,h⟩
section
variable{X:Cx}{elt tg iter:Expr}{ifs:List Expr}{pos:Pos}{scope:Scope}{cl:List (Str×Addr)}{ls N:List Str}{fr:List Nat}{wi:TI}{g:TG}{tc:TT}{te:TE}
theorem pZ{s:Shared}{C:Addr}(cp:CapsG X scope cl ls N fr)(I:Inv X Z σ H s)(hC:s.heap.objs.size<=C)(hf:∀b∈fp,FpOk X Z H b)(hl:∀b∈fp,b<s.heap.objs.size) :
  (cxComp X (ls++N) scope cl C s H fp).Ok where
 mod:=I.ok.mod
 kind:=cp.kind
 glob:=I.ok.glob
 blt:=I.ok.blt
 above:=hC
 inj:=λy z c e1 e2=>I.ok.inj y z c (cp.sub y c e1) (cp.sub z c e2)
 has:=λy h=>by
  have h':(relabel scope X.env).names.lookup y=some .cell\/(relabel scope X.env).names.lookup y=some .free:=h;rcases h' with h'|h'
  ·obtain⟨k0,m,z|⟨z,_⟩⟩:=eU h'
   ·subst z;exact absurd rfl (cp.cell _ m)
   ·subst z;exact cp.has _ m rfl
  ·obtain⟨k0,m,z|⟨_,z⟩⟩:=eU h'
   ·subst z;exact cp.has _ m rfl
   ·cases z
 cab:=λ_ _ e=>absurd e xAy
 hd:=I.ok.hd
 frames:=I.ok.frames
 stk:=.inl rfl
 exf:=λb hb=>⟨xA0 (xBc (hl b hb) hC),λy c e z=>(hf b hb).2.2.2.2.1 y c (cp.sub y c e) z⟩
 bs:=I.bs
 bsz:=xCk I.ok.bsz I.sz
 noex:=λb o e hb=>by
  have q:=hf b hb;rcases q.2.2.2.1 with z|z
  ·exact I.ok.noex b o e z
  ·have:=xA1 (I.ok.bs b o e).1;exact absurd (xBc this z) (Nat.lt_irrefl _)
 exfs:=λb hb z=>by
  have q:=hf b hb;rcases xAv.mp (I.stkSub b z) with z'|z'
  ·exact q.2.1 z'
  ·exact q.2.2.1 z'
 funs:=I.stack
 frf:=I.stkFree
theorem ja{pos':Pos}{s:Shared}{Q:VK}{use:Option (Value->Sem Unit)}{QQ:Value->Shared->Prop}(hc:X.calm=true)(cp:CapsG X scope cl ls N fr)(hi:PI X tg iter wi)(hg:∀C s H fp,PG (cxComp X (ls++N) scope cl C s H fp) tg g)(ht:∀C s H fp,PTs (cxComp X (ls++N) scope cl C s H fp) ifs tc)(he:∀C s H fp,PE (cxComp X (ls++N) scope cl C s H fp) elt te)(hs:∀v,foldedSetIterable iter X.env v=pure v)(I:Inv X Z σ H s)(h:tLCg wi ls.length fr g tc te σ H Q)(fin:∀(B C:Addr)(H':Hp)(s4:Shared)(m:Str->Option Value),Inv X Z σ H' s4->FpOk X Z H' C->s4.heap.Ns C m->Q (.ref B) H'->compPost (model X.prog X.w) X.A X.xe use QQ (.ref B) C (.ok .next) s4) :
  wpAny (model X.prog X.w) X.A (comprehension (.ListComp elt [⟨tg,iter,ifs,0⟩] scope pos) scope X.env pos' (newList []) false (eval iter X.env) use) QQ X.xe s:=by
 refine wpAny_comprehension_free (use:=use) rfl hs cp.clos cp.kind cp.names (thn (hi Z s σ H _ I h) λv s1 h1=>thn h1 λitv s2 h2=>?_);obtain⟨it,fp,tn,J,H2,e,I2,T,st2,f2,R⟩:=h2;subst e;have hfl:∀b∈fp,b<s2.heap.objs.size:=λb hb=>let ⟨o,e,_⟩:=T.obj _ _ st2 b hb;xA1 e;refine xBl (wpAny_newFunctionEnv cp.cell (by intro y hy;simp at hy) (λh1 hns1 hsb1=>?_) cp.kind);dsimp only at hns1 hsb1⊢;generalize hG:s2.heap.push {cls:=.type "list",dict:=none,data:=.seq ([]:List Value).toArray}=G2 at hns1 hsb1⊢;have hCs:G2.objs.size=s2.heap.objs.size+1:=by rw[<- hG,Heap.size_push]
 have hDC:s2.heap.objs.size≠G2.objs.size:=by rw[hCs];exact xA0 (Nat.lt_succ_self _)
 have hCle:s2.heap.objs.size<=G2.objs.size:=by rw[hCs];exact Nat.le_succ _
 have old:∀b o,s2.heap.get? b=some o->h1.get? b=some o:=λb o e=>hsb1.extBut b o (xA0 (xBc (xA1 e) hCle)) (xAf _ (hG▸xAf _ e));have hacc:h1.get? s2.heap.objs.size=some {cls:=.type "list",dict:=none,data:=.seq ([]:List Value).toArray}:=hsb1.extBut _ _ hDC (xAf _ (hG▸xAl _ rfl));have hDn:H2 s2.heap.objs.size=none:=I2.hok.fresh (xAg _);have hCn:H2 G2.objs.size=none:=I2.hok.fresh hCle;obtain⟨W,⟨m0,w0⟩,turn⟩:=R s2.heap.objs.size hDn;have okY:=pZ (C:=G2.objs.size) cp I2 hCle f2 hfl;have I3:Inv (cxComp X (ls++N) scope cl G2.objs.size s2 H2 fp) [] (List.replicate ls.length none++capV σ fr) (upd H2 s2.heap.objs.size (.lst [])) {s2 with heap:=h1,toks:=s2.toks+([]:List (Str×Value)).length}:=by
  refine⟨okY,rfl,I2.bare,Un.laid old (xAg _) hDn,⟨_,hns1,λi y v e1 e2 e3=>?_⟩,λy c e=>?_,?_,λy c e=>?_,(λp hp=>nomatch hp),I2.hok.laid old (xAg _) ⟨xBn _,[],0,.nil,hacc⟩,?_⟩
  ·obtain⟨hm,e2'⟩:=iH e2;have e1':N[i-ls.length]?=some y:=by
    have e1'':(ls++N)[i]?=some y:=e1;rw[xCl hm] at e1'';exact e1''
   obtain⟨k,c,g1,g2,g3,g4,g5,g6⟩:=cp.caps _ y e1';have e4:σ[k]?=some (some v):=by
    unfold capV at e2';rw[xAw,g1] at e2';have e5:(σ[k]?).join=some v:=xB3 e2';cases z:σ[k]? with
    |none=>rw[z] at e5;cases e5
    |some o=>rw[z] at e5;exact congrArg some e5
   obtain⟨m2,_,hl2⟩:=I2.loc;obtain⟨u,r,lk⟩:=hl2 k y v g2 e4 g3;refine⟨u,r,.inr ⟨cU g6,c,g5,?_⟩⟩;rcases lk with ⟨lk,_⟩|⟨_,c',lk1,o,lk2,lk3⟩
   ·exact absurd lk g4
   ·have:=cp.sub y c g5;rw[lk1] at this;cases this;exact⟨o,old _ _ lk2,lk3⟩
  ·obtain⟨v,o,e1,e2⟩:=I2.cell y c (cp.sub y c e);exact⟨v,o,old _ _ e1,e2⟩
  ·show upd H2 s2.heap.objs.size (.lst []) G2.objs.size=none;rw[bq (Ne.symm hDC)];exact hCn
  ·obtain⟨v,o,e1,e2⟩:=I2.cell y c (cp.sub y c e);rw[bq (xA0 (xA1 e1))];exact I2.freeC y c (cp.sub y c e)
  ·change(List.replicate ls.length none++capV σ fr).length=(ls++N).length;unfold capV;rw[xAb,xAb,xCu,xAa,cp.len]
 have stat:∀{H':Hp},(∀b∈fp,H' b=none)->∀b∈fp,FpOk (cxComp X (ls++N) scope cl G2.objs.size s2 H2 fp) [] H' b:=λhn b hb=>
  ⟨hn b hb,xA0 (xBc (hfl b hb) hCle),okY.exfs b hb,.inl hb,(okY.exf b hb).2,λp hp=>nomatch hp⟩
 have loop:∀s3:Shared,s3={s2 with heap:=h1,toks:=s2.toks+([]:List (Str×Value)).length} ->
   codeAny (model X.prog X.w) X.A (.compLoop (.ListComp elt [⟨tg,iter,ifs,0⟩] scope pos) 0 (.ref it) (.ref s2.heap.objs.size) (compEnvC scope cl G2.objs.size X.env))
    (compPost (model X.prog X.w) X.A X.xe use QQ (.ref s2.heap.objs.size) G2.objs.size) s3:=by
  rintro s3 rfl
  refine jL (λn s'=>∃i ys H',Inv (cxComp X (ls++N) scope cl G2.objs.size s2 H2 fp) [] (List.replicate ls.length none++capV σ fr) H' s'/\tn i s'.heap/\(∀b∈fp,H' b=none)/\W i n ys H') ?_ m0
   ⟨0,[],_,I3,T.keep _ _ _ st2 (λb hb o e=>old b o e),λb hb=>by rw[bq (xA0 (hfl b hb))];exact(f2 b hb).1,w0⟩
  rintro n s' ⟨i,ys,H',IY,st,frn,w'⟩
  obtain⟨hD,hh⟩:=turn i n ys H' w';rcases hh with ⟨stop,q⟩|⟨go,hz,Nx,hN,step⟩
  ·refine wpAny_mono (T.done (cxComp X (ls++N) scope cl G2.objs.size s2 H2 fp) rfl rfl rfl hc i [] s' _ H' (λ_ _=>False) IY (stat frn) st stop) (λr s4 h4=>?_) (λ_ _ z=>z.elim);obtain⟨hr,I4⟩:=h4;subst hr;obtain⟨mY,hnY,_⟩:=I4.loc;have I5:Inv X Z σ H' s4:=Inv.call' (s:=s2) (H:=H2) (ch:=fp) I2 I4.os I4.base I4.hok I4.bare (λb hb=>⟨(f2 b hb).2.2.2.1,(f2 b hb).2.1,(f2 b hb).2.2.2.2.1,(f2 b hb).2.2.2.2.2⟩);exact fin _ _ H' s4 mY I5 (I2.fpOk hCle I4.free) hnY q
  ·refine wpAny_mono (T.item (cxComp X (ls++N) scope cl G2.objs.size s2 H2 fp) rfl rfl rfl hc i [] s' _ H' (λ_ _=>False) IY (stat frn) st go) (λr s4 h4=>?_) (λ_ _ z=>z.elim);obtain⟨u,hr,h4⟩:=h4;subst hr;refine wpAny_mono h4 (λ_ s5 h5=>?_) (λ_ _ z=>z.elim);obtain⟨xv,H5,I5,r5,y5,st5,fr5⟩:=h5;have I5':=I5.pinned (stat fr5) (T.obj _ _ st5);refine wpAny_mono (hg G2.objs.size s2 H2 fp _ s5 _ H5 xv u _ I5' r5 (step xv H5 y5)) (λ_ s6 h6=>?_) (λ_ _ z=>z.elim);obtain⟨σ6,H6,I6,c6,l6,t6⟩:=h6;have back:∀{H7:Hp}{s7:Shared},Inv (cxComp X (ls++N) scope cl G2.objs.size s2 H2 fp) ([]++pinsAt fp s5.heap) σ6 H7 s7->Inv (cxComp X (ls++N) scope cl G2.objs.size s2 H2 fp) [] (List.replicate ls.length none++capV σ fr) H7 s7/\tn (i+1) s7.heap/\∀b∈fp,H7 b=none:=λ{H7 s7} I7=>by
    refine⟨I7.unpinned.forget ?_ (λj v e=>?_),T.keep _ _ _ st5 λb hb o e=>(I7.pin (b,o) (xBt _ (xBt _ (dz hb e)))).1,λb hb=>?_⟩
    ·rw[l6,xAb,xCu];unfold capV;rw[xAa]
    ·obtain⟨hm,e'⟩:=iH e;rw[<- c6,List.getElem?_drop] at e';rw[show j=ls.length+(j-ls.length) by lia];exact e'
    ·obtain⟨o,e,d⟩:=T.obj _ _ st5 b hb;exact(I7.pin (b,o) (xBt _ (xBt _ (dz hb e)))).2.1
   refine wpAny_mono (ht G2.objs.size s2 H2 fp _ s6 _ H6 _ I6 t6) (λok s7 h7=>?_) (λ_ _ z=>z.elim);obtain⟨H7,I7,hD7,h7⟩:=h7;cases ok with
   |false=>
    rw[xCf xAy] at h7⊢;obtain⟨k',hk,w8⟩:=hN _ _ h7;obtain⟨b1,b2,b3⟩:=back I7;exact⟨k',hk,i+1,ys,H7,b1,b2,b3,w8⟩
   |true=>
    rw[xCg rfl] at h7⊢;refine wpAny_mono (he G2.objs.size s2 H2 fp _ s7 _ H7 _ I7 h7) (λxv' s8 h8=>?_) (λ_ _ z=>z.elim);obtain⟨v8,H8,I8,r8,hD8,n8⟩:=h8;refine wpAny_mono (gc (X:=cxComp X (ls++N) scope cl G2.objs.size s2 H2 fp) _ s8 _ H8 (.ref s2.heap.objs.size) [v8] (.ref s2.heap.objs.size) [xv'] (λv' H9=>H9=upd H8 s2.heap.objs.size (.lst (ys++[v8]))) I8 rfl (.cons r8 .nil) ⟨s2.heap.objs.size,ys,v8,rfl,rfl,hD8,hz,rfl⟩) (λ_ s9 h9=>?_) (λ_ _ z=>z.elim);obtain⟨v9,H9,I9,_,rfl⟩:=h9;obtain⟨k',hk,w9⟩:=hN _ _ n8;obtain⟨b1,b2,b3⟩:=back I9;exact⟨k',hk,i+1,ys++[v8],_,b1,b2,b3,w9⟩
 exact codeAny_compStart_list (loop _ rfl) (T.self _ 0 _ _ _ (T.keep _ _ _ st2 (λb hb o e=>old b o e)) (loop _ rfl))
theorem vb(hc:X.calm=true)(cp:CapsG X scope cl ls N fr)(hi:PI X tg iter wi)(hg:∀C s H fp,PG (cxComp X (ls++N) scope cl C s H fp) tg g)(ht:∀C s H fp,PTs (cxComp X (ls++N) scope cl C s H fp) ifs tc)(he:∀C s H fp,PE (cxComp X (ls++N) scope cl C s H fp) elt te)(hs:∀v,foldedSetIterable iter X.env v=pure v:=by intro _;rfl):PE X (.ListComp elt [⟨tg,iter,ifs,0⟩] scope pos) (tLCg wi ls.length fr g tc te):=by
 intro Z s σ H Q I h;rw[eval_ListComp];refine ja (use:=none) (QQ:=EP X Z σ Q) hc cp hi hg ht he hs I h λB C H' s4 m I4 f4 n4 q4=>⟨m,n4,λh' sb=>?_⟩
 exact⟨.ref B,H',I4.turned (t':=s4.toks) (λb o hb e=>sb.extBut b o hb e) f4.1 f4.2.1 f4.2.2.2.1 f4.2.2.2.2.1 f4.2.2.2.2.2,rfl,q4⟩
theorem nS{i:Nat}{y:Str}{py spos:Pos}(hN:X.N.Nodup)(hiy:X.N[i]?=some y)(hy:X.env.scope.names.lookup y=some .local)(hc:X.calm=true)(cp:CapsG X scope cl ls N fr)(hi:PI X tg iter wi)(hg:∀C s H fp,PG (cxComp X (ls++N) scope cl C s H fp) tg g)(ht:∀C s H fp,PTs (cxComp X (ls++N) scope cl C s H fp) ifs tc)(he:∀C s H fp,PE (cxComp X (ls++N) scope cl C s H fp) elt te)(hs:∀v,foldedSetIterable iter X.env v=pure v:=by intro _;rfl)(hsw:swapsWith (.ListComp elt [⟨tg,iter,ifs,0⟩] scope pos) (some (.Name y py)) spos.line X.env=pure true:=by rfl) :
  PS X (.Assign [.Name y py] (.ListComp elt [⟨tg,iter,ifs,0⟩] scope pos) spos) (tAsg (tLCg wi ls.length fr g tc te) (gName i)):=by
 intro Z s σ H D I h;rw[exec_Assign_Name_used _ _ _ _ hsw];refine xAd (wpAny_standAt (xAd ?_));change wpAny _ X.A (do let _ <- comprehension (.ListComp elt [⟨tg,iter,ifs,0⟩] scope pos) scope X.env _ (newList []) false (eval iter X.env) (some (assign (.Name y py) X.env))) _ _ s;refine xAd (wpAny_mono (ja (use:=some (assign (.Name y py) X.env)) (QQ:=λ_ s'=>SP X Z D .next s') hc cp hi hg ht he hs I h λB C H' s4 m I4 f4 n4 q4=>?_) (λ_ s' z=>xAe (xAe z)) λ_ _ z=>z);change wpAny _ X.A (assign (.Name y py) X.env (.ref B)) _ _ _;refine wpAny_assign_Name (ga I4 hN hiy (.inl hy) (v:=.ref B) rfl (λs5 I5 ⟨a,sb5,ha⟩=>?_) (.inr hy));have aC:C≠a:=by
  rcases ha with ha|ha
  ·rw[ha];exact f4.2.1
  ·exact λz=>f4.2.2.2.2.1 _ _ ha z.symm
 refine⟨m,n4.sameBut sb5 aC,λh' sb=>⟨_,H',?_,q4⟩⟩;exact I5.turned (t':=s5.toks) (λb o hb e=>sb.extBut b o hb e) f4.1 f4.2.1 f4.2.2.2.1 f4.2.2.2.2.1 f4.2.2.2.2.2
end
structure CapOne(X:Cx)(scope:Scope)(cl:List (Str×Addr))(y:Str)(k:Nat):Prop where
 ex:∃c,cl.lookup y=some c/\X.env.cells.lookup y=some c
 at':X.N[k]?=some y
 cell:X.env.scope.names.lookup y=some .cell
 free:scope.names.lookup y=some .free
theorem cN{α:Type}{y:Str}{c:α}:∀{l:List (Str×α)},l.lookup y=some c->(y,c)∈l
 |[],h=>by simp at h
 |(z,d)::r,h=>by
  rw[List.lookup_cons] at h;by_cases e:y==z
  ·rw[e] at h;cases xB3 h;rw[eq_of_beq e];exact xAr
  ·rw[Bool.eq_false_iff.mpr e] at h;exact xAs _ (cN h)
theorem CapsG.mk'{cl:List (Str×Addr)}{ls N:List Str}{fr:List Nat}(clos:closureFor scope X.env=pure cl)(cell:∀y∈scope.names,y.2≠.cell)(kind:scope.kind=.function)(names:∀y∈scope.names,y.2=.local->scope.names.lookup y.1=some .local)(h:Paired (CapOne X scope cl) N fr)(has:∀y∈scope.names,y.2=.free->y.1∈N)(hk:cl.map (·.1)=N):CapsG X scope cl ls N fr:=by
 have get:∀{N:List Str}{fr:List Nat},Paired (CapOne X scope cl) N fr->∀(j:Nat)(y:Str),N[j]?=some y->∃k,fr[j]?=some k/\CapOne X scope cl y k:=by
  intro N fr h;induction h with
  |nil=>intro j y e;simp at e
  |cons hd tl ih=>
   intro j y e;cases j with
   |zero=>simp at e;subst e;exact⟨_,rfl,hd⟩
   |succ j=>exact ih j y (by simpa using e)
 have mem:∀y∈N,∃k,CapOne X scope cl y k:=λy hy=>by
  obtain⟨j,e⟩:=List.mem_iff_getElem?.mp hy;obtain⟨k,_,c⟩:=get h j y e;exact⟨k,c⟩
 refine⟨clos,cell,kind,names,λy c e=>?_,λy hy e=>?_,λj y e=>?_,h.length⟩
 ·have hy:y∈N:=by
   rw[<- hk];have:=cN e;exact xA2.mpr ⟨_,this,rfl⟩
  obtain⟨k,⟨c',e1,e2⟩,_⟩:=mem y hy;rw[e] at e1;cases e1;exact e2
 ·obtain⟨k,⟨c',e1,e2⟩,_⟩:=mem _ (has y hy e);exact⟨c',e1⟩
 ·obtain⟨k,e1,⟨c,e2,e3⟩,g1,g2,g3⟩:=get h j y e;refine⟨k,c,e1,g1,.inr (.inl g2),λq=>?_,e2,g3⟩;have q':X.env.scope.names.lookup y=some .local:=q;rw[g2] at q';cases q'
section
variable{X:Cx}
def rAlL(b:Bool):R2:=λx y H Q=>∃p q xs ys n,x=.ref p/\y=.ref q/\H p=some (.lst xs)/\H q=some (.lst ys)/\xs.length=ys.length/\n<=90/\(∀(j:Nat)(x y:V),xs[j]?=some x->ys[j]?=some y->Al H n x y)/\Q (.bl b) H
theorem oS(hu:X.A.units+100<cLine):OpR X (compareOp .NotEq) (rAlL false):=by
 intro Z s σ H x y v u Q I rx ry h;obtain⟨a,b,xs,ys,n,rfl,rfl,ea,eb,el,hn,al,q⟩:=h;cases (show v=Value.ref a from rx);cases (show u=Value.ref b from ry);obtain⟨_,its,n1,q1,t1⟩:=(show ObjOk X.prog X.w H s.heap a (.lst xs) from I.hok a _ ea)
 obtain⟨_,its2,n2,q2,t2⟩:=(show ObjOk X.prog X.w H s.heap b (.lst ys) from I.hok b _ eb)
 have he:∀j (h1:j<its.toArray.size) (h2:j<its2.toArray.size),SeqAt.EqAt X.A.in1 s its.toArray[j] its2.toArray[j] ((λ_=>true) j):=λj j1 j2=>by
  obtain⟨x1,e1,g1⟩:=cD q1 j1;obtain⟨y1,e2,g2⟩:=cD q2 j2;exact fB I.hok (al j x1 y1 e1 e2) g1 g2 (by show X.A.units+1+n<cLine;lia)
 have es:its.toArray.size=its2.toArray.size:=by rw[xAp,xAp,<- q1.length,<- q2.length,el]
 refine(SeqAt.RcNeAt.lists (e:=λ_=>true) ⟨_,t1,rfl,_,rfl⟩ ⟨_,t2,rfl,_,rfl⟩ es (by lia) he) X.prog X.w X.xe _ ?_;refine bu I q ?_;simp
theorem oW(hu:X.A.units+100<cLine):OpR X (compareOp .Eq) (rAlL true):=by
 intro Z s σ H x y v u Q I rx ry h;obtain⟨a,b,xs,ys,n,rfl,rfl,ea,eb,el,hn,al,q⟩:=h;cases (show v=Value.ref a from rx);cases (show u=Value.ref b from ry);obtain⟨_,its,n1,q1,t1⟩:=(show ObjOk X.prog X.w H s.heap a (.lst xs) from I.hok a _ ea)
 obtain⟨_,its2,n2,q2,t2⟩:=(show ObjOk X.prog X.w H s.heap b (.lst ys) from I.hok b _ eb)
 have he:∀j (h1:j<its.toArray.size) (h2:j<its2.toArray.size),SeqAt.EqAt X.A.in1 s its.toArray[j] its2.toArray[j] ((λ_=>true) j):=λj j1 j2=>by
  obtain⟨x1,e1,g1⟩:=cD q1 j1;obtain⟨y1,e2,g2⟩:=cD q2 j2;exact fB I.hok (al j x1 y1 e1 e2) g1 g2 (by show X.A.units+1+n<cLine;lia)
 have es:its.toArray.size=its2.toArray.size:=by rw[xAp,xAp,<- q1.length,<- q2.length,el]
 refine SeqAt.eq_listAt (e:=λ_=>true) ⟨_,t1,rfl,_,rfl⟩ ⟨_,t2,rfl,_,rfl⟩ es (by lia) he ?_;refine bu I q ?_;simp
end
def cLen(K:xFr):List V->Hp->VK->Prop:=λxs H Q=>∃x n,xs=[x]/\LenV K x H n/\Q (.int n) H
def cLenD:List V->Hp->VK->Prop:=λxs H Q=>∃a kvs,xs=[V.ref a]/\H a=some (.dK kvs)/\Q (.int kvs.length) H
def cList(K:xFr):List V->Hp->VK->Prop:=λxs H Q=>∃p ys,xs=[.ref p]/\(SqL K H p ys\/SqT K H p ys)/\∀l,H l=none->Q (.ref l) (upd H l (.lst ys))
def cTuple(K:xFr):List V->Hp->VK->Prop:=λxs H Q=>∃p ys,xs=[.ref p]/\((SqL K H p ys/\∀l,H l=none->Q (.ref l) (upd H l (.tup ys)))\/(SqT K H p ys/\Q (.ref p) H))
def cIsT(K:xFr):List V->Hp->VK->Prop:=λxs H Q=>∃x n t b,xs=[x,V.ty n]/\TyOf K H x t/\W.kitOne K t (.type n)=some b/\Q (.bl b) H
def cInt1:List V->Hp->VK->Prop:=λxs H Q=>(∃i,xs=[.int i]/\Q (.int i) H)\/∃k,xs=[.bl k]/\Q (.int (if k then 1 else 0)) H
section
variable{X:Cx}
theorem wq:CallR X (.builtin "len") (cLen X.K):=p9
theorem sG:CallR X (.builtin "len") cLenD:=mO
theorem sC:CallR X (.type "list") (cList X.K):=hZ
theorem pV:CallR X (.type "tuple") (cTuple X.K):=f8
theorem wt:CallR X (.builtin "isinstance") (cIsT X.K):=mS
theorem sH:CallR X (.type "int") cInt1:=mW
end
def nIsN:R2:=λx y H Q=>y=.non/\Q (.bl (decide (x=.non))) H
theorem vn:OpR X (compareOp .Is) nIsN:=vw
def nNotN:R2:=λx y H Q=>y=.non/\Q (.bl (!decide (x=.non))) H
theorem rN:OpR X (compareOp .IsNot) nNotN:=rP
section
variable{J:It}{P:Hp->Prop}{n:Nat}{Y:Nat->Hp->V->Hp->Prop}{g:TG}{tb:TS}{Dn:Ends}{σ:St}{H:Hp}
variable{K:xFr}{tl:TE}{tas:TA}{R:It->Hp->Prop}{a:Addr}{xs:List V}
def nIterL(K:xFr)(x:V)(H:Hp)(R:It->Hp->Prop):Prop:=∃a,x=.ref a/\(∃xs,SqL K H a xs)/\R (Itl K a) H
def nIterT(K:xFr)(x:V)(H:Hp)(R:It->Hp->Prop):Prop:=∃a,x=.ref a/\(∃xs,SqT K H a xs)/\R (Itt K a) H
end
section
variable{prog:Program}{w:World}{A:Around}{E:Value->Shared->Prop}{s:Shared}
theorem fT{it l:Addr}{items:Array Value}(hne:l≠it):∀(n i:Nat)(s:Shared)(Q:List Value->Shared->Prop),s.heap.IsListIter it l i->s.heap.IsList l items->i+n<=items.size ->
  (∀h',h'.IsListIter it l (i+n)->Heap.SameBut it s.heap h'->Q ((items.toList.drop i).take n) {s with heap:=h'})->wpAny (model prog w) A (draw (.ref it) n) Q E s
 |0,i,s,Q,hit,_,_,hQ=>by
  change wpAny _ _ (pure []) Q E s;exact xAe (by simpa using hQ s.heap hit (Heap.SameBut.refl ..))
 |n+1,i,s,Q,hit,hl,hle,hQ=>by
  have lt:i<items.size:=by lia
  change wpAny _ _ (pyNext (.ref it)>>=_) Q E s;refine xAd (wpAny_pyNext_list_item hit hl (x:=items[i]) (by simp[lt]) λh1 it1 sb1=>?_);refine xAd (xDc (fT hne n (i+1) _ _ it1 (hl.at λo e=>(sb1.2 l hne).trans e) (by lia) λh2 it2 sb2=>xAe ?_));have hd:items.toList.drop i=items[i]::items.toList.drop (i+1):=by simp[List.drop_eq_getElem_cons,lt]
  have:=hQ h2 (by rw[show i+(n+1)=i+1+n by lia];exact it2) (sb1.trans sb2);rw[hd,List.take_succ_cons] at this;exact this
theorem gz{l:Addr}{items:Array Value}{targets:List (Bool×(Value->Sem Unit))}{Q:Unit->Shared->Prop}(hh:A.handled=none)(hl:s.heap.IsList l items)(hn:targets.length=items.size)(hstar:targets.findIdx? (·.1)=none)(h:∀h',Heap.ExtBut s.heap.objs.size s.heap h'->wpAny (model prog w) A (assignInOrder (targets.map (·.2)) items.toList) Q E {s with heap:=h'}) :
  wpAny (model prog w) A (unpack (.ref l) targets) Q E s:=by
 unfold unpack;rw[hn,hstar];refine xAd (xDc ?_);have lt:l≠s.heap.objs.size:=by obtain⟨o,ho,_⟩:=hl;exact xA0 (xA1 ho)
 unfold unpackItems;refine xAd ?_;unfold notIterableAtAll;refine xAd (wpAny_specialOf hl.typeIs PySem.F.slot_list_iter.lookup ?_);refine xAe ?_;simp only[xAz,if_false];refine xAd (xDc (wpAny_pyIter_list hl ?_));refine xAd (xDc (fT lt items.size 0 _ _ ⟨_,xAl _ rfl,rfl,rfl⟩ (hl.push _) (by lia) λh1 it1 sb1=>?_));have hall:List.take items.size (List.drop 0 items.toList)=items.toList:=by
  rw[List.drop_zero];exact List.take_of_length_le (by simp)
 rw[hall,xCf (by simp)];have hl1:h1.IsList l items:=(hl.push _).at λo e=>(sb1.2 l lt).trans e;refine xAd (xDc (wpAny_pyNext_list_end hh it1 hl1 (by simp) λh2 e2=>?_));simp only[Option.isSome_none,xAz,if_false];exact xAe (h h2 λb o hb e=>e2 b o hb (sb1.extBut b o hb (xAf _ e)))
end
section
variable{X:Cx}{pos:Pos}
def gLst(K:xFr)(n:Nat)(t:TGs):TG:=λv σ H Q=>∃a xs,v=.ref a/\SqL K H a xs/\xs.length=n/\t xs σ H Q
theorem uY{k:Nat}{t:TGs}{n:Nat}(hc:X.calm=true)(h:PGs X es t)(hn:(assignEach es X.env).length=n:=by rfl)(hst:(assignEach es X.env).findIdx? (·.1)=none:=by rfl):PG X (.Tuple es k pos) (gLst X.K n t):=by
 intro Z s σ H v u Q I r hw;obtain⟨a,xs,e1,hq,hl,hw⟩:=hw;subst e1;cases r;obtain⟨its,rv,ht,hz⟩:=I.list hq;rw[assign_Tuple];refine xAd (wpAny_standAt (gz (I.ok.hd hc) ht.isList (by simp[hn,<- hl,rv.length]) hst λh' hx=>?_));have I1:Inv X Z σ H {s with heap:=h'}:=I.kept (t':=s.toks) λb o e=>hx b o (xA0 (xA1 e)) e;exact h Z _ σ H xs _ Q I1 (by simpa using rv) hw
end
section
variable{X:Cx}
def rCatA(K:xFr):R2:=λx y H Q=>∃a b xs ys,x=.ref a/\y=.ref b/\H a=some (.tup xs)/\H b=some (.tup ys)/\xs.length+ys.length<=sizeLine/\∀p H2,Same H H2->H2 p=some (.tup (xs++ys))->Q (.ref p) H2
theorem rO:OpR X (binaryOp .Add) (rCatA X.K):=by
 intro Z s σ H x y v u Q I rx ry h;obtain⟨a,b,xs,ys,rfl,rfl,ha,hb,hz,q⟩:=h;by_cases hx:xs=[]
 ·cases (show v=Value.ref a from rx);cases (show u=Value.ref b from ry);subst hx;obtain⟨its,r1,p1,_⟩:=I.tuple (SqT.of ha);obtain⟨its2,r2,p2,_⟩:=I.tuple (SqT.of hb);have e1:its=[]:=r1.nil_iff.mpr rfl;subst e1;obtain⟨⟨cls,dd,data,sl⟩,ho,hc,n,hd⟩:=id p1;obtain⟨⟨cls2,dd2,data2,sl2⟩,ho2,hc2,n2,hd2⟩:=id p2;simp only at hc hd hc2 hd2;subst hc hd hc2 hd2;refine concat_meets ⟨_,ho,rfl⟩ ⟨_,ho2,rfl⟩ noFill_tuple_add seq_tuple_add PySem.F.slot_tuple_add PySem.F.entry_tuple_add (PySem.F.args_tuple_add_2 _ _)
   (tuple_addW0 a b ([]:List Value).toArray its2.toArray n n2 dd dd2 sl sl2 (by simp)) ⟨ho,ho2,?_⟩
  exact⟨.ref b,H,I,rfl,q b H (.refl _) hb⟩
 ·refine rV Z s σ H _ _ v u Q I rx ry ⟨a,b,xs,ys,rfl,rfl,.of ha,.of hb,hx,hz,λe=>?_,λ_ p hp=>q p _ (cY hp _) bt⟩;subst e;exact q a H (.refl _) (by rw[xB0];exact ha)
end
noncomputable def noStar:Expr->Bool
 |.Starred _ _=>false
 |_=>true
theorem bv(h:noStar e=true):starEach (e::es) env=(false,eval e env)::starEach es env:=by
 cases e <;> first|rfl|cases h
theorem dj{pos:Pos}{env:Env}:∀{es:List Expr},es.all noStar=true->(backTo pos (starEach es env)).any (·.1)=false
 |[],_=>rfl
 |e::es,h=>by
  rw[xCj,xCh] at h;rw[bv h.1];change(false||(backTo pos (starEach es env)).any (·.1))=false;rw[dj h.2];rfl
theorem ir{pos:Pos}{env:Env}:∀{es:List Expr},es.all noStar=true->(backTo pos (starEach es env)).all (λx=>!x.1)=true
 |[],_=>rfl
 |e::es,h=>by
  rw[xCj,xCh] at h;rw[bv h.1];change(true&&(backTo pos (starEach es env)).all (λx=>!x.1))=true;rw[ir h.2];rfl
noncomputable def noComp:Expr->Bool
 |.ListComp ..=>false
 |.SetComp ..=>false
 |.DictComp ..=>false
 |_=>true
theorem dL{t:Option Expr}{l:Nat}(h:noComp e=true):swapsWith e t l env=pure false:=by
 cases e <;> first|rfl|cases h
noncomputable def noCall:Expr->Bool
 |.Call ..=>false
 |_=>true
theorem fj{o:Expr}{f:Str}{x:Sem Value}(h:noCall o=true):attributeBase o f env x=x:=by
 cases o <;> first|rfl|cases h
section
variable{X:Cx}{e o:Expr}{es:List Expr}{te to:TE}{t:TA}{pos p apos cpos:Pos}{x name:Str}{id T:String}{i:Nat}{r:List V->Hp->VK->Prop}
theorem jv(ha:PE X e te)(hr:PA X es t)(h:noStar e=true:=by rfl):PA X (e::es) (tCons te t):=rH ha hr (bv h)
theorem oJ(hc:CallR X (.builtin id) r)(hg:Gl X x)(hm:X.mg x=none)(hv:bootBuiltins x=some (.builtin id))(ha:PA X (e::es) t)(h:(e::es).all noStar=true:=by rfl)(hn:x≠"__name__":=by decide)(hdb:(x==("__debug__":Str))=false:=by decide):PE X (.Call (.Name x p) (e::es) [] pos) (tCB r t):=by
 rw[xCj,xCh] at h;exact oI hc hg hm hv ha hn hdb (bv h.1) (dj h.2)
theorem kn(hc:CallR X (.type T) r)(hg:Gl X x)(hm:X.mg x=none)(hv:bootBuiltins x=some (.type T))(ha:PA X (e::es) t)(h:(e::es).all noStar=true:=by rfl)(hn:x≠"__name__":=by decide)(hdb:(x==("__debug__":Str))=false:=by decide):PE X (.Call (.Name x p) (e::es) [] pos) (tCB r t):=by
 rw[xCj,xCh] at h;exact lU hc hg hm hv ha hn hdb (bv h.1) (dj h.2)
variable{k k':Nat}{ps:List Str}{sp:Sp}
theorem xi(he:PE X e te)(h:noComp e=true:=by rfl):PS X (.Expr e pos) (tDrop te):=qQ he (dL h)
variable{rm:V->List V->Hp->VK->Prop}
theorem yX(pa:PlainAttrs T)(slot:Slot T name id)(hty:typeOf (.builtin id)=pure (.type "method_descriptor"))(hm:MtR X id rm)(ho:PE X o to)(ha:PA X [e] t)(h:noCall o=true:=by rfl)(h2:noStar e=true:=by rfl)(hline:(apos.endLine==cpos.line)=true:=by rfl) :
  PE X (.Call (.Attribute o name apos) [e] [] cpos) (tBM X.K T rm to t):=
 xr pa slot hty hm ho ha (fj h) (by rw[bv h2];rfl) hline (bv h2) rfl
theorem xl{tg:Expr}{ta:TA}(hg:Gl X "range")(hm:X.mg "range"=none)(ha:PA X [e] ta)(h:noStar e=true:=by rfl):PI X tg (.Call (.Name "range" p) [e] [] pos) (iRng1 ta):=lS hg hm ha (bv h)
end
section
variable{X:Cx}{e a b c o:Expr}{es:List Expr}{te ta tb tc to:TE}{t u:TA}{pos p p2 apos cpos px:Pos}{x y name:Str}{id T:String}{i j k:Nat}{st:Stmt}{sts:List Stmt}{ts us:TS}{tt tt':TT}
noncomputable def noSlice:Expr->Bool
 |.Slice ..=>false
 |_=>true
theorem oa(h:noSlice b=true):PlainIx b:=λo i=>by cases b <;> first|rfl|cases h
variable{r:List V->Hp->VK->Prop}{rm:V->List V->Hp->VK->Prop}{ps:List Str}{sp:Sp}{k':Nat}
variable{tg iter elt:Expr}{g:TG}{gs:TGs}{wi:TI}{tas:TA}
theorem tz(h:noStar e=true):assignEach (e::es) env=(false,assign e env)::assignEach es env:=by
 cases e <;> first|rfl|cases h
theorem dC{env:Env}:∀{es:List Expr},es.all noStar=true->(assignEach es env).length=es.length/\(assignEach es env).findIdx? (·.1)=none
 |[],_=>⟨rfl,rfl⟩
 |e::es,h=>by
  rw[xCj,xCh] at h;obtain⟨h1,h2⟩:=dC (env:=env) h.2;rw[tz h.1];refine⟨by rw[xAo,h1,xAo],?_⟩;rw[List.findIdx?_cons,h2];rfl
variable{scope:Scope}{cl:List (Str×Addr)}{ls N:List Str}{fr:List Nat}{ifs:List Expr}
variable{body orelse:List Stmt}
end
theorem lineM{n:Nat}(h:n<=16000000):n<sizeLine:=by rw[sizeLine_eq];lia
theorem lineMe{n:Nat}(h:n<=16000000):n<=sizeLine:=Nat.le_of_lt (lineM h)
def CDivP(i j:Int):Prop:=0<j/\j<=10^18
theorem oU:OpR X (binaryOp .FloorDiv) (rI CDivP λi j=>.int (i / j)):=by
 intro Z s σ H x y v u Q I rx ry h;obtain⟨i,j,rfl,rfl,⟨hj,hj2⟩,q⟩:=h;have hl:j.natAbs.log2<9000:=by
  have h1:j.natAbs<2^60:=by
   have:(2:Int)^60=1152921504606846976:=by decide
   have:(10:Int)^18=1000000000000000000:=by decide
   have:(2:Nat)^60=1152921504606846976:=by decide
   lia
  have:=(Nat.log2_lt (n:=j.natAbs) (by lia)).mpr h1;lia
 refine oV Z s σ H _ _ v u Q I rx ry ⟨i,j,rfl,rfl,⟨by lia,PyProof.noPylong_of_log2 hl⟩,?_⟩;have e:i.fdiv j=i / j:=Int.fdiv_eq_ediv_of_nonneg _ (by lia);change Q (.int (i.fdiv j)) H;rw[e];exact q
section
variable{X:Cx}{Z:List (Addr×Obj)}{σ:St}{H:Hp}{s:Shared}{h':Heap}
theorem Inv.turnedL{t':Nat}(I:Inv X Z σ H s)(k:∀b o,b∉fp->s.heap.get? b=some o->h'.get? b=some o)(hf:∀b∈fp,FpOk X Z H b):Inv X Z σ H {s with heap:=h',toks:=t'}:=by
 have nit:∀b u,H b=some u->b∉fp:=λb u e z=>by rw[(hf b z).1] at e;cases e
 refine I.step (g':=s.gens) (d':=s.drawn) (ch:=fp) (λb hb=>?_) (λb o _ _ hc e _=>k b o hc e) (λb o _ _ hc e _=>⟨o.slots,k b o hc e⟩) (λ_ _ _ _ n=>n)
  (λb o hc e=>⟨o,k b o hc e⟩) (λ_ _ e=>e) (λ_ _ _ e=>e) (λb ps e=>⟨#[],by rw[e];simp⟩) (λm hm=>?_) (λb u e=>?_) I.bare
 ·obtain⟨f0,f1,f2,f3,f4,f5⟩:=hf b hb;exact⟨f3,f1,f4,f5⟩
 ·obtain⟨o,es,ep,ho,r⟩:=hm;exact⟨o,es,ep,k _ o (λz=>(hf _ z).2.1 rfl) ho,r⟩
 ·refine(I.hok b u e).stay (λc v hc q=>k c v ?_ q) (λ_ q=>q) λ_ _ q=>q;rcases hc with z|z
  ·rw[z];exact nit b u e
  ·exact nit c _ z
end
theorem mX:bootBuiltins "enumerate"=some (.type "enumerate"):=by decide +kernel
end L2
namespace RevA
open PySem PySem.Spec PyProof.Rows
open AutoSeq1 (wpAny_loadPart')
variable{it t:Addr}{xs:Array Value}{Q:Value->Shared->Prop}
def tiObj(t:Addr):Obj:={cls:=.type "tuple_iterator",data:=.fields #[.ref t,.int 0 0]}
section
variable{prog:Program}{w:World}{A:Around}{E:Value->Shared->Prop}{s:Shared}
theorem jA{i:Nat}{x:Value}(hit:s.heap.IsTupleIter it t i)(hl:s.heap.IsTuple t xs)(hx:xs[i]?=some x)(q:∀h',h'.IsTupleIter it t (i+1)->Heap.SameBut it s.heap h'->Q x {s with heap:=h'}):wpAny (model prog w) A (Builtin.SmallTypes.nextOf (.ref it)) Q E s:=by
 obtain⟨o,ho,hc,hd⟩:=id hit;obtain⟨ol,hol,_,nl,hdl⟩:=hl;unfold Builtin.SmallTypes.nextOf;refine xAd (wpAny_callSpecial?_slot (name:=Str.ofString "__next__") hit.typeIs PySem.F.slot_tuple_iterator_next (wpAny_call_entry PySem.F.slot_tuple_iterator_next hit.typeIs PySem.F.entry_tuple_iterator_next ?_ (PySem.F.args_tuple_iterator_next_1 _)));change wpAny _ _ (field (.ref it) 0>>=_) _ _ s;refine xAd (xDa ho hd (x:=.ref t) rfl ?_);change wpAny _ _ (if(Value.ref t==Value.none)=true then _ else _) _ _ s;rw[xCf (show ¬ ((Value.ref t==Value.none)=true) from xAy)];change wpAny _ _ (field (.ref it) 1>>=_) _ _ s;refine xAd (xDa ho hd (x:=.int i 0) rfl ?_);change wpAny _ _ (seqItems? (.ref t)>>=_) _ _ s;refine xAd (wpAny_seqItems hol hdl ?_);simp only[xC3,hx];refine xAd (wpAny_setField ho hd (by simp) (xAe ⟨x,rfl,xAe (q _ ?_ (Heap.SameBut.update ..))⟩));exact⟨_,Heap.get?_update_self _ ho (Obj.isFreed_of_fields (Obj.data_mapFields hd _)),(Obj.cls_mapFields ..).trans hc,by rw[Obj.data_mapFields hd];simp[rawInt]⟩
theorem lZ{i:Nat}(hh:A.handled=none)(hit:s.heap.IsTupleIter it t i)(hl:s.heap.IsTuple t xs)(hx:xs[i]?=none)(q:∀h' e,Heap.ExtBut it s.heap h'->(∃o,h'.get? e=some o/\o.cls=.type "StopIteration")->E (.ref e) {s with heap:=h'}):wpAny (model prog w) A (Builtin.SmallTypes.nextOf (.ref it)) Q E s:=by
 obtain⟨o,ho,hc,hd⟩:=id hit;obtain⟨ol,hol,_,nl,hdl⟩:=hl;unfold Builtin.SmallTypes.nextOf;refine xAd (wpAny_callSpecial?_slot (name:=Str.ofString "__next__") hit.typeIs PySem.F.slot_tuple_iterator_next (wpAny_call_entry PySem.F.slot_tuple_iterator_next hit.typeIs PySem.F.entry_tuple_iterator_next ?_ (PySem.F.args_tuple_iterator_next_1 _)));change wpAny _ _ (field (.ref it) 0>>=_) _ _ s;refine xAd (xDa ho hd (x:=.ref t) rfl ?_);change wpAny _ _ (if(Value.ref t==Value.none)=true then _ else _) _ _ s;rw[xCf (show ¬ ((Value.ref t==Value.none)=true) from xAy)];change wpAny _ _ (field (.ref it) 1>>=_) _ _ s;refine xAd (xDa ho hd (x:=.int i 0) rfl ?_);change wpAny _ _ (seqItems? (.ref t)>>=_) _ _ s;refine xAd (wpAny_seqItems hol hdl ?_);simp only[xC3,hx];refine xAd (wpAny_rule (xAd (wpAny_setField ho hd (by simp) ?_)));change wpAny _ _ (newExc (.type "StopIteration") []>>=_) _ _ _;refine xAd ?_;simp only[newExc,newTuple];refine xAd (xBl ?_ (by size_fits));refine xAd (m:=firstArgMember _ _) (wpAny_of_eq (a:=Value.none) (by first|rfl|(simp only[firstArgMember];rfl)) ?_);refine xBl ?_ (by size_fits);simp only[raiseNew];refine xAd (wpAny_handled ?_);first|rw[show A.in1.handled=none from hh]|rw[hh]
 refine xAd (xAe (wpAny_throw ?_));exact q _ _ (((Heap.SameBut.update ..).extBut.push _).push _) ⟨_,xAl _ rfl,rfl⟩
end
theorem drawsT{prog:Program}{w:World}{A:Around}(hh:A.handled=none)(it l:Addr)(hne:l≠it)(xs:Array Value) :
  Draws prog w A it [it,l] xs.size (λi v=>xs[i]?=some v) (λi h=>h.IsTupleIter it l i/\h.IsTuple l xs) where
 live:=λ_ _ st=>let ⟨o,ho,_⟩:=st.1;⟨o,ho⟩
 frame:=λ_ _ _ st hk=>⟨st.1.at λo e=>hk it (by simp) o e,st.2.at λo e=>hk l (by simp) o e⟩
 item:=λi s Q E hi st hQ=>by
  refine jA st.1 st.2 (x:=xs[i]) (by simp[hi]) λh' hit' hs'=>?_;exact hQ _ h' s.toks (by simp[hi]) ⟨hit',st.2.extBut hs'.extBut hne⟩ hs'
 done:=λs Q E st hE=>lZ hh st.1 st.2 (by simp) hE
end RevA
namespace L2
open PySem PySem.Spec PyProof.Rows
variable{α:Type}
theorem len1{us:List α}(h:us.length=1):∃x0,us=[x0]:=by
 cases us with
 |nil=>cases h
 |cons a r=>
  cases r with
  |nil=>exact⟨a,rfl⟩
  |cons b r=>cases h
theorem len2{us:List α}(h:us.length=2):∃x0 x1,us=[x0,x1]:=by
 cases us with
 |nil=>cases h
 |cons a r=>
  obtain⟨x1,rfl⟩:=len1 (Nat.succ.inj h);exact⟨a,x1,rfl⟩
theorem len3{us:List α}(h:us.length=3):∃x0 x1 x2,us=[x0,x1,x2]:=by
 cases us with
 |nil=>cases h
 |cons a r=>
  obtain⟨x1,x2,rfl⟩:=len2 (Nat.succ.inj h);exact⟨a,x1,x2,rfl⟩
theorem len4{us:List α}(h:us.length=4):∃x0 x1 x2 x3,us=[x0,x1,x2,x3]:=by
 cases us with
 |nil=>cases h
 |cons a r=>
  obtain⟨x1,x2,x3,rfl⟩:=len3 (Nat.succ.inj h);exact⟨a,x1,x2,x3,rfl⟩
theorem len5{us:List α}(h:us.length=5):∃x0 x1 x2 x3 x4,us=[x0,x1,x2,x3,x4]:=by
 cases us with
 |nil=>cases h
 |cons a r=>
  obtain⟨x1,x2,x3,x4,rfl⟩:=len4 (Nat.succ.inj h);exact⟨a,x1,x2,x3,x4,rfl⟩
theorem len6{us:List α}(h:us.length=6):∃x0 x1 x2 x3 x4 x5,us=[x0,x1,x2,x3,x4,x5]:=by
 cases us with
 |nil=>cases h
 |cons a r=>
  obtain⟨x1,x2,x3,x4,x5,rfl⟩:=len5 (Nat.succ.inj h);exact⟨a,x1,x2,x3,x4,x5,rfl⟩
end L2
namespace L2
open PySem PySem.Spec PyProof.Rows SetA
def cDictC:List V->Hp->VK->Prop:=λxs H Q=>∃d kvs,xs=[.ref d]/\Rd H d (.dK kvs)/\∀p,H p=none->Q (.ref p) (upd H p (.dK kvs))
section
variable{X:Cx}{e tg o:Expr}{te td:TE}{apos cpos:Pos}
theorem pX:CallR X (.type "dict") cDictC:=by
 intro Z s σ H xs us Q I r h;obtain⟨d,kvs,rfl,hd,q⟩:=h;obtain⟨u,rfl,ru⟩:=vals1 r;obtain rfl:u=Value.ref d:=ru;exact pT I hd λp s' hp I'=>⟨.ref p,_,I',rfl,q p hp⟩
end
end L2
namespace Fx
open PySem L2
inductive U where
 |non|bl (b:Bool)|int (i:Int)|str (x:Str)|tup (xs:List U)|lst (xs:List U)|kt (xs:List U)|kl (xs:List U)|kd (kvs:List (Str×U)) (no:List Str)|ref (a:Nat)|ty (n:String)|gl (x:Str)
instance:Inhabited U:=⟨.non⟩
inductive Ob where
 |lst (xs:List U)|dct (kvs:List (Key×U))|dtt (kvs:List (List Key×U))|ins (C:Str) (fs:List (Str×U))|dead
instance:Inhabited Ob:=⟨.dead⟩
noncomputable abbrev So:=List Ob
structure Xc where
 cls:Str
 fs:List (Str×U)
inductive Res where
 |ok (v:U) (S:So)|stuck
inductive Pm where
 |add (m:Bool)|sub|mul|fdiv|mod|pow|neg
 |eq|ne|lt|le|gt|ge|isN|notN|inn|nin
 |ix|sl (m a b:Bool)|tru|len|isT (n:String)|isC (C:Str)|abs|max|min|int1|str1
 |lst (m:Bool)|dct (ks:List Str)|tupOf|lstOf (m:Bool)|dctOf|lenset|all|any
 |app|pop|ext|get1|get2|join
 |typ (T:String)|fld (f:Str)|setf (f:Str)|seti|cls (C m:Str)|unp (n:Nat)|new (C:Str)
 |rng1|rng2|rng3|zip|enm|rev|seq|fnOf|frz|sortS|dctT|srt|lrng|enm2|thw|upd
noncomputable def nth:List (Option U)->Nat->Option U
 |[],_=>none
 |v::_,0=>v
 |_::r,i+1=>nth r i
noncomputable def put:List (Option U)->Nat->U->List (Option U)
 |[],_,_=>[]
 |_::r,0,v=>some v::r
 |o::r,i+1,v=>o::put r i v
noncomputable def puts:List (Option U)->List Nat->List U->List (Option U)
 |σ,i::is,v::vs=>puts (put σ i v) is vs
 |σ,_,_=>σ
noncomputable def at?{α:Type}:List α->Nat->Option α
 |[],_=>none
 |v::_,0=>some v
 |_::r,i+1=>at? r i
noncomputable def set{α:Type}:List α->Nat->α->List α
 |[],_,_=>[]
 |_::r,0,v=>v::r
 |o::r,i+1,v=>o::set r i v
noncomputable def lsU(S:So):U->Option (List U)
 |.lst xs=>some xs
 |.kl xs=>some xs
 |.ref a=>match at? S a with
  |some (.lst xs)=>some xs
  |_=>none
 |_=>none
noncomputable def lsT(S:So):U->Option (List U)
 |.lst xs=>some xs
 |.ref a=>match at? S a with
  |some (.lst xs)=>some xs
  |_=>none
 |_=>none
noncomputable def sqU(S:So):U->Option (List U)
 |.tup xs=>some xs
 |.kt xs=>some xs
 |u=>lsU S u
noncomputable def sqF:U->Option (List U)
 |.tup xs=>some xs
 |.kt xs=>some xs
 |.lst xs=>some xs
 |.kl xs=>some xs
 |_=>none
noncomputable def mkL(m:Bool)(xs:List U)(S:So):Res:=match m with
 |true=>.ok (.ref S.length) (S++[.lst xs])
 |false=>.ok (.lst xs) S
noncomputable def fits(n:Nat)(r:Res):Res:=match Nat.ble n sizeLine with
 |true=>r
 |false=>.stuck
noncomputable def getF{α:Type}(f:Str):List (Str×α)->Option α
 |[]=>none
 |(g,v)::r=>if f=g then some v else getF f r
noncomputable def putF(f:Str)(v:U):List (Str×U)->List (Str×U)
 |[]=>[(f,v)]
 |(g,u)::r=>if g=f then(g,v)::r else(g,u)::putF f v r
noncomputable def getK{κ:Type} [DecidableEq κ] (k:κ):List (κ×U)->Option U
 |[]=>none
 |(g,v)::r=>if g=k then some v else getK k r
noncomputable def putK{κ:Type} [DecidableEq κ] (k:κ) (v:U) (kvs:List (κ×U)):List (κ×U):=if(kvs.any λkv=>decide (kv.1=k))=true then kvs.map (λkv=>if kv.1=k then(kv.1,v) else kv) else kvs++[(k,v)]
noncomputable def keyU:U->Option Key
 |.int i=>some (.inl i)
 |.str x=>some (.inr x)
 |_=>none
noncomputable def keysU:List U->Option (List Key)
 |[]=>some []
 |u::r=>(keyU u).bind λk=>(keysU r).map (k::·)
noncomputable def keyT:U->Option (List Key)
 |.tup xs=>keysU xs
 |_=>none
inductive Sc where
 |non|int (i:Int)|bl (b:Bool)|str (x:Str)
noncomputable def Sc.u:Sc->U
 |.non=>.non
 |.int i=>.int i
 |.bl b=>.bl b
 |.str x=>.str x
noncomputable def sc:U->Option Sc
 |.non=>some .non
 |.int i=>some (.int i)
 |.bl b=>some (.bl b)
 |.str x=>some (.str x)
 |_=>none
theorem wZ{u:U}{a:Sc}(h:sc u=some a):u=a.u:=by unfold sc at h;split at h <;> cases h <;> rfl
noncomputable def Sc.eq:Sc->Sc->Option Bool
 |.non,b=>match b with
  |.non=>some true
  |_=>some false
 |.int i,b=>match b with
  |.int j=>some (decide (i=j))
  |.bl _=>none
  |_=>some false
 |.bl i,b=>match b with
  |.bl j=>some (decide (i=j))
  |.int _=>none
  |_=>some false
 |.str i,b=>match b with
  |.str j=>some (decide (i=j))
  |_=>some false
noncomputable def eqS(x y:U):Option Bool:=(sc x).bind λa=>(sc y).bind λb=>a.eq b
noncomputable def flatU:U->Bool
 |.non=>true
 |.bl _=>true
 |.int _=>true
 |.str _=>true
 |_=>false
noncomputable def eqF:U->U->Bool
 |.non,.non=>true
 |.bl a,.bl b=>a==b
 |.bl a,.int b=>(if a then 1 else 0)==b
 |.int a,.bl b=>a==(if b then 1 else 0)
 |.int a,.int b=>a==b
 |.str a,.str b=>a==b
 |_,_=>false
noncomputable def zipAll{α:Type}(f:α->α->Bool):List α->List α->Bool
 |[],[]=>true
 |x::xs,y::ys=>f x y&&zipAll f xs ys
 |_,_=>false
noncomputable def same(S:So):Nat->U->U->Bool
 |0,x,y=>flatU x&&flatU y&&eqS x y==some true
 |n+1,x,y=>match x,y with
  |.tup xs,.tup ys=>zipAll (same S n) xs ys
  |x,y=>match lsT S x,lsT S y with
   |some xs,some ys=>zipAll (same S n) xs ys
   |_,_=>flatU x&&flatU y&&eqS x y==some true
noncomputable def anyF(x:U):List U->Bool
 |[]=>false
 |y::ys=>eqF y x||anyF x ys
noncomputable def inU(S:So)(x y:U):Option Bool:=match y with
 |.str j=>match x with
  |.str i=>some (!(Builtin.Str.occurrences j i 0 j.length 1).isEmpty)
  |_=>none
 |.ref a=>match at? S a with
  |some (.dct kvs)=>(keyU x).map λk=>(getK k kvs).isSome
  |some (.dtt kvs)=>(keyT x).map λk=>(getK k kvs).isSome
  |some (.lst xs)=>if flatU x&&xs.all flatU then some (anyF x xs) else none
  |_=>none
 |y=>match sqU S y with
  |some xs=>if flatU x&&xs.all flatU then some (anyF x xs) else none
  |none=>none
noncomputable def obB(o:Option Bool)(f:Bool->Bool)(S:So):Res:=match o with
 |some b=>.ok (.bl (f b)) S
 |none=>.stuck
noncomputable def i2(f:Int->Int->U)(S:So):List U->Res
 |[.int i,.int j]=>.ok (f i j) S
 |_=>.stuck
noncomputable def cutU(xs:List U)(lo hi:Option Int):List U:=(xs.drop (HT.sIx xs.length 0 lo)).take (HT.sIx xs.length xs.length hi-HT.sIx xs.length 0 lo)
noncomputable def slice(m:Bool)(x:U)(lo hi:Option Int)(S:So):Res:=match x with
 |.tup xs=>match decide (HT.sIx xs.length 0 lo=0/\HT.sIx xs.length xs.length hi=xs.length) with
  |true=>.ok (.tup xs) S
  |false=>.ok (.tup (cutU xs lo hi)) S
 |x=>match lsU S x with
  |some xs=>mkL m (cutU xs lo hi) S
  |none=>.stuck
noncomputable def truU(S:So):U->Option Bool
 |.bl b=>some b
 |.ref a=>match at? S a with
  |some (.lst xs)=>some (!xs.isEmpty)
  |_=>none
 |_=>none
noncomputable def isC(up:List (Str×Str))(C D:Str):Bool:=decide (C=D)||up.any λp=>decide (p.1=C)&&decide (p.2=D)
noncomputable def tyU(S:So):U->Option String
 |.non=>some "NoneType"
 |.bl _=>some "bool"
 |.int _=>some "int"
 |.str _=>some "str"
 |.tup _=>some "tuple"
 |.lst _=>some "list"
 |.ref a=>match at? S a with
  |some (.lst _)=>some "list"
  |some (.dct _)=>some "dict"
  |some (.ins _ _)=>some "object"
  |_=>none
 |_=>none
noncomputable def isTb(t n:String):Bool:=(t==n)||(t == "bool" && n == "int")
noncomputable def strL:List U->Option (List Str)
 |[]=>some []
 |.str x::r=>(strL r).map (x::·)
 |_=>none
noncomputable def blL:List U->Option (List Bool)
 |[]=>some []
 |.bl x::r=>(blL r).map (x::·)
 |_=>none
noncomputable def intL(lo:Int):Nat->List U
 |0=>[]
 |n+1=>.int lo::intL (lo+1) n
noncomputable def zipU:List U->List U->List U
 |x::xs,y::ys=>.tup [x,y]::zipU xs ys
 |_,_=>[]
noncomputable def dctZ:List Str->List U->List (Key×U)
 |k::ks,v::vs=>(.inr k,v)::dctZ ks vs
 |_,_=>[]
noncomputable def addU(m:Bool)(a b:U)(S:So):Res:=match a,b with
 |.int i,.int j=>.ok (.int (i+j)) S
 |.tup xs,.tup ys=>fits (xs.length+ys.length) (.ok (.tup (xs++ys)) S)
 |a,b=>match lsT S a,lsT S b with
  |some xs,some ys=>fits (xs.length+ys.length) (mkL m (xs++ys) S)
  |_,_=>.stuck
noncomputable def unlU:Option (List U)->Option (List U)->Bool
 |some xs,some ys=>!Nat.beq xs.length ys.length
 |_,_=>false
noncomputable def neU(a b:U)(S:So):Res:=match eqS a b with
 |some c=>.ok (.bl (not c)) S
 |none=>match unlU (lsT S a) (lsT S b) with
  |true=>.ok (.bl true) S
  |false=>match same S 80 a b with
   |true=>.ok (.bl false) S
   |false=>.stuck
noncomputable def eqU(f:Bool->Bool)(a b:U)(S:So):Res:=match eqS a b with
 |some c=>.ok (.bl (f c)) S
 |none=>match same S 80 a b with
  |true=>.ok (.bl (f true)) S
  |false=>.stuck
noncomputable def opt(o:Option U)(S:So):Res:=match o with
 |some v=>.ok v S
 |none=>.stuck
noncomputable def ixU(a b:U)(S:So):Res:=match a with
 |.kd kvs _=>match b with
  |.str x=>opt (getF x kvs) S
  |_=>.stuck
 |.str z=>match b with
  |.int i=>match atI z.cps.toList i with
   |some c=>fits z.length (.ok (.str ⟨#[c]⟩) S)
   |none=>.stuck
  |_=>.stuck
 |.ref p=>match at? S p with
  |some (.dct kvs)=>match keyU b with
   |some k=>opt (getK k kvs) S
   |none=>.stuck
  |some (.lst xs)=>match b with
   |.int i=>opt (atI xs i) S
   |_=>.stuck
  |_=>.stuck
 |a=>match sqU S a with
  |some xs=>match b with
   |.int i=>opt (atI xs i) S
   |_=>.stuck
  |none=>.stuck
noncomputable def lenU(a:U)(S:So):Res:=match a with
 |.str x=>fits x.length (.ok (.int x.length) S)
 |.ref p=>match at? S p with
  |some (.lst xs)=>.ok (.int xs.length) S
  |some (.dct kvs)=>.ok (.int kvs.length) S
  |_=>.stuck
 |a=>match sqU S a with
  |some xs=>.ok (.int xs.length) S
  |none=>.stuck
noncomputable def isCU(D:Str)(a:U)(S:So)(up:List (Str×Str)):Res:=match a with
 |.ref p=>match at? S p with
  |some (.ins C _)=>.ok (.bl (isC up C D)) S
  |some (.lst _)=>.ok (.bl false) S
  |some (.dct _)=>.ok (.bl false) S
  |_=>.stuck
 |a=>match tyU S a with
  |some _=>.ok (.bl false) S
  |none=>.stuck
noncomputable def tupOfU(a:U)(S:So):Res:=match a with
 |.tup xs=>.ok (.tup xs) S
 |a=>match lsU S a with
  |some xs=>.ok (.tup xs) S
  |none=>.stuck
noncomputable def setiU(p:Nat)(k v:U)(S:So):Res:=match at? S p with
 |some (.dct kvs)=>match keyU k with
  |some k=>fits (kvs.length+1) (.ok .non (set S p (.dct (putK k v kvs))))
  |none=>.stuck
 |some (.dtt kvs)=>match keyT k with
  |some k=>fits (kvs.length+1) (.ok .non (set S p (.dtt (putK k v kvs))))
  |none=>.stuck
 |some (.lst xs)=>match k with
  |.int i=>match decide (0<=i/\i<xs.length) with
   |true=>.ok .non (set S p (.lst (set xs i.toNat v)))
   |false=>.stuck
  |_=>.stuck
 |_=>.stuck
noncomputable def seqU(f:List U->U)(a:U)(S:So):Res:=match a with
 |.str x=>.ok (f (x.cps.toList.map λc=>.str ⟨#[c]⟩)) S
 |.ref p=>match at? S p with
  |some (.lst xs)=>.ok (f xs) (set S p .dead)
  |_=>.stuck
 |a=>match sqU S a with
  |some xs=>.ok (f xs) S
  |none=>.stuck
noncomputable def insU(p:Nat)(S:So)(f:Str->List (Str×U)->Res):Res:=match at? S p with
 |some (.ins C fs)=>f C fs
 |_=>.stuck
noncomputable def lstU(p:Nat)(S:So)(f:List U->Res):Res:=match at? S p with
 |some (.lst xs)=>f xs
 |_=>.stuck
def strU:U->Option Str
 |.str x=>some x
 |_=>none
theorem uA{u:U}{x:Str}(h:strU u=some x):u=.str x:=by unfold strU at h;split at h <;> cases h;rfl
noncomputable def mrgK(kvs more:List (Key×U)):List (Key×U):=more.foldl (λacc kv=>putK kv.1 kv.2 acc) kvs
noncomputable def enmU(i:Int):List U->List U
 |[]=>[]
 |x::xs=>.tup [.int i,x]::enmU (i+1) xs
noncomputable def intsU:List U->Option (List Int)
 |[]=>some []
 |.int i::r=>(intsU r).map (i::·)
 |_=>none
noncomputable def risB:List Int->Bool
 |a::b::r=>decide (a<b)&&risB (b::r)
 |_=>true
variable(up:List (Str×Str))
noncomputable def pr:Pm->List U->So->Res
 |.add m,as,S=>match as with
  |[a,b]=>addU m a b S
  |_=>.stuck
 |.sub,as,S=>i2 (λi j=>.int (i-j)) S as
 |.mul,as,S=>match as with
  |[.int i,.int j]=>match decide (i.natAbs<2^150/\j.natAbs<2^150\/j.natAbs<2^60\/i.natAbs<2^60) with
   |true=>.ok (.int (i*j)) S
   |false=>.stuck
  |_=>.stuck
 |.fdiv,as,S=>match as with
  |[.int i,.int j]=>match decide (0<j/\j<=10^18) with
   |true=>.ok (.int (i / j)) S
   |false=>.stuck
  |_=>.stuck
 |.mod,as,S=>match as with
  |[.int i,.int j]=>match decide (0<j) with
   |true=>.ok (.int (i%j)) S
   |false=>.stuck
  |_=>.stuck
 |.pow,as,S=>match as with
  |[.int i,.int j]=>match decide (0<=j/\j<=1000/\i.natAbs<2^60) with
   |true=>.ok (.int (i^j.toNat)) S
   |false=>.stuck
  |_=>.stuck
 |.neg,as,S=>match as with
  |[.int i]=>.ok (.int (-i)) S
  |_=>.stuck
 |.eq,as,S=>match as with
  |[a,b]=>eqU id a b S
  |_=>.stuck
 |.ne,as,S=>match as with
  |[a,b]=>neU a b S
  |_=>.stuck
 |.lt,as,S=>i2 (λi j=>.bl (decide (i<j))) S as
 |.le,as,S=>i2 (λi j=>.bl (decide (i<=j))) S as
 |.gt,as,S=>i2 (λi j=>.bl (decide (j<i))) S as
 |.ge,as,S=>i2 (λi j=>.bl (decide (j<=i))) S as
 |.isN,as,S=>match as with
  |[a]=>.ok (.bl (match a with|.non=>true|_=>false)) S
  |_=>.stuck
 |.notN,as,S=>match as with
  |[a]=>.ok (.bl (match a with|.non=>false|_=>true)) S
  |_=>.stuck
 |.inn,as,S=>match as with
  |[a,b]=>obB (inU S a b) id S
  |_=>.stuck
 |.nin,as,S=>match as with
  |[a,b]=>obB (inU S a b) not S
  |_=>.stuck
 |.ix,as,S=>match as with
  |[a,b]=>ixU a b S
  |_=>.stuck
 |.sl m l h,as,S=>match l,h,as with
  |true,true,[x,.int i,.int j]=>slice m x (some i) (some j) S
  |true,false,[x,.int i]=>slice m x (some i) none S
  |false,true,[x,.int j]=>slice m x none (some j) S
  |_,_,_=>.stuck
 |.tru,as,S=>match as with
  |[a]=>obB (truU S a) id S
  |_=>.stuck
 |.len,as,S=>match as with
  |[a]=>lenU a S
  |_=>.stuck
 |.isT n,as,S=>match as with
  |[a]=>match tyU S a with
   |some t=>.ok (.bl (isTb t n)) S
   |none=>.stuck
  |_=>.stuck
 |.isC D,as,S=>match as with
  |[a]=>isCU D a S up
  |_=>.stuck
 |.abs,as,S=>match as with
  |[.int i]=>.ok (.int (if i<0 then -i else i)) S
  |_=>.stuck
 |.max,as,S=>i2 (λi j=>.int (if j>i then j else i)) S as
 |.min,as,S=>i2 (λi j=>.int (if j<i then j else i)) S as
 |.int1,as,S=>match as with
  |[a]=>match a with
   |.int i=>.ok (.int i) S
   |.bl b=>.ok (.int (if b then 1 else 0)) S
   |_=>.stuck
  |_=>.stuck
 |.lst m,as,S=>fits as.length (mkL m as S)
 |.dct ks,as,S=>match Nat.beq ks.length as.length with
  |true=>.ok (.ref S.length) (S++[.dct (dctZ ks as)])
  |false=>.stuck
 |.tupOf,as,S=>match as with
  |[a]=>tupOfU a S
  |_=>.stuck
 |.lstOf m,as,S=>match as with
  |[a]=>match sqU S a with
   |some xs=>mkL m xs S
   |none=>.stuck
  |_=>.stuck
 |.dctOf,as,S=>match as with
  |[.ref p]=>match at? S p with
   |some (.dct kvs)=>.ok (.ref S.length) (S++[.dct kvs])
   |_=>.stuck
  |_=>.stuck
 |.lenset,as,S=>match as with
  |[.tup xs]=>match strL xs with
   |some ws=>match decide (ws.length<=4/\ws.Nodup) with
    |true=>.ok (.int ws.length) S
    |false=>.stuck
   |none=>.stuck
  |_=>.stuck
 |.all,as,S=>match as with
  |[.lst xs]=>match blL xs with
   |some bs=>.ok (.bl (bs.all id)) S
   |none=>.stuck
  |_=>.stuck
 |.app,as,S=>match as with
  |[.ref p,v]=>lstU p S λxs=>fits (xs.length+1) (.ok .non (set S p (.lst (xs++[v]))))
  |_=>.stuck
 |.get1,as,S=>match as with
  |[.kd kvs _,.str x]=>opt (getF x kvs) S
  |_=>.stuck
 |.get2,as,S=>match as with
  |[.kd kvs no,.str x,d]=>match getF x kvs with
   |some v=>.ok v S
   |none=>match no.any λy=>decide (y=x) with
    |true=>.ok d S
    |false=>.stuck
  |_=>.stuck
 |.join,as,S=>match as with
  |[a,b]=>match strU a,lsT S b with
   |some s,some xs=>match strL xs with
    |some ws=>match decide ((ws.map (·.length)).sum+ws.length*s.length<=16777216) with
     |true=>.ok (.str (Builtin.Str.glued s ws)) S
     |false=>.stuck
    |none=>.stuck
   |_,_=>.stuck
  |_=>.stuck
 |.ext,as,S=>match as with
  |[.ref p,b]=>lstU p S λxs=>match lsT S b with
   |some ys=>fits (xs.length+ys.length) (.ok .non (set S p (.lst (xs++ys))))
   |none=>.stuck
  |_=>.stuck
 |.upd,as,S=>match as with
  |[.ref p,.ref q]=>match at? S p,at? S q with
   |some (.dct kvs),some (.dct more)=>match decide (p≠q/\kvs.length+more.length<=1000) with
    |true=>.ok .non (set S p (.dct (mrgK kvs more)))
    |false=>.stuck
   |_,_=>.stuck
  |_=>.stuck
 |.thw,as,S=>match as with
  |[.lst xs]=>.ok (.ref S.length) (S++[.lst xs])
  |_=>.stuck
 |.dctT,as,S=>match as with
  |[]=>.ok (.ref S.length) (S++[.dtt []])
  |_=>.stuck
 |.srt,as,S=>match as with
  |[a]=>match lsT S a with
   |some xs=>match intsU xs with
    |some ns=>match risB ns with
     |true=>.ok (.lst xs) S
     |false=>.stuck
    |none=>.stuck
   |none=>.stuck
  |_=>.stuck
 |.lrng,as,S=>match as with
  |[.int j]=>match decide (0<=j/\j<=100000) with
   |true=>.ok (.lst (intL 0 j.toNat)) S
   |false=>.stuck
  |_=>.stuck
 |.enm2,as,S=>match as with
  |[a]=>match a with
   |.tup xs=>.ok (.tup (enmU 2 xs)) S
   |.kt xs=>.ok (.tup (enmU 2 xs)) S
   |_=>.stuck
  |_=>.stuck
 |.fld f,as,S=>match as with
  |[.ref p]=>insU p S λ_ fs=>opt (getF f fs) S
  |_=>.stuck
 |.setf f,as,S=>match as with
  |[.ref p,v]=>insU p S λC fs=>match Nat.ble fs.length 900 with
   |true=>.ok .non (set S p (.ins C (putF f v fs)))
   |false=>.stuck
  |_=>.stuck
 |.typ T,as,S=>match as with
  |[a]=>match tyU S a with
   |some t=>match t==T with
    |true=>.ok a S
    |false=>.stuck
   |none=>.stuck
  |_=>.stuck
 |.seti,as,S=>match as with
  |[.ref p,k,v]=>setiU p k v S
  |_=>.stuck
 |.cls C m,as,S=>match as with
  |[.ref p]=>insU p S λD fs=>match decide (C=D) with
   |true=>match getF m fs with
    |none=>.ok (.ref p) S
    |some _=>.stuck
   |false=>.stuck
  |_=>.stuck
 |.unp n,as,S=>match as with
  |[a]=>match sqU S a with
   |some xs=>match Nat.beq xs.length n with
    |true=>.ok (.tup xs) S
    |false=>.stuck
   |none=>.stuck
  |_=>.stuck
 |.new C,as,S=>match as with
  |[]=>.ok (.ref S.length) (S++[.ins C []])
  |_=>.stuck
 |.rng1,as,S=>match as with
  |[.int j]=>match decide (-(2^62)<=j/\j<2^62) with
   |true=>.ok (.tup (intL 0 j.toNat)) S
   |false=>.stuck
  |_=>.stuck
 |.zip,as,S=>match as with
  |[a,b]=>match sqF a,sqF b with
   |some xs,some ys=>match Nat.beq xs.length ys.length with
    |true=>.ok (.tup (zipU xs ys)) S
    |false=>.stuck
   |_,_=>.stuck
  |_=>.stuck
 |.seq,as,S=>match as with
  |[a]=>seqU .tup a S
  |_=>.stuck
 |.frz,as,S=>match as with
  |[.ref p]=>lstU p S λxs=>.ok (.lst xs) (set S p .dead)
  |_=>.stuck
 |_,_,_=>.stuck
noncomputable abbrev Sg:=List (Option U)
noncomputable abbrev Kx(α:Type):=Xc->So->α
noncomputable abbrev Kv(α:Type):=U->So->α
structure Gx(α:Type) where
 fail:α
 fuel:Nat
 prim:Pm->List U->So->Kx α->Kv α->α
 call:Nat->List U->So->Kx α->Kv α->α
 br:Bool->(Unit->α)->(Unit->α)->α
structure Ee(α:Type) where
 nx:Sg->So->α
 rt:Kv α
 bk:Sg->So->α
 ct:Sg->So->α
 x:Xc->Sg->So->α
noncomputable abbrev TEx(α:Type):=Gx α->Sg->So->Kx α->Kv α->α
noncomputable abbrev TTx(α:Type):=Gx α->Sg->So->Kx α->(Bool->So->α)->α
noncomputable abbrev TAx(α:Type):=Gx α->Sg->So->Kx α->(List U->So->α)->α
noncomputable abbrev TSx(α:Type):=Gx α->Sg->So->Ee α->α
section
variable{α:Type}
def cV(i:Nat):TEx α:=λG σ S _ k=>match nth σ i with
 |some v=>k v S
 |none=>G.fail
def cC(u:U):TEx α:=λ_ _ S _ k=>k u S
def aN:TAx α:=λ_ _ S _ k=>k [] S
def aC(e:TEx α)(r:TAx α):TAx α:=λG σ S x k=>e G σ S x λv S1=>r G σ S1 x λvs S2=>k (v::vs) S2
def cP(p:Pm)(as:TAx α):TEx α:=λG σ S x k=>as G σ S x λvs S1=>G.prim p vs S1 x k
def cT(as:TAx α):TEx α:=λG σ S x k=>as G σ S x λvs S1=>k (.tup vs) S1
def cF(i:Nat)(as:TAx α)(ds:List U):TEx α:=λG σ S x k=>as G σ S x λvs S1=>G.call i (vs++ds) S1 x k
def cM(C m:Str)(i:Nat)(o:TEx α)(as:TAx α)(ds:List U):TEx α:=λG σ S x k=>o G σ S x λv S1=>G.prim (.cls C m) [v] S1 x λw S2=>as G σ S2 x λvs S3=>G.call i (w::(vs++ds)) S3 x k
def cK(C:Str)(i:Nat)(as:TAx α)(ds:List U):TEx α:=λG σ S x k=>as G σ S x λvs S1=>G.prim (.new C) [] S1 x λw S2=>G.call i (w::(vs++ds)) S2 (λ_ _=>G.fail) λr S3=>match r with
 |.non=>k w S3
 |_=>G.fail
def cBM(T:String)(p:Pm)(o:TEx α)(as:TAx α):TEx α:=λG σ S x k=>o G σ S x λv S1=>G.prim (.typ T) [v] S1 x λw S2=>as G σ S2 x λvs S3=>G.prim p (w::vs) S3 x k
def tB(e:TEx α):TTx α:=λG σ S x k=>e G σ S x λv S1=>match v with
 |.bl b=>k b S1
 |_=>G.fail
def tNt(t:TTx α):TTx α:=λG σ S x k=>t G σ S x λb S1=>k (!b) S1
def tAn(t u:TTx α):TTx α:=λG σ S x k=>t G σ S x λb S1=>G.br b (λ_=>u G σ S1 x k) (λ_=>k false S1)
def tOr'(t u:TTx α):TTx α:=λG σ S x k=>t G σ S x λb S1=>G.br b (λ_=>k true S1) (λ_=>u G σ S1 x k)
def cB(t:TTx α):TEx α:=λG σ S x k=>t G σ S x λb S1=>k (.bl b) S1
def cIf(t:TTx α)(a b:TEx α):TEx α:=λG σ S x k=>t G σ S x λc S1=>G.br c (λ_=>a G σ S1 x k) (λ_=>b G σ S1 x k)
def tCh(p q:Pm)(a b c:TEx α):TTx α:=λG σ S x k=>a G σ S x λv S1=>b G σ S1 x λw S2=>G.prim p [v,w] S2 x λr S3=>match r with
 | .bl d=>G.br d (λ_=>c G σ S3 x λz S4=>G.prim q [w,z] S4 x λr2 S5=>match r2 with
  |.bl d2=>k d2 S5
  |_=>G.fail) (λ_=>k false S3)
 |_=>G.fail
noncomputable def forK:List U->(U->Sg->So->(Sg->So->α)->α)->Sg->So->(Sg->So->α)->α
 |[],_,σ,S,k=>k σ S
 |v::vs,b,σ,S,k=>b v σ S λσ1 S1=>forK vs b σ1 S1 k
noncomputable def tgt(is:List Nat)(one:Bool)(G:Gx α)(v:U)(σ:Sg)(k:Sg->α):α:=match one with
 |true=>k (puts σ is [v])
 |false=>match v with
  |.tup vs=>match Nat.beq vs.length is.length with
   |true=>k (puts σ is vs)
   |false=>G.fail
  |_=>G.fail
noncomputable def lcK(G:Gx α)(b:U->So->(Option U->So->α)->α):List U->List U->So->Kv α->α
 |[],ys,S,k=>k (.lst ys) S
 |v::vs,ys,S,k=>b v S λo S1=>match o with
  |some u=>lcK G b vs (ys++[u]) S1 k
  |none=>lcK G b vs ys S1 k
noncomputable def lcB(is:List Nat)(one:Bool)(σ:Sg)(t:Option (TTx α))(e:TEx α)(G:Gx α):U->So->(Option U->So->α)->α:=λw S2 nx=>tgt is one G w σ λσ1=>match t with
 |none=>e G σ1 S2 (λ_ _=>G.fail) λu S3=>nx (some u) S3
 |some t=>t G σ1 S2 (λ_ _=>G.fail) λb S3=>G.br b (λ_=>e G σ1 S3 (λ_ _=>G.fail) λu S4=>nx (some u) S4) (λ_=>nx none S3)
def cL(it:TEx α)(is:List Nat)(one:Bool)(n:Nat)(cs:List Nat)(t:Option (TTx α))(e:TEx α):TEx α:=λG σ S x k=>it G σ S x λv S1=>match v with
 |.tup vs=>G.br (Nat.ble vs.length sizeLine) (λ_=>lcK G (lcB is one (List.replicate n none++cs.map (nth σ)) t e G) vs [] S1 k) (λ_=>G.fail)
 |_=>G.fail
def thwI(m:Bool)(t:TEx α):TEx α:=match m with
 |true=>cP .thw (aC t aN)
 |false=>t
def sN:TSx α:=λ_ σ S E=>E.nx σ S
noncomputable abbrev sqE(E:Ee α)(nx:Sg->So->α):Ee α:={E with nx:=nx}
noncomputable abbrev lpE(E:Ee α)(nx:Sg->So->α):Ee α:={E with nx:=nx,ct:=nx,bk:=E.nx}
def sQ(t u:TSx α):TSx α:=λG σ S E=>t G σ S (sqE E λσ1 S1=>u G σ1 S1 E)
def sA(i:Nat)(e:TEx α):TSx α:=λG σ S E=>e G σ S (λx S1=>E.x x σ S1) λv S1=>E.nx (put σ i v) S1
def sU(is:List Nat)(e:TEx α):TSx α:=λG σ S E=>e G σ S (λx S1=>E.x x σ S1) λv S1=>G.prim (.unp is.length) [v] S1 (λx S1=>E.x x σ S1) λw S2=>match w with
 |.tup vs=>E.nx (puts σ is vs) S2
 |_=>G.fail
def sPr(i j:Nat)(a b:TEx α):TSx α:=λG σ S E=>a G σ S (λx S1=>E.x x σ S1) λv S1=>b G σ S1 (λx S1=>E.x x σ S1) λw S2=>E.nx (put (put σ i v) j w) S2
def sE(e:TEx α):TSx α:=λG σ S E=>e G σ S (λx S1=>E.x x σ S1) λ_ S1=>E.nx σ S1
def sR(e:TEx α):TSx α:=λG σ S E=>e G σ S (λx S1=>E.x x σ S1) E.rt
def sI(t:TTx α)(a b:TSx α):TSx α:=λG σ S E=>t G σ S (λx S1=>E.x x σ S1) λc S1=>G.br c (λ_=>a G σ S1 E) (λ_=>b G σ S1 E)
def sP(p:Pm)(e:TEx α)(os:TAx α):TSx α:=λG σ S E=>e G σ S (λx S1=>E.x x σ S1) λv S1=>os G σ S1 (λx S1=>E.x x σ S1) λws S2=>G.prim p (ws++[v]) S2 (λx S1=>E.x x σ S1) λ_ S3=>E.nx σ S3
def sF(it:TEx α)(is:List Nat)(one:Bool)(b:TSx α):TSx α:=λG σ S E=>it G σ S (λx S1=>E.x x σ S1) λv S1=>match v with
 |.tup vs=>forK vs (λw σ1 S2 nx=>tgt is one G w σ1 λσ2=>b G σ2 S2 (lpE E nx)) σ S1 E.nx
 |_=>G.fail
end
def lst2{α:Type}(a b:TEx α):TAx α:=aC a (aC b aN)
noncomputable def nodupS:List Str->Bool
 |[]=>true
 |x::r=>!(r.any λy=>decide (y=x))&&nodupS r
end Fx
namespace Fx
open PySem PySem.Spec L2
variable{W':Wd}{vs:List V}{v:V}{h:HO}{a:Nat}{l:List (Addr×HO)}{S:So}{x:Kx Prop}{k:Kv Prop}{b:Bool}{q:Unit->Prop}{e it:TEx Prop}{as:TAx Prop}{ds:List U}{C:Str}{t:TTx Prop}{E E':Ee Prop}{nx':Sg->So->Prop}{is:List Nat}
structure Bs where
 K:xFr
 mg:Str->Option Value
 kd:Addr->List (Str×U)->List Str->Prop
 cl:Str->Addr->Prop
structure Wd where
 F:Hp
 μ:List Addr
 pr:List (Addr×HO)
structure Wd.Lf(W W':Wd):Prop where
 f:∀p o,W.F p=some o->W'.F p=some o
 m:∀a p,at? W.μ a=some p->at? W'.μ a=some p
structure Wd.Le(W W':Wd):Prop where
 f:∀p o,W.F p=some o->W'.F p=some o
 m:∀a p,at? W.μ a=some p->at? W'.μ a=some p
 r:W'.pr=W.pr
theorem Wd.Lf.pr{W:Wd}{l:List (Addr×HO)}:W.Lf {W with pr:=l}:=⟨λ_ _ h=>h,λ_ _ h=>h⟩
theorem Wd.Le.lf{W:Wd}(h:W.Le W'):W.Lf W':=⟨h.f,h.m⟩
theorem Wd.Le.refl{W:Wd}:W.Le W:=⟨λ_ _ h=>h,λ_ _ h=>h,rfl⟩
theorem Wd.Le.trans{W W1 W2:Wd}(a:W.Le W1)(b:W1.Le W2):W.Le W2:=⟨λp o h=>b.f p o (a.f p o h),λi p h=>b.m i p (a.m i p h),b.r.trans a.r⟩
variable(B:Bs)
mutual
def Rv(W:Wd):U->V->Prop
 |.non,v=>v=.non
 |.bl b,v=>v=.bl b
 |.int i,v=>v=.int i
 |.str x,v=>v=.str x
 |.tup xs,v=>∃p vs,v=.ref p/\W.F p=some (.tup vs)/\Rvs W xs vs
 |.lst xs,v=>∃p vs,v=.ref p/\W.F p=some (.lst vs)/\Rvs W xs vs
 |.kt xs,v=>∃p vs,v=.ref p/\(∀H,SqT B.K H p vs)/\Rvs W xs vs
 |.kl xs,v=>∃p vs,v=.ref p/\SqL B.K W.F p vs/\Rvs W xs vs
 |.kd kvs no,v=>∃p,v=.ref p/\B.kd p kvs no
 |.ref a,v=>∃p,v=.ref p/\at? W.μ a=some p
 |.ty n,v=>v=.ty n
 |.gl x,v=>∃p,v=.ref p/\B.mg x=some (.ref p)
def Rvs(W:Wd):List U->List V->Prop
 |[],vs=>vs=[]
 |x::xs,vs=>∃v r,vs=v::r/\Rv W x v/\Rvs W xs r
end
variable{B:Bs}
theorem dR{K:xFr}{F F':Hp}{p:Addr}(le:∀p o,F p=some o->F' p=some o)(h:SqL K F p vs):SqL K F' p vs:=by
 rcases h with (h|⟨o,h⟩)|h
 ·exact .inl (.inl (le _ _ h))
 ·exact .inl (.inr ⟨o,le _ _ h⟩)
 ·exact .inr h
mutual
theorem Rv.lf{W W':Wd}(le:W.Lf W'):∀{u:U}{v:V},Rv B W u v->Rv B W' u v
 |.non,_,h=>h
 |.bl _,_,h=>h
 |.int _,_,h=>h
 |.str _,_,h=>h
 |.tup _,_,h=>let ⟨p,vs,e,f,r⟩:=h;⟨p,vs,e,le.f _ _ f,Rvs.lf le r⟩
 |.lst _,_,h=>let ⟨p,vs,e,f,r⟩:=h;⟨p,vs,e,le.f _ _ f,Rvs.lf le r⟩
 |.kt _,_,h=>let ⟨p,vs,e,f,r⟩:=h;⟨p,vs,e,f,Rvs.lf le r⟩
 |.kl _,_,h=>let ⟨p,vs,e,f,r⟩:=h;⟨p,vs,e,dR le.f f,Rvs.lf le r⟩
 |.kd _ _,_,h=>h
 |.ref _,_,h=>let ⟨p,e,f⟩:=h;⟨p,e,le.m _ _ f⟩
 |.ty _,_,h=>h
 |.gl _,_,h=>h
theorem Rvs.lf{W W':Wd}(le:W.Lf W'):∀{us:List U}{vs:List V},Rvs B W us vs->Rvs B W' us vs
 |[],_,h=>h
 |_::_,_,h=>let ⟨v,r,e,h1,h2⟩:=h;⟨v,r,e,Rv.lf le h1,Rvs.lf le h2⟩
end
theorem Rv.mono{W:Wd}(le:W.Le W'){u:U}(h:Rv B W u v):Rv B W' u v:=h.lf le.lf
theorem Rvs.mono{W:Wd}(le:W.Le W'){u:List U}{v:List V}(h:Rvs B W u v):Rvs B W' u v:=h.lf le.lf
theorem Rvs.length{W:Wd}:∀{us:List U}{vs:List V},Rvs B W us vs->vs.length=us.length
 |[],_,h=>by rw[show _=[] from h];rfl
 |_::_,_,h=>by obtain⟨v,r,rfl,_,h2⟩:=h;simp[Rvs.length h2]
theorem Rvs.app{W:Wd}:∀{us ws:List U}{vs zs:List V},Rvs B W us vs->Rvs B W ws zs->Rvs B W (us++ws) (vs++zs)
 |[],_,_,_,h,g=>by rw[show _=[] from h];exact g
 |_::_,_,_,_,h,g=>by obtain⟨v,r,rfl,h1,h2⟩:=h;exact⟨v,r++_,rfl,h1,Rvs.app h2 g⟩
theorem Rvs.one{W:Wd}{u:U}(h:Rv B W u v):Rvs B W [u] [v]:=⟨v,[],rfl,h,rfl⟩
theorem Rvs.get{W:Wd}:∀{us:List U}{vs:List V},Rvs B W us vs->∀{i:Nat}{u:U},us[i]?=some u->∃v,vs[i]?=some v/\Rv B W u v
 |[],_,_,_,_,e=>by simp at e
 |_::_,_,h,0,_,e=>by obtain⟨v,r,rfl,h1,h2⟩:=h;simp at e;subst e;exact⟨v,rfl,h1⟩
 |_::_,_,h,i+1,_,e=>by obtain⟨v,r,rfl,h1,h2⟩:=h;exact Rvs.get h2 (by simpa using e)
theorem Rvs.drop{W:Wd}:∀(n:Nat){us:List U}{vs:List V},Rvs B W us vs->Rvs B W (us.drop n) (vs.drop n)
 |0,_,_,h=>h
 |_+1,[],_,h=>by rw[show _=[] from h];rfl
 |n+1,_::_,_,h=>by obtain⟨v,r,rfl,h1,h2⟩:=h;exact Rvs.drop n h2
theorem Rvs.take{W:Wd}:∀(n:Nat){us:List U}{vs:List V},Rvs B W us vs->Rvs B W (us.take n) (vs.take n)
 |0,_,_,_=>rfl
 |_+1,[],_,h=>by rw[show _=[] from h];rfl
 |n+1,_::_,_,h=>by obtain⟨v,r,rfl,h1,h2⟩:=h;exact⟨v,r.take n,rfl,h1,Rvs.take n h2⟩
theorem Rvs.set{W:Wd}{u:U}{v:V}(g:Rv B W u v):∀{us:List U}{vs:List V}(i:Nat),Rvs B W us vs->Rvs B W (Fx.set us i u) (vs.set i v)
 |[],_,_,h=>by rw[show _=[] from h];rfl
 |_::_,_,0,h=>by obtain⟨v',r,rfl,h1,h2⟩:=h;exact⟨v,r,rfl,g,h2⟩
 |_::_,_,i+1,h=>by obtain⟨v',r,rfl,h1,h2⟩:=h;exact⟨v',_,rfl,h1,Rvs.set g i h2⟩
def Rn{κ:Type}(B:Bs)(W:Wd):List (κ×U)->List (κ×V)->Prop
 |[],vs=>vs=[]
 |x::xs,vs=>∃v r,vs=(x.1,v)::r/\Rv B W x.2 v/\Rn B W xs r
theorem Rn.lf{κ:Type}{W W':Wd}(le:W.Lf W'):∀{us:List (κ×U)}{vs:List (κ×V)},Rn B W us vs->Rn B W' us vs
 |[],_,h=>h
 |_::_,_,h=>let ⟨v,r,e,h1,h2⟩:=h;⟨v,r,e,h1.lf le,Rn.lf le h2⟩
theorem Rn.mono{κ:Type}{W:Wd}(le:W.Le W'){us:List (κ×U)}{vs:List (κ×V)}(h:Rn B W us vs):Rn B W' us vs:=h.lf le.lf
theorem Rn.length{κ:Type}{W:Wd}:∀{us:List (κ×U)}{vs:List (κ×V)},Rn B W us vs->vs.length=us.length
 |[],_,h=>by rw[show _=[] from h];rfl
 |_::_,_,h=>by obtain⟨v,r,rfl,_,h2⟩:=h;simp[Rn.length h2]
def Ro(B:Bs)(W:Wd):Ob->HO->Prop
 |.lst xs,o=>∃vs,o=.lst vs/\Rvs B W xs vs
 |.dct kvs,o=>∃vs,o=.dK vs/\Rn B W kvs vs
 |.dtt kvs,o=>∃vs,o=.dT vs/\Rn B W kvs vs
 |.ins C fs,o=>∃c dx vs,B.cl C c/\o=.ins c dx vs/\Rn B W fs vs
 |.dead,o=>∃vs,o=.lst vs
theorem Ro.lf{W W':Wd}(le:W.Lf W'):∀{o:Ob}{h:HO},Ro B W o h->Ro B W' o h
 |.lst _,_,h=>let ⟨vs,e,r⟩:=h;⟨vs,e,r.lf le⟩
 |.dct _,_,h=>let ⟨vs,e,r⟩:=h;⟨vs,e,r.lf le⟩
 |.dtt _,_,h=>let ⟨vs,e,r⟩:=h;⟨vs,e,r.lf le⟩
 |.ins _ _,_,h=>let ⟨c,dx,vs,m,e,r⟩:=h;⟨c,dx,vs,m,e,r.lf le⟩
 |.dead,_,h=>h
theorem Ro.mono{W:Wd}(le:W.Le W'){o:Ob}(r:Ro B W o h):Ro B W' o h:=r.lf le.lf
structure RS(B:Bs)(W:Wd)(S:So)(H:Hp):Prop where
 fz:∀p o,W.F p=some o->H p=some o
 len:W.μ.length=S.length
 nd:∀a b p,at? W.μ a=some p->at? W.μ b=some p->a=b
 ob:∀a p,at? W.μ a=some p->∃o h,at? S a=some o/\H p=some h/\Ro B W o h/\(o=.dead\/W.F p=none)
 pf:∀q∈W.pr,H q.1=some q.2/\W.F q.1=none/\(∀a,at? W.μ a≠some q.1)/\∀vs,q.2≠.tup vs
section
variable{α:Type}
theorem lD:∀{l:List α}{i:Nat}{v:α},at? l i=some v->i<l.length
 |_::_,0,_,_=>by simp
 |_::r,i+1,v,h=>by have:=lD (l:=r) (i:=i) h;simp;lia
theorem jg:∀{l:List α}{i:Nat},i<l.length->∃v,at? l i=some v
 |v::_,0,_=>⟨v,rfl⟩
 |_::r,i+1,h=>jg (l:=r) (i:=i) (by simpa using h)
theorem cQ:∀{l r:List α}{i:Nat}{v:α},at? l i=some v->at? (l++r) i=some v
 |_::_,_,0,_,h=>h
 |_::l,r,i+1,v,h=>cQ (l:=l) (r:=r) (i:=i) h
theorem fZ:∀{l:List α}{v:α},at? (l++[v]) l.length=some v
 |[],_=>rfl
 |_::l,v=>fZ (l:=l) (v:=v)
theorem cX:∀{l:List α}{v w:α}{i:Nat},at? (l++[v]) i=some w->at? l i=some w\/(i=l.length/\w=v)
 |[],v,w,0,h=>.inr ⟨rfl,(xB3 h).symm⟩
 |[],_,_,_+1,h=>by cases h
 |_::_,_,_,0,h=>.inl h
 |_::l,v,w,i+1,h=>by
  rcases cX (l:=l) (v:=v) (w:=w) (i:=i) h with z|⟨z,e⟩
  ·exact .inl z
  ·exact .inr ⟨by simp[z],e⟩
theorem gC:∀{l:List α}{i:Nat}{v:α},(set l i v).length=l.length
 |[],_,_=>rfl
 |_::_,0,_=>rfl
 |_::r,i+1,v=>by show(set r i v).length+1=r.length+1;rw[gC]
theorem jQ:∀{l:List α}{i:Nat}{v:α},i<l.length->at? (set l i v) i=some v
 |_::_,0,_,_=>rfl
 |_::r,i+1,v,h=>jQ (l:=r) (i:=i) (by simpa using h)
theorem eR:∀{l:List α}{i j:Nat}{v:α},i≠j->at? (set l i v) j=at? l j
 |[],_,_,_,_=>rfl
 |_::_,0,0,_,h=>absurd rfl h
 |_::_,0,_+1,_,_=>rfl
 |_::_,_+1,0,_,_=>rfl
 |_::r,i+1,j+1,v,h=>eR (l:=r) (i:=i) (j:=j) (by lia)
end
section
variable{W:Wd}{S:So}{H H':Hp}{p:Addr}
theorem RS.here(r:RS B W S H){o:Ob}(e:at? S a=some o):∃p h,at? W.μ a=some p/\H p=some h/\Ro B W o h/\(o=.dead\/W.F p=none):=by
 have hl:=lD e;obtain⟨p,hp⟩:=jg (l:=W.μ) (i:=a) (by rw[r.len];exact hl);obtain⟨o',h,e',hh,ro,q⟩:=r.ob a p hp;rw[e] at e';cases e';exact⟨p,h,hp,hh,ro,q⟩
theorem RS.same(r:RS B W S H)(s:Same H H'):RS B W S H':=
 ⟨λp o h=>s _ _ (r.fz p o h),r.len,r.nd,λa p h=>let ⟨o,g,e,hh,ro,q⟩:=r.ob a p h;⟨o,g,e,s _ _ hh,ro,q⟩,λq hq=>⟨s _ _ (r.pf q hq).1,(r.pf q hq).2⟩⟩
theorem RS.add{o:HO}(r:RS B W S H)(e:H p=some o)(hm:∀a,at? W.μ a≠some p)(hp:∀q∈W.pr,q.1≠p):W.Le {W with F:=upd W.F p o}/\RS B {W with F:=upd W.F p o} S H:=by
 have le:W.Le { W with F:=upd W.F p o }:=⟨λb o' h=>by
  by_cases z:b=p
  ·subst z;rw[r.fz _ _ h] at e;cases e;exact bt
  ·show upd W.F p o b=_;rw[bq z];exact h,λ_ _ h=>h,rfl⟩
 refine⟨le,⟨λb o' h=>?_,r.len,r.nd,λa b h=>?_,λq hq=>?_⟩⟩
 ·by_cases z:b=p
  ·subst z;have:some o=some o':=by rw[<- h];exact bt.symm
   cases this;exact e
  ·exact r.fz b o' (by rw[<- h];exact(bq z).symm)
 ·obtain⟨o',g,e',hh,ro,q⟩:=r.ob a b h;refine⟨o',g,e',hh,ro.mono le,q.imp id λz=>?_⟩;show upd W.F p o b=none;rw[bq λz'=>hm a (by rw[<- z'];exact h)];exact z
 ·obtain⟨h1,h2,h3⟩:=r.pf q hq;exact⟨h1,by show upd W.F p o q.1=none;rw[bq (hp q hq)];exact h2,h3⟩
theorem RS.addT(r:RS B W S H)(e:H p=some (.tup vs)):W.Le {W with F:=upd W.F p (.tup vs)}/\RS B {W with F:=upd W.F p (.tup vs)} S H:=by
 by_cases z:W.F p=some (.tup vs)
 ·have:upd W.F p (.tup vs)=W.F:=by
   funext b
   by_cases y:b=p
   ·rw[y,bt,z]
   ·rw[bq y]
  rw[this];exact⟨.refl,r⟩
 ·refine r.add e (λa h=>?_) λq hq z=>?_
  ·obtain⟨o,g,e',hh,ro,q⟩:=r.ob a p h;rw[e] at hh;cases hh;cases o with
   |lst _=>obtain⟨_,z,_⟩:=ro;cases z
   |dct _=>obtain⟨_,z,_⟩:=ro;cases z
   |dtt _=>obtain⟨_,z,_⟩:=ro;cases z
   |ins _ _=>obtain⟨_,_,_,_,z,_⟩:=ro;cases z
   |dead=>obtain⟨_,z⟩:=ro;cases z
  ·rw[<- z,(r.pf q hq).1] at e;exact(r.pf q hq).2.2.2 vs (xB3 e)
theorem RS.fresh{o:HO}(r:RS B W S H)(e:H p=none):W.Le {W with F:=upd W.F p o}/\RS B {W with F:=upd W.F p o} S (upd H p o):=by
 refine(r.same (cY e o)).add bt (λa h=>?_) λq hq z=>?_
 ·obtain⟨_,g,_,hh,_⟩:=r.ob a p h;rw[e] at hh;cases hh
 ·rw[<- z,(r.pf q hq).1] at e;cases e
theorem RS.push{o:Ob}(r:RS B W S H)(e:H p=none)(ro:Ro B {W with μ:=W.μ++[p]} o h):W.Le {W with μ:=W.μ++[p]}/\RS B {W with μ:=W.μ++[p]} (S++[o]) (upd H p h)/\at? (W.μ++[p]) S.length=some p:=by
 have le:W.Le {W with μ:=W.μ++[p]}:=⟨λ_ _ h=>h,λa b h=>cQ h,rfl⟩
 have nm:∀a,at? W.μ a≠some p:=λa z=>by
  obtain⟨_,g,_,hh,_⟩:=r.ob a p z;rw[e] at hh;cases hh
 have hF:W.F p=none:=by
  cases z:W.F p with
  |none=>rfl
  |some o'=>rw[r.fz _ _ z] at e;cases e
 have sm:=cY e h;refine⟨le,⟨λb o' z=>sm _ _ (r.fz b o' z),by simp[r.len],λa b q h1 h2=>?_,λa q h1=>?_,λq hq=>?_⟩,by rw[<- r.len];exact fZ⟩
 ·rcases cX h1 with z1|⟨z1,e1⟩ <;> rcases cX h2 with z2|⟨z2,e2⟩
  ·exact r.nd a b q z1 z2
  ·exact absurd (e2▸z1) (nm a)
  ·exact absurd (e1▸z2) (nm b)
  ·rw[z1,z2]
 ·rcases cX h1 with z1|⟨z1,e1⟩
  ·obtain⟨o',g,e',hh,ro',q'⟩:=r.ob a q z1;exact⟨o',g,cQ e',sm _ _ hh,ro'.mono le,q'⟩
  ·subst e1;exact⟨o,h,by rw[z1,r.len];exact fZ,bt,ro,.inr hF⟩
 ·obtain⟨h1,h2,h3⟩:=r.pf q hq;refine⟨sm _ _ h1,h2,λa z=>?_,h3.2⟩;rcases cX z with z1|⟨_,e1⟩
  ·exact h3.1 a z1
  ·rw[e1,e] at h1;cases h1
theorem RS.mut{o o':Ob}(r:RS B W S H)(ea:at? W.μ a=some p)(e:at? S a=some o)(nd:o≠.dead)(ro:Ro B W o' h):RS B W (set S a o') (upd H p h):=by
 have hF:W.F p=none:=by
  obtain⟨o2,g,e2,_,_,q⟩:=r.ob a p ea;rw[e] at e2;cases e2;exact q.resolve_left nd
 refine⟨λb o2 z=>?_,by rw[gC];exact r.len,r.nd,λb q h1=>?_,λq hq=>?_⟩
 ·rw[bq λy=>by rw[y,hF] at z;cases z];exact r.fz b o2 z
 ·by_cases y:a=b
  ·subst y;rw[ea] at h1;cases h1;exact⟨o',h,jQ (lD e),bt,ro,.inr hF⟩
  ·obtain⟨o2,g,e2,hh,ro2,q2⟩:=r.ob b q h1;exact⟨o2,g,by rw[eR y];exact e2,by rw[bq λz=>y (r.nd a b p ea (by rw[<- z];exact h1))];exact hh,ro2,q2⟩
 ·obtain⟨h1,h2,h3⟩:=r.pf q hq;exact⟨by rw[bq λz=>h3.1 a (by rw[z];exact ea)];exact h1,h2,h3⟩
theorem RS.freeze{xs:List U}(r:RS B W S H)(e:at? S a=some (.lst xs))(ea:at? W.μ a=some p):∃W',W.Le W'/\RS B W' (set S a .dead) H/\Rv B W' (.lst xs) (.ref p):=by
 obtain⟨o,g,e2,hh,ro,q⟩:=r.ob a p ea;rw[e] at e2;cases e2;obtain⟨vs,rfl,rvs⟩:=ro;have hF:W.F p=none:=q.resolve_left (by intro z;cases z);have le:W.Le { W with F:=upd W.F p (.lst vs) }:=⟨λb o' h=>by
  show upd W.F p _ b=_;rw[bq λy=>by rw[y,hF] at h;cases h];exact h,λ_ _ h=>h,rfl⟩
 refine⟨_,le,⟨λb o' h=>?_,by rw[gC];exact r.len,r.nd,λb q h1=>?_,λq hq=>?_⟩,p,vs,rfl,bt,rvs.mono le⟩
 ·by_cases z:b=p
  ·subst z;have:some (HO.lst vs)=some o':=by rw[<- h];exact bt.symm
   cases this;exact hh
  ·exact r.fz b o' (by rw[<- h];exact(bq z).symm)
 ·by_cases y:a=b
  ·subst y;rw[ea] at h1;cases h1;exact⟨.dead,_,jQ (lD e),hh,⟨vs,rfl⟩,.inl rfl⟩
  ·obtain⟨o2,g,e2,hh2,ro2,q2⟩:=r.ob b q h1;refine⟨o2,g,by rw[eR y];exact e2,hh2,ro2.mono le,q2.imp id λz=>?_⟩;show upd W.F p _ q=none;rw[bq λz=>y (r.nd a b p ea (by rw[<- z];exact h1))];exact z
 ·obtain⟨h1,h2,h3⟩:=r.pf q hq;refine⟨h1,?_,h3⟩;show upd W.F p _ q.1=none;rw[bq λz=>h3.1 a (by rw[z];exact ea)];exact h2
theorem RS.hold{o:HO}(r:RS B W S H)(e:H p=none)(ht:∀vs,o≠.tup vs):RS B {W with pr:=(p,o)::W.pr} S (upd H p o):=by
 have sm:=cY e o;have r':=r.same sm;refine⟨r'.fz,r'.len,r'.nd,λa q h=>let ⟨o',g,e',hh,ro,q'⟩:=r'.ob a q h;⟨o',g,e',hh,ro.lf (Wd.Lf.pr),q'⟩,λq hq=>?_⟩;rcases xAv.mp hq with rfl|hq
 ·refine⟨bt,?_,λa z=>?_,ht⟩
  ·cases z:W.F p with
   |none=>rfl
   |some o'=>rw[r.fz _ _ z] at e;cases e
  ·obtain⟨_,g,_,hh,_⟩:=r.ob a p z;rw[e] at hh;cases hh
 ·exact r'.pf q hq
theorem RS.held{o o':HO}(r:RS B W S H)(hw:W.pr=(p,o)::l)(ht:∀vs,o'≠.tup vs)(hl:∀q∈l,q.1≠p):RS B {W with pr:=(p,o')::l} S (upd H p o'):=by
 obtain⟨h1,h2,h3,_⟩:=r.pf (p,o) (by rw[hw];exact xAr);refine⟨λb u z=>?_,r.len,r.nd,λa q h=>?_,λq hq=>?_⟩
 ·rw[bq λy=>by rw[y,h2] at z;cases z];exact r.fz b u z
 ·obtain⟨o2,g,e',hh,ro,q'⟩:=r.ob a q h;exact⟨o2,g,e',by rw[bq λy=>h3 a (by rw[<- y];exact h)];exact hh,ro.lf (Wd.Lf.pr),q'⟩
 ·rcases xAv.mp hq with rfl|hq
  ·exact⟨bt,h2,h3,ht⟩
  ·obtain⟨k1,k2⟩:=r.pf q (by rw[hw];exact xAs _ hq);exact⟨by rw[bq (hl q hq)];exact k1,k2⟩
theorem RS.heldF{o:HO}(r:RS B W S H)(hw:W.pr=(p,o)::l)(hl:∀q∈l,q.1≠p):RS B {W with pr:=l,F:=upd W.F p o} S H:=by
 obtain⟨h1,h2,h3,_⟩:=r.pf (p,o) (by rw[hw];exact xAr);have lf:W.Lf {W with pr:=l,F:=upd W.F p o}:=⟨λb u z=>by show upd W.F p o b=_;rw[bq λy=>by rw[y,h2] at z;cases z];exact z,λ_ _ h=>h⟩
 refine⟨λb u z=>?_,r.len,r.nd,λa q h=>?_,λq hq=>?_⟩
 ·by_cases y:b=p
  ·subst y;have:some o=some u:=by rw[<- z];exact bt.symm
   cases this;exact h1
  ·exact r.fz b u (by rw[<- z];exact(bq y).symm)
 ·obtain⟨o2,g,e',hh,ro,q'⟩:=r.ob a q h;exact⟨o2,g,e',hh,ro.lf lf,q'.imp id λz=>by show upd W.F p o q=none;rw[bq λy=>h3 a (by rw[<- y];exact h)];exact z⟩
 ·obtain⟨k1,k2,k3⟩:=r.pf q (by rw[hw];exact xAs _ hq);exact⟨k1,by show upd W.F p o q.1=none;rw[bq (hl q hq)];exact k2,k3⟩
theorem RS.heldS{o:HO}{b:Ob}(r:RS B W S H)(hw:W.pr=(p,o)::l)(hl:∀q∈l,q.1≠p)(ro:Ro B {W with pr:=l,μ:=W.μ++[p]} b h):RS B {W with pr:=l,μ:=W.μ++[p]} (S++[b]) (upd H p h)/\at? (W.μ++[p]) S.length=some p:=by
 obtain⟨h1,h2,h3,_⟩:=r.pf (p,o) (by rw[hw];exact xAr);have lf:W.Lf {W with pr:=l,μ:=W.μ++[p]}:=⟨λ_ _ h=>h,λ_ _ h=>cQ h⟩
 refine⟨⟨λc u z=>?_,by simp[r.len],λa c q y1 y2=>?_,λa q y1=>?_,λq hq=>?_⟩,by rw[<- r.len];exact fZ⟩
 ·rw[bq λy=>by rw[y,h2] at z;cases z];exact r.fz c u z
 ·rcases cX y1 with z1|⟨z1,e1⟩ <;> rcases cX y2 with z2|⟨z2,e2⟩
  ·exact r.nd a c q z1 z2
  ·exact absurd (e2▸z1) (h3 a)
  ·exact absurd (e1▸z2) (h3 c)
  ·rw[z1,z2]
 ·rcases cX y1 with z1|⟨z1,e1⟩
  ·obtain⟨o',g,e',hh,ro',q'⟩:=r.ob a q z1;exact⟨o',g,cQ e',by rw[bq λy=>h3 a (by rw[<- y];exact z1)];exact hh,ro'.lf lf,q'⟩
  ·subst e1;exact⟨b,h,by rw[z1,r.len];exact fZ,bt,ro,.inr h2⟩
 ·obtain⟨k1,k2,k3,k4⟩:=r.pf q (by rw[hw];exact xAs _ hq);refine⟨by rw[bq (hl q hq)];exact k1,k2,λa z=>?_,k4⟩;rcases cX z with z1|⟨_,e1⟩
  ·exact k3 a z1
  ·exact hl q hq e1
end
structure Rg(B:Bs)(W:Wd)(σ:Sg)(τ:St):Prop where
 l:τ.length=σ.length
 v:∀i v,nth σ i=some v->∃u,τ[i]?=some (some u)/\Rv B W v u
theorem Rg.mono{W W':Wd}{σ:Sg}{τ:St}(r:Rg B W σ τ)(le:W.Le W'):Rg B W' σ τ:=⟨r.l,λi v h=>let ⟨u,e,q⟩:=r.v i v h;⟨u,e,q.mono le⟩⟩
theorem fg:∀{σ:Sg}{i:Nat}{v:U},(put σ i v).length=σ.length
 |[],_,_=>rfl
 |_::_,0,_=>rfl
 |_::r,i+1,v=>by show(put r i v).length+1=r.length+1;rw[fg]
theorem kr:∀{σ:Sg}{i j:Nat}{v w:U},nth (put σ i v) j=some w->(i=j/\w=v/\i<σ.length)\/(i≠j/\nth σ j=some w)
 |[],_,_,_,_,h=>by cases h
 |_::_,0,0,_,_,h=>.inl ⟨rfl,(xB3 h).symm,by simp⟩
 |_::_,0,_+1,_,_,h=>.inr ⟨by lia,h⟩
 |_::_,_+1,0,_,_,h=>.inr ⟨by lia,h⟩
 |_::r,i+1,j+1,v,w,h=>by
  rcases kr (σ:=r) (i:=i) (j:=j) h with ⟨a,b,c⟩|⟨a,b⟩
  ·exact .inl ⟨by lia,b,by simp;lia⟩
  ·exact .inr ⟨by lia,b⟩
theorem Rg.put{W:Wd}{σ:Sg}{τ:St}{i:Nat}{v:U}{u:V}(r:Rg B W σ τ)(q:Rv B W v u):Rg B W (put σ i v) (τ.set i (some u)):=by
 refine⟨by rw[List.length_set,fg];exact r.l,λj w h=>?_⟩;rcases kr h with ⟨rfl,rfl,hl⟩|⟨a,b⟩
 ·exact⟨u,by rw[List.getElem?_set_self (by rw[r.l];exact hl)],q⟩
 ·obtain⟨u',e,q'⟩:=r.v j w b;exact⟨u',by rw[List.getElem?_set_ne a];exact e,q'⟩
structure RX(B:Bs)(W:Wd)(x:Xc)(S:So)(C:Value)(dx:Option Addr)(H:Hp):Prop where
 s:RS B W S H
 c:∃c,B.mg x.cls=some (.ref c)/\C=.ref c
 f:(x.fs=[]/\dx=none)\/∃d vs,dx=some d/\H d=some (.xd vs)/\Rn B W x.fs vs
def XL(B:Bs)(W:Wd)(E:XK):Kx Prop:=λx S=>∀W' C dx H,W.Le W'->RX B W' x S C dx H->E C dx H
theorem XL.up{W W':Wd}{E:XK}{x:Xc}{S:So}(le:W.Le W')(h:XL B W E x S):XL B W' E x S:=λW2 C dx H le2=>h W2 C dx H (le.trans le2)
def VL(B:Bs)(W:Wd)(Q:VK):Kv Prop:=λv S=>∀W' u H,W.Le W'->RS B W' S H->Rv B W' v u->Q u H
def AL(B:Bs)(W:Wd)(Q:List V->Hp->Prop):List U->So->Prop:=λv S=>∀W' u H,W.Le W'->RS B W' S H->Rvs B W' v u->Q u H
def BL(B:Bs)(W:Wd)(Q:Bool->Hp->Prop):Bool->So->Prop:=λb S=>∀W' H,W.Le W'->RS B W' S H->Q b H
def NL(B:Bs)(W:Wd)(Q:St->Hp->Prop):Sg->So->Prop:=λσ S=>∀W' τ H,W.Le W'->RS B W' S H->Rg B W' σ τ->Q τ H
section
variable(B)(G:Gx Prop)(Ex:St->XK)
def LE(c:TEx Prop):TE:=λτ H Q=>∃W σ S,RS B W S H/\Rg B W σ τ/\c G σ S (XL B W (Ex τ)) (VL B W Q)
def LA(c:TAx Prop):TA:=λτ H Q=>∃W σ S,RS B W S H/\Rg B W σ τ/\c G σ S (XL B W (Ex τ)) (AL B W Q)
def LT(c:TTx Prop):TT:=λτ H Q=>∃W σ S,RS B W S H/\Rg B W σ τ/\c G σ S (XL B W (Ex τ)) (BL B W Q)
def LEe(W:Wd)(D:Ends):Ee Prop where
 nx:=NL B W D.nx
 rt:=VL B W D.rt
 bk:=NL B W D.bk
 ct:=NL B W D.ct
 x:=λx σ S=>∀W' τ C dx H,W.Le W'->RX B W' x S C dx H->Rg B W' σ τ->Ex τ C dx H
def LS(c:TSx Prop):TS:=λD τ H=>∃W σ S,RS B W S H/\Rg B W σ τ/\c G σ S (LEe B Ex W D)
end
structure MonE(G:Gx Prop)(c:TEx Prop):Prop where
 m:∀{σ S}{x x':Kx Prop}{k k':Kv Prop},(∀e S,x e S->x' e S)->(∀v S,k v S->k' v S)->c G σ S x k->c G σ S x' k'
structure MonA(G:Gx Prop)(c:TAx Prop)(n:Nat):Prop where
 m:∀{σ S}{x x':Kx Prop}{k k':List U->So->Prop},(∀e S,x e S->x' e S)->(∀v S,v.length=n->k v S->k' v S)->c G σ S x k->c G σ S x' k'
structure MonT(G:Gx Prop)(c:TTx Prop):Prop where
 m:∀{σ S}{x x':Kx Prop}{k k':Bool->So->Prop},(∀e S,x e S->x' e S)->(∀v S,k v S->k' v S)->c G σ S x k->c G σ S x' k'
structure EeLe(E E':Ee Prop):Prop where
 nx:∀σ S,E.nx σ S->E'.nx σ S
 rt:∀v S,E.rt v S->E'.rt v S
 bk:∀σ S,E.bk σ S->E'.bk σ S
 ct:∀σ S,E.ct σ S->E'.ct σ S
 x:∀e σ S,E.x e σ S->E'.x e σ S
structure MonS(G:Gx Prop)(c:TSx Prop):Prop where
 m:∀{σ S}{E E':Ee Prop},EeLe E E'->c G σ S E->c G σ S E'
structure Box(p:Prop):Prop where
 h:p
def prP(up:List (Str×Str))(p:Pm)(vs:List U)(S:So)(k:Kv Prop):Prop:=match pr up p vs S with
 |.ok v S1=>k v S1
 |.stuck=>False
structure MonG(up:List (Str×Str))(G:Gx Prop):Prop where
 fail:G.fail=False
 prim:∀p vs S x k,G.prim p vs S x k=Box (prP up p vs S k)
 br:∀b p q,G.br b p q=Box (if b=true then p () else q ())
 call:∀{i vs S}{x x':Kx Prop}{k k':Kv Prop},(∀e S,x e S->x' e S)->(∀v S,k v S->k' v S)->G.call i vs S x k->G.call i vs S x' k'
section
variable{up:List (Str×Str)}{G:Gx Prop}(g:MonG up G)
include g
theorem MonG.pm{p:Pm}{vs:List U}{x':Kx Prop}{k':Kv Prop}(hk:∀v S,k v S->k' v S)(h:G.prim p vs S x k):G.prim p vs S x' k':=by
 rw[g.prim] at h⊢;obtain⟨h⟩:=h;refine⟨?_⟩;unfold prP at h⊢;cases e:pr up p vs S with
 |ok v S1=>rw[e] at h;exact hk _ _ h
 |stuck=>rw[e] at h;exact h
theorem MonG.pok{p:Pm}{vs:List U}(h:G.prim p vs S x k):∃v S1,pr up p vs S=.ok v S1/\k v S1:=by
 rw[g.prim] at h;obtain⟨h⟩:=h;unfold prP at h;cases e:pr up p vs S with
 |ok v S1=>rw[e] at h;exact⟨v,S1,rfl,h⟩
 |stuck=>rw[e] at h;exact h.elim
theorem MonG.bm{p p' q':Unit->Prop}(hp:p ()->p' ())(hq:q ()->q' ())(h:G.br b p q):G.br b p' q':=by
 rw[g.br] at h⊢;obtain⟨h⟩:=h;refine⟨?_⟩;cases b
 ·exact hq h
 ·exact hp h
theorem MonG.bk{p:Unit->Prop}(h:G.br b p q):if b=true then p () else q ():=by
 rw[g.br] at h;exact h.h
theorem MonG.no(h:G.fail):False:=by rw[g.fail] at h;exact h
theorem mV{i:Nat}:MonE G (cV i):=⟨λhx hk h=>by
 unfold cV at h⊢;split at h
 ·exact hk _ _ h
 ·exact h⟩
theorem mC{u:U}:MonE G (cC u):=⟨λhx hk h=>hk _ _ h⟩
theorem mAN:MonA G aN 0:=⟨λhx hk h=>hk _ _ rfl h⟩
theorem mAC{r:TAx Prop}{n:Nat}(a:MonE G e)(b:MonA G r n):MonA G (aC e r) (n+1):=⟨λhx hk h=>a.m hx (λv S1=>b.m hx λvs S2 hl=>hk _ _ (by simp[hl])) h⟩
theorem mP{p:Pm}{n:Nat}(a:MonA G as n):MonE G (cP p as):=⟨λhx hk h=>a.m hx (λvs S1 _ h1=>g.pm hk h1) h⟩
theorem mT{n:Nat}(a:MonA G as n):MonE G (cT as):=⟨λhx hk h=>a.m hx (λvs S1 _ h1=>hk _ _ h1) h⟩
theorem mF{i:Nat}{n:Nat}(a:MonA G as n):MonE G (cF i as ds):=⟨λhx hk h=>a.m hx (λvs S1 _ h1=>g.call hx hk h1) h⟩
theorem mM{m:Str}{i:Nat}{o:TEx Prop}{n:Nat}(b:MonE G o)(a:MonA G as n):MonE G (cM C m i o as ds):=⟨λhx hk h=>b.m hx (λv S1 h1=>g.pm (λw S2 h2=>a.m hx (λvs S3 _ h3=>g.call hx hk h3) h2) h1) h⟩
theorem mK{i:Nat}{n:Nat}(a:MonA G as n):MonE G (cK C i as ds):=⟨λhx hk h=>a.m hx (λvs S1 _ h1=>g.pm (λw S2 h2=>g.call (λ_ _ h=>h) (λr S3 h3=>by cases r <;> first|exact hk _ _ h3|exact h3) h2) h1) h⟩
theorem mBM{T:String}{p:Pm}{o:TEx Prop}{n:Nat}(b:MonE G o)(a:MonA G as n):MonE G (cBM T p o as):=⟨λhx hk h=>b.m hx (λv S1 h1=>g.pm (λw S2 h2=>a.m hx (λvs S3 _ h3=>g.pm hk h3) h2) h1) h⟩
theorem mB(a:MonE G e):MonT G (tB e):=⟨λhx hk h=>a.m hx (λv S1 h1=>by cases v <;> first|exact hk _ _ h1|exact h1) h⟩
theorem mNt(a:MonT G t):MonT G (tNt t):=⟨λhx hk h=>a.m hx (λv S1 h1=>hk _ _ h1) h⟩
theorem mAn{u:TTx Prop}(a:MonT G t)(b:MonT G u):MonT G (tAn t u):=⟨λhx hk h=>a.m hx (λv S1 h1=>g.bm (b.m hx hk) (hk _ _) h1) h⟩
theorem mOr{u:TTx Prop}(a:MonT G t)(b:MonT G u):MonT G (tOr' t u):=⟨λhx hk h=>a.m hx (λv S1 h1=>g.bm (hk _ _) (b.m hx hk) h1) h⟩
theorem mCB(a:MonT G t):MonE G (cB t):=⟨λhx hk h=>a.m hx (λv S1 h1=>hk _ _ h1) h⟩
theorem mIf{f:TEx Prop}(a:MonT G t)(b:MonE G e)(c:MonE G f):MonE G (cIf t e f):=⟨λhx hk h=>a.m hx (λv S1 h1=>g.bm (b.m hx hk) (c.m hx hk) h1) h⟩
theorem mCh{p q:Pm}{a b c:TEx Prop}(ha:MonE G a)(hb:MonE G b)(hc:MonE G c):MonT G (tCh p q a b c):=⟨λhx hk h=>ha.m hx (λv S1=>hb.m hx λw S2=>g.pm λr S3 h3=>by
 cases r <;> first|exact h3|exact g.bm (hc.m hx λz S4=>g.pm λr2 S5 h5=>by cases r2 <;> first|exact hk _ _ h5|exact h5) (hk _ _) h3) h⟩
theorem mN:MonS G sN:=⟨λl h=>l.nx _ _ h⟩
omit g in
theorem EeLe.sq{nx:Sg->So->Prop}(l:EeLe E E')(h:∀σ S,nx σ S->nx' σ S):EeLe (sqE E nx) (sqE E' nx'):=⟨h,l.rt,l.bk,l.ct,l.x⟩
omit g in
theorem EeLe.lp{nx:Sg->So->Prop}(l:EeLe E E')(h:∀σ S,nx σ S->nx' σ S):EeLe (lpE E nx) (lpE E' nx'):=⟨h,l.rt,l.nx,h,l.x⟩
theorem mQ{t u:TSx Prop}(a:MonS G t)(b:MonS G u):MonS G (sQ t u):=⟨λl h=>a.m (l.sq λ_ _=>b.m l) h⟩
theorem mA{i:Nat}(a:MonE G e):MonS G (sA i e):=⟨λl h=>a.m (λ_ _=>l.x _ _ _) (λ_ _=>l.nx _ _) h⟩
theorem mU(a:MonE G e):MonS G (sU is e):=⟨λl h=>a.m (λ_ _=>l.x _ _ _) (λ_ _=>g.pm λw S h=>by cases w <;> first|exact l.nx _ _ h|exact h) h⟩
theorem mSE(a:MonE G e):MonS G (sE e):=⟨λl h=>a.m (λ_ _=>l.x _ _ _) (λ_ _=>l.nx _ _) h⟩
theorem mR(a:MonE G e):MonS G (sR e):=⟨λl h=>a.m (λ_ _=>l.x _ _ _) (λ_ _=>l.rt _ _) h⟩
theorem mI{u v:TSx Prop}(a:MonT G t)(b:MonS G u)(c:MonS G v):MonS G (sI t u v):=⟨λl h=>a.m (λ_ _=>l.x _ _ _) (λ_ _=>g.bm (b.m l) (c.m l)) h⟩
theorem mSP{p:Pm}{os:TAx Prop}{n:Nat}(a:MonE G e)(b:MonA G os n):MonS G (sP p e os):=⟨λl h=>a.m (λ_ _=>l.x _ _ _) (λ_ _=>b.m (λ_ _=>l.x _ _ _) λ_ _ _=>g.pm λ_ _=>l.nx _ _) h⟩
theorem mTgt{one:Bool}{v:U}{σ:Sg}{k k':Sg->Prop}(hk:∀σ,k σ->k' σ)(h:tgt is one G v σ k):tgt is one G v σ k':=by
 unfold tgt at h⊢;cases one with
 |true=>exact hk _ h
 |false=>cases v with
  |tup vs=>
   dsimp only at h⊢;cases e:Nat.beq vs.length is.length with
   |true=>rw[e] at h;exact hk _ h
   |false=>rw[e] at h;exact(g.no h).elim
  |_=>exact(g.no h).elim
omit g in
theorem mFor{b b':U->Sg->So->(Sg->So->Prop)->Prop}(hb:∀v σ S k k',(∀σ S,k σ S->k' σ S)->b v σ S k->b' v σ S k'):∀{vs:List U}{σ:Sg}{S:So}{k k':Sg->So->Prop},(∀σ S,k σ S->k' σ S)->forK vs b σ S k->forK vs b' σ S k'
 |[],_,_,_,_,hk,h=>hk _ _ h
 |v::vs,_,_,_,_,hk,h=>hb _ _ _ _ _ (λ_ _ z=>mFor hb hk z) h
theorem mSF{one:Bool}{b:TSx Prop}(a:MonE G it)(hb:MonS G b):MonS G (sF it is one b):=⟨λl h=>a.m (λ_ _=>l.x _ _ _) (λv S1 h1=>by
 cases v <;> first|exact h1|(dsimp only at h1⊢;refine mFor ?_ l.nx h1;exact λ_ _ _ _ _ hk=>mTgt g λ_=>hb.m (l.lp hk))) h⟩
omit g in
theorem mLc{b b':U->So->(Option U->So->Prop)->Prop}(hb:∀v S k k',(∀o S,k o S->k' o S)->b v S k->b' v S k'):∀{vs ys:List U}{S:So}{k k':Kv Prop},(∀v S,k v S->k' v S)->lcK G b vs ys S k->lcK G b' vs ys S k'
 |[],_,_,_,_,hk,h=>hk _ _ h
 | v::vs,_,_,_,_,hk,h=>hb _ _ _ _ (λo S h2=>match o,h2 with
  |some _,h2=>mLc hb hk h2
  |none,h2=>mLc hb hk h2) h
theorem mL{one:Bool}{n:Nat}{cs:List Nat}{t:Option (TTx Prop)}(a:MonE G it)(hb:∀u,t=some u->MonT G u)(he:MonE G e):MonE G (cL it is one n cs t e):=⟨λhx hk h=>a.m hx (λv S1 h1=>by
 cases v with
 |tup vs=>
  refine g.bm (λh1=>?_) (λh1=>h1) h1;refine mLc ?_ hk h1;refine λ_ _ _ _ ho=>mTgt g ?_;intro σ z;cases t with
  |none=>exact he.m (λ_ _ h=>h) (λ_ _=>ho _ _) z
  |some u=>exact(hb u rfl).m (λ_ _ h=>h) (λc S3=>g.bm (he.m (λ_ _ h=>h) λ_ _=>ho _ _) (ho _ _)) z
 |_=>exact h1) h⟩
end
end Fx
namespace L2
open PySem PySem.Spec PyProof.Rows
section
variable{X:Cx}
theorem jU:∀{ws:List Str}{us:List Value},Vals (ws.map V.str) us->StrsAre us ws
 |[],_,h=>by cases h;exact .nil
 |w::ws,_,h=>by
  cases h with
  |cons a b=>
   obtain⟨t,rfl⟩:=a;exact .cons w t (jU b)
def rJoin(K:xFr):V->List V->Hp->VK->Prop:=λx vs H Q=>∃(sep:Str) (l:Addr) (ws:List Str),x=.str sep/\vs=[.ref l]/\SqL K H l (ws.map V.str)/\(ws.map (·.length)).sum+ws.length*sep.length<=16777216/\Q (.str (Txt.join sep ws)) H
theorem rX:MtR X "str.join" (rJoin X.K):=by
 intro Z s σ H x vs v us Q I rx rv h;obtain⟨sep,l,ws,rfl,rfl,hS,hb,q⟩:=h;obtain⟨t,rfl⟩:=rx;obtain⟨u,rfl,ru⟩:=rv.one;obtain rfl:u=Value.ref l:=ru;obtain⟨its,r1,t1,z1⟩:=I.list hS;refine join_list t1.isList (ys:=ws) (by simpa using jU r1) hb λt' k=>?_;exact⟨.str _,H,I.tok _,⟨_,rfl⟩,q⟩
def cAll(K:xFr):List V->Hp->VK->Prop:=λxs H Q=>∃(p:Addr) (bs:List Bool),xs=[.ref p]/\SqL K H p (bs.map V.bl)/\∀b:Bool,b=bs.all id->Q (.bl b) H
theorem m4(bs:List Bool):(List.range bs.length).all (λi=>bs.getD i true)=bs.all id:=by
 rw[Bool.eq_iff_iff,xCx,xCx];constructor
 ·intro h b hb;obtain⟨i,hi,rfl⟩:=List.getElem_of_mem hb;have:=h i (List.mem_range.mpr hi);rw[xBz,xAk hi] at this;exact this
 ·intro h i hi;have hi:=List.mem_range.mp hi;rw[xBz,xAk hi];exact h _ (List.getElem_mem hi)
theorem wu(hc:X.calm=true):CallR X (.builtin "all") (cAll X.K):=by
 intro Z s σ H xs us Q I r h;obtain⟨p,bs,rfl,hS,q⟩:=h;obtain⟨u,rfl,ru⟩:=vals1 r;obtain rfl:u=Value.ref p:=ru;obtain⟨its,r1,t1,z1⟩:=I.list hS;have hl:=r1.length;rw[xAa] at hl;have hlt:p<s.heap.objs.size:=by
  obtain⟨o,_,e,_⟩:=t1;exact xA1 e
 have hval:∀(i:Nat)(v:Value),its.toArray[i]?=some v->v=Value.bool (bs.getD i true):=λi v e=>by
  have e':its[i]?=some v:=by simpa using e
  have hi:i<bs.length:=by rw[hl];exact(xAq.mp e').1
  obtain⟨u,hu,ru⟩:=r1.get (i:=i) (x:=.bl bs[i]) (by rw[xAw,xAk hi];rfl);rw[e'] at hu;cases hu;rw[xBz,xAk hi];exact ru
 refine call_all_walk (wpAny_pyIter_list t1.isList ?_);refine⟨s.heap.objs.size,[s.heap.objs.size,p],[s.heap.objs.size],_,_,_,λi=>bs.getD i true,rfl,Walks.list (A:=X.A.in1) (I.ok.hd hc) s.heap.objs.size p (xA0 hlt) its.toArray,⟨⟨_,xAl _ rfl,rfl,rfl⟩,t1.isList.push _⟩,λi v s' Q' E' hP hQ=>?_,λh' tk hk=>?_⟩
 ·rw[hval i v hP];exact wpAny_truthy_bool hQ
 ·refine⟨.bl _,H,I.kept (t':=tk) λb o e=>hk b o ?_ (xAf _ e),rfl,q _ ?_⟩
  ·rw[xAm];exact xA0 (xA1 e)
  ·rw[xAp,<- hl];exact m4 bs
end
def Its(z:Str):It:=⟨λi _=>i<z.cps.size,λi H x H'=>H'=H/\∃c,z.cps[i]?=some c/\x=.str ⟨#[c]⟩,λi _=>i=z.cps.size⟩
theorem il{P:Program}{w:World}{K:xFr}{tg:Expr}(it:Addr)(z:Str)(t:Tok)(ty:String)(hty:["enumerate","zip","dict_itemiterator","dict_reverseitemiterator","odict_iterator","itertools.zip_longest","itertools.pairwise"].contains ty=false)(W:∀A':Around,A'.handled=none->Walks P w A' it [it] [it] z.cps.size (SignAt z) (λi h=>h.IsStrIter it ty z t i))(hself:∀(A:Around)(i:Nat)(s:Shared)(Q:Value->Shared->Prop)(E:Value->Shared->Prop),s.heap.IsStrIter it ty z t i->Q (.ref it) s->wpAny (model P w) A (pyIter (.ref it)) Q E s) :
  Turn P w K tg (Its z) [it] it (λi h=>h.IsStrIter it ty z t i) where
 mem:=by simp
 obj:=λi h st b hb=>by
  have e:b=it:=by simpa using hb
  subst e;obtain⟨o,e,c,d⟩:=st;exact⟨o,e,λv z=>by rw[d] at z;cases z⟩
 keep:=λi h h' st k=>by
  obtain⟨o,e,r⟩:=st;exact⟨o,k it (by simp) o e,r⟩
 item:=by
  intro X hP hw hK hc i Z s σ H E I hf st hg;subst hP hw hK;obtain⟨f0,f1,f2,f3,f4,f5⟩:=hf it (by simp);refine(W X.A (I.ok.hd hc)).item i s _ _ hg st λv h' tk hv st' kk=>?_;obtain⟨c,u,hcu,rfl⟩:=hv;have I1:Inv X Z σ H {s with heap:=h',toks:=tk}:=I.turned (λb o hb e=>kk b o (by simpa using hb) e) f0 f1 f3 f4 f5;obtain⟨o,e,c',d⟩:=id st';exact⟨_,rfl,kP (s:={s with heap:=h',toks:=tk}) e c' d hty ⟨.str ⟨#[c]⟩,H,I1,⟨u,rfl⟩,⟨rfl,c,hcu,rfl⟩,st',λb hb=>(hf b hb).1⟩⟩
 done:=by
  intro X hP hw hK hc i Z s σ H E I hf st hg;subst hP hw hK;obtain⟨f0,f1,f2,f3,f4,f5⟩:=hf it (by simp);have hg:i=z.cps.size:=hg;subst hg;exact(W X.A (I.ok.hd hc)).done s _ _ st λh' tk eb=>⟨rfl,I.turned (t':=tk) (λb o hb e=>eb b o (by simpa using hb) e) f0 f1 f3 f4 f5⟩
 self:=hself
def nIterStr(x:V)(H:Hp)(R:It->Hp->Prop):Prop:=∃z:Str,x=.str z/\R (Its z) H
theorem qd:bootBuiltins "zip"=some (.type "zip"):=by decide +kernel
noncomputable def mergK(kvs more:List (Key×V)):List (Key×V):=more.foldl (λacc p=>putK acc p.1 p.2) kvs
theorem KV.merg{more:List (Key×V)}:∀{ms:List (Key×Value)}{kvs:List (Key×V)}{vs:List (Key×Value)},KV kvs vs->KV more ms->KV (mergK kvs more) (merged vs ms):=by
 induction more with
 |nil=>
  intro ms kvs vs r rm;cases (show Paired _ [] ms from rm);exact r
 |cons p more ih=>
  intro ms kvs vs r rm;cases (show Paired _ (p::more) ms from rm) with
  |cons h t=>
   obtain⟨h1,h2⟩:=h;rename_i q qs
   have:=ih (r.put p.1 h2) t;rw[h1] at this;simpa [mergK,merged,h1] using this
def rUpd:V->List V->Hp->VK->Prop:=λx vs H Q=>∃(a b:Addr) (kvs more:List (Key×V)),x=.ref a/\vs=[.ref b]/\a≠b/\H a=some (.dK kvs)/\H b=some (.dK more)/\kvs.length+more.length<=1000/\Q .non (upd H a (.dK (mergK kvs more)))
section
variable{X:Cx}
theorem l8:MtR X "dict.update" rUpd:=by
 intro Z s σ H x vs v us Q I rx rv h;obtain⟨a,b,kvs,more,rfl,rfl,hab,ea,eb,hl,q⟩:=h;cases (show v=Value.ref a from rx);obtain⟨u,rfl,ru⟩:=rv.one;obtain rfl:u=Value.ref b:=ru;obtain⟨z,hd,vs,rel,dd⟩:=kY I.hok ea;obtain⟨z2,hd2,ms,rel2,dd2⟩:=kY I.hok eb;have l1:=rel.length;have l2:=rel2.length;refine call_meetsIn PySem.F.slot_dict_update dd.typeIs PySem.F.entry_dict_update (PySem.F.args_dict_update_2 _ _) (meets_dict_update (mixKind X.prog X.w) a b hab hd2) ⟨vs,ms,dd,dd2,by rw[sizeLine_eq];lia,λh' d1 d2 sb=>?_⟩;have hm:=rel.merg rel2;have hml:(mergK kvs more).length<=sizeLine:=by
  rw[hm.length];have:=merged_length_le vs ms;rw[sizeLine_eq];lia
 refine⟨.non,_,I.write (x:=a) (e:=a) (o:=.dK (mergK kvs more)) (t':=s.toks) (by rw[ea];exact True.intro) (.inl rfl) (λc u hc e=>(sb.2 c hc).trans e) ?_ (hU hml hd hm d1),rfl,q⟩;obtain⟨o,es,ep,ho,_⟩:=d1;exact⟨o,ho⟩
end
def nGetK(K:xFr)(a:Addr)(y:V)(H:Hp)(Q:VK):Prop:=∃x v u,y=.str x/\PySem.W.nsIn K a x=some (some u)/\RelV v u/\Q v H
def tGetK(K:xFr)(a:Addr)(te:TE):TE:=λσ H Q=>te σ H λy H2=>nGetK K a y H2 Q
def KD(w:World)(K:xFr)(a:Addr):Prop:=∃es n,K.lookup a=some ⟨.type "dict",none,.dict es n,#[]⟩/\PySem.W.KeysLit w.params es.toList/\(a==sysModules)=false
section
variable{X:Cx}{o e:Expr}{te:TE}{a:Addr}{apos cpos:Pos}
theorem rB(d:KD X.w X.K a)(ho:PE X o (tC (.ref a)))(he:PE X e te)(m:M1 X o "get" apos e cpos):PE X (.Call (.Attribute o "get" apos) [e] [] cpos) (tGetK X.K a te):=by
 obtain⟨es,n,hl,hk,lo⟩:=d;intro Z s σ H Q I h;refine wpAny_Call_method m.base m.few m.line PySem.F.plainAttrs_dict PySem.F.slot_dict_get PySem.F.type_dict_get (thn (ho Z s σ H (λx H1=>x=.ref a/\te σ H1 λy H2=>nGetK X.K a y H2 Q) I ⟨rfl,h⟩) λu s1 zz=>?_);obtain⟨x,H1,I1,rx,ex,q1⟩:=zz;subst ex;obtain rfl:u=Value.ref a:=rx;have hm1:=PySem.W.mapOf_K (prog:=X.prog) (w:=X.w) (λb o e=>I1.kIn b o e) hl hk;refine⟨hm1.typeIs,λb e=>⟨_,by cases e;exact I1.kIn a _ hl,rfl⟩,?_⟩;rw[m.trees];refine Calls.callWith_builtin rfl (Calls.evalArgs_plain (Calls.spliced_cons (thn (he Z s1 σ H1 _ I1 q1) λiv s2 ⟨y,H2,I2,ry,q2⟩=>Calls.spliced_nil ?_)));obtain⟨z,v,u,rfl,hn,rv,q⟩:=q2;obtain⟨t,rfl⟩:=ry;have hm:=PySem.W.mapOf_K (prog:=X.prog) (w:=X.w) (λb o e=>I2.kIn b o e) hl hk;refine call_meetsIn PySem.F.slot_dict_get hm.typeIs PySem.F.entry_dict_get (PySem.F.args_dict_get_2 _ _) (meets_dict_get (strKind X.prog X.w) a (strKind_is X.prog X.w z t) lo) ⟨_,hm,?_⟩;rw[PySem.W.find_K hl hn];exact⟨v,H2,I2.tok _,rv,q⟩
end
end L2
namespace RevA
open PySem PySem.Spec PyProof.Rows
variable{Q E:Value->Shared->Prop}{prog:Program}{w:World}{A:Around}
structure ZAp(z TI TO i1 i2:Addr)(f1 f2:List Addr):Prop where
 q1:TI≠z
 q2:TO≠z
 q3:i1≠z
 q4:i2≠z
 q5:TI≠TO
 q6:TI≠i1
 q7:TI≠i2
 q8:TO≠i1
 q9:TO≠i2
 qa:i1≠i2
 n1:z∉f1
 n2:z∉f2
 n3:TO∉f1
 n4:TO∉f2
 n5:i1∉f2
 n6:i2∉f1
section
variable{prog:Program}{w:World}{A:Around}{E:Value->Shared->Prop}{s:Shared}{z TI TO i1 i2:Addr}{f1 f2:List Addr}{n1 n2 k:Nat}{P1 P2:Nat->Value->Prop}{S1 S2:Nat->Heap->Prop}{a b:Value}
theorem m9(D1:Draws prog w A i1 f1 n1 P1 S1)(D2:Draws prog w A i2 f2 n2 P2 S2)(D:ZAp z TI TO i1 i2 f1 f2)(hz:IsZip s.heap z TI TO .none)(hTI:IsPair s.heap TI (.ref i1) (.ref i2))(hTO:IsPair s.heap TO a b)(st1:S1 k s.heap)(st2:S2 k s.heap)(l1:k<n1)(l2:k<n2)(q:∀x y h' tk,P1 k x->P2 k y->IsZip h' z TI TO (rawInt s.heap.objs.size)->IsPair h' TO x y->S1 (k+1) h'->S2 (k+1) h'->IsPair h' s.heap.objs.size x y->(∀c o,c≠z->c≠TO->c≠i1->c≠i2->s.heap.get? c=some o->h'.get? c=some o) ->
   Q (.ref s.heap.objs.size) {s with heap:=h',toks:=tk}):wpAny (model prog w) A (Builtin.«zip.__next__» ⟨[.ref z],[]⟩) (λfin s'=>∃v,fin=.done (.ret v)/\Q v s') E s:=by
 obtain⟨hp,g,d,tk0,os⟩:=s;change wpAny _ _ (field (.ref z) 2>>=_) _ _ _;refine xAd (xDa hz rfl (x:=.bool false) rfl ?_);change wpAny _ _ (field (.ref z) 3>>=_) _ _ _;refine xAd (xDa hz rfl (x:=.ref TI) rfl (xAd (wpAny_seqItems hTI rfl ?_)));change wpAny _ _ (Builtin.SmallTypes.ownedTupleIsFree (.ref z)>>=_) _ _ _;refine xAd ?_;unfold Builtin.SmallTypes.ownedTupleIsFree;refine xAd (xDa hz rfl (x:=.none) rfl (xAe ?_));simp only[if_true];refine xAd (wpAny_rule (xAd (xDa hz rfl (x:=.ref TO) rfl ?_)));refine xAd (wpAny_setField_rec hz (by simp) λh1 z1 b1=>?_)
 replace z1:IsZip h1 z TI TO .ellipsis:=z1
 replace b1:Heap.SameBut z hp h1:=b1
 refine xAd ?_;simp only[List.zipIdx_cons,List.zipIdx_nil,List.forIn_cons,List.forIn_nil];refine xAd (xAd (wpAny_onRaise ?_));change wpAny _ _ (Builtin.SmallTypes.nextOf (.ref i1)>>=_) _ _ _;have t1:S1 k h1:=D1.frame _ _ _ st1 λc hc o e=>b1.extBut c o (λy=>D.n1 (y▸hc)) e;refine xAd (D1.item k ⟨h1,g,d,tk0,os⟩ _ _ l1 t1 λx h2 tk2 px t2 b2=>xAe ?_)
 replace b2:Heap.SameBut i1 h1 h2:=b2
 have o2:IsPair h2 TO a b:=b2.extBut _ _ D.q8 (b1.extBut _ _ D.q2 hTO);refine xAd (wpAny_seqItems (s:=⟨h2,g,d,tk2,os⟩) o2 rfl ?_);refine xAd (wpAny_updateSeq_pair (s:=⟨h2,g,d,tk2,os⟩) o2 λh3 o3 b3=>?_)
 replace o3:IsPair h3 TO x b:=o3
 replace b3:Heap.SameBut TO h2 h3:=b3
 refine xAd (wpAny_letGo (xAe ?_));refine xAd (xAd (wpAny_onRaise ?_));change wpAny _ _ (Builtin.SmallTypes.nextOf (.ref i2)>>=_) _ _ _;have u3:S2 k h3:=D2.frame _ _ _ st2 λc hc o e=>b3.extBut c o (λy=>D.n4 (y▸hc)) (b2.extBut c o (λy=>D.n5 (y▸hc)) (b1.extBut c o (λy=>D.n2 (y▸hc)) e));have t3:S1 (k+1) h3:=D1.frame _ _ _ t2 λc hc o e=>b3.extBut c o (λy=>D.n3 (y▸hc)) e;refine xAd (D2.item k ⟨h3,g,d,tk2,os⟩ _ _ l2 u3 λy h4 tk4 py u4 b4=>xAe ?_)
 replace b4:Heap.SameBut i2 h3 h4:=b4
 have o4:IsPair h4 TO x b:=b4.extBut _ _ D.q9 o3;have t4:S1 (k+1) h4:=D1.frame _ _ _ t3 λc hc o e=>b4.extBut c o (λy=>D.n6 (y▸hc)) e;refine xAd (wpAny_seqItems (s:=⟨h4,g,d,tk4,os⟩) o4 rfl ?_);refine xAd (wpAny_updateSeq_pair (s:=⟨h4,g,d,tk4,os⟩) o4 λh5 o5 b5=>?_)
 replace o5:IsPair h5 TO x y:=o5
 replace b5:Heap.SameBut TO h4 h5:=b5
 refine xAd (wpAny_letGo (xAe (xAe ?_)));have t5:S1 (k+1) h5:=D1.frame _ _ _ t4 λc hc o e=>b5.extBut c o (λy=>D.n3 (y▸hc)) e;have u5:S2 (k+1) h5:=D2.frame _ _ _ u4 λc hc o e=>b5.extBut c o (λy=>D.n4 (y▸hc)) e;refine xAd (wpAny_seqItems (s:=⟨h5,g,d,tk4,os⟩) o5 rfl ?_);refine xAd (wpAny_newTuple ?_);have sz:h5.objs.size=hp.objs.size:=by rw[b5.1,b4.1,b3.1,b2.1,b1.1]
 have z5:IsZip h5 z TI TO .ellipsis:=b5.extBut _ _ D.q2.symm (b4.extBut _ _ D.q4.symm (b3.extBut _ _ D.q2.symm (b2.extBut _ _ D.q3.symm z1)));have kk:∀c o,c≠z->c≠TO->c≠i1->c≠i2->hp.get? c=some o->h5.get? c=some o:=λc o c1 c2 c3 c4 e=>b5.extBut _ _ c2 (b4.extBut _ _ c4 (b3.extBut _ _ c2 (b2.extBut _ _ c3 (b1.extBut _ _ c1 e))));have zlt:z<h5.objs.size:=xA1 z5;change wpAny _ _ (Builtin.SmallTypes.ownedTupleHandOut (.ref z) (.ref h5.objs.size)>>=_) _ _ _;refine xAd ?_;unfold Builtin.SmallTypes.ownedTupleHandOut;have z6:IsZip (h5.push {cls:=.type "tuple",data:=.seq #[x,y]}) z TI TO .ellipsis:=xAf _ z5;refine xAd (wpAny_setField_rec z6 (by simp) λh7 z7 b7=>?_)
 replace z7:IsZip h7 z TI TO (rawInt h5.objs.size):=z7
 refine wpAny_setField_rec z7 (by simp) λh8 z8 b8=>?_
 replace z8:IsZip h8 z TI TO (rawInt h5.objs.size):=z8
 replace b7:Heap.SameBut z (h5.push {cls:=.type "tuple",data:=.seq #[x,y]}) h7:=b7
 replace b8:Heap.SameBut z h7 h8:=b8
 have up:∀c o,c≠z->h5.get? c=some o->h8.get? c=some o:=λc o c1 e=>b8.extBut _ _ c1 (b7.extBut _ _ c1 (xAf _ e));have T8:IsPair h8 h5.objs.size x y:=b8.extBut _ _ (Nat.ne_of_gt zlt) (b7.extBut _ _ (Nat.ne_of_gt zlt) (xAl _ rfl));rw[sz] at z8 T8;refine xAe ⟨_,rfl,?_⟩;change Q (.ref h5.objs.size) _;rw[sz];exact q x y h8 tk4 px py z8 (up _ _ D.q2 o5) (D1.frame _ _ _ t5 λc hc o e=>up c o (λy=>D.n1 (y▸hc)) e) (D2.frame _ _ _ u5 λc hc o e=>up c o (λy=>D.n2 (y▸hc)) e) T8 λc o c1 c2 c3 c4 e=>up c o c1 (kk c o c1 c2 c3 c4 e)
theorem nb{Q:Fin->Shared->Prop}(D1:Draws prog w A i1 f1 n1 P1 S1)(D:ZAp z TI TO i1 i2 f1 f2)(hz:IsZip s.heap z TI TO .none)(hTI:IsPair s.heap TI (.ref i1) (.ref i2))(st1:S1 n1 s.heap)(q:∀h' e,(∀c o,c≠z->c≠TO->c≠i1->c≠i2->s.heap.get? c=some o->h'.get? c=some o)->(∃o,h'.get? e=some o/\o.cls=.type "StopIteration")->E (.ref e) {s with heap:=h'}) :
  wpAny (model prog w) A (Builtin.«zip.__next__» ⟨[.ref z],[]⟩) Q E s:=by
 change wpAny _ _ (field (.ref z) 2>>=_) _ _ _;refine xAd (xDa hz rfl (x:=.bool false) rfl ?_);change wpAny _ _ (field (.ref z) 3>>=_) _ _ _;refine xAd (xDa hz rfl (x:=.ref TI) rfl (xAd (wpAny_seqItems hTI rfl ?_)));change wpAny _ _ (Builtin.SmallTypes.ownedTupleIsFree (.ref z)>>=_) _ _ _;refine xAd ?_;unfold Builtin.SmallTypes.ownedTupleIsFree;refine xAd (xDa hz rfl (x:=.none) rfl (xAe ?_));simp only[if_true];refine xAd (wpAny_rule (xAd (xDa hz rfl (x:=.ref TO) rfl ?_)));refine xAd (wpAny_setField_rec hz (by simp) λh1 z1 b1=>?_)
 replace z1:IsZip h1 z TI TO .ellipsis:=z1
 refine xAd ?_;simp only[List.zipIdx_cons,List.zipIdx_nil,List.forIn_cons,List.forIn_nil];refine xAd (xAd (wpAny_onRaise ?_));change wpAny _ _ (Builtin.SmallTypes.nextOf (.ref i1)>>=_) _ _ _;have t1:S1 n1 h1:=D1.frame _ _ _ st1 λc hc o e=>b1.extBut c o (λy=>D.n1 (y▸hc)) e;refine xAd (D1.done {s with heap:=h1} _ _ t1 λh2 e b2 he=>?_);obtain⟨oe,hoe,hce⟩:=he;have z2:IsZip h2 z TI TO .ellipsis:=b2 _ _ D.q3.symm z1;have hez:e≠z:=λx=>by subst x;rw[z2] at hoe;cases hoe;simp at hce
 exact wpAny_setField_rec z2 (by simp) λh3 _ b3=>q h3 e (λc o c1 _ c3 _ x=>b3.extBut _ _ c1 (b2 _ _ c3 (b1.extBut _ _ c1 x))) ⟨oe,b3.extBut _ _ hez hoe,hce⟩
theorem lH{Q:Option Value->Shared->Prop}(D1:Draws prog w A.in1 i1 f1 n1 P1 S1)(D2:Draws prog w A.in1 i2 f2 n2 P2 S2)(D:ZAp z TI TO i1 i2 f1 f2)(hz:IsZip s.heap z TI TO .none)(hTI:IsPair s.heap TI (.ref i1) (.ref i2))(hTO:IsPair s.heap TO a b)(st1:S1 k s.heap)(st2:S2 k s.heap)(l1:k<n1)(l2:k<n2)(q:∀x y h' tk,P1 k x->P2 k y->IsZip h' z TI TO (rawInt s.heap.objs.size)->IsPair h' TO x y->S1 (k+1) h'->S2 (k+1) h'->IsPair h' s.heap.objs.size x y->(∀c o,c≠z->c≠TO->c≠i1->c≠i2->s.heap.get? c=some o->h'.get? c=some o) ->
   Q (some (.ref s.heap.objs.size)) {s with heap:=h',toks:=tk}):wpAny (model prog w) A (pyNext (.ref z)) Q E s:=by
 have hT:s.TypeIs (.ref z) "zip":=⟨_,hz,rfl⟩
 unfold pyNext;exact xAd (wpAny_attempt (wpAny_callSpecial?_slot (name:=Str.ofString "__next__") hT PySem.F.slot_zip_next (wpAny_call_entry PySem.F.slot_zip_next hT PySem.F.entry_zip_next
  (m9 D1 D2 D hz hTI hTO st1 st2 l1 l2 λx y h' tk r1 r2 r3 r4 r5 r6 r7 r8=>xAe (q x y h' tk r1 r2 r3 r4 r5 r6 r7 r8)) (PySem.F.args_zip_next_1 _))))
theorem lI{Q:Option Value->Shared->Prop}(D1:Draws prog w A.in1 i1 f1 n1 P1 S1)(D:ZAp z TI TO i1 i2 f1 f2)(hz:IsZip s.heap z TI TO .none)(hTI:IsPair s.heap TI (.ref i1) (.ref i2))(st1:S1 n1 s.heap)(q:∀h',(∀c o,c≠z->c≠TO->c≠i1->c≠i2->s.heap.get? c=some o->h'.get? c=some o)->Q none {s with heap:=h'}):wpAny (model prog w) A (pyNext (.ref z)) Q E s:=by
 have hT:s.TypeIs (.ref z) "zip":=⟨_,hz,rfl⟩
 unfold pyNext;refine xAd (wpAny_attempt (wpAny_callSpecial?_slot (name:=Str.ofString "__next__") hT PySem.F.slot_zip_next (wpAny_call_entry PySem.F.slot_zip_next hT PySem.F.entry_zip_next (nb D1 D hz hTI st1 λh' e hk he=>?_) (PySem.F.args_zip_next_1 _))));obtain⟨o,ho,hc⟩:=he;exact xAd (wpAny_isInstance (T:="StopIteration") (b:=true) ⟨o,ho,hc⟩ isSubtype_stop (xAe (q _ hk)))
end
def IterTo(v:Value)(o:Obj)(h:Heap):Prop:=∀(prog:Program)(w:World)(A:Around)(E:Value->Shared->Prop)(s:Shared)(Q:Value->Shared->Prop),s.heap=h->Q (.ref s.heap.objs.size) {s with heap:=s.heap.push o}->wpAny (model prog w) A (pyIter v) Q E s
theorem kL{s:Shared}{v:Value}{o:Obj}(i:IterTo v o s.heap)(h:Q (.ref s.heap.objs.size) {s with heap:=s.heap.push o}):wpAny (model prog w) A (pyIter v) Q E s:=i _ _ _ _ _ _ rfl h
noncomputable abbrev zh3(h:Heap)(o1 o2:Obj):Heap:=((h.push o1).push o2).push {cls:=.type "tuple",data:=.seq #[.ref h.objs.size,.ref (h.push o1).objs.size]}
noncomputable abbrev zh4(h:Heap)(o1 o2:Obj):Heap:=(zh3 h o1 o2).push {cls:=.type "tuple",data:=.seq #[.none,.none]}
noncomputable abbrev zh5(h:Heap)(o1 o2:Obj):Heap:=(zh4 h o1 o2).push {cls:=.type "zip",data:=.fields #[.none,.bool false,.bool false,.ref ((h.push o1).push o2).objs.size,.ref (zh3 h o1 o2).objs.size]}
theorem qr(v1 v2:Value)(o1 o2:Obj):Meets (Builtin.«zip.__new__» ⟨[.type "zip",v1,v2],[]⟩) (λ_ R s=>IterTo v1 o1 s.heap/\IterTo v2 o2 (s.heap.push o1)/\R (.ok (.ret (.ref (zh4 s.heap o1 o2).objs.size))) {s with heap:=zh5 s.heap o1 o2}):=
 .of_wp λprog w A R s h=>by
  obtain⟨hp,g,d,tk,os⟩:=s;obtain⟨hl1,hl2,h⟩:=h;have hsub:=sub_zip;have j1:IterTo v1 o1 (Shared.heap ⟨hp,g,d,tk,os⟩):=hl1;have j2:IterTo v2 o2 (Shared.heap ⟨hp.push o1,g,d,tk,os⟩):=hl2;wp_walk using kL j1,kL j2
  exact⟨_,rfl,h⟩
theorem nc{s:Shared}{v1 v2:Value}{o1 o2:Obj}(j1:IterTo v1 o1 s.heap)(j2:IterTo v2 o2 (s.heap.push o1))(q:∀h',IsZip h' (s.heap.objs.size+4) (s.heap.objs.size+2) (s.heap.objs.size+3) .none->IsPair h' (s.heap.objs.size+2) (.ref s.heap.objs.size) (.ref (s.heap.objs.size+1))->IsPair h' (s.heap.objs.size+3) .none .none ->
   (o1.isFreed=false->h'.get? s.heap.objs.size=some o1)->(o2.isFreed=false->h'.get? (s.heap.objs.size+1)=some o2)->(∀c o,s.heap.get? c=some o->h'.get? c=some o)->Q (.ref (s.heap.objs.size+4)) {s with heap:=h'}) :
  wpAny (model prog w) A (call (.type "zip") [v1,v2]) Q E s:=by
 refine callType_new PySem.F.called_zip (by decide) (PySem.F.typeCall_zip_2 _ _) (PySem.F.newCall_zip_2 _ _) (λobj=>PySem.F.args_object_init_3 obj _ _) PySem.F.entry_zip_new (qr v1 v2 o1 o2) ⟨j1,j2,?_⟩;have e1:(s.heap.push o1).objs.size=s.heap.objs.size+1:=Heap.size_push ..;have e2:((s.heap.push o1).push o2).objs.size=s.heap.objs.size+2:=by rw[Heap.size_push,e1]
 have e3:(zh3 s.heap o1 o2).objs.size=s.heap.objs.size+3:=by rw[Heap.size_push,e2]
 have e4:(zh4 s.heap o1 o2).objs.size=s.heap.objs.size+4:=by rw[Heap.size_push,e3]
 have g5:(zh5 s.heap o1 o2).get? (zh4 s.heap o1 o2).objs.size=some _:=xAl _ rfl;have g4:(zh5 s.heap o1 o2).get? (zh3 s.heap o1 o2).objs.size=some _:=xAf _ (xAl _ rfl);have g3:(zh5 s.heap o1 o2).get? ((s.heap.push o1).push o2).objs.size=some _:=xAf _ (xAf _ (xAl _ rfl));have g2:o2.isFreed=false->(zh5 s.heap o1 o2).get? (s.heap.push o1).objs.size=some o2:=λf=>xAf _ (xAf _ (xAf _ (xAl _ f)));have g1:o1.isFreed=false->(zh5 s.heap o1 o2).get? s.heap.objs.size=some o1:=λf=>xAf _ (xAf _ (xAf _ (xAf _ (xAl _ f))));change _/\_;rw[e2,e3,e4] at g5;rw[e1,e2] at g3;rw[e3] at g4;rw[e1] at g2;rw[e4];exact⟨⟨_,g5,rfl⟩,q _ g5 g3 g4 g1 g2 λc o x=>xAf _ (xAf _ (xAf _ (xAf _ (xAf _ x))))⟩
end RevA
namespace L2
open PySem PySem.Spec PyProof.Rows RevA
theorem ng{n:Nat}{f1 f2:List Addr}(m1:∀b∈f1,b=n\/b<n)(m2:∀b∈f2,b=n+1\/b<n):ZAp (n+4) (n+2) (n+3) n (n+1) f1 f2:=by
 have w1:∀c:Nat,n<c->c∉f1:=λc hc z=>by
  rcases m1 c z with e|e
  ·exact Nat.ne_of_gt hc e
  ·exact Nat.not_lt_of_lt hc e
 have w2:∀c:Nat,n<=c->c≠n+1->c∉f2:=λc hc hn z=>by
  rcases m2 c z with e|e
  ·exact hn e
  ·exact Nat.not_lt_of_le hc e
 exact⟨by simp,by simp,by simp[xA0],by simp,by simp,by simp,by simp,by simp,by simp,by simp,w1 _ (by lia),w2 _ (by lia) (by simp),w1 _ (by lia),w2 _ (by lia) (by simp),w2 _ (xAg _) (by simp),w1 _ (by lia)⟩
end L2
namespace Prg
open PySem PySem.NumText PySem.StrLaws PyProof.Rows L2
section
variable{n:Nat}{sc:List Str}{pl:Int}{P:List Str->D->Prop}{kind:Str}{ds:List D}{i:Nat}{s:Ps}{x:D}
variable(h:0<=pl/\pl<=599)
include h
end
end Prg
namespace L2
open PySem PySem.Spec PyProof.Rows
def nGetK2(K:xFr)(a:Addr)(y d:V)(H:Hp)(Q:VK):Prop:=∃x v r,y=.str x/\PySem.W.nsIn K a x=some r/\(∀u,r=some u->RelV v u)/\(r=none->v=d)/\Q v H
def tGetK2(K:xFr)(a:Addr)(te tf:TE):TE:=λσ H Q=>te σ H λy H2=>tf σ H2 λd H3=>nGetK2 K a y d H3 Q
section
variable{X:Cx}{o e f:Expr}{te tf:TE}{a:Addr}{apos cpos:Pos}
theorem oC(d:KD X.w X.K a)(ho:PE X o (tC (.ref a)))(he:PE X e te)(hf:PE X f tf)(m:M2 X o "get" apos e f cpos):PE X (.Call (.Attribute o "get" apos) [e,f] [] cpos) (tGetK2 X.K a te tf):=by
 obtain⟨es,n,hl,hk,lo⟩:=d;intro Z s σ H Q I h;refine wpAny_Call_method m.base m.few m.line PySem.F.plainAttrs_dict PySem.F.slot_dict_get PySem.F.type_dict_get (thn (ho Z s σ H (λx H1=>x = .ref a/\te σ H1 λy H2=>tf σ H2 λd H3=>nGetK2 X.K a y d H3 Q) I ⟨rfl,h⟩) λu s1 zz=>?_);obtain⟨x,H1,I1,rx,ex,q1⟩:=zz;subst ex;obtain rfl:u=Value.ref a:=rx;have hm1:=PySem.W.mapOf_K (prog:=X.prog) (w:=X.w) (λb o e=>I1.kIn b o e) hl hk;refine⟨hm1.typeIs,λb e=>⟨_,by cases e;exact I1.kIn a _ hl,rfl⟩,?_⟩;rw[m.trees];refine Calls.callWith_builtin rfl (Calls.evalArgs_plain (Calls.spliced_cons (thn (he Z s1 σ H1 _ I1 q1) λiv s2 ⟨y,H2,I2,ry,q2⟩ =>
  Calls.spliced_cons (thn (hf Z s2 σ H2 _ I2 q2) λfv s3 ⟨z,H3,I3,rz,q3⟩=>Calls.spliced_nil ?_))))
 obtain⟨x,v,r,rfl,hn,r1,r2,q⟩:=q3;obtain⟨t,rfl⟩:=ry;have hm:=PySem.W.mapOf_K (prog:=X.prog) (w:=X.w) (λb o e=>I3.kIn b o e) hl hk;refine call_meetsIn PySem.F.slot_dict_get hm.typeIs PySem.F.entry_dict_get (PySem.F.args_dict_get_3 _ _ _) (meets_dict_get_default (strKind X.prog X.w) a (strKind_is X.prog X.w x t) lo fv) ⟨_,hm,?_⟩;rw[PySem.W.find_K hl hn];cases r with
 |none=>cases r2 rfl;exact⟨_,H3,I3.tok _,rz,q⟩
 |some u=>exact⟨v,H3,I3.tok _,r1 u rfl,q⟩
end
end L2
namespace SetA
open PySem PySem.Spec PySem.SetTable PyProof.Rows
variable{h h':Heap}{a:Addr}{t:SetTable}
def ZetIs(h:Heap)(a:Addr)(n:Nat):Prop:=∃es ep t,h.get? a=some (setObj es ep t)/\es.size=n/\t.fits n=true
theorem ZetIs.at'{n:Nat}(S:ZetIs h a n)(e:∀o,h.get? a=some o->h'.get? a=some o):ZetIs h' a n:=by
 obtain⟨es,ep,t,q,r⟩:=S;exact⟨es,ep,t,e _ q,r⟩
structure Jv(t:SetTable)(n:Nat):Prop where
 msk:7<=t.mask
 sz:t.place.size=n
 dm:t.dummies=#[]
theorem Jv.fits{t:SetTable}{n:Nat}(h:Jv t n)(h4:n<=4):t.fits n=true:=by
 unfold SetTable.fits SetTable.fill;rw[h.sz,h.dm];have:=h.msk;simp only[beq_self_eq_true,Bool.true_and,decide_eq_true_eq,xAp,List.length_nil];lia
theorem Jv.full{n:Nat}(h:Jv t n)(h4:n<=4):t.tooFull=false:=by
 unfold SetTable.tooFull SetTable.fill;rw[h.sz,h.dm];have:=h.msk;simp only[decide_eq_false_iff_not,xAp,List.length_nil,ge_iff_le];lia
theorem Jv.new{n:Nat}(T:Jv t n)(es:Array (Int×Value))(hn:es.size=n)(h4:n<4)(h:Int)(x:Value) :
  ∃es' t' wd gv,layNew t es h x=(es',t',wd,gv)/\es'.size=n+1/\Jv t' (n+1)/\∀e∈es'.toList,e∈es.toList\/e=(h,x):=by
 have hi:∀p,∀e∈(insertAt es p (h,x)).toList,e∈es.toList\/e=(h,x):=λp e he=>by
  have:=(insertAt_perm es p (h,x)).mem_iff.mp he;rw[Array.toList_push] at this;rcases xAj.mp this with z|z
  ·exact .inl z
  ·exact .inr (xAm.mp z)
 unfold layNew;cases t.freeSlot h with
 |none=>
  refine⟨_,_,_,_,rfl,by rw[Array.size_push,hn],⟨by show 7<=4*(es.size+1)+4;lia,by show(Array.range (es.size+1)).size=_;rw[Array.size_range,hn],rfl⟩,λe he=>?_⟩;rw[Array.toList_push] at he;rcases xAj.mp he with z|z
  ·exact .inl z
  ·exact .inr (xAm.mp z)
 |some r=>
  obtain⟨j,wd⟩:=r;have T':Jv (t.put j).1 (n+1):=⟨T.msk,by show(insertAt t.place (below t.place j) j).size=n+1;rw[dN,T.sz],by show(if has t.dummies j then eraseAt t.dummies (below t.dummies j) else t.dummies)=#[];rw[T.dm];rfl⟩
  have e:(insertAt es (t.put j).2 (h,x)).size=n+1:=by rw[dN,hn]
  refine⟨_,_,_,_,rfl,e,?_,hi _⟩;show Jv ((t.put j).1.orStandIn (insertAt es (t.put j).2 (h,x)).size) (n+1);unfold SetTable.orStandIn;rw[e,T'.fits h4];exact T'
def ZOk(w:World)(ks:List Str)(l:List (Int×Value)):Prop:=∀e∈l,∃k t,k∈ks/\e=(hashStr w k,Value.str k t)
def ZIn(w:World)(h:Heap)(a:Addr)(n:Nat)(ks:List Str):Prop:=∃es ep t,h.get? a=some (setObj es ep t)/\es.size=n/\Jv t n/\ZOk w ks es.toList
theorem ZIn.at'{w:World}{n:Nat}{ks:List Str}(S:ZIn w h a n ks)(e:∀o,h.get? a=some o->h'.get? a=some o):ZIn w h' a n ks:=by
 obtain⟨es,ep,t,q,r⟩:=S;exact⟨es,ep,t,e _ q,r⟩
section
variable{prog:Program}{w:World}{A:Around}{E:Value->Shared->Prop}{s:Shared}{a:Addr}{n:Nat}{ks:List Str}
theorem ZIn.add(S:ZIn w s.heap a n ks)(h4:n<4){k:Str}(hm:k∉ks){tk:Tok}{Q:Bool->Shared->Prop}(h:∀h':Heap,Heap.SameBut a s.heap h'->ZIn w h' a (n+1) (k::ks)->Q true {s with heap:=h'}):wpAny (model prog w) A (setAddHashed a (.str k tk) (hashStr w k)) Q E s:=by
 obtain⟨es,ep,t,ob,hn,T,hz⟩:=S;have hf:t.fits es.size=true:=by rw[hn];exact T.fits (Nat.le_of_lt h4)
 have hkey:(PySem.strKind prog w).is k (.str k tk)=true:=by simp[PySem.strKind,Value.isStrOf]
 have hel:ElemsOf (PySem.strKind prog w) es.toList:=λe he=>by
  obtain⟨k',t',_,rfl⟩:=hz e he;exact⟨⟨k',by simp[PySem.strKind,Value.isStrOf],rfl⟩,rfl⟩
 unfold setAddHashed setAddHashedIn;refine xDc (xAd (wpAny_setState_of ob rfl hf ?_));dsimp only;rw[byScan_of (x:=.str k tk) rfl (by rw[hn];have:scanBound=4096:=rfl;lia) hel];simp only[↓reduceIte];unfold setAddByScan;refine xAd (xAd (wpAny_rule ?_));refine xAd (wpAny_setScan_of (knd:=PySem.strKind prog w) hkey ob rfl hf hel ?_);have hno:es.toList.findIdx? (λe=>(PySem.strKind prog w).is k e.2)=none:=List.findIdx?_eq_none_iff.mpr λe he=>by
  obtain⟨k',t',h1,rfl⟩:=hz e he;have:k'≠k:=λz=>hm (z▸h1);simp[PySem.strKind,Value.isStrOf,this]
 rw[hno];dsimp only;obtain⟨es',t',wd,gv,e,l1,l2,l3⟩:=T.new es hn h4 (hashStr w k) (.str k tk);rw[e];dsimp only;have done:∀t2:SetTable,Jv t2 (n+1)->Q true { s with heap:=s.heap.update a (Obj.putSet es' t2) }:=λt2 T2=>h _ (Heap.SameBut.update s.heap a (Obj.putSet es' t2)) ⟨es',ep+1,t2,by
  have:=Heap.get?_update_self (Obj.putSet es' t2) ob (by rw[putSet_of es' t2 rfl];rfl);rw[putSet_of es' t2 rfl] at this;exact this,l1,T2,λe he=>by
  rcases l3 e he with z|z
  ·obtain⟨k',t',h1,h2⟩:=hz e z;exact⟨k',t',xAs _ h1,h2⟩
  ·exact⟨k,tk,xAr,z⟩⟩
 have hz1:es'.size<=sizeLine:=fits_of_scanBound (by rw[l1];have:scanBound=4096:=rfl;lia);have fu:∀b:Bool,({t' with plain:=b}:SetTable).tooFull=false:=λb=>Jv.full ⟨l2.msk,l2.sz,l2.dm⟩ h4;have f0:=l2.full h4;cases gv
 ·refine xAd (xAe ?_);cases hp:t'.plain with
  |true=>
   simp only[↓reduceIte];refine xAd ?_;rw[hashByValue_scannable 8 rfl];refine xAe ?_;cases plainKind (Value.str k tk) with
   |true=>
    simp only[↓reduceIte];refine xAd (wpAny_storeSet_of ob rfl ?_ hz1);rw[f0,Bool.and_false];simp only[xAz,↓reduceIte];exact xAe (xAe (done t' l2))
   |false=>
    simp only[xAz,↓reduceIte];refine xAd (wpAny_storeSet_of ob rfl ?_ hz1);rw[fu,Bool.and_false];simp only[xAz,↓reduceIte];exact xAe (xAe (done _ ⟨l2.msk,l2.sz,l2.dm⟩))
  |false=>
   simp only[xAz,↓reduceIte];refine xAd (xAe ?_);simp only[↓reduceIte];refine xAd (wpAny_storeSet_of ob rfl ?_ hz1);rw[f0,Bool.and_false];simp only[xAz,↓reduceIte];exact xAe (xAe (done t' l2))
 ·refine xAd (wpAny_rule ?_);cases hp:t'.plain with
  |true=>
   simp only[↓reduceIte];refine xAd ?_;rw[hashByValue_scannable 8 rfl];refine xAe ?_;cases plainKind (Value.str k tk) with
   |true=>
    simp only[↓reduceIte];refine xAd (wpAny_storeSet_of ob rfl ?_ hz1);rw[f0,Bool.and_false];simp only[xAz,↓reduceIte];exact xAe (xAe (done t' l2))
   |false=>
    simp only[xAz,↓reduceIte];refine xAd (wpAny_storeSet_of ob rfl ?_ hz1);rw[fu,Bool.and_false];simp only[xAz,↓reduceIte];exact xAe (xAe (done _ ⟨l2.msk,l2.sz,l2.dm⟩))
  |false=>
   simp only[xAz,↓reduceIte];refine xAd (xAe ?_);simp only[↓reduceIte];refine xAd (wpAny_storeSet_of ob rfl ?_ hz1);rw[f0,Bool.and_false];simp only[xAz,↓reduceIte];exact xAe (xAe (done t' l2))
end
section
variable{prog:Program}{w:World}{A:Around}{R:Result->Shared->Prop}{I S:Addr}{fp wr:List Addr}{G:Array GenState->Array GenState->Prop}{n:Nat}{P:Nat->Value->Prop}{St:Nat->Shared->Prop}
theorem fill(W:WalksS prog w A.in1 I fp wr G n P St)(hSf:S∉fp){val:Nat->Str}(hval:∀i v,P i v->∃t,v=.str (val i) t)(hin:∀i j,i<j->j<n->val i≠val j)(hn:n<=4):∀(k i:Nat)(s:Shared)(ks:List Str),i+k=n->St i s->ZIn w s.heap S i ks->(∀x∈ks,∃j,j<i/\val j=x)->(∀s',Moved (S::wr) G s s'->ZetIs s'.heap S n->R (.ok (.ret .none)) s')->codeAny (model prog w) A (.builtin "set.update.loop" ⟨[.ref S,.ref I],[]⟩) R s:=by
 have hSw:S∉wr:=λh=>hSf (W.sub _ h);have hsu:∀b∈wr,b∈S::wr:=λb hb=>xAs _ hb;intro k;induction k with
 |zero=>
  intro i s ks hk hst hS hm hR;obtain rfl:i=n:=hk;refine codeAny_builtin PyProof.Rows.F.entry_set_update_loop ?_;rw[Around.under_plainId PyProof.Rows.F.plain_set_update_loop _];change wpAny _ A.in1 (pyNext (.ref I)>>=_) _ _ s;refine xAd (W.done s _ _ hst λs' mv=>?_);change wpAny _ A.in1 (ret Value.none) _ _ s';obtain⟨es,ep,t,q,r,T,_⟩:=hS;exact xAe (hR s' (mv.mono hsu) ⟨es,ep,t,mv.heap S _ hSw q,r,T.fits hn⟩)
 |succ k ih=>
  intro i s ks hk hst hS hm hR;have hlt:i<n:=by lia
  refine codeAny_builtin PyProof.Rows.F.entry_set_update_loop ?_;rw[Around.under_plainId PyProof.Rows.F.plain_set_update_loop _];change wpAny _ A.in1 (pyNext (.ref I)>>=_) _ _ s;refine xAd (W.item i s _ _ hlt hst λv s' hP hst' mv=>?_);obtain⟨t,rfl⟩:=hval i v hP;change wpAny _ A.in1 (holding [Value.str (val i) t] (setAdd S (.str (val i) t))>>=_) _ _ s';refine xAd (xDc ?_);unfold setAdd;refine xDc ?_;refine xAd ((PySem.strKind prog w).pyHash (k:=val i) (PySem.strKind_is _ _ _ _) ?_);refine ZIn.add (s:={s' with toks:=s'.toks+1}) (hS.at' λo e=>mv.heap S _ hSw e) (by lia) (λz=>by obtain⟨j,z1,z2⟩:=hm _ z;exact hin j i z1 hlt z2) λh' c1 c2=>?_;refine xAe ⟨plainId_quiet PyProof.Rows.F.plain_set_update_loop _,ih (i+1) _ _ (by lia) (W.frame _ s' _ _ hst' (Nat.le_succ _) λb hb o e=>?_) c2 (λx hx=>?_) λs'' mv2 d1=>?_⟩
  ·rw[c1.2 b (λh:b=S=>hSf (by rw[<- h];exact hb))];exact e
  ·rcases xAv.mp hx with rfl|hx
   ·exact⟨i,by lia,rfl⟩
   ·obtain⟨j,z1,z2⟩:=hm x hx;exact⟨j,by lia,z2⟩
  ·refine hR s'' (Moved.trans W.gtrans ((mv.mono hsu).then_heap (Nat.le_succ _) λb o hb e=>?_) mv2) d1;rw[c1.2 b (λh:b=S=>hb (by rw[h];exact xAr))];exact e
end
section
variable{prog:Program}{w:World}{A:Around}{E:Value->Shared->Prop}{s:Shared}
theorem set_tupleZ{l:Addr}{items:Array Value}{Q:Value->Shared->Prop}(hh:A.handled=none)(hl:s.heap.IsTuple l items){val:Nat->Str}(hi:∀(i:Nat)(v:Value),items[i]?=some v->∃t,v=.str (val i) t)(hin:∀i j,i<j->j<items.size->val i≠val j)(hb:items.size<=4)(h:∀(h':Heap)(tk:Nat),ZetIs h' s.heap.objs.size items.size->(∀b o,s.heap.get? b=some o->h'.get? b=some o)->s.toks<=tk->Q (.ref s.heap.objs.size) {s with heap:=h',toks:=tk}) :
  wpAny (model prog w) A (call (.type "set") [.ref l]) Q E s:=by
 obtain⟨c,tl,hmro⟩:=PySem.F.called_set.mro;have hmade:=PySem.F.called_set.made;have hsub:=PySem.F.called_set.sub;refine wpAny_call (codeAny_of_tree ?_);change wpAny _ _ (callAny (.type "set") _) _ _ _;refine xAe ⟨Code.quiet_builtin _ (by decide +kernel),codeAny_builtin PySem.F.entry_type_call ?_⟩;rw[Around.under_plain (weight_type_call_type "set" [.ref l] []) rfl];have q1:=PySem.F.called_set.notType;have q2:=PySem.F.called_set.canCreate;have q3:=PySem.F.typeCall_set_1 (.ref l);repeat (any_goals (first|assumption|wp_step))
 refine codeAny_mono (sd (.ref l) (E:=E) (Q₁:=λobj s₁=>∃led:Bool,(led=true\/w.params.followText "set-order"=true)/\obj=.ref s.heap.objs.size/\s₁={s with heap:=s.heap.push (setObj #[] 0 (.fresh 0 0 led))}) λled hld=>⟨led,hld,rfl,rfl⟩) λr s₁ hr=>?_;cases r with
 |error e=>exact hr
 |ok fl=>
  cases fl with
  |ret obj=>
   obtain⟨led,hld,rfl,rfl⟩:=hr;have P0:(s.heap.push (setObj #[] 0 (.fresh 0 0 led))).get? s.heap.objs.size=some (setObj #[] 0 (.fresh 0 0 led)):=xAl _ rfl;have hT:Shared.TypeIs {s with heap:=s.heap.push (setObj #[] 0 (.fresh 0 0 led))} (.ref s.heap.objs.size) "set":=⟨_,P0,rfl⟩
   have hli:=PySem.F.called_set.init.lookup;have hbi:=PySem.F.called_set.init.bind (.ref s.heap.objs.size);repeat (any_goals (first|assumption|wp_step))
   refine codeAny_mono (codeAny_call_builtin (R:=wants (λr s₂=>r = .none/\∃h' tk,s₂={ s with heap:=h',toks:=tk }/\ZetIs h' s.heap.objs.size items.size /\
     (∀b o,s.heap.get? b=some o->h'.get? b=some o)/\s.toks<=tk) E) PySem.F.called_set.init.plain PySem.F.entry_set_init (check_set_init_1 hT ?_)) λr₂ s₂ hr₂=>?_
   ·obtain⟨ol,hol,hcl,nl,hdl⟩:=hl;obtain⟨ocls,odict,odata,oslots⟩:=ol;simp only at hcl hdl;subst hcl;subst hdl;have hol1:(s.heap.push (setObj #[] 0 (.fresh 0 0 led))).get? l=some {cls:=.type "tuple",dict:=odict,data:=.seq items nl,slots:=oslots}:=xAf _ hol;have q4:=PySem.F.sub_tuple_set;have q5:=PySem.F.sub_tuple_frozenset;have q6:(Value.type "tuple" == Value.type "dict")=false:=by decide
    have hl1:(s.heap.push (setObj #[] 0 (.fresh 0 0 led))).IsTuple l items:=⟨_,hol1,rfl,nl,rfl⟩
    unfold Builtin.«set.__init__» noKeywords Builtin.Frozenset.updateFrom;generalize hPI:pyIter=PI;wp_walk
    subst hPI;refine wpAny_pyIter_tuple hl1 ?_;refine xAd (wpAny_runValue ?_);have hlS:l<s.heap.objs.size:=xA1 hol;have hh3:A.in1.in1.in1.handled=none:=by simp[hh]
    have hneI:l≠(s.heap.push (setObj #[] 0 (.fresh 0 0 led))).objs.size:=by
     rw[Heap.size_push];exact xA0 (Nat.lt_succ_of_lt hlS)
    have hSf:s.heap.objs.size∉[(s.heap.push (setObj #[] 0 (.fresh 0 0 led))).objs.size,l]:=by
     rw[Heap.size_push];simp only[xAv,xBv,or_false,not_or];exact⟨xA0 (Nat.lt_succ_self _),Nat.ne_of_gt hlS⟩
    refine fill ((Walks.tuple hh3 _ l hneI items).toS) hSf hi hin hb items.size 0 _ [] (Nat.zero_add _)
     ⟨⟨_,xAl _ rfl,rfl,rfl⟩,(hl1.push _)⟩ ⟨#[],0,_,xAf _ P0,rfl,⟨xAg _,rfl,rfl⟩,λe he=>absurd he (by simp)⟩ (λ_ z=>absurd z (by simp)) ?hR
    case hR=>
     intro s' mv d1;obtain⟨h',g',d',tk',os'⟩:=s';have eg:g'=s.gens:=mv.gens;have ed:d'=s.drawn:=mv.drawn;have eo:os'=s.os:=mv.os;have et:s.toks<=tk':=mv.toks;subst eg;subst ed;subst eo;change wpAny _ _ _ _ _ _;refine xAe ?_;change wpAny _ _ (ret Value.none) _ _ _;refine xAe ⟨rfl,h',tk',rfl,d1,λb o e=>?_,et⟩
     ·have hb0:=xA1 e;have hb1:b≠s.heap.objs.size:=xA0 hb0;have hb2:b≠(s.heap.push (setObj #[] 0 (.fresh 0 0 led))).objs.size:=by
       rw[Heap.size_push];exact xA0 (Nat.lt_succ_of_lt hb0)
      exact mv.heap b o (by simp only[xAv,xBv,or_false,not_or];exact⟨hb1,hb2⟩) (xAf _ (xAf _ e))
   ·cases r₂ with
    |error e=>exact hr₂
    |ok fl₂ =>
     cases fl₂ with
     |ret r=>
      obtain⟨rfl,h',tk,rfl,z1,z4,z5⟩:=hr₂;repeat (any_goals (first|assumption|wp_step))
      exact h _ _ z1 z4 z5
     |_=>exact hr₂.elim
  |_=>exact hr.elim
end
end SetA
namespace L2
open PySem PySem.Spec PyProof.Rows SetA
def ZetO(p:Addr)(n:Nat):HO:=HO.ext λh=>ZetIs h p n
theorem ue{P:Program}{w:World}{H:Hp}{h:Heap}{p:Addr}{n:Nat}(S:ZetIs h p n):ObjOk P w H h p (ZetO p n):=
 ⟨S,let ⟨_,_,_,q,_⟩:=S;⟨_,q⟩,λh1 h2 q k=>q.at' k⟩
def cSetZ:List V->Hp->VK->Prop:=λxs H Q=>∃(p:Addr) (ns:List Str),xs=[.ref p]/\H p=some (.tup (ns.map V.str))/\ns.length<=4/\ns.Nodup/\∀l:Addr,H l=none->Q (.ref l) (upd H l (ZetO l ns.length))
def cLenZ:List V->Hp->VK->Prop:=λxs H Q=>∃p n,xs=[V.ref p]/\H p=some (ZetO p n)/\n<=100000/\Q (.int n) H
section
variable{X:Cx}
theorem sB(hc:X.calm=true):CallR X (.type "set") cSetZ:=by
 intro Z s σ H xs us Q I r h;obtain⟨p,ns,rfl,hS,hl,hnd,h⟩:=h;obtain⟨u,rfl,ru⟩:=vals1 r;obtain rfl:u=Value.ref p:=ru;obtain⟨its,r1,t1,z1⟩:=I.tuple (SqT.of hS);have hlen:=r1.length;rw[xAa] at hlen;refine SetA.set_tupleZ (val:=λi=>ns.getD i Str.empty) (I.ok.hd hc) t1 (λi v hv=>?_) (λi j h1 h2=>?_) (by simp only[xAp];lia) λh' tk c1 c4 c5=>?_
 ·have hil:i<ns.length:=by
   have:=(Array.getElem?_eq_some_iff.mp hv).1;simp only[xAp] at this;lia
  obtain⟨u,e,t,ru⟩:=r1.get (i:=i) (x:=.str ns[i]) (by rw[xAw,xAk hil];rfl);rw[List.getElem?_toArray,e] at hv;cases hv;refine⟨t,?_⟩;rw[xBz,xAk hil];exact ru
 ·have hj:j<ns.length:=by
   simp only[xAp] at h2;lia
  rw[xBz,xBz,xAk hj,xAk (Nat.lt_trans h1 hj)];exact List.pairwise_iff_getElem.mp hnd i j (Nat.lt_trans h1 hj) hj h1
 ·rw[show its.toArray.size=ns.length by rw[xAp];lia] at c1;have hfr:s.heap.get? s.heap.objs.size=none:=by
   cases z:s.heap.get? s.heap.objs.size with
   |none=>rfl
   |some o=>exact absurd (xA1 z) (Nat.lt_irrefl _)
  obtain⟨hfree,I2⟩:=Inv.laidN (t':=tk) I c4 hfr (ue c1);exact⟨.ref s.heap.objs.size,_,I2,rfl,h _ hfree⟩
theorem sD:CallR X (.builtin "len") cLenZ:=by
 intro Z s σ H xs us Q I r h;obtain⟨p,n,rfl,hS,hl,q⟩:=h;obtain⟨u,rfl,ru⟩:=vals1 r;obtain rfl:u=Value.ref p:=ru;obtain⟨es,ep,t,S,rfl,hb⟩:ZetIs s.heap p n:=(I.hok p _ hS).1;exact call_len_set S ⟨rfl,rfl,rfl⟩ rfl hb (by lia) ⟨.int es.size,H,I.tok _,⟨_,rfl⟩,q⟩
end
end L2
namespace Fx
open PySem PySem.Spec L2
variable{X:Cx}{xs:List U}{ys:List V}
theorem OpR.or{f:Value->Value->Sem Value}{r r':R2}(h:OpR X f r)(h':OpR X f r'):OpR X f (λx y H Q=>r x y H Q\/r' x y H Q):=by
 intro Z s σ H x y v u Q I rx ry q;rcases q with q|q
 ·exact h Z s σ H x y v u Q I rx ry q
 ·exact h' Z s σ H x y v u Q I rx ry q
theorem CallR.or{f:Value}{r r':List V->Hp->VK->Prop}(h:CallR X f r)(h':CallR X f r'):CallR X f (λxs H Q=>r xs H Q\/r' xs H Q):=by
 intro Z s σ H xs us Q I rx q;rcases q with q|q
 ·exact h Z s σ H xs us Q I rx q
 ·exact h' Z s σ H xs us Q I rx q
theorem SlR.or{r r':V->Option Int->Option Int->Hp->VK->Prop}(h:SlR X r)(h':SlR X r'):SlR X (λx a b H Q=>r x a b H Q\/r' x a b H Q):=by
 intro Z s σ H x v vl vu lo hi sl Q I rx hs pl pu q;rcases q with q|q
 ·exact h Z s σ H x v vl vu lo hi sl Q I rx hs pl pu q
 ·exact h' Z s σ H x v vl vu lo hi sl Q I rx hs pl pu q
section
variable{B:Bs}{W:Wd}{S S':So}{H:Hp}{v w z:U}{u u1 u2:V}{vs:List U}{us:List V}{Q:VK}
theorem cI(rs:RS B W S H)(rv:Rv B W v u)(h:lsT S v=some xs):∃p ys,u=.ref p/\H p=some (.lst ys)/\Rvs B W xs ys:=by
 cases v with
 |lst _=>cases h;obtain⟨p,ys,e,f,r⟩:=rv;exact⟨p,ys,e,rs.fz _ _ f,r⟩
 |ref a=>
  unfold lsT at h;dsimp only at h;obtain⟨p,rfl,hm⟩:=rv;cases e:at? S a with
  |none=>rw[e] at h;cases h
  |some o=>
   rw[e] at h;cases o <;> cases h
   obtain⟨p',g,hp,hh,ro,_⟩:=rs.here e;rw[hm] at hp;cases hp;obtain⟨ys,rfl,r⟩:=ro;exact⟨p,ys,rfl,hh,r⟩
 |_=>cases h
theorem fL(rs:RS B W S H)(rv:Rv B W v u)(h:lsU S v=some xs):∃p ys,u=.ref p/\SqL B.K H p ys/\Rvs B W xs ys:=by
 cases v with
 |kl _=>cases h;obtain⟨p,ys,e,f,r⟩:=rv;exact⟨p,ys,e,dR rs.fz f,r⟩
 |lst _=>obtain⟨p,ys,e,f,r⟩:=cI (S:=S) rs rv (xs:=xs) h;exact⟨p,ys,e,.of f,r⟩
 |ref a=>obtain⟨p,ys,e,f,r⟩:=cI (S:=S) rs rv (xs:=xs) h;exact⟨p,ys,e,.of f,r⟩
 |_=>cases h
theorem eF(rs:RS B W S H)(rv:Rv B W v u)(h:sqU S v=some xs):∃p ys,u=.ref p/\(SqL B.K H p ys\/SqT B.K H p ys)/\Rvs B W xs ys:=by
 cases v with
 |tup _=>cases h;obtain⟨p,ys,e,f,r⟩:=rv;exact⟨p,ys,e,.inr (.of (rs.fz _ _ f)),r⟩
 |kt _=>cases h;obtain⟨p,ys,e,f,r⟩:=rv;exact⟨p,ys,e,.inr (f H),r⟩
 |kl _=>obtain⟨p,ys,e,f,r⟩:=fL (S:=S) rs rv (xs:=xs) h;exact⟨p,ys,e,.inl f,r⟩
 |lst _=>obtain⟨p,ys,e,f,r⟩:=fL (S:=S) rs rv (xs:=xs) h;exact⟨p,ys,e,.inl f,r⟩
 |ref a=>obtain⟨p,ys,e,f,r⟩:=fL (S:=S) rs rv (xs:=xs) h;exact⟨p,ys,e,.inl f,r⟩
 |_=>cases h
theorem VL.here(h:VL B W Q z S)(rs:RS B W S H)(rv:Rv B W z u):Q u H:=h W u H .refl rs rv
theorem VL.tup(h:VL B W Q (.tup vs) S)(rs:RS B W S H)(rv:Rvs B W vs us){p:Addr}(e:H p=none):Q (.ref p) (upd H p (.tup us)):=by
 obtain⟨le,rs'⟩:=rs.fresh (o:=.tup us) e;exact h _ _ _ le rs' ⟨p,us,rfl,bt,rv.mono le⟩
theorem fK{m:Bool}(e:mkL m vs S=.ok z S')(h:VL B W Q z S')(rs:RS B W S H)(rv:Rvs B W vs us){p:Addr}(hp:H p=none):Q (.ref p) (upd H p (.lst us)):=by
 cases m with
 |true=>
  cases e;have le:W.Le {W with μ:=W.μ++[p]}:=⟨λ_ _ h=>h,λ_ _ h=>cQ h,rfl⟩
  obtain⟨_,rs',ha⟩:=rs.push (o:=.lst vs) (h:=.lst us) hp ⟨us,rfl,rv.mono le⟩;exact h _ _ _ le rs' ⟨p,rfl,ha⟩
 |false=>
  cases e;obtain⟨le,rs'⟩:=rs.fresh (o:=.lst us) hp;exact h _ _ _ le rs' ⟨p,us,rfl,bt,rv.mono le⟩
theorem cW{n:Nat}{r:Res}(h:fits n r=.ok z S'):n<=sizeLine/\r=.ok z S':=by
 unfold fits at h;split at h
 ·next e=>exact⟨xCo e,h⟩
 ·cases h
theorem ld(r:Rvs B W xs ys)(lo hi:Option Int):Rvs B W (cutU xs lo hi) (cutV ys lo hi):=by
 unfold cutU cutV;rw[r.length];exact(r.drop _).take _
theorem gX(f:flatU v=true)(r:Rv B W v u):flatV u=true:=by
 cases v <;> first|(cases f;done)|(rw[show u=_ from r];rfl)
theorem iW:∀{vs:List U}{us:List V},vs.all flatU=true->Rvs B W vs us->us.all flatV=true
 |[],_,_,r=>by rw[show _=[] from r];rfl
 |x::xs,_,f,r=>by
  obtain⟨v,t,rfl,h1,h2⟩:=r;rw[xCj,xCh] at f;rw[xCj,gX f.1 h1,iW f.2 h2];rfl
theorem wm(fv:flatU v=true)(fw:flatU w=true)(r1:Rv B W v u1)(r2:Rv B W w u2):eqV u1 u2=eqF v w:=by
 cases v <;> first|(cases fv;done)|(cases w <;> first|(cases fw;done)|(rw[show u1=_ from r1,show u2=_ from r2];rfl))
theorem lF(f:flatU v=true)(r:Rv B W v u):∀{vs:List U}{us:List V},vs.all flatU=true->Rvs B W vs us->inV u us=anyF v vs
 |[],_,_,q=>by rw[show _=[] from q];rfl
 |x::xs,_,g,q=>by
  obtain⟨y,t,rfl,h1,h2⟩:=q;rw[xCj,xCh] at g;show(eqV y u||inV u t)=_;rw[lF f r g.2 h2,wm g.1 f h1 r];rfl
theorem wH(r:Rvs B W xs ys){i:Int}(h:atI xs i=some v):∃y,atI ys i=some y/\Rv B W v y:=by
 unfold atI at h⊢;rw[r.length];cases e:ixN xs.length i with
 |none=>rw[e] at h;cases h
 |some j=>rw[e] at h;exact r.get h
theorem e9{κ:Type} [DecidableEq κ] {k:κ}:∀{kvs:List (κ×U)}{vs:List (κ×V)},Rn B W kvs vs->(∀v,getK k kvs=some v->∃u,valV vs k=some u/\Rv B W v u)/\(getK k kvs=none->valV vs k=none)
 |[],_,r=>by rw[show _=[] from r];exact⟨(λv h=>nomatch h),λ_=>rfl⟩
 |(j,x)::t,_,r=>by
  obtain⟨v,q,rfl,h1,h2⟩:=r;by_cases e:j=k
  ·subst e;rw[dX rfl];unfold getK;rw[xCg rfl];exact⟨λv' h=>by cases h;exact⟨v,rfl,h1⟩,(λh=>nomatch h)⟩
  ·rw[dY e];unfold getK;rw[xCf e];exact e9 h2
theorem fk{k:Key}(h:keyU v=some k)(r:Rv B W v u):u=kV k:=by
 cases v <;> first|(cases h;exact r)|(cases h;done)
theorem iR:∀{xs:List U}{ks:List Key}{ys:List V},keysU xs=some ks->Rvs B W xs ys->ys=ks.map kV
 |[],_,_,h,r=>by cases h;exact r
 |x::xs,ks,_,h,r=>by
  obtain⟨y,ys,rfl,r1,r2⟩:=r;obtain⟨k,e1,h⟩:=xCi.mp h;obtain⟨ks',e2,rfl⟩:=Option.map_eq_some_iff.mp h;rw[fk e1 r1,iR e2 r2];rfl
theorem kJ{ks:List Key}(rs:RS B W S H)(h:keyT v=some ks)(r:Rv B W v u):∃b,u=.ref b/\H b=some (.tup (ks.map kV)):=by
 cases v <;> try (cases h;done)
 obtain⟨p,ys,rfl,f,r⟩:=r;exact⟨p,rfl,by rw[<- iR h r];exact rs.fz _ _ f⟩
theorem dh{f:U->U->Bool}{R:V->V->Prop}(hf:∀x y a b,f x y=true->Rv B W x a->Rv B W y b->R a b):∀{xs ys:List U}{as bs:List V},zipAll f xs ys=true->Rvs B W xs as->Rvs B W ys bs->as.length=bs.length/\∀(j:Nat)(x y:V),as[j]?=some x->bs[j]?=some y->R x y
 |[],[],_,_,_,r,q=>by rw[show _=[] from r,show _=[] from q];exact⟨rfl,λj x y h=>by simp at h⟩
 |[],_::_,_,_,h,_,_=>by cases h
 |_::_,[],_,_,h,_,_=>by cases h
 |x::xs,y::ys,_,_,h,r,q=>by
  obtain⟨a,t,rfl,r1,r2⟩:=r;obtain⟨b,t',rfl,q1,q2⟩:=q;unfold zipAll at h;rw[xCh] at h;obtain⟨l,z⟩:=dh hf h.2 r2 q2;refine⟨by simp[l],λj x' y' e1 e2=>?_⟩;cases j with
  |zero=>simp at e1 e2;subst e1 e2;exact hf _ _ _ _ h.1 r1 q1
  |succ j=>exact z j x' y' (by simpa using e1) (by simpa using e2)
theorem jJ{c:Bool}(h:eqS v w=some c)(r1:Rv B W v u1)(r2:Rv B W w u2):scal u1 u2=true/\decide (u1=u2)=c:=by
 obtain⟨a,h1,h⟩:=xCi.mp h;obtain⟨b,h2,h⟩:=xCi.mp h;rw[wZ h1] at r1;rw[wZ h2] at r2;cases a <;> cases b <;> first|(rw[show u1=_ from r1,show u2=_ from r2];refine⟨rfl,?_⟩;cases h;first|rfl|simp)|(cases h;done)
theorem eG{n:Nat}(h:(flatU v&&flatU w&&eqS v w==some true)=true)(r1:Rv B W v u1)(r2:Rv B W w u2):Al H n u1 u2:=by
 simp only[xCh,beq_iff_eq] at h;obtain⟨⟨f1,f2⟩,e⟩:=h;have:u1=u2:=xBe (jJ e r1 r2).2;subst this;exact .flat (gX f1 r1)
theorem fb(rs:RS B W S H):∀{n:Nat}{v w:U}{u1 u2:V},same S n v w=true->Rv B W v u1->Rv B W w u2->Al H n u1 u2
 |0,v,w,u1,u2,h,r1,r2=>eG (by unfold same at h;exact h) r1 r2
 |n+1,v,w,u1,u2,h,r1,r2=>by
  have key:(match lsT S v,lsT S w with
   |some xs,some ys=>zipAll (same S n) xs ys
   |_,_=>flatU v&&flatU w&&eqS v w==some true)=true->Al H (n+1) u1 u2:=λh=>by
   cases e1:lsT S v with
   |none=>rw[e1] at h;exact eG h r1 r2
   |some xs=>
    cases e2:lsT S w with
    |none=>rw[e1,e2] at h;exact eG h r1 r2
    |some ys=>
     rw[e1,e2] at h;obtain⟨p,as,rfl,hp,q1⟩:=cI rs r1 e1;obtain⟨p',bs,rfl,hp',q2⟩:=cI rs r2 e2;obtain⟨l,z⟩:=dh (λx y a b hs ra rb=>fb rs hs ra rb) h q1 q2;exact .lst hp hp' l z
  unfold same at h;cases v <;> first | exact key h | (cases w <;> first | exact key h | (
   obtain⟨p,as,rfl,f1,q1⟩:=r1;obtain⟨p',bs,rfl,f2,q2⟩:=r2;obtain⟨l,z⟩:=dh (λx y a b hs ra rb=>fb rs hs ra rb) h q1 q2;exact .tup (rs.fz _ _ f1) (rs.fz _ _ f2) l z))
end
end Fx
namespace Fx
open PySem PySem.Spec L2 PyProof.Rows
variable{X:Cx}{S:So}{H:Hp}{v w:U}{u1 u2:V}{b:Bool}{Q:VK}
def Pr2(B:Bs)(up:List (Str×Str))(p:Pm)(r:R2):Prop:=∀{W:Wd}{S:So}{H:Hp}{v w:U}{u1 u2:V}{z:U}{S':So}{Q:VK},RS B W S H->Rv B W v u1->Rv B W w u2->pr up p [v,w] S=.ok z S'->VL B W Q z S'->r u1 u2 H Q
def Pr1(B:Bs)(up:List (Str×Str))(p:Pm)(r:V->Hp->VK->Prop):Prop:=∀{W:Wd}{S:So}{H:Hp}{v:U}{u1:V}{z:U}{S':So}{Q:VK},RS B W S H->Rv B W v u1->pr up p [v] S=.ok z S'->VL B W Q z S'->r u1 H Q
def PrN(B:Bs)(up:List (Str×Str))(p:Pm)(r:List V->Hp->VK->Prop):Prop:=∀{W:Wd}{S:So}{H:Hp}{vs:List U}{us:List V}{z:U}{S':So}{Q:VK},RS B W S H->Rvs B W vs us->pr up p vs S=.ok z S'->VL B W Q z S'->r us H Q
section
variable{B:Bs}{up:List (Str×Str)}
def rOr(r r':R2):R2:=λx y H Q=>r x y H Q\/r' x y H Q
def rAdd(K:xFr):R2:=rOr (rI0 λi j=>.int (i+j)) (rOr (rCatA K) rCat)
theorem xQ{m:Bool}:Pr2 B up (.add m) (rAdd B.K):=by
 intro W S H v w u1 u2 z S' Q rs r1 r2 h q;change addU m v w S=_ at h;unfold addU at h;split at h
 ·cases h;exact .inl ⟨_,_,r1,r2,q.here rs rfl⟩
 ·obtain⟨hl,e⟩:=cW h;cases e;obtain⟨p,xs,rfl,f1,q1⟩:=r1;obtain⟨p',ys,rfl,f2,q2⟩:=r2;refine .inr (.inl ⟨p,p',xs,ys,rfl,rfl,rs.fz _ _ f1,rs.fz _ _ f2,by rw[q1.length,q2.length];exact hl,λp2 H2 sm hp=>?_⟩);obtain⟨le,rs2⟩:=(rs.same sm).addT hp;exact q _ _ _ le rs2 ⟨p2,_,rfl,bt,(q1.app q2).mono le⟩
 ·split at h
  ·next e1 e2=>
   obtain⟨hl,e⟩:=cW h;obtain⟨p,xs,rfl,f1,q1⟩:=cI rs r1 e1;obtain⟨p',ys,rfl,f2,q2⟩:=cI rs r2 e2;exact .inr (.inr ⟨p,p',xs,ys,rfl,rfl,f1,f2,by rw[q1.length,q2.length];exact hl,λp2 hp=>fK e q rs (q1.app q2) hp⟩)
  ·cases h
theorem xV:OpR X (binaryOp .Add) (rAdd X.K):=OpR.or vz (OpR.or rO vy)
theorem kN{f:Int->Int->U}{vs:List U}{z:U}{S':So}(h:i2 f S vs=.ok z S'):∃i j,vs=[.int i,.int j]/\z=f i j/\S'=S:=by
 unfold i2 at h;split at h
 ·cases h;exact⟨_,_,rfl,rfl,rfl⟩
 ·cases h
theorem oQ{p:Pm}{f:Int->Int->U}{g:Int->Int->V}(hp:∀vs S,pr up p vs S=i2 f S vs)(hf:∀W i j,Rv B W (f i j) (g i j)):Pr2 B up p (rI0 g):=by
 intro W S H v w u1 u2 z S' Q rs r1 r2 h q;rw[hp] at h;obtain⟨i,j,e,rfl,rfl⟩:=kN h;cases e;exact⟨i,j,r1,r2,q.here rs (hf _ _ _)⟩
theorem xz:Pr2 B up .sub (rI0 λi j=>.int (i-j)):=oQ (f:=λi j=>.int (i-j)) (λ_ _=>rfl) λ_ _ _=>rfl
theorem xI:Pr2 B up .lt (rI0 λi j=>.bl (decide (i<j))):=oQ (f:=λi j=>.bl (decide (i<j))) (λ_ _=>rfl) λ_ _ _=>rfl
theorem xK:Pr2 B up .le (rI0 λi j=>.bl (decide (i<=j))):=oQ (f:=λi j=>.bl (decide (i<=j))) (λ_ _=>rfl) λ_ _ _=>rfl
theorem xL:Pr2 B up .gt (rI0 λi j=>.bl (decide (j<i))):=oQ (f:=λi j=>.bl (decide (j<i))) (λ_ _=>rfl) λ_ _ _=>rfl
theorem xM:Pr2 B up .ge (rI0 λi j=>.bl (decide (j<=i))):=oQ (f:=λi j=>.bl (decide (j<=i))) (λ_ _=>rfl) λ_ _ _=>rfl
theorem jO{C:Int->Int->Prop} [∀i j,Decidable (C i j)] {f:Int->Int->U} {S:So} {vs:List U} {z:U} {S':So} (h:(match vs with
  |[.int i,.int j]=>match decide (C i j) with
   |true=>Res.ok (f i j) S
   |false=>.stuck
  |_=>.stuck)=.ok z S'):∃i j,vs=[.int i,.int j]/\C i j/\z=f i j/\S'=S:=by
 split at h
 ·split at h
  ·next e=>cases h;exact⟨_,_,rfl,xBe e,rfl,rfl⟩
  ·cases h
 ·cases h
theorem dB{i:Int}{n:Nat}(h:i.natAbs<2^n):Builtin.Int.intBits i<=n:=by
 unfold Builtin.Int.intBits;by_cases e:i=0
 ·subst e;simp
 ·have h0:i.natAbs≠0:=by lia
  have:=(Nat.log2_lt h0).mpr h;split <;> lia
theorem xE:Pr2 B up .mul (rI (λi j=>IntMulOk i j) λi j=>.int (i*j)):=by
 intro W S H v w u1 u2 z S' Q rs r1 r2 h q;cases v <;> try (cases h;done)
 ·cases w <;> try (cases h;done)
  next i j=>
  delta pr at h;dsimp only at h;split at h
  ·next hc=>
   cases h;have hc:=xBe hc;refine⟨i,j,r1,r2,?_,q.here rs rfl⟩;rcases hc with ⟨h1,h2⟩|h1|h1
   ·have a:=dB h1;have b:=dB h2;unfold IntMulOk;have:Builtin.Int.intTooBig (Builtin.Int.intBits i+Builtin.Int.intBits j)=false:=by
     unfold Builtin.Int.intTooBig bitsLine;exact xCn (by lia)
    rw[this];simp
   ·exact .of_right (xCk (dB h1) (by lia))
   ·exact .of_left (xCk (dB h1) (by lia))
  ·cases h
theorem vm:Pr2 B up .fdiv (rI CDivP λi j=>.int (i / j)):=by
 intro W S H v w u1 u2 z S' Q rs r1 r2 h q;obtain⟨i,j,e,hc,rfl,rfl⟩:=jO (C:=λi j=>0<j/\j<=10^18) (f:=λi j=>.int (i / j)) h;cases e;exact⟨i,j,r1,r2,hc,q.here rs rfl⟩
theorem xF:Pr2 B up .mod (rI (λ_ j=>0<j) λi j=>.int (i%j)):=by
 intro W S H v w u1 u2 z S' Q rs r1 r2 h q;obtain⟨i,j,e,hc,rfl,rfl⟩:=jO (C:=λi j=>0<j) (f:=λi j=>.int (i%j)) h;cases e;exact⟨i,j,r1,r2,hc,q.here rs rfl⟩
theorem xB:Pr2 B up .pow (rI CPow λi j=>.int (i^j.toNat)):=by
 intro W S H v w u1 u2 z S' Q rs r1 r2 h q;obtain⟨i,j,e,hc,rfl,rfl⟩:=jO (C:=λi j=>0<=j/\j<=1000/\i.natAbs<2^60) (f:=λi j=>.int (i^j.toNat)) h;cases e;exact⟨i,j,r1,r2,⟨hc.1,by lia,Nat.lt_trans hc.2.2 (by decide)⟩,q.here rs rfl⟩
def rEqA:R2:=rOr rEq (rOr (rAl true) (rAlL true))
def rUnl:R2:=λx y H Q=>∃a b xs ys,x=.ref a/\y=.ref b/\H a=some (.lst xs)/\H b=some (.lst ys)/\xs.length≠ys.length/\Q (.bl true) H
theorem vp(hu:X.A.units<cLine):OpR X (compareOp .NotEq) rUnl:=by
 intro Z s σ H x y v u Q I rx ry h;obtain⟨a,b,xs,ys,rfl,rfl,h1,h2,hne,q⟩:=h;cases (show v=Value.ref a from rx);cases (show u=Value.ref b from ry);obtain⟨its,r1,t1,z1⟩:=I.list (SqL.of h1);obtain⟨its2,r2,t2,z2⟩:=I.list (SqL.of h2);have l1:=r1.length;have l2:=r2.length;refine(SeqAt.RcNeAt.lists_lengths t1.isList t2.isList (by rw[xAp,xAp];exact bne_iff_ne.mpr (by lia)) hu) X.prog X.w X.xe _ ?_;exact bu I q rfl
def rNeA:R2:=rOr rNe (rOr rUnl (rOr (rAl false) (rAlL false)))
theorem iu{W:Wd}(rs:RS B W S H)(r1:Rv B W v u1)(r2:Rv B W w u2)(hn:eqS v w=none)(h:same S 80 v w=true)(q:Q (.bl b) H):rOr (rAl b) (rAlL b) u1 u2 H Q:=by
 have key:(match lsT S v,lsT S w with
   |some xs,some ys=>zipAll (same S 79) xs ys
   |_,_=>flatU v&&flatU w&&eqS v w==some true)=true->rOr (rAl b) (rAlL b) u1 u2 H Q:=λh=>by
  cases e1:lsT S v with
  |none=>rw[e1,hn] at h;simp at h
  |some xs=>
   cases e2:lsT S w with
   |none=>rw[e1,e2,hn] at h;simp at h
   |some ys=>
    rw[e1,e2] at h;obtain⟨p,as,rfl,hp,q1⟩:=cI rs r1 e1;obtain⟨p',bs,rfl,hp',q2⟩:=cI rs r2 e2;obtain⟨l,z⟩:=dh (λx y a b hs ra rb=>fb rs hs ra rb) h q1 q2;exact .inr ⟨p,p',as,bs,79,rfl,rfl,hp,hp',l,by decide,z,q⟩
 unfold same at h;cases v <;> first | exact key h | (cases w <;> first | exact key h | (
  obtain⟨p,as,rfl,f1,q1⟩:=r1;obtain⟨p',bs,rfl,f2,q2⟩:=r2;obtain⟨l,z⟩:=dh (λx y a b hs ra rb=>fb rs hs ra rb) h q1 q2;exact .inl ⟨p,p',as,bs,79,rfl,rfl,rs.fz _ _ f1,rs.fz _ _ f2,l,by decide,z,q⟩))
theorem y4:Pr2 B up .eq rEqA:=by
 intro W S H v w u1 u2 z S' Q rs r1 r2 h q;change eqU id v w S=_ at h;unfold eqU at h;split at h
 ·next c e=>
  cases h;obtain⟨a,b⟩:=jJ e r1 r2;exact .inl ⟨a,by rw[b];exact q.here rs rfl⟩
 ·next e=>
  split at h
  ·next e2=>cases h;exact .inr (iu rs r1 r2 e e2 (q.here rs rfl))
  ·cases h
theorem yY:Pr2 B up .ne rNeA:=by
 intro W S H v w u1 u2 z S' Q rs r1 r2 h q;change neU v w S=_ at h;unfold neU at h;split at h
 ·next c e=>
  cases h;obtain⟨a,b⟩:=jJ e r1 r2;exact .inl ⟨a,by rw[b];exact q.here rs rfl⟩
 ·next e=>
  split at h
  ·next e2=>
   cases h;unfold unlU at e2;split at e2
   ·next xs ys f1 f2=>
    obtain⟨p,as,rfl,hp,q1⟩:=cI rs r1 f1;obtain⟨p',bs,rfl,hp',q2⟩:=cI rs r2 f2;refine .inr (.inl ⟨p,p',as,bs,rfl,rfl,hp,hp',λz=>?_,q.here rs rfl⟩);rw[q1.length,q2.length] at z;rw[z,Nat.beq_refl] at e2;cases e2
   ·cases e2
  ·split at h
   ·next e2=>cases h;exact .inr (.inr (iu rs r1 r2 e e2 (q.here rs rfl)))
   ·cases h
theorem xD:Pr1 B up .neg (rU λi=>.int (-i)):=by
 intro W S H v u1 z S' Q rs r1 h q;cases v <;> first|(cases h;done)|(cases h;exact⟨_,r1,q.here rs rfl⟩)
theorem y8(hu:X.A.units+100<cLine):OpR X (compareOp .Eq) rEqA:=OpR.or xT (OpR.or (rT hu) (oW hu))
theorem y6(hu:X.A.units+100<cLine):OpR X (compareOp .NotEq) rNeA:=OpR.or xS (OpR.or (vp (by lia)) (OpR.or (rR hu) (oS hu)))
def rInS(n:Bool):R2:=λx y H Q=>∃i j,x=.str i/\y=.str j/\Q (.bl (if n then !(!(Builtin.Str.occurrences j i 0 j.length 1).isEmpty) else !(Builtin.Str.occurrences j i 0 j.length 1).isEmpty)) H
def rInD(n:Bool):R2:=λy x H Q=>∃a o,x=.ref a/\DGet H a y o/\Q (.bl (if n then !o.isSome else o.isSome)) H
def rInA(K:xFr)(n:Bool):R2:=rOr (rIn K n) (rOr (rInS n) (rInD n))
theorem pB{W:Wd}{n:Bool}(rs:RS B W S H)(r1:Rv B W v u1)(r2:Rv B W w u2)(h:inU S v w=some b)(q:Q (.bl (if n then !b else b)) H):rInA B.K n u1 u2 H Q:=by
 have seq:∀xs,sqU S w=some xs->(if flatU v&&xs.all flatU then some (anyF v xs) else none)=some b->rInA B.K n u1 u2 H Q:=λxs e h=>by
  split at h
  ·next hf=>
   rw[xCh] at hf;cases h;obtain⟨p,ys,rfl,sq,rr⟩:=eF rs r2 e;refine .inl ⟨p,ys,rfl,sq,gX hf.1 r1,iW hf.2 rr,?_⟩;rw[lF hf.1 r1 hf.2 rr];exact q
  ·cases h
 unfold inU at h;split at h
 ·split at h
  ·cases h;exact .inr (.inl ⟨_,_,r1,r2,q⟩)
  ·cases h
 ·next a=>
  split at h
  ·next kvs e=>
   obtain⟨p,g,hm,hh,ro,_⟩:=rs.here e;obtain⟨p',e2,hm'⟩:=r2;rw[hm] at hm';cases hm';obtain⟨ks,rfl,rn⟩:=ro;cases ek:keyU v with
   |none=>rw[ek] at h;cases h
   |some k=>
    rw[ek] at h;have hb:(getK k kvs).isSome=b:=xB3 h;refine .inr (.inr ⟨p,valV ks k,e2,.inl ⟨ks,k,.inl hh,fk ek r1,rfl⟩,?_⟩);have:(valV ks k).isSome=b:=by
     obtain⟨h1,h2⟩:=e9 (k:=k) rn;rw[<- hb];cases z:getK k kvs with
     |none=>rw[h2 z];rfl
     |some y=>obtain⟨y',e3,_⟩:=h1 y z;rw[e3];rfl
    rw[this];exact q
  ·next kvs e=>
   obtain⟨p,g,hm,hh,ro,_⟩:=rs.here e;obtain⟨p',e2,hm'⟩:=r2;rw[hm] at hm';cases hm';obtain⟨ks,rfl,rn⟩:=ro;cases ek:keyT v with
   |none=>rw[ek] at h;cases h
   |some k=>
    rw[ek] at h;have hb:(getK k kvs).isSome=b:=xB3 h;obtain⟨bb,rfl,hbb⟩:=kJ rs ek r1;refine .inr (.inr ⟨p,valV ks k,e2,.inr ⟨ks,k,bb,.inl hh,rfl,hbb,rfl⟩,?_⟩);have:(valV ks k).isSome=b:=by
     obtain⟨h1,h2⟩:=e9 (k:=k) rn;rw[<- hb];cases z:getK k kvs with
     |none=>rw[h2 z];rfl
     |some y=>obtain⟨y',e3,_⟩:=h1 y z;rw[e3];rfl
    rw[this];exact q
  ·next xs e=>exact seq xs (by show lsU S (.ref a)=_;unfold lsU;dsimp only;rw[e]) h
  ·cases h
 ·split at h
  ·next xs e=>exact seq xs e h
  ·cases h
theorem y3:Pr2 B up .inn (rInA B.K false):=by
 intro W S H v w u1 u2 z S' Q rs r1 r2 h q;change obB (inU S v w) id S=_ at h;unfold obB at h;split at h
 ·next b e=>cases h;exact pB rs r1 r2 e (q.here rs rfl)
 ·cases h
theorem xC:Pr2 B up .nin (rInA B.K true):=by
 intro W S H v w u1 u2 z S' Q rs r1 r2 h q;change obB (inU S v w) not S=_ at h;unfold obB at h;split at h
 ·next b e=>cases h;exact pB rs r1 r2 e (q.here rs rfl)
 ·cases h
theorem vx(hu:X.A.units+1<cLine):OpR X (compareOp .In) (rInD false):=by
 intro Z s σ H x y v u Q I rx ry ⟨a,o,e,g,q⟩;subst e;obtain rfl:u=Value.ref a:=ry;exact zr hu I g rx λs3 I3=>⟨.bl o.isSome,H,I3,rfl,q⟩
theorem rQ(hu:X.A.units+1<cLine):OpR X (compareOp .NotIn) (rInD true):=by
 intro Z s σ H x y v u Q I rx ry ⟨a,o,e,g,q⟩;subst e;obtain rfl:u=Value.ref a:=ry;exact sy hu I g rx λs3 I3=>⟨.bl (!o.isSome),H,I3,rfl,q⟩
theorem y7(hu:X.A.units+1<cLine):OpR X (compareOp .In) (rInA X.K false):=OpR.or lX (OpR.or lW (vx hu))
theorem xU(hu:X.A.units+1<cLine):OpR X (compareOp .NotIn) (rInA X.K true):=OpR.or gN (OpR.or gM (rQ hu))
def rIxD:R2:=λx y H Q=>∃a v,x=.ref a/\DGet H a y (some v)/\Q v H
theorem sj(hu:X.A.units+1<cLine):IxR X rIxD:=by
 intro value slice Z s σ H x y v u Q I rx ry ⟨a,w,e,g,q⟩ hs;subst e;obtain rfl:v=Value.ref a:=rx;have hT:=i9 I g;unfold subscriptTail;refine xAd ?_;rw[getitemInPython_of_ne hT.not_modules];refine xAd (wpAny_specialOf hT PySem.F.slot_dict_getitem.lookup ?_);have fin:wpAny (model X.prog X.w) X.A (subscripted slice false (.ref a) u) (λr s₃=>wpAny (model X.prog X.w) X.A (letTemporaryGo value (.ref a) r>>=λ_=>pure r) (EP X Z σ Q) X.xe s₃) X.xe s:=by
  rw[hs];exact wpAny_operating (mG hu I g ry λw' s3 I3 rw'=>xAd (wpAny_letTemporaryGo (xAe ⟨w,H,I3,rw',q⟩)))
 first
  |exact xAe (xAd fin)
  |exact xAd (xAe (xAd fin))
  |exact xAd fin
def rIxK(w:World)(K:xFr):R2:=λx y H Q=>∃a z v u,x=.ref a/\KD w K a/\y=.str z/\PySem.W.nsIn K a z=some (some u)/\RelV v u/\Q v H
theorem yi:IxR X (rIxK X.w X.K):=by
 intro value slice Z s σ H x y v u Q I rx ry ⟨a,z,w,uu,e,⟨es,n,hl,hk,lo⟩,e2,hn,rw',q⟩ hs;subst e e2;obtain rfl:v=Value.ref a:=rx;obtain⟨t,rfl⟩:=ry;have hm:=PySem.W.mapOf_K (prog:=X.prog) (w:=X.w) (λb o e=>I.kIn b o e) hl hk;have hT:=hm.typeIs;unfold subscriptTail;refine xAd ?_;rw[getitemInPython_of_ne hT.not_modules];refine xAd (wpAny_specialOf hT PySem.F.slot_dict_getitem.lookup ?_);have fin:wpAny (model X.prog X.w) X.A (subscripted slice false (.ref a) (.str z t)) (λr s₃=>wpAny (model X.prog X.w) X.A (letTemporaryGo value (.ref a) r>>=λ_=>pure r) (EP X Z σ Q) X.xe s₃) X.xe s:=by
  rw[hs];exact wpAny_operating (wpAny_getItem_of (strKind_is X.prog X.w z t) hm (PySem.W.find_K hl hn) (xAd (wpAny_letTemporaryGo (xAe ⟨w,H,I.tok _,rw',q⟩))))
 first
  |exact xAe (xAd fin)
  |exact xAd (xAe (xAd fin))
  |exact xAd fin
def rIxA(w:World)(K:xFr):R2:=λx y H Q=>(rIx K x y H Q\/rIxD x y H Q)\/rIxK w K x y H Q
theorem yM(hu:X.A.units+1<cLine):IxR X (rIxA X.w X.K):=(vU.or (sj hu)).or yi
end
end Fx
namespace Fx
open PySem PySem.Spec L2
open PyProof.Rows hiding St
variable{t':TS}{S:So}{σ:Sg}{τ:St}{H:Hp}{r:R2}
structure FE(X:Cx)(B:Bs)(G:Gx Prop)(Ex:St->XK)(e:Expr)(c:TEx Prop):Prop where
 p:PE X e (LE B G Ex c)
 m:MonE G c
structure FA(X:Cx)(B:Bs)(G:Gx Prop)(Ex:St->XK)(es:List Expr)(c:TAx Prop):Prop where
 p:PA X es (LA B G Ex c)
 m:MonA G c es.length
structure FT(X:Cx)(B:Bs)(G:Gx Prop)(Ex:St->XK)(e:Expr)(c:TTx Prop):Prop where
 p:PT X e (LT B G Ex c)
 m:MonT G c
structure FS(X:Cx)(B:Bs)(G:Gx Prop)(Ex:St->XK)(s:Stmt)(c:TSx Prop):Prop where
 p:PS X s (LS B G Ex c)
 m:MonS G c
structure FSs(X:Cx)(B:Bs)(G:Gx Prop)(Ex:St->XK)(s:List Stmt)(c:TSx Prop):Prop where
 p:PSs X s (LS B G Ex c)
 m:MonS G c
section
variable{X:Cx}{e:Expr}{es:List Expr}{st:Stmt}{sts:List Stmt}
theorem wkE{t t':TE}(h:PE X e t)(w:∀σ H Q,t' σ H Q->t σ H Q):PE X e t':=λZ s σ H Q I q=>h Z s σ H Q I (w _ _ _ q)
theorem wkA{t t':TA}(h:PA X es t)(w:∀σ H Q,t' σ H Q->t σ H Q):PA X es t':=λpos Z s σ H Q I q=>h pos Z s σ H Q I (w _ _ _ q)
theorem wkT{t t':TT}(h:PT X e t)(w:∀σ H Q,t' σ H Q->t σ H Q):PT X e t':=λZ s σ H Q I q=>h Z s σ H Q I (w _ _ _ q)
theorem wkS{t:TS}(h:PS X st t)(w:∀D σ H,t' D σ H->t D σ H):PS X st t':=λZ s σ H D I q=>h Z s σ H D I (w _ _ _ q)
theorem wkSs{t:TS}(h:PSs X sts t)(w:∀D σ H,t' D σ H->t D σ H):PSs X sts t':=λZ s σ H D I q=>h Z s σ H D I (w _ _ _ q)
end
section
variable{B:Bs}{up:List (Str×Str)}{G:Gx Prop}{Ex:St->XK}{τ:St}{H:Hp}{Q:VK}{W W':Wd}{c a b:TEx Prop}{as:TAx Prop}{n:Nat}{p:Pm}
theorem VL.inc{v:U}(le:W.Le W')(h:VL B W Q v S):VL B W' Q v S:=λW2 u H le2=>h W2 u H (le.trans le2)
theorem NL.inc{Q:St->Hp->Prop}{v:Sg}(le:W.Le W')(h:NL B W Q v S):NL B W' Q v S:=λW2 u H le2=>h W2 u H (le.trans le2)
theorem LEe.inc{D:Ends}(le:W.Le W'):EeLe (LEe B Ex W D) (LEe B Ex W' D):=⟨λ_ _=>NL.inc le,λ_ _=>VL.inc le,λ_ _=>NL.inc le,λ_ _=>NL.inc le,λ_ _ _ h W2 τ C dx H le2=>h W2 τ C dx H (le.trans le2)⟩
theorem LE.go{k:Kv Prop}(m:MonE G c)(rs:RS B W S H)(rg:Rg B W σ τ)(h:c G σ S (XL B W (Ex τ)) k)(hk:∀v S' W' u H',W.Le W'->RS B W' S' H'->Rv B W' v u->Rg B W' σ τ->k v S'->Q u H'):LE B G Ex c τ H Q:=
 ⟨W,σ,S,rs,rg,m.m (λ_ _ h=>h) (λv S' h' W' u H' le rs' rv=>hk v S' W' u H' le rs' rv (rg.mono le) h') h⟩
theorem LA.go{k:List U->So->Prop}{Q:List V->Hp->Prop}(m:MonA G as n)(rs:RS B W S H)(rg:Rg B W σ τ)(h:as G σ S (XL B W (Ex τ)) k)(hk:∀v S' W' u H',v.length=n->W.Le W'->RS B W' S' H'->Rvs B W' v u->Rg B W' σ τ->k v S'->Q u H'):LA B G Ex as τ H Q:=
 ⟨W,σ,S,rs,rg,m.m (λ_ _ h=>h) (λv S' hl h' W' u H' le rs' rv=>hk v S' W' u H' hl le rs' rv (rg.mono le) h') h⟩
theorem LT.go{t:TTx Prop}{k:Bool->So->Prop}{Q:Bool->Hp->Prop}(m:MonT G t)(rs:RS B W S H)(rg:Rg B W σ τ)(h:t G σ S (XL B W (Ex τ)) k)(hk:∀v S' W' H',W.Le W'->RS B W' S' H'->Rg B W' σ τ->k v S'->Q v H'):LT B G Ex t τ H Q:=
 ⟨W,σ,S,rs,rg,m.m (λ_ _ h=>h) (λv S' h' W' H' le rs'=>hk v S' W' H' le rs' (rg.mono le) h') h⟩
theorem XL.upf(le:W.Le W')(E:XK):∀e S,XL B W E e S->XL B W' E e S:=λ_ _=>XL.up le
def K1(B:Bs)(up:List (Str×Str))(p:Pm)(Q:VK):VK:=λu H=>∃W S v z S',RS B W S H/\Rv B W v u/\pr up p [v] S=.ok z S'/\VL B W Q z S'
def K2(B:Bs)(up:List (Str×Str))(p:Pm)(Q:VK):V->V->Hp->Prop:=λu1 u2 H=>∃W S v w z S',RS B W S H/\Rv B W v u1/\Rv B W w u2/\pr up p [v,w] S=.ok z S'/\VL B W Q z S'
def KN(B:Bs)(up:List (Str×Str))(p:Pm)(Q:VK):List V->Hp->Prop:=λus H=>∃W S vs z S',RS B W S H/\Rvs B W vs us/\pr up p vs S=.ok z S'/\VL B W Q z S'
variable(g:MonG up G)
include g
theorem LE.p1(ma:MonE G a)(h:LE B G Ex (cP p (aC a aN)) τ H Q):LE B G Ex a τ H (K1 B up p Q):=by
 obtain⟨W,σ,S,rs,rg,h⟩:=h;refine LE.go ma rs rg h λv S' W' u H' le rs' rv rg' h'=>?_;obtain⟨z,S2,e,q⟩:=g.pok h';exact⟨W',S',v,z,S2,rs',rv,e,q.inc le⟩
theorem LE.p2(ma:MonE G a)(mb:MonE G b)(h:LE B G Ex (cP p (lst2 a b)) τ H Q):LE B G Ex a τ H λx H1=>LE B G Ex b τ H1 λy H2=>K2 B up p Q x y H2:=by
 obtain⟨W,σ,S,rs,rg,h⟩:=h;refine LE.go ma rs rg h λv S' W' u H' le rs' rv rg' h'=>?_;refine LE.go mb rs' rg' (mb.m (XL.upf le _) (λ_ _ h=>h) h') λw S2 W2 u2 H2 le2 rs2 rv2 _ h2=>?_;obtain⟨z,S3,e,q⟩:=g.pok h2;exact⟨W2,S2,v,w,z,S3,rs2,rv.mono le2,rv2,e,q.inc (le.trans le2)⟩
theorem LE.pn(ma:MonA G as n)(h:LE B G Ex (cP p as) τ H Q):LA B G Ex as τ H (KN B up p Q):=by
 obtain⟨W,σ,S,rs,rg,h⟩:=h;refine LA.go ma rs rg h λv S' W' u H' _ le rs' rv rg' h'=>?_;obtain⟨z,S2,e,q⟩:=g.pok h';exact⟨W',S',v,z,S2,rs',rv,e,q.inc le⟩
end
section
variable{B:Bs}{up:List (Str×Str)}{G:Gx Prop}{Ex:St->XK}{c a b:TEx Prop}{as:TAx Prop}{t u:TTx Prop}
theorem LE.imp{Q Q':VK}(m:MonE G c)(h:LE B G Ex c τ H Q)(hq:∀u H,Q u H->Q' u H):LE B G Ex c τ H Q':=by
 obtain⟨W,σ,S,rs,rg,h⟩:=h;exact⟨W,σ,S,rs,rg,m.m (λ_ _ h=>h) (λv S h W' u H le rs rv=>hq _ _ (h W' u H le rs rv)) h⟩
theorem LA.imp{n:Nat}{Q Q':List V->Hp->Prop}(m:MonA G as n)(h:LA B G Ex as τ H Q)(hq:∀u H,Q u H->Q' u H):LA B G Ex as τ H Q':=by
 obtain⟨W,σ,S,rs,rg,h⟩:=h;exact⟨W,σ,S,rs,rg,m.m (λ_ _ h=>h) (λv S _ h W' u H le rs rv=>hq _ _ (h W' u H le rs rv)) h⟩
variable{X:Cx}{e ea eb ec ed:Expr}{es:List Expr}{pos p1 p2:Pos}{x:Str}{i:Nat}{pm:Pm}(g:MonG up G)
include g
theorem f_v(hN:X.N[i]?=some x)(hv:Vis X.env.scope x)(hd:(x==("__debug__":Str))=false)(hcd:(x==("__classdict__":Str))=false):FE X B G Ex (.Name x pos) (cV i):=
 ⟨wkE (uZ hN hv hd hcd) λτ H Q zz=>by
  obtain⟨W,σ,S,rs,rg,h⟩:=zz;unfold cV at h;cases e:nth σ i with
  |none=>rw[e] at h;exact(g.no h).elim
  |some v=>rw[e] at h;obtain⟨u,e2,rv⟩:=rg.v i v e;exact⟨u,e2,h W u H .refl rs rv⟩,mV g⟩
omit g in
theorem f_c{v:V}{u:U}(h:PE X e (tC v))(r:∀W,Rv B W u v):FE X B G Ex e (cC u):=⟨wkE h λτ H Q ⟨W,σ,S,rs,rg,h⟩=>h W v H .refl rs (r W),⟨λhx hk h=>hk _ _ h⟩⟩
theorem my{op:Operator}(ho:OpR X (binaryOp op) r)(hp:Pr2 B up pm r)(ha:FE X B G Ex ea a)(hb:FE X B G Ex eb b):FE X B G Ex (.BinOp ea op eb pos) (cP pm (lst2 a b)):=
 ⟨wkE (xp ho ha.p hb.p) λτ H Q h=>(LE.p2 g ha.m hb.m h).imp ha.m λx H1 h1=>h1.imp hb.m λy H2 ⟨W,S,v,w,z,S',rs,r1,r2,e,q⟩=>hp rs r1 r2 e q,mP g (mAC g ha.m (mAC g hb.m (mAN g)))⟩
theorem zd{op:UnaryOp}{r:V->Hp->VK->Prop}(ho:UnR X (unaryOp op) r)(hp:Pr1 B up pm r)(ha:FE X B G Ex ea a):FE X B G Ex (.UnaryOp op ea pos) (cP pm (aC a aN)):=
 ⟨wkE (xn ho ha.p) λτ H Q h=>(LE.p1 g ha.m h).imp ha.m λx H1 ⟨W,S,v,z,S',rs,r1,e,q⟩=>hp rs r1 e q,mP g (mAC g ha.m (mAN g))⟩
theorem zi(hr:IxR X r)(hp:Pr2 B up pm r)(ha:FE X B G Ex ea a)(hb:FE X B G Ex eb b)(hs:PlainIx eb):FE X B G Ex (.Subscript ea eb pos) (cP pm (lst2 a b)):=
 ⟨wkE (xq hr ha.p hb.p hs) λτ H Q h=>(LE.p2 g ha.m hb.m h).imp ha.m λx H1 h1=>h1.imp hb.m λy H2 ⟨W,S,v,w,z,S',rs,r1,r2,e,q⟩=>hp rs r1 r2 e q,mP g (mAC g ha.m (mAC g hb.m (mAN g)))⟩
theorem gY:FA X B G Ex [] aN:=⟨wkA eJ λτ H Q ⟨W,σ,S,rs,rg,h⟩=>h W [] H .refl rs rfl,mAN g⟩
theorem eZ(ha:FE X B G Ex e a)(hs:FA X B G Ex es as)(hst:noStar e=true):FA X B G Ex (e::es) (aC a as):=
 ⟨wkA (jv ha.p hs.p hst) λτ H Q ⟨W,σ,S,rs,rg,h⟩=>LE.go ha.m rs rg h λv S' W' u H' le rs' rv rg' h' =>
  LA.go hs.m rs' rg' (hs.m.m (XL.upf le _) (λ_ _ _ h=>h) h') λvs S2 W2 us H2 _ le2 rs2 rvs _ h2=>h2 W2 (u::us) H2 (le.trans le2) rs2 ⟨u,us,rfl,rv.mono le2,rvs⟩,mAC g ha.m hs.m⟩
theorem yn{k:Nat}(hs:FA X B G Ex es as)(hl:es.length<=1000):FE X B G Ex (.Tuple es k pos) (cT as):=
 ⟨wkE (u0 hs.p) λτ H Q ⟨W,σ,S,rs,rg,h⟩=>LA.go hs.m rs rg h λvs S' W' us H' hn le rs' rvs _ h'=>⟨by rw[rvs.length,hn];exact small hl,λp hp=>VL.tup (VL.inc le h') rs' rvs hp⟩,mT g hs.m⟩
theorem yr{m:Bool}(hs:FA X B G Ex es as):FE X B G Ex (.List es pos) (cP (.lst m) as):=
 ⟨wkE (va hs.p) λτ H Q h=>(LE.pn g hs.m h).imp hs.m λus H1 zz=>by
  obtain⟨W,S,vs,z,S',rs,rv,e,q⟩:=zz;obtain⟨hl,e⟩:=cW (show fits vs.length (mkL m vs S)=_ from e);exact⟨by rw[rv.length];exact hl,λp hp=>fK e q rs rv hp⟩,mP g hs.m⟩
theorem yw{op:CmpOp}(ho:OpR X (compareOp op) r)(hp:Pr2 B up pm r)(hv:∀v w S z S',pr up pm [v,w] S=.ok z S'->∃c,z=.bl c)(ha:FE X B G Ex ea a)(hb:FE X B G Ex eb b)(hm:behindInMarks op eb=false):FT X B G Ex (.Compare ea [op] [eb] pos) (tB (cP pm (lst2 a b))):=by
 have mm:=mP g (p:=pm) (mAC g ha.m (mAC g hb.m (mAN g)));refine⟨wkT (j8 ho ha.p hb.p hm) λτ H Q h=>?_,mB g mm⟩;have h':LE B G Ex (cP pm (lst2 a b)) τ H (λx H'=>∃k,x=.bl k/\Q k H'):=by
  obtain⟨W,σ,S,rs,rg,h⟩:=h;refine LE.go mm rs rg h λv S' W' u H' le rs' rv rg' h'=>?_;cases v <;> first|(exact(g.no h').elim)|exact⟨_,rv,h' W' H' le rs'⟩
 exact(LE.p2 g ha.m hb.m h').imp ha.m λx H1 h1=>h1.imp hb.m λy H2 ⟨W,S,v,w,z,S',rs,r1,r2,e,q⟩=>hp rs r1 r2 e q
theorem tZ(h:FE X B G Ex e c)(he:∀whole,isTrue e X.env whole=(do let v <- whole;standAt e.pos;holding [v] (truthy v))):FT X B G Ex e (tB c):=
 ⟨wkT (uJ h.p he) λτ H Q ⟨W,σ,S,rs,rg,h1⟩=>LE.go h.m rs rg h1 λv S' W' u H' le rs' rv rg' h'=>by
  cases v <;> first|(exact(g.no h').elim)|exact⟨_,rv,h' W' H' le rs'⟩,mB g h.m⟩
theorem zg(h:FT X B G Ex ea t):FT X B G Ex (.UnaryOp .Not ea pos) (tNt t):=
 ⟨wkT (uK h.p) λτ H Q ⟨W,σ,S,rs,rg,h1⟩=>LT.go h.m rs rg h1 λv S' W' H' le rs' rg' h'=>h' W' H' le rs',mNt g h.m⟩
end
end Fx
namespace L2
open PySem PySem.Spec PyProof.Rows PySem.Builtin PySem.Builtin.ObjectAttr
noncomputable abbrev Cx.lp(X:Cx):Cx:=X.wish (notedBy (model X.prog X.w) X.A X.env (cameBackBy (model X.prog X.w) X.A X.env X.xe))
section
variable{X:Cx}{pos:Pos}
theorem qP{tg iter:Expr}{body:List Stmt}{wi:TI}{g:TG}{tb:TS}(hc:X.calm=true)(hi:PI X tg iter wi)(hg:PG X.lp tg g)(hb:PSs X.lp body tb)(hs:∀x,foldedSetIterable iter X.env x=pure x):PS X (.For tg iter body [] pos) (tFor wi g tb):=by
 intro Z s σ H D I h;refine wpAny_For (thn (hi Z s σ H _ I h) λv s1 h1=>thn h1 λitv s2 h2=>?_) hs;obtain⟨it,fp,tn,J,H2,e,I2,T,st2,f2,W,⟨m0,w0⟩,turn⟩:=h2;subst e;have stat:∀{H':Hp},(∀b∈fp,H' b=none)->∀b∈fp,FpOk X Z H' b:=λhn b hb=>⟨hn b hb,(f2 b hb).2⟩
 refine codeAny_forLoop_any (λn s'=>∃i σ' H',Inv X Z σ' H' s'/\tn i s'.heap/\(∀b∈fp,H' b=none)/\W i n σ' H') ?_ m0 ⟨0,σ,H2,I2,st2,λb hb=>(f2 b hb).1,w0⟩;rintro n s3 ⟨i,σ3,H3,I3,st3,fr3,w3⟩
 rcases turn i n σ3 H3 w3 with ⟨stop,qn⟩|⟨go,N,hN,step⟩
 ·refine thn (T.done X rfl rfl rfl hc i Z s3 σ3 H3 _ I3 (stat fr3) st3 stop) λr s4 ⟨hr,I4⟩=>?_;subst hr;exact wpAny_execs_nil ⟨σ3,H3,I4,qn⟩
 ·refine thn (T.item X rfl rfl rfl hc i Z s3 σ3 H3 _ I3 (stat fr3) st3 go) λr s4 ⟨u,hr,h4⟩=>?_;subst hr;refine thn h4 λ_ s5 zz=>?_;obtain⟨x,H5,I5,r5,y5,st5,fr5⟩:=zz;have I5':=I5.pinned (stat fr5) (T.obj _ _ st5);refine thn (hg _ s5 σ3 H5 x u _ (I5'.wish _) r5 (step x H5 y5)) λ_ s6 zz=>?_;obtain⟨σ6,H6,I6,q6⟩:=zz;refine thn (hb _ s6 σ6 H6 _ I6 q6) λf s7 q7=>?_;have again:∀{σ7:St}{H7:Hp},Inv X (Z++pinsAt fp s5.heap) σ7 H7 s7->N σ7 H7->∃m,m<n/\∃i σ' H',Inv X Z σ' H' s7/\tn i s7.heap/\(∀b∈fp,H' b=none)/\W i m σ' H':=λ{σ7 H7} I7 n7=>by
   obtain⟨m',hm,w7⟩:=hN σ7 H7 n7;refine⟨m',hm,i+1,σ7,H7,I7.unpinned,T.keep _ _ _ st5 λb hb o e=>(I7.pin (b,o) (xBt _ (xBt _ (dz hb e)))).1,λb hb=>?_,w7⟩;obtain⟨o,e,d⟩:=T.obj _ _ st5 b hb;exact(I7.pin (b,o) (xBt _ (xBt _ (dz hb e)))).2.1
  cases f with
  |next=>obtain⟨σ7,H7,I7,n7⟩:=q7;exact again I7.unwish n7
  |cont=>obtain⟨σ7,H7,I7,n7⟩:=q7;exact again I7.unwish n7
  |brk=>obtain⟨σ7,H7,I7,q7⟩:=q7;exact⟨σ7,H7,I7.unwish.unpinned,q7⟩
  |ret v=>obtain⟨x7,σ7,H7,I7,r7,q7⟩:=q7;exact⟨x7,σ7,H7,I7.unwish.unpinned,r7,q7⟩
end
def CXz(_:Program)(_:World):CXT:=λ_ _ _ _ _ _=>False
structure Catz(X:Cx)(Ex:St->XK):Prop where
 pass:PassS (CXz X.prog X.w) X Ex
theorem catz{X:Cx}{Ex:St->XK}:Catz X Ex:=⟨λ_ _ _ _ _ _ _ h=>h.elim⟩
end L2
namespace Fx
open PySem PySem.Spec L2
open PyProof.Rows hiding St
variable{op op':CmpOp}{p q:Pm}{r':R2}{v:U}{k np:Nat}{f' c':Addr}{fd:FuncData}{ps ks:List Str}{ds:List Value}{dvs:List V}{dus:List U}{kx:List (Option Expr)}{kvs:List (Str×U)}
structure FW(X:Cx)(B:Bs)(G:Gx Prop)(Ex:St->XK)(e:Expr)(c:TTx Prop):Prop where
 p:PW X e (LT B G Ex c)
 m:MonT G c
def spF(B:Bs)(G:Gx Prop)(i np:Nat):Sp:=λvs H Q E=>vs.length=np/\∃W us S,RS B W S H/\Rvs B W us vs/\G.call i us S (XL B W E) (VL B W Q)
section
variable{B:Bs}{up:List (Str×Str)}{G:Gx Prop}{Ex:St->XK}{c a b d:TEx Prop}{as:TAx Prop}{t u:TTx Prop}
variable{X:Cx}{e ea eb ec ed:Expr}{es rest:List Expr}{pos p1 p2 apos:Pos}{x m:Str}{i:Nat}{pm:Pm}(g:MonG up G)
theorem wkW{t t':TT}(h:PW X e t)(w:∀σ H Q,t' σ H Q->t σ H Q):PW X e t':=λwh Z s σ H Q I q=>h wh Z s σ H Q I (w _ _ _ q)
omit g in
theorem tY(h:FT X B G Ex ea t):FW X B G Ex (.BoolOp .And [ea] pos) t:=⟨qJ h.p,h.m⟩
theorem tX(h:FT X B G Ex ea t):FW X B G Ex (.BoolOp .Or [ea] pos) t:=⟨uH h.p,h.m⟩
theorem FW.ft(h:FW X B G Ex e t):FT X B G Ex e t:=⟨h.p.pt,h.m⟩
include g
theorem ym(h:FT X B G Ex ea t)(h2:FW X B G Ex (.BoolOp .And (eb::rest) pos) u):FW X B G Ex (.BoolOp .And (ea::eb::rest) pos) (tAn t u):=
 ⟨wkW (uI h.p h2.p) λτ H Q ⟨W,σ,S,rs,rg,hh⟩=>LT.go h.m rs rg hh λv S' W' H' le rs' rg' h'=>by
  have h':=g.bk h';cases v with
  |true=>exact LT.go h2.m rs' rg' (h2.m.m (XL.upf le _) (λ_ _ h=>h) h') λw S2 W2 H2 le2 rs2 _ h3=>h3 W2 H2 (le.trans le2) rs2
  |false=>exact h' W' H' le rs',mAn g h.m h2.m⟩
theorem yl(h:FT X B G Ex ea t)(h2:FW X B G Ex (.BoolOp .Or (eb::rest) pos) u):FW X B G Ex (.BoolOp .Or (ea::eb::rest) pos) (tOr' t u):=
 ⟨wkW (xg h.p h2.p) λτ H Q ⟨W,σ,S,rs,rg,hh⟩=>LT.go h.m rs rg hh λv S' W' H' le rs' rg' h'=>by
  have h':=g.bk h';cases v with
  |false=>exact LT.go h2.m rs' rg' (h2.m.m (XL.upf le _) (λ_ _ h=>h) h') λw S2 W2 H2 le2 rs2 _ h3=>h3 W2 H2 (le.trans le2) rs2
  |true=>exact h' W' H' le rs',mOr g h.m h2.m⟩
theorem sw(h:FE X B G Ex e c):FE X B G Ex e (cB (tB c)):=
 ⟨wkE h.p λτ H Q ⟨W,σ,S,rs,rg,hh⟩=>LE.go h.m rs rg hh λv S' W' u H' le rs' rv rg' h'=>by
  cases v <;> first|(exact(g.no h').elim)|exact h' W' u H' le rs' rv,mCB g (mB g h.m)⟩
theorem we{r:R2}(ho:OpR X (compareOp op) r)(hp:Pr2 B up pm r)(ha:FE X B G Ex ea a)(hb:FE X B G Ex eb b)(hm:behindInMarks op eb=false):FE X B G Ex (.Compare ea [op] [eb] pos) (cP pm (lst2 a b)):=
 ⟨wkE (km ho ha.p hb.p hm) λτ H Q h=>(LE.p2 g ha.m hb.m h).imp ha.m λx H1 h1=>h1.imp hb.m λy H2 ⟨W,S,v,w,z,S',rs,r1,r2,e,q⟩=>hp rs r1 r2 e q,mP g (mAC g ha.m (mAC g hb.m (mAN g)))⟩
theorem pL(h:FE X B G Ex ea (cB t))(mt:MonT G t):FE X B G Ex (.UnaryOp .Not ea pos) (cB (tNt t)):=
 ⟨wkE (u7 h.p) λτ H Q ⟨W,σ,S,rs,rg,hh⟩=>⟨W,σ,S,rs,rg,mt.m (λ_ _ h=>h) (λv S' h' W' u H' le rs' rv=>⟨v,rv,h' W' (.bl (!v)) H' le rs' rfl⟩) hh⟩,mCB g (mNt g mt)⟩
theorem wj(h:FE X B G Ex ea (cB t))(mt:MonT G t)(h2:FE X B G Ex (.BoolOp .And (eb::rest) pos) (cB u))(mu:MonT G u):FE X B G Ex (.BoolOp .And (ea::eb::rest) pos) (cB (tAn t u)):=
 ⟨wkE (ve h.p h2.p) λτ H Q ⟨W,σ,S,rs,rg,hh⟩=>⟨W,σ,S,rs,rg,mt.m (λ_ _ h=>h) (λv S' h' W' w H' le rs' rv=>⟨v,rv,by
  have h':=g.bk h';cases v with
  |true=>exact⟨W',σ,S',rs',rg.mono le,mu.m (XL.upf le _) (λz S2 h3 W2 y H2 le2 rs2 rv2=>h3 W2 y H2 (le.trans le2) rs2 rv2) h'⟩
  |false=>exact h' W' _ H' le rs' rfl⟩) hh⟩,mCB g (mAn g mt mu)⟩
theorem yq(h:FE X B G Ex ea (cB t))(mt:MonT G t)(h2:FE X B G Ex (.BoolOp .Or (eb::rest) pos) (cB u))(mu:MonT G u):FE X B G Ex (.BoolOp .Or (ea::eb::rest) pos) (cB (tOr' t u)):=
 ⟨wkE (xo h.p h2.p) λτ H Q ⟨W,σ,S,rs,rg,hh⟩=>⟨W,σ,S,rs,rg,mt.m (λ_ _ h=>h) (λv S' h' W' w H' le rs' rv=>⟨v,rv,by
  have h':=g.bk h';cases v with
  |false=>exact⟨W',σ,S',rs',rg.mono le,mu.m (XL.upf le _) (λz S2 h3 W2 y H2 le2 rs2 rv2=>h3 W2 y H2 (le.trans le2) rs2 rv2) h'⟩
  |true=>exact h' W' _ H' le rs' rfl⟩) hh⟩,mCB g (mOr g mt mu)⟩
omit g in
theorem uc{op:BoolOp}(h:FE X B G Ex ea c):FE X B G Ex (.BoolOp op [ea] pos) c:=⟨u6 h.p,h.m⟩
theorem zj(h:FT X B G Ex ec t)(ha:FE X B G Ex ea a)(hb:FE X B G Ex eb b):FE X B G Ex (.IfExp ec ea eb pos) (cIf t a b):=
 ⟨wkE (oB h.p ha.p hb.p) λτ H Q ⟨W,σ,S,rs,rg,hh⟩=>LT.go h.m rs rg hh λv S' W' H' le rs' rg' h'=>by
  have h':=g.bk h';cases v with
  |true=>exact LE.go ha.m rs' rg' (ha.m.m (XL.upf le _) (λ_ _ h=>h) h') λw S2 W2 u2 H2 le2 rs2 rv2 _ h3=>h3 W2 u2 H2 (le.trans le2) rs2 rv2
  |false=>exact LE.go hb.m rs' rg' (hb.m.m (XL.upf le _) (λ_ _ h=>h) h') λw S2 W2 u2 H2 le2 rs2 rv2 _ h3=>h3 W2 u2 H2 (le.trans le2) rs2 rv2,mIf g h.m ha.m hb.m⟩
theorem lB{r:R2}(hp:Pr2 B up p r)(hq:Pr2 B up q r')(ma:MonE G a)(mb:MonE G b)(mc:MonE G c){τ:St}{H:Hp}{Q:Bool->Hp->Prop}(h:LT B G Ex (tCh p q a b c) τ H Q) :
  tChain r r' (LE B G Ex a) (LE B G Ex b) (LE B G Ex c) τ H (λx H'=>∃k,x=V.bl k/\Q k H'):=by
 obtain⟨W,σ,S,rs,rg,hh⟩:=h;refine LE.go ma rs rg hh λv S1 W1 u1 H1 le1 rs1 rv1 rg1 h1=>?_;refine LE.go mb rs1 rg1 (mb.m (XL.upf le1 _) (λ_ _ h=>h) h1) λw S2 W2 u2 H2 le2 rs2 rv2 rg2 h2=>?_;obtain⟨z,S3,e,q3⟩:=g.pok h2;refine hp rs2 (rv1.mono le2) rv2 e λW3 u3 H3 le3 rs3 rv3=>?_;cases z <;> first|(exact(g.no q3).elim)|skip
 refine⟨_,rv3,?_⟩;have q3:=g.bk q3;split
 ·next hb=>
  rw[xCg hb] at q3;refine LE.go mc rs3 ((rg2.mono le3)) (mc.m (XL.upf (le1.trans (le2.trans le3)) _) (λ_ _ h=>h) q3) λy S4 W4 u4 H4 le4 rs4 rv4 _ h4=>?_;obtain⟨z2,S5,e2,q5⟩:=g.pok h4;refine hq rs4 ((rv2.mono le3).mono le4) rv4 e2 λW5 u5 H5 le5 rs5 rv5=>?_;cases z2 <;> first|(exact(g.no q5).elim)|exact⟨_,rv5,q5 W5 H5 (le1.trans (le2.trans (le3.trans (le4.trans le5)))) rs5⟩
 ·next hb=>
  rw[xCf hb] at q3;exact⟨false,rfl,q3 W3 H3 (le1.trans (le2.trans le3)) rs3⟩
theorem zo{r:R2}(ho:OpR X (compareOp op) r)(ho':OpR X (compareOp op') r')(hp:Pr2 B up p r)(hq:Pr2 B up q r')(ha:FE X B G Ex ea a)(hb:FE X B G Ex eb b)(hc:FE X B G Ex ec c)(hm:lastMarks [op,op'] [eb,ec]=false):FT X B G Ex (.Compare ea [op,op'] [eb,ec] pos) (tCh p q a b c):=
 ⟨wkT (nQ ho ho' ha.p hb.p hc.p hm) λτ H Q h=>lB g hp hq ha.m hb.m hc.m h,mCh g ha.m hb.m hc.m⟩
theorem yx{r:R2}(ho:OpR X (compareOp op) r)(ho':OpR X (compareOp op') r')(hp:Pr2 B up p r)(hq:Pr2 B up q r')(ha:FE X B G Ex ea a)(hb:FE X B G Ex eb b)(hc:FE X B G Ex ec c)(hm:lastMarks [op,op'] [eb,ec]=false)(hi:∀x y H Q,r x y H Q->r x y H Q)(mo:∀{x y H}{Q Q':VK},(∀v H,Q v H->Q' v H)->r x y H Q->r x y H Q')(mo':∀{x y H}{Q Q':VK},(∀v H,Q v H->Q' v H)->r' x y H Q->r' x y H Q'):FE X B G Ex (.Compare ea [op,op'] [eb,ec] pos) (cB (tCh p q a b c)):=
 ⟨wkE (oG ho ho' ha.p hb.p hc.p hm) λτ H Q zz=>by
  obtain⟨W,σ,S,rs,rg,hh⟩:=zz;have h0:LT B G Ex (tCh p q a b c) τ H (λk H'=>Q (.bl k) H'):=⟨W,σ,S,rs,rg,(mCh g ha.m hb.m hc.m).m (λ_ _ h=>h) (λv S' h' W' H' le rs'=>h' W' (.bl v) H' le rs' rfl) hh⟩
  have h1:=lB g hp hq ha.m hb.m hc.m h0;refine LE.imp ha.m h1 λx H1 h2=>LE.imp hb.m h2 λy H2 h3=>mo (λz H3 ⟨k,e,h4⟩=>⟨k,e,?_⟩) h3;split
  ·next hk=>rw[xCg hk] at h4;exact LE.imp hc.m h4 λw H4 h5=>mo' (λz5 H5 ⟨k5,e5,q5⟩=>by rw[e5];exact q5) h5
  ·next hk=>rw[xCf hk] at h4;obtain⟨k5,e5,q5⟩:=h4;cases e5;exact q5,mCB g (mCh g ha.m hb.m hc.m)⟩
variable{k:Nat}{f:Addr}{fd:FuncData}{ps:List Str}{np:Nat}{ds:List Value}{dvs:List V}{dus:List U}
theorem wg(F:FnOk X.prog X.w X.K X.mg X.base (CXz X.prog X.w) k f fd ps (spF B G i np))(hr:Room k X.A)(hg:Gl X x)(hm:X.mg x=some (.ref f))(hk:PySem.W.keepIn X.K (.ref f)=true)(hb:Binds X.K fd ps ds)(hd:Vals dvs ds)(hdu:∀W,Rvs B W dus dvs)(hx:PassS (CXz X.prog X.w) X Ex)(hdb:(x==("__debug__":Str))=false)(hs:FA X B G Ex es as)(h0:es=[]->as=aN)(hn:es.length+dus.length=np)(hst:es.all noStar=true):FE X B G Ex (.Call (.Name x p1) es [] pos) (cF i as dus):=by
 refine⟨?_,mF g hs.m⟩;have core:∀τ H Q,LE B G Ex (cF i as dus) τ H Q->tCallS (spF B G i np) dvs Ex (LA B G Ex as) τ H Q:=λτ H Q ⟨W,σ,S,rs,rg,hh⟩=>LA.go hs.m rs rg hh λv S' W' u H' hl le rs' rv rg' h'=>
  ⟨by rw[xAb,rv.length,(hdu W').length,hl];exact hn,W',v++dus,S',rs',rv.app (hdu W'),g.call (XL.upf le _) (λ_ _=>VL.inc le) h'⟩
 cases es with
 |nil=>
  rw[h0 rfl] at core⊢;refine wkE (lV F hr hg hm hk hb hd hx hdb) λτ H Q h=>?_;obtain⟨W,σ,S,rs,rg,hh⟩:=core τ H Q h;exact hh W [] H .refl rs rfl
 |cons e es=>
  rw[xCj,xCh] at hst;exact wkE (oH F hr hg hm hk hb hd hx hs.p hdb (bv hst.1) (dj hst.2)) core
end
section
variable{B:Bs}{up:List (Str×Str)}
theorem Rvs.inv1{W:Wd}{us:List V}(r:Rvs B W [v] us):∃u,us=[u]/\Rv B W v u:=by obtain⟨u,t,rfl,h,h2⟩:=r;rw[show t=[] from h2];exact⟨u,rfl,h⟩
theorem Rvs.inv2{W:Wd}{w:U}{us:List V}(r:Rvs B W [v,w] us):∃u1 u2,us=[u1,u2]/\Rv B W v u1/\Rv B W w u2:=by
 obtain⟨u,t,rfl,h,h2⟩:=r;obtain⟨u2,rfl,h3⟩:=Rvs.inv1 h2;exact⟨u,u2,rfl,h,h3⟩
theorem yZ{wo:World}(hk:∀{W:Wd}{p:Addr}{kvs:List (Str×U)}{no:List Str}{x:Str}{v:U}{H:Hp}{Q:VK},B.kd p kvs no->getF x kvs=some v->(∀u,Rv B W v u->Q u H)->rIxA wo B.K (.ref p) (.str x) H Q):Pr2 B up .ix (rIxA wo B.K):=by
 intro W S H v w u1 u2 z S' Q rs r1 r2 h q;change ixU v w S=_ at h;have seq:∀xs,sqU S v=some xs->(match w with
   |.int i=>opt (atI xs i) S
   |_=>Res.stuck)=.ok z S'->rIxA wo B.K u1 u2 H Q:=λxs e h=>by
  split at h
  ·unfold opt at h;split at h
   ·next i v' e2=>
    cases h;obtain⟨p,ys,rfl,sq,rr⟩:=eF rs r1 e;obtain⟨y,e3,ry⟩:=wH rr e2;rcases sq with sq|sq
    ·exact .inl (.inl (.inl ⟨p,ys,_,y,rfl,r2,sq,e3,q.here rs ry⟩))
    ·exact .inl (.inl (.inr (.inl ⟨p,ys,_,y,rfl,r2,sq,e3,q.here rs ry⟩)))
   ·cases h
  ·cases h
 unfold ixU at h;split at h
 ·next kvs=>
  split at h
  ·next x=>
   unfold opt at h;split at h
   ·next v' e=>
    cases h;obtain⟨p,rfl,hd⟩:=r1;rw[show u2=.str x from r2];exact hk (W:=W) hd e λu ru=>q.here rs ru
   ·cases h
  ·cases h
 ·split at h
  ·split at h
   ·next zz i c e=>
    obtain⟨hl,e2⟩:=cW h;cases e2;exact .inl (.inl (.inr (.inr ⟨_,_,_,r1,r2,hl,e,q.here rs rfl⟩)))
   ·cases h
  ·cases h
 ·next p=>
  split at h
  ·next kvs e=>
   split at h
   ·next k ek=>
    unfold opt at h;split at h
    ·next v' e3=>
     cases h;obtain⟨a,g,hm,hh,ro,_⟩:=rs.here e;obtain⟨a',e2,hm'⟩:=r1;rw[hm] at hm';cases hm';obtain⟨ks,rfl,rn⟩:=ro;obtain⟨y,ey,ry⟩:=(e9 (k:=k) rn).1 _ e3;exact .inl (.inr ⟨a,y,e2,.inl ⟨ks,k,.inl hh,fk ek r2,ey.symm⟩,q.here rs ry⟩)
    ·cases h
   ·cases h
  ·next xs e=>exact seq xs (by show lsU S (.ref p)=_;unfold lsU;dsimp only;rw[e]) h
  ·cases h
 ·split at h
  ·next xs e=>exact seq xs e h
  ·cases h
def cLenA(K:xFr):List V->Hp->VK->Prop:=λxs H Q=>cLen K xs H Q\/cLenD xs H Q
theorem xf{X:Cx}:CallR X (.builtin "len") (cLenA X.K):=CallR.or wq sG
theorem xJ:PrN B up .len (cLenA B.K):=by
 intro W S H vs us z S' Q rs rv h q;cases vs with
 |nil=>cases h
 |cons v t=>cases t with
  |cons _ _=>cases h
  |nil=>
   obtain⟨u,rfl,r1⟩:=rv.inv1;change lenU v S=_ at h;have seq:∀xs,sqU S v=some xs->z=.int xs.length->S'=S->cLenA B.K [u] H Q:=λxs e hz hs=>by
    subst hz hs;obtain⟨p,ys,rfl,sq,rr⟩:=eF rs r1 e;have:=q.here rs (u:=.int xs.length) rfl;rw[<- rr.length] at this;rcases sq with sq|sq
    ·exact .inl ⟨_,_,rfl,.inl ⟨ys,sq,rfl⟩,this⟩
    ·exact .inl ⟨_,_,rfl,.inr ⟨ys,sq,rfl⟩,this⟩
   unfold lenU at h;split at h
   ·obtain⟨hl,e2⟩:=cW h;cases e2;rw[show u=.str _ from r1];exact .inl ⟨_,_,rfl,⟨hl,rfl⟩,q.here rs rfl⟩
   ·next p=>
    split at h
    ·next xs e=>cases h;exact seq xs (by show lsU S (.ref p)=_;unfold lsU;dsimp only;rw[e]) rfl rfl
    ·next kvs e=>
     cases h;obtain⟨a,g,hm,hh,ro,_⟩:=rs.here e;obtain⟨a',e2,hm'⟩:=r1;rw[hm] at hm';cases hm';obtain⟨ks,rfl,rn⟩:=ro;have:=q.here rs (u:=.int kvs.length) rfl;rw[<- rn.length] at this;subst e2;exact .inr ⟨a,ks,rfl,hh,this⟩
    ·cases h
   ·split at h
    ·next xs e=>cases h;exact seq xs e rfl rfl
    ·cases h
theorem vs1{vs:List U}{S:So}{z:U}{S':So}(h:pr up p vs S=.ok z S')(h0:pr up p [] S=.stuck)(h2:∀a b r,pr up p (a::b::r) S=.stuck):∃v,vs=[v]:=by
 cases vs with
 |nil=>rw[h0] at h;cases h
 |cons v t=>cases t with
  |nil=>exact⟨v,rfl⟩
  |cons _ _=>rw[h2] at h;cases h
theorem xR:PrN B up .abs (λxs H Q=>∃i,xs=[.int i]/\Q (.int (if i<0 then -i else i)) H):=by
 intro W S H vs us z S' Q rs rv h q;obtain⟨v,rfl⟩:=vs1 h rfl λa b r=>by cases a <;> rfl
 obtain⟨u,rfl,r1⟩:=rv.inv1;cases v <;> first|(cases h;done)|(cases h;exact⟨_,by rw[show u=_ from r1],q.here rs rfl⟩)
theorem xH:PrN B up .max (λxs H Q=>∃i j,xs=[.int i,.int j]/\Q (.int (if j>i then j else i)) H):=by
 intro W S H vs us z S' Q rs rv h q;obtain⟨i,j,rfl,rfl,rfl⟩:=kN (f:=λi j=>.int (if j>i then j else i)) h;obtain⟨u1,u2,rfl,r1,r2⟩:=rv.inv2;exact⟨i,j,by rw[show u1=_ from r1,show u2=_ from r2],q.here rs rfl⟩
theorem xG:PrN B up .min (λxs H Q=>∃i j,xs=[.int i,.int j]/\Q (.int (if j<i then j else i)) H):=by
 intro W S H vs us z S' Q rs rv h q;obtain⟨i,j,rfl,rfl,rfl⟩:=kN (f:=λi j=>.int (if j<i then j else i)) h;obtain⟨u1,u2,rfl,r1,r2⟩:=rv.inv2;exact⟨i,j,by rw[show u1=_ from r1,show u2=_ from r2],q.here rs rfl⟩
theorem vk:PrN B up .int1 cInt1:=by
 intro W S H vs us z S' Q rs rv h q;obtain⟨v,rfl⟩:=vs1 h rfl λa b r=>by cases a <;> rfl
 obtain⟨u,rfl,r1⟩:=rv.inv1;cases v <;> first|(cases h;done)|(cases h;rw[show u=_ from r1];first|exact .inl ⟨_,rfl,q.here rs rfl⟩|exact .inr ⟨_,rfl,q.here rs rfl⟩)
theorem rK:PrN B up .tupOf (cTuple B.K):=by
 intro W S H vs us z S' Q rs rv h q;obtain⟨v,rfl⟩:=vs1 h rfl λa b r=>by cases a <;> rfl
 obtain⟨u,rfl,r1⟩:=rv.inv1;change tupOfU v S=_ at h;unfold tupOfU at h;split at h
 ·cases h;obtain⟨p,ys,rfl,f,rr⟩:=r1;exact⟨p,ys,rfl,.inr ⟨.of (rs.fz _ _ f),q.here rs ⟨p,ys,rfl,f,rr⟩⟩⟩
 ·split at h
  ·next xs e=>
   cases h;obtain⟨p,ys,rfl,sq,rr⟩:=fL rs r1 e;exact⟨p,ys,rfl,.inl ⟨sq,λl hl=>q.tup rs rr hl⟩⟩
  ·cases h
theorem rL{m:Bool}:PrN B up (.lstOf m) (cList B.K):=by
 intro W S H vs us z S' Q rs rv h q;obtain⟨v,rfl⟩:=vs1 h rfl λa b r=>by cases a <;> rfl
 obtain⟨u,rfl,r1⟩:=rv.inv1;delta pr at h;dsimp only at h;split at h
 ·next xs e=>
  obtain⟨p,ys,rfl,sq,rr⟩:=eF rs r1 e;exact⟨p,ys,rfl,sq,λl hl=>fK h q rs rr hl⟩
 ·cases h
theorem rM:PrN B up .dctOf cDictC:=by
 intro W S H vs us z S' Q rs rv h q;obtain⟨v,rfl⟩:=vs1 h rfl λa b r=>by cases a <;> rfl
 obtain⟨u,rfl,r1⟩:=rv.inv1;cases v <;> try (cases h;done)
 delta pr at h;dsimp only at h;split at h
 ·next kvs e=>
  cases h;obtain⟨a,g,hm,hh,ro,_⟩:=rs.here e;obtain⟨a',e2,hm'⟩:=r1;rw[hm] at hm';cases hm';obtain⟨ks,rfl,rn⟩:=ro;refine⟨a,ks,by rw[e2],.inl hh,λp hp=>?_⟩;have le:W.Le {W with μ:=W.μ++[p]}:=⟨λ_ _ h=>h,λ_ _ h=>cQ h,rfl⟩
  obtain⟨_,rs',ha⟩:=rs.push (o:=.dct kvs) (h:=.dK ks) hp ⟨ks,rfl,rn.mono le⟩;exact q _ _ _ le rs' ⟨p,rfl,ha⟩
 ·cases h
theorem qe{W:Wd}:∀{vs:List U}{us:List V}{bs:List Bool},blL vs=some bs->Rvs B W vs us->us=bs.map V.bl
 |[],_,_,h,r=>by cases h;exact r
 |x::t,_,_,h,r=>by
  obtain⟨u,s,rfl,h1,h2⟩:=r;cases x <;> try (cases h;done)
  simp only[blL] at h;cases e:blL t with
  |none=>rw[e] at h;cases h
  |some bs=>
   rw[e] at h;cases h;rw[qe e h2,show u=_ from h1];rfl
theorem strL_ok{W:Wd}:∀{vs:List U}{us:List V}{bs:List Str},strL vs=some bs->Rvs B W vs us->us=bs.map V.str
 |[],_,_,h,r=>by cases h;exact r
 |x::t,_,_,h,r=>by
  obtain⟨u,s,rfl,h1,h2⟩:=r;cases x <;> try (cases h;done)
  simp only[strL] at h;cases e:strL t with
  |none=>rw[e] at h;cases h
  |some bs=>
   rw[e] at h;cases h;rw[strL_ok e h2,show u=_ from h1];rfl
theorem xP:PrN B up .all (cAll B.K):=by
 intro W S H vs us z S' Q rs rv h q;obtain⟨v,rfl⟩:=vs1 h rfl λa b r=>by cases a <;> rfl
 obtain⟨u,rfl,r1⟩:=rv.inv1;cases v <;> try (cases h;done)
 delta pr at h;dsimp only at h;split at h
 ·next bs e=>
  cases h;obtain⟨p,ys,rfl,f,rr⟩:=r1;refine⟨p,bs,rfl,.of (by rw[<- qe e rr];exact rs.fz _ _ f),λb hb=>?_⟩;subst hb;exact q.here rs rfl
 ·cases h
end
section
variable{B:Bs}{up:List (Str×Str)}{G:Gx Prop}{Ex:St->XK}{c a b d:TEx Prop}{as:TAx Prop}
variable{X:Cx}{e ea eb:Expr}{es:List Expr}{pos p1 p2 apos:Pos}{x:Str}{id T:String}{pm:Pm}{r:List V->Hp->VK->Prop}(g:MonG up G)
include g
theorem mz(hc:CallR X (.builtin id) r)(hp:PrN B up pm r)(hg:Gl X x)(hm:X.mg x=none)(hv:bootBuiltins x=some (.builtin id))(hs:FA X B G Ex (e::es) as)(h:(e::es).all noStar=true)(hn:x≠"__name__")(hdb:(x==("__debug__":Str))=false):FE X B G Ex (.Call (.Name x p1) (e::es) [] pos) (cP pm as):=
 ⟨wkE (oJ hc hg hm hv hs.p h hn hdb) λτ H Q h=>(LE.pn g hs.m h).imp hs.m λus H1 ⟨W,S,vs,z,S',rs,rv,e,q⟩=>hp rs rv e q,mP g hs.m⟩
theorem sx(hc:CallR X (.type T) r)(hp:PrN B up pm r)(hg:Gl X x)(hm:X.mg x=none)(hv:bootBuiltins x=some (.type T))(hs:FA X B G Ex (e::es) as)(h:(e::es).all noStar=true)(hn:x≠"__name__")(hdb:(x==("__debug__":Str))=false):FE X B G Ex (.Call (.Name x p1) (e::es) [] pos) (cP pm as):=
 ⟨wkE (kn hc hg hm hv hs.p h hn hdb) λτ H Q h=>(LE.pn g hs.m h).imp hs.m λus H1 ⟨W,S,vs,z,S',rs,rv,e,q⟩=>hp rs rv e q,mP g hs.m⟩
end
section
variable{B:Bs}{W:Wd}{S S':So}{H:Hp}
theorem eK{f:Str}:∀{fs:List (Str×U)}{vs:List (Str×V)},Rn B W fs vs->(∀v,getF f fs=some v->∃u,vs.lookup f=some u/\Rv B W v u)/\(getF f fs=none->vs.lookup f=none)
 |[],_,r=>by rw[show _=[] from r];exact⟨(λv h=>nomatch h),λ_=>rfl⟩
 |(j,x)::t,_,r=>by
  obtain⟨v,q,rfl,h1,h2⟩:=r;by_cases e:f=j
  ·subst e;unfold getF;rw[xCg rfl];refine⟨λv' h=>?_,(λh=>nomatch h)⟩;cases h;exact⟨v,by simp[List.lookup],h1⟩
  ·have hb:(f==j)=false:=beq_eq_false_iff_ne.mpr e;unfold getF;rw[xCf e];simp only[List.lookup,hb];exact eK h2
theorem j4{f:Str}{x:U}{y:V}(g:Rv B W x y):∀{fs:List (Str×U)}{vs:List (Str×V)},Rn B W fs vs->Rn B W (putF f x fs) (L2.putF f y vs)
 |[],_,r=>by rw[show _=[] from r];exact⟨y,[],rfl,g,rfl⟩
 |(j,z)::t,_,r=>by
  obtain⟨v,q,rfl,h1,h2⟩:=r;unfold putF L2.putF;by_cases e:j=f
  ·rw[xCg e,xCg e];exact⟨y,q,rfl,g,h2⟩
  ·rw[xCf e,xCf e];exact⟨v,_,rfl,h1,j4 g h2⟩
theorem Rn.app{κ:Type}:∀{us ws:List (κ×U)}{vs zs:List (κ×V)},Rn B W us vs->Rn B W ws zs->Rn B W (us++ws) (vs++zs)
 |[],_,_,_,h,g=>by rw[show _=[] from h];exact g
 |_::_,_,_,_,h,g=>by obtain⟨v,r,rfl,h1,h2⟩:=h;exact⟨v,r++_,rfl,h1,Rn.app h2 g⟩
theorem gD{κ:Type} [DecidableEq κ] {k:κ} {x:U} {y:V} (g:Rv B W x y) {fs:List (κ×U)} {vs:List (κ×V)} (r:Rn B W fs vs):Rn B W (putK k x fs) (L2.putK vs k y):=by
 have an:(vs.any λkv=>decide (kv.1=k))=(fs.any λkv=>decide (kv.1=k)):=by
  clear g;induction fs generalizing vs with
  |nil=>rw[show vs=[] from r];rfl
  |cons p t ih=>obtain⟨v,q,rfl,h1,h2⟩:=r;rw[List.any_cons,List.any_cons,ih h2]
 unfold putK L2.putK;rw[an];split
 ·next hh=>
  clear hh an;induction fs generalizing vs with
  |nil=>rw[show vs=[] from r];rfl
  |cons p t ih=>
   obtain⟨v,q,rfl,h1,h2⟩:=r;rw[xBs,xBs];by_cases e:p.1=k
   ·rw[xCg e,xCg e];exact⟨y,_,rfl,g,ih h2⟩
   ·rw[xCf e,xCf e];exact⟨v,_,rfl,h1,ih h2⟩
 ·exact r.app ⟨y,[],rfl,g,rfl⟩
theorem gT{p:Nat}{f:Str->List (Str×U)->Res}{z:U}{u:V}(rs:RS B W S H)(r1:Rv B W (.ref p) u)(h:insU p S f=.ok z S'):∃C fs a c dx vs,at? S p=some (.ins C fs)/\f C fs=.ok z S'/\u=.ref a/\at? W.μ p=some a/\B.cl C c/\H a=some (.ins c dx vs)/\Rn B W fs vs:=by
 unfold insU at h;split at h
 ·next C fs e=>
  obtain⟨a,g,hm,hh,ro,_⟩:=rs.here e;obtain⟨a',e2,hm'⟩:=r1;rw[hm] at hm';cases hm';obtain⟨c,dx,vs,hc,rfl,rn⟩:=ro;exact⟨C,fs,a,c,dx,vs,e,h,e2,hm,hc,hh,rn⟩
 ·cases h
theorem kG{p:Nat}{f:List U->Res}{z:U}{u:V}(rs:RS B W S H)(r1:Rv B W (.ref p) u)(h:lstU p S f=.ok z S'):∃xs a vs,at? S p=some (.lst xs)/\f xs=.ok z S'/\u=.ref a/\at? W.μ p=some a/\H a=some (.lst vs)/\Rvs B W xs vs:=by
 unfold lstU at h;split at h
 ·next xs e=>
  obtain⟨a,g,hm,hh,ro,_⟩:=rs.here e;obtain⟨a',e2,hm'⟩:=r1;rw[hm] at hm';cases hm';obtain⟨vs,rfl,rn⟩:=ro;exact⟨xs,a,vs,e,h,e2,hm,hh,rn⟩
 ·cases h
end
section
variable{B:Bs}{up:List (Str×Str)}{G:Gx Prop}{Ex:St->XK}{c a b d:TEx Prop}{as:TAx Prop}
variable{X:Cx}{e ea eb o value:Expr}{es:List Expr}{pos p1 p2 apos cpos pos':Pos}{x f m C:Str}{id T:String}{pm:Pm}{i:Nat}(g:MonG up G)
structure ClF(B:Bs)(flds:List Str):Prop where
 c:∀{C c},B.cl C c->Cls B.K c
 n:∀{C c f},B.cl C c->f∈flds->NoAttr B.K c f
variable{fl:List Str}
include g
theorem yu(hK:X.K=B.K)(F:ClF B fl)(hf:f∈fl)(ho:FE X B G Ex o a)(h:noCall o=true):FE X B G Ex (.Attribute o f pos) (cP (.fld f) (aC a aN)):=
 ⟨wkE (vd ho.p (fj h)) λτ H Q h=>(LE.p1 g ho.m h).imp ho.m λu H1 zz=>by
  obtain⟨W,S,v,z,S',rs,r1,e,q⟩:=zz;cases v <;> try (cases e;done)
  obtain⟨C,fs,a,c,dx,vs,_,h2,e2,_,hc,hh,rn⟩:=gT rs r1 e;unfold opt at h2;split at h2
  ·next v' e3=>
   cases h2;obtain⟨y,e4,ry⟩:=(eK (f:=f) rn).1 _ e3;exact⟨a,c,dx,vs,y,e2,hh,by rw[hK];exact F.c hc,by rw[hK];exact F.n hc hf,e4,q.here rs ry⟩
  ·(cases h2),mP g (mAC g ho.m (mAN g))⟩
theorem v5(hcl:∀c,B.cl C c->c=c')(cc:Cls X.K c')(hm:Meth X.K c' m f')(F:FnOk X.prog X.w X.K X.mg X.base (CXz X.prog X.w) k f' fd ps (spF B G i np))(hr:Room k X.A)(hb:Binds X.K fd ps ds)(hd:Vals dvs ds)(hdu:∀W,Rvs B W dus dvs)(hx:PassS (CXz X.prog X.w) X Ex)(ho:FE X B G Ex o a)(hs:FA X B G Ex es as)(h0:es=[]->as=aN)(hn:es.length+1+dus.length=np)(hst:es.all noStar=true)(ht:∃pl,eval (.Call (.Attribute o m apos) es [] pos) X.env=(do
   let ov <- eval o X.env
   standAt apos.atName
   let (f,first) <- holding [ov] (getMethod ov m pl)
   callWith pos f first (backTo pos (starEach es X.env)) (backToKw pos (keywordEach [] X.env)))):FE X B G Ex (.Call (.Attribute o m apos) es [] pos) (cM C m i a as dus):=by
 refine⟨?_,mM g ho.m hs.m⟩;have core:∀τ H Q,LE B G Ex (cM C m i a as dus) τ H Q->tMethS c' m (spF B G i np) dvs Ex (LE B G Ex a) (LA B G Ex as) τ H Q:=λτ H Q ⟨W,σ,S,rs,rg,hh⟩=>LE.go ho.m rs rg hh λv S1 W1 u1 H1 le1 rs1 rv1 rg1 h1=>by
  obtain⟨w,S2,e,h2⟩:=g.pok h1;cases v <;> try (cases e;done)
  obtain⟨D,fs,aa,c,dx,vs,_,e2,e3,hμ,hc,hha,rn⟩:=gT rs1 rv1 e;split at e2
  ·next hD=>
   have hD:=xBe hD;subst hD;split at e2
   ·next hf=>
    cases e2;obtain rfl:=hcl c hc;refine⟨aa,dx,vs,e3,hha,(eK (f:=m) rn).2 hf,?_⟩;refine LA.go hs.m rs1 rg1 (hs.m.m (XL.upf le1 _) (λ_ _ _ h=>h) h2) λws S3 W3 us H3 hl le3 rs3 rv3 _ h3=>?_;exact⟨by rw[xAo,xAb,rv3.length,(hdu W3).length,hl,<- hn];lia,W3,.ref _::(ws++dus),S3,rs3,⟨u1,_,rfl,rv1.mono le3,rv3.app (hdu W3)⟩,g.call (XL.upf (le1.trans le3) _) (λ_ _=>VL.inc (le1.trans le3)) h3⟩
   ·cases e2
  ·cases e2
 obtain⟨pl,ht⟩:=ht;cases es with
 |nil=>
  rw[h0 rfl] at core⊢;refine wkE (lT (pl:=pl) ho.p cc hm F hr hb hd hx ht) λτ H Q h=>?_;refine(core τ H Q h).imp ho.m λu H1 ⟨a',dx,fs,e1,e2,e3,h4⟩=>⟨a',dx,fs,e1,e2,e3,?_⟩
  obtain⟨W,σ,S,rs,rg,hh⟩:=h4;exact hh W [] H1 .refl rs rfl
 |cons e es=>
  rw[xCj,xCh] at hst;exact wkE (oz (pl:=pl) ho.p cc hm F hr hb hd hx hs.p (bv hst.1) (dj hst.2) ht) core
omit g in
theorem passN:Passes (CXz X.prog X.w) X (λ_ _ _=>False):=λZ σ H s ev s' I z=>z.elim
theorem v6(hcl:B.cl x c')(M:Mk X.K c' f')(F:FnOk X.prog X.w X.K X.mg X.base (CXz X.prog X.w) k f' fd ps (spF B G i np))(hr:Room (k+1) X.A)(hg:Gl X x)(hm:X.mg x=some (.ref c'))(hb:Binds X.K fd ps ds)(hd:Vals dvs ds)(hdu:∀W,Rvs B W dus dvs)(hdb:(x==("__debug__":Str))=false)(hs:FA X B G Ex es as)(h0:es=[]->as=aN)(hn:es.length+1+dus.length=np)(hst:es.all noStar=true):FE X B G Ex (.Call (.Name x p1) es [] pos) (cK x i as dus):=by
 refine⟨?_,mK g hs.m⟩;have core:∀τ H Q,LE B G Ex (cK x i as dus) τ H Q->tMake c' (spF B G i np) dvs (λ_ _ _=>False) (LA B G Ex as) τ H Q:=λτ H Q ⟨W,σ,S,rs,rg,hh⟩=>LA.go hs.m rs rg hh λws S1 W1 us H1 hl le1 rs1 rv1 _ h1=>by
  intro xa dx hxa hdx hne;obtain⟨w,S2,e,h2⟩:=g.pok h1;cases e;have sm:=cY hdx (.own xa);have hxa':upd H1 dx (.own xa) xa=none:=by rw[bq (Ne.symm hne)];exact hxa
  have le2:W1.Le {W1 with μ:=W1.μ++[xa]}:=⟨λ_ _ h=>h,λ_ _ h=>cQ h,rfl⟩
  obtain⟨_,rs2,ha⟩:=(rs1.same sm).push (o:=.ins x []) (h:=.ins c' dx []) hxa' ⟨c',dx,[],hcl,rfl,rfl⟩;refine⟨by rw[xAo,xAb,rv1.length,(hdu W1).length,hl,<- hn];lia,_,.ref S1.length::(ws++dus),_,rs2,⟨_,_,rfl,⟨xa,rfl,ha⟩,(rv1.mono le2).app (hdu _)⟩,g.call (λ_ _ h=>(g.no h).elim) (λr S3 h3 W3 u3 H3 le3 rs3 rv3=>?_) h2⟩;cases r <;> first|(exact(g.no h3).elim)|exact⟨rv3,h3 W3 (.ref xa) H3 (le1.trans (le2.trans le3)) rs3 ⟨xa,rfl,le3.m _ _ ha⟩⟩
 cases es with
 |nil=>
  rw[h0 rfl] at core⊢;refine wkE (oA M F hr hg hm hb hd passN hdb) λτ H Q h=>?_;obtain⟨W,σ,S,rs,rg,hh⟩:=core τ H Q h;exact hh W [] H .refl rs rfl
 |cons e es=>
  rw[xCj,xCh] at hst;exact wkE (rA M F hr hg hm hb hd passN hs.p hdb (bv hst.1) (dj hst.2)) core
end
section
variable{B:Bs}{W:Wd}{S S':So}{H:Hp}
theorem Rg.lf{W W':Wd}{σ:Sg}{τ:St}(r:Rg B W σ τ)(le:W.Lf W'):Rg B W' σ τ:=⟨r.l,λi v h=>let ⟨u,e,q⟩:=r.v i v h;⟨u,e,q.lf le⟩⟩
theorem RS.drop(r:RS B W S H){l:List (Addr×HO)}(h:∀q∈l,q∈W.pr):RS B {W with pr:=l} S H:=
 ⟨r.fz,r.len,r.nd,λa p z=>let ⟨o,g,e,hh,ro,q⟩:=r.ob a p z;⟨o,g,e,hh,ro.lf .pr,q⟩,λq hq=>r.pf q (h q hq)⟩
theorem XL.hold{E:XK}{x:Xc}{pp:Addr×HO}(h:XL B W E x S):XL B {W with pr:=pp::W.pr} E x S:=λW' C dx H le rx=>
 h {W' with pr:=W.pr} C dx H ⟨le.f,le.m,rfl⟩ ⟨rx.s.drop λq hq=>by rw[le.r];exact xAs _ hq,rx.c,rx.f.imp id λ⟨d,vs,e1,e2,e3⟩=>⟨d,vs,e1,e2,e3.lf .pr⟩⟩
def rSlA(K:xFr):V->Option Int->Option Int->Hp->VK->Prop:=λx a b H Q=>rSlT K x a b H Q\/rSlL K x a b H Q\/rSlF K x a b H Q
theorem jY{m:Bool}{z:U}{u:V}{lo hi:Option Int}{Q:VK}(rs:RS B W S H)(r1:Rv B W v u)(h:slice m v lo hi S=.ok z S')(q:VL B W Q z S'):rSlA B.K u lo hi H Q:=by
 unfold slice at h;split at h
 ·next xs=>
  split at h
  ·next hd=>
   cases h;obtain⟨p,ys,rfl,f,rr⟩:=r1;exact .inr (.inr ⟨p,ys,rfl,.of (rs.fz _ _ f),by rw[rr.length];exact xBe hd,q.here rs ⟨p,ys,rfl,f,rr⟩⟩)
  ·next hd=>
   cases h;obtain⟨p,ys,rfl,f,rr⟩:=r1;have hl:=rr.length;refine .inl ⟨p,ys,rfl,.of (rs.fz _ _ f),by rw[hl];exact of_decide_eq_false hd,λp' hp=>q.tup rs (ld rr lo hi) hp⟩
 ·split at h
  ·next xs e=>
   obtain⟨p,ys,rfl,sq,rr⟩:=fL rs r1 e;exact .inr (.inl ⟨p,ys,rfl,sq,λp' hp=>fK h q rs (ld rr lo hi) hp⟩)
  ·cases h
end
section
variable{B:Bs}{up:List (Str×Str)}{G:Gx Prop}{Ex:St->XK}{c a b d:TEx Prop}{as:TAx Prop}
variable{X:Cx}{e ea eb ec o:Expr}{es:List Expr}{pos p1 p2 p3 apos cpos:Pos}{x f m C:Str}{id T:String}{pm:Pm}{i:Nat}(g:MonG up G)
include g
theorem yo{m:Bool}(hK:X.K=B.K)(ha:FE X B G Ex ea a)(hb:FE X B G Ex eb b):FE X B G Ex (.Subscript ea (.Slice (some eb) none none p2) pos) (cP (.sl m true false) (lst2 a b)):=
 ⟨wkE (iD (SlR.or nC (SlR.or jX jW)) ha.p (kc hb.p) ke) λτ H Q h=>(LE.p2 g ha.m hb.m h).imp ha.m λx H1 h1=>h1.imp hb.m λy H2 zz=>by
  obtain⟨W,S,v,w,z,S',rs,r1,r2,e,q⟩:=zz;cases w <;> try (cases e;done)
  have:=jY (lo:=some _) (hi:=none) rs r1 e q;rw[<- hK] at this;exact⟨_,r2,this⟩,mP g (mAC g ha.m (mAC g hb.m (mAN g)))⟩
theorem yp{m:Bool}(hK:X.K=B.K)(ha:FE X B G Ex ea a)(hb:FE X B G Ex eb b):FE X B G Ex (.Subscript ea (.Slice none (some eb) none p2) pos) (cP (.sl m false true) (lst2 a b)):=
 ⟨wkE (iD (SlR.or nC (SlR.or jX jW)) ha.p ke (kc hb.p)) λτ H Q h=>(LE.p2 g ha.m hb.m h).imp ha.m λx H1 h1=>h1.imp hb.m λy H2 zz=>by
  obtain⟨W,S,v,w,z,S',rs,r1,r2,e,q⟩:=zz;cases w <;> try (cases e;done)
  have:=jY (lo:=none) (hi:=some _) rs r1 e q;rw[<- hK] at this;exact⟨_,r2,this⟩,mP g (mAC g ha.m (mAC g hb.m (mAN g)))⟩
omit g in
structure FP(X:Cx)(B:Bs)(G:Gx Prop)(Ex:St->XK)(pos:Pos)(kx:List (Option Expr))(ks:List Str)(es:List Expr)(as:TAx Prop):Prop where
 ex:∃trs,PPs X pos kx es trs/\∀τ H Q,LA B G Ex as τ H (λus H'=>Q ((ks.zip us).map λp=>(V.str p.1,p.2)) H')->tPairs trs τ H Q
 m:MonA G as es.length
theorem ze:FP X B G Ex pos [] [] [] aN:=⟨⟨[],qW,λτ H Q ⟨W,σ,S,rs,rg,h⟩=>h W [] H .refl rs rfl⟩,mAN g⟩
theorem zf{k:Str}{j:Nat}(ha:FE X B G Ex e a)(hs:FP X B G Ex pos kx ks es as):FP X B G Ex pos (some (.Constant (.str k) j p2)::kx) (k::ks) (e::es) (aC a as):=by
 obtain⟨trs,hp,hq⟩:=hs.ex;refine⟨⟨_,nY oy ha.p hp,λτ H Q ⟨W,σ,S,rs,rg,h⟩=>?_⟩,mAC g ha.m hs.m⟩;refine LE.go ha.m rs rg h λv S1 W1 u1 H1 le1 rs1 rv1 rg1 h1=>hq τ H1 _ ?_;exact LA.go hs.m rs1 rg1 (hs.m.m (XL.upf le1 _) (λ_ _ _ h=>h) h1) λvs S2 W2 us H2 _ le2 rs2 rvs _ h2=>h2 W2 (u1::us) H2 (le1.trans le2) rs2 ⟨u1,us,rfl,rv1.mono le2,rvs⟩
omit g in
theorem k9{W:Wd}:∀{ks:List Str}{vs:List U}{us:List V},Rvs B W vs us->Rn B W (dctZ ks vs) ((ks.zip us).map λp=>((Sum.inr p.1:Key),p.2))
 |[],vs,us,r=>by cases vs <;> rfl
 |k::ks,[],us,r=>by rw[show us=[] from r];rfl
 |k::ks,v::vs,us,r=>by
  obtain⟨u,t,rfl,h1,h2⟩:=r;exact⟨u,_,rfl,h1,k9 h2⟩
omit g in
theorem dn:∀{ks:List Str},nodupS ks=true->ks.Nodup
 |[],_=>List.nodup_nil
 |k::ks,h=>by
  simp only[nodupS,xCh,Bool.not_eq_true'] at h;refine xCb.mpr ⟨λhm=>?_,dn h.2⟩;have:(ks.any λy=>decide (y=k))=true:=xCy.mpr ⟨k,hm,by simp⟩;rw[h.1] at this;cases this
omit g in
theorem nO{acc:List (Key×V)}{k:Key}{v:V}(h:k∉acc.map (·.1)):L2.putK acc k v=acc++[(k,v)]:=by
 unfold L2.putK;rw[xCf];intro z;obtain⟨p,hp,e⟩:=xCy.mp z;exact h (xA2.mpr ⟨p,hp,xBe e⟩)
omit g in
theorem gh:∀{more acc:List (Key×V)},(acc.map (·.1)++more.map (·.1)).Nodup->mergeK acc more=acc++more
 |[],acc,_=>by simp[mergeK]
 |p::t,acc,h=>by
  have hn:p.1∉acc.map (·.1):=λz=>by
   have:=(xBq.mp h).2.2 p.1 z p.1 (by simp);exact this rfl
  show mergeK (L2.putK acc p.1 p.2) t=_;rw[nO hn,gh (by simpa [xAx] using h)];simp
omit g in
theorem ic:∀{ks:List Str}{us:List V},ks.length=us.length->(ks.zip us).map ((λx=>x.1) ∘ λp=>((Sum.inr p.1:Key),p.2))=ks.map λk=>(Sum.inr k:Key)
 |[],_,_=>rfl
 |k::t,[],h=>by cases h
 |k::t,u::r,h=>by rw[List.zip_cons_cons,xBs,xBs,ic (by simpa using h)];rfl
theorem yv(hp:FP X B G Ex pos kx ks es as)(hn:nodupS ks=true)(hl:ks.length=es.length)(hk:kx.length=es.length)(hall:kx.all (·.isSome)=true)(h0:kx≠[])(h15:ks.length<=15):FE X B G Ex (.Dict kx es pos) (cP (.dct ks) as):=by
 obtain⟨trs,h1,h2⟩:=hp.ex;refine⟨wkE (rC h1 hall hk h0 (by lia)) λτ H Q ⟨W,σ,S,rs,rg,h⟩=>?_,mP g hp.m⟩;intro p hpn;refine h2 τ _ _ ?_;refine LA.go hp.m (rs.hold (o:=.dK []) hpn (λ_=>nofun)) (rg.lf .pr) (hp.m.m (λ_ _=>XL.hold) (λ_ _ _ h=>h) h) λvs S1 W1 us H1 hvl le1 rs1 rv1 _ h3=>?_;obtain⟨z,S2,e,q⟩:=g.pok h3;delta pr at e;dsimp only at e;split at e
 ·cases e;have hu:=rv1.length;have hpr:W1.pr=(p,.dK [])::W.pr:=le1.r;refine⟨(rs1.pf _ (by rw[hpr];exact xAr)).1,(ks.zip us).map λp=>((Sum.inr p.1:Key),p.2),by rw[List.map_map];rfl,by rw[xAa,List.length_zip];lia,?_⟩;have hnd:(((ks.zip us).map λp=>((Sum.inr p.1:Key),p.2)).map (·.1)).Nodup:=by
   rw[List.map_map];have:=ic (ks:=ks) (us:=us) (by lia);rw[this];exact List.Pairwise.map _ (λa b h z=>h (Sum.inr.inj z)) (dn hn)
  rw[gh (acc:=[]) (by simpa using hnd)];have hne:∀q∈W.pr,q.1≠p:=λq hq z=>by rw[<- z,(rs.pf q hq).1] at hpn;cases hpn
  have lf:W1.Lf {W1 with pr:=W.pr,μ:=W1.μ++[p]}:=⟨λ_ _ h=>h,λ_ _ h=>cQ h⟩
  obtain⟨rs2,ha⟩:=rs1.heldS (b:=.dct (dctZ ks vs)) (h:=.dK ([]++(ks.zip us).map λp=>((Sum.inr p.1:Key),p.2))) hpr hne ⟨_,rfl,by rw[xC6];exact(k9 rv1).lf lf⟩;exact q {W1 with pr:=W.pr,μ:=W1.μ++[p]} _ _ ⟨λb o z=>le1.f b o z,λa b z=>cQ (le1.m a b z),rfl⟩ rs2 ⟨p,rfl,ha⟩
 ·cases e
theorem zm:FE X B G Ex (.Dict [] [] pos) (cP (.dct []) aN):=
 ⟨wkE oF λτ H Q zz=>by
  obtain⟨W,σ,S,rs,rg,h⟩:=zz;obtain⟨z,S2,e,q⟩:=g.pok h;cases e;intro p hp;have le:W.Le {W with μ:=W.μ++[p]}:=⟨λ_ _ h=>h,λ_ _ h=>cQ h,rfl⟩
  obtain⟨_,rs',ha⟩:=rs.push (o:=.dct []) (h:=.dK []) hp ⟨[],rfl,rfl⟩;exact q _ _ _ le rs' ⟨p,rfl,ha⟩,mP g (mAN g)⟩
end
theorem yK:bootBuiltins "isinstance"=some (.builtin "isinstance"):=by decide +kernel
noncomputable def tys:List String:=["NoneType","bool","int","str","tuple","list","dict"]
structure ClT(B:Bs):Prop where
 ty:∀{C c H a dx fs},B.cl C c->H a=some (.ins c dx fs)->TyOf B.K H (.ref a) (.ref c)
structure KitT(B:Bs)(n:String):Prop where
 t:∀t∈tys,PySem.W.kitOne B.K (.type t) (.type n)=some (isTb t n)
 o:∀{C c},B.cl C c->PySem.W.kitOne B.K (.ref c) (.type n)=some (isTb "object" n)
structure KitC(B:Bs)(up:List (Str×Str))(D:Str)(d:Addr):Prop where
 t:∀t∈tys,PySem.W.kitOne B.K (.type t) (.ref d)=some false
 o:∀{C c},B.cl C c->PySem.W.kitOne B.K (.ref c) (.ref d)=some (isC up C D)
section
variable{B:Bs}{W:Wd}{S S':So}{H:Hp}
theorem ur{u:V}{t:String}(T:ClT B)(rs:RS B W S H)(r:Rv B W v u)(h:tyU S v=some t):(t∈tys/\TyOf B.K H u (.type t))\/(t="object"/\∃p C fs c,v=.ref p/\at? S p=some (.ins C fs)/\B.cl C c/\TyOf B.K H u (.ref c)):=by
 cases v with
 |non=>cases h;rw[show u=_ from r];exact .inl ⟨by decide,.non⟩
 |bl b=>cases h;rw[show u=_ from r];exact .inl ⟨by decide,.bl b⟩
 |int i=>cases h;rw[show u=_ from r];exact .inl ⟨by decide,.int i⟩
 |str x=>cases h;rw[show u=_ from r];exact .inl ⟨by decide,.str x⟩
 |tup xs=>cases h;obtain⟨p,vs,rfl,f,_⟩:=r;exact .inl ⟨by decide,.tup (rs.fz _ _ f)⟩
 |lst xs=>cases h;obtain⟨p,vs,rfl,f,_⟩:=r;exact .inl ⟨by decide,.lst (rs.fz _ _ f)⟩
 |ref p=>
  unfold tyU at h;dsimp only at h;obtain⟨a,rfl,hm⟩:=r;cases e:at? S p with
  |none=>rw[e] at h;cases h
  |some o=>
   obtain⟨a',g,hm',hh,ro,_⟩:=rs.here e;rw[hm] at hm';cases hm';rw[e] at h;cases o with
   |lst xs=>cases h;obtain⟨vs,rfl,_⟩:=ro;exact .inl ⟨by decide,.lst hh⟩
   |dct kvs=>cases h;obtain⟨vs,rfl,_⟩:=ro;exact .inl ⟨by decide,.dK hh⟩
   |dtt kvs=>cases h
   |ins C fs=>cases h;obtain⟨c,dx,vs,hc,rfl,_⟩:=ro;exact .inr ⟨rfl,p,C,fs,c,rfl,e,hc,T.ty hc hh⟩
   |dead=>cases h
 |_=>cases h
theorem uo{z:U}{u:V}{T:String}{up:List (Str×Str)}(rs:RS B W S H)(r:Rv B W v u)(h:pr up (.typ T) [v] S=.ok z S')(hT:T="list"\/T="str"\/T="dict"):z=v/\S'=S/\tyV B.K T u H:=by
 delta pr at h;dsimp only at h;split at h
 ·next t e=>
  split at h
  ·next et=>
   cases h;refine⟨rfl,rfl,?_⟩;have et:t=T:=beq_iff_eq.mp et;subst et;rcases hT with rfl|rfl|rfl
   ·cases v with
    |lst xs=>obtain⟨p,vs,rfl,f,_⟩:=r;exact .inl ⟨rfl,vs,.of (rs.fz _ _ f)⟩
    |ref p=>
     unfold tyU at e;dsimp only at e;cases e2:at? S p with
     |none=>rw[e2] at e;cases e
     |some o=>
      rw[e2] at e;cases o <;> try (simp at e;done)
      obtain⟨a',vs,e3,hh,_⟩:=cI rs r (xs:=_) (by unfold lsT;dsimp only;rw[e2]);subst e3;exact .inl ⟨rfl,vs,.of hh⟩
    |_=>simp[tyU] at e
   ·cases v with
    |str x=>rw[show u=_ from r];rfl
    |ref p=>
     unfold tyU at e;dsimp only at e;split at e <;> simp at e
    |_=>simp[tyU] at e
   ·cases v with
    |ref p=>
     unfold tyU at e;dsimp only at e;cases e2:at? S p with
     |none=>rw[e2] at e;cases e
     |some o=>
      rw[e2] at e;cases o <;> try (simp at e;done)
      obtain⟨a,rfl,hm⟩:=r;obtain⟨a',g,hm',hh,ro,_⟩:=rs.here e2;rw[hm] at hm';cases hm';obtain⟨vs,rfl,_⟩:=ro;exact .inr (.inr (.inl ⟨rfl,.inl ⟨vs,hh⟩⟩))
    |_=>simp[tyU] at e
  ·cases h
 ·cases h
end
section
variable{B:Bs}{up:List (Str×Str)}{G:Gx Prop}{Ex:St->XK}{c a b d:TEx Prop}{as:TAx Prop}
variable{X:Cx}{e ea eb ec o:Expr}{es:List Expr}{pos p1 p2 p3 apos cpos:Pos}{x y f m C:Str}{id T:String}{pm:Pm}{i:Nat}(g:MonG up G)
include g
theorem kU(hK:X.K=B.K)(ct:ClT B)(kt:KitT B T)(hg:Gl X "isinstance")(hm:X.mg "isinstance"=none)(hgy:Gl X y)(hmy:X.mg y=none)(hvy:bootBuiltins y=some (.type T))(hny:y≠"__name__")(hdy:(y==("__debug__":Str))=false)(ha:FE X B G Ex ea a)(hst:noStar ea=true):FE X B G Ex (.Call (.Name "isinstance" p1) [ea,.Name y p2] [] pos) (cP (.isT T) (aC a aN)):=
 ⟨wkE (oJ wt hg hm yK (jv ha.p (jv (rD hgy hmy hvy (v:=.ty T) rfl hny hdy) eJ rfl) hst) (by rw[xCj,hst];rfl)) λτ H Q h=>(LE.p1 g ha.m h).imp ha.m λu H1 zz=>by
  obtain⟨W,S,v,z,S',rs,r1,e,q⟩:=zz;delta pr at e;dsimp only at e;split at e
  ·next t et=>
   cases e;rcases ur ct rs r1 et with ⟨ht,ty⟩|⟨rfl,p,C,fs,c,_,_,hc,ty⟩
   ·exact⟨u,T,_,_,rfl,by rw[hK];exact ty,by rw[hK];exact kt.t _ ht,q.here rs rfl⟩
   ·exact⟨u,T,_,_,rfl,by rw[hK];exact ty,by rw[hK];exact kt.o hc,q.here rs rfl⟩
  ·(cases e),mP g (mAC g ha.m (mAN g))⟩
omit g in
def PrM(B:Bs)(up:List (Str×Str))(p:Pm)(r:V->List V->Hp->VK->Prop):Prop:=∀{W:Wd}{S:So}{H:Hp}{v:U}{u:V}{vs:List U}{us:List V}{z:U}{S':So}{Q:VK},RS B W S H->Rv B W v u->Rvs B W vs us->pr up p (v::vs) S=.ok z S'->VL B W Q z S'->r u us H Q
theorem kW{r:V->List V->Hp->VK->Prop}{name:Str}(hK:X.K=B.K)(pa:PlainAttrs T)(slot:Slot T name id)(hty:typeOf (.builtin id)=pure (.type "method_descriptor"))(hm:MtR X id r)(hp:PrM B up pm r)(hT:T="list"\/T="str"\/T="dict")(ho:FE X B G Ex o a)(he:FE X B G Ex e b)(h:noCall o=true)(h2:noStar e=true)(hl:(apos.endLine==cpos.line)=true):FE X B G Ex (.Call (.Attribute o name apos) [e] [] cpos) (cBM T pm a (aC b aN)):=
 ⟨wkE (yX pa slot hty hm ho.p (eZ g he (gY g) h2).p h h2 hl) λτ H Q ⟨W,σ,S,rs,rg,hh⟩=>LE.go ho.m rs rg hh λv S1 W1 u1 H1 le1 rs1 rv1 rg1 h1=>by
  obtain⟨z,S2,e2,h2⟩:=g.pok h1;obtain⟨rfl,rfl,ty⟩:=uo rs1 rv1 e2 hT;have fa:FA X B G Ex [e] (aC b aN):=eZ g he (gY g) ‹_›;refine⟨by rw[hK];exact ty,LA.go fa.m rs1 rg1 (fa.m.m (XL.upf le1 _) (λ_ _ _ h=>h) h2) λws S3 W3 us H3 hl le3 rs3 rv3 _ h3=>?_⟩;obtain⟨z3,S4,e4,q⟩:=g.pok h3;exact hp rs3 (rv1.mono le3) rv3 e4 (q.inc (le1.trans le3)),mBM g ho.m (mAC g he.m (mAN g))⟩
omit g in
theorem xO:PrM B up .app rAppend:=by
 intro W S H v u vs us z S' Q rs rv rvs h q;cases vs with
 |nil=>cases v <;> cases h
 |cons w t=>cases t with
  |cons _ _=>cases v <;> cases h
  |nil=>
   cases v <;> try (cases h;done)
   obtain⟨xs,aa,ys,e1,h2,e2,hm,hh,rr⟩:=kG rs rv h;obtain⟨hl,e3⟩:=cW h2;cases e3;obtain⟨u2,rfl,r2⟩:=rvs.inv1;exact⟨aa,ys,u2,e2,rfl,hh,by rw[rr.length];lia,q.here (rs.mut hm e1 (by nofun) ⟨_,rfl,rr.app (.one r2)⟩) rfl⟩
omit g in
omit g in
theorem o7{W:Wd}:∀{more:List (Key×U)}{ms:List (Key×V)}{kvs:List (Key×U)}{vs:List (Key×V)},Rn B W more ms->Rn B W kvs vs->Rn B W (mrgK kvs more) (mergK vs ms)
 |[],_,_,_,r,q=>by rw[show _=[] from r];exact q
 |(k,x)::t,_,_,_,r,q=>by
  obtain⟨v,ms,rfl,h1,h2⟩:=r;exact o7 (more:=t) (ms:=ms) (kvs:=putK k x _) (vs:=L2.putK _ k v) h2 (gD h1 q)
omit g in
theorem xy:PrM B up .upd rUpd:=by
 intro W S H v u vs us z S' Q rs rv rvs h q;cases vs with
 |nil=>cases v <;> cases h
 |cons w t=>cases t with
  |cons _ _=>cases v <;> cases w <;> cases h
  |nil=>
   cases v <;> try (cases w <;> cases h;done)
   cases w <;> try (cases h;done)
   delta pr at h;dsimp only at h;split at h
   ·next kvs more e1 e2=>
    split at h
    ·next hc=>
     cases h;obtain⟨hne,hl⟩:=xBe hc;obtain⟨u2,rfl,r2⟩:=rvs.inv1;obtain⟨a,rfl,hm⟩:=rv;obtain⟨a',g1,hm',hh,ro,_⟩:=rs.here e1;rw[hm] at hm';cases hm';obtain⟨b,rfl,hb⟩:=r2;obtain⟨b',g2,hb',hh2,ro2,_⟩:=rs.here e2;rw[hb] at hb';cases hb';obtain⟨ks,rfl,rn⟩:=ro;obtain⟨ms,rfl,rn2⟩:=ro2;refine⟨a,b,ks,ms,rfl,rfl,λz=>hne (rs.nd _ _ a hm (by rw[z];exact hb)),hh,hh2,by rw[rn.length,rn2.length];exact hl,q.here (rs.mut hm e1 (by nofun) ⟨_,rfl,o7 rn2 rn⟩) rfl⟩
    ·cases h
   ·cases h
omit g in
theorem xN:PrM B up .ext rExtend:=by
 intro W S H v u vs us z S' Q rs rv rvs h q;cases vs with
 |nil=>cases v <;> cases h
 |cons w t=>cases t with
  |cons _ _=>cases v <;> cases h
  |nil=>
   cases v <;> try (cases h;done)
   obtain⟨xs,aa,ys,e1,h2,e2,hm,hh,rr⟩:=kG rs rv h;split at h2
   ·next zs ez=>
    obtain⟨hl,e3⟩:=cW h2;cases e3;obtain⟨u2,rfl,r2⟩:=rvs.inv1;obtain⟨bb,ws,rfl,hb,rr2⟩:=cI rs r2 ez;exact⟨aa,bb,ys,ws,e2,rfl,hh,hb,by rw[rr.length,rr2.length];exact hl,q.here (rs.mut hm e1 (by nofun) ⟨_,rfl,rr.app rr2⟩) rfl⟩
   ·cases h2
omit g in
theorem vj:PrM B up .join (rJoin B.K):=by
 intro W S H v u vs us z S' Q rs rv rvs h q;cases vs with
 |nil=>cases h
 |cons b t=>cases t with
  |cons _ _=>cases h
  |nil=>
   delta pr at h;dsimp only at h;split at h
   ·next s xs es ex=>
    split at h
    ·next ws ew=>
     split at h
     ·next hl=>
      cases h;obtain⟨u2,rfl,r2⟩:=rvs.inv1;obtain⟨l,ys,rfl,hh,rr⟩:=cI rs r2 ex;have e:=strL_ok ew rr;subst e;have:=uA es;subst this;exact⟨s,l,ws,rv,rfl,.of hh,xBe hl,q.here rs rfl⟩
     ·cases h
    ·cases h
   ·cases h
theorem ua(hK:X.K=B.K)(h:FE X B G Ex e c)(he:∀whole,isTrue e X.env whole=(do let v <- whole;standAt e.pos;holding [v] (truthy v))):FT X B G Ex e (tB (cP .tru (aC c aN))):=by
 have mm:=mP g (p:=.tru) (mAC g h.m (mAN g));refine⟨wkT (nP h.p he) λτ H Q hh=>?_,mB g mm⟩;have h':LE B G Ex (cP .tru (aC c aN)) τ H (λx H'=>∃k,x=.bl k/\Q k H'):=by
  obtain⟨W,σ,S,rs,rg,hh⟩:=hh;refine LE.go mm rs rg hh λv S' W' u H' le rs' rv rg' h'=>?_;cases v <;> first|(exact(g.no h').elim)|exact⟨_,rv,h' W' H' le rs'⟩
 refine(LE.p1 g h.m h').imp h.m λu H1 zz=>?_;obtain⟨W,S,v,z,S',rs,r1,e,q⟩:=zz;change obB (truU S v) id S=_ at e;unfold obB at e;split at e
 ·next b eb=>
  cases e;obtain⟨k,ek,qk⟩:=q.here rs (u:=.bl b) rfl;cases ek;refine⟨b,?_,qk⟩;have seq:∀xs,sqU S v=some xs->b=!xs.isEmpty->TruV X.K u H1 b:=λxs ex hb=>by
   obtain⟨p,ys,rfl,sq,rr⟩:=eF rs r1 ex;have hb':b=!ys.isEmpty:=by rw[hb];cases xs <;> cases ys <;> first|rfl|(have:=rr.length;simp at this)
   rw[hK];rcases sq with sq|sq
   ·exact .inl ⟨ys,sq,hb'⟩
   ·exact .inr (.inl ⟨ys,sq,hb'⟩)
  unfold truU at eb;split at eb
  ·cases eb;rw[show u=_ from r1];rfl
  ·next p=>
   split at eb
   ·next xs e2=>exact seq xs (by show lsU S (.ref p)=_;unfold lsU;dsimp only;rw[e2]) (xB3 eb).symm
   ·cases eb
  ·cases eb
 ·cases e
omit g in
structure KdF(wo:World)(B:Bs):Prop where
 d:∀{p kvs no},B.kd p kvs no->KD wo B.K p
 y:∀{p kvs no x v},B.kd p kvs no->getF x kvs=some v->∃u val,PySem.W.nsIn B.K p x=some (some val)/\RelV u val/\∀W,Rv B W v u
 n:∀{p kvs no x},B.kd p kvs no->x∈no->PySem.W.nsIn B.K p x=some none
theorem wb{no:List Str}{p:Addr}(hK:X.K=B.K)(F:KdF X.w B)(hd:B.kd p kvs no)(hg:Gl X x)(hm:X.mg x=some (.ref p))(hdb:(x==("__debug__":Str))=false)(he:FE X B G Ex e b)(h2:noStar e=true)(hl:(apos.endLine==cpos.line)=true):FE X B G Ex (.Call (.Attribute (.Name x p1) "get" apos) [e] [] cpos) (cP .get1 (aC (cC (.kd kvs no)) (aC b aN))):=
 ⟨wkE (rB (by rw[hK];exact F.d hd) (gK hg hm (v:=.ref p) rfl hdb) he.p ⟨fj rfl,by rw[bv h2];rfl,hl,by rw[bv h2];rfl⟩) λτ H Q ⟨W,σ,S,rs,rg,hh⟩=>LE.go he.m rs rg hh λv S1 W1 u1 H1 le1 rs1 rv1 rg1 h1=>by
  obtain⟨z,S2,e2,q⟩:=g.pok h1;cases v <;> try (cases e2;done)
  change opt _ _=_ at e2;unfold opt at e2;split at e2
  ·next v' ev=>
   cases e2;obtain⟨u,val,e3,r3,r4⟩:=F.y hd ev;exact⟨_,u,val,rv1,by rw[hK];exact e3,r3,(q.inc le1).here rs1 (r4 _)⟩
  ·(cases e2),mP g (mAC g (mC g) (mAC g he.m (mAN g)))⟩
theorem wa{no:List Str}{p:Addr}(hK:X.K=B.K)(F:KdF X.w B)(hd:B.kd p kvs no)(hg:Gl X x)(hm:X.mg x=some (.ref p))(hdb:(x==("__debug__":Str))=false)(he:FE X B G Ex e b)(hc:FE X B G Ex ec c)(h2:noStar e=true)(h3:noStar ec=true)(hl:(apos.endLine==cpos.line)=true):FE X B G Ex (.Call (.Attribute (.Name x p1) "get" apos) [e,ec] [] cpos) (cP .get2 (aC (cC (.kd kvs no)) (lst2 b c))):=
 ⟨wkE (oC (by rw[hK];exact F.d hd) (gK hg hm (v:=.ref p) rfl hdb) he.p hc.p ⟨fj rfl,by rw[bv h2,bv h3];rfl,hl,by rw[bv h2,bv h3];rfl⟩) λτ H Q ⟨W,σ,S,rs,rg,hh⟩=>LE.go he.m rs rg hh λv S1 W1 u1 H1 le1 rs1 rv1 rg1 h1 =>
  LE.go hc.m rs1 rg1 (hc.m.m (XL.upf le1 _) (λ_ _ h=>h) h1) λw S2 W2 u2 H2 le2 rs2 rv2 _ h2=>by
   obtain⟨z,S3,e2,q⟩:=g.pok h2;cases v <;> try (cases e2;done)
   delta pr at e2;dsimp only at e2;split at e2
   ·next v' ev=>
    cases e2;obtain⟨u,val,e3,r3,r4⟩:=F.y hd ev;exact⟨_,u,some val,rv1,by rw[hK];exact e3,λ_ z=>by cases z;exact r3,nofun,(q.inc (le1.trans le2)).here rs2 (r4 _)⟩
   ·split at e2
    ·next hn=>
     cases e2;obtain⟨y,hy,ey⟩:=xCy.mp hn;have ey:=xBe ey;subst ey;exact⟨_,u2,none,rv1,by rw[hK];exact F.n hd hy,nofun,λ_=>rfl,(q.inc (le1.trans le2)).here rs2 rv2⟩
    ·(cases e2),mP g (mAC g (mC g) (mAC g he.m (mAC g hc.m (mAN g))))⟩
end
end Fx
namespace RevA
open PySem PySem.Spec PyProof.Rows
open AutoSeq1 (wpAny_loadPart')
def enObj2(it:Addr):Obj:={cls:=.type "enumerate",data:=.fields #[.none,.bool false,.ref it,rawInt 2,.none,.none]}
theorem mD(t:Addr)(xs:Array Value)(n:Nat)(dct:Option Addr)(sl:Array (Option Value))(tk:Tok) :
  Meets (Builtin.«enumerate.__new__» ⟨[.type "enumerate",.ref t],[("start",.int 2 tk)]⟩) (λ_ R s=>s.heap.get? t=some { cls:=.type "tuple",dict:=dct,data:=.seq xs n,slots:=sl } /\
   R (.ok (.ret (.ref (s.heap.push (tiObj t)).objs.size))) {s with heap:=(s.heap.push (tiObj t)).push (enObj2 s.heap.objs.size)}):=
 .of_wp λprog w A R s h=>by
  obtain⟨hp,g,d,tk,os⟩:=s;obtain⟨hl,h⟩:=h;have q1:=sub_enumerate;have hL:Heap.IsTuple (Shared.heap ⟨hp,g,d,tk,os⟩) t xs:=⟨_,hl,rfl,n,rfl⟩
  wp_walk using wpAny_loadPart' hl
  refine wpAny_stack_any λst=>xAe ?_;split
  ·rename_i c _ _ _ _ _
   cases (c==Value.type "enumerate")
   ·wp_walk using wpAny_loadPart' hl,wpAny_pyIter_tuple hL
    exact⟨_,rfl,h⟩
   ·wp_walk using wpAny_loadPart' hl,wpAny_pyIter_tuple hL
    exact⟨_,rfl,h⟩
  ·wp_walk using wpAny_loadPart' hl,wpAny_pyIter_tuple hL
   exact⟨_,rfl,h⟩
theorem nt(a b:Value):checkTypeCall "enumerate" ⟨[a],[("start",b)]⟩=pure ():=by kernel_rfl
theorem o0(a b:Value):checkBuiltinCall "enumerate.__new__" ⟨[.type "enumerate",a],[("start",b)]⟩=pure ():=by kernel_rfl
theorem qq(a b c:Value):argsOk "object.__init__" ⟨[a,b],[("start",c)]⟩:=by
 unfold argsOk;rw[signature?_of (id:="object.__init__") (n:=['_','_','t','i','n','i','_','_']) (o:=['t','c','e','j','b','o']) (by kernel_rfl) PySem.F.owner_object];kernel_rfl
section
variable{prog:Program}{w:World}{A:Around}{E:Value->Shared->Prop}{s:Shared}
theorem enumS{t:Addr}{xs:Array Value}{tk:Tok}{Q:Value->Shared->Prop}(hL:s.heap.IsTuple t xs)(h:∀h',IsEnum h' (s.heap.objs.size+1) s.heap.objs.size 2 .none->h'.IsTupleIter s.heap.objs.size t 0->(∀b o,s.heap.get? b=some o->h'.get? b=some o)->Q (.ref (s.heap.objs.size+1)) {s with heap:=h'}) :
  wpAny (model prog w) A (call (.type "enumerate") [.ref t] [("start",.int 2 tk)]) Q E s:=by
 obtain⟨⟨c,dct,dt,sl⟩,hl,hc,n,hd⟩:=hL
 replace hc:c=.type "tuple":=hc
 replace hd:dt=.seq xs n:=hd
 subst hc hd;obtain⟨c0,tl,hmro⟩:=PySem.F.called_enumerate.mro;have hmade:=PySem.F.called_enumerate.made;have hsub:=PySem.F.called_enumerate.sub;refine wpAny_call (codeAny_of_tree ?_);change wpAny _ _ (callAny (.type "enumerate") _) _ _ _;refine xAe ⟨Code.quiet_builtin _ (by decide +kernel),codeAny_builtin PySem.F.entry_type_call ?_⟩;rw[Around.under_plain (weight_type_call_type "enumerate" [.ref t] [("start",.int 2 tk)]) (units_type_call_type "enumerate" [.ref t] [("start",.int 2 tk)])];have q1:=PySem.F.called_enumerate.notType;have q2:=PySem.F.called_enumerate.canCreate;have q3:=nt (.ref t) (.int 2 tk);repeat (any_goals (first|assumption|wp_step))
 have hz:(s.heap.push (tiObj t)).objs.size=s.heap.objs.size+1:=Heap.size_push ..;have he:IsEnum ((s.heap.push (tiObj t)).push (enObj2 s.heap.objs.size)) (s.heap.objs.size+1) s.heap.objs.size 2 .none:=by
  have:=xAl (s.heap.push (tiObj t)) (o:=enObj2 s.heap.objs.size) rfl;rw[hz] at this;exact this
 have hn:=mD t xs n dct sl tk prog w A.in1 (λr s₁=>r=.ok (.ret (.ref (s.heap.objs.size+1)))/\s₁={s with heap:=(s.heap.push (tiObj t)).push (enObj2 s.heap.objs.size)}) s ⟨hl,by rw[hz];exact⟨rfl,rfl⟩⟩;refine codeAny_mono (codeAny_call_builtin (R:=λr s₁=>r=.ok (.ret (.ref (s.heap.objs.size+1)))/\s₁={s with heap:=(s.heap.push (tiObj t)).push (enObj2 s.heap.objs.size)}) PySem.F.called_enumerate.plain PySem.F.entry_enumerate_new (wpAny_of_eq (o0 _ _) hn)) λr s₁ hr=>?_;obtain⟨rfl,rfl⟩:=hr;have hT:Shared.TypeIs {s with heap:=(s.heap.push (tiObj t)).push (enObj2 s.heap.objs.size)} (.ref (s.heap.objs.size+1)) "enumerate":=⟨_,he,rfl⟩
 have hli:=PySem.F.called_enumerate.init.lookup;have hbi:=PySem.F.called_enumerate.init.bind (.ref (s.heap.objs.size+1));repeat (any_goals (first|assumption|wp_step))
 refine codeAny_mono (codeAny_call_builtin (R:=λr s₁=>r=.ok (.ret .none)/\s₁={s with heap:=(s.heap.push (tiObj t)).push (enObj2 s.heap.objs.size)}) PySem.F.called_enumerate.init.plain PySem.F.entry_object_init (PySem.F.called_enumerate.init.check _ _ _ _ _ _ _ _ hT (qq _ _ _) ?_)) λr s₁ hr=>?_
 ·have hne:(some "enumerate.__new__" != some "object.__new__")=true:=by decide
  repeat (any_goals (first|assumption|wp_step))
  exact⟨rfl,rfl⟩
 ·obtain⟨rfl,rfl⟩:=hr;repeat (any_goals (first|assumption|wp_step))
  exact h _ he ⟨_,xAf _ (xAl _ rfl),rfl,rfl⟩ λb o x=>xAf _ (xAf _ x)
end
theorem draws2{prog:Program}{w:World}{A:Around}{it:Addr}{fp:List Addr}{n:Nat}{P:Nat->Value->Prop}{St:Nat->Heap->Prop}(D:Draws prog w A it fp n P St) :
  Draws prog w A it fp (n+2) (λi v=>P (i-2) v) (λi h=>2<=i/\St (i-2) h) where
 live:=λi h st=>D.live (i-2) h st.2
 frame:=λi h h' st hk=>⟨st.1,D.frame (i-2) h h' st.2 hk⟩
 item:=λi s Q E hi st hQ=>D.item (i-2) s Q E (by lia) st.2 λv h' tk a b c=>hQ v h' tk a ⟨by lia,by rw[show i+1-2=i-2+1 by have:=st.1;lia];exact b⟩ c
 done:=λs Q E st hE=>D.done s Q E (by have:=st.2;rw[Nat.add_sub_cancel] at this;exact this) hE
end RevA
namespace L2
open PySem PySem.Spec PyProof.Rows RevA
variable{P:Program}{w:World}{K:xFr}{elts:List Expr}{k lim:Nat}{pos p:Pos}{a:Expr}{ta:TA}{it:Addr}{x:V}{kx:Bool}
def Its2(K:xFr)(a:Addr):It:=
 ⟨λi H=>∃xs x,SqT K H a xs/\xs[i]?=some x,λi H x H'=>∃(p:Addr) (v:V),x=.ref p/\H p=none/\H'=upd H p (.tup [.int ((i+2:Nat):Int),v])/\∀xs,SqT K H a xs->xs[i]?=some v,λi H=>∃xs,SqT K H a xs/\xs.length=i⟩
theorem jl(a it e:Addr)(hne:e≠it)(hae:a≠e)(hai:a≠it):Turn P w K (.Tuple elts k pos) (Its2 K a) [e,it] e (λi h=>(∃old,IsEnum h e it ((i+2:Nat):Int) old)/\h.IsTupleIter it a i) where
 mem:=by simp
 obj:=λi h st b hb=>by
  obtain⟨⟨old,q1⟩,o,q2,c,d⟩:=st;simp only[xAv,xBv,or_false] at hb;rcases hb with rfl|rfl
  ·exact⟨_,q1,λv z=>by cases z⟩
  ·exact⟨o,q2,λv z=>by rw[d] at z;cases z⟩
 keep:=λi h h' st k=>⟨let ⟨old,q⟩:=st.1;⟨old,k e (by simp) _ q⟩,st.2.at λo e'=>k it (by simp) o e'⟩
 item:=by
  intro X hP hw hK hc i Z s σ H E I hf st hg;subst hP hw hK;obtain⟨xs,x,hq,hx⟩:=hg;obtain⟨its,rv,p,hz⟩:=I.tuple hq;obtain⟨u,hu,ru⟩:=rv.get hx;obtain⟨⟨old,he⟩,hit⟩:=st;have D:=draws2 (drawsT (prog:=X.prog) (w:=X.w) (A:=X.A.in1) (by simpa using I.ok.hd hc) it a hai its.toArray);have hilt:i+2<its.toArray.size+2:=by
   rw[xAp];have:=(xAq.mp hu).1;lia
  refine wpAny_pyNext_enum_itemD D he ⟨by lia,by rw[Nat.add_sub_cancel];exact⟨hit,p⟩⟩ hilt hne (by simp[hne,Ne.symm hae]) λx1 h1 tk hP ho st1 hT hsz hk=>?_;have hx1:x1=u:=by
   have e1:its.toArray[i+2-2]?=some x1:=hP;rw[Nat.add_sub_cancel,List.getElem?_toArray,hu] at e1;cases e1;rfl
  subst hx1;have st1:=st1.2;rw[show i+2+1-2=i+1 by lia] at st1;have hel:e<s.heap.objs.size:=xA1 he;have hil:it<s.heap.objs.size:=by obtain⟨_,z,_⟩:=hit;exact xA1 z
  have h0:H s.heap.objs.size=none:=I.hok.fresh (xAg _);have I1:Inv X Z σ (upd H s.heap.objs.size (.tup [.int ((i+2:Nat):Int),x])) {s with heap:=s.heap.push {cls:=.type "tuple",data:=.seq #[.int ((i+2:Nat):Int) tk,x1]},toks:=tk+1}:=by
   refine I.laid (λb o e=>xAf _ e) (xAg _) ⟨by simp[sizeLine_eq],[.int ((i+2:Nat):Int) tk,x1],.cons ⟨_,rfl⟩ (.cons ru .nil),_,xAl _ rfl,rfl,_,rfl⟩
  refine⟨_,rfl,wpAny_letOwnedTupleGo_enum (s:={s with heap:=h1,toks:=tk+1}) ho λh2 he2 hs2=>?_⟩;have hs2':Heap.SameBut e h1 h2:=hs2;have fp':∀b∈[e,it],FpOk X Z (upd H s.heap.objs.size (.tup [.int ((i+2:Nat):Int),x])) b:=λb hb=>by
   obtain⟨f0,f⟩:=hf b hb;refine⟨?_,f⟩;rw[bq]
   ·exact f0
   ·simp only[xAv,xBv,or_false] at hb;rcases hb with rfl|rfl
    ·exact xA0 hel
    ·exact xA0 hil
  have I2:=Inv.turnedL (t':=tk+1) (h':=h2) (fp:=[e,it]) I1 (λb o hb eb=>?_) fp'
  ·refine⟨.ref s.heap.objs.size,_,I2,rfl,⟨_,x,rfl,h0,rfl,λys hy=>by rw[I.tuple_inj hy hq];exact hx⟩,⟨⟨_,by rw[show i+1+2=i+2+1 by lia];exact he2⟩,st1.1.at λo z=>(hs2'.2 it hne.symm).trans z⟩,λb hb=>(fp' b hb).1⟩
  ·simp only[xAv,xBv,or_false,not_or] at hb;rw[hs2'.2 b hb.1];by_cases z:b=s.heap.objs.size
   ·subst z;rw[hT];rw[<- eb];exact(xAl _ rfl).symm
   ·refine hk b o hb.1 hb.2 ?_;exact(Heap.get?_push_cases eb).elim (λy=>absurd y.1 z) id
 done:=by
  intro X hP hw hK hc i Z s σ H E I hf st hg;subst hP hw hK;obtain⟨xs,hq,hx⟩:=hg;obtain⟨its,rv,p,hz⟩:=I.tuple hq;obtain⟨f0,f1,f2,f3,f4,f5⟩:=hf it (by simp);have hl:=rv.length;obtain⟨⟨old,he⟩,hit⟩:=st;have D:=drawsT (prog:=X.prog) (w:=X.w) (A:=X.A.in1) (by simpa using I.ok.hd hc) it a hai its.toArray;have e1:its.toArray.size=i:=by rw[xAp];lia
  exact wpAny_pyNext_enum_endD D he (by rw[e1];exact⟨hit,p⟩) λh' eb=>⟨rfl,I.turned (t':=s.toks) (λb o hb e=>eb b o hb e) f0 f1 f3 f4 f5⟩
 self:=λ_ _ _ _ _ st h=>let ⟨⟨old,he⟩,_⟩:=st;wpAny_pyIter_enum he h
def nIterS2(K:xFr)(vs:List V)(H:Hp)(R:It->Hp->Prop):Prop:=∃a,vs=[.ref a]/\(∃xs,SqT K H a xs)/\R (Its2 K a) H
def iEnumS(K:xFr)(ta:TA):TI:=λσ H R=>ta σ H λvs H1=>nIterS2 K vs H1 R
theorem pU{M:Model}{A:Around}{E:Value->Shared->Prop}{s:Shared}{env:Env}{T:String}{e:Expr}{kws:List Keyword}{Q:Value->Shared->Prop}(he:starEach [e] env=[(false,eval e env)])(hall:(backToKw pos (keywordEach kws env)).all (·.1.isSome)=true)(hkw:(backToKw pos (keywordEach kws env)).any (·.1.isNone)=false)(h:wpAny M A (spliced (backTo pos (starEach [e] env))) (λvs s₁=>wpAny M A (evalAll ((backToKw pos (keywordEach kws env)).map (·.2))) (λkvs s₂=>wpAny M A (call (.type T) vs (((backToKw pos (keywordEach kws env)).filterMap (·.1)).zip kvs)) Q E s₂) E s₁) E s) :
  wpAny M A (callWith pos (.type T) [] (backTo pos (starEach [e] env)) (backToKw pos (keywordEach kws env))) Q E s:=by
 rw[he,show backTo pos [(false,eval e env)]=(false,eval e env)::[] from rfl] at h⊢;unfold callWith;refine xAd (xDc (wpAny_mono (evalArgs_kwB (Q:=λa s₁=>wpAny M A (call (.type T) ([]++a.pos) a.kw) Q E s₁) hall h) (λa s₁ h₁=>xAd (wpAny_standAt ?_)) λ_ _ x=>x));rw[hkw,show((false,eval e env)::[]).any (·.1)=false from rfl];refine xAd (xAe ?_);exact xAd (wpAny_mono h₁ (λr s₂ hr=>xAd (xDc (wpAny_point (xAe hr)))) λ_ _ x=>x)
section
variable{X:Cx}
theorem ot{pt kp np:Pos}{j:Nat}(hg:Gl X "enumerate")(hm:X.mg "enumerate"=none)(ha:PA X [a] ta)(hs:starEach [a] X.env=[(false,eval a X.env)]) :
  PI X (.Tuple elts k pt) (.Call (.Name "enumerate" p) [a] [⟨some "start",.Constant (.int 2) j np,kp⟩] pos) (iEnumS X.K ta):=by
 intro Z s σ H R I h;refine xAd (eN I hg hm mX (pU hs rfl rfl (thn (ha pos Z s σ H _ I h) λus s1 ⟨vs,H1,I1,r1,q1⟩=>kws_cons (wpAny_Constant_int (kws_nil ?_)))));obtain⟨l,e,⟨xs,hq⟩,q⟩:=q1;subst e;cases r1 with
 |cons r rr=>
  cases rr;cases r;obtain⟨its,rv,pl,hz⟩:=I1.tuple (xs:=xs) hq;have hll:l<s1.heap.objs.size:=by obtain⟨o,ho,_⟩:=pl;exact xA1 ho
  refine enumS (s:={s1 with toks:=s1.toks+1}) (show s1.heap.IsTuple l its.toArray from pl) λh' he hit hk=>?_;refine wpAny_pyIter_enum he ?_;have I2:Inv X Z σ H1 {s1 with heap:=h',toks:=s1.toks+1}:=(I1.tok _).kept (t':=s1.toks+1) hk;refine⟨s1.heap.objs.size+1,[s1.heap.objs.size+1,s1.heap.objs.size],_,_,H1,rfl,I2,jl l _ _ (Nat.succ_ne_self _) (xA0 (Nat.lt_succ_of_lt hll)) (xA0 hll),⟨⟨_,he⟩,hit⟩,λb hb=>?_,q⟩;have hb':s1.heap.objs.size<=b:=by
   simp only[xAv,xBv,or_false] at hb;rcases hb with rfl|rfl
   ·exact Nat.le_succ _
   ·exact xAg _
  exact I1.fpOk hb' (I1.hok.fresh hb')
end
def sqB(k:Bool)(K:xFr)(H:Hp)(a:Addr)(xs:List V):Prop:=match k with
 |true=>SqT K H a xs
 |false=>SqL K H a xs
def sqK(k:Bool)(K:xFr)(H:Hp)(x:V)(xs:List V):Prop:=∃a,x=.ref a/\sqB k K H a xs
structure SrW(k:Bool)(P:Program)(w:World)(K:xFr)(lim:Nat)(x:V)(it:Addr)(tn:Nat->Heap->Prop):Prop where
 obj:∀i h,tn i h->∃o,h.get? it=some o/\∀v,o.data≠.cell v
 keep:∀i h h',tn i h->(∀o,h.get? it=some o->h'.get? it=some o)->tn i h'
 dr:∀(X:Cx),X.prog=P->X.w=w->X.K=K->X.calm=true->∀(Z:List (Addr×Obj))(σ:St)(H:Hp)(s:Shared),Inv X Z σ H s->∀xs,sqK k K H x xs->∃(f:List Addr) (Pv:Nat->Value->Prop) (S:Nat->Heap->Prop),
  (∀b∈f,b=it\/b<lim)/\Draws P w X.A.in1 it f xs.length Pv S/\(∀i,tn i s.heap->S i s.heap)/\(∀i h,S i h->tn i h)/\(∀i v,Pv i v->∃u,xs[i]?=some u/\RelV u v)/\∀ys,sqK k K H x ys->ys=xs
theorem qE{a:Addr}(ha:a<lim)(hi:lim<=it):SrW true P w K lim (.ref a) it (λi h=>h.IsTupleIter it a i) where
 obj:=λi h ⟨o,e,_,d⟩=>⟨o,e,λv z=>by rw[d] at z;cases z⟩
 keep:=λi h h' st k=>st.at λo e=>k o e
 dr:=by
  intro X hP hw hK hc Z σ H s I xs hx;subst hP hw hK;obtain⟨b,e,hx⟩:=hx
  ·cases e;obtain⟨its,rv,p,hz⟩:=I.tuple hx;have hl:=rv.length;have D:=drawsT (prog:=X.prog) (w:=X.w) (A:=X.A.in1) (by simpa using I.ok.hd hc) it a (xA0 (xBc ha hi)) its.toArray;rw[xAp,<- hl] at D;refine⟨_,_,_,λb hb=>?_,D,λi st=>⟨st,p⟩,λi h st=>st.1,λi v hv=>?_,λys hy=>?_⟩
   ·simp only[xAv,xBv,or_false] at hb;rcases hb with rfl|rfl
    ·exact .inl rfl
    ·exact .inr ha
   ·have hv:its[i]?=some v:=by simpa using hv
    have hi:i<xs.length:=by rw[hl];exact(xAq.mp hv).1
    obtain⟨u,hu,ru⟩:=rv.get (xAk hi);rw[hv] at hu;cases hu;exact⟨_,xAk hi,ru⟩
   ·obtain⟨b,e,hy⟩:=hy;cases e;exact I.tuple_inj hy hx
theorem qF{a:Addr}(ha:a<lim)(hi:lim<=it):SrW false P w K lim (.ref a) it (λi h=>h.IsListIter it a i) where
 obj:=λi h ⟨o,e,_,d⟩=>⟨o,e,λv z=>by rw[d] at z;cases z⟩
 keep:=λi h h' st k=>st.at λo e=>k o e
 dr:=by
  intro X hP hw hK hc Z σ H s I xs hx;subst hP hw hK;obtain⟨b,e,hx⟩:=hx
  ·cases e;obtain⟨its,rv,p,hz⟩:=I.list hx;have hl:=rv.length;have D:=Draws.list (prog:=X.prog) (w:=X.w) (A:=X.A.in1) (by simpa using I.ok.hd hc) it a (xA0 (xBc ha hi)) its.toArray;rw[xAp,<- hl] at D;refine⟨_,_,_,λb hb=>?_,D,λi st=>⟨st,p.isList⟩,λi h st=>st.1,λi v hv=>?_,λys hy=>?_⟩
   ·simp only[xAv,xBv,or_false] at hb;rcases hb with rfl|rfl
    ·exact .inl rfl
    ·exact .inr ha
   ·have hv:its[i]?=some v:=by simpa using hv
    have hi:i<xs.length:=by rw[hl];exact(xAq.mp hv).1
    obtain⟨u,hu,ru⟩:=rv.get (xAk hi);rw[hv] at hu;cases hu;exact⟨_,xAk hi,ru⟩
   ·obtain⟨b,e,hy⟩:=hy;cases e;exact I.list_inj hy hx
def Itzw(kx ky:Bool)(K:xFr)(x y:V):It:=
 ⟨λi H=>∃xs ys u v,sqK kx K H x xs/\sqK ky K H y ys/\xs[i]?=some u/\ys[i]?=some v,
  λi H p H'=>∃(q:Addr) (u v:V),p=.ref q/\H q=none/\H'=upd H q (.tup [u,v])/\(∀xs,sqK kx K H x xs->xs[i]?=some u)/\∀ys,sqK ky K H y ys->ys[i]?=some v,
  λi H=>∃xs,sqK kx K H x xs/\xs.length=i⟩
theorem lJ{y:V}{n:Nat}{t1 t2:Nat->Heap->Prop}{ky:Bool}(s1:SrW kx P w K n x n t1)(s2:SrW ky P w K n y (n+1) t2) :
  Turn P w K (.Tuple elts k pos) (Itzw kx ky K x y) [n+4,n+2,n+3,n,n+1] (n+4) (λi h=>IsZip h (n+4) (n+2) (n+3) .none/\IsPair h (n+2) (.ref n) (.ref (n+1))/\(∃x y,IsPair h (n+3) x y)/\t1 i h/\t2 i h) where
 mem:=by simp
 obj:=λi h st c hc=>by
  obtain⟨q1,q2,⟨x,y,q3⟩,q4,q5⟩:=st;simp only[xAv,xBv,or_false] at hc;rcases hc with rfl|rfl|rfl|rfl|rfl
  ·exact⟨_,q1,λv z=>by cases z⟩
  ·exact⟨_,q2,λv z=>by cases z⟩
  ·exact⟨_,q3,λv z=>by cases z⟩
  ·exact s1.obj i h q4
  ·exact s2.obj i h q5
 keep:=λi h h' st k=>by
  obtain⟨q1,q2,⟨x,y,q3⟩,q4,q5⟩:=st;exact⟨k _ (by simp) _ q1,k _ (by simp) _ q2,⟨x,y,k _ (by simp) _ q3⟩,s1.keep i h h' q4 λo e=>k _ (by simp) o e,s2.keep i h h' q5 λo e=>k _ (by simp) o e⟩
 item:=by
  intro X hP hw hK hc i Z s σ H E I hf st hg;subst hP hw hK;obtain⟨xs,ys,u,v,hq,hr,hx,hy⟩:=hg;obtain⟨q1,q2,⟨x0,y0,q3⟩,q4,q5⟩:=st;obtain⟨f1,P1,S1,m1,D1,a1,c1,r1,j1⟩:=s1.dr X rfl rfl rfl hc Z σ H s I xs hq;obtain⟨f2,P2,S2,m2,D2,a2,c2,r2,j2⟩:=s2.dr X rfl rfl rfl hc Z σ H s I ys hr;have AP:=ng (f1:=f1) (f2:=f2) m1 m2;have lz:n+4<s.heap.objs.size:=xA1 q1;have h0:H s.heap.objs.size=none:=I.hok.fresh (xAg _);refine lH D1 D2 AP q1 q2 q3 (a1 i q4) (a2 i q5) (xAq.mp hx).1 (xAq.mp hy).1 λu1 v1 h1 tk p1 p2 b1 b2 b3 b4 b5 hk=>?_;obtain⟨u',hu',ru⟩:=r1 i u1 p1;rw[hx] at hu';cases hu';obtain⟨v',hv',rv⟩:=r2 i v1 p2;rw[hy] at hv';cases hv';have I1:Inv X Z σ (upd H s.heap.objs.size (.tup [u,v])) {s with heap:=s.heap.push {cls:=.type "tuple",data:=.seq #[u1,v1]},toks:=tk}:=by
   refine I.laid (λb o e=>xAf _ e) (xAg _) ⟨by simp[sizeLine_eq],[u1,v1],.cons ru (.cons rv .nil),_,xAl _ rfl,rfl,_,rfl⟩
  refine⟨_,rfl,wpAny_letOwnedTupleGo_zip (s:={s with heap:=h1,toks:=tk}) b1 λh2 e1 hs2=>?_⟩;have hs2':Heap.SameBut (n+4) h1 h2:=hs2;have fp':∀b∈[n+4,n+2,n+3,n,n+1],FpOk X Z (upd H s.heap.objs.size (.tup [u,v])) b:=λb hb=>by
   obtain⟨f0,f⟩:=hf b hb;refine⟨?_,f⟩;rw[bq]
   ·exact f0
   ·simp only[xAv,xBv,or_false] at hb;rcases hb with rfl|rfl|rfl|rfl|rfl <;> exact xA0 (by lia)
  have I2:=Inv.turnedL (t':=tk) (h':=h2) (fp:=[n+4,n+2,n+3,n,n+1]) I1 (λb o hb eb=>?_) fp'
  ·refine⟨.ref s.heap.objs.size,_,I2,rfl,⟨_,u,v,rfl,h0,rfl,λzs hz=>by rw[j1 zs hz];exact hx,λzs hz=>by rw[j2 zs hz];exact hy⟩,⟨e1,?_,⟨u1,v1,?_⟩,?_,?_⟩,λb hb=>(fp' b hb).1⟩
   ·exact(hs2'.2 _ AP.q1).trans (hk _ _ AP.q1 AP.q5 AP.q6 AP.q7 q2)
   ·exact(hs2'.2 _ AP.q2).trans b2
   ·exact s1.keep _ _ _ (c1 _ _ b3) λo e=>(hs2'.2 _ AP.q3).trans e
   ·exact s2.keep _ _ _ (c2 _ _ b4) λo e=>(hs2'.2 _ AP.q4).trans e
  ·simp only[xAv,xBv,or_false,not_or] at hb;rw[hs2'.2 b hb.1];by_cases zz:b=s.heap.objs.size
   ·subst zz;rw[show h1.get? s.heap.objs.size=_ from b5];rw[<- eb];exact(xAl _ rfl).symm
   ·refine hk b o hb.1 hb.2.2.1 hb.2.2.2.1 hb.2.2.2.2 ?_;exact(Heap.get?_push_cases eb).elim (λy=>absurd y.1 zz) id
 done:=by
  intro X hP hw hK hc i Z s σ H E I hf st hg;subst hP hw hK;obtain⟨xs,hq,rfl⟩:=hg;obtain⟨q1,q2,⟨x0,y0,q3⟩,q4,q5⟩:=st;obtain⟨f1,P1,S1,m1,D1,a1,c1,r1,j1⟩:=s1.dr X rfl rfl rfl hc Z σ H s I xs hq;have AP:=ng (f1:=f1) (f2:=[]) m1 λb hb=>nomatch hb;refine lI D1 AP q1 q2 (a1 _ q4) λh' eb=>⟨rfl,Inv.turnedL (t':=s.toks) (fp:=[n+4,n+2,n+3,n,n+1]) I (λb o hb e=>?_) hf⟩
  simp only[xAv,xBv,or_false,not_or] at hb;exact eb b o hb.1 hb.2.2.1 hb.2.2.2.1 hb.2.2.2.2 e
 self:=λ_ _ _ _ _ st h=>wpAny_pyIter_zip st.1 h
def nIterZw(K:xFr)(vs:List V)(H:Hp)(R:It->Hp->Prop):Prop:=∃x y kx ky,vs=[x,y]/\(∃xs,sqK kx K H x xs)/\(∃ys,sqK ky K H y ys)/\R (Itzw kx ky K x y) H
def iZipw(K:xFr)(ta:TA):TI:=λσ H R=>ta σ H λvs H1=>nIterZw K vs H1 R
section
variable{X:Cx}
theorem nA{Z:List (Addr×Obj)}{σ:St}{H:Hp}{s:Shared}{v:Value}(I:Inv X Z σ H s)(r:RelV x v){xs:List V}(h:sqK kx X.K H x xs)(lim it:Nat)(hl:s.heap.objs.size<=lim)(hi:lim<=it) :
  ∃(o:Obj) (tn:Nat->Heap->Prop),(∀h',(∀c o,s.heap.get? c=some o->h'.get? c=some o)->IterTo v o h')/\o.isFreed=false/\SrW kx X.prog X.w X.K lim x it tn/\∀h',h'.get? it=some o->tn 0 h':=by
 obtain⟨a,rfl,hx⟩:=h;obtain rfl:v=Value.ref a:=r;cases kx with
 |true=>
  obtain⟨its,rv,p,hz⟩:=I.tuple hx;have ha:a<s.heap.objs.size:=by obtain⟨o,e,_⟩:=p;exact xA1 e
  refine⟨tiObj a,_,λh' k=>?_,rfl,qE (xBc ha hl) hi,λh' e=>⟨_,e,rfl,rfl⟩⟩;intro prog w A E s' Q e q;subst e;obtain⟨o,e,r⟩:=p;exact wpAny_pyIter_tuple (items:=its.toArray) ⟨o,k _ _ e,r⟩ q
 |false=>
  obtain⟨its,rv,p,hz⟩:=I.list hx;have ha:a<s.heap.objs.size:=by obtain⟨o,n,e,_⟩:=p;exact xA1 e
  refine⟨{cls:=.type "list_iterator",data:=.fields #[.ref a,.int 0 0]},_,λh' k=>?_,rfl,qF (xBc ha hl) hi,λh' e=>⟨_,e,rfl,rfl⟩⟩;intro prog w A E s' Q e q;subst e;obtain⟨o,n,e,r⟩:=p;exact wpAny_pyIter_list (PlainL.isList ⟨o,n,k _ _ e,r⟩) q
theorem rj{b:Expr}{pt:Pos}(hg:Gl X "zip")(hm:X.mg "zip"=none)(ha:PA X [a,b] ta)(hs:starEach [a,b] X.env=(false,eval a X.env)::starEach [b] X.env)(hs2:starEach [b] X.env=[(false,eval b X.env)]) :
  PI X (.Tuple elts k pt) (.Call (.Name "zip" p) [a,b] [] pos) (iZipw X.K ta):=by
 intro Z s σ H R I h;refine Call_ (eN I hg hm qd (PyProof.Rows.callWith_type1 (thn (ha pos Z s σ H _ I h) λus s1 ⟨vs,H1,I1,r1,q1⟩=>?_) hs (by rw[hs2];rfl)));obtain⟨x,y,kx,ky,e,⟨xs,hq⟩,⟨ys,hr⟩,q⟩:=q1;subst e;cases r1 with
 |cons r rr=>
  cases rr with
  |cons r2 rr=>
   cases rr;obtain⟨o1,t1,j1,fr1,S1,z1⟩:=nA I1 r hq s1.heap.objs.size s1.heap.objs.size (xAg _) (xAg _);obtain⟨o2,t2,j2,fr2,S2,z2⟩:=nA I1 r2 hr s1.heap.objs.size (s1.heap.objs.size+1) (xAg _) (Nat.le_succ _);refine nc (j1 _ λ_ _ e=>e) (j2 _ λ_ _ e=>xAf _ e) λh' a1 a2 a3 a4 a5 hk=>?_;refine wpAny_pyIter_zip a1 ?_;have I2:Inv X Z σ H1 {s1 with heap:=h'}:=I1.kept (t':=s1.toks) hk;refine⟨s1.heap.objs.size+4,[s1.heap.objs.size+4,s1.heap.objs.size+2,s1.heap.objs.size+3,s1.heap.objs.size,s1.heap.objs.size+1],_,_,H1,rfl,I2,lJ S1 S2,⟨a1,a2,⟨_,_,a3⟩,z1 _ (a4 fr1),z2 _ (a5 fr2)⟩,λb hb=>?_,q⟩;have hb':s1.heap.objs.size<=b:=by
    simp only[xAv,xBv,or_false] at hb;rcases hb with rfl|rfl|rfl|rfl|rfl <;> lia
   exact I1.fpOk hb' (I1.hok.fresh hb')
end
end L2
namespace Fx
open PySem PySem.Spec L2
open PyProof.Rows hiding St
variable{ys:List V}{xs:List U}{ts:List Expr}{k:Nat}{is:List Nat}{S:So}{H:Hp}{σ:Sg}{τ:St}{D:Ends}
structure Wku(B:Bs)(J:It)(W:Wd)(vs:List U):Prop where
 go:∀{i:Nat}{H:Hp}{W':Wd}{S:So},W.Lf W'->RS B W' S H->i<vs.length->J.go i H
 yld:∀{i:Nat}{H H':Hp}{x:V}{v:U}{W':Wd}{S:So},W.Lf W'->RS B W' S H->vs[i]?=some v->J.yld i H x H'->∃W2,W'.Le W2/\RS B W2 S H'/\Rv B W2 v x
 stop:∀{H:Hp}{W':Wd}{S:So},W.Lf W'->RS B W' S H->J.stop vs.length H
def IL(B:Bs)(W:Wd)(R:It->Hp->Prop):Kv Prop:=λv S=>∀W' J H vs,W.Le W'->RS B W' S H->v=.tup vs->Wku B J W' vs->R J H
def LI(B:Bs)(G:Gx Prop)(Ex:St->XK)(c:TEx Prop):TI:=λτ H R=>∃W σ S,RS B W S H/\Rg B W σ τ/\c G σ S (XL B W (Ex τ)) (IL B W R)
structure FI(X:Cx)(B:Bs)(G:Gx Prop)(Ex:St->XK)(tg it:Expr)(c:TEx Prop):Prop where
 p:PI X tg it (LI B G Ex c)
 m:MonE G c
theorem wkI{X:Cx}{tg e:Expr}{t t':TI}(h:PI X tg e t)(w:∀σ H R,t' σ H R->t σ H R):PI X tg e t':=λZ s σ H R I q=>h Z s σ H R I (w _ _ _ q)
section
variable{B:Bs}{W:Wd}{vs:List U}
theorem wkuL{a:Addr}(h:SqL B.K W.F a ys)(r:Rvs B W vs ys):Wku B (Itl B.K a) W vs where
 go:=λ{i H W' S} le rs hi=>⟨ys,ys[i]'(by rw[r.length];exact hi),dR (λp o z=>rs.fz p o (le.f p o z)) h,by simp⟩
 yld:=λ{i H H' x v W' S} le rs hv ⟨e,y⟩=>by
  subst e;obtain⟨u,e2,ru⟩:=r.get hv;have:=y ys (dR (λp o z=>rs.fz p o (le.f p o z)) h);rw[e2] at this;cases this;exact⟨W',.refl,rs,ru.lf le⟩
 stop:=λle rs=>⟨ys,dR (λp o z=>rs.fz p o (le.f p o z)) h,by rw[r.length];exact xAg _⟩
theorem wkuT{a:Addr}(h:∀H:Hp,(∀p o,W.F p=some o->H p=some o)->SqT B.K H a ys)(r:Rvs B W vs ys):Wku B (Itt B.K a) W vs where
 go:=λ{i H W' S} le rs hi=>⟨ys,ys[i]'(by rw[r.length];exact hi),h _ λp o z=>rs.fz p o (le.f p o z),by simp⟩
 yld:=λ{i H H' x v W' S} le rs hv ⟨e,y⟩=>by
  subst e;obtain⟨u,e2,ru⟩:=r.get hv;have:=y ys (h _ λp o z=>rs.fz p o (le.f p o z));rw[e2] at this;cases this;exact⟨W',.refl,rs,ru.lf le⟩
 stop:=λle rs=>⟨ys,h _ λp o z=>rs.fz p o (le.f p o z),by rw[r.length];exact xAg _⟩
theorem iV:∀{n:Nat}{lo:Int}{i:Nat},(intL lo n)[i]?=if i<n then some (.int (lo+i)) else none
 |0,_,_=>by simp[intL]
 |n+1,lo,0=>by simp[intL]
 |n+1,lo,i+1=>by
  show(intL (lo+1) n)[i]?=_;rw[iV];by_cases h:i<n
  ·rw[xCg h,xCg (by lia)];congr 2;lia
  ·rw[xCf h,xCf (by lia)]
theorem intL_len:∀{n:Nat}{lo:Int},(intL lo n).length=n
 |0,_=>rfl
 |n+1,lo=>by show(intL (lo+1) n).length+1=_;rw[intL_len]
theorem wkuR{lo:Int}{n:Nat}:Wku B (Itr lo n) W (intL lo n) where
 go:=λle rs hi=>by rw[intL_len] at hi;exact hi
 yld:=λ{i H H' x v W' S} le rs hv ⟨e,y⟩=>by
  subst e y;rw[iV] at hv;split at hv
  ·cases hv;exact⟨W',.refl,rs,rfl⟩
  ·cases hv
 stop:=λle rs=>by rw[intL_len];exact xAg _
theorem wkuS{z:Str}:Wku B (Its z) W (z.cps.toList.map λc=>.str ⟨#[c]⟩) where
 go:=λle rs hi=>by show _<z.cps.size;simpa using hi
 yld:=λ{i H H' x v W' S} le rs hv y=>by
  obtain⟨e,c,hc,ex⟩:=y;subst e ex;rw[xAw] at hv;have:z.cps.toList[i]?=some c:=by simpa using hc
  rw[this] at hv;cases hv;exact⟨W',.refl,rs,rfl⟩
 stop:=λle rs=>by show _=z.cps.size;simp
theorem ie:∀{xs ys:List U}{i:Nat}{v:U},(zipU xs ys)[i]?=some v->∃x y,xs[i]?=some x/\ys[i]?=some y/\v=.tup [x,y]
 |[],_,_,_,h=>by simp[zipU] at h
 |_::_,[],_,_,h=>by simp[zipU] at h
 |x::xs,y::ys,0,_,h=>by simp[zipU] at h;exact⟨x,y,rfl,rfl,h.symm⟩
 |x::xs,y::ys,i+1,_,h=>by simpa using ie (xs:=xs) (ys:=ys) (i:=i) (by simpa [zipU] using h)
theorem fD:∀{xs ys:List U},xs.length=ys.length->(zipU xs ys).length=xs.length
 |[],_,_=>rfl
 |x::xs,[],h=>by cases h
 |x::xs,y::ys,h=>by simp[zipU,fD (xs:=xs) (ys:=ys) (by simpa using h)]
theorem wkuZ{k1 k2:Bool}{x y:V}{as bs:List V}{ys:List U}(h1:∀H:Hp,(∀p o,W.F p=some o->H p=some o)->sqK k1 B.K H x as)(h2:∀H:Hp,(∀p o,W.F p=some o->H p=some o)->sqK k2 B.K H y bs)(r1:Rvs B W xs as)(r2:Rvs B W ys bs)(hl:xs.length=ys.length):Wku B (Itzw k1 k2 B.K x y) W (zipU xs ys) where
 go:=λ{i H W' S} le rs hi=>by
  rw[fD hl] at hi;exact⟨as,bs,as[i]'(by rw[r1.length];exact hi),bs[i]'(by rw[r2.length,<- hl];exact hi),h1 _ λp o z=>rs.fz p o (le.f p o z),h2 _ λp o z=>rs.fz p o (le.f p o z),by simp,by simp⟩
 yld:=λ{i H H' x' v W' S} le rs hv ⟨q,u,u2,e1,e2,e3,e4,e5⟩=>by
  subst e1 e3;obtain⟨a,b,ea,eb,rfl⟩:=ie hv;obtain⟨u',e6,ru⟩:=r1.get ea;have:=e4 as (h1 _ λp o z=>rs.fz p o (le.f p o z));rw[e6] at this;cases this;obtain⟨u',e7,ru2⟩:=r2.get eb;have:=e5 bs (h2 _ λp o z=>rs.fz p o (le.f p o z));rw[e7] at this;cases this;obtain⟨le2,rs2⟩:=rs.fresh (o:=.tup [u,u2]) e2;exact⟨_,le2,rs2,q,_,rfl,bt,⟨_,_,rfl,(ru.lf le).mono le2,⟨_,_,rfl,(ru2.lf le).mono le2,rfl⟩⟩⟩
 stop:=λle rs=>⟨as,h1 _ λp o z=>rs.fz p o (le.f p o z),by rw[fD hl];exact r1.length⟩
end
section
variable{B:Bs}{W:Wd}{vs:List U}
theorem fS:∀{xs:List U}{lo:Int},(enmU lo xs).length=xs.length
 |[],_=>rfl
 |_::xs,lo=>by show(enmU (lo+1) xs).length+1=_;rw[fS];rfl
theorem iY:∀{xs:List U}{lo:Int}{i:Nat}{v:U},(enmU lo xs)[i]?=some v->∃x,xs[i]?=some x/\v=.tup [.int (lo+i),x]
 |[],_,_,_,h=>by cases h
 |x::xs,lo,0,v,h=>by cases h;exact⟨x,rfl,by congr 3;lia⟩
 |x::xs,lo,i+1,v,h=>by
  obtain⟨y,h1,rfl⟩:=iY (xs:=xs) (lo:=lo+1) (i:=i) h;exact⟨y,h1,by congr 3;lia⟩
theorem wkuE2{a:Addr}(h:∀H:Hp,(∀p o,W.F p=some o->H p=some o)->SqT B.K H a ys)(r:Rvs B W vs ys):Wku B (Its2 B.K a) W (enmU 2 vs) where
 go:=λ{i H W' S} le rs hi=>⟨ys,ys[i]'(by rw[fS] at hi;rw[r.length];exact hi),h _ λp o z=>rs.fz p o (le.f p o z),by simp⟩
 yld:=λ{i H H' x v W' S} le rs hv ⟨q,u,e1,e2,e3,e4⟩=>by
  subst e1 e3;obtain⟨v0,hv0,rfl⟩:=iY hv;obtain⟨u',e6,ru⟩:=r.get hv0;have:=e4 ys (h _ λp o z=>rs.fz p o (le.f p o z));rw[e6] at this;cases this;obtain⟨le2,rs2⟩:=rs.fresh (o:=.tup [.int ((i+2:Nat):Int),u]) e2;exact⟨_,le2,rs2,q,_,rfl,bt,⟨_,_,rfl,(by show V.int _=V.int _;congr 1;lia),⟨_,_,rfl,(ru.lf le).mono le2,rfl⟩⟩⟩
 stop:=λle rs=>⟨ys,h _ λp o z=>rs.fz p o (le.f p o z),by rw[fS,r.length]⟩
end
def nIterA(K:xFr)(x:V)(H:Hp)(R:It->Hp->Prop):Prop:=nIterL K x H R\/nIterT K x H R\/nIterStr x H R
def iA(K:xFr)(te:TE):TI:=λσ H R=>te σ H λx H1=>nIterA K x H1 R
section
variable{X:Cx}{e tg:Expr}{te:TE}
theorem yW(he:PE X e te):PI X tg e (iA X.K te):=by
 intro Z s σ H R I h;refine thn (he Z s σ H _ I h) λv s1 zz=>?_;obtain⟨x,H1,I1,r1,q1⟩:=zz;rcases q1 with ⟨a,e,⟨xs,hq⟩,q⟩|⟨a,e,⟨xs,hq⟩,q⟩|q
 ·subst e;cases r1;obtain⟨its,rv,p,hz⟩:=I1.list hq;refine wpAny_pyIter_list p.isList ?_;refine⟨s1.heap.objs.size,[s1.heap.objs.size],_,_,H1,rfl,I1.kept (t':=s1.toks) λb o e=>xAf _ e,lK a _,⟨_,xAl _ rfl,rfl,rfl⟩,λb hb=>?_,q⟩;have e:b=s1.heap.objs.size:=by simpa using hb
  subst e;exact I1.fpOk (xAg _) (I1.hok.fresh (xAg _))
 ·subst e;cases r1;obtain⟨its,rv,p,hz⟩:=I1.tuple hq;refine wpAny_pyIter_tuple (show s1.heap.IsTuple a its.toArray from p) ?_;refine⟨s1.heap.objs.size,[s1.heap.objs.size],_,_,H1,rfl,I1.kept (t':=s1.toks) λb o e=>xAf _ e,jj a _,⟨_,xAl _ rfl,rfl,rfl⟩,λb hb=>?_,q⟩;have e:b=s1.heap.objs.size:=by simpa using hb
  subst e;exact I1.fpOk (xAg _) (I1.hok.fresh (xAg _))
 ·obtain⟨z,rfl,q⟩:=q;obtain⟨t,rfl⟩:=r1;cases ha:z.cps.all (·<128)
  ·refine wpAny_pyIter_wide ha ⟨s1.heap.objs.size,[s1.heap.objs.size],_,_,H1,rfl,I1.kept (t':=s1.toks) λb o e=>xAf _ e,il _ z t "str_iterator" (by decide) (λA' hA=>Walks.strWide hA _ z t) (λ_ _ _ _ _ st h=>wpAny_pyIter_striter_wide st h),⟨_,xAl _ rfl,rfl,rfl⟩,λb hb=>?_,q⟩;have e:b=s1.heap.objs.size:=by simpa using hb
   subst e;exact I1.fpOk (xAg _) (I1.hok.fresh (xAg _))
  ·refine wpAny_pyIter_ascii ha ⟨s1.heap.objs.size,[s1.heap.objs.size],_,_,H1,rfl,I1.kept (t':=s1.toks) λb o e=>xAf _ e,il _ z t "str_ascii_iterator" (by decide) (λA' hA=>Walks.strAscii hA _ z t) (λ_ _ _ _ _ st h=>wpAny_pyIter_striter_ascii st h),⟨_,xAl _ rfl,rfl,rfl⟩,λb hb=>?_,q⟩;have e:b=s1.heap.objs.size:=by simpa using hb
   subst e;exact I1.fpOk (xAg _) (I1.hok.fresh (xAg _))
end
section
variable{B:Bs}{up:List (Str×Str)}{G:Gx Prop}{Ex:St->XK}{c a b d:TEx Prop}{as:TAx Prop}
variable{X:Cx}{e ea eb tg:Expr}{es:List Expr}{pos p1 p2:Pos}{x:Str}(g:MonG up G)
include g
theorem ub(hK:X.K=B.K)(h:FE X B G Ex e a):FI X B G Ex tg e (cP .seq (aC a aN)):=
 ⟨wkI (yW h.p) λτ H R ⟨W,σ,S,rs,rg,hh⟩=>LE.go h.m rs rg hh λv S1 W1 u1 H1 le1 rs1 rv1 rg1 h1=>by
  obtain⟨z,S2,e2,q⟩:=g.pok h1;change seqU .tup v S1=_ at e2;unfold seqU at e2;rw[hK];split at e2
  ·next z2=>
   cases e2;exact .inr (.inr ⟨z2,rv1,q W1 _ H1 _ le1 rs1 rfl wkuS⟩)
  ·next p=>
   split at e2
   ·next xs ex=>
    cases e2;obtain⟨aa,rfl,hm⟩:=rv1;obtain⟨W2,le2,rs2,p',ys,e3,f3,r3⟩:=rs1.freeze ex hm;cases e3;exact .inl ⟨aa,rfl,⟨ys,.of (rs2.fz _ _ f3)⟩,q W2 _ H1 xs (le1.trans le2) rs2 rfl (wkuL (.of f3) r3)⟩
   ·cases e2
  ·next hs hr=>
   split at e2
   ·next xs ex=>
    cases e2;cases v with
    |tup _=>cases ex;obtain⟨p,ys,rfl,f,r⟩:=rv1;exact .inr (.inl ⟨p,rfl,⟨ys,.of (rs1.fz _ _ f)⟩,q W1 _ H1 xs le1 rs1 rfl (wkuT (λH hF=>.of (hF _ _ f)) r)⟩)
    |kt _=>cases ex;obtain⟨p,ys,rfl,f,r⟩:=rv1;exact .inr (.inl ⟨p,rfl,⟨ys,f H1⟩,q W1 _ H1 xs le1 rs1 rfl (wkuT (λH _=>f H) r)⟩)
    |lst _=>cases ex;obtain⟨p,ys,rfl,f,r⟩:=rv1;exact .inl ⟨p,rfl,⟨ys,.of (rs1.fz _ _ f)⟩,q W1 _ H1 xs le1 rs1 rfl (wkuL (.of f) r)⟩
    |kl _=>cases ex;obtain⟨p,ys,rfl,f,r⟩:=rv1;exact .inl ⟨p,rfl,⟨ys,dR rs1.fz f⟩,q W1 _ H1 xs le1 rs1 rfl (wkuL f r)⟩
    |ref p=>exact(hr p rfl).elim
    |_=>cases ex
   ·(cases e2),mP g (mAC g h.m (mAN g))⟩
theorem v4(hg:Gl X "range")(hm:X.mg "range"=none)(h:FE X B G Ex e a)(hst:noStar e=true):FI X B G Ex tg (.Call (.Name "range" p1) [e] [] pos) (cP .rng1 (aC a aN)):=
 ⟨wkI (xl hg hm (eZ g h (gY g) hst).p hst) λτ H R ⟨W,σ,S,rs,rg,hh⟩=>LA.go (mAC g h.m (mAN g)) rs rg hh λvs S1 W1 us H1 hl le1 rs1 rv1 rg1 h1=>by
  obtain⟨z,S2,e2,q⟩:=g.pok h1;obtain⟨v,rfl⟩:=vs1 e2 rfl λa b r=>by cases a <;> rfl
  obtain⟨u,rfl,r1⟩:=rv1.inv1;cases v <;> try (cases e2;done)
  delta pr at e2;dsimp only at e2;split at e2
  ·next j hd=>
   cases e2;obtain⟨h1,h2⟩:=xBe hd;exact⟨_,by rw[show u=_ from r1],h1,h2,q W1 _ H1 _ le1 rs1 rfl wkuR⟩
  ·(cases e2),mP g (mAC g h.m (mAN g))⟩
theorem wc{j:Nat}{pt np kp:Pos}(hK:X.K=B.K)(hg:Gl X "enumerate")(hm:X.mg "enumerate"=none)(h:FE X B G Ex e a)(hst:noStar e=true):FI X B G Ex (.Tuple ts k pt) (.Call (.Name "enumerate" p1) [e] [⟨some "start",.Constant (.int 2) j np,kp⟩] pos) (cP .enm2 (aC a aN)):=
 ⟨wkI (ot hg hm (eZ g h (gY g) hst).p (by rw[bv hst];rfl)) λτ H R ⟨W,σ,S,rs,rg,hh⟩=>LA.go (mAC g h.m (mAN g)) rs rg hh λvs S1 W1 us H1 hl le1 rs1 rv1 rg1 h1=>by
  obtain⟨z,S2,e2,q⟩:=g.pok h1;obtain⟨v,rfl⟩:=vs1 e2 rfl λa b r=>by cases a <;> rfl
  obtain⟨u,rfl,r1⟩:=rv1.inv1;cases v <;> try (cases e2;done)
  ·cases e2;obtain⟨p,ys,rfl,f,r⟩:=r1;rw[hK];exact⟨p,rfl,⟨ys,.of (rs1.fz _ _ f)⟩,q W1 _ H1 _ le1 rs1 rfl (wkuE2 (λH hF=>.of (hF _ _ f)) r)⟩
  ·cases e2;obtain⟨p,ys,rfl,f,r⟩:=r1;rw[hK];exact⟨p,rfl,⟨ys,f H1⟩,q W1 _ H1 _ le1 rs1 rfl (wkuE2 (λH _=>f H) r)⟩,mP g (mAC g h.m (mAN g))⟩
omit g in
theorem nB{W:Wd}{v:U}{u:V}(r:Rv B W v u)(h:sqF v=some xs):∃k ys,(∀H:Hp,(∀p o,W.F p=some o->H p=some o)->sqK k B.K H u ys)/\Rvs B W xs ys:=by
 cases v with
 |tup _=>cases h;obtain⟨p,ys,rfl,f,r⟩:=r;exact⟨true,ys,λH hF=>⟨p,rfl,.of (hF _ _ f)⟩,r⟩
 |kt _=>cases h;obtain⟨p,ys,rfl,f,r⟩:=r;exact⟨true,ys,λH _=>⟨p,rfl,f H⟩,r⟩
 |lst _=>cases h;obtain⟨p,ys,rfl,f,r⟩:=r;exact⟨false,ys,λH hF=>⟨p,rfl,.of (hF _ _ f)⟩,r⟩
 |kl _=>cases h;obtain⟨p,ys,rfl,f,r⟩:=r;exact⟨false,ys,λH hF=>⟨p,rfl,dR hF f⟩,r⟩
 |_=>cases h
theorem yk(hK:X.K=B.K)(hg:Gl X "zip")(hm:X.mg "zip"=none)(h:FE X B G Ex ea a)(h2:FE X B G Ex eb b)(hst:noStar ea=true)(hst2:noStar eb=true):FI X B G Ex (.Tuple ts k p2) (.Call (.Name "zip" p1) [ea,eb] [] pos) (cP .zip (lst2 a b)):=by
 have fa:FA X B G Ex [ea,eb] (lst2 a b):=eZ g h (eZ g h2 (gY g) hst2) hst;refine⟨wkI (rj hg hm fa.p (bv hst) (by rw[bv hst2];rfl)) λτ H R ⟨W,σ,S,rs,rg,hh⟩=>LA.go fa.m rs rg hh λvs S1 W1 us H1 hl le1 rs1 rv1 rg1 h1=>?_,mP g fa.m⟩;obtain⟨z,S2,e2,q⟩:=g.pok h1;match vs,hl with
 |[v,w],_=>
  obtain⟨u,u2,rfl,r1,r2⟩:=rv1.inv2;delta pr at e2;dsimp only at e2;split at e2
  ·next xs ys ex ey=>
   split at e2
   ·next hn=>
    cases e2;obtain⟨k1,as,q1,rr1⟩:=nB r1 ex;obtain⟨k2,bs,q2,rr2⟩:=nB r2 ey;rw[hK];exact⟨u,u2,k1,k2,rfl,⟨as,q1 _ rs1.fz⟩,⟨bs,q2 _ rs1.fz⟩,q W1 _ H1 _ le1 rs1 rfl (wkuZ q1 q2 rr1 rr2 (Nat.eq_of_beq_eq_true hn))⟩
   ·cases e2
  ·cases e2
end
def gsOf:List Nat->TGs
 |[]=>gNil
 |i::is=>gCons (gName i) (gsOf is)
def ggOf(K:xFr)(is:List Nat)(one:Bool):TG:=match one with
 |true=>gName (is.headD 0)
 |false=>gTup K is.length (gsOf is)
structure FG(X:Cx)(B:Bs)(G:Gx Prop)(tg:Expr)(is:List Nat)(one:Bool):Prop where
 p:PG X tg (ggOf B.K is one)
section
variable{B:Bs}{up:List (Str×Str)}{G:Gx Prop}{Ex:St->XK}{c a b d:TEx Prop}{as:TAx Prop}{t:TTx Prop}{u v:TSx Prop}
variable{X:Cx}{e ea eb tg iter:Expr}{es:List Expr}{st:Stmt}{sts body orelse:List Stmt}{pos p1 p2:Pos}{x y:Str}{i:Nat}(g:MonG up G)
theorem zl(hN:X.N.Nodup)(hi:X.N[i]?=some x)(hx:Loc X.env.scope x)(hf:X.fn x=true\/X.env.scope.names.lookup x=some .local):FG X B G (.Name x pos) [i] true:=⟨kj hN hi hx hf⟩
theorem fQ(hN:X.N.Nodup):∀{es:List Expr}{is:List Nat},(∀(j:Nat)(e:Expr),es[j]?=some e->∃x p i,e=.Name x p/\is[j]?=some i/\X.N[i]?=some x/\Loc X.env.scope x/\(X.fn x=true\/X.env.scope.names.lookup x=some .local))->es.length=is.length->PGs X es (gsOf is)/\es.all noStar=true
 |[],[],_,_=>⟨rq,rfl⟩
 |e::es,[],_,hl=>by cases hl
 |[],i::is,_,hl=>by cases hl
 |e::es,i::is,h,hl=>by
  obtain⟨x,p,i',rfl,hi,h1,h2,h3⟩:=h 0 e rfl;cases hi;obtain⟨q1,q2⟩:=fQ hN (es:=es) (is:=is) (λj e hj=>h (j+1) e hj) (by simpa using hl);exact⟨ow (kj hN h1 h2 h3) q1 rfl,by rw[xCj,q2];rfl⟩
theorem pD:∀{is:List Nat}{W:Wd}{S:So}{H:Hp}{σ:Sg}{τ:St}{vs:List U}{us:List V}{QS:St->Hp->Prop},RS B W S H->Rg B W σ τ->Rvs B W vs us->vs.length=is.length->(∀τ',Rg B W (puts σ is vs) τ'->(∀j,j∉is->τ'[j]?=τ[j]?)->QS τ' H)->gsOf is us τ H QS
 |[],W,S,H,σ,τ,vs,us,QS,rs,rg,rv,hl,q=>by
  match vs,hl with
  |[],_=>rw[show us=[] from rv];exact⟨rfl,q τ rg λ_ _=>rfl⟩
 |i::is,W,S,H,σ,τ,vs,us,QS,rs,rg,rv,hl,q=>by
  match vs,hl with
  |v::vs,hl=>
   obtain⟨u,us,rfl,r1,r2⟩:=rv;exact⟨u,us,rfl,pD rs (rg.put r1) r2 (by simpa using hl) λτ' rg' hj=>q τ' rg' λj hm=>by
    rw[hj j (λz=>hm (xAs _ z)),List.getElem?_set_ne (λz=>hm (by simp[z]))]⟩
theorem iB:∀{is:List Nat}{σ:Sg}{vs:List U},(puts σ is vs).length=σ.length
 |[],_,_=>by cases ‹List U› <;> rfl
 |i::is,σ,[]=>rfl
 |i::is,σ,v::vs=>by show(puts (put σ i v) is vs).length=_;rw[iB,fg]
include g
theorem tV{one:Bool}{W:Wd}{v:U}{x:V}{k:Sg->Prop}{QS:St->Hp->Prop}(h1:one=true->is.length=1)(rs:RS B W S H)(rg:Rg B W σ τ)(rv:Rv B W v x)(h:tgt is one G v σ k)(q:∀σ' τ',k σ'->Rg B W σ' τ'->σ'.length=σ.length->(∀j,j∉is->τ'[j]?=τ[j]?)->QS τ' H):ggOf B.K is one x τ H QS:=by
 cases one with
 |true=>
  match is,h1 rfl with
  |[i],_=>exact q (put σ i v) _ h (rg.put rv) fg λj hj=>by rw[List.getElem?_set_ne (λz=>hj (by rw[<- z];simp))]
 |false=>
  unfold tgt at h;dsimp only at h;cases v <;> try (exact(g.no h).elim)
  dsimp only at h;split at h
  ·next hn=>
   have hn:=Nat.eq_of_beq_eq_true hn;obtain⟨p,ys,rfl,f,r⟩:=rv;exact⟨p,ys,rfl,.of (rs.fz _ _ f),by rw[r.length,hn],pD rs rg r hn λτ' rg' hj=>q _ τ' h rg' iB hj⟩
  ·exact(g.no h).elim
omit g in
theorem zk(hK:X.K=B.K)(hc:X.calm=true)(hN:X.N.Nodup)(h:∀(j:Nat)(e:Expr),es[j]?=some e->∃x p i,e=.Name x p/\is[j]?=some i/\X.N[i]?=some x/\Loc X.env.scope x/\(X.fn x=true\/X.env.scope.names.lookup x=some .local))(hl:es.length=is.length):FG X B G (.Tuple es k pos) is false:=by
 obtain⟨q1,q2⟩:=fQ hN h hl;refine⟨?_⟩;show PG X _ (gTup B.K is.length (gsOf is));rw[<- hK];exact ox hc q1 ((dC q2).1.trans hl) (dC q2).2
theorem uD:FS X B G Ex (.Pass pos) sN:=⟨wkS qO λD τ H ⟨W,σ,S,rs,rg,h⟩=>h W τ H .refl rs rg,mN g⟩
theorem w5:FSs X B G Ex [] sN:=⟨wkSs qN λD τ H ⟨W,σ,S,rs,rg,h⟩=>h W τ H .refl rs rg,mN g⟩
theorem uF(h1:FS X B G Ex st u)(h2:FSs X B G Ex sts v):FSs X B G Ex (st::sts) (sQ u v):=
 ⟨wkSs (nR h1.p h2.p) λD τ H ⟨W,σ,S,rs,rg,h⟩=>⟨W,σ,S,rs,rg,h1.m.m (E:=sqE (LEe B Ex W D) λσ1 S1=>v G σ1 S1 (LEe B Ex W D)) (E':=LEe B Ex W {D with nx:=LS B G Ex v D}) ⟨λσ1 S1 h3 W1 τ1 H1 le1 rs1 rg1=>⟨W1,σ1,S1,rs1,rg1,h2.m.m (LEe.inc le1) h3⟩,λ_ _ z=>z,λ_ _ z=>z,λ_ _ z=>z,λ_ _ _ z=>z⟩ h⟩,mQ g h1.m h2.m⟩
omit g in
theorem xle{W:Wd}(rg:Rg B W σ τ):∀x S,(LEe B Ex W D).x x σ S->XL B W (Ex τ) x S:=λx S h W' C dx H le rx=>h W' τ C dx H le rx (rg.mono le)
omit g in
theorem LE.stm{W:Wd}{Q:VK}{k:Kv Prop}(m:MonE G c)(rs:RS B W S H)(rg:Rg B W σ τ)(h:c G σ S (λx S1=>(LEe B Ex W D).x x σ S1) k)(hk:∀v S' W' u H',W.Le W'->RS B W' S' H'->Rv B W' v u->Rg B W' σ τ->k v S'->Q u H'):LE B G Ex c τ H Q:=
 LE.go m rs rg (m.m (λx S=>xle rg x S) (λ_ _ h=>h) h) hk
theorem nE(he:FE X B G Ex e c)(hN:X.N.Nodup)(hi:X.N[i]?=some x)(hx:Loc X.env.scope x)(hsw:swapsWith e (some (.Name x p1)) pos.line X.env=pure false)(hf:X.fn x=true\/X.env.scope.names.lookup x=some .local):FS X B G Ex (.Assign [.Name x p1] e pos) (sA i c):=
 ⟨wkS (uL hN hi hx he.p hsw hf) λD τ H ⟨W,σ,S,rs,rg,h⟩=>LE.stm he.m rs rg h λv S' W' u H' le rs' rv rg' h'=>h' W' _ H' le rs' (rg'.put rv),mA g he.m⟩
theorem yT(he:FE X B G Ex e c)(hc:noComp e=true):FS X B G Ex (.Expr e pos) (sE c):=
 ⟨wkS (xi he.p hc) λD τ H ⟨W,σ,S,rs,rg,h⟩=>LE.stm he.m rs rg h λv S' W' u H' le rs' rv rg' h'=>h' W' τ H' le rs' rg',mSE g he.m⟩
theorem tE(he:FE X B G Ex e c):FS X B G Ex (.Return (some e) pos) (sR c):=
 ⟨wkS (uM he.p) λD τ H ⟨W,σ,S,rs,rg,h⟩=>LE.stm he.m rs rg h λv S' W' u H' le rs' rv rg' h'=>h' W' u H' le rs' rv,mR g he.m⟩
theorem yS(ht:FT X B G Ex e t)(ha:FSs X B G Ex body u)(hb:FSs X B G Ex orelse v):FS X B G Ex (.If e body orelse pos) (sI t u v):=
 ⟨wkS (xh ht.p ha.p hb.p) λD τ H ⟨W,σ,S,rs,rg,h⟩=>LT.go ht.m rs rg (ht.m.m (λx S=>xle rg x S) (λ_ _ h=>h) h) λc S' W' H' le rs' rg' h'=>by
  have h':=g.bk h';cases c with
  |true=>exact⟨W',σ,S',rs',rg',ha.m.m (LEe.inc le) h'⟩
  |false=>exact⟨W',σ,S',rs',rg',hb.m.m (LEe.inc le) h'⟩,mI g ht.m ha.m hb.m⟩
omit g in
theorem PG.or'{t1 t2:TG}(h1:PG X tg t1)(h2:PG X tg t2):PG X tg (λv σ H Q=>t1 v σ H Q\/t2 v σ H Q):=λZ s σ H v u Q I r q=>q.elim (h1 Z s σ H v u Q I r) (h2 Z s σ H v u Q I r)
theorem w4{pt:Pos}(hK:X.K=B.K)(hc:X.calm=true)(hN:X.N.Nodup)(he:FE X B G Ex e c)(h:∀(j:Nat)(e:Expr),es[j]?=some e->∃x p i,e=.Name x p/\is[j]?=some i/\X.N[i]?=some x/\Loc X.env.scope x/\(X.fn x=true\/X.env.scope.names.lookup x=some .local))(hl:es.length=is.length)(hs:swapsWithSole [.Tuple es k pt] e pos.line X.env=pure false)(hw:swappedStores [.Tuple es k pt] e X.env=pure none):FS X B G Ex (.Assign [.Tuple es k pt] e pos) (sU is c):=by
 obtain⟨q1,q2⟩:=fQ hN h hl;refine⟨wkS (nT he.p (PG.or' (ox (k:=k) (pos:=pt) hc q1 (dC q2).1 (dC q2).2) (uY (k:=k) (pos:=pt) hc q1 (dC q2).1 (dC q2).2)) hs hw) λD τ H ⟨W,σ,S,rs,rg,h⟩=>LE.stm he.m rs rg h λv S' W' u H' le rs' rv rg' h'=>?_,mU g he.m⟩;obtain⟨z,S2,e2,q⟩:=g.pok h';delta pr at e2;dsimp only at e2;split at e2
 ·next xs ex=>
  split at e2
  ·next hn=>
   cases e2;have hn:=Nat.eq_of_beq_eq_true hn;obtain⟨p,ys,rfl,sq,rr⟩:=eF rs' rv ex;have fin:=pD rs' rg' rr hn λτ' rg2 _=>q W' τ' H' le rs' rg2;rw[hK];rcases sq with sq|sq
   ·exact .inr ⟨p,ys,rfl,sq,by rw[rr.length,hn,hl],fin⟩
   ·exact .inl ⟨p,ys,rfl,sq,by rw[rr.length,hn,hl],fin⟩
  ·cases e2
 ·cases e2
theorem xb{fl:List Str}{f:Str}{o:Expr}(hK:X.K=B.K)(F:ClF B fl)(hf:f∈fl)(ho:FE X B G Ex o a)(he:FE X B G Ex e c)(hc:noComp e=true):FS X B G Ex (.Assign [.Attribute o f p1] e pos) (sP (.setf f) c (aC a aN)):=
 ⟨wkS (uO ho.p he.p (dL hc)) λD τ H ⟨W,σ,S,rs,rg,h⟩=>LE.stm he.m rs rg h λv S1 W1 u1 H1 le1 rs1 rv1 rg1 h1=>by
  refine LE.go ho.m rs1 rg1 (ho.m.m (λx S z=>XL.up le1 (xle rg x S z)) (λ_ _ z=>z) h1) λw S2 W2 u2 H2 le2 rs2 rv2 rg2 h2=>?_;obtain⟨z,S3,e3,q⟩:=g.pok h2;cases w <;> try (cases e3;done)
  obtain⟨C,fs,aa,cc,dx,vs,e4,e5,e6,hm,hcl,hh,rn⟩:=gT rs2 rv2 (show insU _ _ _=_ from e3);split at e5
  ·next hb=>
   cases e5;have hb:=xCo hb;exact⟨aa,cc,dx,vs,e6,hh,by rw[hK];exact F.c hcl,by rw[hK];exact F.n hcl hf,by rw[rn.length];lia,q W2 τ _ (le1.trans le2) (rs2.mut hm e4 (by nofun) ⟨cc,dx,_,hcl,rfl,j4 (rv1.mono le2) rn⟩) rg2⟩
  ·(cases e5),mSP g he.m (mAC g ho.m (mAN g))⟩
omit g in
def rSetA:TSet:=λo i v H Q=>rSetL o i v H Q\/∃a H4,o=.ref a/\DPut H a i v H4/\Q H4
omit g in
theorem wY(hu:X.A.units+1<cLine):PSet X rSetA:=by
 intro Z s σ H o i v ov iv u Q I ro ri rv h;rcases h with h|⟨a,H4,rfl,d,q⟩
 ·exact nD Z s σ H o i v ov iv u Q I ro ri rv h
 ·obtain rfl:ov=Value.ref a:=ro;exact mE hu I d ri rv λs4 I4=>⟨H4,I4,q⟩
theorem uE{o ei:Expr}(hu:X.A.units+1<cLine)(ho:FE X B G Ex o a)(hi:FE X B G Ex ei b)(he:FE X B G Ex e c)(hs:noSlice ei=true)(hc:noComp e=true):FS X B G Ex (.Assign [.Subscript o ei p1] e pos) (sP .seti c (lst2 a b)):=by
 refine⟨wkS (nT he.p (uX ho.p hi.p (wY hu) (by intro _;cases ei <;> first|rfl|cases hs)) (by rw[show swapsWithSole [Expr.Subscript o ei p1] e pos.line X.env=swapsWith e (some (.Subscript o ei p1)) pos.line X.env from rfl];exact dL hc) rfl rfl) λD τ H ⟨W,σ,S,rs,rg,h⟩=>LE.stm he.m rs rg h λv S1 W1 u1 H1 le1 rs1 rv1 rg1 h1=>?_,mSP g he.m (mAC g ho.m (mAC g hi.m (mAN g)))⟩;refine LE.go ho.m rs1 rg1 (ho.m.m (λx S z=>XL.up le1 (xle rg x S z)) (λ_ _ z=>z) h1) λw S2 W2 u2 H2 le2 rs2 rv2 rg2 h2=>?_;refine LE.go hi.m rs2 rg2 (hi.m.m (λx S z=>XL.up (le1.trans le2) (xle rg x S z)) (λ_ _ z=>z) h2) λw3 S3 W3 u3 H3 le3 rs3 rv3 rg3 h3=>?_;obtain⟨z,S4,e4,q⟩:=g.pok h3;have rv2:=rv2.mono le3;have rv1:=(rv1.mono le2).mono le3;have lee:=le1.trans (le2.trans le3);cases w <;> try (cases e4;done)
 change setiU _ w3 v S3=_ at e4;unfold setiU at e4;split at e4
 ·next kvs ek=>
  split at e4
  ·next kk ekk=>
   obtain⟨hl,e5⟩:=cW e4;cases e5;obtain⟨aa,hh,hm,hH,ro,_⟩:=rs3.here ek;obtain⟨aa',e6,hm'⟩:=rv2;rw[hm] at hm';cases hm';obtain⟨ks,rfl,rn⟩:=ro;exact .inr ⟨aa,_,e6,.inl ⟨ks,kk,hH,fk ekk rv3,by rw[rn.length];lia,rfl⟩,q W3 τ _ lee (rs3.mut hm ek (by nofun) ⟨_,rfl,gD rv1 rn⟩) rg3⟩
  ·cases e4
 ·next kvs ek=>
  split at e4
  ·next kk ekk=>
   obtain⟨hl,e5⟩:=cW e4;cases e5;obtain⟨aa,hh,hm,hH,ro,_⟩:=rs3.here ek;obtain⟨aa',e6,hm'⟩:=rv2;rw[hm] at hm';cases hm';obtain⟨ks,rfl,rn⟩:=ro;obtain⟨bb,rfl,hbb⟩:=kJ rs3 ekk rv3;exact .inr ⟨aa,_,e6,.inr ⟨ks,kk,bb,hH,rfl,hbb,by rw[rn.length];lia,rfl⟩,q W3 τ _ lee (rs3.mut hm ek (by nofun) ⟨_,rfl,gD rv1 rn⟩) rg3⟩
  ·cases e4
 ·next xs ek=>
  split at e4
  ·next ii=>
   split at e4
   ·next hd=>
    cases e4;obtain⟨h0,h1⟩:=xBe hd;obtain⟨aa,hh,hm,hH,ro,_⟩:=rs3.here ek;obtain⟨aa',e6,hm'⟩:=rv2;rw[hm] at hm';cases hm';obtain⟨ys,rfl,rr⟩:=ro;refine .inl ⟨aa,ys,ii,ii.toNat,e6,rv3,hH,?_,q W3 τ _ lee (rs3.mut hm ek (by nofun) ⟨_,rfl,rr.set rv1 _⟩) rg3⟩;unfold ixN;rw[xCg h0,xCg (by rw[rr.length];exact h1)]
   ·cases e4
  ·cases e4
 ·cases e4
theorem w6{one:Bool}(ho:one=true->is.length=1)(hc:X.calm=true)(hi:FI X B G Ex tg iter c)(hg:FG X.lp B G tg is one)(hb:FSs X.lp B G Ex body u)(hs:∀x,foldedSetIterable iter X.env x=pure x):FS X B G Ex (.For tg iter body [] pos) (sF c is one u):=by
 refine⟨wkS (qP hc hi.p hg.p hb.p hs) λD τ H ⟨W,σ,S,rs,rg,h⟩=>?_,mSF g hi.m hb.m⟩;refine⟨W,σ,S,rs,rg,hi.m.m (λx S z=>xle rg x S z) (λv S1 h1 W1 J H1 vs le1 rs1 ev wk=>?_) h⟩;subst ev;dsimp only at h1;refine⟨λi m τ' H'=>i<=vs.length/\m=vs.length-i/\∃W' σ' S',W1.Le W'/\RS B W' S' H'/\Rg B W' σ' τ'/\forK (vs.drop i) (λw σ1 S2 nx=>tgt is one G w σ1 λσ2=>u G σ2 S2 (lpE (LEe B Ex W D) nx)) σ' S' (LEe B Ex W D).nx,⟨vs.length,xBn _,rfl,W1,σ,S1,.refl,rs1,rg.mono le1,h1⟩,?_⟩;rintro i m τ' H' ⟨hi',rfl,W',σ',S',le',rs',rg',hh⟩
 by_cases hlt:i<vs.length
 ·refine .inr ⟨wk.go le'.lf rs' hlt,λτ2 H2=>∃W2 σ2 S2,W1.Le W2/\RS B W2 S2 H2/\Rg B W2 σ2 τ2/\forK (vs.drop (i+1)) (λw σ1 S2 nx=>tgt is one G w σ1 λσ2=>u G σ2 S2 (lpE (LEe B Ex W D) nx)) σ2 S2 (LEe B Ex W D).nx,λτ2 H2 ⟨W2,σ2,S2,l2,r2,g2,f2⟩=>⟨vs.length-(i+1),by lia,hlt,rfl,W2,σ2,S2,l2,r2,g2,f2⟩,λx H2 y=>?_⟩;rw[List.drop_eq_getElem_cons hlt] at hh;obtain⟨W2,le2,rs2,rv2⟩:=wk.yld le'.lf rs' (xAk hlt) y;refine tV g ho (k:=λσ2=>u G σ2 S' (lpE (LEe B Ex W D) λσ1 S1=>forK (vs.drop (i+1)) (λw σ1 S2 nx=>tgt is one G w σ1 λσ2=>u G σ2 S2 (lpE (LEe B Ex W D) nx)) σ1 S1 (LEe B Ex W D).nx)) rs2 (rg'.mono le2) rv2 hh λσ3 τ3 h3 rg3 _ _=>⟨W2,σ3,S',rs2,rg3,hb.m.m ?_ h3⟩
  have lew:W.Le W2:=le1.trans (le'.trans le2);exact⟨λσ4 S4 h4 W4 τ4 H4 le4 rs4 rg4=>⟨W4,σ4,S4,le'.trans (le2.trans le4),rs4,rg4,h4⟩,λ_ _=>VL.inc lew,λ_ _=>NL.inc lew,λσ4 S4 h4 W4 τ4 H4 le4 rs4 rg4=>⟨W4,σ4,S4,le'.trans (le2.trans le4),rs4,rg4,h4⟩,(LEe.inc lew).x⟩
 ·have e:i=vs.length:=by lia
  subst e;rw[List.drop_length] at hh;exact .inl ⟨wk.stop le'.lf rs',hh W' τ' H' (le1.trans le') rs' rg'⟩
end
end Fx
namespace PyProof.Rows
open PySem
variable{vs:List Value}{ns:List Int}
theorem gf:∀(f n r:Nat),r<=1->minRun' f n r<=n+r
 |0,_,_,_=>xAg _
 |f+1,n,r,h=>by
  rw[minRun'_succ];split
  ·exact xAg _
  ·have:=gf f (n / 2) (max r (n%2)) (by lia);lia
section
variable{prog:Program}{w:World}{A:Around}{E:Value->Shared->Prop}{s:Shared}{a₀:Array Keyed}
theorem qI{st:SortSt}{Q:Unit->SortSt->Prop}(h0:IntKeys a₀)(hB:SBase a₀ st)(h2:2<=a₀.size)(hs:SortedTo (arrOf st) a₀.size)(h:SDone a₀ (setPending st ((pendingOf st).push (0,a₀.size,0)))->Q () (setPending st ((pendingOf st).push (0,a₀.size,0)))):wpS (model prog w) A E s sortRuns' Q st:=by
 rw[sortRuns'_eq];refine wpS_bind (wpS_get ?_);dsimp only;simp only[hB.size];have hmr:=gf a₀.size a₀.size 0 (by lia);generalize minRun' a₀.size a₀.size 0=mr at hmr ⊢;have hD:=hB.done hs;generalize hst:setPending st ((pendingOf st).push (0,a₀.size,0))=st9 at hD h;refine wpS_bind (wpS_mono (wpS_forRange (I:=λx c st'=>(x=0/\c=(none,0)/\st'=st)\/(1<=x/\c=(none,a₀.size)/\st'=st9))
  (Q:=λc st'=>c=(none,a₀.size)/\st'=st9) ?step ?fin (.inl ⟨rfl,rfl,rfl⟩)) ?post)
 case fin=>
  rintro c st' (⟨hx,_,_⟩|⟨_,hc,e⟩)
  ·lia
  ·exact⟨hc,e⟩
 case step=>
  rintro x c st' _ hx (⟨rfl,rfl,rfl⟩|⟨hx1,rfl,rfl⟩)
  ·dsimp only;rw[xCf (by lia)];simp only[Nat.sub_zero,Nat.zero_add];rw[countRun0_eq];refine wpS_bind (wpS_bind (wpS_ascLoop h0 (xAg _) (xAg _) (by lia) hB (λi j hij hj=>hs i j hij (by lia)) λn h1 h2 h3 h4=>?_));have hn:n=a₀.size:=by
    rcases h4 with e|z
    ·exact e
    ·by_cases e:n=a₀.size
     ·exact e
     ·have:=hs (n-1) n (by lia) (by lia);lia
   subst hn;dsimp only;rw[xCg (by simp)];refine wpS_pure ?_;dsimp only;rw[xCf (by lia)];refine wpS_bind (wpS_get ?_);have hb:(pendingOf st').back?=none:=by rw[hB.pend];rfl
   rw[hb];dsimp only;exact wpS_bind (wpS_modify (wpS_pure (.inr ⟨by lia,rfl,hst⟩)))
  ·dsimp only;rw[xCg (xAg _)];exact wpS_pure ⟨rfl,rfl⟩
 case post=>
  rintro c st' ⟨rfl,rfl⟩
  dsimp only;refine wpS_bind (wpS_mono (wpS_forRange (Q:=λr t=>t=st'/\r=(none,())) (I:=λ_ r t=>t=st'/\r=(none,())) (λy r t _ _ hy=>?_) (λ_ _ z=>z) ⟨rfl,rfl⟩) λr t hr=>?_)
  ·obtain⟨e1,e2⟩:=hy;subst e1 e2;refine wpS_bind (wpS_get ?_);have e3:(pendingOf t).size<=1:=by rw[hD.2.2.1];exact xAg _
   rw[xCg e3];exact wpS_pure ⟨rfl,rfl⟩
  ·obtain⟨e1,e2⟩:=hr;subst e1 e2;exact wpS_pure (h hD)
end
theorem oM(hI:IntsAre vs ns)(h:ns.Pairwise (·<=·)):SortedTo (pairsOf vs) (pairsOf vs).size:=by
 have e:∀{i:Nat}(hi:i<vs.length),K (pairsOf vs) i=numOf vs[i]:=λ{i} hi=>by
  rw[K_eq (by rw[pairsOf_size];exact hi)];simp[pairsOf]
 intro i j hij hj;rw[pairsOf_size] at hj;rw[e hj,e (Nat.lt_of_le_of_lt hij hj)];rcases Nat.lt_or_eq_of_le hij with z|rfl
 ·rw[<- hI.nums] at h;have:=List.pairwise_iff_getElem.mp h i j (by rw[xAa];lia) (by rw[xAa];exact hj) z;simpa using this
 ·exact xBu _
section
variable{prog:Program}{w:World}{A:Around}{E:Value->Shared->Prop}{s:Shared}
theorem qy{a:Addr}{n:Nat}{P:Fin->Shared->Prop}(ho:s.heap.get? a=some (seqObj "list" vs.toArray n))(hI:IntsAre vs ns)(hup:ns.Pairwise (·<=·))(hz:vs.length<=sizeLine)(h:∀(out:Array Value)(ns':List Int),IntsAre out.toList ns'->ns'.Perm ns->ns'.Pairwise (·<=·)->P (.done (.ret .none)) {s with heap:=sortedHeap s.heap a vs out}):wpAny (model prog w) A (Builtin.«list.sort» ⟨[.ref a],[]⟩) P E s:=by
 rw[list_sort_plain];have hlt:a<s.heap.objs.size:=xA1 ho;have hz1:vs.toArray.size<=sizeLine:=by rw[xAp];exact hz
 refine xAd (listItems_at ho rfl (xAd (listUpdate_at ho rfl ?_ hz1 (xBn _))));obtain⟨e1,g1⟩:∃e1,(s.heap.update a (Obj.mapSeq λ_=>#[])).get? a=some (seqObj "list" #[] e1):=⟨_,get?_update_seq ho (λ_=>#[])⟩
 refine xAd (seqEpoch_at g1 rfl (xAd (wpAny_newTuple (xAd (wpAny_newList (xDc ?_))))));have g6:(((s.heap.update a (Obj.mapSeq λ_=>#[])).push (seqObj "tuple" vs.toArray 0)).push (seqObj "list" #[] 0)).get? a=some (seqObj "list" #[] e1):=by
  rw[Heap.get?_push_ne _ _ _ (by rw[size_push',Heap.size_update];exact xA0 (Nat.lt_succ_of_lt hlt)),Heap.get?_push_ne _ _ _ (by rw[Heap.size_update];exact xA0 hlt)];exact g1
 change wpAny (model prog w) A _ P E {s with heap:=((s.heap.update a (Obj.mapSeq λ_=>#[])).push (seqObj "tuple" vs.toArray 0)).push (seqObj "list" #[] 0)};dsimp only;have last:∀st':SortSt,(arrOf st').Perm (pairsOf vs)->SortedTo (arrOf st') (pairsOf vs).size->P (.done (.ret .none)) {s with heap:=sortedHeap s.heap a vs ((arrOf st').map (·.2))}:=λst' q1 q2=>by
  obtain⟨ns',z1,z2,z3⟩:=sorted_out hI q1 q2;exact h _ ns' z1 z2 z3
 by_cases few:vs.toArray.size<2
 ·rw[xCg few,xCg few];refine xAd (xAe ?_);rw[StateT.run_pure];refine xAd (xAe ?_);dsimp only;refine xAd (seqEpoch_at g6 rfl (xAd (listUpdate_at g6 rfl ?_ (xBn _) ?_)))
  ·simp only[bne_self_eq_false,xAz,if_false];refine xAe (last (SortSt.mk' general' (vs.toArray.zip vs.toArray) #[] 7 none) (Array.Perm.refl _) λi j hij hj=>?_);rw[pairsOf_size,<- xAp] at hj;obtain rfl:i=j:=by lia
   exact xBu _
  ·rw[Array.size_map];change(pairsOf vs).size<=_;rw[pairsOf_size];lia
 ·rw[xCf few,xCf few];obtain⟨v1,v2,rest,rfl⟩:∃v1 v2 rest,vs=v1::v2::rest:=by
   match vs,few with
   |[],few=>simp at few
   |[_],few=>simp at few
   |v1::v2::rest,_=>exact⟨v1,v2,rest,rfl⟩
  rw[keyKind_ints hI];refine xAd (xAe ?_);refine xAd (wpAny_mono (qI (a₀:=pairsOf (v1::v2::rest)) (st:=SortSt.mk' oneType' ((v1::v2::rest).toArray.zip (v1::v2::rest).toArray) #[] 7 none)
   (Q:=λ_ st'=>(arrOf st').Perm (pairsOf (v1::v2::rest))/\failedOf st'=none/\SortedTo (arrOf st') (pairsOf (v1::v2::rest)).size) hI.intKeys ⟨Array.Perm.refl _,rfl,rfl,rfl⟩ (by rw[pairsOf_size];simp) (oM hI hup) λq=>⟨q.1,q.2.1,q.2.2.2⟩) ?_ λ_ _ e=>e)
  rintro⟨⟨⟩,st'⟩ s' ⟨rfl,hp,hf,hs⟩
  dsimp only;refine xAd (seqEpoch_at g6 rfl (xAd (listUpdate_at g6 rfl ?_ (xBn _) ?_)))
  ·rw[hf];simp only[bne_self_eq_false,xAz,if_false];exact xAe (last st' hp hs)
  ·refine xCk (Nat.le_of_eq ((Array.size_map ..).trans (hp.size_eq.trans (pairsOf_size _)))) ?_;lia
theorem lM{l:Addr}{Q:Value->Shared->Prop}(hl:s.heap.IsList l vs.toArray)(hI:IntsAre vs ns)(hup:ns.Pairwise (·<=·))(hz:vs.length<=sizeLine)(h:∀(out:Array Value)(ns':List Int),IntsAre out.toList ns'->ns'.Perm ns->ns'.Pairwise (·<=·)->Q (.ref (s.heap.objs.size+1)) {s with heap:=sortedAll s.heap vs out}):wpAny (model prog w) A (call (.builtin "sorted") [.ref l]) Q E s:=by
 refine Calls.call_function_entry kind_sorted plain_sorted entry_sorted (args_sorted1 _) ?_;unfold Builtin.«sorted»;refine xAd (m:=checkCount "sorted" 1 1 _) (xAe (xAd (collect_list hl (xAd (wpAny_newList ?_)) hz)));have hsz:((s.heap.push (seqObj "list" #[] 0)).update s.heap.objs.size (Obj.mapSeq (·++vs.toArray))).objs.size=s.heap.objs.size+1:=by rw[Heap.size_update,size_push']
 have gL:(((s.heap.push (seqObj "list" #[] 0)).update s.heap.objs.size (Obj.mapSeq (·++vs.toArray))).push (seqObj "list" vs.toArray 0)).get? (s.heap.objs.size+1)=some (seqObj "list" vs.toArray 0):=by
  rw[<- hsz];exact xAl _ rfl
 change wpAny _ _ _ _ _ {s with heap:=((s.heap.push (seqObj "list" #[] 0)).update s.heap.objs.size (Obj.mapSeq (·++vs.toArray))).push (seqObj "list" vs.toArray 0)};rw[hsz];refine xAd (xDc (wpAny_call_entry slot_list_sort ⟨_,gL,rfl⟩ entry_list_sort (qy gL hI hup hz λout ns' q1 q2 q3=>⟨_,rfl,?_⟩) (args_list_sort _)));exact xAe ⟨_,rfl,h out ns' q1 q2 q3⟩
end
end PyProof.Rows
namespace L2
open PySem PySem.Spec PyProof.Rows
def cSrt:List V->Hp->VK->Prop:=λxs H Q=>∃(p:Addr) (ns:List Int),xs=[.ref p]/\H p=some (.lst (ns.map V.int))/\ns.Pairwise (·<·)/\∀l:Addr,H l=none->Q (.ref l) (upd H l (.lst (ns.map V.int)))
def RngO(p:Addr)(n:Nat):HO:=HO.ext λh=>∃t u v,IsRange h p 0 n 1 t u v
def cRng:List V->Hp->VK->Prop:=λxs H Q=>∃n:Nat,xs=[.int n]/\∀l,H l=none->Q (.ref l) (upd H l (RngO l n))
def cListR:List V->Hp->VK->Prop:=λxs H Q=>∃r n,xs=[.ref r]/\H r=some (RngO r n)/\n<=100000/\∀l,H l=none->Q (.ref l) (upd H l (.lst ((List.range' 0 n).map λi:Nat=>V.int (i:Int))))
theorem ij:∀{l:List Value}{k:Nat},(∀(j:Nat)(v:Value),l[j]?=some v->∃t,v=.int ((k+j:Nat):Int) t)->Vals ((List.range' k l.length).map λi:Nat=>V.int (i:Int)) l
 |[],_,_=>.nil
 |v::l,k,h=>by
  obtain⟨t,e⟩:=h 0 v rfl;refine .cons ⟨t,by rw[e];rfl⟩ (ij (l:=l) (k:=k+1) λj u hu=>?_);obtain⟨t,e⟩:=h (j+1) u hu;exact⟨t,by rw[e];congr 1;lia⟩
section
variable{X:Cx}
theorem wn:CallR X (.builtin "sorted") cSrt:=by
 intro Z s σ H xs us Q I r h;obtain⟨p,ns,rfl,hS,hup,q⟩:=h;obtain⟨u,rfl,ru⟩:=vals1 r;obtain rfl:u=Value.ref p:=ru;obtain⟨its,r1,t1,z1⟩:=I.list (SqL.of hS);have hl:=r1.length;rw[xAa] at z1 hl;have hle:ns.Pairwise (·<=·):=hup.imp λ{a b} z=>Int.le_of_lt z;refine lM t1.isList (jF r1) hle (by lia) λout ns' q1 q2 q3=>?_;have:ns'=ns:=q2.eq_of_pairwise (λa b _ _ h1 h2=>Int.le_antisymm h1 h2) q3 hle;subst this;obtain⟨e,g⟩:=sortedAll_at s.heap its out;have hfree:H (s.heap.objs.size+1)=none:=I.hok.fresh (Nat.le_succ _);refine⟨.ref (s.heap.objs.size+1),_,I.laid (a:=s.heap.objs.size+1) (o:=.lst (ns'.map V.int)) (t':=s.toks) (λ_ _=>sortedAll_old) (Nat.le_succ _) ?_,rfl,q _ hfree⟩;refine⟨?_,out.toList,e,eB q1,?_⟩
 ·rw[xAa];exact z1
 ·rw[g,Array.toArray_toList]
theorem wp:CallR X (.type "range") cRng:=by
 intro Z s σ H xs us Q I r h;obtain⟨n,rfl,h⟩:=h;obtain⟨u,rfl,t,rfl⟩:=vals1 r;refine call_range_1 ⟨.ref s.heap.objs.size,_,I.laid (a:=s.heap.objs.size) (o:=RngO s.heap.objs.size n) (t':=s.toks+1+1) (λb o e=>xAf _ e) (xAg _) ?_,rfl,h _ (I.hok.fresh (xAg _))⟩;exact⟨⟨_,_,_,xAl _ rfl⟩,⟨_,xAl _ rfl⟩,λh1 h2 ⟨t,u,v,q⟩ k=>⟨t,u,v,k _ q⟩⟩
theorem pW(hc:X.calm=true):CallR X (.type "list") cListR:=by
 intro Z s σ H xs us Q I r h;obtain⟨a,n,rfl,hr,hn,q⟩:=h;obtain⟨u,rfl,ru⟩:=vals1 r;obtain rfl:u=Value.ref a:=ru;obtain⟨t,u',v,hR⟩:∃t u v,IsRange s.heap a 0 n 1 t u v:=(I.hok a _ hr).1;refine call_list_range (n:=n) (I.ok.hd hc) hR (small_one (by lia) (by lia) (by lia) (by lia)) (by rw[rangeSize_one];split <;> lia) (by lia) λh' tk acc' c' hk hD hacc=>?_;refine⟨.ref s.heap.objs.size,_,I.laid (a:=s.heap.objs.size) (o:=.lst ((List.range' 0 n).map λi:Nat=>V.int (i:Int))) (t':=tk) (λb o e=>hk b o e) (xAg _) ?_,rfl,q _ (I.hok.fresh (xAg _))⟩;have hsz:acc'.toList.length=n:=by rw[xAh];exact hacc.1
 refine⟨by rw[xAa,List.length_range'];show n<=2^24;lia,acc'.toList,c',?_,?_⟩
 ·have:=ij (l:=acc'.toList) (k:=0) λj v hv=>by
   obtain⟨t,e⟩:=hacc.2 j v (by rw[Array.getElem?_toList] at hv;exact hv);exact⟨t,by rw[e];congr 1;lia⟩
  rw[hsz] at this;exact this
 ·rw[hD,Array.toArray_toList]
end
end L2
namespace Fx
open PySem PySem.Spec L2
open PyProof.Rows hiding St
section
variable{B:Bs}{up:List (Str×Str)}{G:Gx Prop}{Ex:St->XK}{c a b d:TEx Prop}{as:TAx Prop}{t:TTx Prop}{u v:TSx Prop}
variable{X:Cx}{e ea eb tg iter elt:Expr}{es:List Expr}{st:Stmt}{sts body:List Stmt}{pos p1 p2 p3 p4 np hpos:Pos}{x y n f:Str}{i j:Nat}{cc:Addr}(g:MonG up G)
include g
theorem pM(hc:X.calm=true)(hg:Gl X "len")(hm:X.mg "len"=none)(hg2:Gl X "set")(hm2:X.mg "set"=none)(ha:FE X B G Ex ea a)(hst:noStar ea=true):FE X B G Ex (.Call (.Name "len" p1) [.Call (.Name "set" p2) [ea] [] p3] [] pos) (cP .lenset (aC a aN)):=
 ⟨wkE (oJ sD hg hm (by decide +kernel) (jv (kn (sB hc) hg2 hm2 (by decide +kernel) (jv ha.p eJ hst) (by rw[xCj,hst];rfl)) eJ rfl) rfl) λτ H Q h=>(LE.p1 g ha.m h).imp ha.m λw H1 zz=>by
  obtain⟨W,S,v,z,S',rs,r1,e,q⟩:=zz;cases v <;> try (cases e;done)
  delta pr at e;dsimp only at e;split at e
  ·next ws ew=>
   split at e
   ·next hb=>
    cases e;obtain⟨p,ys,rfl,f,r⟩:=r1;have hys:=strL_ok ew r;subst hys;obtain⟨h1,h2⟩:=xBe hb;exact⟨p,ws,rfl,rs.fz _ _ f,h1,h2,λl hl=>⟨l,_,rfl,bt,by lia,q W _ _ .refl (rs.same (cY hl _)) rfl⟩⟩
   ·cases e
  ·(cases e),mP g (mAC g ha.m (mAN g))⟩
omit g in
theorem kM{W:Wd}:∀{xs:List U}{ns:List Int}{ys:List V},intsU xs=some ns->Rvs B W xs ys->ys=ns.map V.int
 |[],_,_,h,r=>by cases h;exact r
 |.int i::xs,ns,_,h,r=>by
  obtain⟨y,ys,rfl,r1,r2⟩:=r;obtain⟨ns',e2,rfl⟩:=Option.map_eq_some_iff.mp h;rw[show y=_ from r1,kM e2 r2];rfl
omit g in
theorem nL:∀{ns:List Int},risB ns=true->ns.Pairwise (·<·)
 |[],_=>.nil
 |[_],_=>List.pairwise_singleton ..
 |a::b::r,h=>by
  change(decide (a<b)&&risB (b::r))=true at h;rw[xCh] at h;have h1:=xBe h.1;have h2:=nL h.2;refine List.pairwise_cons.mpr ⟨λz hz=>?_,h2⟩;rcases xAv.mp hz with rfl|hz
  ·exact h1
  ·exact Int.lt_trans h1 ((List.pairwise_cons.mp h2).1 z hz)
omit g in
theorem xA:PrN B up .srt cSrt:=by
 intro W S H vs us z S' Q rs rv h q;obtain⟨v,rfl⟩:=vs1 h rfl λa b r=>by cases a <;> rfl
 obtain⟨u,rfl,r1⟩:=rv.inv1;delta pr at h;dsimp only at h;split at h
 ·next xs e=>
  split at h
  ·next ns en=>
   split at h
   ·next hr=>
    obtain⟨p,ys,rfl,hh,rr⟩:=cI rs r1 e;have ey:=kM en rr;rw[ey] at hh rr;exact⟨p,ns,rfl,hh,nL hr,λl hl=>fK (m:=false) h q rs rr hl⟩
   ·cases h
  ·cases h
 ·cases h
omit g in
theorem j0{W:Wd}:∀{n k:Nat},Rvs B W (intL (k:Int) n) ((List.range' k n).map λi:Nat=>V.int (i:Int))
 |0,_=>rfl
 |n+1,k=>⟨_,_,rfl,rfl,j0 (n:=n) (k:=k+1)⟩
theorem v7(hc:X.calm=true)(hg:Gl X "list")(hm:X.mg "list"=none)(hg2:Gl X "range")(hm2:X.mg "range"=none)(ha:FE X B G Ex ea a)(hst:noStar ea=true):FE X B G Ex (.Call (.Name "list" p1) [.Call (.Name "range" p2) [ea] [] p3] [] pos) (cP .lrng (aC a aN)):=
 ⟨wkE (kn (pW hc) hg hm (by decide +kernel) (jv (kn wp hg2 hm2 (by decide +kernel) (jv ha.p eJ hst) (by rw[xCj,hst];rfl)) eJ rfl) rfl) λτ H Q h=>(LE.p1 g ha.m h).imp ha.m λw H1 zz=>by
  obtain⟨W,S,v,z,S',rs,r1,e,q⟩:=zz;cases v <;> try (cases e;done)
  delta pr at e;dsimp only at e;split at e
  ·next j hb=>
   cases e;obtain⟨h1,h2⟩:=xBe hb;obtain⟨n,rfl⟩:=Int.eq_ofNat_of_zero_le h1;refine⟨n,by rw[show w=_ from r1],λl hl=>⟨l,n,rfl,bt,by lia,λl2 hl2=>?_⟩⟩;obtain⟨le2,rs2⟩:=(rs.same (cY hl (RngO l n))).fresh (o:=.lst ((List.range' 0 n).map λi:Nat=>V.int (i:Int))) hl2;exact q _ _ _ le2 rs2 ⟨l2,_,rfl,bt,j0 (k:=0)⟩
  ·(cases e),mP g (mAC g ha.m (mAN g))⟩
theorem zn:FE X B G Ex (.Dict [] [] pos) (cP .dctT aN):=
 ⟨wkE oE λτ H Q zz=>by
  obtain⟨W,σ,S,rs,rg,h⟩:=zz;obtain⟨z,S2,e,q⟩:=g.pok h;cases e;intro p hp;have le:W.Le {W with μ:=W.μ++[p]}:=⟨λ_ _ h=>h,λ_ _ h=>cQ h,rfl⟩
  obtain⟨_,rs',ha⟩:=rs.push (o:=.dtt []) (h:=.dT []) hp ⟨[],rfl,rfl⟩;exact q _ _ _ le rs' ⟨p,rfl,ha⟩,mP g (mAN g)⟩
theorem yQ{b':TEx Prop}{i j:Nat}{x y:Str}{px py pt pt2 spos:Pos}{kt k2:Nat}(hc:X.calm=true)(hN:X.N.Nodup)(hi:X.N[i]?=some x)(hj:X.N[j]?=some y)(hij:i≠j)(hx:X.env.scope.names.lookup x=some .local)(hy:X.env.scope.names.lookup y=some .local)(ha:FE X B G Ex ea a)(hb:FE X B G Ex eb b')(hst:noStar ea=true)(hst2:noStar eb=true)(hw:swappedStores [.Tuple [.Name x px,.Name y py] kt pt] (.Tuple [ea,eb] k2 pt2) X.env=pure (some [x,y])):FS X B G Ex (.Assign [.Tuple [.Name x px,.Name y py] kt pt] (.Tuple [ea,eb] k2 pt2) spos) (sPr i j a b'):=by
 have fa:FA X B G Ex [ea,eb] (aC a (aC b' aN)):=eZ g ha (eZ g hb (gY g) hst2) hst;refine⟨wkS (uN hc hN hi hj hij hx hy fa.p hw) λD τ H ⟨W,σ,S,rs,rg,h⟩=>?_,⟨λl h=>ha.m.m (λ_ _=>l.x _ _ _) (λ_ _ h=>hb.m.m (λ_ _=>l.x _ _ _) (λ_ _=>l.nx _ _) h) h⟩⟩;have h2:(aC a (aC b' aN)) G σ S (λx S1=>(LEe B Ex W D).x x σ S1) (λvs S2=>match vs with|[v,w]=>(LEe B Ex W D).nx (put (put σ i v) j w) S2|_=>G.fail):=h;refine LA.go fa.m rs rg (fa.m.m (λx S z=>xle rg x S z) (λ_ _ _ z=>z) h2) λvs S1 W1 us H1 hl le1 rs1 rv1 rg1 h1=>?_;match vs,hl with
 |[v,w],_=>
  obtain⟨u,u2,rfl,r1,r2⟩:=rv1.inv2;exact⟨u,u2,rfl,h1 W1 _ H1 le1 rs1 ((rg1.put r1).put r2)⟩
theorem yt(ha:FE X B G Ex ea a):FE X B G Ex ea (cP .frz (aC a aN)):=
 ⟨wkE ha.p λτ H Q h=>(LE.p1 g ha.m h).imp ha.m λw H1 zz=>by
  obtain⟨W,S,v,z,S',rs,r1,e,q⟩:=zz;cases v <;> try (cases e;done)
  next p=>
  change lstU p S _=_ at e;unfold lstU at e;split at e
  ·next xs ex=>
   cases e;obtain⟨aa,rfl,hm⟩:=r1;obtain⟨W2,le2,rs2,r3⟩:=rs.freeze ex hm;exact q W2 _ H1 le2 rs2 r3
  ·(cases e),mP g (mAC g ha.m (mAN g))⟩
omit g in
theorem kz:∀{n:Nat}{l:List (Option U)}{k:Nat}{v:U},nth (List.replicate n none++l) k=some v->n<=k/\nth l (k-n)=some v
 |0,l,k,v,h=>⟨xBn _,by simpa using h⟩
 |n+1,l,0,v,h=>by cases h
 |n+1,l,k+1,v,h=>by
  have h:nth (List.replicate n none++l) k=some v:=by simpa [List.replicate_succ,nth] using h
  obtain⟨a,b⟩:=kz h;exact⟨by lia,by rw[show k+1-(n+1)=k-n by lia];exact b⟩
omit g in
theorem ku{σ:Sg}:∀{cs:List Nat}{k:Nat}{v:U},nth (cs.map (nth σ)) k=some v->∃c,cs[k]?=some c/\nth σ c=some v
 |[],_,_,h=>by cases h
 |c::cs,0,v,h=>⟨c,rfl,h⟩
 |c::cs,k+1,v,h=>by simpa using ku (cs:=cs) (k:=k) (by simpa [nth] using h)
omit g in
theorem wD{W:Wd}{σ:Sg}{τ:St}{m:Nat}{cs:List Nat}(rg:Rg B W σ τ):Rg B W (List.replicate m none++cs.map (nth σ)) (List.replicate m none++capV τ cs):=by
 refine⟨by simp[capV],λk v h=>?_⟩;obtain⟨h1,h2⟩:=kz h;obtain⟨c,h3,h4⟩:=ku h2;obtain⟨u,e,r⟩:=rg.v c v h4;refine⟨u,?_,r⟩;rw[xCl (by simpa using h1),xCu];unfold capV;rw[xAw,h3];simp[e]
theorem mTh{m:Bool}{t:TEx Prop}(h:MonE G t):MonE G (thwI m t):=by
 cases m with
 |true=>exact mP g (mAC g h (mAN g))
 |false=>exact h
theorem zh{m:Bool}{scope:Scope}{cl:List (Str×Addr)}{ls N:List Str}{cs is:List Nat}{one:Bool}{ifs:List Expr}{to:Option (TTx Prop)}(ho:one=true->is.length=1)(his:∀k∈is,k<ls.length)(hc:X.calm=true)(cp:CapsG X scope cl ls N cs)(hi:FI X B G Ex tg iter c)(hg:∀C s H fp,FG (cxComp X (ls++N) scope cl C s H fp) B G tg is one)(he:∀C s H fp,FE (cxComp X (ls++N) scope cl C s H fp) B G (λ_ _ _ _=>False) elt a)(ht:(ifs=[]/\to=none)\/∃ec t,ifs=[ec]/\to=some t/\MonT G t/\∀C s H fp,FT (cxComp X (ls++N) scope cl C s H fp) B G (λ_ _ _ _=>False) ec t)(hs:∀v,foldedSetIterable iter X.env v=pure v)(me:MonE G a):FE X B G Ex (.ListComp elt [⟨tg,iter,ifs,0⟩] scope pos) (thwI m (cL c is one ls.length cs to a))/\∀{i:Nat}{y:Str}{py spos:Pos},X.N.Nodup->X.N[i]?=some y->X.env.scope.names.lookup y=some .local->swapsWith (.ListComp elt [⟨tg,iter,ifs,0⟩] scope pos) (some (.Name y py)) spos.line X.env=pure true->FS X B G Ex (.Assign [.Name y py] (.ListComp elt [⟨tg,iter,ifs,0⟩] scope pos) spos) (sA i (thwI m (cL c is one ls.length cs to a))):=by
 have mt:∀u,to=some u->MonT G u:=λu hu=>by
  rcases ht with ⟨_,h⟩|⟨_,t,_,h,mt,_⟩
  ·rw[h] at hu;cases hu
  ·rw[h] at hu;cases hu;exact mt
 let tc:TT:=(to.map λt=>LT B G (λ_ _ _ _=>False) t).getD tYes
 have htc:∀C s H fp,PTs (cxComp X (ls++N) scope cl C s H fp) ifs tc:=λC s H fp=>by
  rcases ht with ⟨h1,h2⟩|⟨ec,t,h1,h2,_,h3⟩
  ·subst h1 h2;exact qM
  ·subst h1 h2;exact qL (h3 C s H fp).p
 refine⟨⟨wkE (vb hc cp hi.p (λC s H fp=>(hg C s H fp).p) htc (λC s H fp=>(he C s H fp).p) hs) ?core,mTh g (mL g hi.m mt me)⟩,λ{i y py spos} hN hiy hy hsw=>⟨wkS (nS hN hiy hy hc cp hi.p (λC s H fp=>(hg C s H fp).p) htc (λC s H fp=>(he C s H fp).p) hs hsw) λD τ H ⟨W,σ,S,rs,rg,h⟩=>?core τ H _ (LE.stm (mTh g (mL g hi.m mt me)) rs rg h λv S' W' u H' le rs' rv rg' h'=>h' W' _ H' le rs' (rg'.put rv)),mA g (mTh g (mL g hi.m mt me))⟩⟩;case core=>
 rintro τ H Q ⟨W,σ,S,rs,rg,h⟩
 obtain⟨Kf,h,fin⟩:∃Kf:Kv Prop,cL c is one ls.length cs to a G σ S (XL B W (Ex τ)) Kf/\∀{W1 W2:Wd}{S2:So}{us:List U}{ys:List V}{H2:Hp}{D:Addr},W.Le W1->W1.Lf W2->W2.pr=(D,.lst ys)::W1.pr->(∀q∈W1.pr,q.1≠D)->RS B W2 S2 H2->Rvs B W2 us ys->Kf (.lst us) S2->Q (.ref D) H2:=by
  cases m with
  |false=>
   refine⟨VL B W Q,h,λ{W1 W2 S2 us ys H2 D} le1 lf2 hpr2 hne rs2 rv2 hh=>?_⟩;have rs3:=rs2.heldF hpr2 hne;have lf4:W2.Lf {W2 with pr:=W1.pr,F:=upd W2.F D (.lst ys)}:=by
    have hF:=(rs2.pf (D,.lst ys) (by rw[hpr2];exact xAr)).2.1;exact⟨λp o z=>by show upd W2.F D _ p=_;rw[bq λy=>by rw[y,hF] at z;cases z];exact z,λ_ _ z=>z⟩
   exact hh {W2 with pr:=W1.pr,F:=upd W2.F D (.lst ys)} (.ref D) H2 ⟨λp o z=>lf4.f p o (lf2.f p o (le1.f p o z)),λp o z=>lf4.m p o (lf2.m p o (le1.m p o z)),le1.r⟩ rs3 ⟨D,ys,rfl,bt,rv2.lf lf4⟩
  |true=>
   refine⟨_,h,λ{W1 W2 S2 us ys H2 D} le1 lf2 hpr2 hne rs2 rv2 hh=>?_⟩;obtain⟨z,S3,e,hh⟩:=g.pok hh;cases e;have lf4:W2.Lf {W2 with pr:=W1.pr,μ:=W2.μ++[D]}:=⟨λ_ _ z=>z,λ_ _ z=>cQ z⟩
   obtain⟨rs3,hat⟩:=rs2.heldS (b:=.lst us) (h:=.lst ys) hpr2 hne ⟨ys,rfl,rv2.lf lf4⟩;have eq:upd H2 D (.lst ys)=H2:=by
    funext q
    by_cases y:q=D
    ·rw[y,bt];exact((rs2.pf (D,.lst ys) (by rw[hpr2];exact xAr)).1).symm
    ·rw[bq y]
   rw[eq] at rs3;exact hh {W2 with pr:=W1.pr,μ:=W2.μ++[D]} (.ref D) H2 ⟨λp o z=>lf4.f p o (lf2.f p o (le1.f p o z)),λp o z=>lf4.m p o (lf2.m p o (le1.m p o z)),le1.r⟩ rs3 ⟨D,rfl,hat⟩
 refine⟨W,σ,S,rs,rg,hi.m.m (λ_ _ z=>z) (λv S1 h1 W1 J H1 vs le1 rs1 ev wk=>?_) h⟩;subst ev;have h1:=g.bk h1;split at h1
 ·next hsz=>
  have hsz:=xCo hsz;intro D hD;generalize hbody:lcB is one (List.replicate ls.length none++cs.map (nth σ)) to a G=bd at h1;have hne:∀q∈W1.pr,q.1≠D:=λq hq z=>by rw[<- z,(rs1.pf q hq).1] at hD;cases hD
  let Wi:Nat->Nat->List V->Hp->Prop:=λi k ys H'=>i<=vs.length/\k=vs.length-i/\ys.length<=i/\∃W' S' us,W1.Lf W'/\W'.pr=(D,.lst ys)::W1.pr/\RS B W' S' H'/\Rvs B W' us ys/\lcK G bd (vs.drop i) us S' Kf
  have again:∀{i:Nat}{ys:List V}{W':Wd}{S':So}{H':Hp}{us:List U},i<vs.length->ys.length<=i+1->W1.Lf W'->W'.pr=(D,.lst ys)::W1.pr->RS B W' S' H'->Rvs B W' us ys->lcK G bd (vs.drop (i+1)) us S' Kf->Wi (i+1) (vs.length-(i+1)) ys H':=λhi hy l1 l2 l3 l4 l5=>⟨hi,rfl,hy,_,_,_,l1,l2,l3,l4,l5⟩
  refine⟨Wi,⟨vs.length,xBn _,rfl,xAg _,_,S1,[],Wd.Lf.pr,rfl,rs1.hold (o:=.lst []) hD (λ_=>nofun),rfl,h1⟩,?_⟩;rintro i k ys H2 ⟨hi',rfl,hy,W2,S2,us,lf2,hpr2,rs2,rv2,hh⟩
  refine⟨(rs2.pf _ (by rw[hpr2];exact xAr)).1,?_⟩;by_cases hlt:i<vs.length
  ·refine .inr ⟨wk.go lf2 rs2 hlt,Nat.lt_of_le_of_lt hy (xBc hlt hsz),λys' H'=>Wi (i+1) (vs.length-(i+1)) ys' H',λys' H' z=>⟨_,by lia,z⟩,λx H3 yy=>?_⟩;rw[List.drop_eq_getElem_cons hlt] at hh;obtain⟨W3,le3,rs3,rv3⟩:=wk.yld lf2 rs2 (xAk hlt) yy;have hh:lcB is one (List.replicate ls.length none++cs.map (nth σ)) to a G vs[i] S2 λo S1=>match o with
    |some u=>lcK G bd (vs.drop (i+1)) (us++[u]) S1 Kf
    |none=>lcK G bd (vs.drop (i+1)) us S1 Kf:=by rw[hbody];exact hh
   have lf3:W1.Lf W3:=⟨λp o z=>le3.f p o (lf2.f p o z),λp o z=>le3.m p o (lf2.m p o z)⟩
   have hpr3:W3.pr=(D,.lst ys)::W1.pr:=le3.r.trans hpr2;refine tV g ho rs3 (wD ((rg.mono le1).lf lf3)) rv3 hh λσ4 τ4 h4 rg4 hl4 hj4=>⟨?_,?_,?_⟩
   ·have hl:τ4.length=ls.length+cs.length:=by rw[rg4.l,hl4];simp
    apply List.ext_getElem?;intro q;rw[List.getElem?_drop,hj4 _ (λz=>absurd (his _ z) (by lia)),xCl (by simp),xCu];congr 1;lia
   ·rw[rg4.l,hl4];simp
   ·-- the element
    have elem:∀{W5:Wd}{S5:So}{H5:Hp},W3.Le W5->RS B W5 S5 H5->a G σ4 S5 (λ_ _=>G.fail) (λu S6=>lcK G bd (vs.drop (i+1)) (us++[u]) S6 Kf)->LE B G (λ_ _ _ _=>False) a τ4 H5 λv H6=>H6 D=some (.lst ys)/\Wi (i+1) (vs.length-(i+1)) (ys++[v]) (upd H6 D (.lst (ys++[v]))):=λ{W5 S5 H5} le5 rs5 h5=>
     LE.go me rs5 (rg4.mono le5) (me.m (λ_ _ z=>(g.no z).elim) (λ_ _ z=>z) h5) λu S6 W6 uu H6 le6 rs6 ru _ h6=>by
      have hpr6:W6.pr=(D,.lst ys)::W1.pr:=(le5.trans le6).r.trans hpr3;refine⟨(rs6.pf _ (by rw[hpr6];exact xAr)).1,again hlt (by simp;lia) (W':={W6 with pr:=(D,.lst (ys++[uu]))::W1.pr}) ?_ rfl (rs6.held hpr6 (λ_=>nofun) hne) ?_ h6⟩
      ·exact⟨λp o z=>(le5.trans le6).f p o (lf3.f p o z),λp o z=>(le5.trans le6).m p o (lf3.m p o z)⟩
      ·exact(((rv2.mono le3).mono (le5.trans le6)).app (.one ru)).lf .pr
    cases to with
    |none=>exact⟨(rs3.pf _ (by rw[hpr3];exact xAr)).1,by rw[xCg rfl];exact elem .refl rs3 h4⟩
    |some t=>
     show LT B G (λ_ _ _ _=>False) t τ4 H3 _;refine LT.go (mt t rfl) rs3 rg4 ((mt t rfl).m (λ_ _ z=>(g.no z).elim) (λ_ _ z=>z) h4) λbb S5 W5 H5 le5 rs5 rg5 h5=>?_;have h5:=g.bk h5;have hpr5:W5.pr=(D,.lst ys)::W1.pr:=le5.r.trans hpr3;refine⟨(rs5.pf _ (by rw[hpr5];exact xAr)).1,?_⟩;cases bb with
     |true=>rw[xCg rfl] at h5⊢;exact elem le5 rs5 h5
     |false=>
      rw[xCf xAy] at h5⊢;exact again hlt (by lia) ⟨λp o z=>le5.f p o (lf3.f p o z),λp o z=>le5.m p o (lf3.m p o z)⟩ hpr5 rs5 ((rv2.mono le3).mono le5) h5
  ·have e:i=vs.length:=by lia
   subst e;rw[List.drop_length] at hh;refine .inl ⟨wk.stop lf2 rs2,?_⟩;exact fin le1 lf2 hpr2 hne rs2 rv2 hh
 ·exact(g.no h1).elim
end
end Fx
namespace Fx
open PySem L2
inductive Gd where
 |fn (i np:Nat) (df:List U) (mp:List Bool)|cl (i np:Nat) (df:List U)|con (u:U)
structure Ct where
 N:List Str
 sc:List (Str×NameKind)
 gl:List (Str×Gd)
 ms:List (Str×Str×Nat×Nat)
 mu:List Str
 fl:List Str
 bl:List Str
 ini:List Str
 isc:List Str
 inC:Bool
noncomputable def idx(x:Str):List Str->Nat->Option Nat
 |[],_=>none
 |y::r,i=>if x=y then some i else idx x r (i+1)
noncomputable def okN(x:Str):Bool:=!(x==("__debug__":Str))&&!(x==("__classdict__":Str))&&!(x==("__name__":Str))
noncomputable def isV(c:Ct)(x:Str):Bool:=match getF x c.sc with
 |some .local=>true
 |some .cell=>true
 |some .free=>true
 |_=>false
noncomputable def isL(c:Ct)(x:Str):Bool:=match getF x c.sc with
 |some .local=>true
 |some .cell=>true
 |_=>false
noncomputable def isG(c:Ct)(x:Str):Bool:=(match getF x c.sc with
 |some .globalImplicit=>true
 |_=>false)&&okN x
noncomputable def vIx(c:Ct)(x:Str):Option Nat:=if isV c x&&okN x then idx x c.N 0 else none
noncomputable def lIx(c:Ct)(x:Str):Option Nat:=if isL c x then idx x c.N 0 else none
noncomputable def glo(c:Ct)(x:Str):Option Gd:=if isG c x then getF x c.gl else none
noncomputable def isB(c:Ct)(x:Str):Bool:=isG c x&&c.bl.any λy=>decide (y=x)
noncomputable def o1{α β:Type}(f:α->β):Option α->Option β
 |some a=>some (f a)
 |none=>none
noncomputable def o2{α β γ:Type}(f:α->β->γ):Option α->Option β->Option γ
 |some a,some b=>some (f a b)
 |_,_=>none
noncomputable def o3{α β γ δ:Type}(f:α->β->γ->δ):Option α->Option β->Option γ->Option δ
 |some a,some b,some c=>some (f a b c)
 |_,_,_=>none
noncomputable def gd{α:Type}(b:Bool)(o:Option α):Option α:=match b with
 |true=>o
 |false=>none
noncomputable def opOf(m:Bool):Operator->Option Pm
 |.Add=>some (.add m)|.Sub=>some .sub|.Mult=>some .mul|.FloorDiv=>some .fdiv|.Mod=>some .mod|.Pow=>some .pow|_=>none
noncomputable def cmpOf:CmpOp->Option Pm
 |.Eq=>some .eq|.NotEq=>some .ne|.Lt=>some .lt|.LtE=>some .le|.Gt=>some .gt|.GtE=>some .ge|.In=>some .inn|.NotIn=>some .nin|_=>none
noncomputable def ordOf:CmpOp->Option Pm
 |.Lt=>some .lt|.LtE=>some .le|.Gt=>some .gt|.GtE=>some .ge|_=>none
noncomputable def noSetD:Expr->Bool
 |.Set ..=>false
 |_=>true
noncomputable def tyOf(x:Str):Option String:=if x="int" then some "int" else if x="bool" then some "bool" else if x="str" then some "str" else if x="tuple" then some "tuple" else none
noncomputable def blt1(m:Bool)(x:Str):Option Pm:=if x="len" then some .len else if x="sorted" then some .srt else if x="abs" then some .abs else if x="int" then some .int1 else if x="tuple" then some .tupOf else if x="list" then some (.lstOf m) else if x="dict" then some .dctOf else if x="all" then some .all else none
noncomputable def blt2(x:Str):Option Pm:=if x="max" then some .max else if x="min" then some .min else none
def conS:Const->Option Str
 |.str x=>some x
 |_=>none
noncomputable def conT:Expr->Option (Str×Nat×Pos)
 |.Constant k j p=>o1 (λx=>(x,j,p)) (conS k)
 |_=>none
noncomputable def keysOf:List (Option Expr)->Option (List Str)
 |[]=>some []
 |e::r=>o2 (λx ks=>x.1::ks) (e.bind conT) (keysOf r)
noncomputable def namesOf(c:Ct):List Expr->Option (List Nat)
 |[]=>some []
 |.Name x _::r=>o2 (λi is=>i::is) (lIx c x) (namesOf c r)
 |_=>none
noncomputable def tgOf(c:Ct):Expr->Option (List Nat×Bool)
 |.Name x _=>o1 (λi=>([i],true)) (lIx c x)
 |.Tuple es _ _=>o1 (λis=>(is,false)) (namesOf c es)
 |_=>none
def locs:List (Str×NameKind)->List Str
 |[]=>[]
 |(x,.local)::r=>x::locs r
 |_::r=>locs r
def frees:List (Str×NameKind)->List Str
 |[]=>[]
 |(x,.free)::r=>frees r++[x]
 |_::r=>frees r
noncomputable def capIx(c:Ct):List Str->Option (List Nat)
 |[]=>some []
 |x::r=>match getF x c.sc with
  |some .cell=>o2 (λi is=>i::is) (idx x c.N 0) (capIx c r)
  |_=>none
noncomputable def okSc(sc:Scope):Bool:=decide (sc.kind = .function) && sc.names.all (λp=>match p.2 with
 |.local=>true
 |.free=>true
 |.globalImplicit=>true
 |_=>false)&&nodupS (sc.names.map (·.1))
noncomputable def dflt(np n:Nat)(df:List U):Option (List U):=if n<=np/\np-n<=df.length then some (df.drop (df.length-(np-n))) else none
noncomputable def notSup:Expr->Bool
 |.Call (.Name y _) _ _ _=>y != ("super":Str)
 |.Call ..=>false
 |_=>true
noncomputable def tg1:Expr->Bool
 |.Tuple ..=>false
 |_=>true
noncomputable def isTup:Expr->Bool
 |.Tuple ..=>true
 |_=>false
noncomputable def isLo:Option NameKind->Bool
 |some .local=>true
 |_=>false
noncomputable def o3'{α β γ δ:Type}(f:α->β->γ->Option δ)(a:Option α)(b:Option β)(c:Option γ):Option δ:=a.bind λx=>b.bind λy=>c.bind λz=>f x y z
theorem xW{α β γ δ:Type}{f:α->β->γ->Option δ}{a:Option α}{b:Option β}{c:Option γ}{r:δ}(h:o3' f a b c=some r):∃x y z,a=some x/\b=some y/\c=some z/\f x y z=some r:=by
 unfold o3' at h;obtain⟨x,h1,h⟩:=xCi.mp h;obtain⟨y,h2,h⟩:=xCi.mp h;obtain⟨z,h3,h⟩:=xCi.mp h;exact⟨x,y,z,h1,h2,h3,h⟩
section
variable{α:Type}
structure Cps(α:Type) where
 E:Ct->Bool->Expr->Option (TEx α)
 C:Ct->Bool->Expr->List Expr->Pos->Option (TEx α)
 M:Ct->Expr->Str->List Expr->Option (TEx α)
 A:Ct->List Bool->List Expr->Option (TAx α)
 T:Ct->Bool->Expr->Option (TTx α)
 I:Ct->Bool->Expr->Option (TEx α)
noncomputable def eE(r:Cps α)(c:Ct)(m:Bool)(e:Expr):Option (TEx α):=match e with
  |.Name x _=>match vIx c x with
   |some i=>some (cV i)
   |none=>match glo c x with
    |some (.con u)=>some (cC u)
    |_=>none
  |.Constant k _ _=>match k with
   |.int i=>some (cC (.int i))
   |.str x=>some (cC (.str x))
   |.bool b=>some (cC (.bl b))
   |.none=>some (cC .non)
   |_=>none
  |.BinOp a op b _=>o3 (λp x y=>cP p (lst2 x y)) (opOf m op) (r.E c false a) (r.E c false b)
  |.UnaryOp op a _=>match op with
   |.Not=>o1 (λt=>cB (tNt t)) (r.T c true a)
   |.USub=>o1 (λx=>cP .neg (aC x aN)) (r.E c false a)
   |_=>none
  |.BoolOp op vs p=>o1 cB (r.T c true (.BoolOp op vs p))
  |.Compare a ops bs p=>o1 cB (r.T c true (.Compare a ops bs p))
  |.IfExp t a b _=>o3 cIf (r.T c false t) (r.E c m a) (r.E c m b)
  |.Tuple es _ _=>gd (Nat.ble es.length 1000) (o1 cT (r.A c [] es))
  |.List es _=>o1 (cP (.lst m)) (r.A c [] es)
  |.Dict ks vs _=>match ks,vs with
   |[],[]=>some (cP (.dct []) aN)
   |ks,vs=>match keysOf ks with
    |some kk=>gd (nodupS kk&&Nat.ble kk.length 15&&Nat.beq kk.length vs.length) (o1 (cP (.dct kk)) (r.A c (vs.map λ_=>true) vs))
    |none=>none
  |.Subscript a b _=>match b with
   |.Slice lo hi none _=>match lo,hi with
    |some l,none=>o2 (λx y=>cP (.sl m true false) (lst2 x y)) (r.E c false a) (r.E c false l)
    |none,some h=>o2 (λx y=>cP (.sl m false true) (lst2 x y)) (r.E c false a) (r.E c false h)
    |_,_=>none
   |b=>gd (noSlice b) (o2 (λx y=>cP .ix (lst2 x y)) (r.E c false a) (r.E c false b))
  |.Attribute o f _=>gd (noCall o&&c.fl.any λg=>decide (g=f)) (o1 (λx=>cP (.fld f) (aC x aN)) (r.E c false o))
  | .ListComp elt gens sc _=>o1 (thwI m) (match gens with
   |[⟨tg,it,ifs,0⟩]=>match capIx c (frees sc.names),tgOf {c with N:=locs sc.names++frees sc.names,sc:=sc.names,inC:=true} tg,r.I c (tg1 tg) it,r.E {c with N:=locs sc.names++frees sc.names,sc:=sc.names,inC:=true} false elt with
    | some cs,some (is,one),some ti,some te=>gd (!c.inC && okSc sc && noSetD it && is.all (λk=>Nat.blt k (locs sc.names).length)) (match ifs with
     |[]=>some (cL ti is one (locs sc.names).length cs none te)
     |_=>none)
    |_,_,_,_=>none
   |_=>none)
  |.Call f as kws pos=>match kws with
   |[]=>gd (as.all noStar) (r.C c m f as pos)
   |_=>none
  |_=>none
noncomputable def ks2:List Keyword->Bool
 |[⟨some x,.Constant (.int 2) _ _,_⟩]=>decide (x="start")
 |_=>false
noncomputable def eC(r:Cps α)(c:Ct)(m:Bool)(f:Expr)(as:List Expr)(pos:Pos):Option (TEx α):=match f with
  |.Name x _=>match glo c x with
   |some (.fn i np df mp)=>o2 (λa d=>cF i a d) (r.A c mp as) (dflt np as.length df)
   |some (.cl i np df)=>gd (!c.inC) (o2 (λa d=>cK x i a d) (r.A c [] as) (dflt np (as.length+1) df))
   |some _=>none
   | none=>gd (isB c x) (match as with
    |[a]=>match a with
     |.Call (.Name y _) [b] [] _=>match decide (x="len"),decide (y="set") with
      |true,true=>gd (isB c y&&noStar b) (o1 (λz=>cP .lenset (aC z aN)) (r.E c false b))
      |_,_=>match decide (x="list"),decide (y="range") with
      |true,true=>gd (isB c y&&noStar b&&!m) (o1 (λz=>cP .lrng (aC z aN)) (r.E c false b))
      |_,_=>o2 (λp z=>cP p (aC z aN)) (blt1 m x) (r.E c false a)
     |a=>o2 (λp z=>cP p (aC z aN)) (blt1 m x) (r.E c false a)
    |[a,b]=>match decide (x="isinstance") with
     |true=>match b with
      |.Name y _=>match tyOf y with
       |some t=>gd (isB c y) (o1 (λz=>cP (.isT t) (aC z aN)) (r.E c false a))
       |none=>none
      |_=>none
     |false=>o3 (λp z w=>cP p (lst2 z w)) (blt2 x) (r.E c false a) (r.E c false b)
    |_=>none)
  | .Attribute o a apos=>gd (apos.endLine == pos.line && Nat.blt as.length 29) (match getF a c.ms with
   |some (C,i,np)=>gd (notSup o) (o3 (λz w d=>cM C a i z w d) (r.E c false o) (r.A c [] as) (dflt np (as.length+1) []))
   |none=>match o with
    |.Name y _=>match glo c y with
     | some (.con (.kd kvs no))=>gd (decide (a="get")) (match as with
      |[e]=>o1 (λz=>cP .get1 (aC (cC (.kd kvs no)) (aC z aN))) (r.E c false e)
      |[e,d]=>o2 (λz w=>cP .get2 (aC (cC (.kd kvs no)) (lst2 z w))) (r.E c false e) (r.E c false d)
      |_=>none)
     |_=>r.M c o a as
    |o=>r.M c o a as)
  |_=>none
noncomputable def eM(r:Cps α)(c:Ct)(o:Expr)(a:Str)(as:List Expr):Option (TEx α):=gd (noCall o) (match as with
  |[e]=>if a="append" then o2 (λz w=>cBM "list" .app z (aC w aN)) (r.E c false o) (r.E c false e)
   else if a="extend" then o2 (λz w=>cBM "list" .ext z (aC w aN)) (r.E c false o) (r.E c false e)
   else if a="update" then o2 (λz w=>cBM "dict" .upd z (aC w aN)) (r.E c false o) (r.E c false e)
   else if a="join" then o2 (λz w=>cBM "str" .join z (aC w aN)) (r.E c false o) (r.E c false e)
   else none
  |_=>none)
noncomputable def eA(r:Cps α)(c:Ct)(m:List Bool)(es:List Expr):Option (TAx α):=match es with
 |[]=>some aN
 |e::q=>gd (noStar e) (o2 aC (r.E c (m.headD false) e) (r.A c m.tail q))
noncomputable def eT(r:Cps α)(c:Ct)(vl:Bool)(e:Expr):Option (TTx α):=match e with
  |.UnaryOp op a _=>match op with
   |.Not=>o1 tNt (r.T c vl a)
   |_=>none
  |.BoolOp op vs p=>match vs with
   |[]=>none
   |[a]=>r.T c vl a
   |a::b::q=>match op with
    |.And=>o2 tAn (r.T c vl a) (r.T c vl (.BoolOp .And (b::q) p))
    |.Or=>o2 tOr' (r.T c vl a) (r.T c vl (.BoolOp .Or (b::q) p))
  |.Compare a ops bs _=>match ops,bs with
   |[op],[b]=>match op,b with
    |.Is,.Constant .none _ _=>o1 (λx=>tB (cP .isN (aC x aN))) (r.E c false a)
    |.IsNot,.Constant .none _ _=>o1 (λx=>tB (cP .notN (aC x aN))) (r.E c false a)
    |op,b=>gd (noSetD b) (o3 (λp x y=>tB (cP p (lst2 x y))) (cmpOf op) (r.E c false a) (r.E c false b))
   | [p,q],[b,d]=>gd (noSetD b && noSetD d) (match ordOf p,ordOf q with
    |some p,some q=>o3 (λx y z=>tCh p q x y z) (r.E c false a) (r.E c false b) (r.E c false d)
    |_,_=>none)
   |_,_=>none
  |.Call f as kws p=>o1 tB (r.E c false (.Call f as kws p))
  |.Attribute o f p=>gd (!vl) (o1 (λx=>tB (cP .tru (aC x aN))) (r.E c false (.Attribute o f p)))
  |.Name x p=>match vl with
   |true=>o1 tB (r.E c false (.Name x p))
   |false=>o1 (λy=>tB (cP .tru (aC y aN))) (r.E c false (.Name x p))
  |_=>none
noncomputable def eI(r:Cps α)(c:Ct)(one:Bool)(e:Expr):Option (TEx α):=match e with
  |.Call (.Name x p) as [] q=>match isB c x&&decide (x="range") with
   |true=>match as with
    |[a]=>gd (noStar a) (o1 (λz=>cP .rng1 (aC z aN)) (r.E c false a))
    |_=>none
   |false=>match isB c x&&decide (x="zip") with
    |true=>match as with
     |[a,b]=>gd (!one&&noStar a&&noStar b) (o2 (λz w=>cP .zip (lst2 z w)) (r.E c false a) (r.E c false b))
     |_=>none
    |false=>o1 (λz=>cP .seq (aC z aN)) (r.E c false (.Call (.Name x p) as [] q))
  |.Call (.Name x p) as kws q=>match ks2 kws,as with
   |true,[a]=>gd (isB c x&&decide (x="enumerate")&&!one&&noStar a) (o1 (λz=>cP .enm2 (aC z aN)) (r.E c false a))
   |_,_=>none
  |e=>o1 (λz=>cP .seq (aC z aN)) (r.E c false e)
noncomputable def cps:Nat->Cps α
 |0=>⟨λ_ _ _=>none,λ_ _ _ _ _=>none,λ_ _ _ _=>none,λ_ _ _=>none,λ_ _ _=>none,λ_ _ _=>none⟩
 |n+1=>⟨eE (cps n),eC (cps n),eM (cps n),eA (cps n),eT (cps n),eI (cps n)⟩
noncomputable def cpE(c:Ct)(n:Nat)(m:Bool)(e:Expr):Option (TEx α):=(cps n).E c m e
noncomputable def cpC(c:Ct)(n:Nat)(m:Bool)(f:Expr)(as:List Expr)(pos:Pos):Option (TEx α):=(cps n).C c m f as pos
noncomputable def cpM(c:Ct)(n:Nat)(o:Expr)(a:Str)(as:List Expr):Option (TEx α):=(cps n).M c o a as
noncomputable def cpA(c:Ct)(n:Nat)(m:List Bool)(es:List Expr):Option (TAx α):=(cps n).A c m es
noncomputable def cpT(c:Ct)(n:Nat)(vl:Bool)(e:Expr):Option (TTx α):=(cps n).T c vl e
noncomputable def cpI(c:Ct)(n:Nat)(one:Bool)(e:Expr):Option (TEx α):=(cps n).I c one e
def sZ:TSx α:=λG _ _ _=>G.fail
noncomputable def frzN(c:Ct):Expr->Option Nat
 |.Name x _=>if(c.mu.any λy=>decide (y="!"++x))=true then vIx c x else none
 |_=>none
noncomputable def parB(c:Ct)(x y:Str)(px py:Pos)(a b:Expr):Bool:=!c.inC&&!decide (x=y)&&isLo (getF x c.sc)&&isLo (getF y c.sc)&&(py.line==px.line)&&noStar a&&noStar b&&!(foldedForSure 8 a&&foldedForSure 8 b)&&!(constantsAlone 8 a&&constantsAlone 8 b)
noncomputable def isD0:Expr->Bool
 |.Dict [] [] _=>true
 |_=>false
noncomputable def isNm:Expr->Bool
 |.Name ..=>true
 |_=>false
structure Cpt(α:Type) where
 S:Ct->Stmt->Option (TSx α)
 L:Ct->List Stmt->Option (TSx α)
noncomputable def eS(n:Nat)(r:Cpt α)(c:Ct)(s:Stmt):Option (TSx α):=match s with
  |.Pass _=>some sN
  |.Expr e _=>gd (noComp e) (o1 sE (cpE c n false e))
  |.Return e _=>match e with
   |some e=>match frzN c e with
    |some i=>some (sR (cP .frz (aC (cV i) aN)))
    |none=>o1 sR (cpE c n false e)
   |none=>none
  |.If t a b _=>o3 sI (cpT c n false t) (r.L c a) (r.L c b)
  |.For tg it b orelse _=>match orelse with
   |[]=>match tgOf c tg with
    |some (is,one)=>gd (noSetD it&&(one||isTup tg)) (o2 (λz w=>sF z is one w) (cpI c n (tg1 tg) it) (r.L c b))
    |none=>none
   |_=>none
  |.Assign tgs e _=>match tgs with
   | [tg]=>gd (noComp e || isNm tg) (match tg with
    |.Name x _=>match isD0 e&&c.mu.any λy=>decide (y="#"++x) with
     |true=>o1 (λi=>sA i (cP .dctT aN)) (lIx c x)
     |false=>o2 sA (lIx c x) (cpE c n (c.mu.any λy=>decide (x=y)) e)
    |.Tuple es _ _=>match isTup e with
     |false=>o2 sU (namesOf c es) (cpE c n false e)
     |true=>match es,e with
      |[.Name x px,.Name y py],.Tuple [a,b] _ _=>gd (parB c x y px py a b) (o3' (λi j a=>o1 (λb=>sPr i j a b) (cpE c n false b)) (lIx c x) (lIx c y) (cpE c n false a))
      |_,_=>none
    |.Attribute o f _=>gd (c.fl.any λg=>decide (g=f)) (o2 (λz w=>sP (.setf f) w (aC z aN)) (cpE c n false o) (cpE c n true e))
    |.Subscript o i _=>gd (noSlice i) (o3 (λz w v=>sP .seti v (lst2 z w)) (cpE c n false o) (cpE c n false i) (cpE c n true e))
    |_=>none)
   |_=>none
  |.Raise ..=>some sZ
  |_=>none
noncomputable def eL(r:Cpt α)(c:Ct)(ss:List Stmt):Option (TSx α):=match ss with
 |[]=>some sN
 |s::q=>o2 sQ (some ((r.S c s).getD sZ)) (r.L c q)
noncomputable def cpt:Nat->Cpt α
 |0=>⟨λ_ _=>none,λ_ _=>none⟩
 |n+1=>⟨eS n (cpt n),eL (cpt n)⟩
noncomputable def cpS(c:Ct)(n:Nat)(s:Stmt):Option (TSx α):=(cpt n).S c s
noncomputable def cpSs(c:Ct)(n:Nat)(ss:List Stmt):Option (TSx α):=(cpt n).L c ss
end
end Fx
namespace Fx
open PySem PySem.Spec L2
open PyProof.Rows hiding St
variable{α β γ:Type}{apos pos py spos:Pos}{env:Env}{x y:Str}{tg e:Expr}{is:List Nat}{H:Hp}{vs:List U}{S S':So}{v:U}{op:CmpOp}{p:Pm}{kk:List Str}{as:List Expr}{st:Stmt}{t:TSx Prop}{fw:Nat}{r:Row}{fd:FuncData}{B:Bs}
theorem cA{f:α->β}{o:Option α}{b:β}(h:o1 f o=some b):∃a,o=some a/\b=f a:=by cases o <;> cases h;exact⟨_,rfl,rfl⟩
theorem cR{f:α->β->γ}{o:Option α}{p:Option β}{b:γ}(h:o2 f o p=some b):∃x y,o=some x/\p=some y/\b=f x y:=by cases o <;> cases p <;> cases h;exact⟨_,_,rfl,rfl,rfl⟩
theorem iE{δ:Type}{f:α->β->γ->δ}{o:Option α}{p:Option β}{q:Option γ}{b:δ}(h:o3 f o p q=some b):∃x y z,o=some x/\p=some y/\q=some z/\b=f x y z:=by cases o <;> cases p <;> cases q <;> cases h;exact⟨_,_,_,rfl,rfl,rfl,rfl⟩
theorem cJ{b:Bool}{o:Option α}{x:α}(h:gd b o=some x):b=true/\o=some x:=by
 cases b with
 |true=>exact⟨rfl,h⟩
 |false=>cases h
theorem gU{x:Str}:∀{l:List Str}{i j:Nat},idx x l i=some j->i<=j/\l[j-i]?=some x
 |[],_,_,h=>by cases h
 |y::r,i,j,h=>by
  unfold idx at h;split at h
  ·next e=>cases h;exact⟨xAg _,by rw[Nat.sub_self,e];rfl⟩
  ·obtain⟨h1,h2⟩:=gU h;exact⟨by lia,by rw[show j-i=(j-(i+1))+1 by lia];simpa using h2⟩
theorem rY{o:Expr}{m:Str}{es:List Expr}(hb:attributeBase o m env (eval o env)=eval o env)(hst:es.all noStar=true)(hn:es.length<29)(hl:(apos.endLine == pos.line)=true):∃pl,eval (.Call (.Attribute o m apos) es [] pos) env=(do
   let ov <- eval o env
   standAt apos.atName
   let (f,first) <- holding [ov] (getMethod ov m pl)
   callWith pos f first (backTo pos (starEach es env)) (backToKw pos (keywordEach [] env))):=by
 have hf:methodCallForm (es.length+([]:List Keyword).length) (backTo pos (starEach es env)) (backToKw pos (keywordEach [] env))=true:=by
  unfold methodCallForm;rw[ir hst];simp[keywordEach,backToKw];lia
 refine⟨do return (<- importBound o env).getD true,?_⟩;rw[show eval (.Call (.Attribute o m apos) es [] pos) env=(do
  let ov <- attributeBase o m env (eval o env)
  standAt apos.atName
  methodCall o m apos pos env ov (es.length+([]:List Keyword).length) (backTo pos (starEach es env)) (backToKw pos (keywordEach [] env))) from rfl,hb]
 unfold methodCall methodCallPos calleeOf;rw[hf,hl];rfl
theorem sX{o:Expr}{m:Str}{x:Sem Value}(h:notSup o=true):attributeBase o m env x=x:=by
 cases o <;> try rfl
 rename_i f as ks p
 cases f <;> try (cases h;done)
 rename_i y q
 have h':(y != ("super":Str))=true:=h;cases as <;> cases ks <;> try rfl
 unfold attributeBase;dsimp only;rw[xCg (by rw[h'];rfl)]
structure Fc(P:Program)(w:World)(base:Heap)(B:Bs)(up:List (Str×Str))(G:Gx Prop)(lv:Nat)(c:Ct):Prop where
 g:MonG up G
 fn:∀{x i np df mp},getF x c.gl=some (.fn i np df mp)->∃f fd ps,B.mg x=some (.ref f)/\PySem.W.keepIn B.K (.ref f)=true/\FnOk P w B.K B.mg base (CXz P w) lv f fd ps (spF B G i np)/\(∀{n ds},dflt np n df=some ds->n+ds.length=np/\∃dvs dv,Binds B.K fd ps dv/\Vals dvs dv/\∀W,Rvs B W ds dvs)
 cl:∀{x i np df},getF x c.gl=some (.cl i np df)->∃cc f fd ps,B.cl x cc/\B.mg x=some (.ref cc)/\Mk B.K cc f/\FnOk P w B.K B.mg base (CXz P w) lv f fd ps (spF B G i np)/\(∀{n ds},dflt np n df=some ds->n+ds.length=np/\∃dvs dv,Binds B.K fd ps dv/\Vals dvs dv/\∀W,Rvs B W ds dvs)/\(x∈c.isc->KitC B up x cc)/\(x∈c.ini->Binds B.K fd ps []/\∃mc,PySem.W.specialIn B.K (.ref cc) "__getattribute__"=some (some (.builtin "type.__getattribute__"))/\PySem.W.readsIn B.K cc mc=true/\PySem.W.findCls B.K (.ref cc) mc "__init__"=some (.val (.ref f))/\PySem.W.handedIn (.ref f)=true/\PySem.W.keepIn B.K (.ref f)=true)
 ms:∀{m C i np},getF m c.ms=some (C,i,np)->∃cc f fd ps,(∀c',B.cl C c'->c'=cc)/\Cls B.K cc/\Meth B.K cc m f/\FnOk P w B.K B.mg base (CXz P w) lv f fd ps (spF B G i np)/\Binds B.K fd ps []
 con:∀{x u},getF x c.gl=some (.con u)->∃v val,B.mg x=some val/\RelV v val/\∀W,Rv B W u v
 bl:∀{x},x∈c.bl->B.mg x=none
 k1:KitT B "int"
 k2:KitT B "bool"
 k3:KitT B "str"
 k4:KitT B "tuple"
 clf:ClF B c.fl
 clt:ClT B
 kdf:KdF w B
structure Cok(P:Program)(w:World)(base:Heap)(B:Bs)(lv:Nat)(c:Ct)(X:Cx):Prop where
 hP:X.prog=P
 hw:X.w=w
 hK:X.K=B.K
 hM:X.mg=B.mg
 hb:X.base=base
 N:X.N=c.N
 nd:X.N.Nodup
 vis:∀{x},isV c x=true->Vis X.env.scope x
 loc:∀{x},isL c x=true->Loc X.env.scope x/\(X.fn x=true\/X.env.scope.names.lookup x=some .local)
 lc:∀{x},getF x c.sc=some .local->X.env.kindOf x=some .local
 gl:∀{x},isG c x=true->Gl X x
 calm:X.calm=true
 hr:Room (lv+1) X.A
 bk:c.inC=false->X.env.blockKind=.function
 cap:c.inC=false->∀{x},getF x c.sc=some .cell->X.env.scope.names.lookup x=some .cell/\∃a,X.env.cells.lookup x=some a
section
variable{P:Program}{w:World}{base:Heap}{B:Bs}{up:List (Str×Str)}{G:Gx Prop}{lv:Nat}{c:Ct}{X:Cx}{Ex:St->XK}
theorem Cok.f{k:Nat}{f:Addr}{fd:FuncData}{ps:List Str}{sp:Sp}(k':Cok P w base B lv c X)(F:FnOk P w B.K B.mg base (CXz P w) k f fd ps sp):FnOk X.prog X.w X.K X.mg X.base (CXz X.prog X.w) k f fd ps sp:=by
 rw[k'.hP,k'.hw,k'.hK,k'.hM,k'.hb];exact F
theorem dH(h:isG c x=true):okN x=true:=by unfold isG at h;rw[xCh] at h;exact h.2
theorem dy(h:okN x=true):(x==("__debug__":Str))=false/\(x==("__classdict__":Str))=false/\x≠"__name__":=by
 simp only[okN,xCh,Bool.not_eq_true'] at h;exact⟨h.1.1,h.1.2,λz=>by have:=h.2;rw[z] at this;simp at this⟩
theorem gV{d:Gd}(h:glo c x=some d):isG c x=true/\getF x c.gl=some d:=by
 unfold glo at h;split at h
 ·next e=>exact⟨e,h⟩
 ·cases h
theorem dA(h:isB c x=true):isG c x=true/\x∈c.bl:=by
 unfold isB at h;rw[xCh] at h;obtain⟨y,hy,e⟩:=xCy.mp h.2;exact⟨h.1,by rw[<- xBe e];exact hy⟩
theorem ul{i:Nat}(k:Cok P w base B lv c X)(h:vIx c x=some i):X.N[i]?=some x/\Vis X.env.scope x/\okN x=true:=by
 unfold vIx at h;split at h
 ·next e=>
  rw[xCh] at e;obtain⟨_,h2⟩:=gU h;exact⟨by rw[k.N];simpa using h2,k.vis e.1,e.2⟩
 ·cases h
theorem eO{i:Nat}(k:Cok P w base B lv c X)(h:lIx c x=some i):X.N[i]?=some x/\Loc X.env.scope x/\(X.fn x=true\/X.env.scope.names.lookup x=some .local):=by
 unfold lIx at h;split at h
 ·next e=>
  obtain⟨_,h2⟩:=gU h;exact⟨by rw[k.N];simpa using h2,k.loc e⟩
 ·cases h
theorem fJ(k:Cok P w base B lv c X):∀{es:List Expr}{is:List Nat},namesOf c es=some is->es.length=is.length/\∀(j:Nat)(e:Expr),es[j]?=some e->∃x p i,e=.Name x p/\is[j]?=some i/\X.N[i]?=some x/\Loc X.env.scope x/\(X.fn x=true\/X.env.scope.names.lookup x=some .local)
 |[],is,h=>by cases h;exact⟨rfl,λj e z=>by simp at z⟩
 |e::es,is,h=>by
  cases e <;> try (cases h;done)
  rename_i x p
  obtain⟨i,is',h1,h2,rfl⟩:=cR (show o2 _ (lIx c x) (namesOf c es)=_ from h);obtain⟨l,q⟩:=fJ k h2;refine⟨by simp[l],λj e z=>?_⟩;cases j with
  |zero=>simp at z;subst z;exact⟨x,p,i,rfl,rfl,eO k h1⟩
  |succ j=>simpa using q j e (by simpa using z)
theorem tD{one:Bool}(k:Cok P w base B lv c X)(h:tgOf c tg=some (is,one)):FG X B G tg is one/\(one=true->is.length=1):=by
 cases tg <;> try (cases h;done)
 ·obtain⟨i,h1,e⟩:=cA (show o1 _ _=_ from h);cases e;obtain⟨a,b,d⟩:=eO k h1;exact⟨zl k.nd a b d,λ_=>rfl⟩
 ·obtain⟨i,h1,e⟩:=cA (show o1 _ _=_ from h);cases e;obtain⟨l,q⟩:=fJ k h1;exact⟨zk k.hK k.calm k.nd q l,nofun⟩
theorem cb{α:Type}{x:Str}:∀{l:List (Str×α)},getF x l=l.lookup x
 |[]=>rfl
 |(y,v)::r=>by
  unfold getF;rw[List.lookup_cons];by_cases e:x=y
  ·rw[xCg e,e];simp
  ·rw[xCf e,beq_false_of_ne e];exact cb
theorem cS{env:Env}:∀{names:List (Str×NameKind)}{x:Str},names.lookup x=some .globalImplicit ->
  (names.map λ(n,k)=>if(k==NameKind.free&&env.scope.kind == .function&&env.kindOf n==some .cell) then(n,NameKind.cell) else(n,k)).lookup x=some .globalImplicit
 |[],_,h=>by simp at h
 |(n,k)::r,x,h=>by
  have ih:=@cS env r x;show List.lookup x ((if(k==NameKind.free&&env.scope.kind == .function&&env.kindOf n==some .cell)=true then(n,NameKind.cell) else(n,k))::_)=_;cases hx:x==n with
  |true=>
   simp only[List.lookup_cons,hx] at h;cases h;simp[hx,List.lookup_cons]
  |false=>
   simp only[List.lookup_cons,hx] at h;split <;> simp only[List.lookup_cons,hx] <;> exact ih h
theorem jN{env:Env}:∀{l:List (Str×NameKind)},(∀y,(y,NameKind.free)∈l->∃a,env.cells.lookup y=some a)->∀acc:List (Str×Addr),∃cl,(forIn l acc λ(p:Str×NameKind) (cs:List (Str×Addr))=>(do
   if(p.2==NameKind.free)=true then do
    let a <- cellOf env p.1
    pure (ForInStep.yield ((p.1,a)::cs))
   else pure (ForInStep.yield cs):Sem (ForInStep (List (Str×Addr)))))=pure (cl++acc)/\cl.map (·.1)=frees l/\∀q∈cl,env.cells.lookup q.1=some q.2
 |[],_,acc=>⟨[],rfl,rfl,λ_ h=>nomatch h⟩
 |(y,k)::r,h,acc=>by
  by_cases e:k=.free
  ·subst e;obtain⟨a,ha⟩:=h y xAr;obtain⟨cl,e1,e2,e3⟩:=jN (l:=r) (λz hz=>h z (xAs _ hz)) ((y,a)::acc);refine⟨cl++[(y,a)],?_,by rw[xAi,e2];rfl,λq hq=>?_⟩
   ·rw[List.forIn_cons,xAx,show[(y,a)]++acc=(y,a)::acc from rfl,<- e1];simp only[cellOf,ha];rfl
   ·rcases xAj.mp hq with hq|hq
    ·exact e3 q hq
    ·rw[xAm.mp hq];exact ha
  ·obtain⟨cl,e1,e2,e3⟩:=jN (l:=r) (λz hz=>h z (xAs _ hz)) acc;refine⟨cl,?_,by rw[e2];cases k <;> first|rfl|exact absurd rfl e,e3⟩;rw[List.forIn_cons,<- e1];simp only[show(k==NameKind.free)=false from beq_false_of_ne e];rfl
theorem jM{scope:Scope}(h:∀y,(y,NameKind.free)∈scope.names->∃a,env.cells.lookup y=some a):∃cl,closureFor scope env=pure cl/\cl.map (·.1)=frees scope.names/\∀q∈cl,env.cells.lookup q.1=some q.2:=by
 obtain⟨cl,e1,e2,e3⟩:=jN h [];refine⟨cl,?_,e2,e3⟩;rw[xB0] at e1;have:=congrArg (λz:Sem (List (Str×Addr))=>z>>=λr=>pure r) e1;exact this
theorem iP{x:Str}:∀{l:List (Str×NameKind)},x∈locs l↔(x,NameKind.local)∈l
 |[]=>by simp[locs]
 |(y,k)::r=>by cases k <;> simp[locs,iP (l:=r)]
theorem dq{x:Str}:∀{l:List (Str×NameKind)},x∈frees l↔(x,NameKind.free)∈l
 |[]=>by simp[frees]
 |(y,k)::r=>by cases k <;> simp[frees,dq (l:=r),or_comm]
theorem gQ{y:Str}{k:NameKind}:∀{l:List (Str×NameKind)},(l.map (·.1)).Nodup->(y,k)∈l->l.lookup y=some k
 |[],_,h=>nomatch h
 |(z,k')::r,nd,h=>by
  rw[xBs,xCb] at nd;rw[List.lookup_cons];rcases xAv.mp h with e|h
  ·cases e;simp
  ·have:y≠z:=λe=>nd.1 (by rw[<- e];exact xA2.mpr ⟨_,h,rfl⟩);rw[beq_false_of_ne this];exact gQ nd.2 h
theorem iJ:∀{l:List (Str×NameKind)},(l.map (·.1)).Nodup->(locs l++frees l).Nodup
 |[],_=>List.nodup_nil
 |(z,k)::r,nd=>by
  rw[xBs,xCb] at nd;have ih:=iJ nd.2;have h1:z∉locs r:=λh=>nd.1 (xA2.mpr ⟨_,iP.mp h,rfl⟩);have h2:z∉frees r:=λh=>nd.1 (xA2.mpr ⟨_,dq.mp h,rfl⟩);cases k <;> try exact ih
  ·show(z::(locs r++frees r)).Nodup;exact xCb.mpr ⟨λh=>(xAj.mp h).elim h1 h2,ih⟩
  ·show(locs r++(frees r++[z])).Nodup;rw[<- xAx];refine xBq.mpr ⟨ih,by simp,λa ha b hb=>?_⟩;rw[xAm.mp hb];rintro rfl
   exact(xAj.mp ha).elim h1 h2
theorem p8(k:Cok P w base B lv c X)(hc:c.inC=false){scope:Scope}{cl:List (Str×Addr)}(hcl:∀q∈cl,X.env.cells.lookup q.1=some q.2)(hsc:∀y,(y,NameKind.free)∈scope.names->scope.names.lookup y=some .free) :
  ∀{fs:List Str}{cs:List Nat},(∀y∈fs,(y,NameKind.free)∈scope.names/\∃a,cl.lookup y=some a)->capIx c fs=some cs->Paired (CapOne X scope cl) fs cs
 |[],cs,_,h=>by cases h;exact .nil
 |y::fs,cs,hf,h=>by
  unfold capIx at h;split at h <;> try (cases h;done)
  next e=>
   obtain⟨i,is,h1,h2,rfl⟩:=cR h;obtain⟨h3,a,h4⟩:=hf y xAr;obtain⟨_,h5⟩:=gU h1;exact .cons ⟨⟨a,h4,hcl _ (cN h4)⟩,by rw[k.N];simpa using h5,(k.cap hc e).1,hsc y h3⟩ (p8 k hc hcl hsc (λz hz=>hf z (xAs _ hz)) h2)
theorem jd:∀{fs:List Str}{cs:List Nat},capIx c fs=some cs->∀y∈fs,getF y c.sc=some .cell
 |[],cs,_,y,hy=>nomatch hy
 |z::fs,cs,h,y,hy=>by
  unfold capIx at h;split at h <;> try (cases h;done)
  next e=>
   obtain⟨i,is,h1,h2,rfl⟩:=cR h;rcases xAv.mp hy with rfl|hy
   ·exact e
   ·exact jd h2 y hy
noncomputable def cty(c:Ct)(sc:Scope):Ct:={c with N:=locs sc.names++frees sc.names,sc:=sc.names,inC:=true}
theorem Fc.re{sc:Scope}(F:Fc P w base B up G lv c):Fc P w base B up G lv (cty c sc):=⟨F.g,F.fn,F.cl,F.ms,F.con,F.bl,F.k1,F.k2,F.k3,F.k4,F.clf,F.clt,F.kdf⟩
theorem passF{X:Cx}:PassS (CXz X.prog X.w) X (λ_ _ _ _=>False):=λZ σ H s ev s' I z=>z.elim
theorem ko{sc:Scope}(h:okSc sc=true):sc.kind=.function/\(sc.names.map (·.1)).Nodup/\∀y k,(y,k)∈sc.names->k=.local\/k=.free\/k=.globalImplicit:=by
 simp only[okSc,xCh,xCx] at h;refine⟨xBe h.1.1,dn h.2,λy k hm=>?_⟩;have:=h.1.2 _ hm;cases k <;> simp_all
theorem p0{sc:Scope}{cl:List (Str×Addr)}{C:Addr}{s:Shared}{fp:List Addr}(k:Cok P w base B lv c X)(h:okSc sc=true):Cok P w base B lv (cty c sc) (cxComp X (locs sc.names++frees sc.names) sc cl C s H fp):=by
 obtain⟨h1,h2,h3⟩:=ko h;refine⟨k.hP,k.hw,k.hK,k.hM,k.hb,rfl,iJ h2,λ{x} hx=>?_,λ{x} hx=>?_,λ{x} hx=>lookup_relabel_local (by rw[<- cb];exact hx),λ{x} hx=>?_,k.calm,k.hr,nofun,nofun⟩
 ·unfold isV at hx;rw[cb] at hx;split at hx <;> try (cases hx;done)
  ·next e=>exact .inl (lookup_relabel_local e)
  ·next e=>rcases h3 _ _ (cN e) with z|z|z <;> cases z
  ·next e=>exact .inr (cU e)
 ·unfold isL at hx;rw[cb] at hx;split at hx <;> try (cases hx;done)
  ·next e=>exact⟨.inl (lookup_relabel_local e),.inr (lookup_relabel_local e)⟩
  ·next e=>rcases h3 _ _ (cN e) with z|z|z <;> cases z
 ·unfold isG at hx;rw[xCh,cb] at hx;have h4:=hx.1;split at h4
  ·next e=>exact cS e
  ·cases h4
theorem sT{sc:Scope}{cs:List Nat}(k:Cok P w base B lv c X)(hc:c.inC=false)(h:okSc sc=true)(hcs:capIx c (frees sc.names)=some cs):∃cl,CapsG X sc cl (locs sc.names) (frees sc.names) cs:=by
 obtain⟨h1,h2,h3⟩:=ko h;obtain⟨cl,e1,e2,e3⟩:=jM (scope:=sc) (env:=X.env) λy hy=>(k.cap hc (jd hcs y (dq.mpr hy))).2;have hl:∀y∈frees sc.names,∃a,cl.lookup y=some a:=λy hy=>by
  rw[<- e2] at hy;obtain⟨q,hq,rfl⟩:=xA2.mp hy;clear e1 e2 e3 hy;induction cl with
  |nil=>cases hq
  |cons p r ih=>
   rw[List.lookup_cons];by_cases e:q.1==p.1
   ·rw[e];exact⟨_,rfl⟩
   ·rw[Bool.eq_false_iff.mpr e];rcases xAv.mp hq with rfl|hq
    ·simp at e
    ·exact ih hq
 exact⟨cl,CapsG.mk' e1 (λy hy e=>by rcases h3 y.1 y.2 hy with z|z|z <;> rw[e] at z <;> cases z) h1 (λy hy e=>gQ h2 (by rw[<- e];exact hy)) (p8 k hc e3 (λy hy=>gQ h2 hy) (λy hy=>⟨dq.mp hy,hl y hy⟩) hcs) (λy hy e=>dq.mpr (by rw[<- e];exact hy)) e2⟩
end
section
variable{B:Bs}{up:List (Str×Str)}{G:Gx Prop}{Ex:St->XK}{a b d:TEx Prop}{X:Cx}{e ea eb ec:Expr}{pos p1:Pos}{j:Nat}(g:MonG up G)
theorem kO{f:Int->Int->Bool}{z:U}(h:i2 (λi j=>.bl (f i j)) S vs=.ok z S'):∃c,z=.bl c:=by
 obtain⟨i,j,_,rfl,_⟩:=kN h;exact⟨_,rfl⟩
theorem wl{f:Bool->Bool}{w:U}{z:U}(h:Fx.eqU f v w S=.ok z S'):∃c,z=.bl c:=by
 unfold Fx.eqU at h;split at h
 ·cases h;exact⟨_,rfl⟩
 ·split at h
  ·cases h;exact⟨_,rfl⟩
  ·cases h
theorem vC{w:U}{z:U}(h:Fx.neU v w S=.ok z S'):∃c,z=.bl c:=by
 unfold Fx.neU at h;split at h
 ·cases h;exact⟨_,rfl⟩
 ·split at h
  ·cases h;exact⟨_,rfl⟩
  ·split at h
   ·cases h;exact⟨_,rfl⟩
   ·cases h
theorem oX{f:Bool->Bool}{o:Option Bool}{z:U}(h:obB o f S=.ok z S'):∃c,z=.bl c:=by
 unfold obB at h;split at h
 ·cases h;exact⟨_,rfl⟩
 ·cases h
theorem unmarked(h:noSetD eb=true):behindInMarks op eb=false:=by cases eb <;> first|rfl|cases h
include g
theorem wA(hK:X.K=B.K)(hu:X.A.units+100<cLine)(h:cmpOf op=some p)(hs:noSetD eb=true)(ha:FE X B G Ex ea a)(hb:FE X B G Ex eb b) :
  FT X B G Ex (.Compare ea [op] [eb] pos) (tB (cP p (lst2 a b)))/\FE X B G Ex (.Compare ea [op] [eb] pos) (cB (tB (cP p (lst2 a b)))):=by
 have fin:∀{r:R2},OpR X (compareOp op) r->Pr2 B up p r->(∀v w S z S',pr up p [v,w] S=.ok z S'->∃c,z=.bl c)->FT X B G Ex (.Compare ea [op] [eb] pos) (tB (cP p (lst2 a b)))/\FE X B G Ex (.Compare ea [op] [eb] pos) (cB (tB (cP p (lst2 a b)))):=λho hp hv=>
  ⟨yw g ho hp hv ha hb (unmarked hs),sw g (we g ho hp ha hb (unmarked hs))⟩
 have hu1:X.A.units+1<cLine:=by lia
 cases op <;> cases h
 ·exact fin (y8 hu) y4 λ_ _ _ _ _=>wl
 ·exact fin (y6 hu) yY λ_ _ _ _ _=>vC
 ·exact fin tG xI λ_ _ _ _ _=>kO
 ·exact fin tH xK λ_ _ _ _ _=>kO
 ·exact fin tI xL λ_ _ _ _ _=>kO
 ·exact fin tJ xM λ_ _ _ _ _=>kO
 ·exact fin (y7 hu1) (by rw[hK];exact y3) λ_ _ _ _ _=>oX
 ·exact fin (xU hu1) (by rw[hK];exact xC) λ_ _ _ _ _=>oX
omit g in
theorem nN{f:Int->Int->V}{x y:V}{Q Q':VK}(h:∀v H,Q v H->Q' v H)(q:rI0 f x y H Q):rI0 f x y H Q':=by
 obtain⟨i,j,e1,e2,q⟩:=q;exact⟨i,j,e1,e2,h _ _ q⟩
omit g in
theorem oR(h:ordOf op=some p):∃f,OpR X (compareOp op) (rI0 f)/\Pr2 B up p (rI0 f):=by
 cases op <;> cases h
 ·exact⟨_,tG,xI⟩
 ·exact⟨_,tH,xK⟩
 ·exact⟨_,tI,xL⟩
 ·exact⟨_,tJ,xM⟩
theorem yI{op':CmpOp}{q:Pm}(h:ordOf op=some p)(h':ordOf op'=some q)(hs:noSetD ec=true)(ha:FE X B G Ex ea a)(hb:FE X B G Ex eb b)(hc:FE X B G Ex ec d) :
  FT X B G Ex (.Compare ea [op,op'] [eb,ec] pos) (tCh p q a b d)/\FE X B G Ex (.Compare ea [op,op'] [eb,ec] pos) (cB (tCh p q a b d)):=by
 obtain⟨f,o1,q1⟩:=oR (X:=X) (B:=B) (up:=up) h;obtain⟨f',o2,q2⟩:=oR (X:=X) (B:=B) (up:=up) h';have hm:lastMarks [op,op'] [eb,ec]=false:=unmarked (op:=op') hs;exact⟨zo g o1 o2 q1 q2 ha hb hc hm,yx g o1 o2 q1 q2 ha hb hc hm (λ_ _ _ _ h=>h) nN nN⟩
theorem iT{f:Bool->Bool}(hp:∀v S,pr up p [v] S=.ok (.bl (f (match v with|.non=>true|_=>false))) S)(ho:OpR X (compareOp op) (λx y H Q=>y=.non/\Q (.bl (f (decide (x=.non)))) H))(hn:op≠.In)(hn2:op≠.NotIn)(ha:FE X B G Ex ea a) :
  FT X B G Ex (.Compare ea [op] [.Constant .none j p1] pos) (tB (cP p (aC a aN)))/\FE X B G Ex (.Compare ea [op] [.Constant .none j p1] pos) (cB (tB (cP p (aC a aN)))):=by
 have hm:behindInMarks op (.Constant .none j p1)=false:=rfl;have mm:=mP g (p:=p) (mAC g ha.m (mAN g));have one:∀{W:Wd}{v:U}{u:V},Rv B W v u->(match v with|.non=>true|_=>false)=decide (u=.non):=λ{W v u} r=>by
  cases v with
  |non=>rw[show u=.non from r];rfl
  |bl b=>rw[show u=.bl b from r];rfl
  |int i=>rw[show u=.int i from r];rfl
  |str i=>rw[show u=.str i from r];rfl
  |ty i=>rw[show u=.ty i from r];rfl
  |tup xs=>obtain⟨p,vs,rfl,_⟩:=r;rfl
  |lst xs=>obtain⟨p,vs,rfl,_⟩:=r;rfl
  |kt xs=>obtain⟨p,vs,rfl,_⟩:=r;rfl
  |kl xs=>obtain⟨p,vs,rfl,_⟩:=r;rfl
  |kd kvs no=>obtain⟨p,rfl,_⟩:=r;rfl
  |ref a=>obtain⟨p,rfl,_⟩:=r;rfl
  |gl x=>obtain⟨p,rfl,_⟩:=r;rfl
 have core:∀{τ:St}{H:Hp}{Q:VK},LE B G Ex (cP p (aC a aN)) τ H Q->LE B G Ex a τ H (λx H1=>Q (.bl (f (decide (x=.non)))) H1):=λh=>(LE.p1 g ha.m h).imp ha.m λu H1 zz=>by
  obtain⟨W,S,v,z,S',rs,r1,e,q⟩:=zz;rw[hp] at e;cases e;rw[<- one r1];exact q.here rs rfl
 have hE:FE X B G Ex (.Compare ea [op] [.Constant .none j p1] pos) (cP p (aC a aN)):=⟨wkE (km ho ha.p ju hm) λτ H Q h=>(core h).imp ha.m λu H1 q=>⟨rfl,q⟩,mm⟩
 refine⟨⟨wkT (j8 ho ha.p ju hm) λτ H Q h=>?_,mB g mm⟩,sw g hE⟩;have h':LE B G Ex (cP p (aC a aN)) τ H (λx H'=>∃k,x=.bl k/\Q k H'):=by
  obtain⟨W,σ,S,rs,rg,h⟩:=h;refine LE.go mm rs rg h λv S' W' u H' le rs' rv rg' h'=>?_;cases v <;> first|(exact(g.no h').elim)|exact⟨_,rv,h' W' H' le rs'⟩
 exact(core h').imp ha.m λu H1 q=>⟨rfl,q⟩
end
section
variable{P:Program}{w:World}{base:Heap}{B:Bs}{up:List (Str×Str)}{G:Gx Prop}{lv:Nat}{c:Ct}{X:Cx}{Ex:St->XK}{a b:TEx Prop}{ea eb:Expr}{p1 pos:Pos}{x:Str}{m:Bool}{p:Pm}
theorem qc(F:Fc P w base B up G lv c)(k:Cok P w base B lv c X)(h:blt1 m x=some p)(hb:isB c x=true)(hst:noStar ea=true)(ha:FE X B G Ex ea a):FE X B G Ex (.Call (.Name x p1) [ea] [] pos) (cP p (aC a aN)):=by
 have g:=F.g;obtain⟨h1,h2⟩:=dA hb;obtain⟨n1,_,n2⟩:=dy (dH h1);have hg:=k.gl h1;have hm:X.mg x=none:=by rw[k.hM];exact F.bl h2
 have fa:FA X B G Ex [ea] (aC a aN):=eZ g ha (gY g) hst;have hs:[ea].all noStar=true:=by rw[xCj,hst];rfl
 have hK:=k.hK;unfold blt1 at h;split at h
 ·next e=>subst e;cases h;exact mz g xf (by rw[hK];exact xJ) hg hm (by decide +kernel) fa hs n2 n1
 split at h
 ·next e=>subst e;cases h;exact mz g wn xA hg hm (by decide +kernel) fa hs n2 n1
 split at h
 ·next e=>subst e;cases h;exact mz g qb xR hg hm (by decide +kernel) fa hs n2 n1
 split at h
 ·next e=>subst e;cases h;exact sx g sH vk hg hm (by decide +kernel) fa hs n2 n1
 split at h
 ·next e=>subst e;cases h;exact sx g pV (by rw[hK];exact rK) hg hm (by decide +kernel) fa hs n2 n1
 split at h
 ·next e=>subst e;cases h;exact sx g sC (by rw[hK];exact rL) hg hm (by decide +kernel) fa hs n2 n1
 split at h
 ·next e=>subst e;cases h;exact sx g pX rM hg hm (by decide +kernel) fa hs n2 n1
 split at h
 ·next e=>subst e;cases h;exact mz g (wu k.calm) (by rw[hK];exact xP) hg hm (by decide +kernel) fa hs n2 n1
 ·cases h
theorem wE(F:Fc P w base B up G lv c)(k:Cok P w base B lv c X)(h:blt2 x=some p)(hb:isB c x=true)(hst:noStar ea=true)(hst2:noStar eb=true)(ha:FE X B G Ex ea a)(hb':FE X B G Ex eb b):FE X B G Ex (.Call (.Name x p1) [ea,eb] [] pos) (cP p (lst2 a b)):=by
 have g:=F.g;obtain⟨h1,h2⟩:=dA hb;obtain⟨n1,_,n2⟩:=dy (dH h1);have hg:=k.gl h1;have hm:X.mg x=none:=by rw[k.hM];exact F.bl h2
 have fa:FA X B G Ex [ea,eb] (lst2 a b):=eZ g ha (eZ g hb' (gY g) hst2) hst;have hs:[ea,eb].all noStar=true:=by rw[xCj,xCj,hst,hst2];rfl
 unfold blt2 at h;split at h
 ·next e=>subst e;cases h;exact mz g (mJ k.calm) xH hg hm (by decide +kernel) fa hs n2 n1
 ·split at h
  ·next e=>subst e;cases h;exact mz g (mH k.calm) xG hg hm (by decide +kernel) fa hs n2 n1
  ·cases h
theorem vR(F:KdF w B):Pr2 B up .ix (rIxA w B.K):=yZ λ{W q kvs no x v H Q} hd hy q=>by
 obtain⟨u,val,e1,e2,e3⟩:=F.y hd hy;exact .inr ⟨_,_,u,val,rfl,F.d hd,rfl,e1,e2,q u (e3 W)⟩
theorem dflt0{np n:Nat}{ds:List U}(h:dflt np n []=some ds):ds=[]/\n=np:=by
 unfold dflt at h;split at h
 ·next e=>cases h;exact⟨by simp,by have:=e.1;have:=e.2;simp at this;lia⟩
 ·cases h
end
structure Snd(P:Program)(w:World)(base:Heap)(B:Bs)(up:List (Str×Str))(G:Gx Prop)(lv n:Nat):Prop where
 E:∀{c X Ex m e t},Fc P w base B up G lv c->Cok P w base B lv c X->PassS (CXz X.prog X.w) X Ex->cpE c n m e=some t->FE X B G Ex e t
 C:∀{c X Ex m f as pos t},Fc P w base B up G lv c->Cok P w base B lv c X->PassS (CXz X.prog X.w) X Ex->as.all noStar=true->cpC c n m f as pos=some t->FE X B G Ex (.Call f as [] pos) t
 M:∀{c X Ex o a as apos pos t},Fc P w base B up G lv c->Cok P w base B lv c X->PassS (CXz X.prog X.w) X Ex->as.all noStar=true->(apos.endLine==pos.line)=true->cpM c n o a as=some t->FE X B G Ex (.Call (.Attribute o a apos) as [] pos) t
 A:∀{c X Ex m es t},Fc P w base B up G lv c->Cok P w base B lv c X->PassS (CXz X.prog X.w) X Ex->cpA c n m es=some t->FA X B G Ex es t/\(es=[]->t=aN)/\es.all noStar=true
 D:∀{c X Ex m es t ks kk pos},Fc P w base B up G lv c->Cok P w base B lv c X->PassS (CXz X.prog X.w) X Ex->cpA c n m es=some t->keysOf ks=some kk->kk.length=es.length->FP X B G Ex pos ks kk es t
 T:∀{c X Ex vl e t},Fc P w base B up G lv c->Cok P w base B lv c X->PassS (CXz X.prog X.w) X Ex->cpT c n vl e=some t->FT X B G Ex e t/\(vl=true->FE X B G Ex e (cB t))/\∀op vs p,e=Expr.BoolOp op vs p->FW X B G Ex e t
 I:∀{c X Ex one tg e t},Fc P w base B up G lv c->Cok P w base B lv c X->PassS (CXz X.prog X.w) X Ex->(one=false->∃ts k p,tg=Expr.Tuple ts k p)->cpI c n one e=some t->FI X B G Ex tg e t
section
variable{P:Program}{w:World}{base:Heap}{B:Bs}{up:List (Str×Str)}{G:Gx Prop}{lv n:Nat}{c:Ct}{X:Cx}{Ex:St->XK}
theorem noneS{t:α}{p:Prop}(h:(none:Option α)=some t):p:=by cases h
theorem snd0:Snd P w base B up G lv 0:=
 ⟨λ_ _ _ h=>noneS h,λ_ _ _ _ h=>noneS h,λ_ _ _ _ _ h=>noneS h,λ_ _ _ h=>noneS h,λ_ _ _ h _ _=>noneS h,λ_ _ _ h=>noneS h,λ_ _ _ _ h=>noneS h⟩
theorem zw{m:List Bool}{es:List Expr}{t:TAx Prop}(s:Snd P w base B up G lv n)(F:Fc P w base B up G lv c)(k:Cok P w base B lv c X)(hx:PassS (CXz X.prog X.w) X Ex)(h:cpA c (n+1) m es=some t):FA X B G Ex es t/\(es=[]->t=aN)/\es.all noStar=true:=by
 cases es with
 |nil=>cases h;exact⟨gY F.g,λ_=>rfl,rfl⟩
 |cons e r=>
  obtain⟨h1,h2⟩:=cJ (show gd (noStar e) (o2 aC (cpE c n (m.headD false) e) (cpA c n m.tail r))=_ from h);obtain⟨x,y,h3,h4,rfl⟩:=cR h2;obtain⟨q1,_,q3⟩:=s.A F k hx h4;exact⟨eZ F.g (s.E F k hx h3) q1 h1,nofun,by rw[xCj,h1,q3];rfl⟩
theorem pj{a:Option Expr}{r:List (Option Expr)}(h:keysOf (a::r)=some kk):∃z j p kk',a=some (.Constant (.str z) j p)/\keysOf r=some kk'/\kk=z::kk':=by
 obtain⟨x,ks,h1,h2,rfl⟩:=cR h;obtain⟨e,rfl,h3⟩:=xCi.mp h1;unfold conT at h3;split at h3
 ·obtain⟨y,h4,rfl⟩:=cA h3;unfold conS at h4;split at h4
  ·cases h4;exact⟨_,_,_,ks,rfl,h2,rfl⟩
  ·cases h4
 ·cases h3
theorem gR:∀{ks:List (Option Expr)}{kk:List Str},keysOf ks=some kk->ks.length=kk.length/\ks.all (·.isSome)=true
 |[],kk,h=>by cases h;exact⟨rfl,rfl⟩
 |a::r,kk,h=>by
  obtain⟨z,j,p,kk',rfl,hq,rfl⟩:=pj h;obtain⟨h1,h2⟩:=gR hq;exact⟨by simp[h1],by rw[xCj,h2];rfl⟩
theorem zq{m:List Bool}{es:List Expr}{t:TAx Prop}{ks:List (Option Expr)}(s:Snd P w base B up G lv n)(F:Fc P w base B up G lv c)(k:Cok P w base B lv c X)(hx:PassS (CXz X.prog X.w) X Ex)(h:cpA c (n+1) m es=some t)(hk:keysOf ks=some kk)(hl:kk.length=es.length):FP X B G Ex pos ks kk es t:=by
 cases es with
 |nil=>
  cases h;cases kk with
  |cons _ _=>cases hl
  |nil=>
   have:=(gR hk).1;cases ks with
   |nil=>exact ze F.g
   |cons a r=>simp at this
 |cons e r=>
  obtain⟨h1,h2⟩:=cJ (show gd (noStar e) (o2 aC (cpE c n (m.headD false) e) (cpA c n m.tail r))=_ from h);obtain⟨x,y,h3,h4,rfl⟩:=cR h2;cases ks with
  |nil=>cases hk;cases hl
  |cons a ks'=>
   obtain⟨z,j,p,kk',rfl,hq,rfl⟩:=pj hk;exact zf F.g (s.E F k hx h3) (s.D F k hx h4 hq (by simpa using hl))
end
section
variable{P:Program}{w:World}{base:Heap}{B:Bs}{up:List (Str×Str)}{G:Gx Prop}{lv n:Nat}{c:Ct}{X:Cx}{Ex:St->XK}
theorem y9{o:Expr}{a:Str}{t:TEx Prop}(s:Snd P w base B up G lv n)(F:Fc P w base B up G lv c)(k:Cok P w base B lv c X)(hx:PassS (CXz X.prog X.w) X Ex)(hst:as.all noStar=true)(hl:(apos.endLine==pos.line)=true)(h:cpM c (n+1) o a as=some t):FE X B G Ex (.Call (.Attribute o a apos) as [] pos) t:=by
 have g:=F.g;change eM (cps n) _ _ _ _=_ at h;unfold eM at h;obtain⟨hn,h⟩:=cJ h;split at h
 ·next e=>
  rw[xCj,xCh] at hst;split at h
  ·next ea=>
   subst ea;obtain⟨z,v,h3,h4,rfl⟩:=cR h;exact kW g k.hK PySem.F.plainAttrs_list PySem.F.slot_list_append PySem.F.type_list_append gc xO (.inl rfl) (s.E F k hx h3) (s.E F k hx h4) hn hst.1 hl
  split at h
  ·next ea=>
   subst ea;obtain⟨z,v,h3,h4,rfl⟩:=cR h;exact kW g k.hK PySem.F.plainAttrs_list PySem.F.slot_list_extend PySem.F.type_list_extend l9 xN (.inl rfl) (s.E F k hx h3) (s.E F k hx h4) hn hst.1 hl
  split at h
  ·next ea=>
   subst ea;obtain⟨z,v,h3,h4,rfl⟩:=cR h;exact kW g k.hK PySem.F.plainAttrs_dict PySem.F.slot_dict_update PySem.F.type_dict_update l8 xy (.inr (.inr rfl)) (s.E F k hx h3) (s.E F k hx h4) hn hst.1 hl
  split at h
  ·next ea=>
   subst ea;obtain⟨z,v,h3,h4,rfl⟩:=cR h;exact kW g k.hK PySem.F.plainAttrs_str PySem.F.slot_str_join PySem.F.type_str_join rX (by rw[k.hK];exact vj) (.inr (.inl rfl)) (s.E F k hx h3) (s.E F k hx h4) hn hst.1 hl
  ·cases h
 ·cases h
theorem yP{vl:Bool}{t:TTx Prop}(s:Snd P w base B up G lv n)(F:Fc P w base B up G lv c)(k:Cok P w base B lv c X)(hx:PassS (CXz X.prog X.w) X Ex)(h:cpT c (n+1) vl e=some t):FT X B G Ex e t/\(vl=true->FE X B G Ex e (cB t))/\∀op vs p,e=Expr.BoolOp op vs p->FW X B G Ex e t:=by
 have g:=F.g;have hu:X.A.units+100<cLine:=by have:=k.hr.un;lia
 change eT (cps n) _ _ _=_ at h;unfold eT at h;cases e <;> dsimp only at h <;> try (cases h;done)
 case UnaryOp op a p=>
  cases op <;> dsimp only at h <;> try (cases h;done)
  obtain⟨x,h1,rfl⟩:=cA h;obtain⟨q1,q2,_⟩:=s.T F k hx h1;exact⟨zg g q1,λv=>pL g (q2 v) q1.m,nofun⟩
 case BoolOp op vs p=>
  match vs,h with
  |[],h=>cases h
  |[a],h=>
   obtain⟨q1,q2,_⟩:=s.T F k hx h;cases op with
   |And=>exact⟨(tY q1).ft,λv=>uc (q2 v),λ_ _ _ _=>tY q1⟩
   |Or=>exact⟨(tX q1).ft,λv=>uc (q2 v),λ_ _ _ _=>tX q1⟩
  |a::b::r,h=>
   cases op with
   |And=>
    obtain⟨x,y,h1,h2,rfl⟩:=cR h;obtain⟨q1,q2,_⟩:=s.T F k hx h1;obtain⟨q3,q4,q5⟩:=s.T F k hx h2;exact⟨(ym g q1 (q5 _ _ _ rfl)).ft,λv=>wj g (q2 v) q1.m (q4 v) q3.m,λ_ _ _ _=>ym g q1 (q5 _ _ _ rfl)⟩
   |Or=>
    obtain⟨x,y,h1,h2,rfl⟩:=cR h;obtain⟨q1,q2,_⟩:=s.T F k hx h1;obtain⟨q3,q4,q5⟩:=s.T F k hx h2;exact⟨(yl g q1 (q5 _ _ _ rfl)).ft,λv=>yq g (q2 v) q1.m (q4 v) q3.m,λ_ _ _ _=>yl g q1 (q5 _ _ _ rfl)⟩
 case Compare a ops bs p=>
  match ops,bs,h with
  |[],_,h=>cases h
  |[op],[],h=>cases h
  |[op],[b],h=>
   dsimp only at h;split at h
   ·next j q=>
    obtain⟨x,h1,rfl⟩:=cA h;obtain⟨q1,q2⟩:=iT g (p:=.isN) (f:=id) (j:=j) (p1:=q) (pos:=p) (λv S=>by cases v <;> rfl) vn nofun nofun (s.E F k hx h1);exact⟨q1,λ_=>q2,nofun⟩
   ·next j q=>
    obtain⟨x,h1,rfl⟩:=cA h;obtain⟨q1,q2⟩:=iT g (p:=.notN) (f:=not) (j:=j) (p1:=q) (pos:=p) (λv S=>by cases v <;> rfl) rN nofun nofun (s.E F k hx h1);exact⟨q1,λ_=>q2,nofun⟩
   ·obtain⟨h1,h2⟩:=cJ h;obtain⟨pm,x,y,h3,h4,h5,rfl⟩:=iE h2;obtain⟨q1,q2⟩:=wA g (pos:=p) k.hK hu h3 h1 (s.E F k hx h4) (s.E F k hx h5);exact⟨q1,λ_=>q2,nofun⟩
  |[op],_::_::_,h=>cases h
  |[p1,p2],[b,d],h=>
   dsimp only at h;obtain⟨h1,h2⟩:=cJ h;rw[xCh] at h1;split at h2
   ·next pm qm e1 e2=>
    obtain⟨x,y,z,h3,h4,h5,rfl⟩:=iE h2;obtain⟨q1,q2⟩:=yI g (pos:=p) e1 e2 h1.2 (s.E F k hx h3) (s.E F k hx h4) (s.E F k hx h5);exact⟨q1,λ_=>q2,nofun⟩
   ·cases h2
  |[_,_],[],h=>cases h
  |[_,_],[_],h=>cases h
  |[_,_],_::_::_::_,h=>cases h
  |_::_::_::_,_,h=>cases h
 case Call f as kws p=>
  obtain⟨x,h1,rfl⟩:=cA h;have q:=s.E F k hx h1;exact⟨tZ g q λ_=>rfl,λ_=>sw g q,nofun⟩
 case Attribute o f p=>
  obtain⟨h1,h2⟩:=cJ h;obtain⟨x,h3,rfl⟩:=cA h2;exact⟨ua g k.hK (s.E F k hx h3) λ_=>rfl,λz=>(by subst z;cases h1),nofun⟩
 case Name x p=>
  cases vl with
  |true=>
   obtain⟨x,h1,rfl⟩:=cA h;have q:=s.E F k hx h1;exact⟨tZ g q λ_=>rfl,λ_=>sw g q,nofun⟩
  |false=>
   obtain⟨x,h3,rfl⟩:=cA h;exact⟨ua g k.hK (s.E F k hx h3) λ_=>rfl,λz=>(nomatch z),nofun⟩
end
section
variable{P:Program}{w:World}{base:Heap}{B:Bs}{up:List (Str×Str)}{G:Gx Prop}{lv n:Nat}{c:Ct}{X:Cx}{Ex:St->XK}
theorem yh{ks:List Keyword}(h:ks2 ks=true):∃j np kp,ks=[⟨some "start",.Constant (.int 2) j np,kp⟩]:=by
 unfold ks2 at h;split at h
 ·cases xBe h;exact⟨_,_,_,rfl⟩
 ·cases h
theorem zc{one:Bool}{t:TEx Prop}(s:Snd P w base B up G lv n)(F:Fc P w base B up G lv c)(k:Cok P w base B lv c X)(hx:PassS (CXz X.prog X.w) X Ex)(ht:one=false->∃ts k p,tg=Expr.Tuple ts k p)(h:cpI c (n+1) one e=some t):FI X B G Ex tg e t:=by
 have g:=F.g;have bl:∀{x y:Str},(isB c x&&decide (x=y))=true->x=y/\Gl X y/\X.mg y=none:=λ{x y} h=>by
  rw[xCh] at h;cases xBe h.2;obtain⟨h1,h2⟩:=dA h.1;exact⟨rfl,k.gl h1,by rw[k.hM];exact F.bl h2⟩
 change eI (cps n) _ _ _=_ at h;unfold eI at h;split at h
 ·next x p as q=>
  split at h
  ·next hb=>
   obtain⟨rfl,hg,hm⟩:=bl hb;split at h
   ·obtain⟨h1,h2⟩:=cJ h;obtain⟨z,h3,rfl⟩:=cA h2;exact v4 g hg hm (s.E F k hx h3) h1
   ·cases h
  split at h
  ·next hb=>
   obtain⟨rfl,hg,hm⟩:=bl hb;split at h
   ·obtain⟨h1,h2⟩:=cJ h;rw[xCh,xCh] at h1;obtain⟨z,v,h3,h4,rfl⟩:=cR h2;obtain⟨ts,kk,pp,rfl⟩:=ht (by simpa using h1.1.1);exact yk g k.hK hg hm (s.E F k hx h3) (s.E F k hx h4) h1.1.2 h1.2
   ·cases h
  ·obtain⟨z,h3,rfl⟩:=cA h;exact ub g k.hK (s.E F k hx h3)
 ·split at h
  ·next hk=>
   obtain⟨h1,h2⟩:=cJ h;rw[xCh,xCh] at h1;obtain⟨z,h3,rfl⟩:=cA h2;obtain⟨rfl,hg,hm⟩:=bl h1.1.1;obtain⟨ts,kk,pp,rfl⟩:=ht (by simpa using h1.1.2);obtain⟨j,np,kp,rfl⟩:=yh hk;exact wc g k.hK hg hm (s.E F k hx h3) h1.2
  ·cases h
 ·obtain⟨z,h3,rfl⟩:=cA h;exact ub g k.hK (s.E F k hx h3)
theorem nj(h:tg1 tg=false):∃ts k p,tg=Expr.Tuple ts k p:=by
 cases tg <;> first|exact⟨_,_,_,rfl⟩|cases h
theorem tN{m:Bool}{elt:Expr}{gens:List Comprehension}{sc:Scope}{p:Pos}{t:TEx Prop}(s:Snd P w base B up G lv n)(F:Fc P w base B up G lv c)(k:Cok P w base B lv c X)(hx:PassS (CXz X.prog X.w) X Ex)(h:eE (cps n) c m (.ListComp elt gens sc p)=some t):FE X B G Ex (.ListComp elt gens sc p) t/\∀{i:Nat}{y:Str}{py spos:Pos},X.N.Nodup->X.N[i]?=some y->X.env.scope.names.lookup y=some .local->swapsWith (.ListComp elt gens sc p) (some (.Name y py)) spos.line X.env=pure true->FS X B G Ex (.Assign [.Name y py] (.ListComp elt gens sc p) spos) (sA i t):=by
 have g:=F.g;unfold eE at h;dsimp only at h
 replace h:=cA h
 obtain⟨t0,h,rfl⟩:=h;split at h
 ·next tg it ifs=>
  split at h
  ·next cs is one ti te e1 e2 e3 e4=>
   obtain⟨hg,h2⟩:=cJ h;simp only[xCh,Bool.not_eq_true'] at hg;obtain⟨⟨⟨hc,hok⟩,hns⟩,his⟩:=hg;obtain⟨cl,cp⟩:=sT k hc hok e1;have ck:∀C s' H fp,Cok P w base B lv (cty c sc) (cxComp X (locs sc.names++frees sc.names) sc cl C s' H fp):=λ_ _ _ _=>p0 k hok;have hE:∀C s' H fp,FE (cxComp X (locs sc.names++frees sc.names) sc cl C s' H fp) B G (λ_ _ _ _=>False) elt te:=λC s' H fp=>s.E F.re (ck C s' H fp) passF e4;have hT:=λC s' H fp=>tD (G:=G) (ck C s' H fp) e2;have h1:one=true->is.length=1:=(hT 0 X.s₀ X.H₀ []).2;have hi:∀kk∈is,kk<(locs sc.names).length:=λkk hk=>xCo (xCx.mp his kk hk);have hf:∀v,foldedSetIterable it X.env v=pure v:=λv=>by cases it <;> first|rfl|cases hns
   have hI:FI X B G Ex tg it ti:=s.I F k hx (λz=>nj z) e3;split at h2
   ·cases h2;exact zh g h1 hi k.calm cp hI (λC s' H fp=>(hT C s' H fp).1) hE (.inl ⟨rfl,rfl⟩) hf (hE 0 X.s₀ X.H₀ []).m
   ·cases h2
  ·cases h
 ·cases h
theorem zp{m:Bool}{t:TEx Prop}(s:Snd P w base B up G lv n)(F:Fc P w base B up G lv c)(k:Cok P w base B lv c X)(hx:PassS (CXz X.prog X.w) X Ex)(h:cpE c (n+1) m e=some t):FE X B G Ex e t:=by
 have g:=F.g;have hK:=k.hK;have hu:X.A.units+1<cLine:=by have:=k.hr.un;lia
 change eE (cps n) _ _ _=_ at h;unfold eE at h;cases e <;> dsimp only at h <;> try (cases h;done)
 case Name x p=>
  split at h
  ·next i hi=>
   cases h;obtain⟨a,b,d⟩:=ul k hi;obtain⟨d1,d2,_⟩:=dy d;exact f_v g a b d1 d2
  ·split at h
   ·next u hq=>
    cases h;obtain⟨q1,q2⟩:=gV hq;obtain⟨v,val,m1,r1,r2⟩:=F.con q2;exact f_c (gK (k.gl q1) (by rw[k.hM];exact m1) r1 (dy (dH q1)).1) r2
   ·cases h
 case Constant kk j p=>
  split at h <;> try (cases h;done)
  ·cases h;exact f_c vc λ_=>rfl
  ·cases h;exact f_c oy λ_=>rfl
  ·cases h;exact f_c xt λ_=>rfl
  ·cases h;exact f_c ju λ_=>rfl
 case BinOp a op b p=>
  obtain⟨pm,x,y,h1,h2,h3,rfl⟩:=iE h;have ha:=s.E F k hx h2;have hb:=s.E F k hx h3;cases op <;> cases h1
  ·exact my g xV (by rw[hK];exact xQ) ha hb
  ·exact my g vq xz ha hb
  ·exact my g rS xE ha hb
  ·exact my g vv xF ha hb
  ·exact my g vt xB ha hb
  ·exact my g oU vm ha hb
 case UnaryOp op a p=>
  cases op <;> dsimp only at h <;> try (cases h;done)
  ·obtain⟨x,h1,rfl⟩:=cA h;obtain⟨q1,q2,_⟩:=s.T F k hx h1;exact pL g (q2 rfl) q1.m
  ·obtain⟨x,h1,rfl⟩:=cA h;exact zd g um xD (s.E F k hx h1)
 case BoolOp op vs p=>
  obtain⟨x,h1,rfl⟩:=cA h;exact(s.T F k hx h1).2.1 rfl
 case Compare a ops bs p=>
  obtain⟨x,h1,rfl⟩:=cA h;exact(s.T F k hx h1).2.1 rfl
 case IfExp q a b p=>
  obtain⟨x,y,z,h1,h2,h3,rfl⟩:=iE h;exact zj g (s.T F k hx h1).1 (s.E F k hx h2) (s.E F k hx h3)
 case Tuple es kk p=>
  obtain⟨h1,h2⟩:=cJ h;obtain⟨x,h3,rfl⟩:=cA h2;exact yn g (s.A F k hx h3).1 (xCo h1)
 case List es p=>
  obtain⟨x,h3,rfl⟩:=cA h;exact yr g (s.A F k hx h3).1
 case Dict ks vs p=>
  split at h
  ·cases h;exact zm g
  ·next hne=>
   split at h
   ·next kk hk=>
    obtain⟨h1,h2⟩:=cJ h;obtain⟨x,h3,rfl⟩:=cA h2;rw[xCh,xCh] at h1;have hl:=Nat.eq_of_beq_eq_true h1.2;obtain⟨k1,k2⟩:=gR hk;refine yv g (s.D F k hx h3 hk hl) h1.1.1 hl (k1.trans hl) k2 (λz=>?_) (xCo h1.1.2);subst z;have:vs=[]:=by
     have:=k1.trans hl;exact List.eq_nil_of_length_eq_zero (by simpa using this.symm)
    exact hne rfl this
   ·cases h
 case Subscript a b p=>
  split at h
  ·split at h
   ·obtain⟨x,y,h1,h2,rfl⟩:=cR h;exact yo g hK (s.E F k hx h1) (s.E F k hx h2)
   ·obtain⟨x,y,h1,h2,rfl⟩:=cR h;exact yp g hK (s.E F k hx h1) (s.E F k hx h2)
   ·cases h
  ·obtain⟨h1,h2⟩:=cJ h;obtain⟨x,y,h3,h4,rfl⟩:=cR h2;exact zi g (yM hu) (by rw[hK,k.hw];exact vR F.kdf) (s.E F k hx h3) (s.E F k hx h4) (oa h1)
 case Attribute o f p=>
  obtain⟨h1,h2⟩:=cJ h;obtain⟨x,h3,rfl⟩:=cA h2;rw[xCh] at h1;obtain⟨y,hy,e⟩:=xCy.mp h1.2;cases xBe e;exact yu g hK F.clf hy (s.E F k hx h3) h1.1
 case Call f as kws p=>
  split at h
  ·obtain⟨h1,h2⟩:=cJ h;exact s.C F k hx h1 h2
  ·cases h
 case ListComp elt gens sc p=>exact(tN s F k hx (show eE (cps n) c m (.ListComp elt gens sc p)=some t from h)).1
theorem zt{m:Bool}{f:Expr}{t:TEx Prop}(s:Snd P w base B up G lv n)(F:Fc P w base B up G lv c)(k:Cok P w base B lv c X)(hx:PassS (CXz X.prog X.w) X Ex)(hst:as.all noStar=true)(h:cpC c (n+1) m f as pos=some t):FE X B G Ex (.Call f as [] pos) t:=by
 have g:=F.g;have hK:=k.hK;have hr:Room lv X.A:=k.hr.mono (Nat.le_succ _);change eC (cps n) _ _ _ _ _=_ at h;unfold eC at h;cases f <;> dsimp only at h <;> try (cases h;done)
 case Name x p=>
  split at h
  ·next i np df mp e=>
   obtain⟨q1,q2⟩:=gV e;obtain⟨a,d,h1,h2,rfl⟩:=cR h;obtain⟨f,fd,ps,m1,kp,FO,hd⟩:=F.fn q2;obtain⟨e1,dvs,dv,b1,b2,b3⟩:=hd h2;obtain⟨A1,A2,_⟩:=s.A F k hx h1;exact wg g (k.f FO) hr (k.gl q1) (by rw[k.hM];exact m1) (by rw[hK];exact kp) (by rw[hK];exact b1) b2 b3 hx (dy (dH q1)).1 A1 A2 e1 hst
  ·next i np df e=>
   obtain⟨q1,q2⟩:=gV e;obtain⟨_,h⟩:=cJ h;obtain⟨a,d,h1,h2,rfl⟩:=cR h;obtain⟨cc,f,fd,ps,c1,m1,mk,FO,hd,_,_⟩:=F.cl q2;obtain⟨e1,dvs,dv,b1,b2,b3⟩:=hd h2;obtain⟨A1,A2,_⟩:=s.A F k hx h1;exact v6 g c1 (by rw[hK];exact mk) (k.f FO) k.hr (k.gl q1) (by rw[k.hM];exact m1) (by rw[hK];exact b1) b2 b3 (dy (dH q1)).1 A1 A2 e1 hst
  ·cases h
  ·obtain⟨hb,h⟩:=cJ h;split at h
   ·next a=>
    rw[xCj,xCh] at hst;split at h
    ·next y _ b _=>
     split at h
     ·next e1 e2=>
      cases xBe e1;cases xBe e2;obtain⟨h1,h2⟩:=cJ h;rw[xCh] at h1;obtain⟨z,h3,rfl⟩:=cA h2;obtain⟨a1,a2⟩:=dA hb;obtain⟨b1,b2⟩:=dA h1.1;exact pM g k.calm (k.gl a1) (by rw[k.hM];exact F.bl a2) (k.gl b1) (by rw[k.hM];exact F.bl b2) (s.E F k hx h3) h1.2
     ·split at h
      ·next e1 e2=>
       cases xBe e1;cases xBe e2;obtain⟨h1,h2⟩:=cJ h;rw[xCh,xCh] at h1;obtain⟨z,h3,rfl⟩:=cA h2;obtain⟨a1,a2⟩:=dA hb;obtain⟨b1,b2⟩:=dA h1.1.1;exact v7 g k.calm (k.gl a1) (by rw[k.hM];exact F.bl a2) (k.gl b1) (by rw[k.hM];exact F.bl b2) (s.E F k hx h3) h1.1.2
      ·obtain⟨pm,z,h1,h2,rfl⟩:=cR h;exact qc F k h1 hb hst.1 (s.E F k hx h2)
    ·obtain⟨pm,z,h1,h2,rfl⟩:=cR h;exact qc F k h1 hb hst.1 (s.E F k hx h2)
   ·next a b=>
    rw[xCj,xCh,xCj,xCh] at hst;split at h
    ·next e1=>
     cases xBe e1;obtain⟨a1,a2⟩:=dA hb;have z1:X.mg "isinstance"=none:=by rw[k.hM];exact F.bl a2
     split at h
     ·next y py=>
      split at h
      ·next ty et=>
       obtain⟨h1,h2⟩:=cJ h;obtain⟨z,h3,rfl⟩:=cA h2;obtain⟨b1,b2⟩:=dA h1;have z2:X.mg y=none:=by rw[k.hM];exact F.bl b2
       obtain⟨n1,_,n2⟩:=dy (dH b1);unfold tyOf at et;split at et
       ·next e=>subst e;cases et;exact kU g hK F.clt F.k1 (k.gl a1) z1 (k.gl b1) z2 (by decide +kernel) n2 n1 (s.E F k hx h3) hst.1
       split at et
       ·next e=>subst e;cases et;exact kU g hK F.clt F.k2 (k.gl a1) z1 (k.gl b1) z2 (by decide +kernel) n2 n1 (s.E F k hx h3) hst.1
       split at et
       ·next e=>subst e;cases et;exact kU g hK F.clt F.k3 (k.gl a1) z1 (k.gl b1) z2 (by decide +kernel) n2 n1 (s.E F k hx h3) hst.1
       split at et
       ·next e=>subst e;cases et;exact kU g hK F.clt F.k4 (k.gl a1) z1 (k.gl b1) z2 (by decide +kernel) n2 n1 (s.E F k hx h3) hst.1
       ·cases et
      ·cases h
     ·cases h
    ·obtain⟨pm,z,v,h1,h2,h3,rfl⟩:=iE h;exact wE F k h1 hb hst.1 hst.2.1 (s.E F k hx h2) (s.E F k hx h3)
   ·cases h
 case Attribute o a apos=>
  obtain⟨h1,h⟩:=cJ h;rw[xCh] at h1;have h29:as.length<29:=xCo h1.2;split at h
  ·next C i np e=>
   obtain⟨h2,h⟩:=cJ h;obtain⟨z,v,d,h3,h4,h5,rfl⟩:=iE h;obtain⟨rfl,e1⟩:=dflt0 h5;obtain⟨cc,f,fd,ps,u1,cls,meth,FO,bd⟩:=F.ms e;obtain⟨A1,A2,_⟩:=s.A F k hx h4;exact v5 g u1 (by rw[hK];exact cls) (by rw[hK];exact meth) (k.f FO) hr (by rw[hK];exact bd) .nil (λ_=>rfl) hx (s.E F k hx h3) A1 A2 e1 hst (rY (sX h2) hst h29 h1.1)
  ·split at h
   ·next y py=>
    split at h
    ·next kvs no e=>
     obtain⟨h2,h⟩:=cJ h;cases xBe h2;obtain⟨q1,q2⟩:=gV e;obtain⟨v,val,m1,r1,r2⟩:=F.con q2;obtain⟨pp,rfl,hd⟩:=r2 ⟨λ_=>none,[],[]⟩;rw[show val=.ref pp from r1] at m1;have kf:KdF X.w B:=by rw[k.hw];exact F.kdf
     split at h
     ·next e1=>
      rw[xCj,xCh] at hst;obtain⟨z,h3,rfl⟩:=cA h;exact wb g hK kf hd (k.gl q1) (by rw[k.hM];exact m1) (dy (dH q1)).1 (s.E F k hx h3) hst.1 h1.1
     ·next e1 e2=>
      rw[xCj,xCh,xCj,xCh] at hst;obtain⟨z,v,h3,h4,rfl⟩:=cR h;exact wa g hK kf hd (k.gl q1) (by rw[k.hM];exact m1) (dy (dH q1)).1 (s.E F k hx h3) (s.E F k hx h4) hst.1 hst.2.1 h1.1
     ·cases h
    ·exact s.M F k hx hst h1.1 h
   ·exact s.M F k hx hst h1.1 h
theorem snd:∀n,Snd P w base B up G lv n
 |0=>snd0
 |n+1=>⟨zp (snd n),zt (snd n),y9 (snd n),zw (snd n),zq (snd n),yP (snd n),zc (snd n)⟩
end
structure SndS(P:Program)(w:World)(base:Heap)(B:Bs)(up:List (Str×Str))(G:Gx Prop)(lv n:Nat):Prop where
 S:∀{c X Ex s t},Fc P w base B up G lv c->Cok P w base B lv c X->Catz X Ex->cpS c n s=some t->FS X B G Ex s t
 L:∀{c X Ex s t},Fc P w base B up G lv c->Cok P w base B lv c X->Catz X Ex->cpSs c n s=some t->FSs X B G Ex s t
section
variable{P:Program}{w:World}{base:Heap}{B:Bs}{up:List (Str×Str)}{G:Gx Prop}{lv n:Nat}{c:Ct}{X:Cx}{Ex:St->XK}
theorem Cok.lp(k:Cok P w base B lv c X):Cok P w base B lv c X.lp:=⟨k.hP,k.hw,k.hK,k.hM,k.hb,k.N,k.nd,k.vis,k.loc,k.lc,k.gl,k.calm,k.hr,k.bk,k.cap⟩
theorem uw{one:Bool}(h:tgOf c tg=some (is,one)):one=true->is.length=1:=by
 cases tg <;> try (cases h;done)
 ·obtain⟨i,h1,e⟩:=cA (show o1 _ _=_ from h);cases e;exact λ_=>rfl
 ·obtain⟨i,h1,e⟩:=cA (show o1 _ _=_ from h);cases e;exact nofun
theorem jZ(g:MonG up G):FS X B G Ex st sZ:=⟨λ_ _ _ _ _ _ ⟨_,_,_,_,_,h⟩=>(g.no h).elim,⟨λ_ h=>(g.no h).elim⟩⟩
theorem so{i:Nat}(h:frzN c e=some i):∃x p,e=.Name x p/\vIx c x=some i:=by
 cases e <;> try (cases h;done)
 next x p=>
 change(if _ then vIx c x else none)=_ at h;split at h
 ·exact⟨x,p,rfl,h⟩
 ·cases h
theorem yO{p:Pos}{i:Nat}(F:Fc P w base B up G lv c)(k:Cok P w base B lv c X)(h:vIx c x=some i)(hx:PassS (CXz X.prog X.w) X Ex):FE X B G Ex (.Name x p) (cV i):=(snd 1).E (m:=false) F k hx (by show(match vIx c x with|some i=>some (cV i)|none=>_)=_;rw[h])
theorem vH{m:Bool}{t:TEx Prop}{i:Nat}(F:Fc P w base B up G lv c)(k:Cok P w base B lv c X)(hx:PassS (CXz X.prog X.w) X Ex)(hn:noComp e=false)(h:cpE c n m e=some t)(a1:X.N[i]?=some y)(a2:Loc X.env.scope y)(a3:X.fn y=true\/X.env.scope.names.lookup y=some .local):FS X B G Ex (.Assign [.Name y py] e spos) (sA i t):=by
 cases n with
 |zero=>cases h
 |succ n=>
  cases e <;> try (cases hn;done)
  ·next elt gens sc p=>
   obtain⟨q1,q2⟩:=tN (snd n) F k hx (show eE (cps n) c m (.ListComp elt gens sc p)=some t from h);have hs:swapsWith (.ListComp elt gens sc p) (some (.Name y py)) spos.line X.env=pure (X.env.blockKind==ScopeKind.function&&X.env.kindOf y==some NameKind.local&&py.line==p.line&&!sc.names.any λq=>q.1==y&&(q.2==NameKind.local||q.2==NameKind.cell)):=rfl;cases hb:(X.env.blockKind==ScopeKind.function&&X.env.kindOf y==some NameKind.local&&py.line==p.line&&!sc.names.any λq=>q.1==y&&(q.2==NameKind.local||q.2==NameKind.cell)) with
   |false=>exact nE F.g q1 k.nd a1 a2 (hs.trans (by rw[hb])) a3
   |true=>
    refine q2 k.nd a1 ?_ (hs.trans (by rw[hb]));simp only[xCh] at hb;exact eq_of_beq hb.1.1.2
  ·cases h
  ·cases h
theorem vW(h:isD0 e=true):∃p,e=.Dict [] [] p:=by
 unfold isD0 at h;split at h
 ·exact⟨_,rfl⟩
 ·cases h
theorem pz{o:Option NameKind}(h:isLo o=true):o=some .local:=by
 unfold isLo at h;split at h
 ·rfl
 ·cases h
theorem vf{px pt pp:Pos}{ea eb:Expr}{i j kt kk:Nat}{a b:TEx Prop}(g:MonG up G)(F:Fc P w base B up G lv c)(k:Cok P w base B lv c X)(h:parB c x y px py ea eb=true)(e1:lIx c x=some i)(e2:lIx c y=some j)(ha:FE X B G Ex ea a)(hb:FE X B G Ex eb b):FS X B G Ex (.Assign [.Tuple [.Name x px,.Name y py] kt pt] (.Tuple [ea,eb] kk pp) spos) (sPr i j a b):=by
 unfold parB at h;simp only[xCh] at h;obtain⟨⟨⟨⟨⟨⟨⟨⟨h1,h2⟩,h3⟩,h4⟩,h5⟩,h6⟩,h7⟩,h8⟩,h9⟩:=h;have hxy:x≠y:=by simpa using h2
 have lx:=k.lc (pz h3);have ly:=k.lc (pz h4);obtain⟨a1,a2,_⟩:=eO k e1;obtain⟨b1,b2,_⟩:=eO k e2;refine yQ g k.calm k.nd a1 b1 (λz=>hxy (by rw[z,b1] at a1;cases a1;rfl)) lx ly ha hb h6 h7 ?_;have hl:py.line=px.line:=eq_of_beq h5;have he:([x,y]:List Str).eraseDups.length=2:=by
  have:(y==x)=false:=beq_eq_false_iff_ne.mpr (Ne.symm hxy);simp[List.eraseDups,List.eraseDupsBy,List.eraseDupsBy.loop,this]
 have hf:(foldedForSure 8 ea&&foldedForSure 8 eb)=false:=by rw[Bool.not_eq_true'] at h8;exact h8
 have hk:(constantsAlone 8 ea&&constantsAlone 8 eb)=false:=by rw[Bool.not_eq_true'] at h9;exact h9
 unfold swappedStores;dsimp only;have hb2:=k.bk (by simpa using h1);rw[xCf (by rw[hb2];simp)];rw[xCf (λhh=>by
  simp only[List.any_cons,List.any_nil,Bool.or_false,Bool.or_eq_true] at hh;rcases hh with hh|hh
  ·clear hf hk h8 h9 ha;cases ea <;> first|(cases h6;done)|(cases hh;done)
  ·clear hf hk h8 h9 hb;cases eb <;> first|(cases h7;done)|(cases hh;done))]
 simp only[List.filterMap_cons,List.filterMap_nil,List.head?_cons,Option.map_some,Option.getD_some,Expr.pos,lx,ly,hl,beq_self_eq_true,Bool.and_self,if_true,xCg];rw[xCf (by rw[he];simp),xCf (by rw[xCj,xCj,List.all_nil,Bool.and_true,hf];decide),xCf (by rw[xCj,xCj,List.all_nil,Bool.and_true,hk];decide)]
theorem yR(s:SndS P w base B up G lv n)(F:Fc P w base B up G lv c)(k:Cok P w base B lv c X)(ca:Catz X Ex)(h:cpS c (n+1) st=some t):FS X B G Ex st t:=by
 have g:=F.g;have hK:=k.hK;have hx:=ca.pass;have hu:X.A.units+1<cLine:=by have:=k.hr.un;lia
 change eS n (cpt n) _ _=_ at h;unfold eS at h;cases st <;> dsimp only at h <;> try (cases h;done)
 case Pass p=>cases h;exact uD g
 case Expr e p=>
  obtain⟨h1,h⟩:=cJ h;obtain⟨x,h2,rfl⟩:=cA h;exact yT g ((snd n).E F k hx h2) h1
 case Return e p=>
  split at h
  ·split at h
   ·next i hi=>
    cases h;obtain⟨x,q,rfl,hv⟩:=so hi;exact tE g (yt g (yO F k hv hx))
   ·obtain⟨x,h2,rfl⟩:=cA h;exact tE g ((snd n).E F k hx h2)
  ·cases h
 case If q a b p=>
  obtain⟨x,y,z,h1,h2,h3,rfl⟩:=iE h;exact yS g ((snd n).T F k hx h1).1 (s.L F k ca h2) (s.L F k ca h3)
 case For tg it b orelse p=>
  split at h
  ·split at h
   ·next is one e=>
    obtain⟨h1,h⟩:=cJ h;rw[xCh] at h1;obtain⟨x,y,h2,h3,rfl⟩:=cR h;exact w6 g (uw e) k.calm ((snd n).I F k hx (λz=>nj z) h2) (tD k.lp e).1 (s.L F k.lp catz h3) (λv=>by cases it <;> first|rfl|cases h1.1)
   ·cases h
  ·cases h
 case Assign tgs e p=>
  split at h
  ·obtain⟨hc,h⟩:=cJ h;split at h
   ·next x px=>
    split at h
    ·next hd=>
     rw[xCh] at hd;obtain⟨i,h1,rfl⟩:=cA h;obtain⟨a1,a2,a3⟩:=eO k h1;obtain⟨pd,rfl⟩:=vW hd.1;exact nE g (zn g) k.nd a1 a2 (dL rfl) a3
    ·obtain⟨i,y,h1,h2,rfl⟩:=cR h;obtain⟨a1,a2,a3⟩:=eO k h1;cases hn:noComp e with
     |true=>exact nE g ((snd n).E F k hx h2) k.nd a1 a2 (dL hn) a3
     |false=>exact vH F k hx hn h2 a1 a2 a3
   ·next es j pt=>
    have hc:noComp e=true:=by simpa [isNm] using hc
    split at h
    ·next h1=>
     obtain⟨is,y,h2,h3,rfl⟩:=cR h;obtain⟨a1,a2⟩:=fJ k h2;exact w4 g hK k.calm k.nd ((snd n).E F k hx h3) a2 a1 (by unfold swapsWithSole;exact dL hc) (by cases e <;> first|rfl|cases h1)
    ·split at h
     ·next x px y py a b kk pp=>
      obtain⟨h1,h⟩:=cJ h;obtain⟨i1,j1,ta,e1,e2,e3,h⟩:=xW h;obtain⟨tb,e4,rfl⟩:=cA h;exact vf g F k h1 e1 e2 ((snd n).E F k hx e3) ((snd n).E F k hx e4)
     ·cases h
   ·next o f po=>
    have hc:noComp e=true:=by simpa [isNm] using hc
    obtain⟨h1,h⟩:=cJ h;obtain⟨x,y,h2,h3,rfl⟩:=cR h;obtain⟨f',hy,ee⟩:=xCy.mp h1;cases xBe ee;exact xb g hK F.clf hy ((snd n).E F k hx h2) ((snd n).E F k hx h3) hc
   ·next o i po=>
    have hc:noComp e=true:=by simpa [isNm] using hc
    obtain⟨h1,h⟩:=cJ h;obtain⟨x,y,z,h2,h3,h4,rfl⟩:=iE h;exact uE g hu ((snd n).E F k hx h2) ((snd n).E F k hx h3) ((snd n).E F k hx h4) h1 hc
   ·cases h
  ·cases h
 case Raise e cau p=>
  cases h;exact jZ g
theorem wX{st:List Stmt}(s:SndS P w base B up G lv n)(F:Fc P w base B up G lv c)(k:Cok P w base B lv c X)(ca:Catz X Ex)(h:cpSs c (n+1) st=some t):FSs X B G Ex st t:=by
 change eL (cpt n) _ _=_ at h;unfold eL at h;split at h
 ·cases h;exact w5 F.g
 ·next a r=>
  obtain⟨x,y,h1,h2,rfl⟩:=cR h;cases h1;refine uF F.g ?_ (s.L F k ca h2);cases e:(cpt n).S c a with
  |none=>exact jZ F.g
  |some z=>exact s.S F k ca e
theorem sndS:∀n,SndS P w base B up G lv n
 |0=>⟨(λ_ _ _ h=>nomatch (show none=some _ from h)),(λ_ _ _ h=>nomatch (show none=some _ from h))⟩
 |n+1=>⟨yR (sndS n),wX (sndS n)⟩
end
structure De where
 np:Nat
 n:Nat
 t:TSx Prop
def endsOf(x:Kx Prop)(k:Kv Prop):Ee Prop:={nx:=λ_ S=>k .non S,rt:=k,bk:=λ_ _=>False,ct:=λ_ _=>False,x:=λe _ S=>x e S}
noncomputable def stU(n:Nat)(vs:List U):Sg:=vs.map some++List.replicate (n-vs.length) none
def base0(up:List (Str×Str))(fw:Nat)(call:Nat->List U->So->Kx Prop->Kv Prop->Prop):Gx Prop:={fail:=False,fuel:=fw,prim:=λp vs S x k=>Box (prP up p vs S k),call:=call,br:=λb p q=>Box (if b=true then p () else q ())}
structure CallD(tab:Nat->Option De)(G:Gx Prop)(i:Nat)(vs:List U)(S:So)(x:Kx Prop)(k:Kv Prop):Prop where
 ex:∃(x':Kx Prop) (k':Kv Prop) (de:De),(∀e S,x' e S->x e S)/\(∀v S,k' v S->k v S)/\tab i=some de/\vs.length=de.np/\de.t G (stU de.n vs) S (endsOf x' k')
def callG(up:List (Str×Str))(tab:Nat->Option De)(fw:Nat):Nat->Gx Prop
 |0=>base0 up fw λ_ _ _ _ _=>False
 |d+1=>base0 up fw (CallD tab (callG up tab fw d))
theorem monG{up:List (Str×Str)}{tab:Nat->Option De}:∀d,MonG up (callG up tab fw d)
 |0=>⟨rfl,λ_ _ _ _ _=>rfl,λ_ _ _=>rfl,λ_ _ h=>h⟩
 |d+1=>⟨rfl,λ_ _ _ _ _=>rfl,λ_ _ _=>rfl,λhx hk ⟨x',k',de,h1,h2,h3⟩=>⟨x',k',de,λe S z=>hx e S (h1 e S z),λv S z=>hk v S (h2 v S z),h3⟩⟩
theorem callD{up:List (Str×Str)}{tab:Nat->Option De}{d i:Nat}{x:Kx Prop}{k:Kv Prop}{de:De}(e:tab i=some de)(hl:vs.length=de.np)(h:de.t (callG up tab fw d) (stU de.n vs) S (endsOf x k)):(callG up tab fw (d+1)).call i vs S x k:=
 CallD.mk ⟨x,k,de,λ_ _ z=>z,λ_ _ z=>z,e,hl,h⟩
structure FunA(K:xFr)(x qual:Str)(st:Stmt)(f:Addr)(fd:FuncData):Prop where
 ex:∃(oc:Value) (od:Option Addr) (dv kV doc pm:Value) (an:Option Addr) (cdv ct:Value) (osl:Array (Option Value)),
  fd=PySem.W.fnOf x qual (defArgs st) (defBody st) (defScope st) dv kV doc pm an cdv ct/\K.lookup f=some ⟨oc,od,.func fd,osl⟩/\PySem.W.codeIn K cdv qual=true
section
variable{P:Program}{w:World}{B:Bs}{base:Heap}{up:List (Str×Str)}{tab:Nat->Option De}{fw d i fu:Nat}{c:Ct}{x qual:Str}{st:Stmt}{f:Addr}{fd:FuncData}{N ps:List Str}{de:De}
theorem FunA.okX{K:xFr}{mg:Str->Option Value}{k:Nat}{sp:Sp}(F:FunA K x qual st f fd)(S:FnScope N ps (defScope st))(len:∀vs H Q E,sp vs H Q E->vs.length=ps.length)(hbody:∀(cdv:Value)(A:Around)(outer:List Env)(s:Shared)(H:Hp)(vs:List V)(Q:VK)(E:XK),Room k (A.deeper (envOfC qual (defScope st) s.heap.objs.size f cdv))->sp vs H Q E ->
   ∃t,PSs (cxOf (CXz P w) P w K mg base N qual (defScope st) f cdv A outer s H E) (defBody st) t/\t {nx:=λ_ H'=>Q .non H',rt:=Q} (start N vs) H):FnOk P w K mg base (CXz P w) (k+1) f fd ps sp:=by
 obtain⟨oc,od,dv,kV,doc,pm,an,cdv,ct,osl,rfl,lk,hcd⟩:=F.ex;exact yj lk hcd S len λA outer s H vs Q E hr hsp=>hbody cdv A outer s H vs Q E hr hsp
theorem iG:∀{l:List U}{n i:Nat}{v:U},nth (l.map some++List.replicate n none) i=some v->l[i]?=some v
 |[],n,i,v,h=>by
  exfalso;rw[List.map_nil,xC6] at h;revert h;induction n generalizing i with
  |zero=>intro h;cases h
  |succ n ih=>
   cases i with
   |zero=>intro h;cases h
   |succ i=>exact ih (i:=i)
 |u::l,n,0,v,h=>h
 |u::l,n,i+1,v,h=>by simpa using iG (l:=l) (n:=n) (i:=i) h
theorem nz{W:Wd}{us:List U}{vs:List V}(r:Rvs B W us vs):Rg B W (stU N.length us) (start N vs):=by
 have hl:=r.length;refine⟨?_,λi v h=>?_⟩
 ·unfold stU L2.start;rw[xAb,xAb,xAa,xAa,xCu,xCu,hl]
 ·obtain⟨u,e,ru⟩:=r.get (iG h);refine⟨u,?_,ru⟩;unfold L2.start;have hi:i<vs.length:=(xAq.mp e).1;rw[List.getElem?_append_left (by simpa using hi),xAw,e];rfl
theorem su(F:FunA B.K x qual st f fd)(S:FnScope N ps (defScope st))(hN:c.N=N)(hsc:c.sc=(defScope st).names)(ht:tab i=some de)(hnp:de.np=ps.length)(hn:de.n=N.length)(cp:cpSs c fu (defBody st)=some de.t)(FC:Fc P w base B up (callG up tab fw d) (2*d+1) c) :
  FnOk P w B.K B.mg base (CXz P w) (2*(d+1)+1) f fd ps (spF B (callG up tab fw (d+1)) i de.np):=by
 refine FunA.okX (k:=2*d+2) F S (λvs H Q E h=>by rw[h.1,hnp]) λcdv A outer s H vs Q E hr hsp=>?_;obtain⟨hl,W,us,S0,rs,rv,hc⟩:=hsp;obtain⟨x',k',de',hx,hk,e,hl',body⟩:=CallD.ex hc;rw[ht] at e;cases e;have ck:Cok P w base B (2*d+1) c (cxOf (CXz P w) P w B.K B.mg base N qual (defScope st) f cdv A outer s H E):=by
  refine⟨rfl,rfl,rfl,rfl,rfl,hN.symm,S.nd,λ{x} h=>?_,λ{x} h=>?_,λ{x} h=>?_,λ{x} h=>?_,rfl,hr,λ_=>(by show(if(defScope st).kind.isAnnotationScope then ScopeKind.function else(defScope st).kind)=_;rw[S.kind];rfl),λ_ {x} h=>?_⟩
  ·unfold isV at h;rw[cb,hsc] at h;split at h <;> first|cases h;done|skip
   ·next e=>exact .inl e
   ·next e=>exact .inr (.inl e)
   ·next e=>exact .inr (.inr e)
  ·unfold isL at h;rw[cb,hsc] at h;split at h <;> first|cases h;done|skip
   ·next e=>exact⟨.inl e,.inl rfl⟩
   ·next e=>exact⟨.inr e,.inl rfl⟩
  ·rw[cb,hsc] at h;exact h
  ·unfold isG at h;rw[xCh,cb,hsc] at h;have h4:=h.1;split at h4
   ·next e=>exact e
   ·cases h4
  ·rw[cb,hsc] at h;exact⟨h,fW h⟩
 have fs:=(sndS fu).L FC ck (catz (Ex:=λ_=>E)) cp;refine⟨_,fs.p,W,stU N.length us,S0,rs,nz rv,?_⟩;rw[hn] at body;refine fs.m.m (E:=endsOf x' k') ⟨λσ S1 z=>?_,λv S1 z=>hk v S1 z,λ_ _ z=>False.elim z,λ_ _ z=>False.elim z,λe σ S1 z=>?_⟩ body
 ·exact λW' τ H' le rs' rg=>hk _ _ z W' .non H' le rs' rfl
 ·exact λW' τ C dx H' le rx rg=>hx _ _ z W' C dx H' le rx
end
structure Row where
 x:Str
 qual:Str
 i:Nat
 st:Stmt
 ps:List Str
 N:List Str
 mu:List Str
 t:TSx Prop
structure Tb where
 gl:List (Str×Gd)
 ms:List (Str×Str×Nat×Nat)
 fl:List Str
 bl:List Str
 ini:List Str
 isc:List Str
noncomputable def Tb.ct(b:Tb)(N mu:List Str)(st:Stmt):Ct:=⟨N,(defScope st).names,b.gl,b.ms,mu,b.fl,b.bl,b.ini,b.isc,false⟩
noncomputable def rowAt:List Row->Nat->Option De
 |[],_=>none
 |r::l,i=>match Nat.beq r.i i with
  |true=>some ⟨r.ps.length,r.N.length,r.t⟩
  |false=>rowAt l i
structure RowC(b:Tb)(tab:Nat->Option De)(r:Row):Prop where
 S:FnScope r.N r.ps (defScope r.st)
 cp:∃fu,cpSs (b.ct r.N r.mu r.st) fu (defBody r.st)=some r.t
 ta:tab r.i=some ⟨r.ps.length,r.N.length,r.t⟩
def Dfl(B:Bs)(fd:FuncData)(ps:List Str)(np:Nat)(df:List U):Prop:=∀{n ds},dflt np n df=some ds->n+ds.length=np/\∃dvs dv,Binds B.K fd ps dv/\Vals dvs dv/\∀W,Rvs B W ds dvs
structure Pf(P:Program)(w:World)(base:Heap)(B:Bs)(up:List (Str×Str))(b:Tb)(rows:List Row):Prop where
 fn:∀{x i np df mp},getF x b.gl=some (.fn i np df mp)->∃r f fd,r∈rows/\r.i=i/\r.ps.length=np/\B.mg x=some (.ref f)/\PySem.W.keepIn B.K (.ref f)=true/\FunA B.K r.x r.qual r.st f fd/\Dfl B fd r.ps np df
 cl:∀{x i np df},getF x b.gl=some (.cl i np df)->∃r cc f fd,r∈rows/\r.i=i/\r.ps.length=np/\B.cl x cc/\B.mg x=some (.ref cc)/\Mk B.K cc f/\FunA B.K r.x r.qual r.st f fd/\Dfl B fd r.ps np df/\(x∈b.isc->KitC B up x cc) /\
  (x∈b.ini->Binds B.K fd r.ps []/\∃mc,PySem.W.specialIn B.K (.ref cc) "__getattribute__"=some (some (.builtin "type.__getattribute__"))/\PySem.W.readsIn B.K cc mc=true/\PySem.W.findCls B.K (.ref cc) mc "__init__"=some (.val (.ref f))/\PySem.W.handedIn (.ref f)=true/\PySem.W.keepIn B.K (.ref f)=true)
 ms:∀{m C i np},getF m b.ms=some (C,i,np)->∃r cc f fd,r∈rows/\r.i=i/\r.ps.length=np/\(∀c',B.cl C c'->c'=cc)/\Cls B.K cc/\Meth B.K cc m f/\FunA B.K r.x r.qual r.st f fd/\Binds B.K fd r.ps []
 con:∀{x u},getF x b.gl=some (.con u)->∃v val,B.mg x=some val/\RelV v val/\∀W,Rv B W u v
 bl:∀{x},x∈b.bl->B.mg x=none
 k1:KitT B "int"
 k2:KitT B "bool"
 k3:KitT B "str"
 k4:KitT B "tuple"
 clf:ClF B b.fl
 clt:ClT B
 kdf:KdF w B
section
variable{P:Program}{w:World}{base:Heap}{B:Bs}{up:List (Str×Str)}{b:Tb}{rows:List Row}{tab:Nat->Option De}{fw:Nat}
theorem row_ok(rc:∀r∈rows,RowC b tab r)(hr:r∈rows){f:Addr}(F:FunA B.K r.x r.qual r.st f fd):∀d,(∀N mu st,Fc P w base B up (callG up tab fw d) (2*d+1) (b.ct N mu st))->FnOk P w B.K B.mg base (CXz P w) (2*(d+1)+1) f fd r.ps (spF B (callG up tab fw (d+1)) r.i r.ps.length):=λd h=>
 let ⟨S,⟨_,cp⟩,ta⟩:=rc r hr
 su (c:=b.ct r.N r.mu r.st) F S rfl rfl ta rfl rfl cp (h _ _ _)
theorem xc{f:Addr}:FnOk P w B.K B.mg base (CXz P w) (2*0+1) f fd r.ps (spF B (callG up tab fw 0) r.i r.ps.length):=
 ⟨λ_ _ _ _ h=>h.1,λ_ _ _ _ _ _ _ _ _ _ _ _ _ h=>by obtain⟨_,_,_,_,_,_,h⟩:=h;exact False.elim h⟩
theorem tW(p:Pf P w base B up b rows)(rc:∀r∈rows,RowC b tab r)(d:Nat)(ok:∀{r:Row}{f:Addr}{fd:FuncData},r∈rows->FunA B.K r.x r.qual r.st f fd->FnOk P w B.K B.mg base (CXz P w) (2*d+1) f fd r.ps (spF B (callG up tab fw d) r.i r.ps.length))(N mu:List Str)(st:Stmt):Fc P w base B up (callG up tab fw d) (2*d+1) (b.ct N mu st) where
 g:=monG d
 fn:=λh=>by
  obtain⟨r,f,fd,hr,rfl,rfl,h1,h2,F,hd⟩:=p.fn h;exact⟨f,fd,r.ps,h1,h2,ok hr F,hd⟩
 cl:=λh=>by
  obtain⟨r,cc,f,fd,hr,rfl,rfl,h1,h2,h3,F,hd,h4,h5⟩:=p.cl h;exact⟨cc,f,fd,r.ps,h1,h2,h3,ok hr F,hd,h4,h5⟩
 ms:=λh=>by
  obtain⟨r,cc,f,fd,hr,rfl,rfl,h1,h2,h3,F,hd⟩:=p.ms h;exact⟨cc,f,fd,r.ps,h1,h2,h3,ok hr F,hd⟩
 con:=p.con
 bl:=p.bl
 k1:=p.k1
 k2:=p.k2
 k3:=p.k3
 k4:=p.k4
 clf:=p.clf
 clt:=p.clt
 kdf:=p.kdf
theorem pK(p:Pf P w base B up b rows)(rc:∀r∈rows,RowC b tab r):∀(d:Nat)(N mu:List Str)(st:Stmt),Fc P w base B up (callG up tab fw d) (2*d+1) (b.ct N mu st)
 |0=>tW p rc 0 λ_ _=>xc
 |d+1=>tW p rc (d+1) λhr F=>row_ok rc hr F d (pK p rc d)
theorem wI(p:Pf P w base B up b rows)(rc:∀r∈rows,RowC b tab r)(hr:r∈rows){f:Addr}(F:FunA B.K r.x r.qual r.st f fd)(d:Nat):FnOk P w B.K B.mg base (CXz P w) (2*(d+1)+1) f fd r.ps (spF B (callG up tab fw (d+1)) r.i r.ps.length):=row_ok rc hr F d (pK p rc d)
end
noncomputable def isLC:Option NameKind->Bool
 |some .local=>true
 |some .cell=>true
 |_=>false
noncomputable def notFree:NameKind->Bool
 |.free=>false
 |_=>true
noncomputable def eqL:List Str->List Str->Bool
 |[],[]=>true
 |x::r,y::s=>decide (x=y)&&eqL r s
 |_,_=>false
theorem pP:∀{a b:List Str},eqL a b=true->a=b
 |[],[],_=>rfl
 |[],_::_,h=>by cases h
 |_::_,[],h=>by cases h
 |x::r,y::s,h=>by
  simp only[eqL,xCh,decide_eq_true_eq] at h;rw[h.1,pP h.2]
noncomputable def scB(N ps:List Str)(sc:Scope):Bool:=decide (sc.kind=.function)&&(!sc.isCoroutine&&(!sc.isGenerator&&(nodupS N&&(eqL (N.take ps.length) ps&&(ps.all (λx=>isLC (getF x sc.names))&&sc.names.all λy=>notFree y.2)))))
theorem uC{N ps:List Str}{sc:Scope}(h:scB N ps sc=true):FnScope N ps sc:=by
 simp only[scB,xCh,Bool.not_eq_true'] at h;obtain⟨h1,h2,h3,h4,h5,h6,h7⟩:=h;refine⟨xBe h1,h2,h3,dn h4,pP h5,λx hx=>?_,λy hy e=>?_⟩
 ·have:=xCx.mp h6 x hx;rw[cb] at this;unfold isLC at this;split at this
  ·next e=>exact .inl e
  ·next e=>exact .inr e
  ·cases this
 ·have:=xCx.mp h7 y hy;rw[e] at this;cases this
theorem rowC{b:Tb}{tab:Nat->Option De}(h1:scB r.N r.ps (defScope r.st)=true)(h2:cpSs (b.ct r.N r.mu r.st) 100 (defBody r.st)=some r.t)(h3:tab r.i=some ⟨r.ps.length,r.N.length,r.t⟩):RowC b tab r:=⟨uC h1,⟨_,h2⟩,h3⟩
theorem alln{p:α->Prop}:∀x∈([]:List α),p x:=λ_ h=>nomatch h
theorem allc{p:α->Prop}{a:α}{l:List α}(h:p a)(r:∀x∈l,p x):∀x∈a::l,p x:=List.forall_mem_cons.mpr ⟨h,r⟩
theorem dI{v:α}{l:List (Str×α)}(h:getF x l=some v):(x,v)∈l:=cN (by rw[<- cb];exact h)
noncomputable def mkB(K:xFr)(mg:Str->Option Value)(cls:List (Str×Addr))(kds:List (Addr×List (Str×U)×List Str)):Bs:=⟨K,mg,λp kvs no=>(p,kvs,no)∈kds,λC c=>(C,c)∈cls⟩
noncomputable def isNo{α:Type}:Option (Option α)->Bool
 |some none=>true
 |_=>false
theorem gS{o:Option (Option α)}(h:isNo o=true):o=some none:=by
 unfold isNo at h;split at h
 ·rfl
 ·cases h
noncomputable def noneB(K:xFr)(C:Addr)(fl:List Str):Bool:=fl.all λf=>isNo (PySem.W.findIn K (.ref C) f)
noncomputable def mgB(K:xFr)(l:List Str):Bool:=l.all λx=>isNo (PySem.W.nsIn K mainGlobals x)
noncomputable def nsB(K:xFr)(p:Addr)(l:List Str):Bool:=l.all λx=>isNo (PySem.W.nsIn K p x)
noncomputable def eqO:Option Bool->Bool->Bool
 |some true,true=>true
 |some false,false=>true
 |_,_=>false
theorem gZ{o:Option Bool}{b:Bool}(h:eqO o b=true):o=some b:=by
 unfold eqO at h;split at h <;> first|rfl|cases h
noncomputable def kitTB(K:xFr)(n:String)(cls:List (Str×Addr)):Bool:=(tys.all λt=>eqO (PySem.W.kitOne K (.type t) (.type n)) (isTb t n))&&cls.all λc=>eqO (PySem.W.kitOne K (.ref c.2) (.type n)) (isTb "object" n)
noncomputable def kitCB(K:xFr)(up:List (Str×Str))(D:Str)(d:Addr)(cls:List (Str×Addr)):Bool:=(tys.all λt=>eqO (PySem.W.kitOne K (.type t) (.ref d)) false)&&cls.all λc=>eqO (PySem.W.kitOne K (.ref c.2) (.ref d)) (isC up c.1 D)
section
variable{K:xFr}{mg:Str->Option Value}{cls:List (Str×Addr)}{kds:List (Addr×List (Str×U)×List Str)}{up:List (Str×Str)}
theorem kitT{n:String}(h:kitTB K n cls=true):KitT (mkB K mg cls kds) n:=by
 simp only[kitTB,xCh,xCx] at h;exact⟨λt ht=>gZ (h.1 t ht),λ{C c} hc=>gZ (h.2 (C,c) hc)⟩
theorem kitC{D:Str}{d:Addr}(h:kitCB K up D d cls=true):KitC (mkB K mg cls kds) up D d:=by
 simp only[kitCB,xCh,xCx] at h;exact⟨λt ht=>gZ (h.1 t ht),λ{C c} hc=>gZ (h.2 (C,c) hc)⟩
theorem clF{fl:List Str}(h1:∀p∈cls,Cls K p.2)(h2:∀p∈cls,noneB K p.2 fl=true):ClF (mkB K mg cls kds) fl:=⟨λ{C c} hc=>h1 (C,c) hc,λ{C c f} hc hf=>gS (xCx.mp (h2 (C,c) hc) f hf)⟩
variable{x qual:Str}{st:Stmt}{f:Addr}{fd:FuncData}{ps:List Str}{ds es:List Value}
theorem Fun.fa(F:Fun K x qual st f fd):FunA K x qual st f fd:=by
 obtain⟨oc,od,kV,doc,pm,an,cdv,ct,osl,e,lk,hcd⟩:=F.ex;exact⟨oc,od,_,kV,doc,pm,an,cdv,ct,osl,e,lk,hcd⟩
def BdC(r:Row):Prop:=∀(kV doc pm:Value)(an:Option Addr)(cdv ct:Value)(us:List Value),us.length=r.ps.length->bindArgs (PySem.W.fnOf r.x r.qual (defArgs r.st) (defBody r.st) (defScope r.st) .none kV doc pm an cdv ct) ⟨us,[]⟩=pure (r.ps.zip us)
theorem dfl0(F:Fun K r.x r.qual r.st f fd)(b:BdC r):Dfl (mkB K mg cls kds) fd r.ps r.ps.length []:=λ{n ds} h=>by
 obtain⟨rfl,e⟩:=dflt0 h;exact⟨by simpa using e,[],[],F.binds b,.nil,λ_=>rfl⟩
end
def GlOk(P:Program)(w:World)(base:Heap)(B:Bs)(up:List (Str×Str))(b:Tb)(rows:List Row):Str×Gd->Prop
 |(x,.fn i np df _)=>∃r f fd,r∈rows/\r.i=i/\r.ps.length=np/\B.mg x=some (.ref f)/\PySem.W.keepIn B.K (.ref f)=true/\FunA B.K r.x r.qual r.st f fd/\Dfl B fd r.ps np df
 |(x,.cl i np df)=>∃r cc f fd,r∈rows/\r.i=i/\r.ps.length=np/\B.cl x cc/\B.mg x=some (.ref cc)/\Mk B.K cc f/\FunA B.K r.x r.qual r.st f fd/\Dfl B fd r.ps np df/\(x∈b.isc->KitC B up x cc) /\
  (x∈b.ini->Binds B.K fd r.ps []/\∃mc,PySem.W.specialIn B.K (.ref cc) "__getattribute__"=some (some (.builtin "type.__getattribute__"))/\PySem.W.readsIn B.K cc mc=true/\PySem.W.findCls B.K (.ref cc) mc "__init__"=some (.val (.ref f))/\PySem.W.handedIn (.ref f)=true/\PySem.W.keepIn B.K (.ref f)=true)
 |(x,.con u)=>∃v val,B.mg x=some val/\RelV v val/\∀W,Rv B W u v
def MsOk(B:Bs)(rows:List Row)(p:Str×Str×Nat×Nat):Prop:=∃r cc f fd,r∈rows/\r.i=p.2.2.1/\r.ps.length=p.2.2.2/\(∀c',B.cl p.2.1 c'->c'=cc)/\Cls B.K cc/\Meth B.K cc p.1 f/\FunA B.K r.x r.qual r.st f fd/\Binds B.K fd r.ps []
theorem xm{P:Program}{w:World}{base:Heap}{up:List (Str×Str)}{b:Tb}{rows:List Row}(h1:∀p∈b.gl,GlOk P w base B up b rows p)(h2:∀p∈b.ms,MsOk B rows p)(h3:∀x∈b.bl,B.mg x=none)(k1:KitT B "int")(k2:KitT B "bool")(k3:KitT B "str")(k4:KitT B "tuple")(clf:ClF B b.fl)(clt:ClT B)(kdf:KdF w B):Pf P w base B up b rows where
 fn:=λh=>h1 _ (dI h)
 cl:=λh=>h1 _ (dI h)
 ms:=λh=>h2 _ (dI h)
 con:=λh=>h1 _ (dI h)
 bl:=λh=>h3 _ h
 k1:=k1
 k2:=k2
 k3:=k3
 k4:=k4
 clf:=clf
 clt:=clt
 kdf:=kdf
def DnR(K:xFr)(r:Row):Prop:=∃(f:Addr) (fd:FuncData),PySem.W.nsIn K mainGlobals r.x=some (some (.ref f))/\Fun K r.x r.qual r.st f fd
def MdR(K:xFr)(C:Addr)(r:Row):Prop:=∃(f:Addr) (fd:FuncData),PySem.W.findIn K (.ref C) r.x=some (some (.ref f))/\PySem.W.isFn K (.ref f)=true/\PySem.W.keepIn K (.ref f)=true/\Fun K r.x r.qual r.st f fd
section
variable{K:xFr}{f T C:Addr}{oc kV dc pm cd ct:Value}{od an:Option Addr}{sl:Array (Option Value)}{nm q:Str}{st:Stmt}{m:Str}{i:Nat}{ps N mu:List Str}{t:TSx Prop}{d:Value}{oT:Obj}{n:Nat}
theorem dnr(h0:PySem.W.nsIn K mainGlobals nm=some (some (.ref f)))(h1:K.lookup f=some ⟨oc,od,.func (PySem.W.fnOf nm q (defArgs st) (defBody st) (defScope st) .none kV dc pm an cd ct),sl⟩)(h2:PySem.W.codeIn K cd q=true)(h3:PySem.W.keepIn K (.ref f)=true):DnR K ⟨nm,q,i,st,ps,N,mu,t⟩:=⟨f,_,h0,pF h1 h2 h3⟩
theorem mdr(h0:PySem.W.findIn K (.ref C) m=some (some (.ref f)))(h4:PySem.W.isFn K (.ref f)=true)(h1:K.lookup f=some ⟨oc,od,.func (PySem.W.fnOf m q (defArgs st) (defBody st) (defScope st) .none kV dc pm an cd ct),sl⟩)(h2:PySem.W.codeIn K cd q=true)(h3:PySem.W.keepIn K (.ref f)=true):MdR K C ⟨m,q,i,st,ps,N,mu,t⟩:=⟨f,_,h0,h4,h3,pF h1 h2 h3⟩
end
section
variable{P:Program}{w:World}{base h:Heap}{K:xFr}{mg:Str->Option Value}{cls:List (Str×Addr)}{kds:List (Addr×List (Str×U)×List Str)}{up:List (Str×Str)}{b:Tb}{rows:List Row}{r:Row}{mp:List Bool}{x C:Str}{cc a:Addr}{i:Int}{tk:Tok}
theorem bx(X:K.In h)(G:h.Ns mainGlobals mg)(d:DnR K r)(hr:r∈rows)(bd:BdC r):GlOk P w base (mkB K mg cls kds) up b rows (r.x,.fn r.i r.ps.length [] mp):=
 let ⟨f,fd,h0,F⟩:=d
 ⟨r,f,fd,hr,rfl,rfl,PySem.W.mg_of X G h0,F.kp,Fun.fa F,dfl0 F bd⟩
structure CsR(K:xFr)(C:Addr)(n:Str):Prop where
 at_:PySem.W.nsIn K mainGlobals n=some (some (.ref C))
 cls:Cls K C
 mks:PySem.W.makesIn K C=true
 kp:PySem.W.keepIn K (.ref C)=true
 ha:PySem.W.findIn K (.ref C) "__class__"=some (some (.builtin "object.__class__"))
 hm:PySem.W.mroIn K C (.type "object")=some true
def IniR(K:xFr)(cc:Addr):Prop:=∃mc,PySem.W.specialIn K (.ref cc) "__getattribute__"=some (some (.builtin "type.__getattribute__"))/\PySem.W.readsIn K cc mc=true/\∀f,PySem.W.findIn K (.ref cc) "__init__"=some (some (.ref f))->PySem.W.findCls K (.ref cc) mc "__init__"=some (.val (.ref f))/\PySem.W.handedIn (.ref f)=true
theorem tT(X:K.In h)(G:h.Ns mainGlobals mg)(c:CsR K cc C)(d:MdR K cc r)(hx:r.x="__init__")(hr:r∈rows)(hc:(C,cc)∈cls)(bd:BdC r)(hk:C∈b.isc->kitCB K up C cc cls=true)(hi:C∈b.ini->IniR K cc):GlOk P w base (mkB K mg cls kds) up b rows (C,.cl r.i r.ps.length []):=by
 obtain⟨f,fd,h0,h1,kp,F⟩:=d;have h0':PySem.W.findIn K (.ref cc) "__init__"=some (some (.ref f)):=by rw[<- hx];exact h0
 refine⟨r,cc,f,fd,hr,rfl,rfl,hc,PySem.W.mg_of X G c.at_,⟨c.mks,h0',h1,c.kp⟩,Fun.fa F,dfl0 F bd,λz=>kitC (hk z),λz=>?_⟩;obtain⟨mc,e1,e2,e3⟩:=hi z;exact⟨F.binds bd,mc,e1,e2,(e3 f h0').1,(e3 f h0').2,kp⟩
theorem uniq:∀{cls:List (Str×Addr)}{C:Str}{c c':Addr},nodupS (cls.map (·.1))=true->(C,c)∈cls->(C,c')∈cls->c'=c:=λ{cls C c c'} nd h1 h2=>by
 have nd:=dn nd;clear ‹nodupS _=true›;induction cls with
 |nil=>cases h1
 |cons p r ih=>
  rw[xBs,xCb] at nd;rcases xAv.mp h1 with e1|h1 <;> rcases xAv.mp h2 with e2|h2
  ·rw[<- e1] at e2;cases e2;rfl
  ·exact absurd (xA2.mpr ⟨_,h2,by rw[<- e1]⟩) nd.1
  ·exact absurd (xA2.mpr ⟨_,h1,by rw[<- e2]⟩) nd.1
  ·exact ih h1 h2 nd.2
theorem dP(nd:nodupS (cls.map (·.1))=true)(c:CsR K cc C)(d:MdR K cc r)(hr:r∈rows)(hc:(C,cc)∈cls)(bd:BdC r):MsOk (mkB K mg cls kds) rows (r.x,C,r.i,r.ps.length):=
 let ⟨f,fd,h0,h1,kp,F⟩:=d
 ⟨r,cc,f,fd,hr,rfl,rfl,λc' h=>uniq nd hc h,c.cls,⟨h0,h1,kp⟩,Fun.fa F,F.binds bd⟩
theorem gW(X:K.In h)(G:h.Ns mainGlobals mg)(e:PySem.W.nsIn K mainGlobals x=some (some (.int i tk))):GlOk P w base (mkB K mg cls kds) up b rows (x,.con (.int i)):=⟨.int i,_,PySem.W.mg_of X G e,⟨_,rfl⟩,λ_=>rfl⟩
theorem vX{z:Str}(X:K.In h)(G:h.Ns mainGlobals mg)(e:PySem.W.nsIn K mainGlobals x=some (some (.str z tk))):GlOk P w base (mkB K mg cls kds) up b rows (x,.con (.str z)):=⟨.str z,_,PySem.W.mg_of X G e,⟨_,rfl⟩,λ_=>rfl⟩
theorem fc{B:Bs}{W:Wd}{β:Type}{f:β->U}{g:β->V}(h:∀x,Rv B W (f x) (g x)):∀(l:List β),Rvs B W (l.map f) (l.map g)
 |[]=>rfl
 |x::l=>⟨g x,l.map g,rfl,h x,fc h l⟩
theorem vL{l:List Str}(h:∀H,SqT B.K H a (l.map .str))(W:Wd):Rv B W (.kt (l.map .str)) (.ref a):=⟨a,_,rfl,h,fc (f:=U.str) (g:=V.str) (λ_=>rfl) l⟩
theorem vM{l:List Int}(h:∀H,SqT B.K H a (l.map .int))(W:Wd):Rv B W (.kt (l.map .int)) (.ref a):=⟨a,_,rfl,h,fc (f:=U.int) (g:=V.int) (λ_=>rfl) l⟩
theorem tR{u:U}(X:K.In h)(G:h.Ns mainGlobals mg)(e:PySem.W.nsIn K mainGlobals x=some (some (.ref a)))(r:∀W,Rv (mkB K mg cls kds) W u (.ref a)):GlOk P w base (mkB K mg cls kds) up b rows (x,.con u):=⟨.ref a,_,PySem.W.mg_of X G e,rfl,r⟩
theorem tS{kvs:List (Str×U)}{no:List Str}(X:K.In h)(G:h.Ns mainGlobals mg)(e:PySem.W.nsIn K mainGlobals x=some (some (.ref a)))(hd:(a,kvs,no)∈kds):GlOk P w base (mkB K mg cls kds) up b rows (x,.con (.kd kvs no)):=⟨.ref a,_,PySem.W.mg_of X G e,rfl,λ_=>⟨a,rfl,hd⟩⟩
structure KdOk(w:World)(B:Bs)(q:Addr×List (Str×U)×List Str):Prop where
 d:KD w B.K q.1
 y:∀e∈q.2.1,∃u val,PySem.W.nsIn B.K q.1 e.1=some (some val)/\RelV u val/\∀W,Rv B W e.2 u
 n:nsB B.K q.1 q.2.2=true
theorem kdF(hq:∀q∈kds,KdOk w (mkB K mg cls kds) q):KdF w (mkB K mg cls kds):=
 ⟨λ{p kvs no} hd=>(hq _ hd).d,λ{p kvs no x v} hd hy=>(hq _ hd).y _ (dI hy),λ{p kvs no x} hd hx=>gS (xCx.mp (hq _ hd).n x hx)⟩
theorem clT(h1:∀p∈cls,Cls K p.2/\PySem.W.findIn K (.ref p.2) "__class__"=some (some (.builtin "object.__class__"))/\PySem.W.mroIn K p.2 (.type "object")=some true)(hn:PySem.W.specialIn K (.builtin "object.__class__") "__get__"=some (some (.builtin "getset_descriptor.__get__")))(htk:PySem.W.takesIn K (.builtin "object.__class__")=some true):ClT (mkB K mg cls kds):=
 ⟨λ{C c H a dx fs} hc e=>let ⟨c1,c2,c3⟩:=h1 (C,c) hc;.ins e c1 c2 hn htk c3⟩
def spLaw(K:xFr)(n:Nat):Sp:=λvs H Q _=>∃(a:Addr) (ns:List Int),vs=[.ref a]/\ns.length<=n/\SqL K H a (ns.map V.int)/\∀H',Q (.bl true) H'
theorem vI{G:Gx Prop}{i n:Nat}(g:MonG up G)(math:∀ns:List Int,ns.length<=n->G.call i [.kl (ns.map U.int)] [] (λ_ _=>False) (λv _=>v=.bl true)):∀vs H Q E,spLaw B.K n vs H Q E->spF B G i 1 vs H Q E:=λvs H Q E zz=>by
 obtain⟨a,ns,e,hl,hs,q⟩:=zz;subst e;refine⟨rfl,⟨H,[],[]⟩,[.kl (ns.map U.int)],[],⟨λ_ _ h=>h,rfl,λ_ _ _ h=>(by cases h),λ_ _ h=>(by cases h),λ_ h=>(by cases h)⟩,⟨.ref a,[],rfl,⟨a,ns.map V.int,rfl,hs,fc (f:=U.int) (g:=V.int) (λ_=>rfl) ns⟩,rfl⟩,?_⟩;refine g.call (λ_ _ z=>z.elim) (λv S z=>?_) (math ns hl);subst z;exact λW' u H' le rs rv=>by rw[show u=.bl true from rv];exact q H'
end
end Fx
namespace Fx
open PySem L2
variable{kvs:List (Key×U)}
section
variable{up:List (Str×Str)}{tab:Nat->Option De}{fw d:Nat}{p:Pm}{vs:List U}{S S':So}{x:Kx Prop}{k:Kv Prop}{v:U}{a b:Unit->Prop}
theorem pm(e:pr up p vs S=.ok v S')(h:k v S'):(callG up tab fw d).prim p vs S x k:=by
 rw[(monG (up:=up) (tab:=tab) (fw:=fw) d).prim];exact⟨by unfold prP;rw[e];exact h⟩
theorem brT(h:a ()):(callG up tab fw d).br true a b:=by
 rw[(monG (up:=up) (tab:=tab) (fw:=fw) d).br];exact⟨by rw[xCg rfl];exact h⟩
theorem brF(h:b ()):(callG up tab fw d).br false a b:=by
 rw[(monG (up:=up) (tab:=tab) (fw:=fw) d).br];exact⟨by rw[xCf (by decide)];exact h⟩
theorem qU{xs:List U}{j:Nat}(h:xs[j]?=some v):pr up .ix [.kl xs,.int j] S=.ok v S:=by
 show opt (atI xs (j:Int)) S=_;rw[c9 h];rfl
end
section
variable{up:List (Str×Str)}{S S':So}{p q:Nat}{o o':Ob}{C f m:Str}{fs fs':List (Str×U)}{v u:U}{xs ys:List U}
theorem atLt{α:Type}:∀{l:List α}{p:Nat}{o:α},at? l p=some o->p<l.length
 |_::_,0,_,_=>by simp
 |_::l,p+1,_,h=>by have:=atLt (l:=l) h;simp;lia
theorem atSet{α:Type}:∀{l:List α}{p:Nat}{o o':α},at? l p=some o->at? (set l p o') p=some o'
 |_::_,0,_,_,_=>rfl
 |_::l,p+1,_,_,h=>atSet (l:=l) h
theorem atNe{α:Type}:∀{l:List α}{p q:Nat}{o:α},p≠q->at? (set l p o) q=at? l q
 |[],_,_,_,_=>rfl
 |_::_,0,0,_,h=>absurd rfl h
 |_::_,0,_+1,_,_=>rfl
 |_::_,_+1,0,_,_=>rfl
 |_::l,p+1,q+1,_,h=>atNe (l:=l) (by lia)
theorem lenSet{α:Type}:∀{l:List α}{p:Nat}{o:α},(set l p o).length=l.length
 |[],_,_=>rfl
 |_::_,0,_=>rfl
 |_::l,p+1,_=>congrArg (·+1) (lenSet (l:=l))
theorem atApp{α:Type}:∀{l t:List α}{p:Nat}{o:α},at? l p=some o->at? (l++t) p=some o
 |_::_,_,0,_,h=>h
 |_::l,_,p+1,_,h=>atApp (l:=l) h
theorem atNew{α:Type}:∀{l:List α}{o:α},at? (l++[o]) l.length=some o
 |[],_=>rfl
 |_::l,_=>atNew (l:=l)
theorem setNew{α:Type}:∀{l:List α}{o o':α},set (l++[o]) l.length o'=l++[o']
 |[],_,_=>rfl
 |x::l,_,_=>congrArg (x::·) (setNew (l:=l))
theorem setSet{α:Type}:∀{l:List α}{p:Nat}{o o':α},set (set l p o) p o'=set l p o'
 |[],_,_,_=>rfl
 |_::_,0,_,_=>rfl
 |x::l,p+1,_,_=>congrArg (x::·) (setSet (l:=l))
theorem da(h:at? S p=some (.ins C fs))(e:getF f fs=some v):pr up (.fld f) [.ref p] S=.ok v S:=by
 show insU p S _=_;unfold insU;rw[h];show opt (getF f fs) S=_;rw[e];rfl
theorem gG(h:at? S p=some (.ins C fs))(e:putF f v fs=fs')(hl:Nat.ble fs.length 900=true):pr up (.setf f) [.ref p,v] S=.ok .non (set S p (.ins C fs')):=by
 show insU p S _=_;unfold insU;rw[h];dsimp only;rw[hl,e]
theorem fitsO{n:Nat}{r:Res}(h:n<=sizeLine):fits n r=r:=by
 unfold fits;rw[xDk h]
theorem db(h:at? S p=some (.lst xs))(hl:xs.length+1<=sizeLine):pr up .app [.ref p,v] S=.ok .non (set S p (.lst (xs++[v]))):=by
 show lstU p S _=_;unfold lstU;rw[h];exact fitsO hl
theorem cz(h:at? S p=some (.lst xs)):pr up (.typ "list") [.ref p] S=.ok (.ref p) S:=by
 delta pr;dsimp only[tyU];rw[h];rfl
theorem ce(h:at? S p=some (.ins C fs))(e:getF m fs=none):pr up (.cls C m) [.ref p] S=.ok (.ref p) S:=by
 show insU p S _=_;unfold insU;rw[h];dsimp only;rw[xBd rfl,e]
theorem kb(h:at? S p=some (.lst xs)):pr up .len [.ref p] S=.ok (.int xs.length) S:=by
 show lenU (.ref p) S=_;unfold lenU;dsimp only;rw[h]
theorem qS(h:at? S p=some (.dct kvs)):pr up .len [.ref p] S=.ok (.int kvs.length) S:=by
 show lenU (.ref p) S=_;unfold lenU;dsimp only;rw[h]
theorem dD(h:at? S p=some (.dct kvs)):pr up .dctOf [.ref p] S=.ok (.ref S.length) (S++[.dct kvs]):=by
 delta pr;dsimp only;rw[h]
theorem fh{x:Str}(h:at? S p=some (.dct kvs))(hl:kvs.length+1<=sizeLine):pr up .seti [.ref p,.str x,v] S=.ok .non (set S p (.dct (putK (.inr x) v kvs))):=by
 show setiU p (.str x) v S=_;unfold setiU;rw[h];exact fitsO hl
theorem cG{x:Str}(h:at? S p=some (.dct kvs))(e:getK (.inr x) kvs=some v):pr up .ix [.ref p,.str x] S=.ok v S:=by
 show ixU (.ref p) (.str x) S=_;unfold ixU;dsimp only;rw[h];show opt (getK (.inr x) kvs) S=_;rw[e];rfl
end
end Fx
namespace K22
open PySem L2 Fx
variable{mg:Str->Option Value}{cls:List (Str×Addr)}{kds:List (Addr×List (Str×U)×List Str)}{fw d lv lv' j D h pq na sa n' m c2:Nat}{S:So}{N:Str->Prop}{lo hi mi wi:Int}{as L Ps ss parts more rr as':List U}{y:Str}{A B:Pg}{xx:Kx Prop}{a1 a3 a5 a7 a8 a10 a11 a13 a12 a4 a6 a0:Option U}{u9:U}{is th':List Nat}{ns:List Str}{E:Ee Prop}{kk:Sg->So->Prop}{items:List (Str×U)}{f' f1:Fd}{np:List Int}
def top(i:Nat):Stmt:=PySem.Challenge.pw_spacewright_k22_each_name_once.main.body.getD i (.Pass ⟨0,0,0,0⟩)
def cg:List (Str×U):=[("number",(.kt [(.str "number")])),("name",(.kt [(.str "used")])),("fn",(.kt [(.str "names"),(.str "part")])),("call",(.kt [(.str "part"),(.str "parts")])),("let",(.kt [(.str "name"),(.str "part"),(.str "part")])),("set",(.kt [(.str "used"),(.str "part")])),("do",(.kt [(.str "part"),(.str "part")])),("if",(.kt [(.str "part"),(.str "part"),(.str "part")])),("math",(.kt [(.str "op"),(.str "part"),(.str "part")])),("make",(.kt [(.str "word"),(.str "parts")])),("match",(.kt [(.str "part"),(.str "word"),(.str "names"),(.str "part"),(.str "part")])),("raise",(.kt [(.str "word"),(.str "part")])),("try",(.kt [(.str "part"),(.str "word"),(.str "name"),(.str "part")])),("tell",(.kt [(.str "part")])),("ask",(.kt []))]
def cy:List Str:=[]
def gj:U:=.kd cg cy
def cO:List (Str×U):=[("fn",(.kt [(.int (2)),(.int (3))])),("let",(.kt [(.int (2)),(.int (4))])),("match",(.kt [(.int (4)),(.int (5))])),("try",(.kt [(.int (4)),(.int (5))]))]
def c7:List Str:=["number","name","call","set","do","if","math","make","raise","tell","ask"]
def fO:U:=.kd cO c7
def Jv(x:Str)(i n:Nat)(m:List Bool):Str×Gd:=(x,.fn i n [] m)
def Jm(x:Str)(i n:Nat):Str×Gd:=Jv x i n []
def Tc(x:Str)(u:U):Str×Gd:=(x,.con u)
def gls:List (Str×Gd):=[Jm "is_number" 0 1,Jm "form_of" 1 1,Jm "told_anew" 2 2,Jm "parts_ahead" 3 1,Jm "is_word" 4 1,Jm "is_name" 5 1,Jm "is_place" 6 1,Jm "is_written_number" 7 1,Jm "plain" 8 1,("Checker",.cl 9 1 []),Jm "checked_row" 13 1,Jm "checked_names" 14 1,Jm "fits" 15 3,Jm "checked_program" 16 1,Jm "set_bindings" 17 1,Jv "find_sets" 18 3 [false,false,true],("Namer",.cl 19 2 []),Jm "plain_step" 27 4,Jm "named" 28 1,Jm "_law_cell_at" 29 2,Jm "_law_words" 30 1,Jm "_law_state" 31 4,Jv "_law_take" 32 2 [true,false],Jv "_law_place" 33 1 [true],Jm "_law_atom" 34 2,Jm "_law_some" 35 4,Jm "_law_unlike" 36 2,Jm "_law_loop" 37 4,Jm "_law_bind" 38 5,Jm "_law_word" 39 1,Jm "_law_plain" 40 5,Jm "_law_helper" 41 4,Jm "_law_part" 42 4,Jm "_law_program" 43 2,Jm "_law_is_number" 44 1,Jm "_law_is_atom" 45 1,Jm "_law_atoms" 46 1,Jm "_law_bodies" 47 1,Jm "_law_long" 48 1,Jm "_law_place_of" 49 1,Jm "_law_words_right" 50 1,Jm "_law_step_right" 51 3,Jv "_law_body_right" 52 3 [false,true,false],Jm "_law_places" 53 1,Jm "law" 54 1,Tc "MOST_PARTS" (.int (300)),Tc "MOST_WITHIN" (.int (20)),Tc "MOST_IN_ROW" (.int (4)),Tc "LAST_PLACE" (.int (599)),Tc "LETTERS" (.str "abcdefghijklmnopqrstuvwxyz"),Tc "OPS" (.kt [(.str "add"),(.str "sub"),(.str "mul"),(.str "less"),(.str "same")]),Tc "HEADS" (.kt [(.str "fn"),(.str "call"),(.str "let"),(.str "set"),(.str "do"),(.str "if"),(.str "add"),(.str "sub"),(.str "mul"),(.str "less"),(.str "same"),(.str "make"),(.str "match"),(.str "raise"),(.str "try"),(.str "tell"),(.str "ask")]),Tc "FORMS" gj,Tc "SCOPES" fO]
def mss:List (Str×Str×Nat×Nat):=[("check_part","Checker",10,4),("check_place","Checker",11,2),("check_thing","Checker",12,5),("new_name","Namer",20,2),("body_of","Namer",21,4),("atom_of","Namer",22,5),("atom_of_name","Namer",23,4),("atom_of_let","Namer",24,5),("outer_step","Namer",25,5),("bound_body","Namer",26,6)]
def fls:List Str:=["tag","fields","place","params","body","scope","inside","part","last","height","calls","places","inputs","taken","most","log","deeds","deepest","world","jobs","pile","set_ones"]
def bls:List Str:=["len","isinstance","abs","int","tuple","list","dict","all","any","max","min","range","zip","reversed","set","str","bool","sorted","enumerate"]
def ups:List (Str×Str):=[("SpaceError","ValueError"),("NoPart","SpaceError")]
def tb:Tb:=⟨gls,mss,fls,bls,["Function"],["Block","Function"]⟩
def J0:TEx Prop:=cV 0
def J3:TEx Prop:=cV 1
def J9:TEx Prop:=cV 2
def J8:TEx Prop:=cV 3
def Ja:TEx Prop:=cV 4
def Jb:TEx Prop:=cV 5
def Jg:TEx Prop:=cV 6
def Js:TEx Prop:=cV 7
def Y0:TEx Prop:=cV 8
def Y3:TEx Prop:=cV 9
def Y9:TEx Prop:=cV 10
def Y7:TEx Prop:=cV 11
def Y8:TEx Prop:=cV 12
def Ya:TEx Prop:=cV 13
def Jj:TEx Prop:=cC (.int 0)
def Je:TEx Prop:=cC (.int 1)
def Jo:TEx Prop:=cC (.int 2)
def Jp:TEx Prop:=cC (.int 3)
def Y2:TEx Prop:=cC (.int 4)
def Jw:TEx Prop:=cC (.int 5)
def Y4:TEx Prop:=cC (.int 6)
def Yb:TEx Prop:=cC (.int 7)
def Jf(i:Int):TEx Prop:=cC (.int i)
def J1(x:Str):TEx Prop:=cC (.str x)
def J4(a b:TEx Prop):TEx Prop:=cP .ix (lst2 a b)
def Y6(x:Str)(a:TEx Prop):TEx Prop:=cP (.fld x) (aC a aN)
def J6(p:Pm)(a:TEx Prop):TEx Prop:=cP p (aC a aN)
def J2(p:Pm)(a b:TEx Prop):TEx Prop:=cP p (lst2 a b)
def Jd(a b:TEx Prop):TTx Prop:=tB (cP .eq (lst2 a b))
def Jl(i:Nat)(a:TAx Prop):TEx Prop:=cF i a []
def Jc(i:Nat)(a:TEx Prop):TEx Prop:=cF i (aC a aN) []
def Jq(i:Nat)(a b:TEx Prop):TEx Prop:=cF i (aC a (aC b aN)) []
def Jr(a:TEx Prop):TAx Prop:=(aC a aN)
def Jy(a:TEx Prop):TEx Prop:=cT (aC a aN)
def Jn(a b:TEx Prop):TEx Prop:=cT (aC a (aC b aN))
def Ju(a b c:TEx Prop):TAx Prop:=(aC a (aC b (aC c aN)))
def Jx(a b c:TEx Prop):TEx Prop:=cT (aC a (aC b (aC c aN)))
def Jk(a b c d:TEx Prop):TAx Prop:=(aC a (aC b (aC c (aC d aN))))
def Jt(a b c d:TEx Prop):TEx Prop:=cT (aC a (aC b (aC c (aC d aN))))
def Jz(a b c d e:TEx Prop):TAx Prop:=(aC a (aC b (aC c (aC d (aC e aN)))))
def Y5(a b c d e:TEx Prop):TEx Prop:=cT (aC a (aC b (aC c (aC d (aC e aN)))))
def J5(a:TEx Prop):TSx Prop:=sQ (sR a) sN
def Jh(a:TSx Prop):TSx Prop:=sQ a sN
def J7(t:TTx Prop)(a:TSx Prop):TSx Prop:=sI t a sN
def bd10:TSx Prop:=sQ (sA 9 (J2 (.add false) J9 (Jq 2 Jb (J6 .len Jb)))) (Jh (sE (cBM "list" .app Jb (Jr (cM "Checker" "check_thing" 12 J0 (Jk Js Y0 Y3 J8) [])))))
def bd54:TSx Prop:=(Jh (J7 (tOr' (tNt (tB (Jc 44 Jb))) (tB (J2 .nin Jb (J4 Ja (J1 "places"))))) (J5 (cC (.bl false)))))
def rs54b:TSx Prop:=(sQ (J7 (tB (J2 .ne (J6 .srt (J4 Ja (J1 "given"))) (J6 .lrng (J6 .len (J4 J8 Je))))) (J5 (cC (.bl false)))) (sQ (sF (J6 .seq (J4 J8 Je)) [5] true bd54) (J5 (cB (tAn (Jd (Jc 28 J3) J8) (Jd J3 J9))))))
def rs37c:TSx Prop:=(sQ (sA 13 (Jt (J1 "call") (J4 Jg (Jf 9)) (Jx (J1 "name") (J4 Jg (Jf 10)) Ja) (Jy (Jx (J1 "number") (J4 Jg (Jf 11)) (Jq 32 J0 (Jf 8)))))) (sQ (sA 11 (Jt (J1 "do") (Jc 33 J0) (Jt (J1 "set") (Jc 33 J0) Ja Y8) Ya)) (J5 (Y5 (J1 "let") (J4 Jg (Jf 12)) Ja (Jx (J1 "number") (J4 Jg (Jf 13)) Jj) Y7))))
def rs37b:TSx Prop:=(sQ (sA 12 (Jt (J1 "fn") (J4 Jg Y4) (Jy Jb) (Y5 (J1 "if") (J4 Jg Yb) (Jx (J1 "name") (J4 Jg (Jf 8)) Jb) Y7 Y3))) rs37c)
def rz3:TSx Prop:=(sA 11 (Jt (J1 "do") (J4 Jg Jp) Y0 (Jt (J1 "call") (J4 Jg Y2) (Jx (J1 "name") (J4 Jg Jw) Ja) (Jy Y9))))
def rs37a:TSx Prop:=(sQ rz3 rs37b)
def rz4:TSx Prop:=(sA 10 (Y5 (J1 "math") (J4 Jg Jj) (J1 "sub") (Jx (J1 "name") (J4 Jg Je) Jb) (Jx (J1 "number") (J4 Jg Jo) Je)))
def rs37:TSx Prop:=(sQ rz4 rs37a)
def rs42b:TSx Prop:=(sQ (J7 (tAn (tB (J2 .lt Ja (Jf 14))) (tB (J2 .gt J8 Jp))) (J5 (Jl 41 (Jk J0 J3 J9 J8)))) (J5 (Jl 40 (Jz J0 J3 J9 (J2 .sub J8 Je) (J2 .mod (J2 .sub Ja (Jf 10)) (Jf 12))))))
def rs42:TSx Prop:=(sQ (J7 (tB (J2 .lt Ja (Jf 10))) (J5 (Jl 38 (Jz J0 J3 J9 (J2 .sub J8 Je) (J4 (cP (.lst false) (aC Je (aC Je (Jz Jj Je Jo Jp Je)))) (J2 .sub Ja Jp)))))) (sQ (J7 (tAn (tB (J2 .lt Ja (Jf 12))) (tAn (tB (J2 .gt J8 Yb)) (tB (J2 .gt (J4 J0 (J1 "parts")) (Jf 20))))) (J5 (Jl 37 (Jk J0 J3 J9 J8)))) rs42b))
def rs34:TSx Prop:=(sQ (sA 3 (Jq 32 J0 (Jf 10))) (sQ (J7 (Jd J8 (Jf 9)) (Jh (sA 3 (J2 .sub (Jq 32 J0 (J2 .pow (Jf 10) (Jf 12))) (Jq 32 J0 (J2 .pow (Jf 10) (Jf 12))))))) (J5 (Jx (J1 "number") J9 J8))))
def bd30:TSx Prop:=(sQ (sP .seti (J4 J3 (J2 .mod (J2 (.add false) (J2 .fdiv J0 (Jf 512)) (J2 .mul Jp Ja)) (Jf 26))) (lst2 Jb J8)) (Jh (sE (cBM "list" .app Jg (Jr (cBM "str" .join (J1 "") (Jr Jb)))))))
def rs40:TSx Prop:=(sQ (sA 7 (Jl 42 (Jk J0 J3 J9 J8))) (sQ (J7 (Jd Ja Jp) (J5 (Jt (J1 "raise") Jb (Jc 39 J0) Js))) (sQ (J7 (Jd Ja Y2) (J5 (Jt (J1 "call") Jb Js (Jl 35 (Jk J0 J3 J9 J8))))) (sQ (J7 (Jd Ja Jw) (J5 (Jx (J1 "tell") Jb Js))) (sQ (sA 8 (Jl 42 (Jk J0 J3 J9 J8))) (sQ (J7 (Jd Ja Y4) (J5 (Y5 (J1 "if") Jb Js Y0 (Jl 42 (Jk J0 J3 J9 J8))))) (sQ (J7 (tB (J2 .lt Ja (Jf 9))) (J5 (Y5 (J1 "math") Jb (J4 (cP (.lst false) (Jz (J1 "add") (J1 "sub") (J1 "mul") (J1 "less") (J1 "same"))) (Jq 32 J0 Jw)) Js Y0))) (J5 (Jt (J1 "do") Jb Js Y0)))))))))
def bdT:TSx Prop:=(Jh (sP .seti (J4 J0 Je) (lst2 Jb Jg)))
def bdP:TSx Prop:=(Jh (sE (Jl 18 (Ju Js Jb J9))))
def bd18:TSx Prop:=(sQ (sA 5 (J6 .dctOf J3)) (sQ (sF (J6 .seq (Jq 2 J0 J8)) [6] true bdT) (Jh (sI (Jd Ja (J1 "part")) (Jh (sE (Jl 18 (Ju (J4 J0 J8) Jb J9)))) (Jh (J7 (Jd Ja (J1 "parts")) (Jh (sF (J6 .seq (J4 J0 J8)) [7] true bdP))))))))
def bd26:TSx Prop:=(sQ (sA 9 (cM "Namer" "new_name" 20 J0 (Jr J8) [])) (sQ (sE (cBM "list" .app Js (Jr Y3))) (Jh (sP .seti (Jn (Jn (J1 "name") Y3) (cB (tB (J2 .inn (Jn J8 Y0) (Y6 "set_ones" J0))))) (lst2 Jg Y0)))))
def rsL2:TSx Prop:=(sQ (sA 13 (J6 .dctOf J9)) (sQ (sP .seti (Jn Y9 Y7) (lst2 Ya Js)) (J5 (cM "Namer" "atom_of" 22 J0 (Jk Y3 Ya J8 Ja) []))))
def rsL0:TSx Prop:=(sQ (sA 11 (cB (tB (J2 .inn (Jn Jg Js) (Y6 "set_ones" J0))))) (sQ (J7 (tB (J6 .tru Y7)) (sQ (sA 12 (cM "Namer" "new_name" 20 J0 (Jr Jg) [])) (sQ (sE (cBM "list" .app Ja (Jr (Jt (J1 "start") Y8 Y9 Jg)))) (Jh (sA 10 (Jn (J1 "name") Y8)))))) rsL2))
def rs22:TSx Prop:=(sQ (sA 9 (cM "Namer" "new_name" 20 J0 (Jr (J4 J3 Je)) [])) (sQ (sE (cBM "list" .app Ja (Jr (J2 (.add false) (Jn Js Y3) Y0)))) (J5 (Jn (J1 "name") Y3))))
def rs22o:TSx Prop:=(sQ (sI (tB (J2 .inn Jb (Jt (J1 "fn") (J1 "if") (J1 "match") (J1 "try")))) (Jh (sU [7,8] (cM "Namer" "outer_step" 25 J0 (Jk J3 Jg J9 J8) []))) (Jh (sU [7,8] (Jl 27 (Jk J3 Jg J9 J8))))) rs22)
def bd53:TSx Prop:=(Jh (sE (cBM "list" .ext J3 (Jr (Jc 53 J9)))))
def bd52:TSx Prop:=(sQ (J7 (tNt (tB (Jl 51 (Ju J8 J3 J9)))) (J5 (cC (.bl false)))) (Jh (sE (cBM "list" .app J3 (Jr (J4 J8 Je))))))
def bdA:TSx Prop:=(Jh (J7 (tOr' (tNt (tB (Jc 45 Ja))) (tAn (Jd (J4 Ja Jj) (J1 "name")) (tB (J2 .nin (J4 Ja Je) J3)))) (J5 (cC (.bl false)))))
def bdB:TSx Prop:=(sQ (J7 (tNt (tB (J6 (.isT "tuple") Jb))) (J5 (cC (.bl false)))) (sQ (sE (cBM "list" .ext (J4 J9 (J1 "given")) (Jr (J6 (.lstOf false) Jb)))) (Jh (J7 (tNt (tB (Jl 52 (Ju Jg (J2 (.add true) J3 (J6 (.lstOf false) Jb)) J9)))) (J5 (cC (.bl false)))))))
def rz1:TSx Prop:=(sQ (sA 2 (J2 .mod (J4 J0 (J1 "number")) J3)) (sQ (sP .seti (J2 .fdiv (J4 J0 (J1 "number")) J3) (lst2 J0 (J1 "number"))) (J5 J9)))
def rz2:TSx Prop:=(sQ (J7 (Jd (Jq 32 J0 Jo) Je) (Jh (sA 9 (Jt (J1 "do") (Jc 33 J0) Y3 (Jl 42 (Jk J0 J3 (J2 (.add false) J9 (J6 (.lst false) Ja)) (J2 .sub J8 Jp))))))) (J5 (Y5 (J1 "let") Js Ja Jg Y3)))
def rz5:TSx Prop:=(sQ (sA 3 (Jl 31 (Jk (Jq 29 J0 Jo) J9 J3 (J2 .fdiv (Jq 29 J0 Je) Jo)))) (J5 (Jl 42 (Jk J8 (Jc 30 (Jq 29 J0 Jj)) (cP (.lst false) aN) (Jf 14)))))
def rz6:TSx Prop:=(sQ (J7 (Jd Ja Jj) (J5 (Jt (J1 "fn") Jb Jg (Jl 42 (Jk J0 J3 (J2 (.add false) J9 (J6 (.lstOf false) Jg)) J8))))) (sQ (J7 (Jd Ja Je) (sQ (sA 8 (Jl 42 (Jk J0 J3 J9 J8))) (J5 (Y5 (J1 "let") Jb Js Y0 (Jl 42 (Jk J0 J3 (J2 (.add false) J9 (J6 (.lst false) Js)) J8)))))) (sQ (sA 9 (Jc 39 J0)) (sQ (sA 8 (Jl 42 (Jk J0 J3 J9 J8))) (sQ (J7 (Jd Ja Jo) (sQ (sA 10 (Jl 42 (Jk J0 J3 (J2 (.add false) J9 (J6 (.lstOf false) Jg)) J8))) (J5 (cT (aC (J1 "match") (aC Jb (Jz Y0 Y3 Jg Y9 (Jl 42 (Jk J0 J3 J9 J8))))))))) (J5 (cT (aC (J1 "try") (Jz Jb Y0 Y3 Js (Jl 42 (Jk J0 J3 (J2 (.add false) J9 (J6 (.lst false) Js)) J8)))))))))))
def rz7:TSx Prop:=(J7 (tAn (tB (J2 .inn (J4 J0 Jj) (J2 (.lst false) (J1 "read") (J1 "set")))) (tB (J2 .nin (J4 J0 Jo) J3))) (J5 (cC (.bl false))))
def t0:TSx Prop:=(J5 (cB (tAn (tB (J6 (.isT "int") J0)) (tNt (tB (J6 (.isT "bool") J0))))))
def Y1(x q:Str)(i:Nat)(s:Stmt)(ps ex mu:List Str)(t:TSx Prop):Fx.Row:=⟨x,q,i,s,ps,ps++ex,mu,t⟩
def Ji(x:Str):Nat->Stmt->List Str->List Str->List Str->TSx Prop->Fx.Row:=Y1 x x
def r0:Fx.Row:=Ji "is_number" 0 (top 4) ["thing"] [] [] t0
def t1:TSx Prop:=(J5 (cIf (tB (J6 (.isT "str") J0)) (J2 .get1 (cC gj) J0) (cC .non)))
def r1:Fx.Row:=Ji "form_of" 1 (top 15) ["kind"] [] [] t1
def t2:TSx Prop:=(sQ (sU [2,3] (cP .get2 (Ju (cC fO) (J4 J0 Jj) (Jn (cC .non) (cC .non))))) (sQ (J7 (tB (J2 .ne J3 J8)) (J5 (cT aN))) (sQ (sA 4 (J4 J0 J9)) (J5 (cIf (tB (J6 (.isT "tuple") Ja)) Ja (Jy Ja))))))
def r2:Fx.Row:=Ji "told_anew" 2 (top 16) ["part","index"] ["names_at","scope_at","names"] [] t2
def t3:TSx Prop:=(sQ (sA 1 (J4 J0 Jj)) (sQ (J7 (Jd J3 (J1 "call")) (J5 (J2 (.add false) (Jy (J4 J0 Jo)) (J4 J0 Jp)))) (sQ (J7 (Jd J3 (J1 "math")) (J5 (J2 (.sl false true false) J0 Jp))) (sQ (J7 (Jd J3 (J1 "make")) (J5 (J4 J0 Jp))) (sQ (J7 (tB (J2 .inn J3 (Jn (J1 "set") (J1 "raise")))) (J5 (Jy (J4 J0 Jp)))) (sQ (J7 (tB (J2 .inn J3 (Jx (J1 "if") (J1 "match") (J1 "tell")))) (J5 (Jy (J4 J0 Jo)))) (J5 (cT aN))))))))
def r3:Fx.Row:=Ji "parts_ahead" 3 (top 17) ["part"] ["kind"] [] t3
def t4:TSx Prop:=(sQ (J7 (tOr' (tNt (tB (J6 (.isT "str") J0))) (tNt (tCh .le .le Je (J6 .len J0) (Jf 8)))) (J5 (cC (.bl false)))) (J5 (J6 .all (cL (J6 .seq J0) [1] true 2 [] none (cB (tB (J2 .inn J3 (J1 "abcdefghijklmnopqrstuvwxyz"))))))))
def r4:Fx.Row:=Ji "is_word" 4 (top 18) ["thing"] [] [] t4
def t5:TSx Prop:=(J5 (cB (tAn (tB (Jc 4 J0)) (tB (J2 .nin J0 (cC (.kt [(.str "fn"),(.str "call"),(.str "let"),(.str "set"),(.str "do"),(.str "if"),(.str "add"),(.str "sub"),(.str "mul"),(.str "less"),(.str "same"),(.str "make"),(.str "match"),(.str "raise"),(.str "try"),(.str "tell"),(.str "ask")])))))))
def r5:Fx.Row:=Ji "is_name" 5 (top 19) ["thing"] [] [] t5
def t6:TSx Prop:=(J5 (cB (tAn (tB (Jc 0 J0)) (tCh .le .le Jj J0 (Jf 599)))))
def r6:Fx.Row:=Ji "is_place" 6 (top 20) ["thing"] [] [] t6
def t7:TSx Prop:=(J5 (cB (tAn (tB (Jc 0 J0)) (tB (J2 .lt (J6 .abs J0) (J2 .pow (Jf 10) (Jf 12)))))))
def r7:Fx.Row:=Ji "is_written_number" 7 (top 21) ["thing"] [] [] t7
def t8:TSx Prop:=(sQ (J7 (tB (J6 (.isT "tuple") J0)) (J5 (J2 (.add false) (cT aN) J0))) (sQ (J7 (tB (J6 (.isT "str") J0)) (J5 (cBM "str" .join (J1 "") (Jr (J6 (.lst false) J0))))) (sQ (J7 (tB (Jc 0 J0)) (J5 (J6 .int1 J0))) (J5 J0))))
def r8:Fx.Row:=Ji "plain" 8 (top 22) ["thing"] [] [] t8
def t9:TSx Prop:=(Jh (sP (.setf "places") (cP (.dct []) aN) (Jr J0)))
def r9:Fx.Row:=Y1 "__init__" "Checker.__init__" 9 (inClass (top 23) 0) ["self"] [] [] t9
def t10:TSx Prop:=(sQ (sA 4 (Jc 8 J3)) (sQ (J7 (tOr' (tNt (tB (J6 (.isT "tuple") Ja))) (tB (J2 .lt (J6 .len Ja) Jo))) (Jh sZ)) (sQ (sA 5 (J2 (.lst true) (Jc 8 (J4 Ja Jj)) (Jc 8 (J4 Ja Je)))) (sQ (sA 6 (Jc 1 (J4 Jb Jj))) (sQ (J7 (tOr' (tB (J6 .isN Jg)) (tB (J2 .ne (J6 .len Ja) (J2 (.add false) Jo (J6 .len Jg))))) (Jh sZ)) (sQ (sE (cM "Checker" "check_place" 11 J0 (Jr (J4 Jb Je)) [])) (sQ (J7 (tB (J2 .nin (J4 Jb Jj) (Jn (J1 "number") (J1 "name")))) (Jh (sA 3 (J2 (.add false) J8 Je)))) (sQ (J7 (tB (J2 .gt J8 (Jf 20))) (Jh sZ)) (sQ (sF (J2 .zip Jg (J2 (.sl false true false) Ja Jo)) [7,8] false (bd10)) (J5 (J6 .tupOf Jb)))))))))))
def r10:Fx.Row:=Y1 "check_part" "Checker.check_part" 10 (inClass (top 23) 1) ["self","thing","there","within"] ["part","known","form","sort","inner","scope"] ["known"] t10
def t11:TSx Prop:=(sQ (J7 (tOr' (tNt (tB (Jc 6 J3))) (tB (J2 .inn J3 (Y6 "places" J0)))) (Jh sZ)) (sQ (sP .seti (cC (.bl true)) (lst2 (Y6 "places" J0) J3)) (Jh (J7 (tB (J2 .gt (J6 .len (Y6 "places" J0)) (Jf 300))) (Jh sZ)))))
def r11:Fx.Row:=Y1 "check_place" "Checker.check_place" 11 (inClass (top 23) 2) ["self","place"] [] [] t11
def t12:TSx Prop:=(sQ (J7 (Jd J3 (J1 "part")) (J5 (cM "Checker" "check_part" 10 J0 (Ju J9 J8 Ja) []))) (sQ (J7 (Jd J3 (J1 "parts")) (J5 (J6 .tupOf (cL (J6 .seq (Jc 13 J9)) [1] true 2 [4,3,0] none (cM "Checker" "check_part" 10 Ja (Ju J3 J8 J9) []))))) (sQ (J7 (Jd J3 (J1 "names")) (J5 (Jc 14 J9))) (sQ (sA 5 (Jc 8 J9)) (sQ (J7 (tNt (tB (Jl 15 (Ju J3 Jb J8)))) (Jh sZ)) (J5 Jb))))))
def r12:Fx.Row:=Y1 "check_thing" "Checker.check_thing" 12 (inClass (top 23) 3) ["self","sort","thing","there","within"] ["single"] [] t12
def t13:TSx Prop:=(sQ (sA 1 (Jc 8 J0)) (sQ (J7 (tOr' (tNt (tB (J6 (.isT "tuple") J3))) (tB (J2 .gt (J6 .len J3) Y2))) (Jh sZ)) (J5 J3)))
def r13:Fx.Row:=Ji "checked_row" 13 (top 24) ["thing"] ["row"] [] t13
def t14:TSx Prop:=(sQ (sA 1 (J6 .tupOf (cL (J6 .seq (Jc 13 J0)) [1] true 2 [] none (Jc 8 J3)))) (sQ (J7 (tOr' (tNt (tB (J6 .all (cL (J6 .seq J3) [1] true 2 [] none (Jc 5 J3))))) (tB (J2 .lt (J6 .lenset J3) (J6 .len J3)))) (Jh sZ)) (J5 J3)))
def r14:Fx.Row:=Ji "checked_names" 14 (top 25) ["thing"] ["names"] [] t14
def t15:TSx Prop:=(sQ (J7 (Jd J0 (J1 "number")) (J5 (Jc 7 J3))) (sQ (J7 (Jd J0 (J1 "op")) (J5 (cB (tAn (tB (Jc 4 J3)) (tB (J2 .inn J3 (cC (.kt [(.str "add"),(.str "sub"),(.str "mul"),(.str "less"),(.str "same")])))))))) (sQ (J7 (Jd J0 (J1 "word")) (J5 (Jc 4 J3))) (sQ (J7 (Jd J0 (J1 "used")) (J5 (cB (tAn (tB (Jc 5 J3)) (tB (J2 .inn J3 J9)))))) (J5 (Jc 5 J3))))))
def r15:Fx.Row:=Ji "fits" 15 (top 26) ["sort","thing","there"] [] [] t15
def t16:TSx Prop:=(J5 (cM "Checker" "check_part" 10 (cK "Checker" 9 aN []) (Ju J0 (cT aN) Jj) []))
def r16:Fx.Row:=Ji "checked_program" 16 (top 27) ["thing"] [] [] t16
def t17:TSx Prop:=(sQ (sA 1 (cP .dctT aN)) (sQ (sE (Jl 18 (Ju J0 (cP (.dct []) aN) J3))) (J5 J3)))
def r17:Fx.Row:=Ji "set_bindings" 17 (top 29) ["program"] ["found"] ["#found"] t17
def t18:TSx Prop:=(sQ (J7 (Jd (J4 J0 Jj) (J1 "set")) (Jh (sP .seti (cC (.bl true)) (lst2 J9 (Jn (J4 J3 (J4 J0 Jo)) (J4 J0 Jo)))))) (Jh (sF (J6 .enm2 (Jc 1 (J4 J0 Jj))) [3,4] false (sQ (sA 5 (J6 .dctOf J3)) (sQ (sF (J6 .seq (Jq 2 J0 J8)) [6] true bdT) (Jh (sI (Jd Ja (J1 "part")) (Jh (sE (Jl 18 (Ju (J4 J0 J8) Jb J9)))) (Jh (J7 (Jd Ja (J1 "parts")) (Jh (sF (J6 .seq (J4 J0 J8)) [7] true bdP)))))))))))
def r18:Fx.Row:=Ji "find_sets" 18 (top 30) ["part","scope","found"] ["index","sort","grown","name","one"] ["found","grown"] t18
def t19:TSx Prop:=(sQ (sP (.setf "set_ones") (Jc 17 J3) (Jr J0)) (Jh (sP (.setf "places") (cP (.lst true) aN) (Jr J0))))
def r19:Fx.Row:=Y1 "__init__" "Namer.__init__" 19 (inClass (top 31) 0) ["self","program"] [] [] t19
def t20:TSx Prop:=(sQ (sE (cBM "list" .app (Y6 "places" J0) (Jr J3))) (J5 (J2 .sub (J6 .len (Y6 "places" J0)) Je)))
def r20:Fx.Row:=Y1 "new_name" "Namer.new_name" 20 (inClass (top 31) 1) ["self","place"] [] [] t20
def t21:TSx Prop:=(sQ (sA 4 (cP (.lst true) aN)) (sQ (sA 5 (cM "Namer" "atom_of" 22 J0 (Jk J3 J9 J8 Ja) [])) (J5 (Jn (J6 .tupOf Ja) Jb))))
def r21:Fx.Row:=Y1 "body_of" "Namer.body_of" 21 (inClass (top 31) 2) ["self","part","scope","last"] ["steps","atom"] ["steps"] t21
def t22:TSx Prop:=(sQ (sA 5 (J4 J3 Jj)) (sQ (J7 (Jd Jb (J1 "number")) (J5 (Jn (J1 "number") (J4 J3 Jo)))) (sQ (J7 (Jd Jb (J1 "name")) (J5 (cM "Namer" "atom_of_name" 23 J0 (Ju J3 J9 Ja) []))) (sQ (J7 (Jd Jb (J1 "do")) (sQ (sE (cM "Namer" "atom_of" 22 J0 (Jk (J4 J3 Jo) J9 (cC (.bl false)) Ja) [])) (J5 (cM "Namer" "atom_of" 22 J0 (Jk (J4 J3 Jp) J9 J8 Ja) [])))) (sQ (J7 (Jd Jb (J1 "let")) (J5 (cM "Namer" "atom_of_let" 24 J0 (Jk J3 J9 J8 Ja) []))) (sQ (sA 6 (J6 .tupOf (cL (J6 .seq (Jc 3 J3)) [1] true 2 [4,0,2] none (cM "Namer" "atom_of" 22 J8 (Jk J3 Ja (cC (.bl false)) J9) [])))) (sQ (sI (tB (J2 .inn Jb (Jt (J1 "fn") (J1 "if") (J1 "match") (J1 "try")))) (Jh (sU [7,8] (cM "Namer" "outer_step" 25 J0 (Jk J3 Jg J9 J8) []))) (Jh (sU [7,8] (Jl 27 (Jk J3 Jg J9 J8))))) rs22)))))))
def r22:Fx.Row:=Y1 "atom_of" "Namer.atom_of" 22 (inClass (top 31) 3) ["self","part","scope","last","steps"] ["kind","atoms","word","more","to"] ["steps"] t22
def t23:TSx Prop:=(sQ (sU [4,5] (J4 J9 (J4 J3 Jo))) (sQ (J7 (tNt (tB (J6 .tru Jb))) (J5 Ja)) (sQ (sA 6 (cM "Namer" "new_name" 20 J0 (Jr (J4 J3 Je)) [])) (sQ (sE (cBM "list" .app J8 (Jr (Jx (J1 "read") Jg (J4 Ja Je))))) (J5 (Jn (J1 "name") Jg))))))
def r23:Fx.Row:=Y1 "atom_of_name" "Namer.atom_of_name" 23 (inClass (top 31) 4) ["self","part","scope","steps"] ["atom","is_set","to"] ["steps"] t23
def t24:TSx Prop:=(sQ (sU [5,6,7,8,9] J3) (sQ (sA 10 (cM "Namer" "atom_of" 22 J0 (Jk Y0 J9 (cC (.bl false)) Ja) [])) (sQ (sA 11 (cB (tB (J2 .inn (Jn Jg Js) (Y6 "set_ones" J0))))) (sQ (J7 (tB (J6 .tru Y7)) (sQ (sA 12 (cM "Namer" "new_name" 20 J0 (Jr Jg) [])) (sQ (sE (cBM "list" .app Ja (Jr (Jt (J1 "start") Y8 Y9 Jg)))) (Jh (sA 10 (Jn (J1 "name") Y8)))))) rsL2))))
def r24:Fx.Row:=Y1 "atom_of_let" "Namer.atom_of_let" 24 (inClass (top 31) 5) ["self","part","scope","last","steps"] ["kind","place","name","one","other","atom","is_set","to","grown"] ["steps","grown"] t24
def t25:TSx Prop:=(sQ (sU [5,6] (J2 (.sl false false true) J3 Jo)) (sQ (J7 (Jd Jb (J1 "fn")) (sQ (sU [7,8] (cM "Namer" "bound_body" 26 J0 (Jz (J4 J3 Jo) (J4 J3 Jp) Jg J8 (cC (.bl true))) [])) (J5 (Jn (J1 "func") (Jx Js Y0 Jg))))) (sQ (J7 (Jd Jb (J1 "if")) (sQ (sA 10 (J6 .tupOf (cL (J6 .seq (J2 (.sl false true false) J3 Jp)) [1] true 2 [0,3,4] none (cM "Namer" "body_of" 21 J9 (Ju J3 J8 Ja) [])))) (J5 (Jn (J1 "if") (J2 (.add false) (J2 (.add false) J9 Y9) (Jy Jg)))))) (sQ (J7 (Jd Jb (J1 "match")) (sQ (sU [11,12] (cM "Namer" "bound_body" 26 J0 (Jz (J4 J3 Y2) (J4 J3 Jw) Jg J8 Ja) [])) (J5 (Jn (J1 "match") (J2 (.add false) J9 (Y5 (J4 J3 Jp) Y7 Y8 (cM "Namer" "body_of" 21 J0 (Ju (J4 J3 Y4) J8 Ja) []) Jg)))))) (sQ (sA 9 (cM "Namer" "body_of" 21 J0 (Ju (J4 J3 Jo) J8 (cC (.bl false))) [])) (sQ (sU [11,13] (cM "Namer" "bound_body" 26 J0 (Jz (Jy (J4 J3 Y2)) (J4 J3 Jw) Jg J8 Ja) [])) (J5 (Jn (J1 "try") (Y5 Y3 (J4 J3 Jp) (J4 Y7 Jj) Ya Jg)))))))))
def r25:Fx.Row:=Y1 "outer_step" "Namer.outer_step" 25 (inClass (top 31) 6) ["self","part","atoms","scope","last"] ["kind","place","params","body","one","bodies","names","yes","other"] [] t25
def t26:TSx Prop:=(sQ (sA 6 (J6 .dctOf Ja)) (sQ (sA 7 (cP (.lst true) aN)) (sQ (sF (J6 .seq J3) [8] true bd26) (J5 (Jn (J6 .tupOf Js) (cM "Namer" "body_of" 21 J0 (Ju J9 Jg Jb) []))))))
def r26:Fx.Row:=Y1 "bound_body" "Namer.bound_body" 26 (inClass (top 31) 7) ["self","names","part","place","scope","last"] ["grown","given","name","to"] ["given","grown"] t26
def t27:TSx Prop:=(sQ (sU [4,5] (J2 (.sl false false true) J0 Jo)) (sQ (J7 (Jd Ja (J1 "call")) (J5 (Jn (J1 "call") (Jt (J4 J3 Jj) (J2 (.sl false true false) J3 Je) Jb J8)))) (sQ (J7 (Jd Ja (J1 "make")) (J5 (Jn (J1 "make") (Jx (J4 J0 Jo) J3 Jb)))) (sQ (J7 (Jd Ja (J1 "set")) (J5 (Jn (J1 "set") (J2 (.add false) (J2 (.add false) (Jy (J4 (J4 (J4 J9 (J4 J0 Jo)) Jj) Je)) J3) (Jy Jb))))) (sQ (J7 (tB (J2 .inn Ja (Jn (J1 "math") (J1 "raise")))) (J5 (Jn Ja (J2 (.add false) (J2 (.add false) (Jy (J4 J0 Jo)) J3) (Jy Jb))))) (J5 (Jn Ja (J2 (.add false) J3 (Jy Jb)))))))))
def r27:Fx.Row:=Ji "plain_step" 27 (top 32) ["part","atoms","scope","last"] ["kind","place"] [] t27
def t28:TSx Prop:=(sQ (sA 1 (Jc 16 J0)) (sQ (sA 2 (cK "Namer" 19 (Jr J3) [])) (sQ (sA 3 (cM "Namer" "body_of" 21 J9 (Ju J3 (cP (.dct []) aN) (cC (.bl true))) [])) (J5 (Jn J8 (J6 .tupOf (Y6 "places" J9)))))))
def r28:Fx.Row:=Ji "named" 28 (top 33) ["program"] ["checked","namer","body"] [] t28
def t29:TSx Prop:=(sQ (J7 (tB (J2 .lt J3 (J6 .len J0))) (J5 (J4 J0 J3))) (J5 Jj))
def r29:Fx.Row:=Ji "_law_cell_at" 29 (top 35) ["_law_script","_law_k"] [] [] t29
def t30:TSx Prop:=(sQ (sA 1 (J1 "abcdefghijklmnopqrstuvwxyz")) (sQ (sA 2 (J2 (.add false) Je (J2 .mod J0 (Jf 8)))) (sQ (sA 3 (J2 .mod (J2 .fdiv J0 (Jf 8)) J9)) (sQ (sA 5 (J6 .thw (cL (J6 .rng1 J9) [1] true 2 [1,0] none (J4 J9 (J2 .mod (J2 (.add false) (J2 .fdiv (J2 .fdiv J8 (Jf 64)) (J2 (.add false) J3 Je)) (J2 .mul Jw J3)) (Jf 26)))))) (sQ (sP .seti (J4 (J1 "gjpqvwxz") (J2 .mod (J2 .fdiv J0 (Jf 8)) (Jf 8))) (lst2 Jb (J2 .mod (J2 (.add false) J8 Je) J9))) (sQ (sA 6 (cP (.lst true) aN)) (sQ (sF (J6 .rng1 Jw) [4] true bd30) (J5 (J6 .frz Jg)))))))))
def r30:Fx.Row:=Ji "_law_words" 30 (top 36) ["_law_cell"] ["_law_letters","_law_size","_law_at","_law_k","_law_base","_law_words_here"] ["_law_base","_law_words_here","!_law_base","!_law_words_here"] t30
def t31:TSx Prop:=(sQ (sA 4 (J2 .max J0 (J2 .sub (J6 .neg Je) J0))) (J5 (cP (.dct ["number","seed","parts","places","shift"]) (Jz Ja (J2 .mod J3 (Jf 2147483646)) J9 Jj (J2 .mod J8 (Jf 600))))))
def r31:Fx.Row:=Ji "_law_state" 31 (top 37) ["_law_cell","_law_seed","_law_parts","_law_shift"] ["_law_number"] [] t31
def t32:TSx Prop:=(sQ (J7 (tAn (Jd (J4 J0 (J1 "number")) Jj) (tB (J2 .gt (J4 J0 (J1 "seed")) Jj))) (sQ (sP .seti (J2 .mod (J2 .mul (J4 J0 (J1 "seed")) (Jf 48271)) (Jf 2147483647)) (lst2 J0 (J1 "seed"))) (Jh (sP .seti (J2 .mod (J2 .mul (J4 J0 (J1 "seed")) (J4 J0 (J1 "seed"))) (Jf 2147483629)) (lst2 J0 (J1 "number")))))) rz1)
def r32:Fx.Row:=Ji "_law_take" 32 (top 38) ["_law_state_here","_law_many"] ["_law_digit"] ["_law_state_here"] t32
def t33:TSx Prop:=(sQ (sP .seti (J2 (.add true) (J4 J0 (J1 "places")) Je) (lst2 J0 (J1 "places"))) (sQ (sP .seti (J2 .sub (J4 J0 (J1 "parts")) Je) (lst2 J0 (J1 "parts"))) (J5 (J2 .mod (J2 (.add false) (J2 .mul Yb (J4 J0 (J1 "places"))) (J4 J0 (J1 "shift"))) (Jf 600)))))
def r33:Fx.Row:=Ji "_law_place" 33 (top 39) ["_law_state_here"] [] ["_law_state_here"] t33
def t34:TSx Prop:=(sQ (sA 2 (Jc 33 J0)) (sQ (J7 (tAn (tB (J2 .ne J3 (cP (.lst false) aN))) (tB (J2 .gt (Jq 32 J0 Jp) Jj))) (J5 (Jx (J1 "name") J9 (J4 J3 (Jq 32 J0 (J6 .len J3)))))) rs34))
def r34:Fx.Row:=Ji "_law_atom" 34 (top 40) ["_law_state_here","_law_scope"] ["_law_place_here","_law_number"] [] t34
def t35:TSx Prop:=(J5 (J6 .tupOf (cL (J6 .rng1 (Jq 32 J0 Jw)) [1] true 2 [0,2,1,3] none (Jl 42 (Jk J9 Ja J8 Jb)))))
def r35:Fx.Row:=Ji "_law_some" 35 (top 41) ["_law_state_here","_law_names","_law_scope","_law_deep"] [] [] t35
def t36:TSx Prop:=(sQ (sA 2 (Jq 32 J0 (J6 .len J3))) (sQ (sA 3 (J2 .min (Jq 32 J0 Jw) (J6 .len J3))) (J5 (J6 .tupOf (cL (J6 .rng1 J8) [1] true 2 [1,2] none (J4 J9 (J2 .mod (J2 (.add false) J8 J3) (J6 .len J9))))))))
def r36:Fx.Row:=Ji "_law_unlike" 36 (top 42) ["_law_state_here","_law_names"] ["_law_first","_law_many"] [] t36
def t37:TSx Prop:=(sQ (sPr 4 5 (J4 J3 (Jq 32 J0 (J6 .len J3))) (J1 "n")) (sQ (sA 6 (cL (J6 .rng1 (Jf 14)) [1] true 2 [0] none (Jc 33 J9))) (sQ (sA 7 (J2 (.add false) J9 (J2 (.lst false) Ja Jb))) (sQ (sA 8 (Jl 42 (Jk J0 J3 Js (J2 .sub J8 Y4)))) (sQ (sA 9 (Jl 42 (Jk J0 J3 Js (J2 .sub J8 Y4)))) (sQ rz4 rs37a))))))
def r37:Fx.Row:=Ji "_law_loop" 37 (top 43) ["_law_state_here","_law_names","_law_scope","_law_deep"] ["_law_f","_law_n","_law_p","_law_wide","_law_body","_law_end","_law_less","_law_again","_law_step","_law_start"] [] t37
def t38:TSx Prop:=(sQ (sA 5 (Jc 33 J0)) (sQ (sA 6 (Jq 36 J0 J3)) (sQ (sA 7 (J4 J3 (Jq 32 J0 (J6 .len J3)))) rz6)))
def r38:Fx.Row:=Ji "_law_bind" 38 (top 44) ["_law_state_here","_law_names","_law_scope","_law_deep","_law_way"] ["_law_place_here","_law_some_here","_law_one","_law_begin","_law_tag","_law_yes"] [] t38
def t39:TSx Prop:=(J5 (J4 (cP (.lst false) (aC (J1 "kind") (Jz (J1 "odd") (J1 "big") (J1 "a") (J1 "b") (J1 "ab")))) (Jq 32 J0 Y4)))
def r39:Fx.Row:=Ji "_law_word" 39 (top 45) ["_law_state_here"] [] [] t39
def t40:TSx Prop:=(sQ (sA 5 (Jc 33 J0)) (sQ (J7 (tAn (Jd Ja Jj) (tB (J2 .ne J9 (cP (.lst false) aN)))) (sQ (sA 6 (J4 J9 (Jq 32 J0 (J6 .len J9)))) (J5 (Jt (J1 "set") Jb Jg (Jl 42 (Jk J0 J3 J9 J8)))))) (sQ (J7 (Jd Ja Je) (J5 (Jt (J1 "make") Jb (Jc 39 J0) (Jl 35 (Jk J0 J3 J9 J8))))) (sQ (J7 (Jd Ja Jo) (J5 (Jn (J1 "ask") Jb))) rs40))))
def r40:Fx.Row:=Ji "_law_plain" 40 (top 46) ["_law_state_here","_law_names","_law_scope","_law_deep","_law_way"] ["_law_place_here","_law_one","_law_first","_law_other"] [] t40
def t41:TSx Prop:=(sQ (sA 4 (J4 J3 (Jq 32 J0 (J6 .len J3)))) (sQ (sA 5 (Jq 36 J0 J3)) (sQ (sA 6 (Jt (J1 "fn") (Jc 33 J0) Jb (Jl 42 (Jk J0 J3 (J2 (.add false) J9 (J6 (.lstOf false) Jb)) (J2 .sub J8 Jp))))) (sQ (sA 7 (Jc 33 J0)) (sQ (sA 8 (J6 .tupOf (cL (J6 .seq Jb) [1] true 2 [0,2,1,4,3] none (Jl 42 (Jk J9 Ja (J2 (.add false) J8 (J6 (.lst false) Jb)) (J2 .sub Jg Jp)))))) (sQ (sA 9 (Jt (J1 "call") (Jc 33 J0) (Jx (J1 "name") (Jc 33 J0) Ja) Y0)) rz2))))))
def r41:Fx.Row:=Ji "_law_helper" 41 (top 47) ["_law_state_here","_law_names","_law_scope","_law_deep"] ["_law_f","_law_some_here","_law_wide","_law_place_here","_law_args","_law_call"] [] t41
def t42:TSx Prop:=(sQ (sA 4 (Jq 32 J0 (Jf 26))) (sQ (J7 (tOr' (tB (J2 .lt Ja Jp)) (tOr' (tB (J2 .le J8 Jj)) (tB (J2 .le (J4 J0 (J1 "parts")) Jj)))) (J5 (Jq 34 J0 J9))) rs42))
def r42:Fx.Row:=Ji "_law_part" 42 (top 48) ["_law_state_here","_law_names","_law_scope","_law_deep"] ["_law_way"] [] t42
def t43:TSx Prop:=(sQ (sA 2 Jj) (sQ (J7 (Jd (J2 .mod (Jq 29 J0 Je) Jo) Je) (Jh (sA 2 (J2 (.add false) Je (J2 .mod (Jq 29 J0 Je) (Jf 2147483645)))))) rz5))
def r43:Fx.Row:=Ji "_law_program" 43 (top 49) ["_law_script","_law_parts"] ["_law_seed","_law_state_here"] [] t43
def t44:TSx Prop:=(J5 (cB (tAn (tB (J6 (.isT "int") J0)) (tNt (tB (J6 (.isT "bool") J0))))))
def r44:Fx.Row:=Ji "_law_is_number" 44 (top 50) ["_law_thing"] [] [] t44
def t45:TSx Prop:=(sQ (J7 (tOr' (tNt (tB (J6 (.isT "tuple") J0))) (tOr' (tB (J2 .ne (J6 .len J0) Jo)) (tB (J2 .nin (J4 J0 Jj) (J2 (.lst false) (J1 "number") (J1 "name")))))) (J5 (cC (.bl false)))) (J5 (Jc 44 (J4 J0 Je))))
def r45:Fx.Row:=Ji "_law_is_atom" 45 (top 51) ["_law_atom_here"] [] [] t45
def t46:TSx Prop:=(sQ (sA 1 (J4 J0 Jj)) (sQ (J7 (tB (J2 .inn J3 (cP (.lst false) (Jk (J1 "start") (J1 "tell") (J1 "if") (J1 "match"))))) (J5 (J6 (.lst false) (J4 J0 Jo)))) (sQ (J7 (tB (J2 .inn J3 (J2 (.lst false) (J1 "set") (J1 "raise")))) (J5 (J6 (.lst false) (J4 J0 Jp)))) (sQ (J7 (Jd J3 (J1 "math")) (J5 (J2 (.lst false) (J4 J0 Jp) (J4 J0 Y2)))) (sQ (J7 (Jd J3 (J1 "make")) (J5 (J6 (.lstOf false) (J4 J0 Jp)))) (sQ (J7 (Jd J3 (J1 "call")) (J5 (J2 (.add false) (J6 (.lst false) (J4 J0 Jo)) (J6 (.lstOf false) (J4 J0 Jp))))) (J5 (cP (.lst false) aN))))))))
def r46:Fx.Row:=Ji "_law_atoms" 46 (top 52) ["_law_step"] ["_law_word_here"] [] t46
def t47:TSx Prop:=(sQ (sA 1 (J4 J0 Jj)) (sQ (J7 (Jd J3 (J1 "func")) (J5 (J6 (.lst false) (Jn (J4 J0 Jo) (J4 J0 Jp))))) (sQ (J7 (Jd J3 (J1 "if")) (J5 (J2 (.lst false) (Jn (cT aN) (J4 J0 Jp)) (Jn (cT aN) (J4 J0 Y2))))) (sQ (J7 (Jd J3 (J1 "match")) (J5 (J2 (.lst false) (Jn (J4 J0 Y2) (J4 J0 Jw)) (Jn (cT aN) (J4 J0 Y4))))) (sQ (J7 (Jd J3 (J1 "try")) (J5 (J2 (.lst false) (Jn (cT aN) (J4 J0 Jo)) (Jn (Jy (J4 J0 Y2)) (J4 J0 Jw))))) (J5 (cP (.lst false) aN)))))))
def r47:Fx.Row:=Ji "_law_bodies" 47 (top 53) ["_law_step"] ["_law_word_here"] [] t47
def t48:TSx Prop:=(sQ (sA 1 (cP (.dct ["start","read","math","make","func","set","tell","ask","call"]) (aC Y2 (aC Jp (aC Y4 (aC Jw (Jz Jw Jw Y2 Jp Y4))))))) (sQ (sE (cBM "dict" .upd J3 (Jr (cP (.dct ["if","match","try","raise"]) (Jk Y4 (Jf 8) Yb Jw))))) (sQ (J7 (tOr' (tNt (tB (J6 (.isT "tuple") J0))) (tOr' (Jd (J6 .len J0) Jj) (tB (J2 .nin (J4 J0 Jj) J3)))) (J5 (cC (.bl false)))) (J5 (cB (tAn (Jd (J6 .len J0) (J4 J3 (J4 J0 Jj))) (tB (Jc 44 (J4 J0 Je)))))))))
def r48:Fx.Row:=Ji "_law_long" 48 (top 54) ["_law_step"] ["_law_many"] [] t48
def t49:TSx Prop:=(sQ (J7 (Jd (J4 J0 Jj) (J1 "call")) (J5 (J4 J0 Y2))) (sQ (J7 (Jd (J4 J0 Jj) (J1 "read")) (J5 (cC .non))) (J5 (J4 J0 (J6 .neg Je)))))
def r49:Fx.Row:=Ji "_law_place_of" 49 (top 55) ["_law_step"] [] [] t49
def t50:TSx Prop:=(sQ (sA 1 (J4 J0 Jj)) (sQ (J7 (tAn (Jd J3 (J1 "math")) (tB (J2 .nin (J4 J0 Jo) (cP (.lst false) (Jz (J1 "add") (J1 "sub") (J1 "mul") (J1 "less") (J1 "same")))))) (J5 (cC (.bl false)))) (sQ (J7 (tAn (tB (J2 .inn J3 (J2 (.lst false) (J1 "make") (J1 "raise")))) (tNt (tB (J6 (.isT "str") (J4 J0 Jo))))) (J5 (cC (.bl false)))) (sQ (J7 (tAn (tB (J2 .inn J3 (J2 (.lst false) (J1 "match") (J1 "try")))) (tNt (tB (J6 (.isT "str") (J4 J0 Jp))))) (J5 (cC (.bl false)))) (sQ (J7 (tAn (Jd J3 (J1 "call")) (tNt (tB (J6 (.isT "bool") (J4 J0 Jw))))) (J5 (cC (.bl false)))) (sQ (J7 (tAn (tB (J2 .inn J3 (J2 (.lst false) (J1 "make") (J1 "call")))) (tNt (tB (J6 (.isT "tuple") (J4 J0 Jp))))) (J5 (cC (.bl false)))) (J5 (cB (tOr' (tB (J2 .nin J3 (J2 (.lst false) (J1 "read") (J1 "set")))) (tB (Jc 44 (J4 J0 Jo))))))))))))
def r50:Fx.Row:=Ji "_law_words_right" 50 (top 56) ["_law_step"] ["_law_word_here"] [] t50
def t51:TSx Prop:=(sQ (J7 (tOr' (tNt (tB (Jc 48 J0))) (tNt (tB (Jc 50 J0)))) (J5 (cC (.bl false)))) (sQ (sA 3 (Jc 49 J0)) (sQ (J7 (tAn (tB (J6 .notN J8)) (tB (J2 .nin J8 (J4 J9 (J1 "places"))))) (J5 (cC (.bl false)))) (sQ rz7 (sQ (sF (J6 .seq (Jc 46 J0)) [4] true bdA) (sQ (sF (J6 .seq (Jc 47 J0)) [5,6] false bdB) (sQ (sE (cBM "list" .app (J4 J9 (J1 "given")) (Jr (J4 J0 Je)))) (J5 (cC (.bl true))))))))))
def r51:Fx.Row:=Ji "_law_step_right" 51 (top 57) ["_law_step","_law_there","_law_walk"] ["_law_place_here","_law_atom_here","_law_names","_law_body"] [] t51
def t52:TSx Prop:=(sQ (J7 (tOr' (tNt (tB (J6 (.isT "tuple") J0))) (tOr' (tB (J2 .ne (J6 .len J0) Jo)) (tNt (tB (J6 (.isT "tuple") (J4 J0 Jj)))))) (J5 (cC (.bl false)))) (sQ (sA 1 (J6 (.lstOf true) J3)) (sQ (sF (J6 .seq (J4 J0 Jj)) [3] true bd52) (sQ (J7 (tNt (tB (Jc 45 (J4 J0 Je)))) (J5 (cC (.bl false)))) (J5 (cB (tOr' (Jd (J4 (J4 J0 Je) Jj) (J1 "number")) (tB (J2 .inn (J4 (J4 J0 Je) Je) J3)))))))))
def r52:Fx.Row:=Ji "_law_body_right" 52 (top 58) ["_law_body","_law_there","_law_walk"] ["_law_step"] ["_law_there"] t52
def t53:TSx Prop:=(sQ (sA 1 (cP (.lst true) aN)) (sQ (J7 (tB (J6 (.isT "tuple") J0)) (sQ (J7 (tAn (tB (J2 .gt (J6 .len J0) Je)) (tAn (tB (J6 (.isT "str") (J4 J0 Jj))) (tB (Jc 44 (J4 J0 Je))))) (Jh (sE (cBM "list" .app J3 (Jr (J4 J0 Je)))))) (Jh (sF (J6 .seq J0) [2] true bd53)))) (J5 J3)))
def r53:Fx.Row:=Ji "_law_places" 53 (top 59) ["_law_part_here"] ["_law_found","_law_one"] ["_law_found"] t53
def t54:TSx Prop:=(sQ (sA 1 (Jq 43 J0 (Jf 80))) (sQ (sA 2 (Jq 43 J0 (Jf 80))) (sQ (sA 3 (Jc 28 J3)) (sQ (J7 (tOr' (tNt (tB (J6 (.isT "tuple") J8))) (tOr' (tB (J2 .ne (J6 .len J8) Jo)) (tNt (tB (J6 (.isT "tuple") (J4 J8 Je)))))) (J5 (cC (.bl false)))) (sQ (sA 4 (J2 (.dct ["places","given"]) (Jc 53 J3) (cP (.lst true) aN))) (sQ (J7 (tNt (tB (Jl 52 (Ju (J4 J8 Jj) (cP (.lst true) aN) Ja)))) (J5 (cC (.bl false)))) (sQ (J7 (tB (J2 .ne (J6 .srt (J4 Ja (J1 "given"))) (J6 .lrng (J6 .len (J4 J8 Je))))) (J5 (cC (.bl false)))) (sQ (sF (J6 .seq (J4 J8 Je)) [5] true bd54) (J5 (cB (tAn (Jd (Jc 28 J3) J8) (Jd J3 J9))))))))))))
def r54:Fx.Row:=Ji "law" 54 (top 60) ["_law_script"] ["_law_program_here","_law_again","_law_found","_law_walk","_law_place_here"] [] t54
def rows:List Fx.Row:=[r0,r1,r2,r3,r4,r5,r6,r7,r8,r9,r10,r11,r12,r13,r14,r15,r16,r17,r18,r19,r20,r21,r22,r23,r24,r25,r26,r27,r28,r29,r30,r31,r32,r33,r34,r35,r36,r37,r38,r39,r40,r41,r42,r43,r44,r45,r46,r47,r48,r49,r50,r51,r52,r53,r54]
def tab:Nat->Option De:=rowAt rows
theorem rowsC:∀r∈rows,RowC tb tab r:=by
 repeat' first|exact alln|refine allc (rowC (by kernel_rfl) (by kernel_rfl) (by kernel_rfl)) ?_
theorem bd1{r:Fx.Row}(hp:r.ps.length=1)(h:∀(kV doc pm:Value)(an:Option Addr)(cdv ct x0:Value),bindArgs (PySem.W.fnOf r.x r.qual (defArgs r.st) (defBody r.st) (defScope r.st) .none kV doc pm an cdv ct) ⟨[x0],[]⟩=pure (r.ps.zip [x0]):=by intros;rfl):BdC r:=λ_ _ _ _ _ _ us hl=>by
 obtain⟨_,rfl⟩:=len1 (hl.trans hp);exact h ..
theorem bd2{r:Fx.Row}(hp:r.ps.length=2)(h:∀(kV doc pm:Value)(an:Option Addr)(cdv ct x0 x1:Value),bindArgs (PySem.W.fnOf r.x r.qual (defArgs r.st) (defBody r.st) (defScope r.st) .none kV doc pm an cdv ct) ⟨[x0,x1],[]⟩=pure (r.ps.zip [x0,x1]):=by intros;rfl):BdC r:=λ_ _ _ _ _ _ us hl=>by
 obtain⟨_,_,rfl⟩:=len2 (hl.trans hp);exact h ..
theorem bd3{r:Fx.Row}(hp:r.ps.length=3)(h:∀(kV doc pm:Value)(an:Option Addr)(cdv ct x0 x1 x2:Value),bindArgs (PySem.W.fnOf r.x r.qual (defArgs r.st) (defBody r.st) (defScope r.st) .none kV doc pm an cdv ct) ⟨[x0,x1,x2],[]⟩=pure (r.ps.zip [x0,x1,x2]):=by intros;rfl):BdC r:=λ_ _ _ _ _ _ us hl=>by
 obtain⟨_,_,_,rfl⟩:=len3 (hl.trans hp);exact h ..
theorem bd4{r:Fx.Row}(hp:r.ps.length=4)(h:∀(kV doc pm:Value)(an:Option Addr)(cdv ct x0 x1 x2 x3:Value),bindArgs (PySem.W.fnOf r.x r.qual (defArgs r.st) (defBody r.st) (defScope r.st) .none kV doc pm an cdv ct) ⟨[x0,x1,x2,x3],[]⟩=pure (r.ps.zip [x0,x1,x2,x3]):=by intros;rfl):BdC r:=λ_ _ _ _ _ _ us hl=>by
 obtain⟨_,_,_,_,rfl⟩:=len4 (hl.trans hp);exact h ..
theorem bd5{r:Fx.Row}(hp:r.ps.length=5)(h:∀(kV doc pm:Value)(an:Option Addr)(cdv ct x0 x1 x2 x3 x4:Value),bindArgs (PySem.W.fnOf r.x r.qual (defArgs r.st) (defBody r.st) (defScope r.st) .none kV doc pm an cdv ct) ⟨[x0,x1,x2,x3,x4],[]⟩=pure (r.ps.zip [x0,x1,x2,x3,x4]):=by intros;rfl):BdC r:=λ_ _ _ _ _ _ us hl=>by
 obtain⟨_,_,_,_,_,rfl⟩:=len5 (hl.trans hp);exact h ..
theorem bd6{r:Fx.Row}(hp:r.ps.length=6)(h:∀(kV doc pm:Value)(an:Option Addr)(cdv ct x0 x1 x2 x3 x4 x5:Value),bindArgs (PySem.W.fnOf r.x r.qual (defArgs r.st) (defBody r.st) (defScope r.st) .none kV doc pm an cdv ct) ⟨[x0,x1,x2,x3,x4,x5],[]⟩=pure (r.ps.zip [x0,x1,x2,x3,x4,x5]):=by intros;rfl):BdC r:=λ_ _ _ _ _ _ us hl=>by
 obtain⟨_,_,_,_,_,_,rfl⟩:=len6 (hl.trans hp);exact h ..
section
variable{K:xFr}{f C:Addr}{oc kV dc pm cd ct mc:Value}{od an:Option Addr}{sl:Array (Option Value)}{nm q:Str}{st:Stmt}
theorem csr(h0:PySem.W.nsIn K mainGlobals nm=some (some (.ref C)))(h1:PySem.W.plainGet K C Str.empty=true)(h2:PySem.W.hasDictIn K C=true)(h3:PySem.W.plainOver K C=true)(h4:PySem.W.findIn K (.ref C) "__setattr__"=some (some (.builtin "object.__setattr__")))(h5:PySem.W.makesIn K C=true)(h6:PySem.W.keepIn K (.ref C)=true)(h7:PySem.W.findIn K (.ref C) "__class__"=some (some (.builtin "object.__class__")))(h8:PySem.W.mroIn K C (.type "object")=some true):CsR K C nm:=⟨h0,⟨h1,h2,h3,h4⟩,h5,h6,h7,h8⟩
def TxA(K:xFr)(t:Addr)(xs:List V):Prop:=∀H,SqT K H t xs
theorem tup_is{t:Addr}{d:Option Addr}{its:Array Value}{n:Nat}{sl:Array (Option Value)}{xs:List V}(h:K.lookup t=some ⟨.type "tuple",d,.seq its n,sl⟩)(hz:its.size<=1000)(hv:Vals xs its.toList):TxA K t xs:=λH=>.inr ⟨_,its,n,h,rfl,rfl,lineMe (by lia),hv⟩
theorem ktS{l:List Str}(h:TxA K C (l.map V.str))(W:Wd):Rv (mkB K mg cls kds) W (.kt (l.map U.str)) (.ref C):=vL (B:=mkB K mg cls kds) h W
theorem ktI{l:List Int}(h:TxA K C (l.map V.int))(W:Wd):Rv (mkB K mg cls kds) W (.kt (l.map U.int)) (.ref C):=vM (B:=mkB K mg cls kds) h W
end
def cl8(cChecker cNamer:Addr):List (Str×Addr):=[("Checker",cChecker),("Namer",cNamer)]
theorem mr{r:Fx.Row}(i:Nat)(h:rows[i]?=some r):r∈rows:=xAc h
theorem all_mk{l:PySem.W.OpenLaw}{w:World}{K:xFr}{h:Heap}{fa aB aC bh aw aA aR aP aU aX aS aW aT aV aY aQ aG aI aM aN aO aD aJ aL aK aH:Addr}(X:K.In h)(G:h.Ns mainGlobals mg)(hfa:mg "law"=some (.ref fa)){ah:Tok}{ac:Tok}{af:Tok}{ag:Tok}{bL:Tok}{ai:Array DictEntry}{bl:Nat}{ad:Array DictEntry}{bZ:Nat}(aF:CsR K aB "Checker")(av:noneB K aB fls=true)(aE:CsR K aC "Namer")(bR:noneB K aC fls=true)(bi:kitTB K "int" (cl8 aB aC)=true)(be:kitTB K "bool" (cl8 aB aC)=true)(bk:kitTB K "str" (cl8 aB aC)=true)(bD:kitTB K "tuple" (cl8 aB aC)=true)(bo:mgB K bls=true)(hn_:W.specialIn K (.builtin "object.__class__") "__get__"=some (some (.builtin "getset_descriptor.__get__")))(ht_:W.takesIn K (.builtin "object.__class__")=some true)(d0:DnR K r0)(d1:DnR K r1)(d2:DnR K r2)(d3:DnR K r3)(d4:DnR K r4)(d5:DnR K r5)(d6:DnR K r6)(d7:DnR K r7)(d8:DnR K r8)(d9:MdR K aB r9)(d10:MdR K aB r10)(d11:MdR K aB r11)(d12:MdR K aB r12)(d13:DnR K r13)(d14:DnR K r14)(d15:DnR K r15)(d16:DnR K r16)(d17:DnR K r17)(d18:DnR K r18)(d19:MdR K aC r19)(d20:MdR K aC r20)(d21:MdR K aC r21)(d22:MdR K aC r22)(d23:MdR K aC r23)(d24:MdR K aC r24)(d25:MdR K aC r25)(d26:MdR K aC r26)(d27:DnR K r27)(d28:DnR K r28)(d29:DnR K r29)(d30:DnR K r30)(d31:DnR K r31)(d32:DnR K r32)(d33:DnR K r33)(d34:DnR K r34)(d35:DnR K r35)(d36:DnR K r36)(d37:DnR K r37)(d38:DnR K r38)(d39:DnR K r39)(d40:DnR K r40)(d41:DnR K r41)(d42:DnR K r42)(d43:DnR K r43)(d44:DnR K r44)(d45:DnR K r45)(d46:DnR K r46)(d47:DnR K r47)(d48:DnR K r48)(d49:DnR K r49)(d50:DnR K r50)(d51:DnR K r51)(d52:DnR K r52)(d53:DnR K r53)(d54:DnR K r54)(ae:W.nsIn K mainGlobals "MOST_PARTS"=some (some (.int 300 ah)))(aZ:W.nsIn K mainGlobals "MOST_WITHIN"=some (some (.int 20 ac)))(aa:W.nsIn K mainGlobals "MOST_IN_ROW"=some (some (.int 4 af)))(ab:W.nsIn K mainGlobals "LAST_PLACE"=some (some (.int 599 ag)))(ax:W.nsIn K mainGlobals "LETTERS"=some (some (.str "abcdefghijklmnopqrstuvwxyz" bL)))(bm:W.nsIn K mainGlobals "OPS"=some (some (.ref bh)))(bp:TxA K bh ((["add","sub","mul","less","same"]:List Str).map V.str))(bO:W.nsIn K mainGlobals "HEADS"=some (some (.ref aw)))(bj:TxA K aw ((["fn","call","let","set","do","if","add","sub","mul","less","same","make","match","raise","try","tell","ask"]:List Str).map V.str))(ba:W.nsIn K mainGlobals "FORMS"=some (some (.ref aA)))(bP:K.lookup aA=some ⟨.type "dict",none,.dict ai bl,#[]⟩)(bW:PySem.W.KeysLit w.params ai.toList)(bd:(aA==sysModules)=false)(bS:nsB K aA cy=true)(bN:W.nsIn K aA "number"=some (some (.ref aR)))(bc:TxA K aR ((["number"]:List Str).map V.str))(az:W.nsIn K aA "name"=some (some (.ref aP)))(bb:TxA K aP ((["used"]:List Str).map V.str))(ay:W.nsIn K aA "fn"=some (some (.ref aU)))(bg:TxA K aU ((["names","part"]:List Str).map V.str))(bE:W.nsIn K aA "call"=some (some (.ref aX)))(bT:TxA K aX ((["part","parts"]:List Str).map V.str))(bJ:W.nsIn K aA "let"=some (some (.ref aS)))(bQ:TxA K aS ((["name","part","part"]:List Str).map V.str))(a4:W.nsIn K aA "set"=some (some (.ref aW)))(bf:TxA K aW ((["used","part"]:List Str).map V.str))(a5:W.nsIn K aA "do"=some (some (.ref aT)))(bU:TxA K aT ((["part","part"]:List Str).map V.str))(a3:W.nsIn K aA "if"=some (some (.ref aV)))(bX:TxA K aV ((["part","part","part"]:List Str).map V.str))(bH:W.nsIn K aA "math"=some (some (.ref aY)))(bY:TxA K aY ((["op","part","part"]:List Str).map V.str))(a9:W.nsIn K aA "make"=some (some (.ref aQ)))(bV:TxA K aQ ((["word","parts"]:List Str).map V.str))(ao:W.nsIn K aA "match"=some (some (.ref aG)))(bC:TxA K aG ((["part","word","names","part","part"]:List Str).map V.str))(al:W.nsIn K aA "raise"=some (some (.ref aI)))(a1:TxA K aI ((["word","part"]:List Str).map V.str))(au:W.nsIn K aA "try"=some (some (.ref aM)))(bM:TxA K aM ((["part","word","name","part"]:List Str).map V.str))(am:W.nsIn K aA "tell"=some (some (.ref aN)))(bB:TxA K aN ((["part"]:List Str).map V.str))(ar:W.nsIn K aA "ask"=some (some (.ref aO)))(bG:TxA K aO (([]:List Str).map V.str))(bK:W.nsIn K mainGlobals "SCOPES"=some (some (.ref aD)))(a7:K.lookup aD=some ⟨.type "dict",none,.dict ad bZ,#[]⟩)(bI:PySem.W.KeysLit w.params ad.toList)(a0:(aD==sysModules)=false)(a6:nsB K aD c7=true)(aj:W.nsIn K aD "fn"=some (some (.ref aJ)))(a8:TxA K aJ (([2,3]:List Int).map V.int))(ap:W.nsIn K aD "let"=some (some (.ref aL)))(bF:TxA K aL (([2,4]:List Int).map V.int))(ak:W.nsIn K aD "match"=some (some (.ref aK)))(a2:TxA K aK (([4,5]:List Int).map V.int))(aq:W.nsIn K aD "try"=some (some (.ref aH)))(bA:TxA K aH (([4,5]:List Int).map V.int))(bn:∀ns:List Int,ns.length<=63->(callG ups tab fw (d+1)).call 54 [.kl (ns.map U.int)] [] (λ_ _=>False) (λv _=>v=.bl true))
  :∃fd:FuncData,(∀(s:Shared)(v:Value),BindsTo s fd ⟨[v],[]⟩ [("_law_script",v)])/\∀base:Heap,K.In base->base.Ns mainGlobals mg->FnOk l.prog w K mg base (CXz l.prog w) (2*(d+1)+1) fa fd ["_law_script"] (spLaw K 63):=by
 have hgl:∀base,∀p∈gls,GlOk l.prog w base (mkB K mg (cl8 aB aC) [(aA,cg,cy),(aD,cO,c7)]) ups tb rows p:=λbase=>(allc (bx X G d0 (mr 0 rfl) (bd1 rfl))
   (allc (bx X G d1 (mr 1 rfl) (bd1 rfl))
   (allc (bx X G d2 (mr 2 rfl) (bd2 rfl))
   (allc (bx X G d3 (mr 3 rfl) (bd1 rfl))
   (allc (bx X G d4 (mr 4 rfl) (bd1 rfl))
   (allc (bx X G d5 (mr 5 rfl) (bd1 rfl))
   (allc (bx X G d6 (mr 6 rfl) (bd1 rfl))
   (allc (bx X G d7 (mr 7 rfl) (bd1 rfl))
   (allc (bx X G d8 (mr 8 rfl) (bd1 rfl))
   (allc (tT X G aF d9 rfl (mr 9 rfl) (xAc (i:=0) rfl) (bd1 rfl) (λz=>absurd z (by decide +kernel)) (λz=>absurd z (by decide +kernel)))
   (allc (bx X G d13 (mr 13 rfl) (bd1 rfl))
   (allc (bx X G d14 (mr 14 rfl) (bd1 rfl))
   (allc (bx X G d15 (mr 15 rfl) (bd3 rfl))
   (allc (bx X G d16 (mr 16 rfl) (bd1 rfl))
   (allc (bx X G d17 (mr 17 rfl) (bd1 rfl))
   (allc (bx X G d18 (mr 18 rfl) (bd3 rfl))
   (allc (tT X G aE d19 rfl (mr 19 rfl) (xAc (i:=1) rfl) (bd2 rfl) (λz=>absurd z (by decide +kernel)) (λz=>absurd z (by decide +kernel)))
   (allc (bx X G d27 (mr 27 rfl) (bd4 rfl))
   (allc (bx X G d28 (mr 28 rfl) (bd1 rfl))
   (allc (bx X G d29 (mr 29 rfl) (bd2 rfl))
   (allc (bx X G d30 (mr 30 rfl) (bd1 rfl))
   (allc (bx X G d31 (mr 31 rfl) (bd4 rfl))
   (allc (bx X G d32 (mr 32 rfl) (bd2 rfl))
   (allc (bx X G d33 (mr 33 rfl) (bd1 rfl))
   (allc (bx X G d34 (mr 34 rfl) (bd2 rfl))
   (allc (bx X G d35 (mr 35 rfl) (bd4 rfl))
   (allc (bx X G d36 (mr 36 rfl) (bd2 rfl))
   (allc (bx X G d37 (mr 37 rfl) (bd4 rfl))
   (allc (bx X G d38 (mr 38 rfl) (bd5 rfl))
   (allc (bx X G d39 (mr 39 rfl) (bd1 rfl))
   (allc (bx X G d40 (mr 40 rfl) (bd5 rfl))
   (allc (bx X G d41 (mr 41 rfl) (bd4 rfl))
   (allc (bx X G d42 (mr 42 rfl) (bd4 rfl))
   (allc (bx X G d43 (mr 43 rfl) (bd2 rfl))
   (allc (bx X G d44 (mr 44 rfl) (bd1 rfl))
   (allc (bx X G d45 (mr 45 rfl) (bd1 rfl))
   (allc (bx X G d46 (mr 46 rfl) (bd1 rfl))
   (allc (bx X G d47 (mr 47 rfl) (bd1 rfl))
   (allc (bx X G d48 (mr 48 rfl) (bd1 rfl))
   (allc (bx X G d49 (mr 49 rfl) (bd1 rfl))
   (allc (bx X G d50 (mr 50 rfl) (bd1 rfl))
   (allc (bx X G d51 (mr 51 rfl) (bd3 rfl))
   (allc (bx X G d52 (mr 52 rfl) (bd3 rfl))
   (allc (bx X G d53 (mr 53 rfl) (bd1 rfl))
   (allc (bx X G d54 (mr 54 rfl) (show BdC r54 from bd1 rfl))
   (allc (gW X G ae)
   (allc (gW X G aZ)
   (allc (gW X G aa)
   (allc (gW X G ab)
   (allc (vX X G ax)
   (allc (tR X G bm λW=>(ktS bp) W)
   (allc (tR X G bO λW=>(ktS bj) W)
   (allc (tS X G ba (xAc (i:=0) rfl))
   (allc (tS X G bK (xAc (i:=1) rfl))
   alln))))))))))))))))))))))))))))))))))))))))))))))))))))))
 have hms:∀p∈mss,MsOk (mkB K mg (cl8 aB aC) [(aA,cg,cy),(aD,cO,c7)]) rows p:=(allc (dP (by kernel_rfl) aF d10 (mr 10 rfl) (xAc (i:=0) rfl) (bd4 rfl))
   (allc (dP (by kernel_rfl) aF d11 (mr 11 rfl) (xAc (i:=0) rfl) (bd2 rfl))
   (allc (dP (by kernel_rfl) aF d12 (mr 12 rfl) (xAc (i:=0) rfl) (bd5 rfl))
   (allc (dP (by kernel_rfl) aE d20 (mr 20 rfl) (xAc (i:=1) rfl) (bd2 rfl))
   (allc (dP (by kernel_rfl) aE d21 (mr 21 rfl) (xAc (i:=1) rfl) (bd4 rfl))
   (allc (dP (by kernel_rfl) aE d22 (mr 22 rfl) (xAc (i:=1) rfl) (bd5 rfl))
   (allc (dP (by kernel_rfl) aE d23 (mr 23 rfl) (xAc (i:=1) rfl) (bd4 rfl))
   (allc (dP (by kernel_rfl) aE d24 (mr 24 rfl) (xAc (i:=1) rfl) (bd5 rfl))
   (allc (dP (by kernel_rfl) aE d25 (mr 25 rfl) (xAc (i:=1) rfl) (bd5 rfl))
   (allc (dP (by kernel_rfl) aE d26 (mr 26 rfl) (xAc (i:=1) rfl) (bd6 rfl))
   alln))))))))))
 have hcl:∀p∈(cl8 aB aC),Cls K p.2/\W.findIn K (.ref p.2) "__class__"=some (some (.builtin "object.__class__"))/\W.mroIn K p.2 (.type "object")=some true:=(allc ⟨aF.cls,aF.ha,aF.hm⟩
   (allc ⟨aE.cls,aE.ha,aE.hm⟩
   alln))
 have hno:∀p∈(cl8 aB aC),noneB K p.2 fls=true:=(allc av
   (allc bR
   alln))
 have hkd:∀q∈([(aA,cg,cy),(aD,cO,c7)]:List (Addr×List (Str×U)×List Str)),KdOk w (mkB K mg (cl8 aB aC) [(aA,cg,cy),(aD,cO,c7)]) q:=(allc ⟨⟨_,_,bP,bW,bd⟩,(allc ⟨.ref aR,_,bN,rfl,λW=>(ktS bc) W⟩ (allc ⟨.ref aP,_,az,rfl,λW=>(ktS bb) W⟩ (allc ⟨.ref aU,_,ay,rfl,λW=>(ktS bg) W⟩ (allc ⟨.ref aX,_,bE,rfl,λW=>(ktS bT) W⟩ (allc ⟨.ref aS,_,bJ,rfl,λW=>(ktS bQ) W⟩ (allc ⟨.ref aW,_,a4,rfl,λW=>(ktS bf) W⟩ (allc ⟨.ref aT,_,a5,rfl,λW=>(ktS bU) W⟩ (allc ⟨.ref aV,_,a3,rfl,λW=>(ktS bX) W⟩ (allc ⟨.ref aY,_,bH,rfl,λW=>(ktS bY) W⟩ (allc ⟨.ref aQ,_,a9,rfl,λW=>(ktS bV) W⟩ (allc ⟨.ref aG,_,ao,rfl,λW=>(ktS bC) W⟩ (allc ⟨.ref aI,_,al,rfl,λW=>(ktS a1) W⟩ (allc ⟨.ref aM,_,au,rfl,λW=>(ktS bM) W⟩ (allc ⟨.ref aN,_,am,rfl,λW=>(ktS bB) W⟩ (allc ⟨.ref aO,_,ar,rfl,λW=>(ktS bG) W⟩ alln))))))))))))))),bS⟩
   (allc ⟨⟨_,_,a7,bI,a0⟩,(allc ⟨.ref aJ,_,aj,rfl,λW=>(ktI a8) W⟩ (allc ⟨.ref aL,_,ap,rfl,λW=>(ktI bF) W⟩ (allc ⟨.ref aK,_,ak,rfl,λW=>(ktI a2) W⟩ (allc ⟨.ref aH,_,aq,rfl,λW=>(ktI bA) W⟩ alln)))),a6⟩
   alln))
 have pf:∀base,Pf l.prog w base (mkB K mg (cl8 aB aC) [(aA,cg,cy),(aD,cO,c7)]) ups tb rows:=λbase=>
  xm (hgl base) hms (λx hx=>W.mg_none_of X G (gS (xCx.mp bo x hx))) (kitT bi) (kitT be) (kitT bk) (kitT bD) (clF (λp hp=>(hcl p hp).1) hno) (clT hcl hn_ ht_) (kdF hkd)
 obtain⟨f,fd,h0,F⟩:=d54;have e:=hfa.symm.trans (W.mg_of X G h0);cases e;refine⟨fd,λs v=>?_,λbase _ _=>?_⟩
 ·obtain⟨oc,od,kV,doc,pm,an,cdv,ct,osl,rfl,_⟩:=F.ex;exact .of_eq ((show BdC r54 from bd1 rfl) kV doc pm an cdv ct [v] rfl)
 ·exact(wI (fw:=fw) (pf base) rowsC (r:=r54) (mr 54 rfl) (Fun.fa F) d).imp λvs H Q E z=>vI (B:=mkB K mg (cl8 aB aC) [(aA,cg,cy),(aD,cO,c7)]) (monG (d+1)) bn vs H Q E z
@[irreducible] noncomputable def Gd (fw d:Nat):Gx Prop:=callG ups tab fw d
theorem jh:Gd fw d=callG ups tab fw d:=by unfold Gd;rfl
section
variable{fw d i:Nat}{p:Pm}{vs:List U}{S S':So}{x:Kx Prop}{k:Kv Prop}{v:U}{a b:Unit->Prop}{de:De}
theorem pd(e:pr ups p vs S=.ok v S')(h:k v S'):(Gd fw d).prim p vs S x k:=by rw[jh];exact pm e h
theorem pv(v:U)(h:k v S)(e:pr ups p vs S=.ok v S:=by rfl):(Gd fw d).prim p vs S x k:=pd e h
theorem bT(h:a ()):(Gd fw d).br true a b:=by rw[jh];exact brT h
theorem bF(h:b ()):(Gd fw d).br false a b:=by rw[jh];exact brF h
theorem bI{c:Bool}(h1:c=true->a ())(h2:c=false->b ()):(Gd fw d).br c a b:=by
 cases c
 ·exact bF (h2 rfl)
 ·exact bT (h1 rfl)
theorem cd(de:De)(h:de.t (Gd fw d) (stU de.n vs) S (endsOf x k))(e:tab i=some de:=by kernel_rfl)(hl:vs.length=de.np:=by rfl):(Gd fw (d+1)).call i vs S x k:=by
 rw[jh] at h⊢;exact callD e hl h
end
structure Sx where
 n:Int
 s:Int
 a:Int
 k:Int
 h:Int
def Sx.kv(x:Sx):List (Key×U):=[(.inr "number",.int x.n),(.inr "seed",.int x.s),(.inr "parts",.int x.a),(.inr "places",.int x.k),(.inr "shift",.int x.h)]
structure Bl(x:Sx)(i:Nat)(as:List U)(lv:Nat)(v:U)(x':Sx):Prop where
 h:∀{fw d p:Nat}{S:So}{xx:Kx Prop}{K:Kv Prop},at? S p=some (.dct x.kv)->K v (set S p (.dct x'.kv))->(Gd fw (d+lv)).call i (.ref p::as) S xx K
theorem setSame{α:Type}:∀{l:List α}{p:Nat}{o:α},at? l p=some o->set l p o=l
 |_::_,0,_,h=>by cases h;rfl
 |_::l,p+1,o,h=>congrArg _ (setSame (l:=l) h)
def Sx.ok(x:Sx):Prop:=0<=x.n/\0<=x.s/\x.s<2147483647
def Sx.fl(x:Sx):Sx:=if x.n=0/\x.s>0 then{x with s:=x.s*48271%2147483647,n:=(x.s*48271%2147483647)*(x.s*48271%2147483647)%2147483629} else x
theorem Sx.fl_ok{x:Sx}(h:x.ok):x.fl.ok:=by
 obtain⟨h1,h2,h3⟩:=h;unfold Sx.fl;split
 ·exact⟨xBa _ (by decide),xBa _ (by decide),xBb _ (by decide)⟩
 ·exact⟨h1,h2,h3⟩
def Sx.dg(x:Sx)(m:Int):Int:=x.fl.n%m
def Sx.tk(x:Sx)(m:Int):Sx:={x.fl with n:=x.fl.n / m}
theorem Sx.tk_ok{x:Sx}{m:Int}(h:x.ok)(hm:0<m):(x.tk m).ok:=by
 obtain⟨h1,h2,h3⟩:=x.fl_ok h;exact⟨Int.ediv_nonneg h1 (Int.le_of_lt hm),h2,h3⟩
def sml(a:Int):Prop:=-(10^40)<a/\a<10^40
theorem fG{a b:Int}(ha:sml a)(hb:sml b):pr ups .mul [.int a,.int b] S=.ok (.int (a*b)) S:=by
 show(match decide (a.natAbs<2^150/\b.natAbs<2^150\/b.natAbs<2^60\/a.natAbs<2^60) with|true=>Res.ok (.int (a*b)) S|false=>.stuck)=_;unfold sml at ha hb;rw[xBd (.inl ⟨by lia,by lia⟩)]
theorem dU{a m:Int}(h:0<m/\m<=10^18):pr ups .fdiv [.int a,.int m] S=.ok (.int (a / m)) S:=by
 show(match decide (0<m/\m<=10^18) with|true=>Res.ok (.int (a / m)) S|false=>.stuck)=_;rw[xBd h]
theorem cE{a m:Int}(h:0<m):pr ups .mod [.int a,.int m] S=.ok (.int (a%m)) S:=by
 show(match decide (0<m) with|true=>Res.ok (.int (a%m)) S|false=>.stuck)=_;rw[xBd h]
theorem cu{a b:Int}:pr ups .eq [.int a,.int b] S=.ok (.bl (decide (a=b))) S:=rfl
section
variable{fw d p:Nat}{S:So}{x:Sx}
theorem vK(h:at? S p=some (.dct x.kv)):pr ups .ix [.ref p,.str "number"] S=.ok (.int x.n) S:=cG h rfl
theorem sh(h:at? S p=some (.dct x.kv)):pr ups .ix [.ref p,.str "seed"] S=.ok (.int x.s) S:=cG h rfl
theorem pi(h:at? S p=some (.dct x.kv)):pr ups .ix [.ref p,.str "parts"] S=.ok (.int x.a) S:=cG h rfl
theorem yg(h:at? S p=some (.dct x.kv)):pr ups .ix [.ref p,.str "places"] S=.ok (.int x.k) S:=cG h rfl
theorem zb(h:at? S p=some (.dct x.kv)):pr ups .ix [.ref p,.str "shift"] S=.ok (.int x.h) S:=cG h rfl
theorem fM{x':Sx}{f:Str}{v:U}(h:at? S p=some (.dct x.kv))(e:putK (.inr f) v x.kv=x'.kv):pr ups .seti [.ref p,.str f,v] S=.ok .non (set S p (.dct x'.kv)):=by
 rw[<- e];exact fh h (by show 5+1<=2^24;decide)
end
theorem cj{x:Sx}{m:Int}(hx:x.ok)(hm:0<m/\m<=10 ^ 18):Bl x 32 [.int m] 1 (.int (x.dg m)) (x.tk m):=⟨λ{fw d p S xx K} h hk=>by
 refine cd ⟨2,3,t32⟩ ?_;have fin:∀{S:So},at? S p=some (.dct x.fl.kv)->K (.int (x.dg m)) (set S p (.dct (x.tk m).kv))->rz1 (Gd fw d) [some (.ref p),some (.int m),none] S (endsOf xx K):=λ{S} h hk=>by
  refine pd (vK h) ?_;refine pd (cE hm.1) ?_;refine pd (vK h) ?_;refine pd (dU hm) ?_;refine pd (fM (x':=x.tk m) h rfl) ?_;exact hk
 refine pd (vK h) ?_;refine pd cu ?_;by_cases h0:x.n=0
 ·rw[xBd h0];refine bT ?_;refine pd (sh h) ?_;refine pv (.bl (decide (0<x.s))) ?_;by_cases h1:0<x.s
  ·have e:x.fl={x with s:=x.s*48271%2147483647,n:=(x.s*48271%2147483647)*(x.s*48271%2147483647)%2147483629}:=xCg ⟨h0,h1⟩;have h3:=hx.2.2;rw[xBd h1];refine bT ?_;refine pd (sh h) ?_;refine pd (fG (a:=x.s) (b:=48271) (by unfold sml;lia) (by unfold sml;decide)) ?_;refine pd (cE (by decide)) ?_;obtain⟨l1,l2⟩:0<=x.s*48271%2147483647/\x.s*48271%2147483647<2147483647:=⟨xBa _ (by decide),xBb _ (by decide)⟩
   generalize x.s*48271%2147483647=s' at e l1 l2⊢;refine pd (fM (x':={x with s:=s'}) h rfl) ?_;have g:=atSet (o':=Ob.dct ({x with s:=s'}:Sx).kv) h;refine pd (sh g) ?_;refine pd (sh g) ?_;refine pd (fG (a:=s') (b:=s') (by unfold sml;lia) (by unfold sml;lia)) ?_;refine pd (cE (by decide)) ?_;refine pd (fM (x':=x.fl) g (by rw[e];rfl)) ?_;exact fin (atSet g) (by rw[setSet,setSet];exact hk)
  ·have e:x.fl=x:=xCf λz=>h1 z.2;rw[xCn h1];refine bF ?_;exact fin (by rw[e];exact h) hk
 ·have e:x.fl=x:=xCf λz=>h0 z.1;rw[xCn h0];refine bF (bF ?_);exact fin (by rw[e];exact h) hk⟩
def Sx.nx(x:Sx):Sx:={x with k:=x.k+1,a:=x.a-1}
def Sx.pl(x:Sx):Int:=(7*(x.k+1)+x.h)%600
theorem b9{x:Sx}(hk':0<=x.k/\x.k<=10000):Bl x 33 [] 1 (.int x.pl) x.nx:=⟨λ{fw d p S xx K} h hk=>by
 refine cd ⟨1,1,t33⟩ ?_;refine pd (yg h) ?_;refine pv (.int (x.k+1)) ?_;refine pd (fM (x':={x with k:=x.k+1}) h rfl) ?_;have g:=atSet (o':=Ob.dct ({x with k:=x.k+1}:Sx).kv) h;refine pd (pi g) ?_;refine pv (.int (x.a-1)) ?_;refine pd (fM (x':=x.nx) g rfl) ?_;have g2:=atSet (o':=Ob.dct x.nx.kv) g;refine pd (yg g2) ?_;refine pd (fG (a:=7) (b:=x.k+1) (by unfold sml;decide) (by unfold sml;lia)) ?_;refine pd (zb g2) ?_;refine pv (.int (7*(x.k+1)+x.h)) (pv (.int x.pl) ?_);rw[setSet];exact hk⟩
inductive Pg where
 |num (pl n:Int)|nam (pl:Int) (x:Str)|fn (pl:Int) (xs:List Str) (b:Pg)|call (pl:Int) (f:Pg) (as:List Pg)|lt (pl:Int) (x:Str) (a b:Pg)|st (pl:Int) (x:Str) (a:Pg)|dd (pl:Int) (a b:Pg)|iff (pl:Int) (a b c:Pg)
 |math (pl:Int) (o:Str) (a b:Pg)|make (pl:Int) (t:Str) (as:List Pg)|mat (pl:Int) (a:Pg) (t:Str) (xs:List Str) (b c:Pg)|rai (pl:Int) (w:Str) (a:Pg)|try_ (pl:Int) (a:Pg) (w x:Str) (b:Pg)|tell (pl:Int) (a:Pg)|ask (pl:Int)
mutual
def Pg.u:Pg->U
 |.num pl n=>.tup [.str "number",.int pl,.int n]
 |.nam pl x=>.tup [.str "name",.int pl,.str x]
 |.fn pl xs b=>.tup [.str "fn",.int pl,.tup (xs.map .str),b.u]
 |.call pl f as=>.tup [.str "call",.int pl,f.u,.tup (Pg.us as)]
 |.lt pl x a b=>.tup [.str "let",.int pl,.str x,a.u,b.u]
 |.st pl x a=>.tup [.str "set",.int pl,.str x,a.u]
 |.dd pl a b=>.tup [.str "do",.int pl,a.u,b.u]
 |.iff pl a b c=>.tup [.str "if",.int pl,a.u,b.u,c.u]
 |.math pl o a b=>.tup [.str "math",.int pl,.str o,a.u,b.u]
 |.make pl t as=>.tup [.str "make",.int pl,.str t,.tup (Pg.us as)]
 |.mat pl a t xs b c=>.tup [.str "match",.int pl,a.u,.str t,.tup (xs.map .str),b.u,c.u]
 |.rai pl w a=>.tup [.str "raise",.int pl,.str w,a.u]
 |.try_ pl a w x b=>.tup [.str "try",.int pl,a.u,.str w,.str x,b.u]
 |.tell pl a=>.tup [.str "tell",.int pl,a.u]
 |.ask pl=>.tup [.str "ask",.int pl]
def Pg.us:List Pg->List U
 |[]=>[]
 |a::r=>a.u::Pg.us r
end
variable{x:Sx}{sc:List Str}
def scU(sc:List Str):U:=.lst (sc.map .str)
theorem ej:pr ups .ne [scU sc,.lst []] S=.ok (.bl (!sc.isEmpty)) S:=by
 cases sc <;> rfl
theorem Sx.dg_lt{m:Int}(hm:0<m):0<=x.dg m/\x.dg m<m:=⟨xBa _ (by lia),xBb _ hm⟩
theorem dS{i:Int}(h:0<=i/\i<sc.length):∃w∈sc,∀{S:So},pr ups .ix [scU sc,.int i] S=.ok (.str w) S:=by
 obtain⟨j,rfl⟩:=Int.eq_ofNat_of_zero_le h.1;have hj:j<sc.length:=by lia
 refine⟨sc[j],List.getElem_mem hj,λ{S}=>?_⟩;show opt (atI (sc.map U.str) (j:Int)) S=_;rw[c9 (v:=.str sc[j]) (by rw[xAw,xAk hj];rfl)];rfl
theorem fi:pr ups .len [scU sc] S=.ok (.int sc.length) S:=by
 show Res.ok (.int ((sc.map U.str).length:Nat)) S=_;rw[xAa]
structure Sx.Le(x x':Sx):Prop where
 ok:x'.ok
 a:x'.a=x.a
 k:x'.k=x.k
 h:x'.h=x.h
theorem Sx.fl_le:x.fl.a=x.a/\x.fl.k=x.k/\x.fl.h=x.h:=by
 unfold Sx.fl;split <;> exact⟨rfl,rfl,rfl⟩
theorem Sx.tk_le{m:Int}(hx:x.ok)(hm:0<m):x.Le (x.tk m):=⟨x.tk_ok hx hm,x.fl_le.1,x.fl_le.2.1,x.fl_le.2.2⟩
theorem Sx.Le.trans{y z:Sx}(h:x.Le y)(g:y.Le z):x.Le z:=⟨g.ok,g.a.trans h.a,g.k.trans h.k,g.h.trans h.h⟩
def At(sc:List Str)(pl:Int)(P:Pg):Prop:=(∃w∈sc,P=.nam pl w)\/∃n,-(10^12)<n/\n<10^12/\P=.num pl n
theorem num34{pl:Int}(hx:x.ok):∃n x',-(10^12)<n/\n<10^12/\x.Le x'/\∀{fw d p:Nat}{S:So}{xx:Kx Prop}{K:Kv Prop}{a1 a3:Option U},at? S p=some (.dct x.kv)->K (Pg.num pl n).u (set S p (.dct x'.kv))->rs34 (Gd fw (d+1)) [some (.ref p),a1,some (.int pl),a3] S (endsOf xx K):=by
 have l1:=x.tk_le (m:=10) hx (by decide);have d1:=x.dg_lt (m:=10) (by decide);by_cases h9:x.dg 10=9
 ·have l2:=(x.tk 10).tk_le (m:=10^12) l1.ok (by decide);have l3:=((x.tk 10).tk (10^12)).tk_le (m:=10^12) l2.ok (by decide);have d2:=(x.tk 10).dg_lt (m:=10^12) (by decide);have d3:=((x.tk 10).tk (10^12)).dg_lt (m:=10^12) (by decide);refine⟨(x.tk 10).dg (10^12)-((x.tk 10).tk (10^12)).dg (10^12),_,by lia,by lia,(l1.trans l2).trans l3,λ{fw d p S xx K a1 a3} h hk=>?_⟩
  ·refine(cj hx (by decide)).h h ?_;have g1:=atSet (o':=Ob.dct (x.tk 10).kv) h;refine pd cu ?_;rw[xBd h9];refine bT (pv (.int (10^12)) ?_);refine(cj l1.ok (by decide)).h g1 ?_;have g2:=atSet (o':=Ob.dct ((x.tk 10).tk (10^12)).kv) g1;refine pv (.int (10^12)) ?_;refine(cj l2.ok (by decide)).h g2 ?_;refine pv (.int ((x.tk 10).dg (10^12)-((x.tk 10).tk (10^12)).dg (10^12))) ?_;rw[setSet,setSet];exact hk
 ·refine⟨x.dg 10,x.tk 10,by lia,by lia,l1,λ{fw d p S xx K a1 a3} h hk=>?_⟩;refine(cj hx (by decide)).h h ?_;refine pd cu ?_;rw[xCn h9];exact bF hk
theorem Sx.nx_ok(h:x.ok):x.nx.ok:=h
theorem tm(hx:x.ok)(hk:0<=x.k/\x.k<=10000)(hl:sc.length<=1000):∃P x',At sc x.pl P/\x.nx.Le x'/\Bl x 34 [scU sc] 2 P.u x':=by
 have o1:=x.nx_ok hx;cases he:sc.isEmpty with
 |true=>
  obtain⟨n,x',n1,n2,le,N⟩:=num34 (x:=x.nx) (pl:=x.pl) o1;refine⟨.num x.pl n,x',.inr ⟨n,n1,n2,rfl⟩,le,⟨λ{fw d p S xx K} h hk'=>?_⟩⟩;refine cd ⟨2,4,t34⟩ ?_;refine(b9 hk).h h ?_;refine pv (.lst []) (pd ej ?_);rw[he];refine bF (bF ?_);exact N (atSet h) (by rw[setSet];exact hk')
 |false=>
  have l1:=x.nx.tk_le (m:=3) o1 (by decide);have hn:0<(sc.length:Int):=by
   cases sc with
   |nil=>cases he
   |cons _ _=>rw[xAo];lia
  by_cases hd:0<x.nx.dg 3
  ·have l2:=(x.nx.tk 3).tk_le (m:=sc.length) l1.ok hn;obtain⟨w,hw,e⟩:=dS (sc:=sc) ((x.nx.tk 3).dg_lt hn);refine⟨.nam x.pl w,_,.inl ⟨w,hw,rfl⟩,l1.trans l2,⟨λ{fw d p S xx K} h hk'=>?_⟩⟩;refine cd ⟨2,4,t34⟩ ?_;refine(b9 hk).h h ?_;have g1:=atSet (o':=Ob.dct x.nx.kv) h;refine pv (.lst []) (pd ej ?_);rw[he];refine bT ?_;refine(cj o1 (by decide)).h g1 ?_;have g2:=atSet (o':=Ob.dct (x.nx.tk 3).kv) g1;refine pv (.bl (decide (0<x.nx.dg 3))) ?_;rw[xBd hd];refine bT (pd fi ?_);refine(cj l1.ok ⟨hn,by lia⟩).h g2 ?_;refine pd e ?_;rw[setSet,setSet];exact hk'
  ·obtain⟨n,x',n1,n2,le,N⟩:=num34 (x:=x.nx.tk 3) (pl:=x.pl) l1.ok;refine⟨.num x.pl n,x',.inr ⟨n,n1,n2,rfl⟩,l1.trans le,⟨λ{fw d p S xx K} h hk'=>?_⟩⟩;refine cd ⟨2,4,t34⟩ ?_;refine(b9 hk).h h ?_;have g1:=atSet (o':=Ob.dct x.nx.kv) h;refine pv (.lst []) (pd ej ?_);rw[he];refine bT ?_;refine(cj o1 (by decide)).h g1 ?_;refine pv (.bl (decide (0<x.nx.dg 3))) ?_;rw[xCn hd];refine bF ?_;exact N (atSet g1) (by rw[setSet,setSet];exact hk')
section
variable{x:Sx}{sc ws:List Str}
def wds:List Str:=["kind","odd","big","a","b","ab"]
theorem e8(hx:x.ok):∃w x',w∈wds/\x.Le x'/\Bl x 39 [] 2 (.str w) x':=by
 have l1:=x.tk_le (m:=6) hx (by decide);obtain⟨w,hw,e⟩:=dS (sc:=wds) (i:=x.dg 6) (x.dg_lt (m:=6) (by decide));refine⟨w,_,hw,l1,⟨λ{fw d p S xx K} h hk=>?_⟩⟩;refine cd ⟨1,1,t39⟩ ?_;refine pv (scU wds) ?_;refine(cj hx (by decide)).h h ?_;refine pd e ?_;exact hk
theorem iz{j:Int}(h:0<=j/\j<=1000):pr ups .rng1 [.int j] S=.ok (.tup (intL 0 j.toNat)) S:=by
 delta pr;dsimp only;rw[xBd (by lia)]
theorem intL_len:∀{n:Nat}{lo:Int},(intL lo n).length=n
 |0,_=>rfl
 |n+1,lo=>congrArg (·+1) (intL_len (n:=n))
def nth5(ws:List Str)(f k:Nat):Str:=ws.getD ((f+k)%5) ""
theorem oZ{f k:Nat}(h:ws.length=5):nth5 ws f k∈ws:=by
 unfold nth5;have hj:(f+k)%5<ws.length:=by omega
 rw[xBz,xAk hj];exact List.getElem_mem hj
theorem xj{f k:Nat}(h:ws.length=5):pr ups .ix [scU ws,.int (((f:Int)+k)%5)] S=.ok (.str (nth5 ws f k)) S:=by
 have hj:(f+k)%5<ws.length:=by omega
 rw[show((f:Int)+k)%5=(((f+k)%5:Nat):Int) by omega];show opt (atI (ws.map U.str) (((f+k)%5:Nat):Int)) S=_;rw[c9 (v:=.str (nth5 ws f k)) (by unfold nth5;rw[xAw,xAk hj,xBz,xAk hj];rfl)];rfl
theorem tL{f:Nat}{fw d:Nat}{S:So}{K:Kv Prop}(h:ws.length=5):∀{n lo:Nat}{ys:List U},K (.lst (ys++(List.range' lo n).map λk=>.str (nth5 ws f k))) S->lcK (Gd fw d) (lcB [1] true [none,none,some (scU ws),some (.int f)] none (J4 J9 (J2 .mod (J2 (.add false) J8 J3) (J6 .len J9))) (Gd fw d)) (intL (lo:Int) n) ys S K
 |0,lo,ys,hk=>by
  rw[List.range'_zero,List.map_nil,xB0] at hk;exact hk
 |n+1,lo,ys,hk=>by
  refine pv (.int ((f:Int)+lo)) (pd fi ?_);rw[h];refine pv (.int (((f:Int)+lo)%5)) ?_;refine pd (xj h) ?_;refine tL h (n:=n) (lo:=lo+1) (ys:=ys++[.str (nth5 ws f lo)]) ?_;rw[xAx];exact hk
structure Nms(ws xs:List Str):Prop where
 sub:∀y∈xs,y∈ws
 few:xs.length<=4
 nd:xs.Nodup
theorem vB{f n:Nat}(h:ws.length=5)(hn:ws.Nodup)(h4:n<=4):Nms ws ((List.range' 0 n).map (nth5 ws f)):=by
 refine⟨λy hy=>?_,by rw[xAa,List.length_range'];exact h4,?_⟩
 ·obtain⟨k,_,rfl⟩:=xA2.mp hy;exact oZ h
 ·refine List.pairwise_map.mpr ((List.nodup_range' (step:=1)).imp_of_mem λ{a b} ha hb z e=>z ?_);have ha:=(List.mem_range'_1.mp ha).2;have hb:=(List.mem_range'_1.mp hb).2;unfold nth5 at e;have h1:(f+a)%5<ws.length:=by omega
  have h2:(f+b)%5<ws.length:=by omega
  rw[xBz,xBz,xAk h1,xAk h2] at e;have hp:=List.pairwise_iff_getElem.mp hn;have e:ws[(f+a)%5]=ws[(f+b)%5]:=e;rcases Nat.lt_trichotomy ((f+a)%5) ((f+b)%5) with q|q|q
  ·exact absurd e (hp _ _ h1 h2 q)
  ·omega
  ·exact absurd e.symm (hp _ _ h2 h1 q)
theorem em(h:ws.length=5):pr ups .len [scU ws] S=.ok (.int 5) S:=by
 rw[fi,h];rfl
theorem f9(hx:x.ok)(h:ws.length=5)(hn:ws.Nodup):∃xs x',Nms ws xs/\x.Le x'/\Bl x 36 [scU ws] 2 (.tup (xs.map .str)) x':=by
 have l1:=x.tk_le (m:=5) hx (by decide);have l2:=(x.tk 5).tk_le (m:=5) l1.ok (by decide);obtain⟨d1,d2⟩:=x.dg_lt (m:=5) (by decide);obtain⟨d3,d4⟩:=(x.tk 5).dg_lt (m:=5) (by decide);obtain⟨f,hf⟩:=Int.eq_ofNat_of_zero_le d1;obtain⟨n,hn'⟩:=Int.eq_ofNat_of_zero_le d3;refine⟨(List.range' 0 n).map (nth5 ws f),_,vB h hn (by omega),l1.trans l2,⟨λ{fw d p S xx K} hp hk=>?_⟩⟩;refine cd ⟨2,4,t36⟩ ?_;refine pd (em h) ?_;refine(cj hx (by decide)).h hp ?_;have g1:=atSet (o':=Ob.dct (x.tk 5).kv) hp;refine(cj l1.ok (by decide)).h g1 ?_;refine pd (em h) ?_;rw[hf,hn'];refine pv (.int n) ?_ (by show Res.ok (.int (if(5:Int)<n then 5 else n)) _=_;rw[xCf (by omega)]);refine pd (iz (by omega)) ?_;rw[xC3];refine bI (λ_=>?_) λz=>?_
 ·refine tL (lo:=0) h ?_;rw[xC6];refine pv (.tup ((List.range' 0 n).map λk=>.str (nth5 ws f k))) ?_;rw[setSet];rw[List.map_map] at hk;exact hk
 ·rw[intL_len,xDk (show n<=sizeLine by show n<=2^24;omega)] at z;cases z
end
structure Nmz(N:Str->Prop)(xs:List Str):Prop where
 ok:∀y∈xs,N y
 few:xs.length<=4
 nd:xs.Nodup
def ops:List Str:=["add","sub","mul","less","same"]
inductive Wf(N:Str->Prop):List Str->Nat->Pg->Prop where
 |num {sc:List Str} {d:Nat} {pl n:Int} (h1:-(10^12)<n) (h2:n<10^12):Wf N sc d (.num pl n)
 |nam {sc:List Str} {d:Nat} {pl:Int} {x:Str} (h:x∈sc):Wf N sc d (.nam pl x)
 |fn {sc xs:List Str} {d:Nat} {pl:Int} {b:Pg} (h:Nmz N xs) (hb:Wf N (sc++xs) d b):Wf N sc (d+1) (.fn pl xs b)
 |call {sc:List Str} {d:Nat} {pl:Int} {f:Pg} {as:List Pg} (hf:Wf N sc d f) (h:∀a∈as,Wf N sc d a) (h4:as.length<=4):Wf N sc (d+1) (.call pl f as)
 |lt {sc:List Str} {d:Nat} {pl:Int} {x:Str} {a b:Pg} (hx:N x) (ha:Wf N sc d a) (hb:Wf N (sc++[x]) d b):Wf N sc (d+1) (.lt pl x a b)
 |st {sc:List Str} {d:Nat} {pl:Int} {x:Str} {a:Pg} (hx:x∈sc) (ha:Wf N sc d a):Wf N sc (d+1) (.st pl x a)
 |dd {sc:List Str} {d:Nat} {pl:Int} {a b:Pg} (ha:Wf N sc d a) (hb:Wf N sc d b):Wf N sc (d+1) (.dd pl a b)
 |iff {sc:List Str} {d:Nat} {pl:Int} {a b c:Pg} (ha:Wf N sc d a) (hb:Wf N sc d b) (hc:Wf N sc d c):Wf N sc (d+1) (.iff pl a b c)
 |math {sc:List Str} {d:Nat} {pl:Int} {o:Str} {a b:Pg} (ho:o∈ops) (ha:Wf N sc d a) (hb:Wf N sc d b):Wf N sc (d+1) (.math pl o a b)
 |make {sc:List Str} {d:Nat} {pl:Int} {t:Str} {as:List Pg} (ht:t∈wds) (h:∀a∈as,Wf N sc d a) (h4:as.length<=4):Wf N sc (d+1) (.make pl t as)
 |mat {sc xs:List Str} {d:Nat} {pl:Int} {t:Str} {a b c:Pg} (ht:t∈wds) (hx:Nmz N xs) (ha:Wf N sc d a) (hb:Wf N (sc++xs) d b) (hc:Wf N sc d c):Wf N sc (d+1) (.mat pl a t xs b c)
 |rai {sc:List Str} {d:Nat} {pl:Int} {w:Str} {a:Pg} (hw:w∈wds) (ha:Wf N sc d a):Wf N sc (d+1) (.rai pl w a)
 |try_ {sc:List Str} {d:Nat} {pl:Int} {w x:Str} {a b:Pg} (hw:w∈wds) (hx:N x) (ha:Wf N sc d a) (hb:Wf N (sc++[x]) d b):Wf N sc (d+1) (.try_ pl a w x b)
 |tell {sc:List Str} {d:Nat} {pl:Int} {a:Pg} (ha:Wf N sc d a):Wf N sc (d+1) (.tell pl a)
 |ask {sc:List Str} {d:Nat} {pl:Int}:Wf N sc (d+1) (.ask pl)
theorem Wf.up{sc:List Str}{P:Pg}(h:Wf N sc d P):∀{e:Nat},d<=e->Wf N sc e P:=by
 induction h with
 |num h1 h2=>intro e _;exact .num h1 h2
 |nam h=>intro e _;exact .nam h
 |fn h hb ib=>intro e he;obtain⟨e,rfl⟩:∃e',e=e'+1:=⟨e-1,by lia⟩;exact .fn h (ib (by lia))
 |call hf h h4 i1 i2=>intro e he;obtain⟨e,rfl⟩:∃e',e=e'+1:=⟨e-1,by lia⟩;exact .call (i1 (by lia)) (λa ha=>i2 a ha (by lia)) h4
 |lt hx ha hb i1 i2=>intro e he;obtain⟨e,rfl⟩:∃e',e=e'+1:=⟨e-1,by lia⟩;exact .lt hx (i1 (by lia)) (i2 (by lia))
 |st hx ha i1=>intro e he;obtain⟨e,rfl⟩:∃e',e=e'+1:=⟨e-1,by lia⟩;exact .st hx (i1 (by lia))
 |dd ha hb i1 i2=>intro e he;obtain⟨e,rfl⟩:∃e',e=e'+1:=⟨e-1,by lia⟩;exact .dd (i1 (by lia)) (i2 (by lia))
 |iff ha hb hc i1 i2 i3=>intro e he;obtain⟨e,rfl⟩:∃e',e=e'+1:=⟨e-1,by lia⟩;exact .iff (i1 (by lia)) (i2 (by lia)) (i3 (by lia))
 |math ho ha hb i1 i2=>intro e he;obtain⟨e,rfl⟩:∃e',e=e'+1:=⟨e-1,by lia⟩;exact .math ho (i1 (by lia)) (i2 (by lia))
 |make ht h h4 i2=>intro e he;obtain⟨e,rfl⟩:∃e',e=e'+1:=⟨e-1,by lia⟩;exact .make ht (λa ha=>i2 a ha (by lia)) h4
 |mat ht hx ha hb hc i1 i2 i3=>intro e he;obtain⟨e,rfl⟩:∃e',e=e'+1:=⟨e-1,by lia⟩;exact .mat ht hx (i1 (by lia)) (i2 (by lia)) (i3 (by lia))
 |rai hw ha i1=>intro e he;obtain⟨e,rfl⟩:∃e',e=e'+1:=⟨e-1,by lia⟩;exact .rai hw (i1 (by lia))
 |try_ hw hx ha hb i1 i2=>intro e he;obtain⟨e,rfl⟩:∃e',e=e'+1:=⟨e-1,by lia⟩;exact .try_ hw hx (i1 (by lia)) (i2 (by lia))
 |tell ha i1=>intro e he;obtain⟨e,rfl⟩:∃e',e=e'+1:=⟨e-1,by lia⟩;exact .tell (i1 (by lia))
 |ask=>intro e he;obtain⟨e,rfl⟩:∃e',e=e'+1:=⟨e-1,by lia⟩;exact .ask
mutual
def Pg.pls:Pg->List Int
 |.num pl _=>[pl]
 |.nam pl _=>[pl]
 |.fn pl _ b=>pl::b.pls
 |.call pl f as=>pl::(f.pls++Pg.plss as)
 |.lt pl _ a b=>pl::(a.pls++b.pls)
 |.st pl _ a=>pl::a.pls
 |.dd pl a b=>pl::(a.pls++b.pls)
 |.iff pl a b c=>pl::(a.pls++(b.pls++c.pls))
 |.math pl _ a b=>pl::(a.pls++b.pls)
 |.make pl _ as=>pl::Pg.plss as
 |.mat pl a _ _ b c=>pl::(a.pls++(b.pls++c.pls))
 |.rai pl _ a=>pl::a.pls
 |.try_ pl a _ _ b=>pl::(a.pls++b.pls)
 |.tell pl a=>pl::a.pls
 |.ask pl=>[pl]
def Pg.plss:List Pg->List Int
 |[]=>[]
 |a::r=>a.pls++Pg.plss r
end
def plOf(h k:Int):Int:=(7*k+h)%600
def Ks(h lo hi:Int)(pls:List Int):Prop:=∃ks:List Int,pls=ks.map (plOf h)/\ks.Nodup/\∀k∈ks,lo<k/\k<=hi
theorem Ks.nil{h:Int}:Ks h lo hi []:=⟨[],rfl,List.nodup_nil,λ_ z=>(nomatch z)⟩
theorem Ks.one{h k:Int}(h1:lo<k)(h2:k<=hi):Ks h lo hi [plOf h k]:=⟨[k],rfl,xCb.mpr ⟨(by simp),List.nodup_nil⟩,λq z=>by rw[xAm.mp z];exact⟨h1,h2⟩⟩
theorem Ks.app{h:Int}{l r:List Int}(a:Ks h lo mi l)(b:Ks h mi hi r)(h1:lo<=mi)(h2:mi<=hi):Ks h lo hi (l++r):=by
 obtain⟨ks,rfl,n1,b1⟩:=a;obtain⟨js,rfl,n2,b2⟩:=b;refine⟨ks++js,by rw[xAi],xBq.mpr ⟨n1,n2,λx hx y hy e=>?_⟩,λk hk=>?_⟩
 ·have:=b1 x hx;have:=b2 y hy;lia
 ·rcases xAj.mp hk with z|z
  ·have:=b1 k z;lia
  ·have:=b2 k z;lia
theorem Ks.cons{h k:Int}{r:List Int}(h1:lo<k)(h3:k<=mi)(b:Ks h mi hi r)(h2:mi<=hi):Ks h lo hi (plOf h k::r):=(Ks.one h1 h3).app b (by lia) h2
structure Iv(x:Sx):Prop where
 ok:x.ok
 a:x.a=80-x.k
 k:0<=x.k/\x.k<=10000
structure Pt(N:Str->Prop)(sc:List Str)(dm:Nat)(x:Sx)(P:Pg)(x':Sx):Prop where
 wf:Wf N sc dm P
 iv:Iv x'
 h:x'.h=x.h
 ks:Ks x.h x.k x'.k P.pls
 lo:x.k<x'.k
 at80:80<=x.k->x'.k=x.k+1
 hi:x'.k<=x.k+1\/x'.k<=82+6*dm
theorem tj{sc:List Str}{x:Sx}{dm:Nat}(hx:Iv x)(hk:x.k<10000)(hl:sc.length<=1000):∃P x',Pt N sc dm x P x'/\Bl x 34 [scU sc] 2 P.u x':=by
 obtain⟨P,x',hA,le,B⟩:=tm (sc:=sc) hx.ok hx.k hl;have ek:x'.k=x.k+1:=le.k;have ea:x'.a=x.a-1:=le.a;have h0:=hx.a;have h1:=hx.k;have ks:Ks x.h x.k x'.k [x.pl]:=Ks.one (k:=x.k+1) (by lia) (by lia);refine⟨P,x',⟨?_,⟨le.ok,by lia,by lia⟩,le.h,?_,by lia,λ_=>ek,.inl (by lia)⟩,B⟩
 ·rcases hA with ⟨w,hw,rfl⟩|⟨n,n1,n2,rfl⟩
  ·exact .nam hw
  ·exact .num n1 n2
 ·rcases hA with ⟨w,hw,rfl⟩|⟨n,n1,n2,rfl⟩ <;> exact ks
section
variable{N:Str->Prop}{ws sc:List Str}{x x':Sx}{dm:Nat}{dp:Int}
theorem Bl.up{i:Nat}{v:U}(b:Bl x i as lv v x')(h:lv<=lv'):Bl x i as lv' v x':=⟨λ{fw d p S xx K} hp hk=>by
 have:=b.h (fw:=fw) (d:=d+(lv'-lv)) (xx:=xx) hp hk;rw[show d+(lv'-lv)+lv=d+lv' by lia] at this;exact this⟩
def PH(N:Str->Prop)(ws:List Str)(dm:Nat):Prop:=∀{x:Sx}{sc:List Str}{dp:Int},Iv x->x.k+40*dm<=2000->sc.length+10*dm<=500->dp<=dm->∃P x',Pt N sc dm x P x'/\Bl x 42 [scU ws,scU sc,.int dp] (3*dm+3) P.u x'
structure Pts(N:Str->Prop)(sc:List Str)(dm:Nat)(x:Sx)(as:List Pg)(x':Sx):Prop where
 wf:∀a∈as,Wf N sc dm a
 iv:Iv x'
 h:x'.h=x.h
 ks:Ks x.h x.k x'.k (Pg.plss as)
 lo:x.k<=x'.k
 at80:80<=x.k->x'.k=x.k+as.length
 hi:x'.k<=x.k+as.length\/x'.k<=82+6*dm+as.length
theorem nJ(H:PH N ws dm)(hl:sc.length+10*dm<=500)(hd:dp<=dm):∀{n:Nat}{x:Sx},Iv x->x.k+40*dm+10*n<=2000->n<=4->82+6*dm+40*dm<=1900->∃as x',as.length=n/\Pts N sc dm x as x'/\∀{fw d p lo:Nat}{S:So}{K:Kv Prop}{ys:List U},at? S p=some (.dct x.kv)->K (.lst (ys++Pg.us as)) (set S p (.dct x'.kv))->lcK (Gd fw (d+(3*dm+3))) (lcB [1] true [none,none,some (.ref p),some (scU sc),some (scU ws),some (.int dp)] none (Jl 42 (Jk J9 Ja J8 Jb)) (Gd fw (d+(3*dm+3)))) (intL (lo:Int) n) ys S K
 | 0,x,hx,_,_,_=>⟨[],x,rfl,⟨λ_ z=>(nomatch z),hx,rfl,.nil,xBu _,λ_=>by simp,.inl (by simp)⟩,λ{fw d p lo S K ys} h hk=>by
  rw[Pg.us,xB0,setSame h] at hk;exact hk⟩
 |n+1,x,hx,hk,hn,hb=>by
  obtain⟨P,x1,p1,b1⟩:=H (x:=x) (sc:=sc) (dp:=dp) hx (by lia) hl hd;have lo1:=p1.lo;have hi1:=p1.hi;obtain⟨as,x2,e,q,f⟩:=nJ H hl hd (n:=n) (x:=x1) p1.iv (by lia) (by lia) hb;have lo2:=q.lo;have hi2:=q.hi;have a1:=p1.at80;have a2:=q.at80;refine⟨P::as,x2,by rw[xAo,e],⟨λa ha=>?_,q.iv,q.h.trans p1.h,?_,by lia,λz=>?_,?_⟩,λ{fw d p lo S K ys} h hk=>?_⟩
  ·rcases xAv.mp ha with rfl|ha
   ·exact p1.wf
   ·exact q.wf a ha
  ·have k2:=q.ks;rw[p1.h] at k2;exact p1.ks.app k2 (by lia) lo2
  ·rw[xAo];have:=a1 z;have:=a2 (by lia);lia
  ·rw[xAo];lia
  ·refine b1.h h ?_;refine f (lo:=lo+1) (atSet h) ?_;rw[setSet,xAx];exact hk
theorem jV(H:PH N ws dm)(hl:sc.length+10*dm<=500)(hd:dp<=dm)(hx:Iv x)(hk:x.k+40*dm+40<=2000)(hm:dm<=20):∃as x',as.length<=4/\Pts N sc dm x as x'/\Bl x 35 [scU ws,scU sc,.int dp] (3*dm+4) (.tup (Pg.us as)) x':=by
 have l1:=x.tk_le (m:=5) hx.ok (by decide);obtain⟨d1,d2⟩:=x.dg_lt (m:=5) (by decide);obtain⟨n,hn⟩:=Int.eq_ofNat_of_zero_le d1;have i1:Iv (x.tk 5):=⟨l1.ok,by rw[l1.a,l1.k];exact hx.a,by rw[l1.k];exact hx.k⟩
 obtain⟨as,x2,e,q,f⟩:=nJ (n:=n) H hl hd i1 (by rw[l1.k];lia) (by lia) (by lia);have ek:(x.tk 5).k=x.k:=l1.k;have eh:(x.tk 5).h=x.h:=l1.h;refine⟨as,x2,by lia,⟨q.wf,q.iv,by rw[q.h,eh],by have:=q.ks;rw[ek,eh] at this;exact this,by have:=q.lo;lia,λz=>by have:=q.at80 (by lia);lia,by have:=q.hi;lia⟩,⟨λ{fw d p S xx K} h hk'=>?_⟩⟩;refine cd ⟨4,4,t35⟩ ?_;refine(cj hx.ok (by decide)).h h ?_;rw[hn];refine pd (iz (by lia)) ?_;rw[xC3];refine bI (λ_=>?_) λz=>?_
 ·refine f (lo:=0) (atSet h) ?_;rw[xC6];refine pv (.tup (Pg.us as)) ?_;rw[setSet];exact hk'
 ·rw[intL_len,xDk (show n<=sizeLine by show n<=2^24;lia)] at z;cases z
end
section
variable{N:Str->Prop}{ws sc:List Str}{x x':Sx}{e:Nat}{dp way:Int}
structure Pn(N:Str->Prop)(sc:List Str)(dm:Nat)(x:Sx)(P:Pg)(x':Sx):Prop where
 wf:Wf N sc dm P
 iv:Iv x'
 h:x'.h=x.h
 ks:Ks x.h x.k x'.k P.pls
 lo:x.k<x'.k
 hi:x'.k<=82+6*dm
theorem Iv.nx(h:Iv x)(hk:x.k<10000):Iv x.nx:=⟨h.ok,by show x.a-1=80-(x.k+1);have:=h.a;lia,by show 0<=x.k+1/\x.k+1<=10000;have:=h.k;lia⟩
theorem Iv.le{y:Sx}(h:Iv x)(l:x.Le y):Iv y:=⟨l.ok,by rw[l.a,l.k];exact h.a,by rw[l.k];exact h.k⟩
theorem dl{P:Pg}{r:List Int}(hx:x.k<80)(e1:P.pls=x.pl::r)(wf:Wf N sc (e+1) P)(iv:Iv x')(h:x'.h=x.h)(ks:Ks x.h (x.k+1) x'.k r)(lo:x.k+1<=x'.k)(hi:x'.k<=88+6*e):Pn N sc (e+1) x P x':=by
 refine⟨wf,iv,h,?_,by lia,by lia⟩;rw[e1];exact Ks.cons (k:=x.k+1) (by lia) (xBu _) ks lo
theorem lR(hx:Iv x)(h80:x.k<80):∃P x',Pn N sc (e+1) x P x'/\Bl x 40 [scU ws,scU sc,.int dp,.int 2] (3*e+5) P.u x':=by
 refine⟨.ask x.pl,x.nx,dl h80 rfl .ask (hx.nx (by lia)) rfl .nil (xBu _) (by show x.k+1<=_;lia),⟨λ{fw d p S xx K} h hk=>?_⟩⟩;refine cd (d:=d+(3*e+4)) ⟨5,9,t40⟩ ?_;refine((b9 hx.k).up (by lia)).h h ?_;refine pv (.bl false) (bF (bF ?_));refine pv (.bl false) (bF ?_);refine pv (.bl true) (bT ?_);exact hk
theorem jp(H:PH N ws e)(he:e<=14)(hl:sc.length+10*e<=500)(hd:dp<=e)(hx:Iv x)(h80:x.k<80):∃P x',Pn N sc (e+1) x P x'/\Bl x 40 [scU ws,scU sc,.int dp,.int 1] (3*e+5) P.u x':=by
 have i1:=hx.nx (by lia);have k0:=hx.k;have k1:x.nx.k=x.k+1:=rfl;obtain⟨w,x2,hw,l2,b2⟩:=e8 i1.ok;have i2:=i1.le l2;have k2:x2.k=x.k+1:=l2.k;obtain⟨as,x3,n4,q,b3⟩:=jV H hl hd i2 (by lia) (by lia);have a:=q.at80;have b:=q.hi;have c:=q.lo;have h2:x2.h=x.h:=l2.h;refine⟨.make x.pl w as,x3,dl (r:=Pg.plss as) h80 rfl (.make hw q.wf n4) q.iv (by rw[q.h,h2]) (by have:=q.ks;rw[h2,k2] at this;exact this) (by lia) (by lia),⟨λ{fw d p S xx K} h hk=>?_⟩⟩;refine cd (d:=d+(3*e+4)) ⟨5,9,t40⟩ ?_;refine((b9 hx.k).up (by lia)).h h ?_;have g1:=atSet (o':=Ob.dct x.nx.kv) h;refine pv (.bl false) (bF (bF ?_));refine pv (.bl true) (bT ?_);refine(b2.up (by lia)).h g1 ?_;have g2:=atSet (o':=Ob.dct x2.kv) g1;refine(b3.up (by lia)).h g2 ?_;rw[setSet,setSet];exact hk
end
section
variable{N:Str->Prop}{ws sc:List Str}{x x':Sx}{e:Nat}{dp way:Int}
theorem lQ(H:PH N ws e)(he:e<=14)(hl:sc.length+10*e<=500)(hd:dp<=e)(hx:Iv x)(h80:x.k<80)(hs:sc.isEmpty=false):∃P x',Pn N sc (e+1) x P x'/\Bl x 40 [scU ws,scU sc,.int dp,.int 0] (3*e+5) P.u x':=by
 have i1:=hx.nx (by lia);have k0:=hx.k;have k1:x.nx.k=x.k+1:=rfl;have hn:0<(sc.length:Int):=by
  cases sc with
  |nil=>cases hs
  |cons _ _=>rw[xAo];lia
 have l2:=x.nx.tk_le (m:=sc.length) i1.ok hn;obtain⟨w,hw,ew⟩:=dS (sc:=sc) (x.nx.dg_lt hn);have i2:=i1.le l2;have k2:(x.nx.tk sc.length).k=x.k+1:=l2.k;have h2:(x.nx.tk sc.length).h=x.h:=l2.h;obtain⟨P,x3,q,b3⟩:=H (x:=x.nx.tk sc.length) (sc:=sc) (dp:=dp) i2 (by lia) hl hd;have a:=q.at80;have b:=q.hi;have c:=q.lo;refine⟨.st x.pl w P,x3,dl (r:=P.pls) h80 rfl (.st hw q.wf) q.iv (by rw[q.h,h2]) (by have:=q.ks;rw[h2,k2] at this;exact this) (by lia) (by lia),⟨λ{fw d p S xx K} h hk=>?_⟩⟩;refine cd (d:=d+(3*e+4)) ⟨5,9,t40⟩ ?_;refine((b9 hx.k).up (by lia)).h h ?_;have g1:=atSet (o':=Ob.dct x.nx.kv) h;refine pv (.bl true) (bT ?_);refine pv (.lst []) (pd ej ?_);rw[hs];refine bT (pd fi ?_);refine((cj i1.ok ⟨hn,by lia⟩).up (by lia)).h g1 ?_;have g2:=atSet (o':=Ob.dct (x.nx.tk sc.length).kv) g1;refine pd ew ?_;refine(b3.up (by lia)).h g2 ?_;rw[setSet,setSet];exact hk
theorem iC(H:PH N ws e)(he:e<=14)(hl:sc.length+10*e<=500)(hd:dp<=e)(hx:Iv x)(h80:x.k<80):∃P x',Pn N sc (e+1) x P x'/\Bl x 40 [scU ws,scU sc,.int dp,.int 3] (3*e+5) P.u x':=by
 have i1:=hx.nx (by lia);have k0:=hx.k;have k1:x.nx.k=x.k+1:=rfl;obtain⟨P,x2,q,b2⟩:=H (x:=x.nx) (sc:=sc) (dp:=dp) i1 (by lia) hl hd;obtain⟨w,x3,hw,l3,b3⟩:=e8 q.iv.ok;have a:=q.at80;have b:=q.hi;have c:=q.lo;have k3:x3.k=x2.k:=l3.k;have h3:x3.h=x2.h:=l3.h;refine⟨.rai x.pl w P,x3,dl (r:=P.pls) h80 rfl (.rai hw q.wf) (q.iv.le l3) (by rw[h3,q.h];rfl) (by have:=q.ks;rw[k3];exact this) (by lia) (by lia),⟨λ{fw d p S xx K} h hk=>?_⟩⟩;refine cd (d:=d+(3*e+4)) ⟨5,9,t40⟩ ?_;refine((b9 hx.k).up (by lia)).h h ?_;have g1:=atSet (o':=Ob.dct x.nx.kv) h;refine pv (.bl false) (bF (bF (pv (.bl false) (bF (pv (.bl false) (bF ?_))))));refine(b2.up (by lia)).h g1 ?_;have g2:=atSet (o':=Ob.dct x2.kv) g1;refine pv (.bl true) (bT ?_);refine(b3.up (by lia)).h g2 ?_;rw[setSet,setSet];exact hk
theorem jq(H:PH N ws e)(he:e<=14)(hl:sc.length+10*e<=500)(hd:dp<=e)(hx:Iv x)(h80:x.k<80):∃P x',Pn N sc (e+1) x P x'/\Bl x 40 [scU ws,scU sc,.int dp,.int 4] (3*e+5) P.u x':=by
 have i1:=hx.nx (by lia);have k0:=hx.k;have k1:x.nx.k=x.k+1:=rfl;obtain⟨P,x2,q,b2⟩:=H (x:=x.nx) (sc:=sc) (dp:=dp) i1 (by lia) hl hd;have a:=q.at80;have b:=q.hi;have c:=q.lo;obtain⟨as,x3,n4,r,b3⟩:=jV H hl hd q.iv (by lia) (by lia);have a':=r.at80;have b':=r.hi;have c':=r.lo;have h2:x2.h=x.h:=q.h;refine⟨.call x.pl P as,x3,dl (r:=P.pls++Pg.plss as) h80 rfl (.call q.wf r.wf n4) r.iv (by rw[r.h,h2]) (by have k:=r.ks;rw[h2] at k;exact Ks.app q.ks k (by lia) c') (by lia) (by lia),⟨λ{fw d p S xx K} h hk=>?_⟩⟩;refine cd (d:=d+(3*e+4)) ⟨5,9,t40⟩ ?_;refine((b9 hx.k).up (by lia)).h h ?_;have g1:=atSet (o':=Ob.dct x.nx.kv) h;refine pv (.bl false) (bF (bF (pv (.bl false) (bF (pv (.bl false) (bF ?_))))));refine(b2.up (by lia)).h g1 ?_;have g2:=atSet (o':=Ob.dct x2.kv) g1;refine pv (.bl false) (bF (pv (.bl true) (bT ?_)));refine(b3.up (by lia)).h g2 ?_;rw[setSet,setSet];exact hk
theorem jo(H:PH N ws e)(he:e<=14)(hl:sc.length+10*e<=500)(hd:dp<=e)(hx:Iv x)(h80:x.k<80):∃P x',Pn N sc (e+1) x P x'/\Bl x 40 [scU ws,scU sc,.int dp,.int 5] (3*e+5) P.u x':=by
 have i1:=hx.nx (by lia);have k0:=hx.k;have k1:x.nx.k=x.k+1:=rfl;obtain⟨P,x2,q,b2⟩:=H (x:=x.nx) (sc:=sc) (dp:=dp) i1 (by lia) hl hd;have a:=q.at80;have b:=q.hi;have c:=q.lo;refine⟨.tell x.pl P,x2,dl (r:=P.pls) h80 rfl (.tell q.wf) q.iv q.h q.ks (by lia) (by lia),⟨λ{fw d p S xx K} h hk=>?_⟩⟩;refine cd (d:=d+(3*e+4)) ⟨5,9,t40⟩ ?_;refine((b9 hx.k).up (by lia)).h h ?_;have g1:=atSet (o':=Ob.dct x.nx.kv) h;refine pv (.bl false) (bF (bF (pv (.bl false) (bF (pv (.bl false) (bF ?_))))));refine(b2.up (by lia)).h g1 ?_;refine pv (.bl false) (bF (pv (.bl false) (bF (pv (.bl true) (bT ?_)))));rw[setSet];exact hk
theorem og(H:PH N ws e)(he:e<=14)(hl:sc.length+10*e<=500)(hd:dp<=e)(hx:Iv x)(h80:x.k<80):∃P x',Pn N sc (e+1) x P x'/\Bl x 40 [scU ws,scU sc,.int dp,.int 6] (3*e+5) P.u x':=by
 have i1:=hx.nx (by lia);have k0:=hx.k;have k1:x.nx.k=x.k+1:=rfl;obtain⟨P,x2,q,b2⟩:=H (x:=x.nx) (sc:=sc) (dp:=dp) i1 (by lia) hl hd;have a:=q.at80;have b:=q.hi;have c:=q.lo;obtain⟨Q,x3,r,b3⟩:=H (x:=x2) (sc:=sc) (dp:=dp) q.iv (by lia) hl hd;have a':=r.at80;have b':=r.hi;have c':=r.lo;obtain⟨R,x4,t,b4⟩:=H (x:=x3) (sc:=sc) (dp:=dp) r.iv (by lia) hl hd;have a'':=t.at80;have b'':=t.hi;have c'':=t.lo;have h2:x2.h=x.h:=q.h;have h3:x3.h=x.h:=r.h.trans h2;refine⟨.iff x.pl P Q R,x4,dl (r:=P.pls++(Q.pls++R.pls)) h80 rfl (.iff q.wf r.wf t.wf) t.iv (by rw[t.h,h3]) (by have k:=r.ks;rw[h2] at k;have k':=t.ks;rw[h3] at k';exact Ks.app q.ks (k.app k' (by lia) (by lia)) (by lia) (by lia)) (by lia) (by lia),⟨λ{fw d p S xx K} h hk=>?_⟩⟩;refine cd (d:=d+(3*e+4)) ⟨5,9,t40⟩ ?_;refine((b9 hx.k).up (by lia)).h h ?_;have g1:=atSet (o':=Ob.dct x.nx.kv) h;refine pv (.bl false) (bF (bF (pv (.bl false) (bF (pv (.bl false) (bF ?_))))));refine(b2.up (by lia)).h g1 ?_;have g2:=atSet (o':=Ob.dct x2.kv) g1;refine pv (.bl false) (bF (pv (.bl false) (bF (pv (.bl false) (bF ?_)))));refine(b3.up (by lia)).h g2 ?_;have g3:=atSet (o':=Ob.dct x3.kv) g2;refine pv (.bl true) (bT ?_);refine(b4.up (by lia)).h g3 ?_;rw[setSet,setSet,setSet];exact hk
end
section
variable{N:Str->Prop}{ws sc:List Str}{x x':Sx}{e:Nat}{dp way:Int}
theorem ut(H:PH N ws e)(he:e<=14)(hl:sc.length+10*e<=500)(hd:dp<=e)(hx:Iv x)(h80:x.k<80)(hw:way=0\/7<=way):∃P x',Pn N sc (e+1) x P x'/\∀{fw d p:Nat}{S:So}{xx:Kx Prop}{K:Kv Prop}{a6 a7 a8:Option U},at? S p=some (.dct x.nx.kv)->K P.u (set S p (.dct x'.kv))->rs40 (Gd fw (d+(3*e+4))) [some (.ref p),some (scU ws),some (scU sc),some (.int dp),some (.int way),some (.int x.pl),a6,a7,a8] S (endsOf xx K):=by
 have i1:=hx.nx (by lia);have k0:=hx.k;have k1:x.nx.k=x.k+1:=rfl;obtain⟨P,x2,q,b2⟩:=H (x:=x.nx) (sc:=sc) (dp:=dp) i1 (by lia) hl hd;have a:=q.at80;have b:=q.hi;have c:=q.lo;obtain⟨Q,x3,r,b3⟩:=H (x:=x2) (sc:=sc) (dp:=dp) q.iv (by lia) hl hd;have a':=r.at80;have b':=r.hi;have c':=r.lo;have h2:x2.h=x.h:=q.h;have h3:x3.h=x.h:=r.h.trans h2;have ks:Ks x.h (x.k+1) x3.k (P.pls++Q.pls):=by
  have k:=r.ks;rw[h2] at k;exact Ks.app q.ks k (by lia) (by lia)
 have n3:∀{j:Int},j=3\/j=4\/j=5\/j=6->decide (way=j)=false:=λ{j} hj=>xCn (by lia);by_cases h9:way<9
 ·have l4:=x3.tk_le (m:=5) r.iv.ok (by decide);obtain⟨o,ho,eo⟩:=dS (sc:=ops) (i:=x3.dg 5) (x3.dg_lt (m:=5) (by decide));have k4:(x3.tk 5).k=x3.k:=l4.k;have h4:(x3.tk 5).h=x3.h:=l4.h;refine⟨.math x.pl o P Q,x3.tk 5,dl (r:=P.pls++Q.pls) h80 rfl (.math ho q.wf r.wf) (r.iv.le l4) (by rw[h4,h3]) (by rw[k4];exact ks) (by lia) (by lia),λ{fw d p S xx K a6 a7 a8} g1 hk=>?_⟩;refine(b2.up (by lia)).h g1 ?_;have g2:=atSet (o':=Ob.dct x2.kv) g1;refine pd cu ?_;rw[n3 (.inl rfl)];refine bF (pd cu ?_);rw[n3 (.inr (.inl rfl))];refine bF (pd cu ?_);rw[n3 (.inr (.inr (.inl rfl)))];refine bF ?_;refine(b3.up (by lia)).h g2 ?_;have g3:=atSet (o':=Ob.dct x3.kv) g2;refine pd cu ?_;rw[n3 (.inr (.inr (.inr rfl)))];refine bF (pv (.bl (decide (way<9))) ?_);rw[xBd h9];refine bT (pv (scU ops) ?_);refine((cj r.iv.ok (by decide)).up (by lia)).h g3 ?_;refine pd eo ?_;rw[setSet,setSet];exact hk
 ·refine⟨.dd x.pl P Q,x3,dl (r:=P.pls++Q.pls) h80 rfl (.dd q.wf r.wf) r.iv h3 ks (by lia) (by lia),λ{fw d p S xx K a6 a7 a8} g1 hk=>?_⟩;refine(b2.up (by lia)).h g1 ?_;have g2:=atSet (o':=Ob.dct x2.kv) g1;refine pd cu ?_;rw[n3 (.inl rfl)];refine bF (pd cu ?_);rw[n3 (.inr (.inl rfl))];refine bF (pd cu ?_);rw[n3 (.inr (.inr (.inl rfl)))];refine bF ?_;refine(b3.up (by lia)).h g2 ?_;refine pd cu ?_;rw[n3 (.inr (.inr (.inr rfl)))];refine bF (pv (.bl (decide (way<9))) ?_);rw[xCn h9];refine bF ?_;rw[setSet];exact hk
theorem oh(H:PH N ws e)(he:e<=14)(hl:sc.length+10*e<=500)(hd:dp<=e)(hx:Iv x)(h80:x.k<80)(hw:0<=way/\way<12):∃P x',Pn N sc (e+1) x P x'/\Bl x 40 [scU ws,scU sc,.int dp,.int way] (3*e+5) P.u x':=by
 have gen:(way=0/\sc.isEmpty=true\/7<=way)->∃P x',Pn N sc (e+1) x P x'/\Bl x 40 [scU ws,scU sc,.int dp,.int way] (3*e+5) P.u x':=λhg=>by
  obtain⟨P,x',q,f⟩:=ut (way:=way) H he hl hd hx h80 (by lia);refine⟨P,x',q,⟨λ{fw d p S xx K} h hk=>?_⟩⟩;refine cd (d:=d+(3*e+4)) ⟨5,9,t40⟩ ?_;refine((b9 hx.k).up (by lia)).h h ?_;have g1:=atSet (o':=Ob.dct x.nx.kv) h;refine pd cu ?_;have go:(sQ (J7 (Jd Ja Je) (J5 (Jt (J1 "make") Jb (Jc 39 J0) (Jl 35 (Jk J0 J3 J9 J8))))) (sQ (J7 (Jd Ja Jo) (J5 (Jn (J1 "ask") Jb))) rs40)) (Gd fw (d+(3*e+4))) [some (.ref p),some (scU ws),some (scU sc),some (.int dp),some (.int way),some (.int x.pl),none,none,none] (set S p (.dct x.nx.kv)) (endsOf xx K):=by
   refine pd cu ?_;rw[xCn (by lia)];refine bF (pd cu ?_);rw[xCn (by lia)];refine bF ?_;exact f g1 (by rw[setSet];exact hk)
  by_cases h0:way=0
  ·rw[xBd h0];refine bT (pv (.lst []) (pd ej ?_));rw[show sc.isEmpty=true by rcases hg with z|z;exact z.2;lia];exact bF go
  ·rw[xCn h0];refine bF (bF ?_);exact go
 rcases(show way=0\/way=1\/way=2\/way=3\/way=4\/way=5\/way=6\/7<=way by lia) with h|h|h|h|h|h|h|h
 ·cases hs:sc.isEmpty with
  |true=>exact gen (.inl ⟨h,hs⟩)
  |false=>rw[h];exact lQ H he hl hd hx h80 hs
 ·rw[h];exact jp H he hl hd hx h80
 ·rw[h];exact lR hx h80
 ·rw[h];exact iC H he hl hd hx h80
 ·rw[h];exact jq H he hl hd hx h80
 ·rw[h];exact jo H he hl hd hx h80
 ·rw[h];exact og H he hl hd hx h80
 ·exact gen (.inr h)
end
section
variable{N:Str->Prop}{ws sc:List Str}{x x':Sx}{e:Nat}{dp way:Int}
theorem dE{xs:List Str}(h:sc.length+xs.length<=1000):pr ups (.add false) [scU sc,scU xs] S=.ok (scU (sc++xs)) S:=by
 show fits ((sc.map U.str).length+(xs.map U.str).length) (.ok (.lst (sc.map .str++xs.map .str)) S)=_;rw[fitsO (by rw[xAa,xAa];show _<=2^24;lia),<- xAi];rfl
theorem nW{xs:List Str}:pr ups (.lstOf false) [.tup (xs.map .str)] S=.ok (scU xs) S:=rfl
theorem Nms.z{xs:List Str}(h:Nms ws xs)(hN:∀y∈ws,N y):Nmz N xs:=⟨λy hy=>hN y (h.sub y hy),h.few,h.nd⟩
theorem fA(hx:Iv x)(hk:x.k<9000)(h5:ws.length=5)(hn:ws.Nodup):∃xs y x3,Nms ws xs/\y∈ws/\x.nx.Le x3/\∀{fw d p:Nat}{S:So}{xx:Kx Prop}{K:Kv Prop}{dp way:Int},at? S p=some (.dct x.kv)->rz6 (Gd fw (d+2)) [some (.ref p),some (scU ws),some (scU sc),some (.int dp),some (.int way),some (.int x.pl),some (.tup (xs.map .str)),some (.str y),none,none,none] (set S p (.dct x3.kv)) (endsOf xx K)->(Gd fw (d+3)).call 38 [.ref p,scU ws,scU sc,.int dp,.int way] S xx K:=by
 have i1:=hx.nx (by lia);obtain⟨xs,x2,hxs,l2,b2⟩:=f9 (ws:=ws) i1.ok h5 hn;have l3:=x2.tk_le (m:=5) l2.ok (by decide);obtain⟨y,hy,ey⟩:=dS (sc:=ws) (i:=x2.dg 5) (by have:=x2.dg_lt (m:=5) (by decide);lia);refine⟨xs,y,x2.tk 5,hxs,hy,l2.trans l3,λ{fw d p S xx K dp way} h hk=>?_⟩;refine cd (d:=d+2) ⟨5,11,t38⟩ ?_;refine((b9 hx.k).up (by lia)).h h ?_;have g1:=atSet (o':=Ob.dct x.nx.kv) h;refine b2.h g1 ?_;have g2:=atSet (o':=Ob.dct x2.kv) g1;refine pd (em h5) ?_;refine((cj l2.ok (by decide)).up (by lia)).h g2 ?_;refine pd ey ?_;rw[setSet,setSet];exact hk
end
section
variable{N:Str->Prop}{ws sc:List Str}{x x':Sx}{e:Nat}{dp way:Int}
theorem bind_fn(H:PH N ws e)(hN:∀y∈ws,N y)(h5:ws.length=5)(hn:ws.Nodup)(he:e<=14)(hl:sc.length+10*(e+1)<=500)(hd:dp<=e)(hx:Iv x)(h80:x.k<80):∃P x',Pn N sc (e+1) x P x'/\Bl x 38 [scU ws,scU sc,.int dp,.int 0] (3*e+5) P.u x':=by
 have i1:=hx.nx (by lia);have k0:=hx.k;have k1:x.nx.k=x.k+1:=rfl;obtain⟨xs,y,x3,hxs,hy,l3,f⟩:=fA (sc:=sc) hx (by lia) h5 hn;have i3:=i1.le l3;have k3:x3.k=x.k+1:=l3.k;have h3:x3.h=x.h:=l3.h;have few:=hxs.few;obtain⟨P,x4,q,b4⟩:=H (x:=x3) (sc:=sc++xs) (dp:=dp) i3 (by lia) (by rw[xAb];lia) hd;have a:=q.at80;have b:=q.hi;have c:=q.lo;refine⟨.fn x.pl xs P,x4,dl (r:=P.pls) h80 rfl (.fn (hxs.z hN) q.wf) q.iv (by rw[q.h,h3]) (by have:=q.ks;rw[h3,k3] at this;exact this) (by lia) (by lia),⟨λ{fw d p S xx K} h hk=>?_⟩⟩;refine f (d:=d+(3*e+2)) h ?_;have g3:=atSet (o':=Ob.dct x3.kv) h;refine pv (.bl true) (bT ?_);refine pd nW ?_;refine pd (dE (by lia)) ?_;refine(b4.up (lv':=3*e+4) (by lia)).h (d:=d) g3 ?_;rw[setSet];exact hk
theorem qh(H:PH N ws e)(hN:∀y∈ws,N y)(h5:ws.length=5)(hn:ws.Nodup)(he:e<=14)(hl:sc.length+10*(e+1)<=500)(hd:dp<=e)(hx:Iv x)(h80:x.k<80):∃P x',Pn N sc (e+1) x P x'/\Bl x 38 [scU ws,scU sc,.int dp,.int 1] (3*e+5) P.u x':=by
 have i1:=hx.nx (by lia);have k0:=hx.k;have k1:x.nx.k=x.k+1:=rfl;obtain⟨xs,y,x3,hxs,hy,l3,f⟩:=fA (sc:=sc) hx (by lia) h5 hn;have i3:=i1.le l3;have k3:x3.k=x.k+1:=l3.k;have h3:x3.h=x.h:=l3.h;obtain⟨P,x4,q,b4⟩:=H (x:=x3) (sc:=sc) (dp:=dp) i3 (by lia) (by lia) hd;have a:=q.at80;have b:=q.hi;have c:=q.lo;obtain⟨Q,x5,r,b5⟩:=H (x:=x4) (sc:=sc++[y]) (dp:=dp) q.iv (by lia) (by rw[xAb,xAt];lia) hd;have a':=r.at80;have b':=r.hi;have c':=r.lo;have h4:x4.h=x.h:=q.h.trans h3;refine⟨.lt x.pl y P Q,x5,dl (r:=P.pls++Q.pls) h80 rfl (.lt (hN y hy) q.wf r.wf) r.iv (by rw[r.h,h4]) (by have k:=r.ks;rw[h4] at k;have k':=q.ks;rw[h3,k3] at k';exact Ks.app k' k (by lia) (by lia)) (by lia) (by lia),⟨λ{fw d p S xx K} h hk=>?_⟩⟩;refine f (d:=d+(3*e+2)) h ?_;have g3:=atSet (o':=Ob.dct x3.kv) h;refine pv (.bl false) (bF (pv (.bl true) (bT ?_)));refine(b4.up (lv':=3*e+4) (by lia)).h (d:=d) g3 ?_;have g4:=atSet (o':=Ob.dct x4.kv) g3;refine pv (scU [y]) ?_;refine pd (dE (by rw[xAt];lia)) ?_;refine(b5.up (lv':=3*e+4) (by lia)).h (d:=d) g4 ?_;rw[setSet,setSet];exact hk
theorem qg(H:PH N ws e)(hN:∀y∈ws,N y)(h5:ws.length=5)(hn:ws.Nodup)(he:e<=14)(hl:sc.length+10*(e+1)<=500)(hd:dp<=e)(hx:Iv x)(h80:x.k<80):∃P x',Pn N sc (e+1) x P x'/\Bl x 38 [scU ws,scU sc,.int dp,.int 2] (3*e+5) P.u x':=by
 have i1:=hx.nx (by lia);have k0:=hx.k;have k1:x.nx.k=x.k+1:=rfl;obtain⟨xs,y,x3,hxs,hy,l3,f⟩:=fA (sc:=sc) hx (by lia) h5 hn;have few:=hxs.few;have i3:=i1.le l3;obtain⟨w,x4,hw,l4,b4⟩:=e8 i3.ok;have i4:=i3.le l4;have k4:x4.k=x.k+1:=l4.k.trans l3.k;have h4:x4.h=x.h:=l4.h.trans l3.h;obtain⟨P,x5,q,b5⟩:=H (x:=x4) (sc:=sc) (dp:=dp) i4 (by lia) (by lia) hd;have a:=q.at80;have b:=q.hi;have c:=q.lo;obtain⟨Q,x6,r,b6⟩:=H (x:=x5) (sc:=sc++xs) (dp:=dp) q.iv (by lia) (by rw[xAb];lia) hd;have a':=r.at80;have b':=r.hi;have c':=r.lo;obtain⟨R,x7,t,b7⟩:=H (x:=x6) (sc:=sc) (dp:=dp) r.iv (by lia) (by lia) hd;have a'':=t.at80;have b'':=t.hi;have c'':=t.lo;have h5':x5.h=x.h:=q.h.trans h4;have h6:x6.h=x.h:=r.h.trans h5';refine⟨.mat x.pl P w xs Q R,x7,dl (r:=P.pls++(Q.pls++R.pls)) h80 rfl (.mat hw (hxs.z hN) q.wf r.wf t.wf) t.iv (by rw[t.h,h6]) (by have k:=r.ks;rw[h5'] at k;have k':=t.ks;rw[h6] at k';have k'':=q.ks;rw[h4,k4] at k'';exact Ks.app k'' (k.app k' (by lia) (by lia)) (by lia) (by lia)) (by lia) (by lia),⟨λ{fw d p S xx K} h hk=>?_⟩⟩;refine f (d:=d+(3*e+2)) h ?_;have g3:=atSet (o':=Ob.dct x3.kv) h;refine pv (.bl false) (bF (pv (.bl false) (bF ?_)));refine(b4.up (lv':=3*e+4) (by lia)).h (d:=d) g3 ?_;have g4:=atSet (o':=Ob.dct x4.kv) g3;refine(b5.up (lv':=3*e+4) (by lia)).h (d:=d) g4 ?_;have g5:=atSet (o':=Ob.dct x5.kv) g4;refine pv (.bl true) (bT ?_);refine pd nW ?_;refine pd (dE (by lia)) ?_;refine(b6.up (lv':=3*e+4) (by lia)).h (d:=d) g5 ?_;have g6:=atSet (o':=Ob.dct x6.kv) g5;refine(b7.up (lv':=3*e+4) (by lia)).h (d:=d) g6 ?_;rw[setSet,setSet,setSet,setSet];exact hk
theorem qf(H:PH N ws e)(hN:∀y∈ws,N y)(h5:ws.length=5)(hn:ws.Nodup)(he:e<=14)(hl:sc.length+10*(e+1)<=500)(hd:dp<=e)(hx:Iv x)(h80:x.k<80)(hw:3<=way):∃P x',Pn N sc (e+1) x P x'/\Bl x 38 [scU ws,scU sc,.int dp,.int way] (3*e+5) P.u x':=by
 have i1:=hx.nx (by lia);have k0:=hx.k;have k1:x.nx.k=x.k+1:=rfl;obtain⟨xs,y,x3,hxs,hy,l3,f⟩:=fA (sc:=sc) hx (by lia) h5 hn;have i3:=i1.le l3;obtain⟨w,x4,hw,l4,b4⟩:=e8 i3.ok;have i4:=i3.le l4;have k4:x4.k=x.k+1:=l4.k.trans l3.k;have h4:x4.h=x.h:=l4.h.trans l3.h;obtain⟨P,x5,q,b5⟩:=H (x:=x4) (sc:=sc) (dp:=dp) i4 (by lia) (by lia) hd;have a:=q.at80;have b:=q.hi;have c:=q.lo;obtain⟨Q,x6,r,b6⟩:=H (x:=x5) (sc:=sc++[y]) (dp:=dp) q.iv (by lia) (by rw[xAb,xAt];lia) hd;have a':=r.at80;have b':=r.hi;have c':=r.lo;have h5':x5.h=x.h:=q.h.trans h4;refine⟨.try_ x.pl P w y Q,x6,dl (r:=P.pls++Q.pls) h80 rfl (.try_ hw (hN y hy) q.wf r.wf) r.iv (by rw[r.h,h5']) (by have k:=r.ks;rw[h5'] at k;have k'':=q.ks;rw[h4,k4] at k'';exact Ks.app k'' k (by lia) (by lia)) (by lia) (by lia),⟨λ{fw d p S xx K} h hk=>?_⟩⟩;refine f (d:=d+(3*e+2)) h ?_;have g3:=atSet (o':=Ob.dct x3.kv) h;refine pd cu ?_;rw[xCn (by lia)];refine bF (pd cu ?_);rw[xCn (by lia)];refine bF ?_;refine(b4.up (lv':=3*e+4) (by lia)).h (d:=d) g3 ?_;have g4:=atSet (o':=Ob.dct x4.kv) g3;refine(b5.up (lv':=3*e+4) (by lia)).h (d:=d) g4 ?_;have g5:=atSet (o':=Ob.dct x5.kv) g4;refine pd cu ?_;rw[xCn (by lia)];refine bF (pv (scU [y]) ?_);refine pd (dE (by rw[xAt];lia)) ?_;refine(b6.up (lv':=3*e+4) (by lia)).h (d:=d) g5 ?_;rw[setSet,setSet,setSet];exact hk
theorem sW(H:PH N ws e)(hN:∀y∈ws,N y)(h5:ws.length=5)(hn:ws.Nodup)(he:e<=14)(hl:sc.length+10*(e+1)<=500)(hd:dp<=e)(hx:Iv x)(h80:x.k<80)(hw:0<=way):∃P x',Pn N sc (e+1) x P x'/\Bl x 38 [scU ws,scU sc,.int dp,.int way] (3*e+5) P.u x':=by
 rcases(show way=0\/way=1\/way=2\/3<=way by lia) with h|h|h|h
 ·rw[h];exact bind_fn H hN h5 hn he hl hd hx h80
 ·rw[h];exact qh H hN h5 hn he hl hd hx h80
 ·rw[h];exact qg H hN h5 hn he hl hd hx h80
 ·exact qf H hN h5 hn he hl hd hx h80 h
end
section
variable{N:Str->Prop}{ws sc:List Str}{x x':Sx}{e:Nat}{dp way:Int}
theorem Ks.ins{h:Int}{l m r:List Int}(a:Ks h lo mi (l++r))(b:Ks h mi hi m)(h1:lo<=mi)(h2:mi<=hi):Ks h lo hi (l++(m++r)):=by
 obtain⟨ks,e,n1,b1⟩:=a;obtain⟨js,rfl,n2,b2⟩:=b;obtain⟨k1,k2,rfl,rfl,rfl⟩:=List.map_eq_append_iff.mp e.symm;obtain⟨n3,n4,n5⟩:=xBq.mp n1;refine⟨k1++(js++k2),by rw[xAi,xAi],xBq.mpr ⟨n3,xBq.mpr ⟨n2,n4,λx hx y hy e=>?_⟩,λx hx y hy e=>?_⟩,λk hk=>?_⟩
 ·have:=b1 y (xBt _ hy);have:=b2 x hx;lia
 ·rcases xAj.mp hy with z|z
  ·have:=b1 x (xBw _ hx);have:=b2 y z;lia
  ·exact n5 x hx y z e
 ·rcases xAj.mp hk with z|z
  ·have:=b1 k (xBw _ z);lia
  ·rcases xAj.mp z with z|z
   ·have:=b2 k z;lia
   ·have:=b1 k (xBt _ z);lia
theorem dw{a b:Int}:pr ups .sub [.int a,.int b] S=.ok (.int (a-b)) S:=rfl
theorem nG{y:Str}(H:PH N ws e)(hl:(sc++[y]).length+10*e<=500)(hd:dp<=e+3):∀{xs:List Str}{x:Sx},Iv x->x.k+40*e+10*xs.length<=2000->xs.length<=4->82+6*e+40*e<=1900->∃as x',as.length=xs.length/\Pts N (sc++[y]) e x as x'/\∀{fw d p:Nat}{S:So}{K:Kv Prop}{ys:List U},at? S p=some (.dct x.kv)->K (.lst (ys++Pg.us as)) (set S p (.dct x'.kv))->lcK (Gd fw (d+(3*e+4))) (lcB [1] true [none,none,some (.ref p),some (scU sc),some (scU ws),some (.str y),some (.int dp)] none (Jl 42 (Jk J9 Ja (J2 (.add false) J8 (J6 (.lst false) Jb)) (J2 .sub Jg Jp))) (Gd fw (d+(3*e+4)))) (xs.map .str) ys S K
 | [],x,hx,_,_,_=>⟨[],x,rfl,⟨λ_ z=>(nomatch z),hx,rfl,.nil,xBu _,λ_=>by simp,.inl (by simp)⟩,λ{fw d p S K ys} h hk=>by
  rw[Pg.us,xB0,setSame h] at hk;exact hk⟩
 |z::xs,x,hx,hk,hn,hb=>by
  rw[xAo] at hk hn;obtain⟨P,x1,p1,b1⟩:=H (x:=x) (sc:=sc++[y]) (dp:=dp-3) hx (by lia) hl (by lia);have lo1:=p1.lo;have hi1:=p1.hi;obtain⟨as,x2,e',q,f⟩:=nG H hl hd (xs:=xs) (x:=x1) p1.iv (by lia) (by lia) hb;have lo2:=q.lo;have hi2:=q.hi;have a1:=p1.at80;have a2:=q.at80;refine⟨P::as,x2,by rw[xAo,xAo,e'],⟨λa ha=>?_,q.iv,q.h.trans p1.h,?_,by lia,λz=>?_,?_⟩,λ{fw d p S K ys} h hk=>?_⟩
  ·rcases xAv.mp ha with rfl|ha
   ·exact p1.wf
   ·exact q.wf a ha
  ·have k2:=q.ks;rw[p1.h] at k2;exact p1.ks.app k2 (by lia) lo2
  ·rw[xAo];have:=a1 z;have:=a2 (by lia);lia
  ·rw[xAo];lia
  ·refine pv (scU [y]) ?_;refine pd (dE (by rw[xAb] at hl;lia)) ?_;refine pd dw ?_;refine(b1.up (lv':=3*e+4) (by lia)).h (d:=d) h ?_;refine f (atSet h) ?_;rw[setSet,xAx];exact hk
end
section
variable{N:Str->Prop}{ws sc:List Str}{x x':Sx}{e:Nat}{dp way:Int}
theorem mw(H:PH N ws e)(hN:∀y∈ws,N y)(h5:ws.length=5)(hn:ws.Nodup)(he:e<=11)(hl:sc.length+10*(e+3)<=500)(hd:dp<=e+3)(hx:Iv x)(h80:x.k<80):∃P x',Pn N sc (e+3) x P x'/\Bl x 41 [scU ws,scU sc,.int dp] (3*e+5) P.u x':=by
 have k0:=hx.k;have l1:=x.tk_le (m:=5) hx.ok (by decide);obtain⟨y,hy,ey⟩:=dS (sc:=ws) (i:=x.dg 5) (by have:=x.dg_lt (m:=5) (by decide);lia);obtain⟨xs,x2,hxs,l2',b2⟩:=f9 (ws:=ws) l1.ok h5 hn;have l2:=l1.trans l2';have few:=hxs.few;have i2:=hx.le l2;have k2:x2.k=x.k:=l2.k;have h2:x2.h=x.h:=l2.h;have j2:=i2.nx (by lia);have m2:x2.nx.k=x.k+1:=by show x2.k+1=_;lia
 obtain⟨B,x3,q,b3⟩:=H (x:=x2.nx) (sc:=sc++xs) (dp:=dp-3) j2 (by lia) (by rw[xAb];lia) (by lia);have a:=q.at80;have b:=q.hi;have c:=q.lo;have h3:x3.h=x.h:=q.h.trans h2;have j3:=q.iv.nx (by lia);have m3:x3.nx.k=x3.k+1:=rfl;obtain⟨as,x5,n4,r,f⟩:=nG (sc:=sc) (y:=y) (dp:=dp) (xs:=xs) (x:=x3.nx) H (by rw[xAb,xAt];lia) hd j3 (by lia) few (by lia);have a':=r.at80;have b':=r.hi;have c':=r.lo;have h5':x5.h=x.h:=r.h.trans h3;have j5:=r.iv.nx (by lia);have m5:x5.nx.k=x5.k+1:=rfl;have j6:=j5.nx (by lia);have m6:x5.nx.nx.k=x5.k+2:=by show x5.k+1+1=_;lia
 have l7:=x5.nx.nx.tk_le (m:=2) j6.ok (by decide);have j7:=j6.le l7;have m7:(x5.nx.nx.tk 2).k=x5.k+2:=l7.k.trans m6;have h7:(x5.nx.nx.tk 2).h=x.h:=l7.h.trans h5';have k3:Ks x.h x.k x3.k (x2.pl::B.pls):=by
  have k:=q.ks;rw[m2,show x2.nx.h=x.h from h2] at k;have:=Ks.cons (h:=x.h) (lo:=x.k) (k:=x.k+1) (by lia) (xBu _) k (by lia);rw[show x2.pl=plOf x.h (x.k+1) by show plOf x2.h (x2.k+1)=_;rw[h2,k2]];exact this
 have k4:Ks x.h x.k (x3.k+1) (x3.pl::(x2.pl::B.pls)):=by
  have o:Ks x.h x3.k (x3.k+1) [x3.pl]:=by
   rw[show x3.pl=plOf x.h (x3.k+1) by show plOf x3.h (x3.k+1)=_;rw[h3]];exact Ks.one (by lia) (by lia)
  exact Ks.ins (l:=[]) k3 o (by lia) (by lia)
 have kC:Ks x.h (x3.k+1) (x5.k+2) (x5.pl::x5.nx.pl::Pg.plss as):=by
  have k:=r.ks;rw[m3,show x3.nx.h=x.h from h3] at k;have o:Ks x.h x5.k (x5.k+2) [x5.pl,x5.nx.pl]:=by
   rw[show x5.pl=plOf x.h (x5.k+1) by show plOf x5.h (x5.k+1)=_;rw[h5'],show x5.nx.pl=plOf x.h (x5.k+2) by show plOf x5.h (x5.k+1+1)=_;rw[h5'];exact congrArg _ (by lia)];exact Ks.cons (by lia) (xBu _) (Ks.one (by lia) (by lia)) (by lia)
  exact Ks.ins (l:=[]) k o (by lia) (by lia)
 have wF:Wf N sc (e+2) (.fn x2.pl xs B):=(Wf.fn (hxs.z hN) q.wf).up (by lia);have wC:Wf N (sc++[y]) (e+1) (.call x5.pl (.nam x5.nx.pl y) as):=.call (.nam (by simp)) r.wf (by lia);have run:∀{fw d p:Nat}{S:So}{xx:Kx Prop}{K:Kv Prop},at? S p=some (.dct x.kv)->(at? (set S p (.dct x5.nx.nx.kv)) p=some (.dct x5.nx.nx.kv)->rz2 (Gd fw (d+(3*e+4))) [some (.ref p),some (scU ws),some (scU sc),some (.int dp),some (.str y),some (.tup (xs.map .str)),some (Pg.u (.fn x2.pl xs B)),some (.int x3.pl),some (.tup (Pg.us as)),some (Pg.u (.call x5.pl (.nam x5.nx.pl y) as))] (set S p (.dct x5.nx.nx.kv)) (endsOf xx K))->(Gd fw (d+(3*e+5))).call 41 [.ref p,scU ws,scU sc,.int dp] S xx K:=λ{fw d p S xx K} h hk=>by
  refine cd (d:=d+(3*e+4)) ⟨4,10,t41⟩ ?_;refine pd (em h5) ?_;refine((cj hx.ok (by decide)).up (lv':=3*e+4) (by lia)).h (d:=d) h ?_;have g1:=atSet (o':=Ob.dct (x.tk 5).kv) h;refine pd ey ?_;refine(b2.up (lv':=3*e+4) (by lia)).h (d:=d) g1 ?_;have g2:=atSet (o':=Ob.dct x2.kv) g1;refine((b9 i2.k).up (lv':=3*e+4) (by lia)).h (d:=d) g2 ?_;have g3:=atSet (o':=Ob.dct x2.nx.kv) g2;refine pd nW ?_;refine pd (dE (by lia)) ?_;refine pd dw ?_;refine(b3.up (lv':=3*e+4) (by lia)).h (d:=d) g3 ?_;have g4:=atSet (o':=Ob.dct x3.kv) g3;refine((b9 q.iv.k).up (lv':=3*e+4) (by lia)).h (d:=d) g4 ?_;have g5:=atSet (o':=Ob.dct x3.nx.kv) g4;refine pv (.tup (xs.map .str)) ?_;refine bI (λ_=>?_) λz=>?_
  ·refine f g5 ?_;rw[xC6];refine pv (.tup (Pg.us as)) ?_;have g6:=atSet (o':=Ob.dct x5.kv) g5;refine((b9 r.iv.k).up (lv':=3*e+4) (by lia)).h (d:=d) g6 ?_;have g7:=atSet (o':=Ob.dct x5.nx.kv) g6;refine((b9 j5.k).up (lv':=3*e+4) (by lia)).h (d:=d) g7 ?_;rw[setSet,setSet,setSet,setSet,setSet,setSet,setSet];exact hk (atSet h)
  ·rw[xAa,xDk (show xs.length<=sizeLine by show _<=2^24;lia)] at z;cases z
 by_cases hb:x5.nx.nx.dg 2=1
 ·obtain⟨D,x10,t,b10⟩:=H (x:=(x5.nx.nx.tk 2).nx) (sc:=sc++[y]) (dp:=dp-3) (j7.nx (by lia)) (by show(x5.nx.nx.tk 2).k+1+_<=_;lia) (by rw[xAb,xAt];lia) (by lia);have m8:(x5.nx.nx.tk 2).nx.k=x5.k+3:=by show(x5.nx.nx.tk 2).k+1=_;lia
  have a'':=t.at80;have b'':=t.hi;have c'':=t.lo;have kD:Ks x.h (x3.k+1) x10.k ((x5.nx.nx.tk 2).pl::(x5.pl::x5.nx.pl::Pg.plss as)++D.pls):=by
   have o:Ks x.h (x5.k+2) (x5.k+3) [(x5.nx.nx.tk 2).pl]:=by
    rw[show(x5.nx.nx.tk 2).pl=plOf x.h (x5.k+3) by show plOf (x5.nx.nx.tk 2).h ((x5.nx.nx.tk 2).k+1)=_;rw[h7,m7];congr 1;lia];exact Ks.one (by lia) (by lia)
   have k:=t.ks;rw[m8,show(x5.nx.nx.tk 2).nx.h=x.h from h7] at k;exact Ks.app (Ks.ins (l:=[]) kC o (by lia) (by lia)) k (by lia) (by lia)
  refine⟨.lt x3.pl y (.fn x2.pl xs B) (.dd (x5.nx.nx.tk 2).pl (.call x5.pl (.nam x5.nx.pl y) as) D),x10,⟨.lt (hN y hy) wF (.dd wC (t.wf.up (by lia))),t.iv,t.h.trans h7,k4.app kD (by lia) (by lia),by lia,by lia⟩,⟨λ{fw d p S xx K} h hk=>?_⟩⟩;refine run h λg=>?_;refine((cj j6.ok (by decide)).up (lv':=3*e+4) (by lia)).h (d:=d) g ?_;have g8:=atSet (o':=Ob.dct (x5.nx.nx.tk 2).kv) g;refine pd cu ?_;rw[xBd hb];refine bT ?_;refine((b9 j7.k).up (lv':=3*e+4) (by lia)).h (d:=d) g8 ?_;have g9:=atSet (o':=Ob.dct (x5.nx.nx.tk 2).nx.kv) g8;refine pv (scU [y]) ?_;refine pd (dE (by rw[xAt];lia)) ?_;refine pd dw ?_;refine(b10.up (lv':=3*e+4) (by lia)).h (d:=d) g9 ?_;rw[setSet,setSet,setSet];exact hk
 ·refine⟨.lt x3.pl y (.fn x2.pl xs B) (.call x5.pl (.nam x5.nx.pl y) as),x5.nx.nx.tk 2,⟨.lt (hN y hy) wF (wC.up (by lia)),j7,h7,by rw[m7];exact k4.app kC (by lia) (by lia),by lia,by lia⟩,⟨λ{fw d p S xx K} h hk=>?_⟩⟩;refine run h λg=>?_;refine((cj j6.ok (by decide)).up (lv':=3*e+4) (by lia)).h (d:=d) g ?_;refine pd cu ?_;rw[xCn hb];refine bF ?_;rw[setSet];exact hk
end
section
variable{N:Str->Prop}{ws sc:List Str}{x x':Sx}{e:Nat}{dp way:Int}
def nxs:Nat->Sx->Sx
 |0,x=>x
 |n+1,x=>nxs n x.nx
def pln:Nat->Sx->List Int
 |0,_=>[]
 |n+1,x=>x.pl::pln n x.nx
theorem jw:∀{n:Nat}{x:Sx},Iv x->x.k+n<=9000->Iv (nxs n x)/\(nxs n x).k=x.k+n/\(nxs n x).h=x.h
 |0,x,hx,_=>⟨hx,by show x.k=_;lia,rfl⟩
 |n+1,x,hx,hk=>by
  have k1:x.nx.k=x.k+1:=rfl;obtain⟨a,b,c⟩:=jw (n:=n) (hx.nx (by lia)) (by lia);exact⟨a,by show(nxs n x.nx).k=_;lia,c⟩
theorem nI:∀{n:Nat}{x:Sx}{lo fw d p:Nat}{S:So}{K:Kv Prop}{ys:List U},Iv x->x.k+n<=9000->at? S p=some (.dct x.kv)->K (.lst (ys++(pln n x).map .int)) (set S p (.dct (nxs n x).kv))->lcK (Gd fw (d+2)) (lcB [1] true [none,none,some (.ref p)] none (Jc 33 J9) (Gd fw (d+2))) (intL (lo:Int) n) ys S K
 |0,x,lo,fw,d,p,S,K,ys,hx,_,h,hk=>by
  rw[pln,List.map_nil,xB0,nxs,setSame h] at hk;exact hk
 |n+1,x,lo,fw,d,p,S,K,ys,hx,hn,h,hk=>by
  have k1:x.nx.k=x.k+1:=rfl;refine((b9 hx.k).up (lv':=2) (by lia)).h (d:=d) h ?_;refine nI (lo:=lo+1) (hx.nx (by lia)) (by lia) (atSet h) ?_;rw[setSet,xAx];exact hk
theorem ks14{h k:Int}:Ks h k (k+14) ([k+13,k+14,k+7,k+8,k+9,k+4,k+5,k+6,k+1,k+2,k+3,k+10,k+11,k+12].map (plOf h)):=by
 refine⟨_,rfl,?_,λj hj=>?_⟩
 ·have:[(13:Int),14,7,8,9,4,5,6,1,2,3,10,11,12].Nodup:=by decide
  exact List.Pairwise.map (λj=>k+j) (λa b h=>by omega) this
 ·simp only[xAv,xBv,or_false] at hj;omega
end
section
variable{N:Str->Prop}{ws sc:List Str}{x x':Sx}{e:Nat}{dp way:Int}
def lpPg(z:Sx)(y:Str)(A B:Pg)(d s m:Int):Pg:=.lt (nxs 12 z).pl y (.num (nxs 13 z).pl 0) (.dd d (.st s y (.fn (nxs 6 z).pl ["n"] (.iff (nxs 7 z).pl (.nam (nxs 8 z).pl "n") (.dd (nxs 3 z).pl A (.call (nxs 4 z).pl (.nam (nxs 5 z).pl y) [.math (nxs 0 z).pl "sub" (.nam (nxs 1 z).pl "n") (.num (nxs 2 z).pl 1)])) B))) (.call (nxs 9 z).pl (.nam (nxs 10 z).pl y) [.num (nxs 11 z).pl m]))
theorem x9{z:Sx}{d s m:Int}(hn:N "n")(hy:N y)(he:2<=e)(hA:Wf N (sc++[y,"n"]) e A)(hB:Wf N (sc++[y,"n"]) e B)(hm:0<=m/\m<8):Wf N sc (e+6) (lpPg z y A B d s m):=by
 have es:sc++[y,"n"]=sc++[y]++[("n":Str)]:=by simp
 rw[es] at hA hB;have hq:Wf N (sc++[y]++[("n":Str)]) 2 (.call (nxs 4 z).pl (.nam (nxs 5 z).pl y) [.math (nxs 0 z).pl "sub" (.nam (nxs 1 z).pl "n") (.num (nxs 2 z).pl 1)]):=by
  refine .call (.nam (by simp)) (λa ha=>?_) (by rw[xAt];decide);rw[xAm.mp ha];exact .math (by decide) (.nam (by simp)) (.num (by decide) (by decide))
 have hr:Wf N (sc++[y]) (e+4) (.call (nxs 9 z).pl (.nam (nxs 10 z).pl y) [.num (nxs 11 z).pl m]):=by
  refine .call (.nam (by simp)) (λa ha=>?_) (by rw[xAt];decide);rw[xAm.mp ha];exact .num (by lia) (by lia)
 refine .lt hy (.num (by decide) (by decide)) (.dd (.st (by simp) (.fn ⟨λq hq=>?_,by decide,by simp⟩ (.iff (.nam (by simp)) (.dd hA (hq.up he)) (hB.up (by lia))))) hr);rw[xAm.mp hq];exact hn
theorem yd{z:Sx}{d s m k1 k2 k3:Int}{h k:Int}(hz:∀i:Nat,i<14->(nxs i z).pl=plOf h (k+i+1))(hA:Ks h (k+14) k1 A.pls)(hB:Ks h k1 k2 B.pls)(hC:Ks h k2 k3 [d,s])(l1:k+14<=k1)(l2:k1<=k2)(l3:k2<=k3):Ks h k k3 (lpPg z y A B d s m).pls:=by
 have b:=ks14 (h:=h) (k:=k);have e':[k+13,k+14,k+7,k+8,k+9,k+4,k+5,k+6,k+1,k+2,k+3,k+10,k+11,k+12].map (plOf h)=[(nxs 12 z).pl,(nxs 13 z).pl,(nxs 6 z).pl,(nxs 7 z).pl,(nxs 8 z).pl,(nxs 3 z).pl,(nxs 4 z).pl,(nxs 5 z).pl,(nxs 0 z).pl,(nxs 1 z).pl,(nxs 2 z).pl,(nxs 9 z).pl,(nxs 10 z).pl,(nxs 11 z).pl]:=by
  rw[hz 0 (by decide),hz 1 (by decide),hz 2 (by decide),hz 3 (by decide),hz 4 (by decide),hz 5 (by decide),hz 6 (by decide),hz 7 (by decide),hz 8 (by decide),hz 9 (by decide),hz 10 (by decide),hz 11 (by decide),hz 12 (by decide),hz 13 (by decide)];simp only[xBs,List.map_nil,Int.add_assoc];rfl
 rw[e'] at b;have b1:=Ks.ins (l:=[(nxs 12 z).pl,(nxs 13 z).pl,(nxs 6 z).pl,(nxs 7 z).pl,(nxs 8 z).pl,(nxs 3 z).pl]) (r:=[(nxs 4 z).pl,(nxs 5 z).pl,(nxs 0 z).pl,(nxs 1 z).pl,(nxs 2 z).pl,(nxs 9 z).pl,(nxs 10 z).pl,(nxs 11 z).pl]) b hA (by lia) l1;have b2:=Ks.ins (l:=[(nxs 12 z).pl,(nxs 13 z).pl,(nxs 6 z).pl,(nxs 7 z).pl,(nxs 8 z).pl,(nxs 3 z).pl]++(A.pls++[(nxs 4 z).pl,(nxs 5 z).pl,(nxs 0 z).pl,(nxs 1 z).pl,(nxs 2 z).pl])) (r:=[(nxs 9 z).pl,(nxs 10 z).pl,(nxs 11 z).pl]) (by simpa using b1) hB (by lia) l2;have b3:=Ks.ins (l:=[(nxs 12 z).pl,(nxs 13 z).pl]) (r:=[(nxs 6 z).pl,(nxs 7 z).pl,(nxs 8 z).pl,(nxs 3 z).pl]++(A.pls++([(nxs 4 z).pl,(nxs 5 z).pl,(nxs 0 z).pl,(nxs 1 z).pl,(nxs 2 z).pl]++(B.pls++[(nxs 9 z).pl,(nxs 10 z).pl,(nxs 11 z).pl])))) (by simpa using b2) hC (by lia) l3;simpa [lpPg,Pg.pls,Pg.plss] using b3
end
section
variable{N:Str->Prop}{ws sc:List Str}{x x':Sx}{e:Nat}{dp way:Int}
structure Ixs(L:List U)(c:Nat->Int):Prop where
 h:∀{i:Nat}{S:So},i<14->pr ups .ix [.lst L,.int (i:Int)] S=.ok (.int (c i)) S
theorem ya{z:Sx}{c:Nat->Int}{u12:U}(hL:Ixs L c)(hz:Iv z)(hk:z.k<9000){p:Nat}{K:Kv Prop}{a2 a9:Option U}(h:at? S p=some (.dct z.kv))(k:K (.tup [.str "let",.int (c 12),.str y,.tup [.str "number",.int (c 13),.int 0],.tup [.str "do",.int (z.tk 8).pl,.tup [.str "set",.int (z.tk 8).nx.pl,.str y,u12],.tup [.str "call",.int (c 9),.tup [.str "name",.int (c 10),.str y],.tup [.tup [.str "number",.int (c 11),.int (z.dg 8)]]]]]) (set S p (.dct (z.tk 8).nx.nx.kv))):rs37c (Gd fw (d+2)) [some (.ref p),a1,a2,a3,some (.str y),a5,some (.lst L),a7,a8,a9,a10,a11,some u12,a13] S (endsOf xx K):=by
 have l5:=z.tk_le (m:=8) hz.ok (by decide);have i5:=hz.le l5;have k5:(z.tk 8).k=z.k:=l5.k;have i6:=i5.nx (by lia);refine pd (hL.h (i:=9) (by decide)) ?_;refine pd (hL.h (i:=10) (by decide)) ?_;refine pd (hL.h (i:=11) (by decide)) ?_;refine((cj hz.ok (by decide)).up (lv':=2) (by lia)).h (d:=d) h ?_;have g5:=atSet (o':=Ob.dct (z.tk 8).kv) h;refine((b9 i5.k).up (lv':=2) (by lia)).h (d:=d) g5 ?_;have g6:=atSet (o':=Ob.dct (z.tk 8).nx.kv) g5;refine((b9 i6.k).up (lv':=2) (by lia)).h (d:=d) g6 ?_;refine pd (hL.h (i:=12) (by decide)) ?_;refine pd (hL.h (i:=13) (by decide)) ?_;rw[setSet,setSet];exact k
end
theorem yb{z:Sx}{c:Nat->Int}{n:Str}{u11:U}(hL:Ixs L c)(hz:Iv z)(hk:z.k<9000){p:Nat}{K:Kv Prop}{a2:Option U}(h:at? S p=some (.dct z.kv))(k:K (.tup [.str "let",.int (c 12),.str y,.tup [.str "number",.int (c 13),.int 0],.tup [.str "do",.int (z.tk 8).pl,.tup [.str "set",.int (z.tk 8).nx.pl,.str y,.tup [.str "fn",.int (c 6),.tup [.str n],.tup [.str "if",.int (c 7),.tup [.str "name",.int (c 8),.str n],u11,u9]]],.tup [.str "call",.int (c 9),.tup [.str "name",.int (c 10),.str y],.tup [.tup [.str "number",.int (c 11),.int (z.dg 8)]]]]]) (set S p (.dct (z.tk 8).nx.nx.kv))):rs37b (Gd fw (d+2)) [some (.ref p),a1,a2,a3,some (.str y),some (.str n),some (.lst L),a7,a8,some u9,a10,some u11,a12,a13] S (endsOf xx K):=by
 refine pd (hL.h (i:=6) (by decide)) ?_;refine pd (hL.h (i:=7) (by decide)) ?_;refine pd (hL.h (i:=8) (by decide)) ?_;exact ya hL hz hk h k
def lpU(c:Nat->Int)(y n:Str)(a b l:U)(d s m:Int):U:=.tup [.str "let",.int (c 12),.str y,.tup [.str "number",.int (c 13),.int 0],.tup [.str "do",.int d,.tup [.str "set",.int s,.str y,.tup [.str "fn",.int (c 6),.tup [.str n],.tup [.str "if",.int (c 7),.tup [.str "name",.int (c 8),.str n],.tup [.str "do",.int (c 3),a,.tup [.str "call",.int (c 4),.tup [.str "name",.int (c 5),.str y],.tup [l]]],b]]],.tup [.str "call",.int (c 9),.tup [.str "name",.int (c 10),.str y],.tup [.tup [.str "number",.int (c 11),.int m]]]]]
section
variable{L:List U}{c:Nat->Int}{y n:Str}{u8 u9 u10:U}{fw d p:Nat}{S:So}{E:Ee Prop}{a1 a2 a3 a7 a10 a11 a12 a13:Option U}{t:TSx Prop}
theorem vF(hL:Ixs L c)(k:t (Gd fw (d+2)) [some (.ref p),a1,a2,a3,some (.str y),some (.str n),some (.lst L),a7,some u8,some u9,some u10,some (.tup [.str "do",.int (c 3),u8,.tup [.str "call",.int (c 4),.tup [.str "name",.int (c 5),.str y],.tup [u10]]]),a12,a13] S E):(sQ rz3 t) (Gd fw (d+2)) [some (.ref p),a1,a2,a3,some (.str y),some (.str n),some (.lst L),a7,some u8,some u9,some u10,a11,a12,a13] S E:=by
 refine pd (hL.h (i:=3) (by decide)) ?_;refine pd (hL.h (i:=4) (by decide)) ?_;refine pd (hL.h (i:=5) (by decide)) ?_;exact k
theorem vG(hL:Ixs L c)(k:t (Gd fw (d+2)) [some (.ref p),a1,a2,a3,some (.str y),some (.str n),some (.lst L),a7,some u8,some u9,some (.tup [.str "math",.int (c 0),.str "sub",.tup [.str "name",.int (c 1),.str n],.tup [.str "number",.int (c 2),.int 1]]),a11,a12,a13] S E):(sQ rz4 t) (Gd fw (d+2)) [some (.ref p),a1,a2,a3,some (.str y),some (.str n),some (.lst L),a7,some u8,some u9,a10,a11,a12,a13] S E:=by
 refine pd (hL.h (i:=0) (by decide)) ?_;refine pd (hL.h (i:=1) (by decide)) ?_;refine pd (hL.h (i:=2) (by decide)) ?_;exact k
end
theorem yc{z:Sx}{c:Nat->Int}{n:Str}{u8:U}(hL:Ixs L c)(hz:Iv z)(hk:z.k<9000){p:Nat}{K:Kv Prop}{a2:Option U}(h:at? S p=some (.dct z.kv))(k:K (lpU c y n u8 u9 (.tup [.str "math",.int (c 0),.str "sub",.tup [.str "name",.int (c 1),.str n],.tup [.str "number",.int (c 2),.int 1]]) (z.tk 8).pl (z.tk 8).nx.pl (z.dg 8)) (set S p (.dct (z.tk 8).nx.nx.kv))):rs37 (Gd fw (d+2)) [some (.ref p),a1,a2,a3,some (.str y),some (.str n),some (.lst L),a7,some u8,some u9,a10,a11,a12,a13] S (endsOf xx K):=vG hL (vF hL (yb hL hz hk h k))
section
variable{N:Str->Prop}{ws sc:List Str}{x x':Sx}{e:Nat}{dp way:Int}
theorem ki:∀{n i:Nat}{x:Sx},i<n->(pln n x)[i]?=some (nxs i x).pl
 |n+1,0,x,_=>rfl
 |n+1,i+1,x,h=>ki (n:=n) (i:=i) (x:=x.nx) (by lia)
theorem uU:Ixs ((pln 14 x).map .int) (λi=>(nxs i x).pl):=⟨λ{i S} h=>by
 show opt (atI ((pln 14 x).map U.int) (i:Int)) S=_;rw[c9 (v:=.int (nxs i x).pl) (by rw[xAw,ki h];rfl)];rfl⟩
theorem za{z:Sx}{d s m:Int}:lpU (λi=>(nxs i z).pl) y "n" A.u B.u (.tup [.str "math",.int (nxs 0 z).pl,.str "sub",.tup [.str "name",.int (nxs 1 z).pl,.str "n"],.tup [.str "number",.int (nxs 2 z).pl,.int 1]]) d s m=(lpPg z y A B d s m).u:=rfl
theorem j9{a b:Int}:pr ups .sub [.int a,.int b] S=.ok (.int (a-b)) S:=rfl
theorem sf(H:PH N ws e)(hN:∀y∈ws,N y)(hn1:N "n")(h5:ws.length=5)(he:2<=e/\e<=8)(hl:sc.length+10*(e+6)<=500)(hd:dp<=e+6)(hx:Iv x)(h60:x.k<60):∃P x',Pn N sc (e+6) x P x'/\Bl x 37 [scU ws,scU sc,.int dp] (3*e+5) P.u x':=by
 have k0:=hx.k;have l1:=x.tk_le (m:=5) hx.ok (by decide);obtain⟨y,hy,ey⟩:=dS (sc:=ws) (i:=x.dg 5) (by have:=x.dg_lt (m:=5) (by decide);lia);have i1:=hx.le l1;have k1:(x.tk 5).k=x.k:=l1.k;have h1:(x.tk 5).h=x.h:=l1.h;have tb:=(cj hx.ok (m:=5) (by decide))
 generalize x.tk 5=z at l1 i1 k1 h1 tb;obtain⟨i2,k2,h2⟩:=jw (n:=14) i1 (by lia);have rp:=λ{fw d p:Nat} {S:So} {K:Kv Prop}=>nI (n:=14) (x:=z) (lo:=0) (fw:=fw) (d:=d) (p:=p) (S:=S) (K:=K) (ys:=[]) i1 (by lia);have hz:∀i:Nat,i<14->(nxs i z).pl=plOf x.h (x.k+i+1):=λi hi=>by
  obtain⟨_,a,b⟩:=jw (n:=i) i1 (by lia);show plOf (nxs i z).h ((nxs i z).k+1)=_;rw[a,b,h1,k1]
 generalize hw:nxs 14 z=w at i2 k2 h2 rp;have ls:(sc++[y,("n":Str)]).length=sc.length+2:=by rw[xAb];rfl
 obtain⟨A,x3,q,b3⟩:=H (x:=w) (sc:=sc++[y,"n"]) (dp:=dp-6) i2 (by lia) (by lia) (by lia);have a:=q.at80;have b:=q.hi;have c:=q.lo;obtain⟨B,x4,r,b4⟩:=H (x:=x3) (sc:=sc++[y,"n"]) (dp:=dp-6) q.iv (by lia) (by lia) (by lia);have a':=r.at80;have b':=r.hi;have c':=r.lo;have h3:x3.h=x.h:=q.h.trans (h2.trans h1);have h4:x4.h=x.h:=r.h.trans h3;have l5:=x4.tk_le (m:=8) r.iv.ok (by decide);have i5:=r.iv.le l5;have k5:(x4.tk 8).k=x4.k:=l5.k;have h5':(x4.tk 8).h=x.h:=l5.h.trans h4;have i7:=(i5.nx (by lia)).nx (by show(x4.tk 8).k+1<_;lia);have kx:(x4.tk 8).nx.nx.k=x4.k+2:=by show(x4.tk 8).k+1+1=_;lia
 have kA:=q.ks;rw[h2.trans h1,k2,k1] at kA;have kB:=r.ks;rw[h3] at kB;have kC:Ks x.h x4.k (x4.k+2) [(x4.tk 8).pl,(x4.tk 8).nx.pl]:=by
  rw[show(x4.tk 8).pl=plOf x.h (x4.k+1) by show plOf (x4.tk 8).h ((x4.tk 8).k+1)=_;rw[h5',k5],show(x4.tk 8).nx.pl=plOf x.h (x4.k+2) by show plOf (x4.tk 8).h ((x4.tk 8).k+1+1)=_;rw[h5',k5];congr 1;lia];exact Ks.cons (by lia) (xBu _) (Ks.one (by lia) (by lia)) (by lia)
 have kk:=yd (z:=z) (y:=y) (A:=A) (B:=B) (m:=x4.dg 8) hz kA kB kC (by lia) (by lia) (by lia);have wf:=x9 (N:=N) (sc:=sc) (z:=z) (A:=A) (B:=B) (d:=(x4.tk 8).pl) (s:=(x4.tk 8).nx.pl) hn1 (hN y hy) he.1 q.wf r.wf (x4.dg_lt (m:=8) (by decide));refine⟨lpPg z y A B (x4.tk 8).pl (x4.tk 8).nx.pl (x4.dg 8),(x4.tk 8).nx.nx,⟨wf,i7,h5',by rw[kx];exact kk,by lia,by lia⟩,⟨λ{fw d p S xx K} h hk=>?_⟩⟩;refine cd (d:=d+(3*e+4)) ⟨4,14,t37⟩ ?_;refine pd (em h5) ?_;refine(tb.up (lv':=3*e+4) (by lia)).h (d:=d) h ?_;have g1:=atSet (o':=Ob.dct z.kv) h;refine pd ey ?_;refine pd (iz (by decide)) ?_;refine bI (λ_=>?_) λz=>by cases z
 refine rp (d:=d+(3*e+2)) g1 ?_;have g2:=atSet (o':=Ob.dct w.kv) g1;refine pv (scU [y,"n"]) ?_;refine pd (dE (by show _+2<=_;lia)) ?_;refine pd j9 ?_;refine(b3.up (lv':=3*e+4) (by lia)).h (d:=d) g2 ?_;have g3:=atSet (o':=Ob.dct x3.kv) g2;refine pd j9 ?_;refine(b4.up (lv':=3*e+4) (by lia)).h (d:=d) g3 ?_;have g4:=atSet (o':=Ob.dct x4.kv) g3;refine yc (d:=d+(3*e+2)) uU r.iv (by lia) g4 ?_;rw[za,setSet,setSet,setSet,setSet];exact hk
end
section
variable{N:Str->Prop}{ws sc:List Str}{x x':Sx}{e dm:Nat}{dp way:Int}
theorem uP(h:3<=way/\way<10):∃w,0<=w/\pr ups .ix [.lst [.int 1,.int 1,.int 0,.int 1,.int 2,.int 3,.int 1],.int (way-3)] S=.ok (.int w) S:=by
 rcases(show way=3\/way=4\/way=5\/way=6\/way=7\/way=8\/way=9 by lia) with h|h|h|h|h|h|h <;> rw[h]
 ·exact⟨1,by decide,rfl⟩
 ·exact⟨1,by decide,rfl⟩
 ·exact⟨0,by decide,rfl⟩
 ·exact⟨1,by decide,rfl⟩
 ·exact⟨2,by decide,rfl⟩
 ·exact⟨3,by decide,rfl⟩
 ·exact⟨1,by decide,rfl⟩
def RsP(N:Str->Prop)(ws sc:List Str)(dm:Nat)(dp way:Int)(x:Sx)(t:TSx Prop):Prop:=∃P x',Pn N sc dm x P x'/\∀{fw d p:Nat}{S:So}{xx:Kx Prop}{K:Kv Prop},at? S p=some (.dct x.kv)->K P.u (set S p (.dct x'.kv))->t (Gd fw (d+(3*dm+2))) [some (.ref p),some (scU ws),some (scU sc),some (.int dp),some (.int way)] S (endsOf xx K)
theorem yU(hw:10<=way)(hN:∀y∈ws,N y)(h5:ws.length=5)(hnd:ws.Nodup)(h14:dm<=14)(IH:∀e<dm,PH N ws e)(hx:Iv x)(h80:x.k<80)(hl:sc.length+10*dm<=500)(hd:dp<=dm)(hp:0<dp):RsP N ws sc dm dp way x rs42b:=by
 by_cases hh:way<14/\3<dp
 ·obtain⟨e,rfl⟩:∃e,dm=e+3:=⟨dm-3,by lia⟩
  obtain⟨P,x',q,b⟩:=mw (sc:=sc) (dp:=dp) (IH e (by lia)) hN h5 hnd (by lia) hl hd hx h80;refine⟨P,x',q,λ{fw d p S xx K} h hk=>?_⟩;refine pv (.bl (decide (way<14))) ?_;rw[xBd hh.1];refine bT (pv (.bl (decide (3<dp))) ?_);rw[xBd hh.2];refine bT ?_;exact(b.up (lv':=3*(e+3)+2) (by lia)).h (d:=d) h hk
 ·obtain⟨e,rfl⟩:∃e,dm=e+1:=⟨dm-1,by lia⟩
  obtain⟨P,x',q,b⟩:=oh (sc:=sc) (dp:=dp-1) (way:=(way-10)%12) (IH e (by lia)) (by lia) (by lia) (by lia) hx h80 ⟨xBa _ (by decide),xBb _ (by decide)⟩;refine⟨P,x',q,λ{fw d p S xx K} h hk=>?_⟩;have fin:(J5 (Jl 40 (Jz J0 J3 J9 (J2 .sub J8 Je) (J2 .mod (J2 .sub Ja (Jf 10)) (Jf 12))))) (Gd fw (d+(3*(e+1)+2))) [some (.ref p),some (scU ws),some (scU sc),some (.int dp),some (.int way)] S (endsOf xx K):=by
   refine pd dw (pd dw ?_);refine pd (cE (by decide)) ?_;exact(b.up (lv':=3*(e+1)+2) (by lia)).h (d:=d) h hk
  refine pv (.bl (decide (way<14))) ?_;by_cases h1:way<14
  ·rw[xBd h1];refine bT (pv (.bl (decide (3<dp))) ?_);rw[xCn (by lia)];exact bF fin
  ·rw[xCn h1];exact bF (bF fin)
theorem yV(hw:3<=way)(hN:∀y∈ws,N y)(hn1:N "n")(h5:ws.length=5)(hnd:ws.Nodup)(h14:dm<=14)(IH:∀e<dm,PH N ws e)(hx:Iv x)(h80:x.k<80)(hl:sc.length+10*dm<=500)(hd:dp<=dm)(hp:0<dp):RsP N ws sc dm dp way x rs42:=by
 by_cases h10:way<10
 ·obtain⟨e,rfl⟩:∃e,dm=e+1:=⟨dm-1,by lia⟩
  obtain⟨w,hw0,ew⟩:=uP (S:=[]) ⟨hw,h10⟩;obtain⟨P,x',q,b⟩:=sW (sc:=sc) (dp:=dp-1) (way:=w) (IH e (by lia)) hN h5 hnd (by lia) hl (by lia) hx h80 hw0;refine⟨P,x',q,λ{fw d p S xx K} h hk=>?_⟩;refine pv (.bl (decide (way<10))) ?_;rw[xBd h10];refine bT (pd dw (pv (.lst [.int 1,.int 1,.int 0,.int 1,.int 2,.int 3,.int 1]) (pd dw ?_)));refine pd (v:=.int w) (S':=S) ?_ ?_
  ·have e1:∀S:So,pr ups .ix [.lst [.int 1,.int 1,.int 0,.int 1,.int 2,.int 3,.int 1],.int (way-3)] S=opt (atI [.int 1,.int 1,.int 0,.int 1,.int 2,.int 3,.int 1] (way-3)) S:=λ_=>rfl;rw[e1] at ew⊢;cases ho:atI ([.int 1,.int 1,.int 0,.int 1,.int 2,.int 3,.int 1]:List U) (way-3) with
   |none=>rw[ho] at ew;cases ew
   |some v=>rw[ho] at ew;cases ew;rfl
  ·exact(b.up (lv':=3*(e+1)+2) (by lia)).h (d:=d) h hk
 ·by_cases hh:way<12/\7<dp/\x.k<60
  ·obtain⟨e,rfl⟩:∃e,dm=e+6:=⟨dm-6,by lia⟩
   obtain⟨P,x',q,b⟩:=sf (sc:=sc) (dp:=dp) (IH e (by lia)) hN hn1 h5 (by lia) hl hd hx hh.2.2;refine⟨P,x',q,λ{fw d p S xx K} h hk=>?_⟩;have ha:=hx.a;refine pv (.bl (decide (way<10))) ?_;rw[xCn h10];refine bF (pv (.bl (decide (way<12))) ?_);rw[xBd hh.1];refine bT (pv (.bl (decide (7<dp))) ?_);rw[xBd hh.2.1];refine bT ?_;refine pd (pi h) ?_;refine pv (.bl (decide (20<x.a))) ?_;rw[xBd (by lia)];refine bT ?_;exact(b.up (lv':=3*(e+6)+2) (by lia)).h (d:=d) h hk
  ·obtain⟨P,x',q,b⟩:=yU (by lia) hN h5 hnd h14 IH hx h80 hl hd hp (way:=way);refine⟨P,x',q,λ{fw d p S xx K} h hk=>?_⟩;have ha:=hx.a;have fin:rs42b (Gd fw (d+(3*dm+2))) [some (.ref p),some (scU ws),some (scU sc),some (.int dp),some (.int way)] S (endsOf xx K):=b h hk;refine pv (.bl (decide (way<10))) ?_;rw[xCn h10];refine bF (pv (.bl (decide (way<12))) ?_);by_cases h1:way<12
   ·rw[xBd h1];refine bT (pv (.bl (decide (7<dp))) ?_);by_cases h2:7<dp
    ·rw[xBd h2];refine bT ?_;refine pd (pi h) ?_;refine pv (.bl (decide (20<x.a))) ?_;rw[xCn (by lia)];exact bF fin
    ·rw[xCn h2];exact bF (bF fin)
   ·rw[xCn h1];exact bF (bF fin)
theorem rl(hN:∀y∈ws,N y)(hn1:N "n")(h5:ws.length=5)(hnd:ws.Nodup)(h14:dm<=14)(IH:∀e<dm,PH N ws e):PH N ws dm:=λ{x sc dp} hx hk hl hd=>by
 have l1:=x.tk_le (m:=26) hx.ok (by decide);have i1:=hx.le l1;have d1:=x.dg_lt (m:=26) (by decide);have k1:(x.tk 26).k=x.k:=l1.k;have h1:(x.tk 26).h=x.h:=l1.h;have a1:=i1.a;have tb:=cj hx.ok (m:=26) (by decide);generalize x.tk 26=z at l1 i1 k1 h1 a1 tb;generalize x.dg 26=way at d1 tb;by_cases hA:way<3\/dp<=0\/z.a<=0
 ·obtain⟨P,x',q,b⟩:=tj (N:=N) (sc:=sc) (dm:=dm) i1 (by lia) (by lia);refine⟨P,x',⟨q.wf,q.iv,q.h.trans h1,by have:=q.ks;rw[h1,k1] at this;exact this,by have:=q.lo;lia,λz=>by have:=q.at80 (by lia);lia,by have:=q.hi;lia⟩,⟨λ{fw d p S xx K} h hk=>?_⟩⟩;refine cd (d:=d+(3*dm+2)) ⟨4,5,t42⟩ ?_;refine(tb.up (lv':=3*dm+2) (by lia)).h (d:=d) h ?_;have g1:=atSet (o':=Ob.dct z.kv) h;have fin:(Gd fw (d+(3*dm+2))).call 34 [.ref p,scU sc] (set S p (.dct z.kv)) xx K:=(b.up (lv':=3*dm+2) (by lia)).h (d:=d) g1 (by rw[setSet];exact hk);refine pv (.bl (decide (way<3))) ?_;by_cases c1:way<3
  ·rw[xBd c1];exact bT (bT fin)
  ·rw[xCn c1];refine bF (pv (.bl (decide (dp<=0))) ?_);by_cases c2:dp<=0
   ·rw[xBd c2];exact bT (bT fin)
   ·rw[xCn c2];refine bF ?_;refine pd (pi g1) ?_;refine pv (.bl (decide (z.a<=0))) ?_;rw[xBd (by lia)];exact bT fin
 ·obtain⟨P,x',q,b⟩:=yV (by lia) hN hn1 h5 hnd h14 IH i1 (by lia) hl hd (by lia) (way:=way);refine⟨P,x',⟨q.wf,q.iv,q.h.trans h1,by have:=q.ks;rw[h1,k1] at this;exact this,by have:=q.lo;lia,λz=>by lia,.inr q.hi⟩,⟨λ{fw d p S xx K} h hk=>?_⟩⟩;refine cd (d:=d+(3*dm+2)) ⟨4,5,t42⟩ ?_;refine(tb.up (lv':=3*dm+2) (by lia)).h (d:=d) h ?_;have g1:=atSet (o':=Ob.dct z.kv) h;refine pv (.bl (decide (way<3))) ?_;rw[xCn (by lia)];refine bF (pv (.bl (decide (dp<=0))) ?_);rw[xCn (by lia)];refine bF ?_;refine pd (pi g1) ?_;refine pv (.bl (decide (z.a<=0))) ?_;rw[xCn (by lia)];refine bF ?_;exact b g1 (by rw[setSet];exact hk)
theorem ou(hN:∀y∈ws,N y)(hn1:N "n")(h5:ws.length=5)(hnd:ws.Nodup):∀{n dm:Nat},dm<n->dm<=14->PH N ws dm
 |n+1,dm,h,h14=>rl hN hn1 h5 hnd h14 λe he=>ou hN hn1 h5 hnd (n:=n) (by lia) (by lia)
end
def ltrs:Str:="abcdefghijklmnopqrstuvwxyz"
def chs(w:Str):List U:=w.cps.toList.map λc=>.str ⟨#[c]⟩
def inL(c:U):Bool:=match inU [] c (.str ltrs) with
 |some b=>b
 |none=>false
def wordB(w:Str):Bool:=Nat.ble 1 w.length&&Nat.ble w.length 8&&(chs w).all inL
def headS:List Str:=["fn","call","let","set","do","if","add","sub","mul","less","same","make","match","raise","try","tell","ask"]
def nameB(w:Str):Bool:=wordB w&&!anyF (.str w) (headS.map .str)
def wdOf(is:List Nat):Str:=⟨(is.map (97+·)).toArray⟩
def ltU(i:Nat):U:=.str ⟨#[97+i]⟩
def gs:List Nat:=[6,9,15,16,21,22,23,25]
def od(w:Str):Bool:=Nat.ble w.length 1||w.cps.toList.any λc=>gs.any λi=>Nat.beq c (97+i)
theorem lG{w:Str}(h:od w=true):∀{l:List Str},(l.all λy=>!od y)=true->anyF (.str w) (l.map .str)=false
 |[],_=>rfl
 |y::l,g=>by
  rw[xCj,xCh] at g;show((y==w)||anyF (.str w) (l.map .str))=false;rw[lG h g.2,Bool.or_false];refine beq_eq_false_iff_ne.mpr λe=>?_;have:=g.1;rw[e,h] at this;cases this
theorem in26:∀i<26,inL (ltU i)=true:=by decide +kernel
theorem ni:(wdOf is).length=is.length:=by
 show(is.map (97+·)).toArray.size=_;simp
theorem qt(h1:1<=is.length)(h8:is.length<=8)(h:∀i∈is,i<26):wordB (wdOf is)=true:=by
 unfold wordB;rw[ni,xDk h1,xDk h8];show(chs (wdOf is)).all inL=true;refine xCx.mpr λc hc=>?_;unfold chs wdOf at hc;obtain⟨j,hj,rfl⟩:=xA2.mp hc;obtain⟨i,hi,rfl⟩:=xA2.mp (show j∈is.map (97+·) by simpa using hj);exact in26 i (h i hi)
theorem qu(h1:1<=is.length)(h8:is.length<=8)(h:∀i∈is,i<26)(ho:is.length=1\/∃i∈is,i∈gs):nameB (wdOf is)=true:=by
 unfold nameB;rw[qt h1 h8 h,lG (w:=wdOf is) ?_ (by decide +kernel)]
 ·rfl
 ·unfold od;rw[ni];rcases ho with e|⟨i,hi,hg⟩
  ·rw[e];rfl
  ·rw[show((wdOf is).cps.toList.any λc=>gs.any λi=>Nat.beq c (97+i))=true from ?_,Bool.or_true];refine xCy.mpr ⟨97+i,?_,xCy.mpr ⟨i,hg,Nat.beq_refl _⟩⟩;show 97+i∈(is.map (97+·)).toArray.toList;simpa using hi
theorem wL{a b:List Nat}(h:a[j]?≠b[j]?):wdOf a≠wdOf b:=λe=>h (by
 have:a.map (97+·)=b.map (97+·):=by
  have:=congrArg (λw:Str=>w.cps.toList) e;simpa [wdOf] using this
 have:=congrArg (·[j]?) this;simp only[xAw] at this;cases ha:a[j]? <;> cases hb:b[j]? <;> rw[ha,hb] at this <;> simp at this⊢
 lia)
theorem vD:nameB "n"=true:=by decide +kernel
theorem gb{i:Int}(h:0<=i/\i<26):pr ups .ix [.str ltrs,.int i] S=.ok (ltU i.toNat) S:=by
 obtain⟨j,rfl⟩:=Int.eq_ofNat_of_zero_le h.1;have hj:j<26:=by lia
 have key:∀j<26,ltrs.cps.toList[j]?=some (97+j):=by decide +kernel
 show(match atI ltrs.cps.toList (j:Int) with|some c=>fits ltrs.length (.ok (.str ⟨#[c]⟩) S)|none=>.stuck)=_;rw[c9 (key j hj)];dsimp only;rw[fitsO (by show _<=2^24;decide +kernel)];rfl
def gstr:Str:="gjpqvwxz"
theorem uS{i:Int}(h:0<=i/\i<8):∃g∈gs,∀{S:So},pr ups .ix [.str gstr,.int i] S=.ok (ltU g) S:=by
 obtain⟨j,rfl⟩:=Int.eq_ofNat_of_zero_le h.1;have hj:j<8:=by lia
 have key:∀j<8,gstr.cps.toList[j]?=some (97+gs.getD j 0)/\gs.getD j 0∈gs:=by decide +kernel
 refine⟨_,(key j hj).2,λ{S}=>?_⟩;show(match atI gstr.cps.toList (j:Int) with|some c=>fits gstr.length (.ok (.str ⟨#[c]⟩) S)|none=>.stuck)=_;rw[c9 (key j hj).1];dsimp only;rw[fitsO (by show _<=2^24;decide +kernel)];rfl
theorem kQ:∀{bs:List Nat}{acc:Array Nat},(bs.map λi=>(⟨#[97+i]⟩:Str)).foldl (λacc p=>acc++("":Str).cps++p.cps) acc=acc++(bs.map (97+·)).toArray
 |[],acc=>by simp
 |b::bs,acc=>by
  rw[xBs,List.foldl_cons,kQ];have:("":Str).cps=#[]:=by decide +kernel
  rw[this];simp
theorem sk:∀{bs:List Nat},Builtin.Str.glued "" (bs.map λi=>(⟨#[97+i]⟩:Str))=wdOf bs
 |[]=>by decide +kernel
 |b::bs=>by
  show(⟨(bs.map λi=>(⟨#[97+i]⟩:Str)).foldl (λacc p=>acc++("":Str).cps++p.cps) #[97+b]⟩:Str)=_;rw[kQ];simp[wdOf]
theorem strL_ok:∀{bs:List Nat},strL (bs.map ltU)=some (bs.map λi=>(⟨#[97+i]⟩:Str))
 |[]=>rfl
 |b::bs=>by
  show(strL (bs.map ltU)).map _=_;rw[strL_ok];rfl
theorem nv:∀{bs:List Nat},((bs.map λi=>(⟨#[97+i]⟩:Str)).map λy:Str=>y.length).sum=bs.length
 |[]=>rfl
 |b::bs=>by
  show 1+((bs.map λi=>(⟨#[97+i]⟩:Str)).map λy:Str=>y.length).sum=_;rw[nv,xAo];lia
theorem qT{q:Nat}{bs:List Nat}(h:at? S q=some (.lst (bs.map ltU)))(h8:bs.length<=8):pr ups .join [.str "",.ref q] S=.ok (.str (wdOf bs)) S:=by
 show(match strU (.str ""),lsT S (.ref q) with|some s,some xs=>(match strL xs with|some ws=>(match decide ((ws.map λy:Str=>y.length).sum+ws.length*s.length<=16777216) with|true=>Res.ok (.str (Builtin.Str.glued s ws)) S|false=>.stuck)|none=>.stuck)|_,_=>.stuck)=_;rw[show lsT S (.ref q)=some (bs.map ltU) by show(match at? S q with|some (.lst xs)=>some xs|_=>none)=_;rw[h]];dsimp only[strU];rw[strL_ok];dsimp only;rw[nv,show("":Str).length=0 by decide +kernel,xBd (by lia),sk]
structure Kp(S S':So):Prop where
 len:S.length<=S'.length
 ky:∀{q:Nat}{o:Ob},at? S q=some o->at? S' q=some o
section
variable{α β:Type}{l:List α}{p q:Nat}{o v:α}
theorem setMem:∀{l:List α}{p:Nat},v∈Fx.set l p o->v=o\/v∈l
 |[],_,h=>nomatch h
 |_::l,0,h=>(xAv.mp h).imp id (xAs _)
 |y::l,p+1,h=>(xAv.mp h).elim (λe=>.inr (by rw[e];exact xAr ..)) λz=>(setMem z).imp id (xAs _)
theorem setGet:∀{l:List α}{p:Nat},p<l.length->(Fx.set l p o)[p]?=some o
 |_::_,0,_=>rfl
 |_::l,p+1,h=>setGet (l:=l) (by simpa using h)
theorem setGetN:∀{l:List α}{p q:Nat},p≠q->(Fx.set l p o)[q]?=l[q]?
 |[],_,_,_=>rfl
 |_::_,0,0,h=>absurd rfl h
 |_::_,0,_+1,_=>rfl
 |_::_,_+1,0,_=>rfl
 |_::l,p+1,q+1,h=>setGetN (l:=l) (by lia)
theorem setMap{f:α->β}:∀{l:List α}{p:Nat},Fx.set (l.map f) p (f o)=(Fx.set l p o).map f
 |[],_=>rfl
 |_::_,0=>rfl
 |_::l,p+1=>congrArg (_::·) (setMap (l:=l))
theorem ka{q i:Nat}{xs:List U}{v:U}(h:at? S q=some (.lst xs))(hi:i<xs.length):pr ups .seti [.ref q,.int i,v] S=.ok .non (Fx.set S q (.lst (Fx.set xs i v))):=by
 show setiU q (.int i) v S=_;unfold setiU;rw[h];dsimp only;rw[xBd (by lia),xC3]
end
section
variable{cell:Int}{fw d p q r a:Nat}{S:So}
def lw(cell:Int)(k:Nat):Nat:=((cell / 64 / ((k:Int)+1)+5*k)%26).toNat
def wk(cell:Int)(k:Nat):Nat:=((cell / 512+3*(k:Int))%26).toNat
theorem kI{K:Kv Prop}:∀{n lo:Nat}{ys:List U},lo+n<=100->K (.lst (ys++(List.range' lo n).map λk=>ltU (lw cell k))) S->lcK (Gd fw d) (lcB [1] true [none,none,some (.str ltrs),some (.int cell)] none (J4 J9 (J2 .mod (J2 (.add false) (J2 .fdiv (J2 .fdiv J8 (Jf 64)) (J2 (.add false) J3 Je)) (J2 .mul Jw J3)) (Jf 26)))  (Gd fw d)) (intL (lo:Int) n) ys S K
 |0,lo,ys,_,hk=>by
  rw[List.range'_zero,List.map_nil,xB0] at hk;exact hk
 |n+1,lo,ys,hb,hk=>by
  refine pd (dU (by decide)) ?_;refine pv (.int ((lo:Int)+1)) ?_;refine pd (dU (by lia)) ?_;refine pd (fG (a:=5) (b:=lo) (by unfold sml;decide) (by unfold sml;lia)) ?_;refine pv (.int (cell / 64 / ((lo:Int)+1)+5*lo)) ?_;refine pd (cE (by decide)) ?_;refine pd (gb ⟨xBa _ (by decide),xBb _ (by decide)⟩) ?_;refine kI (n:=n) (lo:=lo+1) (ys:=ys++[ltU (lw cell lo)]) (by lia) ?_;rw[xAx];exact hk
theorem ig{b1:List Nat}{E:Ee Prop}{kk:Sg->So->Prop}{a2:Option U}(ha:a<b1.length)(h8:b1.length<=8)(hqr:q≠r):∀{n lo:Nat}{bs:List Nat}{ws:List Str}{S:So}{a4:Option U},lo+n<=100->ws.length+n<=100->at? S q=some (.lst (bs.map ltU))->bs.length=b1.length->(∀v,Fx.set bs a v=Fx.set b1 a v)->at? S r=some (.lst (ws.map .str)) ->
  (∀S' a4,S'.length=S.length->(∀{p o},p≠q->p≠r->at? S p=some o->at? S' p=some o)->at? S' r=some (.lst ((ws++(List.range' lo n).map λk=>wdOf (Fx.set b1 a (wk cell k))).map .str))->kk [some (.int cell),some (.str ltrs),a2,some (.int a),a4,some (.ref q),some (.ref r)] S') ->
  forK (intL (lo:Int) n) (λw σ1 S2 nx=>tgt [4] true (Gd fw d) w σ1 λσ2=>bd30 (Gd fw d) σ2 S2 (lpE E nx)) [some (.int cell),some (.str ltrs),a2,some (.int a),a4,some (.ref q),some (.ref r)] S kk
 |0,lo,bs,ws,S,a4,_,_,hq,hl,hs,hr,hk=>by
  refine hk S a4 rfl (λ_ _ z=>z) ?_;rw[List.range'_zero,List.map_nil,xB0];exact hr
 |n+1,lo,bs,ws,S,a4,hb,hw,hq,hl,hs,hr,hk=>by
  rw[intL,forK];refine pd (dU (by decide)) ?_;refine pd (fG (a:=3) (b:=lo) (by unfold sml;decide) (by unfold sml;lia)) ?_;refine pv (.int (cell / 512+3*(lo:Int))) ?_;refine pd (cE (by decide)) ?_;refine pd (gb ⟨xBa _ (by decide),xBb _ (by decide)⟩) ?_;refine pd (ka hq (by rw[xAa];lia)) ?_;rw[show Fx.set (bs.map ltU) a (ltU ((cell / 512+3*(lo:Int))%26).toNat)=(Fx.set b1 a (wk cell lo)).map ltU by rw[setMap,hs];rfl];have q1:=atSet (o':=Ob.lst ((Fx.set b1 a (wk cell lo)).map ltU)) hq;have r1:at? (Fx.set S q (.lst ((Fx.set b1 a (wk cell lo)).map ltU))) r=some (.lst (ws.map .str)):=by rw[atNe hqr];exact hr
  refine pd (cz r1) (pv (.str "") ?_);refine pd (qT q1 (by rw[lenSet];exact h8)) ?_;refine pd (db r1 (by rw[xAa];show _<=2^24;lia)) ?_;refine ig ha h8 hqr (n:=n) (lo:=lo+1) (bs:=Fx.set b1 a (wk cell lo)) (ws:=ws++[wdOf (Fx.set b1 a (wk cell lo))]) (by lia) (by rw[xAb,xAt];lia) (by rw[atNe (Ne.symm hqr)];exact q1) (by rw[lenSet]) (λv=>setSet) (by rw[xAi];exact atSet r1) λS' a4 ln ky hr'=>?_;refine hk S' a4 (by rw[ln,lenSet,lenSet]) (λ{p o} n1 n2 z=>ky n1 n2 (by rw[atNe (Ne.symm n2),atNe (Ne.symm n1)];exact z)) ?_;rw[xAx] at hr';exact hr'
theorem wJ{k:Nat}:wk cell k<26:=by unfold wk;omega
theorem x8{k:Nat}:lw cell k<26:=by
 unfold lw;generalize cell / 64 / ((k:Int)+1)+5*k=z;omega
theorem nh(cell:Int):∃ws:List Str,ws.length=5/\ws.Nodup/\(∀y∈ws,nameB y=true)/\∀{fw d:Nat}{S:So}{x:Kx Prop}{K:Kv Prop},(∀S',Kp S S'->K (scU ws) S')->(Gd fw (d+1)).call 30 [.int cell] S x K:=by
 obtain⟨n,hn⟩:=Int.eq_ofNat_of_zero_le (show 0<=1+cell%8 by omega);have hn1:1<=n/\n<=8:=by omega
 have hn0:(0:Int)<n:=by omega
 obtain⟨a,ha⟩:=Int.eq_ofNat_of_zero_le (xBa (cell / 8) (show(n:Int)≠0 by omega));have ha1:a<n:=by have:=xBb (cell / 8) hn0;omega
 obtain⟨g,hg,eg⟩:=uS (i:=cell / 8%8) (by omega);have hb:((a:Int)+1)%n=(((a+1)%n:Nat):Int):=by rw[Int.natCast_emod];rfl
 have hbn:(a+1)%n<n:=Nat.mod_lt _ (by omega);have lb:((List.range' 0 n).map (lw cell)).length=n:=by rw[xAa,List.length_range']
 generalize hb0:(List.range' 0 n).map (lw cell)=b0 at lb;have l1:(Fx.set b0 ((a+1)%n) g).length=n:=by rw[lenSet,lb]
 have m0:∀i∈b0,i<26:=λi hi=>by
  rw[<- hb0] at hi;obtain⟨k,_,rfl⟩:=xA2.mp hi;exact x8
 have g26:g<26:=by
  have:∀g∈gs,g<26:=by decide
  exact this g hg
 have m1:∀i∈Fx.set b0 ((a+1)%n) g,i<26:=λi hi=>(setMem hi).elim (λe=>by omega) (m0 i);refine⟨(List.range' 0 5).map λk=>wdOf (Fx.set (Fx.set b0 ((a+1)%n) g) a (wk cell k)),by rw[xAa,List.length_range'],?_,λy hy=>?_,λ{fw d S x K} hk=>?_⟩
 ·refine List.pairwise_map.mpr ((List.nodup_range' (step:=1)).imp_of_mem λ{i j} hi hj z=>wL (j:=a) ?_);rw[setGet (by omega),setGet (by omega)];have hi:=(List.mem_range'_1.mp hi).2;have hj:=(List.mem_range'_1.mp hj).2;unfold wk;intro e;injection e with e;omega
 ·obtain⟨k,_,rfl⟩:=xA2.mp hy;have ll:(Fx.set (Fx.set b0 ((a+1)%n) g) a (wk cell k)).length=n:=by rw[lenSet,l1]
  refine qu (by omega) (by omega) (λi hi=>(setMem hi).elim (λe=>by rw[e];exact wJ) (m1 i)) ?_;rw[ll];by_cases h1:n=1
  ·exact .inl h1
  ·refine .inr ⟨g,?_,hg⟩;have hne:a≠(a+1)%n:=by
    rcases Nat.lt_or_ge (a+1) n with z|z
    ·rw[Nat.mod_eq_of_lt z];omega
    ·rw[show a+1=n by omega,Nat.mod_self];omega
   refine xAc (i:=(a+1)%n) ?_;rw[setGetN hne,setGet (by omega)]
 ·refine cd ⟨1,7,t30⟩ ?_;refine pd (cE (by decide)) ?_;refine pv (.int n) ?_ (by rw[<- hn];rfl);refine pd (dU (by decide)) ?_;refine pd (cE hn0) ?_;rw[ha];refine pd (iz (by omega)) ?_;rw[xC3];refine bI (λ_=>?_) λz=>?_
  ·refine kI (lo:=0) (by omega) ?_;rw[xC6];have e0:(List.range' 0 n).map (λk=>ltU (lw cell k))=b0.map ltU:=by rw[<- hb0,List.map_map];rfl
   rw[e0];refine pd (v:=.ref S.length) (S':=S++[.lst (b0.map ltU)]) (by rfl) ?_;have q0:at? (S++[Ob.lst (b0.map ltU)]) S.length=some (.lst (b0.map ltU)):=atNew;have k0:Kp S (S++[Ob.lst (b0.map ltU)]):=⟨by simp,λz=>atApp z⟩
   have s0:(S++[Ob.lst (b0.map ltU)]).length=S.length+1:=by simp
   generalize S++[Ob.lst (b0.map ltU)]=T at q0 k0 s0;refine pd (dU (by decide)) ?_;refine pd (cE (by decide)) ?_;refine pd eg ?_;refine pv (.int ((a:Int)+1)) ?_;refine pd (cE hn0) ?_;rw[hb];refine pd (ka q0 (by rw[xAa];omega)) ?_;rw[setMap];have q1:=atSet (o':=Ob.lst ((Fx.set b0 ((a+1)%n) g).map ltU)) q0;have k1:∀{p o},p≠S.length->at? T p=some o->at? (Fx.set T S.length (Ob.lst ((Fx.set b0 ((a+1)%n) g).map ltU))) p=some o:=λn1 z=>by rw[atNe (Ne.symm n1)];exact z
   have s1:(Fx.set T S.length (Ob.lst ((Fx.set b0 ((a+1)%n) g).map ltU))).length=S.length+1:=by rw[lenSet,s0]
   generalize Fx.set T S.length (Ob.lst ((Fx.set b0 ((a+1)%n) g).map ltU))=T1 at q1 k1 s1;refine pd (v:=.ref T1.length) (S':=T1++[.lst []]) (by rfl) ?_;refine pd (iz (by decide)) ?_;refine ig (n:=5) (lo:=0) (ws:=[]) (a:=a) (q:=S.length) (r:=T1.length) (b1:=Fx.set b0 ((a+1)%n) g) (bs:=Fx.set b0 ((a+1)%n) g) (by omega) (by omega) (by omega) (by omega) (by decide) (atApp q1) rfl (λv=>rfl) atNew λS' a4 ln ky hr'=>?_;refine pd (v:=.lst (((List.range' 0 5).map λk=>wdOf (Fx.set (Fx.set b0 ((a+1)%n) g) a (wk cell k))).map .str)) (S':=Fx.set S' T1.length .dead) ?_ ?_
   ·show lstU T1.length S' _=_;unfold lstU;rw[hr'];rfl
   ·have ln':S'.length=S.length+2:=by rw[ln,xAb,s1];rfl
    refine hk _ ⟨by rw[lenSet];omega,λ{p o} z=>?_⟩;have lp:=atLt z;rw[atNe (by omega)];exact ky (by omega) (by omega) (atApp (k1 (by omega) (k0.ky z)))
  ·rw[intL_len,xDk (show n<=sizeLine by show n<=2^24;omega)] at z;cases z
end
section
variable{fw d:Nat}{S:So}{x:Kx Prop}{K:Kv Prop}{xs:List Int}
theorem dM{k:Nat}(hk:K (.int (xs.getD k 0)) S):(Gd fw (d+1)).call 29 [.kl (xs.map .int),.int k] S x K:=by
 refine cd ⟨2,2,t29⟩ ?_;refine pd (v:=.int xs.length) (S':=S) (by show Res.ok (.int ((xs.map U.int).length:Nat)) S=_;rw[xAa]) ?_;refine pv (.bl (decide ((k:Int)<xs.length))) ?_;by_cases h:k<xs.length
 ·rw[xBd (by lia)];refine bT ?_;have e:xs.getD k 0=xs[k]:=by rw[xBz,xAk h];rfl
  refine pd (qU (v:=.int xs[k]) (by rw[xAw,xAk h];rfl)) ?_;rw[e] at hk;exact hk
 ·rw[xCn (by lia)];refine bF ?_;have e:xs.getD k 0=0:=by rw[xBz,List.getElem?_eq_none (by lia)];rfl
  rw[e] at hk;exact hk
theorem pig:∀{m:Nat}{l:List Int},l.Nodup->(∀k∈l,0<k/\k<=m)->l.length<=m
 |0,[],_,_=>xAg _
 |0,k::l,_,h=>by have:=h k (xAr ..);omega
 |m+1,l,hn,h=>by
  by_cases hm:(m+1:Int)∈l
  ·have h1:=pig (m:=m) (hn.erase (m+1:Int)) λk hk=>by
    obtain⟨n1,n2⟩:=hn.mem_erase_iff.mp hk;have:=h k n2;omega
   rw[List.length_erase_of_mem hm] at h1;omega
  ·have h1:=pig (m:=m) hn λk hk=>by
    have:=h k hk;have:k≠m+1:=λe=>hm (by rw[<- e];exact hk);omega
   omega
def st0(c s h:Int):Sx:=⟨if -1-c>c then -1-c else c,s%2147483646,80,0,h%600⟩
theorem ny{c s h:Int}(hk:K (.ref S.length) (S++[.dct (st0 c s h).kv])):(Gd fw (d+1)).call 31 [.int c,.int s,.int 80,.int h] S x K:=by
 refine cd ⟨4,5,t31⟩ ?_;refine pv (.int (-1)) (pv (.int (-1-c)) (pv (.int (if -1-c>c then -1-c else c)) ?_));refine pd (cE (by decide)) ?_;refine pd (cE (by decide)) ?_;refine pd (v:=.ref S.length) (S':=S++[.dct (st0 c s h).kv]) (by rfl) ?_;exact hk
theorem uB{c s h:Int}:Iv (st0 c s h):=by
 refine⟨⟨?_,xBa _ (by decide),?_⟩,rfl,⟨xBu _,by show(0:Int)<=10000;decide⟩⟩
 ·show 0<=(if -1-c>c then -1-c else c);split <;> lia
 ·show s%2147483646<2147483647;have:=xBb s (show(0:Int)<2147483646 by decide);lia
structure PgOk(P:Pg):Prop where
 wf:Wf (nameB ·=true) [] 14 P
 nd:P.pls.Nodup
 le:P.pls.length<=300
 rg:∀p∈P.pls,0<=p/\p<=599
theorem qR(xs:List Int):∃P,PgOk P/\∀{fw d:Nat}{S:So}{x:Kx Prop}{K:Kv Prop},(∀S',Kp S S'->K P.u S')->(Gd fw (d+50)).call 43 [.kl (xs.map .int),.int 80] S x K:=by
 obtain⟨ws,h5,hnd,hN,W⟩:=nh (xs.getD 0 0);have go:∀s:Int,∃P,PgOk P/\∀{fw d:Nat}{S:So}{x:Kx Prop}{K:Kv Prop},(∀S',Kp S S'->K P.u S')->rz5 (Gd fw (d+49)) [some (.kl (xs.map .int)),some (.int 80),some (.int s),none] S (endsOf x K):=λs=>by
  obtain⟨P,x',q,b⟩:=ou (N:=(nameB ·=true)) (ws:=ws) hN vD h5 hnd (n:=15) (dm:=14) (by decide) (by decide) (x:=st0 (xs.getD 2 0) s (xs.getD 1 0 / 2)) (sc:=[]) (dp:=14) uB (by show(0:Int)+40*(14:Nat)<=2000;decide) (by decide) (by decide);have hi:x'.k<=166:=by
   have:=q.hi;have e:(st0 (xs.getD 2 0) s (xs.getD 1 0 / 2)).k=0:=rfl;omega
  obtain⟨ks,e,nd,rg⟩:=q.ks;have rg:∀k∈ks,0<k/\k<=166:=λk hk=>by have:=rg k hk;have e:(st0 (xs.getD 2 0) s (xs.getD 1 0 / 2)).k=0:=rfl;omega
  have hl:=pig (m:=166) nd rg;refine⟨P,⟨q.wf,?_,by rw[e,xAa];omega,λp hp=>?_⟩,λ{fw d S x K} hk=>?_⟩
  ·rw[e];refine List.pairwise_map.mpr (nd.imp_of_mem λ{a b} ha hb z e=>z ?_);have ha:=rg a ha;have hb:=rg b hb;unfold plOf at e;omega
  ·rw[e] at hp;obtain⟨k,_,rfl⟩:=xA2.mp hp;unfold plOf;omega
  ·refine dM (k:=2) ?_;refine dM (k:=1) ?_;refine pd (dU (by decide)) ?_;refine ny ?_;refine dM (k:=0) ?_;refine W λS' kp=>?_;refine pv (.lst []) ?_;have g:=kp.ky (q:=S.length) atNew;refine(b.up (lv':=49) (by decide)).h (d:=d) g ?_;refine hk _ ⟨by rw[lenSet];have:=kp.len;rw[xAb] at this;omega,λ{p o} z=>?_⟩;have lp:=atLt z;rw[atNe (by omega)];exact kp.ky (atApp z)
 by_cases h1:xs.getD 1 0%2=1
 ·obtain⟨P,ok,g⟩:=go (1+xs.getD 1 0%2147483645);refine⟨P,ok,λ{fw d S x K} hk=>?_⟩;refine cd (d:=d+49) ⟨2,4,t43⟩ ?_;refine dM (k:=1) ?_;refine pd (cE (by decide)) ?_;refine pd cu ?_;rw[xBd h1];refine bT ?_;refine dM (k:=1) ?_;refine pd (cE (by decide)) ?_;exact pv (.int (1+xs.getD 1 0%2147483645)) (g hk)
 ·obtain⟨P,ok,g⟩:=go 0;refine⟨P,ok,λ{fw d S x K} hk=>?_⟩;refine cd (d:=d+49) ⟨2,4,t43⟩ ?_;refine dM (k:=1) ?_;refine pd (cE (by decide)) ?_;refine pd cu ?_;rw[xCn h1];exact bF (g hk)
end
section
variable{up:List (Str×Str)}{S T:So}{p q k:Nat}{o o1 o2 o':Ob}{v w:U}{r:List U}{a b C f:Str}{fs fs':List (Str×U)}
theorem cw(h:a=b):pr up .eq [.str a,.str b] S=.ok (.bl true) S:=by
 show Res.ok (.bl (decide (a=b))) S=_;rw[xBd h]
theorem cf(h:a≠b):pr up .eq [.str a,.str b] S=.ok (.bl false) S:=by
 show Res.ok (.bl (decide (a=b))) S=_;rw[xCn h]
theorem bz{xs:List U}(h:xs[j]?=some v):pr up .ix [.tup xs,.int j] S=.ok v S:=by
 show opt (atI xs (j:Int)) S=_;rw[c9 h];rfl
theorem bw:pr up .ix [.tup (v::r),.int 0] S=.ok v S:=bz (j:=0) rfl
theorem cx:pr up .ix [.tup (w::v::r),.int 1] S=.ok v S:=bz (j:=1) rfl
theorem atN(h:p≠q)(h2:at? S q=some o2):at? (set S p o') q=some o2:=by
 rw[atNe h];exact h2
theorem atK(h1:at? S p=some o1)(h2:at? S q=some o2)(h:o1≠o2):at? (set S p o') q=some o2:=atN (λe=>h (by rw[e,h2] at h1;cases h1;rfl)) h2
theorem atOff:∀{S T:So}{k:Nat},at? (S++T) (S.length+k)=at? T k
 |[],T,k=>by simp
 |_::S,T,k=>by
  rw[xAo,show S.length+1+k=(S.length+k)+1 by lia];exact atOff (S:=S)
theorem setOff:∀{S T:So}{k:Nat},set (S++T) (S.length+k) o=S++set T k o
 |[],T,k=>by simp
 |x::S,T,k=>by
  rw[xAo,show S.length+1+k=(S.length+k)+1 by lia];exact congrArg (x::·) (setOff (S:=S))
theorem qV:pr up (.dct []) [] (S++T)=.ok (.ref (S.length+T.length)) (S++(T++[.dct []])):=by
 show Res.ok (.ref (S++T).length) (S++T++[.dct []])=_;rw[xAb,xAx]
theorem nU(k:Nat)(h:at? T k=some (.ins C fs))(e:putF f v fs=fs')(hl:Nat.ble fs.length 900=true):pr up (.setf f) [.ref (S.length+k),v] (S++T)=.ok .non (S++set T k (.ins C fs')):=by
 rw[gG (by rw[atOff];exact h) e hl,setOff]
end
local macro_rules | `(tactic| walk_at "w")=>`(tactic| repeat first | refine pd (cw rfl) ?_ | refine pd (cf (by first | assumption | decide)) ?_ | refine pd (da (by assumption) rfl) ?_ | refine bT ?_ | refine bF ?_ | refine pd (ce (by assumption) rfl) ?_ | refine pd (cz (by assumption)) ?_ | refine pd (by rfl) ?_ | refine pd bw ?_)
section
variable{fw d:Nat}{S:So}{x:Kx Prop}{K:Kv Prop}
theorem gO{i:Int}(hk:K (.bl true) S):(Gd fw (d+1)).call 0 [.int i] S x K:=by
 refine cd ⟨1,1,t0⟩ ?_;walk_at"w"
 exact hk
end
section
variable{fw d n e:Nat}{S S1 S2 S':So}{x:Kx Prop}{K:Kv Prop}{u v P:U}{w:Str}{xs:List U}{i:Int}
theorem oi(h:xs.length<=1000)(hk:K (.tup xs) S):(Gd fw (d+1)).call 8 [.tup xs] S x K:=by
 refine cd ⟨1,1,t8⟩ ?_;walk_at"w"
 refine pd (v:=.tup xs) (S':=S) (fitsO (by show 0+xs.length<=2^24;lia)) ?_;exact hk
theorem nX(h:w.length<=1000):pr ups .join [.str "",.lst [.str w]] S=.ok (.str w) S:=by
 show(match decide (([w].map λy:Str=>y.length).sum+1*("":Str).length<=16777216) with|true=>Res.ok (.str (Builtin.Str.glued "" [w])) S|false=>.stuck)=_;rw[xBd (by rw[show("":Str).length=0 by decide +kernel];show w.length+0+0<=_;lia)];rfl
theorem jt(h:w.length<=1000)(hk:K (.str w) S):(Gd fw (d+1)).call 8 [.str w] S x K:=by
 refine cd ⟨1,1,t8⟩ ?_;walk_at"w"
 refine pd (nX h) ?_;exact hk
theorem om(hk:K (.int i) S):(Gd fw (d+2)).call 8 [.int i] S x K:=by
 refine cd ⟨1,1,t8⟩ ?_;walk_at"w"
 refine gO ?_;walk_at"w"
 exact hk
theorem tP:∀{cs ys:List U},(∀c∈cs,inL c=true)->K (.lst (ys++cs.map λ_=>.bl true)) S->lcK (Gd fw d) (lcB [1] true [none,none] none (cB (tB (J2 .inn J3 (J1 ltrs)))) (Gd fw d)) cs ys S K
 |[],ys,h,hk=>by
  rw[List.map_nil,xB0] at hk;exact hk
 |c::cs,ys,h,hk=>by
  have h1:=h c (xAr ..);refine pd (v:=.bl true) (S':=S) ?_ ?_
  ·show obB (inU S c (.str ltrs)) id S=_;unfold inL at h1;have e:inU S c (.str ltrs)=inU [] c (.str ltrs):=rfl;rw[e];split at h1
   ·next b hb=>rw[hb,h1];rfl
   ·cases h1
  ·refine tP (cs:=cs) (ys:=ys++[.bl true]) (λc hc=>h c (xAs _ hc)) ?_;rw[xAx];exact hk
theorem je:∀{cs:List U},blL (cs.map λ_=>U.bl true)=some (cs.map λ_=>true)
 |[]=>rfl
 |_::cs=>by show(blL _).map _=_;rw[je];rfl
theorem isw(h:wordB w=true)(hk:K (.bl true) S):(Gd fw (d+1)).call 4 [.str w] S x K:=by
 unfold wordB at h;rw[xCh,xCh] at h;obtain⟨⟨h1,h2⟩,h3⟩:=h;have h1:=xCo h1;have h2:=xCo h2;refine cd ⟨1,1,t4⟩ ?_;walk_at"w"
 refine pd (v:=.int w.length) (S':=S) (fitsO (by show _<=2^24;lia)) ?_;refine pd (v:=.bl true) (S':=S) (by show Res.ok (.bl (decide ((1:Int)<=w.length))) S=_;rw[xBd (by lia)]) ?_;refine bT ?_;refine pd (v:=.bl true) (S':=S) (by show Res.ok (.bl (decide ((w.length:Int)<=8))) S=_;rw[xBd (by lia)]) ?_;refine bF (pv (.tup (chs w)) ?_);have hc:(chs w).length<=sizeLine:=by
  show _<=2^24;have:(chs w).length=w.length:=by unfold chs;rw[xAa];rfl
  lia
 refine bI (c:=Nat.ble (chs w).length sizeLine) (λ_=>?_) λz=>absurd (xDk hc) (by rw[z];decide);refine tP (cs:=chs w) (ys:=[]) (λc hc=>xCx.mp h3 c hc) ?_;refine pd (v:=.bl true) (S':=S) ?_ hk;show(match blL ([]++(chs w).map λ_=>U.bl true) with|some bs=>Res.ok (.bl (bs.all id)) S|none=>.stuck)=_;rw[xC6,je];simp
theorem isn(h:nameB w=true)(hk:K (.bl true) S):(Gd fw (d+2)).call 5 [.str w] S x K:=by
 unfold nameB at h;rw[xCh] at h;refine cd ⟨1,1,t5⟩ ?_;refine isw h.1 ?_;refine bT ?_;refine pd (v:=.bl true) (S':=S) ?_ hk;show obB (some (anyF (.str w) (headS.map .str))) not S=_;have:=h.2;rw[Bool.not_eq_true'] at this;rw[this];rfl
theorem sv(h:-(10^12)<i/\i<10^12)(hk:K (.bl true) S):(Gd fw (d+3)).call 15 [.str "number",.int i,v] S x K:=by
 refine cd ⟨3,3,t15⟩ ?_;walk_at"w"
 refine cd ⟨1,1,t7⟩ ?_;refine gO ?_;refine bT (pv (.int (if i<0 then -i else i)) (pv (.int (10^12)) ?_));refine pd (v:=.bl true) (S':=S) ?_ hk;show Res.ok (.bl (decide ((if i<0 then -i else i)<10^12))) S=_;rw[xBd (by split <;> lia)]
def opsB(w:Str):Bool:=wordB w&&anyF (.str w) [.str "add",.str "sub",.str "mul",.str "less",.str "same"]
theorem v3(h:opsB w=true)(hk:K (.bl true) S):(Gd fw (d+2)).call 15 [.str "op",.str w,v] S x K:=by
 unfold opsB at h;rw[xCh] at h;refine cd ⟨3,3,t15⟩ ?_;walk_at"w"
 refine isw h.1 ?_;refine bT ?_;refine pd (v:=.bl true) (S':=S) ?_ hk;show obB (some (anyF (.str w) [.str "add",.str "sub",.str "mul",.str "less",.str "same"])) id S=_;rw[h.2];rfl
theorem pH(h:wordB w=true)(hk:K (.bl true) S):(Gd fw (d+2)).call 15 [.str "word",.str w,v] S x K:=by
 refine cd ⟨3,3,t15⟩ ?_;walk_at"w"
 exact isw h hk
theorem pJ(h:nameB w=true)(hk:K (.bl true) S):(Gd fw (d+3)).call 15 [.str "name",.str w,v] S x K:=by
 refine cd ⟨3,3,t15⟩ ?_;walk_at"w"
 exact isn h hk
theorem gn:∀{th:List Str},(th.map U.str).all flatU=true
 |[]=>rfl
 |_::th=>by rw[xBs,xCj,gn];rfl
theorem f6:∀{th:List Str},w∈th->anyF (.str w) (th.map U.str)=true
 |y::th,h=>by
  show((y==w)||anyF (.str w) (th.map U.str))=true;rcases xAv.mp h with rfl|h
  ·rw[show(w==w)=true by exact beq_self_eq_true w];rfl
  ·rw[f6 h,Bool.or_true]
theorem pI{th:List Str}(h:nameB w=true)(ht:w∈th)(hk:K (.bl true) S):(Gd fw (d+3)).call 15 [.str "used",.str w,.tup (th.map .str)] S x K:=by
 refine cd ⟨3,3,t15⟩ ?_;walk_at"w"
 refine isn h ?_;refine bT ?_;refine pd (v:=.bl true) (S':=S) ?_ hk;show obB (if(flatU (.str w)&&(th.map U.str).all flatU)=true then some (anyF (.str w) (th.map U.str)) else none) id S=_;rw[gn,f6 ht];rfl
end
section
variable{fw d n e:Nat}{S S1 S2 S':So}{x:Kx Prop}{K:Kv Prop}{u v P:U}{w:Str}{xs:List U}{i pl:Int}{h pq kq:Nat}{ps pls:List Int}{th nn:List Str}
def plK(ps:List Int):List (Key×U):=ps.map λi=>(Sum.inl i,.bl true)
structure ChS(h pq:Nat)(ps:List Int)(S:So):Prop where
 ob:at? S h=some (.ins "Checker" [("places",.ref pq)])
 di:at? S pq=some (.dct (plK ps))
structure Pc(pq:Nat)(S S':So):Prop where
 len:S.length<=S'.length
 ky:∀{q o},q≠pq->at? S q=some o->at? S' q=some o
theorem Pc.trans(h1:Pc pq S S1)(h2:Pc pq S1 S2):Pc pq S S2:=⟨xCk h1.len h2.len,λa b=>h2.ky a (h1.ky a b)⟩
theorem Pc.refl:Pc pq S S:=⟨xAg _,λ_ b=>b⟩
theorem Pc.app{T:So}:Pc pq S (S++T):=⟨by simp,λ_ b=>atApp b⟩
theorem kR:∀{ps:List Int},pl∉ps->getK (.inl pl) (plK ps)=none
 |[],_=>rfl
 |a::ps,h=>by
  show(if(Sum.inl a:Key)=.inl pl then _ else getK (.inl pl) (plK ps))=_;rw[xCf (by intro z;injection z with z;exact h (by rw[z];exact xAr ..)),kR λz=>h (xAs _ z)]
theorem qp:∀{ps:List Int},pl∉ps->((plK ps).any λkv=>decide (kv.1=.inl pl))=false
 |[],_=>rfl
 |a::ps,h=>by
  show(decide ((Sum.inl a:Key)=.inl pl)||(plK ps).any _)=_;rw[xCn (by intro z;injection z with z;exact h (by rw[z];exact xAr ..)),qp λz=>h (xAs _ z)];rfl
theorem qK(hp:pl∉ps):putK (.inl pl) (.bl true) (plK ps)=plK (ps++[pl]):=by
 unfold Fx.putK;rw[qp hp];simp[plK]
theorem yC(C:ChS h pq ps S)(hp:0<=pl/\pl<=599)(hn:pl∉ps)(hl:ps.length<300)(hk:∀S',ChS h pq (ps++[pl]) S'->Pc pq S S'->K .non S'):(Gd fw (d+3)).call 11 [.ref h,.int pl] S x K:=by
 refine cd ⟨2,2,t11⟩ ?_;refine cd ⟨1,1,t6⟩ ?_;refine gO ?_;refine bT ?_;refine pd (v:=.bl true) (S':=S) (by show Res.ok (.bl (decide ((0:Int)<=pl))) S=_;rw[xBd hp.1]) ?_;refine bT ?_;refine pd (v:=.bl true) (S':=S) (by show Res.ok (.bl (decide (pl<=(599:Int)))) S=_;rw[xBd hp.2]) ?_;refine bF ?_;have h1:=C.ob;have h2:=C.di;refine pd (da h1 rfl) ?_;refine pd (v:=.bl false) (S':=S) ?_ ?_
 ·show obB (inU S (.int pl) (.ref pq)) id S=_;unfold inU;dsimp only;rw[h2];show obB (some (getK (.inl pl) (plK ps)).isSome) id S=_;rw[kR hn];rfl
 refine bF (pd (da h1 rfl) ?_);have hL:(plK ps).length=ps.length:=by simp[plK]
 refine pd (v:=.non) (S':=set S pq (.dct (plK (ps++[pl])))) ?_ ?_
 ·show setiU pq (.int pl) (.bl true) S=_;unfold setiU;rw[h2];show fits _ _=_;rw[fitsO (by show _<=2^24;lia),qK hn]
 have C':ChS h pq (ps++[pl]) (set S pq (.dct (plK (ps++[pl])))):=⟨atK h2 h1 (λz=>nomatch z),atSet h2⟩
 have h3:=C'.ob;refine pd (da h3 rfl) ?_;refine pd (qS C'.di) ?_;refine pd (v:=.bl false) (S':=set S pq (.dct (plK (ps++[pl])))) (by show Res.ok (.bl (decide ((300:Int)<(plK (ps++[pl])).length))) _=_;rw[xCn (by simp[plK];lia)]) ?_;refine bF ?_;exact hk _ C' ⟨by rw[lenSet];exact xAg _,λa b=>atN (Ne.symm a) b⟩
structure TA(vs:List U)(nn:List Str):Prop where
 h:∀{fw d:Nat}{S:So}{kq:Nat}{x:Kx Prop}{K:Kv Prop},at? S kq=some (.lst vs)->K (.tup (nn.map .str)) S->(Gd fw (d+1)).call 2 [.ref kq,.int vs.length] S x K
theorem cq{up:List (Str×Str)}(hq:at? S kq=some (.lst xs))(hj:xs[j]?=some v):pr up .ix [.ref kq,.int j] S=.ok v S:=by
 show ixU (.ref kq) (.int j) S=_;unfold ixU;dsimp only;rw[hq];show opt (atI xs (j:Int)) S=_;rw[c9 hj];rfl
theorem gA{k:Str}{r:List U}(h1:getF k cO=none)(h2:(c7.any λy=>decide (y=k))=true):TA (.str k::r) []:=⟨λ{fw d S kq x K} hq hk=>by
 refine cd ⟨2,5,t2⟩ ?_;refine pd (cq (j:=0) hq rfl) ?_;refine pd (v:=.tup [.non,.non]) (S':=S) ?_ ?_
 ·delta pr;dsimp only[fO];rw[h1,h2]
 walk_at"w"
 exact hk⟩
theorem wV{p:U}:TA [.str "fn",p] []:=⟨λ{fw d S kq x K} hq hk=>by
 refine cd ⟨2,5,t2⟩ ?_;refine pd (cq (j:=0) hq rfl) ?_;walk_at"w"
 exact hk⟩
theorem uz{p:U}:TA [.str "fn",p,.tup (ns.map .str)] ns:=⟨λ{fw d S kq x K} hq hk=>by
 refine cd ⟨2,5,t2⟩ ?_;refine pd (cq (j:=0) hq rfl) ?_;walk_at"w"
 refine pd (cq (j:=2) hq rfl) ?_;walk_at"w"
 exact hk⟩
theorem uy{p:U}:TA [.str "let",p] []:=⟨λ{fw d S kq x K} hq hk=>by
 refine cd ⟨2,5,t2⟩ ?_;refine pd (cq (j:=0) hq rfl) ?_;walk_at"w"
 exact hk⟩
theorem qD{p q:U}:TA [.str "let",p,q] []:=⟨λ{fw d S kq x K} hq hk=>by
 refine cd ⟨2,5,t2⟩ ?_;refine pd (cq (j:=0) hq rfl) ?_;walk_at"w"
 exact hk⟩
theorem qC{p q:U}:TA [.str "let",p,.str y,q] [y]:=⟨λ{fw d S kq x K} hq hk=>by
 refine cd ⟨2,5,t2⟩ ?_;refine pd (cq (j:=0) hq rfl) ?_;walk_at"w"
 refine pd (cq (j:=2) hq rfl) ?_;walk_at"w"
 exact hk⟩
theorem ux{p:U}:TA [.str "try",p] []:=⟨λ{fw d S kq x K} hq hk=>by
 refine cd ⟨2,5,t2⟩ ?_;refine pd (cq (j:=0) hq rfl) ?_;walk_at"w"
 exact hk⟩
theorem qB{p q:U}:TA [.str "try",p,q] []:=⟨λ{fw d S kq x K} hq hk=>by
 refine cd ⟨2,5,t2⟩ ?_;refine pd (cq (j:=0) hq rfl) ?_;walk_at"w"
 exact hk⟩
theorem qA{p q r:U}:TA [.str "try",p,q,r] []:=⟨λ{fw d S kq x K} hq hk=>by
 refine cd ⟨2,5,t2⟩ ?_;refine pd (cq (j:=0) hq rfl) ?_;walk_at"w"
 exact hk⟩
theorem qz{p q r:U}:TA [.str "try",p,q,r,.str y] [y]:=⟨λ{fw d S kq x K} hq hk=>by
 refine cd ⟨2,5,t2⟩ ?_;refine pd (cq (j:=0) hq rfl) ?_;walk_at"w"
 refine pd (cq (j:=4) hq rfl) ?_;walk_at"w"
 exact hk⟩
theorem wU{p:U}:TA [.str "match",p] []:=⟨λ{fw d S kq x K} hq hk=>by
 refine cd ⟨2,5,t2⟩ ?_;refine pd (cq (j:=0) hq rfl) ?_;walk_at"w"
 exact hk⟩
theorem wT{p q:U}:TA [.str "match",p,q] []:=⟨λ{fw d S kq x K} hq hk=>by
 refine cd ⟨2,5,t2⟩ ?_;refine pd (cq (j:=0) hq rfl) ?_;walk_at"w"
 exact hk⟩
theorem wS{p q r:U}:TA [.str "match",p,q,r] []:=⟨λ{fw d S kq x K} hq hk=>by
 refine cd ⟨2,5,t2⟩ ?_;refine pd (cq (j:=0) hq rfl) ?_;walk_at"w"
 exact hk⟩
theorem wR{p q r:U}:TA [.str "match",p,q,r,.tup (ns.map .str)] ns:=⟨λ{fw d S kq x K} hq hk=>by
 refine cd ⟨2,5,t2⟩ ?_;refine pd (cq (j:=0) hq rfl) ?_;walk_at"w"
 refine pd (cq (j:=4) hq rfl) ?_;walk_at"w"
 exact hk⟩
theorem wQ{p q r s u:U}:TA [.str "match",p,q,r,s,u] []:=⟨λ{fw d S kq x K} hq hk=>by
 refine cd ⟨2,5,t2⟩ ?_;refine pd (cq (j:=0) hq rfl) ?_;walk_at"w"
 exact hk⟩
end
structure ChkI(s:Str)(v:U)(pls:List Int)(th:List Str)(wi:Int)(D:Nat):Prop where
 h:∀{fw d h pq:Nat}{ps:List Int}{S:So}{x:Kx Prop}{K:Kv Prop},D<=d->ChS h pq ps S->(ps++pls).Nodup->(ps++pls).length<=300->(∀S',ChS h pq (ps++pls) S'->Pc pq S S'->K v S')->(Gd fw d).call 12 [.ref h,.str s,v,.tup (th.map .str),.int wi] S x K
structure Chk(P:U)(pls:List Int)(th:List Str)(wi:Int)(D:Nat):Prop where
 h:∀{fw d h pq:Nat}{ps:List Int}{S:So}{x:Kx Prop}{K:Kv Prop},D<=d->ChS h pq ps S->(ps++pls).Nodup->(ps++pls).length<=300->(∀S',ChS h pq (ps++pls) S'->Pc pq S S'->K P S')->(Gd fw d).call 10 [.ref h,P,.tup (th.map .str),.int wi] S x K
inductive Its(th:List Str)(wi:Int)(D:Nat):List U->List (Str×U)->List Int->Prop
 |nil {vs:List U}:Its th wi D vs [] []
 |cons {vs:List U} {s:Str} {v:U} {nn:List Str} {r:List (Str×U)} {pl pls:List Int} (t:TA vs nn) (c:ChkI s v pl (th++nn) wi D) (hn:nn.length<=10) (i:Its th wi D (vs++[v]) r pls):Its th wi D vs ((s,v)::r) (pl++pls)
theorem vV{th:List Str}{kq:Nat}(hD:D<=d+1)(hth:th.length<=1000):∀{vs:List U}{items:List (Str×U)}{pls:List Int},Its th wi D vs items pls->∀{S:So}{ps:List Int}{a b c:Option U},ChS h pq ps S->kq≠pq->at? S kq=some (.lst vs)->(ps++pls).Nodup->(ps++pls).length<=300->vs.length+items.length<=100 ->
  (∀S' a b c,ChS h pq (ps++pls) S'->S.length<=S'.length->(∀{q o},q≠pq->q≠kq->at? S q=some o->at? S' q=some o)->at? S' kq=some (.lst (vs++items.map (·.2)))->kk [some (.ref h),a1,some (.tup (th.map .str)),some (.int wi),a4,some (.ref kq),a6,a,b,c] S') ->
  forK (items.map λp=>U.tup [.str p.1,p.2]) (λw σ1 S2 nx=>tgt [7,8] false (Gd fw (d+1)) w σ1 λσ2=>bd10 (Gd fw (d+1)) σ2 S2 (lpE E nx)) [some (.ref h),a1,some (.tup (th.map .str)),some (.int wi),a4,some (.ref kq),a6,a,b,c] S kk:=by
 intro vs items pls hI;induction hI with
 |nil=>
  intro S ps a b c C hq hk hn hl hb hkk;refine hkk S a b c ?_ (xAg _) (λ_ _ z=>z) ?_
  ·rw[xB0];exact C
  ·rw[List.map_nil,xB0];exact hk
 |@cons vs s v nn r pl pls t ci hnn i ih=>
  intro S ps a b c C hq hk hn hl hb hkk;have h1:=C.ob;rw[xBs,forK];refine pd (kb hk) ?_;refine t.h hk ?_;refine pd (v:=.tup ((th++nn).map .str)) (S':=S) ?_ ?_
  ·show fits _ _=_;rw[fitsO (by show _<=2^24;rw[xAa,xAa];lia),xAi]
  refine pd (cz hk) ?_;refine pd (ce h1 rfl) ?_;rw[<- xAx] at hn hl hkk;have hn1:(ps++pl).Nodup:=(xBq.mp hn).1;refine ci.h hD C hn1 (by rw[xAb (as:=ps++pl)] at hl;lia) λS1 C1 p1=>?_;have hk1:=p1.ky hq hk;simp only[xAo] at hb;refine pd (db hk1 (by show _<=2^24;lia)) ?_;have C2:ChS h pq (ps++pl) (set S1 kq (.lst (vs++[v]))):=⟨atK hk1 C1.ob (λz=>nomatch z),atN hq C1.di⟩
  refine ih C2 hq (atSet hk1) hn hl (by simp;lia) λS' a b c C' ln ky hk'=>?_;refine hkk S' a b c C' (by rw[lenSet] at ln;exact xCk p1.len ln) (λn1 n2 z=>ky n1 n2 (atN (Ne.symm n2) (p1.ky n1 z))) ?_;rw[xAx] at hk';exact hk'
theorem cutU2{a b:U}{r:List U}:pr ups (.sl false true false) [.tup (a::b::r),.int 2] []=.ok (.tup r) []:=by
 show slice false (.tup (a::b::r)) (some ((2:Nat):Int)) none []=_;unfold slice;dsimp only;rw[HT.sIx_nat,show min 2 (a::b::r).length=2 by simp,xCn (by lia)];dsimp only;congr 2;unfold cutU;rw[HT.sIx_nat,show min 2 (a::b::r).length=2 by simp,HT.sIx_none];simp
theorem uQ{a b:U}{r:List U}:pr ups (.sl false true false) [.tup (a::b::r),.int 2] S=.ok (.tup r) S:=by
 have e:∀S,pr ups (.sl false true false) [.tup (a::b::r),.int 2] S=slice false (.tup (a::b::r)) (some 2) none S:=λ_=>rfl;have:=cutU2 (a:=a) (b:=b) (r:=r);rw[e] at this⊢;unfold slice at this⊢;dsimp only at this⊢;split at this
 ·cases this
 ·injection this with this _;rw[this]
theorem jS:∀{its:List (Str×U)},zipU (its.map λp=>.str p.1) (its.map (·.2))=its.map λp=>.tup [.str p.1,p.2]
 |[]=>rfl
 |p::its=>by
  show U.tup [.str p.1,p.2]::zipU _ _=_;rw[jS];rfl
theorem fV{P:U}{k:Str}{pl wi':Int}{pls:List Int}{th:List Str}{b:Bool}(hP:P=.tup (.str k::.int pl::items.map (·.2)))(hf:getF k cg=some (.kt (items.map λp=>.str p.1)))(hw:(!anyF (.str k) [.str "number",.str "name"])=b)(hwi:wi'=if b then wi+1 else wi)(h20:wi'<=20)(hkl:k.length<=1000)(hil:items.length<=10)(hpl:0<=pl/\pl<=599)(hth:th.length<=1000)(hD:4<=D)(hI:Its th wi' D [.str k,.int pl] items pls):Chk P (pl::pls) th wi (D+1):=by
 refine⟨?_⟩;intro fw d h pq ps S x K hd C hn hl hk;obtain⟨d,rfl⟩:∃d',d=d'+4:=⟨d-4,by lia⟩
 refine cd ⟨4,10,t10⟩ ?_;rw[hP];have hlm:(items.map (·.2)).length=items.length:=xAa ..;refine oi (by simp only[xAo,hlm];lia) ?_;refine pv (.bl true) (bF ?_);refine pd (v:=.int (items.length+2:Nat)) (S':=S) (by show Res.ok (.int ((items.map (·.2)).length+1+1:Nat)) S=_;rw[hlm]) ?_;refine pd (v:=.bl false) (S':=S) (by show Res.ok (.bl (decide (((items.length+2:Nat):Int)<2))) S=_;rw[xCn (by lia)]) ?_;refine bF (pd bw ?_);refine jt hkl ?_;refine pd cx ?_;refine om ?_;refine pd (v:=.ref S.length) (S':=S++[.lst [.str k,.int pl]]) (by rfl) ?_;have hk1:at? (S++[Ob.lst [.str k,.int pl]]) S.length=some (.lst [.str k,.int pl]):=atNew;have C1:ChS h pq ps (S++[.lst [.str k,.int pl]]):=⟨atApp C.ob,atApp C.di⟩
 have hq:S.length≠pq:=by have:=atLt C.di;lia
 have lt1:S.length<=(S++[Ob.lst [.str k,.int pl]]).length:=by simp
 have ky1:∀{q o},at? S q=some o->at? (S++[Ob.lst [.str k,.int pl]]) q=some o:=λz=>atApp z;generalize S++[Ob.lst [.str k,.int pl]]=T at hk1 C1 lt1 ky1⊢;refine pd (cq (j:=0) hk1 rfl) ?_;refine cd ⟨1,1,t1⟩ ?_;refine pv (.bl true) (bT ?_);refine pd (v:=.kt (items.map λp=>.str p.1)) (S':=T) (by show opt (getF k cg) T=_;rw[hf];rfl) ?_;refine pv (.bl false) (bF ?_);refine pd (v:=.int (items.length+2:Nat)) (S':=T) (by show Res.ok (.int ((items.map (·.2)).length+1+1:Nat)) T=_;rw[hlm]) ?_;refine pd (v:=.int items.length) (S':=T) (by show Res.ok (.int ((items.map λp=>U.str p.1).length:Nat)) T=_;rw[xAa]) ?_;refine pv (.int (2+items.length)) ?_;refine pd (v:=.bl false) (S':=T) (by show Res.ok (.bl (!(decide (((items.length+2:Nat):Int)=2+items.length)))) T=_;rw[xBd (by lia)];rfl) ?_;refine bF ?_;have h1:=C1.ob;refine pd (ce h1 rfl) ?_;refine pd (cq (j:=1) hk1 rfl) ?_;rw[show ps++pl::pls=ps++[pl]++pls by simp] at hn hl hk;have hnn:=(xBq.mp hn).1;refine yC (d:=d) C1 hpl (λz=>(xBq.mp hnn).2.2 pl z pl (xAm.mpr rfl) rfl) (by rw[xAb,xAb] at hl;simp at hl;lia) λT2 C2 p2=>?_;have hk2:=p2.ky hq hk1;refine pd (cq (j:=0) hk2 rfl) ?_;refine pd (v:=.bl b) (S':=T2) (by show obB (some (anyF (.str k) [.str "number",.str "name"])) not T2=_;rw[<- hw];rfl) ?_;have fin:∀{c1 c2 c3:Option U},(sQ (J7 (tB (J2 .gt J8 (Jf 20))) (Jh sZ)) (sQ (sF (J2 .zip Jg (J2 (.sl false true false) Ja Jo)) [7,8] false bd10) (J5 (J6 .tupOf Jb)))) (Gd fw (d+3)) [some (.ref h),some P,some (.tup (th.map .str)),some (.int wi'),some P,some (.ref S.length),some (.kt (items.map λp=>.str p.1)),c1,c2,c3] T2 (endsOf x K):=by
  intro c1 c2 c3;refine pd (v:=.bl false) (S':=T2) (by show Res.ok (.bl (decide ((20:Int)<wi'))) T2=_;rw[xCn (by lia)]) ?_;refine bF ?_;rw[hP];refine pd uQ ?_;refine pd (v:=.tup (items.map λp=>.tup [.str p.1,p.2])) (S':=T2) ?_ ?_
  ·show(match Nat.beq (items.map λp:Str×U=>U.str p.1).length (items.map λp:Str×U=>p.2).length with|true=>Res.ok (.tup (zipU (items.map λp:Str×U=>U.str p.1) (items.map λp:Str×U=>p.2))) T2|false=>.stuck)=_;rw[hlm,xAa,show Nat.beq items.length items.length=true from Nat.beq_refl _,jS]
  refine vV (d:=d+2) (D:=D) (by lia) hth hI C2 hq hk2 hn hl (by show 2+items.length<=100;lia) λS' a b c C' ln ky hk'=>?_;refine pd (v:=.tup (.str k::.int pl::items.map (·.2))) (S':=S') (by show tupOfU (.ref S.length) S'=_;unfold tupOfU;dsimp only[lsU];rw[hk'];rfl) ?_;rw[<- hP];exact hk S' C' ⟨xCk lt1 (xCk p2.len ln),λn1 z=>ky n1 (by have:=atLt z;lia) (p2.ky n1 (ky1 z))⟩
 rw[<- hP];cases b with
 |true=>
  refine bT ?_;refine pd (v:=.int wi') (S':=T2) (by rw[hwi];rfl) ?_;exact fin
 |false=>
  refine bF ?_;rw[show wi=wi' by rw[hwi];rfl];exact fin
section
variable{th:List Str}{wi pl i:Int}{w y t:Str}{p q:U}{pls pls1 pls2:List Int}{D dep dep':Nat}{req:List Str}
theorem ChS.nil{ps:List Int}(C:ChS h pq ps S):ChS h pq (ps++[]) S:=by rw[xB0];exact C
theorem wB(hi:-(10^12)<i/\i<10^12):ChkI "number" (.int i) [] th wi 4:=by
 refine⟨?_⟩;intro fw d h pq ps S x K hd C hn hl hk;obtain⟨d,rfl⟩:∃d',d=d'+4:=⟨d-4,by lia⟩
 refine cd ⟨5,6,t12⟩ ?_;walk_at"w"
 refine om ?_;refine sv hi ?_;exact bF (hk S C.nil Pc.refl)
theorem hX{s:Str}(h1:s≠"part")(h2:s≠"parts")(h3:s≠"names")(hw:w.length<=1000)(hf:∀{fw d:Nat}{S:So}{x:Kx Prop}{K:Kv Prop},K (.bl true) S->(Gd fw (d+3)).call 15 [.str s,.str w,.tup (th.map .str)] S x K):ChkI s (.str w) [] th wi 4:=by
 refine⟨?_⟩;intro fw d h pq ps S x K hd C hn hl hk;obtain⟨d,rfl⟩:∃d',d=d'+4:=⟨d-4,by lia⟩
 refine cd ⟨5,6,t12⟩ ?_;walk_at"w"
 refine jt hw ?_;refine hf ?_;exact bF (hk S C.nil Pc.refl)
theorem wlen(h:wordB w=true):w.length<=1000:=by
 unfold wordB at h;rw[xCh,xCh] at h;have:=xCo h.1.2;lia
theorem nword(h:nameB w=true):wordB w=true:=by
 unfold nameB at h;rw[xCh] at h;exact h.1
theorem fo(h:wordB w=true):ChkI "word" (.str w) [] th wi 4:=hX (by decide) (by decide) (by decide) (wlen h) λz=>pH h z
theorem yH(h:opsB w=true):ChkI "op" (.str w) [] th wi 4:=hX (by decide) (by decide) (by decide) (wlen (by unfold opsB at h;rw[xCh] at h;exact h.1)) λz=>v3 h z
theorem lA(h:nameB w=true):ChkI "name" (.str w) [] th wi 4:=hX (by decide) (by decide) (by decide) (wlen (nword h)) λz=>pJ h z
theorem lj(h:nameB w=true)(ht:w∈th):ChkI "used" (.str w) [] th wi 4:=hX (by decide) (by decide) (by decide) (wlen (nword h)) λz=>pI h ht z
theorem row_ok{x:Kx Prop}{K:Kv Prop}{xs:List U}(h:xs.length<=4)(hk:K (.tup xs) S):(Gd fw (d+2)).call 13 [.tup xs] S x K:=by
 refine cd ⟨1,2,t13⟩ ?_;refine oi (by lia) ?_;refine pv (.bl true) (bF (pv (.int xs.length) ?_));refine pd (v:=.bl false) (S':=S) (by show Res.ok (.bl (decide ((4:Int)<xs.length))) S=_;rw[xCn (by lia)]) ?_;exact bF hk
theorem tM{fw d:Nat}{S:So}{K:Kv Prop}:∀{xs:List Str}{ys:List U},(∀y∈xs,nameB y=true)->K (.lst (ys++xs.map .str)) S->lcK (Gd fw (d+1)) (lcB [1] true [none,none] none (Jc 8 J3) (Gd fw (d+1))) (xs.map .str) ys S K
 |[],ys,_,hk=>by
  rw[List.map_nil,xB0] at hk;exact hk
 |y::xs,ys,h,hk=>by
  refine jt (wlen (nword (h y (xAr ..)))) ?_;refine tM (xs:=xs) (λz hz=>h z (xAs _ hz)) ?_;rw[xAx];exact hk
theorem tO{fw d:Nat}{S:So}{K:Kv Prop}:∀{xs:List Str}{ys:List U},(∀y∈xs,nameB y=true)->K (.lst (ys++xs.map λ_=>.bl true)) S->lcK (Gd fw (d+2)) (lcB [1] true [none,none] none (Jc 5 J3) (Gd fw (d+2))) (xs.map .str) ys S K
 |[],ys,_,hk=>by
  rw[List.map_nil,xB0] at hk;exact hk
 |y::xs,ys,h,hk=>by
  refine isn (h y (xAr ..)) ?_;refine tO (xs:=xs) (λz hz=>h z (xAs _ hz)) ?_;rw[xAx];exact hk
theorem iq:∀{xs:List Str},strL (xs.map .str)=some xs
 |[]=>rfl
 |x::xs=>by
  show(strL (xs.map .str)).map _=_;rw[iq];rfl
theorem jf:∀{xs:List Str},blL (xs.map λ_=>U.bl true)=some (xs.map λ_=>true)
 |[]=>rfl
 |_::xs=>by
  show(blL (xs.map λ_=>U.bl true)).map _=_;rw[jf];rfl
theorem jP{n:Nat}(h:n<=1000):Nat.ble n sizeLine=true:=xDk (by show n<=2^24;lia)
theorem jc{xs:List Str}(hx:Nmz (nameB ·=true) xs):ChkI "names" (.tup (xs.map .str)) [] th wi 5:=by
 refine⟨?_⟩;intro fw d h pq ps S x K hd C hn hl hk;obtain⟨d,rfl⟩:∃d',d=d'+5:=⟨d-5,by lia⟩
 have few:=hx.few;have lm:(xs.map U.str).length=xs.length:=xAa ..;refine cd ⟨5,6,t12⟩ ?_;walk_at"w"
 refine cd ⟨1,2,t14⟩ ?_;refine row_ok (by lia) ?_;refine pv (.tup (xs.map .str)) ?_;refine bI (c:=Nat.ble (xs.map U.str).length sizeLine) (λ_=>?_) λz=>absurd (jP (n:=(xs.map U.str).length) (by lia)) (by rw[z];decide);refine tM (d:=d+2) hx.ok ?_;rw[xC6];refine pv (.tup (xs.map .str)) (pv (.tup (xs.map .str)) ?_);refine bI (c:=Nat.ble (xs.map U.str).length sizeLine) (λ_=>?_) λz=>absurd (jP (n:=(xs.map U.str).length) (by lia)) (by rw[z];decide);refine tO (d:=d+1) hx.ok ?_;rw[xC6];refine pd (v:=.bl true) (S':=S) ?_ ?_
 ·show(match blL (xs.map λ_=>U.bl true) with|some bs=>Res.ok (.bl (bs.all id)) S|none=>.stuck)=_;rw[jf];simp
 refine bF ?_;refine pd (v:=.int xs.length) (S':=S) ?_ ?_
 ·show(match strL (xs.map U.str) with|some ws=>(match decide (ws.length<=4/\ws.Nodup) with|true=>Res.ok (.int ws.length) S|false=>.stuck)|none=>.stuck)=_;rw[iq];dsimp only;rw[xBd ⟨few,hx.nd⟩]
 refine pd (v:=.int xs.length) (S':=S) (by show Res.ok (.int ((xs.map U.str).length:Nat)) S=_;rw[lm]) ?_;refine pv (.bl (decide ((xs.length:Int)<xs.length))) ?_;rw[xCn (by lia)];exact bF (hk S C.nil Pc.refl)
theorem sS(c:Chk p pls th wi D):ChkI "part" p pls th wi (D+1):=by
 refine⟨?_⟩;intro fw d h pq ps S x K hd C hn hl hk;obtain⟨d,rfl⟩:∃d',d=d'+1:=⟨d-1,by lia⟩
 refine cd ⟨5,6,t12⟩ ?_;have h1:=C.ob;walk_at"w"
 exact c.h (by lia) C hn hl hk
inductive ChkL(th:List Str)(wi:Int)(D:Nat):List U->List Int->Prop
 |nil:ChkL th wi D [] []
 |cons {p:U} {ps:List U} {pls1 pls2:List Int} (h:Chk p pls1 th wi D) (r:ChkL th wi D ps pls2):ChkL th wi D (p::ps) (pls1++pls2)
theorem pe{K:Kv Prop}(hd:D<=d):∀{Ps:List U}{pls:List Int},ChkL th wi D Ps pls->∀{ys:List U}{ps:List Int}{S:So},ChS h pq ps S->(ps++pls).Nodup->(ps++pls).length<=300->(∀S',ChS h pq (ps++pls) S'->Pc pq S S'->K (.lst (ys++Ps)) S') ->
  lcK (Gd fw d) (lcB [1] true [none,none,some (.int wi),some (.tup (th.map .str)),some (.ref h)] none (cM "Checker" "check_part" 10 Ja (Ju J3 J8 J9) []) (Gd fw d)) Ps ys S K:=by
 intro Ps pls c;induction c with
 |nil=>
  intro ys ps S C hn hl hk;have:=hk S C.nil Pc.refl;rw[xB0] at this;exact this
 |@cons p Ps pls1 pls2 c r ih=>
  intro ys ps S C hn hl hk;have h1:=C.ob;rw[<- xAx] at hn hl;refine pd (ce (C:="Checker") h1 rfl) ?_;refine c.h hd C (xBq.mp hn).1 (by rw[xAb] at hl;lia) λS' C' p'=>?_;refine ih C' hn hl λS2 C2 p2=>?_;rw[xAx] at C2⊢;exact hk S2 C2 (p'.trans p2)
theorem jb(c:ChkL th wi D Ps pls)(h4:Ps.length<=4)(hD:4<=D):ChkI "parts" (.tup Ps) pls th wi (D+1):=by
 refine⟨?_⟩;intro fw d h pq ps S x K hd C hn hl hk;obtain⟨d,rfl⟩:∃d',d=d'+3:=⟨d-3,by lia⟩
 refine cd ⟨5,6,t12⟩ ?_;have h1:=C.ob;walk_at"w"
 refine row_ok h4 ?_;walk_at"w"
 refine bI (c:=Nat.ble Ps.length sizeLine) (λ_=>?_) λz=>absurd (xDk (show Ps.length<=2^24 by lia)) (by rw[show Nat.ble Ps.length (2^24)=false from z];decide);refine pe (by lia) c (ys:=[]) C hn hl λS' C' p'=>?_;walk_at"w"
 exact hk S' C' p'
theorem ChkI.mono{s:Str}{v:U}{D':Nat}(h:ChkI s v pls th wi D)(hD:D<=D'):ChkI s v pls th wi D':=⟨λa=>h.h (xCk hD a)⟩
structure CP(P:U)(pls:List Int)(dep:Nat)(req:List Str):Prop where
 h:∀{th:List Str}{wi:Int},(∀y∈req,y∈th)->th.length+5*dep<=1000->wi+dep<=20->Chk P pls th wi (2*dep+5)
theorem CP.mono(h:CP p pls dep req)(hd:dep<=dep'):CP p pls dep' req:=⟨λa b c=>⟨λe=>(h.h a (by lia) (by lia)).h (by lia)⟩⟩
theorem CP.to(h:CP p pls1 dep req)(e:pls1=pls2):CP p pls2 dep req:=e▸h
def okP(pl:Int):Prop:=0<=pl/\pl<=599
theorem ww(hp:okP pl)(hi:-(10 ^ 12)<i/\i<10 ^ 12):CP (.tup [.str "number",.int pl,.int i]) [pl] 0 []:=⟨λ{th wi} _ ht hw =>
 fV (items:=[("number",.int i)]) (b:=false) (wi':=wi) (D:=4) rfl (by rfl) (by rfl) rfl (by lia) (by decide) (by show 1<=10;decide) hp (by lia) (by lia) (.cons (pl:=[]) (gA (by rfl) (by decide)) (wB hi) (by decide) .nil)⟩
theorem sK(hp:okP pl)(hy:nameB y=true):CP (.tup [.str "name",.int pl,.str y]) [pl] 0 [y]:=⟨λ{th wi} hr ht hw =>
 fV (items:=[("used",.str y)]) (b:=false) (wi':=wi) (D:=4) rfl (by rfl) (by rfl) rfl (by lia) (by decide) (by show 1<=10;decide) hp (by lia) (by lia) (.cons (pl:=[]) (gA (by rfl) (by decide)) (lj hy (xBw _ (hr y (xAm.mpr rfl)))) (by decide) .nil)⟩
theorem du{k:Str}(hp:okP pl)(hI:∀{th:List Str}{wi:Int},(∀y∈req,y∈th)->th.length+5 * dep+5<=1000->wi+dep<=20->Its th wi (2 * dep+6) [.str k,.int pl] items pls)(hf:getF k cg=some (.kt (items.map λp=>.str p.1)):=by rfl)(hw:(!anyF (.str k) [.str "number",.str "name"])=true:=by rfl)(hkl:k.length<=1000:=by decide)(hil:items.length<=10:=by simp):CP (.tup (.str k::.int pl::items.map (·.2))) (pl::pls) (dep+1) req:=⟨λ{th wi} hr ht hw' =>
 fV (items:=items) (b:=true) (wi':=wi+1) (D:=2*dep+6) rfl hf hw rfl (by lia) hkl hil hp (by lia) (by lia) (hI hr (by lia) (by lia))⟩
variable{vs:List U}{nn:List Str}{r:List (Str×U)}
theorem itp(t:TA vs nn)(h:CP p pls1 dep req)(hr:∀y∈req,y∈th++nn)(hb:th.length+5*dep+5<=1000)(hw:wi+dep<=20)(i:Its th wi (2*dep+6) (vs++[p]) r pls2)(hn:nn.length<=4:=by simp):Its th wi (2*dep+6) vs (("part",p)::r) (pls1++pls2):=
 .cons t (sS (h.h hr (by rw[xAb];lia) hw)) (by lia) i
theorem its{s:Str}{v:U}(t:TA vs nn)(c:ChkI s v [] (th++nn) wi D)(i:Its th wi (2*dep+6) (vs++[v]) r pls2)(hn:nn.length<=4:=by simp)(hD:D<=5:=by decide):Its th wi (2*dep+6) vs ((s,v)::r) pls2:=
 .cons (pl:=[]) t (c.mono (by lia)) (by lia) i
theorem tn{k:Str}{r:List U}(h1:getF k cO=none:=by rfl)(h2:(c7.any λy=>decide (y=k))=true:=by decide):TA (.str k::r) []:=gA h1 h2
theorem up0{th req:List Str}(hr:∀y∈req,y∈th):∀y∈req,y∈th++[]:=λy z=>by rw[xB0];exact hr y z
theorem yD(hp:okP pl)(hy:nameB y=true)(hr:y∈req):CP (.tup [.str "name",.int pl,.str y]) [pl] 0 req:=⟨λ{th wi} hr' ht hw=>(sK hp hy).h (λz hz=>by rw[xAm.mp hz];exact hr' y hr) ht hw⟩
theorem CP.any(h:CP p pls dep []):CP p pls dep req:=⟨λ_=>h.h λ_ z=>nomatch z⟩
theorem sJ(hp:okP pl)(h:CP p pls dep req):CP (.tup [.str "tell",.int pl,p]) (pl::pls) (dep+1) req:=
 (du (items:=[("part",p)]) hp λhr a b=>itp tn h (up0 hr) a b .nil).to (by simp)
theorem sL(hp:okP pl)(hw:opsB w=true)(h:CP p pls1 dep req)(h2:CP q pls2 dep req):CP (.tup [.str "math",.int pl,.str w,p,q]) (pl::(pls1++pls2)) (dep+1) req:=
 (du (items:=[("op",.str w),("part",p),("part",q)]) hp λhr a b=>its tn (yH hw) (itp tn h (up0 hr) a b (itp tn h2 (up0 hr) a b .nil))).to (by simp)
theorem pY(hp:okP pl)(hw:wordB w=true)(h:CP p pls dep req):CP (.tup [.str "raise",.int pl,.str w,p]) (pl::pls) (dep+1) req:=
 (du (items:=[("word",.str w),("part",p)]) hp λhr a b=>its tn (fo hw) (itp tn h (up0 hr) a b .nil)).to (by simp)
theorem yE{s:U}{pls3:List Int}(hp:okP pl)(h:CP p pls1 dep req)(h2:CP q pls2 dep req)(h3:CP s pls3 dep req):CP (.tup [.str "if",.int pl,p,q,s]) (pl::(pls1++(pls2++pls3))) (dep+1) req:=
 (du (items:=[("part",p),("part",q),("part",s)]) hp λhr a b=>itp tn h (up0 hr) a b (itp tn h2 (up0 hr) a b (itp tn h3 (up0 hr) a b .nil))).to (by simp)
inductive CPs(dep:Nat)(req:List Str):List U->List Int->Prop
 |nil:CPs dep req [] []
 |cons {p:U} {ps:List U} {pls1 pls2:List Int} (h:CP p pls1 dep req) (r:CPs dep req ps pls2):CPs dep req (p::ps) (pls1++pls2)
theorem CPs.chk(c:CPs dep req Ps pls)(hr:∀y∈req,y∈th)(ht:th.length+5*dep<=1000)(hw:wi+dep<=20):ChkL th wi (2*dep+5) Ps pls:=by
 induction c with
 |nil=>exact .nil
 |cons h r ih=>exact .cons (h.h hr ht hw) ih
theorem sM(hp:okP pl)(hw:wordB t=true)(h:CPs dep req Ps pls)(h4:Ps.length<=4):CP (.tup [.str "make",.int pl,.str t,.tup Ps]) (pl::pls) (dep+1) req:=
 (du (items:=[("word",.str t),("parts",.tup Ps)]) hp λhr a b=>its tn (fo hw) (.cons tn (jb (h.chk (up0 hr) (by rw[xB0];lia) b) h4 (by lia)) (by decide) .nil)).to (by simp)
theorem sO(hp:okP pl)(h:CP p pls1 dep req)(h2:CPs dep req Ps pls2)(h4:Ps.length<=4):CP (.tup [.str "call",.int pl,p,.tup Ps]) (pl::(pls1++pls2)) (dep+1) req:=
 (du (items:=[("part",p),("parts",.tup Ps)]) hp λhr a b=>itp tn h (up0 hr) a b (.cons tn (jb (h2.chk (up0 hr) (by rw[xB0];lia) b) h4 (by lia)) (by decide) .nil)).to (by simp)
theorem wz(hp:okP pl):CP (.tup [.str "ask",.int pl]) [pl] 1 req:=
 du (items:=[]) (dep:=0) hp λhr a b=>.nil
end
section
variable{th:List Str}{wi pl i:Int}{w y t:Str}{p q:U}{pls pls1 pls2 pls3:List Int}{dep:Nat}{req xs:List Str}
theorem upa(hr:∀z∈req,z∈th):∀z∈req++xs,z∈th++xs:=λz hz=>(xAj.mp hz).elim (λh=>xBw _ (hr z h)) (xBt _)
theorem yF(hp:okP pl)(hx:Nmz (nameB ·=true) xs)(h:CP q pls dep (req++xs)):CP (.tup [.str "fn",.int pl,.tup (xs.map .str),q]) (pl::pls) (dep+1) req:=
 (du (items:=[("names",.tup (xs.map .str)),("part",q)]) hp λhr a b=>its wV (jc hx) (itp uz h (upa hr) a b .nil hx.few)).to (by simp)
theorem wy(hp:okP pl)(hy:nameB y=true)(h:CP p pls1 dep req)(h2:CP q pls2 dep (req++[y])):CP (.tup [.str "let",.int pl,.str y,p,q]) (pl::(pls1++pls2)) (dep+1) req:=
 (du (items:=[("name",.str y),("part",p),("part",q)]) hp λhr a b=>its uy (lA hy) (itp qD h (up0 hr) a b (itp qC h2 (upa hr) a b .nil))).to (by simp)
theorem wv(hp:okP pl)(hy:nameB y=true)(hr':y∈req)(h:CP p pls dep req):CP (.tup [.str "set",.int pl,.str y,p]) (pl::pls) (dep+1) req:=
 (du (items:=[("used",.str y),("part",p)]) hp λhr a b=>its tn (lj hy (up0 hr y hr')) (itp tn h (up0 hr) a b .nil)).to (by simp)
theorem yG(hp:okP pl)(h:CP p pls1 dep req)(h2:CP q pls2 dep req):CP (.tup [.str "do",.int pl,p,q]) (pl::(pls1++pls2)) (dep+1) req:=
 (du (items:=[("part",p),("part",q)]) hp λhr a b=>itp tn h (up0 hr) a b (itp tn h2 (up0 hr) a b .nil)).to (by simp)
theorem wx{s:U}(hp:okP pl)(hw:wordB w=true)(hx:Nmz (nameB ·=true) xs)(h:CP p pls1 dep req)(h2:CP q pls2 dep (req++xs))(h3:CP s pls3 dep req):CP (.tup [.str "match",.int pl,p,.str w,.tup (xs.map .str),q,s]) (pl::(pls1++(pls2++pls3))) (dep+1) req:=
 (du (items:=[("part",p),("word",.str w),("names",.tup (xs.map .str)),("part",q),("part",s)]) hp λhr a b=>itp wU h (up0 hr) a b (its wT (fo hw) (its wS (jc hx) (itp wR h2 (upa hr) a b (itp wQ h3 (up0 hr) a b .nil) hx.few)))).to (by simp)
theorem yB(hp:okP pl)(hw:wordB w=true)(hy:nameB y=true)(h:CP p pls1 dep req)(h2:CP q pls2 dep (req++[y])):CP (.tup [.str "try",.int pl,p,.str w,.str y,q]) (pl::(pls1++pls2)) (dep+1) req:=
 (du (items:=[("part",p),("word",.str w),("name",.str y),("part",q)]) hp λhr a b=>itp ux h (up0 hr) a b (its qB (fo hw) (its qA (lA hy) (itp qz h2 (upa hr) a b .nil)))).to (by simp)
theorem gy:∀w∈wds,wordB w=true:=by decide +kernel
theorem vo:∀w∈ops,opsB w=true:=by decide +kernel
theorem jK{sc:List Str}:∀{as:List Pg},(∀a∈as,(∀p∈a.pls,okP p)->CP a.u a.pls dep sc)->(∀p∈Pg.plss as,okP p)->CPs dep sc (Pg.us as) (Pg.plss as)
 |[],_,_=>.nil
 |a::r,h,hp=>.cons (h a (xAr ..) λp hz=>hp p (xBw _ hz)) (jK (λb hb=>h b (xAs _ hb)) λp hz=>hp p (xBt _ hz))
theorem eD:∀{as:List Pg},(Pg.us as).length=as.length
 |[]=>rfl
 |_::r=>congrArg (·+1) (eD (as:=r))
theorem wK{sc:List Str}{P:Pg}(h:Wf (nameB ·=true) sc d P):(∀y∈sc,nameB y=true)->(∀p∈P.pls,okP p)->CP P.u P.pls d sc:=by
 have l1:∀{x y:Int}{r s:List Int},(∀p∈x::(r++s),okP p)->okP x/\(∀p∈r,okP p)/\∀p∈s,okP p:=λh=>⟨h _ (xAr ..),λp z=>h p (xAs _ (xBw _ z)),λp z=>h p (xAs _ (xBt _ z))⟩
 have ha:∀{sc xs:List Str},(∀y∈sc,nameB y=true)->(∀y∈xs,nameB y=true)->∀y∈sc++xs,nameB y=true:=λa b y z=>(xAj.mp z).elim (a y) (b y);have h1:∀{y:Str},nameB y=true->∀z∈[y],nameB z=true:=λe z hz=>by rw[xAm.mp hz];exact e
 have l0:∀{x:Int}{r:List Int},(∀p∈x::r,okP p)->okP x/\∀p∈r,okP p:=λh=>⟨h _ (xAr ..),λp z=>h p (xAs _ z)⟩
 have l2:∀{r s:List Int},(∀p∈r++s,okP p)->(∀p∈r,okP p)/\∀p∈s,okP p:=λh=>⟨λp z=>h p (xBw _ z),λp z=>h p (xBt _ z)⟩
 induction h with
 |num a b=>intro _ hp;exact((ww (l0 hp).1 ⟨a,b⟩).any).mono (xBn _)
 |nam h=>intro hs hp;exact(yD (l0 hp).1 (hs _ h) h).mono (xBn _)
 |fn h hb ib=>intro hs hp;exact yF (l0 hp).1 h (ib (ha hs h.ok) (l0 hp).2)
 |call hf h h4 i1 i2=>intro hs hp;exact sO (l0 hp).1 (i1 hs (l2 (l0 hp).2).1) (jK (λa z=>i2 a z hs) (l2 (l0 hp).2).2) (by rw[eD];exact h4)
 |lt hx ha' hb i1 i2=>intro hs hp;exact wy (l0 hp).1 hx (i1 hs (l2 (l0 hp).2).1) (i2 (ha hs (h1 hx)) (l2 (l0 hp).2).2)
 |st hx ha' i1=>intro hs hp;exact wv (l0 hp).1 (hs _ hx) hx (i1 hs (l0 hp).2)
 |dd ha' hb i1 i2=>intro hs hp;exact yG (l0 hp).1 (i1 hs (l2 (l0 hp).2).1) (i2 hs (l2 (l0 hp).2).2)
 |iff ha' hb hc i1 i2 i3=>intro hs hp;exact yE (l0 hp).1 (i1 hs (l2 (l0 hp).2).1) (i2 hs (l2 (l2 (l0 hp).2).2).1) (i3 hs (l2 (l2 (l0 hp).2).2).2)
 |math ho ha' hb i1 i2=>intro hs hp;exact sL (l0 hp).1 (vo _ ho) (i1 hs (l2 (l0 hp).2).1) (i2 hs (l2 (l0 hp).2).2)
 |make ht h h4 i2=>intro hs hp;exact sM (l0 hp).1 (gy _ ht) (jK (λa z=>i2 a z hs) (l0 hp).2) (by rw[eD];exact h4)
 |mat ht hx ha' hb hc i1 i2 i3=>intro hs hp;exact wx (l0 hp).1 (gy _ ht) hx (i1 hs (l2 (l0 hp).2).1) (i2 (ha hs hx.ok) (l2 (l2 (l0 hp).2).2).1) (i3 hs (l2 (l2 (l0 hp).2).2).2)
 |rai hw ha' i1=>intro hs hp;exact pY (l0 hp).1 (gy _ hw) (i1 hs (l0 hp).2)
 |try_ hw hx ha' hb i1 i2=>intro hs hp;exact yB (l0 hp).1 (gy _ hw) hx (i1 hs (l2 (l0 hp).2).1) (i2 (ha hs (h1 hx)) (l2 (l0 hp).2).2)
 |tell ha' i1=>intro hs hp;exact sJ (l0 hp).1 (i1 hs (l0 hp).2)
 |ask=>intro hs hp;exact(wz (l0 hp).1).mono (by lia)
theorem checked{P:Pg}(ok:PgOk P){x:Kx Prop}{K:Kv Prop}(hk:∀S',Kp S S'->K P.u S'):(Gd fw (d+60)).call 16 [P.u] S x K:=by
 have c:=wK ok.wf (λ_ z=>nomatch z) ok.rg;refine cd ⟨1,1,t16⟩ ?_;refine pd (v:=.ref S.length) (S':=S++[.ins "Checker" []]) (by rfl) ?_;refine cd ⟨1,1,t9⟩ ?_;refine pd qV ?_;refine pd (nU 0 rfl (by rfl) rfl) ?_;have C:ChS S.length (S.length+1) [] (S++[.ins "Checker" [("places",.ref (S.length+1))],.dct []]):=⟨atOff (k:=0),atOff⟩
 have h1:=C.ob;refine pd (ce (C:="Checker") h1 rfl) ?_;refine(c.h (th:=[]) (wi:=0) (λ_ z=>nomatch z) (by simp) (by lia)).h (by lia) C (by simpa using ok.nd) (by simpa using ok.le) λS' C' p'=>?_;exact hk S' ⟨by have:=p'.len;rw[xAb] at this;lia,λ{q o} z=>p'.ky (by have:=atLt z;lia) (atApp z)⟩
end
section
variable{κ:Type} [DecidableEq κ] {k k':κ} {v:U}
theorem jG:∀{kvs:List (κ×U)},getK k (putK k v kvs)=some v:=by
 intro kvs;unfold Fx.putK;split
 ·next h=>
  induction kvs with
  |nil=>cases h
  |cons a r ih=>
   obtain⟨g,u⟩:=a;by_cases hg:g=k
   ·subst hg;simp[getK]
   ·have:(r.any λkv=>decide (kv.1=k))=true:=by simpa [hg] using h
    simpa [getK,hg] using ih this
 ·next h=>
  induction kvs with
  |nil=>simp[getK]
  |cons a r ih=>
   obtain⟨g,u⟩:=a;have hg:g≠k:=λe=>h (by simp[e]);have:¬ (r.any λkv=>decide (kv.1=k))=true:=λe=>h (by simp only[List.any_cons,Bool.or_eq_true];exact .inr e);simpa [getK,hg] using ih this
theorem tU(hk:k'≠k):∀{kvs:List (κ×U)},getK k' (putK k v kvs)=getK k' kvs:=by
 intro kvs;unfold Fx.putK;split
 ·next h=>
  clear h;induction kvs with
  |nil=>rfl
  |cons a r ih=>
   obtain⟨g,u⟩:=a;by_cases hg:g=k
   ·subst hg;simp only[xBs,if_true,getK,xCf (Ne.symm hk)];exact ih
   ·simp only[xBs,xCf hg,getK];rw[ih]
 ·next h=>
  clear h;induction kvs with
  |nil=>simp[getK,Ne.symm hk]
  |cons a r ih=>
   obtain⟨g,u⟩:=a;simp only[List.cons_append,getK];rw[ih]
theorem gJ{kvs:List (κ×U)}:(putK k v kvs).length<=kvs.length+1:=by
 unfold Fx.putK;split
 ·rw[xAa];lia
 ·rw[xAb,xAt];lia
end
def pus(kvs:List (Key×U)):List (Str×U)->List (Key×U)
 |[]=>kvs
 |b::r=>pus (putK (.inr b.1) b.2 kvs) r
theorem ef:∀{bs:List (Str×U)}{kvs:List (Key×U)},(pus kvs bs).length<=kvs.length+bs.length
 |[],_=>xAg _
 |b::r,kvs=>by
  have:=ef (bs:=r) (kvs:=putK (.inr b.1) b.2 kvs);have:=gJ (k:=(Sum.inr b.1:Key)) (v:=b.2) (kvs:=kvs);show(pus (putK (.inr b.1) b.2 kvs) r).length<=_;rw[xAo];lia
theorem fF{y:Str}:∀{bs:List (Str×U)}{kvs:List (Key×U)},y∉bs.map (·.1)->getK (.inr y) (pus kvs bs)=getK (.inr y) kvs
 |[],_,_=>rfl
 |b::r,kvs,h=>by
  rw[xBs,xAv,not_or] at h;show getK (.inr y) (pus (putK (.inr b.1) b.2 kvs) r)=_;rw[fF h.2,tU (λe=>h.1 (by injection e))]
theorem gF{y:Str}{u:U}:∀{bs:List (Str×U)}{kvs:List (Key×U)},(bs.map (·.1)).Nodup->(y,u)∈bs->getK (.inr y) (pus kvs bs)=some u
 |b::r,kvs,hn,h=>by
  rw[xBs,xCb] at hn;show getK (.inr y) (pus (putK (.inr b.1) b.2 kvs) r)=_;rcases xAv.mp h with rfl|h
  ·rw[fF hn.1,jG]
  ·exact gF hn.2 h
section
variable{fw d:Nat}{S:So}{x:Kx Prop}{K:Kv Prop}
structure TT(vs:List U)(i:Nat)(nn:List Str):Prop where
 h:∀{fw d:Nat}{S:So}{x:Kx Prop}{K:Kv Prop},K (.tup (nn.map .str)) S->(Gd fw (d+1)).call 2 [.tup vs,.int i] S x K
theorem cm{k:Str}{r:List U}{i:Nat}(h1:getF k cO=none:=by rfl)(h2:(c7.any λy=>decide (y=k))=true:=by decide):TT (.str k::r) i []:=⟨λ{fw d S x K} hk=>by
 refine cd ⟨2,5,t2⟩ ?_;refine pd bw ?_;refine pd (v:=.tup [.non,.non]) (S':=S) ?_ ?_
 ·delta pr;dsimp only[fO];rw[h1,h2]
 refine pv (.tup [.non,.non]) (pv (.bl true) ?_);exact bT hk⟩
theorem im{k:Str}{r:List U}{i:Nat}(h1:getF k cO=some (.kt [.int na,.int sa]))(hi:i≠sa):TT (.str k::r) i []:=⟨λ{fw d S x K} hk=>by
 refine cd ⟨2,5,t2⟩ ?_;refine pd bw ?_;refine pd (v:=.kt [.int na,.int sa]) (S':=S) ?_ ?_
 ·delta pr;dsimp only[fO];rw[h1]
 refine pv (.tup [.int na,.int sa]) ?_;refine pd (v:=.bl true) (S':=S) (by show Res.ok (.bl (!(decide ((i:Int)=sa)))) S=_;rw[xCn (by lia)];rfl) ?_;exact bT hk⟩
theorem nk{k:Str}{r:List U}{nn:List Str}(h1:getF k cO=some (.kt [.int na,.int sa]))(h2:(.str k::r:List U)[na]?=some (.tup (nn.map .str))):TT (.str k::r) sa nn:=⟨λ{fw d S x K} hk=>by
 refine cd ⟨2,5,t2⟩ ?_;refine pd bw ?_;refine pd (v:=.kt [.int na,.int sa]) (S':=S) ?_ ?_
 ·delta pr;dsimp only[fO];rw[h1]
 refine pv (.tup [.int na,.int sa]) ?_;refine pd (v:=.bl false) (S':=S) (by show Res.ok (.bl (!(decide ((sa:Int)=sa)))) S=_;rw[xBd rfl];rfl) ?_;refine bF ?_;refine pd (bz h2) ?_;refine pv (.bl true) ?_;exact bT hk⟩
theorem nr{k:Str}{r:List U}(h1:getF k cO=some (.kt [.int na,.int sa]))(h2:(.str k::r:List U)[na]?=some (.str y)):TT (.str k::r) sa [y]:=⟨λ{fw d S x K} hk=>by
 refine cd ⟨2,5,t2⟩ ?_;refine pd bw ?_;refine pd (v:=.kt [.int na,.int sa]) (S':=S) ?_ ?_
 ·delta pr;dsimp only[fO];rw[h1]
 refine pv (.tup [.int na,.int sa]) ?_;refine pd (v:=.bl false) (S':=S) (by show Res.ok (.bl (!(decide ((sa:Int)=sa)))) S=_;rw[xBd rfl];rfl) ?_;refine bF ?_;refine pd (bz h2) ?_;refine pv (.bl false) ?_;exact bF hk⟩
theorem kS{k:Str}{v:U}(h:getF k cg=some v)(hk:K v S):(Gd fw (d+1)).call 1 [.str k] S x K:=by
 refine cd ⟨1,1,t1⟩ ?_;refine pv (.bl true) (bT ?_);refine pd (v:=v) (S':=S) (by show opt (getF k cg) S=_;rw[h];rfl) ?_;exact hk
end
abbrev Fd:=List (List Key×U)
structure FSc(u:U)(kvs:List (Key×U))(f f':Fd)(lv:Nat):Prop where
 h:∀{fw d g q:Nat}{S:So}{x:Kx Prop}{K:Kv Prop},at? S g=some (.dct kvs)->at? S q=some (.dtt f)->(∀S',at? S' q=some (.dtt f')->Pc q S S'->K .non S')->(Gd fw (d+lv)).call 18 [u,.ref g,.ref q] S x K
inductive FScs(kvs:List (Key×U))(lv:Nat):List U->Fd->Fd->Prop
 |nil {f:Fd}:FScs kvs lv [] f f
 |cons {u:U} {r:List U} {f f1 f2:Fd} (h:FSc u kvs f f1 lv) (t:FScs kvs lv r f1 f2):FScs kvs lv (u::r) f f2
def toldB(nn:List Str)(pl:Int):List (Str×U):=nn.map λy=>(y,.int pl)
inductive FIt(vs:List U)(pl:Int)(kvs:List (Key×U))(lv:Nat):Nat->List Str->Fd->Fd->Prop
 |nil {i:Nat} {f:Fd}:FIt vs pl kvs lv i [] f f
 |skip {i:Nat} {s:Str} {ss:List Str} {f f':Fd} (t:TT vs i []) (r:FIt vs pl kvs lv (i+1) ss f f') (h1:s≠"part":=by decide) (h2:s≠"parts":=by decide):FIt vs pl kvs lv i (s::ss) f f'
 |part {i:Nat} {ss nn:List Str} {u:U} {f f1 f':Fd} (v:vs[i]?=some u) (t:TT vs i nn) (hn:nn.length<=4) (c:FSc u (pus kvs (toldB nn pl)) f f1 lv) (r:FIt vs pl kvs lv (i+1) ss f1 f'):FIt vs pl kvs lv i ("part"::ss) f f'
 |parts {i:Nat} {ss:List Str} {us:List U} {f f1 f':Fd} (v:vs[i]?=some (.tup us)) (t:TT vs i []) (c:FScs kvs lv us f f1) (r:FIt vs pl kvs lv (i+1) ss f1 f'):FIt vs pl kvs lv i ("parts"::ss) f f'
section
variable{fw d g q n lv:Nat}{vs:List U}{pl:Int}{kvs:List (Key×U)}{E:Ee Prop}{kk:Sg->So->Prop}
theorem jT(hv:vs[1]?=some (.int pl)):∀{nn:List Str}{kvs:List (Key×U)}{S:So}{a1 a2 a3 a4 a6 a7:Option U},kvs.length+nn.length<=1000->at? S n=some (.dct kvs)->(∀S' a6,at? S' n=some (.dct (pus kvs (toldB nn pl)))->Pc n S S'->kk [some (.tup vs),a1,a2,a3,a4,some (.ref n),a6,a7] S')->forK (nn.map U.str) (λw σ1 S2 nx=>tgt [6] true (Gd fw d) w σ1 λσ2=>bdT (Gd fw d) σ2 S2 (lpE E nx)) [some (.tup vs),a1,a2,a3,a4,some (.ref n),a6,a7] S kk
 |[],kvs,S,a1,a2,a3,a4,a6,a7,_,h,hk=>hk S a6 h Pc.refl
 |y::nn,kvs,S,a1,a2,a3,a4,a6,a7,hl,h,hk=>by
  rw[xAo] at hl;have:=gJ (k:=(Sum.inr y:Key)) (v:=.int pl) (kvs:=kvs);rw[xBs,forK];refine pd (bz hv) ?_;refine pd (fh h (by show _<=2^24;lia)) ?_;refine jT hv (nn:=nn) (kvs:=putK (.inr y) (.int pl) kvs) (by lia) (atSet h) λS' a6 h' p'=>?_;exact hk S' a6 h' ⟨by have:=p'.len;rw[lenSet] at this;exact this,λn1 z=>p'.ky n1 (atN (Ne.symm n1) z)⟩
theorem oK:∀{us:List U}{f f':Fd},FScs kvs lv us f f'->∀{S:So}{a7:Option U},at? S n=some (.dct kvs)->at? S q=some (.dtt f)->(∀S' a7,at? S' q=some (.dtt f')->Pc q S S'->kk [a0,a1,some (.ref q),a3,a4,some (.ref n),a6,a7] S')->forK us (λw σ1 S2 nx=>tgt [7] true (Gd fw (d+lv)) w σ1 λσ2=>bdP (Gd fw (d+lv)) σ2 S2 (lpE E nx)) [a0,a1,some (.ref q),a3,a4,some (.ref n),a6,a7] S kk:=by
 intro us f f' c;induction c with
 |nil=>intro S a7 h1 h2 hk;exact hk S a7 h2 Pc.refl
 |cons c t ih=>
  intro S a7 h1 h2 hk;rw[forK];have ne:n≠q:=λe=>by rw[e,h2] at h1;cases h1
  refine c.h h1 h2 λS1 g1 p1=>?_;exact ih (p1.ky ne h1) g1 λS2 a7 g2 p2=>hk S2 a7 g2 (p1.trans p2)
theorem pG{ss:List Str}{i:Nat}{f:Fd}(hv:vs[1]?=some (.int pl))(hk:kvs.length<=900)(I:FIt vs pl kvs (lv+1) i ss f f'):∀{S:So}{a3 a4 a5 a6 a7:Option U},at? S g=some (.dct kvs)->at? S q=some (.dtt f)->(∀S' a3 a4 a5 a6 a7,at? S' q=some (.dtt f')->Pc q S S'->kk [some (.tup vs),some (.ref g),some (.ref q),a3,a4,a5,a6,a7] S')->forK (enmU (i:Int) (ss.map U.str)) (λw σ1 S2 nx=>tgt [3,4] false (Gd fw (d+(lv+1))) w σ1 λσ2=>bd18 (Gd fw (d+(lv+1))) σ2 S2 (lpE E nx)) [some (.tup vs),some (.ref g),some (.ref q),a3,a4,a5,a6,a7] S kk:=by
 induction I with
 |nil=>intro S a3 a4 a5 a6 a7 h1 h2 h;exact h S a3 a4 a5 a6 a7 h2 Pc.refl
 |@skip i s ss f f' t r e1 e2 ih=>
  intro S a3 a4 a5 a6 a7 h1 h2 h;rw[xBs,enmU,forK];have ne:g≠q:=λe=>by rw[e,h2] at h1;cases h1
  refine pd (dD h1) ?_;refine t.h (d:=d+lv) ?_;refine pv (.tup []) (pd (cf e1) (bF (pd (cf e2) (bF ?_))));refine ih (atApp h1) (atApp h2) λS' a3 a4 a5 a6 a7 h' p'=>?_;exact h S' a3 a4 a5 a6 a7 h' (Pc.app.trans p')
 |@part i ss nn u f f1 f' v t hn c r ih=>
  intro S a3 a4 a5 a6 a7 h1 h2 h;rw[xBs,enmU,forK];have ne:g≠q:=λe=>by rw[e,h2] at h1;cases h1
  have lq:=atLt h2;refine pd (dD h1) ?_;refine t.h (d:=d+lv) ?_;refine pv (.tup (nn.map .str)) ?_;refine jT hv (by lia) (atNew (l:=S)) λS1 a6 n1 p1=>?_;refine pd (cw rfl) (bT ?_);refine pd (bz v) ?_;refine c.h n1 (p1.ky (by lia) (atApp h2)) λS2 q2 p2=>?_;have lg:=atLt h1;refine ih (p2.ky ne (p1.ky (by lia) (atApp h1))) q2 λS' a3 a4 a5 a6 a7 h' p'=>?_;refine h S' a3 a4 a5 a6 a7 h' ⟨?_,λnq z=>p'.ky nq (p2.ky nq (p1.ky (by have:=atLt z;lia) (atApp z)))⟩;have:=p1.len;rw[xAb] at this;have:=p2.len;have:=p'.len;lia
 |@parts i ss us f f1 f' v t c r ih=>
  intro S a3 a4 a5 a6 a7 h1 h2 h;rw[xBs,enmU,forK];have ne:g≠q:=λe=>by rw[e,h2] at h1;cases h1
  refine pd (dD h1) ?_;refine t.h (d:=d+lv) ?_;refine pv (.tup []) (pd (cf (by decide)) (bF (pd (cw rfl) (bT ?_))));refine pd (bz v) ?_;refine pv (.tup us) ?_;refine oK c (atNew (l:=S)) (atApp h2) λS2 a7 q2 p2=>?_;refine ih (p2.ky ne (atApp h1)) q2 λS' a3 a4 a5 a6 a7 h' p'=>?_;exact h S' a3 a4 a5 a6 a7 h' ((Pc.app.trans p2).trans p')
theorem c8{k:Str}{ss:List Str}{r:List U}{f:Fd}(I:FIt (.str k::.int pl::r) pl kvs (lv+1) 2 ss f f')(hk:kvs.length<=900)(hf:getF k cg=some (.kt (ss.map .str)):=by rfl)(hs:k≠"set":=by decide):FSc (.tup (.str k::.int pl::r)) kvs f f' (lv+2):=⟨λ{fw d g q S x K} h1 h2 h=>by
 refine cd (d:=d+(lv+1)) ⟨3,8,t18⟩ ?_;refine pd bw (pd (cf hs) (bF (pd bw ?_)));refine kS (d:=d+lv) hf ?_;refine pv (.tup (enmU 2 (ss.map .str))) ?_;refine pG (vs:=.str k::.int pl::r) rfl hk I h1 h2 λS' a3 a4 a5 a6 a7 h' p'=>?_;exact h S' h' p'⟩
theorem vY{u:U}{b:Int}{f:Fd}(hb:getK (.inr y) kvs=some (.int b))(c:FSc u kvs (putK [.inl b,.inr y] (.bl true) f) f' (lv+1))(hk:kvs.length<=900)(hf:f.length<=1000):FSc (.tup [.str "set",.int pl,.str y,u]) kvs f f' (lv+2):=⟨λ{fw d g q S x K} h1 h2 h=>by
 have ne:g≠q:=λe=>by rw[e,h2] at h1;cases h1
 refine cd (d:=d+(lv+1)) ⟨3,8,t18⟩ ?_;refine pd bw (pd (cw rfl) (bT ?_));refine pd (bz (j:=2) rfl) ?_;refine pd (cG h1 hb) ?_;refine pd (bz (j:=2) rfl) ?_;refine pd (v:=.non) (S':=set S q (.dtt (putK [.inl b,.inr y] (.bl true) f))) ?_ ?_
 ·show setiU q (.tup [.int b,.str y]) (.bl true) S=_;unfold setiU;rw[h2];exact fitsO (by show _<=2^24;lia)
 refine pd bw ?_;refine kS (v:=.kt [.str "used",.str "part"]) (d:=d+lv) rfl ?_;refine pv (.tup (enmU 2 [.str "used",.str "part"])) ?_;refine pG (ss:=["used","part"]) (i:=2) (vs:=[.str "set",.int pl,.str y,u]) (pl:=pl) rfl hk (.skip cm (.part (nn:=[]) rfl cm (by decide) c .nil)) (atN (Ne.symm ne) h1) (atSet h2) λS' a3 a4 a5 a6 a7 h' p'=>?_;exact h S' h' ⟨by have:=p'.len;rw[lenSet] at this;exact this,λn1 z=>p'.ky n1 (atN (Ne.symm n1) z)⟩⟩
end
def up(β:Str->Int)(xs:List Str)(pl:Int):Str->Int:=λy=>if y∈xs then pl else β y
mutual
def Pg.sts:Pg->(Str->Int)->List (Int×Str)
 |.num _ _,_=>[]
 |.nam _ _,_=>[]
 |.fn pl xs b,β=>b.sts (up β xs pl)
 |.call _ f as,β=>f.sts β++Pg.stss as β
 |.lt pl x a b,β=>a.sts β++b.sts (up β [x] pl)
 |.st _ x a,β=>(β x,x)::a.sts β
 |.dd _ a b,β=>a.sts β++b.sts β
 |.iff _ a b c,β=>a.sts β++(b.sts β++c.sts β)
 |.math _ _ a b,β=>a.sts β++b.sts β
 |.make _ _ as,β=>Pg.stss as β
 |.mat pl a _ xs b c,β=>a.sts β++(b.sts (up β xs pl)++c.sts β)
 |.rai _ _ a,β=>a.sts β
 |.try_ pl a _ x b,β=>a.sts β++b.sts (up β [x] pl)
 |.tell _ a,β=>a.sts β
 |.ask _,_=>[]
def Pg.stss:List Pg->(Str->Int)->List (Int×Str)
 |[],_=>[]
 |a::r,β=>a.sts β++Pg.stss r β
end
def Sf(β:Str->Int)(sc:List Str)(kvs:List (Key×U)):Prop:=∀y∈sc,getK (.inr y) kvs=some (.int (β y))
theorem io{pl:Int}{xs:List Str}:(toldB xs pl).map (·.1)=xs:=by
 unfold toldB;rw[List.map_map];exact List.map_id' xs
theorem Sf.up{β:Str->Int}{sc xs:List Str}{kvs:List (Key×U)}{pl:Int}(h:Sf β sc kvs)(hn:xs.Nodup):Sf (up β xs pl) (sc++xs) (pus kvs (toldB xs pl)):=λy hy=>by
 unfold K22.up;by_cases hx:y∈xs
 ·rw[xCg hx,gF (bs:=toldB xs pl) (u:=.int pl) (by rw[io];exact hn) (xA2.mpr ⟨y,hx,rfl⟩)]
 ·rw[xCf hx,fF (by rw[io];exact hx)];exact h y ((xAj.mp hy).resolve_right hx)
structure FR(l:List (Int×Str))(n:Nat)(f f':Fd):Prop where
 mo:∀k,(getK k f).isSome=true->(getK k f').isSome=true
 ins:∀b∈l,(getK [.inl b.1,.inr b.2] f').isSome=true
 len:f'.length<=f.length+n
theorem FR.nil{n:Nat}{f:Fd}:FR [] n f f:=⟨λ_ z=>z,λ_ z=>(nomatch z),by lia⟩
theorem FR.app{l l':List (Int×Str)}{n:Nat}{f f2:Fd}(a:FR l n f f1)(b:FR l' n' f1 f2):FR (l++l') (n+n') f f2:=
 ⟨λk z=>b.mo k (a.mo k z),λp z=>(xAj.mp z).elim (λh=>b.mo _ (a.ins p h)) (b.ins p),by have:=a.len;have:=b.len;lia⟩
theorem FR.up{l:List (Int×Str)}{n:Nat}{f:Fd}(a:FR l n f f1)(h:n<=n'):FR l n' f f1:=⟨a.mo,a.ins,by have:=a.len;lia⟩
def FP(sc:List Str)(d:Nat)(P:Pg):Prop:=∀{β:Str->Int}{kvs:List (Key×U)},Sf β sc kvs->kvs.length+5*d<=800->∀f:Fd,f.length+P.pls.length<=900->∃f',FR (P.sts β) P.pls.length f f'/\FSc P.u kvs f f' (d+2)
theorem jI{sc:List Str}{d:Nat}{β:Str->Int}{kvs:List (Key×U)}(hs:Sf β sc kvs)(hk:kvs.length+5*d<=800):∀{as:List Pg},(∀a∈as,FP sc d a)->∀f:Fd,f.length+(Pg.plss as).length<=900->∃f',FR (Pg.stss as β) (Pg.plss as).length f f'/\FScs kvs (d+2) (Pg.us as) f f'
 |[],_,f,_=>⟨f,.nil,.nil⟩
 |a::r,h,f,hf=>by
  have e:(Pg.plss (a::r)).length=a.pls.length+(Pg.plss r).length:=xAb;obtain⟨f1,r1,c1⟩:=h a (xAr ..) hs hk f (by lia);have:=r1.len;obtain⟨f2,r2,c2⟩:=jI hs hk (λb hb=>h b (xAs _ hb)) f1 (by lia);exact⟨f2,by rw[e];exact r1.app r2,.cons c1 c2⟩
theorem lL{xs:List Str}{pl:Int}:(toldB xs pl).length=xs.length:=xAa ..
theorem gE{xs:List Str}{pl:Int}{kvs:List (Key×U)}(h:kvs.length+5*(d+1)<=800)(h4:xs.length<=4):(pus kvs (toldB xs pl)).length+5*d<=800:=by
 have:=ef (bs:=toldB xs pl) (kvs:=kvs);rw[lL] at this;lia
theorem vZ{sc:List Str}{P:Pg}(h:Wf N sc d P):FP sc d P:=by
 induction h with
 |@num sc d pl n h1 h2=>intro β kvs hs hk f hf;exact⟨f,.nil,c8 (ss:=["number"]) (lv:=d) (.skip cm .nil) (by lia)⟩
 |@nam sc d pl x h=>intro β kvs hs hk f hf;exact⟨f,.nil,c8 (ss:=["used"]) (lv:=d) (.skip cm .nil) (by lia)⟩
 |@fn sc xs d pl b h hb ib=>
  intro β kvs hs hk f hf;have hf:f.length+(b.pls.length+1)<=900:=hf;obtain⟨f',r,c⟩:=ib (hs.up (pl:=pl) h.nd) (gE hk h.few) f (by lia);exact⟨f',r.up (by show _<=b.pls.length+1;lia),c8 (ss:=["names","part"]) (lv:=d+1) (.skip (im (na:=2) (sa:=3) rfl (by decide)) (.part (nn:=xs) rfl (nk (na:=2) rfl rfl) h.few c .nil)) (by lia)⟩
 |@call sc d pl u as hf' h h4 i1 i2=>
  intro β kvs hs hk f hf;have e:(Pg.call pl u as).pls.length=u.pls.length+(Pg.plss as).length+1:=by show(u.pls++Pg.plss as).length+1=_;rw[xAb]
  obtain⟨f1,r1,c1⟩:=i1 hs (by lia) f (by lia);have:=r1.len;obtain⟨f2,r2,c2⟩:=jI (d:=d) hs (by lia) i2 f1 (by lia);exact⟨f2,(r1.app r2).up (by lia),c8 (ss:=["part","parts"]) (lv:=d+1) (.part (nn:=[]) rfl cm (by decide) c1 (.parts rfl cm c2 .nil)) (by lia)⟩
 |@lt sc d pl x a b hx ha hb i1 i2=>
  intro β kvs hs hk f hf;have e:(Pg.lt pl x a b).pls.length=a.pls.length+b.pls.length+1:=by show(a.pls++b.pls).length+1=_;rw[xAb]
  obtain⟨f1,r1,c1⟩:=i1 hs (by lia) f (by lia);have:=r1.len;obtain⟨f2,r2,c2⟩:=i2 (hs.up (xs:=[x]) (pl:=pl) (by simp)) (gE hk (by simp)) f1 (by lia);exact⟨f2,(r1.app r2).up (by lia),c8 (ss:=["name","part","part"]) (lv:=d+1) (.skip (im (na:=2) (sa:=4) rfl (by decide)) (.part (nn:=[]) rfl (im (na:=2) (sa:=4) rfl (by decide)) (by decide) c1 (.part (nn:=[x]) rfl (nr (na:=2) rfl rfl) (by simp) c2 .nil))) (by lia)⟩
 |@st sc d pl x a hx ha i1=>
  intro β kvs hs hk f hf;have hf:f.length+(a.pls.length+1)<=900:=hf;have pk:=gJ (k:=([.inl (β x),.inr x]:List Key)) (v:=.bl true) (kvs:=f);obtain⟨f1,r1,c1⟩:=i1 hs (by lia) (putK [.inl (β x),.inr x] (.bl true) f) (by lia);have ml:∀k,(getK k f).isSome=true->(getK k (putK [.inl (β x),.inr x] (.bl true) f)).isSome=true:=λk hk'=>by
   by_cases hkk:k=[.inl (β x),.inr x]
   ·rw[hkk,jG];rfl
   ·rw[tU hkk];exact hk'
  refine⟨f1,⟨λk z=>r1.mo k (ml k z),λb hb=>?_,by have:=r1.len;show _<=f.length+(a.pls.length+1);lia⟩,vY (hs x hx) c1 (by lia) (by lia)⟩;rcases xAv.mp hb with rfl|hb
  ·exact r1.mo _ (by rw[jG];rfl)
  ·exact r1.ins b hb
 |@dd sc d pl a b ha hb i1 i2=>
  intro β kvs hs hk f hf;have e:(Pg.dd pl a b).pls.length=a.pls.length+b.pls.length+1:=by show(a.pls++b.pls).length+1=_;rw[xAb]
  obtain⟨f1,r1,c1⟩:=i1 hs (by lia) f (by lia);have:=r1.len;obtain⟨f2,r2,c2⟩:=i2 hs (by lia) f1 (by lia);exact⟨f2,(r1.app r2).up (by lia),c8 (ss:=["part","part"]) (lv:=d+1) (.part (nn:=[]) rfl cm (by decide) c1 (.part (nn:=[]) rfl cm (by decide) c2 .nil)) (by lia)⟩
 |@iff sc d pl a b c ha hb hc i1 i2 i3=>
  intro β kvs hs hk f hf;have e:(Pg.iff pl a b c).pls.length=a.pls.length+(b.pls.length+c.pls.length)+1:=by show(a.pls++(b.pls++c.pls)).length+1=_;rw[xAb,xAb]
  obtain⟨f1,r1,c1⟩:=i1 hs (by lia) f (by lia);have:=r1.len;obtain⟨f2,r2,c2⟩:=i2 hs (by lia) f1 (by lia);have:=r2.len;obtain⟨f3,r3,c3⟩:=i3 hs (by lia) f2 (by lia);exact⟨f3,(r1.app (r2.app r3)).up (by lia),c8 (ss:=["part","part","part"]) (lv:=d+1) (.part (nn:=[]) rfl cm (by decide) c1 (.part (nn:=[]) rfl cm (by decide) c2 (.part (nn:=[]) rfl cm (by decide) c3 .nil))) (by lia)⟩
 |@math sc d pl o a b ho ha hb i1 i2=>
  intro β kvs hs hk f hf;have e:(Pg.math pl o a b).pls.length=a.pls.length+b.pls.length+1:=by show(a.pls++b.pls).length+1=_;rw[xAb]
  obtain⟨f1,r1,c1⟩:=i1 hs (by lia) f (by lia);have:=r1.len;obtain⟨f2,r2,c2⟩:=i2 hs (by lia) f1 (by lia);exact⟨f2,(r1.app r2).up (by lia),c8 (ss:=["op","part","part"]) (lv:=d+1) (.skip cm (.part (nn:=[]) rfl cm (by decide) c1 (.part (nn:=[]) rfl cm (by decide) c2 .nil))) (by lia)⟩
 |@make sc d pl t as ht h h4 i2=>
  intro β kvs hs hk f hf;have hf:f.length+((Pg.plss as).length+1)<=900:=hf;obtain⟨f2,r2,c2⟩:=jI (d:=d) hs (by lia) i2 f (by lia);exact⟨f2,r2.up (by show _<=(Pg.plss as).length+1;lia),c8 (ss:=["word","parts"]) (lv:=d+1) (.skip cm (.parts rfl cm c2 .nil)) (by lia)⟩
 |@mat sc xs d pl t a b c ht hx ha hb hc i1 i2 i3=>
  intro β kvs hs hk f hf;have e:(Pg.mat pl a t xs b c).pls.length=a.pls.length+(b.pls.length+c.pls.length)+1:=by show(a.pls++(b.pls++c.pls)).length+1=_;rw[xAb,xAb]
  obtain⟨f1,r1,c1⟩:=i1 hs (by lia) f (by lia);have:=r1.len;obtain⟨f2,r2,c2⟩:=i2 (hs.up (pl:=pl) hx.nd) (gE hk hx.few) f1 (by lia);have:=r2.len;obtain⟨f3,r3,c3⟩:=i3 hs (by lia) f2 (by lia);have ta:∀{i:Nat}{r:List U},i≠5->TT (.str "match"::r) i []:=λh=>im (na:=4) (sa:=5) rfl h;exact⟨f3,(r1.app (r2.app r3)).up (by lia),c8 (ss:=["part","word","names","part","part"]) (lv:=d+1) (.part (nn:=[]) rfl (ta (by decide)) (by decide) c1 (.skip (ta (by decide)) (.skip (ta (by decide)) (.part (nn:=xs) rfl (nk (na:=4) rfl rfl) hx.few c2 (.part (nn:=[]) rfl (ta (by decide)) (by decide) c3 .nil))))) (by lia)⟩
 |@rai sc d pl w a hw ha i1=>
  intro β kvs hs hk f hf;have hf:f.length+(a.pls.length+1)<=900:=hf;obtain⟨f1,r1,c1⟩:=i1 hs (by lia) f (by lia);exact⟨f1,r1.up (by show _<=a.pls.length+1;lia),c8 (ss:=["word","part"]) (lv:=d+1) (.skip cm (.part (nn:=[]) rfl cm (by decide) c1 .nil)) (by lia)⟩
 |@try_ sc d pl w x a b hw hx ha hb i1 i2=>
  intro β kvs hs hk f hf;have e:(Pg.try_ pl a w x b).pls.length=a.pls.length+b.pls.length+1:=by show(a.pls++b.pls).length+1=_;rw[xAb]
  obtain⟨f1,r1,c1⟩:=i1 hs (by lia) f (by lia);have:=r1.len;obtain⟨f2,r2,c2⟩:=i2 (hs.up (xs:=[x]) (pl:=pl) (by simp)) (gE hk (by simp)) f1 (by lia);have ta:∀{i:Nat}{r:List U},i≠5->TT (.str "try"::r) i []:=λh=>im (na:=4) (sa:=5) rfl h;exact⟨f2,(r1.app r2).up (by lia),c8 (ss:=["part","word","name","part"]) (lv:=d+1) (.part (nn:=[]) rfl (ta (by decide)) (by decide) c1 (.skip (ta (by decide)) (.skip (ta (by decide)) (.part (nn:=[x]) rfl (nr (na:=4) rfl rfl) (by simp) c2 .nil)))) (by lia)⟩
 |@tell sc d pl a ha i1=>
  intro β kvs hs hk f hf;have hf:f.length+(a.pls.length+1)<=900:=hf;obtain⟨f1,r1,c1⟩:=i1 hs (by lia) f (by lia);exact⟨f1,r1.up (by show _<=a.pls.length+1;lia),c8 (ss:=["part"]) (lv:=d+1) (.part (nn:=[]) rfl cm (by decide) c1 .nil) (by lia)⟩
 |@ask sc d pl=>intro β kvs hs hk f hf;exact⟨f,.nil,c8 (ss:=[]) (lv:=d+1) .nil (by lia)⟩
structure Sets(P:Pg)(f:Fd):Prop where
 h:∀{fw d:Nat}{S:So}{x:Kx Prop}{K:Kv Prop},(∀S' q,Kp S S'->S.length<=q->at? S' q=some (.dtt f)->K (.ref q) S')->(Gd fw (d+20)).call 17 [P.u] S x K
theorem qG{P:Pg}(ok:PgOk P):∃f,(∀b∈P.sts (λ_=>0),(getK [.inl b.1,.inr b.2] f).isSome=true)/\Sets P f:=by
 have le:=ok.le;obtain⟨f,r,c⟩:=vZ ok.wf (β:=λ_=>0) (kvs:=[]) (λ_ z=>nomatch z) (by decide) [] (by show 0+_<=_;lia);refine⟨f,r.ins,⟨λ{fw d S x K} hk=>?_⟩⟩;refine cd (d:=d+19) ⟨1,2,t17⟩ ?_;refine pd (v:=.ref S.length) (S':=S++[.dtt []]) (by rfl) ?_;have q0:at? (S++[Ob.dtt []]) S.length=some (.dtt []):=atNew;have k0:Kp S (S++[Ob.dtt []]):=⟨by simp,λz=>atApp z⟩
 have l0:(S++[Ob.dtt []]).length=S.length+1:=by simp
 generalize S++[Ob.dtt []]=T at q0 k0 l0;refine pd (v:=.ref T.length) (S':=T++[.dct []]) (by rfl) ?_;refine c.h (d:=d+3) (g:=T.length) atNew (atApp q0) λS' g' p'=>?_;refine hk S' S.length ⟨by have:=p'.len;rw[xAb] at this;lia,λ{q o} z=>p'.ky (by have:=atLt z;lia) (atApp (k0.ky z))⟩ (xAg _) g'
section
variable{fw d:Nat}{S:So}{x:Kx Prop}{K:Kv Prop}{th ps:List Nat}
theorem eQ{i:Int}(hk:K (.bl true) S):(Gd fw (d+1)).call 44 [.int i] S x K:=by
 refine cd ⟨1,1,t44⟩ ?_;walk_at"w"
 exact hk
def nu(l:List Nat):List U:=l.map λi:Nat=>.int (i:Int)
inductive AtR(th:List Nat):U->Prop
 |num {i:Int}:AtR th (.tup [.str "number",.int i])
 |nam {k:Nat} (h:k∈th):AtR th (.tup [.str "name",.int (k:Int)])
theorem AtR.sub{a:U}(h:AtR th a)(s:∀k∈th,k∈th'):AtR th' a:=by
 cases h with
 |num=>exact .num
 |nam h=>exact .nam (s _ h)
theorem pw{a:U}(h:AtR th a)(hk:K (.bl true) S):(Gd fw (d+2)).call 45 [a] S x K:=by
 cases h with
 |num=>
  refine cd ⟨1,1,t45⟩ ?_;walk_at"w"
  exact eQ hk
 |nam h=>
  refine cd ⟨1,1,t45⟩ ?_;walk_at"w"
  exact eQ hk
theorem kT:∀{l:List Nat},(nu l).all flatU=true
 |[]=>rfl
 |_::l=>by
  show(true&&(nu l).all flatU)=true;rw[kT];rfl
theorem qo{k:Nat}:∀{l:List Nat},k∈l->anyF (.int (k:Int)) (nu l)=true
 |y::l,h=>by
  show(((y:Int)==(k:Int))||anyF (.int (k:Int)) (nu l))=true;rcases xAv.mp h with rfl|h
  ·rw[show(((k:Int)==(k:Int)))=true from beq_self_eq_true _];rfl
  ·rw[qo h,Bool.or_true]
theorem tQ{k t:Nat}(ht:at? S t=some (.lst (nu th)))(h:k∈th):inU S (.int (k:Int)) (.ref t)=some true:=by
 unfold inU;dsimp only;rw[ht];dsimp only;rw[kT,qo h];rfl
theorem xk{k t:Nat}(ht:at? S t=some (.lst (nu th)))(h:k∈th):pr ups .inn [.int (k:Int),.ref t] S=.ok (.bl true) S:=by
 show obB (inU S (.int (k:Int)) (.ref t)) id S=_;rw[tQ ht h];rfl
theorem nV{k t:Nat}(ht:at? S t=some (.lst (nu th)))(h:k∈th):pr ups .nin [.int (k:Int),.ref t] S=.ok (.bl false) S:=by
 show obB (inU S (.int (k:Int)) (.ref t)) not S=_;rw[tQ ht h];rfl
def manyA:List (Key×U):=[(.inr "start",.int 4),(.inr "read",.int 3),(.inr "math",.int 6),(.inr "make",.int 5),(.inr "func",.int 5),(.inr "set",.int 5),(.inr "tell",.int 4),(.inr "ask",.int 3),(.inr "call",.int 6)]
def manyB:List (Key×U):=[(.inr "if",.int 6),(.inr "match",.int 8),(.inr "try",.int 7),(.inr "raise",.int 5)]
def many:List (Key×U):=manyA++manyB
theorem rZ:mrgK manyA manyB=many:=by rfl
theorem sg{k:Str}{to:Int}{r:List U}(h:getK (.inr k) many=some (.int ((r.length+2:Nat):Int)))(hk:∀S',Kp S S'->K (.bl true) S'):(Gd fw (d+2)).call 48 [.tup (.str k::.int to::r)] S x K:=by
 refine cd ⟨1,2,t48⟩ ?_;refine pd (v:=.ref S.length) (S':=S++[.dct manyA]) (by rfl) ?_;have a0:at? (S++[Ob.dct manyA]) S.length=some (.dct manyA):=atNew;have k0:Kp S (S++[Ob.dct manyA]):=⟨by simp,λz=>atApp z⟩
 have l0:(S++[Ob.dct manyA]).length=S.length+1:=by simp
 generalize S++[Ob.dct manyA]=T at a0 k0 l0;refine pd (v:=.ref S.length) (S':=T) ?_ ?_
 ·delta pr;dsimp only[tyU];rw[a0];rfl
 refine pd (v:=.ref T.length) (S':=T++[.dct manyB]) (by rfl) ?_;have b0:at? (T++[Ob.dct manyB]) T.length=some (.dct manyB):=atNew;have a1:at? (T++[Ob.dct manyB]) S.length=some (.dct manyA):=atApp a0;have k1:Kp S (T++[Ob.dct manyB]):=⟨by rw[xAb];have:=k0.len;lia,λz=>atApp (k0.ky z)⟩
 have tl:T.length=S.length+1:=l0;generalize T++[Ob.dct manyB]=T1 at b0 a1 k1;refine pd (v:=.non) (S':=set T1 S.length (.dct many)) ?_ ?_
 ·delta pr;dsimp only;rw[a1,b0];dsimp only;rw[xBd ⟨by lia,by decide⟩,rZ]
 have a2:at? (set T1 S.length (Ob.dct many)) S.length=some (.dct many):=atSet a1;have k2:Kp S (set T1 S.length (Ob.dct many)):=⟨by rw[lenSet];exact k1.len,λz=>atN (by have:=atLt z;lia) (k1.ky z)⟩
 generalize set T1 S.length (Ob.dct many)=T2 at a2 k2;refine pv (.bl true) (bF ?_);refine pd (v:=.int (r.length+2:Nat)) (S':=T2) (by rfl) ?_;refine pd (v:=.bl false) (S':=T2) (by show Res.ok (.bl (decide (((r.length+2:Nat):Int)=0))) T2=_;rw[xCn (by lia)]) ?_;refine bF (pd bw ?_);refine pd (v:=.bl false) (S':=T2) ?_ ?_
 ·show obB (inU T2 (.str k) (.ref S.length)) not T2=_;unfold inU;dsimp only;rw[a2];show obB (some (getK (.inr k) many).isSome) not T2=_;rw[h];rfl
 refine bF ?_;refine pd (v:=.int (r.length+2:Nat)) (S':=T2) (by rfl) ?_;refine pd bw (pd (cG a2 h) ?_);refine pd (v:=.bl true) (S':=T2) (by show Res.ok (.bl (decide (((r.length+2:Nat):Int)=((r.length+2:Nat):Int)))) T2=_;rw[xBd rfl]) ?_;refine bT (pd cx ?_);refine eQ ?_;exact hk _ k2
inductive Flt:Nat->U->Prop
 |int {n:Nat} {i:Int}:Flt n (.int i)
 |str {n:Nat} {x:Str}:Flt n (.str x)
 |bl {n:Nat} {b:Bool}:Flt n (.bl b)
 |tup {n:Nat} {xs:List U} (h:∀z∈xs,Flt n z):Flt (n+1) (.tup xs)
theorem Flt.up{n:Nat}{u:U}(h:Flt n u)(l:n<=m):Flt m u:=by
 induction h generalizing m with
 |int=>exact .int
 |str=>exact .str
 |bl=>exact .bl
 |tup h ih=>
  obtain⟨k,rfl⟩:∃k,m=k+1:=⟨m-1,by lia⟩
  exact .tup λz hz=>ih z hz (by lia)
theorem Flt.nil:∀z∈([]:List U),Flt m z:=λ_ z=>nomatch z
theorem Flt.cons{u:U}{r:List U}(h:Flt m u)(t:∀z∈r,Flt m z):∀z∈u::r,Flt m z:=λz hz=>(xAv.mp hz).elim (λe=>by rw[e];exact h) (t z)
theorem fC{q:U->U->Bool}:∀{xs:List U},(∀z∈xs,q z z=true)->zipAll q xs xs=true
 |[],_=>rfl
 |z::xs,h=>by
  show(q z z&&zipAll q xs xs)=true;rw[h z (xAr ..),fC λy hy=>h y (xAs _ hy)];rfl
theorem iw{n:Nat}{u:U}(h:Flt n u):same S n u u=true:=by
 induction h with
 |@int n i=>
  cases n <;> (unfold same;simp[lsT,flatU,eqS,sc,Sc.eq])
 |@str n x=>
  cases n <;> (unfold same;simp[lsT,flatU,eqS,sc,Sc.eq])
 |@bl n b=>
  cases n <;> (unfold same;simp[lsT,flatU,eqS,sc,Sc.eq])
 |tup h ih=>
  unfold same;exact fC ih
theorem AtR.flt{th:List Nat}{a:U}(h:AtR th a)(l:1<=m):Flt m a:=by
 obtain⟨k,rfl⟩:∃k,m=k+1:=⟨m-1,by lia⟩
 cases h with
 |num=>exact .tup (.cons .str (.cons .int .nil))
 |nam h=>exact .tup (.cons .str (.cons .int .nil))
theorem oY{l:List Nat}(h:1<=m):Flt m (.tup (nu l)):=by
 obtain⟨k,rfl⟩:∃k,m=k+1:=⟨m-1,by lia⟩
 refine .tup λz hz=>?_;unfold nu at hz;obtain⟨i,_,rfl⟩:=xA2.mp hz;exact .int
theorem ql{th:List Nat}(ha:∀z∈as,AtR th z)(h:2<=m):Flt m (.tup as):=by
 obtain⟨k,rfl⟩:∃k,m=k+1:=⟨m-1,by lia⟩
 exact .tup λz hz=>(ha z hz).flt (by lia)
end
structure Pd(r s:Nat)(S S':So):Prop where
 len:S.length<=S'.length
 ky:∀{q:Nat}{o:Ob},q≠r->q≠s->at? S q=some o->at? S' q=some o
structure Wk(w pp gg:Nat)(W:List Int)(n:Nat)(S:So):Prop where
 di:at? S w=some (.dct [(.inr "places",.ref pp),(.inr "given",.ref gg)])
 pl:at? S pp=some (.lst (W.map .int))
 gi:at? S gg=some (.lst (nu (List.range n)))
section
variable{W:List Int}{w pp gg t n m to lv:Nat}{th th':List Nat}{S S':So}{u a b:U}
theorem Wk.kp(h:Wk w pp gg W n S)(k:Kp S S'):Wk w pp gg W n S':=⟨k.ky h.di,k.ky h.pl,k.ky h.gi⟩
theorem Wk.ne(h:Wk w pp gg W n S):w≠gg/\w≠pp:=⟨λe=>by(have a:=h.di;rw[e,h.gi] at a;cases a),λe=>by(have a:=h.di;rw[e,h.pl] at a;cases a)⟩
structure StR(W:List Int)(th:List Nat)(n:Nat)(u:U)(to lv:Nat):Prop where
 ex:∃k r,u=.tup (.str k::.int (to:Int)::r)
 le:n<=to
 fl:Flt (2*lv) u
 h:∀{fw d t w pp gg:Nat}{S:So}{x:Kx Prop}{K:Kv Prop},Wk w pp gg W n S->at? S t=some (.lst (nu th))->t≠gg->pp≠gg->(∀S',Wk w pp gg W (to+1) S'->Pc gg S S'->K (.bl true) S')->(Gd fw (d+lv)).call 51 [u,.ref t,.ref w] S x K
structure BoR(W:List Int)(th:List Nat)(n:Nat)(b:U)(n' lv:Nat):Prop where
 le:n<=n'
 fl:Flt (2*lv) b
 h:∀{fw d t w pp gg:Nat}{S:So}{x:Kx Prop}{K:Kv Prop},Wk w pp gg W n S->at? S t=some (.lst (nu th))->t≠gg->pp≠gg->(∀S',Wk w pp gg W n' S'->Pc gg S S'->K (.bl true) S')->(Gd fw (d+lv)).call 52 [b,.ref t,.ref w] S x K
theorem StR.up{lv':Nat}(s:StR W th n u to lv)(h:lv<=lv'):StR W th n u to lv':=⟨s.ex,s.le,s.fl.up (by lia),λ{fw d t w pp gg S x K} a b c e f=>by
 have:=s.h (fw:=fw) (d:=d+(lv'-lv)) (x:=x) a b c e f;rw[show d+(lv'-lv)+lv=d+lv' by lia] at this;exact this⟩
theorem BoR.up{n' lv':Nat}(s:BoR W th n b n' lv)(h:lv<=lv'):BoR W th n b n' lv':=⟨s.le,s.fl.up (by lia),λ{fw d t w pp gg S x K} a b c e f=>by
 have:=s.h (fw:=fw) (d:=d+(lv'-lv)) (x:=x) a b c e f;rw[show d+(lv'-lv)+lv=d+lv' by lia] at this;exact this⟩
inductive SR(W:List Int)(lv:Nat):List Nat->Nat->List U->List Nat->Nat->Prop
 |nil {th:List Nat} {n:Nat}:SR W lv th n [] th n
 |cons {th th':List Nat} {n n' to:Nat} {u:U} {r:List U} (h:StR W th n u to lv) (t:SR W lv (th++[to]) (to+1) r th' n'):SR W lv th n (u::r) th' n'
theorem SR.app{th th1 th2:List Nat}{n n1 n2:Nat}{us vs:List U}(a:SR W lv th n us th1 n1)(b:SR W lv th1 n1 vs th2 n2):SR W lv th n (us++vs) th2 n2:=by
 induction a with
 |nil=>exact b
 |cons h t ih=>exact .cons h (ih b)
theorem SR.le{th th':List Nat}{n n':Nat}{us:List U}(a:SR W lv th n us th' n'):n<=n':=by
 induction a with
 |nil=>exact xAg _
 |cons h t ih=>have:=h.le;lia
theorem SR.sub{th:List Nat}{n:Nat}{us:List U}(a:SR W lv th n us th' n'):∀k∈th,k∈th':=by
 induction a with
 |nil=>exact λ_ z=>z
 |cons h t ih=>exact λk z=>ih k (xBw _ z)
theorem SR.up{th th':List Nat}{n n' lv':Nat}{us:List U}(a:SR W lv th n us th' n')(h:lv<=lv'):SR W lv' th n us th' n':=by
 induction a with
 |nil=>exact .nil
 |cons s t ih=>exact .cons (s.up h) ih
theorem SR.fl{us:List U}{n':Nat}(a:SR W lv th n us th' n'):∀z∈us,Flt (2*lv) z:=by
 induction a with
 |nil=>exact λ_ z=>nomatch z
 |cons h t ih=>exact λz hz=>(xAv.mp hz).elim (λe=>by rw[e];exact h.fl) (ih z)
theorem nw{us:List U}(h:SR W lv th n us th' n'):∀{S:So}{a3:Option U},Wk w pp gg W n S->at? S t=some (.lst (nu th))->t≠gg->pp≠gg->t≠pp->th.length+us.length<=10000->(∀S' a3,Wk w pp gg W n' S'->at? S' t=some (.lst (nu th'))->Pd gg t S S'->kk [a0,some (.ref t),some (.ref w),a3] S')->forK us (λv σ1 S2 nx=>tgt [3] true (Gd fw (d+lv)) v σ1 λσ2=>bd52 (Gd fw (d+lv)) σ2 S2 (lpE E nx)) [a0,some (.ref t),some (.ref w),a3] S kk:=by
 induction h with
 |nil=>intro S a3 h1 h2 h3 h4 h5 _ hk;exact hk S a3 h1 h2 ⟨xAg _,λ_ _ z=>z⟩
 |@cons th th' n n' to u r s _ ih=>
  intro S a3 h1 h2 h3 h4 h5 hl hk;rw[xAo] at hl;rw[forK];refine s.h h1 h2 h3 h4 λS1 w1 p1=>?_;refine bF ?_;have t1:=p1.ky h3 h2;refine pd (cz t1) ?_;obtain⟨k,r,e⟩:=s.ex;rw[e];refine pd cx ?_;refine pd (db t1 (by show _<=2^24;unfold nu;rw[xAa];lia)) ?_;have tw:t≠w:=λz=>by rw[z,w1.di] at t1;cases t1
  refine ih ⟨atN tw w1.di,atN h5 w1.pl,atN h3 w1.gi⟩ (by unfold nu;rw[xAi];exact atSet t1) h3 h4 h5 (by rw[xAb,xAt];lia) λS' a3 w' t' p'=>?_;exact hk S' a3 w' t' ⟨by have:=p'.len;rw[lenSet] at this;have:=p1.len;lia,λn1 n2 z=>p'.ky n1 n2 (atN (Ne.symm n2) (p1.ky n1 z))⟩
theorem yJ{us:List U}(h:SR W lv th n us th' n')(ha:AtR th' a)(hl:th.length+us.length<=10000)(h2:2<=lv):BoR W th n (.tup [.tup us,a]) n' (lv+1):=⟨h.le,.tup (.cons (.tup h.fl) (.cons (ha.flt (by lia)) .nil)),λ{fw d t w pp gg S x K} w0 t0 tg pg hk=>by
 obtain⟨l,rfl⟩:∃l,lv=l+2:=⟨lv-2,by lia⟩
 refine cd (d:=d+(l+2)) ⟨3,4,t52⟩ ?_;refine pv (.bl true) (bF (pv (.int 2) (pv (.bl false) (bF (pd bw (pv (.bl true) (bF ?_)))))));refine pd (v:=.ref S.length) (S':=S++[.lst (nu th)]) ?_ ?_
 ·delta pr;dsimp only[sqU,lsU];rw[t0];rfl
 refine pd bw (pv (.tup us) ?_);have k0:Kp S (S++[Ob.lst (nu th)]):=⟨by simp,λz=>atApp z⟩
 have lg:=atLt w0.gi;have lp:=atLt w0.pl;refine nw h (w0.kp k0) (atNew (l:=S)) (by lia) pg (by lia) hl λS' a3 w' t' p'=>?_;have fin:K (.bl true) S':=hk S' w' ⟨by have:=p'.len;rw[xAb] at this;lia,λn1 z=>p'.ky n1 (by have:=atLt z;lia) (atApp z)⟩;refine pd cx ?_;refine pw (d:=d+l) ha ?_;refine bF (pd cx ?_);cases ha with
 |num=>
  exact pd bw (pd (cw rfl) (bT fin))
 |nam hm=>
  refine pd bw (pd (cf (by decide)) (bF (pd cx (pd cx ?_))));refine pd (xk t' hm) ?_;exact fin⟩
structure Wd1(W:List Int)(th:List Nat)(k:Str)(to:Nat)(r:List U)(as:List U)(bs:List (List Nat×U)):Prop where
 lg:getK (.inr k) many=some (.int ((r.length+2:Nat):Int))
 wr:∀{fw d:Nat}{S:So}{x:Kx Prop}{K:Kv Prop},K (.bl true) S->(Gd fw (d+2)).call 50 [.tup (.str k::.int (to:Int)::r)] S x K
 po:∃v,(v=.non\/∃pl∈W,v=.int pl)/\∀{fw d:Nat}{S:So}{x:Kx Prop}{K:Kv Prop},K v S->(Gd fw (d+1)).call 49 [.tup (.str k::.int (to:Int)::r)] S x K
 rs:anyF (.str k) [.str "read",.str "set"]=false\/∃(j:Nat) (r':List U),r=.int (j:Int)::r'/\j∈th
 al:∀{fw d:Nat}{S:So}{x:Kx Prop}{K:Kv Prop},K (.lst as) S->(Gd fw (d+1)).call 46 [.tup (.str k::.int (to:Int)::r)] S x K
 ao:∀a∈as,AtR th a
 fl:∀{m:Nat},(∀b∈bs,Flt m b.2)->2<=m->∀z∈r,Flt m z
 bl:∀{fw d:Nat}{S:So}{x:Kx Prop}{K:Kv Prop},K (.lst (bs.map λb=>.tup [.tup (nu b.1),b.2])) S->(Gd fw (d+1)).call 47 [.tup (.str k::.int (to:Int)::r)] S x K
inductive BR(W:List Int)(th:List Nat)(lv:Nat):Nat->List (List Nat×U)->Nat->Prop
 |nil {n:Nat}:BR W th lv n [] n
 |cons {n m n1 n':Nat} {b:U} {bs:List (List Nat×U)} (h:BoR W (th++List.range' n m) (n+m) b n1 lv) (hb:n+m<=10000) (t:BR W th lv n1 bs n'):BR W th lv n ((List.range' n m,b)::bs) n'
theorem BR.le{bs:List (List Nat×U)}{n':Nat}(a:BR W th lv n bs n'):n<=n':=by
 induction a with
 |nil=>exact xAg _
 |cons h _ t ih=>have:=h.le;lia
theorem BR.fl{bs:List (List Nat×U)}{n':Nat}(a:BR W th lv n bs n'):∀b∈bs,Flt (2*lv) b.2:=by
 induction a with
 |nil=>exact λ_ z=>nomatch z
 |cons h _ t ih=>exact λz hz=>(xAv.mp hz).elim (λe=>by rw[e];exact h.fl) (ih z)
theorem fY{fw d:Nat}{E:Ee Prop}{kk:Sg->So->Prop}{a0 a2 a3 a5 a6:Option U}(ht:at? S t=some (.lst (nu th))):∀{as:List U}{a4:Option U},(∀a∈as,AtR th a)->(∀a4,kk [a0,some (.ref t),a2,a3,a4,a5,a6] S)->forK as (λv σ1 S2 nx=>tgt [4] true (Gd fw (d+2)) v σ1 λσ2=>bdA (Gd fw (d+2)) σ2 S2 (lpE E nx)) [a0,some (.ref t),a2,a3,a4,a5,a6] S kk
 |[],a4,_,hk=>hk a4
 |a::as,a4,h,hk=>by
  have ha:=h a (xAr ..);rw[forK];refine pw ha ?_;refine bF ?_;cases ha with
  |num=>
   refine pd bw (pd (cf (by decide)) (bF (bF ?_)));exact fY ht (λa z=>h a (xAs _ z)) hk
  |nam hm=>
   refine pd bw (pd (cw rfl) (bT (pd cx ?_)));refine pd (nV ht hm) ?_;refine bF ?_;exact fY ht (λa z=>h a (xAs _ z)) hk
theorem uG:List.range n++List.range' n m=List.range (n+m):=by
 rw[List.range_eq_range',List.range_eq_range',<- List.range'_append];simp
theorem mZ{bs:List (List Nat×U)}(h:BR W th lv n bs n')(hl:th.length<=10000):∀{S:So}{a5 a6:Option U},Wk w pp gg W n S->at? S t=some (.lst (nu th))->t≠gg->pp≠gg->(∀S' a5 a6,Wk w pp gg W n' S'->Pc gg S S'->kk [a0,some (.ref t),some (.ref w),a3,a4,a5,a6] S')->forK (bs.map λb=>U.tup [.tup (nu b.1),b.2]) (λv σ1 S2 nx=>tgt [5,6] false (Gd fw (d+lv)) v σ1 λσ2=>bdB (Gd fw (d+lv)) σ2 S2 (lpE E nx)) [a0,some (.ref t),some (.ref w),a3,a4,a5,a6] S kk:=by
 induction h with
 |nil=>intro S a5 a6 w0 _ _ _ hk;exact hk S a5 a6 w0 Pc.refl
 |@cons n m n1 n' b bs h hb _ ih=>
  intro S a5 a6 w0 t0 tg pg hk;rw[xBs,forK];have lr:(nu (List.range' n m)).length=m:=by unfold nu;rw[xAa,List.length_range']
  have ln:(nu (List.range n)).length=n:=by unfold nu;rw[xAa,List.length_range]
  have lt:(nu th).length=th.length:=by unfold nu;rw[xAa]
  refine pv (.bl true) (bF ?_);refine pd (cG w0.di rfl) ?_;refine pd (cz w0.gi) ?_;refine pv (.lst (nu (List.range' n m))) ?_;refine pd (v:=.non) (S':=set S gg (.lst (nu (List.range (n+m))))) ?_ ?_
  ·delta pr;dsimp only[lstU,lsT];rw[w0.gi];dsimp only;rw[fitsO (by show _<=2^24;lia),<- uG];unfold nu;rw[xAi]
  have w1:Wk w pp gg W (n+m) (set S gg (.lst (nu (List.range (n+m))))):=⟨atN (Ne.symm w0.ne.1) w0.di,atN (Ne.symm pg) w0.pl,atSet w0.gi⟩
  have t1:at? (set S gg (.lst (nu (List.range (n+m))))) t=some (.lst (nu th)):=atN (Ne.symm tg) t0;have p1:Pc gg S (set S gg (.lst (nu (List.range (n+m))))):=⟨by rw[lenSet];exact xAg _,λn1 z=>atN (Ne.symm n1) z⟩
  generalize set S gg (Ob.lst (nu (List.range (n+m))))=S1 at w1 t1 p1;refine pv (.lst (nu (List.range' n m))) ?_;refine pd (v:=.ref S1.length) (S':=S1++[.lst (nu (th++List.range' n m))]) ?_ ?_
  ·delta pr;dsimp only[addU,lsT];rw[t1];dsimp only;rw[fitsO (by show _<=2^24;lia)];unfold nu;rw[xAi];rfl
  have k1:Kp S1 (S1++[Ob.lst (nu (th++List.range' n m))]):=⟨by simp,λz=>atApp z⟩
  have lg:=atLt w1.gi;refine h.h (w1.kp k1) (atNew (l:=S1)) (by lia) pg λS2 w2 p2=>?_;refine bF ?_;refine ih w2 (p2.ky tg (k1.ky t1)) tg pg λS' a5 a6 w' p'=>?_;exact hk S' a5 a6 w' (p1.trans ((⟨k1.len,λ_ z=>k1.ky z⟩:Pc gg S1 _).trans (p2.trans p')))
theorem lE{pl:Int}:∀{l:List Int},pl∈l->anyF (.int pl) (l.map U.int)=true
 |y::l,h=>by
  show((y==pl)||anyF (.int pl) (l.map U.int))=true;rcases xAv.mp h with rfl|h
  ·rw[beq_self_eq_true];rfl
  ·rw[lE h,Bool.or_true]
theorem iX:∀{l:List Int},(l.map U.int).all flatU=true
 |[]=>rfl
 |_::l=>by
  show(true&&(l.map U.int).all flatU)=true;rw[iX];rfl
theorem pA{pl:Int}{q:Nat}(h:at? S q=some (.lst (W.map .int)))(hp:pl∈W):inU S (.int pl) (.ref q)=some true:=by
 unfold inU;dsimp only;rw[h];dsimp only;rw[iX,lE hp];rfl
theorem wW{k:Str}{r:List U}{bs:List (List Nat×U)}(c:Wd1 W th k to r as bs)(h:BR W th lv n bs to)(hl:th.length<=10000)(h2:2<=lv)(hb:to<=10000):StR W th n (.tup (.str k::.int (to:Int)::r)) to (lv+1):=⟨⟨_,_,rfl⟩,h.le,(Flt.tup (.cons .str (.cons .int (c.fl h.fl (by lia))))).up (by lia),λ{fw d t w pp gg S x K} w0 t0 tg pg hk=>by
 obtain⟨l,rfl⟩:∃l,lv=l+2:=⟨lv-2,by lia⟩
 refine cd (d:=d+(l+2)) ⟨3,7,t51⟩ ?_;refine sg (d:=d+l) c.lg λS1 k1=>?_;refine bF ?_;refine c.wr (d:=d+l) ?_;refine bF ?_;obtain⟨v,hv,po⟩:=c.po;refine po (d:=d+(l+1)) ?_;have w1:=w0.kp k1;have t1:=k1.ky t0;have rest:(sQ rz7 (sQ (sF (J6 .seq (Jc 46 J0)) [4] true bdA) (sQ (sF (J6 .seq (Jc 47 J0)) [5,6] false bdB) (sQ (sE (cBM "list" .app (J4 J9 (J1 "given")) (Jr (J4 J0 Je)))) (J5 (cC (.bl true))))))) (Gd fw (d+(l+2))) [some (.tup (.str k::.int (to:Int)::r)),some (.ref t),some (.ref w),some v,none,none,none] S1 (endsOf x K):=by
  have more:(sQ (sF (J6 .seq (Jc 46 J0)) [4] true bdA) (sQ (sF (J6 .seq (Jc 47 J0)) [5,6] false bdB) (sQ (sE (cBM "list" .app (J4 J9 (J1 "given")) (Jr (J4 J0 Je)))) (J5 (cC (.bl true)))))) (Gd fw (d+(l+2))) [some (.tup (.str k::.int (to:Int)::r)),some (.ref t),some (.ref w),some v,none,none,none] S1 (endsOf x K):=by
   refine c.al (d:=d+(l+1)) ?_;refine pv (.tup as) ?_;refine fY t1 c.ao λa4=>?_;refine c.bl (d:=d+(l+1)) ?_;refine pv (.tup (bs.map λb=>.tup [.tup (nu b.1),b.2])) ?_;refine mZ h hl w1 t1 tg pg λS2 a5 a6 w2 p2=>?_;refine pd (cG w2.di rfl) ?_;refine pd (cz w2.gi) ?_;refine pd cx ?_;refine pd (db w2.gi (by show _<=2^24;unfold nu;rw[xAa,List.length_range];lia)) ?_;have e:nu (List.range to)++[.int (to:Int)]=nu (List.range (to+1)):=by unfold nu;rw[List.range_succ,xAi];rfl
   rw[e];refine hk _ ⟨atN (Ne.symm w2.ne.1) w2.di,atN (Ne.symm pg) w2.pl,atSet w2.gi⟩ ⟨by rw[lenSet];have:=k1.len;have:=p2.len;lia,λn1 z=>atN (Ne.symm n1) (p2.ky n1 (k1.ky z))⟩
  refine pd bw (pv (.lst [.str "read",.str "set"]) ?_);refine pd (v:=.bl (anyF (.str k) [.str "read",.str "set"])) (S':=S1) (by rfl) ?_;rcases c.rs with e|⟨j,r',e,hj⟩
  ·rw[e];exact bF (bF more)
  ·subst e;refine bI (λ_=>?_) λ_=>bF more;refine pd (bz (j:=2) rfl) ?_;refine pd (nV t1 hj) ?_;exact bF more
 rcases hv with rfl|⟨pl,hp,rfl⟩
 ·exact pv (.bl false) (bF (bF rest))
 ·refine pv (.bl true) (bT ?_);refine pd (cG w1.di rfl) ?_;refine pd (v:=.bl false) (S':=S1) (by show obB (inU S1 (.int pl) (.ref pp)) not S1=_;rw[pA w1.pl hp];rfl) ?_;exact bF rest⟩
end
local macro_rules | `(tactic| walk_at "50")=>`(tactic| (intro fw d S x K hk;refine cd ⟨1,2,t50⟩ ?_;walk_at "w";first | exact hk | exact eQ hk))
local macro_rules | `(tactic| walk_at "46")=>`(tactic| (intro fw d S x K hk;refine cd ⟨1,2,t46⟩ ?_;walk_at "w";exact hk))
local macro_rules | `(tactic| walk_at "47")=>`(tactic| (intro fw d S x K hk;refine cd ⟨1,2,t47⟩ ?_;walk_at "w";exact hk))
local macro_rules | `(tactic| walk_at "49")=>`(tactic| (refine⟨_,.inr ⟨_,‹_∈_›,rfl⟩,?_⟩;intro fw d S x K hk;refine cd ⟨1,1,t49⟩ ?_;walk_at "w";exact hk))
section
variable{W:List Int}{n m lv:Nat}{th:List Nat}{a b c:U}{pl:Int}{to:Nat}{wd:Str}
theorem kF:∀z∈([]:List U),AtR th z:=λ_ z=>nomatch z
theorem dW(h:AtR th a):∀z∈[a],AtR th z:=λz hz=>by rw[xAm.mp hz];exact h
theorem ug(hj:j∈th):Wd1 W th "read" to [.int j] [] []:=
 ⟨by rfl,by walk_at"50",⟨.non,.inl rfl,by intro fw d S x K hk;refine cd ⟨1,1,t49⟩ ?_;walk_at"w";exact hk⟩,.inr ⟨j,[],rfl,hj⟩,by walk_at"46",kF,λh1 h2=>.cons .int .nil,by walk_at"47"⟩
theorem qv(hp:pl∈W)(ha:AtR th a):Wd1 W th "start" to [a,.int pl] [a] []:=
 ⟨by rfl,by walk_at"50",by walk_at"49",.inl (by rfl),by walk_at"46",dW ha,λh1 h2=>.cons (ha.flt (by lia)) (.cons .int .nil),by walk_at"47"⟩
theorem uf(hp:pl∈W)(ha:AtR th a):Wd1 W th "tell" to [a,.int pl] [a] []:=
 ⟨by rfl,by walk_at"50",by walk_at"49",.inl (by rfl),by walk_at"46",dW ha,λh1 h2=>.cons (ha.flt (by lia)) (.cons .int .nil),by walk_at"47"⟩
theorem wO(hp:pl∈W):Wd1 W th "ask" to [.int pl] [] []:=
 ⟨by rfl,by walk_at"50",by walk_at"49",.inl (by rfl),by walk_at"46",kF,λh1 h2=>.cons .int .nil,by walk_at"47"⟩
theorem qw(hp:pl∈W)(ha:AtR th a):Wd1 W th "raise" to [.str wd,a,.int pl] [a] []:=
 ⟨by rfl,by walk_at"50",by walk_at"49",.inl (by rfl),by walk_at"46",dW ha,λh1 h2=>.cons .str (.cons (ha.flt (by lia)) (.cons .int .nil)),by walk_at"47"⟩
theorem wN(hp:pl∈W)(hj:j∈th)(ha:AtR th a):Wd1 W th "set" to [.int j,a,.int pl] [a] []:=
 ⟨by rfl,by walk_at"50",by walk_at"49",.inr ⟨j,_,rfl,hj⟩,by walk_at"46",dW ha,λh1 h2=>.cons .int (.cons (ha.flt (by lia)) (.cons .int .nil)),by walk_at"47"⟩
theorem uh{o:Str}(hp:pl∈W)(ho:o∈ops)(ha:AtR th a)(hb:AtR th b):Wd1 W th "math" to [.str o,a,b,.int pl] [a,b] []:=
 ⟨by rfl,by
  intro fw d S x K hk;refine cd ⟨1,2,t50⟩ ?_;refine pd bw (pd (cw rfl) (bT ?_));refine pd (bz (j:=2) rfl) ?_;refine pv (.lst (ops.map .str)) ?_;refine pd (v:=.bl false) (S':=S) (by show obB (some (anyF (.str o) (ops.map .str))) not S=_;rw[f6 ho];rfl) ?_;refine bF ?_;walk_at"w"
  exact hk,by walk_at"49",.inl (by rfl),by walk_at"46",λz hz=>by(rcases xAv.mp hz with rfl|hz);exact ha;exact dW hb z hz,λh1 h2=>.cons .str (.cons (ha.flt (by lia)) (.cons (hb.flt (by lia)) (.cons .int .nil))),by walk_at"47"⟩
theorem ui(hp:pl∈W)(ha:∀z∈as,AtR th z):Wd1 W th "make" to [.str wd,.tup as,.int pl] as []:=
 ⟨by rfl,by walk_at"50",by walk_at"49",.inl (by rfl),by walk_at"46",ha,λh1 h2=>.cons .str (.cons (ql ha h2) (.cons .int .nil)),by walk_at"47"⟩
theorem uk{l:Bool}(hp:pl∈W)(ha:AtR th a)(h:∀z∈as,AtR th z)(hl:as.length<=1000):Wd1 W th "call" to [a,.tup as,.int pl,.bl l] (a::as) []:=
 ⟨by rfl,by walk_at "50",by walk_at "49",.inl (by rfl),by
  intro fw d S x K hk;refine cd ⟨1,2,t46⟩ ?_;refine pd bw ?_;repeat (first|refine pv (.lst [.str "start",.str "tell",.str "if",.str "match"]) ?_|refine pv (.lst [.str "set",.str "raise"]) ?_|refine pv (.bl false) ?_|refine bF ?_|refine pd (cf (by decide)) ?_)
  refine pd (cw rfl) (bT ?_);refine pd (bz (j:=2) rfl) ?_;refine pv (.lst [a]) ?_;refine pd (bz (j:=3) rfl) ?_;refine pv (.lst as) ?_;refine pd (v:=.lst (a::as)) (S':=S) ?_ hk;show fits (1+as.length) _=_;exact fitsO (by show _<=2^24;lia),λz hz=>by(rcases xAv.mp hz with rfl|hz);exact ha;exact h z hz,λh1 h2=>.cons (ha.flt (by lia)) (.cons (ql h h2) (.cons .int (.cons .bl .nil))),by walk_at"47"⟩
theorem uj{b:U}{ns:List Nat}(hp:pl∈W):Wd1 W th "func" to [.tup (nu ns),b,.int pl] [] [(ns,b)]:=
 ⟨by rfl,by walk_at"50",by walk_at"49",.inl (by rfl),by walk_at"46",kF,λh1 h2=>.cons (oY (by lia)) (.cons (h1 _ (xAr ..)) (.cons .int .nil)),by walk_at"47"⟩
theorem yN{b c:U}(hp:pl∈W)(ha:AtR th a):Wd1 W th "if" to [a,b,c,.int pl] [a] [([],b),([],c)]:=
 ⟨by rfl,by walk_at"50",by walk_at"49",.inl (by rfl),by walk_at"46",dW ha,λh1 h2=>.cons (ha.flt (by lia)) (.cons (h1 _ (xAr ..)) (.cons (h1 _ (xAs _ (xAr ..))) (.cons .int .nil))),by walk_at"47"⟩
theorem qx{b c:U}{ns:List Nat}(hp:pl∈W)(ha:AtR th a):Wd1 W th "match" to [a,.str wd,.tup (nu ns),b,c,.int pl] [a] [(ns,b),([],c)]:=
 ⟨by rfl,by walk_at"50",by walk_at"49",.inl (by rfl),by walk_at"46",dW ha,λh1 h2=>.cons (ha.flt (by lia)) (.cons .str (.cons (oY (by lia)) (.cons (h1 _ (xAr ..)) (.cons (h1 _ (xAs _ (xAr ..))) (.cons .int .nil))))),by walk_at"47"⟩
theorem wM{b c:U}(hp:pl∈W):Wd1 W th "try" to [b,.str wd,.int j,c,.int pl] [] [([],b),([j],c)]:=
 ⟨by rfl,by walk_at"50",by walk_at"49",.inl (by rfl),by walk_at"46",kF,λh1 h2=>.cons (h1 _ (xAr ..)) (.cons .str (.cons .int (.cons (h1 _ (xAs _ (xAr ..))) (.cons .int .nil)))),by walk_at"47"⟩
end
structure Nm(h q r:Nat)(f:Fd)(ps:List Int)(S:So):Prop where
 ob:at? S h=some (.ins "Namer" [("set_ones",.ref q),("places",.ref r)])
 se:at? S q=some (.dtt f)
 pl:at? S r=some (.lst (ps.map .int))
section
variable{fw d lv:Nat}{h q r g s:Nat}{f:Fd}{ps np np2:List Int}{S S':So}{x:Kx Prop}{K:Kv Prop}{pl:Int}{kvs:List (Key×U)}{u a b:U}{us:List U}{last:Bool}
theorem Nm.kp(n:Nm h q r f ps S)(k:Kp S S'):Nm h q r f ps S':=⟨k.ky n.ob,k.ky n.se,k.ky n.pl⟩
theorem gP(n:Nm h q r f ps S)(hl:ps.length<=10000)(hk:∀S',Nm h q r f (ps++[pl]) S'->Pc r S S'->K (.int ps.length) S'):(Gd fw (d+1)).call 20 [.ref h,.int pl] S x K:=by
 refine cd ⟨2,2,t20⟩ ?_;refine pd (da n.ob rfl) ?_;refine pd (cz n.pl) ?_;refine pd (db n.pl (by rw[xAa];show _<=2^24;lia)) ?_;have e:ps.map U.int++[.int pl]=(ps++[pl]).map U.int:=by rw[xAi];rfl
 rw[e];have n1:Nm h q r f (ps++[pl]) (set S r (.lst ((ps++[pl]).map .int))):=⟨atK n.pl n.ob (λz=>nomatch z),atK n.pl n.se (λz=>nomatch z),atSet n.pl⟩
 refine pd (da n1.ob rfl) ?_;refine pd (kb n1.pl) ?_;refine pd (v:=.int ps.length) (S':=set S r (.lst ((ps++[pl]).map .int))) ?_ ?_
 ·show Res.ok (.int ((((ps++[pl]).map U.int).length:Int)-1)) _=_;rw[xAa,xAb,xAt];congr 2;lia
 exact hk _ n1 ⟨by rw[lenSet];exact xAg _,λn1 z=>atN (Ne.symm n1) z⟩
def isset(f:Fd)(p:Int)(y:Str):Bool:=(getK [.inl p,.inr y] f).isSome
theorem jn{p:Int}(hq:at? S q=some (.dtt f)):pr ups .inn [.tup [.int p,.str y],.ref q] S=.ok (.bl (isset f p y)) S:=by
 show obB (inU S (.tup [.int p,.str y]) (.ref q)) id S=_;unfold inU;dsimp only;rw[hq];rfl
structure AtC(u:U)(kvs:List (Key×U))(last:Bool)(f:Fd)(ps:List Int)(a:U)(us:List U)(np:List Int)(lv:Nat):Prop where
 h:∀{fw d h q r g s:Nat}{ss:List U}{S:So}{x:Kx Prop}{K:Kv Prop},Nm h q r f ps S->at? S g=some (.dct kvs)->at? S s=some (.lst ss)->s≠r->ss.length<=ps.length->(∀S',Nm h q r f (ps++np) S'->at? S' s=some (.lst (ss++us))->Pd r s S S'->K a S')->(Gd fw (d+lv)).call 22 [.ref h,u,.ref g,.bl last,.ref s] S x K
structure BoC(u:U)(kvs:List (Key×U))(last:Bool)(f:Fd)(ps:List Int)(b:U)(np:List Int)(lv:Nat):Prop where
 h:∀{fw d h q r g:Nat}{S:So}{x:Kx Prop}{K:Kv Prop},Nm h q r f ps S->at? S g=some (.dct kvs)->(∀S',Nm h q r f (ps++np) S'->Pc r S S'->K b S')->(Gd fw (d+lv)).call 21 [.ref h,u,.ref g,.bl last] S x K
theorem AtC.up(c:AtC u kvs last f ps a us np lv)(hl:lv<=lv'):AtC u kvs last f ps a us np lv':=⟨λ{fw d h q r g s ss S x K} a b e i j k=>by
 have:=c.h (fw:=fw) (d:=d+(lv'-lv)) (x:=x) a b e i j k;rw[show d+(lv'-lv)+lv=d+lv' by lia] at this;exact this⟩
theorem BoC.up(c:BoC u kvs last f ps b np lv)(hl:lv<=lv'):BoC u kvs last f ps b np lv':=⟨λ{fw d h q r g S x K} a b k=>by
 have:=c.h (fw:=fw) (d:=d+(lv'-lv)) (x:=x) a b k;rw[show d+(lv'-lv)+lv=d+lv' by lia] at this;exact this⟩
theorem zu(c:AtC u kvs last f ps a us np lv):BoC u kvs last f ps (.tup [.tup us,a]) np (lv+1):=⟨λ{fw d h q r g S x K} n hg hk=>by
 refine cd (d:=d+lv) ⟨4,6,t21⟩ ?_;refine pd (v:=.ref S.length) (S':=S++[.lst []]) (by rfl) ?_;have k0:Kp S (S++[Ob.lst []]):=⟨by simp,λz=>atApp z⟩
 have n0:=n.kp k0;refine pd (ce n0.ob rfl) ?_;have lr:=atLt n.pl;refine c.h n0 (k0.ky hg) (atNew (l:=S)) (by lia) (xBn _) λS' n' s' p'=>?_;refine pd (v:=.tup us) (S':=S') ?_ ?_
 ·show tupOfU (.ref S.length) S'=_;unfold tupOfU;dsimp only[lsU];rw[s'];rfl
 refine hk S' n' ⟨by have:=p'.len;have:=k0.len;lia,λn1 z=>p'.ky n1 (by have:=atLt z;lia) (k0.ky z)⟩⟩
def bnd(f:Fd)(pl:Int):Nat->List Str->List (Str×U)
 |_,[]=>[]
 |n,y::r=>(y,.tup [.tup [.str "name",.int (n:Int)],.bl (isset f pl y)])::bnd f pl (n+1) r
structure BbC(xs:List Str)(u:U)(pl:Int)(kvs:List (Key×U))(last:Bool)(f:Fd)(ps:List Int)(v:U)(np:List Int)(lv:Nat):Prop where
 h:∀{fw d h q r g:Nat}{S:So}{x:Kx Prop}{K:Kv Prop},Nm h q r f ps S->at? S g=some (.dct kvs)->(∀S',Nm h q r f (ps++np) S'->Pc r S S'->K v S')->(Gd fw (d+lv)).call 26 [.ref h,.tup (xs.map .str),u,.int pl,.ref g,.bl last] S x K
theorem iL{gp gi:Nat}{E:Ee Prop}{kk:Sg->So->Prop}{a1 a2 a4 a5:Option U}(hir:gi≠r):∀{xs:List Str}{kvs:List (Key×U)}{ps:List Int}{gs:List Nat}{S:So}{a8 a9:Option U},Nm h q r f ps S->at? S gp=some (.dct kvs)->at? S gi=some (.lst (nu gs))->ps.length+xs.length<=10000->kvs.length+xs.length<=1000->gs.length+xs.length<=1000 ->
  (∀S' a8 a9,Nm h q r f (ps++List.replicate xs.length pl) S'->at? S' gp=some (.dct (pus kvs (bnd f pl ps.length xs)))->at? S' gi=some (.lst (nu (gs++List.range' ps.length xs.length)))->S.length<=S'.length->(∀{p o},p≠r->p≠gp->p≠gi->at? S p=some o->at? S' p=some o)->kk [some (.ref h),a1,a2,some (.int pl),a4,a5,some (.ref gp),some (.ref gi),a8,a9] S') ->
  forK (xs.map U.str) (λv σ1 S2 nx=>tgt [8] true (Gd fw (d+1)) v σ1 λσ2=>bd26 (Gd fw (d+1)) σ2 S2 (lpE E nx)) [some (.ref h),a1,a2,some (.int pl),a4,a5,some (.ref gp),some (.ref gi),a8,a9] S kk
 |[],kvs,ps,gs,S,a8,a9,n,h1,h2,_,_,_,hk=>by
  refine hk S a8 a9 ?_ h1 ?_ (xAg _) λ_ _ _ z=>z
  ·rw[List.length_nil,List.replicate_zero,xB0];exact n
  ·rw[List.length_nil,List.range'_zero,xB0];exact h2
 |y::xs,kvs,ps,gs,S,a8,a9,n,h1,h2,l1,l2,l3,hk=>by
  rw[xAo] at l1 l2 l3;rw[xBs,forK];refine pd (ce n.ob rfl) ?_;refine gP (d:=d) n (by lia) λS1 n1 p1=>?_;have g1:=p1.ky hir h2;have pr1:gp≠r:=λe=>by rw[e,n.pl] at h1;cases h1
  have gp1:=p1.ky pr1 h1;refine pd (cz g1) ?_;refine pd (db g1 (by show _<=2^24;unfold nu;rw[xAa];lia)) ?_;have e2:nu gs++[.int (ps.length:Int)]=nu (gs++[ps.length]):=by unfold nu;rw[xAi];rfl
  rw[e2];have n2:Nm h q r f (ps++[pl]) (set S1 gi (.lst (nu (gs++[ps.length])))):=⟨atK g1 n1.ob (λz=>nomatch z),atK g1 n1.se (λz=>nomatch z),atN hir n1.pl⟩
  have gp2:at? (set S1 gi (.lst (nu (gs++[ps.length])))) gp=some (.dct kvs):=atK g1 gp1 (λz=>nomatch z);have g2:at? (set S1 gi (.lst (nu (gs++[ps.length])))) gi=some (.lst (nu (gs++[ps.length]))):=atSet g1;have p2:∀{p o},p≠r->p≠gi->at? S p=some o->at? (set S1 gi (.lst (nu (gs++[ps.length])))) p=some o:=λz1 z2 z=>atN (Ne.symm z2) (p1.ky z1 z);have s2:S.length<=(set S1 gi (.lst (nu (gs++[ps.length])))).length:=by rw[lenSet];exact p1.len
  generalize set S1 gi (.lst (nu (gs++[ps.length])))=S2 at n2 gp2 g2 p2 s2;refine pd (da n2.ob rfl) ?_;refine pd (jn n2.se) ?_;refine pd (fh gp2 (by show _<=2^24;lia)) ?_;have pk:=gJ (k:=(Sum.inr y:Key)) (v:=.tup [.tup [.str "name",.int (ps.length:Int)],.bl (isset f pl y)]) (kvs:=kvs);refine iL hir (xs:=xs) (kvs:=putK (.inr y) (.tup [.tup [.str "name",.int (ps.length:Int)],.bl (isset f pl y)]) kvs) (ps:=ps++[pl]) (gs:=gs++[ps.length]) ⟨atK gp2 n2.ob (λz=>nomatch z),atK gp2 n2.se (λz=>nomatch z),atK gp2 n2.pl (λz=>nomatch z)⟩ (atSet gp2) (atK gp2 g2 (λz=>nomatch z)) (by rw[xAb,xAt];lia) (by lia) (by rw[xAb,xAt];lia) λS' a8 a9 n' gp' gi' l' p'=>?_;refine hk S' a8 a9 ?_ ?_ ?_ (by rw[lenSet] at l';lia) λz1 z2 z3 z=>p' z1 z2 z3 (atN (Ne.symm z2) (p2 z1 z3 z))
  ·rw[xAx] at n';exact n'
  ·rw[xAb,xAt] at gp';exact gp'
  ·rw[xAb,xAt,xAx] at gi';exact gi'
theorem zv{xs:List Str}(c:BoC u (pus kvs (bnd f pl ps.length xs)) last f (ps++List.replicate xs.length pl) b np lv)(h4:xs.length<=4)(hp:ps.length<=9000)(hk':kvs.length<=900)(hlv:1<=lv):BbC xs u pl kvs last f ps (.tup [.tup (nu (List.range' ps.length xs.length)),b]) (List.replicate xs.length pl++np) (lv+1):=⟨λ{fw d h q r g S x K} n hg hk=>by
 obtain⟨l,rfl⟩:∃l,lv=l+1:=⟨lv-1,by lia⟩
 refine cd (d:=d+(l+1)) ⟨6,10,t26⟩ ?_;refine pd (dD hg) ?_;refine pd (v:=.ref (S.length+1)) (S':=S++[.dct kvs]++[.lst []]) (by show fits 0 (.ok (.ref (S++[Ob.dct kvs]).length) (S++[Ob.dct kvs]++[Ob.lst []]))=_;rw[fitsO (xBn _),xAb];rfl) ?_;have k0:Kp S (S++[Ob.dct kvs]++[Ob.lst []]):=⟨by simp,λz=>atApp (atApp z)⟩
 have g0:at? (S++[Ob.dct kvs]++[Ob.lst []]) S.length=some (.dct kvs):=atApp atNew;have i0:at? (S++[Ob.dct kvs]++[Ob.lst []]) (S.length+1)=some (.lst (nu [])):=by
  have:=atNew (l:=S++[Ob.dct kvs]) (o:=Ob.lst []);rw[xAb] at this;exact this
 generalize S++[Ob.dct kvs]++[Ob.lst []]=S1 at k0 g0 i0;have n0:=n.kp k0;have lr:=atLt n.pl;refine pv (.tup (xs.map .str)) ?_;refine iL (by lia) n0 g0 i0 (by lia) (by lia) (by show 0+xs.length<=_;lia) λS2 a8 a9 n2 gp2 gi2 l2 p2=>?_;refine pd (v:=.tup (nu (List.range' ps.length xs.length))) (S':=S2) ?_ ?_
 ·show tupOfU (.ref (S.length+1)) S2=_;unfold tupOfU;dsimp only[lsU];rw[gi2];rfl
 refine pd (ce n2.ob rfl) ?_;refine c.h (d:=d) n2 gp2 λS3 n3 p3=>?_;rw[xAx] at n3;exact hk S3 n3 ⟨by have:=k0.len;have:=p3.len;lia,λz1 z=>p3.ky z1 (p2 z1 (by have:=atLt z;lia) (by have:=atLt z;lia) (k0.ky z))⟩⟩
end
section
variable{fw d lv:Nat}{h q r g s:Nat}{f:Fd}{ps np np1 np2:List Int}{S S':So}{x:Kx Prop}{K:Kv Prop}{pl:Int}{kvs:List (Key×U)}{u v a b a2:U}{us us2:List U}{last:Bool}{y:Str}
theorem wG{i:Int}:AtC (.tup [.str "number",.int pl,.int i]) kvs last f ps (.tup [.str "number",.int i]) [] [] (lv+1):=⟨λ{fw d h q r g s ss S x K} n hg hs sr hl hk=>by
 refine cd (d:=d+lv) ⟨5,10,t22⟩ ?_;refine pd bw (pd (cw rfl) (bT ?_));refine pd (bz (j:=2) rfl) ?_;exact hk S (by rw[xB0];exact n) (by rw[xB0];exact hs) ⟨xAg _,λ_ _ z=>z⟩⟩
theorem cv{up:List (Str×Str)}:pr up (.unp 2) [.tup [a,b]] S=.ok (.tup [a,b]) S:=rfl
theorem tq(e:getK (.inr y) kvs=some (.tup [a,.bl false])):AtC (.tup [.str "name",.int pl,.str y]) kvs last f ps a [] [] (lv+2):=⟨λ{fw d h q r g s ss S x K} n hg hs sr hl hk=>by
 refine cd (d:=d+(lv+1)) ⟨5,10,t22⟩ ?_;refine pd bw (pd (cf (by decide)) (bF (pd (cw rfl) (bT ?_))));refine pd (ce n.ob rfl) ?_;refine cd (d:=d+lv) ⟨4,7,t23⟩ ?_;refine pd (bz (j:=2) rfl) ?_;refine pd (cG hg e) (pd cv (pv (.bl false) (bT ?_)));exact hk S (by rw[xB0];exact n) (by rw[xB0];exact hs) ⟨xAg _,λ_ _ z=>z⟩⟩
theorem tp{k:Nat}(e:getK (.inr y) kvs=some (.tup [.tup [.str "name",.int (k:Int)],.bl true]))(hp:ps.length<=9000):AtC (.tup [.str "name",.int pl,.str y]) kvs last f ps (.tup [.str "name",.int (ps.length:Int)]) [.tup [.str "read",.int (ps.length:Int),.int (k:Int)]] [pl] (lv+3):=⟨λ{fw d h q r g s ss S x K} n hg hs sr hl hk=>by
 refine cd (d:=d+(lv+2)) ⟨5,10,t22⟩ ?_;refine pd bw (pd (cf (by decide)) (bF (pd (cw rfl) (bT ?_))));refine pd (ce n.ob rfl) ?_;refine cd (d:=d+(lv+1)) ⟨4,7,t23⟩ ?_;refine pd (bz (j:=2) rfl) ?_;refine pd (cG hg e) (pd cv (pv (.bl true) (bF ?_)));refine pd (ce n.ob rfl) ?_;refine pd cx ?_;refine gP (d:=d+lv) n (by lia) λS1 n1 p1=>?_;have s1:=p1.ky sr hs;refine pd (cz s1) (pd cx ?_);refine pd (db s1 (by show _<=2^24;lia)) ?_;exact hk _ ⟨atK s1 n1.ob (λz=>nomatch z),atK s1 n1.se (λz=>nomatch z),atN sr n1.pl⟩ (atSet s1) ⟨by rw[lenSet];exact p1.len,λz1 z2 z=>atN (Ne.symm z2) (p1.ky z1 z)⟩⟩
theorem Pd.trans{S1 S2:So}(a:Pd r s S S1)(b:Pd r s S1 S2):Pd r s S S2:=⟨xCk a.len b.len,λz1 z2 z=>b.ky z1 z2 (a.ky z1 z2 z)⟩
theorem yL(c:AtC u kvs false f ps a us np lv)(c2:AtC v kvs last f (ps++np) a2 us2 np2 lv)(hu:us.length<=np.length):AtC (.tup [.str "do",.int pl,u,v]) kvs last f ps a2 (us++us2) (np++np2) (lv+1):=⟨λ{fw d h q r g s ss S x K} n hg hs sr hl hk=>by
 refine cd (d:=d+lv) ⟨5,10,t22⟩ ?_;refine pd bw (pd (cf (by decide)) (bF (pd (cf (by decide)) (bF (pd (cw rfl) (bT ?_))))));refine pd (ce n.ob rfl) ?_;refine pd (bz (j:=2) rfl) ?_;have gs:g≠s:=λe=>by rw[e,hs] at hg;cases hg
 have gr:g≠r:=λe=>by rw[e,n.pl] at hg;cases hg
 refine c.h n hg hs sr hl λS1 n1 s1 p1=>?_;refine pd (ce n1.ob rfl) ?_;refine pd (bz (j:=3) rfl) ?_;refine c2.h n1 (p1.ky gr gs hg) s1 sr (by rw[xAb,xAb];lia) λS2 n2 s2 p2=>?_;rw[xAx] at n2 s2;exact hk S2 n2 s2 (p1.trans p2)⟩
theorem kH{i:Bool}(c2:AtC v (pus kvs [(y,.tup [a,.bl i])]) last f ps a2 us2 np2 lv)(hk':kvs.length<=900)(n:Nm h q r f ps S)(hg:at? S g=some (.dct kvs))(hs:at? S s=some (.lst ss))(sr:s≠r)(hl:ss.length<=ps.length)(hk:∀S',Nm h q r f (ps++np2) S'->at? S' s=some (.lst (ss++us2))->Pd r s S S'->K a2 S'):rsL2 (Gd fw (d+lv)) [some (.ref h),a1,some (.ref g),some (.bl last),some (.ref s),a5,a6,some (.str y),a8,some v,some a,some (.bl i),a12,a13] S (endsOf x K):=by
 refine pd (dD hg) ?_;refine pd (fh (atNew (l:=S)) (by show _<=2^24;lia)) ?_;rw[setNew];have k2:Kp S (S++[.dct (putK (.inr y) (.tup [a,.bl i]) kvs)]):=⟨by simp,λz=>atApp z⟩
 have n2:=n.kp k2;refine pd (ce n2.ob rfl) ?_;refine c2.h n2 (atNew (l:=S)) (k2.ky hs) sr hl λS3 n3 s3 p3=>?_;exact hk S3 n3 s3 ⟨xCk k2.len p3.len,λz1 z2 z=>p3.ky z1 z2 (k2.ky z)⟩
theorem pb(hk:∀S',Nm h q r f (ps++np) S'->at? S' s=some (.lst (ss++us))->Pd r s S S'->rsL0 (Gd fw (d+lv)) [some (.ref h),some (.tup [.str "let",.int pl,.str y,u,v]),some (.ref g),some (.bl last),some (.ref s),some (.str "let"),some (.int pl),some (.str y),some u,some v,some a,none,none,none] S' (endsOf x K))(c:AtC u kvs false f ps a us np lv)(n:Nm h q r f ps S)(hg:at? S g=some (.dct kvs))(hs:at? S s=some (.lst ss))(sr:s≠r)(hl:ss.length<=ps.length):(Gd fw (d+(lv+2))).call 22 [.ref h,.tup [.str "let",.int pl,.str y,u,v],.ref g,.bl last,.ref s] S x K:=by
 refine cd (d:=d+(lv+1)) ⟨5,10,t22⟩ ?_;refine pd bw (pd (cf (by decide)) (bF (pd (cf (by decide)) (bF (pd (cf (by decide)) (bF (pd (cw rfl) (bT ?_))))))));refine pd (ce n.ob rfl) ?_;refine cd (d:=d+lv) ⟨5,14,t24⟩ ?_;refine pv (.tup [.str "let",.int pl,.str y,u,v]) ?_;refine pd (ce n.ob rfl) ?_;refine c.h n hg hs sr hl λS1 n1 s1 p1=>?_;exact hk S1 n1 s1 p1
theorem tx(c:AtC u kvs false f ps a us np lv)(c2:AtC v (pus kvs [(y,.tup [a,.bl false])]) last f (ps++np) a2 us2 np2 lv)(hu:us.length<=np.length)(hi:isset f pl y=false)(hk':kvs.length<=900):AtC (.tup [.str "let",.int pl,.str y,u,v]) kvs last f ps a2 (us++us2) (np++np2) (lv+2):=⟨λ{fw d h q r g s ss S x K} n hg hs sr hl hk=>by
 refine pb (λS1 n1 s1 p1=>?_) c n hg hs sr hl;have gs:g≠s:=λe=>by rw[e,hs] at hg;cases hg
 have gr:g≠r:=λe=>by rw[e,n.pl] at hg;cases hg
 refine pd (da n1.ob rfl) ?_;refine pd (jn n1.se) ?_;rw[hi];refine pv (.bl false) (bF ?_);refine kH c2 hk' n1 (p1.ky gr gs hg) s1 sr (by rw[xAb,xAb];lia) λS3 n3 s3 p3=>?_;rw[xAx] at n3 s3;exact hk S3 n3 s3 (p1.trans p3)⟩
theorem tu(c:AtC u kvs false f ps a us np lv)(c2:AtC v (pus kvs [(y,.tup [.tup [.str "name",.int ((ps.length+np.length:Nat):Int)],.bl true])]) last f (ps++np++[pl]) a2 us2 np2 lv)(hu:us.length<=np.length)(hi:isset f pl y=true)(hk':kvs.length<=900)(hp:ps.length+np.length<=9000)(h1:1<=lv):AtC (.tup [.str "let",.int pl,.str y,u,v]) kvs last f ps a2 (us++(.tup [.str "start",.int ((ps.length+np.length:Nat):Int),a,.int pl]::us2)) (np++(pl::np2)) (lv+2):=⟨λ{fw d h q r g s ss S x K} n hg hs sr hl hk=>by
 obtain⟨l,rfl⟩:∃l,lv=l+1:=⟨lv-1,by lia⟩
 refine pb (λS1 n1 s1 p1=>?_) c n hg hs sr hl;have gs:g≠s:=λe=>by rw[e,hs] at hg;cases hg
 have gr:g≠r:=λe=>by rw[e,n.pl] at hg;cases hg
 have ln:(ps++np).length=ps.length+np.length:=xAb;refine pd (da n1.ob rfl) ?_;refine pd (jn n1.se) ?_;rw[hi];refine pv (.bl true) (bT ?_);refine pd (ce n1.ob rfl) ?_;refine gP (d:=d+l) n1 (by lia) λS2 n2 p2=>?_;have s2:=p2.ky sr s1;rw[ln];refine pd (cz s2) ?_;refine pd (db s2 (by rw[xAb];show _<=2^24;lia)) ?_;have n3:Nm h q r f (ps++np++[pl]) (set S2 s (.lst (ss++us++[.tup [.str "start",.int ((ps.length+np.length:Nat):Int),a,.int pl]]))):=⟨atK s2 n2.ob (λz=>nomatch z),atK s2 n2.se (λz=>nomatch z),atN sr n2.pl⟩
 have s3:at? (set S2 s (.lst (ss++us++[.tup [.str "start",.int ((ps.length+np.length:Nat):Int),a,.int pl]]))) s=some (.lst (ss++us++[.tup [.str "start",.int ((ps.length+np.length:Nat):Int),a,.int pl]])):=atSet s2;have p3:Pd r s S (set S2 s (.lst (ss++us++[.tup [.str "start",.int ((ps.length+np.length:Nat):Int),a,.int pl]]))):=⟨by rw[lenSet];have:=p1.len;have:=p2.len;lia,λz1 z2 z=>atN (Ne.symm z2) (p2.ky z1 (p1.ky z1 z2 z))⟩
 generalize set S2 s (.lst (ss++us++[.tup [.str "start",.int ((ps.length+np.length:Nat):Int),a,.int pl]]))=S3 at n3 s3 p3;refine kH c2 hk' n3 (p3.ky gr gs hg) s3 sr (by simp only[xAb,xAt];lia) λS5 n5 s5 p5=>?_;simp only[xAx,List.singleton_append] at n5 s5;exact hk S5 n5 s5 (p3.trans p5)⟩
inductive ACs(kvs:List (Key×U))(f:Fd)(lv:Nat):List Int->List U->List U->List U->List Int->Prop
 |nil {ps:List Int}:ACs kvs f lv ps [] [] [] []
 |cons {ps np np2:List Int} {u a:U} {r as us us2:List U} (h:AtC u kvs false f ps a us np lv) (hl:us.length<=np.length) (t:ACs kvs f lv (ps++np) r as us2 np2):ACs kvs f lv ps (u::r) (a::as) (us++us2) (np++np2)
theorem ye{ys:List U}(c:ACs kvs f lv ps parts as us np):∀{ss ys:List U}{S:So},Nm h q r f ps S->at? S g=some (.dct kvs)->at? S s=some (.lst ss)->s≠r->ss.length<=ps.length->(∀S',Nm h q r f (ps++np) S'->at? S' s=some (.lst (ss++us))->Pd r s S S'->K (.lst (ys++as)) S')->lcK (Gd fw (d+lv)) (lcB [1] true [none,none,some (.ref s),some (.ref h),some (.ref g)] none (cM "Namer" "atom_of" 22 J8 (Jk J3 Ja (cC (.bl false)) J9) []) (Gd fw (d+lv))) parts ys S K:=by
 induction c with
 |nil=>
  intro ss ys S n hg hs sr hl hk;have:=hk S (by rw[xB0];exact n) (by rw[xB0];exact hs) ⟨xAg _,λ_ _ z=>z⟩;rw[xB0] at this;exact this
 |@cons ps np np2 u a rr as us us2 c hu t ih=>
  intro ss ys S n hg hs sr hl hk;have gs:g≠s:=λe=>by rw[e,hs] at hg;cases hg
  have gr:g≠r:=λe=>by rw[e,n.pl] at hg;cases hg
  refine pd (ce n.ob rfl) ?_;refine c.h n hg hs sr hl λS1 n1 s1 p1=>?_;refine ih n1 (p1.ky gr gs hg) s1 sr (by rw[xAb,xAb];lia) λS2 n2 s2 p2=>?_;rw[xAx] at n2 s2⊢;exact hk S2 n2 s2 (p1.trans p2)
structure PaC(u:U)(parts:List U):Prop where
 h:∀{fw d:Nat}{S:So}{x:Kx Prop}{K:Kv Prop},K (.tup parts) S->(Gd fw (d+1)).call 3 [u] S x K
structure MoC(u:U)(as:List U)(kvs:List (Key×U))(last:Bool)(f:Fd)(ps:List Int)(w:Str)(more:List U)(np:List Int)(lv:Nat):Prop where
 h:∀{fw d h q r g:Nat}{S:So}{x:Kx Prop}{K:Kv Prop},Nm h q r f ps S->at? S g=some (.dct kvs)->(∀S',Nm h q r f (ps++np) S'->Pc r S S'->K (.tup [.str w,.tup more]) S')->(Gd fw (d+lv)).call 25 [.ref h,u,.tup as,.ref g,.bl last] S x K
structure PlC(u:U)(as:List U)(kvs:List (Key×U))(last:Bool)(w:Str)(more:List U):Prop where
 h:∀{fw d g:Nat}{S:So}{x:Kx Prop}{K:Kv Prop},at? S g=some (.dct kvs)->K (.tup [.str w,.tup more]) S->(Gd fw (d+1)).call 27 [u,.tup as,.ref g,.bl last] S x K
theorem fin22{w k:Str}{a2:Option U}(n:Nm h q r f ps S)(hs:at? S s=some (.lst ss))(sr:s≠r)(hl:ss.length<=9000)(hp:ps.length<=9000)(hm:more.length<=100)(hk:∀S',Nm h q r f (ps++[pl]) S'->at? S' s=some (.lst (ss++[.tup (.str w::.int (ps.length:Int)::more)]))->Pd r s S S'->K (.tup [.str "name",.int (ps.length:Int)]) S'):rs22 (Gd fw (d+1)) [some (.ref h),some (.tup (.str k::.int pl::rr)),a2,a3,some (.ref s),a5,a6,some (.str w),some (.tup more),none] S (endsOf x K):=by
 refine pd (ce n.ob rfl) ?_;refine pd cx ?_;refine gP (d:=d) n (by lia) λS1 n1 p1=>?_;have s1:=p1.ky sr hs;refine pd (cz s1) ?_;refine pd (v:=.tup (.str w::.int (ps.length:Int)::more)) (S':=S1) ?_ ?_
 ·show fits (2+more.length) _=_;exact fitsO (by show _<=2^24;lia)
 refine pd (db s1 (by show _<=2^24;lia)) ?_;exact hk _ ⟨atK s1 n1.ob (λz=>nomatch z),atK s1 n1.se (λz=>nomatch z),atN sr n1.pl⟩ (atSet s1) ⟨by rw[lenSet];exact p1.len,λz1 z2 z=>atN (Ne.symm z2) (p1.ky z1 z)⟩
structure Kd(k:Str)(o:Bool):Prop where
 h1:k≠"number"
 h2:k≠"name"
 h3:k≠"do"
 h4:k≠"let"
 ho:anyF (.str k) [.str "fn",.str "if",.str "match",.str "try"]=o
theorem ud{k:Str}{o:Bool}(kd:Kd k o)(pa:PaC (.tup (.str k::.int pl::rr)) parts)(c:ACs kvs f (lv+1) ps parts as us np)(h4:parts.length<=100)(n:Nm h q r f ps S)(hg:at? S g=some (.dct kvs))(hs:at? S s=some (.lst ss))(sr:s≠r)(hl:ss.length<=ps.length)(hk:∀S',Nm h q r f (ps++np) S'->at? S' s=some (.lst (ss++us))->Pd r s S S'->rs22o (Gd fw (d+(lv+1))) [some (.ref h),some (.tup (.str k::.int pl::rr)),some (.ref g),some (.bl last),some (.ref s),some (.str k),some (.tup as),none,none,none] S' (endsOf x K)):(Gd fw (d+(lv+2))).call 22 [.ref h,.tup (.str k::.int pl::rr),.ref g,.bl last,.ref s] S x K:=by
 refine cd (d:=d+(lv+1)) ⟨5,10,t22⟩ ?_;refine pd bw ?_;refine pd (cf kd.h1) ?_;refine bF ?_;refine pd (cf kd.h2) ?_;refine bF ?_;refine pd (cf kd.h3) ?_;refine bF ?_;refine pd (cf kd.h4) ?_;refine bF ?_;refine pa.h (d:=d+lv) ?_;refine pv (.tup parts) ?_;refine bI (c:=Nat.ble parts.length sizeLine) (λ_=>?_) λz=>absurd (jP (n:=parts.length) (by lia)) (by rw[z];decide);refine ye (ys:=[]) c n hg hs sr hl λS' n' s' p'=>?_;rw[xC6];exact pv (.tup as) (hk S' n' s' p')
theorem qi{k w:Str}(kd:Kd k false)(pa:PaC (.tup (.str k::.int pl::rr)) parts)(c:ACs kvs f (lv+1) ps parts as us np)(h4:parts.length<=100)(m:PlC (.tup (.str k::.int pl::rr)) as kvs last w more)(hu:us.length<=np.length)(hp:ps.length+np.length<=9000)(hm:more.length<=100):AtC (.tup (.str k::.int pl::rr)) kvs last f ps (.tup [.str "name",.int ((ps.length+np.length:Nat):Int)]) (us++[.tup (.str w::.int ((ps.length+np.length:Nat):Int)::more)]) (np++[pl]) (lv+2):=⟨λ{fw d h q r g s ss S x K} n hg hs sr hl hk=>by
 have gs:g≠s:=λe=>by rw[e,hs] at hg;cases hg
 have gr:g≠r:=λe=>by rw[e,n.pl] at hg;cases hg
 refine ud kd pa c h4 n hg hs sr hl λS1 n1 s1 p1=>?_;refine pd (v:=.bl false) (S':=S1) (by show obB (some (anyF (.str k) [.str "fn",.str "if",.str "match",.str "try"])) id S1=_;rw[kd.ho];rfl) ?_;refine bF ?_;refine m.h (d:=d+lv) (p1.ky gr gs hg) ?_;refine pv (.tup [.str w,.tup more]) ?_;refine fin22 (d:=d+lv) n1 s1 sr (by rw[xAb];lia) (by rw[xAb];lia) hm λS' n' s' p'=>?_;rw[xAx,xAb] at s';rw[xAx] at n';rw[xAb];exact hk S' n' s' (p1.trans p')⟩
theorem qj{k w:Str}(kd:Kd k true)(pa:PaC (.tup (.str k::.int pl::rr)) parts)(c:ACs kvs f (lv+1) ps parts as us np)(h4:parts.length<=100)(m:MoC (.tup (.str k::.int pl::rr)) as kvs last f (ps++np) w more np2 (lv+1))(hu:us.length<=np.length)(hp:ps.length+np.length+np2.length<=9000)(hm:more.length<=100):AtC (.tup (.str k::.int pl::rr)) kvs last f ps (.tup [.str "name",.int ((ps.length+np.length+np2.length:Nat):Int)]) (us++[.tup (.str w::.int ((ps.length+np.length+np2.length:Nat):Int)::more)]) (np++(np2++[pl])) (lv+2):=⟨λ{fw d h q r g s ss S x K} n hg hs sr hl hk=>by
 have gs:g≠s:=λe=>by rw[e,hs] at hg;cases hg
 have gr:g≠r:=λe=>by rw[e,n.pl] at hg;cases hg
 refine ud kd pa c h4 n hg hs sr hl λS1 n1 s1 p1=>?_;refine pd (v:=.bl true) (S':=S1) (by show obB (some (anyF (.str k) [.str "fn",.str "if",.str "match",.str "try"])) id S1=_;rw[kd.ho];rfl) ?_;refine bT ?_;refine pd (ce n1.ob rfl) ?_;refine m.h n1 (p1.ky gr gs hg) λS2 n2 p2=>?_;refine pv (.tup [.str w,.tup more]) ?_;refine fin22 (d:=d+lv) n2 (p2.ky sr s1) sr (by rw[xAb];lia) (by rw[xAb,xAb];lia) hm λS' n' s' p'=>?_;rw[xAx,xAb,xAb] at s';rw[xAx,xAx] at n';rw[xAb,xAb];exact hk S' n' s' (p1.trans ((⟨p2.len,λz1 _ z=>p2.ky z1 z⟩:Pd r s S1 S2).trans p'))⟩
end
section
variable{S:So}{a b c:U}{r:List U}{pl:Int}{kvs:List (Key×U)}{last:Bool}{y:Str}
theorem cZ:pr ups (.sl false false true) [.tup (a::b::r),.int 2] S=.ok (.tup [a,b]) S:=by
 show slice false (.tup (a::b::r)) none (some ((2:Nat):Int)) S=_;unfold slice;dsimp only;rw[HT.sIx_nat,HT.sIx_none];split
 ·next h=>
  have:=(xBe h).2;rw[xAo,xAo] at this;have:r.length=0:=by lia
  rw[List.length_eq_zero_iff.mp this]
 ·unfold cutU;rw[HT.sIx_nat,HT.sIx_none];simp
theorem uR:pr ups (.sl false true false) [.tup (a::r),.int 1] S=.ok (.tup r) S:=by
 show slice false (.tup (a::r)) (some ((1:Nat):Int)) none S=_;unfold slice;dsimp only;rw[HT.sIx_nat,xCn (by rw[xAo];lia)];dsimp only;unfold cutU;rw[HT.sIx_nat,HT.sIx_none,show min 1 (a::r).length=1 by simp];simp
theorem xw{x y:U}:PaC (.tup [.str "fn",.int pl,x,y]) []:=⟨λ{fw d S x K} hk=>by
 refine cd ⟨1,2,t3⟩ ?_;walk_at"w"
 exact hk⟩
theorem rJ(hl:as.length<=1000):PaC (.tup [.str "call",.int pl,a,.tup as]) (a::as):=⟨λ{fw d S x K} hk=>by
 refine cd ⟨1,2,t3⟩ ?_;refine pd bw (pd (cw rfl) (bT ?_));refine pd (bz (j:=2) rfl) ?_;refine pd (bz (j:=3) rfl) ?_;refine pd (v:=.tup (a::as)) (S':=S) ?_ hk;show fits (1+as.length) _=_;exact fitsO (by show _<=2^24;lia)⟩
theorem rF{o:Str}:PaC (.tup [.str "math",.int pl,.str o,a,b]) [a,b]:=⟨λ{fw d S x K} hk=>by
 refine cd ⟨1,2,t3⟩ ?_;walk_at"w"
 exact hk⟩
theorem rG{t:Str}:PaC (.tup [.str "make",.int pl,.str t,.tup as]) as:=⟨λ{fw d S x K} hk=>by
 refine cd ⟨1,2,t3⟩ ?_;walk_at"w"
 exact hk⟩
theorem vh:PaC (.tup [.str "set",.int pl,.str y,a]) [a]:=⟨λ{fw d S x K} hk=>by
 refine cd ⟨1,2,t3⟩ ?_;walk_at"w"
 exact hk⟩
theorem oO:PaC (.tup [.str "raise",.int pl,.str y,a]) [a]:=⟨λ{fw d S x K} hk=>by
 refine cd ⟨1,2,t3⟩ ?_;walk_at"w"
 exact hk⟩
theorem xu:PaC (.tup [.str "if",.int pl,a,b,c]) [a]:=⟨λ{fw d S x K} hk=>by
 refine cd ⟨1,2,t3⟩ ?_;walk_at"w"
 exact hk⟩
theorem oP{x y z u:U}:PaC (.tup [.str "match",.int pl,a,x,y,z,u]) [a]:=⟨λ{fw d S x K} hk=>by
 refine cd ⟨1,2,t3⟩ ?_;walk_at"w"
 exact hk⟩
theorem rE:PaC (.tup [.str "tell",.int pl,a]) [a]:=⟨λ{fw d S x K} hk=>by
 refine cd ⟨1,2,t3⟩ ?_;walk_at"w"
 exact hk⟩
theorem vg{x y z u:U}:PaC (.tup [.str "try",.int pl,x,y,z,u]) []:=⟨λ{fw d S x K} hk=>by
 refine cd ⟨1,2,t3⟩ ?_;walk_at"w"
 exact hk⟩
theorem vi:PaC (.tup [.str "ask",.int pl]) []:=⟨λ{fw d S x K} hk=>by
 refine cd ⟨1,2,t3⟩ ?_;walk_at"w"
 exact hk⟩
theorem rh{x z:U}:PlC (.tup [.str "call",.int pl,x,z]) (a::as) kvs last "call" [a,.tup as,.int pl,.bl last]:=⟨λ{fw d g S x K} hg hk=>by
 refine cd ⟨4,6,t27⟩ ?_;refine pd cZ (pd cv (pd (cw rfl) (bT (pd bw (pd uR ?_)))));exact hk⟩
theorem rf{x:U}{t:Str}:PlC (.tup [.str "make",.int pl,.str t,x]) as kvs last "make" [.str t,.tup as,.int pl]:=⟨λ{fw d g S x K} hg hk=>by
 refine cd ⟨4,6,t27⟩ ?_;refine pd cZ (pd cv ?_);walk_at"w"
 exact hk⟩
theorem uV{x:U}{k:Nat}{i:Bool}(e:getK (.inr y) kvs=some (.tup [.tup [.str "name",.int (k:Int)],.bl i])):PlC (.tup [.str "set",.int pl,.str y,x]) [a] kvs last "set" [.int (k:Int),a,.int pl]:=⟨λ{fw d g S x K} hg hk=>by
 refine cd ⟨4,6,t27⟩ ?_;refine pd cZ (pd cv (pd (cf (by decide)) (bF (pd (cf (by decide)) (bF (pd (cw rfl) (bT ?_)))))));refine pd (bz (j:=2) rfl) ?_;refine pd (cG hg e) ?_;walk_at"w"
 exact hk⟩
theorem rd{x z:U}{o:Str}:PlC (.tup [.str "math",.int pl,.str o,x,z]) [a,b] kvs last "math" [.str o,a,b,.int pl]:=⟨λ{fw d g S x K} hg hk=>by
 refine cd ⟨4,6,t27⟩ ?_;refine pd cZ (pd cv ?_);walk_at"w"
 exact hk⟩
theorem oj{x:U}{o:Str}:PlC (.tup [.str "raise",.int pl,.str o,x]) [a] kvs last "raise" [.str o,a,.int pl]:=⟨λ{fw d g S x K} hg hk=>by
 refine cd ⟨4,6,t27⟩ ?_;refine pd cZ (pd cv ?_);walk_at"w"
 exact hk⟩
theorem qZ{x:U}:PlC (.tup [.str "tell",.int pl,x]) [a] kvs last "tell" [a,.int pl]:=⟨λ{fw d g S x K} hg hk=>by
 refine cd ⟨4,6,t27⟩ ?_;refine pd cZ (pd cv ?_);walk_at"w"
 exact hk⟩
theorem uW:PlC (.tup [.str "ask",.int pl]) [] kvs last "ask" [.int pl]:=⟨λ{fw d g S x K} hg hk=>by
 refine cd ⟨4,6,t27⟩ ?_;refine pd cZ (pd cv ?_);walk_at"w"
 exact hk⟩
end
section
variable{lv:Nat}{f:Fd}{ps np np2:List Int}{S:So}{pl:Int}{kvs:List (Key×U)}{u v a b c n1:U}{last:Bool}{y w:Str}{xs:List Str}
theorem xZ(h:BbC xs u pl kvs true f ps (.tup [n1,b]) np lv):MoC (.tup [.str "fn",.int pl,.tup (xs.map .str),u]) [] kvs last f ps "func" [n1,b,.int pl] np (lv+1):=⟨λ{fw d h0 q r g S x K} n hg hk=>by
 refine cd (d:=d+lv) ⟨5,14,t25⟩ ?_;refine pd cZ (pd cv (pd (cw rfl) (bT ?_)));refine pd (ce n.ob rfl) ?_;refine pd (bz (j:=2) rfl) ?_;refine pd (bz (j:=3) rfl) ?_;refine h.h n hg λS' n' p'=>?_;refine pd cv ?_;exact hk S' n' p'⟩
theorem xY(h:BoC u kvs last f ps b np lv)(h2:BoC v kvs last f (ps++np) c np2 lv):MoC (.tup [.str "if",.int pl,n1,u,v]) [a] kvs last f ps "if" [a,b,c,.int pl] (np++np2) (lv+1):=⟨λ{fw d h0 q r g S x K} n hg hk=>by
 refine cd (d:=d+lv) ⟨5,14,t25⟩ ?_;refine pd cZ (pd cv (pd (cf (by decide)) (bF (pd (cw rfl) (bT (pv (.tup [u,v]) (pv (.tup [u,v]) ?_)))))));refine bI (λ_=>?_) λz=>by cases z
 have gr:g≠r:=λe=>by rw[e,n.pl] at hg;cases hg
 refine pd (ce n.ob rfl) ?_;refine h.h n hg λS1 m1 p1=>?_;refine pd (ce m1.ob rfl) ?_;refine h2.h m1 (p1.ky gr hg) λS2 m2 p2=>?_;refine pv (.tup [b,c]) (pv (.tup [a,b,c]) (pv (.tup [a,b,c,.int pl]) ?_));rw[xAx] at m2;exact hk S2 m2 (p1.trans p2)⟩
theorem o8(h:BbC xs u pl kvs last f ps (.tup [n1,b]) np lv)(h2:BoC v kvs last f (ps++np) c np2 lv){z:U}:MoC (.tup [.str "match",.int pl,z,.str w,.tup (xs.map .str),u,v]) [a] kvs last f ps "match" [a,.str w,n1,b,c,.int pl] (np++np2) (lv+1):=⟨λ{fw d h0 q r g S x K} n hg hk=>by
 refine cd (d:=d+lv) ⟨5,14,t25⟩ ?_;refine pd cZ (pd cv (pd (cf (by decide)) (bF (pd (cf (by decide)) (bF (pd (cw rfl) (bT ?_)))))));have gr:g≠r:=λe=>by rw[e,n.pl] at hg;cases hg
 refine pd (ce n.ob rfl) ?_;refine pd (bz (j:=4) rfl) ?_;refine pd (bz (j:=5) rfl) ?_;refine h.h n hg λS1 m1 p1=>?_;refine pd cv ?_;refine pd (bz (j:=3) rfl) ?_;refine pd (ce m1.ob rfl) ?_;refine pd (bz (j:=6) rfl) ?_;refine h2.h m1 (p1.ky gr hg) λS2 m2 p2=>?_;refine pv (.tup [a,.str w,n1,b,c,.int pl]) ?_;rw[xAx] at m2;exact hk S2 m2 (p1.trans p2)⟩
theorem vE(h:BoC u kvs false f ps b np lv)(h2:BbC [y] v pl kvs last f (ps++np) (.tup [.tup [n1],c]) np2 lv):MoC (.tup [.str "try",.int pl,u,.str w,.str y,v]) [] kvs last f ps "try" [b,.str w,n1,c,.int pl] (np++np2) (lv+1):=⟨λ{fw d h0 q r g S x K} n hg hk=>by
 refine cd (d:=d+lv) ⟨5,14,t25⟩ ?_;refine pd cZ (pd cv (pd (cf (by decide)) (bF (pd (cf (by decide)) (bF (pd (cf (by decide)) (bF ?_)))))));have gr:g≠r:=λe=>by rw[e,n.pl] at hg;cases hg
 refine pd (ce n.ob rfl) ?_;refine pd (bz (j:=2) rfl) ?_;refine h.h n hg λS1 m1 p1=>?_;refine pd (ce m1.ob rfl) ?_;refine pd (bz (j:=4) rfl) ?_;refine pd (bz (j:=5) rfl) ?_;refine h2.h m1 (p1.ky gr hg) λS2 m2 p2=>?_;refine pd cv ?_;refine pd (bz (j:=3) rfl) ?_;refine pd bw ?_;rw[xAx] at m2;exact hk S2 m2 (p1.trans p2)⟩
end
def En(f:Fd)(β:Str->Int)(sc:List Str)(th:List Nat)(kvs:List (Key×U)):Prop:=∀y∈sc,∃a,getK (.inr y) kvs=some (.tup [a,.bl (isset f (β y) y)])/\AtR th a/\(isset f (β y) y=true->∃k∈th,a=.tup [.str "name",.int ((k:Nat):Int)])
section
variable{W:List Int}{f:Fd}{β:Str->Int}{sc xs:List Str}{th th' th1:List Nat}{kvs:List (Key×U)}{pl:Int}{n d lv:Nat}{y w:Str}{a:U}
theorem En.sub(h:En f β sc th kvs)(s:∀k∈th,k∈th'):En f β sc th' kvs:=λy hy=>by
 obtain⟨a,e,h1,h2⟩:=h y hy;exact⟨a,e,h1.sub s,λz=>by obtain⟨k,hk,e⟩:=h2 z;exact⟨k,s k hk,e⟩⟩
theorem En.up1(h:En f β sc th kvs)(ha:AtR th a)(hi:isset f pl y=true->∃k∈th,a=.tup [.str "name",.int ((k:Nat):Int)]):En f (up β [y] pl) (sc++[y]) th (pus kvs [(y,.tup [a,.bl (isset f pl y)])]):=λz hz=>by
 unfold K22.up;by_cases hx:z∈[y]
 ·rw[xCg hx];have:=xAm.mp hx;subst this;exact⟨a,gF (bs:=[(z,.tup [a,.bl (isset f pl z)])]) (by simp) (xAm.mpr rfl),ha,hi⟩
 ·rw[xCf hx,fF (by simpa using hx)];exact h z ((xAj.mp hz).resolve_right hx)
theorem fq:∀{xs:List Str}{n:Nat},(bnd f pl n xs).map (·.1)=xs
 |[],_=>rfl
 |y::r,n=>by show y::(bnd f pl (n+1) r).map (·.1)=_;rw[fq]
theorem sV{xs:List Str}{n:Nat}:(bnd f pl n xs).length=xs.length:=by
 rw[<- xAa (f:=λb:Str×U=>b.1),fq]
theorem lC:∀{xs:List Str}{n:Nat},y∈xs->∃k∈List.range' n xs.length,(y,U.tup [.tup [.str "name",.int ((k:Nat):Int)],.bl (isset f pl y)])∈bnd f pl n xs
 |z::r,n,h=>by
  rcases xAv.mp h with rfl|h
  ·exact⟨n,by rw[xAo,List.range'_succ];exact xAr ..,xAr ..⟩
  ·obtain⟨k,h1,h2⟩:=lC (n:=n+1) h;exact⟨k,by rw[xAo,List.range'_succ];exact xAs _ h1,xAs _ h2⟩
theorem En.upn(h:En f β sc th kvs)(hn:xs.Nodup):En f (up β xs pl) (sc++xs) (th++List.range' n xs.length) (pus kvs (bnd f pl n xs)):=λz hz=>by
 unfold K22.up;by_cases hx:z∈xs
 ·rw[xCg hx];obtain⟨k,h1,h2⟩:=lC (f:=f) (pl:=pl) (n:=n) hx;exact⟨_,gF (by rw[fq];exact hn) h2,.nam (xBt _ h1),λ_=>⟨k,xBt _ h1,rfl⟩⟩
 ·rw[xCf hx,fF (by rw[fq];exact hx)];obtain⟨a,e,g1,g2⟩:=h z ((xAj.mp hz).resolve_right hx);exact⟨a,e,g1.sub λk z=>xBw _ z,λz=>by obtain⟨k,hk,e⟩:=g2 z;exact⟨k,xBw _ hk,e⟩⟩
structure RF(W:List Int)(lv:Nat)(th:List Nat)(ps:List Int)(c:Nat)(as us:List U)(np:List Int)(th':List Nat):Prop where
 sr:SR W lv th ps.length us th' (ps.length+np.length)
 ar:∀a∈as,AtR th' a
 lu:us.length<=np.length
 ln:np.length<=6*c
 lt:th'.length<=ps.length+np.length
 me:∀p∈np,p∈W
theorem RF.nil{ps:List Int}(h:th.length<=ps.length):RF W lv th ps 0 [] [] [] th:=⟨.nil,λ_ z=>(nomatch z),xAg _,xBn _,h,λ_ z=>(nomatch z)⟩
theorem RF.app{ps np np2:List Int}{c c2:Nat}{as as2 us us2:List U}{th2:List Nat}(a:RF W lv th ps c as us np th1)(b:RF W lv th1 (ps++np) c2 as2 us2 np2 th2):RF W lv th ps (c+c2) (as++as2) (us++us2) (np++np2) th2:=by
 have e:(ps++np).length=ps.length+np.length:=xAb;refine⟨?_,λz hz=>?_,?_,?_,?_,λp hp=>(xAj.mp hp).elim (a.me p) (b.me p)⟩
 ·have:=b.sr;rw[e] at this;rw[xAb,<- Nat.add_assoc];exact a.sr.app this
 ·exact(xAj.mp hz).elim (λh=>(a.ar z h).sub b.sr.sub) (b.ar z)
 ·rw[xAb,xAb];have:=a.lu;have:=b.lu;lia
 ·rw[xAb];have:=a.ln;have:=b.ln;lia
 ·rw[xAb];have:=b.lt;lia
theorem RF.up{ps np:List Int}{c c2 lv':Nat}{as us:List U}(a:RF W lv th ps c as us np th1)(h:lv<=lv')(hc:c<=c2):RF W lv' th ps c2 as us np th1:=⟨a.sr.up h,a.ar,a.lu,by have:=a.ln;lia,a.lt,a.me⟩
theorem ff{ps np2:List Int}{c:Nat}{us:List U}{bs:List (List Nat×U)}(R:RF W (lv+1) th ps c as us np th1)(B:BR W th1 lv (ps.length+np.length) bs n')(hn:n'=ps.length+np.length+np2.length)(cc:Wd1 W th1 w (ps.length+np.length+np2.length) more as' bs)(h2:2<=lv)(l2:np2.length+1<=6*c2)(hp:pl∈W)(m2:∀p∈np2,p∈W)(hb:ps.length+np.length+np2.length<=9000):RF W (lv+1) th ps (c+c2) [.tup [.str "name",.int ((ps.length+np.length+np2.length:Nat):Int)]] (us++[.tup (.str w::.int ((ps.length+np.length+np2.length:Nat):Int)::more)]) (np++(np2++[pl])) (th1++[ps.length+np.length+np2.length]):=by
 subst hn;have lt:=R.lt;have st:=wW cc B (by lia) h2 (by lia);have sr:=R.sr.app (.cons st .nil);refine⟨?_,λz hz=>?_,?_,?_,?_,λp hp'=>?_⟩
 ·rw[xAb,xAb,xAt,show ps.length+(np.length+(np2.length+1))=ps.length+np.length+np2.length+1 by lia];exact sr
 ·rw[xAm.mp hz];exact .nam (xBt _ (xAm.mpr rfl))
 ·simp only[xAb,xAt];have:=R.lu;lia
 ·simp only[xAb,xAt];have:=R.ln;lia
 ·simp only[xAb,xAt];lia
 ·rcases xAj.mp hp' with z|z
  ·exact R.me p z
  ·rcases xAj.mp z with z|z
   ·exact m2 p z
   ·rw[xAm.mp z];exact hp
theorem BR.cons0{n1:Nat}{b:U}{bs:List (List Nat×U)}(h:BoR W th n b n1 lv)(hb:n<=10000)(t:BR W th lv n1 bs n'):BR W th lv n (([],b)::bs) n':=.cons (m:=0) (by rw[List.range'_zero,xB0];exact h) hb t
def NPr(W:List Int)(f:Fd)(sc:List Str)(d:Nat)(P:Pg):Prop:=∀{β:Str->Int}{kvs:List (Key×U)}{th:List Nat},En f β sc th kvs->(∀b∈P.sts β,isset f b.1 b.2=true)->(∀p∈P.pls,p∈W)->kvs.length+5*d<=800->∀(last:Bool)(ps:List Int),th.length<=ps.length->ps.length+6*P.pls.length<=5000->∃a us np th',AtC P.u kvs last f ps a us np (4*d+3)/\RF W (2*d+3) th ps P.pls.length [a] us np th'
theorem jy(hk:kvs.length+5*d<=800):∀{as:List Pg}{th:List Nat}(ps:List Int),(∀a∈as,NPr W f sc d a)->En f β sc th kvs->(∀b∈Pg.stss as β,isset f b.1 b.2=true)->(∀p∈Pg.plss as,p∈W)->th.length<=ps.length->ps.length+6*(Pg.plss as).length<=5000->∃zs us np th',zs.length=as.length/\ACs kvs f (4*d+3) ps (Pg.us as) zs us np/\RF W (2*d+3) th ps (Pg.plss as).length zs us np th'
 |[],th,ps,_,_,_,_,hl,_=>⟨[],[],[],th,rfl,.nil,.nil hl⟩
 |a::r,th,ps,h,hE,hs,hp,hl,hb=>by
  have e:(Pg.plss (a::r)).length=a.pls.length+(Pg.plss r).length:=xAb;obtain⟨z,us,np,th1,c1,r1⟩:=h a (xAr ..) hE (λb hb=>hs b (xBw _ hb)) (λp z=>hp p (xBw _ z)) hk false ps hl (by lia);have:=r1.ln;have:=r1.lt;have el:(ps++np).length=ps.length+np.length:=xAb;obtain⟨zs,us2,np2,th2,e2,c2,r2⟩:=jy hk (ps++np) (λb z=>h b (xAs _ z)) (hE.sub r1.sr.sub) (λb hb=>hs b (xBt _ hb)) (λp z=>hp p (xBt _ z)) (by lia) (by lia);exact⟨z::zs,us++us2,np++np2,th2,by rw[xAo,xAo,e2],.cons c1 r1.lu c2,by rw[e];exact r1.app r2⟩
end
section
variable{W:List Int}{f:Fd}{β:Str->Int}{sc xs:List Str}{th th' th1:List Nat}{kvs:List (Key×U)}{pl:Int}{n d lv lw:Nat}{y w:Str}{a u v b:U}{us us2:List U}{ps np np2:List Int}{P:Pg}{last:Bool}
theorem ACs.up{lv':Nat}{parts as:List U}(c:ACs kvs f lv ps parts as us np)(h:lv<=lv'):ACs kvs f lv' ps parts as us np:=by
 induction c with
 |nil=>exact .nil
 |cons c hl t ih=>exact .cons (c.up h) hl ih
theorem ACs.one(c:AtC u kvs false f ps a us np lv)(hl:us.length<=np.length):ACs kvs f lv ps [u] [a] us np:=by
 have:=ACs.cons c hl .nil
 rwa[xB0,xB0] at this
theorem BbC.up(c:BbC xs u pl kvs last f ps v np lv)(hl:lv<=lv'):BbC xs u pl kvs last f ps v np lv':=⟨λ{fw d h q r g S x K} a b k=>by
 have:=c.h (fw:=fw) (d:=d+(lv'-lv)) (x:=x) a b k;rw[show d+(lv'-lv)+lv=d+lv' by lia] at this;exact this⟩
theorem dJ(h:NPr W f sc d P)(hE:En f β sc th kvs)(hs:∀b∈P.sts β,isset f b.1 b.2=true)(hp:∀p∈P.pls,p∈W)(hk:kvs.length+5*d<=800)(last:Bool)(ps:List Int)(hl:th.length<=ps.length)(hb:ps.length+6*P.pls.length<=5000)(h1:4*d+4<=lv)(h2:2*d+4<=lw):∃b np,BoC P.u kvs last f ps b np lv/\BoR W th ps.length b (ps.length+np.length) lw/\np.length<=6*P.pls.length/\∀p∈np,p∈W:=by
 obtain⟨a,us,np,th',c,r⟩:=h hE hs hp hk last ps hl hb;have:=r.ln;have:=r.lu;exact⟨_,np,(zu c).up h1,(yJ r.sr (r.ar a (xAm.mpr rfl)) (by lia) (by lia)).up h2,r.ln,r.me⟩
theorem fI(h:NPr W f (sc++xs) d P)(hE:En f β sc th kvs)(nd:xs.Nodup)(few:xs.length<=4)(hs:∀b∈P.sts (K22.up β xs pl),isset f b.1 b.2=true)(hp:∀p∈P.pls,p∈W)(hpl:pl∈W)(hk:kvs.length+5*(d+1)<=800)(last:Bool)(ps:List Int)(hl:th.length<=ps.length)(hb:ps.length+6*P.pls.length+4<=5000)(h1:4*d+5<=lv)(h2:2*d+4<=lw):∃b np,BbC xs P.u pl kvs last f ps (.tup [.tup (nu (List.range' ps.length xs.length)),b]) np lv/\BoR W (th++List.range' ps.length xs.length) (ps.length+xs.length) b (ps.length+np.length) lw/\np.length<=6*P.pls.length+4/\∀p∈np,p∈W:=by
 have pl':=ef (bs:=bnd f pl ps.length xs) (kvs:=kvs);rw[sV] at pl';have e:(ps++List.replicate xs.length pl).length=ps.length+xs.length:=by rw[xAb,xCu]
 obtain⟨b,np,c,r,ln,me⟩:=dJ (lv:=4*d+4) (lw:=lw) h (hE.upn (n:=ps.length) nd) hs hp (by lia) last (ps++List.replicate xs.length pl) (by rw[e,xAb,List.length_range'];lia) (by lia) (xAg _) h2;rw[e] at r;refine⟨b,_,(zv c few (by lia) (by lia) (by lia)).up h1,?_,by rw[xAb,xCu];lia,λp z=>?_⟩
 ·rw[xAb,xCu,<- Nat.add_assoc];exact r
 ·rcases xAj.mp z with z|z
  ·rw[List.eq_of_mem_replicate z];exact hpl
  ·exact me p z
theorem mc{x:Int}{r:List Int}(h:∀p∈x::r,p∈W):x∈W/\∀p∈r,p∈W:=⟨h _ (xAr ..),λp z=>h p (xAs _ z)⟩
theorem ma{α:Type}{q:α->Prop}{r s:List α}(h:∀p∈r++s,q p):(∀p∈r,q p)/\∀p∈s,q p:=⟨λp z=>h p (xBw _ z),λp z=>h p (xBt _ z)⟩
theorem RF.one{c:Nat}(r:RF W lv th ps c [a] us np th'):AtR th' a:=r.ar a (xAm.mpr rfl)
theorem jz:∀p∈([]:List Int),p∈W:=λ_ z=>nomatch z
theorem fH{k:Str}{c:Nat}(kd:Kd k false)(pa:PaC (.tup (.str k::.int pl::rr)) parts)(A:ACs kvs f (4*d+3) ps parts as us np)(h4:parts.length<=100)(m:PlC (.tup (.str k::.int pl::rr)) as kvs last w more)(R:RF W (2*d+3) th ps c as us np th1)(cc:Wd1 W th1 w (ps.length+np.length) more as' [])(hp:pl∈W)(hb:ps.length+np.length<=9000)(hm:more.length<=100)(hc:c+1<=c2):∃a us np th',AtC (.tup (.str k::.int pl::rr)) kvs last f ps a us np (4*(d+1)+3)/\RF W (2*(d+1)+3) th ps c2 [a] us np th':=
 ⟨_,_,_,_,qi (lv:=4*(d+1)+1) kd pa (A.up (by lia)) h4 m R.lu hb hm,(ff (np2:=[]) (c2:=1) (R.up (lv':=2*(d+1)+3) (by lia) (xAg _)) .nil rfl cc (by lia) (by decide) hp jz hb).up (xAg _) hc⟩
theorem kE{k:Str}{c c3:Nat}{bs:List (List Nat×U)}(kd:Kd k true)(pa:PaC (.tup (.str k::.int pl::rr)) parts)(A:ACs kvs f (4*d+3) ps parts as us np)(h4:parts.length<=100)(m:MoC (.tup (.str k::.int pl::rr)) as kvs last f (ps++np) w more np2 (4*d+6))(R:RF W (2*d+3) th ps c as us np th1)(B:BR W th1 (2*d+4) (ps.length+np.length) bs n')(hn:n'=ps.length+np.length+np2.length)(cc:Wd1 W th1 w (ps.length+np.length+np2.length) more as' bs)(hp:pl∈W)(m2:∀p∈np2,p∈W)(hb:ps.length+np.length+np2.length<=9000)(hm:more.length<=100)(l2:np2.length+1<=6*c3)(hc:c+c3<=c2):∃a us np th',AtC (.tup (.str k::.int pl::rr)) kvs last f ps a us np (4*(d+1)+3)/\RF W (2*(d+1)+3) th ps c2 [a] us np th':=
 ⟨_,_,_,_,(qj (lv:=4*d+5) kd pa (A.up (by lia)) h4 m R.lu hb hm).up (by lia),(ff (lv:=2*d+4) (c2:=c3) (R.up (lv':=2*d+5) (by lia) (xAg _)) B hn cc (by lia) l2 hp m2 hb).up (by lia) hc⟩
theorem kdF{k:Str}(h1:k≠"number":=by decide)(h2:k≠"name":=by decide)(h3:k≠"do":=by decide)(h4:k≠"let":=by decide)(ho:anyF (.str k) [.str "fn",.str "if",.str "match",.str "try"]=false:=by rfl):Kd k false:=⟨h1,h2,h3,h4,ho⟩
theorem kdT{k:Str}(h1:k≠"number":=by decide)(h2:k≠"name":=by decide)(h3:k≠"do":=by decide)(h4:k≠"let":=by decide)(ho:anyF (.str k) [.str "fn",.str "if",.str "match",.str "try"]=true:=by rfl):Kd k true:=⟨h1,h2,h3,h4,ho⟩
end
section
variable{W:List Int}{f:Fd}{N:Str->Prop}{sc:List Str}{d:Nat}{P:Pg}
theorem RF.sel{c:Nat}{th:List Nat}{ps:List Int}{us:List U}(r:RF W lv th ps c as us np th')(h:∀z∈as',z∈as):RF W lv th ps c as' us np th':=⟨r.sr,λz hz=>r.ar z (h z hz),r.lu,r.ln,r.lt,r.me⟩
theorem RF.at0{c:Nat}{th:List Nat}{ps:List Int}{a:U}(h:AtR th a)(hl:th.length<=ps.length):RF W lv th ps c [a] [] [] th:=⟨.nil,λz hz=>by rw[xAm.mp hz];exact h,xAg _,xBn _,hl,λ_ z=>(nomatch z)⟩
theorem vA(h:Wf N sc d P):NPr W f sc d P:=by
 induction h with
 |@num sc d pl n h1 h2=>
  intro β kvs th hE hs hp hk last ps hl hb;exact⟨_,_,_,th,wG (lv:=4*d+2),.at0 .num hl⟩
 |@nam sc d pl y h=>
  intro β kvs th hE hs hp hk last ps hl hb;obtain⟨a,e,ha,hi⟩:=hE y h;cases hb':isset f (β y) y with
  |false=>
   rw[hb'] at e;exact⟨_,_,_,th,tq (lv:=4*d+1) e,.at0 ha hl⟩
  |true=>
   rw[hb'] at e;obtain⟨k,hk,rfl⟩:=hi hb';exact⟨_,_,_,_,tp (lv:=4*d) e (by lia),ff (lv:=2*d+2) (np:=[]) (np2:=[]) (c:=0) (c2:=1) (.nil hl) .nil rfl (ug hk) (by lia) (by decide) (mc hp).1 jz (by show ps.length+0+0<=9000;lia)⟩
 |@fn sc xs d pl b h hb ib=>
  intro β kvs th hE hs hp hk last ps hl hb;have hb:ps.length+6*(b.pls.length+1)<=5000:=hb;obtain⟨v,npb,bc,br,ln,me⟩:=fI (lv:=4*d+5) (lw:=2*d+4) ib hE h.nd h.few hs (mc hp).2 (mc hp).1 hk true ps hl (by lia) (xAg _) (xAg _);have few:=h.few;exact kE (c:=0) (c3:=b.pls.length+1) (np:=[]) (np2:=npb) kdT xw .nil (by decide) (by rw[xB0];exact xZ bc) (.nil hl) (.cons (m:=xs.length) br (by show ps.length+0+xs.length<=_;lia) .nil) rfl (uj (mc hp).1) (mc hp).1 me (by show ps.length+0+_<=_;lia) (by show 3<=100;decide) (by lia) (by show 0+(b.pls.length+1)<=b.pls.length+1;lia)
 |@call sc d pl u as hf' h h4 i1 i2=>
  intro β kvs th hE hs hp hk last ps hl hb;have e:(Pg.call pl u as).pls.length=u.pls.length+(Pg.plss as).length+1:=by show(u.pls++Pg.plss as).length+1=_;rw[xAb]
  obtain⟨z,us,np,th1,c1,r1⟩:=i1 hE (ma hs).1 (ma (mc hp).2).1 (by lia) false ps hl (by lia);have:=r1.ln;have:=r1.lt;have el:(ps++np).length=ps.length+np.length:=xAb;obtain⟨zs,us2,np2,th2,e2,c2,r2⟩:=jy (by lia) (ps++np) i2 (hE.sub r1.sr.sub) (ma hs).2 (ma (mc hp).2).2 (by lia) (by lia);have:=r2.ln;have R:=r1.app r2;exact fH kdF (rJ (by rw[eD];lia)) (.cons c1 r1.lu c2) (by rw[xAo,eD];lia) rh R (uk (mc hp).1 (R.ar z (xAr ..)) (λy hy=>R.ar y (xAs _ hy)) (by lia)) (mc hp).1 (by rw[xAb];lia) (by show 4<=100;decide) (by lia)
 |@lt sc d pl y a b hx ha hb i1 i2=>
  intro β kvs th hE hs hp hk last ps hl hb;have e:(Pg.lt pl y a b).pls.length=a.pls.length+b.pls.length+1:=by show(a.pls++b.pls).length+1=_;rw[xAb]
  obtain⟨z,us,np,th1,c1,r1⟩:=i1 hE (ma hs).1 (ma (mc hp).2).1 (by lia) false ps hl (by lia);have:=r1.ln;have:=r1.lt;have el:(ps++np).length=ps.length+np.length:=xAb;cases hi:isset f pl y with
  |false=>
   have E2:=(hE.sub r1.sr.sub).up1 (pl:=pl) (y:=y) r1.one (λz=>by rw[hi] at z;cases z);rw[hi] at E2;have pk:=ef (bs:=[(y,U.tup [z,.bl false])]) (kvs:=kvs);obtain⟨z2,us2,np2,th2,c2,r2⟩:=i2 E2 (ma hs).2 (ma (mc hp).2).2 (by rw[xAt] at pk;lia) last (ps++np) (by lia) (by lia);exact⟨_,_,_,_,(tx c1 c2 r1.lu hi (by lia)).up (by lia),((r1.app r2).sel (λq hq=>xBt _ hq)).up (by lia) (by lia)⟩
  |true=>
   have R:=ff (lv:=2*d+2) (np2:=[]) (c2:=1) r1 .nil rfl (qv (mc hp).1 r1.one) (by lia) (by decide) (mc hp).1 jz (by show ps.length+np.length+0<=9000;lia);have E2:=(hE.sub R.sr.sub).up1 (pl:=pl) (y:=y) R.one (λ_=>⟨ps.length+np.length,xBt _ (xAm.mpr rfl),rfl⟩);rw[hi] at E2;have pk:=ef (bs:=[(y,U.tup [.tup [.str "name",.int ((ps.length+np.length:Nat):Int)],.bl true])]) (kvs:=kvs);have l2:(ps++(np++[pl])).length=ps.length+np.length+1:=by simp only[xAb,xAt];lia
   obtain⟨z2,us2,np2,th2,c2,r2⟩:=i2 E2 (ma hs).2 (ma (mc hp).2).2 (by rw[xAt] at pk;exact xCk (Nat.add_le_add_right pk _) (by lia)) last (ps++(np++[pl])) (by rw[l2,xAb,xAt];lia) (by lia);have R2:=(R.app r2).sel (as':=[z2]) (λq hq=>xBt _ hq);simp only[xAx,List.singleton_append,xC6] at R2;exact⟨_,_,_,_,(tu c1 (by rw[xAx];exact c2) r1.lu hi (by lia) (by lia) (by lia)).up (by lia),R2.up (by lia) (by lia)⟩
 |@st sc d pl y a hx ha i1=>
  intro β kvs th hE hs hp hk last ps hl hb;have hb:ps.length+6*(a.pls.length+1)<=5000:=hb;obtain⟨z,us,np,th1,c1,r1⟩:=i1 hE (λb z=>hs b (xAs _ z)) (mc hp).2 (by lia) false ps hl (by lia);have:=r1.ln;obtain⟨a',e,ha',hi⟩:=hE y hx;have t:=hs (β y,y) (xAr ..);obtain⟨k,hk',rfl⟩:=hi t;exact fH kdF vh (.one c1 r1.lu) (by show 1<=100;decide) (uV e) r1 (wN (mc hp).1 (r1.sr.sub k hk') r1.one) (mc hp).1 (by lia) (by show 3<=100;decide) (xAg _)
 |@dd sc d pl a b ha hb i1 i2=>
  intro β kvs th hE hs hp hk last ps hl hb;have e:(Pg.dd pl a b).pls.length=a.pls.length+b.pls.length+1:=by show(a.pls++b.pls).length+1=_;rw[xAb]
  obtain⟨z,us,np,th1,c1,r1⟩:=i1 hE (ma hs).1 (ma (mc hp).2).1 (by lia) false ps hl (by lia);have:=r1.ln;have:=r1.lt;have el:(ps++np).length=ps.length+np.length:=xAb;obtain⟨z2,us2,np2,th2,c2,r2⟩:=i2 (hE.sub r1.sr.sub) (ma hs).2 (ma (mc hp).2).2 (by lia) last (ps++np) (by lia) (by lia);exact⟨_,_,_,_,(yL c1 c2 r1.lu).up (by lia),((r1.app r2).sel (λq hq=>xBt _ hq)).up (by lia) (by lia)⟩
 |@iff sc d pl a b c ha hb hc i1 i2 i3=>
  intro β kvs th hE hs hp hk last ps hl hb;have e:(Pg.iff pl a b c).pls.length=a.pls.length+(b.pls.length+c.pls.length)+1:=by show(a.pls++(b.pls++c.pls)).length+1=_;rw[xAb,xAb]
  obtain⟨z,us,np,th1,c1,r1⟩:=i1 hE (ma hs).1 (ma (mc hp).2).1 (by lia) false ps hl (by lia);have:=r1.ln;have:=r1.lt;have el:(ps++np).length=ps.length+np.length:=xAb;have E1:=hE.sub r1.sr.sub;obtain⟨v,npb,bc,br,lnb,meb⟩:=dJ (lv:=4*d+5) (lw:=2*d+4) i2 E1 (ma (ma hs).2).1 (ma (ma (mc hp).2).2).1 (by lia) last (ps++np) (by lia) (by lia) (by lia) (xAg _);have el2:(ps++np++npb).length=ps.length+np.length+npb.length:=by rw[xAb,el]
  obtain⟨v2,npc,bc2,br2,lnc,mec⟩:=dJ (lv:=4*d+5) (lw:=2*d+4) i3 E1 (ma (ma hs).2).2 (ma (ma (mc hp).2).2).2 (by lia) last (ps++np++npb) (by lia) (by lia) (by lia) (xAg _);rw[el] at br;rw[el2] at br2;exact kE (c3:=b.pls.length+c.pls.length+1) (np2:=npb++npc) kdT xu (.one c1 r1.lu) (by show 1<=100;decide) (xY bc bc2) r1 (.cons0 br (by lia) (.cons0 br2 (by lia) .nil)) (by rw[xAb];lia) (yN (mc hp).1 r1.one) (mc hp).1 (λp z=>(xAj.mp z).elim (meb p) (mec p)) (by rw[xAb];lia) (by show 4<=100;decide) (by rw[xAb];lia) (by lia)
 |@math sc d pl o a b ho ha hb i1 i2=>
  intro β kvs th hE hs hp hk last ps hl hb;have e:(Pg.math pl o a b).pls.length=a.pls.length+b.pls.length+1:=by show(a.pls++b.pls).length+1=_;rw[xAb]
  obtain⟨z,us,np,th1,c1,r1⟩:=i1 hE (ma hs).1 (ma (mc hp).2).1 (by lia) false ps hl (by lia);have:=r1.ln;have:=r1.lt;have el:(ps++np).length=ps.length+np.length:=xAb;obtain⟨z2,us2,np2,th2,c2,r2⟩:=i2 (hE.sub r1.sr.sub) (ma hs).2 (ma (mc hp).2).2 (by lia) false (ps++np) (by lia) (by lia);have:=r2.ln;have R:=r1.app r2;exact fH kdF rF (.cons c1 r1.lu (.one c2 r2.lu)) (by show 2<=100;decide) rd R (uh (mc hp).1 ho (R.ar z (xAr ..)) r2.one) (mc hp).1 (by rw[xAb];lia) (by show 4<=100;decide) (by lia)
 |@make sc d pl t as ht h h4 i2=>
  intro β kvs th hE hs hp hk last ps hl hb;have hb:ps.length+6*((Pg.plss as).length+1)<=5000:=hb;obtain⟨zs,us2,np2,th2,e2,c2,r2⟩:=jy (by lia) ps i2 hE hs (mc hp).2 hl (by lia);have:=r2.ln;exact fH kdF rG c2 (by rw[eD];lia) rf r2 (ui (mc hp).1 r2.ar) (mc hp).1 (by lia) (by show 3<=100;decide) (xAg _)
 |@mat sc xs d pl t a b c ht hx ha hb hc i1 i2 i3=>
  intro β kvs th hE hs hp hk last ps hl hb;have e:(Pg.mat pl a t xs b c).pls.length=a.pls.length+(b.pls.length+c.pls.length)+1:=by show(a.pls++(b.pls++c.pls)).length+1=_;rw[xAb,xAb]
  obtain⟨z,us,np,th1,c1,r1⟩:=i1 hE (ma hs).1 (ma (mc hp).2).1 (by lia) false ps hl (by lia);have:=r1.ln;have:=r1.lt;have el:(ps++np).length=ps.length+np.length:=xAb;have E1:=hE.sub r1.sr.sub;obtain⟨v,npb,bc,br,lnb,meb⟩:=fI (lv:=4*d+5) (lw:=2*d+4) i2 E1 hx.nd hx.few (ma (ma hs).2).1 (ma (ma (mc hp).2).2).1 (mc hp).1 hk last (ps++np) (by lia) (by lia) (xAg _) (xAg _);have el2:(ps++np++npb).length=ps.length+np.length+npb.length:=by rw[xAb,el]
  obtain⟨v2,npc,bc2,br2,lnc,mec⟩:=dJ (lv:=4*d+5) (lw:=2*d+4) i3 E1 (ma (ma hs).2).2 (ma (ma (mc hp).2).2).2 (by lia) last (ps++np++npb) (by lia) (by lia) (by lia) (xAg _);have few:=hx.few;rw[el] at br bc;rw[el2] at br2;exact kE (c3:=b.pls.length+c.pls.length+1) (np2:=npb++npc) kdT oP (.one c1 r1.lu) (by show 1<=100;decide) (o8 bc bc2) r1 (.cons br (by lia) (.cons0 br2 (by lia) .nil)) (by rw[xAb];lia) (qx (mc hp).1 r1.one) (mc hp).1 (λp z=>(xAj.mp z).elim (meb p) (mec p)) (by rw[xAb];lia) (by show 6<=100;decide) (by rw[xAb];lia) (by lia)
 |@rai sc d pl w a hw ha i1=>
  intro β kvs th hE hs hp hk last ps hl hb;have hb:ps.length+6*(a.pls.length+1)<=5000:=hb;obtain⟨z,us,np,th1,c1,r1⟩:=i1 hE hs (mc hp).2 (by lia) false ps hl (by lia);have:=r1.ln;exact fH kdF oO (.one c1 r1.lu) (by show 1<=100;decide) oj r1 (qw (mc hp).1 r1.one) (mc hp).1 (by lia) (by show 3<=100;decide) (xAg _)
 |@try_ sc d pl w y a b hw hx ha hb i1 i2=>
  intro β kvs th hE hs hp hk last ps hl hb;have e:(Pg.try_ pl a w y b).pls.length=a.pls.length+b.pls.length+1:=by show(a.pls++b.pls).length+1=_;rw[xAb]
  obtain⟨v,npb,bc,br,lnb,meb⟩:=dJ (lv:=4*d+5) (lw:=2*d+4) i1 hE (ma hs).1 (ma (mc hp).2).1 (by lia) false ps hl (by lia) (by lia) (xAg _);have el:(ps++npb).length=ps.length+npb.length:=xAb;obtain⟨v2,npc,bc2,br2,lnc,mec⟩:=fI (xs:=[y]) (lv:=4*d+5) (lw:=2*d+4) i2 hE (by simp) (by simp) (ma hs).2 (ma (mc hp).2).2 (mc hp).1 hk last (ps++npb) (by lia) (by lia) (xAg _) (xAg _);rw[el] at br2 bc2;exact kE (c:=0) (c3:=a.pls.length+b.pls.length+1) (np:=[]) (np2:=npb++npc) kdT vg .nil (by decide) (by rw[xB0];exact vE bc bc2) (.nil hl) (.cons0 br (by show ps.length+0<=_;lia) (.cons (m:=1) br2 (by lia) .nil)) (by rw[xAb];show _=ps.length+0+_;lia) (wM (mc hp).1) (mc hp).1 (λp z=>(xAj.mp z).elim (meb p) (mec p)) (by rw[xAb];show ps.length+0+_<=_;lia) (by show 5<=100;decide) (by rw[xAb];lia) (by lia)
 |@tell sc d pl a ha i1=>
  intro β kvs th hE hs hp hk last ps hl hb;have hb:ps.length+6*(a.pls.length+1)<=5000:=hb;obtain⟨z,us,np,th1,c1,r1⟩:=i1 hE hs (mc hp).2 (by lia) false ps hl (by lia);have:=r1.ln;exact fH kdF rE (.one c1 r1.lu) (by show 1<=100;decide) qZ r1 (uf (mc hp).1 r1.one) (mc hp).1 (by lia) (by show 2<=100;decide) (xAg _)
 |@ask sc d pl=>
  intro β kvs th hE hs hp hk last ps hl hb;have hb:ps.length+6*1<=5000:=hb;exact fH (c:=0) (np:=[]) kdF vi .nil (by decide) uW (.nil hl) (wO (mc hp).1) (mc hp).1 (by show ps.length+0<=_;lia) (by show 1<=100;decide) (xAg _)
end
section
variable{N:Str->Prop}{sc:List Str}{d n:Nat}{P:Pg}
structure PlsC(u:U)(W:List Int)(lv:Nat):Prop where
 h:∀{fw d:Nat}{S:So}{x:Kx Prop}{K:Kv Prop},(∀S' q,Kp S S'->S.length<=q->at? S' q=some (.lst (W.map .int))->K (.ref q) S')->(Gd fw (d+lv)).call 53 [u] S x K
theorem PlsC.up{u:U}{W:List Int}(c:PlsC u W lv)(h:lv<=lv'):PlsC u W lv':=⟨λ{fw d S x K} k=>by
 have:=c.h (fw:=fw) (d:=d+(lv'-lv)) (x:=x) k;rw[show d+(lv'-lv)+lv=d+lv' by lia] at this;exact this⟩
inductive PR(lv:Nat):List U->List Int->Prop
 |nil:PR lv [] []
 |cons {u:U} {r:List U} {W V:List Int} (h:PlsC u W lv) (t:PR lv r V):PR lv (u::r) (W++V)
theorem n9{u:U}(hu:∀{S:So},pr ups (.isT "tuple") [u] S = .ok (.bl false) S):PlsC u [] (lv+1):=⟨λ{fw d S x K} hk=>by
 refine cd (d:=d+lv) ⟨1,3,t53⟩ ?_;refine pd (v:=.ref S.length) (S':=S++[.lst []]) (by rfl) ?_;refine pd hu ?_;refine bF ?_;exact hk _ _ ⟨by simp,λz=>atApp z⟩ (xAg _) atNew⟩
theorem kh{i:Int}:PlsC (.int i) [] (lv+1):=n9 rfl
theorem gI{w:Str}:PlsC (.str w) [] (lv+1):=n9 rfl
theorem uT{q:Nat}{r:List U}{V:List Int}(p:PR lv r V):∀{S:So}{W:List Int}{a2:Option U},at? S q=some (.lst (W.map .int))->W.length+V.length<=10000->(∀S' a2,S.length<=S'.length->(∀{p o},p≠q->at? S p=some o->at? S' p=some o)->at? S' q=some (.lst ((W++V).map .int))->kk [a0,some (.ref q),a2] S')->forK r (λv σ1 S2 nx=>tgt [2] true (Gd fw (d+lv)) v σ1 λσ2=>bd53 (Gd fw (d+lv)) σ2 S2 (lpE E nx)) [a0,some (.ref q),a2] S kk:=by
 induction p with
 |nil=>intro S W a2 h _ hk;exact hk S a2 (xAg _) (λ_ z=>z) (by rw[xB0];exact h)
 |@cons u r W1 V c t ih=>
  intro S W a2 h hl hk;rw[xAb] at hl;rw[forK];refine pd (cz h) ?_;refine c.h λS1 p1 k1 lp e1=>?_;have q1:=k1.ky h;refine pd (v:=.non) (S':=set S1 q (.lst ((W++W1).map .int))) ?_ ?_
  ·delta pr;dsimp only[lstU,lsT];rw[q1,e1];dsimp only;rw[fitsO (by show _<=2^24;rw[xAa,xAa];lia),xAi]
  refine ih (W:=W++W1) (atSet q1) (by rw[xAb];lia) λS' a2 ln ky h'=>?_;rw[xAx] at h';exact hk S' a2 (by rw[lenSet] at ln;have:=k1.len;lia) (λn1 z=>ky n1 (atN (Ne.symm n1) (k1.ky z))) h'
theorem gH{xs:List U}{V:List Int}{o:Option Int}(p:PR (lv+1) xs V)(hl:V.length<=9000)(ho:match o with
   |some pl=>∃k r,xs=.str k::.int pl::r
   | none=>xs.length<=1\/(∃u r,xs=u::r/\∀{S:So},pr ups (.isT "str") [u] S = .ok (.bl false) S)\/∃k w r,xs = .str k::.str w::r):PlsC (.tup xs) (o.toList++V) (lv+2):=⟨λ{fw d S x K} hk=>by
 refine cd (d:=d+(lv+1)) ⟨1,3,t53⟩ ?_;refine pd (v:=.ref S.length) (S':=S++[.lst []]) (by rfl) ?_;have q0:at? (S++[Ob.lst []]) S.length=some (.lst (([]:List Int).map .int)):=atNew;have k0:Kp S (S++[Ob.lst []]):=⟨by simp,λz=>atApp z⟩
 have l0:(S++[Ob.lst []]).length=S.length+1:=by simp
 generalize S++[Ob.lst []]=T at q0 k0 l0;refine pv (.bl true) (bT ?_);have fin:∀{W:List Int}{T:So},W.length<=1->at? T S.length=some (.lst (W.map .int))->Kp S T->(∀S' q,Kp S S'->S.length<=q->at? S' q=some (.lst ((W++V).map .int))->K (.ref q) S')->(Jh (sF (J6 .seq J0) [2] true bd53)) (Gd fw (d+(lv+1))) [some (.tup xs),some (.ref S.length),none] T (sqE (endsOf x K) λσ1 S1=>sQ (sR (cV 1)) sN (Gd fw (d+(lv+1))) σ1 S1 (endsOf x K)):=λ{W T} hW hq kp hk=>by
  refine pv (.tup xs) ?_;refine uT p hq (by lia) λS' a2 ln ky h'=>?_;refine hk S' S.length ⟨xCk kp.len ln,λz=>ky (by have:=atLt z;lia) (kp.ky z)⟩ (xAg _) h'
 refine pv (.int xs.length) (pv (.bl (decide (1<(xs.length:Int)))) ?_);cases o with
 |some pl=>
  obtain⟨k,r,rfl⟩:=ho;rw[xBd (by rw[xAo,xAo];lia)];refine bT (pd bw (pv (.bl true) (bT (pd cx ?_))));refine eQ (d:=d+lv) ?_;refine bT (pd (cz q0) (pd cx ?_));refine pd (db q0 (by decide)) ?_;refine fin (W:=[pl]) (by simp) (atSet q0) ⟨by rw[lenSet];exact k0.len,λz=>atN (by have:=atLt z;lia) (k0.ky z)⟩ hk
 |none=>
  have fin0:=fin (W:=[]) (T:=T) (by simp) q0 k0 hk;by_cases h1:1<xs.length
  ·rw[xBd (by lia)];refine bT ?_;rcases ho with e|⟨u,r,rfl,e⟩|⟨k,w,r,rfl⟩
   ·lia
   ·refine pd bw ?_;refine pd e ?_;exact bF (bF fin0)
   ·refine pd bw (pv (.bl true) (bT (pd cx ?_)));refine cd (d:=d+lv) ⟨1,1,t44⟩ ?_;exact pv (.bl false) (bF (bF fin0))
  ·rw[xCn (by lia)];exact bF (bF fin0)⟩
end
section
variable{N:Str->Prop}{sc:List Str}{d lv:Nat}{P:Pg}
theorem iK:∀{xs:List Str},PR (lv+1) (xs.map .str) []
 |[]=>.nil
 |x::r=>.cons (W:=[]) gI (iK (xs:=r))
theorem lP{xs:List Str}:PlsC (.tup (xs.map .str)) [] (lv+2):=gH (o:=none) iK (by decide) (match xs with
 |[]=>.inl (xBn _)
 |[_]=>.inl (xAg _)
 |k::w::r=>.inr (.inr ⟨k,w,r.map .str,rfl⟩))
theorem nH:∀{as:List Pg},(∀a∈as,PlsC a.u a.pls lv)->PR lv (Pg.us as) (Pg.plss as)
 |[],_=>.nil
 |a::r,h=>.cons (h a (xAr ..)) (nH λb z=>h b (xAs _ z))
theorem wP{a:Pg}:pr ups (.isT "str") [a.u] S=.ok (.bl false) S:=by cases a <;> rfl
theorem qX{as:List Pg}(h:∀a∈as,PlsC a.u a.pls (lv+1))(hl:(Pg.plss as).length<=9000):PlsC (.tup (Pg.us as)) (Pg.plss as) (lv+2):=gH (o:=none) (nH h) hl (match as with
 |[]=>.inl (xBn _)
 |a::r=>.inr (.inl ⟨a.u,Pg.us r,rfl,wP⟩))
theorem cH{k:Str}{pl:Int}{r:List U}{V:List Int}(p:PR (lv+1) r V)(hl:V.length<=9000):PlsC (.tup (.str k::.int pl::r)) (pl::V) (lv+2):=gH (o:=some pl) (.cons (W:=[]) gI (.cons (W:=[]) kh p)) hl ⟨k,r,rfl⟩
theorem PR.to{r:List U}{V W:List Int}(p:PR lv r V)(e:V=W):PR lv r W:=e▸p
theorem PR.s{w:Str}{r:List U}{V:List Int}(p:PR (lv+1) r V):PR (lv+1) (.str w::r) V:=.cons (W:=[]) gI p
theorem PR.i{w:Int}{r:List U}{V:List Int}(p:PR (lv+1) r V):PR (lv+1) (.int w::r) V:=.cons (W:=[]) kh p
theorem PR.n{xs:List Str}{r:List U}{V:List Int}(p:PR (lv+2) r V):PR (lv+2) (.tup (xs.map .str)::r) V:=.cons (W:=[]) lP p
theorem PR.o{u:U}{W:List Int}(c:PlsC u W lv):PR lv [u] W:=(PR.cons c .nil).to (xB0 _)
theorem kg:∀{as:List Pg},∀a∈as,a.pls.length<=(Pg.plss as).length
 |b::r,a,z=>by
  have e:(Pg.plss (b::r)).length=b.pls.length+(Pg.plss r).length:=xAb;rcases xAv.mp z with rfl|z
  ·lia
  ·have:=kg a z;lia
theorem qY(h:Wf N sc d P):P.pls.length<=9000->PlsC P.u P.pls (2*d+3):=by
 have la:∀{x:Int}{r s:List Int},(x::(r++s)).length<=9000->r.length<=9000/\s.length<=9000/\(r++s).length<=9000:=λh=>by rw[xAo,xAb] at h;rw[xAb];lia
 have lb:∀{r s:List Int},(r++s).length<=9000->r.length<=9000/\s.length<=9000:=λh=>by rw[xAb] at h;lia
 have l0:∀{x:Int}{r:List Int},(x::r).length<=9000->r.length<=9000:=λh=>by rw[xAo] at h;lia
 have row:∀{d:Nat}{as:List Pg},(∀a∈as,a.pls.length<=9000->PlsC a.u a.pls (2*d+3))->(Pg.plss as).length<=9000->PlsC (.tup (Pg.us as)) (Pg.plss as) (2*d+4):=λ{d as} h hl=>by
  exact qX (lv:=2*d+2) (λa z=>h a z (xCk (kg a z) hl)) hl
 induction h with
 |@num sc d pl n h1 h2=>exact λ_=>cH (lv:=2*d+1) (.i .nil) (by decide)
 |@nam sc d pl x h=>exact λ_=>cH (lv:=2*d+1) (.s .nil) (by decide)
 |@fn sc xs d pl b h hb ib=>exact λhl=>cH (lv:=2*d+3) (.n (.o ((ib (l0 hl)).up (by lia)))) (l0 hl)
 |@call sc d pl f as hf h h4 i1 i2=>exact λhl=>cH (lv:=2*d+3) (.cons ((i1 (la hl).1).up (by lia)) (.o ((row i2 (la hl).2.1).up (by lia)))) (la hl).2.2
 |@lt sc d pl x a b hx ha hb i1 i2=>exact λhl=>cH (lv:=2*d+3) (.s (.cons ((i1 (la hl).1).up (by lia)) (.o ((i2 (la hl).2.1).up (by lia))))) (la hl).2.2
 |@st sc d pl x a hx ha i1=>exact λhl=>cH (lv:=2*d+3) (.s (.o ((i1 (l0 hl)).up (by lia)))) (l0 hl)
 |@dd sc d pl a b ha hb i1 i2=>exact λhl=>cH (lv:=2*d+3) (.cons ((i1 (la hl).1).up (by lia)) (.o ((i2 (la hl).2.1).up (by lia)))) (la hl).2.2
 |@iff sc d pl a b c ha hb hc i1 i2 i3=>exact λhl=>cH (lv:=2*d+3) (.cons ((i1 (la hl).1).up (by lia)) (.cons ((i2 (lb (la hl).2.1).1).up (by lia)) (.o ((i3 (lb (la hl).2.1).2).up (by lia))))) (la hl).2.2
 |@math sc d pl o a b ho ha hb i1 i2=>exact λhl=>cH (lv:=2*d+3) (.s (.cons ((i1 (la hl).1).up (by lia)) (.o ((i2 (la hl).2.1).up (by lia))))) (la hl).2.2
 |@make sc d pl t as ht h h4 i2=>exact λhl=>cH (lv:=2*d+3) (.s (.o ((row i2 (l0 hl)).up (by lia)))) (l0 hl)
 |@mat sc xs d pl t a b c ht hx ha hb hc i1 i2 i3=>exact λhl=>cH (lv:=2*d+3) (.cons ((i1 (la hl).1).up (by lia)) (.s (.n (.cons ((i2 (lb (la hl).2.1).1).up (by lia)) (.o ((i3 (lb (la hl).2.1).2).up (by lia))))))) (la hl).2.2
 |@rai sc d pl w a hw ha i1=>exact λhl=>cH (lv:=2*d+3) (.s (.o ((i1 (l0 hl)).up (by lia)))) (l0 hl)
 |@try_ sc d pl w x a b hw hx ha hb i1 i2=>exact λhl=>cH (lv:=2*d+3) (.cons ((i1 (la hl).1).up (by lia)) (.s (.s (.o ((i2 (la hl).2.1).up (by lia)))))) (la hl).2.2
 |@tell sc d pl a ha i1=>exact λhl=>cH (lv:=2*d+3) (.o ((i1 (l0 hl)).up (by lia))) (l0 hl)
 |@ask sc d pl=>exact λhl=>cH (lv:=2*d+3) .nil (by decide)
theorem ip{xs:List Str}:Flt (m+1) (.tup (xs.map .str)):=.tup λz hz=>by
 obtain⟨y,_,rfl⟩:=xA2.mp hz;exact .str
theorem ji{m:Nat}:∀{as:List Pg},(∀a∈as,Flt m a.u)->∀z∈Pg.us as,Flt m z
 |[],_=>.nil
 |a::r,h=>.cons (h a (xAr ..)) (ji λb z=>h b (xAs _ z))
theorem fu(h:Wf N sc d P):Flt (2*d+2) P.u:=by
 have up:∀{d:Nat}{u:U},Flt (2*d+2) u->Flt (2*d+3) u:=λh=>h.up (by lia);induction h with
 |num h1 h2=>exact .tup (.cons .str (.cons .int (.cons .int .nil)))
 |nam h=>exact .tup (.cons .str (.cons .int (.cons .str .nil)))
 |fn h hb ib=>exact .tup (.cons .str (.cons .int (.cons ip (.cons (up ib) .nil))))
 |call hf h h4 i1 i2=>exact .tup (.cons .str (.cons .int (.cons (up i1) (.cons (.tup (ji i2)) .nil))))
 |lt hx ha hb i1 i2=>exact .tup (.cons .str (.cons .int (.cons .str (.cons (up i1) (.cons (up i2) .nil)))))
 |st hx ha i1=>exact .tup (.cons .str (.cons .int (.cons .str (.cons (up i1) .nil))))
 |dd ha hb i1 i2=>exact .tup (.cons .str (.cons .int (.cons (up i1) (.cons (up i2) .nil))))
 |iff ha hb hc i1 i2 i3=>exact .tup (.cons .str (.cons .int (.cons (up i1) (.cons (up i2) (.cons (up i3) .nil)))))
 |math ho ha hb i1 i2=>exact .tup (.cons .str (.cons .int (.cons .str (.cons (up i1) (.cons (up i2) .nil)))))
 |make ht h h4 i2=>exact .tup (.cons .str (.cons .int (.cons .str (.cons (.tup (ji i2)) .nil))))
 |mat ht hx ha hb hc i1 i2 i3=>exact .tup (.cons .str (.cons .int (.cons (up i1) (.cons .str (.cons ip (.cons (up i2) (.cons (up i3) .nil)))))))
 |rai hw ha i1=>exact .tup (.cons .str (.cons .int (.cons .str (.cons (up i1) .nil))))
 |try_ hw hx ha hb i1 i2=>exact .tup (.cons .str (.cons .int (.cons (up i1) (.cons .str (.cons .str (.cons (up i2) .nil))))))
 |tell ha i1=>exact .tup (.cons .str (.cons .int (.cons (up i1) .nil)))
 |ask=>exact .tup (.cons .str (.cons .int .nil))
theorem o6(ok:PgOk P):∃(b:U) (np:List Int),BoR P.pls [] 0 b np.length 32/\(∀p∈np,p∈P.pls)/\np.length<=5000/\∀{fw d:Nat}{S:So}{x:Kx Prop}{K:Kv Prop},(∀S',Kp S S'->K (.tup [b,.tup (np.map .int)]) S')->(Gd fw (d+70)).call 28 [P.u] S x K:=by
 obtain⟨f,hs,hf⟩:=qG ok;have le:=ok.le;obtain⟨b,np,bc,br,ln,me⟩:=dJ (W:=P.pls) (f:=f) (β:=λ_=>0) (kvs:=[]) (th:=[]) (lv:=60) (lw:=32) (vA ok.wf) (λ_ z=>nomatch z) hs (λp z=>z) (by decide) true [] (xAg _) (by show 0+6*_<=_;lia) (by decide) (by decide);refine⟨b,np,by rw[List.length_nil,Nat.zero_add] at br;exact br,me,by lia,λ{fw d S x K} hk=>?_⟩;refine cd (d:=d+69) ⟨1,4,t28⟩ ?_;refine checked (d:=d+9) ok λS1 k1=>?_;refine pd (v:=.ref S1.length) (S':=S1++[.ins "Namer" []]) (by rfl) ?_;refine cd (d:=d+68) ⟨2,2,t19⟩ ?_;refine hf.h (d:=d+48) λS2 q k2 lq e2=>?_;have h2:=k2.ky (atNew (l:=S1) (o:=Ob.ins "Namer" []));refine pd (gG (fs':=[("set_ones",.ref q)]) h2 rfl rfl) ?_;have h3:=atSet (o':=Ob.ins "Namer" [("set_ones",.ref q)]) h2;have q3:at? (set S2 S1.length (Ob.ins "Namer" [("set_ones",.ref q)])) q=some (.dtt f):=atK h2 e2 (λz=>nomatch z);have k3:Kp S1 (set S2 S1.length (Ob.ins "Namer" [("set_ones",.ref q)])):=⟨by rw[lenSet];have:=k2.len;rw[xAb] at this;lia,λz=>atN (by have:=atLt z;lia) (k2.ky (atApp z))⟩
 generalize set S2 S1.length (Ob.ins "Namer" [("set_ones",.ref q)])=S3 at h3 q3 k3;refine pd (v:=.ref S3.length) (S':=S3++[.lst []]) (by rfl) ?_;have h4:at? (S3++[Ob.lst []]) S1.length=some (.ins "Namer" [("set_ones",.ref q)]):=atApp h3;refine pd (gG (fs':=[("set_ones",.ref q),("places",.ref S3.length)]) h4 rfl rfl) ?_;have lh:=atLt h3;have n4:Nm S1.length q S3.length f [] (set (S3++[Ob.lst []]) S1.length (.ins "Namer" [("set_ones",.ref q),("places",.ref S3.length)])):=⟨atSet h4,atK h4 (atApp q3) (λz=>nomatch z),atN (by lia) (atNew (l:=S3))⟩
 have k4:Kp S1 (set (S3++[Ob.lst []]) S1.length (.ins "Namer" [("set_ones",.ref q),("places",.ref S3.length)])):=⟨by rw[lenSet,xAb];have:=k3.len;lia,λz=>atN (by have:=atLt z;lia) (atApp (k3.ky z))⟩
 have ls3:S1.length<=S3.length:=k3.len;generalize set (S3++[Ob.lst []]) S1.length (Ob.ins "Namer" [("set_ones",.ref q),("places",.ref S3.length)])=S4 at n4 k4;refine pd (ce n4.ob rfl) ?_;refine pd (v:=.ref S4.length) (S':=S4++[.dct []]) (by rfl) ?_;have k5:Kp S4 (S4++[Ob.dct []]):=⟨by simp,λz=>atApp z⟩
 refine bc.h (d:=d+9) (n4.kp k5) (atNew (l:=S4)) λS6 n6 p6=>?_;refine pd (da n6.ob rfl) ?_;refine pd (v:=.tup (np.map .int)) (S':=S6) ?_ ?_
 ·show tupOfU (.ref S3.length) S6=_;unfold tupOfU;dsimp only[lsU];rw[n6.pl];rfl
 refine hk S6 ⟨?_,λz=>p6.ky ?_ (k5.ky (k4.ky (k1.ky z)))⟩
 ·have:=k1.len;have:=k4.len;have:=k5.len;have:=p6.len;lia
 ·have:=atLt (k1.ky z);lia
end
theorem iU:∀{l:List Nat},intsU (nu l)=some (l.map λi:Nat=>(i:Int))
 |[]=>rfl
 |a::l=>by
  show(intsU (nu l)).map _=_;rw[iU];rfl
theorem nK:∀{n lo:Nat},risB ((List.range' lo n).map λi:Nat=>(i:Int))=true
 |0,_=>rfl
 |1,_=>rfl
 |n+2,lo=>by
  show(decide ((lo:Int)<((lo+1:Nat):Int))&&risB ((List.range' (lo+1) (n+1)).map λi:Nat=>(i:Int)))=true;rw[nK,xBd (by lia)];rfl
theorem tK:∀{n lo:Nat},nu (List.range' lo n)=intL (lo:Int) n
 |0,_=>rfl
 |n+1,lo=>by
  show .int (lo:Int)::nu (List.range' (lo+1) n)=.int (lo:Int)::intL ((lo:Int)+1) n;rw[tK];rfl
theorem kX{n:Nat}{xs:List U}(h:Flt n (.tup xs))(hn:n<=80):pr ups .eq [.tup xs,.tup xs] S=.ok (.bl true) S:=by
 show Fx.eqU id (.tup xs) (.tup xs) S=_;unfold Fx.eqU;rw[show eqS (.tup xs) (.tup xs)=none from rfl];dsimp only;rw[iw (h.up hn)];rfl
theorem nZ{fw d w pp gg n:Nat}{W:List Int}{S:So}{E:Ee Prop}{kk:Sg->So->Prop}{a0 a1 a2 a3:Option U}(k:Wk w pp gg W n S):∀{np:List Int}{a5:Option U},(∀p∈np,p∈W)->(∀a5,kk [a0,a1,a2,a3,some (.ref w),a5] S)->forK (np.map U.int) (λv σ1 S2 nx=>tgt [5] true (Gd fw (d+1)) v σ1 λσ2=>bd54 (Gd fw (d+1)) σ2 S2 (lpE E nx)) [a0,a1,a2,a3,some (.ref w),a5] S kk
 |[],a5,_,hk=>hk a5
 |p::np,a5,h,hk=>by
  rw[xBs,forK];refine eQ (d:=d) ?_;refine bF ?_;refine pd (cG k.di rfl) ?_;refine pd (v:=.bl false) (S':=S) (by show obB (inU S (.int p) (.ref pp)) not S=_;rw[pA k.pl (h p (xAr ..))];rfl) ?_;refine bF ?_;exact nZ k (np:=np) (λq hq=>h q (xAs _ hq)) hk
theorem yf{w pp gg:Nat}{P:Pg}{b:U}{x:Kx Prop}{K:Kv Prop}(ok:PgOk P)(k:Wk w pp gg P.pls np.length S)(hn:np.length<=5000)(hm:∀p∈np,p∈P.pls)(hb:Flt 64 b)(N:∀{fw d:Nat}{S:So}{x:Kx Prop}{K:Kv Prop},(∀S',Kp S S'->K (.tup [b,.tup (np.map .int)]) S')->(Gd fw (d+70)).call 28 [P.u] S x K)(hk:∀S,K (.bl true) S):rs54b (Gd fw (d+70)) [a0,some P.u,some P.u,some (.tup [b,.tup (np.map .int)]),some (.ref w),none] S (endsOf x K):=by
 refine pd (cG k.di rfl) ?_;refine pd (v:=.lst (nu (List.range np.length))) (S':=S) ?_ ?_
 ·delta pr;dsimp only[lsT];rw[k.gi];dsimp only;rw[iU];dsimp only;rw[List.range_eq_range',nK]
 refine pd cx ?_;refine pd (v:=.int np.length) (S':=S) (by show Res.ok (.int ((np.map U.int).length:Nat)) S=_;rw[xAa]) ?_;refine pd (v:=.lst (intL 0 np.length)) (S':=S) ?_ ?_
 ·delta pr;dsimp only;rw[xBd (by lia)];dsimp only;rw[xC3]
 refine pd (v:=.bl false) (S':=S) ?_ ?_
 ·have e:nu (List.range np.length)=intL 0 np.length:=by rw[List.range_eq_range',tK];rfl
  rw[<- e];show Fx.neU (.lst (nu (List.range np.length))) (.lst (nu (List.range np.length))) S=_;unfold Fx.neU;rw[show eqS (.lst (nu (List.range np.length))) (.lst (nu (List.range np.length)))=none from rfl];dsimp only[lsT,unlU];rw[Nat.beq_refl];have hs:same S 80 (.lst (nu (List.range np.length))) (.lst (nu (List.range np.length)))=true:=by
   unfold same;dsimp only[lsT];refine fC λz hz=>?_;unfold nu at hz;obtain⟨i,_,rfl⟩:=xA2.mp hz;exact iw .int
  rw[hs];rfl
 refine bF (pd cx (pv (.tup (np.map .int)) ?_));refine nZ (d:=d+69) k hm λa5=>?_;refine N (d:=d) λS2 k2=>?_;refine pd (kX (n:=66) (.tup (.cons (hb.up (by decide)) (.cons (.tup λz hz=>by obtain⟨i,_,rfl⟩:=xA2.mp hz;exact .int) .nil))) (by decide)) ?_;refine bT ?_;have fp:=fu ok.wf;have ht:∃xs,P.u=.tup xs:=by cases P <;> exact⟨_,rfl⟩
 obtain⟨xs,ex⟩:=ht;rw[ex] at fp⊢;refine pd (kX fp (by decide)) ?_;exact hk _
theorem vJ(ns:List Int){x:Kx Prop}:(Gd fw (d+71)).call 54 [.kl (ns.map .int)] S x (λv _=>v=.bl true):=by
 obtain⟨P,ok,B⟩:=qR ns;obtain⟨b,np,br,me,ln,N⟩:=o6 ok;have le:=ok.le;have pc:=qY ok.wf (by lia);refine cd (d:=d+70) ⟨1,6,t54⟩ ?_;refine B (d:=d+20) λS1 k1=>?_;refine B (d:=d+20) λS2 k2=>?_;refine N (d:=d) λS3 k3=>?_;refine pv (.bl true) (bF (pv (.int 2) (pv (.bl false) (bF (pd cx (pv (.bl true) (bF ?_)))))));refine pc.h (d:=d+39) λS4 pp k4 lp e4=>?_;refine pd (v:=.ref S4.length) (S':=S4++[.lst []]) (by rfl) ?_;refine pd (v:=.ref (S4.length+1)) (S':=S4++[.lst []]++[.dct [(.inr "places",.ref pp),(.inr "given",.ref S4.length)]]) (by show Res.ok (.ref (S4++[Ob.lst []]).length) _=_;rw[xAb];rfl) ?_;have lp4:=atLt e4;have w0:Wk (S4.length+1) pp S4.length P.pls 0 (S4++[.lst []]++[.dct [(.inr "places",.ref pp),(.inr "given",.ref S4.length)]]):=⟨by
  have:=atNew (l:=S4++[Ob.lst []]) (o:=Ob.dct [(.inr "places",.ref pp),(.inr "given",.ref S4.length)]);rw[xAb] at this;exact this,atApp (atApp e4),atApp (atNew (l:=S4))⟩
 generalize S4++[Ob.lst []]++[Ob.dct [(.inr "places",.ref pp),(.inr "given",.ref S4.length)]]=S5 at w0;refine pd bw ?_;refine pd (v:=.ref S5.length) (S':=S5++[.lst []]) (by rfl) ?_;have k6:Kp S5 (S5++[Ob.lst []]):=⟨by simp,λz=>atApp z⟩
 have lg:=atLt w0.gi;refine br.h (d:=d+38) (w0.kp k6) (atNew (l:=S5)) (by lia) (by lia) λS7 w7 p7=>?_;refine bF ?_;exact yf ok w7 ln me br.fl N λ_=>rfl
theorem math:∀ns:List Int,ns.length<=63->(callG ups tab 1000000 (80+1)).call 54 [.kl (ns.map U.int)] [] (λ_ _=>False) (λv _=>v=.bl true):=λns _=>by
 have:=vJ ns (fw:=1000000) (d:=10) (S:=[]) (x:=λ_ _=>False);rw[jh] at this;exact this
theorem walk{l:PySem.W.OpenLaw}{q:Program}{loose:List Str}{XP:(Str->Option Value)->Heap->Prop}{YP:World->Heap->Prop}{d:DefRec}{K:Params->xFr}(hn:l.most=some 63)(hdf:d.params.defaults=[])(hY:∀(w:World)(h:Heap),YP w h->(K w.params).In h)(F:∀(w:World)(mg:Str->Option Value)(fa:Addr)(h:Heap),(K w.params).In h->h.Ns mainGlobals mg->mg d.name=some (.ref fa) ->
   ∃fd:FuncData,(∀(s:Shared)(u:Value),BindsTo s fd ⟨[u],[]⟩ [("_law_script",u)])/\∀base:Heap,(K w.params).In base->base.Ns mainGlobals mg->FnOk l.prog w (K w.params) mg base (CXz l.prog w) (2*(80+1)+1) fa fd ["_law_script"] (spLaw (K w.params) 63)) :
  PySem.W.WalkO q loose XP YP l.row.toRowW d [] (λf vs=>PySem.call f vs):=
 L2.walk_of (n:=63) (k:=2*(80+1)+1) (x:="_law_script") (CX:=λw=>CXz l.prog w) (sp:=λw=>spLaw (K w.params) 63) hn (by decide) hdf ⟨rfl,by decide,by decide,rfl⟩ hY F (λ_ _ a ns hl _ hS=>⟨a,ns,rfl,hl,hS,λ_=>rfl⟩) λ_ _ _ _ _ z=>z
end K22
end
namespace PySem.W.Fast
noncomputable abbrev tw2307550811799134030:PySem.Program:=PySem.Challenge.pw_spacewright_k22_each_name_once
theorem te2307550811799134030:PySem.Challenge.pw_spacewright_k22_each_name_once=tw2307550811799134030:=rfl
theorem te13052408679150730464:True:=⟨⟩
theorem te2469009164876924479:True:=⟨⟩
theorem te16555476440528808052:True:=⟨⟩
theorem te4868988410673395695:True:=⟨⟩
theorem te5452508617037859911:True:=⟨⟩
end PySem.W.Fast
set_option maxHeartbeats 0 in
open PySem PySem.W PyProof.Rows in
theorem PySem.Challenge.cw_spacewright_k22_each_name_once_holds : PySem.Challenge.rw_spacewright_k22_each_name_once.Holds := by
  w_on;o_law;k_head;(case hw=>w_witness2);k_fill
  refine K22.walk (l := PySem.Challenge.rw_spacewright_k22_each_name_once) rfl rfl (fun w h Y=>PySem.W.kIn_of Y) ?F;case F =>
    intro w mg fa h KX G hmg;refine' K22.all_mk KX G hmg (K22.csr ..) ?_ (K22.csr ..) ?_ ?_ ?_ ?_ ?_ ?_ ?_ ?_ (Fx.dnr ..) (Fx.dnr ..) (Fx.dnr ..) (Fx.dnr ..) (Fx.dnr ..) (Fx.dnr ..) (Fx.dnr ..) (Fx.dnr ..) (Fx.dnr ..) (Fx.mdr ..) (Fx.mdr ..) (Fx.mdr ..) (Fx.mdr ..) (Fx.dnr ..) (Fx.dnr ..) (Fx.dnr ..) (Fx.dnr ..) (Fx.dnr ..) (Fx.dnr ..) (Fx.mdr ..) (Fx.mdr ..) (Fx.mdr ..) (Fx.mdr ..) (Fx.mdr ..) (Fx.mdr ..) (Fx.mdr ..) (Fx.mdr ..) (Fx.dnr ..) (Fx.dnr ..) (Fx.dnr ..) (Fx.dnr ..) (Fx.dnr ..) (Fx.dnr ..) (Fx.dnr ..) (Fx.dnr ..) (Fx.dnr ..) (Fx.dnr ..) (Fx.dnr ..) (Fx.dnr ..) (Fx.dnr ..) (Fx.dnr ..) (Fx.dnr ..) (Fx.dnr ..) (Fx.dnr ..) (Fx.dnr ..) (Fx.dnr ..) (Fx.dnr ..) (Fx.dnr ..) (Fx.dnr ..) (Fx.dnr ..) (Fx.dnr ..) (Fx.dnr ..) (Fx.dnr ..) (Fx.dnr ..) (Fx.dnr ..) ?_ ?_ ?_ ?_ ?_ ?_ (K22.tup_is ?_ ?_ ?_) ?_ (K22.tup_is ?_ ?_ ?_) ?_ ?_ ?gkFORMS ?goFORMS ?_ ?_ (K22.tup_is ?_ ?_ ?_) ?_ (K22.tup_is ?_ ?_ ?_) ?_ (K22.tup_is ?_ ?_ ?_) ?_ (K22.tup_is ?_ ?_ ?_) ?_ (K22.tup_is ?_ ?_ ?_) ?_ (K22.tup_is ?_ ?_ ?_) ?_ (K22.tup_is ?_ ?_ ?_) ?_ (K22.tup_is ?_ ?_ ?_) ?_ (K22.tup_is ?_ ?_ ?_) ?_ (K22.tup_is ?_ ?_ ?_) ?_ (K22.tup_is ?_ ?_ ?_) ?_ (K22.tup_is ?_ ?_ ?_) ?_ (K22.tup_is ?_ ?_ ?_) ?_ (K22.tup_is ?_ ?_ ?_) ?_ (K22.tup_is ?_ ?_ ?_) ?_ ?_ ?gkSCOPES ?goSCOPES ?_ ?_ (K22.tup_is ?_ ?_ ?_) ?_ (K22.tup_is ?_ ?_ ?_) ?_ (K22.tup_is ?_ ?_ ?_) ?_ (K22.tup_is ?_ ?_ ?_) K22.math;any_goals k_is
    (case gkFORMS=>exact ⟨⟨_,_,rfl,rfl⟩,⟨_,_,rfl,rfl⟩,⟨_,_,rfl,rfl⟩,⟨_,_,rfl,rfl⟩,⟨_,_,rfl,rfl⟩,⟨_,_,rfl,rfl⟩,⟨_,_,rfl,rfl⟩,⟨_,_,rfl,rfl⟩,⟨_,_,rfl,rfl⟩,⟨_,_,rfl,rfl⟩,⟨_,_,rfl,rfl⟩,⟨_,_,rfl,rfl⟩,⟨_,_,rfl,rfl⟩,⟨_,_,rfl,rfl⟩,⟨_,_,rfl,rfl⟩,True.intro⟩)
    (case goFORMS=>rfl)
    (case gkSCOPES=>exact ⟨⟨_,_,rfl,rfl⟩,⟨_,_,rfl,rfl⟩,⟨_,_,rfl,rfl⟩,⟨_,_,rfl,rfl⟩,True.intro⟩)
    (case goSCOPES=>rfl)
    all_goals first | kernel_rfl | decide | (repeat' first | exact .nil | refine .cons ⟨_, rfl⟩ ?_)
