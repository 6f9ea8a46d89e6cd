import PyProof.Rows.All
import Wide.All
import OpenK.AllK
import Wide.FinOn
import PyProof.EqAt
import PyProof.EqKinds
import PyProof.NeKinds
import PyProof.TupleCall
import PyProof.SetKind
import PyProof.DictKinds
import PyProof.MeetsSeq2
import PyProof.SetRoads
import PyProof.SetNew
import PyProof.Rows.SetFrom
import KE.KDictList
import PyProof.Rows.SortWalk
import KE.KDictSum
import PyProof.EnumFor
import PyProof.EnumStmt
import PyProof.EnumMake
import KE.KRevIter
import PyProof.Draws
import PyProof.CollectIter
import PyProof.TupleOfGen
import PyProof.TupleOps
import KE.KEqDict
import PyProof.WalkInts
import PyProof.PureStr
import PyProof.Rows.StrJoin2
import PyProof.StrCalls2
import PyProof.ConsumeWalk
import KE.KIntText
import PyProof.DictUpdate
import PyProof.FString
import PyProof.StrOps2
import PyProof.SliceStr2
import PyProof.StrBlockI
import PyProof.StrWalks
import OpenK.KTop
import PyProof.ZipIter
import PyProof.StrLawsTight
import PyProof.StrLawsRepr
import KE.KSortTup
import PySem.Challenge.RW_spacewright_k14_one_deed
set_option Elab.async false
set_option linter.all false
set_option maxRecDepth 100000
set_option maxHeartbeats 4000000
noncomputable section
abbrev xFr:=PySem.W.Frag
def xAa:type_of%@List.length_map:=@List.length_map
def xAb:type_of%@List.length_append:=@List.length_append
def xAc:type_of%@List.mem_of_getElem?:=@List.mem_of_getElem?
def xAd:type_of%@PySem.wpAny_bind:=@PySem.wpAny_bind
def xAe:type_of%@PySem.wpAny_pure:=@PySem.wpAny_pure
def xAf:type_of%@PySem.Heap.get?_push_of_some:=@PySem.Heap.get?_push_of_some
def xAg:type_of%@Nat.le_refl:=@Nat.le_refl
def xAj:type_of%@List.mem_append:=@List.mem_append
def xAk:type_of%@List.getElem?_eq_getElem:=@List.getElem?_eq_getElem
def xAl:type_of%@PySem.Heap.get?_push_size:=@PySem.Heap.get?_push_size
def xAm:type_of%@List.mem_singleton:=@List.mem_singleton
def xAo:type_of%@List.length_cons:=@List.length_cons
def xAp:type_of%@List.size_toArray:=@List.size_toArray
def xAq:type_of%@List.getElem?_eq_some_iff:=@List.getElem?_eq_some_iff
def xAr:type_of%@List.mem_cons_self:=@List.mem_cons_self
def xAs:type_of%@List.mem_cons_of_mem:=@List.mem_cons_of_mem
def xAt:type_of%@List.length_singleton:=@List.length_singleton
def xAv:type_of%@List.mem_cons:=@List.mem_cons
def xAw:type_of%@List.getElem?_map:=@List.getElem?_map
def xAx:type_of%@List.append_assoc:=@List.append_assoc
def xAy:type_of%@Bool.false_ne_true:=@Bool.false_ne_true
def xAz:type_of%@Bool.false_eq_true:=@Bool.false_eq_true
def xA0:type_of%@Nat.ne_of_lt:=@Nat.ne_of_lt
def xA1:type_of%@PySem.Heap.lt_size:=@PySem.Heap.lt_size
def xA2:type_of%@List.mem_map:=@List.mem_map
def xA6:type_of%@PySem.Heap.get?_update_other:=@PySem.Heap.get?_update_other
def xA7:type_of%@PySem.Heap.get?_update_self:=@PySem.Heap.get?_update_self
def xBc:type_of%@Nat.lt_of_lt_of_le:=@Nat.lt_of_lt_of_le
def xBd:type_of%@decide_eq_true:=@decide_eq_true
def xBe:type_of%@of_decide_eq_true:=@of_decide_eq_true
def xBf:type_of%@of_decide_eq_false:=@of_decide_eq_false
def xBl:type_of%@PySem.wpAny_newObj_type:=@PySem.wpAny_newObj_type
def xBn:type_of%@Nat.zero_le:=@Nat.zero_le
def xBq:type_of%@List.nodup_append:=@List.nodup_append
def xBs:type_of%@List.map_cons:=@List.map_cons
def xBt:type_of%@List.mem_append_right:=@List.mem_append_right
def xBv:type_of%@List.not_mem_nil:=@List.not_mem_nil
def xBz:type_of%@List.getD_eq_getElem?_getD:=@List.getD_eq_getElem?_getD
def xB0:type_of%@List.append_nil:=@List.append_nil
def xB3:type_of%@Option.some.inj:=@Option.some.inj
def xB7:type_of%@Array.getElem?_eq_some_iff:=@Array.getElem?_eq_some_iff
def xCb:type_of%@List.nodup_cons:=@List.nodup_cons
def xCf:type_of%@if_neg:=@if_neg
def xCg:type_of%@if_pos:=@if_pos
def xCh:type_of%@Bool.and_eq_true:=@Bool.and_eq_true
def xCi:type_of%@Option.bind_eq_some_iff:=@Option.bind_eq_some_iff
def xCj:type_of%@List.all_cons:=@List.all_cons
def xCk:type_of%@Nat.le_trans:=@Nat.le_trans
def xCl:type_of%@List.getElem?_append_right:=@List.getElem?_append_right
def xCm:type_of%@List.getElem?_append_left:=@List.getElem?_append_left
def xCn:type_of%@decide_eq_false:=@decide_eq_false
def xCo:type_of%@Nat.le_of_ble_eq_true:=@Nat.le_of_ble_eq_true
def xCu:type_of%@List.length_replicate:=@List.length_replicate
def xCx:type_of%@List.all_eq_true:=@List.all_eq_true
def xCy:type_of%@List.any_eq_true:=@List.any_eq_true
def xC1:type_of%@List.getElem?_set_ne:=@List.getElem?_set_ne
def xC6:type_of%@List.nil_append:=@List.nil_append
def xDa:type_of%@PySem.wpAny_field:=@PySem.wpAny_field
def xDc:type_of%@PySem.wpAny_holding:=@PySem.wpAny_holding
def xDk:type_of%@Nat.ble_eq_true_of_le:=@Nat.ble_eq_true_of_le
namespace L2
open PySem PySem.Spec PyProof.Rows
variable{H:Hp}{h base:Heap}{g':Array GenState}{t' i j k n:Nat}{d':Drawn}{ch fp:List Addr}{it dx C:Addr}{N ps:List Str}{M:Model}{A:Around}{s:Shared}{pos:Pos}{Z:List<|Addr×Obj}{Q:Value->Shared->Prop}{y:V}{K:xFr}{es:List Expr}{tg:Expr}{te:TE}{g:Int->Int->Int}{op op':CmpOp}{r':R2}{us:List Value}{pl:Sem Bool}{kw:List<|Str×Value}{mg:Str->Option Value}{CX:CXT}{fd:FuncData}{sp:Sp}{outer:List Env}{vs:List V}{qual:Str}{scope:Scope}
noncomputable abbrev Key:=Sum Int Str
noncomputable def zCt:Key->Value->Bool
 |.inl k,v=>Value.isInt k v
 |.inr x,v=>Value.isStrOf x v
noncomputable def zJw(w:World):Key->Int
 |.inl k=>hashInt k
 |.inr x=>hashStr w x
theorem dH:∀{k:Key}{v:Value},zCt k v=true->(∃i t,k=Sum.inl i/\v=Value.int i t)\/(∃x t,k=Sum.inr x/\v=Value.str x t)
 |.inl i,v,h=>by
  obtain⟨t,e⟩:=Value.isInt_shape (k:=i) (v:=v) h;exact .inl ⟨i,t,rfl,e⟩
 |.inr x,v,h=>by
  obtain⟨t,e⟩:=Value.isStrOf_shape (x:=x) (v:=v) h;exact .inr ⟨x,t,rfl,e⟩
def oF(i:Int)(t:Tok):zCt (.inl i) (.int i t)=true:=by simp[zCt,Value.isInt]
def oE(x:Str)(t:Tok):zCt (.inr x) (.str x t)=true:=by simp[zCt,Value.isStrOf]
def xS(a b:Int):decide ((Sum.inl a:Key)=Sum.inl b)=(a==b):=by
 by_cases e:a=b
 ·subst e;simp
 ·have h:¬ (Sum.inl a:Key)=Sum.inl b:=λq=>e<|Sum.inl.inj q;rw[xCn h];exact(beq_eq_false_iff_ne.mpr e).symm
def xP(a b:Str):decide ((Sum.inr a:Key)=Sum.inr b)=decide (a=b):=by
 by_cases e:a=b
 ·subst e;simp
 ·have h:¬ (Sum.inr a:Key)=Sum.inr b:=λq=>e<|Sum.inr.inj q;rw[xCn h,xCn e]
def xR(a:Int)(b:Str):decide ((Sum.inl a:Key)=Sum.inr b)=false:=xCn λq=>nomatch q
def xQ(a:Str)(b:Int):decide ((Sum.inr a:Key)=Sum.inl b)=false:=xCn λq=>nomatch q
noncomputable def zAk(prog:Program)(w:World):PySem.KeyKind prog w Key where
 is:=zCt
 hash:=zJw w
 inj:=λv a b ha hb=>by
  rcases dH ha with ⟨i,t,rfl,rfl⟩|⟨x,t,rfl,rfl⟩
  ·rcases dH hb with ⟨j,u,rfl,e⟩|⟨y,u,rfl,e⟩
   ·injection e with e1 _;rw[e1]
   ·exact nomatch e
  ·rcases dH hb with ⟨j,u,rfl,e⟩|⟨y,u,rfl,e⟩
   ·exact nomatch e
   ·injection e with e1 _;rw[e1]
 byValue:=λk v h=>by
  rcases dH h with ⟨i,t,rfl,rfl⟩|⟨x,t,rfl,rfl⟩ <;> rfl
 pyHash:=λhv h=>by
  rcases dH hv with ⟨i,t,rfl,rfl⟩|⟨x,t,rfl,rfl⟩
  ·exact wpAny_pyHash_int h
  ·exact wpAny_pyHash_str h
 eqBool:=λhu hv h=>by
  rcases dH hu with ⟨i,t,rfl,rfl⟩|⟨x,t,rfl,rfl⟩
  ·rcases dH hv with ⟨j,u,rfl,rfl⟩|⟨y,u,rfl,rfl⟩
   ·rw[xS] at h;exact wpAny_eqBool_int h
   ·rw[xR] at h;exact SeqAt.EqAt.int_str i t y u _ _ _ _ h
  ·rcases dH hv with ⟨j,u,rfl,rfl⟩|⟨y,u,rfl,rfl⟩
   ·rw[xQ] at h;exact SeqAt.EqAt.str_int x t j u _ _ _ _ h
   ·rw[xP] at h;exact wpAny_eqBool_str h
 «strs»:=λk x t v h=>by
  rcases dH h with ⟨i,u,rfl,e⟩|⟨y,u,rfl,e⟩
  ·exact nomatch e
  ·injection e with e1 _;subst e1;cases v <;> rfl
def kB(prog:Program)(w:World)(i:Int)(t:Tok):(zAk prog w).is (.inl i) (.int i t)=true:=oF i t
def kA(prog:Program)(w:World)(x:Str)(t:Tok):(zAk prog w).is (.inr x) (.str x t)=true:=oE x t
inductive V where
 |non|bl (b:Bool)|int (i:Int)|str (x:Str)|byt (b:Array UInt8)|flt (b:UInt64)|ref (a:Addr)|ty (n:String)
 deriving DecidableEq
def zAi:V->Value->Prop
 |.non,u=>u=Value.none
 |.bl b,u=>u=Value.bool b
 |.int i,u=>∃t,u=Value.int i t
 |.str x,u=>∃t,u=Value.str x t
 |.byt b,u=>∃t,u=Value.bytes b t
 |.flt b,u=>∃t,u=Value.float b t
 |.ref a,u=>u=Value.ref a
 |.ty n,u=>u=Value.type n
noncomputable abbrev zAg:List V->List Value->Prop:=Paired zAi
theorem zAg.length{xs:List V}{us:List Value}(r:zAg xs us):xs.length=us.length:=Paired.length r
theorem zAg.get:∀{xs:List V}{us:List Value}{i:Nat}{x:V},zAg xs us->xs[i]?=some x->∃u,us[i]?=some u/\zAi x u
 |_,_,_,_,.nil,e=>by simp at e
 |_,_,0,_,.cons r _,e=>by simp at e;subst e;exact⟨_,rfl,r⟩
 |_,_,i+1,x,.cons _ t,e=>by
  obtain⟨u,h1,h2⟩:=zAg.get (i:=i) (x:=x) t (by simpa using e);exact⟨u,by simpa using h1,h2⟩
theorem zAg.append:∀{xs ys:List V}{us ws:List Value},zAg xs us->zAg ys ws->zAg (xs++ys) (us++ws)
 |_,_,_,_,.nil,s=>s
 |_,_,_,_,.cons r t,s=>.cons r<|zAg.append t s
theorem zAg.take:∀{xs:List V}{us:List Value}(n:Nat),zAg xs us->zAg (xs.take n) (us.take n)
 |_,_,0,_=>.nil
 |_,_,_+1,.nil=>.nil
 |_,_,n+1,.cons r t=>.cons r<|zAg.take n t
theorem zAg.drop:∀{xs:List V}{us:List Value}(n:Nat),zAg xs us->zAg (xs.drop n) (us.drop n)
 |_,_,0,r=>r
 |_,_,_+1,.nil=>.nil
 |_,_,n+1,.cons _ t=>zAg.drop n t
def zCb:Option V->Option Value->Prop
 |some v,some u=>zAi v u
 |none,none=>True
 |_,_=>False
def KV{κ:Type}:List (κ×V)->List (κ×Value)->Prop:=Paired λ(p:κ×V) (q:κ×Value)=>p.1=q.1/\zAi p.2 q.2
noncomputable def kV:Key->V
 |.inl i=>.int i
 |.inr x=>.str x
inductive HO where
 
 |lst (xs:List V)
 
 |tup (xs:List V)
 
 |dK (kvs:List (Key×V))|dT (kvs:List (List Key×V))
 
 |set (S:Int->Bool) (n:Nat)
 
 |ins (C dx:Addr) (fs:List (Str×V))
 
 |own (x:Addr)
 
 |xd (fs:List (Str×V))
 
 |met (f x:Addr)
 
 |rng (lo hi:Int)
 
 |frz (o:Obj) (u:HO)
 
 |tbl (ps:Array Value)
 
 |ext (φ:Heap->Prop)
noncomputable abbrev Hp:=Addr->Option HO
def upd(H:Hp)(a:Addr)(o:HO):Hp:=λb=>if b=a then some o else H b
def dg{a:Addr}{o:HO}:upd H a o a=some o:=by unfold upd;rw[xCg rfl]
def db{a b:Addr}{o:HO}(h:b≠a):upd H a o b=H b:=by unfold upd;rw[xCf h]
def md{a:Addr}{o u:HO}:upd (upd H a o) a u=upd H a u:=by
 funext b;unfold upd;split <;> rfl
def fj{a b:Addr}{o u:HO}(h:H a=some o)(h':H b=some u)(d:o≠u):a≠b:=by
 intro e;subst e;rw[h] at h';exact d (xB3 h')
def dq{a b:Addr}{o:HO}(h:H a=some o)(h':H b=none):a≠b:=by
 intro e;subst e;rw[h] at h';cases h'
section
variable(P:Program)(w:World)
def zAc(H:Hp)(h:Heap)(a:Addr):HO->Prop
 |.lst xs=>xs.length<=sizeLine/\∃(its:List Value) (n:Nat),zAg xs its/\h.get? a=some {cls:=.type "list",data:=.seq its.toArray n}
 |.tup xs=>xs.length<=sizeLine/\∃its:List Value,zAg xs its/\IsTup h a its.toArray
 |.dK kvs=>kvs.length<=sizeLine/\(a==sysModules)=false/\∃vs,KV kvs vs/\h.DictOf (zAk P w) a vs
 |.dT kvs=>kvs.length<=sizeLine/\(a==sysModules)=false/\∃xs:List<|List Key×Addr×Value,
   Paired (λ(p:List Key×V) (q:List Key×Addr×Value)=>p.1=q.1/\H q.2.1=some (.tup<|p.1.map kV)/\zAi p.2 q.2.2) kvs xs /\
   ∃o es ep,h.get? a=some o/\o.ExactDict/\o.data=.dict es ep/\es.toList=xs.map (entryOfKey<|tupleKind<|zAk P w)/\(xs.map (·.1)).Nodup
 |.set S n=>h.SetOf (intKind P w) a S n
 |.ins C dx fs=>H dx=some (.own a)/\fs.length<=1000/\dx≠a/\h.get? a=some (W.instObj C dx) /\
   ∃mA,h.Ns1 dx mA/\(∀f,zCb (fs.lookup f)<|mA f)/\PySem.Within mA (fs.map (·.1))
 |.own _=>∃o,h.get? a=some o
 |.xd fs=>∃mA,h.Ns1 a mA/\∀f,zCb (fs.lookup f)<|mA f
 |.rng lo hi=>∃t u v,h.get? a=some {cls:=.type "range",data:=.fields #[.int lo t,.int hi u,.int 1 v]}
 |.frz o u=>h.get? a=some o/\zAc H h a u
 |.tbl ps=>h.get? a=some {cls:=.none,data:=.fields ps}
 |.met f x=>h.get? a=some (W.methodObj (.ref f)<|.ref x)
 |.ext φ=>φ h/\(∃o,h.get? a=some o)/\∀h1 h2:Heap,φ h1->(∀o,h1.get? a=some o->h2.get? a=some o)->φ h2
def HOk(H:Hp)(h:Heap):Prop:=∀a o,H a=some o->zAc P w H h a o
end
section
variable{P:Program}{w:World}{H H':Hp}{h h':Heap}{a:Addr}{o:HO}
theorem zAc.lt(x:zAc P w H h a o):a<h.objs.size:=by
 cases o with
 |lst xs=>obtain⟨_,_,_,_,e⟩:=x;exact xA1 e
 |tup xs=>obtain⟨_,_,_,p⟩:=x;exact p.lt
 |dK kvs=>obtain⟨_,_,_,_,o,_,_,e,_⟩:=x;exact xA1 e
 |dT kvs=>obtain⟨_,_,_,_,o,_,_,e,_⟩:=x;exact xA1 e
 |set S n=>obtain⟨o,_,_,_,e,_⟩:=x;exact xA1 e
 |ins C dx fs=>obtain⟨_,_,_,e,_⟩:=x;exact xA1 e
 |own y=>obtain⟨_,e⟩:=x;exact xA1 e
 |xd fs=>obtain⟨_,⟨_,_,_,e,_⟩,_⟩:=x;exact xA1 e
 |rng lo hi=>obtain⟨_,_,_,e⟩:=x;exact xA1 e
 |frz ob u=>obtain⟨e,_⟩:=x;exact xA1 e
 |tbl ps=>exact xA1 (show h.get? a=some _ from x)
 |met f y=>exact xA1 (show h.get? a=some _ from x)
 |ext φ=>obtain⟨_,⟨_,e⟩,_⟩:=x;exact xA1 e
theorem Paired.mapP{α β:Type}{F G:α->β->Prop}:∀{l₁:List α}{l₂:List β},Paired F l₁ l₂->(∀a b,F a b->G a b)->Paired G l₁ l₂
 |_,_,.nil,_=>.nil
 |_,_,.cons r t,f=>.cons (f _ _ r)<|Paired.mapP t f
theorem zAc.stay(x:zAc P w H h a o)(k:∀b u,(b=a\/H b=some (.own a))->h.get? b=some u->h'.get? b=some u)(ho:∀b,H b=some (.own a)->H' b=some (.own a))(ht:∀b xs,H b=some (.tup xs)->H' b=some (.tup xs)):zAc P w H' h' a o:=by
 induction o with
 |lst xs=>obtain⟨z,its,n,r,e⟩:=x;exact⟨z,its,n,r,k _ _ (.inl rfl) e⟩
 |tup xs=>obtain⟨z,its,r,ob,e,c⟩:=x;exact⟨z,its,r,ob,k _ _ (.inl rfl) e,c⟩
 |dK kvs=>obtain⟨z,y,vs,r,ob,es,ep,e,c⟩:=x;exact⟨z,y,vs,r,ob,es,ep,k _ _ (.inl rfl) e,c⟩
 |dT kvs=>
  obtain⟨z,y,xs,r,ob,es,ep,e,c⟩:=x;exact⟨z,y,xs,Paired.mapP r λp q z=>⟨z.1,ht _ _ z.2.1,z.2.2⟩,ob,es,ep,k _ _ (.inl rfl) e,c⟩
 |set S n=>obtain⟨ob,es,ep,t,e,c⟩:=x;exact⟨ob,es,ep,t,k _ _ (.inl rfl) e,c⟩
 |ins C dx fs=>
  obtain⟨d,z,ne,e,mA,⟨od,es,ep,e2,c⟩,r⟩:=x;exact⟨ho _ d,z,ne,k _ _ (.inl rfl) e,mA,⟨od,es,ep,k _ _ (.inr d) e2,c⟩,r⟩
 |own y=>obtain⟨ob,e⟩:=x;exact⟨ob,k _ _ (.inl rfl) e⟩
 |xd fs=>obtain⟨mA,⟨od,es,ep,e,c⟩,r⟩:=x;exact⟨mA,⟨od,es,ep,k _ _ (.inl rfl) e,c⟩,r⟩
 |rng lo hi=>obtain⟨t,u,v,e⟩:=x;exact⟨t,u,v,k _ _ (.inl rfl) e⟩
 |frz ob u ih=>obtain⟨e,q⟩:=x;exact⟨k _ _ (.inl rfl) e,ih q⟩
 |tbl ps=>
  have e:h.get? a=some {cls:=.none,data:=.fields ps}:=x;show h'.get? a=some {cls:=.none,data:=.fields ps};exact k a _ (.inl rfl) e
 |met f y=>
  have e:h.get? a=some (W.methodObj (.ref f)<|.ref y):=x;show h'.get? a=some (W.methodObj (.ref f)<|.ref y);exact k a _ (.inl rfl) e
 |ext φ=>obtain⟨p,⟨o,e⟩,st⟩:=x;exact⟨st _ _ p λo q=>k _ _ (.inl rfl) q,⟨o,k _ _ (.inl rfl) e⟩,st⟩
theorem HOk.lt(x:HOk P w H h)(e:H a=some o):a<h.objs.size:=(x a o e).lt
theorem HOk.fresh(x:HOk P w H h)(e:h.objs.size<=a):H a=none:=by
 cases q:H a with
 |none=>rfl
 |some u=>exact absurd (xBc (x.lt q) e) (Nat.lt_irrefl _)
def HOk.kept(x:HOk P w H h)(k:∀b u,h.get? b=some u->h'.get? b=some u):HOk P w H h':=λa o e=>
 (x a o e).stay (λb u _ q=>k b u q) (λ_ q=>q) λ_ _ q=>q
def HOk.laid(x:HOk P w H h)(k:∀b u,h.get? b=some u->h'.get? b=some u)(hp:h.objs.size<=a)(new:zAc P w (upd H a o) h' a o):HOk P w (upd H a o) h':=λb u e=>by
 have hn:=x.fresh hp;by_cases hb:b=a
 ·subst hb;rw[dg] at e;cases e;exact new
 ·rw[db hb] at e;exact(x b u e).stay (λc v _ q=>k c v q) (λc q=>by rw[db<|dq q hn];exact q) λc xs q=>by rw[db<|dq q hn];exact q
end
def Rd(H:Hp)(a:Addr)(u:HO):Prop:=H a=some u\/∃o,H a=some (.frz o u)
def Rd.ok{P:Program}{w:World}{a:Addr}{u:HO}(r:Rd H a u)(x:HOk P w H h):zAc P w H h a u:=by
 rcases r with r|⟨o,r⟩
 ·exact x a u r
 ·obtain⟨_,q⟩:=x a _ r;exact q
def Mut:Option HO->Prop
 |some (.lst _)=>True
 |some (.dK _)=>True
 |some (.dT _)=>True
 |some (.set _ _)=>True
 |some (.ins _ _ _)=>True
 |some (.ext _)=>True
 |_=>False
section
variable{P:Program}{w:World}{H:Hp}{h h':Heap}{x e:Addr}{o':HO}
def HOk.write(ok:HOk P w H h)(mu:Mut<|H x)(he:e=x\/H e=some (.own x))(k:∀b u,b≠e->h.get? b=some u->h'.get? b=some u)(heo:∃u,h'.get? e=some u)(new:zAc P w (upd H x o') h' x o'):HOk P w (upd H x o') h':=λb u q=>by
 have nown:∀c y,H c=some (.own y)->c≠x:=λc y r z=>by subst z;rw[r] at mu;exact mu
 have ntup:∀c xs,H c=some (.tup xs)->c≠x:=λc xs r z=>by subst z;rw[r] at mu;exact mu
 by_cases hb:b=x
 ·subst hb;rw[dg] at q;cases q;exact new
 ·rw[db hb] at q;by_cases hbe:b=e
  ·have q':H b=some (.own x):=by
    rcases he with z|z
    ·exact absurd (hbe.trans z) hb
    ·rw[hbe];exact z
   rw[q] at q';cases q';obtain⟨v,hv⟩:=heo;exact⟨v,by rw[hbe];exact hv⟩
  ·refine(ok b u q).stay (λc v hc r=>k c v ?_ r) (λc r=>by rw[db<|nown c b r];exact r) λc xs r=>by rw[db<|ntup c xs r];exact r
   rcases hc with rfl|hc
   ·exact hbe
   ·rintro rfl
    rcases he with z|z
    ·exact nown c b hc z
    ·rw[hc] at z;cases z;exact hb rfl
end
structure Un(fs ex:List Addr)(H H':Hp)(h h':Heap):Prop where
 keep:∀b o,h.get? b=some o->H b=none->b∉fs->b∉ex->h'.get? b=some o
 slot:∀b o,h.get? b=some o->H b=none->b∈fs->b∉ex->∃sl,h'.get? b=some {o with slots:=sl}
 free:∀b o,h.get? b=some o->H b=none->b∉ex->H' b=none
 there:∀b o,h.get? b=some o->b∉ex->∃o',h'.get? b=some o'
 tups:∀b xs,H b=some (.tup xs)->H' b=some (.tup xs)
 frzs:∀b o u,H b=some (.frz o u)->H' b=some (.frz o u)
 tbls:∀b ps,H b=some (.tbl ps)->∃more,H' b=some (.tbl (ps++more))
section
variable{fs fs' ex ex':List Addr}{H H1 H2:Hp}{h h1 h2 h':Heap}{a x e:Addr}{o:HO}
def Un.any(u:Un fs ex H H1 h h1){b:Addr}{ob:Obj}(q:h.get? b=some ob)(n:H b=none)(hx:b∉ex):∃sl,h1.get? b=some {ob with slots:=sl}:=by
 by_cases hb:b∈fs
 ·exact u.slot b ob q n hb hx
 ·exact⟨ob.slots,u.keep b ob q n hb hx⟩
def Un.trans(a:Un fs ex H H1 h h1)(b:Un fs ex H1 H2 h1 h2):Un fs ex H H2 h h2 where
 keep:=λc ob q n hc hx=>b.keep c ob (a.keep c ob q n hc hx) (a.free c ob q n hx) hc hx
 slot:=λc ob q n hc hx=>by
  obtain⟨sl,e1⟩:=a.slot c ob q n hc hx;obtain⟨sl',e2⟩:=b.slot c _ e1 (a.free c ob q n hx) hc hx;exact⟨sl',e2⟩
 free:=λc ob q n hx=>by
  obtain⟨o',e1⟩:=a.there c ob q hx;exact b.free c o' e1 (a.free c ob q n hx) hx
 there:=λc ob q hx=>by
  obtain⟨o',e1⟩:=a.there c ob q hx;exact b.there c o' e1 hx
 tups:=λc xs q=>b.tups c xs<|a.tups c xs q
 frzs:=λc ob xs q=>b.frzs c ob xs<|a.frzs c ob xs q
 tbls:=λc ps q=>by
  obtain⟨m1,e1⟩:=a.tbls c ps q;obtain⟨m2,e2⟩:=b.tbls c _ e1;exact⟨m1++m2,by rw[e2,Array.append_assoc]⟩
def Un.kept(k:∀b u,h.get? b=some u->h'.get? b=some u):Un fs ex H H h h':=
 ⟨λb ob q _ _ _=>k b ob q,λb ob q _ _ _=>⟨ob.slots,k b ob q⟩,λ_ _ _ n _=>n,λb ob q _=>⟨ob,k b ob q⟩,λ_ _ q=>q,λ_ _ _ q=>q,λ_ ps q=>⟨#[],by rw[q];simp⟩⟩
def Un.refl:Un fs ex H H h h:=Un.kept λ_ _ q=>q
def Un.laid(k:∀b u,h.get? b=some u->h'.get? b=some u)(hp:h.objs.size<=a)(hn:H a=none):Un fs ex H (upd H a o) h h' where
 keep:=λb u q _ _ _=>k b u q
 slot:=λb u q _ _ _=>⟨u.slots,k b u q⟩
 free:=λb u q n _=>by rw[db<|xA0<|xBc (xA1 q) hp];exact n
 there:=λb u q _=>⟨u,k b u q⟩
 tups:=λb xs q=>by rw[db<|dq q hn];exact q
 frzs:=λb u xs q=>by rw[db<|dq q hn];exact q
 tbls:=λb ps q=>⟨#[],by rw[db<|dq q hn,q];simp⟩
def Un.write(mu:Mut<|H x)(he:e=x\/H e=some (.own x))(k:∀b u,b≠e->h.get? b=some u->h'.get? b=some u)(heo:∃u,h'.get? e=some u):Un fs ex H (upd H x o) h h':=by
 have hx:∀b,H b=none->b≠x:=λb n z=>by subst z;rw[n] at mu;exact mu
 have hb:∀b,H b=none->b≠e:=λb n z=>by
  subst z;rcases he with r|r
  ·exact hx b n r
  ·rw[n] at r;cases r
 have hm:∀b u,H b=some u->¬ Mut (some u)->b≠x:=λb u q nm z=>by subst z;rw[q] at mu;exact nm mu
 refine⟨λb u q n _ _=>k b u (hb b n) q,λb u q n _ _=>⟨u.slots,k b u (hb b n) q⟩,λb u q n _=>by rw[db<|hx b n];exact n,λb u q _=>?_,
  λb xs q=>by rw[db<|hm b _ q λz=>z];exact q,λb u xs q=>by rw[db<|hm b _ q λz=>z];exact q,λb ps q=>⟨#[],by rw[db<|hm b _ q λz=>z,q];simp⟩⟩
 by_cases hbe:b=e
 ·subst hbe;exact heo
 ·exact⟨u,k b u hbe q⟩
end
noncomputable def trk(h:Heap)(H:Hp):List Addr:=(List.range h.objs.size).filter λa=>(H a).isSome
noncomputable def zDl(h:Heap)(H:Hp):Heap:=W.hideAll h<|trk h H
def oJ(h:Heap)(H:Hp):(zDl h H).objs.size=h.objs.size:=W.hideAll_size _ _
def rj{b:Addr}{o:Obj}(e:h.get? b=some o)(n:H b=none):(zDl h H).get? b=some o:=
 W.hideAll_get _ e λhm=>by
  have q:(H b).isSome=true:=(List.mem_filter.mp hm).2;rw[n] at q;simp at q
theorem uv{b:Addr}{o:Obj}(e:(zDl h H).get? b=some o):h.get? b=some o/\H b=none:=by
 have e':h.get? b=some o:=W.of_hideAll (trk h H) e;refine⟨e',?_⟩;cases q:H b with
 |none=>rfl
 |some x=>
  have hm:b∈trk h H:=List.mem_filter.mpr ⟨List.mem_range.mpr<|xA1 e',by simp[q]⟩;have z:(zDl h H).get? b=none:=W.hideAll_none (trk h H) hm;rw[z] at e;cases e
structure Mod(K:xFr)(mg:Str->Option Value)(base:Heap):Prop where
 kin:K.In base
 glob:base.Ns mainGlobals mg
 blt:∃mb,base.Ns builtinsNs mb/\∀x:Str,x≠"__name__"->mb x=bootBuiltins x
 nolimit:base.NoLimit
structure Cx where
 prog:Program
 w:World
 K:xFr
 mg:Str->Option Value
 base:Heap
 A:Around
 N:List Str
 s₀:Shared
 H₀:Hp
 env:Env
 outer:List Env
 stack:List Env
 ex:List Addr
 fn:Str->Bool
 calm:Bool
 pn:List (Addr×Obj)
 xe:Value->Shared->Prop
noncomputable def frs(l:List Env):List Addr:=l.filterMap (·.frame)
noncomputable abbrev Cx.fs(X:Cx):List Addr:=frs X.outer
def Vis(sc:Scope)(x:Str):Prop:=sc.names.lookup x=some .local\/sc.names.lookup x=some .cell\/sc.names.lookup x=some .free
def Loc(sc:Scope)(x:Str):Prop:=sc.names.lookup x=some .local\/sc.names.lookup x=some .cell
def zJ6(env:Env)(h:Heap)(m:Str->Option Value)(x:Str)(u:Value):Prop:=
 (env.kindOf x=some .local/\m x=some u)\/((env.kindOf x=some .cell\/env.kindOf x=some .free)/\∃c,env.cells.lookup x=some c/\h.IsCell c (some u))
structure Cx.Ok(X:Cx):Prop where
 mod:Mod X.K X.mg X.base
 kind:X.env.scope.kind=.function
 glob:X.env.globals=mainGlobals
 blt:X.env.builtins=builtinsNs
 above:X.s₀.heap.objs.size<=X.env.locals
 inj:∀x y c,X.env.cells.lookup x=some c->X.env.cells.lookup y=some c->x=y
 has:∀x,(X.env.kindOf x=some .cell\/X.env.kindOf x=some .free)->∃c,X.env.cells.lookup x=some c
 cab:∀x c,X.fn x=true->X.env.cells.lookup x=some c->X.s₀.heap.objs.size<=c
 hd:X.calm=true->X.A.handled=none
 frames:X.A.frames=some X.stack
 stk:X.stack=X.outer\/(X.stack=X.env::X.outer/\X.env.frame=some X.env.locals)
 exf:∀b∈X.ex,b≠X.env.locals/\∀x c,X.env.cells.lookup x=some c->c≠b
 bs:∀b o,X.base.get? b=some o->X.s₀.heap.get? b=some o/\X.H₀ b=none
 bsz:X.base.objs.size<=X.s₀.heap.objs.size
 noex:∀b o,X.base.get? b=some o->b∉X.ex
 exfs:∀b∈X.ex,b∉X.fs
 funs:X.s₀.heap.FunFrames X.base X.outer
 frf:∀b∈X.fs,X.H₀ b=none
structure Inv(X:Cx)(Z:List (Addr×Obj))(σ:List (Option V))(H:Hp)(s:Shared):Prop where
 ok:X.Ok
 os:s.os=X.s₀.os
 bare:AllBare s.gens
 base:Un X.fs X.ex X.H₀ H X.s₀.heap s.heap
 loc:∃m,s.heap.Ns X.env.locals m/\∀(i:Nat)(x:Str)(v:V),X.N[i]?=some x->σ[i]?=some (some v)->Vis X.env.scope x->∃u,zAi v u/\zJ6 X.env s.heap m x u
 cell:∀x c,X.env.cells.lookup x=some c->∃v,s.heap.IsCell c v
 free:H X.env.locals=none
 freeC:∀x c,X.env.cells.lookup x=some c->H c=none
 pin:∀p∈X.pn++Z,s.heap.get? p.1=some p.2/\H p.1=none/\p.1≠X.env.locals/\p.1∉X.fs/\∀v,p.2.data≠.cell v
 hok:HOk X.prog X.w H s.heap
 len:σ.length=X.N.length
section
variable{X:Cx}{Z:List<|Addr×Obj}{σ:List<|Option V}{H H':Hp}{s:Shared}{h':Heap}
def Cx.Ok.nofr(ok:X.Ok){b:Addr}{o:Obj}(e:X.base.get? b=some o):b∉X.fs:=λhb=>by
 have:=(ok.funs.mem hb).1;rw[e] at this;cases this
theorem Inv.bs(I:Inv X Z σ H s):∀b o,X.base.get? b=some o->s.heap.get? b=some o/\H b=none:=λb o e=>
 ⟨I.base.keep b o (I.ok.bs b o e).1 (I.ok.bs b o e).2 (I.ok.nofr e)<|I.ok.noex b o e,I.base.free b o (I.ok.bs b o e).1 (I.ok.bs b o e).2<|I.ok.noex b o e⟩
def Inv.bk(I:Inv X Z σ H s):∀b o,X.base.get? b=some o->s.heap.get? b=some o:=λb o e=>(I.bs b o e).1
theorem Inv.mod(I:Inv X Z σ H s):Mod X.K X.mg X.base:=I.ok.mod
def Inv.kIn(I:Inv X Z σ H s):X.K.In s.heap:=I.ok.mod.kin.keeps I.bk
theorem Inv.lt(I:Inv X Z σ H s):X.env.locals<s.heap.objs.size:=let ⟨_,hn,_⟩:=I.loc;hn.lt
def Inv.sz(I:Inv X Z σ H s):X.s₀.heap.objs.size<=s.heap.objs.size:=xCk I.ok.above<|Nat.le_of_lt I.lt
def Inv.nofs(I:Inv X Z σ H s){a:Addr}(h:s.heap.objs.size<=a):a∉X.fs:=λhb=>by
 obtain⟨_,o,ho,_⟩:=I.ok.funs.mem hb;exact absurd (xBc (xA1 ho)<|xCk I.sz h)<|Nat.lt_irrefl _
def Inv.cne(I:Inv X Z σ H s):∀x c,X.env.cells.lookup x=some c->c≠X.env.locals:=λx c e z=>by
 obtain⟨v,o,ho,hd⟩:=I.cell x c e;obtain⟨m,⟨o',es,ep,ho',hd',_⟩,_⟩:=I.loc;rw[z,ho'] at ho;cases ho;rw[hd'] at hd;cases hd
theorem Inv.funs(I:Inv X Z σ H s):s.heap.FunFrames X.base X.outer:=by
 have all:∀(l:List Env),(∀b∈frs l,b∈X.fs)->X.s₀.heap.FunFrames X.base l->s.heap.FunFrames X.base l:=by
  intro l;induction l with
  |nil=>intro _ _;trivial
  |cons env r ih=>
   intro hs hl;obtain⟨hk,⟨L,o,hf,hn,ho,hd⟩,hr⟩:=hl;have hL:L∈X.fs:=hs L (by unfold frs;rw[List.filterMap_cons,hf];exact xAr);obtain⟨sl,e⟩:=I.base.slot L o ho (I.ok.frf L hL) hL λz=>I.ok.exfs L z hL;exact⟨hk,⟨L,_,hf,hn,e,hd⟩,ih (λb hb=>hs b<|by unfold frs;rw[List.filterMap_cons,hf];exact xAs _ hb) hr⟩
 exact all X.outer (λ_ hb=>hb) I.ok.funs
theorem Inv.stack(I:Inv X Z σ H s):s.heap.FunFrames X.base X.stack:=by
 rcases I.ok.stk with e|⟨e,hf⟩
 ·rw[e];exact I.funs
 ·rw[e];obtain⟨m,hn,_⟩:=I.loc;refine .cons (by rw[I.ok.kind];decide) hf hn ?_ I.funs;exact Heap.get?_none_of_le<|xCk I.ok.bsz I.ok.above
def Inv.stkSub(I:Inv X Z σ H s):∀b∈frs X.stack,b∈X.env.locals::X.fs:=λb hb=>by
 rcases I.ok.stk with e|⟨e,hf⟩
 ·rw[e] at hb;exact xAs _ hb
 ·rw[e] at hb;unfold frs at hb;rw[List.filterMap_cons,hf] at hb;exact hb
def Inv.stkFree(I:Inv X Z σ H s):∀b∈frs X.stack,H b=none:=λb hb=>by
 rcases xAv.mp (I.stkSub b hb) with e|hb
 ·rw[e];exact I.free
 ·obtain⟨_,o,ho,_⟩:=I.ok.funs.mem hb;exact I.base.free b o ho (I.ok.frf b hb) λz=>I.ok.exfs b z hb
def Inv.step(I:Inv X Z σ H s)(hch:∀b∈ch,(b∈X.ex\/X.s₀.heap.objs.size<=b)/\b≠X.env.locals/\(∀x c,X.env.cells.lookup x=some c->c≠b)/\∀p∈X.pn++Z,p.1≠b)(keep:∀b o,b≠X.env.locals->b∉X.fs->b∉ch->s.heap.get? b=some o->H b=none->h'.get? b=some o)(slot:∀b o,b≠X.env.locals->b∈X.fs->b∉ch->s.heap.get? b=some o->H b=none->∃sl,h'.get? b=some {o with slots:=sl})(free:∀b o,b∉ch->s.heap.get? b=some o->H b=none->H' b=none)(there:∀b o,b∉ch->s.heap.get? b=some o->∃o',h'.get? b=some o')(tups:∀b xs,H b=some (.tup xs)->H' b=some (.tup xs))(frzs:∀b o u,H b=some (.frz o u)->H' b=some (.frz o u))(tbls:∀b ps,H b=some (.tbl ps)->∃more,H' b=some (.tbl<|ps++more))(ns:∀m,s.heap.Ns X.env.locals m->h'.Ns X.env.locals m)(hok:HOk X.prog X.w H' h')(hg:AllBare g') :
  Inv X Z σ H' {s with heap:=h',gens:=g',drawn:=d',toks:=t'}:=by
 have neL:∀b o,X.s₀.heap.get? b=some o->b≠X.env.locals:=λb o e=>xA0<|xBc (xA1 e) I.ok.above;have neC:∀b o,X.s₀.heap.get? b=some o->b∉X.ex->b∉ch:=λb o e hx hb=>by
  rcases(hch b hb).1 with z|z
  ·exact hx z
  ·exact absurd (xBc (xA1 e) z)<|Nat.lt_irrefl _
 have cellK:∀x c,X.env.cells.lookup x=some c->∀v,s.heap.IsCell c v->h'.IsCell c v:=λx c e v ⟨o,ho,hd⟩=>by
  have nch:c∉ch:=λz=>(hch c z).2.2.1 x c e rfl;by_cases hc:c∈X.fs
  ·obtain⟨sl,q⟩:=slot c o (I.cne x c e) hc nch ho<|I.freeC x c e;exact⟨_,q,hd⟩
  ·exact⟨o,keep c o (I.cne x c e) hc nch ho<|I.freeC x c e,hd⟩
 refine⟨I.ok,I.os,hg,⟨λb o e n hb hx=>?_,λb o e n hb hx=>?_,λb o e n hx=>?_,λb o e hx=>?_,λb xs e=>tups b xs<|I.base.tups b xs e,λb o xs e=>frzs b o xs<|I.base.frzs b o xs e,λb ps e=>?_⟩,?_,λx c e=>?_,?_,λx c e=>?_,λp hp=>?_,hok,I.len⟩
 ·exact keep b o (neL b o e) hb (neC b o e hx) (I.base.keep b o e n hb hx)<|I.base.free b o e n hx
 ·obtain⟨sl,e1⟩:=I.base.slot b o e n hb hx;obtain⟨sl',e2⟩:=slot b _ (neL b o e) hb (neC b o e hx) e1<|I.base.free b o e n hx;exact⟨sl',e2⟩
 ·obtain⟨o',e1⟩:=I.base.there b o e hx;exact free b o' (neC b o e hx) e1<|I.base.free b o e n hx
 ·obtain⟨o',e1⟩:=I.base.there b o e hx;exact there b o' (neC b o e hx) e1
 ·obtain⟨m1,e1⟩:=I.base.tbls b ps e;obtain⟨m2,e2⟩:=tbls b _ e1;exact⟨m1++m2,by rw[e2,Array.append_assoc]⟩
 ·obtain⟨m,hn,hl⟩:=I.loc;refine⟨m,ns m hn,λi x v e1 e2 e3=>?_⟩;obtain⟨u,r,l⟩:=hl i x v e1 e2 e3;refine⟨u,r,?_⟩;rcases l with l|⟨k,c,e,z⟩
  ·exact .inl l
  ·exact .inr ⟨k,c,e,cellK x c e _ z⟩
 ·obtain⟨v,z⟩:=I.cell x c e;exact⟨v,cellK x c e v z⟩
 ·obtain⟨m,⟨o,_,_,ho,_⟩,_⟩:=I.loc;exact free _ o (λz=>(hch _ z).2.1 rfl) ho I.free
 ·obtain⟨v,o,ho,hd⟩:=I.cell x c e;exact free c o (λz=>(hch c z).2.2.1 x c e rfl) ho<|I.freeC x c e
 ·obtain⟨e,n,ne,nf,d⟩:=I.pin p hp;have nch:p.1∉ch:=λz=>(hch p.1 z).2.2.2 p hp rfl;exact⟨keep p.1 p.2 ne nf nch e n,free p.1 p.2 nch e n,ne,nf,d⟩
def Inv.un(I:Inv X Z σ H s)(u:Un X.fs [] H H' s.heap h')(hok:HOk X.prog X.w H' h'):Inv X Z σ H' {s with heap:=h',toks:=t'}:=by
 obtain⟨m,⟨o,es,ep,ho,r⟩,_⟩:=id I.loc;obtain⟨sl,hL⟩:=u.any ho I.free (by simp);exact I.step (g':=s.gens) (d':=s.drawn) (ch:=[]) (λ_ z=>nomatch z) (λb o _ hb _ e n=>u.keep b o e n hb<|by simp) (λb o _ hb _ e n=>u.slot b o e n hb<|by simp) (λb o _ e n=>u.free b o e n<|by simp) (λb o _ e=>u.there b o e<|by simp) u.tups u.frzs u.tbls (λm' hm=>by
  obtain⟨o',es',ep',ho',r'⟩:=hm;rw[ho] at ho';cases ho';exact⟨_,es',ep',hL,r'⟩) hok I.bare
def Inv.call(I:Inv X Z σ H s)(u:Un (frs X.stack) ch H H' s.heap h')(hok:HOk X.prog X.w H' h')(hg:AllBare g')(hch:∀b∈ch,(b∈X.ex\/X.s₀.heap.objs.size<=b)/\b≠X.env.locals/\(∀x c,X.env.cells.lookup x=some c->c≠b)/\∀p∈X.pn++Z,p.1≠b) :
  Inv X Z σ H' {s with heap:=h',gens:=g',drawn:=d',toks:=t'}:=by
 obtain⟨m,⟨o,es,ep,ho,r⟩,_⟩:=id I.loc;obtain⟨sl,hL⟩:=u.any ho I.free λz=>(hch _ z).2.1 rfl;exact I.step (ch:=ch) hch (λb o hL hb hc e n=>u.keep b o e n (λz=>(xAv.mp<|I.stkSub b z).elim hL hb) hc) (λb o _ _ hc e n=>u.any e n hc) (λb o hc e n=>u.free b o e n hc) (λb o hc e=>u.there b o e hc) u.tups u.frzs u.tbls (λm' hm=>by
  obtain⟨o',es',ep',ho',r'⟩:=hm;rw[ho] at ho';cases ho';exact⟨_,es',ep',hL,r'⟩) hok hg
def Inv.turned(I:Inv X Z σ H s)(k:∀b o,b≠it->s.heap.get? b=some o->h'.get? b=some o)(hn:H it=none)(hL:it≠X.env.locals)(h1:it∈X.ex\/X.s₀.heap.objs.size<=it)(h2:∀x c,X.env.cells.lookup x=some c->c≠it)(h3:∀p∈X.pn++Z,p.1≠it):Inv X Z σ H {s with heap:=h',toks:=t'}:=by
 have nit:∀b u,H b=some u->b≠it:=λb u e z=>by rw[z,hn] at e;cases e
 refine I.step (g':=s.gens) (d':=s.drawn) (ch:=[it]) (λb hb=>?_) (λb o _ _ hc e _=>k b o (λz=>hc<|by simp[z]) e) (λb o _ _ hc e _=>⟨o.slots,k b o (λz=>hc<|by simp[z]) e⟩) (λ_ _ _ _ n=>n)
  (λb o hc e=>⟨o,k b o (λz=>hc<|by simp[z]) e⟩) (λ_ _ e=>e) (λ_ _ _ e=>e) (λb ps e=>⟨#[],by rw[e];simp⟩) (λm hm=>?_) (λb u e=>?_) I.bare
 ·have e:b=it:=by simpa using hb
  subst e;exact⟨h1,hL,h2,h3⟩
 ·obtain⟨o,es,ep,ho,r⟩:=hm;exact⟨o,es,ep,k _ o (Ne.symm hL) ho,r⟩
 ·refine(I.hok b u e).stay (λc v hc q=>k c v ?_ q) (λ_ q=>q) λ_ _ q=>q;rcases hc with z|z
  ·rw[z];exact nit b u e
  ·exact nit c _ z
def Inv.tok(I:Inv X Z σ H s)(t:Nat):Inv X Z σ H {s with toks:=t}:=I.un (h':=s.heap) (t':=t) Un.refl I.hok
theorem Inv.kept{t':Nat}(I:Inv X Z σ H s)(k:∀b u,s.heap.get? b=some u->h'.get? b=some u):Inv X Z σ H {s with heap:=h',toks:=t'}:=I.un (Un.kept k)<|I.hok.kept k
theorem Inv.laid{a:Addr}{o:HO}{t':Nat}(I:Inv X Z σ H s)(k:∀b u,s.heap.get? b=some u->h'.get? b=some u)(hp:s.heap.objs.size<=a)(new:zAc X.prog X.w (upd H a o) h' a o) :
  Inv X Z σ (upd H a o) {s with heap:=h',toks:=t'}:=I.un (Un.laid k hp<|I.hok.fresh hp)<|I.hok.laid k hp new
theorem Inv.write{x e:Addr}{o:HO}{t':Nat}(I:Inv X Z σ H s)(mu:Mut<|H x)(he:e=x\/H e=some (.own x))(k:∀b u,b≠e->s.heap.get? b=some u->h'.get? b=some u)(heo:∃u,h'.get? e=some u)(new:zAc X.prog X.w (upd H x o) h' x o):Inv X Z σ (upd H x o) {s with heap:=h',toks:=t'}:=I.un (Un.write mu he k heo)<|I.hok.write mu he k heo new
def Inv.pins_of{pins':List<|Addr×Obj}(I:Inv X Z σ H s)(h:∀p∈pins',s.heap.get? p.1=some p.2/\H p.1=none/\p.1≠X.env.locals/\p.1∉X.fs/\∀v,p.2.data≠.cell v):Inv X pins' σ H s:=
 ⟨I.ok,I.os,I.bare,I.base,I.loc,I.cell,I.free,I.freeC,λp hp=>(xAj.mp hp).elim (λz=>I.pin p<|List.mem_append_left _ z)<|h p,I.hok,I.len⟩
def kr(hN:N.Nodup){x:Str}(a:N[i]?=some x)(b:N[j]?=some x):i=j:=by
 obtain⟨h1,e1⟩:=xAq.mp a;obtain⟨h2,e2⟩:=xAq.mp b;exact(List.getElem_inj hN).mp<|e1.trans e2.symm
def iV{E:Value->Shared->Prop}{x:Str}{v:V}{u:Value}{Q:Unit->Shared->Prop}(I:Inv X Z σ H s)(hN:X.N.Nodup)(hi:X.N[i]?=some x)(hx:Loc X.env.scope x)(r:zAi v u)(h:∀s',Inv X Z (σ.set i<|some v) H s'->(∃a,Heap.SameBut a s.heap s'.heap/\(a=X.env.locals\/X.env.cells.lookup x=some a))->Q () s')(hf:X.fn x=true\/X.env.scope.names.lookup x=some .local:=by first|exact .inl rfl|exact .inr rfl|assumption):wpAny M A (storeName X.env x u) Q E s:=by
 obtain⟨m,hn,hl⟩:=id I.loc;have hcls:(X.env.scope.kind == .class||(X.env.scope.kind == .module&&X.env.locals != X.env.globals))=false:=by rw[I.ok.kind];rfl
 have hiσ:i<σ.length:=by rw[I.len];exact(xAq.mp hi).1
 have cne:=I.cne;have tracked:∀{a:Addr}{h':Heap},(∃o,s.heap.get? a=some o/\H a=none)->Heap.SameBut a s.heap h'->HOk X.prog X.w H h':=λ{a h'} ha hs b ob e=>by
  obtain⟨_,_,hfree⟩:=ha;refine(I.hok b ob e).stay (λc w' hc q=>(hs.2 c ?_).trans q) (λ_ q=>q) λ_ _ q=>q;rintro rfl
  rcases hc with rfl|hc
  ·rw[hfree] at e;cases e
  ·rw[hfree] at hc;cases hc
 rcases hx with hk|hk
 ·refine wpAny_storeName_local hk hn (λh' hn' hs=>?_) hcls;obtain⟨oL,_,_,hoL,_⟩:=id hn;refine h _ ⟨I.ok,I.os,I.bare,⟨λb o e n hb hx=>?_,λb o e n hb hx=>?_,I.base.free,λb o e hx=>?_,I.base.tups,I.base.frzs,I.base.tbls⟩,⟨_,hn',λj y v' e1 e2 e3=>?_⟩,λy c e=>?_,I.free,I.freeC,λp hp=>?_,tracked ⟨oL,hoL,I.free⟩ hs,by simpa using I.len⟩ ⟨_,hs,.inl rfl⟩
  ·exact(hs.2 b<|xA0<|xBc (xA1 e) I.ok.above).trans<|I.base.keep b o e n hb hx
  ·obtain⟨sl,e1⟩:=I.base.slot b o e n hb hx;exact⟨sl,(hs.2 b<|xA0<|xBc (xA1 e) I.ok.above).trans e1⟩
  ·obtain⟨o',e1⟩:=I.base.there b o e hx;exact⟨o',(hs.2 b<|xA0<|xBc (xA1 e) I.ok.above).trans e1⟩
  ·by_cases hj:j=i
   ·subst hj;rw[hi] at e1;cases e1;rw[List.getElem?_set_self hiσ] at e2;cases e2;exact⟨u,r,.inl ⟨hk,by simp⟩⟩
   ·rw[xC1<|Ne.symm hj] at e2;obtain⟨u',r',q⟩:=hl j y v' e1 e2 e3;refine⟨u',r',?_⟩;rcases q with ⟨k,e⟩|⟨k,c,e,z⟩
    ·refine .inl ⟨k,?_⟩;have:y≠x:=λe=>hj<|kr hN e1<|e▸hi;simp[this,e]
    ·exact .inr ⟨k,c,e,z.sameBut hs<|cne y c e⟩
  ·obtain⟨w',z⟩:=I.cell y c e;exact⟨w',z.sameBut hs<|cne y c e⟩
  ·obtain⟨e,n,ne,nf,d⟩:=I.pin p hp;exact⟨(hs.2 p.1 ne).trans e,n,ne,nf,d⟩
 ·have hfn:X.fn x=true:=by
   rcases hf with z|z
   ·exact z
   ·rw[z] at hk;cases hk
  obtain⟨c,hc⟩:=I.ok.has x<|.inl hk;obtain⟨w',z⟩:=I.cell x c hc;refine wpAny_storeName_cell I.ok.kind hk hc z (λh' hc' hs=>?_);obtain⟨oc,hoc,hocd⟩:=id z;refine h {s with heap:=h'} ⟨I.ok,I.os,I.bare,⟨λb o e n hb hx=>?_,λb o e n hb hx=>?_,I.base.free,λb o e hx=>?_,I.base.tups,I.base.frzs,I.base.tbls⟩,⟨m,hn.sameBut hs<|Ne.symm<|cne x c hc,λj y v' e1 e2 e3=>?_⟩,λy c' e=>?_,I.free,I.freeC,λp hp=>?_,tracked ⟨oc,hoc,I.freeC x c hc⟩ hs,by simpa using I.len⟩ ⟨c,hs,.inr hc⟩
  ·exact(hs.2 b<|xA0<|xBc (xA1 e)<|I.ok.cab x c hfn hc).trans<|I.base.keep b o e n hb hx
  ·obtain⟨sl,e1⟩:=I.base.slot b o e n hb hx;exact⟨sl,(hs.2 b<|xA0<|xBc (xA1 e)<|I.ok.cab x c hfn hc).trans e1⟩
  ·obtain⟨o',e1⟩:=I.base.there b o e hx;exact⟨o',(hs.2 b<|xA0<|xBc (xA1 e)<|I.ok.cab x c hfn hc).trans e1⟩
  ·by_cases hj:j=i
   ·subst hj;rw[hi] at e1;cases e1;rw[List.getElem?_set_self hiσ] at e2;cases e2;exact⟨u,r,.inr ⟨.inl hk,c,hc,hc'⟩⟩
   ·rw[xC1<|Ne.symm hj] at e2;obtain⟨u',r',q⟩:=hl j y v' e1 e2 e3;refine⟨u',r',?_⟩;rcases q with q|⟨k,c',e,z'⟩
    ·exact .inl q
    ·refine .inr ⟨k,c',e,z'.sameBut hs ?_⟩;rintro rfl
     exact hj<|kr hN e1<|I.ok.inj _ _ _ e hc▸hi
  ·by_cases hcc:c'=c
   ·subst hcc;exact⟨_,hc'⟩
   ·obtain⟨w2,z2⟩:=I.cell y c' e;exact⟨w2,z2.sameBut hs hcc⟩
  ·obtain⟨e,n,ne,nf,d⟩:=I.pin p hp;refine⟨(hs.2 p.1 ?_).trans e,n,ne,nf,d⟩;intro q;rw[q,hoc] at e;have q':oc=p.2:=xB3 e;exact d w' (by rw[<- q'];exact hocd)
def g7{E:Value->Shared->Prop}{x:Str}{v:V}{u:Value}{Q:Unit->Shared->Prop}(I:Inv X Z σ H s)(hN:X.N.Nodup)(hi:X.N[i]?=some x)(hx:Loc X.env.scope x)(r:zAi v u)(h:∀s',Inv X Z (σ.set i<|some v) H s'->Q () s')(hf:X.fn x=true\/X.env.scope.names.lookup x=some .local:=by first|exact .inl rfl|exact .inr rfl|assumption):wpAny M A (storeName X.env x u) Q E s:=
 iV I hN hi hx r (λs' I' _=>h s' I') hf
def Inv.call'{s':Shared}(I:Inv X Z σ H s)(ho:s'.os=s.os)(u:Un (frs X.stack) ch H H' s.heap s'.heap)(hok:HOk X.prog X.w H' s'.heap)(hg:AllBare s'.gens)(hch:∀b∈ch,(b∈X.ex\/X.s₀.heap.objs.size<=b)/\b≠X.env.locals/\(∀x c,X.env.cells.lookup x=some c->c≠b)/\∀p∈X.pn++Z,p.1≠b):Inv X Z σ H' s':=by
 obtain⟨h',g',d',t',o'⟩:=s';have e:o'=s.os:=ho;subst e;exact I.call (g':=g') (t':=t') (d':=d') u hok hg hch
end
noncomputable abbrev XK:=Value->Option Addr->Hp->Prop
noncomputable abbrev St:=List<|Option V
noncomputable abbrev VK:=V->Hp->Prop
noncomputable abbrev TE:=St->Hp->VK->Prop
noncomputable abbrev TT:=St->Hp->(Bool->Hp->Prop)->Prop
noncomputable abbrev TA:=St->Hp->(List V->Hp->Prop)->Prop
structure zDe where
 nx:St->Hp->Prop
 rt:VK
 bk:St->Hp->Prop:=λ_ _=>False
 ct:St->Hp->Prop:=λ_ _=>False
noncomputable abbrev TS:=zDe->St->Hp->Prop
def EP(X:Cx)(Z:List<|Addr×Obj)(σ:St)(Q:VK)(u:Value)(s':Shared):Prop:=∃v H',Inv X Z σ H' s'/\zAi v u/\Q v H'
def TP(X:Cx)(Z:List<|Addr×Obj)(σ:St)(Q:Bool->Hp->Prop)(b:Bool)(s':Shared):Prop:=∃H',Inv X Z σ H' s'/\Q b H'
def AP(X:Cx)(Z:List<|Addr×Obj)(σ:St)(Q:List V->Hp->Prop)(us:List Value)(s':Shared):Prop:=∃vs H',Inv X Z σ H' s'/\zAg vs us/\Q vs H'
def SP(X:Cx)(Z:List<|Addr×Obj)(D:zDe)(f:Flow)(s':Shared):Prop:=
 match f with
 |.next=>∃σ' H',Inv X Z σ' H' s'/\D.nx σ' H'
 |.brk=>∃σ' H',Inv X Z σ' H' s'/\D.bk σ' H'
 |.cont=>∃σ' H',Inv X Z σ' H' s'/\D.ct σ' H'
 |.ret u=>∃v σ' H',Inv X Z σ' H' s'/\zAi v u/\D.rt v H'
def PE(X:Cx)(e:Expr)(t:TE):Prop:=
 ∀(Z:List<|Addr×Obj)(s:Shared)(σ:St)(H:Hp)(Q:VK),Inv X Z σ H s->t σ H Q->wpAny (model X.prog X.w) X.A (eval e X.env) (EP X Z σ Q) X.xe s
def PT(X:Cx)(e:Expr)(t:TT):Prop:=
 ∀(Z:List<|Addr×Obj)(s:Shared)(σ:St)(H:Hp)(Q:Bool->Hp->Prop),Inv X Z σ H s->t σ H Q->wpAny (model X.prog X.w) X.A (isTrue e X.env<|eval e X.env) (TP X Z σ Q) X.xe s
def PW(X:Cx)(e:Expr)(t:TT):Prop:=
 ∀(whole:Sem Value)(Z:List<|Addr×Obj)(s:Shared)(σ:St)(H:Hp)(Q:Bool->Hp->Prop),Inv X Z σ H s->t σ H Q->wpAny (model X.prog X.w) X.A (isTrue e X.env whole) (TP X Z σ Q) X.xe s
def PW.pt{X:Cx}{e:Expr}{t:TT}(h:PW X e t):PT X e t:=h _
def PA(X:Cx)(es:List Expr)(t:TA):Prop:=
 ∀(pos:Pos)(Z:List<|Addr×Obj)(s:Shared)(σ:St)(H:Hp)(Q:List V->Hp->Prop),Inv X Z σ H s->t σ H Q->wpAny (model X.prog X.w) X.A (spliced<|backTo pos<|starEach es X.env) (AP X Z σ Q) X.xe s
def PS(X:Cx)(st:Stmt)(t:TS):Prop:=
 ∀(Z:List<|Addr×Obj)(s:Shared)(σ:St)(H:Hp)(D:zDe),Inv X Z σ H s->t D σ H->wpAny (model X.prog X.w) X.A (exec st X.env) (SP X Z D) X.xe s
def PSs(X:Cx)(st:List Stmt)(t:TS):Prop:=
 ∀(Z:List<|Addr×Obj)(s:Shared)(σ:St)(H:Hp)(D:zDe),Inv X Z σ H s->t D σ H->wpAny (model X.prog X.w) X.A (execs st X.env) (SP X Z D) X.xe s
def thn{α:Type}{t:Sem α}{Q Q':α->Shared->Prop}{E:Value->Shared->Prop}(h:wpAny M A t Q E s)(hQ:∀a s,Q a s->Q' a s):wpAny M A t Q' E s:=wpAny_mono h hQ λ_ _ x=>x
section
variable{X:Cx}
def zHv(i:Nat):TE:=λσ H Q=>∃v,σ[i]?=some (some v)/\Q v H
def tC(v:V):TE:=λ_ H Q=>Q v H
def jz{x:Str}(hN:X.N[i]?=some x)(hv:Vis X.env.scope x)(hd:(x==("__debug__":Str))=false:=by decide)(hcd:(x==("__classdict__":Str))=false:=by decide):PE X (.Name x pos)<|zHv i:=by
 intro Z s σ H Q I h;obtain⟨v,e,h⟩:=h;obtain⟨m,hn,hl⟩:=I.loc;obtain⟨u,r,l⟩:=hl i x v hN e hv;have fin:EP X Z σ Q u s:=⟨v,H,I,r,h⟩
 rcases l with ⟨hk,hm⟩|⟨hk,c,hc,hcell⟩
 ·exact wpAny_Name (wpAny_loadName_local I.ok.kind hk hn hm fin) hd
 ·rcases hk with hk|hk
  ·exact wpAny_Name (wpAny_loadName_cell I.ok.kind hk hc hcell fin) hd
  ·exact wpAny_Name (wpAny_loadName_free I.ok.kind hk hc hcell fin hcd) hd
def xi{i j pos}:PE X (.Constant (.int i) j pos)<|tC<|.int i:=λ_ _ _ H _ I h=>wpAny_Constant_int ⟨.int i,H,I.tok _,⟨_,rfl⟩,h⟩
def zw{b j pos}:PE X (.Constant (.bool b) j pos)<|tC<|.bl b:=λ_ _ _ H _ I h=>Constant_bool ⟨.bl b,H,I,rfl,h⟩
def lB{j pos}:PE X (.Constant .none j pos)<|tC .non:=λ_ _ _ H _ I h=>Constant_none ⟨.non,H,I,rfl,h⟩
def qr{x j pos}:PE X (.Constant (.str x) j pos)<|tC<|.str x:=λ_ _ _ H _ I h=>Calls.Constant_str ⟨.str x,H,I.tok _,⟨_,rfl⟩,h⟩
def Gl(X:Cx)(x:Str):Prop:=X.env.kindOf x=some .globalImplicit
def eY{E:Value->Shared->Prop}{σ:St}{x:Str}{u:Value}(I:Inv X Z σ H s)(hg:Gl X x)(hm:X.mg x=some u)(h:Q u s)(hd:(x==("__debug__":Str))=false:=by decide):wpAny (model X.prog X.w) X.A (eval (.Name x pos) X.env) Q E s:=
 Calls.Name_function_global I.ok.kind hg (Calls.loadGlobal_global (by rw[I.ok.glob];exact I.mod.glob.keeps I.bk) hm h) hd
def fT{E:Value->Shared->Prop}{σ:St}{x:Str}{u:Value}(I:Inv X Z σ H s)(hg:Gl X x)(hm:X.mg x=none)(hv:bootBuiltins x=some u)(h:Q u s)(hn:x≠"__name__":=by decide)(hd:(x==("__debug__":Str))=false:=by decide):wpAny (model X.prog X.w) X.A (eval (.Name x pos) X.env) Q E s:=by
 obtain⟨mb,h1,h2⟩:=I.mod.blt;exact Calls.Name_function_global I.ok.kind hg (Calls.loadGlobal_builtin (by rw[I.ok.glob];exact I.mod.glob.keeps I.bk) hm (by rw[I.ok.blt];exact h1.keeps I.bk) ((h2 x hn).trans hv) h) hd
def gP{x:Str}{v:V}{u:Value}(hg:Gl X x)(hm:X.mg x=some u)(r:zAi v u)(hd:(x==("__debug__":Str))=false:=by decide):PE X (.Name x pos)<|tC v:=
 λ_ _ _ H _ I h=>eY I hg hm ⟨v,H,I,r,h⟩ hd
def ub{x:Str}{v:V}{u:Value}(hg:Gl X x)(hm:X.mg x=none)(hv:bootBuiltins x=some u)(r:zAi v u)(hn:x≠"__name__":=by decide)(hd:(x==("__debug__":Str))=false:=by decide):PE X (.Name x pos)<|tC v:=
 λ_ _ _ H _ I h=>fT I hg hm hv ⟨v,H,I,r,h⟩ hn hd
variable{a b:Expr}{ta tb:TE}{pos:Pos}
def tB(t:TE):TT:=λσ H Q=>t σ H λx H1=>∃c,x=.bl c/\Q c H1
def wN{e:Expr}{t:TE}(h:PE X e t)(he:∀whole,isTrue e X.env whole=(do let v <- whole;standAt e.pos;holding [v] (truthy v)):=by intro _;rfl):PT X e<|tB t:=by
 intro Z s σ H Q I hw;refine isTrue_plain (thn (h Z s σ H _ I hw) λv s1 ⟨x,H1,I1,r1,q1⟩=>?_) (he _);obtain⟨d,rfl,q⟩:=q1;cases r1;exact wpAny_truthy_bool ⟨H1,I1,q⟩
variable{tA tB':TT}{rest:List Expr}
def zJj(t u:TT):TT:=λσ H Q=>t σ H λc H1=>if c=true then u σ H1 Q else Q false H1
def tOr(t u:TT):TT:=λσ H Q=>t σ H λc H1=>if c=true then Q true H1 else u σ H1 Q
def zJe(t:TT):TT:=λσ H Q=>t σ H λc H1=>Q (!c) H1
theorem tE(ha:PT X a tA):PW X (.BoolOp .And [a] pos) tA:=by
 intro wh Z s σ H Q I h;refine isTrue_and (thn (ha Z s σ H Q I h) λc s1 e=>?_);cases c with
 |true=>exact isTrue_and_nil e
 |false=>exact e
theorem wL(ha:PT X a tA):PW X (.BoolOp .Or [a] pos) tA:=by
 intro wh Z s σ H Q I h;refine isTrue_or (thn (ha Z s σ H Q I h) λc s1 e=>?_);cases c with
 |false=>exact isTrue_or_nil e
 |true=>exact e
theorem wM(ha:PT X a tA)(hb:PW X (.BoolOp .And (b::rest) pos) tB'):PW X (.BoolOp .And (a::b::rest) pos)<|zJj tA tB':=by
 intro wh Z s σ H Q I h;refine isTrue_and (thn (ha Z s σ H _ I h) λc s1 ⟨H1,I1,q1⟩=>?_);cases c with
 |true=>exact hb wh Z s1 σ H1 Q I1 q1
 |false=>exact⟨H1,I1,q1⟩
theorem zi(ha:PT X a tA)(hb:PW X (.BoolOp .Or (b::rest) pos) tB'):PW X (.BoolOp .Or (a::b::rest) pos)<|tOr tA tB':=by
 intro wh Z s σ H Q I h;refine isTrue_or (thn (ha Z s σ H _ I h) λc s1 ⟨H1,I1,q1⟩=>?_);cases c with
 |true=>exact⟨H1,I1,q1⟩
 |false=>exact hb wh Z s1 σ H1 Q I1 q1
def wP(ha:PT X a tA):PT X (.UnaryOp .Not a pos)<|zJe tA:=by
 intro Z s σ H Q I h;exact isTrue_not (ha Z s σ H (λc H1=>Q (!c) H1) I h)
def zGk(ta tb:TE):TE:=λσ H Q=>ta σ H λx H1=>∃c,x=.bl c/\if c=true then tb σ H1 Q else Q (.bl false) H1
def zJd(ta tb:TE):TE:=λσ H Q=>ta σ H λx H1=>∃c,x=.bl c/\if c=true then Q (.bl true) H1 else tb σ H1 Q
def zGg(ta:TE):TE:=λσ H Q=>ta σ H λx H1=>∃c,x=.bl c/\Q (.bl (!c)) H1
def xb{op}{t:TE}(h:PE X a t):PE X (.BoolOp op [a] pos) t:=λZ s σ H Q I hw=>BoolOp_one<|h Z s σ H Q I hw
theorem xl(ha:PE X a ta)(hb:PE X (.BoolOp .And (b::rest) pos) tb):PE X (.BoolOp .And (a::b::rest) pos)<|zGk ta tb:=by
 intro Z s σ H Q I h;refine BoolOp_and (thn (ha Z s σ H _ I h) λv s1 zz=>?_);obtain⟨x,H1,I1,r1,q1⟩:=zz;obtain⟨c,rfl,q1⟩:=q1;cases r1;refine wpAny_truthy_bool ?_;cases c with
 |true=>exact hb Z s1 σ H1 Q I1 q1
 |false=>exact⟨.bl false,H1,I1,rfl,q1⟩
theorem zq(ha:PE X a ta)(hb:PE X (.BoolOp .Or (b::rest) pos) tb):PE X (.BoolOp .Or (a::b::rest) pos)<|zJd ta tb:=by
 intro Z s σ H Q I h;refine BoolOp_or (thn (ha Z s σ H _ I h) λv s1 zz=>?_);obtain⟨x,H1,I1,r1,q1⟩:=zz;obtain⟨c,rfl,q1⟩:=q1;cases r1;refine wpAny_truthy_bool ?_;cases c with
 |false=>exact hb Z s1 σ H1 Q I1 q1
 |true=>exact⟨.bl true,H1,I1,rfl,q1⟩
def xf(ha:PE X a ta):PE X (.UnaryOp .Not a pos)<|zGg ta:=by
 intro Z s σ H Q I h;refine UnaryOp_ (thn (ha Z s σ H _ I h) λv s1 zz=>?_);obtain⟨x,H1,I1,r1,q1⟩:=zz;obtain⟨c,rfl,q1⟩:=q1;cases r1;exact not_of<|wpAny_truthy_bool ⟨.bl (!c),H1,I1,rfl,q1⟩
def tIf(t:TT)(ta tb:TE):TE:=λσ H Q=>t σ H λc H1=>if c=true then ta σ H1 Q else tb σ H1 Q
theorem qw{c:Expr}(hc:PT X c tA)(ha:PE X a ta)(hb:PE X b tb):PE X (.IfExp c a b pos)<|tIf tA ta tb:=by
 intro Z s σ H Q I h;refine wpAny_IfExp (thn (hc Z s σ H _ I h) λd s1 ⟨H1,I1,q1⟩=>?_);cases d with
 |true=>exact ha Z s1 σ H1 Q I1 q1
 |false=>exact hb Z s1 σ H1 Q I1 q1
end
def SqL(K:xFr)(H:Hp)(a:Addr)(xs:List V):Prop:=
 Rd H a (.lst xs) \/
  ∃(o:Obj) (its:Array Value) (n:Nat),K.lookup a=some o/\o.cls=.type "list"/\o.dict=none/\o.data=.seq its n/\its.size<=sizeLine/\zAg xs its.toList
def SqT(K:xFr)(H:Hp)(a:Addr)(xs:List V):Prop:=
 Rd H a (.tup xs) \/
  ∃(o:Obj) (its:Array Value) (n:Nat),K.lookup a=some o/\o.cls=.type "tuple"/\o.data=.seq its n/\its.size<=sizeLine/\zAg xs its.toList
noncomputable def zJ4:Value->Option V
 |.none=>some .non
 |.bool b=>some<|.bl b
 |.int i _=>some<|.int i
 |.str x _=>some<|.str x
 |.bytes b _=>some<|.byt b
 |.float b _=>some<|.flt b
 |.ref a=>some<|.ref a
 |.type n=>some<|.ty n
 |_=>none
theorem zAi.abs{x:V}{u:Value}(r:zAi x u):zJ4 u=some x:=by
 cases x with
 |non=>cases r;rfl
 |bl _=>cases r;rfl
 |int _=>obtain⟨t,rfl⟩:=r;rfl
 |str _=>obtain⟨t,rfl⟩:=r;rfl
 |byt _=>obtain⟨t,rfl⟩:=r;rfl
 |flt _=>obtain⟨t,rfl⟩:=r;rfl
 |ref _=>cases r;rfl
 |ty _=>cases r;rfl
def zAi.inj{x:V}{u:Value}(r:zAi x u)(q:zAi y u):x=y:=xB3<|r.abs.symm.trans q.abs
theorem zAg.inj:∀{xs ys:List V}{us:List Value},zAg xs us->zAg ys us->xs=ys
 |_,_,_,.nil,.nil=>rfl
 |_,_,_,.cons r t,.cons r' t'=>by rw[r.inj r',zAg.inj t t']
section
variable{X:Cx}{Z:List<|Addr×Obj}{σ:St}{H:Hp}{s:Shared}{a:Addr}{xs ys:List V}
def SqL.of(h:H a=some (.lst xs)):SqL K H a xs:=.inl<|.inl h
def SqT.of(h:H a=some (.tup xs)):SqT K H a xs:=.inl<|.inl h
def Inv.list(I:Inv X Z σ H s)(h:SqL X.K H a xs):∃its:List Value,zAg xs its/\PlainL s.heap a its.toArray/\xs.length<=sizeLine:=by
 rcases h with h|⟨o,its,n,hk,hc,hd,hs,hz,r⟩
 ·obtain⟨z,its,n,r,e⟩:=h.ok I.hok;exact⟨its,r,⟨_,n,e,rfl,rfl,rfl⟩,z⟩
 ·refine⟨its.toList,r,⟨o,n,I.kIn a o hk,hc,hd,by simpa using hs⟩,?_⟩;have e:=r.length;simp only[Array.length_toList] at e;lia
def Inv.tuple(I:Inv X Z σ H s)(h:SqT X.K H a xs):∃its:List Value,zAg xs its/\IsTup s.heap a its.toArray/\xs.length<=sizeLine:=by
 rcases h with h|⟨o,its,n,hk,hc,hs,hz,r⟩
 ·obtain⟨z,its,r,p⟩:=h.ok I.hok;exact⟨its,r,p,z⟩
 ·refine⟨its.toList,r,⟨o,I.kIn a o hk,hc,n,by simpa using hs⟩,?_⟩;have e:=r.length;simp only[Array.length_toList] at e;lia
def Inv.list_inj(I:Inv X Z σ H s)(h:SqL X.K H a xs)(h':SqL X.K H a ys):xs=ys:=by
 obtain⟨its,r,⟨o,n,e,_,_,d⟩,_⟩:=I.list h;obtain⟨its',r',⟨o',n',e',_,_,d'⟩,_⟩:=I.list h';rw[e] at e';cases e';rw[d] at d';injection d' with d1 _;have:its=its':=by simpa using congrArg Array.toList d1
 subst this;exact r.inj r'
def Inv.tuple_inj(I:Inv X Z σ H s)(h:SqT X.K H a xs)(h':SqT X.K H a ys):xs=ys:=by
 obtain⟨its,r,⟨o,e,_,n,d⟩,_⟩:=I.tuple h;obtain⟨its',r',⟨o',e',_,n',d'⟩,_⟩:=I.tuple h';rw[e] at e';cases e';rw[d] at d';injection d' with d1 _;have:its=its':=by simpa using congrArg Array.toList d1
 subst this;exact r.inj r'
end
noncomputable abbrev Cx.wish(X:Cx)(E:Value->Shared->Prop):Cx:={X with xe:=E}
theorem Cx.Ok.wish{X:Cx}(ok:X.Ok)(E:Value->Shared->Prop):(X.wish E).Ok:=
 ⟨ok.mod,ok.kind,ok.glob,ok.blt,ok.above,ok.inj,ok.has,ok.cab,ok.hd,ok.frames,ok.stk,ok.exf,ok.bs,ok.bsz,ok.noex,ok.exfs,ok.funs,ok.frf⟩
def Cx.Ok.unwish{X:Cx}{E:Value->Shared->Prop}(ok:(X.wish E).Ok):X.Ok:=
 ⟨ok.mod,ok.kind,ok.glob,ok.blt,ok.above,ok.inj,ok.has,ok.cab,ok.hd,ok.frames,ok.stk,ok.exf,ok.bs,ok.bsz,ok.noex,ok.exfs,ok.funs,ok.frf⟩
section
variable{X:Cx}{Z:List<|Addr×Obj}{σ:St}{H:Hp}{s:Shared}{E:Value->Shared->Prop}
theorem Inv.wish(I:Inv X Z σ H s)(E:Value->Shared->Prop):Inv (X.wish E) Z σ H s:=⟨I.ok.wish E,I.os,I.bare,I.base,I.loc,I.cell,I.free,I.freeC,I.pin,I.hok,I.len⟩
theorem Inv.unwish(I:Inv (X.wish E) Z σ H s):Inv X Z σ H s:=⟨I.ok.unwish,I.os,I.bare,I.base,I.loc,I.cell,I.free,I.freeC,I.pin,I.hok,I.len⟩
theorem SP.unwish{D:zDe}{f:Flow}{s':Shared}(h:SP (X.wish E) Z D f s'):SP X Z D f s':=by
 cases f with
 |next=>obtain⟨σ',H',I,q⟩:=h;exact⟨σ',H',I.unwish,q⟩
 |brk=>obtain⟨σ',H',I,q⟩:=h;exact⟨σ',H',I.unwish,q⟩
 |cont=>obtain⟨σ',H',I,q⟩:=h;exact⟨σ',H',I.unwish,q⟩
 |ret u=>obtain⟨v,σ',H',I,r,q⟩:=h;exact⟨v,σ',H',I.unwish,r,q⟩
end
section
variable{X:Cx}{st:Stmt}{rest:List Stmt}{t u:TS}{e:Expr}{te:TE}{pos:Pos}
def zEu:TS:=λD σ H=>D.nx σ H
def zJb(t u:TS):TS:=λD σ H=>t {D with nx:=u D} σ H
def tJ:PSs X [] zEu:=λ_ _ σ H _ I h=>wpAny_execs_nil ⟨σ,H,I,h⟩
theorem p0(h1:PS X st t)(h2:PSs X rest u):PSs X (st::rest)<|zJb t u:=by
 intro Z s σ H D I h;refine wpAny_execs_cons (thn (h1 Z s σ H {D with nx:=u D} I h) λf s1 q=>?_);cases f with
 |next=>
  obtain⟨σ',H',I',q⟩:=q;exact h2 Z s1 σ' H' D I' q
 |ret v=>exact q
 |brk=>exact q
 |cont=>exact q
theorem mw(h1:PS X st t):PSs X [st] t:=by
 intro Z s σ H D I h;refine wpAny_execs_cons (thn (h1 Z s σ H D I h) λf s1 q=>?_);cases f with
 |next=>exact wpAny_execs_nil q
 |ret v=>exact q
 |brk=>exact q
 |cont=>exact q
def tL:PS X (.Pass pos) zEu:=λ_ _ σ H _ I h=>wpAny_Pass ⟨σ,H,I,h⟩
def Inv.quiet{σ:St}(I:Inv X Z σ H s):interactive X.env=false:=by simp[interactive,I.ok.kind]
def zEx(te:TE):TS:=λD σ H=>te σ H λ_ H1=>D.nx σ H1
def tO(he:PE X e te)(hs:swapsWith e none pos.line X.env=pure false:=by rfl):PS X (.Expr e pos)<|zEx te:=by
 intro Z s σ H D I h;exact wpAny_Expr_any (thn (he Z s σ H _ I h) λv s1 ⟨x,H1,I1,r1,q1⟩=>⟨σ,H1,I1,q1⟩) I.quiet hs
def zJc(te:TE):TS:=λD σ H=>te σ H D.rt
def wQ(he:PE X e te):PS X (.Return (some e) pos)<|zJc te:=by
 intro Z s σ H D I h;exact wpAny_Return_some (thn (he Z s σ H _ I h) λv s1 ⟨x,H1,I1,r1,q1⟩=>⟨x,σ,H1,I1,r1,q1⟩)
def zGe:TS:=λD _ H=>D.rt .non H
def tK:PS X (.Return none pos) zGe:=λ_ _ σ H _ I h=>wpAny_Return_none ⟨.non,σ,H,I,rfl,h⟩
def zJg(c:TT)(t u:TS):TS:=λD σ H=>c σ H λb H1=>if b=true then t D σ H1 else u D σ H1
theorem zj{c:Expr}{a b:List Stmt}{tc:TT}(hc:PT X c tc)(ha:PSs X a t)(hb:PSs X b u):PS X (.If c a b pos)<|zJg tc t u:=by
 intro Z s σ H D I h;refine wpAny_If (thn (hc Z s σ H _ I h) λd s1 ⟨H1,I1,q1⟩=>?_);cases d with
 |true=>exact ha Z s1 σ H1 D I1 q1
 |false=>exact hb Z s1 σ H1 D I1 q1
end
noncomputable abbrev TG:=V->St->Hp->(St->Hp->Prop)->Prop
noncomputable abbrev TGs:=List V->St->Hp->(St->Hp->Prop)->Prop
def PG(X:Cx)(target:Expr)(t:TG):Prop:=
 ∀(Z:List<|Addr×Obj)(s:Shared)(σ:St)(H:Hp)(v:V)(u:Value)(Q:St->Hp->Prop),Inv X Z σ H s->zAi v u->t v σ H Q ->
  wpAny (model X.prog X.w) X.A (assign target X.env u) (λ_ s'=>∃σ' H',Inv X Z σ' H' s'/\Q σ' H') X.xe s
def PGs(X:Cx)(ts:List Expr)(t:TGs):Prop:=
 ∀(Z:List<|Addr×Obj)(s:Shared)(σ:St)(H:Hp)(vs:List V)(us:List Value)(Q:St->Hp->Prop),Inv X Z σ H s->zAg vs us->t vs σ H Q ->
  wpAny (model X.prog X.w) X.A (assignInOrder ((assignEach ts X.env).map (·.2)) us) (λ_ s'=>∃σ' H',Inv X Z σ' H' s'/\Q σ' H') X.xe s
noncomputable abbrev zGb:=V->V->V->Hp->(Hp->Prop)->Prop
def zI0(X:Cx)(t:zGb):Prop:=
 ∀(Z:List<|Addr×Obj)(s:Shared)(σ:St)(H:Hp)(o i v:V)(ov iv u:Value)(Q:Hp->Prop),Inv X Z σ H s->zAi o ov->zAi i iv->zAi v u->t o i v H Q ->
  wpAny (model X.prog X.w) X.A (setItem ov iv u) (λ_ s'=>∃H',Inv X Z σ H' s'/\Q H') X.xe s
section
variable{X:Cx}{pos:Pos}
def zCu(i:Nat):TG:=λv σ H Q=>Q (σ.set i<|some v) H
def mG{x:Str}(hN:X.N.Nodup)(hi:X.N[i]?=some x)(hx:Loc X.env.scope x)(hf:X.fn x=true\/X.env.scope.names.lookup x=some .local:=by first|exact .inl rfl|exact .inr rfl|assumption):PG X (.Name x pos)<|zCu i:=by
 intro Z s σ H v u Q I r h;exact wpAny_assign_Name (g7 I hN hi hx r (λs' I'=>⟨_,H,I',h⟩) hf)
def zIj:TGs:=λvs σ H Q=>vs=[]/\Q σ H
def zFo(t:TG)(u:TGs):TGs:=λvs σ H Q=>∃v r,vs=v::r/\t v σ H λσ' H'=>u r σ' H' Q
def tX:PGs X [] zIj:=by
 intro Z s σ H vs us Q I r h;obtain⟨e,h⟩:=h;subst e;cases r;exact assignInOrder_nil ⟨σ,H,I,h⟩
theorem qp{e:Expr}{t:TG}{u:TGs}(h1:PG X e t)(h2:PGs X es u)(hs:(assignEach (e::es) X.env).map (·.2)=assign e X.env::(assignEach es X.env).map (·.2):=by rfl):PGs X (e::es)<|zFo t u:=by
 intro Z s σ H vs us Q I r h;obtain⟨v,vr,e1,h⟩:=h;subst e1;cases r with
 |cons r rr=>
  rw[hs];refine assignInOrder_cons (thn (h1 Z s σ H _ _ _ I r h) λ_ s1 zz=>?_);obtain⟨σ1,H1,I1,q1⟩:=zz;exact h2 Z s1 σ1 H1 _ _ Q I1 rr q1
def zG4(K:xFr)(n:Nat)(t:TGs):TG:=λv σ H Q=>∃a xs,v=.ref a/\SqT K H a xs/\xs.length=n/\t xs σ H Q
def qq{t:TGs}(hc:X.calm=true)(h:PGs X es t)(hn:(assignEach es X.env).length=n:=by rfl)(hst:(assignEach es X.env).findIdx? (·.1)=none:=by rfl):PG X (.Tuple es k pos)<|zG4 X.K n t:=by
 intro Z s σ H v u Q I r hw;obtain⟨a,xs,e1,hq,hl,hw⟩:=hw;subst e1;cases r;obtain⟨its,rv,ht,hz⟩:=I.tuple hq;refine assign_Tuple_tuple (I.ok.hd hc) ht (by simp[hn,<- hl,rv.length]) hst λh' hx=>?_;have I1:Inv X Z σ H {s with heap:=h'}:=I.kept (t':=s.toks) λb o e=>hx b o (xA0<|xA1 e) e;exact h Z _ σ H xs _ Q I1 (by simpa using rv) hw
def zJy(to ti:TE)(t:zGb):TG:=λv σ H Q=>to σ H λo H1=>ti σ H1 λi H2=>t o i v H2 λH3=>Q σ H3
def w4{o i:Expr}{to ti:TE}{t:zGb}(ho:PE X o to)(hi:PE X i ti)(hs:zI0 X t)(ha:∀v,assign (.Subscript o i pos) X.env v=(do
   let ov <- holding [v] (eval o X.env)
   let iv <- holding [v,ov] (eval i X.env)
   standAt pos
   holding [v,ov,iv] (setItem ov iv v)
   release [v,ov,iv] []):=by intro _;rfl):PG X (.Subscript o i pos)<|zJy to ti t:=by
 intro Z s σ H v u Q I r h;rw[ha];refine xAd (xDc<|thn (ho Z s σ H _ I h) λov s1 zz=>?_);obtain⟨x,H1,I1,r1,q1⟩:=zz;refine xAd (xDc<|thn (hi Z s1 σ H1 _ I1 q1) λiv s2 zz=>?_);obtain⟨y,H2,I2,r2,q2⟩:=zz;refine xAd (wpAny_standAt<|xAd<|xDc<|thn (hs Z s2 σ H2 x y v ov iv u _ I2 r1 r2 r q2) λ_ s3 ⟨H3,I3,q3⟩=>?_);exact wpAny_release ⟨σ,H3,I3,q3⟩
def zF3(te:TE)(g:TG):TS:=λD σ H=>te σ H λx H1=>g x σ H1 D.nx
def qb{e:Expr}{g:TG}(he:PE X e te)(hg:PG X tg g)(hs:swapsWithSole [tg] e pos.line X.env=pure false:=by rfl)(hw:swappedStores [tg] e X.env=pure none:=by rfl)(h1:(assignEach [tg] X.env).map (·.2)=[assign tg X.env]:=by rfl):PS X (.Assign [tg] e pos)<|zF3 te g:=by
 intro Z s σ H D I h;refine wpAny_Assign_stores (thn (he Z s σ H _ I h) λv s1 ⟨x,H1,I1,r1,q1⟩=>?_) hs hw;rw[h1];exact thn (hg Z s1 σ H1 x v _ I1 r1 q1) λ_ s2 q=>q
def p9{x:Str}{e:Expr}{pos':Pos}(hN:X.N.Nodup)(hi:X.N[i]?=some x)(hx:Loc X.env.scope x)(he:PE X e te)(hs:swapsWith e (some<|.Name x pos') pos.line X.env=pure false:=by rfl)(hf:X.fn x=true\/X.env.scope.names.lookup x=some .local:=by first|exact .inl rfl|exact .inr rfl|assumption) :
  PS X (.Assign [.Name x pos'] e pos) (zF3 te<|zCu i):=by
 intro Z s σ H D I h;refine wpAny_Assign_Name (thn (he Z s σ H _ I h) λv s1 ⟨y,H1,I1,r1,q1⟩=>?_) hs;exact g7 I1 hN hi hx r1 (λs2 I2=>⟨_,H1,I2,q1⟩) hf
end
section
variable{X:Cx}{pos:Pos}
def zEq(c:TT)(tb:TS):TS:=λD σ H=>∃W:Nat->St->Hp->Prop,(∃m,W m σ H)/\∀m σ H,W m σ H ->
 c σ H λb H1=>if b=true then ∃N:St->Hp->Prop,(∀σ' H',N σ' H'->∃m',m'<m/\W m' σ' H')/\tb {D with nx:=N,ct:=N,bk:=D.nx} σ H1 else D.nx σ H1
end
structure It where
 go:Nat->Hp->Prop
 yld:Nat->Hp->V->Hp->Prop
 stop:Nat->Hp->Prop
def zDc(X:Cx)(Z:List<|Addr×Obj)(H:Hp)(b:Addr):Prop:=
 H b=none/\b≠X.env.locals/\b∉X.fs/\(b∈X.ex\/X.s₀.heap.objs.size<=b)/\(∀x c,X.env.cells.lookup x=some c->c≠b)/\∀p∈X.pn++Z,p.1≠b
def Inv.fpOk{X:Cx}{σ:St}{H':Hp}{b:Addr}(I:Inv X Z σ H s)(hb:s.heap.objs.size<=b)(hn:H' b=none):zDc X Z H' b:=by
 refine⟨hn,Nat.ne_of_gt<|xBc I.lt hb,I.nofs hb,.inr<|xCk I.sz hb,λx c e z=>?_,λp hp z=>?_⟩
 ·obtain⟨v,q⟩:=I.cell x c e;exact absurd (xBc q.lt<|by rw[z];exact hb)<|Nat.lt_irrefl _
 ·exact absurd (xBc (xA1 (I.pin p hp).1)<|by rw[z];exact hb)<|Nat.lt_irrefl _
structure zDz(P:Program)(w:World)(K:xFr)(tg:Expr)(J:It)(fp:List Addr)(it:Addr)(tn:Nat->Heap->Prop):Prop where
 mem:it∈fp
 obj:∀i h,tn i h->∀b∈fp,∃o,h.get? b=some o/\∀v,o.data≠.cell v
 keep:∀i h h',tn i h->(∀b∈fp,∀o,h.get? b=some o->h'.get? b=some o)->tn i h'
 item:∀(X:Cx),X.prog=P->X.w=w->X.K=K->X.calm=true->∀(i:Nat)(Z:List (Addr×Obj))(s:Shared)(σ:St)(H:Hp)(E:Value->Shared->Prop),Inv X Z σ H s->(∀b∈fp,zDc X Z H b)->tn i s.heap->J.go i H ->
  wpAny (model P w) X.A (pyNext (.ref it)) (λr s1=>∃u,r=some u /\
   wpAny (model P w) X.A (letOwnedTupleGo tg (.ref it) u) (λ_ s2=>∃x H',Inv X Z σ H' s2/\zAi x u/\J.yld i H x H'/\tn (i+1) s2.heap/\∀b∈fp,H' b=none) E s1) E s
 done:∀(X:Cx),X.prog=P->X.w=w->X.K=K->X.calm=true->∀(i:Nat)(Z:List (Addr×Obj))(s:Shared)(σ:St)(H:Hp)(E:Value->Shared->Prop),Inv X Z σ H s->(∀b∈fp,zDc X Z H b)->tn i s.heap->J.stop i H ->
  wpAny (model P w) X.A (pyNext (.ref it)) (λr s1=>r=none/\Inv X Z σ H s1) E s
 self:∀(A:Around)(i:Nat)(s:Shared)(Q:Value->Shared->Prop)(E:Value->Shared->Prop),tn i s.heap->Q (.ref it) s->wpAny (model P w) A (pyIter (.ref it)) Q E s
noncomputable abbrev TI:=St->Hp->(It->Hp->Prop)->Prop
def PIE(X:Cx)(Z:List<|Addr×Obj)(σ:St)(tg:Expr)(R:It->Hp->Prop)(itv:Value)(s2:Shared):Prop:=
 ∃(it:Addr) (fp:List Addr) (tn:Nat->Heap->Prop) (J:It) (H':Hp),itv=.ref it/\Inv X Z σ H' s2/\zDz X.prog X.w X.K tg J fp it tn/\tn 0 s2.heap/\(∀b∈fp,zDc X Z H' b)/\R J H'
def PI(X:Cx)(tg iter:Expr)(wi:TI):Prop:=
 ∀(Z:List<|Addr×Obj)(s:Shared)(σ:St)(H:Hp)(R:It->Hp->Prop),Inv X Z σ H s->wi σ H R ->
  wpAny (model X.prog X.w) X.A (eval iter X.env) (λv s1=>wpAny (model X.prog X.w) X.A (pyIter v) (PIE X Z σ tg R) X.xe s1) X.xe s
def jd{E:Value->Shared->Prop}{u:Value}{o:Obj}{n:String}{vs:Array Value}{Q:Unit->Shared->Prop}(ho:s.heap.get? it=some o)(hc:o.cls=.type n)(hd:o.data=.fields vs)(hn:["enumerate","zip","dict_itemiterator","dict_reverseitemiterator","odict_iterator","itertools.zip_longest","itertools.pairwise"].contains n=false)(hQ:Q () s):wpAny M A (letOwnedTupleGo tg (.ref it) u) Q E s:=by
 unfold letOwnedTupleGo;cases tg <;> first
  |exact xAe hQ
  | (cases u <;> first
    |exact xAe hQ
    | (refine xAd (wpAny_load ho ?_)
       rw[hc,hd];show wpAny M A (if(["enumerate","zip","dict_itemiterator","dict_reverseitemiterator","odict_iterator","itertools.zip_longest","itertools.pairwise"].contains n&&vs[0]?==some (rawInt _))=true then _ else _) Q E s;rw[xCf<|by intro h;rw[hn,Bool.false_and] at h;cases h];exact xAe hQ))
def Itl(K:xFr)(a:Addr):It:=
 ⟨λi H=>∃xs x,SqL K H a xs/\xs[i]?=some x,λi H x H'=>H'=H/\∀xs,SqL K H a xs->xs[i]?=some x,λi H=>∃xs,SqL K H a xs/\xs.length<=i⟩
def Itt(K:xFr)(a:Addr):It:=
 ⟨λi H=>∃xs x,SqT K H a xs/\xs[i]?=some x,λi H x H'=>H'=H/\∀xs,SqT K H a xs->xs[i]?=some x,λi H=>∃xs,SqT K H a xs/\xs.length<=i⟩
def Itr(lo:Int)(n:Nat):It:=⟨λi _=>i<n,λi H x H'=>H'=H/\x=.int (lo+i),λi _=>n<=i⟩
def nP{P:Program}{w:World}(a it:Addr):zDz P w K tg (Itl K a) [it] it (λi h=>h.IsListIter it a i) where
 mem:=by simp
 obj:=λi h st b hb=>by
  have e:b=it:=by simpa using hb
  subst e;obtain⟨o,e,c,d⟩:=st;exact⟨o,e,λv z=>by rw[d] at z;cases z⟩
 keep:=λi h h' st k=>st.at λo e=>k it (by simp) o e
 item:=by
  intro X hP hw hK hc i Z s σ H E I hf st hg;subst hP hw hK;obtain⟨xs,x,hq,hx⟩:=hg;obtain⟨its,rv,p,hz⟩:=I.list hq;obtain⟨u,hu,ru⟩:=rv.get hx;obtain⟨f0,f1,f2,f3,f4,f5⟩:=hf it (by simp);refine wpAny_pyNext_list_item st p.isList (x:=u) (by simpa using hu) λh' st' sb=>?_;have I1:Inv X Z σ H {s with heap:=h'}:=I.turned (t':=s.toks) (λb o hb e=>(sb.2 b hb).trans e) f0 f1 f3 f4 f5;obtain⟨o,e,c,d⟩:=id st';exact⟨u,rfl,jd (s:={s with heap:=h'}) e c d (by decide) ⟨x,H,I1,ru,⟨rfl,λys hy=>by rw[I.list_inj hy hq];exact hx⟩,st',λb hb=>(hf b hb).1⟩⟩
 done:=by
  intro X hP hw hK hc i Z s σ H E I hf st hg;subst hP hw hK;obtain⟨xs,hq,hx⟩:=hg;obtain⟨its,rv,p,hz⟩:=I.list hq;obtain⟨f0,f1,f2,f3,f4,f5⟩:=hf it (by simp);have hl:=rv.length;exact wpAny_pyNext_list_end (I.ok.hd hc) st p.isList (by simp;lia) λh' eb=>⟨rfl,I.turned (t':=s.toks) (λb o hb e=>eb b o hb e) f0 f1 f3 f4 f5⟩
 self:=λ_ _ _ _ _ st h=>wpAny_pyIter_listiter st h
def k9{P:Program}{w:World}(a it:Addr):zDz P w K tg (Itt K a) [it] it (λi h=>h.IsTupleIter it a i) where
 mem:=by simp
 obj:=λi h st b hb=>by
  have e:b=it:=by simpa using hb
  subst e;obtain⟨o,e,c,d⟩:=st;exact⟨o,e,λv z=>by rw[d] at z;cases z⟩
 keep:=λi h h' st k=>st.at λo e=>k it (by simp) o e
 item:=by
  intro X hP hw hK hc i Z s σ H E I hf st hg;subst hP hw hK;obtain⟨xs,x,hq,hx⟩:=hg;obtain⟨its,rv,p,hz⟩:=I.tuple hq;obtain⟨u,hu,ru⟩:=rv.get hx;obtain⟨f0,f1,f2,f3,f4,f5⟩:=hf it (by simp);refine wpAny_pyNext_tuple_item st (show s.heap.IsTuple a its.toArray from p) (x:=u) (by simpa using hu) λh' st' sb=>?_;have I1:Inv X Z σ H {s with heap:=h'}:=I.turned (t':=s.toks) (λb o hb e=>(sb.2 b hb).trans e) f0 f1 f3 f4 f5;obtain⟨o,e,c,d⟩:=id st';exact⟨u,rfl,jd (s:={s with heap:=h'}) e c d (by decide) ⟨x,H,I1,ru,⟨rfl,λys hy=>by rw[I.tuple_inj hy hq];exact hx⟩,st',λb hb=>(hf b hb).1⟩⟩
 done:=by
  intro X hP hw hK hc i Z s σ H E I hf st hg;subst hP hw hK;obtain⟨xs,hq,hx⟩:=hg;obtain⟨its,rv,p,hz⟩:=I.tuple hq;obtain⟨f0,f1,f2,f3,f4,f5⟩:=hf it (by simp);have hl:=rv.length;exact wpAny_pyNext_tuple_end (I.ok.hd hc) st (show s.heap.IsTuple a its.toArray from p) (by simp;lia) λh' eb=>⟨rfl,I.turned (t':=s.toks) (λb o hb e=>eb b o hb e) f0 f1 f3 f4 f5⟩
 self:=λ_ _ _ _ _ st h=>wpAny_pyIter_tupleiter st h
def lb{P:Program}{w:World}(it:Addr)(lo:Int)(n:Nat):zDz P w K tg (Itr lo n) [it] it (λi h=>IsRangeIter h it (lo+(i:Nat)*1) ((n:Int)-(i:Nat)) 1) where
 mem:=by simp
 obj:=λi h st b hb=>by
  have e:b=it:=by simpa using hb
  subst e;exact⟨_,st,λv z=>by
   have z':Data.fields _=Data.cell v:=z;cases z'⟩
 keep:=λi h h' st k=>k it (by simp) _ st
 item:=by
  intro X hP hw hK hc i Z s σ H E I hf st hg;subst hP hw hK;obtain⟨f0,f1,f2,f3,f4,f5⟩:=hf it (by simp);have W:=Walks.range (prog:=X.prog) (w:=X.w) (I.ok.hd hc) it lo 1 n;refine W.item i s _ _ hg st λv h' tk hv st' kk=>?_;obtain⟨t,rfl⟩:=hv;have I1:Inv X Z σ H {s with heap:=h',toks:=tk}:=I.turned (λb o hb e=>kk b o (by simpa using hb) e) f0 f1 f3 f4 f5;refine⟨_,rfl,jd (s:={s with heap:=h',toks:=tk}) (n:="range_iterator") st' rfl rfl (by decide) ⟨.int<|lo+i,H,I1,⟨t,?_⟩,⟨rfl,rfl⟩,st',λb hb=>(hf b hb).1⟩⟩;rw[Int.mul_one]
 done:=by
  intro X hP hw hK hc i Z s σ H E I hf st hg;subst hP hw hK;obtain⟨f0,f1,f2,f3,f4,f5⟩:=hf it (by simp);exact wpAny_pyNext_range_end (I.ok.hd hc) st (by have:n<=i:=hg;lia) λh' eb=>⟨rfl,I.turned (t':=s.toks) (λb o hb e=>eb b o hb e) f0 f1 f3 f4 f5⟩
 self:=λ_ _ _ _ _ st h=>wpAny_pyIter_rangeiter st h
section
variable{X:Cx}{tg:Expr}
def pV{σ:St}{R:It->Hp->Prop}{E:Value->Shared->Prop}{lo hi:Int}{t u v:Tok}{tk:Nat}(I:Inv X Z σ H s)(h1:-(2^62)<=lo)(h2:lo<2^62)(h3:-(2^62)<=hi)(h4:hi<2^62)(q:R (Itr lo (hi-lo).toNat) H):wpAny (model X.prog X.w) X.A (pyIter<|.ref s.heap.objs.size) (PIE X Z σ tg R) E {s with heap:=s.heap.push {cls:=.type "range",data:=.fields #[.int lo t,.int hi u,.int 1 v]},toks:=tk}:=by
 refine wpAny_pyIter_range (IsRange.new ..) (small_one h1 h2 h3 h4) ?_;have I1:Inv X Z σ H { s with heap:=s.heap.push { cls:=.type "range",data:=.fields #[.int lo t,.int hi u,.int 1 v] },toks:=tk }:=I.kept λb o e=>xAf _ e;refine⟨(s.heap.push { cls:=.type "range",data:=.fields #[.int lo t,.int hi u,.int 1 v] }).objs.size,[(s.heap.push { cls:=.type "range",data:=.fields #[.int lo t,.int hi u,.int 1 v] }).objs.size],_,_,H,rfl,
  I1.kept (t':=tk) λb o e=>xAf _ e,lb _ lo (hi-lo).toNat,?_,λb hb=>?_,q⟩
 ·have e1:lo+((0:Nat):Int)*1=lo:=by simp
  have e2:(((hi-lo).toNat:Nat):Int)-((0:Nat):Int)=Builtin.Range.rangeSize lo hi 1:=by rw[rangeSize_one];split <;> lia
  show IsRangeIter _ _ (lo+((0:Nat):Int)*1) ((((hi-lo).toNat:Nat):Int)-((0:Nat):Int)) 1;rw[e1,e2];exact xAl _ rfl
 ·have e:b=(s.heap.push {cls:=.type "range",data:=.fields #[.int lo t,.int hi u,.int 1 v]}).objs.size:=by simpa using hb
  subst e;exact I1.fpOk (xAg _)<|I1.hok.fresh<|xAg _
def zFm(ta:TA):TI:=λσ H R=>ta σ H λvs H1=>∃j:Int,vs=[.int j]/\-(2^62)<=j/\j<2^62/\R (Itr 0 j.toNat) H1
theorem om{a:Expr}{ta:TA}{p:Pos}(hg:Gl X "range")(hm:X.mg "range"=none)(ha:PA X [a] ta)(hs:starEach [a] X.env=[(false,eval a X.env)]:=by rfl):PI X tg (.Call (.Name "range" p) [a] [] pos)<|zFm ta:=by
 intro Z s σ H R I h;refine Call_ (fT I hg hm boot_range<|PyProof.Rows.callWith_type1 (thn (ha pos Z s σ H _ I h) λus s1 ⟨vs,H1,I1,r1,q1⟩=>?_) hs rfl);obtain⟨j,e,q1,q2,q⟩:=q1;subst e;cases r1 with
 |cons r rr=>
  cases rr;obtain⟨t,rfl⟩:=r;exact call_range_1 (pV I1 (by lia) (by lia) q1 q2<|by simpa using q)
def zJh(wi:TI)(g:TG)(tb:TS):TS:=λD σ H=>wi σ H λJ H1=>∃W:Nat->Nat->St->Hp->Prop,(∃m,W 0 m σ H1)/\∀i m σ H,W i m σ H ->
 (J.stop i H/\D.nx σ H)\/(J.go i H/\∃N:St->Hp->Prop,(∀σ' H',N σ' H'->∃m',m'<m/\W (i+1) m' σ' H')/\∀x H',J.yld i H x H'->g x σ H' λσ2 H2=>tb {D with nx:=N,ct:=N,bk:=D.nx} σ2 H2)
noncomputable def zCa(fp:List Addr)(h:Heap):List<|Addr×Obj:=fp.filterMap λb=>(h.get? b).map λo=>(b,o)
def fA{b:Addr}{o:Obj}(hb:b∈fp)(e:h.get? b=some o):(b,o)∈zCa fp h:=List.mem_filterMap.mpr ⟨b,hb,by rw[e];rfl⟩
theorem oy{p:Addr×Obj}(hp:p∈zCa fp h):p.1∈fp/\h.get? p.1=some p.2:=by
 obtain⟨b,hb,e⟩:=List.mem_filterMap.mp hp;cases q:h.get? b with
 |none=>rw[q] at e;cases e
 |some o=>
  rw[q] at e;have e':(b,o)=p:=xB3 e;subst e';exact⟨hb,q⟩
def Inv.pinned{σ:St}(I:Inv X Z σ H s)(hf:∀b∈fp,zDc X Z H b)(ho:∀b∈fp,∃o,s.heap.get? b=some o/\∀v,o.data≠.cell v):Inv X (Z++zCa fp s.heap) σ H s:=
 I.pins_of λp hp=>(xAj.mp hp).elim (λz=>I.pin p<|xBt _ z) λz=>by
  obtain⟨hb,e⟩:=oy z;obtain⟨f0,f1,f2,_⟩:=hf p.1 hb;obtain⟨o,e',d⟩:=ho p.1 hb;rw[e] at e';cases e';exact⟨e,f0,f1,f2,d⟩
def Inv.unpinned{pl:List<|Addr×Obj}{σ:St}(I:Inv X (Z++pl) σ H s):Inv X Z σ H s:=I.pins_of λp hp=>I.pin p<|xBt _<|List.mem_append_left _ hp
end
noncomputable abbrev R2:=V->V->Hp->VK->Prop
def OpR(X:Cx)(f:Value->Value->Sem Value)(r:R2):Prop:=
 ∀(Z:List<|Addr×Obj)(s:Shared)(σ:St)(H:Hp)(x y:V)(v u:Value)(Q:VK),Inv X Z σ H s->zAi x v->zAi y u->r x y H Q ->
  wpAny (model X.prog X.w) X.A (f v u) (EP X Z σ Q) X.xe s
def zAl(X:Cx)(f:Value)(r:List V->Hp->VK->Prop):Prop:=
 ∀(Z:List<|Addr×Obj)(s:Shared)(σ:St)(H:Hp)(xs:List V)(us:List Value)(Q:VK),Inv X Z σ H s->zAg xs us->r xs H Q ->
  wpAny (model X.prog X.w) X.A (call f us) (EP X Z σ Q) X.xe s
def zJ5(X:Cx)(r:V->Hp->(Bool->Hp->Prop)->Prop):Prop:=
 ∀(Z:List<|Addr×Obj)(s:Shared)(σ:St)(H:Hp)(x:V)(v:Value)(Q:Bool->Hp->Prop),Inv X Z σ H s->zAi x v->r x H Q ->
  wpAny (model X.prog X.w) X.A (truthy v) (TP X Z σ Q) X.xe s
def tOp(r:R2)(ta tb:TE):TE:=λσ H Q=>ta σ H λx H1=>tb σ H1 λy H2=>r x y H2 Q
def rI(C:Int->Int->Prop)(g:Int->Int->V):R2:=λx y H Q=>∃i j,x=.int i/\y=.int j/\C i j/\Q (g i j) H
def rI0(g:Int->Int->V):R2:=λx y H Q=>∃i j,x=.int i/\y=.int j/\Q (g i j) H
section
variable{X:Cx}{a b c:Expr}{ta tb tc:TE}{pos:Pos}
def zHf(ha:PE X a ta)(hb:PE X b tb){σ:St}{R:V->V->Hp->Prop}(I:Inv X Z σ H s)(h:ta σ H λx H1=>tb σ H1 λy H2=>R x y H2){f:Value->Value->Sem Value}(hf:∀v u s2 x y H2,Inv X Z σ H2 s2->zAi x v->zAi y u->R x y H2->wpAny (model X.prog X.w) X.A (f v u) Q X.xe s2) :
  wpAny (model X.prog X.w) X.A (eval a X.env) (λv s₁=>wpAny (model X.prog X.w) X.A (eval b X.env) (λu s₂=>wpAny (model X.prog X.w) X.A (f v u) Q X.xe s₂) X.xe s₁) X.xe s:=by
 refine thn (ha Z s σ H _ I h) λv s1 zz=>?_;obtain⟨x,H1,I1,r1,q1⟩:=zz;refine thn (hb Z s1 σ H1 _ I1 q1) λu s2 zz=>?_;obtain⟨y,H2,I2,r2,q2⟩:=zz;exact hf v u s2 x y H2 I2 r1 r2 q2
def zr{op:Operator}{r:R2}(ho:OpR X (binaryOp op) r)(ha:PE X a ta)(hb:PE X b tb):PE X (.BinOp a op b pos)<|tOp r ta tb:=by
 intro Z s σ H Q I h;exact wpAny_BinOp (zHf ha hb I h λv u s2 x y H2 I2 rx ry q=>ho Z s2 σ H2 x y v u Q I2 rx ry q)
def opI{f:Value->Value->Sem Value}{C:Int->Int->Prop}(rule:∀(i j:Int)(t u:Tok)(s:Shared)(Q:Value->Shared->Prop)(E:Value->Shared->Prop),C i j->Q (.int (g i j) s.toks) {s with toks:=s.toks+1}->wpAny (model X.prog X.w) X.A (f (.int i t)<|.int j u) Q E s) :
  OpR X f (rI C λi j=>.int<|g i j):=by
 intro Z s σ H x y v u Q I rx ry h;obtain⟨i,j,rfl,rfl,hc,q⟩:=h;obtain⟨t,rfl⟩:=rx;obtain⟨t',rfl⟩:=ry;exact rule i j t t' s _ _ hc ⟨.int<|g i j,H,I.tok _,⟨_,rfl⟩,q⟩
def zIb{f:Value->Value->Sem Value}(rule:∀(i j:Int)(t u:Tok)(s:Shared)(Q:Value->Shared->Prop)(E:Value->Shared->Prop),Q (.int (g i j) s.toks) {s with toks:=s.toks+1}->wpAny (model X.prog X.w) X.A (f (.int i t)<|.int j u) Q E s) :
  OpR X f (rI0 λi j=>.int<|g i j):=by
 intro Z s σ H x y v u Q I rx ry h;obtain⟨i,j,rfl,rfl,q⟩:=h;obtain⟨t,rfl⟩:=rx;obtain⟨t',rfl⟩:=ry;exact rule i j t t' s _ _ ⟨.int<|g i j,H,I.tok _,⟨_,rfl⟩,q⟩
def zF5{f:Value->Value->Sem Value}{g:Int->Int->Bool}(rule:∀(i j:Int)(t u:Tok)(s:Shared)(Q:Value->Shared->Prop)(E:Value->Shared->Prop),Q (.bool<|g i j) s->wpAny (model X.prog X.w) X.A (f (.int i t)<|.int j u) Q E s) :
  OpR X f (rI0 λi j=>.bl<|g i j):=by
 intro Z s σ H x y v u Q I rx ry h;obtain⟨i,j,rfl,rfl,q⟩:=h;obtain⟨t,rfl⟩:=rx;obtain⟨t',rfl⟩:=ry;exact rule i j t t' s _ _ ⟨.bl<|g i j,H,I,rfl,q⟩
def zI5(i j:Int):Prop:=0<=j/\j<=1000000/\i.natAbs<2^64
def xB:OpR X (binaryOp .Add)<|rI0 λi j=>.int<|i+j:=zIb λ_ _ _ _ _ _ _ q=>add_int q
def xr:OpR X (binaryOp .Sub)<|rI0 λi j=>.int<|i-j:=zIb λ_ _ _ _ _ _ _ q=>sub_int q
def xw:OpR X (binaryOp .Mod)<|rI (λ_ j=>0<j) λi j=>.int<|i%j:=opI λi j _ _ _ _ _ hc q=>by
 have h1:(0:Int)<j:=hc;exact mod_int' (by lia) (by rw[Int.fmod_eq_emod_of_nonneg i<|by lia];exact q)
def xu:OpR X (binaryOp .Pow)<|rI zI5 λi j=>.int<|i^j.toNat:=opI λ_ _ _ _ _ _ _ hc q=>pow_int_small hc.1 hc.2.1 hc.2.2 q
end
noncomputable def scal:V->V->Bool
 |.non,.non=>true|.non,.int _=>true|.int _,.non=>true|.non,.bl _=>true|.bl _,.non=>true|.non,.str _=>true|.str _,.non=>true
 |.int _,.int _=>true|.bl _,.bl _=>true|.str _,.str _=>true|.byt _,.byt _=>true
 |.int _,.str _=>true|.str _,.int _=>true|.bl _,.str _=>true|.str _,.bl _=>true
 |_,_=>false
def rEq:R2:=λx y H Q=>scal x y=true/\Q (.bl<|decide<|x=y) H
def rNe:R2:=λx y H Q=>scal x y=true/\Q (.bl (!decide (x=y))) H
def nB{i j:Int}:decide (V.int i=V.int j)=(i==j):=by
 rw[Bool.eq_iff_iff];simp
def si{i j:Bool}:decide (V.bl i=V.bl j)=(i==j):=by
 rw[Bool.eq_iff_iff];simp
def nA{i j:Str}:decide (V.str i=V.str j)=(i==j):=by
 rw[Bool.eq_iff_iff];simp
def nC{i j:Array UInt8}:decide (V.byt i=V.byt j)=(i.toList==j.toList):=by
 rw[Bool.eq_iff_iff];cases i;cases j;simp
section
variable{X:Cx}{a b c:Expr}{ta tb tc:TE}{pos:Pos}
def dt{σ:St}{Q:VK}{k k':Bool}(I:Inv X Z σ H s)(q:Q (.bl k) H)(e:k=k'):EP X Z σ Q (.bool k') s:=by
 subst e;exact⟨.bl k,H,I,rfl,q⟩
theorem zR:OpR X (compareOp .Eq) rEq:=by
 intro Z s σ H x y v u Q I rx ry h;obtain⟨hs,q⟩:=h;cases x with
 |non=>
  cases rx;cases y with
  |non=>cases ry;exact PySem.EqNone.eq_none_none (dt I q<|by simp)
  |bl j=>cases ry;exact PySem.EqNone.eq_none_bool (dt I q<|by simp)
  |int j=>obtain⟨t',rfl⟩:=ry;exact PySem.EqNone.eq_none_int (dt I q<|by simp)
  |str j=>obtain⟨t',rfl⟩:=ry;exact PySem.EqNone.eq_none_str (dt I q<|by simp)
  |_=>exact absurd (show false=true from hs) xAy
 |bl i=>
  cases rx;cases y with
  |non=>cases ry;exact PySem.EqNone.eq_bool_none (dt I q<|by simp)
  |bl j=>cases ry;exact eq_bool<|dt I q si
  |str j=>obtain⟨t',rfl⟩:=ry;exact PySem.EqMixed.eq_bool_str (dt I q<|by simp)
  |_=>exact absurd (show false=true from hs) xAy
 |int i=>
  obtain⟨t,rfl⟩:=rx;cases y with
  |non=>cases ry;exact PySem.EqNone.eq_int_none (dt I q<|by simp)
  |int j=>obtain⟨t',rfl⟩:=ry;exact eq_int<|dt I q nB
  |str j=>obtain⟨t',rfl⟩:=ry;exact PySem.EqMixed.eq_int_str (dt I q<|by simp)
  |_=>exact absurd (show false=true from hs) xAy
 |str i=>
  obtain⟨t,rfl⟩:=rx;cases y with
  |non=>cases ry;exact PySem.EqNone.eq_str_none (dt I q<|by simp)
  |bl j=>cases ry;exact PySem.EqMixed.eq_str_bool (dt I q<|by simp)
  |int j=>obtain⟨t',rfl⟩:=ry;exact PySem.EqMixed.eq_str_int (dt I q<|by simp)
  |str j=>obtain⟨t',rfl⟩:=ry;exact eq_str<|dt I q nA
  |_=>exact absurd (show false=true from hs) xAy
 |byt i=>
  obtain⟨t,rfl⟩:=rx;cases y with
  |byt j=>obtain⟨t',rfl⟩:=ry;exact W.eq_bytes<|dt I q nC
  |_=>exact absurd (show false=true from hs) xAy
 |_=>cases y <;> exact absurd (show false=true from hs) xAy
theorem zQ:OpR X (compareOp .NotEq) rNe:=by
 intro Z s σ H x y v u Q I rx ry h;obtain⟨hs,q⟩:=h;cases x with
 |non=>
  cases rx;cases y with
  |non=>cases ry;exact PySem.EqNone.ne_none_none (dt I q<|by simp)
  |bl j=>cases ry;exact PySem.EqNone.ne_none_bool (dt I q<|by simp)
  |int j=>obtain⟨t',rfl⟩:=ry;exact PySem.EqNone.ne_none_int (dt I q<|by simp)
  |str j=>obtain⟨t',rfl⟩:=ry;exact PySem.EqNone.ne_none_str (dt I q<|by simp)
  |_=>exact absurd (show false=true from hs) xAy
 |bl i=>
  cases rx;cases y with
  |non=>cases ry;exact PySem.EqNone.ne_bool_none (dt I q<|by simp)
  |bl j=>cases ry;exact ne_bool<|dt I q<|congrArg not si
  |str j=>obtain⟨t',rfl⟩:=ry;exact PySem.EqMixed.ne_bool_str (dt I q<|by simp)
  |_=>exact absurd (show false=true from hs) xAy
 |int i=>
  obtain⟨t,rfl⟩:=rx;cases y with
  |non=>cases ry;exact PySem.EqNone.ne_int_none (dt I q<|by simp)
  |int j=>obtain⟨t',rfl⟩:=ry;exact ne_int<|dt I q<|congrArg not nB
  |str j=>obtain⟨t',rfl⟩:=ry;exact PySem.EqMixed.ne_int_str (dt I q<|by simp)
  |_=>exact absurd (show false=true from hs) xAy
 |str i=>
  obtain⟨t,rfl⟩:=rx;cases y with
  |non=>cases ry;exact PySem.EqNone.ne_str_none (dt I q<|by simp)
  |bl j=>cases ry;exact PySem.EqMixed.ne_str_bool (dt I q<|by simp)
  |int j=>obtain⟨t',rfl⟩:=ry;exact PySem.EqMixed.ne_str_int (dt I q<|by simp)
  |str j=>obtain⟨t',rfl⟩:=ry;exact ne_str<|dt I q<|congrArg not nA
  |_=>exact absurd (show false=true from hs) xAy
 |byt i=>
  obtain⟨t,rfl⟩:=rx;cases y with
  |byt j=>obtain⟨t',rfl⟩:=ry;exact W.ne_bytes<|dt I q<|congrArg not nC
  |_=>exact absurd (show false=true from hs) xAy
 |_=>cases y <;> exact absurd (show false=true from hs) xAy
def vM:OpR X (compareOp .Lt)<|rI0 λi j=>.bl<|decide<|i<j:=zF5 λ_ _ _ _ _ _ _ q=>lt_int q
def vN:OpR X (compareOp .LtE)<|rI0 λi j=>.bl<|decide<|i<=j:=zF5 λ_ _ _ _ _ _ _ q=>le_int q
def vO:OpR X (compareOp .Gt)<|rI0 λi j=>.bl<|decide<|j<i:=zF5 λ_ _ _ _ _ _ _ q=>gt_int q
def vP:OpR X (compareOp .GtE)<|rI0 λi j=>.bl<|decide<|j<=i:=zF5 λ_ _ _ _ _ _ _ q=>ge_int q
def ow:OpR X (compareOp .In) λx y H Q=>∃i j,x=.str i/\y=.str j/\Q (.bl (!(Builtin.Str.occurrences j i 0 j.length 1).isEmpty)) H:=by
 intro Z s σ H x y v u Q I rx ry h;obtain⟨i,j,rfl,rfl,q⟩:=h;obtain⟨t,rfl⟩:=rx;obtain⟨t',rfl⟩:=ry;exact in_str<|dt I q rfl
def xy:OpR X (compareOp .Is) λx y H Q=>y=.non/\Q (.bl<|decide<|x=.non) H:=by
 intro Z s σ H x y v u Q I rx ry h;obtain⟨rfl,q⟩:=h;cases ry;refine is_none_gen<|dt I q ?_;cases x <;> first
  |(cases rx;rfl)
  |(obtain⟨t,rfl⟩:=rx;rfl)
def ul:OpR X (compareOp .IsNot) λx y H Q=>y=.non/\Q (.bl (!decide (x=.non))) H:=by
 intro Z s σ H x y v u Q I rx ry h;obtain⟨rfl,q⟩:=h;cases ry;refine isnot_none_gen<|dt I q ?_;cases x <;> first
  |(cases rx;rfl)
  |(obtain⟨t,rfl⟩:=rx;rfl)
def jA:OpR X (compareOp .NotIn) λx y H Q=>∃i j,x=.str i/\y=.str j/\Q (.bl (!(!(Builtin.Str.occurrences j i 0 j.length 1).isEmpty))) H:=by
 intro Z s σ H x y v u Q I rx ry h;obtain⟨i,j,rfl,rfl,q⟩:=h;obtain⟨t,rfl⟩:=rx;obtain⟨t',rfl⟩:=ry;exact notIn_str<|dt I q rfl
def mH{r:R2}(ho:OpR X (compareOp op) r)(ha:PE X a ta)(hb:PE X b tb)(hm:behindInMarks op b=false):PE X (.Compare a [op] [b] pos)<|tOp r ta tb:=by
 intro Z s σ H Q I h;exact wpAny_Compare1 (zHf ha hb I h λv u s2 x y H2 I2 rx ry q=>ho Z s2 σ H2 x y v u Q I2 rx ry q) hm
def zEs(t:TE):TT:=λσ H Q=>t σ H λx H'=>∃k,x=.bl k/\Q k H'
def mq{r:R2}(ho:OpR X (compareOp op) r)(ha:PE X a ta)(hb:PE X b tb)(hm:behindInMarks op b=false):PT X (.Compare a [op] [b] pos)<|zEs<|tOp r ta tb:=by
 intro Z s σ H Q I h;refine wpAny_isTrue_Compare1 (thn (ha Z s σ H _ I h) λv s1 ⟨x,H1,I1,r1,q1⟩=>thn (hb Z s1 σ H1 _ I1 q1) λu s2 ⟨y,H2,I2,r2,q2⟩ =>
  thn (ho Z s2 σ H2 x y v u _ I2 r1 r2 q2) λc s3 ⟨z,H3,I3,r3,k,e,q3⟩=>?_) hm
 subst e;cases r3;exact wpAny_truthy_bool ⟨H3,I3,q3⟩
def zC1(r r':R2)(ta tb tc:TE):TE:=λσ H Q=>ta σ H λx H1=>tb σ H1 λy H2=>r x y H2 λz H3=>∃k,z=.bl k /\
 (if k=true then tc σ H3 λw' H4=>r' y w' H4 Q else Q (.bl false) H3)
theorem qA{r:R2}(ho:OpR X (compareOp op) r)(ho':OpR X (compareOp op') r')(ha:PE X a ta)(hb:PE X b tb)(hc:PE X c tc)(hm:lastMarks [op,op'] [b,c]=false:=by with_unfolding_all rfl):PE X (.Compare a [op,op'] [b,c] pos)<|zC1 r r' ta tb tc:=by
 intro Z s σ H Q I h;refine Compare_chain (thn (ha Z s σ H _ I h) λv s1 ⟨x,H1,I1,r1,q1⟩=>chain_link (thn (hb Z s1 σ H1 _ I1 q1) λu s2 ⟨y,H2,I2,r2,q2⟩ =>
  thn (ho Z s2 σ H2 x y v u _ I2 r1 r2 q2) λd s3 ⟨z,H3,I3,r3,k,e,q3⟩=>?_)) hm
 subst e;cases r3;refine wpAny_truthy_bool ?_;cases k with
 |false=>exact ite_ff ⟨.bl false,H3,I3,rfl,q3⟩
 |true=>exact ite_tt (chain_last<|thn (hc Z s3 σ H3 _ I3 q3) λw' s4 ⟨z',H4,I4,r4,q4⟩=>ho' Z s4 σ H4 y z' u w' Q I4 r2 r4 q4)
theorem pZ{r:R2}(ho:OpR X (compareOp op) r)(ho':OpR X (compareOp op') r')(ha:PE X a ta)(hb:PE X b tb)(hc:PE X c tc)(hm:lastMarks [op,op'] [b,c]=false:=by with_unfolding_all rfl):PT X (.Compare a [op,op'] [b,c] pos)<|zEs<|zC1 r r' ta tb tc:=by
 intro Z s σ H Q I h;refine isTrue_chain (thn (ha Z s σ H _ I h) λv s1 ⟨x,H1,I1,r1,q1⟩=>test_link (thn (hb Z s1 σ H1 _ I1 q1) λu s2 ⟨y,H2,I2,r2,q2⟩ =>
  thn (ho Z s2 σ H2 x y v u _ I2 r1 r2 q2) λd s3 ⟨z,H3,I3,r3,k,e,q3⟩=>?_)) hm
 subst e;cases r3;refine wpAny_truthy_bool ?_;cases k with
 |false=>
  obtain⟨k',e',q'⟩:=q3;cases e';exact ite_ff ⟨H3,I3,q'⟩
 |true=>
  refine ite_tt (test_last<|thn (hc Z s3 σ H3 _ I3 q3) λw' s4 ⟨z',H4,I4,r4,q4⟩=>thn (ho' Z s4 σ H4 y z' u w' _ I4 r2 r4 q4) λd' s5 zz=>?_);obtain⟨z2,H5,I5,r5,k2,e2,q5⟩:=zz;subst e2;cases r5;exact wpAny_truthy_bool ⟨H5,I5,q5⟩
def zHi(K:xFr)(x:V)(H:Hp)(k:Bool):Prop:=
 match x with
 |.non=>k=false
 |.bl b=>k=b
 |.int i=>k=(i != 0)
 |.str y=>y.length<=sizeLine/\k=((y.length:Int) != 0)
 |.byt y=>y.size<=sizeLine/\k=((y.size:Int) != 0)
 |.ref p=>(∃xs,SqL K H p xs/\k=!xs.isEmpty)\/(∃xs,SqT K H p xs/\k=!xs.isEmpty)\/∃kvs,H p=some (.dK kvs)/\k=!kvs.isEmpty
 |_=>False
def lJ{κ:Type}{kvs:List<|κ×V}{vs:List<|κ×Value}(r:KV kvs vs):(!vs.isEmpty)=!kvs.isEmpty:=by
 cases r <;> rfl
def iw{xs:List V}{its:List Value}(r:zAg xs its):(!its.toArray.isEmpty)=!xs.isEmpty:=by
 cases r <;> simp
def zBp:(sizeLine:Nat)<2^63:=by rw[sizeLine_eq];decide
theorem wl:zJ5 X λx H Q=>∃k,zHi X.K x H k/\Q k H:=by
 intro Z s σ H x v Q I rx h;obtain⟨k,e,q⟩:=h;have hl:=zBp;have hs:sizeLine=16777216:=sizeLine_eq;cases x with
 |non=>
  cases rx;have e':k=false:=e;subst e';exact truthy_none ⟨H,I,q⟩
 |bl b=>
  cases rx;have e':k=b:=e;subst e';exact wpAny_truthy_bool ⟨H,I,q⟩
 |int i=>
  obtain⟨t,rfl⟩:=rx;have e':k=(i != 0):=e;subst e';exact PySem.P.truthy_int ⟨H,I,q⟩
 |str y=>
  obtain⟨t,rfl⟩:=rx;obtain⟨hy,e'⟩:y.length<=sizeLine/\k=((y.length:Int) != 0):=e;subst e';exact PySem.P.truthy_str (by lia) ⟨H,I.tok _,q⟩
 |byt y=>
  obtain⟨t,rfl⟩:=rx;obtain⟨hy,e'⟩:y.size<=sizeLine/\k=((y.size:Int) != 0):=e;subst e';exact W.truthy_bytes (by lia) ⟨H,I.tok _,q⟩
 |ref p=>
  cases rx;have e':(∃xs,SqL X.K H p xs/\k=!xs.isEmpty)\/(∃xs,SqT X.K H p xs/\k=!xs.isEmpty)\/∃kvs,H p=some (.dK kvs)/\k=!kvs.isEmpty:=e;rcases e' with ⟨xs,hx,e'⟩|⟨xs,hx,e'⟩|⟨kvs,hx,e'⟩
  ·subst e';obtain⟨its,r,pl,hz⟩:=I.list hx;have hlen:=r.length;exact wpAny_truthy_list pl.isList (by simp only[xAp];lia) ⟨H,I.tok _,by rw[iw r];exact q⟩
  ·subst e';obtain⟨its,r,pl,hz⟩:=I.tuple hx;have hlen:=r.length;exact truthy_tuple pl (by simp only[xAp];lia) ⟨H,I.tok _,by rw[iw r];exact q⟩
  ·subst e';obtain⟨hz,hS,vs,r,m⟩:kvs.length<=sizeLine/\(p==sysModules)=false/\∃vs,KV kvs vs/\s.heap.DictOf (zAk X.prog X.w) p vs:=I.hok p _ hx;have hlen:kvs.length=vs.length:=Paired.length r;exact wpAny_truthy_dict hS m (by lia) ⟨H,I.tok _,by rw[lJ r];exact q⟩
 |_=>exact(show False from e).elim
def pY(ha:PE X a ta)(he:∀whole,isTrue a X.env whole=(do let v <- whole;standAt a.pos;holding [v] (truthy v))) :
  PT X a (λσ H Q=>ta σ H λx H'=>∃k,zHi X.K x H' k/\Q k H'):=by
 intro Z s σ H Q I h;exact isTrue_plain (thn (ha Z s σ H _ I h) λv s1 ⟨x,H1,I1,r1,q1⟩=>wl Z s1 σ H1 x v Q I1 r1 q1) (he _)
theorem zBm{x:V}(r:zAg [x] us):∃u,us=[u]/\zAi x u:=by
 cases r with
 |cons r1 r2=>cases r2;exact⟨_,rfl,r1⟩
theorem zDf{x:V}(r:zAg [x,y] us):∃u w',us=[u,w']/\zAi x u/\zAi y w':=by
 cases r with
 |cons r1 r2=>
  cases r2 with
  |cons r3 r4=>cases r4;exact⟨_,_,rfl,r1,r3⟩
def sH:zAl X (.builtin "abs") λxs H Q=>∃i,xs=[.int i]/\Q (.int<|if i<0 then -i else i) H:=by
 intro Z s σ H xs us Q I r h;obtain⟨i,rfl,q⟩:=h;obtain⟨u,rfl,t,rfl⟩:=zBm r;exact call_abs_int λu tk=>⟨.int<|if i<0 then -i else i,H,I.tok _,⟨_,rfl⟩,q⟩
def oX(hc:X.calm=true):zAl X (.builtin "max") λxs H Q=>∃i j,xs=[.int i,.int j]/\Q (.int<|if j>i then j else i) H:=by
 intro Z s σ H xs us Q I r h;obtain⟨i,j,rfl,q⟩:=h;obtain⟨u,w',rfl,⟨t,rfl⟩,⟨t',rfl⟩⟩:=zDf r;refine max_two_ints (I.ok.hd hc) λh' tk k=>⟨_,H,I.kept k,?_,q⟩
 by_cases hj:j>i
 ·rw[xCg hj,xCg hj];exact⟨_,rfl⟩
 ·rw[xCf hj,xCf hj];exact⟨_,rfl⟩
def oW(hc:X.calm=true):zAl X (.builtin "min") λxs H Q=>∃i j,xs=[.int i,.int j]/\Q (.int<|if j<i then j else i) H:=by
 intro Z s σ H xs us Q I r h;obtain⟨i,j,rfl,q⟩:=h;obtain⟨u,w',rfl,⟨t,rfl⟩,⟨t',rfl⟩⟩:=zDf r;refine min_two_ints (I.ok.hd hc) λh' tk k=>⟨_,H,I.kept k,?_,q⟩
 by_cases hj:j<i
 ·rw[xCg hj,xCg hj];exact⟨_,rfl⟩
 ·rw[xCf hj,xCf hj];exact⟨_,rfl⟩
def o7:zAl X (.type "int") λxs H Q=>(∃i,xs=[.int i]/\Q (.int i) H)\/∃k,xs=[.bl k]/\Q (.int<|if k then 1 else 0) H:=by
 intro Z s σ H xs us Q I r h;rcases h with ⟨i,rfl,q⟩|⟨k,rfl,q⟩
 ·obtain⟨u,rfl,t,rfl⟩:=zBm r;exact call_int_int ⟨.int i,H,I,⟨_,rfl⟩,q⟩
 ·obtain⟨u,rfl,r1⟩:=zBm r;cases r1;exact call_int_bool ⟨.int<|if k then 1 else 0,H,I.tok _,⟨_,rfl⟩,q⟩
def zI1(K:xFr)(x:V)(H:Hp)(n:Nat):Prop:=
 match x with
 |.str y=>y.length<=sizeLine/\n=y.length
 |.byt y=>y.size<=sizeLine/\n=y.size
 |.ref p=>(∃xs,SqL K H p xs/\n=xs.length)\/∃xs,SqT K H p xs/\n=xs.length
 |_=>False
theorem sG:zAl X (.builtin "len") λxs H Q=>∃x n,xs=[x]/\zI1 X.K x H n/\Q (.int n) H:=by
 intro Z s σ H xs us Q I r h;obtain⟨x,n,rfl,e,q⟩:=h;obtain⟨u,rfl,rx⟩:=zBm r;have hl:=zBp;have hs:sizeLine=16777216:=sizeLine_eq;cases x with
 |str y=>
  obtain⟨t,rfl⟩:=rx;obtain⟨hy,e'⟩:y.length<=sizeLine/\n=y.length:=e;subst e';exact len_str (by lia) ⟨.int _,H,I.tok _,⟨_,rfl⟩,q⟩
 |byt y=>
  obtain⟨t,rfl⟩:=rx;obtain⟨hy,e'⟩:y.size<=sizeLine/\n=y.size:=e;subst e';exact W.len_bytes (by lia) ⟨.int _,H,I.tok _,⟨_,rfl⟩,q⟩
 |ref p=>
  cases rx;have e':(∃xs,SqL X.K H p xs/\n=xs.length)\/∃xs,SqT X.K H p xs/\n=xs.length:=e;rcases e' with ⟨xs,hx,e'⟩|⟨xs,hx,e'⟩
  ·subst e';obtain⟨its,r',pl,hz⟩:=I.list hx;have hlen:=r'.length;exact Calls.call_len_list pl.isList (by simp only[xAp];lia) ⟨.int xs.length,H,I.tok _,⟨_,by simp only[xAp];rw[hlen]⟩,q⟩
  ·subst e';obtain⟨its,r',pl,hz⟩:=I.tuple hx;have hlen:=r'.length;exact len_tuple pl (by simp only[xAp];lia) ⟨.int xs.length,H,I.tok _,⟨_,by simp only[xAp];rw[hlen]⟩,q⟩
 |_=>exact(show False from e).elim
end
structure zEb(h:Heap)(x dx C:Addr)(mA:Str->Option Value):Prop where
 obj:h.get? x=some (W.instObj C dx)
 ns:h.Ns1 dx mA
 ne:dx≠x
def i6{mA:Str->Option Value}(n:h.Ns1 dx mA):∃od,h.get? dx=some od/\∀name,W.lookIn name od=some (mA name):=by
 obtain⟨o,es,ep,ho,hd,hk,_,hm⟩:=n;refine⟨o,ho,λname=>?_⟩;have e:=hm name;unfold nsFind findBy at e;rw[<- Array.find?_toList] at e;unfold W.lookIn;rw[hd];dsimp only;split
 ·rename_i y q
  rw[q] at e;exact congrArg some e
 ·rename_i q
  rw[q] at e;have a:es.toList.any (·.refKey)=false:=by
   rw[List.any_eq_false];intro y hy;obtain⟨z,t,hkey⟩:=hk y<|Array.mem_toList_iff.mp hy;simp[DictEntry.refKey,hkey]
  have a':¬ es.toList.any (·.refKey)=true:=by rw[a];exact xAy
  rw[xCf a'];exact congrArg some e
def zEb.look{x:Addr}{mA:Str->Option Value}(I:zEb h x dx C mA):∃od,PySem.W.InstAt h x (W.instObj C dx) C (some od)/\∀name,W.lookIn name od=some (mA name):=
 let ⟨od,ho,hl⟩:=i6 I.ns
 ⟨od,⟨I.obj,rfl,rfl,ho⟩,hl⟩
section
variable{prog:Program}{w:World}{A:Around}{E:Value->Shared->Prop}{s:Shared}{K:xFr}{x dx C f:Addr}{mA:Str->Option Value}{name:Str}{v:Value}
def uO{expr:Bool}(X:K.In s.heap)(I:zEb s.heap x dx C mA)(hg:W.plainGet K C name=true)(hh:W.hasDictIn K C=true)(ha:W.findIn K (.ref C) name=some none)(hv:mA name=some v)(hv':W.handedIn v=true)(h:Q v {s with toks:=s.toks+1}) :
  wpAny (model prog w) A (getAttr (.ref x) name expr) Q E s:=by
 obtain⟨od,J,hl⟩:=I.look;exact W.get_value X J (W.plainGet_of hg).1 (W.findObj_own hh ha rfl<|by rw[hl,hv]) hv' h
def rq{Q:Value×List Value->Shared->Prop}(X:K.In s.heap)(I:zEb s.heap x dx C mA)(hg:W.plainGet K C name=true)(hf:W.findIn K (.ref C) name=some (some<|.ref f))(ht:W.isFn K (.ref f)=true)(hv:mA name=none)(h:Q (.ref f,[.ref x]) s) :
  wpAny (model prog w) A (getMethod (.ref x) name pl) Q E s:=by
 obtain⟨od,J,hl⟩:=I.look;exact W.method_fn X J (W.plainGet_of hg).1 (W.plainGet_of hg).2 hf (beq_iff_eq.mp ht) (by show(W.lookIn name od).map (·.isSome)=some false;rw[hl,hv];rfl) h
def tw{ns:List Str}{Q:Unit->Shared->Prop}(X:K.In s.heap)(I:zEb s.heap x dx C mA)(hs:W.findIn K (.ref C) "__setattr__"=some (some<|.builtin "object.__setattr__"))(hp:W.plainOver K C=true)(ht:W.takerIn K C name=some none)(hh:W.hasDictIn K C=true)(hw:PySem.Within mA ns)(hsz:ns.length<=sizeLine)(h:∀h',zEb h' x dx C (λy=>if y=name then some v else mA y)->Heap.SameBut dx s.heap h'->Q () {s with heap:=h',toks:=s.toks+2}) :
  wpAny (model prog w) A (setAttr (.ref x) name v) Q E s:=by
 obtain⟨od,J,hl⟩:=I.look;refine W.set_plain X J hs (W.osa_open (s:={s with toks:=s.toks+1}) (r:=none) X J hp ht λb=>?_);obtain⟨cd,hc,hd'⟩:=W.any_some hh;have hx:s.heap.get? x=some ⟨.ref C,some dx,.plain,#[]⟩:=I.obj;refine xAd<|xAe<|xAd<|xAd<|wpAny_loadPart hx<|xAd<|PySem.W.Looks.here (s:={s with toks:=s.toks+1}) (W.looks_clsIn X hc) ?_;rw[hd'];refine xAe (a:=some dx)<|xAd<|xAe<|xAd ?_;refine wpAny_nsSet1 (s:={s with toks:=s.toks+1}) I.ns λh' hn2 hs2=>?_;obtain⟨oD,esD,epD,hoD,hdD,hcD⟩:=hn2.count<|PySem.Within.cons name v hw;refine xAd<|wpAny_lookBehind hoD (by rw[hdD];exact pastItsLine_dict (xCk hcD<|by rw[xAo];lia)) ?_;exact xAe<|h _ ⟨(hs2.2 _<|Ne.symm I.ne).trans I.obj,hn2,I.ne⟩ hs2
def qS{R:Result->Shared->Prop}{vs:List Value}(X:K.In s.heap)(hm:W.makesIn K C=true)(hi:W.findIn K (.ref C) "__init__"=some (some<|.ref f))(hf:W.typeIn K (.ref f)=some (.type "function"))(h:codeAny (model prog w) (A.under<|.builtin "type.__call__" ⟨.ref C::vs,kw⟩) (.call (.ref f) ⟨.ref (s.heap.objs.size+1)::vs,kw⟩) (PySem.W.InitBack (s.heap.objs.size+1) R)
   {s with heap:=(s.heap.push W.emptyDict).push<|W.instObj C s.heap.objs.size}) :
  codeAny (model prog w) A (.call (.ref C) ⟨vs,kw⟩) R s:=by
 obtain⟨hh,g,d,t,os⟩:=s;exact W.make_core (W.makes_of X hm) (W.looks_findIn X hi) (λself=>W.bind_fn X self hf) (.inl rfl) h
end
noncomputable def putF(f:Str)(v:V):List (Str×V)->List (Str×V)
 |[]=>[(f,v)]
 |(g,x)::r=>if g=f then(g,v)::r else(g,x)::putF f v r
theorem gE(f g:Str)(v:V):∀fs:List<|Str×V,(putF f v fs).lookup g=if g=f then some v else fs.lookup g
 |[]=>by
  show List.lookup g [(f,v)]=_;by_cases h:g=f
  ·have hb:(g==f)=true:=beq_iff_eq.mpr h;simp only[List.lookup,hb,xCg h]
  ·have hb:(g==f)=false:=beq_eq_false_iff_ne.mpr h;simp only[List.lookup,hb,xCf h]
 |(k,x)::r=>by
  have ih:=gE f g v r;rw[show putF f v ((k,x)::r)=(if k=f then(k,v)::r else(k,x)::putF f v r) from rfl];by_cases hk:k=f
  ·rw[xCg hk];by_cases h:g=k
   ·have hb:(g==k)=true:=beq_iff_eq.mpr h;simp only[List.lookup,hb,xCg<|h.trans hk]
   ·have hb:(g==k)=false:=beq_eq_false_iff_ne.mpr h;simp only[List.lookup,hb,xCf λe:g=f=>h<|e.trans hk.symm]
  ·rw[xCf hk];by_cases h:g=k
   ·have hb:(g==k)=true:=beq_iff_eq.mpr h;simp only[List.lookup,hb,xCf λe:g=f=>hk<|h.symm.trans e]
   ·have hb:(g==k)=false:=beq_eq_false_iff_ne.mpr h;simp only[List.lookup,hb];exact ih
theorem gq(f:Str)(v:V):∀fs:List<|Str×V,f∈(putF f v fs).map (·.1)/\∀g,g∈fs.map (·.1)->g∈(putF f v fs).map (·.1)
 |[]=>⟨by simp[putF],λg h=>by simp at h⟩
 |(k,x)::r=>by
  obtain⟨i1,i2⟩:=gq f v r;rw[show putF f v ((k,x)::r)=(if k=f then(k,v)::r else(k,x)::putF f v r) from rfl];by_cases hk:k=f
  ·rw[xCg hk];subst hk;exact⟨by simp,λg h=>by simpa using h⟩
  ·rw[xCf hk];refine⟨?_,λg h=>?_⟩
   ·rw[xBs];exact xAs _ i1
   ·rw[xBs] at h⊢;rcases xAv.mp h with e|e
    ·exact xAv.mpr<|.inl e
    ·exact xAs _<|i2 g e
theorem gF(f:Str)(v:V):∀fs:List<|Str×V,(putF f v fs).length<=fs.length+1
 |[]=>by simp[putF]
 |(k,x)::r=>by
  have ih:=gF f v r;rw[show putF f v ((k,x)::r)=(if k=f then(k,v)::r else(k,x)::putF f v r) from rfl];by_cases hk:k=f
  ·rw[xCg hk,xAo,xAo];lia
  ·rw[xCf hk,xAo,xAo];lia
theorem zCb.some_of{v:V}{o:Option Value}(r:zCb (some v) o):∃u,o=some u/\zAi v u:=by
 cases o with
 |none=>exact(show False from r).elim
 |some u=>exact⟨u,rfl,r⟩
theorem zCb.none_of{o:Option Value}(r:zCb none o):o=none:=by
 cases o with
 |none=>rfl
 |some u=>exact(show False from r).elim
theorem jc{v:V}{u:Value}(r:zAi v u):W.handedIn u=true:=by
 cases v with
 |non=>cases (show u=Value.none from r);rfl
 |bl b=>cases (show u=Value.bool b from r);rfl
 |int i=>obtain⟨t,e⟩:=(show ∃t,u=Value.int i t from r);cases e;rfl
 |str x=>obtain⟨t,e⟩:=(show ∃t,u=Value.str x t from r);cases e;rfl
 |byt b=>obtain⟨t,e⟩:=(show ∃t,u=Value.bytes b t from r);cases e;rfl
 |flt b=>obtain⟨t,e⟩:=(show ∃t,u=Value.float b t from r);cases e;rfl
 |ref a=>cases (show u=Value.ref a from r);rfl
 |ty n=>cases (show u=Value.type n from r);rfl
section
variable{P:Program}{w:World}{H H':Hp}{h h':Heap}{a C dx:Addr}{fs fs':List<|Str×V}
def gS(hok:HOk P w H h)(e:H a=some (.ins C dx fs)):∃mA,zEb h a dx C mA/\(∀f,zCb (fs.lookup f)<|mA f)/\PySem.Within mA (fs.map (·.1))/\fs.length<=1000/\H dx=some (.own a):=by
 obtain⟨d,z,ne,ob,mA,n,r,q⟩:=(show zAc P w H h a (.ins C dx fs) from hok a _ e)
 exact⟨mA,⟨ob,n,ne⟩,r,q,z,d⟩
end
structure Cls(K:xFr)(C:Addr):Prop where
 pg:W.plainGet K C Str.empty=true
 hd:W.hasDictIn K C=true
 po:W.plainOver K C=true
 sa:W.findIn K (.ref C) "__setattr__"=some (some (.builtin "object.__setattr__"))
def Cls.get(c:Cls K C)(f:Str):W.plainGet K C f=true:=c.pg
def zAr(K:xFr)(C:Addr)(f:Str):Prop:=W.findIn K (.ref C) f=some none
def zAr.taker{f:Str}(n:zAr K C f):W.takerIn K C f=some none:=by
 unfold W.takerIn;rw[show W.findIn K (.ref C) f=some none from n];rfl
structure zEc(K:xFr)(C:Addr)(m:Str)(f:Addr):Prop where
 at_:W.findIn K (.ref C) m=some (some (.ref f))
 fn:W.isFn K (.ref f)=true
 kp:W.keepIn K (.ref f)=true
section
variable{X:Cx}{Z:List<|Addr×Obj}{σ:St}{H:Hp}{s:Shared}{a C dx:Addr}{fs:List<|Str×V}{f:Str}{v:V}{A:Around}{E:Value->Shared->Prop}
def lK{b:Bool}(I:Inv X Z σ H s)(e:H a=some (.ins C dx fs))(c:Cls X.K C)(n:zAr X.K C f)(l:fs.lookup f=some v)(h:∀u s',Inv X Z σ H s'->zAi v u->Q u s'):wpAny (model X.prog X.w) A (getAttr (.ref a) f b) Q E s:=by
 obtain⟨mA,O,r,_,_,_⟩:=gS I.hok e;obtain⟨u,hu,ru⟩:=zCb.some_of (v:=v) (o:=mA f) (by rw[<- l];exact r f);exact uO I.kIn O (c.get f) c.hd n hu (jc ru)<|h u _ (I.tok _) ru
def iD{m:Str}{g:Addr}{Q:Value×List Value->Shared->Prop}(I:Inv X Z σ H s)(e:H a=some (.ins C dx fs))(c:Cls X.K C)(k:zEc X.K C m g)(l:fs.lookup m=none)(h:Q (.ref g,[.ref a]) s):wpAny (model X.prog X.w) A (getMethod (.ref a) m pl) Q E s:=by
 obtain⟨mA,O,r,_,_,_⟩:=gS I.hok e;have hn:mA m=none:=zCb.none_of (by rw[<- l];exact r m);exact rq I.kIn O (c.get m) k.at_ k.fn hn h
def lq{u:Value}{Q:Unit->Shared->Prop}(I:Inv X Z σ H s)(e:H a=some (.ins C dx fs))(c:Cls X.K C)(n:zAr X.K C f)(hl:fs.length<1000)(ry:zAi y u)(h:∀s',Inv X Z σ (upd H a<|.ins C dx<|putF f y fs) s'->Q () s'):wpAny (model X.prog X.w) A (setAttr (.ref a) f u) Q E s:=by
 obtain⟨mA,O,r,wi,_,ho⟩:=gS I.hok e;have hz:(fs.map (·.1)).length<=sizeLine:=by rw[xAa,sizeLine_eq];lia
 refine tw I.kIn O c.sa c.po n.taker c.hd wi hz λh' O' sb=>h _ ?_;have hd:∃o,h'.get? dx=some o:=let ⟨o,_,_,e',_⟩:=O'.ns;⟨o,e'⟩;refine I.write (x:=a) (e:=dx) (by rw[e];exact True.intro) (.inr ho) (λb q hb z=>(sb.2 b hb).trans z) hd ?_;refine⟨by rw[db O.ne];exact ho,?_,O.ne,O'.obj,_,O'.ns,λg=>?_,λg hg=>?_⟩
 ·have:=gF f y fs;lia
 ·show zCb ((putF f y fs).lookup g)<|if g=f then some u else mA g;rw[gE];by_cases q:g=f
  ·rw[xCg q,xCg q];exact ry
  ·rw[xCf q,xCf q];exact r g
 ·by_cases q:g=f
  ·rw[q];exact(gq f y fs).1
  ·refine(gq f y fs).2 g (wi g λz=>hg ?_);show(if g=f then some u else mA g)=none;rw[xCf q];exact z
def Inv.made(I:Inv X Z σ H s):Inv X Z σ (upd (upd H s.heap.objs.size<|.own<|s.heap.objs.size+1) (s.heap.objs.size+1)<|.ins C s.heap.objs.size [])
  {s with heap:=(s.heap.push W.emptyDict).push<|W.instObj C s.heap.objs.size}:=by
 have e1:(s.heap.push W.emptyDict).get? s.heap.objs.size=some W.emptyDict:=xAl s.heap rfl;have e2:((s.heap.push W.emptyDict).push<|W.instObj C s.heap.objs.size).get? (s.heap.objs.size+1)=some (W.instObj C s.heap.objs.size):=by
  have:=xAl (s.heap.push W.emptyDict) (o:=W.instObj C s.heap.objs.size) rfl
  rwa[Heap.size_push] at this
 have e3:(s.heap.push W.emptyDict).Ns s.heap.objs.size λ_=>none:=⟨W.emptyDict,#[],_,e1,rfl,(λe he=>absurd he<|by simp),λ_=>rfl⟩
 have I1:=I.laid (a:=s.heap.objs.size) (o:=.own<|s.heap.objs.size+1) (h':=s.heap.push W.emptyDict) (t':=s.toks) (λb u q=>xAf _ q) (xAg _) ⟨_,e1⟩;refine I1.laid (a:=s.heap.objs.size+1) (o:=.ins C s.heap.objs.size []) (t':=s.toks) (λb u q=>xAf _ q) (Nat.le_of_eq<|Heap.size_push _ _) ?_;have ne:s.heap.objs.size≠s.heap.objs.size+1:=xA0<|Nat.lt_succ_self _;refine⟨by rw[db ne,dg],xBn _,ne,e2,λ_=>none,(Heap.Ns1.of_empty e3).at λo q=>xAf _ q,λ_=>True.intro,λy hy=>absurd rfl hy⟩
def nI{prog:Program}{w:World}{env:Env}{e:Expr}{f:Str}(hb:attributeBase e f env (eval e env)=eval e env)(h:wpAny (model prog w) A (eval e env) (λo s₁=>wpAny (model prog w) A (getAttr o f true) Q E s₁) E s):wpAny (model prog w) A (eval (.Attribute e f pos) env) Q E s:=
 Attribute_any_ h (by rw[arm_eval_Attribute,hb])
end
def zJi(K:xFr)(ta:TE)(f:Str):TE:=λσ H Q=>ta σ H λx H1=>∃a C dx fs v,x=.ref a/\H1 a=some (.ins C dx fs)/\Cls K C/\zAr K C f/\fs.lookup f=some v/\Q v H1
def zJm(K:xFr)(ta tv:TE)(f:Str):TS:=λD σ H=>tv σ H λy H1=>ta σ H1 λx H2=>∃a C dx fs,x=.ref a/\H2 a=some (.ins C dx fs)/\Cls K C/\zAr K C f/\fs.length<1000 /\
 D.nx σ (upd H2 a<|.ins C dx<|putF f y fs)
section
variable{X:Cx}{o e value:Expr}{f:Str}{pos pos' tpos:Pos}{ta tv:TE}
def xj(he:PE X e ta)(hb:attributeBase e f X.env (eval e X.env)=eval e X.env):PE X (.Attribute e f pos)<|zJi X.K ta f:=by
 intro Z s σ H Q I h;refine nI hb (thn (he Z s σ H _ I h) λu s1 zz=>?_);obtain⟨x,H1,I1,rx,a,C,dx,fs,v,ex,ea,c,n,l,q⟩:=zz;subst ex;obtain rfl:u=Value.ref a:=rx;exact lK I1 ea c n l λu' s2 I2 ru=>⟨v,H1,I2,ru,q⟩
def wR(ha:PE X o ta)(hv:PE X value tv)(hs:swapsWith value (some<|.Attribute o f pos') pos.line X.env=pure false):PS X (.Assign [.Attribute o f pos'] value pos)<|zJm X.K ta tv f:=by
 intro Z s σ H D I h;refine plainObj_wpAny_Assign_Attribute (thn (hv Z s σ H _ I h) λu s1 ⟨y,H1,I1,ry,q⟩=>thn (ha Z s1 σ H1 _ I1 q) λov s2 ⟨x,H2,I2,rx,a,C,dx,fs,ex,ea,c,n,l,q2⟩=>?_) hs;subst ex;obtain rfl:ov=Value.ref a:=rx;exact lq I2 ea c n l ry λs3 I3=>⟨σ,_,I3,q2⟩
end
section
variable{X:Cx}{Z:List<|Addr×Obj}{σ:St}{H:Hp}{s:Shared}{A:Around}{E:Value->Shared->Prop}{Q:Value->Shared->Prop}{c:Value}{b:Bool}
inductive zB1(K:xFr)(H:Hp):V->Value->Prop where
 |non:zB1 K H .non (.type "NoneType")
 |bl (x:Bool):zB1 K H (.bl x) (.type "bool")
 |int (i:Int):zB1 K H (.int i) (.type "int")
 |str (x:Str):zB1 K H (.str x) (.type "str")
 |flt (x:UInt64):zB1 K H (.flt x) (.type "float")
 |lst {a:Addr} {xs:List V} (e:H a=some (.lst xs)):zB1 K H (.ref a) (.type "list")
 |frz {a:Addr} {o:Obj} {xs:List V} (e:H a=some (.frz o (.lst xs))):zB1 K H (.ref a) (.type "list")
 |tup {a:Addr} {xs:List V} (e:H a=some (.tup xs)):zB1 K H (.ref a) (.type "tuple")
 |dK {a:Addr} {kvs:List (Key×V)} (e:H a=some (.dK kvs)):zB1 K H (.ref a) (.type "dict")
 |dT {a:Addr} {kvs:List (List Key×V)} (e:H a=some (.dT kvs)):zB1 K H (.ref a) (.type "dict")
 |ins {a C dx:Addr} {fs:List (Str×V)} (e:H a=some (.ins C dx fs)) (cl:Cls K C) (ha:W.findIn K (.ref C) "__class__"=some (some (.builtin "object.__class__")))
   (hn:W.specialIn K (.builtin "object.__class__") "__get__"=some (some (.builtin "getset_descriptor.__get__"))) (htk:W.takesIn K (.builtin "object.__class__")=some true)
   (hm:W.mroIn K C (.type "object")=some true):zB1 K H (.ref a) (.ref C)
theorem ja{x:V}{u t:Value}(I:Inv X Z σ H s)(rx:zAi x u)(ty:zB1 X.K H x t)(e:W.kitOne X.K t c=some b)(h:∀tk,Q (.bool b) {s with toks:=tk}) :
  wpAny (model X.prog X.w) A (call (.builtin "isinstance") [u,c]) Q E s:=by
 cases ty with
 |non=>cases (show u=Value.none from rx);exact W.kia_one W.kitx_none I.kIn True.intro e (λz=>nomatch z) h
 |bl y=>cases (show u=Value.bool y from rx);exact W.kia_one W.kitx_bool I.kIn True.intro e (λz=>nomatch z) h
 |int i=>obtain⟨t,q⟩:=(show ∃t,u=Value.int i t from rx);cases q;exact W.kia_one W.kitx_int I.kIn True.intro e (λz=>nomatch z) h
 |str y=>obtain⟨t,q⟩:=(show ∃t,u=Value.str y t from rx);cases q;exact W.kia_one W.kitx_str I.kIn True.intro e (λz=>nomatch z) h
 |flt y=>obtain⟨t,q⟩:=(show ∃t,u=Value.float y t from rx);cases q;exact W.kia_one W.kitx_float I.kIn True.intro e (λz=>nomatch z) h
 |@lst a xs ea=>
  cases (show u=Value.ref a from rx);obtain⟨_,_,n,_,h1⟩:=(show zAc X.prog X.w H s.heap a (.lst xs) from I.hok a _ ea)
  exact W.kia_one W.kitx_list I.kIn ⟨_,h1,rfl⟩ e (λz=>nomatch z) h
 |@frz a ob xs ea=>
  cases (show u=Value.ref a from rx);obtain⟨_,_,_,n,_,h1⟩:=(show zAc X.prog X.w H s.heap a (.frz ob<|.lst xs) from I.hok a _ ea)
  exact W.kia_one W.kitx_list I.kIn ⟨_,h1,rfl⟩ e (λz=>nomatch z) h
 |@tup a xs ea=>
  cases (show u=Value.ref a from rx);obtain⟨_,_,_,p⟩:=(show zAc X.prog X.w H s.heap a (.tup xs) from I.hok a _ ea)
  obtain⟨o,h1,h2,_⟩:=p;exact W.kia_one W.kitx_tuple I.kIn ⟨o,h1,h2⟩ e (λz=>nomatch z) h
 |@dK a kvs ea=>
  cases (show u=Value.ref a from rx);obtain⟨_,_,vs,_,p⟩:=(show zAc X.prog X.w H s.heap a (.dK kvs) from I.hok a _ ea)
  obtain⟨o,es,ep,h1,h2,_⟩:=p;exact W.kia_one W.kitx_dict I.kIn ⟨o,h1,h2.1⟩ e (λz=>nomatch z) h
 |@dT a kvs ea=>
  cases (show u=Value.ref a from rx);obtain⟨_,_,xs,_,o,es,ep,h1,h2,_⟩:=(show zAc X.prog X.w H s.heap a (.dT kvs) from I.hok a _ ea)
  exact W.kia_one W.kitx_dict I.kIn ⟨o,h1,h2.1⟩ e (λz=>nomatch z) h
 |@ins a C dx fs ea cl ha hn htk hm=>
  cases (show u=Value.ref a from rx);obtain⟨mA,O,_⟩:=gS I.hok ea;obtain⟨od,J,_⟩:=O.look;exact W.kia_one (W.kitx_own (cl.get _) cl.hd ha hn htk hm) I.kIn J e (λz=>nomatch z) h
end
structure zA4(k:Nat)(A:Around):Prop where
 hd:A.handled=none
 dp:A.depth+3*k+5<recursionLimit
 un:A.units+16*k+200<cLine
 gd:A.guards=some []
def zA4.mono(r:zA4 k A)(h:j<=k):zA4 j A:=⟨r.hd,by have:=r.dp;lia,by have:=r.un;lia,r.gd⟩
theorem zA4.deeper{k:Nat}{A:Around}(r:zA4 (k+1) A)(env:Env):zA4 k<|A.deeper env:=
 ⟨r.hd,by have:=r.dp;show A.depth+1+3*k+5<_;lia,by have:=r.un;show A.units+3+16*k+200<_;lia,r.gd⟩
def lH:(A.under<|.builtin "type.__call__" ⟨.ref C::us,kw⟩).depth=A.depth+1:=by
 first|rfl|simp[Around.under,Code.weight,Code.isCreation,Code.isGuard,Code.isCaller,Code.frames,Code.isFrame,guardIds]
def lG:(A.under<|.builtin "type.__call__" ⟨.ref C::us,kw⟩).units=A.units+1:=by
 first|rfl|simp[Around.under,Code.cUnits,Code.frames,Code.isFrame]
def kD:(A.under<|.builtin "type.__call__" ⟨.ref C::us,kw⟩).guards=A.guards:=by
 first|rfl|simp[Around.under,Code.weight,Code.isCreation,Code.isGuard,Code.isCaller,Code.frames,Code.isFrame,guardIds]
def zA4.make(r:zA4 (k+1) A)(C:Addr)(us:List Value)(kw:List<|Str×Value):zA4 k<|A.under<|.builtin "type.__call__" ⟨.ref C::us,kw⟩:=
 ⟨r.hd,by have:=r.dp;rw[lH];lia,by have:=r.un;rw[lG];lia,kD.trans r.gd⟩
theorem zA4.depth{k:Nat}{A:Around}(r:zA4 k A):A.depth<recursionLimit:=by have:=r.dp;lia
def zF2:TA:=λ_ H Q=>Q [] H
def zEz(ta:TE)(tr:TA):TA:=λσ H Q=>ta σ H λx H1=>tr σ H1 λxs H2=>Q (x::xs) H2
section
variable{X:Cx}{e:Expr}{es:List Expr}{te:TE}{t:TA}{pos:Pos}
def im:PA X [] zF2:=λ_ _ _ _ H Q I h=>Calls.spliced_nil ⟨[],H,I,.nil,h⟩
def ud(ha:PE X e te)(hr:PA X es t)(hs:starEach (e::es) X.env=(false,eval e X.env)::starEach es X.env:=by rfl):PA X (e::es)<|zEz te t:=by
 intro pos Z s σ H Q I h;rw[hs];show wpAny _ _ (spliced<|(false,eval e X.env)::backTo pos (starEach es X.env)) _ _ s;refine Calls.spliced_cons (thn (ha Z s σ H _ I h) λu s1 zz=>?_);obtain⟨x,H1,I1,r1,q1⟩:=zz;exact thn (hr pos Z s1 σ H1 _ I1 q1) λus s2 ⟨xs,H2,I2,r2,q2⟩=>⟨x::xs,H2,I2,.cons r1 r2,q2⟩
def zJa(t:TA):TE:=λσ H Q=>t σ H λxs H1=>xs.length<=sizeLine/\∀p,H1 p=none->Q (.ref p) (upd H1 p<|.tup xs)
def zJf(t:TA):TE:=λσ H Q=>t σ H λxs H1=>xs.length<=sizeLine/\∀p,H1 p=none->Q (.ref p) (upd H1 p<|.lst xs)
def w6{x1}(h:PA X es t):PE X (.Tuple es x1 pos)<|zJa t:=by
 intro Z s σ H Q I hq;refine wpAny_Tuple_spliced (thn (h pos Z s σ H _ I hq) λus s1 ⟨xs,H1,I1,r,z,q⟩=>⟨by rw[<- r.length];exact z,?_⟩);have hf:H1 s1.heap.objs.size=none:=I1.hok.fresh<|xAg _;refine⟨.ref s1.heap.objs.size,upd H1 s1.heap.objs.size<|.tup xs,I1.laid (t':=s1.toks) (λb u e=>xAf _ e) (xAg _) ?_,rfl,q _ hf⟩;exact⟨z,us,r,⟨_,xAl _ rfl,rfl,_,rfl⟩⟩
def xg(h:PA X es t):PE X (.List es pos)<|zJf t:=by
 intro Z s σ H Q I hq;refine wpAny_List_spliced (thn (h pos Z s σ H _ I hq) λus s1 ⟨xs,H1,I1,r,z,q⟩=>⟨by rw[<- r.length];exact z,?_⟩);have hf:H1 s1.heap.objs.size=none:=I1.hok.fresh<|xAg _;refine⟨.ref s1.heap.objs.size,upd H1 s1.heap.objs.size<|.lst xs,I1.laid (t':=s1.toks) (λb u e=>xAf _ e) (xAg _) ?_,rfl,q _ hf⟩;exact⟨z,us,0,r,xAl _ rfl⟩
end
noncomputable abbrev Sp:=List V->Hp->VK->XK->Prop
noncomputable abbrev CXT:=List Env->Hp->Shared->XK->Value->Shared->Prop
structure zEe(P:Program)(w:World)(K:xFr)(mg:Str->Option Value)(base:Heap)(A:Around)(outer:List Env)(s:Shared)(H:Hp):Prop where
 frames:A.frames=some outer
 mod:Mod K mg base
 bs:∀b o,base.get? b=some o->s.heap.get? b=some o/\H b=none
 bsz:base.objs.size<=s.heap.objs.size
 funs:s.heap.FunFrames base outer
 frf:∀b∈frs outer,H b=none
 hok:HOk P w H s.heap
 bare:AllBare s.gens
def CE(outer:List Env)(P:Program)(w:World)(H:Hp)(s:Shared)(Q:VK)(u:Value)(s':Shared):Prop:=
 ∃v H',s'.os=s.os/\AllBare s'.gens/\Un (frs outer) [] H H' s.heap s'.heap/\HOk P w H' s'.heap/\zAi v u/\Q v H'
def CR(CX:CXT)(outer:List Env)(P:Program)(w:World)(H:Hp)(s:Shared)(Q:VK)(E:XK)(r:Result)(s':Shared):Prop:=
 match r with
 |.ok (.ret u)=>CE outer P w H s Q u s'
 |.ok _=>False
 |.error e=>CX outer H s E e s'
structure zAv(P:Program)(w:World)(K:xFr)(mg:Str->Option Value)(base:Heap)(CX:CXT)(k:Nat)(f:Addr)(fd:FuncData)(ps:List Str)(sp:Sp):Prop where
 len:∀vs H Q E,sp vs H Q E->vs.length=ps.length
 run:∀(A:Around)(outer:List Env)(s:Shared)(H:Hp)(args:Args)(us:List Value)(vs:List V)(Q:VK)(E:XK),zA4 k A->zEe P w K mg base A outer s H->BindsTo s fd args (ps.zip us)->zAg vs us->sp vs H Q E ->
  codeAny (model P w) A (.call (.ref f) args) (CR CX outer P w H s Q E) s
theorem zAv.mono{P:Program}{w:World}{K:xFr}{mg:Str->Option Value}{base:Heap}{CX:CXT}{j k:Nat}{f:Addr}{fd:FuncData}{ps:List Str}{sp:Sp}(F:zAv P w K mg base CX j f fd ps sp)(h:j<=k) :
  zAv P w K mg base CX k f fd ps sp:=⟨F.len,λA outer s H args us vs Q E hr=>F.run A outer s H args us vs Q E<|hr.mono h⟩
def zAv.imp{P:Program}{w:World}{f:Addr}{sp':Sp}(F:zAv P w K mg base CX k f fd ps sp)(h:∀vs H Q E,sp' vs H Q E->sp vs H Q E):zAv P w K mg base CX k f fd ps sp':=
 ⟨λvs H Q E q=>F.len vs H Q E<|h _ _ _ _ q,λA outer s H args us vs Q E hr he hb hv hs=>F.run A outer s H args us vs Q E hr he hb hv<|h _ _ _ _ hs⟩
def zEe.make{P:Program}{w:World}(e:zEe P w K mg base A outer s H)(C:Addr)(us:List Value)(kw:List<|Str×Value) :
  zEe P w K mg base (A.under<|.builtin "type.__call__" ⟨.ref C::us,kw⟩) outer s H:=⟨by first|exact e.frames|(simpa [Around.under,Code.envs,Code.isFrame,pushEnvs] using e.frames),e.mod,e.bs,e.bsz,e.funs,e.frf,e.hok,e.bare⟩
section
variable{X:Cx}{Z:List<|Addr×Obj}{σ:St}{H:Hp}{s s':Shared}
def Inv.env0(I:Inv X Z σ H s):zEe X.prog X.w X.K X.mg X.base X.A X.stack s H:=
 ⟨I.ok.frames,I.ok.mod,I.bs,xCk I.ok.bsz I.sz,I.stack,I.stkFree,I.hok,I.bare⟩
def Inv.after{Q:VK}{u:Value}(I:Inv X Z σ H s)(h:CE X.stack X.prog X.w H s Q u s'):EP X Z σ Q u s':=by
 obtain⟨v,H',os,bare,un,hok,r,q⟩:=h;obtain⟨hh,g,d,t,os'⟩:=s';obtain rfl:os'=s.os:=os;exact⟨v,H',I.call (h':=hh) (g':=g) (d':=d) (t':=t) (ch:=[]) un hok bare (λb z=>absurd z<|by simp),r,q⟩
end
def zD2(C:Addr)(sp:Sp)(dvs:List V)(E:XK)(t:TA):TE:=λσ H Q=>t σ H λvs H1=>∀x dx,H1 x=none->H1 dx=none->dx≠x ->
 sp (.ref x::(vs++dvs)) (upd (upd H1 dx<|.own x) x<|.ins C dx []) (λv H2=>v=.non/\Q (.ref x) H2) E
def zAm(K:xFr)(fd:FuncData)(ps:List Str)(ds:List Value):Prop:=
 ∀(s:Shared)(us:List Value),K.In s.heap->(us++ds).length=ps.length->BindsTo s fd ⟨us,[]⟩ (ps.zip<|us++ds)
def zAm.all(h:∀us:List Value,us.length=ps.length->bindArgs fd ⟨us,[]⟩=pure (ps.zip us)):zAm K fd ps []:=λs us _ hl=>by
 rw[xB0] at hl⊢;exact .of_eq<|h us hl
def zBy(CX:CXT)(X:Cx)(E:XK):Prop:=∀(Z:List<|Addr×Obj)(σ:St)(H:Hp)(s:Shared)(e:Value)(s':Shared),Inv X Z σ H s->CX X.stack H s E e s'->X.xe e s'
section
variable{X:Cx}{CX:CXT}{k:Nat}{f C:Addr}{fd:FuncData}{ps:List Str}{sp:Sp}{dvs:List V}{ds:List Value}{E:XK}{x m:Str}{p pos apos:Pos}{e o:Expr}{es:List Expr}{ta:TE}{t:TA}
structure Mk(K:xFr)(C f:Addr):Prop where
 makes:W.makesIn K C=true
 init:W.findIn K (.ref C) "__init__"=some (some (.ref f))
 fn:W.isFn K (.ref f)=true
 kp:W.keepIn K (.ref C)=true
theorem ka{σ:St}{Q:VK}(M:Mk X.K C f)(F:zAv X.prog X.w X.K X.mg X.base CX k f fd ps sp)(hr:zA4 (k+1) X.A)(hb:zAm X.K fd ps ds)(hd:zAg dvs ds)(hx:zBy CX X E)(I:Inv X Z σ H s)(r:zAg vs us)(h:∀x dx,H x=none->H dx=none->dx≠x->sp (.ref x::(vs++dvs)) (upd (upd H dx<|.own x) x<|.ins C dx []) (λv H2=>v=.non/\Q (.ref x) H2) E) :
  wpAny (model X.prog X.w) X.A (call (.ref C) us) (EP X Z σ Q) X.xe s:=by
 have hq:=h (s.heap.objs.size+1) s.heap.objs.size (I.hok.fresh<|Nat.le_succ _) (I.hok.fresh<|xAg _)<|xA0<|Nat.lt_succ_self _;have I2:=Inv.made (C:=C) I;have r2:zAg (V.ref (s.heap.objs.size+1)::(vs++dvs))<|Value.ref (s.heap.objs.size+1)::(us++ds):=.cons rfl<|r.append hd;have hl:(Value.ref (s.heap.objs.size+1)::us++ds).length=ps.length:=by
  have e:=r2.length;rw[F.len _ _ _ _ hq] at e;exact e.symm
 refine wpAny_call<|qS (f:=f) I.kIn M.makes M.init (beq_iff_eq.mp M.fn)<|codeAny_mono (F.run _ X.stack _ _ ⟨Value.ref (s.heap.objs.size+1)::us,[]⟩ (Value.ref (s.heap.objs.size+1)::(us++ds)) _ _ E (hr.make C us [])
  (I2.env0.make C us []) (hb _ (Value.ref (s.heap.objs.size+1)::us) I2.kIn hl) r2 hq) λr s' hq'=>?_
 cases r with
 |error e=>exact hx Z σ _ _ e s' I2 hq'
 |ok fl=>
  cases fl with
  |ret u=>
   obtain⟨v,H',I3,rv,ev,q3⟩:=I2.after hq';subst ev;exact⟨rv,⟨V.ref<|s.heap.objs.size+1,H',I3,rfl,q3⟩⟩
  |next=>exact False.elim hq'
  |brk=>exact False.elim hq'
  |cont=>exact False.elim hq'
def tY(M:Mk X.K C f)(F:zAv X.prog X.w X.K X.mg X.base CX k f fd ps sp)(hr:zA4 (k+1) X.A)(hg:Gl X x)(hm:X.mg x=some (.ref C))(hb:zAm X.K fd ps ds)(hd:zAg dvs ds)(hx:zBy CX X E)(ha:PA X (e::es) t)(hdb:(x==("__debug__":Str))=false:=by decide)(he:starEach (e::es) X.env=(false,eval e X.env)::starEach es X.env:=by rfl)(hpl:(backTo pos<|starEach es X.env).any (·.1)=false:=by rfl) :
  PE X (.Call (.Name x p) (e::es) [] pos) (zD2 C sp dvs E t):=by
 intro Z s σ H Q I h;refine wpAny_Call_Name_kw (eY I hg hm ?_ hdb);refine W.callWith_K (h₀:=X.base) I.ok.mod.kin M.kp (thn (ha pos Z s σ H _ I h) λus s1 ⟨vs,H1,I1,r,q⟩=>⟨I1.kIn,?_⟩) he hpl;exact ka M F hr hb hd hx I1 r q
def qv(M:Mk X.K C f)(F:zAv X.prog X.w X.K X.mg X.base CX k f fd ps sp)(hr:zA4 (k+1) X.A)(hg:Gl X x)(hm:X.mg x=some (.ref C))(hb:zAm X.K fd ps ds)(hd:zAg dvs ds)(hx:zBy CX X E)(hdb:(x==("__debug__":Str))=false:=by decide):PE X (.Call (.Name x p) [] [] pos)<|zD2 C sp dvs E zF2:=by
 intro Z s σ H Q I h;refine wpAny_Call_Name_kw (eY I hg hm ?_ hdb);exact W.callWith_K0 I.kIn M.kp (ka (us:=[]) M F hr hb hd hx I .nil h)
end
structure zA1(N P:List Str)(sc:Scope):Prop where
 kind:sc.kind=.function
 co:sc.isCoroutine=false
 gen:sc.isGenerator=false
 nd:N.Nodup
 pre:N.take P.length=P
 par:∀x∈P,sc.names.lookup x=some .local\/sc.names.lookup x=some .cell
 nofree:∀y∈sc.names,y.2≠.free
theorem jh{kindOf:Str->Option NameKind}{x:Str}:∀{binds:List<|Str×Value}{m:Str->Option Value},(∀v,(x,v)∉binds)->bindL kindOf binds m x=m x
 |[],_,_=>rfl
 |(n,v)::r,m,h=>by
  unfold bindL;rw[jh λw hw=>h w<|xAs _ hw];split
  ·have:x≠n:=by rintro rfl;exact h v xAr
   simp[this]
  ·rfl
theorem jk{kindOf:Str->Option NameKind}{x:Str}:∀{binds:List<|Str×Value}{m:Str->Option Value},(∀v,(x,v)∉binds)->bindC kindOf binds m x=m x
 |[],_,_=>rfl
 |(n,v)::r,m,h=>by
  unfold bindC;rw[jk λw hw=>h w<|xAs _ hw];split
  ·rfl
  ·have:x≠n:=by rintro rfl;exact h v xAr
   simp[this]
theorem jj{kindOf:Str->Option NameKind}{x:Str}{v:Value}:∀{P:List Str}{vs:List Value}{i:Nat}{m:Str->Option Value},P.Nodup->P[i]?=some x->vs[i]?=some v->kindOf x=some .local ->
  bindL kindOf (P.zip vs) m x=some v
 |[],_,_,_,_,h,_,_=>by simp at h
 |_::_,[],_,_,_,_,h,_=>by simp at h
 |p::P,w::vs,0,m,nd,h1,h2,hk=>by
  simp at h1 h2;subst h1;subst h2;show bindL kindOf ((p,w)::P.zip vs) m p=_;unfold bindL;rw[jh λv hv=>(xCb.mp nd).1 (List.of_mem_zip hv).1,xCg hk];simp
 |p::P,w::vs,i+1,m,nd,h1,h2,hk=>by
  show bindL kindOf ((p,w)::P.zip vs) m x=_;unfold bindL;exact jj (i:=i) (xCb.mp nd).2 (by simpa using h1) (by simpa using h2) hk
theorem jm{kindOf:Str->Option NameKind}{x:Str}{v:Value}:∀{P:List Str}{vs:List Value}{i:Nat}{m:Str->Option Value},P.Nodup->P[i]?=some x->vs[i]?=some v->kindOf x≠some .local ->
  bindC kindOf (P.zip vs) m x=some v
 |[],_,_,_,_,h,_,_=>by simp at h
 |_::_,[],_,_,_,_,h,_=>by simp at h
 |p::P,w::vs,0,m,nd,h1,h2,hk=>by
  simp at h1 h2;subst h1;subst h2;show bindC kindOf ((p,w)::P.zip vs) m p=_;unfold bindC;rw[jk λv hv=>(xCb.mp nd).1 (List.of_mem_zip hv).1,xCf hk];simp
 |p::P,w::vs,i+1,m,nd,h1,h2,hk=>by
  show bindC kindOf ((p,w)::P.zip vs) m x=_;unfold bindC;exact jm (i:=i) (xCb.mp nd).2 (by simpa using h1) (by simpa using h2) hk
def start(N:List Str)(vs:List V):St:=vs.map some++List.replicate (N.length-vs.length) none
noncomputable def zDu(CX:CXT)(P:Program)(w:World)(K:xFr)(mg:Str->Option Value)(base:Heap)(N:List Str)(qual:Str)(scope:Scope)(f:Addr)(cd:Value)(A:Around)(outer:List Env)(s:Shared)(H:Hp)(E:XK):Cx where
 prog:=P
 w:=w
 K:=K
 mg:=mg
 base:=base
 A:=A.deeper<|envOfC qual scope s.heap.objs.size f cd
 N:=N
 s₀:=s
 H₀:=H
 env:=envOfC qual scope s.heap.objs.size f cd
 outer:=outer
 stack:=envOfC qual scope s.heap.objs.size f cd::outer
 ex:=[]
 calm:=true
 fn:=λ_=>true
 pn:=[]
 xe:=λe s'=>wpAny (model P w) (A.deeper<|envOfC qual scope s.heap.objs.size f cd) (leaving (envOfC qual scope s.heap.objs.size f cd) e) (λ_ s''=>CX outer H s E e s'') (λe' s''=>CX outer H s E e' s'') s'
def iK{sc:Scope}{x:Str}(h:sc.names.lookup x=some .cell):∃c,(cellsFrom n sc.names []).lookup x=some c:=by
 have q:=W.cellsFrom_some sc.names n []<|.inl h;exact Option.isSome_iff_exists.mp q
def oG{P:Program}{w:World}{f:Addr}{cd:Value}{s1:Shared}{E:XK}(S:zA1 N ps scope)(hd:A.handled=none)(e0:zEe P w K mg base A outer s H)(hl:vs.length=ps.length)(r:zAg vs us)(x:InCallC s s.heap.objs.size (bindL (envOfC qual scope s.heap.objs.size f cd).kindOf (ps.zip us) λ_=>none) (cellsFrom (s.heap.objs.size+1) scope.names []) (bindC (envOfC qual scope s.heap.objs.size f cd).kindOf (ps.zip us) λ_=>none) s1) :
  Inv (zDu CX P w K mg base N qual scope f cd A outer s H E) [] (start N vs) H s1:=by
 have hpl:ps.length<=N.length:=by have:=congrArg List.length S.pre;rw[List.length_take] at this;lia
 obtain⟨h1,tk,rfl,hk⟩:=x.done;have noA:∀b:Addr,b ∉ (zDu CX P w K mg base N qual scope f cd A outer s H E).ex:=λb z=>absurd (show b∈([]:List Addr) from z) (by simp);refine⟨⟨e0.mod,S.kind,rfl,rfl,xAg _,λy z c h1 h2=>?_,λy hy=>?_,λy c _ h=>?_,λ_=>hd,Around.frames_deeper e0.frames,.inr ⟨rfl,rfl⟩,λb z=>absurd z<|noA b,e0.bs,e0.bsz,λb _ _=>noA b,λb z=>absurd z<|noA b,e0.funs,e0.frf⟩,
  rfl,e0.bare,Un.kept hk,⟨_,x.toInCall.ns,λi y v h1 h2 h3=>?_⟩,λy c h=>⟨_,x.cell y c h⟩,e0.hok.fresh<|xAg _,λy c h=>?_,λp hp=>absurd (show p∈([]:List<|Addr×Obj) from hp) (by simp),e0.hok.kept hk,?_⟩
 ·exact name_of_addr x.apart (PySem.mem_of_lookup h1)<|PySem.mem_of_lookup h2
 ·have hy:scope.names.lookup y=some .cell\/scope.names.lookup y=some .free:=hy;rcases hy with hy|hy
  ·exact iK hy
  ·exact absurd rfl<|S.nofree _<|PySem.mem_of_lookup hy
 ·exact Nat.le_of_lt<|x.above y c<|PySem.mem_of_lookup h
 ·have hi:i<vs.length:=by
   unfold start at h2;by_cases hi:i<vs.length
   ·exact hi
   ·rw[xCl<|by simpa using hi] at h2;rw[List.getElem?_replicate] at h2;split at h2 <;> cases h2
  have ha:vs[i]?=some v:=by
   unfold start at h2;rw[xCm (by simpa using hi),xAw] at h2;cases e:vs[i]? with
   |none=>rw[e] at h2;cases h2
   |some a=>rw[e] at h2;cases h2;rfl
  obtain⟨u,hu,rv⟩:=r.get ha;have hp:ps[i]?=some y:=by
   rw[<- S.pre,List.getElem?_take_of_lt<|by lia];exact h1
  have ndP:ps.Nodup:=by rw[<- S.pre];exact S.nd.sublist<|List.take_sublist _ _
  refine⟨u,rv,?_⟩;rcases S.par y (xAc hp) with k|k
  ·exact .inl ⟨k,jj ndP hp hu k⟩
  ·obtain⟨c,e⟩:=iK (n:=s.heap.objs.size+1) k;refine .inr ⟨.inl k,c,e,?_⟩;have q:=x.cell y c e;rw[jm ndP hp hu<|by show scope.names.lookup y≠_;rw[k];decide] at q;exact q
 ·exact e0.hok.fresh<|Nat.le_of_lt<|x.above y c<|PySem.mem_of_lookup h
 ·unfold start;show _=N.length;rw[xAb,xAa,xCu];lia
theorem Aj{P:Program}{w:World}{f:Addr}{name:Str}{params:Arguments}{body:List Stmt}{dV kV doc pm cdv ct oc:Value}{an od:Option Addr}{osl:Array<|Option Value}(lk:K.lookup f=some ⟨oc,od,.func<|W.fnOf name qual params body scope dV kV doc pm an cdv ct,osl⟩)(hcd:W.codeIn K cdv qual=true)(S:zA1 N ps scope)(len:∀vs H Q E,sp vs H Q E->vs.length=ps.length)(hbody:∀(A:Around)(outer:List Env)(s:Shared)(H:Hp)(vs:List V)(Q:VK)(E:XK),zA4 k (A.deeper<|envOfC qual scope s.heap.objs.size f cdv)->sp vs H Q E ->
   ∃t,PSs (zDu CX P w K mg base N qual scope f cdv A outer s H E) body t/\t {nx:=λ_ H'=>Q .non H',rt:=Q} (start N vs) H) :
  zAv P w K mg base CX (k+1) f (W.fnOf name qual params body scope dV kV doc pm an cdv ct) ps sp:=by
 refine⟨len,λA outer s H args us vs Q E hr e0 hb r hsp=>?_⟩;have hl:=len _ _ _ _ hsp;have KX:K.In s.heap:=e0.mod.kin.keeps λb o e=>(e0.bs b o e).1;have lim:s.heap.NoLimit:=e0.mod.nolimit.keeps λb o e=>(e0.bs b o e).1;have hkind:∀y∈ps.zip us,scope.names.lookup y.1=some .local\/(scope.names.lookup y.1=some .cell/\((cellsFrom (s.heap.objs.size+1) scope.names []).lookup y.1).isSome=true):=λ⟨n,v⟩ hy=>by
  rcases S.par n (List.of_mem_zip hy).1 with q|q
  ·exact .inl q
  ·exact .inr ⟨q,W.cellsFrom_some _ _ _<|.inl q⟩
 refine codeAny_call_function hr.depth (KX _ _ lk) rfl S.co S.gen rfl (W.codeRec_of KX hcd)<|hb _ _ _ _ ?_;refine wpAny_newFunctionEnv_cells S.kind hkind λenv he s1 x=>?_;subst he;refine⟨lim.keeps x.toInCall.keep,codeAny_func ?_⟩;obtain⟨t,ht,hq⟩:=hbody A outer s H vs Q E (hr.deeper _) hsp;have I:Inv (zDu CX P w K mg base N qual scope f cdv A outer s H E) [] (start N vs) H s1:=oG S hr.hd e0 hl r x;refine wpAny_mono (ht [] s1 (start N vs) H _ I hq) (λfl s' hs=>?_) λe s' hs=>hs;have fin:∀{σ':St}{H':Hp}{v:V}{u:Value},Inv (zDu CX P w K mg base N qual scope f cdv A outer s H E) [] σ' H' s'->zAi v u->Q v H'->CE outer P w H s Q u s':=
  λ{σ' H' v u} J rv q=>⟨v,H',J.os,J.bare,J.base,J.hok,rv,q⟩
 cases fl with
 |ret u=>
  obtain⟨v,σ',H',J,rv,q⟩:=hs;exact fin J rv q
 |next=>
  obtain⟨σ',H',J,q⟩:=hs;exact fin (v:=V.non) (u:=Value.none) J rfl q
 |brk=>
  obtain⟨_,_,_,q⟩:=hs;exact False.elim q
 |cont=>
  obtain⟨_,_,_,q⟩:=hs;exact False.elim q
section
variable{X:Cx}{x:Str}{p pos:Pos}{e:Expr}{es:List Expr}{t:TA}{id T:String}{r:List V->Hp->VK->Prop}
def tCB(r:List V->Hp->VK->Prop)(t:TA):TE:=λσ H Q=>t σ H λvs H1=>r vs H1 Q
def qC(hc:zAl X (.builtin id) r)(hg:Gl X x)(hm:X.mg x=none)(hv:bootBuiltins x=some (.builtin id))(ha:PA X (e::es) t)(hn:x≠"__name__":=by decide)(hdb:(x==("__debug__":Str))=false:=by decide)(he:starEach (e::es) X.env=(false,eval e X.env)::starEach es X.env:=by rfl)(hpl:(backTo pos<|starEach es X.env).any (·.1)=false:=by rfl):PE X (.Call (.Name x p) (e::es) [] pos)<|tCB r t:=by
 intro Z s σ H Q I h;refine wpAny_Call_Name_kw (fT I hg hm hv ?_ hn hdb);exact PyProof.Rows.callWith_builtin1 (thn (ha pos Z s σ H _ I h) λus s1 ⟨vs,H1,I1,r1,q1⟩=>hc Z s1 σ H1 vs us Q I1 r1 q1) he hpl
def ot(hc:zAl X (.type T) r)(hg:Gl X x)(hm:X.mg x=none)(hv:bootBuiltins x=some (.type T))(ha:PA X (e::es) t)(hn:x≠"__name__":=by decide)(hdb:(x==("__debug__":Str))=false:=by decide)(he:starEach (e::es) X.env=(false,eval e X.env)::starEach es X.env:=by rfl)(hpl:(backTo pos<|starEach es X.env).any (·.1)=false:=by rfl):PE X (.Call (.Name x p) (e::es) [] pos)<|tCB r t:=by
 intro Z s σ H Q I h;refine wpAny_Call_Name_kw (fT I hg hm hv ?_ hn hdb);exact PyProof.Rows.callWith_type1 (thn (ha pos Z s σ H _ I h) λus s1 ⟨vs,H1,I1,r1,q1⟩=>hc Z s1 σ H1 vs us Q I1 r1 q1) he hpl
end
end L2
namespace HT
open PySem PyProof.Rows
section
open PySem.SeqAt
open PySem.AutoSeq1 (wpAny_loadPart')
open PySem.MeetsSeq PySem.MeetsSeq2 PySem.MeetsSeq3
end
section
variable{prog:Program}{w:World}{A:Around}{E:Value->Shared->Prop}{s:Shared}
def cat_tup{t b:Addr}{vs ws:List Value}{Q:Value->Shared->Prop}(ht:IsTup s.heap t vs.toArray)(hb:IsTup s.heap b ws.toArray)(hv:vs≠[])(h1:ws=[]->Q (.ref t) s)(h2:ws≠[]->Q (.ref s.heap.objs.size) {s with heap:=s.heap.push {cls:=.type "tuple",data:=.seq (vs++ws).toArray} })(hsz:vs.length+ws.length<=sizeLine):wpAny (model prog w) A (binaryOp .Add (.ref t)<|.ref b) Q E s:=by
 obtain⟨⟨cls,dd,data,sl⟩,ho,hc,n,hd⟩:=id ht;obtain⟨⟨cls2,dd2,data2,sl2⟩,ho2,hc2,n2,hd2⟩:=id hb;simp only at hc hd hc2 hd2;subst hc hd hc2 hd2;have e:vs.toArray++ws.toArray=(vs++ws).toArray:=by simp
 by_cases hw:ws=[]
 ·exact concat_meets ⟨_,ho,rfl⟩ ⟨_,ho2,rfl⟩ noFill_tuple_add seq_tuple_add PySem.F.slot_tuple_add PySem.F.entry_tuple_add (PySem.F.args_tuple_add_2 _ _)
   (tuple_addW1 t b vs.toArray ws.toArray n n2 dd dd2 sl sl2 (by simpa using hv)<|by simp[hw]) ⟨ho,ho2,h1 hw⟩
 ·refine concat_meets ⟨_,ho,rfl⟩ ⟨_,ho2,rfl⟩ noFill_tuple_add seq_tuple_add PySem.F.slot_tuple_add PySem.F.entry_tuple_add (PySem.F.args_tuple_add_2 _ _)
   (tuple_addW2 t b vs.toArray ws.toArray n n2 dd dd2 sl sl2 (by simpa using hv) (by simpa using hw)<|by rw[xAp,xAp];exact hsz) ⟨ho,ho2,?_⟩
  rw[e];exact h2 hw
noncomputable def sIx(n d:Nat):Option Int->Nat
 |none=>d
 |some v=>if v<0 then(v+(n:Int)).toNat else min v.toNat n
def sIx_none(n d:Nat):sIx n d none=d:=rfl
def sIx_nat(n d k:Nat):sIx n d (some (k:Int))=min k n:=by
 show(if(k:Int)<0 then((k:Int)+(n:Int)).toNat else min (k:Int).toNat n)=min k n;rw[xCf (by lia),Int.toNat_natCast]
theorem pP(n d:Nat)(hd:d<=n)(o:Option Int):sIx n d o<=n:=by
 cases o with
 |none=>exact hd
 |some v=>
  show(if v<0 then(v+(n:Int)).toNat else min v.toNat n)<=n;by_cases hv:v<0
  ·rw[xCg hv];lia
  ·rw[xCf hv];exact Nat.min_le_right _ _
def nG(v:Int)(n d:Nat):(if v<0 then max (v+(n:Int)) 0 else min v (n:Int))=((sIx n d<|some v:Nat):Int):=by
 show(if v<0 then max (v+(n:Int)) 0 else min v (n:Int))=(((if v<0 then(v+(n:Int)).toNat else min v.toNat n):Nat):Int);by_cases hv:v<0
 ·simp only[xCg hv];lia
 ·simp only[xCf hv];lia
def l8(lo hi:Option Int)(n:Nat):Builtin.Slice.sliceAdjust lo hi 1 (n:Int)=(((sIx n 0 lo:Nat):Int),((sIx n n hi:Nat):Int)):=by
 have h1:¬ ((1:Int)<0):=by lia
 unfold Builtin.Slice.sliceAdjust;simp only[h1,if_false];refine Prod.ext ?_ ?_
 ·cases lo with
  |none=>rfl
  |some v=>exact nG v n 0
 ·cases hi with
  |none=>rfl
  |some v=>exact nG v n n
def lA(i j:Nat):Builtin.Slice.slicePlaces (i:Int) (j:Int) 1=j-i:=by
 unfold Builtin.Slice.slicePlaces;have h1:(1:Int)>0:=by lia
 simp only[h1,if_true,Int.ediv_one];split <;> lia
theorem g9{v:Value}{o:Option Int}{Q:Option Int->Shared->Prop}(p:IsPart v o)(h:Q o s):wpAny (model prog w) A (Builtin.Slice.slicePartIndex v) Q E s:=by
 cases p with
 |none=>exact slicePart_none h
 |int i t=>exact slicePart_int h
def fg{sl:Addr}{vl vu:Value}{lo hi:Option Int}{n:Nat}{Q:Int×Int×Nat->Shared->Prop}(hs:s.heap.IsSliceOf sl vl vu .none)(pl:IsPart vl lo)(pu:IsPart vu hi)(h:Q (((sIx n 0 lo:Nat):Int),1,sIx n n hi-sIx n 0 lo) s):wpAny (model prog w) A (Builtin.Slice.sliceApplied (.ref sl)<|pure (n:Int)) Q E s:=by
 obtain⟨os,hos,hcs,hds⟩:=id hs;unfold Builtin.Slice.sliceApplied Builtin.Slice.sliceFields;refine xAd<|xAd<|xDa hos hds (x:=vl) rfl<|xAd<|xDa hos hds (x:=vu) rfl<|xAd<|xDa hos hds (x:=.none) rfl<|xAe ?_;refine xAd<|slicePart_none ?_;show wpAny _ _ (if((1:Int)==0)=true then _ else _) _ _ s;rw[xCf<|by decide];refine xAd<|g9 pl<|xAd<|g9 pu<|xAd<|xAe ?_;show wpAny _ _ (match Builtin.Slice.sliceAdjust lo hi 1 (n:Int) with|(lo,hi)=>pure (lo,(1:Int),Builtin.Slice.slicePlaces lo hi 1)) _ _ s;rw[l8 lo hi n];show wpAny _ _ (pure (((sIx n 0 lo:Nat):Int),(1:Int),Builtin.Slice.slicePlaces ((sIx n 0 lo:Nat):Int) ((sIx n n hi:Nat):Int) 1)) _ _ s;rw[lA];exact xAe h
def qo(xs:Array Value)(i k:Nat):((List.range k).filterMap λ(m:Nat)=>xs[((i:Int)+(m:Int)*1).toNat]?).toArray=((xs.toList.drop i).take k).toArray:=by
 have e:(λ(m:Nat)=>xs[((i:Int)+(m:Int)*1).toNat]?)=λm=>xs[i+m]?:=by
  funext m
  have:((i:Int)+(m:Int)*1).toNat=i+m:=by lia
  rw[this]
 rw[e];have:=pick_run xs i k;rw[List.filterMap_map] at this;have e2:((λx=>xs[x]?) ∘ λx=>i+x)=λm=>xs[i+m]?:=rfl;rw[e2] at this;rw[this]
def getItem_tuple_cut{t sl:Addr}{items:Array Value}{vl vu:Value}{lo hi:Option Int}{Q:Value->Shared->Prop}(ht:IsTup s.heap t items)(hs:s.heap.IsSliceOf sl vl vu .none)(pl:IsPart vl lo)(pu:IsPart vu hi)(hw:¬ (sIx items.size 0 lo=0/\sIx items.size items.size hi=items.size))(h:Q (.ref s.heap.objs.size) {s with heap:=s.heap.push {cls:=.type "tuple",data:=.seq ((items.toList.drop<|sIx items.size 0 lo).take<|sIx items.size items.size hi-sIx items.size 0 lo).toArray} })(hsz:items.size<=sizeLine):wpAny (model prog w) A (getItem (.ref t)<|.ref sl) Q E s:=by
 have htake:sizeOk<|.seq ((items.toList.drop<|sIx items.size 0 lo).take<|sIx items.size items.size hi-sIx items.size 0 lo).toArray:=by
  show((items.toList.drop<|sIx items.size 0 lo).take<|sIx items.size items.size hi-sIx items.size 0 lo).toArray.size<=sizeLine;rw[xAp,List.length_take,List.length_drop,Array.length_toList];omega
 have hj:sIx items.size items.size hi<=items.size:=pP _ _ (xAg _) hi;obtain⟨os,hos,hcs,hds⟩:=id hs;have hTs:s.TypeIs (.ref sl) "slice":=⟨os,hos,hcs⟩
 unfold getItem;try with_reducible refine xDc ?_
 first|refine xAd (xAe ?_)|skip
 refine xAd<|wpAny_sequenceKey ht.typeIs (by decide) ?_;refine xAd (wpAny_callSpecial?_slot (name:=Str.ofString "__getitem__") ht.typeIs PyProof.Rows.slot_tuple_getitem
  (wpAny_call_entry PyProof.Rows.slot_tuple_getitem ht.typeIs entry_tuple_getitem ?_<|args_tuple_getitem _ _))
 show wpAny _ _ (Builtin.Tuple.tupleItemsOf (.ref t)>>=_) _ _ s;refine xAd<|tupleItemsOf_ ht ?_;refine xAd<|wpAny_typeOf hTs ?_;rw[xCg<|by decide];refine xAd<|fg hs pl pu ?_;have hno:¬ ((((sIx items.size 0 lo:Nat):Int)==0&&(1:Int)==1&&(sIx items.size items.size hi-sIx items.size 0 lo)==items.size)=true):=by
  intro q;rw[xCh,xCh] at q;have q1:((sIx items.size 0 lo:Nat):Int)=0:=eq_of_beq q.1.1;have q2:sIx items.size items.size hi-sIx items.size 0 lo=items.size:=eq_of_beq q.2;exact hw ⟨by omega,by omega⟩
 show wpAny _ _ (if(((sIx items.size 0 lo:Nat):Int)==0&&(1:Int)==1&&(sIx items.size items.size hi-sIx items.size 0 lo)==items.size)=true then _ else _) _ _ s;rw[xCf hno,qo];first
  |exact xAd (m:=Builtin.Tuple.tupleExact _) (xBl (xAe ⟨_,rfl,xAe h⟩) htake)
  |exact xAd (m:=Builtin.Tuple.tupleExact _) (xBl (xAd<|xAe<|xAe ⟨_,rfl,xAe h⟩) htake)
  |exact xAd (xAd (m:=Builtin.Tuple.tupleExact _)<|xBl (xAe<|xAe ⟨_,rfl,xAe h⟩) htake)
  |exact xAd (xAd (m:=Builtin.Tuple.tupleExact _)<|xBl (xAe ⟨_,rfl,xAe h⟩) htake)
end
end HT
namespace L2
open PySem PySem.Spec PyProof.Rows
variable{n j t':Nat}{i:Int}{α:Type}{s:Shared}{y x:V}{Z:List<|Addr×Obj}{σ:St}{H H':Hp}{w:World}{kvs:List<|Key×V}{Q:Value->Shared->Prop}{h':Heap}{pos:Pos}{trs:List<|TE×TE}
noncomputable abbrev TO:=St->Hp->(Option Int->Hp->Prop)->Prop
def PO(X:Cx)(e:Option Expr)(t:TO):Prop:=
 ∀(Z:List<|Addr×Obj)(s:Shared)(σ:St)(H:Hp)(Q:Option Int->Hp->Prop),Inv X Z σ H s->t σ H Q ->
  wpAny (model X.prog X.w) X.A (evalPart e X.env) (λu s'=>∃o H',Inv X Z σ H' s'/\IsPart u o/\Q o H') X.xe s
def zD1:TO:=λ_ H Q=>Q none H
def zGf(t:TE):TO:=λσ H Q=>t σ H λx H1=>∃i,x=.int i/\Q (some i) H1
section
variable{X:Cx}{e:Expr}{te:TE}{lo hi:Option Expr}{tl th:TO}{pos p2:Pos}
def mE:PO X none zD1:=by
 intro Z s σ H Q I h;rw[evalPart_none];exact xAe ⟨none,H,I,.none,h⟩
def gO(h:PE X e te):PO X (some e)<|zGf te:=by
 intro Z s σ H Q I hw;rw[evalPart_some];refine thn (h Z s σ H _ I hw) λu s1 zz=>?_;obtain⟨x,H1,I1,r1,q1⟩:=zz;obtain⟨i,rfl,q⟩:=q1;obtain⟨t,rfl⟩:=r1;exact⟨some i,H1,I1,.int i t,q⟩
def SlR(X:Cx)(r:V->Option Int->Option Int->Hp->VK->Prop):Prop:=
 ∀(Z:List<|Addr×Obj)(s:Shared)(σ:St)(H:Hp)(x:V)(v vl vu:Value)(lo hi:Option Int)(sl:Addr)(Q:VK),Inv X Z σ H s->zAi x v->s.heap.IsSliceOf sl vl vu .none->IsPart vl lo->IsPart vu hi->r x lo hi H Q ->
  ∃T id,typeLookup (.type T) "__getitem__"=pure (some<|.builtin id)/\s.TypeIs v T/\wpAny (model X.prog X.w) X.A (getItem v<|.ref sl) (EP X Z σ Q) X.xe s
def tSl(r:V->Option Int->Option Int->Hp->VK->Prop)(te:TE)(tl th:TO):TE:=λσ H Q=>te σ H λx H1=>tl σ H1 λl H2=>th σ H2 λu H3=>r x l u H3 Q
def ik{r:V->Option Int->Option Int->Hp->VK->Prop}(hr:SlR X r)(he:PE X e te)(hl:PO X lo tl)(hu:PO X hi th):PE X (.Subscript e (.Slice lo hi none p2) pos)<|tSl r te tl th:=by
 intro Z s σ H Q I h;refine Subscript_ (thn (he Z s σ H _ I h) λv s1 zz=>?_);obtain⟨x,H1,I1,r1,q1⟩:=zz;refine wpAny_Slice (thn (hl Z s1 σ H1 _ I1 q1) λvl s2 ⟨l,H2,I2,pl,q2⟩=>thn (hu Z s2 σ H2 _ I2 q2) λvu s3 zz=>?_);obtain⟨u,H3,I3,pu,q3⟩:=zz;rw[evalPart_none];refine xAe ?_;have I4:Inv X Z σ H3 {s3 with heap:=s3.heap.push {cls:=.type "slice",data:=.fields #[vl,vu,.none]} }:=I3.kept (t':=s3.toks) λb ob q=>xAf _ q;obtain⟨T,id,hT,ht,hg⟩:=hr Z {s3 with heap:=s3.heap.push {cls:=.type "slice",data:=.fields #[vl,vu,.none]} } σ H3 x v vl vu l u s3.heap.objs.size Q I4 r1 (Heap.IsSliceOf.new ..) pl pu q3;show wpAny (model X.prog X.w) X.A (subscriptTail e (.Slice lo hi none p2) v<|.ref s3.heap.objs.size) (EP X Z σ Q) X.xe {s3 with heap:=s3.heap.push {cls:=.type "slice",data:=.fields #[vl,vu,.none]} };exact tail_any (ops:=[.ref s3.heap.objs.size,v]) ht hT hg (by with_unfolding_all rfl)
noncomputable def zDv(xs:List V)(lo hi:Option Int):List V:=(xs.drop<|HT.sIx xs.length 0 lo).take<|HT.sIx xs.length xs.length hi-HT.sIx xs.length 0 lo
def gH(xs:List V)(lo hi:Option Int):(zDv xs lo hi).length<=xs.length:=by
 unfold zDv;rw[List.length_take,List.length_drop];lia
def zHx(K:xFr):V->Option Int->Option Int->Hp->VK->Prop:=λx lo hi H Q=>∃a xs,x=.ref a/\SqT K H a xs /\
 ¬ (HT.sIx xs.length 0 lo=0/\HT.sIx xs.length xs.length hi=xs.length)/\∀p,H p=none->Q (.ref p) (upd H p<|.tup<|zDv xs lo hi)
def lj:SlR X<|zHx X.K:=by
 intro Z s σ H x v vl vu lo hi sl Q I rx hs pl pu h;obtain⟨a,xs,rfl,hx,hw,q⟩:=h;cases rx;obtain⟨its,r,ht,hz⟩:=I.tuple hx;have hlen:its.toArray.size=xs.length:=by rw[xAp];exact r.length.symm
 refine⟨"tuple",_,PyProof.Rows.slot_tuple_getitem.lookup,ht.typeIs,?_⟩;refine HT.getItem_tuple_cut ht hs pl pu (by rw[hlen];exact hw) ?_ (by rw[hlen];exact hz);rw[hlen];refine⟨.ref s.heap.objs.size,_,I.laid (t':=s.toks) (o:=.tup<|zDv xs lo hi) (λb ob q=>xAf _ q) (xAg _) ?_,rfl,q _<|I.hok.fresh<|xAg _⟩;exact⟨xCk (gH xs lo hi) hz,_,(r.drop<|HT.sIx xs.length 0 lo).take<|HT.sIx xs.length xs.length hi-HT.sIx xs.length 0 lo,IsTup.new _ _⟩
def zGv(K:xFr):R2:=λx y H Q=>∃a b xs ys,x=.ref a/\y=.ref b/\SqT K H a xs/\SqT K H b ys/\xs≠[]/\xs.length+ys.length<=sizeLine /\
 (ys=[]->Q (.ref a) H)/\(ys≠[]->∀p,H p=none->Q (.ref p) (upd H p<|.tup<|xs++ys))
theorem zAg.nil_iff{xs:List V}{us:List Value}(r:zAg xs us):us=[]↔xs=[]:=by
 cases r with
 |nil=>simp
 |cons _ _=>simp
def ut:OpR X (binaryOp .Add)<|zGv X.K:=by
 intro Z s σ H x y v u Q I rx ry h;obtain⟨a,b,xs,ys,rfl,rfl,ha,hb,hx,hz,q1,q2⟩:=h;cases rx;cases ry;obtain⟨its,r1,p1,_⟩:=I.tuple ha;obtain⟨its2,r2,p2,_⟩:=I.tuple hb;refine HT.cat_tup p1 p2 (λz=>hx<|r1.nil_iff.mp z) (λz=>⟨.ref a,H,I,rfl,q1<|r2.nil_iff.mp z⟩) (λz=>?_) (by rw[<- r1.length,<- r2.length];exact hz);refine⟨.ref s.heap.objs.size,_,I.laid (t':=s.toks) (o:=.tup<|xs++ys) (λb ob q=>xAf _ q) (xAg _) ?_,rfl,q2 (λw=>z<|r2.nil_iff.mpr w) _<|I.hok.fresh<|xAg _⟩;exact⟨by rw[xAb];exact hz,_,r1.append r2,IsTup.new _ _⟩
end
noncomputable def ixN(n:Nat)(i:Int):Option Nat:=if 0<=i then(if i<n then some i.toNat else none) else if -(n:Int)<=i then some (i+n).toNat else none
noncomputable def atI{α:Type}(xs:List α)(i:Int):Option α:=(ixN xs.length i).bind λj=>xs[j]?
def uM(h:ixN n i=some j):seqIndex? i n=some j/\j<n/\-(n:Int)<=i/\i<n:=by
 unfold ixN at h;by_cases h0:0<=i
 ·rw[xCg h0] at h;by_cases h1:i<n
  ·rw[xCg h1] at h;have e:i.toNat=j:=xB3 h;exact⟨by rw[seqIndex_of h0 h1,e],by lia,by lia,h1⟩
  ·rw[xCf h1] at h;cases h
 ·rw[xCf h0] at h;by_cases h1:-(n:Int)<=i
  ·rw[xCg h1] at h;have e:(i+n).toNat=j:=xB3 h;exact⟨by rw[seqIndex_neg (by lia) h1,e],by lia,h1,by lia⟩
  ·rw[xCf h1] at h;cases h
theorem jU{xs:List α}{v:α}(h:atI xs i=some v):∃j,seqIndex? i xs.length=some j/\xs[j]?=some v/\j<xs.length/\-(xs.length:Int)<=i/\i<xs.length:=by
 unfold atI at h;cases e:ixN xs.length i with
 |none=>rw[e] at h;cases h
 |some j=>
  rw[e] at h;obtain⟨h1,h2,h3,h4⟩:=uM e;exact⟨j,h1,h,h2,h3,h4⟩
def dZ{xs:List α}{v:α}(h:xs[j]?=some v):atI xs (j:Int)=some v:=by
 have hj:j<xs.length:=(xAq.mp h).1;have e:ixN xs.length (j:Int)=some j:=by
  unfold ixN;rw[xCg (by lia),xCg<|by lia];simp
 unfold atI;rw[e];exact h
def zCl(b:Expr):Prop:=∀o i,subscripted b false o i=operate [o,i] (getItem o i)
def IxR(X:Cx)(r:R2):Prop:=
 ∀(value slice:Expr)(Z:List<|Addr×Obj)(s:Shared)(σ:St)(H:Hp)(x y:V)(v u:Value)(Q:VK),Inv X Z σ H s->zAi x v->zAi y u->r x y H Q ->
  subscripted slice false v u=operate [v,u] (getItem v u)->wpAny (model X.prog X.w) X.A (subscriptTail value slice v u) (EP X Z σ Q) X.xe s
def MtR(X:Cx)(id:String)(r:V->List V->Hp->VK->Prop):Prop:=
 ∀(Z:List<|Addr×Obj)(s:Shared)(σ:St)(H:Hp)(x:V)(xs:List V)(v:Value)(us:List Value)(Q:VK),Inv X Z σ H s->zAi x v->zAg xs us->r x xs H Q ->
  wpAny (model X.prog X.w) X.A (call (.builtin id)<|v::us) (EP X Z σ Q) X.xe s
section
variable{X:Cx}{a b:Expr}{ta tb:TE}{pos:Pos}
def IxR.or{r r':R2}(h:IxR X r)(h':IxR X r'):IxR X λx y H Q=>r x y H Q\/r' x y H Q:=by
 intro value slice Z s σ H x y v u Q I rx ry q hs;rcases q with q|q
 ·exact h value slice Z s σ H x y v u Q I rx ry q hs
 ·exact h' value slice Z s σ H x y v u Q I rx ry q hs
def zu{r:R2}(hr:IxR X r)(ha:PE X a ta)(hb:PE X b tb)(hs:zCl b):PE X (.Subscript a b pos)<|tOp r ta tb:=by
 intro Z s σ H Q I h;exact Subscript_ (zHf ha hb I h λv u s2 x y H2 I2 rx ry q=>hr a b Z s2 σ H2 x y v u Q I2 rx ry q<|hs _ _)
def zH5(K:xFr):R2:=λx y H Q=>∃p xs i v,x=.ref p/\y=.int i/\SqL K H p xs/\atI xs i=some v/\Q v H
def zH3(K:xFr):R2:=λx y H Q=>∃p xs i v,x=.ref p/\y=.int i/\SqT K H p xs/\atI xs i=some v/\Q v H
def zH4:R2:=λx y H Q=>∃z i c,x=.str z/\y=.int i/\z.length<=sizeLine/\atI z.cps.toList i=some c/\Q (.str ⟨#[c]⟩) H
def uK:IxR X<|zH5 X.K:=by
 intro value slice Z s σ H x y v u Q I rx ry h hs;obtain⟨p,xs,i,z,rfl,rfl,hq,he,q⟩:=h;cases rx;obtain⟨t,rfl⟩:=ry;obtain⟨its,r,pl,hz⟩:=I.list hq;obtain⟨j,h1,h2,h3,h4,h5⟩:=jU he;obtain⟨w,ew,rw'⟩:=r.get h2;have hl:=r.length;have hn:=zBp;have fin:EP X Z σ Q w s:=⟨z,H,I,rw',q⟩
 by_cases h0:0<=i
 ·have hj:i.toNat=j:=by
   rw[seqIndex_of h0 h5] at h1;exact xB3 h1
  exact item_listR pl.isList h0 (by lia) (by rw[hj];simpa using ew) fin hs
 ·have hj:(i+(its.toArray.size:Int)).toNat=j:=by
   rw[seqIndex_neg (by lia) h4] at h1;rw[xAp,<- hl];exact xB3 h1
  exact subscriptTail_builtinR (x:=w) pl.isList.typeIs slot_list_getitem.lookup
   (wpAny_getItem_list_neg (Q:=λr s'=>r=w/\EP X Z σ Q r s') pl.isList (by lia) (by rw[xAp] <;> lia) (by lia) (by rw[hj];simpa using ew) ⟨rfl,fin⟩) hs
def xU:IxR X<|zH3 X.K:=by
 intro value slice Z s σ H x y v u Q I rx ry h hs;obtain⟨p,xs,i,z,rfl,rfl,hq,he,q⟩:=h;cases rx;obtain⟨t,rfl⟩:=ry;obtain⟨its,r,pl,hz⟩:=I.tuple hq;obtain⟨j,h1,h2,h3,h4,h5⟩:=jU he;obtain⟨w,ew,rw'⟩:=r.get h2;have hl:=r.length;have hn:=zBp;have fin:EP X Z σ Q w s:=⟨z,H,I,rw',q⟩
 exact subscriptTail_builtinR (x:=w) pl.typeIs slot_tuple_getitem.lookup
  (getItem_tuple (j:=j) (Q:=λr s'=>r=w/\EP X Z σ Q r s') pl (by lia) (by lia) (by rw[xAp,<- hl];exact h1) (by simpa using ew) ⟨rfl,fin⟩) hs
def xV:IxR X zH4:=by
 intro value slice Z s σ H x y v u Q I rx ry h hs;obtain⟨z,i,c,rfl,rfl,hz,he,q⟩:=h;obtain⟨t,rfl⟩:=rx;obtain⟨t',rfl⟩:=ry;obtain⟨j,h1,h2,h3,h4,h5⟩:=jU he;have hl:z.cps.toList.length=z.length:=by simp[Str.length]
 rw[hl] at h1 h4 h5;have hn:=zBp;exact tail_any (typeIs_str s z t) slot_str_getitem.lookup (getItem_str (c:=c) (by
  have e1:decide (i < -(2^63:Int))=false:=xCn (by lia);have e2:decide (i >= 2^63)=false:=xCn (by lia);rw[e1,e2,Bool.or_false]) (by rw[h1];simpa using h2) ⟨.str ⟨#[c]⟩,H,I.tok _,⟨_,rfl⟩,q⟩) hs
def rIx(K:xFr):R2:=λx y H Q=>zH5 K x y H Q\/zH3 K x y H Q\/zH4 x y H Q
def xW:IxR X<|rIx X.K:=uK.or<|xU.or xV
def jr(lo hi:Option Int)(n:Nat):(sliceBounds lo hi none n).1=((HT.sIx n 0 lo:Nat):Int)/\(sliceBounds lo hi none n).2.1=((HT.sIx n n hi:Nat):Int)/\(sliceBounds lo hi none n).2.2=1:=by
 refine⟨?_,?_,rfl⟩
 ·cases lo with
  |none=>simp[sliceBounds,HT.sIx]
  |some i=>
   simp only[sliceBounds,HT.sIx,Option.getD_none,show(1:Int)>0 by decide,if_true];by_cases h:i<0
   ·simp only[h,if_true] <;> lia
   ·simp only[h,if_false] <;> lia
 ·cases hi with
  |none=>simp[sliceBounds,HT.sIx]
  |some i=>
   simp only[sliceBounds,HT.sIx,Option.getD_none,show(1:Int)>0 by decide,if_true];by_cases h:i<0
   ·simp only[h,if_true] <;> lia
   ·simp only[h,if_false] <;> lia
def iP(its:List Value)(lo hi:Option Int):slicePick its.toArray lo hi none=((its.drop<|HT.sIx its.length 0 lo).take<|HT.sIx its.length its.length hi-HT.sIx its.length 0 lo).toArray:=by
 obtain⟨h1,h2,h3⟩:=jr lo hi its.toArray.size;unfold slicePick;rw[h1,h2,h3];simp only[sliceRange_one,pick_run,xAp] <;> rfl
def zHy(K:xFr):V->Option Int->Option Int->Hp->VK->Prop:=λx lo hi H Q=>∃a xs,x=.ref a/\SqL K H a xs/\∀p,H p=none->Q (.ref p) (upd H p<|.lst<|zDv xs lo hi)
def ju:SlR X<|zHy X.K:=by
 intro Z s σ H x v vl vu lo hi sl Q I rx hs pl pu h;obtain⟨a,xs,rfl,hx,q⟩:=h;cases rx;obtain⟨its,r,ht,hz⟩:=I.list hx;have hlen:=r.length;refine⟨"list",_,slot_list_getitem.lookup,ht.isList.typeIs,?_⟩;refine wpAny_getItem_list_slice ht.isList hs pl pu .none (by simp) ?_ (by rw[xAp] <;> lia);rw[iP,<- hlen];refine⟨.ref s.heap.objs.size,_,I.laid (t':=s.toks) (o:=.lst<|zDv xs lo hi) (λb ob q=>xAf _ q) (xAg _) ?_,rfl,q _<|I.hok.fresh<|xAg _⟩;exact⟨xCk (gH xs lo hi) hz,_,0,(r.drop<|HT.sIx xs.length 0 lo).take<|HT.sIx xs.length xs.length hi-HT.sIx xs.length 0 lo,xAl _ rfl⟩
noncomputable def zBk:V->Bool
 |.non=>true
 |.bl _=>true
 |.int _=>true
 |.str _=>true
 |_=>false
noncomputable def eqV:V->V->Bool
 |.non,.non=>true
 |.bl a,.bl b=>a==b
 |.bl a,.int b=>(if a then 1 else 0)==b
 |.int a,.bl b=>a==(if b then 1 else 0)
 |.int a,.int b=>a==b
 |.str a,.str b=>a==b
 |_,_=>false
theorem sf{A:Around}{u v:Value}(ry:zAi y u)(rx:zAi x v)(fy:zBk y=true)(fx:zBk x=true):SeqAt.EqAt A s u v<|eqV y x:=by
 cases y with
 |non=>
  cases ry;cases x with
  |non=>cases rx;exact SeqAt.EqAt.same _
  |bl b=>cases rx;exact SeqAt.EqAt.none_bool b
  |int b=>obtain⟨t,rfl⟩:=rx;exact SeqAt.EqAt.none_int b t
  |str b=>obtain⟨t,rfl⟩:=rx;exact SeqAt.EqAt.none_str b t
  |_=>exact absurd (show false=true from fx) xAy
 |bl a=>
  cases ry;cases x with
  |non=>cases rx;exact SeqAt.EqAt.bool_none a
  |bl b=>cases rx;exact SeqAt.EqAt.bool_bool a b
  |int b=>obtain⟨t,rfl⟩:=rx;exact SeqAt.EqAt.bool_int a b t
  |str b=>obtain⟨t,rfl⟩:=rx;exact SeqAt.EqAt.bool_str a b t
  |_=>exact absurd (show false=true from fx) xAy
 |int a=>
  obtain⟨t',rfl⟩:=ry;cases x with
  |non=>cases rx;exact SeqAt.EqAt.int_none a t'
  |bl b=>cases rx;exact SeqAt.EqAt.int_bool a t' b
  |int b=>obtain⟨t,rfl⟩:=rx;exact SeqAt.EqAt.int_int a t' b t
  |str b=>obtain⟨t,rfl⟩:=rx;exact SeqAt.EqAt.int_str a t' b t
  |_=>exact absurd (show false=true from fx) xAy
 |str a=>
  obtain⟨t',rfl⟩:=ry;cases x with
  |non=>cases rx;exact SeqAt.EqAt.str_none a t'
  |bl b=>cases rx;exact SeqAt.EqAt.str_bool a t' b
  |int b=>obtain⟨t,rfl⟩:=rx;exact SeqAt.EqAt.str_int a t' b t
  |str b=>obtain⟨t,rfl⟩:=rx;exact SeqAt.EqAt.str_str a t' b t
  |_=>exact absurd (show false=true from fx) xAy
 |_=>exact absurd (show false=true from fy) xAy
noncomputable def eqU(x:V)(u:Value):Bool:=match u with
 |.none=>eqV .non x
 |.bool b=>eqV (.bl b) x
 |.int i _=>eqV (.int i) x
 |.str z _=>eqV (.str z) x
 |_=>false
theorem rZ{u:Value}(r:zAi y u)(f:zBk y=true):eqU x u=eqV y x:=by
 cases y with
 |non=>cases r;rfl
 |bl b=>cases r;rfl
 |int i=>obtain⟨t,rfl⟩:=r;rfl
 |str z=>obtain⟨t,rfl⟩:=r;rfl
 |_=>exact absurd (show false=true from f) xAy
theorem gc{x:V}:∀{xs:List V}{us:List Value},zAg xs us->xs.all zBk=true->us.any (eqU x)=xs.any λy=>eqV y x
 |_,_,.nil,_=>rfl
 |y::xs,u::us,.cons r t,f=>by
  rw[xCj,xCh] at f;rw[List.any_cons,List.any_cons,rZ r f.1,gc t f.2]
theorem fG{A:Around}{s:Shared}{x:V}{v:Value}(rx:zAi x v)(fx:zBk x=true):∀{xs:List V}{us:List Value},zAg xs us->xs.all zBk=true->∀u∈us,SeqAt.EqAt A s u v (eqU x u)
 |_,_,.nil,_=>λu hu=>by cases hu
 |y::xs,u::us,.cons r t,f=>λu' hu=>by
  rw[xCj,xCh] at f;rcases xAv.mp hu with rfl|hu
  ·rw[rZ r f.1];exact sf r rx f.1 fx
  ·exact fG rx fx t f.2 u' hu
noncomputable def inV(x:V)(xs:List V):Bool:=xs.any λy=>eqV y x
def rIn(K:xFr)(neg:Bool):R2:=λx y H Q=>∃p xs,y=.ref p/\(SqL K H p xs\/SqT K H p xs)/\zBk x=true/\xs.all zBk=true/\Q (.bl<|if neg then !inV x xs else inV x xs) H
def ox:OpR X (compareOp .In)<|rIn X.K false:=by
 intro Z s σ H x y v u Q I rx ry h;obtain⟨p,xs,rfl,hq,fx,fs,q⟩:=h;cases ry;rcases hq with hq|hq
 ·obtain⟨its,r,pl,hz⟩:=I.list hq;refine SeqAt.in_listAt (eqU x) pl.isList (λw hw=>fG rx fx r fs w<|by simpa using hw) ⟨.bl _,H,I,rfl,?_⟩;rw[show its.toArray.any (eqU x)=its.any (eqU x) by simp,gc r fs];exact q
 ·obtain⟨its,r,pl,hz⟩:=I.tuple hq;refine SeqAt.in_tupleAt (eqU x) pl (λw hw=>fG rx fx r fs w<|by simpa using hw) ⟨.bl _,H,I,rfl,?_⟩;rw[show its.toArray.any (eqU x)=its.any (eqU x) by simp,gc r fs];exact q
def jB:OpR X (compareOp .NotIn)<|rIn X.K true:=by
 intro Z s σ H x y v u Q I rx ry h;obtain⟨p,xs,rfl,hq,fx,fs,q⟩:=h;cases ry;rcases hq with hq|hq
 ·obtain⟨its,r,pl,hz⟩:=I.list hq;refine SeqAt.notIn_listAt (eqU x) pl.isList (λw hw=>fG rx fx r fs w<|by simpa using hw) ⟨.bl _,H,I,rfl,?_⟩;rw[show its.toArray.any (eqU x)=its.any (eqU x) by simp,gc r fs];exact q
 ·obtain⟨its,r,pl,hz⟩:=I.tuple hq;refine SeqAt.notIn_tupleAt (eqU x) pl (λw hw=>fG rx fx r fs w<|by simpa using hw) ⟨.bl _,H,I,rfl,?_⟩;rw[show its.toArray.any (eqU x)=its.any (eqU x) by simp,gc r fs];exact q
def jT:zAl X (.type "list") λxs H Q=>∃p ys,xs=[.ref p]/\(SqL X.K H p ys\/SqT X.K H p ys)/\∀l,H l=none->Q (.ref l) (upd H l<|.lst ys):=by
 intro Z s σ H xs us Q I r h;obtain⟨p,ys,rfl,hq,q⟩:=h;obtain⟨u,rfl,rx⟩:=zBm r;cases rx;have fin:∀(its:List Value),zAg ys its->ys.length<=sizeLine->∀(h':Heap)(c':Nat),(∀b o',s.heap.get? b=some o'->h'.get? b=some o') ->
   h'.get? s.heap.objs.size=some {cls:=.type "list",dict:=none,data:=.seq its.toArray c',slots:=#[]}->EP X Z σ Q (.ref s.heap.objs.size) {s with heap:=h'}:=λits r' hz h' c' kp e=>
  ⟨.ref s.heap.objs.size,_,I.laid (t':=s.toks) kp (xAg _)<|show zAc X.prog X.w _ h' _ (.lst ys) from⟨hz,its,c',r',e⟩,rfl,q _<|I.hok.fresh<|xAg _⟩
 rcases hq with hq|hq
 ·obtain⟨its,r',pl,hz⟩:=I.list hq;have hlen:=r'.length;obtain⟨o,ho,hc,n,hd⟩:=pl.isList;exact call_list_seq p (.inl rfl) ho hc hd (λh' c' kp e=>fin its r' hz h' c' kp e) (by simp only[xAp] <;> lia)
 ·obtain⟨its,r',pl,hz⟩:=I.tuple hq;have hlen:=r'.length;obtain⟨o,ho,hc,n,hd⟩:=pl;exact call_list_seq p (.inr rfl) ho hc hd (λh' c' kp e=>fin its r' hz h' c' kp e) (by simp only[xAp] <;> lia)
def iT:zAl X (.type "tuple") λxs H Q=>∃p ys,xs=[.ref p]/\((SqL X.K H p ys/\∀l,H l=none->Q (.ref l) (upd H l<|.tup ys))\/(SqT X.K H p ys/\Q (.ref p) H)):=by
 intro Z s σ H xs us Q I r h;obtain⟨p,ys,rfl,h⟩:=h;obtain⟨u,rfl,rx⟩:=zBm r;cases rx;rcases h with ⟨hq,q⟩|⟨hq,q⟩
 ·obtain⟨its,r',pl,hz⟩:=I.list hq;have hlen:=r'.length;refine call_tuple_list pl.isList (λh' kp=>?_) (by simp only[xAp] <;> lia);have I1:Inv X Z σ H {s with heap:=h'}:=I.kept (t':=s.toks) kp;have I2:Inv X Z σ (upd H h'.objs.size<|.tup ys) {s with heap:=h'.push {cls:=.type "tuple",data:=.seq its.toArray} }:=
   I1.laid (t':=s.toks) (λb o e=>xAf _ e) (xAg _) (show zAc X.prog X.w _ _ _ (.tup ys) from⟨hz,its,r',IsTup.new _ _⟩)
  exact⟨.ref h'.objs.size,_,I2,rfl,q _<|I1.hok.fresh<|xAg _⟩
 ·obtain⟨its,r',pl,hz⟩:=I.tuple hq;exact call_tuple_same pl ⟨.ref p,H,I,rfl,q⟩
def tyV(K:xFr)(T:String)(x:V)(H:Hp):Prop:=match x with
 |.str _=>T="str"
 |.int _=>T="int"
 |.ref p=>(T="list"/\∃xs,SqL K H p xs)\/(T="tuple"/\∃o,K.lookup p=some o/\o.cls=.type "tuple"/\o.dict=none) \/
   (T="dict"/\((∃kvs,H p=some (.dK kvs))\/∃kvs,H p=some (.dT kvs)))\/(T="set"/\∃S n,H p=some (.set S n))
 |_=>False
theorem pA{T:String}{v:Value}(I:Inv X Z σ H s)(r:zAi x v)(ty:tyV X.K T x H) :
  s.TypeIs v T/\∀a,v=.ref a->∃ob,s.heap.get? a=some ob/\ob.dict=none:=by
 cases x with
 |str z=>
  obtain⟨t,rfl⟩:=r;cases (show T="str" from ty);exact⟨typeIs_str s z t,λ_ e=>nomatch e⟩
 |int i=>
  obtain⟨t,rfl⟩:=r;cases (show T="int" from ty);exact⟨typeIs_int s i t,λ_ e=>nomatch e⟩
 |ref p=>
  cases r;rcases ty with ⟨rfl,xs,hq⟩|⟨rfl,o,hk,hc,hd⟩|⟨rfl,hk⟩|⟨rfl,S,n,hk⟩
  ·obtain⟨its,_,pl,_⟩:=I.list hq;refine⟨pl.isList.typeIs,λa e=>?_⟩;cases e;obtain⟨o,n,e,c,hd,_⟩:=pl;exact⟨o,e,hd⟩
  ·refine⟨⟨o,I.kIn p o hk,hc⟩,λa e=>?_⟩;cases e;exact⟨o,I.kIn _ o hk,hd⟩
  ·have z:∃o,s.heap.get? p=some o/\o.ExactDict:=by
    rcases hk with ⟨kvs,hk⟩|⟨kvs,hk⟩
    ·obtain⟨_,_,_,_,o,_,_,e,ex,_⟩:=I.hok p _ hk;exact⟨o,e,ex⟩
    ·obtain⟨_,_,_,_,o,_,_,e,ex,_⟩:=I.hok p _ hk;exact⟨o,e,ex⟩
   obtain⟨o,e,ex⟩:=z;refine⟨⟨o,e,ex.1⟩,λa e2=>?_⟩;cases e2;exact⟨o,e,ex.2.1⟩
  ·obtain⟨o,_,_,_,e,ex,_⟩:=I.hok p _ hk;refine⟨⟨o,e,ex.1⟩,λa e2=>?_⟩;cases e2;exact⟨o,e,ex.2.1⟩
 |_=>exact False.elim ty
def zHw(K:xFr)(T:String)(r:V->List V->Hp->VK->Prop)(to:TE):TE:=λσ H Q=>to σ H λx H1=>tyV K T x H1/\r x [] H1 Q
def tBM(K:xFr)(T:String)(r:V->List V->Hp->VK->Prop)(to:TE)(t:TA):TE:=λσ H Q=>to σ H λx H1=>tyV K T x H1/\t σ H1 λxs H2=>r x xs H2 Q
variable{o e:Expr}{es:List Expr}{to:TE}{t:TA}{name:Str}{apos cpos:Pos}{T id:String}{r:V->List V->Hp->VK->Prop}
def xk(pa:PlainAttrs T)(slot:Slot T name id)(hty:typeOf (.builtin id)=pure (.type "method_descriptor"))(hm:MtR X id r)(ho:PE X o to)(hbase:attributeBase o name X.env (eval o X.env)=eval o X.env:=by rfl)(hline:(apos.endLine==cpos.line)=true:=by rfl):PE X (.Call (.Attribute o name apos) [] [] cpos)<|zHw X.K T r to:=by
 intro Z s σ H Q I h;refine wpAny_Call_method0_late hbase hline (thn (ho Z s σ H _ I h) λv s1 zz=>?_);obtain⟨x,H1,I1,r1,ty,q1⟩:=zz;obtain⟨h1,h2⟩:=pA I1 r1 ty;exact⟨T,id,pa,slot,hty,h1,h2,Calls.callWith_builtin rfl<|PySem.evalArgs_none<|hm Z s1 σ H1 x [] v [] Q I1 r1 .nil q1⟩
def zv(pa:PlainAttrs T)(slot:Slot T name id)(hty:typeOf (.builtin id)=pure (.type "method_descriptor"))(hm:MtR X id r)(ho:PE X o to)(ha:PA X (e::es) t)(hbase:attributeBase o name X.env (eval o X.env)=eval o X.env:=by rfl)(hfew:((backTo cpos<|starEach (e::es) X.env).all (λx=>!x.1) && (backToKw cpos<|keywordEach [] X.env).all (λx=>x.1.isSome)
   && decide ((e::es).length+([]:List Keyword).length+(if([]:List Keyword).isEmpty then 0 else 1)<30))=true:=by rfl)(hline:(apos.endLine==cpos.line)=true:=by rfl)(hs:starEach (e::es) X.env=(false,eval e X.env)::starEach es X.env:=by rfl)(hplain:(backTo cpos<|starEach es X.env).any (·.1)=false:=by rfl) :
  PE X (.Call (.Attribute o name apos) (e::es) [] cpos) (tBM X.K T r to t):=by
 intro Z s σ H Q I h;refine wpAny_Call_method_late hbase hfew hline rfl (thn (ho Z s σ H _ I h) λv s1 zz=>?_);obtain⟨x,H1,I1,r1,ty,q1⟩:=zz;obtain⟨h1,h2⟩:=pA I1 r1 ty;refine⟨T,id,pa,slot,hty,h1,h2,?_⟩;have hA:=ha cpos Z s1 σ H1 _ I1 q1;rw[hs] at hA⊢;refine Calls.callWith_builtin (by show(false||(backTo cpos<|starEach es X.env).any (·.1))=false;rw[hplain] <;> rfl)<|Calls.evalArgs_plain ?_;exact thn hA λus s2 ⟨vs,H2,I2,r2,q2⟩=>hm Z s2 σ H2 x vs v us Q I2 r1 r2 q2
end
def MtM(X:Cx)(id:String)(r:V->List V->Hp->VK->Prop):Prop:=
 ∀(Z:List<|Addr×Obj)(s:Shared)(σ:St)(H:Hp)(x:V)(xs:List V)(v:Value)(us:List Value)(Q:VK),Inv X Z σ H s->zAi x v->zAg xs us->r x xs H Q ->
  wpAny (model X.prog X.w) X.A (call (.builtin id)<|v::us) (EP X Z σ Q) X.xe s
theorem zAg.one:∀{x:V}{us:List Value},zAg [x] us->∃u,us=[u]/\zAi x u
 |_,_,.cons r .nil=>⟨_,rfl,r⟩
theorem zAg.zero:∀{us:List Value},zAg [] us->us=[]
 |_,.nil=>rfl
theorem zAg.dropLast{xs:List V}{us:List Value}(h:zAg xs us):zAg xs.dropLast us.dropLast:=by
 induction h with
 |nil=>exact .nil
 |cons r t ih=>
  cases t with
  |nil=>exact .nil
  |cons q t'=>exact .cons r ih
theorem zAg.rep{xs:List V}{us:List Value}(h:zAg xs us):∀k:Nat,zAg (List.replicate k xs).flatten (List.replicate k us).flatten
 |0=>.nil
 |k+1=>by
  rw[List.replicate_succ,List.replicate_succ,List.flatten_cons,List.flatten_cons];exact zAg.append h<|zAg.rep h k
theorem lP(l:List α):l.eraseIdx (l.length-1)=l.dropLast:=by
 induction l with
 |nil=>rfl
 |cons a r ih=>
  cases r with
  |nil=>rfl
  |cons b r=>
   have e:(a::b::r).length-1=((b::r).length-1)+1:=by
    have h1:(a::b::r).length=r.length+2:=rfl;have h2:(b::r).length=r.length+1:=rfl;lia
   rw[e,List.eraseIdx_cons_succ,ih];all_goals rfl
theorem je(its:List Value):∀(k:Nat)(acc:List Value),
  List.foldl (λx1 x2=>x1++x2) acc.toArray (List.replicate k its.toArray)=(acc++(List.replicate k its).flatten).toArray
 |0,acc=>by simp
 |k+1,acc=>by
  have e:acc.toArray++its.toArray=(acc++its).toArray:=by simp
  have e2:(acc++its)++(List.replicate k its).flatten=acc++(List.replicate (k+1) its).flatten:=by
   rw[List.replicate_succ,List.flatten_cons,xAx]
  rw[<- e2,<- je its k (acc++its),<- e,List.replicate_succ,List.foldl_cons]
section
variable{X:Cx}{Z:List<|Addr×Obj}{σ:St}{H:Hp}{s:Shared}{l b:Addr}{xs ys zs:List V}
def Inv.lset{its its':List Value}{f:Array Value->Array Value}(I:Inv X Z σ H s)(hH:H l=some (.lst xs))(e:s.heap.get? l=some {cls:=.type "list",data:=.seq its.toArray n})(hf:f its.toArray=its'.toArray)(hv:zAg ys its')(hz:ys.length<=sizeLine) :
  Inv X Z σ (upd H l<|.lst ys) {s with heap:=s.heap.update l<|Obj.mapSeq f,toks:=t'}:=by
 have q:=PySem.IsL.update e f;rw[hf] at q;refine I.write (x:=l) (e:=l) (by rw[hH];exact trivial) (.inl rfl) (λb' u hb hu=>(xA6 s.heap (Obj.mapSeq f)<|Ne.symm hb).trans hu) ⟨_,q⟩ ?_;exact⟨hz,its',_,hv,q⟩
def Inv.lnew{its:List Value}(I:Inv X Z σ H s)(hv:zAg ys its)(hz:ys.length<=sizeLine) :
  Inv X Z σ (upd H s.heap.objs.size<|.lst ys) {s with heap:=s.heap.push {cls:=.type "list",data:=.seq its.toArray},toks:=t'}:=
 I.laid (λ_ _ q=>xAf _ q) (xAg _) ⟨hz,its,0,hv,xAl _ rfl⟩
theorem Inv.fresh(I:Inv X Z σ H s):H s.heap.objs.size=none:=I.hok.fresh<|xAg _
def Inv.lstM(I:Inv X Z σ H s)(hH:H l=some (.lst xs)):xs.length<=sizeLine/\∃(its:List Value) (n:Nat),zAg xs its/\xs.length=its.length/\s.heap.get? l=some {cls:=.type "list",data:=.seq its.toArray n}:=by
 obtain⟨z,its,n,r,e⟩:=I.hok l _ hH;exact⟨z,its,n,r,r.length,e⟩
def zDi(h:n<=sizeLine):Builtin.List.listTooLong n=false:=by
 unfold Builtin.List.listTooLong;exact xCn (by lia)
end
section
variable{X:Cx}
def zC6:V->List V->Hp->VK->Prop:=λx vs H Q=>∃l xs y,x=.ref l/\vs=[y]/\H l=some (.lst xs)/\xs.length<sizeLine/\Q .non (upd H l<|.lst<|xs++[y])
def iX:MtM X "list.append" zC6:=by
 intro Z s σ H x vs v us Q I rx rv h;obtain⟨l,xs,y,rfl,rfl,hH,hz,q⟩:=h;cases rx;obtain⟨u,rfl,ru⟩:=rv.one;obtain⟨z,its,n,r,hl,e⟩:=I.lstM hH;refine call_meets F.slot_list_append ⟨_,e,rfl⟩ F.entry_list_append (F.args_list_append_2 _ _) (PySem.list_append l its.toArray n u<|by rw[xAp];lia) ⟨e,?_⟩;refine⟨.non,_,I.lset (its':=its++[u]) hH e (by simp) (r.append<|.cons ru .nil) ?_,rfl,q⟩;rw[xAb,xAt];lia
def zH1:V->List V->Hp->VK->Prop:=λx vs H Q=>∃l xs y,x=.ref l/\vs=[]/\H l=some (.lst xs)/\xs[xs.length-1]?=some y/\Q y (upd H l<|.lst xs.dropLast)
def xE:MtM X "list.pop" zH1:=by
 intro Z s σ H x vs v us Q I rx rv h;obtain⟨l,xs,y,rfl,rfl,hH,hy,q⟩:=h;cases rx;have hus:=rv.zero;subst hus;obtain⟨z,its,n,r,hl,e⟩:=I.lstM hH;obtain⟨u,hu,ru⟩:=r.get hy;have hy':its.toArray[its.toArray.size-1]?=some u:=by
  show its.toArray[its.length-1]?=some u;rw[<- Array.getElem?_toList,<- hl];exact hu
 refine call_meets F.slot_list_pop ⟨_,e,rfl⟩ F.entry_list_pop (F.args_list_pop_1 _) (MeetsSeq.list_pop_last l its.toArray n u hy'<|by rw[xAp];lia) ⟨e,?_⟩;refine⟨y,_,I.lset (its':=its.dropLast) hH e ?_ r.dropLast ?_,ru,q⟩
 ·show its.toArray.eraseIdxIfInBounds (its.toArray.size-1)=its.dropLast.toArray;rw[xAp,List.eraseIdxIfInBounds_toArray,lP]
 ·rw[List.length_dropLast];lia
def zH9:R2:=λx y H Q=>∃l b xs zs,x=.ref l/\y=.ref b/\H l=some (.lst xs)/\H b=some (.lst zs)/\xs.length+zs.length<=sizeLine/\∀p,H p=none->Q (.ref p) (upd H p<|.lst<|xs++zs)
def xA:OpR X (binaryOp .Add) zH9:=by
 intro Z s σ H x y v u Q I rx ry h;obtain⟨l,b,xs,zs,rfl,rfl,hH,hB,hz,q⟩:=h;cases rx;cases ry;obtain⟨z,its,n,r,hl,e⟩:=I.lstM hH;obtain⟨z2,its2,n2,r2,hl2,e2⟩:=I.lstM hB;refine PySem.P.add_list e e2 ?_ (by rw[xAp,xAp];lia);have ea:its.toArray++its2.toArray=(its++its2).toArray:=by simp
 rw[ea];exact⟨.ref _,_,I.lnew (t':=s.toks) (r.append r2) (by rw[xAb];lia),rfl,q _ I.fresh⟩
def zH0:R2:=λx y H Q=>∃l k xs,x=.ref l/\y=.int k/\H l=some (.lst xs)/\-(2^63)<=k/\k<2^63/\xs.length*k.toNat<=sizeLine /\
 ∀p,H p=none->Q (.ref p) (upd H p<|.lst (List.replicate k.toNat xs).flatten)
theorem uE(xs:List α)(k:Nat):(List.replicate k xs).flatten.length=k*xs.length:=by
 induction k with
 |zero=>simp
 |succ k ih=>rw[List.replicate_succ,List.flatten_cons,xAb,ih,Nat.succ_mul,Nat.add_comm]
def xt:OpR X (binaryOp .Mult) zH0:=by
 intro Z s σ H x y v u Q I rx ry h;obtain⟨l,k,xs,rfl,rfl,hH,h1,h2,hz,q⟩:=h;cases rx;obtain⟨t,rfl⟩:=ry;obtain⟨z,its,n,r,hl,e⟩:=I.lstM hH;have hlen:its.toArray.size*k.toNat<=sizeLine:=by rw[xAp,<- hl];exact hz
 have hcap:¬ its.toArray.size*k.toNat>(2^63-1) / 8:=by
  have:(sizeLine:Nat)<=(2^63-1) / 8:=by decide
  lia
 have hfit:¬ (!Builtin.List.listFitsIndex k)=true:=by
  rw[fitsIndex_both h1 h2];exact xAy
 have hlong:¬ Builtin.List.listTooLong (its.toArray.size*k.toNat)=true:=by
  rw[zDi hlen];exact xAy
 have hnew:List.foldl (λx1 x2=>x1++x2) #[] (List.replicate (if its.toArray.isEmpty=true then 0 else k.toNat) its.toArray)=(List.replicate k.toNat its).flatten.toArray:=by
  have f0:∀m:Nat,List.foldl (λx1 x2=>x1++x2) #[] (List.replicate m its.toArray)=(List.replicate m its).flatten.toArray:=λm=>by
   have:=je its m [];rw[xC6] at this;exact this
  rw[f0];cases its with
  |nil=>simp
  |cons a r'=>rw[xCf<|by simp]
 refine wpAny_binaryOp_repeat_ref (T:="list") (U:="int") (by decide) ⟨_,e,rfl⟩ (λs'=>typeIs_int s' k t) noFill_list_mul F.fills_int_mul F.slot_int_rmul repeat_list F.slot_int_index.lookup
  (call_meets F.slot_int_rmul (typeIs_int s k t) F.entry_int_rmul (F.args_int_rmul_2 _ _) (int___rmul___int_list k t l its.toArray n)
   ⟨e,rfl,⟨_,e,rfl⟩,call_meets F.slot_list_mul ⟨_,e,rfl⟩ F.entry_list_mul (F.args_list_mul_2 _ _) (AutoListH.list___mul___list_int_3 l its.toArray n k t hfit hcap hlong) ⟨e,?_⟩⟩)
 rw[hnew];exact⟨.ref _,_,I.lnew (t':=s.toks) (r.rep k.toNat) (by rw[uE,Nat.mul_comm];exact hz),rfl,q _ I.fresh⟩
end
section
variable{prog:Program}{w:World}{A:Around}{E:Value->Shared->Prop}{s:Shared}
set_option maxRecDepth 100000 in
end
section
variable{κ:Type} [DecidableEq κ]
noncomputable def zCm(kvs:List<|κ×V)(k:κ):Option V:=(kvs.find? λkv=>decide<|kv.1=k).map (·.2)
noncomputable def putK(kvs:List<|κ×V)(k:κ)(v:V):List<|κ×V:=
 if(kvs.any λkv=>decide<|kv.1=k)=true then kvs.map (λkv=>if kv.1=k then(kv.1,v) else kv) else kvs++[(k,v)]
def fV{p:κ×V}{r:List<|κ×V}{k:κ}(e:p.1=k):zCm (p::r) k=some p.2:=by simp[zCm,List.find?_cons,e]
def fW{p:κ×V}{r:List<|κ×V}{k:κ}(e:¬ p.1=k):zCm (p::r) k=zCm r k:=by simp[zCm,List.find?_cons,e]
theorem jX(k:κ):∀kvs:List<|κ×V,(kvs.any λkv=>decide<|kv.1=k)=(zCm kvs k).isSome
 |[]=>rfl
 |p::r=>by
  rw[List.any_cons];by_cases e:p.1=k
  ·simp only[fV e,xBd e,Bool.true_or,Option.isSome_some]
  ·rw[fW e,xCn e,Bool.false_or];exact jX k r
def fH(kvs:List<|κ×V)(k:κ)(v:V):(putK kvs k v).length<=kvs.length+1:=by
 unfold putK;split
 ·rw[xAa];lia
 ·rw[xAb,xAo,List.length_nil];lia
theorem zCb.isSome_eq{o:Option V}{u:Option Value}(r:zCb o u):o.isSome=u.isSome:=by
 cases o with
 |none=>cases u with
  |none=>rfl
  |some _=>exact(show False from r).elim
 |some _=>cases u with
  |none=>exact(show False from r).elim
  |some _=>rfl
theorem KV.val{kvs:List<|κ×V}{vs:List<|κ×Value}(r:KV kvs vs)(k:κ):zCb (zCm kvs k)<|valueAt vs k:=by
 unfold KV at r;induction r with
 |nil=>exact True.intro
 |@cons p q ps qs h t ih=>
  obtain⟨h1,h2⟩:=h;by_cases e:p.1=k
  ·have e':q.1=k:=h1.symm.trans e;have b:valueAt (q::qs) k=some q.2:=by simp[valueAt,List.find?_cons,e']
   rw[fV e,b];exact h2
  ·have e':¬ q.1=k:=λz=>e<|h1.trans z;have b:valueAt (q::qs) k=valueAt qs k:=by simp[valueAt,List.find?_cons,e']
   rw[fW e,b];exact ih
theorem KV.any{kvs:List<|κ×V}{vs:List<|κ×Value}(r:KV kvs vs)(k:κ):(kvs.any λkv=>decide<|kv.1=k)=vs.any λkv=>decide<|kv.1=k:=by
 unfold KV at r;induction r with
 |nil=>rfl
 |cons h t ih=>rw[List.any_cons,List.any_cons,ih,h.1]
theorem KV.repl{kvs:List<|κ×V}{vs:List<|κ×Value}(r:KV kvs vs)(k:κ){u:Value}(ry:zAi y u) :
  KV (kvs.map λkv=>if kv.1=k then(kv.1,y) else kv) (vs.map λkv=>if kv.1=k then(kv.1,u) else kv):=by
 unfold KV at r⊢;induction r with
 |nil=>exact .nil
 |@cons p q ps qs h t ih=>
  rw[xBs,xBs];refine .cons ?_ ih;obtain⟨h1,h2⟩:=h;by_cases e:p.1=k
  ·rw[xCg e,xCg<|h1.symm.trans e];exact⟨h1,ry⟩
  ·rw[xCf e,xCf λz=>e<|h1.trans z];exact⟨h1,h2⟩
def KV.put{kvs:List<|κ×V}{vs:List<|κ×Value}(r:KV kvs vs)(k:κ){u:Value}(ry:zAi y u):KV (putK kvs k y)<|stored vs k u:=by
 unfold putK stored;rw[r.any k];by_cases e:(vs.any λkv=>decide<|kv.1=k)=true
 ·rw[xCg e,xCg e];exact r.repl k ry
 ·rw[xCf e,xCf e];exact Paired.snoc r ⟨rfl,ry⟩
theorem KV.length{kvs:List<|κ×V}{vs:List<|κ×Value}(r:KV kvs vs):kvs.length=vs.length:=Paired.length r
end
theorem i8{P:Program}{k:Key}{u:Value}(r:zAi (kV k) u):(zAk P w).is k u=true:=by
 cases k with
 |inl i=>obtain⟨t,e⟩:=(show ∃t,u=Value.int i t from r);subst e;exact kB P w i t
 |inr x=>obtain⟨t,e⟩:=(show ∃t,u=Value.str x t from r);subst e;exact kA P w x t
theorem i9{P:Program}{w:World}:∀{ks:List Key}{us:List Value},zAg (ks.map kV) us->ItemsAre (zAk P w) ks us
 |[],_,r=>by rw[List.map_nil] at r;cases r;exact .nil
 |k::ks,_,r=>by
  rw[xBs] at r;cases r with
  |cons h t=>exact .cons (i8 h) (i9 t)
noncomputable abbrev KT(H:Hp):List (List Key×V)->List (List Key×Addr×Value)->Prop:=Paired λp q=>p.1=q.1/\H q.2.1=some (.tup<|p.1.map kV)/\zAi p.2 q.2.2
theorem KT.val{kvs:List<|List Key×V}{xs:List<|List Key×Addr×Value}(r:KT H kvs xs)(k:List Key):zCb (zCm kvs k)<|(atKey xs k).map (·.2):=by
 induction r with
 |nil=>exact True.intro
 |@cons p q ps qs h t ih=>
  obtain⟨h1,_,h2⟩:=h;by_cases e:p.1=k
  ·have e':q.1=k:=h1.symm.trans e;have b:atKey (q::qs) k=some q.2:=by simp[atKey,List.find?_cons,e']
   rw[fV e,b];exact h2
  ·have e':¬ q.1=k:=λz=>e<|h1.trans z;have b:atKey (q::qs) k=atKey qs k:=by simp[atKey,List.find?_cons,e']
   rw[fW e,b];exact ih
theorem KT.repl{kvs:List<|List Key×V}{xs:List<|List Key×Addr×Value}(r:KT H kvs xs)(k:List Key){u:Value}(ry:zAi y u) :
  KT H (kvs.map λkv=>if kv.1=k then(kv.1,y) else kv) (xs.map<|putAt k u):=by
 induction r with
 |nil=>exact .nil
 |@cons p q ps qs h t ih=>
  rw[xBs,xBs];refine .cons ?_ ih;obtain⟨h1,h2,h3⟩:=h;unfold putAt;by_cases e:p.1=k
  ·rw[xCg e,xCg<|h1.symm.trans e];exact⟨h1,h2,ry⟩
  ·rw[xCf e,xCf λz=>e<|h1.trans z];exact⟨h1,h2,h3⟩
def KT.put{kvs:List<|List Key×V}{xs:List<|List Key×Addr×Value}(r:KT H kvs xs)(k:List Key){b:Addr}{u:Value}(hb:H b=some (.tup<|k.map kV))(ry:zAi y u) :
  KT H (putK kvs k y) (storedH xs k b u):=by
 have e:(kvs.any λkv=>decide<|kv.1=k)=(atKey xs k).isSome:=by
  rw[jX,(r.val k).isSome_eq,Option.isSome_map]
 unfold putK storedH;rw[e];by_cases q:(atKey xs k).isSome=true
 ·rw[xCg q,xCg q];exact r.repl k ry
 ·rw[xCf q,xCf q];exact Paired.snoc r ⟨rfl,hb,ry⟩
def KT.keeps{kvs:List<|List Key×V}{xs:List<|List Key×Addr×Value}(r:KT H kvs xs)(ht:∀b ys,H b=some (.tup ys)->H' b=some (.tup ys)):KT H' kvs xs:=
 Paired.mapP r λ_ _ z=>⟨z.1,ht _ _ z.2.1,z.2.2⟩
section
variable{P:Program}{w:World}{H:Hp}{h:Heap}{a:Addr}
def vG{u:HO}(ok:HOk P w H h)(e:Rd H a u):zAc P w H h a u:=e.ok ok
def iH(ok:HOk P w H h)(e:Rd H a<|.dK kvs):kvs.length<=sizeLine/\(a==sysModules)=false/\∃vs,KV kvs vs/\h.DictOf (zAk P w) a vs:=
 show zAc P w H h a (.dK kvs) from vG ok e
def wb(ok:HOk P w H h)(e:H a=some (.dK kvs)):kvs.length<=sizeLine/\(a==sysModules)=false/\∃vs,KV kvs vs/\h.DictOf (zAk P w) a vs:=iH ok<|.inl e
def iu{ks:List Key}(ok:HOk P w H h)(e:H a=some (.tup<|ks.map kV)):(tupleKind<|zAk P w).is h ks a:=by
 obtain⟨_,its,r,o,h1,h2,n,h3⟩:=(show zAc P w H h a (.tup<|ks.map kV) from ok a _ e)
 exact⟨o,its.toArray,n,h1,h2,h3,by simpa using i9 r⟩
def kN{kvs:List<|List Key×V}(ok:HOk P w H h)(e:Rd H a<|.dT kvs):kvs.length<=sizeLine/\(a==sysModules)=false /\
  ∃xs,KT H kvs xs/\h.DictOfH (tupleKind<|zAk P w) a xs:=by
 obtain⟨z,y,xs,r,o,es,ep,h1,h2,h3,h4,h5⟩:=(show zAc P w H h a (.dT kvs) from vG ok e)
 refine⟨z,y,xs,r,o,es,ep,h1,h2,h3,h4,λx hx=>?_,h5⟩;have all:∀{l:List<|List Key×V}{m:List<|List Key×Addr×Value},KT H l m->∀x∈m,(tupleKind<|zAk P w).is h x.1 x.2.1:=by
  intro l m q;induction q with
  |nil=>intro x hx;exact nomatch hx
  |@cons p q ps qs hq t ih=>
   intro x hx;rcases xAv.mp hx with e|hx
   ·subst e;exact iu ok (by rw[<- hq.1];exact hq.2.1)
   ·exact ih x hx
 exact all r x hx
def AM{kvs:List<|List Key×V}(ok:HOk P w H h)(e:H a=some (.dT kvs)):kvs.length<=sizeLine/\(a==sysModules)=false /\
  ∃xs,KT H kvs xs/\h.DictOfH (tupleKind<|zAk P w) a xs:=kN ok<|.inl e
end
def zEl(H:Hp)(a:Addr)(y:V)(r:Option V):Prop:=
 (∃kvs k,Rd H a (.dK kvs)/\y=kV k/\r=zCm kvs k)\/∃kvs k b,Rd H a (.dT kvs)/\y=.ref b/\H b=some (.tup<|k.map kV)/\r=zCm kvs k
def zI4(H:Hp)(a:Addr)(y v:V)(H':Hp):Prop:=
 (∃kvs k,H a=some (.dK kvs)/\y=kV k/\kvs.length<sizeLine/\H'=upd H a (.dK<|putK kvs k v)) \/
 ∃kvs k b,H a=some (.dT kvs)/\y=.ref b/\H b=some (.tup<|k.map kV)/\kvs.length<sizeLine/\H'=upd H a (.dT<|putK kvs k v)
section
variable{X:Cx}{Z:List<|Addr×Obj}{σ:St}{H:Hp}{s:Shared}{a:Addr}{y v:V}{u r:Value}{o:Option V}{A:Around}{E:Value->Shared->Prop}
def Inv.big(I:Inv X Z σ H s):sysModules<s.heap.objs.size:=by
 have h:mainGlobals<s.heap.objs.size:=(I.mod.glob.keeps I.bk).lt;exact Nat.lt_trans (by decide) h
def oQ(hu:A.units+1<cLine)(I:Inv X Z σ H s)(g:zEl H a y<|some v)(ry:zAi y u)(h:∀w' s',Inv X Z σ H s'->zAi v w'->Q w' s') :
  wpAny (model X.prog X.w) A (getItem (.ref a) u) Q E s:=by
 rcases g with ⟨kvs,k,e,ey,l⟩|⟨kvs,k,b,e,ey,eb,l⟩
 ·subst ey;obtain⟨z,hd,vs,rel,dd⟩:=iH I.hok e;obtain⟨w',hw,rw'⟩:=zCb.some_of (v:=v) (o:=valueAt vs k) (by rw[l];exact rel.val k);exact wpAny_getItem_of (i8 ry) dd.mapOf hw<|h w' _ (I.tok _) rw'
 ·subst ey;cases (show u=Value.ref b from ry);obtain⟨z,hd,xs,rel,dd⟩:=kN I.hok e;obtain⟨w',hw,rw'⟩:=zCb.some_of (v:=v) (o:=(atKey xs k).map (·.2)) (by rw[l];exact rel.val k);obtain⟨p,hp,hp2⟩:=Option.map_eq_some_iff.mp hw;refine wpAny_getItem_heap (tupleKind_room_in1 hu) (iu I.hok eb) dd hp ?_;rw[hp2];exact h w' _ (I.tok _) rw'
def Bz(hu:A.units+1<cLine)(I:Inv X Z σ H s)(g:zEl H a y o)(ry:zAi y u)(h:∀s',Inv X Z σ H s'->Q (.bool o.isSome) s') :
  wpAny (model X.prog X.w) A (compareOp .In u<|.ref a) Q E s:=by
 rcases g with ⟨kvs,k,e,ey,l⟩|⟨kvs,k,b,e,ey,eb,l⟩
 ·subst ey;obtain⟨z,hd,vs,rel,dd⟩:=iH I.hok e;refine wpAny_in_of (i8 ry) hd dd.mapOf ?_;rw[<- (rel.val k).isSome_eq,<- l];exact h _<|I.tok _
 ·subst ey;cases (show u=Value.ref b from ry);obtain⟨z,hd,xs,rel,dd⟩:=kN I.hok e;refine wpAny_in_heap (tupleKind_room_in1 hu) (iu I.hok eb) hd dd ?_;have q:=(rel.val k).isSome_eq;rw[Option.isSome_map] at q;rw[<- q,<- l];exact h _<|I.tok _
def vd(hu:A.units+1<cLine)(I:Inv X Z σ H s)(g:zEl H a y o)(ry:zAi y u)(h:∀s',Inv X Z σ H s'->Q (.bool (!o.isSome)) s') :
  wpAny (model X.prog X.w) A (compareOp .NotIn u<|.ref a) Q E s:=by
 rcases g with ⟨kvs,k,e,ey,l⟩|⟨kvs,k,b,e,ey,eb,l⟩
 ·subst ey;obtain⟨z,hd,vs,rel,dd⟩:=iH I.hok e;refine wpAny_notIn_of (i8 ry) hd dd.mapOf ?_;rw[<- (rel.val k).isSome_eq,<- l];exact h _<|I.tok _
 ·subst ey;cases (show u=Value.ref b from ry);obtain⟨z,hd,xs,rel,dd⟩:=kN I.hok e;refine wpAny_notIn_heap (tupleKind_room_in1 hu) (iu I.hok eb) hd dd ?_;have q:=(rel.val k).isSome_eq;rw[Option.isSome_map] at q;rw[<- q,<- l];exact h _<|I.tok _
def jP{ob:HO}(I:Inv X Z σ H s)(mu:Mut<|H a)(hs:Heap.SameBut a s.heap h')(he:∃q,h'.get? a=some q)(new:zAc X.prog X.w (upd H a ob) h' a ob) :
  Inv X Z σ (upd H a ob) {s with heap:=h',toks:=t'}:=
 I.write (x:=a) (e:=a) mu (.inl rfl) (λb q hb z=>(hs.2 b hb).trans z) he new
def lR{P:Program}{vs:List<|Key×Value}(z:kvs.length<=sizeLine)(hd:(a==sysModules)=false)(rel:KV kvs vs)(dd:h'.DictOf (zAk P w) a vs) :
  zAc P w H' h' a (.dK kvs):=⟨z,hd,vs,rel,dd⟩
def oP{Q:Unit->Shared->Prop}(hu:A.units+1<cLine)(I:Inv X Z σ H s)(g:zI4 H a y v H')(ry:zAi y u)(rv:zAi v r)(h:∀s',Inv X Z σ H' s'->Q () s') :
  wpAny (model X.prog X.w) A (setItem (.ref a) u r) Q E s:=by
 rcases g with ⟨kvs,k,e,ey,l,eH⟩|⟨kvs,k,b,e,ey,eb,l,eH⟩
 ·subst ey eH;obtain⟨z,hd,vs,rel,dd⟩:=wb I.hok e;have hz:vs.length<=sizeLine:=by rw[<- rel.length];exact z
  have hl:(putK kvs k v).length<=sizeLine:=by have:=fH kvs k v;lia
  refine wpAny_setItem_pairs (hsz:=hz) (i8 ry) dd λh' dd' hs=>h _ ?_;have he:∃q,h'.get? a=some q:=let ⟨q,_,_,hq,_⟩:=dd';⟨q,hq⟩;exact jP I (by rw[e];exact True.intro) hs he<|lR hl hd (rel.put k rv) dd'
 ·subst ey eH;cases (show u=Value.ref b from ry);obtain⟨z,hd,xs,rel,dd⟩:=AM I.hok e;have hz:xs.length<=sizeLine:=by rw[<- Paired.length rel];exact z
  have hl:(putK kvs k v).length<=sizeLine:=by have:=fH kvs k v;lia
  refine wpAny_setItem_heap (hsz:=hz) (tupleKind_room_in1 hu) (iu I.hok eb) dd λh' dd' hs=>h _ ?_;obtain⟨q,es,ep,hq,h2,h3,h4,_,h5⟩:=dd';refine jP I (by rw[e];exact True.intro) hs ⟨q,hq⟩ ⟨hl,hd,_,(rel.put k eb rv).keeps λc ys ec=>?_,q,es,ep,hq,h2,h3,h4,h5⟩;rw[db<|fj ec e λz=>nomatch z];exact ec
end
section
variable{X:Cx}{Z:List<|Addr×Obj}{σ:St}{H:Hp}{s:Shared}{a:Addr}{kvs:List<|Key×V}{k:Key}{u:Value}{A:Around}{E:Value->Shared->Prop}
def AO(I:Inv X Z σ H s)(e:Rd H a<|.dK kvs)(h:∀t s',Inv X Z σ H s'->Q (.int kvs.length t) s'):wpAny (model X.prog X.w) A (call (.builtin "len") [.ref a]) Q E s:=by
 obtain⟨z,hd,vs,rel,dd⟩:=iH I.hok e;refine call_len_dict hd dd (by rw[<- rel.length];rw[sizeLine_eq] at z;lia) ?_;rw[<- rel.length];exact h _ _<|I.tok _
end
def kR{X:Cx}{a:Addr}{o:Option V}(I:Inv X Z σ H s)(g:zEl H a y o):s.TypeIs (.ref a) "dict":=by
 rcases g with ⟨kvs,k,e,_,_⟩|⟨kvs,k,b,e,_,_,_⟩
 ·obtain⟨_,_,vs,_,dd⟩:=iH I.hok e;exact dd.typeIs
 ·obtain⟨_,_,xs,_,dd⟩:=kN I.hok e;exact dd.typeIs
def kQ{P:Program}(h:Heap)(hb:sysModules<h.objs.size):zAc P w H (h.push {cls:=.type "dict",data:=.dict #[]}) h.objs.size<|.dK []:=
 ⟨xBn _,beq_eq_false_iff_ne.mpr<|Ne.symm<|xA0 hb,[],.nil,Heap.DictOf.new h⟩
def zEy:TE:=λ_ H Q=>∀p,H p=none->Q (.ref p) (upd H p<|.dK [])
section
variable{X:Cx}{pos:Pos}
def qz:PE X (.Dict [] [] pos) zEy:=λZ s σ H Q I h=>
 wpAny_Dict_empty ⟨.ref s.heap.objs.size,_,I.laid (a:=s.heap.objs.size) (o:=.dK []) (t':=s.toks) (λ_ _ q=>xAf _ q) (xAg _)<|kQ s.heap I.big,rfl,h _<|I.hok.fresh<|xAg _⟩
end
def zCn:List (TE×TE)->St->Hp->(List (V×V)->Hp->Prop)->Prop
 |[],_,H,Q=>Q [] H
 |(tk,tv)::r,σ,H,Q=>tk σ H λx H1=>tv σ H1 λy H2=>zCn r σ H2 λps H3=>Q ((x,y)::ps) H3
noncomputable abbrev VV:List (V×V)->List (Value×Value)->Prop:=Paired λp q=>zAi p.1 q.1/\zAi p.2 q.2
def PPs(X:Cx)(pos:Pos)(keys:List<|Option Expr)(values:List Expr)(trs:List<|TE×TE):Prop:=
 ∀(Z:List<|Addr×Obj)(s:Shared)(σ:St)(H:Hp)(Q:List (V×V)->Hp->Prop),Inv X Z σ H s->zCn trs σ H Q ->
  wpAny (model X.prog X.w) X.A (evalPairs<|pairTrees keys values X.env pos) (λvs s'=>∃ps H',Inv X Z σ H' s'/\VV ps vs/\Q ps H') X.xe s
def tU{X:Cx}:PPs X pos [] [] []:=λZ s σ H Q I h=>pairTrees_nil_walk ⟨[],H,I,.nil,h⟩
def qh{X:Cx}{k v:Expr}{ks:List<|Option Expr}{vs:List Expr}{tk tv:TE}(hk:PE X k tk)(hv:PE X v tv)(hr:PPs X pos ks vs trs) :
  PPs X pos (some k::ks) (v::vs) ((tk,tv)::trs):=λZ s σ H Q I h=>
 pairTrees_cons_walk (thn (hk Z s σ H _ I h) λu s1 ⟨x,H1,I1,rx,q1⟩=>thn (hv Z s1 σ H1 _ I1 q1) λw2 s2 ⟨y,H2,I2,ry,q2⟩ =>
  thn (hr Z s2 σ H2 _ I2 q2) λws s3 ⟨ps,H3,I3,rel,q3⟩=>⟨(x,y)::ps,H3,I3,.cons ⟨rx,ry⟩ rel,q3⟩)
noncomputable def zBg(kvs more:List<|Key×V):List<|Key×V:=more.foldl (λacc kv=>putK acc kv.1 kv.2) kvs
theorem KV.merge:∀{more:List<|Key×V}{rs:List<|Key×Value}{kvs:List<|Key×V}{vs:List<|Key×Value},KV more rs->KV kvs vs->KV (zBg kvs more) (merged vs rs):=by
 intro more rs kvs vs r;unfold KV at r;induction r generalizing kvs vs with
 |nil=>intro q;exact q
 |@cons p q ps qs h t ih=>
  intro r0;have e:KV (putK kvs p.1 p.2) (stored vs q.1 q.2):=by
   have:=r0.put p.1 h.2;rw[<- h.1];exact this
  exact ih e
theorem fP:∀(more kvs:List<|Key×V),(zBg kvs more).length<=kvs.length+more.length
 |[],kvs=>by show kvs.length<=kvs.length+0;lia
 |p::r,kvs=>by
  have h1:=fP r<|putK kvs p.1 p.2;have h2:=fH kvs p.1 p.2;show(zBg (putK kvs p.1 p.2) r).length<=_;rw[xAo];lia
theorem iL{P:Program}{w:World}:∀{kvs:List<|Key×V}{ws:List<|Value×Value},VV (kvs.map λkv=>(kV kv.1,kv.2)) ws->∃rs,Carries (zAk P w) ws rs/\KV kvs rs
 |[],_,r=>by rw[List.map_nil] at r;cases r;exact⟨[],True.intro,.nil⟩
 |p::kvs,_,r=>by
  rw[xBs] at r;cases r with
  |@cons a b as bs h t=>
   obtain⟨rs,c,q⟩:=iL (P:=P) (w:=w) t;obtain⟨b1,b2⟩:=b;exact⟨(p.1,b2)::rs,⟨i8 h.1,rfl,c⟩,.cons ⟨rfl,h.2⟩ q⟩
def zGj(trs:List<|TE×TE):TE:=λσ H Q=>∀p,H p=none->zCn trs σ (upd H p<|.dK []) λps H2=>H2 p=some (.dK [])/\∃kvs:List<|Key×V,ps=kvs.map (λkv=>(kV kv.1,kv.2))/\kvs.length<=15/\Q (.ref p) (upd H2 p<|.dK<|zBg [] kvs)
def ua{X:Cx}{keys:List<|Option Expr}{values:List Expr}(h:PPs X pos keys values trs)(hall:keys.all (·.isSome)=true)(hl:keys.length=values.length)(h0:keys≠[])(h15:keys.length<=15):PE X (.Dict keys values pos)<|zGj trs:=by
 intro Z s σ H Q I q;have hn:=I.hok.fresh<|xAg s.heap.objs.size;have I1:=I.laid (a:=s.heap.objs.size) (o:=.dK []) (h':=s.heap.push {cls:=.type "dict",data:=.dict #[]}) (t':=s.toks) (λ_ _ q=>xAf _ q) (xAg _)<|kQ s.heap I.big;refine wpAny_Dict_walk (knd:=zAk X.prog X.w) hall hl h0 h15 (thn (h Z _ σ _ _ I1<|q _ hn) λws s2 zz=>?_);obtain⟨ps,H2,I2,rel,e,kvs,ep,lk,q2⟩:=zz;subst ep;obtain⟨rs,c,rk⟩:=iL (P:=X.prog) (w:=X.w) rel;obtain⟨z,hd,vs0,r0,dd⟩:=wb I2.hok e;cases r0;refine⟨rs,c,dd,λh' dd' hs=>⟨.ref s.heap.objs.size,_,?_,rfl,q2⟩⟩;have hz:(zBg [] kvs).length<=sizeLine:=by
  have h1:=fP kvs [];rw[List.length_nil] at h1;rw[sizeLine_eq];lia
 have he:∃q,h'.get? s.heap.objs.size=some q:=let ⟨q,_,_,hq,_⟩:=dd';⟨q,hq⟩;exact jP I2 (by rw[e];exact True.intro) hs he<|lR hz hd (rk.merge .nil) dd'
structure M1(X:Cx)(o:Expr)(m:Str)(apos:Pos)(e:Expr)(cpos:Pos):Prop where
 base:attributeBase o m X.env (eval o X.env)=eval o X.env
 few:((backTo cpos (starEach [e] X.env)).all (λx=>!x.1) && (backToKw cpos (keywordEach [] X.env)).all (λx=>x.1.isSome)
  && decide (([e]:List Expr).length+([]:List Keyword).length+(if([]:List Keyword).isEmpty then 0 else 1)<30))=true
 line:(apos.endLine==cpos.line)=true
 trees:backTo cpos (starEach [e] X.env)=[(false,eval e X.env)]
structure M2(X:Cx)(o:Expr)(m:Str)(apos:Pos)(e f:Expr)(cpos:Pos):Prop where
 base:attributeBase o m X.env (eval o X.env)=eval o X.env
 few:((backTo cpos (starEach [e,f] X.env)).all (λx=>!x.1) && (backToKw cpos (keywordEach [] X.env)).all (λx=>x.1.isSome)
  && decide (([e,f]:List Expr).length+([]:List Keyword).length+(if([]:List Keyword).isEmpty then 0 else 1)<30))=true
 line:(apos.endLine==cpos.line)=true
 trees:backTo cpos (starEach [e,f] X.env)=[(false,eval e X.env),(false,eval f X.env)]
section
variable{X:Cx}{Z:List<|Addr×Obj}{σ:St}{H:Hp}{s:Shared}{a:Addr}{kvs:List<|Key×V}{A:Around}{E:Value->Shared->Prop}
def sj(I:Inv X Z σ H s)(e:Rd H a<|.dK kvs)(h:∀p s',H p=none->Inv X Z σ (upd H p<|.dK kvs) s'->Q (.ref p) s'):wpAny (model X.prog X.w) A (call (.type "dict") [.ref a]) Q E s:=by
 obtain⟨z,hd,vs,rel,dd⟩:=iH I.hok e;refine kt_call_dict hd dd (by rw[<- rel.length];exact z) λh' dd' hs=>?_;refine h _ _ (I.hok.fresh<|xAg _)<|I.laid (a:=s.heap.objs.size) (o:=.dK kvs) (t':=s.toks) (λb q hq=>?_) (xAg _)<|lR z (beq_eq_false_iff_ne.mpr<|Ne.symm<|xA0 I.big) rel dd';exact(hs.2 b<|xA0<|xA1 hq).trans<|xAf _ hq
end
end L2
namespace Att
open PySem PySem.W PySem.Calls PyProof.Rows
theorem gJ{P:Params}{h:Heap}:∀(ns:List Int)(vs:List Value),WellAll P h vs (ns.map WData.int)->IntsAre vs ns:=by
 intro ns;induction ns with
 |nil=>
  intro vs w;rw[List.map_nil] at w;cases w;exact .nil
 |cons n ns ih=>
  intro vs w;rw[xBs] at w;cases w with
  |cons a b=>
   cases a;exact .cons _ _<|ih _ b
theorem nV{l:OpenLaw}{n:Nat}(hn:l.most=some n){P:Params}{h:Heap}{args:List WData}{vals:List Value}(hpre:l.row.toRowW.claim.pre args=true)(hwl:WellAll P h vals args) :
  ∃a vs ns,vals=[Value.ref a]/\args=[WData.list<|ns.map WData.int]/\h.get? a=some {cls:=.type "list",data:=.seq vs.toArray}/\IntsAre vs ns/\ns.length<=n:=by
 have hsh:WShape.hasAll [] args [.list .int]=true:=(pre_splitW hpre).1;have hc:l.pre.holds [] {args:=args}=true:=(pre_splitW hpre).2;obtain⟨d,r,rfl,h1,h2⟩:=hasAllW_cons hsh;obtain rfl:=hasAllW_nil h2;obtain⟨xs,rfl,h3⟩:=hasW_list h1;obtain⟨ns,rfl⟩:=items_int h3;have hlen:ns.length<=n:=by
  unfold OpenLaw.pre at hc;have h4:(WTm.not<|.lt (.lit<|.int (n:Int))<|.len<|.arg 0).holds [] {args:=[.list<|ns.map .int]}=true:=by
   have h4:=(holds_andW hc).1;rw[hn] at h4;exact h4
  have h5:=condW_of h4<|w_not<|w_lt w_lit<|w_len_list<|w_arg rfl;rw[xAa] at h5;refine Nat.le_of_not_lt λq=>?_;have q':(n:Int)<((ns.length:Nat):Int):=by lia
  first
   |(rw[xBd q'] at h5;exact absurd h5 (by decide))
   |(simp at h5;lia)
 cases hwl with
 |cons w1 w2=>
  cases w2;cases w1 with
  |list ho hall=>exact⟨_,_,ns,rfl,rfl,ho,gJ ns _ hall,hlen⟩
def oh(l:OpenLaw)(args:List WData):l.row.toRowW.claim.post args (.bool true) args=true:=
 postW_of (r:=l.row.toRowW) (X:=(true==true))
  (show WShape.has [] (.bool true) .bool=true by first|rfl|decide|simp[WShape.has,WShape.arms,WShape.armsAll])
  (show(WTm.eq .res<|.lit<|.bool true).value [] {args:=args,res:=some<|.bool true,after:=args}=some (.bool<|true==true) from w_eq_bool (w_res rfl) w_lit) rfl
def attach_call{l:OpenLaw}{n:Nat}{q:Program}{loose:List Str}{XP:(Str->Option Value)->Heap->Prop}{YP:World->Heap->Prop}{d:DefRec}(hn:l.most=some n)(hdf:d.params.defaults=[])(call:∀(w:World)(s₀ s₁:Shared)(mg mb:Str->Option Value)(fa:Addr)(o:Obj)(pm cd doc:Value)(a:Addr)(vs:List Value)(ns:List Int),
   Ground q loose [] XP w s₀ mg mb s₁.heap->YP w s₁.heap ->
   s₁.heap.get? fa=some o->o.data=.func (docDef d.name d.params d.body d.scope pm cd doc)->s₁.heap.CodeRec cd d.name->mg d.name=some (.ref fa) ->
   s₁.heap.get? a=some {cls:=.type "list",data:=.seq vs.toArray}->IntsAre vs ns->ns.length<=n->s₁.gens=#[] ->
   codeAny (model l.prog w) callerA (.call (.ref fa) ⟨[.ref a],[]⟩) (λr s'=>r=.ok (.ret<|.bool true)/\OldK s₁.heap s'.heap/\s'.os=s₁.os/\AllBare s'.gens) s₁) :
  WalkO q loose XP YP l.row.toRowW d [] (λf vs=>PySem.call f vs):=by
 intro w s₀ s₁ mg mb G Y fa o pm cd doc dV kV ho hd hcd hD hmg hg args vals as hpre hlay hrd hwl hlo;obtain rfl:dV=.none:=Dflts.none hD hdf;obtain rfl:kV=.none:=Dflts.noKw hD;obtain⟨a,vs,ns,rfl,rfl,hobj,hints,hlen⟩:=nV hn hpre hwl;refine enter_call (codeAny_mono (call w s₀ s₁ mg mb fa o pm cd doc a vs ns G Y ho (fd_plain hd) hcd hmg hobj hints hlen hg) λr s' hq=>?_);obtain⟨rfl,h2,h3,h4⟩:=hq;exact⟨.inl ⟨.bool true,.bool true,[],rfl,λ_=>rfl,.bool true,oh l _,λ_=>⟨List.Pairwise.nil,λ_ hm=>(nomatch hm)⟩⟩,h2,h3,h4⟩
end Att
namespace L2
open PySem PySem.Spec PyProof.Rows
variable{w:World}{k n:Nat}{fd:FuncData}{x qual y:Str}{env:Env}{scope:Scope}{H:Hp}{us:List Value}
theorem iU:∀{vs:List Value}{ns:List Int},IntsAre vs ns->zAg (ns.map V.int) vs
 |_,_,.nil=>.nil
 |_,_,.cons n t h=>.cons ⟨t,rfl⟩<|iU h
def zHk(H:Hp):Prop:=∀b,H b=none\/∃o xs,H b=some (.frz o<|.lst xs)
theorem qX{P:Program}{K:xFr}{mg mb:Str->Option Value}{CX:CXT}{fa a:Addr}{sp:Sp}{s₁:Shared}{vs:List Value}{ns:List Int}(KX:K.In s₁.heap)(hns:s₁.heap.Ns mainGlobals mg)(hb:s₁.heap.Ns builtinsNs mb)(hbb:∀x:Str,x≠"__name__"->mb x=bootBuiltins x)(hlim:s₁.heap.NoLimit)(hg:s₁.gens=#[])(ha:s₁.heap.get? a=some {cls:=.type "list",data:=.seq vs.toArray})(hi:IntsAre vs ns)(hl:ns.length<=sizeLine)(hr:zA4 k callerA)(F:∀base:Heap,K.In base->base.Ns mainGlobals mg->zAv P w K mg base CX k fa fd [x] sp)(hbind:∀(s:Shared)(u:Value),BindsTo s fd ⟨[u],[]⟩ [(x,u)])(hsp:∀H:Hp,zHk H->SqL K H a (ns.map V.int)->sp [.ref a] H (λv _=>v=.bl true) λ_ _ _=>False)(hCX:∀H e s',CX [] H s₁ (λ_ _ _=>False) e s'->False) :
  codeAny (model P w) callerA (.call (.ref fa) ⟨[.ref a],[]⟩) (λr s'=>r=.ok (.ret<|.bool true)/\OldK s₁.heap s'.heap/\s'.os=s₁.os/\AllBare s'.gens) s₁:=by
 have rv:=iU hi;have lenV:=hi.length
 -- from an abstract heap in which nothing but the script may be tracked
 have core:∀H:Hp,zHk H->SqL K H a (ns.map V.int)->HOk P w H s₁.heap->(∀b,H b≠none->b=a)->(H a≠none->K.lookup a=none) ->
   codeAny (model P w) callerA (.call (.ref fa) ⟨[.ref a],[]⟩) (λr s'=>r=.ok (.ret<|.bool true)/\OldK s₁.heap s'.heap/\s'.os=s₁.os/\AllBare s'.gens) s₁:=by
  intro H hO hS hok hA hK;have base_of:∀{b:Addr}{o:Obj},s₁.heap.get? b=some o->H b=none->(zDl s₁.heap H).get? b=some o:=λe n=>rj e n;have noA:∀{b:Addr}{o:Obj}{es:Array DictEntry}{ep:Nat},s₁.heap.get? b=some o->o.data=.dict es ep->H b=none:=λ{b o es ep} e d=>by
   cases q:H b with
   |none=>rfl
   |some u=>
    have e':b=a:=hA b (by rw[q];simp);subst e';rw[ha] at e;cases e;have d':Data.seq vs.toArray _=Data.dict es ep:=d;cases d'
  have nsK:∀{b:Addr}{m:Str->Option Value},s₁.heap.Ns b m->(zDl s₁.heap H).Ns b m:=λ{b m} ⟨o,es,ep,e,d,r⟩=>⟨o,es,ep,base_of e<|noA e d,d,r⟩
  have hKb:K.In<|zDl s₁.heap H:=λb o e=>base_of (KX b o e) (by
   cases q:H b with
   |none=>rfl
   |some u=>
    have e':b=a:=hA b (by rw[q];simp);subst e';rw[hK<|by rw[q];simp] at e;cases e)
  have hM:Mod K mg<|zDl s₁.heap H:=⟨hKb,nsK hns,⟨mb,nsK hb,hbb⟩,let ⟨mc,h1,h2⟩:=hlim;⟨mc,nsK h1,h2⟩⟩
  have e0:zEe P w K mg (zDl s₁.heap H) callerA [] s₁ H:=⟨rfl,hM,λb o e=>uv e,Nat.le_of_eq<|oJ _ _,trivial,λb hb=>absurd (show b∈([]:List Addr) from hb) (by simp),hok,.of_eq hg⟩
  refine codeAny_mono ((F _ hKb<|nsK hns).run callerA [] s₁ H ⟨[.ref a],[]⟩ [.ref a] [.ref a] _ _ hr e0 (hbind s₁<|.ref a) (.cons rfl .nil)<|hsp H hO hS) λr s' h=>?_;cases r with
  |error e=>exact(hCX H e s' h).elim
  |ok fl=>
   cases fl with
   |next=>exact False.elim h
   |brk=>exact False.elim h
   |cont=>exact False.elim h
   |ret u=>
    obtain⟨v,H',os,bare,un,hok',r',q⟩:=h;have q':v=.bl true:=q;subst q';obtain rfl:u=Value.bool true:=r';refine⟨rfl,OldK.of_keep λb o e=>?_,os,bare⟩;cases q:H b with
    |none=>exact un.keep b o e q (by intro z;exact absurd (show b∈([]:List Addr) from z) (by simp)) (by simp)
    |some u=>
     rcases hO b with z|⟨ob,xs,z⟩
     ·rw[q] at z;cases z
     ·have z2:=un.frzs b ob _ z;obtain⟨e1,_⟩:=hok b _ z;obtain⟨e2,_⟩:=hok' b _ z2;rw[e] at e1;cases e1;exact e2
 cases hk:K.lookup a with
 |some o=>
  -- the script is one of the module's own objects
  have e:=KX a o hk;rw[ha] at e;cases e;refine core (λ_=>none) (λ_=>.inl rfl) (.inr ⟨_,vs.toArray,_,hk,rfl,rfl,rfl,by rw[xAp,lenV];exact hl,by simpa using rv⟩) (λb u z=>by have z':(none:Option HO)=some u:=z;cases z') (λb z=>absurd rfl z) λz=>absurd rfl z
 |none=>
  refine core (λb=>if b=a then some (.frz {cls:=.type "list",data:=.seq vs.toArray}<|.lst<|ns.map V.int) else none) (λb=>?_) (.inl<|.inr ⟨{cls:=.type "list",data:=.seq vs.toArray},xCg rfl⟩) (λb u z=>?_) (λb z=>?_) λ_=>hk
  ·by_cases hb:b=a
   ·exact .inr ⟨_,_,xCg hb⟩
   ·exact .inl<|xCf hb
  ·by_cases hb:b=a
   ·have z':=(xCg hb).symm.trans z;cases z';subst hb;exact⟨ha,by rw[xAa];exact hl,vs,_,rv,ha⟩
   ·have z':=(xCf hb).symm.trans z;cases z'
  ·by_cases hb:b=a
   ·exact hb
   ·exact absurd (xCf hb) z
def walk_of{l:PySem.W.OpenLaw}{q:Program}{loose:List Str}{XP:(Str->Option Value)->Heap->Prop}{YP:World->Heap->Prop}{d:DefRec}{K:Params->xFr}{CX:World->CXT}{sp:World->Sp}(hn:l.most=some n)(hn2:n<=sizeLine)(hdf:d.params.defaults=[])(hr:zA4 k callerA)(hY:∀(w:World)(h:Heap),YP w h->(K w.params).In h)(F:∀(w:World)(mg:Str->Option Value)(fa:Addr)(h:Heap),(K w.params).In h->h.Ns mainGlobals mg->mg d.name=some (.ref fa) ->
   ∃fd:FuncData,(∀(s:Shared)(u:Value),BindsTo s fd ⟨[u],[]⟩ [(x,u)]) /\
    ∀base:Heap,(K w.params).In base->base.Ns mainGlobals mg->zAv l.prog w (K w.params) mg base (CX w) k fa fd [x] (sp w))(hsp:∀(w:World)(H:Hp)(a:Addr)(ns:List Int),ns.length<=n->zHk H->SqL (K w.params) H a (ns.map V.int)->sp w [.ref a] H (λv _=>v=.bl true) λ_ _ _=>False)(hCX:∀(w:World)(H:Hp)(s:Shared)(e:Value)(s':Shared),CX w [] H s (λ_ _ _=>False) e s'->False) :
  PySem.W.WalkO q loose XP YP l.row.toRowW d [] (λf vs=>PySem.call f vs):=by
 refine Att.attach_call hn hdf λw s₀ s₁ mg mb fa o pm cd doc a vs ns G Y ho hd hcd hmg hobj hints hlen hg=>?_;have KX:=hY w _ Y;obtain⟨fd,hb,hF⟩:=F w mg fa _ KX G.T.g hmg;exact qX KX G.T.g G.T.b G.T.builtins G.T.nolimit hg hobj hints (xCk hlen hn2) hr hF hb (λH hO hS=>hsp w H a ns hlen hO hS) λH e s'=>hCX w H s₁ e s'
noncomputable def zAe(s:Stmt)(j:Nat):Stmt:=match s with
 |.ClassDef _ _ _ body _ _ _ _ _ _ _=>body.getD j<|.Pass ⟨0,0,0,0⟩
 |_=>.Pass ⟨0,0,0,0⟩
noncomputable def zAf(s:Stmt):Arguments:=match s with
 |.FunctionDef _ a _ _ _ _ _ _ _ _=>a
 |_=>{posonlyargs:=[],args:=[],vararg:=none,kwonlyargs:=[],kw_defaults:=[],kwarg:=none,defaults:=[]}
noncomputable def zAd(s:Stmt):List Stmt:=match s with
 |.FunctionDef _ _ b _ _ _ _ _ _ _=>b
 |_=>[]
noncomputable def zAb(s:Stmt):Scope:=match s with
 |.FunctionDef _ _ _ _ _ _ sc _ _ _=>sc
 |_=>{kind:=.function,names:=[],isGenerator:=false,isCoroutine:=false}
structure Fun(K:xFr)(x qual:Str)(st:Stmt)(f:Addr)(fd:FuncData):Prop where
 ex:∃(oc:Value) (od:Option Addr) (kV doc pm:Value) (an:Option Addr) (cdv ct:Value) (osl:Array (Option Value)),
  fd=W.fnOf x qual (zAf st) (zAd st) (zAb st) .none kV doc pm an cdv ct/\K.lookup f=some ⟨oc,od,.func fd,osl⟩/\W.codeIn K cdv qual=true
 kp:W.keepIn K (.ref f)=true
section
variable{P:Program}{w:World}{K:xFr}{mg:Str->Option Value}{base:Heap}
def Fun.binds{st:Stmt}{f:Addr}{ps:List Str}(F:Fun K x qual st f fd)(h:∀(kV doc pm:Value)(an:Option Addr)(cdv ct:Value)(us:List Value),us.length=ps.length->bindArgs (W.fnOf x qual (zAf st) (zAd st) (zAb st) .none kV doc pm an cdv ct) ⟨us,[]⟩=pure (ps.zip us)):zAm K fd ps []:=by
 obtain⟨oc,od,kV,doc,pm,an,cdv,ct,osl,rfl,lk,hcd⟩:=F.ex;exact .all<|h kV doc pm an cdv ct
def lM{st:Stmt}{f:Addr}{oc:Value}{od an:Option Addr}{osl:Array<|Option Value}{kV doc pm cdv ct:Value}(l:K.lookup f=some ⟨oc,od,.func<|W.fnOf x qual (zAf st) (zAd st) (zAb st) .none kV doc pm an cdv ct,osl⟩)(c:W.codeIn K cdv qual=true)(k:W.keepIn K (.ref f)=true):Fun K x qual st f<|W.fnOf x qual (zAf st) (zAd st) (zAb st) .none kV doc pm an cdv ct:=⟨⟨oc,od,kV,doc,pm,an,cdv,ct,osl,rfl,l,c⟩,k⟩
end
def zC3(h:n<=1000):n<sizeLine:=Nat.lt_of_le_of_lt h (by decide)
def zFy(H H':Hp):Prop:=∀b o,H b=some o->H' b=some o
def zFy.refl(H:Hp):zFy H H:=λ_ _ h=>h
section
variable{X:Cx}
def oY:zAl X (.builtin "len") λxs H Q=>∃a kvs,xs=[V.ref a]/\H a=some (.dK kvs)/\Q (.int kvs.length) H:=by
 intro Z s σ H xs us Q I r h;obtain⟨a,kvs,rfl,ha,q⟩:=h;obtain⟨u,rfl,ru⟩:=zBm r;cases ru;exact AO I (.inl ha) λt s' I'=>⟨.int kvs.length,H,I',⟨t,rfl⟩,q⟩
end
noncomputable def zAh(X:Cx)(N:List Str)(scope:Scope)(cl:List<|Str×Addr)(C:Addr)(s:Shared)(H:Hp)(fp:List Addr):Cx where
 prog:=X.prog
 w:=X.w
 K:=X.K
 mg:=X.mg
 base:=X.base
 A:=X.A
 N:=N
 s₀:=s
 H₀:=H
 env:=compEnvC scope cl C X.env
 outer:=X.stack
 stack:=X.stack
 ex:=fp
 fn:=λ_=>false
 calm:=X.calm
 pn:=[]
 xe:=λ_ _=>False
theorem gB{k:NameKind}(h:(relabel scope env).names.lookup y=some k):∃k0,(y,k0)∈scope.names/\(k=k0\/(k0=.free/\k=.cell)):=by
 unfold relabel at h;dsimp only at h;revert h;generalize scope.names=l;intro h;induction l with
 |nil=>simp at h
 |cons a r ih=>
  obtain⟨n,k1⟩:=a;rw[xBs] at h;by_cases hc:(k1==NameKind.free&&env.scope.kind == .function&&env.kindOf n==some .cell)=true
  ·dsimp only at h;rw[xCg hc] at h;rw[List.lookup_cons] at h;by_cases e:y==n
   ·rw[e] at h;have e':y=n:=eq_of_beq e;subst e';have hk:k1=.free:=by
     rw[xCh,xCh] at hc;exact eq_of_beq hc.1.1
    subst hk;exact⟨.free,xAr,.inr ⟨rfl,(xB3 h).symm⟩⟩
   ·rw[Bool.eq_false_iff.mpr e] at h;obtain⟨k0,m,z⟩:=ih h;exact⟨k0,xAs _ m,z⟩
  ·dsimp only at h;rw[xCf hc] at h;rw[List.lookup_cons] at h;by_cases e:y==n
   ·rw[e] at h;have e':y=n:=eq_of_beq e;subst e';exact⟨k1,xAr,.inl (xB3 h).symm⟩
   ·rw[Bool.eq_false_iff.mpr e] at h;obtain⟨k0,m,z⟩:=ih h;exact⟨k0,xAs _ m,z⟩
theorem eJ(h:scope.names.lookup y=some .free):(relabel scope env).names.lookup y=some .cell\/(relabel scope env).names.lookup y=some .free:=by
 unfold relabel;dsimp only;revert h;generalize scope.names=l;intro h;induction l with
 |nil=>simp at h
 |cons a r ih=>
  obtain⟨n,k1⟩:=a;rw[xBs];rw[List.lookup_cons] at h;by_cases hc:(k1==NameKind.free&&env.scope.kind == .function&&env.kindOf n==some .cell)=true
  ·dsimp only;rw[xCg hc];rw[List.lookup_cons];by_cases e:y==n
   ·rw[e];exact .inl rfl
   ·rw[Bool.eq_false_iff.mpr e] at h⊢;exact ih h
  ·dsimp only;rw[xCf hc];rw[List.lookup_cons];by_cases e:y==n
   ·rw[e] at h⊢;exact .inr h
   ·rw[Bool.eq_false_iff.mpr e] at h⊢;exact ih h
def zCy(σ:St)(fr:List Nat):St:=fr.map λk=>(σ[k]?).join
section
variable{X:Cx}
def oZ:zAl X (.builtin "isinstance") λxs H Q=>∃x n t b,xs=[x,V.ty n]/\zB1 X.K H x t/\W.kitOne X.K t (.type n)=some b/\Q (.bl b) H:=by
 intro Z s σ H xs us Q I r h;obtain⟨x,n,t,b,rfl,ty,e,q⟩:=h;obtain⟨u,u2,rfl,ru,ru2⟩:=zDf r;cases (show u2=Value.type n from ru2);exact ja I ru ty e λtk=>⟨.bl b,H,I.tok tk,rfl,q⟩
def uq:OpR X (binaryOp .Mult)<|rI (λi j=>IntMulOk i j) λi j=>.int<|i*j:=opI λ_ _ _ _ _ _ _ hc q=>mul_int q hc
def qO:OpR X (binaryOp .FloorDiv)<|rI (λi j=>j≠0/\Builtin.divisionGoesByPylong i j=false) λi j=>.int<|i.fdiv j:=opI λ_ _ _ _ _ _ _ hc q=>floordiv_int hc.1 q<|.inl hc.2
def rY{x:V}(h:zBk x=true):eqV x x=true:=by
 cases x <;> first|rfl|(exact absurd (show false=true from h) (by decide))|(simp[eqV])
end
def small(h:n<=1000):n<=sizeLine:=Nat.le_of_lt<|zC3 h
def eO{p:Addr}(h:H p=none)(o:HO):zFy H<|upd H p o:=λb u q=>by rw[db<|dq q h];exact q
section
variable{X:Cx}
def o6:zAl X (.builtin "isinstance") λxs H Q=>∃x C t b,xs=[x,V.ref C]/\zB1 X.K H x t/\W.kitOne X.K t (.ref C)=some b/\Q (.bl b) H:=by
 intro Z s σ H xs us Q I r h;obtain⟨x,C,t,b,rfl,ty,e,q⟩:=h;obtain⟨u,u2,rfl,ru,ru2⟩:=zDf r;cases (show u2=Value.ref C from ru2);exact ja I ru ty e λtk=>⟨.bl b,H,I.tok tk,rfl,q⟩
end
def dR{xs:List V}(r:zAg xs us){j:Nat}(hj:j<us.toArray.size):∃x,xs[j]?=some x/\zAi x us.toArray[j]:=by
 rw[xAp] at hj;have jx:j<xs.length:=by rw[r.length];exact hj
 obtain⟨u,e,q⟩:=r.get<|xAk jx;refine⟨xs[j],xAk jx,?_⟩;rw[List.getElem_toArray];have:us[j]=u:=(xAq.mp e).2;rw[this];exact q
noncomputable abbrev bmV:List Value:=[.type "ValueError",.type "Exception",.type "BaseException",.type "object"]
noncomputable abbrev zAs(C t:Addr)(dx:Option Addr):Obj:={cls:=.ref C,dict:=dx,data:=.fields #[.ref t,.none,.none,.none,.bool false,.none]}
section
variable{prog:Program}{w:World}{A:Around}{R:Result->Shared->Prop}{h:Heap}{g:Array GenState}{d:Drawn}{t:Nat}{os:OsState}
variable{nm q:Str}{C N f:Addr}{bs bm:List Value}{hdct:Bool}{sn:List Str}{sub:List Value}{ab:Bool}{col:Option Bool}{dd:Option Addr}{k0 k1 k2 k3 k5:Option Value}
def rV{rest:List Value}(cC:h.get? C=some (excClassObj nm q C N bs bm hdct sn sub ab col dd k0 k1 k2 k3 k5 "ValueError.__new__"))(tl:OwnTail h bmV bm)(li:PySem.W.Looks (model prog w) h (typeLookup (.ref C) "__init__")<|some<|.ref f)(bf:∀self,PySem.W.Looks (model prog w) h (bindSpecial (.ref f) self) (.ref f,[self]))(hz:rest.length<=sizeLine)(hq:codeAny (model prog w) (A.under<|.builtin "type.__call__" ⟨.ref C::rest,[]⟩) (.call (.ref f) ⟨.ref (h.objs.size+1)::rest,[]⟩) (PySem.W.InitBack (h.objs.size+1) R)
   ⟨(h.push {cls:=.type "tuple",data:=.seq rest.toArray}).push<|zAs C h.objs.size none,g,d,t,os⟩) :
  codeAny (model prog w) A (.call (.ref C) ⟨rest,[]⟩) R ⟨h,g,d,t,os⟩:=by
 have B:=PySem.F.excBase_ValueError;have c1:=tc_lookup;have c2:=tc_bind<|.ref C;have cT:(⟨h,g,d,t,os⟩:Shared).TypeIs (.ref C) "type":=⟨_,cC,rfl⟩
 refine codeAny_of_tree ?_;change wpAny _ _ (callAny (.ref C) _) _ _ _;repeat (any_goals (first|assumption|wp_step|with_reducible refine wpAny_loadPart_at cC ?_))
 refine⟨rfl,codeAny_call_builtin_at (Code.quiet_builtin _<|by decide +kernel) entry_typeCall<|wpAny_check_type_call_sub cC ?_⟩;repeat (first|with_reducible refine wpAny_madeBy_exc cC ?_|wp_step|with_reducible refine wpAny_loadPart_at cC ?_)
 refine codeAny_call_builtin_code (Code.quiet_builtin _ B.quiet)<|wpAny_check_new_subT B tl cC<|codeAny_exc_new_subT B tl cC ?_ hz;show wpAny _ _ _ _ _ _;have kp:∀b o,h.get? b=some o->((h.push {cls:=.type "tuple",data:=.seq rest.toArray}).push<|zAs C h.objs.size none).get? b=some o:=λb o e=>xAf _<|xAf _ e;have eC:=kp _ _ cC;have eX:((h.push {cls:=.type "tuple",data:=.seq rest.toArray}).push<|zAs C h.objs.size none).get? (h.objs.size+1)=some (zAs C h.objs.size none):=by heap_get
 have hs:(Value.ref C::bm).contains (.ref C)=true:=by simp
 have l1:=li.keeps kp;have b1:=(bf<|.ref<|h.objs.size+1).keeps kp;unfold isInstance callSpecial? specialOf;repeat (first|with_reducible refine wpAny_loadPart_at eX ?_|(with_reducible refine wpAny_isSubtype_exc eC ?_;rw[hs])|wp_step)
 change wpAny _ _ (isSubtype (.ref C)<|.ref C) _ _ _;refine wpAny_isSubtype_exc eC ?_;rw[hs];repeat (first|(with_reducible refine wpAny_loadPart_at eX ?_)|wp_step)
 change wpAny _ _ (typeLookup (.ref C) _) _ _ _;refine l1.here (s:=⟨_,g,d,t,os⟩) ?_;refine xDc<|xAd<|b1.here (s:=⟨_,g,d,t,os⟩) ?_;refine xAd (wpAny_call<|codeAny_mono hq λr s' z=>?_);rcases r with ee|(vv|_|_|_) <;> first|exact z|exact False.elim z|skip
 obtain⟨rfl,z⟩:=z;exact xAe (a:=some Value.none)<|xAe z
end
def XO(C:Addr)(dx:Option Addr)(e:Addr):HO:=.ext λh=>∃t,h.get? e=some (zAs C t dx)
def XO.ok{P:Program}{h:Heap}{C e t:Addr}{dx:Option Addr}(g:h.get? e=some (zAs C t dx)):zAc P w H h e<|XO C dx e:=
 ⟨⟨t,g⟩,⟨_,g⟩,λ_ _ ⟨t',g'⟩ k=>⟨t',k _ g'⟩⟩
structure XMk(K:xFr)(C f:Addr):Prop where
 obj:∃nm q N bs bm hdct sn sub ab col dd k0 k1 k2 k3 k5,K.lookup C=some (excClassObj nm q C N bs bm hdct sn sub ab col dd k0 k1 k2 k3 k5 "ValueError.__new__")/\W.tailIn K bmV bm=true
 init:W.findIn K (.ref C) "__init__"=some (some (.ref f))
 fn:W.isFn K (.ref f)=true
 kp:W.keepIn K (.ref C)=true
def zEv(C:Addr)(sp:Sp)(E:XK)(t:TA):TE:=λσ H Q=>t σ H λvs H1=>vs.length<=1000/\∀e,H1 e=none->sp (.ref e::vs) (upd H1 e<|XO C none e) (λv H2=>v=.non/\Q (.ref e) H2) E
section
variable{X:Cx}{CX:CXT}{k:Nat}{f C:Addr}{fd:FuncData}{ps:List Str}{sp:Sp}{E:XK}{x:Str}{p pos:Pos}{e:Expr}{es:List Expr}{t:TA}
theorem nW{Z:List<|Addr×Obj}{σ:St}{s:Shared}{Q:VK}{vs:List V}(M:XMk X.K C f)(F:zAv X.prog X.w X.K X.mg X.base CX k f fd ps sp)(hr:zA4 (k+1) X.A)(hb:zAm X.K fd ps [])(hx:zBy CX X E)(I:Inv X Z σ H s)(r:zAg vs us)(hv:vs.length<=1000)(h:∀e,H e=none->sp (.ref e::vs) (upd H e<|XO C none e) (λv H2=>v=.non/\Q (.ref e) H2) E) :
  wpAny (model X.prog X.w) X.A (call (.ref C) us) (EP X Z σ Q) X.xe s:=by
 obtain⟨nm,q,N,bs,bm,hdct,sn,sub,ab,col,dd,k0,k1,k2,k3,k5,lk,tl⟩:=M.obj;obtain⟨hp,g,d,tk,os⟩:=s;have KX:X.K.In hp:=I.kIn;have hq:=h (hp.objs.size+1)<|I.hok.fresh<|Nat.le_succ _;have kp:∀b o,hp.get? b=some o->((hp.push {cls:=.type "tuple",data:=.seq us.toArray}).push<|zAs C hp.objs.size none).get? b=some o:=λb o e=>xAf _<|xAf _ e;have eX:((hp.push {cls:=.type "tuple",data:=.seq us.toArray}).push<|zAs C hp.objs.size none).get? (hp.objs.size+1)=some (zAs C hp.objs.size none):=by heap_get
 have I2:Inv X Z σ (upd H (hp.objs.size+1)<|XO C none<|hp.objs.size+1) ⟨(hp.push {cls:=.type "tuple",data:=.seq us.toArray}).push<|zAs C hp.objs.size none,g,d,tk,os⟩:=
  I.laid (a:=hp.objs.size+1) (t':=tk) kp (Nat.le_succ _) (XO.ok eX)
 have r2:zAg (V.ref (hp.objs.size+1)::vs)<|Value.ref (hp.objs.size+1)::us:=.cons rfl r;have hl:(Value.ref (hp.objs.size+1)::us++[]).length=ps.length:=by
  rw[xB0,<- r2.length];exact F.len _ _ _ _ hq
 have hbb:=hb _ (Value.ref (hp.objs.size+1)::us) I2.kIn hl;rw[xB0] at hbb;refine wpAny_call<|rV (KX _ _ lk) (W.tail_of_in KX tl) (W.looks_findIn KX M.init) (λself=>W.bind_fn KX self<|beq_iff_eq.mp M.fn) (by rw[<- r.length];exact small hv) ?_;refine codeAny_mono (F.run _ X.stack _ _ ⟨Value.ref (hp.objs.size+1)::us,[]⟩ (Value.ref (hp.objs.size+1)::us) _ _ E (hr.make C us []) (I2.env0.make C us []) hbb r2 hq) λr' s' hq'=>?_;cases r' with
 |error er=>exact hx Z σ _ _ er s' I2 hq'
 |ok fl=>
  cases fl with
  |ret u=>
   obtain⟨v,H',I3,rv,ev,q3⟩:=I2.after hq';subst ev;exact⟨rv,⟨V.ref<|hp.objs.size+1,H',I3,rfl,q3⟩⟩
  |next=>exact False.elim hq'
  |brk=>exact False.elim hq'
  |cont=>exact False.elim hq'
def qu(M:XMk X.K C f)(F:zAv X.prog X.w X.K X.mg X.base CX k f fd ps sp)(hr:zA4 (k+1) X.A)(hg:Gl X x)(hm:X.mg x=some (.ref C))(hb:zAm X.K fd ps [])(hx:zBy CX X E)(ha:PA X (e::es) t)(hdb:(x==("__debug__":Str))=false:=by decide)(he:starEach (e::es) X.env=(false,eval e X.env)::starEach es X.env:=by rfl)(hpl:(backTo pos<|starEach es X.env).any (·.1)=false:=by rfl) :
  PE X (.Call (.Name x p) (e::es) [] pos) (zEv C sp E t):=by
 intro Z s σ H Q I h;refine wpAny_Call_Name_kw (eY I hg hm ?_ hdb);refine W.callWith_K (h₀:=X.base) I.ok.mod.kin M.kp (thn (ha pos Z s σ H _ I h) λus s1 ⟨vs,H1,I1,r,z,q⟩=>⟨I1.kIn,?_⟩) he hpl;exact nW M F hr hb hx I1 r z q
end
end L2
namespace L2
open PySem PySem.Spec PyProof.Rows PySem.Builtin PySem.Builtin.ObjectAttr
variable{Q:Unit->Shared->Prop}{C a T D:Addr}{w:World}{H H':Hp}{h h':Heap}{oe:Obj}{Z:List<|Addr×Obj}{σ:St}{s:Shared}{M:Model}{A:Around}{pl:Sem Bool}{nm q:Str}{hdct ab:Bool}{sn:List Str}{sub:List Value}{col:Option Bool}{dd:Option Addr}{k0 k1 k2 k3 k5:Option Value}{newId:String}
section
variable{prog:Program}{w:World}{A:Around}{K:xFr}{h:Heap}{g:Array GenState}{d:Drawn}{tk:Nat}{os:OsState}{E:Value->Shared->Prop}{e C t0:Addr}{cd:ClassData}{name:Str}{v:Value}
structure XSt(K:xFr)(C:Addr):Prop where
 cls:∃cd,W.clsIn K C=some cd/\cd.hasDict=true/\cd.mro.isEmpty=false/\cd.mro.contains (.type "object")=true/\∀self,refuseLoop self "__setattr__" cd.mro=pure ()
 sa:W.findIn K (.ref C) "__setattr__"=some (some (.builtin "object.__setattr__"))
def va(KX:K.In h)(S:XSt K C)(na:W.findIn K (.ref C) name=some none)(ge:h.get? e=some (zAs C t0 none))(hq:∀h' t',h'.get? e=some (zAs C t0<|some h.objs.size)->h'.Ns1 h.objs.size (λy=>if y=name then some v else none)->(∀b o,b≠e->h.get? b=some o->h'.get? b=some o)->Q () ⟨h',g,d,t',os⟩) :
  wpAny (model prog w) A (setAttr (.ref e) name v) Q E ⟨h,g,d,tk,os⟩:=by
 obtain⟨cd,hc,hd,hne,hob,hov⟩:=S.cls;have J:PySem.W.InstAt h e (zAs C t0 none) C none:=⟨ge,rfl,rfl,trivial⟩
 refine W.set_plain (s:=⟨h,g,d,tk,os⟩) KX J S.sa ?_;have SO:=PySem.F.store_object;have isO:PySem.W.Looks (model prog w) h (isInstance (.ref e)<|.type "object") true:=J.type.andThen (W.looks_mroIn KX<|by unfold W.mroIn;rw[hc,Option.bind_some,xCf (by rw[hne];decide),hob]);have lm:PySem.W.Looks (model prog w) h (mroOf<|.ref C) cd.mro:=(W.looks_clsIn KX hc).andThen .now;have la:=W.looks_findIn (M:=model prog w) KX na;refine codeAny_call_builtin SO.slot.plain SO.entry<|@PySem.W.check_slot (model prog w) _ _ ⟨h,g,d,tk+1,os⟩ "object.__setattr__" "object" "__setattr__" (.ref e) [.str name tk,v] [] _ SO.kind SO.split isO (SO.args (.ref e) (.str name tk) v) ?_;rw[W.osa_eq,refuse_eq];refine xAd<|xAd<|J.type.here (s:=⟨h,g,d,tk+1,os⟩)<|xAd<|lm.here (s:=⟨h,g,d,tk+1,os⟩) ?_;rw[hov];refine xAe<|xAd<|J.type.here (s:=⟨h,g,d,tk+1,os⟩)<|xAd<|la.here (s:=⟨h,g,d,tk+1,os⟩)<|xAd ?_;refine xAe (a:=(none:Option Value)) ?_;show wpAny _ _ (storeInOwnDict (.ref e) (.ref C) (.str name tk) name v _) _ _ _;unfold storeInOwnDict;refine xAd<|xAe ?_;dsimp only;rw[xCf<|show ¬ (Value.ref C==Value.type "module")=true by simp];refine xAd ?_;unfold ownDictForStores instanceDict;refine xAd<|wpAny_loadPart ge ?_;dsimp only;refine xAd<|(W.looks_clsIn KX hc).here (s:=⟨h,g,d,tk+1,os⟩) ?_;rw[hd];rw[xCf (by decide),xCf<|by show ¬ (!true||!true)=true;decide];have ge1:(h.push {cls:=.type "dict",data:=.dict #[]}).get? e=some (zAs C t0 none):=xAf _ ge;have es:e≠h.objs.size:=xA0<|xA1 ge;refine xAd<|wpAny_alloc (s:=⟨h,g,d,tk+1,os⟩)<|xAd<|wpAny_update ge1 ?_;refine xAe (a:=some h.objs.size) ?_;show wpAny _ _ (storeInDict h.objs.size (.str name tk) name v) _ _ ⟨(h.push {cls:=.type "dict",data:=.dict #[]}).update e λo=>{cls:=o.cls,dict:=some h.objs.size,data:=o.data,slots:=o.slots},g,d,tk+1,os⟩;have gd:((h.push {cls:=.type "dict",data:=.dict #[]}).update e λo=>{cls:=o.cls,dict:=some h.objs.size,data:=o.data,slots:=o.slots}).get? h.objs.size=some {cls:=.type "dict",data:=.dict #[]}:=
  (Heap.get?_update_ne _ _ _ _ es.symm).trans (Heap.get?_push_at rfl rfl)
 have nd:((h.push {cls:=.type "dict",data:=.dict #[]}).update e λo=>{cls:=o.cls,dict:=some h.objs.size,data:=o.data,slots:=o.slots}).Ns h.objs.size λ_=>none:=⟨_,#[],_,gd,rfl,λz hz=>absurd hz (by simp),λ_=>rfl⟩
 unfold storeInDict newKeyGuard;refine xAd (xAe<|xAd<|wpAny_nsSet1 (Heap.Ns1.of_empty nd) λh2 n2 s2=>?_);obtain⟨oD,eD,pD,gD,dD,cD⟩:=n2.count<|Within.cons name v Within.nil;refine xAd<|wpAny_lookBehind gD (by rw[dD];exact pastItsLine_dict (xCk cD<|by rw[xAo,List.length_nil,sizeLine_eq];lia)) ?_;refine xAe<|hq h2 _ ?_ n2 λb o hb eb=>?_
 ·exact(s2.2 e es).trans<|xA7 _ ge1 rfl
 ·exact(s2.2 b<|xA0<|xA1 eb).trans<|(Heap.get?_update_ne _ _ _ _ hb).trans<|xAf _ eb
end
section
variable{X:Cx}{Z:List<|Addr×Obj}{σ:St}{H:Hp}{s:Shared}
def zD6(f g:Str)(y:V):([(f,y)]:List<|Str×V).lookup g=if g=f then some y else none:=by
 rw[List.lookup_cons];by_cases z:g=f
 ·rw[xCg z,show(g==f)=true from beq_iff_eq.mpr z]
 ·rw[xCf z,show(g==f)=false from beq_eq_false_iff_ne.mpr z];rfl
def tx{e:Addr}{f:Str}{y:V}{u:Value}(I:Inv X Z σ H s)(he:H e=some (XO C none e))(S:XSt X.K C)(n:zAr X.K C f)(ry:zAi y u)(h:∀dx s',H dx=none->Inv X Z σ (upd (upd H dx<|.xd [(f,y)]) e<|XO C (some dx) e) s'->Q () s'):wpAny (model X.prog X.w) X.A (setAttr (.ref e) f u) Q X.xe s:=by
 obtain⟨hp,g,d,tk,os⟩:=s;obtain⟨⟨t0,ge⟩,_,_⟩:=(show zAc X.prog X.w H hp e (XO C none e) from I.hok e _ he)
 refine va I.kIn S n ge λh' t' g1 g2 kp=>?_;have fr:H hp.objs.size=none:=I.hok.fresh<|xAg _;have ed:e≠hp.objs.size:=dq he fr;refine h hp.objs.size _ fr ?_;have hE:∀b,H b=none->b≠e:=λb z w=>by rw[w,he] at z;cases z
 have nx:∀b o,hp.get? b=some o->b≠hp.objs.size:=λb o q=>xA0<|xA1 q;have un:Un X.fs [] H (upd (upd H hp.objs.size<|.xd [(f,y)]) e<|XO C (some hp.objs.size) e) hp h':=by
  refine⟨λb o q z _ _=>kp b o (hE b z) q,λb o q z _ _=>⟨o.slots,kp b o (hE b z) q⟩,λb o q z _=>?_,λb o q _=>?_,λb xs q=>?_,λb o u q=>?_,λb ps q=>⟨#[],?_⟩⟩
  ·rw[db<|hE b z,db<|nx b o q];exact z
  ·by_cases be:b=e
   ·exact⟨_,by rw[be];exact g1⟩
   ·exact⟨o,kp b o be q⟩
  ·rw[db (fj q he<|by intro z;cases z),db<|dq q fr];exact q
  ·rw[db (fj q he<|by intro z;cases z),db<|dq q fr];exact q
  ·rw[db (fj q he<|by intro z;cases z),db<|dq q fr,q,Array.append_empty]
 have hok:HOk X.prog X.w (upd (upd H hp.objs.size<|.xd [(f,y)]) e<|XO C (some hp.objs.size) e) h':=λb o q=>by
  by_cases be:b=e
  ·subst be;rw[dg] at q;cases q;exact XO.ok g1
  ·rw[db be] at q;by_cases bd:b=hp.objs.size
   ·subst bd;rw[dg] at q;cases q;refine⟨_,g2,λf'=>?_⟩;rw[zD6];by_cases z:f'=f
    ·rw[xCg z,xCg z];exact ry
    ·rw[xCf z,xCf z];exact trivial
   ·rw[db bd] at q;refine(I.hok b o q).stay (λc v hc q2=>kp c v ?_ q2) (λc z=>?_) λc xs z=>?_
    ·rcases hc with z|z
     ·rw[z];exact be
     ·exact fj z he (by intro z';cases z')
    ·rw[db (fj z he<|by intro z';cases z'),db<|dq z fr];exact z
    ·rw[db (fj z he<|by intro z';cases z'),db<|dq z fr];exact z
 exact I.un (t':=t') un hok
end
def zGn(K:xFr)(ta tv:TE)(f:Str):TS:=λD σ H=>tv σ H λy H1=>ta σ H1 λx H2=>∃e C,x=.ref e/\H2 e=some (XO C none e)/\XSt K C/\zAr K C f /\
 ∀dx,H2 dx=none->D.nx σ (upd (upd H2 dx<|.xd [(f,y)]) e<|XO C (some dx) e)
section
variable{X:Cx}{o value:Expr}{f:Str}{pos pos':Pos}{ta tv:TE}
def tN(ha:PE X o ta)(hv:PE X value tv)(hs:swapsWith value (some<|.Attribute o f pos') pos.line X.env=pure false):PS X (.Assign [.Attribute o f pos'] value pos)<|zGn X.K ta tv f:=by
 intro Z s σ H D I h;refine plainObj_wpAny_Assign_Attribute (thn (hv Z s σ H _ I h) λr s1 ⟨y,H1,I1,ry,q1⟩=>thn (ha Z s1 σ H1 _ I1 q1) λu s2 ⟨x,H2,I2,rx,e,C,ex,he,S,n,q2⟩=>?_) hs;subst ex;obtain rfl:u=Value.ref e:=rx;exact tx I2 he S n ry λdx s3 fr I3=>⟨σ,_,I3,q2 dx fr⟩
end
structure XGt(K:xFr)(C:Addr):Prop where
 hd:W.hasDictIn K C=true
 ga:W.findIn K (.ref C) "__getattribute__"=some (some (.builtin "BaseException.__getattribute__"))
 ng:W.findIn K (.ref C) "__getattr__"=some none
 mb:W.mroIn K C (.type "BaseException")=some true
noncomputable def zCv(K:xFr)(C:Addr):Bool:=match K.lookup C with
 | some ⟨.type "type",_,.cls cd,sl⟩=>(match cd.mro,sl.toList with
  |.ref C'::bm,[_,_,_,_,some<|.builtin n,_]=>C'==C&&n == "ValueError.__new__" && !cd.hasDel&&W.tailIn K bmV bm
  |_,_=>false)
 |_=>false
section
variable{K:xFr}{C:Addr}
def fJ(q:zCv K C=true):∃nm qn N bs bm hdct sn sub ab col dd k0 k1 k2 k3 k5,K.lookup C=some (excClassObj nm qn C N bs bm hdct sn sub ab col dd k0 k1 k2 k3 k5 "ValueError.__new__")/\W.tailIn K bmV bm=true:=by
 unfold zCv at q;split at q
 ·rename_i dd cd sl ho
  split at q
  ·rename_i C' bm k0 k1 k2 k3 n k5 hm hs
   simp only[xCh,beq_iff_eq,Bool.not_eq_true'] at q;obtain⟨⟨⟨rfl,rfl⟩,hdel⟩,ht⟩:=q;obtain⟨nm,bs,mro,ns,qn,hd,sn,sub,ab,col,del⟩:=cd;dsimp only at hm hdel;subst hm hdel;obtain⟨l⟩:=sl;simp only at hs;subst hs;exact⟨nm,qn,ns,bs,bm,hd,sn,sub,ab,col,dd,k0,k1,k2,k3,k5,ho,ht⟩
  ·cases q
 ·cases q
def lu(self:Value):refuseLoop self "__setattr__" bmV=pure ():=by kernel_rfl
theorem gz(self:Value):∀{l:List Value},W.tailIn K bmV l=true->refuseLoop self "__setattr__" l=pure ()
 |[],e=>by cases e
 |v::r,e=>by
  unfold W.tailIn at e;rcases Bool.or_eq_true_iff.mp e with q|q
  ·rw[beq_iff_eq.mp q];exact lu self
  ·split at q
   ·split at q
    ·simp only[xCh] at q;rw[refuseLoop_ref];exact gz self q.2
    ·cases q
   ·cases q
theorem kG:∀{l:List Value},W.tailIn K bmV l=true->l.contains (.type "object")=true
 |[],e=>by cases e
 |v::r,e=>by
  unfold W.tailIn at e;rcases Bool.or_eq_true_iff.mp e with q|q
  ·rw[beq_iff_eq.mp q];rfl
  ·split at q
   ·split at q
    ·simp only[xCh] at q;rw[List.contains_cons,kG q.2,Bool.or_true]
    ·cases q
   ·cases q
structure XC(K:xFr)(C:Addr):Prop where
 f:zCv K C=true
 hd:W.hasDictIn K C=true
 sa:W.findIn K (.ref C) "__setattr__"=some (some (.builtin "object.__setattr__"))
 ga:W.findIn K (.ref C) "__getattribute__"=some (some (.builtin "BaseException.__getattribute__"))
 ng:W.findIn K (.ref C) "__getattr__"=some none
 mb:W.mroIn K C (.type "BaseException")=some true
 ha:W.findIn K (.ref C) "__class__"=some (some (.builtin "object.__class__"))
 hm:W.mroIn K C (.type "object")=some true
 kp:W.keepIn K (.ref C)=true
def XC.st(x:XC K C):XSt K C:=by
 obtain⟨nm,qn,N,bs,bm,hdct,sn,sub,ab,col,dd,k0,k1,k2,k3,k5,lk,tl⟩:=fJ x.f;refine⟨⟨_,by unfold W.clsIn;rw[lk],?_,rfl,?_,λself=>?_⟩,x.sa⟩
 ·have h:=x.hd;unfold W.hasDictIn W.clsIn at h;rw[lk] at h;simpa using h
 ·show(Value.ref C::bm).contains _=true;rw[List.contains_cons,kG tl,Bool.or_true]
 ·show refuseLoop self "__setattr__" (Value.ref C::bm)=pure ();rw[refuseLoop_ref];exact gz self tl
def XC.gt(x:XC K C):XGt K C:=⟨x.hd,x.ga,x.ng,x.mb⟩
def XC.mkx(x:XC K C){f:Addr}(i:W.findIn K (.ref C) "__init__"=some (some<|.ref f))(fn:W.isFn K (.ref f)=true):XMk K C f:=⟨fJ x.f,i,fn,x.kp⟩
end
theorem zAc.there{P:Program}{o:HO}(x:zAc P w H h a o):∃u,h.get? a=some u:=by
 cases o with
 |lst xs=>obtain⟨_,_,_,_,e⟩:=x;exact⟨_,e⟩
 |tup xs=>obtain⟨_,_,_,ob,e,_⟩:=x;exact⟨_,e⟩
 |dK kvs=>obtain⟨_,_,_,_,o,_,_,e,_⟩:=x;exact⟨_,e⟩
 |dT kvs=>obtain⟨_,_,_,_,o,_,_,e,_⟩:=x;exact⟨_,e⟩
 |set S n=>obtain⟨o,_,_,_,e,_⟩:=x;exact⟨_,e⟩
 |ins C dx fs=>obtain⟨_,_,_,e,_⟩:=x;exact⟨_,e⟩
 |own y=>obtain⟨_,e⟩:=x;exact⟨_,e⟩
 |xd fs=>obtain⟨_,⟨_,_,_,e,_⟩,_⟩:=x;exact⟨_,e⟩
 |rng lo hi=>obtain⟨_,_,_,e⟩:=x;exact⟨_,e⟩
 |frz ob u=>obtain⟨e,_⟩:=x;exact⟨_,e⟩
 |tbl ps=>exact⟨_,(show h.get? a=some _ from x)⟩
 |met f y=>exact⟨_,(show h.get? a=some _ from x)⟩
 |ext φ=>obtain⟨_,e,_⟩:=x;exact e
section
variable{X:Cx}{Z:List<|Addr×Obj}{σ:St}{H:Hp}{s:Shared}{h':Heap}
def Inv.laidN{o:HO}{t':Nat}(I:Inv X Z σ H s)(k:∀b u,s.heap.get? b=some u->h'.get? b=some u)(hf:s.heap.get? a=none)(new:zAc X.prog X.w (upd H a o) h' a o) :
  H a=none/\Inv X Z σ (upd H a o) {s with heap:=h',toks:=t'}:=by
 have hn:H a=none:=by
  cases q:H a with
  |none=>rfl
  |some u=>
   obtain⟨v,e⟩:=(I.hok a u q).there;rw[hf] at e;cases e
 refine⟨hn,I.un ⟨λb u q _ _ _=>k b u q,λb u q _ _ _=>⟨u.slots,k b u q⟩,λb u q n _=>?_,λb u q _=>⟨u,k b u q⟩,λb xs q=>?_,λb u xs q=>?_,λb ps q=>⟨#[],?_⟩⟩ λb u e=>?_⟩
 ·rw[db λz=>by rw[z,hf] at q;cases q];exact n
 ·rw[db<|dq q hn];exact q
 ·rw[db<|dq q hn];exact q
 ·rw[db<|dq q hn,q,Array.append_empty]
 ·by_cases hb:b=a
  ·subst hb;rw[dg] at e;cases e;exact new
  ·rw[db hb] at e;exact(I.hok b u e).stay (λc v _ q=>k c v q) (λc q=>by rw[db<|dq q hn];exact q) λc xs q=>by rw[db<|dq q hn];exact q
end
section
variable{M:Model}{A:Around}{E:Value->Shared->Prop}{s:Shared}{base:Heap}{env:Env}{outer:List Env}{L e:Addr}{oe:Obj}{vs:Array Value}
structure zCw(h h':Heap)(fs no:List Addr)(e T:Addr)(fl:Value)(oe:Obj):Prop where
 new:h.objs.size<=T
 ent:∃oT ts,h'.get? T=some oT/\oT.data=.fields ts/\ts[3]?=some fl
 exc:h'.get? e=some (Obj.mapFields (·.setIfInBounds 1 (.ref T)) oe)
 keep:∀b o,b≠e->b∉fs->b∉no->h.get? b=some o->h'.get? b=some o
 frs:∀b o,b∈fs->h.get? b=some o->∃sl,h'.get? b=some {o with slots:=sl}
def kL{head:Value}{hn:Bool}(hfr:A.frames=some (env::outer))(hl:s.heap.FunFrames base<|env::outer)(hf:env.frame=some L)(he:s.heap.get? e=some oe)(hd:oe.data=.fields vs)(hsz:1<vs.size)(h:∀h' T,zCw s.heap h' (frs<|env::outer) [] e T (rawInt L) oe->Q () {s with heap:=h'}) :
  wpAny M A (do let a <- frameOf env;let pl <- entryPlaceOf L hn;let b <- EntryCells.newEntry head a .none (rawInt L) .none pl;setField (.ref e) 1 b) Q E s:=by
 have hne:e∉frs (env::outer):=λhm=>by
  obtain⟨_,o,ho,hnf⟩:=hl.mem hm;cases he.symm.trans ho;exact hnf vs hd
 refine xAd (wpAny_frameOf_fun hfr hl hf λh1 so=>xAd<|wpAny_entryPlaceOf λpl hpl=>?_);unfold EntryCells.newEntry newFields;refine xAd<|xBl ?_<|hpl.sizeOk5 _ _ _ _ _;dsimp only;generalize hO:({cls:=.type "traceback",dict:=none,data:=.fields ([head,Value.ref L,Value.none,rawInt L,Value.none]++(if pl.isEmpty then List.replicate 6 Value.none else pl)).toArray}:Obj)=ob;have g1:h1.get? e=some oe:=(so.2.1 e hne).trans he;have g2:(h1.push ob).get? e=some oe:=xAf ob g1;have nT:h1.objs.size≠e:=Nat.ne_of_gt<|xA1 g1;have hfo:ob.isFreed=false:=by rw[<- hO];rfl
 have gT:(h1.push ob).get? h1.objs.size=some ob:=Heap.get?_push_at rfl hfo;refine wpAny_setField g2 hd hsz<|h _ h1.objs.size ⟨by rw[so.1];exact xAg _,⟨ob,_,(xA6 _ _<|Ne.symm nT).trans gT,by rw[<- hO],?_⟩,xA7 _ g2<|Obj.isFreed_of_fields<|Obj.data_mapFields hd _,λb o be bf _ q=>?_,λb o bf q=>?_⟩
 ·rcases hpl with rfl|⟨_,_,_,_,_,_,_,rfl⟩ <;> simp
 ·exact(xA6 _ _<|Ne.symm be).trans<|xAf ob<|(so.2.1 b bf).trans q
 ·obtain⟨sl,z⟩:=so.2.2 b o q;exact⟨sl,(xA6 _ _ λ(w:e=b)=>hne<|by rw[w];exact bf).trans<|xAf ob z⟩
def kn(hfr:A.frames=some (env::outer))(hl:s.heap.FunFrames base<|env::outer)(hf:env.frame=some L)(he:s.heap.get? e=some oe)(hd:oe.data=.fields vs)(h1:vs[1]?=some .none)(h:∀h' T,zCw s.heap h' (frs<|env::outer) [] e T (rawInt L) oe->Q () {s with heap:=h'}):wpAny M A (noteFrame (.ref e) env) Q E s:=by
 unfold noteFrame;rw[hf];refine xAd<|xDa he hd h1 ?_;rw[xCf<|by decide];exact kL hfr hl hf he hd (xB7.mp h1).1 h
def km{T0:Addr}{o0:Obj}{t0:Array Value}(hfr:A.frames=some (env::outer))(hl:s.heap.FunFrames base<|env::outer)(hf:env.frame=some L)(he:s.heap.get? e=some oe)(hd:oe.data=.fields vs)(h1:vs[1]?=some (.ref T0))(hT:s.heap.get? T0=some o0)(hdT:o0.data=.fields t0)(h3:t0[3]?=some .none)(hne:T0≠e)(h:∀h' T,zCw s.heap h' (frs<|env::outer) [T0] e T (rawInt L) oe->T0≠T->Q () {s with heap:=h'}):wpAny M A (noteFrame (.ref e) env) Q E s:=by
 have off:∀b,b≠T0->(s.heap.update T0<|Obj.mapFields (·.setIfInBounds 3 Value.none)).get? b=s.heap.get? b:=λb hb=>xA6 _ _<|Ne.symm hb;have plain:∀b o,s.heap.get? b=some o->(∀xs,o.data≠.fields xs)->b≠T0:=λb o q hx z=>by
  rw[z] at q;cases hT.symm.trans q;exact hx t0 hdT
 have hl2:(s.heap.update T0<|Obj.mapFields (·.setIfInBounds 3 Value.none)).FunFrames base<|env::outer:=hl.of_keeps λb o q hx=>⟨o,(off b<|plain b o q hx).trans q,rfl⟩
 unfold noteFrame;rw[hf];refine xAd<|xDa he hd h1 ?_;rw[xCg<|show(Value.ref T0 != Value.none)=true by simp];refine xAd<|xDa hT hdT h3 ?_;rw[xCf<|show ¬ (Value.none==rawInt L)=true by simp[rawInt]];refine xAd<|wpAny_setField hT hdT (xB7.mp h3).1 ?_;refine kL (s:={s with heap:=s.heap.update T0<|Obj.mapFields (·.setIfInBounds 3 Value.none)}) hfr hl2 hf ((off e<|Ne.symm hne).trans he) hd (xB7.mp h1).1 λh' T n=>?_;have sz:(s.heap.update T0<|Obj.mapFields (·.setIfInBounds 3 Value.none)).objs.size=s.heap.objs.size:=by simp
 have nw:s.heap.objs.size<=T:=sz▸n.new;refine h h' T ⟨nw,n.ent,n.exc,λb o be bf bn q=>n.keep b o be bf (by simp)<|(off b<|by simpa using bn).trans q,λb o bf q=>?_⟩<|xA0<|xBc (xA1 hT) nw;obtain⟨_,ob,go,hx⟩:=hl.mem bf;cases q.symm.trans go;exact n.frs b o bf<|(off b<|plain b o q hx).trans q
def jf{fs no:List Addr}{fl:Value}(n:zCw h s.heap fs no e T fl oe)(hd:oe.data=.fields vs)(hsz:1<vs.size)(hh:∀b o,b∈fs->h.get? b=some o->b<h.objs.size)(hT:T≠e)(k:∀h',zCw h h' fs no e T .none oe->Q () {s with heap:=h'}):wpAny M A (setFlight (.ref e) none) Q E s:=by
 obtain⟨oT,ts,g1,g2,g3⟩:=n.ent;have hd3:=Obj.data_mapFields hd (·.setIfInBounds 1 (Value.ref T));unfold setFlight;refine xAd<|xDa n.exc hd3 (x:=.ref T) (by simp[hsz]) ?_;rw[xCg<|show(Value.ref T != Value.none)=true by simp];have l3:3<ts.size:=(xB7.mp g3).1;have lo:∀b o,h.get? b=some o->T≠b:=λb o q=>Nat.ne_of_gt<|xBc (xA1 q) n.new;refine wpAny_setField g1 g2 l3<|k _ ⟨n.new,⟨_,_,xA7 _ g1<|Obj.isFreed_of_fields<|Obj.data_mapFields g2 _,Obj.data_mapFields g2 _,?_⟩,(xA6 _ _ hT).trans n.exc,λb o be bf bn q=>(xA6 _ _<|lo b o q).trans<|n.keep b o be bf bn q,λb o bf q=>?_⟩
 ·simp[l3]
 ·obtain⟨sl,z⟩:=n.frs b o bf q;exact⟨sl,(xA6 _ _<|lo b o q).trans z⟩
end
noncomputable abbrev zFp(C t T:Addr)(dx:Option Addr):Obj:={cls:=.ref C,dict:=dx,data:=.fields #[.ref t,.ref T,.none,.none,.bool false,.none]}
def XF(C:Addr)(dx:Option Addr)(e T:Addr):HO:=.ext λh=>∃t,h.get? e=some (zFp C t T dx)
def XF.ok{P:Program}{e t:Addr}{dx:Option Addr}(g:h.get? e=some (zFp C t T dx)):zAc P w H h e<|XF C dx e T:=
 ⟨⟨t,g⟩,⟨_,g⟩,λ_ _ ⟨t',g'⟩ k=>⟨t',k _ g'⟩⟩
def del(H:Hp)(e:Addr):Hp:=λb=>if b=e then none else H b
def kS{e:Addr}:del H e e=none:=xCg rfl
def iI{e b:Addr}(h:b≠e):del H e b=H b:=xCf h
def mf{e:Addr}{o:HO}:upd (del H e) e o=upd H e o:=by
 funext b
 by_cases z:b=e
 ·rw[z,dg,dg]
 ·rw[db z,db z,iI z]
structure TB(T:Addr)(h0 h:Heap)(H:Hp):Prop where
 ent:∃oT ts,h.get? T=some oT/\oT.data=.fields ts/\ts[3]?=some .none
 old:h0.get? T=none
 un:H T=none
def CXo(P:Program)(w:World):CXT:=λouter H s E ev s'=>∃(e C T:Addr) (dx:Option Addr) (H':Hp),ev=.ref e/\H' e=none/\T≠e/\TB T s.heap s'.heap H'/\s'.os=s.os/\AllBare s'.gens /\
 Un (frs outer) [] H (upd H' e<|XF C dx e T) s.heap s'.heap/\HOk P w (upd H' e<|XF C dx e T) s'.heap/\E (.ref C) dx H'
def fZ{P:Program}{fs no:List Addr}{e:Addr}{fl:Value}{φ:Heap->Prop}{o:HO}(hok:HOk P w H h)(frf:∀b∈fs,H b=none)(hno:∀b∈no,H b=none)(he:H e=some (.ext φ))(n:zCw h h' fs no e T fl oe)(hx:zAc P w (upd H e o) h' e o):Un fs no H (upd H e o) h h'/\HOk P w (upd H e o) h':=by
 have ne:∀b,H b=none->b≠e:=λb z y=>by rw[y,he] at z;cases z
 have nb:∀b u,H b=some u->b∉fs/\b∉no:=λb u q=>⟨(λz=>by rw[frf b z] at q;cases q),(λz=>by rw[hno b z] at q;cases q)⟩
 refine⟨⟨λb u q z b1 b2=>n.keep b u (ne b z) b1 b2 q,λb u q z b1 _=>n.frs b u b1 q,λb u q z _=>by rw[db<|ne b z];exact z,λb u q b2=>?_,λb xs q=>?_,λb u v q=>?_,λb ps q=>⟨#[],?_⟩⟩,λb u q=>?_⟩
 ·by_cases be:b=e
  ·rw[be];exact⟨_,n.exc⟩
  ·by_cases bf:b∈fs
   ·obtain⟨sl,z⟩:=n.frs b u bf q;exact⟨_,z⟩
   ·exact⟨u,n.keep b u be bf b2 q⟩
 ·rw[db<|fj q he<|by intro z;cases z];exact q
 ·rw[db<|fj q he<|by intro z;cases z];exact q
 ·rw[db (fj q he<|by intro z;cases z),q,Array.append_empty]
 ·by_cases be:b=e
  ·subst be;rw[dg] at q;cases q;exact hx
  ·rw[db be] at q;refine(hok b u q).stay (λc v hc q2=>?_) (λc z=>?_) λc xs z=>?_
   ·rcases hc with z|z
    ·rw[z] at q2⊢;exact n.keep b v be (nb b u q).1 (nb b u q).2 q2
    ·exact n.keep c v (fj z he<|by intro y;cases y) (nb c _ z).1 (nb c _ z).2 q2
   ·rw[db<|fj z he<|by intro y;cases y];exact z
   ·rw[db<|fj z he<|by intro y;cases y];exact z
def Un.strip{fs:List Addr}(u:Un fs [T] H H' h h')(z:h.get? T=none):Un fs [] H H' h h':=by
 have ne:∀b o,h.get? b=some o->b∉[T]:=λb o q y=>by
  have y':b=T:=by simpa using y
  rw[y',z] at q;cases q
 exact⟨λb o q n b1 _=>u.keep b o q n b1<|ne b o q,λb o q n b1 _=>u.slot b o q n b1<|ne b o q,λb o q n _=>u.free b o q n<|ne b o q,λb o q _=>u.there b o q<|ne b o q,u.tups,u.frzs,u.tbls⟩
def Un.wide{fs:List Addr}(u:Un fs [] H H' h h'):Un fs [T] H H' h h':=
 ⟨λb o q n b1 _=>u.keep b o q n b1 (by simp),λb o q n b1 _=>u.slot b o q n b1 (by simp),λb o q n _=>u.free b o q n (by simp),λb o q _=>u.there b o q (by simp),u.tups,u.frzs,u.tbls⟩
section
variable{X:Cx}{Z:List<|Addr×Obj}{σ:St}{H:Hp}{s s1:Shared}{E':Value->Shared->Prop}{Q:Unit->Shared->Prop}
def rise{e:Addr}{dx:Option Addr}(I:Inv X Z σ H s)(hs:X.stack=X.env::X.outer)(hf:X.env.frame=some X.env.locals)(he:H e=some (XO C dx e))(k:∀s2 T,Inv X Z σ (upd H e<|XF C dx e T) s2->T≠e->TB T X.s₀.heap s2.heap (del H e)->Q () s2) :
  wpAny (model X.prog X.w) X.A (noteFrame (.ref e) X.env) (λ_ s'=>wpAny (model X.prog X.w) X.A (setFlight (.ref e) none) Q E' s') E' s:=by
 obtain⟨⟨t,ge⟩,_,_⟩:=(show zAc X.prog X.w H s.heap e (XO C dx e) from I.hok e _ he)
 have hfr:X.A.frames=some (X.env::X.outer):=hs▸I.ok.frames;have hl:s.heap.FunFrames X.base<|X.env::X.outer:=hs▸I.stack;refine kn hfr hl hf ge rfl rfl λh1 T n=>?_;have Te:T≠e:=Nat.ne_of_gt<|xBc (xA1 ge) n.new;refine jf (s:={s with heap:=h1}) n rfl (by simp) (λb o _ q=>xA1 q) Te λh2 n2=>?_;have frf:∀b∈frs (X.env::X.outer),H b=none:=λb hb=>I.stkFree b (by rw[hs];exact hb);obtain⟨u,ok⟩:=fZ (o:=XF C dx e T) I.hok frf (λb z=>absurd z<|by simp) he n2<|XF.ok (t:=t) n2.exc;have u':Un (frs X.stack) [] H (upd H e<|XF C dx e T) s.heap h2:=by rw[hs];exact u
 refine k {s with heap:=h2} T (I.call (g':=s.gens) (t':=s.toks) (d':=s.drawn) (ch:=[]) u' ok I.bare λb z=>absurd z<|by simp) Te ⟨n2.ent,Heap.get?_none_of_le<|xCk I.sz n2.new,?_⟩;rw[iI Te];exact I.hok.fresh n2.new
def land{Ex:XK}{ev:Value}(I:Inv X Z σ H s)(hs:X.stack=X.env::X.outer)(hf:X.env.frame=some X.env.locals)(F:CXo X.prog X.w X.stack H s Ex ev s1)(k:∀s2 (e C T:Addr) (dx:Option Addr) (H':Hp),ev=.ref e->H' e=none->Inv X Z σ (upd H' e<|XF C dx e T) s2->T≠e->TB T X.s₀.heap s2.heap H'->Ex (.ref C) dx H'->Q () s2) :
  wpAny (model X.prog X.w) X.A (noteFrame ev X.env) (λ_ s'=>wpAny (model X.prog X.w) X.A (setFlight ev none) Q E' s') E' s1:=by
 obtain⟨e,C,T0,dx,H',rfl,hn,Te0,tb,ho,hb,un,hok,q⟩:=F;obtain⟨hp1,g1,d1,t1,os1⟩:=s1;obtain rfl:os1=s.os:=ho;have I1:Inv X Z σ (upd H' e<|XF C dx e T0) {s with heap:=hp1,gens:=g1,drawn:=d1,toks:=t1}:=I.call (ch:=[]) un hok hb (λb z=>absurd z<|by simp);have he1:upd H' e (XF C dx e T0) e=some (XF C dx e T0):=dg;obtain⟨⟨t,ge⟩,_,_⟩:=(show zAc X.prog X.w (upd H' e<|XF C dx e T0) hp1 e (XF C dx e T0) from hok e _ he1)
 obtain⟨oT,ts,z1,z2,z3⟩:=tb.ent;have hfr:X.A.frames=some (X.env::X.outer):=hs▸I.ok.frames;have hl:hp1.FunFrames X.base<|X.env::X.outer:=hs▸I1.stack;refine km (s:={s with heap:=hp1,gens:=g1,drawn:=d1,toks:=t1}) hfr hl hf ge rfl rfl z1 z2 z3 Te0 λh1 T n nT=>?_;have Te:T≠e:=Nat.ne_of_gt<|xBc (xA1 ge) n.new;refine jf (s:={s with heap:=h1,gens:=g1,drawn:=d1,toks:=t1}) n rfl (by simp) (λb o _ q=>xA1 q) Te λh2 n2=>?_;have frf:∀b∈frs (X.env::X.outer),upd H' e (XF C dx e T0) b=none:=λb hb=>I1.stkFree b (by rw[hs];exact hb);have hno:∀b∈[T0],upd H' e (XF C dx e T0) b=none:=λb hb=>by
  have:b=T0:=by simpa using hb
  rw[this,db Te0];exact tb.un
 obtain⟨u,ok⟩:=fZ (o:=XF C dx e T) hok frf hno he1 n2<|XF.ok (t:=t) n2.exc;rw[md] at u ok;have u2:Un (frs X.stack) [T0] (upd H' e<|XF C dx e T0) (upd H' e<|XF C dx e T) hp1 h2:=by rw[hs];exact u
 have u3:Un (frs X.stack) [] H (upd H' e<|XF C dx e T) s.heap h2:=(un.wide.trans u2).strip tb.old;refine k {s with heap:=h2,gens:=g1,drawn:=d1,toks:=t1} e C T dx H' rfl hn (I.call (g':=g1) (t':=t1) (d':=d1) (ch:=[]) u3 ok hb λb z=>absurd z<|by simp) Te ⟨n2.ent,Heap.get?_none_of_le<|xCk I1.sz n2.new,?_⟩ q;have:=hok.fresh n2.new;rw[db Te] at this;exact this
end
def Xe(X:Cx)(Lk:Value->Shared->Prop):Prop:=∀(ev:Value)(s1:Shared),(∀E':Value->Shared->Prop,wpAny (model X.prog X.w) X.A (noteFrame ev X.env) (λ_ s2=>wpAny (model X.prog X.w) X.A (setFlight ev none) (λ_ s3=>Lk ev s3) E' s2) E' s1)->X.xe ev s1
def zHm(X:Cx)(Lk:Value->Shared->Prop)(Ex:St->XK):Prop:=∀(Z:List<|Addr×Obj)(σ:St)(e C T:Addr)(dx:Option Addr)(H':Hp)(s':Shared),Inv X Z σ (upd H' e<|XF C dx e T) s'->H' e=none->T≠e->TB T X.s₀.heap s'.heap H'->Ex σ (.ref C) dx H'->Lk (.ref e) s'
structure zA3(X:Cx)(Ex:St->XK):Prop where
 hs:X.stack=X.env::X.outer
 hf:X.env.frame=some X.env.locals
 ex:∃Lk,Xe X Lk/\zHm X Lk Ex
def zAn(CX:CXT)(X:Cx)(Ex:St->XK):Prop:=∀(Z:List<|Addr×Obj)(σ:St)(H:Hp)(s:Shared)(ev:Value)(s':Shared),Inv X Z σ H s->CX X.stack H s (Ex σ) ev s'->X.xe ev s'
section
variable{X:Cx}{Ex:St->XK}
def zA3.pass(c:zA3 X Ex):zAn (CXo X.prog X.w) X Ex:=by
 obtain⟨Lk,xe,la⟩:=c.ex;intro Z σ H s ev s' I F;refine xe ev s' λE'=>land I c.hs c.hf F λs2 e C T dx H' ee hn I2 Te tb q=>?_;subst ee;exact la Z σ e C T dx H' s2 I2 hn Te tb q
def zA3.rises(c:zA3 X Ex){e:Addr}{dx:Option Addr}(I:Inv X Z σ H s)(he:H e=some (XO C dx e))(q:Ex σ (.ref C) dx<|del H e):X.xe (.ref e) s:=by
 obtain⟨Lk,xe,la⟩:=c.ex;exact xe _ s λE'=>rise I c.hs c.hf he λs2 T I2 Te tb=>la Z σ e C T dx (del H e) s2 (by rw[mf];exact I2) kS Te tb q
end
section
variable{P:Program}{w:World}{K:xFr}{mg:Str->Option Value}{base:Heap}{N:List Str}{qual:Str}{scope:Scope}{f:Addr}{cd:Value}{A:Around}{outer:List Env}{s:Shared}{H:Hp}{E:XK}
def lY:zA3 (zDu (CXo P w) P w K mg base N qual scope f cd A outer s H E) (λ_=>E) where
 hs:=rfl
 hf:=rfl
 ex:=by
  refine⟨λev s3=>CXo P w outer H s E ev s3,λev s1 h=>?_,λZ σ e C T dx H' s' I hn Te tb q=>⟨e,C,T,dx,H',rfl,hn,Te,tb,I.os,I.bare,I.base,I.hok,q⟩⟩;change wpAny _ _ (leaving _ ev) _ _ s1;unfold leaving;exact xAd<|h _
end
def zCp(e:Addr)(h:Heap):Prop:=∃nm q C N bs bm hdct sn sub ab col dd k0 k1 k2 k3 k5 newId t dx,h.get? C=some (excClassObj nm q C N bs bm hdct sn sub ab col dd k0 k1 k2 k3 k5 newId)/\bm.contains (.type "BaseException")=true/\h.get? e=some (zAs C t dx)
def lx{E:Value->Shared->Prop}{env:Env}{x:Sem Value}{Q:Flow->Shared->Prop}(hh:A.handled=none)(h:wpAny M A x (λv s1=>∃e,v=.ref e/\zCp e s1.heap/\E (.ref e) s1) E s) :
  wpAny M A (raiseStmt env (some x) none) Q E s:=by
 unfold raiseStmt;refine xAd (wpAny_mono h (λv s1 z=>?_) λ_ _ y=>y);obtain⟨e,rfl,⟨nm,q,C,N,bs,bm,hdct,sn,sub,ab,col,dd,k0,k1,k2,k3,k5,newId,t,dx,gC,hb,ge⟩,hE⟩:=z;have hc:(Value.ref C::bm).contains (.type "BaseException")=true:=by rw[List.contains_cons,hb,Bool.or_true]
 obtain⟨hp,g,d,tk,os⟩:=s1;repeat (first|with_reducible refine wpAny_loadPart_at ge ?_|with_reducible refine wpAny_loadPart_at gC ?_|(with_reducible refine wpAny_isSubtype_exc gC ?_;rw[hc])|wp_step)
 exact wpAny_raiseNew_none hh hE
theorem gh{K:xFr}:∀{l:List Value},W.tailIn K bmV l=true->l.contains (.type "BaseException")=true
 |[],e=>by cases e
 |v::r,e=>by
  unfold W.tailIn at e;rcases Bool.or_eq_true_iff.mp e with q|q
  ·rw[beq_iff_eq.mp q];rfl
  ·split at q
   ·split at q
    ·simp only[xCh] at q;rw[List.contains_cons,gh q.2,Bool.or_true]
    ·cases q
   ·cases q
def zEt(K:xFr)(te:TE)(Ex:St->XK):TS:=λ_ σ H=>te σ H λv H1=>∃e C dx,v=.ref e/\H1 e=some (XO C dx e)/\zCv K C=true/\Ex σ (.ref C) dx (del H1 e)
def zC2(sp:Sp)(dvs:List V)(Ex:St->XK)(t:TA):TE:=λσ H Q=>t σ H λvs H1=>sp (vs++dvs) H1 Q<|Ex σ
def zC0(C:Addr)(m:Str)(sp:Sp)(dvs:List V)(Ex:St->XK)(ta:TE)(t:TA):TE:=λσ H Q=>ta σ H λx H1=>∃a dx fs,x=.ref a/\H1 a=some (.ins C dx fs)/\fs.lookup m=none /\
 t σ H1 λvs H2=>sp (x::(vs++dvs)) H2 Q<|Ex σ
section
variable{X:Cx}{CX:CXT}{k:Nat}{f C:Addr}{fd:FuncData}{ps:List Str}{sp:Sp}{dvs:List V}{ds:List Value}{Ex:St->XK}{x m:Str}{p pos apos:Pos}{e o:Expr}{es:List Expr}{ta:TE}{t:TA}
theorem fK{Q:VK}{us:List Value}{vs:List V}(F:zAv X.prog X.w X.K X.mg X.base CX k f fd ps sp)(hr:zA4 k X.A)(hb:zAm X.K fd ps ds)(hd:zAg dvs ds)(hx:zAn CX X Ex)(I:Inv X Z σ H s)(r:zAg vs us)(h:sp (vs++dvs) H Q<|Ex σ):wpAny (model X.prog X.w) X.A (call (.ref f) us) (EP X Z σ Q) X.xe s:=by
 have r2:zAg (vs++dvs)<|us++ds:=r.append hd;have hl:(us++ds).length=ps.length:=by rw[<- r2.length];exact F.len _ _ _ _ h
 refine wpAny_call (codeAny_mono (F.run X.A X.stack s H ⟨us,[]⟩ (us++ds) (vs++dvs) Q (Ex σ) hr I.env0 (hb s us I.kIn hl) r2 h) λr s' hq=>?_);cases r with
 |error e=>exact hx Z σ H s e s' I hq
 |ok fl=>
  cases fl with
  |ret u=>exact I.after hq
  |next=>exact False.elim hq
  |brk=>exact False.elim hq
  |cont=>exact False.elim hq
def qB(F:zAv X.prog X.w X.K X.mg X.base CX k f fd ps sp)(hr:zA4 k X.A)(hg:Gl X x)(hm:X.mg x=some (.ref f))(hk:W.keepIn X.K (.ref f)=true)(hb:zAm X.K fd ps ds)(hd:zAg dvs ds)(hx:zAn CX X Ex)(ha:PA X (e::es) t)(hdb:(x==("__debug__":Str))=false:=by decide)(he:starEach (e::es) X.env=(false,eval e X.env)::starEach es X.env:=by rfl)(hpl:(backTo pos<|starEach es X.env).any (·.1)=false:=by rfl) :
  PE X (.Call (.Name x p) (e::es) [] pos) (zC2 sp dvs Ex t):=by
 intro Z s σ H Q I h;refine wpAny_Call_Name_kw (eY I hg hm ?_ hdb);refine W.callWith_K (h₀:=X.base) I.ok.mod.kin hk (thn (ha pos Z s σ H _ I h) λus s1 ⟨vs,H1,I1,r,q⟩=>⟨I1.kIn,?_⟩) he hpl;exact fK F hr hb hd hx I1 r q
def ou(F:zAv X.prog X.w X.K X.mg X.base CX k f fd ps sp)(hr:zA4 k X.A)(hg:Gl X x)(hm:X.mg x=some (.ref f))(hk:W.keepIn X.K (.ref f)=true)(hb:zAm X.K fd ps ds)(hd:zAg dvs ds)(hx:zAn CX X Ex)(hdb:(x==("__debug__":Str))=false:=by decide):PE X (.Call (.Name x p) [] [] pos)<|zC2 sp dvs Ex zF2:=by
 intro Z s σ H Q I h;refine wpAny_Call_Name_kw (eY I hg hm ?_ hdb);exact W.callWith_K0 I.kIn hk (fK (us:=[]) F hr hb hd hx I .nil h)
def qt(he:PE X o ta)(c:Cls X.K C)(hm:zEc X.K C m f)(F:zAv X.prog X.w X.K X.mg X.base CX k f fd ps sp)(hr:zA4 k X.A)(hb:zAm X.K fd ps ds)(hd:zAg dvs ds)(hx:zAn CX X Ex)(ha:PA X (e::es) t)(hst:starEach (e::es) X.env=(false,eval e X.env)::starEach es X.env:=by rfl)(hpl:(backTo pos<|starEach es X.env).any (·.1)=false:=by rfl)(ht:eval (.Call (.Attribute o m apos) (e::es) [] pos) X.env=(do
   let ov <- eval o X.env
   standAt apos.atName
   let (f,first) <- holding [ov] (getMethod ov m pl)
   callWith pos f first (backTo pos<|starEach (e::es) X.env) (backToKw pos<|keywordEach [] X.env)):=by rfl) :
  PE X (.Call (.Attribute o m apos) (e::es) [] pos) (zC0 C m sp dvs Ex ta t):=by
 intro Z s σ H Q I h;refine W.methodCall_KW (pl:=pl) (thn (he Z s σ H _ I h) λu s1 ⟨x,H1,I1,rx,a,dx,fs,ex,ea,l,q⟩=>?_) ht;subst ex;obtain rfl:u=Value.ref a:=rx;refine iD I1 ea c hm l ?_;refine W.callWith_K (first:=[.ref a]) (h₀:=X.base) I.ok.mod.kin hm.kp (thn (ha pos Z s1 σ H1 _ I1 q) λus s2 ⟨vs,H2,I2,r,q2⟩=>⟨I2.kIn,?_⟩) hst hpl;exact fK (us:=.ref a::us) (vs:=.ref a::vs) F hr hb hd hx I2 (.cons rfl r) q2
def oq(he:PE X o ta)(c:Cls X.K C)(hm:zEc X.K C m f)(F:zAv X.prog X.w X.K X.mg X.base CX k f fd ps sp)(hr:zA4 k X.A)(hb:zAm X.K fd ps ds)(hd:zAg dvs ds)(hx:zAn CX X Ex)(ht:eval (.Call (.Attribute o m apos) [] [] pos) X.env=(do
   let ov <- eval o X.env
   standAt apos.atName
   let (f,first) <- holding [ov] (getMethod ov m pl)
   callWith pos f first (backTo pos<|starEach [] X.env) (backToKw pos<|keywordEach [] X.env)):=by rfl) :
  PE X (.Call (.Attribute o m apos) [] [] pos) (zC0 C m sp dvs Ex ta zF2):=by
 intro Z s σ H Q I h;refine W.methodCall_KW (pl:=pl) (thn (he Z s σ H _ I h) λu s1 ⟨x,H1,I1,rx,a,dx,fs,ex,ea,l,q⟩=>?_) ht;subst ex;obtain rfl:u=Value.ref a:=rx;refine iD I1 ea c hm l ?_;exact W.callWith_K0 (first:=[.ref a]) I1.kIn hm.kp<|fK (us:=[.ref a]) (vs:=[.ref a]) F hr hb hd hx I1 (.cons rfl .nil) q
end
section
variable{X:Cx}{Z:List<|Addr×Obj}{σ:St}{H:Hp}{s:Shared}
def gU{E:Value->Shared->Prop}{i:Nat}{n:Str}{pos:Pos}(I:Inv X Z σ H s)(hN:X.N.Nodup)(hi:X.N[i]?=some n)(hl:X.env.kindOf n=some .local)(h:∀s',Inv X Z (σ.set i none) H s'->Q () s'):wpAny M A (do bindName X.env n .none;unbindBehindTheSuite X.env n pos) Q E s:=by
 obtain⟨m,hn,hloc⟩:=id I.loc;have hcls:(X.env.scope.kind == .class||(X.env.scope.kind == .module&&X.env.locals != X.env.globals))=false:=by rw[I.ok.kind];rfl
 refine wpAny_nameGoes_keeps hl hn hcls λh' v hn' sb=>h _ ?_;have old:∀b o,X.s₀.heap.get? b=some o->b≠X.env.locals:=λb o e=>xA0<|xBc (xA1 e) I.ok.above;have trk:∀b o,H b=some o->b≠X.env.locals:=λb o q=>dq q I.free;refine⟨I.ok,I.os,I.bare,⟨λb o q n b1 b2=>(sb.2 b<|old b o q).trans<|I.base.keep b o q n b1 b2,λb o q n b1 b2=>?_,I.base.free,λb o q b2=>?_,I.base.tups,I.base.frzs,I.base.tbls⟩,⟨_,hn',λj y v' e1 e2 vis=>?_⟩,λx c e=>?_,I.free,I.freeC,λp hp=>?_,λb o q=>?_,?_⟩
 ·obtain⟨sl,z⟩:=I.base.slot b o q n b1 b2;exact⟨sl,(sb.2 b<|old b o q).trans z⟩
 ·obtain⟨o',z⟩:=I.base.there b o q b2;exact⟨o',(sb.2 b<|old b o q).trans z⟩
 ·have ji:i≠j:=λz=>by
   subst z;rw[List.getElem?_set_self' ] at e2;cases hh:σ[i]? <;> rw[hh] at e2 <;> cases e2
  rw[xC1 ji] at e2;have yn:y≠n:=λz=>by
   subst z;obtain⟨l1,_⟩:=xAq.mp hi;exact ji<|(List.getElem?_inj l1 hN).mp<|hi.trans e1.symm
  obtain⟨u,r,lk⟩:=hloc j y v' e1 e2 vis;refine⟨u,r,?_⟩;rcases lk with ⟨k1,k2⟩|⟨k1,c,k2,o,k3,k4⟩
  ·exact .inl ⟨k1,(xCf yn).trans k2⟩
  ·exact .inr ⟨k1,c,k2,o,(sb.2 c<|I.cne y c k2).trans k3,k4⟩
 ·obtain⟨v',o,k3,k4⟩:=I.cell x c e;exact⟨v',o,(sb.2 c<|I.cne x c e).trans k3,k4⟩
 ·obtain⟨p1,p2,p3,p4⟩:=I.pin p hp;exact⟨(sb.2 p.1 p3).trans p1,p2,p3,p4⟩
 ·refine(I.hok b o q).stay (λc w' hc q2=>(sb.2 c ?_).trans q2) (λ_ z=>z) λ_ _ z=>z;rcases hc with z|z
  ·rw[z];exact trk b o q
  ·exact trk c _ z
 ·rw[List.length_set];exact I.len
end
noncomputable def Cx.trial(X:Cx)(Z:List<|Addr×Obj)(E:Value->Shared->Prop):Cx:={X with xe:=E,pn:=X.pn++Z}
noncomputable def Cx.suite(X:Cx)(e:Addr):Cx:={X with A:=X.A.mark<|some<|.ref e,calm:=false,xe:=λ_ _=>False}
section
variable{X:Cx}{Z pins':List<|Addr×Obj}{σ:St}{H:Hp}{s:Shared}{E:Value->Shared->Prop}{e:Addr}
theorem Cx.Ok.trial(ok:X.Ok):(X.trial Z E).Ok:=⟨ok.mod,ok.kind,ok.glob,ok.blt,ok.above,ok.inj,ok.has,ok.cab,ok.hd,ok.frames,ok.stk,ok.exf,ok.bs,ok.bsz,ok.noex,ok.exfs,ok.funs,ok.frf⟩
theorem Cx.Ok.suite(ok:X.Ok):(X.suite e).Ok:=⟨ok.mod,ok.kind,ok.glob,ok.blt,ok.above,ok.inj,ok.has,ok.cab,(λz=>nomatch z),ok.frames,ok.stk,ok.exf,ok.bs,ok.bsz,ok.noex,ok.exfs,ok.funs,ok.frf⟩
theorem Inv.trial(I:Inv X Z σ H s):Inv (X.trial Z E) [] σ H s:=⟨I.ok.trial,I.os,I.bare,I.base,I.loc,I.cell,I.free,I.freeC,λp hp=>I.pin p (by rw[xB0] at hp;exact hp),I.hok,I.len⟩
def Inv.untrial(ok:X.Ok)(I:Inv (X.trial Z E) pins' σ H s):Inv X Z σ H s:=⟨ok,I.os,I.bare,I.base,I.loc,I.cell,I.free,I.freeC,λp hp=>I.pin p<|List.mem_append_left _ hp,I.hok,I.len⟩
theorem Inv.suite(I:Inv X Z σ H s):Inv (X.suite e) Z σ H s:=⟨I.ok.suite,I.os,I.bare,I.base,I.loc,I.cell,I.free,I.freeC,I.pin,I.hok,I.len⟩
def Inv.unsuite(ok:X.Ok)(I:Inv (X.suite e) Z σ H s):Inv X Z σ H s:=⟨ok,I.os,I.bare,I.base,I.loc,I.cell,I.free,I.freeC,I.pin,I.hok,I.len⟩
theorem SP.untrial{D:zDe}{f:Flow}(ok:X.Ok)(h:SP (X.trial Z E) pins' D f s):SP X Z D f s:=by
 cases f with
 |next=>obtain⟨σ',H',I,q⟩:=h;exact⟨σ',H',I.untrial ok,q⟩
 |brk=>obtain⟨σ',H',I,q⟩:=h;exact⟨σ',H',I.untrial ok,q⟩
 |cont=>obtain⟨σ',H',I,q⟩:=h;exact⟨σ',H',I.untrial ok,q⟩
 |ret u=>obtain⟨v,σ',H',I,r,q⟩:=h;exact⟨v,σ',H',I.untrial ok,r,q⟩
end
def oO{E:Value->Shared->Prop}{g:Array GenState}{d:Drawn}{t:Nat}{os:OsState}{e:Addr}{Q:Bool->Shared->Prop}{N:Addr}{bs bm:List Value}{nm' q':Str}{N':Addr}{bs' bm':List Value}{hdct':Bool}{sn':List Str}{sub':List Value}{ab':Bool}{col':Option Bool}{dd':Option Addr}{j0 j1 j2 j3 j5:Option Value}{newId':String}(gC:h.get? C=some (excClassObj nm q C N bs bm hdct sn sub ab col dd k0 k1 k2 k3 k5 newId))(gD:h.get? D=some (excClassObj nm' q' D N' bs' bm' hdct' sn' sub' ab' col' dd' j0 j1 j2 j3 j5 newId'))(ge:h.get? e=some oe)(hcls:oe.cls=.ref C)(hb:bm'.contains (.type "BaseException")=true){b:Bool}(hm:(Value.ref C::bm).contains (.ref D)=b)(hq:Q b ⟨h,g,d,t,os⟩):wpAny M A (excMatches (.ref e)<|.ref D) Q E ⟨h,g,d,t,os⟩:=by
 have hB:(Value.ref D::bm').contains (.type "BaseException")=true:=by rw[List.contains_cons,hb,Bool.or_true]
 have f:=tc_notTuple;cases b <;> (unfold excMatches;repeat (first|(with_reducible refine wpAny_loadPart_at ge ?_;rw[hcls])|with_reducible refine wpAny_loadPart_at gD ?_|(with_reducible refine wpAny_isSubtype_exc gD ?_;rw[hB])|(with_reducible refine wpAny_isSubtype_exc gC ?_;rw[hm])|wp_step))
 ·exact hq
 ·exact hq
def kH{E:Value->Shared->Prop}{e t:Addr}{dx:Option Addr}{h0:Heap}(ge:s.heap.get? e=some (zFp C t T dx))(tb:TB T h0 s.heap H)(k:∀h',(∀b o,s.heap.get? b=some o->h'.get? b=some o)->Q () {s with heap:=h'}):wpAny M A (setFlight (.ref e) none) Q E s:=by
 obtain⟨oT,ts,g1,g2,g3⟩:=tb.ent;have l3:3<ts.size:=(xB7.mp g3).1;unfold setFlight;refine xAd<|xDa ge rfl (x:=.ref T) rfl ?_;rw[xCg<|show(Value.ref T != Value.none)=true by simp];refine wpAny_setField g1 g2 l3 (k _ λb o q=>?_);by_cases bt:b=T
 ·subst bt;cases g1.symm.trans q;have hs:ts.setIfInBounds 3 Value.none=ts:=by
   apply Array.ext_getElem?;intro i;rw[Array.getElem?_setIfInBounds];by_cases hi:3=i
   ·subst hi;rw[xCg rfl,xCg l3,g3]
   ·rw[xCf hi]
  have:Obj.mapFields (·.setIfInBounds 3 Value.none) oT=oT:=by
   obtain⟨c,dd,da,sl⟩:=oT;dsimp only at g2;subst g2;show({cls:=c,dict:=dd,data:=.fields<|ts.setIfInBounds 3 Value.none,slots:=sl}:Obj)=_;rw[hs]
  have fr:oT.isFreed=false:=Obj.isFreed_of_fields g2;refine(xA7 (Obj.mapFields (·.setIfInBounds 3 Value.none)) g1<|by rw[this];exact fr).trans ?_;rw[this]
 ·exact(xA6 _ _<|Ne.symm bt).trans q
def zBd(K:xFr)(C D:Addr):Prop:=zCv K C=true/\zCv K D=true/\W.mroIn K C (.ref D)=some true
def zEr(K:xFr)(Dc:Addr)(i:Nat)(tb:(St->XK)->TS)(ts:TS):TS:=λD σ H=>
 tb (λσ1 cls dx H'=>∃C,cls=.ref C/\zBd K C Dc/\∀e T,H' e=none->ts {nx:=λσ2 H2=>D.nx (σ2.set i none) H2,rt:=D.rt,bk:=λσ2 H2=>D.bk (σ2.set i none) H2,ct:=λσ2 H2=>D.ct (σ2.set i none) H2} (σ1.set i<|some<|.ref e) (upd H' e<|XF C dx e T)) D σ H
section
variable{X:Cx}{Dc:Addr}{i:Nat}{tb:(St->XK)->TS}{ts:TS}{body suite:List Stmt}{b0:Stmt}{x n:Str}{np hpos pos:Pos}
def uz{K:xFr}{N:Addr}{bs bm:List Value}(lk:K.lookup C=some (excClassObj nm q C N bs bm hdct sn sub ab col dd k0 k1 k2 k3 k5 newId))(h:W.mroIn K C (.ref D)=some true):(Value.ref C::bm).contains (.ref D)=true:=by
 unfold W.mroIn W.clsIn at h;rw[lk] at h;simpa using h
def lZ{e:Addr}{dx:Option Addr}{R:Result->Shared->Prop}(I:Inv X Z σ H s)(he:H e=some (XF C dx e T))(bl:zBd X.K C Dc)(hg:Gl X x)(hm:X.mg x=some (.ref Dc))(hdb:(x==("__debug__":Str))=false)(k:R (.ok .brk) s):codeAny (model X.prog X.w) (X.A.mark<|some<|.ref e) (.handlers (.ref e) [.ExceptHandler (some<|.Name x np) none [] hpos] X.env) R s:=by
 refine codeAny_handlers_test<|eY (X:=X.suite e) I.suite hg hm ?_ hdb;obtain⟨f1,f2,f3⟩:=bl;obtain⟨nm,qn,N,bs,bm,hdct,sn,sub,ab,col,dd,k0,k1,k2,k3,k5,lk,tl⟩:=fJ f1;obtain⟨nm',qn',N',bs',bm',hdct',sn',sub',ab',col',dd',j0,j1,j2,j3,j5,lk',tl'⟩:=fJ f2;obtain⟨⟨t,ge⟩,_,_⟩:=(show zAc X.prog X.w H s.heap e (XF C dx e T) from I.hok e _ he)
 have KX:=I.kIn;obtain⟨hp,g,d,tk,os⟩:=s;exact oO (KX _ _ lk) (KX _ _ lk') ge rfl (gh tl') (uz lk f3) k
def p7(hb:∀(Z:List<|Addr×Obj)(E':Value->Shared->Prop)(Ex:St->XK),zA3 (X.trial Z E') Ex->PSs (X.trial Z E') body (tb Ex))(hs:∀e,PSs (X.suite e) (b0::suite) ts)(hN:X.N.Nodup)(hi:X.N[i]?=some n)(hl:X.env.kindOf n=some .local)(hg:Gl X x)(hm:X.mg x=some (.ref Dc))(hst:X.stack=X.env::X.outer)(hf:X.env.frame=some X.env.locals)(hdb:(x==("__debug__":Str))=false:=by decide) :
  PS X (.Try body [.ExceptHandler (some<|.Name x np) (some n) (b0::suite) hpos] [] [] pos) (zEr X.K Dc i tb ts):=by
 intro Z s σ H D I h;have hloc:Loc X.env.scope n:=.inl hl;refine wpAny_Try_except ?_;refine wpAny_mono (hb Z (λev s1=>wpAny (model X.prog X.w) X.A (noteFrame ev X.env) (λ_ s2=>wpAny (model X.prog X.w) X.A (setFlight ev none) (λ_ s3=>wpAny (model X.prog X.w) X.A (handleBy ev X.env [.ExceptHandler (some<|.Name x np) (some n) (b0::suite) hpos]) (SP X Z D) X.xe s3) X.xe s2) X.xe s1) _
  ⟨hst,hf,λev s3=>wpAny (model X.prog X.w) X.A (handleBy ev X.env [.ExceptHandler (some<|.Name x np) (some n) (b0::suite) hpos]) (SP X Z D) X.xe s3,λev s1 z=>z X.xe,?_⟩ [] s σ H D I.trial h) (λf s1 q=>?_) λev s1 z=>z
 ·intro pins' σ1 e C T dx H' s1 I1 hn Te tbk hx;obtain⟨C',ec,bl,hx⟩:=hx;cases ec;have I2:Inv X Z σ1 (upd H' e<|XF C dx e T) s1:=I1.untrial I.ok;have he:upd H' e (XF C dx e T) e=some (XF C dx e T):=dg;obtain⟨⟨t,ge⟩,_,_⟩:=(show zAc X.prog X.w (upd H' e<|XF C dx e T) s1.heap e (XF C dx e T) from I2.hok e _ he)
  refine wpAny_handleBy_cons (lZ I2 he bl hg hm hdb ?_) (by intro z;cases z);refine codeAny_handlers_suite_as (kH ge tbk λh' kp=>?_);have I3:Inv X Z σ1 (upd H' e<|XF C dx e T) {s1 with heap:=h'}:=I2.kept (t':=s1.toks) kp;refine g7 (X:=X.suite e) (v:=.ref e) I3.suite hN hi hloc rfl (λs4 I4=>?_)<|.inr hl;refine wpAny_mono (hs e Z s4 _ _ _ I4<|hx e T hn) (λf s5 q5=>?_) λ_ _ z=>False.elim z;cases f with
  |next=>obtain⟨σ',H5,I5,q⟩:=q5;exact gU (I5.unsuite I.ok) hN hi hl λs6 I6=>⟨_,H5,I6,q⟩
  |brk=>obtain⟨σ',H5,I5,q⟩:=q5;exact gU (I5.unsuite I.ok) hN hi hl λs6 I6=>⟨_,H5,I6,q⟩
  |cont=>obtain⟨σ',H5,I5,q⟩:=q5;exact gU (I5.unsuite I.ok) hN hi hl λs6 I6=>⟨_,H5,I6,q⟩
  |ret u=>obtain⟨v,σ',H5,I5,r,q⟩:=q5;exact gU (I5.unsuite I.ok) hN hi hl λs6 I6=>⟨v,_,H5,I6,r,q⟩
 ·have q':=SP.untrial I.ok q;cases f with
  |next=>exact wpAny_execs_nil q'
  |brk=>exact q'
  |cont=>exact q'
  |ret u=>exact q'
end
section
variable{prog:Program}{w:World}{A:Around}{K:xFr}{h:Heap}{g:Array GenState}{d:Drawn}{tk:Nat}{os:OsState}{E:Value->Shared->Prop}{e C t0 T0 dx:Addr}{name:Str}{v:Value}{mA:Str->Option Value}
def rW{expr:Bool}{Q:Value->Shared->Prop}(KX:K.In h)(S:XGt K C)(na:W.findIn K (.ref C) name=some none)(ge:h.get? e=some (zFp C t0 T0<|some dx))(nd:h.Ns1 dx mA)(hv:mA name=some v)(hh:W.handedIn v=true)(hq:Q v ⟨h,g,d,tk+1,os⟩):wpAny (model prog w) A (getAttr (.ref e) name expr) Q E ⟨h,g,d,tk,os⟩:=by
 obtain⟨od,go,hl⟩:=i6 nd;have J:PySem.W.InstAt h e (zFp C t0 T0<|some dx) C<|some od:=⟨ge,rfl,rfl,go⟩
 have lf:=W.looks_find (M:=model prog w) KX J (W.findObj_own S.hd na rfl<|by rw[hl,hv]);have lg:=W.looks_findIn (M:=model prog w) KX S.ga;have ln:=W.looks_findIn (M:=model prog w) KX S.ng;have isB:PySem.W.Looks (model prog w) h (isInstance (.ref e)<|.type "BaseException") true:=J.type.andThen<|W.looks_mroIn KX S.mb;have f3:=PySem.F.attr_ValueError.ga.bind<|.ref e;have x0:(expr&&onTheHeap (Value.builtin "BaseException.__getattribute__"))=false:=by cases expr <;> rfl
 have x2:(Value.builtin "BaseException.__getattribute__" == Value.builtin "object.__getattribute__")=false:=by decide +kernel
 have x1:(onTheHeap (Value.ref C)&&Value.builtin "BaseException.__getattribute__" == Value.builtin "object.__getattribute__")=false:=by rw[x2];rfl
 unfold getAttr getAttrBy;refine xAd<|wpAny_mkText<|xDc<|xAd<|J.type.here (s:=⟨h,g,d,tk+1,os⟩)<|xAd<|lg.here (s:=⟨h,g,d,tk+1,os⟩) ?_;dsimp only;rw[xCf<|by rw[x1];decide];unfold getAttrByItsOwn hookBefore;rw[xCg<|show onTheHeap (Value.ref C)=true from rfl];refine xAd<|ln.here (s:=⟨h,g,d,tk+1,os⟩)<|xAd<|wpAny_attempt<|xDc ?_;unfold callGetattribute;rw[xCf<|by rw[x0];decide];unfold boundAndCalled;rw[f3];refine xAd<|xAe ?_;have kd:builtinKind "BaseException.__getattribute__"=some .slot:=by decide +kernel
 have sp:splitId "BaseException.__getattribute__"=some ("BaseException","__getattribute__"):=by decide +kernel
 refine wpAny_call<|codeAny_call_builtin PySem.F.attr_ValueError.ga.plain PySem.F.entry_bexc_ga<|@PySem.W.check_slot (model prog w) _ _ ⟨h,g,d,tk+1,os⟩ "BaseException.__getattribute__" "BaseException" "__getattribute__" (.ref e) [.str name tk] [] _ kd sp isB (PySem.F.args_bexc_ga (.ref e)<|.str name tk) ?_;unfold Builtin.«object.__getattribute__»;refine xAd<|xAe<|xAd<|xAe<|xAd<|J.type.here (s:=⟨h,g,d,tk+1,os⟩)<|xAd<|lf.here (s:=⟨h,g,d,tk+1,os⟩) ?_;refine xAe ?_;show wpAny _ _ (handedOut v) _ _ _;rw[W.handedOut_of hh];exact xAe hq
end
def zDm(K:xFr)(ta:TE)(f:Str):TE:=λσ H Q=>ta σ H λx H1=>∃e C dx T fs v,x=.ref e/\H1 e=some (XF C (some dx) e T)/\H1 dx=some (.xd fs)/\XGt K C/\zAr K C f/\fs.lookup f=some v/\Q v H1
section
variable{X:Cx}{o:Expr}{f:Str}{pos:Pos}{ta:TE}
def qy(he:PE X o ta)(hb:attributeBase o f X.env (eval o X.env)=eval o X.env):PE X (.Attribute o f pos)<|zDm X.K ta f:=by
 intro Z s σ H Q I h;refine nI hb (thn (he Z s σ H _ I h) λu s1 zz=>?_);obtain⟨x,H1,I1,rx,e,C,dx,T,fs,v,ex,ea,ed,S,n,l,q⟩:=zz;subst ex;obtain rfl:u=Value.ref e:=rx;obtain⟨hp,g,d,tk,os⟩:=s1;obtain⟨⟨t0,ge⟩,_,_⟩:=(show zAc X.prog X.w H1 hp e (XF C (some dx) e T) from I1.hok e _ ea)
 obtain⟨mA,nd,rel⟩:=(show zAc X.prog X.w H1 hp dx (.xd fs) from I1.hok dx _ ed)
 obtain⟨u',hu,ru⟩:=zCb.some_of (v:=v) (o:=mA f) (by rw[<- l];exact rel f);exact rW I1.kIn S n ge nd hu (jc ru) ⟨v,H1,I1.tok _,ru,q⟩
end
end L2
namespace L2
open PySem PySem.Spec PyProof.Rows
inductive Al(H:Hp):Nat->V->V->Prop where
 |flat {n:Nat} {x:V}:zBk x=true->Al H n x x
 |same {n:Nat} {a:Addr}:Al H n (.ref a) (.ref a)
 |tup {n:Nat} {a b:Addr} {xs ys:List V}:H a=some (.tup xs)->H b=some (.tup ys)->xs.length=ys.length->(∀(j:Nat)(x y:V),xs[j]?=some x->ys[j]?=some y->Al H n x y)->Al H (n+1) (.ref a) (.ref b)
 |lst {n:Nat} {a b:Addr} {xs ys:List V}:H a=some (.lst xs)->H b=some (.lst ys)->xs.length=ys.length->(∀(j:Nat)(x y:V),xs[j]?=some x->ys[j]?=some y->Al H n x y)->Al H (n+1) (.ref a) (.ref b)
theorem gX{P:Program}{w:World}{H:Hp}{s:Shared}(hok:HOk P w H s.heap){n:Nat}{x y:V}(h:Al H n x y):∀{A:Around}{u v:Value},zAi x u->zAi y v->A.units+n<cLine->SeqAt.EqAt A s u v true:=by
 induction h with
 |@flat n x f=>
  intro A u v r1 r2 _;have:=sf (A:=A) (s:=s) r1 r2 f f;rw[rY f] at this;exact this
 |@same n a=>
  intro A u v r1 r2 _;cases (show u=Value.ref a from r1);cases (show v=Value.ref a from r2);exact SeqAt.EqAt.same _
 |@tup n a b xs ys ea eb el _ ih=>
  intro A u v r1 r2 hu;cases (show u=Value.ref a from r1);cases (show v=Value.ref b from r2);by_cases hab:a=b
  ·subst hab;exact SeqAt.EqAt.same _
  ·obtain⟨_,its,q1,t1⟩:=(show zAc P w H s.heap a (.tup xs) from hok a _ ea)
   obtain⟨_,its2,q2,t2⟩:=(show zAc P w H s.heap b (.tup ys) from hok b _ eb)
   have he:∀j (h1:j<its.toArray.size) (h2:j<its2.toArray.size),SeqAt.EqAt A.in1 s its.toArray[j] its2.toArray[j]<|(λ_=>true) j:=λj j1 j2=>by
    obtain⟨x1,e1,g1⟩:=dR q1 j1;obtain⟨y1,e2,g2⟩:=dR q2 j2;exact ih j x1 y1 e1 e2 g1 g2 (by show A.units+1+n<cLine;lia)
   refine SeqAt.EqAt.of_refs hab ?_;have:=SeqAt.RcAt.tuples (e:=λ_=>true) t1 t2 (by lia) he;have ev:((List.range<|min its.toArray.size its2.toArray.size).all (λ_=>true)&&its.toArray.size==its2.toArray.size)=true:=by
    rw[xAp,xAp,<- q1.length,<- q2.length,el];simp
   rw[ev] at this;exact this
 |@lst n a b xs ys ea eb el _ ih=>
  intro A u v r1 r2 hu;cases (show u=Value.ref a from r1);cases (show v=Value.ref b from r2);by_cases hab:a=b
  ·subst hab;exact SeqAt.EqAt.same _
  ·obtain⟨_,its,n1,q1,t1⟩:=(show zAc P w H s.heap a (.lst xs) from hok a _ ea)
   obtain⟨_,its2,n2,q2,t2⟩:=(show zAc P w H s.heap b (.lst ys) from hok b _ eb)
   have he:∀j (h1:j<its.toArray.size) (h2:j<its2.toArray.size),SeqAt.EqAt A.in1 s its.toArray[j] its2.toArray[j]<|(λ_=>true) j:=λj j1 j2=>by
    obtain⟨x1,e1,g1⟩:=dR q1 j1;obtain⟨y1,e2,g2⟩:=dR q2 j2;exact ih j x1 y1 e1 e2 g1 g2 (by show A.units+1+n<cLine;lia)
   refine SeqAt.EqAt.of_refs hab ?_;have es:its.toArray.size=its2.toArray.size:=by rw[xAp,xAp,<- q1.length,<- q2.length,el]
   have:=SeqAt.RcAt.lists (e:=λ_=>true) ⟨_,t1,rfl,_,rfl⟩ ⟨_,t2,rfl,_,rfl⟩ es (by lia) he;have ev:(List.range its.toArray.size).all (λ_=>true)=true:=xCx.mpr λ_ _=>rfl;rw[ev] at this;exact this
section
variable{X:Cx}
def rAl(b:Bool):R2:=λx y H Q=>∃p q xs ys n,x=.ref p/\y=.ref q/\H p=some (.tup xs)/\H q=some (.tup ys)/\xs.length=ys.length/\n<=30/\(∀(j:Nat)(x y:V),xs[j]?=some x->ys[j]?=some y->Al H n x y)/\Q (.bl b) H
def uo(hu:X.A.units+40<cLine):OpR X (compareOp .NotEq)<|rAl false:=by
 intro Z s σ H x y v u Q I rx ry h;obtain⟨a,b,xs,ys,n,rfl,rfl,ea,eb,el,hn,al,q⟩:=h;cases (show v=Value.ref a from rx);cases (show u=Value.ref b from ry);obtain⟨_,its,q1,t1⟩:=(show zAc X.prog X.w H s.heap a (.tup xs) from I.hok a _ ea)
 obtain⟨_,its2,q2,t2⟩:=(show zAc X.prog X.w H s.heap b (.tup ys) from I.hok b _ eb)
 have he:∀j (h1:j<its.toArray.size) (h2:j<its2.toArray.size),SeqAt.EqAt X.A.in1 s its.toArray[j] its2.toArray[j]<|(λ_=>true) j:=λj j1 j2=>by
  obtain⟨x1,e1,g1⟩:=dR q1 j1;obtain⟨y1,e2,g2⟩:=dR q2 j2;exact gX I.hok (al j x1 y1 e1 e2) g1 g2 (by show X.A.units+1+n<cLine;lia)
 refine(SeqAt.RcNeAt.tuples (e:=λ_=>true) t1 t2 (by lia) he) X.prog X.w X.xe _ ?_;refine dt I q ?_;rw[xAp,xAp,<- q1.length,<- q2.length,el];simp
def ur(hu:X.A.units+40<cLine):OpR X (compareOp .Eq)<|rAl true:=by
 intro Z s σ H x y v u Q I rx ry h;obtain⟨a,b,xs,ys,n,rfl,rfl,ea,eb,el,hn,al,q⟩:=h;cases (show v=Value.ref a from rx);cases (show u=Value.ref b from ry);obtain⟨_,its,q1,t1⟩:=(show zAc X.prog X.w H s.heap a (.tup xs) from I.hok a _ ea)
 obtain⟨_,its2,q2,t2⟩:=(show zAc X.prog X.w H s.heap b (.tup ys) from I.hok b _ eb)
 have he:∀j (h1:j<its.toArray.size) (h2:j<its2.toArray.size),SeqAt.EqAt X.A.in1 s its.toArray[j] its2.toArray[j]<|(λ_=>true) j:=λj j1 j2=>by
  obtain⟨x1,e1,g1⟩:=dR q1 j1;obtain⟨y1,e2,g2⟩:=dR q2 j2;exact gX I.hok (al j x1 y1 e1 e2) g1 g2 (by show X.A.units+1+n<cLine;lia)
 refine SeqAt.eq_tupleAt (e:=λ_=>true) t1 t2 (by lia) he ?_;refine dt I q ?_;rw[xAp,xAp,<- q1.length,<- q2.length,el];simp
end
end L2
namespace HT
open PySem PyProof.Rows
section
open PySem.SeqAt
open PySem.AutoSeq1 (wpAny_loadPart')
open PySem.MeetsSeq PySem.MeetsSeq2 PySem.MeetsSeq3
section
variable{prog:Program}{w:World}{A:Around}{E:Value->Shared->Prop}{s:Shared}
def getItem_tuple_all{t sl:Addr}{items:Array Value}{vl vu:Value}{lo hi:Option Int}{Q:Value->Shared->Prop}(ht:IsTup s.heap t items)(hs:s.heap.IsSliceOf sl vl vu .none)(pl:IsPart vl lo)(pu:IsPart vu hi)(hw:sIx items.size 0 lo=0/\sIx items.size items.size hi=items.size)(h:Q (.ref t) s):wpAny (model prog w) A (getItem (.ref t)<|.ref sl) Q E s:=by
 have hj:sIx items.size items.size hi<=items.size:=pP _ _ (xAg _) hi;obtain⟨os,hos,hcs,hds⟩:=id hs;have hTs:s.TypeIs (.ref sl) "slice":=⟨os,hos,hcs⟩
 unfold getItem;try with_reducible refine xDc ?_
 first|refine xAd (xAe ?_)|skip
 refine xAd<|wpAny_sequenceKey ht.typeIs (by decide) ?_;refine xAd (wpAny_callSpecial?_slot (name:=Str.ofString "__getitem__") ht.typeIs PyProof.Rows.slot_tuple_getitem
  (wpAny_call_entry PyProof.Rows.slot_tuple_getitem ht.typeIs entry_tuple_getitem ?_<|args_tuple_getitem _ _))
 show wpAny _ _ (Builtin.Tuple.tupleItemsOf (.ref t)>>=_) _ _ s;refine xAd<|tupleItemsOf_ ht ?_;refine xAd<|wpAny_typeOf hTs ?_;rw[xCg<|by decide];refine xAd<|fg hs pl pu ?_;show wpAny _ _ (if(((sIx items.size 0 lo:Nat):Int)==0&&(1:Int)==1&&(sIx items.size items.size hi-sIx items.size 0 lo)==items.size)=true then _ else _) _ _ s;rw[xCg<|by rw[hw.1,hw.2];simp];refine xAd ?_;unfold Builtin.Tuple.tupleIsExact;refine xAd<|wpAny_typeOf ht.typeIs<|xAe ?_;rw[xCg<|by decide];refine xAd<|wpAny_rule ?_;exact xAe ⟨_,rfl,xAe h⟩
end
end
end HT
namespace L2
open PySem PySem.Spec PyProof.Rows
def zHz(K:xFr):V->Option Int->Option Int->Hp->VK->Prop:=λx lo hi H Q=>∃a xs,x=.ref a/\SqT K H a xs/\(HT.sIx xs.length 0 lo=0/\HT.sIx xs.length xs.length hi=xs.length)/\Q (.ref a) H
def jt{X:Cx}:SlR X<|zHz X.K:=by
 intro Z s σ H x v vl vu lo hi sl Q I rx hs pl pu h;obtain⟨a,xs,rfl,hx,hw,q⟩:=h;cases rx;obtain⟨its,r,ht,hz⟩:=I.tuple hx;have hlen:its.toArray.size=xs.length:=by rw[xAp];exact r.length.symm
 refine⟨"tuple",_,PyProof.Rows.slot_tuple_getitem.lookup,ht.typeIs,?_⟩;exact HT.getItem_tuple_all ht hs pl pu (by rw[hlen];exact hw) ⟨.ref a,H,I,rfl,q⟩
end L2
namespace SetA
open PySem PySem.SetTable
def fN{α:Type}(xs:Array α)(p:Nat)(x:α):(insertAt xs p x).size=xs.size+1:=by
 rw[<- Array.length_toList,toList_insertAt];simp only[xAb,List.length_take,xAo,List.length_drop,Array.length_toList];lia
def zAx(es:Array<|Int×Value)(ep:Nat)(t:SetTable):Obj:={cls:=.type "set",dict:=none,data:=.set es ep t,slots:=#[]}
end SetA
namespace SetA
open PySem PySem.Spec PySem.SetTable PyProof.Rows
section
variable{prog:Program}{w:World}{A:Around}{E:Value->Shared->Prop}{s:Shared}
def uD(x:Value){Q₁:Value->Shared->Prop}(h:∀led:Bool,(led=true\/w.params.followText "set-order"=true)->Q₁ (.ref s.heap.objs.size) {s with heap:=s.heap.push<|zAx #[] 0 (.fresh 0 0 led)}) :
  codeAny (model prog w) A (.call (.builtin "set.__new__") ⟨[.type "set",x],[]⟩) (wants Q₁ E) s:=by
 refine codeAny_of_tree ?_;change wpAny _ A.in1 (do checkBuiltinCall "set.__new__" ⟨[.type "set",x],[]⟩;again (.builtin "set.__new__" ⟨[.type "set",x],[]⟩)) _ _ s;refine xAd<|wpAny_of_eq (PySem.F.newCall_set_1 x)<|xAe ⟨plainId_quiet PySem.F.plain_set_new _,codeAny_builtin PySem.F.entry_set_new ?_⟩;rw[Around.under_plainId PySem.F.plain_set_new _];unfold Builtin.«set.__new__» Builtin.Frozenset.newClass;have hss:=sub_set_self;obtain⟨hp,gg,dd,tt,oo⟩:=s;dsimp only;wp_walk
 refine wpAny_askSetting<|xAe ?_;dsimp only;simp only[newObj];refine xAd<|wpAny_alloc<|xAe<|xAe<|h _ ?_;change(!(w.params.followText "set-order"))=true\/w.params.followText "set-order"=true;cases w.params.followText "set-order" <;> simp
end
end SetA
namespace L2
open PySem PySem.Spec PyProof.Rows
variable{s:Shared}{scope:Scope}{env:Env}{Z:List<|Addr×Obj}{σ:St}{H:Hp}{i n:Nat}{fp:List Addr}{es:List Expr}{e:Expr}
structure zB2(X:Cx)(scope:Scope)(cl:List (Str×Addr))(ls N:List Str)(fr:List Nat):Prop where
 clos:closureFor scope X.env=pure cl
 cell:∀y∈scope.names,y.2≠.cell
 kind:scope.kind=.function
 names:∀y∈scope.names,y.2=.local->scope.names.lookup y.1=some .local
 sub:∀y c,cl.lookup y=some c->X.env.cells.lookup y=some c
 has:∀y∈scope.names,y.2=.free->∃c,cl.lookup y.1=some c
 caps:∀(j:Nat)(y:Str),N[j]?=some y->∃k c,fr[j]?=some k/\X.N[k]?=some y/\Vis X.env.scope y/\X.env.kindOf y≠some .local/\cl.lookup y=some c/\(scope.names.lookup y=some .free)
 len:N.length=fr.length
theorem lU{prog:Program}{w:World}{A:Around}{R:Result->Shared->Prop}{elt target iter:Expr}{ifs:List Expr}{pos:Pos}{it acc:Value}(J:Nat->Shared->Prop)(go:∀n s,J n s->wpAny (model prog w) A (pyNext it) (λr s1=>match r with
   |none=>R (.ok .next) s1
   | some v=>wpAny (model prog w) A (letOwnedTupleGo target it v) (λ_ s2=>wpAny (model prog w) A (assign target env v) (λ_ s3 =>
     wpAny (model prog w) A (forIn ifs true λc r=>if r=true then do let ok <- isTrue c env (eval c env);pure (ForInStep.yield ok) else pure (ForInStep.yield r)) (λok s4 =>
      if ok=true then wpAny (model prog w) A (eval elt env) (λx s5=>wpAny (model prog w) A (call (.builtin "list.append") [acc,x]) (λ_ s6=>∃m,m<n/\J m s6) (notedBy (model prog w) A env λe s'=>R (.error e) s') s5) (notedBy (model prog w) A env λe s'=>R (.error e) s') s4
      else ∃m,m<n/\J m s4) (notedBy (model prog w) A env λe s'=>R (.error e) s') s3) (notedBy (model prog w) A env λe s'=>R (.error e) s') s2) (notedBy (model prog w) A env λe s'=>R (.error e) s') s1) (notedBy (model prog w) A env λe s'=>R (.error e) s') s)(n:Nat)(h:J n s):codeAny (model prog w) A (.compLoop (.ListComp elt [⟨target,iter,ifs,0⟩] scope pos) 0 it acc env) R s:=by
 refine codeAny_loop rfl J (λn s hJ=>?_) n h;change wpAny _ A ((compTurn (.ListComp elt [⟨target,iter,ifs,0⟩] scope pos) 0 it acc env).onRaise λx=>do noteFrame x env;theTreesLotGoes x) _ _ s;refine wpAny_noted ?_;rw[compTurn_list];refine xAd (wpAny_standAt<|xAd<|wpAny_mono (go n s hJ) (λr s1 h1=>?_) λ_ _ z=>z);cases r with
 |none=>exact xAe h1
 |some v=>
  refine xAd (wpAny_mono h1 (λ_ s2 h2=>?_) λ_ _ z=>z);refine xAd (wpAny_mono h2 (λ_ s3 h3=>xAd<|wpAny_mono h3 (λok s4 h4=>?_) λ_ _ z=>z) λ_ _ z=>z);cases ok with
  |false=>exact xAe ⟨rfl,h4⟩
  |true=>exact xAd (xAd<|wpAny_mono h4 (λx s5 h5=>xAd<|wpAny_mono h5 (λ_ s6 h6=>xAe<|xAe ⟨rfl,h6⟩) λ_ _ z=>z) λ_ _ z=>z)
def PTs(X:Cx)(ifs:List Expr)(t:TT):Prop:=
 ∀(Z:List<|Addr×Obj)(s:Shared)(σ:St)(H:Hp)(Q:Bool->Hp->Prop),Inv X Z σ H s->t σ H Q ->
  wpAny (model X.prog X.w) X.A (forIn ifs true λc r=>if r=true then do let ok <- isTrue c X.env (eval c X.env);pure (ForInStep.yield ok) else pure (ForInStep.yield r)) (TP X Z σ Q) X.xe s
def zHu:TT:=λ_ H Q=>Q true H
def tI{X:Cx}:PTs X [] zHu:=λ_ _ _ H _ I h=>wpAny_tests_nil ⟨H,I,h⟩
def tH{X:Cx}{c:Expr}{t:TT}(h:PT X c t):PTs X [c] t:=λZ s σ H Q I q=>wpAny_tests_one<|h Z s σ H Q I q
def zGh(wi:TI)(m:Nat)(fr:List Nat)(g:TG)(tc:TT)(te:TE):TE:=λσ H Q=>wi σ H λJ H1=>∀D,H1 D=none->∃W:Nat->Nat->List V->Hp->Prop,(∃k,W 0 k []<|upd H1 D<|.lst [])/\∀i k ys H,W i k ys H->H D=some (.lst ys) /\
 ((J.stop i H/\Q (.ref D) H)\/(J.go i H/\ys.length<sizeLine/\∃N:List V->Hp->Prop,(∀ys' H',N ys' H'->∃k',k'<k/\W (i+1) k' ys' H') /\
  ∀x H',J.yld i H x H'->g x (List.replicate m none++zCy σ fr) H' λσ2 H2=>σ2.drop m=zCy σ fr/\σ2.length=m+fr.length /\
   tc σ2 H2 λb H3=>H3 D=some (.lst ys)/\if b=true then te σ2 H3 λv H4=>H4 D=some (.lst ys)/\N (ys++[v]) (upd H4 D<|.lst<|ys++[v]) else N ys H3))
def Inv.forget{X:Cx}{σ':St}(I:Inv X Z σ H s)(hl:σ'.length=σ.length)(h:∀(i:Nat)(v:V),σ'[i]?=some (some v)->σ[i]?=some (some v)):Inv X Z σ' H s:=
 ⟨I.ok,I.os,I.bare,I.base,let ⟨m,h1,h2⟩:=I.loc;⟨m,h1,λi x v e1 e2 e3=>h2 i x v e1 (h i v e2) e3⟩,I.cell,I.free,I.freeC,I.pin,I.hok,hl.trans I.len⟩
def ko{m:Nat}{cs:St}{v:V}(h:(List.replicate m none++cs)[i]?=some (some v)):m<=i/\cs[i-m]?=some (some v):=by
 by_cases hi:i<m
 ·rw[xCm (by simpa using hi),List.getElem?_replicate,xCg hi] at h;cases h
 ·rw[xCl (by simp;lia),xCu] at h;exact⟨by lia,h⟩
section
variable{X:Cx}{elt tg iter:Expr}{ifs:List Expr}{pos:Pos}{scope:Scope}{cl:List<|Str×Addr}{ls N:List Str}{fr:List Nat}{wi:TI}{g:TG}{tc:TT}{te:TE}
def sw{C:Addr}(cp:zB2 X scope cl ls N fr)(I:Inv X Z σ H s)(hC:s.heap.objs.size<=C)(hf:∀b∈fp,zDc X Z H b)(hl:∀b∈fp,b<s.heap.objs.size) :
  (zAh X (ls++N) scope cl C s H fp).Ok where
 mod:=I.ok.mod
 kind:=cp.kind
 glob:=I.ok.glob
 blt:=I.ok.blt
 above:=hC
 inj:=λy z c e1 e2=>I.ok.inj y z c (cp.sub y c e1)<|cp.sub z c e2
 has:=λy h=>by
  have h':(relabel scope X.env).names.lookup y=some .cell\/(relabel scope X.env).names.lookup y=some .free:=h;rcases h' with h'|h'
  ·obtain⟨k0,m,z|⟨z,_⟩⟩:=gB h'
   ·subst z;exact absurd rfl<|cp.cell _ m
   ·subst z;exact cp.has _ m rfl
  ·obtain⟨k0,m,z|⟨_,z⟩⟩:=gB h'
   ·subst z;exact cp.has _ m rfl
   ·cases z
 cab:=λ_ _ e=>absurd e xAy
 hd:=I.ok.hd
 frames:=I.ok.frames
 stk:=.inl rfl
 exf:=λb hb=>⟨xA0<|xBc (hl b hb) hC,λy c e z=>(hf b hb).2.2.2.2.1 y c (cp.sub y c e) z⟩
 bs:=I.bs
 bsz:=xCk I.ok.bsz I.sz
 noex:=λb o e hb=>by
  have q:=hf b hb;rcases q.2.2.2.1 with z|z
  ·exact I.ok.noex b o e z
  ·have:=xA1 (I.ok.bs b o e).1;exact absurd (xBc this z)<|Nat.lt_irrefl _
 exfs:=λb hb z=>by
  have q:=hf b hb;rcases xAv.mp (I.stkSub b z) with z'|z'
  ·exact q.2.1 z'
  ·exact q.2.2.1 z'
 funs:=I.stack
 frf:=I.stkFree
def kT{pos':Pos}{Q:VK}{use:Option<|Value->Sem Unit}{QQ:Value->Shared->Prop}(hc:X.calm=true)(cp:zB2 X scope cl ls N fr)(hi:PI X tg iter wi)(hg:∀C s H fp,PG (zAh X (ls++N) scope cl C s H fp) tg g)(ht:∀C s H fp,PTs (zAh X (ls++N) scope cl C s H fp) ifs tc)(he:∀C s H fp,PE (zAh X (ls++N) scope cl C s H fp) elt te)(hs:∀v,foldedSetIterable iter X.env v=pure v)(I:Inv X Z σ H s)(h:zGh wi ls.length fr g tc te σ H Q)(fin:∀(B C:Addr)(H':Hp)(s4:Shared)(m:Str->Option Value),Inv X Z σ H' s4->zDc X Z H' C->s4.heap.Ns C m->Q (.ref B) H'->compPost (model X.prog X.w) X.A X.xe use QQ (.ref B) C (.ok .next) s4) :
  wpAny (model X.prog X.w) X.A (comprehension (.ListComp elt [⟨tg,iter,ifs,0⟩] scope pos) scope X.env pos' (newList []) false (eval iter X.env) use) QQ X.xe s:=by
 refine wpAny_comprehension_free (use:=use) rfl hs cp.clos cp.kind cp.names (thn (hi Z s σ H _ I h) λv s1 h1=>thn h1 λitv s2 h2=>?_);obtain⟨it,fp,tn,J,H2,e,I2,T,st2,f2,R⟩:=h2;subst e;have hfl:∀b∈fp,b<s2.heap.objs.size:=λb hb=>let ⟨o,e,_⟩:=T.obj _ _ st2 b hb;xA1 e;refine xBl<|wpAny_newFunctionEnv cp.cell (by intro y hy;simp at hy) (λh1 hns1 hsb1=>?_) cp.kind;dsimp only at hns1 hsb1⊢;generalize hG:s2.heap.push {cls:=.type "list",dict:=none,data:=.seq ([]:List Value).toArray}=G2 at hns1 hsb1⊢;have hCs:G2.objs.size=s2.heap.objs.size+1:=by rw[<- hG,Heap.size_push]
 have hDC:s2.heap.objs.size≠G2.objs.size:=by rw[hCs];exact xA0<|Nat.lt_succ_self _
 have hCle:s2.heap.objs.size<=G2.objs.size:=by rw[hCs];exact Nat.le_succ _
 have old:∀b o,s2.heap.get? b=some o->h1.get? b=some o:=λb o e=>hsb1.extBut b o (xA0<|xBc (xA1 e) hCle)<|xAf _<|hG▸xAf _ e;have hacc:h1.get? s2.heap.objs.size=some {cls:=.type "list",dict:=none,data:=.seq ([]:List Value).toArray}:=hsb1.extBut _ _ hDC<|xAf _<|hG▸xAl _ rfl;have hDn:H2 s2.heap.objs.size=none:=I2.hok.fresh<|xAg _;have hCn:H2 G2.objs.size=none:=I2.hok.fresh hCle;obtain⟨W,⟨m0,w0⟩,turn⟩:=R s2.heap.objs.size hDn;have okY:=sw (C:=G2.objs.size) cp I2 hCle f2 hfl;have I3:Inv (zAh X (ls++N) scope cl G2.objs.size s2 H2 fp) [] (List.replicate ls.length none++zCy σ fr) (upd H2 s2.heap.objs.size<|.lst []) {s2 with heap:=h1,toks:=s2.toks+([]:List<|Str×Value).length}:=by
  refine⟨okY,rfl,I2.bare,Un.laid old (xAg _) hDn,⟨_,hns1,λi y v e1 e2 e3=>?_⟩,λy c e=>?_,?_,λy c e=>?_,(λp hp=>nomatch hp),I2.hok.laid old (xAg _) ⟨xBn _,[],0,.nil,hacc⟩,?_⟩
  ·obtain⟨hm,e2'⟩:=ko e2;have e1':N[i-ls.length]?=some y:=by
    have e1'':(ls++N)[i]?=some y:=e1;rw[xCl hm] at e1'';exact e1''
   obtain⟨k,c,g1,g2,g3,g4,g5,g6⟩:=cp.caps _ y e1';have e4:σ[k]?=some (some v):=by
    unfold zCy at e2';rw[xAw,g1] at e2';have e5:(σ[k]?).join=some v:=xB3 e2';cases z:σ[k]? with
    |none=>rw[z] at e5;cases e5
    |some o=>rw[z] at e5;exact congrArg some e5
   obtain⟨m2,_,hl2⟩:=I2.loc;obtain⟨u,r,lk⟩:=hl2 k y v g2 e4 g3;refine⟨u,r,.inr ⟨eJ g6,c,g5,?_⟩⟩;rcases lk with ⟨lk,_⟩|⟨_,c',lk1,o,lk2,lk3⟩
   ·exact absurd lk g4
   ·have:=cp.sub y c g5;rw[lk1] at this;cases this;exact⟨o,old _ _ lk2,lk3⟩
  ·obtain⟨v,o,e1,e2⟩:=I2.cell y c<|cp.sub y c e;exact⟨v,o,old _ _ e1,e2⟩
  ·show upd H2 s2.heap.objs.size (.lst []) G2.objs.size=none;rw[db<|Ne.symm hDC];exact hCn
  ·obtain⟨v,o,e1,e2⟩:=I2.cell y c<|cp.sub y c e;rw[db<|xA0<|xA1 e1];exact I2.freeC y c<|cp.sub y c e
  ·change(List.replicate ls.length none++zCy σ fr).length=(ls++N).length;unfold zCy;rw[xAb,xAb,xCu,xAa,cp.len]
 have stat:∀{H':Hp},(∀b∈fp,H' b=none)->∀b∈fp,zDc (zAh X (ls++N) scope cl G2.objs.size s2 H2 fp) [] H' b:=λhn b hb=>
  ⟨hn b hb,xA0<|xBc (hfl b hb) hCle,okY.exfs b hb,.inl hb,(okY.exf b hb).2,λp hp=>nomatch hp⟩
 have loop:∀s3:Shared,s3={s2 with heap:=h1,toks:=s2.toks+([]:List<|Str×Value).length} ->
   codeAny (model X.prog X.w) X.A (.compLoop (.ListComp elt [⟨tg,iter,ifs,0⟩] scope pos) 0 (.ref it) (.ref s2.heap.objs.size)<|compEnvC scope cl G2.objs.size X.env)
    (compPost (model X.prog X.w) X.A X.xe use QQ (.ref s2.heap.objs.size) G2.objs.size) s3:=by
  rintro s3 rfl
  refine lU (λn s'=>∃i ys H',Inv (zAh X (ls++N) scope cl G2.objs.size s2 H2 fp) [] (List.replicate ls.length none++zCy σ fr) H' s'/\tn i s'.heap/\(∀b∈fp,H' b=none)/\W i n ys H') ?_ m0
   ⟨0,[],_,I3,T.keep _ _ _ st2 λb hb o e=>old b o e,λb hb=>by rw[db<|xA0<|hfl b hb];exact(f2 b hb).1,w0⟩
  rintro n s' ⟨i,ys,H',IY,st,frn,w'⟩
  obtain⟨hD,hh⟩:=turn i n ys H' w';rcases hh with ⟨stop,q⟩|⟨go,hz,Nx,hN,step⟩
  ·refine wpAny_mono (T.done (zAh X (ls++N) scope cl G2.objs.size s2 H2 fp) rfl rfl rfl hc i [] s' _ H' (λ_ _=>False) IY (stat frn) st stop) (λr s4 h4=>?_) (λ_ _ z=>z.elim);obtain⟨hr,I4⟩:=h4;subst hr;obtain⟨mY,hnY,_⟩:=I4.loc;have I5:Inv X Z σ H' s4:=Inv.call' (s:=s2) (H:=H2) (ch:=fp) I2 I4.os I4.base I4.hok I4.bare (λb hb=>⟨(f2 b hb).2.2.2.1,(f2 b hb).2.1,(f2 b hb).2.2.2.2.1,(f2 b hb).2.2.2.2.2⟩);exact fin _ _ H' s4 mY I5 (I2.fpOk hCle I4.free) hnY q
  ·refine wpAny_mono (T.item (zAh X (ls++N) scope cl G2.objs.size s2 H2 fp) rfl rfl rfl hc i [] s' _ H' (λ_ _=>False) IY (stat frn) st go) (λr s4 h4=>?_) (λ_ _ z=>z.elim);obtain⟨u,hr,h4⟩:=h4;subst hr;refine wpAny_mono h4 (λ_ s5 h5=>?_) (λ_ _ z=>z.elim);obtain⟨xv,H5,I5,r5,y5,st5,fr5⟩:=h5;have I5':=I5.pinned (stat fr5)<|T.obj _ _ st5;refine wpAny_mono (hg G2.objs.size s2 H2 fp _ s5 _ H5 xv u _ I5' r5<|step xv H5 y5) (λ_ s6 h6=>?_) (λ_ _ z=>z.elim);obtain⟨σ6,H6,I6,c6,l6,t6⟩:=h6;have back:∀{H7:Hp}{s7:Shared},Inv (zAh X (ls++N) scope cl G2.objs.size s2 H2 fp) ([]++zCa fp s5.heap) σ6 H7 s7->Inv (zAh X (ls++N) scope cl G2.objs.size s2 H2 fp) [] (List.replicate ls.length none++zCy σ fr) H7 s7/\tn (i+1) s7.heap/\∀b∈fp,H7 b=none:=λ{H7 s7} I7=>by
    refine⟨I7.unpinned.forget ?_ λj v e=>?_,T.keep _ _ _ st5 λb hb o e=>(I7.pin (b,o)<|xBt _<|xBt _<|fA hb e).1,λb hb=>?_⟩
    ·rw[l6,xAb,xCu];unfold zCy;rw[xAa]
    ·obtain⟨hm,e'⟩:=ko e;rw[<- c6,List.getElem?_drop] at e';rw[show j=ls.length+(j-ls.length) by lia];exact e'
    ·obtain⟨o,e,d⟩:=T.obj _ _ st5 b hb;exact(I7.pin (b,o)<|xBt _<|xBt _<|fA hb e).2.1
   refine wpAny_mono (ht G2.objs.size s2 H2 fp _ s6 _ H6 _ I6 t6) (λok s7 h7=>?_) (λ_ _ z=>z.elim);obtain⟨H7,I7,hD7,h7⟩:=h7;cases ok with
   |false=>
    rw[xCf xAy] at h7⊢;obtain⟨k',hk,w8⟩:=hN _ _ h7;obtain⟨b1,b2,b3⟩:=back I7;exact⟨k',hk,i+1,ys,H7,b1,b2,b3,w8⟩
   |true=>
    rw[xCg rfl] at h7⊢;refine wpAny_mono (he G2.objs.size s2 H2 fp _ s7 _ H7 _ I7 h7) (λxv' s8 h8=>?_) (λ_ _ z=>z.elim);obtain⟨v8,H8,I8,r8,hD8,n8⟩:=h8;refine wpAny_mono (iX (X:=zAh X (ls++N) scope cl G2.objs.size s2 H2 fp) _ s8 _ H8 (.ref s2.heap.objs.size) [v8] (.ref s2.heap.objs.size) [xv'] (λv' H9=>H9=upd H8 s2.heap.objs.size (.lst<|ys++[v8])) I8 rfl (.cons r8 .nil) ⟨s2.heap.objs.size,ys,v8,rfl,rfl,hD8,hz,rfl⟩) (λ_ s9 h9=>?_) (λ_ _ z=>z.elim);obtain⟨v9,H9,I9,_,rfl⟩:=h9;obtain⟨k',hk,w9⟩:=hN _ _ n8;obtain⟨b1,b2,b3⟩:=back I9;exact⟨k',hk,i+1,ys++[v8],_,b1,b2,b3,w9⟩
 exact codeAny_compStart_list (loop _ rfl)<|T.self _ 0 _ _ _ (T.keep _ _ _ st2 λb hb o e=>old b o e)<|loop _ rfl
def xh(hc:X.calm=true)(cp:zB2 X scope cl ls N fr)(hi:PI X tg iter wi)(hg:∀C s H fp,PG (zAh X (ls++N) scope cl C s H fp) tg g)(ht:∀C s H fp,PTs (zAh X (ls++N) scope cl C s H fp) ifs tc)(he:∀C s H fp,PE (zAh X (ls++N) scope cl C s H fp) elt te)(hs:∀v,foldedSetIterable iter X.env v=pure v:=by intro _;rfl):PE X (.ListComp elt [⟨tg,iter,ifs,0⟩] scope pos)<|zGh wi ls.length fr g tc te:=by
 intro Z s σ H Q I h;rw[eval_ListComp];refine kT (use:=none) (QQ:=EP X Z σ Q) hc cp hi hg ht he hs I h λB C H' s4 m I4 f4 n4 q4=>⟨m,n4,λh' sb=>?_⟩
 exact⟨.ref B,H',I4.turned (t':=s4.toks) (λb o hb e=>sb.extBut b o hb e) f4.1 f4.2.1 f4.2.2.2.1 f4.2.2.2.2.1 f4.2.2.2.2.2,rfl,q4⟩
def p8{y:Str}{py spos:Pos}(hN:X.N.Nodup)(hiy:X.N[i]?=some y)(hy:X.env.scope.names.lookup y=some .local)(hc:X.calm=true)(cp:zB2 X scope cl ls N fr)(hi:PI X tg iter wi)(hg:∀C s H fp,PG (zAh X (ls++N) scope cl C s H fp) tg g)(ht:∀C s H fp,PTs (zAh X (ls++N) scope cl C s H fp) ifs tc)(he:∀C s H fp,PE (zAh X (ls++N) scope cl C s H fp) elt te)(hs:∀v,foldedSetIterable iter X.env v=pure v:=by intro _;rfl)(hsw:swapsWith (.ListComp elt [⟨tg,iter,ifs,0⟩] scope pos) (some<|.Name y py) spos.line X.env=pure true:=by rfl) :
  PS X (.Assign [.Name y py] (.ListComp elt [⟨tg,iter,ifs,0⟩] scope pos) spos) (zF3 (zGh wi ls.length fr g tc te)<|zCu i):=by
 intro Z s σ H D I h;rw[exec_Assign_Name_used _ _ _ _ hsw];refine xAd (wpAny_standAt<|xAd ?_);change wpAny _ X.A (do let _ <- comprehension (.ListComp elt [⟨tg,iter,ifs,0⟩] scope pos) scope X.env _ (newList []) false (eval iter X.env) (some<|assign (.Name y py) X.env)) _ _ s;refine xAd (wpAny_mono (kT (use:=some<|assign (.Name y py) X.env) (QQ:=λ_ s'=>SP X Z D .next s') hc cp hi hg ht he hs I h λB C H' s4 m I4 f4 n4 q4=>?_) (λ_ s' z=>xAe<|xAe z) λ_ _ z=>z);change wpAny _ X.A (assign (.Name y py) X.env<|.ref B) _ _ _;refine wpAny_assign_Name (iV I4 hN hiy (.inl hy) (v:=.ref B) rfl (λs5 I5 ⟨a,sb5,ha⟩=>?_)<|.inr hy);have aC:C≠a:=by
  rcases ha with ha|ha
  ·rw[ha];exact f4.2.1
  ·exact λz=>f4.2.2.2.2.1 _ _ ha z.symm
 refine⟨m,n4.sameBut sb5 aC,λh' sb=>⟨_,H',?_,q4⟩⟩;exact I5.turned (t':=s5.toks) (λb o hb e=>sb.extBut b o hb e) f4.1 f4.2.1 f4.2.2.2.1 f4.2.2.2.2.1 f4.2.2.2.2.2
end
structure zCe(X:Cx)(scope:Scope)(cl:List (Str×Addr))(y:Str)(k:Nat):Prop where
 ex:∃c,cl.lookup y=some c/\X.env.cells.lookup y=some c
 at':X.N[k]?=some y
 cell:X.env.scope.names.lookup y=some .cell
 free:scope.names.lookup y=some .free
theorem dY{α:Type}{y:Str}{c:α}:∀{l:List<|Str×α},l.lookup y=some c->(y,c)∈l
 |[],h=>by simp at h
 |(z,d)::r,h=>by
  rw[List.lookup_cons] at h;by_cases e:y==z
  ·rw[e] at h;cases xB3 h;rw[eq_of_beq e];exact xAr
  ·rw[Bool.eq_false_iff.mpr e] at h;exact xAs _<|dY h
def zB2.mk'{X:Cx}{cl:List<|Str×Addr}{ls N:List Str}{fr:List Nat}(clos:closureFor scope X.env=pure cl)(cell:∀y∈scope.names,y.2≠.cell)(kind:scope.kind=.function)(names:∀y∈scope.names,y.2=.local->scope.names.lookup y.1=some .local)(h:Paired (zCe X scope cl) N fr)(has:∀y∈scope.names,y.2=.free->y.1∈N)(hk:cl.map (·.1)=N):zB2 X scope cl ls N fr:=by
 have get:∀{N:List Str}{fr:List Nat},Paired (zCe X scope cl) N fr->∀(j:Nat)(y:Str),N[j]?=some y->∃k,fr[j]?=some k/\zCe X scope cl y k:=by
  intro N fr h;induction h with
  |nil=>intro j y e;simp at e
  |cons hd tl ih=>
   intro j y e;cases j with
   |zero=>simp at e;subst e;exact⟨_,rfl,hd⟩
   |succ j=>exact ih j y (by simpa using e)
 have mem:∀y∈N,∃k,zCe X scope cl y k:=λy hy=>by
  obtain⟨j,e⟩:=List.mem_iff_getElem?.mp hy;obtain⟨k,_,c⟩:=get h j y e;exact⟨k,c⟩
 refine⟨clos,cell,kind,names,λy c e=>?_,λy hy e=>?_,λj y e=>?_,h.length⟩
 ·have hy:y∈N:=by
   rw[<- hk];have:=dY e;exact xA2.mpr ⟨_,this,rfl⟩
  obtain⟨k,⟨c',e1,e2⟩,_⟩:=mem y hy;rw[e] at e1;cases e1;exact e2
 ·obtain⟨k,⟨c',e1,e2⟩,_⟩:=mem _<|has y hy e;exact⟨c',e1⟩
 ·obtain⟨k,e1,⟨c,e2,e3⟩,g1,g2,g3⟩:=get h j y e;refine⟨k,c,e1,g1,.inr<|.inl g2,λq=>?_,e2,g3⟩;have q':X.env.scope.names.lookup y=some .local:=q;rw[g2] at q';cases q'
section
variable{X:Cx}
def zEh(b:Bool):R2:=λx y H Q=>∃p q xs ys n,x=.ref p/\y=.ref q/\H p=some (.lst xs)/\H q=some (.lst ys)/\xs.length=ys.length/\n<=30/\(∀(j:Nat)(x y:V),xs[j]?=some x->ys[j]?=some y->Al H n x y)/\Q (.bl b) H
def qM(hu:X.A.units+40<cLine):OpR X (compareOp .NotEq)<|zEh false:=by
 intro Z s σ H x y v u Q I rx ry h;obtain⟨a,b,xs,ys,n,rfl,rfl,ea,eb,el,hn,al,q⟩:=h;cases (show v=Value.ref a from rx);cases (show u=Value.ref b from ry);obtain⟨_,its,n1,q1,t1⟩:=(show zAc X.prog X.w H s.heap a (.lst xs) from I.hok a _ ea)
 obtain⟨_,its2,n2,q2,t2⟩:=(show zAc X.prog X.w H s.heap b (.lst ys) from I.hok b _ eb)
 have he:∀j (h1:j<its.toArray.size) (h2:j<its2.toArray.size),SeqAt.EqAt X.A.in1 s its.toArray[j] its2.toArray[j]<|(λ_=>true) j:=λj j1 j2=>by
  obtain⟨x1,e1,g1⟩:=dR q1 j1;obtain⟨y1,e2,g2⟩:=dR q2 j2;exact gX I.hok (al j x1 y1 e1 e2) g1 g2 (by show X.A.units+1+n<cLine;lia)
 have es:its.toArray.size=its2.toArray.size:=by rw[xAp,xAp,<- q1.length,<- q2.length,el]
 refine(SeqAt.RcNeAt.lists (e:=λ_=>true) ⟨_,t1,rfl,_,rfl⟩ ⟨_,t2,rfl,_,rfl⟩ es (by lia) he) X.prog X.w X.xe _ ?_;refine dt I q ?_;simp
def qP(hu:X.A.units+40<cLine):OpR X (compareOp .Eq)<|zEh true:=by
 intro Z s σ H x y v u Q I rx ry h;obtain⟨a,b,xs,ys,n,rfl,rfl,ea,eb,el,hn,al,q⟩:=h;cases (show v=Value.ref a from rx);cases (show u=Value.ref b from ry);obtain⟨_,its,n1,q1,t1⟩:=(show zAc X.prog X.w H s.heap a (.lst xs) from I.hok a _ ea)
 obtain⟨_,its2,n2,q2,t2⟩:=(show zAc X.prog X.w H s.heap b (.lst ys) from I.hok b _ eb)
 have he:∀j (h1:j<its.toArray.size) (h2:j<its2.toArray.size),SeqAt.EqAt X.A.in1 s its.toArray[j] its2.toArray[j]<|(λ_=>true) j:=λj j1 j2=>by
  obtain⟨x1,e1,g1⟩:=dR q1 j1;obtain⟨y1,e2,g2⟩:=dR q2 j2;exact gX I.hok (al j x1 y1 e1 e2) g1 g2 (by show X.A.units+1+n<cLine;lia)
 have es:its.toArray.size=its2.toArray.size:=by rw[xAp,xAp,<- q1.length,<- q2.length,el]
 refine SeqAt.eq_listAt (e:=λ_=>true) ⟨_,t1,rfl,_,rfl⟩ ⟨_,t2,rfl,_,rfl⟩ es (by lia) he ?_;refine dt I q ?_;simp
end
def zIq(K:xFr):List V->Hp->VK->Prop:=λxs H Q=>∃x n,xs=[x]/\zI1 K x H n/\Q (.int n) H
def zFv:List V->Hp->VK->Prop:=λxs H Q=>∃a kvs,xs=[V.ref a]/\H a=some (.dK kvs)/\Q (.int kvs.length) H
def zFu(K:xFr):List V->Hp->VK->Prop:=λxs H Q=>∃p ys,xs=[.ref p]/\(SqL K H p ys\/SqT K H p ys)/\∀l,H l=none->Q (.ref l) (upd H l<|.lst ys)
def zDw(K:xFr):List V->Hp->VK->Prop:=λxs H Q=>∃p ys,xs=[.ref p]/\((SqL K H p ys/\∀l,H l=none->Q (.ref l) (upd H l<|.tup ys))\/(SqT K H p ys/\Q (.ref p) H))
def zJ1(K:xFr):List V->Hp->VK->Prop:=λxs H Q=>∃x n t b,xs=[x,V.ty n]/\zB1 K H x t/\W.kitOne K t (.type n)=some b/\Q (.bl b) H
def zFw:List V->Hp->VK->Prop:=λxs H Q=>(∃i,xs=[.int i]/\Q (.int i) H)\/∃k,xs=[.bl k]/\Q (.int<|if k then 1 else 0) H
section
variable{X:Cx}
def yz:zAl X (.builtin "len")<|zIq X.K:=sG
def vh:zAl X (.builtin "len") zFv:=oY
def vf:zAl X (.type "list")<|zFu X.K:=jT
def sk:zAl X (.type "tuple")<|zDw X.K:=iT
def yA:zAl X (.builtin "isinstance")<|zJ1 X.K:=oZ
def vi:zAl X (.type "int") zFw:=o7
end
def zJt:R2:=λx y H Q=>y=.non/\Q (.bl<|decide<|x=.non) H
def xq{X:Cx}:OpR X (compareOp .Is) zJt:=xy
def zGw:R2:=λx y H Q=>y=.non/\Q (.bl (!decide (x=.non))) H
def uj{X:Cx}:OpR X (compareOp .IsNot) zGw:=ul
section
variable{J:It}{P:Hp->Prop}{n:Nat}{Y:Nat->Hp->V->Hp->Prop}{g:TG}{tb:TS}{Dn:zDe}{σ:St}{H:Hp}
variable{K:xFr}{tl:TE}{tas:TA}{R:It->Hp->Prop}{a:Addr}{xs:List V}
def zFa(K:xFr)(x:V)(H:Hp)(R:It->Hp->Prop):Prop:=∃a,x=.ref a/\(∃xs,SqL K H a xs)/\R (Itl K a) H
def zE9(K:xFr)(x:V)(H:Hp)(R:It->Hp->Prop):Prop:=∃a,x=.ref a/\(∃xs,SqT K H a xs)/\R (Itt K a) H
end
section
variable{prog:Program}{w:World}{A:Around}{E:Value->Shared->Prop}{s:Shared}
theorem iG{it l:Addr}{items:Array Value}(hne:l≠it):∀(n i:Nat)(s:Shared)(Q:List Value->Shared->Prop),s.heap.IsListIter it l i->s.heap.IsList l items->i+n<=items.size ->
  (∀h',h'.IsListIter it l (i+n)->Heap.SameBut it s.heap h'->Q ((items.toList.drop i).take n) {s with heap:=h'})->wpAny (model prog w) A (draw (.ref it) n) Q E s
 |0,i,s,Q,hit,_,_,hQ=>by
  change wpAny _ _ (pure []) Q E s;exact xAe (by simpa using hQ s.heap hit (Heap.SameBut.refl ..))
 |n+1,i,s,Q,hit,hl,hle,hQ=>by
  have lt:i<items.size:=by lia
  change wpAny _ _ (pyNext (.ref it)>>=_) Q E s;refine xAd (wpAny_pyNext_list_item hit hl (x:=items[i]) (by simp[lt]) λh1 it1 sb1=>?_);refine xAd (xDc<|iG hne n (i+1) _ _ it1 (hl.at λo e=>(sb1.2 l hne).trans e) (by lia) λh2 it2 sb2=>xAe ?_);have hd:items.toList.drop i=items[i]::items.toList.drop (i+1):=by simp[List.drop_eq_getElem_cons,lt]
  have:=hQ h2 (by rw[show i+(n+1)=i+1+n by lia];exact it2)<|sb1.trans sb2;rw[hd,List.take_succ_cons] at this;exact this
def jo{l:Addr}{items:Array Value}{targets:List<|Bool×(Value->Sem Unit)}{Q:Unit->Shared->Prop}(hh:A.handled=none)(hl:s.heap.IsList l items)(hn:targets.length=items.size)(hstar:targets.findIdx? (·.1)=none)(h:∀h',Heap.ExtBut s.heap.objs.size s.heap h'->wpAny (model prog w) A (assignInOrder (targets.map (·.2)) items.toList) Q E {s with heap:=h'}) :
  wpAny (model prog w) A (unpack (.ref l) targets) Q E s:=by
 unfold unpack;rw[hn,hstar];refine xAd<|xDc ?_;have lt:l≠s.heap.objs.size:=by obtain⟨o,ho,_⟩:=hl;exact xA0<|xA1 ho
 unfold unpackItems;refine xAd ?_;unfold notIterableAtAll;refine xAd<|wpAny_specialOf hl.typeIs PySem.F.slot_list_iter.lookup ?_;refine xAe ?_;simp only[xAz,if_false];refine xAd<|xDc<|wpAny_pyIter_list hl ?_;refine xAd (xDc<|iG lt items.size 0 _ _ ⟨_,xAl _ rfl,rfl,rfl⟩ (hl.push _) (by lia) λh1 it1 sb1=>?_);have hall:List.take items.size (List.drop 0 items.toList)=items.toList:=by
  rw[List.drop_zero];exact List.take_of_length_le (by simp)
 rw[hall,xCf<|by simp];have hl1:h1.IsList l items:=(hl.push _).at λo e=>(sb1.2 l lt).trans e;refine xAd (xDc<|wpAny_pyNext_list_end hh it1 hl1 (by simp) λh2 e2=>?_);simp only[Option.isSome_none,xAz,if_false];exact xAe<|h h2 λb o hb e=>e2 b o hb<|sb1.extBut b o hb<|xAf _ e
end
section
variable{X:Cx}{pos:Pos}
def zJz(K:xFr)(n:Nat)(t:TGs):TG:=λv σ H Q=>∃a xs,v=.ref a/\SqL K H a xs/\xs.length=n/\t xs σ H Q
def w5{k:Nat}{t:TGs}(hc:X.calm=true)(h:PGs X es t)(hn:(assignEach es X.env).length=n:=by rfl)(hst:(assignEach es X.env).findIdx? (·.1)=none:=by rfl):PG X (.Tuple es k pos)<|zJz X.K n t:=by
 intro Z s σ H v u Q I r hw;obtain⟨a,xs,e1,hq,hl,hw⟩:=hw;subst e1;cases r;obtain⟨its,rv,ht,hz⟩:=I.list hq;rw[assign_Tuple];refine xAd (wpAny_standAt<|jo (I.ok.hd hc) ht.isList (by simp[hn,<- hl,rv.length]) hst λh' hx=>?_);have I1:Inv X Z σ H {s with heap:=h'}:=I.kept (t':=s.toks) λb o e=>hx b o (xA0<|xA1 e) e;exact h Z _ σ H xs _ Q I1 (by simpa using rv) hw
end
section
variable{X:Cx}
def zE5(K:xFr):R2:=λx y H Q=>∃a b xs ys,x=.ref a/\y=.ref b/\H a=some (.tup xs)/\H b=some (.tup ys)/\xs.length+ys.length<=sizeLine/\∀p H2,zFy H H2->H2 p=some (.tup<|xs++ys)->Q (.ref p) H2
def uk:OpR X (binaryOp .Add)<|zE5 X.K:=by
 intro Z s σ H x y v u Q I rx ry h;obtain⟨a,b,xs,ys,rfl,rfl,ha,hb,hz,q⟩:=h;by_cases hx:xs=[]
 ·cases (show v=Value.ref a from rx);cases (show u=Value.ref b from ry);subst hx;obtain⟨its,r1,p1,_⟩:=I.tuple<|SqT.of ha;obtain⟨its2,r2,p2,_⟩:=I.tuple<|SqT.of hb;have e1:its=[]:=r1.nil_iff.mpr rfl;subst e1;obtain⟨⟨cls,dd,data,sl⟩,ho,hc,n,hd⟩:=id p1;obtain⟨⟨cls2,dd2,data2,sl2⟩,ho2,hc2,n2,hd2⟩:=id p2;simp only at hc hd hc2 hd2;subst hc hd hc2 hd2;refine concat_meets ⟨_,ho,rfl⟩ ⟨_,ho2,rfl⟩ noFill_tuple_add seq_tuple_add PySem.F.slot_tuple_add PySem.F.entry_tuple_add (PySem.F.args_tuple_add_2 _ _)
   (tuple_addW0 a b ([]:List Value).toArray its2.toArray n n2 dd dd2 sl sl2<|by simp) ⟨ho,ho2,?_⟩
  exact⟨.ref b,H,I,rfl,q b H (.refl _) hb⟩
 ·refine ut Z s σ H _ _ v u Q I rx ry ⟨a,b,xs,ys,rfl,rfl,.of ha,.of hb,hx,hz,λe=>?_,λ_ p hp=>q p _ (eO hp _) dg⟩;subst e;exact q a H (.refl _) (by rw[xB0];exact ha)
end
noncomputable def zAa:Expr->Bool
 |.Starred _ _=>false
 |_=>true
def dj(h:zAa e=true):starEach (e::es) env=(false,eval e env)::starEach es env:=by
 cases e <;> first|rfl|cases h
theorem d0{pos:Pos}{env:Env}:∀{es:List Expr},es.all zAa=true->(backTo pos<|starEach es env).any (·.1)=false
 |[],_=>rfl
 |e::es,h=>by
  rw[xCj,xCh] at h;rw[dj h.1];change(false||(backTo pos<|starEach es env).any (·.1))=false;rw[d0 h.2];rfl
theorem j6{pos:Pos}{env:Env}:∀{es:List Expr},es.all zAa=true->(backTo pos<|starEach es env).all (λx=>!x.1)=true
 |[],_=>rfl
 |e::es,h=>by
  rw[xCj,xCh] at h;rw[dj h.1];change(true&&(backTo pos<|starEach es env).all (λx=>!x.1))=true;rw[j6 h.2];rfl
noncomputable def zAy:Expr->Bool
 |.ListComp ..=>false
 |.SetComp ..=>false
 |.DictComp ..=>false
 |_=>true
def f6{t:Option Expr}{l:Nat}(h:zAy e=true):swapsWith e t l env=pure false:=by
 cases e <;> first|rfl|cases h
noncomputable def zBf:Expr->Bool
 |.Call ..=>false
 |_=>true
def fL{o:Expr}{f:Str}{x:Sem Value}(h:zBf o=true):attributeBase o f env x=x:=by
 cases o <;> first|rfl|cases h
section
variable{X:Cx}{e o:Expr}{es:List Expr}{te to:TE}{t:TA}{pos p apos cpos:Pos}{x name:Str}{id T:String}{i:Nat}{r:List V->Hp->VK->Prop}
def lC(ha:PE X e te)(hr:PA X es t)(h:zAa e=true:=by rfl):PA X (e::es)<|zEz te t:=ud ha hr<|dj h
def mJ(hc:zAl X (.builtin id) r)(hg:Gl X x)(hm:X.mg x=none)(hv:bootBuiltins x=some (.builtin id))(ha:PA X (e::es) t)(h:(e::es).all zAa=true:=by rfl)(hn:x≠"__name__":=by decide)(hdb:(x==("__debug__":Str))=false:=by decide):PE X (.Call (.Name x p) (e::es) [] pos)<|tCB r t:=by
 rw[xCj,xCh] at h;exact qC hc hg hm hv ha hn hdb (dj h.1)<|d0 h.2
def vJ(hc:zAl X (.type T) r)(hg:Gl X x)(hm:X.mg x=none)(hv:bootBuiltins x=some (.type T))(ha:PA X (e::es) t)(h:(e::es).all zAa=true:=by rfl)(hn:x≠"__name__":=by decide)(hdb:(x==("__debug__":Str))=false:=by decide):PE X (.Call (.Name x p) (e::es) [] pos)<|tCB r t:=by
 rw[xCj,xCh] at h;exact ot hc hg hm hv ha hn hdb (dj h.1)<|d0 h.2
variable{k k':Nat}{ps:List Str}{sp:Sp}
def zk(he:PE X e te)(h:zAy e=true:=by rfl):PS X (.Expr e pos)<|zEx te:=tO he<|f6 h
variable{rm:V->List V->Hp->VK->Prop}
def A9(pa:PlainAttrs T)(slot:Slot T name id)(hty:typeOf (.builtin id)=pure (.type "method_descriptor"))(hm:MtR X id rm)(ho:PE X o to)(ha:PA X [e] t)(h:zBf o=true:=by rfl)(h2:zAa e=true:=by rfl)(hline:(apos.endLine==cpos.line)=true:=by rfl) :
  PE X (.Call (.Attribute o name apos) [e] [] cpos) (tBM X.K T rm to t):=
 zv pa slot hty hm ho ha (fL h) (by rw[dj h2];rfl) hline (dj h2) rfl
def zt(pa:PlainAttrs T)(slot:Slot T name id)(hty:typeOf (.builtin id)=pure (.type "method_descriptor"))(hm:MtR X id rm)(ho:PE X o to)(h:zBf o=true:=by rfl)(hline:(apos.endLine==cpos.line)=true:=by rfl) :
  PE X (.Call (.Attribute o name apos) [] [] cpos) (zHw X.K T rm to):=xk pa slot hty hm ho (fL h) hline
def zo{tg:Expr}{ta:TA}(hg:Gl X "range")(hm:X.mg "range"=none)(ha:PA X [e] ta)(h:zAa e=true:=by rfl):PI X tg (.Call (.Name "range" p) [e] [] pos)<|zFm ta:=om hg hm ha<|dj h
end
section
variable{X:Cx}{e a b c o:Expr}{es:List Expr}{te ta tb tc to:TE}{t u:TA}{pos p p2 apos cpos px:Pos}{x y name:Str}{id T:String}{i j k:Nat}{st:Stmt}{sts:List Stmt}{ts us:TS}{tt tt':TT}
noncomputable def zBz:Expr->Bool
 |.Slice ..=>false
 |_=>true
def qi(h:zBz b=true):zCl b:=λo i=>by cases b <;> first|rfl|cases h
variable{r:List V->Hp->VK->Prop}{rm:V->List V->Hp->VK->Prop}{ps:List Str}{sp:Sp}{k':Nat}
variable{tg iter elt:Expr}{g:TG}{gs:TGs}{wi:TI}{tas:TA}
def vy(h:zAa e=true):assignEach (e::es) env=(false,assign e env)::assignEach es env:=by
 cases e <;> first|rfl|cases h
theorem fD{env:Env}:∀{es:List Expr},es.all zAa=true->(assignEach es env).length=es.length/\(assignEach es env).findIdx? (·.1)=none
 |[],_=>⟨rfl,rfl⟩
 |e::es,h=>by
  rw[xCj,xCh] at h;obtain⟨h1,h2⟩:=fD (env:=env) h.2;rw[vy h.1];refine⟨by rw[xAo,h1,xAo],?_⟩;rw[List.findIdx?_cons,h2];rfl
variable{scope:Scope}{cl:List<|Str×Addr}{ls N:List Str}{fr:List Nat}{ifs:List Expr}
variable{body orelse:List Stmt}
end
def zGx(h:n<=16000000):n<sizeLine:=by rw[sizeLine_eq];lia
def zFf(h:n<=16000000):n<=sizeLine:=Nat.le_of_lt<|zGx h
def zF0(i j:Int):Prop:=0<j/\j<=10^18
def qN{X:Cx}:OpR X (binaryOp .FloorDiv)<|rI zF0 λi j=>.int<|i / j:=by
 intro Z s σ H x y v u Q I rx ry h;obtain⟨i,j,rfl,rfl,⟨hj,hj2⟩,q⟩:=h;have hl:j.natAbs.log2<9000:=by
  have h1:j.natAbs<2^60:=by
   have:(2:Int)^60=1152921504606846976:=by decide
   have:(10:Int)^18=1000000000000000000:=by decide
   have:(2:Nat)^60=1152921504606846976:=by decide
   lia
  have:=(Nat.log2_lt (n:=j.natAbs)<|by lia).mpr h1;lia
 refine qO Z s σ H _ _ v u Q I rx ry ⟨i,j,rfl,rfl,⟨by lia,PyProof.noPylong_of_log2 hl⟩,?_⟩;have e:i.fdiv j=i / j:=Int.fdiv_eq_ediv_of_nonneg _ (by lia);change Q (.int<|i.fdiv j) H;rw[e];exact q
section
variable{X:Cx}{Z:List<|Addr×Obj}{σ:St}{H:Hp}{s:Shared}{h':Heap}
def Inv.turnedL{t':Nat}(I:Inv X Z σ H s)(k:∀b o,b∉fp->s.heap.get? b=some o->h'.get? b=some o)(hf:∀b∈fp,zDc X Z H b):Inv X Z σ H {s with heap:=h',toks:=t'}:=by
 have nit:∀b u,H b=some u->b∉fp:=λb u e z=>by rw[(hf b z).1] at e;cases e
 refine I.step (g':=s.gens) (d':=s.drawn) (ch:=fp) (λb hb=>?_) (λb o _ _ hc e _=>k b o hc e) (λb o _ _ hc e _=>⟨o.slots,k b o hc e⟩) (λ_ _ _ _ n=>n)
  (λb o hc e=>⟨o,k b o hc e⟩) (λ_ _ e=>e) (λ_ _ _ e=>e) (λb ps e=>⟨#[],by rw[e];simp⟩) (λm hm=>?_) (λb u e=>?_) I.bare
 ·obtain⟨f0,f1,f2,f3,f4,f5⟩:=hf b hb;exact⟨f3,f1,f4,f5⟩
 ·obtain⟨o,es,ep,ho,r⟩:=hm;exact⟨o,es,ep,k _ o (λz=>(hf _ z).2.1 rfl) ho,r⟩
 ·refine(I.hok b u e).stay (λc v hc q=>k c v ?_ q) (λ_ q=>q) λ_ _ q=>q;rcases hc with z|z
  ·rw[z];exact nit b u e
  ·exact nit c _ z
end
end L2
namespace RevA
open PySem PySem.Spec PyProof.Rows
variable{t it:Addr}{items:Array Value}{Q:Value->Shared->Prop}
def qF:Manifest.owners.lookup (String.ofList ['d','e','s','r','e','v','e','r'].reverse)=some Manifest.sig_reversed:=by kernel_rfl
def j7:Slot "reversed" "__init__" "object.__init__" :=
 Slot.of (owner:="object") (n:="__init__") (by rw[typeLookup_type,builtinLookup_eq_fast];kernel_rfl) (by decide +kernel) (by decide +kernel) (by decide +kernel) (by first|exact .inl (by decide +kernel)|exact .inr (by decide +kernel)) (by rw[isSubtype_type];kernel_rfl)
def ef:Slot "reversed" "__next__" "reversed.__next__" :=
 Slot.of (owner:="reversed") (n:="__next__") (by rw[typeLookup_type,builtinLookup_eq_fast];kernel_rfl) (by decide +kernel) (by decide +kernel) (by decide +kernel) (by first|exact .inl (by decide +kernel)|exact .inr (by decide +kernel)) (by rw[isSubtype_type];kernel_rfl)
def gy:Slot "reversed" "__iter__" "reversed.__iter__" :=
 Slot.of (owner:="reversed") (n:="__iter__") (by rw[typeLookup_type,builtinLookup_eq_fast];kernel_rfl) (by decide +kernel) (by decide +kernel) (by decide +kernel) (by first|exact .inl (by decide +kernel)|exact .inr (by decide +kernel)) (by rw[isSubtype_type];kernel_rfl)
def gG:entryFor table "reversed.__next__"=some Builtin.«reversed.__next__»:=entryFor_of_tree (by kernel_rfl)
def kM:entryFor table "reversed.__iter__"=some Builtin.«dict_keyiterator.__iter__» :=
 entryFor_alias (id':="dict_keyiterator.__iter__") (by kernel_rfl) rfl (by decide +kernel) (by kernel_rfl)
def gI(a:Value):argsOk "reversed.__next__" ⟨[a],[]⟩:=by
 unfold argsOk;rw[signature?_of (id:="reversed.__next__") (n:=['_','_','t','x','e','n','_','_']) (o:=['d','e','s','r','e','v','e','r']) (by kernel_rfl) qF];kernel_rfl
def kZ(a:Value):argsOk "reversed.__iter__" ⟨[a],[]⟩:=by
 unfold argsOk;rw[signature?_of (id:="reversed.__iter__") (n:=['_','_','r','e','t','i','_','_']) (o:=['d','e','s','r','e','v','e','r']) (by kernel_rfl) qF];kernel_rfl
def gu:TypeCalled "reversed" "reversed.__new__" "object.__init__" :=
 ⟨by decide +kernel,by decide +kernel,⟨_,_,PySem.F.mro_reversed⟩,PySem.F.made_reversed,by decide +kernel,PySem.F.sub_reversed_self,j7⟩
def nQ:typeLookup (.type "tuple") "__reversed__"=pure none:=by rw[typeLookup_type,builtinLookup_eq_fast];kernel_rfl
def mh:typeLookup (.type "tuple") "__getitem__"=pure (some<|.builtin "tuple.__getitem__"):=PySem.F.slot_tuple_getitem.lookup
def ld:isSubtype (.type "tuple") (.type "dict")=pure false:=by rw[isSubtype_type];kernel_rfl
def zB8(t:Addr)(i:Int):Obj:={cls:=.type "reversed",dict:=none,data:=.fields #[.ref t,rawInt i],slots:=#[]}
section
variable{prog:Program}{w:World}{A:Around}{E:Value->Shared->Prop}{s:Shared}
def xC{Q₁:Value->Shared->Prop}(ht:IsTup s.heap t items)(hfit:(items.size:Int)<2^63)(q:Q₁ (.ref s.heap.objs.size) {s with heap:=s.heap.push<|zB8 t<|(items.size:Int)-1,toks:=s.toks+1+1}) :
  codeAny (model prog w) A (.call (.builtin "reversed.__new__") ⟨[.type "reversed",.ref t],[]⟩) (wants Q₁ E) s:=by
 refine codeAny_of_tree ?_;change wpAny _ A.in1 (do checkBuiltinCall "reversed.__new__" ⟨[.type "reversed",.ref t],[]⟩;again (.builtin "reversed.__new__" ⟨[.type "reversed",.ref t],[]⟩)) _ _ s;refine xAd<|wpAny_of_eq (PySem.F.newCall_reversed_1 _)<|xAe ⟨plainId_quiet PySem.F.plain_reversed_new _,codeAny_builtin PySem.F.entry_reversed_new ?_⟩;rw[Around.under_plainId PySem.F.plain_reversed_new _];unfold Builtin.«reversed.__new__»;refine xAd<|wpAny_of_eq (newClass_reversed _) ?_;try dsimp only
 refine xAd<|wpAny_of_eq (a:=()) (by first|rfl|kernel_rfl) ?_;refine xAd<|wpAny_of_eq (a:=()) (by first|rfl|kernel_rfl) ?_;try dsimp only
 refine xAd<|wpAny_specialOf ht.typeIs nQ ?_;try dsimp only
 have ty:=ht.typeIs (s:=s);refine xAd ?_
 wp_delta
 refine xAd<|wpAny_isInstance (T:="tuple") (b:=false) ty ld ?_;rw[xCf<|by decide];refine xAd<|wpAny_specialOf ty mh ?_;try dsimp only
 rw[xCg<|by decide];refine xAe ?_;rw[xCf<|by decide];refine xAd<|len_tuple ht hfit ?_;refine xAd (m:=asInt? _)<|xAe ?_;try dsimp only
 change wpAny _ _ (newObj (.type "reversed") (.fields #[.ref t,rawInt<|(items.size:Int)-1])>>=_) _ _ _;refine xAd<|xBl ?_;exact xAe q
def vt(ht:IsTup s.heap t items)(hfit:(items.size:Int)<2^63)(q:Q (.ref s.heap.objs.size) {s with heap:=s.heap.push<|zB8 t<|(items.size:Int)-1,toks:=s.toks+1+1}):wpAny (model prog w) A (call (.type "reversed") [.ref t]) Q E s:=by
 refine callType_codes (Q₁:=λobj s₁=>s₁.TypeIs obj "reversed"/\Q obj s₁) gu (PySem.F.typeCall_reversed_1 _) PySem.F.entry_object_init
  (xC ht hfit ⟨⟨_,xAl _ rfl,rfl⟩,q⟩) λobj s₁ h₁=>?_
 exact⟨h₁.1,PySem.F.args_object_init_2 obj _,object_init_meets gu.init.lookup gu.made (by decide) prog w A.in1 _ s₁ ⟨h₁.1,rfl,h₁.2⟩⟩
def ux{i:Nat}{x:Value}{Q:Option Value->Shared->Prop}(hit:s.heap.get? it=some (zB8 t (i:Int)))(ht:IsTup s.heap t items)(hfit:(items.size:Int)<2^63)(hx:items[i]?=some x)(q:∀h' tk,h'.get? it=some (zB8 t<|(i:Int)-1)->Heap.SameBut it s.heap h'->Q (some x) {s with heap:=h',toks:=tk}):wpAny (model prog w) A (pyNext<|.ref it) Q E s:=by
 have ty:s.TypeIs (.ref it) "reversed":=⟨_,hit,rfl⟩
 have hi:i<items.size:=(xB7.mp hx).1;have ix:seqIndex? (i:Int) items.size=some i:=by
  unfold seqIndex?;simp only[xCf<|show ¬ (i:Int)<0 by lia];rw[xCg<|by simp;lia];simp
 unfold pyNext;refine xAd<|wpAny_attempt<|wpAny_callSpecial?_slot (name:=Str.ofString "__next__") ty ef<|wpAny_call_entry ef ty gG ?_<|gI _;unfold Builtin.«reversed.__next__»;refine xAd<|wpAny_of_eq (a:=(Value.ref it,[])) rfl ?_;try dsimp only
 refine xAd<|xDa hit rfl (x:=.ref t) rfl ?_;refine xAd<|xDa hit rfl (x:=rawInt (i:Int)) rfl ?_;change wpAny _ _ (if(i:Int)<0 then _ else _) _ _ s;rw[xCf<|by lia];refine xAd<|wpAny_specialOf ht.typeIs mh ?_;rw[xCf<|by simp];refine xAd<|wpAny_mkInt ?_;refine xAd<|wpAny_attempt<|getItem_tuple (j:=i) (show IsTup s.heap t items from ht) (by lia) (by lia) ix hx ?_;try dsimp only
 refine xAd<|xDa (s:={s with toks:=s.toks+1}) hit rfl (x:=rawInt (i:Int)) rfl ?_;try dsimp only
 refine xAd<|wpAny_setField (s:={s with toks:=s.toks+1}) hit rfl (by simp) ?_;refine xAe ⟨x,rfl,xAe<|q _ _ ?_<|Heap.SameBut.update ..⟩;exact xA7 _ hit rfl
theorem yw{Q:Option Value->Shared->Prop}(hh:A.handled=none)(hit:s.heap.get? it=some (zB8 t (-1)))(q:∀h',Heap.ExtBut it s.heap h'->Q none {s with heap:=h'}):wpAny (model prog w) A (pyNext<|.ref it) Q E s:=by
 have ty:s.TypeIs (.ref it) "reversed":=⟨_,hit,rfl⟩
 unfold pyNext;refine xAd<|wpAny_attempt<|wpAny_callSpecial?_slot (name:=Str.ofString "__next__") ty ef<|wpAny_call_entry ef ty gG ?_<|gI _;unfold Builtin.«reversed.__next__»;refine xAd<|wpAny_of_eq (a:=(Value.ref it,[])) rfl ?_;try dsimp only
 refine xAd<|xDa hit rfl (x:=.ref t) rfl ?_;refine xAd<|xDa hit rfl (x:=rawInt (-1)) rfl ?_;change wpAny _ _ (if(-1:Int)<0 then _ else _) _ _ s;rw[xCg<|by decide];refine xAd<|wpAny_rule ?_;refine xAd ?_
 wp_delta
 refine xAd<|wpAny_setField hit rfl (by simp) ?_;have h2:=xA7 (Obj.mapFields (·.setIfInBounds 1 (rawInt (-1)))) hit rfl;refine wpAny_setField h2 rfl (by simp) ?_;first
 |change wpAny _ _ (newExc (.type "StopIteration") []>>=_) _ _ _
 |(refine xAd ?_;change wpAny _ _ (newExc (.type "StopIteration") []>>=_) _ _ _)
 refine xAd ?_;simp only[newExc,newTuple];refine xAd (xBl ?_<|by size_fits);refine xAd (m:=firstArgMember _ _)<|wpAny_of_eq (a:=Value.none) (by first|rfl|(simp only[firstArgMember];rfl)) ?_;refine xBl ?_ (by size_fits);simp only[raiseNew];refine xAd<|wpAny_handled ?_;first|rw[show A.in1.handled=none from hh]|rw[hh]
 refine xAd<|xAe<|wpAny_throw ?_;refine xAd<|wpAny_isInstance (T:="StopIteration") (b:=true) ⟨_,xAl _ rfl,rfl⟩ isSubtype_stop ?_;refine xAe (q _ λb o hb e=>?_);exact xAf _<|xAf _<|(xA6 _ _<|Ne.symm hb).trans<|(xA6 _ _<|Ne.symm hb).trans e
def nh{i:Int}(hit:s.heap.get? it=some (zB8 t i))(h:Q (.ref it) s):wpAny (model prog w) A (pyIter<|.ref it) Q E s:=by
 have ty:s.TypeIs (.ref it) "reversed":=⟨_,hit,rfl⟩
 refine wpAny_pyIter_slot ty gy<|wpAny_call_entry gy ty kM ?_<|kZ _;change wpAny _ _ (ret<|.ref it) _ _ s;exact xAe ⟨_,rfl,"reversed",_,ty,ef.lookup,h⟩
end
end RevA
namespace L2
open PySem PySem.Spec PyProof.Rows RevA
def Itv(K:xFr)(a:Addr)(n:Nat):It:=
 ⟨λi H=>i<n/\∃xs,SqT K H a xs/\xs.length=n,λi H x H'=>H'=H/\∀xs,SqT K H a xs->xs[n-1-i]?=some x,λi _=>i=n⟩
def sV{P:Program}{w:World}{K:xFr}{tg:Expr}(a it:Addr)(n:Nat):zDz P w K tg (Itv K a n) [it] it (λi h=>i<=n/\h.get? it=some (zB8 a<|(n:Int)-1-(i:Int))) where
 mem:=by simp
 obj:=λi h st b hb=>by
  have e:b=it:=by simpa using hb
  subst e;exact⟨_,st.2,λv z=>by cases z⟩
 keep:=λi h h' st k=>⟨st.1,k it (by simp) _ st.2⟩
 item:=by
  intro X hP hw hK hc i Z s σ H E I hf st hg;subst hP hw hK;obtain⟨hin,xs,hq,hx⟩:=hg;obtain⟨its,rv,p,hz⟩:=I.tuple hq;have hl:=rv.length;have l63:=zBp;obtain⟨u,hu,ru⟩:=rv.get<|show xs[n-1-i]?=some (xs[n-1-i]'(by lia)) from xAk (by lia);obtain⟨f0,f1,f2,f3,f4,f5⟩:=hf it (by simp);have e:(n:Int)-1-(i:Int)=((n-1-i:Nat):Int):=by lia
  have hit:=st.2;rw[e] at hit;refine ux hit p (by rw[xAp];lia) (x:=u) (by simpa using hu) λh' tk st' sb=>?_;have I1:Inv X Z σ H {s with heap:=h',toks:=tk}:=I.turned (t':=tk) (λb o hb e=>(sb.2 b hb).trans e) f0 f1 f3 f4 f5;refine⟨u,rfl,jd (s:={s with heap:=h',toks:=tk}) (n:="reversed") st' rfl rfl (by decide) ⟨_,H,I1,ru,⟨rfl,λys hy=>by rw[I.tuple_inj hy hq];exact xAk (by lia)⟩,⟨hin,?_⟩,λb hb=>(hf b hb).1⟩⟩;have e2:((n-1-i:Nat):Int)-1=(n:Int)-1-((i+1:Nat):Int):=by lia
  rw[<- e2];exact st'
 done:=by
  intro X hP hw hK hc i Z s σ H E I hf st hg;subst hP hw hK;obtain rfl:i=n:=hg;obtain⟨f0,f1,f2,f3,f4,f5⟩:=hf it (by simp);have hit:=st.2;rw[show(i:Int)-1-(i:Int) = -1 by lia] at hit;exact yw (I.ok.hd hc) hit λh' eb=>⟨rfl,I.turned (t':=s.toks) (λb o hb e=>eb b o hb e) f0 f1 f3 f4 f5⟩
 self:=λ_ _ _ _ _ st h=>nh st.2 h
def zE8(K:xFr)(vs:List V)(H:Hp)(R:It->Hp->Prop):Prop:=∃a xs,vs=[.ref a]/\SqT K H a xs/\R (Itv K a xs.length) H
def zG2(K:xFr)(ta:TA):TI:=λσ H R=>ta σ H λvs H1=>zE8 K vs H1 R
section
variable{X:Cx}
theorem tW{a tg:Expr}{ta:TA}{p pos:Pos}(hg:Gl X "reversed")(hm:X.mg "reversed"=none)(ha:PA X [a] ta)(hs:starEach [a] X.env=[(false,eval a X.env)]:=by rfl):PI X tg (.Call (.Name "reversed" p) [a] [] pos)<|zG2 X.K ta:=by
 intro Z s σ H R I h;refine Call_ (fT I hg hm boot_reversed<|PyProof.Rows.callWith_type1 (thn (ha pos Z s σ H _ I h) λus s1 ⟨vs,H1,I1,r1,q1⟩=>?_) hs rfl);obtain⟨l,xs,e,hq,q⟩:=q1;subst e;cases r1 with
 |cons r rr=>
  cases rr;cases r;obtain⟨its,rv,pl,hz⟩:=I1.tuple hq;have hl:=rv.length;have l63:=zBp;refine vt pl (by rw[xAp];lia) ?_;rw[show its.toArray.size=xs.length by rw[xAp,hl]];refine nh (t:=l) (i:=(xs.length:Int)-1) (xAl _ rfl) ?_;have I2:Inv X Z σ H1 {s1 with heap:=s1.heap.push<|zB8 l<|(xs.length:Int)-1,toks:=s1.toks+1+1}:=I1.kept λb o e=>xAf _ e;refine⟨s1.heap.objs.size,[s1.heap.objs.size],_,_,H1,rfl,I2,sV l _ xs.length,⟨xBn _,?_⟩,λb hb=>?_,q⟩
  ·rw[show(xs.length:Int)-1-((0:Nat):Int)=(xs.length:Int)-1 by lia];exact xAl _ rfl
  ·have e:b=s1.heap.objs.size:=by simpa using hb
   subst e;exact I1.fpOk (xAg _)<|I1.hok.fresh<|xAg _
end
end L2
namespace RevA
open PySem PySem.Spec PyProof.Rows
open AutoSeq1 (wpAny_loadPart')
variable{it t:Addr}{i:Nat}{xs:Array Value}{Q:Value->Shared->Prop}
def zGd(t:Addr):Obj:={cls:=.type "tuple_iterator",data:=.fields #[.ref t,.int 0 0]}
section
variable{prog:Program}{w:World}{A:Around}{E:Value->Shared->Prop}{s:Shared}
def lF{x:Value}(hit:s.heap.IsTupleIter it t i)(hl:s.heap.IsTuple t xs)(hx:xs[i]?=some x)(q:∀h',h'.IsTupleIter it t (i+1)->Heap.SameBut it s.heap h'->Q x {s with heap:=h'}):wpAny (model prog w) A (Builtin.SmallTypes.nextOf<|.ref it) Q E s:=by
 obtain⟨o,ho,hc,hd⟩:=id hit;obtain⟨ol,hol,_,nl,hdl⟩:=hl;unfold Builtin.SmallTypes.nextOf;refine xAd<|wpAny_callSpecial?_slot (name:=Str.ofString "__next__") hit.typeIs PySem.F.slot_tuple_iterator_next<|wpAny_call_entry PySem.F.slot_tuple_iterator_next hit.typeIs PySem.F.entry_tuple_iterator_next ?_<|PySem.F.args_tuple_iterator_next_1 _;change wpAny _ _ (field (.ref it) 0>>=_) _ _ s;refine xAd<|xDa ho hd (x:=.ref t) rfl ?_;change wpAny _ _ (if(Value.ref t==Value.none)=true then _ else _) _ _ s;rw[xCf<|show ¬ ((Value.ref t==Value.none)=true) from xAy];change wpAny _ _ (field (.ref it) 1>>=_) _ _ s;refine xAd<|xDa ho hd (x:=.int i 0) rfl ?_;change wpAny _ _ (seqItems? (.ref t)>>=_) _ _ s;refine xAd<|wpAny_seqItems hol hdl ?_;simp only[Int.toNat_natCast,hx];refine xAd<|wpAny_setField ho hd (by simp)<|xAe ⟨x,rfl,xAe<|q _ ?_<|Heap.SameBut.update ..⟩;exact⟨_,xA7 _ ho<|Obj.isFreed_of_fields<|Obj.data_mapFields hd _,(Obj.cls_mapFields ..).trans hc,by rw[Obj.data_mapFields hd];simp[rawInt]⟩
def oA(hh:A.handled=none)(hit:s.heap.IsTupleIter it t i)(hl:s.heap.IsTuple t xs)(hx:xs[i]?=none)(q:∀h' e,Heap.ExtBut it s.heap h'->(∃o,h'.get? e=some o/\o.cls=.type "StopIteration")->E (.ref e) {s with heap:=h'}):wpAny (model prog w) A (Builtin.SmallTypes.nextOf<|.ref it) Q E s:=by
 obtain⟨o,ho,hc,hd⟩:=id hit;obtain⟨ol,hol,_,nl,hdl⟩:=hl;unfold Builtin.SmallTypes.nextOf;refine xAd<|wpAny_callSpecial?_slot (name:=Str.ofString "__next__") hit.typeIs PySem.F.slot_tuple_iterator_next<|wpAny_call_entry PySem.F.slot_tuple_iterator_next hit.typeIs PySem.F.entry_tuple_iterator_next ?_<|PySem.F.args_tuple_iterator_next_1 _;change wpAny _ _ (field (.ref it) 0>>=_) _ _ s;refine xAd<|xDa ho hd (x:=.ref t) rfl ?_;change wpAny _ _ (if(Value.ref t==Value.none)=true then _ else _) _ _ s;rw[xCf<|show ¬ ((Value.ref t==Value.none)=true) from xAy];change wpAny _ _ (field (.ref it) 1>>=_) _ _ s;refine xAd<|xDa ho hd (x:=.int i 0) rfl ?_;change wpAny _ _ (seqItems? (.ref t)>>=_) _ _ s;refine xAd<|wpAny_seqItems hol hdl ?_;simp only[Int.toNat_natCast,hx];refine xAd<|wpAny_rule<|xAd<|wpAny_setField ho hd (by simp) ?_;change wpAny _ _ (newExc (.type "StopIteration") []>>=_) _ _ _;refine xAd ?_;simp only[newExc,newTuple];refine xAd (xBl ?_<|by size_fits);refine xAd (m:=firstArgMember _ _)<|wpAny_of_eq (a:=Value.none) (by first|rfl|(simp only[firstArgMember];rfl)) ?_;refine xBl ?_ (by size_fits);simp only[raiseNew];refine xAd<|wpAny_handled ?_;first|rw[show A.in1.handled=none from hh]|rw[hh]
 refine xAd<|xAe<|wpAny_throw ?_;exact q _ _ (((Heap.SameBut.update ..).extBut.push _).push _) ⟨_,xAl _ rfl,rfl⟩
end
def zFq{prog:Program}{w:World}{A:Around}(hh:A.handled=none)(it l:Addr)(hne:l≠it)(xs:Array Value) :
  Draws prog w A it [it,l] xs.size (λi v=>xs[i]?=some v) (λi h=>h.IsTupleIter it l i/\h.IsTuple l xs) where
 live:=λ_ _ st=>let ⟨o,ho,_⟩:=st.1;⟨o,ho⟩
 frame:=λ_ _ _ st hk=>⟨st.1.at λo e=>hk it (by simp) o e,st.2.at λo e=>hk l (by simp) o e⟩
 item:=λi s Q E hi st hQ=>by
  refine lF st.1 st.2 (x:=xs[i]) (by simp[hi]) λh' hit' hs'=>?_;exact hQ _ h' s.toks (by simp[hi]) ⟨hit',st.2.extBut hs'.extBut hne⟩ hs'
 done:=λs Q E st hE=>oA hh st.1 st.2 (by simp) hE
end RevA
namespace L2
open PySem PySem.Spec PyProof.Rows
variable{α:Type}
theorem zIf{us:List α}(h:us.length=1):∃x0,us=[x0]:=by
 cases us with
 |nil=>cases h
 |cons a r=>
  cases r with
  |nil=>exact⟨a,rfl⟩
  |cons b r=>cases h
theorem zF6{us:List α}(h:us.length=2):∃x0 x1,us=[x0,x1]:=by
 cases us with
 |nil=>cases h
 |cons a r=>
  obtain⟨x1,rfl⟩:=zIf<|Nat.succ.inj h;exact⟨a,x1,rfl⟩
theorem zGy{us:List α}(h:us.length=3):∃x0 x1 x2,us=[x0,x1,x2]:=by
 cases us with
 |nil=>cases h
 |cons a r=>
  obtain⟨x1,x2,rfl⟩:=zF6<|Nat.succ.inj h;exact⟨a,x1,x2,rfl⟩
theorem zIe{us:List α}(h:us.length=4):∃x0 x1 x2 x3,us=[x0,x1,x2,x3]:=by
 cases us with
 |nil=>cases h
 |cons a r=>
  obtain⟨x1,x2,x3,rfl⟩:=zGy<|Nat.succ.inj h;exact⟨a,x1,x2,x3,rfl⟩
theorem zJu{us:List α}(h:us.length=5):∃x0 x1 x2 x3 x4,us=[x0,x1,x2,x3,x4]:=by
 cases us with
 |nil=>cases h
 |cons a r=>
  obtain⟨x1,x2,x3,x4,rfl⟩:=zIe<|Nat.succ.inj h;exact⟨a,x1,x2,x3,x4,rfl⟩
end L2
namespace L2
open PySem PySem.Spec PyProof.Rows SetA
def zDx:List V->Hp->VK->Prop:=λxs H Q=>∃d kvs,xs=[.ref d]/\Rd H d (.dK kvs)/\∀p,H p=none->Q (.ref p) (upd H p<|.dK kvs)
section
variable{X:Cx}{e tg o:Expr}{te td:TE}{apos cpos:Pos}
def sr:zAl X (.type "dict") zDx:=by
 intro Z s σ H xs us Q I r h;obtain⟨d,kvs,rfl,hd,q⟩:=h;obtain⟨u,rfl,ru⟩:=zBm r;obtain rfl:u=Value.ref d:=ru;exact sj I hd λp s' hp I'=>⟨.ref p,_,I',rfl,q p hp⟩
end
end L2
namespace Fx
open PySem L2
inductive U where
 |non|bl (b:Bool)|int (i:Int)|str (x:Str)|tup (xs:List U)|lst (xs:List U)|kt (xs:List U)|kl (xs:List U)|kd (kvs:List (Str×U)) (no:List Str)|ref (a:Nat)|ty (n:String)|gl (x:Str)
instance:Inhabited U:=⟨.non⟩
inductive Ob where
 |lst (xs:List U)|dct (kvs:List (Key×U))|ins (C:Str) (fs:List (Str×U))|dead
instance:Inhabited Ob:=⟨.dead⟩
noncomputable abbrev So:=List Ob
structure Xc where
 cls:Str
 fs:List (Str×U)
inductive Res where
 |ok (v:U) (S:So)|stuck
inductive Pm where
 |add (m:Bool)|sub|mul|fdiv|mod|pow|neg
 |eq|ne|lt|le|gt|ge|isN|notN|inn|nin
 |ix|sl (m a b:Bool)|tru|len|isT (n:String)|isC (C:Str)|abs|max|min|int1|str1
 |lst (m:Bool)|dct (ks:List Str)|tupOf|lstOf (m:Bool)|dctOf|lenset|all|any
 |app|pop|ext|get1|get2|join
 |typ (T:String)|fld (f:Str)|setf (f:Str)|seti|cls (C m:Str)|unp (n:Nat)|new (C:Str)
 |rng1|rng2|rng3|zip|enm|rev|seq|fnOf|frz|sortS
noncomputable def nth:List (Option U)->Nat->Option U
 |[],_=>none
 |v::_,0=>v
 |_::r,i+1=>nth r i
noncomputable def put:List (Option U)->Nat->U->List (Option U)
 |[],_,_=>[]
 |_::r,0,v=>some v::r
 |o::r,i+1,v=>o::put r i v
noncomputable def puts:List (Option U)->List Nat->List U->List (Option U)
 |σ,i::is,v::vs=>puts (put σ i v) is vs
 |σ,_,_=>σ
noncomputable def at?{α:Type}:List α->Nat->Option α
 |[],_=>none
 |v::_,0=>some v
 |_::r,i+1=>at? r i
noncomputable def set{α:Type}:List α->Nat->α->List α
 |[],_,_=>[]
 |_::r,0,v=>v::r
 |o::r,i+1,v=>o::set r i v
noncomputable def lsU(S:So):U->Option (List U)
 |.lst xs=>some xs
 |.kl xs=>some xs
 |.ref a=>match at? S a with
  |some (.lst xs)=>some xs
  |_=>none
 |_=>none
noncomputable def lsT(S:So):U->Option (List U)
 |.lst xs=>some xs
 |.ref a=>match at? S a with
  |some (.lst xs)=>some xs
  |_=>none
 |_=>none
noncomputable def sqU(S:So):U->Option (List U)
 |.tup xs=>some xs
 |.kt xs=>some xs
 |u=>lsU S u
noncomputable def sqF:U->Option (List U)
 |.tup xs=>some xs
 |.kt xs=>some xs
 |.lst xs=>some xs
 |.kl xs=>some xs
 |_=>none
noncomputable def mkL(m:Bool)(xs:List U)(S:So):Res:=match m with
 |true=>.ok (.ref S.length)<|S++[.lst xs]
 |false=>.ok (.lst xs) S
noncomputable def fits(n:Nat)(r:Res):Res:=match Nat.ble n sizeLine with
 |true=>r
 |false=>.stuck
noncomputable def zAj{α:Type}(f:Str):List (Str×α)->Option α
 |[]=>none
 |(g,v)::r=>if f=g then some v else zAj f r
noncomputable def putF(f:Str)(v:U):List (Str×U)->List (Str×U)
 |[]=>[(f,v)]
 |(g,u)::r=>if g=f then(g,v)::r else(g,u)::putF f v r
noncomputable def zBb(k:Key):List (Key×U)->Option U
 |[]=>none
 |(g,v)::r=>if g=k then some v else zBb k r
noncomputable def putK(k:Key)(v:U)(kvs:List<|Key×U):List<|Key×U:=if(kvs.any λkv=>decide<|kv.1=k)=true then kvs.map (λkv=>if kv.1=k then(kv.1,v) else kv) else kvs++[(k,v)]
noncomputable def zFg:U->Option Key
 |.int i=>some<|.inl i
 |.str x=>some<|.inr x
 |_=>none
inductive Sc where
 |non|int (i:Int)|bl (b:Bool)|str (x:Str)
noncomputable def Sc.u:Sc->U
 |.non=>.non
 |.int i=>.int i
 |.bl b=>.bl b
 |.str x=>.str x
noncomputable def sc:U->Option Sc
 |.non=>some .non
 |.int i=>some<|.int i
 |.bl b=>some<|.bl b
 |.str x=>some<|.str x
 |_=>none
def y9{u:U}{a:Sc}(h:sc u=some a):u=a.u:=by unfold sc at h;split at h <;> cases h <;> rfl
noncomputable def Sc.eq:Sc->Sc->Option Bool
 |.non,b=>match b with
  |.non=>some true
  |_=>some false
 |.int i,b=>match b with
  |.int j=>some<|decide<|i=j
  |.bl _=>none
  |_=>some false
 |.bl i,b=>match b with
  |.bl j=>some<|decide<|i=j
  |.int _=>none
  |_=>some false
 |.str i,b=>match b with
  |.str j=>some<|decide<|i=j
  |_=>some false
noncomputable def eqS(x y:U):Option Bool:=(sc x).bind λa=>(sc y).bind λb=>a.eq b
noncomputable def zAq:U->Bool
 |.non=>true
 |.bl _=>true
 |.int _=>true
 |.str _=>true
 |_=>false
noncomputable def eqF:U->U->Bool
 |.non,.non=>true
 |.bl a,.bl b=>a==b
 |.bl a,.int b=>(if a then 1 else 0)==b
 |.int a,.bl b=>a==(if b then 1 else 0)
 |.int a,.int b=>a==b
 |.str a,.str b=>a==b
 |_,_=>false
noncomputable def zA9{α:Type}(f:α->α->Bool):List α->List α->Bool
 |[],[]=>true
 |x::xs,y::ys=>f x y&&zA9 f xs ys
 |_,_=>false
noncomputable def same(S:So):Nat->U->U->Bool
 |0,x,y=>zAq x&&zAq y&&eqS x y==some true
 |n+1,x,y=>match x,y with
  |.tup xs,.tup ys=>zA9 (same S n) xs ys
  |x,y=>match lsT S x,lsT S y with
   |some xs,some ys=>zA9 (same S n) xs ys
   |_,_=>zAq x&&zAq y&&eqS x y==some true
noncomputable def zB5(x:U):List U->Bool
 |[]=>false
 |y::ys=>eqF y x||zB5 x ys
noncomputable def inU(S:So)(x y:U):Option Bool:=match y with
 |.str j=>match x with
  |.str i=>some (!(Builtin.Str.occurrences j i 0 j.length 1).isEmpty)
  |_=>none
 |.ref a=>match at? S a with
  |some (.dct kvs)=>(zFg x).map λk=>(zBb k kvs).isSome
  |some (.lst xs)=>if zAq x&&xs.all zAq then some (zB5 x xs) else none
  |_=>none
 |y=>match sqU S y with
  |some xs=>if zAq x&&xs.all zAq then some (zB5 x xs) else none
  |none=>none
noncomputable def obB(o:Option Bool)(f:Bool->Bool)(S:So):Res:=match o with
 |some b=>.ok (.bl<|f b) S
 |none=>.stuck
noncomputable def i2(f:Int->Int->U)(S:So):List U->Res
 |[.int i,.int j]=>.ok (f i j) S
 |_=>.stuck
noncomputable def zCj(xs:List U)(lo hi:Option Int):List U:=(xs.drop<|HT.sIx xs.length 0 lo).take<|HT.sIx xs.length xs.length hi-HT.sIx xs.length 0 lo
noncomputable def slice(m:Bool)(x:U)(lo hi:Option Int)(S:So):Res:=match x with
 |.tup xs=>match decide (HT.sIx xs.length 0 lo=0/\HT.sIx xs.length xs.length hi=xs.length) with
  |true=>.ok (.tup xs) S
  |false=>.ok (.tup<|zCj xs lo hi) S
 |x=>match lsU S x with
  |some xs=>mkL m (zCj xs lo hi) S
  |none=>.stuck
noncomputable def zEp(S:So):U->Option Bool
 |.bl b=>some b
 |.ref a=>match at? S a with
  |some (.lst xs)=>some (!xs.isEmpty)
  |_=>none
 |_=>none
noncomputable def isC(up:List<|Str×Str)(C D:Str):Bool:=decide (C=D)||up.any λp=>decide (p.1=C)&&decide (p.2=D)
noncomputable def tyU(S:So):U->Option String
 |.non=>some "NoneType"
 |.bl _=>some "bool"
 |.int _=>some "int"
 |.str _=>some "str"
 |.tup _=>some "tuple"
 |.lst _=>some "list"
 |.ref a=>match at? S a with
  |some (.lst _)=>some "list"
  |some (.dct _)=>some "dict"
  |some (.ins _ _)=>some "object"
  |_=>none
 |_=>none
noncomputable def zFj(t n:String):Bool:=(t==n)||(t == "bool" && n == "int")
noncomputable def zE0:List U->Option (List Str)
 |[]=>some []
 |.str x::r=>(zE0 r).map (x::·)
 |_=>none
noncomputable def blL:List U->Option (List Bool)
 |[]=>some []
 |.bl x::r=>(blL r).map (x::·)
 |_=>none
noncomputable def zB3(lo:Int):Nat->List U
 |0=>[]
 |n+1=>.int lo::zB3 (lo+1) n
noncomputable def zDg(lo:Int):Nat->List U
 |0=>[]
 |n+1=>.int lo::zDg (lo+2) n
noncomputable def zB6:List U->List U->List U
 |x::xs,y::ys=>.tup [x,y]::zB6 xs ys
 |_,_=>[]
noncomputable def zF9:List Str->List U->List (Key×U)
 |k::ks,v::vs=>(.inr k,v)::zF9 ks vs
 |_,_=>[]
noncomputable def zHg(m:Bool)(a b:U)(S:So):Res:=match a,b with
 |.int i,.int j=>.ok (.int<|i+j) S
 |.tup xs,.tup ys=>fits (xs.length+ys.length)<|.ok (.tup<|xs++ys) S
 |a,b=>match lsT S a,lsT S b with
  |some xs,some ys=>fits (xs.length+ys.length)<|mkL m (xs++ys) S
  |_,_=>.stuck
noncomputable def eqU(f:Bool->Bool)(a b:U)(S:So):Res:=match eqS a b with
 |some c=>.ok (.bl<|f c) S
 |none=>match same S 20 a b with
  |true=>.ok (.bl<|f true) S
  |false=>.stuck
noncomputable def opt(o:Option U)(S:So):Res:=match o with
 |some v=>.ok v S
 |none=>.stuck
noncomputable def ixU(a b:U)(S:So):Res:=match a with
 |.kd kvs _=>match b with
  |.str x=>opt (zAj x kvs) S
  |_=>.stuck
 |.str z=>match b with
  |.int i=>match atI z.cps.toList i with
   |some c=>fits z.length<|.ok (.str ⟨#[c]⟩) S
   |none=>.stuck
  |_=>.stuck
 |.ref p=>match at? S p with
  |some (.dct kvs)=>match zFg b with
   |some k=>opt (zBb k kvs) S
   |none=>.stuck
  |some (.lst xs)=>match b with
   |.int i=>opt (atI xs i) S
   |_=>.stuck
  |_=>.stuck
 |a=>match sqU S a with
  |some xs=>match b with
   |.int i=>opt (atI xs i) S
   |_=>.stuck
  |none=>.stuck
noncomputable def zD7(a:U)(S:So):Res:=match a with
 |.str x=>fits x.length<|.ok (.int x.length) S
 |.ref p=>match at? S p with
  |some (.lst xs)=>.ok (.int xs.length) S
  |some (.dct kvs)=>.ok (.int kvs.length) S
  |_=>.stuck
 |a=>match sqU S a with
  |some xs=>.ok (.int xs.length) S
  |none=>.stuck
noncomputable def zFl(D:Str)(a:U)(S:So)(up:List<|Str×Str):Res:=match a with
 |.ref p=>match at? S p with
  |some (.ins C _)=>.ok (.bl<|isC up C D) S
  |some (.lst _)=>.ok (.bl false) S
  |some (.dct _)=>.ok (.bl false) S
  |_=>.stuck
 |a=>match tyU S a with
  |some _=>.ok (.bl false) S
  |none=>.stuck
noncomputable def zB7(a:U)(S:So):Res:=match a with
 |.tup xs=>.ok (.tup xs) S
 |a=>match lsU S a with
  |some xs=>.ok (.tup xs) S
  |none=>.stuck
noncomputable def zCh(p:Nat)(k v:U)(S:So):Res:=match at? S p with
 |some (.dct kvs)=>match zFg k with
  |some k=>fits (kvs.length+1)<|.ok .non<|set S p<|.dct<|putK k v kvs
  |none=>.stuck
 |_=>.stuck
noncomputable def zGm(f:List U->U)(a:U)(S:So):Res:=match a with
 |.str x=>.ok (f<|x.cps.toList.map λc=>.str ⟨#[c]⟩) S
 |.ref p=>match at? S p with
  |some (.lst xs)=>.ok (f xs)<|set S p .dead
  |_=>.stuck
 |a=>match sqU S a with
  |some xs=>.ok (f xs) S
  |none=>.stuck
noncomputable def zCx(p:Nat)(S:So)(f:Str->List (Str×U)->Res):Res:=match at? S p with
 |some (.ins C fs)=>f C fs
 |_=>.stuck
noncomputable def zCr(p:Nat)(S:So)(f:List U->Res):Res:=match at? S p with
 |some (.lst xs)=>f xs
 |_=>.stuck
def zF4:U->Option Str
 |.str x=>some x
 |_=>none
noncomputable def zG5:U->Option (List U)
 |.lst xs=>some xs
 |_=>none
noncomputable def one{α:Type}:List α->Option α
 |[x]=>some x
 |_=>none
noncomputable def zFh:List U->Option (Str×Str)
 |[]=>none
 |a::r=>(zF4 a).bind λs=>(one r).bind λb=>(zG5 b).bind λl=>(one l).bind λc=>(zF4 c).bind λw=>some (s,w)
def pE{u:U}{x:Str}(h:zF4 u=some x):u=.str x:=by unfold zF4 at h;split at h <;> cases h;rfl
def yd{u:U}{x:List U}(h:zG5 u=some x):u=.lst x:=by unfold zG5 at h;split at h <;> cases h;rfl
def vR{α:Type}{l:List α}{r}(h:one l=some r):l=[r]:=by unfold one at h;split at h <;> cases h;rfl
def uJ{a:U}{r:List U}{p:Str×Str}(h:zFh (a::r)=some p):a=.str p.1/\r=[.lst [.str p.2]]:=by
 obtain⟨s,h1,h⟩:=xCi.mp h;obtain⟨b,h2,h⟩:=xCi.mp h;obtain⟨l,h3,h⟩:=xCi.mp h;obtain⟨c,h4,h⟩:=xCi.mp h;obtain⟨w,h5,h⟩:=xCi.mp h;cases h;rw[pE h1,vR h2,yd h3,vR h4,pE h5];exact⟨rfl,rfl⟩
noncomputable def zJo(a:U)(S:So):Res:=match a with
 |.tup xs=>.ok (.tup xs.reverse) S
 |.kt xs=>.ok (.tup xs.reverse) S
 |_=>.stuck
variable(up:List<|Str×Str)
noncomputable def pr:Pm->List U->So->Res
 |.add m,as,S=>match as with
  |[a,b]=>zHg m a b S
  |_=>.stuck
 |.sub,as,S=>i2 (λi j=>.int<|i-j) S as
 |.mul,as,S=>match as with
  |[.int i,.int j]=>match decide (i.natAbs<2^150/\j.natAbs<2^150\/j.natAbs<2^60\/i.natAbs<2^60) with
   |true=>.ok (.int<|i*j) S
   |false=>.stuck
  |[.lst xs,.int j]=>match decide (0<=j/\j<=1000) with
   |true=>fits (xs.length*j.toNat)<|.ok (.lst (List.replicate j.toNat xs).flatten) S
   |false=>.stuck
  |_=>.stuck
 |.fdiv,as,S=>match as with
  |[.int i,.int j]=>match decide (0<j/\j<=10^18) with
   |true=>.ok (.int<|i / j) S
   |false=>.stuck
  |_=>.stuck
 |.mod,as,S=>match as with
  |[.int i,.int j]=>match decide (0<j) with
   |true=>.ok (.int<|i%j) S
   |false=>.stuck
  |_=>.stuck
 |.pow,as,S=>match as with
  |[.int i,.int j]=>match decide (0<=j/\j<=1000/\i.natAbs<2^60) with
   |true=>.ok (.int<|i^j.toNat) S
   |false=>.stuck
  |_=>.stuck
 |.eq,as,S=>match as with
  |[a,b]=>eqU id a b S
  |_=>.stuck
 |.ne,as,S=>match as with
  |[a,b]=>eqU not a b S
  |_=>.stuck
 |.lt,as,S=>i2 (λi j=>.bl<|decide<|i<j) S as
 |.le,as,S=>i2 (λi j=>.bl<|decide<|i<=j) S as
 |.gt,as,S=>i2 (λi j=>.bl<|decide<|j<i) S as
 |.ge,as,S=>i2 (λi j=>.bl<|decide<|j<=i) S as
 |.isN,as,S=>match as with
  |[a]=>.ok (.bl<|match a with|.non=>true|_=>false) S
  |_=>.stuck
 |.notN,as,S=>match as with
  |[a]=>.ok (.bl<|match a with|.non=>false|_=>true) S
  |_=>.stuck
 |.inn,as,S=>match as with
  |[a,b]=>obB (inU S a b) id S
  |_=>.stuck
 |.nin,as,S=>match as with
  |[a,b]=>obB (inU S a b) not S
  |_=>.stuck
 |.ix,as,S=>match as with
  |[a,b]=>ixU a b S
  |_=>.stuck
 |.sl m l h,as,S=>match l,h,as with
  |true,true,[x,.int i,.int j]=>slice m x (some i) (some j) S
  |true,false,[x,.int i]=>slice m x (some i) none S
  |false,true,[x,.int j]=>slice m x none (some j) S
  |_,_,_=>.stuck
 |.tru,as,S=>match as with
  |[a]=>obB (zEp S a) id S
  |_=>.stuck
 |.len,as,S=>match as with
  |[a]=>zD7 a S
  |_=>.stuck
 |.isT n,as,S=>match as with
  |[a]=>match tyU S a with
   |some t=>.ok (.bl<|zFj t n) S
   |none=>.stuck
  |_=>.stuck
 |.isC D,as,S=>match as with
  |[a]=>zFl D a S up
  |_=>.stuck
 |.abs,as,S=>match as with
  |[.int i]=>.ok (.int<|if i<0 then -i else i) S
  |_=>.stuck
 |.max,as,S=>i2 (λi j=>.int<|if j>i then j else i) S as
 |.min,as,S=>i2 (λi j=>.int<|if j<i then j else i) S as
 |.int1,as,S=>match as with
  |[a]=>match a with
   |.int i=>.ok (.int i) S
   |.bl b=>.ok (.int<|if b then 1 else 0) S
   |_=>.stuck
  |_=>.stuck
 |.lst m,as,S=>fits as.length<|mkL m as S
 |.dct ks,as,S=>match Nat.beq ks.length as.length with
  |true=>.ok (.ref S.length)<|S++[.dct<|zF9 ks as]
  |false=>.stuck
 |.tupOf,as,S=>match as with
  |[a]=>zB7 a S
  |_=>.stuck
 |.lstOf m,as,S=>match as with
  |[a]=>match sqU S a with
   |some xs=>mkL m xs S
   |none=>.stuck
  |_=>.stuck
 |.dctOf,as,S=>match as with
  |[.ref p]=>match at? S p with
   |some (.dct kvs)=>.ok (.ref S.length)<|S++[.dct kvs]
   |_=>.stuck
  |_=>.stuck
 |.lenset,as,S=>match as with
  |[.tup xs]=>match zE0 xs with
   |some ws=>match decide (ws.length<=4/\ws.Nodup) with
    |true=>.ok (.int ws.length) S
    |false=>.stuck
   |none=>.stuck
  |_=>.stuck
 |.all,as,S=>match as with
  |[.lst xs]=>match blL xs with
   |some bs=>.ok (.bl<|bs.all id) S
   |none=>.stuck
  |_=>.stuck
 |.app,as,S=>match as with
  |[.ref p,v]=>zCr p S λxs=>fits (xs.length+1)<|.ok .non<|set S p<|.lst<|xs++[v]
  |_=>.stuck
 |.pop,as,S=>match as with
  |[.ref p]=>zCr p S λxs=>match xs.getLast? with
   |some v=>.ok v<|set S p<|.lst xs.dropLast
   |none=>.stuck
  |_=>.stuck
 |.get1,as,S=>match as with
  |[.kd kvs _,.str x]=>opt (zAj x kvs) S
  |_=>.stuck
 |.get2,as,S=>match as with
  |[.kd kvs no,.str x,d]=>match zAj x kvs with
   |some v=>.ok v S
   |none=>match no.any λy=>decide (y=x) with
    |true=>.ok d S
    |false=>.stuck
  |_=>.stuck
 |.join,as,S=>match zFh as with
  |some p=>fits (p.2.length+p.1.length)<|.ok (.str p.2) S
  |none=>.stuck
 |.fld f,as,S=>match as with
  |[.ref p]=>zCx p S λ_ fs=>opt (zAj f fs) S
  |_=>.stuck
 |.setf f,as,S=>match as with
  |[.ref p,v]=>zCx p S λC fs=>match Nat.ble fs.length 900 with
   |true=>.ok .non<|set S p<|.ins C<|putF f v fs
   |false=>.stuck
  |_=>.stuck
 |.typ T,as,S=>match as with
  |[a]=>match tyU S a with
   |some t=>match t==T with
    |true=>.ok a S
    |false=>.stuck
   |none=>.stuck
  |_=>.stuck
 |.seti,as,S=>match as with
  |[.ref p,k,v]=>zCh p k v S
  |_=>.stuck
 |.cls C m,as,S=>match as with
  |[.ref p]=>zCx p S λD fs=>match decide (C=D) with
   |true=>match zAj m fs with
    |none=>.ok (.ref p) S
    |some _=>.stuck
   |false=>.stuck
  |_=>.stuck
 |.unp n,as,S=>match as with
  |[a]=>match sqU S a with
   |some xs=>match Nat.beq xs.length n with
    |true=>.ok (.tup xs) S
    |false=>.stuck
   |none=>.stuck
  |_=>.stuck
 |.new C,as,S=>match as with
  |[]=>.ok (.ref S.length)<|S++[.ins C []]
  |_=>.stuck
 |.rng1,as,S=>match as with
  |[.int j]=>match decide (-(2^62)<=j/\j<2^62) with
   |true=>.ok (.tup<|zB3 0 j.toNat) S
   |false=>.stuck
  |_=>.stuck
 |.rng3,as,S=>match as with
  |[.int i,.int j,.int k]=>match decide (k=2/\-(2^62)<=i/\i<2^62/\-(2^62)<=j/\j<2^62) with
   |true=>.ok (.tup<|zDg i ((j-i+1) / 2).toNat) S
   |false=>.stuck
  |_=>.stuck
 |.zip,as,S=>match as with
  |[a,b]=>match sqF a,sqF b with
   |some xs,some ys=>match Nat.beq xs.length ys.length with
    |true=>.ok (.tup<|zB6 xs ys) S
    |false=>.stuck
   |_,_=>.stuck
  |_=>.stuck
 |.rev,as,S=>match as with
  |[a]=>zJo a S
  |_=>.stuck
 |.seq,as,S=>match as with
  |[a]=>zGm .tup a S
  |_=>.stuck
 |.frz,as,S=>match as with
  |[.ref p]=>zCr p S λxs=>.ok (.lst xs)<|set S p .dead
  |_=>.stuck
 |_,_,_=>.stuck
noncomputable abbrev Sg:=List<|Option U
noncomputable abbrev Kx(α:Type):=Xc->So->α
noncomputable abbrev Kv(α:Type):=U->So->α
structure Gx(α:Type) where
 fail:α
 fuel:Nat
 prim:Pm->List U->So->Kx α->Kv α->α
 call:Nat->List U->So->Kx α->Kv α->α
 br:Bool->(Unit->α)->(Unit->α)->α
structure Ee(α:Type) where
 nx:Sg->So->α
 rt:Kv α
 bk:Sg->So->α
 ct:Sg->So->α
 x:Xc->Sg->So->α
noncomputable abbrev TEx(α:Type):=Gx α->Sg->So->Kx α->Kv α->α
noncomputable abbrev TTx(α:Type):=Gx α->Sg->So->Kx α->(Bool->So->α)->α
noncomputable abbrev TAx(α:Type):=Gx α->Sg->So->Kx α->(List U->So->α)->α
noncomputable abbrev TSx(α:Type):=Gx α->Sg->So->Ee α->α
section
variable{α:Type}
def cV(i:Nat):TEx α:=λG σ S _ k=>match nth σ i with
 |some v=>k v S
 |none=>G.fail
def cC(u:U):TEx α:=λ_ _ S _ k=>k u S
def aN:TAx α:=λ_ _ S _ k=>k [] S
def aC(e:TEx α)(r:TAx α):TAx α:=λG σ S x k=>e G σ S x λv S1=>r G σ S1 x λvs S2=>k (v::vs) S2
def cP(p:Pm)(as:TAx α):TEx α:=λG σ S x k=>as G σ S x λvs S1=>G.prim p vs S1 x k
def cT(as:TAx α):TEx α:=λG σ S x k=>as G σ S x λvs S1=>k (.tup vs) S1
def cF(i:Nat)(as:TAx α)(ds:List U):TEx α:=λG σ S x k=>as G σ S x λvs S1=>G.call i (vs++ds) S1 x k
def cM(C m:Str)(i:Nat)(o:TEx α)(as:TAx α)(ds:List U):TEx α:=λG σ S x k=>o G σ S x λv S1=>G.prim (.cls C m) [v] S1 x λw S2=>as G σ S2 x λvs S3=>G.call i (w::(vs++ds)) S3 x k
def cK(C:Str)(i:Nat)(as:TAx α)(ds:List U):TEx α:=λG σ S x k=>as G σ S x λvs S1=>G.prim (.new C) [] S1 x λw S2=>G.call i (w::(vs++ds)) S2 (λ_ _=>G.fail) λr S3=>match r with
 |.non=>k w S3
 |_=>G.fail
def cBM(T:String)(p:Pm)(o:TEx α)(as:TAx α):TEx α:=λG σ S x k=>o G σ S x λv S1=>G.prim (.typ T) [v] S1 x λw S2=>as G σ S2 x λvs S3=>G.prim p (w::vs) S3 x k
def cD(fs:List<|Str×Nat×Nat)(f:TEx α)(as:TAx α):TEx α:=λG σ S x k=>f G σ S x λv S1=>match v with
 |.gl y=>match zAj y fs with
  |some p=>as G σ S1 x λvs S2=>G.call p.1 vs S2 x k
  |none=>G.fail
 |_=>G.fail
def tB(e:TEx α):TTx α:=λG σ S x k=>e G σ S x λv S1=>match v with
 |.bl b=>k b S1
 |_=>G.fail
def cI(e:TEx α):TEx α:=λG σ S x k=>e G σ S x λv S1=>match v with
 |.int i=>k (.int i) S1
 |_=>G.fail
def tNt(t:TTx α):TTx α:=λG σ S x k=>t G σ S x λb S1=>k (!b) S1
def tAn(t u:TTx α):TTx α:=λG σ S x k=>t G σ S x λb S1=>G.br b (λ_=>u G σ S1 x k) λ_=>k false S1
def tOr'(t u:TTx α):TTx α:=λG σ S x k=>t G σ S x λb S1=>G.br b (λ_=>k true S1) λ_=>u G σ S1 x k
def cB(t:TTx α):TEx α:=λG σ S x k=>t G σ S x λb S1=>k (.bl b) S1
def cIf(t:TTx α)(a b:TEx α):TEx α:=λG σ S x k=>t G σ S x λc S1=>G.br c (λ_=>a G σ S1 x k) λ_=>b G σ S1 x k
def tCh(p q:Pm)(a b c:TEx α):TTx α:=λG σ S x k=>a G σ S x λv S1=>b G σ S1 x λw S2=>G.prim p [v,w] S2 x λr S3=>match r with
 | .bl d=>G.br d (λ_=>c G σ S3 x λz S4=>G.prim q [w,z] S4 x λr2 S5=>match r2 with
  |.bl d2=>k d2 S5
  |_=>G.fail) λ_=>k false S3
 |_=>G.fail
noncomputable def zB4:List U->(U->Sg->So->(Sg->So->α)->α)->Sg->So->(Sg->So->α)->α
 |[],_,σ,S,k=>k σ S
 |v::vs,b,σ,S,k=>b v σ S λσ1 S1=>zB4 vs b σ1 S1 k
noncomputable def whK(t:Sg->So->(Bool->So->α)->α)(b:Sg->So->(Sg->So->α)->α)(br:Bool->(Unit->α)->(Unit->α)->α)(fail:α):Nat->Sg->So->(Sg->So->α)->α
 |0,_,_,_=>fail
 |n+1,σ,S,k=>t σ S λc S1=>br c (λ_=>b σ S1 λσ2 S2=>whK t b br fail n σ2 S2 k) λ_=>k σ S1
noncomputable def tgt(is:List Nat)(one:Bool)(G:Gx α)(v:U)(σ:Sg)(k:Sg->α):α:=match one with
 |true=>k<|puts σ is [v]
 |false=>match v with
  |.tup vs=>match Nat.beq vs.length is.length with
   |true=>k<|puts σ is vs
   |false=>G.fail
  |_=>G.fail
noncomputable def lcK(G:Gx α)(b:U->So->(Option U->So->α)->α):List U->List U->So->Kv α->α
 |[],ys,S,k=>k (.lst ys) S
 |v::vs,ys,S,k=>b v S λo S1=>match o with
  |some u=>lcK G b vs (ys++[u]) S1 k
  |none=>lcK G b vs ys S1 k
noncomputable def lcB(is:List Nat)(one:Bool)(σ:Sg)(t:Option<|TTx α)(e:TEx α)(G:Gx α):U->So->(Option U->So->α)->α:=λw S2 nx=>tgt is one G w σ λσ1=>match t with
 |none=>e G σ1 S2 (λ_ _=>G.fail) λu S3=>nx (some u) S3
 |some t=>t G σ1 S2 (λ_ _=>G.fail) λb S3=>G.br b (λ_=>e G σ1 S3 (λ_ _=>G.fail) λu S4=>nx (some u) S4) λ_=>nx none S3
def cL(it:TEx α)(is:List Nat)(one:Bool)(n:Nat)(cs:List Nat)(t:Option<|TTx α)(e:TEx α):TEx α:=λG σ S x k=>it G σ S x λv S1=>match v with
 |.tup vs=>G.br (Nat.ble vs.length sizeLine) (λ_=>lcK G (lcB is one (List.replicate n none++cs.map (nth σ)) t e G) vs [] S1 k) λ_=>G.fail
 |_=>G.fail
def sN:TSx α:=λ_ σ S E=>E.nx σ S
noncomputable abbrev sqE(E:Ee α)(nx:Sg->So->α):Ee α:={E with nx:=nx}
noncomputable abbrev lpE(E:Ee α)(nx:Sg->So->α):Ee α:={E with nx:=nx,ct:=nx,bk:=E.nx}
noncomputable abbrev xcE(E:Ee α)(x:Xc->Sg->So->α):Ee α:={E with x:=x}
def sQ(t u:TSx α):TSx α:=λG σ S E=>t G σ S<|sqE E λσ1 S1=>u G σ1 S1 E
def sA(i:Nat)(e:TEx α):TSx α:=λG σ S E=>e G σ S (λx S1=>E.x x σ S1) λv S1=>E.nx (put σ i v) S1
def sU(is:List Nat)(e:TEx α):TSx α:=λG σ S E=>e G σ S (λx S1=>E.x x σ S1) λv S1=>G.prim (.unp is.length) [v] S1 (λx S1=>E.x x σ S1) λw S2=>match w with
 |.tup vs=>E.nx (puts σ is vs) S2
 |_=>G.fail
def sE(e:TEx α):TSx α:=λG σ S E=>e G σ S (λx S1=>E.x x σ S1) λ_ S1=>E.nx σ S1
def sR(e:TEx α):TSx α:=λG σ S E=>e G σ S (λx S1=>E.x x σ S1) E.rt
def sRN:TSx α:=λ_ _ S E=>E.rt .non S
def sI(t:TTx α)(a b:TSx α):TSx α:=λG σ S E=>t G σ S (λx S1=>E.x x σ S1) λc S1=>G.br c (λ_=>a G σ S1 E) λ_=>b G σ S1 E
def sP(p:Pm)(e:TEx α)(os:TAx α):TSx α:=λG σ S E=>e G σ S (λx S1=>E.x x σ S1) λv S1=>os G σ S1 (λx S1=>E.x x σ S1) λws S2=>G.prim p (ws++[v]) S2 (λx S1=>E.x x σ S1) λ_ S3=>E.nx σ S3
def sF(it:TEx α)(is:List Nat)(one:Bool)(b:TSx α):TSx α:=λG σ S E=>it G σ S (λx S1=>E.x x σ S1) λv S1=>match v with
 |.tup vs=>zB4 vs (λw σ1 S2 nx=>tgt is one G w σ1 λσ2=>b G σ2 S2<|lpE E nx) σ S1 E.nx
 |_=>G.fail
def sW(t:TTx α)(b:TSx α):TSx α:=λG σ S E=>whK (λσ1 S1 k=>t G σ1 S1 (λx S2=>E.x x σ1 S2) k) (λσ1 S1 nx=>b G σ1 S1<|lpE E nx) G.br G.fail G.fuel σ S E.nx
noncomputable def zHo:List Str->List U->List (Str×U)
 |f::fs,v::vs=>(f,v)::zHo fs vs
 |_,_=>[]
def sX(C:Str)(fs:List Str)(as:TAx α):TSx α:=λG σ S E=>as G σ S (λx S1=>E.x x σ S1) λvs S1=>E.x ⟨C,zHo fs vs⟩ σ S1
noncomputable def clr:List (Option U)->Nat->List (Option U)
 |[],_=>[]
 |_::r,0=>none::r
 |o::r,i+1=>o::clr r i
noncomputable def hdl(C:Str)(i j:Nat)(f:Str)(G:Gx α)(E:Ee α):Xc->Sg->So->α:=λx σ1 S1=>match decide (x.cls=C) with
 |true=>match zAj f x.fs with
  |some v=>match Nat.blt i σ1.length with
   |true=>E.nx (put (clr σ1 i) j v) S1
   |false=>G.fail
  |none=>G.fail
 |false=>G.fail
def sT(C:Str)(i j:Nat)(f:Str)(b:TSx α):TSx α:=λG σ S E=>b G σ S<|xcE E<|hdl C i j f G E
end
def zAp{α:Type}(a b:TEx α):TAx α:=aC a<|aC b aN
noncomputable def zA5:List Str->Bool
 |[]=>true
 |x::r=>!(r.any λy=>decide<|y=x)&&zA5 r
end Fx
namespace Fx
open PySem PySem.Spec L2
variable{W':Wd}{vs:List V}{o h:HO}{a i n:Nat}{l:List<|Addr×HO}{S:So}{x:Kx Prop}{k:Kv Prop}{b:TSx Prop}{q:Unit->Prop}{e it:TEx Prop}{C:Str}{t:TTx Prop}{E E':Ee Prop}{nx nx':Sg->So->Prop}
structure Bs where
 K:xFr
 mg:Str->Option Value
 kd:Addr->List (Str×U)->List Str->Prop
 cl:Str->Addr->Prop
structure Wd where
 F:Hp
 μ:List Addr
 pr:List (Addr×HO)
structure Wd.Lf(W W':Wd):Prop where
 f:∀p o,W.F p=some o->W'.F p=some o
 m:∀a p,at? W.μ a=some p->at? W'.μ a=some p
structure Wd.Le(W W':Wd):Prop where
 f:∀p o,W.F p=some o->W'.F p=some o
 m:∀a p,at? W.μ a=some p->at? W'.μ a=some p
 r:W'.pr=W.pr
theorem Wd.Lf.pr{W:Wd}{l:List<|Addr×HO}:W.Lf {W with pr:=l}:=⟨λ_ _ h=>h,λ_ _ h=>h⟩
def Wd.Le.lf{W:Wd}(h:W.Le W'):W.Lf W':=⟨h.f,h.m⟩
def Wd.Le.refl{W:Wd}:W.Le W:=⟨λ_ _ h=>h,λ_ _ h=>h,rfl⟩
theorem Wd.Le.trans{W W1 W2:Wd}(a:W.Le W1)(b:W1.Le W2):W.Le W2:=⟨λp o h=>b.f p o<|a.f p o h,λi p h=>b.m i p<|a.m i p h,b.r.trans a.r⟩
variable(B:Bs)
mutual
def Rv(W:Wd):U->V->Prop
 |.non,v=>v=.non
 |.bl b,v=>v=.bl b
 |.int i,v=>v=.int i
 |.str x,v=>v=.str x
 |.tup xs,v=>∃p vs,v=.ref p/\W.F p=some (.tup vs)/\Rvs W xs vs
 |.lst xs,v=>∃p vs,v=.ref p/\W.F p=some (.lst vs)/\Rvs W xs vs
 |.kt xs,v=>∃p vs,v=.ref p/\(∀H,SqT B.K H p vs)/\Rvs W xs vs
 |.kl xs,v=>∃p vs,v=.ref p/\SqL B.K W.F p vs/\Rvs W xs vs
 |.kd kvs no,v=>∃p,v=.ref p/\B.kd p kvs no
 |.ref a,v=>∃p,v=.ref p/\at? W.μ a=some p
 |.ty n,v=>v=.ty n
 |.gl x,v=>∃p,v=.ref p/\B.mg x=some (.ref p)
def Rvs(W:Wd):List U->List V->Prop
 |[],vs=>vs=[]
 |x::xs,vs=>∃v r,vs=v::r/\Rv W x v/\Rvs W xs r
end
variable{B:Bs}
def fR{K:xFr}{F F':Hp}{p:Addr}(le:∀p o,F p=some o->F' p=some o)(h:SqL K F p vs):SqL K F' p vs:=by
 rcases h with (h|⟨o,h⟩)|h
 ·exact .inl<|.inl<|le _ _ h
 ·exact .inl<|.inr ⟨o,le _ _ h⟩
 ·exact .inr h
mutual
theorem Rv.lf{W W':Wd}(le:W.Lf W'):∀{u:U}{v:V},Rv B W u v->Rv B W' u v
 |.non,_,h=>h
 |.bl _,_,h=>h
 |.int _,_,h=>h
 |.str _,_,h=>h
 |.tup _,_,h=>let ⟨p,vs,e,f,r⟩:=h;⟨p,vs,e,le.f _ _ f,Rvs.lf le r⟩
 |.lst _,_,h=>let ⟨p,vs,e,f,r⟩:=h;⟨p,vs,e,le.f _ _ f,Rvs.lf le r⟩
 |.kt _,_,h=>let ⟨p,vs,e,f,r⟩:=h;⟨p,vs,e,f,Rvs.lf le r⟩
 |.kl _,_,h=>let ⟨p,vs,e,f,r⟩:=h;⟨p,vs,e,fR le.f f,Rvs.lf le r⟩
 |.kd _ _,_,h=>h
 |.ref _,_,h=>let ⟨p,e,f⟩:=h;⟨p,e,le.m _ _ f⟩
 |.ty _,_,h=>h
 |.gl _,_,h=>h
theorem Rvs.lf{W W':Wd}(le:W.Lf W'):∀{us:List U}{vs:List V},Rvs B W us vs->Rvs B W' us vs
 |[],_,h=>h
 |_::_,_,h=>let ⟨v,r,e,h1,h2⟩:=h;⟨v,r,e,Rv.lf le h1,Rvs.lf le h2⟩
end
def Rv.mono{W:Wd}(le:W.Le W'){u:U}{v:V}(h:Rv B W u v):Rv B W' u v:=h.lf le.lf
def Rvs.mono{W:Wd}(le:W.Le W'){u:List U}{v:List V}(h:Rvs B W u v):Rvs B W' u v:=h.lf le.lf
theorem Rvs.length{W:Wd}:∀{us:List U}{vs:List V},Rvs B W us vs->vs.length=us.length
 |[],_,h=>by rw[show _=[] from h];rfl
 |_::_,_,h=>by obtain⟨v,r,rfl,_,h2⟩:=h;simp[Rvs.length h2]
theorem Rvs.app{W:Wd}:∀{us ws:List U}{vs zs:List V},Rvs B W us vs->Rvs B W ws zs->Rvs B W (us++ws) (vs++zs)
 |[],_,_,_,h,g=>by rw[show _=[] from h];exact g
 |_::_,_,_,_,h,g=>by obtain⟨v,r,rfl,h1,h2⟩:=h;exact⟨v,r++_,rfl,h1,Rvs.app h2 g⟩
def Rvs.one{W:Wd}{u:U}{v:V}(h:Rv B W u v):Rvs B W [u] [v]:=⟨v,[],rfl,h,rfl⟩
theorem Rvs.get{W:Wd}:∀{us:List U}{vs:List V},Rvs B W us vs->∀{i:Nat}{u:U},us[i]?=some u->∃v,vs[i]?=some v/\Rv B W u v
 |[],_,_,_,_,e=>by simp at e
 |_::_,_,h,0,_,e=>by obtain⟨v,r,rfl,h1,h2⟩:=h;simp at e;subst e;exact⟨v,rfl,h1⟩
 |_::_,_,h,i+1,_,e=>by obtain⟨v,r,rfl,h1,h2⟩:=h;exact Rvs.get h2 (by simpa using e)
theorem Rvs.drop{W:Wd}:∀(n:Nat){us:List U}{vs:List V},Rvs B W us vs->Rvs B W (us.drop n) (vs.drop n)
 |0,_,_,h=>h
 |_+1,[],_,h=>by rw[show _=[] from h];rfl
 |n+1,_::_,_,h=>by obtain⟨v,r,rfl,h1,h2⟩:=h;exact Rvs.drop n h2
theorem Rvs.take{W:Wd}:∀(n:Nat){us:List U}{vs:List V},Rvs B W us vs->Rvs B W (us.take n) (vs.take n)
 |0,_,_,_=>rfl
 |_+1,[],_,h=>by rw[show _=[] from h];rfl
 |n+1,_::_,_,h=>by obtain⟨v,r,rfl,h1,h2⟩:=h;exact⟨v,r.take n,rfl,h1,Rvs.take n h2⟩
def Rn{κ:Type}(B:Bs)(W:Wd):List (κ×U)->List (κ×V)->Prop
 |[],vs=>vs=[]
 |x::xs,vs=>∃v r,vs=(x.1,v)::r/\Rv B W x.2 v/\Rn B W xs r
theorem Rn.lf{κ:Type}{W W':Wd}(le:W.Lf W'):∀{us:List<|κ×U}{vs:List<|κ×V},Rn B W us vs->Rn B W' us vs
 |[],_,h=>h
 |_::_,_,h=>let ⟨v,r,e,h1,h2⟩:=h;⟨v,r,e,h1.lf le,Rn.lf le h2⟩
def Rn.mono{κ:Type}{W:Wd}(le:W.Le W'){us:List<|κ×U}{vs:List<|κ×V}(h:Rn B W us vs):Rn B W' us vs:=h.lf le.lf
theorem Rn.length{κ:Type}{W:Wd}:∀{us:List<|κ×U}{vs:List<|κ×V},Rn B W us vs->vs.length=us.length
 |[],_,h=>by rw[show _=[] from h];rfl
 |_::_,_,h=>by obtain⟨v,r,rfl,_,h2⟩:=h;simp[Rn.length h2]
def Ro(B:Bs)(W:Wd):Ob->HO->Prop
 |.lst xs,o=>∃vs,o=.lst vs/\Rvs B W xs vs
 |.dct kvs,o=>∃vs,o=.dK vs/\Rn B W kvs vs
 |.ins C fs,o=>∃c dx vs,B.cl C c/\o=.ins c dx vs/\Rn B W fs vs
 |.dead,o=>∃vs,o=.lst vs
theorem Ro.lf{W W':Wd}(le:W.Lf W'):∀{o:Ob}{h:HO},Ro B W o h->Ro B W' o h
 |.lst _,_,h=>let ⟨vs,e,r⟩:=h;⟨vs,e,r.lf le⟩
 |.dct _,_,h=>let ⟨vs,e,r⟩:=h;⟨vs,e,r.lf le⟩
 |.ins _ _,_,h=>let ⟨c,dx,vs,m,e,r⟩:=h;⟨c,dx,vs,m,e,r.lf le⟩
 |.dead,_,h=>h
def Ro.mono{W:Wd}(le:W.Le W'){o:Ob}(r:Ro B W o h):Ro B W' o h:=r.lf le.lf
structure RS(B:Bs)(W:Wd)(S:So)(H:Hp):Prop where
 fz:∀p o,W.F p=some o->H p=some o
 len:W.μ.length=S.length
 nd:∀a b p,at? W.μ a=some p->at? W.μ b=some p->a=b
 ob:∀a p,at? W.μ a=some p->∃o h,at? S a=some o/\H p=some h/\Ro B W o h/\(o=.dead\/W.F p=none)
 pf:∀q∈W.pr,H q.1=some q.2/\W.F q.1=none/\(∀a,at? W.μ a≠some q.1)/\∀vs,q.2≠.tup vs
section
variable{α:Type}
theorem nJ:∀{l:List α}{i:Nat}{v:α},at? l i=some v->i<l.length
 |_::_,0,_,_=>by simp
 |_::r,i+1,v,h=>by have:=nJ (l:=r) (i:=i) h;simp;lia
theorem kY:∀{l:List α}{i:Nat},i<l.length->∃v,at? l i=some v
 |v::_,0,_=>⟨v,rfl⟩
 |_::r,i+1,h=>kY (l:=r) (i:=i) (by simpa using h)
theorem eR:∀{l r:List α}{i:Nat}{v:α},at? l i=some v->at? (l++r) i=some v
 |_::_,_,0,_,h=>h
 |_::l,r,i+1,v,h=>eR (l:=l) (r:=r) (i:=i) h
theorem iM:∀{l:List α}{v:α},at? (l++[v]) l.length=some v
 |[],_=>rfl
 |_::l,v=>iM (l:=l) (v:=v)
theorem eN:∀{l:List α}{v w:α}{i:Nat},at? (l++[v]) i=some w->at? l i=some w\/(i=l.length/\w=v)
 |[],v,w,0,h=>.inr ⟨rfl,(xB3 h).symm⟩
 |[],_,_,_+1,h=>by cases h
 |_::_,_,_,0,h=>.inl h
 |_::l,v,w,i+1,h=>by
  rcases eN (l:=l) (v:=v) (w:=w) (i:=i) h with z|⟨z,e⟩
  ·exact .inl z
  ·exact .inr ⟨by simp[z],e⟩
theorem jw:∀{l:List α}{i:Nat}{v:α},(set l i v).length=l.length
 |[],_,_=>rfl
 |_::_,0,_=>rfl
 |_::r,i+1,v=>by show(set r i v).length+1=r.length+1;rw[jw]
theorem l7:∀{l:List α}{i:Nat}{v:α},i<l.length->at? (set l i v) i=some v
 |_::_,0,_,_=>rfl
 |_::r,i+1,v,h=>l7 (l:=r) (i:=i) (by simpa using h)
theorem gw:∀{l:List α}{i j:Nat}{v:α},i≠j->at? (set l i v) j=at? l j
 |[],_,_,_,_=>rfl
 |_::_,0,0,_,h=>absurd rfl h
 |_::_,0,_+1,_,_=>rfl
 |_::_,_+1,0,_,_=>rfl
 |_::r,i+1,j+1,v,h=>gw (l:=r) (i:=i) (j:=j) (by lia)
end
section
variable{W:Wd}{S:So}{H H':Hp}{p:Addr}
def RS.here(r:RS B W S H){o:Ob}(e:at? S a=some o):∃p h,at? W.μ a=some p/\H p=some h/\Ro B W o h/\(o=.dead\/W.F p=none):=by
 have hl:=nJ e;obtain⟨p,hp⟩:=kY (l:=W.μ) (i:=a) (by rw[r.len];exact hl);obtain⟨o',h,e',hh,ro,q⟩:=r.ob a p hp;rw[e] at e';cases e';exact⟨p,h,hp,hh,ro,q⟩
def RS.same(r:RS B W S H)(s:zFy H H'):RS B W S H':=
 ⟨λp o h=>s _ _<|r.fz p o h,r.len,r.nd,λa p h=>let ⟨o,g,e,hh,ro,q⟩:=r.ob a p h;⟨o,g,e,s _ _ hh,ro,q⟩,λq hq=>⟨s _ _ (r.pf q hq).1,(r.pf q hq).2⟩⟩
def RS.add(r:RS B W S H)(e:H p=some o)(hm:∀a,at? W.μ a≠some p)(hp:∀q∈W.pr,q.1≠p):W.Le {W with F:=upd W.F p o}/\RS B {W with F:=upd W.F p o} S H:=by
 have le:W.Le { W with F:=upd W.F p o }:=⟨λb o' h=>by
  by_cases z:b=p
  ·subst z;rw[r.fz _ _ h] at e;cases e;exact dg
  ·show upd W.F p o b=_;rw[db z];exact h,λ_ _ h=>h,rfl⟩
 refine⟨le,⟨λb o' h=>?_,r.len,r.nd,λa b h=>?_,λq hq=>?_⟩⟩
 ·by_cases z:b=p
  ·subst z;have:some o=some o':=by rw[<- h];exact dg.symm
   cases this;exact e
  ·exact r.fz b o' (by rw[<- h];exact(db z).symm)
 ·obtain⟨o',g,e',hh,ro,q⟩:=r.ob a b h;refine⟨o',g,e',hh,ro.mono le,q.imp id λz=>?_⟩;show upd W.F p o b=none;rw[db λz'=>hm a<|by rw[<- z'];exact h];exact z
 ·obtain⟨h1,h2,h3⟩:=r.pf q hq;exact⟨h1,by show upd W.F p o q.1=none;rw[db<|hp q hq];exact h2,h3⟩
def RS.addT(r:RS B W S H)(e:H p=some (.tup vs)):W.Le {W with F:=upd W.F p<|.tup vs}/\RS B {W with F:=upd W.F p<|.tup vs} S H:=by
 by_cases z:W.F p=some (.tup vs)
 ·have:upd W.F p (.tup vs)=W.F:=by
   funext b
   by_cases y:b=p
   ·rw[y,dg,z]
   ·rw[db y]
  rw[this];exact⟨.refl,r⟩
 ·refine r.add e (λa h=>?_) λq hq z=>?_
  ·obtain⟨o,g,e',hh,ro,q⟩:=r.ob a p h;rw[e] at hh;cases hh;cases o with
   |lst _=>obtain⟨_,z,_⟩:=ro;cases z
   |dct _=>obtain⟨_,z,_⟩:=ro;cases z
   |ins _ _=>obtain⟨_,_,_,_,z,_⟩:=ro;cases z
   |dead=>obtain⟨_,z⟩:=ro;cases z
  ·rw[<- z,(r.pf q hq).1] at e;exact(r.pf q hq).2.2.2 vs<|xB3 e
def RS.fresh(r:RS B W S H)(e:H p=none):W.Le {W with F:=upd W.F p o}/\RS B {W with F:=upd W.F p o} S (upd H p o):=by
 refine(r.same<|eO e o).add dg (λa h=>?_) λq hq z=>?_
 ·obtain⟨_,g,_,hh,_⟩:=r.ob a p h;rw[e] at hh;cases hh
 ·rw[<- z,(r.pf q hq).1] at e;cases e
def RS.push{o:Ob}(r:RS B W S H)(e:H p=none)(ro:Ro B {W with μ:=W.μ++[p]} o h):W.Le {W with μ:=W.μ++[p]}/\RS B {W with μ:=W.μ++[p]} (S++[o]) (upd H p h)/\at? (W.μ++[p]) S.length=some p:=by
 have le:W.Le {W with μ:=W.μ++[p]}:=⟨λ_ _ h=>h,λa b h=>eR h,rfl⟩
 have nm:∀a,at? W.μ a≠some p:=λa z=>by
  obtain⟨_,g,_,hh,_⟩:=r.ob a p z;rw[e] at hh;cases hh
 have hF:W.F p=none:=by
  cases z:W.F p with
  |none=>rfl
  |some o'=>rw[r.fz _ _ z] at e;cases e
 have sm:=eO e h;refine⟨le,⟨λb o' z=>sm _ _<|r.fz b o' z,by simp[r.len],λa b q h1 h2=>?_,λa q h1=>?_,λq hq=>?_⟩,by rw[<- r.len];exact iM⟩
 ·rcases eN h1 with z1|⟨z1,e1⟩ <;> rcases eN h2 with z2|⟨z2,e2⟩
  ·exact r.nd a b q z1 z2
  ·exact absurd (e2▸z1)<|nm a
  ·exact absurd (e1▸z2)<|nm b
  ·rw[z1,z2]
 ·rcases eN h1 with z1|⟨z1,e1⟩
  ·obtain⟨o',g,e',hh,ro',q'⟩:=r.ob a q z1;exact⟨o',g,eR e',sm _ _ hh,ro'.mono le,q'⟩
  ·subst e1;exact⟨o,h,by rw[z1,r.len];exact iM,dg,ro,.inr hF⟩
 ·obtain⟨h1,h2,h3⟩:=r.pf q hq;refine⟨sm _ _ h1,h2,λa z=>?_,h3.2⟩;rcases eN z with z1|⟨_,e1⟩
  ·exact h3.1 a z1
  ·rw[e1,e] at h1;cases h1
def RS.mut{o o':Ob}(r:RS B W S H)(ea:at? W.μ a=some p)(e:at? S a=some o)(nd:o≠.dead)(ro:Ro B W o' h):RS B W (set S a o')<|upd H p h:=by
 have hF:W.F p=none:=by
  obtain⟨o2,g,e2,_,_,q⟩:=r.ob a p ea;rw[e] at e2;cases e2;exact q.resolve_left nd
 refine⟨λb o2 z=>?_,by rw[jw];exact r.len,r.nd,λb q h1=>?_,λq hq=>?_⟩
 ·rw[db λy=>by rw[y,hF] at z;cases z];exact r.fz b o2 z
 ·by_cases y:a=b
  ·subst y;rw[ea] at h1;cases h1;exact⟨o',h,l7<|nJ e,dg,ro,.inr hF⟩
  ·obtain⟨o2,g,e2,hh,ro2,q2⟩:=r.ob b q h1;exact⟨o2,g,by rw[gw y];exact e2,by rw[db λz=>y<|r.nd a b p ea<|by rw[<- z];exact h1];exact hh,ro2,q2⟩
 ·obtain⟨h1,h2,h3⟩:=r.pf q hq;exact⟨by rw[db λz=>h3.1 a<|by rw[z];exact ea];exact h1,h2,h3⟩
def RS.freeze{xs:List U}(r:RS B W S H)(e:at? S a=some (.lst xs))(ea:at? W.μ a=some p):∃W',W.Le W'/\RS B W' (set S a .dead) H/\Rv B W' (.lst xs) (.ref p):=by
 obtain⟨o,g,e2,hh,ro,q⟩:=r.ob a p ea;rw[e] at e2;cases e2;obtain⟨vs,rfl,rvs⟩:=ro;have hF:W.F p=none:=q.resolve_left (by intro z;cases z);have le:W.Le { W with F:=upd W.F p (.lst vs) }:=⟨λb o' h=>by
  show upd W.F p _ b=_;rw[db λy=>by rw[y,hF] at h;cases h];exact h,λ_ _ h=>h,rfl⟩
 refine⟨_,le,⟨λb o' h=>?_,by rw[jw];exact r.len,r.nd,λb q h1=>?_,λq hq=>?_⟩,p,vs,rfl,dg,rvs.mono le⟩
 ·by_cases z:b=p
  ·subst z;have:some (HO.lst vs)=some o':=by rw[<- h];exact dg.symm
   cases this;exact hh
  ·exact r.fz b o' (by rw[<- h];exact(db z).symm)
 ·by_cases y:a=b
  ·subst y;rw[ea] at h1;cases h1;exact⟨.dead,_,l7<|nJ e,hh,⟨vs,rfl⟩,.inl rfl⟩
  ·obtain⟨o2,g,e2,hh2,ro2,q2⟩:=r.ob b q h1;refine⟨o2,g,by rw[gw y];exact e2,hh2,ro2.mono le,q2.imp id λz=>?_⟩;show upd W.F p _ q=none;rw[db λz=>y<|r.nd a b p ea<|by rw[<- z];exact h1];exact z
 ·obtain⟨h1,h2,h3⟩:=r.pf q hq;refine⟨h1,?_,h3⟩;show upd W.F p _ q.1=none;rw[db λz=>h3.1 a<|by rw[z];exact ea];exact h2
def RS.hold(r:RS B W S H)(e:H p=none)(ht:∀vs,o≠.tup vs):RS B {W with pr:=(p,o)::W.pr} S<|upd H p o:=by
 have sm:=eO e o;have r':=r.same sm;refine⟨r'.fz,r'.len,r'.nd,λa q h=>let ⟨o',g,e',hh,ro,q'⟩:=r'.ob a q h;⟨o',g,e',hh,ro.lf<|Wd.Lf.pr,q'⟩,λq hq=>?_⟩;rcases xAv.mp hq with rfl|hq
 ·refine⟨dg,?_,λa z=>?_,ht⟩
  ·cases z:W.F p with
   |none=>rfl
   |some o'=>rw[r.fz _ _ z] at e;cases e
  ·obtain⟨_,g,_,hh,_⟩:=r.ob a p z;rw[e] at hh;cases hh
 ·exact r'.pf q hq
def RS.held{o':HO}(r:RS B W S H)(hw:W.pr=(p,o)::l)(ht:∀vs,o'≠.tup vs)(hl:∀q∈l,q.1≠p):RS B {W with pr:=(p,o')::l} S<|upd H p o':=by
 obtain⟨h1,h2,h3,_⟩:=r.pf (p,o) (by rw[hw];exact xAr);refine⟨λb u z=>?_,r.len,r.nd,λa q h=>?_,λq hq=>?_⟩
 ·rw[db λy=>by rw[y,h2] at z;cases z];exact r.fz b u z
 ·obtain⟨o2,g,e',hh,ro,q'⟩:=r.ob a q h;exact⟨o2,g,e',by rw[db λy=>h3 a<|by rw[<- y];exact h];exact hh,ro.lf<|Wd.Lf.pr,q'⟩
 ·rcases xAv.mp hq with rfl|hq
  ·exact⟨dg,h2,h3,ht⟩
  ·obtain⟨k1,k2⟩:=r.pf q (by rw[hw];exact xAs _ hq);exact⟨by rw[db<|hl q hq];exact k1,k2⟩
def RS.heldF(r:RS B W S H)(hw:W.pr=(p,o)::l)(hl:∀q∈l,q.1≠p):RS B {W with pr:=l,F:=upd W.F p o} S H:=by
 obtain⟨h1,h2,h3,_⟩:=r.pf (p,o) (by rw[hw];exact xAr);have lf:W.Lf {W with pr:=l,F:=upd W.F p o}:=⟨λb u z=>by show upd W.F p o b=_;rw[db λy=>by rw[y,h2] at z;cases z];exact z,λ_ _ h=>h⟩
 refine⟨λb u z=>?_,r.len,r.nd,λa q h=>?_,λq hq=>?_⟩
 ·by_cases y:b=p
  ·subst y;have:some o=some u:=by rw[<- z];exact dg.symm
   cases this;exact h1
  ·exact r.fz b u (by rw[<- z];exact(db y).symm)
 ·obtain⟨o2,g,e',hh,ro,q'⟩:=r.ob a q h;exact⟨o2,g,e',hh,ro.lf lf,q'.imp id λz=>by show upd W.F p o q=none;rw[db λy=>h3 a<|by rw[<- y];exact h];exact z⟩
 ·obtain⟨k1,k2,k3⟩:=r.pf q (by rw[hw];exact xAs _ hq);exact⟨k1,by show upd W.F p o q.1=none;rw[db<|hl q hq];exact k2,k3⟩
def RS.heldS{b:Ob}(r:RS B W S H)(hw:W.pr=(p,o)::l)(hl:∀q∈l,q.1≠p)(ro:Ro B {W with pr:=l,μ:=W.μ++[p]} b h):RS B {W with pr:=l,μ:=W.μ++[p]} (S++[b]) (upd H p h)/\at? (W.μ++[p]) S.length=some p:=by
 obtain⟨h1,h2,h3,_⟩:=r.pf (p,o) (by rw[hw];exact xAr);have lf:W.Lf {W with pr:=l,μ:=W.μ++[p]}:=⟨λ_ _ h=>h,λ_ _ h=>eR h⟩
 refine⟨⟨λc u z=>?_,by simp[r.len],λa c q y1 y2=>?_,λa q y1=>?_,λq hq=>?_⟩,by rw[<- r.len];exact iM⟩
 ·rw[db λy=>by rw[y,h2] at z;cases z];exact r.fz c u z
 ·rcases eN y1 with z1|⟨z1,e1⟩ <;> rcases eN y2 with z2|⟨z2,e2⟩
  ·exact r.nd a c q z1 z2
  ·exact absurd (e2▸z1)<|h3 a
  ·exact absurd (e1▸z2)<|h3 c
  ·rw[z1,z2]
 ·rcases eN y1 with z1|⟨z1,e1⟩
  ·obtain⟨o',g,e',hh,ro',q'⟩:=r.ob a q z1;exact⟨o',g,eR e',by rw[db λy=>h3 a<|by rw[<- y];exact z1];exact hh,ro'.lf lf,q'⟩
  ·subst e1;exact⟨b,h,by rw[z1,r.len];exact iM,dg,ro,.inr h2⟩
 ·obtain⟨k1,k2,k3,k4⟩:=r.pf q (by rw[hw];exact xAs _ hq);refine⟨by rw[db<|hl q hq];exact k1,k2,λa z=>?_,k4⟩;rcases eN z with z1|⟨_,e1⟩
  ·exact k3 a z1
  ·exact hl q hq e1
end
structure Rg(B:Bs)(W:Wd)(σ:Sg)(τ:St):Prop where
 l:τ.length=σ.length
 v:∀i v,nth σ i=some v->∃u,τ[i]?=some (some u)/\Rv B W v u
theorem Rg.mono{W W':Wd}{σ:Sg}{τ:St}(r:Rg B W σ τ)(le:W.Le W'):Rg B W' σ τ:=⟨r.l,λi v h=>let ⟨u,e,q⟩:=r.v i v h;⟨u,e,q.mono le⟩⟩
theorem fX:∀{σ:Sg}{i:Nat}{v:U},(put σ i v).length=σ.length
 |[],_,_=>rfl
 |_::_,0,_=>rfl
 |_::r,i+1,v=>by show(put r i v).length+1=r.length+1;rw[fX]
theorem jD:∀{σ:Sg}{i j:Nat}{v w:U},nth (put σ i v) j=some w->(i=j/\w=v/\i<σ.length)\/(i≠j/\nth σ j=some w)
 |[],_,_,_,_,h=>by cases h
 |_::_,0,0,_,_,h=>.inl ⟨rfl,(xB3 h).symm,by simp⟩
 |_::_,0,_+1,_,_,h=>.inr ⟨by lia,h⟩
 |_::_,_+1,0,_,_,h=>.inr ⟨by lia,h⟩
 |_::r,i+1,j+1,v,w,h=>by
  rcases jD (σ:=r) (i:=i) (j:=j) h with ⟨a,b,c⟩|⟨a,b⟩
  ·exact .inl ⟨by lia,b,by simp;lia⟩
  ·exact .inr ⟨by lia,b⟩
theorem Rg.put{W:Wd}{σ:Sg}{τ:St}{i:Nat}{v:U}{u:V}(r:Rg B W σ τ)(q:Rv B W v u):Rg B W (put σ i v)<|τ.set i<|some u:=by
 refine⟨by rw[List.length_set,fX];exact r.l,λj w h=>?_⟩;rcases jD h with ⟨rfl,rfl,hl⟩|⟨a,b⟩
 ·exact⟨u,by rw[List.getElem?_set_self<|by rw[r.l];exact hl],q⟩
 ·obtain⟨u',e,q'⟩:=r.v j w b;exact⟨u',by rw[xC1 a];exact e,q'⟩
structure RX(B:Bs)(W:Wd)(x:Xc)(S:So)(C:Value)(dx:Option Addr)(H:Hp):Prop where
 s:RS B W S H
 c:∃c,B.mg x.cls=some (.ref c)/\C=.ref c
 f:(x.fs=[]/\dx=none)\/∃d vs,dx=some d/\H d=some (.xd vs)/\Rn B W x.fs vs
def XL(B:Bs)(W:Wd)(E:XK):Kx Prop:=λx S=>∀W' C dx H,W.Le W'->RX B W' x S C dx H->E C dx H
def XL.up{W W':Wd}{E:XK}{x:Xc}{S:So}(le:W.Le W')(h:XL B W E x S):XL B W' E x S:=λW2 C dx H le2=>h W2 C dx H<|le.trans le2
def VL(B:Bs)(W:Wd)(Q:VK):Kv Prop:=λv S=>∀W' u H,W.Le W'->RS B W' S H->Rv B W' v u->Q u H
def AL(B:Bs)(W:Wd)(Q:List V->Hp->Prop):List U->So->Prop:=λv S=>∀W' u H,W.Le W'->RS B W' S H->Rvs B W' v u->Q u H
def BL(B:Bs)(W:Wd)(Q:Bool->Hp->Prop):Bool->So->Prop:=λb S=>∀W' H,W.Le W'->RS B W' S H->Q b H
def NL(B:Bs)(W:Wd)(Q:St->Hp->Prop):Sg->So->Prop:=λσ S=>∀W' τ H,W.Le W'->RS B W' S H->Rg B W' σ τ->Q τ H
section
variable(B)(G:Gx Prop)(Ex:St->XK)
def LE(c:TEx Prop):TE:=λτ H Q=>∃W σ S,RS B W S H/\Rg B W σ τ/\c G σ S (XL B W<|Ex τ) (VL B W Q)
def LA(c:TAx Prop):TA:=λτ H Q=>∃W σ S,RS B W S H/\Rg B W σ τ/\c G σ S (XL B W<|Ex τ) (AL B W Q)
def LT(c:TTx Prop):TT:=λτ H Q=>∃W σ S,RS B W S H/\Rg B W σ τ/\c G σ S (XL B W<|Ex τ) (BL B W Q)
def LEe(W:Wd)(D:zDe):Ee Prop where
 nx:=NL B W D.nx
 rt:=VL B W D.rt
 bk:=NL B W D.bk
 ct:=NL B W D.ct
 x:=λx σ S=>∀W' τ C dx H,W.Le W'->RX B W' x S C dx H->Rg B W' σ τ->Ex τ C dx H
def LS(c:TSx Prop):TS:=λD τ H=>∃W σ S,RS B W S H/\Rg B W σ τ/\c G σ S (LEe B Ex W D)
end
structure zAt(G:Gx Prop)(c:TEx Prop):Prop where
 m:∀{σ S}{x x':Kx Prop}{k k':Kv Prop},(∀e S,x e S->x' e S)->(∀v S,k v S->k' v S)->c G σ S x k->c G σ S x' k'
structure zCc(G:Gx Prop)(c:TAx Prop)(n:Nat):Prop where
 m:∀{σ S}{x x':Kx Prop}{k k':List U->So->Prop},(∀e S,x e S->x' e S)->(∀v S,v.length=n->k v S->k' v S)->c G σ S x k->c G σ S x' k'
structure zBl(G:Gx Prop)(c:TTx Prop):Prop where
 m:∀{σ S}{x x':Kx Prop}{k k':Bool->So->Prop},(∀e S,x e S->x' e S)->(∀v S,k v S->k' v S)->c G σ S x k->c G σ S x' k'
structure zDd(E E':Ee Prop):Prop where
 nx:∀σ S,E.nx σ S->E'.nx σ S
 rt:∀v S,E.rt v S->E'.rt v S
 bk:∀σ S,E.bk σ S->E'.bk σ S
 ct:∀σ S,E.ct σ S->E'.ct σ S
 x:∀e σ S,E.x e σ S->E'.x e σ S
structure zBr(G:Gx Prop)(c:TSx Prop):Prop where
 m:∀{σ S}{E E':Ee Prop},zDd E E'->c G σ S E->c G σ S E'
structure Box(p:Prop):Prop where
 h:p
def prP(up:List<|Str×Str)(p:Pm)(vs:List U)(S:So)(k:Kv Prop):Prop:=match pr up p vs S with
 |.ok v S1=>k v S1
 |.stuck=>False
structure zBs(up:List (Str×Str))(G:Gx Prop):Prop where
 fail:G.fail=False
 prim:∀p vs S x k,G.prim p vs S x k=Box (prP up p vs S k)
 br:∀b p q,G.br b p q=Box (if b=true then p () else q ())
 call:∀{i vs S}{x x':Kx Prop}{k k':Kv Prop},(∀e S,x e S->x' e S)->(∀v S,k v S->k' v S)->G.call i vs S x k->G.call i vs S x' k'
section
variable{up:List<|Str×Str}{G:Gx Prop}(g:zBs up G)
include g
theorem zBs.pm{p:Pm}{vs:List U}{x':Kx Prop}{k':Kv Prop}(hk:∀v S,k v S->k' v S)(h:G.prim p vs S x k):G.prim p vs S x' k':=by
 rw[g.prim] at h⊢;obtain⟨h⟩:=h;refine⟨?_⟩;unfold prP at h⊢;cases e:pr up p vs S with
 |ok v S1=>rw[e] at h;exact hk _ _ h
 |stuck=>rw[e] at h;exact h
theorem zBs.pok{p:Pm}{vs:List U}(h:G.prim p vs S x k):∃v S1,pr up p vs S=.ok v S1/\k v S1:=by
 rw[g.prim] at h;obtain⟨h⟩:=h;unfold prP at h;cases e:pr up p vs S with
 |ok v S1=>rw[e] at h;exact⟨v,S1,rfl,h⟩
 |stuck=>rw[e] at h;exact h.elim
theorem zBs.bm{b:Bool}{p p' q':Unit->Prop}(hp:p ()->p' ())(hq:q ()->q' ())(h:G.br b p q):G.br b p' q':=by
 rw[g.br] at h⊢;obtain⟨h⟩:=h;refine⟨?_⟩;cases b
 ·exact hq h
 ·exact hp h
theorem zBs.bk{b:Bool}{p:Unit->Prop}(h:G.br b p q):if b=true then p () else q ():=by
 rw[g.br] at h;exact h.h
theorem zBs.no(h:G.fail):False:=by rw[g.fail] at h;exact h
theorem mV:zAt G<|cV i:=⟨λhx hk h=>by
 unfold cV at h⊢;split at h
 ·exact hk _ _ h
 ·exact h⟩
theorem mC{u:U}:zAt G<|cC u:=⟨λhx hk h=>hk _ _ h⟩
theorem mAN:zCc G aN 0:=⟨λhx hk h=>hk _ _ rfl h⟩
theorem mAC{r:TAx Prop}(a:zAt G e)(b:zCc G r n):zCc G (aC e r)<|n+1:=⟨λhx hk h=>a.m hx (λv S1=>b.m hx λvs S2 hl=>hk _ _<|by simp[hl]) h⟩
theorem mP{p:Pm}{as:TAx Prop}(a:zCc G as n):zAt G<|cP p as:=⟨λhx hk h=>a.m hx (λvs S1 _ h1=>g.pm hk h1) h⟩
theorem mT{as:TAx Prop}(a:zCc G as n):zAt G<|cT as:=⟨λhx hk h=>a.m hx (λvs S1 _ h1=>hk _ _ h1) h⟩
theorem mF{as:TAx Prop}{ds:List U}(a:zCc G as n):zAt G<|cF i as ds:=⟨λhx hk h=>a.m hx (λvs S1 _ h1=>g.call hx hk h1) h⟩
theorem mM{m:Str}{o:TEx Prop}{as:TAx Prop}{ds:List U}(b:zAt G o)(a:zCc G as n):zAt G<|cM C m i o as ds:=⟨λhx hk h=>b.m hx (λv S1 h1=>g.pm (λw S2 h2=>a.m hx (λvs S3 _ h3=>g.call hx hk h3) h2) h1) h⟩
theorem mK{as:TAx Prop}{ds:List U}(a:zCc G as n):zAt G<|cK C i as ds:=⟨λhx hk h=>a.m hx (λvs S1 _ h1=>g.pm (λw S2 h2=>g.call (λ_ _ h=>h) (λr S3 h3=>by cases r <;> first|exact hk _ _ h3|exact h3) h2) h1) h⟩
theorem mBM{T:String}{p:Pm}{o:TEx Prop}{as:TAx Prop}(b:zAt G o)(a:zCc G as n):zAt G<|cBM T p o as:=⟨λhx hk h=>b.m hx (λv S1 h1=>g.pm (λw S2 h2=>a.m hx (λvs S3 _ h3=>g.pm hk h3) h2) h1) h⟩
theorem mD{fs:List<|Str×Nat×Nat}{f:TEx Prop}{as:TAx Prop}(b:zAt G f)(a:zCc G as n):zAt G<|cD fs f as:=⟨λhx hk h=>b.m hx (λv S1 h1=>by
 cases v <;> first|exact h1|skip
 dsimp only at h1⊢;split at h1
 ·exact a.m hx (λvs S2 _ h2=>g.call hx hk h2) h1
 ·exact h1) h⟩
theorem mB(a:zAt G e):zBl G<|tB e:=⟨λhx hk h=>a.m hx (λv S1 h1=>by cases v <;> first|exact hk _ _ h1|exact h1) h⟩
theorem mCI(a:zAt G e):zAt G<|cI e:=⟨λhx hk h=>a.m hx (λv S1 h1=>by cases v <;> first|exact hk _ _ h1|exact h1) h⟩
theorem mNt(a:zBl G t):zBl G<|tNt t:=⟨λhx hk h=>a.m hx (λv S1 h1=>hk _ _ h1) h⟩
theorem mAn{u:TTx Prop}(a:zBl G t)(b:zBl G u):zBl G<|tAn t u:=⟨λhx hk h=>a.m hx (λv S1 h1=>g.bm (b.m hx hk) (hk _ _) h1) h⟩
theorem mOr{u:TTx Prop}(a:zBl G t)(b:zBl G u):zBl G<|tOr' t u:=⟨λhx hk h=>a.m hx (λv S1 h1=>g.bm (hk _ _) (b.m hx hk) h1) h⟩
theorem mCB(a:zBl G t):zAt G<|cB t:=⟨λhx hk h=>a.m hx (λv S1 h1=>hk _ _ h1) h⟩
theorem mIf{f:TEx Prop}(a:zBl G t)(b:zAt G e)(c:zAt G f):zAt G<|cIf t e f:=⟨λhx hk h=>a.m hx (λv S1 h1=>g.bm (b.m hx hk) (c.m hx hk) h1) h⟩
theorem mCh{p q:Pm}{a b c:TEx Prop}(ha:zAt G a)(hb:zAt G b)(hc:zAt G c):zBl G<|tCh p q a b c:=⟨λhx hk h=>ha.m hx (λv S1=>hb.m hx λw S2=>g.pm λr S3 h3=>by
 cases r <;> first|exact h3|exact g.bm (hc.m hx λz S4=>g.pm λr2 S5 h5=>by cases r2 <;> first|exact hk _ _ h5|exact h5) (hk _ _) h3) h⟩
theorem mN:zBr G sN:=⟨λl h=>l.nx _ _ h⟩
omit g in
theorem zDd.sq(l:zDd E E')(h:∀σ S,nx σ S->nx' σ S):zDd (sqE E nx)<|sqE E' nx':=⟨h,l.rt,l.bk,l.ct,l.x⟩
omit g in
theorem zDd.lp(l:zDd E E')(h:∀σ S,nx σ S->nx' σ S):zDd (lpE E nx)<|lpE E' nx':=⟨h,l.rt,l.nx,h,l.x⟩
omit g in
theorem zDd.xc{x x':Xc->Sg->So->Prop}(l:zDd E E')(h:∀e σ S,x e σ S->x' e σ S):zDd (xcE E x)<|xcE E' x':=⟨l.nx,l.rt,l.bk,l.ct,h⟩
theorem mQ{t u:TSx Prop}(a:zBr G t)(b:zBr G u):zBr G<|sQ t u:=⟨λl h=>a.m (l.sq λ_ _=>b.m l) h⟩
theorem mA(a:zAt G e):zBr G<|sA i e:=⟨λl h=>a.m (λ_ _=>l.x _ _ _) (λ_ _=>l.nx _ _) h⟩
theorem mU{is:List Nat}(a:zAt G e):zBr G<|sU is e:=⟨λl h=>a.m (λ_ _=>l.x _ _ _) (λ_ _=>g.pm λw S h=>by cases w <;> first|exact l.nx _ _ h|exact h) h⟩
theorem mSE(a:zAt G e):zBr G<|sE e:=⟨λl h=>a.m (λ_ _=>l.x _ _ _) (λ_ _=>l.nx _ _) h⟩
theorem mR(a:zAt G e):zBr G<|sR e:=⟨λl h=>a.m (λ_ _=>l.x _ _ _) (λ_ _=>l.rt _ _) h⟩
theorem mRN:zBr G sRN:=⟨λl h=>l.rt _ _ h⟩
theorem mI{u v:TSx Prop}(a:zBl G t)(b:zBr G u)(c:zBr G v):zBr G<|sI t u v:=⟨λl h=>a.m (λ_ _=>l.x _ _ _) (λ_ _=>g.bm (b.m l)<|c.m l) h⟩
theorem mSP{p:Pm}{os:TAx Prop}(a:zAt G e)(b:zCc G os n):zBr G<|sP p e os:=⟨λl h=>a.m (λ_ _=>l.x _ _ _) (λ_ _=>b.m (λ_ _=>l.x _ _ _) λ_ _ _=>g.pm λ_ _=>l.nx _ _) h⟩
theorem zIc{is:List Nat}{one:Bool}{v:U}{σ:Sg}{k k':Sg->Prop}(hk:∀σ,k σ->k' σ)(h:tgt is one G v σ k):tgt is one G v σ k':=by
 unfold tgt at h⊢;cases one with
 |true=>exact hk _ h
 |false=>cases v with
  |tup vs=>
   dsimp only at h⊢;cases e:Nat.beq vs.length is.length with
   |true=>rw[e] at h;exact hk _ h
   |false=>rw[e] at h;exact(g.no h).elim
  |_=>exact(g.no h).elim
omit g in
theorem zId{b b':U->Sg->So->(Sg->So->Prop)->Prop}(hb:∀v σ S k k',(∀σ S,k σ S->k' σ S)->b v σ S k->b' v σ S k'):∀{vs:List U}{σ:Sg}{S:So}{k k':Sg->So->Prop},(∀σ S,k σ S->k' σ S)->zB4 vs b σ S k->zB4 vs b' σ S k'
 |[],_,_,_,_,hk,h=>hk _ _ h
 |v::vs,_,_,_,_,hk,h=>hb _ _ _ _ _ (λ_ _ z=>zId hb hk z) h
theorem mSF{is:List Nat}{one:Bool}(a:zAt G it)(hb:zBr G b):zBr G<|sF it is one b:=⟨λl h=>a.m (λ_ _=>l.x _ _ _) (λv S1 h1=>by
 cases v <;> first|exact h1|(dsimp only at h1⊢;refine zId ?_ l.nx h1;exact λ_ _ _ _ _ hk=>zIc g λ_=>hb.m<|l.lp hk)) h⟩
theorem mSW(a:zBl G t)(hb:zBr G b):zBr G<|sW t b:=⟨λ{σ S E E'} l h=>by
 unfold sW at h⊢;generalize G.fuel=n at h⊢;induction n generalizing σ S with
 |zero=>exact h
 |succ n ih=>exact a.m (λ_ _=>l.x _ _ _) (λc S1=>g.bm (hb.m<|l.lp λ_ _=>ih)<|l.nx _ _) h⟩
theorem mSX{fs:List Str}{as:TAx Prop}(a:zCc G as n):zBr G<|sX C fs as:=⟨λl h=>a.m (λ_ _=>l.x _ _ _) (λ_ _ _=>l.x _ _ _) h⟩
theorem mST{f:Str}{j:Nat}(mb:zBr G b):zBr G<|sT C i j f b:=⟨λl hh=>mb.m (l.xc λe σ S z=>by
 unfold hdl at z⊢;cases e1:decide (e.cls=C) with
 |false=>rw[e1] at z;exact z
 |true=>
  rw[e1] at z;dsimp only at z⊢;cases e2:zAj f e.fs with
  |none=>rw[e2] at z;exact z
  |some v=>
   rw[e2] at z;dsimp only at z⊢;cases e3:Nat.blt i σ.length with
   |true=>rw[e3] at z;exact l.nx _ _ z
   |false=>rw[e3] at z;exact z) hh⟩
omit g in
theorem mLc{b b':U->So->(Option U->So->Prop)->Prop}(hb:∀v S k k',(∀o S,k o S->k' o S)->b v S k->b' v S k'):∀{vs ys:List U}{S:So}{k k':Kv Prop},(∀v S,k v S->k' v S)->lcK G b vs ys S k->lcK G b' vs ys S k'
 |[],_,_,_,_,hk,h=>hk _ _ h
 | v::vs,_,_,_,_,hk,h=>hb _ _ _ _ (λo S h2=>match o,h2 with
  |some _,h2=>mLc hb hk h2
  |none,h2=>mLc hb hk h2) h
theorem mL{is:List Nat}{one:Bool}{cs:List Nat}{t:Option<|TTx Prop}(a:zAt G it)(hb:∀u,t=some u->zBl G u)(he:zAt G e):zAt G<|cL it is one n cs t e:=⟨λhx hk h=>a.m hx (λv S1 h1=>by
 cases v with
 |tup vs=>
  refine g.bm (λh1=>?_) (λh1=>h1) h1;refine mLc ?_ hk h1;refine λ_ _ _ _ ho=>zIc g ?_;intro σ z;cases t with
  |none=>exact he.m (λ_ _ h=>h) (λ_ _=>ho _ _) z
  |some u=>exact(hb u rfl).m (λ_ _ h=>h) (λc S3=>g.bm (he.m (λ_ _ h=>h) λ_ _=>ho _ _)<|ho _ _) z
 |_=>exact h1) h⟩
end
end Fx
namespace L2
open PySem PySem.Spec PyProof.Rows
section
variable{X:Cx}
theorem mi:∀{ws:List Str}{us:List Value},zAg (ws.map V.str) us->StrsAre us ws
 |[],_,h=>by cases h;exact .nil
 |w::ws,_,h=>by
  cases h with
  |cons a b=>
   obtain⟨t,rfl⟩:=a;exact .cons w t<|mi b
def zGt(K:xFr):V->List V->Hp->VK->Prop:=λx vs H Q=>∃(sep:Str) (l:Addr) (ws:List Str),x=.str sep/\vs=[.ref l]/\SqL K H l (ws.map V.str)/\(ws.map (·.length)).sum+ws.length*sep.length<=16777216/\Q (.str<|Txt.join sep ws) H
def uy:MtR X "str.join"<|zGt X.K:=by
 intro Z s σ H x vs v us Q I rx rv h;obtain⟨sep,l,ws,rfl,rfl,hS,hb,q⟩:=h;obtain⟨t,rfl⟩:=rx;obtain⟨u,rfl,ru⟩:=rv.one;obtain rfl:u=Value.ref l:=ru;obtain⟨its,r1,t1,z1⟩:=I.list hS;refine join_list t1.isList (ys:=ws) (by simpa using mi r1) hb λt' k=>?_;exact⟨.str _,H,I.tok _,⟨_,rfl⟩,q⟩
def zIr(K:xFr):List V->Hp->VK->Prop:=λxs H Q=>∃(p:Addr) (bs:List Bool),xs=[.ref p]/\SqL K H p (bs.map V.bl)/\∀b:Bool,b=bs.all id->Q (.bl b) H
def o9(bs:List Bool):(List.range bs.length).all (λi=>bs.getD i true)=bs.all id:=by
 rw[Bool.eq_iff_iff,xCx,xCx];constructor
 ·intro h b hb;obtain⟨i,hi,rfl⟩:=List.getElem_of_mem hb;have:=h i<|List.mem_range.mpr hi;rw[xBz,xAk hi] at this;exact this
 ·intro h i hi;have hi:=List.mem_range.mp hi;rw[xBz,xAk hi];exact h _<|List.getElem_mem hi
def yB(hc:X.calm=true):zAl X (.builtin "all")<|zIr X.K:=by
 intro Z s σ H xs us Q I r h;obtain⟨p,bs,rfl,hS,q⟩:=h;obtain⟨u,rfl,ru⟩:=zBm r;obtain rfl:u=Value.ref p:=ru;obtain⟨its,r1,t1,z1⟩:=I.list hS;have hl:=r1.length;rw[xAa] at hl;have hlt:p<s.heap.objs.size:=by
  obtain⟨o,_,e,_⟩:=t1;exact xA1 e
 have hval:∀(i:Nat)(v:Value),its.toArray[i]?=some v->v=Value.bool (bs.getD i true):=λi v e=>by
  have e':its[i]?=some v:=by simpa using e
  have hi:i<bs.length:=by rw[hl];exact(xAq.mp e').1
  obtain⟨u,hu,ru⟩:=r1.get (i:=i) (x:=.bl bs[i]) (by rw[xAw,xAk hi];rfl);rw[e'] at hu;cases hu;rw[xBz,xAk hi];exact ru
 refine call_all_walk<|wpAny_pyIter_list t1.isList ?_;refine⟨s.heap.objs.size,[s.heap.objs.size,p],[s.heap.objs.size],_,_,_,λi=>bs.getD i true,rfl,Walks.list (A:=X.A.in1) (I.ok.hd hc) s.heap.objs.size p (xA0 hlt) its.toArray,⟨⟨_,xAl _ rfl,rfl,rfl⟩,t1.isList.push _⟩,λi v s' Q' E' hP hQ=>?_,λh' tk hk=>?_⟩
 ·rw[hval i v hP];exact wpAny_truthy_bool hQ
 ·refine⟨.bl _,H,I.kept (t':=tk) λb o e=>hk b o ?_<|xAf _ e,rfl,q _ ?_⟩
  ·rw[xAm];exact xA0<|xA1 e
  ·rw[xAp,<- hl];exact o9 bs
end
def Its(z:Str):It:=⟨λi _=>i<z.cps.size,λi H x H'=>H'=H/\∃c,z.cps[i]?=some c/\x=.str ⟨#[c]⟩,λi _=>i=z.cps.size⟩
def jZ{P:Program}{w:World}{K:xFr}{tg:Expr}(it:Addr)(z:Str)(t:Tok)(ty:String)(hty:["enumerate","zip","dict_itemiterator","dict_reverseitemiterator","odict_iterator","itertools.zip_longest","itertools.pairwise"].contains ty=false)(W:∀A':Around,A'.handled=none->Walks P w A' it [it] [it] z.cps.size (SignAt z) (λi h=>h.IsStrIter it ty z t i))(hself:∀(A:Around)(i:Nat)(s:Shared)(Q:Value->Shared->Prop)(E:Value->Shared->Prop),s.heap.IsStrIter it ty z t i->Q (.ref it) s->wpAny (model P w) A (pyIter<|.ref it) Q E s) :
  zDz P w K tg (Its z) [it] it (λi h=>h.IsStrIter it ty z t i) where
 mem:=by simp
 obj:=λi h st b hb=>by
  have e:b=it:=by simpa using hb
  subst e;obtain⟨o,e,c,d⟩:=st;exact⟨o,e,λv z=>by rw[d] at z;cases z⟩
 keep:=λi h h' st k=>by
  obtain⟨o,e,r⟩:=st;exact⟨o,k it (by simp) o e,r⟩
 item:=by
  intro X hP hw hK hc i Z s σ H E I hf st hg;subst hP hw hK;obtain⟨f0,f1,f2,f3,f4,f5⟩:=hf it (by simp);refine(W X.A<|I.ok.hd hc).item i s _ _ hg st λv h' tk hv st' kk=>?_;obtain⟨c,u,hcu,rfl⟩:=hv;have I1:Inv X Z σ H {s with heap:=h',toks:=tk}:=I.turned (λb o hb e=>kk b o (by simpa using hb) e) f0 f1 f3 f4 f5;obtain⟨o,e,c',d⟩:=id st';exact⟨_,rfl,jd (s:={s with heap:=h',toks:=tk}) e c' d hty ⟨.str ⟨#[c]⟩,H,I1,⟨u,rfl⟩,⟨rfl,c,hcu,rfl⟩,st',λb hb=>(hf b hb).1⟩⟩
 done:=by
  intro X hP hw hK hc i Z s σ H E I hf st hg;subst hP hw hK;obtain⟨f0,f1,f2,f3,f4,f5⟩:=hf it (by simp);have hg:i=z.cps.size:=hg;subst hg;exact(W X.A<|I.ok.hd hc).done s _ _ st λh' tk eb=>⟨rfl,I.turned (t':=tk) (λb o hb e=>eb b o (by simpa using hb) e) f0 f1 f3 f4 f5⟩
 self:=hself
def zDj(x:V)(H:Hp)(R:It->Hp->Prop):Prop:=∃z:Str,x=.str z/\R (Its z) H
def sK:bootBuiltins "zip"=some (.type "zip"):=by decide +kernel
def zFc(K:xFr)(a:Addr)(y:V)(H:Hp)(Q:VK):Prop:=∃x v u,y=.str x/\PySem.W.nsIn K a x=some (some u)/\zAi v u/\Q v H
def zGi(K:xFr)(a:Addr)(te:TE):TE:=λσ H Q=>te σ H λy H2=>zFc K a y H2 Q
def KD(w:World)(K:xFr)(a:Addr):Prop:=∃es n,K.lookup a=some ⟨.type "dict",none,.dict es n,#[]⟩/\PySem.W.KeysLit w.params es.toList/\(a==sysModules)=false
section
variable{X:Cx}{o e:Expr}{te:TE}{a:Addr}{apos cpos:Pos}
def tZ(d:KD X.w X.K a)(ho:PE X o<|tC<|.ref a)(he:PE X e te)(m:M1 X o "get" apos e cpos):PE X (.Call (.Attribute o "get" apos) [e] [] cpos)<|zGi X.K a te:=by
 obtain⟨es,n,hl,hk,lo⟩:=d;intro Z s σ H Q I h;refine wpAny_Call_method m.base m.few m.line PySem.F.plainAttrs_dict PySem.F.slot_dict_get PySem.F.type_dict_get (thn (ho Z s σ H (λx H1=>x=.ref a/\te σ H1 λy H2=>zFc X.K a y H2 Q) I ⟨rfl,h⟩) λu s1 zz=>?_);obtain⟨x,H1,I1,rx,ex,q1⟩:=zz;subst ex;obtain rfl:u=Value.ref a:=rx;have hm1:=PySem.W.mapOf_K (prog:=X.prog) (w:=X.w) (λb o e=>I1.kIn b o e) hl hk;refine⟨hm1.typeIs,λb e=>⟨_,by cases e;exact I1.kIn a _ hl,rfl⟩,?_⟩;rw[m.trees];refine Calls.callWith_builtin rfl (Calls.evalArgs_plain<|Calls.spliced_cons<|thn (he Z s1 σ H1 _ I1 q1) λiv s2 ⟨y,H2,I2,ry,q2⟩=>Calls.spliced_nil ?_);obtain⟨z,v,u,rfl,hn,rv,q⟩:=q2;obtain⟨t,rfl⟩:=ry;have hm:=PySem.W.mapOf_K (prog:=X.prog) (w:=X.w) (λb o e=>I2.kIn b o e) hl hk;refine call_meetsIn PySem.F.slot_dict_get hm.typeIs PySem.F.entry_dict_get (PySem.F.args_dict_get_2 _ _) (meets_dict_get (strKind X.prog X.w) a (strKind_is X.prog X.w z t) lo) ⟨_,hm,?_⟩;rw[PySem.W.find_K hl hn];exact⟨v,H2,I2.tok _,rv,q⟩
end
end L2
namespace RevA
open PySem PySem.Spec PyProof.Rows
variable{Q E:Value->Shared->Prop}{w:World}{A:Around}{s:Shared}
structure ZAp(z TI TO i1 i2:Addr)(f1 f2:List Addr):Prop where
 q1:TI≠z
 q2:TO≠z
 q3:i1≠z
 q4:i2≠z
 q5:TI≠TO
 q6:TI≠i1
 q7:TI≠i2
 q8:TO≠i1
 q9:TO≠i2
 qa:i1≠i2
 n1:z∉f1
 n2:z∉f2
 n3:TO∉f1
 n4:TO∉f2
 n5:i1∉f2
 n6:i2∉f1
section
variable{prog:Program}{w:World}{A:Around}{E:Value->Shared->Prop}{s:Shared}{z TI TO i1 i2:Addr}{f1 f2:List Addr}{n1 n2 k:Nat}{P1 P2:Nat->Value->Prop}{S1 S2:Nat->Heap->Prop}{a b:Value}
def pb(D1:Draws prog w A i1 f1 n1 P1 S1)(D2:Draws prog w A i2 f2 n2 P2 S2)(D:ZAp z TI TO i1 i2 f1 f2)(hz:IsZip s.heap z TI TO .none)(hTI:IsPair s.heap TI (.ref i1)<|.ref i2)(hTO:IsPair s.heap TO a b)(st1:S1 k s.heap)(st2:S2 k s.heap)(l1:k<n1)(l2:k<n2)(q:∀x y h' tk,P1 k x->P2 k y->IsZip h' z TI TO (rawInt s.heap.objs.size)->IsPair h' TO x y->S1 (k+1) h'->S2 (k+1) h'->IsPair h' s.heap.objs.size x y->(∀c o,c≠z->c≠TO->c≠i1->c≠i2->s.heap.get? c=some o->h'.get? c=some o) ->
   Q (.ref s.heap.objs.size) {s with heap:=h',toks:=tk}):wpAny (model prog w) A (Builtin.«zip.__next__» ⟨[.ref z],[]⟩) (λfin s'=>∃v,fin=.done (.ret v)/\Q v s') E s:=by
 obtain⟨hp,g,d,tk0,os⟩:=s;change wpAny _ _ (field (.ref z) 2>>=_) _ _ _;refine xAd<|xDa hz rfl (x:=.bool false) rfl ?_;change wpAny _ _ (field (.ref z) 3>>=_) _ _ _;refine xAd<|xDa hz rfl (x:=.ref TI) rfl<|xAd<|wpAny_seqItems hTI rfl ?_;change wpAny _ _ (Builtin.SmallTypes.ownedTupleIsFree (.ref z)>>=_) _ _ _;refine xAd ?_;unfold Builtin.SmallTypes.ownedTupleIsFree;refine xAd<|xDa hz rfl (x:=.none) rfl<|xAe ?_;simp only[if_true];refine xAd<|wpAny_rule<|xAd<|xDa hz rfl (x:=.ref TO) rfl ?_;refine xAd<|wpAny_setField_rec hz (by simp) λh1 z1 b1=>?_
 replace z1:IsZip h1 z TI TO .ellipsis:=z1
 replace b1:Heap.SameBut z hp h1:=b1
 refine xAd ?_;simp only[List.zipIdx_cons,List.zipIdx_nil,List.forIn_cons,List.forIn_nil];refine xAd<|xAd<|wpAny_onRaise ?_;change wpAny _ _ (Builtin.SmallTypes.nextOf (.ref i1)>>=_) _ _ _;have t1:S1 k h1:=D1.frame _ _ _ st1 λc hc o e=>b1.extBut c o (λy=>D.n1<|y▸hc) e;refine xAd<|D1.item k ⟨h1,g,d,tk0,os⟩ _ _ l1 t1 λx h2 tk2 px t2 b2=>xAe ?_
 replace b2:Heap.SameBut i1 h1 h2:=b2
 have o2:IsPair h2 TO a b:=b2.extBut _ _ D.q8<|b1.extBut _ _ D.q2 hTO;refine xAd<|wpAny_seqItems (s:=⟨h2,g,d,tk2,os⟩) o2 rfl ?_;refine xAd<|wpAny_updateSeq_pair (s:=⟨h2,g,d,tk2,os⟩) o2 λh3 o3 b3=>?_
 replace o3:IsPair h3 TO x b:=o3
 replace b3:Heap.SameBut TO h2 h3:=b3
 refine xAd<|wpAny_letGo<|xAe ?_;refine xAd<|xAd<|wpAny_onRaise ?_;change wpAny _ _ (Builtin.SmallTypes.nextOf (.ref i2)>>=_) _ _ _;have u3:S2 k h3:=D2.frame _ _ _ st2 λc hc o e=>b3.extBut c o (λy=>D.n4<|y▸hc)<|b2.extBut c o (λy=>D.n5<|y▸hc)<|b1.extBut c o (λy=>D.n2<|y▸hc) e;have t3:S1 (k+1) h3:=D1.frame _ _ _ t2 λc hc o e=>b3.extBut c o (λy=>D.n3<|y▸hc) e;refine xAd<|D2.item k ⟨h3,g,d,tk2,os⟩ _ _ l2 u3 λy h4 tk4 py u4 b4=>xAe ?_
 replace b4:Heap.SameBut i2 h3 h4:=b4
 have o4:IsPair h4 TO x b:=b4.extBut _ _ D.q9 o3;have t4:S1 (k+1) h4:=D1.frame _ _ _ t3 λc hc o e=>b4.extBut c o (λy=>D.n6<|y▸hc) e;refine xAd<|wpAny_seqItems (s:=⟨h4,g,d,tk4,os⟩) o4 rfl ?_;refine xAd<|wpAny_updateSeq_pair (s:=⟨h4,g,d,tk4,os⟩) o4 λh5 o5 b5=>?_
 replace o5:IsPair h5 TO x y:=o5
 replace b5:Heap.SameBut TO h4 h5:=b5
 refine xAd<|wpAny_letGo<|xAe<|xAe ?_;have t5:S1 (k+1) h5:=D1.frame _ _ _ t4 λc hc o e=>b5.extBut c o (λy=>D.n3<|y▸hc) e;have u5:S2 (k+1) h5:=D2.frame _ _ _ u4 λc hc o e=>b5.extBut c o (λy=>D.n4<|y▸hc) e;refine xAd<|wpAny_seqItems (s:=⟨h5,g,d,tk4,os⟩) o5 rfl ?_;refine xAd<|wpAny_newTuple ?_;have sz:h5.objs.size=hp.objs.size:=by rw[b5.1,b4.1,b3.1,b2.1,b1.1]
 have z5:IsZip h5 z TI TO .ellipsis:=b5.extBut _ _ D.q2.symm<|b4.extBut _ _ D.q4.symm<|b3.extBut _ _ D.q2.symm<|b2.extBut _ _ D.q3.symm z1;have kk:∀c o,c≠z->c≠TO->c≠i1->c≠i2->hp.get? c=some o->h5.get? c=some o:=λc o c1 c2 c3 c4 e=>b5.extBut _ _ c2<|b4.extBut _ _ c4<|b3.extBut _ _ c2<|b2.extBut _ _ c3<|b1.extBut _ _ c1 e;have zlt:z<h5.objs.size:=xA1 z5;change wpAny _ _ (Builtin.SmallTypes.ownedTupleHandOut (.ref z) (.ref h5.objs.size)>>=_) _ _ _;refine xAd ?_;unfold Builtin.SmallTypes.ownedTupleHandOut;have z6:IsZip (h5.push {cls:=.type "tuple",data:=.seq #[x,y]}) z TI TO .ellipsis:=xAf _ z5;refine xAd<|wpAny_setField_rec z6 (by simp) λh7 z7 b7=>?_
 replace z7:IsZip h7 z TI TO<|rawInt h5.objs.size:=z7
 refine wpAny_setField_rec z7 (by simp) λh8 z8 b8=>?_
 replace z8:IsZip h8 z TI TO<|rawInt h5.objs.size:=z8
 replace b7:Heap.SameBut z (h5.push {cls:=.type "tuple",data:=.seq #[x,y]}) h7:=b7
 replace b8:Heap.SameBut z h7 h8:=b8
 have up:∀c o,c≠z->h5.get? c=some o->h8.get? c=some o:=λc o c1 e=>b8.extBut _ _ c1<|b7.extBut _ _ c1<|xAf _ e;have T8:IsPair h8 h5.objs.size x y:=b8.extBut _ _ (Nat.ne_of_gt zlt)<|b7.extBut _ _ (Nat.ne_of_gt zlt)<|xAl _ rfl;rw[sz] at z8 T8;refine xAe ⟨_,rfl,?_⟩;change Q (.ref h5.objs.size) _;rw[sz];exact q x y h8 tk4 px py z8 (up _ _ D.q2 o5) (D1.frame _ _ _ t5 λc hc o e=>up c o (λy=>D.n1<|y▸hc) e) (D2.frame _ _ _ u5 λc hc o e=>up c o (λy=>D.n2<|y▸hc) e) T8 λc o c1 c2 c3 c4 e=>up c o c1<|kk c o c1 c2 c3 c4 e
def pc{Q:Fin->Shared->Prop}(D1:Draws prog w A i1 f1 n1 P1 S1)(D:ZAp z TI TO i1 i2 f1 f2)(hz:IsZip s.heap z TI TO .none)(hTI:IsPair s.heap TI (.ref i1)<|.ref i2)(st1:S1 n1 s.heap)(q:∀h' e,(∀c o,c≠z->c≠TO->c≠i1->c≠i2->s.heap.get? c=some o->h'.get? c=some o)->(∃o,h'.get? e=some o/\o.cls=.type "StopIteration")->E (.ref e) {s with heap:=h'}) :
  wpAny (model prog w) A (Builtin.«zip.__next__» ⟨[.ref z],[]⟩) Q E s:=by
 change wpAny _ _ (field (.ref z) 2>>=_) _ _ _;refine xAd<|xDa hz rfl (x:=.bool false) rfl ?_;change wpAny _ _ (field (.ref z) 3>>=_) _ _ _;refine xAd<|xDa hz rfl (x:=.ref TI) rfl<|xAd<|wpAny_seqItems hTI rfl ?_;change wpAny _ _ (Builtin.SmallTypes.ownedTupleIsFree (.ref z)>>=_) _ _ _;refine xAd ?_;unfold Builtin.SmallTypes.ownedTupleIsFree;refine xAd<|xDa hz rfl (x:=.none) rfl<|xAe ?_;simp only[if_true];refine xAd<|wpAny_rule<|xAd<|xDa hz rfl (x:=.ref TO) rfl ?_;refine xAd<|wpAny_setField_rec hz (by simp) λh1 z1 b1=>?_
 replace z1:IsZip h1 z TI TO .ellipsis:=z1
 refine xAd ?_;simp only[List.zipIdx_cons,List.zipIdx_nil,List.forIn_cons,List.forIn_nil];refine xAd<|xAd<|wpAny_onRaise ?_;change wpAny _ _ (Builtin.SmallTypes.nextOf (.ref i1)>>=_) _ _ _;have t1:S1 n1 h1:=D1.frame _ _ _ st1 λc hc o e=>b1.extBut c o (λy=>D.n1<|y▸hc) e;refine xAd (D1.done {s with heap:=h1} _ _ t1 λh2 e b2 he=>?_);obtain⟨oe,hoe,hce⟩:=he;have z2:IsZip h2 z TI TO .ellipsis:=b2 _ _ D.q3.symm z1;have hez:e≠z:=λx=>by subst x;rw[z2] at hoe;cases hoe;simp at hce
 exact wpAny_setField_rec z2 (by simp) λh3 _ b3=>q h3 e (λc o c1 _ c3 _ x=>b3.extBut _ _ c1<|b2 _ _ c3<|b1.extBut _ _ c1 x) ⟨oe,b3.extBut _ _ hez hoe,hce⟩
def nM{Q:Option Value->Shared->Prop}(D1:Draws prog w A.in1 i1 f1 n1 P1 S1)(D2:Draws prog w A.in1 i2 f2 n2 P2 S2)(D:ZAp z TI TO i1 i2 f1 f2)(hz:IsZip s.heap z TI TO .none)(hTI:IsPair s.heap TI (.ref i1)<|.ref i2)(hTO:IsPair s.heap TO a b)(st1:S1 k s.heap)(st2:S2 k s.heap)(l1:k<n1)(l2:k<n2)(q:∀x y h' tk,P1 k x->P2 k y->IsZip h' z TI TO (rawInt s.heap.objs.size)->IsPair h' TO x y->S1 (k+1) h'->S2 (k+1) h'->IsPair h' s.heap.objs.size x y->(∀c o,c≠z->c≠TO->c≠i1->c≠i2->s.heap.get? c=some o->h'.get? c=some o) ->
   Q (some<|.ref s.heap.objs.size) {s with heap:=h',toks:=tk}):wpAny (model prog w) A (pyNext<|.ref z) Q E s:=by
 have hT:s.TypeIs (.ref z) "zip":=⟨_,hz,rfl⟩
 unfold pyNext;exact xAd<|wpAny_attempt<|wpAny_callSpecial?_slot (name:=Str.ofString "__next__") hT PySem.F.slot_zip_next (wpAny_call_entry PySem.F.slot_zip_next hT PySem.F.entry_zip_next
  (pb D1 D2 D hz hTI hTO st1 st2 l1 l2 λx y h' tk r1 r2 r3 r4 r5 r6 r7 r8=>xAe<|q x y h' tk r1 r2 r3 r4 r5 r6 r7 r8) (PySem.F.args_zip_next_1 _))
def nN{Q:Option Value->Shared->Prop}(D1:Draws prog w A.in1 i1 f1 n1 P1 S1)(D:ZAp z TI TO i1 i2 f1 f2)(hz:IsZip s.heap z TI TO .none)(hTI:IsPair s.heap TI (.ref i1)<|.ref i2)(st1:S1 n1 s.heap)(q:∀h',(∀c o,c≠z->c≠TO->c≠i1->c≠i2->s.heap.get? c=some o->h'.get? c=some o)->Q none {s with heap:=h'}):wpAny (model prog w) A (pyNext<|.ref z) Q E s:=by
 have hT:s.TypeIs (.ref z) "zip":=⟨_,hz,rfl⟩
 unfold pyNext;refine xAd<|wpAny_attempt<|wpAny_callSpecial?_slot (name:=Str.ofString "__next__") hT PySem.F.slot_zip_next<|wpAny_call_entry PySem.F.slot_zip_next hT PySem.F.entry_zip_next (pc D1 D hz hTI st1 λh' e hk he=>?_)<|PySem.F.args_zip_next_1 _;obtain⟨o,ho,hc⟩:=he;exact xAd<|wpAny_isInstance (T:="StopIteration") (b:=true) ⟨o,ho,hc⟩ isSubtype_stop<|xAe<|q _ hk
end
def zBi(v:Value)(o:Obj)(h:Heap):Prop:=∀(prog:Program)(w:World)(A:Around)(E:Value->Shared->Prop)(s:Shared)(Q:Value->Shared->Prop),s.heap=h->Q (.ref s.heap.objs.size) {s with heap:=s.heap.push o}->wpAny (model prog w) A (pyIter v) Q E s
def nc{prog:Program}{v:Value}{o:Obj}(i:zBi v o s.heap)(h:Q (.ref s.heap.objs.size) {s with heap:=s.heap.push o}):wpAny (model prog w) A (pyIter v) Q E s:=i _ _ _ _ _ _ rfl h
noncomputable abbrev zh3(h:Heap)(o1 o2:Obj):Heap:=((h.push o1).push o2).push {cls:=.type "tuple",data:=.seq #[.ref h.objs.size,.ref (h.push o1).objs.size]}
noncomputable abbrev zh4(h:Heap)(o1 o2:Obj):Heap:=(zh3 h o1 o2).push {cls:=.type "tuple",data:=.seq #[.none,.none]}
noncomputable abbrev zh5(h:Heap)(o1 o2:Obj):Heap:=(zh4 h o1 o2).push {cls:=.type "zip",data:=.fields #[.none,.bool false,.bool false,.ref ((h.push o1).push o2).objs.size,.ref (zh3 h o1 o2).objs.size]}
def sS(v1 v2:Value)(o1 o2:Obj):Meets (Builtin.«zip.__new__» ⟨[.type "zip",v1,v2],[]⟩) λ_ R s=>zBi v1 o1 s.heap/\zBi v2 o2 (s.heap.push o1)/\R (.ok<|.ret<|.ref (zh4 s.heap o1 o2).objs.size) {s with heap:=zh5 s.heap o1 o2}:=
 .of_wp λprog w A R s h=>by
  obtain⟨hp,g,d,tk,os⟩:=s;obtain⟨hl1,hl2,h⟩:=h;have hsub:=sub_zip;have j1:zBi v1 o1<|Shared.heap ⟨hp,g,d,tk,os⟩:=hl1;have j2:zBi v2 o2<|Shared.heap ⟨hp.push o1,g,d,tk,os⟩:=hl2;wp_walk using nc j1,nc j2
  exact⟨_,rfl,h⟩
def pe{prog:Program}{v1 v2:Value}{o1 o2:Obj}(j1:zBi v1 o1 s.heap)(j2:zBi v2 o2<|s.heap.push o1)(q:∀h',IsZip h' (s.heap.objs.size+4) (s.heap.objs.size+2) (s.heap.objs.size+3) .none->IsPair h' (s.heap.objs.size+2) (.ref s.heap.objs.size) (.ref<|s.heap.objs.size+1)->IsPair h' (s.heap.objs.size+3) .none .none ->
   (o1.isFreed=false->h'.get? s.heap.objs.size=some o1)->(o2.isFreed=false->h'.get? (s.heap.objs.size+1)=some o2)->(∀c o,s.heap.get? c=some o->h'.get? c=some o)->Q (.ref<|s.heap.objs.size+4) {s with heap:=h'}) :
  wpAny (model prog w) A (call (.type "zip") [v1,v2]) Q E s:=by
 refine callType_new PySem.F.called_zip (by decide) (PySem.F.typeCall_zip_2 _ _) (PySem.F.newCall_zip_2 _ _) (λobj=>PySem.F.args_object_init_3 obj _ _) PySem.F.entry_zip_new (sS v1 v2 o1 o2) ⟨j1,j2,?_⟩;have e1:(s.heap.push o1).objs.size=s.heap.objs.size+1:=Heap.size_push ..;have e2:((s.heap.push o1).push o2).objs.size=s.heap.objs.size+2:=by rw[Heap.size_push,e1]
 have e3:(zh3 s.heap o1 o2).objs.size=s.heap.objs.size+3:=by rw[Heap.size_push,e2]
 have e4:(zh4 s.heap o1 o2).objs.size=s.heap.objs.size+4:=by rw[Heap.size_push,e3]
 have g5:(zh5 s.heap o1 o2).get? (zh4 s.heap o1 o2).objs.size=some _:=xAl _ rfl;have g4:(zh5 s.heap o1 o2).get? (zh3 s.heap o1 o2).objs.size=some _:=xAf _<|xAl _ rfl;have g3:(zh5 s.heap o1 o2).get? ((s.heap.push o1).push o2).objs.size=some _:=xAf _<|xAf _<|xAl _ rfl;have g2:o2.isFreed=false->(zh5 s.heap o1 o2).get? (s.heap.push o1).objs.size=some o2:=λf=>xAf _<|xAf _<|xAf _<|xAl _ f;have g1:o1.isFreed=false->(zh5 s.heap o1 o2).get? s.heap.objs.size=some o1:=λf=>xAf _<|xAf _<|xAf _<|xAf _<|xAl _ f;change _/\_;rw[e2,e3,e4] at g5;rw[e1,e2] at g3;rw[e3] at g4;rw[e1] at g2;rw[e4];exact⟨⟨_,g5,rfl⟩,q _ g5 g3 g4 g1 g2 λc o x=>xAf _<|xAf _<|xAf _<|xAf _<|xAf _ x⟩
end RevA
namespace L2
open PySem PySem.Spec PyProof.Rows RevA
def pj{n:Nat}{f1 f2:List Addr}(m1:∀b∈f1,b=n\/b<n)(m2:∀b∈f2,b=n+1\/b<n):ZAp (n+4) (n+2) (n+3) n (n+1) f1 f2:=by
 have w1:∀c:Nat,n<c->c∉f1:=λc hc z=>by
  rcases m1 c z with e|e
  ·exact Nat.ne_of_gt hc e
  ·exact Nat.not_lt_of_lt hc e
 have w2:∀c:Nat,n<=c->c≠n+1->c∉f2:=λc hc hn z=>by
  rcases m2 c z with e|e
  ·exact hn e
  ·exact Nat.not_lt_of_le hc e
 exact⟨by simp,by simp,by simp[xA0],by simp,by simp,by simp,by simp,by simp,by simp,by simp,w1 _ (by lia),w2 _ (by lia) (by simp),w1 _ (by lia),w2 _ (by lia) (by simp),w2 _ (xAg _) (by simp),w1 _<|by lia⟩
end L2
namespace Prg
open PySem PySem.NumText PySem.StrLaws PyProof.Rows L2
section
variable{n:Nat}{sc:List Str}{pl:Int}{P:List Str->D->Prop}{kind:Str}{ds:List D}{i:Nat}{s:Ps}{x:D}
variable(h:0<=pl/\pl<=599)
include h
end
end Prg
namespace L2
open PySem PySem.Spec PyProof.Rows
def zDp(K:xFr)(a:Addr)(y d:V)(H:Hp)(Q:VK):Prop:=∃x v r,y=.str x/\PySem.W.nsIn K a x=some r/\(∀u,r=some u->zAi v u)/\(r=none->v=d)/\Q v H
def zEw(K:xFr)(a:Addr)(te tf:TE):TE:=λσ H Q=>te σ H λy H2=>tf σ H2 λd H3=>zDp K a y d H3 Q
section
variable{X:Cx}{o e f:Expr}{te tf:TE}{a:Addr}{apos cpos:Pos}
theorem qx(d:KD X.w X.K a)(ho:PE X o<|tC<|.ref a)(he:PE X e te)(hf:PE X f tf)(m:M2 X o "get" apos e f cpos):PE X (.Call (.Attribute o "get" apos) [e,f] [] cpos)<|zEw X.K a te tf:=by
 obtain⟨es,n,hl,hk,lo⟩:=d;intro Z s σ H Q I h;refine wpAny_Call_method m.base m.few m.line PySem.F.plainAttrs_dict PySem.F.slot_dict_get PySem.F.type_dict_get (thn (ho Z s σ H (λx H1=>x = .ref a/\te σ H1 λy H2=>tf σ H2 λd H3=>zDp X.K a y d H3 Q) I ⟨rfl,h⟩) λu s1 zz=>?_);obtain⟨x,H1,I1,rx,ex,q1⟩:=zz;subst ex;obtain rfl:u=Value.ref a:=rx;have hm1:=PySem.W.mapOf_K (prog:=X.prog) (w:=X.w) (λb o e=>I1.kIn b o e) hl hk;refine⟨hm1.typeIs,λb e=>⟨_,by cases e;exact I1.kIn a _ hl,rfl⟩,?_⟩;rw[m.trees];refine Calls.callWith_builtin rfl<|Calls.evalArgs_plain<|Calls.spliced_cons (thn (he Z s1 σ H1 _ I1 q1) λiv s2 ⟨y,H2,I2,ry,q2⟩ =>
  Calls.spliced_cons (thn (hf Z s2 σ H2 _ I2 q2) λfv s3 ⟨z,H3,I3,rz,q3⟩=>Calls.spliced_nil ?_))
 obtain⟨x,v,r,rfl,hn,r1,r2,q⟩:=q3;obtain⟨t,rfl⟩:=ry;have hm:=PySem.W.mapOf_K (prog:=X.prog) (w:=X.w) (λb o e=>I3.kIn b o e) hl hk;refine call_meetsIn PySem.F.slot_dict_get hm.typeIs PySem.F.entry_dict_get (PySem.F.args_dict_get_3 _ _ _) (meets_dict_get_default (strKind X.prog X.w) a (strKind_is X.prog X.w x t) lo fv) ⟨_,hm,?_⟩;rw[PySem.W.find_K hl hn];cases r with
 |none=>cases r2 rfl;exact⟨_,H3,I3.tok _,rz,q⟩
 |some u=>exact⟨v,H3,I3.tok _,r1 u rfl,q⟩
end
end L2
namespace SetA
open PySem PySem.Spec PySem.SetTable PyProof.Rows
variable{h h':Heap}{a:Addr}{n:Nat}{t:SetTable}
def zB0(h:Heap)(a:Addr)(n:Nat):Prop:=∃es ep t,h.get? a=some (zAx es ep t)/\es.size=n/\t.fits n=true
def zB0.at'(S:zB0 h a n)(e:∀o,h.get? a=some o->h'.get? a=some o):zB0 h' a n:=by
 obtain⟨es,ep,t,q,r⟩:=S;exact⟨es,ep,t,e _ q,r⟩
structure Jn(t:SetTable)(n:Nat):Prop where
 msk:7<=t.mask
 sz:t.place.size=n
 dm:t.dummies=#[]
theorem Jn.fits{t:SetTable}{n:Nat}(h:Jn t n)(h4:n<=4):t.fits n=true:=by
 unfold SetTable.fits SetTable.fill;rw[h.sz,h.dm];have:=h.msk;simp only[beq_self_eq_true,Bool.true_and,decide_eq_true_eq,xAp,List.length_nil];lia
def Jn.full(h:Jn t n)(h4:n<=4):t.tooFull=false:=by
 unfold SetTable.tooFull SetTable.fill;rw[h.sz,h.dm];have:=h.msk;simp only[decide_eq_false_iff_not,xAp,List.length_nil,ge_iff_le];lia
theorem Jn.new(T:Jn t n)(es:Array<|Int×Value)(hn:es.size=n)(h4:n<4)(h:Int)(x:Value) :
  ∃es' t' wd gv,layNew t es h x=(es',t',wd,gv)/\es'.size=n+1/\Jn t' (n+1)/\∀e∈es'.toList,e∈es.toList\/e=(h,x):=by
 have hi:∀p,∀e∈(insertAt es p (h,x)).toList,e∈es.toList\/e=(h,x):=λp e he=>by
  have:=(insertAt_perm es p (h,x)).mem_iff.mp he;rw[Array.toList_push] at this;rcases xAj.mp this with z|z
  ·exact .inl z
  ·exact .inr<|xAm.mp z
 unfold layNew;cases t.freeSlot h with
 |none=>
  refine⟨_,_,_,_,rfl,by rw[Array.size_push,hn],⟨by show 7<=4*(es.size+1)+4;lia,by show(Array.range<|es.size+1).size=_;rw[Array.size_range,hn],rfl⟩,λe he=>?_⟩;rw[Array.toList_push] at he;rcases xAj.mp he with z|z
  ·exact .inl z
  ·exact .inr<|xAm.mp z
 |some r=>
  obtain⟨j,wd⟩:=r;have T':Jn (t.put j).1<|n+1:=⟨T.msk,by show(insertAt t.place (below t.place j) j).size=n+1;rw[fN,T.sz],by show(if has t.dummies j then eraseAt t.dummies (below t.dummies j) else t.dummies)=#[];rw[T.dm];rfl⟩
  have e:(insertAt es (t.put j).2 (h,x)).size=n+1:=by rw[fN,hn]
  refine⟨_,_,_,_,rfl,e,?_,hi _⟩;show Jn ((t.put j).1.orStandIn (insertAt es (t.put j).2 (h,x)).size)<|n+1;unfold SetTable.orStandIn;rw[e,T'.fits h4];exact T'
def ZOk(w:World)(ks:List Str)(l:List<|Int×Value):Prop:=∀e∈l,∃k t,k∈ks/\e=(hashStr w k,Value.str k t)
def ZIn(w:World)(h:Heap)(a:Addr)(n:Nat)(ks:List Str):Prop:=∃es ep t,h.get? a=some (zAx es ep t)/\es.size=n/\Jn t n/\ZOk w ks es.toList
def ZIn.at'{w:World}{ks:List Str}(S:ZIn w h a n ks)(e:∀o,h.get? a=some o->h'.get? a=some o):ZIn w h' a n ks:=by
 obtain⟨es,ep,t,q,r⟩:=S;exact⟨es,ep,t,e _ q,r⟩
section
variable{prog:Program}{w:World}{A:Around}{E:Value->Shared->Prop}{s:Shared}{a:Addr}{n:Nat}{ks:List Str}
def ZIn.add(S:ZIn w s.heap a n ks)(h4:n<4){k:Str}(hm:k∉ks){tk:Tok}{Q:Bool->Shared->Prop}(h:∀h':Heap,Heap.SameBut a s.heap h'->ZIn w h' a (n+1) (k::ks)->Q true {s with heap:=h'}):wpAny (model prog w) A (setAddHashed a (.str k tk)<|hashStr w k) Q E s:=by
 obtain⟨es,ep,t,ob,hn,T,hz⟩:=S;have hf:t.fits es.size=true:=by rw[hn];exact T.fits<|Nat.le_of_lt h4
 have hkey:(PySem.strKind prog w).is k (.str k tk)=true:=by simp[PySem.strKind,Value.isStrOf]
 have hel:ElemsOf (PySem.strKind prog w) es.toList:=λe he=>by
  obtain⟨k',t',_,rfl⟩:=hz e he;exact⟨⟨k',by simp[PySem.strKind,Value.isStrOf],rfl⟩,rfl⟩
 unfold setAddHashed setAddHashedIn;refine xDc<|xAd<|wpAny_setState_of ob rfl hf ?_;dsimp only;rw[byScan_of (x:=.str k tk) rfl (by rw[hn];have:scanBound=4096:=rfl;lia) hel];simp only[↓reduceIte];unfold setAddByScan;refine xAd<|xAd<|wpAny_rule ?_;refine xAd<|wpAny_setScan_of (knd:=PySem.strKind prog w) hkey ob rfl hf hel ?_;have hno:es.toList.findIdx? (λe=>(PySem.strKind prog w).is k e.2)=none:=List.findIdx?_eq_none_iff.mpr λe he=>by
  obtain⟨k',t',h1,rfl⟩:=hz e he;have:k'≠k:=λz=>hm<|z▸h1;simp[PySem.strKind,Value.isStrOf,this]
 rw[hno];dsimp only;obtain⟨es',t',wd,gv,e,l1,l2,l3⟩:=T.new es hn h4 (hashStr w k)<|.str k tk;rw[e];dsimp only;have done:∀t2:SetTable,Jn t2 (n+1)->Q true { s with heap:=s.heap.update a (Obj.putSet es' t2) }:=λt2 T2=>h _ (Heap.SameBut.update s.heap a<|Obj.putSet es' t2) ⟨es',ep+1,t2,by
  have:=xA7 (Obj.putSet es' t2) ob (by rw[putSet_of es' t2 rfl];rfl);rw[putSet_of es' t2 rfl] at this;exact this,l1,T2,λe he=>by
  rcases l3 e he with z|z
  ·obtain⟨k',t',h1,h2⟩:=hz e z;exact⟨k',t',xAs _ h1,h2⟩
  ·exact⟨k,tk,xAr,z⟩⟩
 have hz1:es'.size<=sizeLine:=fits_of_scanBound (by rw[l1];have:scanBound=4096:=rfl;lia);have fu:∀b:Bool,({t' with plain:=b}:SetTable).tooFull=false:=λb=>Jn.full ⟨l2.msk,l2.sz,l2.dm⟩ h4;have f0:=l2.full h4;cases gv
 ·refine xAd<|xAe ?_;cases hp:t'.plain with
  |true=>
   simp only[↓reduceIte];refine xAd ?_;rw[hashByValue_scannable 8 rfl];refine xAe ?_;cases plainKind (Value.str k tk) with
   |true=>
    simp only[↓reduceIte];refine xAd<|wpAny_storeSet_of ob rfl ?_ hz1;rw[f0,Bool.and_false];simp only[xAz,↓reduceIte];exact xAe<|xAe<|done t' l2
   |false=>
    simp only[xAz,↓reduceIte];refine xAd<|wpAny_storeSet_of ob rfl ?_ hz1;rw[fu,Bool.and_false];simp only[xAz,↓reduceIte];exact xAe<|xAe<|done _ ⟨l2.msk,l2.sz,l2.dm⟩
  |false=>
   simp only[xAz,↓reduceIte];refine xAd<|xAe ?_;simp only[↓reduceIte];refine xAd<|wpAny_storeSet_of ob rfl ?_ hz1;rw[f0,Bool.and_false];simp only[xAz,↓reduceIte];exact xAe<|xAe<|done t' l2
 ·refine xAd<|wpAny_rule ?_;cases hp:t'.plain with
  |true=>
   simp only[↓reduceIte];refine xAd ?_;rw[hashByValue_scannable 8 rfl];refine xAe ?_;cases plainKind (Value.str k tk) with
   |true=>
    simp only[↓reduceIte];refine xAd<|wpAny_storeSet_of ob rfl ?_ hz1;rw[f0,Bool.and_false];simp only[xAz,↓reduceIte];exact xAe<|xAe<|done t' l2
   |false=>
    simp only[xAz,↓reduceIte];refine xAd<|wpAny_storeSet_of ob rfl ?_ hz1;rw[fu,Bool.and_false];simp only[xAz,↓reduceIte];exact xAe<|xAe<|done _ ⟨l2.msk,l2.sz,l2.dm⟩
  |false=>
   simp only[xAz,↓reduceIte];refine xAd<|xAe ?_;simp only[↓reduceIte];refine xAd<|wpAny_storeSet_of ob rfl ?_ hz1;rw[f0,Bool.and_false];simp only[xAz,↓reduceIte];exact xAe<|xAe<|done t' l2
end
section
variable{prog:Program}{w:World}{A:Around}{R:Result->Shared->Prop}{I S:Addr}{fp wr:List Addr}{G:Array GenState->Array GenState->Prop}{n:Nat}{P:Nat->Value->Prop}{St:Nat->Shared->Prop}
theorem fill(W:WalksS prog w A.in1 I fp wr G n P St)(hSf:S∉fp){val:Nat->Str}(hval:∀i v,P i v->∃t,v=.str (val i) t)(hin:∀i j,i<j->j<n->val i≠val j)(hn:n<=4):∀(k i:Nat)(s:Shared)(ks:List Str),i+k=n->St i s->ZIn w s.heap S i ks->(∀x∈ks,∃j,j<i/\val j=x)->(∀s',Moved (S::wr) G s s'->zB0 s'.heap S n->R (.ok<|.ret .none) s')->codeAny (model prog w) A (.builtin "set.update.loop" ⟨[.ref S,.ref I],[]⟩) R s:=by
 have hSw:S∉wr:=λh=>hSf<|W.sub _ h;have hsu:∀b∈wr,b∈S::wr:=λb hb=>xAs _ hb;intro k;induction k with
 |zero=>
  intro i s ks hk hst hS hm hR;obtain rfl:i=n:=hk;refine codeAny_builtin PyProof.Rows.F.entry_set_update_loop ?_;rw[Around.under_plainId PyProof.Rows.F.plain_set_update_loop _];change wpAny _ A.in1 (pyNext (.ref I)>>=_) _ _ s;refine xAd (W.done s _ _ hst λs' mv=>?_);change wpAny _ A.in1 (ret Value.none) _ _ s';obtain⟨es,ep,t,q,r,T,_⟩:=hS;exact xAe<|hR s' (mv.mono hsu) ⟨es,ep,t,mv.heap S _ hSw q,r,T.fits hn⟩
 |succ k ih=>
  intro i s ks hk hst hS hm hR;have hlt:i<n:=by lia
  refine codeAny_builtin PyProof.Rows.F.entry_set_update_loop ?_;rw[Around.under_plainId PyProof.Rows.F.plain_set_update_loop _];change wpAny _ A.in1 (pyNext (.ref I)>>=_) _ _ s;refine xAd (W.item i s _ _ hlt hst λv s' hP hst' mv=>?_);obtain⟨t,rfl⟩:=hval i v hP;change wpAny _ A.in1 (holding [Value.str (val i) t] (setAdd S<|.str (val i) t)>>=_) _ _ s';refine xAd<|xDc ?_;unfold setAdd;refine xDc ?_;refine xAd<|(PySem.strKind prog w).pyHash (k:=val i) (PySem.strKind_is _ _ _ _) ?_;refine ZIn.add (s:={s' with toks:=s'.toks+1}) (hS.at' λo e=>mv.heap S _ hSw e) (by lia) (λz=>by obtain⟨j,z1,z2⟩:=hm _ z;exact hin j i z1 hlt z2) λh' c1 c2=>?_;refine xAe ⟨plainId_quiet PyProof.Rows.F.plain_set_update_loop _,ih (i+1) _ _ (by lia) (W.frame _ s' _ _ hst' (Nat.le_succ _) λb hb o e=>?_) c2 (λx hx=>?_) λs'' mv2 d1=>?_⟩
  ·rw[c1.2 b λh:b=S=>hSf<|by rw[<- h];exact hb];exact e
  ·rcases xAv.mp hx with rfl|hx
   ·exact⟨i,by lia,rfl⟩
   ·obtain⟨j,z1,z2⟩:=hm x hx;exact⟨j,by lia,z2⟩
  ·refine hR s'' (Moved.trans W.gtrans ((mv.mono hsu).then_heap (Nat.le_succ _) λb o hb e=>?_) mv2) d1;rw[c1.2 b λh:b=S=>hb<|by rw[h];exact xAr];exact e
end
section
variable{prog:Program}{w:World}{A:Around}{E:Value->Shared->Prop}{s:Shared}
theorem set_tupleZ{l:Addr}{items:Array Value}{Q:Value->Shared->Prop}(hh:A.handled=none)(hl:s.heap.IsTuple l items){val:Nat->Str}(hi:∀(i:Nat)(v:Value),items[i]?=some v->∃t,v=.str (val i) t)(hin:∀i j,i<j->j<items.size->val i≠val j)(hb:items.size<=4)(h:∀(h':Heap)(tk:Nat),zB0 h' s.heap.objs.size items.size->(∀b o,s.heap.get? b=some o->h'.get? b=some o)->s.toks<=tk->Q (.ref s.heap.objs.size) {s with heap:=h',toks:=tk}) :
  wpAny (model prog w) A (call (.type "set") [.ref l]) Q E s:=by
 obtain⟨c,tl,hmro⟩:=PySem.F.called_set.mro;have hmade:=PySem.F.called_set.made;have hsub:=PySem.F.called_set.sub;refine wpAny_call<|codeAny_of_tree ?_;change wpAny _ _ (callAny (.type "set") _) _ _ _;refine xAe ⟨Code.quiet_builtin _ (by decide +kernel),codeAny_builtin PySem.F.entry_type_call ?_⟩;rw[Around.under_plain (weight_type_call_type "set" [.ref l] []) rfl];have q1:=PySem.F.called_set.notType;have q2:=PySem.F.called_set.canCreate;have q3:=PySem.F.typeCall_set_1<|.ref l;repeat (any_goals (first|assumption|wp_step))
 refine codeAny_mono (uD (.ref l) (E:=E) (Q₁:=λobj s₁=>∃led:Bool,(led=true\/w.params.followText "set-order"=true)/\obj=.ref s.heap.objs.size/\s₁={s with heap:=s.heap.push<|zAx #[] 0 (.fresh 0 0 led)}) λled hld=>⟨led,hld,rfl,rfl⟩) λr s₁ hr=>?_;cases r with
 |error e=>exact hr
 |ok fl=>
  cases fl with
  |ret obj=>
   obtain⟨led,hld,rfl,rfl⟩:=hr;have P0:(s.heap.push<|zAx #[] 0 (.fresh 0 0 led)).get? s.heap.objs.size=some (zAx #[] 0 (.fresh 0 0 led)):=xAl _ rfl;have hT:Shared.TypeIs {s with heap:=s.heap.push<|zAx #[] 0 (.fresh 0 0 led)} (.ref s.heap.objs.size) "set":=⟨_,P0,rfl⟩
   have hli:=PySem.F.called_set.init.lookup;have hbi:=PySem.F.called_set.init.bind<|.ref s.heap.objs.size;repeat (any_goals (first|assumption|wp_step))
   refine codeAny_mono (codeAny_call_builtin (R:=wants (λr s₂=>r = .none/\∃h' tk,s₂={ s with heap:=h',toks:=tk }/\zB0 h' s.heap.objs.size items.size /\
     (∀b o,s.heap.get? b=some o->h'.get? b=some o)/\s.toks<=tk) E) PySem.F.called_set.init.plain PySem.F.entry_set_init<|check_set_init_1 hT ?_) λr₂ s₂ hr₂=>?_
   ·obtain⟨ol,hol,hcl,nl,hdl⟩:=hl;obtain⟨ocls,odict,odata,oslots⟩:=ol;simp only at hcl hdl;subst hcl;subst hdl;have hol1:(s.heap.push<|zAx #[] 0 (.fresh 0 0 led)).get? l=some {cls:=.type "tuple",dict:=odict,data:=.seq items nl,slots:=oslots}:=xAf _ hol;have q4:=PySem.F.sub_tuple_set;have q5:=PySem.F.sub_tuple_frozenset;have q6:(Value.type "tuple" == Value.type "dict")=false:=by decide
    have hl1:(s.heap.push<|zAx #[] 0 (.fresh 0 0 led)).IsTuple l items:=⟨_,hol1,rfl,nl,rfl⟩
    unfold Builtin.«set.__init__» noKeywords Builtin.Frozenset.updateFrom;generalize hPI:pyIter=PI;wp_walk
    subst hPI;refine wpAny_pyIter_tuple hl1 ?_;refine xAd<|wpAny_runValue ?_;have hlS:l<s.heap.objs.size:=xA1 hol;have hh3:A.in1.in1.in1.handled=none:=by simp[hh]
    have hneI:l≠(s.heap.push<|zAx #[] 0 (.fresh 0 0 led)).objs.size:=by
     rw[Heap.size_push];exact xA0<|Nat.lt_succ_of_lt hlS
    have hSf:s.heap.objs.size∉[(s.heap.push<|zAx #[] 0 (.fresh 0 0 led)).objs.size,l]:=by
     rw[Heap.size_push];simp only[xAv,xBv,or_false,not_or];exact⟨xA0<|Nat.lt_succ_self _,Nat.ne_of_gt hlS⟩
    refine fill ((Walks.tuple hh3 _ l hneI items).toS) hSf hi hin hb items.size 0 _ [] (Nat.zero_add _)
     ⟨⟨_,xAl _ rfl,rfl,rfl⟩,(hl1.push _)⟩ ⟨#[],0,_,xAf _ P0,rfl,⟨xAg _,rfl,rfl⟩,λe he=>absurd he<|by simp⟩ (λ_ z=>absurd z<|by simp) ?hR
    case hR=>
     intro s' mv d1;obtain⟨h',g',d',tk',os'⟩:=s';have eg:g'=s.gens:=mv.gens;have ed:d'=s.drawn:=mv.drawn;have eo:os'=s.os:=mv.os;have et:s.toks<=tk':=mv.toks;subst eg;subst ed;subst eo;change wpAny _ _ _ _ _ _;refine xAe ?_;change wpAny _ _ (ret Value.none) _ _ _;refine xAe ⟨rfl,h',tk',rfl,d1,λb o e=>?_,et⟩
     ·have hb0:=xA1 e;have hb1:b≠s.heap.objs.size:=xA0 hb0;have hb2:b≠(s.heap.push<|zAx #[] 0 (.fresh 0 0 led)).objs.size:=by
       rw[Heap.size_push];exact xA0<|Nat.lt_succ_of_lt hb0
      exact mv.heap b o (by simp only[xAv,xBv,or_false,not_or];exact⟨hb1,hb2⟩)<|xAf _<|xAf _ e
   ·cases r₂ with
    |error e=>exact hr₂
    |ok fl₂ =>
     cases fl₂ with
     |ret r=>
      obtain⟨rfl,h',tk,rfl,z1,z4,z5⟩:=hr₂;repeat (any_goals (first|assumption|wp_step))
      exact h _ _ z1 z4 z5
     |_=>exact hr₂.elim
  |_=>exact hr.elim
end
end SetA
namespace L2
open PySem PySem.Spec PyProof.Rows SetA
def zHh(p:Addr)(n:Nat):HO:=HO.ext λh=>zB0 h p n
def wf{P:Program}{w:World}{H:Hp}{h:Heap}{p:Addr}{n:Nat}(S:zB0 h p n):zAc P w H h p<|zHh p n:=
 ⟨S,let ⟨_,_,_,q,_⟩:=S;⟨_,q⟩,λh1 h2 q k=>q.at' k⟩
def zHc:List V->Hp->VK->Prop:=λxs H Q=>∃(p:Addr) (ns:List Str),xs=[.ref p]/\H p=some (.tup<|ns.map V.str)/\ns.length<=4/\ns.Nodup/\∀l:Addr,H l=none->Q (.ref l) (upd H l<|zHh l ns.length)
def zHd:List V->Hp->VK->Prop:=λxs H Q=>∃p n,xs=[V.ref p]/\H p=some (zHh p n)/\n<=100000/\Q (.int n) H
section
variable{X:Cx}
def ve(hc:X.calm=true):zAl X (.type "set") zHc:=by
 intro Z s σ H xs us Q I r h;obtain⟨p,ns,rfl,hS,hl,hnd,h⟩:=h;obtain⟨u,rfl,ru⟩:=zBm r;obtain rfl:u=Value.ref p:=ru;obtain⟨its,r1,t1,z1⟩:=I.tuple<|SqT.of hS;have hlen:=r1.length;rw[xAa] at hlen;refine SetA.set_tupleZ (val:=λi=>ns.getD i Str.empty) (I.ok.hd hc) t1 (λi v hv=>?_) (λi j h1 h2=>?_) (by simp only[xAp];lia) λh' tk c1 c4 c5=>?_
 ·have hil:i<ns.length:=by
   have:=(xB7.mp hv).1;simp only[xAp] at this;lia
  obtain⟨u,e,t,ru⟩:=r1.get (i:=i) (x:=.str ns[i]) (by rw[xAw,xAk hil];rfl);rw[List.getElem?_toArray,e] at hv;cases hv;refine⟨t,?_⟩;rw[xBz,xAk hil];exact ru
 ·have hj:j<ns.length:=by
   simp only[xAp] at h2;lia
  rw[xBz,xBz,xAk hj,xAk<|Nat.lt_trans h1 hj];exact List.pairwise_iff_getElem.mp hnd i j (Nat.lt_trans h1 hj) hj h1
 ·rw[show its.toArray.size=ns.length by rw[xAp];lia] at c1;have hfr:s.heap.get? s.heap.objs.size=none:=by
   cases z:s.heap.get? s.heap.objs.size with
   |none=>rfl
   |some o=>exact absurd (xA1 z) (Nat.lt_irrefl _)
  obtain⟨hfree,I2⟩:=Inv.laidN (t':=tk) I c4 hfr<|wf c1;exact⟨.ref s.heap.objs.size,_,I2,rfl,h _ hfree⟩
def vg:zAl X (.builtin "len") zHd:=by
 intro Z s σ H xs us Q I r h;obtain⟨p,n,rfl,hS,hl,q⟩:=h;obtain⟨u,rfl,ru⟩:=zBm r;obtain rfl:u=Value.ref p:=ru;obtain⟨es,ep,t,S,rfl,hb⟩:zB0 s.heap p n:=(I.hok p _ hS).1;exact call_len_set S ⟨rfl,rfl,rfl⟩ rfl hb (by lia) ⟨.int es.size,H,I.tok _,⟨_,rfl⟩,q⟩
end
end L2
namespace Fx
open PySem PySem.Spec L2
variable{xs:List U}{n:Nat}{ys:List V}
def OpR.or{X:Cx}{f:Value->Value->Sem Value}{r r':R2}(h:OpR X f r)(h':OpR X f r'):OpR X f λx y H Q=>r x y H Q\/r' x y H Q:=by
 intro Z s σ H x y v u Q I rx ry q;rcases q with q|q
 ·exact h Z s σ H x y v u Q I rx ry q
 ·exact h' Z s σ H x y v u Q I rx ry q
def zAl.or{X:Cx}{f:Value}{r r':List V->Hp->VK->Prop}(h:zAl X f r)(h':zAl X f r'):zAl X f λxs H Q=>r xs H Q\/r' xs H Q:=by
 intro Z s σ H xs us Q I rx q;rcases q with q|q
 ·exact h Z s σ H xs us Q I rx q
 ·exact h' Z s σ H xs us Q I rx q
def SlR.or{X:Cx}{r r':V->Option Int->Option Int->Hp->VK->Prop}(h:SlR X r)(h':SlR X r'):SlR X λx a b H Q=>r x a b H Q\/r' x a b H Q:=by
 intro Z s σ H x v vl vu lo hi sl Q I rx hs pl pu q;rcases q with q|q
 ·exact h Z s σ H x v vl vu lo hi sl Q I rx hs pl pu q
 ·exact h' Z s σ H x v vl vu lo hi sl Q I rx hs pl pu q
section
variable{B:Bs}{W:Wd}{S S':So}{H:Hp}{v w z:U}{u u1 u2:V}{vs:List U}{us:List V}{Q:VK}
theorem fb(rs:RS B W S H)(rv:Rv B W v u)(h:lsT S v=some xs):∃p ys,u=.ref p/\H p=some (.lst ys)/\Rvs B W xs ys:=by
 cases v with
 |lst _=>cases h;obtain⟨p,ys,e,f,r⟩:=rv;exact⟨p,ys,e,rs.fz _ _ f,r⟩
 |ref a=>
  unfold lsT at h;dsimp only at h;obtain⟨p,rfl,hm⟩:=rv;cases e:at? S a with
  |none=>rw[e] at h;cases h
  |some o=>
   rw[e] at h;cases o <;> cases h
   obtain⟨p',g,hp,hh,ro,_⟩:=rs.here e;rw[hm] at hp;cases hp;obtain⟨ys,rfl,r⟩:=ro;exact⟨p,ys,rfl,hh,r⟩
 |_=>cases h
theorem iq(rs:RS B W S H)(rv:Rv B W v u)(h:lsU S v=some xs):∃p ys,u=.ref p/\SqL B.K H p ys/\Rvs B W xs ys:=by
 cases v with
 |kl _=>cases h;obtain⟨p,ys,e,f,r⟩:=rv;exact⟨p,ys,e,fR rs.fz f,r⟩
 |lst _=>obtain⟨p,ys,e,f,r⟩:=fb (S:=S) rs rv (xs:=xs) h;exact⟨p,ys,e,.of f,r⟩
 |ref a=>obtain⟨p,ys,e,f,r⟩:=fb (S:=S) rs rv (xs:=xs) h;exact⟨p,ys,e,.of f,r⟩
 |_=>cases h
theorem gi(rs:RS B W S H)(rv:Rv B W v u)(h:sqU S v=some xs):∃p ys,u=.ref p/\(SqL B.K H p ys\/SqT B.K H p ys)/\Rvs B W xs ys:=by
 cases v with
 |tup _=>cases h;obtain⟨p,ys,e,f,r⟩:=rv;exact⟨p,ys,e,.inr<|.of<|rs.fz _ _ f,r⟩
 |kt _=>cases h;obtain⟨p,ys,e,f,r⟩:=rv;exact⟨p,ys,e,.inr<|f H,r⟩
 |kl _=>obtain⟨p,ys,e,f,r⟩:=iq (S:=S) rs rv (xs:=xs) h;exact⟨p,ys,e,.inl f,r⟩
 |lst _=>obtain⟨p,ys,e,f,r⟩:=iq (S:=S) rs rv (xs:=xs) h;exact⟨p,ys,e,.inl f,r⟩
 |ref a=>obtain⟨p,ys,e,f,r⟩:=iq (S:=S) rs rv (xs:=xs) h;exact⟨p,ys,e,.inl f,r⟩
 |_=>cases h
def VL.here(h:VL B W Q z S)(rs:RS B W S H)(rv:Rv B W z u):Q u H:=h W u H .refl rs rv
theorem VL.tup(h:VL B W Q (.tup vs) S)(rs:RS B W S H)(rv:Rvs B W vs us){p:Addr}(e:H p=none):Q (.ref p)<|upd H p<|.tup us:=by
 obtain⟨le,rs'⟩:=rs.fresh (o:=.tup us) e;exact h _ _ _ le rs' ⟨p,us,rfl,dg,rv.mono le⟩
theorem ip{m:Bool}(e:mkL m vs S=.ok z S')(h:VL B W Q z S')(rs:RS B W S H)(rv:Rvs B W vs us){p:Addr}(hp:H p=none):Q (.ref p)<|upd H p<|.lst us:=by
 cases m with
 |true=>
  cases e;have le:W.Le {W with μ:=W.μ++[p]}:=⟨λ_ _ h=>h,λ_ _ h=>eR h,rfl⟩
  obtain⟨_,rs',ha⟩:=rs.push (o:=.lst vs) (h:=.lst us) hp ⟨us,rfl,rv.mono le⟩;exact h _ _ _ le rs' ⟨p,rfl,ha⟩
 |false=>
  cases e;obtain⟨le,rs'⟩:=rs.fresh (o:=.lst us) hp;exact h _ _ _ le rs' ⟨p,us,rfl,dg,rv.mono le⟩
def eK{r:Res}(h:fits n r=.ok z S'):n<=sizeLine/\r=.ok z S':=by
 unfold fits at h;split at h
 ·next e=>exact⟨xCo e,h⟩
 ·cases h
def nE(r:Rvs B W xs ys)(lo hi:Option Int):Rvs B W (zCj xs lo hi)<|zDv ys lo hi:=by
 unfold zCj zDv;rw[r.length];exact(r.drop _).take _
def jM(f:zAq v=true)(r:Rv B W v u):zBk u=true:=by
 cases v <;> first|(cases f;done)|(rw[show u=_ from r];rfl)
theorem kI:∀{vs:List U}{us:List V},vs.all zAq=true->Rvs B W vs us->us.all zBk=true
 |[],_,_,r=>by rw[show _=[] from r];rfl
 |x::xs,_,f,r=>by
  obtain⟨v,t,rfl,h1,h2⟩:=r;rw[xCj,xCh] at f;rw[xCj,jM f.1 h1,kI f.2 h2];rfl
def yv(fv:zAq v=true)(fw:zAq w=true)(r1:Rv B W v u1)(r2:Rv B W w u2):eqV u1 u2=eqF v w:=by
 cases v <;> first|(cases fv;done)|(cases w <;> first|(cases fw;done)|(rw[show u1=_ from r1,show u2=_ from r2];rfl))
theorem nK(f:zAq v=true)(r:Rv B W v u):∀{vs:List U}{us:List V},vs.all zAq=true->Rvs B W vs us->inV u us=zB5 v vs
 |[],_,_,q=>by rw[show _=[] from q];rfl
 |x::xs,_,g,q=>by
  obtain⟨y,t,rfl,h1,h2⟩:=q;rw[xCj,xCh] at g;show(eqV y u||inV u t)=_;rw[nK f r g.2 h2,yv g.1 f h1 r];rfl
theorem yM(r:Rvs B W xs ys){i:Int}(h:atI xs i=some v):∃y,atI ys i=some y/\Rv B W v y:=by
 unfold atI at h⊢;rw[r.length];cases e:ixN xs.length i with
 |none=>rw[e] at h;cases h
 |some j=>rw[e] at h;exact r.get h
theorem jn{k:Key}:∀{kvs:List<|Key×U}{vs:List<|Key×V},Rn B W kvs vs->(∀v,zBb k kvs=some v->∃u,zCm vs k=some u/\Rv B W v u)/\(zBb k kvs=none->zCm vs k=none)
 |[],_,r=>by rw[show _=[] from r];exact⟨(λv h=>nomatch h),λ_=>rfl⟩
 |(j,x)::t,_,r=>by
  obtain⟨v,q,rfl,h1,h2⟩:=r;by_cases e:j=k
  ·subst e;rw[fV rfl];unfold zBb;rw[xCg rfl];exact⟨λv' h=>by cases h;exact⟨v,rfl,h1⟩,(λh=>nomatch h)⟩
  ·rw[fW e];unfold zBb;rw[xCf e];exact jn h2
def jG{k:Key}(h:zFg v=some k)(r:Rv B W v u):u=kV k:=by
 cases v <;> first|(cases h;exact r)|(cases h;done)
theorem ff{f:U->U->Bool}{R:V->V->Prop}(hf:∀x y a b,f x y=true->Rv B W x a->Rv B W y b->R a b):∀{xs ys:List U}{as bs:List V},zA9 f xs ys=true->Rvs B W xs as->Rvs B W ys bs->as.length=bs.length/\∀(j:Nat)(x y:V),as[j]?=some x->bs[j]?=some y->R x y
 |[],[],_,_,_,r,q=>by rw[show _=[] from r,show _=[] from q];exact⟨rfl,λj x y h=>by simp at h⟩
 |[],_::_,_,_,h,_,_=>by cases h
 |_::_,[],_,_,h,_,_=>by cases h
 |x::xs,y::ys,_,_,h,r,q=>by
  obtain⟨a,t,rfl,r1,r2⟩:=r;obtain⟨b,t',rfl,q1,q2⟩:=q;unfold zA9 at h;rw[xCh] at h;obtain⟨l,z⟩:=ff hf h.2 r2 q2;refine⟨by simp[l],λj x' y' e1 e2=>?_⟩;cases j with
  |zero=>simp at e1 e2;subst e1 e2;exact hf _ _ _ _ h.1 r1 q1
  |succ j=>exact z j x' y' (by simpa using e1) (by simpa using e2)
def lQ{c:Bool}(h:eqS v w=some c)(r1:Rv B W v u1)(r2:Rv B W w u2):scal u1 u2=true/\decide (u1=u2)=c:=by
 obtain⟨a,h1,h⟩:=xCi.mp h;obtain⟨b,h2,h⟩:=xCi.mp h;rw[y9 h1] at r1;rw[y9 h2] at r2;cases a <;> cases b <;> first|(rw[show u1=_ from r1,show u2=_ from r2];refine⟨rfl,?_⟩;cases h;first|rfl|simp)|(cases h;done)
def gk(h:(zAq v&&zAq w&&eqS v w==some true)=true)(r1:Rv B W v u1)(r2:Rv B W w u2):Al H n u1 u2:=by
 simp only[xCh,beq_iff_eq] at h;obtain⟨⟨f1,f2⟩,e⟩:=h;have:u1=u2:=xBe (lQ e r1 r2).2;subst this;exact .flat<|jM f1 r1
theorem gK(rs:RS B W S H):∀{n:Nat}{v w:U}{u1 u2:V},same S n v w=true->Rv B W v u1->Rv B W w u2->Al H n u1 u2
 |0,v,w,u1,u2,h,r1,r2=>gk (by unfold same at h;exact h) r1 r2
 |n+1,v,w,u1,u2,h,r1,r2=>by
  have key:(match lsT S v,lsT S w with
   |some xs,some ys=>zA9 (same S n) xs ys
   |_,_=>zAq v&&zAq w&&eqS v w==some true)=true->Al H (n+1) u1 u2:=λh=>by
   cases e1:lsT S v with
   |none=>rw[e1] at h;exact gk h r1 r2
   |some xs=>
    cases e2:lsT S w with
    |none=>rw[e1,e2] at h;exact gk h r1 r2
    |some ys=>
     rw[e1,e2] at h;obtain⟨p,as,rfl,hp,q1⟩:=fb rs r1 e1;obtain⟨p',bs,rfl,hp',q2⟩:=fb rs r2 e2;obtain⟨l,z⟩:=ff (λx y a b hs ra rb=>gK rs hs ra rb) h q1 q2;exact .lst hp hp' l z
  unfold same at h;cases v <;> first | exact key h | (cases w <;> first | exact key h | (
   obtain⟨p,as,rfl,f1,q1⟩:=r1;obtain⟨p',bs,rfl,f2,q2⟩:=r2;obtain⟨l,z⟩:=ff (λx y a b hs ra rb=>gK rs hs ra rb) h q1 q2;exact .tup (rs.fz _ _ f1) (rs.fz _ _ f2) l z))
end
end Fx
namespace Fx
open PySem PySem.Spec L2 PyProof.Rows
variable{S:So}{H:Hp}{w:U}{u1 u2:V}{b:Bool}{Q:VK}
def Pr2(B:Bs)(up:List<|Str×Str)(p:Pm)(r:R2):Prop:=∀{W:Wd}{S:So}{H:Hp}{v w:U}{u1 u2:V}{z:U}{S':So}{Q:VK},RS B W S H->Rv B W v u1->Rv B W w u2->pr up p [v,w] S=.ok z S'->VL B W Q z S'->r u1 u2 H Q
def PrN(B:Bs)(up:List<|Str×Str)(p:Pm)(r:List V->Hp->VK->Prop):Prop:=∀{W:Wd}{S:So}{H:Hp}{vs:List U}{us:List V}{z:U}{S':So}{Q:VK},RS B W S H->Rvs B W vs us->pr up p vs S=.ok z S'->VL B W Q z S'->r us H Q
section
variable{B:Bs}{up:List<|Str×Str}
def rOr(r r':R2):R2:=λx y H Q=>r x y H Q\/r' x y H Q
def zIa(K:xFr):R2:=rOr (rI0 λi j=>.int<|i+j)<|rOr (zE5 K) zH9
def zO{m:Bool}:Pr2 B up (.add m)<|zIa B.K:=by
 intro W S H v w u1 u2 z S' Q rs r1 r2 h q;change zHg m v w S=_ at h;unfold zHg at h;split at h
 ·cases h;exact .inl ⟨_,_,r1,r2,q.here rs rfl⟩
 ·obtain⟨hl,e⟩:=eK h;cases e;obtain⟨p,xs,rfl,f1,q1⟩:=r1;obtain⟨p',ys,rfl,f2,q2⟩:=r2;refine .inr<|.inl ⟨p,p',xs,ys,rfl,rfl,rs.fz _ _ f1,rs.fz _ _ f2,by rw[q1.length,q2.length];exact hl,λp2 H2 sm hp=>?_⟩;obtain⟨le,rs2⟩:=(rs.same sm).addT hp;exact q _ _ _ le rs2 ⟨p2,_,rfl,dg,(q1.app q2).mono le⟩
 ·split at h
  ·next e1 e2=>
   obtain⟨hl,e⟩:=eK h;obtain⟨p,xs,rfl,f1,q1⟩:=fb rs r1 e1;obtain⟨p',ys,rfl,f2,q2⟩:=fb rs r2 e2;exact .inr<|.inr ⟨p,p',xs,ys,rfl,rfl,f1,f2,by rw[q1.length,q2.length];exact hl,λp2 hp=>ip e q rs (q1.app q2) hp⟩
  ·cases h
def zV{X:Cx}:OpR X (binaryOp .Add)<|zIa X.K:=OpR.or xB<|OpR.or uk xA
def ni{f:Int->Int->U}{vs:List U}{z:U}{S':So}(h:i2 f S vs=.ok z S'):∃i j,vs=[.int i,.int j]/\z=f i j/\S'=S:=by
 unfold i2 at h;split at h
 ·cases h;exact⟨_,_,rfl,rfl,rfl⟩
 ·cases h
def qE{p:Pm}{f:Int->Int->U}{g:Int->Int->V}(hp:∀vs S,pr up p vs S=i2 f S vs)(hf:∀W i j,Rv B W (f i j)<|g i j):Pr2 B up p<|rI0 g:=by
 intro W S H v w u1 u2 z S' Q rs r1 r2 h q;rw[hp] at h;obtain⟨i,j,e,rfl,rfl⟩:=ni h;cases e;exact⟨i,j,r1,r2,q.here rs<|hf _ _ _⟩
def zx:Pr2 B up .sub<|rI0 λi j=>.int<|i-j:=qE (f:=λi j=>.int<|i-j) (λ_ _=>rfl) λ_ _ _=>rfl
def zH:Pr2 B up .lt<|rI0 λi j=>.bl<|decide<|i<j:=qE (f:=λi j=>.bl<|decide<|i<j) (λ_ _=>rfl) λ_ _ _=>rfl
def zJ:Pr2 B up .le<|rI0 λi j=>.bl<|decide<|i<=j:=qE (f:=λi j=>.bl<|decide<|i<=j) (λ_ _=>rfl) λ_ _ _=>rfl
def zK:Pr2 B up .gt<|rI0 λi j=>.bl<|decide<|j<i:=qE (f:=λi j=>.bl<|decide<|j<i) (λ_ _=>rfl) λ_ _ _=>rfl
def zL:Pr2 B up .ge<|rI0 λi j=>.bl<|decide<|j<=i:=qE (f:=λi j=>.bl<|decide<|j<=i) (λ_ _=>rfl) λ_ _ _=>rfl
def lX{C:Int->Int->Prop} [∀i j,Decidable<|C i j] {f:Int->Int->U} {S:So} {vs:List U} {z:U} {S':So} (h:(match vs with
  |[.int i,.int j]=>match decide (C i j) with
   |true=>Res.ok (f i j) S
   |false=>.stuck
  |_=>.stuck)=.ok z S'):∃i j,vs=[.int i,.int j]/\C i j/\z=f i j/\S'=S:=by
 split at h
 ·split at h
  ·next e=>cases h;exact⟨_,_,rfl,xBe e,rfl,rfl⟩
  ·cases h
 ·cases h
def fC{i:Int}{n:Nat}(h:i.natAbs<2^n):Builtin.Int.intBits i<=n:=by
 unfold Builtin.Int.intBits;by_cases e:i=0
 ·subst e;simp
 ·have h0:i.natAbs≠0:=by lia
  have:=(Nat.log2_lt h0).mpr h;split <;> lia
theorem Rvs.reps{W:Wd}{xs:List U}{ys:List V}(r:Rvs B W xs ys):∀n:Nat,Rvs B W (List.replicate n xs).flatten (List.replicate n ys).flatten
 |0=>rfl
 |n+1=>by rw[List.replicate_succ,List.replicate_succ,List.flatten_cons,List.flatten_cons];exact r.app<|r.reps n
def zD:Pr2 B up .mul<|rOr (rI (λi j=>IntMulOk i j) λi j=>.int<|i*j) zH0:=by
 intro W S H v w u1 u2 z S' Q rs r1 r2 h q;cases v <;> try (cases h;done)
 ·cases w <;> try (cases h;done)
  next i j=>
  delta pr at h;dsimp only at h;split at h
  ·next hc=>
   cases h;have hc:=xBe hc;refine .inl ⟨i,j,r1,r2,?_,q.here rs rfl⟩;rcases hc with ⟨h1,h2⟩|h1|h1
   ·have a:=fC h1;have b:=fC h2;unfold IntMulOk;have:Builtin.Int.intTooBig (Builtin.Int.intBits i+Builtin.Int.intBits j)=false:=by
     unfold Builtin.Int.intTooBig bitsLine;exact xCn (by lia)
    rw[this];simp
   ·exact .of_right (xCk (fC h1)<|by lia)
   ·exact .of_left (xCk (fC h1)<|by lia)
  ·cases h
 ·cases w <;> try (cases h;done)
  next xs j=>
  delta pr at h;dsimp only at h;split at h
  ·next hc=>
   obtain⟨h0,h1⟩:=xBe hc;obtain⟨hl,e⟩:=eK h;obtain⟨p,ys,rfl,f,r⟩:=fb rs r1<|show lsT S (.lst xs)=some xs from rfl;exact .inr ⟨p,j,ys,rfl,r2,f,by lia,by lia,by rw[r.length];exact hl,λp2 hp=>ip (m:=false) e q rs (r.reps j.toNat) hp⟩
  ·cases h
def xo:Pr2 B up .fdiv<|rI zF0 λi j=>.int<|i / j:=by
 intro W S H v w u1 u2 z S' Q rs r1 r2 h q;obtain⟨i,j,e,hc,rfl,rfl⟩:=lX (C:=λi j=>0<j/\j<=10^18) (f:=λi j=>.int<|i / j) h;cases e;exact⟨i,j,r1,r2,hc,q.here rs rfl⟩
def zE:Pr2 B up .mod<|rI (λ_ j=>0<j) λi j=>.int<|i%j:=by
 intro W S H v w u1 u2 z S' Q rs r1 r2 h q;obtain⟨i,j,e,hc,rfl,rfl⟩:=lX (C:=λi j=>0<j) (f:=λi j=>.int<|i%j) h;cases e;exact⟨i,j,r1,r2,hc,q.here rs rfl⟩
def zy:Pr2 B up .pow<|rI zI5 λi j=>.int<|i^j.toNat:=by
 intro W S H v w u1 u2 z S' Q rs r1 r2 h q;obtain⟨i,j,e,hc,rfl,rfl⟩:=lX (C:=λi j=>0<=j/\j<=1000/\i.natAbs<2^60) (f:=λi j=>.int<|i^j.toNat) h;cases e;exact⟨i,j,r1,r2,⟨hc.1,by lia,Nat.lt_trans hc.2.2<|by decide⟩,q.here rs rfl⟩
def zH8:R2:=rOr rEq<|rOr (rAl true)<|zEh true
def zH2:R2:=rOr rNe<|rOr (rAl false)<|zEh false
def j9{W:Wd}{v:U}(rs:RS B W S H)(r1:Rv B W v u1)(r2:Rv B W w u2)(hn:eqS v w=none)(h:same S 20 v w=true)(q:Q (.bl b) H):rOr (rAl b) (zEh b) u1 u2 H Q:=by
 have key:(match lsT S v,lsT S w with
   |some xs,some ys=>zA9 (same S 19) xs ys
   |_,_=>zAq v&&zAq w&&eqS v w==some true)=true->rOr (rAl b) (zEh b) u1 u2 H Q:=λh=>by
  cases e1:lsT S v with
  |none=>rw[e1,hn] at h;simp at h
  |some xs=>
   cases e2:lsT S w with
   |none=>rw[e1,e2,hn] at h;simp at h
   |some ys=>
    rw[e1,e2] at h;obtain⟨p,as,rfl,hp,q1⟩:=fb rs r1 e1;obtain⟨p',bs,rfl,hp',q2⟩:=fb rs r2 e2;obtain⟨l,z⟩:=ff (λx y a b hs ra rb=>gK rs hs ra rb) h q1 q2;exact .inr ⟨p,p',as,bs,19,rfl,rfl,hp,hp',l,by decide,z,q⟩
 unfold same at h;cases v <;> first | exact key h | (cases w <;> first | exact key h | (
  obtain⟨p,as,rfl,f1,q1⟩:=r1;obtain⟨p',bs,rfl,f2,q2⟩:=r2;obtain⟨l,z⟩:=ff (λx y a b hs ra rb=>gK rs hs ra rb) h q1 q2;exact .inl ⟨p,p',as,bs,19,rfl,rfl,rs.fz _ _ f1,rs.fz _ _ f2,l,by decide,z,q⟩))
def Be:Pr2 B up .eq zH8:=by
 intro W S H v w u1 u2 z S' Q rs r1 r2 h q;change eqU id v w S=_ at h;unfold eqU at h;split at h
 ·next c e=>
  cases h;obtain⟨a,b⟩:=lQ e r1 r2;exact .inl ⟨a,by rw[b];exact q.here rs rfl⟩
 ·next e=>
  split at h
  ·next e2=>cases h;exact .inr<|j9 rs r1 r2 e e2<|q.here rs rfl
  ·cases h
def Ba:Pr2 B up .ne zH2:=by
 intro W S H v w u1 u2 z S' Q rs r1 r2 h q;change eqU not v w S=_ at h;unfold eqU at h;split at h
 ·next c e=>
  cases h;obtain⟨a,b⟩:=lQ e r1 r2;exact .inl ⟨a,by rw[b];exact q.here rs rfl⟩
 ·next e=>
  split at h
  ·next e2=>cases h;exact .inr<|j9 rs r1 r2 e e2<|q.here rs rfl
  ·cases h
def Bi{X:Cx}(hu:X.A.units+40<cLine):OpR X (compareOp .Eq) zH8:=OpR.or zR<|OpR.or (ur hu)<|qP hu
def Bg{X:Cx}(hu:X.A.units+40<cLine):OpR X (compareOp .NotEq) zH2:=OpR.or zQ<|OpR.or (uo hu)<|qM hu
def zJq(n:Bool):R2:=λx y H Q=>∃i j,x=.str i/\y=.str j/\Q (.bl<|if n then !(!(Builtin.Str.occurrences j i 0 j.length 1).isEmpty) else !(Builtin.Str.occurrences j i 0 j.length 1).isEmpty) H
def zGu(n:Bool):R2:=λy x H Q=>∃a o,x=.ref a/\zEl H a y o/\Q (.bl<|if n then !o.isSome else o.isSome) H
def zEg(K:xFr)(n:Bool):R2:=rOr (rIn K n)<|rOr (zJq n)<|zGu n
def rh{W:Wd}{v:U}{n:Bool}(rs:RS B W S H)(r1:Rv B W v u1)(r2:Rv B W w u2)(h:inU S v w=some b)(q:Q (.bl<|if n then !b else b) H):zEg B.K n u1 u2 H Q:=by
 have seq:∀xs,sqU S w=some xs->(if zAq v&&xs.all zAq then some (zB5 v xs) else none)=some b->zEg B.K n u1 u2 H Q:=λxs e h=>by
  split at h
  ·next hf=>
   rw[xCh] at hf;cases h;obtain⟨p,ys,rfl,sq,rr⟩:=gi rs r2 e;refine .inl ⟨p,ys,rfl,sq,jM hf.1 r1,kI hf.2 rr,?_⟩;rw[nK hf.1 r1 hf.2 rr];exact q
  ·cases h
 unfold inU at h;split at h
 ·split at h
  ·cases h;exact .inr<|.inl ⟨_,_,r1,r2,q⟩
  ·cases h
 ·next a=>
  split at h
  ·next kvs e=>
   obtain⟨p,g,hm,hh,ro,_⟩:=rs.here e;obtain⟨p',e2,hm'⟩:=r2;rw[hm] at hm';cases hm';obtain⟨ks,rfl,rn⟩:=ro;cases ek:zFg v with
   |none=>rw[ek] at h;cases h
   |some k=>
    rw[ek] at h;have hb:(zBb k kvs).isSome=b:=xB3 h;refine .inr<|.inr ⟨p,zCm ks k,e2,.inl ⟨ks,k,.inl hh,jG ek r1,rfl⟩,?_⟩;have:(zCm ks k).isSome=b:=by
     obtain⟨h1,h2⟩:=jn (k:=k) rn;rw[<- hb];cases z:zBb k kvs with
     |none=>rw[h2 z];rfl
     |some y=>obtain⟨y',e3,_⟩:=h1 y z;rw[e3];rfl
    rw[this];exact q
  ·next xs e=>exact seq xs (by show lsU S (.ref a)=_;unfold lsU;dsimp only;rw[e]) h
  ·cases h
 ·split at h
  ·next xs e=>exact seq xs e h
  ·cases h
def Bc:Pr2 B up .inn<|zEg B.K false:=by
 intro W S H v w u1 u2 z S' Q rs r1 r2 h q;change obB (inU S v w) id S=_ at h;unfold obB at h;split at h
 ·next b e=>cases h;exact rh rs r1 r2 e<|q.here rs rfl
 ·cases h
def zC:Pr2 B up .nin<|zEg B.K true:=by
 intro W S H v w u1 u2 z S' Q rs r1 r2 h q;change obB (inU S v w) not S=_ at h;unfold obB at h;split at h
 ·next b e=>cases h;exact rh rs r1 r2 e<|q.here rs rfl
 ·cases h
def xz{X:Cx}(hu:X.A.units+1<cLine):OpR X (compareOp .In)<|zGu false:=by
 intro Z s σ H x y v u Q I rx ry ⟨a,o,e,g,q⟩;subst e;obtain rfl:u=Value.ref a:=ry;exact Bz hu I g rx λs3 I3=>⟨.bl o.isSome,H,I3,rfl,q⟩
def um{X:Cx}(hu:X.A.units+1<cLine):OpR X (compareOp .NotIn)<|zGu true:=by
 intro Z s σ H x y v u Q I rx ry ⟨a,o,e,g,q⟩;subst e;obtain rfl:u=Value.ref a:=ry;exact vd hu I g rx λs3 I3=>⟨.bl (!o.isSome),H,I3,rfl,q⟩
def Bh{X:Cx}(hu:X.A.units+1<cLine):OpR X (compareOp .In)<|zEg X.K false:=OpR.or ox<|OpR.or ow<|xz hu
def zU{X:Cx}(hu:X.A.units+1<cLine):OpR X (compareOp .NotIn)<|zEg X.K true:=OpR.or jB<|OpR.or jA<|um hu
def zH7:R2:=λx y H Q=>∃a v,x=.ref a/\zEl H a y (some v)/\Q v H
def uL{X:Cx}(hu:X.A.units+1<cLine):IxR X zH7:=by
 intro value slice Z s σ H x y v u Q I rx ry ⟨a,w,e,g,q⟩ hs;subst e;obtain rfl:v=Value.ref a:=rx;have hT:=kR I g;unfold subscriptTail;refine xAd ?_;rw[getitemInPython_of_ne hT.not_modules];refine xAd<|wpAny_specialOf hT PySem.F.slot_dict_getitem.lookup ?_;have fin:wpAny (model X.prog X.w) X.A (subscripted slice false (.ref a) u) (λr s₃=>wpAny (model X.prog X.w) X.A (letTemporaryGo value (.ref a) r>>=λ_=>pure r) (EP X Z σ Q) X.xe s₃) X.xe s:=by
  rw[hs];exact wpAny_operating<|oQ hu I g ry λw' s3 I3 rw'=>xAd<|wpAny_letTemporaryGo<|xAe ⟨w,H,I3,rw',q⟩
 first
  |exact xAe (xAd fin)
  |exact xAd (xAe<|xAd fin)
  |exact xAd fin
def zH6(w:World)(K:xFr):R2:=λx y H Q=>∃a z v u,x=.ref a/\KD w K a/\y=.str z/\PySem.W.nsIn K a z=some (some u)/\zAi v u/\Q v H
def Ae{X:Cx}:IxR X<|zH6 X.w X.K:=by
 intro value slice Z s σ H x y v u Q I rx ry ⟨a,z,w,uu,e,⟨es,n,hl,hk,lo⟩,e2,hn,rw',q⟩ hs;subst e e2;obtain rfl:v=Value.ref a:=rx;obtain⟨t,rfl⟩:=ry;have hm:=PySem.W.mapOf_K (prog:=X.prog) (w:=X.w) (λb o e=>I.kIn b o e) hl hk;have hT:=hm.typeIs;unfold subscriptTail;refine xAd ?_;rw[getitemInPython_of_ne hT.not_modules];refine xAd<|wpAny_specialOf hT PySem.F.slot_dict_getitem.lookup ?_;have fin:wpAny (model X.prog X.w) X.A (subscripted slice false (.ref a)<|.str z t) (λr s₃=>wpAny (model X.prog X.w) X.A (letTemporaryGo value (.ref a) r>>=λ_=>pure r) (EP X Z σ Q) X.xe s₃) X.xe s:=by
  rw[hs];exact wpAny_operating<|wpAny_getItem_of (strKind_is X.prog X.w z t) hm (PySem.W.find_K hl hn)<|xAd<|wpAny_letTemporaryGo<|xAe ⟨w,H,I.tok _,rw',q⟩
 first
  |exact xAe (xAd fin)
  |exact xAd (xAe<|xAd fin)
  |exact xAd fin
def zE4(w:World)(K:xFr):R2:=λx y H Q=>(rIx K x y H Q\/zH7 x y H Q)\/zH6 w K x y H Q
def A0{X:Cx}(hu:X.A.units+1<cLine):IxR X<|zE4 X.w X.K:=(xW.or<|uL hu).or Ae
end
end Fx
namespace Fx
open PySem PySem.Spec L2
open PyProof.Rows hiding St
variable{t':TT}{S:So}{σ:Sg}{τ:St}{H:Hp}{Q:VK}{k np:Nat}{op op':CmpOp}{p q:Pm}{r':R2}{us dvs ys:List V}{f' c':Addr}{fd:FuncData}{ps ks:List Str}{dus xs:List U}{kx:List<|Option Expr}{name:Str}{kvs:List<|Str×U}
structure FE(X:Cx)(B:Bs)(G:Gx Prop)(Ex:St->XK)(e:Expr)(c:TEx Prop):Prop where
 p:PE X e (LE B G Ex c)
 m:zAt G c
structure FA(X:Cx)(B:Bs)(G:Gx Prop)(Ex:St->XK)(es:List Expr)(c:TAx Prop):Prop where
 p:PA X es (LA B G Ex c)
 m:zCc G c es.length
structure FT(X:Cx)(B:Bs)(G:Gx Prop)(Ex:St->XK)(e:Expr)(c:TTx Prop):Prop where
 p:PT X e (LT B G Ex c)
 m:zBl G c
structure FS(X:Cx)(B:Bs)(G:Gx Prop)(Ex:St->XK)(s:Stmt)(c:TSx Prop):Prop where
 p:PS X s (LS B G Ex c)
 m:zBr G c
structure FSs(X:Cx)(B:Bs)(G:Gx Prop)(Ex:St->XK)(s:List Stmt)(c:TSx Prop):Prop where
 p:PSs X s (LS B G Ex c)
 m:zBr G c
section
variable{X:Cx}{e:Expr}{es:List Expr}{st:Stmt}{sts:List Stmt}
def wkE{t t':TE}(h:PE X e t)(w:∀σ H Q,t' σ H Q->t σ H Q):PE X e t':=λZ s σ H Q I q=>h Z s σ H Q I<|w _ _ _ q
def wkA{t t':TA}(h:PA X es t)(w:∀σ H Q,t' σ H Q->t σ H Q):PA X es t':=λpos Z s σ H Q I q=>h pos Z s σ H Q I<|w _ _ _ q
def wkT{t:TT}(h:PT X e t)(w:∀σ H Q,t' σ H Q->t σ H Q):PT X e t':=λZ s σ H Q I q=>h Z s σ H Q I<|w _ _ _ q
def wkS{t t':TS}(h:PS X st t)(w:∀D σ H,t' D σ H->t D σ H):PS X st t':=λZ s σ H D I q=>h Z s σ H D I<|w _ _ _ q
def zHr{t t':TS}(h:PSs X sts t)(w:∀D σ H,t' D σ H->t D σ H):PSs X sts t':=λZ s σ H D I q=>h Z s σ H D I<|w _ _ _ q
end
section
variable{B:Bs}{up:List<|Str×Str}{G:Gx Prop}{Ex:St->XK}{τ:St}{H:Hp}{Q:VK}{W W':Wd}{c a b:TEx Prop}{as:TAx Prop}{n:Nat}{p:Pm}
def VL.inc{v:U}(le:W.Le W')(h:VL B W Q v S):VL B W' Q v S:=λW2 u H le2=>h W2 u H<|le.trans le2
def NL.inc{Q:St->Hp->Prop}{v:Sg}(le:W.Le W')(h:NL B W Q v S):NL B W' Q v S:=λW2 u H le2=>h W2 u H<|le.trans le2
theorem LEe.inc{D:zDe}(le:W.Le W'):zDd (LEe B Ex W D)<|LEe B Ex W' D:=⟨λ_ _=>NL.inc le,λ_ _=>VL.inc le,λ_ _=>NL.inc le,λ_ _=>NL.inc le,λ_ _ _ h W2 τ C dx H le2=>h W2 τ C dx H<|le.trans le2⟩
def LE.go{k:Kv Prop}(m:zAt G c)(rs:RS B W S H)(rg:Rg B W σ τ)(h:c G σ S (XL B W<|Ex τ) k)(hk:∀v S' W' u H',W.Le W'->RS B W' S' H'->Rv B W' v u->Rg B W' σ τ->k v S'->Q u H'):LE B G Ex c τ H Q:=
 ⟨W,σ,S,rs,rg,m.m (λ_ _ h=>h) (λv S' h' W' u H' le rs' rv=>hk v S' W' u H' le rs' rv (rg.mono le) h') h⟩
def LA.go{k:List U->So->Prop}{Q:List V->Hp->Prop}(m:zCc G as n)(rs:RS B W S H)(rg:Rg B W σ τ)(h:as G σ S (XL B W<|Ex τ) k)(hk:∀v S' W' u H',v.length=n->W.Le W'->RS B W' S' H'->Rvs B W' v u->Rg B W' σ τ->k v S'->Q u H'):LA B G Ex as τ H Q:=
 ⟨W,σ,S,rs,rg,m.m (λ_ _ h=>h) (λv S' hl h' W' u H' le rs' rv=>hk v S' W' u H' hl le rs' rv (rg.mono le) h') h⟩
def LT.go{t:TTx Prop}{k:Bool->So->Prop}{Q:Bool->Hp->Prop}(m:zBl G t)(rs:RS B W S H)(rg:Rg B W σ τ)(h:t G σ S (XL B W<|Ex τ) k)(hk:∀v S' W' H',W.Le W'->RS B W' S' H'->Rg B W' σ τ->k v S'->Q v H'):LT B G Ex t τ H Q:=
 ⟨W,σ,S,rs,rg,m.m (λ_ _ h=>h) (λv S' h' W' H' le rs'=>hk v S' W' H' le rs' (rg.mono le) h') h⟩
def XL.upf(le:W.Le W')(E:XK):∀e S,XL B W E e S->XL B W' E e S:=λ_ _=>XL.up le
def K1(B:Bs)(up:List<|Str×Str)(p:Pm)(Q:VK):VK:=λu H=>∃W S v z S',RS B W S H/\Rv B W v u/\pr up p [v] S=.ok z S'/\VL B W Q z S'
def K2(B:Bs)(up:List<|Str×Str)(p:Pm)(Q:VK):V->V->Hp->Prop:=λu1 u2 H=>∃W S v w z S',RS B W S H/\Rv B W v u1/\Rv B W w u2/\pr up p [v,w] S=.ok z S'/\VL B W Q z S'
def KN(B:Bs)(up:List<|Str×Str)(p:Pm)(Q:VK):List V->Hp->Prop:=λus H=>∃W S vs z S',RS B W S H/\Rvs B W vs us/\pr up p vs S=.ok z S'/\VL B W Q z S'
variable(g:zBs up G)
include g
theorem LE.p1(ma:zAt G a)(h:LE B G Ex (cP p<|aC a aN) τ H Q):LE B G Ex a τ H<|K1 B up p Q:=by
 obtain⟨W,σ,S,rs,rg,h⟩:=h;refine LE.go ma rs rg h λv S' W' u H' le rs' rv rg' h'=>?_;obtain⟨z,S2,e,q⟩:=g.pok h';exact⟨W',S',v,z,S2,rs',rv,e,q.inc le⟩
theorem LE.p2(ma:zAt G a)(mb:zAt G b)(h:LE B G Ex (cP p<|zAp a b) τ H Q):LE B G Ex a τ H λx H1=>LE B G Ex b τ H1 λy H2=>K2 B up p Q x y H2:=by
 obtain⟨W,σ,S,rs,rg,h⟩:=h;refine LE.go ma rs rg h λv S' W' u H' le rs' rv rg' h'=>?_;refine LE.go mb rs' rg' (mb.m (XL.upf le _) (λ_ _ h=>h) h') λw S2 W2 u2 H2 le2 rs2 rv2 _ h2=>?_;obtain⟨z,S3,e,q⟩:=g.pok h2;exact⟨W2,S2,v,w,z,S3,rs2,rv.mono le2,rv2,e,q.inc<|le.trans le2⟩
theorem LE.pn(ma:zCc G as n)(h:LE B G Ex (cP p as) τ H Q):LA B G Ex as τ H<|KN B up p Q:=by
 obtain⟨W,σ,S,rs,rg,h⟩:=h;refine LA.go ma rs rg h λv S' W' u H' _ le rs' rv rg' h'=>?_;obtain⟨z,S2,e,q⟩:=g.pok h';exact⟨W',S',v,z,S2,rs',rv,e,q.inc le⟩
end
section
variable{B:Bs}{up:List<|Str×Str}{G:Gx Prop}{Ex:St->XK}{c a b:TEx Prop}{as:TAx Prop}{t u:TTx Prop}
def LE.imp{Q':VK}(m:zAt G c)(h:LE B G Ex c τ H Q)(hq:∀u H,Q u H->Q' u H):LE B G Ex c τ H Q':=by
 obtain⟨W,σ,S,rs,rg,h⟩:=h;exact⟨W,σ,S,rs,rg,m.m (λ_ _ h=>h) (λv S h W' u H le rs rv=>hq _ _<|h W' u H le rs rv) h⟩
def LA.imp{n:Nat}{Q Q':List V->Hp->Prop}(m:zCc G as n)(h:LA B G Ex as τ H Q)(hq:∀u H,Q u H->Q' u H):LA B G Ex as τ H Q':=by
 obtain⟨W,σ,S,rs,rg,h⟩:=h;exact⟨W,σ,S,rs,rg,m.m (λ_ _ h=>h) (λv S _ h W' u H le rs rv=>hq _ _<|h W' u H le rs rv) h⟩
variable{X:Cx}{e ea eb ec ed:Expr}{es:List Expr}{pos p1 p2:Pos}{x:Str}{i:Nat}{pm:Pm}(g:zBs up G)
include g
theorem f_v(hN:X.N[i]?=some x)(hv:Vis X.env.scope x)(hd:(x==("__debug__":Str))=false)(hcd:(x==("__classdict__":Str))=false):FE X B G Ex (.Name x pos)<|cV i:=
 ⟨wkE (jz hN hv hd hcd) λτ H Q zz=>by
  obtain⟨W,σ,S,rs,rg,h⟩:=zz;unfold cV at h;cases e:nth σ i with
  |none=>rw[e] at h;exact(g.no h).elim
  |some v=>rw[e] at h;obtain⟨u,e2,rv⟩:=rg.v i v e;exact⟨u,e2,h W u H .refl rs rv⟩,mV g⟩
omit g in
theorem f_c{v:V}{u:U}(h:PE X e<|tC v)(r:∀W,Rv B W u v):FE X B G Ex e<|cC u:=⟨wkE h λτ H Q ⟨W,σ,S,rs,rg,h⟩=>h W v H .refl rs<|r W,⟨λhx hk h=>hk _ _ h⟩⟩
theorem oM{op:Operator}{r:R2}(ho:OpR X (binaryOp op) r)(hp:Pr2 B up pm r)(ha:FE X B G Ex ea a)(hb:FE X B G Ex eb b):FE X B G Ex (.BinOp ea op eb pos)<|cP pm<|zAp a b:=
 ⟨wkE (zr ho ha.p hb.p) λτ H Q h=>(LE.p2 g ha.m hb.m h).imp ha.m λx H1 h1=>h1.imp hb.m λy H2 ⟨W,S,v,w,z,S',rs,r1,r2,e,q⟩=>hp rs r1 r2 e q,mP g<|mAC g ha.m<|mAC g hb.m<|mAN g⟩
theorem Bo{r:R2}(hr:IxR X r)(hp:Pr2 B up pm r)(ha:FE X B G Ex ea a)(hb:FE X B G Ex eb b)(hs:zCl eb):FE X B G Ex (.Subscript ea eb pos)<|cP pm<|zAp a b:=
 ⟨wkE (zu hr ha.p hb.p hs) λτ H Q h=>(LE.p2 g ha.m hb.m h).imp ha.m λx H1 h1=>h1.imp hb.m λy H2 ⟨W,S,v,w,z,S',rs,r1,r2,e,q⟩=>hp rs r1 r2 e q,mP g<|mAC g ha.m<|mAC g hb.m<|mAN g⟩
theorem iR:FA X B G Ex [] aN:=⟨wkA im λτ H Q ⟨W,σ,S,rs,rg,h⟩=>h W [] H .refl rs rfl,mAN g⟩
theorem f9(ha:FE X B G Ex e a)(hs:FA X B G Ex es as)(hst:zAa e=true):FA X B G Ex (e::es)<|aC a as:=
 ⟨wkA (lC ha.p hs.p hst) λτ H Q ⟨W,σ,S,rs,rg,h⟩=>LE.go ha.m rs rg h λv S' W' u H' le rs' rv rg' h' =>
  LA.go hs.m rs' rg' (hs.m.m (XL.upf le _) (λ_ _ _ h=>h) h') λvs S2 W2 us H2 _ le2 rs2 rvs _ h2=>h2 W2 (u::us) H2 (le.trans le2) rs2 ⟨u,us,rfl,rv.mono le2,rvs⟩,mAC g ha.m hs.m⟩
theorem Aq(hs:FA X B G Ex es as)(hl:es.length<=1000):FE X B G Ex (.Tuple es k pos)<|cT as:=
 ⟨wkE (w6 hs.p) λτ H Q ⟨W,σ,S,rs,rg,h⟩=>LA.go hs.m rs rg h λvs S' W' us H' hn le rs' rvs _ h'=>⟨by rw[rvs.length,hn];exact small hl,λp hp=>VL.tup (VL.inc le h') rs' rvs hp⟩,mT g hs.m⟩
theorem Ay{m:Bool}(hs:FA X B G Ex es as):FE X B G Ex (.List es pos)<|cP (.lst m) as:=
 ⟨wkE (xg hs.p) λτ H Q h=>(LE.pn g hs.m h).imp hs.m λus H1 zz=>by
  obtain⟨W,S,vs,z,S',rs,rv,e,q⟩:=zz;obtain⟨hl,e⟩:=eK<|show fits vs.length (mkL m vs S)=_ from e;exact⟨by rw[rv.length];exact hl,λp hp=>ip e q rs rv hp⟩,mP g hs.m⟩
theorem AH{r:R2}(ho:OpR X (compareOp op) r)(hp:Pr2 B up pm r)(hv:∀v w S z S',pr up pm [v,w] S=.ok z S'->∃c,z=.bl c)(ha:FE X B G Ex ea a)(hb:FE X B G Ex eb b)(hm:behindInMarks op eb=false):FT X B G Ex (.Compare ea [op] [eb] pos)<|tB<|cP pm<|zAp a b:=by
 have mm:=mP g (p:=pm)<|mAC g ha.m<|mAC g hb.m<|mAN g;refine⟨wkT (mq ho ha.p hb.p hm) λτ H Q h=>?_,mB g mm⟩;have h':LE B G Ex (cP pm<|zAp a b) τ H λx H'=>∃k,x=.bl k/\Q k H':=by
  obtain⟨W,σ,S,rs,rg,h⟩:=h;refine LE.go mm rs rg h λv S' W' u H' le rs' rv rg' h'=>?_;cases v <;> first|(exact(g.no h').elim)|exact⟨_,rv,h' W' H' le rs'⟩
 exact(LE.p2 g ha.m hb.m h').imp ha.m λx H1 h1=>h1.imp hb.m λy H2 ⟨W,S,v,w,z,S',rs,r1,r2,e,q⟩=>hp rs r1 r2 e q
theorem v4(h:FE X B G Ex e c)(he:∀whole,isTrue e X.env whole=(do let v <- whole;standAt e.pos;holding [v] (truthy v))):FT X B G Ex e<|tB c:=
 ⟨wkT (wN h.p he) λτ H Q ⟨W,σ,S,rs,rg,h1⟩=>LE.go h.m rs rg h1 λv S' W' u H' le rs' rv rg' h'=>by
  cases v <;> first|(exact(g.no h').elim)|exact⟨_,rv,h' W' H' le rs'⟩,mB g h.m⟩
theorem Bn(h:FT X B G Ex ea t):FT X B G Ex (.UnaryOp .Not ea pos)<|tNt t:=
 ⟨wkT (wP h.p) λτ H Q ⟨W,σ,S,rs,rg,h1⟩=>LT.go h.m rs rg h1 λv S' W' H' le rs' rg' h'=>h' W' H' le rs',mNt g h.m⟩
end
structure FW(X:Cx)(B:Bs)(G:Gx Prop)(Ex:St->XK)(e:Expr)(c:TTx Prop):Prop where
 p:PW X e (LT B G Ex c)
 m:zBl G c
def spF(B:Bs)(G:Gx Prop)(i np:Nat):Sp:=λvs H Q E=>vs.length=np/\∃W us S,RS B W S H/\Rvs B W us vs/\G.call i us S (XL B W E) (VL B W Q)
section
variable{B:Bs}{up:List<|Str×Str}{G:Gx Prop}{Ex:St->XK}{c a b d:TEx Prop}{as:TAx Prop}{t u:TTx Prop}
variable{X:Cx}{e ea eb ec ed:Expr}{es rest:List Expr}{pos p1 p2 apos:Pos}{x m:Str}{i:Nat}{pm:Pm}(g:zBs up G)
def wkW{t:TT}(h:PW X e t)(w:∀σ H Q,t' σ H Q->t σ H Q):PW X e t':=λwh Z s σ H Q I q=>h wh Z s σ H Q I<|w _ _ _ q
omit g in
def v3(h:FT X B G Ex ea t):FW X B G Ex (.BoolOp .And [ea] pos) t:=⟨tE h.p,h.m⟩
def v0(h:FT X B G Ex ea t):FW X B G Ex (.BoolOp .Or [ea] pos) t:=⟨wL h.p,h.m⟩
def FW.ft(h:FW X B G Ex e t):FT X B G Ex e t:=⟨h.p.pt,h.m⟩
include g
theorem Ap(h:FT X B G Ex ea t)(h2:FW X B G Ex (.BoolOp .And (eb::rest) pos) u):FW X B G Ex (.BoolOp .And (ea::eb::rest) pos)<|tAn t u:=
 ⟨wkW (wM h.p h2.p) λτ H Q ⟨W,σ,S,rs,rg,hh⟩=>LT.go h.m rs rg hh λv S' W' H' le rs' rg' h'=>by
  have h':=g.bk h';cases v with
  |true=>exact LT.go h2.m rs' rg' (h2.m.m (XL.upf le _) (λ_ _ h=>h) h') λw S2 W2 H2 le2 rs2 _ h3=>h3 W2 H2 (le.trans le2) rs2
  |false=>exact h' W' H' le rs',mAn g h.m h2.m⟩
theorem Ao(h:FT X B G Ex ea t)(h2:FW X B G Ex (.BoolOp .Or (eb::rest) pos) u):FW X B G Ex (.BoolOp .Or (ea::eb::rest) pos)<|tOr' t u:=
 ⟨wkW (zi h.p h2.p) λτ H Q ⟨W,σ,S,rs,rg,hh⟩=>LT.go h.m rs rg hh λv S' W' H' le rs' rg' h'=>by
  have h':=g.bk h';cases v with
  |false=>exact LT.go h2.m rs' rg' (h2.m.m (XL.upf le _) (λ_ _ h=>h) h') λw S2 W2 H2 le2 rs2 _ h3=>h3 W2 H2 (le.trans le2) rs2
  |true=>exact h' W' H' le rs',mOr g h.m h2.m⟩
theorem u0(h:FE X B G Ex e c):FE X B G Ex e<|cB<|tB c:=
 ⟨wkE h.p λτ H Q ⟨W,σ,S,rs,rg,hh⟩=>LE.go h.m rs rg hh λv S' W' u H' le rs' rv rg' h'=>by
  cases v <;> first|(exact(g.no h').elim)|exact h' W' u H' le rs' rv,mCB g<|mB g h.m⟩
theorem yr{r:R2}(ho:OpR X (compareOp op) r)(hp:Pr2 B up pm r)(ha:FE X B G Ex ea a)(hb:FE X B G Ex eb b)(hm:behindInMarks op eb=false):FE X B G Ex (.Compare ea [op] [eb] pos)<|cP pm<|zAp a b:=
 ⟨wkE (mH ho ha.p hb.p hm) λτ H Q h=>(LE.p2 g ha.m hb.m h).imp ha.m λx H1 h1=>h1.imp hb.m λy H2 ⟨W,S,v,w,z,S',rs,r1,r2,e,q⟩=>hp rs r1 r2 e q,mP g<|mAC g ha.m<|mAC g hb.m<|mAN g⟩
theorem rP(h:FE X B G Ex ea<|cB t)(mt:zBl G t):FE X B G Ex (.UnaryOp .Not ea pos)<|cB<|tNt t:=
 ⟨wkE (xf h.p) λτ H Q ⟨W,σ,S,rs,rg,hh⟩=>⟨W,σ,S,rs,rg,mt.m (λ_ _ h=>h) (λv S' h' W' u H' le rs' rv=>⟨v,rv,h' W' (.bl (!v)) H' le rs' rfl⟩) hh⟩,mCB g<|mNt g mt⟩
theorem yu(h:FE X B G Ex ea<|cB t)(mt:zBl G t)(h2:FE X B G Ex (.BoolOp .And (eb::rest) pos)<|cB u)(mu:zBl G u):FE X B G Ex (.BoolOp .And (ea::eb::rest) pos)<|cB<|tAn t u:=
 ⟨wkE (xl h.p h2.p) λτ H Q ⟨W,σ,S,rs,rg,hh⟩=>⟨W,σ,S,rs,rg,mt.m (λ_ _ h=>h) (λv S' h' W' w H' le rs' rv=>⟨v,rv,by
  have h':=g.bk h';cases v with
  |true=>exact⟨W',σ,S',rs',rg.mono le,mu.m (XL.upf le _) (λz S2 h3 W2 y H2 le2 rs2 rv2=>h3 W2 y H2 (le.trans le2) rs2 rv2) h'⟩
  |false=>exact h' W' _ H' le rs' rfl⟩) hh⟩,mCB g<|mAn g mt mu⟩
theorem Ax(h:FE X B G Ex ea<|cB t)(mt:zBl G t)(h2:FE X B G Ex (.BoolOp .Or (eb::rest) pos)<|cB u)(mu:zBl G u):FE X B G Ex (.BoolOp .Or (ea::eb::rest) pos)<|cB<|tOr' t u:=
 ⟨wkE (zq h.p h2.p) λτ H Q ⟨W,σ,S,rs,rg,hh⟩=>⟨W,σ,S,rs,rg,mt.m (λ_ _ h=>h) (λv S' h' W' w H' le rs' rv=>⟨v,rv,by
  have h':=g.bk h';cases v with
  |false=>exact⟨W',σ,S',rs',rg.mono le,mu.m (XL.upf le _) (λz S2 h3 W2 y H2 le2 rs2 rv2=>h3 W2 y H2 (le.trans le2) rs2 rv2) h'⟩
  |true=>exact h' W' _ H' le rs' rfl⟩) hh⟩,mCB g<|mOr g mt mu⟩
omit g in
theorem v7{op:BoolOp}(h:FE X B G Ex ea c):FE X B G Ex (.BoolOp op [ea] pos) c:=⟨xb h.p,h.m⟩
theorem zG6(h:FT X B G Ex ec t)(ha:FE X B G Ex ea a)(hb:FE X B G Ex eb b):FE X B G Ex (.IfExp ec ea eb pos)<|cIf t a b:=
 ⟨wkE (qw h.p ha.p hb.p) λτ H Q ⟨W,σ,S,rs,rg,hh⟩=>LT.go h.m rs rg hh λv S' W' H' le rs' rg' h'=>by
  have h':=g.bk h';cases v with
  |true=>exact LE.go ha.m rs' rg' (ha.m.m (XL.upf le _) (λ_ _ h=>h) h') λw S2 W2 u2 H2 le2 rs2 rv2 _ h3=>h3 W2 u2 H2 (le.trans le2) rs2 rv2
  |false=>exact LE.go hb.m rs' rg' (hb.m.m (XL.upf le _) (λ_ _ h=>h) h') λw S2 W2 u2 H2 le2 rs2 rv2 _ h3=>h3 W2 u2 H2 (le.trans le2) rs2 rv2,mIf g h.m ha.m hb.m⟩
theorem nH{r:R2}(hp:Pr2 B up p r)(hq:Pr2 B up q r')(ma:zAt G a)(mb:zAt G b)(mc:zAt G c){Q:Bool->Hp->Prop}(h:LT B G Ex (tCh p q a b c) τ H Q) :
  zC1 r r' (LE B G Ex a) (LE B G Ex b) (LE B G Ex c) τ H (λx H'=>∃k,x=V.bl k/\Q k H'):=by
 obtain⟨W,σ,S,rs,rg,hh⟩:=h;refine LE.go ma rs rg hh λv S1 W1 u1 H1 le1 rs1 rv1 rg1 h1=>?_;refine LE.go mb rs1 rg1 (mb.m (XL.upf le1 _) (λ_ _ h=>h) h1) λw S2 W2 u2 H2 le2 rs2 rv2 rg2 h2=>?_;obtain⟨z,S3,e,q3⟩:=g.pok h2;refine hp rs2 (rv1.mono le2) rv2 e λW3 u3 H3 le3 rs3 rv3=>?_;cases z <;> first|(exact(g.no q3).elim)|skip
 refine⟨_,rv3,?_⟩;have q3:=g.bk q3;split
 ·next hb=>
  rw[xCg hb] at q3;refine LE.go mc rs3 ((rg2.mono le3)) (mc.m (XL.upf (le1.trans<|le2.trans le3) _) (λ_ _ h=>h) q3) λy S4 W4 u4 H4 le4 rs4 rv4 _ h4=>?_;obtain⟨z2,S5,e2,q5⟩:=g.pok h4;refine hq rs4 ((rv2.mono le3).mono le4) rv4 e2 λW5 u5 H5 le5 rs5 rv5=>?_;cases z2 <;> first|(exact(g.no q5).elim)|exact⟨_,rv5,q5 W5 H5 (le1.trans<|le2.trans<|le3.trans<|le4.trans le5) rs5⟩
 ·next hb=>
  rw[xCf hb] at q3;exact⟨false,rfl,q3 W3 H3 (le1.trans<|le2.trans le3) rs3⟩
theorem Bu{r:R2}(ho:OpR X (compareOp op) r)(ho':OpR X (compareOp op') r')(hp:Pr2 B up p r)(hq:Pr2 B up q r')(ha:FE X B G Ex ea a)(hb:FE X B G Ex eb b)(hc:FE X B G Ex ec c)(hm:lastMarks [op,op'] [eb,ec]=false):FT X B G Ex (.Compare ea [op,op'] [eb,ec] pos)<|tCh p q a b c:=
 ⟨wkT (pZ ho ho' ha.p hb.p hc.p hm) λτ H Q h=>nH g hp hq ha.m hb.m hc.m h,mCh g ha.m hb.m hc.m⟩
theorem AI{r:R2}(ho:OpR X (compareOp op) r)(ho':OpR X (compareOp op') r')(hp:Pr2 B up p r)(hq:Pr2 B up q r')(ha:FE X B G Ex ea a)(hb:FE X B G Ex eb b)(hc:FE X B G Ex ec c)(hm:lastMarks [op,op'] [eb,ec]=false)(hi:∀x y H Q,r x y H Q->r x y H Q)(mo:∀{x y H}{Q Q':VK},(∀v H,Q v H->Q' v H)->r x y H Q->r x y H Q')(mo':∀{x y H}{Q Q':VK},(∀v H,Q v H->Q' v H)->r' x y H Q->r' x y H Q'):FE X B G Ex (.Compare ea [op,op'] [eb,ec] pos)<|cB<|tCh p q a b c:=
 ⟨wkE (qA ho ho' ha.p hb.p hc.p hm) λτ H Q zz=>by
  obtain⟨W,σ,S,rs,rg,hh⟩:=zz;have h0:LT B G Ex (tCh p q a b c) τ H λk H'=>Q (.bl k) H':=⟨W,σ,S,rs,rg,(mCh g ha.m hb.m hc.m).m (λ_ _ h=>h) (λv S' h' W' H' le rs'=>h' W' (.bl v) H' le rs' rfl) hh⟩
  have h1:=nH g hp hq ha.m hb.m hc.m h0;refine LE.imp ha.m h1 λx H1 h2=>LE.imp hb.m h2 λy H2 h3=>mo (λz H3 ⟨k,e,h4⟩=>⟨k,e,?_⟩) h3;split
  ·next hk=>rw[xCg hk] at h4;exact LE.imp hc.m h4 λw H4 h5=>mo' (λz5 H5 ⟨k5,e5,q5⟩=>by rw[e5];exact q5) h5
  ·next hk=>rw[xCf hk] at h4;obtain⟨k5,e5,q5⟩:=h4;cases e5;exact q5,mCB g<|mCh g ha.m hb.m hc.m⟩
variable{k:Nat}{f:Addr}{fd:FuncData}{ps:List Str}{np:Nat}{ds:List Value}{dvs:List V}{dus:List U}
theorem yt(F:zAv X.prog X.w X.K X.mg X.base (CXo X.prog X.w) k f fd ps<|spF B G i np)(hr:zA4 k X.A)(hg:Gl X x)(hm:X.mg x=some (.ref f))(hk:PySem.W.keepIn X.K (.ref f)=true)(hb:zAm X.K fd ps ds)(hd:zAg dvs ds)(hdu:∀W,Rvs B W dus dvs)(hx:zAn (CXo X.prog X.w) X Ex)(hdb:(x==("__debug__":Str))=false)(hs:FA X B G Ex es as)(h0:es=[]->as=aN)(hn:es.length+dus.length=np)(hst:es.all zAa=true):FE X B G Ex (.Call (.Name x p1) es [] pos)<|cF i as dus:=by
 refine⟨?_,mF g hs.m⟩;have core:∀τ H Q,LE B G Ex (cF i as dus) τ H Q->zC2 (spF B G i np) dvs Ex (LA B G Ex as) τ H Q:=λτ H Q ⟨W,σ,S,rs,rg,hh⟩=>LA.go hs.m rs rg hh λv S' W' u H' hl le rs' rv rg' h'=>
  ⟨by rw[xAb,rv.length,(hdu W').length,hl];exact hn,W',v++dus,S',rs',rv.app<|hdu W',g.call (XL.upf le _) (λ_ _=>VL.inc le) h'⟩
 cases es with
 |nil=>
  rw[h0 rfl] at core⊢;refine wkE (ou F hr hg hm hk hb hd hx hdb) λτ H Q h=>?_;obtain⟨W,σ,S,rs,rg,hh⟩:=core τ H Q h;exact hh W [] H .refl rs rfl
 |cons e es=>
  rw[xCj,xCh] at hst;exact wkE (qB F hr hg hm hk hb hd hx hs.p hdb (dj hst.1)<|d0 hst.2) core
end
section
variable{B:Bs}{up:List<|Str×Str}
def Rvs.inv1{W:Wd}{v:U}(r:Rvs B W [v] us):∃u,us=[u]/\Rv B W v u:=by obtain⟨u,t,rfl,h,h2⟩:=r;rw[show t=[] from h2];exact⟨u,rfl,h⟩
def Rvs.inv2{W:Wd}{v w:U}(r:Rvs B W [v,w] us):∃u1 u2,us=[u1,u2]/\Rv B W v u1/\Rv B W w u2:=by
 obtain⟨u,t,rfl,h,h2⟩:=r;obtain⟨u2,rfl,h3⟩:=Rvs.inv1 h2;exact⟨u,u2,rfl,h,h3⟩
def Bb{wo:World}(hk:∀{W:Wd}{p:Addr}{kvs:List<|Str×U}{no:List Str}{x:Str}{v:U}{H:Hp}{Q:VK},B.kd p kvs no->zAj x kvs=some v->(∀u,Rv B W v u->Q u H)->zE4 wo B.K (.ref p) (.str x) H Q):Pr2 B up .ix<|zE4 wo B.K:=by
 intro W S H v w u1 u2 z S' Q rs r1 r2 h q;change ixU v w S=_ at h;have seq:∀xs,sqU S v=some xs->(match w with
   |.int i=>opt (atI xs i) S
   |_=>Res.stuck)=.ok z S'->zE4 wo B.K u1 u2 H Q:=λxs e h=>by
  split at h
  ·unfold opt at h;split at h
   ·next i v' e2=>
    cases h;obtain⟨p,ys,rfl,sq,rr⟩:=gi rs r1 e;obtain⟨y,e3,ry⟩:=yM rr e2;rcases sq with sq|sq
    ·exact .inl<|.inl<|.inl ⟨p,ys,_,y,rfl,r2,sq,e3,q.here rs ry⟩
    ·exact .inl<|.inl<|.inr<|.inl ⟨p,ys,_,y,rfl,r2,sq,e3,q.here rs ry⟩
   ·cases h
  ·cases h
 unfold ixU at h;split at h
 ·next kvs=>
  split at h
  ·next x=>
   unfold opt at h;split at h
   ·next v' e=>
    cases h;obtain⟨p,rfl,hd⟩:=r1;rw[show u2=.str x from r2];exact hk (W:=W) hd e λu ru=>q.here rs ru
   ·cases h
  ·cases h
 ·split at h
  ·split at h
   ·next zz i c e=>
    obtain⟨hl,e2⟩:=eK h;cases e2;exact .inl<|.inl<|.inr<|.inr ⟨_,_,_,r1,r2,hl,e,q.here rs rfl⟩
   ·cases h
  ·cases h
 ·next p=>
  split at h
  ·next kvs e=>
   split at h
   ·next k ek=>
    unfold opt at h;split at h
    ·next v' e3=>
     cases h;obtain⟨a,g,hm,hh,ro,_⟩:=rs.here e;obtain⟨a',e2,hm'⟩:=r1;rw[hm] at hm';cases hm';obtain⟨ks,rfl,rn⟩:=ro;obtain⟨y,ey,ry⟩:=(jn (k:=k) rn).1 _ e3;exact .inl<|.inr ⟨a,y,e2,.inl ⟨ks,k,.inl hh,jG ek r2,ey.symm⟩,q.here rs ry⟩
    ·cases h
   ·cases h
  ·next xs e=>exact seq xs (by show lsU S (.ref p)=_;unfold lsU;dsimp only;rw[e]) h
  ·cases h
 ·split at h
  ·next xs e=>exact seq xs e h
  ·cases h
def zD9(K:xFr):List V->Hp->VK->Prop:=λxs H Q=>zIq K xs H Q\/zFv xs H Q
def zh{X:Cx}:zAl X (.builtin "len")<|zD9 X.K:=zAl.or yz vh
theorem zI:PrN B up .len<|zD9 B.K:=by
 intro W S H vs us z S' Q rs rv h q;cases vs with
 |nil=>cases h
 |cons v t=>cases t with
  |cons _ _=>cases h
  |nil=>
   obtain⟨u,rfl,r1⟩:=rv.inv1;change zD7 v S=_ at h;have seq:∀xs,sqU S v=some xs->z=.int xs.length->S'=S->zD9 B.K [u] H Q:=λxs e hz hs=>by
    subst hz hs;obtain⟨p,ys,rfl,sq,rr⟩:=gi rs r1 e;have:=q.here rs (u:=.int xs.length) rfl;rw[<- rr.length] at this;rcases sq with sq|sq
    ·exact .inl ⟨_,_,rfl,.inl ⟨ys,sq,rfl⟩,this⟩
    ·exact .inl ⟨_,_,rfl,.inr ⟨ys,sq,rfl⟩,this⟩
   unfold zD7 at h;split at h
   ·obtain⟨hl,e2⟩:=eK h;cases e2;rw[show u=.str _ from r1];exact .inl ⟨_,_,rfl,⟨hl,rfl⟩,q.here rs rfl⟩
   ·next p=>
    split at h
    ·next xs e=>cases h;exact seq xs (by show lsU S (.ref p)=_;unfold lsU;dsimp only;rw[e]) rfl rfl
    ·next kvs e=>
     cases h;obtain⟨a,g,hm,hh,ro,_⟩:=rs.here e;obtain⟨a',e2,hm'⟩:=r1;rw[hm] at hm';cases hm';obtain⟨ks,rfl,rn⟩:=ro;have:=q.here rs (u:=.int kvs.length) rfl;rw[<- rn.length] at this;subst e2;exact .inr ⟨a,ks,rfl,hh,this⟩
    ·cases h
   ·split at h
    ·next xs e=>cases h;exact seq xs e rfl rfl
    ·cases h
theorem vs1{vs:List U}{z:U}{S':So}(h:pr up p vs S=.ok z S')(h0:pr up p [] S=.stuck)(h2:∀a b r,pr up p (a::b::r) S=.stuck):∃v,vs=[v]:=by
 cases vs with
 |nil=>rw[h0] at h;cases h
 |cons v t=>cases t with
  |nil=>exact⟨v,rfl⟩
  |cons _ _=>rw[h2] at h;cases h
def zP:PrN B up .abs λxs H Q=>∃i,xs=[.int i]/\Q (.int<|if i<0 then -i else i) H:=by
 intro W S H vs us z S' Q rs rv h q;obtain⟨v,rfl⟩:=vs1 h rfl λa b r=>by cases a <;> rfl
 obtain⟨u,rfl,r1⟩:=rv.inv1;cases v <;> first|(cases h;done)|(cases h;exact⟨_,by rw[show u=_ from r1],q.here rs rfl⟩)
def zG:PrN B up .max λxs H Q=>∃i j,xs=[.int i,.int j]/\Q (.int<|if j>i then j else i) H:=by
 intro W S H vs us z S' Q rs rv h q;obtain⟨i,j,rfl,rfl,rfl⟩:=ni (f:=λi j=>.int<|if j>i then j else i) h;obtain⟨u1,u2,rfl,r1,r2⟩:=rv.inv2;exact⟨i,j,by rw[show u1=_ from r1,show u2=_ from r2],q.here rs rfl⟩
def zF:PrN B up .min λxs H Q=>∃i j,xs=[.int i,.int j]/\Q (.int<|if j<i then j else i) H:=by
 intro W S H vs us z S' Q rs rv h q;obtain⟨i,j,rfl,rfl,rfl⟩:=ni (f:=λi j=>.int<|if j<i then j else i) h;obtain⟨u1,u2,rfl,r1,r2⟩:=rv.inv2;exact⟨i,j,by rw[show u1=_ from r1,show u2=_ from r2],q.here rs rfl⟩
def xn:PrN B up .int1 zFw:=by
 intro W S H vs us z S' Q rs rv h q;obtain⟨v,rfl⟩:=vs1 h rfl λa b r=>by cases a <;> rfl
 obtain⟨u,rfl,r1⟩:=rv.inv1;cases v <;> first|(cases h;done)|(cases h;rw[show u=_ from r1];first|exact .inl ⟨_,rfl,q.here rs rfl⟩|exact .inr ⟨_,rfl,q.here rs rfl⟩)
def ue:PrN B up .tupOf<|zDw B.K:=by
 intro W S H vs us z S' Q rs rv h q;obtain⟨v,rfl⟩:=vs1 h rfl λa b r=>by cases a <;> rfl
 obtain⟨u,rfl,r1⟩:=rv.inv1;change zB7 v S=_ at h;unfold zB7 at h;split at h
 ·cases h;obtain⟨p,ys,rfl,f,rr⟩:=r1;exact⟨p,ys,rfl,.inr ⟨.of<|rs.fz _ _ f,q.here rs ⟨p,ys,rfl,f,rr⟩⟩⟩
 ·split at h
  ·next xs e=>
   cases h;obtain⟨p,ys,rfl,sq,rr⟩:=iq rs r1 e;exact⟨p,ys,rfl,.inl ⟨sq,λl hl=>q.tup rs rr hl⟩⟩
  ·cases h
def uf{m:Bool}:PrN B up (.lstOf m)<|zFu B.K:=by
 intro W S H vs us z S' Q rs rv h q;obtain⟨v,rfl⟩:=vs1 h rfl λa b r=>by cases a <;> rfl
 obtain⟨u,rfl,r1⟩:=rv.inv1;delta pr at h;dsimp only at h;split at h
 ·next xs e=>
  obtain⟨p,ys,rfl,sq,rr⟩:=gi rs r1 e;exact⟨p,ys,rfl,sq,λl hl=>ip h q rs rr hl⟩
 ·cases h
def ug:PrN B up .dctOf zDx:=by
 intro W S H vs us z S' Q rs rv h q;obtain⟨v,rfl⟩:=vs1 h rfl λa b r=>by cases a <;> rfl
 obtain⟨u,rfl,r1⟩:=rv.inv1;cases v <;> try (cases h;done)
 delta pr at h;dsimp only at h;split at h
 ·next kvs e=>
  cases h;obtain⟨a,g,hm,hh,ro,_⟩:=rs.here e;obtain⟨a',e2,hm'⟩:=r1;rw[hm] at hm';cases hm';obtain⟨ks,rfl,rn⟩:=ro;refine⟨a,ks,by rw[e2],.inl hh,λp hp=>?_⟩;have le:W.Le {W with μ:=W.μ++[p]}:=⟨λ_ _ h=>h,λ_ _ h=>eR h,rfl⟩
  obtain⟨_,rs',ha⟩:=rs.push (o:=.dct kvs) (h:=.dK ks) hp ⟨ks,rfl,rn.mono le⟩;exact q _ _ _ le rs' ⟨p,rfl,ha⟩
 ·cases h
theorem sL{W:Wd}:∀{vs:List U}{us:List V}{bs:List Bool},blL vs=some bs->Rvs B W vs us->us=bs.map V.bl
 |[],_,_,h,r=>by cases h;exact r
 |x::t,_,_,h,r=>by
  obtain⟨u,s,rfl,h1,h2⟩:=r;cases x <;> try (cases h;done)
  simp only[blL] at h;cases e:blL t with
  |none=>rw[e] at h;cases h
  |some bs=>
   rw[e] at h;cases h;rw[sL e h2,show u=_ from h1];rfl
theorem mj{W:Wd}:∀{vs:List U}{us:List V}{bs:List Str},zE0 vs=some bs->Rvs B W vs us->us=bs.map V.str
 |[],_,_,h,r=>by cases h;exact r
 |x::t,_,_,h,r=>by
  obtain⟨u,s,rfl,h1,h2⟩:=r;cases x <;> try (cases h;done)
  simp only[zE0] at h;cases e:zE0 t with
  |none=>rw[e] at h;cases h
  |some bs=>
   rw[e] at h;cases h;rw[mj e h2,show u=_ from h1];rfl
def zN:PrN B up .all<|zIr B.K:=by
 intro W S H vs us z S' Q rs rv h q;obtain⟨v,rfl⟩:=vs1 h rfl λa b r=>by cases a <;> rfl
 obtain⟨u,rfl,r1⟩:=rv.inv1;cases v <;> try (cases h;done)
 delta pr at h;dsimp only at h;split at h
 ·next bs e=>
  cases h;obtain⟨p,ys,rfl,f,rr⟩:=r1;refine⟨p,bs,rfl,.of (by rw[<- sL e rr];exact rs.fz _ _ f),λb hb=>?_⟩;subst hb;exact q.here rs rfl
 ·cases h
end
section
variable{B:Bs}{up:List<|Str×Str}{G:Gx Prop}{Ex:St->XK}{c a b d:TEx Prop}{as:TAx Prop}
variable{X:Cx}{e ea eb:Expr}{es:List Expr}{pos p1 p2 apos:Pos}{x:Str}{id T:String}{pm:Pm}{r:List V->Hp->VK->Prop}(g:zBs up G)
include g
theorem rU(hc:zAl X (.builtin id) r)(hp:PrN B up pm r)(hg:Gl X x)(hm:X.mg x=none)(hv:bootBuiltins x=some (.builtin id))(hs:FA X B G Ex (e::es) as)(h:(e::es).all zAa=true)(hn:x≠"__name__")(hdb:(x==("__debug__":Str))=false):FE X B G Ex (.Call (.Name x p1) (e::es) [] pos)<|cP pm as:=
 ⟨wkE (mJ hc hg hm hv hs.p h hn hdb) λτ H Q h=>(LE.pn g hs.m h).imp hs.m λus H1 ⟨W,S,vs,z,S',rs,rv,e,q⟩=>hp rs rv e q,mP g hs.m⟩
theorem u9(hc:zAl X (.type T) r)(hp:PrN B up pm r)(hg:Gl X x)(hm:X.mg x=none)(hv:bootBuiltins x=some (.type T))(hs:FA X B G Ex (e::es) as)(h:(e::es).all zAa=true)(hn:x≠"__name__")(hdb:(x==("__debug__":Str))=false):FE X B G Ex (.Call (.Name x p1) (e::es) [] pos)<|cP pm as:=
 ⟨wkE (vJ hc hg hm hv hs.p h hn hdb) λτ H Q h=>(LE.pn g hs.m h).imp hs.m λus H1 ⟨W,S,vs,z,S',rs,rv,e,q⟩=>hp rs rv e q,mP g hs.m⟩
end
section
variable{B:Bs}{W:Wd}{S S':So}{H:Hp}
theorem fM{f:Str}:∀{fs:List<|Str×U}{vs:List<|Str×V},Rn B W fs vs->(∀v,zAj f fs=some v->∃u,vs.lookup f=some u/\Rv B W v u)/\(zAj f fs=none->vs.lookup f=none)
 |[],_,r=>by rw[show _=[] from r];exact⟨(λv h=>nomatch h),λ_=>rfl⟩
 |(j,x)::t,_,r=>by
  obtain⟨v,q,rfl,h1,h2⟩:=r;by_cases e:f=j
  ·subst e;unfold zAj;rw[xCg rfl];refine⟨λv' h=>?_,(λh=>nomatch h)⟩;cases h;exact⟨v,by simp[List.lookup],h1⟩
  ·have hb:(f==j)=false:=beq_eq_false_iff_ne.mpr e;unfold zAj;rw[xCf e];simp only[List.lookup,hb];exact fM h2
theorem mn{f:Str}{x:U}{y:V}(g:Rv B W x y):∀{fs:List<|Str×U}{vs:List<|Str×V},Rn B W fs vs->Rn B W (putF f x fs) (L2.putF f y vs)
 |[],_,r=>by rw[show _=[] from r];exact⟨y,[],rfl,g,rfl⟩
 |(j,z)::t,_,r=>by
  obtain⟨v,q,rfl,h1,h2⟩:=r;unfold putF L2.putF;by_cases e:j=f
  ·rw[xCg e,xCg e];exact⟨y,q,rfl,g,h2⟩
  ·rw[xCf e,xCf e];exact⟨v,_,rfl,h1,mn g h2⟩
theorem Rn.app{κ:Type}:∀{us ws:List<|κ×U}{vs zs:List<|κ×V},Rn B W us vs->Rn B W ws zs->Rn B W (us++ws) (vs++zs)
 |[],_,_,_,h,g=>by rw[show _=[] from h];exact g
 |_::_,_,_,_,h,g=>by obtain⟨v,r,rfl,h1,h2⟩:=h;exact⟨v,r++_,rfl,h1,Rn.app h2 g⟩
def tF{k:Key}{x:U}{y:V}(g:Rv B W x y){fs:List<|Key×U}{vs:List<|Key×V}(r:Rn B W fs vs):Rn B W (putK k x fs)<|L2.putK vs k y:=by
 have an:(vs.any λkv=>decide<|kv.1=k)=(fs.any λkv=>decide<|kv.1=k):=by
  clear g;induction fs generalizing vs with
  |nil=>rw[show vs=[] from r];rfl
  |cons p t ih=>obtain⟨v,q,rfl,h1,h2⟩:=r;rw[List.any_cons,List.any_cons,ih h2]
 unfold putK L2.putK;rw[an];split
 ·next hh=>
  clear hh an;induction fs generalizing vs with
  |nil=>rw[show vs=[] from r];rfl
  |cons p t ih=>
   obtain⟨v,q,rfl,h1,h2⟩:=r;rw[xBs,xBs];by_cases e:p.1=k
   ·rw[xCg e,xCg e];exact⟨y,_,rfl,g,ih h2⟩
   ·rw[xCf e,xCf e];exact⟨v,_,rfl,h1,ih h2⟩
 ·exact r.app ⟨y,[],rfl,g,rfl⟩
def jJ{p:Nat}{f:Str->List (Str×U)->Res}{z:U}{u:V}(rs:RS B W S H)(r1:Rv B W (.ref p) u)(h:zCx p S f=.ok z S'):∃C fs a c dx vs,at? S p=some (.ins C fs)/\f C fs=.ok z S'/\u=.ref a/\at? W.μ p=some a/\B.cl C c/\H a=some (.ins c dx vs)/\Rn B W fs vs:=by
 unfold zCx at h;split at h
 ·next C fs e=>
  obtain⟨a,g,hm,hh,ro,_⟩:=rs.here e;obtain⟨a',e2,hm'⟩:=r1;rw[hm] at hm';cases hm';obtain⟨c,dx,vs,hc,rfl,rn⟩:=ro;exact⟨C,fs,a,c,dx,vs,e,h,e2,hm,hc,hh,rn⟩
 ·cases h
def m7{p:Nat}{f:List U->Res}{z:U}{u:V}(rs:RS B W S H)(r1:Rv B W (.ref p) u)(h:zCr p S f=.ok z S'):∃xs a vs,at? S p=some (.lst xs)/\f xs=.ok z S'/\u=.ref a/\at? W.μ p=some a/\H a=some (.lst vs)/\Rvs B W xs vs:=by
 unfold zCr at h;split at h
 ·next xs e=>
  obtain⟨a,g,hm,hh,ro,_⟩:=rs.here e;obtain⟨a',e2,hm'⟩:=r1;rw[hm] at hm';cases hm';obtain⟨vs,rfl,rn⟩:=ro;exact⟨xs,a,vs,e,h,e2,hm,hh,rn⟩
 ·cases h
end
section
variable{B:Bs}{up:List<|Str×Str}{G:Gx Prop}{Ex:St->XK}{c a b d:TEx Prop}{as:TAx Prop}
variable{X:Cx}{e ea eb o value:Expr}{es:List Expr}{pos p1 p2 apos cpos pos':Pos}{x f m C:Str}{id T:String}{pm:Pm}{i:Nat}(g:zBs up G)
structure ClF(B:Bs)(flds:List Str):Prop where
 c:∀{C c},B.cl C c->Cls B.K c
 n:∀{C c f},B.cl C c->f∈flds->zAr B.K c f
variable{fl:List Str}
include g
theorem AE(hK:X.K=B.K)(F:ClF B fl)(hf:f∈fl)(ho:FE X B G Ex o a)(h:zBf o=true):FE X B G Ex (.Attribute o f pos)<|cP (.fld f)<|aC a aN:=
 ⟨wkE (xj ho.p<|fL h) λτ H Q h=>(LE.p1 g ho.m h).imp ho.m λu H1 zz=>by
  obtain⟨W,S,v,z,S',rs,r1,e,q⟩:=zz;cases v <;> try (cases e;done)
  obtain⟨C,fs,a,c,dx,vs,_,h2,e2,_,hc,hh,rn⟩:=jJ rs r1 e;unfold opt at h2;split at h2
  ·next v' e3=>
   cases h2;obtain⟨y,e4,ry⟩:=(fM (f:=f) rn).1 _ e3;exact⟨a,c,dx,vs,y,e2,hh,by rw[hK];exact F.c hc,by rw[hK];exact F.n hc hf,e4,q.here rs ry⟩
  ·(cases h2),mP g<|mAC g ho.m<|mAN g⟩
theorem yo{ds:List Value}(hcl:∀c,B.cl C c->c=c')(cc:Cls X.K c')(hm:zEc X.K c' m f')(F:zAv X.prog X.w X.K X.mg X.base (CXo X.prog X.w) k f' fd ps<|spF B G i np)(hr:zA4 k X.A)(hb:zAm X.K fd ps ds)(hd:zAg dvs ds)(hdu:∀W,Rvs B W dus dvs)(hx:zAn (CXo X.prog X.w) X Ex)(ho:FE X B G Ex o a)(hs:FA X B G Ex es as)(h0:es=[]->as=aN)(hn:es.length+1+dus.length=np)(hst:es.all zAa=true)(ht:∃pl,eval (.Call (.Attribute o m apos) es [] pos) X.env=(do
   let ov <- eval o X.env
   standAt apos.atName
   let (f,first) <- holding [ov] (getMethod ov m pl)
   callWith pos f first (backTo pos<|starEach es X.env) (backToKw pos<|keywordEach [] X.env))):FE X B G Ex (.Call (.Attribute o m apos) es [] pos)<|cM C m i a as dus:=by
 refine⟨?_,mM g ho.m hs.m⟩;have core:∀τ H Q,LE B G Ex (cM C m i a as dus) τ H Q->zC0 c' m (spF B G i np) dvs Ex (LE B G Ex a) (LA B G Ex as) τ H Q:=λτ H Q ⟨W,σ,S,rs,rg,hh⟩=>LE.go ho.m rs rg hh λv S1 W1 u1 H1 le1 rs1 rv1 rg1 h1=>by
  obtain⟨w,S2,e,h2⟩:=g.pok h1;cases v <;> try (cases e;done)
  obtain⟨D,fs,aa,c,dx,vs,_,e2,e3,hμ,hc,hha,rn⟩:=jJ rs1 rv1 e;split at e2
  ·next hD=>
   have hD:=xBe hD;subst hD;split at e2
   ·next hf=>
    cases e2;obtain rfl:=hcl c hc;refine⟨aa,dx,vs,e3,hha,(fM (f:=m) rn).2 hf,?_⟩;refine LA.go hs.m rs1 rg1 (hs.m.m (XL.upf le1 _) (λ_ _ _ h=>h) h2) λws S3 W3 us H3 hl le3 rs3 rv3 _ h3=>?_;exact⟨by rw[xAo,xAb,rv3.length,(hdu W3).length,hl,<- hn];lia,W3,.ref _::(ws++dus),S3,rs3,⟨u1,_,rfl,rv1.mono le3,rv3.app<|hdu W3⟩,g.call (XL.upf (le1.trans le3) _) (λ_ _=>VL.inc<|le1.trans le3) h3⟩
   ·cases e2
  ·cases e2
 obtain⟨pl,ht⟩:=ht;cases es with
 |nil=>
  rw[h0 rfl] at core⊢;refine wkE (oq (pl:=pl) ho.p cc hm F hr hb hd hx ht) λτ H Q h=>?_;refine(core τ H Q h).imp ho.m λu H1 ⟨a',dx,fs,e1,e2,e3,h4⟩=>⟨a',dx,fs,e1,e2,e3,?_⟩
  obtain⟨W,σ,S,rs,rg,hh⟩:=h4;exact hh W [] H1 .refl rs rfl
 |cons e es=>
  rw[xCj,xCh] at hst;exact wkE (qt (pl:=pl) ho.p cc hm F hr hb hd hx hs.p (dj hst.1) (d0 hst.2) ht) core
omit g in
theorem zD3:zBy (CXo X.prog X.w) X λ_ _ _=>False:=λZ σ H s ev s' I z=>by obtain⟨_,_,_,_,_,_,_,_,_,_,_,_,_,h⟩:=z;exact h.elim
theorem zDa{ds:List Value}(hcl:B.cl x c')(M:Mk X.K c' f')(F:zAv X.prog X.w X.K X.mg X.base (CXo X.prog X.w) k f' fd ps<|spF B G i np)(hr:zA4 (k+1) X.A)(hg:Gl X x)(hm:X.mg x=some (.ref c'))(hb:zAm X.K fd ps ds)(hd:zAg dvs ds)(hdu:∀W,Rvs B W dus dvs)(hdb:(x==("__debug__":Str))=false)(hs:FA X B G Ex es as)(h0:es=[]->as=aN)(hn:es.length+1+dus.length=np)(hst:es.all zAa=true):FE X B G Ex (.Call (.Name x p1) es [] pos)<|cK x i as dus:=by
 refine⟨?_,mK g hs.m⟩;have core:∀τ H Q,LE B G Ex (cK x i as dus) τ H Q->zD2 c' (spF B G i np) dvs (λ_ _ _=>False) (LA B G Ex as) τ H Q:=λτ H Q ⟨W,σ,S,rs,rg,hh⟩=>LA.go hs.m rs rg hh λws S1 W1 us H1 hl le1 rs1 rv1 _ h1=>by
  intro xa dx hxa hdx hne;obtain⟨w,S2,e,h2⟩:=g.pok h1;cases e;have sm:=eO hdx<|.own xa;have hxa':upd H1 dx (.own xa) xa=none:=by rw[db<|Ne.symm hne];exact hxa
  have le2:W1.Le {W1 with μ:=W1.μ++[xa]}:=⟨λ_ _ h=>h,λ_ _ h=>eR h,rfl⟩
  obtain⟨_,rs2,ha⟩:=(rs1.same sm).push (o:=.ins x []) (h:=.ins c' dx []) hxa' ⟨c',dx,[],hcl,rfl,rfl⟩;refine⟨by rw[xAo,xAb,rv1.length,(hdu W1).length,hl,<- hn];lia,_,.ref S1.length::(ws++dus),_,rs2,⟨_,_,rfl,⟨xa,rfl,ha⟩,(rv1.mono le2).app<|hdu _⟩,g.call (λ_ _ h=>(g.no h).elim) (λr S3 h3 W3 u3 H3 le3 rs3 rv3=>?_) h2⟩;cases r <;> first|(exact(g.no h3).elim)|exact⟨rv3,h3 W3 (.ref xa) H3 (le1.trans<|le2.trans le3) rs3 ⟨xa,rfl,le3.m _ _ ha⟩⟩
 cases es with
 |nil=>
  rw[h0 rfl] at core⊢;refine wkE (qv M F hr hg hm hb hd zD3 hdb) λτ H Q h=>?_;obtain⟨W,σ,S,rs,rg,hh⟩:=core τ H Q h;exact hh W [] H .refl rs rfl
 |cons e es=>
  rw[xCj,xCh] at hst;exact wkE (tY M F hr hg hm hb hd zD3 hs.p hdb (dj hst.1)<|d0 hst.2) core
end
section
variable{B:Bs}{W:Wd}{S S':So}{H:Hp}
theorem Rg.lf{W W':Wd}{σ:Sg}{τ:St}(r:Rg B W σ τ)(le:W.Lf W'):Rg B W' σ τ:=⟨r.l,λi v h=>let ⟨u,e,q⟩:=r.v i v h;⟨u,e,q.lf le⟩⟩
def RS.drop(r:RS B W S H){l:List<|Addr×HO}(h:∀q∈l,q∈W.pr):RS B {W with pr:=l} S H:=
 ⟨r.fz,r.len,r.nd,λa p z=>let ⟨o,g,e,hh,ro,q⟩:=r.ob a p z;⟨o,g,e,hh,ro.lf .pr,q⟩,λq hq=>r.pf q<|h q hq⟩
def XL.hold{E:XK}{x:Xc}{pp:Addr×HO}(h:XL B W E x S):XL B {W with pr:=pp::W.pr} E x S:=λW' C dx H le rx=>
 h {W' with pr:=W.pr} C dx H ⟨le.f,le.m,rfl⟩ ⟨rx.s.drop λq hq=>by rw[le.r];exact xAs _ hq,rx.c,rx.f.imp id λ⟨d,vs,e1,e2,e3⟩=>⟨d,vs,e1,e2,e3.lf .pr⟩⟩
def zJp(K:xFr):V->Option Int->Option Int->Hp->VK->Prop:=λx a b H Q=>zHx K x a b H Q\/zHy K x a b H Q\/zHz K x a b H Q
def jv{m:Bool}{v z:U}{u:V}{lo hi:Option Int}(rs:RS B W S H)(r1:Rv B W v u)(h:slice m v lo hi S=.ok z S')(q:VL B W Q z S'):zJp B.K u lo hi H Q:=by
 unfold slice at h;split at h
 ·next xs=>
  split at h
  ·next hd=>
   cases h;obtain⟨p,ys,rfl,f,rr⟩:=r1;exact .inr<|.inr ⟨p,ys,rfl,.of<|rs.fz _ _ f,by rw[rr.length];exact xBe hd,q.here rs ⟨p,ys,rfl,f,rr⟩⟩
  ·next hd=>
   cases h;obtain⟨p,ys,rfl,f,rr⟩:=r1;have hl:=rr.length;refine .inl ⟨p,ys,rfl,.of<|rs.fz _ _ f,by rw[hl];exact xBf hd,λp' hp=>q.tup rs (nE rr lo hi) hp⟩
 ·split at h
  ·next xs e=>
   obtain⟨p,ys,rfl,sq,rr⟩:=iq rs r1 e;exact .inr<|.inl ⟨p,ys,rfl,sq,λp' hp=>ip h q rs (nE rr lo hi) hp⟩
  ·cases h
end
section
variable{B:Bs}{up:List<|Str×Str}{G:Gx Prop}{Ex:St->XK}{c a b d:TEx Prop}{as:TAx Prop}
variable{X:Cx}{e ea eb ec o:Expr}{es:List Expr}{pos p1 p2 p3 apos cpos:Pos}{x f m C:Str}{id T:String}{pm:Pm}{i:Nat}(g:zBs up G)
include g
theorem As{m:Bool}(hK:X.K=B.K)(ha:FE X B G Ex ea a)(hb:FE X B G Ex eb b):FE X B G Ex (.Subscript ea (.Slice (some eb) none none p2) pos)<|cP (.sl m true false)<|zAp a b:=
 ⟨wkE (ik (SlR.or lj<|SlR.or ju jt) ha.p (gO hb.p) mE) λτ H Q h=>(LE.p2 g ha.m hb.m h).imp ha.m λx H1 h1=>h1.imp hb.m λy H2 zz=>by
  obtain⟨W,S,v,w,z,S',rs,r1,r2,e,q⟩:=zz;cases w <;> try (cases e;done)
  have:=jv (lo:=some _) (hi:=none) rs r1 e q;rw[<- hK] at this;exact⟨_,r2,this⟩,mP g<|mAC g ha.m<|mAC g hb.m<|mAN g⟩
theorem Au{m:Bool}(hK:X.K=B.K)(ha:FE X B G Ex ea a)(hb:FE X B G Ex eb b):FE X B G Ex (.Subscript ea (.Slice none (some eb) none p2) pos)<|cP (.sl m false true)<|zAp a b:=
 ⟨wkE (ik (SlR.or lj<|SlR.or ju jt) ha.p mE<|gO hb.p) λτ H Q h=>(LE.p2 g ha.m hb.m h).imp ha.m λx H1 h1=>h1.imp hb.m λy H2 zz=>by
  obtain⟨W,S,v,w,z,S',rs,r1,r2,e,q⟩:=zz;cases w <;> try (cases e;done)
  have:=jv (lo:=none) (hi:=some _) rs r1 e q;rw[<- hK] at this;exact⟨_,r2,this⟩,mP g<|mAC g ha.m<|mAC g hb.m<|mAN g⟩
theorem Av{m:Bool}(hK:X.K=B.K)(ha:FE X B G Ex ea a)(hb:FE X B G Ex eb b)(hc:FE X B G Ex ec c):FE X B G Ex (.Subscript ea (.Slice (some eb) (some ec) none p2) pos)<|cP (.sl m true true)<|aC a<|zAp (cI b) c:=
 ⟨wkE (ik (SlR.or lj<|SlR.or ju jt) ha.p (gO hb.p)<|gO hc.p) λτ H Q ⟨W,σ,S,rs,rg,h⟩=>LE.go ha.m rs rg h λv S1 W1 u1 H1 le1 rs1 rv1 rg1 h1 =>
  LE.go hb.m rs1 rg1 (hb.m.m (XL.upf le1 _) (λ_ _ h=>h) h1) λw S2 W2 u2 H2 le2 rs2 rv2 rg2 h2=>by
   cases w <;> first|(exact(g.no h2).elim)|skip
   refine⟨_,rv2,?_⟩;refine LE.go hc.m rs2 rg2 (hc.m.m (XL.upf (le1.trans le2) _) (λ_ _ h=>h) h2) λw3 S3 W3 u3 H3 le3 rs3 rv3 _ h3=>?_;obtain⟨z,S4,e,q⟩:=g.pok h3;cases w3 <;> try (cases e;done)
   have:=jv (lo:=some _) (hi:=some _) rs3 ((rv1.mono le2).mono le3) e<|q.inc<|le1.trans<|le2.trans le3;rw[<- hK] at this;exact⟨_,rv3,this⟩,mP g<|mAC g ha.m<|mAC g (mCI g hb.m)<|mAC g hc.m<|mAN g⟩
omit g in
structure FP(X:Cx)(B:Bs)(G:Gx Prop)(Ex:St->XK)(pos:Pos)(kx:List (Option Expr))(ks:List Str)(es:List Expr)(as:TAx Prop):Prop where
 ex:∃trs,PPs X pos kx es trs/\∀τ H Q,LA B G Ex as τ H (λus H'=>Q ((ks.zip us).map λp=>(V.str p.1,p.2)) H')->zCn trs τ H Q
 m:zCc G as es.length
theorem Bl:FP X B G Ex pos [] [] [] aN:=⟨⟨[],tU,λτ H Q ⟨W,σ,S,rs,rg,h⟩=>h W [] H .refl rs rfl⟩,mAN g⟩
theorem Bm{k:Str}{j:Nat}(ha:FE X B G Ex e a)(hs:FP X B G Ex pos kx ks es as):FP X B G Ex pos (some (.Constant (.str k) j p2)::kx) (k::ks) (e::es)<|aC a as:=by
 obtain⟨trs,hp,hq⟩:=hs.ex;refine⟨⟨_,qh qr ha.p hp,λτ H Q ⟨W,σ,S,rs,rg,h⟩=>?_⟩,mAC g ha.m hs.m⟩;refine LE.go ha.m rs rg h λv S1 W1 u1 H1 le1 rs1 rv1 rg1 h1=>hq τ H1 _ ?_;exact LA.go hs.m rs1 rg1 (hs.m.m (XL.upf le1 _) (λ_ _ _ h=>h) h1) λvs S2 W2 us H2 _ le2 rs2 rvs _ h2=>h2 W2 (u1::us) H2 (le1.trans le2) rs2 ⟨u1,us,rfl,rv1.mono le2,rvs⟩
omit g in
theorem nD{W:Wd}:∀{ks:List Str}{vs:List U}{us:List V},Rvs B W vs us->Rn B W (zF9 ks vs) ((ks.zip us).map λp=>((Sum.inr p.1:Key),p.2))
 |[],vs,us,r=>by cases vs <;> rfl
 |k::ks,[],us,r=>by rw[show us=[] from r];rfl
 |k::ks,v::vs,us,r=>by
  obtain⟨u,t,rfl,h1,h2⟩:=r;exact⟨u,_,rfl,h1,nD h2⟩
omit g in
theorem fh:∀{ks:List Str},zA5 ks=true->ks.Nodup
 |[],_=>List.nodup_nil
 |k::ks,h=>by
  simp only[zA5,xCh,Bool.not_eq_true'] at h;refine xCb.mpr ⟨λhm=>?_,fh h.2⟩;have:(ks.any λy=>decide<|y=k)=true:=xCy.mpr ⟨k,hm,by simp⟩;rw[h.1] at this;cases this
omit g in
theorem pX{acc:List<|Key×V}{k:Key}{v:V}(h:k∉acc.map (·.1)):L2.putK acc k v=acc++[(k,v)]:=by
 unfold L2.putK;rw[xCf];intro z;obtain⟨p,hp,e⟩:=xCy.mp z;exact h<|xA2.mpr ⟨p,hp,xBe e⟩
omit g in
theorem iY:∀{more acc:List<|Key×V},(acc.map (·.1)++more.map (·.1)).Nodup->zBg acc more=acc++more
 |[],acc,_=>by simp[zBg]
 |p::t,acc,h=>by
  have hn:p.1∉acc.map (·.1):=λz=>by
   have:=(xBq.mp h).2.2 p.1 z p.1 (by simp);exact this rfl
  show zBg (L2.putK acc p.1 p.2) t=_;rw[pX hn,iY<|by simpa [xAx] using h];simp
omit g in
theorem jV:∀{ks:List Str}{us:List V},ks.length=us.length->(ks.zip us).map ((λx=>x.1) ∘ λp=>((Sum.inr p.1:Key),p.2))=ks.map λk=>(Sum.inr k:Key)
 |[],_,_=>rfl
 |k::t,[],h=>by cases h
 |k::t,u::r,h=>by rw[List.zip_cons_cons,xBs,xBs,jV<|by simpa using h];rfl
theorem AG(hp:FP X B G Ex pos kx ks es as)(hn:zA5 ks=true)(hl:ks.length=es.length)(hk:kx.length=es.length)(hall:kx.all (·.isSome)=true)(h0:kx≠[])(h15:ks.length<=15):FE X B G Ex (.Dict kx es pos)<|cP (.dct ks) as:=by
 obtain⟨trs,h1,h2⟩:=hp.ex;refine⟨wkE (ua h1 hall hk h0<|by lia) λτ H Q ⟨W,σ,S,rs,rg,h⟩=>?_,mP g hp.m⟩;intro p hpn;refine h2 τ _ _ ?_;refine LA.go hp.m (rs.hold (o:=.dK []) hpn λ_=>nofun) (rg.lf .pr) (hp.m.m (λ_ _=>XL.hold) (λ_ _ _ h=>h) h) λvs S1 W1 us H1 hvl le1 rs1 rv1 _ h3=>?_;obtain⟨z,S2,e,q⟩:=g.pok h3;delta pr at e;dsimp only at e;split at e
 ·cases e;have hu:=rv1.length;have hpr:W1.pr=(p,.dK [])::W.pr:=le1.r;refine⟨(rs1.pf _<|by rw[hpr];exact xAr).1,(ks.zip us).map λp=>((Sum.inr p.1:Key),p.2),by rw[List.map_map];rfl,by rw[xAa,List.length_zip];lia,?_⟩;have hnd:(((ks.zip us).map λp=>((Sum.inr p.1:Key),p.2)).map (·.1)).Nodup:=by
   rw[List.map_map];have:=jV (ks:=ks) (us:=us) (by lia);rw[this];exact List.Pairwise.map _ (λa b h z=>h<|Sum.inr.inj z)<|fh hn
  rw[iY (acc:=[])<|by simpa using hnd];have hne:∀q∈W.pr,q.1≠p:=λq hq z=>by rw[<- z,(rs.pf q hq).1] at hpn;cases hpn
  have lf:W1.Lf {W1 with pr:=W.pr,μ:=W1.μ++[p]}:=⟨λ_ _ h=>h,λ_ _ h=>eR h⟩
  obtain⟨rs2,ha⟩:=rs1.heldS (b:=.dct<|zF9 ks vs) (h:=.dK<|[]++(ks.zip us).map λp=>((Sum.inr p.1:Key),p.2)) hpr hne ⟨_,rfl,by rw[xC6];exact(nD rv1).lf lf⟩;exact q {W1 with pr:=W.pr,μ:=W1.μ++[p]} _ _ ⟨λb o z=>le1.f b o z,λa b z=>eR<|le1.m a b z,rfl⟩ rs2 ⟨p,rfl,ha⟩
 ·cases e
theorem Bt:FE X B G Ex (.Dict [] [] pos)<|cP (.dct []) aN:=
 ⟨wkE qz λτ H Q zz=>by
  obtain⟨W,σ,S,rs,rg,h⟩:=zz;obtain⟨z,S2,e,q⟩:=g.pok h;cases e;intro p hp;have le:W.Le {W with μ:=W.μ++[p]}:=⟨λ_ _ h=>h,λ_ _ h=>eR h,rfl⟩
  obtain⟨_,rs',ha⟩:=rs.push (o:=.dct []) (h:=.dK []) hp ⟨[],rfl,rfl⟩;exact q _ _ _ le rs' ⟨p,rfl,ha⟩,mP g<|mAN g⟩
end
def we:bootBuiltins "isinstance"=some (.builtin "isinstance"):=by decide +kernel
noncomputable def tys:List String:=["NoneType","bool","int","str","tuple","list","dict"]
structure ClT(B:Bs):Prop where
 ty:∀{C c H a dx fs},B.cl C c->H a=some (.ins c dx fs)->zB1 B.K H (.ref a) (.ref c)
structure zCq(B:Bs)(n:String):Prop where
 t:∀t∈tys,PySem.W.kitOne B.K (.type t) (.type n)=some (zFj t n)
 o:∀{C c},B.cl C c->PySem.W.kitOne B.K (.ref c) (.type n)=some (zFj "object" n)
structure zFz(B:Bs)(up:List (Str×Str))(D:Str)(d:Addr):Prop where
 t:∀t∈tys,PySem.W.kitOne B.K (.type t) (.ref d)=some false
 o:∀{C c},B.cl C c->PySem.W.kitOne B.K (.ref c) (.ref d)=some (isC up C D)
section
variable{B:Bs}{W:Wd}{S S':So}{H:Hp}
theorem pB{v:U}{u:V}{t:String}(T:ClT B)(rs:RS B W S H)(r:Rv B W v u)(h:tyU S v=some t):(t∈tys/\zB1 B.K H u (.type t))\/(t="object"/\∃p C fs c,v=.ref p/\at? S p=some (.ins C fs)/\B.cl C c/\zB1 B.K H u (.ref c)):=by
 cases v with
 |non=>cases h;rw[show u=_ from r];exact .inl ⟨by decide,.non⟩
 |bl b=>cases h;rw[show u=_ from r];exact .inl ⟨by decide,.bl b⟩
 |int i=>cases h;rw[show u=_ from r];exact .inl ⟨by decide,.int i⟩
 |str x=>cases h;rw[show u=_ from r];exact .inl ⟨by decide,.str x⟩
 |tup xs=>cases h;obtain⟨p,vs,rfl,f,_⟩:=r;exact .inl ⟨by decide,.tup<|rs.fz _ _ f⟩
 |lst xs=>cases h;obtain⟨p,vs,rfl,f,_⟩:=r;exact .inl ⟨by decide,.lst<|rs.fz _ _ f⟩
 |ref p=>
  unfold tyU at h;dsimp only at h;obtain⟨a,rfl,hm⟩:=r;cases e:at? S p with
  |none=>rw[e] at h;cases h
  |some o=>
   obtain⟨a',g,hm',hh,ro,_⟩:=rs.here e;rw[hm] at hm';cases hm';rw[e] at h;cases o with
   |lst xs=>cases h;obtain⟨vs,rfl,_⟩:=ro;exact .inl ⟨by decide,.lst hh⟩
   |dct kvs=>cases h;obtain⟨vs,rfl,_⟩:=ro;exact .inl ⟨by decide,.dK hh⟩
   |ins C fs=>cases h;obtain⟨c,dx,vs,hc,rfl,_⟩:=ro;exact .inr ⟨rfl,p,C,fs,c,rfl,e,hc,T.ty hc hh⟩
   |dead=>cases h
 |_=>cases h
def pw{v z:U}{u:V}{T:String}{up:List<|Str×Str}(rs:RS B W S H)(r:Rv B W v u)(h:pr up (.typ T) [v] S=.ok z S')(hT:T="list"\/T="str"):z=v/\S'=S/\tyV B.K T u H:=by
 delta pr at h;dsimp only at h;split at h
 ·next t e=>
  split at h
  ·next et=>
   cases h;refine⟨rfl,rfl,?_⟩;have et:t=T:=beq_iff_eq.mp et;subst et;rcases hT with rfl|rfl
   ·cases v with
    |lst xs=>obtain⟨p,vs,rfl,f,_⟩:=r;exact .inl ⟨rfl,vs,.of<|rs.fz _ _ f⟩
    |ref p=>
     unfold tyU at e;dsimp only at e;cases e2:at? S p with
     |none=>rw[e2] at e;cases e
     |some o=>
      rw[e2] at e;cases o <;> try (simp at e;done)
      obtain⟨a',vs,e3,hh,_⟩:=fb rs r (xs:=_) (by unfold lsT;dsimp only;rw[e2]);subst e3;exact .inl ⟨rfl,vs,.of hh⟩
    |_=>simp[tyU] at e
   ·cases v with
    |str x=>rw[show u=_ from r];rfl
    |ref p=>
     unfold tyU at e;dsimp only at e;split at e <;> simp at e
    |_=>simp[tyU] at e
  ·cases h
 ·cases h
end
section
variable{B:Bs}{up:List<|Str×Str}{G:Gx Prop}{Ex:St->XK}{c a b d:TEx Prop}{as:TAx Prop}
variable{X:Cx}{e ea eb ec o:Expr}{es:List Expr}{pos p1 p2 p3 apos cpos:Pos}{x y f m C:Str}{id T:String}{pm:Pm}{i:Nat}(g:zBs up G)
include g
theorem nz(hK:X.K=B.K)(ct:ClT B)(kt:zCq B T)(hg:Gl X "isinstance")(hm:X.mg "isinstance"=none)(hgy:Gl X y)(hmy:X.mg y=none)(hvy:bootBuiltins y=some (.type T))(hny:y≠"__name__")(hdy:(y==("__debug__":Str))=false)(ha:FE X B G Ex ea a)(hst:zAa ea=true):FE X B G Ex (.Call (.Name "isinstance" p1) [ea,.Name y p2] [] pos)<|cP (.isT T)<|aC a aN:=
 ⟨wkE (mJ yA hg hm we (lC ha.p (lC (ub hgy hmy hvy (v:=.ty T) rfl hny hdy) im rfl) hst)<|by rw[xCj,hst];rfl) λτ H Q h=>(LE.p1 g ha.m h).imp ha.m λu H1 zz=>by
  obtain⟨W,S,v,z,S',rs,r1,e,q⟩:=zz;delta pr at e;dsimp only at e;split at e
  ·next t et=>
   cases e;rcases pB ct rs r1 et with ⟨ht,ty⟩|⟨rfl,p,C,fs,c,_,_,hc,ty⟩
   ·exact⟨u,T,_,_,rfl,by rw[hK];exact ty,by rw[hK];exact kt.t _ ht,q.here rs rfl⟩
   ·exact⟨u,T,_,_,rfl,by rw[hK];exact ty,by rw[hK];exact kt.o hc,q.here rs rfl⟩
  ·(cases e),mP g<|mAC g ha.m<|mAN g⟩
theorem AA{dd:Addr}(hK:X.K=B.K)(ct:ClT B)(kt:zFz B up y dd)(hg:Gl X "isinstance")(hm:X.mg "isinstance"=none)(hgy:Gl X y)(hmy:X.mg y=some (.ref dd))(hdy:(y==("__debug__":Str))=false)(ha:FE X B G Ex ea a)(hst:zAa ea=true):FE X B G Ex (.Call (.Name "isinstance" p1) [ea,.Name y p2] [] pos)<|cP (.isC y)<|aC a aN:=
 ⟨wkE (mJ o6 hg hm we (lC ha.p (lC (gP hgy hmy (v:=.ref dd) rfl hdy) im rfl) hst)<|by rw[xCj,hst];rfl) λτ H Q h=>(LE.p1 g ha.m h).imp ha.m λu H1 zz=>by
  obtain⟨W,S,v,z,S',rs,r1,e,q⟩:=zz;have fin:∀t b,tyU S v=some t->(t≠"object"->b=false)->(∀p C fs,v=.ref p->at? S p=some (.ins C fs)->b=isC up C y)->z=.bl b->S'=S->∃x C t b,[u,V.ref dd]=[x,V.ref C]/\zB1 X.K H1 x t/\PySem.W.kitOne X.K t (.ref C)=some b/\Q (.bl b) H1:=λt b et h1 h2 hz hs=>by
   subst hz hs;rcases pB ct rs r1 et with ⟨ht,ty⟩|⟨rfl,p,C,fs,c,ev,ea,hc,ty⟩
   ·have:b=false:=h1 λz=>by rw[z] at ht;revert ht;decide
    exact⟨u,dd,_,false,rfl,by rw[hK];exact ty,by rw[hK];exact kt.t _ ht,by rw[<- this];exact q.here rs rfl⟩
   ·exact⟨u,dd,_,_,rfl,by rw[hK];exact ty,by rw[hK];exact kt.o hc,by rw[<- h2 p C fs ev ea];exact q.here rs rfl⟩
  change zFl y v S up=_ at e;unfold zFl at e;split at e
  ·next p=>
   split at e
   ·next C fs e2=>cases e;exact fin "object" _ (by unfold tyU;dsimp only;rw[e2]) (λz=>absurd rfl z) (λp' C' fs' z z2=>by cases z;rw[e2] at z2;cases z2;rfl) rfl rfl
   ·next xs e2=>cases e;exact fin "list" _ (by unfold tyU;dsimp only;rw[e2]) (λ_=>rfl) (λp' C' fs' z z2=>by cases z;rw[e2] at z2;cases z2) rfl rfl
   ·next xs e2=>cases e;exact fin "dict" _ (by unfold tyU;dsimp only;rw[e2]) (λ_=>rfl) (λp' C' fs' z z2=>by cases z;rw[e2] at z2;cases z2) rfl rfl
   ·cases e
  ·next hne=>
   split at e
   ·next t et=>cases e;exact fin t _ et (λ_=>rfl) (λp C fs z _=>(hne p z).elim) rfl rfl
   ·(cases e),mP g<|mAC g ha.m<|mAN g⟩
omit g in
def PrM(B:Bs)(up:List<|Str×Str)(p:Pm)(r:V->List V->Hp->VK->Prop):Prop:=∀{W:Wd}{S:So}{H:Hp}{v:U}{u:V}{vs:List U}{us:List V}{z:U}{S':So}{Q:VK},RS B W S H->Rv B W v u->Rvs B W vs us->pr up p (v::vs) S=.ok z S'->VL B W Q z S'->r u us H Q
theorem wa{r:V->List V->Hp->VK->Prop}(hK:X.K=B.K)(pa:PlainAttrs T)(slot:Slot T name id)(hty:typeOf (.builtin id)=pure (.type "method_descriptor"))(hm:MtR X id r)(hp:PrM B up pm r)(hT:T="list"\/T="str")(ho:FE X B G Ex o a)(he:FE X B G Ex e b)(h:zBf o=true)(h2:zAa e=true)(hl:(apos.endLine==cpos.line)=true):FE X B G Ex (.Call (.Attribute o name apos) [e] [] cpos)<|cBM T pm a<|aC b aN:=
 ⟨wkE (A9 pa slot hty hm ho.p (f9 g he (iR g) h2).p h h2 hl) λτ H Q ⟨W,σ,S,rs,rg,hh⟩=>LE.go ho.m rs rg hh λv S1 W1 u1 H1 le1 rs1 rv1 rg1 h1=>by
  obtain⟨z,S2,e2,h2⟩:=g.pok h1;obtain⟨rfl,rfl,ty⟩:=pw rs1 rv1 e2 hT;have fa:FA X B G Ex [e]<|aC b aN:=f9 g he (iR g) ‹_›;refine⟨by rw[hK];exact ty,LA.go fa.m rs1 rg1 (fa.m.m (XL.upf le1 _) (λ_ _ _ h=>h) h2) λws S3 W3 us H3 hl le3 rs3 rv3 _ h3=>?_⟩;obtain⟨z3,S4,e4,q⟩:=g.pok h3;exact hp rs3 (rv1.mono le3) rv3 e4 (q.inc<|le1.trans le3),mBM g ho.m<|mAC g he.m<|mAN g⟩
theorem AJ{r:V->List V->Hp->VK->Prop}(hK:X.K=B.K)(pa:PlainAttrs T)(slot:Slot T name id)(hty:typeOf (.builtin id)=pure (.type "method_descriptor"))(hm:MtR X id r)(hp:PrM B up pm r)(hT:T="list"\/T="str")(ho:FE X B G Ex o a)(h:zBf o=true)(hl:(apos.endLine==cpos.line)=true):FE X B G Ex (.Call (.Attribute o name apos) [] [] cpos)<|cBM T pm a aN:=
 ⟨wkE (zt pa slot hty hm ho.p h hl) λτ H Q ⟨W,σ,S,rs,rg,hh⟩=>LE.go ho.m rs rg hh λv S1 W1 u1 H1 le1 rs1 rv1 rg1 h1=>by
  obtain⟨z,S2,e2,h2⟩:=g.pok h1;obtain⟨rfl,rfl,ty⟩:=pw rs1 rv1 e2 hT;obtain⟨z3,S4,e4,q⟩:=g.pok h2;exact⟨by rw[hK];exact ty,hp (vs:=[]) rs1 rv1 rfl e4<|q.inc le1⟩,mBM g ho.m<|mAN g⟩
omit g in
theorem zM:PrM B up .app zC6:=by
 intro W S H v u vs us z S' Q rs rv rvs h q;cases vs with
 |nil=>cases v <;> cases h
 |cons w t=>cases t with
  |cons _ _=>cases v <;> cases h
  |nil=>
   cases v <;> try (cases h;done)
   obtain⟨xs,aa,ys,e1,h2,e2,hm,hh,rr⟩:=m7 rs rv h;obtain⟨hl,e3⟩:=eK h2;cases e3;obtain⟨u2,rfl,r2⟩:=rvs.inv1;exact⟨aa,ys,u2,e2,rfl,hh,by rw[rr.length];lia,q.here (rs.mut hm e1 (by nofun) ⟨_,rfl,rr.app<|.one r2⟩) rfl⟩
omit g in
theorem lL{W:Wd}{v:U}(rr:Rvs B W xs ys)(h:xs.getLast?=some v):∃y,ys[ys.length-1]?=some y/\Rv B W v y:=by
 rw[List.getLast?_eq_getElem?] at h;rw[rr.length];exact rr.get h
omit g in
theorem kP{W:Wd}(rr:Rvs B W xs ys):Rvs B W xs.dropLast ys.dropLast:=by
 rw[List.dropLast_eq_take,List.dropLast_eq_take,rr.length];exact rr.take _
omit g in
theorem zB:PrM B up .pop zH1:=by
 intro W S H v u vs us z S' Q rs rv rvs h q;cases vs with
 |cons w t=>cases v <;> cases h
 |nil=>
  cases v <;> try (cases h;done)
  obtain⟨xs,aa,ys,e1,h2,e2,hm,hh,rr⟩:=m7 rs rv h;split at h2
  ·next w hw=>
   cases h2;obtain⟨y,e3,ry⟩:=lL rr hw;exact⟨aa,ys,y,e2,rvs,hh,e3,q.here (rs.mut hm e1 (by nofun) ⟨_,rfl,kP rr⟩) ry⟩
  ·cases h2
omit g in
omit g in
theorem xm:PrM B up .join λx vs H Q=>∃(sep:Str) (l:Addr) (w:Str),x=.str sep/\vs=[.ref l]/\H l=some (.lst [.str w])/\w.length+sep.length<=sizeLine/\Q (.str w) H:=by
 intro W S H v u vs us z S' Q rs rv rvs h q;delta pr at h;dsimp only at h;split at h
 ·next p hp=>
  obtain⟨rfl,rfl⟩:=uJ hp;obtain⟨hl,e⟩:=eK h;cases e;obtain⟨u2,rfl,r2⟩:=rvs.inv1;obtain⟨a,ys,rfl,f,rr⟩:=r2;obtain⟨u3,rfl,r3⟩:=rr.inv1;rw[show u3=_ from r3] at f;exact⟨p.1,a,p.2,rv,rfl,rs.fz _ _ f,hl,q.here rs rfl⟩
 ·cases h
theorem v5(hK:X.K=B.K)(h:FE X B G Ex e c)(he:∀whole,isTrue e X.env whole=(do let v <- whole;standAt e.pos;holding [v] (truthy v))):FT X B G Ex e<|tB<|cP .tru<|aC c aN:=by
 have mm:=mP g (p:=.tru)<|mAC g h.m<|mAN g;refine⟨wkT (pY h.p he) λτ H Q hh=>?_,mB g mm⟩;have h':LE B G Ex (cP .tru<|aC c aN) τ H λx H'=>∃k,x=.bl k/\Q k H':=by
  obtain⟨W,σ,S,rs,rg,hh⟩:=hh;refine LE.go mm rs rg hh λv S' W' u H' le rs' rv rg' h'=>?_;cases v <;> first|(exact(g.no h').elim)|exact⟨_,rv,h' W' H' le rs'⟩
 refine(LE.p1 g h.m h').imp h.m λu H1 zz=>?_;obtain⟨W,S,v,z,S',rs,r1,e,q⟩:=zz;change obB (zEp S v) id S=_ at e;unfold obB at e;split at e
 ·next b eb=>
  cases e;obtain⟨k,ek,qk⟩:=q.here rs (u:=.bl b) rfl;cases ek;refine⟨b,?_,qk⟩;have seq:∀xs,sqU S v=some xs->b=!xs.isEmpty->zHi X.K u H1 b:=λxs ex hb=>by
   obtain⟨p,ys,rfl,sq,rr⟩:=gi rs r1 ex;have hb':b=!ys.isEmpty:=by rw[hb];cases xs <;> cases ys <;> first|rfl|(have:=rr.length;simp at this)
   rw[hK];rcases sq with sq|sq
   ·exact .inl ⟨ys,sq,hb'⟩
   ·exact .inr<|.inl ⟨ys,sq,hb'⟩
  unfold zEp at eb;split at eb
  ·cases eb;rw[show u=_ from r1];rfl
  ·next p=>
   split at eb
   ·next xs e2=>exact seq xs (by show lsU S (.ref p)=_;unfold lsU;dsimp only;rw[e2]) (xB3 eb).symm
   ·cases eb
  ·cases eb
 ·cases e
omit g in
structure KdF(wo:World)(B:Bs):Prop where
 d:∀{p kvs no},B.kd p kvs no->KD wo B.K p
 y:∀{p kvs no x v},B.kd p kvs no->zAj x kvs=some v->∃u val,PySem.W.nsIn B.K p x=some (some val)/\zAi u val/\∀W,Rv B W v u
 n:∀{p kvs no x},B.kd p kvs no->x∈no->PySem.W.nsIn B.K p x=some none
theorem yq{no:List Str}{p:Addr}(hK:X.K=B.K)(F:KdF X.w B)(hd:B.kd p kvs no)(hg:Gl X x)(hm:X.mg x=some (.ref p))(hdb:(x==("__debug__":Str))=false)(he:FE X B G Ex e b)(h2:zAa e=true)(hl:(apos.endLine==cpos.line)=true):FE X B G Ex (.Call (.Attribute (.Name x p1) "get" apos) [e] [] cpos)<|cP .get1<|aC (cC<|.kd kvs no)<|aC b aN:=
 ⟨wkE (tZ (by rw[hK];exact F.d hd) (gP hg hm (v:=.ref p) rfl hdb) he.p ⟨fL rfl,by rw[dj h2];rfl,hl,by rw[dj h2];rfl⟩) λτ H Q ⟨W,σ,S,rs,rg,hh⟩=>LE.go he.m rs rg hh λv S1 W1 u1 H1 le1 rs1 rv1 rg1 h1=>by
  obtain⟨z,S2,e2,q⟩:=g.pok h1;cases v <;> try (cases e2;done)
  change opt _ _=_ at e2;unfold opt at e2;split at e2
  ·next v' ev=>
   cases e2;obtain⟨u,val,e3,r3,r4⟩:=F.y hd ev;exact⟨_,u,val,rv1,by rw[hK];exact e3,r3,(q.inc le1).here rs1<|r4 _⟩
  ·(cases e2),mP g<|mAC g (mC g)<|mAC g he.m<|mAN g⟩
theorem yp{no:List Str}{p:Addr}(hK:X.K=B.K)(F:KdF X.w B)(hd:B.kd p kvs no)(hg:Gl X x)(hm:X.mg x=some (.ref p))(hdb:(x==("__debug__":Str))=false)(he:FE X B G Ex e b)(hc:FE X B G Ex ec c)(h2:zAa e=true)(h3:zAa ec=true)(hl:(apos.endLine==cpos.line)=true):FE X B G Ex (.Call (.Attribute (.Name x p1) "get" apos) [e,ec] [] cpos)<|cP .get2<|aC (cC<|.kd kvs no)<|zAp b c:=
 ⟨wkE (qx (by rw[hK];exact F.d hd) (gP hg hm (v:=.ref p) rfl hdb) he.p hc.p ⟨fL rfl,by rw[dj h2,dj h3];rfl,hl,by rw[dj h2,dj h3];rfl⟩) λτ H Q ⟨W,σ,S,rs,rg,hh⟩=>LE.go he.m rs rg hh λv S1 W1 u1 H1 le1 rs1 rv1 rg1 h1 =>
  LE.go hc.m rs1 rg1 (hc.m.m (XL.upf le1 _) (λ_ _ h=>h) h1) λw S2 W2 u2 H2 le2 rs2 rv2 _ h2=>by
   obtain⟨z,S3,e2,q⟩:=g.pok h2;cases v <;> try (cases e2;done)
   delta pr at e2;dsimp only at e2;split at e2
   ·next v' ev=>
    cases e2;obtain⟨u,val,e3,r3,r4⟩:=F.y hd ev;exact⟨_,u,some val,rv1,by rw[hK];exact e3,λ_ z=>by cases z;exact r3,nofun,(q.inc<|le1.trans le2).here rs2<|r4 _⟩
   ·split at e2
    ·next hn=>
     cases e2;obtain⟨y,hy,ey⟩:=xCy.mp hn;have ey:=xBe ey;subst ey;exact⟨_,u2,none,rv1,by rw[hK];exact F.n hd hy,nofun,λ_=>rfl,(q.inc<|le1.trans le2).here rs2 rv2⟩
    ·(cases e2),mP g<|mAC g (mC g)<|mAC g he.m<|mAC g hc.m<|mAN g⟩
end
end Fx
namespace L2
open PySem PySem.Spec PyProof.Rows RevA
variable{w:World}{K:xFr}{lim k:Nat}{a it:Addr}{elts:List Expr}{pos:Pos}{x:V}{kx:Bool}
def sqB(k:Bool)(K:xFr)(H:Hp)(a:Addr)(xs:List V):Prop:=match k with
 |true=>SqT K H a xs
 |false=>SqL K H a xs
def sqK(k:Bool)(K:xFr)(H:Hp)(x:V)(xs:List V):Prop:=∃a,x=.ref a/\sqB k K H a xs
structure SrW(k:Bool)(P:Program)(w:World)(K:xFr)(lim:Nat)(x:V)(it:Addr)(tn:Nat->Heap->Prop):Prop where
 obj:∀i h,tn i h->∃o,h.get? it=some o/\∀v,o.data≠.cell v
 keep:∀i h h',tn i h->(∀o,h.get? it=some o->h'.get? it=some o)->tn i h'
 dr:∀(X:Cx),X.prog=P->X.w=w->X.K=K->X.calm=true->∀(Z:List (Addr×Obj))(σ:St)(H:Hp)(s:Shared),Inv X Z σ H s->∀xs,sqK k K H x xs->∃(f:List Addr) (Pv:Nat->Value->Prop) (S:Nat->Heap->Prop),
  (∀b∈f,b=it\/b<lim)/\Draws P w X.A.in1 it f xs.length Pv S/\(∀i,tn i s.heap->S i s.heap)/\(∀i h,S i h->tn i h)/\(∀i v,Pv i v->∃u,xs[i]?=some u/\zAi u v)/\∀ys,sqK k K H x ys->ys=xs
def tq{P:Program}(ha:a<lim)(hi:lim<=it):SrW true P w K lim (.ref a) it (λi h=>h.IsTupleIter it a i) where
 obj:=λi h ⟨o,e,_,d⟩=>⟨o,e,λv z=>by rw[d] at z;cases z⟩
 keep:=λi h h' st k=>st.at λo e=>k o e
 dr:=by
  intro X hP hw hK hc Z σ H s I xs hx;subst hP hw hK;obtain⟨b,e,hx⟩:=hx
  ·cases e;obtain⟨its,rv,p,hz⟩:=I.tuple hx;have hl:=rv.length;have D:=zFq (prog:=X.prog) (w:=X.w) (A:=X.A.in1) (by simpa using I.ok.hd hc) it a (xA0<|xBc ha hi) its.toArray;rw[xAp,<- hl] at D;refine⟨_,_,_,λb hb=>?_,D,λi st=>⟨st,p⟩,λi h st=>st.1,λi v hv=>?_,λys hy=>?_⟩
   ·simp only[xAv,xBv,or_false] at hb;rcases hb with rfl|rfl
    ·exact .inl rfl
    ·exact .inr ha
   ·have hv:its[i]?=some v:=by simpa using hv
    have hi:i<xs.length:=by rw[hl];exact(xAq.mp hv).1
    obtain⟨u,hu,ru⟩:=rv.get<|xAk hi;rw[hv] at hu;cases hu;exact⟨_,xAk hi,ru⟩
   ·obtain⟨b,e,hy⟩:=hy;cases e;exact I.tuple_inj hy hx
def tu{P:Program}(ha:a<lim)(hi:lim<=it):SrW false P w K lim (.ref a) it (λi h=>h.IsListIter it a i) where
 obj:=λi h ⟨o,e,_,d⟩=>⟨o,e,λv z=>by rw[d] at z;cases z⟩
 keep:=λi h h' st k=>st.at λo e=>k o e
 dr:=by
  intro X hP hw hK hc Z σ H s I xs hx;subst hP hw hK;obtain⟨b,e,hx⟩:=hx
  ·cases e;obtain⟨its,rv,p,hz⟩:=I.list hx;have hl:=rv.length;have D:=Draws.list (prog:=X.prog) (w:=X.w) (A:=X.A.in1) (by simpa using I.ok.hd hc) it a (xA0<|xBc ha hi) its.toArray;rw[xAp,<- hl] at D;refine⟨_,_,_,λb hb=>?_,D,λi st=>⟨st,p.isList⟩,λi h st=>st.1,λi v hv=>?_,λys hy=>?_⟩
   ·simp only[xAv,xBv,or_false] at hb;rcases hb with rfl|rfl
    ·exact .inl rfl
    ·exact .inr ha
   ·have hv:its[i]?=some v:=by simpa using hv
    have hi:i<xs.length:=by rw[hl];exact(xAq.mp hv).1
    obtain⟨u,hu,ru⟩:=rv.get<|xAk hi;rw[hv] at hu;cases hu;exact⟨_,xAk hi,ru⟩
   ·obtain⟨b,e,hy⟩:=hy;cases e;exact I.list_inj hy hx
def zHn(kx ky:Bool)(K:xFr)(x y:V):It:=
 ⟨λi H=>∃xs ys u v,sqK kx K H x xs/\sqK ky K H y ys/\xs[i]?=some u/\ys[i]?=some v,
  λi H p H'=>∃(q:Addr) (u v:V),p=.ref q/\H q=none/\H'=upd H q (.tup [u,v])/\(∀xs,sqK kx K H x xs->xs[i]?=some u)/\∀ys,sqK ky K H y ys->ys[i]?=some v,
  λi H=>∃xs,sqK kx K H x xs/\xs.length=i⟩
def nO{P:Program}{y:V}{n:Nat}{t1 t2:Nat->Heap->Prop}{ky:Bool}(s1:SrW kx P w K n x n t1)(s2:SrW ky P w K n y (n+1) t2) :
  zDz P w K (.Tuple elts k pos) (zHn kx ky K x y) [n+4,n+2,n+3,n,n+1] (n+4) (λi h=>IsZip h (n+4) (n+2) (n+3) .none/\IsPair h (n+2) (.ref n) (.ref<|n+1)/\(∃x y,IsPair h (n+3) x y)/\t1 i h/\t2 i h) where
 mem:=by simp
 obj:=λi h st c hc=>by
  obtain⟨q1,q2,⟨x,y,q3⟩,q4,q5⟩:=st;simp only[xAv,xBv,or_false] at hc;rcases hc with rfl|rfl|rfl|rfl|rfl
  ·exact⟨_,q1,λv z=>by cases z⟩
  ·exact⟨_,q2,λv z=>by cases z⟩
  ·exact⟨_,q3,λv z=>by cases z⟩
  ·exact s1.obj i h q4
  ·exact s2.obj i h q5
 keep:=λi h h' st k=>by
  obtain⟨q1,q2,⟨x,y,q3⟩,q4,q5⟩:=st;exact⟨k _ (by simp) _ q1,k _ (by simp) _ q2,⟨x,y,k _ (by simp) _ q3⟩,s1.keep i h h' q4 λo e=>k _ (by simp) o e,s2.keep i h h' q5 λo e=>k _ (by simp) o e⟩
 item:=by
  intro X hP hw hK hc i Z s σ H E I hf st hg;subst hP hw hK;obtain⟨xs,ys,u,v,hq,hr,hx,hy⟩:=hg;obtain⟨q1,q2,⟨x0,y0,q3⟩,q4,q5⟩:=st;obtain⟨f1,P1,S1,m1,D1,a1,c1,r1,j1⟩:=s1.dr X rfl rfl rfl hc Z σ H s I xs hq;obtain⟨f2,P2,S2,m2,D2,a2,c2,r2,j2⟩:=s2.dr X rfl rfl rfl hc Z σ H s I ys hr;have AP:=pj (f1:=f1) (f2:=f2) m1 m2;have lz:n+4<s.heap.objs.size:=xA1 q1;have h0:H s.heap.objs.size=none:=I.hok.fresh<|xAg _;refine nM D1 D2 AP q1 q2 q3 (a1 i q4) (a2 i q5) (xAq.mp hx).1 (xAq.mp hy).1 λu1 v1 h1 tk p1 p2 b1 b2 b3 b4 b5 hk=>?_;obtain⟨u',hu',ru⟩:=r1 i u1 p1;rw[hx] at hu';cases hu';obtain⟨v',hv',rv⟩:=r2 i v1 p2;rw[hy] at hv';cases hv';have I1:Inv X Z σ (upd H s.heap.objs.size<|.tup [u,v]) {s with heap:=s.heap.push {cls:=.type "tuple",data:=.seq #[u1,v1]},toks:=tk}:=by
   refine I.laid (λb o e=>xAf _ e) (xAg _) ⟨by simp[sizeLine_eq],[u1,v1],.cons ru<|.cons rv .nil,_,xAl _ rfl,rfl,_,rfl⟩
  refine⟨_,rfl,wpAny_letOwnedTupleGo_zip (s:={s with heap:=h1,toks:=tk}) b1 λh2 e1 hs2=>?_⟩;have hs2':Heap.SameBut (n+4) h1 h2:=hs2;have fp':∀b∈[n+4,n+2,n+3,n,n+1],zDc X Z (upd H s.heap.objs.size<|.tup [u,v]) b:=λb hb=>by
   obtain⟨f0,f⟩:=hf b hb;refine⟨?_,f⟩;rw[db]
   ·exact f0
   ·simp only[xAv,xBv,or_false] at hb;rcases hb with rfl|rfl|rfl|rfl|rfl <;> exact xA0 (by lia)
  have I2:=Inv.turnedL (t':=tk) (h':=h2) (fp:=[n+4,n+2,n+3,n,n+1]) I1 (λb o hb eb=>?_) fp'
  ·refine⟨.ref s.heap.objs.size,_,I2,rfl,⟨_,u,v,rfl,h0,rfl,λzs hz=>by rw[j1 zs hz];exact hx,λzs hz=>by rw[j2 zs hz];exact hy⟩,⟨e1,?_,⟨u1,v1,?_⟩,?_,?_⟩,λb hb=>(fp' b hb).1⟩
   ·exact(hs2'.2 _ AP.q1).trans<|hk _ _ AP.q1 AP.q5 AP.q6 AP.q7 q2
   ·exact(hs2'.2 _ AP.q2).trans b2
   ·exact s1.keep _ _ _ (c1 _ _ b3) λo e=>(hs2'.2 _ AP.q3).trans e
   ·exact s2.keep _ _ _ (c2 _ _ b4) λo e=>(hs2'.2 _ AP.q4).trans e
  ·simp only[xAv,xBv,or_false,not_or] at hb;rw[hs2'.2 b hb.1];by_cases zz:b=s.heap.objs.size
   ·subst zz;rw[show h1.get? s.heap.objs.size=_ from b5];rw[<- eb];exact(xAl _ rfl).symm
   ·refine hk b o hb.1 hb.2.2.1 hb.2.2.2.1 hb.2.2.2.2 ?_;exact(Heap.get?_push_cases eb).elim (λy=>absurd y.1 zz) id
 done:=by
  intro X hP hw hK hc i Z s σ H E I hf st hg;subst hP hw hK;obtain⟨xs,hq,rfl⟩:=hg;obtain⟨q1,q2,⟨x0,y0,q3⟩,q4,q5⟩:=st;obtain⟨f1,P1,S1,m1,D1,a1,c1,r1,j1⟩:=s1.dr X rfl rfl rfl hc Z σ H s I xs hq;have AP:=pj (f1:=f1) (f2:=[]) m1 λb hb=>nomatch hb;refine nN D1 AP q1 q2 (a1 _ q4) λh' eb=>⟨rfl,Inv.turnedL (t':=s.toks) (fp:=[n+4,n+2,n+3,n,n+1]) I (λb o hb e=>?_) hf⟩
  simp only[xAv,xBv,or_false,not_or] at hb;exact eb b o hb.1 hb.2.2.1 hb.2.2.2.1 hb.2.2.2.2 e
 self:=λ_ _ _ _ _ st h=>wpAny_pyIter_zip st.1 h
def zD5(K:xFr)(vs:List V)(H:Hp)(R:It->Hp->Prop):Prop:=∃x y kx ky,vs=[x,y]/\(∃xs,sqK kx K H x xs)/\(∃ys,sqK ky K H y ys)/\R (zHn kx ky K x y) H
def zG0(K:xFr)(ta:TA):TI:=λσ H R=>ta σ H λvs H1=>zD5 K vs H1 R
section
variable{X:Cx}
theorem pG{Z:List<|Addr×Obj}{σ:St}{H:Hp}{s:Shared}{v:Value}(I:Inv X Z σ H s)(r:zAi x v){xs:List V}(h:sqK kx X.K H x xs)(lim it:Nat)(hl:s.heap.objs.size<=lim)(hi:lim<=it) :
  ∃(o:Obj) (tn:Nat->Heap->Prop),(∀h',(∀c o,s.heap.get? c=some o->h'.get? c=some o)->zBi v o h')/\o.isFreed=false/\SrW kx X.prog X.w X.K lim x it tn/\∀h',h'.get? it=some o->tn 0 h':=by
 obtain⟨a,rfl,hx⟩:=h;obtain rfl:v=Value.ref a:=r;cases kx with
 |true=>
  obtain⟨its,rv,p,hz⟩:=I.tuple hx;have ha:a<s.heap.objs.size:=by obtain⟨o,e,_⟩:=p;exact xA1 e
  refine⟨zGd a,_,λh' k=>?_,rfl,tq (xBc ha hl) hi,λh' e=>⟨_,e,rfl,rfl⟩⟩;intro prog w A E s' Q e q;subst e;obtain⟨o,e,r⟩:=p;exact wpAny_pyIter_tuple (items:=its.toArray) ⟨o,k _ _ e,r⟩ q
 |false=>
  obtain⟨its,rv,p,hz⟩:=I.list hx;have ha:a<s.heap.objs.size:=by obtain⟨o,n,e,_⟩:=p;exact xA1 e
  refine⟨{cls:=.type "list_iterator",data:=.fields #[.ref a,.int 0 0]},_,λh' k=>?_,rfl,tu (xBc ha hl) hi,λh' e=>⟨_,e,rfl,rfl⟩⟩;intro prog w A E s' Q e q;subst e;obtain⟨o,n,e,r⟩:=p;exact wpAny_pyIter_list (PlainL.isList ⟨o,n,k _ _ e,r⟩) q
theorem tV{a b:Expr}{ta:TA}{p pt:Pos}(hg:Gl X "zip")(hm:X.mg "zip"=none)(ha:PA X [a,b] ta)(hs:starEach [a,b] X.env=(false,eval a X.env)::starEach [b] X.env)(hs2:starEach [b] X.env=[(false,eval b X.env)]) :
  PI X (.Tuple elts k pt) (.Call (.Name "zip" p) [a,b] [] pos) (zG0 X.K ta):=by
 intro Z s σ H R I h;refine Call_ (fT I hg hm sK<|PyProof.Rows.callWith_type1 (thn (ha pos Z s σ H _ I h) λus s1 ⟨vs,H1,I1,r1,q1⟩=>?_) hs<|by rw[hs2];rfl);obtain⟨x,y,kx,ky,e,⟨xs,hq⟩,⟨ys,hr⟩,q⟩:=q1;subst e;cases r1 with
 |cons r rr=>
  cases rr with
  |cons r2 rr=>
   cases rr;obtain⟨o1,t1,j1,fr1,S1,z1⟩:=pG I1 r hq s1.heap.objs.size s1.heap.objs.size (xAg _)<|xAg _;obtain⟨o2,t2,j2,fr2,S2,z2⟩:=pG I1 r2 hr s1.heap.objs.size (s1.heap.objs.size+1) (xAg _)<|Nat.le_succ _;refine pe (j1 _ λ_ _ e=>e) (j2 _ λ_ _ e=>xAf _ e) λh' a1 a2 a3 a4 a5 hk=>?_;refine wpAny_pyIter_zip a1 ?_;have I2:Inv X Z σ H1 {s1 with heap:=h'}:=I1.kept (t':=s1.toks) hk;refine⟨s1.heap.objs.size+4,[s1.heap.objs.size+4,s1.heap.objs.size+2,s1.heap.objs.size+3,s1.heap.objs.size,s1.heap.objs.size+1],_,_,H1,rfl,I2,nO S1 S2,⟨a1,a2,⟨_,_,a3⟩,z1 _<|a4 fr1,z2 _<|a5 fr2⟩,λb hb=>?_,q⟩;have hb':s1.heap.objs.size<=b:=by
    simp only[xAv,xBv,or_false] at hb;rcases hb with rfl|rfl|rfl|rfl|rfl <;> lia
   exact I1.fpOk hb'<|I1.hok.fresh hb'
end
end L2
namespace L2
open PySem PySem.Spec PyProof.Rows PySem.Builtin PySem.Builtin.ObjectAttr
variable{e C T:Addr}{dx:Option Addr}{H':Hp}{Ex:St->XK}{body:List Stmt}
structure TBf(fl:Value)(T:Addr)(X:Cx)(Z:List (Addr×Obj))(h:Heap)(H:Hp):Prop where
 ent:∃oT ts,h.get? T=some oT/\oT.data=.fields ts/\ts[3]?=some fl
 new:X.s₀.heap.objs.size<=T
 pn:∀p∈X.pn++Z,p.1≠T
 un:H T=none
section
variable{X:Cx}{Z:List<|Addr×Obj}{σ:St}{H:Hp}{s s1:Shared}{E':Value->Shared->Prop}{Q:Unit->Shared->Prop}
def zGr(I:Inv X Z σ H s)(hs:X.stack=X.env::X.outer)(hf:X.env.frame=some X.env.locals)(he:H e=some (XO C dx e))(k:∀s2 T,Inv X Z σ (upd H e<|XF C dx e T) s2->T≠e->TBf (rawInt X.env.locals) T X Z s2.heap (del H e)->Q () s2) :
  wpAny (model X.prog X.w) X.A (noteFrame (.ref e) X.env) Q E' s:=by
 obtain⟨⟨t,ge⟩,_,_⟩:=(show zAc X.prog X.w H s.heap e (XO C dx e) from I.hok e _ he)
 have hfr:X.A.frames=some (X.env::X.outer):=hs▸I.ok.frames;have hl:s.heap.FunFrames X.base<|X.env::X.outer:=hs▸I.stack;refine kn hfr hl hf ge rfl rfl λh2 T n2=>?_;have Te:T≠e:=Nat.ne_of_gt<|xBc (xA1 ge) n2.new;have frf:∀b∈frs (X.env::X.outer),H b=none:=λb hb=>I.stkFree b (by rw[hs];exact hb);obtain⟨u,ok⟩:=fZ (o:=XF C dx e T) I.hok frf (λb z=>absurd z<|by simp) he n2<|XF.ok (t:=t) n2.exc;have u':Un (frs X.stack) [] H (upd H e<|XF C dx e T) s.heap h2:=by rw[hs];exact u
 refine k {s with heap:=h2} T (I.call (g':=s.gens) (t':=s.toks) (d':=s.drawn) (ch:=[]) u' ok I.bare λb z=>absurd z<|by simp) Te ⟨n2.ent,xCk I.sz n2.new,λp hp z=>absurd (xA1 (I.pin p hp).1) (by rw[z];exact Nat.not_lt.mpr n2.new),?_⟩;rw[iI Te];exact I.hok.fresh n2.new
def zGz{Ex:XK}{ev:Value}(I:Inv X Z σ H s)(hs:X.stack=X.env::X.outer)(hf:X.env.frame=some X.env.locals)(F:CXo X.prog X.w X.stack H s Ex ev s1)(k:∀s2 (e C T:Addr) (dx:Option Addr) (H':Hp),ev=.ref e->H' e=none->Inv X Z σ (upd H' e<|XF C dx e T) s2->T≠e->TBf (rawInt X.env.locals) T X Z s2.heap H'->Ex (.ref C) dx H'->Q () s2) :
  wpAny (model X.prog X.w) X.A (noteFrame ev X.env) Q E' s1:=by
 obtain⟨e,C,T0,dx,H',rfl,hn,Te0,tb,ho,hb,un,hok,q⟩:=F;obtain⟨hp1,g1,d1,t1,os1⟩:=s1;obtain rfl:os1=s.os:=ho;have I1:Inv X Z σ (upd H' e<|XF C dx e T0) {s with heap:=hp1,gens:=g1,drawn:=d1,toks:=t1}:=I.call (ch:=[]) un hok hb (λb z=>absurd z<|by simp);have he1:upd H' e (XF C dx e T0) e=some (XF C dx e T0):=dg;obtain⟨⟨t,ge⟩,_,_⟩:=(show zAc X.prog X.w (upd H' e<|XF C dx e T0) hp1 e (XF C dx e T0) from hok e _ he1)
 obtain⟨oT,ts,z1,z2,z3⟩:=tb.ent;have hfr:X.A.frames=some (X.env::X.outer):=hs▸I.ok.frames;have hl:hp1.FunFrames X.base<|X.env::X.outer:=hs▸I1.stack;refine km (s:={s with heap:=hp1,gens:=g1,drawn:=d1,toks:=t1}) hfr hl hf ge rfl rfl z1 z2 z3 Te0 λh2 T n2 nT=>?_;have Te:T≠e:=Nat.ne_of_gt<|xBc (xA1 ge) n2.new;have frf:∀b∈frs (X.env::X.outer),upd H' e (XF C dx e T0) b=none:=λb hb=>I1.stkFree b (by rw[hs];exact hb);have hno:∀b∈[T0],upd H' e (XF C dx e T0) b=none:=λb hb=>by
  have:b=T0:=by simpa using hb
  rw[this,db Te0];exact tb.un
 obtain⟨u,ok⟩:=fZ (o:=XF C dx e T) hok frf hno he1 n2<|XF.ok (t:=t) n2.exc;rw[md] at u ok;have u2:Un (frs X.stack) [T0] (upd H' e<|XF C dx e T0) (upd H' e<|XF C dx e T) hp1 h2:=by rw[hs];exact u
 have u3:Un (frs X.stack) [] H (upd H' e<|XF C dx e T) s.heap h2:=(un.wide.trans u2).strip tb.old;refine k {s with heap:=h2,gens:=g1,drawn:=d1,toks:=t1} e C T dx H' rfl hn (I.call (g':=g1) (t':=t1) (d':=d1) (ch:=[]) u3 ok hb λb z=>absurd z<|by simp) Te ⟨n2.ent,xCk I1.sz n2.new,λp hp z=>absurd (xA1 (I1.pin p hp).1) (by rw[z];exact Nat.not_lt.mpr n2.new),?_⟩ q;have:=hok.fresh n2.new;rw[db Te] at this;exact this
def zCo(I:Inv X Z σ (upd H' e<|XF C dx e T) s)(hf:X.env.frame=some X.env.locals)(tb:TBf (rawInt X.env.locals) T X Z s.heap H')(k:Q () s):wpAny (model X.prog X.w) X.A (noteFrame (.ref e) X.env) Q E' s:=by
 obtain⟨⟨t,ge⟩,_,_⟩:=(show zAc X.prog X.w (upd H' e<|XF C dx e T) s.heap e (XF C dx e T) from I.hok e _ dg)
 obtain⟨oT,ts,g1,g2,g3⟩:=tb.ent;unfold noteFrame;rw[hf];refine xAd<|xDa ge rfl (x:=.ref T) rfl ?_;rw[xCg<|show(Value.ref T != Value.none)=true by simp];refine xAd<|xDa g1 g2 g3 ?_;rw[xCg<|show(rawInt X.env.locals==rawInt X.env.locals)=true by simp];exact xAe k
def zC9{fr:Option Addr}{fl:Value}(I:Inv X Z σ (upd H' e<|XF C dx e T) s)(Te:T≠e)(tb:TBf fl T X Z s.heap H')(k:∀s',Inv X Z σ (upd H' e<|XF C dx e T) s'->TBf (fr.elim .none λf=>rawInt f) T X Z s'.heap H'->Q () s'):wpAny (model X.prog X.w) X.A (setFlight (.ref e) fr) Q E' s:=by
 obtain⟨⟨t,ge⟩,_,_⟩:=(show zAc X.prog X.w (upd H' e<|XF C dx e T) s.heap e (XF C dx e T) from I.hok e _ dg)
 obtain⟨oT,ts,g1,g2,g3⟩:=tb.ent;have l3:3<ts.size:=(xB7.mp g3).1;unfold setFlight;refine xAd<|xDa ge rfl (x:=.ref T) rfl ?_;rw[xCg<|show(Value.ref T != Value.none)=true by simp];refine wpAny_setField g1 g2 l3 ?_;have hTn:upd H' e (XF C dx e T) T=none:=by rw[db Te];exact tb.un
 have g1':(s.heap.update T<|Obj.mapFields (·.setIfInBounds 3 (fr.elim Value.none λf=>rawInt f))).get? T=some _:=xA7 _ g1<|Obj.isFreed_of_fields<|Obj.data_mapFields g2 _;refine k _ (Inv.turned (t':=s.toks) (it:=T) I (λb o hb q=>(xA6 _ _<|Ne.symm hb).trans q) hTn ?_ (.inr tb.new) ?_ tb.pn) ⟨⟨_,_,g1',Obj.data_mapFields g2 _,by simp[l3]⟩,tb.new,tb.pn,tb.un⟩
 ·intro z;obtain⟨m,⟨o',es,ep,ho',hd',_⟩,_⟩:=I.loc;rw[<- z,g1] at ho';cases ho';rw[g2] at hd';cases hd'
 ·intro x c e z;obtain⟨v,o',ho',hd'⟩:=I.cell x c e;rw[z,g1] at ho';cases ho';rw[g2] at hd';cases hd'
end
structure Cat(X:Cx)(Ex:St->XK):Prop where
 hs:X.stack=X.env::X.outer
 hf:X.env.frame=some X.env.locals
 own:∀{Z:List (Addr×Obj)}{σ:St}{e C T:Addr}{dx:Option Addr}{H':Hp}{s':Shared},Inv X Z σ (upd H' e (XF C dx e T)) s'->H' e=none->T≠e->TBf (rawInt X.env.locals) T X Z s'.heap H'->Ex σ (.ref C) dx H'->X.xe (.ref e) s'
 rises:∀{Z:List (Addr×Obj)}{σ:St}{H:Hp}{s:Shared}{e C:Addr}{dx:Option Addr},Inv X Z σ H s->H e=some (XO C dx e)->Ex σ (.ref C) dx (del H e)->X.xe (.ref e) s
 pass:zAn (CXo X.prog X.w) X Ex
def zA3.cat{X:Cx}(c:zA3 X Ex):Cat X Ex where
 hs:=c.hs
 hf:=c.hf
 own:=λ{Z σ e C T dx H' s'} I hn Te tb q=>by
  obtain⟨Lk,xe,la⟩:=c.ex;refine xe _ _ λE'=>zCo I c.hf tb<|zC9 I Te tb λs2 I2 tb2=>la Z σ e C T dx H' s2 I2 hn Te ⟨tb2.ent,Heap.get?_none_of_le tb2.new,tb2.un⟩ q
 rises:=λI he q=>c.rises I he q
 pass:=c.pass
noncomputable abbrev Cx.lp(X:Cx):Cx:=X.wish<|notedBy (model X.prog X.w) X.A X.env<|cameBackBy (model X.prog X.w) X.A X.env X.xe
def came{X:Cx}(c:Cat X Ex){Z:List<|Addr×Obj}{σ:St}{s':Shared}(I:Inv X Z σ (upd H' e<|XF C dx e T) s')(hn:H' e=none)(Te:T≠e)(tb:TBf (rawInt X.env.locals) T X Z s'.heap H')(q:Ex σ (.ref C) dx H'):cameBackBy (model X.prog X.w) X.A X.env X.xe (.ref e) s':=by
 obtain⟨⟨t,ge⟩,_,_⟩:=(show zAc X.prog X.w (upd H' e<|XF C dx e T) s'.heap e (XF C dx e T) from I.hok e _ dg)
 unfold cameBackBy;refine xAd<|xDa ge rfl (x:=.ref T) rfl ?_;rw[xCf<|show ¬ (Value.ref T==Value.none)=true by simp];rw[c.hf];exact zC9 (fr:=some X.env.locals) I Te tb λs2 I2 tb2=>c.own I2 hn Te tb2 q
theorem Cat.lp{X:Cx}{Ex:St->XK}(c:Cat X Ex):Cat X.lp Ex where
 hs:=c.hs
 hf:=c.hf
 own:=λI hn Te tb q=>zCo (X:=X) I.unwish c.hf ⟨tb.ent,tb.new,tb.pn,tb.un⟩<|came c I.unwish hn Te ⟨tb.ent,tb.new,tb.pn,tb.un⟩ q
 rises:=λ{Z σ H s e C dx} I he q=>zGr (X:=X) I.unwish c.hs c.hf he λs2 T I2 Te tb=>came c (H':=del H e) (by rw[mf];exact I2) kS Te tb q
 pass:=λZ σ H s ev s' I F=>zGz (X:=X) I.unwish c.hs c.hf F λs2 e C T dx H' ee hn I2 Te tb q=>by subst ee;exact came c I2 hn Te tb q
section
variable{X:Cx}{pos:Pos}
theorem n9{c:Expr}{tc:TT}{tb:TS}(hc:PT X.lp c tc)(hb:PSs X.lp body tb):PS X (.While c body [] pos)<|zEq tc tb:=by
 intro Z s σ H D I h;obtain⟨W,⟨m0,w0⟩,turn⟩:=h;refine wpAny_While<|codeAny_whileLoop (λn s'=>∃σ' H',Inv X Z σ' H' s'/\W n σ' H') ?_ m0 ⟨σ,H,I,w0⟩;rintro n s1 ⟨σ1,H1,I1,w1⟩
 refine thn (hc Z s1 σ1 H1 _ (I1.wish _)<|turn n σ1 H1 w1) λb s2 ⟨H2,I2,q2⟩=>?_;cases b with
 |true=>
  obtain⟨N,hN,q2⟩:=q2;rw[xCg rfl];refine thn (hb Z s2 σ1 H2 _ I2 q2) λf s3 q3=>?_;cases f with
  |next=>
   obtain⟨σ3,H3,I3,n3⟩:=q3;obtain⟨m',hm,w3⟩:=hN σ3 H3 n3;exact⟨m',hm,σ3,H3,I3.unwish,w3⟩
  |cont=>
   obtain⟨σ3,H3,I3,n3⟩:=q3;obtain⟨m',hm,w3⟩:=hN σ3 H3 n3;exact⟨m',hm,σ3,H3,I3.unwish,w3⟩
  |brk=>exact SP.unwish (f:=.next) q3
  |ret v=>exact SP.unwish (f:=.ret v) q3
 |false=>
  rw[xCf xAy];exact wpAny_execs_nil ⟨σ1,H2,I2.unwish,q2⟩
def tM{tg iter:Expr}{wi:TI}{g:TG}{tb:TS}(hc:X.calm=true)(hi:PI X tg iter wi)(hg:PG X.lp tg g)(hb:PSs X.lp body tb)(hs:∀x,foldedSetIterable iter X.env x=pure x):PS X (.For tg iter body [] pos)<|zJh wi g tb:=by
 intro Z s σ H D I h;refine wpAny_For (thn (hi Z s σ H _ I h) λv s1 h1=>thn h1 λitv s2 h2=>?_) hs;obtain⟨it,fp,tn,J,H2,e,I2,T,st2,f2,W,⟨m0,w0⟩,turn⟩:=h2;subst e;have stat:∀{H':Hp},(∀b∈fp,H' b=none)->∀b∈fp,zDc X Z H' b:=λhn b hb=>⟨hn b hb,(f2 b hb).2⟩
 refine codeAny_forLoop_any (λn s'=>∃i σ' H',Inv X Z σ' H' s'/\tn i s'.heap/\(∀b∈fp,H' b=none)/\W i n σ' H') ?_ m0 ⟨0,σ,H2,I2,st2,λb hb=>(f2 b hb).1,w0⟩;rintro n s3 ⟨i,σ3,H3,I3,st3,fr3,w3⟩
 rcases turn i n σ3 H3 w3 with ⟨stop,qn⟩|⟨go,N,hN,step⟩
 ·refine thn (T.done X rfl rfl rfl hc i Z s3 σ3 H3 _ I3 (stat fr3) st3 stop) λr s4 ⟨hr,I4⟩=>?_;subst hr;exact wpAny_execs_nil ⟨σ3,H3,I4,qn⟩
 ·refine thn (T.item X rfl rfl rfl hc i Z s3 σ3 H3 _ I3 (stat fr3) st3 go) λr s4 ⟨u,hr,h4⟩=>?_;subst hr;refine thn h4 λ_ s5 zz=>?_;obtain⟨x,H5,I5,r5,y5,st5,fr5⟩:=zz;have I5':=I5.pinned (stat fr5)<|T.obj _ _ st5;refine thn (hg _ s5 σ3 H5 x u _ (I5'.wish _) r5<|step x H5 y5) λ_ s6 zz=>?_;obtain⟨σ6,H6,I6,q6⟩:=zz;refine thn (hb _ s6 σ6 H6 _ I6 q6) λf s7 q7=>?_;have again:∀{σ7:St}{H7:Hp},Inv X (Z++zCa fp s5.heap) σ7 H7 s7->N σ7 H7->∃m,m<n/\∃i σ' H',Inv X Z σ' H' s7/\tn i s7.heap/\(∀b∈fp,H' b=none)/\W i m σ' H':=λ{σ7 H7} I7 n7=>by
   obtain⟨m',hm,w7⟩:=hN σ7 H7 n7;refine⟨m',hm,i+1,σ7,H7,I7.unpinned,T.keep _ _ _ st5 λb hb o e=>(I7.pin (b,o)<|xBt _<|xBt _<|fA hb e).1,λb hb=>?_,w7⟩;obtain⟨o,e,d⟩:=T.obj _ _ st5 b hb;exact(I7.pin (b,o)<|xBt _<|xBt _<|fA hb e).2.1
  cases f with
  |next=>obtain⟨σ7,H7,I7,n7⟩:=q7;exact again I7.unwish n7
  |cont=>obtain⟨σ7,H7,I7,n7⟩:=q7;exact again I7.unwish n7
  |brk=>obtain⟨σ7,H7,I7,q7⟩:=q7;exact⟨σ7,H7,I7.unwish.unpinned,q7⟩
  |ret v=>obtain⟨x7,σ7,H7,I7,r7,q7⟩:=q7;exact⟨x7,σ7,H7,I7.unwish.unpinned,r7,q7⟩
end
end L2
namespace L2
open PySem PySem.Spec PyProof.Rows
variable{w:World}{E:Value->Shared->Prop}{s:Shared}{a b:Int}{t:Tok}
def nR(a b c:Value):checkTypeCall "range" ⟨[a,b,c],[]⟩=pure ():=by kernel_rfl
def oB(a b c:Value):checkBuiltinCall "range.__new__" ⟨[.type "range",a,b,c],[]⟩=pure ():=by kernel_rfl
def oI(obj a b c:Value):argsOk "object.__init__" ⟨[obj,a,b,c],[]⟩:=by
 unfold argsOk;rw[signature?_of (id:="object.__init__") (n:=['_','_','t','i','n','i','_','_']) (o:=['t','c','e','j','b','o']) (by kernel_rfl) F.owner_object];kernel_rfl
def oR{prog:Program}{A:Around}{u v:Tok}{Q:Value->Shared->Prop}(h:Q (.ref s.heap.objs.size) {s with heap:=s.heap.push {cls:=.type "range",data:=.fields #[.int a t,.int b u,.int 2 v]} }) :
  wpAny (model prog w) A (call (.type "range") [.int a t,.int b u,.int 2 v]) Q E s:=
 callType_new F.called_range (by decide) (nR _ _ _) (oB _ _ _) (λobj=>oI obj _ _ _) F.entry_range_new
  (AutoRange.range___new___type_int_int_int_1 a b 2 t u v F.called_range.sub<|by decide) ⟨PyProof.noPylong_of_log2 (by decide),⟨_,xAl _ rfl,rfl⟩,h⟩
def pR(a b:Int):Builtin.Range.rangeSize a b 2=if a<b then(b-a-1) / 2+1 else 0:=by
 unfold Builtin.Range.rangeSize;rw[xCg<|by decide]
def nS(ha:-(2^62)<=a)(ha':a<2^62)(hb:-(2^62)<=b)(hb':b<2^62):Builtin.Range.small a b 2=true:=by
 unfold Builtin.Range.small;rw[pR];simp only[Builtin.Range.rangeFitsLong,xCh,Bool.or_eq_true,decide_eq_true_eq,beq_iff_eq,show(2:Int)>0 by decide,if_true];split <;> lia
def Itu(lo:Int)(n:Nat):It:=⟨λi _=>i<n,λi H x H'=>H'=H/\x=.int (lo+2*i),λi _=>n<=i⟩
def j4{P:Program}{K:xFr}{tg:Expr}(it:Addr)(lo:Int)(n:Nat):zDz P w K tg (Itu lo n) [it] it (λi h=>IsRangeIter h it (lo+(i:Nat)*2) ((n:Int)-(i:Nat)) 2) where
 mem:=by simp
 obj:=λi h st b hb=>by
  have e:b=it:=by simpa using hb
  subst e;exact⟨_,st,λv z=>by
   have z':Data.fields _=Data.cell v:=z;cases z'⟩
 keep:=λi h h' st k=>k it (by simp) _ st
 item:=by
  intro X hP hw hK hc i Z s σ H E I hf st hg;subst hP hw hK;obtain⟨f0,f1,f2,f3,f4,f5⟩:=hf it (by simp);have W:=Walks.range (prog:=X.prog) (w:=X.w) (I.ok.hd hc) it lo 2 n;refine W.item i s _ _ hg st λv h' tk hv st' kk=>?_;obtain⟨t,rfl⟩:=hv;have I1:Inv X Z σ H {s with heap:=h',toks:=tk}:=I.turned (λb o hb e=>kk b o (by simpa using hb) e) f0 f1 f3 f4 f5;refine⟨_,rfl,jd (s:={s with heap:=h',toks:=tk}) (n:="range_iterator") st' rfl rfl (by decide) ⟨.int<|lo+2*i,H,I1,⟨t,?_⟩,⟨rfl,rfl⟩,st',λb hb=>(hf b hb).1⟩⟩;congr 1;lia
 done:=by
  intro X hP hw hK hc i Z s σ H E I hf st hg;subst hP hw hK;obtain⟨f0,f1,f2,f3,f4,f5⟩:=hf it (by simp);exact wpAny_pyNext_range_end (I.ok.hd hc) st (by have:n<=i:=hg;lia) λh' eb=>⟨rfl,I.turned (t':=s.toks) (λb o hb e=>eb b o hb e) f0 f1 f3 f4 f5⟩
 self:=λ_ _ _ _ _ st h=>wpAny_pyIter_rangeiter st h
section
variable{X:Cx}{tg:Expr}
def nZ{Z:List<|Addr×Obj}{σ:St}{H:Hp}{R:It->Hp->Prop}{lo hi:Int}{u v:Tok}(I:Inv X Z σ H s)(h1:-(2^62)<=lo)(h2:lo<2^62)(h3:-(2^62)<=hi)(h4:hi<2^62)(q:R (Itu lo ((hi-lo+1) / 2).toNat) H):wpAny (model X.prog X.w) X.A (pyIter<|.ref s.heap.objs.size) (PIE X Z σ tg R) E {s with heap:=s.heap.push {cls:=.type "range",data:=.fields #[.int lo t,.int hi u,.int 2 v]} }:=by
 generalize eh:s.heap.push {cls:=.type "range",data:=.fields #[.int lo t,.int hi u,.int 2 v]}=h0;have hr:IsRange h0 s.heap.objs.size lo hi 2 t u v:=by rw[<- eh];exact IsRange.new ..
 have I1:Inv X Z σ H {s with heap:=h0}:=I.kept (t':=s.toks) λb o e=>by rw[<- eh];exact xAf _ e
 refine wpAny_pyIter_range hr (nS h1 h2 h3 h4) ?_;refine⟨h0.objs.size,[h0.objs.size],_,_,H,rfl,I1.kept (t':=s.toks) λb o e=>xAf _ e,j4 _ lo ((hi-lo+1) / 2).toNat,?_,λb hb=>?_,q⟩
 ·have e1:lo+((0:Nat):Int)*2=lo:=by simp
  have e2:((((hi-lo+1) / 2).toNat:Nat):Int)-((0:Nat):Int)=Builtin.Range.rangeSize lo hi 2:=by rw[pR];split <;> lia
  show IsRangeIter _ _ (lo+((0:Nat):Int)*2) (((((hi-lo+1) / 2).toNat:Nat):Int)-((0:Nat):Int)) 2;rw[e1,e2];exact xAl _ rfl
 ·have e:b=h0.objs.size:=by simpa using hb
  subst e;exact I1.fpOk (xAg _)<|I1.hok.fresh<|xAg _
def zG1(ta:TA):TI:=λσ H R=>ta σ H λvs H1=>∃i j:Int,vs=[.int i,.int j,.int 2]/\(-(2^62)<=i/\i<2^62/\-(2^62)<=j/\j<2^62)/\R (Itu i ((j-i+1) / 2).toNat) H1
theorem oj{a b c:Expr}{ta:TA}{p pos:Pos}(hg:Gl X "range")(hm:X.mg "range"=none)(ha:PA X [a,b,c] ta)(hs:starEach [a,b,c] X.env=[(false,eval a X.env),(false,eval b X.env),(false,eval c X.env)])(hs2:starEach [b,c] X.env=[(false,eval b X.env),(false,eval c X.env)]) :
  PI X tg (.Call (.Name "range" p) [a,b,c] [] pos) (zG1 ta):=by
 intro Z s σ H R I h;refine Call_ (fT I hg hm boot_range<|PyProof.Rows.callWith_type1 (thn (ha pos Z s σ H _ I h) λus s1 ⟨vs,H1,I1,r1,q1⟩=>?_) (by rw[hs,hs2])<|by rw[hs2];rfl);obtain⟨i,j,e,⟨q1,q2,q3,q4⟩,q⟩:=q1;subst e;cases r1 with
 |cons r rr=>
  cases rr with
  |cons r' rr=>
   cases rr with
   |cons r2 rr=>
    cases rr;obtain⟨t,rfl⟩:=r;obtain⟨t',rfl⟩:=r';obtain⟨t2,rfl⟩:=r2;exact oR<|nZ I1 q1 q2 q3 q4 q
end
end L2
namespace Fx
open PySem PySem.Spec L2
open PyProof.Rows hiding St
variable{ys:List V}{lo:Int}{xs:List U}{k:Nat}{S:So}{H:Hp}{σ:Sg}{τ:St}{D:zDe}{o e1:Expr}{f':Addr}{fd:FuncData}{cs:List Nat}
structure Wku(B:Bs)(J:It)(W:Wd)(vs:List U):Prop where
 go:∀{i:Nat}{H:Hp}{W':Wd}{S:So},W.Lf W'->RS B W' S H->i<vs.length->J.go i H
 yld:∀{i:Nat}{H H':Hp}{x:V}{v:U}{W':Wd}{S:So},W.Lf W'->RS B W' S H->vs[i]?=some v->J.yld i H x H'->∃W2,W'.Le W2/\RS B W2 S H'/\Rv B W2 v x
 stop:∀{H:Hp}{W':Wd}{S:So},W.Lf W'->RS B W' S H->J.stop vs.length H
def IL(B:Bs)(W:Wd)(R:It->Hp->Prop):Kv Prop:=λv S=>∀W' J H vs,W.Le W'->RS B W' S H->v=.tup vs->Wku B J W' vs->R J H
def LI(B:Bs)(G:Gx Prop)(Ex:St->XK)(c:TEx Prop):TI:=λτ H R=>∃W σ S,RS B W S H/\Rg B W σ τ/\c G σ S (XL B W<|Ex τ) (IL B W R)
structure FI(X:Cx)(B:Bs)(G:Gx Prop)(Ex:St->XK)(tg it:Expr)(c:TEx Prop):Prop where
 p:PI X tg it (LI B G Ex c)
 m:zAt G c
def wkI{X:Cx}{tg e:Expr}{t t':TI}(h:PI X tg e t)(w:∀σ H R,t' σ H R->t σ H R):PI X tg e t':=λZ s σ H R I q=>h Z s σ H R I<|w _ _ _ q
section
variable{B:Bs}{W:Wd}{vs:List U}
def zGc{a:Addr}(h:SqL B.K W.F a ys)(r:Rvs B W vs ys):Wku B (Itl B.K a) W vs where
 go:=λ{i H W' S} le rs hi=>⟨ys,ys[i]'(by rw[r.length];exact hi),fR (λp o z=>rs.fz p o<|le.f p o z) h,by simp⟩
 yld:=λ{i H H' x v W' S} le rs hv ⟨e,y⟩=>by
  subst e;obtain⟨u,e2,ru⟩:=r.get hv;have:=y ys<|fR (λp o z=>rs.fz p o<|le.f p o z) h;rw[e2] at this;cases this;exact⟨W',.refl,rs,ru.lf le⟩
 stop:=λle rs=>⟨ys,fR (λp o z=>rs.fz p o<|le.f p o z) h,by rw[r.length];exact xAg _⟩
def zHq{a:Addr}(h:∀H:Hp,(∀p o,W.F p=some o->H p=some o)->SqT B.K H a ys)(r:Rvs B W vs ys):Wku B (Itt B.K a) W vs where
 go:=λ{i H W' S} le rs hi=>⟨ys,ys[i]'(by rw[r.length];exact hi),h _ λp o z=>rs.fz p o<|le.f p o z,by simp⟩
 yld:=λ{i H H' x v W' S} le rs hv ⟨e,y⟩=>by
  subst e;obtain⟨u,e2,ru⟩:=r.get hv;have:=y ys (h _ λp o z=>rs.fz p o<|le.f p o z);rw[e2] at this;cases this;exact⟨W',.refl,rs,ru.lf le⟩
 stop:=λle rs=>⟨ys,h _ λp o z=>rs.fz p o<|le.f p o z,by rw[r.length];exact xAg _⟩
def zHp{a:Addr}(h:∀H:Hp,(∀p o,W.F p=some o->H p=some o)->SqT B.K H a ys)(r:Rvs B W vs ys):Wku B (Itv B.K a ys.length) W vs.reverse where
 go:=λle rs hi=>⟨by rw[List.length_reverse] at hi;rw[r.length];exact hi,ys,h _ λp o z=>rs.fz p o<|le.f p o z,rfl⟩
 yld:=λ{i H H' x v W' S} le rs hv ⟨e,y⟩=>by
  subst e;have hi:i<vs.length:=by have:=(xAq.mp hv).1;rwa[List.length_reverse] at this
  rw[List.getElem?_reverse hi] at hv;obtain⟨u,e2,ru⟩:=r.get hv;have:=y ys (h _ λp o z=>rs.fz p o<|le.f p o z);rw[r.length,e2] at this;cases this;exact⟨W',.refl,rs,ru.lf le⟩
 stop:=λle rs=>by show _=_;rw[List.length_reverse,r.length]
theorem kF:∀{n:Nat}{lo:Int}{i:Nat},(zB3 lo n)[i]?=if i<n then some (.int<|lo+i) else none
 |0,_,_=>by simp[zB3]
 |n+1,lo,0=>by simp[zB3]
 |n+1,lo,i+1=>by
  show(zB3 (lo+1) n)[i]?=_;rw[kF];by_cases h:i<n
  ·rw[xCg h,xCg<|by lia];congr 2;lia
  ·rw[xCf h,xCf<|by lia]
theorem iy:∀{n:Nat}{lo:Int},(zB3 lo n).length=n
 |0,_=>rfl
 |n+1,lo=>by show(zB3 (lo+1) n).length+1=_;rw[iy]
def zI8{n:Nat}:Wku B (Itr lo n) W (zB3 lo n) where
 go:=λle rs hi=>by rw[iy] at hi;exact hi
 yld:=λ{i H H' x v W' S} le rs hv ⟨e,y⟩=>by
  subst e y;rw[kF] at hv;split at hv
  ·cases hv;exact⟨W',.refl,rs,rfl⟩
  ·cases hv
 stop:=λle rs=>by rw[iy];exact xAg _
theorem jY:∀{n i:Nat}{lo:Int},(zDg lo n)[i]?=if i<n then some (.int<|lo+2*i) else none
 |0,i,lo=>by rw[xCf<|Nat.not_lt_zero i];rfl
 |n+1,0,lo=>by rw[xCg<|Nat.succ_pos n];show some (U.int lo)=_;congr 2;lia
 |n+1,i+1,lo=>by
  show(zDg (lo+2) n)[i]?=_;rw[jY];by_cases h:i<n
  ·rw[xCg h,xCg<|by lia];congr 2;lia
  ·rw[xCf h,xCf<|by lia]
theorem g0:∀{n:Nat}{lo:Int},(zDg lo n).length=n
 |0,lo=>rfl
 |n+1,lo=>by show(zDg (lo+2) n).length+1=_;rw[g0]
def zI9{n:Nat}:Wku B (Itu lo n) W (zDg lo n) where
 go:=λle rs hi=>by rw[g0] at hi;exact hi
 yld:=λ{i H H' x v W' S} le rs hv ⟨e,y⟩=>by
  subst e y;rw[jY] at hv;split at hv
  ·cases hv;exact⟨W',.refl,rs,rfl⟩
  ·cases hv
 stop:=λle rs=>by rw[g0];exact xAg _
def zI7{z:Str}:Wku B (Its z) W (z.cps.toList.map λc=>.str ⟨#[c]⟩) where
 go:=λle rs hi=>by show _<z.cps.size;simpa using hi
 yld:=λ{i H H' x v W' S} le rs hv y=>by
  obtain⟨e,c,hc,ex⟩:=y;subst e ex;rw[xAw] at hv;have:z.cps.toList[i]?=some c:=by simpa using hc
  rw[this] at hv;cases hv;exact⟨W',.refl,rs,rfl⟩
 stop:=λle rs=>by show _=z.cps.size;simp
theorem jW:∀{xs ys:List U}{i:Nat}{v:U},(zB6 xs ys)[i]?=some v->∃x y,xs[i]?=some x/\ys[i]?=some y/\v=.tup [x,y]
 |[],_,_,_,h=>by simp[zB6] at h
 |_::_,[],_,_,h=>by simp[zB6] at h
 |x::xs,y::ys,0,_,h=>by simp[zB6] at h;exact⟨x,y,rfl,rfl,h.symm⟩
 |x::xs,y::ys,i+1,_,h=>by simpa using jW (xs:=xs) (ys:=ys) (i:=i) (by simpa [zB6] using h)
theorem gY:∀{xs ys:List U},xs.length=ys.length->(zB6 xs ys).length=xs.length
 |[],_,_=>rfl
 |x::xs,[],h=>by cases h
 |x::xs,y::ys,h=>by simp[zB6,gY (xs:=xs) (ys:=ys)<|by simpa using h]
def zI6{k1 k2:Bool}{x y:V}{as bs:List V}{ys:List U}(h1:∀H:Hp,(∀p o,W.F p=some o->H p=some o)->sqK k1 B.K H x as)(h2:∀H:Hp,(∀p o,W.F p=some o->H p=some o)->sqK k2 B.K H y bs)(r1:Rvs B W xs as)(r2:Rvs B W ys bs)(hl:xs.length=ys.length):Wku B (zHn k1 k2 B.K x y) W (zB6 xs ys) where
 go:=λ{i H W' S} le rs hi=>by
  rw[gY hl] at hi;exact⟨as,bs,as[i]'(by rw[r1.length];exact hi),bs[i]'(by rw[r2.length,<- hl];exact hi),h1 _ λp o z=>rs.fz p o<|le.f p o z,h2 _ λp o z=>rs.fz p o<|le.f p o z,by simp,by simp⟩
 yld:=λ{i H H' x' v W' S} le rs hv ⟨q,u,u2,e1,e2,e3,e4,e5⟩=>by
  subst e1 e3;obtain⟨a,b,ea,eb,rfl⟩:=jW hv;obtain⟨u',e6,ru⟩:=r1.get ea;have:=e4 as (h1 _ λp o z=>rs.fz p o<|le.f p o z);rw[e6] at this;cases this;obtain⟨u',e7,ru2⟩:=r2.get eb;have:=e5 bs (h2 _ λp o z=>rs.fz p o<|le.f p o z);rw[e7] at this;cases this;obtain⟨le2,rs2⟩:=rs.fresh (o:=.tup [u,u2]) e2;exact⟨_,le2,rs2,q,_,rfl,dg,⟨_,_,rfl,(ru.lf le).mono le2,⟨_,_,rfl,(ru2.lf le).mono le2,rfl⟩⟩⟩
 stop:=λle rs=>⟨as,h1 _ λp o z=>rs.fz p o<|le.f p o z,by rw[gY hl];exact r1.length⟩
end
def zFb(K:xFr)(x:V)(H:Hp)(R:It->Hp->Prop):Prop:=zFa K x H R\/zE9 K x H R\/zDj x H R
def iA(K:xFr)(te:TE):TI:=λσ H R=>te σ H λx H1=>zFb K x H1 R
section
variable{X:Cx}{e tg:Expr}{te:TE}
def A8(he:PE X e te):PI X tg e<|iA X.K te:=by
 intro Z s σ H R I h;refine thn (he Z s σ H _ I h) λv s1 zz=>?_;obtain⟨x,H1,I1,r1,q1⟩:=zz;rcases q1 with ⟨a,e,⟨xs,hq⟩,q⟩|⟨a,e,⟨xs,hq⟩,q⟩|q
 ·subst e;cases r1;obtain⟨its,rv,p,hz⟩:=I1.list hq;refine wpAny_pyIter_list p.isList ?_;refine⟨s1.heap.objs.size,[s1.heap.objs.size],_,_,H1,rfl,I1.kept (t':=s1.toks) λb o e=>xAf _ e,nP a _,⟨_,xAl _ rfl,rfl,rfl⟩,λb hb=>?_,q⟩;have e:b=s1.heap.objs.size:=by simpa using hb
  subst e;exact I1.fpOk (xAg _)<|I1.hok.fresh<|xAg _
 ·subst e;cases r1;obtain⟨its,rv,p,hz⟩:=I1.tuple hq;refine wpAny_pyIter_tuple (show s1.heap.IsTuple a its.toArray from p) ?_;refine⟨s1.heap.objs.size,[s1.heap.objs.size],_,_,H1,rfl,I1.kept (t':=s1.toks) λb o e=>xAf _ e,k9 a _,⟨_,xAl _ rfl,rfl,rfl⟩,λb hb=>?_,q⟩;have e:b=s1.heap.objs.size:=by simpa using hb
  subst e;exact I1.fpOk (xAg _)<|I1.hok.fresh<|xAg _
 ·obtain⟨z,rfl,q⟩:=q;obtain⟨t,rfl⟩:=r1;cases ha:z.cps.all (·<128)
  ·refine wpAny_pyIter_wide ha ⟨s1.heap.objs.size,[s1.heap.objs.size],_,_,H1,rfl,I1.kept (t':=s1.toks) λb o e=>xAf _ e,jZ _ z t "str_iterator" (by decide) (λA' hA=>Walks.strWide hA _ z t) λ_ _ _ _ _ st h=>wpAny_pyIter_striter_wide st h,⟨_,xAl _ rfl,rfl,rfl⟩,λb hb=>?_,q⟩;have e:b=s1.heap.objs.size:=by simpa using hb
   subst e;exact I1.fpOk (xAg _)<|I1.hok.fresh<|xAg _
  ·refine wpAny_pyIter_ascii ha ⟨s1.heap.objs.size,[s1.heap.objs.size],_,_,H1,rfl,I1.kept (t':=s1.toks) λb o e=>xAf _ e,jZ _ z t "str_ascii_iterator" (by decide) (λA' hA=>Walks.strAscii hA _ z t) λ_ _ _ _ _ st h=>wpAny_pyIter_striter_ascii st h,⟨_,xAl _ rfl,rfl,rfl⟩,λb hb=>?_,q⟩;have e:b=s1.heap.objs.size:=by simpa using hb
   subst e;exact I1.fpOk (xAg _)<|I1.hok.fresh<|xAg _
end
section
variable{B:Bs}{up:List<|Str×Str}{G:Gx Prop}{Ex:St->XK}{c a b d:TEx Prop}{as:TAx Prop}
variable{X:Cx}{e ea eb tg:Expr}{es:List Expr}{pos p1 p2:Pos}{x:Str}(g:zBs up G)
include g
theorem v6(hK:X.K=B.K)(h:FE X B G Ex e a):FI X B G Ex tg e<|cP .seq<|aC a aN:=
 ⟨wkI (A8 h.p) λτ H R ⟨W,σ,S,rs,rg,hh⟩=>LE.go h.m rs rg hh λv S1 W1 u1 H1 le1 rs1 rv1 rg1 h1=>by
  obtain⟨z,S2,e2,q⟩:=g.pok h1;change zGm .tup v S1=_ at e2;unfold zGm at e2;rw[hK];split at e2
  ·next z2=>
   cases e2;exact .inr (.inr ⟨z2,rv1,q W1 _ H1 _ le1 rs1 rfl zI7⟩)
  ·next p=>
   split at e2
   ·next xs ex=>
    cases e2;obtain⟨aa,rfl,hm⟩:=rv1;obtain⟨W2,le2,rs2,p',ys,e3,f3,r3⟩:=rs1.freeze ex hm;cases e3;exact .inl ⟨aa,rfl,⟨ys,.of<|rs2.fz _ _ f3⟩,q W2 _ H1 xs (le1.trans le2) rs2 rfl<|zGc (.of f3) r3⟩
   ·cases e2
  ·next hs hr=>
   split at e2
   ·next xs ex=>
    cases e2;cases v with
    |tup _=>cases ex;obtain⟨p,ys,rfl,f,r⟩:=rv1;exact .inr (.inl ⟨p,rfl,⟨ys,.of<|rs1.fz _ _ f⟩,q W1 _ H1 xs le1 rs1 rfl<|zHq (λH hF=>.of<|hF _ _ f) r⟩)
    |kt _=>cases ex;obtain⟨p,ys,rfl,f,r⟩:=rv1;exact .inr (.inl ⟨p,rfl,⟨ys,f H1⟩,q W1 _ H1 xs le1 rs1 rfl<|zHq (λH _=>f H) r⟩)
    |lst _=>cases ex;obtain⟨p,ys,rfl,f,r⟩:=rv1;exact .inl ⟨p,rfl,⟨ys,.of<|rs1.fz _ _ f⟩,q W1 _ H1 xs le1 rs1 rfl<|zGc (.of f) r⟩
    |kl _=>cases ex;obtain⟨p,ys,rfl,f,r⟩:=rv1;exact .inl ⟨p,rfl,⟨ys,fR rs1.fz f⟩,q W1 _ H1 xs le1 rs1 rfl<|zGc f r⟩
    |ref p=>exact(hr p rfl).elim
    |_=>cases ex
   ·(cases e2),mP g<|mAC g h.m<|mAN g⟩
theorem ym(hg:Gl X "range")(hm:X.mg "range"=none)(h:FE X B G Ex e a)(hst:zAa e=true):FI X B G Ex tg (.Call (.Name "range" p1) [e] [] pos)<|cP .rng1<|aC a aN:=
 ⟨wkI (zo hg hm (f9 g h (iR g) hst).p hst) λτ H R ⟨W,σ,S,rs,rg,hh⟩=>LA.go (mAC g h.m<|mAN g) rs rg hh λvs S1 W1 us H1 hl le1 rs1 rv1 rg1 h1=>by
  obtain⟨z,S2,e2,q⟩:=g.pok h1;obtain⟨v,rfl⟩:=vs1 e2 rfl λa b r=>by cases a <;> rfl
  obtain⟨u,rfl,r1⟩:=rv1.inv1;cases v <;> try (cases e2;done)
  delta pr at e2;dsimp only at e2;split at e2
  ·next j hd=>
   cases e2;obtain⟨h1,h2⟩:=xBe hd;exact⟨_,by rw[show u=_ from r1],h1,h2,q W1 _ H1 _ le1 rs1 rfl zI8⟩
  ·(cases e2),mP g<|mAC g h.m<|mAN g⟩
theorem yl(hg:Gl X "range")(hm:X.mg "range"=none){ec:Expr}{c:TEx Prop}(h:FE X B G Ex ea a)(h2:FE X B G Ex eb b)(h3:FE X B G Ex ec c)(hst:zAa ea=true)(hst2:zAa eb=true)(hst3:zAa ec=true):FI X B G Ex tg (.Call (.Name "range" p1) [ea,eb,ec] [] pos)<|cP .rng3<|aC a<|zAp b c:=by
 have fa:FA X B G Ex [ea,eb,ec]<|aC a<|zAp b c:=f9 g h (f9 g h2 (f9 g h3 (iR g) hst3) hst2) hst;refine⟨wkI (oj hg hm fa.p (by rw[dj hst,dj hst2,dj hst3];rfl)<|by rw[dj hst2,dj hst3];rfl) λτ H R ⟨W,σ,S,rs,rg,hh⟩=>LA.go fa.m rs rg hh λvs S1 W1 us H1 hl le1 rs1 rv1 rg1 h1=>?_,mP g fa.m⟩;obtain⟨z,S2,e2,q⟩:=g.pok h1;match vs,hl with
 |[v,w,y],_=>
  obtain⟨u,us',rfl,r1,rr⟩:=rv1;obtain⟨u2,u3,rfl,r2,r3⟩:=Rvs.inv2 rr;cases v <;> try (cases e2;done)
  cases w <;> try (cases e2;done)
  cases y <;> try (cases e2;done)
  delta pr at e2;dsimp only at e2;split at e2
  ·next hd=>
   cases e2;obtain⟨rfl,hd2⟩:=xBe hd;exact⟨_,_,by rw[show u=_ from r1,show u2=_ from r2,show u3=_ from r3],hd2,q W1 _ H1 _ le1 rs1 rfl zI9⟩
  ·cases e2
theorem Aw(hK:X.K=B.K)(hg:Gl X "reversed")(hm:X.mg "reversed"=none)(h:FE X B G Ex e a)(hst:zAa e=true):FI X B G Ex tg (.Call (.Name "reversed" p1) [e] [] pos)<|cP .rev<|aC a aN:=
 ⟨wkI (tW hg hm (f9 g h (iR g) hst).p<|by rw[dj hst];rfl) λτ H R ⟨W,σ,S,rs,rg,hh⟩=>LA.go (mAC g h.m<|mAN g) rs rg hh λvs S1 W1 us H1 hl le1 rs1 rv1 rg1 h1=>by
  obtain⟨z,S2,e2,q⟩:=g.pok h1;obtain⟨v,rfl⟩:=vs1 e2 rfl λa b r=>by cases a <;> rfl
  obtain⟨u,rfl,r1⟩:=rv1.inv1;cases v <;> try (cases e2;done)
  ·cases e2;obtain⟨p,ys,rfl,f,r⟩:=r1;rw[hK];exact⟨p,ys,rfl,.of<|rs1.fz _ _ f,q W1 _ H1 _ le1 rs1 rfl<|zHp (λH hF=>.of<|hF _ _ f) r⟩
  ·cases e2;obtain⟨p,ys,rfl,f,r⟩:=r1;rw[hK];exact⟨p,ys,rfl,f H1,q W1 _ H1 _ le1 rs1 rfl<|zHp (λH _=>f H) r⟩,mP g<|mAC g h.m<|mAN g⟩
omit g in
theorem pH{W:Wd}{v:U}{u:V}(r:Rv B W v u)(h:sqF v=some xs):∃k ys,(∀H:Hp,(∀p o,W.F p=some o->H p=some o)->sqK k B.K H u ys)/\Rvs B W xs ys:=by
 cases v with
 |tup _=>cases h;obtain⟨p,ys,rfl,f,r⟩:=r;exact⟨true,ys,λH hF=>⟨p,rfl,.of<|hF _ _ f⟩,r⟩
 |kt _=>cases h;obtain⟨p,ys,rfl,f,r⟩:=r;exact⟨true,ys,λH _=>⟨p,rfl,f H⟩,r⟩
 |lst _=>cases h;obtain⟨p,ys,rfl,f,r⟩:=r;exact⟨false,ys,λH hF=>⟨p,rfl,.of<|hF _ _ f⟩,r⟩
 |kl _=>cases h;obtain⟨p,ys,rfl,f,r⟩:=r;exact⟨false,ys,λH hF=>⟨p,rfl,fR hF f⟩,r⟩
 |_=>cases h
theorem An{ts:List Expr}(hK:X.K=B.K)(hg:Gl X "zip")(hm:X.mg "zip"=none)(h:FE X B G Ex ea a)(h2:FE X B G Ex eb b)(hst:zAa ea=true)(hst2:zAa eb=true):FI X B G Ex (.Tuple ts k p2) (.Call (.Name "zip" p1) [ea,eb] [] pos)<|cP .zip<|zAp a b:=by
 have fa:FA X B G Ex [ea,eb]<|zAp a b:=f9 g h (f9 g h2 (iR g) hst2) hst;refine⟨wkI (tV hg hm fa.p (dj hst)<|by rw[dj hst2];rfl) λτ H R ⟨W,σ,S,rs,rg,hh⟩=>LA.go fa.m rs rg hh λvs S1 W1 us H1 hl le1 rs1 rv1 rg1 h1=>?_,mP g fa.m⟩;obtain⟨z,S2,e2,q⟩:=g.pok h1;match vs,hl with
 |[v,w],_=>
  obtain⟨u,u2,rfl,r1,r2⟩:=rv1.inv2;delta pr at e2;dsimp only at e2;split at e2
  ·next xs ys ex ey=>
   split at e2
   ·next hn=>
    cases e2;obtain⟨k1,as,q1,rr1⟩:=pH r1 ex;obtain⟨k2,bs,q2,rr2⟩:=pH r2 ey;rw[hK];exact⟨u,u2,k1,k2,rfl,⟨as,q1 _ rs1.fz⟩,⟨bs,q2 _ rs1.fz⟩,q W1 _ H1 _ le1 rs1 rfl<|zI6 q1 q2 rr1 rr2<|Nat.eq_of_beq_eq_true hn⟩
   ·cases e2
  ·cases e2
end
def zFn:List Nat->TGs
 |[]=>zIj
 |i::is=>zFo (zCu i)<|zFn is
def zIi(K:xFr)(is:List Nat)(one:Bool):TG:=match one with
 |true=>zCu<|is.headD 0
 |false=>zG4 K is.length<|zFn is
structure FG(X:Cx)(B:Bs)(G:Gx Prop)(tg:Expr)(is:List Nat)(one:Bool):Prop where
 p:PG X tg (zIi B.K is one)
section
variable{B:Bs}{up:List<|Str×Str}{G:Gx Prop}{Ex:St->XK}{c a b d:TEx Prop}{as:TAx Prop}{t:TTx Prop}{u v:TSx Prop}
variable{X:Cx}{e ea eb tg iter:Expr}{es:List Expr}{st:Stmt}{sts body orelse:List Stmt}{pos p1 p2:Pos}{x y:Str}{i:Nat}(g:zBs up G)
def Bq(hN:X.N.Nodup)(hi:X.N[i]?=some x)(hx:Loc X.env.scope x)(hf:X.fn x=true\/X.env.scope.names.lookup x=some .local):FG X B G (.Name x pos) [i] true:=⟨mG hN hi hx hf⟩
theorem iz(hN:X.N.Nodup):∀{es:List Expr}{is:List Nat},(∀(j:Nat)(e:Expr),es[j]?=some e->∃x p i,e=.Name x p/\is[j]?=some i/\X.N[i]?=some x/\Loc X.env.scope x/\(X.fn x=true\/X.env.scope.names.lookup x=some .local))->es.length=is.length->PGs X es (zFn is)/\es.all zAa=true
 |[],[],_,_=>⟨tX,rfl⟩
 |e::es,[],_,hl=>by cases hl
 |[],i::is,_,hl=>by cases hl
 |e::es,i::is,h,hl=>by
  obtain⟨x,p,i',rfl,hi,h1,h2,h3⟩:=h 0 e rfl;cases hi;obtain⟨q1,q2⟩:=iz hN (es:=es) (is:=is) (λj e hj=>h (j+1) e hj) (by simpa using hl);exact⟨qp (mG hN h1 h2 h3) q1 rfl,by rw[xCj,q2];rfl⟩
theorem rl:∀{is:List Nat}{W:Wd}{S:So}{H:Hp}{σ:Sg}{τ:St}{vs:List U}{us:List V}{QS:St->Hp->Prop},RS B W S H->Rg B W σ τ->Rvs B W vs us->vs.length=is.length->(∀τ',Rg B W (puts σ is vs) τ'->(∀j,j∉is->τ'[j]?=τ[j]?)->QS τ' H)->zFn is us τ H QS
 |[],W,S,H,σ,τ,vs,us,QS,rs,rg,rv,hl,q=>by
  match vs,hl with
  |[],_=>rw[show us=[] from rv];exact⟨rfl,q τ rg λ_ _=>rfl⟩
 |i::is,W,S,H,σ,τ,vs,us,QS,rs,rg,rv,hl,q=>by
  match vs,hl with
  |v::vs,hl=>
   obtain⟨u,us,rfl,r1,r2⟩:=rv;exact⟨u,us,rfl,rl rs (rg.put r1) r2 (by simpa using hl) λτ' rg' hj=>q τ' rg' λj hm=>by
    rw[hj j λz=>hm<|xAs _ z,xC1 λz=>hm<|by simp[z]]⟩
theorem kb:∀{is:List Nat}{σ:Sg}{vs:List U},(puts σ is vs).length=σ.length
 |[],_,_=>by cases ‹List U› <;> rfl
 |i::is,σ,[]=>rfl
 |i::is,σ,v::vs=>by show(puts (put σ i v) is vs).length=_;rw[kb,fX]
include g
theorem vY{is:List Nat}{one:Bool}{W:Wd}{v:U}{x:V}{k:Sg->Prop}{QS:St->Hp->Prop}(h1:one=true->is.length=1)(rs:RS B W S H)(rg:Rg B W σ τ)(rv:Rv B W v x)(h:tgt is one G v σ k)(q:∀σ' τ',k σ'->Rg B W σ' τ'->σ'.length=σ.length->(∀j,j∉is->τ'[j]?=τ[j]?)->QS τ' H):zIi B.K is one x τ H QS:=by
 cases one with
 |true=>
  match is,h1 rfl with
  |[i],_=>exact q (put σ i v) _ h (rg.put rv) fX λj hj=>by rw[xC1 λz=>hj<|by rw[<- z];simp]
 |false=>
  unfold tgt at h;dsimp only at h;cases v <;> try (exact(g.no h).elim)
  dsimp only at h;split at h
  ·next hn=>
   have hn:=Nat.eq_of_beq_eq_true hn;obtain⟨p,ys,rfl,f,r⟩:=rv;exact⟨p,ys,rfl,.of<|rs.fz _ _ f,by rw[r.length,hn],rl rs rg r hn λτ' rg' hj=>q _ τ' h rg' kb hj⟩
  ·exact(g.no h).elim
omit g in
theorem Bp{is:List Nat}(hK:X.K=B.K)(hc:X.calm=true)(hN:X.N.Nodup)(h:∀(j:Nat)(e:Expr),es[j]?=some e->∃x p i,e=.Name x p/\is[j]?=some i/\X.N[i]?=some x/\Loc X.env.scope x/\(X.fn x=true\/X.env.scope.names.lookup x=some .local))(hl:es.length=is.length):FG X B G (.Tuple es k pos) is false:=by
 obtain⟨q1,q2⟩:=iz hN h hl;refine⟨?_⟩;show PG X _<|zG4 B.K is.length<|zFn is;rw[<- hK];exact qq hc q1 ((fD q2).1.trans hl) (fD q2).2
theorem wD:FS X B G Ex (.Pass pos) sN:=⟨wkS tL λD τ H ⟨W,σ,S,rs,rg,h⟩=>h W τ H .refl rs rg,mN g⟩
theorem zc:FSs X B G Ex [] sN:=⟨zHr tJ λD τ H ⟨W,σ,S,rs,rg,h⟩=>h W τ H .refl rs rg,mN g⟩
theorem wH(h1:FS X B G Ex st u)(h2:FSs X B G Ex sts v):FSs X B G Ex (st::sts)<|sQ u v:=
 ⟨zHr (p0 h1.p h2.p) λD τ H ⟨W,σ,S,rs,rg,h⟩=>⟨W,σ,S,rs,rg,h1.m.m (E:=sqE (LEe B Ex W D) λσ1 S1=>v G σ1 S1<|LEe B Ex W D) (E':=LEe B Ex W {D with nx:=LS B G Ex v D}) ⟨λσ1 S1 h3 W1 τ1 H1 le1 rs1 rg1=>⟨W1,σ1,S1,rs1,rg1,h2.m.m (LEe.inc le1) h3⟩,λ_ _ z=>z,λ_ _ z=>z,λ_ _ z=>z,λ_ _ _ z=>z⟩ h⟩,mQ g h1.m h2.m⟩
omit g in
theorem xle{W:Wd}(rg:Rg B W σ τ):∀x S,(LEe B Ex W D).x x σ S->XL B W (Ex τ) x S:=λx S h W' C dx H le rx=>h W' τ C dx H le rx<|rg.mono le
omit g in
theorem LE.stm{W:Wd}{Q:VK}{k:Kv Prop}(m:zAt G c)(rs:RS B W S H)(rg:Rg B W σ τ)(h:c G σ S (λx S1=>(LEe B Ex W D).x x σ S1) k)(hk:∀v S' W' u H',W.Le W'->RS B W' S' H'->Rv B W' v u->Rg B W' σ τ->k v S'->Q u H'):LE B G Ex c τ H Q:=
 LE.go m rs rg (m.m (λx S=>xle rg x S) (λ_ _ h=>h) h) hk
theorem vF(he:FE X B G Ex e c)(hN:X.N.Nodup)(hi:X.N[i]?=some x)(hx:Loc X.env.scope x)(hsw:swapsWith e (some<|.Name x p1) pos.line X.env=pure false)(hf:X.fn x=true\/X.env.scope.names.lookup x=some .local):FS X B G Ex (.Assign [.Name x p1] e pos)<|sA i c:=
 ⟨wkS (p9 hN hi hx he.p hsw hf) λD τ H ⟨W,σ,S,rs,rg,h⟩=>LE.stm he.m rs rg h λv S' W' u H' le rs' rv rg' h'=>h' W' _ H' le rs'<|rg'.put rv,mA g he.m⟩
theorem A7(he:FE X B G Ex e c)(hc:zAy e=true):FS X B G Ex (.Expr e pos)<|sE c:=
 ⟨wkS (zk he.p hc) λD τ H ⟨W,σ,S,rs,rg,h⟩=>LE.stm he.m rs rg h λv S' W' u H' le rs' rv rg' h'=>h' W' τ H' le rs' rg',mSE g he.m⟩
theorem vE(he:FE X B G Ex e c):FS X B G Ex (.Return (some e) pos)<|sR c:=
 ⟨wkS (wQ he.p) λD τ H ⟨W,σ,S,rs,rg,h⟩=>LE.stm he.m rs rg h λv S' W' u H' le rs' rv rg' h'=>h' W' u H' le rs' rv,mR g he.m⟩
theorem wC:FS X B G Ex (.Return none pos) sRN:=⟨wkS tK λD τ H ⟨W,σ,S,rs,rg,h⟩=>h W _ H .refl rs rfl,mRN g⟩
theorem A6(ht:FT X B G Ex e t)(ha:FSs X B G Ex body u)(hb:FSs X B G Ex orelse v):FS X B G Ex (.If e body orelse pos)<|sI t u v:=
 ⟨wkS (zj ht.p ha.p hb.p) λD τ H ⟨W,σ,S,rs,rg,h⟩=>LT.go ht.m rs rg (ht.m.m (λx S=>xle rg x S) (λ_ _ h=>h) h) λc S' W' H' le rs' rg' h'=>by
  have h':=g.bk h';cases c with
  |true=>exact⟨W',σ,S',rs',rg',ha.m.m (LEe.inc le) h'⟩
  |false=>exact⟨W',σ,S',rs',rg',hb.m.m (LEe.inc le) h'⟩,mI g ht.m ha.m hb.m⟩
omit g in
theorem PG.or'{t1 t2:TG}(h1:PG X tg t1)(h2:PG X tg t2):PG X tg λv σ H Q=>t1 v σ H Q\/t2 v σ H Q:=λZ s σ H v u Q I r q=>q.elim (h1 Z s σ H v u Q I r)<|h2 Z s σ H v u Q I r
theorem za{is:List Nat}{pt:Pos}(hK:X.K=B.K)(hc:X.calm=true)(hN:X.N.Nodup)(he:FE X B G Ex e c)(h:∀(j:Nat)(e:Expr),es[j]?=some e->∃x p i,e=.Name x p/\is[j]?=some i/\X.N[i]?=some x/\Loc X.env.scope x/\(X.fn x=true\/X.env.scope.names.lookup x=some .local))(hl:es.length=is.length)(hs:swapsWithSole [.Tuple es k pt] e pos.line X.env=pure false)(hw:swappedStores [.Tuple es k pt] e X.env=pure none):FS X B G Ex (.Assign [.Tuple es k pt] e pos)<|sU is c:=by
 obtain⟨q1,q2⟩:=iz hN h hl;refine⟨wkS (qb he.p (PG.or' (qq (k:=k) (pos:=pt) hc q1 (fD q2).1 (fD q2).2)<|w5 (k:=k) (pos:=pt) hc q1 (fD q2).1 (fD q2).2) hs hw) λD τ H ⟨W,σ,S,rs,rg,h⟩=>LE.stm he.m rs rg h λv S' W' u H' le rs' rv rg' h'=>?_,mU g he.m⟩;obtain⟨z,S2,e2,q⟩:=g.pok h';delta pr at e2;dsimp only at e2;split at e2
 ·next xs ex=>
  split at e2
  ·next hn=>
   cases e2;have hn:=Nat.eq_of_beq_eq_true hn;obtain⟨p,ys,rfl,sq,rr⟩:=gi rs' rv ex;have fin:=rl rs' rg' rr hn λτ' rg2 _=>q W' τ' H' le rs' rg2;rw[hK];rcases sq with sq|sq
   ·exact .inr ⟨p,ys,rfl,sq,by rw[rr.length,hn,hl],fin⟩
   ·exact .inl ⟨p,ys,rfl,sq,by rw[rr.length,hn,hl],fin⟩
  ·cases e2
 ·cases e2
theorem ze{fl:List Str}{f:Str}(hK:X.K=B.K)(F:ClF B fl)(hf:f∈fl)(ho:FE X B G Ex o a)(he:FE X B G Ex e c)(hc:zAy e=true):FS X B G Ex (.Assign [.Attribute o f p1] e pos)<|sP (.setf f) c<|aC a aN:=
 ⟨wkS (wR ho.p he.p<|f6 hc) λD τ H ⟨W,σ,S,rs,rg,h⟩=>LE.stm he.m rs rg h λv S1 W1 u1 H1 le1 rs1 rv1 rg1 h1=>by
  refine LE.go ho.m rs1 rg1 (ho.m.m (λx S z=>XL.up le1<|xle rg x S z) (λ_ _ z=>z) h1) λw S2 W2 u2 H2 le2 rs2 rv2 rg2 h2=>?_;obtain⟨z,S3,e3,q⟩:=g.pok h2;cases w <;> try (cases e3;done)
  obtain⟨C,fs,aa,cc,dx,vs,e4,e5,e6,hm,hcl,hh,rn⟩:=jJ rs2 rv2<|show zCx _ _ _=_ from e3;split at e5
  ·next hb=>
   cases e5;have hb:=xCo hb;exact⟨aa,cc,dx,vs,e6,hh,by rw[hK];exact F.c hcl,by rw[hK];exact F.n hcl hf,by rw[rn.length];lia,q W2 τ _ (le1.trans le2) (rs2.mut hm e4 (by nofun) ⟨cc,dx,_,hcl,rfl,mn (rv1.mono le2) rn⟩) rg2⟩
  ·(cases e5),mSP g he.m<|mAC g ho.m<|mAN g⟩
omit g in
def zGs:zGb:=λo i v H Q=>∃a H4,o=.ref a/\zI4 H a i v H4/\Q H4
omit g in
theorem y8(hu:X.A.units+1<cLine):zI0 X zGs:=by
 intro Z s σ H o i v ov iv u Q I ro ri rv h;obtain⟨a,H4,rfl,d,q⟩:=h;obtain rfl:ov=Value.ref a:=ro;exact oP hu I d ri rv λs4 I4=>⟨H4,I4,q⟩
theorem wG{ei:Expr}(hu:X.A.units+1<cLine)(ho:FE X B G Ex o a)(hi:FE X B G Ex ei b)(he:FE X B G Ex e c)(hs:zBz ei=true)(hc:zAy e=true):FS X B G Ex (.Assign [.Subscript o ei p1] e pos)<|sP .seti c<|zAp a b:=by
 refine⟨wkS (qb he.p (w4 ho.p hi.p (y8 hu)<|by intro _;cases ei <;> first|rfl|cases hs) (by rw[show swapsWithSole [Expr.Subscript o ei p1] e pos.line X.env=swapsWith e (some<|.Subscript o ei p1) pos.line X.env from rfl];exact f6 hc) rfl rfl) λD τ H ⟨W,σ,S,rs,rg,h⟩=>LE.stm he.m rs rg h λv S1 W1 u1 H1 le1 rs1 rv1 rg1 h1=>?_,mSP g he.m<|mAC g ho.m<|mAC g hi.m<|mAN g⟩;refine LE.go ho.m rs1 rg1 (ho.m.m (λx S z=>XL.up le1<|xle rg x S z) (λ_ _ z=>z) h1) λw S2 W2 u2 H2 le2 rs2 rv2 rg2 h2=>?_;refine LE.go hi.m rs2 rg2 (hi.m.m (λx S z=>XL.up (le1.trans le2)<|xle rg x S z) (λ_ _ z=>z) h2) λw3 S3 W3 u3 H3 le3 rs3 rv3 rg3 h3=>?_;obtain⟨z,S4,e4,q⟩:=g.pok h3;have rv2:=rv2.mono le3;have rv1:=(rv1.mono le2).mono le3;have lee:=le1.trans<|le2.trans le3;cases w <;> try (cases e4;done)
 change zCh _ w3 v S3=_ at e4;unfold zCh at e4;split at e4
 ·next kvs ek=>
  split at e4
  ·next kk ekk=>
   obtain⟨hl,e5⟩:=eK e4;cases e5;obtain⟨aa,hh,hm,hH,ro,_⟩:=rs3.here ek;obtain⟨aa',e6,hm'⟩:=rv2;rw[hm] at hm';cases hm';obtain⟨ks,rfl,rn⟩:=ro;exact⟨aa,_,e6,.inl ⟨ks,kk,hH,jG ekk rv3,by rw[rn.length];lia,rfl⟩,q W3 τ _ lee (rs3.mut hm ek (by nofun) ⟨_,rfl,tF rv1 rn⟩) rg3⟩
  ·cases e4
 ·cases e4
theorem zd{is:List Nat}{one:Bool}(ho:one=true->is.length=1)(hc:X.calm=true)(hi:FI X B G Ex tg iter c)(hg:FG X.lp B G tg is one)(hb:FSs X.lp B G Ex body u)(hs:∀x,foldedSetIterable iter X.env x=pure x):FS X B G Ex (.For tg iter body [] pos)<|sF c is one u:=by
 refine⟨wkS (tM hc hi.p hg.p hb.p hs) λD τ H ⟨W,σ,S,rs,rg,h⟩=>?_,mSF g hi.m hb.m⟩;refine⟨W,σ,S,rs,rg,hi.m.m (λx S z=>xle rg x S z) (λv S1 h1 W1 J H1 vs le1 rs1 ev wk=>?_) h⟩;subst ev;dsimp only at h1;refine⟨λi m τ' H'=>i<=vs.length/\m=vs.length-i/\∃W' σ' S',W1.Le W'/\RS B W' S' H'/\Rg B W' σ' τ'/\zB4 (vs.drop i) (λw σ1 S2 nx=>tgt is one G w σ1 λσ2=>u G σ2 S2<|lpE (LEe B Ex W D) nx) σ' S' (LEe B Ex W D).nx,⟨vs.length,xBn _,rfl,W1,σ,S1,.refl,rs1,rg.mono le1,h1⟩,?_⟩;rintro i m τ' H' ⟨hi',rfl,W',σ',S',le',rs',rg',hh⟩
 by_cases hlt:i<vs.length
 ·refine .inr ⟨wk.go le'.lf rs' hlt,λτ2 H2=>∃W2 σ2 S2,W1.Le W2/\RS B W2 S2 H2/\Rg B W2 σ2 τ2/\zB4 (vs.drop<|i+1) (λw σ1 S2 nx=>tgt is one G w σ1 λσ2=>u G σ2 S2<|lpE (LEe B Ex W D) nx) σ2 S2 (LEe B Ex W D).nx,λτ2 H2 ⟨W2,σ2,S2,l2,r2,g2,f2⟩=>⟨vs.length-(i+1),by lia,hlt,rfl,W2,σ2,S2,l2,r2,g2,f2⟩,λx H2 y=>?_⟩;rw[List.drop_eq_getElem_cons hlt] at hh;obtain⟨W2,le2,rs2,rv2⟩:=wk.yld le'.lf rs' (xAk hlt) y;refine vY g ho (k:=λσ2=>u G σ2 S'<|lpE (LEe B Ex W D) λσ1 S1=>zB4 (vs.drop<|i+1) (λw σ1 S2 nx=>tgt is one G w σ1 λσ2=>u G σ2 S2<|lpE (LEe B Ex W D) nx) σ1 S1 (LEe B Ex W D).nx) rs2 (rg'.mono le2) rv2 hh λσ3 τ3 h3 rg3 _ _=>⟨W2,σ3,S',rs2,rg3,hb.m.m ?_ h3⟩
  have lew:W.Le W2:=le1.trans<|le'.trans le2;exact⟨λσ4 S4 h4 W4 τ4 H4 le4 rs4 rg4=>⟨W4,σ4,S4,le'.trans<|le2.trans le4,rs4,rg4,h4⟩,λ_ _=>VL.inc lew,λ_ _=>NL.inc lew,λσ4 S4 h4 W4 τ4 H4 le4 rs4 rg4=>⟨W4,σ4,S4,le'.trans<|le2.trans le4,rs4,rg4,h4⟩,(LEe.inc lew).x⟩
 ·have e:i=vs.length:=by lia
  subst e;rw[List.drop_length] at hh;exact .inl ⟨wk.stop le'.lf rs',hh W' τ' H' (le1.trans le') rs' rg'⟩
theorem tD(ht:FT X.lp B G Ex e t)(hb:FSs X.lp B G Ex body u):FS X B G Ex (.While e body [] pos)<|sW t u:=by
 refine⟨wkS (n9 ht.p hb.p) λD τ H ⟨W,σ,S,rs,rg,h⟩=>?_,mSW g ht.m hb.m⟩;refine⟨λm τ' H'=>∃W' σ' S',W.Le W'/\RS B W' S' H'/\Rg B W' σ' τ'/\whK (λσ1 S1 k=>t G σ1 S1 (λx S2=>(LEe B Ex W D).x x σ1 S2) k) (λσ1 S1 nx=>u G σ1 S1<|lpE (LEe B Ex W D) nx) G.br G.fail m σ' S' (LEe B Ex W D).nx,⟨G.fuel,W,σ,S,.refl,rs,rg,h⟩,?_⟩;rintro m τ' H' ⟨W',σ',S',le',rs',rg',hh⟩
 cases m with
 |zero=>exact(g.no hh).elim
 |succ m=>
  refine LT.go ht.m rs' rg' (ht.m.m (λx S z=>λW2 C dx H le2 rx=>z W2 τ' C dx H (le'.trans le2) rx<|rg'.mono le2) (λ_ _ z=>z) hh) λcc S2 W2 H2 le2 rs2 rg2 h2=>?_;have h2:=g.bk h2;have lew:W.Le W2:=le'.trans le2;cases cc with
  |true=>
   rw[xCg rfl] at h2⊢;refine⟨λτ3 H3=>∃W3 σ3 S3,W.Le W3/\RS B W3 S3 H3/\Rg B W3 σ3 τ3/\whK (λσ1 S1 k=>t G σ1 S1 (λx S2=>(LEe B Ex W D).x x σ1 S2) k) (λσ1 S1 nx=>u G σ1 S1<|lpE (LEe B Ex W D) nx) G.br G.fail m σ3 S3 (LEe B Ex W D).nx,λτ3 H3 z=>⟨m,Nat.lt_succ_self _,z⟩,W2,σ',S2,rs2,rg2,hb.m.m ?_ h2⟩;exact⟨λσ4 S4 h4 W4 τ4 H4 le4 rs4 rg4=>⟨W4,σ4,S4,lew.trans le4,rs4,rg4,h4⟩,λ_ _=>VL.inc lew,λ_ _=>NL.inc lew,λσ4 S4 h4 W4 τ4 H4 le4 rs4 rg4=>⟨W4,σ4,S4,lew.trans le4,rs4,rg4,h4⟩,(LEe.inc lew).x⟩
  |false=>
   rw[xCf xAy] at h2⊢;exact h2 W2 τ' H2 lew rs2 rg2
end
section
variable{X:Cx}{Ex:St->XK}{ex:Expr}{te:TE}{pos:Pos}
def oa(c:Cat X Ex)(hh:X.A.handled=none)(he:PE X ex te):PS X (.Raise (some ex) none pos)<|zEt X.K te Ex:=by
 intro Z s σ H D I h;rw[arm_exec_Raise];refine xAd (wpAny_standAt ?_);have main:wpAny (model X.prog X.w) X.A (eval ex X.env) (λv s1=>∃e,v=.ref e/\zCp e s1.heap/\X.xe (.ref e) s1) X.xe s:=by
  refine thn (he Z s σ H _ I h) λu s1 zz=>?_;obtain⟨v,H1,I1,r,e,C,dx,ev,hx,hF,q⟩:=zz;subst ev;obtain rfl:u=Value.ref e:=r;obtain⟨nm,qn,N,bs,bm,hdct,sn,sub,ab,col,dd,k0,k1,k2,k3,k5,lk,tl⟩:=fJ hF;obtain⟨⟨t,ge⟩,_,_⟩:=(show zAc X.prog X.w H1 s1.heap e (XO C dx e) from I1.hok e _ hx)
  exact⟨e,rfl,⟨nm,qn,C,N,bs,bm,hdct,sn,sub,ab,col,dd,k0,k1,k2,k3,k5,_,t,dx,I1.kIn _ _ lk,gh tl,ge⟩,c.rises I1 hx q⟩
 change wpAny _ _ (raiseStmt X.env (some<|do let v <- eval ex X.env;standAt pos;pure v) none) _ _ _;exact lx hh<|xAd<|wpAny_mono main (λv s1 z=>xAd<|wpAny_standAt<|xAe z) λ_ _ y=>y
end
def zE1(K:xFr)(f:Str):Sp:=λvs H Q _=>∃(e C:Addr) (v:V),vs=[.ref e,v]/\H e=some (XO C none e)/\XSt K C/\zAr K C f/\∀dx,H dx=none->Q .non (upd (upd H dx<|.xd [(f,v)]) e<|XO C (some dx) e)
section
variable{B:Bs}{up:List<|Str×Str}{G:Gx Prop}{Ex:St->XK}{c a b d:TEx Prop}{as:TAx Prop}{t:TTx Prop}{u v:TSx Prop}
variable{X:Cx}{e ea eb:Expr}{es:List Expr}{st:Stmt}{sts body suite:List Stmt}{pos p1 p2 p3 np hpos:Pos}{x y:Str}{i:Nat}{cc:Addr}(g:zBs up G)
include g
theorem pN{fld s0:Str}(ca:Cat X Ex)(hh:X.A.handled=none)(M:XMk X.K cc f')(F:zAv X.prog X.w X.K X.mg X.base (CXo X.prog X.w) k f' fd [s0,fld]<|zE1 X.K fld)(hr:zA4 (k+1) X.A)(hb:zAm X.K fd [s0,fld] [])(xst:XSt X.K cc)(na:zAr X.K cc fld)(hF:zCv X.K cc=true)(hg:Gl X x)(hm:X.mg x=some (.ref cc))(hmB:B.mg x=some (.ref cc))(hdb:(x==("__debug__":Str))=false)(he:FE X B G Ex e a)(hst:zAa e=true):FS X B G Ex (.Raise (some<|.Call (.Name x p1) [e] [] p2) none pos)<|sX x [fld]<|aC a aN:=by
 have fa:FA X B G Ex [e]<|aC a aN:=f9 g he (iR g) hst;refine⟨wkS (oa ca hh<|qu M F hr hg hm hb zD3 fa.p hdb (dj hst) rfl) λD τ H ⟨W,σ,S,rs,rg,h⟩=>?_,mSX g fa.m⟩;refine LA.go fa.m rs rg (fa.m.m (λx S=>xle rg x S) (λ_ _ _ z=>z) h) λvs S1 W1 us H1 hl le1 rs1 rv1 rg1 h1=>?_;match vs,hl with
 |[v],_=>
  obtain⟨u,rfl,r1⟩:=rv1.inv1;refine⟨(by simp),λee hee=>⟨ee,cc,u,rfl,dg,xst,na,λdx hdx=>⟨rfl,ee,cc,some dx,rfl,dg,hF,?_⟩⟩⟩;have de:dx≠ee:=λz=>by rw[z,dg] at hdx;cases hdx
  have hdx':H1 dx=none:=by rw[db de] at hdx;exact hdx
  refine h1 W1 τ _ (some dx) _ le1 ⟨rs1.same λb o hb=>?_,⟨cc,hmB,rfl⟩,.inr ⟨dx,[(fld,u)],rfl,?_,⟨u,[],rfl,r1,rfl⟩⟩⟩ rg1
  ·have be:b≠ee:=dq hb hee;rw[iI be,db be,db<|dq hb hdx',db be];exact hb
  ·rw[iI de,db de,dg]
theorem AF{fs:List<|Str×Nat×Nat}(hx:zAn (CXo X.prog X.w) X Ex)(he:FE X B G Ex e a)(hs:FA X B G Ex (e1::es) as)(hst:(e1::es).all zAa=true)(hv:∀{y p},zAj y fs=some p->∃f kk fd ps,B.mg y=some (.ref f)/\PySem.W.keepIn X.K (.ref f)=true/\zA4 kk X.A/\zAv X.prog X.w X.K X.mg X.base (CXo X.prog X.w) kk f fd ps (spF B G p.1 p.2)/\zAm X.K fd ps []/\es.length+1=p.2)(hcall:eval (.Call e (e1::es) [] pos) X.env=(do callWith pos (<- eval e X.env) [] (backTo pos<|starEach (e1::es) X.env) (backToKw pos<|keywordEach [] X.env))):FE X B G Ex (.Call e (e1::es) [] pos)<|cD fs a as:=by
 refine⟨λZ s τ H Q I ⟨W,σ,S,rs,rg,h⟩=>?_,mD g he.m hs.m⟩;rw[hcall];have h0:=LE.go (Q:=λu H1=>∃y p,zAj y fs=some p/\(∃f,u=.ref f/\B.mg y=some (.ref f))/\LA B G Ex as τ H1 λus H2=>spF B G p.1 p.2 us H2 Q<|Ex τ) he.m rs rg h λv S1 W1 u1 H1 le1 rs1 rv1 rg1 h1=>by
  cases v <;> first|(exact(g.no h1).elim)|skip
  dsimp only at h1;split at h1
  ·next y p hp=>
   obtain⟨f,kk,fd,ps,hm,hk,hr,F,hb,hn⟩:=hv hp;obtain⟨f',e2,hm'⟩:=rv1;refine⟨_,_,hp,⟨f',e2,hm'⟩,LA.go hs.m rs1 rg1 (hs.m.m (XL.upf le1 _) (λ_ _ _ z=>z) h1) λvs S2 W2 us H2 hl le2 rs2 rv2 _ h2=>⟨by rw[rv2.length,hl];exact hn,W2,vs,S2,rs2,rv2,g.call (XL.upf (le1.trans le2) _) (λ_ _=>VL.inc<|le1.trans le2) h2⟩⟩
  ·exact(g.no h1).elim
 refine xAd (thn (he.p Z s τ H _ I h0) λfv s1 zz=>?_);obtain⟨u,H1,I1,r1,y,p,hp,⟨f',e2,hm'⟩,h1⟩:=zz;subst e2;obtain rfl:fv=Value.ref f':=r1;obtain⟨f,kk,fd,ps,hm,hk,hr,F,hb,hn⟩:=hv hp;rw[hm] at hm';cases hm';rw[xCj,xCh] at hst;refine PySem.W.callWith_K (h₀:=X.base) I.ok.mod.kin hk (thn (hs.p pos Z s1 τ H1 _ I1 h1) λus s2 ⟨vs,H2,I2,r2,q2⟩=>⟨I2.kIn,?_⟩) (dj hst.1)<|d0 hst.2;exact fK (dvs:=[]) (ds:=[]) F hr hb .nil hx I2 r2 (by rw[xB0];exact q2)
theorem AB{np:Nat}{ps:List Str}{mc:Value}{m:Str}{apos:Pos}(hg:Gl X x)(hm:X.mg x=some (.ref cc))(hdb:(x == ("__debug__":Str))=false)(h1:PySem.W.specialIn X.K (.ref cc) "__getattribute__"=some (some<|.builtin "type.__getattribute__"))(h2:PySem.W.readsIn X.K cc mc=true)(h3:PySem.W.findCls X.K (.ref cc) mc m=some (.val<|.ref f'))(h4:PySem.W.handedIn (.ref f')=true)(hk:PySem.W.keepIn X.K (.ref f')=true)(F:zAv X.prog X.w X.K X.mg X.base (CXo X.prog X.w) k f' fd ps<|spF B G i np)(hr:zA4 k X.A)(hb:zAm X.K fd ps [])(hx:zAn (CXo X.prog X.w) X Ex)(hs:FA X B G Ex (e1::es) as)(hst:(e1::es).all zAa=true)(hn:es.length+1=np)(ht:∃pl,eval (.Call (.Attribute (.Name x p1) m apos) (e1::es) [] pos) X.env=(do
   let ov <- eval (.Name x p1) X.env
   standAt apos.atName
   let (f,first) <- holding [ov] (getMethod ov m pl)
   callWith pos f first (backTo pos<|starEach (e1::es) X.env) (backToKw pos<|keywordEach [] X.env))):FE X B G Ex (.Call (.Attribute (.Name x p1) m apos) (e1::es) [] pos)<|cF i as []:=by
 refine⟨λZ s τ H Q I ⟨W,σ,S,rs,rg,h⟩=>?_,mF g hs.m⟩;obtain⟨pl,ht⟩:=ht;have h0:LA B G Ex as τ H λus H2=>spF B G i np us H2 Q<|Ex τ:=LA.go hs.m rs rg h λvs S2 W2 us H2 hl le2 rs2 rv2 _ h2=>⟨by rw[rv2.length,hl];exact hn,W2,vs,S2,rs2,rv2,g.call (XL.upf le2 _) (λ_ _=>VL.inc le2)<|by rw[xB0] at h2;exact h2⟩
 refine PySem.W.methodCall_KW (pl:=pl) (eY I hg hm ?_ hdb) ht;refine PySem.W.method_cls I.kIn h1<|PySem.W.cls_value I.kIn h2 h3 h4 ?_;rw[xCj,xCh] at hst;have I1:=I.tok (t:=s.toks+1);refine PySem.W.callWith_K (first:=[]) (h₀:=X.base) I.ok.mod.kin hk (thn (hs.p pos Z _ τ H _ I1 h0) λus s2 ⟨vs,H2,I2,r2,q2⟩=>⟨I2.kIn,?_⟩) (dj hst.1)<|d0 hst.2;exact fK (dvs:=[]) (ds:=[]) F hr hb .nil hx I2 r2 (by rw[xB0];exact q2)
end
section
variable{B:Bs}{up:List<|Str×Str}{G:Gx Prop}{Ex:St->XK}{c a b d:TEx Prop}{as:TAx Prop}{t:TTx Prop}{u v:TSx Prop}
variable{X:Cx}{e ea eb tg iter elt:Expr}{es:List Expr}{st:Stmt}{sts body:List Stmt}{pos p1 p2 p3 p4 np hpos:Pos}{x y n f:Str}{i j:Nat}{cc:Addr}(g:zBs up G)
theorem jQ:∀{σ:Sg}{i:Nat},(clr σ i).length=σ.length
 |[],_=>rfl
 |_::_,0=>rfl
 |_::r,i+1=>by show(clr r i).length+1=r.length+1;rw[jQ]
theorem mX:∀{σ:Sg}{i j:Nat}{w:U},nth (clr σ i) j=some w->i≠j/\nth σ j=some w
 |[],_,_,_,h=>by cases h
 |_::_,0,0,_,h=>by cases h
 |_::_,0,_+1,_,h=>⟨by lia,h⟩
 |_::_,_+1,0,_,h=>⟨by lia,h⟩
 |_::r,i+1,j+1,w,h=>by obtain⟨a,b⟩:=mX (σ:=r) (i:=i) (j:=j) h;exact⟨by lia,b⟩
include g
theorem zb(mu:zBr G u)(hx:∀(Z:List<|Addr×Obj)(E':Value->Shared->Prop)(Ex':St->XK),Cat (X.trial Z E') Ex'->FSs (X.trial Z E') B G Ex' body u)(hN:X.N.Nodup)(hi:X.N[i]?=some n)(hl:X.env.kindOf n=some .local)(hj:X.N[j]?=some y)(hly:Loc X.env.scope y)(hfy:X.fn y=true\/X.env.scope.names.lookup y=some .local)(hij:i≠j)(hg:Gl X x)(hm:X.mg x=some (.ref cc))(hmB:∀z,B.mg z=X.mg z)(hdb:(x==("__debug__":Str))=false)(hF:zBd X.K cc cc)(na:XGt X.K cc)(na2:zAr X.K cc f)(hst:X.stack=X.env::X.outer)(hfr:X.env.frame=some X.env.locals)(hdn:(n==("__debug__":Str))=false)(hcn:(n==("__classdict__":Str))=false) :
  FS X B G Ex (.Try body [.ExceptHandler (some<|.Name x np) (some n) [.Assign [.Name y p1] (.Attribute (.Name n p2) f p3) p4] hpos] [] [] pos) (sT x i j f u):=by
 refine⟨?_,mST g mu⟩;refine wkS (p7 (Dc:=cc) (i:=i) (tb:=λEx'=>LS B G Ex' u) (ts:=zF3 (zDm X.K (zHv i) f)<|zCu j) (λZ E' Ex' c=>(hx Z E' Ex' c.cat).p) (λe=>?_) hN hi hl hg hm hst hfr hdb) λD τ H ⟨W,σ,S,rs,rg,h⟩=>?_
 ·exact mw<|p9 (X:=X.suite e) hN hj hly (qy (X:=X.suite e) (jz (X:=X.suite e) hi (.inl hl) hdn hcn)<|fL rfl) rfl hfy
 ·refine⟨W,σ,S,rs,rg,mu.m (E:=xcE (LEe B Ex W D)<|hdl x i j f G<|LEe B Ex W D) ⟨λ_ _ z=>z,λ_ _ z=>z,λ_ _ z=>z,λ_ _ z=>z,λxx σ1 S1 z W' τ1 C dx H' le rx rg1=>?_⟩ h⟩;have z:hdl x i j f G (LEe B Ex W D) xx σ1 S1:=z;unfold hdl at z;cases e1:decide (xx.cls=x) with
  |false=>rw[e1] at z;exact(g.no z).elim
  |true=>
   rw[e1] at z;dsimp only at z;have e1:=xBe e1;cases e2:zAj f xx.fs with
   |none=>rw[e2] at z;exact(g.no z).elim
   |some w=>
    rw[e2] at z;dsimp only at z;cases e5:Nat.blt i σ1.length with
    |false=>rw[e5] at z;exact(g.no z).elim
    |true=>
    rw[e5] at z;dsimp only at z;have hil:i<σ1.length:=xCo e5;obtain⟨c',hc',rfl⟩:=rx.c;rw[e1,hmB,hm] at hc';cases hc';refine⟨cc,rfl,hF,λee T hee=>?_⟩;rcases rx.f with ⟨hf,_⟩|⟨dd,vs,rfl,hd,rn⟩
    ·rw[hf] at e2;cases e2
    ·obtain⟨uu,e3,ru⟩:=(fM (f:=f) rn).1 _ e2;refine⟨.ref ee,by rw[List.getElem?_set_self<|by rw[rg1.l];exact hil],ee,cc,dd,T,vs,uu,rfl,dg,by rw[db<|dq hd hee];exact hd,na,na2,e3,?_⟩;refine z W' _ _ le (rx.s.same<|eO hee _) ⟨by simp only[List.length_set];rw[fX,jQ];exact rg1.l,λk w' hk=>?_⟩;rcases jD hk with ⟨rfl,rfl,hlt⟩|⟨hne,hk⟩
     ·refine⟨uu,?_,ru⟩;rw[xC1 hij,List.getElem?_set_self];rw[List.length_set,rg1.l];rwa[jQ] at hlt
     ·obtain⟨hni,hk⟩:=mX hk;obtain⟨u',e4,r4⟩:=rg1.v k w' hk;exact⟨u',by rw[xC1 hni,xC1 hne,xC1 hni];exact e4,r4⟩
theorem rT(hc:X.calm=true)(hg:Gl X "len")(hm:X.mg "len"=none)(hg2:Gl X "set")(hm2:X.mg "set"=none)(ha:FE X B G Ex ea a)(hst:zAa ea=true):FE X B G Ex (.Call (.Name "len" p1) [.Call (.Name "set" p2) [ea] [] p3] [] pos)<|cP .lenset<|aC a aN:=
 ⟨wkE (mJ vg hg hm (by decide +kernel) (lC (vJ (ve hc) hg2 hm2 (by decide +kernel) (lC ha.p im hst)<|by rw[xCj,hst];rfl) im rfl) rfl) λτ H Q h=>(LE.p1 g ha.m h).imp ha.m λw H1 zz=>by
  obtain⟨W,S,v,z,S',rs,r1,e,q⟩:=zz;cases v <;> try (cases e;done)
  delta pr at e;dsimp only at e;split at e
  ·next ws ew=>
   split at e
   ·next hb=>
    cases e;obtain⟨p,ys,rfl,f,r⟩:=r1;have hys:=mj ew r;subst hys;obtain⟨h1,h2⟩:=xBe hb;exact⟨p,ws,rfl,rs.fz _ _ f,h1,h2,λl hl=>⟨l,_,rfl,dg,by lia,q W _ _ .refl (rs.same<|eO hl _) rfl⟩⟩
   ·cases e
  ·(cases e),mP g<|mAC g ha.m<|mAN g⟩
theorem AD(ha:FE X B G Ex ea a):FE X B G Ex ea<|cP .frz<|aC a aN:=
 ⟨wkE ha.p λτ H Q h=>(LE.p1 g ha.m h).imp ha.m λw H1 zz=>by
  obtain⟨W,S,v,z,S',rs,r1,e,q⟩:=zz;cases v <;> try (cases e;done)
  next p=>
  change zCr p S _=_ at e;unfold zCr at e;split at e
  ·next xs ex=>
   cases e;obtain⟨aa,rfl,hm⟩:=r1;obtain⟨W2,le2,rs2,r3⟩:=rs.freeze ex hm;exact q W2 _ H1 le2 rs2 r3
  ·(cases e),mP g<|mAC g ha.m<|mAN g⟩
omit g in
theorem mZ:∀{n:Nat}{l:List<|Option U}{k:Nat}{v:U},nth (List.replicate n none++l) k=some v->n<=k/\nth l (k-n)=some v
 |0,l,k,v,h=>⟨xBn _,by simpa using h⟩
 |n+1,l,0,v,h=>by cases h
 |n+1,l,k+1,v,h=>by
  have h:nth (List.replicate n none++l) k=some v:=by simpa [List.replicate_succ,nth] using h
  obtain⟨a,b⟩:=mZ h;exact⟨by lia,by rw[show k+1-(n+1)=k-n by lia];exact b⟩
omit g in
theorem mW{σ:Sg}:∀{cs:List Nat}{k:Nat}{v:U},nth (cs.map<|nth σ) k=some v->∃c,cs[k]?=some c/\nth σ c=some v
 |[],_,_,h=>by cases h
 |c::cs,0,v,h=>⟨c,rfl,h⟩
 |c::cs,k+1,v,h=>by simpa using mW (cs:=cs) (k:=k) (by simpa [nth] using h)
omit g in
theorem yJ{W:Wd}{m:Nat}(rg:Rg B W σ τ):Rg B W (List.replicate m none++cs.map (nth σ))<|List.replicate m none++zCy τ cs:=by
 refine⟨by simp[zCy],λk v h=>?_⟩;obtain⟨h1,h2⟩:=mZ h;obtain⟨c,h3,h4⟩:=mW h2;obtain⟨u,e,r⟩:=rg.v c v h4;refine⟨u,?_,r⟩;rw[xCl (by simpa using h1),xCu];unfold zCy;rw[xAw,h3];simp[e]
theorem Az{scope:Scope}{cl:List<|Str×Addr}{ls N:List Str}{is:List Nat}{one:Bool}{ifs:List Expr}{to:Option<|TTx Prop}(ho:one=true->is.length=1)(his:∀k∈is,k<ls.length)(hc:X.calm=true)(cp:zB2 X scope cl ls N cs)(hi:FI X B G Ex tg iter c)(hg:∀C s H fp,FG (zAh X (ls++N) scope cl C s H fp) B G tg is one)(he:∀C s H fp,FE (zAh X (ls++N) scope cl C s H fp) B G (λ_ _ _ _=>False) elt a)(ht:(ifs=[]/\to=none)\/∃ec t,ifs=[ec]/\to=some t/\zBl G t/\∀C s H fp,FT (zAh X (ls++N) scope cl C s H fp) B G (λ_ _ _ _=>False) ec t)(hs:∀v,foldedSetIterable iter X.env v=pure v)(me:zAt G a):FE X B G Ex (.ListComp elt [⟨tg,iter,ifs,0⟩] scope pos) (cL c is one ls.length cs to a)/\∀{i:Nat}{y:Str}{py spos:Pos},X.N.Nodup->X.N[i]?=some y->X.env.scope.names.lookup y=some .local->swapsWith (.ListComp elt [⟨tg,iter,ifs,0⟩] scope pos) (some<|.Name y py) spos.line X.env=pure true->FS X B G Ex (.Assign [.Name y py] (.ListComp elt [⟨tg,iter,ifs,0⟩] scope pos) spos) (sA i<|cL c is one ls.length cs to a):=by
 have mt:∀u,to=some u->zBl G u:=λu hu=>by
  rcases ht with ⟨_,h⟩|⟨_,t,_,h,mt,_⟩
  ·rw[h] at hu;cases hu
  ·rw[h] at hu;cases hu;exact mt
 let tc:TT:=(to.map λt=>LT B G (λ_ _ _ _=>False) t).getD zHu
 have htc:∀C s H fp,PTs (zAh X (ls++N) scope cl C s H fp) ifs tc:=λC s H fp=>by
  rcases ht with ⟨h1,h2⟩|⟨ec,t,h1,h2,_,h3⟩
  ·subst h1 h2;exact tI
  ·subst h1 h2;exact tH (h3 C s H fp).p
 refine⟨⟨wkE (xh hc cp hi.p (λC s H fp=>(hg C s H fp).p) htc (λC s H fp=>(he C s H fp).p) hs) ?core,mL g hi.m mt me⟩,λ{i y py spos} hN hiy hy hsw=>⟨wkS (p8 hN hiy hy hc cp hi.p (λC s H fp=>(hg C s H fp).p) htc (λC s H fp=>(he C s H fp).p) hs hsw) λD τ H ⟨W,σ,S,rs,rg,h⟩=>?core τ H _<|LE.stm (mL g hi.m mt me) rs rg h λv S' W' u H' le rs' rv rg' h'=>h' W' _ H' le rs'<|rg'.put rv,mA g<|mL g hi.m mt me⟩⟩;case core=>
 rintro τ H Q ⟨W,σ,S,rs,rg,h⟩
 refine⟨W,σ,S,rs,rg,hi.m.m (λ_ _ z=>z) (λv S1 h1 W1 J H1 vs le1 rs1 ev wk=>?_) h⟩;subst ev;have h1:=g.bk h1;split at h1
 ·next hsz=>
  have hsz:=xCo hsz;intro D hD;generalize hbody:lcB is one (List.replicate ls.length none++cs.map (nth σ)) to a G=bd at h1;have hne:∀q∈W1.pr,q.1≠D:=λq hq z=>by rw[<- z,(rs1.pf q hq).1] at hD;cases hD
  let Wi:Nat->Nat->List V->Hp->Prop:=λi k ys H'=>i<=vs.length/\k=vs.length-i/\ys.length<=i/\∃W' S' us,W1.Lf W'/\W'.pr=(D,.lst ys)::W1.pr/\RS B W' S' H'/\Rvs B W' us ys/\lcK G bd (vs.drop i) us S' (VL B W Q)
  have again:∀{i:Nat}{ys:List V}{W':Wd}{S':So}{H':Hp}{us:List U},i<vs.length->ys.length<=i+1->W1.Lf W'->W'.pr=(D,.lst ys)::W1.pr->RS B W' S' H'->Rvs B W' us ys->lcK G bd (vs.drop<|i+1) us S' (VL B W Q)->Wi (i+1) (vs.length-(i+1)) ys H':=λhi hy l1 l2 l3 l4 l5=>⟨hi,rfl,hy,_,_,_,l1,l2,l3,l4,l5⟩
  refine⟨Wi,⟨vs.length,xBn _,rfl,xAg _,_,S1,[],Wd.Lf.pr,rfl,rs1.hold (o:=.lst []) hD λ_=>nofun,rfl,h1⟩,?_⟩;rintro i k ys H2 ⟨hi',rfl,hy,W2,S2,us,lf2,hpr2,rs2,rv2,hh⟩
  refine⟨(rs2.pf _<|by rw[hpr2];exact xAr).1,?_⟩;by_cases hlt:i<vs.length
  ·refine .inr ⟨wk.go lf2 rs2 hlt,Nat.lt_of_le_of_lt hy<|xBc hlt hsz,λys' H'=>Wi (i+1) (vs.length-(i+1)) ys' H',λys' H' z=>⟨_,by lia,z⟩,λx H3 yy=>?_⟩;rw[List.drop_eq_getElem_cons hlt] at hh;obtain⟨W3,le3,rs3,rv3⟩:=wk.yld lf2 rs2 (xAk hlt) yy;have hh:lcB is one (List.replicate ls.length none++cs.map (nth σ)) to a G vs[i] S2 λo S1=>match o with
    |some u=>lcK G bd (vs.drop<|i+1) (us++[u]) S1<|VL B W Q
    |none=>lcK G bd (vs.drop<|i+1) us S1<|VL B W Q:=by rw[hbody];exact hh
   have lf3:W1.Lf W3:=⟨λp o z=>le3.f p o<|lf2.f p o z,λp o z=>le3.m p o<|lf2.m p o z⟩
   have hpr3:W3.pr=(D,.lst ys)::W1.pr:=le3.r.trans hpr2;refine vY g ho rs3 (yJ<|(rg.mono le1).lf lf3) rv3 hh λσ4 τ4 h4 rg4 hl4 hj4=>⟨?_,?_,?_⟩
   ·have hl:τ4.length=ls.length+cs.length:=by rw[rg4.l,hl4];simp
    apply List.ext_getElem?;intro q;rw[List.getElem?_drop,hj4 _ (λz=>absurd (his _ z)<|by lia),xCl (by simp),xCu];congr 1;lia
   ·rw[rg4.l,hl4];simp
   ·-- the element
    have elem:∀{W5:Wd}{S5:So}{H5:Hp},W3.Le W5->RS B W5 S5 H5->a G σ4 S5 (λ_ _=>G.fail) (λu S6=>lcK G bd (vs.drop<|i+1) (us++[u]) S6<|VL B W Q)->LE B G (λ_ _ _ _=>False) a τ4 H5 λv H6=>H6 D=some (.lst ys)/\Wi (i+1) (vs.length-(i+1)) (ys++[v]) (upd H6 D<|.lst<|ys++[v]):=λ{W5 S5 H5} le5 rs5 h5=>
     LE.go me rs5 (rg4.mono le5) (me.m (λ_ _ z=>(g.no z).elim) (λ_ _ z=>z) h5) λu S6 W6 uu H6 le6 rs6 ru _ h6=>by
      have hpr6:W6.pr=(D,.lst ys)::W1.pr:=(le5.trans le6).r.trans hpr3;refine⟨(rs6.pf _<|by rw[hpr6];exact xAr).1,again hlt (by simp;lia) (W':={W6 with pr:=(D,.lst<|ys++[uu])::W1.pr}) ?_ rfl (rs6.held hpr6 (λ_=>nofun) hne) ?_ h6⟩
      ·exact⟨λp o z=>(le5.trans le6).f p o<|lf3.f p o z,λp o z=>(le5.trans le6).m p o<|lf3.m p o z⟩
      ·exact(((rv2.mono le3).mono<|le5.trans le6).app<|.one ru).lf .pr
    cases to with
    |none=>exact⟨(rs3.pf _<|by rw[hpr3];exact xAr).1,by rw[xCg rfl];exact elem .refl rs3 h4⟩
    |some t=>
     show LT B G (λ_ _ _ _=>False) t τ4 H3 _;refine LT.go (mt t rfl) rs3 rg4 ((mt t rfl).m (λ_ _ z=>(g.no z).elim) (λ_ _ z=>z) h4) λbb S5 W5 H5 le5 rs5 rg5 h5=>?_;have h5:=g.bk h5;have hpr5:W5.pr=(D,.lst ys)::W1.pr:=le5.r.trans hpr3;refine⟨(rs5.pf _<|by rw[hpr5];exact xAr).1,?_⟩;cases bb with
     |true=>rw[xCg rfl] at h5⊢;exact elem le5 rs5 h5
     |false=>
      rw[xCf xAy] at h5⊢;exact again hlt (by lia) ⟨λp o z=>le5.f p o<|lf3.f p o z,λp o z=>le5.m p o<|lf3.m p o z⟩ hpr5 rs5 ((rv2.mono le3).mono le5) h5
  ·have e:i=vs.length:=by lia
   subst e;rw[List.drop_length] at hh;refine .inl ⟨wk.stop lf2 rs2,?_⟩;have rs3:=rs2.heldF hpr2 hne;have lf4:W2.Lf {W2 with pr:=W1.pr,F:=upd W2.F D<|.lst ys}:=by
    have hF:=(rs2.pf (D,.lst ys)<|by rw[hpr2];exact xAr).2.1;exact⟨λp o z=>by show upd W2.F D _ p=_;rw[db λy=>by rw[y,hF] at z;cases z];exact z,λ_ _ z=>z⟩
   exact hh {W2 with pr:=W1.pr,F:=upd W2.F D<|.lst ys} (.ref D) H2 ⟨λp o z=>lf4.f p o<|lf2.f p o<|le1.f p o z,λp o z=>lf4.m p o<|lf2.m p o<|le1.m p o z,le1.r⟩ rs3 ⟨D,ys,rfl,dg,rv2.lf lf4⟩
 ·exact(g.no h1).elim
end
end Fx
namespace Fx
open PySem L2
inductive Gd where
 |fn (i np:Nat) (df:List U) (mp:List Bool)|cl (i np:Nat) (df:List U)|xc (fs:List Str)|con (u:U)
structure Ct where
 N:List Str
 sc:List (Str×NameKind)
 gl:List (Str×Gd)
 ms:List (Str×Str×Nat×Nat)
 mu:List Str
 fl:List Str
 bl:List Str
 ini:List Str
 isc:List Str
 inC:Bool
noncomputable def idx(x:Str):List Str->Nat->Option Nat
 |[],_=>none
 |y::r,i=>if x=y then some i else idx x r (i+1)
noncomputable def okN(x:Str):Bool:=!(x==("__debug__":Str))&&!(x==("__classdict__":Str))&&!(x==("__name__":Str))
noncomputable def isV(c:Ct)(x:Str):Bool:=match zAj x c.sc with
 |some .local=>true
 |some .cell=>true
 |some .free=>true
 |_=>false
noncomputable def isL(c:Ct)(x:Str):Bool:=match zAj x c.sc with
 |some .local=>true
 |some .cell=>true
 |_=>false
noncomputable def isG(c:Ct)(x:Str):Bool:=(match zAj x c.sc with
 |some .globalImplicit=>true
 |_=>false)&&okN x
noncomputable def vIx(c:Ct)(x:Str):Option Nat:=if isV c x&&okN x then idx x c.N 0 else none
noncomputable def lIx(c:Ct)(x:Str):Option Nat:=if isL c x then idx x c.N 0 else none
noncomputable def glo(c:Ct)(x:Str):Option Gd:=if isG c x then zAj x c.gl else none
noncomputable def isB(c:Ct)(x:Str):Bool:=isG c x&&c.bl.any λy=>decide<|y=x
noncomputable def o1{α β:Type}(f:α->β):Option α->Option β
 |some a=>some<|f a
 |none=>none
noncomputable def o2{α β γ:Type}(f:α->β->γ):Option α->Option β->Option γ
 |some a,some b=>some<|f a b
 |_,_=>none
noncomputable def o3{α β γ δ:Type}(f:α->β->γ->δ):Option α->Option β->Option γ->Option δ
 |some a,some b,some c=>some<|f a b c
 |_,_,_=>none
noncomputable def gd{α:Type}(b:Bool)(o:Option α):Option α:=match b with
 |true=>o
 |false=>none
noncomputable def zJs(m:Bool):Operator->Option Pm
 |.Add=>some (.add m)|.Sub=>some .sub|.Mult=>some .mul|.FloorDiv=>some .fdiv|.Mod=>some .mod|.Pow=>some .pow|_=>none
noncomputable def zFt:CmpOp->Option Pm
 |.Eq=>some .eq|.NotEq=>some .ne|.Lt=>some .lt|.LtE=>some .le|.Gt=>some .gt|.GtE=>some .ge|.In=>some .inn|.NotIn=>some .nin|_=>none
noncomputable def zC7:CmpOp->Option Pm
 |.Lt=>some .lt|.LtE=>some .le|.Gt=>some .gt|.GtE=>some .ge|_=>none
noncomputable def zBe:Expr->Bool
 |.Set ..=>false
 |_=>true
noncomputable def zHs(x:Str):Option String:=if x="int" then some "int" else if x="bool" then some "bool" else if x="str" then some "str" else if x="tuple" then some "tuple" else none
noncomputable def zGa(m:Bool)(x:Str):Option Pm:=if x="len" then some .len else if x="abs" then some .abs else if x="int" then some .int1 else if x="tuple" then some .tupOf else if x="list" then some (.lstOf m) else if x="dict" then some .dctOf else if x="all" then some .all else none
noncomputable def zHe(x:Str):Option Pm:=if x="max" then some .max else if x="min" then some .min else none
def zIp:Const->Option Str
 |.str x=>some x
 |_=>none
noncomputable def zIo:Expr->Option (Str×Nat×Pos)
 |.Constant k j p=>o1 (λx=>(x,j,p))<|zIp k
 |_=>none
noncomputable def zBq:List (Option Expr)->Option (List Str)
 |[]=>some []
 |e::r=>o2 (λx ks=>x.1::ks) (e.bind zIo)<|zBq r
noncomputable def zBo(c:Ct):List Expr->Option (List Nat)
 |[]=>some []
 |.Name x _::r=>o2 (λi is=>i::is) (lIx c x)<|zBo c r
 |_=>none
noncomputable def zF1(c:Ct):Expr->Option (List Nat×Bool)
 |.Name x _=>o1 (λi=>([i],true))<|lIx c x
 |.Tuple es _ _=>o1 (λis=>(is,false))<|zBo c es
 |_=>none
def locs:List (Str×NameKind)->List Str
 |[]=>[]
 |(x,.local)::r=>x::locs r
 |_::r=>locs r
def frees:List (Str×NameKind)->List Str
 |[]=>[]
 |(x,.free)::r=>frees r++[x]
 |_::r=>frees r
noncomputable def zCk(c:Ct):List Str->Option (List Nat)
 |[]=>some []
 |x::r=>match zAj x c.sc with
  |some .cell=>o2 (λi is=>i::is) (idx x c.N 0)<|zCk c r
  |_=>none
noncomputable def zE7(sc:Scope):Bool:=decide (sc.kind = .function) && sc.names.all (λp=>match p.2 with
 |.local=>true
 |.free=>true
 |.globalImplicit=>true
 |_=>false)&&zA5 (sc.names.map (·.1))
noncomputable def dflt(np n:Nat)(df:List U):Option<|List U:=if n<=np/\np-n<=df.length then some (df.drop<|df.length-(np-n)) else none
noncomputable def zAz(gl:List<|Str×Gd):List (Str×U)->List (Str×Nat×Nat)
 |[]=>[]
 |(_,.gl x)::r=>match zAj x gl with
  |some (.fn i np _ _)=>(x,i,np)::zAz gl r
  |_=>zAz gl r
 |_::r=>zAz gl r
noncomputable def zDo:Expr->Bool
 |.Call (.Name y _) _ _ _=>y != ("super":Str)
 |.Call ..=>false
 |_=>true
noncomputable def tg1:Expr->Bool
 |.Tuple ..=>false
 |_=>true
noncomputable def zFi:Expr->Bool
 |.Tuple ..=>true
 |_=>false
noncomputable def nmE:Expr->Option (Str×Pos)
 |.Name x p=>some (x,p)
 |_=>none
noncomputable def atE:Expr->Option (Expr×Str×Pos)
 |.Attribute o f p=>some (o,f,p)
 |_=>none
noncomputable def clE:Expr->Option (Expr×List Expr×List Keyword×Pos)
 |.Call f as ks p=>some (f,as,ks,p)
 |_=>none
noncomputable def asS:Stmt->Option (List Expr×Expr×Pos)
 |.Assign ts e p=>some (ts,e,p)
 |_=>none
noncomputable def sole{α:Type}:List α->Option α
 |[x]=>some x
 |_=>none
noncomputable def xcF:Option Gd->Option (List Str)
 |some (.xc fs)=>some fs
 |_=>none
def m5{e:Expr}{r}(h:nmE e=some r):e=.Name r.1 r.2:=by unfold nmE at h;split at h <;> cases h;rfl
def AY{e:Expr}{r}(h:atE e=some r):e=.Attribute r.1 r.2.1 r.2.2:=by unfold atE at h;split at h <;> cases h;rfl
def AU{e:Expr}{r}(h:clE e=some r):e=.Call r.1 r.2.1 r.2.2.1 r.2.2.2:=by unfold clE at h;split at h <;> cases h;rfl
def AZ{e:Stmt}{r}(h:asS e=some r):e=.Assign r.1 r.2.1 r.2.2:=by unfold asS at h;split at h <;> cases h;rfl
def g8{α:Type}{l:List α}{r}(h:sole l=some r):l=[r]:=by unfold sole at h;split at h <;> cases h;rfl
def vz{g:Option Gd}{r}(h:xcF g=some r):g=some (.xc r):=by unfold xcF at h;split at h <;> cases h;rfl
structure Hd where
 x:Str
 px:Pos
 e:Str
 y:Str
 py:Pos
 z:Str
 pz:Pos
 f:Str
 pf:Pos
 pa:Pos
 ph:Pos
noncomputable def hdE:ExceptHandler->Option Hd
 |.ExceptHandler ty nm body ph=>ty.bind λt=>(nmE t).bind λn1=>nm.bind λe=>(sole body).bind λb=>(asS b).bind λa=>(sole a.1).bind λg=>(nmE g).bind λn2=>(atE a.2.1).bind λo=>(nmE o.1).bind λn3=>some ⟨n1.1,n1.2,e,n2.1,n2.2,n3.1,n3.2,o.2.1,o.2.2,a.2.2,ph⟩
noncomputable def zG3(hs:List ExceptHandler):Option Hd:=(sole hs).bind hdE
def x8{hs:List ExceptHandler}{k:Hd}(h:zG3 hs=some k):hs=[.ExceptHandler (some<|.Name k.x k.px) (some k.e) [.Assign [.Name k.y k.py] (.Attribute (.Name k.z k.pz) k.f k.pf) k.pa] k.ph]:=by
 unfold zG3 at h;obtain⟨⟨ty,nm,body,ph⟩,h0,h⟩:=xCi.mp h;rw[g8 h0]
 replace h:(ty.bind λt=>(nmE t).bind λn1=>nm.bind λe=>(sole body).bind λb=>(asS b).bind λa=>(sole a.1).bind λg=>(nmE g).bind λn2=>(atE a.2.1).bind λo=>(nmE o.1).bind λn3=>some (⟨n1.1,n1.2,e,n2.1,n2.2,n3.1,n3.2,o.2.1,o.2.2,a.2.2,ph⟩:Hd))=some k:=h
 obtain⟨t,ht,h⟩:=xCi.mp h;obtain⟨n1,h1,h⟩:=xCi.mp h;obtain⟨e,he,h⟩:=xCi.mp h;obtain⟨b,h2,h⟩:=xCi.mp h;obtain⟨a,h3,h⟩:=xCi.mp h;obtain⟨g,h4,h⟩:=xCi.mp h;obtain⟨n2,h5,h⟩:=xCi.mp h;obtain⟨o,h6,h⟩:=xCi.mp h;obtain⟨n3,h7,h⟩:=xCi.mp h;cases h;rw[ht,he,m5 h1,g8 h2,AZ h3,g8 h4,m5 h5,AY h6,m5 h7]
noncomputable def zIg:Option NameKind->Bool
 |some .local=>true
 |_=>false
noncomputable def o3'{α β γ δ:Type}(f:α->β->γ->Option δ)(a:Option α)(b:Option β)(c:Option γ):Option δ:=a.bind λx=>b.bind λy=>c.bind λz=>f x y z
def zW{α β γ δ:Type}{f:α->β->γ->Option δ}{a:Option α}{b:Option β}{c:Option γ}{r:δ}(h:o3' f a b c=some r):∃x y z,a=some x/\b=some y/\c=some z/\f x y z=some r:=by
 unfold o3' at h;obtain⟨x,h1,h⟩:=xCi.mp h;obtain⟨y,h2,h⟩:=xCi.mp h;obtain⟨z,h3,h⟩:=xCi.mp h;exact⟨x,y,z,h1,h2,h3,h⟩
structure Rs where
 x:Str
 px:Pos
 as:List Expr
 q:Pos
noncomputable def zGo(e ca:Option Expr):Option Rs:=e.bind λe=>(clE e).bind λc=>(nmE c.1).bind λn=>gd (c.2.2.1.isEmpty&&ca.isNone)<|some ⟨n.1,n.2,c.2.1,c.2.2.2⟩
def wJ{e ca:Option Expr}{r:Rs}(h:zGo e ca=some r):e=some (.Call (.Name r.x r.px) r.as [] r.q)/\ca=none:=by
 unfold zGo at h;obtain⟨e',he,h⟩:=xCi.mp h;obtain⟨⟨f,as,ks,p⟩,h1,h⟩:=xCi.mp h;obtain⟨n,h2,h⟩:=xCi.mp h;unfold gd at h;split at h
 ·next z=>
  rw[xCh] at z;cases h;rw[he,AU h1,m5 h2,List.isEmpty_iff.mp z.1];exact⟨rfl,Option.isNone_iff_eq_none.mp z.2⟩
 ·cases h
section
variable{α:Type}
structure Cps(α:Type) where
 E:Ct->Bool->Expr->Option (TEx α)
 C:Ct->Bool->Expr->List Expr->Pos->Option (TEx α)
 M:Ct->Expr->Str->List Expr->Option (TEx α)
 A:Ct->List Bool->List Expr->Option (TAx α)
 T:Ct->Bool->Expr->Option (TTx α)
 I:Ct->Bool->Expr->Option (TEx α)
noncomputable def eE(r:Cps α)(c:Ct)(m:Bool)(e:Expr):Option<|TEx α:=match e with
  |.Name x _=>match vIx c x with
   |some i=>some<|cV i
   |none=>match glo c x with
    |some (.con u)=>some<|cC u
    |_=>none
  |.Constant k _ _=>match k with
   |.int i=>some<|cC<|.int i
   |.str x=>some<|cC<|.str x
   |.bool b=>some<|cC<|.bl b
   |.none=>some<|cC .non
   |_=>none
  |.BinOp a op b _=>o3 (λp x y=>cP p<|zAp x y) (zJs m op) (r.E c false a)<|r.E c false b
  |.UnaryOp op a _=>match op with
   |.Not=>o1 (λt=>cB<|tNt t)<|r.T c true a
   |_=>none
  |.BoolOp op vs p=>o1 cB<|r.T c true<|.BoolOp op vs p
  |.Compare a ops bs p=>o1 cB<|r.T c true<|.Compare a ops bs p
  |.IfExp t a b _=>o3 cIf (r.T c false t) (r.E c m a)<|r.E c m b
  |.Tuple es _ _=>gd (Nat.ble es.length 1000)<|o1 cT<|r.A c [] es
  |.List es _=>o1 (cP<|.lst m)<|r.A c [] es
  |.Dict ks vs _=>match ks,vs with
   |[],[]=>some<|cP (.dct []) aN
   |ks,vs=>match zBq ks with
    |some kk=>gd (zA5 kk&&Nat.ble kk.length 15&&Nat.beq kk.length vs.length)<|o1 (cP<|.dct kk)<|r.A c (vs.map λ_=>true) vs
    |none=>none
  |.Subscript a b _=>match b with
   |.Slice lo hi none _=>match lo,hi with
    |some l,some h=>o3 (λx y z=>cP (.sl m true true)<|aC x<|zAp (cI y) z) (r.E c false a) (r.E c false l)<|r.E c false h
    |some l,none=>o2 (λx y=>cP (.sl m true false)<|zAp x y) (r.E c false a)<|r.E c false l
    |none,some h=>o2 (λx y=>cP (.sl m false true)<|zAp x y) (r.E c false a)<|r.E c false h
    |none,none=>none
   |b=>gd (zBz b)<|o2 (λx y=>cP .ix<|zAp x y) (r.E c false a)<|r.E c false b
  |.Attribute o f _=>gd (zBf o&&c.fl.any λg=>decide<|g=f)<|o1 (λx=>cP (.fld f)<|aC x aN)<|r.E c false o
  |.ListComp elt gens sc _=>match gens with
   |[⟨tg,it,ifs,0⟩]=>match zCk c (frees sc.names),zF1 {c with N:=locs sc.names++frees sc.names,sc:=sc.names,inC:=true} tg,r.I c (tg1 tg) it,r.E {c with N:=locs sc.names++frees sc.names,sc:=sc.names,inC:=true} false elt with
    | some cs,some (is,one),some ti,some te=>gd (!c.inC && zE7 sc && zBe it && is.all (λk=>Nat.blt k (locs sc.names).length)) (match ifs with
     |[]=>some (cL ti is one (locs sc.names).length cs none te)
     |[t]=>o1 (λt=>cL ti is one (locs sc.names).length cs (some t) te) (r.T {c with N:=locs sc.names++frees sc.names,sc:=sc.names,inC:=true} false t)
     |_=>none)
    |_,_,_,_=>none
   |_=>none
  |.Call f as kws pos=>match kws with
   |[]=>gd (as.all zAa)<|r.C c m f as pos
   |_=>none
  |_=>none
noncomputable def eC(r:Cps α)(c:Ct)(m:Bool)(f:Expr)(as:List Expr)(pos:Pos):Option<|TEx α:=match f with
  |.Name x _=>match glo c x with
   |some (.fn i np df mp)=>o2 (λa d=>cF i a d) (r.A c mp as)<|dflt np as.length df
   |some (.cl i np df)=>gd (!c.inC)<|o2 (λa d=>cK x i a d) (r.A c [] as)<|dflt np (as.length+1) df
   |some _=>none
   | none=>gd (isB c x) (match as with
    |[a]=>match a with
     |.Call (.Name y _) [b] [] _=>match decide (x="len"),decide (y="set") with
      |true,true=>gd (isB c y&&zAa b) (o1 (λz=>cP .lenset<|aC z aN)<|r.E c false b)
      |_,_=>o2 (λp z=>cP p<|aC z aN) (zGa m x) (r.E c false a)
     |a=>o2 (λp z=>cP p<|aC z aN) (zGa m x) (r.E c false a)
    |[a,b]=>match decide (x="isinstance") with
     |true=>match b with
      |.Name y _=>match zHs y with
       |some t=>gd (isB c y) (o1 (λz=>cP (.isT t)<|aC z aN)<|r.E c false a)
       |none=>match glo c y with
        |some (.cl ..)=>gd (c.isc.any λz=>decide<|z=y) (o1 (λz=>cP (.isC y)<|aC z aN)<|r.E c false a)
        |_=>none
      |_=>none
     |false=>o3 (λp z w=>cP p<|zAp z w) (zHe x) (r.E c false a) (r.E c false b)
    |_=>none)
  | .Attribute o a apos=>gd (apos.endLine == pos.line && Nat.blt as.length 29) (match zAj a c.ms with
   |some (C,i,np)=>gd (zDo o) (o3 (λz w d=>cM C a i z w d) (r.E c false o) (r.A c [] as)<|dflt np (as.length+1) [])
   |none=>match o with
    |.Name y _=>match glo c y with
     |some (.cl i np df)=>gd (decide (a="__init__")&&(c.ini.any λz=>decide<|z=y)&&Nat.beq as.length np&&!as.isEmpty&&!c.inC) (o1 (λw=>cF i w [])<|r.A c [] as)
     | some (.con<|.kd kvs no)=>gd (decide<|a="get") (match as with
      |[e]=>o1 (λz=>cP .get1<|aC (cC<|.kd kvs no)<|aC z aN) (r.E c false e)
      |[e,d]=>o2 (λz w=>cP .get2<|aC (cC<|.kd kvs no)<|zAp z w) (r.E c false e) (r.E c false d)
      |_=>none)
     |_=>r.M c o a as
    |o=>r.M c o a as)
  |.Subscript g b p=>match g with
   |.Name y _=>match glo c y with
    |some (.con<|.kd kvs no)=>gd (!as.isEmpty&&(zAz c.gl kvs).all λp=>Nat.beq p.2.2 as.length)<|o2 (λz w=>cD (zAz c.gl kvs) z w) (r.E c false<|.Subscript g b p)<|r.A c [] as
    |_=>none
   |_=>none
  |_=>none
noncomputable def eM(r:Cps α)(c:Ct)(o:Expr)(a:Str)(as:List Expr):Option<|TEx α:=gd (zBf o) (match as with
  |[]=>gd (decide<|a="pop") (o1 (λz=>cBM "list" .pop z aN)<|r.E c false o)
  |[e]=>if a="append" then o2 (λz w=>cBM "list" .app z<|aC w aN) (r.E c false o) (r.E c false e)
   else if a="join" then o2 (λz w=>cBM "str" .join z<|aC w aN) (r.E c false o) (r.E c false e)
   else none
  |_=>none)
noncomputable def eA(r:Cps α)(c:Ct)(m:List Bool)(es:List Expr):Option<|TAx α:=match es with
 |[]=>some aN
 |e::q=>gd (zAa e)<|o2 aC (r.E c (m.headD false) e)<|r.A c m.tail q
noncomputable def eT(r:Cps α)(c:Ct)(vl:Bool)(e:Expr):Option<|TTx α:=match e with
  |.UnaryOp op a _=>match op with
   |.Not=>o1 tNt<|r.T c vl a
   |_=>none
  |.BoolOp op vs p=>match vs with
   |[]=>none
   |[a]=>r.T c vl a
   |a::b::q=>match op with
    |.And=>o2 tAn (r.T c vl a)<|r.T c vl<|.BoolOp .And (b::q) p
    |.Or=>o2 tOr' (r.T c vl a)<|r.T c vl<|.BoolOp .Or (b::q) p
  |.Compare a ops bs _=>match ops,bs with
   |[op],[b]=>match op,b with
    |.Is,.Constant .none _ _=>o1 (λx=>tB<|cP .isN<|aC x aN)<|r.E c false a
    |.IsNot,.Constant .none _ _=>o1 (λx=>tB<|cP .notN<|aC x aN)<|r.E c false a
    |op,b=>gd (zBe b)<|o3 (λp x y=>tB<|cP p<|zAp x y) (zFt op) (r.E c false a)<|r.E c false b
   | [p,q],[b,d]=>gd (zBe b && zBe d) (match zC7 p,zC7 q with
    |some p,some q=>o3 (λx y z=>tCh p q x y z) (r.E c false a) (r.E c false b) (r.E c false d)
    |_,_=>none)
   |_,_=>none
  |.Call f as kws p=>o1 tB<|r.E c false<|.Call f as kws p
  |.Attribute o f p=>gd (!vl)<|o1 (λx=>tB<|cP .tru<|aC x aN)<|r.E c false<|.Attribute o f p
  |.Name x p=>match vl with
   |true=>o1 tB<|r.E c false<|.Name x p
   |false=>o1 (λy=>tB<|cP .tru<|aC y aN)<|r.E c false<|.Name x p
  |_=>none
noncomputable def eI(r:Cps α)(c:Ct)(one:Bool)(e:Expr):Option<|TEx α:=match e with
  |.Call (.Name x p) as [] q=>match isB c x&&decide (x="range") with
   |true=>match as with
    |[a]=>gd (zAa a)<|o1 (λz=>cP .rng1<|aC z aN)<|r.E c false a
    |[a,b,d]=>gd (zAa a&&zAa b&&zAa d)<|o3 (λz w v=>cP .rng3<|aC z<|zAp w v) (r.E c false a) (r.E c false b)<|r.E c false d
    |_=>none
   |false=>match isB c x&&decide (x="zip") with
    |true=>match as with
     |[a,b]=>gd (!one&&zAa a&&zAa b)<|o2 (λz w=>cP .zip<|zAp z w) (r.E c false a)<|r.E c false b
     |_=>none
    |false=>match isB c x&&decide (x="reversed") with
     |true=>match as with
      |[a]=>gd (zAa a)<|o1 (λz=>cP .rev<|aC z aN)<|r.E c false a
      |_=>none
     |false=>o1 (λz=>cP .seq<|aC z aN)<|r.E c false<|.Call (.Name x p) as [] q
  |e=>o1 (λz=>cP .seq<|aC z aN)<|r.E c false e
noncomputable def cps:Nat->Cps α
 |0=>⟨λ_ _ _=>none,λ_ _ _ _ _=>none,λ_ _ _ _=>none,λ_ _ _=>none,λ_ _ _=>none,λ_ _ _=>none⟩
 |n+1=>⟨eE<|cps n,eC<|cps n,eM<|cps n,eA<|cps n,eT<|cps n,eI<|cps n⟩
noncomputable def cpE(c:Ct)(n:Nat)(m:Bool)(e:Expr):Option<|TEx α:=(cps n).E c m e
noncomputable def cpC(c:Ct)(n:Nat)(m:Bool)(f:Expr)(as:List Expr)(pos:Pos):Option<|TEx α:=(cps n).C c m f as pos
noncomputable def cpM(c:Ct)(n:Nat)(o:Expr)(a:Str)(as:List Expr):Option<|TEx α:=(cps n).M c o a as
noncomputable def cpA(c:Ct)(n:Nat)(m:List Bool)(es:List Expr):Option<|TAx α:=(cps n).A c m es
noncomputable def cpT(c:Ct)(n:Nat)(vl:Bool)(e:Expr):Option<|TTx α:=(cps n).T c vl e
noncomputable def cpI(c:Ct)(n:Nat)(one:Bool)(e:Expr):Option<|TEx α:=(cps n).I c one e
def sZ:TSx α:=λG _ _ _=>G.fail
noncomputable def zIk(c:Ct):Expr->Option Nat
 |.Name x _=>if(c.mu.any λy=>decide<|y="!"++x)=true then vIx c x else none
 |_=>none
noncomputable def zF8:Expr->Bool
 |.Name ..=>true
 |_=>false
structure Cpt(α:Type) where
 S:Ct->Stmt->Option (TSx α)
 L:Ct->List Stmt->Option (TSx α)
noncomputable def eS(n:Nat)(r:Cpt α)(c:Ct)(s:Stmt):Option<|TSx α:=match s with
  |.Pass _=>some sN
  |.Expr e _=>gd (zAy e)<|o1 sE<|cpE c n false e
  |.Return e _=>match e with
   |some e=>match zIk c e with
    |some i=>some<|sR<|cP .frz<|aC (cV i) aN
    |none=>o1 sR<|cpE c n false e
   |none=>some sRN
  |.If t a b _=>o3 sI (cpT c n false t) (r.L c a)<|r.L c b
  |.While t b orelse _=>match orelse with
   |[]=>o2 sW (cpT c n false t)<|r.L c b
   |_=>none
  |.For tg it b orelse _=>match orelse with
   |[]=>match zF1 c tg with
    |some (is,one)=>gd (zBe it&&(one||zFi tg))<|o2 (λz w=>sF z is one w) (cpI c n (tg1 tg) it)<|r.L c b
    |none=>none
   |_=>none
  |.Assign tgs e _=>match tgs with
   | [tg]=>gd (zAy e || zF8 tg) (match tg with
    |.Name x _=>o2 sA (lIx c x) (cpE c n (c.mu.any λy=>decide<|x=y) e)
    |.Tuple es _ _=>gd (!zFi e) (o2 sU (zBo c es)<|cpE c n false e)
    |.Attribute o f _=>gd (c.fl.any λg=>decide<|g=f) (o2 (λz w=>sP (.setf f) w<|aC z aN) (cpE c n false o)<|cpE c n true e)
    |.Subscript o i _=>gd (zBz i) (o3 (λz w v=>sP .seti v<|zAp z w) (cpE c n false o) (cpE c n false i)<|cpE c n true e)
    |_=>none)
   |_=>none
  |.Raise e ca _=>(zGo e ca).bind λu=>(xcF<|glo c u.x).bind λfs=>match fs with
   |[]=>some sZ
   |f::fr=>gd fr.isEmpty<|(sole u.as).bind λa=>gd (zAa a)<|o1 (λz=>sX u.x [f]<|aC z aN)<|cpE c n false a
  |.Try b hs orelse fin _=>(zG3 hs).bind λh=>gd (orelse.isEmpty&&fin.isEmpty)<|(xcF<|glo c h.x).bind λfs=>(sole fs).bind λg=>gd (decide (h.z=h.e)&&decide (g=h.f)&&zIg (zAj h.e c.sc)&&okN h.e)<|o3' (λi j t=>gd (!Nat.beq i j)<|some<|sT h.x i j h.f t) (lIx c h.e) (lIx c h.y)<|r.L c b
  |_=>none
noncomputable def eL(r:Cpt α)(c:Ct)(ss:List Stmt):Option<|TSx α:=match ss with
 |[]=>some sN
 |s::q=>o2 sQ (some<|(r.S c s).getD sZ)<|r.L c q
noncomputable def cpt:Nat->Cpt α
 |0=>⟨λ_ _=>none,λ_ _=>none⟩
 |n+1=>⟨eS n<|cpt n,eL<|cpt n⟩
noncomputable def cpS(c:Ct)(n:Nat)(s:Stmt):Option<|TSx α:=(cpt n).S c s
noncomputable def zFs(c:Ct)(n:Nat)(ss:List Stmt):Option<|TSx α:=(cpt n).L c ss
end
end Fx
namespace Fx
open PySem PySem.Spec L2
open PyProof.Rows hiding St
variable{α β γ:Type}{o tg e:Expr}{apos pos p3 p4:Pos}{env:Env}{x:Str}{H:Hp}{vs:List U}{S S':So}{op:CmpOp}{p:Pm}{np n fw:Nat}{kk:List Str}{t:TSx Prop}{r:Row}{fd:FuncData}{B:Bs}
def dQ{f:α->β}{o:Option α}{b:β}(h:o1 f o=some b):∃a,o=some a/\b=f a:=by cases o <;> cases h;exact⟨_,rfl,rfl⟩
def en{f:α->β->γ}{o:Option α}{p:Option β}{b:γ}(h:o2 f o p=some b):∃x y,o=some x/\p=some y/\b=f x y:=by cases o <;> cases p <;> cases h;exact⟨_,_,rfl,rfl,rfl⟩
def iQ{δ:Type}{f:α->β->γ->δ}{o:Option α}{p:Option β}{q:Option γ}{b:δ}(h:o3 f o p q=some b):∃x y z,o=some x/\p=some y/\q=some z/\b=f x y z:=by cases o <;> cases p <;> cases q <;> cases h;exact⟨_,_,_,rfl,rfl,rfl,rfl⟩
theorem dJ{b:Bool}{o:Option α}{x:α}(h:gd b o=some x):b=true/\o=some x:=by
 cases b with
 |true=>exact⟨rfl,h⟩
 |false=>cases h
theorem jK{x:Str}:∀{l:List Str}{i j:Nat},idx x l i=some j->i<=j/\l[j-i]?=some x
 |[],_,_,h=>by cases h
 |y::r,i,j,h=>by
  unfold idx at h;split at h
  ·next e=>cases h;exact⟨xAg _,by rw[Nat.sub_self,e];rfl⟩
  ·obtain⟨h1,h2⟩:=jK h;exact⟨by lia,by rw[show j-i=(j-(i+1))+1 by lia];simpa using h2⟩
def m6{m:Str}{es:List Expr}(hb:attributeBase o m env (eval o env)=eval o env)(hst:es.all zAa=true)(hn:es.length<29)(hl:(apos.endLine == pos.line)=true):∃pl,eval (.Call (.Attribute o m apos) es [] pos) env=(do
   let ov <- eval o env
   standAt apos.atName
   let (f,first) <- holding [ov] (getMethod ov m pl)
   callWith pos f first (backTo pos<|starEach es env) (backToKw pos<|keywordEach [] env)):=by
 have hf:methodCallForm (es.length+([]:List Keyword).length) (backTo pos<|starEach es env) (backToKw pos<|keywordEach [] env)=true:=by
  unfold methodCallForm;rw[j6 hst];simp[keywordEach,backToKw];lia
 refine⟨do return (<- importBound o env).getD true,?_⟩;rw[show eval (.Call (.Attribute o m apos) es [] pos) env=(do
  let ov <- attributeBase o m env (eval o env)
  standAt apos.atName
  methodCall o m apos pos env ov (es.length+([]:List Keyword).length) (backTo pos<|starEach es env) (backToKw pos<|keywordEach [] env)) from rfl,hb]
 unfold methodCall methodCallPos calleeOf;rw[hf,hl];rfl
def vx{m:Str}{x:Sem Value}(h:zDo o=true):attributeBase o m env x=x:=by
 cases o <;> try rfl
 rename_i f as ks p
 cases f <;> try (cases h;done)
 rename_i y q
 have h':(y != ("super":Str))=true:=h;cases as <;> cases ks <;> try rfl
 unfold attributeBase;dsimp only;rw[xCg<|by rw[h'];rfl]
structure Fc(P:Program)(w:World)(base:Heap)(B:Bs)(up:List (Str×Str))(G:Gx Prop)(lv:Nat)(c:Ct):Prop where
 g:zBs up G
 fn:∀{x i np df mp},zAj x c.gl=some (.fn i np df mp)->∃f fd ps,B.mg x=some (.ref f)/\PySem.W.keepIn B.K (.ref f)=true/\zAv P w B.K B.mg base (CXo P w) lv f fd ps (spF B G i np)/\(∀{n ds},dflt np n df=some ds->n+ds.length=np/\∃dvs dv,zAm B.K fd ps dv/\zAg dvs dv/\∀W,Rvs B W ds dvs)
 cl:∀{x i np df},zAj x c.gl=some (.cl i np df)->∃cc f fd ps,B.cl x cc/\B.mg x=some (.ref cc)/\Mk B.K cc f/\zAv P w B.K B.mg base (CXo P w) lv f fd ps (spF B G i np)/\(∀{n ds},dflt np n df=some ds->n+ds.length=np/\∃dvs dv,zAm B.K fd ps dv/\zAg dvs dv/\∀W,Rvs B W ds dvs)/\(x∈c.isc->zFz B up x cc)/\(x∈c.ini->zAm B.K fd ps []/\∃mc,PySem.W.specialIn B.K (.ref cc) "__getattribute__"=some (some (.builtin "type.__getattribute__"))/\PySem.W.readsIn B.K cc mc=true/\PySem.W.findCls B.K (.ref cc) mc "__init__"=some (.val (.ref f))/\PySem.W.handedIn (.ref f)=true/\PySem.W.keepIn B.K (.ref f)=true)
 ms:∀{m C i np},zAj m c.ms=some (C,i,np)->∃cc f fd ps,(∀c',B.cl C c'->c'=cc)/\Cls B.K cc/\zEc B.K cc m f/\zAv P w B.K B.mg base (CXo P w) lv f fd ps (spF B G i np)/\zAm B.K fd ps []
 con:∀{x u},zAj x c.gl=some (.con u)->∃v val,B.mg x=some val/\zAi v val/\∀W,Rv B W u v
 x0:∀{x},zAj x c.gl=some (.xc [])->∃cc,B.mg x=some (.ref cc)/\PySem.W.excIn B.K cc bmV "ValueError.__new__"=true/\zCv B.K cc=true/\PySem.W.keepIn B.K (.ref cc)=true
 x1:∀{x f},zAj x c.gl=some (.xc [f])->∃cc f' fd s0,B.mg x=some (.ref cc)/\XMk B.K cc f'/\zAv P w B.K B.mg base (CXo P w) lv f' fd [s0,f] (zE1 B.K f)/\zAm B.K fd [s0,f] []/\XSt B.K cc/\zAr B.K cc f/\zCv B.K cc=true/\zBd B.K cc cc/\XGt B.K cc
 bl:∀{x},x∈c.bl->B.mg x=none
 k1:zCq B "int"
 k2:zCq B "bool"
 k3:zCq B "str"
 k4:zCq B "tuple"
 clf:ClF B c.fl
 clt:ClT B
 kdf:KdF w B
structure Cok(P:Program)(w:World)(base:Heap)(B:Bs)(lv:Nat)(c:Ct)(X:Cx):Prop where
 hP:X.prog=P
 hw:X.w=w
 hK:X.K=B.K
 hM:X.mg=B.mg
 hb:X.base=base
 N:X.N=c.N
 nd:X.N.Nodup
 vis:∀{x},isV c x=true->Vis X.env.scope x
 loc:∀{x},isL c x=true->Loc X.env.scope x/\(X.fn x=true\/X.env.scope.names.lookup x=some .local)
 lc:∀{x},zAj x c.sc=some .local->X.env.kindOf x=some .local
 gl:∀{x},isG c x=true->Gl X x
 calm:X.calm=true
 hr:zA4 (lv+1) X.A
 cap:c.inC=false->∀{x},zAj x c.sc=some .cell->X.env.scope.names.lookup x=some .cell/\∃a,X.env.cells.lookup x=some a
section
variable{P:Program}{w:World}{base:Heap}{B:Bs}{up:List<|Str×Str}{G:Gx Prop}{lv:Nat}{c:Ct}{X:Cx}{Ex:St->XK}
theorem Cok.f{k:Nat}{f:Addr}{fd:FuncData}{ps:List Str}{sp:Sp}(k':Cok P w base B lv c X)(F:zAv P w B.K B.mg base (CXo P w) k f fd ps sp):zAv X.prog X.w X.K X.mg X.base (CXo X.prog X.w) k f fd ps sp:=by
 rw[k'.hP,k'.hw,k'.hK,k'.hM,k'.hb];exact F
def ez(h:isG c x=true):okN x=true:=by unfold isG at h;rw[xCh] at h;exact h.2
def dP(h:okN x=true):(x==("__debug__":Str))=false/\(x==("__classdict__":Str))=false/\x≠"__name__":=by
 simp only[okN,xCh,Bool.not_eq_true'] at h;exact⟨h.1.1,h.1.2,λz=>by have:=h.2;rw[z] at this;simp at this⟩
def fI{d:Gd}(h:glo c x=some d):isG c x=true/\zAj x c.gl=some d:=by
 unfold glo at h;split at h
 ·next e=>exact⟨e,h⟩
 ·cases h
def fU(h:isB c x=true):isG c x=true/\x∈c.bl:=by
 unfold isB at h;rw[xCh] at h;obtain⟨y,hy,e⟩:=xCy.mp h.2;exact⟨h.1,by rw[<- xBe e];exact hy⟩
def wj{i:Nat}(k:Cok P w base B lv c X)(h:vIx c x=some i):X.N[i]?=some x/\Vis X.env.scope x/\okN x=true:=by
 unfold vIx at h;split at h
 ·next e=>
  rw[xCh] at e;obtain⟨_,h2⟩:=jK h;exact⟨by rw[k.N];simpa using h2,k.vis e.1,e.2⟩
 ·cases h
def ir{i:Nat}(k:Cok P w base B lv c X)(h:lIx c x=some i):X.N[i]?=some x/\Loc X.env.scope x/\(X.fn x=true\/X.env.scope.names.lookup x=some .local):=by
 unfold lIx at h;split at h
 ·next e=>
  obtain⟨_,h2⟩:=jK h;exact⟨by rw[k.N];simpa using h2,k.loc e⟩
 ·cases h
theorem io(k:Cok P w base B lv c X):∀{es:List Expr}{is:List Nat},zBo c es=some is->es.length=is.length/\∀(j:Nat)(e:Expr),es[j]?=some e->∃x p i,e=.Name x p/\is[j]?=some i/\X.N[i]?=some x/\Loc X.env.scope x/\(X.fn x=true\/X.env.scope.names.lookup x=some .local)
 |[],is,h=>by cases h;exact⟨rfl,λj e z=>by simp at z⟩
 |e::es,is,h=>by
  cases e <;> try (cases h;done)
  rename_i x p
  obtain⟨i,is',h1,h2,rfl⟩:=en<|show o2 _ (lIx c x) (zBo c es)=_ from h;obtain⟨l,q⟩:=io k h2;refine⟨by simp[l],λj e z=>?_⟩;cases j with
  |zero=>simp at z;subst z;exact⟨x,p,i,rfl,rfl,ir k h1⟩
  |succ j=>simpa using q j e (by simpa using z)
def vB{is:List Nat}{one:Bool}(k:Cok P w base B lv c X)(h:zF1 c tg=some (is,one)):FG X B G tg is one/\(one=true->is.length=1):=by
 cases tg <;> try (cases h;done)
 ·obtain⟨i,h1,e⟩:=dQ<|show o1 _ _=_ from h;cases e;obtain⟨a,b,d⟩:=ir k h1;exact⟨Bq k.nd a b d,λ_=>rfl⟩
 ·obtain⟨i,h1,e⟩:=dQ<|show o1 _ _=_ from h;cases e;obtain⟨l,q⟩:=io k h1;exact⟨Bp k.hK k.calm k.nd q l,nofun⟩
theorem dy{α:Type}{x:Str}:∀{l:List<|Str×α},zAj x l=l.lookup x
 |[]=>rfl
 |(y,v)::r=>by
  unfold zAj;rw[List.lookup_cons];by_cases e:x=y
  ·rw[xCg e,e];simp
  ·rw[xCf e,beq_false_of_ne e];exact dy
theorem eG{env:Env}:∀{names:List<|Str×NameKind}{x:Str},names.lookup x=some .globalImplicit ->
  (names.map λ(n,k)=>if(k==NameKind.free&&env.scope.kind == .function&&env.kindOf n==some .cell) then(n,NameKind.cell) else(n,k)).lookup x=some .globalImplicit
 |[],_,h=>by simp at h
 |(n,k)::r,x,h=>by
  have ih:=@eG env r x;show List.lookup x ((if(k==NameKind.free&&env.scope.kind == .function&&env.kindOf n==some .cell)=true then(n,NameKind.cell) else(n,k))::_)=_;cases hx:x==n with
  |true=>
   simp only[List.lookup_cons,hx] at h;cases h;simp[hx,List.lookup_cons]
  |false=>
   simp only[List.lookup_cons,hx] at h;split <;> simp only[List.lookup_cons,hx] <;> exact ih h
theorem lW{env:Env}:∀{l:List<|Str×NameKind},(∀y,(y,NameKind.free)∈l->∃a,env.cells.lookup y=some a)->∀acc:List<|Str×Addr,∃cl,(forIn l acc λ(p:Str×NameKind) (cs:List<|Str×Addr)=>(do
   if(p.2==NameKind.free)=true then do
    let a <- cellOf env p.1
    pure (ForInStep.yield<|(p.1,a)::cs)
   else pure (ForInStep.yield cs):Sem<|ForInStep<|List<|Str×Addr))=pure (cl++acc)/\cl.map (·.1)=frees l/\∀q∈cl,env.cells.lookup q.1=some q.2
 |[],_,acc=>⟨[],rfl,rfl,λ_ h=>nomatch h⟩
 |(y,k)::r,h,acc=>by
  by_cases e:k=.free
  ·subst e;obtain⟨a,ha⟩:=h y xAr;obtain⟨cl,e1,e2,e3⟩:=lW (l:=r) (λz hz=>h z<|xAs _ hz)<|(y,a)::acc;refine⟨cl++[(y,a)],?_,by rw[List.map_append,e2];rfl,λq hq=>?_⟩
   ·rw[List.forIn_cons,xAx,show[(y,a)]++acc=(y,a)::acc from rfl,<- e1];simp only[cellOf,ha];rfl
   ·rcases xAj.mp hq with hq|hq
    ·exact e3 q hq
    ·rw[xAm.mp hq];exact ha
  ·obtain⟨cl,e1,e2,e3⟩:=lW (l:=r) (λz hz=>h z<|xAs _ hz) acc;refine⟨cl,?_,by rw[e2];cases k <;> first|rfl|exact absurd rfl e,e3⟩;rw[List.forIn_cons,<- e1];simp only[show(k==NameKind.free)=false from beq_false_of_ne e];rfl
def lV{scope:Scope}(h:∀y,(y,NameKind.free)∈scope.names->∃a,env.cells.lookup y=some a):∃cl,closureFor scope env=pure cl/\cl.map (·.1)=frees scope.names/\∀q∈cl,env.cells.lookup q.1=some q.2:=by
 obtain⟨cl,e1,e2,e3⟩:=lW h [];refine⟨cl,?_,e2,e3⟩;rw[xB0] at e1;have:=congrArg (λz:Sem<|List<|Str×Addr=>z>>=λr=>pure r) e1;exact this
theorem kC{x:Str}:∀{l:List<|Str×NameKind},x∈locs l↔(x,NameKind.local)∈l
 |[]=>by simp[locs]
 |(y,k)::r=>by cases k <;> simp[locs,kC (l:=r)]
theorem fk{x:Str}:∀{l:List<|Str×NameKind},x∈frees l↔(x,NameKind.free)∈l
 |[]=>by simp[frees]
 |(y,k)::r=>by cases k <;> simp[frees,fk (l:=r),or_comm]
theorem jE{y:Str}{k:NameKind}:∀{l:List<|Str×NameKind},(l.map (·.1)).Nodup->(y,k)∈l->l.lookup y=some k
 |[],_,h=>nomatch h
 |(z,k')::r,nd,h=>by
  rw[xBs,xCb] at nd;rw[List.lookup_cons];rcases xAv.mp h with e|h
  ·cases e;simp
  ·have:y≠z:=λe=>nd.1 (by rw[<- e];exact xA2.mpr ⟨_,h,rfl⟩);rw[beq_false_of_ne this];exact jE nd.2 h
theorem ku:∀{l:List<|Str×NameKind},(l.map (·.1)).Nodup->(locs l++frees l).Nodup
 |[],_=>List.nodup_nil
 |(z,k)::r,nd=>by
  rw[xBs,xCb] at nd;have ih:=ku nd.2;have h1:z∉locs r:=λh=>nd.1<|xA2.mpr ⟨_,kC.mp h,rfl⟩;have h2:z∉frees r:=λh=>nd.1<|xA2.mpr ⟨_,fk.mp h,rfl⟩;cases k <;> try exact ih
  ·show(z::(locs r++frees r)).Nodup;exact xCb.mpr ⟨λh=>(xAj.mp h).elim h1 h2,ih⟩
  ·show(locs r++(frees r++[z])).Nodup;rw[<- xAx];refine xBq.mpr ⟨ih,by simp,λa ha b hb=>?_⟩;rw[xAm.mp hb];rintro rfl
   exact(xAj.mp ha).elim h1 h2
theorem sD(k:Cok P w base B lv c X)(hc:c.inC=false){scope:Scope}{cl:List<|Str×Addr}(hcl:∀q∈cl,X.env.cells.lookup q.1=some q.2)(hsc:∀y,(y,NameKind.free)∈scope.names->scope.names.lookup y=some .free) :
  ∀{fs:List Str}{cs:List Nat},(∀y∈fs,(y,NameKind.free)∈scope.names/\∃a,cl.lookup y=some a)->zCk c fs=some cs->Paired (zCe X scope cl) fs cs
 |[],cs,_,h=>by cases h;exact .nil
 |y::fs,cs,hf,h=>by
  unfold zCk at h;split at h <;> try (cases h;done)
  next e=>
   obtain⟨i,is,h1,h2,rfl⟩:=en h;obtain⟨h3,a,h4⟩:=hf y xAr;obtain⟨_,h5⟩:=jK h1;exact .cons ⟨⟨a,h4,hcl _<|dY h4⟩,by rw[k.N];simpa using h5,(k.cap hc e).1,hsc y h3⟩<|sD k hc hcl hsc (λz hz=>hf z<|xAs _ hz) h2
theorem kW:∀{fs:List Str}{cs:List Nat},zCk c fs=some cs->∀y∈fs,zAj y c.sc=some .cell
 |[],cs,_,y,hy=>nomatch hy
 |z::fs,cs,h,y,hy=>by
  unfold zCk at h;split at h <;> try (cases h;done)
  next e=>
   obtain⟨i,is,h1,h2,rfl⟩:=en h;rcases xAv.mp hy with rfl|hy
   ·exact e
   ·exact kW h2 y hy
noncomputable def cty(c:Ct)(sc:Scope):Ct:={c with N:=locs sc.names++frees sc.names,sc:=sc.names,inC:=true}
def Fc.re{sc:Scope}(F:Fc P w base B up G lv c):Fc P w base B up G lv<|cty c sc:=⟨F.g,F.fn,F.cl,F.ms,F.con,F.x0,F.x1,F.bl,F.k1,F.k2,F.k3,F.k4,F.clf,F.clt,F.kdf⟩
def zE6{X:Cx}:zAn (CXo X.prog X.w) X λ_ _ _ _=>False:=λZ σ H s ev s' I z=>by obtain⟨_,_,_,_,_,_,_,_,_,_,_,_,_,h⟩:=z;exact h.elim
def mS{sc:Scope}(h:zE7 sc=true):sc.kind=.function/\(sc.names.map (·.1)).Nodup/\∀y k,(y,k)∈sc.names->k=.local\/k=.free\/k=.globalImplicit:=by
 simp only[zE7,xCh,xCx] at h;refine⟨xBe h.1.1,fh h.2,λy k hm=>?_⟩;have:=h.1.2 _ hm;cases k <;> simp_all
def sx{sc:Scope}{cl:List<|Str×Addr}{C:Addr}{s:Shared}{fp:List Addr}(k:Cok P w base B lv c X)(h:zE7 sc=true):Cok P w base B lv (cty c sc)<|zAh X (locs sc.names++frees sc.names) sc cl C s H fp:=by
 obtain⟨h1,h2,h3⟩:=mS h;refine⟨k.hP,k.hw,k.hK,k.hM,k.hb,rfl,ku h2,λ{x} hx=>?_,λ{x} hx=>?_,λ{x} hx=>lookup_relabel_local (by rw[<- dy];exact hx),λ{x} hx=>?_,k.calm,k.hr,nofun⟩
 ·unfold isV at hx;rw[dy] at hx;split at hx <;> try (cases hx;done)
  ·next e=>exact .inl (lookup_relabel_local e)
  ·next e=>rcases h3 _ _ (dY e) with z|z|z <;> cases z
  ·next e=>exact .inr (eJ e)
 ·unfold isL at hx;rw[dy] at hx;split at hx <;> try (cases hx;done)
  ·next e=>exact⟨.inl<|lookup_relabel_local e,.inr<|lookup_relabel_local e⟩
  ·next e=>rcases h3 _ _ (dY e) with z|z|z <;> cases z
 ·unfold isG at hx;rw[xCh,dy] at hx;have h4:=hx.1;split at h4
  ·next e=>exact eG e
  ·cases h4
def vq{sc:Scope}{cs:List Nat}(k:Cok P w base B lv c X)(hc:c.inC=false)(h:zE7 sc=true)(hcs:zCk c (frees sc.names)=some cs):∃cl,zB2 X sc cl (locs sc.names) (frees sc.names) cs:=by
 obtain⟨h1,h2,h3⟩:=mS h;obtain⟨cl,e1,e2,e3⟩:=lV (scope:=sc) (env:=X.env) λy hy=>(k.cap hc<|kW hcs y<|fk.mpr hy).2;have hl:∀y∈frees sc.names,∃a,cl.lookup y=some a:=λy hy=>by
  rw[<- e2] at hy;obtain⟨q,hq,rfl⟩:=xA2.mp hy;clear e1 e2 e3 hy;induction cl with
  |nil=>cases hq
  |cons p r ih=>
   rw[List.lookup_cons];by_cases e:q.1==p.1
   ·rw[e];exact⟨_,rfl⟩
   ·rw[Bool.eq_false_iff.mpr e];rcases xAv.mp hq with rfl|hq
    ·simp at e
    ·exact ih hq
 exact⟨cl,zB2.mk' e1 (λy hy e=>by rcases h3 y.1 y.2 hy with z|z|z <;> rw[e] at z <;> cases z) h1 (λy hy e=>jE h2<|by rw[<- e];exact hy) (sD k hc e3 (λy hy=>jE h2 hy) (λy hy=>⟨fk.mp hy,hl y hy⟩) hcs) (λy hy e=>fk.mpr<|by rw[<- e];exact hy) e2⟩
end
section
variable{B:Bs}{up:List<|Str×Str}{G:Gx Prop}{Ex:St->XK}{a b d:TEx Prop}{X:Cx}{e ea eb ec:Expr}{pos p1:Pos}{j:Nat}(g:zBs up G)
def nj{f:Int->Int->Bool}{z:U}(h:i2 (λi j=>.bl<|f i j) S vs=.ok z S'):∃c,z=.bl c:=by
 obtain⟨i,j,_,rfl,_⟩:=ni h;exact⟨_,rfl⟩
def sd{f:Bool->Bool}{v w:U}{z:U}(h:Fx.eqU f v w S=.ok z S'):∃c,z=.bl c:=by
 unfold Fx.eqU at h;split at h
 ·cases h;exact⟨_,rfl⟩
 ·split at h
  ·cases h;exact⟨_,rfl⟩
  ·cases h
def qQ{f:Bool->Bool}{o:Option Bool}{z:U}(h:obB o f S=.ok z S'):∃c,z=.bl c:=by
 unfold obB at h;split at h
 ·cases h;exact⟨_,rfl⟩
 ·cases h
def unmarked(h:zBe eb=true):behindInMarks op eb=false:=by cases eb <;> first|rfl|cases h
include g
theorem yE(hK:X.K=B.K)(hu:X.A.units+40<cLine)(h:zFt op=some p)(hs:zBe eb=true)(ha:FE X B G Ex ea a)(hb:FE X B G Ex eb b) :
  FT X B G Ex (.Compare ea [op] [eb] pos) (tB<|cP p<|zAp a b)/\FE X B G Ex (.Compare ea [op] [eb] pos) (cB<|tB<|cP p<|zAp a b):=by
 have fin:∀{r:R2},OpR X (compareOp op) r->Pr2 B up p r->(∀v w S z S',pr up p [v,w] S=.ok z S'->∃c,z=.bl c)->FT X B G Ex (.Compare ea [op] [eb] pos) (tB<|cP p<|zAp a b)/\FE X B G Ex (.Compare ea [op] [eb] pos) (cB<|tB<|cP p<|zAp a b):=λho hp hv=>
  ⟨AH g ho hp hv ha hb<|unmarked hs,u0 g<|yr g ho hp ha hb<|unmarked hs⟩
 have hu1:X.A.units+1<cLine:=by lia
 cases op <;> cases h
 ·exact fin (Bi hu) Be λ_ _ _ _ _=>sd
 ·exact fin (Bg hu) Ba λ_ _ _ _ _=>sd
 ·exact fin vM zH λ_ _ _ _ _=>nj
 ·exact fin vN zJ λ_ _ _ _ _=>nj
 ·exact fin vO zK λ_ _ _ _ _=>nj
 ·exact fin vP zL λ_ _ _ _ _=>nj
 ·exact fin (Bh hu1) (by rw[hK];exact Bc) λ_ _ _ _ _=>qQ
 ·exact fin (zU hu1) (by rw[hK];exact zC) λ_ _ _ _ _=>qQ
omit g in
theorem pW{f:Int->Int->V}{x y:V}{Q Q':VK}(h:∀v H,Q v H->Q' v H)(q:rI0 f x y H Q):rI0 f x y H Q':=by
 obtain⟨i,j,e1,e2,q⟩:=q;exact⟨i,j,e1,e2,h _ _ q⟩
omit g in
theorem qK(h:zC7 op=some p):∃f,OpR X (compareOp op) (rI0 f)/\Pr2 B up p (rI0 f):=by
 cases op <;> cases h
 ·exact⟨_,vM,zH⟩
 ·exact⟨_,vN,zJ⟩
 ·exact⟨_,vO,zK⟩
 ·exact⟨_,vP,zL⟩
theorem AW{op':CmpOp}{q:Pm}(h:zC7 op=some p)(h':zC7 op'=some q)(hs:zBe ec=true)(ha:FE X B G Ex ea a)(hb:FE X B G Ex eb b)(hc:FE X B G Ex ec d) :
  FT X B G Ex (.Compare ea [op,op'] [eb,ec] pos) (tCh p q a b d)/\FE X B G Ex (.Compare ea [op,op'] [eb,ec] pos) (cB<|tCh p q a b d):=by
 obtain⟨f,o1,q1⟩:=qK (X:=X) (B:=B) (up:=up) h;obtain⟨f',o2,q2⟩:=qK (X:=X) (B:=B) (up:=up) h';have hm:lastMarks [op,op'] [eb,ec]=false:=unmarked (op:=op') hs;exact⟨Bu g o1 o2 q1 q2 ha hb hc hm,AI g o1 o2 q1 q2 ha hb hc hm (λ_ _ _ _ h=>h) pW pW⟩
theorem kE{f:Bool->Bool}(hp:∀v S,pr up p [v] S=.ok (.bl<|f<|match v with|.non=>true|_=>false) S)(ho:OpR X (compareOp op) λx y H Q=>y=.non/\Q (.bl<|f<|decide<|x=.non) H)(hn:op≠.In)(hn2:op≠.NotIn)(ha:FE X B G Ex ea a) :
  FT X B G Ex (.Compare ea [op] [.Constant .none j p1] pos) (tB<|cP p<|aC a aN)/\FE X B G Ex (.Compare ea [op] [.Constant .none j p1] pos) (cB<|tB<|cP p<|aC a aN):=by
 have hm:behindInMarks op (.Constant .none j p1)=false:=rfl;have mm:=mP g (p:=p)<|mAC g ha.m<|mAN g;have one:∀{W:Wd}{v:U}{u:V},Rv B W v u->(match v with|.non=>true|_=>false)=decide (u=.non):=λ{W v u} r=>by
  cases v with
  |non=>rw[show u=.non from r];rfl
  |bl b=>rw[show u=.bl b from r];rfl
  |int i=>rw[show u=.int i from r];rfl
  |str i=>rw[show u=.str i from r];rfl
  |ty i=>rw[show u=.ty i from r];rfl
  |tup xs=>obtain⟨p,vs,rfl,_⟩:=r;rfl
  |lst xs=>obtain⟨p,vs,rfl,_⟩:=r;rfl
  |kt xs=>obtain⟨p,vs,rfl,_⟩:=r;rfl
  |kl xs=>obtain⟨p,vs,rfl,_⟩:=r;rfl
  |kd kvs no=>obtain⟨p,rfl,_⟩:=r;rfl
  |ref a=>obtain⟨p,rfl,_⟩:=r;rfl
  |gl x=>obtain⟨p,rfl,_⟩:=r;rfl
 have core:∀{τ:St}{H:Hp}{Q:VK},LE B G Ex (cP p<|aC a aN) τ H Q->LE B G Ex a τ H (λx H1=>Q (.bl<|f<|decide<|x=.non) H1):=λh=>(LE.p1 g ha.m h).imp ha.m λu H1 zz=>by
  obtain⟨W,S,v,z,S',rs,r1,e,q⟩:=zz;rw[hp] at e;cases e;rw[<- one r1];exact q.here rs rfl
 have hE:FE X B G Ex (.Compare ea [op] [.Constant .none j p1] pos)<|cP p<|aC a aN:=⟨wkE (mH ho ha.p lB hm) λτ H Q h=>(core h).imp ha.m λu H1 q=>⟨rfl,q⟩,mm⟩
 refine⟨⟨wkT (mq ho ha.p lB hm) λτ H Q h=>?_,mB g mm⟩,u0 g hE⟩;have h':LE B G Ex (cP p<|aC a aN) τ H λx H'=>∃k,x=.bl k/\Q k H':=by
  obtain⟨W,σ,S,rs,rg,h⟩:=h;refine LE.go mm rs rg h λv S' W' u H' le rs' rv rg' h'=>?_;cases v <;> first|(exact(g.no h').elim)|exact⟨_,rv,h' W' H' le rs'⟩
 exact(core h').imp ha.m λu H1 q=>⟨rfl,q⟩
end
def rJ1{X:Cx}:MtR X "str.join" λx vs H Q=>∃(sep:Str) (l:Addr) (w:Str),x = .str sep/\vs=[.ref l]/\H l=some (.lst [.str w])/\w.length+sep.length<=sizeLine/\Q (.str w) H:=λZ s σ H x xs v us Q I r rv h=>uy Z s σ H x xs v us Q I r rv (by
 obtain⟨sep,l,w,e1,e2,e3,e4,q⟩:=h;refine⟨sep,l,[w],e1,e2,.inl<|.inl e3,?_,?_⟩
 ·have:sizeLine=16777216:=rfl;simp only[xBs,List.map_nil,List.sum_cons,List.sum_nil,xAo,List.length_nil];lia
 ·have:Txt.join sep [w]=w:=by first|rfl|simp[Txt.join]
  rw[this];exact q)
section
variable{P:Program}{w:World}{base:Heap}{B:Bs}{up:List<|Str×Str}{G:Gx Prop}{lv:Nat}{c:Ct}{X:Cx}{Ex:St->XK}{a b:TEx Prop}{ea eb:Expr}{p1 pos:Pos}{x:Str}{m:Bool}{p:Pm}
def sJ(F:Fc P w base B up G lv c)(k:Cok P w base B lv c X)(h:zGa m x=some p)(hb:isB c x=true)(hst:zAa ea=true)(ha:FE X B G Ex ea a):FE X B G Ex (.Call (.Name x p1) [ea] [] pos)<|cP p<|aC a aN:=by
 have g:=F.g;obtain⟨h1,h2⟩:=fU hb;obtain⟨n1,_,n2⟩:=dP<|ez h1;have hg:=k.gl h1;have hm:X.mg x=none:=by rw[k.hM];exact F.bl h2
 have fa:FA X B G Ex [ea]<|aC a aN:=f9 g ha (iR g) hst;have hs:[ea].all zAa=true:=by rw[xCj,hst];rfl
 have hK:=k.hK;unfold zGa at h;split at h
 ·next e=>subst e;cases h;exact rU g zh (by rw[hK];exact zI) hg hm (by decide +kernel) fa hs n2 n1
 split at h
 ·next e=>subst e;cases h;exact rU g sH zP hg hm (by decide +kernel) fa hs n2 n1
 split at h
 ·next e=>subst e;cases h;exact u9 g vi xn hg hm (by decide +kernel) fa hs n2 n1
 split at h
 ·next e=>subst e;cases h;exact u9 g sk (by rw[hK];exact ue) hg hm (by decide +kernel) fa hs n2 n1
 split at h
 ·next e=>subst e;cases h;exact u9 g vf (by rw[hK];exact uf) hg hm (by decide +kernel) fa hs n2 n1
 split at h
 ·next e=>subst e;cases h;exact u9 g sr ug hg hm (by decide +kernel) fa hs n2 n1
 split at h
 ·next e=>subst e;cases h;exact rU g (yB k.calm) (by rw[hK];exact zN) hg hm (by decide +kernel) fa hs n2 n1
 ·cases h
def yK(F:Fc P w base B up G lv c)(k:Cok P w base B lv c X)(h:zHe x=some p)(hb:isB c x=true)(hst:zAa ea=true)(hst2:zAa eb=true)(ha:FE X B G Ex ea a)(hb':FE X B G Ex eb b):FE X B G Ex (.Call (.Name x p1) [ea,eb] [] pos)<|cP p<|zAp a b:=by
 have g:=F.g;obtain⟨h1,h2⟩:=fU hb;obtain⟨n1,_,n2⟩:=dP<|ez h1;have hg:=k.gl h1;have hm:X.mg x=none:=by rw[k.hM];exact F.bl h2
 have fa:FA X B G Ex [ea,eb]<|zAp a b:=f9 g ha (f9 g hb' (iR g) hst2) hst;have hs:[ea,eb].all zAa=true:=by rw[xCj,xCj,hst,hst2];rfl
 unfold zHe at h;split at h
 ·next e=>subst e;cases h;exact rU g (oX k.calm) zG hg hm (by decide +kernel) fa hs n2 n1
 ·split at h
  ·next e=>subst e;cases h;exact rU g (oW k.calm) zF hg hm (by decide +kernel) fa hs n2 n1
  ·cases h
def xT(F:KdF w B):Pr2 B up .ix<|zE4 w B.K:=Bb λ{W q kvs no x v H Q} hd hy q=>by
 obtain⟨u,val,e1,e2,e3⟩:=F.y hd hy;exact .inr ⟨_,_,u,val,rfl,F.d hd,rfl,e1,e2,q u<|e3 W⟩
def zFr{ds:List U}(h:dflt np n []=some ds):ds=[]/\n=np:=by
 unfold dflt at h;split at h
 ·next e=>cases h;exact⟨by simp,by have:=e.1;have:=e.2;simp at this;lia⟩
 ·cases h
def zG9{df:List U}:dflt np np df=some []:=by
 unfold dflt;rw[xCg ⟨xAg _,by lia⟩,Nat.sub_self,Nat.sub_zero,List.drop_length]
theorem lO{gl:List<|Str×Gd}{y:Str}{q:Nat×Nat}:∀{kvs:List<|Str×U},zAj y (zAz gl kvs)=some q->(∃df mp,zAj y gl=some (.fn q.1 q.2 df mp))/\(y,q)∈zAz gl kvs
 |[],h=>by cases h
 |(z,u)::r,h=>by
  have skip:zAz gl ((z,u)::r)=zAz gl r->(∃df mp,zAj y gl=some (.fn q.1 q.2 df mp))/\(y,q)∈zAz gl ((z,u)::r):=λe=>by
   rw[e] at h⊢;exact lO h
  cases u <;> try exact skip rfl
  rename_i x
  cases hx:zAj x gl with
  |none=>exact skip (by simp only[zAz,hx])
  |some d=>
   cases d with
   |fn i np df mp=>
    have e:zAz gl ((z,.gl x)::r)=(x,i,np)::zAz gl r:=by simp only[zAz,hx]
    rw[e] at h⊢;unfold zAj at h;split at h
    ·next e2=>cases h;subst e2;exact⟨⟨df,mp,hx⟩,xAr⟩
    ·obtain⟨h1,h2⟩:=lO h;exact⟨h1,xAs _ h2⟩
   |cl=>exact skip (by simp only[zAz,hx])
   |xc=>exact skip (by simp only[zAz,hx])
   |con=>exact skip (by simp only[zAz,hx])
end
structure Snd(P:Program)(w:World)(base:Heap)(B:Bs)(up:List (Str×Str))(G:Gx Prop)(lv n:Nat):Prop where
 E:∀{c X Ex m e t},Fc P w base B up G lv c->Cok P w base B lv c X->zAn (CXo X.prog X.w) X Ex->cpE c n m e=some t->FE X B G Ex e t
 C:∀{c X Ex m f as pos t},Fc P w base B up G lv c->Cok P w base B lv c X->zAn (CXo X.prog X.w) X Ex->as.all zAa=true->cpC c n m f as pos=some t->FE X B G Ex (.Call f as [] pos) t
 M:∀{c X Ex o a as apos pos t},Fc P w base B up G lv c->Cok P w base B lv c X->zAn (CXo X.prog X.w) X Ex->as.all zAa=true->(apos.endLine==pos.line)=true->cpM c n o a as=some t->FE X B G Ex (.Call (.Attribute o a apos) as [] pos) t
 A:∀{c X Ex m es t},Fc P w base B up G lv c->Cok P w base B lv c X->zAn (CXo X.prog X.w) X Ex->cpA c n m es=some t->FA X B G Ex es t/\(es=[]->t=aN)/\es.all zAa=true
 D:∀{c X Ex m es t ks kk pos},Fc P w base B up G lv c->Cok P w base B lv c X->zAn (CXo X.prog X.w) X Ex->cpA c n m es=some t->zBq ks=some kk->kk.length=es.length->FP X B G Ex pos ks kk es t
 T:∀{c X Ex vl e t},Fc P w base B up G lv c->Cok P w base B lv c X->zAn (CXo X.prog X.w) X Ex->cpT c n vl e=some t->FT X B G Ex e t/\(vl=true->FE X B G Ex e (cB t))/\∀op vs p,e=Expr.BoolOp op vs p->FW X B G Ex e t
 I:∀{c X Ex one tg e t},Fc P w base B up G lv c->Cok P w base B lv c X->zAn (CXo X.prog X.w) X Ex->(one=false->∃ts k p,tg=Expr.Tuple ts k p)->cpI c n one e=some t->FI X B G Ex tg e t
section
variable{P:Program}{w:World}{base:Heap}{B:Bs}{up:List<|Str×Str}{G:Gx Prop}{lv n:Nat}{c:Ct}{X:Cx}{Ex:St->XK}
def zCi{t:α}{p:Prop}(h:(none:Option α)=some t):p:=by cases h
def zJk:Snd P w base B up G lv 0:=
 ⟨λ_ _ _ h=>zCi h,λ_ _ _ _ h=>zCi h,λ_ _ _ _ _ h=>zCi h,λ_ _ _ h=>zCi h,λ_ _ _ h _ _=>zCi h,λ_ _ _ h=>zCi h,λ_ _ _ _ h=>zCi h⟩
theorem BB{m:List Bool}{es:List Expr}{t:TAx Prop}(s:Snd P w base B up G lv n)(F:Fc P w base B up G lv c)(k:Cok P w base B lv c X)(hx:zAn (CXo X.prog X.w) X Ex)(h:cpA c (n+1) m es=some t):FA X B G Ex es t/\(es=[]->t=aN)/\es.all zAa=true:=by
 cases es with
 |nil=>cases h;exact⟨iR F.g,λ_=>rfl,rfl⟩
 |cons e r=>
  obtain⟨h1,h2⟩:=dJ<|show gd (zAa e) (o2 aC (cpE c n (m.headD false) e)<|cpA c n m.tail r)=_ from h;obtain⟨x,y,h3,h4,rfl⟩:=en h2;obtain⟨q1,_,q3⟩:=s.A F k hx h4;exact⟨f9 F.g (s.E F k hx h3) q1 h1,nofun,by rw[xCj,h1,q3];rfl⟩
def qY{a:Option Expr}{r:List<|Option Expr}(h:zBq (a::r)=some kk):∃z j p kk',a=some (.Constant (.str z) j p)/\zBq r=some kk'/\kk=z::kk':=by
 obtain⟨x,ks,h1,h2,rfl⟩:=en h;obtain⟨e,rfl,h3⟩:=xCi.mp h1;unfold zIo at h3;split at h3
 ·obtain⟨y,h4,rfl⟩:=dQ h3;unfold zIp at h4;split at h4
  ·cases h4;exact⟨_,_,_,ks,rfl,h2,rfl⟩
  ·cases h4
 ·cases h3
theorem jF:∀{ks:List<|Option Expr}{kk:List Str},zBq ks=some kk->ks.length=kk.length/\ks.all (·.isSome)=true
 |[],kk,h=>by cases h;exact⟨rfl,rfl⟩
 |a::r,kk,h=>by
  obtain⟨z,j,p,kk',rfl,hq,rfl⟩:=qY h;obtain⟨h1,h2⟩:=jF hq;exact⟨by simp[h1],by rw[xCj,h2];rfl⟩
theorem Bx{m:List Bool}{es:List Expr}{t:TAx Prop}{ks:List<|Option Expr}(s:Snd P w base B up G lv n)(F:Fc P w base B up G lv c)(k:Cok P w base B lv c X)(hx:zAn (CXo X.prog X.w) X Ex)(h:cpA c (n+1) m es=some t)(hk:zBq ks=some kk)(hl:kk.length=es.length):FP X B G Ex pos ks kk es t:=by
 cases es with
 |nil=>
  cases h;cases kk with
  |cons _ _=>cases hl
  |nil=>
   have:=(jF hk).1;cases ks with
   |nil=>exact Bl F.g
   |cons a r=>simp at this
 |cons e r=>
  obtain⟨h1,h2⟩:=dJ<|show gd (zAa e) (o2 aC (cpE c n (m.headD false) e)<|cpA c n m.tail r)=_ from h;obtain⟨x,y,h3,h4,rfl⟩:=en h2;cases ks with
  |nil=>cases hk;cases hl
  |cons a ks'=>
   obtain⟨z,j,p,kk',rfl,hq,rfl⟩:=qY hk;exact Bm F.g (s.E F k hx h3) (s.D F k hx h4 hq<|by simpa using hl)
end
section
variable{P:Program}{w:World}{base:Heap}{B:Bs}{up:List<|Str×Str}{G:Gx Prop}{lv n:Nat}{c:Ct}{X:Cx}{Ex:St->XK}
def Bj{a:Str}{as:List Expr}{t:TEx Prop}(s:Snd P w base B up G lv n)(F:Fc P w base B up G lv c)(k:Cok P w base B lv c X)(hx:zAn (CXo X.prog X.w) X Ex)(hst:as.all zAa=true)(hl:(apos.endLine==pos.line)=true)(h:cpM c (n+1) o a as=some t):FE X B G Ex (.Call (.Attribute o a apos) as [] pos) t:=by
 have g:=F.g;change eM (cps n) _ _ _ _=_ at h;unfold eM at h;obtain⟨hn,h⟩:=dJ h;split at h
 ·obtain⟨h1,h2⟩:=dJ h;obtain⟨z,h3,rfl⟩:=dQ h2;cases xBe h1;exact AJ g k.hK PySem.F.plainAttrs_list PySem.F.slot_list_pop PySem.F.type_list_pop xE zB (.inl rfl) (s.E F k hx h3) hn hl
 ·next e=>
  rw[xCj,xCh] at hst;split at h
  ·next ea=>
   subst ea;obtain⟨z,v,h3,h4,rfl⟩:=en h;exact wa g k.hK PySem.F.plainAttrs_list PySem.F.slot_list_append PySem.F.type_list_append iX zM (.inl rfl) (s.E F k hx h3) (s.E F k hx h4) hn hst.1 hl
  split at h
  ·next ea=>
   subst ea;obtain⟨z,v,h3,h4,rfl⟩:=en h;exact wa g k.hK PySem.F.plainAttrs_str PySem.F.slot_str_join PySem.F.type_str_join rJ1 xm (.inr rfl) (s.E F k hx h3) (s.E F k hx h4) hn hst.1 hl
  ·cases h
 ·cases h
def A4{vl:Bool}{t:TTx Prop}(s:Snd P w base B up G lv n)(F:Fc P w base B up G lv c)(k:Cok P w base B lv c X)(hx:zAn (CXo X.prog X.w) X Ex)(h:cpT c (n+1) vl e=some t):FT X B G Ex e t/\(vl=true->FE X B G Ex e (cB t))/\∀op vs p,e=Expr.BoolOp op vs p->FW X B G Ex e t:=by
 have g:=F.g;have hu:X.A.units+40<cLine:=by have:=k.hr.un;lia
 change eT (cps n) _ _ _=_ at h;unfold eT at h;cases e <;> dsimp only at h <;> try (cases h;done)
 case UnaryOp op a p=>
  cases op <;> dsimp only at h <;> try (cases h;done)
  obtain⟨x,h1,rfl⟩:=dQ h;obtain⟨q1,q2,_⟩:=s.T F k hx h1;exact⟨Bn g q1,λv=>rP g (q2 v) q1.m,nofun⟩
 case BoolOp op vs p=>
  match vs,h with
  |[],h=>cases h
  |[a],h=>
   obtain⟨q1,q2,_⟩:=s.T F k hx h;cases op with
   |And=>exact⟨(v3 q1).ft,λv=>v7<|q2 v,λ_ _ _ _=>v3 q1⟩
   |Or=>exact⟨(v0 q1).ft,λv=>v7<|q2 v,λ_ _ _ _=>v0 q1⟩
  |a::b::r,h=>
   cases op with
   |And=>
    obtain⟨x,y,h1,h2,rfl⟩:=en h;obtain⟨q1,q2,_⟩:=s.T F k hx h1;obtain⟨q3,q4,q5⟩:=s.T F k hx h2;exact⟨(Ap g q1<|q5 _ _ _ rfl).ft,λv=>yu g (q2 v) q1.m (q4 v) q3.m,λ_ _ _ _=>Ap g q1<|q5 _ _ _ rfl⟩
   |Or=>
    obtain⟨x,y,h1,h2,rfl⟩:=en h;obtain⟨q1,q2,_⟩:=s.T F k hx h1;obtain⟨q3,q4,q5⟩:=s.T F k hx h2;exact⟨(Ao g q1<|q5 _ _ _ rfl).ft,λv=>Ax g (q2 v) q1.m (q4 v) q3.m,λ_ _ _ _=>Ao g q1<|q5 _ _ _ rfl⟩
 case Compare a ops bs p=>
  match ops,bs,h with
  |[],_,h=>cases h
  |[op],[],h=>cases h
  |[op],[b],h=>
   dsimp only at h;split at h
   ·next j q=>
    obtain⟨x,h1,rfl⟩:=dQ h;obtain⟨q1,q2⟩:=kE g (p:=.isN) (f:=id) (j:=j) (p1:=q) (pos:=p) (λv S=>by cases v <;> rfl) xq nofun nofun<|s.E F k hx h1;exact⟨q1,λ_=>q2,nofun⟩
   ·next j q=>
    obtain⟨x,h1,rfl⟩:=dQ h;obtain⟨q1,q2⟩:=kE g (p:=.notN) (f:=not) (j:=j) (p1:=q) (pos:=p) (λv S=>by cases v <;> rfl) uj nofun nofun<|s.E F k hx h1;exact⟨q1,λ_=>q2,nofun⟩
   ·obtain⟨h1,h2⟩:=dJ h;obtain⟨pm,x,y,h3,h4,h5,rfl⟩:=iQ h2;obtain⟨q1,q2⟩:=yE g (pos:=p) k.hK hu h3 h1 (s.E F k hx h4)<|s.E F k hx h5;exact⟨q1,λ_=>q2,nofun⟩
  |[op],_::_::_,h=>cases h
  |[p1,p2],[b,d],h=>
   dsimp only at h;obtain⟨h1,h2⟩:=dJ h;rw[xCh] at h1;split at h2
   ·next pm qm e1 e2=>
    obtain⟨x,y,z,h3,h4,h5,rfl⟩:=iQ h2;obtain⟨q1,q2⟩:=AW g (pos:=p) e1 e2 h1.2 (s.E F k hx h3) (s.E F k hx h4)<|s.E F k hx h5;exact⟨q1,λ_=>q2,nofun⟩
   ·cases h2
  |[_,_],[],h=>cases h
  |[_,_],[_],h=>cases h
  |[_,_],_::_::_::_,h=>cases h
  |_::_::_::_,_,h=>cases h
 case Call f as kws p=>
  obtain⟨x,h1,rfl⟩:=dQ h;have q:=s.E F k hx h1;exact⟨v4 g q λ_=>rfl,λ_=>u0 g q,nofun⟩
 case Attribute o f p=>
  obtain⟨h1,h2⟩:=dJ h;obtain⟨x,h3,rfl⟩:=dQ h2;exact⟨v5 g k.hK (s.E F k hx h3) λ_=>rfl,λz=>(by subst z;cases h1),nofun⟩
 case Name x p=>
  cases vl with
  |true=>
   obtain⟨x,h1,rfl⟩:=dQ h;have q:=s.E F k hx h1;exact⟨v4 g q λ_=>rfl,λ_=>u0 g q,nofun⟩
  |false=>
   obtain⟨x,h3,rfl⟩:=dQ h;exact⟨v5 g k.hK (s.E F k hx h3) λ_=>rfl,λz=>(nomatch z),nofun⟩
end
section
variable{P:Program}{w:World}{base:Heap}{B:Bs}{up:List<|Str×Str}{G:Gx Prop}{lv n:Nat}{c:Ct}{X:Cx}{Ex:St->XK}
def Bk{one:Bool}{t:TEx Prop}(s:Snd P w base B up G lv n)(F:Fc P w base B up G lv c)(k:Cok P w base B lv c X)(hx:zAn (CXo X.prog X.w) X Ex)(ht:one=false->∃ts k p,tg=Expr.Tuple ts k p)(h:cpI c (n+1) one e=some t):FI X B G Ex tg e t:=by
 have g:=F.g;have bl:∀{x y:Str},(isB c x&&decide (x=y))=true->x=y/\Gl X y/\X.mg y=none:=λ{x y} h=>by
  rw[xCh] at h;cases xBe h.2;obtain⟨h1,h2⟩:=fU h.1;exact⟨rfl,k.gl h1,by rw[k.hM];exact F.bl h2⟩
 change eI (cps n) _ _ _=_ at h;unfold eI at h;split at h
 ·next x p as q=>
  split at h
  ·next hb=>
   obtain⟨rfl,hg,hm⟩:=bl hb;split at h
   ·obtain⟨h1,h2⟩:=dJ h;obtain⟨z,h3,rfl⟩:=dQ h2;exact ym g hg hm (s.E F k hx h3) h1
   ·obtain⟨h1,h2⟩:=dJ h;rw[xCh,xCh] at h1;obtain⟨z,v,y,h3,h4,h5,rfl⟩:=iQ h2;exact yl g hg hm (s.E F k hx h3) (s.E F k hx h4) (s.E F k hx h5) h1.1.1 h1.1.2 h1.2
   ·cases h
  split at h
  ·next hb=>
   obtain⟨rfl,hg,hm⟩:=bl hb;split at h
   ·obtain⟨h1,h2⟩:=dJ h;rw[xCh,xCh] at h1;obtain⟨z,v,h3,h4,rfl⟩:=en h2;obtain⟨ts,kk,pp,rfl⟩:=ht (by simpa using h1.1.1);exact An g k.hK hg hm (s.E F k hx h3) (s.E F k hx h4) h1.1.2 h1.2
   ·cases h
  split at h
  ·next hb=>
   obtain⟨rfl,hg,hm⟩:=bl hb;split at h
   ·obtain⟨h1,h2⟩:=dJ h;obtain⟨z,h3,rfl⟩:=dQ h2;exact Aw g k.hK hg hm (s.E F k hx h3) h1
   ·cases h
  ·obtain⟨z,h3,rfl⟩:=dQ h;exact v6 g k.hK<|s.E F k hx h3
 ·obtain⟨z,h3,rfl⟩:=dQ h;exact v6 g k.hK<|s.E F k hx h3
def pC(h:tg1 tg=false):∃ts k p,tg=Expr.Tuple ts k p:=by
 cases tg <;> first|exact⟨_,_,_,rfl⟩|cases h
def vU{m:Bool}{elt:Expr}{gens:List Comprehension}{sc:Scope}{p:Pos}{t:TEx Prop}(s:Snd P w base B up G lv n)(F:Fc P w base B up G lv c)(k:Cok P w base B lv c X)(hx:zAn (CXo X.prog X.w) X Ex)(h:eE (cps n) c m (.ListComp elt gens sc p)=some t):FE X B G Ex (.ListComp elt gens sc p) t/\∀{i:Nat}{y:Str}{py spos:Pos},X.N.Nodup->X.N[i]?=some y->X.env.scope.names.lookup y=some .local->swapsWith (.ListComp elt gens sc p) (some<|.Name y py) spos.line X.env=pure true->FS X B G Ex (.Assign [.Name y py] (.ListComp elt gens sc p) spos) (sA i t):=by
 have g:=F.g;unfold eE at h;dsimp only at h;split at h
 ·next tg it ifs=>
  split at h
  ·next cs is one ti te e1 e2 e3 e4=>
   obtain⟨hg,h2⟩:=dJ h;simp only[xCh,Bool.not_eq_true'] at hg;obtain⟨⟨⟨hc,hok⟩,hns⟩,his⟩:=hg;obtain⟨cl,cp⟩:=vq k hc hok e1;have ck:∀C s' H fp,Cok P w base B lv (cty c sc)<|zAh X (locs sc.names++frees sc.names) sc cl C s' H fp:=λ_ _ _ _=>sx k hok;have hE:∀C s' H fp,FE (zAh X (locs sc.names++frees sc.names) sc cl C s' H fp) B G (λ_ _ _ _=>False) elt te:=λC s' H fp=>s.E F.re (ck C s' H fp) zE6 e4;have hT:=λC s' H fp=>vB (G:=G) (ck C s' H fp) e2;have h1:one=true->is.length=1:=(hT 0 X.s₀ X.H₀ []).2;have hi:∀kk∈is,kk<(locs sc.names).length:=λkk hk=>xCo<|xCx.mp his kk hk;have hf:∀v,foldedSetIterable it X.env v=pure v:=λv=>by cases it <;> first|rfl|cases hns
   have hI:FI X B G Ex tg it ti:=s.I F k hx (λz=>pC z) e3;split at h2
   ·cases h2;exact Az g h1 hi k.calm cp hI (λC s' H fp=>(hT C s' H fp).1) hE (.inl ⟨rfl,rfl⟩) hf (hE 0 X.s₀ X.H₀ []).m
   ·next q=>
    obtain⟨tt,h3,rfl⟩:=dQ h2;have hq:∀C s' H fp,FT (zAh X (locs sc.names++frees sc.names) sc cl C s' H fp) B G (λ_ _ _ _=>False) q tt:=λC s' H fp=>(s.T F.re (ck C s' H fp) zE6 h3).1;exact Az g h1 hi k.calm cp hI (λC s' H fp=>(hT C s' H fp).1) hE (.inr ⟨q,tt,rfl,rfl,(hq 0 X.s₀ X.H₀ []).m,hq⟩) hf (hE 0 X.s₀ X.H₀ []).m
   ·cases h2
  ·cases h
 ·cases h
def Bv{m:Bool}{t:TEx Prop}(s:Snd P w base B up G lv n)(F:Fc P w base B up G lv c)(k:Cok P w base B lv c X)(hx:zAn (CXo X.prog X.w) X Ex)(h:cpE c (n+1) m e=some t):FE X B G Ex e t:=by
 have g:=F.g;have hK:=k.hK;have hu:X.A.units+1<cLine:=by have:=k.hr.un;lia
 change eE (cps n) _ _ _=_ at h;unfold eE at h;cases e <;> dsimp only at h <;> try (cases h;done)
 case Name x p=>
  split at h
  ·next i hi=>
   cases h;obtain⟨a,b,d⟩:=wj k hi;obtain⟨d1,d2,_⟩:=dP d;exact f_v g a b d1 d2
  ·split at h
   ·next u hq=>
    cases h;obtain⟨q1,q2⟩:=fI hq;obtain⟨v,val,m1,r1,r2⟩:=F.con q2;exact f_c (gP (k.gl q1) (by rw[k.hM];exact m1) r1 (dP<|ez q1).1) r2
   ·cases h
 case Constant kk j p=>
  split at h <;> try (cases h;done)
  ·cases h;exact f_c xi λ_=>rfl
  ·cases h;exact f_c qr λ_=>rfl
  ·cases h;exact f_c zw λ_=>rfl
  ·cases h;exact f_c lB λ_=>rfl
 case BinOp a op b p=>
  obtain⟨pm,x,y,h1,h2,h3,rfl⟩:=iQ h;have ha:=s.E F k hx h2;have hb:=s.E F k hx h3;cases op <;> cases h1
  ·exact oM g zV (by rw[hK];exact zO) ha hb
  ·exact oM g xr zx ha hb
  ·exact oM g (OpR.or uq xt) zD ha hb
  ·exact oM g xw zE ha hb
  ·exact oM g xu zy ha hb
  ·exact oM g qN xo ha hb
 case UnaryOp op a p=>
  cases op <;> dsimp only at h <;> try (cases h;done)
  ·obtain⟨x,h1,rfl⟩:=dQ h;obtain⟨q1,q2,_⟩:=s.T F k hx h1;exact rP g (q2 rfl) q1.m
 case BoolOp op vs p=>
  obtain⟨x,h1,rfl⟩:=dQ h;exact(s.T F k hx h1).2.1 rfl
 case Compare a ops bs p=>
  obtain⟨x,h1,rfl⟩:=dQ h;exact(s.T F k hx h1).2.1 rfl
 case IfExp q a b p=>
  obtain⟨x,y,z,h1,h2,h3,rfl⟩:=iQ h;exact zG6 g (s.T F k hx h1).1 (s.E F k hx h2)<|s.E F k hx h3
 case Tuple es kk p=>
  obtain⟨h1,h2⟩:=dJ h;obtain⟨x,h3,rfl⟩:=dQ h2;exact Aq g (s.A F k hx h3).1<|xCo h1
 case List es p=>
  obtain⟨x,h3,rfl⟩:=dQ h;exact Ay g (s.A F k hx h3).1
 case Dict ks vs p=>
  split at h
  ·cases h;exact Bt g
  ·next hne=>
   split at h
   ·next kk hk=>
    obtain⟨h1,h2⟩:=dJ h;obtain⟨x,h3,rfl⟩:=dQ h2;rw[xCh,xCh] at h1;have hl:=Nat.eq_of_beq_eq_true h1.2;obtain⟨k1,k2⟩:=jF hk;refine AG g (s.D F k hx h3 hk hl) h1.1.1 hl (k1.trans hl) k2 (λz=>?_)<|xCo h1.1.2;subst z;have:vs=[]:=by
     have:=k1.trans hl;exact List.eq_nil_of_length_eq_zero (by simpa using this.symm)
    exact hne rfl this
   ·cases h
 case Subscript a b p=>
  split at h
  ·split at h
   ·obtain⟨x,y,z,h1,h2,h3,rfl⟩:=iQ h;exact Av g hK (s.E F k hx h1) (s.E F k hx h2)<|s.E F k hx h3
   ·obtain⟨x,y,h1,h2,rfl⟩:=en h;exact As g hK (s.E F k hx h1)<|s.E F k hx h2
   ·obtain⟨x,y,h1,h2,rfl⟩:=en h;exact Au g hK (s.E F k hx h1)<|s.E F k hx h2
   ·cases h
  ·obtain⟨h1,h2⟩:=dJ h;obtain⟨x,y,h3,h4,rfl⟩:=en h2;exact Bo g (A0 hu) (by rw[hK,k.hw];exact xT F.kdf) (s.E F k hx h3) (s.E F k hx h4)<|qi h1
 case Attribute o f p=>
  obtain⟨h1,h2⟩:=dJ h;obtain⟨x,h3,rfl⟩:=dQ h2;rw[xCh] at h1;obtain⟨y,hy,e⟩:=xCy.mp h1.2;cases xBe e;exact AE g hK F.clf hy (s.E F k hx h3) h1.1
 case Call f as kws p=>
  split at h
  ·obtain⟨h1,h2⟩:=dJ h;exact s.C F k hx h1 h2
  ·cases h
 case ListComp elt gens sc p=>exact(vU s F k hx<|show eE (cps n) c m (.ListComp elt gens sc p)=some t from h).1
def BA{m:Bool}{f:Expr}{as:List Expr}{t:TEx Prop}(s:Snd P w base B up G lv n)(F:Fc P w base B up G lv c)(k:Cok P w base B lv c X)(hx:zAn (CXo X.prog X.w) X Ex)(hst:as.all zAa=true)(h:cpC c (n+1) m f as pos=some t):FE X B G Ex (.Call f as [] pos) t:=by
 have g:=F.g;have hK:=k.hK;have hr:zA4 lv X.A:=k.hr.mono<|Nat.le_succ _;change eC (cps n) _ _ _ _ _=_ at h;unfold eC at h;cases f <;> dsimp only at h <;> try (cases h;done)
 case Name x p=>
  split at h
  ·next i np df mp e=>
   obtain⟨q1,q2⟩:=fI e;obtain⟨a,d,h1,h2,rfl⟩:=en h;obtain⟨f,fd,ps,m1,kp,FO,hd⟩:=F.fn q2;obtain⟨e1,dvs,dv,b1,b2,b3⟩:=hd h2;obtain⟨A1,A2,_⟩:=s.A F k hx h1;exact yt g (k.f FO) hr (k.gl q1) (by rw[k.hM];exact m1) (by rw[hK];exact kp) (by rw[hK];exact b1) b2 b3 hx (dP<|ez q1).1 A1 A2 e1 hst
  ·next i np df e=>
   obtain⟨q1,q2⟩:=fI e;obtain⟨_,h⟩:=dJ h;obtain⟨a,d,h1,h2,rfl⟩:=en h;obtain⟨cc,f,fd,ps,c1,m1,mk,FO,hd,_,_⟩:=F.cl q2;obtain⟨e1,dvs,dv,b1,b2,b3⟩:=hd h2;obtain⟨A1,A2,_⟩:=s.A F k hx h1;exact zDa g c1 (by rw[hK];exact mk) (k.f FO) k.hr (k.gl q1) (by rw[k.hM];exact m1) (by rw[hK];exact b1) b2 b3 (dP<|ez q1).1 A1 A2 e1 hst
  ·cases h
  ·obtain⟨hb,h⟩:=dJ h;split at h
   ·next a=>
    rw[xCj,xCh] at hst;split at h
    ·next y _ b _=>
     split at h
     ·next e1 e2=>
      cases xBe e1;cases xBe e2;obtain⟨h1,h2⟩:=dJ h;rw[xCh] at h1;obtain⟨z,h3,rfl⟩:=dQ h2;obtain⟨a1,a2⟩:=fU hb;obtain⟨b1,b2⟩:=fU h1.1;exact rT g k.calm (k.gl a1) (by rw[k.hM];exact F.bl a2) (k.gl b1) (by rw[k.hM];exact F.bl b2) (s.E F k hx h3) h1.2
     ·obtain⟨pm,z,h1,h2,rfl⟩:=en h;exact sJ F k h1 hb hst.1<|s.E F k hx h2
    ·obtain⟨pm,z,h1,h2,rfl⟩:=en h;exact sJ F k h1 hb hst.1<|s.E F k hx h2
   ·next a b=>
    rw[xCj,xCh,xCj,xCh] at hst;split at h
    ·next e1=>
     cases xBe e1;obtain⟨a1,a2⟩:=fU hb;have z1:X.mg "isinstance"=none:=by rw[k.hM];exact F.bl a2
     split at h
     ·next y py=>
      split at h
      ·next ty et=>
       obtain⟨h1,h2⟩:=dJ h;obtain⟨z,h3,rfl⟩:=dQ h2;obtain⟨b1,b2⟩:=fU h1;have z2:X.mg y=none:=by rw[k.hM];exact F.bl b2
       obtain⟨n1,_,n2⟩:=dP<|ez b1;unfold zHs at et;split at et
       ·next e=>subst e;cases et;exact nz g hK F.clt F.k1 (k.gl a1) z1 (k.gl b1) z2 (by decide +kernel) n2 n1 (s.E F k hx h3) hst.1
       split at et
       ·next e=>subst e;cases et;exact nz g hK F.clt F.k2 (k.gl a1) z1 (k.gl b1) z2 (by decide +kernel) n2 n1 (s.E F k hx h3) hst.1
       split at et
       ·next e=>subst e;cases et;exact nz g hK F.clt F.k3 (k.gl a1) z1 (k.gl b1) z2 (by decide +kernel) n2 n1 (s.E F k hx h3) hst.1
       split at et
       ·next e=>subst e;cases et;exact nz g hK F.clt F.k4 (k.gl a1) z1 (k.gl b1) z2 (by decide +kernel) n2 n1 (s.E F k hx h3) hst.1
       ·cases et
      ·split at h
       ·next e2=>
        obtain⟨hi,h⟩:=dJ h;obtain⟨z,h3,rfl⟩:=dQ h;obtain⟨y',hy,ey⟩:=xCy.mp hi;cases xBe ey;obtain⟨q1,q2⟩:=fI e2;obtain⟨cc,f,fd,ps,c1,m1,mk,FO,hd,kc,_⟩:=F.cl q2;exact AA g hK F.clt (kc hy) (k.gl a1) z1 (k.gl q1) (by rw[k.hM];exact m1) (dP<|ez q1).1 (s.E F k hx h3) hst.1
       ·cases h
     ·cases h
    ·obtain⟨pm,z,v,h1,h2,h3,rfl⟩:=iQ h;exact yK F k h1 hb hst.1 hst.2.1 (s.E F k hx h2)<|s.E F k hx h3
   ·cases h
 case Attribute o a apos=>
  obtain⟨h1,h⟩:=dJ h;rw[xCh] at h1;have h29:as.length<29:=xCo h1.2;split at h
  ·next C i np e=>
   obtain⟨h2,h⟩:=dJ h;obtain⟨z,v,d,h3,h4,h5,rfl⟩:=iQ h;obtain⟨rfl,e1⟩:=zFr h5;obtain⟨cc,f,fd,ps,u1,cls,meth,FO,bd⟩:=F.ms e;obtain⟨A1,A2,_⟩:=s.A F k hx h4;exact yo g u1 (by rw[hK];exact cls) (by rw[hK];exact meth) (k.f FO) hr (by rw[hK];exact bd) .nil (λ_=>rfl) hx (s.E F k hx h3) A1 A2 e1 hst<|m6 (vx h2) hst h29 h1.1
  ·split at h
   ·next y py=>
    split at h
    ·next i np df e=>
     obtain⟨h2,h⟩:=dJ h;obtain⟨v,h4,rfl⟩:=dQ h;simp only[xCh,Bool.not_eq_true'] at h2;obtain⟨⟨⟨⟨b1,b2⟩,b3⟩,b4⟩,b5⟩:=h2;cases xBe b1;obtain⟨y',hy,ey⟩:=xCy.mp b2;cases xBe ey;obtain⟨q1,q2⟩:=fI e;obtain⟨cc,f,fd,ps,c1,m1,mk,FO,hd,_,hi⟩:=F.cl q2;obtain⟨bd,mc,i1,i2,i3,i4,i5⟩:=hi hy;obtain⟨A1,A2,_⟩:=s.A F k hx h4;cases as with
     |nil=>cases b4
     |cons e1 es=>
      exact AB g (k.gl q1) (by rw[k.hM];exact m1) (dP<|ez q1).1 (by rw[hK];exact i1) (by rw[hK];exact i2) (by rw[hK];exact i3) i4 (by rw[hK];exact i5) (k.f FO) hr (by rw[hK];exact bd) hx A1 hst (Nat.eq_of_beq_eq_true b3)<|m6 rfl hst h29 h1.1
    ·next kvs no e=>
     obtain⟨h2,h⟩:=dJ h;cases xBe h2;obtain⟨q1,q2⟩:=fI e;obtain⟨v,val,m1,r1,r2⟩:=F.con q2;obtain⟨pp,rfl,hd⟩:=r2 ⟨λ_=>none,[],[]⟩;rw[show val=.ref pp from r1] at m1;have kf:KdF X.w B:=by rw[k.hw];exact F.kdf
     split at h
     ·next e1=>
      rw[xCj,xCh] at hst;obtain⟨z,h3,rfl⟩:=dQ h;exact yq g hK kf hd (k.gl q1) (by rw[k.hM];exact m1) (dP<|ez q1).1 (s.E F k hx h3) hst.1 h1.1
     ·next e1 e2=>
      rw[xCj,xCh,xCj,xCh] at hst;obtain⟨z,v,h3,h4,rfl⟩:=en h;exact yp g hK kf hd (k.gl q1) (by rw[k.hM];exact m1) (dP<|ez q1).1 (s.E F k hx h3) (s.E F k hx h4) hst.1 hst.2.1 h1.1
     ·cases h
    ·exact s.M F k hx hst h1.1 h
   ·exact s.M F k hx hst h1.1 h
 case Subscript gx b p=>
  split at h
  ·next y py=>
   split at h
   ·next kvs no e=>
    obtain⟨h1,h⟩:=dJ h;obtain⟨z,v,h3,h4,rfl⟩:=en h;simp only[xCh,Bool.not_eq_true'] at h1;obtain⟨A1,A2,_⟩:=s.A F k hx h4;cases as with
    |nil=>cases h1.1
    |cons e1 es=>
     refine AF g hx (s.E F k hx h3) A1 hst (λ{y q} hy=>?_) rfl;obtain⟨⟨df,mp,hq⟩,hm⟩:=lO hy;obtain⟨f,fd,ps,m1,kp,FO,hd⟩:=F.fn hq;obtain⟨e1,dvs,dv,b1,b2,b3⟩:=hd zG9;have hz:dvs=[]:=b3 ⟨λ_=>none,[],[]⟩;subst hz;cases b2;exact⟨f,lv,fd,ps,m1,by rw[hK];exact kp,hr,k.f FO,by rw[hK];exact b1,(Nat.eq_of_beq_eq_true<|xCx.mp h1.2 _ hm).symm⟩
   ·cases h
  ·cases h
theorem snd:∀n,Snd P w base B up G lv n
 |0=>zJk
 |n+1=>⟨Bv<|snd n,BA<|snd n,Bj<|snd n,BB<|snd n,Bx<|snd n,A4<|snd n,Bk<|snd n⟩
end
structure zHj(P:Program)(w:World)(base:Heap)(B:Bs)(up:List (Str×Str))(G:Gx Prop)(lv n:Nat):Prop where
 S:∀{c X Ex s t},Fc P w base B up G lv c->Cok P w base B lv c X->Cat X Ex->cpS c n s=some t->FS X B G Ex s t
 L:∀{c X Ex s t},Fc P w base B up G lv c->Cok P w base B lv c X->Cat X Ex->zFs c n s=some t->FSs X B G Ex s t
section
variable{P:Program}{w:World}{base:Heap}{B:Bs}{up:List<|Str×Str}{G:Gx Prop}{lv n:Nat}{c:Ct}{X:Cx}{Ex:St->XK}
theorem Cok.lp(k:Cok P w base B lv c X):Cok P w base B lv c X.lp:=⟨k.hP,k.hw,k.hK,k.hM,k.hb,k.N,k.nd,k.vis,k.loc,k.lc,k.gl,k.calm,k.hr,k.cap⟩
theorem Cok.trial{Z:List<|Addr×Obj}{E:Value->Shared->Prop}(k:Cok P w base B lv c X):Cok P w base B lv c<|X.trial Z E:=⟨k.hP,k.hw,k.hK,k.hM,k.hb,k.N,k.nd,k.vis,k.loc,k.lc,k.gl,k.calm,k.hr,k.cap⟩
def wm{is:List Nat}{one:Bool}(h:zF1 c tg=some (is,one)):one=true->is.length=1:=by
 cases tg <;> try (cases h;done)
 ·obtain⟨i,h1,e⟩:=dQ<|show o1 _ _=_ from h;cases e;exact λ_=>rfl
 ·obtain⟨i,h1,e⟩:=dQ<|show o1 _ _=_ from h;cases e;exact nofun
def ml{st:Stmt}(g:zBs up G):FS X B G Ex st sZ:=⟨λ_ _ _ _ _ _ ⟨_,_,_,_,_,h⟩=>(g.no h).elim,⟨λ_ h=>(g.no h).elim⟩⟩
def uQ{i:Nat}(h:zIk c e=some i):∃x p,e=.Name x p/\vIx c x=some i:=by
 cases e <;> try (cases h;done)
 next x p=>
 change(if _ then vIx c x else none)=_ at h;split at h
 ·exact⟨x,p,rfl,h⟩
 ·cases h
def A3{p:Pos}{i:Nat}(F:Fc P w base B up G lv c)(k:Cok P w base B lv c X)(h:vIx c x=some i)(hx:zAn (CXo X.prog X.w) X Ex):FE X B G Ex (.Name x p)<|cV i:=(snd 1).E (m:=false) F k hx (by show(match vIx c x with|some i=>some (cV i)|none=>_)=_;rw[h])
theorem xI{m:Bool}{t:TEx Prop}{i:Nat}{y:Str}{py spos:Pos}(F:Fc P w base B up G lv c)(k:Cok P w base B lv c X)(hx:zAn (CXo X.prog X.w) X Ex)(hn:zAy e=false)(h:cpE c n m e=some t)(a1:X.N[i]?=some y)(a2:Loc X.env.scope y)(a3:X.fn y=true\/X.env.scope.names.lookup y=some .local):FS X B G Ex (.Assign [.Name y py] e spos)<|sA i t:=by
 cases n with
 |zero=>cases h
 |succ n=>
  cases e <;> try (cases hn;done)
  ·next elt gens sc p=>
   obtain⟨q1,q2⟩:=vU (snd n) F k hx<|show eE (cps n) c m (.ListComp elt gens sc p)=some t from h;have hs:swapsWith (.ListComp elt gens sc p) (some<|.Name y py) spos.line X.env=pure (X.env.blockKind==ScopeKind.function&&X.env.kindOf y==some NameKind.local&&py.line==p.line&&!sc.names.any λq=>q.1==y&&(q.2==NameKind.local||q.2==NameKind.cell)):=rfl;cases hb:(X.env.blockKind==ScopeKind.function&&X.env.kindOf y==some NameKind.local&&py.line==p.line&&!sc.names.any λq=>q.1==y&&(q.2==NameKind.local||q.2==NameKind.cell)) with
   |false=>exact vF F.g q1 k.nd a1 a2 (hs.trans<|by rw[hb]) a3
   |true=>
    refine q2 k.nd a1 ?_ (hs.trans<|by rw[hb]);simp only[xCh] at hb;exact eq_of_beq hb.1.1.2
  ·cases h
  ·cases h
def A5{st:Stmt}(s:zHj P w base B up G lv n)(F:Fc P w base B up G lv c)(k:Cok P w base B lv c X)(ca:Cat X Ex)(h:cpS c (n+1) st=some t):FS X B G Ex st t:=by
 have g:=F.g;have hK:=k.hK;have hx:=ca.pass;have hu:X.A.units+1<cLine:=by have:=k.hr.un;lia
 have hh:X.A.handled=none:=k.hr.hd;change eS n (cpt n) _ _=_ at h;unfold eS at h;cases st <;> dsimp only at h <;> try (cases h;done)
 case Pass p=>cases h;exact wD g
 case Expr e p=>
  obtain⟨h1,h⟩:=dJ h;obtain⟨x,h2,rfl⟩:=dQ h;exact A7 g ((snd n).E F k hx h2) h1
 case Return e p=>
  split at h
  ·split at h
   ·next i hi=>
    cases h;obtain⟨x,q,rfl,hv⟩:=uQ hi;exact vE g<|AD g<|A3 F k hv hx
   ·obtain⟨x,h2,rfl⟩:=dQ h;exact vE g<|(snd n).E F k hx h2
  ·cases h;exact wC g
 case If q a b p=>
  obtain⟨x,y,z,h1,h2,h3,rfl⟩:=iQ h;exact A6 g ((snd n).T F k hx h1).1 (s.L F k ca h2)<|s.L F k ca h3
 case While q b orelse p=>
  split at h
  ·obtain⟨x,y,h1,h2,rfl⟩:=en h;exact tD g ((snd n).T F k.lp ca.lp.pass h1).1<|s.L F k.lp ca.lp h2
  ·cases h
 case For tg it b orelse p=>
  split at h
  ·split at h
   ·next is one e=>
    obtain⟨h1,h⟩:=dJ h;rw[xCh] at h1;obtain⟨x,y,h2,h3,rfl⟩:=en h;exact zd g (wm e) k.calm ((snd n).I F k hx (λz=>pC z) h2) (vB k.lp e).1 (s.L F k.lp ca.lp h3) (λv=>by cases it <;> first|rfl|cases h1.1)
   ·cases h
  ·cases h
 case Assign tgs e p=>
  split at h
  ·obtain⟨hc,h⟩:=dJ h;split at h
   ·next x px=>
    obtain⟨i,y,h1,h2,rfl⟩:=en h;obtain⟨a1,a2,a3⟩:=ir k h1;cases hn:zAy e with
    |true=>exact vF g ((snd n).E F k hx h2) k.nd a1 a2 (f6 hn) a3
    |false=>exact xI F k hx hn h2 a1 a2 a3
   ·next es j pt=>
    have hc:zAy e=true:=by simpa [zF8] using hc
    obtain⟨h1,h⟩:=dJ h;obtain⟨is,y,h2,h3,rfl⟩:=en h;obtain⟨a1,a2⟩:=io k h2;exact za g hK k.calm k.nd ((snd n).E F k hx h3) a2 a1 (by unfold swapsWithSole;exact f6 hc) (by cases e <;> first|rfl|cases h1)
   ·next o f po=>
    have hc:zAy e=true:=by simpa [zF8] using hc
    obtain⟨h1,h⟩:=dJ h;obtain⟨x,y,h2,h3,rfl⟩:=en h;obtain⟨f',hy,ee⟩:=xCy.mp h1;cases xBe ee;exact ze g hK F.clf hy ((snd n).E F k hx h2) ((snd n).E F k hx h3) hc
   ·next o i po=>
    have hc:zAy e=true:=by simpa [zF8] using hc
    obtain⟨h1,h⟩:=dJ h;obtain⟨x,y,z,h2,h3,h4,rfl⟩:=iQ h;exact wG g hu ((snd n).E F k hx h2) ((snd n).E F k hx h3) ((snd n).E F k hx h4) h1 hc
   ·cases h
  ·cases h
 case Raise e cau p=>
  obtain⟨⟨x,px,as,q⟩,h0,hA⟩:=xCi.mp h;clear h;obtain⟨fs,e,hB⟩:=xCi.mp hA;clear hA;obtain⟨rfl,rfl⟩:=wJ h0;obtain⟨q1,q2⟩:=fI<|vz e;cases fs with
  |nil=>
   cases hB;exact ml g
  |cons f fr=>
   obtain⟨h1,hC⟩:=dJ hB;clear hB;obtain⟨a,ha,hD⟩:=xCi.mp hC;clear hC;cases List.isEmpty_iff.mp h1;cases g8 ha;obtain⟨h1,hE⟩:=dJ hD;obtain⟨z,h2,rfl⟩:=dQ hE;obtain⟨cc,f',fd,s0,m1,e1,FO,bd,e2,e3,e4,_,_⟩:=F.x1 q2;rw[<- hK] at e1 bd e2 e3 e4;have FO:=k.f FO;rw[<- hK] at FO;exact pN g ca hh e1 FO k.hr bd e2 e3 e4 (k.gl q1) (by rw[k.hM];exact m1) m1 (dP<|ez q1).1 ((snd n).E F k hx h2) h1
 case Try b hs orelse fin p=>
  obtain⟨⟨x,px,e,y,py,z,pz,f,pf,pa,ph⟩,h0,hA⟩:=xCi.mp h;clear h;obtain⟨hg,hB⟩:=dJ hA;clear hA;obtain⟨fs,e1,hC⟩:=xCi.mp hB;clear hB;obtain⟨gf,eg,hD⟩:=xCi.mp hC;clear hC;obtain⟨h1,hE⟩:=dJ hD;clear hD;obtain⟨i,j,tt,i1,i2,i3,hF⟩:=zW hE;clear hE;obtain⟨hij,hG⟩:=dJ hF;clear hF;cases hG;cases x8 h0;rw[xCh] at hg;cases List.isEmpty_iff.mp hg.1;cases List.isEmpty_iff.mp hg.2;cases g8 eg;obtain⟨q1,q2⟩:=fI<|vz e1;simp only[xCh,decide_eq_true_eq] at h1;obtain⟨⟨⟨rfl,rfl⟩,hl⟩,hn⟩:=h1;obtain⟨cc,f',fd,s0,m1,x1,FO,bd,x2,x3,x4,x5,x6⟩:=F.x1 q2;rw[<- hK] at x3 x5 x6;obtain⟨a1,_,_⟩:=ir k i1;obtain⟨b1,b2,b3⟩:=ir k i2;obtain⟨n1,n2,_⟩:=dP hn;refine zb g (s.L F k ca i3).m (λZ E' Ex' ca'=>s.L F k.trial ca' i3) k.nd a1 ?_ b1 b2 b3 ?_ (k.gl q1) (by rw[k.hM];exact m1) (λz=>by rw[k.hM]) (dP<|ez q1).1 x5 x6 x3 ca.hs ca.hf n1 n2
  ·unfold zIg at hl;split at hl
   ·next e2=>exact k.lc e2
   ·cases hl
  ·intro z;subst z;simp at hij
def yW{st:List Stmt}(s:zHj P w base B up G lv n)(F:Fc P w base B up G lv c)(k:Cok P w base B lv c X)(ca:Cat X Ex)(h:zFs c (n+1) st=some t):FSs X B G Ex st t:=by
 change eL (cpt n) _ _=_ at h;unfold eL at h;split at h
 ·cases h;exact zc F.g
 ·next a r=>
  obtain⟨x,y,h1,h2,rfl⟩:=en h;cases h1;refine wH F.g ?_<|s.L F k ca h2;cases e:(cpt n).S c a with
  |none=>exact ml F.g
  |some z=>exact s.S F k ca e
theorem zGl:∀n,zHj P w base B up G lv n
 |0=>⟨(λ_ _ _ h=>nomatch (show none=some _ from h)),(λ_ _ _ h=>nomatch (show none=some _ from h))⟩
 |n+1=>⟨A5<|zGl n,yW<|zGl n⟩
end
structure De where
 np:Nat
 n:Nat
 t:TSx Prop
def zAo(x:Kx Prop)(k:Kv Prop):Ee Prop:={nx:=λ_ S=>k .non S,rt:=k,bk:=λ_ _=>False,ct:=λ_ _=>False,x:=λe _ S=>x e S}
noncomputable def stU(n:Nat)(vs:List U):Sg:=vs.map some++List.replicate (n-vs.length) none
def zFx(up:List<|Str×Str)(fw:Nat)(call:Nat->List U->So->Kx Prop->Kv Prop->Prop):Gx Prop:={fail:=False,fuel:=fw,prim:=λp vs S x k=>Box<|prP up p vs S k,call:=call,br:=λb p q=>Box<|if b=true then p () else q ()}
structure zEf(tab:Nat->Option De)(G:Gx Prop)(i:Nat)(vs:List U)(S:So)(x:Kx Prop)(k:Kv Prop):Prop where
 ex:∃(x':Kx Prop) (k':Kv Prop) (de:De),(∀e S,x' e S->x e S)/\(∀v S,k' v S->k v S)/\tab i=some de/\vs.length=de.np/\de.t G (stU de.n vs) S (zAo x' k')
def zAw(up:List<|Str×Str)(tab:Nat->Option De)(fw:Nat):Nat->Gx Prop
 |0=>zFx up fw λ_ _ _ _ _=>False
 |d+1=>zFx up fw<|zEf tab<|zAw up tab fw d
theorem zEj{up:List<|Str×Str}{tab:Nat->Option De}:∀d,zBs up (zAw up tab fw d)
 |0=>⟨rfl,λ_ _ _ _ _=>rfl,λ_ _ _=>rfl,λ_ _ h=>h⟩
 |d+1=>⟨rfl,λ_ _ _ _ _=>rfl,λ_ _ _=>rfl,λhx hk ⟨x',k',de,h1,h2,h3⟩=>⟨x',k',de,λe S z=>hx e S<|h1 e S z,λv S z=>hk v S<|h2 v S z,h3⟩⟩
def zHb{up:List<|Str×Str}{tab:Nat->Option De}{d i:Nat}{x:Kx Prop}{k:Kv Prop}{de:De}(e:tab i=some de)(hl:vs.length=de.np)(h:de.t (zAw up tab fw d) (stU de.n vs) S<|zAo x k):(zAw up tab fw<|d+1).call i vs S x k:=
 zEf.mk ⟨x,k,de,λ_ _ z=>z,λ_ _ z=>z,e,hl,h⟩
structure zCg(K:xFr)(x qual:Str)(st:Stmt)(f:Addr)(fd:FuncData):Prop where
 ex:∃(oc:Value) (od:Option Addr) (dv kV doc pm:Value) (an:Option Addr) (cdv ct:Value) (osl:Array (Option Value)),
  fd=PySem.W.fnOf x qual (zAf st) (zAd st) (zAb st) dv kV doc pm an cdv ct/\K.lookup f=some ⟨oc,od,.func fd,osl⟩/\PySem.W.codeIn K cdv qual=true
section
variable{P:Program}{w:World}{B:Bs}{base:Heap}{up:List<|Str×Str}{tab:Nat->Option De}{fw d i fu:Nat}{c:Ct}{x qual:Str}{st:Stmt}{f:Addr}{fd:FuncData}{N ps:List Str}{de:De}
def zCg.okX{K:xFr}{mg:Str->Option Value}{k:Nat}{sp:Sp}(F:zCg K x qual st f fd)(S:zA1 N ps<|zAb st)(len:∀vs H Q E,sp vs H Q E->vs.length=ps.length)(hbody:∀(cdv:Value)(A:Around)(outer:List Env)(s:Shared)(H:Hp)(vs:List V)(Q:VK)(E:XK),zA4 k (A.deeper<|envOfC qual (zAb st) s.heap.objs.size f cdv)->sp vs H Q E ->
   ∃t,PSs (zDu (CXo P w) P w K mg base N qual (zAb st) f cdv A outer s H E) (zAd st) t/\t {nx:=λ_ H'=>Q .non H',rt:=Q} (start N vs) H):zAv P w K mg base (CXo P w) (k+1) f fd ps sp:=by
 obtain⟨oc,od,dv,kV,doc,pm,an,cdv,ct,osl,rfl,lk,hcd⟩:=F.ex;exact Aj lk hcd S len λA outer s H vs Q E hr hsp=>hbody cdv A outer s H vs Q E hr hsp
theorem kj:∀{l:List U}{n i:Nat}{v:U},nth (l.map some++List.replicate n none) i=some v->l[i]?=some v
 |[],n,i,v,h=>by
  exfalso;rw[List.map_nil,xC6] at h;revert h;induction n generalizing i with
  |zero=>intro h;cases h
  |succ n ih=>
   cases i with
   |zero=>intro h;cases h
   |succ i=>exact ih (i:=i)
 |u::l,n,0,v,h=>h
 |u::l,n,i+1,v,h=>by simpa using kj (l:=l) (n:=n) (i:=i) h
def pF{W:Wd}{us:List U}{vs:List V}(r:Rvs B W us vs):Rg B W (stU N.length us)<|start N vs:=by
 have hl:=r.length;refine⟨?_,λi v h=>?_⟩
 ·unfold stU L2.start;rw[xAb,xAb,xAa,xAa,xCu,xCu,hl]
 ·obtain⟨u,e,ru⟩:=r.get<|kj h;refine⟨u,?_,ru⟩;unfold L2.start;have hi:i<vs.length:=(xAq.mp e).1;rw[xCm (by simpa using hi),xAw,e];rfl
def uT(F:zCg B.K x qual st f fd)(S:zA1 N ps<|zAb st)(hN:c.N=N)(hsc:c.sc=(zAb st).names)(ht:tab i=some de)(hnp:de.np=ps.length)(hn:de.n=N.length)(cp:zFs c fu (zAd st)=some de.t)(FC:Fc P w base B up (zAw up tab fw d) (2*d+1) c) :
  zAv P w B.K B.mg base (CXo P w) (2*(d+1)+1) f fd ps (spF B (zAw up tab fw<|d+1) i de.np):=by
 refine zCg.okX (k:=2*d+2) F S (λvs H Q E h=>by rw[h.1,hnp]) λcdv A outer s H vs Q E hr hsp=>?_;obtain⟨hl,W,us,S0,rs,rv,hc⟩:=hsp;obtain⟨x',k',de',hx,hk,e,hl',body⟩:=zEf.ex hc;rw[ht] at e;cases e;have ck:Cok P w base B (2*d+1) c<|zDu (CXo P w) P w B.K B.mg base N qual (zAb st) f cdv A outer s H E:=by
  refine⟨rfl,rfl,rfl,rfl,rfl,hN.symm,S.nd,λ{x} h=>?_,λ{x} h=>?_,λ{x} h=>?_,λ{x} h=>?_,rfl,hr,λ_ {x} h=>?_⟩
  ·unfold isV at h;rw[dy,hsc] at h;split at h <;> first|cases h;done|skip
   ·next e=>exact .inl e
   ·next e=>exact .inr (.inl e)
   ·next e=>exact .inr (.inr e)
  ·unfold isL at h;rw[dy,hsc] at h;split at h <;> first|cases h;done|skip
   ·next e=>exact⟨.inl e,.inl rfl⟩
   ·next e=>exact⟨.inr e,.inl rfl⟩
  ·rw[dy,hsc] at h;exact h
  ·unfold isG at h;rw[xCh,dy,hsc] at h;have h4:=h.1;split at h4
   ·next e=>exact e
   ·cases h4
  ·rw[dy,hsc] at h;exact⟨h,iK h⟩
 have fs:=(zGl fu).L FC ck lY.cat cp;refine⟨_,fs.p,W,stU N.length us,S0,rs,pF rv,?_⟩;rw[hn] at body;refine fs.m.m (E:=zAo x' k') ⟨λσ S1 z=>?_,λv S1 z=>hk v S1 z,λ_ _ z=>False.elim z,λ_ _ z=>False.elim z,λe σ S1 z=>?_⟩ body
 ·exact λW' τ H' le rs' rg=>hk _ _ z W' .non H' le rs' rfl
 ·exact λW' τ C dx H' le rx rg=>hx _ _ z W' C dx H' le rx
end
structure Row where
 x:Str
 qual:Str
 i:Nat
 st:Stmt
 ps:List Str
 N:List Str
 mu:List Str
 t:TSx Prop
structure Tb where
 gl:List (Str×Gd)
 ms:List (Str×Str×Nat×Nat)
 fl:List Str
 bl:List Str
 ini:List Str
 isc:List Str
noncomputable def Tb.ct(b:Tb)(N mu:List Str)(st:Stmt):Ct:=⟨N,(zAb st).names,b.gl,b.ms,mu,b.fl,b.bl,b.ini,b.isc,false⟩
noncomputable def zE2:List Row->Nat->Option De
 |[],_=>none
 |r::l,i=>match Nat.beq r.i i with
  |true=>some ⟨r.ps.length,r.N.length,r.t⟩
  |false=>zE2 l i
structure zEk(b:Tb)(tab:Nat->Option De)(r:Row):Prop where
 S:zA1 r.N r.ps (zAb r.st)
 cp:∃fu,zFs (b.ct r.N r.mu r.st) fu (zAd r.st)=some r.t
 ta:tab r.i=some ⟨r.ps.length,r.N.length,r.t⟩
def Dfl(B:Bs)(fd:FuncData)(ps:List Str)(np:Nat)(df:List U):Prop:=∀{n ds},dflt np n df=some ds->n+ds.length=np/\∃dvs dv,zAm B.K fd ps dv/\zAg dvs dv/\∀W,Rvs B W ds dvs
structure Pf(P:Program)(w:World)(base:Heap)(B:Bs)(up:List (Str×Str))(b:Tb)(rows:List Row):Prop where
 fn:∀{x i np df mp},zAj x b.gl=some (.fn i np df mp)->∃r f fd,r∈rows/\r.i=i/\r.ps.length=np/\B.mg x=some (.ref f)/\PySem.W.keepIn B.K (.ref f)=true/\zCg B.K r.x r.qual r.st f fd/\Dfl B fd r.ps np df
 cl:∀{x i np df},zAj x b.gl=some (.cl i np df)->∃r cc f fd,r∈rows/\r.i=i/\r.ps.length=np/\B.cl x cc/\B.mg x=some (.ref cc)/\Mk B.K cc f/\zCg B.K r.x r.qual r.st f fd/\Dfl B fd r.ps np df/\(x∈b.isc->zFz B up x cc) /\
  (x∈b.ini->zAm B.K fd r.ps []/\∃mc,PySem.W.specialIn B.K (.ref cc) "__getattribute__"=some (some (.builtin "type.__getattribute__"))/\PySem.W.readsIn B.K cc mc=true/\PySem.W.findCls B.K (.ref cc) mc "__init__"=some (.val (.ref f))/\PySem.W.handedIn (.ref f)=true/\PySem.W.keepIn B.K (.ref f)=true)
 ms:∀{m C i np},zAj m b.ms=some (C,i,np)->∃r cc f fd,r∈rows/\r.i=i/\r.ps.length=np/\(∀c',B.cl C c'->c'=cc)/\Cls B.K cc/\zEc B.K cc m f/\zCg B.K r.x r.qual r.st f fd/\zAm B.K fd r.ps []
 con:∀{x u},zAj x b.gl=some (.con u)->∃v val,B.mg x=some val/\zAi v val/\∀W,Rv B W u v
 x0:∀{x},zAj x b.gl=some (.xc [])->∃cc,B.mg x=some (.ref cc)/\PySem.W.excIn B.K cc bmV "ValueError.__new__"=true/\zCv B.K cc=true/\PySem.W.keepIn B.K (.ref cc)=true
 x1:∀{x f},zAj x b.gl=some (.xc [f])->∃cc f' fd s0,B.mg x=some (.ref cc)/\XMk B.K cc f'/\zAv P w B.K B.mg base (CXo P w) 1 f' fd [s0,f] (zE1 B.K f)/\zAm B.K fd [s0,f] []/\XSt B.K cc/\zAr B.K cc f/\zCv B.K cc=true/\zBd B.K cc cc/\XGt B.K cc
 bl:∀{x},x∈b.bl->B.mg x=none
 k1:zCq B "int"
 k2:zCq B "bool"
 k3:zCq B "str"
 k4:zCq B "tuple"
 clf:ClF B b.fl
 clt:ClT B
 kdf:KdF w B
section
variable{P:Program}{w:World}{base:Heap}{B:Bs}{up:List<|Str×Str}{b:Tb}{rows:List Row}{tab:Nat->Option De}{fw:Nat}
def zBn(rc:∀r∈rows,zEk b tab r)(hr:r∈rows){f:Addr}(F:zCg B.K r.x r.qual r.st f fd):∀d,(∀N mu st,Fc P w base B up (zAw up tab fw d) (2*d+1)<|b.ct N mu st)->zAv P w B.K B.mg base (CXo P w) (2*(d+1)+1) f fd r.ps (spF B (zAw up tab fw<|d+1) r.i r.ps.length):=λd h=>
 let ⟨S,⟨_,cp⟩,ta⟩:=rc r hr
 uT (c:=b.ct r.N r.mu r.st) F S rfl rfl ta rfl rfl cp (h _ _ _)
def zf{f:Addr}:zAv P w B.K B.mg base (CXo P w) (2*0+1) f fd r.ps<|spF B (zAw up tab fw 0) r.i r.ps.length:=
 ⟨λ_ _ _ _ h=>h.1,λ_ _ _ _ _ _ _ _ _ _ _ _ _ h=>by obtain⟨_,_,_,_,_,_,h⟩:=h;exact False.elim h⟩
def vZ(p:Pf P w base B up b rows)(rc:∀r∈rows,zEk b tab r)(d:Nat)(ok:∀{r:Row}{f:Addr}{fd:FuncData},r∈rows->zCg B.K r.x r.qual r.st f fd->zAv P w B.K B.mg base (CXo P w) (2*d+1) f fd r.ps (spF B (zAw up tab fw d) r.i r.ps.length))(N mu:List Str)(st:Stmt):Fc P w base B up (zAw up tab fw d) (2*d+1) (b.ct N mu st) where
 g:=zEj d
 fn:=λh=>by
  obtain⟨r,f,fd,hr,rfl,rfl,h1,h2,F,hd⟩:=p.fn h;exact⟨f,fd,r.ps,h1,h2,ok hr F,hd⟩
 cl:=λh=>by
  obtain⟨r,cc,f,fd,hr,rfl,rfl,h1,h2,h3,F,hd,h4,h5⟩:=p.cl h;exact⟨cc,f,fd,r.ps,h1,h2,h3,ok hr F,hd,h4,h5⟩
 ms:=λh=>by
  obtain⟨r,cc,f,fd,hr,rfl,rfl,h1,h2,h3,F,hd⟩:=p.ms h;exact⟨cc,f,fd,r.ps,h1,h2,h3,ok hr F,hd⟩
 con:=p.con
 x0:=p.x0
 x1:=λh=>by
  obtain⟨cc,f',fd,s0,h1,h2,F,h3⟩:=p.x1 h;exact⟨cc,f',fd,s0,h1,h2,F.mono (by lia),h3⟩
 bl:=p.bl
 k1:=p.k1
 k2:=p.k2
 k3:=p.k3
 k4:=p.k4
 clf:=p.clf
 clt:=p.clt
 kdf:=p.kdf
theorem rN(p:Pf P w base B up b rows)(rc:∀r∈rows,zEk b tab r):∀(d:Nat)(N mu:List Str)(st:Stmt),Fc P w base B up (zAw up tab fw d) (2*d+1) (b.ct N mu st)
 |0=>vZ p rc 0 λ_ _=>zf
 |d+1=>vZ p rc (d+1) λhr F=>zBn rc hr F d<|rN p rc d
def yN(p:Pf P w base B up b rows)(rc:∀r∈rows,zEk b tab r)(hr:r∈rows){f:Addr}(F:zCg B.K r.x r.qual r.st f fd)(d:Nat):zAv P w B.K B.mg base (CXo P w) (2*(d+1)+1) f fd r.ps<|spF B (zAw up tab fw<|d+1) r.i r.ps.length:=zBn rc hr F d<|rN p rc d
end
noncomputable def zIh:Option NameKind->Bool
 |some .local=>true
 |some .cell=>true
 |_=>false
noncomputable def zD4:NameKind->Bool
 |.free=>false
 |_=>true
noncomputable def eqL:List Str->List Str->Bool
 |[],[]=>true
 |x::r,y::s=>decide (x=y)&&eqL r s
 |_,_=>false
theorem se:∀{a b:List Str},eqL a b=true->a=b
 |[],[],_=>rfl
 |[],_::_,h=>by cases h
 |_::_,[],h=>by cases h
 |x::r,y::s,h=>by
  simp only[eqL,xCh,decide_eq_true_eq] at h;rw[h.1,se h.2]
noncomputable def scB(N ps:List Str)(sc:Scope):Bool:=decide (sc.kind=.function)&&(!sc.isCoroutine&&(!sc.isGenerator&&(zA5 N&&(eqL (N.take ps.length) ps&&(ps.all (λx=>zIh<|zAj x sc.names)&&sc.names.all λy=>zD4 y.2)))))
def pM{N ps:List Str}{sc:Scope}(h:scB N ps sc=true):zA1 N ps sc:=by
 simp only[scB,xCh,Bool.not_eq_true'] at h;obtain⟨h1,h2,h3,h4,h5,h6,h7⟩:=h;refine⟨xBe h1,h2,h3,fh h4,se h5,λx hx=>?_,λy hy e=>?_⟩
 ·have:=xCx.mp h6 x hx;rw[dy] at this;unfold zIh at this;split at this
  ·next e=>exact .inl e
  ·next e=>exact .inr e
  ·cases this
 ·have:=xCx.mp h7 y hy;rw[e] at this;cases this
def zJn{b:Tb}{tab:Nat->Option De}(h1:scB r.N r.ps (zAb r.st)=true)(h2:zFs (b.ct r.N r.mu r.st) 100 (zAd r.st)=some r.t)(h3:tab r.i=some ⟨r.ps.length,r.N.length,r.t⟩):zEk b tab r:=⟨pM h1,⟨_,h2⟩,h3⟩
def alln{p:α->Prop}:∀x∈([]:List α),p x:=λ_ h=>nomatch h
def allc{p:α->Prop}{a:α}{l:List α}(h:p a)(r:∀x∈l,p x):∀x∈a::l,p x:=List.forall_mem_cons.mpr ⟨h,r⟩
def eQ{v:α}{l:List<|Str×α}(h:zAj x l=some v):(x,v)∈l:=dY (by rw[<- dy];exact h)
noncomputable def mkB(K:xFr)(mg:Str->Option Value)(cls:List<|Str×Addr)(kds:List<|Addr×List (Str×U)×List Str):Bs:=⟨K,mg,λp kvs no=>(p,kvs,no)∈kds,λC c=>(C,c)∈cls⟩
noncomputable def zFk{α:Type}:Option (Option α)->Bool
 |some none=>true
 |_=>false
def jI{o:Option<|Option α}(h:zFk o=true):o=some none:=by
 unfold zFk at h;split at h
 ·rfl
 ·cases h
noncomputable def zBu(K:xFr)(C:Addr)(fl:List Str):Bool:=fl.all λf=>zFk<|PySem.W.findIn K (.ref C) f
noncomputable def mgB(K:xFr)(l:List Str):Bool:=l.all λx=>zFk<|PySem.W.nsIn K mainGlobals x
noncomputable def nsB(K:xFr)(p:Addr)(l:List Str):Bool:=l.all λx=>zFk<|PySem.W.nsIn K p x
noncomputable def eqO:Option Bool->Bool->Bool
 |some true,true=>true
 |some false,false=>true
 |_,_=>false
def jN{o:Option Bool}{b:Bool}(h:eqO o b=true):o=some b:=by
 unfold eqO at h;split at h <;> first|rfl|cases h
noncomputable def zCs(K:xFr)(n:String)(cls:List<|Str×Addr):Bool:=(tys.all λt=>eqO (PySem.W.kitOne K (.type t)<|.type n)<|zFj t n)&&cls.all λc=>eqO (PySem.W.kitOne K (.ref c.2)<|.type n)<|zFj "object" n
noncomputable def zC8(K:xFr)(up:List<|Str×Str)(D:Str)(d:Addr)(cls:List<|Str×Addr):Bool:=(tys.all λt=>eqO (PySem.W.kitOne K (.type t)<|.ref d) false)&&cls.all λc=>eqO (PySem.W.kitOne K (.ref c.2)<|.ref d)<|isC up c.1 D
section
variable{K:xFr}{mg:Str->Option Value}{cls:List<|Str×Addr}{kds:List<|Addr×List (Str×U)×List Str}{up:List<|Str×Str}
def zF7{n:String}(h:zCs K n cls=true):zCq (mkB K mg cls kds) n:=by
 simp only[zCs,xCh,xCx] at h;exact⟨λt ht=>jN<|h.1 t ht,λ{C c} hc=>jN<|h.2 (C,c) hc⟩
def zJv{D:Str}{d:Addr}(h:zC8 K up D d cls=true):zFz (mkB K mg cls kds) up D d:=by
 simp only[zC8,xCh,xCx] at h;exact⟨λt ht=>jN<|h.1 t ht,λ{C c} hc=>jN<|h.2 (C,c) hc⟩
def clF{fl:List Str}(h1:∀p∈cls,Cls K p.2)(h2:∀p∈cls,zBu K p.2 fl=true):ClF (mkB K mg cls kds) fl:=⟨λ{C c} hc=>h1 (C,c) hc,λ{C c f} hc hf=>jI<|xCx.mp (h2 (C,c) hc) f hf⟩
structure zEd(K:xFr)(x qual:Str)(st:Stmt)(f:Addr)(fd:FuncData)(ds:List Value):Prop where
 ex:∃(oc:Value) (od:Option Addr) (T:Addr) (kV doc pm:Value) (an:Option Addr) (cdv ct:Value) (osl:Array (Option Value)) (oT:Obj) (n:Nat),
  fd=PySem.W.fnOf x qual (zAf st) (zAd st) (zAb st) (.ref T) kV doc pm an cdv ct/\K.lookup f=some ⟨oc,od,.func fd,osl⟩/\PySem.W.codeIn K cdv qual=true/\K.lookup T=some oT/\oT.data=.seq ds.toArray n
variable{x qual:Str}{st:Stmt}{f:Addr}{fd:FuncData}{ps:List Str}{ds es:List Value}
def zEd.fa(F:zEd K x qual st f fd ds):zCg K x qual st f fd:=by
 obtain⟨oc,od,T,kV,doc,pm,an,cdv,ct,osl,oT,n,e,lk,hcd,_⟩:=F.ex;exact⟨oc,od,_,kV,doc,pm,an,cdv,ct,osl,e,lk,hcd⟩
def Fun.fa(F:Fun K x qual st f fd):zCg K x qual st f fd:=by
 obtain⟨oc,od,kV,doc,pm,an,cdv,ct,osl,e,lk,hcd⟩:=F.ex;exact⟨oc,od,_,kV,doc,pm,an,cdv,ct,osl,e,lk,hcd⟩
def zEd.binds(F:zEd K x qual st f fd ds)(h:∀(T:Addr)(kV doc pm:Value)(an:Option Addr)(cdv ct:Value)(us:List Value),(us++es).length=ps.length ->
   ∃k,bindArgs (PySem.W.fnOf x qual (zAf st) (zAd st) (zAb st) (.ref T) kV doc pm an cdv ct) ⟨us,[]⟩=(seqItems? (.ref T)>>=k)/\k (some ds.toArray)=pure (ps.zip<|us++es)):zAm K fd ps es:=by
 obtain⟨oc,od,T,kV,doc,pm,an,cdv,ct,osl,oT,n,rfl,lk,hcd,lT,dT⟩:=F.ex;intro s us KX hl;obtain⟨k,e1,e2⟩:=h T kV doc pm an cdv ct us hl;exact PySem.W.binds_K KX rfl lT dT e1 e2
def BdC(r:Row):Prop:=∀(kV doc pm:Value)(an:Option Addr)(cdv ct:Value)(us:List Value),us.length=r.ps.length->bindArgs (PySem.W.fnOf r.x r.qual (zAf r.st) (zAd r.st) (zAb r.st) .none kV doc pm an cdv ct) ⟨us,[]⟩=pure (r.ps.zip us)
def BdD(r:Row):Prop:=∀(d:Value)(T:Addr)(kV doc pm:Value)(an:Option Addr)(cdv ct:Value)(us es:List Value),(us++es).length=r.ps.length->es=[]\/es=[d] ->
 ∃k,bindArgs (PySem.W.fnOf r.x r.qual (zAf r.st) (zAd r.st) (zAb r.st) (.ref T) kV doc pm an cdv ct) ⟨us,[]⟩=(seqItems? (.ref T)>>=k)/\k (some #[d])=pure (r.ps.zip<|us++es)
def zIn(F:Fun K r.x r.qual r.st f fd)(b:BdC r):Dfl (mkB K mg cls kds) fd r.ps r.ps.length []:=λ{n ds} h=>by
 obtain⟨rfl,e⟩:=zFr h;exact⟨by simpa using e,[],[],F.binds b,.nil,λ_=>rfl⟩
def zIm{u:U}{v:V}{d:Value}(F:zEd K r.x r.qual r.st f fd [d])(b:BdD r)(rv:zAi v d)(ru:∀W,Rv (mkB K mg cls kds) W u v):Dfl (mkB K mg cls kds) fd r.ps r.ps.length [u]:=λ{n ds} h=>by
 unfold dflt at h;split at h
 ·next e=>
  cases h;by_cases q:n=r.ps.length
  ·subst q;simp only[xAo,List.length_nil,Nat.sub_self,Nat.sub_zero];exact⟨rfl,[],[],F.binds λT kV doc pm an cdv ct us hl=>b d T kV doc pm an cdv ct us [] hl<|.inl rfl,.nil,λ_=>rfl⟩
  ·have h1:r.ps.length-n=1:=by have:=e.1;have:=e.2;simp at this;lia
   rw[h1];refine⟨by have:=e.1;simp;lia,[v],[d],F.binds λT kV doc pm an cdv ct us hl=>b d T kV doc pm an cdv ct us [d] hl<|.inr rfl,.cons rv .nil,λW=>⟨v,[],rfl,ru W,rfl⟩⟩
 ·cases h
end
def zDb(P:Program)(w:World)(base:Heap)(B:Bs)(up:List<|Str×Str)(b:Tb)(rows:List Row):Str×Gd->Prop
 |(x,.fn i np df _)=>∃r f fd,r∈rows/\r.i=i/\r.ps.length=np/\B.mg x=some (.ref f)/\PySem.W.keepIn B.K (.ref f)=true/\zCg B.K r.x r.qual r.st f fd/\Dfl B fd r.ps np df
 |(x,.cl i np df)=>∃r cc f fd,r∈rows/\r.i=i/\r.ps.length=np/\B.cl x cc/\B.mg x=some (.ref cc)/\Mk B.K cc f/\zCg B.K r.x r.qual r.st f fd/\Dfl B fd r.ps np df/\(x∈b.isc->zFz B up x cc) /\
  (x∈b.ini->zAm B.K fd r.ps []/\∃mc,PySem.W.specialIn B.K (.ref cc) "__getattribute__"=some (some<|.builtin "type.__getattribute__")/\PySem.W.readsIn B.K cc mc=true/\PySem.W.findCls B.K (.ref cc) mc "__init__"=some (.val<|.ref f)/\PySem.W.handedIn (.ref f)=true/\PySem.W.keepIn B.K (.ref f)=true)
 |(x,.xc [])=>∃cc,B.mg x=some (.ref cc)/\PySem.W.excIn B.K cc bmV "ValueError.__new__"=true/\zCv B.K cc=true/\PySem.W.keepIn B.K (.ref cc)=true
 |(x,.xc [f])=>∃cc f' fd s0,B.mg x=some (.ref cc)/\XMk B.K cc f'/\zAv P w B.K B.mg base (CXo P w) 1 f' fd [s0,f] (zE1 B.K f)/\zAm B.K fd [s0,f] []/\XSt B.K cc/\zAr B.K cc f/\zCv B.K cc=true/\zBd B.K cc cc/\XGt B.K cc
 |(_,.xc _)=>True
 |(x,.con u)=>∃v val,B.mg x=some val/\zAi v val/\∀W,Rv B W u v
def zHl(B:Bs)(rows:List Row)(p:Str×Str×Nat×Nat):Prop:=∃r cc f fd,r∈rows/\r.i=p.2.2.1/\r.ps.length=p.2.2.2/\(∀c',B.cl p.2.1 c'->c'=cc)/\Cls B.K cc/\zEc B.K cc p.1 f/\zCg B.K r.x r.qual r.st f fd/\zAm B.K fd r.ps []
def zp{P:Program}{w:World}{base:Heap}{up:List<|Str×Str}{b:Tb}{rows:List Row}(h1:∀p∈b.gl,zDb P w base B up b rows p)(h2:∀p∈b.ms,zHl B rows p)(h3:∀x∈b.bl,B.mg x=none)(k1:zCq B "int")(k2:zCq B "bool")(k3:zCq B "str")(k4:zCq B "tuple")(clf:ClF B b.fl)(clt:ClT B)(kdf:KdF w B):Pf P w base B up b rows where
 fn:=λh=>h1 _<|eQ h
 cl:=λh=>h1 _<|eQ h
 ms:=λh=>h2 _<|eQ h
 con:=λh=>h1 _<|eQ h
 x0:=λh=>h1 _<|eQ h
 x1:=λh=>h1 _<|eQ h
 bl:=λh=>h3 _ h
 k1:=k1
 k2:=k2
 k3:=k3
 k4:=k4
 clf:=clf
 clt:=clt
 kdf:=kdf
def DnR(K:xFr)(r:Row):Prop:=∃(f:Addr) (fd:FuncData),PySem.W.nsIn K mainGlobals r.x=some (some<|.ref f)/\Fun K r.x r.qual r.st f fd
def DnD(K:xFr)(r:Row)(d:Value):Prop:=∃(f:Addr) (fd:FuncData),PySem.W.nsIn K mainGlobals r.x=some (some<|.ref f)/\PySem.W.keepIn K (.ref f)=true/\zEd K r.x r.qual r.st f fd [d]
def MdR(K:xFr)(C:Addr)(r:Row):Prop:=∃(f:Addr) (fd:FuncData),PySem.W.findIn K (.ref C) r.x=some (some<|.ref f)/\PySem.W.isFn K (.ref f)=true/\PySem.W.keepIn K (.ref f)=true/\Fun K r.x r.qual r.st f fd
def MdD(K:xFr)(C:Addr)(r:Row)(d:Value):Prop:=∃(f:Addr) (fd:FuncData),PySem.W.findIn K (.ref C) r.x=some (some<|.ref f)/\PySem.W.isFn K (.ref f)=true/\PySem.W.keepIn K (.ref f)=true/\zEd K r.x r.qual r.st f fd [d]
section
variable{K:xFr}{f T C:Addr}{oc kV dc pm cd ct:Value}{od an:Option Addr}{sl:Array<|Option Value}{nm q:Str}{st:Stmt}{m:Str}{i:Nat}{ps N mu:List Str}{t:TSx Prop}{d:Value}{oT:Obj}{n:Nat}
def dnr(h0:PySem.W.nsIn K mainGlobals nm=some (some<|.ref f))(h1:K.lookup f=some ⟨oc,od,.func<|PySem.W.fnOf nm q (zAf st) (zAd st) (zAb st) .none kV dc pm an cd ct,sl⟩)(h2:PySem.W.codeIn K cd q=true)(h3:PySem.W.keepIn K (.ref f)=true):DnR K ⟨nm,q,i,st,ps,N,mu,t⟩:=⟨f,_,h0,lM h1 h2 h3⟩
def mdr(h0:PySem.W.findIn K (.ref C) m=some (some<|.ref f))(h4:PySem.W.isFn K (.ref f)=true)(h1:K.lookup f=some ⟨oc,od,.func<|PySem.W.fnOf m q (zAf st) (zAd st) (zAb st) .none kV dc pm an cd ct,sl⟩)(h2:PySem.W.codeIn K cd q=true)(h3:PySem.W.keepIn K (.ref f)=true):MdR K C ⟨m,q,i,st,ps,N,mu,t⟩:=⟨f,_,h0,h4,h3,lM h1 h2 h3⟩
def dnd(h0:PySem.W.nsIn K mainGlobals nm=some (some<|.ref f))(h1:K.lookup f=some ⟨oc,od,.func<|PySem.W.fnOf nm q (zAf st) (zAd st) (zAb st) (.ref T) kV dc pm an cd ct,sl⟩)(h2:PySem.W.codeIn K cd q=true)(h3:PySem.W.keepIn K (.ref f)=true)(h5:K.lookup T=some oT)(h6:oT.data=.seq #[d] n):DnD K ⟨nm,q,i,st,ps,N,mu,t⟩ d:=⟨f,_,h0,h3,⟨oc,od,T,kV,dc,pm,an,cd,ct,sl,oT,n,rfl,h1,h2,h5,h6⟩⟩
def mdd(h0:PySem.W.findIn K (.ref C) m=some (some<|.ref f))(h4:PySem.W.isFn K (.ref f)=true)(h1:K.lookup f=some ⟨oc,od,.func<|PySem.W.fnOf m q (zAf st) (zAd st) (zAb st) (.ref T) kV dc pm an cd ct,sl⟩)(h2:PySem.W.codeIn K cd q=true)(h3:PySem.W.keepIn K (.ref f)=true)(h5:K.lookup T=some oT)(h6:oT.data=.seq #[d] n):MdD K C ⟨m,q,i,st,ps,N,mu,t⟩ d:=⟨f,_,h0,h4,h3,⟨oc,od,T,kV,dc,pm,an,cd,ct,sl,oT,n,rfl,h1,h2,h5,h6⟩⟩
end
section
variable{P:Program}{w:World}{base h:Heap}{K:xFr}{mg:Str->Option Value}{cls:List<|Str×Addr}{kds:List<|Addr×List (Str×U)×List Str}{up:List<|Str×Str}{b:Tb}{rows:List Row}{r:Row}{mp:List Bool}{x C:Str}{cc a:Addr}{i:Int}{tk:Tok}
def du(X:K.In h)(G:h.Ns mainGlobals mg)(d:DnR K r)(hr:r∈rows)(bd:BdC r):zDb P w base (mkB K mg cls kds) up b rows (r.x,.fn r.i r.ps.length [] mp):=
 let ⟨f,fd,h0,F⟩:=d
 ⟨r,f,fd,hr,rfl,rfl,PySem.W.mg_of X G h0,F.kp,Fun.fa F,zIn F bd⟩
def ya{i:Int}{tk:Tok}(X:K.In h)(G:h.Ns mainGlobals mg)(d:DnD K r<|.int i tk)(hr:r∈rows)(bd:BdD r):zDb P w base (mkB K mg cls kds) up b rows (r.x,.fn r.i r.ps.length [.int i] mp):=
 let ⟨f,fd,h0,kp,F⟩:=d
 ⟨r,f,fd,hr,rfl,rfl,PySem.W.mg_of X G h0,kp,F.fa,zIm (u:=.int i) (v:=.int i) F bd ⟨_,rfl⟩ λ_=>rfl⟩
structure CsR(K:xFr)(C:Addr)(n:Str):Prop where
 at_:PySem.W.nsIn K mainGlobals n=some (some (.ref C))
 cls:Cls K C
 mks:PySem.W.makesIn K C=true
 kp:PySem.W.keepIn K (.ref C)=true
 ha:PySem.W.findIn K (.ref C) "__class__"=some (some (.builtin "object.__class__"))
 hm:PySem.W.mroIn K C (.type "object")=some true
def zI3(K:xFr)(cc:Addr):Prop:=∃mc,PySem.W.specialIn K (.ref cc) "__getattribute__"=some (some<|.builtin "type.__getattribute__")/\PySem.W.readsIn K cc mc=true/\∀f,PySem.W.findIn K (.ref cc) "__init__"=some (some<|.ref f)->PySem.W.findCls K (.ref cc) mc "__init__"=some (.val<|.ref f)/\PySem.W.handedIn (.ref f)=true
def iC(X:K.In h)(G:h.Ns mainGlobals mg)(c:CsR K cc C)(d:MdR K cc r)(hx:r.x="__init__")(hr:r∈rows)(hc:(C,cc)∈cls)(bd:BdC r)(hk:C∈b.isc->zC8 K up C cc cls=true)(hi:C∈b.ini->zI3 K cc):zDb P w base (mkB K mg cls kds) up b rows (C,.cl r.i r.ps.length []):=by
 obtain⟨f,fd,h0,h1,kp,F⟩:=d;have h0':PySem.W.findIn K (.ref cc) "__init__"=some (some<|.ref f):=by rw[<- hx];exact h0
 refine⟨r,cc,f,fd,hr,rfl,rfl,hc,PySem.W.mg_of X G c.at_,⟨c.mks,h0',h1,c.kp⟩,Fun.fa F,zIn F bd,λz=>zJv<|hk z,λz=>?_⟩;obtain⟨mc,e1,e2,e3⟩:=hi z;exact⟨F.binds bd,mc,e1,e2,(e3 f h0').1,(e3 f h0').2,kp⟩
def yc(X:K.In h)(G:h.Ns mainGlobals mg)(c:CsR K cc C)(d:MdD K cc r<|.int i tk)(hx:r.x="__init__")(hr:r∈rows)(hc:(C,cc)∈cls)(bd:BdD r)(hk:C∉b.isc)(hi:C∉b.ini):zDb P w base (mkB K mg cls kds) up b rows (C,.cl r.i r.ps.length [.int i]):=by
 obtain⟨f,fd,h0,h1,kp,F⟩:=d;have h0':PySem.W.findIn K (.ref cc) "__init__"=some (some<|.ref f):=by rw[<- hx];exact h0
 exact⟨r,cc,f,fd,hr,rfl,rfl,hc,PySem.W.mg_of X G c.at_,⟨c.mks,h0',h1,c.kp⟩,F.fa,zIm (u:=.int i) (v:=.int i) F bd ⟨_,rfl⟩ λ_=>rfl,λz=>absurd z hk,λz=>absurd z hi⟩
theorem uniq:∀{cls:List<|Str×Addr}{C:Str}{c c':Addr},zA5 (cls.map (·.1))=true->(C,c)∈cls->(C,c')∈cls->c'=c:=λ{cls C c c'} nd h1 h2=>by
 have nd:=fh nd;clear ‹zA5 _=true›;induction cls with
 |nil=>cases h1
 |cons p r ih=>
  rw[xBs,xCb] at nd;rcases xAv.mp h1 with e1|h1 <;> rcases xAv.mp h2 with e2|h2
  ·rw[<- e1] at e2;cases e2;rfl
  ·exact absurd (xA2.mpr ⟨_,h2,by rw[<- e1]⟩) nd.1
  ·exact absurd (xA2.mpr ⟨_,h1,by rw[<- e2]⟩) nd.1
  ·exact ih h1 h2 nd.2
def eF(nd:zA5 (cls.map (·.1))=true)(c:CsR K cc C)(d:MdR K cc r)(hr:r∈rows)(hc:(C,cc)∈cls)(bd:BdC r):zHl (mkB K mg cls kds) rows (r.x,C,r.i,r.ps.length):=
 let ⟨f,fd,h0,h1,kp,F⟩:=d
 ⟨r,cc,f,fd,hr,rfl,rfl,λc' h=>uniq nd hc h,c.cls,⟨h0,h1,kp⟩,Fun.fa F,F.binds bd⟩
def iB(X:K.In h)(G:h.Ns mainGlobals mg)(e:PySem.W.nsIn K mainGlobals x=some (some<|.int i tk)):zDb P w base (mkB K mg cls kds) up b rows (x,.con<|.int i):=⟨.int i,_,PySem.W.mg_of X G e,⟨_,rfl⟩,λ_=>rfl⟩
def x9{z:Str}(X:K.In h)(G:h.Ns mainGlobals mg)(e:PySem.W.nsIn K mainGlobals x=some (some<|.str z tk)):zDb P w base (mkB K mg cls kds) up b rows (x,.con<|.str z):=⟨.str z,_,PySem.W.mg_of X G e,⟨_,rfl⟩,λ_=>rfl⟩
theorem gL{B:Bs}{W:Wd}{β:Type}{f:β->U}{g:β->V}(h:∀x,Rv B W (f x)<|g x):∀(l:List β),Rvs B W (l.map f) (l.map g)
 |[]=>rfl
 |x::l=>⟨g x,l.map g,rfl,h x,gL h l⟩
def xL{l:List Str}(h:∀H,SqT B.K H a<|l.map .str)(W:Wd):Rv B W (.kt<|l.map .str)<|.ref a:=⟨a,_,rfl,h,gL (f:=U.str) (g:=V.str) (λ_=>rfl) l⟩
def xM{l:List Int}(h:∀H,SqT B.K H a<|l.map .int)(W:Wd):Rv B W (.kt<|l.map .int)<|.ref a:=⟨a,_,rfl,h,gL (f:=U.int) (g:=V.int) (λ_=>rfl) l⟩
def nk{u:U}(X:K.In h)(G:h.Ns mainGlobals mg)(e:PySem.W.nsIn K mainGlobals x=some (some<|.ref a))(r:∀W,Rv (mkB K mg cls kds) W u<|.ref a):zDb P w base (mkB K mg cls kds) up b rows (x,.con u):=⟨.ref a,_,PySem.W.mg_of X G e,rfl,r⟩
def rp{kvs:List<|Str×U}{no:List Str}(X:K.In h)(G:h.Ns mainGlobals mg)(e:PySem.W.nsIn K mainGlobals x=some (some<|.ref a))(hd:(a,kvs,no)∈kds):zDb P w base (mkB K mg cls kds) up b rows (x,.con<|.kd kvs no):=⟨.ref a,_,PySem.W.mg_of X G e,rfl,λ_=>⟨a,rfl,hd⟩⟩
structure zI2(w:World)(B:Bs)(q:Addr×List (Str×U)×List Str):Prop where
 d:KD w B.K q.1
 y:∀e∈q.2.1,∃u val,PySem.W.nsIn B.K q.1 e.1=some (some val)/\zAi u val/\∀W,Rv B W e.2 u
 n:nsB B.K q.1 q.2.2=true
def kdF(hq:∀q∈kds,zI2 w (mkB K mg cls kds) q):KdF w<|mkB K mg cls kds:=
 ⟨λ{p kvs no} hd=>(hq _ hd).d,λ{p kvs no x v} hd hy=>(hq _ hd).y _<|eQ hy,λ{p kvs no x} hd hx=>jI<|xCx.mp (hq _ hd).n x hx⟩
def clT(h1:∀p∈cls,Cls K p.2/\PySem.W.findIn K (.ref p.2) "__class__"=some (some<|.builtin "object.__class__")/\PySem.W.mroIn K p.2 (.type "object")=some true)(hn:PySem.W.specialIn K (.builtin "object.__class__") "__get__"=some (some<|.builtin "getset_descriptor.__get__"))(htk:PySem.W.takesIn K (.builtin "object.__class__")=some true):ClT<|mkB K mg cls kds:=
 ⟨λ{C c H a dx fs} hc e=>let ⟨c1,c2,c3⟩:=h1 (C,c) hc;.ins e c1 c2 hn htk c3⟩
def zDh(K:xFr)(n:Nat):Sp:=λvs H Q _=>∃(a:Addr) (ns:List Int),vs=[.ref a]/\ns.length<=n/\SqL K H a (ns.map V.int)/\∀H',Q (.bl true) H'
def xJ{G:Gx Prop}{i:Nat}(g:zBs up G)(math:∀ns:List Int,ns.length<=n->G.call i [.kl<|ns.map U.int] [] (λ_ _=>False) (λv _=>v=.bl true)):∀vs H Q E,zDh B.K n vs H Q E->spF B G i 1 vs H Q E:=λvs H Q E zz=>by
 obtain⟨a,ns,e,hl,hs,q⟩:=zz;subst e;refine⟨rfl,⟨H,[],[]⟩,[.kl<|ns.map U.int],[],⟨λ_ _ h=>h,rfl,λ_ _ _ h=>(by cases h),λ_ _ h=>(by cases h),λ_ h=>(by cases h)⟩,⟨.ref a,[],rfl,⟨a,ns.map V.int,rfl,hs,gL (f:=U.int) (g:=V.int) (λ_=>rfl) ns⟩,rfl⟩,?_⟩;refine g.call (λ_ _ z=>z.elim) (λv S z=>?_)<|math ns hl;subst z;exact λW' u H' le rs rv=>by rw[show u=.bl true from rv];exact q H'
end
section
variable{P:Program}{w:World}{base h:Heap}{K:xFr}{mg:Str->Option Value}{cls:List<|Str×Addr}{kds:List<|Addr×List (Str×U)×List Str}{up:List<|Str×Str}{b:Tb}{rows:List Row}{x qual s0 fld:Str}{a f:Addr}{fd:FuncData}{st:Stmt}
def yO{p1 p2:Pos}(F:zCg K x qual st f fd)(hb:zAd st=[.Assign [.Attribute (.Name s0 p1) fld p2] (.Name fld p3) p4])(S:zA1 [s0,fld] [s0,fld]<|zAb st)(h1:okN s0=true)(h2:okN fld=true):zAv P w K mg base (CXo P w) 1 f fd [s0,fld]<|zE1 K fld:=by
 refine F.okX S (λvs H Q E h=>?_) λcdv A outer s H vs Q E hr h=>?_
 ·obtain⟨e,C,v,rfl,_⟩:=h;rfl
 ·obtain⟨e,C,v,rfl,he,xs,na,q⟩:=h;obtain⟨n1,n2,_⟩:=dP h1;obtain⟨n3,n4,_⟩:=dP h2;have v1:Vis (zAb st) s0:=(S.par s0<|by simp).imp id .inl;have v2:Vis (zAb st) fld:=(S.par fld<|by simp).imp id .inl;rw[hb];refine⟨_,mw<|tN (jz (i:=0) rfl v1 n1 n2) (jz (i:=1) rfl v2 n3 n4) rfl,?_⟩;exact⟨_,rfl,_,rfl,e,C,rfl,he,xs,na,λdx hd=>q dx hd⟩
def Af{p1 p2:Pos}(X:K.In h)(G:h.Ns mainGlobals mg)(e:PySem.W.nsIn K mainGlobals x=some (some<|.ref a))(c:XC K a)(na:PySem.W.findIn K (.ref a) fld=some none)(me:PySem.W.mroIn K a (.ref a)=some true)(i0:PySem.W.findIn K (.ref a) "__init__"=some (some<|.ref f))(i1:PySem.W.isFn K (.ref f)=true)(F:Fun K "__init__" qual st f fd)(hb:zAd st=[.Assign [.Attribute (.Name s0 p1) fld p2] (.Name fld p3) p4])(S:zA1 [s0,fld] [s0,fld]<|zAb st)(h1:okN s0=true)(h2:okN fld=true)(bd:∀(kV doc pm:Value)(an:Option Addr)(cdv ct:Value)(us:List Value),us.length=[s0,fld].length->bindArgs (PySem.W.fnOf "__init__" qual (zAf st) (zAd st) (zAb st) .none kV doc pm an cdv ct) ⟨us,[]⟩=pure ([s0,fld].zip us)):zDb P w base (mkB K mg cls kds) up b rows (x,.xc [fld]):=
 ⟨a,f,fd,s0,PySem.W.mg_of X G e,c.mkx i0 i1,yO (Fun.fa F) hb S h1 h2,F.binds bd,c.st,na,c.f,⟨c.f,c.f,me⟩,c.gt⟩
end
def zIs{a b c:Str}(hp:r.ps=[a,b,c])(h3:∀(d:Value)(T:Addr)(kV doc pm:Value)(an:Option Addr)(cdv ct x y z:Value),∃k,bindArgs (PySem.W.fnOf r.x r.qual (zAf r.st) (zAd r.st) (zAb r.st) (.ref T) kV doc pm an cdv ct) ⟨[x,y,z],[]⟩=(seqItems? (.ref T)>>=k)/\k (some #[d])=pure ([a,b,c].zip [x,y,z]))(h2:∀(d:Value)(T:Addr)(kV doc pm:Value)(an:Option Addr)(cdv ct x y:Value),∃k,bindArgs (PySem.W.fnOf r.x r.qual (zAf r.st) (zAd r.st) (zAb r.st) (.ref T) kV doc pm an cdv ct) ⟨[x,y],[]⟩=(seqItems? (.ref T)>>=k)/\k (some #[d])=pure ([a,b,c].zip [x,y,d])):BdD r:=by
 intro d T kV doc pm an cdv ct us es hl he;rw[hp] at hl⊢;rcases he with rfl|rfl
 ·obtain⟨x,y,z,rfl⟩:=zGy (show us.length=3 by simpa using hl);exact h3 d T kV doc pm an cdv ct x y z
 ·obtain⟨x,y,rfl⟩:=zF6 (show us.length=2 by simpa using hl);exact h2 d T kV doc pm an cdv ct x y
end Fx
namespace Fx
open PySem L2
variable{xs:List U}{n:Nat}{kvs:List<|Key×U}
section
variable{up:List<|Str×Str}{tab:Nat->Option De}{fw d:Nat}{p:Pm}{vs:List U}{S S':So}{x:Kx Prop}{k:Kv Prop}{v:U}{a b:Unit->Prop}
def pm(e:pr up p vs S=.ok v S')(h:k v S'):(zAw up tab fw d).prim p vs S x k:=by
 rw[(zEj (up:=up) (tab:=tab) (fw:=fw) d).prim];exact⟨by unfold prP;rw[e];exact h⟩
def brT(h:a ()):(zAw up tab fw d).br true a b:=by
 rw[(zEj (up:=up) (tab:=tab) (fw:=fw) d).br];exact⟨by rw[xCg rfl];exact h⟩
def brF(h:b ()):(zAw up tab fw d).br false a b:=by
 rw[(zEj (up:=up) (tab:=tab) (fw:=fw) d).br];exact⟨by rw[xCf<|by decide];exact h⟩
def my{j:Nat}(h:xs[j]?=some v):pr up .ix [.kl xs,.int j] S=.ok v S:=by
 show opt (atI xs (j:Int)) S=_;rw[dZ h];rfl
def kh:pr up .len [.kl xs] S=.ok (.int xs.length) S:=rfl
end
section
variable{up:List<|Str×Str}{S S':So}{p q:Nat}{o o':Ob}{C f m:Str}{fs fs':List<|Str×U}{v u:U}{xs ys:List U}
theorem zBx{α:Type}:∀{l:List α}{p:Nat}{o:α},at? l p=some o->p<l.length
 |_::_,0,_,_=>by simp
 |_::l,p+1,_,h=>by have:=zBx (l:=l) h;simp;lia
theorem zA0{α:Type}:∀{l:List α}{p:Nat}{o o':α},at? l p=some o->at? (set l p o') p=some o'
 |_::_,0,_,_,_=>rfl
 |_::l,p+1,_,_,h=>zA0 (l:=l) h
theorem zIz{α:Type}:∀{l:List α}{p q:Nat}{o:α},p≠q->at? (set l p o) q=at? l q
 |[],_,_,_,_=>rfl
 |_::_,0,0,_,h=>absurd rfl h
 |_::_,0,_+1,_,_=>rfl
 |_::_,_+1,0,_,_=>rfl
 |_::l,p+1,q+1,_,h=>zIz (l:=l) (by lia)
theorem zBh{α:Type}:∀{l:List α}{p:Nat}{o:α},(set l p o).length=l.length
 |[],_,_=>rfl
 |_::_,0,_=>rfl
 |_::l,p+1,_=>congrArg (·+1)<|zBh (l:=l)
theorem zA7{α:Type}:∀{l t:List α}{p:Nat}{o:α},at? l p=some o->at? (l++t) p=some o
 |_::_,_,0,_,h=>h
 |_::l,_,p+1,_,h=>zA7 (l:=l) h
theorem zA6{α:Type}:∀{l:List α}{o:α},at? (l++[o]) l.length=some o
 |[],_=>rfl
 |_::l,_=>zA6 (l:=l)
theorem zC4{α:Type}:∀{l:List α}{p:Nat}{o o':α},set (set l p o) p o'=set l p o'
 |[],_,_,_=>rfl
 |_::_,0,_,_=>rfl
 |x::l,p+1,_,_=>congrArg (x::·)<|zC4 (l:=l)
def dX(h:at? S p=some (.ins C fs))(e:zAj f fs=some v):pr up (.fld f) [.ref p] S=.ok v S:=by
 show zCx p S _=_;unfold zCx;rw[h];show opt (zAj f fs) S=_;rw[e];rfl
def dU(h:at? S p=some (.ins C fs))(e:putF f v fs=fs')(hl:Nat.ble fs.length 900=true):pr up (.setf f) [.ref p,v] S=.ok .non (set S p<|.ins C fs'):=by
 show zCx p S _=_;unfold zCx;rw[h];dsimp only;rw[hl,e]
def zBw{r:Res}(h:n<=sizeLine):fits n r=r:=by
 unfold fits;rw[xDk h]
def dM(h:at? S p=some (.lst xs))(hl:xs.length+1<=sizeLine):pr up .app [.ref p,v] S=.ok .non (set S p<|.lst<|xs++[v]):=by
 show zCr p S _=_;unfold zCr;rw[h];exact zBw hl
def ig(h:at? S p=some (.lst<|xs++[v])):pr up .pop [.ref p] S=.ok v (set S p<|.lst xs):=by
 show zCr p S _=_;unfold zCr;rw[h];dsimp only;rw[List.getLast?_concat,List.dropLast_concat]
def fq(h:at? S p=some (.lst xs)):pr up (.typ "list") [.ref p] S=.ok (.ref p) S:=by
 delta pr;dsimp only[tyU];rw[h];rfl
def gp(h:at? S p=some (.ins C fs))(e:zAj m fs=none):pr up (.cls C m) [.ref p] S=.ok (.ref p) S:=by
 show zCx p S _=_;unfold zCx;rw[h];dsimp only;rw[xBd rfl,e]
def fY(h:at? S p=some (.lst xs)):pr up .len [.ref p] S=.ok (.int xs.length) S:=by
 show zD7 (.ref p) S=_;unfold zD7;dsimp only;rw[h]
def tR(h:at? S p=some (.dct kvs)):pr up .len [.ref p] S=.ok (.int kvs.length) S:=by
 show zD7 (.ref p) S=_;unfold zD7;dsimp only;rw[h]
def fS(h:at? S p=some (.lst xs)):pr up .tru [.ref p] S=.ok (.bl (!xs.isEmpty)) S:=by
 show obB (zEp S<|.ref p) id S=_;unfold zEp;dsimp only;rw[h];rfl
def zJl:HT.sIx n 0 none=0:=rfl
def wT(h:at? S p=some (.lst<|xs++ys)):pr up (.sl false true false) [.ref p,.int xs.length] S=.ok (.lst ys) S:=by
 show slice false (.ref p) (some (xs.length:Int)) none S=_;unfold slice;dsimp only[lsU];rw[h];show Res.ok (.lst<|zCj (xs++ys) (some (xs.length:Int)) none) S=_;congr 2;unfold zCj;have e1:HT.sIx (xs++ys).length 0 (some (xs.length:Int))=xs.length:=by
  rw[HT.sIx_nat,xAb];lia
 have e2:HT.sIx (xs++ys).length (xs++ys).length none=(xs++ys).length:=by
  exact HT.sIx_none _ _
 rw[e1,e2];simp
def qf(h:at? S p=some (.lst<|xs++ys)):pr up (.sl true false true) [.ref p,.int xs.length] S=.ok (.ref S.length) (S++[.lst xs]):=by
 show slice true (.ref p) none (some (xs.length:Int)) S=_;unfold slice;dsimp only[lsU];rw[h];show Res.ok (.ref S.length) (S++[.lst<|zCj (xs++ys) none<|some (xs.length:Int)])=_;congr 4;unfold zCj;have e1:HT.sIx (xs++ys).length (xs++ys).length (some (xs.length:Int))=xs.length:=by
  rw[HT.sIx_nat,xAb];lia
 rw[e1,zJl];simp
def ki(h:at? S p=some (.dct kvs)):pr up .dctOf [.ref p] S=.ok (.ref S.length) (S++[.dct kvs]):=by
 delta pr;dsimp only;rw[h]
def jy{x:Str}(h:at? S p=some (.dct kvs))(hl:kvs.length+1<=sizeLine):pr up .seti [.ref p,.str x,v] S=.ok .non (set S p<|.dct<|putK (.inr x) v kvs):=by
 show zCh p (.str x) v S=_;unfold zCh;rw[h];exact zBw hl
def ly{x:Str}(h:at? S p=some (.dct kvs))(e:zBb (.inr x) kvs=some v):pr up .ix [.ref p,.str x] S=.ok v S:=by
 show ixU (.ref p) (.str x) S=_;unfold ixU;dsimp only;rw[h];show opt (zBb (.inr x) kvs) S=_;rw[e];rfl
def kg(h:at? S p=some (.lst xs)):pr up (.lstOf false) [.ref p] S=.ok (.lst xs) S:=by
 delta pr;dsimp only[sqU,lsU];rw[h];rfl
end
section
variable{up:List<|Str×Str}{S T:So}{o o':Ob}{C f:Str}{fs fs':List<|Str×U}{v:U}
theorem zC5{α:Type}:∀{l t:List α}{o o':α},set (l++o::t) l.length o'=l++o'::t
 |[],_,_,_=>rfl
 |x::l,_,_,_=>congrArg (x::·)<|zC5 (l:=l)
theorem zEa{α:Type}:∀{l t:List α}{o:α},at? (l++o::t) l.length=some o
 |[],_,_=>rfl
 |_::l,_,_=>zEa (l:=l)
theorem zDy{α:Type}:∀{l t:List α}{o o2:α},at? (l++o::o2::t) (l.length+1)=some o2
 |[],_,_,_=>rfl
 |_::l,_,_,_=>zDy (l:=l)
def dS(e:putF f v fs=fs')(hl:Nat.ble fs.length 900=true):pr up (.setf f) [.ref S.length,v] (S++.ins C fs::T)=.ok .non (S++.ins C fs'::T):=by
 rw[dU zEa e hl,zC5]
def rA{k:Key}:∀{kvs:List<|Key×U},zBb k (putK k v kvs)=some v:=by
 intro kvs;unfold putK;split
 ·next h=>
  induction kvs with
  |nil=>cases h
  |cons a r ih=>
   obtain⟨g,u⟩:=a;by_cases hg:g=k
   ·subst hg;simp[zBb]
   ·have:(r.any λkv=>decide<|kv.1=k)=true:=by simpa [hg] using h
    simpa [zBb,hg] using ih this
 ·next h=>
  induction kvs with
  |nil=>simp[zBb]
  |cons a r ih=>
   obtain⟨g,u⟩:=a;have hg:g≠k:=λe=>h (by simp[e]);have:¬ (r.any λkv=>decide<|kv.1=k)=true:=λe=>h (by simp only[List.any_cons,Bool.or_eq_true];exact .inr e);simpa [zBb,hg] using ih this
def uP{k k':Key}(hk:k'≠k):∀{kvs:List<|Key×U},zBb k' (putK k v kvs)=zBb k' kvs:=by
 intro kvs;unfold putK;split
 ·next h=>
  clear h;induction kvs with
  |nil=>rfl
  |cons a r ih=>
   obtain⟨g,u⟩:=a;by_cases hg:g=k
   ·subst hg;simp only[xBs,if_true,zBb,xCf<|Ne.symm hk];exact ih
   ·simp only[xBs,xCf hg,zBb];rw[ih]
 ·next h=>
  clear h;induction kvs with
  |nil=>simp[zBb,Ne.symm hk]
  |cons a r ih=>
   obtain⟨g,u⟩:=a;simp only[List.cons_append,zBb];rw[ih]
def hZ{k:Key}:(putK k v kvs).length<=kvs.length+1:=by
 unfold putK;split <;> simp
end
end Fx
namespace K14
open PySem L2 Fx
variable{mg:Str->Option Value}{cls:List<|Str×Addr}{kds:List<|Addr×List (Str×U)×List Str}{fw d lo m j mo pq c' ak':Nat}{T S S':So}{la:Bool}{xs us ins ops js ps0 J Ps:List U}{pl ca tk:Int}{t y op g:Str}{env:List<|Str×Nat}{γ Vs:List Vl}{p4 p5 p3 u1 u2 p6:U}{ns th req req':List Str}{M:Mc}{s:Sp}{E:Ee Prop}{kk:Sg->So->Prop}{a1 a4 a6 a0 a2 a5:Option U}{items:List<|Str×U}{pls pls3 ds':List Int}{x:Kx Prop}{α:Type}{tr:Option Str}
def top(i:Nat):Stmt:=PySem.Challenge.pw_spacewright_k14_one_deed.main.body.getD i<|.Pass ⟨0,0,0,0⟩
def dI:List<|Str×U:=[("number",(.kt [(.str "number")])),("name",(.kt [(.str "used")])),("fn",(.kt [(.str "names"),(.str "part")])),("call",(.kt [(.str "part"),(.str "parts")])),("let",(.kt [(.str "name"),(.str "part"),(.str "part")])),("set",(.kt [(.str "used"),(.str "part")])),("do",(.kt [(.str "part"),(.str "part")])),("if",(.kt [(.str "part"),(.str "part"),(.str "part")])),("math",(.kt [(.str "op"),(.str "part"),(.str "part")])),("make",(.kt [(.str "word"),(.str "parts")])),("match",(.kt [(.str "part"),(.str "word"),(.str "names"),(.str "part"),(.str "part")])),("raise",(.kt [(.str "word"),(.str "part")])),("try",(.kt [(.str "part"),(.str "word"),(.str "name"),(.str "part")])),("tell",(.kt [(.str "part")])),("ask",(.kt []))]
def dN:List Str:=[]
def i7:U:=.kd dI dN
def fB:List<|Str×U:=[("fn",(.kt [(.int<|2),(.int<|3)])),("let",(.kt [(.int<|2),(.int<|4)])),("match",(.kt [(.int<|4),(.int<|5)])),("try",(.kt [(.int<|4),(.int<|5)]))]
def fc:List Str:=["number","name","call","set","do","if","math","make","raise","tell","ask"]
def qZ:U:=.kd fB fc
def dW:List<|Str×U:=[("let",(.gl "finish_let")),("do",(.gl "finish_do")),("try",(.gl "finish_try")),("fn",(.gl "finish_fn")),("call",(.gl "finish_call")),("set",(.gl "finish_set")),("if",(.gl "finish_if")),("math",(.gl "finish_math")),("make",(.gl "finish_make")),("match",(.gl "finish_match")),("raise",(.gl "finish_raise")),("tell",(.gl "finish_tell")),("ask",(.gl "finish_ask"))]
def eZ:List Str:=[]
def lI:U:=.kd dW eZ
def Jn(x:Str)(g:Gd):Str×Gd:=(x,g)
def Ji(x:Str)(i n:Nat):Str×Gd:=(x,.fn i n []<|List.replicate n false)
def gls:List<|Str×Gd:=[Jn "Ended"<|.xc ["end"],Jn "Block"<|.cl 1 3 [],Jn "Function"<|.cl 2 2 [],Ji "is_number" 3 1,Ji "shown_of" 4 1,Ji "shown_within" 5 1,Ji "math_of" 6 3,Ji "reckoned" 7 3,Ji "matched_fields" 8 3,Ji "call_fault" 9 2,Ji "form_of" 10 1,Ji "told_anew" 11 2,Ji "parts_ahead" 12 1,Ji "is_word" 13 1,Ji "is_name" 14 1,Ji "is_place" 15 1,Ji "is_written_number" 16 1,Ji "plain" 17 1,Jn "Checker"<|.cl 18 1 [],Ji "checked_row" 22 1,Ji "checked_names" 23 1,Ji "fits" 24 3,Ji "checked_program" 25 1,Jn "World"<|.cl 26 3 [(.int<|1000)],Ji "run_of" 34 1,Jn "Cell"<|.cl 35 2 [],Jn "SourceFunction"<|.cl 36 3 [],Jn "Job"<|.cl 37 4 [],Ji "scope_with" 38 3,Ji "first_parts" 39 1,Ji "finish_let" 40 3,Ji "finish_do" 41 3,Ji "finish_try" 42 3,Ji "finish_fn" 43 3,Ji "finish_call" 44 3,Ji "finish_set" 45 3,Ji "finish_if" 46 3,Ji "finish_math" 47 3,Ji "finish_make" 48 3,Ji "finish_match" 49 3,Ji "finish_raise" 50 3,Ji "finish_tell" 51 3,Ji "finish_ask" 52 3,Jn "SourceRun"<|.cl 53 3 [],Jn "run_source"<|.fn 60 3 [(.int<|1000)] [false,false,false],Ji "_law_cell" 61 2,Ji "_law_places" 62 1,Ji "_law_number" 63 1,Ji "_law_item" 64 2,Ji "_law_shown" 65 1,Ji "_law_inside" 66 1,Ji "_law_part" 67 4,Ji "_law_math" 68 3,Ji "_law_outcome" 69 2,Ji "_law_items" 70 3,Ji "_law_done" 71 2,Ji "_law_run" 72 4,Ji "_law_most" 73 2,Ji "_law_right" 74 2,Ji "law" 75 1,Jn "MOST_PARTS"<|.con<|.int<|300,Jn "MOST_WITHIN"<|.con<|.int<|20,Jn "MOST_IN_ROW"<|.con<|.int<|4,Jn "LAST_PLACE"<|.con<|.int<|599,Jn "LETTERS"<|.con<|.str<|"abcdefghijklmnopqrstuvwxyz",Jn "OPS"<|.con<|.kt [(.str<|"add"),(.str<|"sub"),(.str<|"mul"),(.str<|"less"),(.str<|"same")],Jn "HEADS"<|.con<|.kt [(.str<|"fn"),(.str<|"call"),(.str<|"let"),(.str<|"set"),(.str<|"do"),(.str<|"if"),(.str<|"add"),(.str<|"sub"),(.str<|"mul"),(.str<|"less"),(.str<|"same"),(.str<|"make"),(.str<|"match"),(.str<|"raise"),(.str<|"try"),(.str<|"tell"),(.str<|"ask")],Jn "FORMS"<|.con i7,Jn "SCOPES"<|.con qZ,Jn "MOST_CALLS"<|.con<|.int<|50,Jn "NO_DEEDS"<|.con<|.kt [(.str<|"let"),(.str<|"do"),(.str<|"try")],Jn "LEAVE"<|.con<|.kt [(.str<|"leave")],Jn "FINISHES"<|.con lI]
def mss:List<|Str×Str×Nat×Nat:=[("check_part","Checker",19,4),("check_place","Checker",20,2),("check_thing","Checker",21,5),("note","World",27,2),("take","World",28,1),("say","World",29,2),("enter","World",30,2),("leave","World",31,1),("drop_to","World",32,2),("result","World",33,2),("last_value","SourceRun",54,1),("add_job","SourceRun",55,4),("begin","SourceRun",56,2),("finish","SourceRun",57,2),("fault","SourceRun",58,4),("catch","SourceRun",59,3)]
def fls:List Str:=["tag","fields","place","params","body","scope","inside","part","last","height","calls","places","inputs","taken","most","log","deeds","deepest","world","jobs","pile"]
def bls:List Str:=["len","isinstance","abs","int","tuple","list","dict","all","any","max","min","range","zip","reversed","set","str","bool"]
def ups:List<|Str×Str:=[("SpaceError","ValueError"),("NoPart","SpaceError"),("Ended","SpaceError"),("SourceFunction","Function")]
def tb:Tb:=⟨gls,mss,fls,bls,["Function"],["Block","Function"]⟩
abbrev st0:Stmt:=zAe (top 3) 0
def J0:TEx Prop:=cV 0
def J2:TEx Prop:=cV 1
def Jc:TEx Prop:=cV 2
def Jj:TEx Prop:=cV 3
def Jg:TEx Prop:=cV 4
def Jk:TEx Prop:=cV 5
def Jp:TEx Prop:=cV 6
def Jv:TEx Prop:=cV 7
def Y3:TEx Prop:=cV 8
def Y5:TEx Prop:=cV 9
def Y4:TEx Prop:=cV 10
def Y7:TEx Prop:=cV 11
def J8:TEx Prop:=cC<|.int 0
def Jf:TEx Prop:=cC<|.int 1
def Jo:TEx Prop:=cC<|.int 2
def Jr:TEx Prop:=cC<|.int 3
def Js:TEx Prop:=cC<|.int 4
def Jy:TEx Prop:=cC<|.int 5
def Y8:TEx Prop:=cC<|.int 6
def Y9:TEx Prop:=cC<|.int 7
def J9(i:Int):TEx Prop:=cC<|.int i
def J4(x:Str):TEx Prop:=cC<|.str x
def J3(a b:TEx Prop):TEx Prop:=cP .ix<|zAp a b
def J7(x:Str)(a:TEx Prop):TEx Prop:=cP (.fld x)<|aC a aN
def J5(p:Pm)(a:TEx Prop):TEx Prop:=cP p<|aC a aN
def J1(p:Pm)(a b:TEx Prop):TEx Prop:=cP p<|zAp a b
def Je(a b:TEx Prop):TTx Prop:=tB<|cP .eq<|zAp a b
def Ju(i:Nat)(a:TAx Prop):TEx Prop:=cF i a []
def Jm(i:Nat)(a:TEx Prop):TEx Prop:=cF i (aC a aN) []
def Jx(i:Nat)(a b:TEx Prop):TEx Prop:=cF i (aC a<|aC b aN) []
def Jd(a:TEx Prop):TAx Prop:=(aC a aN)
def Y1(a:TEx Prop):TEx Prop:=cT<|aC a aN
def Y6(a b:TEx Prop):TAx Prop:=(aC a<|aC b aN)
def Jt(a b:TEx Prop):TEx Prop:=cT<|aC a<|aC b aN
def Jl(a b c:TEx Prop):TAx Prop:=(aC a<|aC b<|aC c aN)
def Jw(a b c:TEx Prop):TEx Prop:=cT<|aC a<|aC b<|aC c aN
def Jz(a b c d:TEx Prop):TAx Prop:=(aC a<|aC b<|aC c<|aC d aN)
def Y0(a b c d:TEx Prop):TEx Prop:=cT<|aC a<|aC b<|aC c<|aC d aN
def Y2(a b c d e:TEx Prop):TAx Prop:=(aC a<|aC b<|aC c<|aC d<|aC e aN)
def Ya(a b c d e:TEx Prop):TEx Prop:=cT<|aC a<|aC b<|aC c<|aC d<|aC e aN
def J6(a:TEx Prop):TSx Prop:=sQ (sR a) sN
def Jb(a:TSx Prop):TSx Prop:=sQ a sN
def Ja(t:TTx Prop)(a:TSx Prop):TSx Prop:=sI t a sN
def t1:TSx Prop:=(sQ (sP (.setf "tag") J2<|Jd J0)<|Jb<|sP (.setf "fields") (J5 .tupOf Jc)<|Jd J0)
def Jq(x q:Str)(i:Nat)(s:Stmt)(ps ex mu:List Str)(t:TSx Prop):Fx.Row:=⟨x,q,i,s,ps,ps++ex,mu,t⟩
def Jh(x:Str):Nat->Stmt->List Str->List Str->List Str->TSx Prop->Fx.Row:=Jq x x
def r1:Fx.Row:=Jq "__init__" "Block.__init__" 1 (zAe (top 5) 0) ["self","tag","fields"] [] [] t1
def t2:TSx Prop:=(Jb<|sP (.setf "place") J2<|Jd J0)
def r2:Fx.Row:=Jq "__init__" "Function.__init__" 2 (zAe (top 6) 0) ["self","place"] [] [] t2
def t3:TSx Prop:=(J6<|cB<|tAn (tB<|J5 (.isT "int") J0)<|tNt<|tB<|J5 (.isT "bool") J0)
def r3:Fx.Row:=Jh "is_number" 3 (top 7) ["thing"] [] [] t3
def t4:TSx Prop:=(sQ (Ja (tB<|J5 (.isC "Block") J0)<|J6<|Jw (J4 "block") (J7 "tag" J0)<|J5 .tupOf<|cL (J5 .seq<|J7 "fields" J0) [1] true 2 [] none<|Jm 5 J2)<|J6<|Jm 5 J0)
def r4:Fx.Row:=Jh "shown_of" 4 (top 8) ["value"] [] [] t4
def t5:TSx Prop:=(sQ (Ja (tB<|J5 (.isC "Block") J0)<|J6<|Jt (J4 "block")<|J7 "tag" J0)<|sQ (Ja (tB<|J5 (.isC "Function") J0)<|J6<|Jt (J4 "fn")<|J7 "place" J0)<|J6 J0)
def r5:Fx.Row:=Jh "shown_within" 5 (top 9) ["value"] [] [] t5
def t6:TSx Prop:=(sQ (Ja (tNt<|tAn (tB<|Jm 3 J2)<|tB<|Jm 3 Jc)<|J6<|Jt (J4 "kind") J8)<|sQ (sA 3<|Ju 7<|Jl J0 J2 Jc)<|sQ (Ja (tB<|J1 .ge (J5 .abs Jj)<|J1 .pow (J9 10)<|J9 40)<|J6<|Jt (J4 "big") J8)<|J6<|Jt (cC .non) Jj)
def r6:Fx.Row:=Jh "math_of" 6 (top 10) ["op","one","other"] ["number"] [] t6
def t7:TSx Prop:=(sQ (Ja (Je J0<|J4 "add")<|J6<|J1 (.add false) J2 Jc)<|sQ (Ja (Je J0<|J4 "sub")<|J6<|J1 .sub J2 Jc)<|sQ (Ja (Je J0<|J4 "mul")<|J6<|J1 .mul J2 Jc)<|sQ (Ja (Je J0<|J4 "less")<|J6<|cIf (tB<|J1 .lt J2 Jc) Jf J8)<|J6<|cIf (Je J2 Jc) Jf J8)
def r7:Fx.Row:=Jh "reckoned" 7 (top 11) ["op","one","other"] [] [] t7
def t8:TSx Prop:=(sQ (Ja (tAn (tB<|J5 (.isC "Block") J0)<|tAn (Je (J7 "tag" J0) J2)<|Je (J5 .len<|J7 "fields" J0) Jc)<|J6<|J7 "fields" J0)<|J6<|cC .non)
def r8:Fx.Row:=Jh "matched_fields" 8 (top 12) ["value","tag","many"] [] [] t8
def t9:TSx Prop:=(sQ (Ja (tNt<|tB<|J5 (.isC "Function") J0)<|J6<|J4 "kind")<|J6<|cIf (Je (J5 .len<|J7 "params" J0) J2) (cC .non)<|J4 "odd")
def r9:Fx.Row:=Jh "call_fault" 9 (top 13) ["value","many"] [] [] t9
def t10:TSx Prop:=(J6<|cIf (tB<|J5 (.isT "str") J0) (J1 .get1 (cC i7) J0)<|cC .non)
def r10:Fx.Row:=Jh "form_of" 10 (top 24) ["kind"] [] [] t10
def t11:TSx Prop:=(sQ (sU [2,3]<|cP .get2<|Jl (cC qZ) (J3 J0 J8)<|Jt (cC .non)<|cC .non)<|sQ (Ja (tB<|J1 .ne J2 Jj)<|J6<|cT aN)<|sQ (sA 4<|J3 J0 Jc)<|J6<|cIf (tB<|J5 (.isT "tuple") Jg) Jg<|Y1 Jg)
def r11:Fx.Row:=Jh "told_anew" 11 (top 25) ["part","index"] ["names_at","scope_at","names"] [] t11
def t12:TSx Prop:=(sQ (sA 1<|J3 J0 J8)<|sQ (Ja (Je J2<|J4 "call")<|J6<|J1 (.add false) (Y1<|J3 J0 Jo)<|J3 J0 Jr)<|sQ (Ja (Je J2<|J4 "math")<|J6<|J1 (.sl false true false) J0 Jr)<|sQ (Ja (Je J2<|J4 "make")<|J6<|J3 J0 Jr)<|sQ (Ja (tB<|J1 .inn J2<|Jt (J4 "set")<|J4 "raise")<|J6<|Y1<|J3 J0 Jr)<|sQ (Ja (tB<|J1 .inn J2<|Jw (J4 "if") (J4 "match")<|J4 "tell")<|J6<|Y1<|J3 J0 Jo)<|J6<|cT aN)
def r12:Fx.Row:=Jh "parts_ahead" 12 (top 26) ["part"] ["kind"] [] t12
def t13:TSx Prop:=(sQ (Ja (tOr' (tNt<|tB<|J5 (.isT "str") J0)<|tNt<|tCh .le .le Jf (J5 .len J0)<|J9 8)<|J6<|cC<|.bl false)<|J6<|J5 .all<|cL (J5 .seq J0) [1] true 2 [] none<|cB<|tB<|J1 .inn J2<|J4 "abcdefghijklmnopqrstuvwxyz")
def r13:Fx.Row:=Jh "is_word" 13 (top 27) ["thing"] [] [] t13
def t14:TSx Prop:=(J6<|cB<|tAn (tB<|Jm 13 J0)<|tB<|J1 .nin J0<|cC<|.kt [(.str "fn"),(.str "call"),(.str "let"),(.str "set"),(.str "do"),(.str "if"),(.str "add"),(.str "sub"),(.str "mul"),(.str "less"),(.str "same"),(.str "make"),(.str "match"),(.str "raise"),(.str "try"),(.str "tell"),(.str "ask")])
def r14:Fx.Row:=Jh "is_name" 14 (top 28) ["thing"] [] [] t14
def t15:TSx Prop:=(J6<|cB<|tAn (tB<|Jm 3 J0)<|tCh .le .le J8 J0<|J9 599)
def r15:Fx.Row:=Jh "is_place" 15 (top 29) ["thing"] [] [] t15
def t16:TSx Prop:=(J6<|cB<|tAn (tB<|Jm 3 J0)<|tB<|J1 .lt (J5 .abs J0)<|J1 .pow (J9 10)<|J9 12)
def r16:Fx.Row:=Jh "is_written_number" 16 (top 30) ["thing"] [] [] t16
def t17:TSx Prop:=(sQ (Ja (tB<|J5 (.isT "tuple") J0)<|J6<|J1 (.add false) (cT aN) J0)<|sQ (Ja (tB<|J5 (.isT "str") J0)<|J6<|cBM "str" .join (J4 "")<|Jd<|J5 (.lst false) J0)<|sQ (Ja (tB<|Jm 3 J0)<|J6<|J5 .int1 J0)<|J6 J0)
def r17:Fx.Row:=Jh "plain" 17 (top 31) ["thing"] [] [] t17
def t18:TSx Prop:=(Jb<|sP (.setf "places") (cP (.dct []) aN)<|Jd J0)
def r18:Fx.Row:=Jq "__init__" "Checker.__init__" 18 (zAe (top 32) 0) ["self"] [] [] t18
def t19:TSx Prop:=(sQ (sA 4<|Jm 17 J2)<|sQ (Ja (tOr' (tNt<|tB<|J5 (.isT "tuple") Jg)<|tB<|J1 .lt (J5 .len Jg) Jo)<|Jb sZ)<|sQ (sA 5<|J1 (.lst true) (Jm 17<|J3 Jg J8)<|Jm 17<|J3 Jg Jf)<|sQ (sA 6<|Jm 10<|J3 Jk J8)<|sQ (Ja (tOr' (tB<|J5 .isN Jp)<|tB<|J1 .ne (J5 .len Jg)<|J1 (.add false) Jo<|J5 .len Jp)<|Jb sZ)<|sQ (sE<|cM "Checker" "check_place" 20 J0 (Jd<|J3 Jk Jf) [])<|sQ (Ja (tB<|J1 .nin (J3 Jk J8)<|Jt (J4 "number")<|J4 "name")<|Jb<|sA 3<|J1 (.add false) Jj Jf)<|sQ (Ja (tB<|J1 .gt Jj<|J9 20)<|Jb sZ)<|sQ (sF (J1 .zip Jp<|J1 (.sl false true false) Jg Jo) [7,8] false<|sQ (sA 9<|J1 (.add false) Jc<|Jx 11 Jk<|J5 .len Jk)<|Jb<|sE<|cBM "list" .app Jk<|Jd<|cM "Checker" "check_thing" 21 J0 (Jz Jv Y3 Y5 Jj) [])<|J6<|J5 .tupOf Jk)
def r19:Fx.Row:=Jq "check_part" "Checker.check_part" 19 (zAe (top 32) 1) ["self","thing","there","within"] ["part","known","form","sort","inner","scope"] ["known"] t19
def t20:TSx Prop:=(sQ (Ja (tOr' (tNt<|tB<|Jm 15 J2)<|tB<|J1 .inn J2<|J7 "places" J0)<|Jb sZ)<|sQ (sP .seti (cC<|.bl true)<|zAp (J7 "places" J0) J2)<|Jb<|Ja (tB<|J1 .gt (J5 .len<|J7 "places" J0)<|J9 300)<|Jb sZ)
def r20:Fx.Row:=Jq "check_place" "Checker.check_place" 20 (zAe (top 32) 2) ["self","place"] [] [] t20
def t21:TSx Prop:=(sQ (Ja (Je J2<|J4 "part")<|J6<|cM "Checker" "check_part" 19 J0 (Jl Jc Jj Jg) [])<|sQ (Ja (Je J2<|J4 "parts")<|J6<|J5 .tupOf<|cL (J5 .seq<|Jm 22 Jc) [1] true 2 [4,3,0] none<|cM "Checker" "check_part" 19 Jg (Jl J2 Jj Jc) [])<|sQ (Ja (Je J2<|J4 "names")<|J6<|Jm 23 Jc)<|sQ (sA 5<|Jm 17 Jc)<|sQ (Ja (tNt<|tB<|Ju 24<|Jl J2 Jk Jj)<|Jb sZ)<|J6 Jk)
def r21:Fx.Row:=Jq "check_thing" "Checker.check_thing" 21 (zAe (top 32) 3) ["self","sort","thing","there","within"] ["single"] [] t21
def t22:TSx Prop:=(sQ (sA 1<|Jm 17 J0)<|sQ (Ja (tOr' (tNt<|tB<|J5 (.isT "tuple") J2)<|tB<|J1 .gt (J5 .len J2) Js)<|Jb sZ)<|J6 J2)
def r22:Fx.Row:=Jh "checked_row" 22 (top 33) ["thing"] ["row"] [] t22
def t23:TSx Prop:=(sQ (sA 1<|J5 .tupOf<|cL (J5 .seq<|Jm 22 J0) [1] true 2 [] none<|Jm 17 J2)<|sQ (Ja (tOr' (tNt<|tB<|J5 .all<|cL (J5 .seq J2) [1] true 2 [] none<|Jm 14 J2)<|tB<|J1 .lt (J5 .lenset J2)<|J5 .len J2)<|Jb sZ)<|J6 J2)
def r23:Fx.Row:=Jh "checked_names" 23 (top 34) ["thing"] ["names"] [] t23
def t24:TSx Prop:=(sQ (Ja (Je J0<|J4 "number")<|J6<|Jm 16 J2)<|sQ (Ja (Je J0<|J4 "op")<|J6<|cB<|tAn (tB<|Jm 13 J2)<|tB<|J1 .inn J2<|cC<|.kt [(.str "add"),(.str "sub"),(.str "mul"),(.str "less"),(.str "same")])<|sQ (Ja (Je J0<|J4 "word")<|J6<|Jm 13 J2)<|sQ (Ja (Je J0<|J4 "used")<|J6<|cB<|tAn (tB<|Jm 14 J2)<|tB<|J1 .inn J2 Jc)<|J6<|Jm 14 J2)
def r24:Fx.Row:=Jh "fits" 24 (top 35) ["sort","thing","there"] [] [] t24
def t25:TSx Prop:=(J6<|cM "Checker" "check_part" 19 (cK "Checker" 18 aN []) (Jl J0 (cT aN) J8) [])
def r25:Fx.Row:=Jh "checked_program" 25 (top 36) ["thing"] [] [] t25
def t26:TSx Prop:=(sQ (sP (.setf "inputs") (J5 (.lstOf true) J2)<|Jd J0)<|sQ (sP (.setf "taken") J8<|Jd J0)<|sQ (sP (.setf "most") Jc<|Jd J0)<|sQ (sP (.setf "log") (cP (.lst true) aN)<|Jd J0)<|sQ (sP (.setf "deeds") (cP (.lst true) aN)<|Jd J0)<|sQ (sP (.setf "calls") J8<|Jd J0)<|Jb<|sP (.setf "deepest") J8<|Jd J0)
def r26:Fx.Row:=Jq "__init__" "World.__init__" 26 (zAe (top 39) 0) ["self","inputs","most"] [] [] t26
def t27:TSx Prop:=(sQ (Ja (tB<|J1 .ge (J5 .len<|J7 "deeds" J0)<|J7 "most" J0)<|Jb<|sX "Ended" ["end"]<|Jd<|Y1<|J4 "dry")<|Jb<|sE<|cBM "list" .app (J7 "deeds" J0)<|Jd J2)
def r27:Fx.Row:=Jq "note" "World.note" 27 (zAe (top 39) 1) ["self","place"] [] [] t27
def t28:TSx Prop:=(sQ (Ja (Je (J7 "taken" J0)<|J5 .len<|J7 "inputs" J0)<|J6 J8)<|sQ (sP (.setf "taken") (J1 (.add true) (J7 "taken" J0) Jf)<|Jd J0)<|J6<|J3 (J7 "inputs" J0)<|J1 .sub (J7 "taken" J0) Jf)
def r28:Fx.Row:=Jq "take" "World.take" 28 (zAe (top 39) 2) ["self"] [] [] t28
def t29:TSx Prop:=(Jb<|sE<|cBM "list" .app (J7 "log" J0)<|Jd J2)
def r29:Fx.Row:=Jq "say" "World.say" 29 (zAe (top 39) 3) ["self","number"] [] [] t29
def t30:TSx Prop:=(sQ (Ja (tB<|J1 .ge (J7 "calls" J0)<|J9 50)<|Jb<|sX "Ended" ["end"]<|Jd<|Jt (J4 "deep") J2)<|sQ (sP (.setf "calls") (J1 (.add true) (J7 "calls" J0) Jf)<|Jd J0)<|Jb<|sP (.setf "deepest") (J1 .max (J7 "deepest" J0)<|J7 "calls" J0)<|Jd J0)
def r30:Fx.Row:=Jq "enter" "World.enter" 30 (zAe (top 39) 4) ["self","place"] [] [] t30
def t31:TSx Prop:=(Jb<|sP (.setf "calls") (J1 .sub (J7 "calls" J0) Jf)<|Jd J0)
def r31:Fx.Row:=Jq "leave" "World.leave" 31 (zAe (top 39) 5) ["self"] [] [] t31
def t32:TSx Prop:=(Jb<|sP (.setf "calls") J2<|Jd J0)
def r32:Fx.Row:=Jq "drop_to" "World.drop_to" 32 (zAe (top 39) 6) ["self","many"] [] [] t32
def t33:TSx Prop:=(J6<|Y0 J2 (J5 (.lstOf false)<|J7 "log" J0) (J5 (.lstOf false)<|J7 "deeds" J0)<|J7 "deepest" J0)
def r33:Fx.Row:=Jq "result" "World.result" 33 (zAe (top 39) 7) ["self","end"] [] [] t33
def t34:TSx Prop:=(sQ (sT "Ended" 2 1 "end"<|Jb<|sA 1<|Jt (J4 "value")<|Jm 4<|cM "SourceRun" "last_value" 54 J0 aN [])<|J6<|cM "World" "result" 33 (J7 "world" J0) (Jd J2) [])
def r34:Fx.Row:=Jh "run_of" 34 (top 40) ["runner"] ["end","ended"] [] t34
def t35:TSx Prop:=(Jb<|sP (.setf "inside") J2<|Jd J0)
def r35:Fx.Row:=Jq "__init__" "Cell.__init__" 35 (zAe (top 44) 0) ["self","inside"] [] [] t35
def t36:TSx Prop:=(sQ (sE<|Jx 2 J0<|J3 J2 Jf)<|sQ (sP (.setf "params") (J3 J2 Jo)<|Jd J0)<|sQ (sP (.setf "body") (J3 J2 Jr)<|Jd J0)<|Jb<|sP (.setf "scope") Jc<|Jd J0)
def r36:Fx.Row:=Jq "__init__" "SourceFunction.__init__" 36 (zAe (top 45) 0) ["self","part","scope"] [] [] t36
def t37:TSx Prop:=(sQ (sP (.setf "part") J2<|Jd J0)<|sQ (sP (.setf "scope") Jc<|Jd J0)<|sQ (sP (.setf "last") Jj<|Jd J0)<|sQ (sP (.setf "height") (cC .non)<|Jd J0)<|Jb<|sP (.setf "calls") J8<|Jd J0)
def r37:Fx.Row:=Jq "__init__" "Job.__init__" 37 (zAe (top 46) 0) ["self","part","scope","last"] [] [] t37
def t38:TSx Prop:=(sQ (sA 3<|J5 .dctOf J0)<|sQ (sF (J1 .zip J2 Jc) [4,5] false<|Jb<|sP .seti (cK "Cell" 35 (Jd Jk) [])<|zAp Jj Jg)<|J6 Jj)
def r38:Fx.Row:=Jh "scope_with" 38 (top 47) ["scope","names","values"] ["grown","name","value"] ["grown"] t38
def t39:TSx Prop:=(sQ (Ja (Je (J3 J0 J8)<|J4 "let")<|J6<|Y1<|J3 J0 Jr)<|sQ (Ja (tB<|J1 .inn (J3 J0 J8)<|Jt (J4 "do")<|J4 "try")<|J6<|Y1<|J3 J0 Jo)<|J6<|Jm 12 J0)
def r39:Fx.Row:=Jh "first_parts" 39 (top 48) ["part"] [] [] t39
def t40:TSx Prop:=(Jb<|sE<|cM "SourceRun" "add_job" 55 J0 (Jl (J3 (J7 "part" J2) Js) (Ju 38<|Jl (J7 "scope" J2) (Y1<|J3 (J7 "part" J2) Jo) Jc)<|J7 "last" J2) [])
def r40:Fx.Row:=Jh "finish_let" 40 (top 49) ["run","job","values"] [] [] t40
def t41:TSx Prop:=(Jb<|sE<|cM "SourceRun" "add_job" 55 J0 (Jl (J3 (J7 "part" J2) Jr) (J7 "scope" J2)<|J7 "last" J2) [])
def r41:Fx.Row:=Jh "finish_do" 41 (top 50) ["run","job","values"] [] [] t41
def t42:TSx Prop:=(Jb<|sE<|cBM "list" .app (J7 "pile" J0)<|Jd<|J3 Jc J8)
def r42:Fx.Row:=Jh "finish_try" 42 (top 51) ["run","job","values"] [] [] t42
def t43:TSx Prop:=(Jb<|sE<|cBM "list" .app (J7 "pile" J0)<|Jd<|cK "SourceFunction" 36 (Y6 (J7 "part" J2)<|J7 "scope" J2) [])
def r43:Fx.Row:=Jh "finish_fn" 43 (top 52) ["run","job","values"] [] [] t43
def t44:TSx Prop:=(sQ (sA 3<|J3 (J7 "part" J2) Jf)<|sQ (sA 4<|J3 Jc J8)<|sQ (sA 5<|J1 (.sl false true false) Jc Jf)<|sQ (sA 6<|Jx 9 Jg<|J5 .len Jk)<|sQ (Ja (tB<|J5 .notN Jp)<|sQ (sE<|cM "SourceRun" "fault" 58 J0 (Jl Jp J8 Jj) [])<|Jb sRN)<|sQ (Ja (tNt<|tB<|J5 .tru<|J7 "last" J2)<|sQ (sE<|cM "World" "enter" 30 (J7 "world" J0) (Jd Jj) [])<|Jb<|sE<|cM "SourceRun" "add_job" 55 J0 (Jl (cC<|.kt [(.str "leave")]) (cP (.dct []) aN)<|cC<|.bl false) [])<|Jb<|sE<|cM "SourceRun" "add_job" 55 J0 (Jl (J7 "body" Jg) (Ju 38<|Jl (J7 "scope" Jg) (J7 "params" Jg) Jk)<|cC<|.bl true) [])
def r44:Fx.Row:=Jh "finish_call" 44 (top 53) ["run","job","values"] ["place","function","arguments","word"] [] t44
def t45:TSx Prop:=(sQ (sA 3<|J3 (J7 "scope" J2)<|J3 (J7 "part" J2) Jo)<|sQ (sP (.setf "inside") (J3 Jc J8)<|Jd Jj)<|Jb<|sE<|cBM "list" .app (J7 "pile" J0)<|Jd<|J3 Jc J8)
def r45:Fx.Row:=Jh "finish_set" 45 (top 54) ["run","job","values"] ["cell"] [] t45
def t46:TSx Prop:=(Jb<|sI (tNt<|tB<|Jm 3<|J3 Jc J8) (Jb<|sE<|cM "SourceRun" "fault" 58 J0 (Jl (J4 "kind") J8<|J3 (J7 "part" J2) Jf) [])<|Jb<|sE<|cM "SourceRun" "add_job" 55 J0 (Jl (cIf (Je (J3 Jc J8) J8) (J3 (J7 "part" J2) Js)<|J3 (J7 "part" J2) Jr) (J7 "scope" J2)<|J7 "last" J2) [])
def r46:Fx.Row:=Jh "finish_if" 46 (top 55) ["run","job","values"] [] [] t46
def t47:TSx Prop:=(sQ (sU [3,4]<|Ju 6<|Jl (J3 (J7 "part" J2) Jo) (J3 Jc J8)<|J3 Jc Jf)<|Jb<|sI (tB<|J5 .isN Jj) (Jb<|sE<|cBM "list" .app (J7 "pile" J0)<|Jd Jg)<|Jb<|sE<|cM "SourceRun" "fault" 58 J0 (Jl Jj J8<|J3 (J7 "part" J2) Jf) [])
def r47:Fx.Row:=Jh "finish_math" 47 (top 56) ["run","job","values"] ["word","number"] [] t47
def t48:TSx Prop:=(Jb<|sE<|cBM "list" .app (J7 "pile" J0)<|Jd<|cK "Block" 1 (Y6 (J3 (J7 "part" J2) Jo) Jc) [])
def r48:Fx.Row:=Jh "finish_make" 48 (top 57) ["run","job","values"] [] [] t48
def t49:TSx Prop:=(sQ (sU [3,4,5,6]<|J1 (.sl false true false) (J7 "part" J2) Jr)<|sQ (sA 7<|Ju 8<|Jl (J3 Jc J8) Jj<|J5 .len Jg)<|Jb<|sI (tB<|J5 .isN Jv) (Jb<|sE<|cM "SourceRun" "add_job" 55 J0 (Jl Jp (J7 "scope" J2)<|J7 "last" J2) [])<|Jb<|sE<|cM "SourceRun" "add_job" 55 J0 (Jl Jk (Ju 38<|Jl (J7 "scope" J2) Jg Jv)<|J7 "last" J2) [])
def r49:Fx.Row:=Jh "finish_match" 49 (top 58) ["run","job","values"] ["tag","names","yes","no","fields"] [] t49
def t50:TSx Prop:=(Jb<|sE<|cM "SourceRun" "fault" 58 J0 (Jl (J3 (J7 "part" J2) Jo) (J3 Jc J8)<|J3 (J7 "part" J2) Jf) [])
def r50:Fx.Row:=Jh "finish_raise" 50 (top 59) ["run","job","values"] [] [] t50
def t51:TSx Prop:=(Jb<|sI (tNt<|tB<|Jm 3<|J3 Jc J8) (Jb<|sE<|cM "SourceRun" "fault" 58 J0 (Jl (J4 "kind") J8<|J3 (J7 "part" J2) Jf) [])<|sQ (sE<|cM "World" "say" 29 (J7 "world" J0) (Jd<|J3 Jc J8) [])<|Jb<|sE<|cBM "list" .app (J7 "pile" J0)<|Jd<|J3 Jc J8)
def r51:Fx.Row:=Jh "finish_tell" 51 (top 60) ["run","job","values"] [] [] t51
def t52:TSx Prop:=(Jb<|sE<|cBM "list" .app (J7 "pile" J0)<|Jd<|cM "World" "take" 28 (J7 "world" J0) aN [])
def r52:Fx.Row:=Jh "finish_ask" 52 (top 61) ["run","job","values"] [] [] t52
def t53:TSx Prop:=(sQ (sP (.setf "world") Jc<|Jd J0)<|sQ (sP (.setf "jobs") (J5 (.lst true)<|cK "Job" 37 (Jl J2 (cP (.dct []) aN)<|cC<|.bl true) [])<|Jd J0)<|Jb<|sP (.setf "pile") (cP (.lst true) aN)<|Jd J0)
def r53:Fx.Row:=Jq "__init__" "SourceRun.__init__" 53 (zAe (top 63) 0) ["self","program","world"] [] [] t53
def t54:TSx Prop:=(sQ (sW (tB<|J5 .tru<|J7 "jobs" J0)<|sQ (sA 1<|cBM "list" .pop (J7 "jobs" J0) aN)<|Jb<|sI (tB<|J5 .isN<|J7 "height" J2) (Jb<|sE<|cM "SourceRun" "begin" 56 J0 (Jd J2) [])<|Jb<|sE<|cM "SourceRun" "finish" 57 J0 (Jd J2) [])<|J6<|J3 (J7 "pile" J0) J8)
def r54:Fx.Row:=Jq "last_value" "SourceRun.last_value" 54 (zAe (top 63) 1) ["self"] ["job"] [] t54
def t55:TSx Prop:=(Jb<|sE<|cBM "list" .app (J7 "jobs" J0)<|Jd<|cK "Job" 37 (Jl J2 Jc Jj) [])
def r55:Fx.Row:=Jq "add_job" "SourceRun.add_job" 55 (zAe (top 63) 2) ["self","part","scope","last"] [] [] t55
def t56:TSx Prop:=(sQ (sA 2<|J3 (J7 "part" J2) J8)<|Jb<|sI (Je Jc<|J4 "number") (Jb<|sE<|cBM "list" .app (J7 "pile" J0)<|Jd<|J3 (J7 "part" J2) Jo)<|Jb<|sI (Je Jc<|J4 "name") (Jb<|sE<|cBM "list" .app (J7 "pile" J0)<|Jd<|J7 "inside"<|J3 (J7 "scope" J2)<|J3 (J7 "part" J2) Jo)<|Jb<|sI (Je Jc<|J4 "leave") (Jb<|sE<|cM "World" "leave" 31 (J7 "world" J0) aN [])<|sQ (sP (.setf "height") (J5 .len<|J7 "pile" J0)<|Jd J2)<|sQ (sP (.setf "calls") (J7 "calls"<|J7 "world" J0)<|Jd J2)<|sQ (sE<|cBM "list" .app (J7 "jobs" J0)<|Jd J2)<|Jb<|sF (J5 .rev<|Jm 39<|J7 "part" J2) [3] true<|Jb<|sE<|cM "SourceRun" "add_job" 55 J0 (Jl Jj (J7 "scope" J2)<|cC<|.bl false) [])
def r56:Fx.Row:=Jq "begin" "SourceRun.begin" 56 (zAe (top 63) 3) ["self","job"] ["kind","part"] [] t56
def t57:TSx Prop:=(sQ (sA 2<|J1 (.sl false true false) (J7 "pile" J0)<|J7 "height" J2)<|sQ (sP (.setf "pile") (J1 (.sl true false true) (J7 "pile" J0)<|J7 "height" J2)<|Jd J0)<|sQ (Ja (tB<|J1 .nin (J3 (J7 "part" J2) J8)<|cC<|.kt [(.str "let"),(.str "do"),(.str "try")])<|Jb<|sE<|cM "World" "note" 27 (J7 "world" J0) (Jd<|J3 (J7 "part" J2) Jf) [])<|Jb<|sE<|cD [("finish_let",40,3),("finish_do",41,3),("finish_try",42,3),("finish_fn",43,3),("finish_call",44,3),("finish_set",45,3),("finish_if",46,3),("finish_math",47,3),("finish_make",48,3),("finish_match",49,3),("finish_raise",50,3),("finish_tell",51,3),("finish_ask",52,3)] (J3 (cC lI)<|J3 (J7 "part" J2) J8)<|Jl J0 J2 Jc)
def r57:Fx.Row:=Jq "finish" "SourceRun.finish" 57 (zAe (top 63) 4) ["self","job"] ["values"] [] t57
def t58:TSx Prop:=(sQ (sW (tB<|J5 .tru<|J7 "jobs" J0)<|sQ (sA 4<|cBM "list" .pop (J7 "jobs" J0) aN)<|Jb<|Ja (tAn (Je (J3 (J7 "part" Jg) J8)<|J4 "try")<|tAn (tB<|J5 .notN<|J7 "height" Jg)<|Je (J3 (J7 "part" Jg) Jr) J2)<|sQ (sE<|cM "SourceRun" "catch" 59 J0 (Y6 Jg Jc) [])<|Jb sRN)<|Jb<|sX "Ended" ["end"]<|Jd<|Y0 (J4 "fault") J2 (Jm 4 Jc) Jj)
def r58:Fx.Row:=Jq "fault" "SourceRun.fault" 58 (zAe (top 63) 5) ["self","word","value","place"] ["job"] [] t58
def t59:TSx Prop:=(sQ (sP (.setf "pile") (J1 (.sl true false true) (J7 "pile" J0)<|J7 "height" J2)<|Jd J0)<|sQ (sE<|cM "World" "drop_to" 32 (J7 "world" J0) (Jd<|J7 "calls" J2) [])<|Jb<|sE<|cM "SourceRun" "add_job" 55 J0 (Jl (J3 (J7 "part" J2) Jy) (Ju 38<|Jl (J7 "scope" J2) (Y1<|J3 (J7 "part" J2) Js)<|Y1 Jc)<|J7 "last" J2) [])
def r59:Fx.Row:=Jq "catch" "SourceRun.catch" 59 (zAe (top 63) 6) ["self","job","value"] [] [] t59
def t60:TSx Prop:=(J6<|Jm 34<|cK "SourceRun" 53 (Y6 (Jm 25 J0)<|cK "World" 26 (Y6 J2 Jc) []) [])
def r60:Fx.Row:=Jh "run_source" 60 (top 64) ["program","inputs","most"] [] [] t60
def t61:TSx Prop:=(sQ (Ja (tB<|J1 .lt J2<|J5 .len J0)<|J6<|J3 J0 J2)<|J6 J8)
def r61:Fx.Row:=Jh "_law_cell" 61 (top 66) ["_law_script","_law_k"] [] [] t61
def t62:TSx Prop:=(sQ (sA 1<|J1 .mod J0<|J9 600)<|sQ (sA 2<|J3 (cP (.lst false)<|Jz Jf Y9 (J9 599)<|J9 211)<|J1 .mod (J1 .fdiv J0<|J9 600) Js)<|J6<|cL (J5 .rng1<|J9 40) [1] true 2 [2,1] none<|J1 .mod (J1 (.add false) Jj<|J1 .mul Jc J2)<|J9 600)
def r62:Fx.Row:=Jh "_law_places" 62 (top 67) ["_law_cell_here"] ["_law_start","_law_step"] [] t62
def t63:TSx Prop:=(J6<|J3 (cP (.lst false)<|Jz J8 (J1 .sub (J1 .mod (J1 .fdiv J0 Js)<|J9 19)<|J9 9) (J1 (.add false) (J1 .sub (J1 .mod (J1 .fdiv J0 Js)<|J1 .sub (J1 .mul Jo<|J1 .pow (J9 10)<|J9 12) Jf)<|J1 .pow (J9 10)<|J9 12) Jf) Jf)<|J1 .mod J0 Js)
def r63:Fx.Row:=Jh "_law_number" 63 (top 68) ["_law_cell_here"] [] [] t63
def t64:TSx Prop:=(sQ (sA 2<|J1 .mod J0<|J9 8)<|sQ (sA 3<|Jm 63<|J1 .fdiv J0<|J9 8)<|sQ (Ja (tB<|J1 .lt Jc Jr)<|J6<|cP (.lst false)<|Jl (Jw (J4 "number") (J3 J2 J8) Jj) Jj<|cP (.lst false) aN)<|sQ (Ja (Je Jc Jr)<|sQ (sA 4<|Jw (J4 "number") (J3 J2 Jf)<|J1 .sub (J1 .pow (J9 10)<|J9 12) Jf)<|sQ (sF (J5 .rng1 Jr) [5] true<|Jb<|sA 4<|Ya (J4 "math") (J3 J2<|J1 (.add false) Jo Jk) (J4 "mul") Jg<|Jw (J4 "number") (J3 J2<|J1 (.add false) Jy Jk)<|J1 (.add false) (J1 .pow (J9 10)<|J9 9)<|J1 .mul (J1 .mod Jj Js)<|J1 .pow (J9 10)<|J9 11)<|sQ (sA 6<|J1 .mul (J1 .sub (J1 .pow (J9 10)<|J9 12) Jf)<|J1 .pow (J1 (.add false) (J1 .pow (J9 10)<|J9 9)<|J1 .mul (J1 .mod Jj Js)<|J1 .pow (J9 10)<|J9 11) Jr)<|sQ (sA 7<|cP (.lst false)<|Jl (J3 J2 Jo) (J3 J2 Jr)<|J3 J2 Js)<|sQ (Ja (tB<|J1 .ge Jp<|J1 .pow (J9 10)<|J9 40)<|J6<|cP (.lst false)<|Jl Jg (Jt (J4 "big")<|J3 J2 Js) Jv)<|J6<|cP (.lst false)<|Jl Jg Jp Jv)<|sQ (Ja (tB<|J1 .lt Jc Y8)<|sQ (sA 8<|J5 .tupOf<|cL (J5 .rng1<|J1 .sub Jc Jr) [1] true 2 [1,3] none<|Jw (J4 "number") (J3 Jc<|J1 (.add false) Jf J2) Jj)<|sQ (sA 9<|Jw (J4 "block") (J4 "ab")<|J5 .tupOf<|cL (J5 .rng1<|J1 .sub Jc Jr) [1] true 2 [3] none Jc)<|J6<|cP (.lst false)<|Jl (Y0 (J4 "make") (J3 J2 J8) (J4 "ab") Y3) Y5<|J5 (.lst false)<|J3 J2 J8)<|sQ (Ja (Je Jc Y8)<|J6<|cP (.lst false)<|Jl (Jt (J4 "ask")<|J3 J2 J8) (J1 .pow (J9 10)<|J9 29)<|J5 (.lst false)<|J3 J2 J8)<|sQ (sA 10<|J1 (.sl false false true) (Jt (J4 "x")<|J4 "y")<|J1 .mod (J1 .fdiv J0<|J9 8) Jr)<|sQ (sA 11<|Y0 (J4 "fn") (J3 J2 J8) Y4<|Jw (J4 "number") (J3 J2 Jf) Jj)<|J6<|cP (.lst false)<|Jl Y7 (Y0 (J4 "fn") (J3 J2 J8) (J5 .len Y4) Jj)<|J5 (.lst false)<|J3 J2 J8)
def r64:Fx.Row:=Jh "_law_item" 64 (top 69) ["_law_cell_here","_law_places_here"] ["_law_way","_law_number_here","_law_part_here","_law_k","_law_value","_law_deeds","_law_fields","_law_shown_here","_law_params","_law_function"] [] t64
def t65:TSx Prop:=(sQ (Ja (tAn (tB<|J5 (.isT "tuple") J0)<|Je (J3 J0 J8)<|J4 "fn")<|J6<|Jt (J4 "fn")<|J3 J0 Jf)<|J6 J0)
def r65:Fx.Row:=Jh "_law_shown" 65 (top 70) ["_law_value"] [] [] t65
def t66:TSx Prop:=(sQ (Ja (tAn (tB<|J5 (.isT "tuple") J0)<|Je (J3 J0 J8)<|J4 "block")<|J6<|Jt (J4 "block")<|J3 J0 Jf)<|J6<|Jm 65 J0)
def r66:Fx.Row:=Jh "_law_inside" 66 (top 71) ["_law_value"] [] [] t66
def t67:TSx Prop:=(sQ (sA 4<|cL (J5 .seq Jj) [1] true 2 [] none<|J3 J2 J8)<|sQ (sA 5<|J3 Jc<|J9 39)<|sQ (sA 6<|Jw (J4 "number") (J3 Jc<|J9 38) Jy)<|sQ (sA 7<|Jw (J4 "number") (J3 Jc<|J9 37) Y8)<|sQ (Ja (Je J0<|J4 "math")<|sQ (sA 8<|J3 (cP (.lst false)<|Y2 (J4 "add") (J4 "sub") (J4 "mul") (J4 "less")<|J4 "same")<|J1 .mod J2 Jy)<|J6<|Ya (J4 "math") Jk Y3 (J3 Jg J8)<|J3 Jg Jf)<|sQ (Ja (Je J0<|J4 "make")<|J6<|Y0 (J4 "make") Jk (J4 "abc")<|J5 .tupOf Jg)<|sQ (Ja (Je J0<|J4 "call")<|J6<|Y0 (J4 "call") Jk (J3 Jg J8)<|J5 .tupOf<|J1 (.sl false true false) Jg Jf)<|sQ (Ja (Je J0<|J4 "if")<|J6<|Ya (J4 "if") Jk (J3 Jg J8) Jp Jv)<|sQ (Ja (Je J0<|J4 "match")<|J6<|cT<|aC (J4 "match")<|aC Jk<|Y2 (J3 Jg J8) (J3 (J1 (.lst false) (J4 "ab")<|J4 "a")<|J1 .mod (J1 .fdiv J2 Jr) Jo) (J1 (.sl false false true) (Jt (J4 "x")<|J4 "y")<|J1 .mod J2 Jr) Jp Jv)<|sQ (Ja (Je J0<|J4 "raise")<|J6<|Y0 (J4 "raise") Jk (J3 (J1 (.lst false) (J4 "a")<|J4 "kind")<|J1 .mod J2 Jo)<|J3 Jg J8)<|J6<|Jw (J4 "tell") Jk<|J3 Jg J8)
def r67:Fx.Row:=Jh "_law_part" 67 (top 72) ["_law_kind","_law_cell_here","_law_places_here","_law_items_here"] ["_law_parts","_law_place","_law_yes","_law_no","_law_op"] [] t67
def t68:TSx Prop:=(sQ (Ja (tOr' (tB<|J5 (.isT "tuple") J2)<|tB<|J5 (.isT "tuple") Jc)<|J6<|J1 (.lst false) (J4 "kind") J8)<|sQ (sA 3<|cP (.dct ["add","sub","mul","less"])<|Jz (J1 (.add true) J2 Jc) (J1 .sub J2 Jc) (J1 .mul J2 Jc)<|J5 .int1<|cB<|tB<|J1 .lt J2 Jc)<|sQ (sP .seti (J5 .int1<|cB<|Je J2 Jc)<|zAp Jj<|J4 "same")<|sQ (Ja (tB<|J1 .ge (J5 .abs<|J3 Jj J0)<|J1 .pow (J9 10)<|J9 40)<|J6<|J1 (.lst false) (J4 "big") J8)<|J6<|J1 (.lst false) (J4 "")<|J3 Jj J0)
def r68:Fx.Row:=Jh "_law_math" 68 (top 73) ["_law_op","_law_one","_law_other"] ["_law_found"] ["_law_found"] t68
def t69:TSx Prop:=(sQ (Ja (Je (J3 J0 J8)<|J4 "math")<|J6<|Ju 68<|Jl (J3 J0 Jo) (J3 J2 J8)<|J3 J2 Jf)<|sQ (Ja (Je (J3 J0 J8)<|J4 "make")<|J6<|J1 (.lst false) (J4 "")<|Jw (J4 "block") (J4 "abc")<|J5 .tupOf<|cL (J5 .seq J2) [1] true 2 [] none<|Jm 66 J2)<|sQ (Ja (Je (J3 J0 J8)<|J4 "call")<|sQ (Ja (tOr' (tNt<|tB<|J5 (.isT "tuple")<|J3 J2 J8)<|tB<|J1 .ne (J3 (J3 J2 J8) J8)<|J4 "fn")<|J6<|J1 (.lst false) (J4 "kind") J8)<|J6<|J3 (J1 (.lst false) (J1 (.lst false) (J4 "odd") J8)<|J1 (.lst false) (J4 "")<|J3 (J3 J2 J8) Jr)<|J5 .int1<|cB<|Je (J3 (J3 J2 J8) Jo)<|J1 .sub (J5 .len J2) Jf)<|sQ (Ja (Je (J3 J0 J8)<|J4 "if")<|sQ (Ja (tB<|J5 (.isT "tuple")<|J3 J2 J8)<|J6<|J1 (.lst false) (J4 "kind") J8)<|J6<|J1 (.lst false) (J4 "")<|J3 (J1 (.lst false) Y8 Jy)<|J5 .int1<|cB<|tB<|J1 .ne (J3 J2 J8) J8)<|sQ (Ja (Je (J3 J0 J8)<|J4 "match")<|sQ (sA 2<|cB<|tAn (tB<|J5 (.isT "tuple")<|J3 J2 J8)<|tAn (Je (J3 (J3 J2 J8) J8)<|J4 "block")<|Je (J3 (J3 J2 J8) Jf)<|J3 J0 Jr)<|J6<|J1 (.lst false) (J4 "")<|J3 (J1 (.lst false) Y8 Jy)<|J5 .int1<|cB<|tAn (tB Jc)<|Je (J5 .len<|J3 (J3 J2 J8) Jo)<|J5 .len<|J3 J0 Js)<|sQ (Ja (Je (J3 J0 J8)<|J4 "raise")<|J6<|J1 (.lst false) (J3 J0 Jo)<|Jm 65<|J3 J2 J8)<|sQ (Ja (tB<|J5 (.isT "tuple")<|J3 J2 J8)<|J6<|J1 (.lst false) (J4 "kind") J8)<|J6<|J1 (.lst false) (J4 "")<|J3 J2 J8)
def r69:Fx.Row:=Jh "_law_outcome" 69 (top 74) ["_law_part_here","_law_values"] ["_law_same"] [] t69
def t70:TSx Prop:=(sQ (sA 3 Jf)<|sQ (Ja (Je J0<|J4 "math")<|Jb<|sA 3 Jo)<|sQ (Ja (Je J0<|J4 "make")<|Jb<|sA 3<|J1 .mod J2 Jy)<|sQ (Ja (Je J0<|J4 "call")<|Jb<|sA 3<|J1 (.add false) Jf<|J1 .mod J2 Js)<|sQ (sA 4<|cP (.lst true) aN)<|sQ (sA 5<|J1 .fdiv J2<|J9 20)<|sQ (sF (J5 .rng1 Jj) [6] true<|sQ (sE<|cBM "list" .app Jg<|Jd<|Jx 64 (J1 .mod Jk<|J1 .pow (J9 10)<|J9 15)<|cP (.sl false true true)<|Jl Jc (cI<|J1 .mul (J9 8) Jp)<|J1 (.add false) (J1 .mul (J9 8) Jp)<|J9 8)<|Jb<|sA 5<|J1 .fdiv Jk<|J1 .pow (J9 10)<|J9 15)<|J6<|J5 .frz Jg)
def r70:Fx.Row:=Jh "_law_items" 70 (top 75) ["_law_kind","_law_cell_here","_law_places_here"] ["_law_many","_law_found","_law_number_here","_law_k"] ["_law_found","!_law_found"] t70
def t71:TSx Prop:=(sQ (sA 2<|cP (.lst false) aN)<|sQ (sA 3<|cP (.lst true) aN)<|sQ (sF (J5 .seq J2) [4] true<|sQ (sA 2<|J1 (.add false) Jc<|J3 Jg Jo)<|sQ (Ja (tAn (tB<|J5 (.isT "tuple")<|J3 Jg Jf)<|Je (J3 (J3 Jg Jf) J8)<|J4 "big")<|J6<|cP (.lst false)<|Y2 Jc (J4 "big") J8 (J3 (J3 Jg Jf) Jf)<|cP (.lst false) aN)<|Jb<|sE<|cBM "list" .app Jj<|Jd<|J3 Jg Jf)<|sQ (sU [5,6]<|Jx 69 J0 Jj)<|sQ (sA 7<|cP (.lst false) aN)<|sQ (Ja (tAn (Je (J3 J0 J8)<|J4 "tell")<|Je Jk<|J4 "")<|Jb<|sA 7<|J5 (.lst false) Jp)<|J6<|cP (.lst false)<|Y2 (J1 (.add false) Jc<|J5 (.lst false)<|J3 J0 Jf) Jk Jp (J3 J0 Jf) Jv)
def r71:Fx.Row:=Jh "_law_done" 71 (top 76) ["_law_part_here","_law_items_here"] ["_law_deeds","_law_values","_law_item_here","_law_word","_law_value","_law_log"] ["_law_values"] t71
def t72:TSx Prop:=(sQ (sU [4,5,6,7,8] J0)<|sQ (Ja (tB<|J1 .lt Jj<|J5 .len Jg)<|J6<|Y0 (Y1<|J4 "dry") (cP (.lst false) aN) (J1 (.sl false false true) Jg Jj) J8)<|sQ (sA 9<|Jt (J4 "value")<|Jm 65 Jp)<|sQ (Ja (tAn (tB<|J1 .ne Jk<|J4 "")<|tB<|J1 .ne Jk J2)<|Jb<|sA 9<|Y0 (J4 "fault") Jk Jp Jv)<|J6<|Y0 Y5 Y3 Jg<|J5 .int1<|cB<|tAn (tB Jc)<|Je Jk<|J4 "")
def r72:Fx.Row:=Jh "_law_run" 72 (top 77) ["_law_done_here","_law_word","_law_opens","_law_most_here"] ["_law_deeds","_law_fault","_law_value","_law_place","_law_log","_law_end"] [] t72
def t73:TSx Prop:=(J6<|J3 (cP (.lst false)<|Jz J2 (J1 .max J8<|J1 .sub J2 Jf) (J1 .mod (J1 .fdiv J0 Js)<|J1 (.add false) J2 Jo)<|J9 2000)<|J1 .mod J0 Js)
def r73:Fx.Row:=Jh "_law_most" 73 (top 78) ["_law_cell_here","_law_many"] [] [] t73
def t74:TSx Prop:=(sQ (sA 2<|J3 (cP (.lst false)<|aC (J4 "math")<|aC (J4 "make")<|Y2 (J4 "call") (J4 "if") (J4 "match") (J4 "raise")<|J4 "tell")<|J1 .mod J0 Y9)<|sQ (sA 3<|Jm 62 J2)<|sQ (sA 4<|Ju 70<|Jl Jc (J1 .fdiv J0 Y9) Jj)<|sQ (sA 5<|Ju 67<|Jz Jc (J1 .fdiv J0 Y9) Jj Jg)<|sQ (sA 6<|Jx 71 Jk Jg)<|sQ (sA 7<|J4 "")<|sQ (sA 8<|cB<|tAn (Je Jc<|J4 "call")<|Je (J1 .mod (J1 .fdiv J2<|J9 2400) Jo) Jf)<|sQ (Ja (Je (J1 .mod (J1 .fdiv J2<|J9 2400) Jo) Jf)<|sQ (sA 7<|J3 (cP (.lst false)<|Jz (J4 "kind") (J4 "odd") (J4 "big")<|J4 "a")<|J1 .mod (J1 .fdiv J2<|J9 4800) Js)<|Jb<|sA 5<|cT<|aC (J4 "try")<|Y2 (J3 Jj<|J9 36) Jk Jv (J4 "x")<|Jw (J4 "name") (J3 Jj<|J9 35)<|J4 "x")<|sQ (sA 9<|Jx 73 (J1 .fdiv J2<|J9 19200)<|J5 .len<|J3 Jp J8)<|sQ (sA 10<|J1 .mul (J5 (.lst false)<|J1 .pow (J9 10)<|J9 29) Jy)<|sQ (sA 11<|Ju 60<|Jl Jk Y4 Y5)<|sQ (Ja (tOr' (tNt<|tB<|J5 (.isT "tuple") Y7)<|tOr' (tB<|J1 .ne Y7<|Ju 72<|Jz Jp Jv Y3 Y5)<|tB<|J1 .ne Y4<|J1 .mul (J5 (.lst false)<|J1 .pow (J9 10)<|J9 29) Jy)<|J6<|cC<|.bl false)<|J6<|cB<|Je (cF 60 (Y6 Jk Y4) [(.int<|1000)])<|Ju 72<|Jz Jp Jv Y3<|J9 1000)
def r74:Fx.Row:=Jh "_law_right" 74 (top 79) ["_law_cell_here","_law_other"] ["_law_kind","_law_places_here","_law_items_here","_law_part_here","_law_done_here","_law_word","_law_opens","_law_most_here","_law_inputs","_law_found"] [] t74
def t75:TSx Prop:=(sQ (sF (cP .rng3<|Jl J8 (J1 .min (J5 .len J0)<|J9 60) Jo) [1] true<|Jb<|Ja (tNt<|tB<|Jx 74 (J3 J0 J2)<|Jx 61 J0<|J1 (.add false) J2 Jf)<|J6<|cC<|.bl false)<|J6<|cC<|.bl true)
def r75:Fx.Row:=Jh "law" 75 (top 80) ["_law_script"] ["_law_k"] [] t75
def rows:List Fx.Row:=[r1,r2,r3,r4,r5,r6,r7,r8,r9,r10,r11,r12,r13,r14,r15,r16,r17,r18,r19,r20,r21,r22,r23,r24,r25,r26,r27,r28,r29,r30,r31,r32,r33,r34,r35,r36,r37,r38,r39,r40,r41,r42,r43,r44,r45,r46,r47,r48,r49,r50,r51,r52,r53,r54,r55,r56,r57,r58,r59,r60,r61,r62,r63,r64,r65,r66,r67,r68,r69,r70,r71,r72,r73,r74,r75]
def tab:Nat->Option De:=zE2 rows
def zGq:∀r∈rows,zEk tb tab r:=by
 repeat' first|exact alln|refine allc (zJn (by kernel_rfl) (by kernel_rfl)<|by kernel_rfl) ?_
def bd1{r:Fx.Row}(hp:r.ps.length=1)(h:∀(kV doc pm:Value)(an:Option Addr)(cdv ct x0:Value),bindArgs (PySem.W.fnOf r.x r.qual (zAf r.st) (zAd r.st) (zAb r.st) .none kV doc pm an cdv ct) ⟨[x0],[]⟩=pure (r.ps.zip [x0]):=by intros;rfl):BdC r:=λ_ _ _ _ _ _ us hl=>by
 obtain⟨_,rfl⟩:=zIf<|hl.trans hp;exact h ..
def bd2{r:Fx.Row}(hp:r.ps.length=2)(h:∀(kV doc pm:Value)(an:Option Addr)(cdv ct x0 x1:Value),bindArgs (PySem.W.fnOf r.x r.qual (zAf r.st) (zAd r.st) (zAb r.st) .none kV doc pm an cdv ct) ⟨[x0,x1],[]⟩=pure (r.ps.zip [x0,x1]):=by intros;rfl):BdC r:=λ_ _ _ _ _ _ us hl=>by
 obtain⟨_,_,rfl⟩:=zF6<|hl.trans hp;exact h ..
def bd3{r:Fx.Row}(hp:r.ps.length=3)(h:∀(kV doc pm:Value)(an:Option Addr)(cdv ct x0 x1 x2:Value),bindArgs (PySem.W.fnOf r.x r.qual (zAf r.st) (zAd r.st) (zAb r.st) .none kV doc pm an cdv ct) ⟨[x0,x1,x2],[]⟩=pure (r.ps.zip [x0,x1,x2]):=by intros;rfl):BdC r:=λ_ _ _ _ _ _ us hl=>by
 obtain⟨_,_,_,rfl⟩:=zGy<|hl.trans hp;exact h ..
def bd4{r:Fx.Row}(hp:r.ps.length=4)(h:∀(kV doc pm:Value)(an:Option Addr)(cdv ct x0 x1 x2 x3:Value),bindArgs (PySem.W.fnOf r.x r.qual (zAf r.st) (zAd r.st) (zAb r.st) .none kV doc pm an cdv ct) ⟨[x0,x1,x2,x3],[]⟩=pure (r.ps.zip [x0,x1,x2,x3]):=by intros;rfl):BdC r:=λ_ _ _ _ _ _ us hl=>by
 obtain⟨_,_,_,_,rfl⟩:=zIe<|hl.trans hp;exact h ..
def bd5{r:Fx.Row}(hp:r.ps.length=5)(h:∀(kV doc pm:Value)(an:Option Addr)(cdv ct x0 x1 x2 x3 x4:Value),bindArgs (PySem.W.fnOf r.x r.qual (zAf r.st) (zAd r.st) (zAb r.st) .none kV doc pm an cdv ct) ⟨[x0,x1,x2,x3,x4],[]⟩=pure (r.ps.zip [x0,x1,x2,x3,x4]):=by intros;rfl):BdC r:=λ_ _ _ _ _ _ us hl=>by
 obtain⟨_,_,_,_,_,rfl⟩:=zJu<|hl.trans hp;exact h ..
def b26:BdD r26:=zIs rfl (λ_ _ _ _ _ _ _ _ _ _ _=>⟨_,rfl,rfl⟩) λ_ _ _ _ _ _ _ _ _ _=>⟨_,rfl,rfl⟩
def b60:BdD r60:=zIs rfl (λ_ _ _ _ _ _ _ _ _ _ _=>⟨_,rfl,rfl⟩) λ_ _ _ _ _ _ _ _ _ _=>⟨_,rfl,rfl⟩
section
variable{K:xFr}{f C:Addr}{oc kV dc pm cd ct mc:Value}{od an:Option Addr}{sl:Array<|Option Value}{nm q:Str}{st:Stmt}
def csr(h0:PySem.W.nsIn K mainGlobals nm=some (some<|.ref C))(h1:PySem.W.plainGet K C Str.empty=true)(h2:PySem.W.hasDictIn K C=true)(h3:PySem.W.plainOver K C=true)(h4:PySem.W.findIn K (.ref C) "__setattr__"=some (some<|.builtin "object.__setattr__"))(h5:PySem.W.makesIn K C=true)(h6:PySem.W.keepIn K (.ref C)=true)(h7:PySem.W.findIn K (.ref C) "__class__"=some (some<|.builtin "object.__class__"))(h8:PySem.W.mroIn K C (.type "object")=some true):CsR K C nm:=⟨h0,⟨h1,h2,h3,h4⟩,h5,h6,h7,h8⟩
def TxA(K:xFr)(t:Addr)(xs:List V):Prop:=∀H,SqT K H t xs
def tup_is{t:Addr}{d:Option Addr}{its:Array Value}{n:Nat}{sl:Array<|Option Value}{xs:List V}(h:K.lookup t=some ⟨.type "tuple",d,.seq its n,sl⟩)(hz:its.size<=1000)(hv:zAg xs its.toList):TxA K t xs:=λH=>.inr ⟨_,its,n,h,rfl,rfl,zFf (by lia),hv⟩
def xZ(h0:PySem.W.findIn K (.ref C) "__init__"=some (some<|.ref f))(e1:PySem.W.specialIn K (.ref C) "__getattribute__"=some (some<|.builtin "type.__getattribute__"))(e2:PySem.W.readsIn K C mc=true)(e3:PySem.W.findCls K (.ref C) mc "__init__"=some (.val<|.ref f))(e4:PySem.W.handedIn (.ref f)=true):zI3 K C:=⟨mc,e1,e2,λf' h=>by rw[h0] at h;cases h;exact⟨e3,e4⟩⟩
def ktS{l:List Str}(h:TxA K C<|l.map V.str)(W:Wd):Rv (mkB K mg cls kds) W (.kt<|l.map U.str)<|.ref C:=xL (B:=mkB K mg cls kds) h W
def ktI{l:List Int}(h:TxA K C<|l.map V.int)(W:Wd):Rv (mkB K mg cls kds) W (.kt<|l.map U.int)<|.ref C:=xM (B:=mkB K mg cls kds) h W
def XdR(K:xFr)(C:Addr)(q:Str)(st:Stmt):Prop:=∃(f:Addr) (fd:FuncData),PySem.W.findIn K (.ref C) "__init__"=some (some<|.ref f)/\PySem.W.isFn K (.ref f)=true/\Fun K "__init__" q st f fd
def xdr(h0:PySem.W.findIn K (.ref C) "__init__"=some (some<|.ref f))(h4:PySem.W.isFn K (.ref f)=true)(h1:K.lookup f=some ⟨oc,od,.func<|PySem.W.fnOf "__init__" q (zAf st) (zAd st) (zAb st) .none kV dc pm an cd ct,sl⟩)(h2:PySem.W.codeIn K cd q=true)(h3:PySem.W.keepIn K (.ref f)=true):XdR K C q st:=⟨f,_,h0,h4,lM h1 h2 h3⟩
end
def cl8(cBlock cFunction cChecker cWorld cCell cSourceFunction cJob cSourceRun:Addr):List<|Str×Addr:=[("Block",cBlock),("Function",cFunction),("Checker",cChecker),("World",cWorld),("Cell",cCell),("SourceFunction",cSourceFunction),("Job",cJob),("SourceRun",cSourceRun)]
def mr{r:Fx.Row}(i:Nat)(h:rows[i]?=some r):r∈rows:=xAc h
def all_mk{l:PySem.W.OpenLaw}{w:World}{K:xFr}{h:Heap}{fa aI aD aE aG aK aA aN aB cT aT c4 b5 aF au ar aw ax ay a1 a0 az a2 av ae ai ah ao al aJ ak ag aj am a3 b6 aC aZ ac aU aa aW ad aX aV ab aY aQ aR aS:Addr}(X:K.In h)(G:h.Ns mainGlobals mg)(hfa:mg "law"=some (.ref fa)){dC:Tok}{dF:Tok}{bW:Tok}{bH:Tok}{bA:Tok}{bf:Tok}{cZ:Tok}{bj:Array DictEntry}{c8:Nat}{bB:Array DictEntry}{cv:Nat}{be:Tok}{aq:Array DictEntry}{bt:Nat}(ap:CsR K aI "Block")(cq:zBu K aI fls=true)(aP:CsR K aD "Function")(bn:zBu K aD fls=true)(aO:CsR K aE "Checker")(bs:zBu K aE fls=true)(aM:CsR K aG "World")(ch:zBu K aG fls=true)(a6:CsR K aK "Cell")(c3:zBu K aK fls=true)(aL:CsR K aA "SourceFunction")(af:zBu K aA fls=true)(bm:CsR K aN "Job")(dB:zBu K aN fls=true)(aH:CsR K aB "SourceRun")(bP:zBu K aB fls=true)(c5:zCs K "int" (cl8 aI aD aE aG aK aA aN aB)=true)(cm:zCs K "bool" (cl8 aI aD aE aG aK aA aN aB)=true)(c6:zCs K "str" (cl8 aI aD aE aG aK aA aN aB)=true)(cM:zCs K "tuple" (cl8 aI aD aE aG aK aA aN aB)=true)(cC:zC8 K ups "Block" aI (cl8 aI aD aE aG aK aA aN aB)=true)(bh:zC8 K ups "Function" aD (cl8 aI aD aE aG aK aA aN aB)=true)(dG:mgB K bls=true)(hn_:W.specialIn K (.builtin "object.__class__") "__get__"=some (some<|.builtin "getset_descriptor.__get__"))(ht_:W.takesIn K (.builtin "object.__class__")=some true)(d1:MdR K aI r1)(d2:MdR K aD r2)(d3:DnR K r3)(d4:DnR K r4)(d5:DnR K r5)(d6:DnR K r6)(d7:DnR K r7)(d8:DnR K r8)(d9:DnR K r9)(d10:DnR K r10)(d11:DnR K r11)(d12:DnR K r12)(d13:DnR K r13)(d14:DnR K r14)(d15:DnR K r15)(d16:DnR K r16)(d17:DnR K r17)(d18:MdR K aE r18)(d19:MdR K aE r19)(d20:MdR K aE r20)(d21:MdR K aE r21)(d22:DnR K r22)(d23:DnR K r23)(d24:DnR K r24)(d25:DnR K r25)(d26:MdD K aG r26<|.int 1000 dC)(d27:MdR K aG r27)(d28:MdR K aG r28)(d29:MdR K aG r29)(d30:MdR K aG r30)(d31:MdR K aG r31)(d32:MdR K aG r32)(d33:MdR K aG r33)(d34:DnR K r34)(d35:MdR K aK r35)(d36:MdR K aA r36)(d37:MdR K aN r37)(d38:DnR K r38)(d39:DnR K r39)(d40:DnR K r40)(d41:DnR K r41)(d42:DnR K r42)(d43:DnR K r43)(d44:DnR K r44)(d45:DnR K r45)(d46:DnR K r46)(d47:DnR K r47)(d48:DnR K r48)(d49:DnR K r49)(d50:DnR K r50)(d51:DnR K r51)(d52:DnR K r52)(d53:MdR K aB r53)(d54:MdR K aB r54)(d55:MdR K aB r55)(d56:MdR K aB r56)(d57:MdR K aB r57)(d58:MdR K aB r58)(d59:MdR K aB r59)(d60:DnD K r60<|.int 1000 dF)(d61:DnR K r61)(d62:DnR K r62)(d63:DnR K r63)(d64:DnR K r64)(d65:DnR K r65)(d66:DnR K r66)(d67:DnR K r67)(d68:DnR K r68)(d69:DnR K r69)(d70:DnR K r70)(d71:DnR K r71)(d72:DnR K r72)(d73:DnR K r73)(d74:DnR K r74)(d75:DnR K r75)(ia:W.findIn K (.ref aD) "__init__"=some (some<|.ref cT))(ib:W.specialIn K (.ref aD) "__getattribute__"=some (some<|.builtin "type.__getattribute__"))(ic:W.readsIn K aD (.type "type")=true)(id_:W.findCls K (.ref aD) (.type "type") "__init__"=some (.val<|.ref cT))(ie:W.handedIn (.ref cT)=true)(cy:W.nsIn K mainGlobals "Ended"=some (some<|.ref aT))(cf:XC K aT)(co:W.findIn K (.ref aT) "end"=some none)(cp:W.mroIn K aT (.ref aT)=some true)(cl:XdR K aT "Ended.__init__" st0)(bG:W.nsIn K mainGlobals "MOST_PARTS"=some (some<|.int 300 bW))(a5:W.nsIn K mainGlobals "MOST_WITHIN"=some (some<|.int 20 bH))(a4:W.nsIn K mainGlobals "MOST_IN_ROW"=some (some<|.int 4 bA))(bE:W.nsIn K mainGlobals "LAST_PLACE"=some (some<|.int 599 bf))(b3:W.nsIn K mainGlobals "LETTERS"=some (some<|.str "abcdefghijklmnopqrstuvwxyz" cZ))(dA:W.nsIn K mainGlobals "OPS"=some (some<|.ref c4))(dD:TxA K c4<|(["add","sub","mul","less","same"]:List Str).map V.str)(cg:W.nsIn K mainGlobals "HEADS"=some (some<|.ref b5))(c7:TxA K b5<|(["fn","call","let","set","do","if","add","sub","mul","less","same","make","match","raise","try","tell","ask"]:List Str).map V.str)(c0:W.nsIn K mainGlobals "FORMS"=some (some<|.ref aF))(cz:K.lookup aF=some ⟨.type "dict",none,.dict bj c8,#[]⟩)(cr:PySem.W.KeysLit w.params bj.toList)(cn:(aF==sysModules)=false)(ci:nsB K aF dN=true)(cU:W.nsIn K aF "number"=some (some<|.ref au))(cs:TxA K au<|(["number"]:List Str).map V.str)(cS:W.nsIn K aF "name"=some (some<|.ref ar))(ce:TxA K ar<|(["used"]:List Str).map V.str)(cX:W.nsIn K aF "fn"=some (some<|.ref aw))(cu:TxA K aw<|(["names","part"]:List Str).map V.str)(cE:W.nsIn K aF "call"=some (some<|.ref ax))(cx:TxA K ax<|(["part","parts"]:List Str).map V.str)(cL:W.nsIn K aF "let"=some (some<|.ref ay))(cc:TxA K ay<|(["name","part","part"]:List Str).map V.str)(b9:W.nsIn K aF "set"=some (some<|.ref a1))(cw:TxA K a1<|(["used","part"]:List Str).map V.str)(cB:W.nsIn K aF "do"=some (some<|.ref a0))(c2:TxA K a0<|(["part","part"]:List Str).map V.str)(cP:W.nsIn K aF "if"=some (some<|.ref az))(cd:TxA K az<|(["part","part","part"]:List Str).map V.str)(cI:W.nsIn K aF "math"=some (some<|.ref a2))(cj:TxA K a2<|(["op","part","part"]:List Str).map V.str)(cW:W.nsIn K aF "make"=some (some<|.ref av))(ck:TxA K av<|(["word","parts"]:List Str).map V.str)(b0:W.nsIn K aF "match"=some (some<|.ref ae))(b8:TxA K ae<|(["part","word","names","part","part"]:List Str).map V.str)(bx:W.nsIn K aF "raise"=some (some<|.ref ai))(cA:TxA K ai<|(["word","part"]:List Str).map V.str)(b2:W.nsIn K aF "try"=some (some<|.ref ah))(cb:TxA K ah<|(["part","word","name","part"]:List Str).map V.str)(bv:W.nsIn K aF "tell"=some (some<|.ref ao))(cF:TxA K ao<|(["part"]:List Str).map V.str)(bw:W.nsIn K aF "ask"=some (some<|.ref al))(cR:TxA K al<|([]:List Str).map V.str)(cV:W.nsIn K mainGlobals "SCOPES"=some (some<|.ref aJ))(cD:K.lookup aJ=some ⟨.type "dict",none,.dict bB cv,#[]⟩)(cY:PySem.W.KeysLit w.params bB.toList)(cQ:(aJ==sysModules)=false)(cN:nsB K aJ fc=true)(b4:W.nsIn K aJ "fn"=some (some<|.ref ak))(cG:TxA K ak<|([2,3]:List Int).map V.int)(b1:W.nsIn K aJ "let"=some (some<|.ref ag))(cJ:TxA K ag<|([2,4]:List Int).map V.int)(b7:W.nsIn K aJ "match"=some (some<|.ref aj))(cK:TxA K aj<|([4,5]:List Int).map V.int)(bz:W.nsIn K aJ "try"=some (some<|.ref am))(cH:TxA K am<|([4,5]:List Int).map V.int)(bD:W.nsIn K mainGlobals "MOST_CALLS"=some (some<|.int 50 be))(bl:W.nsIn K mainGlobals "NO_DEEDS"=some (some<|.ref a3))(bu:TxA K a3<|(["let","do","try"]:List Str).map V.str)(c1:W.nsIn K mainGlobals "LEAVE"=some (some<|.ref b6))(c9:TxA K b6<|(["leave"]:List Str).map V.str)(bq:W.nsIn K mainGlobals "FINISHES"=some (some<|.ref aC))(br:K.lookup aC=some ⟨.type "dict",none,.dict aq bt,#[]⟩)(bo:PySem.W.KeysLit w.params aq.toList)(bp:(aC==sysModules)=false)(bk:nsB K aC eZ=true)(bb:W.nsIn K aC "let"=some (some<|.ref aZ))(bi:W.nsIn K mainGlobals "finish_let"=some (some<|.ref aZ))(bg:W.nsIn K aC "do"=some (some<|.ref ac))(ba:W.nsIn K mainGlobals "finish_do"=some (some<|.ref ac))(bT:W.nsIn K aC "try"=some (some<|.ref aU))(bN:W.nsIn K mainGlobals "finish_try"=some (some<|.ref aU))(bS:W.nsIn K aC "fn"=some (some<|.ref aa))(bK:W.nsIn K mainGlobals "finish_fn"=some (some<|.ref aa))(bc:W.nsIn K aC "call"=some (some<|.ref aW))(bX:W.nsIn K mainGlobals "finish_call"=some (some<|.ref aW))(bV:W.nsIn K aC "set"=some (some<|.ref ad))(bM:W.nsIn K mainGlobals "finish_set"=some (some<|.ref ad))(bQ:W.nsIn K aC "if"=some (some<|.ref aX))(bY:W.nsIn K mainGlobals "finish_if"=some (some<|.ref aX))(bL:W.nsIn K aC "math"=some (some<|.ref aV))(bd:W.nsIn K mainGlobals "finish_math"=some (some<|.ref aV))(bZ:W.nsIn K aC "make"=some (some<|.ref ab))(bJ:W.nsIn K mainGlobals "finish_make"=some (some<|.ref ab))(bR:W.nsIn K aC "match"=some (some<|.ref aY))(bU:W.nsIn K mainGlobals "finish_match"=some (some<|.ref aY))(a9:W.nsIn K aC "raise"=some (some<|.ref aQ))(bF:W.nsIn K mainGlobals "finish_raise"=some (some<|.ref aQ))(bI:W.nsIn K aC "tell"=some (some<|.ref aR))(bC:W.nsIn K mainGlobals "finish_tell"=some (some<|.ref aR))(a7:W.nsIn K aC "ask"=some (some<|.ref aS))(a8:W.nsIn K mainGlobals "finish_ask"=some (some<|.ref aS))(dE:∀ns:List Int,ns.length<=63->(zAw ups tab fw<|d+1).call 75 [.kl<|ns.map U.int] [] (λ_ _=>False) (λv _=>v=.bl true))
  :∃fd:FuncData,(∀(s:Shared)(v:Value),BindsTo s fd ⟨[v],[]⟩ [("_law_script",v)])/\∀base:Heap,K.In base->base.Ns mainGlobals mg->zAv l.prog w K mg base (CXo l.prog w) (2*(d+1)+1) fa fd ["_law_script"] (zDh K 63):=by
 have hgl:∀base,∀p∈gls,zDb l.prog w base (mkB K mg (cl8 aI aD aE aG aK aA aN aB) [(aF,dI,dN),(aJ,fB,fc),(aC,dW,eZ)]) ups tb rows p:=λbase=>(allc (let ⟨_,_,i0,i1,F⟩:=cl;Af (s0:="self") X G cy cf co cp i0 i1 F rfl (pM<|by kernel_rfl) rfl rfl (λ_ _ _ _ _ _ us hl=>by obtain⟨_,_,rfl⟩:=zF6<|show us.length=2 from hl;exact rfl))
   (allc (iC X G ap d1 rfl (mr 0 rfl) (xAc (i:=0) rfl) (bd3 rfl) (λ_=>cC) λz=>absurd z<|by decide +kernel)
   (allc (iC X G aP d2 rfl (mr 1 rfl) (xAc (i:=1) rfl) (bd2 rfl) (λ_=>bh) λ_=>xZ ia ib ic id_ ie)
   (allc (du X G d3 (mr 2 rfl)<|bd1 rfl)
   (allc (du X G d4 (mr 3 rfl)<|bd1 rfl)
   (allc (du X G d5 (mr 4 rfl)<|bd1 rfl)
   (allc (du X G d6 (mr 5 rfl)<|bd3 rfl)
   (allc (du X G d7 (mr 6 rfl)<|bd3 rfl)
   (allc (du X G d8 (mr 7 rfl)<|bd3 rfl)
   (allc (du X G d9 (mr 8 rfl)<|bd2 rfl)
   (allc (du X G d10 (mr 9 rfl)<|bd1 rfl)
   (allc (du X G d11 (mr 10 rfl)<|bd2 rfl)
   (allc (du X G d12 (mr 11 rfl)<|bd1 rfl)
   (allc (du X G d13 (mr 12 rfl)<|bd1 rfl)
   (allc (du X G d14 (mr 13 rfl)<|bd1 rfl)
   (allc (du X G d15 (mr 14 rfl)<|bd1 rfl)
   (allc (du X G d16 (mr 15 rfl)<|bd1 rfl)
   (allc (du X G d17 (mr 16 rfl)<|bd1 rfl)
   (allc (iC X G aO d18 rfl (mr 17 rfl) (xAc (i:=2) rfl) (bd1 rfl) (λz=>absurd z<|by decide +kernel) λz=>absurd z<|by decide +kernel)
   (allc (du X G d22 (mr 21 rfl)<|bd1 rfl)
   (allc (du X G d23 (mr 22 rfl)<|bd1 rfl)
   (allc (du X G d24 (mr 23 rfl)<|bd3 rfl)
   (allc (du X G d25 (mr 24 rfl)<|bd1 rfl)
   (allc (yc X G aM d26 rfl (mr 25 rfl) (xAc (i:=3) rfl) b26 (by decide +kernel)<|by decide +kernel)
   (allc (du X G d34 (mr 33 rfl)<|bd1 rfl)
   (allc (iC X G a6 d35 rfl (mr 34 rfl) (xAc (i:=4) rfl) (bd2 rfl) (λz=>absurd z<|by decide +kernel) λz=>absurd z<|by decide +kernel)
   (allc (iC X G aL d36 rfl (mr 35 rfl) (xAc (i:=5) rfl) (bd3 rfl) (λz=>absurd z<|by decide +kernel) λz=>absurd z<|by decide +kernel)
   (allc (iC X G bm d37 rfl (mr 36 rfl) (xAc (i:=6) rfl) (bd4 rfl) (λz=>absurd z<|by decide +kernel) λz=>absurd z<|by decide +kernel)
   (allc (du X G d38 (mr 37 rfl)<|bd3 rfl)
   (allc (du X G d39 (mr 38 rfl)<|bd1 rfl)
   (allc (du X G d40 (mr 39 rfl)<|bd3 rfl)
   (allc (du X G d41 (mr 40 rfl)<|bd3 rfl)
   (allc (du X G d42 (mr 41 rfl)<|bd3 rfl)
   (allc (du X G d43 (mr 42 rfl)<|bd3 rfl)
   (allc (du X G d44 (mr 43 rfl)<|bd3 rfl)
   (allc (du X G d45 (mr 44 rfl)<|bd3 rfl)
   (allc (du X G d46 (mr 45 rfl)<|bd3 rfl)
   (allc (du X G d47 (mr 46 rfl)<|bd3 rfl)
   (allc (du X G d48 (mr 47 rfl)<|bd3 rfl)
   (allc (du X G d49 (mr 48 rfl)<|bd3 rfl)
   (allc (du X G d50 (mr 49 rfl)<|bd3 rfl)
   (allc (du X G d51 (mr 50 rfl)<|bd3 rfl)
   (allc (du X G d52 (mr 51 rfl)<|bd3 rfl)
   (allc (iC X G aH d53 rfl (mr 52 rfl) (xAc (i:=7) rfl) (bd3 rfl) (λz=>absurd z<|by decide +kernel) λz=>absurd z<|by decide +kernel)
   (allc (ya X G d60 (mr 59 rfl) b60)
   (allc (du X G d61 (mr 60 rfl)<|bd2 rfl)
   (allc (du X G d62 (mr 61 rfl)<|bd1 rfl)
   (allc (du X G d63 (mr 62 rfl)<|bd1 rfl)
   (allc (du X G d64 (mr 63 rfl)<|bd2 rfl)
   (allc (du X G d65 (mr 64 rfl)<|bd1 rfl)
   (allc (du X G d66 (mr 65 rfl)<|bd1 rfl)
   (allc (du X G d67 (mr 66 rfl)<|bd4 rfl)
   (allc (du X G d68 (mr 67 rfl)<|bd3 rfl)
   (allc (du X G d69 (mr 68 rfl)<|bd2 rfl)
   (allc (du X G d70 (mr 69 rfl)<|bd3 rfl)
   (allc (du X G d71 (mr 70 rfl)<|bd2 rfl)
   (allc (du X G d72 (mr 71 rfl)<|bd4 rfl)
   (allc (du X G d73 (mr 72 rfl)<|bd2 rfl)
   (allc (du X G d74 (mr 73 rfl)<|bd2 rfl)
   (allc (du X G d75 (mr 74 rfl)<|show BdC r75 from bd1 rfl)
   (allc (iB X G bG)
   (allc (iB X G a5)
   (allc (iB X G a4)
   (allc (iB X G bE)
   (allc (x9 X G b3)
   (allc (nk X G dA λW=>(ktS dD) W)
   (allc (nk X G cg λW=>(ktS c7) W)
   (allc (rp X G c0<|xAc (i:=0) rfl)
   (allc (rp X G cV<|xAc (i:=1) rfl)
   (allc (iB X G bD)
   (allc (nk X G bl λW=>(ktS bu) W)
   (allc (nk X G c1 λW=>(ktS c9) W)
   (allc (rp X G bq<|xAc (i:=2) rfl)
   alln)))))))))))))))))))))))))))))))))))))))))))))))))))))))))))))))))))))))))
 have hms:∀p∈mss,zHl (mkB K mg (cl8 aI aD aE aG aK aA aN aB) [(aF,dI,dN),(aJ,fB,fc),(aC,dW,eZ)]) rows p:=(allc (eF (by kernel_rfl) aO d19 (mr 18 rfl) (xAc (i:=2) rfl)<|bd4 rfl)
   (allc (eF (by kernel_rfl) aO d20 (mr 19 rfl) (xAc (i:=2) rfl)<|bd2 rfl)
   (allc (eF (by kernel_rfl) aO d21 (mr 20 rfl) (xAc (i:=2) rfl)<|bd5 rfl)
   (allc (eF (by kernel_rfl) aM d27 (mr 26 rfl) (xAc (i:=3) rfl)<|bd2 rfl)
   (allc (eF (by kernel_rfl) aM d28 (mr 27 rfl) (xAc (i:=3) rfl)<|bd1 rfl)
   (allc (eF (by kernel_rfl) aM d29 (mr 28 rfl) (xAc (i:=3) rfl)<|bd2 rfl)
   (allc (eF (by kernel_rfl) aM d30 (mr 29 rfl) (xAc (i:=3) rfl)<|bd2 rfl)
   (allc (eF (by kernel_rfl) aM d31 (mr 30 rfl) (xAc (i:=3) rfl)<|bd1 rfl)
   (allc (eF (by kernel_rfl) aM d32 (mr 31 rfl) (xAc (i:=3) rfl)<|bd2 rfl)
   (allc (eF (by kernel_rfl) aM d33 (mr 32 rfl) (xAc (i:=3) rfl)<|bd2 rfl)
   (allc (eF (by kernel_rfl) aH d54 (mr 53 rfl) (xAc (i:=7) rfl)<|bd1 rfl)
   (allc (eF (by kernel_rfl) aH d55 (mr 54 rfl) (xAc (i:=7) rfl)<|bd4 rfl)
   (allc (eF (by kernel_rfl) aH d56 (mr 55 rfl) (xAc (i:=7) rfl)<|bd2 rfl)
   (allc (eF (by kernel_rfl) aH d57 (mr 56 rfl) (xAc (i:=7) rfl)<|bd2 rfl)
   (allc (eF (by kernel_rfl) aH d58 (mr 57 rfl) (xAc (i:=7) rfl)<|bd4 rfl)
   (allc (eF (by kernel_rfl) aH d59 (mr 58 rfl) (xAc (i:=7) rfl)<|bd3 rfl)
   alln))))))))))))))))
 have hcl:∀p∈(cl8 aI aD aE aG aK aA aN aB),Cls K p.2/\W.findIn K (.ref p.2) "__class__"=some (some<|.builtin "object.__class__")/\W.mroIn K p.2 (.type "object")=some true:=(allc ⟨ap.cls,ap.ha,ap.hm⟩
   (allc ⟨aP.cls,aP.ha,aP.hm⟩
   (allc ⟨aO.cls,aO.ha,aO.hm⟩
   (allc ⟨aM.cls,aM.ha,aM.hm⟩
   (allc ⟨a6.cls,a6.ha,a6.hm⟩
   (allc ⟨aL.cls,aL.ha,aL.hm⟩
   (allc ⟨bm.cls,bm.ha,bm.hm⟩
   (allc ⟨aH.cls,aH.ha,aH.hm⟩
   alln))))))))
 have hno:∀p∈(cl8 aI aD aE aG aK aA aN aB),zBu K p.2 fls=true:=(allc cq
   (allc bn
   (allc bs
   (allc ch
   (allc c3
   (allc af
   (allc dB
   (allc bP
   alln))))))))
 have hkd:∀q∈([(aF,dI,dN),(aJ,fB,fc),(aC,dW,eZ)]:List<|Addr×List (Str×U)×List Str),zI2 w (mkB K mg (cl8 aI aD aE aG aK aA aN aB) [(aF,dI,dN),(aJ,fB,fc),(aC,dW,eZ)]) q:=(allc ⟨⟨_,_,cz,cr,cn⟩,(allc ⟨.ref au,_,cU,rfl,λW=>(ktS cs) W⟩<|allc ⟨.ref ar,_,cS,rfl,λW=>(ktS ce) W⟩<|allc ⟨.ref aw,_,cX,rfl,λW=>(ktS cu) W⟩<|allc ⟨.ref ax,_,cE,rfl,λW=>(ktS cx) W⟩<|allc ⟨.ref ay,_,cL,rfl,λW=>(ktS cc) W⟩<|allc ⟨.ref a1,_,b9,rfl,λW=>(ktS cw) W⟩<|allc ⟨.ref a0,_,cB,rfl,λW=>(ktS c2) W⟩<|allc ⟨.ref az,_,cP,rfl,λW=>(ktS cd) W⟩<|allc ⟨.ref a2,_,cI,rfl,λW=>(ktS cj) W⟩<|allc ⟨.ref av,_,cW,rfl,λW=>(ktS ck) W⟩<|allc ⟨.ref ae,_,b0,rfl,λW=>(ktS b8) W⟩<|allc ⟨.ref ai,_,bx,rfl,λW=>(ktS cA) W⟩<|allc ⟨.ref ah,_,b2,rfl,λW=>(ktS cb) W⟩<|allc ⟨.ref ao,_,bv,rfl,λW=>(ktS cF) W⟩<|allc ⟨.ref al,_,bw,rfl,λW=>(ktS cR) W⟩ alln),ci⟩
   (allc ⟨⟨_,_,cD,cY,cQ⟩,(allc ⟨.ref ak,_,b4,rfl,λW=>(ktI cG) W⟩<|allc ⟨.ref ag,_,b1,rfl,λW=>(ktI cJ) W⟩<|allc ⟨.ref aj,_,b7,rfl,λW=>(ktI cK) W⟩<|allc ⟨.ref am,_,bz,rfl,λW=>(ktI cH) W⟩ alln),cN⟩
   (allc ⟨⟨_,_,br,bo,bp⟩,(allc ⟨.ref aZ,_,bb,rfl,λ_=>⟨_,rfl,W.mg_of X G bi⟩⟩<|allc ⟨.ref ac,_,bg,rfl,λ_=>⟨_,rfl,W.mg_of X G ba⟩⟩<|allc ⟨.ref aU,_,bT,rfl,λ_=>⟨_,rfl,W.mg_of X G bN⟩⟩<|allc ⟨.ref aa,_,bS,rfl,λ_=>⟨_,rfl,W.mg_of X G bK⟩⟩<|allc ⟨.ref aW,_,bc,rfl,λ_=>⟨_,rfl,W.mg_of X G bX⟩⟩<|allc ⟨.ref ad,_,bV,rfl,λ_=>⟨_,rfl,W.mg_of X G bM⟩⟩<|allc ⟨.ref aX,_,bQ,rfl,λ_=>⟨_,rfl,W.mg_of X G bY⟩⟩<|allc ⟨.ref aV,_,bL,rfl,λ_=>⟨_,rfl,W.mg_of X G bd⟩⟩<|allc ⟨.ref ab,_,bZ,rfl,λ_=>⟨_,rfl,W.mg_of X G bJ⟩⟩<|allc ⟨.ref aY,_,bR,rfl,λ_=>⟨_,rfl,W.mg_of X G bU⟩⟩<|allc ⟨.ref aQ,_,a9,rfl,λ_=>⟨_,rfl,W.mg_of X G bF⟩⟩<|allc ⟨.ref aR,_,bI,rfl,λ_=>⟨_,rfl,W.mg_of X G bC⟩⟩<|allc ⟨.ref aS,_,a7,rfl,λ_=>⟨_,rfl,W.mg_of X G a8⟩⟩ alln),bk⟩
   alln)))
 have pf:∀base,Pf l.prog w base (mkB K mg (cl8 aI aD aE aG aK aA aN aB) [(aF,dI,dN),(aJ,fB,fc),(aC,dW,eZ)]) ups tb rows:=λbase=>
  zp (hgl base) hms (λx hx=>W.mg_none_of X G<|jI<|xCx.mp dG x hx) (zF7 c5) (zF7 cm) (zF7 c6) (zF7 cM) (clF (λp hp=>(hcl p hp).1) hno) (clT hcl hn_ ht_) (kdF hkd)
 obtain⟨f,fd,h0,F⟩:=d75;have e:=hfa.symm.trans<|W.mg_of X G h0;cases e;refine⟨fd,λs v=>?_,λbase _ _=>?_⟩
 ·obtain⟨oc,od,kV,doc,pm,an,cdv,ct,osl,rfl,_⟩:=F.ex;exact .of_eq<|(show BdC r75 from bd1 rfl) kV doc pm an cdv ct [v] rfl
 ·exact(yN (fw:=fw) (pf base) zGq (r:=r75) (mr 74 rfl) (Fun.fa F) d).imp λvs H Q E z=>xJ (B:=mkB K mg (cl8 aI aD aE aG aK aA aN aB) [(aF,dI,dN),(aJ,fB,fc),(aC,dW,eZ)]) (zEj<|d+1) dE vs H Q E z
def rO(w jl pl:Nat):Ob:=.ins "SourceRun" [("world",.ref w),("jobs",.ref jl),("pile",.ref pl)]
def wO(il ll dl:Nat)(tk mo ca dp:Int):Ob:=.ins "World" [("inputs",.ref il),("taken",.int tk),("most",.int mo),("log",.ref ll),("deeds",.ref dl),("calls",.int ca),("deepest",.int dp)]
def jO(p:U)(sc:Nat)(la:Bool)(h:U)(c:Int):Ob:=.ins "Job" [("part",p),("scope",.ref sc),("last",.bl la),("height",h),("calls",.int c)]
def cO(u:U):Ob:=.ins "Cell" [("inside",u)]
def fO(pl:Int)(ps b:U)(sc:Nat):Ob:=.ins "SourceFunction" [("place",.int pl),("params",ps),("body",b),("scope",.ref sc)]
def bO(t:Str)(us:List U):Ob:=.ins "Block" [("tag",.str t),("fields",.tup us)]
structure Ad where
 r:Nat
 w:Nat
 il:Nat
 ll:Nat
 dl:Nat
 jl:Nat
 ks:List (Nat×List U)
structure Mc where
 pl:Nat
 js:List U
 ps:List U
 ds:List U
 lg:List U
 ca:Int
 dp:Int
 tk:Int
def kd:Ob->Str
 |.lst _=>""
 |.dct _=>"d"
 |.ins C _=>C
 |.dead=>"x"
def dRW:("SourceRun":Str)≠"World":=by decide
def dRl:("SourceRun":Str)≠"":=by decide
def dWl:("World":Str)≠"":=by decide
def dJR:("Job":Str)≠"SourceRun":=by decide
def dJW:("Job":Str)≠"World":=by decide
def dJl:("Job":Str)≠"":=by decide
section
variable{S S1 S2 S':So}{p q j j1:Nat}{o o1 o2 o':Ob}{A:Ad}{mo:Nat}{M:Mc}{xs:List U}{v:U}{cm cm1 cm2:List Nat}
def neK(h1:at? S p=some o1)(h2:at? S q=some o2)(h:kd o1≠kd o2):p≠q:=λe=>by
 subst e;rw[h1] at h2;injection h2 with h2;exact h (by rw[h2])
def atN(h:p≠q)(h2:at? S q=some o2):at? (set S p o') q=some o2:=by
 rw[zIz h];exact h2
def atK(h1:at? S p=some o1)(h2:at? S q=some o2)(h:kd o1≠kd o2):at? (set S p o') q=some o2:=atN (neK h1 h2 h) h2
structure RS(A:Ad)(mo:Nat)(M:Mc)(S:So):Prop where
 run:at? S A.r=some (rO A.w A.jl M.pl)
 wor:at? S A.w=some (wO A.il A.ll A.dl M.tk mo M.ca M.dp)
 jb:at? S A.jl=some (.lst M.js)
 pi:at? S M.pl=some (.lst M.ps)
 de:at? S A.dl=some (.lst M.ds)
 lo:at? S A.ll=some (.lst M.lg)
 n1:A.jl≠M.pl
 n2:A.jl≠A.dl
 n3:M.pl≠A.dl
 n4:A.jl≠A.ll
 n5:M.pl≠A.ll
 n6:A.dl≠A.ll
 cd:M.ca<=M.dp
 ke:∀k∈A.ks,at? S k.1=some (.lst k.2)
 m:∀k∈A.ks,A.jl≠k.1/\M.pl≠k.1/\A.dl≠k.1/\A.ll≠k.1
def RS.app(R:RS A mo M S):RS A mo M<|S++T:=⟨zA7 R.run,zA7 R.wor,zA7 R.jb,zA7 R.pi,zA7 R.de,zA7 R.lo,R.n1,R.n2,R.n3,R.n4,R.n5,R.n6,R.cd,λk h=>zA7<|R.ke k h,R.m⟩
def RS.oth(R:RS A mo M S)(h:at? S p=some o)(h1:kd o≠"SourceRun")(h2:kd o≠"World")(h3:kd o≠""):RS A mo M<|set S p o':=⟨atK h R.run h1,atK h R.wor h2,atK h R.jb h3,atK h R.pi h3,atK h R.de h3,atK h R.lo h3,R.n1,R.n2,R.n3,R.n4,R.n5,R.n6,R.cd,λk z=>atK h (R.ke k z) h3,R.m⟩
def RS.deed(R:RS A mo M S):RS A mo {M with ds:=xs}<|set S A.dl<|.lst xs:=⟨atK R.de R.run dRl.symm,atK R.de R.wor dWl.symm,atN R.n2.symm R.jb,atN R.n3.symm R.pi,zA0 R.de,atN R.n6 R.lo,R.n1,R.n2,R.n3,R.n4,R.n5,R.n6,R.cd,λk z=>atN (R.m k z).2.2.1<|R.ke k z,R.m⟩
def RS.told(R:RS A mo M S):RS A mo {M with lg:=xs}<|set S A.ll<|.lst xs:=⟨atK R.lo R.run dRl.symm,atK R.lo R.wor dWl.symm,atN R.n4.symm R.jb,atN R.n5.symm R.pi,atN R.n6.symm R.de,zA0 R.lo,R.n1,R.n2,R.n3,R.n4,R.n5,R.n6,R.cd,λk z=>atN (R.m k z).2.2.2<|R.ke k z,R.m⟩
def RS.jobs(R:RS A mo M S):RS A mo {M with js:=xs}<|set S A.jl<|.lst xs:=⟨atK R.jb R.run dRl.symm,atK R.jb R.wor dWl.symm,zA0 R.jb,atN R.n1 R.pi,atN R.n2 R.de,atN R.n4 R.lo,R.n1,R.n2,R.n3,R.n4,R.n5,R.n6,R.cd,λk z=>atN (R.m k z).1<|R.ke k z,R.m⟩
def RS.pile(R:RS A mo M S):RS A mo {M with ps:=xs}<|set S M.pl<|.lst xs:=⟨atK R.pi R.run dRl.symm,atK R.pi R.wor dWl.symm,atN R.n1.symm R.jb,zA0 R.pi,atN R.n3 R.de,atN R.n5 R.lo,R.n1,R.n2,R.n3,R.n4,R.n5,R.n6,R.cd,λk z=>atN (R.m k z).2.1<|R.ke k z,R.m⟩
def RS.cut(R:RS A mo M S):RS A mo {M with ps:=xs,pl:=S.length}<|set (S++[.lst xs]) A.r<|rO A.w A.jl S.length:=
 have R':=R.app (T:=[.lst xs])
 ⟨zA0 R'.run,atK R'.run R'.wor dRW,atK R'.run R'.jb dRl,atK R'.run zA6 dRl,atK R'.run R'.de dRl,atK R'.run R'.lo dRl,xA0<|zBx R.jb,R.n2,(xA0<|zBx R.de).symm,R.n4,(xA0<|zBx R.lo).symm,R.n6,R.cd,λk z=>atK R'.run (R'.ke k z) dRl,λk z=>⟨(R.m k z).1,(xA0<|zBx<|R.ke k z).symm,(R.m k z).2.2⟩⟩
def RS.calls(R:RS A mo M S){a b:Int}(h:a<=b):RS A mo {M with ca:=a,dp:=b}<|set S A.w<|wO A.il A.ll A.dl M.tk mo a b:=⟨atK R.wor R.run dRW.symm,zA0 R.wor,atK R.wor R.jb dWl,atK R.wor R.pi dWl,atK R.wor R.de dWl,atK R.wor R.lo dWl,R.n1,R.n2,R.n3,R.n4,R.n5,R.n6,h,λk z=>atK R.wor (R.ke k z) dWl,R.m⟩
def RS.take(R:RS A mo M S){a:Int}:RS A mo {M with tk:=a}<|set S A.w<|wO A.il A.ll A.dl a mo M.ca M.dp:=⟨atK R.wor R.run dRW.symm,zA0 R.wor,atK R.wor R.jb dWl,atK R.wor R.pi dWl,atK R.wor R.de dWl,atK R.wor R.lo dWl,R.n1,R.n2,R.n3,R.n4,R.n5,R.n6,R.cd,λk z=>atK R.wor (R.ke k z) dWl,R.m⟩
def fz(q j:Nat):Ob->Prop
 |.dct _=>True
 |.ins C _=>C≠"SourceRun"/\C≠"World"/\(C="Job"->q<j)
 |_=>False
structure Le(j:Nat)(S S':So):Prop where
 len:S.length<=S'.length
 ky:∀{q o},fz q j o->at? S q=some o->at? S' q=some o
theorem fz.up(f:fz q j o)(hj:j<=j1):fz q j1 o:=by
 cases o with
 |dct _=>trivial
 |ins C _=>exact⟨f.1,f.2.1,λe=>xBc (f.2.2 e) hj⟩
 |lst _=>exact f
 |dead=>exact f
def Le.refl:Le j S S:=⟨xAg _,λ_ h=>h⟩
def Le.trans(h1:Le j S S1)(h2:Le j1 S1 S2)(hj:j<=j1):Le j S S2:=⟨xCk h1.len h2.len,λf h=>h2.ky (f.up hj)<|h1.ky f h⟩
theorem Le.set(h:at? S p=some o)(hn:∀j,¬ fz p j o):Le j S<|set S p o':=⟨by rw[zBh];exact xAg _,λ{q o2} f h2=>atN (λe=>by
 subst e;rw[h] at h2;injection h2 with h2;rw[h2] at hn;exact hn _ f) h2⟩
def Le.setj{P:U}{sc:Nat}{h:U}{c:Int}(hj:at? S j=some (jO P sc la h c)):Le j S<|Fx.set S j o':=⟨by rw[zBh];exact xAg _,λ{q o2} f h2=>atN (λe=>by
 subst e;rw[hj] at h2;injection h2 with h2;rw[<- h2] at f;exact Nat.lt_irrefl _ (f.2.2 rfl)) h2⟩
def Le.app:Le j S<|S++T:=⟨by simp,λ_ h=>zA7 h⟩
structure Lw(j:Nat)(S S':So)(cm cm':List Nat):Prop where
 len:S.length<=S'.length
 ky:∀{q o},fz q j o->kd o≠"Cell"->at? S q=some o->at? S' q=some o
 ex:∃t,cm'=cm++t
def Le.lw(l:Le j S S'):Lw j S S' cm cm:=⟨l.len,λf _ h=>l.ky f h,[],(xB0 _).symm⟩
def Lw.at(l:Lw j S S' cm cm1){i a:Nat}(h:cm[i]?=some a):cm1[i]?=some a:=by
 obtain⟨t,rfl⟩:=l.ex;rw[xCm (xAq.mp h).1];exact h
def nzl:∀j,¬ fz p j (.lst xs):=λ_ h=>h
def nzr{a b c:Nat}:∀j,¬ fz p j (rO a b c):=λ_ h=>h.1 rfl
def nzw{a b c:Nat}{d e f g:Int}:∀j,¬ fz p j (wO a b c d e f g):=λ_ h=>h.2.1 rfl
def fzj{P:U}{sc:Nat}{h:U}{c:Int}(hn:q<j):fz q j<|jO P sc la h c:=⟨dJR,dJW,λ_=>hn⟩
def fzf{ps b:U}{sc:Nat}:fz q j<|fO pl ps b sc:=⟨by decide,by decide,λh=>absurd h<|by decide⟩
def fzb:fz q j<|bO t us:=⟨by decide,by decide,λh=>absurd h<|by decide⟩
def fzc{u:U}:fz q j<|cO u:=⟨by decide,by decide,λh=>absurd h<|by decide⟩
def Lw.job(l:Lw j S S' cm cm1){P:U}{sc:Nat}{h:U}{c:Int}(hn:q<j)(hq:at? S q=some (jO P sc la h c)):at? S' q=some (jO P sc la h c):=l.ky (fzj hn) (show("Job":Str)≠"Cell" by decide) hq
def zBt(S:So)(cm:List Nat)(env:List<|Str×Nat)(n sc:Nat):Prop:=∃kvs,at? S sc=some (.dct kvs)/\kvs.length<=n/\∀x i,zAj x env=some i->∃a,zBb (.inr x) kvs=some (.ref a)/\cm[i]?=some a
def zBt.lw{n sc:Nat}(h:zBt S cm env n sc)(l:Lw j S S' cm cm1):zBt S' cm1 env n sc:=by
 obtain⟨kvs,h1,h2,h3⟩:=h;refine⟨kvs,l.ky trivial (show("d":Str)≠"Cell" by decide) h1,h2,λx i e=>?_⟩;obtain⟨a,h4,h5⟩:=h3 x i e;exact⟨a,h4,l.at h5⟩
inductive Vl where
 |int (i:Int)|blk (t:Str) (Vs:List Vl)|fn (pl:Int) (ps:List Str) (b:U) (env:List (Str×Nat)) (n:Nat)
mutual
def VR(S:So)(cm:List Nat):Vl->U->Prop
 |.int i,u=>u=.int i
 |.blk t Vs,u=>∃p us,u=.ref p/\at? S p=some (bO t us)/\VRs S cm Vs us
 |.fn pl ps b env n,u=>∃p sc,u=.ref p/\at? S p=some (fO pl (.tup<|ps.map .str) b sc)/\zBt S cm env n sc
def VRs(S:So)(cm:List Nat):List Vl->List U->Prop
 |[],us=>us=[]
 |V::Vs,us=>∃u us',us=u::us'/\VR S cm V u/\VRs S cm Vs us'
end
mutual
theorem VR.lw(l:Lw j S S' cm cm1):∀{V:Vl}{u:U},VR S cm V u->VR S' cm1 V u
 |.int i,u,h=>h
 |.blk t Vs,u,h=>by
  unfold VR at h⊢;obtain⟨p,us,e,h,r⟩:=h;exact⟨p,us,e,l.ky fzb (show("Block":Str)≠"Cell" by decide) h,VRs.lw l r⟩
 |.fn pl ps b env n,u,h=>by
  unfold VR at h⊢;obtain⟨p,sc,e,h1,h2⟩:=h;exact⟨p,sc,e,l.ky fzf (show("SourceFunction":Str)≠"Cell" by decide) h1,h2.lw l⟩
theorem VRs.lw(l:Lw j S S' cm cm1):∀{Vs:List Vl}{us:List U},VRs S cm Vs us->VRs S' cm1 Vs us
 |[],us,h=>h
 |V::Vs,us,h=>by
  unfold VRs at h⊢;obtain⟨u,us',e,h1,h2⟩:=h;exact⟨u,us',e,VR.lw l h1,VRs.lw l h2⟩
end
structure zA2(S:So)(cm:List Nat)(γ:List Vl):Prop where
 len:cm.length=γ.length
 nd:cm.Nodup
 at_:∀{i:Nat}{V:Vl},γ[i]?=some V->∃a u,cm[i]?=some a/\at? S a=some (cO u)/\VR S cm V u
def zA2.le(h:zA2 S cm γ)(l:Le j S S'):zA2 S' cm γ:=⟨h.len,h.nd,λe=>by
 obtain⟨a,u,h1,h2,h3⟩:=h.at_ e;exact⟨a,u,h1,l.ky fzc h2,VR.lw l.lw h3⟩⟩
def zA2.cell(h:zA2 S cm γ){i a:Nat}(e:cm[i]?=some a):∃u,at? S a=some (cO u):=by
 obtain⟨hi,_⟩:=xAq.mp e;have hi':i<γ.length:=by rw[<- h.len];exact hi
 obtain⟨a',u,h1,h2,_⟩:=h.at_<|xAk hi';rw[e] at h1;cases h1;exact⟨u,h2⟩
def zA2.push{V:Vl}{a:Nat}{u:U}(h:zA2 S cm γ)(l:Le j S S')(hn:S.length<=a)(ha:at? S' a=some (cO u))(hV:VR S cm V u):zA2 S' (cm++[a]) (γ++[V])/\Lw j S S' cm (cm++[a]):=by
 have lw:Lw j S S' cm<|cm++[a]:=⟨l.len,λf _ h=>l.ky f h,_,rfl⟩
 refine⟨⟨by rw[xAb,xAb,h.len];rfl,?_,λ{i W} e=>?_⟩,lw⟩
 ·refine xBq.mpr ⟨h.nd,xCb.mpr ⟨λz=>(nomatch z),List.nodup_nil⟩,λx hx y hy=>?_⟩;cases xAm.mp hy;obtain⟨i,hi⟩:=List.getElem?_of_mem hx;obtain⟨u',hu⟩:=h.cell hi;have:=zBx hu;lia
 ·rcases Nat.lt_or_ge i γ.length with hi|hi
  ·rw[xCm hi] at e;obtain⟨b,u',h1,h2,h3⟩:=h.at_ e;exact⟨b,u',lw.at h1,l.ky fzc h2,VR.lw lw h3⟩
  ·rw[xCl hi] at e;have:i-γ.length=0:=by
    have:=(xAq.mp e).1;simp at this;lia
   rw[this] at e;cases e;refine⟨a,u,?_,ha,VR.lw lw hV⟩;rw[show i=cm.length by rw[h.len];lia,xCl<|xAg _,Nat.sub_self];rfl
end
@[irreducible] noncomputable def Gd (fw d:Nat):Gx Prop:=zAw ups tab fw d
def iO:Gd fw d=zAw ups tab fw d:=by unfold Gd;rfl
section
variable{fw d i:Nat}{p:Pm}{vs:List U}{S S':So}{x:Kx Prop}{k:Kv Prop}{v:U}{a b:Unit->Prop}{de:De}
def pd(e:pr ups p vs S=.ok v S')(h:k v S'):(Gd fw d).prim p vs S x k:=by rw[iO];exact pm e h
def pv(v:U)(h:k v S)(e:pr ups p vs S=.ok v S:=by rfl):(Gd fw d).prim p vs S x k:=pd e h
def bT(h:a ()):(Gd fw d).br true a b:=by rw[iO];exact brT h
def bF(h:b ()):(Gd fw d).br false a b:=by rw[iO];exact brF h
def bI{c:Bool}(h1:c=true->a ())(h2:c=false->b ()):(Gd fw d).br c a b:=by
 cases c
 ·exact bF<|h2 rfl
 ·exact bT<|h1 rfl
def cd(de:De)(h:de.t (Gd fw d) (stU de.n vs) S<|zAo x k)(e:tab i=some de:=by kernel_rfl)(hl:vs.length=de.np:=by rfl):(Gd fw<|d+1).call i vs S x k:=by
 rw[iO] at h⊢;exact zHb e hl h
def cm{x':Kx Prop}{k':Kv Prop}(hx:∀e S,x' e S->x e S)(hk:∀v S,k' v S->k v S)(h:(Gd fw d).call i vs S x' k'):(Gd fw d).call i vs S x k:=by
 rw[iO] at h⊢;exact(zEj d).call hx hk h
theorem fuel:(Gd fw d).fuel=fw:=by
 rw[iO];cases d <;> rfl
end
local macro_rules | `(tactic| walk_at "m")=>`(tactic| first | refine pd (dX (by assumption) rfl) ?_ | refine bT ?_ | refine bF ?_ | refine pd (gp (by assumption) rfl) ?_ | refine pd (fq (by assumption)) ?_ | refine pd (by rfl) ?_)
section
variable{fw d:Nat}{S S1 S2 S':So}{j j1:Nat}{A:Ad}{mo:Nat}{M:Mc}{x:Kx Prop}{K:Kv Prop}{u v:U}
def uw{p:Int}(R:RS A mo M S)(hm:mo<=2000)(hk:M.ds.length<mo->RS A mo {M with ds:=M.ds++[.int p]} (set S A.dl<|.lst<|M.ds++[.int p])->K .non (set S A.dl<|.lst<|M.ds++[.int p]))(hx:mo<=M.ds.length->x ⟨"Ended",[("end",.tup [.str "dry"])]⟩ S):(Gd fw<|d+1).call 27 [.ref A.w,.int p] S x K:=by
 refine cd ⟨2,2,t27⟩ ?_;have h1:=R.wor;have h2:=R.de;walk_at"m"
 refine pd (fY h2) ?_;walk_at"m"
 walk_at"m"
 refine bI (λh=>?_) λh=>?_
 ·exact hx (by simpa using h)
 ·have h3:M.ds.length<mo:=by simpa using h
  walk_at"m"
  walk_at"m"
  refine pd (dM h2<|by show _<=2^24;lia) ?_;exact hk h3 R.deed
def wy{p:Int}(R:RS A mo M S)(hl:M.lg.length<=900000)(hk:∀S',RS A mo {M with lg:=M.lg++[.int p]} S'->(∀j,Le j S S')->K .non S'):(Gd fw<|d+1).call 29 [.ref A.w,.int p] S x K:=by
 refine cd ⟨2,2,t29⟩ ?_;have h1:=R.wor;have h2:=R.lo;walk_at"m"
 walk_at"m"
 refine pd (dM h2<|by show _<=2^24;lia) ?_;exact hk _ R.told λj=>Le.set h2 nzl
def sg{p:Int}(R:RS A mo M S)(h:M.ca<50)(hk:∀S',RS A mo {M with ca:=M.ca+1,dp:=if M.ca+1>M.dp then M.ca+1 else M.dp} S'->(∀j,Le j S S')->K .non S'):(Gd fw<|d+1).call 30 [.ref A.w,.int p] S x K:=by
 refine cd ⟨2,2,t30⟩ ?_;have h1:=R.wor;walk_at"m"
 refine pd (v:=.bl false) (S':=S) (by show Res.ok (.bl<|decide<|(50:Int)<=M.ca) S=_;rw[xCn<|by lia]) ?_;walk_at"m"
 walk_at"m"
 walk_at"m"
 refine pd (dU (fs':=[("inputs",.ref A.il),("taken",.int M.tk),("most",.int mo),("log",.ref A.ll),("deeds",.ref A.dl),("calls",.int<|M.ca+1),("deepest",.int M.dp)]) h1 (by rfl) rfl) ?_;have h2:=zA0 (o':=wO A.il A.ll A.dl M.tk mo (M.ca+1) M.dp) h1;walk_at"m"
 walk_at"m"
 walk_at"m"
 refine pd (dU (fs':=[("inputs",.ref A.il),("taken",.int M.tk),("most",.int mo),("log",.ref A.ll),("deeds",.ref A.dl),("calls",.int<|M.ca+1),("deepest",.int<|if M.ca+1>M.dp then M.ca+1 else M.dp)]) h2 (by rfl) rfl) ?_;rw[zC4];exact hk _ (R.calls<|by split <;> lia) λj=>Le.set h1 nzw
def qT(R:RS A mo M S)(hk:∀S',RS A mo {M with ca:=M.ca-1} S'->(∀j,Le j S S')->K .non S'):(Gd fw<|d+1).call 31 [.ref A.w] S x K:=by
 refine cd ⟨1,1,t31⟩ ?_;have h1:=R.wor;have:=R.cd;walk_at"m"
 walk_at"m"
 refine pd (dU (fs':=[("inputs",.ref A.il),("taken",.int M.tk),("most",.int mo),("log",.ref A.ll),("deeds",.ref A.dl),("calls",.int<|M.ca-1),("deepest",.int M.dp)]) h1 (by rfl) rfl) ?_;exact hk _ (R.calls<|by lia) λj=>Le.set h1 nzw
def vb{c:Int}(R:RS A mo M S)(hc:c<=M.dp)(hk:∀S',RS A mo {M with ca:=c} S'->(∀j,Le j S S')->K .non S'):(Gd fw<|d+1).call 32 [.ref A.w,.int c] S x K:=by
 refine cd ⟨2,2,t32⟩ ?_;have h1:=R.wor;refine pd (dU (fs':=[("inputs",.ref A.il),("taken",.int M.tk),("most",.int mo),("log",.ref A.ll),("deeds",.ref A.dl),("calls",.int c),("deepest",.int M.dp)]) h1 (by rfl) rfl) ?_;exact hk _ (R.calls hc) λj=>Le.set h1 nzw
def xX{q t:Nat}{u:U}(h:at? S q=some (.lst ins))(hu:ins[t]?=some u):pr ups .ix [.ref q,.int t] S=.ok u S:=by
 show ixU (.ref q) (.int t) S=_;unfold ixU;dsimp only;rw[h];dsimp only;rw[dZ hu];rfl
def sY{u:U}{t:Nat}(R:RS A mo M S)(hi:(A.il,ins)∈A.ks)(ht:M.tk=t)(hu:ins[t]?=some u)(hk:∀S',RS A mo {M with tk:=M.tk+1} S'->(∀j,Le j S S')->K u S'):(Gd fw<|d+1).call 28 [.ref A.w] S x K:=by
 have hl:=(xAq.mp hu).1;refine cd ⟨1,1,t28⟩ ?_;have h1:=R.wor;have h2:=R.ke _ hi;refine pd (dX h1 rfl)<|pd (dX h1 rfl)<|pd (fY h2) ?_;refine pd (v:=.bl false) (S':=S) (by show Res.ok (.bl<|decide<|M.tk=(ins.length:Int)) S=_;rw[xCn<|by lia]) ?_;refine bF<|pd (dX h1 rfl)<|pv (.int<|M.tk+1) ?_;refine pd (dU (fs':=[("inputs",.ref A.il),("taken",.int<|M.tk+1),("most",.int mo),("log",.ref A.ll),("deeds",.ref A.dl),("calls",.int M.ca),("deepest",.int M.dp)]) h1 (by rfl) rfl) ?_;have R':=R.take (a:=M.tk+1);have h3:=R'.wor;have h4:=R'.ke _ hi;refine pd (dX h3 rfl)<|pd (dX h3 rfl) ?_;refine pd (v:=.int t) (S':=set S A.w<|wO A.il A.ll A.dl (M.tk+1) mo M.ca M.dp) (by show Res.ok (.int<|M.tk+1-1) _=_;rw[show M.tk+1-1=(t:Int) by lia];rfl) ?_;refine pd (xX h4 hu) ?_;exact hk _ R' λj=>Le.set h1 nzw
def rd{p:U}{sc:Nat}(hk:K .non<|S++[jO p sc la .non 0]):(Gd fw<|d+1).call 37 [.ref S.length,p,.ref sc,.bl la] (S++[.ins "Job" []]) x K:=by
 refine cd ⟨4,4,t37⟩ ?_;refine pd (dS (by rfl) rfl) ?_;refine pd (dS (by rfl) rfl) ?_;refine pd (dS (by rfl) rfl) ?_;refine pd (dS (by rfl) rfl) ?_;refine pd (dS (by rfl) rfl) ?_;exact hk
def fE{p:U}{sc:Nat}(R:RS A mo M S)(hl:M.js.length<=1000000)(hk:∀S' q,RS A mo {M with js:=M.js++[.ref q]} S'->(∀j,Le j S S')->S.length<=q->at? S' q=some (jO p sc la .non 0)->K .non S'):(Gd fw<|d+2).call 55 [.ref A.r,p,.ref sc,.bl la] S x K:=by
 refine cd ⟨4,4,t55⟩ ?_;have h1:=R.run;have h2:=R.jb;walk_at"m"
 walk_at"m"
 walk_at"m"
 refine rd ?_;have R':=R.app (T:=[jO p sc la .non 0]);refine pd (dM R'.jb<|by show _<=2^24;lia) ?_;exact hk _ S.length R'.jobs (λj=>Le.app.trans (Le.set R'.jb nzl)<|xAg _) (xAg _)<|atK R'.jb zA6 dJl.symm
def sB{u:U}(hk:K .non<|S++[cO u]):(Gd fw<|d+1).call 35 [.ref S.length,u] (S++[.ins "Cell" []]) x K:=by
 refine cd ⟨2,2,t35⟩ ?_;refine pd (dS (by rfl) rfl) ?_;exact hk
def wu{n sc:Nat}{cm:List Nat}{V:Vl}(R:RS A mo M S)(he:zBt S cm env n sc)(hC:zA2 S cm γ)(hn:n<=1000000)(hV:VR S cm V u){vs:U}(hv:sqF vs=some [u])(hk:∀S' sc' a,RS A mo M S'->(∀j,Le j S S')->zBt S' (cm++[a]) ((y,γ.length)::env) (n+1) sc'->zA2 S' (cm++[a]) (γ++[V])->K (.ref sc') S'):(Gd fw<|d+2).call 38 [.ref sc,.tup [.str y],vs] S x K:=by
 refine cd ⟨3,6,t38⟩ ?_;obtain⟨kvs,h1,h2,h3⟩:=he;refine pd (ki h1) ?_;refine pd (v:=.tup [.tup [.str y,u]]) (S':=S++[.dct kvs]) (by delta pr;dsimp only;rw[hv];rfl) ?_;walk_at"m"
 refine sB ?_;refine pd (jy (kvs:=kvs) (zA7 zA6)<|by show _<=2^24;lia) ?_;have e3:(S++[Ob.dct kvs]).length=S.length+1:=by simp
 have e:set (S++[Ob.dct kvs]++[cO u]) S.length (.dct<|putK (.inr y) (.ref<|S.length+1) kvs)=S++[.dct<|putK (.inr y) (.ref<|S.length+1) kvs,cO u]:=by
  rw[xAx];exact zC5
 rw[e3,e];have l:∀j,Le j S<|S++[.dct<|putK (.inr y) (.ref<|S.length+1) kvs,cO u]:=λj=>Le.app;have p:=λj=>hC.push (V:=V) (l j) (Nat.le_succ S.length) zDy hV;refine hk _ S.length (S.length+1) R.app l ⟨_,zEa,xCk hZ (by lia),λz i e=>?_⟩ (p 0).1;by_cases hz:z=y
 ·subst hz;have:i=γ.length:=by simpa [zAj] using e.symm
  subst this;refine⟨_,rA,?_⟩;rw[<- hC.len,xCl<|xAg _,Nat.sub_self];rfl
 ·have:zAj z env=some i:=by simpa [zAj,hz] using e
  obtain⟨a,h4,h5⟩:=h3 z i this;exact⟨a,by rw[uP<|by simpa using hz];exact h4,(p 0).2.at h5⟩
end
def dz{up:List<|Str×Str}{a b:Str}(h:a=b):pr up .eq [.str a,.str b] S=.ok (.bl true) S:=by
 show Res.ok (.bl<|decide<|a=b) S=_;rw[xBd h]
def dh{up:List<|Str×Str}{a b:Str}(h:a≠b:=by decide):pr up .eq [.str a,.str b] S=.ok (.bl false) S:=by
 show Res.ok (.bl<|decide<|a=b) S=_;rw[xCn h]
def gn{up:List<|Str×Str}{S:So}{v:U}{r:List U}:pr up .ix [.tup<|v::r,.int 0] S=.ok v S:=by
 show opt (atI (v::r) ((0:Nat):Int)) S=_;rw[dZ (v:=v) rfl];rfl
local macro_rules | `(tactic| walk_at "w")=>`(tactic| repeat first | refine pd (dz rfl) ?_ | refine pd (dh (by first | assumption | decide)) ?_ | refine pd (dX (by assumption) rfl) ?_ | refine bT ?_ | refine bF ?_ | refine pd (gp (by assumption) rfl) ?_ | refine pd (fq (by assumption)) ?_ | refine pd (by rfl) ?_ | refine pd gn ?_)
section
variable{fw d:Nat}{S S1 S2 S':So}{j j1:Nat}{A:Ad}{mo:Nat}{M:Mc}{x:Kx Prop}{K:Kv Prop}{u v:U}{p:Nat}{C:Str}{fs:List<|Str×U}
def eW{i:Int}(hk:K (.bl true) S):(Gd fw<|d+1).call 3 [.int i] S x K:=by
 refine cd ⟨1,1,t3⟩ ?_;walk_at"w"
 exact hk
def gQ(h:at? S p=some (.ins C fs))(hk:K (.bl false) S):(Gd fw<|d+1).call 3 [.ref p] S x K:=by
 refine cd ⟨1,1,t3⟩ ?_;refine pd (v:=.bl false) (S':=S) (by delta pr;dsimp only[tyU];rw[h];rfl) ?_;walk_at"w"
 exact hk
def eP{D:Str}(h:at? S p=some (.ins C fs)):pr ups (.isC D) [.ref p] S=.ok (.bl<|isC ups C D) S:=by
 show zFl D (.ref p) S ups=_;unfold zFl;dsimp only;rw[h]
def wc{ps:List U}{b:U}{sc:Nat}(h:at? S p=some (fO pl (.tup ps) b sc))(hk:K .non S):(Gd fw<|d+1).call 9 [.ref p,.int ps.length] S x K:=by
 refine cd ⟨2,2,t9⟩ ?_;refine pd (v:=.bl true) (S':=S) (by rw[eP h];rfl) ?_;walk_at"w"
 refine bI (λ_=>?_) λh=>absurd (show(ps.length:Int)=ps.length from rfl)<|xBf h;exact hk
def pU{a b:Int}(hk:K (.int<|a+b) S):(Gd fw<|d+1).call 7 [.str "add",.int a,.int b] S x K:=by
 refine cd ⟨3,3,t7⟩ ?_;walk_at"w"
 exact hk
def pT{a b:Int}(hk:K (.int<|a-b) S):(Gd fw<|d+1).call 7 [.str "sub",.int a,.int b] S x K:=by
 refine cd ⟨3,3,t7⟩ ?_;walk_at"w"
 exact hk
def nY{a b:Int}(hk:K (.int<|if a<b then 1 else 0) S):(Gd fw<|d+1).call 7 [.str "less",.int a,.int b] S x K:=by
 refine cd ⟨3,3,t7⟩ ?_;walk_at"w"
 refine bI (λh=>?_) λh=>?_
 ·rw[xCg<|xBe h] at hk;exact hk
 ·rw[xCf<|xBf h] at hk;exact hk
def big(i:Int):Prop:=10^40<=(if i<0 then -i else i)
instance:Decidable<|big i:=inferInstanceAs<|Decidable<|_<=_
def mres(i:Int):U:=if big i then .tup [.str "big",.int 0] else .tup [.non,.int i]
def qR{a b r:Int}(hr:∀{fw d:Nat}{S:So}{x:Kx Prop}{K:Kv Prop},K (.int r) S->(Gd fw<|d+1).call 7 [.str op,.int a,.int b] S x K)(hk:K (mres r) S):(Gd fw<|d+2).call 6 [.str op,.int a,.int b] S x K:=by
 refine cd ⟨3,4,t6⟩ ?_;refine eW ?_;walk_at"w"
 refine eW ?_;walk_at"w"
 refine hr ?_;walk_at"w"
 unfold mres at hk;refine bI (λh=>?_) λh=>?_
 ·rw[xCg<|show big r from xBe h] at hk;exact hk
 ·rw[xCf<|show ¬ big r from xBf h] at hk;exact hk
def gZ{i:Int}(hk:K (.int i) S):(Gd fw<|d+1).call 5 [.int i] S x K:=by
 refine cd ⟨1,1,t5⟩ ?_;walk_at"w"
 exact hk
def nU{i:Int}(hk:K (.int i) S):(Gd fw<|d+2).call 4 [.int i] S x K:=by
 refine cd ⟨1,1,t4⟩ ?_;walk_at"w"
 exact gZ hk
def FP(part:U)(ops:List U):Prop:=∀{fw d:Nat}{S:So}{x:Kx Prop}{K:Kv Prop},K (.tup ops) S->(Gd fw<|d+2).call 39 [part] S x K
def lN{a p w n q:U}:FP (.tup [.str "try",a,p,w,n,q]) [p]:=λ{fw d S x K} hk=>by
 refine cd ⟨1,1,t39⟩ ?_;walk_at"w"
 exact hk
def Ai{a n q:U}:FP (.tup [.str "fn",a,n,q]) []:=λ{fw d S x K} hk=>by
 refine cd ⟨1,1,t39⟩ ?_;walk_at"w"
 refine cd ⟨1,2,t12⟩ ?_;walk_at"w"
 exact hk
def uS{a f:U}{as:List U}(ha:as.length<=1000:=by simp):FP (.tup [.str "call",a,f,.tup as])<|f::as:=λ{fw d S x K} hk=>by
 refine cd ⟨1,1,t39⟩ ?_;walk_at"w"
 refine cd ⟨1,2,t12⟩ ?_;walk_at"w"
 refine pd (v:=.tup<|f::as) (S':=S) (zBw<|by show 1+as.length<=2^24;lia) ?_;exact hk
def jL{a o p q:U}:FP (.tup [.str "math",a,o,p,q]) [p,q]:=λ{fw d S x K} hk=>by
 refine cd ⟨1,1,t39⟩ ?_;walk_at"w"
 refine cd ⟨1,2,t12⟩ ?_;walk_at"w"
 exact hk
def nt{a o:U}{ps:List U}:FP (.tup [.str "make",a,o,.tup ps]) ps:=λ{fw d S x K} hk=>by
 refine cd ⟨1,1,t39⟩ ?_;walk_at"w"
 refine cd ⟨1,2,t12⟩ ?_;walk_at"w"
 exact hk
def rB{a o p:U}:FP (.tup [.str "raise",a,o,p]) [p]:=λ{fw d S x K} hk=>by
 refine cd ⟨1,1,t39⟩ ?_;walk_at"w"
 refine cd ⟨1,2,t12⟩ ?_;walk_at"w"
 exact hk
def Ah{a p q r:U}:FP (.tup [.str "if",a,p,q,r]) [p]:=λ{fw d S x K} hk=>by
 refine cd ⟨1,1,t39⟩ ?_;walk_at"w"
 refine cd ⟨1,2,t12⟩ ?_;walk_at"w"
 exact hk
def rC{a p w n q r:U}:FP (.tup [.str "match",a,p,w,n,q,r]) [p]:=λ{fw d S x K} hk=>by
 refine cd ⟨1,1,t39⟩ ?_;walk_at"w"
 refine cd ⟨1,2,t12⟩ ?_;walk_at"w"
 exact hk
def uR{a p:U}:FP (.tup [.str "tell",a,p]) [p]:=λ{fw d S x K} hk=>by
 refine cd ⟨1,1,t39⟩ ?_;walk_at"w"
 refine cd ⟨1,2,t12⟩ ?_;walk_at"w"
 exact hk
def ye{a:U}:FP (.tup [.str "ask",a]) []:=λ{fw d S x K} hk=>by
 refine cd ⟨1,1,t39⟩ ?_;walk_at"w"
 refine cd ⟨1,2,t12⟩ ?_;walk_at"w"
 exact hk
def yL(hk:K .non<|S++[bO t us]):(Gd fw<|d+1).call 1 [.ref S.length,.str t,.lst us] (S++[.ins "Block" []]) x K:=by
 refine cd ⟨3,3,t1⟩ ?_;refine pd (dS (by rfl) rfl) ?_;walk_at"w"
 refine pd (dS (by rfl) rfl) ?_;exact hk
def zX(h:at? S p=some (bO t us))(hk:K (.tup us) S):(Gd fw<|d+1).call 8 [.ref p,.str t,.int us.length] S x K:=by
 refine cd ⟨3,3,t8⟩ ?_;refine pd (v:=.bl true) (S':=S) (by rw[eP h];rfl) ?_;walk_at"w"
 refine bI (λ_=>?_) λh=>absurd (show(us.length:Int)=us.length from rfl)<|xBf h;walk_at"w"
 exact hk
def y7{k:Str}{ps b:U}{sc:Nat}(hk:K .non<|S++[fO pl ps b sc]):(Gd fw<|d+2).call 36 [.ref S.length,.tup [.str k,.int pl,ps,b],.ref sc] (S++[.ins "SourceFunction" []]) x K:=by
 refine cd ⟨3,3,t36⟩ ?_;walk_at"w"
 refine cd ⟨2,2,t2⟩ ?_;refine pd (dS (by rfl) rfl) ?_;walk_at"w"
 refine pd (dS (by rfl) rfl) ?_;walk_at"w"
 refine pd (dS (by rfl) rfl) ?_;refine pd (dS (by rfl) rfl) ?_;exact hk
end
def zEo:TTx Prop:=tB<|cP .tru<|aC (cP (.fld "jobs")<|aC (cV 0) aN) aN
def zIx:TSx Prop:=sQ (sA 1<|cBM "list" .pop (cP (.fld "jobs")<|aC (cV 0) aN) aN)<|sQ (sI (tB<|cP .isN<|aC (cP (.fld "height")<|aC (cV 1) aN) aN) (sQ (sE<|cM "SourceRun" "begin" 56 (cV 0) (aC (cV 1) aN) []) sN)<|sQ (sE<|cM "SourceRun" "finish" 57 (cV 0) (aC (cV 1) aN) []) sN) sN
def zIl:TSx Prop:=sQ (sR<|cP .ix<|zAp (cP (.fld "pile")<|aC (cV 0) aN)<|cC<|.int 0) sN
def wt:t54=sQ (sW zEo zIx) zIl:=rfl
def Lp(fw d r:Nat)(E:Ee Prop)(n:Nat)(S:So):Prop:=∀o,whK (λσ1 S1 k=>zEo (Gd fw d) σ1 S1 (λx S2=>E.x x σ1 S2) k) (λσ1 S1 nx=>zIx (Gd fw d) σ1 S1<|lpE E nx) (Gd fw d).br (Gd fw d).fail n [some<|.ref r,o] S E.nx
section
variable{fw d n:Nat}{S S1 S2 S':So}{j j1:Nat}{A:Ad}{mo:Nat}{M:Mc}{x:Kx Prop}{K:Kv Prop}{u v:U}{E:Ee Prop}{J:List U}{P:U}{sc:Nat}{la:Bool}{h:U}{c:Int}
def xH(R:RS A mo M S)(hj:M.js=[])(hk:∀o,E.nx [some<|.ref A.r,o] S):Lp fw d A.r E (n+1) S:=λo=>by
 have h1:=R.run;have h2:=R.jb;rw[hj] at h2;show zEo _ _ _ _ _;walk_at"w"
 refine pd (fS h2) ?_;walk_at"w"
 exact hk o
def eu(R:RS A mo M S)(hj:M.js=J++[.ref j])(hb:at? S j=some (jO P sc la .non c))(hk:∀S1,RS A mo {M with js:=J} S1->(∀j,Le j S S1)->at? S1 j=some (jO P sc la .non c)->(Gd fw d).call 56 [.ref A.r,.ref j] S1 (λe S'=>∀σ,E.x e σ S') (λ_ S'=>Lp fw d A.r E n S')):Lp fw d A.r E (n+1) S:=λo=>by
 have h1:=R.run;have h2:=R.jb;rw[hj] at h2;show zEo _ _ _ _ _;walk_at"w"
 refine pd (fS h2) ?_;rw[show(!(J++[U.ref j]).isEmpty)=true by simp];walk_at"w"
 refine pd (ig h2) ?_;have R1:=R.jobs (xs:=J);have h3:=R1.run;have h4:at? (set S A.jl<|.lst J) j=some (jO P sc la .non c):=atK R.jb hb dJl.symm;walk_at"w"
 refine cm (λe S' z=>?_) (λv S' z=>?_)<|hk _ R1 (λj=>Le.set R.jb nzl) h4
 ·exact z _
 ·exact z _
def iZ{i:Int}(R:RS A mo M S)(hj:M.js=J++[.ref j])(hb:at? S j=some (jO P sc la (.int i) c))(hk:∀S1,RS A mo {M with js:=J} S1->(∀j,Le j S S1)->at? S1 j=some (jO P sc la (.int i) c)->(Gd fw d).call 57 [.ref A.r,.ref j] S1 (λe S'=>∀σ,E.x e σ S') (λ_ S'=>Lp fw d A.r E n S')):Lp fw d A.r E (n+1) S:=λo=>by
 have h1:=R.run;have h2:=R.jb;rw[hj] at h2;show zEo _ _ _ _ _;walk_at"w"
 refine pd (fS h2) ?_;rw[show(!(J++[U.ref j]).isEmpty)=true by simp];walk_at"w"
 refine pd (ig h2) ?_;have R1:=R.jobs (xs:=J);have h3:=R1.run;have h4:at? (set S A.jl<|.lst J) j=some (jO P sc la (.int i) c):=atK R.jb hb dJl.symm;walk_at"w"
 refine cm (λe S' z=>?_) (λv S' z=>?_)<|hk _ R1 (λj=>Le.set R.jb nzl) h4
 ·exact z _
 ·exact z _
end
section
variable{fw d n:Nat}{S S1 S2 S':So}{j j1:Nat}{A:Ad}{mo:Nat}{M:Mc}{x:Kx Prop}{K:Kv Prop}{u v:U}{E:Ee Prop}{J:List U}{P:U}{sc:Nat}{la:Bool}{h:U}{c:Int}
def vw{i:Int}(R:RS A mo M S)(hl:M.ps.length<=1000000)(hb:at? S j=some (jO (.tup [.str "number",.int pl,.int i]) sc la .non c))(hk:∀S',RS A mo {M with ps:=M.ps++[.int i]} S'->(∀j,Le j S S')->K .non S'):(Gd fw<|d+1).call 56 [.ref A.r,.ref j] S x K:=by
 refine cd ⟨2,4,t56⟩ ?_;have h1:=R.run;have h2:=R.pi;walk_at"w"
 refine pd (dM h2<|by show _<=2^24;lia) ?_;exact hk _ R.pile λj=>Le.set R.pi nzl
def sM{cm:List Nat}{i:Nat}{V:Vl}(R:RS A mo M S)(hl:M.ps.length<=1000000)(hb:at? S j=some (jO (.tup [.str "name",.int pl,.str y]) sc la .non c))(he:zBt S cm env n sc)(hC:zA2 S cm γ)(hy:zAj y env=some i)(hi:γ[i]?=some V)(hk:∀S' u,RS A mo {M with ps:=M.ps++[u]} S'->(∀j,Le j S S')->VR S' cm V u->K .non S'):(Gd fw<|d+1).call 56 [.ref A.r,.ref j] S x K:=by
 refine cd ⟨2,4,t56⟩ ?_;have h1:=R.run;have h2:=R.pi;obtain⟨kvs,e1,e2,e3⟩:=he;obtain⟨a,e4,e5⟩:=e3 _ _ hy;obtain⟨b,u,f1,f2,f3⟩:=hC.at_ hi;rw[e5] at f1;cases f1;walk_at"w"
 refine pd (ly e1 e4) ?_;walk_at"w"
 refine pd (dM h2<|by show _<=2^24;lia) ?_;exact hk _ u R.pile (λj=>Le.set R.pi nzl)<|f3.lw (Le.set (j:=0) R.pi nzl).lw
def o8(R:RS A mo M S)(hb:at? S j=some (jO (.kt [.str "leave"]) sc la .non c))(hk:∀S',RS A mo {M with ca:=M.ca-1} S'->(∀j,Le j S S')->K .non S'):(Gd fw<|d+2).call 56 [.ref A.r,.ref j] S x K:=by
 refine cd ⟨2,4,t56⟩ ?_;have h1:=R.run;have h2:=R.wor;walk_at"w"
 refine qT R hk
inductive JF(S:So)(sc lo:Nat):Nat->List U->List U->Prop
 |nil {hi:Nat}:JF S sc lo hi [] []
 |cons {op:U} {ops js:List U} {q hi:Nat} (h:JF S sc lo q ops js) (hq:at? S q=some (jO op sc false .non 0)) (h1:lo<=q) (h2:q<hi):JF S sc lo hi (op::ops) (js++[.ref q])
theorem JF.le{hi:Nat}{cm cm':List Nat}(l:Lw j S S' cm cm')(hj:hi<=j)(h:JF S sc lo hi ops js):JF S' sc lo hi ops js:=by
 induction h with
 |nil=>exact .nil
 |cons h hq h1 h2 ih=>exact .cons (ih<|by lia) (l.job (by lia) hq) h1 h2
theorem JF.hi{lo hi hi':Nat}{ops js:List U}(h:JF S sc lo hi ops js)(hh:hi<=hi'):JF S sc lo hi' ops js:=by
 induction h with
 |nil=>exact .nil
 |cons h hq h1 h2 ih=>exact .cons h hq h1 (by lia)
theorem JF.len{hi:Nat}(h:JF S sc lo hi ops js):js.length=ops.length:=by
 induction h with
 |nil=>rfl
 |cons h hq h1 h2 ih=>simp[ih]
def zJ2:TSx Prop:=sQ (sE<|cM "SourceRun" "add_job" 55 (cV 0) (aC (cV 3)<|aC (cP (.fld "scope")<|aC (cV 1) aN)<|aC (cC<|.bl false) aN) []) sN
theorem adds{d:Nat}{k0:Option U}{E':Ee Prop}{kk:Sg->So->Prop}{lo:Nat}:∀(rs ops:List U){js:List U}{S:So}{M:Mc}{o:Option U},M.js=J++js->RS A mo M S->at? S j=some (jO P sc la h c)->j<lo->lo<=S.length->JF S sc lo S.length ops js->J.length+rs.length+ops.length<=900000 ->
  (∀S' js' o',RS A mo {M with js:=J++js'} S'->Le j S S'->at? S' j=some (jO P sc la h c)->JF S' sc lo S'.length (rs.reverse++ops) js'->kk [some<|.ref A.r,some<|.ref j,k0,o'] S') ->
  zB4 rs (λw σ1 S2 nx=>tgt [3] true (Gd fw<|d+2) w σ1 λσ2=>zJ2 (Gd fw<|d+2) σ2 S2<|lpE E' nx) [some<|.ref A.r,some<|.ref j,k0,o] S kk
 |[],ops,js,S,M,o,e,R,hb,hj,hl,f,hc,hk=>by
  refine hk S js o ?_ Le.refl hb f;rw[<- e];exact R
 |r::rs,ops,js,S,M,o,e,R,hb,hj,hl,f,hc,hk=>by
  have h1:=R.run;have e2:=f.len;simp only[xAo] at hc;walk_at"w"
  refine fE R (by rw[e,xAb];lia) λS' q R' l hq hq'=>?_;have e3:M.js++[U.ref q]=J++(js++[.ref q]):=by rw[e,xAx]
  rw[e3] at R';refine adds rs (r::ops) (M:={M with js:=J++(js++[.ref q])}) rfl R' ((l<|j+1).ky (fzj<|by lia) hb) hj (xCk hl (l 0).len) (.cons ((f.le (cm:=[]) (l<|S.length).lw<|by lia).hi hq) hq' (by lia)<|zBx hq') (by simp only[xAo];lia) λS'' js' o' R'' l' hb' f'=>?_;refine hk S'' js' o' R'' ((l j).trans l'<|xAg _) hb' ?_;rw[List.reverse_cons,xAx];exact f'
def gb{k:Str}{r:List U}(R:RS A mo M S)(hP:P=.tup (.str k::r))(k1:k≠"number")(k2:k≠"name")(k3:k≠"leave")(fp:FP P ops)(hl:M.js.length+ops.length+1<=900000)(hb:at? S j=some (jO P sc la .non c))(hk:∀S' js,RS A mo {M with js:=M.js++[.ref j]++js} S'->Le j S S'->at? S' j=some (jO P sc la (.int M.ps.length) M.ca)->JF S' sc S.length S'.length ops js->K .non S'):(Gd fw<|d+3).call 56 [.ref A.r,.ref j] S x K:=by
 refine cd ⟨2,4,t56⟩ ?_;have h1:=R.run;have h2:=R.pi;have h3:=R.wor;have hb':=hb;rw[hP] at hb';walk_at"w"
 refine pd (fY h2) ?_;refine pd (dU (fs':=[("part",P),("scope",.ref sc),("last",.bl la),("height",.int M.ps.length),("calls",.int c)]) hb (by rfl) rfl) ?_;have R1:=R.oth (o':=jO P sc la (.int M.ps.length) c) hb dJR dJW dJl;have g1:=R1.run;have g2:=R1.wor;have g3:=zA0 (o':=jO P sc la (.int M.ps.length) c) hb;walk_at"w"
 refine pd (dU (fs':=[("part",P),("scope",.ref sc),("last",.bl la),("height",.int M.ps.length),("calls",.int M.ca)]) g3 (by rfl) rfl) ?_;rw[zC4];have R2:=R.oth (o':=jO P sc la (.int M.ps.length) M.ca) hb dJR dJW dJl;have l2:=Le.setj (o':=jO P sc la (.int M.ps.length) M.ca) hb;have f1:=R2.run;have f2:=R2.jb;have f3:=zA0 (o':=jO P sc la (.int M.ps.length) M.ca) hb;walk_at"w"
 refine pd (dM f2<|by show _<=2^24;lia) ?_;have R3:=R2.jobs (xs:=M.js++[.ref j]);have g4:at? (set (set S j<|jO P sc la (.int M.ps.length) M.ca) A.jl<|.lst<|M.js++[.ref j]) j=some (jO P sc la (.int M.ps.length) M.ca):=atK f2 f3 dJl.symm;walk_at"w"
 refine fp ?_;walk_at"w"
 refine adds (J:=M.js++[.ref j]) (lo:=S.length) ops.reverse [] (js:=[]) (M:={M with js:=M.js++[.ref j]}) (by simp) R3 g4 (zBx hb) (by rw[zBh,zBh];exact xAg _) .nil (by simp;lia) λS' js' o' R' l' hb' f'=>?_;refine hk S' js' R' ((l2.trans (Le.set f2 nzl)<|xAg _).trans l'<|xAg _) hb' ?_;rw[List.reverse_reverse,xB0] at f';exact f'
end
section
variable{fw d n:Nat}{S S1 S2 S':So}{j j1:Nat}{A:Ad}{mo:Nat}{M:Mc}{x:Kx Prop}{K:Kv Prop}{u v:U}{E:Ee Prop}{J:List U}{P:U}{sc:Nat}{la:Bool}{h:U}{c:Int}
def ii{up:List<|Str×Str}{v w:U}{r:List U}:pr up .ix [.tup<|w::v::r,.int 1] S=.ok v S:=by
 show opt (atI (w::v::r) ((1:Nat):Int)) S=_;rw[dZ (v:=v) rfl];rfl
def AX{fs:List<|Str×Nat×Nat}{f:TEx Prop}{as:TAx Prop}{G:Gx Prop}{σ:Sg}{k:Kv Prop}{i:Nat}(hf:∀kk:Kv Prop,kk (.gl g) S->f G σ S x kk)(hg:zAj g fs=some (i,m))(h:as G σ S x λvs S2=>G.call i vs S2 x k):cD fs f as G σ S x k:=by
 unfold cD;refine hf _ ?_;dsimp only;rw[hg];exact h
def fins:List<|Str×Nat×Nat:=[("finish_let",40,3),("finish_do",41,3),("finish_try",42,3),("finish_fn",43,3),("finish_call",44,3),("finish_set",45,3),("finish_if",46,3),("finish_math",47,3),("finish_make",48,3),("finish_match",49,3),("finish_raise",50,3),("finish_tell",51,3),("finish_ask",52,3)]
def zG8:Xc:=⟨"Ended",[("end",.tup [.str "dry"])]⟩
theorem rH{k:Str}{i:Nat}{b:Bool}{r:List U}(R:RS A mo M S)(hm:mo<=2000)(hP:P=.tup (.str k::.int pl::r))(hb:at? S j=some (jO P sc la (.int ps0.length) c))(hps:M.ps=ps0++us)(hn:(!zB5 (.str k) [.str "let",.str "do",.str "try"])=b)(hg:zAj k dW=some (.gl g))(hi:zAj g fins=some (i,m))(hk:∀S' q,RS A mo ⟨q,M.js,ps0,M.ds++(if b then[.int pl] else[]),M.lg,M.ca,M.dp,M.tk⟩ S'->(∀j,Le j S S')->at? S' j=some (jO P sc la (.int ps0.length) c)->(b=true->M.ds.length<mo)->(Gd fw<|d+1).call i [.ref A.r,.ref j,.lst us] S' x (λ_ S'=>K .non S'))(hx:b=true->mo<=M.ds.length->∀S' q,RS A mo ⟨q,M.js,ps0,M.ds,M.lg,M.ca,M.dp,M.tk⟩ S'->x zG8 S'):(Gd fw<|d+2).call 57 [.ref A.r,.ref j] S x K:=by
 refine cd ⟨2,3,t57⟩ ?_;have h1:=R.run;have h2:=R.pi;rw[hps] at h2;walk_at"w"
 refine pd (wT h2) ?_;walk_at"w"
 refine pd (qf h2) ?_;have g1:=(R.app (T:=[.lst ps0])).run;refine pd (dU (fs':=[("world",.ref A.w),("jobs",.ref A.jl),("pile",.ref S.length)]) g1 (by rfl) rfl) ?_;have R1:=R.cut (xs:=ps0);have l1:∀j,Le j S<|set (S++[.lst ps0]) A.r<|rO A.w A.jl S.length:=λj=>Le.app.trans (Le.set g1 nzr)<|xAg _;have hb1:=(l1<|j+1).ky (fzj<|by lia) hb;change RS _ _ _ (set (S++[.lst ps0]) A.r<|.ins "SourceRun" [("world",.ref A.w),("jobs",.ref A.jl),("pile",.ref S.length)]) at R1;change ∀j,Le j S (set (S++[.lst ps0]) A.r<|.ins "SourceRun" [("world",.ref A.w),("jobs",.ref A.jl),("pile",.ref S.length)]) at l1;change at? (set (S++[.lst ps0]) A.r<|.ins "SourceRun" [("world",.ref A.w),("jobs",.ref A.jl),("pile",.ref S.length)]) j=_ at hb1;generalize set (S++[.lst ps0]) A.r (.ins "SourceRun" [("world",.ref A.w),("jobs",.ref A.jl),("pile",.ref S.length)])=T at R1 l1 hb1⊢;have f1:=R1.run;have f2:=R1.wor;have hb2:=hb1;rw[hP] at hb2;walk_at"w"
 rw[hn];have last:∀{T':So}{ds:List U},(∀j,Le j T T')->RS A mo ⟨S.length,M.js,ps0,ds,M.lg,M.ca,M.dp,M.tk⟩ T'->ds=M.ds++(if b then[.int pl] else[])->(b=true->M.ds.length<mo)->(sQ (sE<|cD fins (cP .ix<|zAp (cC lI)<|cP .ix<|zAp (cP (.fld "part")<|aC (cV 1) aN)<|cC<|.int<|0)<|aC (cV 0)<|aC (cV 1)<|aC (cV 2) aN) sN) (Gd fw<|d+1) [some<|.ref A.r,some<|.ref j,some<|.lst us] T' (zAo x K):=by
  intro T' ds l2 R2 e hlt;rw[e] at R2;have f3:=(l2<|j+1).ky (fzj<|by lia) hb1;have hb3:=f3;rw[hP] at hb3;refine AX (g:=g) (i:=i) (m:=m) (λkk z=>?_) hi ?_
  ·walk_at"w"
   refine pd (v:=.gl g) (S':=T') (by show opt (zAj k dW) T'=_;rw[hg];rfl) ?_;exact z
  ·exact hk T' S.length R2 (λj=>(l1 j).trans (l2 j)<|xAg _) f3 hlt
 cases b with
 |false=>
  refine bF ?_;exact last (λj=>Le.refl) R1 (by simp) λz=>nomatch z
 |true=>
  walk_at"w"
  refine pd ii ?_;refine uw R1 hm (λhl R2=>?_) λhl=>?_
  ·exact last (λj=>Le.set R1.de nzl) R2 rfl λ_=>hl
  ·exact hx rfl hl T S.length R1
def zHt:TTx Prop:=tB<|cP .tru<|aC (cP (.fld "jobs")<|aC (cV 0) aN) aN
def zIw:TSx Prop:=sQ (sA 4<|cBM "list" .pop (cP (.fld "jobs")<|aC (cV 0) aN) aN)<|sQ (sI (tAn (tB<|cP .eq<|zAp (cP .ix<|zAp (cP (.fld "part")<|aC (cV 4) aN)<|cC<|.int 0)<|cC<|.str "try")<|tAn (tB<|cP .notN<|aC (cP (.fld "height")<|aC (cV 4) aN) aN)<|tB<|cP .eq<|zAp (cP .ix<|zAp (cP (.fld "part")<|aC (cV 4) aN)<|cC<|.int 3)<|cV 1) (sQ (sE<|cM "SourceRun" "catch" 59 (cV 0) (aC (cV 4)<|aC (cV 2) aN) [])<|sQ sRN sN) sN) sN
def zG7:TSx Prop:=sQ (sX "Ended" ["end"]<|aC (cT<|aC (cC<|.str "fault")<|aC (cV 1)<|aC (cF 4 (aC (cV 2) aN) [])<|aC (cV 3) aN) aN) sN
def wq:t58=sQ (sW zHt zIw) zG7:=rfl
def Fl(fw d r:Nat)(w:Str)(u:U)(pl:Int)(x:Kx Prop)(K:Kv Prop)(m:Nat)(S:So):Prop:=∀o,whK (λσ1 S1 k=>zHt (Gd fw d) σ1 S1 (λe S2=>x e S2) k) (λσ1 S1 nx=>zIw (Gd fw d) σ1 S1<|lpE (sqE (zAo x K) λσ1 S1=>zG7 (Gd fw d) σ1 S1<|zAo x K) nx) (Gd fw d).br (Gd fw d).fail m [some<|.ref r,some<|.str w,some u,some<|.int pl,o] S λσ1 S1=>zG7 (Gd fw d) σ1 S1<|zAo x K
def fm{w:Str}(h:Fl fw d A.r w u pl x K fw S):(Gd fw<|d+1).call 58 [.ref A.r,.str w,u,.int pl] S x K:=by
 refine cd ⟨4,5,t58⟩ ?_;rw[wq];show whK _ _ _ _ (Gd fw d).fuel _ _ _;rw[fuel];exact h none
variable{w:Str}{pl:Int}{m:Nat}
def yh{f:U}(R:RS A mo M S)(hj:M.js=[])(hs:∀{d:Nat}{x:Kx Prop}{K:Kv Prop},K f S->(Gd fw<|d+2).call 4 [u] S x K)(hx:x ⟨"Ended",[("end",.tup [.str "fault",.str w,f,.int pl])]⟩ S):Fl fw (d+2) A.r w u pl x K (m+1) S:=λo=>by
 have h1:=R.run;have h2:=R.jb;rw[hj] at h2;walk_at"w"
 refine pd (fS h2) ?_;walk_at"w"
 refine hs ?_;exact hx
def rD{k:Str}{r:List U}(R:RS A mo M S)(hj:M.js=J++[.ref j])(hP:P=.tup (.str k::r)\/P=.kt (.str k::r))(hb:at? S j=some (jO P sc la h c))(hn:k≠"try"\/h=.non)(hk:∀S1,RS A mo {M with js:=J} S1->(∀j,Le j S S1)->Fl fw d A.r w u pl x K m S1):Fl fw d A.r w u pl x K (m+1) S:=λo=>by
 have h1:=R.run;have h2:=R.jb;rw[hj] at h2;walk_at"w"
 refine pd (fS h2) ?_;rw[show(!(J++[U.ref j]).isEmpty)=true by simp];walk_at"w"
 refine pd (ig h2) ?_;have R1:=R.jobs (xs:=J);have h3:=R1.run;have h4:at? (set S A.jl<|.lst J) j=some (jO P sc la h c):=atK R.jb hb dJl.symm;walk_at"w"
 have e0:pr ups .ix [P,.int 0] (set S A.jl<|.lst J)=.ok (.str k) (set S A.jl<|.lst J):=by
  rcases hP with rfl|rfl
  ·exact gn
  ·show opt (atI (.str k::r) ((0:Nat):Int)) _=_;rw[dZ (v:=.str k) rfl];rfl
 refine pd e0 ?_;by_cases hk':k="try"
 ·refine pd (dz hk') ?_;rcases hn with hn|rfl
  ·exact absurd hk' hn
  ·walk_at"w"
   exact hk _ R1 (λj=>Le.set R.jb nzl) _
 ·refine pd (dh hk') ?_;refine bF<|bF ?_;exact hk _ R1 (λj=>Le.set R.jb nzl) _
def yf{i:Int}{p1 p2:U}{w':Str}(R:RS A mo M S)(hj:M.js=J++[.ref j])(hP:P=.tup [.str "try",p1,p2,.str w',p4,p5])(hb:at? S j=some (jO P sc la (.int i) c))(hn:w'≠w)(hk:∀S1,RS A mo {M with js:=J} S1->(∀j,Le j S S1)->Fl fw d A.r w u pl x K m S1):Fl fw d A.r w u pl x K (m+1) S:=λo=>by
 have h1:=R.run;have h2:=R.jb;rw[hj] at h2;walk_at"w"
 refine pd (fS h2) ?_;rw[show(!(J++[U.ref j]).isEmpty)=true by simp];walk_at"w"
 refine pd (ig h2) ?_;have R1:=R.jobs (xs:=J);have h3:=R1.run;have h4:at? (set S A.jl<|.lst J) j=some (jO P sc la (.int i) c):=atK R.jb hb dJl.symm;rw[hP] at h4;walk_at"w"
 exact hk _ R1 (λj=>Le.set R.jb nzl) _
def yg{i:Int}{p1 p2:U}(R:RS A mo M S)(hj:M.js=J++[.ref j])(hP:P=.tup [.str "try",p1,p2,.str w,p4,p5])(hb:at? S j=some (jO P sc la (.int i) c))(hk:∀S1,RS A mo {M with js:=J} S1->(∀j,Le j S S1)->at? S1 j=some (jO P sc la (.int i) c)->(Gd fw d).call 59 [.ref A.r,.ref j,u] S1 x (λ_ S'=>K .non S')):Fl fw d A.r w u pl x K (m+1) S:=λo=>by
 have h1:=R.run;have h2:=R.jb;rw[hj] at h2;walk_at"w"
 refine pd (fS h2) ?_;rw[show(!(J++[U.ref j]).isEmpty)=true by simp];walk_at"w"
 refine pd (ig h2) ?_;have R1:=R.jobs (xs:=J);have h3:=R1.run;have h4:at? (set S A.jl<|.lst J) j=some (jO P sc la (.int i) c):=atK R.jb hb dJl.symm;rw[hP] at h4;walk_at"w"
 exact hk _ R1 (λj=>Le.set R.jb nzl) (by rw[hP];exact h4)
end
section
variable{fw d n:Nat}{S S1 S2 S':So}{j j1:Nat}{A:Ad}{mo:Nat}{M:Mc}{x:Kx Prop}{K:Kv Prop}{u v:U}{E:Ee Prop}{J:List U}{P:U}{sc:Nat}{la:Bool}{h:U}{c:Int}{w:Str}{pl:Int}{m:Nat}{env:List<|Str×Nat}{cm:List Nat}{γ:List Vl}
def sC{V:Vl}{p1 p2 q:U}{ex:List U}(R:RS A mo M S)(hP:P=.tup [.str "try",p1,p2,p3,.str y,q])(hb:at? S j=some (jO P sc la (.int ps0.length) c))(hps:M.ps=ps0++ex)(hc:c<=M.dp)(he:zBt S cm env n sc)(hC:zA2 S cm γ)(hn:n<=900000)(hl:M.js.length<=900000)(hV:VR S cm V u)(hk:∀S' a b sc' z,RS A mo ⟨a,M.js++[.ref b],ps0,M.ds,M.lg,c,M.dp,M.tk⟩ S'->(∀j,Le j S S')->S.length<=b->at? S' b=some (jO q sc' la .non 0)->zBt S' (cm++[z]) ((y,γ.length)::env) (n+1) sc'->zA2 S' (cm++[z]) (γ++[V])->K .non S'):(Gd fw<|d+3).call 59 [.ref A.r,.ref j,u] S x K:=by
 refine cd ⟨3,3,t59⟩ ?_;have h1:=R.run;have h2:=R.pi;rw[hps] at h2;walk_at"w"
 refine pd (qf h2) ?_;have g1:=(R.app (T:=[.lst ps0])).run;refine pd (dU (fs':=[("world",.ref A.w),("jobs",.ref A.jl),("pile",.ref S.length)]) g1 (by rfl) rfl) ?_;have R1:=R.cut (xs:=ps0);have l1:∀j,Le j S<|set (S++[.lst ps0]) A.r<|rO A.w A.jl S.length:=λj=>Le.app.trans (Le.set g1 nzr)<|xAg _;have hb1:=(l1<|j+1).ky (fzj<|by lia) hb;change RS _ _ _ (set (S++[.lst ps0]) A.r<|.ins "SourceRun" [("world",.ref A.w),("jobs",.ref A.jl),("pile",.ref S.length)]) at R1;change ∀j,Le j S (set (S++[.lst ps0]) A.r<|.ins "SourceRun" [("world",.ref A.w),("jobs",.ref A.jl),("pile",.ref S.length)]) at l1;change at? (set (S++[.lst ps0]) A.r<|.ins "SourceRun" [("world",.ref A.w),("jobs",.ref A.jl),("pile",.ref S.length)]) j=_ at hb1;generalize set (S++[.lst ps0]) A.r (.ins "SourceRun" [("world",.ref A.w),("jobs",.ref A.jl),("pile",.ref S.length)])=T at R1 l1 hb1⊢;have f1:=R1.run;have f2:=R1.wor;walk_at"w"
 refine vb R1 hc λT2 R2 l2=>?_;have l2':=λj=>(l1 j).trans (l2 j)<|xAg _;have hb2:=(l2<|j+1).ky (fzj<|by lia) hb1;have f3:=R2.run;rw[hP] at hb2;walk_at"w"
 refine wu (env:=env) (V:=V) R2 (he.lw (l2' 0).lw) (hC.le<|l2' 0) (by lia) (hV.lw (l2' 0).lw) rfl λT3 sc' z R3 l3 he3 hC3=>?_;have hb3:=(l3<|j+1).ky (fzj<|by lia) hb2;walk_at"w"
 refine fE R3 (by show M.js.length<=_;lia) λT4 b R4 l4 hb4 hj4=>?_;have l34:=λj=>(l2' j).trans (l3 j)<|xAg _;exact hk T4 _ b sc' z R4 (λj=>(l34 j).trans (l4 j)<|xAg _) (xCk (l34 0).len hb4) hj4 (he3.lw (l4 0).lw)<|hC3.le<|l4 0
def Ar(R:RS A mo M S)(hl:M.ps.length<=900000)(hk:∀S',RS A mo {M with ps:=M.ps++[u]} S'->(∀j,Le j S S')->K .non S'):(Gd fw<|d+1).call 42 [.ref A.r,.ref j,.lst [u]] S x K:=by
 refine cd ⟨3,3,t42⟩ ?_;have h1:=R.run;have h2:=R.pi;walk_at"w"
 refine pd (dM h2<|by show _<=2^24;lia) ?_;exact hk _ R.pile λj=>Le.set R.pi nzl
def Br{vs q:U}{ps:List Str}(R:RS A mo M S)(hb:at? S j=some (jO (.tup [.str "fn",.int pl,.tup<|ps.map .str,q]) sc la h c))(he:zBt S cm env n sc)(hl:M.ps.length<=900000)(hk:∀S' u,RS A mo {M with ps:=M.ps++[u]} S'->(∀j,Le j S S')->VR S' cm (.fn pl ps q env n) u->K .non S'):(Gd fw<|d+3).call 43 [.ref A.r,.ref j,vs] S x K:=by
 refine cd ⟨3,3,t43⟩ ?_;have h1:=R.run;have h2:=R.pi;walk_at"w"
 refine y7 ?_;have R':=R.app (T:=[fO pl (.tup<|ps.map .str) q sc]);refine pd (dM R'.pi<|by show _<=2^24;lia) ?_;have l:∀j,Le j S<|set (S++[fO pl (.tup<|ps.map .str) q sc]) M.pl<|.lst<|M.ps++[.ref S.length]:=λj=>Le.app.trans (Le.set R'.pi nzl)<|xAg _;exact hk _ _ R'.pile l (by unfold VR;exact⟨S.length,sc,rfl,(Le.set (j:=0) R'.pi nzl).ky fzf zA6,he.lw (l 0).lw⟩)
def zDa{p1:U}(R:RS A mo M S)(hb:at? S j=some (jO (.tup [.str "make",p1,.str t,p3]) sc la h c))(hV:VRs S cm Vs us)(hl:M.ps.length<=900000)(hk:∀S' u,RS A mo {M with ps:=M.ps++[u]} S'->(∀j,Le j S S')->VR S' cm (.blk t Vs) u->K .non S'):(Gd fw<|d+2).call 48 [.ref A.r,.ref j,.lst us] S x K:=by
 refine cd ⟨3,3,t48⟩ ?_;have h1:=R.run;have h2:=R.pi;walk_at"w"
 refine yL ?_;have R':=R.app (T:=[bO t us]);refine pd (dM R'.pi<|by show _<=2^24;lia) ?_;have l:∀j,Le j S<|set (S++[bO t us]) M.pl<|.lst<|M.ps++[.ref S.length]:=λj=>Le.app.trans (Le.set R'.pi nzl)<|xAg _;exact hk _ _ R'.pile l (by unfold VR;exact⟨S.length,us,rfl,(Le.set (j:=0) R'.pi nzl).ky fzb zA6,VRs.lw (l 0).lw hV⟩)
def AK{vs:U}{t:Nat}(R:RS A mo M S)(hi:(A.il,ins)∈A.ks)(ht:M.tk=t)(hu:ins[t]?=some u)(hl:M.ps.length<=900000)(hk:∀S',RS A mo {M with ps:=M.ps++[u],tk:=M.tk+1} S'->(∀j,Le j S S')->K .non S'):(Gd fw<|d+2).call 52 [.ref A.r,.ref j,vs] S x K:=by
 refine cd ⟨3,3,t52⟩ ?_;have g1:=R.run;have g2:=R.pi;have g3:=R.wor;walk_at"w"
 refine sY R hi ht hu λS1 R1 l1=>?_;refine pd (dM R1.pi<|by show M.ps.length+1<=2^24;lia) ?_;exact hk _ R1.pile λj=>(l1 j).trans (Le.set R1.pi nzl)<|xAg _
def Vl.num:Vl->Bool
 |.int _=>true
 |_=>false
theorem VR.ref{V:Vl}(hV:VR S cm V u)(hn:V.num=false):∃p C fs,u=.ref p/\at? S p=some (.ins C fs):=by
 cases V with
 |int=>cases hn
 |blk t Vs=>
  unfold VR at hV;obtain⟨p,us,e,h,_⟩:=hV;exact⟨p,_,_,e,h⟩
 |fn=>
  unfold VR at hV;obtain⟨p,sc,e,h,_⟩:=hV;exact⟨p,_,_,e,h⟩
def AC{p2:U}{V:Vl}(R:RS A mo M S)(hb:at? S j=some (jO (.tup [.str "if",.int pl,p2,p3,p4]) sc la h c))(hV:VR S cm V u)(hn:V.num=false)(hk:Fl fw d A.r "kind" (.int 0) pl x (λ_ S'=>K .non S') fw S):(Gd fw<|d+2).call 46 [.ref A.r,.ref j,.lst [u]] S x K:=by
 obtain⟨p,C,fs,rfl,hp⟩:=VR.ref hV hn;refine cd ⟨3,3,t46⟩ ?_;have h1:=R.run;walk_at"w"
 refine gQ hp ?_;walk_at"w"
 exact fm hk
def uW{V:Vl}(R:RS A mo M S)(hb:at? S j=some (jO (.tup [.str "tell",.int pl,p3]) sc la h c))(hV:VR S cm V u)(hn:V.num=false)(hk:Fl fw d A.r "kind" (.int 0) pl x (λ_ S'=>K .non S') fw S):(Gd fw<|d+2).call 51 [.ref A.r,.ref j,.lst [u]] S x K:=by
 obtain⟨p,C,fs,rfl,hp⟩:=VR.ref hV hn;refine cd ⟨3,3,t51⟩ ?_;have h1:=R.run;walk_at"w"
 refine gQ hp ?_;walk_at"w"
 exact fm hk
theorem xF{V W:Vl}(h1:VR S cm V u1)(h2:VR S cm W u2)(hn:(V.num&&W.num)=false)(hk:K (.tup [.str "kind",.int 0]) S):(Gd fw<|d+2).call 6 [.str op,u1,u2] S x K:=by
 refine cd ⟨3,4,t6⟩ ?_;cases hv:V.num with
 |false=>
  obtain⟨p,C,fs,rfl,hp⟩:=VR.ref h1 hv;refine gQ hp ?_;walk_at"w"
  exact hk
 |true=>
  rw[hv] at hn;cases V <;> try (cases hv;done)
  obtain⟨p,C,fs,rfl,hp⟩:=VR.ref h2 hn;rw[show u1=_ from h1];refine eW ?_;walk_at"w"
  refine gQ hp ?_;walk_at"w"
  exact hk
def uY{V W:Vl}(R:RS A mo M S)(hb:at? S j=some (jO (.tup [.str "math",.int pl,.str op,p3,p4]) sc la h c))(h1:VR S cm V u1)(h2:VR S cm W u2)(hn:(V.num&&W.num)=false)(hk:Fl fw (d+1) A.r "kind" (.int 0) pl x (λ_ S'=>K .non S') fw S):(Gd fw<|d+3).call 47 [.ref A.r,.ref j,.lst [u1,u2]] S x K:=by
 refine cd ⟨3,5,t47⟩ ?_;have g1:=R.run;walk_at"w"
 refine xF h1 h2 hn ?_;walk_at"w"
 exact fm hk
def uX(R:RS A mo M S)(hb:at? S j=some (jO (.tup [.str "raise",.int pl,.str w,p3]) sc la h c))(hk:Fl fw d A.r w u pl x (λ_ S'=>K .non S') fw S):(Gd fw<|d+2).call 50 [.ref A.r,.ref j,.lst [u]] S x K:=by
 refine cd ⟨3,3,t50⟩ ?_;have h1:=R.run;walk_at"w"
 exact fm hk
def yk{i:Int}(R:RS A mo M S)(hb:at? S j=some (jO (.tup [.str "tell",.int pl,p3]) sc la h c))(hl:M.ps.length<=900000)(hg:M.lg.length<=900000)(hk:∀S',RS A mo {M with ps:=M.ps++[.int i],lg:=M.lg++[.int i]} S'->(∀j,Le j S S')->K .non S'):(Gd fw<|d+3).call 51 [.ref A.r,.ref j,.lst [.int i]] S x K:=by
 refine cd ⟨3,3,t51⟩ ?_;have h1:=R.run;have h2:=R.wor;walk_at"w"
 refine eW ?_;walk_at"w"
 refine wy R hg λT R1 l1=>?_;have g1:=R1.run;have g2:=R1.pi;walk_at"w"
 refine pd (dM g2<|by show M.ps.length+1<=2^24;lia) ?_;exact hk _ R1.pile λj=>(l1 j).trans (Le.set g2 nzl)<|xAg _
def rQ{a b r:Int}(R:RS A mo M S)(hb:at? S j=some (jO (.tup [.str "math",.int pl,.str op,p3,p4]) sc la h c))(hr:∀{fw d:Nat}{S:So}{x:Kx Prop}{K:Kv Prop},K (.int r) S->(Gd fw<|d+1).call 7 [.str op,.int a,.int b] S x K)(hl:M.ps.length<=900000)(h1:¬ big r->∀S',RS A mo {M with ps:=M.ps++[.int r]} S'->(∀j,Le j S S')->K .non S')(h2:big r->Fl fw (d+1) A.r "big" (.int 0) pl x (λ_ S'=>K .non S') fw S):(Gd fw<|d+3).call 47 [.ref A.r,.ref j,.lst [.int a,.int b]] S x K:=by
 refine cd ⟨3,5,t47⟩ ?_;have g1:=R.run;have g2:=R.pi;walk_at"w"
 refine qR hr ?_;unfold mres;by_cases hB:big r
 ·rw[xCg hB];walk_at"w"
  exact fm<|h2 hB
 ·rw[xCf hB];walk_at"w"
  refine pd (dM g2<|by show _<=2^24;lia) ?_;exact h1 hB _ R.pile λj=>Le.set R.pi nzl
def LV:U:=.kt [.str "leave"]
def zG6{p2:U}{i:Int}(R:RS A mo M S)(hb:at? S j=some (jO (.tup [.str "if",.int pl,p2,p3,p4]) sc la h c))(hl:M.js.length<=900000)(hk:∀S' b,RS A mo {M with js:=M.js++[.ref b]} S'->(∀j,Le j S S')->S.length<=b->at? S' b=some (jO (if i=0 then p4 else p3) sc la .non 0)->K .non S'):(Gd fw<|d+3).call 46 [.ref A.r,.ref j,.lst [.int i]] S x K:=by
 refine cd ⟨3,3,t46⟩ ?_;have h1:=R.run;walk_at"w"
 refine eW ?_;walk_at"w"
 refine bI (λe=>?_) λe=>?_
 ·rw[xCg<|xBe e] at hk;walk_at"w"
  exact fE R (by lia) hk
 ·rw[xCf<|xBf e] at hk;walk_at"w"
  exact fE R (by lia) hk
end
section
variable{fw d:Nat}{S S0 S1 S2 S':So}{j sc n:Nat}{A:Ad}{mo:Nat}{M:Mc}{x:Kx Prop}{K:Kv Prop}{u v:U}{cm:List Nat}{γ:List Vl}{env:List<|Str×Nat}{la:Bool}{h:U}{c pl:Int}{P:U}
def Le.new{q:Nat}{o:Ob}(l:Le j S0 S)(hq:S0.length<=q):Le j S0<|Fx.set S q o:=⟨by rw[zBh];exact l.len,λf h=>atN (by have:=zBx h;lia)<|l.ky f h⟩
def zJ3:TSx Prop:=sQ (sP .seti (cK "Cell" 35 (aC (cV 5) aN) [])<|zAp (cV 3)<|cV 4) sN
theorem zDs{q:Nat}{E:Ee Prop}{kk:Sg->So->Prop}{a0 a1 a2:Option U}:∀{ps:List Str}{us:List U}{S:So}{kvs:List<|Key×U}{o4 o5:Option U},ps.length=us.length->S0.length<=q->at? S q=some (.dct kvs)->kvs.length+ps.length<=1000000->RS A mo M S->(∀j,Le j S0 S) ->
  (∀S' kvs' o4 o5,RS A mo M S'->(∀j,Le j S0 S')->at? S' q=some (.dct kvs')->kvs'.length<=kvs.length+ps.length->kk [a0,a1,a2,some<|.ref q,o4,o5] S') ->
  zB4 (zB6 (ps.map .str) us) (λw σ1 S2 nx=>tgt [4,5] false (Gd fw<|d+1) w σ1 λσ2=>zJ3 (Gd fw<|d+1) σ2 S2<|lpE E nx) [a0,a1,a2,some<|.ref q,o4,o5] S kk
 |[],us,S,kvs,o4,o5,hl,hq,hS,hb,R,l,fin=>fin S kvs o4 o5 R l hS<|xAg _
 |y::ps,[],S,kvs,o4,o5,hl,hq,hS,hb,R,l,fin=>absurd hl (by simp)
 |y::ps,u::us,S,kvs,o4,o5,hl,hq,hS,hb,R,l,fin=>by
  simp only[xAo] at hl hb;rw[xBs,zB6,zB4];refine pd (by rfl) ?_;refine sB ?_;have hS1:at? (S++[cO u]) q=some (.dct kvs):=zA7 hS;refine pd (jy hS1<|by show _<=2^24;lia) ?_;have R1:RS A mo M<|set (S++[cO u]) q<|.dct<|putK (.inr y) (.ref S.length) kvs:=(R.app (T:=[cO u])).oth hS1 (show("d":Str)≠"SourceRun" by decide) (show("d":Str)≠"World" by decide) (show("d":Str)≠"" by decide);refine zDs (ps:=ps) (us:=us) (by lia) hq (zA0 hS1) (by have:=hZ (k:=.inr y) (v:=.ref S.length) (kvs:=kvs);lia) R1 (λj=>Le.new ((l j).trans Le.app<|xAg _) hq) λS' kvs' o4 o5 R' l' hS' hb'=>?_;exact fin S' kvs' o4 o5 R' l' hS' (by have:=hZ (k:=.inr y) (v:=.ref S.length) (kvs:=kvs);simp only[xAo];lia)
def lh{ps:List Str}{vs:U}(R:RS A mo M S)(he:zBt S cm env n sc)(hn:n<=900000)(hl:ps.length=us.length)(h2:ps.length<=1000)(hv:sqF vs=some us)(hk:∀S' sc',RS A mo M S'->(∀j,Le j S S')->zBt S' cm [] (n+ps.length) sc'->K (.ref sc') S'):(Gd fw<|d+2).call 38 [.ref sc,.tup<|ps.map .str,vs] S x K:=by
 refine cd ⟨3,6,t38⟩ ?_;obtain⟨kvs,h1,h3,h4⟩:=he;refine pd (ki h1) ?_;refine pd (v:=.tup<|zB6 (ps.map .str) us) (S':=S++[.dct kvs]) (by delta pr;dsimp only;rw[hv];show(match Nat.beq (ps.map U.str).length us.length with|true=>Res.ok (.tup<|zB6 (ps.map .str) us) (S++[Ob.dct kvs])|false=>.stuck)=_;rw[xAa,hl,Nat.beq_refl]) ?_;refine zDs (S0:=S) (kvs:=kvs) hl (xAg _) zA6 (by lia) R.app (λj=>Le.app) λS' kvs' o4 o5 R' l' hS' hb'=>?_;exact hk S' S.length R' l' ⟨kvs',hS',by lia,λy i e=>nomatch e⟩
def pJ:pr ups (.sl false true false) [.lst<|u::us,.int 1] S=.ok (.lst us) S:=by
 show Res.ok (.lst<|zCj (u::us) (some ((1:Nat):Int)) none) S=_;congr 2;unfold zCj;rw[HT.sIx_nat,HT.sIx_none,Nat.min_eq_left<|by simp];simp
def yH{i m:Int}(hk:K (.str "kind") S):(Gd fw<|d+1).call 9 [.int i,.int m] S x K:=by
 refine cd ⟨2,2,t9⟩ ?_;walk_at"w"
 exact hk
def yI{p:Nat}{m:Int}(h:at? S p=some (bO t us))(hk:K (.str "kind") S):(Gd fw<|d+1).call 9 [.ref p,.int m] S x K:=by
 refine cd ⟨2,2,t9⟩ ?_;refine pd (eP h) ?_;walk_at"w"
 exact hk
def yG{p:Nat}{k m:Int}{ps:List U}{b:U}{sc:Nat}(h:at? S p=some (fO k (.tup ps) b sc))(hm:(ps.length:Int)≠m)(hk:K (.str "odd") S):(Gd fw<|d+1).call 9 [.ref p,.int m] S x K:=by
 refine cd ⟨2,2,t9⟩ ?_;refine pd (eP h)<|bF<|pd (dX h rfl)<|pv (.int ps.length) ?_;refine pd (v:=.bl false) (S':=S) (by show Res.ok (.bl<|decide<|(ps.length:Int)=m) S=_;rw[xCn hm]) ?_;exact bF hk
def u7{p2:U}{w:Str}(R:RS A mo M S)(hb:at? S j=some (jO (.tup [.str "call",.int pl,p2,p3]) sc la h c))(hcf:∀{K:Kv Prop},K (.str w) S->(Gd fw<|d+1).call 9 [u,.int us.length] S x K)(hk:Fl fw d A.r w (.int 0) pl x (λ_ S'=>K .non S') fw S):(Gd fw<|d+2).call 44 [.ref A.r,.ref j,.lst<|u::us] S x K:=by
 refine cd ⟨3,7,t44⟩ ?_;have g1:=R.run;walk_at"w"
 refine pd (v:=u) (S':=S) (by show opt (atI (u::us) ((0:Nat):Int)) S=_;rw[dZ (v:=u) rfl];rfl) ?_;refine pd pJ ?_;walk_at"w"
 refine hcf ?_;walk_at"w"
 exact fm hk
def u8{p2 q:U}{k:Int}{ps:List Str}(R:RS A mo M S)(hF:VR S cm (.fn k ps q env n) u)(hC:zA2 S cm γ)(hb:at? S j=some (jO (.tup [.str "call",.int pl,p2,p3]) sc false h c))(hp2:ps.length=us.length)(h2:ps.length<=1000)(hn:n<=800000)(hl:M.js.length<=900000)(hca:M.ca<50)(hk:∀S' a b s0 sc',RS A mo {M with js:=M.js++[.ref a]++[.ref b],ca:=M.ca+1,dp:=if M.ca+1>M.dp then M.ca+1 else M.dp} S'->(∀j,Le j S S')->S.length<=a->a<b->at? S' a=some (jO LV s0 false .non 0)->at? S' b=some (jO q sc' true .non 0)->zBt S' cm [] (n+ps.length) sc'->K .non S'):(Gd fw<|d+3).call 44 [.ref A.r,.ref j,.lst<|u::us] S x K:=by
 refine cd ⟨3,7,t44⟩ ?_;have g1:=R.run;have g2:=R.wor;unfold VR at hF;obtain⟨p,sc',rfl,hp,he⟩:=hF;walk_at"w"
 refine pd (v:=.ref p) (S':=S) (by show opt (atI (.ref p::us) ((0:Nat):Int)) S=_;rw[dZ (v:=.ref p) rfl];rfl) ?_;refine pd pJ ?_;refine pv (.int us.length) ?_;rw[<- hp2,show(ps.length:Int)=((ps.map U.str).length:Int) by rw[xAa]];refine wc hp ?_;walk_at"w"
 refine sg R (by lia) λT1 R1 l1=>?_;have g3:=R1.run;walk_at"w"
 have R2:=R1.app (T:=[.dct []]);refine fE R2 (by show M.js.length<=_;lia) λT3 a R3 l3 ha hja=>?_;have l13:∀j,Le j S T3:=λj=>((l1 j).trans Le.app<|xAg _).trans (l3 j)<|xAg _;have g4:=R3.run;have hp3:=(l13 0).ky fzf hp;walk_at"w"
 refine lh (env:=env) R3 (he.lw (l13 0).lw) (by lia) hp2 h2 rfl λT4 sc4 R4 l4 he4=>?_;walk_at"w"
 refine fE R4 (by show(M.js++[_]).length<=_;simp;lia) λT5 b R5 l5 hb5 hj5=>?_;have l45:∀j,Le j T3 T5:=λj=>(l4 j).trans (l5 j)<|xAg _;refine hk T5 a b _ sc4 R5 (λj=>(l13 j).trans (l45 j)<|xAg _) ?_ ?_ ((l45<|a+1).ky (fzj<|by lia) hja) hj5<|he4.lw (l5 0).lw
 ·have:=(l1 0).len;simp at ha;lia
 ·have:=zBx hja;have:=(l4 0).len;lia
def uZ{p2 q:U}{k:Int}{ps:List Str}(R:RS A mo M S)(hF:VR S cm (.fn k ps q env n) u)(hb:at? S j=some (jO (.tup [.str "call",.int pl,p2,p3]) sc true h c))(hp2:ps.length=us.length)(h2:ps.length<=1000)(hn:n<=800000)(hl:M.js.length<=900000)(hk:∀S' b sc',RS A mo {M with js:=M.js++[.ref b]} S'->(∀j,Le j S S')->S.length<=b->at? S' b=some (jO q sc' true .non 0)->zBt S' cm [] (n+ps.length) sc'->K .non S'):(Gd fw<|d+3).call 44 [.ref A.r,.ref j,.lst<|u::us] S x K:=by
 refine cd ⟨3,7,t44⟩ ?_;have g1:=R.run;have g2:=R.wor;unfold VR at hF;obtain⟨p,sc',rfl,hp,he⟩:=hF;walk_at"w"
 refine pd (v:=.ref p) (S':=S) (by show opt (atI (.ref p::us) ((0:Nat):Int)) S=_;rw[dZ (v:=.ref p) rfl];rfl) ?_;refine pd pJ ?_;refine pv (.int us.length) ?_;rw[<- hp2,show(ps.length:Int)=((ps.map U.str).length:Int) by rw[xAa]];refine wc hp ?_;walk_at"w"
 refine lh (env:=env) R he (by lia) hp2 h2 rfl λT4 sc4 R4 l4 he4=>?_;walk_at"w"
 refine fE R4 (by lia) λT5 b R5 l5 hb5 hj5=>?_;exact hk T5 b sc4 R5 (λj=>(l4 j).trans (l5 j)<|xAg _) (xCk (l4 0).len hb5) hj5<|he4.lw (l5 0).lw
theorem VRs.len:∀{Vs:List Vl}{us:List U},VRs S cm Vs us->us.length=Vs.length
 |[],us,h=>by unfold VRs at h;rw[h];rfl
 |V::Vs,us,h=>by
  unfold VRs at h;obtain⟨u,us',e,_,h2⟩:=h;rw[e,xAo,xAo,h2.len]
def Vl.is(t:Str)(m:Nat):Vl->Bool
 |.blk t' Vs=>decide (t'=t)&&decide (Vs.length=m)
 |_=>false
theorem zY{V:Vl}(hV:VR S cm V u)(hn:V.is t m=false)(hk:K .non S):(Gd fw<|d+1).call 8 [u,.str t,.int m] S x K:=by
 refine cd ⟨3,3,t8⟩ ?_;cases V with
 |int i=>
  rw[show u=_ from hV];walk_at"w"
  exact hk
 |fn=>
  unfold VR at hV;obtain⟨p,sc,rfl,h,_⟩:=hV;refine pd (eP h) ?_;walk_at"w"
  exact hk
 |blk t' Vs=>
  unfold VR at hV;obtain⟨p,us,rfl,h,r⟩:=hV;have hl:=r.len;refine pd (eP h)<|bT<|pd (dX h rfl) ?_;by_cases e:t'=t
  ·refine pd (dz e) ?_;refine bT<|pd (dX h rfl)<|pv (.int us.length) ?_;have:Vs.length≠m:=by
    intro z;rw[show Vl.is t m (.blk t' Vs)=(decide (t'=t)&&decide (Vs.length=m)) from rfl,xBd e,xBd z] at hn;cases hn
   refine pd (v:=.bl false) (S':=S) (by show Res.ok (.bl<|decide<|(us.length:Int)=(m:Int)) S=_;rw[xCn<|by lia]) ?_;walk_at"w"
   exact hk
  ·refine pd (dh e) ?_;walk_at"w"
   exact hk
def rS{p2:U}{V:Vl}(R:RS A mo M S)(hb:at? S j=some (jO (.tup [.str "match",.int pl,p2,.str t,.tup<|ns.map .str,p5,p6]) sc la h c))(hV:VR S cm V u)(hn:V.is t ns.length=false)(hl:M.js.length<=900000)(hk:∀S' b,RS A mo {M with js:=M.js++[.ref b]} S'->(∀j,Le j S S')->S.length<=b->at? S' b=some (jO p6 sc la .non 0)->K .non S'):(Gd fw<|d+3).call 49 [.ref A.r,.ref j,.lst [u]] S x K:=by
 refine cd ⟨3,8,t49⟩ ?_;have h1:=R.run;walk_at"w"
 rw[xAa];refine zY hV hn ?_;walk_at"w"
 exact fE R (by lia) hk
def rR{p2:U}(R:RS A mo M S)(hb:at? S j=some (jO (.tup [.str "match",.int pl,p2,.str t,.tup<|ns.map .str,p5,p6]) sc la h c))(hV:VR S cm (.blk t Vs) u)(hm:ns.length=Vs.length)(h2:ns.length<=1000)(he:zBt S cm env n sc)(hn:n<=800000)(hl:M.js.length<=900000)(hk:∀S' b sc',RS A mo {M with js:=M.js++[.ref b]} S'->(∀j,Le j S S')->S.length<=b->at? S' b=some (jO p5 sc' la .non 0)->zBt S' cm [] (n+ns.length) sc'->K .non S'):(Gd fw<|d+3).call 49 [.ref A.r,.ref j,.lst [u]] S x K:=by
 unfold VR at hV;obtain⟨p,us,rfl,hp,r⟩:=hV;have hus:=r.len;refine cd ⟨3,8,t49⟩ ?_;have h1:=R.run;walk_at"w"
 rw[xAa,hm,<- hus];refine zX hp ?_;walk_at"w"
 refine lh (env:=env) (us:=us) R he (by lia) (by lia) h2 rfl λT3 sc' R3 l3 he3=>?_;have hb3:=(l3<|j+1).ky (fzj<|by lia) hb;walk_at"w"
 refine fE R3 (by lia) λT4 b R4 l4 hb4 hj4=>?_;exact hk T4 b sc' R4 (λj=>(l3 j).trans (l4 j)<|xAg _) (xCk (l3 0).len hb4) hj4<|he3.lw (l4 0).lw
end
inductive Out where
 |val (Vs:List Vl)|flt (w:Str) (V:Vl) (pl:Int)
def VRs.le{cm:List Nat}(l:Le j S S')(h:VRs S cm Vs us):VRs S' cm Vs us:=VRs.lw l.lw h
def VR.le{cm:List Nat}{V:Vl}{u:U}(h:VR S cm V u)(l:Le j S S'):VR S' cm V u:=VR.lw l.lw h
def zBt.le{cm:List Nat}{n sc:Nat}(h:zBt S cm env n sc)(l:Le j S S'):zBt S' cm env n sc:=h.lw l.lw
def zCf:List U:=List.replicate 5<|.int<|10^29
structure Cn where
 fw:Nat
 e:Nat
 A:Ad
 mo:Nat
 E:Ee Prop
 hf:900000<fw
 hm:mo<=2000
 hin:(A.il,zCf)∈A.ks
def Cn.L(k:Cn)(n:Nat)(S:So):Prop:=Lp k.fw (k.e+6) k.A.r k.E n S
def Cn.X(k:Cn):Kx Prop:=λx S'=>∀σ,k.E.x x σ S'
def Cn.F(k:Cn)(w:Str)(u:U)(pl:Int)(n m:Nat)(S:So):Prop:=Fl k.fw (k.e+3) k.A.r w u pl k.X (λ_ S'=>k.L n S') m S
def Nx(k:Cn)(n:Nat)(J ps ds lg:List U)(ca dp tk:Int)(j:Nat)(S:So)(cm:List Nat):Out->Prop
 |.val Vs=>∀S' q us,RS k.A k.mo ⟨q,J,ps++us,ds,lg,ca,dp,tk⟩ S'->Le j S S'->VRs S' cm Vs us->k.L n S'
 |.flt w V pl=>∀S' q ex u ca' m,RS k.A k.mo ⟨q,J,ps++ex,ds,lg,ca',dp,tk⟩ S'->Le j S S'->VR S' cm V u->J.length<m->k.F w u pl n m S'
def Dry(k:Cn)(ds lg:List U)(dp:Int):Prop:=∀S' M',RS k.A k.mo M' S'->M'.ds=ds.take k.mo->M'.lg=lg->M'.dp=dp->k.X zG8 S'
structure Bd(M:Mc)(ca:Int)(N c dp ak:Nat)(lg:List Int)(mo:Nat):Prop where
 sz:N+M.js.length+M.ps.length+8*c<=800000
 hca:M.ca=ca
 hdp:ca+dp<=50
 hlg:M.lg.length+lg.length<=800000
 hds:M.ds.length<=mo
 htk:0<=M.tk/\M.tk+ak<=5
structure Sem(la:Bool)(env:List (Str×Nat))(N:Nat)(γ:List Vl)(ca:Int)(P:U)(c:Nat)(ds lg:List Int)(out:Out)(dp ak:Nat):Prop where
 h:∀{k:Cn}{n:Nat}{M:Mc}{S:So}{J:List U}{j sc:Nat}{cm:List Nat},RS k.A k.mo M S->M.js=J++[.ref j]->at? S j=some (jO P sc la .non 0)->zBt S cm env N sc->zA2 S cm γ->Bd M ca N c dp ak lg k.mo ->
 (M.ds.length+ds.length<=k.mo->Nx k n J M.ps (M.ds++ds.map .int) (M.lg++lg.map .int) M.ca (max M.dp (M.ca+dp)) (M.tk+ak) j S cm out)->(k.mo<M.ds.length+ds.length->Dry k (M.ds++ds.map .int) M.lg M.dp)->k.L (n+c) S
structure zA8(env:List (Str×Nat))(N:Nat)(γ:List Vl)(ca:Int)(ops:List U)(c:Nat)(ds:List Int)(out:Out)(ak:Nat):Prop where
 h:∀{k:Cn}{n:Nat}{M:Mc}{S:So}{J js:List U}{lo hi sc:Nat}{cm:List Nat},RS k.A k.mo M S->M.js=J++js->JF S sc lo hi ops js->zBt S cm env N sc->zA2 S cm γ->Bd M ca N c 0 ak [] k.mo ->
 (M.ds.length+ds.length<=k.mo->Nx k n J M.ps (M.ds++ds.map .int) M.lg M.ca M.dp (M.tk+ak) lo S cm out)->(k.mo<M.ds.length+ds.length->Dry k (M.ds++ds.map .int) M.lg M.dp)->k.L (n+c) S
def RS.to{A:Ad}{ps ds lg:List U}{dp:Int}(R:RS A mo M S)(h1:M.js=js)(h2:M.ps=ps)(h3:M.ds=ds)(h6:M.lg=lg)(h4:M.ca=ca)(h5:M.dp=dp)(h7:M.tk=tk):RS A mo ⟨M.pl,js,ps,ds,lg,ca,dp,tk⟩ S:=by
 subst h1 h2 h3 h4 h5 h6 h7;exact R
def mxi{a b:Int}:max (if a+1>b then a+1 else b) (a+1+d)=max b (a+(d+1:Nat)):=by
 have e:a+(d+1:Nat)=a+1+d:=by rw[Int.add_assoc,Int.add_comm 1];rfl
 rw[e];split
 ·next h=>rw[Int.max_eq_right<|Int.le_add_of_nonneg_right<|Int.natCast_nonneg d,Int.max_eq_right<|Int.le_trans (Int.le_of_lt h)<|Int.le_add_of_nonneg_right<|Int.natCast_nonneg d]
 ·rfl
def zDk{a b:Int}(h:a<=b):b=max b (a+(0:Nat)):=by lia
section
variable{env:List<|Str×Nat}{N:Nat}{γ:List Vl}{ca:Int}
def zA8.nil:zA8 env N γ ca [] 0 [] (.val []) 0:=by
 refine⟨?_⟩;intro k n M S J js lo hi sc cm R hj f he hC hB hv hx;cases f;exact hv (by simpa using hB.hds) S M.pl [] (R.to (by rw[hj,xB0]) (by simp) (by simp) rfl rfl rfl (Int.add_zero _).symm) Le.refl rfl
def Out.cons(V:Vl):Out->Out
 |.val Vs=>.val<|V::Vs
 |.flt w v p=>.flt w v p
def Dry.as{k:Cn}{a b c lg:List U}{dp:Int}(h:Dry k (a++b++c) lg dp)(e:k.mo<=(a++b).length):Dry k (a++b) lg dp:=λS' M' R e'=>h S' M' R (by rw[e',List.take_append_of_le_length e])
theorem Nx.le{k:Cn}{n:Nat}{ps ds lg:List U}{dp:Int}{j':Nat}{cm:List Nat}{out:Out}(h:Nx k n J ps ds lg ca dp tk j S cm out)(l:Le j S S')(hj:j<=j'):Nx k n J ps ds lg ca dp tk j' S' cm out:=by
 cases out with
 |val Vs=>exact λS2 q us R l2=>h S2 q us R<|l.trans l2 hj
 |flt w V pl=>exact λS2 q ex u ca' m R l2=>h S2 q ex u ca' m R<|l.trans l2 hj
def Nx.z{k:Cn}{n:Nat}{ps ds lg:List U}{dp:Int}{cm:List Nat}{out:Out}(h:Nx k n J ps ds lg ca dp tk j S cm out)(e:ca<=dp):Nx k n J ps ds (lg++([]:List Int).map .int) ca (max dp<|ca+(0:Nat)) tk j S cm out:=by
 rw[List.map_nil,xB0,<- zDk e];exact h
theorem zA8.cons{c1 c2 ak1 ak2:Nat}{op:U}{ops:List U}{V:Vl}{out:Out}{ds1 ds2:List Int}(h1:Sem false env N γ ca op c1 ds1 [] (.val [V]) 0 ak1)(h2:zA8 env N γ ca ops c2 ds2 out ak2)(hc1:1<=c1):zA8 env N γ ca (op::ops) (c1+c2) (ds1++ds2) (out.cons V)<|ak1+ak2:=by
 refine⟨?_⟩;intro k n M S J js lo hi sc cm R hj f he hC hB hv hx;cases f with
 |@cons _ _ js q _ f hq l1 l2=>
 rw[show n+(c1+c2)=n+c2+c1 by lia];have ej:M.js=(J++js)++[.ref q]:=by rw[hj,xAx]
 have el:M.js.length=(J++js).length+1:=by rw[ej,xAb];rfl
 obtain⟨b1,b2,b3,b4,b5,b6⟩:=hB;rw[xAb] at hv hx;have em:M.ds++(ds1++ds2).map U.int=M.ds++ds1.map .int++ds2.map .int:=by rw[List.map_append,xAx]
 rw[em] at hv hx;refine h1.h R ej hq he hC ⟨by lia,b2,b3,b4,b5,by lia⟩ (λhl=>?_) λhl=>(hx<|by lia).as (by rw[xAb,xAa];lia);refine Nx.z (λS' q' us R' l hV=>?_) R.cd;unfold VRs at hV;obtain⟨u,us',rfl,hV,hV0⟩:=hV;unfold VRs at hV0;subst hV0;have lo':Le lo S S':=Le.refl.trans l l1;refine h2.h (J:=J) R' rfl (f.le (cm:=[]) l.lw<|xAg _) (he.le l) (hC.le l) ⟨?_,b2,b3,b4,?_,by show 0<=M.tk+(ak1:Int)/\M.tk+(ak1:Int)+ak2<=5;lia⟩ (λhl2=>?_) λhl2=>?_
 ·show N+(J++js).length+(M.ps++[u]).length+8*c2<=_;rw[xAb (as:=M.ps)];simp only[xAt];lia
 ·show(M.ds++ds1.map U.int).length<=_;rw[xAb,xAa];exact hl
 ·have hv:=hv (by simp only[xAb,xAa] at hl2;lia);have et:M.tk+(ak1:Int)+ak2=M.tk+((ak1+ak2:Nat):Int):=by lia
  rw[et];cases out with
  |val Vs=>exact λS'' q'' us R'' l'' hV''=>hv S'' q'' (u::us) (by simpa using R'') (lo'.trans l''<|xAg _) (by unfold VRs;exact⟨u,us,rfl,hV.le l'',hV''⟩)
  |flt w v p=>exact λS'' q'' ex u' ca' m R'' l''=>hv S'' q'' (u::ex) u' ca' m (by simpa using R'')<|lo'.trans l''<|xAg _
 ·exact hx (by simp only[xAb,xAa] at hl2;lia)
def Pt(u:U):Prop:=∃k r,u=.tup (.str k::r)
theorem pops{k:Cn}{n:Nat}{w:Str}{u:U}{sc:Nat}:∀{ops:List U}{hi:Nat}{js J:List U}{M:Mc}{S:So}{m:Nat},(∀o∈ops,Pt o)->JF S sc lo hi ops js->RS k.A k.mo M S->M.js=J++js->J.length+js.length<m->(∀S' m',RS k.A k.mo {M with js:=J} S'->(∀j,Le j S S')->J.length<m'->k.F w u pl n m' S')->k.F w u pl n m S:=by
 intro ops;induction ops with
 |nil=>
  intro hi js J M S m _ f R e hm hk;cases f;exact hk S m (R.to (by rw[e,xB0]) rfl rfl rfl rfl rfl rfl) (λj=>Le.refl) (by simpa using hm)
 |cons op ops ih=>
  intro hi js J M S m hp f R e hm hk;cases f with
  |@cons _ _ js q _ f hq l1 l2=>
  rw[<- xAx] at e;obtain⟨kk,r,rfl⟩:=hp _<|xAr ..;match m with
  |0=>lia
  |m+1=>
  refine rD R e (.inl rfl) hq (.inr rfl) λS1 R1 l=>?_;refine ih (λo ho=>hp o<|xAs _ ho) (f.le (cm:=[]) (l _).lw<|xAg _) R1 rfl (by simp at hm;lia) λS' m' R' l' hm'=>hk S' m' R' (λj=>(l j).trans (l' j)<|xAg _) hm'
theorem zA8.flt{c1 ak1:Nat}{op:U}{ops:List U}{V:Vl}{w:Str}{pl:Int}{ds1:List Int}(h1:Sem false env N γ ca op c1 ds1 [] (.flt w V pl) 0 ak1)(hp:∀o∈ops,Pt o):zA8 env N γ ca (op::ops) c1 ds1 (.flt w V pl) ak1:=by
 refine⟨?_⟩;intro k n M S J js lo hi sc cm R hj f he hC hB hv hx;cases f with
 |@cons _ _ js q _ f hq l1 l2=>
 have ej:M.js=(J++js)++[.ref q]:=by rw[hj,xAx]
 refine h1.h R ej hq he hC hB (λhl=>Nx.z ?_ R.cd) hx;intro S' q' ex u ca' m R' l hV hm;refine pops hp (f.le (cm:=[]) l.lw<|xAg _) R' rfl (by simpa using hm) λS'' m' R'' l'' hm'=>?_;exact hv hl S'' q' ex u ca' m' R'' ((Le.refl.trans l l1).trans (l'' lo)<|xAg _) (hV.le<|l'' 0) hm'
end
section
variable{la:Bool}{env:List<|Str×Nat}{N c c3 dp3 ak ak3:Nat}{γ:List Vl}{ca:Int}{P:U}{ops r:List U}{κ g:Str}{i m:Nat}{b:Bool}{pl:Int}{ds lg3:List Int}{Vs:List Vl}{out:Out}
structure Fin(la:Bool)(env:List (Str×Nat))(N:Nat)(γ:List Vl)(ca:Int)(P:U)(i c3:Nat)(lg3:List Int)(Vs:List Vl)(out:Out)(dp3 ak3:Nat):Prop where
 h:∀{k:Cn}{n:Nat}{M:Mc}{S:So}{j sc:Nat}{h:U}{a:Int}{us:List U}{cm:List Nat},RS k.A k.mo M S->at? S j=some (jO P sc la h a)->zBt S cm env N sc->zA2 S cm γ->VRs S cm Vs us->Bd M ca N (c3+1) dp3 ak3 lg3 k.mo ->
 Nx k n M.js M.ps M.ds (M.lg++lg3.map .int) M.ca (max M.dp (M.ca+dp3)) (M.tk+ak3) S.length S cm out->(Gd k.fw (k.e+5)).call i [.ref k.A.r,.ref j,.lst us] S k.X (λ_ S'=>k.L (n+c3) S')
def nts(b:Bool)(pl:Int):List Int:=if b then[pl] else[]
def gj(b:Bool)(g:Str)(hP:P=.tup (.str κ::.int pl::r))(fp:FP P ops)(hL:zA8 env N γ ca ops c ds (.val Vs) ak)(hF:Fin la env N γ ca P i c3 lg3 Vs out dp3 ak3)(k1:κ≠"number":=by decide)(k2:κ≠"name":=by decide)(k3:κ≠"leave":=by decide)(ho:ops.length<=6:=by simp)(hn:(!zB5 (.str κ) [.str "let",.str "do",.str "try"])=b:=by rfl)(hg:zAj κ dW=some (.gl g):=by rfl)(hi:zAj g fins=some (i,3):=by rfl):Sem la env N γ ca P (c+c3+2) (ds++nts b pl) lg3 out dp3<|ak+ak3:=by
 refine⟨?_⟩;intro k n M S J j sc cm R hj hb he hC hB hv hx;obtain⟨b1,b2,b3,b4,b5,b6⟩:=hB;have hjl:M.js.length=J.length+1:=by rw[hj,xAb];rfl
 rw[show n+(c+c3+2)=n+c3+1+c+1 by lia];refine eu (d:=k.e+6) R hj hb λS1 R1 l1 hb1=>?_;refine gb (d:=k.e+3) R1 hP k1 k2 k3 fp (by show J.length+_+1<=_;lia) hb1 λS2 js R2 l2 hb2 f2=>?_;have jl:=zBx hb1;have em:M.ds++(ds++nts b pl).map U.int=M.ds++ds.map .int++(nts b pl).map .int:=by simp[xAx]
 have el:M.ds.length+(ds++nts b pl).length=M.ds.length+ds.length+(nts b pl).length:=by simp;lia
 rw[em,el] at hv hx;have l12:Le j S S2:=(l1 j).trans l2<|xAg _;have fl:=f2.len;refine hL.h (J:=J++[.ref j]) R2 rfl f2 (he.le l12) (hC.le l12) ⟨by show N+(J++[U.ref j]++js).length+M.ps.length+8*c<=_;simp only[xAb,xAt];lia,b2,by lia,by show M.lg.length+0<=_;lia,b5,by show 0<=M.tk/\M.tk+(ak:Int)<=5;lia⟩ (λhl=>?_) λhl=>?_
 ·intro S3 q us R3 l3 hV3;have hb3:=l3.ky (fzj jl) hb2;have l13:Le j S S3:=l12.trans l3<|Nat.le_of_lt jl;refine iZ (d:=k.e+6) R3 (J:=J) rfl hb3 λS4 R4 l4 hb4=>?_;refine rH (d:=k.e+4) R4 k.hm hP hb4 rfl hn hg hi (λS5 q5 R5 l5 hb5 hlt=>?_) (λhb' hle S5 q5 R5=>?_)
  ·have l35:∀j,Le j S3 S5:=λj=>(l4 j).trans (l5 j)<|xAg _;have l15:Le j S S5:=l13.trans (l35 j)<|xAg _;have e5:(if b=true then[U.int pl] else[])=(nts b pl).map U.int:=by cases b <;> rfl
   rw[e5] at R5;have hl3:M.ds.length+ds.length+(nts b pl).length<=k.mo:=by
    cases b with
    |true=>
     have:=hlt rfl;simp only[xAb,xAa] at this;simp[nts];lia
    |false=>
     have hl:M.ds.length+ds.length<=k.mo:=hl;simp[nts];lia
   refine hF.h R5 hb5 (he.le l15) (hC.le l15) (VRs.le (l35 0) hV3) ⟨by show N+J.length+M.ps.length+8*(c3+1)<=_;lia,b2,b3,b4,?_,by show 0<=M.tk+(ak:Int)/\M.tk+(ak:Int)+ak3<=5;lia⟩ ?_
   ·show(M.ds++ds.map U.int++(nts b pl).map U.int).length<=_;simp only[xAb,xAa];exact hl3
   ·have et:M.tk+(ak:Int)+ak3=M.tk+((ak+ak3:Nat):Int):=by lia
    show Nx k n J M.ps _ _ M.ca (max M.dp<|M.ca+dp3) (M.tk+(ak:Int)+ak3) S5.length S5 cm out;rw[et];exact(hv hl3).le l15 (by have:=zBx hb5;lia)
  ·subst hb';simp only[xAb,xAa] at hle;have hl:M.ds.length+ds.length<=k.mo:=hl;refine hx (by simp[nts];lia) S5 _ R5 ?_ rfl rfl;show M.ds++ds.map U.int=_;rw[List.take_append_of_le_length (by simp;lia),List.take_of_length_le<|by simp;lia]
 ·have hl:k.mo<M.ds.length+ds.length:=hl;exact Dry.as (c:=(nts b pl).map .int) (hx<|by lia) (by simp only[xAb,xAa];lia)
theorem tz{w:Str}{V:Vl}{q:Int}(hP:P=.tup (.str κ::.int pl::r))(fp:FP P ops)(hL:zA8 env N γ ca ops c ds (.flt w V q) ak)(k1:κ≠"number":=by decide)(k2:κ≠"name":=by decide)(k3:κ≠"leave":=by decide)(k4:κ≠"try":=by decide)(ho:ops.length<=6:=by simp):Sem la env N γ ca P (c+1) ds [] (.flt w V q) 0 ak:=by
 refine⟨?_⟩;intro k n M S J j sc cm R hj hb he hC hB hv hx;obtain⟨b1,b2,b3,b4,b5,b6⟩:=hB;have hjl:M.js.length=J.length+1:=by rw[hj,xAb];rfl
 refine eu (d:=k.e+6) (n:=n+c) R hj hb λS1 R1 l1 hb1=>?_;refine gb (d:=k.e+3) R1 hP k1 k2 k3 fp (by show J.length+_+1<=_;lia) hb1 λS2 js R2 l2 hb2 f2=>?_;have jl:=zBx hb1;have l12:Le j S S2:=(l1 j).trans l2<|xAg _;have fl:=f2.len;refine hL.h (J:=J++[.ref j]) R2 rfl f2 (he.le l12) (hC.le l12) ⟨by show N+(J++[U.ref j]++js).length+M.ps.length+8*c<=_;simp only[xAb,xAt];lia,b2,b3,b4,b5,b6⟩ (λhl=>?_) hx;intro S3 q' ex u ca' m R3 l3 hV hm;have hb3:=l3.ky (fzj jl) hb2;have l13:Le j S S3:=l12.trans l3<|Nat.le_of_lt jl;match m with
 |0=>lia
 |m+1=>
 refine rD R3 (J:=J) rfl (.inl hP) hb3 (.inl k4) λS4 R4 l4=>?_;have hv:=hv hl;rw[List.map_nil,xB0,<- zDk R.cd] at hv;exact hv S4 q' ex u ca' m R4 (l13.trans (l4 j)<|xAg _) (hV.le<|l4 0) (by simp at hm;lia)
end
section
variable{la:Bool}{env env0:List<|Str×Nat}{N n0 c c1 c2 i ak:Nat}{γ:List Vl}{ca:Int}{p q p1 p2 p3 p4:U}{pl a b r z:Int}{ds ds1 ds2 lg:List Int}{V V1 V2:Vl}{Vs:List Vl}{out:Out}{w y t op:Str}{ps ns:List Str}
def VRs.one{cm:List Nat}{u:U}(h:VR S cm V u):VRs S cm [V] [u]:=by
 unfold VRs;exact⟨u,[],rfl,h,by unfold VRs;rfl⟩
def VRs.un{cm:List Nat}(h:VRs S cm [V] us):∃u,us=[u]/\VR S cm V u:=by
 unfold VRs at h;obtain⟨u,us',rfl,h,h0⟩:=h;unfold VRs at h0;subst h0;exact⟨u,rfl,h⟩
def VRs.un2{cm:List Nat}(h:VRs S cm [V1,V2] us):∃u v,us=[u,v]/\VR S cm V1 u/\VR S cm V2 v:=by
 unfold VRs at h;obtain⟨u,us',rfl,h,h0⟩:=h;obtain⟨v,rfl,h1⟩:=h0.un;exact⟨u,v,rfl,h,h1⟩
def iW:Sem la env N γ ca (.tup [.str "number",.int pl,.int a]) 1 [] [] (.val [.int a]) 0 0:=by
 refine⟨?_⟩;intro k n M S J j sc cm R hj hb he hC hB hv hx;have b1:=hB.sz;refine eu (d:=k.e+6) R hj hb λS1 R1 l1 hb1=>?_;refine vw R1 (by show M.ps.length<=_;lia) hb1 λS2 R2 l2=>?_;exact hv (by simpa using hB.hds) S2 _ [.int a] (R2.to rfl rfl (by simp) (by simp) rfl (zDk R.cd) (Int.add_zero _).symm) ((l1 j).trans (l2 j)<|xAg _) (VRs.one<|by unfold VR;rfl)
def wE(hy:zAj y env=some i)(hi:γ[i]?=some V):Sem la env N γ ca (.tup [.str "name",.int pl,.str y]) 1 [] [] (.val [V]) 0 0:=by
 refine⟨?_⟩;intro k n M S J j sc cm R hj hb he hC hB hv hx;have b1:=hB.sz;refine eu (d:=k.e+6) R hj hb λS1 R1 l1 hb1=>?_;refine sM R1 (by show M.ps.length<=_;lia) hb1 (he.le<|l1 0) (hC.le<|l1 0) hy hi λS2 u R2 l2 hV=>?_;exact hv (by simpa using hB.hds) S2 _ [u] (R2.to rfl rfl (by simp) (by simp) rfl (zDk R.cd) (Int.add_zero _).symm) ((l1 j).trans (l2 j)<|xAg _)<|VRs.one hV
def Nx.fl{k:Cn}{n:Nat}{cm:List Nat}{u:U}(hv:Nx k n M.js M.ps M.ds (M.lg++([]:List Int).map .int) M.ca (max M.dp<|M.ca+(0:Nat)) (M.tk+(0:Nat)) S.length S cm<|.flt w V pl)(R:RS k.A k.mo M S)(hV:VR S cm V u)(hj:M.js.length<=800000):k.F w u pl n k.fw S:=
 hv S _ [] u M.ca k.fw (R.to rfl (by simp) rfl (by simp) rfl (zDk R.cd) (Int.add_zero _).symm) Le.refl hV (by have:=k.hf;lia)
def Nx.vl{k:Cn}{n:Nat}{S2:So}{cm:List Nat}{u:U}(hv:Nx k n M.js M.ps M.ds (M.lg++([]:List Int).map .int) M.ca (max M.dp<|M.ca+(0:Nat)) (M.tk+(0:Nat)) S.length S cm<|.val [V])(R2:RS k.A k.mo {M with ps:=M.ps++[u]} S2)(l2:∀j,Le j S S2)(hV:VR S2 cm V u):k.L n S2:=
 hv S2 _ [u] (R2.to rfl rfl rfl (by simp) rfl (zDk R2.cd) (Int.add_zero _).symm) (l2 _) (VRs.one hV)
def rJ:Fin la env N γ ca (.tup [.str "raise",.int pl,.str w,p]) 50 0 [] [V] (.flt w V pl) 0 0:=by
 refine⟨?_⟩;intro k n M S j sc h a us cm R hb he hC hV hB hv;have b1:=hB.sz
 replace hV:=hV.un
 obtain⟨u,rfl,hV⟩:=hV;exact uX (d:=k.e+3) R hb (hv.fl R hV<|by lia)
def ny:Fin la env N γ ca (.tup [.str "make",.int pl,.str t,p]) 48 0 [] Vs (.val [.blk t Vs]) 0 0:=by
 refine⟨?_⟩;intro k n M S j sc h _ us cm R hb he hC hV hB hv;have b1:=hB.sz;exact zDa (d:=k.e+3) R hb hV (by lia) λS2 u R2 l2 hV2=>hv.vl R2 l2 hV2
def Am:Fin la env N γ ca (.tup [.str "fn",.int pl,.tup<|ps.map .str,q]) 43 0 [] [] (.val [.fn pl ps q env N]) 0 0:=by
 refine⟨?_⟩;intro k n M S j sc h _ us cm R hb he hC hV hB hv;have b1:=hB.sz;exact Br (d:=k.e+2) R hb he (by lia) λS2 u R2 l2 hV2=>hv.vl R2 l2 hV2
def yj:Fin la env N γ ca (.tup [.str "ask",.int pl]) 52 0 [] [] (.val [.int<|10^29]) 0 1:=by
 refine⟨?_⟩;intro k n M S j sc h _ us cm R hb he hC hV hB hv;have b1:=hB.sz;obtain⟨h0,h5⟩:=hB.htk;have ht:M.tk=(M.tk.toNat:Int):=by lia
 refine AK (d:=k.e+3) (u:=.int<|10^29) R k.hin ht (by unfold zCf;rw[List.getElem?_replicate,xCg<|by lia]) (by lia) λS2 R2 l2=>?_;exact hv S2 _ [_] (R2.to rfl rfl rfl (by simp) rfl (zDk R.cd) rfl) (l2 _) (VRs.one<|by unfold VR;rfl)
def uV:Fin la env N γ ca (.tup [.str "tell",.int pl,p]) 51 0 [a] [.int a] (.val [.int a]) 0 0:=by
 refine⟨?_⟩;intro k n M S j sc h _ us cm R hb he hC hV hB hv;have b1:=hB.sz;have b4:=hB.hlg
 replace hV:=hV.un
 obtain⟨u,rfl,hV⟩:=hV;unfold VR at hV;subst hV;refine yk (d:=k.e+2) R hb (by lia) (by lia) λS2 R2 l2=>?_;exact hv S2 _ [_] (R2.to rfl rfl rfl rfl rfl (zDk R.cd) (Int.add_zero _).symm) (l2 _) (VRs.one<|by unfold VR;rfl)
def kJ(hn:V.num=false):Fin la env N γ ca (.tup [.str "tell",.int pl,p]) 51 0 [] [V] (.flt "kind" (.int 0) pl) 0 0:=by
 refine⟨?_⟩;intro k n M S j sc h _ us cm R hb he hC hV hB hv;have b1:=hB.sz
 replace hV:=hV.un
 obtain⟨u,rfl,hV⟩:=hV;exact uW (d:=k.e+3) R hb hV hn (hv.fl R (by unfold VR;rfl)<|by lia)
def nv(hr:∀{fw d:Nat}{S:So}{x:Kx Prop}{K:Kv Prop},K (.int r) S->(Gd fw<|d+1).call 7 [.str op,.int a,.int b] S x K)(hG:¬ big r):Fin la env N γ ca (.tup [.str "math",.int pl,.str op,p,q]) 47 0 [] [.int a,.int b] (.val [.int r]) 0 0:=by
 refine⟨?_⟩;intro k n M S j sc h _ us cm R hb he hC hV hB hv;have b1:=hB.sz;obtain⟨u,v,rfl,h1,h2⟩:=hV.un2;unfold VR at h1 h2;subst h1 h2;exact rQ (d:=k.e+2) R hb hr (by lia) (λ_ S2 R2 l2=>hv.vl R2 l2<|by unfold VR;rfl) λz=>absurd z hG
def kK(hr:∀{fw d:Nat}{S:So}{x:Kx Prop}{K:Kv Prop},K (.int r) S->(Gd fw<|d+1).call 7 [.str op,.int a,.int b] S x K)(hG:big r):Fin la env N γ ca (.tup [.str "math",.int pl,.str op,p,q]) 47 0 [] [.int a,.int b] (.flt "big" (.int 0) pl) 0 0:=by
 refine⟨?_⟩;intro k n M S j sc h _ us cm R hb he hC hV hB hv;have b1:=hB.sz;obtain⟨u,v,rfl,h1,h2⟩:=hV.un2;unfold VR at h1 h2;subst h1 h2;exact rQ (d:=k.e+2) R hb hr (by lia) (λz=>absurd hG z) λ_=>hv.fl R (by unfold VR;rfl) (by lia)
def f8(hn:(V1.num&&V2.num)=false):Fin la env N γ ca (.tup [.str "math",.int pl,.str op,p,q]) 47 0 [] [V1,V2] (.flt "kind" (.int 0) pl) 0 0:=by
 refine⟨?_⟩;intro k n M S j sc h _ us cm R hb he hC hV hB hv;have b1:=hB.sz;obtain⟨u,v,rfl,h1,h2⟩:=hV.un2;exact uY (d:=k.e+2) R hb h1 h2 hn (hv.fl R (by unfold VR;rfl)<|by lia)
def Ak(h2:Sem la env N γ ca (if a=0 then p4 else p3) c2 [] [] out 0 0):Fin la env N γ ca (.tup [.str "if",.int pl,p2,p3,p4]) 46 c2 [] [.int a] out 0 0:=by
 refine⟨?_⟩;intro k n M S j sc h _ us cm R hb he hC hV hB hv;obtain⟨b1,b2,b3,b4,b5,b6⟩:=hB
 replace hV:=hV.un
 obtain⟨u,rfl,hV⟩:=hV;unfold VR at hV;subst hV;refine zG6 (d:=k.e+2) R hb (by lia) λS2 b R2 l2 hb2 hj2=>?_;exact h2.h R2 rfl hj2 (he.le<|l2 0) (hC.le<|l2 0) ⟨by simp only[xAb,xAt];lia,b2,b3,b4,b5,b6⟩ (λ_=>by rw[List.map_nil (f:=U.int),xB0 M.ds];exact hv.le (l2 _) hb2) λz=>absurd z<|Nat.not_lt.2 b5
def rL(hn:V.num=false):Fin la env N γ ca (.tup [.str "if",.int pl,p2,p3,p4]) 46 0 [] [V] (.flt "kind" (.int 0) pl) 0 0:=by
 refine⟨?_⟩;intro k n M S j sc h _ us cm R hb he hC hV hB hv;have b1:=hB.sz
 replace hV:=hV.un
 obtain⟨u,rfl,hV⟩:=hV;exact AC (d:=k.e+3) R hb hV hn (hv.fl R (by unfold VR;rfl)<|by lia)
def gr(hn:V.is t ns.length=false)(h2:Sem la env N γ ca p4 c2 [] [] out 0 0):Fin la env N γ ca (.tup [.str "match",.int pl,p2,.str t,.tup<|ns.map .str,p3,p4]) 49 c2 [] [V] out 0 0:=by
 refine⟨?_⟩;intro k n M S j sc h _ us cm R hb he hC hV hB hv;obtain⟨b1,b2,b3,b4,b5,b6⟩:=hB
 replace hV:=hV.un
 obtain⟨u,rfl,hV⟩:=hV;refine rS (d:=k.e+2) R hb hV hn (by lia) λS2 b R2 l2 hb2 hj2=>?_;exact h2.h R2 rfl hj2 (he.le<|l2 0) (hC.le<|l2 0) ⟨by simp only[xAb,xAt];lia,b2,b3,b4,b5,b6⟩ (λ_=>by rw[List.map_nil (f:=U.int),xB0 M.ds];exact hv.le (l2 _) hb2) λz=>absurd z<|Nat.not_lt.2 b5
def oK(hm:ns.length=Vs.length)(h4:ns.length<=4)(h2:Sem la [] (N+ns.length) γ ca p3 c2 [] [] out 0 0):Fin la env N γ ca (.tup [.str "match",.int pl,p2,.str t,.tup<|ns.map .str,p3,p4]) 49 c2 [] [.blk t Vs] out 0 0:=by
 refine⟨?_⟩;intro k n M S j sc h _ us cm R hb he hC hV hB hv;obtain⟨b1,b2,b3,b4,b5,b6⟩:=hB
 replace hV:=hV.un
 obtain⟨u,rfl,hV⟩:=hV;refine rR (d:=k.e+2) R hb hV hm (by lia) he (by lia) (by lia) λS2 b sc' R2 l2 hb2 hj2 he2=>?_;exact h2.h R2 rfl hj2 he2 (hC.le<|l2 0) ⟨by simp only[xAb,xAt];lia,b2,b3,b4,b5,b6⟩ (λ_=>by rw[List.map_nil (f:=U.int),xB0 M.ds];exact hv.le (l2 _) hb2) λz=>absurd z<|Nat.not_lt.2 b5
def Vl.cf(m:Nat):Vl->Option Str
 |.fn _ ps _ _ _=>if ps.length=m then none else some "odd"
 |_=>some "kind"
theorem iE(hw:V.cf Vs.length=some w):Fin la env N γ ca (.tup [.str "call",.int pl,p,p2]) 44 0 [] (V::Vs) (.flt w (.int 0) pl) 0 0:=by
 refine⟨?_⟩;intro k n M S j sc h _ us cm R hb he hC hV hB hv;have b1:=hB.sz;unfold VRs at hV;obtain⟨u,us,rfl,hV,hVs⟩:=hV;have hl:=hVs.len;refine u7 (d:=k.e+3) R hb ?_ (hv.fl R (by unfold VR;rfl)<|by lia);intro K hk;cases V with
 |int i=>
  cases hw;unfold VR at hV;subst hV;exact yH hk
 |blk t Ws=>
  cases hw;unfold VR at hV;obtain⟨p,us',rfl,h,_⟩:=hV;exact yI h hk
 |fn k0 ps0 q0 e0 m0=>
  by_cases hne:ps0.length=Vs.length
  ·rw[show Vl.cf Vs.length (.fn k0 ps0 q0 e0 m0)=(if ps0.length=Vs.length then none else some ("odd":Str)) from rfl,xCg hne] at hw;cases hw
  ·rw[show Vl.cf Vs.length (.fn k0 ps0 q0 e0 m0)=(if ps0.length=Vs.length then none else some ("odd":Str)) from rfl,xCf hne] at hw;cases hw;unfold VR at hV;obtain⟨p,sc,rfl,h,_⟩:=hV;exact yG h (by rw[xAa];lia) hk
def rK(hn:n0<=N)(hp:ps.length=Vs.length)(h4:ps.length<=4)(h2:Sem true [] (n0+ps.length) γ ca q c2 [] [] out 0 0):Fin true env N γ ca (.tup [.str "call",.int pl,p,p2]) 44 c2 [] (.fn a ps q env0 n0::Vs) out 0 0:=by
 refine⟨?_⟩;intro k n M S j sc h _ us cm R hb he hC hV hB hv;obtain⟨b1,b2,b3,b4,b5,b6⟩:=hB;unfold VRs at hV;obtain⟨u,us,rfl,hV,hVs⟩:=hV;have hl:=hVs.len;refine uZ (d:=k.e+2) R hV hb (by lia) (by lia) (by lia) (by lia) λS2 b sc' R2 l2 hb2 hj2 he2=>?_;exact h2.h R2 rfl hj2 he2 (hC.le<|l2 0) ⟨by simp only[xAb,xAt];lia,b2,b3,b4,b5,b6⟩ (λ_=>by rw[List.map_nil (f:=U.int),xB0 M.ds];exact hv.le (l2 _) hb2) λz=>absurd z<|Nat.not_lt.2 b5
def rM(hn:n0<=N)(hca:ca<50)(hp:ps.length=Vs.length)(h4:ps.length<=4)(h2:Sem true [] (n0+ps.length) γ (ca+1) q c2 [] [] (.val [.int b]) 0 0):Fin false env N γ ca (.tup [.str "call",.int pl,p,p2]) 44 (c2+1) [] (.fn a ps q env0 n0::Vs) (.val [.int b]) 1 0:=by
 refine⟨?_⟩;intro k n M S j sc h _ us cm R hb he hC hV hB hv;obtain⟨b1,b2,b3,b4,b5,b6⟩:=hB;unfold VRs at hV;obtain⟨u,us,rfl,hV,hVs⟩:=hV;have hl:=hVs.len;refine u8 (d:=k.e+2) R hV hC hb (by lia) (by lia) (by lia) (by lia) (by lia) λS2 a b0 s0 sc' R2 l2 ha hab hja hjb he2=>?_;rw[show n+(c2+1)=n+1+c2 by lia];have:=R.cd;refine h2.h R2 rfl hjb he2 (hC.le<|l2 0) ⟨by simp only[xAb,xAt];lia,by show M.ca+1=_;rw[b2],by lia,b4,b5,b6⟩ (λ_=>?_) λz=>absurd z<|Nat.not_lt.2 b5;intro S3 q3 us R3 l3 hV3;have hja3:=l3.ky (fzj hab) hja;have l23:Le S.length S S3:=(l2 _).trans l3 (by lia);refine eu (d:=k.e+6) R3 (J:=M.js) rfl hja3 λS4 R4 l4 hb4=>?_;refine o8 (d:=k.e+4) R4 hb4 λS5 R5 l5=>?_;have l45:∀j,Le j S3 S5:=λj=>(l4 j).trans (l5 j)<|xAg _;refine hv S5 q3 us (R5.to rfl rfl (by simp) (by simp) (by show M.ca+1-1=_;lia) ?_ rfl) (l23.trans (l45 _)<|xAg _)<|VRs.le (l45 0) hV3;exact mxi
end
section
variable{la:Bool}{env:List<|Str×Nat}{N c dp ak:Nat}{γ:List Vl}{ca:Int}{p q:U}{pl z:Int}{ds lg:List Int}{V:Vl}{w w' y:Str}
def Vl.cl(V:Vl):Prop:=∀(S:So)(cm cm':List Nat)(u:U),VR S cm V u->VR S cm' V u
theorem wz(h1:Sem false env N γ ca p c ds lg (.val [V]) dp ak):Sem la env N γ ca (.tup [.str "try",.int pl,p,.str w,.str y,q]) (c+2) ds lg (.val [V]) dp ak:=by
 refine⟨?_⟩;intro k n M S J j sc cm R hj hb he hC hB hv hx;obtain⟨b1,b2,b3,b4,b5,b6⟩:=hB;have hjl:M.js.length=J.length+1:=by rw[hj,xAb];rfl
 rw[show n+(c+2)=n+1+c+1 by lia];refine eu (d:=k.e+6) R hj hb λS1 R1 l1 hb1=>?_;refine gb (d:=k.e+3) R1 rfl (by decide) (by decide) (by decide) lN (by show J.length+1+1<=_;lia) hb1 λS2 js R2 l2 hb2 f2=>?_;have jl:=zBx hb1;have l12:Le j S S2:=(l1 j).trans l2<|xAg _;cases f2 with
 |@cons _ _ js0 q0 _ f hq g1 g2=>
 cases f;refine h1.h (J:=J++[.ref j]) R2 (by rw[xC6]) hq (he.le l12) (hC.le l12) ⟨by show N+(J++[U.ref j]++([]++[U.ref q0])).length+M.ps.length+8*c<=_;simp only[xAb,xAt,List.length_nil];lia,b2,b3,b4,b5,b6⟩ (λhl=>?_) hx;intro S3 q' us R3 l3 hV;have hb3:=l3.ky (fzj<|by lia) hb2;have l13:Le j S S3:=l12.trans l3 (by lia)
 replace hV:=hV.un
 obtain⟨u,rfl,hV⟩:=hV;refine iZ (d:=k.e+6) R3 (J:=J) rfl hb3 λS4 R4 l4 hb4=>?_;refine rH (d:=k.e+4) (b:=false) R4 k.hm rfl hb4 rfl rfl (by rfl) (by rfl) (λS5 q5 R5 l5 hb5 hlt=>?_) (λz=>nomatch z);have l35:∀j,Le j S3 S5:=λj=>(l4 j).trans (l5 j)<|xAg _;refine Ar (d:=k.e+4) R5 (by show M.ps.length<=_;lia) λS6 R6 l6=>?_;have l36:∀j,Le j S3 S6:=λj=>(l35 j).trans (l6 j)<|xAg _;exact hv hl S6 _ [u] (R6.to rfl rfl (by simp) rfl rfl rfl rfl) (l13.trans (l36 j)<|xAg _)<|VRs.one<|hV.le<|l36 0
theorem wA(h1:Sem false env N γ ca p c ds [] (.flt w' V z) 0 ak)(hw:w≠w'):Sem la env N γ ca (.tup [.str "try",.int pl,p,.str w,.str y,q]) (c+1) ds [] (.flt w' V z) 0 ak:=by
 refine⟨?_⟩;intro k n M S J j sc cm R hj hb he hC hB hv hx;obtain⟨b1,b2,b3,b4,b5,b6⟩:=hB;have hjl:M.js.length=J.length+1:=by rw[hj,xAb];rfl
 refine eu (d:=k.e+6) (n:=n+c) R hj hb λS1 R1 l1 hb1=>?_;refine gb (d:=k.e+3) R1 rfl (by decide) (by decide) (by decide) lN (by show J.length+1+1<=_;lia) hb1 λS2 js R2 l2 hb2 f2=>?_;have jl:=zBx hb1;have l12:Le j S S2:=(l1 j).trans l2<|xAg _;have fl:js.length=1:=f2.len;refine(zA8.flt (ops:=[]) h1 λ_ z=>(nomatch z)).h (J:=J++[.ref j]) R2 rfl f2 (he.le l12) (hC.le l12) ⟨by show N+(J++[U.ref j]++js).length+M.ps.length+8*c<=_;simp only[xAb,xAt];lia,b2,b3,b4,b5,b6⟩ (λhl=>?_) hx;intro S3 q' ex u ca' m R3 l3 hV hm;have hb3:=l3.ky (fzj jl) hb2;have l13:Le j S S3:=l12.trans l3<|Nat.le_of_lt jl;match m with
 |0=>lia
 |m+1=>
 refine yf R3 (J:=J) rfl rfl hb3 hw λS4 R4 l4=>?_;have hv:=hv hl;rw[List.map_nil,xB0,<- zDk R.cd] at hv;exact hv S4 q' ex u ca' m R4 (l13.trans (l4 j)<|xAg _) (hV.le<|l4 0) (by simp at hm;lia)
theorem wB(h1:Sem false env N γ ca p c ds [] (.flt w V z) 0 ak)(h2:Sem la ((y,γ.length)::env) (N+1) (γ++[V]) ca q 1 [] [] (.val [V]) 0 0)(ho:V.cl):Sem la env N γ ca (.tup [.str "try",.int pl,p,.str w,.str y,q]) (c+2) ds [] (.val [V]) 0 ak:=by
 refine⟨?_⟩;intro k n M S J j sc cm R hj hb he hC hB hv hx;obtain⟨b1,b2,b3,b4,b5,b6⟩:=hB;have hjl:M.js.length=J.length+1:=by rw[hj,xAb];rfl
 rw[show n+(c+2)=n+1+c+1 by lia];refine eu (d:=k.e+6) R hj hb λS1 R1 l1 hb1=>?_;refine gb (d:=k.e+3) R1 rfl (by decide) (by decide) (by decide) lN (by show J.length+1+1<=_;lia) hb1 λS2 js R2 l2 hb2 f2=>?_;have jl:=zBx hb1;have l12:Le j S S2:=(l1 j).trans l2<|xAg _;have fl:js.length=1:=f2.len;have cd:=R.cd;refine(zA8.flt (ops:=[]) h1 λ_ z=>(nomatch z)).h (J:=J++[.ref j]) R2 rfl f2 (he.le l12) (hC.le l12) ⟨by show N+(J++[U.ref j]++js).length+M.ps.length+8*c<=_;simp only[xAb,xAt];lia,b2,b3,b4,b5,b6⟩ (λhl=>?_) hx;intro S3 q' ex u ca' m R3 l3 hV hm;have hb3:=l3.ky (fzj jl) hb2;have l13:Le j S S3:=l12.trans l3<|Nat.le_of_lt jl;match m with
 |0=>lia
 |m+1=>
 refine yg R3 (J:=J) rfl rfl hb3 λS4 R4 l4 hb4=>?_;have l14:Le j S S4:=l13.trans (l4 j)<|xAg _;refine sC (d:=k.e) R4 rfl hb4 rfl (by show M.ca<=M.dp;lia) (he.le l14) (hC.le l14) (by lia) (by show J.length<=_;lia) (hV.le<|l4 0) λS5 a b sc' zz R5 l5 hb5 hj5 he5 hC5=>?_;have l15:Le j S S5:=l14.trans (l5 j)<|xAg _;have ln:(M.ds++ds.map U.int).length=M.ds.length+ds.length:=by simp
 have hl':M.ds.length+ds.length<=k.mo:=hl;refine h2.h R5 rfl hj5 he5 hC5 ⟨by show N+1+(J++[U.ref b]).length+M.ps.length+8*1<=_;simp only[xAb,xAt];lia,b2,b3,b4,by show(M.ds++ds.map U.int).length<=_;lia,by show 0<=M.tk+(ak:Int)/\M.tk+(ak:Int)+(0:Nat)<=5;lia⟩ (λhl2=>?_) λhl2=>absurd hl2 (by show ¬ k.mo<(M.ds++ds.map U.int).length+0;lia);intro S6 q6 us R6 l6 hV6
 replace hV6:=hV6.un
 obtain⟨u6,rfl,hV6⟩:=hV6;exact hv hl S6 q6 [u6] (R6.to rfl rfl (by simp) rfl rfl (by show max M.dp (M.ca+(0:Nat))=_;rfl)<|Int.add_zero _) (l15.trans l6 (by have:=l14.len;have:=zBx hb;lia))<|VRs.one<|ho _ _ _ _ hV6
end
section
variable{up:List<|Str×Str}{S T:So}{C f:Str}{fs fs':List<|Str×U}{v:U}{as:List U}{k:Nat}{o:Ob}
theorem zBc:∀{S T:So}{k:Nat},at? (S++T) (S.length+k)=at? T k
 |[],T,k=>by simp
 |_::S,T,k=>by
  rw[xAo,show S.length+1+k=(S.length+k)+1 by lia];exact zBc (S:=S)
theorem zDn:∀{S T:So}{k:Nat},set (S++T) (S.length+k) o=S++set T k o
 |[],T,k=>by simp
 |x::S,T,k=>by
  rw[xAo,show S.length+1+k=(S.length+k)+1 by lia];exact congrArg (x::·)<|zDn (S:=S)
def mx:pr up (.new C) [] (S++T)=.ok (.ref<|S.length+T.length) (S++(T++[.ins C []])):=by
 show Res.ok (.ref (S++T).length) (S++T++[.ins C []])=_;rw[xAb,xAx]
def gM(h:as.length<=1000):pr up (.lst true) as (S++T)=.ok (.ref<|S.length+T.length) (S++(T++[.lst as])):=by
 show fits as.length (Res.ok (.ref (S++T).length)<|S++T++[.lst as])=_;rw[zBw (by show _<=2^24;lia),xAb,xAx]
def mz:pr up (.dct []) [] (S++T)=.ok (.ref<|S.length+T.length) (S++(T++[.dct []])):=by
 show Res.ok (.ref (S++T).length) (S++T++[.dct []])=_;rw[xAb,xAx]
def og:pr up (.lstOf true) [.lst as] (S++T)=.ok (.ref<|S.length+T.length) (S++(T++[.lst as])):=by
 show Res.ok (.ref (S++T).length) (S++T++[.lst as])=_;rw[xAb,xAx]
def dL(k:Nat)(h:at? T k=some (.ins C fs))(e:putF f v fs=fs')(hl:Nat.ble fs.length 900=true):pr up (.setf f) [.ref<|S.length+k,v] (S++T)=.ok .non (S++set T k (.ins C fs')):=by
 rw[dU (by rw[zBc];exact h) e hl,zDn]
end
section
variable{fw d n:Nat}{S S1 S2 S':So}{A:Ad}{mo:Nat}{M:Mc}{x:Kx Prop}{K:Kv Prop}{u v P:U}{xs:List U}
def pk(hk:K .non<|S++[wO (S.length+1) (S.length+2) (S.length+3) 0 mo 0 0,.lst xs,.lst [],.lst []]):(Gd fw<|d+1).call 26 [.ref S.length,.lst xs,.int mo] (S++[.ins "World" []]) x K:=by
 refine cd ⟨3,3,t26⟩ ?_;refine pd og ?_;refine pd (dL 0 rfl (by rfl) rfl) ?_;refine pd (dL 0 rfl (by rfl) rfl) ?_;refine pd (dL 0 rfl (by rfl) rfl) ?_;refine pd (gM<|by decide) ?_;refine pd (dL 0 rfl (by rfl) rfl) ?_;refine pd (gM<|by decide) ?_;refine pd (dL 0 rfl (by rfl) rfl) ?_;refine pd (dL 0 rfl (by rfl) rfl) ?_;refine pd (dL 0 rfl (by rfl) rfl) ?_;exact hk
def zJx{p:U}{sc:Nat}(hk:K .non<|S++(T++[jO p sc la .non 0])):(Gd fw<|d+1).call 37 [.ref<|S.length+T.length,p,.ref sc,.bl la] (S++(T++[.ins "Job" []])) x K:=by
 rw[<- xAb,<- xAx];rw[<- xAx] at hk;exact rd hk
def yX{w0 l1 l2 l3:Ob}(hk:K .non<|S++[w0,l1,l2,l3,rO S.length (S.length+7)<|S.length+8,.dct [],jO P (S.length+5) true .non 0,.lst [.ref<|S.length+6],.lst []]):(Gd fw<|d+2).call 53 [.ref<|S.length+4,P,.ref S.length] (S++[w0,l1,l2,l3,.ins "SourceRun" []]) x K:=by
 refine cd ⟨3,3,t53⟩ ?_;refine pd (dL 4 rfl (by rfl) rfl) ?_;refine pd mz<|pd mx ?_;refine zJx ?_;refine pd (gM<|by show 1<=1000;decide) ?_;refine pd (dL 4 rfl (by rfl) rfl) ?_;refine pd (gM<|by show 0<=1000;decide) ?_;refine pd (dL 4 rfl (by rfl) rfl) ?_;exact hk
def lr{e:U}(R:RS A mo M S)(hk:K (.tup [e,.lst M.lg,.lst M.ds,.int M.dp]) S):(Gd fw<|d+1).call 33 [.ref A.w,e] S x K:=by
 refine cd ⟨2,2,t33⟩ ?_;have h1:=R.wor;walk_at"w"
 refine pd (kg R.lo) ?_;walk_at"w"
 refine pd (kg R.de) ?_;walk_at"w"
 exact hk
def zZ(h:Lp fw d A.r (sqE (zAo x K) λσ1 S1=>zIl (Gd fw d) σ1 S1<|zAo x K) fw S):(Gd fw<|d+1).call 54 [.ref A.r] S x K:=by
 refine cd ⟨1,2,t54⟩ ?_;rw[wt];show whK _ _ _ _ (Gd fw d).fuel _ _ _;rw[fuel];exact h none
def Vl.wi:Vl->U
 |.int i=>.int i
 |.blk t _=>.tup [.str "block",.str t]
 |.fn pl _ _ _ _=>.tup [.str "fn",.int pl]
def Vl.sh:Vl->U
 |.blk t Vs=>.tup [.str "block",.str t,.tup<|Vs.map Vl.wi]
 |V=>V.wi
def Vl.sm:Vl->Prop
 |.blk _ Vs=>Vs.length<=1000
 |_=>True
variable{cm:List Nat}{V:Vl}
theorem vA(hV:VR S cm V u)(hk:K V.wi S):(Gd fw<|d+1).call 5 [u] S x K:=by
 cases V with
 |int i=>
  unfold VR at hV;subst hV;exact gZ hk
 |blk t Vs=>
  unfold VR at hV;obtain⟨p,us,rfl,h,_⟩:=hV;refine cd ⟨1,1,t5⟩ ?_;refine pd (eP h) ?_;walk_at"w"
  exact hk
 |fn=>
  unfold VR at hV;obtain⟨p,sc,rfl,h,_⟩:=hV;refine cd ⟨1,1,t5⟩ ?_;refine pd (eP h)<|bF<|pd (eP h) ?_;walk_at"w"
  exact hk
theorem vS{σ:Sg}:∀{Vs:List Vl}{us ys:List U},VRs S cm Vs us->K (.lst<|ys++Vs.map Vl.wi) S->lcK (Gd fw<|d+1) (lcB [1] true [none,none] none (Jm 5 J2)<|Gd fw<|d+1) us ys S K
 |[],us,ys,h,hk=>by
  unfold VRs at h;subst h;rw[List.map_nil,xB0] at hk;exact hk
 |V::Vs,us,ys,h,hk=>by
  unfold VRs at h;obtain⟨u,us,rfl,h1,h2⟩:=h;refine vA h1 ?_;refine vS (Vs:=Vs) (ys:=ys++[V.wi]) (σ:=σ) h2 ?_;rw[xAx];exact hk
theorem vD(hV:VR S cm V u)(hs:V.sm)(hk:K V.sh S):(Gd fw<|d+2).call 4 [u] S x K:=by
 cases V with
 |int i=>
  unfold VR at hV;subst hV;exact nU hk
 |fn=>
  have hV':=hV;unfold VR at hV;obtain⟨p,sc,rfl,h,_⟩:=hV;refine cd ⟨1,1,t4⟩ ?_;exact pd (eP h)<|bF<|vA hV' hk
 |blk t Vs=>
  unfold VR at hV;obtain⟨p,us,rfl,h,r⟩:=hV;have hl:=r.len;have hs:Vs.length<=1000:=hs;refine cd ⟨1,1,t4⟩ ?_;refine pd (eP h) ?_;walk_at"w"
  refine bI (c:=Nat.ble us.length sizeLine) (λ_=>?_) λz=>absurd (xDk<|show us.length<=2^24 by lia) (by rw[show Nat.ble us.length (2^24)=false from z];decide);refine vS (Vs:=Vs) (ys:=[]) (σ:=[]) r ?_;walk_at"w"
  exact hk
end
section
variable{fw d e n:Nat}{S S':So}{A:Ad}{mo:Nat}{M:Mc}{x:Kx Prop}{K:Kv Prop}{E:Ee Prop}{c dp ak q0 j sc:Nat}{P:U}{ds lg:List Int}{out:Out}
def zJ0(w:Str)(V:Vl)(pl:Int):Xc:=⟨"Ended",[("end",.tup [.str "fault",.str w,V.sh,.int pl])]⟩
def Out.sm:Out->Prop
 |.val Vs=>∃V,Vs=[V]/\V.sm
 |.flt _ V _=>V.sm
def xG(h:Sem true [] 0 [] 0 P c ds lg out dp ak)(ho:out.sm)(hc:c<=90000)(hdp:dp<=50)(hak:ak<=5)(hlg:lg.length<=100000)(hm:mo<=2000)(hf:900000<fw)(hin:(A.il,zCf)∈A.ks)(R:RS A mo ⟨q0,[.ref j],[],[],[],0,0,0⟩ S)(hj:at? S j=some (jO P sc true .non 0))(hs:at? S sc=some (.dct []))(h1:ds.length<=mo->∀S' M' V u cm,out=.val [V]->VR S' cm V u->RS A mo M' S'->M'.ps=[u]->M'.ds=ds.map .int->M'.lg=lg.map .int->M'.dp=dp->∀o,E.nx [some<|.ref A.r,o] S')(h2:ds.length<=mo->∀S' M' w V pl,out=.flt w V pl->RS A mo M' S'->M'.ds=ds.map .int->M'.lg=lg.map .int->M'.dp=dp->∀σ,E.x (zJ0 w V pl) σ S')(h3:mo<ds.length->∀S' M',RS A mo M' S'->M'.ds=(ds.map .int).take mo->M'.lg=[]->M'.dp=0->∀σ,E.x zG8 σ S'):Lp fw (e+6) A.r E fw S:=by
 obtain⟨m,em⟩:∃m,fw=m+1+c:=⟨fw-c-1,by lia⟩
 have key:=h.h (k:=⟨fw,e,A,mo,E,hf,hm,hin⟩) (n:=m+1) (J:=[]) (cm:=[]) R rfl hj ⟨[],hs,xAg _,λ_ _ z=>nomatch z⟩ ⟨rfl,List.nodup_nil,λz=>nomatch z⟩ ⟨by show 0+1+0+8*c<=_;lia,rfl,by lia,by show 0+_<=_;lia,xBn _,by show 0<=(0:Int)/\(0:Int)+ak<=5;lia⟩ ?_ ?_
 ·rw[show(⟨fw,e,A,mo,E,hf,hm,hin⟩:Cn).L (m+1+c) S=Lp fw (e+6) A.r E (m+1+c) S from rfl,<- em] at key;exact key
 ·intro hl;have hl:ds.length<=mo:=by
   have:0+ds.length<=mo:=hl;lia
  have ed:max (0:Int) (0+dp)=dp:=by lia
  cases out with
  |val Vs=>
   intro S' q us R' l hV;obtain⟨V,rfl,_⟩:=ho
   replace hV:=hV.un
   obtain⟨u,rfl,hV⟩:=hV;exact xH R' rfl<|h1 hl S' _ V u _ rfl hV R' rfl rfl rfl ed
  |flt w V pl=>
   intro S' q ex u ca' m' R' l hV hm';match m' with
   |0=>exact absurd hm' (Nat.not_lt_zero _)
   |m'+1=>exact yh (d:=e+1) R' rfl (λz=>vD hV ho z) λσ=>h2 hl S' _ w V pl rfl R' rfl rfl ed σ
 ·intro hl;have hl:mo<ds.length:=by
   have:mo<0+ds.length:=hl;lia
  exact λS' M' R' a b c σ=>h3 hl S' M' R' a b c σ
def zD8:Out->U
 |.val Vs=>.tup [.str "value",match Vs with|[V]=>V.sh|_=>.non]
 |.flt w V pl=>.tup [.str "fault",.str w,V.sh,.int pl]
def zB9(mo:Nat)(ds lg:List Int)(out:Out)(dp:Nat):U:=if mo<ds.length then .tup [.tup [.str "dry"],.lst [],.lst<|(ds.map .int).take mo,.int 0] else .tup [zD8 out,.lst<|lg.map .int,.lst<|ds.map .int,.int dp]
def wI(h:Sem true [] 0 [] 0 P c ds lg out dp ak)(ho:out.sm)(hc:c<=90000)(hdp:dp<=50)(hak:ak<=5)(hlg:lg.length<=100000)(hm:mo<=2000)(hf:900000<fw)(hck:∀{d:Nat}{S:So}{x:Kx Prop}{K:Kv Prop},(∀S',K P S')->(Gd fw<|d+60).call 25 [P] S x K)(hk:∀S',K (zB9 mo ds lg out dp) S'):(Gd fw<|d+61).call 60 [P,.lst zCf,.int mo] S x K:=by
 refine cd ⟨3,3,t60⟩ ?_;refine hck λT=>?_;walk_at"w"
 refine pk ?_;refine pd mx ?_;refine yX ?_;refine cd ⟨1,3,t34⟩ ?_;have R:RS ⟨T.length+4,T.length,T.length+1,T.length+2,T.length+3,T.length+7,[(T.length+1,zCf)]⟩ mo ⟨T.length+8,[.ref<|T.length+6],[],[],[],0,0,0⟩<|T++[wO (T.length+1) (T.length+2) (T.length+3) 0 mo 0 0,.lst zCf,.lst [],.lst [],rO T.length (T.length+7)<|T.length+8,.dct [],jO P (T.length+5) true .non 0,.lst [.ref<|T.length+6],.lst []]:=by
  refine⟨zBc,zBc (k:=0),zBc,zBc,zBc,zBc,?_,?_,?_,?_,?_,?_,Int.le_refl _,λk z=>?_,λk z=>?_⟩
  rotate_right 2
  ·cases xAm.mp z;exact zBc
  ·cases xAm.mp z;dsimp only;lia
  all_goals (dsimp only;lia)
 have g1:=R.run;walk_at"w"
 refine zZ (A:=⟨T.length+4,T.length,T.length+1,T.length+2,T.length+3,T.length+7,[(T.length+1,zCf)]⟩) ?_;refine xG (e:=d+52) h ho hc hdp hak hlg hm hf (xAm.mpr rfl) R (j:=T.length+6) (sc:=T.length+5) zBc zBc ?_ ?_ ?_
 ·intro hle S' M' V u cm eo hV R' hp a b c o;have hk:=hk S';rw[zB9,xCf<|Nat.not_lt.2 hle,eo] at hk;rw[eo] at ho;obtain⟨V',e',hs⟩:=ho;cases e';have g2:=R'.run;have g3:=R'.pi;rw[hp] at g3;walk_at"w"
  refine pd (v:=u) (S':=S') (by show ixU (.ref M'.pl) (.int 0) S'=_;unfold ixU;dsimp only;rw[g3];rfl) ?_;refine vD hV hs ?_;have g4:=R'.wor;walk_at"w"
  refine lr R' ?_;rw[a,b,c];exact hk
 ·intro hle S' M' w V pl eo R' a b c σ;have hk:=hk S';rw[zB9,xCf<|Nat.not_lt.2 hle,eo] at hk;have g2:=R'.run;have g4:=R'.wor;walk_at"w"
  refine lr R' ?_;rw[a,b,c];exact hk
 ·intro hlt S' M' R' a b c σ;have hk:=hk S';rw[zB9,xCg hlt] at hk;have g2:=R'.run;have g4:=R'.wor;walk_at"w"
  refine lr R' ?_;rw[a,b,c];exact hk
end
section
variable{fw d n e:Nat}{S S1 S2 S':So}{x:Kx Prop}{K:Kv Prop}{u v P:U}{w:Str}{xs:List U}{i:Int}
def qj(h:xs.length<=1000)(hk:K (.tup xs) S):(Gd fw<|d+1).call 17 [.tup xs] S x K:=by
 refine cd ⟨1,1,t17⟩ ?_;walk_at"w"
 refine pd (v:=.tup xs) (S':=S) (zBw<|by show 0+xs.length<=2^24;lia) ?_;exact hk
def ij(h:w.length<=1000)(hk:K (.str w) S):(Gd fw<|d+1).call 17 [.str w] S x K:=by
 refine cd ⟨1,1,t17⟩ ?_;walk_at"w"
 refine pd (v:=.str w) (S':=S) (zBw<|by show w.length+0<=2^24;lia) ?_;exact hk
def ql(hk:K (.int i) S):(Gd fw<|d+2).call 17 [.int i] S x K:=by
 refine cd ⟨1,1,t17⟩ ?_;walk_at"w"
 refine eW ?_;walk_at"w"
 exact hk
def ltrs:Str:="abcdefghijklmnopqrstuvwxyz"
def chs(w:Str):List U:=w.cps.toList.map λc=>.str ⟨#[c]⟩
def inL(c:U):Bool:=match inU [] c (.str ltrs) with
 |some b=>b
 |none=>false
def zAu(w:Str):Bool:=Nat.ble 1 w.length&&Nat.ble w.length 8&&(chs w).all inL
theorem vW:∀{cs ys:List U},(∀c∈cs,inL c=true)->K (.lst<|ys++cs.map λ_=>.bl true) S->lcK (Gd fw d) (lcB [1] true [none,none] none (cB<|tB<|cP .inn<|zAp (cV 1)<|cC<|.str ltrs)<|Gd fw d) cs ys S K
 |[],ys,h,hk=>by
  rw[List.map_nil,xB0] at hk;exact hk
 |c::cs,ys,h,hk=>by
  have h1:=h c<|xAr ..;refine pd (v:=.bl true) (S':=S) ?_ ?_
  ·show obB (inU S c<|.str ltrs) id S=_;unfold inL at h1;have e:inU S c (.str ltrs)=inU [] c (.str ltrs):=rfl;rw[e];split at h1
   ·next b hb=>rw[hb,h1];rfl
   ·cases h1
  ·refine vW (cs:=cs) (ys:=ys++[.bl true]) (λc hc=>h c<|xAs _ hc) ?_;rw[xAx];exact hk
theorem kX:∀{cs:List U},blL (cs.map λ_=>U.bl true)=some (cs.map λ_=>true)
 |[]=>rfl
 |_::cs=>by show(blL _).map _=_;rw[kX];rfl
def isw(h:zAu w=true)(hk:K (.bl true) S):(Gd fw<|d+1).call 13 [.str w] S x K:=by
 unfold zAu at h;rw[xCh,xCh] at h;obtain⟨⟨h1,h2⟩,h3⟩:=h;have h1:=xCo h1;have h2:=xCo h2;refine cd ⟨1,1,t13⟩ ?_;walk_at"w"
 refine pd (v:=.int w.length) (S':=S) (zBw<|by show _<=2^24;lia) ?_;refine pd (v:=.bl true) (S':=S) (by show Res.ok (.bl<|decide<|(1:Int)<=w.length) S=_;rw[xBd<|by lia]) ?_;refine bT ?_;refine pd (v:=.bl true) (S':=S) (by show Res.ok (.bl<|decide<|(w.length:Int)<=8) S=_;rw[xBd<|by lia]) ?_;refine bF<|pv (.tup<|chs w) ?_;have hc:(chs w).length<=sizeLine:=by
  show _<=2^24;have:(chs w).length=w.length:=by unfold chs;rw[xAa];rfl
  lia
 refine bI (c:=Nat.ble (chs w).length sizeLine) (λ_=>?_) λz=>absurd (xDk hc) (by rw[z];decide);refine vW (cs:=chs w) (ys:=[]) (λc hc=>xCx.mp h3 c hc) ?_;refine pd (v:=.bl true) (S':=S) ?_ hk;show(match blL ([]++(chs w).map λ_=>U.bl true) with|some bs=>Res.ok (.bl<|bs.all id) S|none=>.stuck)=_;rw[xC6,kX];simp
def zDt:List U:=[.str "fn",.str "call",.str "let",.str "set",.str "do",.str "if",.str "add",.str "sub",.str "mul",.str "less",.str "same",.str "make",.str "match",.str "raise",.str "try",.str "tell",.str "ask"]
def zBj(w:Str):Bool:=zAu w&&!zB5 (.str w) zDt
def isn(h:zBj w=true)(hk:K (.bl true) S):(Gd fw<|d+2).call 14 [.str w] S x K:=by
 unfold zBj at h;rw[xCh] at h;refine cd ⟨1,1,t14⟩ ?_;refine isw h.1 ?_;refine bT ?_;refine pd (v:=.bl true) (S':=S) ?_ hk;show obB (some<|zB5 (.str w) zDt) not S=_;have:=h.2;rw[Bool.not_eq_true'] at this;rw[this];rfl
def uU(h:-(10^12)<i/\i<10^12)(hk:K (.bl true) S):(Gd fw<|d+3).call 24 [.str "number",.int i,v] S x K:=by
 refine cd ⟨3,3,t24⟩ ?_;walk_at"w"
 refine cd ⟨1,1,t16⟩ ?_;refine eW ?_;refine bT<|pv (.int<|if i<0 then -i else i)<|pv (.int<|10^12) ?_;refine pd (v:=.bl true) (S':=S) ?_ hk;show Res.ok (.bl<|decide<|(if i<0 then -i else i)<10^12) S=_;rw[xBd<|by split <;> lia]
def zEi(w:Str):Bool:=zAu w&&zB5 (.str w) [.str "add",.str "sub",.str "mul",.str "less",.str "same"]
def yi(h:zEi w=true)(hk:K (.bl true) S):(Gd fw<|d+2).call 24 [.str "op",.str w,v] S x K:=by
 unfold zEi at h;rw[xCh] at h;refine cd ⟨3,3,t24⟩ ?_;walk_at"w"
 refine isw h.1 ?_;refine bT ?_;refine pd (v:=.bl true) (S':=S) ?_ hk;show obB (some<|zB5 (.str w) [.str "add",.str "sub",.str "mul",.str "less",.str "same"]) id S=_;rw[h.2];rfl
def rE(h:zAu w=true)(hk:K (.bl true) S):(Gd fw<|d+2).call 24 [.str "word",.str w,v] S x K:=by
 refine cd ⟨3,3,t24⟩ ?_;walk_at"w"
 exact isw h hk
def rG(h:zBj w=true)(hk:K (.bl true) S):(Gd fw<|d+3).call 24 [.str "name",.str w,v] S x K:=by
 refine cd ⟨3,3,t24⟩ ?_;walk_at"w"
 exact isn h hk
theorem jg:∀{th:List Str},(th.map U.str).all zAq=true
 |[]=>rfl
 |_::th=>by rw[xBs,xCj,jg];rfl
theorem k8:∀{th:List Str},w∈th->zB5 (.str w) (th.map U.str)=true
 |y::th,h=>by
  show((y==w)||zB5 (.str w) (th.map U.str))=true;rcases xAv.mp h with rfl|h
  ·rw[show(w==w)=true by exact beq_self_eq_true w];rfl
  ·rw[k8 h,Bool.or_true]
def rF(h:zBj w=true)(ht:w∈th)(hk:K (.bl true) S):(Gd fw<|d+3).call 24 [.str "used",.str w,.tup<|th.map .str] S x K:=by
 refine cd ⟨3,3,t24⟩ ?_;walk_at"w"
 refine isn h ?_;refine bT ?_;refine pd (v:=.bl true) (S':=S) ?_ hk;show obB (if(zAq (.str w)&&(th.map U.str).all zAq)=true then some (zB5 (.str w)<|th.map U.str) else none) id S=_;rw[jg,k8 ht];rfl
end
section
variable{fw d n e:Nat}{S S1 S2 S':So}{x:Kx Prop}{K:Kv Prop}{u v P:U}{w:Str}{xs:List U}{i pl:Int}{h pq kq:Nat}{ps pls:List Int}{th nn:List Str}
def plK(ps:List Int):List<|Key×U:=ps.map λi=>(Sum.inl i,.bl true)
structure ChS(h pq:Nat)(ps:List Int)(S:So):Prop where
 ob:at? S h=some (.ins "Checker" [("places",.ref pq)])
 di:at? S pq=some (.dct (plK ps))
structure Pc(pq:Nat)(S S':So):Prop where
 len:S.length<=S'.length
 ky:∀{q o},q≠pq->at? S q=some o->at? S' q=some o
def Pc.trans(h1:Pc pq S S1)(h2:Pc pq S1 S2):Pc pq S S2:=⟨xCk h1.len h2.len,λa b=>h2.ky a<|h1.ky a b⟩
def Pc.refl:Pc pq S S:=⟨xAg _,λ_ b=>b⟩
theorem nq:∀{ps:List Int},pl∉ps->zBb (.inl pl) (plK ps)=none
 |[],_=>rfl
 |a::ps,h=>by
  show(if(Sum.inl a:Key)=.inl pl then _ else zBb (.inl pl) (plK ps))=_;rw[xCf (by intro z;injection z with z;exact h (by rw[z];exact xAr ..)),nq λz=>h<|xAs _ z]
theorem sO:∀{ps:List Int},pl∉ps->((plK ps).any λkv=>decide<|kv.1=.inl pl)=false
 |[],_=>rfl
 |a::ps,h=>by
  show(decide ((Sum.inl a:Key)=.inl pl)||(plK ps).any _)=_;rw[xCn (by intro z;injection z with z;exact h (by rw[z];exact xAr ..)),sO λz=>h<|xAs _ z];rfl
def tG(hp:pl∉ps):putK (.inl pl) (.bl true) (plK ps)=plK (ps++[pl]):=by
 unfold Fx.putK;rw[sO hp];simp[plK]
def AQ(C:ChS h pq ps S)(hp:0<=pl/\pl<=599)(hn:pl∉ps)(hl:ps.length<300)(hk:∀S',ChS h pq (ps++[pl]) S'->Pc pq S S'->K .non S'):(Gd fw<|d+3).call 20 [.ref h,.int pl] S x K:=by
 refine cd ⟨2,2,t20⟩ ?_;refine cd ⟨1,1,t15⟩ ?_;refine eW ?_;refine bT ?_;refine pd (v:=.bl true) (S':=S) (by show Res.ok (.bl<|decide<|(0:Int)<=pl) S=_;rw[xBd hp.1]) ?_;refine bT ?_;refine pd (v:=.bl true) (S':=S) (by show Res.ok (.bl<|decide<|pl<=(599:Int)) S=_;rw[xBd hp.2]) ?_;refine bF ?_;have h1:=C.ob;have h2:=C.di;refine pd (dX h1 rfl) ?_;refine pd (v:=.bl false) (S':=S) ?_ ?_
 ·show obB (inU S (.int pl)<|.ref pq) id S=_;unfold inU;dsimp only;rw[h2];show obB (some (zBb (.inl pl)<|plK ps).isSome) id S=_;rw[nq hn];rfl
 refine bF<|pd (dX h1 rfl) ?_;have hL:(plK ps).length=ps.length:=by simp[plK]
 refine pd (v:=.non) (S':=set S pq<|.dct<|plK<|ps++[pl]) ?_ ?_
 ·show zCh pq (.int pl) (.bl true) S=_;unfold zCh;rw[h2];show fits _ _=_;rw[zBw (by show _<=2^24;lia),tG hn]
 have C':ChS h pq (ps++[pl])<|set S pq<|.dct<|plK<|ps++[pl]:=⟨atK h2 h1 (show("d":Str)≠"Checker" by decide),zA0 h2⟩
 have h3:=C'.ob;refine pd (dX h3 rfl) ?_;refine pd (tR C'.di) ?_;refine pd (v:=.bl false) (S':=set S pq<|.dct<|plK<|ps++[pl]) (by show Res.ok (.bl<|decide<|(300:Int)<(plK<|ps++[pl]).length) _=_;rw[xCn<|by simp[plK];lia]) ?_;refine bF ?_;exact hk _ C' ⟨by rw[zBh];exact xAg _,λa b=>atN (Ne.symm a) b⟩
structure TA(vs:List U)(nn:List Str):Prop where
 h:∀{fw d:Nat}{S:So}{kq:Nat}{x:Kx Prop}{K:Kv Prop},at? S kq=some (.lst vs)->K (.tup (nn.map .str)) S->(Gd fw (d+1)).call 11 [.ref kq,.int vs.length] S x K
def dw{up:List<|Str×Str}(hq:at? S kq=some (.lst xs))(hj:xs[j]?=some v):pr up .ix [.ref kq,.int j] S=.ok v S:=by
 show ixU (.ref kq) (.int j) S=_;unfold ixU;dsimp only;rw[hq];show opt (atI xs (j:Int)) S=_;rw[dZ hj];rfl
def jp{k:Str}{r:List U}(h1:zAj k fB=none)(h2:(fc.any λy=>decide<|y=k)=true):TA (.str k::r) []:=⟨λ{fw d S kq x K} hq hk=>by
 refine cd ⟨2,5,t11⟩ ?_;refine pd (dw (j:=0) hq rfl) ?_;refine pd (v:=.tup [.non,.non]) (S':=S) ?_ ?_
 ·delta pr;dsimp only[qZ];rw[h1,h2]
 walk_at"w"
 exact hk⟩
def yV{p:U}:TA [.str "fn",p] []:=⟨λ{fw d S kq x K} hq hk=>by
 refine cd ⟨2,5,t11⟩ ?_;refine pd (dw (j:=0) hq rfl) ?_;walk_at"w"
 exact hk⟩
def wp{p:U}:TA [.str "fn",p,.tup<|ns.map .str] ns:=⟨λ{fw d S kq x K} hq hk=>by
 refine cd ⟨2,5,t11⟩ ?_;refine pd (dw (j:=0) hq rfl) ?_;walk_at"w"
 refine pd (dw (j:=2) hq rfl) ?_;walk_at"w"
 exact hk⟩
def wn{p:U}:TA [.str "try",p] []:=⟨λ{fw d S kq x K} hq hk=>by
 refine cd ⟨2,5,t11⟩ ?_;refine pd (dw (j:=0) hq rfl) ?_;walk_at"w"
 exact hk⟩
def tp{p q:U}:TA [.str "try",p,q] []:=⟨λ{fw d S kq x K} hq hk=>by
 refine cd ⟨2,5,t11⟩ ?_;refine pd (dw (j:=0) hq rfl) ?_;walk_at"w"
 exact hk⟩
def tm{p q r:U}:TA [.str "try",p,q,r] []:=⟨λ{fw d S kq x K} hq hk=>by
 refine cd ⟨2,5,t11⟩ ?_;refine pd (dw (j:=0) hq rfl) ?_;walk_at"w"
 exact hk⟩
def tj{p q r:U}:TA [.str "try",p,q,r,.str y] [y]:=⟨λ{fw d S kq x K} hq hk=>by
 refine cd ⟨2,5,t11⟩ ?_;refine pd (dw (j:=0) hq rfl) ?_;walk_at"w"
 refine pd (dw (j:=4) hq rfl) ?_;walk_at"w"
 exact hk⟩
def yU{p:U}:TA [.str "match",p] []:=⟨λ{fw d S kq x K} hq hk=>by
 refine cd ⟨2,5,t11⟩ ?_;refine pd (dw (j:=0) hq rfl) ?_;walk_at"w"
 exact hk⟩
def yT{p q:U}:TA [.str "match",p,q] []:=⟨λ{fw d S kq x K} hq hk=>by
 refine cd ⟨2,5,t11⟩ ?_;refine pd (dw (j:=0) hq rfl) ?_;walk_at"w"
 exact hk⟩
def yS{p q r:U}:TA [.str "match",p,q,r] []:=⟨λ{fw d S kq x K} hq hk=>by
 refine cd ⟨2,5,t11⟩ ?_;refine pd (dw (j:=0) hq rfl) ?_;walk_at"w"
 exact hk⟩
def yR{p q r:U}:TA [.str "match",p,q,r,.tup<|ns.map .str] ns:=⟨λ{fw d S kq x K} hq hk=>by
 refine cd ⟨2,5,t11⟩ ?_;refine pd (dw (j:=0) hq rfl) ?_;walk_at"w"
 refine pd (dw (j:=4) hq rfl) ?_;walk_at"w"
 exact hk⟩
def yQ{p q r s u:U}:TA [.str "match",p,q,r,s,u] []:=⟨λ{fw d S kq x K} hq hk=>by
 refine cd ⟨2,5,t11⟩ ?_;refine pd (dw (j:=0) hq rfl) ?_;walk_at"w"
 exact hk⟩
end
structure zCd(s:Str)(v:U)(pls:List Int)(th:List Str)(wi:Int)(D:Nat):Prop where
 h:∀{fw d h pq:Nat}{ps:List Int}{S:So}{x:Kx Prop}{K:Kv Prop},D<=d->ChS h pq ps S->(ps++pls).Nodup->(ps++pls).length<=300->(∀S',ChS h pq (ps++pls) S'->Pc pq S S'->K v S')->(Gd fw d).call 21 [.ref h,.str s,v,.tup (th.map .str),.int wi] S x K
structure Chk(P:U)(pls:List Int)(th:List Str)(wi:Int)(D:Nat):Prop where
 h:∀{fw d h pq:Nat}{ps:List Int}{S:So}{x:Kx Prop}{K:Kv Prop},D<=d->ChS h pq ps S->(ps++pls).Nodup->(ps++pls).length<=300->(∀S',ChS h pq (ps++pls) S'->Pc pq S S'->K P S')->(Gd fw d).call 19 [.ref h,P,.tup (th.map .str),.int wi] S x K
inductive Its(th:List Str)(wi:Int)(D:Nat):List U->List (Str×U)->List Int->Prop
 |nil {vs:List U}:Its th wi D vs [] []
 |cons {vs:List U} {s:Str} {v:U} {nn:List Str} {r:List (Str×U)} {pl pls:List Int} (t:TA vs nn) (c:zCd s v pl (th++nn) wi D) (hn:nn.length<=10) (i:Its th wi D (vs++[v]) r pls):Its th wi D vs ((s,v)::r) (pl++pls)
def zIy:TSx Prop:=sQ (sA 9<|cP (.add false)<|zAp (cV 2)<|cF 11 (aC (cV 5)<|aC (cP .len<|aC (cV 5) aN) aN) [])<|sQ (sE<|cBM "list" .app (cV 5)<|aC (cM "Checker" "check_thing" 21 (cV 0) (aC (cV 7)<|aC (cV 8)<|aC (cV 9)<|aC (cV 3) aN) []) aN) sN
theorem xY{wi:Int}{D h kq:Nat}(hD:D<=d+1)(hth:th.length<=1000):∀{vs:List U}{items:List<|Str×U}{pls:List Int},Its th wi D vs items pls->∀{S:So}{ps:List Int}{a b c:Option U},ChS h pq ps S->kq≠pq->at? S kq=some (.lst vs)->(ps++pls).Nodup->(ps++pls).length<=300->vs.length+items.length<=100 ->
  (∀S' a b c,ChS h pq (ps++pls) S'->S.length<=S'.length->(∀{q o},q≠pq->q≠kq->at? S q=some o->at? S' q=some o)->at? S' kq=some (.lst<|vs++items.map (·.2))->kk [some<|.ref h,a1,some<|.tup<|th.map .str,some<|.int wi,a4,some<|.ref kq,a6,a,b,c] S') ->
  zB4 (items.map λp=>U.tup [.str p.1,p.2]) (λw σ1 S2 nx=>tgt [7,8] false (Gd fw<|d+1) w σ1 λσ2=>zIy (Gd fw<|d+1) σ2 S2<|lpE E nx) [some<|.ref h,a1,some<|.tup<|th.map .str,some<|.int wi,a4,some<|.ref kq,a6,a,b,c] S kk:=by
 intro vs items pls hI;induction hI with
 |nil=>
  intro S ps a b c C hq hk hn hl hb hkk;refine hkk S a b c ?_ (xAg _) (λ_ _ z=>z) ?_
  ·rw[xB0];exact C
  ·rw[List.map_nil,xB0];exact hk
 |@cons vs s v nn r pl pls t ci hnn i ih=>
  intro S ps a b c C hq hk hn hl hb hkk;have h1:=C.ob;rw[xBs,zB4];refine pd (fY hk) ?_;refine t.h hk ?_;refine pd (v:=.tup<|(th++nn).map .str) (S':=S) ?_ ?_
  ·show fits _ _=_;rw[zBw (by show _<=2^24;rw[xAa,xAa];lia),List.map_append]
  refine pd (fq hk) ?_;refine pd (gp h1 rfl) ?_;rw[<- xAx] at hn hl hkk;have hn1:(ps++pl).Nodup:=(xBq.mp hn).1;refine ci.h hD C hn1 (by rw[xAb (as:=ps++pl)] at hl;lia) λS1 C1 p1=>?_;have hk1:=p1.ky hq hk;simp only[xAo] at hb;refine pd (dM hk1<|by show _<=2^24;lia) ?_;have C2:ChS h pq (ps++pl)<|set S1 kq<|.lst<|vs++[v]:=⟨atK hk1 C1.ob (show("":Str)≠"Checker" by decide),atN hq C1.di⟩
  refine ih C2 hq (zA0 hk1) hn hl (by simp;lia) λS' a b c C' ln ky hk'=>?_;refine hkk S' a b c C' (by rw[zBh] at ln;exact xCk p1.len ln) (λn1 n2 z=>ky n1 n2<|atN (Ne.symm n2)<|p1.ky n1 z) ?_;rw[xAx] at hk';exact hk'
def zHa{a b:U}{r:List U}:pr ups (.sl false true false) [.tup<|a::b::r,.int 2] []=.ok (.tup r) []:=by
 show slice false (.tup<|a::b::r) (some ((2:Nat):Int)) none []=_;unfold slice;dsimp only;rw[HT.sIx_nat,show min 2 (a::b::r).length=2 by simp,xCn<|by lia];dsimp only;congr 2;unfold zCj;rw[HT.sIx_nat,show min 2 (a::b::r).length=2 by simp,HT.sIx_none];simp
def wU{a b:U}{r:List U}:pr ups (.sl false true false) [.tup<|a::b::r,.int 2] S=.ok (.tup r) S:=by
 have e:∀S,pr ups (.sl false true false) [.tup<|a::b::r,.int 2] S=slice false (.tup<|a::b::r) (some 2) none S:=λ_=>rfl;have:=zHa (a:=a) (b:=b) (r:=r);rw[e] at this⊢;unfold slice at this⊢;dsimp only at this⊢;split at this
 ·cases this
 ·injection this with this _;rw[this]
theorem l9:∀{its:List<|Str×U},zB6 (its.map λp=>.str p.1) (its.map (·.2))=its.map λp=>.tup [.str p.1,p.2]
 |[]=>rfl
 |p::its=>by
  show U.tup [.str p.1,p.2]::zB6 _ _=_;rw[l9];rfl
theorem iJ{P:U}{k:Str}{wi wi':Int}{D:Nat}{b:Bool}(hP:P=.tup (.str k::.int pl::items.map (·.2)))(hf:zAj k dI=some (.kt<|items.map λp=>.str p.1))(hw:(!zB5 (.str k) [.str "number",.str "name"])=b)(hwi:wi'=if b then wi+1 else wi)(h20:wi'<=20)(hkl:k.length<=1000)(hil:items.length<=10)(hpl:0<=pl/\pl<=599)(hth:th.length<=1000)(hD:4<=D)(hI:Its th wi' D [.str k,.int pl] items pls):Chk P (pl::pls) th wi<|D+1:=by
 refine⟨?_⟩;intro fw d h pq ps S x K hd C hn hl hk;obtain⟨d,rfl⟩:∃d',d=d'+4:=⟨d-4,by lia⟩
 refine cd ⟨4,10,t19⟩ ?_;rw[hP];have hlm:(items.map (·.2)).length=items.length:=xAa ..;refine qj (by simp only[xAo,hlm];lia) ?_;refine pv (.bl true)<|bF ?_;refine pd (v:=.int (items.length+2:Nat)) (S':=S) (by show Res.ok (.int ((items.map (·.2)).length+1+1:Nat)) S=_;rw[hlm]) ?_;refine pd (v:=.bl false) (S':=S) (by show Res.ok (.bl<|decide<|((items.length+2:Nat):Int)<2) S=_;rw[xCn<|by lia]) ?_;refine bF<|pd gn ?_;refine ij hkl ?_;refine pd ii ?_;refine ql ?_;refine pd (v:=.ref S.length) (S':=S++[.lst [.str k,.int pl]]) (by rfl) ?_;have hk1:at? (S++[Ob.lst [.str k,.int pl]]) S.length=some (.lst [.str k,.int pl]):=zA6;have C1:ChS h pq ps<|S++[.lst [.str k,.int pl]]:=⟨zA7 C.ob,zA7 C.di⟩
 have hq:S.length≠pq:=by have:=zBx C.di;lia
 have lt1:S.length<=(S++[Ob.lst [.str k,.int pl]]).length:=by simp
 have ky1:∀{q o},at? S q=some o->at? (S++[Ob.lst [.str k,.int pl]]) q=some o:=λz=>zA7 z;generalize S++[Ob.lst [.str k,.int pl]]=T at hk1 C1 lt1 ky1⊢;refine pd (dw (j:=0) hk1 rfl) ?_;refine cd ⟨1,1,t10⟩ ?_;refine pv (.bl true)<|bT ?_;refine pd (v:=.kt<|items.map λp=>.str p.1) (S':=T) (by show opt (zAj k dI) T=_;rw[hf];rfl) ?_;refine pv (.bl false)<|bF ?_;refine pd (v:=.int (items.length+2:Nat)) (S':=T) (by show Res.ok (.int ((items.map (·.2)).length+1+1:Nat)) T=_;rw[hlm]) ?_;refine pd (v:=.int items.length) (S':=T) (by show Res.ok (.int ((items.map λp=>U.str p.1).length:Nat)) T=_;rw[xAa]) ?_;refine pv (.int<|2+items.length) ?_;refine pd (v:=.bl false) (S':=T) (by show Res.ok (.bl (!(decide<|((items.length+2:Nat):Int)=2+items.length))) T=_;rw[xBd<|by lia];rfl) ?_;refine bF ?_;have h1:=C1.ob;refine pd (gp h1 rfl) ?_;refine pd (dw (j:=1) hk1 rfl) ?_;rw[show ps++pl::pls=ps++[pl]++pls by simp] at hn hl hk;have hnn:=(xBq.mp hn).1;refine AQ (d:=d) C1 hpl (λz=>(xBq.mp hnn).2.2 pl z pl (xAm.mpr rfl) rfl) (by rw[xAb,xAb] at hl;simp at hl;lia) λT2 C2 p2=>?_;have hk2:=p2.ky hq hk1;refine pd (dw (j:=0) hk2 rfl) ?_;refine pd (v:=.bl b) (S':=T2) (by show obB (some<|zB5 (.str k) [.str "number",.str "name"]) not T2=_;rw[<- hw];rfl) ?_;have fin:∀{c1 c2 c3:Option U},(sQ (sI (tB<|cP .gt<|zAp (cV 3)<|cC<|.int<|20) (sQ sZ sN) sN)<|sQ (sF (cP .zip<|zAp (cV 6)<|cP (.sl false true false)<|zAp (cV 4)<|cC<|.int<|2) [7,8] false zIy)<|sQ (sR<|cP .tupOf<|aC (cV 5) aN) sN) (Gd fw<|d+3) [some<|.ref h,some P,some<|.tup<|th.map .str,some<|.int wi',some P,some<|.ref S.length,some<|.kt<|items.map λp=>.str p.1,c1,c2,c3] T2<|zAo x K:=by
  intro c1 c2 c3;refine pd (v:=.bl false) (S':=T2) (by show Res.ok (.bl<|decide<|(20:Int)<wi') T2=_;rw[xCn<|by lia]) ?_;refine bF ?_;rw[hP];refine pd wU ?_;refine pd (v:=.tup<|items.map λp=>.tup [.str p.1,p.2]) (S':=T2) ?_ ?_
  ·show(match Nat.beq (items.map λp:Str×U=>U.str p.1).length (items.map λp:Str×U=>p.2).length with|true=>Res.ok (.tup<|zB6 (items.map λp:Str×U=>U.str p.1) (items.map λp:Str×U=>p.2)) T2|false=>.stuck)=_;rw[hlm,xAa,show Nat.beq items.length items.length=true from Nat.beq_refl _,l9]
  refine xY (d:=d+2) (D:=D) (by lia) hth hI C2 hq hk2 hn hl (by show 2+items.length<=100;lia) λS' a b c C' ln ky hk'=>?_;refine pd (v:=.tup<|.str k::.int pl::items.map (·.2)) (S':=S') (by show zB7 (.ref S.length) S'=_;unfold zB7;dsimp only[lsU];rw[hk'];rfl) ?_;rw[<- hP];exact hk S' C' ⟨xCk lt1<|xCk p2.len ln,λn1 z=>ky n1 (by have:=zBx z;lia)<|p2.ky n1<|ky1 z⟩
 rw[<- hP];cases b with
 |true=>
  refine bT ?_;refine pd (v:=.int wi') (S':=T2) (by rw[hwi];rfl) ?_;exact fin
 |false=>
  refine bF ?_;rw[show wi=wi' by rw[hwi];rfl];exact fin
section
variable{th:List Str}{wi pl i:Int}{w y t:Str}{p q:U}{pls pls1 pls2:List Int}{D dep dep':Nat}{req:List Str}
def ChS.nil{h:Nat}{ps:List Int}(C:ChS h pq ps S):ChS h pq (ps++[]) S:=by rw[xB0];exact C
def yF(hi:-(10^12)<i/\i<10^12):zCd "number" (.int i) [] th wi 4:=by
 refine⟨?_⟩;intro fw d h pq ps S x K hd C hn hl hk;obtain⟨d,rfl⟩:∃d',d=d'+4:=⟨d-4,by lia⟩
 refine cd ⟨5,6,t21⟩ ?_;walk_at"w"
 refine ql ?_;refine uU hi ?_;exact bF<|hk S C.nil Pc.refl
def jR{s:Str}(h1:s≠"part")(h2:s≠"parts")(h3:s≠"names")(hw:w.length<=1000)(hf:∀{fw d:Nat}{S:So}{x:Kx Prop}{K:Kv Prop},K (.bl true) S->(Gd fw<|d+3).call 24 [.str s,.str w,.tup<|th.map .str] S x K):zCd s (.str w) [] th wi 4:=by
 refine⟨?_⟩;intro fw d h pq ps S x K hd C hn hl hk;obtain⟨d,rfl⟩:∃d',d=d'+4:=⟨d-4,by lia⟩
 refine cd ⟨5,6,t21⟩ ?_;walk_at"w"
 refine ij hw ?_;refine hf ?_;exact bF<|hk S C.nil Pc.refl
def wlen(h:zAu w=true):w.length<=1000:=by
 unfold zAu at h;rw[xCh,xCh] at h;have:=xCo h.1.2;lia
def nword(h:zBj w=true):zAu w=true:=by
 unfold zBj at h;rw[xCh] at h;exact h.1
def gW(h:zAu w=true):zCd "word" (.str w) [] th wi 4:=jR (by decide) (by decide) (by decide) (wlen h) λz=>rE h z
def AV(h:zEi w=true):zCd "op" (.str w) [] th wi 4:=jR (by decide) (by decide) (by decide) (wlen<|by unfold zEi at h;rw[xCh] at h;exact h.1) λz=>yi h z
def vo(h:zBj w=true):zCd "name" (.str w) [] th wi 4:=jR (by decide) (by decide) (by decide) (wlen<|nword h) λz=>rG h z
def vn(h:zBj w=true)(ht:w∈th):zCd "used" (.str w) [] th wi 4:=jR (by decide) (by decide) (by decide) (wlen<|nword h) λz=>rF h ht z
def zBn{K:Kv Prop}(h:xs.length<=4)(hk:K (.tup xs) S):(Gd fw<|d+2).call 22 [.tup xs] S x K:=by
 refine cd ⟨1,2,t22⟩ ?_;refine qj (by lia) ?_;refine pv (.bl true)<|bF<|pv (.int xs.length) ?_;refine pd (v:=.bl false) (S':=S) (by show Res.ok (.bl<|decide<|(4:Int)<xs.length) S=_;rw[xCn<|by lia]) ?_;exact bF hk
def oV:zCd "names" (.tup []) [] th wi 4:=by
 refine⟨?_⟩;intro fw d h pq ps S x K hd C hn hl hk;obtain⟨d,rfl⟩:∃d',d=d'+4:=⟨d-4,by lia⟩
 refine cd ⟨5,6,t21⟩ ?_;walk_at"w"
 refine cd ⟨1,2,t23⟩ ?_;refine zBn (by decide) ?_;walk_at"w"
 exact hk S C.nil Pc.refl
def oU(hy:zBj y=true):zCd "names" (.tup [.str y]) [] th wi 4:=by
 refine⟨?_⟩;intro fw d h pq ps S x K hd C hn hl hk;obtain⟨d,rfl⟩:∃d',d=d'+4:=⟨d-4,by lia⟩
 refine cd ⟨5,6,t21⟩ ?_;walk_at"w"
 refine cd ⟨1,2,t23⟩ ?_;refine zBn (by show 1<=4;decide) ?_;walk_at"w"
 refine ij (wlen<|nword hy) ?_;walk_at"w"
 refine isn hy ?_;walk_at"w"
 exact hk S C.nil Pc.refl
def oS:zCd "names" (.tup [.str "x",.str "y"]) [] th wi 4:=by
 refine⟨?_⟩;intro fw d h pq ps S x K hd C hn hl hk;obtain⟨d,rfl⟩:∃d',d=d'+4:=⟨d-4,by lia⟩
 refine cd ⟨5,6,t21⟩ ?_;walk_at"w"
 refine cd ⟨1,2,t23⟩ ?_;refine zBn (by show 2<=4;decide) ?_;walk_at"w"
 refine ij (by decide) ?_;walk_at"w"
 refine ij (by decide) ?_;walk_at"w"
 refine isn (by kernel_rfl) ?_;walk_at"w"
 refine isn (by kernel_rfl) ?_;walk_at"w"
 exact hk S C.nil Pc.refl
def nms:Nat->List Str
 |0=>[]
 |1=>["x"]
 |_=>["x","y"]
theorem sy:zCd "names" (.tup<|(nms m).map .str) [] th wi 4:=match m with
 |0=>oV
 |1=>oU (by kernel_rfl)
 |_+2=>oS
theorem f7(h:m<=2):(nms m).length=m:=match m with
 |0=>rfl
 |1=>rfl
 |2=>rfl
theorem lE:(nms m).length<=2:=match m with
 |0=>by decide
 |1=>by decide
 |_+2=>xAg _
def jS(c:Chk p pls th wi D):zCd "part" p pls th wi<|D+1:=by
 refine⟨?_⟩;intro fw d h pq ps S x K hd C hn hl hk;obtain⟨d,rfl⟩:∃d',d=d'+1:=⟨d-1,by lia⟩
 refine cd ⟨5,6,t21⟩ ?_;have h1:=C.ob;walk_at"w"
 exact c.h (by lia) C hn hl hk
inductive zEm(th:List Str)(wi:Int)(D:Nat):List U->List Int->Prop
 |nil:zEm th wi D [] []
 |cons {p:U} {ps:List U} {pls1 pls2:List Int} (h:Chk p pls1 th wi D) (r:zEm th wi D ps pls2):zEm th wi D (p::ps) (pls1++pls2)
theorem qU{h:Nat}{K:Kv Prop}(hd:D<=d):∀{Ps:List U}{pls:List Int},zEm th wi D Ps pls->∀{ys:List U}{ps:List Int}{S:So},ChS h pq ps S->(ps++pls).Nodup->(ps++pls).length<=300->(∀S',ChS h pq (ps++pls) S'->Pc pq S S'->K (.lst<|ys++Ps) S') ->
  lcK (Gd fw d) (lcB [1] true [none,none,some<|.int wi,some<|.tup<|th.map .str,some<|.ref h] none (cM "Checker" "check_part" 19 (cV 4) (aC (cV 1)<|aC (cV 3)<|aC (cV 2) aN) [])<|Gd fw d) Ps ys S K:=by
 intro Ps pls c;induction c with
 |nil=>
  intro ys ps S C hn hl hk;have:=hk S C.nil Pc.refl;rw[xB0] at this;exact this
 |@cons p Ps pls1 pls2 c r ih=>
  intro ys ps S C hn hl hk;have h1:=C.ob;rw[<- xAx] at hn hl;refine pd (gp (C:="Checker") h1 rfl) ?_;refine c.h hd C (xBq.mp hn).1 (by rw[xAb] at hl;lia) λS' C' p'=>?_;refine ih C' hn hl λS2 C2 p2=>?_;rw[xAx] at C2⊢;exact hk S2 C2<|p'.trans p2
def kU(c:zEm th wi D Ps pls)(h4:Ps.length<=4)(hD:4<=D):zCd "parts" (.tup Ps) pls th wi<|D+1:=by
 refine⟨?_⟩;intro fw d h pq ps S x K hd C hn hl hk;obtain⟨d,rfl⟩:∃d',d=d'+3:=⟨d-3,by lia⟩
 refine cd ⟨5,6,t21⟩ ?_;have h1:=C.ob;walk_at"w"
 refine zBn h4 ?_;walk_at"w"
 refine bI (c:=Nat.ble Ps.length sizeLine) (λ_=>?_) λz=>absurd (xDk<|show Ps.length<=2^24 by lia) (by rw[show Nat.ble Ps.length (2^24)=false from z];decide);refine qU (by lia) c (ys:=[]) C hn hl λS' C' p'=>?_;walk_at"w"
 exact hk S' C' p'
def zCd.mono{s:Str}{v:U}{D':Nat}(h:zCd s v pls th wi D)(hD:D<=D'):zCd s v pls th wi D':=⟨λa=>h.h<|xCk hD a⟩
structure CP(P:U)(pls:List Int)(dep:Nat)(req:List Str):Prop where
 h:∀{th:List Str}{wi:Int},(∀y∈req,y∈th)->th.length+dep<=1000->wi+dep<=20->Chk P pls th wi (2*dep+5)
def CP.mono(h:CP p pls dep req)(hd:dep<=dep'):CP p pls dep' req:=⟨λa b c=>⟨λe=>(h.h a (by lia)<|by lia).h<|by lia⟩⟩
def CP.to(h:CP p pls1 dep req)(e:pls1=pls2):CP p pls2 dep req:=e▸h
def okP(pl:Int):Prop:=0<=pl/\pl<=599
def lS(hp:okP pl)(hi:-(10 ^ 12)<i/\i<10 ^ 12):CP (.tup [.str "number",.int pl,.int i]) [pl] 0 []:=⟨λ{th wi} _ ht hw =>
 iJ (items:=[("number",.int i)]) (b:=false) (wi':=wi) (D:=4) rfl (by rfl) (by rfl) rfl (by lia) (by decide) (by show 1<=10;decide) hp (by lia) (by lia) (.cons (pl:=[]) (jp (by rfl)<|by decide) (yF hi) (by decide) .nil)⟩
def vk(hp:okP pl)(hy:zBj y=true):CP (.tup [.str "name",.int pl,.str y]) [pl] 0 [y]:=⟨λ{th wi} hr ht hw =>
 iJ (items:=[("used",.str y)]) (b:=false) (wi':=wi) (D:=4) rfl (by rfl) (by rfl) rfl (by lia) (by decide) (by show 1<=10;decide) hp (by lia) (by lia) (.cons (pl:=[]) (jp (by rfl)<|by decide) (vn hy<|List.mem_append_left _<|hr y<|xAm.mpr rfl) (by decide) .nil)⟩
def fQ{k:Str}(hp:okP pl)(hI:∀{th:List Str}{wi:Int},(∀y∈req,y∈th)->th.length+dep+1<=1000->wi+dep<=20->Its th wi (2 * dep+6) [.str k,.int pl] items pls)(hf:zAj k dI=some (.kt<|items.map λp=>.str p.1):=by rfl)(hw:(!zB5 (.str k) [.str "number",.str "name"])=true:=by rfl)(hkl:k.length<=1000:=by decide)(hil:items.length<=10:=by simp):CP (.tup<|.str k::.int pl::items.map (·.2)) (pl::pls) (dep+1) req:=⟨λ{th wi} hr ht hw' =>
 iJ (items:=items) (b:=true) (wi':=wi+1) (D:=2*dep+6) rfl hf hw rfl (by lia) hkl hil hp (by lia) (by lia) (hI hr (by lia)<|by lia)⟩
variable{vs:List U}{nn:List Str}{r:List<|Str×U}
def itp(t:TA vs nn)(h:CP p pls1 dep req)(hr:∀y∈req,y∈th++nn)(hb:th.length+dep+1<=1000)(hw:wi+dep<=20)(i:Its th wi (2*dep+6) (vs++[p]) r pls2)(hn:nn.length<=1:=by simp):Its th wi (2*dep+6) vs (("part",p)::r)<|pls1++pls2:=
 .cons t (jS<|h.h hr (by rw[xAb];lia) hw) (by lia) i
def its{s:Str}{v:U}(t:TA vs nn)(c:zCd s v [] (th++nn) wi 4)(i:Its th wi (2*dep+6) (vs++[v]) r pls2)(hn:nn.length<=1:=by simp):Its th wi (2*dep+6) vs ((s,v)::r) pls2:=
 .cons (pl:=[]) t (c.mono<|by lia) (by lia) i
def no0{nn:List Str}:∀y∈([]:List Str),y∈th++nn:=λ_ z=>nomatch z
def tn{k:Str}{r:List U}(h1:zAj k fB=none:=by rfl)(h2:(fc.any λy=>decide<|y=k)=true:=by decide):TA (.str k::r) []:=jp h1 h2
def up0(hr:∀y∈req,y∈th):∀y∈req,y∈th++[]:=λy z=>by rw[xB0];exact hr y z
def up1(hr:∀z∈req,z∈th)(h:∀z∈req',z=y\/z∈req):∀z∈req',z∈th++[y]:=λz hz=>(h z hz).elim (λe=>xBt _<|xAm.mpr e) λe=>List.mem_append_left _<|hr z e
def vj(hp:okP pl)(h:CP p pls dep req):CP (.tup [.str "tell",.int pl,p]) (pl::pls) (dep+1) req:=
 (fQ (items:=[("part",p)]) hp λhr a b=>itp tn h (up0 hr) a b .nil).to (by simp)
def gV(hp:okP pl)(hw:zEi w=true)(h:CP p pls1 dep req)(h2:CP q pls2 dep req):CP (.tup [.str "math",.int pl,.str w,p,q]) (pl::(pls1++pls2)) (dep+1) req:=
 (fQ (items:=[("op",.str w),("part",p),("part",q)]) hp λhr a b=>its tn (AV hw)<|itp tn h (up0 hr) a b<|itp tn h2 (up0 hr) a b .nil).to (by simp)
def su(hp:okP pl)(hw:zAu w=true)(h:CP p pls dep req):CP (.tup [.str "raise",.int pl,.str w,p]) (pl::pls) (dep+1) req:=
 (fQ (items:=[("word",.str w),("part",p)]) hp λhr a b=>its tn (gW hw)<|itp tn h (up0 hr) a b .nil).to (by simp)
def AR{s:U}(hp:okP pl)(h:CP p pls1 dep req)(h2:CP q pls2 dep req)(h3:CP s pls3 dep req):CP (.tup [.str "if",.int pl,p,q,s]) (pl::(pls1++(pls2++pls3))) (dep+1) req:=
 (fQ (items:=[("part",p),("part",q),("part",s)]) hp λhr a b=>itp tn h (up0 hr) a b<|itp tn h2 (up0 hr) a b<|itp tn h3 (up0 hr) a b .nil).to (by simp)
def yC(hp:okP pl)(hw:zAu w=true)(hy:zBj y=true)(h:CP p pls1 dep req)(h2:CP q pls2 dep req')(hq:∀z∈req',z=y\/z∈req):CP (.tup [.str "try",.int pl,p,.str w,.str y,q]) (pl::(pls1++pls2)) (dep+1) req:=
 (fQ (items:=[("part",p),("word",.str w),("name",.str y),("part",q)]) hp λhr a b=>itp wn h (up0 hr) a b<|its tp (gW hw)<|its tm (vo hy)<|itp tj h2 (up1 hr hq) a b .nil).to (by simp)
inductive CPs(dep:Nat)(req:List Str):List U->List Int->Prop
 |nil:CPs dep req [] []
 |cons {p:U} {ps:List U} {pls1 pls2:List Int} (h:CP p pls1 dep req) (r:CPs dep req ps pls2):CPs dep req (p::ps) (pls1++pls2)
theorem CPs.chk(c:CPs dep req Ps pls)(hr:∀y∈req,y∈th)(ht:th.length+dep<=1000)(hw:wi+dep<=20):zEm th wi (2*dep+5) Ps pls:=by
 induction c with
 |nil=>exact .nil
 |cons h r ih=>exact .cons (h.h hr ht hw) ih
def nF(hp:okP pl)(hw:zAu t=true)(h:CPs dep req Ps pls)(h4:Ps.length<=4):CP (.tup [.str "make",.int pl,.str t,.tup Ps]) (pl::pls) (dep+1) req:=
 (fQ (items:=[("word",.str t),("parts",.tup Ps)]) hp λhr a b=>its tn (gW hw)<|.cons tn (kU (h.chk (up0 hr) (by rw[xB0];lia) b) h4<|by lia) (by decide) .nil).to (by simp)
def vm(hp:okP pl)(h:CP p pls1 dep req)(h2:CPs dep req Ps pls2)(h4:Ps.length<=4):CP (.tup [.str "call",.int pl,p,.tup Ps]) (pl::(pls1++pls2)) (dep+1) req:=
 (fQ (items:=[("part",p),("parts",.tup Ps)]) hp λhr a b=>itp tn h (up0 hr) a b<|.cons tn (kU (h2.chk (up0 hr) (by rw[xB0];lia) b) h4<|by lia) (by decide) .nil).to (by simp)
def yD(hp:okP pl):CP (.tup [.str "ask",.int pl]) [pl] 1 req:=
 fQ (items:=[]) (dep:=0) hp λhr a b=>.nil
def itq(t:TA vs nn)(h:CP p pls1 0 req)(hr:∀y∈req,y∈th++nn)(hb:th.length+1+1<=1000)(hw:wi+(1:Nat)<=20)(i:Its th wi (2*1+6) (vs++[p]) r pls2)(hn:nn.length<=2):Its th wi (2*1+6) vs (("part",p)::r)<|pls1++pls2:=
 .cons t ((jS<|h.h hr (by rw[xAb];lia)<|by lia).mono<|by lia) (by lia) i
def AS(hp:okP pl)(h:CP q pls 0 []):CP (.tup [.str "fn",.int pl,.tup<|(nms m).map .str,q]) (pl::pls) 2 []:=
 (fQ (items:=[("names",.tup<|(nms m).map .str),("part",q)]) (dep:=1) (req:=[]) hp λhr a b=>its yV sy<|itq wp h no0 a b .nil lE).to (by simp)
def sv{s:U}(hp:okP pl)(hw:zAu w=true)(h:CP p pls1 3 [])(h2:CP q pls2 0 [])(h3:CP s pls3 0 []):CP (.tup [.str "match",.int pl,p,.str w,.tup<|(nms m).map .str,q,s]) (pl::(pls1++(pls2++pls3))) 4 []:=
 (fQ (items:=[("part",p),("word",.str w),("names",.tup<|(nms m).map .str),("part",q),("part",s)]) (dep:=3) (req:=[]) hp λ{th wi} hr a b=>itp yU h no0 a b<|its yT (gW hw)<|its yS sy<|.cons yR ((jS<|h2.h no0 (by rw[xAb];have:=lE (m:=m);lia)<|by lia).mono<|by lia) (by have:=lE (m:=m);lia)<|itp yQ (h3.mono<|by lia) no0 a b .nil).to (by simp)
def checked{P:U}(c:CP P pls dep [])(hd:dep<=20)(hn:pls.Nodup)(hl:pls.length<=300){K:Kv Prop}(hk:∀S',(∀q o,at? S q=some o->at? S' q=some o)->K P S'):(Gd fw<|d+60).call 25 [P] S x K:=by
 refine cd ⟨1,1,t25⟩ ?_;refine pd (v:=.ref S.length) (S':=S++[.ins "Checker" []]) (by rfl) ?_;refine cd ⟨1,1,t18⟩ ?_;refine pd mz ?_;refine pd (dL 0 rfl (by rfl) rfl) ?_;have C:ChS S.length (S.length+1) []<|S++[.ins "Checker" [("places",.ref<|S.length+1)],.dct []]:=⟨zBc (k:=0),zBc⟩
 have h1:=C.ob;refine pd (gp (C:="Checker") h1 rfl) ?_;refine(c.h (th:=[]) (wi:=0) (λ_ z=>nomatch z) (by simp;lia)<|by lia).h (by lia) C (by simpa using hn) (by simpa using hl) λS' C' p'=>?_;exact hk S' λq o z=>p'.ky (by have:=zBx z;lia)<|zA7 z
end
inductive Iv where
 |num (i:Int)|blk (m:Nat) (i:Int)|fn (pl:Int) (m:Nat) (b i:Int)|big (pl:Int)
def Iv.u:Iv->U
 |.num i=>.int i
 |.blk m i=>.tup [.str "block",.str "ab",.tup<|List.replicate m<|.int i]
 |.fn pl m _ i=>.tup [.str "fn",.int pl,.int m,.int i]
 |.big pl=>.tup [.str "big",.int pl]
def nu(pl i:Int):U:=.tup [.str "number",.int pl,.int i]
def Iv.vl:Iv->Vl
 |.num i=>.int i
 |.blk m i=>.blk "ab"<|List.replicate m<|.int i
 |.fn pl m b i=>.fn pl (nms m) (nu b i) [] 0
 |.big _=>.int 0
def Iv.out:Iv->Out
 |.big pl=>.flt "big" (.int 0) pl
 |v=>.val [v.vl]
inductive Sp where
 |num|mul|mk (m:Nat)|ask|fn (m:Nat)
def bb(n:Int):Int:=10^9+n%4*10^11
def mu(q:Nat->Int)(n:Int)(k:Nat)(p:U):U:=.tup [.str "math",.int<|q<|2+k,.str "mul",p,nu (q<|5+k)<|bb n]
def Sp.P(q:Nat->Int)(n:Int):Sp->U
 |.num=>nu (q 0) n
 |.mul=>mu q n 2<|mu q n 1<|mu q n 0<|nu (q 1)<|10^12-1
 |.mk m=>.tup [.str "make",.int<|q 0,.str "ab",.tup<|(List.range m).map λk=>nu (q<|1+k) n]
 |.ask=>.tup [.str "ask",.int<|q 0]
 |.fn m=>.tup [.str "fn",.int<|q 0,.tup<|(nms m).map .str,nu (q 1) n]
def vv(n:Int):Int:=(10^12-1)*bb n^3
def Sp.v(q:Nat->Int)(n:Int):Sp->Iv
 |.num=>.num n
 |.mul=>if vv n >= 10^40 then .big (q 4) else .num (vv n)
 |.mk m=>.blk m n
 |.ask=>.num<|10^29
 |.fn m=>.fn (q 0) m (q 1) n
def Sp.ix:Sp->List Nat
 |.num=>[0]
 |.mul=>[4,3,2,1,5,6,7]
 |.mk m=>0::(List.range m).map λk=>1+k
 |.ask=>[0]
 |.fn _=>[0,1]
def Sp.ds(q:Nat->Int):Sp->List Int
 |.num=>[]
 |.mul=>[q 2,q 3,q 4]
 |_=>[q 0]
def Sp.ok:Sp->Prop
 |.mk m=>m<=2
 |.fn m=>m<=2
 |_=>True
section
variable{la:Bool}{env:List<|Str×Nat}{N c c1 c2 ak ak1 ak2:Nat}{γ:List Vl}{ca:Int}{p q:U}{pl a b r n:Int}{ds ds1 ds2:List Int}{V V1 V2:Vl}{out:Out}{op:Str}
def m4{c:Int}:c%4=0\/c%4=1\/c%4=2\/c%4=3:=by lia
def m3(h:m<=2):m=0\/m=1\/m=2:=by lia
def sml(a:Int):Prop:=-(10^40)<a/\a<10^40
def gm(ha:sml a)(hb:sml b):pr ups .mul [.int a,.int b] S=.ok (.int<|a*b) S:=by
 show(match decide (a.natAbs<2^150/\b.natAbs<2^150\/b.natAbs<2^60\/a.natAbs<2^60) with|true=>Res.ok (.int<|a*b) S|false=>.stuck)=_;unfold sml at ha hb;rw[xBd<|.inl ⟨by lia,by lia⟩]
def hX{K:Kv Prop}(ha:sml a)(hb:sml b)(hk:K (.int<|a*b) S):(Gd fw<|d+1).call 7 [.str "mul",.int a,.int b] S x K:=by
 refine cd ⟨3,3,t7⟩ ?_;refine pd dh<|bF<|pd dh<|bF<|pd (dz rfl)<|bT ?_;refine pd (gm ha hb) ?_;exact hk
def nX{K:Kv Prop}(hk:K (.int<|if a=b then 1 else 0) S):(Gd fw<|d+1).call 7 [.str "same",.int a,.int b] S x K:=by
 refine cd ⟨3,3,t7⟩ ?_;refine pd dh<|bF<|pd dh<|bF<|pd dh<|bF<|pd dh<|bF ?_;refine pd (by rfl) ?_;refine bI (λe=>?_) λe=>?_
 ·rw[xCg<|xBe e] at hk;exact hk
 ·rw[xCf<|xBf e] at hk;exact hk
def Sem.to{lg:List Int}{dp:Nat}(h:Sem la env N γ ca p c ds lg out dp ak)(e1:c=c')(e2:ds=ds')(e3:ak=ak'):Sem la env N γ ca p c' ds' lg out dp ak':=by
 subst e1 e2 e3;exact h
def zA8.to{ps:List U}(h:zA8 env N γ ca ps c ds out ak)(e1:c=c')(e2:ds=ds')(e3:ak=ak'):zA8 env N γ ca ps c' ds' out ak':=by
 subst e1 e2 e3;exact h
def zA8.one(h:Sem false env N γ ca p c ds [] (.val [V]) 0 ak)(hc:1<=c):zA8 env N γ ca [p] c ds (.val [V]) ak:=(zA8.cons h zA8.nil hc).to rfl (xB0 _) rfl
def zA8.two(h1:Sem false env N γ ca p c1 ds1 [] (.val [V1]) 0 ak1)(h2:Sem false env N γ ca q c2 ds2 [] (.val [V2]) 0 ak2)(hc1:1<=c1)(hc2:1<=c2):zA8 env N γ ca [p,q] (c1+c2) (ds1++ds2) (.val [V1,V2])<|ak1+ak2:=zA8.cons h1 (zA8.one h2 hc2) hc1
def pO(h1:Sem false env N γ ca p c1 ds1 [] (.val [.int a]) 0 0)(hc1:1<=c1)(ha:sml a)(hb:sml b)(hG:¬ big (a*b)):Sem la env N γ ca (.tup [.str "math",.int pl,.str "mul",p,nu r b]) (c1+3) (ds1++[pl]) [] (.val [.int<|a*b]) 0 0:=
 (gj true "finish_math" rfl jL (.two h1 iW hc1<|xAg _)<|nv (λz=>hX ha hb z) hG).to rfl (by simp[nts]) rfl
def wF(h1:Sem false env N γ ca p c1 ds1 [] (.val [.int a]) 0 0)(hc1:1<=c1)(ha:sml a)(hb:sml b)(hG:big<|a*b):Sem la env N γ ca (.tup [.str "math",.int pl,.str "mul",p,nu r b]) (c1+3) (ds1++[pl]) [] (.flt "big" (.int 0) pl) 0 0:=
 (gj true "finish_math" rfl jL (.two h1 iW hc1<|xAg _)<|kK (λz=>hX ha hb z) hG).to rfl (by simp[nts]) rfl
theorem nums{q:Nat->Int}:∀{ks:List Nat},zA8 env N γ ca (ks.map λk=>nu (q k) n) ks.length [] (.val<|List.replicate ks.length<|.int n) 0
 |[]=>zA8.nil
 |k::ks=>(zA8.cons (ds1:=[]) iW (nums (ks:=ks))<|xAg _).to (by rw[xAo];lia) rfl rfl
def bb4:bb n=10^9\/bb n=10^9+10^11\/bb n=10^9+2*10^11\/bb n=10^9+3*10^11:=by
 unfold bb;lia
def bbr:-(10^12)<bb n/\bb n<10^12:=by
 unfold bb;lia
def nb(h:sml r):¬ big r:=by
 unfold big;unfold sml at h;split <;> lia
def yb(h:r >= 10^40):big r:=by
 unfold big;split <;> lia
theorem wv(s:Sp)(q:Nat->Int)(n:Int):∃c ak,1<=c/\c<=20/\ak<=1/\(s.ok->Sem false [] 0 [] 0 (s.P q n) c (s.ds q) [] (s.v q n).out 0 ak):=by
 cases s with
 |num=>exact⟨1,0,by decide,by decide,by decide,λ_=>iW⟩
 |mk m=>
  by_cases h:m<=2
  ·refine⟨m+2,0,by lia,by lia,by decide,λ_=>?_⟩;have:=nums (env:=[]) (N:=0) (γ:=[]) (ca:=0) (n:=n) (q:=λk=>q<|1+k) (ks:=List.range m);rw[List.length_range] at this;exact(gj true "finish_make" rfl nt this ny (ho:=by simp;lia)).to rfl rfl rfl
  ·exact⟨1,0,by decide,by decide,by decide,λz=>absurd z h⟩
 |ask=>exact⟨2,1,by decide,by decide,by decide,λ_=>(gj true "finish_ask" rfl ye zA8.nil yj).to rfl rfl rfl⟩
 |fn m=>exact⟨2,0,by decide,by decide,by decide,λ_=>(gj true "finish_fn" rfl Ai zA8.nil Am).to rfl rfl rfl⟩
 |mul=>
  refine⟨10,0,by decide,by decide,by decide,λ_=>?_⟩;have e:vv n=(10^12-1)*bb n*bb n*bb n:=by
   unfold vv;rw[Int.mul_assoc,Int.mul_assoc,show bb n^3=bb n*(bb n*bb n) by rw[Int.pow_succ,Int.pow_succ,Int.pow_succ,Int.pow_zero,Int.one_mul,Int.mul_assoc]]
  have h1:sml<|(10^12-1)*bb n:=by unfold sml;rcases bb4 (n:=n) with h|h|h|h <;> rw[h] <;> decide
  have h2:sml<|(10^12-1)*bb n*bb n:=by unfold sml;rcases bb4 (n:=n) with h|h|h|h <;> rw[h] <;> decide
  have hb:sml<|bb n:=by have:=bbr (n:=n);unfold sml;lia
  have h0:-(10^40)<vv n:=by unfold vv;rcases bb4 (n:=n) with h|h|h|h <;> rw[h] <;> decide
  have s2:=pO (la:=false) (pl:=q<|2+1) (r:=q<|5+1) (pO (la:=false) (env:=[]) (N:=0) (γ:=[]) (ca:=0) (pl:=q<|2+0) (r:=q<|5+0) (iW (pl:=q 1) (a:=10^12-1)) (xAg _) (by unfold sml;decide) hb<|nb h1) (by decide) h1 hb<|nb h2;by_cases hv:vv n >= 10^40
  ·rw[show Sp.v q n .mul=.big (q 4) from xCg hv];exact wF (pl:=q<|2+2) (r:=q<|5+2) s2 (by decide) h2 hb (by rw[<- e];exact yb hv)
  ·rw[show Sp.v q n .mul=.num (vv n) from xCf hv];rw[show(Iv.num<|vv n).out=.val [.int<|vv n] from rfl,e];rw[e] at h0 hv;exact pO (pl:=q<|2+2) (r:=q<|5+2) s2 (by decide) h2 hb<|nb ⟨h0,by lia⟩
end
section
variable{f:Nat->Int}{k:Nat}{l:List<|Sp×Int}{la:Bool}
def at8(f:Nat->Int)(k:Nat):Nat->Int:=λi=>f<|8*k+i
def opP(f:Nat->Int):Nat->List (Sp×Int)->List U
 |_,[]=>[]
 |k,x::l=>x.1.P (at8 f k) x.2::opP f (k+1) l
def opV(f:Nat->Int):Nat->List (Sp×Int)->List Iv
 |_,[]=>[]
 |k,x::l=>x.1.v (at8 f k) x.2::opV f (k+1) l
def Iv.bg:Iv->Option Int
 |.big pl=>some pl
 |_=>none
def opD(f:Nat->Int):Nat->List (Sp×Int)->List Int
 |_,[]=>[]
 |k,x::l=>x.1.ds (at8 f k)++(match(x.1.v (at8 f k) x.2).bg with|some _=>[]|none=>opD f (k+1) l)
def opB(f:Nat->Int):Nat->List (Sp×Int)->Option Int
 |_,[]=>none
 |k,x::l=>match(x.1.v (at8 f k) x.2).bg with|some pl=>some pl|none=>opB f (k+1) l
def opO(f:Nat->Int)(k:Nat)(l:List<|Sp×Int):Out:=match opB f k l with
 |some pl=>.flt "big" (.int 0) pl
 |none=>.val<|(opV f k l).map Iv.vl
def opI:Nat->List (Sp×Int)->List Nat
 |_,[]=>[]
 |k,x::l=>x.1.ix.map (8*k+·)++opI (k+1) l
theorem Iv.outN{v:Iv}(h:v.bg=none):v.out=.val [v.vl]:=by
 cases v with
 |big=>cases h
 |_=>rfl
theorem Iv.outB{v:Iv}(h:v.bg=some pl):v.out=.flt "big" (.int 0) pl:=by
 cases v with
 |big=>cases h;rfl
 |_=>cases h
def yZ{q:Nat->Int}{n:Int}:Pt<|s.P q n:=by
 cases s <;> exact⟨_,_,rfl⟩
theorem vK:∀{l:List<|Sp×Int}{k:Nat},∀o∈opP f k l,Pt o
 |[],k,o,h=>nomatch h
 |x::l,k,o,h=>by
  rcases xAv.mp h with rfl|h
  ·exact yZ
  ·exact vK (l:=l) o h
theorem qL:∀{l:List<|Sp×Int}{k:Nat},(∀x∈l,x.1.ok)->∃c ak,c<=20*l.length/\ak<=l.length/\zA8 [] 0 [] 0 (opP f k l) c (opD f k l) (opO f k l) ak
 |[],k,_=>⟨0,0,xAg _,xAg _,zA8.nil⟩
 |x::l,k,h=>by
  obtain⟨c1,ak1,a1,a2,a3,s1⟩:=wv x.1 (at8 f k) x.2;have s1:=s1<|h x<|xAr ..;obtain⟨c2,ak2,b1,b2,s2⟩:=qL (l:=l) (k:=k+1) λy hy=>h y<|xAs _ hy;cases hb:(x.1.v (at8 f k) x.2).bg with
  |some pl=>
   refine⟨c1,ak1,by rw[xAo];lia,by rw[xAo];lia,?_⟩;rw[Iv.outB hb] at s1;rw[opD,opO,opB,hb,xB0];exact zA8.flt s1 vK
  |none=>
   refine⟨c1+c2,ak1+ak2,by rw[xAo];lia,by rw[xAo];lia,?_⟩;rw[Iv.outN hb] at s1;have:=zA8.cons s1 s2 a1;have e:(opO f (k+1) l).cons (x.1.v (at8 f k) x.2).vl=opO f k (x::l):=by
    rw[opO,opO,opB,hb,opV];show Out.cons _ (match opB f (k+1) l with|some pl=>_|none=>_)=match opB f (k+1) l with|some pl=>_|none=>_
    cases opB f (k+1) l <;> rfl
   rw[e] at this;rw[opD,hb];exact this
theorem fF:∀{l:List<|Sp×Int}{k:Nat},(opP f k l).length=l.length
 |[],_=>rfl
 |_::l,k=>by rw[opP,xAo,xAo,fF]
theorem eU:∀{l:List<|Sp×Int}{k:Nat},(opV f k l).length=l.length
 |[],_=>rfl
 |_::l,k=>by rw[opV,xAo,xAo,eU]
def opT:Nat->Str
 |0=>"add"
 |1=>"sub"
 |2=>"mul"
 |3=>"less"
 |_=>"same"
def opF:Nat->Int->Int->Int
 |0,a,b=>a+b
 |1,a,b=>a-b
 |2,a,b=>a*b
 |3,a,b=>if a<b then 1 else 0
 |_,a,b=>if a=b then 1 else 0
inductive Kd where
 |math (o:Nat)|make|call|iff|mat (t:Str) (m:Nat)|rai (w:Str)|tell
def Kd.P(f:Nat->Int):Kd->List U->U
 |.math o,ps=>.tup<|[.str "math",.int<|f 39,.str<|opT o]++ps
 |.make,ps=>.tup [.str "make",.int<|f 39,.str "abc",.tup ps]
 |.call,ps=>.tup [.str "call",.int<|f 39,ps.headD .non,.tup ps.tail]
 |.iff,ps=>.tup [.str "if",.int<|f 39,ps.headD .non,nu (f 38) 5,nu (f 37) 6]
 |.mat t m,ps=>.tup [.str "match",.int<|f 39,ps.headD .non,.str t,.tup<|(nms m).map .str,nu (f 38) 5,nu (f 37) 6]
 |.rai w,ps=>.tup [.str "raise",.int<|f 39,.str w,ps.headD .non]
 |.tell,ps=>.tup [.str "tell",.int<|f 39,ps.headD .non]
def Kd.ar:Kd->Nat->Prop
 |.math _,n=>n=2
 |.make,n=>n<=4
 |.call,n=>1<=n/\n<=4
 |.mat _ m,n=>n=1/\m<=2
 |_,n=>n=1
def Kd.oc:Kd->List Iv->Str×Vl
 |.math o,[.num a,.num b]=>if big (opF o a b) then("big",.int 0) else("",.int<|opF o a b)
 |.math _,_=>("kind",.int 0)
 |.make,vs=>("",.blk "abc"<|vs.map Iv.vl)
 |.call,.fn _ m _ i::vs=>if m=vs.length then("",.int i) else("odd",.int 0)
 |.call,_=>("kind",.int 0)
 |.iff,[.num a]=>("",.int<|if a=0 then 6 else 5)
 |.iff,_=>("kind",.int 0)
 |.mat t m,[.blk m' _]=>("",.int<|if t="ab"/\m'=m then 5 else 6)
 |.mat _ _,_=>("",.int 6)
 |.rai w,[v]=>(w,v.vl)
 |.rai w,_=>(w,.int 0)
 |.tell,[.num a]=>("",.int a)
 |.tell,_=>("kind",.int 0)
def mkO(r:Str×Vl)(pl:Int):Out:=if r.1="" then .val [r.2] else .flt r.1 r.2 pl
def Kd.lg:Kd->List Iv->List Int
 |.tell,[.num a]=>[a]
 |_,_=>[]
def Kd.dp(la:Bool):Kd->List Iv->Nat
 |.call,.fn _ m _ _::vs=>if m=vs.length/\la=false then 1 else 0
 |_,_=>0
def Kd.fi:Kd->Nat
 |.math _=>47
 |.make=>48
 |.call=>44
 |.iff=>46
 |.mat _ _=>49
 |.rai _=>50
 |.tell=>51
def Iv.sm:Iv->Prop
 |.num a=>sml a
 |.fn _ m _ _=>m<=2
 |.blk m _=>m<=2
 |.big _=>False
end
section
variable{f:Nat->Int}{la:Bool}
theorem reck{K:Kv Prop}{o:Nat}{a b:Int}(ha:sml a)(hb:sml b)(hk:K (.int<|opF o a b) S):(Gd fw<|d+1).call 7 [.str<|opT o,.int a,.int b] S x K:=match o with
 |0=>pU hk
 |1=>pT hk
 |2=>hX ha hb hk
 |3=>nY hk
 |_+4=>nX hk
def gA{V:Vl}:mkO ("",V) pl=.val [V]:=xCg rfl
def kz{w:Str}{V:Vl}(h:w≠""):mkO (w,V) pl=.flt w V pl:=xCf h
def eV{N:Nat}{a:Int}:Sem la env N γ ca (nu pl a) 1 [] [] (.val [.int a]) 0 0:=iW
def KF(f:Nat->Int)(la:Bool)(K:Kd)(ps:List U)(vs:List Iv):Prop:=∃c3,c3<=5/\Fin la [] 0 [] 0 (K.P f ps) K.fi c3 (K.lg vs) (vs.map Iv.vl) (mkO (K.oc vs)<|f 39) (K.dp la vs) 0
def kO{r:Str×Vl}(h:r=(("kind":Str),Vl.int 0)):mkO r (f 39)=.flt "kind" (.int 0) (f 39):=by
 rw[h];exact kz (by decide)
theorem uG{o:Nat}{p q:U}{v w:Iv}(h1:v.sm)(h2:w.sm):KF f la (.math o) [p,q] [v,w]:=by
 refine⟨0,by decide,?_⟩;cases v with
 |big=>exact h1.elim
 |blk=>exact(kO rfl:mkO (Kd.oc (.math o) [.blk _ _,w]) (f 39)=_)▸f8 rfl
 |fn=>exact(kO rfl:mkO (Kd.oc (.math o) [.fn _ _ _ _,w]) (f 39)=_)▸f8 rfl
 |num a=>
  cases w with
  |big=>exact h2.elim
  |blk=>exact(kO rfl:mkO (Kd.oc (.math o) [.num a,.blk _ _]) (f 39)=_)▸f8 rfl
  |fn=>exact(kO rfl:mkO (Kd.oc (.math o) [.num a,.fn _ _ _ _]) (f 39)=_)▸f8 rfl
  |num b=>
   show Fin _ _ _ _ _ _ 47 0 [] [.int a,.int b] (mkO (if big (opF o a b) then("big",.int 0) else("",.int<|opF o a b)) _) 0 0;by_cases hG:big<|opF o a b
   ·rw[xCg hG,kz<|by decide];exact kK (λz=>reck h1 h2 z) hG
   ·rw[xCf hG,gA];exact nv (λz=>reck h1 h2 z) hG
def uH{ps:List U}{vs:List Iv}:KF f la .make ps vs:=by
 refine⟨0,by decide,?_⟩;show Fin _ _ _ _ _ _ 48 0 [] _ (mkO ("",.blk "abc"<|vs.map Iv.vl) _) 0 0;rw[gA];exact ny
theorem z0{p:U}{v:Iv}(h1:v.sm):KF f la .iff [p] [v]:=by
 cases v with
 |num a=>
  refine⟨1,by decide,?_⟩;show Fin _ _ _ _ _ _ 46 1 [] [.int a] (mkO ("",.int<|if a=0 then 6 else 5) _) 0 0;rw[gA];refine Ak ?_;by_cases h:a=0
  ·rw[xCg h,xCg h];exact eV
  ·rw[xCf h,xCf h];exact eV
 |big=>exact h1.elim
 |blk=>exact⟨0,by decide,(kO rfl:mkO (Kd.oc .iff [.blk _ _]) (f 39)=_)▸rL rfl⟩
 |fn=>exact⟨0,by decide,(kO rfl:mkO (Kd.oc .iff [.fn _ _ _ _]) (f 39)=_)▸rL rfl⟩
theorem uF{p:U}{v:Iv}(h1:v.sm):KF f la .tell [p] [v]:=by
 refine⟨0,by decide,?_⟩;cases v with
 |num a=>
  show Fin _ _ _ _ _ _ 51 0 [a] [.int a] (mkO ("",.int a) _) 0 0;rw[gA];exact uV
 |big=>exact h1.elim
 |blk=>exact(kO rfl:mkO (Kd.oc .tell [.blk _ _]) (f 39)=_)▸kJ rfl
 |fn=>exact(kO rfl:mkO (Kd.oc .tell [.fn _ _ _ _]) (f 39)=_)▸kJ rfl
def xN{w:Str}{p:U}{v:Iv}(hw:w≠""):KF f la (.rai w) [p] [v]:=by
 refine⟨0,by decide,?_⟩;show Fin _ _ _ _ _ _ 50 0 [] [v.vl] (mkO (w,v.vl) _) 0 0;rw[kz hw];exact rJ
theorem xO{p:U}{v:Iv}(h1:v.sm)(hm:m<=2):KF f la (.mat t m) [p] [v]:=by
 refine⟨1,by decide,?_⟩;cases v with
 |num a=>
  show Fin _ _ _ _ _ _ 49 1 [] [.int a] (mkO ("",.int 6) _) 0 0;rw[gA];exact gr rfl eV
 |fn a b c d=>
  show Fin _ _ _ _ _ _ 49 1 [] [_] (mkO ("",.int 6) _) 0 0;rw[gA];exact gr rfl eV
 |big=>exact h1.elim
 |blk m' i=>
  show Fin _ _ _ _ _ _ 49 1 [] [.blk "ab"<|List.replicate m'<|.int i] (mkO ("",.int<|if t="ab"/\m'=m then 5 else 6) _) 0 0;rw[gA];by_cases h:t="ab"/\m'=m
  ·rw[xCg h];obtain⟨rfl,rfl⟩:=h;exact oK (by rw[f7 hm,xCu]) (by rw[f7 hm];lia) eV
  ·rw[xCf h];refine gr ?_ eV;rw[f7 hm];show(decide ((("ab":Str))=t)&&decide ((List.replicate m'<|Vl.int i).length=m))=false;rw[xCu,Bool.and_eq_false_iff];by_cases ht:(("ab":Str))=t
   ·exact .inr<|xCn λz=>h ⟨ht.symm,z⟩
   ·exact .inl<|xCn ht
theorem uI{p:U}{ps:List U}{v:Iv}{vs:List Iv}(h1:v.sm):KF f la .call (p::ps)<|v::vs:=by
 cases v with
 |num a=>exact⟨0,by decide,(kO rfl:mkO (Kd.oc .call<|.num a::vs) (f 39)=_)▸iE rfl⟩
 |blk m i=>exact⟨0,by decide,(kO rfl:mkO (Kd.oc .call<|.blk m i::vs) (f 39)=_)▸iE rfl⟩
 |big=>exact h1.elim
 |fn pl m b i=>
  have h1:m<=2:=h1;have e:=f7 h1;by_cases h:m=vs.length
  ·rw[KF,show Kd.oc .call (.fn pl m b i::vs)=(("":Str),Vl.int i) from xCg h,gA];cases la with
   |true=>
    rw[show Kd.dp true .call (.fn pl m b i::vs)=0 from xCf λz=>nomatch z.2];exact⟨1,by decide,rK (xAg _) (by rw[e,xAa];exact h) (by lia) eV⟩
   |false=>
    rw[show Kd.dp false .call (.fn pl m b i::vs)=1 from xCg ⟨h,rfl⟩];exact⟨2,by decide,rM (xAg _) (by decide) (by rw[e,xAa];exact h) (by lia) eV⟩
  ·rw[KF,show Kd.oc .call (.fn pl m b i::vs)=(("odd":Str),Vl.int 0) from xCf h,kz (by decide),show Kd.dp la .call (.fn pl m b i::vs)=0 from xCf λz=>h z.1];exact⟨0,by decide,iE<|by show(if(nms m).length=(vs.map Iv.vl).length then none else some ("odd":Str))=_;rw[e,xAa,xCf h]⟩
end
section
variable{f:Nat->Int}{la:Bool}{l:List<|Sp×Int}{K:Kd}
structure Dn where
 ds:List Int
 w:Str
 V:Vl
 pl:Int
 lg:List Int
def dn(f:Nat->Int)(K:Kd)(l:List<|Sp×Int):Dn:=match opB f 0 l with
 |some pl=>⟨opD f 0 l,"big",.int 0,pl,[]⟩
 |none=>⟨opD f 0 l++[f 39],(K.oc<|opV f 0 l).1,(K.oc<|opV f 0 l).2,f 39,K.lg<|opV f 0 l⟩
def dnp(f:Nat->Int)(la:Bool)(K:Kd)(l:List<|Sp×Int):Nat:=match opB f 0 l with
 |some _=>0
 |none=>K.dp la<|opV f 0 l
def Kd.ok:Kd->Prop
 |.rai w=>w≠""
 |_=>True
structure Lk(l:List (Sp×Int)):Prop where
 ok:∀x∈l,x.1.ok
 nr:∀x∈l,-(10^12)<x.2/\x.2<10^12
theorem yY{q:Nat->Int}{n:Int}(h:s.ok)(hn:-(10^12)<n/\n<10^12)(hb:(s.v q n).bg=none):(s.v q n).sm:=by
 cases s with
 |num=>show sml n;unfold sml;lia
 |mk m=>exact h
 |fn m=>exact h
 |ask=>show sml (10^29);unfold sml;decide
 |mul=>
  by_cases hv:vv n >= 10^40
  ·rw[show Sp.v q n .mul=.big (q 4) from xCg hv] at hb;cases hb
  ·rw[show Sp.v q n .mul=.num (vv n) from xCf hv];have h0:-(10^40)<vv n:=by unfold vv;rcases bb4 (n:=n) with h|h|h|h <;> rw[h] <;> decide
   exact⟨h0,by lia⟩
theorem mO:∀{l:List<|Sp×Int}{k:Nat},Lk l->opB f k l=none->∀v∈opV f k l,v.sm
 |[],k,_,_,v,h=>nomatch h
 |x::l,k,hl,hb,v,h=>by
  rw[opB] at hb;cases hx:(x.1.v (at8 f k) x.2).bg with
  |some pl=>rw[hx] at hb;cases hb
  |none=>
   rw[hx] at hb;rcases xAv.mp h with rfl|h
   ·exact yY (hl.ok x<|xAr ..) (hl.nr x<|xAr ..) hx
   ·exact mO ⟨λy hy=>hl.ok y<|xAs _ hy,λy hy=>hl.nr y<|xAs _ hy⟩ hb v h
theorem ln1{l:List α}(h:l.length=1):∃a,l=[a]:=match l,h with
 |[a],_=>⟨a,rfl⟩
theorem ln2{l:List α}(h:l.length=2):∃a b,l=[a,b]:=match l,h with
 |[a,b],_=>⟨a,b,rfl⟩
theorem Ab{ps:List U}(h:K.ar ps.length):FP (K.P f ps) ps:=by
 cases K with
 |math o=>obtain⟨a,b,rfl⟩:=ln2 h;exact jL
 |make=>exact nt
 |call=>
  match ps,h with
  |p::ps,h=>exact @uS (.int<|f 39) p ps (by have:=h.2;rw[xAo] at this;lia)
 |iff=>obtain⟨a,rfl⟩:=ln1 h;exact Ah
 |mat=>obtain⟨a,rfl⟩:=ln1 h.1;exact rC
 |rai=>obtain⟨a,rfl⟩:=ln1 h;exact rB
 |tell=>obtain⟨a,rfl⟩:=ln1 h;exact uR
theorem Aa{ps:List U}{vs:List Iv}(hK:K.ok)(e:ps.length=vs.length)(h:K.ar vs.length)(hs:∀v∈vs,v.sm):KF f la K ps vs:=by
 cases K with
 |math o=>
  obtain⟨a,b,rfl⟩:=ln2 h;obtain⟨p,q,rfl⟩:=ln2 e;exact uG (hs _<|by simp) (hs _<|by simp)
 |make=>exact uH
 |call=>
  match vs,h,ps,e with
  |v::vs,h,p::ps,_=>exact uI (hs _<|by simp)
 |iff=>
  obtain⟨a,rfl⟩:=ln1 h;obtain⟨p,rfl⟩:=ln1 e;exact z0 (hs _<|by simp)
 |mat=>
  obtain⟨a,rfl⟩:=ln1 h.1;obtain⟨p,rfl⟩:=ln1 e;exact xO (hs _<|by simp) h.2
 |rai=>
  obtain⟨a,rfl⟩:=ln1 h;obtain⟨p,rfl⟩:=ln1 e;exact xN hK
 |tell=>
  obtain⟨a,rfl⟩:=ln1 h;obtain⟨p,rfl⟩:=ln1 e;exact uF (hs _<|by simp)
theorem ar4{n:Nat}(h:K.ar n):n<=4:=by
 cases K with
 |math o=>have:n=2:=h;lia
 |make=>exact h
 |call=>exact h.2
 |mat=>have:=h.1;lia
 |_=>have:n=1:=h;lia
theorem qD(hK:K.ok)(hl:Lk l)(h:K.ar l.length):∃c ak,c<=100/\ak<=4/\Sem la [] 0 [] 0 (K.P f<|opP f 0 l) c (dn f K l).ds (dn f K l).lg (mkO ((dn f K l).w,(dn f K l).V) (dn f K l).pl) (dnp f la K l) ak:=by
 obtain⟨c,ak,h1,h2,s⟩:=qL (f:=f) (k:=0) hl.ok;have h4:=ar4 h;have hp:FP (K.P f<|opP f 0 l)<|opP f 0 l:=Ab (by rw[fF];exact h);have e:∃κ r,K.P f (opP f 0 l)=.tup (.str κ::.int (f 39)::r)/\κ≠"number"/\κ≠"name"/\κ≠"leave"/\κ≠"try"/\(!zB5 (.str κ) [.str "let",.str "do",.str "try"])=true/\∃g,zAj κ dW=some (.gl g)/\zAj g fins=some (K.fi,3):=by
  cases K <;> exact⟨_,_,rfl,by decide,by decide,by decide,by decide,by rfl,_,by rfl,by rfl⟩
 obtain⟨κ,r,e,k1,k2,k3,k4,k5,g,k6,k7⟩:=e;cases hb:opB f 0 l with
 |some pl=>
  refine⟨c+1,ak,by lia,by lia,?_⟩;rw[dn,dnp,hb];rw[opO,hb] at s;show Sem la [] 0 [] 0 _ (c+1) (opD f 0 l) [] (mkO ("big",.int 0) pl) 0 ak;rw[kz<|by decide];exact tz e hp s k1 k2 k3 k4 (by rw[fF];lia)
 |none=>
  obtain⟨c3,h3,F⟩:=Aa (f:=f) (la:=la) (ps:=opP f 0 l) (vs:=opV f 0 l) hK (by rw[fF,eU]) (by rw[eU];exact h)<|mO hl hb;refine⟨c+c3+2,ak+0,by lia,by lia,?_⟩;rw[dn,dnp,hb];rw[opO,hb] at s;exact gj true g e hp s F k1 k2 k3 (by rw[fF];lia) k5 k6 k7
end
section
variable{f:Nat->Int}{la:Bool}{l:List<|Sp×Int}{K:Kd}{k:Nat}
theorem y4{q:Nat->Int}{n:Int}(h:s.ok)(hn:-(10^12)<n/\n<10^12)(hq:∀i,okP<|q i):CP (s.P q n) (s.ix.map q) 3 []:=by
 have nm:∀{i:Nat}{a:Int},-(10^12)<a/\a<10^12->CP (nu (q i) a) [q i] 0 []:=λha=>lS (hq _) ha;cases s with
 |num=>exact(nm hn).mono (by decide)
 |mul=>
  have m0:=gV (w:="mul") (hq 2) (by kernel_rfl) (nm (i:=1) (a:=10^12-1)<|by decide)<|nm (i:=5)<|bbr (n:=n);have m1:=gV (w:="mul") (hq 3) (by kernel_rfl) m0 ((nm (i:=6)<|bbr (n:=n)).mono<|by decide);exact gV (w:="mul") (hq 4) (by kernel_rfl) m1 ((nm (i:=7)<|bbr (n:=n)).mono<|by decide)
 |ask=>exact(yD<|hq 0).mono (by decide)
 |fn m=>exact(AS (hq 0)<|nm hn).mono (by decide)
 |mk m=>
  have:∀{ks:List Nat},CPs 0 [] (ks.map λk=>nu (q<|1+k) n)<|(ks.map λk=>1+k).map q:=by
   intro ks;induction ks with
   |nil=>exact .nil
   |cons k ks ih=>exact .cons (nm hn) ih
  exact(nF (hq 0) (by kernel_rfl) (this (ks:=List.range m)) (by have:m<=2:=h;simp;lia)).mono (by decide)
theorem vQ(hq:∀i,okP<|f i):∀{l:List<|Sp×Int}{k:Nat},Lk l->CPs 3 [] (opP f k l) ((opI k l).map f)
 |[],k,_=>.nil
 |x::l,k,hl=>by
  rw[opP,opI,List.map_append,List.map_map];exact .cons (y4 (hl.ok x<|xAr ..) (hl.nr x<|xAr ..) λi=>hq _)<|vQ hq ⟨λy hy=>hl.ok y<|xAs _ hy,λy hy=>hl.nr y<|xAs _ hy⟩
def Kd.ix:Kd->List Nat->List Nat
 |.iff,is=>39::(is++[38,37])
 |.mat _ _,is=>39::(is++[38,37])
 |_,is=>39::is
def Kd.wd:Kd->Prop
 |.rai w=>zAu w=true
 |.mat t _=>zAu t=true
 |_=>True
theorem zJr{o:Nat}:zEi (opT o)=true:=match o with
 |0=>by kernel_rfl
 |1=>by kernel_rfl
 |2=>by kernel_rfl
 |3=>by kernel_rfl
 |_+4=>by kernel_rfl
theorem CPs.un{p:U}(h:CPs 3 [] [p] pls):CP p pls 3 []:=by
 cases h with
 |cons h r=>
  cases r;rw[xB0];exact h
theorem Ac{ps:List U}{is:List Nat}(hw:K.wd)(hq:∀i,okP<|f i)(h:K.ar ps.length)(c:CPs 3 [] ps<|is.map f):CP (K.P f ps) ((K.ix is).map f) 4 []:=by
 have n5:CP (nu (f 38) 5) [f 38] 0 []:=lS (hq _) (by decide);have n6:CP (nu (f 37) 6) [f 37] 0 []:=lS (hq _) (by decide);cases K with
 |math o=>
  obtain⟨a,b,rfl⟩:=ln2 h;generalize hi:is.map f=pls at c;cases c with
  |cons c r=>
  have r:=r.un;exact(gV (hq _) zJr c r).to (by show _=f 39::is.map f;rw[hi])
 |make=>exact nF (hq _) (by kernel_rfl) c h
 |call=>
  match ps,h with
  |p::ps,h=>
   generalize hi:is.map f=pls at c;cases c with
   |cons c r=>exact(vm (hq _) c r (by have:=h.2;rw[xAo] at this;lia)).to (by show _=f 39::is.map f;rw[hi])
 |iff=>
  obtain⟨a,rfl⟩:=ln1 h;exact(AR (hq _) c.un (n5.mono<|by decide)<|n6.mono<|by decide).to (by simp[Kd.ix])
 |mat t m=>
  obtain⟨a,rfl⟩:=ln1 h.1;exact(sv (hq _) hw c.un n5 n6).to (by simp[Kd.ix])
 |rai w=>
  obtain⟨a,rfl⟩:=ln1 h;exact su (hq _) hw c.un
 |tell=>
  obtain⟨a,rfl⟩:=ln1 h;exact vj (hq _) c.un
def prog(f:Nat->Int)(tr:Option Str)(P:U):U:=match tr with
 |none=>P
 |some w=>.tup [.str "try",.int<|f 36,P,.str w,.str "x",.tup [.str "name",.int<|f 35,.str "x"]]
def prI(tr:Option Str)(is:List Nat):List Nat:=match tr with
 |none=>is
 |some _=>36::(is++[35])
def nmX:zBj "x"=true:=by kernel_rfl
theorem tP{P:U}{is:List Nat}(hw:∀w,tr=some w->zAu w=true)(hq:∀i,okP<|f i)(c:CP P (is.map f) 4 []):CP (prog f tr P) ((prI tr is).map f) 5 []:=by
 cases tr with
 |none=>exact c.mono (by decide)
 |some w=>exact(yC (hq _) (hw w rfl) nmX c ((vk (hq 35) nmX).mono<|xBn _) λz hz=>.inl<|xAm.mp hz).to (by simp[prI])
theorem Iv.cl{v:Iv}:v.vl.cl:=by
 intro S cm cm' u h;cases v with
 |num=>exact h
 |big=>exact h
 |blk m i=>
  unfold Iv.vl VR at h⊢;obtain⟨p,us,h1,h2,h3⟩:=h;refine⟨p,us,h1,h2,?_⟩;have:∀{m:Nat}{us:List U},VRs S cm (List.replicate m<|.int i) us->VRs S cm' (List.replicate m<|.int i) us:=by
   intro m;induction m with
   |zero=>intro us h;exact h
   |succ m ih=>
    intro us h;rw[List.replicate_succ] at h⊢;unfold VRs at h⊢;obtain⟨a,b,c,d,e⟩:=h;exact⟨a,b,c,d,ih e⟩
  exact this h3
 |fn pl m b i=>
  unfold Iv.vl VR at h⊢;obtain⟨p,sc,h1,h2,kvs,h3,h4,_⟩:=h;exact⟨p,sc,h1,h2,kvs,h3,h4,λ_ _ z=>nomatch z⟩
def fe{i:Int}:(Vl.int i).cl:=λ_ _ _ _ h=>h
def prO(tr:Option Str)(d:Dn):Out:=if d.w≠""/\tr=some d.w then .val [d.V] else mkO (d.w,d.V) d.pl
end
section
variable{f:Nat->Int}{la:Bool}{l:List<|Sp×Int}{K:Kd}{k:Nat}
def Qt(K:Kd)(la:Bool)(vs:List Iv):Prop:=(K.oc vs).1≠""->K.lg vs=[]/\K.dp la vs=0/\(K.oc vs).2.cl
theorem Bf{vs:List Iv}(ha:K.ar vs.length):Qt K la vs:=by
 intro h;cases K with
 |math o=>
  refine⟨rfl,rfl,?_⟩;obtain⟨v,w,rfl⟩:=ln2 ha;cases v with
  |num a=>
   cases w with
   |num b=>
    show(if big (opF o a b) then(("big":Str),Vl.int 0) else("",.int<|opF o a b)).2.cl;split <;> exact fe
   |_=>exact fe
  |_=>exact fe
 |make=>exact absurd rfl h
 |call=>
  cases vs with
  |nil=>exact⟨rfl,rfl,fe⟩
  |cons v vs=>
   cases v with
   |fn pl m b i=>
    by_cases e:m=vs.length
    ·exact absurd (congrArg Prod.fst<|show Kd.oc .call (.fn pl m b i::vs)=(("":Str),Vl.int i) from xCg e) h
    ·rw[show Kd.oc .call (.fn pl m b i::vs)=(("odd":Str),Vl.int 0) from xCf e];exact⟨rfl,xCf λz=>e z.1,fe⟩
   |_=>exact⟨rfl,rfl,fe⟩
 |iff=>
  refine⟨rfl,rfl,?_⟩;obtain⟨v,rfl⟩:=ln1 ha;cases v <;> exact fe
 |mat t m=>
  refine⟨rfl,rfl,?_⟩;obtain⟨v,rfl⟩:=ln1 ha.1;cases v <;> exact fe
 |rai w=>
  refine⟨rfl,rfl,?_⟩;obtain⟨v,rfl⟩:=ln1 ha;exact Iv.cl
 |tell=>
  obtain⟨v,rfl⟩:=ln1 ha;cases v with
  |num a=>exact absurd rfl h
  |_=>exact⟨rfl,rfl,fe⟩
theorem zT{vs:List Iv}(ha:K.ar vs.length)(hs:∀v∈vs,v.sm):(K.oc vs).2.sm:=by
 cases K with
 |math o=>
  obtain⟨v,w,rfl⟩:=ln2 ha;cases v with
  |num a=>
   cases w with
   |num b=>
    show(if big (opF o a b) then(("big":Str),Vl.int 0) else("",.int<|opF o a b)).2.sm;split <;> trivial
   |_=>trivial
  |_=>trivial
 |make=>show(vs.map Iv.vl).length<=1000;rw[xAa];have:=ar4 ha;lia
 |call=>
  cases vs with
  |nil=>trivial
  |cons v vs=>
   cases v with
   |fn pl m b i=>
    show(if m=vs.length then(("":Str),Vl.int i) else("odd",.int 0)).2.sm;split <;> trivial
   |_=>trivial
 |iff=>
  obtain⟨v,rfl⟩:=ln1 ha;cases v <;> trivial
 |mat t m=>
  obtain⟨v,rfl⟩:=ln1 ha.1;cases v <;> trivial
 |rai w=>
  obtain⟨v,rfl⟩:=ln1 ha;cases v with
  |blk m i=>
   have:m<=2:=hs _<|xAm.mpr rfl;show(List.replicate m<|Vl.int i).length<=1000;rw[xCu];lia
  |_=>trivial
 |tell=>
  obtain⟨v,rfl⟩:=ln1 ha;cases v <;> trivial
theorem Bw(ha:K.ar l.length)(h:(dn f K l).w≠""):(dn f K l).lg=[]/\dnp f la K l=0/\(dn f K l).V.cl:=by
 rw[dn] at h⊢;rw[dnp];cases hb:opB f 0 l with
 |some pl=>exact⟨rfl,rfl,fe⟩
 |none=>
  rw[hb] at h;exact Bf (by rw[eU];exact ha) h
theorem AN(hl:Lk l)(h:K.ar l.length):(dn f K l).V.sm:=by
 rw[dn];cases hb:opB f 0 l with
 |some pl=>trivial
 |none=>exact zT (by rw[eU];exact h) (mO hl hb)
theorem qc(hK:K.ok)(hl:Lk l)(h:K.ar l.length):∃c ak,c<=200/\ak<=4/\Sem true [] 0 [] 0 (prog f tr<|K.P f<|opP f 0 l) c (dn f K l).ds (dn f K l).lg (prO tr<|dn f K l) (dnp f tr.isNone K l) ak:=by
 obtain⟨c,ak,h1,h2,s⟩:=qD (f:=f) (la:=tr.isNone) hK hl h;cases tr with
 |none=>
  refine⟨c,ak,by lia,h2,?_⟩;rw[prO,xCf λz=>nomatch z.2];exact s
 |some w=>
  replace s:Sem false [] 0 [] 0 (K.P f<|opP f 0 l) c (dn f K l).ds (dn f K l).lg (mkO ((dn f K l).w,(dn f K l).V) (dn f K l).pl) (dnp f false K l) ak:=s
  show ∃c ak,c<=200/\ak<=4/\Sem true [] 0 [] 0 _ c (dn f K l).ds (dn f K l).lg (prO (some w)<|dn f K l) (dnp f false K l) ak;by_cases hw:(dn f K l).w=""
  ·rw[prO,xCf λz=>z.1 hw];rw[mkO,xCg hw] at s⊢;exact⟨c+2,ak,by lia,h2,wz s⟩
  ·obtain⟨q1,q2,q3⟩:=Bw (la:=false) h hw;rw[mkO,xCf hw,q1,q2] at s;rw[q1,q2];by_cases e:w=(dn f K l).w
   ·rw[prO,xCg ⟨hw,by rw[e]⟩];subst e;exact⟨c+2,ak,by lia,h2,wB s (wE (i:=0) rfl rfl) q3⟩
   ·rw[prO,xCf (λz=>e<|by injection z.2),mkO,xCf hw];exact⟨c+1,ak,by lia,h2,wA s e⟩
end
section
variable{f:Nat->Int}{l:List<|Sp×Int}{K:Kd}
theorem y3(h:s.ok):s.ix.Nodup/\∀i∈s.ix,i<8:=by
 cases s with
 |mk m=>
  have h:m<=2:=h;rcases m3 h with rfl|rfl|rfl <;> exact⟨by decide,by decide⟩
 |fn m=>exact(⟨by decide,by decide⟩:([0,1]:List Nat).Nodup/\∀i∈([0,1]:List Nat),i<8)
 |_=>exact⟨by unfold Sp.ix;decide,by unfold Sp.ix;decide⟩
theorem vL:∀{l:List<|Sp×Int}{k:Nat},(∀x∈l,x.1.ok)->(opI k l).Nodup/\∀i∈opI k l,8*k<=i/\i<8*(k+l.length)
 |[],k,_=>⟨List.nodup_nil,λ_ z=>nomatch z⟩
 |x::l,k,h=>by
  obtain⟨a1,a2⟩:=y3<|h x<|xAr ..;obtain⟨b1,b2⟩:=vL (l:=l) (k:=k+1) λy hy=>h y<|xAs _ hy;have a3:∀i∈x.1.ix.map (8*k+·),8*k<=i/\i<8*k+8:=by
   intro i hi;obtain⟨j,hj,rfl⟩:=xA2.mp hi;have:=a2 j hj;lia
  rw[opI];refine⟨xBq.mpr ⟨?_,b1,?_⟩,?_⟩
  ·exact List.pairwise_map.mpr (a1.imp λ{a b} z e=>z<|by lia)
  ·intro a ha b hb e;have:=a3 a ha;have:=b2 b hb;lia
  ·intro i hi;rw[xAo];rcases xAj.mp hi with hi|hi
   ·have:=a3 i hi;lia
   ·have:=b2 i hi;lia
theorem z9{is:List Nat}(h:is.Nodup)(h32:∀i∈is,i<32):(K.ix is).Nodup/\∀i∈K.ix is,i<32\/i=37\/i=38\/i=39:=by
 have n1:(39::is).Nodup:=xCb.mpr ⟨λz=>by have:=h32 _ z;lia,h⟩;have n2:(39::(is++[38,37])).Nodup:=by
  refine xCb.mpr ⟨λz=>?_,xBq.mpr ⟨h,by decide,λa ha b hb e=>?_⟩⟩
  ·rcases xAj.mp z with z|z
   ·have:=h32 _ z;lia
   ·exact absurd z (by decide)
  ·have:=h32 a ha;simp at hb;lia
 have m1:∀i∈(39::is),i<32\/i=37\/i=38\/i=39:=by
  intro i hi;rcases xAv.mp hi with rfl|hi
  ·lia
  ·exact .inl<|h32 i hi
 have m2:∀i∈(39::(is++[38,37])),i<32\/i=37\/i=38\/i=39:=by
  intro i hi;rcases xAv.mp hi with rfl|hi
  ·lia
  ·rcases xAj.mp hi with hi|hi
   ·exact .inl<|h32 i hi
   ·simp at hi;lia
 cases K with
 |iff=>exact⟨n2,m2⟩
 |mat=>exact⟨n2,m2⟩
 |_=>exact⟨n1,m1⟩
theorem zm{is:List Nat}(h:is.Nodup)(hm:∀i∈is,i<32\/i=37\/i=38\/i=39):(prI tr is).Nodup/\∀i∈prI tr is,i<40:=by
 cases tr with
 |none=>exact⟨h,λi hi=>by have:=hm i hi;lia⟩
 |some w=>
  refine⟨xCb.mpr ⟨λz=>?_,xBq.mpr ⟨h,by decide,λa ha b hb e=>?_⟩⟩,λi hi=>?_⟩
  ·rcases xAj.mp z with z|z
   ·have:=hm _ z;lia
   ·exact absurd z (by decide)
  ·have:=hm a ha;simp at hb;lia
  ·rcases xAv.mp hi with rfl|hi
   ·lia
   ·rcases xAj.mp hi with hi|hi
    ·have:=hm i hi;lia
    ·simp at hi;lia
structure Fk(f:Nat->Int):Prop where
 ok:∀i,okP (f i)
 inj:∀i j,i<40->j<40->f i=f j->i=j
def qd{k:Kv Prop}(hf:Fk f)(hK:K.ok)(hd:K.wd)(hw:∀w,tr=some w->zAu w=true)(hl:Lk l)(h:K.ar l.length)(hm:mo<=2000)(hfw:900000<fw)(hk:∀S',k (zB9 mo (dn f K l).ds (dn f K l).lg (prO tr<|dn f K l)<|dnp f tr.isNone K l) S'):(Gd fw<|d+61).call 60 [prog f tr<|K.P f<|opP f 0 l,.lst zCf,.int mo] S x k:=by
 obtain⟨c,ak,h1,h2,s⟩:=qc (f:=f) (tr:=tr) hK hl h;have h4:=ar4 h;obtain⟨a1,a2⟩:=vL (k:=0) hl.ok;obtain⟨b1,b2⟩:=z9 (K:=K) a1 λi hi=>by have:=a2 i hi;lia
 obtain⟨c1,c2⟩:=zm (tr:=tr) b1 b2;have cp:=tP (tr:=tr) hw hf.ok<|Ac (f:=f) hd hf.ok (by rw[fF];exact h)<|vQ hf.ok (k:=0) hl;refine wI s ?_ (by lia) ?_ (by lia) ?_ hm hfw (λ{d S x K'} hk=>?_) hk
 ·have:=AN (f:=f) hl h;unfold prO;split
  ·exact⟨_,rfl,this⟩
  ·unfold mkO;split
   ·exact⟨_,rfl,this⟩
   ·exact this
 ·have:dnp f tr.isNone K l<=1:=by
   unfold dnp;split
   ·exact xBn _
   ·unfold Kd.dp;split
    ·split <;> decide
    ·decide
  lia
 ·have:(dn f K l).lg.length<=1:=by
   unfold dn;split
   ·exact xBn _
   ·show(K.lg _).length<=1;unfold Kd.lg;split
    ·exact xAg _
    ·exact xBn _
  lia
 ·refine checked cp (by decide) ?_ ?_ λS' _=>hk S'
  ·refine List.pairwise_map.mpr<|c1.imp_of_mem λ{a b} ha hb z e=>z<|hf.inj a b (c2 a ha) (c2 b hb) e
  ·rw[xAa];have l0:∀{l:List<|Sp×Int}{k:Nat},(∀x∈l,x.1.ok)->(opI k l).length<=7*l.length:=by
    intro l;induction l with
    |nil=>intro k _;exact xAg _
    |cons x l ih=>
     intro k hx;have i1:=ih (k:=k+1) λy hy=>hx y<|xAs _ hy;have i2:x.1.ix.length<=7:=by
      have:=hx x<|xAr ..;revert this;cases x.1 with
      |mk m=>intro h;have h:m<=2:=h;show((List.range m).map _).length+1<=7;rw[xAa,List.length_range];lia
      |fn m=>intro _;exact(by decide:2<=7)
      |_=>intro _;unfold Sp.ix;decide
     rw[opI,xAb,xAa,xAo];lia
   have i1:=l0 (k:=0) hl.ok;have i2:(K.ix<|opI 0 l).length<=(opI 0 l).length+3:=by
    cases K <;> simp[Kd.ix]
   have i3:(prI tr<|K.ix<|opI 0 l).length<=(K.ix<|opI 0 l).length+2:=by
    cases tr <;> simp[prI]
   lia
end
section
variable{fw d:Nat}{S:So}{x:Kx Prop}{K:Kv Prop}{c:Int}
def vp{ns:List Int}{k:Nat}(h:K (.int<|ns.getD k 0) S):(Gd fw<|d+1).call 61 [.kl<|ns.map U.int,.int k] S x K:=by
 refine cd ⟨2,2,t61⟩ ?_;refine pd (v:=.int ns.length) (S':=S) (by rw[kh,xAa]) ?_;refine pd (v:=.bl<|decide<|(k:Int)<ns.length) (S':=S) rfl ?_;refine bI (λhk=>?_) λhk=>?_
 ·have hk':k<ns.length:=by have:=xBe hk;lia
  exact pd (v:=.int<|ns.getD k 0) (S':=S) (my<|by rw[xAw,xBz,xAk hk'];rfl) h
 ·have hk:=xBf hk;have:ns.getD k 0=0:=by
   have:ns.length<=k:=by lia
   simp[List.getD,List.getElem?_eq_none this]
  rw[this] at h;exact h
def fpl(s t:Int)(i:Nat):Int:=(s+t*i)%600
def Ag{s t:Int}(h:t=1\/t=7\/t=599\/t=211):Fk<|fpl s t:=by
 refine⟨λi=>?_,λi j hi hj e=>?_⟩
 ·unfold okP fpl;lia
 ·unfold fpl at e;rcases h with rfl|rfl|rfl|rfl <;> lia
theorem vT{s t:Int}(ht:sml t):∀{n lo:Nat}{ys:List U},lo+n<=1000->K (.lst<|ys++(List.range' lo n).map λi=>.int<|fpl s t i) S->lcK (Gd fw d) (lcB [1] true [none,none,some<|.int t,some<|.int s] none (J1 .mod (J1 (.add false) Jj<|J1 .mul Jc J2)<|J9 600)<|Gd fw d) (zB3 (lo:Int) n) ys S K
 |0,lo,ys,_,hk=>by
  rw[List.range'_zero,List.map_nil,xB0] at hk;exact hk
 |n+1,lo,ys,hl,hk=>by
  refine pd (gm (b:=(lo:Int)) ht<|by unfold sml;lia) ?_;refine pv (.int<|s+t*lo)<|pv (.int<|fpl s t lo) ?_;refine vT (n:=n) (lo:=lo+1) (ys:=ys++[.int<|fpl s t lo]) ht (by lia) ?_;rw[xAx];exact hk
def oi(hk:∀f,Fk f->K (.lst<|(List.range' 0 40).map λi=>.int<|f i) S):(Gd fw<|d+1).call 62 [.int c] S x K:=by
 refine cd ⟨1,3,t62⟩ ?_;refine pv (.int<|c%600)<|pv (.lst [.int 1,.int 7,.int 599,.int 211])<|pv (.int<|c / 600)<|pv (.int<|c / 600%4) ?_;have go:∀t,t=1\/t=7\/t=599\/t=211->lcK (Gd fw d) (lcB [1] true [none,none,some<|.int t,some<|.int<|c%600] none (J1 .mod (J1 (.add false) Jj<|J1 .mul Jc J2)<|J9 600)<|Gd fw d) (zB3 ((0:Nat):Int) 40) [] S K:=λt ht=>vT (by unfold sml;lia) (by decide)<|hk _<|Ag ht;rcases m4 (c:=c / 600) with h|h|h|h <;> rw[h]
 ·refine pv (.int 1)<|pv (.tup<|zB3 0 40)<|bT ?_;exact go 1 (by decide)
 ·refine pv (.int 7)<|pv (.tup<|zB3 0 40)<|bT ?_;exact go 7 (by decide)
 ·refine pv (.int 599)<|pv (.tup<|zB3 0 40)<|bT ?_;exact go 599 (by decide)
 ·refine pv (.int 211)<|pv (.tup<|zB3 0 40)<|bT ?_;exact go 211 (by decide)
def nr(n:Int):Prop:=-(10^12)<n/\n<10^12
def oz(hk:∀n,nr n->K (.int n) S):(Gd fw<|d+1).call 63 [.int c] S x K:=by
 refine cd ⟨1,1,t63⟩ ?_;refine pv (.int<|c / 4)<|pv (.int<|c / 4%19)<|pv (.int<|c / 4%19-9)<|pv (.int<|c / 4)<|pv (.int<|10^12)<|pv (.int<|2*10^12)<|pv (.int<|2*10^12-1)<|pv (.int<|c / 4%(2*10^12-1))<|pv (.int<|10^12)<|pv (.int<|c / 4%(2*10^12-1)-10^12) ?_;refine pv (.int<|c / 4%(2*10^12-1)-10^12+1)<|pv (.lst [.int 0,.int<|c / 4%19-9,.int<|c / 4%(2*10^12-1)-10^12+1,.int 1])<|pv (.int<|c%4) ?_;rcases m4 (c:=c) with h|h|h|h <;> rw[h]
 ·exact pv (.int 0) (hk _<|by unfold nr;decide)
 ·exact pv (.int<|c / 4%19-9) (hk _<|by unfold nr;lia)
 ·exact pv (.int<|c / 4%(2*10^12-1)-10^12+1) (hk _<|by unfold nr;lia)
 ·exact pv (.int 1) (hk _<|by unfold nr;decide)
end
section
variable{fw d:Nat}{S:So}{x:Kx Prop}{K:Kv Prop}{c n:Int}{q:Nat->Int}
def qs(q:Nat->Int):List U:=[.int<|q 0,.int<|q 1,.int<|q 2,.int<|q 3,.int<|q 4,.int<|q 5,.int<|q 6,.int<|q 7]
def itU(q:Nat->Int)(s:Sp)(n:Int):U:=.lst [s.P q n,(s.v q n).u,.lst<|(s.ds q).map .int]
def vI:pr ups .mul [.int<|n%4,.int<|10^11] S=.ok (.int<|n%4*10^11) S:=gm (by unfold sml;lia) (by unfold sml;decide)
def zn:pr ups .pow [.int<|bb n,.int 3] S=.ok (.int<|bb n^3) S:=by
 have:=bbr (n:=n);show(match decide ((0:Int)<=3/\(3:Int)<=1000/\(bb n).natAbs<2^60) with|true=>Res.ok (.int<|bb n^3) S|false=>.stuck)=_;rw[xBd ⟨by decide,by decide,by lia⟩]
def zl:pr ups .mul [.int<|10^12-1,.int<|bb n^3] S=.ok (.int<|vv n) S:=by
 show(match decide ((10^12-1:Int).natAbs<2^150/\(bb n^3).natAbs<2^150\/(bb n^3).natAbs<2^60\/(10^12-1:Int).natAbs<2^60) with|true=>Res.ok (.int<|(10^12-1)*bb n^3) S|false=>.stuck)=_;rw[xBd<|.inr<|.inr<|by decide];rfl
def zIv:TSx Prop:=(Jb<|sA 4<|Ya (J4 "math") (J3 J2<|J1 (.add false) Jo Jk) (J4 "mul") Jg<|Jw (J4 "number") (J3 J2<|J1 (.add false) Jy Jk)<|J1 (.add false) (J1 .pow (J9 10)<|J9 9)<|J1 .mul (J1 .mod Jj Js)<|J1 .pow (J9 10)<|J9 11)
def zCz{r:Sg}{P:U}{j b e:Int}{u:Int}(h2:2+j=b)(h5:5+j=e)(e1:pr ups .ix [.lst<|qs q,.int b] S=.ok (.int u) S){v:Int}(e2:pr ups .ix [.lst<|qs q,.int e] S=.ok (.int v) S)(hk:E.nx (a0::some (.lst<|qs q)::a2::some (.int n)::some (.tup [.str "math",.int u,.str "mul",P,nu v<|bb n])::some (.int j)::r) S):zIv (Gd fw d) (a0::some (.lst<|qs q)::a2::some (.int n)::some P::some (.int j)::r) S E:=by
 refine pv (.int b) ?_ (by subst h2;rfl);refine pd e1 ?_;refine pv (.int e) ?_ (by subst h5;rfl);refine pd e2 ?_;exact pv (.int<|10^9)<|pv (.int<|n%4)<|pv (.int<|10^11)<|pd vI<|pv (.int<|bb n) hk
def zFe{r:Sg}{P:U}(hk:kk (a0::some (.lst<|qs q)::a2::some (.int n)::some (mu q n 2<|mu q n 1<|mu q n 0 P)::some (.int 2)::r) S):zB4 [.int 0,.int 1,.int 2] (λw σ1 S2 nx=>tgt [5] true (Gd fw d) w σ1 λσ2=>zIv (Gd fw d) σ2 S2<|lpE E nx) (a0::some (.lst<|qs q)::a2::some (.int n)::some P::a5::r) S kk:=by
 refine zCz (j:=0) (b:=2) (e:=5) (u:=q 2) (v:=q 5) rfl rfl rfl rfl ?_;refine zCz (j:=1) (b:=3) (e:=6) (u:=q 3) (v:=q 6) rfl rfl rfl rfl ?_;refine zCz (j:=2) (b:=4) (e:=7) (u:=q 4) (v:=q 7) rfl rfl rfl rfl ?_;exact hk
def uN(hk:∀s n,s.ok->nr n->K (itU q s n) S):(Gd fw<|d+2).call 64 [.int c,.lst<|qs q] S x K:=by
 refine cd ⟨2,12,t64⟩ ?_;refine pv (.int<|c%8)<|pv (.int<|c / 8) ?_;refine oz λn hn=>?_;rcases(show(c%8=0\/c%8=1\/c%8=2)\/c%8=3\/c%8=4\/c%8=5\/c%8=6\/c%8=7 by lia) with h|h|h|h|h|h
 ·refine pv (.bl true) ?_ (by rcases h with h|h|h <;> rw[h] <;> rfl);exact bT<|pv (.int<|q 0)<|pv (.lst [])<|pv (.lst [nu (q 0) n,.int n,.lst []])<|hk .num n trivial hn
 ·rw[h];refine pv (.bl false)<|bF<|pv (.bl true)<|bT<|pv (.int<|q 1)<|pv (.int<|10^12)<|pv (.int<|10^12-1)<|pv (.tup [.int 0,.int 1,.int 2]) ?_;refine zFe ?_;refine pv (.int<|10^12)<|pv (.int<|10^12-1)<|pv (.int<|10^9)<|pv (.int<|n%4)<|pv (.int<|10^11)<|pd vI<|pv (.int<|bb n)<|pd zn<|pd zl<|pv (.int<|q 2) ?_;refine pv (.int<|q 3)<|pv (.int<|q 4)<|pv (.lst [.int<|q 2,.int<|q 3,.int<|q 4])<|pv (.int<|10^40)<|pv (.bl<|decide<|10^40<=vv n) ?_;have e:itU q .mul n=.lst [mu q n 2<|mu q n 1<|mu q n 0<|nu (q 1)<|10^12-1,(if vv n >= 10^40 then Iv.big (q 4) else .num (vv n)).u,.lst [.int<|q 2,.int<|q 3,.int<|q 4]]:=rfl;have hk:=hk .mul n trivial hn;rw[e] at hk;refine bI (λg=>?_) λg=>?_
  ·rw[xCg<|xBe g] at hk;exact pv (.int<|q 4)<|pv (.lst [mu q n 2<|mu q n 1<|mu q n 0<|nu (q 1)<|10^12-1,.tup [.str "big",.int<|q 4],.lst [.int<|q 2,.int<|q 3,.int<|q 4]]) hk
  ·rw[xCf<|xBf g] at hk;exact pv (.lst [mu q n 2<|mu q n 1<|mu q n 0<|nu (q 1)<|10^12-1,.int<|vv n,.lst [.int<|q 2,.int<|q 3,.int<|q 4]]) hk
 ·rw[h];refine pv (.bl false)<|bF<|pv (.bl false)<|bF<|pv (.bl true)<|bT<|pv (.int 1)<|pv (.tup [.int 0])<|bT<|pv (.int 1) ?_;refine pv (.int<|q 1)<|pv (.tup [nu (q 1) n])<|pv (.int 1)<|pv (.tup [.int 0])<|bT<|pv (.tup [.int n])<|pv (.int<|q 0)<|pv (.int<|q 0)<|pv (.lst [.int<|q 0])<|pv (.lst [.tup [.str "make",.int<|q 0,.str "ab",.tup [nu (q 1) n]],.tup [.str "block",.str "ab",.tup [.int n]],.lst [.int<|q 0]]) ?_;exact hk (.mk 1) n (by decide:1<=2) hn
 ·rw[h];refine pv (.bl false)<|bF<|pv (.bl false)<|bF<|pv (.bl true)<|bT<|pv (.int 2)<|pv (.tup [.int 0,.int 1])<|bT<|pv (.int 1) ?_;refine pv (.int<|q 1)<|pv (.int 2)<|pv (.int<|q 2)<|pv (.tup [nu (q 1) n,nu (q 2) n])<|pv (.int 2)<|pv (.tup [.int 0,.int 1])<|bT<|pv (.tup [.int n,.int n])<|pv (.int<|q 0)<|pv (.int<|q 0) ?_;refine pv (.lst [.int<|q 0])<|pv (.lst [.tup [.str "make",.int<|q 0,.str "ab",.tup [nu (q 1) n,nu (q 2) n]],.tup [.str "block",.str "ab",.tup [.int n,.int n]],.lst [.int<|q 0]]) ?_;exact hk (.mk 2) n (by decide:2<=2) hn
 ·rw[h];refine pv (.bl false)<|bF<|pv (.bl false)<|bF<|pv (.bl false)<|bF<|pv (.bl true)<|bT<|pv (.int<|q 0)<|pv (.int<|10^29) ?_;exact pv (.int<|q 0)<|pv (.lst [.int<|q 0])<|pv (.lst [.tup [.str "ask",.int<|q 0],.int<|10^29,.lst [.int<|q 0]])<|hk .ask n trivial hn
 ·rw[h];refine pv (.bl false)<|bF<|pv (.bl false)<|bF<|pv (.bl false)<|bF<|pv (.bl false)<|bF<|pv (.int<|c / 8)<|pv (.int<|c / 8%3) ?_;obtain⟨m,hm,e⟩:∃m:Nat,m<=2/\c / 8%3=m:=⟨(c / 8%3).toNat,by lia,by lia⟩
  rw[e];refine pv (.tup<|(nms m).map .str) ?_ (by rcases m3 hm with rfl|rfl|rfl <;> rfl);refine pv (.int<|q 0)<|pv (.int<|q 1)<|pv (.int<|q 0) ?_;refine pv (.int m) ?_ (by rcases m3 hm with rfl|rfl|rfl <;> rfl);refine pv (.int<|q 0)<|pv (.lst [.int<|q 0])<|pv (.lst [.tup [.str "fn",.int<|q 0,.tup<|(nms m).map .str,nu (q 1) n],.tup [.str "fn",.int<|q 0,.int m,.int n],.lst [.int<|q 0]]) ?_;exact hk (.fn m) n hm hn
end
section
variable{fw d:Nat}{S:So}{x:Kx Prop}{k:Kv Prop}{c n:Int}{f:Nat->Int}{v:Iv}{l:List<|Sp×Int}{K:Kd}
def wg{i:Int}:(List.replicate m<|Vl.int i).map Vl.wi=List.replicate m (U.int i):=by
 rw[List.map_replicate];rfl
def hU{u:U}(h:pr ups (.isT "tuple") [u] S=.ok (.bl false) S)(hk:k u S):(Gd fw<|d+1).call 65 [u] S x k:=by
 refine cd ⟨1,1,t65⟩ ?_;refine pd h ?_;exact bF<|bF hk
def j8{r:List U}(hk:k (.tup<|.str "block"::r) S):(Gd fw<|d+1).call 65 [.tup<|.str "block"::r] S x k:=by
 refine cd ⟨1,1,t65⟩ ?_;exact pv (.bl true)<|bT<|pd gn<|pd dh<|bF hk
def hW{r:List U}(hk:k (.tup [.str "fn",.int pl]) S):(Gd fw<|d+1).call 65 [.tup<|.str "fn"::.int pl::r] S x k:=by
 refine cd ⟨1,1,t65⟩ ?_;exact pv (.bl true)<|bT<|pd gn<|pd (dz rfl)<|bT<|pd ii hk
theorem pK{V:Vl}(hk:k V.sh S):(Gd fw<|d+1).call 65 [V.sh] S x k:=by
 cases V with
 |int i=>exact hU rfl hk
 |blk t Vs=>exact j8 hk
 |fn=>exact hW hk
theorem pL(h:v.bg=none)(hk:k v.vl.sh S):(Gd fw<|d+1).call 65 [v.u] S x k:=by
 cases v with
 |num i=>exact hU rfl hk
 |blk m i=>
  refine j8 ?_;have e:(Iv.blk m i).vl.sh=.tup [.str "block",.str "ab",.tup<|(List.replicate m<|Vl.int i).map Vl.wi]:=rfl;rw[e,wg] at hk;exact hk
 |fn=>exact hW hk
 |big=>cases h
theorem oH(h:v.bg=none)(hk:k v.vl.wi S):(Gd fw<|d+2).call 66 [v.u] S x k:=by
 refine cd ⟨1,1,t66⟩ ?_;cases v with
 |num i=>
  exact pv (.bl false)<|bF<|bF<|hU rfl hk
 |blk m i=>
  exact pv (.bl true)<|bT<|pv (.str "block")<|pd (dz rfl)<|bT<|pv (.str "ab") hk
 |fn=>
  exact pv (.bl true)<|bT<|pv (.str "fn")<|pd dh<|bF<|hW hk
 |big=>cases h
def zBv(f:Nat->Int):Nat->List (Sp×Int)->List U
 |_,[]=>[]
 |k,x::l=>itU (at8 f k) x.1 x.2::zBv f (k+1) l
def plc(f:Nat->Int):List U:=(List.range' 0 40).map λi=>.int<|f i
theorem vV:∀{l:List<|Sp×Int}{j:Nat}{ys:List U},k (.lst<|ys++opP f j l) S->lcK (Gd fw d) (lcB [1] true [none,none] none (J3 J2 J8)<|Gd fw d) (zBv f j l) ys S k
 |[],j,ys,hk=>by
  rw[opP,xB0] at hk;exact hk
 |y::l,j,ys,hk=>by
  refine pv (y.1.P (at8 f j) y.2) ?_;refine vV (l:=l) (j:=j+1) (ys:=ys++[y.1.P (at8 f j) y.2]) ?_;rw[xAx];exact hk
theorem jH:∀{l:List<|Sp×Int}{j:Nat},(zBv f j l).length=l.length
 |[],_=>rfl
 |_::l,j=>by rw[zBv,xAo,xAo,jH]
def kst:Nat->Str
 |0=>"math"
 |1=>"make"
 |2=>"call"
 |3=>"if"
 |4=>"match"
 |5=>"raise"
 |_=>"tell"
def zBa(κ:Nat)(c:Int):Kd:=match κ with
 |0=>.math (c%5).toNat
 |1=>.make
 |2=>.call
 |3=>.iff
 |4=>.mat (if c / 3%2=0 then "ab" else "a") (c%3).toNat
 |5=>.rai<|if c%2=0 then "a" else "kind"
 |_=>.tell
def zFd(κ:Nat)(c:Int):Nat:=match κ with
 |0=>2
 |1=>(c%5).toNat
 |2=>(1+c%4).toNat
 |_=>1
def m8{κ:Nat}:(zBa κ c).ar<|zFd κ c:=by
 rcases κ with _|_|_|_|_|_|_
 ·exact(rfl:2=2)
 ·show(c%5).toNat<=4;lia
 ·show 1<=(1+c%4).toNat/\(1+c%4).toNat<=4;lia
 ·exact(rfl:1=1)
 ·exact⟨rfl,by lia⟩
 ·exact(rfl:1=1)
 ·exact(rfl:1=1)
def vX{κ:Nat}:(zBa κ c).ok/\(zBa κ c).wd:=by
 rcases κ with _|_|_|_|_|_|_
 ·exact⟨trivial,trivial⟩
 ·exact⟨trivial,trivial⟩
 ·exact⟨trivial,trivial⟩
 ·exact⟨trivial,trivial⟩
 ·refine⟨trivial,?_⟩;show zAu (if c / 3%2=0 then "ab" else "a")=true;split <;> kernel_rfl
 ·show(if c%2=0 then(("a":Str)) else "kind")≠""/\zAu (if c%2=0 then "a" else "kind")=true;split
  ·exact⟨by decide,by kernel_rfl⟩
  ·exact⟨by decide,by kernel_rfl⟩
 ·exact⟨trivial,trivial⟩
def wV:pr ups .ix [.lst [.str "add",.str "sub",.str "mul",.str "less",.str "same"],.int<|c%5] S=.ok (.str<|opT (c%5).toNat) S:=by
 rcases(show c%5=0\/c%5=1\/c%5=2\/c%5=3\/c%5=4 by lia) with h|h|h|h|h <;> rw[h] <;> rfl
def qe{a b:Str}{e:Int}(h:0<=e/\e<2):pr ups .ix [.lst [.str a,.str b],.int e] S=.ok (.str<|if e=0 then a else b) S:=by
 rcases(show e=0\/e=1 by lia) with h|h <;> rw[h] <;> rfl
def wW{e:Int}(h:0<=e/\e<=2):pr ups (.sl false false true) [.tup [.str "x",.str "y"],.int e] S=.ok (.tup<|(nms e.toNat).map .str) S:=by
 rcases(show e=0\/e=1\/e=2 by lia) with h|h|h <;> rw[h] <;> rfl
def wZ{p:U}{r:List U}:pr ups .ix [.lst<|p::r,.int 0] S=.ok p S:=by
 show opt (atI (p::r) ((0:Nat):Int)) S=_;rw[dZ (v:=p) rfl];rfl
def uc{κ:Nat}(hl:l.length=zFd κ c)(hk:k ((zBa κ c).P f<|opP f 0 l) S):(Gd fw<|d+1).call 67 [.str<|kst κ,.int c,.lst<|plc f,.lst<|zBv f 0 l] S x k:=by
 refine cd ⟨4,9,t67⟩ ?_;refine pv (.tup<|zBv f 0 l) ?_;have h4:l.length<=4:=by rw[hl];exact ar4 m8
 refine bI (λ_=>?_) λz=>?_
 rotate_left
 ·rw[jH] at z;have:=xDk (show l.length<=sizeLine by show l.length<=2^24;lia);rw[this] at z;cases z
 refine vV ?_;rw[xC6];have hlp:=fF (f:=f) (l:=l) (k:=0);generalize opP f 0 l=ps at hk hlp⊢;refine pv (.int<|f 39)<|pv (.int<|f 38)<|pv (.int<|f 37) ?_;rcases κ with _|_|_|_|_|_|_
 ·refine pd (dz rfl)<|bT<|pv (.lst [.str "add",.str "sub",.str "mul",.str "less",.str "same"])<|pv (.int<|c%5)<|pd wV ?_;obtain⟨a,b,rfl⟩:=ln2<|hlp.trans hl;exact pv a<|pv b hk
 ·exact pd dh<|bF<|pd (dz rfl)<|bT<|pv (.tup ps) hk
 ·refine pd dh<|bF<|pd dh<|bF<|pd (dz rfl)<|bT ?_;cases ps with
  |nil=>
   have:(0:Nat)=(1+c%4).toNat:=hlp.trans hl;lia
  |cons p ps=>
   refine pd wZ ?_;refine pv (.lst ps) ?_ ?_
   ·exact pv (.tup ps) hk
   ·show Res.ok (.lst<|zCj (p::ps) (some 1) none) S=_;unfold zCj;rw[HT.sIx_none,show(some (1:Int))=some ((1:Nat):Int) from rfl,HT.sIx_nat,xAo,Nat.min_eq_left (by lia),List.drop_succ_cons,List.drop_zero,Nat.add_sub_cancel,List.take_of_length_le<|xAg _]
 ·refine pd dh<|bF<|pd dh<|bF<|pd dh<|bF<|pd (dz rfl)<|bT ?_;obtain⟨a,rfl⟩:=ln1<|hlp.trans hl;exact pv a hk
 ·refine pd dh<|bF<|pd dh<|bF<|pd dh<|bF<|pd dh<|bF<|pd (dz rfl)<|bT ?_;obtain⟨a,rfl⟩:=ln1<|hlp.trans hl;refine pv a<|pv (.lst [.str "ab",.str "a"])<|pv (.int<|c / 3)<|pv (.int<|c / 3%2) ?_;refine pd (qe<|by lia) ?_;refine pv (.int<|c%3) ?_;refine pd (wW<|by lia) ?_;exact hk
 ·refine pd dh<|bF<|pd dh<|bF<|pd dh<|bF<|pd dh<|bF<|pd dh<|bF ?_;refine pd (dz rfl)<|bT ?_;obtain⟨a,rfl⟩:=ln1<|hlp.trans hl;refine pv (.lst [.str "a",.str "kind"])<|pv (.int<|c%2) ?_;refine pd (qe<|by lia) ?_;exact pv a hk
 ·refine pd (dh (a:="tell"))<|bF<|pd (dh (a:="tell"))<|bF<|pd (dh (a:="tell"))<|bF<|pd (dh (a:="tell"))<|bF<|pd (dh (a:="tell"))<|bF ?_;refine pd (dh (a:="tell"))<|bF ?_;obtain⟨a,rfl⟩:=ln1<|hlp.trans hl;exact pv a hk
end
section
variable{fw d p:Nat}{S:So}{x:Kx Prop}{k:Kv Prop}{f:Nat->Int}{v w:Iv}{vs:List Iv}{ps:List U}{K:Kd}
def ocU(r:Str×Vl):U:=.lst [.str r.1,r.2.sh]
def gN{q:Prop} [Decidable q]:pr ups .int1 [.bl<|decide q] S=.ok (.int<|if q then 1 else 0) S:=by
 by_cases h:q
 ·rw[xBd h,xCg h];rfl
 ·rw[xCn h,xCf h];rfl
def gR{a b:U}(h:pr ups (.isT "tuple") [a] S=.ok (.bl true) S\/pr ups (.isT "tuple") [a] S=.ok (.bl false) S/\pr ups (.isT "tuple") [b] S=.ok (.bl true) S)(hk:k (ocU ("kind",.int 0)) S):(Gd fw<|d+1).call 68 [.str op,a,b] S x k:=by
 refine cd ⟨3,4,t68⟩ ?_;rcases h with h|⟨h,h2⟩
 ·refine pd h ?_;refine bT<|bT ?_;exact pv (.lst [.str "kind",.int 0]) hk
 ·refine pd h ?_;refine bF ?_;refine pd h2 ?_;refine bT ?_;exact pv (.lst [.str "kind",.int 0]) hk
def dk(a b:Int):List<|Key×U:=[(.inr "add",.int<|a+b),(.inr "sub",.int<|a-b),(.inr "mul",.int<|a*b),(.inr "less",.int<|if a<b then 1 else 0)]
def uC{o:Nat}{a b:Int}(ha:sml a)(hb:sml b)(hk:∀S',k (ocU<|if big (opF o a b) then("big",.int 0) else("",.int<|opF o a b)) S'):(Gd fw<|d+1).call 68 [.str<|opT o,.int a,.int b] S x k:=by
 refine cd ⟨3,4,t68⟩ ?_;refine pv (.bl false)<|bF<|pv (.bl false)<|bF<|pv (.int<|a+b)<|pv (.int<|a-b) ?_;refine pd (gm ha hb) ?_;refine pv (.bl<|decide<|a<b)<|pd gN ?_;refine pd (v:=.ref S.length) (S':=S++[.dct<|dk a b]) (by rfl) ?_;refine pv (.bl<|decide<|a=b)<|pd gN ?_;refine pd (jy zA6<|by show 4+1<=2^24;decide) ?_;have g:zBb (.inr<|opT o) (putK (.inr "same") (.int<|if a=b then 1 else 0)<|dk a b)=some (.int<|opF o a b):=by
  rw[show putK (.inr "same") (.int<|if a=b then 1 else 0) (dk a b)=dk a b++[(.inr "same",.int<|if a=b then 1 else 0)] from rfl];rcases o with _|_|_|_|_ <;> rfl
 have h:=zA0 (o':=Ob.dct<|putK (.inr "same") (.int<|if a=b then 1 else 0)<|dk a b)<|zA6 (l:=S) (o:=Ob.dct<|dk a b);generalize set (S++[Ob.dct<|dk a b]) S.length _=S2 at h⊢;refine pd (ly h g) ?_;generalize opF o a b=r at hk g⊢;refine pv (.int<|if r<0 then -r else r)<|pv (.int<|10^40)<|pv (.bl<|decide<|10^40<=if r<0 then -r else r) ?_;refine bI (λz=>?_) λz=>?_
 ·have hk:=hk S2;rw[xCg<|show big r from xBe z] at hk;exact pv (.lst [.str "big",.int 0]) hk
 ·have hk:=hk S2;rw[xCf<|show ¬ big r from xBf z] at hk;refine pd (ly h g) ?_;exact pv (.lst [.str "",.int r]) hk
theorem uB{o:Nat}(h1:v.sm)(h2:w.sm)(hk:∀S',k (ocU<|Kd.oc (.math o) [v,w]) S'):(Gd fw<|d+1).call 68 [.str<|opT o,v.u,w.u] S x k:=by
 cases v with
 |big=>exact h1.elim
 |blk=>exact gR (.inl rfl) (hk S)
 |fn=>exact gR (.inl rfl) (hk S)
 |num a=>
  cases w with
  |big=>exact h2.elim
  |blk=>exact gR (.inr ⟨rfl,rfl⟩) (hk S)
  |fn=>exact gR (.inr ⟨rfl,rfl⟩) (hk S)
  |num b=>exact uC h1 h2 hk
def wX{a b:Str}(h:a≠b):pr ups .ne [.str a,.str b] S=.ok (.bl true) S:=by
 show Res.ok (.bl<|not<|decide<|a=b) S=_;rw[xCn h];rfl
theorem Iv.sm_bg(h:v.sm):v.bg=none:=by
 cases v with
 |big=>exact h.elim
 |_=>rfl
theorem qV:∀{vs:List Iv}{ys:List U},(∀v∈vs,v.sm)->k (.lst<|ys++(vs.map Iv.vl).map Vl.wi) S->lcK (Gd fw<|d+2) (lcB [1] true [none,none] none (Jm 66 J2)<|Gd fw<|d+2) (vs.map Iv.u) ys S k
 |[],ys,_,hk=>by
  rw[List.map_nil,List.map_nil,xB0] at hk;exact hk
 |v::vs,ys,h,hk=>by
  refine oH (Iv.sm_bg<|h v<|xAr ..) ?_;refine qV (vs:=vs) (ys:=ys++[v.vl.wi]) (λu hu=>h u<|xAs _ hu) ?_;rw[xAx];exact hk
def qH{o:Nat}{a b:U}(h1:v.sm)(h2:w.sm)(hp:at? S p=some (.lst [v.u,w.u]))(hk:∀S',k (ocU<|Kd.oc (.math o) [v,w]) S'):(Gd fw<|d+3).call 69 [Kd.P f (.math o) [a,b],.ref p] S x k:=by
 refine cd ⟨2,3,t69⟩ ?_;exact pv (.str "math")<|pd (dz rfl)<|bT<|pv (.str<|opT o)<|pd (dw (j:=0) hp rfl)<|pd (dw (j:=1) hp rfl)<|uB h1 h2 hk
def qI(hs:∀v∈vs,v.sm)(hl:vs.length<=4)(hp:at? S p=some (.lst<|vs.map Iv.u))(hk:∀S',k (ocU<|Kd.oc .make vs) S'):(Gd fw<|d+3).call 69 [Kd.P f .make ps,.ref p] S x k:=by
 refine cd ⟨2,3,t69⟩ ?_;refine pv (.str "make")<|pd dh<|bF<|pv (.str "make")<|pd (dz rfl)<|bT ?_;refine pd (v:=.tup<|vs.map Iv.u) (S':=set S p .dead) ?_ ?_
 ·show(match at? S p with|some (.lst xs)=>Res.ok (.tup xs) (set S p .dead)|_=>.stuck)=_;rw[hp]
 refine bI (λ_=>?_) λz=>?_
 rotate_left
 ·rw[xAa,xDk<|show vs.length<=sizeLine by show vs.length<=2^24;lia] at z;cases z
 refine qV hs ?_;rw[xC6];exact pv (.tup<|(vs.map Iv.vl).map Vl.wi)<|pv (.lst [.str "",.tup [.str "block",.str "abc",.tup<|(vs.map Iv.vl).map Vl.wi]])<|hk _
theorem qJ(h1:v.sm)(hp:at? S p=some (.lst<|v.u::vs.map Iv.u))(hk:∀S',k (ocU<|Kd.oc .call<|v::vs) S'):(Gd fw<|d+3).call 69 [Kd.P f .call ps,.ref p] S x k:=by
 refine cd ⟨2,3,t69⟩ ?_;iterate 2 (refine pv (.str "call") ?_;refine pd dh ?_;refine bF ?_)
 refine pv (.str "call")<|pd (dz rfl)<|bT<|pd (dw (j:=0) hp rfl) ?_;cases v with
 |big=>exact h1.elim
 |num a=>
  refine pv (.bl false)<|bT<|bT ?_;exact pv (.lst [.str "kind",.int 0])<|hk S
 |blk m i=>
  refine pv (.bl true)<|bF<|pd (dw (j:=0) hp rfl)<|pv (.str "block") ?_;refine pd (wX<|by decide) ?_;refine bT ?_;exact pv (.lst [.str "kind",.int 0])<|hk S
 |fn pl m b i=>
  refine pv (.bl true)<|bF<|pd (dw (j:=0) hp rfl)<|pv (.str "fn")<|pv (.bl false)<|bF<|pv (.lst [.str "odd",.int 0])<|pd (dw (j:=0) hp rfl)<|pv (.int i)<|pv (.lst [.str "",.int i]) ?_;refine pv (.lst [.lst [.str "odd",.int 0],.lst [.str "",.int i]])<|pd (dw (j:=0) hp rfl)<|pv (.int m)<|pd (fY hp) ?_;rw[xAo,xAa];refine pv (.int<|((vs.length+1:Nat):Int)-1)<|pv (.bl<|decide<|(m:Int)=((vs.length+1:Nat):Int)-1)<|pd gN ?_;have hk:=hk S;rw[show Kd.oc .call (.fn pl m b i::vs)=if m=vs.length then(("":Str),Vl.int i) else("odd",.int 0) from rfl] at hk;by_cases h:m=vs.length
  ·rw[xCg h] at hk;rw[xCg<|by lia];exact pv (.lst [.str "",.int i]) hk
  ·rw[xCf h] at hk;rw[xCf<|by lia];exact pv (.lst [.str "odd",.int 0]) hk
theorem xp{a:U}(h1:v.sm)(hp:at? S p=some (.lst [v.u]))(hk:∀S',k (ocU<|Kd.oc .iff [v]) S'):(Gd fw<|d+3).call 69 [Kd.P f .iff [a],.ref p] S x k:=by
 refine cd ⟨2,3,t69⟩ ?_;iterate 3 (refine pv (.str "if") ?_;refine pd dh ?_;refine bF ?_)
 refine pv (.str "if")<|pd (dz rfl)<|bT<|pd (dw (j:=0) hp rfl) ?_;have hk:=hk S;cases v with
 |big=>exact h1.elim
 |blk m i=>
  refine pv (.bl true)<|bT ?_;exact pv (.lst [.str "kind",.int 0]) hk
 |fn pl m b i=>
  refine pv (.bl true)<|bT ?_;exact pv (.lst [.str "kind",.int 0]) hk
 |num a=>
  refine pv (.bl false)<|bF<|pv (.lst [.int 6,.int 5])<|pd (dw (j:=0) hp rfl) ?_;rw[show Kd.oc .iff [.num a]=(("":Str),Vl.int<|if a=0 then 6 else 5) from rfl] at hk;by_cases h:a=0
  ·subst h;refine pv (.bl false)<|pv (.int 0)<|pv (.int 6) ?_;exact pv (.lst [.str "",.int 6]) hk
  ·rw[xCf h] at hk;refine pv (.bl true) ?_ (by show Res.ok (.bl<|not<|decide<|a=0) S=_;rw[xCn h];rfl);refine pv (.int 1)<|pv (.int 5) ?_;exact pv (.lst [.str "",.int 5]) hk
theorem ui{a:U}(hm:m<=2)(h1:v.sm)(hp:at? S p=some (.lst [v.u]))(hk:∀S',k (ocU<|Kd.oc (.mat t m) [v]) S'):(Gd fw<|d+3).call 69 [Kd.P f (.mat t m) [a],.ref p] S x k:=by
 refine cd ⟨2,3,t69⟩ ?_;iterate 4 (refine pv (.str "match") ?_;refine pd dh ?_;refine bF ?_)
 refine pv (.str "match")<|pd (dz rfl)<|bT<|pd (dw (j:=0) hp rfl) ?_;have hk:=hk S;cases v with
 |big=>exact h1.elim
 |num a=>
  refine pv (.bl false)<|bF<|pv (.lst [.int 6,.int 5])<|bF<|pv (.int 0)<|pv (.int 6) ?_;exact pv (.lst [.str "",.int 6]) hk
 |fn pl m b i=>
  refine pv (.bl true)<|bT<|pd (dw (j:=0) hp rfl)<|pv (.str "fn")<|pd dh<|bF<|pv (.lst [.int 6,.int 5])<|bF<|pv (.int 0)<|pv (.int 6) ?_;exact pv (.lst [.str "",.int 6]) hk
 |blk m' i=>
  rw[show Kd.oc (.mat t m) [.blk m' i]=(("":Str),Vl.int<|if t="ab"/\m'=m then 5 else 6) from rfl] at hk;refine pv (.bl true)<|bT<|pd (dw (j:=0) hp rfl)<|pv (.str "block")<|pd (dz rfl)<|bT<|pd (dw (j:=0) hp rfl)<|pv (.str "ab")<|pv (.str t) ?_;by_cases ht:(("ab":Str))=t
  ·subst ht;refine pd (dz rfl)<|pv (.lst [.int 6,.int 5])<|bT<|pd (dw (j:=0) hp rfl)<|pv (.tup<|List.replicate m'<|.int i) ?_;refine pv (.int m') ?_ (by show Res.ok (.int ((List.replicate m'<|U.int i).length:Nat)) S=_;rw[xCu]);refine pv (.tup<|(nms m).map .str) ?_;refine pv (.int m) ?_ (by show Res.ok (.int (((nms m).map U.str).length:Nat)) S=_;rw[xAa,f7 hm]);refine pv (.bl<|decide<|(m':Int)=m)<|pd gN ?_;by_cases h:m'=m
   ·rw[xCg ⟨rfl,h⟩] at hk;rw[xCg<|by lia];refine pv (.int 5) ?_;exact pv (.lst [.str "",.int 5]) hk
   ·rw[xCf λz=>h z.2] at hk;rw[xCf<|by lia];refine pv (.int 6) ?_;exact pv (.lst [.str "",.int 6]) hk
  ·rw[xCf λz=>ht z.1.symm] at hk;refine pd (dh ht)<|pv (.lst [.int 6,.int 5])<|bF<|pv (.int 0)<|pv (.int 6) ?_;exact pv (.lst [.str "",.int 6]) hk
def uh{w:Str}{a:U}(h1:v.sm)(hp:at? S p=some (.lst [v.u]))(hk:∀S',k (ocU<|Kd.oc (.rai w) [v]) S'):(Gd fw<|d+3).call 69 [Kd.P f (.rai w) [a],.ref p] S x k:=by
 refine cd ⟨2,3,t69⟩ ?_;iterate 5 (refine pv (.str "raise") ?_;refine pd dh ?_;refine bF ?_)
 refine pv (.str "raise")<|pd (dz rfl)<|bT<|pv (.str w)<|pd (dw (j:=0) hp rfl) ?_;refine pL (Iv.sm_bg h1) ?_;exact pv (.lst [.str w,v.vl.sh])<|hk S
theorem qG{a:U}(h1:v.sm)(hp:at? S p=some (.lst [v.u]))(hk:∀S',k (ocU<|Kd.oc .tell [v]) S'):(Gd fw<|d+3).call 69 [Kd.P f .tell [a],.ref p] S x k:=by
 refine cd ⟨2,3,t69⟩ ?_;iterate 6 (refine pv (.str "tell") ?_;refine pd dh ?_;refine bF ?_)
 refine pd (dw (j:=0) hp rfl) ?_;have hk:=hk S;cases v with
 |big=>exact h1.elim
 |num a=>
  refine pv (.bl false)<|bF<|pd (dw (j:=0) hp rfl) ?_;exact pv (.lst [.str "",.int a]) hk
 |_=>
  refine pv (.bl true)<|bT ?_;exact pv (.lst [.str "kind",.int 0]) hk
theorem lD(hs:∀v∈vs,v.sm)(h:K.ar vs.length)(e:ps.length=vs.length)(hp:at? S p=some (.lst<|vs.map Iv.u))(hk:∀S',k (ocU<|K.oc vs) S'):(Gd fw<|d+3).call 69 [K.P f ps,.ref p] S x k:=by
 cases K with
 |math o=>
  obtain⟨a,b,rfl⟩:=ln2 h;obtain⟨p,q,rfl⟩:=ln2 e;exact qH (hs _<|by simp) (hs _<|by simp) hp hk
 |make=>exact qI hs h hp hk
 |call=>
  match vs,h with
  |v::vs,h=>exact qJ (hs _<|by simp) hp hk
 |iff=>
  obtain⟨a,rfl⟩:=ln1 h;obtain⟨p,rfl⟩:=ln1 e;exact xp (hs _<|by simp) hp hk
 |mat t m=>
  obtain⟨a,rfl⟩:=ln1 h.1;obtain⟨p,rfl⟩:=ln1 e;exact ui h.2 (hs _<|by simp) hp hk
 |rai w=>
  obtain⟨a,rfl⟩:=ln1 h;obtain⟨p,rfl⟩:=ln1 e;exact uh (hs _<|by simp) hp hk
 |tell=>
  obtain⟨a,rfl⟩:=ln1 h;obtain⟨p,rfl⟩:=ln1 e;exact qG (hs _<|by simp) hp hk
end
section
variable{fw d p:Nat}{S:So}{x:Kx Prop}{k:Kv Prop}{f:Nat->Int}{l:List<|Sp×Int}{K:Kd}{c:Int}
theorem m9:∀{l:List<|Sp×Int}{j:Nat}{y:Sp×Int},zBv f j (l++[y])=zBv f j l++[itU (at8 f<|j+l.length) y.1 y.2]
 |[],j,y=>rfl
 |z::l,j,y=>by
  rw[List.cons_append,zBv,zBv,m9,List.cons_append,xAo,show j+1+l.length=j+(l.length+1) by lia]
def tS(h:j<4):pr ups (.sl false true true) [.lst<|plc f,.int<|8*(j:Int),.int<|8*(j:Int)+8] S=.ok (.lst<|qs<|at8 f j) S:=by
 rcases(show j=0\/j=1\/j=2\/j=3 by lia) with rfl|rfl|rfl|rfl <;> rfl
def Lk.app{y:Sp×Int}(h:Lk l)(h1:y.1.ok)(h2:K14.nr y.2):Lk<|l++[y]:=by
 refine⟨λz hz=>?_,λz hz=>?_⟩
 ·rcases xAj.mp hz with hz|hz
  ·exact h.ok z hz
  ·rw[xAm.mp hz];exact h1
 ·rcases xAj.mp hz with hz|hz
  ·exact h.nr z hz
  ·rw[xAm.mp hz];exact h2
def zIu:TSx Prop:=(sQ (sE<|cBM "list" .app Jg<|Jd<|Jx 64 (J1 .mod Jk<|J1 .pow (J9 10)<|J9 15)<|cP (.sl false true true)<|Jl Jc (cI<|J1 .mul (J9 8) Jp)<|J1 (.add false) (J1 .mul (J9 8) Jp)<|J9 8)<|Jb<|sA 5<|J1 .fdiv Jk<|J1 .pow (J9 10)<|J9 15)
theorem zDr{E:Ee Prop}{kk:Sg->So->Prop}{a0 a1 a3:Option U}:∀{m:Nat}{l:List<|Sp×Int}{S:So}{z:Int}{a6:Option U},l.length+m<=4->Lk l->at? S p=some (.lst<|zBv f 0 l) ->
  (∀l' S' a5 a6,l'.length=l.length+m->Lk l'->at? S' p=some (.lst<|zBv f 0 l')->kk [a0,a1,some<|.lst<|plc f,a3,some<|.ref p,a5,a6] S') ->
  zB4 (zB3 (l.length:Int) m) (λw σ1 S2 nx=>tgt [6] true (Gd fw<|d+2) w σ1 λσ2=>zIu (Gd fw<|d+2) σ2 S2<|lpE E nx) [a0,a1,some<|.lst<|plc f,a3,some<|.ref p,some<|.int z,a6] S kk
 |0,l,S,z,a6,_,hl,hp,hk=>hk l S _ _ rfl hl hp
 |m+1,l,S,z,a6,h4,hl,hp,hk=>by
  refine pd (fq hp)<|pv (.int<|10^15)<|pv (.int<|z%10^15) ?_;refine pd (gm (a:=8) (b:=(l.length:Int)) (by unfold sml;decide)<|by unfold sml;lia) ?_;refine pd (gm (a:=8) (b:=(l.length:Int)) (by unfold sml;decide)<|by unfold sml;lia) ?_;refine pv (.int<|8*(l.length:Int)+8) ?_;refine pd (tS<|by lia) ?_;refine uN λs n hs hn=>?_;refine pd (dM hp<|by rw[jH];show _<=2^24;lia) ?_;refine pv (.int<|10^15)<|pv (.int<|z / 10^15) ?_;have e:zBv f 0 l++[itU (at8 f l.length) s n]=zBv f 0 (l++[(s,n)]):=by rw[m9,Nat.zero_add]
  rw[e];have e2:(l.length:Int)+1=((l++[(s,n)]).length:Nat):=by rw[xAb];rfl
  show zB4 (zB3 ((l.length:Int)+1) m) _ _ _ _;rw[e2];refine zDr (by rw[xAb];show l.length+1+m<=4;lia) (hl.app hs hn) (zA0 hp) λl' S' a5 a6 h1 h2 h3=>hk l' S' a5 a6 (by rw[h1,xAb];show l.length+1+m=_;lia) h2 h3
def zg{j:Int}(h:0<=j/\j<=1000):pr ups .rng1 [.int j] S=.ok (.tup<|zB3 0 j.toNat) S:=by
 delta pr;dsimp only;rw[xBd<|by lia]
def rf{κ:Nat}(hk:∀l S',l.length=zFd κ c->Lk l->k (.lst<|zBv f 0 l) S'):(Gd fw<|d+3).call 70 [.str<|kst κ,.int c,.lst<|plc f] S x k:=by
 refine cd ⟨3,7,t70⟩ ?_;have go:∀{E:Ee Prop}{a0 a1 a6:Option U}{j:Int}{S:So}{p:Nat},j.toNat=zFd κ c->0<=j->E.rt=k->at? S p=some (.lst [])->(Gd fw<|d+2).prim .rng1 [.int j] S (λx S1=>E.x x [a0,a1,some<|.lst<|plc f,some<|.int j,some<|.ref p,some<|.int<|c / 20,a6] S1) λv S1=>match v with
   |.tup vs=>zB4 vs (λw σ1 S2 nx=>tgt [6] true (Gd fw<|d+2) w σ1 λσ2=>zIu (Gd fw<|d+2) σ2 S2<|lpE (sqE E λσ1 S1=>(J6<|J5 .frz Jg) (Gd fw<|d+2) σ1 S1 E) nx) [a0,a1,some<|.lst<|plc f,some<|.int j,some<|.ref p,some<|.int<|c / 20,a6] S1 λσ1 S1=>(J6<|J5 .frz Jg) (Gd fw<|d+2) σ1 S1 E
   |_=>(Gd fw<|d+2).fail:=by
  intro E a0 a1 a6 j S p hj h0 hE hp;have h4:=ar4<|m8 (κ:=κ) (c:=c);refine pd (zg ⟨h0,by lia⟩) ?_;rw[hj];refine zDr (l:=[]) (by show 0+_<=4;lia) ⟨λ_ z=>(nomatch z),λ_ z=>(nomatch z)⟩ hp λl' S' a5 a6 h1 h2 h3=>?_;refine pd (v:=.lst<|zBv f 0 l') (S':=set S' p .dead) ?_ ?_
  ·show zCr p S' _=_;unfold zCr;rw[h3]
  ·show E.rt _ _;rw[hE];exact hk l' _ (by rw[h1];show 0+_=_;lia) h2
 rcases κ with _|_|_|κ
 ·refine pd (dz rfl)<|bT<|pd dh<|bF<|pd dh<|bF ?_;refine pd (v:=.ref S.length) (S':=S++[.lst []]) (by rfl) ?_;refine pv (.int<|c / 20) ?_;exact go rfl (by decide) rfl zA6
 ·refine pd dh<|bF<|pd (dz rfl)<|bT<|pv (.int<|c%5)<|pd dh<|bF ?_;refine pd (v:=.ref S.length) (S':=S++[.lst []]) (by rfl) ?_;refine pv (.int<|c / 20) ?_;exact go rfl (by lia) rfl zA6
 ·refine pd dh<|bF<|pd dh<|bF<|pd (dz rfl)<|bT<|pv (.int<|c%4)<|pv (.int<|1+c%4) ?_;refine pd (v:=.ref S.length) (S':=S++[.lst []]) (by rfl) ?_;refine pv (.int<|c / 20) ?_;exact go rfl (by lia) rfl zA6
 ·obtain⟨w,hw,n1,n2,n3⟩:∃w,kst (κ+3)=w/\w≠"math"/\w≠"make"/\w≠"call":=by
   rcases κ with _|_|_|κ
   ·exact⟨"if",rfl,by decide,by decide,by decide⟩
   ·exact⟨"match",rfl,by decide,by decide,by decide⟩
   ·exact⟨"raise",rfl,by decide,by decide,by decide⟩
   ·exact⟨"tell",rfl,by decide,by decide,by decide⟩
  rw[hw];refine pd (dh n1)<|bF<|pd (dh n2)<|bF<|pd (dh n3)<|bF ?_;refine pd (v:=.ref S.length) (S':=S++[.lst []]) (by rfl) ?_;refine pv (.int<|c / 20) ?_;exact go rfl (by decide) rfl zA6
def nL{ys:List U}(h:xs.length+ys.length<=1000):pr ups (.add false) [.lst xs,.lst ys] S=.ok (.lst<|xs++ys) S:=by
 show fits (xs.length+ys.length) (.ok (.lst<|xs++ys) S)=_;exact zBw (by show _<=2^24;lia)
def zIt:TSx Prop:=(sQ (sA 2<|J1 (.add false) Jc<|J3 Jg Jo)<|sQ (Ja (tAn (tB<|J5 (.isT "tuple")<|J3 Jg Jf)<|Je (J3 (J3 Jg Jf) J8)<|J4 "big")<|J6<|cP (.lst false)<|Y2 Jc (J4 "big") J8 (J3 (J3 Jg Jf) Jf)<|cP (.lst false) aN)<|Jb<|sE<|cBM "list" .app Jj<|Jd<|J3 Jg Jf)
theorem zEn{a7:Option U}{P:U}{v:Iv}{ds0 ds:List Int}{vs0:List U}(hd:ds0.length+ds.length<=1000)(hv:vs0.length<=1000)(hp:at? S p=some (.lst vs0))(hb:∀pl,v.bg=some pl->E.rt (.lst [.lst<|(ds0++ds).map .int,.str "big",.int 0,.int pl,.lst []]) S)(hn:v.bg=none->E.nx [a0,a1,some<|.lst<|(ds0++ds).map .int,some<|.ref p,some<|.lst [P,v.u,.lst<|ds.map .int],a5,a6,a7] (set S p<|.lst<|vs0++[v.u])) :
  zIt (Gd fw d) [a0,a1,some<|.lst<|ds0.map .int,some<|.ref p,some<|.lst [P,v.u,.lst<|ds.map .int],a5,a6,a7] S E:=by
 refine pv (.lst<|ds.map .int) ?_;refine pd (nL<|by rw[xAa,xAa];exact hd) ?_;rw[<- List.map_append];refine pv v.u ?_;have hl:vs0.length+1<=sizeLine:=by show _<=2^24;lia
 cases v with
 |num i=>
  refine pv (.bl false)<|bF<|bF<|pd (fq hp)<|pv (.int i) ?_;refine pd (dM hp hl) ?_;exact hn rfl
 |blk m i=>
  refine pv (.bl true)<|bT ?_;refine pv (Iv.blk m i).u ?_;refine pv (.str "block")<|pd dh<|bF<|pd (fq hp) ?_;refine pv (Iv.blk m i).u ?_;refine pd (dM hp hl) ?_;exact hn rfl
 |fn pl m b i=>
  refine pv (.bl true)<|bT ?_;refine pv (Iv.fn pl m b i).u ?_;refine pv (.str "fn")<|pd dh<|bF<|pd (fq hp) ?_;refine pv (Iv.fn pl m b i).u ?_;refine pd (dM hp hl) ?_;exact hn rfl
 |big pl=>
  refine pv (.bl true)<|bT ?_;refine pv (Iv.big pl).u ?_;refine pv (.str "big")<|pd (dz rfl)<|bT ?_;refine pv (Iv.big pl).u ?_;exact pv (.int pl)<|pv (.lst [])<|pv (.lst [.lst<|(ds0++ds).map .int,.str "big",.int 0,.int pl,.lst []])<|hb pl rfl
theorem ds3{q:Nat->Int}:(s.ds q).length<=3:=by
 cases s with
 |num=>exact xBn _
 |mul=>exact xAg _
 |_=>exact(by decide:1<=3)
theorem zDq{E:Ee Prop}{kk:Sg->So->Prop}{a0 a1 a5 a6 a7:Option U}:∀{l:List<|Sp×Int}{j:Nat}{S:So}{ds0:List Int}{vs0:List U}{a4:Option U},ds0.length+3*l.length<=1000->vs0.length+l.length<=1000->at? S p=some (.lst vs0) ->
  (∀pl S',opB f j l=some pl->E.rt (.lst [.lst<|(ds0++opD f j l).map .int,.str "big",.int 0,.int pl,.lst []]) S') ->
  (∀S' a4,opB f j l=none->at? S' p=some (.lst<|vs0++(opV f j l).map Iv.u)->kk [a0,a1,some<|.lst<|(ds0++opD f j l).map .int,some<|.ref p,a4,a5,a6,a7] S') ->
  zB4 (zBv f j l) (λw σ1 S2 nx=>tgt [4] true (Gd fw d) w σ1 λσ2=>zIt (Gd fw d) σ2 S2<|lpE E nx) [a0,a1,some<|.lst<|ds0.map .int,some<|.ref p,a4,a5,a6,a7] S kk
 |[],j,S,ds0,vs0,a4,_,_,hp,hb,hn=>by
  have:=hn S a4 rfl (by rw[opV,List.map_nil,xB0];exact hp);rw[opD,xB0] at this;exact this
 |y::l,j,S,ds0,vs0,a4,hd,hv,hp,hb,hn=>by
  have h3:=ds3 (s:=y.1) (q:=at8 f j);rw[xAo] at hd hv;refine zEn (P:=y.1.P (at8 f j) y.2) (v:=y.1.v (at8 f j) y.2) (ds:=y.1.ds<|at8 f j) (by lia) (by lia) hp (λpl e=>?_) λe=>?_
  ·have:=hb pl S (by rw[opB,e]);rw[opD,e,xB0] at this;exact this
  ·have eD:opD f j (y::l)=y.1.ds (at8 f j)++opD f (j+1) l:=by rw[opD,e]
   have eB:opB f j (y::l)=opB f (j+1) l:=by rw[opB,e]
   rw[eD,eB] at hb hn;refine zDq (by rw[xAb];lia) (by rw[xAb];show vs0.length+1+_<=_;lia) (zA0 hp) (λpl S' z=>?_) λS' a4 z hp'=>?_
   ·rw[xAx];exact hb pl S' z
   ·rw[xAx];refine hn S' a4 z ?_;rw[hp',xAx];rfl
def dnU(D:Dn):U:=.lst [.lst<|D.ds.map .int,.str D.w,D.V.sh,.int D.pl,.lst<|D.lg.map .int]
theorem jC:∀{l:List<|Sp×Int}{j:Nat},(opD f j l).length<=3*l.length
 |[],_=>xAg _
 |y::l,j=>by
  have h3:=ds3 (s:=y.1) (q:=at8 f j);have:=jC (l:=l) (j:=j+1);rw[opD,xAb,xAo];split <;> simp <;> lia
def vc(hl:Lk l)(h:K.ar l.length)(hk:∀S',k (dnU<|dn f K l) S'):(Gd fw<|d+4).call 71 [K.P f<|opP f 0 l,.lst<|zBv f 0 l] S x k:=by
 have h4:=ar4 h;refine cd ⟨2,8,t71⟩ ?_;refine pv (.lst []) ?_;refine pd (v:=.ref S.length) (S':=S++[.lst []]) (by rfl) ?_;refine pv (.tup<|zBv f 0 l) ?_;refine zDq (ds0:=[]) (vs0:=[]) (by show 0+_<=_;lia) (by show 0+_<=_;lia) zA6 (λpl S' e=>?_) λS' a4 e hp=>?_
 ·have:=hk S';rw[dn,e] at this;exact this
 ·rw[xC6] at hp⊢;refine lD (mO hl e) (by rw[eU];exact h) (by rw[fF,eU]) hp λS2=>?_;have hk:=hk S2;have hD:=jC (f:=f) (l:=l) (j:=0);rw[dn,e] at hk;have hv:=eU (f:=f) (l:=l) (k:=0);generalize opV f 0 l=vs at hk hv⊢;generalize opD f 0 l=ds at hk hD⊢;refine pv (.tup [.str (K.oc vs).1,(K.oc vs).2.sh])<|pv (.lst []) ?_;have go:∀{lg:List Int}{r:List U}{κ:Str},K.lg vs=lg->K.P f (opP f 0 l)=.tup (.str κ::.int (f 39)::r)->(J6<|cP (.lst false)<|Y2 (J1 (.add false) Jc<|J5 (.lst false)<|J3 J0 Jf) Jk Jp (J3 J0 Jf) Jv) (Gd fw<|d+3) [some<|.tup<|.str κ::.int (f 39)::r,some<|.lst<|zBv f 0 l,some<|.lst<|ds.map .int,some<|.ref S.length,a4,some<|.str (K.oc vs).1,some (K.oc vs).2.sh,some<|.lst<|lg.map .int] S2 (zAo x k):=by
   intro lg r κ e1 e2;subst e1;refine pd ii (pv (.lst [.int<|f 39]) ?_);refine pd (nL<|by rw[xAa];show _+1<=_;lia) ?_;refine pd ii (pv (.lst [.lst<|ds.map .int++[.int<|f 39],.str (K.oc vs).1,(K.oc vs).2.sh,.int<|f 39,.lst<|(K.lg vs).map .int]) ?_);rw[show ds.map U.int++[.int<|f 39]=(ds++[f 39]).map .int by rw[List.map_append];rfl];exact hk
  have el:∀κ r,K.P f (opP f 0 l)=.tup (.str κ::.int (f 39)::r)->κ≠"tell"->K.lg vs=[]->(sQ (Ja (tAn (Je (J3 J0 J8)<|J4 "tell")<|Je Jk<|J4 "")<|Jb<|sA 7<|J5 (.lst false) Jp)<|J6<|cP (.lst false)<|Y2 (J1 (.add false) Jc<|J5 (.lst false)<|J3 J0 Jf) Jk Jp (J3 J0 Jf) Jv) (Gd fw<|d+3) [some<|K.P f<|opP f 0 l,some<|.lst<|zBv f 0 l,some<|.lst<|ds.map .int,some<|.ref S.length,a4,some<|.str (K.oc vs).1,some (K.oc vs).2.sh,some<|.lst []] S2 (zAo x k):=by
   intro κ r e1 e2 e3;have go:=go e3 e1;rw[e1];exact pd gn<|pd (dh e2)<|bF<|bF go
  cases K with
  |math o=>exact el _ _ rfl (by decide) rfl
  |make=>exact el _ _ rfl (by decide) rfl
  |call=>exact el _ _ rfl (by decide) rfl
  |iff=>exact el _ _ rfl (by decide) rfl
  |mat t m=>exact el _ _ rfl (by decide) rfl
  |rai w=>exact el _ _ rfl (by decide) rfl
  |tell=>
   obtain⟨v,rfl⟩:=ln1<|hv.trans h;refine pv (.str "tell")<|pd (dz rfl)<|bT ?_;cases v with
   |num a=>
    exact pd (dz rfl)<|bT<|pv (.lst [.int a])<|go rfl rfl
   |_=>
    exact pd (dh (a:="kind"))<|bF<|go rfl rfl
end
section
variable{fw d p mo:Nat}{S:So}{x:Kx Prop}{k:Kv Prop}{f:Nat->Int}{l:List<|Sp×Int}{K:Kd}{c:Int}{D:Dn}{tr:Option Str}
def tQ{ds:List Int}:pr ups (.sl false false true) [.lst<|ds.map .int,.int mo] S=.ok (.lst<|(ds.map .int).take mo) S:=by
 show Res.ok (.lst<|zCj (ds.map U.int) none<|some (mo:Int)) S=_;congr 2;unfold zCj;rw[HT.sIx_nat,HT.sIx_none,List.drop_zero,Nat.sub_zero];rcases Nat.le_total mo (ds.map U.int).length with z|z
 ·rw[Nat.min_eq_left z]
 ·rw[Nat.min_eq_right z,List.take_of_length_le z,List.take_of_length_le<|xAg _]
def vH{a b:Str}:pr ups .ne [.str a,.str b] S=.ok (.bl (!decide (a=b))) S:=rfl
def oC{o:Bool}{dp:Nat}(ht:∀w,tr=some w->w≠"")(hdp:dp=if o=true/\D.w="" then 1 else 0)(hk:k (zB9 mo D.ds D.lg (prO tr D) dp) S):(Gd fw<|d+2).call 72 [dnU D,.str<|tr.getD "",.bl o,.int mo] S x k:=by
 refine cd ⟨4,10,t72⟩ ?_;refine pv (.tup [.lst<|D.ds.map .int,.str D.w,D.V.sh,.int D.pl,.lst<|D.lg.map .int]) ?_;refine pv (.int D.ds.length) ?_ (by show Res.ok (.int ((D.ds.map U.int).length:Nat)) S=_;rw[xAa]);refine pv (.bl<|decide<|(mo:Int)<D.ds.length) ?_;refine bI (λh=>?_) λh=>?_
 ·rw[zB9,xCg (by have:=xBe h;lia)] at hk;exact pv (.lst [])<|pd tQ hk
 ·rw[zB9,xCf (by have:=xBf h;lia)] at hk;refine pK ?_;have e1:zD8 (prO tr D)=if D.w≠""/\D.w≠tr.getD "" then .tup [.str "fault",.str D.w,D.V.sh,.int D.pl] else .tup [.str "value",D.V.sh]:=by
   unfold prO mkO;by_cases hw:D.w=""
   ·rw[xCf λz=>z.1 hw,xCg hw,xCf λz=>z.1 hw];rfl
   ·cases tr with
    |none=>
     rw[xCf λz=>(nomatch z.2),xCf hw,xCg ⟨hw,hw⟩];rfl
    |some w=>
     by_cases e:w=D.w
     ·rw[xCg ⟨hw,by rw[e]⟩,xCf λz=>z.2 e.symm];rfl
     ·rw[xCf (λz=>e<|by injection z.2),xCf hw,xCg ⟨hw,λz=>e z.symm⟩];rfl
  have fin:∀{a1 a2 a3 a7:Option U}{E:U},E=zD8 (prO tr D)->(J6<|Y0 Y5 Y3 Jg<|J5 .int1<|cB<|tAn (tB Jc)<|Je Jk<|J4 "") (Gd fw<|d+1) [some<|dnU D,a1,some<|.bl o,a3,some<|.lst<|D.ds.map .int,some<|.str D.w,a2,a7,some<|.lst<|D.lg.map .int,some E] S (zAo x k):=by
   intro a1 a2 a3 a7 E e;subst e;cases o with
   |true=>
    refine bT ?_;by_cases hw:D.w=""
    ·refine pd (dz hw) ?_;refine pv (.int 1) ?_;rw[hdp,xCg ⟨rfl,hw⟩] at hk;exact hk
    ·refine pd (dh hw)<|pv (.int 0) ?_;rw[hdp,xCf λz=>hw z.2] at hk;exact hk
   |false=>
    refine bF<|pv (.int 0) ?_;rw[hdp,xCf λz=>(nomatch z.1)] at hk;exact hk
  refine pd vH ?_;by_cases hw:D.w=""
  ·rw[xBd hw];refine bF<|bF ?_;exact fin (by rw[e1,xCf λz=>z.1 hw])
  ·rw[xCn hw];refine bT<|pd vH ?_;by_cases h2:D.w=tr.getD ""
   ·rw[xBd h2];refine bF ?_;exact fin (by rw[e1,xCf λz=>z.2 h2])
   ·rw[xCn h2];refine bT ?_;exact fin (by rw[e1,xCg ⟨hw,h2⟩])
def uA(hm:m<=1000)(hk:∀mo:Nat,mo<=2000->k (.int mo) S):(Gd fw<|d+1).call 73 [.int c,.int m] S x k:=by
 refine cd ⟨2,2,t73⟩ ?_;refine pv (.int<|(m:Int)-1)<|pv (.int<|if(m:Int)-1>0 then(m:Int)-1 else 0)<|pv (.int<|c / 4)<|pv (.int<|(m:Int)+2) ?_;refine pd (v:=.int<|c / 4%((m:Int)+2)) (S':=S) (by delta pr;dsimp only;rw[xBd<|by lia]) ?_;obtain⟨l1,l2⟩:0<=c / 4%((m:Int)+2)/\c / 4%((m:Int)+2)<=2000:=⟨Int.emod_nonneg _ (by lia),by have:=Int.emod_lt_of_pos (c / 4) (show(0:Int)<(m:Int)+2 by lia);lia⟩
 generalize c / 4%((m:Int)+2)=r at l1 l2⊢;obtain⟨r,rfl⟩:=Int.eq_ofNat_of_zero_le l1;obtain⟨m',e,hm'⟩:∃m':Nat,(if(m:Int)-1>0 then(m:Int)-1 else 0)=m'/\m'<=2000:=by
  split
  ·exact⟨m-1,by lia,by lia⟩
  ·exact⟨0,rfl,by lia⟩
 rw[e];refine pv (.lst [.int m,.int m',.int r,.int 2000])<|pv (.int<|c%4) ?_;rcases m4 (c:=c) with h|h|h|h <;> rw[h]
 ·exact pv (.int m) (hk m<|by lia)
 ·exact pv (.int m')<|hk m' hm'
 ·exact pv (.int r) (hk r<|by lia)
 ·exact pv (.int 2000) (hk 2000<|by lia)
def fo{n:Nat}{i:Int}:same S (n+1) (.int i) (.int i)=true:=by
 show(true&&true&&(some (decide<|i=i)==some true))=true;rw[xBd rfl];rfl
def e9{n:Nat}{i:Str}:same S (n+1) (.str i) (.str i)=true:=by
 show(true&&true&&(some (decide<|i=i)==some true))=true;rw[xBd rfl];rfl
theorem zA{n:Nat}:∀{xs:List U},(∀y∈xs,same S n y y=true)->zA9 (same S n) xs xs=true
 |[],_=>rfl
 |y::xs,h=>by
  show(same S n y y&&zA9 _ xs xs)=true;rw[h y<|xAr ..,zA λz hz=>h z<|xAs _ hz];rfl
def e8{n:Nat}(h:∀y∈xs,same S n y y=true):same S (n+1) (.tup xs) (.tup xs)=true:=zA h
def pI{n:Nat}(h:∀y∈xs,same S n y y=true):same S (n+1) (.lst xs) (.lst xs)=true:=zA h
def jq{n:Nat}{ds:List Int}:same S (n+2) (.lst<|ds.map .int) (.lst<|ds.map .int)=true:=pI λy hy=>by
 obtain⟨i,_,rfl⟩:=xA2.mp hy;exact fo
def ml2{q:α->Prop}{a b:α}(h1:q a)(h2:q b):∀y∈[a,b],q y:=λy hy=>by
 rcases xAv.mp hy with rfl|hy
 ·exact h1
 ·rw[xAm.mp hy];exact h2
def mlc{q:α->Prop}{a:α}{r:List α}(h1:q a)(h2:∀y∈r,q y):∀y∈a::r,q y:=λy hy=>by
 rcases xAv.mp hy with rfl|hy
 ·exact h1
 ·exact h2 y hy
theorem y6{n:Nat}{V:Vl}:same S (n+2) V.wi V.wi=true:=by
 cases V with
 |int i=>exact fo
 |blk t Vs=>exact e8 (ml2 e9 e9)
 |fn=>exact e8 (ml2 e9 fo)
theorem vC{n:Nat}{V:Vl}:same S (n+4) V.sh V.sh=true:=by
 cases V with
 |int i=>exact fo
 |fn=>exact e8 (ml2 e9 fo)
 |blk t Vs=>
  refine e8 (mlc e9<|ml2 e9<|e8 λy hy=>?_);obtain⟨V,_,rfl⟩:=xA2.mp hy;exact y6
def wx{n:Nat}:same S (n+5) (zD8<|prO tr D) (zD8<|prO tr D)=true:=by
 have hv:same S (n+5) (zD8<|.val [D.V]) (zD8<|.val [D.V])=true:=e8<|ml2 e9 vC;unfold prO mkO;split
 ·exact hv
 ·split
  ·exact hv
  ·exact e8<|mlc e9<|mlc e9<|ml2 vC fo
def ww{n dp:Nat}:same S (n+6) (zB9 mo D.ds D.lg (prO tr D) dp) (zB9 mo D.ds D.lg (prO tr D) dp)=true:=by
 unfold zB9;split
 ·rw[<- List.map_take];exact e8<|mlc (e8 λy hy=>by rw[xAm.mp hy];exact e9)<|mlc rfl<|ml2 jq fo
 ·exact e8<|mlc wx<|mlc jq<|ml2 jq fo
def pQ{dp:Nat}{out:Out}:∃xs,zB9 mo D.ds D.lg out dp=.tup xs:=by
 unfold zB9;split <;> exact⟨_,rfl⟩
def rX{dp:Nat}{g:Bool->Bool}:eqU g (zB9 mo D.ds D.lg (prO tr D) dp) (zB9 mo D.ds D.lg (prO tr D) dp) S=.ok (.bl<|g true) S:=by
 have h:=ww (S:=S) (n:=14) (mo:=mo) (D:=D) (tr:=tr) (dp:=dp);obtain⟨xs,e⟩:=pQ (mo:=mo) (D:=D) (out:=prO tr D) (dp:=dp);rw[e] at h⊢;show(match same S 20 (.tup xs) (.tup xs) with|true=>Res.ok (.bl<|g true) S|false=>.stuck)=_;rw[h]
def zS{κ:Nat}(la:Bool):dnp f la (zBa κ c) l=if(decide (κ=2)&&!la)=true/\(dn f (zBa κ c) l).w="" then 1 else 0:=by
 unfold dnp dn;split
 ·rw[xCf λz=>absurd z.2<|show ¬ (("big":Str))="" by decide]
 ·next hb=>
  show Kd.dp la (zBa κ c) (opV f 0 l)=if(decide (κ=2)&&!la)=true/\(Kd.oc (zBa κ c)<|opV f 0 l).1="" then 1 else 0
  by_cases h:κ=2
  ·subst h;show Kd.dp la .call (opV f 0 l)=if(!la)=true/\(Kd.oc .call<|opV f 0 l).1="" then 1 else 0
   generalize opV f 0 l=vs;cases vs with
   |nil=>rw[xCf λz=>absurd z.2<|show ¬ (("kind":Str))="" by decide];rfl
   |cons v vs=>
    cases v with
    |fn pl m b i=>
     show(if m=vs.length/\la=false then 1 else 0)=if(!la)=true/\(if m=vs.length then(("":Str),Vl.int i) else("odd",.int 0)).1="" then 1 else 0
     by_cases hm:m=vs.length
     ·rw[xCg hm];cases la with
      |true=>rw[xCf λz=>(nomatch z.2),xCf λz=>(nomatch z.1)]
      |false=>rw[xCg ⟨hm,rfl⟩,xCg ⟨rfl,rfl⟩]
     ·rw[xCf hm,xCf λz=>hm z.1,xCf λz=>absurd z.2<|by decide]
    |_=>rw[xCf λz=>absurd z.2<|show ¬ (("kind":Str))="" by decide];rfl
  ·rw[xCn h,xCf λz=>(nomatch z.1)];rcases κ with _|_|_|_|_|_|_
   ·rfl
   ·rfl
   ·exact absurd rfl h
   ·rfl
   ·rfl
   ·rfl
   ·rfl
def zD0(o:Int):Option Str:=if o / 2400%2=1 then some (if o / 4800%4=0 then "kind" else if o / 4800%4=1 then "odd" else if o / 4800%4=2 then "big" else "a") else none
def yP{o:Int}:∀w,zD0 o=some w->zAu w=true/\w≠"":=by
 intro w h;unfold zD0 at h;split at h
 ·injection h with h;subst h;split
  ·exact⟨by kernel_rfl,by decide⟩
  ·split
   ·exact⟨by kernel_rfl,by decide⟩
   ·split
    ·exact⟨by kernel_rfl,by decide⟩
    ·exact⟨by kernel_rfl,by decide⟩
 ·cases h
def wY:∃κ,pr ups .ix [.lst [.str "math",.str "make",.str "call",.str "if",.str "match",.str "raise",.str "tell"],.int<|c%7] S=.ok (.str<|kst κ) S/\(κ<7):=by
 rcases(show c%7=0\/c%7=1\/c%7=2\/c%7=3\/c%7=4\/c%7=5\/c%7=6 by lia) with h|h|h|h|h|h|h <;> rw[h]
 ·exact⟨0,rfl,by decide⟩
 ·exact⟨1,rfl,by decide⟩
 ·exact⟨2,rfl,by decide⟩
 ·exact⟨3,rfl,by decide⟩
 ·exact⟨4,rfl,by decide⟩
 ·exact⟨5,rfl,by decide⟩
 ·exact⟨6,rfl,by decide⟩
def tT{κ:Nat}(h:κ<7):pr ups .eq [.str<|kst κ,.str "call"] S=.ok (.bl<|decide<|κ=2) S:=by
 rcases(show κ=0\/κ=1\/κ=2\/κ=3\/κ=4\/κ=5\/κ=6 by lia) with rfl|rfl|rfl|rfl|rfl|rfl|rfl <;> first|exact dz rfl|exact dh (by decide)
def wS{o:Int}:pr ups .ix [.lst [.str "kind",.str "odd",.str "big",.str "a"],.int<|o / 4800%4] S=.ok (.str<|if o / 4800%4=0 then "kind" else if o / 4800%4=1 then "odd" else if o / 4800%4=2 then "big" else "a") S:=by
 rcases m4 (c:=o / 4800) with h|h|h|h <;> rw[h] <;> rfl
def qg:pr ups .mul [.lst [.int<|10^29],.int 5] S=.ok (.lst zCf) S:=by rfl
def xD:pr ups .ne [.lst zCf,.lst zCf] S=.ok (.bl false) S:=by
 show(match same S 20 (.lst zCf) (.lst zCf) with|true=>Res.ok (.bl<|not true) S|false=>.stuck)=_;rw[show same S 20 (.lst zCf) (.lst zCf)=true from pI λy hy=>by rw[(List.mem_replicate.mp hy).2];exact fo];rfl
def yx(h:l.length<=4):(dn f K l).ds.length<=1000:=by
 have:=jC (f:=f) (l:=l) (j:=0);unfold dn;split
 ·show(opD f 0 l).length<=_;lia
 ·show(opD f 0 l++[f 39]).length<=_;rw[xAb];show _+1<=_;lia
def zGp:TSx Prop:=(sQ (sA 9<|Jx 73 (J1 .fdiv J2<|J9 19200)<|J5 .len<|J3 Jp J8)<|sQ (sA 10<|J1 .mul (J5 (.lst false)<|J1 .pow (J9 10)<|J9 29) Jy)<|sQ (sA 11<|Ju 60<|Jl Jk Y4 Y5)<|sQ (Ja (tOr' (tNt<|tB<|J5 (.isT "tuple") Y7)<|tOr' (tB<|J1 .ne Y7<|Ju 72<|Jz Jp Jv Y3 Y5)<|tB<|J1 .ne Y4<|J1 .mul (J5 (.lst false)<|J1 .pow (J9 10)<|J9 29) Jy)<|J6<|cC<|.bl false)<|J6<|cB<|Je (cF 60 (Y6 Jk Y4) [(.int<|1000)])<|Ju 72<|Jz Jp Jv Y3<|J9 1000)
def zE3{κ:Nat}{a3 a9 a10 a11:Option U}{o:Int}{lo:Bool}(hf:Fk f)(hl:Lk l)(h:l.length=zFd κ c)(hfw:900000<fw)(hw:∀w,tr=some w->zAu w=true/\w≠"")(hlo:lo=(decide (κ=2)&&!tr.isNone))(hk:∀S',k (.bl true) S'):zGp (Gd fw<|d+61) [a0,some<|.int o,a2,a3,a4,some<|prog f tr<|(zBa κ c).P f<|opP f 0 l,some<|dnU<|dn f (zBa κ c) l,some<|.str<|tr.getD "",some<|.bl lo,a9,a10,a11] S<|zAo x k:=by
 have ha:(zBa κ c).ar l.length:=by rw[h];exact m8
 have hdp:=zS (f:=f) (l:=l) (κ:=κ) (c:=c) tr.isNone;rw[<- hlo] at hdp;have run:∀{mo:Nat}{S:So}{x:Kx Prop}{k:Kv Prop},mo<=2000->(∀S',k (zB9 mo (dn f (zBa κ c) l).ds (dn f (zBa κ c) l).lg (prO tr<|dn f (zBa κ c) l)<|dnp f tr.isNone (zBa κ c) l) S')->(Gd fw<|d+61).call 60 [prog f tr<|(zBa κ c).P f<|opP f 0 l,.lst zCf,.int mo] S x k:=λhm hk=>qd hf vX.1 vX.2 (λw e=>(hw w e).1) hl ha hm hfw hk;have due:∀{mo:Nat}{S:So}{x:Kx Prop}{k:Kv Prop},k (zB9 mo (dn f (zBa κ c) l).ds (dn f (zBa κ c) l).lg (prO tr<|dn f (zBa κ c) l)<|dnp f tr.isNone (zBa κ c) l) S->(Gd fw<|d+61).call 72 [dnU<|dn f (zBa κ c) l,.str<|tr.getD "",.bl lo,.int mo] S x k:=λhk=>oC (λw e=>(hw w e).2) hdp hk;have hn:=yx (f:=f) (K:=zBa κ c)<|ar4 ha;generalize dnp f tr.isNone (zBa κ c) l=dp at run due;generalize prog f tr ((zBa κ c).P f<|opP f 0 l)=P at run⊢;generalize dn f (zBa κ c) l=D at run due hn⊢;refine pv (.int<|o / 19200)<|pv (.lst<|D.ds.map .int) ?_;refine pv (.int D.ds.length) ?_ (by show Res.ok (.int ((D.ds.map U.int).length:Nat)) S=_;rw[xAa]);refine uA hn λmo hm=>?_;refine pv (.int<|10^29)<|pv (.lst [.int<|10^29])<|pd qg ?_;refine run hm λS1=>?_;refine pv (.bl true) ?_ (by obtain⟨xs,e⟩:=pQ (mo:=mo) (D:=D) (out:=prO tr D) (dp:=dp);rw[e];rfl);refine bF ?_;refine due ?_;refine pd rX ?_;refine bF<|pv (.int<|10^29)<|pv (.lst [.int<|10^29])<|pd qg ?_;refine pd xD ?_;refine bF ?_;refine run (mo:=1000) (by decide) λS2=>?_;refine due (mo:=1000) ?_;refine pd rX ?_;exact hk S2
def pS{o:Int}(hfw:900000<fw)(hk:∀S',k (.bl true) S'):(Gd fw<|d+62).call 74 [.int c,.int o] S x k:=by
 refine cd ⟨2,12,t74⟩ ?_;refine pv (.lst [.str "math",.str "make",.str "call",.str "if",.str "match",.str "raise",.str "tell"])<|pv (.int<|c%7) ?_;obtain⟨κ,e,h7⟩:=wY (S:=S) (c:=c);refine pd e ?_;refine oi λf hf=>?_;refine pv (.int<|c / 7) ?_;refine rf (f:=f) λl S1 hn hl=>?_;refine pv (.int<|c / 7) ?_;refine uc hn ?_;generalize c / 7=c at hn⊢;refine vc hl (by rw[hn];exact m8) λS2=>?_;refine pd (tT h7) ?_;have go:∀{a0 a2 a3 a4 a9 a10 a11:Option U}{S:So}{lo:Bool},lo=(decide (κ=2)&&!(zD0 o).isNone)->zGp (Gd fw<|d+61) [a0,some<|.int o,a2,a3,a4,some<|prog f (zD0 o)<|(zBa κ c).P f<|opP f 0 l,some<|dnU<|dn f (zBa κ c) l,some<|.str<|(zD0 o).getD "",some<|.bl lo,a9,a10,a11] S (zAo x k):=λz=>zE3 hf hl hn hfw yP z hk;have sec:∀{a0 a4 a9 a10 a11:Option U}{S:So}{lo:Bool},lo=(decide (κ=2)&&decide (o / 2400%2=1))->(sQ (Ja (Je (J1 .mod (J1 .fdiv J2<|J9 2400) Jo) Jf)<|sQ (sA 7<|J3 (cP (.lst false)<|Jz (J4 "kind") (J4 "odd") (J4 "big")<|J4 "a")<|J1 .mod (J1 .fdiv J2<|J9 4800) Js)<|Jb<|sA 5<|cT<|aC (J4 "try")<|Y2 (J3 Jj<|J9 36) Jk Jv (J4 "x")<|Jw (J4 "name") (J3 Jj<|J9 35)<|J4 "x") zGp) (Gd fw<|d+61) [a0,some<|.int o,some<|.str<|kst κ,some<|.lst<|plc f,a4,some<|(zBa κ c).P f<|opP f 0 l,some<|dnU<|dn f (zBa κ c) l,some<|.str "",some<|.bl lo,a9,a10,a11] S (zAo x k):=by
  intro a0 a4 a9 a10 a11 S lo hlo;refine pv (.int<|o / 2400) (pv (.int<|o / 2400%2)<|pv (.bl<|decide<|o / 2400%2=1) ?_);by_cases h:o / 2400%2=1
  ·rw[xBd h];refine bT<|pv (.lst [.str "kind",.str "odd",.str "big",.str "a"])<|pv (.int<|o / 4800)<|pv (.int<|o / 4800%4)<|pd wS<|pv (.int<|f 36)<|pv (.int<|f 35) ?_;have e:zD0 o=some _:=xCg h;have:=go (a0:=a0) (a2:=some<|.str<|kst κ) (a3:=some<|.lst<|plc f) (a4:=a4) (a9:=a9) (a10:=a10) (a11:=a11) (S:=S) (lo:=lo) (by rw[hlo,xBd h,e];rfl);rw[e] at this;exact this
  ·rw[xCn h];refine bF ?_;have e:zD0 o=none:=xCf h;have:=go (a0:=a0) (a2:=some<|.str<|kst κ) (a3:=some<|.lst<|plc f) (a4:=a4) (a9:=a9) (a10:=a10) (a11:=a11) (S:=S) (lo:=lo) (by rw[hlo,xCn h,e];rfl);rw[e] at this;exact this
 by_cases h2:κ=2
 ·rw[xBd h2];refine bT<|pv (.int<|o / 2400)<|pv (.int<|o / 2400%2)<|pv (.bl<|decide<|o / 2400%2=1) ?_;exact sec (by rw[xBd h2,Bool.true_and])
 ·rw[xCn h2];refine bF ?_;exact sec (by rw[xCn h2,Bool.false_and])
theorem qW{E:Ee Prop}{ns:List Int}(hfw:900000<fw)(hk:∀σ S,E.nx σ S):∀{n j:Nat}{S:So}{a1:Option U},j+2*n<=ns.length+1->zB4 (zDg (j:Int) n) (λw σ1 S2 nx=>tgt [1] true (Gd fw<|d+62) w σ1 λσ2=>(Jb<|Ja (tNt<|tB<|Jx 74 (J3 J0 J2)<|Jx 61 J0<|J1 (.add false) J2 Jf)<|J6<|cC<|.bl false) (Gd fw<|d+62) σ2 S2<|lpE E nx) [some<|.kl<|ns.map .int,a1] S E.nx
 |0,j,S,a1,_=>hk _ _
 |n+1,j,S,a1,h=>by
  refine pd (my (v:=.int<|ns.getD j 0)<|by rw[xAw,xBz,xAk<|show j<ns.length by lia];rfl) ?_;refine pv (.int ((j+1:Nat):Int)) ?_;refine vp ?_;refine pS hfw λS1=>?_;refine bF ?_;exact qW hfw hk (n:=n) (j:=j+2) (by lia)
def wK{j:Int}(h:0<=j/\j<=1000):pr ups .rng3 [.int 0,.int j,.int 2] S=.ok (.tup<|zDg 0 ((j-0+1) / 2).toNat) S:=by
 delta pr;dsimp only;rw[xBd<|by lia]
def xK{ns:List Int}(hf:900000<fw):(Gd fw<|d+63).call 75 [.kl<|ns.map U.int] [] x λv _=>v=.bl true:=by
 refine cd ⟨1,2,t75⟩ ?_;refine pv (.int ns.length) ?_ (by rw[kh,xAa]);refine pv (.int<|if(60:Int)<ns.length then 60 else ns.length) ?_;obtain⟨m,e,h1,h2⟩:∃m:Nat,(if(60:Int)<ns.length then(60:Int) else ns.length)=m/\m<=ns.length/\m<=60:=by
  split
  ·exact⟨60,rfl,by lia,by lia⟩
  ·exact⟨ns.length,rfl,by lia,by lia⟩
 rw[e];refine pd (wK<|by lia) ?_;refine qW hf (λσ S=>?_) (n:=(((m:Int)-0+1) / 2).toNat) (j:=0) (by lia);rfl
def math:∀ns:List Int,ns.length<=63->(zAw ups tab 1000000<|80+1).call 75 [.kl<|ns.map U.int] [] (λ_ _=>False) (λv _=>v=.bl true):=λns _=>by
 have:=xK (fw:=1000000) (d:=18) (x:=λ_ _=>False) (ns:=ns) (by decide);rw[iO] at this;exact this
end
def walk{l:PySem.W.OpenLaw}{q:Program}{loose:List Str}{XP:(Str->Option Value)->Heap->Prop}{YP:World->Heap->Prop}{d:DefRec}{K:Params->xFr}(hn:l.most=some 63)(hdf:d.params.defaults=[])(hY:∀(w:World)(h:Heap),YP w h->(K w.params).In h)(F:∀(w:World)(mg:Str->Option Value)(fa:Addr)(h:Heap),(K w.params).In h->h.Ns mainGlobals mg->mg d.name=some (.ref fa) ->
   ∃fd:FuncData,(∀(s:Shared)(u:Value),BindsTo s fd ⟨[u],[]⟩ [("_law_script",u)])/\∀base:Heap,(K w.params).In base->base.Ns mainGlobals mg->zAv l.prog w (K w.params) mg base (CXo l.prog w) (2*(80+1)+1) fa fd ["_law_script"] (zDh (K w.params) 63)) :
  PySem.W.WalkO q loose XP YP l.row.toRowW d [] (λf vs=>PySem.call f vs):=
 L2.walk_of (n:=63) (k:=2*(80+1)+1) (x:="_law_script") (CX:=λw=>CXo l.prog w) (sp:=λw=>zDh (K w.params) 63) hn (by decide) hdf ⟨rfl,by decide,by decide,rfl⟩ hY F (λ_ _ a ns hl _ hS=>⟨a,ns,rfl,hl,hS,λ_=>rfl⟩) λ_ _ _ _ _ ⟨_,_,_,_,_,_,_,_,_,_,_,_,_,z⟩=>z
end K14
end
namespace PySem.W.Fast
noncomputable abbrev tw9550531327896299398:PySem.Program:=PySem.Challenge.pw_spacewright_k14_one_deed
theorem te9550531327896299398:PySem.Challenge.pw_spacewright_k14_one_deed=tw9550531327896299398:=rfl
theorem te13052408679150730464:True:=⟨⟩
theorem te2469009164876924479:True:=⟨⟩
theorem te16555476440528808052:True:=⟨⟩
theorem te4868988410673395695:True:=⟨⟩
theorem te5452508617037859911:True:=⟨⟩
end PySem.W.Fast
set_option maxHeartbeats 0 in
open PySem PySem.W PyProof.Rows in
theorem PySem.Challenge.cw_spacewright_k14_one_deed_holds : PySem.Challenge.rw_spacewright_k14_one_deed.Holds := by
  w_on;o_law;k_head;(case hw=>w_witness2);k_fill
  refine K14.walk (l := PySem.Challenge.rw_spacewright_k14_one_deed) rfl rfl (fun w h Y=>PySem.W.kIn_of Y) ?F;case F =>
    intro w mg fa h KX G hmg;refine' K14.all_mk KX G hmg (K14.csr ..) ?_ (K14.csr ..) ?_ (K14.csr ..) ?_ (K14.csr ..) ?_ (K14.csr ..) ?_ (K14.csr ..) ?_ (K14.csr ..) ?_ (K14.csr ..) ?_ ?_ ?_ ?_ ?_ ?_ ?_ ?_ ?_ ?_ (Fx.mdr ..) (Fx.mdr ..) (Fx.dnr ..) (Fx.dnr ..) (Fx.dnr ..) (Fx.dnr ..) (Fx.dnr ..) (Fx.dnr ..) (Fx.dnr ..) (Fx.dnr ..) (Fx.dnr ..) (Fx.dnr ..) (Fx.dnr ..) (Fx.dnr ..) (Fx.dnr ..) (Fx.dnr ..) (Fx.dnr ..) (Fx.mdr ..) (Fx.mdr ..) (Fx.mdr ..) (Fx.mdr ..) (Fx.dnr ..) (Fx.dnr ..) (Fx.dnr ..) (Fx.dnr ..) (Fx.mdd ?_ ?_ ?_ ?_ ?_ ?_ ?U26) (Fx.mdr ..) (Fx.mdr ..) (Fx.mdr ..) (Fx.mdr ..) (Fx.mdr ..) (Fx.mdr ..) (Fx.mdr ..) (Fx.dnr ..) (Fx.mdr ..) (Fx.mdr ..) (Fx.mdr ..) (Fx.dnr ..) (Fx.dnr ..) (Fx.dnr ..) (Fx.dnr ..) (Fx.dnr ..) (Fx.dnr ..) (Fx.dnr ..) (Fx.dnr ..) (Fx.dnr ..) (Fx.dnr ..) (Fx.dnr ..) (Fx.dnr ..) (Fx.dnr ..) (Fx.dnr ..) (Fx.dnr ..) (Fx.mdr ..) (Fx.mdr ..) (Fx.mdr ..) (Fx.mdr ..) (Fx.mdr ..) (Fx.mdr ..) (Fx.mdr ..) (Fx.dnd ?_ ?_ ?_ ?_ ?_ ?U60) (Fx.dnr ..) (Fx.dnr ..) (Fx.dnr ..) (Fx.dnr ..) (Fx.dnr ..) (Fx.dnr ..) (Fx.dnr ..) (Fx.dnr ..) (Fx.dnr ..) (Fx.dnr ..) (Fx.dnr ..) (Fx.dnr ..) (Fx.dnr ..) (Fx.dnr ..) (Fx.dnr ..) ?_ ?_ ?_ ?_ ?_ ?_ ⟨?_, ?_, ?_, ?_, ?_, ?_, ?_, ?_, ?_⟩ ?_ ?_ (K14.xdr ..) ?_ ?_ ?_ ?_ ?_ ?_ (K14.tup_is ?_ ?_ ?_) ?_ (K14.tup_is ?_ ?_ ?_) ?_ ?_ ?gkFORMS ?goFORMS ?_ ?_ (K14.tup_is ?_ ?_ ?_) ?_ (K14.tup_is ?_ ?_ ?_) ?_ (K14.tup_is ?_ ?_ ?_) ?_ (K14.tup_is ?_ ?_ ?_) ?_ (K14.tup_is ?_ ?_ ?_) ?_ (K14.tup_is ?_ ?_ ?_) ?_ (K14.tup_is ?_ ?_ ?_) ?_ (K14.tup_is ?_ ?_ ?_) ?_ (K14.tup_is ?_ ?_ ?_) ?_ (K14.tup_is ?_ ?_ ?_) ?_ (K14.tup_is ?_ ?_ ?_) ?_ (K14.tup_is ?_ ?_ ?_) ?_ (K14.tup_is ?_ ?_ ?_) ?_ (K14.tup_is ?_ ?_ ?_) ?_ (K14.tup_is ?_ ?_ ?_) ?_ ?_ ?gkSCOPES ?goSCOPES ?_ ?_ (K14.tup_is ?_ ?_ ?_) ?_ (K14.tup_is ?_ ?_ ?_) ?_ (K14.tup_is ?_ ?_ ?_) ?_ (K14.tup_is ?_ ?_ ?_) ?_ ?_ (K14.tup_is ?_ ?_ ?_) ?_ (K14.tup_is ?_ ?_ ?_) ?_ ?_ ?gkFINISHES ?goFINISHES ?_ ?_ ?_ ?_ ?_ ?_ ?_ ?_ ?_ ?_ ?_ ?_ ?_ ?_ ?_ ?_ ?_ ?_ ?_ ?_ ?_ ?_ ?_ ?_ ?_ ?_ ?_ K14.math;any_goals k_is
    (case U26=>rfl)
    (case U60=>rfl)
    (case gkFORMS=>exact ⟨⟨_,_,rfl,rfl⟩,⟨_,_,rfl,rfl⟩,⟨_,_,rfl,rfl⟩,⟨_,_,rfl,rfl⟩,⟨_,_,rfl,rfl⟩,⟨_,_,rfl,rfl⟩,⟨_,_,rfl,rfl⟩,⟨_,_,rfl,rfl⟩,⟨_,_,rfl,rfl⟩,⟨_,_,rfl,rfl⟩,⟨_,_,rfl,rfl⟩,⟨_,_,rfl,rfl⟩,⟨_,_,rfl,rfl⟩,⟨_,_,rfl,rfl⟩,⟨_,_,rfl,rfl⟩,True.intro⟩)
    (case goFORMS=>rfl)
    (case gkSCOPES=>exact ⟨⟨_,_,rfl,rfl⟩,⟨_,_,rfl,rfl⟩,⟨_,_,rfl,rfl⟩,⟨_,_,rfl,rfl⟩,True.intro⟩)
    (case goSCOPES=>rfl)
    (case gkFINISHES=>exact ⟨⟨_,_,rfl,rfl⟩,⟨_,_,rfl,rfl⟩,⟨_,_,rfl,rfl⟩,⟨_,_,rfl,rfl⟩,⟨_,_,rfl,rfl⟩,⟨_,_,rfl,rfl⟩,⟨_,_,rfl,rfl⟩,⟨_,_,rfl,rfl⟩,⟨_,_,rfl,rfl⟩,⟨_,_,rfl,rfl⟩,⟨_,_,rfl,rfl⟩,⟨_,_,rfl,rfl⟩,⟨_,_,rfl,rfl⟩,True.intro⟩)
    (case goFINISHES=>rfl)
    all_goals first | kernel_rfl | decide | (repeat' first | exact .nil | refine .cons ⟨_, rfl⟩ ?_)
