import PyProof.Rows.All
import Wide.All
import OpenK.AllK
import Wide.FinOn
import PyProof.EqAt
import PyProof.EqKinds
import PyProof.NeKinds
import PyProof.TupleCall
import PyProof.SetKind
import PyProof.DictKinds
import PyProof.MeetsSeq2
import PyProof.SetRoads
import PyProof.SetNew
import PyProof.Rows.SetFrom
import KE.KDictList
import PyProof.Rows.SortWalk
import KE.KDictSum
import PyProof.EnumFor
import PyProof.EnumStmt
import PyProof.EnumMake
import KE.KRevIter
import PyProof.Draws
import PyProof.CollectIter
import PyProof.TupleOfGen
import PyProof.TupleOps
import KE.KEqDict
import PyProof.WalkInts
import PyProof.PureStr
import PyProof.Rows.StrJoin2
import PyProof.StrCalls2
import PyProof.ConsumeWalk
import KE.KIntText
import PyProof.DictUpdate
import PyProof.FString
import PyProof.StrOps2
import PyProof.SliceStr2
import PyProof.StrBlockI
import PyProof.StrWalks
import OpenK.KTop
import PyProof.ZipIter
import PyProof.StrLawsTight
import PyProof.StrLawsRepr
import KE.KSortTup
import PySem.Challenge.RW_spacewright_k32_boxes_stand_for_names
set_option tactic.hygienic false
set_option compiler.extract_closed false
set_option genInjectivity false
set_option genSizeOf false
set_option bootstrap.genMatcherCode false
set_option Elab.async false
set_option linter.all false
set_option maxRecDepth 100000
set_option maxHeartbeats 4000000
local macro_rules|`(())=>`(by lia)
local macro_rules|`(∅)=>`(by decide)
local macro_rules|`(⋯)=>`(by simp)
def zzP:Nat->Lean.Term->Lean.MacroM (Lean.TSyntax `rcasesPat)
 |0,_=>Lean.Macro.throwUnsupported
 |n+1,t=>do
  match t with
  |`(⟨$xs,*⟩)=>
   let ys<-xs.getElems.mapM (zzP n)
   `(rcasesPat|⟨$[$ys:rcasesPat],*⟩)
  |`(_)=>`(rcasesPat|_)
  |`($x:ident)=>`(rcasesPat|$x:ident)
  |_=>Lean.Macro.throwUnsupported
local macro_rules|`(tactic|let ⟨$xs,*⟩:=$e)=>do
 let p<-zzP 9 (<-`(⟨$xs,*⟩))
 `(tactic|obtain $p:rcasesPat:=$e)
noncomputable section
abbrev B4.{u}:Type u->Type u:=List
abbrev B5.{u}:Type u->Type u:=Option
abbrev B6:=PySem.Value
abbrev B7:=PySem.Shared
abbrev B8:=PySem.Expr
abbrev B9:=PySem.Addr
abbrev B':=Bool
abbrev C0:=B4 PySem.Str
abbrev C4:=B4 Nat
abbrev C5:=B4 Int
abbrev C7:=B4 B6
local macro_rules|`(tactic|erw[$f $xs*])=>`(tactic|refine $f $xs* ?_)|`(tactic|erw[$e:term])=>`(tactic|refine $e ?_)|`(tactic|erw[<-$e:term])=>`(tactic|refine $e)|`(tactic|erw[$r,$rs,*])=>`(tactic|(erw[$r];erw[$rs,*]))
abbrev xFr:=PySem.W.Frag
def xAa:type_of%@List.length_map:=@List.length_map
def xAb:type_of%@List.length_append:=@List.length_append
def xAc:type_of%@List.mem_of_getElem?:=@List.mem_of_getElem?
def xAd:type_of%@PySem.wpAny_bind:=@PySem.wpAny_bind
def xAe:type_of%@PySem.wpAny_pure:=@PySem.wpAny_pure
def xAf:type_of%@PySem.Heap.get?_push_of_some:=@PySem.Heap.get?_push_of_some
def xAg:type_of%@Nat.le_refl:=@Nat.le_refl
def xAh:type_of%@Array.length_toList:=@Array.length_toList
def xAi:type_of%@List.map_append:=@List.map_append
def xAj:type_of%@List.mem_append:=@List.mem_append
def xAk:type_of%@List.getElem?_eq_getElem:=@List.getElem?_eq_getElem
def xAl:type_of%@PySem.Heap.get?_push_size:=@PySem.Heap.get?_push_size
def xAm:type_of%@List.mem_singleton:=@List.mem_singleton
def xAo:type_of%@List.length_cons:=@List.length_cons
def xAp:type_of%@List.size_toArray:=@List.size_toArray
def xAq:type_of%@List.getElem?_eq_some_iff:=@List.getElem?_eq_some_iff
def xAr:type_of%@List.mem_cons_self:=@List.mem_cons_self
def xAs:type_of%@List.mem_cons_of_mem:=@List.mem_cons_of_mem
def xAt:type_of%@List.length_singleton:=@List.length_singleton
def xAv:type_of%@List.mem_cons:=@List.mem_cons
def xAw:type_of%@List.getElem?_map:=@List.getElem?_map
def xAx:type_of%@List.append_assoc:=@List.append_assoc
def xAy:type_of%@Bool.false_ne_true:=@Bool.false_ne_true
def xAz:type_of%@Bool.false_eq_true:=@Bool.false_eq_true
def xA0:type_of%@Nat.ne_of_lt:=@Nat.ne_of_lt
def xA1:type_of%@PySem.Heap.lt_size:=@PySem.Heap.lt_size
def xA2:type_of%@List.mem_map:=@List.mem_map
def xBa:type_of%@Int.emod_nonneg:=@Int.emod_nonneg
def xBb:type_of%@Int.emod_lt_of_pos:=@Int.emod_lt_of_pos
def xBc:type_of%@Nat.lt_of_lt_of_le:=@Nat.lt_of_lt_of_le
def xBd:type_of%@decide_eq_true:=@decide_eq_true
def xBe:type_of%@of_decide_eq_true:=@of_decide_eq_true
def xBl:type_of%@PySem.wpAny_newObj_type:=@PySem.wpAny_newObj_type
def xBn:type_of%@Nat.zero_le:=@Nat.zero_le
def xBq:type_of%@List.nodup_append:=@List.nodup_append
def xBs:type_of%@List.map_cons:=@List.map_cons
def xBt:type_of%@List.mem_append_right:=@List.mem_append_right
def xBu:type_of%@Int.le_refl:=@Int.le_refl
def xBv:type_of%@List.not_mem_nil:=@List.not_mem_nil
def xBw:type_of%@List.mem_append_left:=@List.mem_append_left
def xBz:type_of%@List.getD_eq_getElem?_getD:=@List.getD_eq_getElem?_getD
def xB0:type_of%@List.append_nil:=@List.append_nil
def xB3:type_of%@Option.some.inj:=@Option.some.inj
def xCb:type_of%@List.nodup_cons:=@List.nodup_cons
def xCf:type_of%@if_neg:=@if_neg
def xCg:type_of%@if_pos:=@if_pos
def xCh:type_of%@Bool.and_eq_true:=@Bool.and_eq_true
def xCi:type_of%@Option.bind_eq_some_iff:=@Option.bind_eq_some_iff
def xCj:type_of%@List.all_cons:=@List.all_cons
def xCk:type_of%@Nat.le_trans:=@Nat.le_trans
def xCl:type_of%@List.getElem?_append_right:=@List.getElem?_append_right
def xCn:type_of%@decide_eq_false:=@decide_eq_false
def xCo:type_of%@Nat.le_of_ble_eq_true:=@Nat.le_of_ble_eq_true
def xCu:type_of%@List.length_replicate:=@List.length_replicate
def xCx:type_of%@List.all_eq_true:=@List.all_eq_true
def xCy:type_of%@List.any_eq_true:=@List.any_eq_true
def xC3:type_of%@Int.toNat_natCast:=@Int.toNat_natCast
def xC6:type_of%@List.nil_append:=@List.nil_append
def xC7:type_of%@List.nodup_nil:=@List.nodup_nil
def xDa:type_of%@PySem.wpAny_field:=@PySem.wpAny_field
def xDc:type_of%@PySem.wpAny_holding:=@PySem.wpAny_holding
def xDk:type_of%@Nat.ble_eq_true_of_le:=@Nat.ble_eq_true_of_le
namespace L2
open PySem PySem.Spec PyProof.Rows
variable{H:Hp}{h base:Heap}{g':Array GenState}{t' i j k n:Nat}{d':Drawn}{ch fp:B4 B9}{it dx C:B9}{N ps:C0}{M:Model}{A:Around}{X:Cx}{s:B7}{pos:Pos}{Z:B4<|B9×Obj}{Q:B6->B7->Prop}{y:V}{K:xFr}{es:B4 B8}{tg:B8}{te:TE}{g:Int->Int->Int}{op op':CmpOp}{r':R2}{kw:B4<|Str×B6}{mg:Str->B5 B6}{CX:CXT}{fd:FuncData}{sp:Sp}{outer:B4 Env}{vs:B4 V}{qual:Str}{scope:Scope}
noncomputable abbrev Key:=Sum Int Str
noncomputable def zCd:Key->B6->B'
 |.inl k,v=>Value.isInt k v
 |.inr x,v=>Value.isStrOf x v
noncomputable def zJ1(w:World):Key->Int
 |.inl k=>hashInt k
 |.inr x=>hashStr w x
theorem cG:∀{k:Key}{v:B6},zCd k v=true->(∃i t,k=Sum.inl i/\v=Value.int i t)\/(∃x t,k=Sum.inr x/\v=Value.str x t)
 |.inl i,v,h=>by
  let⟨t,e⟩:=Value.isInt_shape (k:=i) (v:=v) h;exact .inl ⟨i,t,rfl,e⟩
 |.inr x,v,h=>by
  let⟨t,e⟩:=Value.isStrOf_shape (x:=x) (v:=v) h;exact .inr ⟨x,t,rfl,e⟩
def oy(i:Int)(t:Tok):zCd (.inl i) (.int i t)=true:=by simp[zCd,Value.isInt]
def ox(x:Str)(t:Tok):zCd (.inr x) (.str x t)=true:=by simp[zCd,Value.isStrOf]
def xO(a b:Int):decide ((Sum.inl a:Key)=Sum.inl b)=(a==b):=by
 by_cases e:a=b
 .subst e;simp
 .have h:¬ (Sum.inl a:Key)=Sum.inl b:=λq=>e<|Sum.inl.inj q;rw[xCn h];exact(beq_eq_false_iff_ne.mpr e).symm
def xL(a b:Str):decide ((Sum.inr a:Key)=Sum.inr b)=decide (a=b):=by
 by_cases e:a=b
 .subst e;simp
 .have h:¬ (Sum.inr a:Key)=Sum.inr b:=λq=>e<|Sum.inr.inj q;rw[xCn h,xCn e]
def xN(a:Int)(b:Str):decide ((Sum.inl a:Key)=Sum.inr b)=false:=xCn λq=>nomatch q
def xM(a:Str)(b:Int):decide ((Sum.inr a:Key)=Sum.inl b)=false:=xCn λq=>nomatch q
def zAk(prog:Program)(w:World):PySem.KeyKind prog w Key where
 is:=zCd
 hash:=zJ1 w
 inj:=λv a b ha hb=>by
  rcases cG ha with ⟨i,t,rfl,rfl⟩|⟨x,t,rfl,rfl⟩
  .rcases cG hb with ⟨j,u,rfl,e⟩|⟨y,u,rfl,e⟩
   .injection e with e1 _;rw[e1]
   .exact nomatch e
  .rcases cG hb with ⟨j,u,rfl,e⟩|⟨y,u,rfl,e⟩
   .exact nomatch e
   .injection e with e1 _;rw[e1]
 byValue:=λk v h=>by
  rcases cG h with ⟨i,t,rfl,rfl⟩|⟨x,t,rfl,rfl⟩ <;> rfl
 pyHash:=λhv h=>by
  rcases cG hv with ⟨i,t,rfl,rfl⟩|⟨x,t,rfl,rfl⟩
  .exact wpAny_pyHash_int h
  .exact wpAny_pyHash_str h
 eqBool:=λhu hv h=>by
  rcases cG hu with ⟨i,t,rfl,rfl⟩|⟨x,t,rfl,rfl⟩
  .rcases cG hv with ⟨j,u,rfl,rfl⟩|⟨y,u,rfl,rfl⟩
   .rw[xO] at h;exact wpAny_eqBool_int h
   .rw[xN] at h;exact SeqAt.EqAt.int_str i t y u _ _ _ _ h
  .rcases cG hv with ⟨j,u,rfl,rfl⟩|⟨y,u,rfl,rfl⟩
   .rw[xM] at h;exact SeqAt.EqAt.str_int x t j u _ _ _ _ h
   .rw[xL] at h;exact wpAny_eqBool_str h
 «strs»:=λk x t v h=>by
  rcases cG h with ⟨i,u,rfl,e⟩|⟨y,u,rfl,e⟩
  .exact nomatch e
  .injection e with e1 _;subst e1;cases v <;> rfl
def jR(prog:Program)(w:World)(i:Int)(t:Tok):(zAk prog w).is (.inl i) (.int i t)=true:=oy i t
def jQ(prog:Program)(w:World)(x:Str)(t:Tok):(zAk prog w).is (.inr x) (.str x t)=true:=ox x t
set_option genInjectivity true in
inductive V where
 |non|bl (b:Bool)|int (i:Int)|str (x:Str)|byt (b:Array UInt8)|flt (b:UInt64)|ref (a:Addr)|ty (n:String)
 deriving DecidableEq
abbrev C6:=B4 V
def zAi:V->B6->Prop
 |.non,u=>u=Value.none
 |.bl b,u=>u=Value.bool b
 |.int i,u=>∃t,u=Value.int i t
 |.str x,u=>∃t,u=Value.str x t
 |.byt b,u=>∃t,u=Value.bytes b t
 |.flt b,u=>∃t,u=Value.float b t
 |.ref a,u=>u=Value.ref a
 |.ty n,u=>u=Value.type n
noncomputable abbrev zAh:C6->C7->Prop:=Paired zAi
theorem zAh.length{xs:C6}{us:C7}(r:zAh xs us):xs.length=us.length:=Paired.length r
theorem zAh.get:∀{xs:C6}{us:C7}{i:Nat}{x:V},zAh xs us->xs[i]?=some x->∃u,us[i]?=some u/\zAi x u
 |_,_,_,_,.nil,e=>by simp at e
 |_,_,0,_,.cons r _,e=>by simp at e;subst e;exact⟨_,rfl,r⟩
 |_,_,i+1,x,.cons _ t,e=>by
  let⟨u,h1,h2⟩:=zAh.get (i:=i) (x:=x) t (by simpa using e);exact⟨u,by simpa using h1,h2⟩
theorem zAh.set{x:V}{u:B6}(r:zAi x u):∀{xs:C6}{us:C7}(i:Nat),zAh xs us->zAh (xs.set i x) (us.set i u)
 |_,_,_,.nil=>.nil
 |_,_,0,.cons _ t=>.cons r t
 |_,_,i+1,.cons q t=>.cons q<|zAh.set r i t
theorem zAh.append:∀{xs ys:C6}{us ws:C7},zAh xs us->zAh ys ws->zAh (xs++ys) (us++ws)
 |_,_,_,_,.nil,s=>s
 |_,_,_,_,.cons r t,s=>.cons r<|zAh.append t s
theorem zAh.take:∀{xs:C6}{us:C7}(n:Nat),zAh xs us->zAh (xs.take n) (us.take n)
 |_,_,0,_=>.nil
 |_,_,_+1,.nil=>.nil
 |_,_,n+1,.cons r t=>.cons r<|zAh.take n t
theorem zAh.drop:∀{xs:C6}{us:C7}(n:Nat),zAh xs us->zAh (xs.drop n) (us.drop n)
 |_,_,0,r=>r
 |_,_,_+1,.nil=>.nil
 |_,_,n+1,.cons _ t=>zAh.drop n t
def zB9:B5 V->B5 B6->Prop
 |some v,some u=>zAi v u
 |none,none=>True
 |_,_=>False
def KV{κ:Type}:B4 (κ×V)->B4 (κ×B6)->Prop:=Paired λ(p:κ×V) (q:κ×B6)=>p.1=q.1/\zAi p.2 q.2
noncomputable def kV:Key->V
 |.inl i=>.int i
 |.inr x=>.str x
inductive HO where
 
 |lst (xs:List V)
 
 |tup (xs:List V)
 
 |dK (kvs:List (Key×V))|dT (kvs:List (List Key×V))
 
 |set (S:Int->Bool) (n:Nat)
 
 |ins (C dx:Addr) (fs:List (Str×V))
 
 |own (x:Addr)
 
 |xd (fs:List (Str×V))
 
 |met (f x:Addr)
 
 |rng (lo hi:Int)
 
 |frz (o:Obj) (u:HO)
 
 |tbl (ps:Array Value)
 
 |ext (φ:Heap->Prop)
noncomputable abbrev Hp:=B9->B5 HO
def upd(H:Hp)(a:B9)(o:HO):Hp:=λb=>if b=a then some o else H b
def ce{a:B9}{o:HO}:upd H a o a=some o:=by unfold upd;rw[xCg rfl]
def b9{a b:B9}{o:HO}(h:b≠a):upd H a o b=H b:=by unfold upd;rw[xCf h]
def Ad{a b:B9}{o u:HO}(h:H a=some o)(h':H b=some u)(d:o≠u):a≠b:=by
 intro e;subst e;rw[h] at h';exact d (xB3 h')
def cH{a b:B9}{o:HO}(h:H a=some o)(h':H b=none):a≠b:=by
 intro e;subst e;rw[h] at h';cases h'
section
variable(P:Program)(w:World)
def zAf(H:Hp)(h:Heap)(a:B9):HO->Prop
 |.lst xs=>xs.length<=sizeLine/\∃(its:C7) (n:Nat),zAh xs its/\h.get? a=some {cls:=.type "list",data:=.seq its.toArray n}
 |.tup xs=>xs.length<=sizeLine/\∃its:C7,zAh xs its/\IsTup h a its.toArray
 |.dK kvs=>kvs.length<=sizeLine/\(a==sysModules)=false/\∃vs,KV kvs vs/\h.DictOf (zAk P w) a vs
 |.dT kvs=>kvs.length<=sizeLine/\(a==sysModules)=false/\∃xs:B4<|B4 Key×B9×B6,
   Paired (λ(p:B4 Key×V) (q:B4 Key×B9×B6)=>p.1=q.1/\H q.2.1=some (.tup<|p.1.map kV)/\zAi p.2 q.2.2) kvs xs /\
   ∃o es ep,h.get? a=some o/\o.ExactDict/\o.data=.dict es ep/\es.toList=xs.map (entryOfKey<|tupleKind<|zAk P w)/\(xs.map (·.1)).Nodup
 |.set S n=>h.SetOf (intKind P w) a S n
 |.ins C dx fs=>H dx=some (.own a)/\fs.length<=1000/\dx≠a/\h.get? a=some (W.instObj C dx) /\
   ∃mA,h.Ns1 dx mA/\(∀f,zB9 (fs.lookup f)<|mA f)/\PySem.Within mA (fs.map (·.1))
 |.own _=>∃o,h.get? a=some o
 |.xd fs=>∃mA,h.Ns1 a mA/\∀f,zB9 (fs.lookup f)<|mA f
 |.rng lo hi=>∃t u v,h.get? a=some {cls:=.type "range",data:=.fields #[.int lo t,.int hi u,.int 1 v]}
 |.frz o u=>h.get? a=some o/\zAf H h a u
 |.tbl ps=>h.get? a=some {cls:=.none,data:=.fields ps}
 |.met f x=>h.get? a=some (W.methodObj (.ref f)<|.ref x)
 |.ext φ=>φ h/\(∃o,h.get? a=some o)/\∀h1 h2:Heap,φ h1->(∀o,h1.get? a=some o->h2.get? a=some o)->φ h2
def HOk(H:Hp)(h:Heap):Prop:=∀a o,H a=some o->zAf P w H h a o
end
section
variable{P:Program}{w:World}{H H':Hp}{h h':Heap}{a:B9}{o:HO}
theorem zAf.lt(x:zAf P w H h a o):a<h.objs.size:=by
 cases o with
 |lst xs=>let⟨_,_,_,_,e⟩:=x;exact xA1 e
 |tup xs=>let⟨_,_,_,p⟩:=x;exact p.lt
 |dK kvs=>let⟨_,_,_,_,o,_,_,e,_⟩:=x;exact xA1 e
 |dT kvs=>let⟨_,_,_,_,o,_,_,e,_⟩:=x;exact xA1 e
 |set S n=>let⟨o,_,_,_,e,_⟩:=x;exact xA1 e
 |ins C dx fs=>let⟨_,_,_,e,_⟩:=x;exact xA1 e
 |own y=>let⟨_,e⟩:=x;exact xA1 e
 |xd fs=>let⟨_,⟨_,_,_,e,_⟩,_⟩:=x;exact xA1 e
 |rng lo hi=>let⟨_,_,_,e⟩:=x;exact xA1 e
 |frz ob u=>let⟨e,_⟩:=x;exact xA1 e
 |tbl ps=>exact xA1 (show h.get? a=some _ from x)
 |met f y=>exact xA1 (show h.get? a=some _ from x)
 |ext φ=>let⟨_,⟨_,e⟩,_⟩:=x;exact xA1 e
theorem Paired.mapP{J β:Type}{F G:J->β->Prop}:∀{l₁:B4 J}{l₂:B4 β},Paired F l₁ l₂->(∀a b,F a b->G a b)->Paired G l₁ l₂
 |_,_,.nil,_=>.nil
 |_,_,.cons r t,f=>.cons (f _ _ r)<|Paired.mapP t f
theorem zAf.stay(x:zAf P w H h a o)(k:∀b u,(b=a\/H b=some (.own a))->h.get? b=some u->h'.get? b=some u)(ho:∀b,H b=some (.own a)->H' b=some (.own a))(ht:∀b xs,H b=some (.tup xs)->H' b=some (.tup xs)):zAf P w H' h' a o:=by
 induction o with
 |lst xs=>let⟨z,its,n,r,e⟩:=x;exact⟨z,its,n,r,k _ _ (.inl rfl) e⟩
 |tup xs=>let⟨z,its,r,ob,e,c⟩:=x;exact⟨z,its,r,ob,k _ _ (.inl rfl) e,c⟩
 |dK kvs=>let⟨z,y,vs,r,ob,es,ep,e,c⟩:=x;exact⟨z,y,vs,r,ob,es,ep,k _ _ (.inl rfl) e,c⟩
 |dT kvs=>
  let⟨z,y,xs,r,ob,es,ep,e,c⟩:=x;exact⟨z,y,xs,Paired.mapP r λp q z=>⟨z.1,ht _ _ z.2.1,z.2.2⟩,ob,es,ep,k _ _ (.inl rfl) e,c⟩
 |set S n=>let⟨ob,es,ep,t,e,c⟩:=x;exact⟨ob,es,ep,t,k _ _ (.inl rfl) e,c⟩
 |ins C dx fs=>
  let⟨d,z,ne,e,mA,⟨od,es,ep,e2,c⟩,r⟩:=x;exact⟨ho _ d,z,ne,k _ _ (.inl rfl) e,mA,⟨od,es,ep,k _ _ (.inr d) e2,c⟩,r⟩
 |own y=>let⟨ob,e⟩:=x;exact⟨ob,k _ _ (.inl rfl) e⟩
 |xd fs=>let⟨mA,⟨od,es,ep,e,c⟩,r⟩:=x;exact⟨mA,⟨od,es,ep,k _ _ (.inl rfl) e,c⟩,r⟩
 |rng lo hi=>let⟨t,u,v,e⟩:=x;exact⟨t,u,v,k _ _ (.inl rfl) e⟩
 |frz ob u ih=>let⟨e,q⟩:=x;exact⟨k _ _ (.inl rfl) e,ih q⟩
 |tbl ps=>
  have e:h.get? a=some {cls:=.none,data:=.fields ps}:=x;show h'.get? a=some {cls:=.none,data:=.fields ps};exact k a _ (.inl rfl) e
 |met f y=>
  have e:h.get? a=some (W.methodObj (.ref f)<|.ref y):=x;show h'.get? a=some (W.methodObj (.ref f)<|.ref y);exact k a _ (.inl rfl) e
 |ext φ=>let⟨p,⟨o,e⟩,st⟩:=x;exact⟨st _ _ p λo q=>k _ _ (.inl rfl) q,⟨o,k _ _ (.inl rfl) e⟩,st⟩
theorem HOk.lt(x:HOk P w H h)(e:H a=some o):a<h.objs.size:=(x a o e).lt
theorem HOk.fresh(x:HOk P w H h)(e:h.objs.size<=a):H a=none:=by
 cases q:H a with
 |none=>rfl
 |some u=>exact absurd (xBc (x.lt q) e) (Nat.lt_irrefl _)
def HOk.kept(x:HOk P w H h)(k:∀b u,h.get? b=some u->h'.get? b=some u):HOk P w H h':=λa o e=>
 (x a o e).stay (λb u _ q=>k b u q) (λ_ q=>q) λ_ _ q=>q
def HOk.laid(x:HOk P w H h)(k:∀b u,h.get? b=some u->h'.get? b=some u)(hp:h.objs.size<=a)(new:zAf P w (upd H a o) h' a o):HOk P w (upd H a o) h':=λb u e=>by
 have hn:=x.fresh hp;by_cases hb:b=a
 .subst hb;rw[ce] at e;cases e;exact new
 .rw[b9 hb] at e;exact(x b u e).stay (λc v _ q=>k c v q) (λc q=>by rw[b9<|cH q hn];exact q) λc xs q=>by rw[b9<|cH q hn];exact q
end
def Rd(H:Hp)(a:B9)(u:HO):Prop:=H a=some u\/∃o,H a=some (.frz o u)
def Rd.ok{P:Program}{w:World}{a:B9}{u:HO}(r:Rd H a u)(x:HOk P w H h):zAf P w H h a u:=by
 rcases r with r|⟨o,r⟩
 .exact x a u r
 .let⟨_,q⟩:=x a _ r;exact q
def Mut:B5 HO->Prop
 |some (.lst _)=>True
 |some (.dK _)=>True
 |some (.dT _)=>True
 |some (.set _ _)=>True
 |some (.ins _ _ _)=>True
 |some (.ext _)=>True
 |_=>False
section
variable{P:Program}{w:World}{H:Hp}{h h':Heap}{x e:B9}{o':HO}
def HOk.write(ok:HOk P w H h)(mu:Mut<|H x)(he:e=x\/H e=some (.own x))(k:∀b u,b≠e->h.get? b=some u->h'.get? b=some u)(heo:∃u,h'.get? e=some u)(new:zAf P w (upd H x o') h' x o'):HOk P w (upd H x o') h':=λb u q=>by
 have nown:∀c y,H c=some (.own y)->c≠x:=λc y r z=>by subst z;rw[r] at mu;exact mu
 have ntup:∀c xs,H c=some (.tup xs)->c≠x:=λc xs r z=>by subst z;rw[r] at mu;exact mu
 by_cases hb:b=x
 .subst hb;rw[ce] at q;cases q;exact new
 .rw[b9 hb] at q;by_cases hbe:b=e
  .have q':H b=some (.own x):=by
    rcases he with z|z
    .exact absurd (hbe.trans z) hb
    .rw[hbe];exact z
   rw[q] at q';cases q';let⟨v,hv⟩:=heo;exact⟨v,by rw[hbe];exact hv⟩
  .refine(ok b u q).stay (λc v hc r=>k c v ?_ r) (λc r=>by rw[b9<|nown c b r];exact r) λc xs r=>by rw[b9<|ntup c xs r];exact r
   rcases hc with rfl|hc
   .exact hbe
   .rintro rfl
    rcases he with z|z
    .exact nown c b hc z
    .rw[hc] at z;cases z;exact hb rfl
end
structure Un(fs ex:B4 B9)(H H':Hp)(h h':Heap):Prop where
 keep:∀b o,h.get? b=some o->H b=none->b∉fs->b∉ex->h'.get? b=some o
 slot:∀b o,h.get? b=some o->H b=none->b∈fs->b∉ex->∃sl,h'.get? b=some {o with slots:=sl}
 free:∀b o,h.get? b=some o->H b=none->b∉ex->H' b=none
 there:∀b o,h.get? b=some o->b∉ex->∃o',h'.get? b=some o'
 tups:∀b xs,H b=some (.tup xs)->H' b=some (.tup xs)
 frzs:∀b o u,H b=some (.frz o u)->H' b=some (.frz o u)
 tbls:∀b ps,H b=some (.tbl ps)->∃more,H' b=some (.tbl (ps++more))
section
variable{fs fs' ex ex':B4 B9}{H H1 H2:Hp}{h h1 h2 h':Heap}{a x e:B9}{o:HO}
def Un.any(u:Un fs ex H H1 h h1){b:B9}{ob:Obj}(q:h.get? b=some ob)(n:H b=none)(hx:b∉ex):∃sl,h1.get? b=some {ob with slots:=sl}:=by
 by_cases hb:b∈fs
 .exact u.slot b ob q n hb hx
 .exact⟨ob.slots,u.keep b ob q n hb hx⟩
def Un.kept(k:∀b u,h.get? b=some u->h'.get? b=some u):Un fs ex H H h h':=
 ⟨λb ob q _ _ _=>k b ob q,λb ob q _ _ _=>⟨ob.slots,k b ob q⟩,λ_ _ _ n _=>n,λb ob q _=>⟨ob,k b ob q⟩,λ_ _ q=>q,λ_ _ _ q=>q,λ_ ps q=>⟨#[],by rw[q];simp⟩⟩
def Un.refl:Un fs ex H H h h:=Un.kept λ_ _ q=>q
def Un.laid(k:∀b u,h.get? b=some u->h'.get? b=some u)(hp:h.objs.size<=a)(hn:H a=none):Un fs ex H (upd H a o) h h' where
 keep:=λb u q _ _ _=>k b u q
 slot:=λb u q _ _ _=>⟨u.slots,k b u q⟩
 free:=λb u q n _=>by rw[b9<|xA0<|xBc (xA1 q) hp];exact n
 there:=λb u q _=>⟨u,k b u q⟩
 tups:=λb xs q=>by rw[b9<|cH q hn];exact q
 frzs:=λb u xs q=>by rw[b9<|cH q hn];exact q
 tbls:=λb ps q=>⟨#[],by rw[b9<|cH q hn,q];simp⟩
def Un.write(mu:Mut<|H x)(he:e=x\/H e=some (.own x))(k:∀b u,b≠e->h.get? b=some u->h'.get? b=some u)(heo:∃u,h'.get? e=some u):Un fs ex H (upd H x o) h h':=by
 have hx:∀b,H b=none->b≠x:=λb n z=>by subst z;rw[n] at mu;exact mu
 have hb:∀b,H b=none->b≠e:=λb n z=>by
  subst z;rcases he with r|r
  .exact hx b n r
  .rw[n] at r;cases r
 have hm:∀b u,H b=some u->¬ Mut (some u)->b≠x:=λb u q nm z=>by subst z;rw[q] at mu;exact nm mu
 refine⟨λb u q n _ _=>k b u (hb b n) q,λb u q n _ _=>⟨u.slots,k b u (hb b n) q⟩,λb u q n _=>by rw[b9<|hx b n];exact n,λb u q _=>?_,
  λb xs q=>by rw[b9<|hm b _ q λz=>z];exact q,λb u xs q=>by rw[b9<|hm b _ q λz=>z];exact q,λb ps q=>⟨#[],by rw[b9<|hm b _ q λz=>z,q];simp⟩⟩
 by_cases hbe:b=e
 .subst hbe;exact heo
 .exact⟨u,k b u hbe q⟩
end
noncomputable def trk(h:Heap)(H:Hp):B4 B9:=(List.range h.objs.size).filter λa=>(H a).isSome
def zDj(h:Heap)(H:Hp):Heap:=W.hideAll h<|trk h H
def oB(h:Heap)(H:Hp):(zDj h H).objs.size=h.objs.size:=W.hideAll_size _ _
def qZ{b:B9}{o:Obj}(e:h.get? b=some o)(n:H b=none):(zDj h H).get? b=some o:=
 W.hideAll_get _ e λhm=>by
  have q:(H b).isSome=true:=(List.mem_filter.mp hm).2;rw[n] at q;simp at q
theorem uj{b:B9}{o:Obj}(e:(zDj h H).get? b=some o):h.get? b=some o/\H b=none:=by
 have e':h.get? b=some o:=W.of_hideAll (trk h H) e;refine⟨e',?_⟩;cases q:H b with
 |none=>rfl
 |some x=>
  have hm:b∈trk h H:=List.mem_filter.mpr ⟨List.mem_range.mpr<|xA1 e',by simp[q]⟩;have z:(zDj h H).get? b=none:=W.hideAll_none (trk h H) hm;rw[z] at e;cases e
structure Mod(K:xFr)(mg:Str->B5 B6)(base:Heap):Prop where
 kin:K.In base
 glob:base.Ns mainGlobals mg
 blt:∃mb,base.Ns builtinsNs mb/\∀x:Str,x≠"__name__"->mb x=bootBuiltins x
 nolimit:base.NoLimit
structure Cx where
 prog:Program
 w:World
 K:xFr
 mg:Str->B5 B6
 base:Heap
 A:Around
 N:C0
 s₀:B7
 H₀:Hp
 env:Env
 outer:B4 Env
 stack:B4 Env
 ex:B4 B9
 fn:Str->B'
 calm:B'
 pn:B4 (B9×Obj)
 xe:B6->B7->Prop
noncomputable def frs(l:B4 Env):B4 B9:=l.filterMap (·.frame)
noncomputable abbrev Cx.fs(X:Cx):B4 B9:=frs X.outer
def Vis(sc:Scope)(x:Str):Prop:=sc.names.lookup x=some .local\/sc.names.lookup x=some .cell\/sc.names.lookup x=some .free
def Loc(sc:Scope)(x:Str):Prop:=sc.names.lookup x=some .local\/sc.names.lookup x=some .cell
def zKe(env:Env)(h:Heap)(m:Str->B5 B6)(x:Str)(u:B6):Prop:=
 (env.kindOf x=some .local/\m x=some u)\/((env.kindOf x=some .cell\/env.kindOf x=some .free)/\∃c,env.cells.lookup x=some c/\h.IsCell c (some u))
structure Cx.Ok(X:Cx):Prop where
 mod:Mod X.K X.mg X.base
 kind:X.env.scope.kind=.function
 glob:X.env.globals=mainGlobals
 blt:X.env.builtins=builtinsNs
 above:X.s₀.heap.objs.size<=X.env.locals
 inj:∀x y c,X.env.cells.lookup x=some c->X.env.cells.lookup y=some c->x=y
 has:∀x,(X.env.kindOf x=some .cell\/X.env.kindOf x=some .free)->∃c,X.env.cells.lookup x=some c
 cab:∀x c,X.fn x=true->X.env.cells.lookup x=some c->X.s₀.heap.objs.size<=c
 hd:X.calm=true->X.A.handled=none
 frames:X.A.frames=some X.stack
 stk:X.stack=X.outer\/(X.stack=X.env::X.outer/\X.env.frame=some X.env.locals)
 exf:∀b∈X.ex,b≠X.env.locals/\∀x c,X.env.cells.lookup x=some c->c≠b
 bs:∀b o,X.base.get? b=some o->X.s₀.heap.get? b=some o/\X.H₀ b=none
 bsz:X.base.objs.size<=X.s₀.heap.objs.size
 noex:∀b o,X.base.get? b=some o->b∉X.ex
 exfs:∀b∈X.ex,b∉X.fs
 funs:X.s₀.heap.FunFrames X.base X.outer
 frf:∀b∈X.fs,X.H₀ b=none
structure Inv(X:Cx)(Z:B4 (B9×Obj))(O:B4 (B5 V))(H:Hp)(s:B7):Prop where
 ok:X.Ok
 os:s.os=X.s₀.os
 bare:AllBare s.gens
 base:Un X.fs X.ex X.H₀ H X.s₀.heap s.heap
 loc:∃m,s.heap.Ns X.env.locals m/\∀(i:Nat)(x:Str)(v:V),X.N[i]?=some x->O[i]?=some (some v)->Vis X.env.scope x->∃u,zAi v u/\zKe X.env s.heap m x u
 cell:∀x c,X.env.cells.lookup x=some c->∃v,s.heap.IsCell c v
 free:H X.env.locals=none
 freeC:∀x c,X.env.cells.lookup x=some c->H c=none
 pin:∀p∈X.pn++Z,s.heap.get? p.1=some p.2/\H p.1=none/\p.1≠X.env.locals/\p.1∉X.fs/\∀v,p.2.data≠.cell v
 hok:HOk X.prog X.w H s.heap
 len:O.length=X.N.length
section
variable{X:Cx}{Z:B4<|B9×Obj}{O:B4<|B5 V}{H H':Hp}{s:B7}{h':Heap}
def Cx.Ok.nofr(ok:X.Ok){b:B9}{o:Obj}(e:X.base.get? b=some o):b∉X.fs:=λhb=>by
 have:=(ok.funs.mem hb).1;rw[e] at this;cases this
theorem Inv.bs(I:Inv X Z O H s):∀b o,X.base.get? b=some o->s.heap.get? b=some o/\H b=none:=λb o e=>
 ⟨I.base.keep b o (I.ok.bs b o e).1 (I.ok.bs b o e).2 (I.ok.nofr e)<|I.ok.noex b o e,I.base.free b o (I.ok.bs b o e).1 (I.ok.bs b o e).2<|I.ok.noex b o e⟩
def Inv.bk(I:Inv X Z O H s):∀b o,X.base.get? b=some o->s.heap.get? b=some o:=λb o e=>(I.bs b o e).1
theorem Inv.mod(I:Inv X Z O H s):Mod X.K X.mg X.base:=I.ok.mod
def Inv.kIn(I:Inv X Z O H s):X.K.In s.heap:=I.ok.mod.kin.keeps I.bk
theorem Inv.lt(I:Inv X Z O H s):X.env.locals<s.heap.objs.size:=let ⟨_,hn,_⟩:=I.loc;hn.lt
def Inv.sz(I:Inv X Z O H s):X.s₀.heap.objs.size<=s.heap.objs.size:=xCk I.ok.above<|Nat.le_of_lt I.lt
def Inv.nofs(I:Inv X Z O H s){a:B9}(h:s.heap.objs.size<=a):a∉X.fs:=λhb=>by
 let⟨_,o,ho,_⟩:=I.ok.funs.mem hb;exact absurd (xBc (xA1 ho)<|xCk I.sz h)<|Nat.lt_irrefl _
def Inv.cne(I:Inv X Z O H s):∀x c,X.env.cells.lookup x=some c->c≠X.env.locals:=λx c e z=>by
 let⟨v,o,ho,hd⟩:=I.cell x c e;let⟨m,⟨o',es,ep,ho',hd',_⟩,_⟩:=I.loc;rw[z,ho'] at ho;cases ho;rw[hd'] at hd;cases hd
theorem Inv.funs(I:Inv X Z O H s):s.heap.FunFrames X.base X.outer:=by
 have all:∀(l:B4 Env),(∀b∈frs l,b∈X.fs)->X.s₀.heap.FunFrames X.base l->s.heap.FunFrames X.base l:=by
  intro l;induction l with
  |nil=>intro _ _;trivial
  |cons env r ih=>
   intro hs hl;let⟨hk,⟨L,o,hf,hn,ho,hd⟩,hr⟩:=hl;have hL:L∈X.fs:=hs L (by unfold frs;rw[List.filterMap_cons,hf];exact xAr);let⟨sl,e⟩:=I.base.slot L o ho (I.ok.frf L hL) hL λz=>I.ok.exfs L z hL;exact⟨hk,⟨L,_,hf,hn,e,hd⟩,ih (λb hb=>hs b<|by unfold frs;rw[List.filterMap_cons,hf];exact xAs _ hb) hr⟩
 exact all X.outer (λ_ hb=>hb) I.ok.funs
theorem Inv.stack(I:Inv X Z O H s):s.heap.FunFrames X.base X.stack:=by
 rcases I.ok.stk with e|⟨e,hf⟩
 .rw[e];exact I.funs
 .rw[e];let⟨m,hn,_⟩:=I.loc;refine .cons (by rw[I.ok.kind];decide) hf hn ?_ I.funs;exact Heap.get?_none_of_le<|xCk I.ok.bsz I.ok.above
def Inv.stkSub(I:Inv X Z O H s):∀b∈frs X.stack,b∈X.env.locals::X.fs:=λb hb=>by
 rcases I.ok.stk with e|⟨e,hf⟩
 .rw[e] at hb;exact xAs _ hb
 .rw[e] at hb;unfold frs at hb;rw[List.filterMap_cons,hf] at hb;exact hb
def Inv.stkFree(I:Inv X Z O H s):∀b∈frs X.stack,H b=none:=λb hb=>by
 rcases xAv.mp (I.stkSub b hb) with e|hb
 .rw[e];exact I.free
 .let⟨_,o,ho,_⟩:=I.ok.funs.mem hb;exact I.base.free b o ho (I.ok.frf b hb) λz=>I.ok.exfs b z hb
def Inv.step(I:Inv X Z O H s)(hch:∀b∈ch,(b∈X.ex\/X.s₀.heap.objs.size<=b)/\b≠X.env.locals/\(∀x c,X.env.cells.lookup x=some c->c≠b)/\∀p∈X.pn++Z,p.1≠b)(keep:∀b o,b≠X.env.locals->b∉X.fs->b∉ch->s.heap.get? b=some o->H b=none->h'.get? b=some o)(slot:∀b o,b≠X.env.locals->b∈X.fs->b∉ch->s.heap.get? b=some o->H b=none->∃sl,h'.get? b=some {o with slots:=sl})(free:∀b o,b∉ch->s.heap.get? b=some o->H b=none->H' b=none)(there:∀b o,b∉ch->s.heap.get? b=some o->∃o',h'.get? b=some o')(tups:∀b xs,H b=some (.tup xs)->H' b=some (.tup xs))(frzs:∀b o u,H b=some (.frz o u)->H' b=some (.frz o u))(tbls:∀b ps,H b=some (.tbl ps)->∃more,H' b=some (.tbl<|ps++more))(ns:∀m,s.heap.Ns X.env.locals m->h'.Ns X.env.locals m)(hok:HOk X.prog X.w H' h')(hg:AllBare g') :
  Inv X Z O H' {s with heap:=h',gens:=g',drawn:=d',toks:=t'}:=by
 have neL:∀b o,X.s₀.heap.get? b=some o->b≠X.env.locals:=λb o e=>xA0<|xBc (xA1 e) I.ok.above;have neC:∀b o,X.s₀.heap.get? b=some o->b∉X.ex->b∉ch:=λb o e hx hb=>by
  rcases(hch b hb).1 with z|z
  .exact hx z
  .exact absurd (xBc (xA1 e) z)<|Nat.lt_irrefl _
 have cellK:∀x c,X.env.cells.lookup x=some c->∀v,s.heap.IsCell c v->h'.IsCell c v:=λx c e v ⟨o,ho,hd⟩=>by
  have nch:c∉ch:=λz=>(hch c z).2.2.1 x c e rfl;by_cases hc:c∈X.fs
  .let⟨sl,q⟩:=slot c o (I.cne x c e) hc nch ho<|I.freeC x c e;exact⟨_,q,hd⟩
  .exact⟨o,keep c o (I.cne x c e) hc nch ho<|I.freeC x c e,hd⟩
 refine⟨I.ok,I.os,hg,⟨λb o e n hb hx=>?_,λb o e n hb hx=>?_,λb o e n hx=>?_,λb o e hx=>?_,λb xs e=>tups b xs<|I.base.tups b xs e,λb o xs e=>frzs b o xs<|I.base.frzs b o xs e,λb ps e=>?_⟩,?_,λx c e=>?_,?_,λx c e=>?_,λp hp=>?_,hok,I.len⟩
 .exact keep b o (neL b o e) hb (neC b o e hx) (I.base.keep b o e n hb hx)<|I.base.free b o e n hx
 .let⟨sl,e1⟩:=I.base.slot b o e n hb hx;let⟨sl',e2⟩:=slot b _ (neL b o e) hb (neC b o e hx) e1<|I.base.free b o e n hx;exact⟨sl',e2⟩
 .let⟨o',e1⟩:=I.base.there b o e hx;exact free b o' (neC b o e hx) e1<|I.base.free b o e n hx
 .let⟨o',e1⟩:=I.base.there b o e hx;exact there b o' (neC b o e hx) e1
 .let⟨m1,e1⟩:=I.base.tbls b ps e;let⟨m2,e2⟩:=tbls b _ e1;exact⟨m1++m2,by rw[e2,Array.append_assoc]⟩
 .let⟨m,hn,hl⟩:=I.loc;refine⟨m,ns m hn,λi x v e1 e2 e3=>?_⟩;let⟨u,r,l⟩:=hl i x v e1 e2 e3;refine⟨u,r,?_⟩;rcases l with l|⟨k,c,e,z⟩
  .exact .inl l
  .exact .inr ⟨k,c,e,cellK x c e _ z⟩
 .let⟨v,z⟩:=I.cell x c e;exact⟨v,cellK x c e v z⟩
 .let⟨m,⟨o,_,_,ho,_⟩,_⟩:=I.loc;exact free _ o (λz=>(hch _ z).2.1 rfl) ho I.free
 .let⟨v,o,ho,hd⟩:=I.cell x c e;exact free c o (λz=>(hch c z).2.2.1 x c e rfl) ho<|I.freeC x c e
 .let⟨e,n,ne,nf,d⟩:=I.pin p hp;have nch:p.1∉ch:=λz=>(hch p.1 z).2.2.2 p hp rfl;exact⟨keep p.1 p.2 ne nf nch e n,free p.1 p.2 nch e n,ne,nf,d⟩
def Inv.un(I:Inv X Z O H s)(u:Un X.fs [] H H' s.heap h')(hok:HOk X.prog X.w H' h'):Inv X Z O H' {s with heap:=h',toks:=t'}:=by
 let⟨m,⟨o,es,ep,ho,r⟩,_⟩:=id I.loc;let⟨sl,hL⟩:=u.any ho I.free ⋯;exact I.step (g':=s.gens) (d':=s.drawn) (ch:=[]) (λ_ z=>nomatch z) (λb o _ hb _ e n=>u.keep b o e n hb ⋯) (λb o _ hb _ e n=>u.slot b o e n hb ⋯) (λb o _ e n=>u.free b o e n ⋯) (λb o _ e=>u.there b o e ⋯) u.tups u.frzs u.tbls (λm' hm=>by
  let⟨o',es',ep',ho',r'⟩:=hm;rw[ho] at ho';cases ho';exact⟨_,es',ep',hL,r'⟩) hok I.bare
def Inv.call(I:Inv X Z O H s)(u:Un (frs X.stack) ch H H' s.heap h')(hok:HOk X.prog X.w H' h')(hg:AllBare g')(hch:∀b∈ch,(b∈X.ex\/X.s₀.heap.objs.size<=b)/\b≠X.env.locals/\(∀x c,X.env.cells.lookup x=some c->c≠b)/\∀p∈X.pn++Z,p.1≠b) :
  Inv X Z O H' {s with heap:=h',gens:=g',drawn:=d',toks:=t'}:=by
 let⟨m,⟨o,es,ep,ho,r⟩,_⟩:=id I.loc;let⟨sl,hL⟩:=u.any ho I.free λz=>(hch _ z).2.1 rfl;exact I.step (ch:=ch) hch (λb o hL hb hc e n=>u.keep b o e n (λz=>(xAv.mp<|I.stkSub b z).elim hL hb) hc) (λb o _ _ hc e n=>u.any e n hc) (λb o hc e n=>u.free b o e n hc) (λb o hc e=>u.there b o e hc) u.tups u.frzs u.tbls (λm' hm=>by
  let⟨o',es',ep',ho',r'⟩:=hm;rw[ho] at ho';cases ho';exact⟨_,es',ep',hL,r'⟩) hok hg
def Inv.turned(I:Inv X Z O H s)(k:∀b o,b≠it->s.heap.get? b=some o->h'.get? b=some o)(hn:H it=none)(hL:it≠X.env.locals)(h1:it∈X.ex\/X.s₀.heap.objs.size<=it)(h2:∀x c,X.env.cells.lookup x=some c->c≠it)(h3:∀p∈X.pn++Z,p.1≠it):Inv X Z O H {s with heap:=h',toks:=t'}:=by
 have nit:∀b u,H b=some u->b≠it:=λb u e z=>by rw[z,hn] at e;cases e
 refine I.step (g':=s.gens) (d':=s.drawn) (ch:=[it]) (λb hb=>?_) (λb o _ _ hc e _=>k b o (λz=>hc<|by simp[z]) e) (λb o _ _ hc e _=>⟨o.slots,k b o (λz=>hc<|by simp[z]) e⟩) (λ_ _ _ _ n=>n)
  (λb o hc e=>⟨o,k b o (λz=>hc<|by simp[z]) e⟩) (λ_ _ e=>e) (λ_ _ _ e=>e) (λb ps e=>⟨#[],by rw[e];simp⟩) (λm hm=>?_) (λb u e=>?_) I.bare
 .have e:b=it:=by simpa using hb
  subst e;exact⟨h1,hL,h2,h3⟩
 .let⟨o,es,ep,ho,r⟩:=hm;exact⟨o,es,ep,k _ o (Ne.symm hL) ho,r⟩
 .refine(I.hok b u e).stay (λc v hc q=>k c v ?_ q) (λ_ q=>q) λ_ _ q=>q;rcases hc with z|z
  .rw[z];exact nit b u e
  .exact nit c _ z
def Inv.tok(I:Inv X Z O H s)(t:Nat):Inv X Z O H {s with toks:=t}:=I.un (h':=s.heap) (t':=t) Un.refl I.hok
theorem Inv.kept{t':Nat}(I:Inv X Z O H s)(k:∀b u,s.heap.get? b=some u->h'.get? b=some u):Inv X Z O H {s with heap:=h',toks:=t'}:=I.un (Un.kept k)<|I.hok.kept k
theorem Inv.laid{a:B9}{o:HO}{t':Nat}(I:Inv X Z O H s)(k:∀b u,s.heap.get? b=some u->h'.get? b=some u)(hp:s.heap.objs.size<=a)(new:zAf X.prog X.w (upd H a o) h' a o) :
  Inv X Z O (upd H a o) {s with heap:=h',toks:=t'}:=I.un (Un.laid k hp<|I.hok.fresh hp)<|I.hok.laid k hp new
theorem Inv.write{x e:B9}{o:HO}{t':Nat}(I:Inv X Z O H s)(mu:Mut<|H x)(he:e=x\/H e=some (.own x))(k:∀b u,b≠e->s.heap.get? b=some u->h'.get? b=some u)(heo:∃u,h'.get? e=some u)(new:zAf X.prog X.w (upd H x o) h' x o):Inv X Z O (upd H x o) {s with heap:=h',toks:=t'}:=I.un (Un.write mu he k heo)<|I.hok.write mu he k heo new
def Inv.pins_of{pins':B4<|B9×Obj}(I:Inv X Z O H s)(h:∀p∈pins',s.heap.get? p.1=some p.2/\H p.1=none/\p.1≠X.env.locals/\p.1∉X.fs/\∀v,p.2.data≠.cell v):Inv X pins' O H s:=
 ⟨I.ok,I.os,I.bare,I.base,I.loc,I.cell,I.free,I.freeC,λp hp=>(xAj.mp hp).elim (λz=>I.pin p<|xBw _ z)<|h p,I.hok,I.len⟩
def jN(hN:N.Nodup){x:Str}(a:N[i]?=some x)(b:N[j]?=some x):i=j:=by
 let⟨h1,e1⟩:=xAq.mp a;let⟨h2,e2⟩:=xAq.mp b;exact(List.getElem_inj hN).mp<|e1.trans e2.symm
def im{E:B6->B7->Prop}{x:Str}{v:V}{u:B6}{Q:Unit->B7->Prop}(I:Inv X Z O H s)(hN:X.N.Nodup)(hi:X.N[i]?=some x)(hx:Loc X.env.scope x)(r:zAi v u)(h:∀s',Inv X Z (O.set i<|some v) H s'->(∃a,Heap.SameBut a s.heap s'.heap/\(a=X.env.locals\/X.env.cells.lookup x=some a))->Q ⟨⟩ s')(hf:X.fn x=true\/X.env.scope.names.lookup x=some .local:=by first|exact .inl rfl|exact .inr rfl|assumption):wpAny M A (storeName X.env x u) Q E s:=by
 let⟨m,hn,hl⟩:=id I.loc;have hcls:(X.env.scope.kind == .class||(X.env.scope.kind == .module&&X.env.locals != X.env.globals))=false:=by rw[I.ok.kind];rfl
 have hiσ:i<O.length:=by rw[I.len];exact(xAq.mp hi).1
 have cne:=I.cne;have tracked:∀{a:B9}{h':Heap},(∃o,s.heap.get? a=some o/\H a=none)->Heap.SameBut a s.heap h'->HOk X.prog X.w H h':=λ{a h'} ha hs b ob e=>by
  let⟨_,_,hfree⟩:=ha;refine(I.hok b ob e).stay (λc w' hc q=>(hs.2 c ?_).trans q) (λ_ q=>q) λ_ _ q=>q;rintro rfl
  rcases hc with rfl|hc
  .rw[hfree] at e;cases e
  .rw[hfree] at hc;cases hc
 rcases hx with hk|hk
 .refine wpAny_storeName_local hk hn (λh' hn' hs=>?_) hcls;let⟨oL,_,_,hoL,_⟩:=id hn;refine h _ ⟨I.ok,I.os,I.bare,⟨λb o e n hb hx=>?_,λb o e n hb hx=>?_,I.base.free,λb o e hx=>?_,I.base.tups,I.base.frzs,I.base.tbls⟩,⟨_,hn',λj y v' e1 e2 e3=>?_⟩,λy c e=>?_,I.free,I.freeC,λp hp=>?_,tracked ⟨oL,hoL,I.free⟩ hs,by simpa using I.len⟩ ⟨_,hs,.inl rfl⟩
  .exact(hs.2 b<|xA0<|xBc (xA1 e) I.ok.above).trans<|I.base.keep b o e n hb hx
  .let⟨sl,e1⟩:=I.base.slot b o e n hb hx;exact⟨sl,(hs.2 b<|xA0<|xBc (xA1 e) I.ok.above).trans e1⟩
  .let⟨o',e1⟩:=I.base.there b o e hx;exact⟨o',(hs.2 b<|xA0<|xBc (xA1 e) I.ok.above).trans e1⟩
  .by_cases hj:j=i
   .subst hj;rw[hi] at e1;cases e1;rw[List.getElem?_set_self hiσ] at e2;cases e2;exact⟨u,r,.inl ⟨hk,⋯⟩⟩
   .rw[List.getElem?_set_ne<|Ne.symm hj] at e2;let⟨u',r',q⟩:=hl j y v' e1 e2 e3;refine⟨u',r',?_⟩;rcases q with ⟨k,e⟩|⟨k,c,e,z⟩
    .refine .inl ⟨k,?_⟩;have:y≠x:=λe=>hj<|jN hN e1<|e▸hi;simp[this,e]
    .exact .inr ⟨k,c,e,z.sameBut hs<|cne y c e⟩
  .let⟨w',z⟩:=I.cell y c e;exact⟨w',z.sameBut hs<|cne y c e⟩
  .let⟨e,n,ne,nf,d⟩:=I.pin p hp;exact⟨(hs.2 p.1 ne).trans e,n,ne,nf,d⟩
 .have hfn:X.fn x=true:=by
   rcases hf with z|z
   .exact z
   .rw[z] at hk;cases hk
  let⟨c,hc⟩:=I.ok.has x<|.inl hk;let⟨w',z⟩:=I.cell x c hc;refine wpAny_storeName_cell I.ok.kind hk hc z (λh' hc' hs=>?_);let⟨oc,hoc,hocd⟩:=id z;refine h {s with heap:=h'} ⟨I.ok,I.os,I.bare,⟨λb o e n hb hx=>?_,λb o e n hb hx=>?_,I.base.free,λb o e hx=>?_,I.base.tups,I.base.frzs,I.base.tbls⟩,⟨m,hn.sameBut hs<|Ne.symm<|cne x c hc,λj y v' e1 e2 e3=>?_⟩,λy c' e=>?_,I.free,I.freeC,λp hp=>?_,tracked ⟨oc,hoc,I.freeC x c hc⟩ hs,by simpa using I.len⟩ ⟨c,hs,.inr hc⟩
  .exact(hs.2 b<|xA0<|xBc (xA1 e)<|I.ok.cab x c hfn hc).trans<|I.base.keep b o e n hb hx
  .let⟨sl,e1⟩:=I.base.slot b o e n hb hx;exact⟨sl,(hs.2 b<|xA0<|xBc (xA1 e)<|I.ok.cab x c hfn hc).trans e1⟩
  .let⟨o',e1⟩:=I.base.there b o e hx;exact⟨o',(hs.2 b<|xA0<|xBc (xA1 e)<|I.ok.cab x c hfn hc).trans e1⟩
  .by_cases hj:j=i
   .subst hj;rw[hi] at e1;cases e1;rw[List.getElem?_set_self hiσ] at e2;cases e2;exact⟨u,r,.inr ⟨.inl hk,c,hc,hc'⟩⟩
   .rw[List.getElem?_set_ne<|Ne.symm hj] at e2;let⟨u',r',q⟩:=hl j y v' e1 e2 e3;refine⟨u',r',?_⟩;rcases q with q|⟨k,c',e,z'⟩
    .exact .inl q
    .refine .inr ⟨k,c',e,z'.sameBut hs ?_⟩;rintro rfl
     exact hj<|jN hN e1<|I.ok.inj _ _ _ e hc▸hi
  .by_cases hcc:c'=c
   .subst hcc;exact⟨_,hc'⟩
   .let⟨w2,z2⟩:=I.cell y c' e;exact⟨w2,z2.sameBut hs hcc⟩
  .let⟨e,n,ne,nf,d⟩:=I.pin p hp;refine⟨(hs.2 p.1 ?_).trans e,n,ne,nf,d⟩;intro q;rw[q,hoc] at e;have q':oc=p.2:=xB3 e;exact d w' (by rw[<- q'];exact hocd)
def fo{E:B6->B7->Prop}{x:Str}{v:V}{u:B6}{Q:Unit->B7->Prop}(I:Inv X Z O H s)(hN:X.N.Nodup)(hi:X.N[i]?=some x)(hx:Loc X.env.scope x)(r:zAi v u)(h:∀s',Inv X Z (O.set i<|some v) H s'->Q ⟨⟩ s')(hf:X.fn x=true\/X.env.scope.names.lookup x=some .local:=by first|exact .inl rfl|exact .inr rfl|assumption):wpAny M A (storeName X.env x u) Q E s:=
 im I hN hi hx r (λs' I' _=>h s' I') hf
def Inv.call'{s':B7}(I:Inv X Z O H s)(ho:s'.os=s.os)(u:Un (frs X.stack) ch H H' s.heap s'.heap)(hok:HOk X.prog X.w H' s'.heap)(hg:AllBare s'.gens)(hch:∀b∈ch,(b∈X.ex\/X.s₀.heap.objs.size<=b)/\b≠X.env.locals/\(∀x c,X.env.cells.lookup x=some c->c≠b)/\∀p∈X.pn++Z,p.1≠b):Inv X Z O H' s':=by
 let⟨h',g',d',t',o'⟩:=s';have e:o'=s.os:=ho;subst e;exact I.call (g':=g') (t':=t') (d':=d') u hok hg hch
end
noncomputable abbrev XK:=B6->B5 B9->Hp->Prop
noncomputable abbrev St:=B4<|B5 V
noncomputable abbrev VK:=V->Hp->Prop
noncomputable abbrev TE:=St->Hp->VK->Prop
noncomputable abbrev TT:=St->Hp->(B'->Hp->Prop)->Prop
noncomputable abbrev TA:=St->Hp->(C6->Hp->Prop)->Prop
structure zDp where
 nx:St->Hp->Prop
 rt:VK
 bk:St->Hp->Prop:=λ_ _=>False
 ct:St->Hp->Prop:=λ_ _=>False
noncomputable abbrev TS:=zDp->St->Hp->Prop
def EP(X:Cx)(Z:B4<|B9×Obj)(O:St)(Q:VK)(u:B6)(s':B7):Prop:=∃v H',Inv X Z O H' s'/\zAi v u/\Q v H'
def TP(X:Cx)(Z:B4<|B9×Obj)(O:St)(Q:B'->Hp->Prop)(b:B')(s':B7):Prop:=∃H',Inv X Z O H' s'/\Q b H'
def AP(X:Cx)(Z:B4<|B9×Obj)(O:St)(Q:C6->Hp->Prop)(us:C7)(s':B7):Prop:=∃vs H',Inv X Z O H' s'/\zAh vs us/\Q vs H'
def SP(X:Cx)(Z:B4<|B9×Obj)(D:zDp)(f:Flow)(s':B7):Prop:=
 match f with
 |.next=>∃O' H',Inv X Z O' H' s'/\D.nx O' H'
 |.brk=>∃O' H',Inv X Z O' H' s'/\D.bk O' H'
 |.cont=>∃O' H',Inv X Z O' H' s'/\D.ct O' H'
 |.ret u=>∃v O' H',Inv X Z O' H' s'/\zAi v u/\D.rt v H'
def PE(X:Cx)(e:B8)(t:TE):Prop:=
 ∀(Z:B4<|B9×Obj)(s:B7)(O:St)(H:Hp)(Q:VK),Inv X Z O H s->t O H Q->wpAny (model X.prog X.w) X.A (eval e X.env) (EP X Z O Q) X.xe s
def PT(X:Cx)(e:B8)(t:TT):Prop:=
 ∀(Z:B4<|B9×Obj)(s:B7)(O:St)(H:Hp)(Q:B'->Hp->Prop),Inv X Z O H s->t O H Q->wpAny (model X.prog X.w) X.A (isTrue e X.env<|eval e X.env) (TP X Z O Q) X.xe s
def PW(X:Cx)(e:B8)(t:TT):Prop:=
 ∀(whole:Sem B6)(Z:B4<|B9×Obj)(s:B7)(O:St)(H:Hp)(Q:B'->Hp->Prop),Inv X Z O H s->t O H Q->wpAny (model X.prog X.w) X.A (isTrue e X.env whole) (TP X Z O Q) X.xe s
def PW.pt{e:B8}{t:TT}(h:PW X e t):PT X e t:=h _
def PA(X:Cx)(es:B4 B8)(t:TA):Prop:=
 ∀(pos:Pos)(Z:B4<|B9×Obj)(s:B7)(O:St)(H:Hp)(Q:C6->Hp->Prop),Inv X Z O H s->t O H Q->wpAny (model X.prog X.w) X.A (spliced<|backTo pos<|starEach es X.env) (AP X Z O Q) X.xe s
def PS(X:Cx)(st:Stmt)(t:TS):Prop:=
 ∀(Z:B4<|B9×Obj)(s:B7)(O:St)(H:Hp)(D:zDp),Inv X Z O H s->t D O H->wpAny (model X.prog X.w) X.A (exec st X.env) (SP X Z D) X.xe s
def PSs(X:Cx)(st:B4 Stmt)(t:TS):Prop:=
 ∀(Z:B4<|B9×Obj)(s:B7)(O:St)(H:Hp)(D:zDp),Inv X Z O H s->t D O H->wpAny (model X.prog X.w) X.A (execs st X.env) (SP X Z D) X.xe s
def thn{J:Type}{t:Sem J}{Q Q':J->B7->Prop}{E:B6->B7->Prop}(h:wpAny M A t Q E s)(hQ:∀a s,Q a s->Q' a s):wpAny M A t Q' E s:=wpAny_mono h hQ λ_ _ x=>x
section
variable{X:Cx}
def zJc(i:Nat):TE:=λO H Q=>∃v,O[i]?=some (some v)/\Q v H
def tC(v:V):TE:=λ_ H Q=>Q v H
def wI{x:Str}(hN:X.N[i]?=some x)(hv:Vis X.env.scope x)(hd:(x==("__debug__":Str))=false:=by decide)(hcd:(x==("__classdict__":Str))=false:=by decide):PE X (.Name x pos)<|zJc i:=by
 intro Z s O H Q I h;let⟨v,e,h⟩:=h;let⟨m,hn,hl⟩:=I.loc;let⟨u,r,l⟩:=hl i x v hN e hv;have fin:EP X Z O Q u s:=⟨v,H,I,r,h⟩
 rcases l with ⟨hk,hm⟩|⟨hk,c,hc,hcell⟩
 .exact wpAny_Name (wpAny_loadName_local I.ok.kind hk hn hm fin) hd
 .rcases hk with hk|hk
  .exact wpAny_Name (wpAny_loadName_cell I.ok.kind hk hc hcell fin) hd
  .exact wpAny_Name (wpAny_loadName_free I.ok.kind hk hc hcell fin hcd) hd
def wO{i j pos}:PE X (.Constant (.int i) j pos)<|tC<|.int i:=λ_ _ _ H _ I h=>wpAny_Constant_int ⟨.int i,H,I.tok _,⟨_,rfl⟩,h⟩
def zC{b j pos}:PE X (.Constant (.bool b) j pos)<|tC<|.bl b:=λ_ _ _ H _ I h=>Constant_bool ⟨.bl b,H,I,rfl,h⟩
def kO{j pos}:PE X (.Constant .none j pos)<|tC .non:=λ_ _ _ H _ I h=>Constant_none ⟨.non,H,I,rfl,h⟩
def qc{x j pos}:PE X (.Constant (.str x) j pos)<|tC<|.str x:=λ_ _ _ H _ I h=>Calls.Constant_str ⟨.str x,H,I.tok _,⟨_,rfl⟩,h⟩
def Gl(X:Cx)(x:Str):Prop:=X.env.kindOf x=some .globalImplicit
def fF{E:B6->B7->Prop}{O:St}{x:Str}{u:B6}(I:Inv X Z O H s)(hg:Gl X x)(hm:X.mg x=some u)(h:Q u s)(hd:(x==("__debug__":Str))=false:=by decide):wpAny (model X.prog X.w) X.A (eval (.Name x pos) X.env) Q E s:=
 Calls.Name_function_global I.ok.kind hg (Calls.loadGlobal_global (by rw[I.ok.glob];exact I.mod.glob.keeps I.bk) hm h) hd
def fO{E:B6->B7->Prop}{O:St}{x:Str}{u:B6}(I:Inv X Z O H s)(hg:Gl X x)(hm:X.mg x=none)(hv:bootBuiltins x=some u)(h:Q u s)(hn:x≠"__name__":=by decide)(hd:(x==("__debug__":Str))=false:=by decide):wpAny (model X.prog X.w) X.A (eval (.Name x pos) X.env) Q E s:=by
 let⟨mb,h1,h2⟩:=I.mod.blt;exact Calls.Name_function_global I.ok.kind hg (Calls.loadGlobal_builtin (by rw[I.ok.glob];exact I.mod.glob.keeps I.bk) hm (by rw[I.ok.blt];exact h1.keeps I.bk) ((h2 x hn).trans hv) h) hd
def iW{x:Str}{v:V}{u:B6}(hg:Gl X x)(hm:X.mg x=some u)(r:zAi v u)(hd:(x==("__debug__":Str))=false:=by decide):PE X (.Name x pos)<|tC v:=
 λ_ _ _ H _ I h=>fF I hg hm ⟨v,H,I,r,h⟩ hd
def tT{x:Str}{v:V}{u:B6}(hg:Gl X x)(hm:X.mg x=none)(hv:bootBuiltins x=some u)(r:zAi v u)(hn:x≠"__name__":=by decide)(hd:(x==("__debug__":Str))=false:=by decide):PE X (.Name x pos)<|tC v:=
 λ_ _ _ H _ I h=>fO I hg hm hv ⟨v,H,I,r,h⟩ hn hd
variable{a b:B8}{ta tb:TE}{pos:Pos}
def tB(t:TE):TT:=λO H Q=>t O H λx H1=>∃c,x=.bl c/\Q c H1
def wj{e:B8}{t:TE}(h:PE X e t)(he:∀whole,isTrue e X.env whole=(do let v <- whole;standAt e.pos;holding [v] (truthy v)):=by intro _;rfl):PT X e<|tB t:=by
 intro Z s O H Q I hw;refine isTrue_plain (thn (h Z s O H _ I hw) λv s1 ⟨x,H1,I1,r1,q1⟩=>?_) (he _);let⟨d,rfl,q⟩:=q1;cases r1;exact wpAny_truthy_bool ⟨H1,I1,q⟩
variable{tA tB':TT}{rest:B4 B8}
def zJn(t u:TT):TT:=λO H Q=>t O H λc H1=>if c=true then u O H1 Q else Q false H1
def tOr(t u:TT):TT:=λO H Q=>t O H λc H1=>if c=true then Q true H1 else u O H1 Q
def zJi(t:TT):TT:=λO H Q=>t O H λc H1=>Q (!c) H1
theorem tj(ha:PT X a tA):PW X (.BoolOp .And [a] pos) tA:=by
 intro wh Z s O H Q I h;refine isTrue_and (thn (ha Z s O H Q I h) λc s1 e=>?_);cases c with
 |true=>exact isTrue_and_nil e
 |false=>exact e
theorem wc(ha:PT X a tA):PW X (.BoolOp .Or [a] pos) tA:=by
 intro wh Z s O H Q I h;refine isTrue_or (thn (ha Z s O H Q I h) λc s1 e=>?_);cases c with
 |false=>exact isTrue_or_nil e
 |true=>exact e
theorem we(ha:PT X a tA)(hb:PW X (.BoolOp .And (b::rest) pos) tB'):PW X (.BoolOp .And (a::b::rest) pos)<|zJn tA tB':=by
 intro wh Z s O H Q I h;refine isTrue_and (thn (ha Z s O H _ I h) λc s1 ⟨H1,I1,q1⟩=>?_);cases c with
 |true=>exact hb wh Z s1 O H1 Q I1 q1
 |false=>exact⟨H1,I1,q1⟩
theorem zo(ha:PT X a tA)(hb:PW X (.BoolOp .Or (b::rest) pos) tB'):PW X (.BoolOp .Or (a::b::rest) pos)<|tOr tA tB':=by
 intro wh Z s O H Q I h;refine isTrue_or (thn (ha Z s O H _ I h) λc s1 ⟨H1,I1,q1⟩=>?_);cases c with
 |true=>exact⟨H1,I1,q1⟩
 |false=>exact hb wh Z s1 O H1 Q I1 q1
def wm(ha:PT X a tA):PT X (.UnaryOp .Not a pos)<|zJi tA:=by
 intro Z s O H Q I h;exact isTrue_not (ha Z s O H (λc H1=>Q (!c) H1) I h)
def zG0(ta tb:TE):TE:=λO H Q=>ta O H λx H1=>∃c,x=.bl c/\if c=true then tb O H1 Q else Q (.bl false) H1
def zJh(ta tb:TE):TE:=λO H Q=>ta O H λx H1=>∃c,x=.bl c/\if c=true then Q (.bl true) H1 else tb O H1 Q
def zGv(ta:TE):TE:=λO H Q=>ta O H λx H1=>∃c,x=.bl c/\Q (.bl (!c)) H1
def wK{op}{t:TE}(h:PE X a t):PE X (.BoolOp op [a] pos) t:=λZ s O H Q I hw=>BoolOp_one<|h Z s O H Q I hw
theorem wQ(ha:PE X a ta)(hb:PE X (.BoolOp .And (b::rest) pos) tb):PE X (.BoolOp .And (a::b::rest) pos)<|zG0 ta tb:=by
 intro Z s O H Q I h;refine BoolOp_and (thn (ha Z s O H _ I h) λv s1 zz=>?_);let⟨x,H1,I1,r1,q1⟩:=zz;let⟨c,rfl,q1⟩:=q1;cases r1;erw[wpAny_truthy_bool];cases c with
 |true=>exact hb Z s1 O H1 Q I1 q1
 |false=>exact⟨.bl false,H1,I1,rfl,q1⟩
theorem zx(ha:PE X a ta)(hb:PE X (.BoolOp .Or (b::rest) pos) tb):PE X (.BoolOp .Or (a::b::rest) pos)<|zJh ta tb:=by
 intro Z s O H Q I h;refine BoolOp_or (thn (ha Z s O H _ I h) λv s1 zz=>?_);let⟨x,H1,I1,r1,q1⟩:=zz;let⟨c,rfl,q1⟩:=q1;cases r1;erw[wpAny_truthy_bool];cases c with
 |false=>exact hb Z s1 O H1 Q I1 q1
 |true=>exact⟨.bl true,H1,I1,rfl,q1⟩
def wL(ha:PE X a ta):PE X (.UnaryOp .Not a pos)<|zGv ta:=by
 intro Z s O H Q I h;refine UnaryOp_ (thn (ha Z s O H _ I h) λv s1 zz=>?_);let⟨x,H1,I1,r1,q1⟩:=zz;let⟨c,rfl,q1⟩:=q1;cases r1;exact not_of<|wpAny_truthy_bool ⟨.bl (!c),H1,I1,rfl,q1⟩
def tIf(t:TT)(ta tb:TE):TE:=λO H Q=>t O H λc H1=>if c=true then ta O H1 Q else tb O H1 Q
theorem qf{c:B8}(hc:PT X c tA)(ha:PE X a ta)(hb:PE X b tb):PE X (.IfExp c a b pos)<|tIf tA ta tb:=by
 intro Z s O H Q I h;refine wpAny_IfExp (thn (hc Z s O H _ I h) λd s1 ⟨H1,I1,q1⟩=>?_);cases d with
 |true=>exact ha Z s1 O H1 Q I1 q1
 |false=>exact hb Z s1 O H1 Q I1 q1
end
def SqL(K:xFr)(H:Hp)(a:B9)(xs:C6):Prop:=
 Rd H a (.lst xs) \/
  ∃(o:Obj) (its:Array B6) (n:Nat),K.lookup a=some o/\o.cls=.type "list"/\o.dict=none/\o.data=.seq its n/\its.size<=sizeLine/\zAh xs its.toList
def SqT(K:xFr)(H:Hp)(a:B9)(xs:C6):Prop:=
 Rd H a (.tup xs) \/
  ∃(o:Obj) (its:Array B6) (n:Nat),K.lookup a=some o/\o.cls=.type "tuple"/\o.data=.seq its n/\its.size<=sizeLine/\zAh xs its.toList
noncomputable def zKb:B6->B5 V
 |.none=>some .non
 |.bool b=>some<|.bl b
 |.int i _=>some<|.int i
 |.str x _=>some<|.str x
 |.bytes b _=>some<|.byt b
 |.float b _=>some<|.flt b
 |.ref a=>some<|.ref a
 |.type n=>some<|.ty n
 |_=>none
theorem zAi.abs{x:V}{u:B6}(r:zAi x u):zKb u=some x:=by
 cases x with
 |non=>cases r;rfl
 |bl _=>cases r;rfl
 |int _=>let⟨t,rfl⟩:=r;rfl
 |str _=>let⟨t,rfl⟩:=r;rfl
 |byt _=>let⟨t,rfl⟩:=r;rfl
 |flt _=>let⟨t,rfl⟩:=r;rfl
 |ref _=>cases r;rfl
 |ty _=>cases r;rfl
def zAi.inj{x:V}{u:B6}(r:zAi x u)(q:zAi y u):x=y:=xB3<|r.abs.symm.trans q.abs
theorem zAh.inj:∀{xs ys:C6}{us:C7},zAh xs us->zAh ys us->xs=ys
 |_,_,_,.nil,.nil=>rfl
 |_,_,_,.cons r t,.cons r' t'=>by rw[r.inj r',zAh.inj t t']
section
variable{X:Cx}{Z:B4<|B9×Obj}{O:St}{H:Hp}{s:B7}{a:B9}{xs ys:C6}
def SqL.of(h:H a=some (.lst xs)):SqL K H a xs:=.inl<|.inl h
def SqT.of(h:H a=some (.tup xs)):SqT K H a xs:=.inl<|.inl h
def Inv.list(I:Inv X Z O H s)(h:SqL X.K H a xs):∃its:C7,zAh xs its/\PlainL s.heap a its.toArray/\xs.length<=sizeLine:=by
 rcases h with h|⟨o,its,n,hk,hc,hd,hs,hz,r⟩
 .let⟨z,its,n,r,e⟩:=h.ok I.hok;exact⟨its,r,⟨_,n,e,rfl,rfl,rfl⟩,z⟩
 .refine⟨its.toList,r,⟨o,n,I.kIn a o hk,hc,hd,by simpa using hs⟩,?_⟩;have e:=r.length;simp only[xAh] at e;lia
def Inv.tuple(I:Inv X Z O H s)(h:SqT X.K H a xs):∃its:C7,zAh xs its/\IsTup s.heap a its.toArray/\xs.length<=sizeLine:=by
 rcases h with h|⟨o,its,n,hk,hc,hs,hz,r⟩
 .let⟨z,its,r,p⟩:=h.ok I.hok;exact⟨its,r,p,z⟩
 .refine⟨its.toList,r,⟨o,I.kIn a o hk,hc,n,by simpa using hs⟩,?_⟩;have e:=r.length;simp only[xAh] at e;lia
def Inv.list_inj(I:Inv X Z O H s)(h:SqL X.K H a xs)(h':SqL X.K H a ys):xs=ys:=by
 let⟨its,r,⟨o,n,e,_,_,d⟩,_⟩:=I.list h;let⟨its',r',⟨o',n',e',_,_,d'⟩,_⟩:=I.list h';rw[e] at e';cases e';rw[d] at d';injection d' with d1 _;have:its=its':=by simpa using congrArg Array.toList d1
 subst this;exact r.inj r'
def Inv.tuple_inj(I:Inv X Z O H s)(h:SqT X.K H a xs)(h':SqT X.K H a ys):xs=ys:=by
 let⟨its,r,⟨o,e,_,n,d⟩,_⟩:=I.tuple h;let⟨its',r',⟨o',e',_,n',d'⟩,_⟩:=I.tuple h';rw[e] at e';cases e';rw[d] at d';injection d' with d1 _;have:its=its':=by simpa using congrArg Array.toList d1
 subst this;exact r.inj r'
end
noncomputable abbrev Cx.wish(X:Cx)(E:B6->B7->Prop):Cx:={X with xe:=E}
theorem Cx.Ok.wish{X:Cx}(ok:X.Ok)(E:B6->B7->Prop):(X.wish E).Ok:=
 ⟨ok.mod,ok.kind,ok.glob,ok.blt,ok.above,ok.inj,ok.has,ok.cab,ok.hd,ok.frames,ok.stk,ok.exf,ok.bs,ok.bsz,ok.noex,ok.exfs,ok.funs,ok.frf⟩
def Cx.Ok.unwish{E:B6->B7->Prop}(ok:(X.wish E).Ok):X.Ok:=
 ⟨ok.mod,ok.kind,ok.glob,ok.blt,ok.above,ok.inj,ok.has,ok.cab,ok.hd,ok.frames,ok.stk,ok.exf,ok.bs,ok.bsz,ok.noex,ok.exfs,ok.funs,ok.frf⟩
section
variable{X:Cx}{Z:B4<|B9×Obj}{O:St}{H:Hp}{s:B7}{E:B6->B7->Prop}
theorem Inv.wish(I:Inv X Z O H s)(E:B6->B7->Prop):Inv (X.wish E) Z O H s:=⟨I.ok.wish E,I.os,I.bare,I.base,I.loc,I.cell,I.free,I.freeC,I.pin,I.hok,I.len⟩
theorem Inv.unwish(I:Inv (X.wish E) Z O H s):Inv X Z O H s:=⟨I.ok.unwish,I.os,I.bare,I.base,I.loc,I.cell,I.free,I.freeC,I.pin,I.hok,I.len⟩
theorem SP.unwish{D:zDp}{f:Flow}{s':B7}(h:SP (X.wish E) Z D f s'):SP X Z D f s':=by
 cases f with
 |next=>let⟨O',H',I,q⟩:=h;exact⟨O',H',I.unwish,q⟩
 |brk=>let⟨O',H',I,q⟩:=h;exact⟨O',H',I.unwish,q⟩
 |cont=>let⟨O',H',I,q⟩:=h;exact⟨O',H',I.unwish,q⟩
 |ret u=>let⟨v,O',H',I,r,q⟩:=h;exact⟨v,O',H',I.unwish,r,q⟩
end
section
variable{X:Cx}{st:Stmt}{rest:B4 Stmt}{t u:TS}{e:B8}{te:TE}{pos:Pos}
def zE1:TS:=λD O H=>D.nx O H
def zJe(t u:TS):TS:=λD O H=>t {D with nx:=u D} O H
def tu:PSs X [] zE1:=λ_ _ O H _ I h=>wpAny_execs_nil ⟨O,H,I,h⟩
theorem pM(h1:PS X st t)(h2:PSs X rest u):PSs X (st::rest)<|zJe t u:=by
 intro Z s O H D I h;refine wpAny_execs_cons (thn (h1 Z s O H {D with nx:=u D} I h) λf s1 q=>?_);cases f with
 |next=>
  let⟨O',H',I',q⟩:=q;exact h2 Z s1 O' H' D I' q
 |ret v=>exact q
 |brk=>exact q
 |cont=>exact q
def tw:PS X (.Pass pos) zE1:=λ_ _ O H _ I h=>wpAny_Pass ⟨O,H,I,h⟩
def Inv.quiet{O:St}(I:Inv X Z O H s):interactive X.env=false:=by simp[interactive,I.ok.kind]
def zE3(te:TE):TS:=λD O H=>te O H λ_ H1=>D.nx O H1
def tz(he:PE X e te)(hs:swapsWith e none pos.line X.env=pure false:=by rfl):PS X (.Expr e pos)<|zE3 te:=by
 intro Z s O H D I h;exact wpAny_Expr_any (thn (he Z s O H _ I h) λv s1 ⟨x,H1,I1,r1,q1⟩=>⟨O,H1,I1,q1⟩) I.quiet hs
def zJf(te:TE):TS:=λD O H=>te O H D.rt
def wp(he:PE X e te):PS X (.Return (some e) pos)<|zJf te:=by
 intro Z s O H D I h;exact wpAny_Return_some (thn (he Z s O H _ I h) λv s1 ⟨x,H1,I1,r1,q1⟩=>⟨x,O,H1,I1,r1,q1⟩)
def zJk(c:TT)(t u:TS):TS:=λD O H=>c O H λb H1=>if b=true then t D O H1 else u D O H1
theorem zp{c:B8}{a b:B4 Stmt}{tc:TT}(hc:PT X c tc)(ha:PSs X a t)(hb:PSs X b u):PS X (.If c a b pos)<|zJk tc t u:=by
 intro Z s O H D I h;refine wpAny_If (thn (hc Z s O H _ I h) λd s1 ⟨H1,I1,q1⟩=>?_);cases d with
 |true=>exact ha Z s1 O H1 D I1 q1
 |false=>exact hb Z s1 O H1 D I1 q1
end
noncomputable abbrev TG:=V->St->Hp->(St->Hp->Prop)->Prop
noncomputable abbrev TGs:=C6->St->Hp->(St->Hp->Prop)->Prop
def PG(X:Cx)(target:B8)(t:TG):Prop:=
 ∀(Z:B4<|B9×Obj)(s:B7)(O:St)(H:Hp)(v:V)(u:B6)(Q:St->Hp->Prop),Inv X Z O H s->zAi v u->t v O H Q ->
  wpAny (model X.prog X.w) X.A (assign target X.env u) (λ_ s'=>∃O' H',Inv X Z O' H' s'/\Q O' H') X.xe s
def PGs(X:Cx)(ts:B4 B8)(t:TGs):Prop:=
 ∀(Z:B4<|B9×Obj)(s:B7)(O:St)(H:Hp)(vs:C6)(us:C7)(Q:St->Hp->Prop),Inv X Z O H s->zAh vs us->t vs O H Q ->
  wpAny (model X.prog X.w) X.A (assignInOrder ((assignEach ts X.env).map (·.2)) us) (λ_ s'=>∃O' H',Inv X Z O' H' s'/\Q O' H') X.xe s
noncomputable abbrev zGo:=V->V->V->Hp->(Hp->Prop)->Prop
def zHz(X:Cx)(t:zGo):Prop:=
 ∀(Z:B4<|B9×Obj)(s:B7)(O:St)(H:Hp)(o i v:V)(ov iv u:B6)(Q:Hp->Prop),Inv X Z O H s->zAi o ov->zAi i iv->zAi v u->t o i v H Q ->
  wpAny (model X.prog X.w) X.A (setItem ov iv u) (λ_ s'=>∃H',Inv X Z O H' s'/\Q H') X.xe s
section
variable{X:Cx}{pos:Pos}
def zDe(i:Nat):TG:=λv O H Q=>Q (O.set i<|some v) H
def mw{x:Str}(hN:X.N.Nodup)(hi:X.N[i]?=some x)(hx:Loc X.env.scope x)(hf:X.fn x=true\/X.env.scope.names.lookup x=some .local:=by first|exact .inl rfl|exact .inr rfl|assumption):PG X (.Name x pos)<|zDe i:=by
 intro Z s O H v u Q I r h;exact wpAny_assign_Name (fo I hN hi hx r (λs' I'=>⟨_,H,I',h⟩) hf)
def zHi:TGs:=λvs O H Q=>vs=[]/\Q O H
def zDk(t:TG)(u:TGs):TGs:=λvs O H Q=>∃v r,vs=v::r/\t v O H λO' H'=>u r O' H' Q
def mq:PGs X [] zHi:=by
 intro Z s O H vs us Q I r h;let⟨e,h⟩:=h;subst e;cases r;exact assignInOrder_nil ⟨O,H,I,h⟩
theorem gG{e:B8}{t:TG}{u:TGs}(h1:PG X e t)(h2:PGs X es u)(hs:(assignEach (e::es) X.env).map (·.2)=assign e X.env::(assignEach es X.env).map (·.2):=by rfl):PGs X (e::es)<|zDk t u:=by
 intro Z s O H vs us Q I r h;let⟨v,vr,e1,h⟩:=h;subst e1;cases r with
 |cons r rr=>
  rw[hs];refine assignInOrder_cons (thn (h1 Z s O H _ _ _ I r h) λ_ s1 zz=>?_);let⟨σ1,H1,I1,q1⟩:=zz;exact h2 Z s1 σ1 H1 _ _ Q I1 rr q1
def zGm(K:xFr)(n:Nat)(t:TGs):TG:=λv O H Q=>∃a xs,v=.ref a/\SqT K H a xs/\xs.length=n/\t xs O H Q
def kN{t:TGs}(hc:X.calm=true)(h:PGs X es t)(hn:(assignEach es X.env).length=n:=by rfl)(hst:(assignEach es X.env).findIdx? (·.1)=none:=by rfl):PG X (.Tuple es k pos)<|zGm X.K n t:=by
 intro Z s O H v u Q I r hw;let⟨a,xs,e1,hq,hl,hw⟩:=hw;subst e1;cases r;let⟨its,rv,ht,hz⟩:=I.tuple hq;refine assign_Tuple_tuple (I.ok.hd hc) ht (by simp[hn,<- hl,rv.length]) hst λh' hx=>?_;have I1:Inv X Z O H {s with heap:=h'}:=I.kept (t':=s.toks) λb o e=>hx b o (xA0<|xA1 e) e;exact h Z _ O H xs _ Q I1 (by simpa using rv) hw
def zJ5(to ti:TE)(t:zGo):TG:=λv O H Q=>to O H λo H1=>ti O H1 λi H2=>t o i v H2 λH3=>Q O H3
def wG{o i:B8}{to ti:TE}{t:zGo}(ho:PE X o to)(hi:PE X i ti)(hs:zHz X t)(ha:∀v,assign (.Subscript o i pos) X.env v=(do
   let ov <- holding [v] (eval o X.env)
   let iv <- holding [v,ov] (eval i X.env)
   standAt pos
   holding [v,ov,iv] (setItem ov iv v)
   release [v,ov,iv] []):=by intro _;rfl):PG X (.Subscript o i pos)<|zJ5 to ti t:=by
 intro Z s O H v u Q I r h;rw[ha];refine xAd (xDc<|thn (ho Z s O H _ I h) λov s1 zz=>?_);let⟨x,H1,I1,r1,q1⟩:=zz;refine xAd (xDc<|thn (hi Z s1 O H1 _ I1 q1) λiv s2 zz=>?_);let⟨y,H2,I2,r2,q2⟩:=zz;refine xAd (wpAny_standAt<|xAd<|xDc<|thn (hs Z s2 O H2 x y v ov iv u _ I2 r1 r2 r q2) λ_ s3 ⟨H3,I3,q3⟩=>?_);exact wpAny_release ⟨O,H3,I3,q3⟩
def zGz(te:TE)(g:TG):TS:=λD O H=>te O H λx H1=>g x O H1 D.nx
def pO{e:B8}{g:TG}(he:PE X e te)(hg:PG X tg g)(hs:swapsWithSole [tg] e pos.line X.env=pure false:=by rfl)(hw:swappedStores [tg] e X.env=pure none:=by rfl)(h1:(assignEach [tg] X.env).map (·.2)=[assign tg X.env]:=by rfl):PS X (.Assign [tg] e pos)<|zGz te g:=by
 intro Z s O H D I h;refine wpAny_Assign_stores (thn (he Z s O H _ I h) λv s1 ⟨x,H1,I1,r1,q1⟩=>?_) hs hw;rw[h1];exact thn (hg Z s1 O H1 x v _ I1 r1 q1) λ_ s2 q=>q
def wn{x:Str}{e:B8}{pos':Pos}(hN:X.N.Nodup)(hi:X.N[i]?=some x)(hx:Loc X.env.scope x)(he:PE X e te)(hs:swapsWith e (some<|.Name x pos') pos.line X.env=pure false:=by rfl)(hf:X.fn x=true\/X.env.scope.names.lookup x=some .local:=by first|exact .inl rfl|exact .inr rfl|assumption) :
  PS X (.Assign [.Name x pos'] e pos) (zGz te<|zDe i):=by
 intro Z s O H D I h;refine wpAny_Assign_Name (thn (he Z s O H _ I h) λv s1 ⟨y,H1,I1,r1,q1⟩=>?_) hs;exact fo I1 hN hi hx r1 (λs2 I2=>⟨_,H1,I2,q1⟩) hf
def zJg(i j:Nat)(ta:TA):TS:=λD O H=>ta O H λvs H1=>∃v w,vs=[v,w]/\D.nx ((O.set i<|some v).set j<|some w) H1
def wq{x y:Str}{a b:B8}{ta:TA}{px py pt:Pos}{kt k2 pt2}(hc:X.calm=true)(hN:X.N.Nodup)(hi:X.N[i]?=some x)(hj:X.N[j]?=some y)(hij:i≠j)(hx:X.env.scope.names.lookup x=some .local)(hy:X.env.scope.names.lookup y=some .local)(ha:PA X [a,b] ta)(hw:swappedStores [.Tuple [.Name x px,.Name y py] kt pt] (.Tuple [a,b] k2 pt2) X.env=pure (some [x,y]))(hs:swapsWithSole [.Tuple [.Name x px,.Name y py] kt pt] (.Tuple [a,b] k2 pt2) pos.line X.env=pure false:=by rfl) :
  PS X (.Assign [.Tuple [.Name x px,.Name y py] kt pt] (.Tuple [a,b] k2 pt2) pos) (zJg i j ta):=by
 intro Z s O H D I h;rw[exec_Assign_arm];refine xAd (wpAny_standAt ?_);rw[hs];refine xAd (xAe ?_);rw[xCf ∅];refine xAd (Tuple_<|thn (ha _ Z s O H _ I h) λus s1 zz=>?_);let⟨vs,H1,I1,r1,q1⟩:=zz;let⟨v,w,e1,q1⟩:=q1;subst e1;obtain⟨u1,u2,rfl,rv,rw'⟩:∃u1 u2,us=[u1,u2]/\zAi v u1/\zAi w u2:=by
  cases r1 with
  |cons p q=>
   cases q with
   |cons p' q'=>
    cases q';exact⟨_,_,rfl,p,p'⟩
 refine xBl ?_ (by show 2<=sizeLine;decide);have I2:Inv X Z O H1 {s1 with heap:=s1.heap.push {cls:=.type "tuple",data:=.seq [u1,u2].toArray} }:=I1.kept (t':=s1.toks) λb o e=>xAf _ e;rw[hw];refine xAd<|xAe ?_;show wpAny (model X.prog X.w) X.A (do rule "assign.swapped-stores";let items <- unpackItems (.ref s1.heap.objs.size) 2 none;assignInOrder [λv=>bindName X.env y v,λv=>bindName X.env x v] items.reverse;pure Flow.next) _ _ _;refine xAd (wpAny_rule<|xAd<|unpackItems_tuple (items:=#[u1,u2]) (I.ok.hd hc) (IsTup.new s1.heap _) λh' hx'=>?_);have I3:=I2.kept (h':=h') (t':=s1.toks) λb o e=>hx' b o (xA0<|xA1 e) e;show wpAny _ _ (assignInOrder [λv=>bindName X.env y v,λv=>bindName X.env x v] [u2,u1]>>=λ_=>pure Flow.next) _ _ _;erw[<-xAd<|assignInOrder_cons<|wpAny_bindName<|fo I3 hN hj (.inl hy) rw' (λs2 I4=>?_)<|.inr hy,<-assignInOrder_cons<|wpAny_bindName<|fo I4 hN hi (.inl hx) rv (λs3 I5=>assignInOrder_nil<|xAe ?_)<|.inr hx];rw[List.set_comm _ _<|Ne.symm hij] at I5;exact⟨_,H1,I5,q1⟩
end
section
variable{X:Cx}{pos:Pos}
def zEz(c:TT)(tb:TS):TS:=λD O H=>∃W:Nat->St->Hp->Prop,(∃m,W m O H)/\∀m O H,W m O H ->
 c O H λb H1=>if b=true then ∃N:St->Hp->Prop,(∀O' H',N O' H'->∃m',m'<m/\W m' O' H')/\tb {D with nx:=N,ct:=N,bk:=D.nx} O H1 else D.nx O H1
end
structure It where
 go:Nat->Hp->Prop
 yld:Nat->Hp->V->Hp->Prop
 stop:Nat->Hp->Prop
def zCz(X:Cx)(Z:B4<|B9×Obj)(H:Hp)(b:B9):Prop:=
 H b=none/\b≠X.env.locals/\b∉X.fs/\(b∈X.ex\/X.s₀.heap.objs.size<=b)/\(∀x c,X.env.cells.lookup x=some c->c≠b)/\∀p∈X.pn++Z,p.1≠b
def Inv.fpOk{O:St}{H':Hp}{b:B9}(I:Inv X Z O H s)(hb:s.heap.objs.size<=b)(hn:H' b=none):zCz X Z H' b:=by
 refine⟨hn,Nat.ne_of_gt<|xBc I.lt hb,I.nofs hb,.inr<|xCk I.sz hb,λx c e z=>?_,λp hp z=>?_⟩
 .let⟨v,q⟩:=I.cell x c e;exact absurd (xBc q.lt<|by rw[z];exact hb)<|Nat.lt_irrefl _
 .exact absurd (xBc (xA1 (I.pin p hp).1)<|by rw[z];exact hb)<|Nat.lt_irrefl _
structure zEh(P:Program)(w:World)(K:xFr)(tg:B8)(m0J:It)(fp:B4 B9)(it:B9)(tn:Nat->Heap->Prop):Prop where
 mem:it∈fp
 obj:∀i h,tn i h->∀b∈fp,∃o,h.get? b=some o/\∀v,o.data≠.cell v
 keep:∀i h h',tn i h->(∀b∈fp,∀o,h.get? b=some o->h'.get? b=some o)->tn i h'
 item:∀(X:Cx),X.prog=P->X.w=w->X.K=K->X.calm=true->∀(i:Nat)(Z:B4 (B9×Obj))(s:B7)(O:St)(H:Hp)(E:B6->B7->Prop),Inv X Z O H s->(∀b∈fp,zCz X Z H b)->tn i s.heap->m0J.go i H ->
  wpAny (model P w) X.A (pyNext (.ref it)) (λr s1=>∃u,r=some u /\
   wpAny (model P w) X.A (letOwnedTupleGo tg (.ref it) u) (λ_ s2=>∃x H',Inv X Z O H' s2/\zAi x u/\m0J.yld i H x H'/\tn (i+1) s2.heap/\∀b∈fp,H' b=none) E s1) E s
 done:∀(X:Cx),X.prog=P->X.w=w->X.K=K->X.calm=true->∀(i:Nat)(Z:B4 (B9×Obj))(s:B7)(O:St)(H:Hp)(E:B6->B7->Prop),Inv X Z O H s->(∀b∈fp,zCz X Z H b)->tn i s.heap->m0J.stop i H ->
  wpAny (model P w) X.A (pyNext (.ref it)) (λr s1=>r=none/\Inv X Z O H s1) E s
 self:∀(A:Around)(i:Nat)(s:B7)(Q:B6->B7->Prop)(E:B6->B7->Prop),tn i s.heap->Q (.ref it) s->wpAny (model P w) A (pyIter (.ref it)) Q E s
noncomputable abbrev TI:=St->Hp->(It->Hp->Prop)->Prop
def PIE(X:Cx)(Z:B4<|B9×Obj)(O:St)(tg:B8)(R:It->Hp->Prop)(itv:B6)(s2:B7):Prop:=
 ∃(it:B9) (fp:B4 B9) (tn:Nat->Heap->Prop) (m0J:It) (H':Hp),itv=.ref it/\Inv X Z O H' s2/\zEh X.prog X.w X.K tg m0J fp it tn/\tn 0 s2.heap/\(∀b∈fp,zCz X Z H' b)/\R m0J H'
def PI(X:Cx)(tg iter:B8)(wi:TI):Prop:=
 ∀(Z:B4<|B9×Obj)(s:B7)(O:St)(H:Hp)(R:It->Hp->Prop),Inv X Z O H s->wi O H R ->
  wpAny (model X.prog X.w) X.A (eval iter X.env) (λv s1=>wpAny (model X.prog X.w) X.A (pyIter v) (PIE X Z O tg R) X.xe s1) X.xe s
def nk{E:B6->B7->Prop}{u:B6}{o:Obj}{n:String}{vs:Array B6}{Q:Unit->B7->Prop}(ho:s.heap.get? it=some o)(hc:o.cls=.type n)(hd:o.data=.fields vs)(hn:["enumerate","zip","dict_itemiterator","dict_reverseitemiterator","odict_iterator","itertools.zip_longest","itertools.pairwise"].contains n=false)(hQ:Q ⟨⟩ s):wpAny M A (letOwnedTupleGo tg (.ref it) u) Q E s:=by
 unfold letOwnedTupleGo;cases tg <;> first
  |exact xAe hQ
  | (cases u <;> first
    |exact xAe hQ
    | (refine xAd (wpAny_load ho ?_)
       rw[hc,hd];show wpAny M A (if(["enumerate","zip","dict_itemiterator","dict_reverseitemiterator","odict_iterator","itertools.zip_longest","itertools.pairwise"].contains n&&vs[0]?==some (rawInt _))=true then _ else _) Q E s;rw[xCf<|by intro h;rw[hn,Bool.false_and] at h;cases h];exact xAe hQ))
def Itl(K:xFr)(a:B9):It:=
 ⟨λi H=>∃xs x,SqL K H a xs/\xs[i]?=some x,λi H x H'=>H'=H/\∀xs,SqL K H a xs->xs[i]?=some x,λi H=>∃xs,SqL K H a xs/\xs.length<=i⟩
def Itt(K:xFr)(a:B9):It:=
 ⟨λi H=>∃xs x,SqT K H a xs/\xs[i]?=some x,λi H x H'=>H'=H/\∀xs,SqT K H a xs->xs[i]?=some x,λi H=>∃xs,SqT K H a xs/\xs.length<=i⟩
def Itr(lo:Int)(n:Nat):It:=⟨λi _=>i<n,λi H x H'=>H'=H/\x=.int (lo+i),λi _=>n<=i⟩
def nS{P:Program}{w:World}(a it:B9):zEh P w K tg (Itl K a) [it] it (λi h=>h.IsListIter it a i) where
 mem:=by simp
 obj:=λi h st b hb=>by
  have e:b=it:=by simpa using hb
  subst e;let⟨o,e,c,d⟩:=st;exact⟨o,e,λv z=>by rw[d] at z;cases z⟩
 keep:=λi h h' st k=>st.at λo e=>k it ⋯ o e
 item:=by
  intro X hP hw hK hc i Z s O H E I hf st hg;subst hP hw hK;let⟨xs,x,hq,hx⟩:=hg;let⟨its,rv,p,hz⟩:=I.list hq;let⟨u,hu,ru⟩:=rv.get hx;let⟨f0,f1,f2,f3,f4,f5⟩:=hf it ⋯;refine wpAny_pyNext_list_item st p.isList (x:=u) (by simpa using hu) λh' st' sb=>?_;have I1:Inv X Z O H {s with heap:=h'}:=I.turned (t':=s.toks) (λb o hb e=>(sb.2 b hb).trans e) f0 f1 f3 f4 f5;let⟨o,e,c,d⟩:=id st';exact⟨u,rfl,nk (s:={s with heap:=h'}) e c d ∅ ⟨x,H,I1,ru,⟨rfl,λys hy=>by rw[I.list_inj hy hq];exact hx⟩,st',λb hb=>(hf b hb).1⟩⟩
 done:=by
  intro X hP hw hK hc i Z s O H E I hf st hg;subst hP hw hK;let⟨xs,hq,hx⟩:=hg;let⟨its,rv,p,hz⟩:=I.list hq;let⟨f0,f1,f2,f3,f4,f5⟩:=hf it ⋯;have hl:=rv.length;exact wpAny_pyNext_list_end (I.ok.hd hc) st p.isList (by simp;lia) λh' eb=>⟨rfl,I.turned (t':=s.toks) (λb o hb e=>eb b o hb e) f0 f1 f3 f4 f5⟩
 self:=λ_ _ _ _ _ st h=>wpAny_pyIter_listiter st h
def kn{P:Program}{w:World}(a it:B9):zEh P w K tg (Itt K a) [it] it (λi h=>h.IsTupleIter it a i) where
 mem:=by simp
 obj:=λi h st b hb=>by
  have e:b=it:=by simpa using hb
  subst e;let⟨o,e,c,d⟩:=st;exact⟨o,e,λv z=>by rw[d] at z;cases z⟩
 keep:=λi h h' st k=>st.at λo e=>k it ⋯ o e
 item:=by
  intro X hP hw hK hc i Z s O H E I hf st hg;subst hP hw hK;let⟨xs,x,hq,hx⟩:=hg;let⟨its,rv,p,hz⟩:=I.tuple hq;let⟨u,hu,ru⟩:=rv.get hx;let⟨f0,f1,f2,f3,f4,f5⟩:=hf it ⋯;refine wpAny_pyNext_tuple_item st (show s.heap.IsTuple a its.toArray from p) (x:=u) (by simpa using hu) λh' st' sb=>?_;have I1:Inv X Z O H {s with heap:=h'}:=I.turned (t':=s.toks) (λb o hb e=>(sb.2 b hb).trans e) f0 f1 f3 f4 f5;let⟨o,e,c,d⟩:=id st';exact⟨u,rfl,nk (s:={s with heap:=h'}) e c d ∅ ⟨x,H,I1,ru,⟨rfl,λys hy=>by rw[I.tuple_inj hy hq];exact hx⟩,st',λb hb=>(hf b hb).1⟩⟩
 done:=by
  intro X hP hw hK hc i Z s O H E I hf st hg;subst hP hw hK;let⟨xs,hq,hx⟩:=hg;let⟨its,rv,p,hz⟩:=I.tuple hq;let⟨f0,f1,f2,f3,f4,f5⟩:=hf it ⋯;have hl:=rv.length;exact wpAny_pyNext_tuple_end (I.ok.hd hc) st (show s.heap.IsTuple a its.toArray from p) (by simp;lia) λh' eb=>⟨rfl,I.turned (t':=s.toks) (λb o hb e=>eb b o hb e) f0 f1 f3 f4 f5⟩
 self:=λ_ _ _ _ _ st h=>wpAny_pyIter_tupleiter st h
def ko{P:Program}{w:World}(it:B9)(lo:Int)(n:Nat):zEh P w K tg (Itr lo n) [it] it (λi h=>IsRangeIter h it (lo+(i:Nat)*1) ((n:Int)-(i:Nat)) 1) where
 mem:=by simp
 obj:=λi h st b hb=>by
  have e:b=it:=by simpa using hb
  subst e;exact⟨_,st,λv z=>by
   have z':Data.fields _=Data.cell v:=z;cases z'⟩
 keep:=λi h h' st k=>k it ⋯ _ st
 item:=by
  intro X hP hw hK hc i Z s O H E I hf st hg;subst hP hw hK;let⟨f0,f1,f2,f3,f4,f5⟩:=hf it ⋯;have W:=Walks.range (prog:=X.prog) (w:=X.w) (I.ok.hd hc) it lo 1 n;refine W.item i s _ _ hg st λv h' tk hv st' kk=>?_;let⟨t,rfl⟩:=hv;have I1:Inv X Z O H {s with heap:=h',toks:=tk}:=I.turned (λb o hb e=>kk b o (by simpa using hb) e) f0 f1 f3 f4 f5;refine⟨_,rfl,nk (s:={s with heap:=h',toks:=tk}) (n:="range_iterator") st' rfl rfl ∅ ⟨.int<|lo+i,H,I1,⟨t,?_⟩,⟨rfl,rfl⟩,st',λb hb=>(hf b hb).1⟩⟩;rw[Int.mul_one]
 done:=by
  intro X hP hw hK hc i Z s O H E I hf st hg;subst hP hw hK;let⟨f0,f1,f2,f3,f4,f5⟩:=hf it ⋯;exact wpAny_pyNext_range_end (I.ok.hd hc) st (by have:n<=i:=hg;lia) λh' eb=>⟨rfl,I.turned (t':=s.toks) (λb o hb e=>eb b o hb e) f0 f1 f3 f4 f5⟩
 self:=λ_ _ _ _ _ st h=>wpAny_pyIter_rangeiter st h
section
variable{X:Cx}{tg:B8}
def pH{O:St}{R:It->Hp->Prop}{E:B6->B7->Prop}{lo hi:Int}{t u v:Tok}{tk:Nat}(I:Inv X Z O H s)(h1:-(2^62)<=lo)(h2:lo<2^62)(h3:-(2^62)<=hi)(h4:hi<2^62)(q:R (Itr lo (hi-lo).toNat) H):wpAny (model X.prog X.w) X.A (pyIter<|.ref s.heap.objs.size) (PIE X Z O tg R) E {s with heap:=s.heap.push {cls:=.type "range",data:=.fields #[.int lo t,.int hi u,.int 1 v]},toks:=tk}:=by
 refine wpAny_pyIter_range (IsRange.new ..) (small_one h1 h2 h3 h4) ?_;have I1:Inv X Z O H { s with heap:=s.heap.push { cls:=.type "range",data:=.fields #[.int lo t,.int hi u,.int 1 v] },toks:=tk }:=I.kept λb o e=>xAf _ e;refine⟨(s.heap.push { cls:=.type "range",data:=.fields #[.int lo t,.int hi u,.int 1 v] }).objs.size,[(s.heap.push { cls:=.type "range",data:=.fields #[.int lo t,.int hi u,.int 1 v] }).objs.size],_,_,H,rfl,
  I1.kept (t':=tk) λb o e=>xAf _ e,ko _ lo (hi-lo).toNat,?_,λb hb=>?_,q⟩
 .have e1:lo+((0:Nat):Int)*1=lo:=by simp
  have e2:(((hi-lo).toNat:Nat):Int)-((0:Nat):Int)=Builtin.Range.rangeSize lo hi 1:=by rw[rangeSize_one];split <;> lia
  show IsRangeIter _ _ (lo+((0:Nat):Int)*1) ((((hi-lo).toNat:Nat):Int)-((0:Nat):Int)) 1;rw[e1,e2];exact xAl _ rfl
 .have e:b=(s.heap.push {cls:=.type "range",data:=.fields #[.int lo t,.int hi u,.int 1 v]}).objs.size:=by simpa using hb
  subst e;exact I1.fpOk (xAg _)<|I1.hok.fresh<|xAg _
def zFu(ta:TA):TI:=λO H R=>ta O H λvs H1=>∃j:Int,vs=[.int j]/\-(2^62)<=j/\j<2^62/\R (Itr 0 j.toNat) H1
theorem nZ{a:B8}{ta:TA}{p:Pos}(hg:Gl X "range")(hm:X.mg "range"=none)(ha:PA X [a] ta)(hs:starEach [a] X.env=[(false,eval a X.env)]:=by rfl):PI X tg (.Call (.Name "range" p) [a] [] pos)<|zFu ta:=by
 intro Z s O H R I h;refine Call_ (fO I hg hm boot_range<|PyProof.Rows.callWith_type1 (thn (ha pos Z s O H _ I h) λus s1 ⟨vs,H1,I1,r1,q1⟩=>?_) hs rfl);let⟨j,e,q1,q2,q⟩:=q1;subst e;cases r1 with
 |cons r rr=>
  cases rr;let⟨t,rfl⟩:=r;exact call_range_1 (pH I1 () () q1 q2<|by simpa using q)
def zJl(wi:TI)(g:TG)(tb:TS):TS:=λD O H=>wi O H λm0J H1=>∃W:Nat->Nat->St->Hp->Prop,(∃m,W 0 m O H1)/\∀i m O H,W i m O H ->
 (m0J.stop i H/\D.nx O H)\/(m0J.go i H/\∃N:St->Hp->Prop,(∀O' H',N O' H'->∃m',m'<m/\W (i+1) m' O' H')/\∀x H',m0J.yld i H x H'->g x O H' λσ2 H2=>tb {D with nx:=N,ct:=N,bk:=D.nx} σ2 H2)
noncomputable def zB5(fp:B4 B9)(h:Heap):B4<|B9×Obj:=fp.filterMap λb=>(h.get? b).map λo=>(b,o)
def dY{b:B9}{o:Obj}(hb:b∈fp)(e:h.get? b=some o):(b,o)∈zB5 fp h:=List.mem_filterMap.mpr ⟨b,hb,by rw[e];rfl⟩
theorem om{p:B9×Obj}(hp:p∈zB5 fp h):p.1∈fp/\h.get? p.1=some p.2:=by
 let⟨b,hb,e⟩:=List.mem_filterMap.mp hp;cases q:h.get? b with
 |none=>rw[q] at e;cases e
 |some o=>
  rw[q] at e;have e':(b,o)=p:=xB3 e;subst e';exact⟨hb,q⟩
def Inv.pinned{O:St}(I:Inv X Z O H s)(hf:∀b∈fp,zCz X Z H b)(ho:∀b∈fp,∃o,s.heap.get? b=some o/\∀v,o.data≠.cell v):Inv X (Z++zB5 fp s.heap) O H s:=
 I.pins_of λp hp=>(xAj.mp hp).elim (λz=>I.pin p<|xBt _ z) λz=>by
  let⟨hb,e⟩:=om z;let⟨f0,f1,f2,_⟩:=hf p.1 hb;let⟨o,e',d⟩:=ho p.1 hb;rw[e] at e';cases e';exact⟨e,f0,f1,f2,d⟩
def Inv.unpinned{pl:B4<|B9×Obj}{O:St}(I:Inv X (Z++pl) O H s):Inv X Z O H s:=I.pins_of λp hp=>I.pin p<|xBt _<|xBw _ hp
end
noncomputable abbrev R2:=V->V->Hp->VK->Prop
def OpR(X:Cx)(f:B6->B6->Sem B6)(r:R2):Prop:=
 ∀(Z:B4<|B9×Obj)(s:B7)(O:St)(H:Hp)(x y:V)(v u:B6)(Q:VK),Inv X Z O H s->zAi x v->zAi y u->r x y H Q ->
  wpAny (model X.prog X.w) X.A (f v u) (EP X Z O Q) X.xe s
def UnR(X:Cx)(f:B6->Sem B6)(r:V->Hp->VK->Prop):Prop:=
 ∀(Z:B4<|B9×Obj)(s:B7)(O:St)(H:Hp)(x:V)(v:B6)(Q:VK),Inv X Z O H s->zAi x v->r x H Q ->
  wpAny (model X.prog X.w) X.A (f v) (EP X Z O Q) X.xe s
def zAn(X:Cx)(f:B6)(r:C6->Hp->VK->Prop):Prop:=
 ∀(Z:B4<|B9×Obj)(s:B7)(O:St)(H:Hp)(xs:C6)(us:C7)(Q:VK),Inv X Z O H s->zAh xs us->r xs H Q ->
  wpAny (model X.prog X.w) X.A (call f us) (EP X Z O Q) X.xe s
def zKc(X:Cx)(r:V->Hp->(B'->Hp->Prop)->Prop):Prop:=
 ∀(Z:B4<|B9×Obj)(s:B7)(O:St)(H:Hp)(x:V)(v:B6)(Q:B'->Hp->Prop),Inv X Z O H s->zAi x v->r x H Q ->
  wpAny (model X.prog X.w) X.A (truthy v) (TP X Z O Q) X.xe s
def tOp(r:R2)(ta tb:TE):TE:=λO H Q=>ta O H λx H1=>tb O H1 λy H2=>r x y H2 Q
def tUn(r:V->Hp->VK->Prop)(ta:TE):TE:=λO H Q=>ta O H λx H1=>r x H1 Q
def rI(C:Int->Int->Prop)(g:Int->Int->V):R2:=λx y H Q=>∃i j,x=.int i/\y=.int j/\C i j/\Q (g i j) H
def rI0(g:Int->Int->V):R2:=λx y H Q=>∃i j,x=.int i/\y=.int j/\Q (g i j) H
def rU(g:Int->V):V->Hp->VK->Prop:=λx H Q=>∃i,x=.int i/\Q (g i) H
section
variable{X:Cx}{a b c:B8}{ta tb tc:TE}{pos:Pos}
def zHt(ha:PE X a ta)(hb:PE X b tb){O:St}{R:V->V->Hp->Prop}(I:Inv X Z O H s)(h:ta O H λx H1=>tb O H1 λy H2=>R x y H2){f:B6->B6->Sem B6}(hf:∀v u s2 x y H2,Inv X Z O H2 s2->zAi x v->zAi y u->R x y H2->wpAny (model X.prog X.w) X.A (f v u) Q X.xe s2) :
  wpAny (model X.prog X.w) X.A (eval a X.env) (λv s₁=>wpAny (model X.prog X.w) X.A (eval b X.env) (λu s₂=>wpAny (model X.prog X.w) X.A (f v u) Q X.xe s₂) X.xe s₁) X.xe s:=by
 refine thn (ha Z s O H _ I h) λv s1 zz=>?_;let⟨x,H1,I1,r1,q1⟩:=zz;refine thn (hb Z s1 O H1 _ I1 q1) λu s2 zz=>?_;let⟨y,H2,I2,r2,q2⟩:=zz;exact hf v u s2 x y H2 I2 r1 r2 q2
def zy{op:Operator}{r:R2}(ho:OpR X (binaryOp op) r)(ha:PE X a ta)(hb:PE X b tb):PE X (.BinOp a op b pos)<|tOp r ta tb:=by
 intro Z s O H Q I h;exact wpAny_BinOp (zHt ha hb I h λv u s2 x y H2 I2 rx ry q=>ho Z s2 O H2 x y v u Q I2 rx ry q)
def zw{op:UnaryOp}{r:V->Hp->VK->Prop}(ho:UnR X (unaryOp op) r)(ha:PE X a ta):PE X (.UnaryOp op a pos)<|tUn r ta:=by
 intro Z s O H Q I h;exact UnaryOp_ (thn (ha Z s O H _ I h) λv s1 ⟨x,H1,I1,r1,q1⟩=>ho Z s1 O H1 x v Q I1 r1 q1)
def opI{f:B6->B6->Sem B6}{C:Int->Int->Prop}(rule:∀(i j:Int)(t u:Tok)(s:B7)(Q:B6->B7->Prop)(E:B6->B7->Prop),C i j->Q (.int (g i j) s.toks) {s with toks:=s.toks+1}->wpAny (model X.prog X.w) X.A (f (.int i t)<|.int j u) Q E s) :
  OpR X f (rI C λi j=>.int<|g i j):=by
 intro Z s O H x y v u Q I rx ry h;let⟨i,j,rfl,rfl,hc,q⟩:=h;let⟨t,rfl⟩:=rx;let⟨t',rfl⟩:=ry;exact rule i j t t' s _ _ hc ⟨.int<|g i j,H,I.tok _,⟨_,rfl⟩,q⟩
def zIm{f:B6->B6->Sem B6}(rule:∀(i j:Int)(t u:Tok)(s:B7)(Q:B6->B7->Prop)(E:B6->B7->Prop),Q (.int (g i j) s.toks) {s with toks:=s.toks+1}->wpAny (model X.prog X.w) X.A (f (.int i t)<|.int j u) Q E s) :
  OpR X f (rI0 λi j=>.int<|g i j):=by
 intro Z s O H x y v u Q I rx ry h;let⟨i,j,rfl,rfl,q⟩:=h;let⟨t,rfl⟩:=rx;let⟨t',rfl⟩:=ry;exact rule i j t t' s _ _ ⟨.int<|g i j,H,I.tok _,⟨_,rfl⟩,q⟩
def zGg{f:B6->B6->Sem B6}{g:Int->Int->B'}(rule:∀(i j:Int)(t u:Tok)(s:B7)(Q:B6->B7->Prop)(E:B6->B7->Prop),Q (.bool<|g i j) s->wpAny (model X.prog X.w) X.A (f (.int i t)<|.int j u) Q E s) :
  OpR X f (rI0 λi j=>.bl<|g i j):=by
 intro Z s O H x y v u Q I rx ry h;let⟨i,j,rfl,rfl,q⟩:=h;let⟨t,rfl⟩:=rx;let⟨t',rfl⟩:=ry;exact rule i j t t' s _ _ ⟨.bl<|g i j,H,I,rfl,q⟩
def zI8(i j:Int):Prop:=0<=j/\j<=1000000/\i.natAbs<2^64
def xk:OpR X (binaryOp .Add)<|rI0 λi j=>.int<|i+j:=zIm λ_ _ _ _ _ _ _ q=>add_int q
def xc:OpR X (binaryOp .Sub)<|rI0 λi j=>.int<|i-j:=zIm λ_ _ _ _ _ _ _ q=>sub_int q
def xg:OpR X (binaryOp .Mod)<|rI (λ_ j=>0<j) λi j=>.int<|i%j:=opI λi j _ _ _ _ _ hc q=>by
 have h1:(0:Int)<j:=hc;exact mod_int' () (by rw[Int.fmod_eq_emod_of_nonneg i ()];exact q)
def xf:OpR X (binaryOp .Pow)<|rI zI8 λi j=>.int<|i^j.toNat:=opI λ_ _ _ _ _ _ _ hc q=>pow_int_small hc.1 hc.2.1 hc.2.2 q
def unI{f:B6->Sem B6}{g:Int->Int}(rule:∀(i:Int)(t:Tok)(s:B7)(Q:B6->B7->Prop)(E:B6->B7->Prop),Q (.int (g i) s.toks) {s with toks:=s.toks+1}->wpAny (model X.prog X.w) X.A (f<|.int i t) Q E s) :
  UnR X f (rU λi=>.int<|g i):=by
 intro Z s O H x v Q I rx h;let⟨i,rfl,q⟩:=h;let⟨t,rfl⟩:=rx;exact rule i t s _ _ ⟨.int<|g i,H,I.tok _,⟨_,rfl⟩,q⟩
def vO:UnR X (unaryOp .USub)<|rU λi=>.int (-i):=unI λ_ _ _ _ _ q=>neg_int q
end
noncomputable def scal:V->V->B'
 |.non,.non=>true|.non,.int _=>true|.int _,.non=>true|.non,.bl _=>true|.bl _,.non=>true|.non,.str _=>true|.str _,.non=>true
 |.int _,.int _=>true|.bl _,.bl _=>true|.str _,.str _=>true|.byt _,.byt _=>true
 |.int _,.str _=>true|.str _,.int _=>true|.bl _,.str _=>true|.str _,.bl _=>true
 |_,_=>false
def rEq:R2:=λx y H Q=>scal x y=true/\Q (.bl<|decide<|x=y) H
def rNe:R2:=λx y H Q=>scal x y=true/\Q (.bl (!decide (x=y))) H
def nD{i j:Int}:decide (V.int i=V.int j)=(i==j):=by
 rw[Bool.eq_iff_iff];simp
def rO{i j:B'}:decide (V.bl i=V.bl j)=(i==j):=by
 rw[Bool.eq_iff_iff];simp
def nC{i j:Str}:decide (V.str i=V.str j)=(i==j):=by
 rw[Bool.eq_iff_iff];simp
def nE{i j:Array UInt8}:decide (V.byt i=V.byt j)=(i.toList==j.toList):=by
 rw[Bool.eq_iff_iff];cases i;cases j;simp
section
variable{X:Cx}{a b c:B8}{ta tb tc:TE}{pos:Pos}
def cf{O:St}{Q:VK}{k k':B'}(I:Inv X Z O H s)(q:Q (.bl k) H)(e:k=k'):EP X Z O Q (.bool k') s:=by
 subst e;exact⟨.bl k,H,I,rfl,q⟩
theorem z0:OpR X (compareOp .Eq) rEq:=by
 intro Z s O H x y v u Q I rx ry h;let⟨hs,q⟩:=h;cases x with
 |non=>
  cases rx;cases y with
  |non=>cases ry;exact PySem.EqNone.eq_none_none (cf I q ⋯)
  |bl j=>cases ry;exact PySem.EqNone.eq_none_bool (cf I q ⋯)
  |int j=>let⟨t',rfl⟩:=ry;exact PySem.EqNone.eq_none_int (cf I q ⋯)
  |str j=>let⟨t',rfl⟩:=ry;exact PySem.EqNone.eq_none_str (cf I q ⋯)
  |_=>exact absurd (show false=true from hs) xAy
 |bl i=>
  cases rx;cases y with
  |non=>cases ry;exact PySem.EqNone.eq_bool_none (cf I q ⋯)
  |bl j=>cases ry;exact eq_bool<|cf I q rO
  |str j=>let⟨t',rfl⟩:=ry;exact PySem.EqMixed.eq_bool_str (cf I q ⋯)
  |_=>exact absurd (show false=true from hs) xAy
 |int i=>
  let⟨t,rfl⟩:=rx;cases y with
  |non=>cases ry;exact PySem.EqNone.eq_int_none (cf I q ⋯)
  |int j=>let⟨t',rfl⟩:=ry;exact eq_int<|cf I q nD
  |str j=>let⟨t',rfl⟩:=ry;exact PySem.EqMixed.eq_int_str (cf I q ⋯)
  |_=>exact absurd (show false=true from hs) xAy
 |str i=>
  let⟨t,rfl⟩:=rx;cases y with
  |non=>cases ry;exact PySem.EqNone.eq_str_none (cf I q ⋯)
  |bl j=>cases ry;exact PySem.EqMixed.eq_str_bool (cf I q ⋯)
  |int j=>let⟨t',rfl⟩:=ry;exact PySem.EqMixed.eq_str_int (cf I q ⋯)
  |str j=>let⟨t',rfl⟩:=ry;exact eq_str<|cf I q nC
  |_=>exact absurd (show false=true from hs) xAy
 |byt i=>
  let⟨t,rfl⟩:=rx;cases y with
  |byt j=>let⟨t',rfl⟩:=ry;exact W.eq_bytes<|cf I q nE
  |_=>exact absurd (show false=true from hs) xAy
 |_=>cases y <;> exact absurd (show false=true from hs) xAy
theorem zZ:OpR X (compareOp .NotEq) rNe:=by
 intro Z s O H x y v u Q I rx ry h;let⟨hs,q⟩:=h;cases x with
 |non=>
  cases rx;cases y with
  |non=>cases ry;exact PySem.EqNone.ne_none_none (cf I q ⋯)
  |bl j=>cases ry;exact PySem.EqNone.ne_none_bool (cf I q ⋯)
  |int j=>let⟨t',rfl⟩:=ry;exact PySem.EqNone.ne_none_int (cf I q ⋯)
  |str j=>let⟨t',rfl⟩:=ry;exact PySem.EqNone.ne_none_str (cf I q ⋯)
  |_=>exact absurd (show false=true from hs) xAy
 |bl i=>
  cases rx;cases y with
  |non=>cases ry;exact PySem.EqNone.ne_bool_none (cf I q ⋯)
  |bl j=>cases ry;exact ne_bool<|cf I q<|congrArg not rO
  |str j=>let⟨t',rfl⟩:=ry;exact PySem.EqMixed.ne_bool_str (cf I q ⋯)
  |_=>exact absurd (show false=true from hs) xAy
 |int i=>
  let⟨t,rfl⟩:=rx;cases y with
  |non=>cases ry;exact PySem.EqNone.ne_int_none (cf I q ⋯)
  |int j=>let⟨t',rfl⟩:=ry;exact ne_int<|cf I q<|congrArg not nD
  |str j=>let⟨t',rfl⟩:=ry;exact PySem.EqMixed.ne_int_str (cf I q ⋯)
  |_=>exact absurd (show false=true from hs) xAy
 |str i=>
  let⟨t,rfl⟩:=rx;cases y with
  |non=>cases ry;exact PySem.EqNone.ne_str_none (cf I q ⋯)
  |bl j=>cases ry;exact PySem.EqMixed.ne_str_bool (cf I q ⋯)
  |int j=>let⟨t',rfl⟩:=ry;exact PySem.EqMixed.ne_str_int (cf I q ⋯)
  |str j=>let⟨t',rfl⟩:=ry;exact ne_str<|cf I q<|congrArg not nC
  |_=>exact absurd (show false=true from hs) xAy
 |byt i=>
  let⟨t,rfl⟩:=rx;cases y with
  |byt j=>let⟨t',rfl⟩:=ry;exact W.ne_bytes<|cf I q<|congrArg not nE
  |_=>exact absurd (show false=true from hs) xAy
 |_=>cases y <;> exact absurd (show false=true from hs) xAy
def vm:OpR X (compareOp .Lt)<|rI0 λi j=>.bl<|decide<|i<j:=zGg λ_ _ _ _ _ _ _ q=>lt_int q
def vn:OpR X (compareOp .LtE)<|rI0 λi j=>.bl<|decide<|i<=j:=zGg λ_ _ _ _ _ _ _ q=>le_int q
def vo:OpR X (compareOp .Gt)<|rI0 λi j=>.bl<|decide<|j<i:=zGg λ_ _ _ _ _ _ _ q=>gt_int q
def vp:OpR X (compareOp .GtE)<|rI0 λi j=>.bl<|decide<|j<=i:=zGg λ_ _ _ _ _ _ _ q=>ge_int q
def oi:OpR X (compareOp .In) λx y H Q=>∃i j,x=.str i/\y=.str j/\Q (.bl (!(Builtin.Str.occurrences j i 0 j.length 1).isEmpty)) H:=by
 intro Z s O H x y v u Q I rx ry h;let⟨i,j,rfl,rfl,q⟩:=h;let⟨t,rfl⟩:=rx;let⟨t',rfl⟩:=ry;exact in_str<|cf I q rfl
def xh:OpR X (compareOp .Is) λx y H Q=>y=.non/\Q (.bl<|decide<|x=.non) H:=by
 intro Z s O H x y v u Q I rx ry h;let⟨rfl,q⟩:=h;cases ry;refine is_none_gen<|cf I q ?_;cases x <;> first
  |(cases rx;rfl)
  |(let⟨t,rfl⟩:=rx;rfl)
def iX:OpR X (compareOp .NotIn) λx y H Q=>∃i j,x=.str i/\y=.str j/\Q (.bl (!(!(Builtin.Str.occurrences j i 0 j.length 1).isEmpty))) H:=by
 intro Z s O H x y v u Q I rx ry h;let⟨i,j,rfl,rfl,q⟩:=h;let⟨t,rfl⟩:=rx;let⟨t',rfl⟩:=ry;exact notIn_str<|cf I q rfl
def mx{r:R2}(ho:OpR X (compareOp op) r)(ha:PE X a ta)(hb:PE X b tb)(hm:behindInMarks op b=false):PE X (.Compare a [op] [b] pos)<|tOp r ta tb:=by
 intro Z s O H Q I h;exact wpAny_Compare1 (zHt ha hb I h λv u s2 x y H2 I2 rx ry q=>ho Z s2 O H2 x y v u Q I2 rx ry q) hm
def zE0(t:TE):TT:=λO H Q=>t O H λx H'=>∃k,x=.bl k/\Q k H'
def lZ{r:R2}(ho:OpR X (compareOp op) r)(ha:PE X a ta)(hb:PE X b tb)(hm:behindInMarks op b=false):PT X (.Compare a [op] [b] pos)<|zE0<|tOp r ta tb:=by
 intro Z s O H Q I h;refine wpAny_isTrue_Compare1 (thn (ha Z s O H _ I h) λv s1 ⟨x,H1,I1,r1,q1⟩=>thn (hb Z s1 O H1 _ I1 q1) λu s2 ⟨y,H2,I2,r2,q2⟩ =>
  thn (ho Z s2 O H2 x y v u _ I2 r1 r2 q2) λc s3 ⟨z,H3,I3,r3,k,e,q3⟩=>?_) hm
 subst e;cases r3;exact wpAny_truthy_bool ⟨H3,I3,q3⟩
def zC1(r r':R2)(ta tb tc:TE):TE:=λO H Q=>ta O H λx H1=>tb O H1 λy H2=>r x y H2 λz H3=>∃k,z=.bl k /\
 (if k=true then tc O H3 λw' H4=>r' y w' H4 Q else Q (.bl false) H3)
theorem qj{r:R2}(ho:OpR X (compareOp op) r)(ho':OpR X (compareOp op') r')(ha:PE X a ta)(hb:PE X b tb)(hc:PE X c tc)(hm:lastMarks [op,op'] [b,c]=false:=by with_unfolding_all rfl):PE X (.Compare a [op,op'] [b,c] pos)<|zC1 r r' ta tb tc:=by
 intro Z s O H Q I h;refine Compare_chain (thn (ha Z s O H _ I h) λv s1 ⟨x,H1,I1,r1,q1⟩=>chain_link (thn (hb Z s1 O H1 _ I1 q1) λu s2 ⟨y,H2,I2,r2,q2⟩ =>
  thn (ho Z s2 O H2 x y v u _ I2 r1 r2 q2) λd s3 ⟨z,H3,I3,r3,k,e,q3⟩=>?_)) hm
 subst e;cases r3;erw[wpAny_truthy_bool];cases k with
 |false=>exact ite_ff ⟨.bl false,H3,I3,rfl,q3⟩
 |true=>exact ite_tt (chain_last<|thn (hc Z s3 O H3 _ I3 q3) λw' s4 ⟨z',H4,I4,r4,q4⟩=>ho' Z s4 O H4 y z' u w' Q I4 r2 r4 q4)
theorem pL{r:R2}(ho:OpR X (compareOp op) r)(ho':OpR X (compareOp op') r')(ha:PE X a ta)(hb:PE X b tb)(hc:PE X c tc)(hm:lastMarks [op,op'] [b,c]=false:=by with_unfolding_all rfl):PT X (.Compare a [op,op'] [b,c] pos)<|zE0<|zC1 r r' ta tb tc:=by
 intro Z s O H Q I h;refine isTrue_chain (thn (ha Z s O H _ I h) λv s1 ⟨x,H1,I1,r1,q1⟩=>test_link (thn (hb Z s1 O H1 _ I1 q1) λu s2 ⟨y,H2,I2,r2,q2⟩ =>
  thn (ho Z s2 O H2 x y v u _ I2 r1 r2 q2) λd s3 ⟨z,H3,I3,r3,k,e,q3⟩=>?_)) hm
 subst e;cases r3;erw[wpAny_truthy_bool];cases k with
 |false=>
  let⟨k',e',q'⟩:=q3;cases e';exact ite_ff ⟨H3,I3,q'⟩
 |true=>
  refine ite_tt (test_last<|thn (hc Z s3 O H3 _ I3 q3) λw' s4 ⟨z',H4,I4,r4,q4⟩=>thn (ho' Z s4 O H4 y z' u w' _ I4 r2 r4 q4) λd' s5 zz=>?_);let⟨z2,H5,I5,r5,k2,e2,q5⟩:=zz;subst e2;cases r5;exact wpAny_truthy_bool ⟨H5,I5,q5⟩
def zHy(K:xFr)(x:V)(H:Hp)(k:B'):Prop:=
 match x with
 |.non=>k=false
 |.bl b=>k=b
 |.int i=>k=(i != 0)
 |.str y=>y.length<=sizeLine/\k=((y.length:Int) != 0)
 |.byt y=>y.size<=sizeLine/\k=((y.size:Int) != 0)
 |.ref p=>(∃xs,SqL K H p xs/\k=!xs.isEmpty)\/(∃xs,SqT K H p xs/\k=!xs.isEmpty)\/∃kvs,H p=some (.dK kvs)/\k=!kvs.isEmpty
 |_=>False
def kY{κ:Type}{kvs:B4<|κ×V}{vs:B4<|κ×B6}(r:KV kvs vs):(!vs.isEmpty)=!kvs.isEmpty:=by
 cases r <;> rfl
def gT{xs:C6}{its:C7}(r:zAh xs its):(!its.toArray.isEmpty)=!xs.isEmpty:=by
 cases r <;> simp
def zBx:(sizeLine:Nat)<2^63:=by rw[sizeLine_eq];decide
theorem vT:zKc X λx H Q=>∃k,zHy X.K x H k/\Q k H:=by
 intro Z s O H x v Q I rx h;let⟨k,e,q⟩:=h;have hl:=zBx;have hs:sizeLine=16777216:=sizeLine_eq;cases x with
 |non=>
  cases rx;have e':k=false:=e;subst e';exact truthy_none ⟨H,I,q⟩
 |bl b=>
  cases rx;have e':k=b:=e;subst e';exact wpAny_truthy_bool ⟨H,I,q⟩
 |int i=>
  let⟨t,rfl⟩:=rx;have e':k=(i != 0):=e;subst e';exact PySem.P.truthy_int ⟨H,I,q⟩
 |str y=>
  let⟨t,rfl⟩:=rx;obtain⟨hy,e'⟩:y.length<=sizeLine/\k=((y.length:Int) != 0):=e;subst e';exact PySem.P.truthy_str () ⟨H,I.tok _,q⟩
 |byt y=>
  let⟨t,rfl⟩:=rx;obtain⟨hy,e'⟩:y.size<=sizeLine/\k=((y.size:Int) != 0):=e;subst e';exact W.truthy_bytes () ⟨H,I.tok _,q⟩
 |ref p=>
  cases rx;have e':(∃xs,SqL X.K H p xs/\k=!xs.isEmpty)\/(∃xs,SqT X.K H p xs/\k=!xs.isEmpty)\/∃kvs,H p=some (.dK kvs)/\k=!kvs.isEmpty:=e;rcases e' with ⟨xs,hx,e'⟩|⟨xs,hx,e'⟩|⟨kvs,hx,e'⟩
  .subst e';let⟨its,r,pl,hz⟩:=I.list hx;have hlen:=r.length;exact wpAny_truthy_list pl.isList (by simp only[xAp];lia) ⟨H,I.tok _,by rw[gT r];exact q⟩
  .subst e';let⟨its,r,pl,hz⟩:=I.tuple hx;have hlen:=r.length;exact truthy_tuple pl (by simp only[xAp];lia) ⟨H,I.tok _,by rw[gT r];exact q⟩
  .subst e';obtain⟨hz,hS,vs,r,m⟩:kvs.length<=sizeLine/\(p==sysModules)=false/\∃vs,KV kvs vs/\s.heap.DictOf (zAk X.prog X.w) p vs:=I.hok p _ hx;have hlen:kvs.length=vs.length:=Paired.length r;exact wpAny_truthy_dict hS m () ⟨H,I.tok _,by rw[kY r];exact q⟩
 |_=>exact(show False from e).elim
def pK(ha:PE X a ta)(he:∀whole,isTrue a X.env whole=(do let v <- whole;standAt a.pos;holding [v] (truthy v))) :
  PT X a (λO H Q=>ta O H λx H'=>∃k,zHy X.K x H' k/\Q k H'):=by
 intro Z s O H Q I h;exact isTrue_plain (thn (ha Z s O H _ I h) λv s1 ⟨x,H1,I1,r1,q1⟩=>vT Z s1 O H1 x v Q I1 r1 q1) (he _)
theorem zBe{x:V}{us:C7}(r:zAh [x] us):∃u,us=[u]/\zAi x u:=by
 cases r with
 |cons r1 r2=>cases r2;exact⟨_,rfl,r1⟩
theorem zD2{x:V}{us:C7}(r:zAh [x,y] us):∃u w',us=[u,w']/\zAi x u/\zAi y w':=by
 cases r with
 |cons r1 r2=>
  cases r2 with
  |cons r3 r4=>cases r4;exact⟨_,_,rfl,r1,r3⟩
def sd:zAn X (.builtin "abs") λxs H Q=>∃i,xs=[.int i]/\Q (.int<|if i<0 then -i else i) H:=by
 intro Z s O H xs us Q I r h;let⟨i,rfl,q⟩:=h;let⟨u,rfl,t,rfl⟩:=zBe r;exact call_abs_int λu tk=>⟨.int<|if i<0 then -i else i,H,I.tok _,⟨_,rfl⟩,q⟩
def oM(hc:X.calm=true):zAn X (.builtin "max") λxs H Q=>∃i j,xs=[.int i,.int j]/\Q (.int<|if j>i then j else i) H:=by
 intro Z s O H xs us Q I r h;let⟨i,j,rfl,q⟩:=h;let⟨u,w',rfl,⟨t,rfl⟩,⟨t',rfl⟩⟩:=zD2 r;refine max_two_ints (I.ok.hd hc) λh' tk k=>⟨_,H,I.kept k,?_,q⟩
 by_cases hj:j>i
 .rw[xCg hj,xCg hj];exact⟨_,rfl⟩
 .rw[xCf hj,xCf hj];exact⟨_,rfl⟩
def oK(hc:X.calm=true):zAn X (.builtin "min") λxs H Q=>∃i j,xs=[.int i,.int j]/\Q (.int<|if j<i then j else i) H:=by
 intro Z s O H xs us Q I r h;let⟨i,j,rfl,q⟩:=h;let⟨u,w',rfl,⟨t,rfl⟩,⟨t',rfl⟩⟩:=zD2 r;refine min_two_ints (I.ok.hd hc) λh' tk k=>⟨_,H,I.kept k,?_,q⟩
 by_cases hj:j<i
 .rw[xCg hj,xCg hj];exact⟨_,rfl⟩
 .rw[xCf hj,xCf hj];exact⟨_,rfl⟩
def oQ:zAn X (.type "int") λxs H Q=>(∃i,xs=[.int i]/\Q (.int i) H)\/∃k,xs=[.bl k]/\Q (.int<|if k then 1 else 0) H:=by
 intro Z s O H xs us Q I r h;rcases h with ⟨i,rfl,q⟩|⟨k,rfl,q⟩
 .let⟨u,rfl,t,rfl⟩:=zBe r;exact call_int_int ⟨.int i,H,I,⟨_,rfl⟩,q⟩
 .let⟨u,rfl,r1⟩:=zBe r;cases r1;exact call_int_bool ⟨.int<|if k then 1 else 0,H,I.tok _,⟨_,rfl⟩,q⟩
def zI5(K:xFr)(x:V)(H:Hp)(n:Nat):Prop:=
 match x with
 |.str y=>y.length<=sizeLine/\n=y.length
 |.byt y=>y.size<=sizeLine/\n=y.size
 |.ref p=>(∃xs,SqL K H p xs/\n=xs.length)\/∃xs,SqT K H p xs/\n=xs.length
 |_=>False
theorem rZ:zAn X (.builtin "len") λxs H Q=>∃x n,xs=[x]/\zI5 X.K x H n/\Q (.int n) H:=by
 intro Z s O H xs us Q I r h;let⟨x,n,rfl,e,q⟩:=h;let⟨u,rfl,rx⟩:=zBe r;have hl:=zBx;have hs:sizeLine=16777216:=sizeLine_eq;cases x with
 |str y=>
  let⟨t,rfl⟩:=rx;obtain⟨hy,e'⟩:y.length<=sizeLine/\n=y.length:=e;subst e';exact len_str () ⟨.int _,H,I.tok _,⟨_,rfl⟩,q⟩
 |byt y=>
  let⟨t,rfl⟩:=rx;obtain⟨hy,e'⟩:y.size<=sizeLine/\n=y.size:=e;subst e';exact W.len_bytes () ⟨.int _,H,I.tok _,⟨_,rfl⟩,q⟩
 |ref p=>
  cases rx;have e':(∃xs,SqL X.K H p xs/\n=xs.length)\/∃xs,SqT X.K H p xs/\n=xs.length:=e;rcases e' with ⟨xs,hx,e'⟩|⟨xs,hx,e'⟩
  .subst e';let⟨its,r',pl,hz⟩:=I.list hx;have hlen:=r'.length;exact Calls.call_len_list pl.isList (by simp only[xAp];lia) ⟨.int xs.length,H,I.tok _,⟨_,by simp only[xAp];rw[hlen]⟩,q⟩
  .subst e';let⟨its,r',pl,hz⟩:=I.tuple hx;have hlen:=r'.length;exact len_tuple pl (by simp only[xAp];lia) ⟨.int xs.length,H,I.tok _,⟨_,by simp only[xAp];rw[hlen]⟩,q⟩
 |_=>exact(show False from e).elim
end
structure zEi(h:Heap)(x dx C:B9)(mA:Str->B5 B6):Prop where
 obj:h.get? x=some (W.instObj C dx)
 ns:h.Ns1 dx mA
 ne:dx≠x
set_option tactic.hygienic true
def ow{mA:Str->B5 B6}(n:h.Ns1 dx mA):∃od,h.get? dx=some od/\∀name,W.lookIn name od=some (mA name):=by
 let⟨o,es,ep,ho,hd,hk,_,hm⟩:=n;refine⟨o,ho,λname=>?_⟩;have e:=hm name;unfold nsFind findBy at e;rw[<- Array.find?_toList] at e;unfold W.lookIn;rw[hd];dsimp only;split
 .rename_i y q
  rw[q] at e;exact congrArg some e
 .rename_i q
  rw[q] at e;have a:es.toList.any (·.refKey)=false:=by
   rw[List.any_eq_false];intro y hy;let⟨z,t,hkey⟩:=hk y<|Array.mem_toList_iff.mp hy;simp[DictEntry.refKey,hkey]
  have a':¬ es.toList.any (·.refKey)=true:=by rw[a];exact xAy
  rw[xCf a'];exact congrArg some e
set_option tactic.hygienic false
def zEi.look{x:B9}{mA:Str->B5 B6}(I:zEi h x dx C mA):∃od,PySem.W.InstAt h x (W.instObj C dx) C (some od)/\∀name,W.lookIn name od=some (mA name):=
 let ⟨od,ho,hl⟩:=ow I.ns
 ⟨od,⟨I.obj,rfl,rfl,ho⟩,hl⟩
section
variable{prog:Program}{w:World}{A:Around}{E:B6->B7->Prop}{s:B7}{K:xFr}{x dx C f:B9}{mA:Str->B5 B6}{name:Str}{v:B6}
def uF{expr:B'}(X:K.In s.heap)(I:zEi s.heap x dx C mA)(hg:W.plainGet K C name=true)(hh:W.hasDictIn K C=true)(ha:W.findIn K (.ref C) name=some none)(hv:mA name=some v)(hv':W.handedIn v=true)(h:Q v {s with toks:=s.toks+1}) :
  wpAny (model prog w) A (getAttr (.ref x) name expr) Q E s:=by
 let⟨od,m0J,hl⟩:=I.look;exact W.get_value X m0J (W.plainGet_of hg).1 (W.findObj_own hh ha rfl<|by rw[hl,hv]) hv' h
def rl{pl:Sem B'}{Q:B6×C7->B7->Prop}(X:K.In s.heap)(I:zEi s.heap x dx C mA)(hg:W.plainGet K C name=true)(hf:W.findIn K (.ref C) name=some (some<|.ref f))(ht:W.isFn K (.ref f)=true)(hv:mA name=none)(h:Q (.ref f,[.ref x]) s) :
  wpAny (model prog w) A (getMethod (.ref x) name pl) Q E s:=by
 let⟨od,m0J,hl⟩:=I.look;exact W.method_fn X m0J (W.plainGet_of hg).1 (W.plainGet_of hg).2 hf (beq_iff_eq.mp ht) (by show(W.lookIn name od).map (·.isSome)=some false;rw[hl,hv];rfl) h
def sX{ns:C0}{Q:Unit->B7->Prop}(X:K.In s.heap)(I:zEi s.heap x dx C mA)(hs:W.findIn K (.ref C) "__setattr__"=some (some<|.builtin "object.__setattr__"))(hp:W.plainOver K C=true)(ht:W.takerIn K C name=some none)(hh:W.hasDictIn K C=true)(hw:PySem.Within mA ns)(hsz:ns.length<=sizeLine)(h:∀h',zEi h' x dx C (λy=>if y=name then some v else mA y)->Heap.SameBut dx s.heap h'->Q ⟨⟩ {s with heap:=h',toks:=s.toks+2}) :
  wpAny (model prog w) A (setAttr (.ref x) name v) Q E s:=by
 let⟨od,m0J,hl⟩:=I.look;refine W.set_plain X m0J hs (W.osa_open (s:={s with toks:=s.toks+1}) (r:=none) X m0J hp ht λb=>?_);let⟨cd,hc,hd'⟩:=W.any_some hh;have hx:s.heap.get? x=some ⟨.ref C,some dx,.plain,#[]⟩:=I.obj;refine xAd<|xAe<|xAd<|xAd<|wpAny_loadPart hx<|xAd<|PySem.W.Looks.here (s:={s with toks:=s.toks+1}) (W.looks_clsIn X hc) ?_;rw[hd'];erw[<-xAe (a:=some dx)<|xAd<|xAe<|xAd ?_,<-wpAny_nsSet1 (s:={s with toks:=s.toks+1}) I.ns λh' hn2 hs2=>?_];let⟨oD,esD,epD,hoD,hdD,hcD⟩:=hn2.count<|PySem.Within.cons name v hw;refine xAd<|wpAny_lookBehind hoD (by rw[hdD];exact pastItsLine_dict (xCk hcD<|by rw[xAo];lia)) ?_;exact xAe<|h _ ⟨(hs2.2 _<|Ne.symm I.ne).trans I.obj,hn2,I.ne⟩ hs2
def qO{R:Result->B7->Prop}{vs:C7}(X:K.In s.heap)(hm:W.makesIn K C=true)(hi:W.findIn K (.ref C) "__init__"=some (some<|.ref f))(hf:W.typeIn K (.ref f)=some (.type "function"))(h:codeAny (model prog w) (A.under<|.builtin "type.__call__" ⟨.ref C::vs,kw⟩) (.call (.ref f) ⟨.ref (s.heap.objs.size+1)::vs,kw⟩) (PySem.W.InitBack (s.heap.objs.size+1) R)
   {s with heap:=(s.heap.push W.emptyDict).push<|W.instObj C s.heap.objs.size}) :
  codeAny (model prog w) A (.call (.ref C) ⟨vs,kw⟩) R s:=by
 let⟨hh,g,d,t,os⟩:=s;exact W.make_core (W.makes_of X hm) (W.looks_findIn X hi) (λself=>W.bind_fn X self hf) (.inl rfl) h
end
noncomputable def putF(f:Str)(v:V):B4 (Str×V)->B4 (Str×V)
 |[]=>[(f,v)]
 |(g,x)::r=>if g=f then(g,v)::r else(g,x)::putF f v r
theorem fV(f g:Str)(v:V):∀fs:B4<|Str×V,(putF f v fs).lookup g=if g=f then some v else fs.lookup g
 |[]=>by
  show List.lookup g [(f,v)]=_;by_cases h:g=f
  .have hb:(g==f)=true:=beq_iff_eq.mpr h;simp only[List.lookup,hb,xCg h]
  .have hb:(g==f)=false:=beq_eq_false_iff_ne.mpr h;simp only[List.lookup,hb,xCf h]
 |(k,x)::r=>by
  have ih:=fV f g v r;rw[show putF f v ((k,x)::r)=(if k=f then(k,v)::r else(k,x)::putF f v r) from rfl];by_cases hk:k=f
  .rw[xCg hk];by_cases h:g=k
   .have hb:(g==k)=true:=beq_iff_eq.mpr h;simp only[List.lookup,hb,xCg<|h.trans hk]
   .have hb:(g==k)=false:=beq_eq_false_iff_ne.mpr h;simp only[List.lookup,hb,xCf λe:g=f=>h<|e.trans hk.symm]
  .rw[xCf hk];by_cases h:g=k
   .have hb:(g==k)=true:=beq_iff_eq.mpr h;simp only[List.lookup,hb,xCf λe:g=f=>hk<|h.symm.trans e]
   .have hb:(g==k)=false:=beq_eq_false_iff_ne.mpr h;simp only[List.lookup,hb];exact ih
theorem fQ(f:Str)(v:V):∀fs:B4<|Str×V,f∈(putF f v fs).map (·.1)/\∀g,g∈fs.map (·.1)->g∈(putF f v fs).map (·.1)
 |[]=>⟨by simp[putF],λg h=>by simp at h⟩
 |(k,x)::r=>by
  let⟨i1,i2⟩:=fQ f v r;rw[show putF f v ((k,x)::r)=(if k=f then(k,v)::r else(k,x)::putF f v r) from rfl];by_cases hk:k=f
  .rw[xCg hk];subst hk;exact⟨⋯,λg h=>by simpa using h⟩
  .rw[xCf hk];refine⟨?_,λg h=>?_⟩
   .rw[xBs];exact xAs _ i1
   .rw[xBs] at h⊢;rcases xAv.mp h with e|e
    .exact xAv.mpr<|.inl e
    .exact xAs _<|i2 g e
theorem fW(f:Str)(v:V):∀fs:B4<|Str×V,(putF f v fs).length<=fs.length+1
 |[]=>by simp[putF]
 |(k,x)::r=>by
  have ih:=fW f v r;rw[show putF f v ((k,x)::r)=(if k=f then(k,v)::r else(k,x)::putF f v r) from rfl];by_cases hk:k=f
  .rw[xCg hk,xAo,xAo];lia
  .rw[xCf hk,xAo,xAo];lia
theorem zB9.some_of{v:V}{o:B5 B6}(r:zB9 (some v) o):∃u,o=some u/\zAi v u:=by
 cases o with
 |none=>exact(show False from r).elim
 |some u=>exact⟨u,rfl,r⟩
theorem zB9.none_of{o:B5 B6}(r:zB9 none o):o=none:=by
 cases o with
 |none=>rfl
 |some u=>exact(show False from r).elim
theorem oE{v:V}{u:B6}(r:zAi v u):W.handedIn u=true:=by
 cases v with
 |non=>cases (show u=Value.none from r);rfl
 |bl b=>cases (show u=Value.bool b from r);rfl
 |int i=>let⟨t,e⟩:=(show ∃t,u=Value.int i t from r);cases e;rfl
 |str x=>let⟨t,e⟩:=(show ∃t,u=Value.str x t from r);cases e;rfl
 |byt b=>let⟨t,e⟩:=(show ∃t,u=Value.bytes b t from r);cases e;rfl
 |flt b=>let⟨t,e⟩:=(show ∃t,u=Value.float b t from r);cases e;rfl
 |ref a=>cases (show u=Value.ref a from r);rfl
 |ty n=>cases (show u=Value.type n from r);rfl
section
variable{P:Program}{w:World}{H H':Hp}{h h':Heap}{a C dx:B9}{fs fs':B4<|Str×V}
def gu(hok:HOk P w H h)(e:H a=some (.ins C dx fs)):∃mA,zEi h a dx C mA/\(∀f,zB9 (fs.lookup f)<|mA f)/\PySem.Within mA (fs.map (·.1))/\fs.length<=1000/\H dx=some (.own a):=by
 let⟨d,z,ne,ob,mA,n,r,q⟩:=(show zAf P w H h a (.ins C dx fs) from hok a _ e)
 exact⟨mA,⟨ob,n,ne⟩,r,q,z,d⟩
end
structure Cls(K:xFr)(C:B9):Prop where
 pg:W.plainGet K C Str.empty=true
 hd:W.hasDictIn K C=true
 po:W.plainOver K C=true
 sa:W.findIn K (.ref C) "__setattr__"=some (some (.builtin "object.__setattr__"))
def Cls.get(c:Cls K C)(f:Str):W.plainGet K C f=true:=c.pg
def zBr(K:xFr)(C:B9)(f:Str):Prop:=W.findIn K (.ref C) f=some none
def zBr.taker{f:Str}(n:zBr K C f):W.takerIn K C f=some none:=by
 unfold W.takerIn;rw[show W.findIn K (.ref C) f=some none from n];rfl
structure zEj(K:xFr)(C:B9)(m:Str)(f:B9):Prop where
 at_:W.findIn K (.ref C) m=some (some (.ref f))
 fn:W.isFn K (.ref f)=true
 kp:W.keepIn K (.ref f)=true
section
variable{X:Cx}{Z:B4<|B9×Obj}{O:St}{H:Hp}{s:B7}{a C dx:B9}{fs:B4<|Str×V}{f:Str}{v:V}{A:Around}{E:B6->B7->Prop}
def la{b:B'}(I:Inv X Z O H s)(e:H a=some (.ins C dx fs))(c:Cls X.K C)(n:zBr X.K C f)(l:fs.lookup f=some v)(h:∀u s',Inv X Z O H s'->zAi v u->Q u s'):wpAny (model X.prog X.w) A (getAttr (.ref a) f b) Q E s:=by
 let⟨mA,m0O,r,_,_,_⟩:=gu I.hok e;let⟨u,hu,ru⟩:=zB9.some_of (v:=v) (o:=mA f) (by rw[<- l];exact r f);exact uF I.kIn m0O (c.get f) c.hd n hu (oE ru)<|h u _ (I.tok _) ru
def gX{m:Str}{g:B9}{pl:Sem B'}{Q:B6×C7->B7->Prop}(I:Inv X Z O H s)(e:H a=some (.ins C dx fs))(c:Cls X.K C)(k:zEj X.K C m g)(l:fs.lookup m=none)(h:Q (.ref g,[.ref a]) s):wpAny (model X.prog X.w) A (getMethod (.ref a) m pl) Q E s:=by
 let⟨mA,m0O,r,_,_,_⟩:=gu I.hok e;have hn:mA m=none:=zB9.none_of (by rw[<- l];exact r m);exact rl I.kIn m0O (c.get m) k.at_ k.fn hn h
def kz{u:B6}{Q:Unit->B7->Prop}(I:Inv X Z O H s)(e:H a=some (.ins C dx fs))(c:Cls X.K C)(n:zBr X.K C f)(hl:fs.length<1000)(ry:zAi y u)(h:∀s',Inv X Z O (upd H a<|.ins C dx<|putF f y fs) s'->Q ⟨⟩ s'):wpAny (model X.prog X.w) A (setAttr (.ref a) f u) Q E s:=by
 let⟨mA,m0O,r,wi,_,ho⟩:=gu I.hok e;have hz:(fs.map (·.1)).length<=sizeLine:=by rw[xAa,sizeLine_eq];lia
 refine sX I.kIn m0O c.sa c.po n.taker c.hd wi hz λh' m0O' sb=>h _ ?_;have hd:∃o,h'.get? dx=some o:=let ⟨o,_,_,e',_⟩:=m0O'.ns;⟨o,e'⟩;erw[I.write (x:=a) (e:=dx) (by rw[e];exact True.intro) (.inr ho) (λb q hb z=>(sb.2 b hb).trans z) hd,<-⟨by rw[b9 m0O.ne];exact ho,?_,m0O.ne,m0O'.obj,_,m0O'.ns,λg=>?_,λg hg=>?_⟩]
 .have:=fW f y fs;lia
 .show zB9 ((putF f y fs).lookup g)<|if g=f then some u else mA g;rw[fV];by_cases q:g=f
  .rw[xCg q,xCg q];exact ry
  .rw[xCf q,xCf q];exact r g
 .by_cases q:g=f
  .rw[q];exact(fQ f y fs).1
  .refine(fQ f y fs).2 g (wi g λz=>hg ?_);show(if g=f then some u else mA g)=none;rw[xCf q];exact z
def Inv.made(I:Inv X Z O H s):Inv X Z O (upd (upd H s.heap.objs.size<|.own<|s.heap.objs.size+1) (s.heap.objs.size+1)<|.ins C s.heap.objs.size [])
  {s with heap:=(s.heap.push W.emptyDict).push<|W.instObj C s.heap.objs.size}:=by
 have e1:(s.heap.push W.emptyDict).get? s.heap.objs.size=some W.emptyDict:=xAl s.heap rfl;have e2:((s.heap.push W.emptyDict).push<|W.instObj C s.heap.objs.size).get? (s.heap.objs.size+1)=some (W.instObj C s.heap.objs.size):=by
  have:=xAl (s.heap.push W.emptyDict) (o:=W.instObj C s.heap.objs.size) rfl
  rwa[Heap.size_push] at this
 have e3:(s.heap.push W.emptyDict).Ns s.heap.objs.size λ_=>none:=⟨W.emptyDict,#[],_,e1,rfl,(λe he=>absurd he ⋯),λ_=>rfl⟩
 have I1:=I.laid (a:=s.heap.objs.size) (o:=.own<|s.heap.objs.size+1) (h':=s.heap.push W.emptyDict) (t':=s.toks) (λb u q=>xAf _ q) (xAg _) ⟨_,e1⟩;erw[I1.laid (a:=s.heap.objs.size+1) (o:=.ins C s.heap.objs.size []) (t':=s.toks) (λb u q=>xAf _ q) (Nat.le_of_eq<|Heap.size_push _ _)];have ne:s.heap.objs.size≠s.heap.objs.size+1:=xA0<|Nat.lt_succ_self _;refine⟨by rw[b9 ne,ce],xBn _,ne,e2,λ_=>none,(Heap.Ns1.of_empty e3).at λo q=>xAf _ q,λ_=>True.intro,λy hy=>absurd rfl hy⟩
def u7{prog:Program}{w:World}{env:Env}{e:B8}{f:Str}(hb:attributeBase e f env (eval e env)=eval e env)(h:wpAny (model prog w) A (eval e env) (λo s₁=>wpAny (model prog w) A (getAttr o f true) Q E s₁) E s):wpAny (model prog w) A (eval (.Attribute e f pos) env) Q E s:=
 Attribute_any_ h (by rw[arm_eval_Attribute,hb])
end
def zJm(K:xFr)(ta:TE)(f:Str):TE:=λO H Q=>ta O H λx H1=>∃a C dx fs v,x=.ref a/\H1 a=some (.ins C dx fs)/\Cls K C/\zBr K C f/\fs.lookup f=some v/\Q v H1
def zJp(K:xFr)(ta tv:TE)(f:Str):TS:=λD O H=>tv O H λy H1=>ta O H1 λx H2=>∃a C dx fs,x=.ref a/\H2 a=some (.ins C dx fs)/\Cls K C/\zBr K C f/\fs.length<1000 /\
 D.nx O (upd H2 a<|.ins C dx<|putF f y fs)
section
variable{X:Cx}{o e value:B8}{f:Str}{pos pos' tpos:Pos}{ta tv:TE}
def wP(he:PE X e ta)(hb:attributeBase e f X.env (eval e X.env)=eval e X.env):PE X (.Attribute e f pos)<|zJm X.K ta f:=by
 intro Z s O H Q I h;refine u7 hb (thn (he Z s O H _ I h) λu s1 zz=>?_);let⟨x,H1,I1,rx,a,C,dx,fs,v,ex,ea,c,n,l,q⟩:=zz;subst ex;obtain rfl:u=Value.ref a:=rx;exact la I1 ea c n l λu' s2 I2 ru=>⟨v,H1,I2,ru,q⟩
def wt(ha:PE X o ta)(hv:PE X value tv)(hs:swapsWith value (some<|.Attribute o f pos') pos.line X.env=pure false):PS X (.Assign [.Attribute o f pos'] value pos)<|zJp X.K ta tv f:=by
 intro Z s O H D I h;refine plainObj_wpAny_Assign_Attribute (thn (hv Z s O H _ I h) λu s1 ⟨y,H1,I1,ry,q⟩=>thn (ha Z s1 O H1 _ I1 q) λov s2 ⟨x,H2,I2,rx,a,C,dx,fs,ex,ea,c,n,l,q2⟩=>?_) hs;subst ex;obtain rfl:ov=Value.ref a:=rx;exact kz I2 ea c n l ry λs3 I3=>⟨O,_,I3,q2⟩
end
section
variable{X:Cx}{Z:B4<|B9×Obj}{O:St}{H:Hp}{s:B7}{A:Around}{E:B6->B7->Prop}{Q:B6->B7->Prop}{c:B6}{b:B'}
inductive zB6(K:xFr)(H:Hp):V->Value->Prop where
 |non:zB6 K H .non (.type "NoneType")
 |bl (x:Bool):zB6 K H (.bl x) (.type "bool")
 |int (i:Int):zB6 K H (.int i) (.type "int")
 |str (x:Str):zB6 K H (.str x) (.type "str")
 |flt (x:UInt64):zB6 K H (.flt x) (.type "float")
 |lst {a:Addr} {xs:List V} (e:H a=some (.lst xs)):zB6 K H (.ref a) (.type "list")
 |frz {a:Addr} {o:Obj} {xs:List V} (e:H a=some (.frz o (.lst xs))):zB6 K H (.ref a) (.type "list")
 |tup {a:Addr} {xs:List V} (e:H a=some (.tup xs)):zB6 K H (.ref a) (.type "tuple")
 |dK {a:Addr} {kvs:List (Key×V)} (e:H a=some (.dK kvs)):zB6 K H (.ref a) (.type "dict")
 |dT {a:Addr} {kvs:List (List Key×V)} (e:H a=some (.dT kvs)):zB6 K H (.ref a) (.type "dict")
 |ins {a C dx:Addr} {fs:List (Str×V)} (e:H a=some (.ins C dx fs)) (cl:Cls K C) (ha:W.findIn K (.ref C) "__class__"=some (some (.builtin "object.__class__")))
   (hn:W.specialIn K (.builtin "object.__class__") "__get__"=some (some (.builtin "getset_descriptor.__get__"))) (htk:W.takesIn K (.builtin "object.__class__")=some true)
   (hm:W.mroIn K C (.type "object")=some true):zB6 K H (.ref a) (.ref C)
theorem oz{x:V}{u t:B6}(I:Inv X Z O H s)(rx:zAi x u)(ty:zB6 X.K H x t)(e:W.kitOne X.K t c=some b)(h:∀tk,Q (.bool b) {s with toks:=tk}) :
  wpAny (model X.prog X.w) A (call (.builtin "isinstance") [u,c]) Q E s:=by
 cases ty with
 |non=>cases (show u=Value.none from rx);exact W.kia_one W.kitx_none I.kIn True.intro e (λz=>nomatch z) h
 |bl y=>cases (show u=Value.bool y from rx);exact W.kia_one W.kitx_bool I.kIn True.intro e (λz=>nomatch z) h
 |int i=>let⟨t,q⟩:=(show ∃t,u=Value.int i t from rx);cases q;exact W.kia_one W.kitx_int I.kIn True.intro e (λz=>nomatch z) h
 |str y=>let⟨t,q⟩:=(show ∃t,u=Value.str y t from rx);cases q;exact W.kia_one W.kitx_str I.kIn True.intro e (λz=>nomatch z) h
 |flt y=>let⟨t,q⟩:=(show ∃t,u=Value.float y t from rx);cases q;exact W.kia_one W.kitx_float I.kIn True.intro e (λz=>nomatch z) h
 |@lst a xs ea=>
  cases (show u=Value.ref a from rx);let⟨_,_,n,_,h1⟩:=(show zAf X.prog X.w H s.heap a (.lst xs) from I.hok a _ ea)
  exact W.kia_one W.kitx_list I.kIn ⟨_,h1,rfl⟩ e (λz=>nomatch z) h
 |@frz a ob xs ea=>
  cases (show u=Value.ref a from rx);let⟨_,_,_,n,_,h1⟩:=(show zAf X.prog X.w H s.heap a (.frz ob<|.lst xs) from I.hok a _ ea)
  exact W.kia_one W.kitx_list I.kIn ⟨_,h1,rfl⟩ e (λz=>nomatch z) h
 |@tup a xs ea=>
  cases (show u=Value.ref a from rx);let⟨_,_,_,p⟩:=(show zAf X.prog X.w H s.heap a (.tup xs) from I.hok a _ ea)
  let⟨o,h1,h2,_⟩:=p;exact W.kia_one W.kitx_tuple I.kIn ⟨o,h1,h2⟩ e (λz=>nomatch z) h
 |@dK a kvs ea=>
  cases (show u=Value.ref a from rx);let⟨_,_,vs,_,p⟩:=(show zAf X.prog X.w H s.heap a (.dK kvs) from I.hok a _ ea)
  let⟨o,es,ep,h1,h2,_⟩:=p;exact W.kia_one W.kitx_dict I.kIn ⟨o,h1,h2.1⟩ e (λz=>nomatch z) h
 |@dT a kvs ea=>
  cases (show u=Value.ref a from rx);let⟨_,_,xs,_,o,es,ep,h1,h2,_⟩:=(show zAf X.prog X.w H s.heap a (.dT kvs) from I.hok a _ ea)
  exact W.kia_one W.kitx_dict I.kIn ⟨o,h1,h2.1⟩ e (λz=>nomatch z) h
 |@ins a C dx fs ea cl ha hn htk hm=>
  cases (show u=Value.ref a from rx);let⟨mA,m0O,_⟩:=gu I.hok ea;let⟨od,m0J,_⟩:=m0O.look;exact W.kia_one (W.kitx_own (cl.get _) cl.hd ha hn htk hm) I.kIn m0J e (λz=>nomatch z) h
end
structure zBd(k:Nat)(A:Around):Prop where
 hd:A.handled=none
 dp:A.depth+3*k+5<recursionLimit
 un:A.units+16*k+200<cLine
 gd:A.guards=some []
def zBd.mono(r:zBd k A)(h:j<=k):zBd j A:=⟨r.hd,by have:=r.dp;lia,by have:=r.un;lia,r.gd⟩
theorem zBd.deeper{k:Nat}{A:Around}(r:zBd (k+1) A)(env:Env):zBd k<|A.deeper env:=
 ⟨r.hd,by have:=r.dp;show A.depth+1+3*k+5<_;lia,by have:=r.un;show A.units+3+16*k+200<_;lia,r.gd⟩
def kX{us:C7}:(A.under<|.builtin "type.__call__" ⟨.ref C::us,kw⟩).depth=A.depth+1:=by
 first|rfl|simp[Around.under,Code.weight,Code.isCreation,Code.isGuard,Code.isCaller,Code.frames,Code.isFrame,guardIds]
def kW{us:C7}:(A.under<|.builtin "type.__call__" ⟨.ref C::us,kw⟩).units=A.units+1:=by
 first|rfl|simp[Around.under,Code.cUnits,Code.frames,Code.isFrame]
def jT{us:C7}:(A.under<|.builtin "type.__call__" ⟨.ref C::us,kw⟩).guards=A.guards:=by
 first|rfl|simp[Around.under,Code.weight,Code.isCreation,Code.isGuard,Code.isCaller,Code.frames,Code.isFrame,guardIds]
def zBd.make(r:zBd (k+1) A)(C:B9)(us:C7)(kw:B4<|Str×B6):zBd k<|A.under<|.builtin "type.__call__" ⟨.ref C::us,kw⟩:=
 ⟨r.hd,by have:=r.dp;rw[kX];lia,by have:=r.un;rw[kW];lia,jT.trans r.gd⟩
theorem zBd.depth{k:Nat}{A:Around}(r:zBd k A):A.depth<recursionLimit:=by have:=r.dp;lia
def zGf:TA:=λ_ H Q=>Q [] H
def zE6(ta:TE)(tr:TA):TA:=λO H Q=>ta O H λx H1=>tr O H1 λxs H2=>Q (x::xs) H2
section
variable{X:Cx}{e:B8}{es:B4 B8}{te:TE}{t:TA}{pos:Pos}
def gH:PA X [] zGf:=λ_ _ _ _ H Q I h=>Calls.spliced_nil ⟨[],H,I,.nil,h⟩
def tX(ha:PE X e te)(hr:PA X es t)(hs:starEach (e::es) X.env=(false,eval e X.env)::starEach es X.env:=by rfl):PA X (e::es)<|zE6 te t:=by
 intro pos Z s O H Q I h;rw[hs];show wpAny _ _ (spliced<|(false,eval e X.env)::backTo pos (starEach es X.env)) _ _ s;refine Calls.spliced_cons (thn (ha Z s O H _ I h) λu s1 zz=>?_);let⟨x,H1,I1,r1,q1⟩:=zz;exact thn (hr pos Z s1 O H1 _ I1 q1) λus s2 ⟨xs,H2,I2,r2,q2⟩=>⟨x::xs,H2,I2,.cons r1 r2,q2⟩
def zJd(t:TA):TE:=λO H Q=>t O H λxs H1=>xs.length<=sizeLine/\∀p,H1 p=none->Q (.ref p) (upd H1 p<|.tup xs)
def zJj(t:TA):TE:=λO H Q=>t O H λxs H1=>xs.length<=sizeLine/\∀p,H1 p=none->Q (.ref p) (upd H1 p<|.lst xs)
def wJ{x1}(h:PA X es t):PE X (.Tuple es x1 pos)<|zJd t:=by
 intro Z s O H Q I hq;refine wpAny_Tuple_spliced (thn (h pos Z s O H _ I hq) λus s1 ⟨xs,H1,I1,r,z,q⟩=>⟨by rw[<- r.length];exact z,?_⟩);have hf:H1 s1.heap.objs.size=none:=I1.hok.fresh<|xAg _;refine⟨.ref s1.heap.objs.size,upd H1 s1.heap.objs.size<|.tup xs,I1.laid (t':=s1.toks) (λb u e=>xAf _ e) (xAg _) ?_,rfl,q _ hf⟩;exact⟨z,us,r,⟨_,xAl _ rfl,rfl,_,rfl⟩⟩
def wM(h:PA X es t):PE X (.List es pos)<|zJj t:=by
 intro Z s O H Q I hq;refine wpAny_List_spliced (thn (h pos Z s O H _ I hq) λus s1 ⟨xs,H1,I1,r,z,q⟩=>⟨by rw[<- r.length];exact z,?_⟩);have hf:H1 s1.heap.objs.size=none:=I1.hok.fresh<|xAg _;refine⟨.ref s1.heap.objs.size,upd H1 s1.heap.objs.size<|.lst xs,I1.laid (t':=s1.toks) (λb u e=>xAf _ e) (xAg _) ?_,rfl,q _ hf⟩;exact⟨z,us,0,r,xAl _ rfl⟩
end
noncomputable abbrev Sp:=C6->Hp->VK->XK->Prop
noncomputable abbrev CXT:=B4 Env->Hp->B7->XK->B6->B7->Prop
structure zEk(P:Program)(w:World)(K:xFr)(mg:Str->B5 B6)(base:Heap)(A:Around)(outer:B4 Env)(s:B7)(H:Hp):Prop where
 frames:A.frames=some outer
 mod:Mod K mg base
 bs:∀b o,base.get? b=some o->s.heap.get? b=some o/\H b=none
 bsz:base.objs.size<=s.heap.objs.size
 funs:s.heap.FunFrames base outer
 frf:∀b∈frs outer,H b=none
 hok:HOk P w H s.heap
 bare:AllBare s.gens
def CE(outer:B4 Env)(P:Program)(w:World)(H:Hp)(s:B7)(Q:VK)(u:B6)(s':B7):Prop:=
 ∃v H',s'.os=s.os/\AllBare s'.gens/\Un (frs outer) [] H H' s.heap s'.heap/\HOk P w H' s'.heap/\zAi v u/\Q v H'
def CR(CX:CXT)(outer:B4 Env)(P:Program)(w:World)(H:Hp)(s:B7)(Q:VK)(E:XK)(r:Result)(s':B7):Prop:=
 match r with
 |.ok (.ret u)=>CE outer P w H s Q u s'
 |.ok _=>False
 |.error e=>CX outer H s E e s'
structure zBc(P:Program)(w:World)(K:xFr)(mg:Str->B5 B6)(base:Heap)(CX:CXT)(k:Nat)(f:B9)(fd:FuncData)(ps:C0)(sp:Sp):Prop where
 len:∀vs H Q E,sp vs H Q E->vs.length=ps.length
 run:∀(A:Around)(outer:B4 Env)(s:B7)(H:Hp)(args:Args)(us:C7)(vs:C6)(Q:VK)(E:XK),zBd k A->zEk P w K mg base A outer s H->BindsTo s fd args (ps.zip us)->zAh vs us->sp vs H Q E ->
  codeAny (model P w) A (.call (.ref f) args) (CR CX outer P w H s Q E) s
def zBc.imp{P:Program}{w:World}{f:B9}{sp':Sp}(F:zBc P w K mg base CX k f fd ps sp)(h:∀vs H Q E,sp' vs H Q E->sp vs H Q E):zBc P w K mg base CX k f fd ps sp':=
 ⟨λvs H Q E q=>F.len vs H Q E<|h _ _ _ _ q,λA outer s H args us vs Q E hr he hb hv hs=>F.run A outer s H args us vs Q E hr he hb hv<|h _ _ _ _ hs⟩
def zEk.make{P:Program}{w:World}(e:zEk P w K mg base A outer s H)(C:B9)(us:C7)(kw:B4<|Str×B6) :
  zEk P w K mg base (A.under<|.builtin "type.__call__" ⟨.ref C::us,kw⟩) outer s H:=⟨by first|exact e.frames|(simpa [Around.under,Code.envs,Code.isFrame,pushEnvs] using e.frames),e.mod,e.bs,e.bsz,e.funs,e.frf,e.hok,e.bare⟩
section
variable{X:Cx}{Z:B4<|B9×Obj}{O:St}{H:Hp}{s s':B7}
def Inv.env0(I:Inv X Z O H s):zEk X.prog X.w X.K X.mg X.base X.A X.stack s H:=
 ⟨I.ok.frames,I.ok.mod,I.bs,xCk I.ok.bsz I.sz,I.stack,I.stkFree,I.hok,I.bare⟩
def Inv.after{Q:VK}{u:B6}(I:Inv X Z O H s)(h:CE X.stack X.prog X.w H s Q u s'):EP X Z O Q u s':=by
 let⟨v,H',os,bare,un,hok,r,q⟩:=h;let⟨hh,g,d,t,os'⟩:=s';obtain rfl:os'=s.os:=os;exact⟨v,H',I.call (h':=hh) (g':=g) (d':=d) (t':=t) (ch:=[]) un hok bare (λb z=>absurd z ⋯),r,q⟩
end
def zD5(C:B9)(sp:Sp)(dvs:C6)(E:XK)(t:TA):TE:=λO H Q=>t O H λvs H1=>∀x dx,H1 x=none->H1 dx=none->dx≠x ->
 sp (.ref x::(vs++dvs)) (upd (upd H1 dx<|.own x) x<|.ins C dx []) (λv H2=>v=.non/\Q (.ref x) H2) E
def zAy(K:xFr)(fd:FuncData)(ps:C0)(ds:C7):Prop:=
 ∀(s:B7)(us:C7),K.In s.heap->(us++ds).length=ps.length->BindsTo s fd ⟨us,[]⟩ (ps.zip<|us++ds)
def zAy.all(h:∀us:C7,us.length=ps.length->bindArgs fd ⟨us,[]⟩=pure (ps.zip us)):zAy K fd ps []:=λs us _ hl=>by
 rw[xB0] at hl⊢;exact .of_eq<|h us hl
def zCm(CX:CXT)(X:Cx)(E:XK):Prop:=∀(Z:B4<|B9×Obj)(O:St)(H:Hp)(s:B7)(e:B6)(s':B7),Inv X Z O H s->CX X.stack H s E e s'->X.xe e s'
section
variable{X:Cx}{CX:CXT}{k:Nat}{f C:B9}{fd:FuncData}{ps:C0}{sp:Sp}{dvs:C6}{ds:C7}{E:XK}{x m:Str}{p pos apos:Pos}{e o:B8}{es:B4 B8}{ta:TE}{t:TA}
structure Mk(K:xFr)(C f:B9):Prop where
 makes:W.makesIn K C=true
 init:W.findIn K (.ref C) "__init__"=some (some (.ref f))
 fn:W.isFn K (.ref f)=true
 kp:W.keepIn K (.ref C)=true
theorem jG{O:St}{Q:VK}{us:C7}(M:Mk X.K C f)(F:zBc X.prog X.w X.K X.mg X.base CX k f fd ps sp)(hr:zBd (k+1) X.A)(hb:zAy X.K fd ps ds)(hd:zAh dvs ds)(hx:zCm CX X E)(I:Inv X Z O H s)(r:zAh vs us)(h:∀x dx,H x=none->H dx=none->dx≠x->sp (.ref x::(vs++dvs)) (upd (upd H dx<|.own x) x<|.ins C dx []) (λv H2=>v=.non/\Q (.ref x) H2) E) :
  wpAny (model X.prog X.w) X.A (call (.ref C) us) (EP X Z O Q) X.xe s:=by
 have hq:=h (s.heap.objs.size+1) s.heap.objs.size (I.hok.fresh<|Nat.le_succ _) (I.hok.fresh<|xAg _)<|xA0<|Nat.lt_succ_self _;have I2:=Inv.made (C:=C) I;have r2:zAh (V.ref (s.heap.objs.size+1)::(vs++dvs))<|Value.ref (s.heap.objs.size+1)::(us++ds):=.cons rfl<|r.append hd;have hl:(Value.ref (s.heap.objs.size+1)::us++ds).length=ps.length:=by
  have e:=r2.length;rw[F.len _ _ _ _ hq] at e;exact e.symm
 refine wpAny_call<|qO (f:=f) I.kIn M.makes M.init (beq_iff_eq.mp M.fn)<|codeAny_mono (F.run _ X.stack _ _ ⟨Value.ref (s.heap.objs.size+1)::us,[]⟩ (Value.ref (s.heap.objs.size+1)::(us++ds)) _ _ E (hr.make C us [])
  (I2.env0.make C us []) (hb _ (Value.ref (s.heap.objs.size+1)::us) I2.kIn hl) r2 hq) λr s' hq'=>?_
 cases r with
 |error e=>exact hx Z O _ _ e s' I2 hq'
 |ok fl=>
  cases fl with
  |ret u=>
   let⟨v,H',I3,rv,ev,q3⟩:=I2.after hq';subst ev;exact⟨rv,⟨V.ref<|s.heap.objs.size+1,H',I3,rfl,q3⟩⟩
  |next=>exact False.elim hq'
  |brk=>exact False.elim hq'
  |cont=>exact False.elim hq'
def tQ(M:Mk X.K C f)(F:zBc X.prog X.w X.K X.mg X.base CX k f fd ps sp)(hr:zBd (k+1) X.A)(hg:Gl X x)(hm:X.mg x=some (.ref C))(hb:zAy X.K fd ps ds)(hd:zAh dvs ds)(hx:zCm CX X E)(ha:PA X (e::es) t)(hdb:(x==("__debug__":Str))=false:=by decide)(he:starEach (e::es) X.env=(false,eval e X.env)::starEach es X.env:=by rfl)(hpl:(backTo pos<|starEach es X.env).any (·.1)=false:=by rfl) :
  PE X (.Call (.Name x p) (e::es) [] pos) (zD5 C sp dvs E t):=by
 intro Z s O H Q I h;erw[<-wpAny_Call_Name_kw (fF I hg hm ?_ hdb),<-W.callWith_K (h₀:=X.base) I.ok.mod.kin M.kp (thn (ha pos Z s O H _ I h) λus s1 ⟨vs,H1,I1,r,q⟩=>⟨I1.kIn,?_⟩) he hpl,<-jG M F hr hb hd hx I1 r q]
def qe(M:Mk X.K C f)(F:zBc X.prog X.w X.K X.mg X.base CX k f fd ps sp)(hr:zBd (k+1) X.A)(hg:Gl X x)(hm:X.mg x=some (.ref C))(hb:zAy X.K fd ps ds)(hd:zAh dvs ds)(hx:zCm CX X E)(hdb:(x==("__debug__":Str))=false:=by decide):PE X (.Call (.Name x p) [] [] pos)<|zD5 C sp dvs E zGf:=by
 intro Z s O H Q I h;refine wpAny_Call_Name_kw (fF I hg hm ?_ hdb);exact W.callWith_K0 I.kIn M.kp (jG (us:=[]) M F hr hb hd hx I .nil h)
end
structure zBi(N P:C0)(sc:Scope):Prop where
 kind:sc.kind=.function
 co:sc.isCoroutine=false
 gen:sc.isGenerator=false
 nd:N.Nodup
 pre:N.take P.length=P
 par:∀x∈P,sc.names.lookup x=some .local\/sc.names.lookup x=some .cell
 nofree:∀y∈sc.names,y.2≠.free
theorem iB{kindOf:Str->B5 NameKind}{x:Str}:∀{binds:B4<|Str×B6}{m:Str->B5 B6},(∀v,(x,v)∉binds)->bindL kindOf binds m x=m x
 |[],_,_=>rfl
 |(n,v)::r,m,h=>by
  unfold bindL;rw[iB λw hw=>h w<|xAs _ hw];split
  .have:x≠n:=by rintro rfl;exact h v xAr
   simp[this]
  .rfl
theorem iD{kindOf:Str->B5 NameKind}{x:Str}:∀{binds:B4<|Str×B6}{m:Str->B5 B6},(∀v,(x,v)∉binds)->bindC kindOf binds m x=m x
 |[],_,_=>rfl
 |(n,v)::r,m,h=>by
  unfold bindC;rw[iD λw hw=>h w<|xAs _ hw];split
  .rfl
  .have:x≠n:=by rintro rfl;exact h v xAr
   simp[this]
theorem iC{kindOf:Str->B5 NameKind}{x:Str}{v:B6}:∀{P:C0}{vs:C7}{i:Nat}{m:Str->B5 B6},P.Nodup->P[i]?=some x->vs[i]?=some v->kindOf x=some .local ->
  bindL kindOf (P.zip vs) m x=some v
 |[],_,_,_,_,h,_,_=>by simp at h
 |_::_,[],_,_,_,_,h,_=>by simp at h
 |p::P,w::vs,0,m,nd,h1,h2,hk=>by
  simp at h1 h2;subst h1;subst h2;show bindL kindOf ((p,w)::P.zip vs) m p=_;unfold bindL;rw[iB λv hv=>(xCb.mp nd).1 (List.of_mem_zip hv).1,xCg hk];simp
 |p::P,w::vs,i+1,m,nd,h1,h2,hk=>by
  show bindL kindOf ((p,w)::P.zip vs) m x=_;unfold bindL;exact iC (i:=i) (xCb.mp nd).2 (by simpa using h1) (by simpa using h2) hk
theorem iE{kindOf:Str->B5 NameKind}{x:Str}{v:B6}:∀{P:C0}{vs:C7}{i:Nat}{m:Str->B5 B6},P.Nodup->P[i]?=some x->vs[i]?=some v->kindOf x≠some .local ->
  bindC kindOf (P.zip vs) m x=some v
 |[],_,_,_,_,h,_,_=>by simp at h
 |_::_,[],_,_,_,_,h,_=>by simp at h
 |p::P,w::vs,0,m,nd,h1,h2,hk=>by
  simp at h1 h2;subst h1;subst h2;show bindC kindOf ((p,w)::P.zip vs) m p=_;unfold bindC;rw[iD λv hv=>(xCb.mp nd).1 (List.of_mem_zip hv).1,xCf hk];simp
 |p::P,w::vs,i+1,m,nd,h1,h2,hk=>by
  show bindC kindOf ((p,w)::P.zip vs) m x=_;unfold bindC;exact iE (i:=i) (xCb.mp nd).2 (by simpa using h1) (by simpa using h2) hk
def start(N:C0)(vs:C6):St:=vs.map some++List.replicate (N.length-vs.length) none
noncomputable def zEe(CX:CXT)(P:Program)(w:World)(K:xFr)(mg:Str->B5 B6)(base:Heap)(N:C0)(qual:Str)(scope:Scope)(f:B9)(cd:B6)(A:Around)(outer:B4 Env)(s:B7)(H:Hp)(E:XK):Cx where
 prog:=P
 w:=w
 K:=K
 mg:=mg
 base:=base
 A:=A.deeper<|envOfC qual scope s.heap.objs.size f cd
 N:=N
 s₀:=s
 H₀:=H
 env:=envOfC qual scope s.heap.objs.size f cd
 outer:=outer
 stack:=envOfC qual scope s.heap.objs.size f cd::outer
 ex:=[]
 calm:=true
 fn:=λ_=>true
 pn:=[]
 xe:=λe s'=>wpAny (model P w) (A.deeper<|envOfC qual scope s.heap.objs.size f cd) (leaving (envOfC qual scope s.heap.objs.size f cd) e) (λ_ s''=>CX outer H s E e s'') (λe' s''=>CX outer H s E e' s'') s'
def hV{sc:Scope}{x:Str}(h:sc.names.lookup x=some .cell):∃c,(cellsFrom n sc.names []).lookup x=some c:=by
 have q:=W.cellsFrom_some sc.names n []<|.inl h;exact Option.isSome_iff_exists.mp q
def oA{P:Program}{w:World}{f:B9}{cd:B6}{s1:B7}{E:XK}{us:C7}(S:zBi N ps scope)(hd:A.handled=none)(e0:zEk P w K mg base A outer s H)(hl:vs.length=ps.length)(r:zAh vs us)(x:InCallC s s.heap.objs.size (bindL (envOfC qual scope s.heap.objs.size f cd).kindOf (ps.zip us) λ_=>none) (cellsFrom (s.heap.objs.size+1) scope.names []) (bindC (envOfC qual scope s.heap.objs.size f cd).kindOf (ps.zip us) λ_=>none) s1) :
  Inv (zEe CX P w K mg base N qual scope f cd A outer s H E) [] (start N vs) H s1:=by
 have hpl:ps.length<=N.length:=by have:=congrArg List.length S.pre;rw[List.length_take] at this;lia
 let⟨h1,tk,rfl,hk⟩:=x.done;have noA:∀b:B9,b ∉ (zEe CX P w K mg base N qual scope f cd A outer s H E).ex:=λb z=>absurd (show b∈([]:B4 B9) from z) ⋯;refine⟨⟨e0.mod,S.kind,rfl,rfl,xAg _,λy z c h1 h2=>?_,λy hy=>?_,λy c _ h=>?_,λ_=>hd,Around.frames_deeper e0.frames,.inr ⟨rfl,rfl⟩,λb z=>absurd z<|noA b,e0.bs,e0.bsz,λb _ _=>noA b,λb z=>absurd z<|noA b,e0.funs,e0.frf⟩,
  rfl,e0.bare,Un.kept hk,⟨_,x.toInCall.ns,λi y v h1 h2 h3=>?_⟩,λy c h=>⟨_,x.cell y c h⟩,e0.hok.fresh<|xAg _,λy c h=>?_,λp hp=>absurd (show p∈([]:B4<|B9×Obj) from hp) ⋯,e0.hok.kept hk,?_⟩
 .exact name_of_addr x.apart (PySem.mem_of_lookup h1)<|PySem.mem_of_lookup h2
 .have hy:scope.names.lookup y=some .cell\/scope.names.lookup y=some .free:=hy;rcases hy with hy|hy
  .exact hV hy
  .exact absurd rfl<|S.nofree _<|PySem.mem_of_lookup hy
 .exact Nat.le_of_lt<|x.above y c<|PySem.mem_of_lookup h
 .have hi:i<vs.length:=by
   unfold start at h2;by_cases hi:i<vs.length
   .exact hi
   .rw[xCl<|by simpa using hi] at h2;rw[List.getElem?_replicate] at h2;split at h2 <;> cases h2
  have ha:vs[i]?=some v:=by
   unfold start at h2;rw[List.getElem?_append_left (by simpa using hi),xAw] at h2;cases e:vs[i]? with
   |none=>rw[e] at h2;cases h2
   |some a=>rw[e] at h2;cases h2;rfl
  let⟨u,hu,rv⟩:=r.get ha;have hp:ps[i]?=some y:=by
   rw[<- S.pre,List.getElem?_take_of_lt ()];exact h1
  have ndP:ps.Nodup:=by rw[<- S.pre];exact S.nd.sublist<|List.take_sublist _ _
  refine⟨u,rv,?_⟩;rcases S.par y (xAc hp) with k|k
  .exact .inl ⟨k,iC ndP hp hu k⟩
  .let⟨c,e⟩:=hV (n:=s.heap.objs.size+1) k;refine .inr ⟨.inl k,c,e,?_⟩;have q:=x.cell y c e;rw[iE ndP hp hu<|by show scope.names.lookup y≠_;rw[k];decide] at q;exact q
 .exact e0.hok.fresh<|Nat.le_of_lt<|x.above y c<|PySem.mem_of_lookup h
 .unfold start;show _=N.length;rw[xAb,xAa,xCu];lia
theorem Av{P:Program}{w:World}{f:B9}{name:Str}{params:Arguments}{body:B4 Stmt}{dV kV doc pm cdv ct oc:B6}{an od:B5 B9}{osl:Array<|B5 B6}(lk:K.lookup f=some ⟨oc,od,.func<|W.fnOf name qual params body scope dV kV doc pm an cdv ct,osl⟩)(hcd:W.codeIn K cdv qual=true)(S:zBi N ps scope)(len:∀vs H Q E,sp vs H Q E->vs.length=ps.length)(hbody:∀(A:Around)(outer:B4 Env)(s:B7)(H:Hp)(vs:C6)(Q:VK)(E:XK),zBd k (A.deeper<|envOfC qual scope s.heap.objs.size f cdv)->sp vs H Q E ->
   ∃t,PSs (zEe CX P w K mg base N qual scope f cdv A outer s H E) body t/\t {nx:=λ_ H'=>Q .non H',rt:=Q} (start N vs) H) :
  zBc P w K mg base CX (k+1) f (W.fnOf name qual params body scope dV kV doc pm an cdv ct) ps sp:=by
 refine⟨len,λA outer s H args us vs Q E hr e0 hb r hsp=>?_⟩;have hl:=len _ _ _ _ hsp;have KX:K.In s.heap:=e0.mod.kin.keeps λb o e=>(e0.bs b o e).1;have lim:s.heap.NoLimit:=e0.mod.nolimit.keeps λb o e=>(e0.bs b o e).1;have hkind:∀y∈ps.zip us,scope.names.lookup y.1=some .local\/(scope.names.lookup y.1=some .cell/\((cellsFrom (s.heap.objs.size+1) scope.names []).lookup y.1).isSome=true):=λ⟨n,v⟩ hy=>by
  rcases S.par n (List.of_mem_zip hy).1 with q|q
  .exact .inl q
  .exact .inr ⟨q,W.cellsFrom_some _ _ _<|.inl q⟩
 erw[<-codeAny_call_function hr.depth (KX _ _ lk) rfl S.co S.gen rfl (W.codeRec_of KX hcd)<|hb _ _ _ _ ?_,<-wpAny_newFunctionEnv_cells S.kind hkind λenv he s1 x=>?_];subst he;refine⟨lim.keeps x.toInCall.keep,codeAny_func ?_⟩;let⟨t,ht,hq⟩:=hbody A outer s H vs Q E (hr.deeper _) hsp;have I:Inv (zEe CX P w K mg base N qual scope f cdv A outer s H E) [] (start N vs) H s1:=oA S hr.hd e0 hl r x;refine wpAny_mono (ht [] s1 (start N vs) H _ I hq) (λfl s' hs=>?_) λe s' hs=>hs;have fin:∀{O':St}{H':Hp}{v:V}{u:B6},Inv (zEe CX P w K mg base N qual scope f cdv A outer s H E) [] O' H' s'->zAi v u->Q v H'->CE outer P w H s Q u s':=
  λ{O' H' v u} m0J rv q=>⟨v,H',m0J.os,m0J.bare,m0J.base,m0J.hok,rv,q⟩
 cases fl with
 |ret u=>
  let⟨v,O',H',m0J,rv,q⟩:=hs;exact fin m0J rv q
 |next=>
  let⟨O',H',m0J,q⟩:=hs;exact fin (v:=V.non) (u:=Value.none) m0J rfl q
 |brk=>
  let⟨_,_,_,q⟩:=hs;exact False.elim q
 |cont=>
  let⟨_,_,_,q⟩:=hs;exact False.elim q
section
variable{X:Cx}{x:Str}{p pos:Pos}{e:B8}{es:B4 B8}{t:TA}{id T:String}{r:C6->Hp->VK->Prop}
def tCB(r:C6->Hp->VK->Prop)(t:TA):TE:=λO H Q=>t O H λvs H1=>r vs H1 Q
def qo(hc:zAn X (.builtin id) r)(hg:Gl X x)(hm:X.mg x=none)(hv:bootBuiltins x=some (.builtin id))(ha:PA X (e::es) t)(hn:x≠"__name__":=by decide)(hdb:(x==("__debug__":Str))=false:=by decide)(he:starEach (e::es) X.env=(false,eval e X.env)::starEach es X.env:=by rfl)(hpl:(backTo pos<|starEach es X.env).any (·.1)=false:=by rfl):PE X (.Call (.Name x p) (e::es) [] pos)<|tCB r t:=by
 intro Z s O H Q I h;refine wpAny_Call_Name_kw (fO I hg hm hv ?_ hn hdb);exact PyProof.Rows.callWith_builtin1 (thn (ha pos Z s O H _ I h) λus s1 ⟨vs,H1,I1,r1,q1⟩=>hc Z s1 O H1 vs us Q I1 r1 q1) he hpl
def oa(hc:zAn X (.type T) r)(hg:Gl X x)(hm:X.mg x=none)(hv:bootBuiltins x=some (.type T))(ha:PA X (e::es) t)(hn:x≠"__name__":=by decide)(hdb:(x==("__debug__":Str))=false:=by decide)(he:starEach (e::es) X.env=(false,eval e X.env)::starEach es X.env:=by rfl)(hpl:(backTo pos<|starEach es X.env).any (·.1)=false:=by rfl):PE X (.Call (.Name x p) (e::es) [] pos)<|tCB r t:=by
 intro Z s O H Q I h;refine wpAny_Call_Name_kw (fO I hg hm hv ?_ hn hdb);exact PyProof.Rows.callWith_type1 (thn (ha pos Z s O H _ I h) λus s1 ⟨vs,H1,I1,r1,q1⟩=>hc Z s1 O H1 vs us Q I1 r1 q1) he hpl
end
end L2
namespace HT
open PySem PyProof.Rows
variable{t sl:B9}{Q:B6->B7->Prop}{vl vu:B6}{lo hi:B5 Int}
section
open PySem.SeqAt
open PySem.AutoSeq1 (wpAny_loadPart')
open PySem.MeetsSeq PySem.MeetsSeq2 PySem.MeetsSeq3
end
section
variable{prog:Program}{w:World}{A:Around}{E:B6->B7->Prop}{s:B7}
def cat_tup{b:B9}{vs ws:C7}(ht:IsTup s.heap t vs.toArray)(hb:IsTup s.heap b ws.toArray)(hv:vs≠[])(h1:ws=[]->Q (.ref t) s)(h2:ws≠[]->Q (.ref s.heap.objs.size) {s with heap:=s.heap.push {cls:=.type "tuple",data:=.seq (vs++ws).toArray} })(hsz:vs.length+ws.length<=sizeLine):wpAny (model prog w) A (binaryOp .Add (.ref t)<|.ref b) Q E s:=by
 let⟨⟨cls,dd,data,sl⟩,ho,hc,n,hd⟩:=id ht;let⟨⟨cls2,dd2,data2,sl2⟩,ho2,hc2,n2,hd2⟩:=id hb;simp only at hc hd hc2 hd2;subst hc hd hc2 hd2;have e:vs.toArray++ws.toArray=(vs++ws).toArray:=by simp
 by_cases hw:ws=[]
 .exact concat_meets ⟨_,ho,rfl⟩ ⟨_,ho2,rfl⟩ noFill_tuple_add seq_tuple_add PySem.F.slot_tuple_add PySem.F.entry_tuple_add (PySem.F.args_tuple_add_2 _ _)
   (tuple_addW1 t b vs.toArray ws.toArray n n2 dd dd2 sl sl2 (by simpa using hv)<|by simp[hw]) ⟨ho,ho2,h1 hw⟩
 .refine concat_meets ⟨_,ho,rfl⟩ ⟨_,ho2,rfl⟩ noFill_tuple_add seq_tuple_add PySem.F.slot_tuple_add PySem.F.entry_tuple_add (PySem.F.args_tuple_add_2 _ _)
   (tuple_addW2 t b vs.toArray ws.toArray n n2 dd dd2 sl sl2 (by simpa using hv) (by simpa using hw)<|by rw[xAp,xAp];exact hsz) ⟨ho,ho2,?_⟩
  rw[e];exact h2 hw
noncomputable def sIx(n d:Nat):B5 Int->Nat
 |none=>d
 |some v=>if v<0 then(v+(n:Int)).toNat else min v.toNat n
def sIx_none(n d:Nat):sIx n d none=d:=rfl
def sIx_nat(n d k:Nat):sIx n d (some (k:Int))=min k n:=by
 show(if(k:Int)<0 then((k:Int)+(n:Int)).toNat else min (k:Int).toNat n)=min k n;rw[xCf (),xC3]
theorem pD(n d:Nat)(hd:d<=n)(o:B5 Int):sIx n d o<=n:=by
 cases o with
 |none=>exact hd
 |some v=>
  show(if v<0 then(v+(n:Int)).toNat else min v.toNat n)<=n;by_cases hv:v<0
  .rw[xCg hv];lia
  .rw[xCf hv];exact Nat.min_le_right _ _
def nH(v:Int)(n d:Nat):(if v<0 then max (v+(n:Int)) 0 else min v (n:Int))=((sIx n d<|some v:Nat):Int):=by
 show(if v<0 then max (v+(n:Int)) 0 else min v (n:Int))=(((if v<0 then(v+(n:Int)).toNat else min v.toNat n):Nat):Int);by_cases hv:v<0
 .simp only[xCg hv];lia
 .simp only[xCf hv];lia
def lL(lo hi:B5 Int)(n:Nat):Builtin.Slice.sliceAdjust lo hi 1 (n:Int)=(((sIx n 0 lo:Nat):Int),((sIx n n hi:Nat):Int)):=by
 have h1:¬ ((1:Int)<0):=()
 unfold Builtin.Slice.sliceAdjust;simp only[h1,if_false];refine Prod.ext ?_ ?_
 .cases lo with
  |none=>rfl
  |some v=>exact nH v n 0
 .cases hi with
  |none=>rfl
  |some v=>exact nH v n n
def kL(i j:Nat):Builtin.Slice.slicePlaces (i:Int) (j:Int) 1=j-i:=by
 unfold Builtin.Slice.slicePlaces;have h1:(1:Int)>0:=by lia
 simp only[h1,if_true,Int.ediv_one];split <;> lia
theorem gC{v:B6}{o:B5 Int}{Q:B5 Int->B7->Prop}(p:IsPart v o)(h:Q o s):wpAny (model prog w) A (Builtin.Slice.slicePartIndex v) Q E s:=by
 cases p with
 |none=>exact slicePart_none h
 |int i t=>exact slicePart_int h
def dI{n:Nat}{Q:Int×Int×Nat->B7->Prop}(hs:s.heap.IsSliceOf sl vl vu .none)(pl:IsPart vl lo)(pu:IsPart vu hi)(h:Q (((sIx n 0 lo:Nat):Int),1,sIx n n hi-sIx n 0 lo) s):wpAny (model prog w) A (Builtin.Slice.sliceApplied (.ref sl)<|pure (n:Int)) Q E s:=by
 let⟨os,hos,hcs,hds⟩:=id hs;unfold Builtin.Slice.sliceApplied Builtin.Slice.sliceFields;erw[<-xAd<|xAd<|xDa hos hds (x:=vl) rfl<|xAd<|xDa hos hds (x:=vu) rfl<|xAd<|xDa hos hds (x:=.none) rfl<|xAe ?_,<-xAd<|slicePart_none ?_];show wpAny _ _ (if((1:Int)==0)=true then _ else _) _ _ s;rw[xCf ∅];refine xAd<|gC pl<|xAd<|gC pu<|xAd<|xAe ?_;show wpAny _ _ (match Builtin.Slice.sliceAdjust lo hi 1 (n:Int) with|(lo,hi)=>pure (lo,(1:Int),Builtin.Slice.slicePlaces lo hi 1)) _ _ s;rw[lL lo hi n];show wpAny _ _ (pure (((sIx n 0 lo:Nat):Int),(1:Int),Builtin.Slice.slicePlaces ((sIx n 0 lo:Nat):Int) ((sIx n n hi:Nat):Int) 1)) _ _ s;rw[kL];exact xAe h
def p8(xs:Array B6)(i k:Nat):((List.range k).filterMap λ(m:Nat)=>xs[((i:Int)+(m:Int)*1).toNat]?).toArray=((xs.toList.drop i).take k).toArray:=by
 have e:(λ(m:Nat)=>xs[((i:Int)+(m:Int)*1).toNat]?)=λm=>xs[i+m]?:=by
  funext m
  have:((i:Int)+(m:Int)*1).toNat=i+m:=()
  rw[this]
 rw[e];have:=pick_run xs i k;rw[List.filterMap_map] at this;have e2:((λx=>xs[x]?) ∘ λx=>i+x)=λm=>xs[i+m]?:=rfl;rw[e2] at this;rw[this]
def getItem_tuple_cut{items:Array B6}(ht:IsTup s.heap t items)(hs:s.heap.IsSliceOf sl vl vu .none)(pl:IsPart vl lo)(pu:IsPart vu hi)(hw:¬ (sIx items.size 0 lo=0/\sIx items.size items.size hi=items.size))(h:Q (.ref s.heap.objs.size) {s with heap:=s.heap.push {cls:=.type "tuple",data:=.seq ((items.toList.drop<|sIx items.size 0 lo).take<|sIx items.size items.size hi-sIx items.size 0 lo).toArray} })(hsz:items.size<=sizeLine):wpAny (model prog w) A (getItem (.ref t)<|.ref sl) Q E s:=by
 have htake:sizeOk<|.seq ((items.toList.drop<|sIx items.size 0 lo).take<|sIx items.size items.size hi-sIx items.size 0 lo).toArray:=by
  show((items.toList.drop<|sIx items.size 0 lo).take<|sIx items.size items.size hi-sIx items.size 0 lo).toArray.size<=sizeLine;rw[xAp,List.length_take,List.length_drop,xAh];omega
 have hj:sIx items.size items.size hi<=items.size:=pD _ _ (xAg _) hi;let⟨os,hos,hcs,hds⟩:=id hs;have hTs:s.TypeIs (.ref sl) "slice":=⟨os,hos,hcs⟩
 unfold getItem;try with_reducible refine xDc ?_
 first|refine xAd (xAe ?_)|skip
 refine xAd<|wpAny_sequenceKey ht.typeIs ∅ ?_;refine xAd (wpAny_callSpecial?_slot (name:=Str.ofString "__getitem__") ht.typeIs PyProof.Rows.slot_tuple_getitem
  (wpAny_call_entry PyProof.Rows.slot_tuple_getitem ht.typeIs entry_tuple_getitem ?_<|args_tuple_getitem _ _))
 show wpAny _ _ (Builtin.Tuple.tupleItemsOf (.ref t)>>=_) _ _ s;erw[<-xAd<|tupleItemsOf_ ht ?_,<-xAd<|wpAny_typeOf hTs ?_];rw[xCg ∅];refine xAd<|dI hs pl pu ?_;have hno:¬ ((((sIx items.size 0 lo:Nat):Int)==0&&(1:Int)==1&&(sIx items.size items.size hi-sIx items.size 0 lo)==items.size)=true):=by
  intro q;rw[xCh,xCh] at q;have q1:((sIx items.size 0 lo:Nat):Int)=0:=eq_of_beq q.1.1;have q2:sIx items.size items.size hi-sIx items.size 0 lo=items.size:=eq_of_beq q.2;exact hw ⟨by omega,by omega⟩
 show wpAny _ _ (if(((sIx items.size 0 lo:Nat):Int)==0&&(1:Int)==1&&(sIx items.size items.size hi-sIx items.size 0 lo)==items.size)=true then _ else _) _ _ s;rw[xCf hno,p8];first
  |exact xAd (m:=Builtin.Tuple.tupleExact _) (xBl (xAe ⟨_,rfl,xAe h⟩) htake)
  |exact xAd (m:=Builtin.Tuple.tupleExact _) (xBl (xAd<|xAe<|xAe ⟨_,rfl,xAe h⟩) htake)
  |exact xAd (xAd (m:=Builtin.Tuple.tupleExact _)<|xBl (xAe<|xAe ⟨_,rfl,xAe h⟩) htake)
  |exact xAd (xAd (m:=Builtin.Tuple.tupleExact _)<|xBl (xAe ⟨_,rfl,xAe h⟩) htake)
end
end HT
namespace L2
open PySem PySem.Spec PyProof.Rows
variable{xs:C6}{n j t':Nat}{i:Int}{J:Type}{Z:B4<|B9×Obj}{O:St}{H H':Hp}{s:B7}{its':C7}{y x:V}{P:Program}{kvs:B4<|Key×V}{Q:B6->B7->Prop}{h':Heap}{X:Cx}{pos:Pos}{trs:B4<|TE×TE}
noncomputable abbrev TO:=St->Hp->(B5 Int->Hp->Prop)->Prop
def PO(X:Cx)(e:B5 B8)(t:TO):Prop:=
 ∀(Z:B4<|B9×Obj)(s:B7)(O:St)(H:Hp)(Q:B5 Int->Hp->Prop),Inv X Z O H s->t O H Q ->
  wpAny (model X.prog X.w) X.A (evalPart e X.env) (λu s'=>∃o H',Inv X Z O H' s'/\IsPart u o/\Q o H') X.xe s
def zD4:TO:=λ_ H Q=>Q none H
def zGu(t:TE):TO:=λO H Q=>t O H λx H1=>∃i,x=.int i/\Q (some i) H1
theorem gU{ns:C5}:∀{us:C7},zAh (ns.map V.int) us->IntsAre us ns:=by
 induction ns with
 |nil=>intro us r;rw[List.map_nil] at r;cases r;exact .nil
 |cons n ns ih=>
  intro us r;rw[xBs] at r;cases r with
  |cons r1 r2=>
   let⟨t,e⟩:=r1;subst e;exact .cons n t<|ih r2
section
variable{X:Cx}{e:B8}{te:TE}{lo hi:B5 B8}{tl th:TO}{pos p2:Pos}
def mj:PO X none zD4:=by
 intro Z s O H Q I h;rw[evalPart_none];exact xAe ⟨none,H,I,.none,h⟩
def mh(h:PE X e te):PO X (some e)<|zGu te:=by
 intro Z s O H Q I hw;rw[evalPart_some];refine thn (h Z s O H _ I hw) λu s1 zz=>?_;let⟨x,H1,I1,r1,q1⟩:=zz;let⟨i,rfl,q⟩:=q1;let⟨t,rfl⟩:=r1;exact⟨some i,H1,I1,.int i t,q⟩
def SlR(X:Cx)(r:V->B5 Int->B5 Int->Hp->VK->Prop):Prop:=
 ∀(Z:B4<|B9×Obj)(s:B7)(O:St)(H:Hp)(x:V)(v vl vu:B6)(lo hi:B5 Int)(sl:B9)(Q:VK),Inv X Z O H s->zAi x v->s.heap.IsSliceOf sl vl vu .none->IsPart vl lo->IsPart vu hi->r x lo hi H Q ->
  ∃T id,typeLookup (.type T) "__getitem__"=pure (some<|.builtin id)/\s.TypeIs v T/\wpAny (model X.prog X.w) X.A (getItem v<|.ref sl) (EP X Z O Q) X.xe s
def tSl(r:V->B5 Int->B5 Int->Hp->VK->Prop)(te:TE)(tl th:TO):TE:=λO H Q=>te O H λx H1=>tl O H1 λl H2=>th O H2 λu H3=>r x l u H3 Q
def jK{r:V->B5 Int->B5 Int->Hp->VK->Prop}(hr:SlR X r)(he:PE X e te)(hl:PO X lo tl)(hu:PO X hi th):PE X (.Subscript e (.Slice lo hi none p2) pos)<|tSl r te tl th:=by
 intro Z s O H Q I h;refine Subscript_ (thn (he Z s O H _ I h) λv s1 zz=>?_);let⟨x,H1,I1,r1,q1⟩:=zz;refine wpAny_Slice (thn (hl Z s1 O H1 _ I1 q1) λvl s2 ⟨l,H2,I2,pl,q2⟩=>thn (hu Z s2 O H2 _ I2 q2) λvu s3 zz=>?_);let⟨u,H3,I3,pu,q3⟩:=zz;rw[evalPart_none];erw[xAe];have I4:Inv X Z O H3 {s3 with heap:=s3.heap.push {cls:=.type "slice",data:=.fields #[vl,vu,.none]} }:=I3.kept (t':=s3.toks) λb ob q=>xAf _ q;let⟨T,id,hT,ht,hg⟩:=hr Z {s3 with heap:=s3.heap.push {cls:=.type "slice",data:=.fields #[vl,vu,.none]} } O H3 x v vl vu l u s3.heap.objs.size Q I4 r1 (Heap.IsSliceOf.new ..) pl pu q3;show wpAny (model X.prog X.w) X.A (subscriptTail e (.Slice lo hi none p2) v<|.ref s3.heap.objs.size) (EP X Z O Q) X.xe {s3 with heap:=s3.heap.push {cls:=.type "slice",data:=.fields #[vl,vu,.none]} };exact tail_any (ops:=[.ref s3.heap.objs.size,v]) ht hT hg (by with_unfolding_all rfl)
def zDv(xs:C6)(lo hi:B5 Int):C6:=(xs.drop<|HT.sIx xs.length 0 lo).take<|HT.sIx xs.length xs.length hi-HT.sIx xs.length 0 lo
def fZ(xs:C6)(lo hi:B5 Int):(zDv xs lo hi).length<=xs.length:=by
 unfold zDv;rw[List.length_take,List.length_drop];lia
def zIa(K:xFr):V->B5 Int->B5 Int->Hp->VK->Prop:=λx lo hi H Q=>∃a xs,x=.ref a/\SqT K H a xs /\
 ¬ (HT.sIx xs.length 0 lo=0/\HT.sIx xs.length xs.length hi=xs.length)/\∀p,H p=none->Q (.ref p) (upd H p<|.tup<|zDv xs lo hi)
def pj:SlR X<|zIa X.K:=by
 intro Z s O H x v vl vu lo hi sl Q I rx hs pl pu h;let⟨a,xs,rfl,hx,hw,q⟩:=h;cases rx;let⟨its,r,ht,hz⟩:=I.tuple hx;have hlen:its.toArray.size=xs.length:=by rw[xAp];exact r.length.symm
 erw[<-⟨"tuple",_,PyProof.Rows.slot_tuple_getitem.lookup,ht.typeIs,?_⟩,<-HT.getItem_tuple_cut ht hs pl pu (by rw[hlen];exact hw) ?_ (by rw[hlen];exact hz)];rw[hlen];refine⟨.ref s.heap.objs.size,_,I.laid (t':=s.toks) (o:=.tup<|zDv xs lo hi) (λb ob q=>xAf _ q) (xAg _) ?_,rfl,q _<|I.hok.fresh<|xAg _⟩;exact⟨xCk (fZ xs lo hi) hz,_,(r.drop<|HT.sIx xs.length 0 lo).take<|HT.sIx xs.length xs.length hi-HT.sIx xs.length 0 lo,IsTup.new _ _⟩
def zG9(K:xFr):R2:=λx y H Q=>∃a b xs ys,x=.ref a/\y=.ref b/\SqT K H a xs/\SqT K H b ys/\xs≠[]/\xs.length+ys.length<=sizeLine /\
 (ys=[]->Q (.ref a) H)/\(ys≠[]->∀p,H p=none->Q (.ref p) (upd H p<|.tup<|xs++ys))
theorem zAh.nil_iff{us:C7}(r:zAh xs us):us=[]↔xs=[]:=by
 cases r with
 |nil=>simp
 |cons _ _=>simp
def ui:OpR X (binaryOp .Add)<|zG9 X.K:=by
 intro Z s O H x y v u Q I rx ry h;let⟨a,b,xs,ys,rfl,rfl,ha,hb,hx,hz,q1,q2⟩:=h;cases rx;cases ry;let⟨its,r1,p1,_⟩:=I.tuple ha;let⟨its2,r2,p2,_⟩:=I.tuple hb;erw[<-HT.cat_tup p1 p2 (λz=>hx<|r1.nil_iff.mp z) (λz=>⟨.ref a,H,I,rfl,q1<|r2.nil_iff.mp z⟩) (λz=>?_) (by rw[<- r1.length,<- r2.length];exact hz),<-⟨.ref s.heap.objs.size,_,I.laid (t':=s.toks) (o:=.tup<|xs++ys) (λb ob q=>xAf _ q) (xAg _) ?_,rfl,q2 (λw=>z<|r2.nil_iff.mpr w) _<|I.hok.fresh<|xAg _⟩];exact⟨by rw[xAb];exact hz,_,r1.append r2,IsTup.new _ _⟩
end
noncomputable def ixN(n:Nat)(i:Int):B5 Nat:=if 0<=i then(if i<n then some i.toNat else none) else if -(n:Int)<=i then some (i+n).toNat else none
def atI{J:Type}(xs:B4 J)(i:Int):B5 J:=(ixN xs.length i).bind λj=>xs[j]?
def nb(h:ixN n i=some j):seqIndex? i n=some j/\j<n/\-(n:Int)<=i/\i<n:=by
 unfold ixN at h;by_cases h0:0<=i
 .rw[xCg h0] at h;by_cases h1:i<n
  .rw[xCg h1] at h;have e:i.toNat=j:=xB3 h;exact⟨by rw[seqIndex_of h0 h1,e],(),(),h1⟩
  .rw[xCf h1] at h;cases h
 .rw[xCf h0] at h;by_cases h1:-(n:Int)<=i
  .rw[xCg h1] at h;have e:(i+n).toNat=j:=xB3 h;exact⟨by rw[seqIndex_neg () h1,e],(),h1,()⟩
  .rw[xCf h1] at h;cases h
theorem jp{xs:B4 J}{v:J}(h:atI xs i=some v):∃j,seqIndex? i xs.length=some j/\xs[j]?=some v/\j<xs.length/\-(xs.length:Int)<=i/\i<xs.length:=by
 unfold atI at h;cases e:ixN xs.length i with
 |none=>rw[e] at h;cases h
 |some j=>
  rw[e] at h;let⟨h1,h2,h3,h4⟩:=nb e;exact⟨j,h1,h,h2,h3,h4⟩
def dD{xs:B4 J}{v:J}(h:xs[j]?=some v):atI xs (j:Int)=some v:=by
 have hj:j<xs.length:=(xAq.mp h).1;have e:ixN xs.length (j:Int)=some j:=by
  unfold ixN;rw[xCg (),xCg ()];simp
 unfold atI;rw[e];exact h
def zCf(b:B8):Prop:=∀o i,subscripted b false o i=operate [o,i] (getItem o i)
def IxR(X:Cx)(r:R2):Prop:=
 ∀(value slice:B8)(Z:B4<|B9×Obj)(s:B7)(O:St)(H:Hp)(x y:V)(v u:B6)(Q:VK),Inv X Z O H s->zAi x v->zAi y u->r x y H Q ->
  subscripted slice false v u=operate [v,u] (getItem v u)->wpAny (model X.prog X.w) X.A (subscriptTail value slice v u) (EP X Z O Q) X.xe s
def MtR(X:Cx)(id:String)(r:V->C6->Hp->VK->Prop):Prop:=
 ∀(Z:B4<|B9×Obj)(s:B7)(O:St)(H:Hp)(x:V)(xs:C6)(v:B6)(us:C7)(Q:VK),Inv X Z O H s->zAi x v->zAh xs us->r x xs H Q ->
  wpAny (model X.prog X.w) X.A (call (.builtin id)<|v::us) (EP X Z O Q) X.xe s
section
variable{X:Cx}{a b:B8}{ta tb:TE}{pos:Pos}
def IxR.or{r r':R2}(h:IxR X r)(h':IxR X r'):IxR X λx y H Q=>r x y H Q\/r' x y H Q:=by
 intro value slice Z s O H x y v u Q I rx ry q hs;rcases q with q|q
 .exact h value slice Z s O H x y v u Q I rx ry q hs
 .exact h' value slice Z s O H x y v u Q I rx ry q hs
def zA{r:R2}(hr:IxR X r)(ha:PE X a ta)(hb:PE X b tb)(hs:zCf b):PE X (.Subscript a b pos)<|tOp r ta tb:=by
 intro Z s O H Q I h;exact Subscript_ (zHt ha hb I h λv u s2 x y H2 I2 rx ry q=>hr a b Z s2 O H2 x y v u Q I2 rx ry q<|hs _ _)
def zIg(K:xFr):R2:=λx y H Q=>∃p xs i v,x=.ref p/\y=.int i/\SqL K H p xs/\atI xs i=some v/\Q v H
def zIe(K:xFr):R2:=λx y H Q=>∃p xs i v,x=.ref p/\y=.int i/\SqT K H p xs/\atI xs i=some v/\Q v H
def zIf:R2:=λx y H Q=>∃z i c,x=.str z/\y=.int i/\z.length<=sizeLine/\atI z.cps.toList i=some c/\Q (.str ⟨#[c]⟩) H
def uA:IxR X<|zIg X.K:=by
 intro value slice Z s O H x y v u Q I rx ry h hs;let⟨p,xs,i,z,rfl,rfl,hq,he,q⟩:=h;cases rx;let⟨t,rfl⟩:=ry;let⟨its,r,pl,hz⟩:=I.list hq;let⟨j,h1,h2,h3,h4,h5⟩:=jp he;let⟨w,ew,rw'⟩:=r.get h2;have hl:=r.length;have hn:=zBx;have fin:EP X Z O Q w s:=⟨z,H,I,rw',q⟩
 by_cases h0:0<=i
 .have hj:i.toNat=j:=by
   rw[seqIndex_of h0 h5] at h1;exact xB3 h1
  exact item_listR pl.isList h0 () (by rw[hj];simpa using ew) fin hs
 .have hj:(i+(its.toArray.size:Int)).toNat=j:=by
   rw[seqIndex_neg () h4] at h1;rw[xAp,<- hl];exact xB3 h1
  exact subscriptTail_builtinR (x:=w) pl.isList.typeIs slot_list_getitem.lookup
   (wpAny_getItem_list_neg (Q:=λr s'=>r=w/\EP X Z O Q r s') pl.isList () (by rw[xAp] <;> lia) () (by rw[hj];simpa using ew) ⟨rfl,fin⟩) hs
def xQ:IxR X<|zIe X.K:=by
 intro value slice Z s O H x y v u Q I rx ry h hs;let⟨p,xs,i,z,rfl,rfl,hq,he,q⟩:=h;cases rx;let⟨t,rfl⟩:=ry;let⟨its,r,pl,hz⟩:=I.tuple hq;let⟨j,h1,h2,h3,h4,h5⟩:=jp he;let⟨w,ew,rw'⟩:=r.get h2;have hl:=r.length;have hn:=zBx;have fin:EP X Z O Q w s:=⟨z,H,I,rw',q⟩
 exact subscriptTail_builtinR (x:=w) pl.typeIs slot_tuple_getitem.lookup
  (getItem_tuple (j:=j) (Q:=λr s'=>r=w/\EP X Z O Q r s') pl () () (by rw[xAp,<- hl];exact h1) (by simpa using ew) ⟨rfl,fin⟩) hs
def xR:IxR X zIf:=by
 intro value slice Z s O H x y v u Q I rx ry h hs;let⟨z,i,c,rfl,rfl,hz,he,q⟩:=h;let⟨t,rfl⟩:=rx;let⟨t',rfl⟩:=ry;let⟨j,h1,h2,h3,h4,h5⟩:=jp he;have hl:z.cps.toList.length=z.length:=by simp[Str.length]
 rw[hl] at h1 h4 h5;have hn:=zBx;exact tail_any (typeIs_str s z t) slot_str_getitem.lookup (getItem_str (c:=c) (by
  have e1:decide (i < -(2^63:Int))=false:=xCn ();have e2:decide (i >= 2^63)=false:=xCn ();rw[e1,e2,Bool.or_false]) (by rw[h1];simpa using h2) ⟨.str ⟨#[c]⟩,H,I.tok _,⟨_,rfl⟩,q⟩) hs
def rIx(K:xFr):R2:=λx y H Q=>zIg K x y H Q\/zIe K x y H Q\/zIf x y H Q
def xS:IxR X<|rIx X.K:=uA.or<|xQ.or xR
def kU(its:C7)(n j:Nat)(u:B6):Obj.mapSeq (·.setIfInBounds j u) {cls:=.type "list",data:=.seq its.toArray n}={cls:=.type "list",data:=.seq (its.set j u).toArray n}:=by
 simp[Obj.mapSeq]
theorem Inv.lst{Z:B4<|B9×Obj}{O:St}{H:Hp}{s:B7}{p:B9}{xs:C6}(I:Inv X Z O H s)(h:H p=some (.lst xs)) :
  ∃(its:C7) (n:Nat),zAh xs its/\s.heap.get? p=some {cls:=.type "list",data:=.seq its.toArray n}/\xs.length<=sizeLine:=by
 let⟨z,its,n,r,e⟩:=I.hok p _ h;exact⟨its,n,r,e,z⟩
def Inv.lstUpd{p:B9}{ys:C6}{its:C7}{n':Nat}{f:Obj->Obj}(I:Inv X Z O H s)(h:H p=some (.lst xs))(ho:s.heap.get? p=some {cls:=.type "list",data:=.seq its.toArray n})(hf:f {cls:=.type "list",data:=.seq its.toArray n}={cls:=.type "list",data:=.seq its'.toArray n'})(r:zAh ys its')(hz:ys.length<=sizeLine)(t:Nat) :
  Inv X Z O (upd H p<|.lst ys) {s with heap:=s.heap.update p f,toks:=t}:=by
 have e:(s.heap.update p f).get? p=some {cls:=.type "list",data:=.seq its'.toArray n'}:=by
  rw[Heap.get?_update_self f ho (by rw[hf] <;> rfl),hf]
 refine I.write (x:=p) (e:=p) (by rw[h];trivial) (.inl rfl) (λb u hb q=>(Heap.get?_update_other _ _<|Ne.symm hb).trans q) ⟨_,e⟩ ?_;exact⟨hz,its',n',r,e⟩
def zFe:V->V->V->Hp->(Hp->Prop)->Prop:=λo i v H Q=>∃p xs k j,o=.ref p/\i=.int k/\H p=some (.lst xs)/\ixN xs.length k=some j/\Q (upd H p<|.lst<|xs.set j v)
def pA:zHz X zFe:=by
 intro Z s O H o i v ov iv u Q I ro ri rv h;let⟨p,xs,k,j,rfl,rfl,hp,hj,q⟩:=h;cases ro;let⟨t,rfl⟩:=ri;let⟨its,n,r,ho,hz⟩:=I.lst hp;let⟨h1,h2,h3,h4⟩:=nb hj;have hl:=r.length;have hn:=zBx;have I':Inv X Z O (upd H p<|.lst<|xs.set j v) {s with heap:=s.heap.update p (Obj.mapSeq (·.setIfInBounds j u))}:=
  I.lstUpd hp ho (kU its n j u) (r.set rv j) (by rw[List.length_set];exact hz) s.toks
 by_cases h0:0<=k
 .have hk:k.toNat=j:=by
   rw[seqIndex_of h0 h4] at h1;exact xB3 h1
  exact W.ki_setAt ho h0 () (by rw[xAp,<- hl];exact h4) (by rw[hk];exact⟨_,I',q⟩)
 .have hk:(k+(its.toArray.size:Int)).toNat=j:=by
   rw[seqIndex_neg () h3] at h1;rw[xAp,<- hl];exact xB3 h1
  exact W.ki_setBack ho () (by rw[xAp,<- hl];exact h3) () (by rw[hk];exact⟨_,I',q⟩)
def iM(lo hi:B5 Int)(n:Nat):(sliceBounds lo hi none n).1=((HT.sIx n 0 lo:Nat):Int)/\(sliceBounds lo hi none n).2.1=((HT.sIx n n hi:Nat):Int)/\(sliceBounds lo hi none n).2.2=1:=by
 refine⟨?_,?_,rfl⟩
 .cases lo with
  |none=>simp[sliceBounds,HT.sIx]
  |some i=>
   simp only[sliceBounds,HT.sIx,Option.getD_none,show(1:Int)>0 by decide,if_true];by_cases h:i<0
   .simp only[h,if_true] <;> lia
   .simp only[h,if_false] <;> lia
 .cases hi with
  |none=>simp[sliceBounds,HT.sIx]
  |some i=>
   simp only[sliceBounds,HT.sIx,Option.getD_none,show(1:Int)>0 by decide,if_true];by_cases h:i<0
   .simp only[h,if_true] <;> lia
   .simp only[h,if_false] <;> lia
def ig(its:C7)(lo hi:B5 Int):slicePick its.toArray lo hi none=((its.drop<|HT.sIx its.length 0 lo).take<|HT.sIx its.length its.length hi-HT.sIx its.length 0 lo).toArray:=by
 let⟨h1,h2,h3⟩:=iM lo hi its.toArray.size;unfold slicePick;rw[h1,h2,h3];simp only[sliceRange_one,pick_run,xAp] <;> rfl
def zIb(K:xFr):V->B5 Int->B5 Int->Hp->VK->Prop:=λx lo hi H Q=>∃a xs,x=.ref a/\SqL K H a xs/\∀p,H p=none->Q (.ref p) (upd H p<|.lst<|zDv xs lo hi)
def lS:SlR X<|zIb X.K:=by
 intro Z s O H x v vl vu lo hi sl Q I rx hs pl pu h;let⟨a,xs,rfl,hx,q⟩:=h;cases rx;let⟨its,r,ht,hz⟩:=I.list hx;have hlen:=r.length;erw[<-⟨"list",_,slot_list_getitem.lookup,ht.isList.typeIs,?_⟩,<-wpAny_getItem_list_slice ht.isList hs pl pu .none ⋯ ?_ (by rw[xAp] <;> lia)];rw[ig,<- hlen];refine⟨.ref s.heap.objs.size,_,I.laid (t':=s.toks) (o:=.lst<|zDv xs lo hi) (λb ob q=>xAf _ q) (xAg _) ?_,rfl,q _<|I.hok.fresh<|xAg _⟩;exact⟨xCk (fZ xs lo hi) hz,_,0,(r.drop<|HT.sIx xs.length 0 lo).take<|HT.sIx xs.length xs.length hi-HT.sIx xs.length 0 lo,xAl _ rfl⟩
noncomputable def zBm:V->B'
 |.non=>true
 |.bl _=>true
 |.int _=>true
 |.str _=>true
 |_=>false
noncomputable def eqV:V->V->B'
 |.non,.non=>true
 |.bl a,.bl b=>a==b
 |.bl a,.int b=>(if a then 1 else 0)==b
 |.int a,.bl b=>a==(if b then 1 else 0)
 |.int a,.int b=>a==b
 |.str a,.str b=>a==b
 |_,_=>false
theorem rM{A:Around}{u v:B6}(ry:zAi y u)(rx:zAi x v)(fy:zBm y=true)(fx:zBm x=true):SeqAt.EqAt A s u v<|eqV y x:=by
 cases y with
 |non=>
  cases ry;cases x with
  |non=>cases rx;exact SeqAt.EqAt.same _
  |bl b=>cases rx;exact SeqAt.EqAt.none_bool b
  |int b=>let⟨t,rfl⟩:=rx;exact SeqAt.EqAt.none_int b t
  |str b=>let⟨t,rfl⟩:=rx;exact SeqAt.EqAt.none_str b t
  |_=>exact absurd (show false=true from fx) xAy
 |bl a=>
  cases ry;cases x with
  |non=>cases rx;exact SeqAt.EqAt.bool_none a
  |bl b=>cases rx;exact SeqAt.EqAt.bool_bool a b
  |int b=>let⟨t,rfl⟩:=rx;exact SeqAt.EqAt.bool_int a b t
  |str b=>let⟨t,rfl⟩:=rx;exact SeqAt.EqAt.bool_str a b t
  |_=>exact absurd (show false=true from fx) xAy
 |int a=>
  let⟨t',rfl⟩:=ry;cases x with
  |non=>cases rx;exact SeqAt.EqAt.int_none a t'
  |bl b=>cases rx;exact SeqAt.EqAt.int_bool a t' b
  |int b=>let⟨t,rfl⟩:=rx;exact SeqAt.EqAt.int_int a t' b t
  |str b=>let⟨t,rfl⟩:=rx;exact SeqAt.EqAt.int_str a t' b t
  |_=>exact absurd (show false=true from fx) xAy
 |str a=>
  let⟨t',rfl⟩:=ry;cases x with
  |non=>cases rx;exact SeqAt.EqAt.str_none a t'
  |bl b=>cases rx;exact SeqAt.EqAt.str_bool a t' b
  |int b=>let⟨t,rfl⟩:=rx;exact SeqAt.EqAt.str_int a t' b t
  |str b=>let⟨t,rfl⟩:=rx;exact SeqAt.EqAt.str_str a t' b t
  |_=>exact absurd (show false=true from fx) xAy
 |_=>exact absurd (show false=true from fy) xAy
def eqU(x:V)(u:B6):B':=match u with
 |.none=>eqV .non x
 |.bool b=>eqV (.bl b) x
 |.int i _=>eqV (.int i) x
 |.str z _=>eqV (.str z) x
 |_=>false
theorem rK{u:B6}(r:zAi y u)(f:zBm y=true):eqU x u=eqV y x:=by
 cases y with
 |non=>cases r;rfl
 |bl b=>cases r;rfl
 |int i=>let⟨t,rfl⟩:=r;rfl
 |str z=>let⟨t,rfl⟩:=r;rfl
 |_=>exact absurd (show false=true from f) xAy
theorem fJ{x:V}:∀{xs:C6}{us:C7},zAh xs us->xs.all zBm=true->us.any (eqU x)=xs.any λy=>eqV y x
 |_,_,.nil,_=>rfl
 |y::xs,u::us,.cons r t,f=>by
  rw[xCj,xCh] at f;rw[List.any_cons,List.any_cons,rK r f.1,fJ t f.2]
theorem eO{A:Around}{s:B7}{x:V}{v:B6}(rx:zAi x v)(fx:zBm x=true):∀{xs:C6}{us:C7},zAh xs us->xs.all zBm=true->∀u∈us,SeqAt.EqAt A s u v (eqU x u)
 |_,_,.nil,_=>λu hu=>by cases hu
 |y::xs,u::us,.cons r t,f=>λu' hu=>by
  rw[xCj,xCh] at f;rcases xAv.mp hu with rfl|hu
  .rw[rK r f.1];exact rM r rx f.1 fx
  .exact eO rx fx t f.2 u' hu
def inV(x:V)(xs:C6):B':=xs.any λy=>eqV y x
def rIn(K:xFr)(neg:B'):R2:=λx y H Q=>∃p xs,y=.ref p/\(SqL K H p xs\/SqT K H p xs)/\zBm x=true/\xs.all zBm=true/\Q (.bl<|if neg then !inV x xs else inV x xs) H
def oj:OpR X (compareOp .In)<|rIn X.K false:=by
 intro Z s O H x y v u Q I rx ry h;let⟨p,xs,rfl,hq,fx,fs,q⟩:=h;cases ry;rcases hq with hq|hq
 .let⟨its,r,pl,hz⟩:=I.list hq;refine SeqAt.in_listAt (eqU x) pl.isList (λw hw=>eO rx fx r fs w<|by simpa using hw) ⟨.bl _,H,I,rfl,?_⟩;rw[show its.toArray.any (eqU x)=its.any (eqU x) by simp,fJ r fs];exact q
 .let⟨its,r,pl,hz⟩:=I.tuple hq;refine SeqAt.in_tupleAt (eqU x) pl (λw hw=>eO rx fx r fs w<|by simpa using hw) ⟨.bl _,H,I,rfl,?_⟩;rw[show its.toArray.any (eqU x)=its.any (eqU x) by simp,fJ r fs];exact q
def iY:OpR X (compareOp .NotIn)<|rIn X.K true:=by
 intro Z s O H x y v u Q I rx ry h;let⟨p,xs,rfl,hq,fx,fs,q⟩:=h;cases ry;rcases hq with hq|hq
 .let⟨its,r,pl,hz⟩:=I.list hq;refine SeqAt.notIn_listAt (eqU x) pl.isList (λw hw=>eO rx fx r fs w<|by simpa using hw) ⟨.bl _,H,I,rfl,?_⟩;rw[show its.toArray.any (eqU x)=its.any (eqU x) by simp,fJ r fs];exact q
 .let⟨its,r,pl,hz⟩:=I.tuple hq;refine SeqAt.notIn_tupleAt (eqU x) pl (λw hw=>eO rx fx r fs w<|by simpa using hw) ⟨.bl _,H,I,rfl,?_⟩;rw[show its.toArray.any (eqU x)=its.any (eqU x) by simp,fJ r fs];exact q
def jn:zAn X (.type "list") λxs H Q=>∃p ys,xs=[.ref p]/\(SqL X.K H p ys\/SqT X.K H p ys)/\∀l,H l=none->Q (.ref l) (upd H l<|.lst ys):=by
 intro Z s O H xs us Q I r h;let⟨p,ys,rfl,hq,q⟩:=h;let⟨u,rfl,rx⟩:=zBe r;cases rx;have fin:∀(its:C7),zAh ys its->ys.length<=sizeLine->∀(h':Heap)(c':Nat),(∀b o',s.heap.get? b=some o'->h'.get? b=some o') ->
   h'.get? s.heap.objs.size=some {cls:=.type "list",dict:=none,data:=.seq its.toArray c',slots:=#[]}->EP X Z O Q (.ref s.heap.objs.size) {s with heap:=h'}:=λits r' hz h' c' kp e=>
  ⟨.ref s.heap.objs.size,_,I.laid (t':=s.toks) kp (xAg _)<|show zAf X.prog X.w _ h' _ (.lst ys) from⟨hz,its,c',r',e⟩,rfl,q _<|I.hok.fresh<|xAg _⟩
 rcases hq with hq|hq
 .let⟨its,r',pl,hz⟩:=I.list hq;have hlen:=r'.length;let⟨o,ho,hc,n,hd⟩:=pl.isList;exact call_list_seq p (.inl rfl) ho hc hd (λh' c' kp e=>fin its r' hz h' c' kp e) (by simp only[xAp] <;> lia)
 .let⟨its,r',pl,hz⟩:=I.tuple hq;have hlen:=r'.length;let⟨o,ho,hc,n,hd⟩:=pl;exact call_list_seq p (.inr rfl) ho hc hd (λh' c' kp e=>fin its r' hz h' c' kp e) (by simp only[xAp] <;> lia)
def ik:zAn X (.type "tuple") λxs H Q=>∃p ys,xs=[.ref p]/\((SqL X.K H p ys/\∀l,H l=none->Q (.ref l) (upd H l<|.tup ys))\/(SqT X.K H p ys/\Q (.ref p) H)):=by
 intro Z s O H xs us Q I r h;let⟨p,ys,rfl,h⟩:=h;let⟨u,rfl,rx⟩:=zBe r;cases rx;rcases h with ⟨hq,q⟩|⟨hq,q⟩
 .let⟨its,r',pl,hz⟩:=I.list hq;have hlen:=r'.length;refine call_tuple_list pl.isList (λh' kp=>?_) (by simp only[xAp] <;> lia);have I1:Inv X Z O H {s with heap:=h'}:=I.kept (t':=s.toks) kp;have I2:Inv X Z O (upd H h'.objs.size<|.tup ys) {s with heap:=h'.push {cls:=.type "tuple",data:=.seq its.toArray} }:=
   I1.laid (t':=s.toks) (λb o e=>xAf _ e) (xAg _) (show zAf X.prog X.w _ _ _ (.tup ys) from⟨hz,its,r',IsTup.new _ _⟩)
  exact⟨.ref h'.objs.size,_,I2,rfl,q _<|I1.hok.fresh<|xAg _⟩
 .let⟨its,r',pl,hz⟩:=I.tuple hq;exact call_tuple_same pl ⟨.ref p,H,I,rfl,q⟩
def tyV(K:xFr)(T:String)(x:V)(H:Hp):Prop:=match x with
 |.str _=>T="str"
 |.int _=>T="int"
 |.ref p=>(T="list"/\∃xs,SqL K H p xs)\/(T="tuple"/\∃o,K.lookup p=some o/\o.cls=.type "tuple"/\o.dict=none) \/
   (T="dict"/\((∃kvs,H p=some (.dK kvs))\/∃kvs,H p=some (.dT kvs)))\/(T="set"/\∃S n,H p=some (.set S n))
 |_=>False
theorem vQ{T:String}{v:B6}(I:Inv X Z O H s)(r:zAi x v)(ty:tyV X.K T x H) :
  s.TypeIs v T/\∀a,v=.ref a->∃ob,s.heap.get? a=some ob/\ob.dict=none:=by
 cases x with
 |str z=>
  let⟨t,rfl⟩:=r;cases (show T="str" from ty);exact⟨typeIs_str s z t,λ_ e=>nomatch e⟩
 |int i=>
  let⟨t,rfl⟩:=r;cases (show T="int" from ty);exact⟨typeIs_int s i t,λ_ e=>nomatch e⟩
 |ref p=>
  cases r;rcases ty with ⟨rfl,xs,hq⟩|⟨rfl,o,hk,hc,hd⟩|⟨rfl,hk⟩|⟨rfl,S,n,hk⟩
  .let⟨its,_,pl,_⟩:=I.list hq;refine⟨pl.isList.typeIs,λa e=>?_⟩;cases e;let⟨o,n,e,c,hd,_⟩:=pl;exact⟨o,e,hd⟩
  .refine⟨⟨o,I.kIn p o hk,hc⟩,λa e=>?_⟩;cases e;exact⟨o,I.kIn _ o hk,hd⟩
  .have z:∃o,s.heap.get? p=some o/\o.ExactDict:=by
    rcases hk with ⟨kvs,hk⟩|⟨kvs,hk⟩
    .let⟨_,_,_,_,o,_,_,e,ex,_⟩:=I.hok p _ hk;exact⟨o,e,ex⟩
    .let⟨_,_,_,_,o,_,_,e,ex,_⟩:=I.hok p _ hk;exact⟨o,e,ex⟩
   let⟨o,e,ex⟩:=z;refine⟨⟨o,e,ex.1⟩,λa e2=>?_⟩;cases e2;exact⟨o,e,ex.2.1⟩
  .let⟨o,_,_,_,e,ex,_⟩:=I.hok p _ hk;refine⟨⟨o,e,ex.1⟩,λa e2=>?_⟩;cases e2;exact⟨o,e,ex.2.1⟩
 |_=>exact False.elim ty
def tBM(K:xFr)(T:String)(r:V->C6->Hp->VK->Prop)(to:TE)(t:TA):TE:=λO H Q=>to O H λx H1=>tyV K T x H1/\t O H1 λxs H2=>r x xs H2 Q
variable{o e:B8}{es:B4 B8}{to:TE}{t:TA}{name:Str}{apos cpos:Pos}{T id:String}{r:V->C6->Hp->VK->Prop}
def zB(pa:PlainAttrs T)(slot:Slot T name id)(hty:typeOf (.builtin id)=pure (.type "method_descriptor"))(hm:MtR X id r)(ho:PE X o to)(ha:PA X (e::es) t)(hbase:attributeBase o name X.env (eval o X.env)=eval o X.env:=by rfl)(hfew:((backTo cpos<|starEach (e::es) X.env).all (λx=>!x.1) && (backToKw cpos<|keywordEach [] X.env).all (λx=>x.1.isSome)
   && decide ((e::es).length+([]:B4 Keyword).length+(if([]:B4 Keyword).isEmpty then 0 else 1)<30))=true:=by rfl)(hline:(apos.endLine==cpos.line)=true:=by rfl)(hs:starEach (e::es) X.env=(false,eval e X.env)::starEach es X.env:=by rfl)(hplain:(backTo cpos<|starEach es X.env).any (·.1)=false:=by rfl) :
  PE X (.Call (.Attribute o name apos) (e::es) [] cpos) (tBM X.K T r to t):=by
 intro Z s O H Q I h;refine wpAny_Call_method_late hbase hfew hline rfl (thn (ho Z s O H _ I h) λv s1 zz=>?_);let⟨x,H1,I1,r1,ty,q1⟩:=zz;let⟨h1,h2⟩:=vQ I1 r1 ty;refine⟨T,id,pa,slot,hty,h1,h2,?_⟩;have hA:=ha cpos Z s1 O H1 _ I1 q1;rw[hs] at hA⊢;refine Calls.callWith_builtin (by show(false||(backTo cpos<|starEach es X.env).any (·.1))=false;rw[hplain] <;> rfl)<|Calls.evalArgs_plain ?_;exact thn hA λus s2 ⟨vs,H2,I2,r2,q2⟩=>hm Z s2 O H2 x vs v us Q I2 r1 r2 q2
end
def MtM(X:Cx)(id:String)(r:V->C6->Hp->VK->Prop):Prop:=
 ∀(Z:B4<|B9×Obj)(s:B7)(O:St)(H:Hp)(x:V)(xs:C6)(v:B6)(us:C7)(Q:VK),Inv X Z O H s->zAi x v->zAh xs us->r x xs H Q ->
  wpAny (model X.prog X.w) X.A (call (.builtin id)<|v::us) (EP X Z O Q) X.xe s
theorem zAh.one:∀{x:V}{us:C7},zAh [x] us->∃u,us=[u]/\zAi x u
 |_,_,.cons r .nil=>⟨_,rfl,r⟩
section
variable{X:Cx}{Z:B4<|B9×Obj}{O:St}{H:Hp}{s:B7}{l b:B9}{xs ys zs:C6}
def Inv.lset{its:C7}{f:Array B6->Array B6}(I:Inv X Z O H s)(hH:H l=some (.lst xs))(e:s.heap.get? l=some {cls:=.type "list",data:=.seq its.toArray n})(hf:f its.toArray=its'.toArray)(hv:zAh ys its')(hz:ys.length<=sizeLine) :
  Inv X Z O (upd H l<|.lst ys) {s with heap:=s.heap.update l<|Obj.mapSeq f,toks:=t'}:=by
 have q:=PySem.IsL.update e f;rw[hf] at q;refine I.write (x:=l) (e:=l) (by rw[hH];exact trivial) (.inl rfl) (λb' u hb hu=>(Heap.get?_update_other s.heap (Obj.mapSeq f)<|Ne.symm hb).trans hu) ⟨_,q⟩ ?_;exact⟨hz,its',_,hv,q⟩
def Inv.lnew{its:C7}(I:Inv X Z O H s)(hv:zAh ys its)(hz:ys.length<=sizeLine) :
  Inv X Z O (upd H s.heap.objs.size<|.lst ys) {s with heap:=s.heap.push {cls:=.type "list",data:=.seq its.toArray},toks:=t'}:=
 I.laid (λ_ _ q=>xAf _ q) (xAg _) ⟨hz,its,0,hv,xAl _ rfl⟩
theorem Inv.fresh(I:Inv X Z O H s):H s.heap.objs.size=none:=I.hok.fresh<|xAg _
def Inv.lstM(I:Inv X Z O H s)(hH:H l=some (.lst xs)):xs.length<=sizeLine/\∃(its:C7) (n:Nat),zAh xs its/\xs.length=its.length/\s.heap.get? l=some {cls:=.type "list",data:=.seq its.toArray n}:=by
 let⟨z,its,n,r,e⟩:=I.hok l _ hH;exact⟨z,its,n,r,r.length,e⟩
def zDh(h:n<=sizeLine):Builtin.List.listTooLong n=false:=by
 unfold Builtin.List.listTooLong;exact xCn ()
end
section
variable{X:Cx}
def zC8:V->C6->Hp->VK->Prop:=λx vs H Q=>∃l xs y,x=.ref l/\vs=[y]/\H l=some (.lst xs)/\xs.length<sizeLine/\Q .non (upd H l<|.lst<|xs++[y])
def ip:MtM X "list.append" zC8:=by
 intro Z s O H x vs v us Q I rx rv h;let⟨l,xs,y,rfl,rfl,hH,hz,q⟩:=h;cases rx;let⟨u,rfl,ru⟩:=rv.one;let⟨z,its,n,r,hl,e⟩:=I.lstM hH;erw[<-call_meets F.slot_list_append ⟨_,e,rfl⟩ F.entry_list_append (F.args_list_append_2 _ _) (PySem.list_append l its.toArray n u<|by rw[xAp];lia) ⟨e,?_⟩,<-⟨.non,_,I.lset (its':=its++[u]) hH e ⋯ (r.append<|.cons ru .nil) ?_,rfl,q⟩];rw[xAb,xAt];lia
def zC7:V->C6->Hp->VK->Prop:=λx vs H Q=>∃l b xs zs,x=.ref l/\vs=[.ref b]/\H l=some (.lst xs)/\H b=some (.lst zs)/\xs.length+zs.length<=sizeLine/\Q .non (upd H l<|.lst<|xs++zs)
def ou:MtM X "list.extend" zC7:=by
 intro Z s O H x vs v us Q I rx rv h;let⟨l,b,xs,zs,rfl,rfl,hH,hB,hz,q⟩:=h;cases rx;let⟨u,rfl,ru⟩:=rv.one;cases ru;let⟨z,its,n,r,hl,e⟩:=I.lstM hH;let⟨z2,its2,n2,r2,hl2,e2⟩:=I.lstM hB;have hsz:its.toArray.size+its2.toArray.size<=sizeLine:=by rw[xAp,xAp];lia
 have hlong:¬ (!its.toArray.isEmpty&&Builtin.List.listTooLong (its.toArray.size+its2.toArray.size))=true:=by
  rw[zDh hsz,Bool.and_false];exact xAy
 refine call_meets F.slot_list_extend ⟨_,e,rfl⟩ F.entry_list_extend (F.args_list_extend_2 _ _)
  (AutoSeq1.list_extend_list_list_0 l its.toArray n b its2.toArray n2 hlong (by rw[xAp];lia) ()) ⟨e,e2,?_⟩
 refine⟨.non,_,I.lset (its':=its++its2) hH e ⋯ (r.append r2) ?_,rfl,q⟩;rw[xAb];lia
def zIk:R2:=λx y H Q=>∃l b xs zs,x=.ref l/\y=.ref b/\H l=some (.lst xs)/\H b=some (.lst zs)/\xs.length+zs.length<=sizeLine/\∀p,H p=none->Q (.ref p) (upd H p<|.lst<|xs++zs)
def xj:OpR X (binaryOp .Add) zIk:=by
 intro Z s O H x y v u Q I rx ry h;let⟨l,b,xs,zs,rfl,rfl,hH,hB,hz,q⟩:=h;cases rx;cases ry;let⟨z,its,n,r,hl,e⟩:=I.lstM hH;let⟨z2,its2,n2,r2,hl2,e2⟩:=I.lstM hB;refine PySem.P.add_list e e2 ?_ (by rw[xAp,xAp];lia);have ea:its.toArray++its2.toArray=(its++its2).toArray:=by simp
 rw[ea];exact⟨.ref _,_,I.lnew (t':=s.toks) (r.append r2) (by rw[xAb];lia),rfl,q _ I.fresh⟩
end
section
variable{prog:Program}{w:World}{A:Around}{E:B6->B7->Prop}{s:B7}
set_option maxRecDepth 100000 in
end
section
variable{κ:Type} [DecidableEq κ]
noncomputable def zB8(kvs:B4<|κ×V)(k:κ):B5 V:=(kvs.find? λkv=>decide<|kv.1=k).map (·.2)
noncomputable def putK(kvs:B4<|κ×V)(k:κ)(v:V):B4<|κ×V:=
 if(kvs.any λkv=>decide<|kv.1=k)=true then kvs.map (λkv=>if kv.1=k then(kv.1,v) else kv) else kvs++[(k,v)]
def fk{p:κ×V}{r:B4<|κ×V}{k:κ}(e:p.1=k):zB8 (p::r) k=some p.2:=by simp[zB8,List.find?_cons,e]
def fm{p:κ×V}{r:B4<|κ×V}{k:κ}(e:¬ p.1=k):zB8 (p::r) k=zB8 r k:=by simp[zB8,List.find?_cons,e]
theorem jy(k:κ):∀kvs:B4<|κ×V,(kvs.any λkv=>decide<|kv.1=k)=(zB8 kvs k).isSome
 |[]=>rfl
 |p::r=>by
  rw[List.any_cons];by_cases e:p.1=k
  .simp only[fk e,xBd e,Bool.true_or,Option.isSome_some]
  .rw[fm e,xCn e,Bool.false_or];exact jy k r
def eP(kvs:B4<|κ×V)(k:κ)(v:V):(putK kvs k v).length<=kvs.length+1:=by
 unfold putK;split
 .rw[xAa];lia
 .rw[xAb,xAo,List.length_nil];lia
theorem zB9.isSome_eq{o:B5 V}{u:B5 B6}(r:zB9 o u):o.isSome=u.isSome:=by
 cases o with
 |none=>cases u with
  |none=>rfl
  |some _=>exact(show False from r).elim
 |some _=>cases u with
  |none=>exact(show False from r).elim
  |some _=>rfl
theorem KV.val{kvs:B4<|κ×V}{vs:B4<|κ×B6}(r:KV kvs vs)(k:κ):zB9 (zB8 kvs k)<|valueAt vs k:=by
 unfold KV at r;induction r with
 |nil=>exact True.intro
 |@cons p q ps qs h t ih=>
  let⟨h1,h2⟩:=h;by_cases e:p.1=k
  .have e':q.1=k:=h1.symm.trans e;have b:valueAt (q::qs) k=some q.2:=by simp[valueAt,List.find?_cons,e']
   rw[fk e,b];exact h2
  .have e':¬ q.1=k:=λz=>e<|h1.trans z;have b:valueAt (q::qs) k=valueAt qs k:=by simp[valueAt,List.find?_cons,e']
   rw[fm e,b];exact ih
theorem KV.any{kvs:B4<|κ×V}{vs:B4<|κ×B6}(r:KV kvs vs)(k:κ):(kvs.any λkv=>decide<|kv.1=k)=vs.any λkv=>decide<|kv.1=k:=by
 unfold KV at r;induction r with
 |nil=>rfl
 |cons h t ih=>rw[List.any_cons,List.any_cons,ih,h.1]
theorem KV.repl{kvs:B4<|κ×V}{vs:B4<|κ×B6}(r:KV kvs vs)(k:κ){u:B6}(ry:zAi y u) :
  KV (kvs.map λkv=>if kv.1=k then(kv.1,y) else kv) (vs.map λkv=>if kv.1=k then(kv.1,u) else kv):=by
 unfold KV at r⊢;induction r with
 |nil=>exact .nil
 |@cons p q ps qs h t ih=>
  rw[xBs,xBs];refine .cons ?_ ih;let⟨h1,h2⟩:=h;by_cases e:p.1=k
  .rw[xCg e,xCg<|h1.symm.trans e];exact⟨h1,ry⟩
  .rw[xCf e,xCf λz=>e<|h1.trans z];exact⟨h1,h2⟩
def KV.put{kvs:B4<|κ×V}{vs:B4<|κ×B6}(r:KV kvs vs)(k:κ){u:B6}(ry:zAi y u):KV (putK kvs k y)<|stored vs k u:=by
 unfold putK stored;rw[r.any k];by_cases e:(vs.any λkv=>decide<|kv.1=k)=true
 .rw[xCg e,xCg e];exact r.repl k ry
 .rw[xCf e,xCf e];exact Paired.snoc r ⟨rfl,ry⟩
theorem KV.keys{kvs:B4<|κ×V}{vs:B4<|κ×B6}(r:KV kvs vs):kvs.map (·.1)=vs.map (·.1):=by
 unfold KV at r;induction r with
 |nil=>rfl
 |cons h t ih=>rw[xBs,xBs,ih,h.1]
theorem KV.length{kvs:B4<|κ×V}{vs:B4<|κ×B6}(r:KV kvs vs):kvs.length=vs.length:=Paired.length r
end
theorem iu{w:World}{k:Key}{u:B6}(r:zAi (kV k) u):(zAk P w).is k u=true:=by
 cases k with
 |inl i=>let⟨t,e⟩:=(show ∃t,u=Value.int i t from r);subst e;exact jR P w i t
 |inr x=>let⟨t,e⟩:=(show ∃t,u=Value.str x t from r);subst e;exact jQ P w x t
theorem iw{P:Program}{w:World}:∀{ks:B4 Key}{us:C7},zAh (ks.map kV) us->ItemsAre (zAk P w) ks us
 |[],_,r=>by rw[List.map_nil] at r;cases r;exact .nil
 |k::ks,_,r=>by
  rw[xBs] at r;cases r with
  |cons h t=>exact .cons (iu h) (iw t)
noncomputable abbrev KT(H:Hp):B4 (B4 Key×V)->B4 (B4 Key×B9×B6)->Prop:=Paired λp q=>p.1=q.1/\H q.2.1=some (.tup<|p.1.map kV)/\zAi p.2 q.2.2
theorem KT.val{kvs:B4<|B4 Key×V}{xs:B4<|B4 Key×B9×B6}(r:KT H kvs xs)(k:B4 Key):zB9 (zB8 kvs k) ((atKey xs k).map (·.2)):=by
 induction r with
 |nil=>exact True.intro
 |@cons p q ps qs h t ih=>
  let⟨h1,_,h2⟩:=h;by_cases e:p.1=k
  .have e':q.1=k:=h1.symm.trans e;have b:atKey (q::qs) k=some q.2:=by simp[atKey,List.find?_cons,e']
   rw[fk e,b];exact h2
  .have e':¬ q.1=k:=λz=>e<|h1.trans z;have b:atKey (q::qs) k=atKey qs k:=by simp[atKey,List.find?_cons,e']
   rw[fm e,b];exact ih
theorem KT.repl{kvs:B4<|B4 Key×V}{xs:B4<|B4 Key×B9×B6}(r:KT H kvs xs)(k:B4 Key){u:B6}(ry:zAi y u) :
  KT H (kvs.map λkv=>if kv.1=k then(kv.1,y) else kv) (xs.map<|putAt k u):=by
 induction r with
 |nil=>exact .nil
 |@cons p q ps qs h t ih=>
  rw[xBs,xBs];refine .cons ?_ ih;let⟨h1,h2,h3⟩:=h;unfold putAt;by_cases e:p.1=k
  .rw[xCg e,xCg<|h1.symm.trans e];exact⟨h1,h2,ry⟩
  .rw[xCf e,xCf λz=>e<|h1.trans z];exact⟨h1,h2,h3⟩
def KT.put{kvs:B4<|B4 Key×V}{xs:B4<|B4 Key×B9×B6}(r:KT H kvs xs)(k:B4 Key){b:B9}{u:B6}(hb:H b=some (.tup<|k.map kV))(ry:zAi y u) :
  KT H (putK kvs k y) (storedH xs k b u):=by
 have e:(kvs.any λkv=>decide<|kv.1=k)=(atKey xs k).isSome:=by
  rw[jy,(r.val k).isSome_eq,Option.isSome_map]
 unfold putK storedH;rw[e];by_cases q:(atKey xs k).isSome=true
 .rw[xCg q,xCg q];exact r.repl k ry
 .rw[xCf q,xCf q];exact Paired.snoc r ⟨rfl,hb,ry⟩
def KT.keeps{kvs:B4<|B4 Key×V}{xs:B4<|B4 Key×B9×B6}(r:KT H kvs xs)(ht:∀b ys,H b=some (.tup ys)->H' b=some (.tup ys)):KT H' kvs xs:=
 Paired.mapP r λ_ _ z=>⟨z.1,ht _ _ z.2.1,z.2.2⟩
section
variable{P:Program}{w:World}{H:Hp}{h:Heap}{a:B9}
def vj{u:HO}(ok:HOk P w H h)(e:Rd H a u):zAf P w H h a u:=e.ok ok
def fY(ok:HOk P w H h)(e:Rd H a<|.dK kvs):kvs.length<=sizeLine/\(a==sysModules)=false/\∃vs,KV kvs vs/\h.DictOf (zAk P w) a vs:=
 show zAf P w H h a (.dK kvs) from vj ok e
def vI(ok:HOk P w H h)(e:H a=some (.dK kvs)):kvs.length<=sizeLine/\(a==sysModules)=false/\∃vs,KV kvs vs/\h.DictOf (zAk P w) a vs:=fY ok<|.inl e
def gQ{ks:B4 Key}(ok:HOk P w H h)(e:H a=some (.tup<|ks.map kV)):(tupleKind<|zAk P w).is h ks a:=by
 let⟨_,its,r,o,h1,h2,n,h3⟩:=(show zAf P w H h a (.tup<|ks.map kV) from ok a _ e)
 exact⟨o,its.toArray,n,h1,h2,h3,by simpa using iw r⟩
def j4{kvs:B4<|B4 Key×V}(ok:HOk P w H h)(e:Rd H a<|.dT kvs):kvs.length<=sizeLine/\(a==sysModules)=false /\
  ∃xs,KT H kvs xs/\h.DictOfH (tupleKind<|zAk P w) a xs:=by
 let⟨z,y,xs,r,o,es,ep,h1,h2,h3,h4,h5⟩:=(show zAf P w H h a (.dT kvs) from vj ok e)
 refine⟨z,y,xs,r,o,es,ep,h1,h2,h3,h4,λx hx=>?_,h5⟩;have all:∀{l:B4<|B4 Key×V}{m:B4<|B4 Key×B9×B6},KT H l m->∀x∈m,(tupleKind<|zAk P w).is h x.1 x.2.1:=by
  intro l m q;induction q with
  |nil=>intro x hx;exact nomatch hx
  |@cons p q ps qs hq t ih=>
   intro x hx;rcases xAv.mp hx with e|hx
   .subst e;exact gQ ok (by rw[<- hq.1];exact hq.2.1)
   .exact ih x hx
 exact all r x hx
def AK{kvs:B4<|B4 Key×V}(ok:HOk P w H h)(e:H a=some (.dT kvs)):kvs.length<=sizeLine/\(a==sysModules)=false /\
  ∃xs,KT H kvs xs/\h.DictOfH (tupleKind<|zAk P w) a xs:=j4 ok<|.inl e
end
def zEv(H:Hp)(a:B9)(y:V)(r:B5 V):Prop:=
 (∃kvs k,Rd H a (.dK kvs)/\y=kV k/\r=zB8 kvs k)\/∃kvs k b,Rd H a (.dT kvs)/\y=.ref b/\H b=some (.tup<|k.map kV)/\r=zB8 kvs k
def zI7(H:Hp)(a:B9)(y v:V)(H':Hp):Prop:=
 (∃kvs k,H a=some (.dK kvs)/\y=kV k/\kvs.length<sizeLine/\H'=upd H a (.dK<|putK kvs k v)) \/
 ∃kvs k b,H a=some (.dT kvs)/\y=.ref b/\H b=some (.tup<|k.map kV)/\kvs.length<sizeLine/\H'=upd H a (.dT<|putK kvs k v)
section
variable{X:Cx}{Z:B4<|B9×Obj}{O:St}{H:Hp}{s:B7}{a:B9}{y v:V}{u r:B6}{o:B5 V}{A:Around}{E:B6->B7->Prop}
def Inv.big(I:Inv X Z O H s):sysModules<s.heap.objs.size:=by
 have h:mainGlobals<s.heap.objs.size:=(I.mod.glob.keeps I.bk).lt;exact Nat.lt_trans ∅ h
def oJ(hu:A.units+1<cLine)(I:Inv X Z O H s)(g:zEv H a y<|some v)(ry:zAi y u)(h:∀w' s',Inv X Z O H s'->zAi v w'->Q w' s') :
  wpAny (model X.prog X.w) A (getItem (.ref a) u) Q E s:=by
 rcases g with ⟨kvs,k,e,ey,l⟩|⟨kvs,k,b,e,ey,eb,l⟩
 .subst ey;let⟨z,hd,vs,rel,dd⟩:=fY I.hok e;let⟨w',hw,rw'⟩:=zB9.some_of (v:=v) (o:=valueAt vs k) (by rw[l];exact rel.val k);exact wpAny_getItem_of (iu ry) dd.mapOf hw<|h w' _ (I.tok _) rw'
 .subst ey;cases (show u=Value.ref b from ry);let⟨z,hd,xs,rel,dd⟩:=j4 I.hok e;let⟨w',hw,rw'⟩:=zB9.some_of (v:=v) (o:=(atKey xs k).map (·.2)) (by rw[l];exact rel.val k);let⟨p,hp,hp2⟩:=Option.map_eq_some_iff.mp hw;erw[wpAny_getItem_heap (tupleKind_room_in1 hu) (gQ I.hok eb) dd hp];rw[hp2];exact h w' _ (I.tok _) rw'
def BV(hu:A.units+1<cLine)(I:Inv X Z O H s)(g:zEv H a y o)(ry:zAi y u)(h:∀s',Inv X Z O H s'->Q (.bool o.isSome) s') :
  wpAny (model X.prog X.w) A (compareOp .In u<|.ref a) Q E s:=by
 rcases g with ⟨kvs,k,e,ey,l⟩|⟨kvs,k,b,e,ey,eb,l⟩
 .subst ey;let⟨z,hd,vs,rel,dd⟩:=fY I.hok e;erw[wpAny_in_of (iu ry) hd dd.mapOf];rw[<- (rel.val k).isSome_eq,<- l];exact h _<|I.tok _
 .subst ey;cases (show u=Value.ref b from ry);let⟨z,hd,xs,rel,dd⟩:=j4 I.hok e;erw[wpAny_in_heap (tupleKind_room_in1 hu) (gQ I.hok eb) hd dd];have q:=(rel.val k).isSome_eq;rw[Option.isSome_map] at q;rw[<- q,<- l];exact h _<|I.tok _
def uM(hu:A.units+1<cLine)(I:Inv X Z O H s)(g:zEv H a y o)(ry:zAi y u)(h:∀s',Inv X Z O H s'->Q (.bool (!o.isSome)) s') :
  wpAny (model X.prog X.w) A (compareOp .NotIn u<|.ref a) Q E s:=by
 rcases g with ⟨kvs,k,e,ey,l⟩|⟨kvs,k,b,e,ey,eb,l⟩
 .subst ey;let⟨z,hd,vs,rel,dd⟩:=fY I.hok e;erw[wpAny_notIn_of (iu ry) hd dd.mapOf];rw[<- (rel.val k).isSome_eq,<- l];exact h _<|I.tok _
 .subst ey;cases (show u=Value.ref b from ry);let⟨z,hd,xs,rel,dd⟩:=j4 I.hok e;erw[wpAny_notIn_heap (tupleKind_room_in1 hu) (gQ I.hok eb) hd dd];have q:=(rel.val k).isSome_eq;rw[Option.isSome_map] at q;rw[<- q,<- l];exact h _<|I.tok _
def jl{ob:HO}(I:Inv X Z O H s)(mu:Mut<|H a)(hs:Heap.SameBut a s.heap h')(he:∃q,h'.get? a=some q)(new:zAf X.prog X.w (upd H a ob) h' a ob) :
  Inv X Z O (upd H a ob) {s with heap:=h',toks:=t'}:=
 I.write (x:=a) (e:=a) mu (.inl rfl) (λb q hb z=>(hs.2 b hb).trans z) he new
def lB{w:World}{vs:B4<|Key×B6}(z:kvs.length<=sizeLine)(hd:(a==sysModules)=false)(rel:KV kvs vs)(dd:h'.DictOf (zAk P w) a vs) :
  zAf P w H' h' a (.dK kvs):=⟨z,hd,vs,rel,dd⟩
def oI{Q:Unit->B7->Prop}(hu:A.units+1<cLine)(I:Inv X Z O H s)(g:zI7 H a y v H')(ry:zAi y u)(rv:zAi v r)(h:∀s',Inv X Z O H' s'->Q ⟨⟩ s') :
  wpAny (model X.prog X.w) A (setItem (.ref a) u r) Q E s:=by
 rcases g with ⟨kvs,k,e,ey,l,eH⟩|⟨kvs,k,b,e,ey,eb,l,eH⟩
 .subst ey eH;let⟨z,hd,vs,rel,dd⟩:=vI I.hok e;have hz:vs.length<=sizeLine:=by rw[<- rel.length];exact z
  have hl:(putK kvs k v).length<=sizeLine:=by have:=eP kvs k v;lia
  refine wpAny_setItem_pairs (hsz:=hz) (iu ry) dd λh' dd' hs=>h _ ?_;have he:∃q,h'.get? a=some q:=let ⟨q,_,_,hq,_⟩:=dd';⟨q,hq⟩;exact jl I (by rw[e];exact True.intro) hs he<|lB hl hd (rel.put k rv) dd'
 .subst ey eH;cases (show u=Value.ref b from ry);let⟨z,hd,xs,rel,dd⟩:=AK I.hok e;have hz:xs.length<=sizeLine:=by rw[<- Paired.length rel];exact z
  have hl:(putK kvs k v).length<=sizeLine:=by have:=eP kvs k v;lia
  refine wpAny_setItem_heap (hsz:=hz) (tupleKind_room_in1 hu) (gQ I.hok eb) dd λh' dd' hs=>h _ ?_;let⟨q,es,ep,hq,h2,h3,h4,_,h5⟩:=dd';refine jl I (by rw[e];exact True.intro) hs ⟨q,hq⟩ ⟨hl,hd,_,(rel.put k eb rv).keeps λc ys ec=>?_,q,es,ep,hq,h2,h3,h4,h5⟩;rw[b9<|Ad ec e λz=>nomatch z];exact ec
end
section
variable{X:Cx}{Z:B4<|B9×Obj}{O:St}{H:Hp}{s:B7}{a:B9}{kvs:B4<|Key×V}{k:Key}{u:B6}{A:Around}{E:B6->B7->Prop}
def AM(I:Inv X Z O H s)(e:Rd H a<|.dK kvs)(h:∀t s',Inv X Z O H s'->Q (.int kvs.length t) s'):wpAny (model X.prog X.w) A (call (.builtin "len") [.ref a]) Q E s:=by
 let⟨z,hd,vs,rel,dd⟩:=fY I.hok e;erw[call_len_dict hd dd (by rw[<- rel.length];rw[sizeLine_eq] at z;lia)];rw[<- rel.length];exact h _ _<|I.tok _
end
def j9{a:B9}{o:B5 V}(I:Inv X Z O H s)(g:zEv H a y o):s.TypeIs (.ref a) "dict":=by
 rcases g with ⟨kvs,k,e,_,_⟩|⟨kvs,k,b,e,_,_,_⟩
 .let⟨_,_,vs,_,dd⟩:=fY I.hok e;exact dd.typeIs
 .let⟨_,_,xs,_,dd⟩:=j4 I.hok e;exact dd.typeIs
def j8{w:World}(h:Heap)(hb:sysModules<h.objs.size):zAf P w H (h.push {cls:=.type "dict",data:=.dict #[]}) h.objs.size<|.dK []:=
 ⟨xBn _,beq_eq_false_iff_ne.mpr<|Ne.symm<|xA0 hb,[],.nil,Heap.DictOf.new h⟩
def rN{w:World}(h:Heap)(hb:sysModules<h.objs.size):zAf P w H (h.push {cls:=.type "dict",data:=.dict #[]}) h.objs.size<|.dT []:=
 ⟨xBn _,beq_eq_false_iff_ne.mpr<|Ne.symm<|xA0 hb,[],.nil,_,#[],0,xAl _ rfl,⟨rfl,rfl,rfl⟩,rfl,rfl,xC7⟩
def zE5:TE:=λ_ H Q=>∀p,H p=none->Q (.ref p) (upd H p<|.dK [])
def zE4:TE:=λ_ H Q=>∀p,H p=none->Q (.ref p) (upd H p<|.dT [])
section
variable{X:Cx}{pos:Pos}
def qi:PE X (.Dict [] [] pos) zE5:=λZ s O H Q I h=>
 wpAny_Dict_empty ⟨.ref s.heap.objs.size,_,I.laid (a:=s.heap.objs.size) (o:=.dK []) (t':=s.toks) (λ_ _ q=>xAf _ q) (xAg _)<|j8 s.heap I.big,rfl,h _<|I.hok.fresh<|xAg _⟩
def qh:PE X (.Dict [] [] pos) zE4:=λZ s O H Q I h=>
 wpAny_Dict_empty ⟨.ref s.heap.objs.size,_,I.laid (a:=s.heap.objs.size) (o:=.dT []) (t':=s.toks) (λ_ _ q=>xAf _ q) (xAg _)<|rN s.heap I.big,rfl,h _<|I.hok.fresh<|xAg _⟩
end
def zCi:B4 (TE×TE)->St->Hp->(B4 (V×V)->Hp->Prop)->Prop
 |[],_,H,Q=>Q [] H
 |(tk,tv)::r,O,H,Q=>tk O H λx H1=>tv O H1 λy H2=>zCi r O H2 λps H3=>Q ((x,y)::ps) H3
noncomputable abbrev VV:B4 (V×V)->B4 (B6×B6)->Prop:=Paired λp q=>zAi p.1 q.1/\zAi p.2 q.2
def PPs(X:Cx)(pos:Pos)(keys:B4<|B5 B8)(values:B4 B8)(trs:B4<|TE×TE):Prop:=
 ∀(Z:B4<|B9×Obj)(s:B7)(O:St)(H:Hp)(Q:B4 (V×V)->Hp->Prop),Inv X Z O H s->zCi trs O H Q ->
  wpAny (model X.prog X.w) X.A (evalPairs<|pairTrees keys values X.env pos) (λvs s'=>∃ps H',Inv X Z O H' s'/\VV ps vs/\Q ps H') X.xe s
def tJ:PPs X pos [] [] []:=λZ s O H Q I h=>pairTrees_nil_walk ⟨[],H,I,.nil,h⟩
def pU{k v:B8}{ks:B4<|B5 B8}{vs:B4 B8}{tk tv:TE}(hk:PE X k tk)(hv:PE X v tv)(hr:PPs X pos ks vs trs) :
  PPs X pos (some k::ks) (v::vs) ((tk,tv)::trs):=λZ s O H Q I h=>
 pairTrees_cons_walk (thn (hk Z s O H _ I h) λu s1 ⟨x,H1,I1,rx,q1⟩=>thn (hv Z s1 O H1 _ I1 q1) λw2 s2 ⟨y,H2,I2,ry,q2⟩ =>
  thn (hr Z s2 O H2 _ I2 q2) λws s3 ⟨ps,H3,I3,rel,q3⟩=>⟨(x,y)::ps,H3,I3,.cons ⟨rx,ry⟩ rel,q3⟩)
def zBj(kvs more:B4<|Key×V):B4<|Key×V:=more.foldl (λacc kv=>putK acc kv.1 kv.2) kvs
theorem KV.merge:∀{more:B4<|Key×V}{rs:B4<|Key×B6}{kvs:B4<|Key×V}{vs:B4<|Key×B6},KV more rs->KV kvs vs->KV (zBj kvs more) (merged vs rs):=by
 intro more rs kvs vs r;unfold KV at r;induction r generalizing kvs vs with
 |nil=>intro q;exact q
 |@cons p q ps qs h t ih=>
  intro r0;have e:KV (putK kvs p.1 p.2) (stored vs q.1 q.2):=by
   have:=r0.put p.1 h.2;rw[<- h.1];exact this
  exact ih e
theorem fe:∀(more kvs:B4<|Key×V),(zBj kvs more).length<=kvs.length+more.length
 |[],kvs=>by show kvs.length<=kvs.length+0;lia
 |p::r,kvs=>by
  have h1:=fe r<|putK kvs p.1 p.2;have h2:=eP kvs p.1 p.2;show(zBj (putK kvs p.1 p.2) r).length<=_;rw[xAo];lia
theorem hZ{P:Program}{w:World}:∀{kvs:B4<|Key×V}{ws:B4<|B6×B6},VV (kvs.map λkv=>(kV kv.1,kv.2)) ws->∃rs,Carries (zAk P w) ws rs/\KV kvs rs
 |[],_,r=>by rw[List.map_nil] at r;cases r;exact⟨[],True.intro,.nil⟩
 |p::kvs,_,r=>by
  rw[xBs] at r;cases r with
  |@cons a b as bs h t=>
   let⟨rs,c,q⟩:=hZ (P:=P) (w:=w) t;let⟨b1,b2⟩:=b;exact⟨(p.1,b2)::rs,⟨iu h.1,rfl,c⟩,.cons ⟨rfl,h.2⟩ q⟩
def zGy(trs:B4<|TE×TE):TE:=λO H Q=>∀p,H p=none->zCi trs O (upd H p<|.dK []) λps H2=>H2 p=some (.dK [])/\∃kvs:B4<|Key×V,ps=kvs.map (λkv=>(kV kv.1,kv.2))/\kvs.length<=15/\Q (.ref p) (upd H2 p<|.dK<|zBj [] kvs)
def tS{keys:B4<|B5 B8}{values:B4 B8}(h:PPs X pos keys values trs)(hall:keys.all (·.isSome)=true)(hl:keys.length=values.length)(h0:keys≠[])(h15:keys.length<=15):PE X (.Dict keys values pos)<|zGy trs:=by
 intro Z s O H Q I q;have hn:=I.hok.fresh<|xAg s.heap.objs.size;have I1:=I.laid (a:=s.heap.objs.size) (o:=.dK []) (h':=s.heap.push {cls:=.type "dict",data:=.dict #[]}) (t':=s.toks) (λ_ _ q=>xAf _ q) (xAg _)<|j8 s.heap I.big;refine wpAny_Dict_walk (knd:=zAk X.prog X.w) hall hl h0 h15 (thn (h Z _ O _ _ I1<|q _ hn) λws s2 zz=>?_);let⟨ps,H2,I2,rel,e,kvs,ep,lk,q2⟩:=zz;subst ep;let⟨rs,c,rk⟩:=hZ (P:=X.prog) (w:=X.w) rel;let⟨z,hd,vs0,r0,dd⟩:=vI I2.hok e;cases r0;refine⟨rs,c,dd,λh' dd' hs=>⟨.ref s.heap.objs.size,_,?_,rfl,q2⟩⟩;have hz:(zBj [] kvs).length<=sizeLine:=by
  have h1:=fe kvs [];rw[List.length_nil] at h1;rw[sizeLine_eq];lia
 have he:∃q,h'.get? s.heap.objs.size=some q:=let ⟨q,_,_,hq,_⟩:=dd';⟨q,hq⟩;exact jl I2 (by rw[e];exact True.intro) hs he<|lB hz hd (rk.merge .nil) dd'
structure M1(X:Cx)(o:B8)(m:Str)(apos:Pos)(e:B8)(cpos:Pos):Prop where
 base:attributeBase o m X.env (eval o X.env)=eval o X.env
 few:((backTo cpos (starEach [e] X.env)).all (λx=>!x.1) && (backToKw cpos (keywordEach [] X.env)).all (λx=>x.1.isSome)
  && decide (([e]:B4 B8).length+([]:B4 Keyword).length+(if([]:B4 Keyword).isEmpty then 0 else 1)<30))=true
 line:(apos.endLine==cpos.line)=true
 trees:backTo cpos (starEach [e] X.env)=[(false,eval e X.env)]
structure M2(X:Cx)(o:B8)(m:Str)(apos:Pos)(e f:B8)(cpos:Pos):Prop where
 base:attributeBase o m X.env (eval o X.env)=eval o X.env
 few:((backTo cpos (starEach [e,f] X.env)).all (λx=>!x.1) && (backToKw cpos (keywordEach [] X.env)).all (λx=>x.1.isSome)
  && decide (([e,f]:B4 B8).length+([]:B4 Keyword).length+(if([]:B4 Keyword).isEmpty then 0 else 1)<30))=true
 line:(apos.endLine==cpos.line)=true
 trees:backTo cpos (starEach [e,f] X.env)=[(false,eval e X.env),(false,eval f X.env)]
section
variable{X:Cx}{Z:B4<|B9×Obj}{O:St}{H:Hp}{s:B7}{a:B9}{kvs:B4<|Key×V}{A:Around}{E:B6->B7->Prop}
def rP(I:Inv X Z O H s)(e:Rd H a<|.dK kvs)(h:∀p s',H p=none->Inv X Z O (upd H p<|.dK kvs) s'->Q (.ref p) s'):wpAny (model X.prog X.w) A (call (.type "dict") [.ref a]) Q E s:=by
 let⟨z,hd,vs,rel,dd⟩:=fY I.hok e;erw[<-kt_call_dict hd dd (by rw[<- rel.length];exact z) λh' dd' hs=>?_,<-h _ _ (I.hok.fresh<|xAg _)<|I.laid (a:=s.heap.objs.size) (o:=.dK kvs) (t':=s.toks) (λb q hq=>?_) (xAg _)<|lB z (beq_eq_false_iff_ne.mpr<|Ne.symm<|xA0 I.big) rel dd'];exact(hs.2 b<|xA0<|xA1 hq).trans<|xAf _ hq
end
end L2
namespace Att
open PySem PySem.W PySem.Calls PyProof.Rows
variable{P:Params}{h:Heap}{l:OpenLaw}{n:Nat}
theorem f7:∀(ns:C5)(vs:C7),WellAll P h vs (ns.map WData.int)->IntsAre vs ns:=by
 intro ns;induction ns with
 |nil=>
  intro vs w;rw[List.map_nil] at w;cases w;exact .nil
 |cons n ns ih=>
  intro vs w;rw[xBs] at w;cases w with
  |cons a b=>
   cases a;exact .cons _ _<|ih _ b
theorem nU(hn:l.most=some n){args:B4 WData}{vals:C7}(hpre:l.row.toRowW.claim.pre args=true)(hwl:WellAll P h vals args) :
  ∃a vs ns,vals=[Value.ref a]/\args=[WData.list<|ns.map WData.int]/\h.get? a=some {cls:=.type "list",data:=.seq vs.toArray}/\IntsAre vs ns/\ns.length<=n:=by
 have hsh:WShape.hasAll [] args [.list .int]=true:=(pre_splitW hpre).1;have hc:l.pre.holds [] {args:=args}=true:=(pre_splitW hpre).2;let⟨d,r,rfl,h1,h2⟩:=hasAllW_cons hsh;obtain rfl:=hasAllW_nil h2;let⟨xs,rfl,h3⟩:=hasW_list h1;let⟨ns,rfl⟩:=items_int h3;have hlen:ns.length<=n:=by
  unfold OpenLaw.pre at hc;have h4:(WTm.not<|.lt (.lit<|.int (n:Int))<|.len<|.arg 0).holds [] {args:=[.list<|ns.map .int]}=true:=by
   have h4:=(holds_andW hc).1;rw[hn] at h4;exact h4
  have h5:=condW_of h4<|w_not<|w_lt w_lit<|w_len_list<|w_arg rfl;rw[xAa] at h5;refine Nat.le_of_not_lt λq=>?_;have q':(n:Int)<((ns.length:Nat):Int):=()
  first
   |(rw[xBd q'] at h5;exact absurd h5 ∅)
   |(simp at h5;lia)
 cases hwl with
 |cons w1 w2=>
  cases w2;cases w1 with
  |list ho hall=>exact⟨_,_,ns,rfl,rfl,ho,f7 ns _ hall,hlen⟩
def nW(l:OpenLaw)(args:B4 WData):l.row.toRowW.claim.post args (.bool true) args=true:=
 postW_of (r:=l.row.toRowW) (X:=(true==true))
  (show WShape.has [] (.bool true) .bool=true by first|rfl|decide|simp[WShape.has,WShape.arms,WShape.armsAll])
  (show(WTm.eq .res<|.lit<|.bool true).value [] {args:=args,res:=some<|.bool true,after:=args}=some (.bool<|true==true) from w_eq_bool (w_res rfl) w_lit) rfl
def attach_call{q:Program}{loose:C0}{XP:(Str->B5 B6)->Heap->Prop}{YP:World->Heap->Prop}{d:DefRec}(hn:l.most=some n)(hdf:d.params.defaults=[])(call:∀(w:World)(s₀ s₁:B7)(mg mb:Str->B5 B6)(fa:B9)(o:Obj)(pm cd doc:B6)(a:B9)(vs:C7)(ns:C5),
   Ground q loose [] XP w s₀ mg mb s₁.heap->YP w s₁.heap ->
   s₁.heap.get? fa=some o->o.data=.func (docDef d.name d.params d.body d.scope pm cd doc)->s₁.heap.CodeRec cd d.name->mg d.name=some (.ref fa) ->
   s₁.heap.get? a=some {cls:=.type "list",data:=.seq vs.toArray}->IntsAre vs ns->ns.length<=n->s₁.gens=#[] ->
   codeAny (model l.prog w) callerA (.call (.ref fa) ⟨[.ref a],[]⟩) (λr s'=>r=.ok (.ret<|.bool true)/\OldK s₁.heap s'.heap/\s'.os=s₁.os/\AllBare s'.gens) s₁) :
  WalkO q loose XP YP l.row.toRowW d [] (λf vs=>PySem.call f vs):=by
 intro w s₀ s₁ mg mb G Y fa o pm cd doc dV kV ho hd hcd hD hmg hg args vals as hpre hlay hrd hwl hlo;obtain rfl:dV=.none:=Dflts.none hD hdf;obtain rfl:kV=.none:=Dflts.noKw hD;let⟨a,vs,ns,rfl,rfl,hobj,hints,hlen⟩:=nU hn hpre hwl;refine enter_call (codeAny_mono (call w s₀ s₁ mg mb fa o pm cd doc a vs ns G Y ho (fd_plain hd) hcd hmg hobj hints hlen hg) λr s' hq=>?_);let⟨rfl,h2,h3,h4⟩:=hq;exact⟨.inl ⟨.bool true,.bool true,[],rfl,λ_=>rfl,.bool true,nW l _,λ_=>⟨List.Pairwise.nil,λ_ hm=>(nomatch hm)⟩⟩,h2,h3,h4⟩
end Att
namespace L2
open PySem PySem.Spec PyProof.Rows
variable{k n:Nat}{fd:FuncData}{x qual y:Str}{st:Stmt}{env:Env}{scope:Scope}
theorem eU:∀{vs:C7}{ns:C5},IntsAre vs ns->zAh (ns.map V.int) vs
 |_,_,.nil=>.nil
 |_,_,.cons n t h=>.cons ⟨t,rfl⟩<|eU h
def zH0(H:Hp):Prop:=∀b,H b=none\/∃o xs,H b=some (.frz o<|.lst xs)
theorem qR{P:Program}{w:World}{K:xFr}{mg mb:Str->B5 B6}{CX:CXT}{fa a:B9}{sp:Sp}{s₁:B7}{vs:C7}{ns:C5}(KX:K.In s₁.heap)(hns:s₁.heap.Ns mainGlobals mg)(hb:s₁.heap.Ns builtinsNs mb)(hbb:∀x:Str,x≠"__name__"->mb x=bootBuiltins x)(hlim:s₁.heap.NoLimit)(hg:s₁.gens=#[])(ha:s₁.heap.get? a=some {cls:=.type "list",data:=.seq vs.toArray})(hi:IntsAre vs ns)(hl:ns.length<=sizeLine)(hr:zBd k callerA)(F:∀base:Heap,K.In base->base.Ns mainGlobals mg->zBc P w K mg base CX k fa fd [x] sp)(hbind:∀(s:B7)(u:B6),BindsTo s fd ⟨[u],[]⟩ [(x,u)])(hsp:∀H:Hp,zH0 H->SqL K H a (ns.map V.int)->sp [.ref a] H (λv _=>v=.bl true) λ_ _ _=>False)(hCX:∀H e s',CX [] H s₁ (λ_ _ _=>False) e s'->False) :
  codeAny (model P w) callerA (.call (.ref fa) ⟨[.ref a],[]⟩) (λr s'=>r=.ok (.ret<|.bool true)/\OldK s₁.heap s'.heap/\s'.os=s₁.os/\AllBare s'.gens) s₁:=by
 have rv:=eU hi;have lenV:=hi.length
 -- from an abstract heap in which nothing but the script may be tracked
 have core:∀H:Hp,zH0 H->SqL K H a (ns.map V.int)->HOk P w H s₁.heap->(∀b,H b≠none->b=a)->(H a≠none->K.lookup a=none) ->
   codeAny (model P w) callerA (.call (.ref fa) ⟨[.ref a],[]⟩) (λr s'=>r=.ok (.ret<|.bool true)/\OldK s₁.heap s'.heap/\s'.os=s₁.os/\AllBare s'.gens) s₁:=by
  intro H hO hS hok hA hK;have base_of:∀{b:B9}{o:Obj},s₁.heap.get? b=some o->H b=none->(zDj s₁.heap H).get? b=some o:=λe n=>qZ e n;have noA:∀{b:B9}{o:Obj}{es:Array DictEntry}{ep:Nat},s₁.heap.get? b=some o->o.data=.dict es ep->H b=none:=λ{b o es ep} e d=>by
   cases q:H b with
   |none=>rfl
   |some u=>
    have e':b=a:=hA b (by rw[q];simp);subst e';rw[ha] at e;cases e;have d':Data.seq vs.toArray _=Data.dict es ep:=d;cases d'
  have nsK:∀{b:B9}{m:Str->B5 B6},s₁.heap.Ns b m->(zDj s₁.heap H).Ns b m:=λ{b m} ⟨o,es,ep,e,d,r⟩=>⟨o,es,ep,base_of e<|noA e d,d,r⟩
  have hKb:K.In<|zDj s₁.heap H:=λb o e=>base_of (KX b o e) (by
   cases q:H b with
   |none=>rfl
   |some u=>
    have e':b=a:=hA b (by rw[q];simp);subst e';rw[hK<|by rw[q];simp] at e;cases e)
  have hM:Mod K mg<|zDj s₁.heap H:=⟨hKb,nsK hns,⟨mb,nsK hb,hbb⟩,let ⟨mc,h1,h2⟩:=hlim;⟨mc,nsK h1,h2⟩⟩
  have e0:zEk P w K mg (zDj s₁.heap H) callerA [] s₁ H:=⟨rfl,hM,λb o e=>uj e,Nat.le_of_eq<|oB _ _,trivial,λb hb=>absurd (show b∈([]:B4 B9) from hb) ⋯,hok,.of_eq hg⟩
  refine codeAny_mono ((F _ hKb<|nsK hns).run callerA [] s₁ H ⟨[.ref a],[]⟩ [.ref a] [.ref a] _ _ hr e0 (hbind s₁<|.ref a) (.cons rfl .nil)<|hsp H hO hS) λr s' h=>?_;cases r with
  |error e=>exact(hCX H e s' h).elim
  |ok fl=>
   cases fl with
   |next=>exact False.elim h
   |brk=>exact False.elim h
   |cont=>exact False.elim h
   |ret u=>
    let⟨v,H',os,bare,un,hok',r',q⟩:=h;have q':v=.bl true:=q;subst q';obtain rfl:u=Value.bool true:=r';refine⟨rfl,OldK.of_keep λb o e=>?_,os,bare⟩;cases q:H b with
    |none=>exact un.keep b o e q (by intro z;exact absurd (show b∈([]:B4 B9) from z) ⋯) ⋯
    |some u=>
     rcases hO b with z|⟨ob,xs,z⟩
     .rw[q] at z;cases z
     .have z2:=un.frzs b ob _ z;let⟨e1,_⟩:=hok b _ z;let⟨e2,_⟩:=hok' b _ z2;rw[e] at e1;cases e1;exact e2
 cases hk:K.lookup a with
 |some o=>
  -- the script is one of the module's own objects
  have e:=KX a o hk;rw[ha] at e;cases e;refine core (λ_=>none) (λ_=>.inl rfl) (.inr ⟨_,vs.toArray,_,hk,rfl,rfl,rfl,by rw[xAp,lenV];exact hl,by simpa using rv⟩) (λb u z=>by have z':(none:B5 HO)=some u:=z;cases z') (λb z=>absurd rfl z) λz=>absurd rfl z
 |none=>
  refine core (λb=>if b=a then some (.frz {cls:=.type "list",data:=.seq vs.toArray}<|.lst<|ns.map V.int) else none) (λb=>?_) (.inl<|.inr ⟨{cls:=.type "list",data:=.seq vs.toArray},xCg rfl⟩) (λb u z=>?_) (λb z=>?_) λ_=>hk
  .by_cases hb:b=a
   .exact .inr ⟨_,_,xCg hb⟩
   .exact .inl<|xCf hb
  .by_cases hb:b=a
   .have z':=(xCg hb).symm.trans z;cases z';subst hb;exact⟨ha,by rw[xAa];exact hl,vs,_,rv,ha⟩
   .have z':=(xCf hb).symm.trans z;cases z'
  .by_cases hb:b=a
   .exact hb
   .exact absurd (xCf hb) z
def walk_of{l:PySem.W.OpenLaw}{q:Program}{loose:C0}{XP:(Str->B5 B6)->Heap->Prop}{YP:World->Heap->Prop}{d:DefRec}{K:Params->xFr}{CX:World->CXT}{sp:World->Sp}(hn:l.most=some n)(hn2:n<=sizeLine)(hdf:d.params.defaults=[])(hr:zBd k callerA)(hY:∀(w:World)(h:Heap),YP w h->(K w.params).In h)(F:∀(w:World)(mg:Str->B5 B6)(fa:B9)(h:Heap),(K w.params).In h->h.Ns mainGlobals mg->mg d.name=some (.ref fa) ->
   ∃fd:FuncData,(∀(s:B7)(u:B6),BindsTo s fd ⟨[u],[]⟩ [(x,u)]) /\
    ∀base:Heap,(K w.params).In base->base.Ns mainGlobals mg->zBc l.prog w (K w.params) mg base (CX w) k fa fd [x] (sp w))(hsp:∀(w:World)(H:Hp)(a:B9)(ns:C5),ns.length<=n->zH0 H->SqL (K w.params) H a (ns.map V.int)->sp w [.ref a] H (λv _=>v=.bl true) λ_ _ _=>False)(hCX:∀(w:World)(H:Hp)(s:B7)(e:B6)(s':B7),CX w [] H s (λ_ _ _=>False) e s'->False) :
  PySem.W.WalkO q loose XP YP l.row.toRowW d [] (λf vs=>PySem.call f vs):=by
 refine Att.attach_call hn hdf λw s₀ s₁ mg mb fa o pm cd doc a vs ns G Y ho hd hcd hmg hobj hints hlen hg=>?_;have KX:=hY w _ Y;let⟨fd,hb,hF⟩:=F w mg fa _ KX G.T.g hmg;exact qR KX G.T.g G.T.b G.T.builtins G.T.nolimit hg hobj hints (xCk hlen hn2) hr hF hb (λH hO hS=>hsp w H a ns hlen hO hS) λH e s'=>hCX w H s₁ e s'
noncomputable def zAp(s:Stmt)(j:Nat):Stmt:=match s with
 |.ClassDef _ _ _ body _ _ _ _ _ _ _=>body.getD j<|.Pass ⟨0,0,0,0⟩
 |_=>.Pass ⟨0,0,0,0⟩
noncomputable def zAt(s:Stmt):Arguments:=match s with
 |.FunctionDef _ a _ _ _ _ _ _ _ _=>a
 |_=>{posonlyargs:=[],args:=[],vararg:=none,kwonlyargs:=[],kw_defaults:=[],kwarg:=none,defaults:=[]}
noncomputable def zAl(s:Stmt):B4 Stmt:=match s with
 |.FunctionDef _ _ b _ _ _ _ _ _ _=>b
 |_=>[]
noncomputable def zAd(s:Stmt):Scope:=match s with
 |.FunctionDef _ _ _ _ _ _ sc _ _ _=>sc
 |_=>{kind:=.function,names:=[],isGenerator:=false,isCoroutine:=false}
structure Fun(K:xFr)(x qual:Str)(st:Stmt)(f:B9)(fd:FuncData):Prop where
 ex:∃(oc:B6) (od:B5 B9) (kV doc pm:B6) (an:B5 B9) (cdv ct:B6) (osl:Array (B5 B6)),
  fd=W.fnOf x qual (zAt st) (zAl st) (zAd st) .none kV doc pm an cdv ct/\K.lookup f=some ⟨oc,od,.func fd,osl⟩/\W.codeIn K cdv qual=true
 kp:W.keepIn K (.ref f)=true
section
variable{P:Program}{w:World}{K:xFr}{mg:Str->B5 B6}{base:Heap}
def Fun.binds{f:B9}{ps:C0}(F:Fun K x qual st f fd)(h:∀(kV doc pm:B6)(an:B5 B9)(cdv ct:B6)(us:C7),us.length=ps.length->bindArgs (W.fnOf x qual (zAt st) (zAl st) (zAd st) .none kV doc pm an cdv ct) ⟨us,[]⟩=pure (ps.zip us)):zAy K fd ps []:=by
 let⟨oc,od,kV,doc,pm,an,cdv,ct,osl,rfl,lk,hcd⟩:=F.ex;exact .all<|h kV doc pm an cdv ct
def rq{f:B9}{oc:B6}{od an:B5 B9}{osl:Array<|B5 B6}{kV doc pm cdv ct:B6}(l:K.lookup f=some ⟨oc,od,.func<|W.fnOf x qual (zAt st) (zAl st) (zAd st) .none kV doc pm an cdv ct,osl⟩)(c:W.codeIn K cdv qual=true)(k:W.keepIn K (.ref f)=true):Fun K x qual st f<|W.fnOf x qual (zAt st) (zAl st) (zAd st) .none kV doc pm an cdv ct:=⟨⟨oc,od,kV,doc,pm,an,cdv,ct,osl,rfl,l,c⟩,k⟩
end
def zC3(h:n<=1000):n<sizeLine:=Nat.lt_of_le_of_lt h ∅
def zF9(H H':Hp):Prop:=∀b o,H b=some o->H' b=some o
def zF9.refl(H:Hp):zF9 H H:=λ_ _ h=>h
section
variable{X:Cx}
def oO:zAn X (.builtin "len") λxs H Q=>∃a kvs,xs=[V.ref a]/\H a=some (.dK kvs)/\Q (.int kvs.length) H:=by
 intro Z s O H xs us Q I r h;let⟨a,kvs,rfl,ha,q⟩:=h;let⟨u,rfl,ru⟩:=zBe r;cases ru;exact AM I (.inl ha) λt s' I'=>⟨.int kvs.length,H,I',⟨t,rfl⟩,q⟩
end
noncomputable def zAm(X:Cx)(N:C0)(scope:Scope)(cl:B4<|Str×B9)(C:B9)(s:B7)(H:Hp)(fp:B4 B9):Cx where
 prog:=X.prog
 w:=X.w
 K:=X.K
 mg:=X.mg
 base:=X.base
 A:=X.A
 N:=N
 s₀:=s
 H₀:=H
 env:=compEnvC scope cl C X.env
 outer:=X.stack
 stack:=X.stack
 ex:=fp
 fn:=λ_=>false
 calm:=X.calm
 pn:=[]
 xe:=λ_ _=>False
theorem fU{k:NameKind}(h:(relabel scope env).names.lookup y=some k):∃k0,(y,k0)∈scope.names/\(k=k0\/(k0=.free/\k=.cell)):=by
 unfold relabel at h;dsimp only at h;revert h;generalize scope.names=l;intro h;induction l with
 |nil=>simp at h
 |cons a r ih=>
  let⟨n,k1⟩:=a;rw[xBs] at h;by_cases hc:(k1==NameKind.free&&env.scope.kind == .function&&env.kindOf n==some .cell)=true
  .dsimp only at h;rw[xCg hc] at h;rw[List.lookup_cons] at h;by_cases e:y==n
   .rw[e] at h;have e':y=n:=eq_of_beq e;subst e';have hk:k1=.free:=by
     rw[xCh,xCh] at hc;exact eq_of_beq hc.1.1
    subst hk;exact⟨.free,xAr,.inr ⟨rfl,(xB3 h).symm⟩⟩
   .rw[Bool.eq_false_iff.mpr e] at h;let⟨k0,m,z⟩:=ih h;exact⟨k0,xAs _ m,z⟩
  .dsimp only at h;rw[xCf hc] at h;rw[List.lookup_cons] at h;by_cases e:y==n
   .rw[e] at h;have e':y=n:=eq_of_beq e;subst e';exact⟨k1,xAr,.inl (xB3 h).symm⟩
   .rw[Bool.eq_false_iff.mpr e] at h;let⟨k0,m,z⟩:=ih h;exact⟨k0,xAs _ m,z⟩
theorem dq(h:scope.names.lookup y=some .free):(relabel scope env).names.lookup y=some .cell\/(relabel scope env).names.lookup y=some .free:=by
 unfold relabel;dsimp only;revert h;generalize scope.names=l;intro h;induction l with
 |nil=>simp at h
 |cons a r ih=>
  let⟨n,k1⟩:=a;rw[xBs];rw[List.lookup_cons] at h;by_cases hc:(k1==NameKind.free&&env.scope.kind == .function&&env.kindOf n==some .cell)=true
  .dsimp only;rw[xCg hc];rw[List.lookup_cons];by_cases e:y==n
   .rw[e];exact .inl rfl
   .rw[Bool.eq_false_iff.mpr e] at h⊢;exact ih h
  .dsimp only;rw[xCf hc];rw[List.lookup_cons];by_cases e:y==n
   .rw[e] at h⊢;exact .inr h
   .rw[Bool.eq_false_iff.mpr e] at h⊢;exact ih h
def zCx(O:St)(fr:C4):St:=fr.map λk=>(O[k]?).join
section
variable{X:Cx}
def oP:zAn X (.builtin "isinstance") λxs H Q=>∃x n t b,xs=[x,V.ty n]/\zB6 X.K H x t/\W.kitOne X.K t (.type n)=some b/\Q (.bl b) H:=by
 intro Z s O H xs us Q I r h;let⟨x,n,t,b,rfl,ty,e,q⟩:=h;let⟨u,u2,rfl,ru,ru2⟩:=zD2 r;cases (show u2=Value.type n from ru2);exact oz I ru ty e λtk=>⟨.bl b,H,I.tok tk,rfl,q⟩
def ug:OpR X (binaryOp .Mult)<|rI (λi j=>IntMulOk i j) λi j=>.int<|i*j:=opI λ_ _ _ _ _ _ _ hc q=>mul_int q hc
def qz:OpR X (binaryOp .FloorDiv)<|rI (λi j=>j≠0/\Builtin.divisionGoesByPylong i j=false) λi j=>.int<|i.fdiv j:=opI λ_ _ _ _ _ _ _ hc q=>floordiv_int hc.1 q<|.inl hc.2
def rJ{x:V}(h:zBm x=true):eqV x x=true:=by
 cases x <;> first|rfl|(exact absurd (show false=true from h) ∅)|(simp[eqV])
end
def small(h:n<=1000):n<=sizeLine:=Nat.le_of_lt<|zC3 h
def dz{H:Hp}{p:B9}(h:H p=none)(o:HO):zF9 H<|upd H p o:=λb u q=>by rw[b9<|cH q h];exact q
def cU{xs:C6}{us:C7}(r:zAh xs us){j:Nat}(hj:j<us.toArray.size):∃x,xs[j]?=some x/\zAi x us.toArray[j]:=by
 rw[xAp] at hj;have jx:j<xs.length:=by rw[r.length];exact hj
 let⟨u,e,q⟩:=r.get<|xAk jx;refine⟨xs[j],xAk jx,?_⟩;rw[List.getElem_toArray];have:us[j]=u:=(xAq.mp e).2;rw[this];exact q
end L2
namespace L2
open PySem PySem.Spec PyProof.Rows PySem.Builtin PySem.Builtin.ObjectAttr
theorem zAf.there{P:Program}{w:World}{H:Hp}{h:Heap}{a:B9}{o:HO}(x:zAf P w H h a o):∃u,h.get? a=some u:=by
 cases o with
 |lst xs=>let⟨_,_,_,_,e⟩:=x;exact⟨_,e⟩
 |tup xs=>let⟨_,_,_,ob,e,_⟩:=x;exact⟨_,e⟩
 |dK kvs=>let⟨_,_,_,_,o,_,_,e,_⟩:=x;exact⟨_,e⟩
 |dT kvs=>let⟨_,_,_,_,o,_,_,e,_⟩:=x;exact⟨_,e⟩
 |set S n=>let⟨o,_,_,_,e,_⟩:=x;exact⟨_,e⟩
 |ins C dx fs=>let⟨_,_,_,e,_⟩:=x;exact⟨_,e⟩
 |own y=>let⟨_,e⟩:=x;exact⟨_,e⟩
 |xd fs=>let⟨_,⟨_,_,_,e,_⟩,_⟩:=x;exact⟨_,e⟩
 |rng lo hi=>let⟨_,_,_,e⟩:=x;exact⟨_,e⟩
 |frz ob u=>let⟨e,_⟩:=x;exact⟨_,e⟩
 |tbl ps=>exact⟨_,(show h.get? a=some _ from x)⟩
 |met f y=>exact⟨_,(show h.get? a=some _ from x)⟩
 |ext φ=>let⟨_,e,_⟩:=x;exact e
section
variable{X:Cx}{Z:B4<|B9×Obj}{O:St}{H:Hp}{s:B7}{h':Heap}
def Inv.laidN{a:B9}{o:HO}{t':Nat}(I:Inv X Z O H s)(k:∀b u,s.heap.get? b=some u->h'.get? b=some u)(hf:s.heap.get? a=none)(new:zAf X.prog X.w (upd H a o) h' a o) :
  H a=none/\Inv X Z O (upd H a o) {s with heap:=h',toks:=t'}:=by
 have hn:H a=none:=by
  cases q:H a with
  |none=>rfl
  |some u=>
   let⟨v,e⟩:=(I.hok a u q).there;rw[hf] at e;cases e
 refine⟨hn,I.un ⟨λb u q _ _ _=>k b u q,λb u q _ _ _=>⟨u.slots,k b u q⟩,λb u q n _=>?_,λb u q _=>⟨u,k b u q⟩,λb xs q=>?_,λb u xs q=>?_,λb ps q=>⟨#[],?_⟩⟩ λb u e=>?_⟩
 .rw[b9 λz=>by rw[z,hf] at q;cases q];exact n
 .rw[b9<|cH q hn];exact q
 .rw[b9<|cH q hn];exact q
 .rw[b9<|cH q hn,q,Array.append_empty]
 .by_cases hb:b=a
  .subst hb;rw[ce] at e;cases e;exact new
  .rw[b9 hb] at e;exact(I.hok b u e).stay (λc v _ q=>k c v q) (λc q=>by rw[b9<|cH q hn];exact q) λc xs q=>by rw[b9<|cH q hn];exact q
end
def zAj(CX:CXT)(X:Cx)(Ex:St->XK):Prop:=∀(Z:B4<|B9×Obj)(O:St)(H:Hp)(s:B7)(ev:B6)(s':B7),Inv X Z O H s->CX X.stack H s (Ex O) ev s'->X.xe ev s'
def zC2(sp:Sp)(dvs:C6)(Ex:St->XK)(t:TA):TE:=λO H Q=>t O H λvs H1=>sp (vs++dvs) H1 Q<|Ex O
def zC0(C:B9)(m:Str)(sp:Sp)(dvs:C6)(Ex:St->XK)(ta:TE)(t:TA):TE:=λO H Q=>ta O H λx H1=>∃a dx fs,x=.ref a/\H1 a=some (.ins C dx fs)/\fs.lookup m=none /\
 t O H1 λvs H2=>sp (x::(vs++dvs)) H2 Q<|Ex O
section
variable{X:Cx}{CX:CXT}{k:Nat}{f C:B9}{fd:FuncData}{ps:C0}{sp:Sp}{dvs:C6}{ds:C7}{Ex:St->XK}{x m:Str}{p pos apos:Pos}{e o:B8}{es:B4 B8}{ta:TE}{t:TA}
theorem gc{Z:B4<|B9×Obj}{O:St}{H:Hp}{s:B7}{Q:VK}{us:C7}{vs:C6}(F:zBc X.prog X.w X.K X.mg X.base CX k f fd ps sp)(hr:zBd k X.A)(hb:zAy X.K fd ps ds)(hd:zAh dvs ds)(hx:zAj CX X Ex)(I:Inv X Z O H s)(r:zAh vs us)(h:sp (vs++dvs) H Q<|Ex O):wpAny (model X.prog X.w) X.A (call (.ref f) us) (EP X Z O Q) X.xe s:=by
 have r2:zAh (vs++dvs)<|us++ds:=r.append hd;have hl:(us++ds).length=ps.length:=by rw[<- r2.length];exact F.len _ _ _ _ h
 refine wpAny_call (codeAny_mono (F.run X.A X.stack s H ⟨us,[]⟩ (us++ds) (vs++dvs) Q (Ex O) hr I.env0 (hb s us I.kIn hl) r2 h) λr s' hq=>?_);cases r with
 |error e=>exact hx Z O H s e s' I hq
 |ok fl=>
  cases fl with
  |ret u=>exact I.after hq
  |next=>exact False.elim hq
  |brk=>exact False.elim hq
  |cont=>exact False.elim hq
def ql(F:zBc X.prog X.w X.K X.mg X.base CX k f fd ps sp)(hr:zBd k X.A)(hg:Gl X x)(hm:X.mg x=some (.ref f))(hk:W.keepIn X.K (.ref f)=true)(hb:zAy X.K fd ps ds)(hd:zAh dvs ds)(hx:zAj CX X Ex)(ha:PA X (e::es) t)(hdb:(x==("__debug__":Str))=false:=by decide)(he:starEach (e::es) X.env=(false,eval e X.env)::starEach es X.env:=by rfl)(hpl:(backTo pos<|starEach es X.env).any (·.1)=false:=by rfl) :
  PE X (.Call (.Name x p) (e::es) [] pos) (zC2 sp dvs Ex t):=by
 intro Z s O H Q I h;erw[<-wpAny_Call_Name_kw (fF I hg hm ?_ hdb),<-W.callWith_K (h₀:=X.base) I.ok.mod.kin hk (thn (ha pos Z s O H _ I h) λus s1 ⟨vs,H1,I1,r,q⟩=>⟨I1.kIn,?_⟩) he hpl,<-gc F hr hb hd hx I1 r q]
def og(F:zBc X.prog X.w X.K X.mg X.base CX k f fd ps sp)(hr:zBd k X.A)(hg:Gl X x)(hm:X.mg x=some (.ref f))(hk:W.keepIn X.K (.ref f)=true)(hb:zAy X.K fd ps ds)(hd:zAh dvs ds)(hx:zAj CX X Ex)(hdb:(x==("__debug__":Str))=false:=by decide):PE X (.Call (.Name x p) [] [] pos)<|zC2 sp dvs Ex zGf:=by
 intro Z s O H Q I h;refine wpAny_Call_Name_kw (fF I hg hm ?_ hdb);exact W.callWith_K0 I.kIn hk (gc (us:=[]) F hr hb hd hx I .nil h)
def qd{pl:Sem B'}(he:PE X o ta)(c:Cls X.K C)(hm:zEj X.K C m f)(F:zBc X.prog X.w X.K X.mg X.base CX k f fd ps sp)(hr:zBd k X.A)(hb:zAy X.K fd ps ds)(hd:zAh dvs ds)(hx:zAj CX X Ex)(ha:PA X (e::es) t)(hst:starEach (e::es) X.env=(false,eval e X.env)::starEach es X.env:=by rfl)(hpl:(backTo pos<|starEach es X.env).any (·.1)=false:=by rfl)(ht:eval (.Call (.Attribute o m apos) (e::es) [] pos) X.env=(do
   let ov <- eval o X.env
   standAt apos.atName
   let (f,first) <- holding [ov] (getMethod ov m pl)
   callWith pos f first (backTo pos<|starEach (e::es) X.env) (backToKw pos<|keywordEach [] X.env)):=by rfl) :
  PE X (.Call (.Attribute o m apos) (e::es) [] pos) (zC0 C m sp dvs Ex ta t):=by
 intro Z s O H Q I h;refine W.methodCall_KW (pl:=pl) (thn (he Z s O H _ I h) λu s1 ⟨x,H1,I1,rx,a,dx,fs,ex,ea,l,q⟩=>?_) ht;subst ex;obtain rfl:u=Value.ref a:=rx;erw[gX I1 ea c hm l,<-W.callWith_K (first:=[.ref a]) (h₀:=X.base) I.ok.mod.kin hm.kp (thn (ha pos Z s1 O H1 _ I1 q) λus s2 ⟨vs,H2,I2,r,q2⟩=>⟨I2.kIn,?_⟩) hst hpl,<-gc (us:=.ref a::us) (vs:=.ref a::vs) F hr hb hd hx I2 (.cons rfl r) q2]
def n9{pl:Sem B'}(he:PE X o ta)(c:Cls X.K C)(hm:zEj X.K C m f)(F:zBc X.prog X.w X.K X.mg X.base CX k f fd ps sp)(hr:zBd k X.A)(hb:zAy X.K fd ps ds)(hd:zAh dvs ds)(hx:zAj CX X Ex)(ht:eval (.Call (.Attribute o m apos) [] [] pos) X.env=(do
   let ov <- eval o X.env
   standAt apos.atName
   let (f,first) <- holding [ov] (getMethod ov m pl)
   callWith pos f first (backTo pos<|starEach [] X.env) (backToKw pos<|keywordEach [] X.env)):=by rfl) :
  PE X (.Call (.Attribute o m apos) [] [] pos) (zC0 C m sp dvs Ex ta zGf):=by
 intro Z s O H Q I h;refine W.methodCall_KW (pl:=pl) (thn (he Z s O H _ I h) λu s1 ⟨x,H1,I1,rx,a,dx,fs,ex,ea,l,q⟩=>?_) ht;subst ex;obtain rfl:u=Value.ref a:=rx;erw[gX I1 ea c hm l,<-W.callWith_K0 (first:=[.ref a]) I1.kIn hm.kp<|gc (us:=[.ref a]) (vs:=[.ref a]) F hr hb hd hx I1 (.cons rfl .nil) q]
end
end L2
namespace L2
open PySem PySem.Spec PyProof.Rows
inductive Al(H:Hp):Nat->V->V->Prop where
 |flat {n:Nat} {x:V}:zBm x=true->Al H n x x
 |same {n:Nat} {a:Addr}:Al H n (.ref a) (.ref a)
 |tup {n:Nat} {a b:Addr} {xs ys:List V}:H a=some (.tup xs)->H b=some (.tup ys)->xs.length=ys.length->(∀(j:Nat)(x y:V),xs[j]?=some x->ys[j]?=some y->Al H n x y)->Al H (n+1) (.ref a) (.ref b)
 |lst {n:Nat} {a b:Addr} {xs ys:List V}:H a=some (.lst xs)->H b=some (.lst ys)->xs.length=ys.length->(∀(j:Nat)(x y:V),xs[j]?=some x->ys[j]?=some y->Al H n x y)->Al H (n+1) (.ref a) (.ref b)
theorem gA{P:Program}{w:World}{H:Hp}{s:B7}(hok:HOk P w H s.heap){n:Nat}{x y:V}(h:Al H n x y):∀{A:Around}{u v:B6},zAi x u->zAi y v->A.units+n<cLine->SeqAt.EqAt A s u v true:=by
 induction h with
 |@flat n x f=>
  intro A u v r1 r2 _;have:=rM (A:=A) (s:=s) r1 r2 f f;rw[rJ f] at this;exact this
 |@same n a=>
  intro A u v r1 r2 _;cases (show u=Value.ref a from r1);cases (show v=Value.ref a from r2);exact SeqAt.EqAt.same _
 |@tup n a b xs ys ea eb el _ ih=>
  intro A u v r1 r2 hu;cases (show u=Value.ref a from r1);cases (show v=Value.ref b from r2);by_cases hab:a=b
  .subst hab;exact SeqAt.EqAt.same _
  .let⟨_,its,q1,t1⟩:=(show zAf P w H s.heap a (.tup xs) from hok a _ ea)
   let⟨_,its2,q2,t2⟩:=(show zAf P w H s.heap b (.tup ys) from hok b _ eb)
   have he:∀j (h1:j<its.toArray.size) (h2:j<its2.toArray.size),SeqAt.EqAt A.in1 s its.toArray[j] its2.toArray[j]<|(λ_=>true) j:=λj j1 j2=>by
    let⟨x1,e1,g1⟩:=cU q1 j1;let⟨y1,e2,g2⟩:=cU q2 j2;exact ih j x1 y1 e1 e2 g1 g2 (by show A.units+1+n<cLine;lia)
   erw[SeqAt.EqAt.of_refs hab];have:=SeqAt.RcAt.tuples (e:=λ_=>true) t1 t2 () he;have ev:((List.range<|min its.toArray.size its2.toArray.size).all (λ_=>true)&&its.toArray.size==its2.toArray.size)=true:=by
    rw[xAp,xAp,<- q1.length,<- q2.length,el];simp
   rw[ev] at this;exact this
 |@lst n a b xs ys ea eb el _ ih=>
  intro A u v r1 r2 hu;cases (show u=Value.ref a from r1);cases (show v=Value.ref b from r2);by_cases hab:a=b
  .subst hab;exact SeqAt.EqAt.same _
  .let⟨_,its,n1,q1,t1⟩:=(show zAf P w H s.heap a (.lst xs) from hok a _ ea)
   let⟨_,its2,n2,q2,t2⟩:=(show zAf P w H s.heap b (.lst ys) from hok b _ eb)
   have he:∀j (h1:j<its.toArray.size) (h2:j<its2.toArray.size),SeqAt.EqAt A.in1 s its.toArray[j] its2.toArray[j]<|(λ_=>true) j:=λj j1 j2=>by
    let⟨x1,e1,g1⟩:=cU q1 j1;let⟨y1,e2,g2⟩:=cU q2 j2;exact ih j x1 y1 e1 e2 g1 g2 (by show A.units+1+n<cLine;lia)
   erw[SeqAt.EqAt.of_refs hab];have es:its.toArray.size=its2.toArray.size:=by rw[xAp,xAp,<- q1.length,<- q2.length,el]
   have:=SeqAt.RcAt.lists (e:=λ_=>true) ⟨_,t1,rfl,_,rfl⟩ ⟨_,t2,rfl,_,rfl⟩ es () he;have ev:(List.range its.toArray.size).all (λ_=>true)=true:=xCx.mpr λ_ _=>rfl;rw[ev] at this;exact this
section
variable{X:Cx}
def rAl(b:B'):R2:=λx y H Q=>∃p q xs ys n,x=.ref p/\y=.ref q/\H p=some (.tup xs)/\H q=some (.tup ys)/\xs.length=ys.length/\n<=90/\(∀(j:Nat)(x y:V),xs[j]?=some x->ys[j]?=some y->Al H n x y)/\Q (.bl b) H
def uf(hu:X.A.units+100<cLine):OpR X (compareOp .NotEq)<|rAl false:=by
 intro Z s O H x y v u Q I rx ry h;let⟨a,b,xs,ys,n,rfl,rfl,ea,eb,el,hn,al,q⟩:=h;cases (show v=Value.ref a from rx);cases (show u=Value.ref b from ry);let⟨_,its,q1,t1⟩:=(show zAf X.prog X.w H s.heap a (.tup xs) from I.hok a _ ea)
 let⟨_,its2,q2,t2⟩:=(show zAf X.prog X.w H s.heap b (.tup ys) from I.hok b _ eb)
 have he:∀j (h1:j<its.toArray.size) (h2:j<its2.toArray.size),SeqAt.EqAt X.A.in1 s its.toArray[j] its2.toArray[j]<|(λ_=>true) j:=λj j1 j2=>by
  let⟨x1,e1,g1⟩:=cU q1 j1;let⟨y1,e2,g2⟩:=cU q2 j2;exact gA I.hok (al j x1 y1 e1 e2) g1 g2 (by show X.A.units+1+n<cLine;lia)
 erw[(SeqAt.RcNeAt.tuples (e:=λ_=>true) t1 t2 () he) X.prog X.w X.xe _,cf I q];rw[xAp,xAp,<- q1.length,<- q2.length,el];simp
def uh(hu:X.A.units+100<cLine):OpR X (compareOp .Eq)<|rAl true:=by
 intro Z s O H x y v u Q I rx ry h;let⟨a,b,xs,ys,n,rfl,rfl,ea,eb,el,hn,al,q⟩:=h;cases (show v=Value.ref a from rx);cases (show u=Value.ref b from ry);let⟨_,its,q1,t1⟩:=(show zAf X.prog X.w H s.heap a (.tup xs) from I.hok a _ ea)
 let⟨_,its2,q2,t2⟩:=(show zAf X.prog X.w H s.heap b (.tup ys) from I.hok b _ eb)
 have he:∀j (h1:j<its.toArray.size) (h2:j<its2.toArray.size),SeqAt.EqAt X.A.in1 s its.toArray[j] its2.toArray[j]<|(λ_=>true) j:=λj j1 j2=>by
  let⟨x1,e1,g1⟩:=cU q1 j1;let⟨y1,e2,g2⟩:=cU q2 j2;exact gA I.hok (al j x1 y1 e1 e2) g1 g2 (by show X.A.units+1+n<cLine;lia)
 erw[SeqAt.eq_tupleAt (e:=λ_=>true) t1 t2 () he,cf I q];rw[xAp,xAp,<- q1.length,<- q2.length,el];simp
end
end L2
namespace HT
open PySem PyProof.Rows
section
open PySem.SeqAt
open PySem.AutoSeq1 (wpAny_loadPart')
open PySem.MeetsSeq PySem.MeetsSeq2 PySem.MeetsSeq3
section
variable{prog:Program}{w:World}{A:Around}{E:B6->B7->Prop}{s:B7}
def getItem_tuple_all{t sl:B9}{items:Array B6}{vl vu:B6}{lo hi:B5 Int}{Q:B6->B7->Prop}(ht:IsTup s.heap t items)(hs:s.heap.IsSliceOf sl vl vu .none)(pl:IsPart vl lo)(pu:IsPart vu hi)(hw:sIx items.size 0 lo=0/\sIx items.size items.size hi=items.size)(h:Q (.ref t) s):wpAny (model prog w) A (getItem (.ref t)<|.ref sl) Q E s:=by
 have hj:sIx items.size items.size hi<=items.size:=pD _ _ (xAg _) hi;let⟨os,hos,hcs,hds⟩:=id hs;have hTs:s.TypeIs (.ref sl) "slice":=⟨os,hos,hcs⟩
 unfold getItem;try with_reducible refine xDc ?_
 first|refine xAd (xAe ?_)|skip
 refine xAd<|wpAny_sequenceKey ht.typeIs ∅ ?_;refine xAd (wpAny_callSpecial?_slot (name:=Str.ofString "__getitem__") ht.typeIs PyProof.Rows.slot_tuple_getitem
  (wpAny_call_entry PyProof.Rows.slot_tuple_getitem ht.typeIs entry_tuple_getitem ?_<|args_tuple_getitem _ _))
 show wpAny _ _ (Builtin.Tuple.tupleItemsOf (.ref t)>>=_) _ _ s;erw[<-xAd<|tupleItemsOf_ ht ?_,<-xAd<|wpAny_typeOf hTs ?_];rw[xCg ∅];refine xAd<|dI hs pl pu ?_;show wpAny _ _ (if(((sIx items.size 0 lo:Nat):Int)==0&&(1:Int)==1&&(sIx items.size items.size hi-sIx items.size 0 lo)==items.size)=true then _ else _) _ _ s;rw[xCg<|by rw[hw.1,hw.2];simp];erw[xAd];unfold Builtin.Tuple.tupleIsExact;refine xAd<|wpAny_typeOf ht.typeIs<|xAe ?_;rw[xCg ∅];refine xAd<|wpAny_rule ?_;exact xAe ⟨_,rfl,xAe h⟩
end
end
end HT
namespace L2
open PySem PySem.Spec PyProof.Rows
def zIc(K:xFr):V->B5 Int->B5 Int->Hp->VK->Prop:=λx lo hi H Q=>∃a xs,x=.ref a/\SqT K H a xs/\(HT.sIx xs.length 0 lo=0/\HT.sIx xs.length xs.length hi=xs.length)/\Q (.ref a) H
def lR{X:Cx}:SlR X<|zIc X.K:=by
 intro Z s O H x v vl vu lo hi sl Q I rx hs pl pu h;let⟨a,xs,rfl,hx,hw,q⟩:=h;cases rx;let⟨its,r,ht,hz⟩:=I.tuple hx;have hlen:its.toArray.size=xs.length:=by rw[xAp];exact r.length.symm
 refine⟨"tuple",_,PyProof.Rows.slot_tuple_getitem.lookup,ht.typeIs,?_⟩;exact HT.getItem_tuple_all ht hs pl pu (by rw[hlen];exact hw) ⟨.ref a,H,I,rfl,q⟩
end L2
namespace SetA
open PySem PySem.SetTable
def fc{J:Type}(xs:Array J)(p:Nat)(x:J):(insertAt xs p x).size=xs.size+1:=by
 rw[<- xAh,toList_insertAt];simp only[xAb,List.length_take,xAo,List.length_drop,xAh];lia
def zA4(es:Array<|Int×B6)(ep:Nat)(t:SetTable):Obj:={cls:=.type "set",dict:=none,data:=.set es ep t,slots:=#[]}
end SetA
namespace SetA
open PySem PySem.Spec PySem.SetTable PyProof.Rows
section
variable{prog:Program}{w:World}{A:Around}{E:B6->B7->Prop}{s:B7}
def ux(x:B6){Q₁:B6->B7->Prop}(h:∀led:B',(led=true\/w.params.followText "set-order"=true)->Q₁ (.ref s.heap.objs.size) {s with heap:=s.heap.push<|zA4 #[] 0 (.fresh 0 0 led)}) :
  codeAny (model prog w) A (.call (.builtin "set.__new__") ⟨[.type "set",x],[]⟩) (wants Q₁ E) s:=by
 erw[codeAny_of_tree];change wpAny _ A.in1 (do checkBuiltinCall "set.__new__" ⟨[.type "set",x],[]⟩;again (.builtin "set.__new__" ⟨[.type "set",x],[]⟩)) _ _ s;refine xAd<|wpAny_of_eq (PySem.F.newCall_set_1 x)<|xAe ⟨plainId_quiet PySem.F.plain_set_new _,codeAny_builtin PySem.F.entry_set_new ?_⟩;rw[Around.under_plainId PySem.F.plain_set_new _];unfold Builtin.«set.__new__» Builtin.Frozenset.newClass;have hss:=sub_set_self;let⟨hp,gg,dd,tt,oo⟩:=s;dsimp only;wp_walk
 refine wpAny_askSetting<|xAe ?_;dsimp only;simp only[newObj];refine xAd<|wpAny_alloc<|xAe<|xAe<|h _ ?_;change(!(w.params.followText "set-order"))=true\/w.params.followText "set-order"=true;cases w.params.followText "set-order" <;> simp
end
end SetA
namespace L2
open PySem PySem.Spec PyProof.Rows
variable{s:B7}{scope:Scope}{env:Env}{X:Cx}{Z:B4<|B9×Obj}{O:St}{H:Hp}{i n:Nat}{fp:B4 B9}{es:B4 B8}{e:B8}
section
variable{X:Cx}
theorem kZ{kvs:B4<|Key×V}{vs:B4<|Key×B6}{ns:C5}{P:Program}{w:World}{acc:Array B6}(rel:KV kvs vs)(hk:kvs.map (·.1)=ns.map Sum.inl)(hi:acc.size=vs.length)(hv:∀(i:Nat)(v:B6),acc[i]?=some v->∃k x,vs[i]?=some (k,x)/\(zAk P w).is k v=true):zAh (ns.map V.int) acc.toList:=by
 have hkeys:vs.map (·.1)=ns.map Sum.inl:=by rw[<- rel.keys];exact hk
 have hlen:ns.length=vs.length:=by
  have:=congrArg List.length hkeys;rw[xAa,xAa] at this;exact this.symm
 have gen:∀(l:C7)(ms:C5),l.length=ms.length->(∀(i:Nat)(v:B6),l[i]?=some v->∃m t,ms[i]?=some m/\v=Value.int m t)->zAh (ms.map V.int) l:=by
  intro l;induction l with
  |nil=>
   intro ms h _;cases ms with
   |nil=>exact .nil
   |cons _ _=>simp at h
  |cons v l ih=>
   intro ms h q;cases ms with
   |nil=>simp at h
   |cons m ms=>
    let⟨m',t,e1,e2⟩:=q 0 v rfl;cases e1;exact .cons ⟨t,e2⟩<|ih ms (by simpa using h) λi u e=>q (i+1) u e
 refine gen acc.toList ns (by rw[xAh];lia) λi v e=>?_;let⟨k,x,e1,e2⟩:=hv i v (by rw[<- Array.getElem?_toList];exact e);have e3:(vs.map (·.1))[i]?=some k:=by rw[xAw,e1];rfl
 rw[hkeys,xAw] at e3;cases en:ns[i]? with
 |none=>rw[en] at e3;cases e3
 |some m=>
  rw[en] at e3;cases e3;rcases cG (show zCd (Sum.inl m) v=true from e2) with ⟨i',t,z1,z2⟩|⟨x',t,z1,z2⟩
  .cases z1;exact⟨m,t,rfl,z2⟩
  .cases z1
end
structure zB2(X:Cx)(scope:Scope)(cl:B4 (Str×B9))(ls N:C0)(fr:C4):Prop where
 clos:closureFor scope X.env=pure cl
 cell:∀y∈scope.names,y.2≠.cell
 kind:scope.kind=.function
 names:∀y∈scope.names,y.2=.local->scope.names.lookup y.1=some .local
 sub:∀y c,cl.lookup y=some c->X.env.cells.lookup y=some c
 has:∀y∈scope.names,y.2=.free->∃c,cl.lookup y.1=some c
 caps:∀(j:Nat)(y:Str),N[j]?=some y->∃k c,fr[j]?=some k/\X.N[k]?=some y/\Vis X.env.scope y/\X.env.kindOf y≠some .local/\cl.lookup y=some c/\(scope.names.lookup y=some .free)
 len:N.length=fr.length
theorem lD{prog:Program}{w:World}{A:Around}{R:Result->B7->Prop}{elt target iter:B8}{ifs:B4 B8}{pos:Pos}{it acc:B6}(m0J:Nat->B7->Prop)(go:∀n s,m0J n s->wpAny (model prog w) A (pyNext it) (λr s1=>match r with
   |none=>R (.ok .next) s1
   | some v=>wpAny (model prog w) A (letOwnedTupleGo target it v) (λ_ s2=>wpAny (model prog w) A (assign target env v) (λ_ s3 =>
     wpAny (model prog w) A (forIn ifs true λc r=>if r=true then do let ok <- isTrue c env (eval c env);pure (ForInStep.yield ok) else pure (ForInStep.yield r)) (λok s4 =>
      if ok=true then wpAny (model prog w) A (eval elt env) (λx s5=>wpAny (model prog w) A (call (.builtin "list.append") [acc,x]) (λ_ s6=>∃m,m<n/\m0J m s6) (notedBy (model prog w) A env λe s'=>R (.error e) s') s5) (notedBy (model prog w) A env λe s'=>R (.error e) s') s4
      else ∃m,m<n/\m0J m s4) (notedBy (model prog w) A env λe s'=>R (.error e) s') s3) (notedBy (model prog w) A env λe s'=>R (.error e) s') s2) (notedBy (model prog w) A env λe s'=>R (.error e) s') s1) (notedBy (model prog w) A env λe s'=>R (.error e) s') s)(n:Nat)(h:m0J n s):codeAny (model prog w) A (.compLoop (.ListComp elt [⟨target,iter,ifs,0⟩] scope pos) 0 it acc env) R s:=by
 refine codeAny_loop rfl m0J (λn s hJ=>?_) n h;change wpAny _ A ((compTurn (.ListComp elt [⟨target,iter,ifs,0⟩] scope pos) 0 it acc env).onRaise λx=>do noteFrame x env;theTreesLotGoes x) _ _ s;erw[wpAny_noted];rw[compTurn_list];refine xAd (wpAny_standAt<|xAd<|wpAny_mono (go n s hJ) (λr s1 h1=>?_) λ_ _ z=>z);cases r with
 |none=>exact xAe h1
 |some v=>
  erw[<-xAd (wpAny_mono h1 (λ_ s2 h2=>?_) λ_ _ z=>z),<-xAd (wpAny_mono h2 (λ_ s3 h3=>xAd<|wpAny_mono h3 (λok s4 h4=>?_) λ_ _ z=>z) λ_ _ z=>z)];cases ok with
  |false=>exact xAe ⟨rfl,h4⟩
  |true=>exact xAd (xAd<|wpAny_mono h4 (λx s5 h5=>xAd<|wpAny_mono h5 (λ_ s6 h6=>xAe<|xAe ⟨rfl,h6⟩) λ_ _ z=>z) λ_ _ z=>z)
def PTs(X:Cx)(ifs:B4 B8)(t:TT):Prop:=
 ∀(Z:B4<|B9×Obj)(s:B7)(O:St)(H:Hp)(Q:B'->Hp->Prop),Inv X Z O H s->t O H Q ->
  wpAny (model X.prog X.w) X.A (forIn ifs true λc r=>if r=true then do let ok <- isTrue c X.env (eval c X.env);pure (ForInStep.yield ok) else pure (ForInStep.yield r)) (TP X Z O Q) X.xe s
def zH6:TT:=λ_ H Q=>Q true H
def tq:PTs X [] zH6:=λ_ _ _ H _ I h=>wpAny_tests_nil ⟨H,I,h⟩
def zGw(wi:TI)(m:Nat)(fr:C4)(g:TG)(tc:TT)(te:TE):TE:=λO H Q=>wi O H λm0J H1=>∀D,H1 D=none->∃W:Nat->Nat->C6->Hp->Prop,(∃k,W 0 k []<|upd H1 D<|.lst [])/\∀i k ys H,W i k ys H->H D=some (.lst ys) /\
 ((m0J.stop i H/\Q (.ref D) H)\/(m0J.go i H/\ys.length<sizeLine/\∃N:C6->Hp->Prop,(∀ys' H',N ys' H'->∃k',k'<k/\W (i+1) k' ys' H') /\
  ∀x H',m0J.yld i H x H'->g x (List.replicate m none++zCx O fr) H' λσ2 H2=>σ2.drop m=zCx O fr/\σ2.length=m+fr.length /\
   tc σ2 H2 λb H3=>H3 D=some (.lst ys)/\if b=true then te σ2 H3 λv H4=>H4 D=some (.lst ys)/\N (ys++[v]) (upd H4 D<|.lst<|ys++[v]) else N ys H3))
def Inv.forget{O':St}(I:Inv X Z O H s)(hl:O'.length=O.length)(h:∀(i:Nat)(v:V),O'[i]?=some (some v)->O[i]?=some (some v)):Inv X Z O' H s:=
 ⟨I.ok,I.os,I.bare,I.base,let ⟨m,h1,h2⟩:=I.loc;⟨m,h1,λi x v e1 e2 e3=>h2 i x v e1 (h i v e2) e3⟩,I.cell,I.free,I.freeC,I.pin,I.hok,hl.trans I.len⟩
def jM{m:Nat}{cs:St}{v:V}(h:(List.replicate m none++cs)[i]?=some (some v)):m<=i/\cs[i-m]?=some (some v):=by
 by_cases hi:i<m
 .rw[List.getElem?_append_left (by simpa using hi),List.getElem?_replicate,xCg hi] at h;cases h
 .rw[xCl (by simp;lia),xCu] at h;exact⟨(),h⟩
section
variable{X:Cx}{elt tg iter:B8}{ifs:B4 B8}{pos:Pos}{scope:Scope}{cl:B4<|Str×B9}{ls N:C0}{fr:C4}{wi:TI}{g:TG}{tc:TT}{te:TE}
def rW{C:B9}(cp:zB2 X scope cl ls N fr)(I:Inv X Z O H s)(hC:s.heap.objs.size<=C)(hf:∀b∈fp,zCz X Z H b)(hl:∀b∈fp,b<s.heap.objs.size) :
  (zAm X (ls++N) scope cl C s H fp).Ok where
 mod:=I.ok.mod
 kind:=cp.kind
 glob:=I.ok.glob
 blt:=I.ok.blt
 above:=hC
 inj:=λy z c e1 e2=>I.ok.inj y z c (cp.sub y c e1)<|cp.sub z c e2
 has:=λy h=>by
  have h':(relabel scope X.env).names.lookup y=some .cell\/(relabel scope X.env).names.lookup y=some .free:=h;rcases h' with h'|h'
  .obtain⟨k0,m,z|⟨z,_⟩⟩:=fU h'
   .subst z;exact absurd rfl<|cp.cell _ m
   .subst z;exact cp.has _ m rfl
  .obtain⟨k0,m,z|⟨_,z⟩⟩:=fU h'
   .subst z;exact cp.has _ m rfl
   .cases z
 cab:=λ_ _ e=>absurd e xAy
 hd:=I.ok.hd
 frames:=I.ok.frames
 stk:=.inl rfl
 exf:=λb hb=>⟨xA0<|xBc (hl b hb) hC,λy c e z=>(hf b hb).2.2.2.2.1 y c (cp.sub y c e) z⟩
 bs:=I.bs
 bsz:=xCk I.ok.bsz I.sz
 noex:=λb o e hb=>by
  have q:=hf b hb;rcases q.2.2.2.1 with z|z
  .exact I.ok.noex b o e z
  .have:=xA1 (I.ok.bs b o e).1;exact absurd (xBc this z)<|Nat.lt_irrefl _
 exfs:=λb hb z=>by
  have q:=hf b hb;rcases xAv.mp (I.stkSub b z) with z'|z'
  .exact q.2.1 z'
  .exact q.2.2.1 z'
 funs:=I.stack
 frf:=I.stkFree
def ka{pos':Pos}{Q:VK}{use:B5<|B6->Sem Unit}{QQ:B6->B7->Prop}(hc:X.calm=true)(cp:zB2 X scope cl ls N fr)(hi:PI X tg iter wi)(hg:∀C s H fp,PG (zAm X (ls++N) scope cl C s H fp) tg g)(ht:∀C s H fp,PTs (zAm X (ls++N) scope cl C s H fp) ifs tc)(he:∀C s H fp,PE (zAm X (ls++N) scope cl C s H fp) elt te)(hs:∀v,foldedSetIterable iter X.env v=pure v)(I:Inv X Z O H s)(h:zGw wi ls.length fr g tc te O H Q)(fin:∀(B C:B9)(H':Hp)(s4:B7)(m:Str->B5 B6),Inv X Z O H' s4->zCz X Z H' C->s4.heap.Ns C m->Q (.ref B) H'->compPost (model X.prog X.w) X.A X.xe use QQ (.ref B) C (.ok .next) s4) :
  wpAny (model X.prog X.w) X.A (comprehension (.ListComp elt [⟨tg,iter,ifs,0⟩] scope pos) scope X.env pos' (newList []) false (eval iter X.env) use) QQ X.xe s:=by
 refine wpAny_comprehension_free (use:=use) rfl hs cp.clos cp.kind cp.names (thn (hi Z s O H _ I h) λv s1 h1=>thn h1 λitv s2 h2=>?_);let⟨it,fp,tn,m0J,H2,e,I2,T,st2,f2,R⟩:=h2;subst e;have hfl:∀b∈fp,b<s2.heap.objs.size:=λb hb=>let ⟨o,e,_⟩:=T.obj _ _ st2 b hb;xA1 e;refine xBl<|wpAny_newFunctionEnv cp.cell (by intro y hy;simp at hy) (λh1 hns1 hsb1=>?_) cp.kind;dsimp only at hns1 hsb1⊢;generalize hG:s2.heap.push {cls:=.type "list",dict:=none,data:=.seq ([]:C7).toArray}=G2 at hns1 hsb1⊢;have hCs:G2.objs.size=s2.heap.objs.size+1:=by rw[<- hG,Heap.size_push]
 have hDC:s2.heap.objs.size≠G2.objs.size:=by rw[hCs];exact xA0<|Nat.lt_succ_self _
 have hCle:s2.heap.objs.size<=G2.objs.size:=by rw[hCs];exact Nat.le_succ _
 have old:∀b o,s2.heap.get? b=some o->h1.get? b=some o:=λb o e=>hsb1.extBut b o (xA0<|xBc (xA1 e) hCle)<|xAf _<|hG▸xAf _ e;have hacc:h1.get? s2.heap.objs.size=some {cls:=.type "list",dict:=none,data:=.seq ([]:C7).toArray}:=hsb1.extBut _ _ hDC<|xAf _<|hG▸xAl _ rfl;have hDn:H2 s2.heap.objs.size=none:=I2.hok.fresh<|xAg _;have hCn:H2 G2.objs.size=none:=I2.hok.fresh hCle;let⟨W,⟨m0,w0⟩,turn⟩:=R s2.heap.objs.size hDn;have okY:=rW (C:=G2.objs.size) cp I2 hCle f2 hfl;have I3:Inv (zAm X (ls++N) scope cl G2.objs.size s2 H2 fp) [] (List.replicate ls.length none++zCx O fr) (upd H2 s2.heap.objs.size<|.lst []) {s2 with heap:=h1,toks:=s2.toks+([]:B4<|Str×B6).length}:=by
  refine⟨okY,rfl,I2.bare,Un.laid old (xAg _) hDn,⟨_,hns1,λi y v e1 e2 e3=>?_⟩,λy c e=>?_,?_,λy c e=>?_,(λp hp=>nomatch hp),I2.hok.laid old (xAg _) ⟨xBn _,[],0,.nil,hacc⟩,?_⟩
  .let⟨hm,e2'⟩:=jM e2;have e1':N[i-ls.length]?=some y:=by
    have e1'':(ls++N)[i]?=some y:=e1;rw[xCl hm] at e1'';exact e1''
   let⟨k,c,g1,g2,g3,g4,g5,g6⟩:=cp.caps _ y e1';have e4:O[k]?=some (some v):=by
    unfold zCx at e2';rw[xAw,g1] at e2';have e5:(O[k]?).join=some v:=xB3 e2';cases z:O[k]? with
    |none=>rw[z] at e5;cases e5
    |some o=>rw[z] at e5;exact congrArg some e5
   let⟨m2,_,hl2⟩:=I2.loc;let⟨u,r,lk⟩:=hl2 k y v g2 e4 g3;refine⟨u,r,.inr ⟨dq g6,c,g5,?_⟩⟩;rcases lk with ⟨lk,_⟩|⟨_,c',lk1,o,lk2,lk3⟩
   .exact absurd lk g4
   .have:=cp.sub y c g5;rw[lk1] at this;cases this;exact⟨o,old _ _ lk2,lk3⟩
  .let⟨v,o,e1,e2⟩:=I2.cell y c<|cp.sub y c e;exact⟨v,o,old _ _ e1,e2⟩
  .show upd H2 s2.heap.objs.size (.lst []) G2.objs.size=none;rw[b9<|Ne.symm hDC];exact hCn
  .let⟨v,o,e1,e2⟩:=I2.cell y c<|cp.sub y c e;rw[b9<|xA0<|xA1 e1];exact I2.freeC y c<|cp.sub y c e
  .change(List.replicate ls.length none++zCx O fr).length=(ls++N).length;unfold zCx;rw[xAb,xAb,xCu,xAa,cp.len]
 have stat:∀{H':Hp},(∀b∈fp,H' b=none)->∀b∈fp,zCz (zAm X (ls++N) scope cl G2.objs.size s2 H2 fp) [] H' b:=λhn b hb=>
  ⟨hn b hb,xA0<|xBc (hfl b hb) hCle,okY.exfs b hb,.inl hb,(okY.exf b hb).2,λp hp=>nomatch hp⟩
 have loop:∀s3:B7,s3={s2 with heap:=h1,toks:=s2.toks+([]:B4<|Str×B6).length} ->
   codeAny (model X.prog X.w) X.A (.compLoop (.ListComp elt [⟨tg,iter,ifs,0⟩] scope pos) 0 (.ref it) (.ref s2.heap.objs.size)<|compEnvC scope cl G2.objs.size X.env)
    (compPost (model X.prog X.w) X.A X.xe use QQ (.ref s2.heap.objs.size) G2.objs.size) s3:=by
  rintro s3 rfl
  refine lD (λn s'=>∃i ys H',Inv (zAm X (ls++N) scope cl G2.objs.size s2 H2 fp) [] (List.replicate ls.length none++zCx O fr) H' s'/\tn i s'.heap/\(∀b∈fp,H' b=none)/\W i n ys H') ?_ m0
   ⟨0,[],_,I3,T.keep _ _ _ st2 λb hb o e=>old b o e,λb hb=>by rw[b9<|xA0<|hfl b hb];exact(f2 b hb).1,w0⟩
  rintro n s' ⟨i,ys,H',IY,st,frn,w'⟩
  let⟨hD,hh⟩:=turn i n ys H' w';rcases hh with ⟨stop,q⟩|⟨go,hz,Nx,hN,step⟩
  .refine wpAny_mono (T.done (zAm X (ls++N) scope cl G2.objs.size s2 H2 fp) rfl rfl rfl hc i [] s' _ H' (λ_ _=>False) IY (stat frn) st stop) (λr s4 h4=>?_) (λ_ _ z=>z.elim);let⟨hr,I4⟩:=h4;subst hr;let⟨mY,hnY,_⟩:=I4.loc;have I5:Inv X Z O H' s4:=Inv.call' (s:=s2) (H:=H2) (ch:=fp) I2 I4.os I4.base I4.hok I4.bare (λb hb=>⟨(f2 b hb).2.2.2.1,(f2 b hb).2.1,(f2 b hb).2.2.2.2.1,(f2 b hb).2.2.2.2.2⟩);exact fin _ _ H' s4 mY I5 (I2.fpOk hCle I4.free) hnY q
  .refine wpAny_mono (T.item (zAm X (ls++N) scope cl G2.objs.size s2 H2 fp) rfl rfl rfl hc i [] s' _ H' (λ_ _=>False) IY (stat frn) st go) (λr s4 h4=>?_) (λ_ _ z=>z.elim);let⟨u,hr,h4⟩:=h4;subst hr;refine wpAny_mono h4 (λ_ s5 h5=>?_) (λ_ _ z=>z.elim);let⟨xv,H5,I5,r5,y5,st5,fr5⟩:=h5;have I5':=I5.pinned (stat fr5)<|T.obj _ _ st5;refine wpAny_mono (hg G2.objs.size s2 H2 fp _ s5 _ H5 xv u _ I5' r5<|step xv H5 y5) (λ_ s6 h6=>?_) (λ_ _ z=>z.elim);let⟨σ6,H6,I6,c6,l6,t6⟩:=h6;have back:∀{H7:Hp}{s7:B7},Inv (zAm X (ls++N) scope cl G2.objs.size s2 H2 fp) ([]++zB5 fp s5.heap) σ6 H7 s7->Inv (zAm X (ls++N) scope cl G2.objs.size s2 H2 fp) [] (List.replicate ls.length none++zCx O fr) H7 s7/\tn (i+1) s7.heap/\∀b∈fp,H7 b=none:=λ{H7 s7} I7=>by
    refine⟨I7.unpinned.forget ?_ λj v e=>?_,T.keep _ _ _ st5 λb hb o e=>(I7.pin (b,o)<|xBt _<|xBt _<|dY hb e).1,λb hb=>?_⟩
    .rw[l6,xAb,xCu];unfold zCx;rw[xAa]
    .let⟨hm,e'⟩:=jM e;rw[<- c6,List.getElem?_drop] at e';rw[show j=ls.length+(j-ls.length) by lia];exact e'
    .let⟨o,e,d⟩:=T.obj _ _ st5 b hb;exact(I7.pin (b,o)<|xBt _<|xBt _<|dY hb e).2.1
   refine wpAny_mono (ht G2.objs.size s2 H2 fp _ s6 _ H6 _ I6 t6) (λok s7 h7=>?_) (λ_ _ z=>z.elim);let⟨H7,I7,hD7,h7⟩:=h7;cases ok with
   |false=>
    rw[xCf xAy] at h7⊢;let⟨k',hk,w8⟩:=hN _ _ h7;let⟨b1,b2,b3⟩:=back I7;exact⟨k',hk,i+1,ys,H7,b1,b2,b3,w8⟩
   |true=>
    rw[xCg rfl] at h7⊢;refine wpAny_mono (he G2.objs.size s2 H2 fp _ s7 _ H7 _ I7 h7) (λxv' s8 h8=>?_) (λ_ _ z=>z.elim);let⟨v8,H8,I8,r8,hD8,n8⟩:=h8;refine wpAny_mono (ip (X:=zAm X (ls++N) scope cl G2.objs.size s2 H2 fp) _ s8 _ H8 (.ref s2.heap.objs.size) [v8] (.ref s2.heap.objs.size) [xv'] (λv' H9=>H9=upd H8 s2.heap.objs.size (.lst<|ys++[v8])) I8 rfl (.cons r8 .nil) ⟨s2.heap.objs.size,ys,v8,rfl,rfl,hD8,hz,rfl⟩) (λ_ s9 h9=>?_) (λ_ _ z=>z.elim);let⟨v9,H9,I9,_,rfl⟩:=h9;let⟨k',hk,w9⟩:=hN _ _ n8;let⟨b1,b2,b3⟩:=back I9;exact⟨k',hk,i+1,ys++[v8],_,b1,b2,b3,w9⟩
 exact codeAny_compStart_list (loop _ rfl)<|T.self _ 0 _ _ _ (T.keep _ _ _ st2 λb hb o e=>old b o e)<|loop _ rfl
def wN(hc:X.calm=true)(cp:zB2 X scope cl ls N fr)(hi:PI X tg iter wi)(hg:∀C s H fp,PG (zAm X (ls++N) scope cl C s H fp) tg g)(ht:∀C s H fp,PTs (zAm X (ls++N) scope cl C s H fp) ifs tc)(he:∀C s H fp,PE (zAm X (ls++N) scope cl C s H fp) elt te)(hs:∀v,foldedSetIterable iter X.env v=pure v:=by intro _;rfl):PE X (.ListComp elt [⟨tg,iter,ifs,0⟩] scope pos)<|zGw wi ls.length fr g tc te:=by
 intro Z s O H Q I h;rw[eval_ListComp];refine ka (use:=none) (QQ:=EP X Z O Q) hc cp hi hg ht he hs I h λB C H' s4 m I4 f4 n4 q4=>⟨m,n4,λh' sb=>?_⟩
 exact⟨.ref B,H',I4.turned (t':=s4.toks) (λb o hb e=>sb.extBut b o hb e) f4.1 f4.2.1 f4.2.2.2.1 f4.2.2.2.2.1 f4.2.2.2.2.2,rfl,q4⟩
def pN{y:Str}{py spos:Pos}(hN:X.N.Nodup)(hiy:X.N[i]?=some y)(hy:X.env.scope.names.lookup y=some .local)(hc:X.calm=true)(cp:zB2 X scope cl ls N fr)(hi:PI X tg iter wi)(hg:∀C s H fp,PG (zAm X (ls++N) scope cl C s H fp) tg g)(ht:∀C s H fp,PTs (zAm X (ls++N) scope cl C s H fp) ifs tc)(he:∀C s H fp,PE (zAm X (ls++N) scope cl C s H fp) elt te)(hs:∀v,foldedSetIterable iter X.env v=pure v:=by intro _;rfl)(hsw:swapsWith (.ListComp elt [⟨tg,iter,ifs,0⟩] scope pos) (some<|.Name y py) spos.line X.env=pure true:=by rfl) :
  PS X (.Assign [.Name y py] (.ListComp elt [⟨tg,iter,ifs,0⟩] scope pos) spos) (zGz (zGw wi ls.length fr g tc te)<|zDe i):=by
 intro Z s O H D I h;rw[exec_Assign_Name_used _ _ _ _ hsw];refine xAd (wpAny_standAt<|xAd ?_);change wpAny _ X.A (do let _ <- comprehension (.ListComp elt [⟨tg,iter,ifs,0⟩] scope pos) scope X.env _ (newList []) false (eval iter X.env) (some<|assign (.Name y py) X.env)) _ _ s;refine xAd (wpAny_mono (ka (use:=some<|assign (.Name y py) X.env) (QQ:=λ_ s'=>SP X Z D .next s') hc cp hi hg ht he hs I h λB C H' s4 m I4 f4 n4 q4=>?_) (λ_ s' z=>xAe<|xAe z) λ_ _ z=>z);change wpAny _ X.A (assign (.Name y py) X.env<|.ref B) _ _ _;refine wpAny_assign_Name (im I4 hN hiy (.inl hy) (v:=.ref B) rfl (λs5 I5 ⟨a,sb5,ha⟩=>?_)<|.inr hy);have aC:C≠a:=by
  rcases ha with ha|ha
  .rw[ha];exact f4.2.1
  .exact λz=>f4.2.2.2.2.1 _ _ ha z.symm
 refine⟨m,n4.sameBut sb5 aC,λh' sb=>⟨_,H',?_,q4⟩⟩;exact I5.turned (t':=s5.toks) (λb o hb e=>sb.extBut b o hb e) f4.1 f4.2.1 f4.2.2.2.1 f4.2.2.2.2.1 f4.2.2.2.2.2
end
structure zB7(X:Cx)(scope:Scope)(cl:B4 (Str×B9))(y:Str)(k:Nat):Prop where
 ex:∃c,cl.lookup y=some c/\X.env.cells.lookup y=some c
 at':X.N[k]?=some y
 cell:X.env.scope.names.lookup y=some .cell
 free:scope.names.lookup y=some .free
theorem c8{J:Type}{y:Str}{c:J}:∀{l:B4<|Str×J},l.lookup y=some c->(y,c)∈l
 |[],h=>by simp at h
 |(z,d)::r,h=>by
  rw[List.lookup_cons] at h;by_cases e:y==z
  .rw[e] at h;cases xB3 h;rw[eq_of_beq e];exact xAr
  .rw[Bool.eq_false_iff.mpr e] at h;exact xAs _<|c8 h
def zB2.mk'{cl:B4<|Str×B9}{ls N:C0}{fr:C4}(clos:closureFor scope X.env=pure cl)(cell:∀y∈scope.names,y.2≠.cell)(kind:scope.kind=.function)(names:∀y∈scope.names,y.2=.local->scope.names.lookup y.1=some .local)(h:Paired (zB7 X scope cl) N fr)(has:∀y∈scope.names,y.2=.free->y.1∈N)(hk:cl.map (·.1)=N):zB2 X scope cl ls N fr:=by
 have get:∀{N:C0}{fr:C4},Paired (zB7 X scope cl) N fr->∀(j:Nat)(y:Str),N[j]?=some y->∃k,fr[j]?=some k/\zB7 X scope cl y k:=by
  intro N fr h;induction h with
  |nil=>intro j y e;simp at e
  |cons hd tl ih=>
   intro j y e;cases j with
   |zero=>simp at e;subst e;exact⟨_,rfl,hd⟩
   |succ j=>exact ih j y (by simpa using e)
 have mem:∀y∈N,∃k,zB7 X scope cl y k:=λy hy=>by
  let⟨j,e⟩:=List.mem_iff_getElem?.mp hy;let⟨k,_,c⟩:=get h j y e;exact⟨k,c⟩
 refine⟨clos,cell,kind,names,λy c e=>?_,λy hy e=>?_,λj y e=>?_,h.length⟩
 .have hy:y∈N:=by
   rw[<- hk];have:=c8 e;exact xA2.mpr ⟨_,this,rfl⟩
  let⟨k,⟨c',e1,e2⟩,_⟩:=mem y hy;rw[e] at e1;cases e1;exact e2
 .let⟨k,⟨c',e1,e2⟩,_⟩:=mem _<|has y hy e;exact⟨c',e1⟩
 .let⟨k,e1,⟨c,e2,e3⟩,g1,g2,g3⟩:=get h j y e;refine⟨k,c,e1,g1,.inr<|.inl g2,λq=>?_,e2,g3⟩;have q':X.env.scope.names.lookup y=some .local:=q;rw[g2] at q';cases q'
section
variable{X:Cx}
def zEp(b:B'):R2:=λx y H Q=>∃p q xs ys n,x=.ref p/\y=.ref q/\H p=some (.lst xs)/\H q=some (.lst ys)/\xs.length=ys.length/\n<=90/\(∀(j:Nat)(x y:V),xs[j]?=some x->ys[j]?=some y->Al H n x y)/\Q (.bl b) H
def qw(hu:X.A.units+100<cLine):OpR X (compareOp .NotEq)<|zEp false:=by
 intro Z s O H x y v u Q I rx ry h;let⟨a,b,xs,ys,n,rfl,rfl,ea,eb,el,hn,al,q⟩:=h;cases (show v=Value.ref a from rx);cases (show u=Value.ref b from ry);let⟨_,its,n1,q1,t1⟩:=(show zAf X.prog X.w H s.heap a (.lst xs) from I.hok a _ ea)
 let⟨_,its2,n2,q2,t2⟩:=(show zAf X.prog X.w H s.heap b (.lst ys) from I.hok b _ eb)
 have he:∀j (h1:j<its.toArray.size) (h2:j<its2.toArray.size),SeqAt.EqAt X.A.in1 s its.toArray[j] its2.toArray[j]<|(λ_=>true) j:=λj j1 j2=>by
  let⟨x1,e1,g1⟩:=cU q1 j1;let⟨y1,e2,g2⟩:=cU q2 j2;exact gA I.hok (al j x1 y1 e1 e2) g1 g2 (by show X.A.units+1+n<cLine;lia)
 have es:its.toArray.size=its2.toArray.size:=by rw[xAp,xAp,<- q1.length,<- q2.length,el]
 erw[(SeqAt.RcNeAt.lists (e:=λ_=>true) ⟨_,t1,rfl,_,rfl⟩ ⟨_,t2,rfl,_,rfl⟩ es () he) X.prog X.w X.xe _,cf I q];simp
def qA(hu:X.A.units+100<cLine):OpR X (compareOp .Eq)<|zEp true:=by
 intro Z s O H x y v u Q I rx ry h;let⟨a,b,xs,ys,n,rfl,rfl,ea,eb,el,hn,al,q⟩:=h;cases (show v=Value.ref a from rx);cases (show u=Value.ref b from ry);let⟨_,its,n1,q1,t1⟩:=(show zAf X.prog X.w H s.heap a (.lst xs) from I.hok a _ ea)
 let⟨_,its2,n2,q2,t2⟩:=(show zAf X.prog X.w H s.heap b (.lst ys) from I.hok b _ eb)
 have he:∀j (h1:j<its.toArray.size) (h2:j<its2.toArray.size),SeqAt.EqAt X.A.in1 s its.toArray[j] its2.toArray[j]<|(λ_=>true) j:=λj j1 j2=>by
  let⟨x1,e1,g1⟩:=cU q1 j1;let⟨y1,e2,g2⟩:=cU q2 j2;exact gA I.hok (al j x1 y1 e1 e2) g1 g2 (by show X.A.units+1+n<cLine;lia)
 have es:its.toArray.size=its2.toArray.size:=by rw[xAp,xAp,<- q1.length,<- q2.length,el]
 erw[SeqAt.eq_listAt (e:=λ_=>true) ⟨_,t1,rfl,_,rfl⟩ ⟨_,t2,rfl,_,rfl⟩ es () he,cf I q];simp
end
def zI0(K:xFr):C6->Hp->VK->Prop:=λxs H Q=>∃x n,xs=[x]/\zI5 K x H n/\Q (.int n) H
def zF6:C6->Hp->VK->Prop:=λxs H Q=>∃a kvs,xs=[V.ref a]/\H a=some (.dK kvs)/\Q (.int kvs.length) H
def zF5(K:xFr):C6->Hp->VK->Prop:=λxs H Q=>∃p ys,xs=[.ref p]/\(SqL K H p ys\/SqT K H p ys)/\∀l,H l=none->Q (.ref l) (upd H l<|.lst ys)
def zDw(K:xFr):C6->Hp->VK->Prop:=λxs H Q=>∃p ys,xs=[.ref p]/\((SqL K H p ys/\∀l,H l=none->Q (.ref l) (upd H l<|.tup ys))\/(SqT K H p ys/\Q (.ref p) H))
def zJ9(K:xFr):C6->Hp->VK->Prop:=λxs H Q=>∃x n t b,xs=[x,V.ty n]/\zB6 K H x t/\W.kitOne K t (.type n)=some b/\Q (.bl b) H
def zF7:C6->Hp->VK->Prop:=λxs H Q=>(∃i,xs=[.int i]/\Q (.int i) H)\/∃k,xs=[.bl k]/\Q (.int<|if k then 1 else 0) H
section
variable{X:Cx}
def yv:zAn X (.builtin "len")<|zI0 X.K:=rZ
def uQ:zAn X (.builtin "len") zF6:=oO
def uO:zAn X (.type "list")<|zF5 X.K:=jn
def rR:zAn X (.type "tuple")<|zDw X.K:=ik
def yw:zAn X (.builtin "isinstance")<|zJ9 X.K:=oP
def uR:zAn X (.type "int") zF7:=oQ
end
def zJx:R2:=λx y H Q=>y=.non/\Q (.bl<|decide<|x=.non) H
def w4:OpR X (compareOp .Is) zJx:=xh
section
variable{m0J:It}{P:Hp->Prop}{n:Nat}{Y:Nat->Hp->V->Hp->Prop}{g:TG}{tb:TS}{Dn:zDp}{O:St}{H:Hp}
variable{K:xFr}{tl:TE}{tas:TA}{R:It->Hp->Prop}{a:B9}{xs:C6}
def zFm(K:xFr)(x:V)(H:Hp)(R:It->Hp->Prop):Prop:=∃a,x=.ref a/\(∃xs,SqL K H a xs)/\R (Itl K a) H
def zFl(K:xFr)(x:V)(H:Hp)(R:It->Hp->Prop):Prop:=∃a,x=.ref a/\(∃xs,SqT K H a xs)/\R (Itt K a) H
end
section
variable{prog:Program}{w:World}{A:Around}{E:B6->B7->Prop}{s:B7}
theorem gZ{it l:B9}{items:Array B6}(hne:l≠it):∀(n i:Nat)(s:B7)(Q:C7->B7->Prop),s.heap.IsListIter it l i->s.heap.IsList l items->i+n<=items.size ->
  (∀h',h'.IsListIter it l (i+n)->Heap.SameBut it s.heap h'->Q ((items.toList.drop i).take n) {s with heap:=h'})->wpAny (model prog w) A (draw (.ref it) n) Q E s
 |0,i,s,Q,hit,_,_,hQ=>by
  change wpAny _ _ (pure []) Q E s;exact xAe (by simpa using hQ s.heap hit (Heap.SameBut.refl ..))
 |n+1,i,s,Q,hit,hl,hle,hQ=>by
  have lt:i<items.size:=()
  change wpAny _ _ (pyNext (.ref it)>>=_) Q E s;erw[<-xAd (wpAny_pyNext_list_item hit hl (x:=items[i]) (by simp[lt]) λh1 it1 sb1=>?_),<-xAd (xDc<|gZ hne n (i+1) _ _ it1 (hl.at λo e=>(sb1.2 l hne).trans e) () λh2 it2 sb2=>xAe ?_)];have hd:items.toList.drop i=items[i]::items.toList.drop (i+1):=by simp[List.drop_eq_getElem_cons,lt]
  have:=hQ h2 (by rw[show i+(n+1)=i+1+n by lia];exact it2)<|sb1.trans sb2;rw[hd,List.take_succ_cons] at this;exact this
def iI{l:B9}{items:Array B6}{targets:B4<|B'×(B6->Sem Unit)}{Q:Unit->B7->Prop}(hh:A.handled=none)(hl:s.heap.IsList l items)(hn:targets.length=items.size)(hstar:targets.findIdx? (·.1)=none)(h:∀h',Heap.ExtBut s.heap.objs.size s.heap h'->wpAny (model prog w) A (assignInOrder (targets.map (·.2)) items.toList) Q E {s with heap:=h'}) :
  wpAny (model prog w) A (unpack (.ref l) targets) Q E s:=by
 unfold unpack;rw[hn,hstar];refine xAd<|xDc ?_;have lt:l≠s.heap.objs.size:=by let⟨o,ho,_⟩:=hl;exact xA0<|xA1 ho
 unfold unpackItems;erw[xAd];unfold notIterableAtAll;erw[<-xAd<|wpAny_specialOf hl.typeIs PySem.F.slot_list_iter.lookup ?_,xAe];simp only[xAz,if_false];erw[<-xAd<|xDc<|wpAny_pyIter_list hl ?_,<-xAd (xDc<|gZ lt items.size 0 _ _ ⟨_,xAl _ rfl,rfl,rfl⟩ (hl.push _) () λh1 it1 sb1=>?_)];have hall:List.take items.size (List.drop 0 items.toList)=items.toList:=by
  rw[List.drop_zero];exact List.take_of_length_le ⋯
 rw[hall,xCf ⋯];have hl1:h1.IsList l items:=(hl.push _).at λo e=>(sb1.2 l lt).trans e;refine xAd (xDc<|wpAny_pyNext_list_end hh it1 hl1 ⋯ λh2 e2=>?_);simp only[Option.isSome_none,xAz,if_false];exact xAe<|h h2 λb o hb e=>e2 b o hb<|sb1.extBut b o hb<|xAf _ e
end
section
variable{X:Cx}{pos:Pos}
def zJ6(K:xFr)(n:Nat)(t:TGs):TG:=λv O H Q=>∃a xs,v=.ref a/\SqL K H a xs/\xs.length=n/\t xs O H Q
def wH{k:Nat}{t:TGs}(hc:X.calm=true)(h:PGs X es t)(hn:(assignEach es X.env).length=n:=by rfl)(hst:(assignEach es X.env).findIdx? (·.1)=none:=by rfl):PG X (.Tuple es k pos)<|zJ6 X.K n t:=by
 intro Z s O H v u Q I r hw;let⟨a,xs,e1,hq,hl,hw⟩:=hw;subst e1;cases r;let⟨its,rv,ht,hz⟩:=I.list hq;rw[assign_Tuple];refine xAd (wpAny_standAt<|iI (I.ok.hd hc) ht.isList (by simp[hn,<- hl,rv.length]) hst λh' hx=>?_);have I1:Inv X Z O H {s with heap:=h'}:=I.kept (t':=s.toks) λb o e=>hx b o (xA0<|xA1 e) e;exact h Z _ O H xs _ Q I1 (by simpa using rv) hw
end
section
variable{X:Cx}
def zFh(K:xFr):R2:=λx y H Q=>∃a b xs ys,x=.ref a/\y=.ref b/\H a=some (.tup xs)/\H b=some (.tup ys)/\xs.length+ys.length<=sizeLine/\∀p H2,zF9 H H2->H2 p=some (.tup<|xs++ys)->Q (.ref p) H2
def uc:OpR X (binaryOp .Add)<|zFh X.K:=by
 intro Z s O H x y v u Q I rx ry h;let⟨a,b,xs,ys,rfl,rfl,ha,hb,hz,q⟩:=h;by_cases hx:xs=[]
 .cases (show v=Value.ref a from rx);cases (show u=Value.ref b from ry);subst hx;let⟨its,r1,p1,_⟩:=I.tuple<|SqT.of ha;let⟨its2,r2,p2,_⟩:=I.tuple<|SqT.of hb;have e1:its=[]:=r1.nil_iff.mpr rfl;subst e1;let⟨⟨cls,dd,data,sl⟩,ho,hc,n,hd⟩:=id p1;let⟨⟨cls2,dd2,data2,sl2⟩,ho2,hc2,n2,hd2⟩:=id p2;simp only at hc hd hc2 hd2;subst hc hd hc2 hd2;refine concat_meets ⟨_,ho,rfl⟩ ⟨_,ho2,rfl⟩ noFill_tuple_add seq_tuple_add PySem.F.slot_tuple_add PySem.F.entry_tuple_add (PySem.F.args_tuple_add_2 _ _)
   (tuple_addW0 a b ([]:C7).toArray its2.toArray n n2 dd dd2 sl sl2 ⋯) ⟨ho,ho2,?_⟩
  exact⟨.ref b,H,I,rfl,q b H (.refl _) hb⟩
 .refine ui Z s O H _ _ v u Q I rx ry ⟨a,b,xs,ys,rfl,rfl,.of ha,.of hb,hx,hz,λe=>?_,λ_ p hp=>q p _ (dz hp _) ce⟩;subst e;exact q a H (.refl _) (by rw[xB0];exact ha)
end
noncomputable def zAa:B8->B'
 |.Starred _ _=>false
 |_=>true
def cg(h:zAa e=true):starEach (e::es) env=(false,eval e env)::starEach es env:=by
 cases e <;> first|rfl|cases h
theorem dG{pos:Pos}{env:Env}:∀{es:B4 B8},es.all zAa=true->(backTo pos<|starEach es env).any (·.1)=false
 |[],_=>rfl
 |e::es,h=>by
  rw[xCj,xCh] at h;rw[cg h.1];change(false||(backTo pos<|starEach es env).any (·.1))=false;rw[dG h.2];rfl
theorem jD{pos:Pos}{env:Env}:∀{es:B4 B8},es.all zAa=true->(backTo pos<|starEach es env).all (λx=>!x.1)=true
 |[],_=>rfl
 |e::es,h=>by
  rw[xCj,xCh] at h;rw[cg h.1];change(true&&(backTo pos<|starEach es env).all (λx=>!x.1))=true;rw[jD h.2];rfl
noncomputable def zA5:B8->B'
 |.ListComp ..=>false
 |.SetComp ..=>false
 |.DictComp ..=>false
 |_=>true
def eY{t:B5 B8}{l:Nat}(h:zA5 e=true):swapsWith e t l env=pure false:=by
 cases e <;> first|rfl|cases h
noncomputable def zBw:B8->B'
 |.Call ..=>false
 |_=>true
def gn{o:B8}{f:Str}{x:Sem B6}(h:zBw o=true):attributeBase o f env x=x:=by
 cases o <;> first|rfl|cases h
section
variable{X:Cx}{e o:B8}{es:B4 B8}{te to:TE}{t:TA}{pos p apos cpos:Pos}{x name:Str}{id T:String}{i:Nat}{r:C6->Hp->VK->Prop}
def oh(ha:PE X e te)(hr:PA X es t)(h:zAa e=true:=by rfl):PA X (e::es)<|zE6 te t:=tX ha hr<|cg h
def qp(hc:zAn X (.builtin id) r)(hg:Gl X x)(hm:X.mg x=none)(hv:bootBuiltins x=some (.builtin id))(ha:PA X (e::es) t)(h:(e::es).all zAa=true:=by rfl)(hn:x≠"__name__":=by decide)(hdb:(x==("__debug__":Str))=false:=by decide):PE X (.Call (.Name x p) (e::es) [] pos)<|tCB r t:=by
 rw[xCj,xCh] at h;exact qo hc hg hm hv ha hn hdb (cg h.1)<|dG h.2
def my(hc:zAn X (.type T) r)(hg:Gl X x)(hm:X.mg x=none)(hv:bootBuiltins x=some (.type T))(ha:PA X (e::es) t)(h:(e::es).all zAa=true:=by rfl)(hn:x≠"__name__":=by decide)(hdb:(x==("__debug__":Str))=false:=by decide):PE X (.Call (.Name x p) (e::es) [] pos)<|tCB r t:=by
 rw[xCj,xCh] at h;exact oa hc hg hm hv ha hn hdb (cg h.1)<|dG h.2
variable{k k':Nat}{ps:C0}{sp:Sp}
def zq(he:PE X e te)(h:zA5 e=true:=by rfl):PS X (.Expr e pos)<|zE3 te:=tz he<|eY h
variable{rm:V->C6->Hp->VK->Prop}
def Bm(pa:PlainAttrs T)(slot:Slot T name id)(hty:typeOf (.builtin id)=pure (.type "method_descriptor"))(hm:MtR X id rm)(ho:PE X o to)(ha:PA X [e] t)(h:zBw o=true:=by rfl)(h2:zAa e=true:=by rfl)(hline:(apos.endLine==cpos.line)=true:=by rfl) :
  PE X (.Call (.Attribute o name apos) [e] [] cpos) (tBM X.K T rm to t):=
 zB pa slot hty hm ho ha (gn h) (by rw[cg h2];rfl) hline (cg h2) rfl
def zu{tg:B8}{ta:TA}(hg:Gl X "range")(hm:X.mg "range"=none)(ha:PA X [e] ta)(h:zAa e=true:=by rfl):PI X tg (.Call (.Name "range" p) [e] [] pos)<|zFu ta:=nZ hg hm ha<|cg h
end
section
variable{X:Cx}{e a b c o:B8}{es:B4 B8}{te ta tb tc to:TE}{t u:TA}{pos p p2 apos cpos px:Pos}{x y name:Str}{id T:String}{i j k:Nat}{st:Stmt}{sts:B4 Stmt}{ts us:TS}{tt tt':TT}
noncomputable def zB0:B8->B'
 |.Slice ..=>false
 |_=>true
def pV(h:zB0 b=true):zCf b:=λo i=>by cases b <;> first|rfl|cases h
variable{r:C6->Hp->VK->Prop}{rm:V->C6->Hp->VK->Prop}{ps:C0}{sp:Sp}{k':Nat}
variable{tg iter elt:B8}{g:TG}{gs:TGs}{wi:TI}{tas:TA}
def kj(h:zAa e=true):(assignEach (e::es) env).map (·.2)=assign e env::(assignEach es env).map (·.2):=by
 cases e <;> first|rfl|cases h
def vh(h:zAa e=true):assignEach (e::es) env=(false,assign e env)::assignEach es env:=by
 cases e <;> first|rfl|cases h
theorem dy{env:Env}:∀{es:B4 B8},es.all zAa=true->(assignEach es env).length=es.length/\(assignEach es env).findIdx? (·.1)=none
 |[],_=>⟨rfl,rfl⟩
 |e::es,h=>by
  rw[xCj,xCh] at h;let⟨h1,h2⟩:=dy (env:=env) h.2;rw[vh h.1];refine⟨by rw[xAo,h1,xAo],?_⟩;rw[List.findIdx?_cons,h2];rfl
variable{scope:Scope}{cl:B4<|Str×B9}{ls N:C0}{fr:C4}{ifs:B4 B8}
variable{body orelse:B4 Stmt}
end
def zHe(h:n<=16000000):n<sizeLine:=by rw[sizeLine_eq];lia
def zFq(h:n<=16000000):n<=sizeLine:=Nat.le_of_lt<|zHe h
def zGc(i j:Int):Prop:=0<j/\j<=10^18
def qy:OpR X (binaryOp .FloorDiv)<|rI zGc λi j=>.int<|i / j:=by
 intro Z s O H x y v u Q I rx ry h;let⟨i,j,rfl,rfl,⟨hj,hj2⟩,q⟩:=h;have hl:j.natAbs.log2<9000:=by
  have h1:j.natAbs<2^60:=by
   have:(2:Int)^60=1152921504606846976:=∅
   have:(10:Int)^18=1000000000000000000:=∅
   have:(2:Nat)^60=1152921504606846976:=∅
   lia
  have:=(Nat.log2_lt (n:=j.natAbs) ()).mpr h1;lia
 refine qz Z s O H _ _ v u Q I rx ry ⟨i,j,rfl,rfl,⟨(),PyProof.noPylong_of_log2 hl⟩,?_⟩;have e:i.fdiv j=i / j:=Int.fdiv_eq_ediv_of_nonneg _ ();change Q (.int<|i.fdiv j) H;rw[e];exact q
section
variable{X:Cx}{Z:B4<|B9×Obj}{O:St}{H:Hp}{s:B7}{h':Heap}
def Inv.turnedL{t':Nat}(I:Inv X Z O H s)(k:∀b o,b∉fp->s.heap.get? b=some o->h'.get? b=some o)(hf:∀b∈fp,zCz X Z H b):Inv X Z O H {s with heap:=h',toks:=t'}:=by
 have nit:∀b u,H b=some u->b∉fp:=λb u e z=>by rw[(hf b z).1] at e;cases e
 refine I.step (g':=s.gens) (d':=s.drawn) (ch:=fp) (λb hb=>?_) (λb o _ _ hc e _=>k b o hc e) (λb o _ _ hc e _=>⟨o.slots,k b o hc e⟩) (λ_ _ _ _ n=>n)
  (λb o hc e=>⟨o,k b o hc e⟩) (λ_ _ e=>e) (λ_ _ _ e=>e) (λb ps e=>⟨#[],by rw[e];simp⟩) (λm hm=>?_) (λb u e=>?_) I.bare
 .let⟨f0,f1,f2,f3,f4,f5⟩:=hf b hb;exact⟨f3,f1,f4,f5⟩
 .let⟨o,es,ep,ho,r⟩:=hm;exact⟨o,es,ep,k _ o (λz=>(hf _ z).2.1 rfl) ho,r⟩
 .refine(I.hok b u e).stay (λc v hc q=>k c v ?_ q) (λ_ q=>q) λ_ _ q=>q;rcases hc with z|z
  .rw[z];exact nit b u e
  .exact nit c _ z
end
def oR:bootBuiltins "enumerate"=some (.type "enumerate"):=by decide +kernel
end L2
namespace RevA
open PySem PySem.Spec PyProof.Rows
open AutoSeq1 (wpAny_loadPart')
variable{it t:B9}{i:Nat}{xs:Array B6}{Q:B6->B7->Prop}
def zBv(t:B9):Obj:={cls:=.type "tuple_iterator",data:=.fields #[.ref t,.int 0 0]}
section
variable{prog:Program}{w:World}{A:Around}{E:B6->B7->Prop}{s:B7}
def kT{x:B6}(hit:s.heap.IsTupleIter it t i)(hl:s.heap.IsTuple t xs)(hx:xs[i]?=some x)(q:∀h',h'.IsTupleIter it t (i+1)->Heap.SameBut it s.heap h'->Q x {s with heap:=h'}):wpAny (model prog w) A (Builtin.SmallTypes.nextOf<|.ref it) Q E s:=by
 let⟨o,ho,hc,hd⟩:=id hit;let⟨ol,hol,_,nl,hdl⟩:=hl;unfold Builtin.SmallTypes.nextOf;refine xAd<|wpAny_callSpecial?_slot (name:=Str.ofString "__next__") hit.typeIs PySem.F.slot_tuple_iterator_next<|wpAny_call_entry PySem.F.slot_tuple_iterator_next hit.typeIs PySem.F.entry_tuple_iterator_next ?_<|PySem.F.args_tuple_iterator_next_1 _;change wpAny _ _ (field (.ref it) 0>>=_) _ _ s;refine xAd<|xDa ho hd (x:=.ref t) rfl ?_;change wpAny _ _ (if(Value.ref t==Value.none)=true then _ else _) _ _ s;rw[xCf<|show ¬ ((Value.ref t==Value.none)=true) from xAy];change wpAny _ _ (field (.ref it) 1>>=_) _ _ s;refine xAd<|xDa ho hd (x:=.int i 0) rfl ?_;change wpAny _ _ (seqItems? (.ref t)>>=_) _ _ s;refine xAd<|wpAny_seqItems hol hdl ?_;simp only[xC3,hx];refine xAd<|wpAny_setField ho hd ⋯<|xAe ⟨x,rfl,xAe<|q _ ?_<|Heap.SameBut.update ..⟩;exact⟨_,Heap.get?_update_self _ ho<|Obj.isFreed_of_fields<|Obj.data_mapFields hd _,(Obj.cls_mapFields ..).trans hc,by rw[Obj.data_mapFields hd];simp[rawInt]⟩
def ot(hh:A.handled=none)(hit:s.heap.IsTupleIter it t i)(hl:s.heap.IsTuple t xs)(hx:xs[i]?=none)(q:∀h' e,Heap.ExtBut it s.heap h'->(∃o,h'.get? e=some o/\o.cls=.type "StopIteration")->E (.ref e) {s with heap:=h'}):wpAny (model prog w) A (Builtin.SmallTypes.nextOf<|.ref it) Q E s:=by
 let⟨o,ho,hc,hd⟩:=id hit;let⟨ol,hol,_,nl,hdl⟩:=hl;unfold Builtin.SmallTypes.nextOf;refine xAd<|wpAny_callSpecial?_slot (name:=Str.ofString "__next__") hit.typeIs PySem.F.slot_tuple_iterator_next<|wpAny_call_entry PySem.F.slot_tuple_iterator_next hit.typeIs PySem.F.entry_tuple_iterator_next ?_<|PySem.F.args_tuple_iterator_next_1 _;change wpAny _ _ (field (.ref it) 0>>=_) _ _ s;refine xAd<|xDa ho hd (x:=.ref t) rfl ?_;change wpAny _ _ (if(Value.ref t==Value.none)=true then _ else _) _ _ s;rw[xCf<|show ¬ ((Value.ref t==Value.none)=true) from xAy];change wpAny _ _ (field (.ref it) 1>>=_) _ _ s;refine xAd<|xDa ho hd (x:=.int i 0) rfl ?_;change wpAny _ _ (seqItems? (.ref t)>>=_) _ _ s;refine xAd<|wpAny_seqItems hol hdl ?_;simp only[xC3,hx];refine xAd<|wpAny_rule<|xAd<|wpAny_setField ho hd ⋯ ?_;change wpAny _ _ (newExc (.type "StopIteration") []>>=_) _ _ _;erw[xAd];simp only[newExc,newTuple];erw[<-xAd (xBl ?_<|by size_fits),<-xAd (m:=firstArgMember _ _)<|wpAny_of_eq (a:=Value.none) (by first|rfl|(simp only[firstArgMember];rfl)) ?_,<-xBl ?_ (by size_fits)];simp only[raiseNew];refine xAd<|wpAny_handled ?_;first|rw[show A.in1.handled=none from hh]|rw[hh]
 refine xAd<|xAe<|wpAny_throw ?_;exact q _ _ (((Heap.SameBut.update ..).extBut.push _).push _) ⟨_,xAl _ rfl,rfl⟩
end
def zDf{prog:Program}{w:World}{A:Around}(hh:A.handled=none)(it l:B9)(hne:l≠it)(xs:Array B6) :
  Draws prog w A it [it,l] xs.size (λi v=>xs[i]?=some v) (λi h=>h.IsTupleIter it l i/\h.IsTuple l xs) where
 live:=λ_ _ st=>let ⟨o,ho,_⟩:=st.1;⟨o,ho⟩
 frame:=λ_ _ _ st hk=>⟨st.1.at λo e=>hk it ⋯ o e,st.2.at λo e=>hk l ⋯ o e⟩
 item:=λi s Q E hi st hQ=>by
  refine kT st.1 st.2 (x:=xs[i]) (by simp[hi]) λh' hit' hs'=>?_;exact hQ _ h' s.toks (by simp[hi]) ⟨hit',st.2.extBut hs'.extBut hne⟩ hs'
 done:=λs Q E st hE=>ot hh st.1 st.2 ⋯ hE
end RevA
namespace L2
open PySem PySem.Spec PyProof.Rows
variable{J:Type}
theorem zIs{us:B4 J}(h:us.length=1):∃x0,us=[x0]:=by
 cases us with
 |nil=>cases h
 |cons a r=>
  cases r with
  |nil=>exact⟨a,rfl⟩
  |cons b r=>cases h
theorem zIr{us:B4 J}(h:us.length=2):∃x0 x1,us=[x0,x1]:=by
 cases us with
 |nil=>cases h
 |cons a r=>
  let⟨x1,rfl⟩:=zIs<|Nat.succ.inj h;exact⟨a,x1,rfl⟩
theorem zIq{us:B4 J}(h:us.length=3):∃x0 x1 x2,us=[x0,x1,x2]:=by
 cases us with
 |nil=>cases h
 |cons a r=>
  let⟨x1,x2,rfl⟩:=zIr<|Nat.succ.inj h;exact⟨a,x1,x2,rfl⟩
theorem zIp{us:B4 J}(h:us.length=4):∃x0 x1 x2 x3,us=[x0,x1,x2,x3]:=by
 cases us with
 |nil=>cases h
 |cons a r=>
  let⟨x1,x2,x3,rfl⟩:=zIq<|Nat.succ.inj h;exact⟨a,x1,x2,x3,rfl⟩
theorem zIo{us:B4 J}(h:us.length=5):∃x0 x1 x2 x3 x4,us=[x0,x1,x2,x3,x4]:=by
 cases us with
 |nil=>cases h
 |cons a r=>
  let⟨x1,x2,x3,x4,rfl⟩:=zIp<|Nat.succ.inj h;exact⟨a,x1,x2,x3,x4,rfl⟩
theorem zJy{us:B4 J}(h:us.length=6):∃x0 x1 x2 x3 x4 x5,us=[x0,x1,x2,x3,x4,x5]:=by
 cases us with
 |nil=>cases h
 |cons a r=>
  let⟨x1,x2,x3,x4,x5,rfl⟩:=zIo<|Nat.succ.inj h;exact⟨a,x1,x2,x3,x4,x5,rfl⟩
end L2
namespace L2
open PySem PySem.Spec PyProof.Rows SetA
def zDx:C6->Hp->VK->Prop:=λxs H Q=>∃d kvs,xs=[.ref d]/\Rd H d (.dK kvs)/\∀p,H p=none->Q (.ref p) (upd H p<|.dK kvs)
section
variable{X:Cx}{e tg o:B8}{te td:TE}{apos cpos:Pos}
def rT:zAn X (.type "dict") zDx:=by
 intro Z s O H xs us Q I r h;let⟨d,kvs,rfl,hd,q⟩:=h;let⟨u,rfl,ru⟩:=zBe r;obtain rfl:u=Value.ref d:=ru;exact rP I hd λp s' hp I'=>⟨.ref p,_,I',rfl,q p hp⟩
end
end L2
namespace Fx
open PySem L2
set_option genInjectivity true in
inductive U where
 |non|bl (b:Bool)|int (i:Int)|str (x:Str)|tup (xs:List U)|lst (xs:List U)|kt (xs:List U)|kl (xs:List U)|kd (kvs:List (Str×U)) (no:List Str)|ref (a:Nat)|ty (n:String)|gl (x:Str)
instance:Inhabited U:=⟨.non⟩
abbrev C3:=B4 U
inductive Ob where
 |lst (xs:List U)|dct (kvs:List (Key×U))|dtt (kvs:List (List Key×U))|ins (C:Str) (fs:List (Str×U))|dead
instance:Inhabited Ob:=⟨.dead⟩
noncomputable abbrev So:=B4 Ob
structure Xc where
 cls:Str
 fs:B4 (Str×U)
set_option genInjectivity true in
inductive Res where
 |ok (v:U) (S:So)|stuck
inductive Pm where
 |add (m:Bool)|sub|mul|fdiv|mod|pow|neg
 |eq|ne|lt|le|gt|ge|isN|notN|inn|nin
 |ix|sl (m a b:Bool)|tru|len|isT (n:String)|isC (C:Str)|abs|max|min|int1|str1
 |lst (m:Bool)|dct (ks:List Str)|tupOf|lstOf (m:Bool)|dctOf|lenset|all|any
 |app|pop|ext|get1|get2|join
 |typ (T:String)|fld (f:Str)|setf (f:Str)|seti|cls (C m:Str)|unp (n:Nat)|new (C:Str)
 |rng1|rng2|rng3|zip|enm|rev|seq|fnOf|frz|sortS|dctT|srt|lrng|enm2|thw|upd
noncomputable def nth:B4 (B5 U)->Nat->B5 U
 |[],_=>none
 |v::_,0=>v
 |_::r,i+1=>nth r i
noncomputable def put:B4 (B5 U)->Nat->U->B4 (B5 U)
 |[],_,_=>[]
 |_::r,0,v=>some v::r
 |o::r,i+1,v=>o::put r i v
def puts:B4 (B5 U)->C4->C3->B4 (B5 U)
 |O,i::is,v::vs=>puts (put O i v) is vs
 |O,_,_=>O
noncomputable def at?{J:Type}:B4 J->Nat->B5 J
 |[],_=>none
 |v::_,0=>some v
 |_::r,i+1=>at? r i
noncomputable def set{J:Type}:B4 J->Nat->J->B4 J
 |[],_,_=>[]
 |_::r,0,v=>v::r
 |o::r,i+1,v=>o::set r i v
def lsU(S:So):U->B5 (C3)
 |.lst xs=>some xs
 |.kl xs=>some xs
 |.ref a=>match at? S a with
  |some (.lst xs)=>some xs
  |_=>none
 |_=>none
def lsT(S:So):U->B5 (C3)
 |.lst xs=>some xs
 |.ref a=>match at? S a with
  |some (.lst xs)=>some xs
  |_=>none
 |_=>none
def sqU(S:So):U->B5 (C3)
 |.tup xs=>some xs
 |.kt xs=>some xs
 |u=>lsU S u
noncomputable def sqF:U->B5 (C3)
 |.tup xs=>some xs
 |.kt xs=>some xs
 |.lst xs=>some xs
 |.kl xs=>some xs
 |_=>none
noncomputable def mkL(m:B')(xs:C3)(S:So):Res:=match m with
 |true=>.ok (.ref S.length)<|S++[.lst xs]
 |false=>.ok (.lst xs) S
noncomputable def fits(n:Nat)(r:Res):Res:=match Nat.ble n sizeLine with
 |true=>r
 |false=>.stuck
noncomputable def zAv{J:Type}(f:Str):B4 (Str×J)->B5 J
 |[]=>none
 |(g,v)::r=>if f=g then some v else zAv f r
def putF(f:Str)(v:U):B4 (Str×U)->B4 (Str×U)
 |[]=>[(f,v)]
 |(g,u)::r=>if g=f then(g,v)::r else(g,u)::putF f v r
noncomputable def zAq{κ:Type} [DecidableEq κ] (k:κ):B4 (κ×U)->B5 U
 |[]=>none
 |(g,v)::r=>if g=k then some v else zAq k r
noncomputable def putK{κ:Type} [DecidableEq κ] (k:κ) (v:U) (kvs:B4<|κ×U):B4<|κ×U:=if(kvs.any λkv=>decide<|kv.1=k)=true then kvs.map (λkv=>if kv.1=k then(kv.1,v) else kv) else kvs++[(k,v)]
noncomputable def zEr:U->B5 Key
 |.int i=>some<|.inl i
 |.str x=>some<|.inr x
 |_=>none
def zEd:C3->B5 (B4 Key)
 |[]=>some []
 |u::r=>(zEr u).bind λk=>(zEd r).map (k::·)
def zGj:U->B5 (B4 Key)
 |.tup xs=>zEd xs
 |_=>none
inductive Sc where
 |non|int (i:Int)|bl (b:Bool)|str (x:Str)
noncomputable def Sc.u:Sc->U
 |.non=>.non
 |.int i=>.int i
 |.bl b=>.bl b
 |.str x=>.str x
noncomputable def sc:U->B5 Sc
 |.non=>some .non
 |.int i=>some<|.int i
 |.bl b=>some<|.bl b
 |.str x=>some<|.str x
 |_=>none
def zg{u:U}{a:Sc}(h:sc u=some a):u=a.u:=by unfold sc at h;split at h <;> cases h <;> rfl
noncomputable def Sc.eq:Sc->Sc->B5 B'
 |.non,b=>match b with
  |.non=>some true
  |_=>some false
 |.int i,b=>match b with
  |.int j=>some<|decide<|i=j
  |.bl _=>none
  |_=>some false
 |.bl i,b=>match b with
  |.bl j=>some<|decide<|i=j
  |.int _=>none
  |_=>some false
 |.str i,b=>match b with
  |.str j=>some<|decide<|i=j
  |_=>some false
def eqS(x y:U):B5 B':=(sc x).bind λa=>(sc y).bind λb=>a.eq b
noncomputable def zAs:U->B'
 |.non=>true
 |.bl _=>true
 |.int _=>true
 |.str _=>true
 |_=>false
noncomputable def eqF:U->U->B'
 |.non,.non=>true
 |.bl a,.bl b=>a==b
 |.bl a,.int b=>(if a then 1 else 0)==b
 |.int a,.bl b=>a==(if b then 1 else 0)
 |.int a,.int b=>a==b
 |.str a,.str b=>a==b
 |_,_=>false
noncomputable def zA9{J:Type}(f:J->J->B'):B4 J->B4 J->B'
 |[],[]=>true
 |x::xs,y::ys=>f x y&&zA9 f xs ys
 |_,_=>false
def same(S:So):Nat->U->U->B'
 |0,x,y=>zAs x&&zAs y&&eqS x y==some true
 |n+1,x,y=>match x,y with
  |.tup xs,.tup ys=>zA9 (same S n) xs ys
  |x,y=>match lsT S x,lsT S y with
   |some xs,some ys=>zA9 (same S n) xs ys
   |_,_=>zAs x&&zAs y&&eqS x y==some true
def zA7(x:U):C3->B'
 |[]=>false
 |y::ys=>eqF y x||zA7 x ys
def inU(S:So)(x y:U):B5 B':=match y with
 |.str j=>match x with
  |.str i=>some (!(Builtin.Str.occurrences j i 0 j.length 1).isEmpty)
  |_=>none
 |.ref a=>match at? S a with
  |some (.dct kvs)=>(zEr x).map λk=>(zAq k kvs).isSome
  |some (.dtt kvs)=>(zGj x).map λk=>(zAq k kvs).isSome
  |some (.lst xs)=>if zAs x&&xs.all zAs then some (zA7 x xs) else none
  |_=>none
 |y=>match sqU S y with
  |some xs=>if zAs x&&xs.all zAs then some (zA7 x xs) else none
  |none=>none
noncomputable def obB(o:B5 B')(f:B'->B')(S:So):Res:=match o with
 |some b=>.ok (.bl<|f b) S
 |none=>.stuck
noncomputable def i2(f:Int->Int->U)(S:So):C3->Res
 |[.int i,.int j]=>.ok (f i j) S
 |_=>.stuck
def zDl(xs:C3)(lo hi:B5 Int):C3:=(xs.drop<|HT.sIx xs.length 0 lo).take<|HT.sIx xs.length xs.length hi-HT.sIx xs.length 0 lo
def slice(m:B')(x:U)(lo hi:B5 Int)(S:So):Res:=match x with
 |.tup xs=>match decide (HT.sIx xs.length 0 lo=0/\HT.sIx xs.length xs.length hi=xs.length) with
  |true=>.ok (.tup xs) S
  |false=>.ok (.tup<|zDl xs lo hi) S
 |x=>match lsU S x with
  |some xs=>mkL m (zDl xs lo hi) S
  |none=>.stuck
def zGt(S:So):U->B5 B'
 |.bl b=>some b
 |.ref a=>match at? S a with
  |some (.lst xs)=>some (!xs.isEmpty)
  |_=>none
 |_=>none
noncomputable def isC(up:B4<|Str×Str)(C D:Str):B':=decide (C=D)||up.any λp=>decide (p.1=C)&&decide (p.2=D)
def tyU(S:So):U->B5 String
 |.non=>some "NoneType"
 |.bl _=>some "bool"
 |.int _=>some "int"
 |.str _=>some "str"
 |.tup _=>some "tuple"
 |.lst _=>some "list"
 |.ref a=>match at? S a with
  |some (.lst _)=>some "list"
  |some (.dct _)=>some "dict"
  |some (.ins _ _)=>some "object"
  |_=>none
 |_=>none
noncomputable def zFs(t n:String):B':=(t==n)||(t == "bool" && n == "int")
noncomputable def zCu:C3->B5 (C0)
 |[]=>some []
 |.str x::r=>(zCu r).map (x::·)
 |_=>none
noncomputable def blL:C3->B5 (B4 B')
 |[]=>some []
 |.bl x::r=>(blL r).map (x::·)
 |_=>none
noncomputable def zBt(lo:Int):Nat->C3
 |0=>[]
 |n+1=>.int lo::zBt (lo+1) n
noncomputable def zBl:C3->C3->C3
 |x::xs,y::ys=>.tup [x,y]::zBl xs ys
 |_,_=>[]
noncomputable def zGn:C0->C3->B4 (Key×U)
 |k::ks,v::vs=>(.inr k,v)::zGn ks vs
 |_,_=>[]
def zHw(m:B')(a b:U)(S:So):Res:=match a,b with
 |.int i,.int j=>.ok (.int<|i+j) S
 |.tup xs,.tup ys=>fits (xs.length+ys.length)<|.ok (.tup<|xs++ys) S
 |a,b=>match lsT S a,lsT S b with
  |some xs,some ys=>fits (xs.length+ys.length)<|mkL m (xs++ys) S
  |_,_=>.stuck
noncomputable def zEm:B5 (C3)->B5 (C3)->B'
 |some xs,some ys=>!Nat.beq xs.length ys.length
 |_,_=>false
def neU(a b:U)(S:So):Res:=match eqS a b with
 |some c=>.ok (.bl<|not c) S
 |none=>match zEm (lsT S a) (lsT S b) with
  |true=>.ok (.bl true) S
  |false=>match same S 80 a b with
   |true=>.ok (.bl false) S
   |false=>.stuck
def eqU(f:B'->B')(a b:U)(S:So):Res:=match eqS a b with
 |some c=>.ok (.bl<|f c) S
 |none=>match zEm (lsT S a) (lsT S b) with
  |true=>.ok (.bl<|f false) S
  |false=>match same S 80 a b with
   |true=>.ok (.bl<|f true) S
   |false=>.stuck
noncomputable def opt(o:B5 U)(S:So):Res:=match o with
 |some v=>.ok v S
 |none=>.stuck
def ixU(a b:U)(S:So):Res:=match a with
 |.kd kvs _=>match b with
  |.str x=>opt (zAv x kvs) S
  |_=>.stuck
 |.str z=>match b with
  |.int i=>match atI z.cps.toList i with
   |some c=>fits z.length<|.ok (.str ⟨#[c]⟩) S
   |none=>.stuck
  |_=>.stuck
 |.ref p=>match at? S p with
  |some (.dct kvs)=>match zEr b with
   |some k=>opt (zAq k kvs) S
   |none=>.stuck
  |some (.lst xs)=>match b with
   |.int i=>opt (atI xs i) S
   |_=>.stuck
  |_=>.stuck
 |a=>match sqU S a with
  |some xs=>match b with
   |.int i=>opt (atI xs i) S
   |_=>.stuck
  |none=>.stuck
def zEb(a:U)(S:So):Res:=match a with
 |.str x=>fits x.length<|.ok (.int x.length) S
 |.ref p=>match at? S p with
  |some (.lst xs)=>.ok (.int xs.length) S
  |some (.dct kvs)=>.ok (.int kvs.length) S
  |_=>.stuck
 |a=>match sqU S a with
  |some xs=>.ok (.int xs.length) S
  |none=>.stuck
def zJ3(D:Str)(a:U)(S:So)(up:B4<|Str×Str):Res:=match a with
 |.ref p=>match at? S p with
  |some (.ins C _)=>.ok (.bl<|isC up C D) S
  |some (.lst _)=>.ok (.bl false) S
  |some (.dct _)=>.ok (.bl false) S
  |_=>.stuck
 |a=>match tyU S a with
  |some _=>.ok (.bl false) S
  |none=>.stuck
def zA0(a:U)(S:So):Res:=match a with
 |.tup xs=>.ok (.tup xs) S
 |a=>match lsU S a with
  |some xs=>.ok (.tup xs) S
  |none=>.stuck
def zBg(p:Nat)(k v:U)(S:So):Res:=match at? S p with
 |some (.dct kvs)=>match zEr k with
  |some k=>fits (kvs.length+1)<|.ok .non<|set S p<|.dct<|putK k v kvs
  |none=>.stuck
 |some (.dtt kvs)=>match zGj k with
  |some k=>fits (kvs.length+1)<|.ok .non<|set S p<|.dtt<|putK k v kvs
  |none=>.stuck
 |some (.lst xs)=>match k with
  |.int i=>match decide (0<=i/\i<xs.length) with
   |true=>.ok .non<|set S p<|.lst<|set xs i.toNat v
   |false=>.stuck
  |_=>.stuck
 |_=>.stuck
def zE8(f:C3->U)(a:U)(S:So):Res:=match a with
 |.str x=>.ok (f<|x.cps.toList.map λc=>.str ⟨#[c]⟩) S
 |.ref p=>match at? S p with
  |some (.lst xs)=>.ok (f xs)<|set S p .dead
  |_=>.stuck
 |a=>match sqU S a with
  |some xs=>.ok (f xs) S
  |none=>.stuck
def zCv(p:Nat)(S:So)(f:Str->B4 (Str×U)->Res):Res:=match at? S p with
 |some (.ins C fs)=>f C fs
 |_=>.stuck
def zCk(p:Nat)(S:So)(f:C3->Res):Res:=match at? S p with
 |some (.lst xs)=>f xs
 |_=>.stuck
def zE7:U->B5 Str
 |.str x=>some x
 |_=>none
def vZ{u:U}{x:Str}(h:zE7 u=some x):u=.str x:=by unfold zE7 at h;split at h <;> cases h;rfl
noncomputable def zCs(i:Int):C3->C3
 |[]=>[]
 |x::xs=>.tup [.int i,x]::zCs (i+1) xs
noncomputable def zDd:C3->B5 (C5)
 |[]=>some []
 |.int i::r=>(zDd r).map (i::·)
 |_=>none
noncomputable def zFr:B4 (Key×U)->B5 (C5)
 |[]=>some []
 |(.inl i,_)::r=>(zFr r).map (i::·)
 |_=>none
def zDq(S:So)(a:U):B5<|C5:=match lsT S a with
 |some xs=>zDd xs
 |none=>match a with
  |.ref p=>match at? S p with
   |some (.dct kvs)=>zFr kvs
   |_=>none
  |_=>none
noncomputable def zEs(i:Int):C5->C5
 |[]=>[i]
 |j::r=>if i<=j then i::j::r else j::zEs i r
def zCq:C5->C5
 |[]=>[]
 |i::r=>zEs i<|zCq r
variable(up:B4<|Str×Str)
def pr:Pm->C3->So->Res
 |.add m,as,S=>match as with
  |[a,b]=>zHw m a b S
  |_=>.stuck
 |.sub,as,S=>i2 (λi j=>.int<|i-j) S as
 |.mul,as,S=>match as with
  |[.int i,.int j]=>match decide (i.natAbs<2^150/\j.natAbs<2^150\/j.natAbs<2^60\/i.natAbs<2^60) with
   |true=>.ok (.int<|i*j) S
   |false=>.stuck
  |_=>.stuck
 |.fdiv,as,S=>match as with
  |[.int i,.int j]=>match decide (0<j/\j<=10^18) with
   |true=>.ok (.int<|i / j) S
   |false=>.stuck
  |_=>.stuck
 |.mod,as,S=>match as with
  |[.int i,.int j]=>match decide (0<j) with
   |true=>.ok (.int<|i%j) S
   |false=>.stuck
  |_=>.stuck
 |.pow,as,S=>match as with
  |[.int i,.int j]=>match decide (0<=j/\j<=1000/\i.natAbs<2^60) with
   |true=>.ok (.int<|i^j.toNat) S
   |false=>.stuck
  |_=>.stuck
 |.neg,as,S=>match as with
  |[.int i]=>.ok (.int (-i)) S
  |_=>.stuck
 |.eq,as,S=>match as with
  |[a,b]=>eqU id a b S
  |_=>.stuck
 |.ne,as,S=>match as with
  |[a,b]=>neU a b S
  |_=>.stuck
 |.lt,as,S=>i2 (λi j=>.bl<|decide<|i<j) S as
 |.le,as,S=>i2 (λi j=>.bl<|decide<|i<=j) S as
 |.gt,as,S=>i2 (λi j=>.bl<|decide<|j<i) S as
 |.ge,as,S=>i2 (λi j=>.bl<|decide<|j<=i) S as
 |.isN,as,S=>match as with
  |[a]=>.ok (.bl<|match a with|.non=>true|_=>false) S
  |_=>.stuck
 |.notN,as,S=>match as with
  |[a]=>.ok (.bl<|match a with|.non=>false|_=>true) S
  |_=>.stuck
 |.inn,as,S=>match as with
  |[a,b]=>obB (inU S a b) id S
  |_=>.stuck
 |.nin,as,S=>match as with
  |[a,b]=>obB (inU S a b) not S
  |_=>.stuck
 |.ix,as,S=>match as with
  |[a,b]=>ixU a b S
  |_=>.stuck
 |.sl m l h,as,S=>match l,h,as with
  |true,true,[x,.int i,.int j]=>slice m x (some i) (some j) S
  |true,false,[x,.int i]=>slice m x (some i) none S
  |false,true,[x,.int j]=>slice m x none (some j) S
  |_,_,_=>.stuck
 |.tru,as,S=>match as with
  |[a]=>obB (zGt S a) id S
  |_=>.stuck
 |.len,as,S=>match as with
  |[a]=>zEb a S
  |_=>.stuck
 |.isT n,as,S=>match as with
  |[a]=>match tyU S a with
   |some t=>.ok (.bl<|zFs t n) S
   |none=>.stuck
  |_=>.stuck
 |.isC D,as,S=>match as with
  |[a]=>zJ3 D a S up
  |_=>.stuck
 |.abs,as,S=>match as with
  |[.int i]=>.ok (.int<|if i<0 then -i else i) S
  |_=>.stuck
 |.max,as,S=>i2 (λi j=>.int<|if j>i then j else i) S as
 |.min,as,S=>i2 (λi j=>.int<|if j<i then j else i) S as
 |.int1,as,S=>match as with
  |[a]=>match a with
   |.int i=>.ok (.int i) S
   |.bl b=>.ok (.int<|if b then 1 else 0) S
   |_=>.stuck
  |_=>.stuck
 |.lst m,as,S=>fits as.length<|mkL m as S
 |.dct ks,as,S=>match Nat.beq ks.length as.length with
  |true=>.ok (.ref S.length)<|S++[.dct<|zGn ks as]
  |false=>.stuck
 |.tupOf,as,S=>match as with
  |[a]=>zA0 a S
  |_=>.stuck
 |.lstOf m,as,S=>match as with
  |[a]=>match sqU S a with
   |some xs=>mkL m xs S
   |none=>.stuck
  |_=>.stuck
 |.dctOf,as,S=>match as with
  |[.ref p]=>match at? S p with
   |some (.dct kvs)=>.ok (.ref S.length)<|S++[.dct kvs]
   |_=>.stuck
  |_=>.stuck
 |.lenset,as,S=>match as with
  |[.tup xs]=>match zCu xs with
   |some ws=>match decide (ws.length<=4/\ws.Nodup) with
    |true=>.ok (.int ws.length) S
    |false=>.stuck
   |none=>.stuck
  |_=>.stuck
 |.all,as,S=>match as with
  |[.lst xs]=>match blL xs with
   |some bs=>.ok (.bl<|bs.all id) S
   |none=>.stuck
  |_=>.stuck
 |.app,as,S=>match as with
  |[.ref p,v]=>zCk p S λxs=>fits (xs.length+1)<|.ok .non<|set S p<|.lst<|xs++[v]
  |_=>.stuck
 |.get1,as,S=>match as with
  |[.kd kvs _,.str x]=>opt (zAv x kvs) S
  |_=>.stuck
 |.get2,as,S=>match as with
  |[.kd kvs no,.str x,d]=>match zAv x kvs with
   |some v=>.ok v S
   |none=>match no.any λy=>decide (y=x) with
    |true=>.ok d S
    |false=>.stuck
  |_=>.stuck
 |.join,as,S=>match as with
  |[a,b]=>match zE7 a,lsT S b with
   |some s,some xs=>match zCu xs with
    |some ws=>match decide ((ws.map (·.length)).sum+ws.length*s.length<=16777216) with
     |true=>.ok (.str<|Builtin.Str.glued s ws) S
     |false=>.stuck
    |none=>.stuck
   |_,_=>.stuck
  |_=>.stuck
 |.ext,as,S=>match as with
  |[.ref p,b]=>zCk p S λxs=>match lsT S b with
   |some ys=>fits (xs.length+ys.length)<|.ok .non<|set S p<|.lst<|xs++ys
   |none=>.stuck
  |_=>.stuck
 |.thw,as,S=>match as with
  |[.lst xs]=>.ok (.ref S.length)<|S++[.lst xs]
  |_=>.stuck
 |.dctT,as,S=>match as with
  |[]=>.ok (.ref S.length)<|S++[.dtt []]
  |_=>.stuck
 |.srt,as,S=>match as with
  |[a]=>match zDq S a with
   |some ns=>match decide (ns.length<64) with
    |true=>.ok (.lst<|(zCq ns).map .int) S
    |false=>.stuck
   |none=>.stuck
  |_=>.stuck
 |.lrng,as,S=>match as with
  |[.int i,.int j]=>match decide (0<=i/\i<=j/\j<=100000) with
   |true=>.ok (.lst<|zBt i (j-i).toNat) S
   |false=>.stuck
  |_=>.stuck
 |.enm2,as,S=>match as with
  |[a]=>match a with
   |.tup xs=>.ok (.tup<|zCs 2 xs) S
   |.kt xs=>.ok (.tup<|zCs 2 xs) S
   |_=>.stuck
  |_=>.stuck
 |.fld f,as,S=>match as with
  |[.ref p]=>zCv p S λ_ fs=>opt (zAv f fs) S
  |_=>.stuck
 |.setf f,as,S=>match as with
  |[.ref p,v]=>zCv p S λC fs=>match Nat.ble fs.length 900 with
   |true=>.ok .non<|set S p<|.ins C<|putF f v fs
   |false=>.stuck
  |_=>.stuck
 |.typ T,as,S=>match as with
  |[a]=>match tyU S a with
   |some t=>match t==T with
    |true=>.ok a S
    |false=>.stuck
   |none=>.stuck
  |_=>.stuck
 |.seti,as,S=>match as with
  |[.ref p,k,v]=>zBg p k v S
  |_=>.stuck
 |.cls C m,as,S=>match as with
  |[.ref p]=>zCv p S λD fs=>match decide (C=D) with
   |true=>match zAv m fs with
    |none=>.ok (.ref p) S
    |some _=>.stuck
   |false=>.stuck
  |_=>.stuck
 |.unp n,as,S=>match as with
  |[a]=>match sqU S a with
   |some xs=>match Nat.beq xs.length n with
    |true=>.ok (.tup xs) S
    |false=>.stuck
   |none=>.stuck
  |_=>.stuck
 |.new C,as,S=>match as with
  |[]=>.ok (.ref S.length)<|S++[.ins C []]
  |_=>.stuck
 |.rng1,as,S=>match as with
  |[.int j]=>match decide (-(2^62)<=j/\j<2^62) with
   |true=>.ok (.tup<|zBt 0 j.toNat) S
   |false=>.stuck
  |_=>.stuck
 |.zip,as,S=>match as with
  |[a,b]=>match sqF a,sqF b with
   |some xs,some ys=>match Nat.beq xs.length ys.length with
    |true=>.ok (.tup<|zBl xs ys) S
    |false=>.stuck
   |_,_=>.stuck
  |_=>.stuck
 |.seq,as,S=>match as with
  |[a]=>zE8 .tup a S
  |_=>.stuck
 |.frz,as,S=>match as with
  |[.ref p]=>zCk p S λxs=>.ok (.lst xs)<|set S p .dead
  |_=>.stuck
 |_,_,_=>.stuck
noncomputable abbrev Sg:=B4<|B5 U
noncomputable abbrev Kx(J:Type):=Xc->So->J
abbrev D3:=Kx Prop
noncomputable abbrev Kv(J:Type):=U->So->J
abbrev D0:=Kv Prop
structure Gx(J:Type) where
 fail:J
 fuel:Nat
 prim:Pm->C3->So->Kx J->Kv J->J
 call:Nat->C3->So->Kx J->Kv J->J
 br:B'->(Unit->J)->(Unit->J)->J
abbrev D4:=Gx Prop
structure Ee(J:Type) where
 nx:Sg->So->J
 rt:Kv J
 bk:Sg->So->J
 ct:Sg->So->J
 x:Xc->Sg->So->J
noncomputable abbrev TEx(J:Type):=Gx J->Sg->So->Kx J->Kv J->J
abbrev C9:=TEx Prop
noncomputable abbrev TTx(J:Type):=Gx J->Sg->So->Kx J->(B'->So->J)->J
noncomputable abbrev TAx(J:Type):=Gx J->Sg->So->Kx J->(C3->So->J)->J
abbrev D5:=TAx Prop
noncomputable abbrev TSx(J:Type):=Gx J->Sg->So->Ee J->J
abbrev C8:=TSx Prop
section
variable{J:Type}
def cV(i:Nat):TEx J:=λG O S _ k=>match nth O i with
 |some v=>k v S
 |none=>G.fail
def cC(u:U):TEx J:=λ_ _ S _ k=>k u S
def aN:TAx J:=λ_ _ S _ k=>k [] S
def aC(e:TEx J)(r:TAx J):TAx J:=λG O S x k=>e G O S x λv S1=>r G O S1 x λvs S2=>k (v::vs) S2
def cP(p:Pm)(as:TAx J):TEx J:=λG O S x k=>as G O S x λvs S1=>G.prim p vs S1 x k
def cT(as:TAx J):TEx J:=λG O S x k=>as G O S x λvs S1=>k (.tup vs) S1
def cF(i:Nat)(as:TAx J)(ds:C3):TEx J:=λG O S x k=>as G O S x λvs S1=>G.call i (vs++ds) S1 x k
def cM(C m:Str)(i:Nat)(o:TEx J)(as:TAx J)(ds:C3):TEx J:=λG O S x k=>o G O S x λv S1=>G.prim (.cls C m) [v] S1 x λw S2=>as G O S2 x λvs S3=>G.call i (w::(vs++ds)) S3 x k
def cK(C:Str)(i:Nat)(as:TAx J)(ds:C3):TEx J:=λG O S x k=>as G O S x λvs S1=>G.prim (.new C) [] S1 x λw S2=>G.call i (w::(vs++ds)) S2 (λ_ _=>G.fail) λr S3=>match r with
 |.non=>k w S3
 |_=>G.fail
def cBM(T:String)(p:Pm)(o:TEx J)(as:TAx J):TEx J:=λG O S x k=>o G O S x λv S1=>G.prim (.typ T) [v] S1 x λw S2=>as G O S2 x λvs S3=>G.prim p (w::vs) S3 x k
def tB(e:TEx J):TTx J:=λG O S x k=>e G O S x λv S1=>match v with
 |.bl b=>k b S1
 |_=>G.fail
def tNt(t:TTx J):TTx J:=λG O S x k=>t G O S x λb S1=>k (!b) S1
def tAn(t u:TTx J):TTx J:=λG O S x k=>t G O S x λb S1=>G.br b (λ_=>u G O S1 x k) λ_=>k false S1
def tOr'(t u:TTx J):TTx J:=λG O S x k=>t G O S x λb S1=>G.br b (λ_=>k true S1) λ_=>u G O S1 x k
def cB(t:TTx J):TEx J:=λG O S x k=>t G O S x λb S1=>k (.bl b) S1
def cIf(t:TTx J)(a b:TEx J):TEx J:=λG O S x k=>t G O S x λc S1=>G.br c (λ_=>a G O S1 x k) λ_=>b G O S1 x k
def tCh(p q:Pm)(a b c:TEx J):TTx J:=λG O S x k=>a G O S x λv S1=>b G O S1 x λw S2=>G.prim p [v,w] S2 x λr S3=>match r with
 | .bl d=>G.br d (λ_=>c G O S3 x λz S4=>G.prim q [w,z] S4 x λr2 S5=>match r2 with
  |.bl d2=>k d2 S5
  |_=>G.fail) λ_=>k false S3
 |_=>G.fail
noncomputable def zAw:C3->(U->Sg->So->(Sg->So->J)->J)->Sg->So->(Sg->So->J)->J
 |[],_,O,S,k=>k O S
 |v::vs,b,O,S,k=>b v O S λσ1 S1=>zAw vs b σ1 S1 k
noncomputable def whK(t:Sg->So->(B'->So->J)->J)(b:Sg->So->(Sg->So->J)->J)(br:B'->(Unit->J)->(Unit->J)->J)(fail:J):Nat->Sg->So->(Sg->So->J)->J
 |0,_,_,_=>fail
 |n+1,O,S,k=>t O S λc S1=>br c (λ_=>b O S1 λσ2 S2=>whK t b br fail n σ2 S2 k) λ_=>k O S1
def tgt(is:C4)(one:B')(G:Gx J)(v:U)(O:Sg)(k:Sg->J):J:=match one with
 |true=>k<|puts O is [v]
 |false=>match v with
  |.tup vs=>match Nat.beq vs.length is.length with
   |true=>k<|puts O is vs
   |false=>G.fail
  |_=>G.fail
def lcK(G:Gx J)(b:U->So->(B5 U->So->J)->J):C3->C3->So->Kv J->J
 |[],ys,S,k=>k (.lst ys) S
 |v::vs,ys,S,k=>b v S λo S1=>match o with
  |some u=>lcK G b vs (ys++[u]) S1 k
  |none=>lcK G b vs ys S1 k
def lcB(is:C4)(one:B')(O:Sg)(t:B5<|TTx J)(e:TEx J)(G:Gx J):U->So->(B5 U->So->J)->J:=λw S2 nx=>tgt is one G w O λσ1=>match t with
 |none=>e G σ1 S2 (λ_ _=>G.fail) λu S3=>nx (some u) S3
 |some t=>t G σ1 S2 (λ_ _=>G.fail) λb S3=>G.br b (λ_=>e G σ1 S3 (λ_ _=>G.fail) λu S4=>nx (some u) S4) λ_=>nx none S3
def cL(it:TEx J)(is:C4)(one:B')(n:Nat)(cs:C4)(t:B5<|TTx J)(e:TEx J):TEx J:=λG O S x k=>it G O S x λv S1=>match v with
 |.tup vs=>G.br (Nat.ble vs.length sizeLine) (λ_=>lcK G (lcB is one (List.replicate n none++cs.map (nth O)) t e G) vs [] S1 k) λ_=>G.fail
 |_=>G.fail
def zGe(m:B')(t:TEx J):TEx J:=match m with
 |true=>cP .thw<|aC t aN
 |false=>t
def sN:TSx J:=λ_ O S E=>E.nx O S
noncomputable abbrev sqE(E:Ee J)(nx:Sg->So->J):Ee J:={E with nx:=nx}
noncomputable abbrev lpE(E:Ee J)(nx:Sg->So->J):Ee J:={E with nx:=nx,ct:=nx,bk:=E.nx}
def sQ(t u:TSx J):TSx J:=λG O S E=>t G O S<|sqE E λσ1 S1=>u G σ1 S1 E
def sA(i:Nat)(e:TEx J):TSx J:=λG O S E=>e G O S (λx S1=>E.x x O S1) λv S1=>E.nx (put O i v) S1
def sU(is:C4)(e:TEx J):TSx J:=λG O S E=>e G O S (λx S1=>E.x x O S1) λv S1=>G.prim (.unp is.length) [v] S1 (λx S1=>E.x x O S1) λw S2=>match w with
 |.tup vs=>E.nx (puts O is vs) S2
 |_=>G.fail
def sPr(i j:Nat)(a b:TEx J):TSx J:=λG O S E=>a G O S (λx S1=>E.x x O S1) λv S1=>b G O S1 (λx S1=>E.x x O S1) λw S2=>E.nx (put (put O i v) j w) S2
def sE(e:TEx J):TSx J:=λG O S E=>e G O S (λx S1=>E.x x O S1) λ_ S1=>E.nx O S1
def sR(e:TEx J):TSx J:=λG O S E=>e G O S (λx S1=>E.x x O S1) E.rt
def sI(t:TTx J)(a b:TSx J):TSx J:=λG O S E=>t G O S (λx S1=>E.x x O S1) λc S1=>G.br c (λ_=>a G O S1 E) λ_=>b G O S1 E
def sP(p:Pm)(e:TEx J)(os:TAx J):TSx J:=λG O S E=>e G O S (λx S1=>E.x x O S1) λv S1=>os G O S1 (λx S1=>E.x x O S1) λws S2=>G.prim p (ws++[v]) S2 (λx S1=>E.x x O S1) λ_ S3=>E.nx O S3
def sF(it:TEx J)(is:C4)(one:B')(b:TSx J):TSx J:=λG O S E=>it G O S (λx S1=>E.x x O S1) λv S1=>match v with
 |.tup vs=>zAw vs (λw σ1 S2 nx=>tgt is one G w σ1 λσ2=>b G σ2 S2<|lpE E nx) O S1 E.nx
 |_=>G.fail
def zD3(is js:C4)(G:Gx J)(v:U)(O:Sg)(k:Sg->J):J:=match v with
 |.tup vs=>match vs with
  |[a,b]=>tgt is false G a O λσ1=>tgt js false G b σ1 k
  |_=>G.fail
 |_=>G.fail
def sF2(it:TEx J)(is js:C4)(b:TSx J):TSx J:=λG O S E=>it G O S (λx S1=>E.x x O S1) λv S1=>match v with
 |.tup vs=>zAw vs (λw σ1 S2 nx=>zD3 is js G w σ1 λσ2=>b G σ2 S2<|lpE E nx) O S1 E.nx
 |_=>G.fail
def sW(t:TTx J)(b:TSx J):TSx J:=λG O S E=>whK (λσ1 S1 k=>t G σ1 S1 (λx S2=>E.x x σ1 S2) k) (λσ1 S1 nx=>b G σ1 S1<|lpE E nx) G.br G.fail G.fuel O S E.nx
end
def zAx{J:Type}(a b:TEx J):TAx J:=aC a<|aC b aN
noncomputable def zBa:C0->B'
 |[]=>true
 |x::r=>!(r.any λy=>decide<|y=x)&&zBa r
end Fx
namespace Fx
open PySem PySem.Spec L2
variable{W':Wd}{vs:B4 V}{v:V}{o h:HO}{a i n:Nat}{l:B4<|B9×HO}{S:So}{x:D3}{k:D0}{b:B'}{q:Unit->Prop}{e:C9}{as:D5}{ds:C3}{C:Str}{t:TTx Prop}{E E':Ee Prop}{nx':Sg->So->Prop}{is:C4}{O:Sg}{k':Sg->Prop}
structure Bs where
 K:xFr
 mg:Str->B5 B6
 kd:B9->B4 (Str×U)->C0->Prop
 cl:Str->B9->Prop
structure Wd where
 F:Hp
 μ:B4 B9
 pr:B4 (B9×HO)
structure Wd.Lf(W W':Wd):Prop where
 f:∀p o,W.F p=some o->W'.F p=some o
 m:∀a p,at? W.μ a=some p->at? W'.μ a=some p
structure Wd.Le(W W':Wd):Prop where
 f:∀p o,W.F p=some o->W'.F p=some o
 m:∀a p,at? W.μ a=some p->at? W'.μ a=some p
 r:W'.pr=W.pr
theorem Wd.Lf.pr{W:Wd}{l:B4<|B9×HO}:W.Lf {W with pr:=l}:=⟨λ_ _ h=>h,λ_ _ h=>h⟩
def Wd.Le.lf{W:Wd}(h:W.Le W'):W.Lf W':=⟨h.f,h.m⟩
def Wd.Le.refl{W:Wd}:W.Le W:=⟨λ_ _ h=>h,λ_ _ h=>h,rfl⟩
theorem Wd.Le.trans{W W1 W2:Wd}(a:W.Le W1)(b:W1.Le W2):W.Le W2:=⟨λp o h=>b.f p o<|a.f p o h,λi p h=>b.m i p<|a.m i p h,b.r.trans a.r⟩
variable(B:Bs)
mutual
def Rv(W:Wd):U->V->Prop
 |.non,v=>v=.non
 |.bl b,v=>v=.bl b
 |.int i,v=>v=.int i
 |.str x,v=>v=.str x
 |.tup xs,v=>∃p vs,v=.ref p/\W.F p=some (.tup vs)/\Rvs W xs vs
 |.lst xs,v=>∃p vs,v=.ref p/\W.F p=some (.lst vs)/\Rvs W xs vs
 |.kt xs,v=>∃p vs,v=.ref p/\(∀H,SqT B.K H p vs)/\Rvs W xs vs
 |.kl xs,v=>∃p vs,v=.ref p/\SqL B.K W.F p vs/\Rvs W xs vs
 |.kd kvs no,v=>∃p,v=.ref p/\B.kd p kvs no
 |.ref a,v=>∃p,v=.ref p/\at? W.μ a=some p
 |.ty n,v=>v=.ty n
 |.gl x,v=>∃p,v=.ref p/\B.mg x=some (.ref p)
def Rvs(W:Wd):C3->B4 V->Prop
 |[],vs=>vs=[]
 |x::xs,vs=>∃v r,vs=v::r/\Rv W x v/\Rvs W xs r
end
variable{B:Bs}
def ff{K:xFr}{F F':Hp}{p:B9}(le:∀p o,F p=some o->F' p=some o)(h:SqL K F p vs):SqL K F' p vs:=by
 rcases h with (h|⟨o,h⟩)|h
 .exact .inl<|.inl<|le _ _ h
 .exact .inl<|.inr ⟨o,le _ _ h⟩
 .exact .inr h
mutual
theorem Rv.lf{W W':Wd}(le:W.Lf W'):∀{u:U}{v:V},Rv B W u v->Rv B W' u v
 |.non,_,h=>h
 |.bl _,_,h=>h
 |.int _,_,h=>h
 |.str _,_,h=>h
 |.tup _,_,h=>let ⟨p,vs,e,f,r⟩:=h;⟨p,vs,e,le.f _ _ f,Rvs.lf le r⟩
 |.lst _,_,h=>let ⟨p,vs,e,f,r⟩:=h;⟨p,vs,e,le.f _ _ f,Rvs.lf le r⟩
 |.kt _,_,h=>let ⟨p,vs,e,f,r⟩:=h;⟨p,vs,e,f,Rvs.lf le r⟩
 |.kl _,_,h=>let ⟨p,vs,e,f,r⟩:=h;⟨p,vs,e,ff le.f f,Rvs.lf le r⟩
 |.kd _ _,_,h=>h
 |.ref _,_,h=>let ⟨p,e,f⟩:=h;⟨p,e,le.m _ _ f⟩
 |.ty _,_,h=>h
 |.gl _,_,h=>h
theorem Rvs.lf{W W':Wd}(le:W.Lf W'):∀{us:C3}{vs:B4 V},Rvs B W us vs->Rvs B W' us vs
 |[],_,h=>h
 |_::_,_,h=>let ⟨v,r,e,h1,h2⟩:=h;⟨v,r,e,Rv.lf le h1,Rvs.lf le h2⟩
end
def Rv.mono{W:Wd}(le:W.Le W'){u:U}(h:Rv B W u v):Rv B W' u v:=h.lf le.lf
def Rvs.mono{W:Wd}(le:W.Le W'){u:C3}{v:B4 V}(h:Rvs B W u v):Rvs B W' u v:=h.lf le.lf
theorem Rvs.length{W:Wd}:∀{us:C3}{vs:B4 V},Rvs B W us vs->vs.length=us.length
 |[],_,h=>by rw[show _=[] from h];rfl
 |_::_,_,h=>by let⟨v,r,rfl,_,h2⟩:=h;simp[Rvs.length h2]
theorem Rvs.app{W:Wd}:∀{us ws:C3}{vs zs:B4 V},Rvs B W us vs->Rvs B W ws zs->Rvs B W (us++ws) (vs++zs)
 |[],_,_,_,h,g=>by rw[show _=[] from h];exact g
 |_::_,_,_,_,h,g=>by let⟨v,r,rfl,h1,h2⟩:=h;exact⟨v,r++_,rfl,h1,Rvs.app h2 g⟩
def Rvs.one{W:Wd}{u:U}(h:Rv B W u v):Rvs B W [u] [v]:=⟨v,[],rfl,h,rfl⟩
theorem Rvs.get{W:Wd}:∀{us:C3}{vs:B4 V},Rvs B W us vs->∀{i:Nat}{u:U},us[i]?=some u->∃v,vs[i]?=some v/\Rv B W u v
 |[],_,_,_,_,e=>by simp at e
 |_::_,_,h,0,_,e=>by let⟨v,r,rfl,h1,h2⟩:=h;simp at e;subst e;exact⟨v,rfl,h1⟩
 |_::_,_,h,i+1,_,e=>by let⟨v,r,rfl,h1,h2⟩:=h;exact Rvs.get h2 (by simpa using e)
theorem Rvs.drop{W:Wd}:∀(n:Nat){us:C3}{vs:B4 V},Rvs B W us vs->Rvs B W (us.drop n) (vs.drop n)
 |0,_,_,h=>h
 |_+1,[],_,h=>by rw[show _=[] from h];rfl
 |n+1,_::_,_,h=>by let⟨v,r,rfl,h1,h2⟩:=h;exact Rvs.drop n h2
theorem Rvs.take{W:Wd}:∀(n:Nat){us:C3}{vs:B4 V},Rvs B W us vs->Rvs B W (us.take n) (vs.take n)
 |0,_,_,_=>rfl
 |_+1,[],_,h=>by rw[show _=[] from h];rfl
 |n+1,_::_,_,h=>by let⟨v,r,rfl,h1,h2⟩:=h;exact⟨v,r.take n,rfl,h1,Rvs.take n h2⟩
theorem Rvs.set{W:Wd}{u:U}{v:V}(g:Rv B W u v):∀{us:C3}{vs:B4 V}(i:Nat),Rvs B W us vs->Rvs B W (Fx.set us i u) (vs.set i v)
 |[],_,_,h=>by rw[show _=[] from h];rfl
 |_::_,_,0,h=>by let⟨v',r,rfl,h1,h2⟩:=h;exact⟨v,r,rfl,g,h2⟩
 |_::_,_,i+1,h=>by let⟨v',r,rfl,h1,h2⟩:=h;exact⟨v',_,rfl,h1,Rvs.set g i h2⟩
def Rn{κ:Type}(B:Bs)(W:Wd):B4 (κ×U)->B4 (κ×V)->Prop
 |[],vs=>vs=[]
 |x::xs,vs=>∃v r,vs=(x.1,v)::r/\Rv B W x.2 v/\Rn B W xs r
theorem Rn.lf{κ:Type}{W W':Wd}(le:W.Lf W'):∀{us:B4<|κ×U}{vs:B4<|κ×V},Rn B W us vs->Rn B W' us vs
 |[],_,h=>h
 |_::_,_,h=>let ⟨v,r,e,h1,h2⟩:=h;⟨v,r,e,h1.lf le,Rn.lf le h2⟩
def Rn.mono{κ:Type}{W:Wd}(le:W.Le W'){us:B4<|κ×U}{vs:B4<|κ×V}(h:Rn B W us vs):Rn B W' us vs:=h.lf le.lf
theorem Rn.length{κ:Type}{W:Wd}:∀{us:B4<|κ×U}{vs:B4<|κ×V},Rn B W us vs->vs.length=us.length
 |[],_,h=>by rw[show _=[] from h];rfl
 |_::_,_,h=>by let⟨v,r,rfl,_,h2⟩:=h;simp[Rn.length h2]
def Ro(B:Bs)(W:Wd):Ob->HO->Prop
 |.lst xs,o=>∃vs,o=.lst vs/\Rvs B W xs vs
 |.dct kvs,o=>∃vs,o=.dK vs/\Rn B W kvs vs
 |.dtt kvs,o=>∃vs,o=.dT vs/\Rn B W kvs vs
 |.ins C fs,o=>∃c dx vs,B.cl C c/\o=.ins c dx vs/\Rn B W fs vs
 |.dead,o=>∃vs,o=.lst vs
theorem Ro.lf{W W':Wd}(le:W.Lf W'):∀{o:Ob}{h:HO},Ro B W o h->Ro B W' o h
 |.lst _,_,h=>let ⟨vs,e,r⟩:=h;⟨vs,e,r.lf le⟩
 |.dct _,_,h=>let ⟨vs,e,r⟩:=h;⟨vs,e,r.lf le⟩
 |.dtt _,_,h=>let ⟨vs,e,r⟩:=h;⟨vs,e,r.lf le⟩
 |.ins _ _,_,h=>let ⟨c,dx,vs,m,e,r⟩:=h;⟨c,dx,vs,m,e,r.lf le⟩
 |.dead,_,h=>h
def Ro.mono{W:Wd}(le:W.Le W'){o:Ob}(r:Ro B W o h):Ro B W' o h:=r.lf le.lf
structure RS(B:Bs)(W:Wd)(S:So)(H:Hp):Prop where
 fz:∀p o,W.F p=some o->H p=some o
 len:W.μ.length=S.length
 nd:∀a b p,at? W.μ a=some p->at? W.μ b=some p->a=b
 ob:∀a p,at? W.μ a=some p->∃o h,at? S a=some o/\H p=some h/\Ro B W o h/\(o=.dead\/W.F p=none)
 pf:∀q∈W.pr,H q.1=some q.2/\W.F q.1=none/\(∀a,at? W.μ a≠some q.1)/\∀vs,q.2≠.tup vs
section
variable{J:Type}
theorem nM:∀{l:B4 J}{i:Nat}{v:J},at? l i=some v->i<l.length
 |_::_,0,_,_=>⋯
 |_::r,i+1,v,h=>by have:=nM (l:=r) (i:=i) h;simp;lia
theorem ki:∀{l:B4 J}{i:Nat},i<l.length->∃v,at? l i=some v
 |v::_,0,_=>⟨v,rfl⟩
 |_::r,i+1,h=>ki (l:=r) (i:=i) (by simpa using h)
theorem dh:∀{l r:B4 J}{i:Nat}{v:J},at? l i=some v->at? (l++r) i=some v
 |_::_,_,0,_,h=>h
 |_::l,r,i+1,v,h=>dh (l:=l) (r:=r) (i:=i) h
theorem ic:∀{l:B4 J}{v:J},at? (l++[v]) l.length=some v
 |[],_=>rfl
 |_::l,v=>ic (l:=l) (v:=v)
theorem dw:∀{l:B4 J}{v w:J}{i:Nat},at? (l++[v]) i=some w->at? l i=some w\/(i=l.length/\w=v)
 |[],v,w,0,h=>.inr ⟨rfl,(xB3 h).symm⟩
 |[],_,_,_+1,h=>by cases h
 |_::_,_,_,0,h=>.inl h
 |_::l,v,w,i+1,h=>by
  rcases dw (l:=l) (v:=v) (w:=w) (i:=i) h with z|⟨z,e⟩
  .exact .inl z
  .exact .inr ⟨by simp[z],e⟩
theorem iO:∀{l:B4 J}{i:Nat}{v:J},(set l i v).length=l.length
 |[],_,_=>rfl
 |_::_,0,_=>rfl
 |_::r,i+1,v=>by show(set r i v).length+1=r.length+1;rw[iO]
theorem lJ:∀{l:B4 J}{i:Nat}{v:J},i<l.length->at? (set l i v) i=some v
 |_::_,0,_,_=>rfl
 |_::r,i+1,v,h=>lJ (l:=r) (i:=i) (by simpa using h)
theorem fS:∀{l:B4 J}{i j:Nat}{v:J},i≠j->at? (set l i v) j=at? l j
 |[],_,_,_,_=>rfl
 |_::_,0,0,_,h=>absurd rfl h
 |_::_,0,_+1,_,_=>rfl
 |_::_,_+1,0,_,_=>rfl
 |_::r,i+1,j+1,v,h=>fS (l:=r) (i:=i) (j:=j) ()
end
section
variable{W:Wd}{S:So}{H H':Hp}{p:B9}
def RS.here(r:RS B W S H){o:Ob}(e:at? S a=some o):∃p h,at? W.μ a=some p/\H p=some h/\Ro B W o h/\(o=.dead\/W.F p=none):=by
 have hl:=nM e;let⟨p,hp⟩:=ki (l:=W.μ) (i:=a) (by rw[r.len];exact hl);let⟨o',h,e',hh,ro,q⟩:=r.ob a p hp;rw[e] at e';cases e';exact⟨p,h,hp,hh,ro,q⟩
def RS.same(r:RS B W S H)(s:zF9 H H'):RS B W S H':=
 ⟨λp o h=>s _ _<|r.fz p o h,r.len,r.nd,λa p h=>let ⟨o,g,e,hh,ro,q⟩:=r.ob a p h;⟨o,g,e,s _ _ hh,ro,q⟩,λq hq=>⟨s _ _ (r.pf q hq).1,(r.pf q hq).2⟩⟩
def RS.add(r:RS B W S H)(e:H p=some o)(hm:∀a,at? W.μ a≠some p)(hp:∀q∈W.pr,q.1≠p):W.Le {W with F:=upd W.F p o}/\RS B {W with F:=upd W.F p o} S H:=by
 have le:W.Le { W with F:=upd W.F p o }:=⟨λb o' h=>by
  by_cases z:b=p
  .subst z;rw[r.fz _ _ h] at e;cases e;exact ce
  .show upd W.F p o b=_;rw[b9 z];exact h,λ_ _ h=>h,rfl⟩
 refine⟨le,⟨λb o' h=>?_,r.len,r.nd,λa b h=>?_,λq hq=>?_⟩⟩
 .by_cases z:b=p
  .subst z;have:some o=some o':=by rw[<- h];exact ce.symm
   cases this;exact e
  .exact r.fz b o' (by rw[<- h];exact(b9 z).symm)
 .let⟨o',g,e',hh,ro,q⟩:=r.ob a b h;refine⟨o',g,e',hh,ro.mono le,q.imp id λz=>?_⟩;show upd W.F p o b=none;rw[b9 λz'=>hm a<|by rw[<- z'];exact h];exact z
 .let⟨h1,h2,h3⟩:=r.pf q hq;exact⟨h1,by show upd W.F p o q.1=none;rw[b9<|hp q hq];exact h2,h3⟩
def RS.addT(r:RS B W S H)(e:H p=some (.tup vs)):W.Le {W with F:=upd W.F p<|.tup vs}/\RS B {W with F:=upd W.F p<|.tup vs} S H:=by
 by_cases z:W.F p=some (.tup vs)
 .have:upd W.F p (.tup vs)=W.F:=by
   funext b
   by_cases y:b=p
   .rw[y,ce,z]
   .rw[b9 y]
  rw[this];exact⟨.refl,r⟩
 .refine r.add e (λa h=>?_) λq hq z=>?_
  .let⟨o,g,e',hh,ro,q⟩:=r.ob a p h;rw[e] at hh;cases hh;cases o with
   |lst _=>let⟨_,z,_⟩:=ro;cases z
   |dct _=>let⟨_,z,_⟩:=ro;cases z
   |dtt _=>let⟨_,z,_⟩:=ro;cases z
   |ins _ _=>let⟨_,_,_,_,z,_⟩:=ro;cases z
   |dead=>let⟨_,z⟩:=ro;cases z
  .rw[<- z,(r.pf q hq).1] at e;exact(r.pf q hq).2.2.2 vs<|xB3 e
def RS.fresh(r:RS B W S H)(e:H p=none):W.Le {W with F:=upd W.F p o}/\RS B {W with F:=upd W.F p o} S (upd H p o):=by
 refine(r.same<|dz e o).add ce (λa h=>?_) λq hq z=>?_
 .let⟨_,g,_,hh,_⟩:=r.ob a p h;rw[e] at hh;cases hh
 .rw[<- z,(r.pf q hq).1] at e;cases e
def RS.push{o:Ob}(r:RS B W S H)(e:H p=none)(ro:Ro B {W with μ:=W.μ++[p]} o h):W.Le {W with μ:=W.μ++[p]}/\RS B {W with μ:=W.μ++[p]} (S++[o]) (upd H p h)/\at? (W.μ++[p]) S.length=some p:=by
 have le:W.Le {W with μ:=W.μ++[p]}:=⟨λ_ _ h=>h,λa b h=>dh h,rfl⟩
 have nm:∀a,at? W.μ a≠some p:=λa z=>by
  let⟨_,g,_,hh,_⟩:=r.ob a p z;rw[e] at hh;cases hh
 have hF:W.F p=none:=by
  cases z:W.F p with
  |none=>rfl
  |some o'=>rw[r.fz _ _ z] at e;cases e
 have sm:=dz e h;refine⟨le,⟨λb o' z=>sm _ _<|r.fz b o' z,by simp[r.len],λa b q h1 h2=>?_,λa q h1=>?_,λq hq=>?_⟩,by rw[<- r.len];exact ic⟩
 .rcases dw h1 with z1|⟨z1,e1⟩ <;> rcases dw h2 with z2|⟨z2,e2⟩
  .exact r.nd a b q z1 z2
  .exact absurd (e2▸z1)<|nm a
  .exact absurd (e1▸z2)<|nm b
  .rw[z1,z2]
 .rcases dw h1 with z1|⟨z1,e1⟩
  .let⟨o',g,e',hh,ro',q'⟩:=r.ob a q z1;exact⟨o',g,dh e',sm _ _ hh,ro'.mono le,q'⟩
  .subst e1;exact⟨o,h,by rw[z1,r.len];exact ic,ce,ro,.inr hF⟩
 .let⟨h1,h2,h3⟩:=r.pf q hq;refine⟨sm _ _ h1,h2,λa z=>?_,h3.2⟩;rcases dw z with z1|⟨_,e1⟩
  .exact h3.1 a z1
  .rw[e1,e] at h1;cases h1
def RS.mut{o o':Ob}(r:RS B W S H)(ea:at? W.μ a=some p)(e:at? S a=some o)(nd:o≠.dead)(ro:Ro B W o' h):RS B W (set S a o')<|upd H p h:=by
 have hF:W.F p=none:=by
  let⟨o2,g,e2,_,_,q⟩:=r.ob a p ea;rw[e] at e2;cases e2;exact q.resolve_left nd
 refine⟨λb o2 z=>?_,by rw[iO];exact r.len,r.nd,λb q h1=>?_,λq hq=>?_⟩
 .rw[b9 λy=>by rw[y,hF] at z;cases z];exact r.fz b o2 z
 .by_cases y:a=b
  .subst y;rw[ea] at h1;cases h1;exact⟨o',h,lJ<|nM e,ce,ro,.inr hF⟩
  .let⟨o2,g,e2,hh,ro2,q2⟩:=r.ob b q h1;exact⟨o2,g,by rw[fS y];exact e2,by rw[b9 λz=>y<|r.nd a b p ea<|by rw[<- z];exact h1];exact hh,ro2,q2⟩
 .let⟨h1,h2,h3⟩:=r.pf q hq;exact⟨by rw[b9 λz=>h3.1 a<|by rw[z];exact ea];exact h1,h2,h3⟩
def RS.freeze{xs:C3}(r:RS B W S H)(e:at? S a=some (.lst xs))(ea:at? W.μ a=some p):∃W',W.Le W'/\RS B W' (set S a .dead) H/\Rv B W' (.lst xs) (.ref p):=by
 let⟨o,g,e2,hh,ro,q⟩:=r.ob a p ea;rw[e] at e2;cases e2;let⟨vs,rfl,rvs⟩:=ro;have hF:W.F p=none:=q.resolve_left (by intro z;cases z);have le:W.Le { W with F:=upd W.F p (.lst vs) }:=⟨λb o' h=>by
  show upd W.F p _ b=_;rw[b9 λy=>by rw[y,hF] at h;cases h];exact h,λ_ _ h=>h,rfl⟩
 refine⟨_,le,⟨λb o' h=>?_,by rw[iO];exact r.len,r.nd,λb q h1=>?_,λq hq=>?_⟩,p,vs,rfl,ce,rvs.mono le⟩
 .by_cases z:b=p
  .subst z;have:some (HO.lst vs)=some o':=by rw[<- h];exact ce.symm
   cases this;exact hh
  .exact r.fz b o' (by rw[<- h];exact(b9 z).symm)
 .by_cases y:a=b
  .subst y;rw[ea] at h1;cases h1;exact⟨.dead,_,lJ<|nM e,hh,⟨vs,rfl⟩,.inl rfl⟩
  .let⟨o2,g,e2,hh2,ro2,q2⟩:=r.ob b q h1;refine⟨o2,g,by rw[fS y];exact e2,hh2,ro2.mono le,q2.imp id λz=>?_⟩;show upd W.F p _ q=none;rw[b9 λz=>y<|r.nd a b p ea<|by rw[<- z];exact h1];exact z
 .let⟨h1,h2,h3⟩:=r.pf q hq;refine⟨h1,?_,h3⟩;show upd W.F p _ q.1=none;rw[b9 λz=>h3.1 a<|by rw[z];exact ea];exact h2
def RS.hold(r:RS B W S H)(e:H p=none)(ht:∀vs,o≠.tup vs):RS B {W with pr:=(p,o)::W.pr} S<|upd H p o:=by
 have sm:=dz e o;have r':=r.same sm;refine⟨r'.fz,r'.len,r'.nd,λa q h=>let ⟨o',g,e',hh,ro,q'⟩:=r'.ob a q h;⟨o',g,e',hh,ro.lf<|Wd.Lf.pr,q'⟩,λq hq=>?_⟩;rcases xAv.mp hq with rfl|hq
 .refine⟨ce,?_,λa z=>?_,ht⟩
  .cases z:W.F p with
   |none=>rfl
   |some o'=>rw[r.fz _ _ z] at e;cases e
  .let⟨_,g,_,hh,_⟩:=r.ob a p z;rw[e] at hh;cases hh
 .exact r'.pf q hq
def RS.held{o':HO}(r:RS B W S H)(hw:W.pr=(p,o)::l)(ht:∀vs,o'≠.tup vs)(hl:∀q∈l,q.1≠p):RS B {W with pr:=(p,o')::l} S<|upd H p o':=by
 let⟨h1,h2,h3,_⟩:=r.pf (p,o) (by rw[hw];exact xAr);refine⟨λb u z=>?_,r.len,r.nd,λa q h=>?_,λq hq=>?_⟩
 .rw[b9 λy=>by rw[y,h2] at z;cases z];exact r.fz b u z
 .let⟨o2,g,e',hh,ro,q'⟩:=r.ob a q h;exact⟨o2,g,e',by rw[b9 λy=>h3 a<|by rw[<- y];exact h];exact hh,ro.lf<|Wd.Lf.pr,q'⟩
 .rcases xAv.mp hq with rfl|hq
  .exact⟨ce,h2,h3,ht⟩
  .let⟨k1,k2⟩:=r.pf q (by rw[hw];exact xAs _ hq);exact⟨by rw[b9<|hl q hq];exact k1,k2⟩
def RS.heldF(r:RS B W S H)(hw:W.pr=(p,o)::l)(hl:∀q∈l,q.1≠p):RS B {W with pr:=l,F:=upd W.F p o} S H:=by
 let⟨h1,h2,h3,_⟩:=r.pf (p,o) (by rw[hw];exact xAr);have lf:W.Lf {W with pr:=l,F:=upd W.F p o}:=⟨λb u z=>by show upd W.F p o b=_;rw[b9 λy=>by rw[y,h2] at z;cases z];exact z,λ_ _ h=>h⟩
 refine⟨λb u z=>?_,r.len,r.nd,λa q h=>?_,λq hq=>?_⟩
 .by_cases y:b=p
  .subst y;have:some o=some u:=by rw[<- z];exact ce.symm
   cases this;exact h1
  .exact r.fz b u (by rw[<- z];exact(b9 y).symm)
 .let⟨o2,g,e',hh,ro,q'⟩:=r.ob a q h;exact⟨o2,g,e',hh,ro.lf lf,q'.imp id λz=>by show upd W.F p o q=none;rw[b9 λy=>h3 a<|by rw[<- y];exact h];exact z⟩
 .let⟨k1,k2,k3⟩:=r.pf q (by rw[hw];exact xAs _ hq);exact⟨k1,by show upd W.F p o q.1=none;rw[b9<|hl q hq];exact k2,k3⟩
def RS.heldS{b:Ob}(r:RS B W S H)(hw:W.pr=(p,o)::l)(hl:∀q∈l,q.1≠p)(ro:Ro B {W with pr:=l,μ:=W.μ++[p]} b h):RS B {W with pr:=l,μ:=W.μ++[p]} (S++[b]) (upd H p h)/\at? (W.μ++[p]) S.length=some p:=by
 let⟨h1,h2,h3,_⟩:=r.pf (p,o) (by rw[hw];exact xAr);have lf:W.Lf {W with pr:=l,μ:=W.μ++[p]}:=⟨λ_ _ h=>h,λ_ _ h=>dh h⟩
 refine⟨⟨λc u z=>?_,by simp[r.len],λa c q y1 y2=>?_,λa q y1=>?_,λq hq=>?_⟩,by rw[<- r.len];exact ic⟩
 .rw[b9 λy=>by rw[y,h2] at z;cases z];exact r.fz c u z
 .rcases dw y1 with z1|⟨z1,e1⟩ <;> rcases dw y2 with z2|⟨z2,e2⟩
  .exact r.nd a c q z1 z2
  .exact absurd (e2▸z1)<|h3 a
  .exact absurd (e1▸z2)<|h3 c
  .rw[z1,z2]
 .rcases dw y1 with z1|⟨z1,e1⟩
  .let⟨o',g,e',hh,ro',q'⟩:=r.ob a q z1;exact⟨o',g,dh e',by rw[b9 λy=>h3 a<|by rw[<- y];exact z1];exact hh,ro'.lf lf,q'⟩
  .subst e1;exact⟨b,h,by rw[z1,r.len];exact ic,ce,ro,.inr h2⟩
 .let⟨k1,k2,k3,k4⟩:=r.pf q (by rw[hw];exact xAs _ hq);refine⟨by rw[b9<|hl q hq];exact k1,k2,λa z=>?_,k4⟩;rcases dw z with z1|⟨_,e1⟩
  .exact k3 a z1
  .exact hl q hq e1
end
structure Rg(B:Bs)(W:Wd)(O:Sg)(τ:St):Prop where
 l:τ.length=O.length
 v:∀i v,nth O i=some v->∃u,τ[i]?=some (some u)/\Rv B W v u
theorem Rg.mono{W W':Wd}{O:Sg}{τ:St}(r:Rg B W O τ)(le:W.Le W'):Rg B W' O τ:=⟨r.l,λi v h=>let ⟨u,e,q⟩:=r.v i v h;⟨u,e,q.mono le⟩⟩
theorem gh:∀{O:Sg}{i:Nat}{v:U},(put O i v).length=O.length
 |[],_,_=>rfl
 |_::_,0,_=>rfl
 |_::r,i+1,v=>by show(put r i v).length+1=r.length+1;rw[gh]
theorem mE:∀{O:Sg}{i j:Nat}{v w:U},nth (put O i v) j=some w->(i=j/\w=v/\i<O.length)\/(i≠j/\nth O j=some w)
 |[],_,_,_,_,h=>by cases h
 |_::_,0,0,_,_,h=>.inl ⟨rfl,(xB3 h).symm,⋯⟩
 |_::_,0,_+1,_,_,h=>.inr ⟨(),h⟩
 |_::_,_+1,0,_,_,h=>.inr ⟨(),h⟩
 |_::r,i+1,j+1,v,w,h=>by
  rcases mE (O:=r) (i:=i) (j:=j) h with ⟨a,b,c⟩|⟨a,b⟩
  .exact .inl ⟨(),b,by simp;lia⟩
  .exact .inr ⟨(),b⟩
theorem Rg.put{W:Wd}{O:Sg}{τ:St}{i:Nat}{v:U}{u:V}(r:Rg B W O τ)(q:Rv B W v u):Rg B W (put O i v)<|τ.set i<|some u:=by
 refine⟨by rw[List.length_set,gh];exact r.l,λj w h=>?_⟩;rcases mE h with ⟨rfl,rfl,hl⟩|⟨a,b⟩
 .exact⟨u,by rw[List.getElem?_set_self<|by rw[r.l];exact hl],q⟩
 .let⟨u',e,q'⟩:=r.v j w b;exact⟨u',by rw[List.getElem?_set_ne a];exact e,q'⟩
structure RX(B:Bs)(W:Wd)(x:Xc)(S:So)(C:B6)(dx:B5 B9)(H:Hp):Prop where
 s:RS B W S H
 c:∃c,B.mg x.cls=some (.ref c)/\C=.ref c
 f:(x.fs=[]/\dx=none)\/∃d vs,dx=some d/\H d=some (.xd vs)/\Rn B W x.fs vs
def XL(B:Bs)(W:Wd)(E:XK):D3:=λx S=>∀W' C dx H,W.Le W'->RX B W' x S C dx H->E C dx H
def XL.up{W W':Wd}{E:XK}{x:Xc}{S:So}(le:W.Le W')(h:XL B W E x S):XL B W' E x S:=λW2 C dx H le2=>h W2 C dx H<|le.trans le2
def VL(B:Bs)(W:Wd)(Q:VK):D0:=λv S=>∀W' u H,W.Le W'->RS B W' S H->Rv B W' v u->Q u H
def AL(B:Bs)(W:Wd)(Q:B4 V->Hp->Prop):C3->So->Prop:=λv S=>∀W' u H,W.Le W'->RS B W' S H->Rvs B W' v u->Q u H
def BL(B:Bs)(W:Wd)(Q:B'->Hp->Prop):B'->So->Prop:=λb S=>∀W' H,W.Le W'->RS B W' S H->Q b H
def NL(B:Bs)(W:Wd)(Q:St->Hp->Prop):Sg->So->Prop:=λO S=>∀W' τ H,W.Le W'->RS B W' S H->Rg B W' O τ->Q τ H
section
variable(B)(G:D4)(Ex:St->XK)
def LE(c:C9):TE:=λτ H Q=>∃W O S,RS B W S H/\Rg B W O τ/\c G O S (XL B W<|Ex τ) (VL B W Q)
def LA(c:D5):TA:=λτ H Q=>∃W O S,RS B W S H/\Rg B W O τ/\c G O S (XL B W<|Ex τ) (AL B W Q)
def LT(c:TTx Prop):TT:=λτ H Q=>∃W O S,RS B W S H/\Rg B W O τ/\c G O S (XL B W<|Ex τ) (BL B W Q)
def LEe(W:Wd)(D:zDp):Ee Prop where
 nx:=NL B W D.nx
 rt:=VL B W D.rt
 bk:=NL B W D.bk
 ct:=NL B W D.ct
 x:=λx O S=>∀W' τ C dx H,W.Le W'->RX B W' x S C dx H->Rg B W' O τ->Ex τ C dx H
def LS(c:C8):TS:=λD τ H=>∃W O S,RS B W S H/\Rg B W O τ/\c G O S (LEe B Ex W D)
end
structure zA2(G:D4)(c:C9):Prop where
 m:∀{O S}{x x':D3}{k k':D0},(∀e S,x e S->x' e S)->(∀v S,k v S->k' v S)->c G O S x k->c G O S x' k'
structure zCg(G:D4)(c:D5)(n:Nat):Prop where
 m:∀{O S}{x x':D3}{k k':C3->So->Prop},(∀e S,x e S->x' e S)->(∀v S,v.length=n->k v S->k' v S)->c G O S x k->c G O S x' k'
structure zBs(G:D4)(c:TTx Prop):Prop where
 m:∀{O S}{x x':D3}{k k':B'->So->Prop},(∀e S,x e S->x' e S)->(∀v S,k v S->k' v S)->c G O S x k->c G O S x' k'
structure zD0(E E':Ee Prop):Prop where
 nx:∀O S,E.nx O S->E'.nx O S
 rt:∀v S,E.rt v S->E'.rt v S
 bk:∀O S,E.bk O S->E'.bk O S
 ct:∀O S,E.ct O S->E'.ct O S
 x:∀e O S,E.x e O S->E'.x e O S
structure zCa(G:D4)(c:C8):Prop where
 m:∀{O S}{E E':Ee Prop},zD0 E E'->c G O S E->c G O S E'
structure Box(p:Prop):Prop where
 h:p
def prP(up:B4<|Str×Str)(p:Pm)(vs:C3)(S:So)(k:D0):Prop:=match pr up p vs S with
 |.ok v S1=>k v S1
 |.stuck=>False
structure zBu(up:B4 (Str×Str))(G:D4):Prop where
 fail:G.fail=False
 prim:∀p vs S x k,G.prim p vs S x k=Box (prP up p vs S k)
 br:∀b p q,G.br b p q=Box (if b=true then p ⟨⟩ else q ⟨⟩)
 call:∀{i vs S}{x x':D3}{k k':D0},(∀e S,x e S->x' e S)->(∀v S,k v S->k' v S)->G.call i vs S x k->G.call i vs S x' k'
section
variable{up:B4<|Str×Str}{G:D4}(g:zBu up G)
include g
theorem zBu.pm{p:Pm}{vs:C3}{x':D3}{k':D0}(hk:∀v S,k v S->k' v S)(h:G.prim p vs S x k):G.prim p vs S x' k':=by
 rw[g.prim] at h⊢;let⟨h⟩:=h;refine⟨?_⟩;unfold prP at h⊢;cases e:pr up p vs S with
 |ok v S1=>rw[e] at h;exact hk _ _ h
 |stuck=>rw[e] at h;exact h
theorem zBu.pok{p:Pm}{vs:C3}(h:G.prim p vs S x k):∃v S1,pr up p vs S=.ok v S1/\k v S1:=by
 rw[g.prim] at h;let⟨h⟩:=h;unfold prP at h;cases e:pr up p vs S with
 |ok v S1=>rw[e] at h;exact⟨v,S1,rfl,h⟩
 |stuck=>rw[e] at h;exact h.elim
theorem zBu.bm{p p' q':Unit->Prop}(hp:p ⟨⟩->p' ⟨⟩)(hq:q ⟨⟩->q' ⟨⟩)(h:G.br b p q):G.br b p' q':=by
 rw[g.br] at h⊢;let⟨h⟩:=h;refine⟨?_⟩;cases b
 .exact hq h
 .exact hp h
theorem zBu.bk{p:Unit->Prop}(h:G.br b p q):if b=true then p ⟨⟩ else q ⟨⟩:=by
 rw[g.br] at h;exact h.h
theorem zBu.no(h:G.fail):False:=by rw[g.fail] at h;exact h
theorem mV:zA2 G<|cV i:=⟨λhx hk h=>by
 unfold cV at h⊢;split at h
 .exact hk _ _ h
 .exact h⟩
theorem mC{u:U}:zA2 G<|cC u:=⟨λhx hk h=>hk _ _ h⟩
theorem mAN:zCg G aN 0:=⟨λhx hk h=>hk _ _ rfl h⟩
theorem mAC{r:D5}(a:zA2 G e)(b:zCg G r n):zCg G (aC e r)<|n+1:=⟨λhx hk h=>a.m hx (λv S1=>b.m hx λvs S2 hl=>hk _ _<|by simp[hl]) h⟩
theorem mP{p:Pm}(a:zCg G as n):zA2 G<|cP p as:=⟨λhx hk h=>a.m hx (λvs S1 _ h1=>g.pm hk h1) h⟩
theorem mT(a:zCg G as n):zA2 G<|cT as:=⟨λhx hk h=>a.m hx (λvs S1 _ h1=>hk _ _ h1) h⟩
theorem mF(a:zCg G as n):zA2 G<|cF i as ds:=⟨λhx hk h=>a.m hx (λvs S1 _ h1=>g.call hx hk h1) h⟩
theorem mM{m:Str}{o:C9}(b:zA2 G o)(a:zCg G as n):zA2 G<|cM C m i o as ds:=⟨λhx hk h=>b.m hx (λv S1 h1=>g.pm (λw S2 h2=>a.m hx (λvs S3 _ h3=>g.call hx hk h3) h2) h1) h⟩
theorem mK(a:zCg G as n):zA2 G<|cK C i as ds:=⟨λhx hk h=>a.m hx (λvs S1 _ h1=>g.pm (λw S2 h2=>g.call (λ_ _ h=>h) (λr S3 h3=>by cases r <;> first|exact hk _ _ h3|exact h3) h2) h1) h⟩
theorem mBM{T:String}{p:Pm}{o:C9}(b:zA2 G o)(a:zCg G as n):zA2 G<|cBM T p o as:=⟨λhx hk h=>b.m hx (λv S1 h1=>g.pm (λw S2 h2=>a.m hx (λvs S3 _ h3=>g.pm hk h3) h2) h1) h⟩
theorem mB(a:zA2 G e):zBs G<|tB e:=⟨λhx hk h=>a.m hx (λv S1 h1=>by cases v <;> first|exact hk _ _ h1|exact h1) h⟩
theorem mNt(a:zBs G t):zBs G<|tNt t:=⟨λhx hk h=>a.m hx (λv S1 h1=>hk _ _ h1) h⟩
theorem mAn{u:TTx Prop}(a:zBs G t)(b:zBs G u):zBs G<|tAn t u:=⟨λhx hk h=>a.m hx (λv S1 h1=>g.bm (b.m hx hk) (hk _ _) h1) h⟩
theorem mOr{u:TTx Prop}(a:zBs G t)(b:zBs G u):zBs G<|tOr' t u:=⟨λhx hk h=>a.m hx (λv S1 h1=>g.bm (hk _ _) (b.m hx hk) h1) h⟩
theorem mCB(a:zBs G t):zA2 G<|cB t:=⟨λhx hk h=>a.m hx (λv S1 h1=>hk _ _ h1) h⟩
theorem mIf{f:C9}(a:zBs G t)(b:zA2 G e)(c:zA2 G f):zA2 G<|cIf t e f:=⟨λhx hk h=>a.m hx (λv S1 h1=>g.bm (b.m hx hk) (c.m hx hk) h1) h⟩
theorem mCh{p q:Pm}{a b c:C9}(ha:zA2 G a)(hb:zA2 G b)(hc:zA2 G c):zBs G<|tCh p q a b c:=⟨λhx hk h=>ha.m hx (λv S1=>hb.m hx λw S2=>g.pm λr S3 h3=>by
 cases r <;> first|exact h3|exact g.bm (hc.m hx λz S4=>g.pm λr2 S5 h5=>by cases r2 <;> first|exact hk _ _ h5|exact h5) (hk _ _) h3) h⟩
theorem mN:zCa G sN:=⟨λl h=>l.nx _ _ h⟩
omit g in
theorem zD0.sq{nx:Sg->So->Prop}(l:zD0 E E')(h:∀O S,nx O S->nx' O S):zD0 (sqE E nx)<|sqE E' nx':=⟨h,l.rt,l.bk,l.ct,l.x⟩
omit g in
theorem zD0.lp{nx:Sg->So->Prop}(l:zD0 E E')(h:∀O S,nx O S->nx' O S):zD0 (lpE E nx)<|lpE E' nx':=⟨h,l.rt,l.nx,h,l.x⟩
theorem mQ{t u:C8}(a:zCa G t)(b:zCa G u):zCa G<|sQ t u:=⟨λl h=>a.m (l.sq λ_ _=>b.m l) h⟩
theorem mA(a:zA2 G e):zCa G<|sA i e:=⟨λl h=>a.m (λ_ _=>l.x _ _ _) (λ_ _=>l.nx _ _) h⟩
theorem mU(a:zA2 G e):zCa G<|sU is e:=⟨λl h=>a.m (λ_ _=>l.x _ _ _) (λ_ _=>g.pm λw S h=>by cases w <;> first|exact l.nx _ _ h|exact h) h⟩
theorem mSE(a:zA2 G e):zCa G<|sE e:=⟨λl h=>a.m (λ_ _=>l.x _ _ _) (λ_ _=>l.nx _ _) h⟩
theorem mR(a:zA2 G e):zCa G<|sR e:=⟨λl h=>a.m (λ_ _=>l.x _ _ _) (λ_ _=>l.rt _ _) h⟩
theorem mI{u v:C8}(a:zBs G t)(b:zCa G u)(c:zCa G v):zCa G<|sI t u v:=⟨λl h=>a.m (λ_ _=>l.x _ _ _) (λ_ _=>g.bm (b.m l)<|c.m l) h⟩
theorem mSP{p:Pm}{os:D5}(a:zA2 G e)(b:zCg G os n):zCa G<|sP p e os:=⟨λl h=>a.m (λ_ _=>l.x _ _ _) (λ_ _=>b.m (λ_ _=>l.x _ _ _) λ_ _ _=>g.pm λ_ _=>l.nx _ _) h⟩
theorem zGh{one:B'}{v:U}{k:Sg->Prop}(hk:∀O,k O->k' O)(h:tgt is one G v O k):tgt is one G v O k':=by
 unfold tgt at h⊢;cases one with
 |true=>exact hk _ h
 |false=>cases v with
  |tup vs=>
   dsimp only at h⊢;cases e:Nat.beq vs.length is.length with
   |true=>rw[e] at h;exact hk _ h
   |false=>rw[e] at h;exact(g.no h).elim
  |_=>exact(g.no h).elim
omit g in
theorem zIn{b b':U->Sg->So->(Sg->So->Prop)->Prop}(hb:∀v O S k k',(∀O S,k O S->k' O S)->b v O S k->b' v O S k'):∀{vs:C3}{O:Sg}{S:So}{k k':Sg->So->Prop},(∀O S,k O S->k' O S)->zAw vs b O S k->zAw vs b' O S k'
 |[],_,_,_,_,hk,h=>hk _ _ h
 |v::vs,_,_,_,_,hk,h=>hb _ _ _ _ _ (λ_ _ z=>zIn hb hk z) h
theorem zHd{js:C4}{v:U}{k:Sg->Prop}(hk:∀O,k O->k' O)(h:zD3 is js G v O k):zD3 is js G v O k':=by
 cases v with
 |tup vs=>
  match vs with
  |[a,b]=>exact zGh g (is:=is) (one:=false) (v:=a) (k:=λσ1=>tgt js false G b σ1 k) (λσ1=>zGh g hk) h
  |[]|[_]|_::_::_::_=>exact(g.no h).elim
 |_=>exact(g.no h).elim
theorem mSW{b:C8}(a:zBs G t)(hb:zCa G b):zCa G<|sW t b:=⟨λ{O S E E'} l h=>by
 unfold sW at h⊢;generalize G.fuel=n at h⊢;induction n generalizing O S with
 |zero=>exact h
 |succ n ih=>exact a.m (λ_ _=>l.x _ _ _) (λc S1=>g.bm (hb.m<|l.lp λ_ _=>ih)<|l.nx _ _) h⟩
omit g in
theorem mLc{b b':U->So->(B5 U->So->Prop)->Prop}(hb:∀v S k k',(∀o S,k o S->k' o S)->b v S k->b' v S k'):∀{vs ys:C3}{S:So}{k k':D0},(∀v S,k v S->k' v S)->lcK G b vs ys S k->lcK G b' vs ys S k'
 |[],_,_,_,_,hk,h=>hk _ _ h
 | v::vs,_,_,_,_,hk,h=>hb _ _ _ _ (λo S h2=>match o,h2 with
  |some _,h2=>mLc hb hk h2
  |none,h2=>mLc hb hk h2) h
theorem mL{it:C9}{one:B'}{cs:C4}{t:B5<|TTx Prop}(a:zA2 G it)(hb:∀u,t=some u->zBs G u)(he:zA2 G e):zA2 G<|cL it is one n cs t e:=⟨λhx hk h=>a.m hx (λv S1 h1=>by
 cases v with
 |tup vs=>
  erw[<-g.bm (λh1=>?_) (λh1=>h1) h1,<-mLc ?_ hk h1,<-λ_ _ _ _ ho=>zGh g ?_];intro O z;cases t with
  |none=>exact he.m (λ_ _ h=>h) (λ_ _=>ho _ _) z
  |some u=>exact(hb u rfl).m (λ_ _ h=>h) (λc S3=>g.bm (he.m (λ_ _ h=>h) λ_ _=>ho _ _)<|ho _ _) z
 |_=>exact h1) h⟩
end
end Fx
namespace L2
open PySem PySem.Spec PyProof.Rows
section
variable{X:Cx}
theorem lP:∀{ws:C0}{us:C7},zAh (ws.map V.str) us->StrsAre us ws
 |[],_,h=>by cases h;exact .nil
 |w::ws,_,h=>by
  cases h with
  |cons a b=>
   let⟨t,rfl⟩:=a;exact .cons w t<|lP b
def zFf(K:xFr):V->C6->Hp->VK->Prop:=λx vs H Q=>∃(sep:Str) (l:B9) (ws:C0),x=.str sep/\vs=[.ref l]/\SqL K H l (ws.map V.str)/\(ws.map (·.length)).sum+ws.length*sep.length<=16777216/\Q (.str<|Txt.join sep ws) H
def uv:MtR X "str.join"<|zFf X.K:=by
 intro Z s O H x vs v us Q I rx rv h;let⟨sep,l,ws,rfl,rfl,hS,hb,q⟩:=h;let⟨t,rfl⟩:=rx;let⟨u,rfl,ru⟩:=rv.one;obtain rfl:u=Value.ref l:=ru;let⟨its,r1,t1,z1⟩:=I.list hS;refine join_list t1.isList (ys:=ws) (by simpa using lP r1) hb λt' k=>?_;exact⟨.str _,H,I.tok _,⟨_,rfl⟩,q⟩
def zI1(K:xFr):C6->Hp->VK->Prop:=λxs H Q=>∃(p:B9) (bs:B4 B'),xs=[.ref p]/\SqL K H p (bs.map V.bl)/\∀b:B',b=bs.all id->Q (.bl b) H
def oS(bs:B4 B'):(List.range bs.length).all (λi=>bs.getD i true)=bs.all id:=by
 rw[Bool.eq_iff_iff,xCx,xCx];constructor
 .intro h b hb;let⟨i,hi,rfl⟩:=List.getElem_of_mem hb;have:=h i<|List.mem_range.mpr hi;rw[xBz,xAk hi] at this;exact this
 .intro h i hi;have hi:=List.mem_range.mp hi;rw[xBz,xAk hi];exact h _<|List.getElem_mem hi
def yx(hc:X.calm=true):zAn X (.builtin "all")<|zI1 X.K:=by
 intro Z s O H xs us Q I r h;let⟨p,bs,rfl,hS,q⟩:=h;let⟨u,rfl,ru⟩:=zBe r;obtain rfl:u=Value.ref p:=ru;let⟨its,r1,t1,z1⟩:=I.list hS;have hl:=r1.length;rw[xAa] at hl;have hlt:p<s.heap.objs.size:=by
  let⟨o,_,e,_⟩:=t1;exact xA1 e
 have hval:∀(i:Nat)(v:B6),its.toArray[i]?=some v->v=Value.bool (bs.getD i true):=λi v e=>by
  have e':its[i]?=some v:=by simpa using e
  have hi:i<bs.length:=by rw[hl];exact(xAq.mp e').1
  let⟨u,hu,ru⟩:=r1.get (i:=i) (x:=.bl bs[i]) (by rw[xAw,xAk hi];rfl);rw[e'] at hu;cases hu;rw[xBz,xAk hi];exact ru
 erw[<-call_all_walk<|wpAny_pyIter_list t1.isList ?_,<-⟨s.heap.objs.size,[s.heap.objs.size,p],[s.heap.objs.size],_,_,_,λi=>bs.getD i true,rfl,Walks.list (A:=X.A.in1) (I.ok.hd hc) s.heap.objs.size p (xA0 hlt) its.toArray,⟨⟨_,xAl _ rfl,rfl,rfl⟩,t1.isList.push _⟩,λi v s' Q' E' hP hQ=>?_,λh' tk hk=>?_⟩]
 .rw[hval i v hP];exact wpAny_truthy_bool hQ
 .refine⟨.bl _,H,I.kept (t':=tk) λb o e=>hk b o ?_<|xAf _ e,rfl,q _ ?_⟩
  .rw[xAm];exact xA0<|xA1 e
  .rw[xAp,<- hl];exact oS bs
end
def Its(z:Str):It:=⟨λi _=>i<z.cps.size,λi H x H'=>H'=H/\∃c,z.cps[i]?=some c/\x=.str ⟨#[c]⟩,λi _=>i=z.cps.size⟩
def jz{P:Program}{w:World}{K:xFr}{tg:B8}(it:B9)(z:Str)(t:Tok)(ty:String)(hty:["enumerate","zip","dict_itemiterator","dict_reverseitemiterator","odict_iterator","itertools.zip_longest","itertools.pairwise"].contains ty=false)(W:∀A':Around,A'.handled=none->Walks P w A' it [it] [it] z.cps.size (SignAt z) (λi h=>h.IsStrIter it ty z t i))(hself:∀(A:Around)(i:Nat)(s:B7)(Q:B6->B7->Prop)(E:B6->B7->Prop),s.heap.IsStrIter it ty z t i->Q (.ref it) s->wpAny (model P w) A (pyIter<|.ref it) Q E s) :
  zEh P w K tg (Its z) [it] it (λi h=>h.IsStrIter it ty z t i) where
 mem:=by simp
 obj:=λi h st b hb=>by
  have e:b=it:=by simpa using hb
  subst e;let⟨o,e,c,d⟩:=st;exact⟨o,e,λv z=>by rw[d] at z;cases z⟩
 keep:=λi h h' st k=>by
  let⟨o,e,r⟩:=st;exact⟨o,k it ⋯ o e,r⟩
 item:=by
  intro X hP hw hK hc i Z s O H E I hf st hg;subst hP hw hK;let⟨f0,f1,f2,f3,f4,f5⟩:=hf it ⋯;refine(W X.A<|I.ok.hd hc).item i s _ _ hg st λv h' tk hv st' kk=>?_;let⟨c,u,hcu,rfl⟩:=hv;have I1:Inv X Z O H {s with heap:=h',toks:=tk}:=I.turned (λb o hb e=>kk b o (by simpa using hb) e) f0 f1 f3 f4 f5;let⟨o,e,c',d⟩:=id st';exact⟨_,rfl,nk (s:={s with heap:=h',toks:=tk}) e c' d hty ⟨.str ⟨#[c]⟩,H,I1,⟨u,rfl⟩,⟨rfl,c,hcu,rfl⟩,st',λb hb=>(hf b hb).1⟩⟩
 done:=by
  intro X hP hw hK hc i Z s O H E I hf st hg;subst hP hw hK;let⟨f0,f1,f2,f3,f4,f5⟩:=hf it ⋯;have hg:i=z.cps.size:=hg;subst hg;exact(W X.A<|I.ok.hd hc).done s _ _ st λh' tk eb=>⟨rfl,I.turned (t':=tk) (λb o hb e=>eb b o (by simpa using hb) e) f0 f1 f3 f4 f5⟩
 self:=hself
def zDi(x:V)(H:Hp)(R:It->Hp->Prop):Prop:=∃z:Str,x=.str z/\R (Its z) H
def sh:bootBuiltins "zip"=some (.type "zip"):=by decide +kernel
def zFo(K:xFr)(a:B9)(y:V)(H:Hp)(Q:VK):Prop:=∃x v u,y=.str x/\PySem.W.nsIn K a x=some (some u)/\zAi v u/\Q v H
def zGx(K:xFr)(a:B9)(te:TE):TE:=λO H Q=>te O H λy H2=>zFo K a y H2 Q
def KD(w:World)(K:xFr)(a:B9):Prop:=∃es n,K.lookup a=some ⟨.type "dict",none,.dict es n,#[]⟩/\PySem.W.KeysLit w.params es.toList/\(a==sysModules)=false
section
variable{X:Cx}{o e:B8}{te:TE}{a:B9}{apos cpos:Pos}
def tR(d:KD X.w X.K a)(ho:PE X o<|tC<|.ref a)(he:PE X e te)(m:M1 X o "get" apos e cpos):PE X (.Call (.Attribute o "get" apos) [e] [] cpos)<|zGx X.K a te:=by
 let⟨es,n,hl,hk,lo⟩:=d;intro Z s O H Q I h;refine wpAny_Call_method m.base m.few m.line PySem.F.plainAttrs_dict PySem.F.slot_dict_get PySem.F.type_dict_get (thn (ho Z s O H (λx H1=>x=.ref a/\te O H1 λy H2=>zFo X.K a y H2 Q) I ⟨rfl,h⟩) λu s1 zz=>?_);let⟨x,H1,I1,rx,ex,q1⟩:=zz;subst ex;obtain rfl:u=Value.ref a:=rx;have hm1:=PySem.W.mapOf_K (prog:=X.prog) (w:=X.w) (λb o e=>I1.kIn b o e) hl hk;refine⟨hm1.typeIs,λb e=>⟨_,by cases e;exact I1.kIn a _ hl,rfl⟩,?_⟩;rw[m.trees];refine Calls.callWith_builtin rfl (Calls.evalArgs_plain<|Calls.spliced_cons<|thn (he Z s1 O H1 _ I1 q1) λiv s2 ⟨y,H2,I2,ry,q2⟩=>Calls.spliced_nil ?_);let⟨z,v,u,rfl,hn,rv,q⟩:=q2;let⟨t,rfl⟩:=ry;have hm:=PySem.W.mapOf_K (prog:=X.prog) (w:=X.w) (λb o e=>I2.kIn b o e) hl hk;refine call_meetsIn PySem.F.slot_dict_get hm.typeIs PySem.F.entry_dict_get (PySem.F.args_dict_get_2 _ _) (meets_dict_get (strKind X.prog X.w) a (strKind_is X.prog X.w z t) lo) ⟨_,hm,?_⟩;rw[PySem.W.find_K hl hn];exact⟨v,H2,I2.tok _,rv,q⟩
end
end L2
namespace RevA
open PySem PySem.Spec PyProof.Rows
variable{Q E:B6->B7->Prop}{prog:Program}{A:Around}{s:B7}
structure ZAp(z TI TO i1 i2:B9)(f1 f2:B4 B9):Prop where
 q1:TI≠z
 q2:TO≠z
 q3:i1≠z
 q4:i2≠z
 q5:TI≠TO
 q6:TI≠i1
 q7:TI≠i2
 q8:TO≠i1
 q9:TO≠i2
 qa:i1≠i2
 n1:z∉f1
 n2:z∉f2
 n3:TO∉f1
 n4:TO∉f2
 n5:i1∉f2
 n6:i2∉f1
section
variable{prog:Program}{w:World}{A:Around}{E:B6->B7->Prop}{s:B7}{z TI TO i1 i2:B9}{f1 f2:B4 B9}{n1 n2 k:Nat}{P1 P2:Nat->B6->Prop}{S1 S2:Nat->Heap->Prop}{a b:B6}
def oU(D1:Draws prog w A i1 f1 n1 P1 S1)(D2:Draws prog w A i2 f2 n2 P2 S2)(D:ZAp z TI TO i1 i2 f1 f2)(hz:IsZip s.heap z TI TO .none)(hTI:IsPair s.heap TI (.ref i1)<|.ref i2)(hTO:IsPair s.heap TO a b)(st1:S1 k s.heap)(st2:S2 k s.heap)(l1:k<n1)(l2:k<n2)(q:∀x y h' tk,P1 k x->P2 k y->IsZip h' z TI TO (rawInt s.heap.objs.size)->IsPair h' TO x y->S1 (k+1) h'->S2 (k+1) h'->IsPair h' s.heap.objs.size x y->(∀c o,c≠z->c≠TO->c≠i1->c≠i2->s.heap.get? c=some o->h'.get? c=some o) ->
   Q (.ref s.heap.objs.size) {s with heap:=h',toks:=tk}):wpAny (model prog w) A (Builtin.«zip.__next__» ⟨[.ref z],[]⟩) (λfin s'=>∃v,fin=.done (.ret v)/\Q v s') E s:=by
 let⟨hp,g,d,tk0,os⟩:=s;change wpAny _ _ (field (.ref z) 2>>=_) _ _ _;refine xAd<|xDa hz rfl (x:=.bool false) rfl ?_;change wpAny _ _ (field (.ref z) 3>>=_) _ _ _;refine xAd<|xDa hz rfl (x:=.ref TI) rfl<|xAd<|wpAny_seqItems hTI rfl ?_;change wpAny _ _ (Builtin.SmallTypes.ownedTupleIsFree (.ref z)>>=_) _ _ _;erw[xAd];unfold Builtin.SmallTypes.ownedTupleIsFree;refine xAd<|xDa hz rfl (x:=.none) rfl<|xAe ?_;simp only[if_true];erw[<-xAd<|wpAny_rule<|xAd<|xDa hz rfl (x:=.ref TO) rfl ?_,<-xAd<|wpAny_setField_rec hz ⋯ λh1 z1 b1=>?_]
 replace z1:IsZip h1 z TI TO .ellipsis:=z1
 replace b1:Heap.SameBut z hp h1:=b1
 erw[xAd];simp only[List.zipIdx_cons,List.zipIdx_nil,List.forIn_cons,List.forIn_nil];refine xAd<|xAd<|wpAny_onRaise ?_;change wpAny _ _ (Builtin.SmallTypes.nextOf (.ref i1)>>=_) _ _ _;have t1:S1 k h1:=D1.frame _ _ _ st1 λc hc o e=>b1.extBut c o (λy=>D.n1<|y▸hc) e;refine xAd<|D1.item k ⟨h1,g,d,tk0,os⟩ _ _ l1 t1 λx h2 tk2 px t2 b2=>xAe ?_
 replace b2:Heap.SameBut i1 h1 h2:=b2
 have o2:IsPair h2 TO a b:=b2.extBut _ _ D.q8<|b1.extBut _ _ D.q2 hTO;erw[<-xAd<|wpAny_seqItems (s:=⟨h2,g,d,tk2,os⟩) o2 rfl ?_,<-xAd<|wpAny_updateSeq_pair (s:=⟨h2,g,d,tk2,os⟩) o2 λh3 o3 b3=>?_]
 replace o3:IsPair h3 TO x b:=o3
 replace b3:Heap.SameBut TO h2 h3:=b3
 erw[<-xAd<|wpAny_letGo<|xAe ?_,<-xAd<|xAd<|wpAny_onRaise ?_];change wpAny _ _ (Builtin.SmallTypes.nextOf (.ref i2)>>=_) _ _ _;have u3:S2 k h3:=D2.frame _ _ _ st2 λc hc o e=>b3.extBut c o (λy=>D.n4<|y▸hc)<|b2.extBut c o (λy=>D.n5<|y▸hc)<|b1.extBut c o (λy=>D.n2<|y▸hc) e;have t3:S1 (k+1) h3:=D1.frame _ _ _ t2 λc hc o e=>b3.extBut c o (λy=>D.n3<|y▸hc) e;refine xAd<|D2.item k ⟨h3,g,d,tk2,os⟩ _ _ l2 u3 λy h4 tk4 py u4 b4=>xAe ?_
 replace b4:Heap.SameBut i2 h3 h4:=b4
 have o4:IsPair h4 TO x b:=b4.extBut _ _ D.q9 o3;have t4:S1 (k+1) h4:=D1.frame _ _ _ t3 λc hc o e=>b4.extBut c o (λy=>D.n6<|y▸hc) e;erw[<-xAd<|wpAny_seqItems (s:=⟨h4,g,d,tk4,os⟩) o4 rfl ?_,<-xAd<|wpAny_updateSeq_pair (s:=⟨h4,g,d,tk4,os⟩) o4 λh5 o5 b5=>?_]
 replace o5:IsPair h5 TO x y:=o5
 replace b5:Heap.SameBut TO h4 h5:=b5
 refine xAd<|wpAny_letGo<|xAe<|xAe ?_;have t5:S1 (k+1) h5:=D1.frame _ _ _ t4 λc hc o e=>b5.extBut c o (λy=>D.n3<|y▸hc) e;have u5:S2 (k+1) h5:=D2.frame _ _ _ u4 λc hc o e=>b5.extBut c o (λy=>D.n4<|y▸hc) e;erw[<-xAd<|wpAny_seqItems (s:=⟨h5,g,d,tk4,os⟩) o5 rfl ?_,<-xAd<|wpAny_newTuple ?_];have sz:h5.objs.size=hp.objs.size:=by rw[b5.1,b4.1,b3.1,b2.1,b1.1]
 have z5:IsZip h5 z TI TO .ellipsis:=b5.extBut _ _ D.q2.symm<|b4.extBut _ _ D.q4.symm<|b3.extBut _ _ D.q2.symm<|b2.extBut _ _ D.q3.symm z1;have kk:∀c o,c≠z->c≠TO->c≠i1->c≠i2->hp.get? c=some o->h5.get? c=some o:=λc o c1 c2 c3 c4 e=>b5.extBut _ _ c2<|b4.extBut _ _ c4<|b3.extBut _ _ c2<|b2.extBut _ _ c3<|b1.extBut _ _ c1 e;have zlt:z<h5.objs.size:=xA1 z5;change wpAny _ _ (Builtin.SmallTypes.ownedTupleHandOut (.ref z) (.ref h5.objs.size)>>=_) _ _ _;erw[xAd];unfold Builtin.SmallTypes.ownedTupleHandOut;have z6:IsZip (h5.push {cls:=.type "tuple",data:=.seq #[x,y]}) z TI TO .ellipsis:=xAf _ z5;refine xAd<|wpAny_setField_rec z6 ⋯ λh7 z7 b7=>?_
 replace z7:IsZip h7 z TI TO<|rawInt h5.objs.size:=z7
 refine wpAny_setField_rec z7 ⋯ λh8 z8 b8=>?_
 replace z8:IsZip h8 z TI TO<|rawInt h5.objs.size:=z8
 replace b7:Heap.SameBut z (h5.push {cls:=.type "tuple",data:=.seq #[x,y]}) h7:=b7
 replace b8:Heap.SameBut z h7 h8:=b8
 have up:∀c o,c≠z->h5.get? c=some o->h8.get? c=some o:=λc o c1 e=>b8.extBut _ _ c1<|b7.extBut _ _ c1<|xAf _ e;have T8:IsPair h8 h5.objs.size x y:=b8.extBut _ _ (Nat.ne_of_gt zlt)<|b7.extBut _ _ (Nat.ne_of_gt zlt)<|xAl _ rfl;rw[sz] at z8 T8;refine xAe ⟨_,rfl,?_⟩;change Q (.ref h5.objs.size) _;rw[sz];exact q x y h8 tk4 px py z8 (up _ _ D.q2 o5) (D1.frame _ _ _ t5 λc hc o e=>up c o (λy=>D.n1<|y▸hc) e) (D2.frame _ _ _ u5 λc hc o e=>up c o (λy=>D.n2<|y▸hc) e) T8 λc o c1 c2 c3 c4 e=>up c o c1<|kk c o c1 c2 c3 c4 e
def oV{Q:Fin->B7->Prop}(D1:Draws prog w A i1 f1 n1 P1 S1)(D:ZAp z TI TO i1 i2 f1 f2)(hz:IsZip s.heap z TI TO .none)(hTI:IsPair s.heap TI (.ref i1)<|.ref i2)(st1:S1 n1 s.heap)(q:∀h' e,(∀c o,c≠z->c≠TO->c≠i1->c≠i2->s.heap.get? c=some o->h'.get? c=some o)->(∃o,h'.get? e=some o/\o.cls=.type "StopIteration")->E (.ref e) {s with heap:=h'}) :
  wpAny (model prog w) A (Builtin.«zip.__next__» ⟨[.ref z],[]⟩) Q E s:=by
 change wpAny _ _ (field (.ref z) 2>>=_) _ _ _;refine xAd<|xDa hz rfl (x:=.bool false) rfl ?_;change wpAny _ _ (field (.ref z) 3>>=_) _ _ _;refine xAd<|xDa hz rfl (x:=.ref TI) rfl<|xAd<|wpAny_seqItems hTI rfl ?_;change wpAny _ _ (Builtin.SmallTypes.ownedTupleIsFree (.ref z)>>=_) _ _ _;erw[xAd];unfold Builtin.SmallTypes.ownedTupleIsFree;refine xAd<|xDa hz rfl (x:=.none) rfl<|xAe ?_;simp only[if_true];erw[<-xAd<|wpAny_rule<|xAd<|xDa hz rfl (x:=.ref TO) rfl ?_,<-xAd<|wpAny_setField_rec hz ⋯ λh1 z1 b1=>?_]
 replace z1:IsZip h1 z TI TO .ellipsis:=z1
 erw[xAd];simp only[List.zipIdx_cons,List.zipIdx_nil,List.forIn_cons,List.forIn_nil];refine xAd<|xAd<|wpAny_onRaise ?_;change wpAny _ _ (Builtin.SmallTypes.nextOf (.ref i1)>>=_) _ _ _;have t1:S1 n1 h1:=D1.frame _ _ _ st1 λc hc o e=>b1.extBut c o (λy=>D.n1<|y▸hc) e;refine xAd (D1.done {s with heap:=h1} _ _ t1 λh2 e b2 he=>?_);let⟨oe,hoe,hce⟩:=he;have z2:IsZip h2 z TI TO .ellipsis:=b2 _ _ D.q3.symm z1;have hez:e≠z:=λx=>by subst x;rw[z2] at hoe;cases hoe;simp at hce
 exact wpAny_setField_rec z2 ⋯ λh3 _ b3=>q h3 e (λc o c1 _ c3 _ x=>b3.extBut _ _ c1<|b2 _ _ c3<|b1.extBut _ _ c1 x) ⟨oe,b3.extBut _ _ hez hoe,hce⟩
def nP{Q:B5 B6->B7->Prop}(D1:Draws prog w A.in1 i1 f1 n1 P1 S1)(D2:Draws prog w A.in1 i2 f2 n2 P2 S2)(D:ZAp z TI TO i1 i2 f1 f2)(hz:IsZip s.heap z TI TO .none)(hTI:IsPair s.heap TI (.ref i1)<|.ref i2)(hTO:IsPair s.heap TO a b)(st1:S1 k s.heap)(st2:S2 k s.heap)(l1:k<n1)(l2:k<n2)(q:∀x y h' tk,P1 k x->P2 k y->IsZip h' z TI TO (rawInt s.heap.objs.size)->IsPair h' TO x y->S1 (k+1) h'->S2 (k+1) h'->IsPair h' s.heap.objs.size x y->(∀c o,c≠z->c≠TO->c≠i1->c≠i2->s.heap.get? c=some o->h'.get? c=some o) ->
   Q (some<|.ref s.heap.objs.size) {s with heap:=h',toks:=tk}):wpAny (model prog w) A (pyNext<|.ref z) Q E s:=by
 have hT:s.TypeIs (.ref z) "zip":=⟨_,hz,rfl⟩
 unfold pyNext;exact xAd<|wpAny_attempt<|wpAny_callSpecial?_slot (name:=Str.ofString "__next__") hT PySem.F.slot_zip_next (wpAny_call_entry PySem.F.slot_zip_next hT PySem.F.entry_zip_next
  (oU D1 D2 D hz hTI hTO st1 st2 l1 l2 λx y h' tk r1 r2 r3 r4 r5 r6 r7 r8=>xAe<|q x y h' tk r1 r2 r3 r4 r5 r6 r7 r8) (PySem.F.args_zip_next_1 _))
def nQ{Q:B5 B6->B7->Prop}(D1:Draws prog w A.in1 i1 f1 n1 P1 S1)(D:ZAp z TI TO i1 i2 f1 f2)(hz:IsZip s.heap z TI TO .none)(hTI:IsPair s.heap TI (.ref i1)<|.ref i2)(st1:S1 n1 s.heap)(q:∀h',(∀c o,c≠z->c≠TO->c≠i1->c≠i2->s.heap.get? c=some o->h'.get? c=some o)->Q none {s with heap:=h'}):wpAny (model prog w) A (pyNext<|.ref z) Q E s:=by
 have hT:s.TypeIs (.ref z) "zip":=⟨_,hz,rfl⟩
 unfold pyNext;refine xAd<|wpAny_attempt<|wpAny_callSpecial?_slot (name:=Str.ofString "__next__") hT PySem.F.slot_zip_next<|wpAny_call_entry PySem.F.slot_zip_next hT PySem.F.entry_zip_next (oV D1 D hz hTI st1 λh' e hk he=>?_)<|PySem.F.args_zip_next_1 _;let⟨o,ho,hc⟩:=he;exact xAd<|wpAny_isInstance (T:="StopIteration") (b:=true) ⟨o,ho,hc⟩ isSubtype_stop<|xAe<|q _ hk
end
def zBk(v:B6)(o:Obj)(h:Heap):Prop:=∀(prog:Program)(w:World)(A:Around)(E:B6->B7->Prop)(s:B7)(Q:B6->B7->Prop),s.heap=h->Q (.ref s.heap.objs.size) {s with heap:=s.heap.push o}->wpAny (model prog w) A (pyIter v) Q E s
def nc{w:World}{v:B6}{o:Obj}(i:zBk v o s.heap)(h:Q (.ref s.heap.objs.size) {s with heap:=s.heap.push o}):wpAny (model prog w) A (pyIter v) Q E s:=i _ _ _ _ _ _ rfl h
noncomputable abbrev zh3(h:Heap)(o1 o2:Obj):Heap:=((h.push o1).push o2).push {cls:=.type "tuple",data:=.seq #[.ref h.objs.size,.ref (h.push o1).objs.size]}
noncomputable abbrev zh4(h:Heap)(o1 o2:Obj):Heap:=(zh3 h o1 o2).push {cls:=.type "tuple",data:=.seq #[.none,.none]}
noncomputable abbrev zh5(h:Heap)(o1 o2:Obj):Heap:=(zh4 h o1 o2).push {cls:=.type "zip",data:=.fields #[.none,.bool false,.bool false,.ref ((h.push o1).push o2).objs.size,.ref (zh3 h o1 o2).objs.size]}
def sC(v1 v2:B6)(o1 o2:Obj):Meets (Builtin.«zip.__new__» ⟨[.type "zip",v1,v2],[]⟩) λ_ R s=>zBk v1 o1 s.heap/\zBk v2 o2 (s.heap.push o1)/\R (.ok<|.ret<|.ref (zh4 s.heap o1 o2).objs.size) {s with heap:=zh5 s.heap o1 o2}:=
 .of_wp λprog w A R s h=>by
  let⟨hp,g,d,tk,os⟩:=s;let⟨hl1,hl2,h⟩:=h;have hsub:=sub_zip;have j1:zBk v1 o1<|Shared.heap ⟨hp,g,d,tk,os⟩:=hl1;have j2:zBk v2 o2<|Shared.heap ⟨hp.push o1,g,d,tk,os⟩:=hl2;wp_walk using nc j1,nc j2
  exact⟨_,rfl,h⟩
def oW{w:World}{v1 v2:B6}{o1 o2:Obj}(j1:zBk v1 o1 s.heap)(j2:zBk v2 o2<|s.heap.push o1)(q:∀h',IsZip h' (s.heap.objs.size+4) (s.heap.objs.size+2) (s.heap.objs.size+3) .none->IsPair h' (s.heap.objs.size+2) (.ref s.heap.objs.size) (.ref<|s.heap.objs.size+1)->IsPair h' (s.heap.objs.size+3) .none .none ->
   (o1.isFreed=false->h'.get? s.heap.objs.size=some o1)->(o2.isFreed=false->h'.get? (s.heap.objs.size+1)=some o2)->(∀c o,s.heap.get? c=some o->h'.get? c=some o)->Q (.ref<|s.heap.objs.size+4) {s with heap:=h'}) :
  wpAny (model prog w) A (call (.type "zip") [v1,v2]) Q E s:=by
 refine callType_new PySem.F.called_zip ∅ (PySem.F.typeCall_zip_2 _ _) (PySem.F.newCall_zip_2 _ _) (λobj=>PySem.F.args_object_init_3 obj _ _) PySem.F.entry_zip_new (sC v1 v2 o1 o2) ⟨j1,j2,?_⟩;have e1:(s.heap.push o1).objs.size=s.heap.objs.size+1:=Heap.size_push ..;have e2:((s.heap.push o1).push o2).objs.size=s.heap.objs.size+2:=by rw[Heap.size_push,e1]
 have e3:(zh3 s.heap o1 o2).objs.size=s.heap.objs.size+3:=by rw[Heap.size_push,e2]
 have e4:(zh4 s.heap o1 o2).objs.size=s.heap.objs.size+4:=by rw[Heap.size_push,e3]
 have g5:(zh5 s.heap o1 o2).get? (zh4 s.heap o1 o2).objs.size=some _:=xAl _ rfl;have g4:(zh5 s.heap o1 o2).get? (zh3 s.heap o1 o2).objs.size=some _:=xAf _<|xAl _ rfl;have g3:(zh5 s.heap o1 o2).get? ((s.heap.push o1).push o2).objs.size=some _:=xAf _<|xAf _<|xAl _ rfl;have g2:o2.isFreed=false->(zh5 s.heap o1 o2).get? (s.heap.push o1).objs.size=some o2:=λf=>xAf _<|xAf _<|xAf _<|xAl _ f;have g1:o1.isFreed=false->(zh5 s.heap o1 o2).get? s.heap.objs.size=some o1:=λf=>xAf _<|xAf _<|xAf _<|xAf _<|xAl _ f;change _/\_;rw[e2,e3,e4] at g5;rw[e1,e2] at g3;rw[e3] at g4;rw[e1] at g2;rw[e4];exact⟨⟨_,g5,rfl⟩,q _ g5 g3 g4 g1 g2 λc o x=>xAf _<|xAf _<|xAf _<|xAf _<|xAf _ x⟩
end RevA
namespace L2
open PySem PySem.Spec PyProof.Rows RevA
def oX{n:Nat}{f1 f2:B4 B9}(m1:∀b∈f1,b=n\/b<n)(m2:∀b∈f2,b=n+1\/b<n):ZAp (n+4) (n+2) (n+3) n (n+1) f1 f2:=by
 have w1:∀c:Nat,n<c->c∉f1:=λc hc z=>by
  rcases m1 c z with e|e
  .exact Nat.ne_of_gt hc e
  .exact Nat.not_lt_of_lt hc e
 have w2:∀c:Nat,n<=c->c≠n+1->c∉f2:=λc hc hn z=>by
  rcases m2 c z with e|e
  .exact hn e
  .exact Nat.not_lt_of_le hc e
 exact⟨⋯,⋯,by simp[xA0],⋯,⋯,⋯,⋯,⋯,⋯,⋯,w1 _ (),w2 _ () ⋯,w1 _ (),w2 _ () ⋯,w2 _ (xAg _) ⋯,w1 _ ()⟩
end L2
namespace Prg
open PySem PySem.NumText PySem.StrLaws PyProof.Rows L2
section
variable{n:Nat}{sc:C0}{pl:Int}{P:C0->D->Prop}{kind:Str}{ds:B4 D}{i:Nat}{s:Ps}{x:D}
variable(h:0<=pl/\pl<=599)
include h
end
end Prg
namespace L2
open PySem PySem.Spec PyProof.Rows
def zDu(K:xFr)(a:B9)(y d:V)(H:Hp)(Q:VK):Prop:=∃x v r,y=.str x/\PySem.W.nsIn K a x=some r/\(∀u,r=some u->zAi v u)/\(r=none->v=d)/\Q v H
def zE2(K:xFr)(a:B9)(te tf:TE):TE:=λO H Q=>te O H λy H2=>tf O H2 λd H3=>zDu K a y d H3 Q
section
variable{X:Cx}{o e f:B8}{te tf:TE}{a:B9}{apos cpos:Pos}
theorem qg(d:KD X.w X.K a)(ho:PE X o<|tC<|.ref a)(he:PE X e te)(hf:PE X f tf)(m:M2 X o "get" apos e f cpos):PE X (.Call (.Attribute o "get" apos) [e,f] [] cpos)<|zE2 X.K a te tf:=by
 let⟨es,n,hl,hk,lo⟩:=d;intro Z s O H Q I h;refine wpAny_Call_method m.base m.few m.line PySem.F.plainAttrs_dict PySem.F.slot_dict_get PySem.F.type_dict_get (thn (ho Z s O H (λx H1=>x = .ref a/\te O H1 λy H2=>tf O H2 λd H3=>zDu X.K a y d H3 Q) I ⟨rfl,h⟩) λu s1 zz=>?_);let⟨x,H1,I1,rx,ex,q1⟩:=zz;subst ex;obtain rfl:u=Value.ref a:=rx;have hm1:=PySem.W.mapOf_K (prog:=X.prog) (w:=X.w) (λb o e=>I1.kIn b o e) hl hk;refine⟨hm1.typeIs,λb e=>⟨_,by cases e;exact I1.kIn a _ hl,rfl⟩,?_⟩;rw[m.trees];refine Calls.callWith_builtin rfl<|Calls.evalArgs_plain<|Calls.spliced_cons (thn (he Z s1 O H1 _ I1 q1) λiv s2 ⟨y,H2,I2,ry,q2⟩ =>
  Calls.spliced_cons (thn (hf Z s2 O H2 _ I2 q2) λfv s3 ⟨z,H3,I3,rz,q3⟩=>Calls.spliced_nil ?_))
 let⟨x,v,r,rfl,hn,r1,r2,q⟩:=q3;let⟨t,rfl⟩:=ry;have hm:=PySem.W.mapOf_K (prog:=X.prog) (w:=X.w) (λb o e=>I3.kIn b o e) hl hk;refine call_meetsIn PySem.F.slot_dict_get hm.typeIs PySem.F.entry_dict_get (PySem.F.args_dict_get_3 _ _ _) (meets_dict_get_default (strKind X.prog X.w) a (strKind_is X.prog X.w x t) lo fv) ⟨_,hm,?_⟩;rw[PySem.W.find_K hl hn];cases r with
 |none=>cases r2 rfl;exact⟨_,H3,I3.tok _,rz,q⟩
 |some u=>exact⟨v,H3,I3.tok _,r1 u rfl,q⟩
end
end L2
namespace SetA
open PySem PySem.Spec PySem.SetTable PyProof.Rows
variable{h h':Heap}{a:B9}{n:Nat}{t:SetTable}
def zB1(h:Heap)(a:B9)(n:Nat):Prop:=∃es ep t,h.get? a=some (zA4 es ep t)/\es.size=n/\t.fits n=true
def zB1.at'(S:zB1 h a n)(e:∀o,h.get? a=some o->h'.get? a=some o):zB1 h' a n:=by
 let⟨es,ep,t,q,r⟩:=S;exact⟨es,ep,t,e _ q,r⟩
structure Jw(t:SetTable)(n:Nat):Prop where
 msk:7<=t.mask
 sz:t.place.size=n
 dm:t.dummies=#[]
theorem Jw.fits{t:SetTable}{n:Nat}(h:Jw t n)(h4:n<=4):t.fits n=true:=by
 unfold SetTable.fits SetTable.fill;rw[h.sz,h.dm];have:=h.msk;simp only[beq_self_eq_true,Bool.true_and,decide_eq_true_eq,xAp,List.length_nil];lia
def Jw.full(h:Jw t n)(h4:n<=4):t.tooFull=false:=by
 unfold SetTable.tooFull SetTable.fill;rw[h.sz,h.dm];have:=h.msk;simp only[decide_eq_false_iff_not,xAp,List.length_nil,ge_iff_le];lia
theorem Jw.new(T:Jw t n)(es:Array<|Int×B6)(hn:es.size=n)(h4:n<4)(h:Int)(x:B6) :
  ∃es' t' wd gv,layNew t es h x=(es',t',wd,gv)/\es'.size=n+1/\Jw t' (n+1)/\∀e∈es'.toList,e∈es.toList\/e=(h,x):=by
 have hi:∀p,∀e∈(insertAt es p (h,x)).toList,e∈es.toList\/e=(h,x):=λp e he=>by
  have:=(insertAt_perm es p (h,x)).mem_iff.mp he;rw[Array.toList_push] at this;rcases xAj.mp this with z|z
  .exact .inl z
  .exact .inr<|xAm.mp z
 unfold layNew;cases t.freeSlot h with
 |none=>
  refine⟨_,_,_,_,rfl,by rw[Array.size_push,hn],⟨by show 7<=4*(es.size+1)+4;lia,by show(Array.range<|es.size+1).size=_;rw[Array.size_range,hn],rfl⟩,λe he=>?_⟩;rw[Array.toList_push] at he;rcases xAj.mp he with z|z
  .exact .inl z
  .exact .inr<|xAm.mp z
 |some r=>
  let⟨j,wd⟩:=r;have T':Jw (t.put j).1<|n+1:=⟨T.msk,by show(insertAt t.place (below t.place j) j).size=n+1;rw[fc,T.sz],by show(if has t.dummies j then eraseAt t.dummies (below t.dummies j) else t.dummies)=#[];rw[T.dm];rfl⟩
  have e:(insertAt es (t.put j).2 (h,x)).size=n+1:=by rw[fc,hn]
  refine⟨_,_,_,_,rfl,e,?_,hi _⟩;show Jw ((t.put j).1.orStandIn (insertAt es (t.put j).2 (h,x)).size)<|n+1;unfold SetTable.orStandIn;rw[e,T'.fits h4];exact T'
def ZOk(w:World)(ks:C0)(l:B4<|Int×B6):Prop:=∀e∈l,∃k t,k∈ks/\e=(hashStr w k,Value.str k t)
def ZIn(w:World)(h:Heap)(a:B9)(n:Nat)(ks:C0):Prop:=∃es ep t,h.get? a=some (zA4 es ep t)/\es.size=n/\Jw t n/\ZOk w ks es.toList
def ZIn.at'{w:World}{ks:C0}(S:ZIn w h a n ks)(e:∀o,h.get? a=some o->h'.get? a=some o):ZIn w h' a n ks:=by
 let⟨es,ep,t,q,r⟩:=S;exact⟨es,ep,t,e _ q,r⟩
section
variable{prog:Program}{w:World}{A:Around}{E:B6->B7->Prop}{s:B7}{a:B9}{n:Nat}{ks:C0}
def ZIn.add(S:ZIn w s.heap a n ks)(h4:n<4){k:Str}(hm:k∉ks){tk:Tok}{Q:B'->B7->Prop}(h:∀h':Heap,Heap.SameBut a s.heap h'->ZIn w h' a (n+1) (k::ks)->Q true {s with heap:=h'}):wpAny (model prog w) A (setAddHashed a (.str k tk)<|hashStr w k) Q E s:=by
 let⟨es,ep,t,ob,hn,T,hz⟩:=S;have hf:t.fits es.size=true:=by rw[hn];exact T.fits<|Nat.le_of_lt h4
 have hkey:(PySem.strKind prog w).is k (.str k tk)=true:=by simp[PySem.strKind,Value.isStrOf]
 have hel:ElemsOf (PySem.strKind prog w) es.toList:=λe he=>by
  let⟨k',t',_,rfl⟩:=hz e he;exact⟨⟨k',by simp[PySem.strKind,Value.isStrOf],rfl⟩,rfl⟩
 unfold setAddHashed setAddHashedIn;refine xDc<|xAd<|wpAny_setState_of ob rfl hf ?_;dsimp only;rw[byScan_of (x:=.str k tk) rfl (by rw[hn];have:scanBound=4096:=rfl;lia) hel];simp only[↓reduceIte];unfold setAddByScan;erw[<-xAd<|xAd<|wpAny_rule ?_,<-xAd<|wpAny_setScan_of (knd:=PySem.strKind prog w) hkey ob rfl hf hel ?_];have hno:es.toList.findIdx? (λe=>(PySem.strKind prog w).is k e.2)=none:=List.findIdx?_eq_none_iff.mpr λe he=>by
  let⟨k',t',h1,rfl⟩:=hz e he;have:k'≠k:=λz=>hm<|z▸h1;simp[PySem.strKind,Value.isStrOf,this]
 rw[hno];dsimp only;let⟨es',t',wd,gv,e,l1,l2,l3⟩:=T.new es hn h4 (hashStr w k)<|.str k tk;rw[e];dsimp only;have done:∀t2:SetTable,Jw t2 (n+1)->Q true { s with heap:=s.heap.update a (Obj.putSet es' t2) }:=λt2 T2=>h _ (Heap.SameBut.update s.heap a<|Obj.putSet es' t2) ⟨es',ep+1,t2,by
  have:=Heap.get?_update_self (Obj.putSet es' t2) ob (by rw[putSet_of es' t2 rfl];rfl);rw[putSet_of es' t2 rfl] at this;exact this,l1,T2,λe he=>by
  rcases l3 e he with z|z
  .let⟨k',t',h1,h2⟩:=hz e z;exact⟨k',t',xAs _ h1,h2⟩
  .exact⟨k,tk,xAr,z⟩⟩
 have hz1:es'.size<=sizeLine:=fits_of_scanBound (by rw[l1];have:scanBound=4096:=rfl;lia);have fu:∀b:B',({t' with plain:=b}:SetTable).tooFull=false:=λb=>Jw.full ⟨l2.msk,l2.sz,l2.dm⟩ h4;have f0:=l2.full h4;cases gv
 .refine xAd<|xAe ?_;cases hp:t'.plain with
  |true=>
   simp only[↓reduceIte];erw[xAd];rw[hashByValue_scannable 8 rfl];erw[xAe];cases plainKind (Value.str k tk) with
   |true=>
    simp only[↓reduceIte];refine xAd<|wpAny_storeSet_of ob rfl ?_ hz1;rw[f0,Bool.and_false];simp only[xAz,↓reduceIte];exact xAe<|xAe<|done t' l2
   |false=>
    simp only[xAz,↓reduceIte];refine xAd<|wpAny_storeSet_of ob rfl ?_ hz1;rw[fu,Bool.and_false];simp only[xAz,↓reduceIte];exact xAe<|xAe<|done _ ⟨l2.msk,l2.sz,l2.dm⟩
  |false=>
   simp only[xAz,↓reduceIte];refine xAd<|xAe ?_;simp only[↓reduceIte];refine xAd<|wpAny_storeSet_of ob rfl ?_ hz1;rw[f0,Bool.and_false];simp only[xAz,↓reduceIte];exact xAe<|xAe<|done t' l2
 .refine xAd<|wpAny_rule ?_;cases hp:t'.plain with
  |true=>
   simp only[↓reduceIte];erw[xAd];rw[hashByValue_scannable 8 rfl];erw[xAe];cases plainKind (Value.str k tk) with
   |true=>
    simp only[↓reduceIte];refine xAd<|wpAny_storeSet_of ob rfl ?_ hz1;rw[f0,Bool.and_false];simp only[xAz,↓reduceIte];exact xAe<|xAe<|done t' l2
   |false=>
    simp only[xAz,↓reduceIte];refine xAd<|wpAny_storeSet_of ob rfl ?_ hz1;rw[fu,Bool.and_false];simp only[xAz,↓reduceIte];exact xAe<|xAe<|done _ ⟨l2.msk,l2.sz,l2.dm⟩
  |false=>
   simp only[xAz,↓reduceIte];refine xAd<|xAe ?_;simp only[↓reduceIte];refine xAd<|wpAny_storeSet_of ob rfl ?_ hz1;rw[f0,Bool.and_false];simp only[xAz,↓reduceIte];exact xAe<|xAe<|done t' l2
end
section
variable{prog:Program}{w:World}{A:Around}{R:Result->B7->Prop}{I S:B9}{fp wr:B4 B9}{G:Array GenState->Array GenState->Prop}{n:Nat}{P:Nat->B6->Prop}{St:Nat->B7->Prop}
theorem fill(W:WalksS prog w A.in1 I fp wr G n P St)(hSf:S∉fp){val:Nat->Str}(hval:∀i v,P i v->∃t,v=.str (val i) t)(hin:∀i j,i<j->j<n->val i≠val j)(hn:n<=4):∀(k i:Nat)(s:B7)(ks:C0),i+k=n->St i s->ZIn w s.heap S i ks->(∀x∈ks,∃j,j<i/\val j=x)->(∀s',Moved (S::wr) G s s'->zB1 s'.heap S n->R (.ok<|.ret .none) s')->codeAny (model prog w) A (.builtin "set.update.loop" ⟨[.ref S,.ref I],[]⟩) R s:=by
 have hSw:S∉wr:=λh=>hSf<|W.sub _ h;have hsu:∀b∈wr,b∈S::wr:=λb hb=>xAs _ hb;intro k;induction k with
 |zero=>
  intro i s ks hk hst hS hm hR;obtain rfl:i=n:=hk;erw[codeAny_builtin PyProof.Rows.F.entry_set_update_loop];rw[Around.under_plainId PyProof.Rows.F.plain_set_update_loop _];change wpAny _ A.in1 (pyNext (.ref I)>>=_) _ _ s;refine xAd (W.done s _ _ hst λs' mv=>?_);change wpAny _ A.in1 (ret Value.none) _ _ s';let⟨es,ep,t,q,r,T,_⟩:=hS;exact xAe<|hR s' (mv.mono hsu) ⟨es,ep,t,mv.heap S _ hSw q,r,T.fits hn⟩
 |succ k ih=>
  intro i s ks hk hst hS hm hR;have hlt:i<n:=by lia
  erw[codeAny_builtin PyProof.Rows.F.entry_set_update_loop];rw[Around.under_plainId PyProof.Rows.F.plain_set_update_loop _];change wpAny _ A.in1 (pyNext (.ref I)>>=_) _ _ s;refine xAd (W.item i s _ _ hlt hst λv s' hP hst' mv=>?_);let⟨t,rfl⟩:=hval i v hP;change wpAny _ A.in1 (holding [Value.str (val i) t] (setAdd S<|.str (val i) t)>>=_) _ _ s';refine xAd<|xDc ?_;unfold setAdd;erw[xDc,<-xAd<|(PySem.strKind prog w).pyHash (k:=val i) (PySem.strKind_is _ _ _ _) ?_,<-ZIn.add (s:={s' with toks:=s'.toks+1}) (hS.at' λo e=>mv.heap S _ hSw e) () (λz=>by let⟨j,z1,z2⟩:=hm _ z;exact hin j i z1 hlt z2) λh' c1 c2=>?_,<-xAe ⟨plainId_quiet PyProof.Rows.F.plain_set_update_loop _,ih (i+1) _ _ () (W.frame _ s' _ _ hst' (Nat.le_succ _) λb hb o e=>?_) c2 (λx hx=>?_) λs'' mv2 d1=>?_⟩]
  .rw[c1.2 b λh:b=S=>hSf<|by rw[<- h];exact hb];exact e
  .rcases xAv.mp hx with rfl|hx
   .exact⟨i,(),rfl⟩
   .let⟨j,z1,z2⟩:=hm x hx;exact⟨j,(),z2⟩
  .refine hR s'' (Moved.trans W.gtrans ((mv.mono hsu).then_heap (Nat.le_succ _) λb o hb e=>?_) mv2) d1;rw[c1.2 b λh:b=S=>hb<|by rw[h];exact xAr];exact e
end
section
variable{prog:Program}{w:World}{A:Around}{E:B6->B7->Prop}{s:B7}
theorem set_tupleZ{l:B9}{items:Array B6}{Q:B6->B7->Prop}(hh:A.handled=none)(hl:s.heap.IsTuple l items){val:Nat->Str}(hi:∀(i:Nat)(v:B6),items[i]?=some v->∃t,v=.str (val i) t)(hin:∀i j,i<j->j<items.size->val i≠val j)(hb:items.size<=4)(h:∀(h':Heap)(tk:Nat),zB1 h' s.heap.objs.size items.size->(∀b o,s.heap.get? b=some o->h'.get? b=some o)->s.toks<=tk->Q (.ref s.heap.objs.size) {s with heap:=h',toks:=tk}) :
  wpAny (model prog w) A (call (.type "set") [.ref l]) Q E s:=by
 let⟨c,tl,hmro⟩:=PySem.F.called_set.mro;have hmade:=PySem.F.called_set.made;have hsub:=PySem.F.called_set.sub;refine wpAny_call<|codeAny_of_tree ?_;change wpAny _ _ (callAny (.type "set") _) _ _ _;refine xAe ⟨Code.quiet_builtin _ (by decide +kernel),codeAny_builtin PySem.F.entry_type_call ?_⟩;rw[Around.under_plain (weight_type_call_type "set" [.ref l] []) rfl];have q1:=PySem.F.called_set.notType;have q2:=PySem.F.called_set.canCreate;have q3:=PySem.F.typeCall_set_1<|.ref l;repeat (any_goals (first|assumption|wp_step))
 refine codeAny_mono (ux (.ref l) (E:=E) (Q₁:=λobj s₁=>∃led:B',(led=true\/w.params.followText "set-order"=true)/\obj=.ref s.heap.objs.size/\s₁={s with heap:=s.heap.push<|zA4 #[] 0 (.fresh 0 0 led)}) λled hld=>⟨led,hld,rfl,rfl⟩) λr s₁ hr=>?_;cases r with
 |error e=>exact hr
 |ok fl=>
  cases fl with
  |ret obj=>
   let⟨led,hld,rfl,rfl⟩:=hr;have P0:(s.heap.push<|zA4 #[] 0 (.fresh 0 0 led)).get? s.heap.objs.size=some (zA4 #[] 0 (.fresh 0 0 led)):=xAl _ rfl;have hT:Shared.TypeIs {s with heap:=s.heap.push<|zA4 #[] 0 (.fresh 0 0 led)} (.ref s.heap.objs.size) "set":=⟨_,P0,rfl⟩
   have hli:=PySem.F.called_set.init.lookup;have hbi:=PySem.F.called_set.init.bind<|.ref s.heap.objs.size;repeat (any_goals (first|assumption|wp_step))
   refine codeAny_mono (codeAny_call_builtin (R:=wants (λr s₂=>r = .none/\∃h' tk,s₂={ s with heap:=h',toks:=tk }/\zB1 h' s.heap.objs.size items.size /\
     (∀b o,s.heap.get? b=some o->h'.get? b=some o)/\s.toks<=tk) E) PySem.F.called_set.init.plain PySem.F.entry_set_init<|check_set_init_1 hT ?_) λr₂ s₂ hr₂=>?_
   .let⟨ol,hol,hcl,nl,hdl⟩:=hl;let⟨ocls,odict,odata,oslots⟩:=ol;simp only at hcl hdl;subst hcl;subst hdl;have hol1:(s.heap.push<|zA4 #[] 0 (.fresh 0 0 led)).get? l=some {cls:=.type "tuple",dict:=odict,data:=.seq items nl,slots:=oslots}:=xAf _ hol;have q4:=PySem.F.sub_tuple_set;have q5:=PySem.F.sub_tuple_frozenset;have q6:(Value.type "tuple" == Value.type "dict")=false:=by decide
    have hl1:(s.heap.push<|zA4 #[] 0 (.fresh 0 0 led)).IsTuple l items:=⟨_,hol1,rfl,nl,rfl⟩
    unfold Builtin.«set.__init__» noKeywords Builtin.Frozenset.updateFrom;generalize hPI:pyIter=PI;wp_walk
    subst hPI;erw[wpAny_pyIter_tuple hl1,<-xAd<|wpAny_runValue ?_];have hlS:l<s.heap.objs.size:=xA1 hol;have hh3:A.in1.in1.in1.handled=none:=by simp[hh]
    have hneI:l≠(s.heap.push<|zA4 #[] 0 (.fresh 0 0 led)).objs.size:=by
     rw[Heap.size_push];exact xA0<|Nat.lt_succ_of_lt hlS
    have hSf:s.heap.objs.size∉[(s.heap.push<|zA4 #[] 0 (.fresh 0 0 led)).objs.size,l]:=by
     rw[Heap.size_push];simp only[xAv,xBv,or_false,not_or];exact⟨xA0<|Nat.lt_succ_self _,Nat.ne_of_gt hlS⟩
    refine fill ((Walks.tuple hh3 _ l hneI items).toS) hSf hi hin hb items.size 0 _ [] (Nat.zero_add _)
     ⟨⟨_,xAl _ rfl,rfl,rfl⟩,(hl1.push _)⟩ ⟨#[],0,_,xAf _ P0,rfl,⟨xAg _,rfl,rfl⟩,λe he=>absurd he ⋯⟩ (λ_ z=>absurd z ⋯) ?hR
    case hR=>
     intro s' mv d1;let⟨h',g',d',tk',os'⟩:=s';have eg:g'=s.gens:=mv.gens;have ed:d'=s.drawn:=mv.drawn;have eo:os'=s.os:=mv.os;have et:s.toks<=tk':=mv.toks;subst eg;subst ed;subst eo;change wpAny _ _ _ _ _ _;erw[xAe];change wpAny _ _ (ret Value.none) _ _ _;refine xAe ⟨rfl,h',tk',rfl,d1,λb o e=>?_,et⟩
     .have hb0:=xA1 e;have hb1:b≠s.heap.objs.size:=xA0 hb0;have hb2:b≠(s.heap.push<|zA4 #[] 0 (.fresh 0 0 led)).objs.size:=by
       rw[Heap.size_push];exact xA0<|Nat.lt_succ_of_lt hb0
      exact mv.heap b o (by simp only[xAv,xBv,or_false,not_or];exact⟨hb1,hb2⟩)<|xAf _<|xAf _ e
   .cases r₂ with
    |error e=>exact hr₂
    |ok fl₂ =>
     cases fl₂ with
     |ret r=>
      let⟨rfl,h',tk,rfl,z1,z4,z5⟩:=hr₂;repeat (any_goals (first|assumption|wp_step))
      exact h _ _ z1 z4 z5
     |_=>exact hr₂.elim
  |_=>exact hr.elim
end
end SetA
namespace L2
open PySem PySem.Spec PyProof.Rows SetA
def zHx(p:B9)(n:Nat):HO:=HO.ext λh=>zB1 h p n
def vL{P:Program}{w:World}{H:Hp}{h:Heap}{p:B9}{n:Nat}(S:zB1 h p n):zAf P w H h p<|zHx p n:=
 ⟨S,let ⟨_,_,_,q,_⟩:=S;⟨_,q⟩,λh1 h2 q k=>q.at' k⟩
def zHq:C6->Hp->VK->Prop:=λxs H Q=>∃(p:B9) (ns:C0),xs=[.ref p]/\H p=some (.tup<|ns.map V.str)/\ns.length<=4/\ns.Nodup/\∀l:B9,H l=none->Q (.ref l) (upd H l<|zHx l ns.length)
def zHr:C6->Hp->VK->Prop:=λxs H Q=>∃p n,xs=[V.ref p]/\H p=some (zHx p n)/\n<=100000/\Q (.int n) H
section
variable{X:Cx}
def uN(hc:X.calm=true):zAn X (.type "set") zHq:=by
 intro Z s O H xs us Q I r h;let⟨p,ns,rfl,hS,hl,hnd,h⟩:=h;let⟨u,rfl,ru⟩:=zBe r;obtain rfl:u=Value.ref p:=ru;let⟨its,r1,t1,z1⟩:=I.tuple<|SqT.of hS;have hlen:=r1.length;rw[xAa] at hlen;refine SetA.set_tupleZ (val:=λi=>ns.getD i Str.empty) (I.ok.hd hc) t1 (λi v hv=>?_) (λi j h1 h2=>?_) (by simp only[xAp];lia) λh' tk c1 c4 c5=>?_
 .have hil:i<ns.length:=by
   have:=(Array.getElem?_eq_some_iff.mp hv).1;simp only[xAp] at this;lia
  let⟨u,e,t,ru⟩:=r1.get (i:=i) (x:=.str ns[i]) (by rw[xAw,xAk hil];rfl);rw[List.getElem?_toArray,e] at hv;cases hv;refine⟨t,?_⟩;rw[xBz,xAk hil];exact ru
 .have hj:j<ns.length:=by
   simp only[xAp] at h2;lia
  rw[xBz,xBz,xAk hj,xAk<|Nat.lt_trans h1 hj];exact List.pairwise_iff_getElem.mp hnd i j (Nat.lt_trans h1 hj) hj h1
 .rw[show its.toArray.size=ns.length by rw[xAp];lia] at c1;have hfr:s.heap.get? s.heap.objs.size=none:=by
   cases z:s.heap.get? s.heap.objs.size with
   |none=>rfl
   |some o=>exact absurd (xA1 z) (Nat.lt_irrefl _)
  let⟨hfree,I2⟩:=Inv.laidN (t':=tk) I c4 hfr<|vL c1;exact⟨.ref s.heap.objs.size,_,I2,rfl,h _ hfree⟩
def uP:zAn X (.builtin "len") zHr:=by
 intro Z s O H xs us Q I r h;let⟨p,n,rfl,hS,hl,q⟩:=h;let⟨u,rfl,ru⟩:=zBe r;obtain rfl:u=Value.ref p:=ru;obtain⟨es,ep,t,S,rfl,hb⟩:zB1 s.heap p n:=(I.hok p _ hS).1;exact call_len_set S ⟨rfl,rfl,rfl⟩ rfl hb () ⟨.int es.size,H,I.tok _,⟨_,rfl⟩,q⟩
end
end L2
namespace Fx
open PySem PySem.Spec L2
variable{X:Cx}{xs:C3}{n:Nat}{ys:B4 V}
def OpR.or{f:B6->B6->Sem B6}{r r':R2}(h:OpR X f r)(h':OpR X f r'):OpR X f λx y H Q=>r x y H Q\/r' x y H Q:=by
 intro Z s O H x y v u Q I rx ry q;rcases q with q|q
 .exact h Z s O H x y v u Q I rx ry q
 .exact h' Z s O H x y v u Q I rx ry q
def zAn.or{f:B6}{r r':B4 V->Hp->VK->Prop}(h:zAn X f r)(h':zAn X f r'):zAn X f λxs H Q=>r xs H Q\/r' xs H Q:=by
 intro Z s O H xs us Q I rx q;rcases q with q|q
 .exact h Z s O H xs us Q I rx q
 .exact h' Z s O H xs us Q I rx q
def SlR.or{r r':V->B5 Int->B5 Int->Hp->VK->Prop}(h:SlR X r)(h':SlR X r'):SlR X λx a b H Q=>r x a b H Q\/r' x a b H Q:=by
 intro Z s O H x v vl vu lo hi sl Q I rx hs pl pu q;rcases q with q|q
 .exact h Z s O H x v vl vu lo hi sl Q I rx hs pl pu q
 .exact h' Z s O H x v vl vu lo hi sl Q I rx hs pl pu q
section
variable{B:Bs}{W:Wd}{S S':So}{H:Hp}{v w z:U}{u u1 u2:V}{vs:C3}{us:B4 V}{Q:VK}
theorem c7(rs:RS B W S H)(rv:Rv B W v u)(h:lsT S v=some xs):∃p ys,u=.ref p/\H p=some (.lst ys)/\Rvs B W xs ys:=by
 cases v with
 |lst _=>cases h;let⟨p,ys,e,f,r⟩:=rv;exact⟨p,ys,e,rs.fz _ _ f,r⟩
 |ref a=>
  unfold lsT at h;dsimp only at h;let⟨p,rfl,hm⟩:=rv;cases e:at? S a with
  |none=>rw[e] at h;cases h
  |some o=>
   rw[e] at h;cases o <;> cases h
   let⟨p',g,hp,hh,ro,_⟩:=rs.here e;rw[hm] at hp;cases hp;let⟨ys,rfl,r⟩:=ro;exact⟨p,ys,rfl,hh,r⟩
 |_=>cases h
theorem gO(rs:RS B W S H)(rv:Rv B W v u)(h:lsU S v=some xs):∃p ys,u=.ref p/\SqL B.K H p ys/\Rvs B W xs ys:=by
 cases v with
 |kl _=>cases h;let⟨p,ys,e,f,r⟩:=rv;exact⟨p,ys,e,ff rs.fz f,r⟩
 |lst _=>let⟨p,ys,e,f,r⟩:=c7 (S:=S) rs rv (xs:=xs) h;exact⟨p,ys,e,.of f,r⟩
 |ref a=>let⟨p,ys,e,f,r⟩:=c7 (S:=S) rs rv (xs:=xs) h;exact⟨p,ys,e,.of f,r⟩
 |_=>cases h
theorem fL(rs:RS B W S H)(rv:Rv B W v u)(h:sqU S v=some xs):∃p ys,u=.ref p/\(SqL B.K H p ys\/SqT B.K H p ys)/\Rvs B W xs ys:=by
 cases v with
 |tup _=>cases h;let⟨p,ys,e,f,r⟩:=rv;exact⟨p,ys,e,.inr<|.of<|rs.fz _ _ f,r⟩
 |kt _=>cases h;let⟨p,ys,e,f,r⟩:=rv;exact⟨p,ys,e,.inr<|f H,r⟩
 |kl _=>let⟨p,ys,e,f,r⟩:=gO (S:=S) rs rv (xs:=xs) h;exact⟨p,ys,e,.inl f,r⟩
 |lst _=>let⟨p,ys,e,f,r⟩:=gO (S:=S) rs rv (xs:=xs) h;exact⟨p,ys,e,.inl f,r⟩
 |ref a=>let⟨p,ys,e,f,r⟩:=gO (S:=S) rs rv (xs:=xs) h;exact⟨p,ys,e,.inl f,r⟩
 |_=>cases h
def VL.here(h:VL B W Q z S)(rs:RS B W S H)(rv:Rv B W z u):Q u H:=h W u H .refl rs rv
theorem VL.tup(h:VL B W Q (.tup vs) S)(rs:RS B W S H)(rv:Rvs B W vs us){p:B9}(e:H p=none):Q (.ref p)<|upd H p<|.tup us:=by
 let⟨le,rs'⟩:=rs.fresh (o:=.tup us) e;exact h _ _ _ le rs' ⟨p,us,rfl,ce,rv.mono le⟩
theorem gN{m:B'}(e:mkL m vs S=.ok z S')(h:VL B W Q z S')(rs:RS B W S H)(rv:Rvs B W vs us){p:B9}(hp:H p=none):Q (.ref p)<|upd H p<|.lst us:=by
 cases m with
 |true=>
  cases e;have le:W.Le {W with μ:=W.μ++[p]}:=⟨λ_ _ h=>h,λ_ _ h=>dh h,rfl⟩
  let⟨_,rs',ha⟩:=rs.push (o:=.lst vs) (h:=.lst us) hp ⟨us,rfl,rv.mono le⟩;exact h _ _ _ le rs' ⟨p,rfl,ha⟩
 |false=>
  cases e;let⟨le,rs'⟩:=rs.fresh (o:=.lst us) hp;exact h _ _ _ le rs' ⟨p,us,rfl,ce,rv.mono le⟩
def du{r:Res}(h:fits n r=.ok z S'):n<=sizeLine/\r=.ok z S':=by
 unfold fits at h;split at h
 .next e=>exact⟨xCo e,h⟩
 .cases h
def nG(r:Rvs B W xs ys)(lo hi:B5 Int):Rvs B W (zDl xs lo hi)<|zDv ys lo hi:=by
 unfold zDl zDv;rw[r.length];exact(r.drop _).take _
def jj(f:zAs v=true)(r:Rv B W v u):zBm u=true:=by
 cases v <;> first|(cases f;done)|(rw[show u=_ from r];rfl)
theorem jZ:∀{vs:C3}{us:B4 V},vs.all zAs=true->Rvs B W vs us->us.all zBm=true
 |[],_,_,r=>by rw[show _=[] from r];rfl
 |x::xs,_,f,r=>by
  let⟨v,t,rfl,h1,h2⟩:=r;rw[xCj,xCh] at f;rw[xCj,jj f.1 h1,jZ f.2 h2];rfl
def yp(fv:zAs v=true)(fw:zAs w=true)(r1:Rv B W v u1)(r2:Rv B W w u2):eqV u1 u2=eqF v w:=by
 cases v <;> first|(cases fv;done)|(cases w <;> first|(cases fw;done)|(rw[show u1=_ from r1,show u2=_ from r2];rfl))
theorem nN(f:zAs v=true)(r:Rv B W v u):∀{vs:C3}{us:B4 V},vs.all zAs=true->Rvs B W vs us->inV u us=zA7 v vs
 |[],_,_,q=>by rw[show _=[] from q];rfl
 |x::xs,_,g,q=>by
  let⟨y,t,rfl,h1,h2⟩:=q;rw[xCj,xCh] at g;show(eqV y u||inV u t)=_;rw[nN f r g.2 h2,yp g.1 f h1 r];rfl
theorem yN(r:Rvs B W xs ys){i:Int}(h:atI xs i=some v):∃y,atI ys i=some y/\Rv B W v y:=by
 unfold atI at h⊢;rw[r.length];cases e:ixN xs.length i with
 |none=>rw[e] at h;cases h
 |some j=>rw[e] at h;exact r.get h
theorem f9{κ:Type} [DecidableEq κ] {k:κ}:∀{kvs:B4<|κ×U}{vs:B4<|κ×V},Rn B W kvs vs->(∀v,zAq k kvs=some v->∃u,zB8 vs k=some u/\Rv B W v u)/\(zAq k kvs=none->zB8 vs k=none)
 |[],_,r=>by rw[show _=[] from r];exact⟨(λv h=>nomatch h),λ_=>rfl⟩
 |(j,x)::t,_,r=>by
  let⟨v,q,rfl,h1,h2⟩:=r;by_cases e:j=k
  .subst e;rw[fk rfl];unfold zAq;rw[xCg rfl];exact⟨λv' h=>by cases h;exact⟨v,rfl,h1⟩,(λh=>nomatch h)⟩
  .rw[fm e];unfold zAq;rw[xCf e];exact f9 h2
def gq{k:Key}(h:zEr v=some k)(r:Rv B W v u):u=kV k:=by
 cases v <;> first|(cases h;exact r)|(cases h;done)
theorem jU:∀{xs:C3}{ks:B4 Key}{ys:B4 V},zEd xs=some ks->Rvs B W xs ys->ys=ks.map kV
 |[],_,_,h,r=>by cases h;exact r
 |x::xs,ks,_,h,r=>by
  let⟨y,ys,rfl,r1,r2⟩:=r;let⟨k,e1,h⟩:=xCi.mp h;let⟨ks',e2,rfl⟩:=Option.map_eq_some_iff.mp h;rw[gq e1 r1,jU e2 r2];rfl
def mZ{ks:B4 Key}(rs:RS B W S H)(h:zGj v=some ks)(r:Rv B W v u):∃b,u=.ref b/\H b=some (.tup<|ks.map kV):=by
 cases v <;> try (cases h;done)
 let⟨p,ys,rfl,f,r⟩:=r;exact⟨p,rfl,by rw[<- jU h r];exact rs.fz _ _ f⟩
theorem dF{f:U->U->B'}{R:V->V->Prop}(hf:∀x y a b,f x y=true->Rv B W x a->Rv B W y b->R a b):∀{xs ys:C3}{as bs:B4 V},zA9 f xs ys=true->Rvs B W xs as->Rvs B W ys bs->as.length=bs.length/\∀(j:Nat)(x y:V),as[j]?=some x->bs[j]?=some y->R x y
 |[],[],_,_,_,r,q=>by rw[show _=[] from r,show _=[] from q];exact⟨rfl,λj x y h=>by simp at h⟩
 |[],_::_,_,_,h,_,_=>by cases h
 |_::_,[],_,_,h,_,_=>by cases h
 |x::xs,y::ys,_,_,h,r,q=>by
  let⟨a,t,rfl,r1,r2⟩:=r;let⟨b,t',rfl,q1,q2⟩:=q;unfold zA9 at h;rw[xCh] at h;let⟨l,z⟩:=dF hf h.2 r2 q2;refine⟨by simp[l],λj x' y' e1 e2=>?_⟩;cases j with
  |zero=>simp at e1 e2;subst e1 e2;exact hf _ _ _ _ h.1 r1 q1
  |succ j=>exact z j x' y' (by simpa using e1) (by simpa using e2)
def lA{c:B'}(h:eqS v w=some c)(r1:Rv B W v u1)(r2:Rv B W w u2):scal u1 u2=true/\decide (u1=u2)=c:=by
 let⟨a,h1,h⟩:=xCi.mp h;let⟨b,h2,h⟩:=xCi.mp h;rw[zg h1] at r1;rw[zg h2] at r2;cases a <;> cases b <;> first|(rw[show u1=_ from r1,show u2=_ from r2];refine⟨rfl,?_⟩;cases h;first|rfl|simp)|(cases h;done)
def fM(h:(zAs v&&zAs w&&eqS v w==some true)=true)(r1:Rv B W v u1)(r2:Rv B W w u2):Al H n u1 u2:=by
 simp only[xCh,beq_iff_eq] at h;let⟨⟨f1,f2⟩,e⟩:=h;have:u1=u2:=xBe (lA e r1 r2).2;subst this;exact .flat<|jj f1 r1
theorem ga(rs:RS B W S H):∀{n:Nat}{v w:U}{u1 u2:V},same S n v w=true->Rv B W v u1->Rv B W w u2->Al H n u1 u2
 |0,v,w,u1,u2,h,r1,r2=>fM (by unfold same at h;exact h) r1 r2
 |n+1,v,w,u1,u2,h,r1,r2=>by
  have key:(match lsT S v,lsT S w with
   |some xs,some ys=>zA9 (same S n) xs ys
   |_,_=>zAs v&&zAs w&&eqS v w==some true)=true->Al H (n+1) u1 u2:=λh=>by
   cases e1:lsT S v with
   |none=>rw[e1] at h;exact fM h r1 r2
   |some xs=>
    cases e2:lsT S w with
    |none=>rw[e1,e2] at h;exact fM h r1 r2
    |some ys=>
     rw[e1,e2] at h;let⟨p,as,rfl,hp,q1⟩:=c7 rs r1 e1;let⟨p',bs,rfl,hp',q2⟩:=c7 rs r2 e2;let⟨l,z⟩:=dF (λx y a b hs ra rb=>ga rs hs ra rb) h q1 q2;exact .lst hp hp' l z
  unfold same at h;cases v <;> first | exact key h | (cases w <;> first | exact key h | (
   let⟨p,as,rfl,f1,q1⟩:=r1;let⟨p',bs,rfl,f2,q2⟩:=r2;let⟨l,z⟩:=dF (λx y a b hs ra rb=>ga rs hs ra rb) h q1 q2;exact .tup (rs.fz _ _ f1) (rs.fz _ _ f2) l z))
end
end Fx
namespace Fx
open PySem PySem.Spec L2 PyProof.Rows
variable{X:Cx}{S:So}{H:Hp}{v:U}{u1 u2:V}{b:B'}{Q:VK}
def Pr2(B:Bs)(up:B4<|Str×Str)(p:Pm)(r:R2):Prop:=∀{W:Wd}{S:So}{H:Hp}{v w:U}{u1 u2:V}{z:U}{S':So}{Q:VK},RS B W S H->Rv B W v u1->Rv B W w u2->pr up p [v,w] S=.ok z S'->VL B W Q z S'->r u1 u2 H Q
def Pr1(B:Bs)(up:B4<|Str×Str)(p:Pm)(r:V->Hp->VK->Prop):Prop:=∀{W:Wd}{S:So}{H:Hp}{v:U}{u1:V}{z:U}{S':So}{Q:VK},RS B W S H->Rv B W v u1->pr up p [v] S=.ok z S'->VL B W Q z S'->r u1 H Q
def PrN(B:Bs)(up:B4<|Str×Str)(p:Pm)(r:B4 V->Hp->VK->Prop):Prop:=∀{W:Wd}{S:So}{H:Hp}{vs:C3}{us:B4 V}{z:U}{S':So}{Q:VK},RS B W S H->Rvs B W vs us->pr up p vs S=.ok z S'->VL B W Q z S'->r us H Q
section
variable{B:Bs}{up:B4<|Str×Str}
def rOr(r r':R2):R2:=λx y H Q=>r x y H Q\/r' x y H Q
def zIl(K:xFr):R2:=rOr (rI0 λi j=>.int<|i+j)<|rOr (zFh K) zIk
def zW{m:B'}:Pr2 B up (.add m)<|zIl B.K:=by
 intro W S H v w u1 u2 z S' Q rs r1 r2 h q;change zHw m v w S=_ at h;unfold zHw at h;split at h
 .cases h;exact .inl ⟨_,_,r1,r2,q.here rs rfl⟩
 .let⟨hl,e⟩:=du h;cases e;let⟨p,xs,rfl,f1,q1⟩:=r1;let⟨p',ys,rfl,f2,q2⟩:=r2;refine .inr<|.inl ⟨p,p',xs,ys,rfl,rfl,rs.fz _ _ f1,rs.fz _ _ f2,by rw[q1.length,q2.length];exact hl,λp2 H2 sm hp=>?_⟩;let⟨le,rs2⟩:=(rs.same sm).addT hp;exact q _ _ _ le rs2 ⟨p2,_,rfl,ce,(q1.app q2).mono le⟩
 .split at h
  .next e1 e2=>
   let⟨hl,e⟩:=du h;let⟨p,xs,rfl,f1,q1⟩:=c7 rs r1 e1;let⟨p',ys,rfl,f2,q2⟩:=c7 rs r2 e2;exact .inr<|.inr ⟨p,p',xs,ys,rfl,rfl,f1,f2,by rw[q1.length,q2.length];exact hl,λp2 hp=>gN e q rs (q1.app q2) hp⟩
  .cases h
def Aa:OpR X (binaryOp .Add)<|zIl X.K:=OpR.or xk<|OpR.or uc xj
def ni{f:Int->Int->U}{vs:C3}{z:U}{S':So}(h:i2 f S vs=.ok z S'):∃i j,vs=[.int i,.int j]/\z=f i j/\S'=S:=by
 unfold i2 at h;split at h
 .cases h;exact⟨_,_,rfl,rfl,rfl⟩
 .cases h
def qu{p:Pm}{f:Int->Int->U}{g:Int->Int->V}(hp:∀vs S,pr up p vs S=i2 f S vs)(hf:∀W i j,Rv B W (f i j)<|g i j):Pr2 B up p<|rI0 g:=by
 intro W S H v w u1 u2 z S' Q rs r1 r2 h q;rw[hp] at h;let⟨i,j,e,rfl,rfl⟩:=ni h;cases e;exact⟨i,j,r1,r2,q.here rs<|hf _ _ _⟩
def zF:Pr2 B up .sub<|rI0 λi j=>.int<|i-j:=qu (f:=λi j=>.int<|i-j) (λ_ _=>rfl) λ_ _ _=>rfl
def zO:Pr2 B up .lt<|rI0 λi j=>.bl<|decide<|i<j:=qu (f:=λi j=>.bl<|decide<|i<j) (λ_ _=>rfl) λ_ _ _=>rfl
def zQ:Pr2 B up .le<|rI0 λi j=>.bl<|decide<|i<=j:=qu (f:=λi j=>.bl<|decide<|i<=j) (λ_ _=>rfl) λ_ _ _=>rfl
def zR:Pr2 B up .gt<|rI0 λi j=>.bl<|decide<|j<i:=qu (f:=λi j=>.bl<|decide<|j<i) (λ_ _=>rfl) λ_ _ _=>rfl
def zS:Pr2 B up .ge<|rI0 λi j=>.bl<|decide<|j<=i:=qu (f:=λi j=>.bl<|decide<|j<=i) (λ_ _=>rfl) λ_ _ _=>rfl
def lG{C:Int->Int->Prop} [∀i j,Decidable<|C i j] {f:Int->Int->U} {S:So} {vs:C3} {z:U} {S':So} (h:(match vs with
  |[.int i,.int j]=>match decide (C i j) with
   |true=>Res.ok (f i j) S
   |false=>.stuck
  |_=>.stuck)=.ok z S'):∃i j,vs=[.int i,.int j]/\C i j/\z=f i j/\S'=S:=by
 split at h
 .split at h
  .next e=>cases h;exact⟨_,_,rfl,xBe e,rfl,rfl⟩
  .cases h
 .cases h
def dZ{i:Int}{n:Nat}(h:i.natAbs<2^n):Builtin.Int.intBits i<=n:=by
 unfold Builtin.Int.intBits;by_cases e:i=0
 .subst e;simp
 .have h0:i.natAbs≠0:=by lia
  have:=(Nat.log2_lt h0).mpr h;split <;> lia
set_option tactic.hygienic true
def zK:Pr2 B up .mul<|rI (λi j=>IntMulOk i j) λi j=>.int<|i*j:=by
 intro W S H v w u1 u2 z S' Q rs r1 r2 h q;cases v <;> try (cases h;done)
 .cases w <;> try (cases h;done)
  next i j=>
  delta pr at h;dsimp only at h;split at h
  .next hc=>
   cases h;have hc:=xBe hc;refine⟨i,j,r1,r2,?_,q.here rs rfl⟩;rcases hc with ⟨h1,h2⟩|h1|h1
   .have a:=dZ h1;have b:=dZ h2;unfold IntMulOk;have:Builtin.Int.intTooBig (Builtin.Int.intBits i+Builtin.Int.intBits j)=false:=by
     unfold Builtin.Int.intTooBig bitsLine;exact xCn ()
    rw[this];simp
   .exact .of_right (xCk (dZ h1) ())
   .exact .of_left (xCk (dZ h1) ())
  .cases h
set_option tactic.hygienic false
def wY:Pr2 B up .fdiv<|rI zGc λi j=>.int<|i / j:=by
 intro W S H v w u1 u2 z S' Q rs r1 r2 h q;let⟨i,j,e,hc,rfl,rfl⟩:=lG (C:=λi j=>0<j/\j<=10^18) (f:=λi j=>.int<|i / j) h;cases e;exact⟨i,j,r1,r2,hc,q.here rs rfl⟩
def zL:Pr2 B up .mod<|rI (λ_ j=>0<j) λi j=>.int<|i%j:=by
 intro W S H v w u1 u2 z S' Q rs r1 r2 h q;let⟨i,j,e,hc,rfl,rfl⟩:=lG (C:=λi j=>0<j) (f:=λi j=>.int<|i%j) h;cases e;exact⟨i,j,r1,r2,hc,q.here rs rfl⟩
def zH:Pr2 B up .pow<|rI zI8 λi j=>.int<|i^j.toNat:=by
 intro W S H v w u1 u2 z S' Q rs r1 r2 h q;let⟨i,j,e,hc,rfl,rfl⟩:=lG (C:=λi j=>0<=j/\j<=1000/\i.natAbs<2^60) (f:=λi j=>.int<|i^j.toNat) h;cases e;exact⟨i,j,r1,r2,⟨hc.1,(),Nat.lt_trans hc.2.2 ∅⟩,q.here rs rfl⟩
def zFd:R2:=λx y H Q=>∃a b xs ys,x=.ref a/\y=.ref b/\H a=some (.lst xs)/\H b=some (.lst ys)/\xs.length≠ys.length/\Q (.bl false) H
def ud(hu:X.A.units<cLine):OpR X (compareOp .Eq) zFd:=by
 intro Z s O H x y v u Q I rx ry h;let⟨a,b,xs,ys,rfl,rfl,h1,h2,hne,q⟩:=h;cases (show v=Value.ref a from rx);cases (show u=Value.ref b from ry);let⟨its,r1,t1,z1⟩:=I.list<|SqL.of h1;let⟨its2,r2,t2,z2⟩:=I.list<|SqL.of h2;have l1:=r1.length;have l2:=r2.length;erw[(SeqAt.RcAt.lists_lengths t1.isList t2.isList (by rw[xAp,xAp];exact bne_iff_ne.mpr ()) hu) X.prog X.w X.xe _,<-cf I q rfl]
def zIj:R2:=rOr rEq<|rOr zFd<|rOr (rAl true)<|zEp true
def zH9:R2:=λx y H Q=>∃a b xs ys,x=.ref a/\y=.ref b/\H a=some (.lst xs)/\H b=some (.lst ys)/\xs.length≠ys.length/\Q (.bl true) H
def xb(hu:X.A.units<cLine):OpR X (compareOp .NotEq) zH9:=by
 intro Z s O H x y v u Q I rx ry h;let⟨a,b,xs,ys,rfl,rfl,h1,h2,hne,q⟩:=h;cases (show v=Value.ref a from rx);cases (show u=Value.ref b from ry);let⟨its,r1,t1,z1⟩:=I.list<|SqL.of h1;let⟨its2,r2,t2,z2⟩:=I.list<|SqL.of h2;have l1:=r1.length;have l2:=r2.length;erw[(SeqAt.RcNeAt.lists_lengths t1.isList t2.isList (by rw[xAp,xAp];exact bne_iff_ne.mpr ()) hu) X.prog X.w X.xe _,<-cf I q rfl]
def zId:R2:=rOr rNe<|rOr zH9<|rOr (rAl false)<|zEp false
def jE{W:Wd}{w:U}(rs:RS B W S H)(r1:Rv B W v u1)(r2:Rv B W w u2)(hn:eqS v w=none)(h:same S 80 v w=true)(q:Q (.bl b) H):rOr (rAl b) (zEp b) u1 u2 H Q:=by
 have key:(match lsT S v,lsT S w with
   |some xs,some ys=>zA9 (same S 79) xs ys
   |_,_=>zAs v&&zAs w&&eqS v w==some true)=true->rOr (rAl b) (zEp b) u1 u2 H Q:=λh=>by
  cases e1:lsT S v with
  |none=>rw[e1,hn] at h;simp at h
  |some xs=>
   cases e2:lsT S w with
   |none=>rw[e1,e2,hn] at h;simp at h
   |some ys=>
    rw[e1,e2] at h;let⟨p,as,rfl,hp,q1⟩:=c7 rs r1 e1;let⟨p',bs,rfl,hp',q2⟩:=c7 rs r2 e2;let⟨l,z⟩:=dF (λx y a b hs ra rb=>ga rs hs ra rb) h q1 q2;exact .inr ⟨p,p',as,bs,79,rfl,rfl,hp,hp',l,∅,z,q⟩
 unfold same at h;cases v <;> first | exact key h | (cases w <;> first | exact key h | (
  let⟨p,as,rfl,f1,q1⟩:=r1;let⟨p',bs,rfl,f2,q2⟩:=r2;let⟨l,z⟩:=dF (λx y a b hs ra rb=>ga rs hs ra rb) h q1 q2;exact .inl ⟨p,p',as,bs,79,rfl,rfl,rs.fz _ _ f1,rs.fz _ _ f2,l,∅,z,q⟩))
set_option tactic.hygienic true
def o0{W:Wd}{w:U}(rs:RS B W S H)(r1:Rv B W v u1)(r2:Rv B W w u2)(e:zEm (lsT S v) (lsT S w)=true):∃p p' as bs,u1=.ref p/\u2=.ref p'/\H p=some (.lst as)/\H p'=some (.lst bs)/\as.length≠bs.length:=by
 unfold zEm at e;split at e
 .next xs ys f1 f2=>
  let⟨p,as,rfl,hp,q1⟩:=c7 rs r1 f1;let⟨p',bs,rfl,hp',q2⟩:=c7 rs r2 f2;refine⟨p,p',as,bs,rfl,rfl,hp,hp',λz=>?_⟩;rw[q1.length,q2.length] at z;rw[z,Nat.beq_refl] at e;cases e
 .cases e
def Bq:Pr2 B up .eq zIj:=by
 intro W S H v w u1 u2 z S' Q rs r1 r2 h q;change Fx.eqU id v w S=_ at h;unfold Fx.eqU at h;split at h
 .next c e=>
  cases h;let⟨a,b⟩:=lA e r1 r2;exact .inl ⟨a,by rw[b];exact q.here rs rfl⟩
 .next e=>
  split at h
  .next e2=>
   cases h;let⟨p,p',as,bs,e3,e4,h1,h2,h3⟩:=o0 rs r1 r2 e2;exact .inr<|.inl ⟨p,p',as,bs,e3,e4,h1,h2,h3,q.here rs rfl⟩
  .split at h
   .next e2=>cases h;exact .inr<|.inr<|jE rs r1 r2 e e2<|q.here rs rfl
   .cases h
def Bn:Pr2 B up .ne zId:=by
 intro W S H v w u1 u2 z S' Q rs r1 r2 h q;change neU v w S=_ at h;unfold neU at h;split at h
 .next c e=>
  cases h;let⟨a,b⟩:=lA e r1 r2;exact .inl ⟨a,by rw[b];exact q.here rs rfl⟩
 .next e=>
  split at h
  .next e2=>
   cases h;let⟨p,p',as,bs,e3,e4,h1,h2,h3⟩:=o0 rs r1 r2 e2;exact .inr<|.inl ⟨p,p',as,bs,e3,e4,h1,h2,h3,q.here rs rfl⟩
  .split at h
   .next e2=>cases h;exact .inr<|.inr<|jE rs r1 r2 e e2<|q.here rs rfl
   .cases h
set_option tactic.hygienic false
def zJ:Pr1 B up .neg<|rU λi=>.int (-i):=by
 intro W S H v u1 z S' Q rs r1 h q;cases v <;> first|(cases h;done)|(cases h;exact⟨_,r1,q.here rs rfl⟩)
def Bu(hu:X.A.units+100<cLine):OpR X (compareOp .Eq) zIj:=OpR.or z0<|OpR.or (ud ())<|OpR.or (uh hu)<|qA hu
def Br(hu:X.A.units+100<cLine):OpR X (compareOp .NotEq) zId:=OpR.or zZ<|OpR.or (xb ())<|OpR.or (uf hu)<|qw hu
def zJu(n:B'):R2:=λx y H Q=>∃i j,x=.str i/\y=.str j/\Q (.bl<|if n then !(!(Builtin.Str.occurrences j i 0 j.length 1).isEmpty) else !(Builtin.Str.occurrences j i 0 j.length 1).isEmpty) H
def zG8(n:B'):R2:=λy x H Q=>∃a o,x=.ref a/\zEv H a y o/\Q (.bl<|if n then !o.isSome else o.isSome) H
def zEo(K:xFr)(n:B'):R2:=rOr (rIn K n)<|rOr (zJu n)<|zG8 n
set_option tactic.hygienic true
def qY{W:Wd}{w:U}{n:B'}(rs:RS B W S H)(r1:Rv B W v u1)(r2:Rv B W w u2)(h:inU S v w=some b)(q:Q (.bl<|if n then !b else b) H):zEo B.K n u1 u2 H Q:=by
 have seq:∀xs,sqU S w=some xs->(if zAs v&&xs.all zAs then some (zA7 v xs) else none)=some b->zEo B.K n u1 u2 H Q:=λxs e h=>by
  split at h
  .next hf=>
   rw[xCh] at hf;cases h;let⟨p,ys,rfl,sq,rr⟩:=fL rs r2 e;refine .inl ⟨p,ys,rfl,sq,jj hf.1 r1,jZ hf.2 rr,?_⟩;rw[nN hf.1 r1 hf.2 rr];exact q
  .cases h
 unfold inU at h;split at h
 .split at h
  .cases h;exact .inr<|.inl ⟨_,_,r1,r2,q⟩
  .cases h
 .next a=>
  split at h
  .next kvs e=>
   let⟨p,g,hm,hh,ro,_⟩:=rs.here e;let⟨p',e2,hm'⟩:=r2;rw[hm] at hm';cases hm';let⟨ks,rfl,rn⟩:=ro;cases ek:zEr v with
   |none=>rw[ek] at h;cases h
   |some k=>
    rw[ek] at h;have hb:(zAq k kvs).isSome=b:=xB3 h;refine .inr<|.inr ⟨p,zB8 ks k,e2,.inl ⟨ks,k,.inl hh,gq ek r1,rfl⟩,?_⟩;have:(zB8 ks k).isSome=b:=by
     let⟨h1,h2⟩:=f9 (k:=k) rn;rw[<- hb];cases z:zAq k kvs with
     |none=>rw[h2 z];rfl
     |some y=>let⟨y',e3,_⟩:=h1 y z;rw[e3];rfl
    rw[this];exact q
  .next kvs e=>
   let⟨p,g,hm,hh,ro,_⟩:=rs.here e;let⟨p',e2,hm'⟩:=r2;rw[hm] at hm';cases hm';let⟨ks,rfl,rn⟩:=ro;cases ek:zGj v with
   |none=>rw[ek] at h;cases h
   |some k=>
    rw[ek] at h;have hb:(zAq k kvs).isSome=b:=xB3 h;let⟨bb,rfl,hbb⟩:=mZ rs ek r1;refine .inr<|.inr ⟨p,zB8 ks k,e2,.inr ⟨ks,k,bb,.inl hh,rfl,hbb,rfl⟩,?_⟩;have:(zB8 ks k).isSome=b:=by
     let⟨h1,h2⟩:=f9 (k:=k) rn;rw[<- hb];cases z:zAq k kvs with
     |none=>rw[h2 z];rfl
     |some y=>let⟨y',e3,_⟩:=h1 y z;rw[e3];rfl
    rw[this];exact q
  .next xs e=>exact seq xs (by show lsU S (.ref a)=_;unfold lsU;dsimp only;rw[e]) h
  .cases h
 .split at h
  .next xs e=>exact seq xs e h
  .cases h
def Bp:Pr2 B up .inn<|zEo B.K false:=by
 intro W S H v w u1 u2 z S' Q rs r1 r2 h q;change obB (inU S v w) id S=_ at h;unfold obB at h;split at h
 .next b e=>cases h;exact qY rs r1 r2 e<|q.here rs rfl
 .cases h
def zI:Pr2 B up .nin<|zEo B.K true:=by
 intro W S H v w u1 u2 z S' Q rs r1 r2 h q;change obB (inU S v w) not S=_ at h;unfold obB at h;split at h
 .next b e=>cases h;exact qY rs r1 r2 e<|q.here rs rfl
 .cases h
set_option tactic.hygienic false
def xi(hu:X.A.units+1<cLine):OpR X (compareOp .In)<|zG8 false:=by
 intro Z s O H x y v u Q I rx ry ⟨a,o,e,g,q⟩;subst e;obtain rfl:u=Value.ref a:=ry;exact BV hu I g rx λs3 I3=>⟨.bl o.isSome,H,I3,rfl,q⟩
def ue(hu:X.A.units+1<cLine):OpR X (compareOp .NotIn)<|zG8 true:=by
 intro Z s O H x y v u Q I rx ry ⟨a,o,e,g,q⟩;subst e;obtain rfl:u=Value.ref a:=ry;exact uM hu I g rx λs3 I3=>⟨.bl (!o.isSome),H,I3,rfl,q⟩
def Bt(hu:X.A.units+1<cLine):OpR X (compareOp .In)<|zEo X.K false:=OpR.or oj<|OpR.or oi<|xi hu
def z9(hu:X.A.units+1<cLine):OpR X (compareOp .NotIn)<|zEo X.K true:=OpR.or iY<|OpR.or iX<|ue hu
def zIi:R2:=λx y H Q=>∃a v,x=.ref a/\zEv H a y (some v)/\Q v H
def uB(hu:X.A.units+1<cLine):IxR X zIi:=by
 intro value slice Z s O H x y v u Q I rx ry ⟨a,w,e,g,q⟩ hs;subst e;obtain rfl:v=Value.ref a:=rx;have hT:=j9 I g;unfold subscriptTail;erw[xAd];rw[getitemInPython_of_ne hT.not_modules];refine xAd<|wpAny_specialOf hT PySem.F.slot_dict_getitem.lookup ?_;have fin:wpAny (model X.prog X.w) X.A (subscripted slice false (.ref a) u) (λr s₃=>wpAny (model X.prog X.w) X.A (letTemporaryGo value (.ref a) r>>=λ_=>pure r) (EP X Z O Q) X.xe s₃) X.xe s:=by
  rw[hs];exact wpAny_operating<|oJ hu I g ry λw' s3 I3 rw'=>xAd<|wpAny_letTemporaryGo<|xAe ⟨w,H,I3,rw',q⟩
 first
  |exact xAe (xAd fin)
  |exact xAd (xAe<|xAd fin)
  |exact xAd fin
def zIh(w:World)(K:xFr):R2:=λx y H Q=>∃a z v u,x=.ref a/\KD w K a/\y=.str z/\PySem.W.nsIn K a z=some (some u)/\zAi v u/\Q v H
def Aq:IxR X<|zIh X.w X.K:=by
 intro value slice Z s O H x y v u Q I rx ry ⟨a,z,w,uu,e,⟨es,n,hl,hk,lo⟩,e2,hn,rw',q⟩ hs;subst e e2;obtain rfl:v=Value.ref a:=rx;let⟨t,rfl⟩:=ry;have hm:=PySem.W.mapOf_K (prog:=X.prog) (w:=X.w) (λb o e=>I.kIn b o e) hl hk;have hT:=hm.typeIs;unfold subscriptTail;erw[xAd];rw[getitemInPython_of_ne hT.not_modules];refine xAd<|wpAny_specialOf hT PySem.F.slot_dict_getitem.lookup ?_;have fin:wpAny (model X.prog X.w) X.A (subscripted slice false (.ref a)<|.str z t) (λr s₃=>wpAny (model X.prog X.w) X.A (letTemporaryGo value (.ref a) r>>=λ_=>pure r) (EP X Z O Q) X.xe s₃) X.xe s:=by
  rw[hs];exact wpAny_operating<|wpAny_getItem_of (strKind_is X.prog X.w z t) hm (PySem.W.find_K hl hn)<|xAd<|wpAny_letTemporaryGo<|xAe ⟨w,H,I.tok _,rw',q⟩
 first
  |exact xAe (xAd fin)
  |exact xAd (xAe<|xAd fin)
  |exact xAd fin
def zFg(w:World)(K:xFr):R2:=λx y H Q=>(rIx K x y H Q\/zIi x y H Q)\/zIh w K x y H Q
def Ba(hu:X.A.units+1<cLine):IxR X<|zFg X.w X.K:=(xS.or<|uB hu).or Aq
end
end Fx
namespace Fx
open PySem PySem.Spec L2
open PyProof.Rows hiding St
variable{t':TS}{S:So}{O:Sg}{τ:St}{H:Hp}{r:R2}
structure FE(X:Cx)(B:Bs)(G:D4)(Ex:St->XK)(e:B8)(c:C9):Prop where
 p:PE X e (LE B G Ex c)
 m:zA2 G c
structure FA(X:Cx)(B:Bs)(G:D4)(Ex:St->XK)(es:B4 B8)(c:D5):Prop where
 p:PA X es (LA B G Ex c)
 m:zCg G c es.length
structure FT(X:Cx)(B:Bs)(G:D4)(Ex:St->XK)(e:B8)(c:TTx Prop):Prop where
 p:PT X e (LT B G Ex c)
 m:zBs G c
structure FS(X:Cx)(B:Bs)(G:D4)(Ex:St->XK)(s:Stmt)(c:C8):Prop where
 p:PS X s (LS B G Ex c)
 m:zCa G c
structure FSs(X:Cx)(B:Bs)(G:D4)(Ex:St->XK)(s:B4 Stmt)(c:C8):Prop where
 p:PSs X s (LS B G Ex c)
 m:zCa G c
section
variable{X:Cx}{e:B8}{es:B4 B8}{st:Stmt}{sts:B4 Stmt}
def wkE{t t':TE}(h:PE X e t)(w:∀O H Q,t' O H Q->t O H Q):PE X e t':=λZ s O H Q I q=>h Z s O H Q I<|w _ _ _ q
def wkA{t t':TA}(h:PA X es t)(w:∀O H Q,t' O H Q->t O H Q):PA X es t':=λpos Z s O H Q I q=>h pos Z s O H Q I<|w _ _ _ q
def wkT{t t':TT}(h:PT X e t)(w:∀O H Q,t' O H Q->t O H Q):PT X e t':=λZ s O H Q I q=>h Z s O H Q I<|w _ _ _ q
def wkS{t:TS}(h:PS X st t)(w:∀D O H,t' D O H->t D O H):PS X st t':=λZ s O H D I q=>h Z s O H D I<|w _ _ _ q
def zH5{t:TS}(h:PSs X sts t)(w:∀D O H,t' D O H->t D O H):PSs X sts t':=λZ s O H D I q=>h Z s O H D I<|w _ _ _ q
end
section
variable{B:Bs}{up:B4<|Str×Str}{G:D4}{Ex:St->XK}{τ:St}{H:Hp}{Q:VK}{W W':Wd}{c a b:C9}{as:D5}{n:Nat}{p:Pm}
def VL.inc{v:U}(le:W.Le W')(h:VL B W Q v S):VL B W' Q v S:=λW2 u H le2=>h W2 u H<|le.trans le2
def NL.inc{Q:St->Hp->Prop}{v:Sg}(le:W.Le W')(h:NL B W Q v S):NL B W' Q v S:=λW2 u H le2=>h W2 u H<|le.trans le2
theorem LEe.inc{D:zDp}(le:W.Le W'):zD0 (LEe B Ex W D)<|LEe B Ex W' D:=⟨λ_ _=>NL.inc le,λ_ _=>VL.inc le,λ_ _=>NL.inc le,λ_ _=>NL.inc le,λ_ _ _ h W2 τ C dx H le2=>h W2 τ C dx H<|le.trans le2⟩
def LE.go{k:D0}(m:zA2 G c)(rs:RS B W S H)(rg:Rg B W O τ)(h:c G O S (XL B W<|Ex τ) k)(hk:∀v S' W' u H',W.Le W'->RS B W' S' H'->Rv B W' v u->Rg B W' O τ->k v S'->Q u H'):LE B G Ex c τ H Q:=
 ⟨W,O,S,rs,rg,m.m (λ_ _ h=>h) (λv S' h' W' u H' le rs' rv=>hk v S' W' u H' le rs' rv (rg.mono le) h') h⟩
def LA.go{k:C3->So->Prop}{Q:B4 V->Hp->Prop}(m:zCg G as n)(rs:RS B W S H)(rg:Rg B W O τ)(h:as G O S (XL B W<|Ex τ) k)(hk:∀v S' W' u H',v.length=n->W.Le W'->RS B W' S' H'->Rvs B W' v u->Rg B W' O τ->k v S'->Q u H'):LA B G Ex as τ H Q:=
 ⟨W,O,S,rs,rg,m.m (λ_ _ h=>h) (λv S' hl h' W' u H' le rs' rv=>hk v S' W' u H' hl le rs' rv (rg.mono le) h') h⟩
def LT.go{t:TTx Prop}{k:B'->So->Prop}{Q:B'->Hp->Prop}(m:zBs G t)(rs:RS B W S H)(rg:Rg B W O τ)(h:t G O S (XL B W<|Ex τ) k)(hk:∀v S' W' H',W.Le W'->RS B W' S' H'->Rg B W' O τ->k v S'->Q v H'):LT B G Ex t τ H Q:=
 ⟨W,O,S,rs,rg,m.m (λ_ _ h=>h) (λv S' h' W' H' le rs'=>hk v S' W' H' le rs' (rg.mono le) h') h⟩
def XL.upf(le:W.Le W')(E:XK):∀e S,XL B W E e S->XL B W' E e S:=λ_ _=>XL.up le
def K1(B:Bs)(up:B4<|Str×Str)(p:Pm)(Q:VK):VK:=λu H=>∃W S v z S',RS B W S H/\Rv B W v u/\pr up p [v] S=.ok z S'/\VL B W Q z S'
def K2(B:Bs)(up:B4<|Str×Str)(p:Pm)(Q:VK):V->V->Hp->Prop:=λu1 u2 H=>∃W S v w z S',RS B W S H/\Rv B W v u1/\Rv B W w u2/\pr up p [v,w] S=.ok z S'/\VL B W Q z S'
def KN(B:Bs)(up:B4<|Str×Str)(p:Pm)(Q:VK):B4 V->Hp->Prop:=λus H=>∃W S vs z S',RS B W S H/\Rvs B W vs us/\pr up p vs S=.ok z S'/\VL B W Q z S'
variable(g:zBu up G)
include g
theorem LE.p1(ma:zA2 G a)(h:LE B G Ex (cP p<|aC a aN) τ H Q):LE B G Ex a τ H<|K1 B up p Q:=by
 let⟨W,O,S,rs,rg,h⟩:=h;refine LE.go ma rs rg h λv S' W' u H' le rs' rv rg' h'=>?_;let⟨z,S2,e,q⟩:=g.pok h';exact⟨W',S',v,z,S2,rs',rv,e,q.inc le⟩
theorem LE.p2(ma:zA2 G a)(mb:zA2 G b)(h:LE B G Ex (cP p<|zAx a b) τ H Q):LE B G Ex a τ H λx H1=>LE B G Ex b τ H1 λy H2=>K2 B up p Q x y H2:=by
 let⟨W,O,S,rs,rg,h⟩:=h;erw[<-LE.go ma rs rg h λv S' W' u H' le rs' rv rg' h'=>?_,<-LE.go mb rs' rg' (mb.m (XL.upf le _) (λ_ _ h=>h) h') λw S2 W2 u2 H2 le2 rs2 rv2 _ h2=>?_];let⟨z,S3,e,q⟩:=g.pok h2;exact⟨W2,S2,v,w,z,S3,rs2,rv.mono le2,rv2,e,q.inc<|le.trans le2⟩
theorem LE.pn(ma:zCg G as n)(h:LE B G Ex (cP p as) τ H Q):LA B G Ex as τ H<|KN B up p Q:=by
 let⟨W,O,S,rs,rg,h⟩:=h;refine LA.go ma rs rg h λv S' W' u H' _ le rs' rv rg' h'=>?_;let⟨z,S2,e,q⟩:=g.pok h';exact⟨W',S',v,z,S2,rs',rv,e,q.inc le⟩
end
section
variable{B:Bs}{up:B4<|Str×Str}{G:D4}{Ex:St->XK}{c a b:C9}{as:D5}{t u:TTx Prop}
def LE.imp{Q Q':VK}(m:zA2 G c)(h:LE B G Ex c τ H Q)(hq:∀u H,Q u H->Q' u H):LE B G Ex c τ H Q':=by
 let⟨W,O,S,rs,rg,h⟩:=h;exact⟨W,O,S,rs,rg,m.m (λ_ _ h=>h) (λv S h W' u H le rs rv=>hq _ _<|h W' u H le rs rv) h⟩
def LA.imp{n:Nat}{Q Q':B4 V->Hp->Prop}(m:zCg G as n)(h:LA B G Ex as τ H Q)(hq:∀u H,Q u H->Q' u H):LA B G Ex as τ H Q':=by
 let⟨W,O,S,rs,rg,h⟩:=h;exact⟨W,O,S,rs,rg,m.m (λ_ _ h=>h) (λv S _ h W' u H le rs rv=>hq _ _<|h W' u H le rs rv) h⟩
variable{X:Cx}{e ea eb ec ed:B8}{es:B4 B8}{pos p1 p2:Pos}{x:Str}{i:Nat}{pm:Pm}(g:zBu up G)
include g
theorem f_v(hN:X.N[i]?=some x)(hv:Vis X.env.scope x)(hd:(x==("__debug__":Str))=false)(hcd:(x==("__classdict__":Str))=false):FE X B G Ex (.Name x pos)<|cV i:=
 ⟨wkE (wI hN hv hd hcd) λτ H Q zz=>by
  let⟨W,O,S,rs,rg,h⟩:=zz;unfold cV at h;cases e:nth O i with
  |none=>rw[e] at h;exact(g.no h).elim
  |some v=>rw[e] at h;let⟨u,e2,rv⟩:=rg.v i v e;exact⟨u,e2,h W u H .refl rs rv⟩,mV g⟩
omit g in
theorem f_c{v:V}{u:U}(h:PE X e<|tC v)(r:∀W,Rv B W u v):FE X B G Ex e<|cC u:=⟨wkE h λτ H Q ⟨W,O,S,rs,rg,h⟩=>h W v H .refl rs<|r W,⟨λhx hk h=>hk _ _ h⟩⟩
theorem oF{op:Operator}(ho:OpR X (binaryOp op) r)(hp:Pr2 B up pm r)(ha:FE X B G Ex ea a)(hb:FE X B G Ex eb b):FE X B G Ex (.BinOp ea op eb pos)<|cP pm<|zAx a b:=
 ⟨wkE (zy ho ha.p hb.p) λτ H Q h=>(LE.p2 g ha.m hb.m h).imp ha.m λx H1 h1=>h1.imp hb.m λy H2 ⟨W,S,v,w,z,S',rs,r1,r2,e,q⟩=>hp rs r1 r2 e q,mP g<|mAC g ha.m<|mAC g hb.m<|mAN g⟩
theorem BG{op:UnaryOp}{r:V->Hp->VK->Prop}(ho:UnR X (unaryOp op) r)(hp:Pr1 B up pm r)(ha:FE X B G Ex ea a):FE X B G Ex (.UnaryOp op ea pos)<|cP pm<|aC a aN:=
 ⟨wkE (zw ho ha.p) λτ H Q h=>(LE.p1 g ha.m h).imp ha.m λx H1 ⟨W,S,v,z,S',rs,r1,e,q⟩=>hp rs r1 e q,mP g<|mAC g ha.m<|mAN g⟩
theorem BM(hr:IxR X r)(hp:Pr2 B up pm r)(ha:FE X B G Ex ea a)(hb:FE X B G Ex eb b)(hs:zCf eb):FE X B G Ex (.Subscript ea eb pos)<|cP pm<|zAx a b:=
 ⟨wkE (zA hr ha.p hb.p hs) λτ H Q h=>(LE.p2 g ha.m hb.m h).imp ha.m λx H1 h1=>h1.imp hb.m λy H2 ⟨W,S,v,w,z,S',rs,r1,r2,e,q⟩=>hp rs r1 r2 e q,mP g<|mAC g ha.m<|mAC g hb.m<|mAN g⟩
theorem ij:FA X B G Ex [] aN:=⟨wkA gH λτ H Q ⟨W,O,S,rs,rg,h⟩=>h W [] H .refl rs rfl,mAN g⟩
theorem fI(ha:FE X B G Ex e a)(hs:FA X B G Ex es as)(hst:zAa e=true):FA X B G Ex (e::es)<|aC a as:=
 ⟨wkA (oh ha.p hs.p hst) λτ H Q ⟨W,O,S,rs,rg,h⟩=>LE.go ha.m rs rg h λv S' W' u H' le rs' rv rg' h' =>
  LA.go hs.m rs' rg' (hs.m.m (XL.upf le _) (λ_ _ _ h=>h) h') λvs S2 W2 us H2 _ le2 rs2 rvs _ h2=>h2 W2 (u::us) H2 (le.trans le2) rs2 ⟨u,us,rfl,rv.mono le2,rvs⟩,mAC g ha.m hs.m⟩
theorem Az{k:Nat}(hs:FA X B G Ex es as)(hl:es.length<=1000):FE X B G Ex (.Tuple es k pos)<|cT as:=
 ⟨wkE (wJ hs.p) λτ H Q ⟨W,O,S,rs,rg,h⟩=>LA.go hs.m rs rg h λvs S' W' us H' hn le rs' rvs _ h'=>⟨by rw[rvs.length,hn];exact small hl,λp hp=>VL.tup (VL.inc le h') rs' rvs hp⟩,mT g hs.m⟩
theorem AD{m:B'}(hs:FA X B G Ex es as):FE X B G Ex (.List es pos)<|cP (.lst m) as:=
 ⟨wkE (wM hs.p) λτ H Q h=>(LE.pn g hs.m h).imp hs.m λus H1 zz=>by
  let⟨W,S,vs,z,S',rs,rv,e,q⟩:=zz;let⟨hl,e⟩:=du<|show fits vs.length (mkL m vs S)=_ from e;exact⟨by rw[rv.length];exact hl,λp hp=>gN e q rs rv hp⟩,mP g hs.m⟩
theorem AI{op:CmpOp}(ho:OpR X (compareOp op) r)(hp:Pr2 B up pm r)(hv:∀v w S z S',pr up pm [v,w] S=.ok z S'->∃c,z=.bl c)(ha:FE X B G Ex ea a)(hb:FE X B G Ex eb b)(hm:behindInMarks op eb=false):FT X B G Ex (.Compare ea [op] [eb] pos)<|tB<|cP pm<|zAx a b:=by
 have mm:=mP g (p:=pm)<|mAC g ha.m<|mAC g hb.m<|mAN g;refine⟨wkT (lZ ho ha.p hb.p hm) λτ H Q h=>?_,mB g mm⟩;have h':LE B G Ex (cP pm<|zAx a b) τ H λx H'=>∃k,x=.bl k/\Q k H':=by
  let⟨W,O,S,rs,rg,h⟩:=h;refine LE.go mm rs rg h λv S' W' u H' le rs' rv rg' h'=>?_;cases v <;> first|(exact(g.no h').elim)|exact⟨_,rv,h' W' H' le rs'⟩
 exact(LE.p2 g ha.m hb.m h').imp ha.m λx H1 h1=>h1.imp hb.m λy H2 ⟨W,S,v,w,z,S',rs,r1,r2,e,q⟩=>hp rs r1 r2 e q
theorem vE(h:FE X B G Ex e c)(he:∀whole,isTrue e X.env whole=(do let v <- whole;standAt e.pos;holding [v] (truthy v))):FT X B G Ex e<|tB c:=
 ⟨wkT (wj h.p he) λτ H Q ⟨W,O,S,rs,rg,h1⟩=>LE.go h.m rs rg h1 λv S' W' u H' le rs' rv rg' h'=>by
  cases v <;> first|(exact(g.no h').elim)|exact⟨_,rv,h' W' H' le rs'⟩,mB g h.m⟩
theorem BJ(h:FT X B G Ex ea t):FT X B G Ex (.UnaryOp .Not ea pos)<|tNt t:=
 ⟨wkT (wm h.p) λτ H Q ⟨W,O,S,rs,rg,h1⟩=>LT.go h.m rs rg h1 λv S' W' H' le rs' rg' h'=>h' W' H' le rs',mNt g h.m⟩
end
end Fx
namespace L2
open PySem PySem.Spec PyProof.Rows PySem.Builtin PySem.Builtin.ObjectAttr
noncomputable abbrev Cx.lp(X:Cx):Cx:=X.wish<|notedBy (model X.prog X.w) X.A X.env<|cameBackBy (model X.prog X.w) X.A X.env X.xe
section
variable{X:Cx}{pos:Pos}
theorem nV{c:B8}{body:B4 Stmt}{tc:TT}{tb:TS}(hc:PT X.lp c tc)(hb:PSs X.lp body tb):PS X (.While c body [] pos)<|zEz tc tb:=by
 intro Z s O H D I h;let⟨W,⟨m0,w0⟩,turn⟩:=h;refine wpAny_While<|codeAny_whileLoop (λn s'=>∃O' H',Inv X Z O' H' s'/\W n O' H') ?_ m0 ⟨O,H,I,w0⟩;rintro n s1 ⟨σ1,H1,I1,w1⟩
 refine thn (hc Z s1 σ1 H1 _ (I1.wish _)<|turn n σ1 H1 w1) λb s2 ⟨H2,I2,q2⟩=>?_;cases b with
 |true=>
  let⟨N,hN,q2⟩:=q2;rw[xCg rfl];refine thn (hb Z s2 σ1 H2 _ I2 q2) λf s3 q3=>?_;cases f with
  |next=>
   let⟨σ3,H3,I3,n3⟩:=q3;let⟨m',hm,w3⟩:=hN σ3 H3 n3;exact⟨m',hm,σ3,H3,I3.unwish,w3⟩
  |cont=>
   let⟨σ3,H3,I3,n3⟩:=q3;let⟨m',hm,w3⟩:=hN σ3 H3 n3;exact⟨m',hm,σ3,H3,I3.unwish,w3⟩
  |brk=>exact SP.unwish (f:=.next) q3
  |ret v=>exact SP.unwish (f:=.ret v) q3
 |false=>
  rw[xCf xAy];exact wpAny_execs_nil ⟨σ1,H2,I2.unwish,q2⟩
def tx{tg iter:B8}{body:B4 Stmt}{wi:TI}{g:TG}{tb:TS}(hc:X.calm=true)(hi:PI X tg iter wi)(hg:PG X.lp tg g)(hb:PSs X.lp body tb)(hs:∀x,foldedSetIterable iter X.env x=pure x):PS X (.For tg iter body [] pos)<|zJl wi g tb:=by
 intro Z s O H D I h;refine wpAny_For (thn (hi Z s O H _ I h) λv s1 h1=>thn h1 λitv s2 h2=>?_) hs;let⟨it,fp,tn,m0J,H2,e,I2,T,st2,f2,W,⟨m0,w0⟩,turn⟩:=h2;subst e;have stat:∀{H':Hp},(∀b∈fp,H' b=none)->∀b∈fp,zCz X Z H' b:=λhn b hb=>⟨hn b hb,(f2 b hb).2⟩
 refine codeAny_forLoop_any (λn s'=>∃i O' H',Inv X Z O' H' s'/\tn i s'.heap/\(∀b∈fp,H' b=none)/\W i n O' H') ?_ m0 ⟨0,O,H2,I2,st2,λb hb=>(f2 b hb).1,w0⟩;rintro n s3 ⟨i,σ3,H3,I3,st3,fr3,w3⟩
 rcases turn i n σ3 H3 w3 with ⟨stop,qn⟩|⟨go,N,hN,step⟩
 .refine thn (T.done X rfl rfl rfl hc i Z s3 σ3 H3 _ I3 (stat fr3) st3 stop) λr s4 ⟨hr,I4⟩=>?_;subst hr;exact wpAny_execs_nil ⟨σ3,H3,I4,qn⟩
 .refine thn (T.item X rfl rfl rfl hc i Z s3 σ3 H3 _ I3 (stat fr3) st3 go) λr s4 ⟨u,hr,h4⟩=>?_;subst hr;refine thn h4 λ_ s5 zz=>?_;let⟨x,H5,I5,r5,y5,st5,fr5⟩:=zz;have I5':=I5.pinned (stat fr5)<|T.obj _ _ st5;refine thn (hg _ s5 σ3 H5 x u _ (I5'.wish _) r5<|step x H5 y5) λ_ s6 zz=>?_;let⟨σ6,H6,I6,q6⟩:=zz;refine thn (hb _ s6 σ6 H6 _ I6 q6) λf s7 q7=>?_;have again:∀{σ7:St}{H7:Hp},Inv X (Z++zB5 fp s5.heap) σ7 H7 s7->N σ7 H7->∃m,m<n/\∃i O' H',Inv X Z O' H' s7/\tn i s7.heap/\(∀b∈fp,H' b=none)/\W i m O' H':=λ{σ7 H7} I7 n7=>by
   let⟨m',hm,w7⟩:=hN σ7 H7 n7;refine⟨m',hm,i+1,σ7,H7,I7.unpinned,T.keep _ _ _ st5 λb hb o e=>(I7.pin (b,o)<|xBt _<|xBt _<|dY hb e).1,λb hb=>?_,w7⟩;let⟨o,e,d⟩:=T.obj _ _ st5 b hb;exact(I7.pin (b,o)<|xBt _<|xBt _<|dY hb e).2.1
  cases f with
  |next=>let⟨σ7,H7,I7,n7⟩:=q7;exact again I7.unwish n7
  |cont=>let⟨σ7,H7,I7,n7⟩:=q7;exact again I7.unwish n7
  |brk=>let⟨σ7,H7,I7,q7⟩:=q7;exact⟨σ7,H7,I7.unwish.unpinned,q7⟩
  |ret v=>let⟨x7,σ7,H7,I7,r7,q7⟩:=q7;exact⟨x7,σ7,H7,I7.unwish.unpinned,r7,q7⟩
end
def CXz(_:Program)(_:World):CXT:=λ_ _ _ _ _ _=>False
structure zGb(X:Cx)(Ex:St->XK):Prop where
 pass:zAj (CXz X.prog X.w) X Ex
def catz{X:Cx}{Ex:St->XK}:zGb X Ex:=⟨λ_ _ _ _ _ _ _ h=>h.elim⟩
end L2
namespace Fx
open PySem PySem.Spec L2
open PyProof.Rows hiding St
variable{op op':CmpOp}{p q:Pm}{r':R2}{v:U}{k np:Nat}{f' c':B9}{fd:FuncData}{ps ks:C0}{ds:C7}{dvs:B4 V}{dus:C3}{kx:B4<|B5 B8}{kvs:B4<|Str×U}
structure FW(X:Cx)(B:Bs)(G:D4)(Ex:St->XK)(e:B8)(c:TTx Prop):Prop where
 p:PW X e (LT B G Ex c)
 m:zBs G c
def spF(B:Bs)(G:D4)(i np:Nat):Sp:=λvs H Q E=>vs.length=np/\∃W us S,RS B W S H/\Rvs B W us vs/\G.call i us S (XL B W E) (VL B W Q)
section
variable{B:Bs}{up:B4<|Str×Str}{G:D4}{Ex:St->XK}{c a b d:C9}{as:D5}{t u:TTx Prop}
variable{X:Cx}{e ea eb ec ed:B8}{es rest:B4 B8}{pos p1 p2 apos:Pos}{x m:Str}{i:Nat}{pm:Pm}(g:zBu up G)
def wkW{t t':TT}(h:PW X e t)(w:∀O H Q,t' O H Q->t O H Q):PW X e t':=λwh Z s O H Q I q=>h wh Z s O H Q I<|w _ _ _ q
omit g in
def Ay(h:FT X B G Ex ea t):FW X B G Ex (.BoolOp .And [ea] pos) t:=⟨tj h.p,h.m⟩
def Ax(h:FT X B G Ex ea t):FW X B G Ex (.BoolOp .Or [ea] pos) t:=⟨wc h.p,h.m⟩
def FW.ft(h:FW X B G Ex e t):FT X B G Ex e t:=⟨h.p.pt,h.m⟩
include g
theorem BE(h:FT X B G Ex ea t)(h2:FW X B G Ex (.BoolOp .And (eb::rest) pos) u):FW X B G Ex (.BoolOp .And (ea::eb::rest) pos)<|tAn t u:=
 ⟨wkW (we h.p h2.p) λτ H Q ⟨W,O,S,rs,rg,hh⟩=>LT.go h.m rs rg hh λv S' W' H' le rs' rg' h'=>by
  have h':=g.bk h';cases v with
  |true=>exact LT.go h2.m rs' rg' (h2.m.m (XL.upf le _) (λ_ _ h=>h) h') λw S2 W2 H2 le2 rs2 _ h3=>h3 W2 H2 (le.trans le2) rs2
  |false=>exact h' W' H' le rs',mAn g h.m h2.m⟩
theorem BD(h:FT X B G Ex ea t)(h2:FW X B G Ex (.BoolOp .Or (eb::rest) pos) u):FW X B G Ex (.BoolOp .Or (ea::eb::rest) pos)<|tOr' t u:=
 ⟨wkW (zo h.p h2.p) λτ H Q ⟨W,O,S,rs,rg,hh⟩=>LT.go h.m rs rg hh λv S' W' H' le rs' rg' h'=>by
  have h':=g.bk h';cases v with
  |false=>exact LT.go h2.m rs' rg' (h2.m.m (XL.upf le _) (λ_ _ h=>h) h') λw S2 W2 H2 le2 rs2 _ h3=>h3 W2 H2 (le.trans le2) rs2
  |true=>exact h' W' H' le rs',mOr g h.m h2.m⟩
theorem uK(h:FE X B G Ex e c):FE X B G Ex e<|cB<|tB c:=
 ⟨wkE h.p λτ H Q ⟨W,O,S,rs,rg,hh⟩=>LE.go h.m rs rg hh λv S' W' u H' le rs' rv rg' h'=>by
  cases v <;> first|(exact(g.no h').elim)|exact h' W' u H' le rs' rv,mCB g<|mB g h.m⟩
theorem yi{r:R2}(ho:OpR X (compareOp op) r)(hp:Pr2 B up pm r)(ha:FE X B G Ex ea a)(hb:FE X B G Ex eb b)(hm:behindInMarks op eb=false):FE X B G Ex (.Compare ea [op] [eb] pos)<|cP pm<|zAx a b:=
 ⟨wkE (mx ho ha.p hb.p hm) λτ H Q h=>(LE.p2 g ha.m hb.m h).imp ha.m λx H1 h1=>h1.imp hb.m λy H2 ⟨W,S,v,w,z,S',rs,r1,r2,e,q⟩=>hp rs r1 r2 e q,mP g<|mAC g ha.m<|mAC g hb.m<|mAN g⟩
theorem rF(h:FE X B G Ex ea<|cB t)(mt:zBs G t):FE X B G Ex (.UnaryOp .Not ea pos)<|cB<|tNt t:=
 ⟨wkE (wL h.p) λτ H Q ⟨W,O,S,rs,rg,hh⟩=>⟨W,O,S,rs,rg,mt.m (λ_ _ h=>h) (λv S' h' W' u H' le rs' rv=>⟨v,rv,h' W' (.bl (!v)) H' le rs' rfl⟩) hh⟩,mCB g<|mNt g mt⟩
theorem yk(h:FE X B G Ex ea<|cB t)(mt:zBs G t)(h2:FE X B G Ex (.BoolOp .And (eb::rest) pos)<|cB u)(mu:zBs G u):FE X B G Ex (.BoolOp .And (ea::eb::rest) pos)<|cB<|tAn t u:=
 ⟨wkE (wQ h.p h2.p) λτ H Q ⟨W,O,S,rs,rg,hh⟩=>⟨W,O,S,rs,rg,mt.m (λ_ _ h=>h) (λv S' h' W' w H' le rs' rv=>⟨v,rv,by
  have h':=g.bk h';cases v with
  |true=>exact⟨W',O,S',rs',rg.mono le,mu.m (XL.upf le _) (λz S2 h3 W2 y H2 le2 rs2 rv2=>h3 W2 y H2 (le.trans le2) rs2 rv2) h'⟩
  |false=>exact h' W' _ H' le rs' rfl⟩) hh⟩,mCB g<|mAn g mt mu⟩
theorem AC(h:FE X B G Ex ea<|cB t)(mt:zBs G t)(h2:FE X B G Ex (.BoolOp .Or (eb::rest) pos)<|cB u)(mu:zBs G u):FE X B G Ex (.BoolOp .Or (ea::eb::rest) pos)<|cB<|tOr' t u:=
 ⟨wkE (zx h.p h2.p) λτ H Q ⟨W,O,S,rs,rg,hh⟩=>⟨W,O,S,rs,rg,mt.m (λ_ _ h=>h) (λv S' h' W' w H' le rs' rv=>⟨v,rv,by
  have h':=g.bk h';cases v with
  |false=>exact⟨W',O,S',rs',rg.mono le,mu.m (XL.upf le _) (λz S2 h3 W2 y H2 le2 rs2 rv2=>h3 W2 y H2 (le.trans le2) rs2 rv2) h'⟩
  |true=>exact h' W' _ H' le rs' rfl⟩) hh⟩,mCB g<|mOr g mt mu⟩
omit g in
theorem vH{op:BoolOp}(h:FE X B G Ex ea c):FE X B G Ex (.BoolOp op [ea] pos) c:=⟨wK h.p,h.m⟩
theorem BN(h:FT X B G Ex ec t)(ha:FE X B G Ex ea a)(hb:FE X B G Ex eb b):FE X B G Ex (.IfExp ec ea eb pos)<|cIf t a b:=
 ⟨wkE (qf h.p ha.p hb.p) λτ H Q ⟨W,O,S,rs,rg,hh⟩=>LT.go h.m rs rg hh λv S' W' H' le rs' rg' h'=>by
  have h':=g.bk h';cases v with
  |true=>exact LE.go ha.m rs' rg' (ha.m.m (XL.upf le _) (λ_ _ h=>h) h') λw S2 W2 u2 H2 le2 rs2 rv2 _ h3=>h3 W2 u2 H2 (le.trans le2) rs2 rv2
  |false=>exact LE.go hb.m rs' rg' (hb.m.m (XL.upf le _) (λ_ _ h=>h) h') λw S2 W2 u2 H2 le2 rs2 rv2 _ h3=>h3 W2 u2 H2 (le.trans le2) rs2 rv2,mIf g h.m ha.m hb.m⟩
theorem nK{r:R2}(hp:Pr2 B up p r)(hq:Pr2 B up q r')(ma:zA2 G a)(mb:zA2 G b)(mc:zA2 G c){τ:St}{H:Hp}{Q:B'->Hp->Prop}(h:LT B G Ex (tCh p q a b c) τ H Q) :
  zC1 r r' (LE B G Ex a) (LE B G Ex b) (LE B G Ex c) τ H (λx H'=>∃k,x=V.bl k/\Q k H'):=by
 let⟨W,O,S,rs,rg,hh⟩:=h;erw[<-LE.go ma rs rg hh λv S1 W1 u1 H1 le1 rs1 rv1 rg1 h1=>?_,<-LE.go mb rs1 rg1 (mb.m (XL.upf le1 _) (λ_ _ h=>h) h1) λw S2 W2 u2 H2 le2 rs2 rv2 rg2 h2=>?_];let⟨z,S3,e,q3⟩:=g.pok h2;refine hp rs2 (rv1.mono le2) rv2 e λW3 u3 H3 le3 rs3 rv3=>?_;cases z <;> first|(exact(g.no q3).elim)|skip
 refine⟨_,rv3,?_⟩;have q3:=g.bk q3;split
 .next hb=>
  rw[xCg hb] at q3;refine LE.go mc rs3 ((rg2.mono le3)) (mc.m (XL.upf (le1.trans<|le2.trans le3) _) (λ_ _ h=>h) q3) λy S4 W4 u4 H4 le4 rs4 rv4 _ h4=>?_;let⟨z2,S5,e2,q5⟩:=g.pok h4;refine hq rs4 ((rv2.mono le3).mono le4) rv4 e2 λW5 u5 H5 le5 rs5 rv5=>?_;cases z2 <;> first|(exact(g.no q5).elim)|exact⟨_,rv5,q5 W5 H5 (le1.trans<|le2.trans<|le3.trans<|le4.trans le5) rs5⟩
 .next hb=>
  rw[xCf hb] at q3;exact⟨false,rfl,q3 W3 H3 (le1.trans<|le2.trans le3) rs3⟩
theorem BS{r:R2}(ho:OpR X (compareOp op) r)(ho':OpR X (compareOp op') r')(hp:Pr2 B up p r)(hq:Pr2 B up q r')(ha:FE X B G Ex ea a)(hb:FE X B G Ex eb b)(hc:FE X B G Ex ec c)(hm:lastMarks [op,op'] [eb,ec]=false):FT X B G Ex (.Compare ea [op,op'] [eb,ec] pos)<|tCh p q a b c:=
 ⟨wkT (pL ho ho' ha.p hb.p hc.p hm) λτ H Q h=>nK g hp hq ha.m hb.m hc.m h,mCh g ha.m hb.m hc.m⟩
theorem AJ{r:R2}(ho:OpR X (compareOp op) r)(ho':OpR X (compareOp op') r')(hp:Pr2 B up p r)(hq:Pr2 B up q r')(ha:FE X B G Ex ea a)(hb:FE X B G Ex eb b)(hc:FE X B G Ex ec c)(hm:lastMarks [op,op'] [eb,ec]=false)(hi:∀x y H Q,r x y H Q->r x y H Q)(mo:∀{x y H}{Q Q':VK},(∀v H,Q v H->Q' v H)->r x y H Q->r x y H Q')(mo':∀{x y H}{Q Q':VK},(∀v H,Q v H->Q' v H)->r' x y H Q->r' x y H Q'):FE X B G Ex (.Compare ea [op,op'] [eb,ec] pos)<|cB<|tCh p q a b c:=
 ⟨wkE (qj ho ho' ha.p hb.p hc.p hm) λτ H Q zz=>by
  let⟨W,O,S,rs,rg,hh⟩:=zz;have h0:LT B G Ex (tCh p q a b c) τ H λk H'=>Q (.bl k) H':=⟨W,O,S,rs,rg,(mCh g ha.m hb.m hc.m).m (λ_ _ h=>h) (λv S' h' W' H' le rs'=>h' W' (.bl v) H' le rs' rfl) hh⟩
  have h1:=nK g hp hq ha.m hb.m hc.m h0;refine LE.imp ha.m h1 λx H1 h2=>LE.imp hb.m h2 λy H2 h3=>mo (λz H3 ⟨k,e,h4⟩=>⟨k,e,?_⟩) h3;split
  .next hk=>rw[xCg hk] at h4;exact LE.imp hc.m h4 λw H4 h5=>mo' (λz5 H5 ⟨k5,e5,q5⟩=>by rw[e5];exact q5) h5
  .next hk=>rw[xCf hk] at h4;let⟨k5,e5,q5⟩:=h4;cases e5;exact q5,mCB g<|mCh g ha.m hb.m hc.m⟩
variable{k:Nat}{f:B9}{fd:FuncData}{ps:C0}{np:Nat}{ds:C7}{dvs:B4 V}{dus:C3}
theorem yj(F:zBc X.prog X.w X.K X.mg X.base (CXz X.prog X.w) k f fd ps<|spF B G i np)(hr:zBd k X.A)(hg:Gl X x)(hm:X.mg x=some (.ref f))(hk:PySem.W.keepIn X.K (.ref f)=true)(hb:zAy X.K fd ps ds)(hd:zAh dvs ds)(hdu:∀W,Rvs B W dus dvs)(hx:zAj (CXz X.prog X.w) X Ex)(hdb:(x==("__debug__":Str))=false)(hs:FA X B G Ex es as)(h0:es=[]->as=aN)(hn:es.length+dus.length=np)(hst:es.all zAa=true):FE X B G Ex (.Call (.Name x p1) es [] pos)<|cF i as dus:=by
 refine⟨?_,mF g hs.m⟩;have core:∀τ H Q,LE B G Ex (cF i as dus) τ H Q->zC2 (spF B G i np) dvs Ex (LA B G Ex as) τ H Q:=λτ H Q ⟨W,O,S,rs,rg,hh⟩=>LA.go hs.m rs rg hh λv S' W' u H' hl le rs' rv rg' h'=>
  ⟨by rw[xAb,rv.length,(hdu W').length,hl];exact hn,W',v++dus,S',rs',rv.app<|hdu W',g.call (XL.upf le _) (λ_ _=>VL.inc le) h'⟩
 cases es with
 |nil=>
  rw[h0 rfl] at core⊢;refine wkE (og F hr hg hm hk hb hd hx hdb) λτ H Q h=>?_;let⟨W,O,S,rs,rg,hh⟩:=core τ H Q h;exact hh W [] H .refl rs rfl
 |cons e es=>
  rw[xCj,xCh] at hst;exact wkE (ql F hr hg hm hk hb hd hx hs.p hdb (cg hst.1)<|dG hst.2) core
end
section
variable{B:Bs}{up:B4<|Str×Str}
def Rvs.inv1{W:Wd}{us:B4 V}(r:Rvs B W [v] us):∃u,us=[u]/\Rv B W v u:=by let⟨u,t,rfl,h,h2⟩:=r;rw[show t=[] from h2];exact⟨u,rfl,h⟩
def Rvs.inv2{W:Wd}{w:U}{us:B4 V}(r:Rvs B W [v,w] us):∃u1 u2,us=[u1,u2]/\Rv B W v u1/\Rv B W w u2:=by
 let⟨u,t,rfl,h,h2⟩:=r;let⟨u2,rfl,h3⟩:=Rvs.inv1 h2;exact⟨u,u2,rfl,h,h3⟩
set_option tactic.hygienic true
def Bo{wo:World}(hk:∀{W:Wd}{p:B9}{kvs:B4<|Str×U}{no:C0}{x:Str}{v:U}{H:Hp}{Q:VK},B.kd p kvs no->zAv x kvs=some v->(∀u,Rv B W v u->Q u H)->zFg wo B.K (.ref p) (.str x) H Q):Pr2 B up .ix<|zFg wo B.K:=by
 intro W S H v w u1 u2 z S' Q rs r1 r2 h q;change ixU v w S=_ at h;have seq:∀xs,sqU S v=some xs->(match w with
   |.int i=>opt (atI xs i) S
   |_=>Res.stuck)=.ok z S'->zFg wo B.K u1 u2 H Q:=λxs e h=>by
  split at h
  .unfold opt at h;split at h
   .next i v' e2=>
    cases h;let⟨p,ys,rfl,sq,rr⟩:=fL rs r1 e;let⟨y,e3,ry⟩:=yN rr e2;rcases sq with sq|sq
    .exact .inl<|.inl<|.inl ⟨p,ys,_,y,rfl,r2,sq,e3,q.here rs ry⟩
    .exact .inl<|.inl<|.inr<|.inl ⟨p,ys,_,y,rfl,r2,sq,e3,q.here rs ry⟩
   .cases h
  .cases h
 unfold ixU at h;split at h
 .next kvs=>
  split at h
  .next x=>
   unfold opt at h;split at h
   .next v' e=>
    cases h;let⟨p,rfl,hd⟩:=r1;rw[show u2=.str x from r2];exact hk (W:=W) hd e λu ru=>q.here rs ru
   .cases h
  .cases h
 .split at h
  .split at h
   .next zz i c e=>
    let⟨hl,e2⟩:=du h;cases e2;exact .inl<|.inl<|.inr<|.inr ⟨_,_,_,r1,r2,hl,e,q.here rs rfl⟩
   .cases h
  .cases h
 .next p=>
  split at h
  .next kvs e=>
   split at h
   .next k ek=>
    unfold opt at h;split at h
    .next v' e3=>
     cases h;let⟨a,g,hm,hh,ro,_⟩:=rs.here e;let⟨a',e2,hm'⟩:=r1;rw[hm] at hm';cases hm';let⟨ks,rfl,rn⟩:=ro;let⟨y,ey,ry⟩:=(f9 (k:=k) rn).1 _ e3;exact .inl<|.inr ⟨a,y,e2,.inl ⟨ks,k,.inl hh,gq ek r2,ey.symm⟩,q.here rs ry⟩
    .cases h
   .cases h
  .next xs e=>exact seq xs (by show lsU S (.ref p)=_;unfold lsU;dsimp only;rw[e]) h
  .cases h
 .split at h
  .next xs e=>exact seq xs e h
  .cases h
set_option tactic.hygienic false
def zEg(K:xFr):B4 V->Hp->VK->Prop:=λxs H Q=>zI0 K xs H Q\/zF6 xs H Q
def zn{X:Cx}:zAn X (.builtin "len")<|zEg X.K:=zAn.or yv uQ
set_option tactic.hygienic true
theorem zP:PrN B up .len<|zEg B.K:=by
 intro W S H vs us z S' Q rs rv h q;cases vs with
 |nil=>cases h
 |cons v t=>cases t with
  |cons _ _=>cases h
  |nil=>
   let⟨u,rfl,r1⟩:=rv.inv1;change zEb v S=_ at h;have seq:∀xs,sqU S v=some xs->z=.int xs.length->S'=S->zEg B.K [u] H Q:=λxs e hz hs=>by
    subst hz hs;let⟨p,ys,rfl,sq,rr⟩:=fL rs r1 e;have:=q.here rs (u:=.int xs.length) rfl;rw[<- rr.length] at this;rcases sq with sq|sq
    .exact .inl ⟨_,_,rfl,.inl ⟨ys,sq,rfl⟩,this⟩
    .exact .inl ⟨_,_,rfl,.inr ⟨ys,sq,rfl⟩,this⟩
   unfold zEb at h;split at h
   .let⟨hl,e2⟩:=du h;cases e2;rw[show u=.str _ from r1];exact .inl ⟨_,_,rfl,⟨hl,rfl⟩,q.here rs rfl⟩
   .next p=>
    split at h
    .next xs e=>cases h;exact seq xs (by show lsU S (.ref p)=_;unfold lsU;dsimp only;rw[e]) rfl rfl
    .next kvs e=>
     cases h;let⟨a,g,hm,hh,ro,_⟩:=rs.here e;let⟨a',e2,hm'⟩:=r1;rw[hm] at hm';cases hm';let⟨ks,rfl,rn⟩:=ro;have:=q.here rs (u:=.int kvs.length) rfl;rw[<- rn.length] at this;subst e2;exact .inr ⟨a,ks,rfl,hh,this⟩
    .cases h
   .split at h
    .next xs e=>cases h;exact seq xs e rfl rfl
    .cases h
set_option tactic.hygienic false
theorem vs1{vs:C3}{S:So}{z:U}{S':So}(h:pr up p vs S=.ok z S')(h0:pr up p [] S=.stuck)(h2:∀a b r,pr up p (a::b::r) S=.stuck):∃v,vs=[v]:=by
 cases vs with
 |nil=>rw[h0] at h;cases h
 |cons v t=>cases t with
  |nil=>exact⟨v,rfl⟩
  |cons _ _=>rw[h2] at h;cases h
def zX:PrN B up .abs λxs H Q=>∃i,xs=[.int i]/\Q (.int<|if i<0 then -i else i) H:=by
 intro W S H vs us z S' Q rs rv h q;let⟨v,rfl⟩:=vs1 h rfl λa b r=>by cases a <;> rfl
 let⟨u,rfl,r1⟩:=rv.inv1;cases v <;> first|(cases h;done)|(cases h;exact⟨_,by rw[show u=_ from r1],q.here rs rfl⟩)
def zN:PrN B up .max λxs H Q=>∃i j,xs=[.int i,.int j]/\Q (.int<|if j>i then j else i) H:=by
 intro W S H vs us z S' Q rs rv h q;let⟨i,j,rfl,rfl,rfl⟩:=ni (f:=λi j=>.int<|if j>i then j else i) h;let⟨u1,u2,rfl,r1,r2⟩:=rv.inv2;exact⟨i,j,by rw[show u1=_ from r1,show u2=_ from r2],q.here rs rfl⟩
def zM:PrN B up .min λxs H Q=>∃i j,xs=[.int i,.int j]/\Q (.int<|if j<i then j else i) H:=by
 intro W S H vs us z S' Q rs rv h q;let⟨i,j,rfl,rfl,rfl⟩:=ni (f:=λi j=>.int<|if j<i then j else i) h;let⟨u1,u2,rfl,r1,r2⟩:=rv.inv2;exact⟨i,j,by rw[show u1=_ from r1,show u2=_ from r2],q.here rs rfl⟩
def wX:PrN B up .int1 zF7:=by
 intro W S H vs us z S' Q rs rv h q;let⟨v,rfl⟩:=vs1 h rfl λa b r=>by cases a <;> rfl
 let⟨u,rfl,r1⟩:=rv.inv1;cases v <;> first|(cases h;done)|(cases h;rw[show u=_ from r1];first|exact .inl ⟨_,rfl,q.here rs rfl⟩|exact .inr ⟨_,rfl,q.here rs rfl⟩)
set_option tactic.hygienic true
def tZ:PrN B up .tupOf<|zDw B.K:=by
 intro W S H vs us z S' Q rs rv h q;let⟨v,rfl⟩:=vs1 h rfl λa b r=>by cases a <;> rfl
 let⟨u,rfl,r1⟩:=rv.inv1;change zA0 v S=_ at h;unfold zA0 at h;split at h
 .cases h;let⟨p,ys,rfl,f,rr⟩:=r1;exact⟨p,ys,rfl,.inr ⟨.of<|rs.fz _ _ f,q.here rs ⟨p,ys,rfl,f,rr⟩⟩⟩
 .split at h
  .next xs e=>
   cases h;let⟨p,ys,rfl,sq,rr⟩:=gO rs r1 e;exact⟨p,ys,rfl,.inl ⟨sq,λl hl=>q.tup rs rr hl⟩⟩
  .cases h
def ua{m:B'}:PrN B up (.lstOf m)<|zF5 B.K:=by
 intro W S H vs us z S' Q rs rv h q;let⟨v,rfl⟩:=vs1 h rfl λa b r=>by cases a <;> rfl
 let⟨u,rfl,r1⟩:=rv.inv1;delta pr at h;dsimp only at h;split at h
 .next xs e=>
  let⟨p,ys,rfl,sq,rr⟩:=fL rs r1 e;exact⟨p,ys,rfl,sq,λl hl=>gN h q rs rr hl⟩
 .cases h
def ub:PrN B up .dctOf zDx:=by
 intro W S H vs us z S' Q rs rv h q;let⟨v,rfl⟩:=vs1 h rfl λa b r=>by cases a <;> rfl
 let⟨u,rfl,r1⟩:=rv.inv1;cases v <;> try (cases h;done)
 delta pr at h;dsimp only at h;split at h
 .next kvs e=>
  cases h;let⟨a,g,hm,hh,ro,_⟩:=rs.here e;let⟨a',e2,hm'⟩:=r1;rw[hm] at hm';cases hm';let⟨ks,rfl,rn⟩:=ro;refine⟨a,ks,by rw[e2],.inl hh,λp hp=>?_⟩;have le:W.Le {W with μ:=W.μ++[p]}:=⟨λ_ _ h=>h,λ_ _ h=>dh h,rfl⟩
  let⟨_,rs',ha⟩:=rs.push (o:=.dct kvs) (h:=.dK ks) hp ⟨ks,rfl,rn.mono le⟩;exact q _ _ _ le rs' ⟨p,rfl,ha⟩
 .cases h
set_option tactic.hygienic false
theorem sk{W:Wd}:∀{vs:C3}{us:B4 V}{bs:B4 B'},blL vs=some bs->Rvs B W vs us->us=bs.map V.bl
 |[],_,_,h,r=>by cases h;exact r
 |x::t,_,_,h,r=>by
  let⟨u,s,rfl,h1,h2⟩:=r;cases x <;> try (cases h;done)
  simp only[blL] at h;cases e:blL t with
  |none=>rw[e] at h;cases h
  |some bs=>
   rw[e] at h;cases h;rw[sk e h2,show u=_ from h1];rfl
theorem zBf{W:Wd}:∀{vs:C3}{us:B4 V}{bs:C0},zCu vs=some bs->Rvs B W vs us->us=bs.map V.str
 |[],_,_,h,r=>by cases h;exact r
 |x::t,_,_,h,r=>by
  let⟨u,s,rfl,h1,h2⟩:=r;cases x <;> try (cases h;done)
  simp only[zCu] at h;cases e:zCu t with
  |none=>rw[e] at h;cases h
  |some bs=>
   rw[e] at h;cases h;rw[zBf e h2,show u=_ from h1];rfl
set_option tactic.hygienic true
def zV:PrN B up .all<|zI1 B.K:=by
 intro W S H vs us z S' Q rs rv h q;let⟨v,rfl⟩:=vs1 h rfl λa b r=>by cases a <;> rfl
 let⟨u,rfl,r1⟩:=rv.inv1;cases v <;> try (cases h;done)
 delta pr at h;dsimp only at h;split at h
 .next bs e=>
  cases h;let⟨p,ys,rfl,f,rr⟩:=r1;refine⟨p,bs,rfl,.of (by rw[<- sk e rr];exact rs.fz _ _ f),λb hb=>?_⟩;subst hb;exact q.here rs rfl
 .cases h
set_option tactic.hygienic false
end
section
variable{B:Bs}{up:B4<|Str×Str}{G:D4}{Ex:St->XK}{c a b d:C9}{as:D5}
variable{X:Cx}{e ea eb:B8}{es:B4 B8}{pos p1 p2 apos:Pos}{x:Str}{id T:String}{pm:Pm}{r:B4 V->Hp->VK->Prop}(g:zBu up G)
include g
theorem oG(hc:zAn X (.builtin id) r)(hp:PrN B up pm r)(hg:Gl X x)(hm:X.mg x=none)(hv:bootBuiltins x=some (.builtin id))(hs:FA X B G Ex (e::es) as)(h:(e::es).all zAa=true)(hn:x≠"__name__")(hdb:(x==("__debug__":Str))=false):FE X B G Ex (.Call (.Name x p1) (e::es) [] pos)<|cP pm as:=
 ⟨wkE (qp hc hg hm hv hs.p h hn hdb) λτ H Q h=>(LE.pn g hs.m h).imp hs.m λus H1 ⟨W,S,vs,z,S',rs,rv,e,q⟩=>hp rs rv e q,mP g hs.m⟩
theorem uL(hc:zAn X (.type T) r)(hp:PrN B up pm r)(hg:Gl X x)(hm:X.mg x=none)(hv:bootBuiltins x=some (.type T))(hs:FA X B G Ex (e::es) as)(h:(e::es).all zAa=true)(hn:x≠"__name__")(hdb:(x==("__debug__":Str))=false):FE X B G Ex (.Call (.Name x p1) (e::es) [] pos)<|cP pm as:=
 ⟨wkE (my hc hg hm hv hs.p h hn hdb) λτ H Q h=>(LE.pn g hs.m h).imp hs.m λus H1 ⟨W,S,vs,z,S',rs,rv,e,q⟩=>hp rs rv e q,mP g hs.m⟩
end
section
variable{B:Bs}{W:Wd}{S S':So}{H:Hp}
theorem fN{f:Str}:∀{fs:B4<|Str×U}{vs:B4<|Str×V},Rn B W fs vs->(∀v,zAv f fs=some v->∃u,vs.lookup f=some u/\Rv B W v u)/\(zAv f fs=none->vs.lookup f=none)
 |[],_,r=>by rw[show _=[] from r];exact⟨(λv h=>nomatch h),λ_=>rfl⟩
 |(j,x)::t,_,r=>by
  let⟨v,q,rfl,h1,h2⟩:=r;by_cases e:f=j
  .subst e;unfold zAv;rw[xCg rfl];refine⟨λv' h=>?_,(λh=>nomatch h)⟩;cases h;exact⟨v,by simp[List.lookup],h1⟩
  .have hb:(f==j)=false:=beq_eq_false_iff_ne.mpr e;unfold zAv;rw[xCf e];simp only[List.lookup,hb];exact fN h2
theorem lY{f:Str}{x:U}{y:V}(g:Rv B W x y):∀{fs:B4<|Str×U}{vs:B4<|Str×V},Rn B W fs vs->Rn B W (putF f x fs) (L2.putF f y vs)
 |[],_,r=>by rw[show _=[] from r];exact⟨y,[],rfl,g,rfl⟩
 |(j,z)::t,_,r=>by
  let⟨v,q,rfl,h1,h2⟩:=r;unfold putF L2.putF;by_cases e:j=f
  .rw[xCg e,xCg e];exact⟨y,q,rfl,g,h2⟩
  .rw[xCf e,xCf e];exact⟨v,_,rfl,h1,lY g h2⟩
theorem Rn.app{κ:Type}:∀{us ws:B4<|κ×U}{vs zs:B4<|κ×V},Rn B W us vs->Rn B W ws zs->Rn B W (us++ws) (vs++zs)
 |[],_,_,_,h,g=>by rw[show _=[] from h];exact g
 |_::_,_,_,_,h,g=>by let⟨v,r,rfl,h1,h2⟩:=h;exact⟨v,r++_,rfl,h1,Rn.app h2 g⟩
def lX{κ:Type} [DecidableEq κ] {k:κ} {x:U} {y:V} (g:Rv B W x y) {fs:B4<|κ×U} {vs:B4<|κ×V} (r:Rn B W fs vs):Rn B W (putK k x fs)<|L2.putK vs k y:=by
 have an:(vs.any λkv=>decide<|kv.1=k)=(fs.any λkv=>decide<|kv.1=k):=by
  clear g;induction fs generalizing vs with
  |nil=>rw[show vs=[] from r];rfl
  |cons p t ih=>let⟨v,q,rfl,h1,h2⟩:=r;rw[List.any_cons,List.any_cons,ih h2]
 unfold putK L2.putK;rw[an];split
 .next hh=>
  clear hh an;induction fs generalizing vs with
  |nil=>rw[show vs=[] from r];rfl
  |cons p t ih=>
   let⟨v,q,rfl,h1,h2⟩:=r;rw[xBs,xBs];by_cases e:p.1=k
   .rw[xCg e,xCg e];exact⟨y,_,rfl,g,ih h2⟩
   .rw[xCf e,xCf e];exact⟨v,_,rfl,h1,ih h2⟩
 .exact r.app ⟨y,[],rfl,g,rfl⟩
set_option tactic.hygienic true
def jf{p:Nat}{f:Str->B4 (Str×U)->Res}{z:U}{u:V}(rs:RS B W S H)(r1:Rv B W (.ref p) u)(h:zCv p S f=.ok z S'):∃C fs a c dx vs,at? S p=some (.ins C fs)/\f C fs=.ok z S'/\u=.ref a/\at? W.μ p=some a/\B.cl C c/\H a=some (.ins c dx vs)/\Rn B W fs vs:=by
 unfold zCv at h;split at h
 .next C fs e=>
  let⟨a,g,hm,hh,ro,_⟩:=rs.here e;let⟨a',e2,hm'⟩:=r1;rw[hm] at hm';cases hm';let⟨c,dx,vs,hc,rfl,rn⟩:=ro;exact⟨C,fs,a,c,dx,vs,e,h,e2,hm,hc,hh,rn⟩
 .cases h
def mO{p:Nat}{f:C3->Res}{z:U}{u:V}(rs:RS B W S H)(r1:Rv B W (.ref p) u)(h:zCk p S f=.ok z S'):∃xs a vs,at? S p=some (.lst xs)/\f xs=.ok z S'/\u=.ref a/\at? W.μ p=some a/\H a=some (.lst vs)/\Rvs B W xs vs:=by
 unfold zCk at h;split at h
 .next xs e=>
  let⟨a,g,hm,hh,ro,_⟩:=rs.here e;let⟨a',e2,hm'⟩:=r1;rw[hm] at hm';cases hm';let⟨vs,rfl,rn⟩:=ro;exact⟨xs,a,vs,e,h,e2,hm,hh,rn⟩
 .cases h
set_option tactic.hygienic false
end
section
variable{B:Bs}{up:B4<|Str×Str}{G:D4}{Ex:St->XK}{c a b d:C9}{as:D5}
variable{X:Cx}{e ea eb o value:B8}{es:B4 B8}{pos p1 p2 apos cpos pos':Pos}{x f m C:Str}{id T:String}{pm:Pm}{i:Nat}(g:zBu up G)
structure ClF(B:Bs)(flds:C0):Prop where
 c:∀{C c},B.cl C c->Cls B.K c
 n:∀{C c f},B.cl C c->f∈flds->zBr B.K c f
variable{fl:C0}
include g
theorem AG(hK:X.K=B.K)(F:ClF B fl)(hf:f∈fl)(ho:FE X B G Ex o a)(h:zBw o=true):FE X B G Ex (.Attribute o f pos)<|cP (.fld f)<|aC a aN:=
 ⟨wkE (wP ho.p<|gn h) λτ H Q h=>(LE.p1 g ho.m h).imp ho.m λu H1 zz=>by
  let⟨W,S,v,z,S',rs,r1,e,q⟩:=zz;cases v <;> try (cases e;done)
  let⟨C,fs,a,c,dx,vs,_,h2,e2,_,hc,hh,rn⟩:=jf rs r1 e;unfold opt at h2;split at h2
  .next v' e3=>
   cases h2;let⟨y,e4,ry⟩:=(fN (f:=f) rn).1 _ e3;exact⟨a,c,dx,vs,y,e2,hh,by rw[hK];exact F.c hc,by rw[hK];exact F.n hc hf,e4,q.here rs ry⟩
  ·(cases h2),mP g<|mAC g ho.m<|mAN g⟩
theorem yc(hcl:∀c,B.cl C c->c=c')(cc:Cls X.K c')(hm:zEj X.K c' m f')(F:zBc X.prog X.w X.K X.mg X.base (CXz X.prog X.w) k f' fd ps<|spF B G i np)(hr:zBd k X.A)(hb:zAy X.K fd ps ds)(hd:zAh dvs ds)(hdu:∀W,Rvs B W dus dvs)(hx:zAj (CXz X.prog X.w) X Ex)(ho:FE X B G Ex o a)(hs:FA X B G Ex es as)(h0:es=[]->as=aN)(hn:es.length+1+dus.length=np)(hst:es.all zAa=true)(ht:∃pl,eval (.Call (.Attribute o m apos) es [] pos) X.env=(do
   let ov <- eval o X.env
   standAt apos.atName
   let (f,first) <- holding [ov] (getMethod ov m pl)
   callWith pos f first (backTo pos<|starEach es X.env) (backToKw pos<|keywordEach [] X.env))):FE X B G Ex (.Call (.Attribute o m apos) es [] pos)<|cM C m i a as dus:=by
 refine⟨?_,mM g ho.m hs.m⟩;have core:∀τ H Q,LE B G Ex (cM C m i a as dus) τ H Q->zC0 c' m (spF B G i np) dvs Ex (LE B G Ex a) (LA B G Ex as) τ H Q:=λτ H Q ⟨W,O,S,rs,rg,hh⟩=>LE.go ho.m rs rg hh λv S1 W1 u1 H1 le1 rs1 rv1 rg1 h1=>by
  let⟨w,S2,e,h2⟩:=g.pok h1;cases v <;> try (cases e;done)
  let⟨D,fs,aa,c,dx,vs,_,e2,e3,hμ,hc,hha,rn⟩:=jf rs1 rv1 e;split at e2
  .next hD=>
   have hD:=xBe hD;subst hD;split at e2
   .next hf=>
    cases e2;obtain rfl:=hcl c hc;erw[<-⟨aa,dx,vs,e3,hha,(fN (f:=m) rn).2 hf,?_⟩,<-LA.go hs.m rs1 rg1 (hs.m.m (XL.upf le1 _) (λ_ _ _ h=>h) h2) λws S3 W3 us H3 hl le3 rs3 rv3 _ h3=>?_];exact⟨by rw[xAo,xAb,rv3.length,(hdu W3).length,hl,<- hn];lia,W3,.ref _::(ws++dus),S3,rs3,⟨u1,_,rfl,rv1.mono le3,rv3.app<|hdu W3⟩,g.call (XL.upf (le1.trans le3) _) (λ_ _=>VL.inc<|le1.trans le3) h3⟩
   .cases e2
  .cases e2
 let⟨pl,ht⟩:=ht;cases es with
 |nil=>
  rw[h0 rfl] at core⊢;erw[<-wkE (n9 (pl:=pl) ho.p cc hm F hr hb hd hx ht) λτ H Q h=>?_,<-(core τ H Q h).imp ho.m λu H1 ⟨a',dx,fs,e1,e2,e3,h4⟩=>⟨a',dx,fs,e1,e2,e3,?_⟩]
  let⟨W,O,S,rs,rg,hh⟩:=h4;exact hh W [] H1 .refl rs rfl
 |cons e es=>
  rw[xCj,xCh] at hst;exact wkE (qd (pl:=pl) ho.p cc hm F hr hb hd hx hs.p (cg hst.1) (dG hst.2) ht) core
omit g in
theorem zFi:zCm (CXz X.prog X.w) X λ_ _ _=>False:=λZ O H s ev s' I z=>z.elim
theorem yd(hcl:B.cl x c')(M:Mk X.K c' f')(F:zBc X.prog X.w X.K X.mg X.base (CXz X.prog X.w) k f' fd ps<|spF B G i np)(hr:zBd (k+1) X.A)(hg:Gl X x)(hm:X.mg x=some (.ref c'))(hb:zAy X.K fd ps ds)(hd:zAh dvs ds)(hdu:∀W,Rvs B W dus dvs)(hdb:(x==("__debug__":Str))=false)(hs:FA X B G Ex es as)(h0:es=[]->as=aN)(hn:es.length+1+dus.length=np)(hst:es.all zAa=true):FE X B G Ex (.Call (.Name x p1) es [] pos)<|cK x i as dus:=by
 refine⟨?_,mK g hs.m⟩;have core:∀τ H Q,LE B G Ex (cK x i as dus) τ H Q->zD5 c' (spF B G i np) dvs (λ_ _ _=>False) (LA B G Ex as) τ H Q:=λτ H Q ⟨W,O,S,rs,rg,hh⟩=>LA.go hs.m rs rg hh λws S1 W1 us H1 hl le1 rs1 rv1 _ h1=>by
  intro xa dx hxa hdx hne;let⟨w,S2,e,h2⟩:=g.pok h1;cases e;have sm:=dz hdx<|.own xa;have hxa':upd H1 dx (.own xa) xa=none:=by rw[b9<|Ne.symm hne];exact hxa
  have le2:W1.Le {W1 with μ:=W1.μ++[xa]}:=⟨λ_ _ h=>h,λ_ _ h=>dh h,rfl⟩
  let⟨_,rs2,ha⟩:=(rs1.same sm).push (o:=.ins x []) (h:=.ins c' dx []) hxa' ⟨c',dx,[],hcl,rfl,rfl⟩;refine⟨by rw[xAo,xAb,rv1.length,(hdu W1).length,hl,<- hn];lia,_,.ref S1.length::(ws++dus),_,rs2,⟨_,_,rfl,⟨xa,rfl,ha⟩,(rv1.mono le2).app<|hdu _⟩,g.call (λ_ _ h=>(g.no h).elim) (λr S3 h3 W3 u3 H3 le3 rs3 rv3=>?_) h2⟩;cases r <;> first|(exact(g.no h3).elim)|exact⟨rv3,h3 W3 (.ref xa) H3 (le1.trans<|le2.trans le3) rs3 ⟨xa,rfl,le3.m _ _ ha⟩⟩
 cases es with
 |nil=>
  rw[h0 rfl] at core⊢;refine wkE (qe M F hr hg hm hb hd zFi hdb) λτ H Q h=>?_;let⟨W,O,S,rs,rg,hh⟩:=core τ H Q h;exact hh W [] H .refl rs rfl
 |cons e es=>
  rw[xCj,xCh] at hst;exact wkE (tQ M F hr hg hm hb hd zFi hs.p hdb (cg hst.1)<|dG hst.2) core
end
section
variable{B:Bs}{W:Wd}{S S':So}{H:Hp}
theorem Rg.lf{W W':Wd}{O:Sg}{τ:St}(r:Rg B W O τ)(le:W.Lf W'):Rg B W' O τ:=⟨r.l,λi v h=>let ⟨u,e,q⟩:=r.v i v h;⟨u,e,q.lf le⟩⟩
def RS.drop(r:RS B W S H){l:B4<|B9×HO}(h:∀q∈l,q∈W.pr):RS B {W with pr:=l} S H:=
 ⟨r.fz,r.len,r.nd,λa p z=>let ⟨o,g,e,hh,ro,q⟩:=r.ob a p z;⟨o,g,e,hh,ro.lf .pr,q⟩,λq hq=>r.pf q<|h q hq⟩
def XL.hold{E:XK}{x:Xc}{pp:B9×HO}(h:XL B W E x S):XL B {W with pr:=pp::W.pr} E x S:=λW' C dx H le rx=>
 h {W' with pr:=W.pr} C dx H ⟨le.f,le.m,rfl⟩ ⟨rx.s.drop λq hq=>by rw[le.r];exact xAs _ hq,rx.c,rx.f.imp id λ⟨d,vs,e1,e2,e3⟩=>⟨d,vs,e1,e2,e3.lf .pr⟩⟩
def zJt(K:xFr):V->B5 Int->B5 Int->Hp->VK->Prop:=λx a b H Q=>zIa K x a b H Q\/zIb K x a b H Q\/zIc K x a b H Q
set_option tactic.hygienic true
def lT{m:B'}{z:U}{u:V}{lo hi:B5 Int}{Q:VK}(rs:RS B W S H)(r1:Rv B W v u)(h:slice m v lo hi S=.ok z S')(q:VL B W Q z S'):zJt B.K u lo hi H Q:=by
 unfold slice at h;split at h
 .next xs=>
  split at h
  .next hd=>
   cases h;let⟨p,ys,rfl,f,rr⟩:=r1;exact .inr<|.inr ⟨p,ys,rfl,.of<|rs.fz _ _ f,by rw[rr.length];exact xBe hd,q.here rs ⟨p,ys,rfl,f,rr⟩⟩
  .next hd=>
   cases h;let⟨p,ys,rfl,f,rr⟩:=r1;have hl:=rr.length;refine .inl ⟨p,ys,rfl,.of<|rs.fz _ _ f,by rw[hl];exact of_decide_eq_false hd,λp' hp=>q.tup rs (nG rr lo hi) hp⟩
 .split at h
  .next xs e=>
   let⟨p,ys,rfl,sq,rr⟩:=gO rs r1 e;exact .inr<|.inl ⟨p,ys,rfl,sq,λp' hp=>gN h q rs (nG rr lo hi) hp⟩
  .cases h
set_option tactic.hygienic false
end
section
variable{B:Bs}{up:B4<|Str×Str}{G:D4}{Ex:St->XK}{c a b d:C9}{as:D5}
variable{X:Cx}{e ea eb ec o:B8}{es:B4 B8}{pos p1 p2 p3 apos cpos:Pos}{x f m C:Str}{id T:String}{pm:Pm}{i:Nat}(g:zBu up G)
include g
theorem AA{m:B'}(hK:X.K=B.K)(ha:FE X B G Ex ea a)(hb:FE X B G Ex eb b):FE X B G Ex (.Subscript ea (.Slice (some eb) none none p2) pos)<|cP (.sl m true false)<|zAx a b:=
 ⟨wkE (jK (SlR.or pj<|SlR.or lS lR) ha.p (mh hb.p) mj) λτ H Q h=>(LE.p2 g ha.m hb.m h).imp ha.m λx H1 h1=>h1.imp hb.m λy H2 zz=>by
  let⟨W,S,v,w,z,S',rs,r1,r2,e,q⟩:=zz;cases w <;> try (cases e;done)
  have:=lT (lo:=some _) (hi:=none) rs r1 e q;rw[<- hK] at this;exact⟨_,r2,this⟩,mP g<|mAC g ha.m<|mAC g hb.m<|mAN g⟩
theorem AB{m:B'}(hK:X.K=B.K)(ha:FE X B G Ex ea a)(hb:FE X B G Ex eb b):FE X B G Ex (.Subscript ea (.Slice none (some eb) none p2) pos)<|cP (.sl m false true)<|zAx a b:=
 ⟨wkE (jK (SlR.or pj<|SlR.or lS lR) ha.p mj<|mh hb.p) λτ H Q h=>(LE.p2 g ha.m hb.m h).imp ha.m λx H1 h1=>h1.imp hb.m λy H2 zz=>by
  let⟨W,S,v,w,z,S',rs,r1,r2,e,q⟩:=zz;cases w <;> try (cases e;done)
  have:=lT (lo:=none) (hi:=some _) rs r1 e q;rw[<- hK] at this;exact⟨_,r2,this⟩,mP g<|mAC g ha.m<|mAC g hb.m<|mAN g⟩
omit g in
structure FP(X:Cx)(B:Bs)(G:D4)(Ex:St->XK)(pos:Pos)(kx:B4 (B5 B8))(ks:C0)(es:B4 B8)(as:D5):Prop where
 ex:∃trs,PPs X pos kx es trs/\∀τ H Q,LA B G Ex as τ H (λus H'=>Q ((ks.zip us).map λp=>(V.str p.1,p.2)) H')->zCi trs τ H Q
 m:zCg G as es.length
theorem BH:FP X B G Ex pos [] [] [] aN:=⟨⟨[],tJ,λτ H Q ⟨W,O,S,rs,rg,h⟩=>h W [] H .refl rs rfl⟩,mAN g⟩
theorem BI{k:Str}{j:Nat}(ha:FE X B G Ex e a)(hs:FP X B G Ex pos kx ks es as):FP X B G Ex pos (some (.Constant (.str k) j p2)::kx) (k::ks) (e::es)<|aC a as:=by
 let⟨trs,hp,hq⟩:=hs.ex;erw[<-⟨⟨_,pU qc ha.p hp,λτ H Q ⟨W,O,S,rs,rg,h⟩=>?_⟩,mAC g ha.m hs.m⟩,<-LE.go ha.m rs rg h λv S1 W1 u1 H1 le1 rs1 rv1 rg1 h1=>hq τ H1 _ ?_,<-LA.go hs.m rs1 rg1 (hs.m.m (XL.upf le1 _) (λ_ _ _ h=>h) h1) λvs S2 W2 us H2 _ le2 rs2 rvs _ h2=>h2 W2 (u1::us) H2 (le1.trans le2) rs2 ⟨u1,us,rfl,rv1.mono le2,rvs⟩]
omit g in
theorem nF{W:Wd}:∀{ks:C0}{vs:C3}{us:B4 V},Rvs B W vs us->Rn B W (zGn ks vs) ((ks.zip us).map λp=>((Sum.inr p.1:Key),p.2))
 |[],vs,us,r=>by cases vs <;> rfl
 |k::ks,[],us,r=>by rw[show us=[] from r];rfl
 |k::ks,v::vs,us,r=>by
  let⟨u,t,rfl,h1,h2⟩:=r;exact⟨u,_,rfl,h1,nF h2⟩
omit g in
theorem dM:∀{ks:C0},zBa ks=true->ks.Nodup
 |[],_=>xC7
 |k::ks,h=>by
  simp only[zBa,xCh,Bool.not_eq_true'] at h;refine xCb.mpr ⟨λhm=>?_,dM h.2⟩;have:(ks.any λy=>decide<|y=k)=true:=xCy.mpr ⟨k,hm,⋯⟩;rw[h.1] at this;cases this
omit g in
theorem pJ{acc:B4<|Key×V}{k:Key}{v:V}(h:k∉acc.map (·.1)):L2.putK acc k v=acc++[(k,v)]:=by
 unfold L2.putK;rw[xCf];intro z;let⟨p,hp,e⟩:=xCy.mp z;exact h<|xA2.mpr ⟨p,hp,xBe e⟩
omit g in
theorem iq:∀{more acc:B4<|Key×V},(acc.map (·.1)++more.map (·.1)).Nodup->zBj acc more=acc++more
 |[],acc,_=>by simp[zBj]
 |p::t,acc,h=>by
  have hn:p.1∉acc.map (·.1):=λz=>by
   have:=(xBq.mp h).2.2 p.1 z p.1 ⋯;exact this rfl
  show zBj (L2.putK acc p.1 p.2) t=_;rw[pJ hn,iq<|by simpa [xAx] using h];simp
omit g in
theorem jt:∀{ks:C0}{us:B4 V},ks.length=us.length->(ks.zip us).map ((λx=>x.1) ∘ λp=>((Sum.inr p.1:Key),p.2))=ks.map λk=>(Sum.inr k:Key)
 |[],_,_=>rfl
 |k::t,[],h=>by cases h
 |k::t,u::r,h=>by rw[List.zip_cons_cons,xBs,xBs,jt<|by simpa using h];rfl
theorem AH(hp:FP X B G Ex pos kx ks es as)(hn:zBa ks=true)(hl:ks.length=es.length)(hk:kx.length=es.length)(hall:kx.all (·.isSome)=true)(h0:kx≠[])(h15:ks.length<=15):FE X B G Ex (.Dict kx es pos)<|cP (.dct ks) as:=by
 let⟨trs,h1,h2⟩:=hp.ex;refine⟨wkE (tS h1 hall hk h0 ()) λτ H Q ⟨W,O,S,rs,rg,h⟩=>?_,mP g hp.m⟩;intro p hpn;erw[h2 τ _ _,<-LA.go hp.m (rs.hold (o:=.dK []) hpn λ_=>nofun) (rg.lf .pr) (hp.m.m (λ_ _=>XL.hold) (λ_ _ _ h=>h) h) λvs S1 W1 us H1 hvl le1 rs1 rv1 _ h3=>?_];let⟨z,S2,e,q⟩:=g.pok h3;delta pr at e;dsimp only at e;split at e
 .cases e;have hu:=rv1.length;have hpr:W1.pr=(p,.dK [])::W.pr:=le1.r;refine⟨(rs1.pf _<|by rw[hpr];exact xAr).1,(ks.zip us).map λp=>((Sum.inr p.1:Key),p.2),by rw[List.map_map];rfl,by rw[xAa,List.length_zip];lia,?_⟩;have hnd:(((ks.zip us).map λp=>((Sum.inr p.1:Key),p.2)).map (·.1)).Nodup:=by
   rw[List.map_map];have:=jt (ks:=ks) (us:=us) ();rw[this];exact List.Pairwise.map _ (λa b h z=>h<|Sum.inr.inj z)<|dM hn
  rw[iq (acc:=[])<|by simpa using hnd];have hne:∀q∈W.pr,q.1≠p:=λq hq z=>by rw[<- z,(rs.pf q hq).1] at hpn;cases hpn
  have lf:W1.Lf {W1 with pr:=W.pr,μ:=W1.μ++[p]}:=⟨λ_ _ h=>h,λ_ _ h=>dh h⟩
  let⟨rs2,ha⟩:=rs1.heldS (b:=.dct<|zGn ks vs) (h:=.dK<|[]++(ks.zip us).map λp=>((Sum.inr p.1:Key),p.2)) hpr hne ⟨_,rfl,by rw[xC6];exact(nF rv1).lf lf⟩;exact q {W1 with pr:=W.pr,μ:=W1.μ++[p]} _ _ ⟨λb o z=>le1.f b o z,λa b z=>dh<|le1.m a b z,rfl⟩ rs2 ⟨p,rfl,ha⟩
 .cases e
theorem BQ:FE X B G Ex (.Dict [] [] pos)<|cP (.dct []) aN:=
 ⟨wkE qi λτ H Q zz=>by
  let⟨W,O,S,rs,rg,h⟩:=zz;let⟨z,S2,e,q⟩:=g.pok h;cases e;intro p hp;have le:W.Le {W with μ:=W.μ++[p]}:=⟨λ_ _ h=>h,λ_ _ h=>dh h,rfl⟩
  let⟨_,rs',ha⟩:=rs.push (o:=.dct []) (h:=.dK []) hp ⟨[],rfl,rfl⟩;exact q _ _ _ le rs' ⟨p,rfl,ha⟩,mP g<|mAN g⟩
end
def A6:bootBuiltins "isinstance"=some (.builtin "isinstance"):=by decide +kernel
noncomputable def tys:B4 String:=["NoneType","bool","int","str","tuple","list","dict"]
structure ClT(B:Bs):Prop where
 ty:∀{C c H a dx fs},B.cl C c->H a=some (.ins c dx fs)->zB6 B.K H (.ref a) (.ref c)
structure zCh(B:Bs)(n:String):Prop where
 t:∀t∈tys,PySem.W.kitOne B.K (.type t) (.type n)=some (zFs t n)
 o:∀{C c},B.cl C c->PySem.W.kitOne B.K (.ref c) (.type n)=some (zFs "object" n)
structure zGr(B:Bs)(up:B4 (Str×Str))(D:Str)(d:B9):Prop where
 t:∀t∈tys,PySem.W.kitOne B.K (.type t) (.ref d)=some false
 o:∀{C c},B.cl C c->PySem.W.kitOne B.K (.ref c) (.ref d)=some (isC up C D)
section
variable{B:Bs}{W:Wd}{S S':So}{H:Hp}
theorem vR{u:V}{t:String}(T:ClT B)(rs:RS B W S H)(r:Rv B W v u)(h:tyU S v=some t):(t∈tys/\zB6 B.K H u (.type t))\/(t="object"/\∃p C fs c,v=.ref p/\at? S p=some (.ins C fs)/\B.cl C c/\zB6 B.K H u (.ref c)):=by
 cases v with
 |non=>cases h;rw[show u=_ from r];exact .inl ⟨∅,.non⟩
 |bl b=>cases h;rw[show u=_ from r];exact .inl ⟨∅,.bl b⟩
 |int i=>cases h;rw[show u=_ from r];exact .inl ⟨∅,.int i⟩
 |str x=>cases h;rw[show u=_ from r];exact .inl ⟨∅,.str x⟩
 |tup xs=>cases h;let⟨p,vs,rfl,f,_⟩:=r;exact .inl ⟨∅,.tup<|rs.fz _ _ f⟩
 |lst xs=>cases h;let⟨p,vs,rfl,f,_⟩:=r;exact .inl ⟨∅,.lst<|rs.fz _ _ f⟩
 |ref p=>
  unfold tyU at h;dsimp only at h;let⟨a,rfl,hm⟩:=r;cases e:at? S p with
  |none=>rw[e] at h;cases h
  |some o=>
   let⟨a',g,hm',hh,ro,_⟩:=rs.here e;rw[hm] at hm';cases hm';rw[e] at h;cases o with
   |lst xs=>cases h;let⟨vs,rfl,_⟩:=ro;exact .inl ⟨∅,.lst hh⟩
   |dct kvs=>cases h;let⟨vs,rfl,_⟩:=ro;exact .inl ⟨∅,.dK hh⟩
   |dtt kvs=>cases h
   |ins C fs=>cases h;let⟨c,dx,vs,hc,rfl,_⟩:=ro;exact .inr ⟨rfl,p,C,fs,c,rfl,e,hc,T.ty hc hh⟩
   |dead=>cases h
 |_=>cases h
set_option tactic.hygienic true
def vP{z:U}{u:V}{T:String}{up:B4<|Str×Str}(rs:RS B W S H)(r:Rv B W v u)(h:pr up (.typ T) [v] S=.ok z S')(hT:T="list"\/T="str"\/T="dict"):z=v/\S'=S/\tyV B.K T u H:=by
 delta pr at h;dsimp only at h;split at h
 .next t e=>
  split at h
  .next et=>
   cases h;refine⟨rfl,rfl,?_⟩;have et:t=T:=beq_iff_eq.mp et;subst et;rcases hT with rfl|rfl|rfl
   .cases v with
    |lst xs=>let⟨p,vs,rfl,f,_⟩:=r;exact .inl ⟨rfl,vs,.of<|rs.fz _ _ f⟩
    |ref p=>
     unfold tyU at e;dsimp only at e;cases e2:at? S p with
     |none=>rw[e2] at e;cases e
     |some o=>
      rw[e2] at e;cases o <;> try (simp at e;done)
      let⟨a',vs,e3,hh,_⟩:=c7 rs r (xs:=_) (by unfold lsT;dsimp only;rw[e2]);subst e3;exact .inl ⟨rfl,vs,.of hh⟩
    |_=>simp[tyU] at e
   .cases v with
    |str x=>rw[show u=_ from r];rfl
    |ref p=>
     unfold tyU at e;dsimp only at e;split at e <;> simp at e
    |_=>simp[tyU] at e
   .cases v with
    |ref p=>
     unfold tyU at e;dsimp only at e;cases e2:at? S p with
     |none=>rw[e2] at e;cases e
     |some o=>
      rw[e2] at e;cases o <;> try (simp at e;done)
      let⟨a,rfl,hm⟩:=r;let⟨a',g,hm',hh,ro,_⟩:=rs.here e2;rw[hm] at hm';cases hm';let⟨vs,rfl,_⟩:=ro;exact .inr<|.inr<|.inl ⟨rfl,.inl ⟨vs,hh⟩⟩
    |_=>simp[tyU] at e
  .cases h
 .cases h
set_option tactic.hygienic false
end
section
variable{B:Bs}{up:B4<|Str×Str}{G:D4}{Ex:St->XK}{c a b d:C9}{as:D5}
variable{X:Cx}{e ea eb ec o:B8}{es:B4 B8}{pos p1 p2 p3 apos cpos:Pos}{x y f m C:Str}{id T:String}{pm:Pm}{i:Nat}(g:zBu up G)
include g
set_option tactic.hygienic true
theorem AE(hK:X.K=B.K)(ct:ClT B)(kt:zCh B T)(hg:Gl X "isinstance")(hm:X.mg "isinstance"=none)(hgy:Gl X y)(hmy:X.mg y=none)(hvy:bootBuiltins y=some (.type T))(hny:y≠"__name__")(hdy:(y==("__debug__":Str))=false)(ha:FE X B G Ex ea a)(hst:zAa ea=true):FE X B G Ex (.Call (.Name "isinstance" p1) [ea,.Name y p2] [] pos)<|cP (.isT T)<|aC a aN:=
 ⟨wkE (qp yw hg hm A6 (oh ha.p (oh (tT hgy hmy hvy (v:=.ty T) rfl hny hdy) gH rfl) hst)<|by rw[xCj,hst];rfl) λτ H Q h=>(LE.p1 g ha.m h).imp ha.m λu H1 zz=>by
  let⟨W,S,v,z,S',rs,r1,e,q⟩:=zz;delta pr at e;dsimp only at e;split at e
  .next t et=>
   cases e;rcases vR ct rs r1 et with ⟨ht,ty⟩|⟨rfl,p,C,fs,c,_,_,hc,ty⟩
   .exact⟨u,T,_,_,rfl,by rw[hK];exact ty,by rw[hK];exact kt.t _ ht,q.here rs rfl⟩
   .exact⟨u,T,_,_,rfl,by rw[hK];exact ty,by rw[hK];exact kt.o hc,q.here rs rfl⟩
  ·(cases e),mP g<|mAC g ha.m<|mAN g⟩
set_option tactic.hygienic false
omit g in
def PrM(B:Bs)(up:B4<|Str×Str)(p:Pm)(r:V->B4 V->Hp->VK->Prop):Prop:=∀{W:Wd}{S:So}{H:Hp}{v:U}{u:V}{vs:C3}{us:B4 V}{z:U}{S':So}{Q:VK},RS B W S H->Rv B W v u->Rvs B W vs us->pr up p (v::vs) S=.ok z S'->VL B W Q z S'->r u us H Q
theorem rH{r:V->B4 V->Hp->VK->Prop}{name:Str}(hK:X.K=B.K)(pa:PlainAttrs T)(slot:Slot T name id)(hty:typeOf (.builtin id)=pure (.type "method_descriptor"))(hm:MtR X id r)(hp:PrM B up pm r)(hT:T="list"\/T="str"\/T="dict")(ho:FE X B G Ex o a)(he:FE X B G Ex e b)(h:zBw o=true)(h2:zAa e=true)(hl:(apos.endLine==cpos.line)=true):FE X B G Ex (.Call (.Attribute o name apos) [e] [] cpos)<|cBM T pm a<|aC b aN:=
 ⟨wkE (Bm pa slot hty hm ho.p (fI g he (ij g) h2).p h h2 hl) λτ H Q ⟨W,O,S,rs,rg,hh⟩=>LE.go ho.m rs rg hh λv S1 W1 u1 H1 le1 rs1 rv1 rg1 h1=>by
  let⟨z,S2,e2,h2⟩:=g.pok h1;let⟨rfl,rfl,ty⟩:=vP rs1 rv1 e2 hT;have fa:FA X B G Ex [e]<|aC b aN:=fI g he (ij g) ‹_›;refine⟨by rw[hK];exact ty,LA.go fa.m rs1 rg1 (fa.m.m (XL.upf le1 _) (λ_ _ _ h=>h) h2) λws S3 W3 us H3 hl le3 rs3 rv3 _ h3=>?_⟩;let⟨z3,S4,e4,q⟩:=g.pok h3;exact hp rs3 (rv1.mono le3) rv3 e4 (q.inc<|le1.trans le3),mBM g ho.m<|mAC g he.m<|mAN g⟩
omit g in
theorem zU:PrM B up .app zC8:=by
 intro W S H v u vs us z S' Q rs rv rvs h q;cases vs with
 |nil=>cases v <;> cases h
 |cons w t=>cases t with
  |cons _ _=>cases v <;> cases h
  |nil=>
   cases v <;> try (cases h;done)
   let⟨xs,aa,ys,e1,h2,e2,hm,hh,rr⟩:=mO rs rv h;let⟨hl,e3⟩:=du h2;cases e3;let⟨u2,rfl,r2⟩:=rvs.inv1;exact⟨aa,ys,u2,e2,rfl,hh,by rw[rr.length];lia,q.here (rs.mut hm e1 (by nofun) ⟨_,rfl,rr.app<|.one r2⟩) rfl⟩
set_option tactic.hygienic true
omit g in
omit g in
theorem zT:PrM B up .ext zC7:=by
 intro W S H v u vs us z S' Q rs rv rvs h q;cases vs with
 |nil=>cases v <;> cases h
 |cons w t=>cases t with
  |cons _ _=>cases v <;> cases h
  |nil=>
   cases v <;> try (cases h;done)
   let⟨xs,aa,ys,e1,h2,e2,hm,hh,rr⟩:=mO rs rv h;split at h2
   .next zs ez=>
    let⟨hl,e3⟩:=du h2;cases e3;let⟨u2,rfl,r2⟩:=rvs.inv1;let⟨bb,ws,rfl,hb,rr2⟩:=c7 rs r2 ez;exact⟨aa,bb,ys,ws,e2,rfl,hh,hb,by rw[rr.length,rr2.length];exact hl,q.here (rs.mut hm e1 (by nofun) ⟨_,rfl,rr.app rr2⟩) rfl⟩
   .cases h2
omit g in
theorem wW:PrM B up .join<|zFf B.K:=by
 intro W S H v u vs us z S' Q rs rv rvs h q;cases vs with
 |nil=>cases h
 |cons b t=>cases t with
  |cons _ _=>cases h
  |nil=>
   delta pr at h;dsimp only at h;split at h
   .next s xs es ex=>
    split at h
    .next ws ew=>
     split at h
     .next hl=>
      cases h;let⟨u2,rfl,r2⟩:=rvs.inv1;let⟨l,ys,rfl,hh,rr⟩:=c7 rs r2 ex;have e:=zBf ew rr;subst e;have:=vZ es;subst this;exact⟨s,l,ws,rv,rfl,.of hh,xBe hl,q.here rs rfl⟩
     .cases h
    .cases h
   .cases h
theorem vF(hK:X.K=B.K)(h:FE X B G Ex e c)(he:∀whole,isTrue e X.env whole=(do let v <- whole;standAt e.pos;holding [v] (truthy v))):FT X B G Ex e<|tB<|cP .tru<|aC c aN:=by
 have mm:=mP g (p:=.tru)<|mAC g h.m<|mAN g;refine⟨wkT (pK h.p he) λτ H Q hh=>?_,mB g mm⟩;have h':LE B G Ex (cP .tru<|aC c aN) τ H λx H'=>∃k,x=.bl k/\Q k H':=by
  let⟨W,O,S,rs,rg,hh⟩:=hh;refine LE.go mm rs rg hh λv S' W' u H' le rs' rv rg' h'=>?_;cases v <;> first|(exact(g.no h').elim)|exact⟨_,rv,h' W' H' le rs'⟩
 refine(LE.p1 g h.m h').imp h.m λu H1 zz=>?_;let⟨W,S,v,z,S',rs,r1,e,q⟩:=zz;change obB (zGt S v) id S=_ at e;unfold obB at e;split at e
 .next b eb=>
  cases e;let⟨k,ek,qk⟩:=q.here rs (u:=.bl b) rfl;cases ek;refine⟨b,?_,qk⟩;have seq:∀xs,sqU S v=some xs->b=!xs.isEmpty->zHy X.K u H1 b:=λxs ex hb=>by
   let⟨p,ys,rfl,sq,rr⟩:=fL rs r1 ex;have hb':b=!ys.isEmpty:=by rw[hb];cases xs <;> cases ys <;> first|rfl|(have:=rr.length;simp at this)
   rw[hK];rcases sq with sq|sq
   .exact .inl ⟨ys,sq,hb'⟩
   .exact .inr<|.inl ⟨ys,sq,hb'⟩
  unfold zGt at eb;split at eb
  .cases eb;rw[show u=_ from r1];rfl
  .next p=>
   split at eb
   .next xs e2=>exact seq xs (by show lsU S (.ref p)=_;unfold lsU;dsimp only;rw[e2]) (xB3 eb).symm
   .cases eb
  .cases eb
 .cases e
set_option tactic.hygienic false
omit g in
structure KdF(wo:World)(B:Bs):Prop where
 d:∀{p kvs no},B.kd p kvs no->KD wo B.K p
 y:∀{p kvs no x v},B.kd p kvs no->zAv x kvs=some v->∃u val,PySem.W.nsIn B.K p x=some (some val)/\zAi u val/\∀W,Rv B W v u
 n:∀{p kvs no x},B.kd p kvs no->x∈no->PySem.W.nsIn B.K p x=some none
theorem yg{no:C0}{p:B9}(hK:X.K=B.K)(F:KdF X.w B)(hd:B.kd p kvs no)(hg:Gl X x)(hm:X.mg x=some (.ref p))(hdb:(x==("__debug__":Str))=false)(he:FE X B G Ex e b)(h2:zAa e=true)(hl:(apos.endLine==cpos.line)=true):FE X B G Ex (.Call (.Attribute (.Name x p1) "get" apos) [e] [] cpos)<|cP .get1<|aC (cC<|.kd kvs no)<|aC b aN:=
 ⟨wkE (tR (by rw[hK];exact F.d hd) (iW hg hm (v:=.ref p) rfl hdb) he.p ⟨gn rfl,by rw[cg h2];rfl,hl,by rw[cg h2];rfl⟩) λτ H Q ⟨W,O,S,rs,rg,hh⟩=>LE.go he.m rs rg hh λv S1 W1 u1 H1 le1 rs1 rv1 rg1 h1=>by
  let⟨z,S2,e2,q⟩:=g.pok h1;cases v <;> try (cases e2;done)
  change opt _ _=_ at e2;unfold opt at e2;split at e2
  .next v' ev=>
   cases e2;let⟨u,val,e3,r3,r4⟩:=F.y hd ev;exact⟨_,u,val,rv1,by rw[hK];exact e3,r3,(q.inc le1).here rs1<|r4 _⟩
  ·(cases e2),mP g<|mAC g (mC g)<|mAC g he.m<|mAN g⟩
theorem yf{no:C0}{p:B9}(hK:X.K=B.K)(F:KdF X.w B)(hd:B.kd p kvs no)(hg:Gl X x)(hm:X.mg x=some (.ref p))(hdb:(x==("__debug__":Str))=false)(he:FE X B G Ex e b)(hc:FE X B G Ex ec c)(h2:zAa e=true)(h3:zAa ec=true)(hl:(apos.endLine==cpos.line)=true):FE X B G Ex (.Call (.Attribute (.Name x p1) "get" apos) [e,ec] [] cpos)<|cP .get2<|aC (cC<|.kd kvs no)<|zAx b c:=
 ⟨wkE (qg (by rw[hK];exact F.d hd) (iW hg hm (v:=.ref p) rfl hdb) he.p hc.p ⟨gn rfl,by rw[cg h2,cg h3];rfl,hl,by rw[cg h2,cg h3];rfl⟩) λτ H Q ⟨W,O,S,rs,rg,hh⟩=>LE.go he.m rs rg hh λv S1 W1 u1 H1 le1 rs1 rv1 rg1 h1 =>
  LE.go hc.m rs1 rg1 (hc.m.m (XL.upf le1 _) (λ_ _ h=>h) h1) λw S2 W2 u2 H2 le2 rs2 rv2 _ h2=>by
   let⟨z,S3,e2,q⟩:=g.pok h2;cases v <;> try (cases e2;done)
   delta pr at e2;dsimp only at e2;split at e2
   .next v' ev=>
    cases e2;let⟨u,val,e3,r3,r4⟩:=F.y hd ev;exact⟨_,u,some val,rv1,by rw[hK];exact e3,λ_ z=>by cases z;exact r3,nofun,(q.inc<|le1.trans le2).here rs2<|r4 _⟩
   .split at e2
    .next hn=>
     cases e2;let⟨y,hy,ey⟩:=xCy.mp hn;have ey:=xBe ey;subst ey;exact⟨_,u2,none,rv1,by rw[hK];exact F.n hd hy,nofun,λ_=>rfl,(q.inc<|le1.trans le2).here rs2 rv2⟩
    ·(cases e2),mP g<|mAC g (mC g)<|mAC g he.m<|mAC g hc.m<|mAN g⟩
end
end Fx
namespace RevA
open PySem PySem.Spec PyProof.Rows
open AutoSeq1 (wpAny_loadPart')
def zBq(it:B9):Obj:={cls:=.type "enumerate",data:=.fields #[.none,.bool false,.ref it,rawInt 2,.none,.none]}
set_option tactic.hygienic true
def oH(t:B9)(xs:Array B6)(n:Nat)(dct:B5 B9)(sl:Array<|B5 B6)(tk:Tok) :
  Meets (Builtin.«enumerate.__new__» ⟨[.type "enumerate",.ref t],[("start",.int 2 tk)]⟩) (λ_ R s=>s.heap.get? t=some { cls:=.type "tuple",dict:=dct,data:=.seq xs n,slots:=sl } /\
   R (.ok<|.ret<|.ref (s.heap.push<|zBv t).objs.size) {s with heap:=(s.heap.push<|zBv t).push<|zBq s.heap.objs.size}):=
 .of_wp λprog w A R s h=>by
  let⟨hp,g,d,tk,os⟩:=s;let⟨hl,h⟩:=h;have q1:=sub_enumerate;have hL:Heap.IsTuple (Shared.heap ⟨hp,g,d,tk,os⟩) t xs:=⟨_,hl,rfl,n,rfl⟩
  wp_walk using wpAny_loadPart' hl
  refine wpAny_stack_any λst=>xAe ?_;split
  .rename_i c _ _ _ _ _
   cases (c==Value.type "enumerate")
   .wp_walk using wpAny_loadPart' hl,wpAny_pyIter_tuple hL
    exact⟨_,rfl,h⟩
   .wp_walk using wpAny_loadPart' hl,wpAny_pyIter_tuple hL
    exact⟨_,rfl,h⟩
  .wp_walk using wpAny_loadPart' hl,wpAny_pyIter_tuple hL
   exact⟨_,rfl,h⟩
set_option tactic.hygienic false
def o8(a b:B6):checkTypeCall "enumerate" ⟨[a],[("start",b)]⟩=pure ⟨⟩:=by kernel_rfl
def qL(a b:B6):checkBuiltinCall "enumerate.__new__" ⟨[.type "enumerate",a],[("start",b)]⟩=pure ⟨⟩:=by kernel_rfl
def sB(a b c:B6):argsOk "object.__init__" ⟨[a,b],[("start",c)]⟩:=by
 unfold argsOk;rw[signature?_of (id:="object.__init__") (n:=['_','_','t','i','n','i','_','_']) (o:=['t','c','e','j','b','o']) (by kernel_rfl) PySem.F.owner_object];kernel_rfl
section
variable{prog:Program}{w:World}{A:Around}{E:B6->B7->Prop}{s:B7}
def zHj{t:B9}{xs:Array B6}{tk:Tok}{Q:B6->B7->Prop}(hL:s.heap.IsTuple t xs)(h:∀h',IsEnum h' (s.heap.objs.size+1) s.heap.objs.size 2 .none->h'.IsTupleIter s.heap.objs.size t 0->(∀b o,s.heap.get? b=some o->h'.get? b=some o)->Q (.ref<|s.heap.objs.size+1) {s with heap:=h'}) :
  wpAny (model prog w) A (call (.type "enumerate") [.ref t] [("start",.int 2 tk)]) Q E s:=by
 let⟨⟨c,dct,dt,sl⟩,hl,hc,n,hd⟩:=hL
 replace hc:c=.type "tuple":=hc
 replace hd:dt=.seq xs n:=hd
 subst hc hd;let⟨c0,tl,hmro⟩:=PySem.F.called_enumerate.mro;have hmade:=PySem.F.called_enumerate.made;have hsub:=PySem.F.called_enumerate.sub;refine wpAny_call<|codeAny_of_tree ?_;change wpAny _ _ (callAny (.type "enumerate") _) _ _ _;refine xAe ⟨Code.quiet_builtin _ (by decide +kernel),codeAny_builtin PySem.F.entry_type_call ?_⟩;rw[Around.under_plain (weight_type_call_type "enumerate" [.ref t] [("start",.int 2 tk)])<|units_type_call_type "enumerate" [.ref t] [("start",.int 2 tk)]];have q1:=PySem.F.called_enumerate.notType;have q2:=PySem.F.called_enumerate.canCreate;have q3:=o8 (.ref t)<|.int 2 tk;repeat (any_goals (first|assumption|wp_step))
 have hz:(s.heap.push<|zBv t).objs.size=s.heap.objs.size+1:=Heap.size_push ..;have he:IsEnum ((s.heap.push<|zBv t).push<|zBq s.heap.objs.size) (s.heap.objs.size+1) s.heap.objs.size 2 .none:=by
  have:=xAl (s.heap.push<|zBv t) (o:=zBq s.heap.objs.size) rfl;rw[hz] at this;exact this
 have hn:=oH t xs n dct sl tk prog w A.in1 (λr s₁=>r=.ok (.ret<|.ref<|s.heap.objs.size+1)/\s₁={s with heap:=(s.heap.push<|zBv t).push<|zBq s.heap.objs.size}) s ⟨hl,by rw[hz];exact⟨rfl,rfl⟩⟩;refine codeAny_mono (codeAny_call_builtin (R:=λr s₁=>r=.ok (.ret<|.ref<|s.heap.objs.size+1)/\s₁={s with heap:=(s.heap.push<|zBv t).push<|zBq s.heap.objs.size}) PySem.F.called_enumerate.plain PySem.F.entry_enumerate_new<|wpAny_of_eq (qL _ _) hn) λr s₁ hr=>?_;let⟨rfl,rfl⟩:=hr;have hT:Shared.TypeIs {s with heap:=(s.heap.push<|zBv t).push<|zBq s.heap.objs.size} (.ref<|s.heap.objs.size+1) "enumerate":=⟨_,he,rfl⟩
 have hli:=PySem.F.called_enumerate.init.lookup;have hbi:=PySem.F.called_enumerate.init.bind<|.ref<|s.heap.objs.size+1;repeat (any_goals (first|assumption|wp_step))
 refine codeAny_mono (codeAny_call_builtin (R:=λr s₁=>r=.ok (.ret .none)/\s₁={s with heap:=(s.heap.push<|zBv t).push<|zBq s.heap.objs.size}) PySem.F.called_enumerate.init.plain PySem.F.entry_object_init<|PySem.F.called_enumerate.init.check _ _ _ _ _ _ _ _ hT (sB _ _ _) ?_) λr s₁ hr=>?_
 .have hne:(some "enumerate.__new__" != some "object.__new__")=true:=by decide
  repeat (any_goals (first|assumption|wp_step))
  exact⟨rfl,rfl⟩
 .let⟨rfl,rfl⟩:=hr;repeat (any_goals (first|assumption|wp_step))
  exact h _ he ⟨_,xAf _<|xAl _ rfl,rfl,rfl⟩ λb o x=>xAf _<|xAf _ x
end
def zF0{prog:Program}{w:World}{A:Around}{it:B9}{fp:B4 B9}{n:Nat}{P:Nat->B6->Prop}{St:Nat->Heap->Prop}(D:Draws prog w A it fp n P St) :
  Draws prog w A it fp (n+2) (λi v=>P (i-2) v) (λi h=>2<=i/\St (i-2) h) where
 live:=λi h st=>D.live (i-2) h st.2
 frame:=λi h h' st hk=>⟨st.1,D.frame (i-2) h h' st.2 hk⟩
 item:=λi s Q E hi st hQ=>D.item (i-2) s Q E () st.2 λv h' tk a b c=>hQ v h' tk a ⟨(),by rw[show i+1-2=i-2+1 by have:=st.1;lia];exact b⟩ c
 done:=λs Q E st hE=>D.done s Q E (by have:=st.2;rw[Nat.add_sub_cancel] at this;exact this) hE
end RevA
namespace L2
open PySem PySem.Spec PyProof.Rows RevA
variable{P:Program}{K:xFr}{elts:B4 B8}{k lim:Nat}{pos p:Pos}{s:B7}{a:B8}{ta:TA}{it:B9}{x:V}{kx:B'}
def zH3(K:xFr)(a:B9):It:=
 ⟨λi H=>∃xs x,SqT K H a xs/\xs[i]?=some x,λi H x H'=>∃(p:B9) (v:V),x=.ref p/\H p=none/\H'=upd H p (.tup [.int ((i+2:Nat):Int),v])/\∀xs,SqT K H a xs->xs[i]?=some v,λi H=>∃xs,SqT K H a xs/\xs.length=i⟩
def kr{w:World}(a it e:B9)(hne:e≠it)(hae:a≠e)(hai:a≠it):zEh P w K (.Tuple elts k pos) (zH3 K a) [e,it] e (λi h=>(∃old,IsEnum h e it ((i+2:Nat):Int) old)/\h.IsTupleIter it a i) where
 mem:=by simp
 obj:=λi h st b hb=>by
  let⟨⟨old,q1⟩,o,q2,c,d⟩:=st;simp only[xAv,xBv,or_false] at hb;rcases hb with rfl|rfl
  .exact⟨_,q1,λv z=>by cases z⟩
  .exact⟨o,q2,λv z=>by rw[d] at z;cases z⟩
 keep:=λi h h' st k=>⟨let ⟨old,q⟩:=st.1;⟨old,k e ⋯ _ q⟩,st.2.at λo e'=>k it ⋯ o e'⟩
 item:=by
  intro X hP hw hK hc i Z s O H E I hf st hg;subst hP hw hK;let⟨xs,x,hq,hx⟩:=hg;let⟨its,rv,p,hz⟩:=I.tuple hq;let⟨u,hu,ru⟩:=rv.get hx;let⟨⟨old,he⟩,hit⟩:=st;have D:=zF0<|zDf (prog:=X.prog) (w:=X.w) (A:=X.A.in1) (by simpa using I.ok.hd hc) it a hai its.toArray;have hilt:i+2<its.toArray.size+2:=by
   rw[xAp];have:=(xAq.mp hu).1;lia
  refine wpAny_pyNext_enum_itemD D he ⟨(),by rw[Nat.add_sub_cancel];exact⟨hit,p⟩⟩ hilt hne (by simp[hne,Ne.symm hae]) λx1 h1 tk hP ho st1 hT hsz hk=>?_;have hx1:x1=u:=by
   have e1:its.toArray[i+2-2]?=some x1:=hP;rw[Nat.add_sub_cancel,List.getElem?_toArray,hu] at e1;cases e1;rfl
  subst hx1;have st1:=st1.2;rw[show i+2+1-2=i+1 by lia] at st1;have hel:e<s.heap.objs.size:=xA1 he;have hil:it<s.heap.objs.size:=by let⟨_,z,_⟩:=hit;exact xA1 z
  have h0:H s.heap.objs.size=none:=I.hok.fresh<|xAg _;have I1:Inv X Z O (upd H s.heap.objs.size<|.tup [.int ((i+2:Nat):Int),x]) {s with heap:=s.heap.push {cls:=.type "tuple",data:=.seq #[.int ((i+2:Nat):Int) tk,x1]},toks:=tk+1}:=by
   refine I.laid (λb o e=>xAf _ e) (xAg _) ⟨by simp[sizeLine_eq],[.int ((i+2:Nat):Int) tk,x1],.cons ⟨_,rfl⟩<|.cons ru .nil,_,xAl _ rfl,rfl,_,rfl⟩
  refine⟨_,rfl,wpAny_letOwnedTupleGo_enum (s:={s with heap:=h1,toks:=tk+1}) ho λh2 he2 hs2=>?_⟩;have hs2':Heap.SameBut e h1 h2:=hs2;have fp':∀b∈[e,it],zCz X Z (upd H s.heap.objs.size<|.tup [.int ((i+2:Nat):Int),x]) b:=λb hb=>by
   let⟨f0,f⟩:=hf b hb;refine⟨?_,f⟩;rw[b9]
   .exact f0
   .simp only[xAv,xBv,or_false] at hb;rcases hb with rfl|rfl
    .exact xA0 hel
    .exact xA0 hil
  have I2:=Inv.turnedL (t':=tk+1) (h':=h2) (fp:=[e,it]) I1 (λb o hb eb=>?_) fp'
  .refine⟨.ref s.heap.objs.size,_,I2,rfl,⟨_,x,rfl,h0,rfl,λys hy=>by rw[I.tuple_inj hy hq];exact hx⟩,⟨⟨_,by rw[show i+1+2=i+2+1 by lia];exact he2⟩,st1.1.at λo z=>(hs2'.2 it hne.symm).trans z⟩,λb hb=>(fp' b hb).1⟩
  .simp only[xAv,xBv,or_false,not_or] at hb;rw[hs2'.2 b hb.1];by_cases z:b=s.heap.objs.size
   .subst z;rw[hT];rw[<- eb];exact(xAl _ rfl).symm
   .erw[hk b o hb.1 hb.2];exact(Heap.get?_push_cases eb).elim (λy=>absurd y.1 z) id
 done:=by
  intro X hP hw hK hc i Z s O H E I hf st hg;subst hP hw hK;let⟨xs,hq,hx⟩:=hg;let⟨its,rv,p,hz⟩:=I.tuple hq;let⟨f0,f1,f2,f3,f4,f5⟩:=hf it ⋯;have hl:=rv.length;let⟨⟨old,he⟩,hit⟩:=st;have D:=zDf (prog:=X.prog) (w:=X.w) (A:=X.A.in1) (by simpa using I.ok.hd hc) it a hai its.toArray;have e1:its.toArray.size=i:=by rw[xAp];lia
  exact wpAny_pyNext_enum_endD D he (by rw[e1];exact⟨hit,p⟩) λh' eb=>⟨rfl,I.turned (t':=s.toks) (λb o hb e=>eb b o hb e) f0 f1 f3 f4 f5⟩
 self:=λ_ _ _ _ _ st h=>let ⟨⟨old,he⟩,_⟩:=st;wpAny_pyIter_enum he h
def zD9(K:xFr)(vs:C6)(H:Hp)(R:It->Hp->Prop):Prop:=∃a,vs=[.ref a]/\(∃xs,SqT K H a xs)/\R (zH3 K a) H
def zFv(K:xFr)(ta:TA):TI:=λO H R=>ta O H λvs H1=>zD9 K vs H1 R
def rQ{M:Model}{A:Around}{E:B6->B7->Prop}{env:Env}{T:String}{e:B8}{kws:B4 Keyword}{Q:B6->B7->Prop}(he:starEach [e] env=[(false,eval e env)])(hall:(backToKw pos<|keywordEach kws env).all (·.1.isSome)=true)(hkw:(backToKw pos<|keywordEach kws env).any (·.1.isNone)=false)(h:wpAny M A (spliced<|backTo pos<|starEach [e] env) (λvs s₁=>wpAny M A (evalAll ((backToKw pos<|keywordEach kws env).map (·.2))) (λkvs s₂=>wpAny M A (call (.type T) vs (((backToKw pos<|keywordEach kws env).filterMap (·.1)).zip kvs)) Q E s₂) E s₁) E s) :
  wpAny M A (callWith pos (.type T) [] (backTo pos<|starEach [e] env)<|backToKw pos<|keywordEach kws env) Q E s:=by
 rw[he,show backTo pos [(false,eval e env)]=(false,eval e env)::[] from rfl] at h⊢;unfold callWith;refine xAd (xDc<|wpAny_mono (evalArgs_kwB (Q:=λa s₁=>wpAny M A (call (.type T) ([]++a.pos) a.kw) Q E s₁) hall h) (λa s₁ h₁=>xAd<|wpAny_standAt ?_) λ_ _ x=>x);rw[hkw,show((false,eval e env)::[]).any (·.1)=false from rfl];refine xAd<|xAe ?_;exact xAd<|wpAny_mono h₁ (λr s₂ hr=>xAd<|xDc<|wpAny_point<|xAe hr) λ_ _ x=>x
section
variable{X:Cx}
theorem p9{pt kp np:Pos}{j:Nat}(hg:Gl X "enumerate")(hm:X.mg "enumerate"=none)(ha:PA X [a] ta)(hs:starEach [a] X.env=[(false,eval a X.env)]) :
  PI X (.Tuple elts k pt) (.Call (.Name "enumerate" p) [a] [⟨some "start",.Constant (.int 2) j np,kp⟩] pos) (zFv X.K ta):=by
 intro Z s O H R I h;refine xAd (fO I hg hm oR<|rQ hs rfl rfl<|thn (ha pos Z s O H _ I h) λus s1 ⟨vs,H1,I1,r1,q1⟩=>kws_cons<|wpAny_Constant_int<|kws_nil ?_);let⟨l,e,⟨xs,hq⟩,q⟩:=q1;subst e;cases r1 with
 |cons r rr=>
  cases rr;cases r;let⟨its,rv,pl,hz⟩:=I1.tuple (xs:=xs) hq;have hll:l<s1.heap.objs.size:=by let⟨o,ho,_⟩:=pl;exact xA1 ho
  erw[<-zHj (s:={s1 with toks:=s1.toks+1}) (show s1.heap.IsTuple l its.toArray from pl) λh' he hit hk=>?_,wpAny_pyIter_enum he];have I2:Inv X Z O H1 {s1 with heap:=h',toks:=s1.toks+1}:=(I1.tok _).kept (t':=s1.toks+1) hk;refine⟨s1.heap.objs.size+1,[s1.heap.objs.size+1,s1.heap.objs.size],_,_,H1,rfl,I2,kr l _ _ (Nat.succ_ne_self _) (xA0<|Nat.lt_succ_of_lt hll)<|xA0 hll,⟨⟨_,he⟩,hit⟩,λb hb=>?_,q⟩;have hb':s1.heap.objs.size<=b:=by
   simp only[xAv,xBv,or_false] at hb;rcases hb with rfl|rfl
   .exact Nat.le_succ _
   .exact xAg _
  exact I1.fpOk hb'<|I1.hok.fresh hb'
end
def sqB(k:B')(K:xFr)(H:Hp)(a:B9)(xs:C6):Prop:=match k with
 |true=>SqT K H a xs
 |false=>SqL K H a xs
def sqK(k:B')(K:xFr)(H:Hp)(x:V)(xs:C6):Prop:=∃a,x=.ref a/\sqB k K H a xs
structure SrW(k:B')(P:Program)(w:World)(K:xFr)(lim:Nat)(x:V)(it:B9)(tn:Nat->Heap->Prop):Prop where
 obj:∀i h,tn i h->∃o,h.get? it=some o/\∀v,o.data≠.cell v
 keep:∀i h h',tn i h->(∀o,h.get? it=some o->h'.get? it=some o)->tn i h'
 dr:∀(X:Cx),X.prog=P->X.w=w->X.K=K->X.calm=true->∀(Z:B4 (B9×Obj))(O:St)(H:Hp)(s:B7),Inv X Z O H s->∀xs,sqK k K H x xs->∃(f:B4 B9) (Pv:Nat->B6->Prop) (S:Nat->Heap->Prop),
  (∀b∈f,b=it\/b<lim)/\Draws P w X.A.in1 it f xs.length Pv S/\(∀i,tn i s.heap->S i s.heap)/\(∀i h,S i h->tn i h)/\(∀i v,Pv i v->∃u,xs[i]?=some u/\zAi u v)/\∀ys,sqK k K H x ys->ys=xs
def sS{w:World}{a:B9}(ha:a<lim)(hi:lim<=it):SrW true P w K lim (.ref a) it (λi h=>h.IsTupleIter it a i) where
 obj:=λi h ⟨o,e,_,d⟩=>⟨o,e,λv z=>by rw[d] at z;cases z⟩
 keep:=λi h h' st k=>st.at λo e=>k o e
 dr:=by
  intro X hP hw hK hc Z O H s I xs hx;subst hP hw hK;let⟨b,e,hx⟩:=hx
  .cases e;let⟨its,rv,p,hz⟩:=I.tuple hx;have hl:=rv.length;have D:=zDf (prog:=X.prog) (w:=X.w) (A:=X.A.in1) (by simpa using I.ok.hd hc) it a (xA0<|xBc ha hi) its.toArray;rw[xAp,<- hl] at D;refine⟨_,_,_,λb hb=>?_,D,λi st=>⟨st,p⟩,λi h st=>st.1,λi v hv=>?_,λys hy=>?_⟩
   .simp only[xAv,xBv,or_false] at hb;rcases hb with rfl|rfl
    .exact .inl rfl
    .exact .inr ha
   .have hv:its[i]?=some v:=by simpa using hv
    have hi:i<xs.length:=by rw[hl];exact(xAq.mp hv).1
    let⟨u,hu,ru⟩:=rv.get<|xAk hi;rw[hv] at hu;cases hu;exact⟨_,xAk hi,ru⟩
   .let⟨b,e,hy⟩:=hy;cases e;exact I.tuple_inj hy hx
def sT{w:World}{a:B9}(ha:a<lim)(hi:lim<=it):SrW false P w K lim (.ref a) it (λi h=>h.IsListIter it a i) where
 obj:=λi h ⟨o,e,_,d⟩=>⟨o,e,λv z=>by rw[d] at z;cases z⟩
 keep:=λi h h' st k=>st.at λo e=>k o e
 dr:=by
  intro X hP hw hK hc Z O H s I xs hx;subst hP hw hK;let⟨b,e,hx⟩:=hx
  .cases e;let⟨its,rv,p,hz⟩:=I.list hx;have hl:=rv.length;have D:=Draws.list (prog:=X.prog) (w:=X.w) (A:=X.A.in1) (by simpa using I.ok.hd hc) it a (xA0<|xBc ha hi) its.toArray;rw[xAp,<- hl] at D;refine⟨_,_,_,λb hb=>?_,D,λi st=>⟨st,p.isList⟩,λi h st=>st.1,λi v hv=>?_,λys hy=>?_⟩
   .simp only[xAv,xBv,or_false] at hb;rcases hb with rfl|rfl
    .exact .inl rfl
    .exact .inr ha
   .have hv:its[i]?=some v:=by simpa using hv
    have hi:i<xs.length:=by rw[hl];exact(xAq.mp hv).1
    let⟨u,hu,ru⟩:=rv.get<|xAk hi;rw[hv] at hu;cases hu;exact⟨_,xAk hi,ru⟩
   .let⟨b,e,hy⟩:=hy;cases e;exact I.list_inj hy hx
def zH2(kx ky:B')(K:xFr)(x y:V):It:=
 ⟨λi H=>∃xs ys u v,sqK kx K H x xs/\sqK ky K H y ys/\xs[i]?=some u/\ys[i]?=some v,
  λi H p H'=>∃(q:B9) (u v:V),p=.ref q/\H q=none/\H'=upd H q (.tup [u,v])/\(∀xs,sqK kx K H x xs->xs[i]?=some u)/\∀ys,sqK ky K H y ys->ys[i]?=some v,
  λi H=>∃xs,sqK kx K H x xs/\xs.length=i⟩
def nR{w:World}{y:V}{n:Nat}{t1 t2:Nat->Heap->Prop}{ky:B'}(s1:SrW kx P w K n x n t1)(s2:SrW ky P w K n y (n+1) t2) :
  zEh P w K (.Tuple elts k pos) (zH2 kx ky K x y) [n+4,n+2,n+3,n,n+1] (n+4) (λi h=>IsZip h (n+4) (n+2) (n+3) .none/\IsPair h (n+2) (.ref n) (.ref<|n+1)/\(∃x y,IsPair h (n+3) x y)/\t1 i h/\t2 i h) where
 mem:=by simp
 obj:=λi h st c hc=>by
  let⟨q1,q2,⟨x,y,q3⟩,q4,q5⟩:=st;simp only[xAv,xBv,or_false] at hc;rcases hc with rfl|rfl|rfl|rfl|rfl
  .exact⟨_,q1,λv z=>by cases z⟩
  .exact⟨_,q2,λv z=>by cases z⟩
  .exact⟨_,q3,λv z=>by cases z⟩
  .exact s1.obj i h q4
  .exact s2.obj i h q5
 keep:=λi h h' st k=>by
  let⟨q1,q2,⟨x,y,q3⟩,q4,q5⟩:=st;exact⟨k _ ⋯ _ q1,k _ ⋯ _ q2,⟨x,y,k _ ⋯ _ q3⟩,s1.keep i h h' q4 λo e=>k _ ⋯ o e,s2.keep i h h' q5 λo e=>k _ ⋯ o e⟩
 item:=by
  intro X hP hw hK hc i Z s O H E I hf st hg;subst hP hw hK;let⟨xs,ys,u,v,hq,hr,hx,hy⟩:=hg;let⟨q1,q2,⟨x0,y0,q3⟩,q4,q5⟩:=st;let⟨f1,P1,S1,m1,D1,a1,c1,r1,j1⟩:=s1.dr X rfl rfl rfl hc Z O H s I xs hq;let⟨f2,P2,S2,m2,D2,a2,c2,r2,j2⟩:=s2.dr X rfl rfl rfl hc Z O H s I ys hr;have AP:=oX (f1:=f1) (f2:=f2) m1 m2;have lz:n+4<s.heap.objs.size:=xA1 q1;have h0:H s.heap.objs.size=none:=I.hok.fresh<|xAg _;refine nP D1 D2 AP q1 q2 q3 (a1 i q4) (a2 i q5) (xAq.mp hx).1 (xAq.mp hy).1 λu1 v1 h1 tk p1 p2 b1 b2 b3 b4 b5 hk=>?_;let⟨u',hu',ru⟩:=r1 i u1 p1;rw[hx] at hu';cases hu';let⟨v',hv',rv⟩:=r2 i v1 p2;rw[hy] at hv';cases hv';have I1:Inv X Z O (upd H s.heap.objs.size<|.tup [u,v]) {s with heap:=s.heap.push {cls:=.type "tuple",data:=.seq #[u1,v1]},toks:=tk}:=by
   refine I.laid (λb o e=>xAf _ e) (xAg _) ⟨by simp[sizeLine_eq],[u1,v1],.cons ru<|.cons rv .nil,_,xAl _ rfl,rfl,_,rfl⟩
  refine⟨_,rfl,wpAny_letOwnedTupleGo_zip (s:={s with heap:=h1,toks:=tk}) b1 λh2 e1 hs2=>?_⟩;have hs2':Heap.SameBut (n+4) h1 h2:=hs2;have fp':∀b∈[n+4,n+2,n+3,n,n+1],zCz X Z (upd H s.heap.objs.size<|.tup [u,v]) b:=λb hb=>by
   let⟨f0,f⟩:=hf b hb;refine⟨?_,f⟩;rw[b9]
   .exact f0
   .simp only[xAv,xBv,or_false] at hb;rcases hb with rfl|rfl|rfl|rfl|rfl <;> exact xA0 ()
  have I2:=Inv.turnedL (t':=tk) (h':=h2) (fp:=[n+4,n+2,n+3,n,n+1]) I1 (λb o hb eb=>?_) fp'
  .refine⟨.ref s.heap.objs.size,_,I2,rfl,⟨_,u,v,rfl,h0,rfl,λzs hz=>by rw[j1 zs hz];exact hx,λzs hz=>by rw[j2 zs hz];exact hy⟩,⟨e1,?_,⟨u1,v1,?_⟩,?_,?_⟩,λb hb=>(fp' b hb).1⟩
   .exact(hs2'.2 _ AP.q1).trans<|hk _ _ AP.q1 AP.q5 AP.q6 AP.q7 q2
   .exact(hs2'.2 _ AP.q2).trans b2
   .exact s1.keep _ _ _ (c1 _ _ b3) λo e=>(hs2'.2 _ AP.q3).trans e
   .exact s2.keep _ _ _ (c2 _ _ b4) λo e=>(hs2'.2 _ AP.q4).trans e
  .simp only[xAv,xBv,or_false,not_or] at hb;rw[hs2'.2 b hb.1];by_cases zz:b=s.heap.objs.size
   .subst zz;rw[show h1.get? s.heap.objs.size=_ from b5];rw[<- eb];exact(xAl _ rfl).symm
   .erw[hk b o hb.1 hb.2.2.1 hb.2.2.2.1 hb.2.2.2.2];exact(Heap.get?_push_cases eb).elim (λy=>absurd y.1 zz) id
 done:=by
  intro X hP hw hK hc i Z s O H E I hf st hg;subst hP hw hK;let⟨xs,hq,rfl⟩:=hg;let⟨q1,q2,⟨x0,y0,q3⟩,q4,q5⟩:=st;let⟨f1,P1,S1,m1,D1,a1,c1,r1,j1⟩:=s1.dr X rfl rfl rfl hc Z O H s I xs hq;have AP:=oX (f1:=f1) (f2:=[]) m1 λb hb=>nomatch hb;refine nQ D1 AP q1 q2 (a1 _ q4) λh' eb=>⟨rfl,Inv.turnedL (t':=s.toks) (fp:=[n+4,n+2,n+3,n,n+1]) I (λb o hb e=>?_) hf⟩
  simp only[xAv,xBv,or_false,not_or] at hb;exact eb b o hb.1 hb.2.2.1 hb.2.2.2.1 hb.2.2.2.2 e
 self:=λ_ _ _ _ _ st h=>wpAny_pyIter_zip st.1 h
def zD8(K:xFr)(vs:C6)(H:Hp)(R:It->Hp->Prop):Prop:=∃x y kx ky,vs=[x,y]/\(∃xs,sqK kx K H x xs)/\(∃ys,sqK ky K H y ys)/\R (zH2 kx ky K x y) H
def zHg(K:xFr)(ta:TA):TI:=λO H R=>ta O H λvs H1=>zD8 K vs H1 R
section
variable{X:Cx}
theorem pe{Z:B4<|B9×Obj}{O:St}{H:Hp}{v:B6}(I:Inv X Z O H s)(r:zAi x v){xs:C6}(h:sqK kx X.K H x xs)(lim it:Nat)(hl:s.heap.objs.size<=lim)(hi:lim<=it) :
  ∃(o:Obj) (tn:Nat->Heap->Prop),(∀h',(∀c o,s.heap.get? c=some o->h'.get? c=some o)->zBk v o h')/\o.isFreed=false/\SrW kx X.prog X.w X.K lim x it tn/\∀h',h'.get? it=some o->tn 0 h':=by
 let⟨a,rfl,hx⟩:=h;obtain rfl:v=Value.ref a:=r;cases kx with
 |true=>
  let⟨its,rv,p,hz⟩:=I.tuple hx;have ha:a<s.heap.objs.size:=by let⟨o,e,_⟩:=p;exact xA1 e
  refine⟨zBv a,_,λh' k=>?_,rfl,sS (xBc ha hl) hi,λh' e=>⟨_,e,rfl,rfl⟩⟩;intro prog w A E s' Q e q;subst e;let⟨o,e,r⟩:=p;exact wpAny_pyIter_tuple (items:=its.toArray) ⟨o,k _ _ e,r⟩ q
 |false=>
  let⟨its,rv,p,hz⟩:=I.list hx;have ha:a<s.heap.objs.size:=by let⟨o,n,e,_⟩:=p;exact xA1 e
  refine⟨{cls:=.type "list_iterator",data:=.fields #[.ref a,.int 0 0]},_,λh' k=>?_,rfl,sT (xBc ha hl) hi,λh' e=>⟨_,e,rfl,rfl⟩⟩;intro prog w A E s' Q e q;subst e;let⟨o,n,e,r⟩:=p;exact wpAny_pyIter_list (PlainL.isList ⟨o,n,k _ _ e,r⟩) q
theorem tO{b:B8}{pt:Pos}(hg:Gl X "zip")(hm:X.mg "zip"=none)(ha:PA X [a,b] ta)(hs:starEach [a,b] X.env=(false,eval a X.env)::starEach [b] X.env)(hs2:starEach [b] X.env=[(false,eval b X.env)]) :
  PI X (.Tuple elts k pt) (.Call (.Name "zip" p) [a,b] [] pos) (zHg X.K ta):=by
 intro Z s O H R I h;refine Call_ (fO I hg hm sh<|PyProof.Rows.callWith_type1 (thn (ha pos Z s O H _ I h) λus s1 ⟨vs,H1,I1,r1,q1⟩=>?_) hs<|by rw[hs2];rfl);let⟨x,y,kx,ky,e,⟨xs,hq⟩,⟨ys,hr⟩,q⟩:=q1;subst e;cases r1 with
 |cons r rr=>
  cases rr with
  |cons r2 rr=>
   cases rr;let⟨o1,t1,j1,fr1,S1,z1⟩:=pe I1 r hq s1.heap.objs.size s1.heap.objs.size (xAg _)<|xAg _;let⟨o2,t2,j2,fr2,S2,z2⟩:=pe I1 r2 hr s1.heap.objs.size (s1.heap.objs.size+1) (xAg _)<|Nat.le_succ _;erw[<-oW (j1 _ λ_ _ e=>e) (j2 _ λ_ _ e=>xAf _ e) λh' a1 a2 a3 a4 a5 hk=>?_,wpAny_pyIter_zip a1];have I2:Inv X Z O H1 {s1 with heap:=h'}:=I1.kept (t':=s1.toks) hk;refine⟨s1.heap.objs.size+4,[s1.heap.objs.size+4,s1.heap.objs.size+2,s1.heap.objs.size+3,s1.heap.objs.size,s1.heap.objs.size+1],_,_,H1,rfl,I2,nR S1 S2,⟨a1,a2,⟨_,_,a3⟩,z1 _<|a4 fr1,z2 _<|a5 fr2⟩,λb hb=>?_,q⟩;have hb':s1.heap.objs.size<=b:=by
    simp only[xAv,xBv,or_false] at hb;rcases hb with rfl|rfl|rfl|rfl|rfl <;> lia
   exact I1.fpOk hb'<|I1.hok.fresh hb'
end
end L2
namespace Fx
open PySem PySem.Spec L2
open PyProof.Rows hiding St
variable{ys:B4 V}{xs:C3}{ts:B4 B8}{k:Nat}{is js:C4}{S:So}{H:Hp}{O:Sg}{τ:St}{QS:St->Hp->Prop}{D:zDp}{o:B8}
structure Wku(B:Bs)(m0J:It)(W:Wd)(vs:C3):Prop where
 go:∀{i:Nat}{H:Hp}{W':Wd}{S:So},W.Lf W'->RS B W' S H->i<vs.length->m0J.go i H
 yld:∀{i:Nat}{H H':Hp}{x:V}{v:U}{W':Wd}{S:So},W.Lf W'->RS B W' S H->vs[i]?=some v->m0J.yld i H x H'->∃W2,W'.Le W2/\RS B W2 S H'/\Rv B W2 v x
 stop:∀{H:Hp}{W':Wd}{S:So},W.Lf W'->RS B W' S H->m0J.stop vs.length H
def IL(B:Bs)(W:Wd)(R:It->Hp->Prop):D0:=λv S=>∀W' m0J H vs,W.Le W'->RS B W' S H->v=.tup vs->Wku B m0J W' vs->R m0J H
def LI(B:Bs)(G:D4)(Ex:St->XK)(c:C9):TI:=λτ H R=>∃W O S,RS B W S H/\Rg B W O τ/\c G O S (XL B W<|Ex τ) (IL B W R)
structure FI(X:Cx)(B:Bs)(G:D4)(Ex:St->XK)(tg it:B8)(c:C9):Prop where
 p:PI X tg it (LI B G Ex c)
 m:zA2 G c
def wkI{X:Cx}{tg e:B8}{t t':TI}(h:PI X tg e t)(w:∀O H R,t' O H R->t O H R):PI X tg e t':=λZ s O H R I q=>h Z s O H R I<|w _ _ _ q
section
variable{B:Bs}{W:Wd}{vs:C3}
def zGs{a:B9}(h:SqL B.K W.F a ys)(r:Rvs B W vs ys):Wku B (Itl B.K a) W vs where
 go:=λ{i H W' S} le rs hi=>⟨ys,ys[i]'(by rw[r.length];exact hi),ff (λp o z=>rs.fz p o<|le.f p o z) h,⋯⟩
 yld:=λ{i H H' x v W' S} le rs hv ⟨e,y⟩=>by
  subst e;let⟨u,e2,ru⟩:=r.get hv;have:=y ys<|ff (λp o z=>rs.fz p o<|le.f p o z) h;rw[e2] at this;cases this;exact⟨W',.refl,rs,ru.lf le⟩
 stop:=λle rs=>⟨ys,ff (λp o z=>rs.fz p o<|le.f p o z) h,by rw[r.length];exact xAg _⟩
def zH4{a:B9}(h:∀H:Hp,(∀p o,W.F p=some o->H p=some o)->SqT B.K H a ys)(r:Rvs B W vs ys):Wku B (Itt B.K a) W vs where
 go:=λ{i H W' S} le rs hi=>⟨ys,ys[i]'(by rw[r.length];exact hi),h _ λp o z=>rs.fz p o<|le.f p o z,⋯⟩
 yld:=λ{i H H' x v W' S} le rs hv ⟨e,y⟩=>by
  subst e;let⟨u,e2,ru⟩:=r.get hv;have:=y ys (h _ λp o z=>rs.fz p o<|le.f p o z);rw[e2] at this;cases this;exact⟨W',.refl,rs,ru.lf le⟩
 stop:=λle rs=>⟨ys,h _ λp o z=>rs.fz p o<|le.f p o z,by rw[r.length];exact xAg _⟩
theorem jY:∀{n:Nat}{lo:Int}{i:Nat},(zBt lo n)[i]?=if i<n then some (.int<|lo+i) else none
 |0,_,_=>by simp[zBt]
 |n+1,lo,0=>by simp[zBt]
 |n+1,lo,i+1=>by
  show(zBt (lo+1) n)[i]?=_;rw[jY];by_cases h:i<n
  .rw[xCg h,xCg ()];congr 2;lia
  .rw[xCf h,xCf ()]
theorem zAz:∀{n:Nat}{lo:Int},(zBt lo n).length=n
 |0,_=>rfl
 |n+1,lo=>by show(zBt (lo+1) n).length+1=_;rw[zAz]
def zJb{lo:Int}{n:Nat}:Wku B (Itr lo n) W (zBt lo n) where
 go:=λle rs hi=>by rw[zAz] at hi;exact hi
 yld:=λ{i H H' x v W' S} le rs hv ⟨e,y⟩=>by
  subst e y;rw[jY] at hv;split at hv
  .cases hv;exact⟨W',.refl,rs,rfl⟩
  .cases hv
 stop:=λle rs=>by rw[zAz];exact xAg _
def zJa{z:Str}:Wku B (Its z) W (z.cps.toList.map λc=>.str ⟨#[c]⟩) where
 go:=λle rs hi=>by show _<z.cps.size;simpa using hi
 yld:=λ{i H H' x v W' S} le rs hv y=>by
  let⟨e,c,hc,ex⟩:=y;subst e ex;rw[xAw] at hv;have:z.cps.toList[i]?=some c:=by simpa using hc
  rw[this] at hv;cases hv;exact⟨W',.refl,rs,rfl⟩
 stop:=λle rs=>by show _=z.cps.size;simp
theorem ju:∀{xs ys:C3}{i:Nat}{v:U},(zBl xs ys)[i]?=some v->∃x y,xs[i]?=some x/\ys[i]?=some y/\v=.tup [x,y]
 |[],_,_,_,h=>by simp[zBl] at h
 |_::_,[],_,_,h=>by simp[zBl] at h
 |x::xs,y::ys,0,_,h=>by simp[zBl] at h;exact⟨x,y,rfl,rfl,h.symm⟩
 |x::xs,y::ys,i+1,_,h=>by simpa using ju (xs:=xs) (ys:=ys) (i:=i) (by simpa [zBl] using h)
theorem gB:∀{xs ys:C3},xs.length=ys.length->(zBl xs ys).length=xs.length
 |[],_,_=>rfl
 |x::xs,[],h=>by cases h
 |x::xs,y::ys,h=>by simp[zBl,gB (xs:=xs) (ys:=ys)<|by simpa using h]
def zI9{k1 k2:B'}{x y:V}{as bs:B4 V}{ys:C3}(h1:∀H:Hp,(∀p o,W.F p=some o->H p=some o)->sqK k1 B.K H x as)(h2:∀H:Hp,(∀p o,W.F p=some o->H p=some o)->sqK k2 B.K H y bs)(r1:Rvs B W xs as)(r2:Rvs B W ys bs)(hl:xs.length=ys.length):Wku B (zH2 k1 k2 B.K x y) W (zBl xs ys) where
 go:=λ{i H W' S} le rs hi=>by
  rw[gB hl] at hi;exact⟨as,bs,as[i]'(by rw[r1.length];exact hi),bs[i]'(by rw[r2.length,<- hl];exact hi),h1 _ λp o z=>rs.fz p o<|le.f p o z,h2 _ λp o z=>rs.fz p o<|le.f p o z,⋯,⋯⟩
 yld:=λ{i H H' x' v W' S} le rs hv ⟨q,u,u2,e1,e2,e3,e4,e5⟩=>by
  subst e1 e3;let⟨a,b,ea,eb,rfl⟩:=ju hv;let⟨u',e6,ru⟩:=r1.get ea;have:=e4 as (h1 _ λp o z=>rs.fz p o<|le.f p o z);rw[e6] at this;cases this;let⟨u',e7,ru2⟩:=r2.get eb;have:=e5 bs (h2 _ λp o z=>rs.fz p o<|le.f p o z);rw[e7] at this;cases this;let⟨le2,rs2⟩:=rs.fresh (o:=.tup [u,u2]) e2;exact⟨_,le2,rs2,q,_,rfl,ce,⟨_,_,rfl,(ru.lf le).mono le2,⟨_,_,rfl,(ru2.lf le).mono le2,rfl⟩⟩⟩
 stop:=λle rs=>⟨as,h1 _ λp o z=>rs.fz p o<|le.f p o z,by rw[gB hl];exact r1.length⟩
end
section
variable{B:Bs}{W:Wd}{vs:C3}
theorem gY:∀{xs:C3}{lo:Int},(zCs lo xs).length=xs.length
 |[],_=>rfl
 |_::xs,lo=>by show(zCs (lo+1) xs).length+1=_;rw[gY];rfl
theorem j0:∀{xs:C3}{lo:Int}{i:Nat}{v:U},(zCs lo xs)[i]?=some v->∃x,xs[i]?=some x/\v=.tup [.int<|lo+i,x]
 |[],_,_,_,h=>by cases h
 |x::xs,lo,0,v,h=>by cases h;exact⟨x,rfl,by congr 3;lia⟩
 |x::xs,lo,i+1,v,h=>by
  let⟨y,h1,rfl⟩:=j0 (xs:=xs) (lo:=lo+1) (i:=i) h;exact⟨y,h1,by congr 3;lia⟩
def zEx{a:B9}(h:∀H:Hp,(∀p o,W.F p=some o->H p=some o)->SqT B.K H a ys)(r:Rvs B W vs ys):Wku B (zH3 B.K a) W (zCs 2 vs) where
 go:=λ{i H W' S} le rs hi=>⟨ys,ys[i]'(by rw[gY] at hi;rw[r.length];exact hi),h _ λp o z=>rs.fz p o<|le.f p o z,⋯⟩
 yld:=λ{i H H' x v W' S} le rs hv ⟨q,u,e1,e2,e3,e4⟩=>by
  subst e1 e3;let⟨v0,hv0,rfl⟩:=j0 hv;let⟨u',e6,ru⟩:=r.get hv0;have:=e4 ys (h _ λp o z=>rs.fz p o<|le.f p o z);rw[e6] at this;cases this;let⟨le2,rs2⟩:=rs.fresh (o:=.tup [.int ((i+2:Nat):Int),u]) e2;exact⟨_,le2,rs2,q,_,rfl,ce,⟨_,_,rfl,(by show V.int _=V.int _;congr 1;lia),⟨_,_,rfl,(ru.lf le).mono le2,rfl⟩⟩⟩
 stop:=λle rs=>⟨ys,h _ λp o z=>rs.fz p o<|le.f p o z,by rw[gY,r.length]⟩
end
def zFn(K:xFr)(x:V)(H:Hp)(R:It->Hp->Prop):Prop:=zFm K x H R\/zFl K x H R\/zDi x H R
def iA(K:xFr)(te:TE):TI:=λO H R=>te O H λx H1=>zFn K x H1 R
section
variable{X:Cx}{e tg:B8}{te:TE}
def Bk(he:PE X e te):PI X tg e<|iA X.K te:=by
 intro Z s O H R I h;refine thn (he Z s O H _ I h) λv s1 zz=>?_;let⟨x,H1,I1,r1,q1⟩:=zz;rcases q1 with ⟨a,e,⟨xs,hq⟩,q⟩|⟨a,e,⟨xs,hq⟩,q⟩|q
 .subst e;cases r1;let⟨its,rv,p,hz⟩:=I1.list hq;erw[wpAny_pyIter_list p.isList,<-⟨s1.heap.objs.size,[s1.heap.objs.size],_,_,H1,rfl,I1.kept (t':=s1.toks) λb o e=>xAf _ e,nS a _,⟨_,xAl _ rfl,rfl,rfl⟩,λb hb=>?_,q⟩];have e:b=s1.heap.objs.size:=by simpa using hb
  subst e;exact I1.fpOk (xAg _)<|I1.hok.fresh<|xAg _
 .subst e;cases r1;let⟨its,rv,p,hz⟩:=I1.tuple hq;erw[wpAny_pyIter_tuple (show s1.heap.IsTuple a its.toArray from p),<-⟨s1.heap.objs.size,[s1.heap.objs.size],_,_,H1,rfl,I1.kept (t':=s1.toks) λb o e=>xAf _ e,kn a _,⟨_,xAl _ rfl,rfl,rfl⟩,λb hb=>?_,q⟩];have e:b=s1.heap.objs.size:=by simpa using hb
  subst e;exact I1.fpOk (xAg _)<|I1.hok.fresh<|xAg _
 .let⟨z,rfl,q⟩:=q;let⟨t,rfl⟩:=r1;cases ha:z.cps.all (·<128)
  .refine wpAny_pyIter_wide ha ⟨s1.heap.objs.size,[s1.heap.objs.size],_,_,H1,rfl,I1.kept (t':=s1.toks) λb o e=>xAf _ e,jz _ z t "str_iterator" ∅ (λA' hA=>Walks.strWide hA _ z t) λ_ _ _ _ _ st h=>wpAny_pyIter_striter_wide st h,⟨_,xAl _ rfl,rfl,rfl⟩,λb hb=>?_,q⟩;have e:b=s1.heap.objs.size:=by simpa using hb
   subst e;exact I1.fpOk (xAg _)<|I1.hok.fresh<|xAg _
  .refine wpAny_pyIter_ascii ha ⟨s1.heap.objs.size,[s1.heap.objs.size],_,_,H1,rfl,I1.kept (t':=s1.toks) λb o e=>xAf _ e,jz _ z t "str_ascii_iterator" ∅ (λA' hA=>Walks.strAscii hA _ z t) λ_ _ _ _ _ st h=>wpAny_pyIter_striter_ascii st h,⟨_,xAl _ rfl,rfl,rfl⟩,λb hb=>?_,q⟩;have e:b=s1.heap.objs.size:=by simpa using hb
   subst e;exact I1.fpOk (xAg _)<|I1.hok.fresh<|xAg _
end
section
variable{B:Bs}{up:B4<|Str×Str}{G:D4}{Ex:St->XK}{c a b d:C9}{as:D5}
variable{X:Cx}{e ea eb tg:B8}{es:B4 B8}{pos p1 p2:Pos}{x:Str}(g:zBu up G)
include g
set_option tactic.hygienic true
theorem vG(hK:X.K=B.K)(h:FE X B G Ex e a):FI X B G Ex tg e<|cP .seq<|aC a aN:=
 ⟨wkI (Bk h.p) λτ H R ⟨W,O,S,rs,rg,hh⟩=>LE.go h.m rs rg hh λv S1 W1 u1 H1 le1 rs1 rv1 rg1 h1=>by
  let⟨z,S2,e2,q⟩:=g.pok h1;change zE8 .tup v S1=_ at e2;unfold zE8 at e2;rw[hK];split at e2
  .next z2=>
   cases e2;exact .inr (.inr ⟨z2,rv1,q W1 _ H1 _ le1 rs1 rfl zJa⟩)
  .next p=>
   split at e2
   .next xs ex=>
    cases e2;let⟨aa,rfl,hm⟩:=rv1;let⟨W2,le2,rs2,p',ys,e3,f3,r3⟩:=rs1.freeze ex hm;cases e3;exact .inl ⟨aa,rfl,⟨ys,.of<|rs2.fz _ _ f3⟩,q W2 _ H1 xs (le1.trans le2) rs2 rfl<|zGs (.of f3) r3⟩
   .cases e2
  .next hs hr=>
   split at e2
   .next xs ex=>
    cases e2;cases v with
    |tup _=>cases ex;let⟨p,ys,rfl,f,r⟩:=rv1;exact .inr (.inl ⟨p,rfl,⟨ys,.of<|rs1.fz _ _ f⟩,q W1 _ H1 xs le1 rs1 rfl<|zH4 (λH hF=>.of<|hF _ _ f) r⟩)
    |kt _=>cases ex;let⟨p,ys,rfl,f,r⟩:=rv1;exact .inr (.inl ⟨p,rfl,⟨ys,f H1⟩,q W1 _ H1 xs le1 rs1 rfl<|zH4 (λH _=>f H) r⟩)
    |lst _=>cases ex;let⟨p,ys,rfl,f,r⟩:=rv1;exact .inl ⟨p,rfl,⟨ys,.of<|rs1.fz _ _ f⟩,q W1 _ H1 xs le1 rs1 rfl<|zGs (.of f) r⟩
    |kl _=>cases ex;let⟨p,ys,rfl,f,r⟩:=rv1;exact .inl ⟨p,rfl,⟨ys,ff rs1.fz f⟩,q W1 _ H1 xs le1 rs1 rfl<|zGs f r⟩
    |ref p=>exact(hr p rfl).elim
    |_=>cases ex
   ·(cases e2),mP g<|mAC g h.m<|mAN g⟩
set_option tactic.hygienic false
theorem yb(hg:Gl X "range")(hm:X.mg "range"=none)(h:FE X B G Ex e a)(hst:zAa e=true):FI X B G Ex tg (.Call (.Name "range" p1) [e] [] pos)<|cP .rng1<|aC a aN:=
 ⟨wkI (zu hg hm (fI g h (ij g) hst).p hst) λτ H R ⟨W,O,S,rs,rg,hh⟩=>LA.go (mAC g h.m<|mAN g) rs rg hh λvs S1 W1 us H1 hl le1 rs1 rv1 rg1 h1=>by
  let⟨z,S2,e2,q⟩:=g.pok h1;let⟨v,rfl⟩:=vs1 e2 rfl λa b r=>by cases a <;> rfl
  let⟨u,rfl,r1⟩:=rv1.inv1;cases v <;> try (cases e2;done)
  delta pr at e2;dsimp only at e2;split at e2
  .next j hd=>
   cases e2;let⟨h1,h2⟩:=xBe hd;exact⟨_,by rw[show u=_ from r1],h1,h2,q W1 _ H1 _ le1 rs1 rfl zJb⟩
  ·(cases e2),mP g<|mAC g h.m<|mAN g⟩
theorem yh{j:Nat}{pt np kp:Pos}(hK:X.K=B.K)(hg:Gl X "enumerate")(hm:X.mg "enumerate"=none)(h:FE X B G Ex e a)(hst:zAa e=true):FI X B G Ex (.Tuple ts k pt) (.Call (.Name "enumerate" p1) [e] [⟨some "start",.Constant (.int 2) j np,kp⟩] pos)<|cP .enm2<|aC a aN:=
 ⟨wkI (p9 hg hm (fI g h (ij g) hst).p<|by rw[cg hst];rfl) λτ H R ⟨W,O,S,rs,rg,hh⟩=>LA.go (mAC g h.m<|mAN g) rs rg hh λvs S1 W1 us H1 hl le1 rs1 rv1 rg1 h1=>by
  let⟨z,S2,e2,q⟩:=g.pok h1;let⟨v,rfl⟩:=vs1 e2 rfl λa b r=>by cases a <;> rfl
  let⟨u,rfl,r1⟩:=rv1.inv1;cases v <;> try (cases e2;done)
  .cases e2;let⟨p,ys,rfl,f,r⟩:=r1;rw[hK];exact⟨p,rfl,⟨ys,.of<|rs1.fz _ _ f⟩,q W1 _ H1 _ le1 rs1 rfl<|zEx (λH hF=>.of<|hF _ _ f) r⟩
  .cases e2;let⟨p,ys,rfl,f,r⟩:=r1;rw[hK];exact⟨p,rfl,⟨ys,f H1⟩,q W1 _ H1 _ le1 rs1 rfl<|zEx (λH _=>f H) r⟩,mP g<|mAC g h.m<|mAN g⟩
omit g in
theorem pi{W:Wd}{v:U}{u:V}(r:Rv B W v u)(h:sqF v=some xs):∃k ys,(∀H:Hp,(∀p o,W.F p=some o->H p=some o)->sqK k B.K H u ys)/\Rvs B W xs ys:=by
 cases v with
 |tup _=>cases h;let⟨p,ys,rfl,f,r⟩:=r;exact⟨true,ys,λH hF=>⟨p,rfl,.of<|hF _ _ f⟩,r⟩
 |kt _=>cases h;let⟨p,ys,rfl,f,r⟩:=r;exact⟨true,ys,λH _=>⟨p,rfl,f H⟩,r⟩
 |lst _=>cases h;let⟨p,ys,rfl,f,r⟩:=r;exact⟨false,ys,λH hF=>⟨p,rfl,.of<|hF _ _ f⟩,r⟩
 |kl _=>cases h;let⟨p,ys,rfl,f,r⟩:=r;exact⟨false,ys,λH hF=>⟨p,rfl,ff hF f⟩,r⟩
 |_=>cases h
theorem Aw(hK:X.K=B.K)(hg:Gl X "zip")(hm:X.mg "zip"=none)(h:FE X B G Ex ea a)(h2:FE X B G Ex eb b)(hst:zAa ea=true)(hst2:zAa eb=true):FI X B G Ex (.Tuple ts k p2) (.Call (.Name "zip" p1) [ea,eb] [] pos)<|cP .zip<|zAx a b:=by
 have fa:FA X B G Ex [ea,eb]<|zAx a b:=fI g h (fI g h2 (ij g) hst2) hst;refine⟨wkI (tO hg hm fa.p (cg hst)<|by rw[cg hst2];rfl) λτ H R ⟨W,O,S,rs,rg,hh⟩=>LA.go fa.m rs rg hh λvs S1 W1 us H1 hl le1 rs1 rv1 rg1 h1=>?_,mP g fa.m⟩;let⟨z,S2,e2,q⟩:=g.pok h1;match vs,hl with
 |[v,w],_=>
  let⟨u,u2,rfl,r1,r2⟩:=rv1.inv2;delta pr at e2;dsimp only at e2;split at e2
  .next xs ys ex ey=>
   split at e2
   .next hn=>
    cases e2;let⟨k1,as,q1,rr1⟩:=pi r1 ex;let⟨k2,bs,q2,rr2⟩:=pi r2 ey;rw[hK];exact⟨u,u2,k1,k2,rfl,⟨as,q1 _ rs1.fz⟩,⟨bs,q2 _ rs1.fz⟩,q W1 _ H1 _ le1 rs1 rfl<|zI9 q1 q2 rr1 rr2<|Nat.eq_of_beq_eq_true hn⟩
   .cases e2
  .cases e2
end
def zFx:C4->TGs
 |[]=>zHi
 |i::is=>zDk (zDe i)<|zFx is
def zGl(K:xFr)(is:C4)(one:B'):TG:=match one with
 |true=>zDe<|is.headD 0
 |false=>zGm K is.length<|zFx is
structure FG(X:Cx)(B:Bs)(G:D4)(tg:B8)(is:C4)(one:B'):Prop where
 p:PG X tg (zGl B.K is one)
section
variable{B:Bs}{up:B4<|Str×Str}{G:D4}{Ex:St->XK}{c a b d:C9}{as:D5}{t:TTx Prop}{u v:C8}
variable{X:Cx}{e ea eb tg iter:B8}{es:B4 B8}{st:Stmt}{sts body orelse:B4 Stmt}{pos p1 p2:Pos}{x y:Str}{i:Nat}(g:zBu up G)
def BP(hN:X.N.Nodup)(hi:X.N[i]?=some x)(hx:Loc X.env.scope x)(hf:X.fn x=true\/X.env.scope.names.lookup x=some .local):FG X B G (.Name x pos) [i] true:=⟨mw hN hi hx hf⟩
theorem gW(hN:X.N.Nodup):∀{es:B4 B8}{is:C4},(∀(j:Nat)(e:B8),es[j]?=some e->∃x p i,e=.Name x p/\is[j]?=some i/\X.N[i]?=some x/\Loc X.env.scope x/\(X.fn x=true\/X.env.scope.names.lookup x=some .local))->es.length=is.length->PGs X es (zFx is)/\es.all zAa=true
 |[],[],_,_=>⟨mq,rfl⟩
 |e::es,[],_,hl=>by cases hl
 |[],i::is,_,hl=>by cases hl
 |e::es,i::is,h,hl=>by
  let⟨x,p,i',rfl,hi,h1,h2,h3⟩:=h 0 e rfl;cases hi;let⟨q1,q2⟩:=gW hN (es:=es) (is:=is) (λj e hj=>h (j+1) e hj) (by simpa using hl);exact⟨gG (mw hN h1 h2 h3) q1 rfl,by rw[xCj,q2];rfl⟩
theorem rd:∀{is:C4}{W:Wd}{S:So}{H:Hp}{O:Sg}{τ:St}{vs:C3}{us:B4 V}{QS:St->Hp->Prop},RS B W S H->Rg B W O τ->Rvs B W vs us->vs.length=is.length->(∀τ',Rg B W (puts O is vs) τ'->(∀j,j∉is->τ'[j]?=τ[j]?)->QS τ' H)->zFx is us τ H QS
 |[],W,S,H,O,τ,vs,us,QS,rs,rg,rv,hl,q=>by
  match vs,hl with
  |[],_=>rw[show us=[] from rv];exact⟨rfl,q τ rg λ_ _=>rfl⟩
 |i::is,W,S,H,O,τ,vs,us,QS,rs,rg,rv,hl,q=>by
  match vs,hl with
  |v::vs,hl=>
   let⟨u,us,rfl,r1,r2⟩:=rv;exact⟨u,us,rfl,rd rs (rg.put r1) r2 (by simpa using hl) λτ' rg' hj=>q τ' rg' λj hm=>by
    rw[hj j λz=>hm<|xAs _ z,List.getElem?_set_ne λz=>hm<|by simp[z]]⟩
theorem jI:∀{is:C4}{O:Sg}{vs:C3},(puts O is vs).length=O.length
 |[],_,_=>by cases ‹C3› <;> rfl
 |i::is,O,[]=>rfl
 |i::is,O,v::vs=>by show(puts (put O i v) is vs).length=_;rw[jI,gh]
include g
theorem nt{one:B'}{W:Wd}{v:U}{x:V}{k:Sg->Prop}(h1:one=true->is.length=1)(rs:RS B W S H)(rg:Rg B W O τ)(rv:Rv B W v x)(h:tgt is one G v O k)(q:∀O' τ',k O'->Rg B W O' τ'->O'.length=O.length->(∀j,j∉is->τ'[j]?=τ[j]?)->QS τ' H):zGl B.K is one x τ H QS:=by
 cases one with
 |true=>
  match is,h1 rfl with
  |[i],_=>exact q (put O i v) _ h (rg.put rv) gh λj hj=>by rw[List.getElem?_set_ne λz=>hj<|by rw[<- z];simp]
 |false=>
  unfold tgt at h;dsimp only at h;cases v <;> try (exact(g.no h).elim)
  dsimp only at h;split at h
  .next hn=>
   have hn:=Nat.eq_of_beq_eq_true hn;let⟨p,ys,rfl,f,r⟩:=rv;exact⟨p,ys,rfl,.of<|rs.fz _ _ f,by rw[r.length,hn],rd rs rg r hn λτ' rg' hj=>q _ τ' h rg' jI hj⟩
  .exact(g.no h).elim
omit g in
theorem BO(hK:X.K=B.K)(hc:X.calm=true)(hN:X.N.Nodup)(h:∀(j:Nat)(e:B8),es[j]?=some e->∃x p i,e=.Name x p/\is[j]?=some i/\X.N[i]?=some x/\Loc X.env.scope x/\(X.fn x=true\/X.env.scope.names.lookup x=some .local))(hl:es.length=is.length):FG X B G (.Tuple es k pos) is false:=by
 let⟨q1,q2⟩:=gW hN h hl;refine⟨?_⟩;show PG X _<|zGm B.K is.length<|zFx is;rw[<- hK];exact kN hc q1 ((dy q2).1.trans hl) (dy q2).2
theorem v6:FS X B G Ex (.Pass pos) sN:=⟨wkS tw λD τ H ⟨W,O,S,rs,rg,h⟩=>h W τ H .refl rs rg,mN g⟩
theorem zi:FSs X B G Ex [] sN:=⟨zH5 tu λD τ H ⟨W,O,S,rs,rg,h⟩=>h W τ H .refl rs rg,mN g⟩
theorem wb(h1:FS X B G Ex st u)(h2:FSs X B G Ex sts v):FSs X B G Ex (st::sts)<|sQ u v:=
 ⟨zH5 (pM h1.p h2.p) λD τ H ⟨W,O,S,rs,rg,h⟩=>⟨W,O,S,rs,rg,h1.m.m (E:=sqE (LEe B Ex W D) λσ1 S1=>v G σ1 S1<|LEe B Ex W D) (E':=LEe B Ex W {D with nx:=LS B G Ex v D}) ⟨λσ1 S1 h3 W1 τ1 H1 le1 rs1 rg1=>⟨W1,σ1,S1,rs1,rg1,h2.m.m (LEe.inc le1) h3⟩,λ_ _ z=>z,λ_ _ z=>z,λ_ _ z=>z,λ_ _ _ z=>z⟩ h⟩,mQ g h1.m h2.m⟩
omit g in
theorem xle{W:Wd}(rg:Rg B W O τ):∀x S,(LEe B Ex W D).x x O S->XL B W (Ex τ) x S:=λx S h W' C dx H le rx=>h W' τ C dx H le rx<|rg.mono le
omit g in
theorem LE.stm{W:Wd}{Q:VK}{k:D0}(m:zA2 G c)(rs:RS B W S H)(rg:Rg B W O τ)(h:c G O S (λx S1=>(LEe B Ex W D).x x O S1) k)(hk:∀v S' W' u H',W.Le W'->RS B W' S' H'->Rv B W' v u->Rg B W' O τ->k v S'->Q u H'):LE B G Ex c τ H Q:=
 LE.go m rs rg (m.m (λx S=>xle rg x S) (λ_ _ h=>h) h) hk
theorem pC(he:FE X B G Ex e c)(hN:X.N.Nodup)(hi:X.N[i]?=some x)(hx:Loc X.env.scope x)(hsw:swapsWith e (some<|.Name x p1) pos.line X.env=pure false)(hf:X.fn x=true\/X.env.scope.names.lookup x=some .local):FS X B G Ex (.Assign [.Name x p1] e pos)<|sA i c:=
 ⟨wkS (wn hN hi hx he.p hsw hf) λD τ H ⟨W,O,S,rs,rg,h⟩=>LE.stm he.m rs rg h λv S' W' u H' le rs' rv rg' h'=>h' W' _ H' le rs'<|rg'.put rv,mA g he.m⟩
theorem Bh(he:FE X B G Ex e c)(hc:zA5 e=true):FS X B G Ex (.Expr e pos)<|sE c:=
 ⟨wkS (zq he.p hc) λD τ H ⟨W,O,S,rs,rg,h⟩=>LE.stm he.m rs rg h λv S' W' u H' le rs' rv rg' h'=>h' W' τ H' le rs' rg',mSE g he.m⟩
theorem vi(he:FE X B G Ex e c):FS X B G Ex (.Return (some e) pos)<|sR c:=
 ⟨wkS (wp he.p) λD τ H ⟨W,O,S,rs,rg,h⟩=>LE.stm he.m rs rg h λv S' W' u H' le rs' rv rg' h'=>h' W' u H' le rs' rv,mR g he.m⟩
theorem Bg(ht:FT X B G Ex e t)(ha:FSs X B G Ex body u)(hb:FSs X B G Ex orelse v):FS X B G Ex (.If e body orelse pos)<|sI t u v:=
 ⟨wkS (zp ht.p ha.p hb.p) λD τ H ⟨W,O,S,rs,rg,h⟩=>LT.go ht.m rs rg (ht.m.m (λx S=>xle rg x S) (λ_ _ h=>h) h) λc S' W' H' le rs' rg' h'=>by
  have h':=g.bk h';cases c with
  |true=>exact⟨W',O,S',rs',rg',ha.m.m (LEe.inc le) h'⟩
  |false=>exact⟨W',O,S',rs',rg',hb.m.m (LEe.inc le) h'⟩,mI g ht.m ha.m hb.m⟩
omit g in
theorem PG.or'{t1 t2:TG}(h1:PG X tg t1)(h2:PG X tg t2):PG X tg λv O H Q=>t1 v O H Q\/t2 v O H Q:=λZ s O H v u Q I r q=>q.elim (h1 Z s O H v u Q I r)<|h2 Z s O H v u Q I r
theorem zh{pt:Pos}(hK:X.K=B.K)(hc:X.calm=true)(hN:X.N.Nodup)(he:FE X B G Ex e c)(h:∀(j:Nat)(e:B8),es[j]?=some e->∃x p i,e=.Name x p/\is[j]?=some i/\X.N[i]?=some x/\Loc X.env.scope x/\(X.fn x=true\/X.env.scope.names.lookup x=some .local))(hl:es.length=is.length)(hs:swapsWithSole [.Tuple es k pt] e pos.line X.env=pure false)(hw:swappedStores [.Tuple es k pt] e X.env=pure none):FS X B G Ex (.Assign [.Tuple es k pt] e pos)<|sU is c:=by
 let⟨q1,q2⟩:=gW hN h hl;refine⟨wkS (pO he.p (PG.or' (kN (k:=k) (pos:=pt) hc q1 (dy q2).1 (dy q2).2)<|wH (k:=k) (pos:=pt) hc q1 (dy q2).1 (dy q2).2) hs hw) λD τ H ⟨W,O,S,rs,rg,h⟩=>LE.stm he.m rs rg h λv S' W' u H' le rs' rv rg' h'=>?_,mU g he.m⟩;let⟨z,S2,e2,q⟩:=g.pok h';delta pr at e2;dsimp only at e2;split at e2
 .next xs ex=>
  split at e2
  .next hn=>
   cases e2;have hn:=Nat.eq_of_beq_eq_true hn;let⟨p,ys,rfl,sq,rr⟩:=fL rs' rv ex;have fin:=rd rs' rg' rr hn λτ' rg2 _=>q W' τ' H' le rs' rg2;rw[hK];rcases sq with sq|sq
   .exact .inr ⟨p,ys,rfl,sq,by rw[rr.length,hn,hl],fin⟩
   .exact .inl ⟨p,ys,rfl,sq,by rw[rr.length,hn,hl],fin⟩
  .cases e2
 .cases e2
theorem zk{fl:C0}{f:Str}(hK:X.K=B.K)(F:ClF B fl)(hf:f∈fl)(ho:FE X B G Ex o a)(he:FE X B G Ex e c)(hc:zA5 e=true):FS X B G Ex (.Assign [.Attribute o f p1] e pos)<|sP (.setf f) c<|aC a aN:=
 ⟨wkS (wt ho.p he.p<|eY hc) λD τ H ⟨W,O,S,rs,rg,h⟩=>LE.stm he.m rs rg h λv S1 W1 u1 H1 le1 rs1 rv1 rg1 h1=>by
  refine LE.go ho.m rs1 rg1 (ho.m.m (λx S z=>XL.up le1<|xle rg x S z) (λ_ _ z=>z) h1) λw S2 W2 u2 H2 le2 rs2 rv2 rg2 h2=>?_;let⟨z,S3,e3,q⟩:=g.pok h2;cases w <;> try (cases e3;done)
  let⟨C,fs,aa,cc,dx,vs,e4,e5,e6,hm,hcl,hh,rn⟩:=jf rs2 rv2<|show zCv _ _ _=_ from e3;split at e5
  .next hb=>
   cases e5;have hb:=xCo hb;exact⟨aa,cc,dx,vs,e6,hh,by rw[hK];exact F.c hcl,by rw[hK];exact F.n hcl hf,by rw[rn.length];lia,q W2 τ _ (le1.trans le2) (rs2.mut hm e4 (by nofun) ⟨cc,dx,_,hcl,rfl,lY (rv1.mono le2) rn⟩) rg2⟩
  ·(cases e5),mSP g he.m<|mAC g ho.m<|mAN g⟩
omit g in
def zG7:zGo:=λo i v H Q=>zFe o i v H Q\/∃a H4,o=.ref a/\zI7 H a i v H4/\Q H4
omit g in
theorem zf(hu:X.A.units+1<cLine):zHz X zG7:=by
 intro Z s O H o i v ov iv u Q I ro ri rv h;rcases h with h|⟨a,H4,rfl,d,q⟩
 .exact pA Z s O H o i v ov iv u Q I ro ri rv h
 .obtain rfl:ov=Value.ref a:=ro;exact oI hu I d ri rv λs4 I4=>⟨H4,I4,q⟩
set_option tactic.hygienic true
theorem v7{ei:B8}(hu:X.A.units+1<cLine)(ho:FE X B G Ex o a)(hi:FE X B G Ex ei b)(he:FE X B G Ex e c)(hs:zB0 ei=true)(hc:zA5 e=true):FS X B G Ex (.Assign [.Subscript o ei p1] e pos)<|sP .seti c<|zAx a b:=by
 erw[<-⟨wkS (pO he.p (wG ho.p hi.p (zf hu)<|by intro _;cases ei <;> first|rfl|cases hs) (by rw[show swapsWithSole [Expr.Subscript o ei p1] e pos.line X.env=swapsWith e (some<|.Subscript o ei p1) pos.line X.env from rfl];exact eY hc) rfl rfl) λD τ H ⟨W,O,S,rs,rg,h⟩=>LE.stm he.m rs rg h λv S1 W1 u1 H1 le1 rs1 rv1 rg1 h1=>?_,mSP g he.m<|mAC g ho.m<|mAC g hi.m<|mAN g⟩,<-LE.go ho.m rs1 rg1 (ho.m.m (λx S z=>XL.up le1<|xle rg x S z) (λ_ _ z=>z) h1) λw S2 W2 u2 H2 le2 rs2 rv2 rg2 h2=>?_,<-LE.go hi.m rs2 rg2 (hi.m.m (λx S z=>XL.up (le1.trans le2)<|xle rg x S z) (λ_ _ z=>z) h2) λw3 S3 W3 u3 H3 le3 rs3 rv3 rg3 h3=>?_];let⟨z,S4,e4,q⟩:=g.pok h3;have rv2:=rv2.mono le3;have rv1:=(rv1.mono le2).mono le3;have lee:=le1.trans<|le2.trans le3;cases w <;> try (cases e4;done)
 change zBg _ w3 v S3=_ at e4;unfold zBg at e4;split at e4
 .next kvs ek=>
  split at e4
  .next kk ekk=>
   let⟨hl,e5⟩:=du e4;cases e5;let⟨aa,hh,hm,hH,ro,_⟩:=rs3.here ek;let⟨aa',e6,hm'⟩:=rv2;rw[hm] at hm';cases hm';let⟨ks,rfl,rn⟩:=ro;exact .inr ⟨aa,_,e6,.inl ⟨ks,kk,hH,gq ekk rv3,by rw[rn.length];lia,rfl⟩,q W3 τ _ lee (rs3.mut hm ek (by nofun) ⟨_,rfl,lX rv1 rn⟩) rg3⟩
  .cases e4
 .next kvs ek=>
  split at e4
  .next kk ekk=>
   let⟨hl,e5⟩:=du e4;cases e5;let⟨aa,hh,hm,hH,ro,_⟩:=rs3.here ek;let⟨aa',e6,hm'⟩:=rv2;rw[hm] at hm';cases hm';let⟨ks,rfl,rn⟩:=ro;let⟨bb,rfl,hbb⟩:=mZ rs3 ekk rv3;exact .inr ⟨aa,_,e6,.inr ⟨ks,kk,bb,hH,rfl,hbb,by rw[rn.length];lia,rfl⟩,q W3 τ _ lee (rs3.mut hm ek (by nofun) ⟨_,rfl,lX rv1 rn⟩) rg3⟩
  .cases e4
 .next xs ek=>
  split at e4
  .next ii=>
   split at e4
   .next hd=>
    cases e4;let⟨h0,h1⟩:=xBe hd;let⟨aa,hh,hm,hH,ro,_⟩:=rs3.here ek;let⟨aa',e6,hm'⟩:=rv2;rw[hm] at hm';cases hm';let⟨ys,rfl,rr⟩:=ro;refine .inl ⟨aa,ys,ii,ii.toNat,e6,rv3,hH,?_,q W3 τ _ lee (rs3.mut hm ek (by nofun) ⟨_,rfl,rr.set rv1 _⟩) rg3⟩;unfold ixN;rw[xCg h0,xCg<|by rw[rr.length];exact h1]
   .cases e4
  .cases e4
 .cases e4
set_option tactic.hygienic false
theorem pB{tt:TG}{R:D4->U->Sg->(Sg->Prop)->Prop}(hR:∀{W S H O τ v x}{k:Sg->Prop}{QS:St->Hp->Prop},RS B W S H->Rg B W O τ->Rv B W v x->R G v O k->(∀O' τ',k O'->Rg B W O' τ'->QS τ' H)->tt x τ H QS)(hgm:∀{v O}{k k':Sg->Prop},(∀O,k O->k' O)->R G v O k->R G v O k')(hc:X.calm=true)(hi:FI X B G Ex tg iter c)(hg:PG X.lp tg tt)(hb:FSs X.lp B G Ex body u)(hs:∀x,foldedSetIterable iter X.env x=pure x):FS X B G Ex (.For tg iter body [] pos) (λG' O S E=>c G' O S (λx S1=>E.x x O S1) λv S1=>match v with
  |.tup vs=>zAw vs (λw σ1 S2 nx=>R G' w σ1 λσ2=>u G' σ2 S2<|lpE E nx) O S1 E.nx
  |_=>G'.fail):=by
 refine⟨wkS (tx hc hi.p hg hb.p hs) λD τ H ⟨W,O,S,rs,rg,h⟩=>?_,⟨λl h=>hi.m.m (λ_ _=>l.x _ _ _) (λv S1 h1=>by
  cases v <;> first|exact h1|(dsimp only at h1⊢;refine zIn ?_ l.nx h1;exact λ_ _ _ _ _ hk=>hgm λ_=>hb.m.m<|l.lp hk)) h⟩⟩
 refine⟨W,O,S,rs,rg,hi.m.m (λx S z=>xle rg x S z) (λv S1 h1 W1 m0J H1 vs le1 rs1 ev wk=>?_) h⟩;subst ev;dsimp only at h1;refine⟨λi m τ' H'=>i<=vs.length/\m=vs.length-i/\∃W' O' S',W1.Le W'/\RS B W' S' H'/\Rg B W' O' τ'/\zAw (vs.drop i) (λw σ1 S2 nx=>R G w σ1 λσ2=>u G σ2 S2<|lpE (LEe B Ex W D) nx) O' S' (LEe B Ex W D).nx,⟨vs.length,xBn _,rfl,W1,O,S1,.refl,rs1,rg.mono le1,h1⟩,?_⟩;rintro i m τ' H' ⟨hi',rfl,W',O',S',le',rs',rg',hh⟩
 by_cases hlt:i<vs.length
 .refine .inr ⟨wk.go le'.lf rs' hlt,λτ2 H2=>∃W2 σ2 S2,W1.Le W2/\RS B W2 S2 H2/\Rg B W2 σ2 τ2/\zAw (vs.drop<|i+1) (λw σ1 S2 nx=>R G w σ1 λσ2=>u G σ2 S2<|lpE (LEe B Ex W D) nx) σ2 S2 (LEe B Ex W D).nx,λτ2 H2 ⟨W2,σ2,S2,l2,r2,g2,f2⟩=>⟨vs.length-(i+1),(),hlt,rfl,W2,σ2,S2,l2,r2,g2,f2⟩,λx H2 y=>?_⟩;rw[List.drop_eq_getElem_cons hlt] at hh;let⟨W2,le2,rs2,rv2⟩:=wk.yld le'.lf rs' (xAk hlt) y;refine hR (k:=λσ2=>u G σ2 S'<|lpE (LEe B Ex W D) λσ1 S1=>zAw (vs.drop<|i+1) (λw σ1 S2 nx=>R G w σ1 λσ2=>u G σ2 S2<|lpE (LEe B Ex W D) nx) σ1 S1 (LEe B Ex W D).nx) rs2 (rg'.mono le2) rv2 hh λσ3 τ3 h3 rg3=>⟨W2,σ3,S',rs2,rg3,hb.m.m ?_ h3⟩
  have lew:W.Le W2:=le1.trans<|le'.trans le2;exact⟨λσ4 S4 h4 W4 τ4 H4 le4 rs4 rg4=>⟨W4,σ4,S4,le'.trans<|le2.trans le4,rs4,rg4,h4⟩,λ_ _=>VL.inc lew,λ_ _=>NL.inc lew,λσ4 S4 h4 W4 τ4 H4 le4 rs4 rg4=>⟨W4,σ4,S4,le'.trans<|le2.trans le4,rs4,rg4,h4⟩,(LEe.inc lew).x⟩
 .have e:i=vs.length:=by lia
  subst e;rw[List.drop_length] at hh;exact .inl ⟨wk.stop le'.lf rs',hh W' τ' H' (le1.trans le') rs' rg'⟩
theorem zj{one:B'}(ho:one=true->is.length=1)(hc:X.calm=true)(hi:FI X B G Ex tg iter c)(hg:FG X.lp B G tg is one)(hb:FSs X.lp B G Ex body u)(hs:∀x,foldedSetIterable iter X.env x=pure x):FS X B G Ex (.For tg iter body [] pos)<|sF c is one u:=
 pB g (R:=tgt is one) (λrs rg rv h q=>nt g ho rs rg rv h λO' τ' a b _ _=>q O' τ' a b) (zGh g) hc hi hg.p hb hs
set_option tactic.hygienic true
theorem xW{W:Wd}{v:U}{x:V}{k:Sg->Prop}(rs:RS B W S H)(rg:Rg B W O τ)(rv:Rv B W v x)(h:zD3 is js G v O k)(q:∀O' τ',k O'->Rg B W O' τ'->QS τ' H):zGm B.K 2 (zDk (zGl B.K is false)<|zDk (zGl B.K js false) zHi) x τ H QS:=by
 unfold zD3 at h;cases v <;> try (exact(g.no h).elim)
 rename_i vs
 match vs,h with
 |[a,b],h=>
  let⟨p,ys,rfl,f,r⟩:=rv;let⟨y1,_,rfl,r1,y2,_,rfl,r2,r3⟩:=r;cases r3;exact⟨p,_,rfl,.of<|rs.fz _ _ f,rfl,_,_,rfl,nt g (one:=false) nofun rs rg r1 h λσ1 τ1 h1 rg1 _ _=>⟨_,_,rfl,nt g (one:=false) nofun rs rg1 r2 h1 λσ2 τ2 h2 rg2 _ _=>⟨rfl,q σ2 τ2 h2 rg2⟩⟩⟩
 |[],h|[_],h|_::_::_::_,h=>exact(g.no h).elim
set_option tactic.hygienic false
theorem wa{t1 t2:B8}{kk:Nat}{pt:Pos}(hK:X.K=B.K)(hc:X.calm=true)(hi:FI X B G Ex (.Tuple [t1,t2] kk pt) iter c)(h1:FG X.lp B G t1 is false)(h2:FG X.lp B G t2 js false)(n1:zAa t1=true)(n2:zAa t2=true)(hb:FSs X.lp B G Ex body u)(hs:∀x,foldedSetIterable iter X.env x=pure x):FS X B G Ex (.For (.Tuple [t1,t2] kk pt) iter body [] pos)<|sF2 c is js u:=
 pB g (R:=zD3 is js) (xW g) (zHd g) hc hi (by
  rw[<- show X.lp.K=B.K from hK];exact kN hc (gG (by rw[show X.lp.K=B.K from hK];exact h1.p) (gG (by rw[show X.lp.K=B.K from hK];exact h2.p) mq<|kj n2)<|kj n1) ((dy<|by rw[xCj,xCj,n1,n2];rfl).1) (dy<|by rw[xCj,xCj,n1,n2];rfl).2) hb hs
theorem sY(ht:FT X.lp B G Ex e t)(hb:FSs X.lp B G Ex body u):FS X B G Ex (.While e body [] pos)<|sW t u:=by
 erw[<-⟨wkS (nV ht.p hb.p) λD τ H ⟨W,O,S,rs,rg,h⟩=>?_,mSW g ht.m hb.m⟩,<-⟨λm τ' H'=>∃W' O' S',W.Le W'/\RS B W' S' H'/\Rg B W' O' τ'/\whK (λσ1 S1 k=>t G σ1 S1 (λx S2=>(LEe B Ex W D).x x σ1 S2) k) (λσ1 S1 nx=>u G σ1 S1<|lpE (LEe B Ex W D) nx) G.br G.fail m O' S' (LEe B Ex W D).nx,⟨G.fuel,W,O,S,.refl,rs,rg,h⟩,?_⟩];rintro m τ' H' ⟨W',O',S',le',rs',rg',hh⟩
 cases m with
 |zero=>exact(g.no hh).elim
 |succ m=>
  refine LT.go ht.m rs' rg' (ht.m.m (λx S z=>λW2 C dx H le2 rx=>z W2 τ' C dx H (le'.trans le2) rx<|rg'.mono le2) (λ_ _ z=>z) hh) λcc S2 W2 H2 le2 rs2 rg2 h2=>?_;have h2:=g.bk h2;have lew:W.Le W2:=le'.trans le2;cases cc with
  |true=>
   rw[xCg rfl] at h2⊢;refine⟨λτ3 H3=>∃W3 σ3 S3,W.Le W3/\RS B W3 S3 H3/\Rg B W3 σ3 τ3/\whK (λσ1 S1 k=>t G σ1 S1 (λx S2=>(LEe B Ex W D).x x σ1 S2) k) (λσ1 S1 nx=>u G σ1 S1<|lpE (LEe B Ex W D) nx) G.br G.fail m σ3 S3 (LEe B Ex W D).nx,λτ3 H3 z=>⟨m,Nat.lt_succ_self _,z⟩,W2,O',S2,rs2,rg2,hb.m.m ?_ h2⟩;exact⟨λσ4 S4 h4 W4 τ4 H4 le4 rs4 rg4=>⟨W4,σ4,S4,lew.trans le4,rs4,rg4,h4⟩,λ_ _=>VL.inc lew,λ_ _=>NL.inc lew,λσ4 S4 h4 W4 τ4 H4 le4 rs4 rg4=>⟨W4,σ4,S4,lew.trans le4,rs4,rg4,h4⟩,(LEe.inc lew).x⟩
  |false=>
   rw[xCf xAy] at h2⊢;exact h2 W2 τ' H2 lew rs2 rg2
end
end Fx
namespace L2
open PySem PySem.Spec PyProof.Rows
def zHp:C6->Hp->VK->Prop:=λxs H Q=>∃(p:B9) (ns:C5),xs=[.ref p]/\(H p=some (.lst<|ns.map V.int)\/∃kvs:B4<|Key×V,H p=some (.dK kvs)/\kvs.map (·.1)=ns.map Sum.inl)/\ns.length<64/\∀(l:B9)(ns':C5),H l=none->ns'.Perm ns->ns'.Pairwise (·<=·)->Q (.ref l) (upd H l<|.lst<|ns'.map V.int)
def zGq(p:B9)(a n:Nat):HO:=HO.ext λh=>∃t u v,IsRange h p (a:Int) ((a:Int)+n) 1 t u v
def zJ8:C6->Hp->VK->Prop:=λxs H Q=>∃a n:Nat,xs=[.int a,.int<|(a:Int)+n]/\∀l,H l=none->Q (.ref l) (upd H l<|zGq l a n)
def zF4:C6->Hp->VK->Prop:=λxs H Q=>∃r a n,xs=[.ref r]/\H r=some (zGq r a n)/\a+n<=100000/\∀l,H l=none->Q (.ref l) (upd H l<|.lst ((List.range' a n).map λi:Nat=>V.int (i:Int)))
theorem jw:∀{l:C7}{k:Nat},(∀(j:Nat)(v:B6),l[j]?=some v->∃t,v=.int ((k+j:Nat):Int) t)->zAh ((List.range' k l.length).map λi:Nat=>V.int (i:Int)) l
 |[],_,_=>.nil
 |v::l,k,h=>by
  let⟨t,e⟩:=h 0 v rfl;refine .cons ⟨t,by rw[e];rfl⟩ (jw (l:=l) (k:=k+1) λj u hu=>?_);let⟨t,e⟩:=h (j+1) u hu;exact⟨t,by rw[e];congr 1;lia⟩
section
variable{X:Cx}
def yt(hc:X.calm=true):zAn X (.builtin "sorted") zHp:=by
 intro Z s O H xs us Q I r h;let⟨p,ns,rfl,hS,h64,q⟩:=h;let⟨u,rfl,ru⟩:=zBe r;obtain rfl:u=Value.ref p:=ru;have hsl:=sizeLine_eq;rcases hS with hS|⟨kvs,hd,hk⟩
 .let⟨its,r1,t1,z1⟩:=I.list<|SqL.of hS;have hl:=r1.length;rw[xAa] at z1 hl;refine sorted_ints t1.isList (gU r1) () λout ns' q1 q2 q3=>?_;let⟨e,g⟩:=sortedAll_at s.heap its out;have hfree:H (s.heap.objs.size+1)=none:=I.hok.fresh<|Nat.le_succ _;erw[<-⟨.ref<|s.heap.objs.size+1,_,I.laid (a:=s.heap.objs.size+1) (o:=.lst<|ns'.map V.int) (t':=s.toks) (λ_ _=>sortedAll_old) (Nat.le_succ _) ?_,rfl,q _ ns' hfree q2 q3⟩,<-⟨?_,out.toList,e,eU q1,?_⟩]
  .rw[xAa,q2.length_eq];exact z1
  .rw[g,Array.toArray_toList]
 .let⟨hz,lo,vs,rel,dd⟩:=fY I.hok<|.inl hd;let⟨ep,hat⟩:=dd.dictAt;have hlv:=rel.length;erw[Calls.call_function_entry kind_sorted plain_sorted entry_sorted (args_sorted1 _)];unfold Builtin.«sorted»;erw[<-xAd (m:=checkCount "sorted" 1 1 _)<|xAe ?_,<-xAd (PySem.W.kdu_collect (A:=X.A.in1) (PySem.W.kdl_dict (knd:=zAk X.prog X.w) (kvs:=vs) (ep:=ep) lo) (I.ok.hd hc) hat () λh' tk acc hkeep hacc=>?_)];have va:=kZ rel hk hacc.1 (λi v e=>hacc.2 i v e);have hla:=va.length;rw[xAa] at hla;have hzl:acc.toList.length<=sizeLine:=by lia
  refine xAd<|wpAny_newList ?_ hzl;have gL:(h'.push<|seqObj "list" acc.toList.toArray 0).get? h'.objs.size=some (seqObj "list" acc.toList.toArray 0):=xAl _ rfl;erw[<-xAd<|xDc<|wpAny_call_entry slot_list_sort ⟨_,gL,rfl⟩ entry_list_sort (list_sort_tree gL (gU va) () λout ns' q1 q2 q3=>⟨_,rfl,?_⟩)<|args_list_sort _,<-xAe ⟨_,rfl,?_⟩];have keepAll:∀b o,s.heap.get? b=some o->(sortedHeap (h'.push<|seqObj "list" acc.toList.toArray 0) h'.objs.size acc.toList out).get? b=some o:=λb o e=>by
   have hb:=xA1<|hkeep b o e;rw[sortedHeap_old (xA0 hb)<|by rw[size_push'];exact Nat.lt_succ_of_lt hb];exact xAf _<|hkeep b o e
  let⟨e,g⟩:=sortedHeap_at (vs:=acc.toList) (out:=out) gL;have hfr:s.heap.get? h'.objs.size=none:=by
   cases z:s.heap.get? h'.objs.size with
   |none=>rfl
   |some o=>exact absurd (xA1<|hkeep _ _ z) (Nat.lt_irrefl _)
  have new:zAf X.prog X.w (upd H h'.objs.size<|.lst<|ns'.map V.int) (sortedHeap (h'.push<|seqObj "list" acc.toList.toArray 0) h'.objs.size acc.toList out) h'.objs.size<|.lst<|ns'.map V.int:=by
   refine⟨?_,out.toList,e,eU q1,?_⟩
   .rw[xAa,q2.length_eq];lia
   .rw[g,Array.toArray_toList]
  let⟨hfree,I2⟩:=Inv.laidN (t':=tk) I keepAll hfr new;exact⟨.ref h'.objs.size,_,I2,rfl,q _ ns' hfree q2 q3⟩
def yu:zAn X (.type "range") zJ8:=by
 intro Z s O H xs us Q I r h;let⟨a,n,rfl,h⟩:=h;obtain⟨u,v,rfl,⟨t,rfl⟩,⟨t2,rfl⟩⟩:∃u v,us=[u,v]/\zAi (.int a) u/\zAi (.int<|(a:Int)+n) v:=by
  cases r with
  |cons r1 r=>cases r with
   |cons r2 r=>cases r;exact⟨_,_,rfl,r1,r2⟩
 refine call_range_2 ⟨.ref s.heap.objs.size,_,I.laid (a:=s.heap.objs.size) (o:=zGq s.heap.objs.size a n) (t':=s.toks+1) (λb o e=>xAf _ e) (xAg _) ?_,rfl,h _<|I.hok.fresh<|xAg _⟩;exact⟨⟨_,_,_,xAl _ rfl⟩,⟨_,xAl _ rfl⟩,λh1 h2 ⟨t,u,v,q⟩ k=>⟨t,u,v,k _ q⟩⟩
def rS(hc:X.calm=true):zAn X (.type "list") zF4:=by
 intro Z s O H xs us Q I r h;let⟨p,a,n,rfl,hr,hn,q⟩:=h;let⟨u,rfl,ru⟩:=zBe r;obtain rfl:u=Value.ref p:=ru;obtain⟨t,u',v,hR⟩:∃t u v,IsRange s.heap p (a:Int) ((a:Int)+n) 1 t u v:=(I.hok p _ hr).1;erw[<-call_list_range (n:=n) (I.ok.hd hc) hR (small_one () () () ()) (by rw[rangeSize_one];split <;> lia) () λh' tk acc' c' hk hD hacc=>?_,<-⟨.ref s.heap.objs.size,_,I.laid (a:=s.heap.objs.size) (o:=.lst ((List.range' a n).map λi:Nat=>V.int (i:Int))) (t':=tk) (λb o e=>hk b o e) (xAg _) ?_,rfl,q _<|I.hok.fresh<|xAg _⟩];have hsz:acc'.toList.length=n:=by rw[xAh];exact hacc.1
 refine⟨by rw[xAa,List.length_range'];show n<=2^24;lia,acc'.toList,c',?_,?_⟩
 .have:=jw (l:=acc'.toList) (k:=a) λj v hv=>by
   let⟨t,e⟩:=hacc.2 j v (by rw[Array.getElem?_toList] at hv;exact hv);exact⟨t,by rw[e];congr 1;lia⟩
  rw[hsz] at this;exact this
 .rw[hD,Array.toArray_toList]
end
end L2
namespace Fx
open PySem PySem.Spec L2
open PyProof.Rows hiding St
section
variable{B:Bs}{up:B4<|Str×Str}{G:D4}{Ex:St->XK}{c a b d:C9}{as:D5}{t:TTx Prop}{u v:C8}
variable{X:Cx}{e ea eb tg iter elt:B8}{es:B4 B8}{st:Stmt}{sts body:B4 Stmt}{pos p1 p2 p3 p4 np hpos:Pos}{x y n f:Str}{i j:Nat}{cc:B9}(g:zBu up G)
include g
set_option tactic.hygienic true
theorem rG(hc:X.calm=true)(hg:Gl X "len")(hm:X.mg "len"=none)(hg2:Gl X "set")(hm2:X.mg "set"=none)(ha:FE X B G Ex ea a)(hst:zAa ea=true):FE X B G Ex (.Call (.Name "len" p1) [.Call (.Name "set" p2) [ea] [] p3] [] pos)<|cP .lenset<|aC a aN:=
 ⟨wkE (qp uP hg hm (by decide +kernel) (oh (my (uN hc) hg2 hm2 (by decide +kernel) (oh ha.p gH hst)<|by rw[xCj,hst];rfl) gH rfl) rfl) λτ H Q h=>(LE.p1 g ha.m h).imp ha.m λw H1 zz=>by
  let⟨W,S,v,z,S',rs,r1,e,q⟩:=zz;cases v <;> try (cases e;done)
  delta pr at e;dsimp only at e;split at e
  .next ws ew=>
   split at e
   .next hb=>
    cases e;let⟨p,ys,rfl,f,r⟩:=r1;have hys:=zBf ew r;subst hys;let⟨h1,h2⟩:=xBe hb;exact⟨p,ws,rfl,rs.fz _ _ f,h1,h2,λl hl=>⟨l,_,rfl,ce,(),q W _ _ .refl (rs.same<|dz hl _) rfl⟩⟩
   .cases e
  ·(cases e),mP g<|mAC g ha.m<|mAN g⟩
set_option tactic.hygienic false
omit g in
theorem ng{W:Wd}:∀{xs:C3}{ns:C5}{ys:B4 V},zDd xs=some ns->Rvs B W xs ys->ys=ns.map V.int
 |[],_,_,h,r=>by cases h;exact r
 |.int i::xs,ns,_,h,r=>by
  let⟨y,ys,rfl,r1,r2⟩:=r;let⟨ns',e2,rfl⟩:=Option.map_eq_some_iff.mp h;rw[show y=_ from r1,ng e2 r2];rfl
omit g in
theorem m4{W:Wd}:∀{kvs:B4<|Key×U}{ns:C5}{ks:B4<|Key×V},zFr kvs=some ns->Rn B W kvs ks->ks.map (·.1)=ns.map Sum.inl
 |[],_,_,h,r=>by cases h;rw[show _=[] from r];rfl
 |(.inl i,x)::t,ns,_,h,r=>by
  let⟨v,q,rfl,h1,h2⟩:=r;let⟨ns',e2,rfl⟩:=Option.map_eq_some_iff.mp h;rw[xBs,xBs,m4 e2 h2]
omit g in
theorem fR{i:Int}:∀{l:C5},(zEs i l).Perm (i::l)
 |[]=>.refl _
 |j::r=>by
  unfold zEs;split
  .exact .refl _
  .exact(fR.cons j).trans<|.swap i j r
omit g in
theorem dH:∀{l:C5},(zCq l).Perm l
 |[]=>.refl _
 |i::r=>fR.trans<|dH.cons i
omit g in
theorem nh{i:Int}:∀{l:C5},l.Pairwise (·<=·)->(zEs i l).Pairwise (·<=·)
 |[],_=>List.pairwise_singleton ..
 |j::r,h=>by
  unfold zEs;let⟨h1,h2⟩:=List.pairwise_cons.mp h;split
  .next hij=>
   refine List.pairwise_cons.mpr ⟨λz hz=>?_,h⟩;rcases xAv.mp hz with rfl|hz
   .exact hij
   .exact Int.le_trans hij<|h1 z hz
  .next hij=>
   refine List.pairwise_cons.mpr ⟨λz hz=>?_,nh h2⟩;rcases xAv.mp (fR.mem_iff.mp hz) with rfl|hz
   .lia
   .exact h1 z hz
omit g in
theorem iK:∀{l:C5},(zCq l).Pairwise (·<=·)
 |[]=>.nil
 |i::r=>nh iK
omit g in
theorem iL{l m:C5}(h:m.Perm l)(p:m.Pairwise (·<=·)):m=zCq l:=(h.trans dH.symm).eq_of_pairwise (λa b _ _ h1 h2=>Int.le_antisymm h1 h2) p iK
omit g in
theorem jF{W:Wd}:∀{l:C5},Rvs B W (l.map .int) (l.map V.int)
 |[]=>rfl
 |_::l=>⟨_,_,rfl,rfl,jF (l:=l)⟩
set_option tactic.hygienic true
omit g in
theorem zG:PrN B up .srt zHp:=by
 intro W S H vs us z S' Q rs rv h q;let⟨v,rfl⟩:=vs1 h rfl λa b r=>by cases a <;> rfl
 let⟨u,rfl,r1⟩:=rv.inv1;delta pr at h;dsimp only at h;split at h
 .next ns e=>
  split at h
  .next h64=>
   have h64:=xBe h64;have fin:∀{p:B9},u = .ref p->(H p=some (.lst<|ns.map V.int)\/∃kvs:B4<|Key×V,H p=some (.dK kvs)/\kvs.map (·.1)=ns.map Sum.inl)->zHp [u] H Q:=λ{p} eu hp=>⟨p,ns,by rw[eu],hp,h64,λl ns' hl pm pw=>by
    rw[iL pm pw];exact gN (m:=false) h q rs jF hl⟩
   unfold zDq at e;split at e
   .next xs e2=>
    let⟨p,ys,rfl,hh,rr⟩:=c7 rs r1 e2;rw[ng e rr] at hh;exact fin rfl<|.inl hh
   .split at e
    .split at e
     .next p kvs e2=>
      let⟨a,g,hm,hh,ro,_⟩:=rs.here e2;let⟨a',rfl,hm'⟩:=r1;rw[hm] at hm';cases hm';let⟨ks,rfl,rn⟩:=ro;exact fin rfl<|.inr ⟨ks,hh,m4 e rn⟩
     .cases e
    .cases e
  .cases h
 .cases h
set_option tactic.hygienic false
omit g in
theorem lW{W:Wd}:∀{n k:Nat},Rvs B W (zBt (k:Int) n) ((List.range' k n).map λi:Nat=>V.int (i:Int))
 |0,_=>rfl
 |n+1,k=>⟨_,_,rfl,rfl,lW (n:=n) (k:=k+1)⟩
set_option tactic.hygienic true
theorem ye{eb:B8}{b:C9}(hc:X.calm=true)(hg:Gl X "list")(hm:X.mg "list"=none)(hg2:Gl X "range")(hm2:X.mg "range"=none)(ha:FE X B G Ex ea a)(hb:FE X B G Ex eb b)(hst:zAa ea=true)(hst2:zAa eb=true):FE X B G Ex (.Call (.Name "list" p1) [.Call (.Name "range" p2) [ea,eb] [] p3] [] pos)<|cP .lrng<|zAx a b:=
 have fa:FA X B G Ex [ea,eb]<|zAx a b:=fI g ha (fI g hb (ij g) hst2) hst
 ⟨wkE (my (rS hc) hg hm (by decide +kernel) (oh (my yu hg2 hm2 (by decide +kernel) fa.p<|by rw[xCj,xCj,hst,hst2];rfl) gH rfl) rfl) λτ H Q ⟨W,O,S,rs,rg,hh⟩=>LA.go fa.m rs rg hh λvs S1 W1 us H1 hl le1 rs1 rv1 rg1 h1=>(by
  let⟨z,S2,e,q⟩:=g.pok h1;match vs,hl with
  |[v,w],_=>
   let⟨x,us,rfl,r1,y,us2,rfl,r2,r3⟩:=rv1;cases (show us2=[] from r3);cases v <;> try (cases e;done)
   cases w <;> try (cases e;done)
   rename_i i j _
   delta pr at e;dsimp only at e;split at e
   .next hb=>
    cases e;let⟨h1,h2,h3⟩:=xBe hb;let⟨n,rfl⟩:=Int.eq_ofNat_of_zero_le h1;let⟨m,hm⟩:=Int.eq_ofNat_of_zero_le (show 0<=j-n by lia);have ej:j=(n:Int)+m:=by lia
    subst ej;rw[show((n:Int)+m-n).toNat=m by lia] at q;refine⟨n,m,by rw[show x=_ from r1,show y=_ from r2],λl hl=>⟨l,n,m,rfl,ce,(),λl2 hl2=>?_⟩⟩;let⟨le2,rs2⟩:=(rs1.same<|dz hl<|zGq l n m).fresh (o:=.lst ((List.range' n m).map λi:Nat=>V.int (i:Int))) hl2;exact q _ _ _ (le1.trans le2) rs2 ⟨l2,_,rfl,ce,lW (k:=n)⟩
   .cases e),mP g fa.m⟩
set_option tactic.hygienic false
theorem BR:FE X B G Ex (.Dict [] [] pos)<|cP .dctT aN:=
 ⟨wkE qh λτ H Q zz=>by
  let⟨W,O,S,rs,rg,h⟩:=zz;let⟨z,S2,e,q⟩:=g.pok h;cases e;intro p hp;have le:W.Le {W with μ:=W.μ++[p]}:=⟨λ_ _ h=>h,λ_ _ h=>dh h,rfl⟩
  let⟨_,rs',ha⟩:=rs.push (o:=.dtt []) (h:=.dT []) hp ⟨[],rfl,rfl⟩;exact q _ _ _ le rs' ⟨p,rfl,ha⟩,mP g<|mAN g⟩
theorem Bd{b':C9}{i j:Nat}{x y:Str}{px py pt pt2 spos:Pos}{kt k2:Nat}(hc:X.calm=true)(hN:X.N.Nodup)(hi:X.N[i]?=some x)(hj:X.N[j]?=some y)(hij:i≠j)(hx:X.env.scope.names.lookup x=some .local)(hy:X.env.scope.names.lookup y=some .local)(ha:FE X B G Ex ea a)(hb:FE X B G Ex eb b')(hst:zAa ea=true)(hst2:zAa eb=true)(hw:swappedStores [.Tuple [.Name x px,.Name y py] kt pt] (.Tuple [ea,eb] k2 pt2) X.env=pure (some [x,y])):FS X B G Ex (.Assign [.Tuple [.Name x px,.Name y py] kt pt] (.Tuple [ea,eb] k2 pt2) spos)<|sPr i j a b':=by
 have fa:FA X B G Ex [ea,eb]<|aC a<|aC b' aN:=fI g ha (fI g hb (ij g) hst2) hst;refine⟨wkS (wq hc hN hi hj hij hx hy fa.p hw) λD τ H ⟨W,O,S,rs,rg,h⟩=>?_,⟨λl h=>ha.m.m (λ_ _=>l.x _ _ _) (λ_ _ h=>hb.m.m (λ_ _=>l.x _ _ _) (λ_ _=>l.nx _ _) h) h⟩⟩;have h2:(aC a<|aC b' aN) G O S (λx S1=>(LEe B Ex W D).x x O S1) λvs S2=>match vs with|[v,w]=>(LEe B Ex W D).nx (put (put O i v) j w) S2|_=>G.fail:=h;refine LA.go fa.m rs rg (fa.m.m (λx S z=>xle rg x S z) (λ_ _ _ z=>z) h2) λvs S1 W1 us H1 hl le1 rs1 rv1 rg1 h1=>?_;match vs,hl with
 |[v,w],_=>
  let⟨u,u2,rfl,r1,r2⟩:=rv1.inv2;exact⟨u,u2,rfl,h1 W1 _ H1 le1 rs1<|(rg1.put r1).put r2⟩
set_option tactic.hygienic true
theorem AF(ha:FE X B G Ex ea a):FE X B G Ex ea<|cP .frz<|aC a aN:=
 ⟨wkE ha.p λτ H Q h=>(LE.p1 g ha.m h).imp ha.m λw H1 zz=>by
  let⟨W,S,v,z,S',rs,r1,e,q⟩:=zz;cases v <;> try (cases e;done)
  next p=>
  change zCk p S _=_ at e;unfold zCk at e;split at e
  .next xs ex=>
   cases e;let⟨aa,rfl,hm⟩:=r1;let⟨W2,le2,rs2,r3⟩:=rs.freeze ex hm;exact q W2 _ H1 le2 rs2 r3
  ·(cases e),mP g<|mAC g ha.m<|mAN g⟩
set_option tactic.hygienic false
omit g in
theorem mH:∀{n:Nat}{l:B4<|B5 U}{k:Nat}{v:U},nth (List.replicate n none++l) k=some v->n<=k/\nth l (k-n)=some v
 |0,l,k,v,h=>⟨xBn _,by simpa using h⟩
 |n+1,l,0,v,h=>by cases h
 |n+1,l,k+1,v,h=>by
  have h:nth (List.replicate n none++l) k=some v:=by simpa [List.replicate_succ,nth] using h
  let⟨a,b⟩:=mH h;exact⟨(),by rw[show k+1-(n+1)=k-n by lia];exact b⟩
omit g in
theorem mG{O:Sg}:∀{cs:C4}{k:Nat}{v:U},nth (cs.map<|nth O) k=some v->∃c,cs[k]?=some c/\nth O c=some v
 |[],_,_,h=>by cases h
 |c::cs,0,v,h=>⟨c,rfl,h⟩
 |c::cs,k+1,v,h=>by simpa using mG (cs:=cs) (k:=k) (by simpa [nth] using h)
omit g in
theorem yG{W:Wd}{O:Sg}{τ:St}{m:Nat}{cs:C4}(rg:Rg B W O τ):Rg B W (List.replicate m none++cs.map (nth O))<|List.replicate m none++zCx τ cs:=by
 refine⟨by simp[zCx],λk v h=>?_⟩;let⟨h1,h2⟩:=mH h;let⟨c,h3,h4⟩:=mG h2;let⟨u,e,r⟩:=rg.v c v h4;refine⟨u,?_,r⟩;rw[xCl (by simpa using h1),xCu];unfold zCx;rw[xAw,h3];simp[e]
theorem mTh{m:B'}{t:C9}(h:zA2 G t):zA2 G<|zGe m t:=by
 cases m with
 |true=>exact mP g (mAC g h<|mAN g)
 |false=>exact h
theorem BK{m:B'}{scope:Scope}{cl:B4<|Str×B9}{ls N:C0}{cs is:C4}{one:B'}(ho:one=true->is.length=1)(his:∀k∈is,k<ls.length)(hc:X.calm=true)(cp:zB2 X scope cl ls N cs)(hi:FI X B G Ex tg iter c)(hg:∀C s H fp,FG (zAm X (ls++N) scope cl C s H fp) B G tg is one)(he:∀C s H fp,FE (zAm X (ls++N) scope cl C s H fp) B G (λ_ _ _ _=>False) elt a)(hs:∀v,foldedSetIterable iter X.env v=pure v)(me:zA2 G a):FE X B G Ex (.ListComp elt [⟨tg,iter,[],0⟩] scope pos) (zGe m<|cL c is one ls.length cs none a)/\∀{i:Nat}{y:Str}{py spos:Pos},X.N.Nodup->X.N[i]?=some y->X.env.scope.names.lookup y=some .local->swapsWith (.ListComp elt [⟨tg,iter,[],0⟩] scope pos) (some<|.Name y py) spos.line X.env=pure true->FS X B G Ex (.Assign [.Name y py] (.ListComp elt [⟨tg,iter,[],0⟩] scope pos) spos) (sA i<|zGe m<|cL c is one ls.length cs none a):=by
 have htc:∀C s H fp,PTs (zAm X (ls++N) scope cl C s H fp) [] zH6:=λC s H fp=>tq;refine⟨⟨wkE (wN hc cp hi.p (λC s H fp=>(hg C s H fp).p) htc (λC s H fp=>(he C s H fp).p) hs) ?core,mTh g<|mL g hi.m nofun me⟩,λ{i y py spos} hN hiy hy hsw=>⟨wkS (pN hN hiy hy hc cp hi.p (λC s H fp=>(hg C s H fp).p) htc (λC s H fp=>(he C s H fp).p) hs hsw) λD τ H ⟨W,O,S,rs,rg,h⟩=>?core τ H _<|LE.stm (mTh g<|mL g hi.m nofun me) rs rg h λv S' W' u H' le rs' rv rg' h'=>h' W' _ H' le rs'<|rg'.put rv,mA g<|mTh g<|mL g hi.m nofun me⟩⟩;case core=>
 rintro τ H Q ⟨W,O,S,rs,rg,h⟩
 obtain⟨Kf,h,fin⟩:∃Kf:D0,cL c is one ls.length cs none a G O S (XL B W<|Ex τ) Kf/\∀{W1 W2:Wd}{S2:So}{us:C3}{ys:B4 V}{H2:Hp}{D:B9},W.Le W1->W1.Lf W2->W2.pr=(D,.lst ys)::W1.pr->(∀q∈W1.pr,q.1≠D)->RS B W2 S2 H2->Rvs B W2 us ys->Kf (.lst us) S2->Q (.ref D) H2:=by
  cases m with
  |false=>
   refine⟨VL B W Q,h,λ{W1 W2 S2 us ys H2 D} le1 lf2 hpr2 hne rs2 rv2 hh=>?_⟩;have rs3:=rs2.heldF hpr2 hne;have lf4:W2.Lf {W2 with pr:=W1.pr,F:=upd W2.F D<|.lst ys}:=by
    have hF:=(rs2.pf (D,.lst ys)<|by rw[hpr2];exact xAr).2.1;exact⟨λp o z=>by show upd W2.F D _ p=_;rw[b9 λy=>by rw[y,hF] at z;cases z];exact z,λ_ _ z=>z⟩
   exact hh {W2 with pr:=W1.pr,F:=upd W2.F D<|.lst ys} (.ref D) H2 ⟨λp o z=>lf4.f p o<|lf2.f p o<|le1.f p o z,λp o z=>lf4.m p o<|lf2.m p o<|le1.m p o z,le1.r⟩ rs3 ⟨D,ys,rfl,ce,rv2.lf lf4⟩
  |true=>
   refine⟨_,h,λ{W1 W2 S2 us ys H2 D} le1 lf2 hpr2 hne rs2 rv2 hh=>?_⟩;let⟨z,S3,e,hh⟩:=g.pok hh;cases e;have lf4:W2.Lf {W2 with pr:=W1.pr,μ:=W2.μ++[D]}:=⟨λ_ _ z=>z,λ_ _ z=>dh z⟩
   let⟨rs3,hat⟩:=rs2.heldS (b:=.lst us) (h:=.lst ys) hpr2 hne ⟨ys,rfl,rv2.lf lf4⟩;have eq:upd H2 D (.lst ys)=H2:=by
    funext q
    by_cases y:q=D
    .rw[y,ce];exact((rs2.pf (D,.lst ys)<|by rw[hpr2];exact xAr).1).symm
    .rw[b9 y]
   rw[eq] at rs3;exact hh {W2 with pr:=W1.pr,μ:=W2.μ++[D]} (.ref D) H2 ⟨λp o z=>lf4.f p o<|lf2.f p o<|le1.f p o z,λp o z=>lf4.m p o<|lf2.m p o<|le1.m p o z,le1.r⟩ rs3 ⟨D,rfl,hat⟩
 refine⟨W,O,S,rs,rg,hi.m.m (λ_ _ z=>z) (λv S1 h1 W1 m0J H1 vs le1 rs1 ev wk=>?_) h⟩;subst ev;have h1:=g.bk h1;split at h1
 .next hsz=>
  have hsz:=xCo hsz;intro D hD;generalize hbody:lcB is one (List.replicate ls.length none++cs.map (nth O)) none a G=bd at h1;have hne:∀q∈W1.pr,q.1≠D:=λq hq z=>by rw[<- z,(rs1.pf q hq).1] at hD;cases hD
  let Wi:Nat->Nat->B4 V->Hp->Prop:=λi k ys H'=>i<=vs.length/\k=vs.length-i/\ys.length<=i/\∃W' S' us,W1.Lf W'/\W'.pr=(D,.lst ys)::W1.pr/\RS B W' S' H'/\Rvs B W' us ys/\lcK G bd (vs.drop i) us S' Kf
  have again:∀{i:Nat}{ys:B4 V}{W':Wd}{S':So}{H':Hp}{us:C3},i<vs.length->ys.length<=i+1->W1.Lf W'->W'.pr=(D,.lst ys)::W1.pr->RS B W' S' H'->Rvs B W' us ys->lcK G bd (vs.drop<|i+1) us S' Kf->Wi (i+1) (vs.length-(i+1)) ys H':=λhi hy l1 l2 l3 l4 l5=>⟨hi,rfl,hy,_,_,_,l1,l2,l3,l4,l5⟩
  refine⟨Wi,⟨vs.length,xBn _,rfl,xAg _,_,S1,[],Wd.Lf.pr,rfl,rs1.hold (o:=.lst []) hD λ_=>nofun,rfl,h1⟩,?_⟩;rintro i k ys H2 ⟨hi',rfl,hy,W2,S2,us,lf2,hpr2,rs2,rv2,hh⟩
  refine⟨(rs2.pf _<|by rw[hpr2];exact xAr).1,?_⟩;by_cases hlt:i<vs.length
  .refine .inr ⟨wk.go lf2 rs2 hlt,Nat.lt_of_le_of_lt hy<|xBc hlt hsz,λys' H'=>Wi (i+1) (vs.length-(i+1)) ys' H',λys' H' z=>⟨_,(),z⟩,λx H3 yy=>?_⟩;rw[List.drop_eq_getElem_cons hlt] at hh;let⟨W3,le3,rs3,rv3⟩:=wk.yld lf2 rs2 (xAk hlt) yy;have hh:lcB is one (List.replicate ls.length none++cs.map (nth O)) none a G vs[i] S2 λo S1=>match o with
    |some u=>lcK G bd (vs.drop<|i+1) (us++[u]) S1 Kf
    |none=>lcK G bd (vs.drop<|i+1) us S1 Kf:=by rw[hbody];exact hh
   have lf3:W1.Lf W3:=⟨λp o z=>le3.f p o<|lf2.f p o z,λp o z=>le3.m p o<|lf2.m p o z⟩
   have hpr3:W3.pr=(D,.lst ys)::W1.pr:=le3.r.trans hpr2;refine nt g ho rs3 (yG<|(rg.mono le1).lf lf3) rv3 hh λσ4 τ4 h4 rg4 hl4 hj4=>⟨?_,?_,?_⟩
   .have hl:τ4.length=ls.length+cs.length:=by rw[rg4.l,hl4];simp
    apply List.ext_getElem?;intro q;rw[List.getElem?_drop,hj4 _ (λz=>absurd (his _ z) ()),xCl ⋯,xCu];congr 1;lia
   .rw[rg4.l,hl4];simp
   ·-- the element
    have elem:∀{W5:Wd}{S5:So}{H5:Hp},W3.Le W5->RS B W5 S5 H5->a G σ4 S5 (λ_ _=>G.fail) (λu S6=>lcK G bd (vs.drop<|i+1) (us++[u]) S6 Kf)->LE B G (λ_ _ _ _=>False) a τ4 H5 λv H6=>H6 D=some (.lst ys)/\Wi (i+1) (vs.length-(i+1)) (ys++[v]) (upd H6 D<|.lst<|ys++[v]):=λ{W5 S5 H5} le5 rs5 h5=>
     LE.go me rs5 (rg4.mono le5) (me.m (λ_ _ z=>(g.no z).elim) (λ_ _ z=>z) h5) λu S6 W6 uu H6 le6 rs6 ru _ h6=>by
      have hpr6:W6.pr=(D,.lst ys)::W1.pr:=(le5.trans le6).r.trans hpr3;refine⟨(rs6.pf _<|by rw[hpr6];exact xAr).1,again hlt (by simp;lia) (W':={W6 with pr:=(D,.lst<|ys++[uu])::W1.pr}) ?_ rfl (rs6.held hpr6 (λ_=>nofun) hne) ?_ h6⟩
      .exact⟨λp o z=>(le5.trans le6).f p o<|lf3.f p o z,λp o z=>(le5.trans le6).m p o<|lf3.m p o z⟩
      .exact(((rv2.mono le3).mono<|le5.trans le6).app<|.one ru).lf .pr
    exact⟨(rs3.pf _<|by rw[hpr3];exact xAr).1,by rw[xCg rfl];exact elem .refl rs3 h4⟩
  .have e:i=vs.length:=by lia
   subst e;rw[List.drop_length] at hh;refine .inl ⟨wk.stop lf2 rs2,?_⟩;exact fin le1 lf2 hpr2 hne rs2 rv2 hh
 .exact(g.no h1).elim
end
end Fx
namespace Fx
open PySem L2
inductive Gd where
 |fn (i np:Nat) (df:List U) (mp:List Bool)|cl (i np:Nat) (df:List U)|con (u:U)
structure Ct where
 N:C0
 sc:B4 (Str×NameKind)
 gl:B4 (Str×Gd)
 ms:B4 (Str×Str×Nat×Nat)
 mu:C0
 fl:C0
 bl:C0
 ini:C0
 isc:C0
 inC:B'
noncomputable def idx(x:Str):C0->Nat->B5 Nat
 |[],_=>none
 |y::r,i=>if x=y then some i else idx x r (i+1)
noncomputable def okN(x:Str):B':=!(x==("__debug__":Str))&&!(x==("__classdict__":Str))&&!(x==("__name__":Str))
def isV(c:Ct)(x:Str):B':=match zAv x c.sc with
 |some .local=>true
 |some .cell=>true
 |some .free=>true
 |_=>false
def isL(c:Ct)(x:Str):B':=match zAv x c.sc with
 |some .local=>true
 |some .cell=>true
 |_=>false
def isG(c:Ct)(x:Str):B':=(match zAv x c.sc with
 |some .globalImplicit=>true
 |_=>false)&&okN x
def vIx(c:Ct)(x:Str):B5 Nat:=if isV c x&&okN x then idx x c.N 0 else none
def lIx(c:Ct)(x:Str):B5 Nat:=if isL c x then idx x c.N 0 else none
def glo(c:Ct)(x:Str):B5 Gd:=if isG c x then zAv x c.gl else none
def isB(c:Ct)(x:Str):B':=isG c x&&c.bl.any λy=>decide<|y=x
noncomputable def o1{J β:Type}(f:J->β):B5 J->B5 β
 |some a=>some<|f a
 |none=>none
noncomputable def o2{J β γ:Type}(f:J->β->γ):B5 J->B5 β->B5 γ
 |some a,some b=>some<|f a b
 |_,_=>none
noncomputable def o3{J β γ δ:Type}(f:J->β->γ->δ):B5 J->B5 β->B5 γ->B5 δ
 |some a,some b,some c=>some<|f a b c
 |_,_,_=>none
noncomputable def gd{J:Type}(b:B')(o:B5 J):B5 J:=match b with
 |true=>o
 |false=>none
noncomputable def zJw(m:B'):Operator->B5 Pm
 |.Add=>some (.add m)|.Sub=>some .sub|.Mult=>some .mul|.FloorDiv=>some .fdiv|.Mod=>some .mod|.Pow=>some .pow|_=>none
def zF3:CmpOp->B5 Pm
 |.Eq=>some .eq|.NotEq=>some .ne|.Lt=>some .lt|.LtE=>some .le|.Gt=>some .gt|.GtE=>some .ge|.In=>some .inn|.NotIn=>some .nin|_=>none
noncomputable def zC9:CmpOp->B5 Pm
 |.Lt=>some .lt|.LtE=>some .le|.Gt=>some .gt|.GtE=>some .ge|_=>none
noncomputable def zBb:B8->B'
 |.Set ..=>false
 |_=>true
noncomputable def zGd(x:Str):B5 String:=if x="int" then some "int" else if x="bool" then some "bool" else if x="str" then some "str" else if x="tuple" then some "tuple" else none
noncomputable def zDy(m:B')(x:Str):B5 Pm:=if x="len" then some .len else if x="sorted" then some .srt else if x="abs" then some .abs else if x="int" then some .int1 else if x="tuple" then some .tupOf else if x="list" then some (.lstOf m) else if x="dict" then some .dctOf else if x="all" then some .all else none
noncomputable def zHs(x:Str):B5 Pm:=if x="max" then some .max else if x="min" then some .min else none
def zIz:Const->B5 Str
 |.str x=>some x
 |_=>none
def zIy:B8->B5 (Str×Nat×Pos)
 |.Constant k j p=>o1 (λx=>(x,j,p))<|zIz k
 |_=>none
def zBp:B4 (B5 B8)->B5 (C0)
 |[]=>some []
 |e::r=>o2 (λx ks=>x.1::ks) (e.bind zIy)<|zBp r
def zBo(c:Ct):B4 B8->B5 (C4)
 |[]=>some []
 |.Name x _::r=>o2 (λi is=>i::is) (lIx c x)<|zBo c r
 |_=>none
def zEn(c:Ct):B8->B5 (C4×B')
 |.Name x _=>o1 (λi=>([i],true))<|lIx c x
 |.Tuple es _ _=>o1 (λis=>(is,false))<|zBo c es
 |_=>none
def locs:B4 (Str×NameKind)->C0
 |[]=>[]
 |(x,.local)::r=>x::locs r
 |_::r=>locs r
def frees:B4 (Str×NameKind)->C0
 |[]=>[]
 |(x,.free)::r=>frees r++[x]
 |_::r=>frees r
def zCe(c:Ct):C0->B5 (C4)
 |[]=>some []
 |x::r=>match zAv x c.sc with
  |some .cell=>o2 (λi is=>i::is) (idx x c.N 0)<|zCe c r
  |_=>none
def zFj(sc:Scope):B':=decide (sc.kind = .function) && sc.names.all (λp=>match p.2 with
 |.local=>true
 |.free=>true
 |.globalImplicit=>true
 |_=>false)&&zBa (sc.names.map (·.1))
noncomputable def dflt(np n:Nat)(df:C3):B5<|C3:=if n<=np/\np-n<=df.length then some (df.drop<|df.length-(np-n)) else none
noncomputable def zDt:B8->B'
 |.Call (.Name y _) _ _ _=>y != ("super":Str)
 |.Call ..=>false
 |_=>true
noncomputable def tg1:B8->B'
 |.Tuple ..=>false
 |_=>true
noncomputable def zDc:B8->B'
 |.Tuple ..=>true
 |_=>false
noncomputable def zGk:B5 NameKind->B'
 |some .local=>true
 |_=>false
noncomputable def o1'{J β:Type}(f:J->B5 β)(a:B5 J):B5 β:=a.bind f
noncomputable def o3'{J β γ δ:Type}(f:J->β->γ->B5 δ)(a:B5 J)(b:B5 β)(c:B5 γ):B5 δ:=a.bind λx=>b.bind λy=>c.bind λz=>f x y z
def qC{J β γ δ:Type}{f:J->β->γ->B5 δ}{a:B5 J}{b:B5 β}{c:B5 γ}{r:δ}(h:o3' f a b c=some r):∃x y z,a=some x/\b=some y/\c=some z/\f x y z=some r:=by
 unfold o3' at h;let⟨x,h1,h⟩:=xCi.mp h;let⟨y,h2,h⟩:=xCi.mp h;let⟨z,h3,h⟩:=xCi.mp h;exact⟨x,y,z,h1,h2,h3,h⟩
noncomputable def zEf(e:B8):B5 {z:(Str×B4 B8)×Pos×Pos // e=.Call (.Name z.1.1 z.2.1) z.1.2 [] z.2.2}:=match e with
 |.Call (.Name x p) as [] q=>some ⟨((x,as),p,q),rfl⟩
 |_=>none
noncomputable def zJ7(e:B8):B5 {z:(Str×B8)×Pos×Nat×Pos×Pos×Pos // e=.Call (.Name z.1.1 z.2.1) [z.1.2] [⟨some "start",.Constant (.int 2) z.2.2.1 z.2.2.2.1,z.2.2.2.2.1⟩] z.2.2.2.2.2}:=match e with
 |.Call (.Name x p) [a] [⟨some y,.Constant (.int i) j np,kp⟩] q=>if h:y="start"/\i=2 then some ⟨((x,a),p,j,np,kp,q),by let⟨rfl,rfl⟩:=h;rfl⟩ else none
 |_=>none
noncomputable def zHc(e:B8):B5 {z:Nat×Pos // e=.Constant .none z.1 z.2}:=match e with
 |.Constant .none j p=>some ⟨(j,p),rfl⟩
 |_=>none
noncomputable def zJ2:CmpOp->B'
 |.Is=>true
 |_=>false
noncomputable def slO(e:B8):B5 {z:(B5 B8×B5 B8)×Pos // e=.Slice z.1.1 z.1.2 none z.2}:=match e with
 |.Slice lo hi none p=>some ⟨((lo,hi),p),rfl⟩
 |_=>none
noncomputable def zHn(gs:B4 Comprehension):B5 {z:B8×B8×B4 B8 // gs=[⟨z.1,z.2.1,z.2.2,0⟩]}:=match gs with
 |[⟨a,b,l,0⟩]=>some ⟨(a,b,l),rfl⟩
 |_=>none
noncomputable def zEy(e:B8):B5 {z:B8×B8×Nat×Pos // e=.Tuple [z.1,z.2.1] z.2.2.1 z.2.2.2}:=match e with
 |.Tuple [a,b] k p=>some ⟨(a,b,k,p),rfl⟩
 |_=>none
noncomputable def zJv(es:B4 B8):B5 {z:Str×Pos×Str×Pos // es=[.Name z.1 z.2.1,.Name z.2.2.1 z.2.2.2]}:=match es with
 |[.Name x px,.Name y py]=>some ⟨(x,px,y,py),rfl⟩
 |_=>none
section
variable{J:Type}
def zHh(a:Str)(mu:C0)(ms:B4<|Str×Str×Nat×Nat):B5<|Str×Nat×Nat:=match ms.find? λp=>decide (p.1=a)&&mu.any λy=>decide (y="@"++p.2.1) with
 |some p=>some p.2
 |none=>zAv a ms
structure Cps(J:Type) where
 E:Ct->B'->B8->B5 (TEx J)
 C:Ct->B'->B8->B4 B8->Pos->B5 (TEx J)
 M:Ct->B8->Str->B4 B8->B5 (TEx J)
 A:Ct->B4 B'->B4 B8->B5 (TAx J)
 T:Ct->B'->B8->B5 (TTx J)
 I:Ct->B'->B8->B5 (TEx J)
def eV(c:Ct)(x:Str):B5<|TEx J:=match vIx c x with
 |some i=>some<|cV i
 |none=>match glo c x with
  |some (.con u)=>some<|cC u
  |_=>none
def eD(r:Cps J)(c:Ct)(ks:B4<|B5 B8)(vs:B4 B8):B5<|TEx J:=match zBp ks with
 |some kk=>gd (zBa kk&&Nat.ble kk.length 15&&Nat.beq kk.length vs.length)<|o1 (cP<|.dct kk)<|r.A c (vs.map λ_=>true) vs
 |none=>none
def eSb(r:Cps J)(c:Ct)(m:B')(a b:B8):B5<|TEx J:=match slO b with
 |some z=>match z.1.1.1,z.1.1.2 with
  |some l,none=>o2 (λx y=>cP (.sl m true false)<|zAx x y) (r.E c false a)<|r.E c false l
  |none,some h=>o2 (λx y=>cP (.sl m false true)<|zAx x y) (r.E c false a)<|r.E c false h
  |_,_=>none
 |none=>gd (zB0 b)<|o2 (λx y=>cP .ix<|zAx x y) (r.E c false a)<|r.E c false b
def cty(c:Ct)(sc:Scope):Ct:={c with N:=locs sc.names++frees sc.names,sc:=sc.names,inC:=true}
def eL2(c:Ct)(sc:Scope)(z:B8×B8×B4 B8)(cs:C4)(u:C4×B')(ti te:TEx J):B5<|TEx J:=gd (!c.inC&&zFj sc&&zBb z.2.1&&u.1.all (λk=>Nat.blt k (locs sc.names).length)&&z.2.2.isEmpty)<|some<|cL ti u.1 u.2 (locs sc.names).length cs none te
def eL1(r:Cps J)(c:Ct)(elt:B8)(sc:Scope)(z:B8×B8×B4 B8)(cs:C4)(u:C4×B')(ti:TEx J):B5<|TEx J:=o1' (eL2 c sc z cs u ti)<|r.E (cty c sc) false elt
def eLC(r:Cps J)(c:Ct)(elt:B8)(gens:B4 Comprehension)(sc:Scope):B5<|TEx J:=match zHn gens with
 |some z=>o3' (eL1 r c elt sc z.1) (zCe c<|frees sc.names) (zEn (cty c sc) z.1.1)<|r.I c (tg1 z.1.1) z.1.2.1
 |none=>none
def eE(r:Cps J)(c:Ct)(m:B')(e:B8):B5<|TEx J:=match e with
  |.Name x _=>eV c x
  |.Constant k _ _=>match k with
   |.int i=>some<|cC<|.int i
   |.str x=>some<|cC<|.str x
   |.bool b=>some<|cC<|.bl b
   |.none=>some<|cC .non
   |_=>none
  |.BinOp a op b _=>o3 (λp x y=>cP p<|zAx x y) (zJw m op) (r.E c false a)<|r.E c false b
  |.UnaryOp op a _=>match op with
   |.Not=>o1 (λt=>cB<|tNt t)<|r.T c true a
   |.USub=>o1 (λx=>cP .neg<|aC x aN)<|r.E c false a
   |_=>none
  |.BoolOp op vs p=>o1 cB<|r.T c true<|.BoolOp op vs p
  |.Compare a ops bs p=>o1 cB<|r.T c true<|.Compare a ops bs p
  |.IfExp t a b _=>o3 cIf (r.T c false t) (r.E c m a)<|r.E c m b
  |.Tuple es _ _=>gd (Nat.ble es.length 1000)<|o1 cT<|r.A c [] es
  |.List es _=>o1 (cP<|.lst m)<|r.A c [] es
  |.Dict ks vs _=>match ks,vs with
   |[],[]=>some<|cP (.dct []) aN
   |ks,vs=>eD r c ks vs
  |.Subscript a b _=>eSb r c m a b
  |.Attribute o f _=>gd (zBw o&&c.fl.any λg=>decide<|g=f)<|o1 (λx=>cP (.fld f)<|aC x aN)<|r.E c false o
  |.ListComp elt gens sc _=>o1 (zGe m)<|eLC r c elt gens sc
  |.Call f as kws pos=>match kws with
   |[]=>gd (as.all zAa)<|r.C c m f as pos
   |_=>none
  |_=>none
def eB1(r:Cps J)(c:Ct)(m:B')(x:Str)(a:B8)(y:Str)(as:B4 B8):B5<|TEx J:=match as with
 |[b]=>match decide (x="len"),decide (y="set") with
  |true,true=>gd (isB c y&&zAa b)<|o1 (λz=>cP .lenset<|aC z aN)<|r.E c false b
  |_,_=>o2 (λp z=>cP p<|aC z aN) (zDy m x)<|r.E c false a
 |[b,d]=>match decide (x="list"),decide (y="range") with
  |true,true=>gd (isB c y&&zAa b&&zAa d&&!m)<|o2 (λz w=>cP .lrng<|zAx z w) (r.E c false b)<|r.E c false d
  |_,_=>o2 (λp z=>cP p<|aC z aN) (zDy m x)<|r.E c false a
 |_=>o2 (λp z=>cP p<|aC z aN) (zDy m x)<|r.E c false a
def eB2(r:Cps J)(c:Ct)(x:Str)(a b:B8):B5<|TEx J:=match decide (x="isinstance") with
 |true=>match b with
  |.Name y _=>match zGd y with
   |some t=>gd (isB c y)<|o1 (λz=>cP (.isT t)<|aC z aN)<|r.E c false a
   |none=>none
  |_=>none
 |false=>o3 (λp z w=>cP p<|zAx z w) (zHs x) (r.E c false a)<|r.E c false b
def eB(r:Cps J)(c:Ct)(m:B')(x:Str)(as:B4 B8):B5<|TEx J:=match as with
 |[a]=>match zEf a with
  |some z=>eB1 r c m x a z.1.1.1 z.1.1.2
  |none=>o2 (λp z=>cP p<|aC z aN) (zDy m x)<|r.E c false a
 |[a,b]=>eB2 r c x a b
 |_=>none
def eN(r:Cps J)(c:Ct)(m:B')(x:Str)(as:B4 B8):B5<|TEx J:=match glo c x with
 |some (.fn i np df mp)=>o2 (λa d=>cF i a d) (r.A c mp as)<|dflt np as.length df
 |some (.cl i np df)=>gd (!c.inC)<|o2 (λa d=>cK x i a d) (r.A c [] as)<|dflt np (as.length+1) df
 |some _=>none
 |none=>gd (isB c x)<|eB r c m x as
def eK(r:Cps J)(c:Ct)(kvs:B4<|Str×U)(no:C0)(as:B4 B8):B5<|TEx J:=match as with
 |[e]=>o1 (λz=>cP .get1<|aC (cC<|.kd kvs no)<|aC z aN)<|r.E c false e
 |[e,d]=>o2 (λz w=>cP .get2<|aC (cC<|.kd kvs no)<|zAx z w) (r.E c false e)<|r.E c false d
 |_=>none
def eG(r:Cps J)(c:Ct)(o:B8)(a:Str)(as:B4 B8):B5<|TEx J:=match o with
 |.Name y _=>match glo c y with
  |some (.con<|.kd kvs no)=>gd (decide<|a="get")<|eK r c kvs no as
  |_=>r.M c o a as
 |o=>r.M c o a as
def eAt(r:Cps J)(c:Ct)(o:B8)(a:Str)(as:B4 B8):B5<|TEx J:=match zHh a c.mu c.ms with
 |some (C,i,np)=>gd (zDt o)<|o3 (λz w d=>cM C a i z w d) (r.E c false o) (r.A c [] as)<|dflt np (as.length+1) []
 |none=>eG r c o a as
def eC(r:Cps J)(c:Ct)(m:B')(f:B8)(as:B4 B8)(pos:Pos):B5<|TEx J:=match f with
  |.Name x _=>eN r c m x as
  |.Attribute o a apos=>gd (apos.endLine==pos.line&&Nat.blt as.length 29)<|eAt r c o a as
  |_=>none
def eM(r:Cps J)(c:Ct)(o:B8)(a:Str)(as:B4 B8):B5<|TEx J:=gd (zBw o) (match as with
  |[e]=>if a="append" then o2 (λz w=>cBM "list" .app z<|aC w aN) (r.E c false o) (r.E c false e)
   else if a="extend" then o2 (λz w=>cBM "list" .ext z<|aC w aN) (r.E c false o) (r.E c false e)
   else if a="join" then o2 (λz w=>cBM "str" .join z<|aC w aN) (r.E c false o) (r.E c false e)
   else none
  |_=>none)
def eA(r:Cps J)(c:Ct)(m:B4 B')(es:B4 B8):B5<|TAx J:=match es with
 |[]=>some aN
 |e::q=>gd (zAa e)<|o2 aC (r.E c (m.headD false) e)<|r.A c m.tail q
def eBo(r:Cps J)(c:Ct)(vl:B')(op:BoolOp)(vs:B4 B8)(p:Pos):B5<|TTx J:=match vs with
 |[]=>none
 |a::q=>match q with
  |[]=>r.T c vl a
  |_::_=>match op with
   |.And=>o2 tAn (r.T c vl a)<|r.T c vl<|.BoolOp .And q p
   |.Or=>o2 tOr' (r.T c vl a)<|r.T c vl<|.BoolOp .Or q p
def eC1(r:Cps J)(c:Ct)(a:B8)(op:CmpOp)(b:B8):B5<|TTx J:=match(zHc b).isSome&&zJ2 op with
 |true=>o1 (λx=>tB<|cP .isN<|aC x aN)<|r.E c false a
 |false=>gd (zBb b)<|o3 (λp x y=>tB<|cP p<|zAx x y) (zF3 op) (r.E c false a)<|r.E c false b
def eC3(r:Cps J)(c:Ct)(a b d:B8)(p q:B5 Pm):B5<|TTx J:=match p,q with
 |some p,some q=>o3 (λx y z=>tCh p q x y z) (r.E c false a) (r.E c false b)<|r.E c false d
 |_,_=>none
def eCm(r:Cps J)(c:Ct)(a:B8)(ops:B4 CmpOp)(bs:B4 B8):B5<|TTx J:=match ops,bs with
 |[op],[b]=>eC1 r c a op b
 |[p,q],[b,d]=>gd (zBb b&&zBb d)<|eC3 r c a b d (zC9 p)<|zC9 q
 |_,_=>none
def eT(r:Cps J)(c:Ct)(vl:B')(e:B8):B5<|TTx J:=match e with
  |.UnaryOp op a _=>match op with
   |.Not=>o1 tNt<|r.T c vl a
   |_=>none
  |.BoolOp op vs p=>eBo r c vl op vs p
  |.Compare a ops bs _=>eCm r c a ops bs
  |.Call f as kws p=>o1 tB<|r.E c false<|.Call f as kws p
  |.Attribute o f p=>gd (!vl)<|o1 (λx=>tB<|cP .tru<|aC x aN)<|r.E c false<|.Attribute o f p
  |.Name x p=>match vl with
   |true=>o1 tB<|r.E c false<|.Name x p
   |false=>o1 (λy=>tB<|cP .tru<|aC y aN)<|r.E c false<|.Name x p
  |_=>none
def eIs(r:Cps J)(c:Ct)(e:B8):B5<|TEx J:=o1 (λz=>cP .seq<|aC z aN)<|r.E c false e
def eIr(r:Cps J)(c:Ct)(as:B4 B8):B5<|TEx J:=match as with
 |[a]=>gd (zAa a)<|o1 (λz=>cP .rng1<|aC z aN)<|r.E c false a
 |_=>none
def eIz(r:Cps J)(c:Ct)(one:B')(as:B4 B8):B5<|TEx J:=match as with
 |[a,b]=>gd (!one&&zAa a&&zAa b)<|o2 (λz w=>cP .zip<|zAx z w) (r.E c false a)<|r.E c false b
 |_=>none
def eIc(r:Cps J)(c:Ct)(one:B')(e:B8)(x:Str)(as:B4 B8):B5<|TEx J:=match isB c x&&decide (x="range") with
 |true=>eIr r c as
 |false=>match isB c x&&decide (x="zip") with
  |true=>eIz r c one as
  |false=>eIs r c e
def eI(r:Cps J)(c:Ct)(one:B')(e:B8):B5<|TEx J:=match zEf e with
 |some z=>eIc r c one e z.1.1.1 z.1.1.2
 |none=>match zJ7 e with
  |some z=>gd (isB c z.1.1.1&&decide (z.1.1.1="enumerate")&&!one&&zAa z.1.1.2)<|o1 (λz=>cP .enm2<|aC z aN)<|r.E c false z.1.1.2
  |none=>eIs r c e
def cps:Nat->Cps J
 |0=>⟨λ_ _ _=>none,λ_ _ _ _ _=>none,λ_ _ _ _=>none,λ_ _ _=>none,λ_ _ _=>none,λ_ _ _=>none⟩
 |n+1=>⟨eE<|cps n,eC<|cps n,eM<|cps n,eA<|cps n,eT<|cps n,eI<|cps n⟩
def cpE(c:Ct)(n:Nat)(m:B')(e:B8):B5<|TEx J:=(cps n).E c m e
def cpC(c:Ct)(n:Nat)(m:B')(f:B8)(as:B4 B8)(pos:Pos):B5<|TEx J:=(cps n).C c m f as pos
def cpM(c:Ct)(n:Nat)(o:B8)(a:Str)(as:B4 B8):B5<|TEx J:=(cps n).M c o a as
def cpA(c:Ct)(n:Nat)(m:B4 B')(es:B4 B8):B5<|TAx J:=(cps n).A c m es
def cpT(c:Ct)(n:Nat)(vl:B')(e:B8):B5<|TTx J:=(cps n).T c vl e
def cpI(c:Ct)(n:Nat)(one:B')(e:B8):B5<|TEx J:=(cps n).I c one e
def sZ:TSx J:=λG _ _ _=>G.fail
def zIv(c:Ct):B8->B5 Nat
 |.Name x _=>if(c.mu.any λy=>decide<|y="!"++x)=true then vIx c x else none
 |_=>none
def zHb(c:Ct)(x y:Str)(px py:Pos)(a b:B8):B':=!c.inC&&!decide (x=y)&&zGk (zAv x c.sc)&&zGk (zAv y c.sc)&&(py.line==px.line)&&zAa a&&zAa b&&!(foldedForSure 8 a&&foldedForSure 8 b)&&!(constantsAlone 8 a&&constantsAlone 8 b)
noncomputable def zHf:B8->B'
 |.Dict [] [] _=>true
 |_=>false
noncomputable def zIt:B8->B'
 |.Name ..=>true
 |_=>false
structure Cpt(J:Type) where
 S:Ct->Stmt->B5 (TSx J)
 L:Ct->B4 Stmt->B5 (TSx J)
def zHk(n:Nat)(c:Ct)(e:B8):B5<|TSx J:=match zIv c e with
 |some i=>some<|sR<|cP .frz<|aC (cV i) aN
 |none=>o1 sR<|cpE c n false e
def eF2(r:Cpt J)(c:Ct)(z:B8×B8×Nat×Pos)(it:B8)(b:B4 Stmt)(u v:C4×B')(w:TEx J):B5<|TSx J:=gd (!u.2&&!v.2&&zBb it&&zDc z.1&&zDc z.2.1)<|o1 (λy=>sF2 w u.1 v.1 y)<|r.L c b
def zFz(n:Nat)(r:Cpt J)(c:Ct)(tg it:B8)(b:B4 Stmt):B5<|TSx J:=match zEy tg with
 |some z=>o3' (eF2 r c z.1 it b) (zEn c z.1.1) (zEn c z.1.2.1)<|cpI c n (tg1 tg) it
 |none=>none
def zHl(n:Nat)(r:Cpt J)(c:Ct)(tg it:B8)(b:B4 Stmt):B5<|TSx J:=match zEn c tg with
 |some (is,one)=>gd (zBb it&&(one||zDc tg))<|o2 (λz w=>sF z is one w) (cpI c n (tg1 tg) it)<|r.L c b
 |none=>zFz n r c tg it b
def eNm(n:Nat)(c:Ct)(x:Str)(e:B8):B5<|TSx J:=match zHf e&&c.mu.any λy=>decide (y="#"++x) with
 |true=>o1 (λi=>sA i<|cP .dctT aN)<|lIx c x
 |false=>o2 sA (lIx c x)<|cpE c n (c.mu.any λy=>decide<|x=y) e
def eP2(n:Nat)(c:Ct)(e:B8)(i j:Nat)(a:TEx J):B5<|TSx J:=o1 (λb=>sPr i j a b)<|cpE c n false e
def ePr(n:Nat)(c:Ct)(es:B4 B8)(e:B8):B5<|TSx J:=match zJv es,zEy e with
 |some z,some w=>gd (zHb c z.1.1 z.1.2.2.1 z.1.2.1 z.1.2.2.2 w.1.1 w.1.2.1)<|o3' (eP2 n c w.1.2.1) (lIx c z.1.1) (lIx c z.1.2.2.1)<|cpE c n false w.1.1
 |_,_=>none
def eTu(n:Nat)(c:Ct)(es:B4 B8)(e:B8):B5<|TSx J:=match zDc e with
 |false=>o2 sU (zBo c es)<|cpE c n false e
 |true=>ePr n c es e
def zIw(n:Nat)(c:Ct)(tg e:B8):B5<|TSx J:=match tg with
 |.Name x _=>eNm n c x e
 |.Tuple es _ _=>eTu n c es e
 |.Attribute o f _=>gd (c.fl.any λg=>decide<|g=f)<|o2 (λz w=>sP (.setf f) w<|aC z aN) (cpE c n false o)<|cpE c n true e
 |.Subscript o i _=>gd (zB0 i)<|o3 (λz w v=>sP .seti v<|zAx z w) (cpE c n false o) (cpE c n false i)<|cpE c n true e
 |_=>none
def eS(n:Nat)(r:Cpt J)(c:Ct)(s:Stmt):B5<|TSx J:=match s with
  |.Pass _=>some sN
  |.Expr e _=>gd (zA5 e)<|o1 sE<|cpE c n false e
  |.Return e _=>match e with
   |some e=>zHk n c e
   |none=>none
  |.If t a b _=>o3 sI (cpT c n false t) (r.L c a)<|r.L c b
  |.While t b orelse _=>match orelse with
   |[]=>o2 sW (cpT c n false t)<|r.L c b
   |_=>none
  |.For tg it b orelse _=>match orelse with
   |[]=>zHl n r c tg it b
   |_=>none
  |.Assign tgs e _=>match tgs with
   |[tg]=>gd (zA5 e||zIt tg)<|zIw n c tg e
   |_=>none
  |.Raise ..=>some sZ
  |_=>none
def eL(r:Cpt J)(c:Ct)(ss:B4 Stmt):B5<|TSx J:=match ss with
 |[]=>some sN
 |s::q=>o2 sQ (some<|(r.S c s).getD sZ)<|r.L c q
def cpt:Nat->Cpt J
 |0=>⟨λ_ _=>none,λ_ _=>none⟩
 |n+1=>⟨eS n<|cpt n,eL<|cpt n⟩
def cpS(c:Ct)(n:Nat)(s:Stmt):B5<|TSx J:=(cpt n).S c s
def zF2(c:Ct)(n:Nat)(ss:B4 Stmt):B5<|TSx J:=(cpt n).L c ss
end
end Fx
namespace Fx
open PySem PySem.Spec L2
open PyProof.Rows hiding St
variable{J β γ δ:Type}{o tg e it:B8}{apos pos py spos px:Pos}{env:Env}{x y:Str}{is:C4}{H:Hp}{vs:C3}{S S':So}{v:U}{op:CmpOp}{p:Pm}{n j fw:Nat}{kk:C0}{as:B4 B8}{vl:B'}{st:Stmt}{t:C8}{r:Row}{fd:FuncData}{B:Bs}
theorem dL{f:J->β}{a:B5 J}{t:β}{C:β->Prop}(h:o1 f a=some t)(k:∀x,a=some x->C (f x)):C t:=by
 cases a with
 |none=>cases h
 |some x=>cases h;exact k x rfl
theorem e9{f:J->β->γ}{a:B5 J}{b:B5 β}{t:γ}{C:γ->Prop}(h:o2 f a b=some t)(k:∀x y,a=some x->b=some y->C (f x y)):C t:=by
 cases a with
 |none=>cases h
 |some x=>cases b with
  |none=>cases h
  |some y=>cases h;exact k x y rfl rfl
theorem oq{f:J->β->γ->δ}{a:B5 J}{b:B5 β}{c:B5 γ}{t:δ}{C:δ->Prop}(h:o3 f a b c=some t)(k:∀x y z,a=some x->b=some y->c=some z->C (f x y z)):C t:=by
 cases a with
 |none=>cases h
 |some x=>cases b with
  |none=>cases h
  |some y=>cases c with
   |none=>cases h
   |some z=>cases h;exact k x y z rfl rfl rfl
theorem cZ{b:B'}{o:B5 J}{t:J}{C:Prop}(h:gd b o=some t)(k:b=true->o=some t->C):C:=by
 cases b with
 |false=>cases h
 |true=>exact k rfl h
def f6{f:J->β}{o:B5 J}{b:β}(h:o1 f o=some b):∃a,o=some a/\b=f a:=by cases o <;> cases h;exact⟨_,rfl,rfl⟩
def gI{f:J->β->γ}{o:B5 J}{p:B5 β}{b:γ}(h:o2 f o p=some b):∃x y,o=some x/\p=some y/\b=f x y:=by cases o <;> cases p <;> cases h;exact⟨_,_,rfl,rfl,rfl⟩
def Ab{f:J->β->γ->δ}{o:B5 J}{p:B5 β}{q:B5 γ}{b:δ}(h:o3 f o p q=some b):∃x y z,o=some x/\p=some y/\q=some z/\b=f x y z:=by cases o <;> cases p <;> cases q <;> cases h;exact⟨_,_,_,rfl,rfl,rfl,rfl⟩
theorem jg{x:Str}:∀{l:C0}{i j:Nat},idx x l i=some j->i<=j/\l[j-i]?=some x
 |[],_,_,h=>by cases h
 |y::r,i,j,h=>by
  unfold idx at h;split at h
  .next e=>cases h;exact⟨xAg _,by rw[Nat.sub_self,e];rfl⟩
  .let⟨h1,h2⟩:=jg h;exact⟨(),by rw[show j-i=(j-(i+1))+1 by lia];simpa using h2⟩
def uw{m:Str}{es:B4 B8}(hb:attributeBase o m env (eval o env)=eval o env)(hst:es.all zAa=true)(hn:es.length<29)(hl:(apos.endLine == pos.line)=true):∃pl,eval (.Call (.Attribute o m apos) es [] pos) env=(do
   let ov <- eval o env
   standAt apos.atName
   let (f,first) <- holding [ov] (getMethod ov m pl)
   callWith pos f first (backTo pos<|starEach es env) (backToKw pos<|keywordEach [] env)):=by
 have hf:methodCallForm (es.length+([]:B4 Keyword).length) (backTo pos<|starEach es env) (backToKw pos<|keywordEach [] env)=true:=by
  unfold methodCallForm;rw[jD hst];simp[keywordEach,backToKw];lia
 refine⟨do return (<- importBound o env).getD true,?_⟩;rw[show eval (.Call (.Attribute o m apos) es [] pos) env=(do
  let ov <- attributeBase o m env (eval o env)
  standAt apos.atName
  methodCall o m apos pos env ov (es.length+([]:B4 Keyword).length) (backTo pos<|starEach es env) (backToKw pos<|keywordEach [] env)) from rfl,hb]
 unfold methodCall methodCallPos calleeOf;rw[hf,hl];rfl
set_option tactic.hygienic true
def u6{m:Str}{x:Sem B6}(h:zDt o=true):attributeBase o m env x=x:=by
 cases o <;> try rfl
 rename_i f as ks p
 cases f <;> try (cases h;done)
 rename_i y q
 have h':(y != ("super":Str))=true:=h;cases as <;> cases ks <;> try rfl
 unfold attributeBase;dsimp only;rw[xCg<|by rw[h'];rfl]
set_option tactic.hygienic false
structure Fc(P:Program)(w:World)(base:Heap)(B:Bs)(up:B4 (Str×Str))(G:D4)(lv:Nat)(c:Ct):Prop where
 g:zBu up G
 fn:∀{x i np df mp},zAv x c.gl=some (.fn i np df mp)->∃f fd ps,B.mg x=some (.ref f)/\PySem.W.keepIn B.K (.ref f)=true/\zBc P w B.K B.mg base (CXz P w) lv f fd ps (spF B G i np)/\(∀{n ds},dflt np n df=some ds->n+ds.length=np/\∃dvs dv,zAy B.K fd ps dv/\zAh dvs dv/\∀W,Rvs B W ds dvs)
 cl:∀{x i np df},zAv x c.gl=some (.cl i np df)->∃cc f fd ps,B.cl x cc/\B.mg x=some (.ref cc)/\Mk B.K cc f/\zBc P w B.K B.mg base (CXz P w) lv f fd ps (spF B G i np)/\(∀{n ds},dflt np n df=some ds->n+ds.length=np/\∃dvs dv,zAy B.K fd ps dv/\zAh dvs dv/\∀W,Rvs B W ds dvs)/\(x∈c.isc->zGr B up x cc)/\(x∈c.ini->zAy B.K fd ps []/\∃mc,PySem.W.specialIn B.K (.ref cc) "__getattribute__"=some (some (.builtin "type.__getattribute__"))/\PySem.W.readsIn B.K cc mc=true/\PySem.W.findCls B.K (.ref cc) mc "__init__"=some (.val (.ref f))/\PySem.W.handedIn (.ref f)=true/\PySem.W.keepIn B.K (.ref f)=true)
 ms:∀{m C i np},(m,C,i,np)∈c.ms->∃cc f fd ps,(∀c',B.cl C c'->c'=cc)/\Cls B.K cc/\zEj B.K cc m f/\zBc P w B.K B.mg base (CXz P w) lv f fd ps (spF B G i np)/\zAy B.K fd ps []
 con:∀{x u},zAv x c.gl=some (.con u)->∃v val,B.mg x=some val/\zAi v val/\∀W,Rv B W u v
 bl:∀{x},x∈c.bl->B.mg x=none
 k1:zCh B "int"
 k2:zCh B "bool"
 k3:zCh B "str"
 k4:zCh B "tuple"
 clf:ClF B c.fl
 clt:ClT B
 kdf:KdF w B
structure Cok(P:Program)(w:World)(base:Heap)(B:Bs)(lv:Nat)(c:Ct)(X:Cx):Prop where
 hP:X.prog=P
 hw:X.w=w
 hK:X.K=B.K
 hM:X.mg=B.mg
 hb:X.base=base
 N:X.N=c.N
 nd:X.N.Nodup
 vis:∀{x},isV c x=true->Vis X.env.scope x
 loc:∀{x},isL c x=true->Loc X.env.scope x/\(X.fn x=true\/X.env.scope.names.lookup x=some .local)
 lc:∀{x},zAv x c.sc=some .local->X.env.kindOf x=some .local
 gl:∀{x},isG c x=true->Gl X x
 calm:X.calm=true
 hr:zBd (lv+1) X.A
 bk:c.inC=false->X.env.blockKind=.function
 cap:c.inC=false->∀{x},zAv x c.sc=some .cell->X.env.scope.names.lookup x=some .cell/\∃a,X.env.cells.lookup x=some a
section
variable{P:Program}{w:World}{base:Heap}{B:Bs}{up:B4<|Str×Str}{G:D4}{lv:Nat}{c:Ct}{X:Cx}{Ex:St->XK}
theorem Cok.f{k:Nat}{f:B9}{fd:FuncData}{ps:C0}{sp:Sp}(k':Cok P w base B lv c X)(F:zBc P w B.K B.mg base (CXz P w) k f fd ps sp):zBc X.prog X.w X.K X.mg X.base (CXz X.prog X.w) k f fd ps sp:=by
 rw[k'.hP,k'.hw,k'.hK,k'.hM,k'.hb];exact F
def fi(h:isG c x=true):okN x=true:=by unfold isG at h;rw[xCh] at h;exact h.2
def eJ(h:okN x=true):(x==("__debug__":Str))=false/\(x==("__classdict__":Str))=false/\x≠"__name__":=by
 simp only[okN,xCh,Bool.not_eq_true'] at h;exact⟨h.1.1,h.1.2,λz=>by have:=h.2;rw[z] at this;simp at this⟩
def jh{d:Gd}(h:glo c x=some d):isG c x=true/\zAv x c.gl=some d:=by
 unfold glo at h;split at h
 .next e=>exact⟨e,h⟩
 .cases h
def eQ(h:isB c x=true):isG c x=true/\x∈c.bl:=by
 unfold isB at h;rw[xCh] at h;let⟨y,hy,e⟩:=xCy.mp h.2;exact⟨h.1,by rw[<- xBe e];exact hy⟩
def vN{i:Nat}(k:Cok P w base B lv c X)(h:vIx c x=some i):X.N[i]?=some x/\Vis X.env.scope x/\okN x=true:=by
 unfold vIx at h;split at h
 .next e=>
  rw[xCh] at e;let⟨_,h2⟩:=jg h;exact⟨by rw[k.N];simpa using h2,k.vis e.1,e.2⟩
 .cases h
def fP{i:Nat}(k:Cok P w base B lv c X)(h:lIx c x=some i):X.N[i]?=some x/\Loc X.env.scope x/\(X.fn x=true\/X.env.scope.names.lookup x=some .local):=by
 unfold lIx at h;split at h
 .next e=>
  let⟨_,h2⟩:=jg h;exact⟨by rw[k.N];simpa using h2,k.loc e⟩
 .cases h
set_option tactic.hygienic true
theorem gM(k:Cok P w base B lv c X):∀{es:B4 B8}{is:C4},zBo c es=some is->es.length=is.length/\∀(j:Nat)(e:B8),es[j]?=some e->∃x p i,e=.Name x p/\is[j]?=some i/\X.N[i]?=some x/\Loc X.env.scope x/\(X.fn x=true\/X.env.scope.names.lookup x=some .local)
 |[],is,h=>by cases h;exact⟨rfl,λj e z=>by simp at z⟩
 |e::es,is,h=>by
  cases e <;> try (cases h;done)
  rename_i x p
  let⟨i,is',h1,h2,rfl⟩:=gI<|show o2 _ (lIx c x) (zBo c es)=_ from h;let⟨l,q⟩:=gM k h2;refine⟨by simp[l],λj e z=>?_⟩;cases j with
  |zero=>simp at z;subst z;exact⟨x,p,i,rfl,rfl,fP k h1⟩
  |succ j=>simpa using q j e (by simpa using z)
set_option tactic.hygienic false
def lO{one:B'}(k:Cok P w base B lv c X)(h:zEn c tg=some (is,one)):FG X B G tg is one/\(one=true->is.length=1):=by
 cases tg <;> try (cases h;done)
 .let⟨i,h1,e⟩:=f6<|show o1 _ _=_ from h;cases e;let⟨a,b,d⟩:=fP k h1;exact⟨BP k.nd a b d,λ_=>rfl⟩
 .let⟨i,h1,e⟩:=f6<|show o1 _ _=_ from h;cases e;let⟨l,q⟩:=gM k h1;exact⟨BO k.hK k.calm k.nd q l,nofun⟩
theorem cw{J:Type}{x:Str}:∀{l:B4<|Str×J},zAv x l=l.lookup x
 |[]=>rfl
 |(y,v)::r=>by
  unfold zAv;rw[List.lookup_cons];by_cases e:x=y
  .rw[xCg e,e];simp
  .rw[xCf e,beq_false_of_ne e];exact cw
theorem dl{env:Env}:∀{names:B4<|Str×NameKind}{x:Str},names.lookup x=some .globalImplicit ->
  (names.map λ(n,k)=>if(k==NameKind.free&&env.scope.kind == .function&&env.kindOf n==some .cell) then(n,NameKind.cell) else(n,k)).lookup x=some .globalImplicit
 |[],_,h=>by simp at h
 |(n,k)::r,x,h=>by
  have ih:=@dl env r x;show List.lookup x ((if(k==NameKind.free&&env.scope.kind == .function&&env.kindOf n==some .cell)=true then(n,NameKind.cell) else(n,k))::_)=_;cases hx:x==n with
  |true=>
   simp only[List.lookup_cons,hx] at h;cases h;simp[hx,List.lookup_cons]
  |false=>
   simp only[List.lookup_cons,hx] at h;split <;> simp only[List.lookup_cons,hx] <;> exact ih h
theorem lF{env:Env}:∀{l:B4<|Str×NameKind},(∀y,(y,NameKind.free)∈l->∃a,env.cells.lookup y=some a)->∀acc:B4<|Str×B9,∃cl,(forIn l acc λ(p:Str×NameKind) (cs:B4<|Str×B9)=>(do
   if(p.2==NameKind.free)=true then do
    let a <- cellOf env p.1
    pure (ForInStep.yield<|(p.1,a)::cs)
   else pure (ForInStep.yield cs):Sem<|ForInStep<|B4<|Str×B9))=pure (cl++acc)/\cl.map (·.1)=frees l/\∀q∈cl,env.cells.lookup q.1=some q.2
 |[],_,acc=>⟨[],rfl,rfl,λ_ h=>nomatch h⟩
 |(y,k)::r,h,acc=>by
  by_cases e:k=.free
  .subst e;let⟨a,ha⟩:=h y xAr;let⟨cl,e1,e2,e3⟩:=lF (l:=r) (λz hz=>h z<|xAs _ hz)<|(y,a)::acc;refine⟨cl++[(y,a)],?_,by rw[xAi,e2];rfl,λq hq=>?_⟩
   .rw[List.forIn_cons,xAx,show[(y,a)]++acc=(y,a)::acc from rfl,<- e1];simp only[cellOf,ha];rfl
   .rcases xAj.mp hq with hq|hq
    .exact e3 q hq
    .rw[xAm.mp hq];exact ha
  .let⟨cl,e1,e2,e3⟩:=lF (l:=r) (λz hz=>h z<|xAs _ hz) acc;refine⟨cl,?_,by rw[e2];cases k <;> first|rfl|exact absurd rfl e,e3⟩;rw[List.forIn_cons,<- e1];simp only[show(k==NameKind.free)=false from beq_false_of_ne e];rfl
def lE{scope:Scope}(h:∀y,(y,NameKind.free)∈scope.names->∃a,env.cells.lookup y=some a):∃cl,closureFor scope env=pure cl/\cl.map (·.1)=frees scope.names/\∀q∈cl,env.cells.lookup q.1=some q.2:=by
 let⟨cl,e1,e2,e3⟩:=lF h [];refine⟨cl,?_,e2,e3⟩;rw[xB0] at e1;have:=congrArg (λz:Sem<|B4<|Str×B9=>z>>=λr=>pure r) e1;exact this
theorem jS{x:Str}:∀{l:B4<|Str×NameKind},x∈locs l↔(x,NameKind.local)∈l
 |[]=>by simp[locs]
 |(y,k)::r=>by cases k <;> simp[locs,jS (l:=r)]
theorem dQ{x:Str}:∀{l:B4<|Str×NameKind},x∈frees l↔(x,NameKind.free)∈l
 |[]=>by simp[frees]
 |(y,k)::r=>by cases k <;> simp[frees,dQ (l:=r),or_comm]
theorem jb{y:Str}{k:NameKind}:∀{l:B4<|Str×NameKind},(l.map (·.1)).Nodup->(y,k)∈l->l.lookup y=some k
 |[],_,h=>nomatch h
 |(z,k')::r,nd,h=>by
  rw[xBs,xCb] at nd;rw[List.lookup_cons];rcases xAv.mp h with e|h
  .cases e;simp
  .have:y≠z:=λe=>nd.1 (by rw[<- e];exact xA2.mpr ⟨_,h,rfl⟩);rw[beq_false_of_ne this];exact jb nd.2 h
theorem jO:∀{l:B4<|Str×NameKind},(l.map (·.1)).Nodup->(locs l++frees l).Nodup
 |[],_=>xC7
 |(z,k)::r,nd=>by
  rw[xBs,xCb] at nd;have ih:=jO nd.2;have h1:z∉locs r:=λh=>nd.1<|xA2.mpr ⟨_,jS.mp h,rfl⟩;have h2:z∉frees r:=λh=>nd.1<|xA2.mpr ⟨_,dQ.mp h,rfl⟩;cases k <;> try exact ih
  .show(z::(locs r++frees r)).Nodup;exact xCb.mpr ⟨λh=>(xAj.mp h).elim h1 h2,ih⟩
  .show(locs r++(frees r++[z])).Nodup;rw[<- xAx];refine xBq.mpr ⟨ih,⋯,λa ha b hb=>?_⟩;rw[xAm.mp hb];rintro rfl
   exact(xAj.mp ha).elim h1 h2
theorem rY(k:Cok P w base B lv c X)(hc:c.inC=false){scope:Scope}{cl:B4<|Str×B9}(hcl:∀q∈cl,X.env.cells.lookup q.1=some q.2)(hsc:∀y,(y,NameKind.free)∈scope.names->scope.names.lookup y=some .free) :
  ∀{fs:C0}{cs:C4},(∀y∈fs,(y,NameKind.free)∈scope.names/\∃a,cl.lookup y=some a)->zCe c fs=some cs->Paired (zB7 X scope cl) fs cs
 |[],cs,_,h=>by cases h;exact .nil
 |y::fs,cs,hf,h=>by
  unfold zCe at h;split at h <;> try (cases h;done)
  next e=>
   let⟨i,is,h1,h2,rfl⟩:=gI h;let⟨h3,a,h4⟩:=hf y xAr;let⟨_,h5⟩:=jg h1;exact .cons ⟨⟨a,h4,hcl _<|c8 h4⟩,by rw[k.N];simpa using h5,(k.cap hc e).1,hsc y h3⟩<|rY k hc hcl hsc (λz hz=>hf z<|xAs _ hz) h2
theorem ke:∀{fs:C0}{cs:C4},zCe c fs=some cs->∀y∈fs,zAv y c.sc=some .cell
 |[],cs,_,y,hy=>nomatch hy
 |z::fs,cs,h,y,hy=>by
  unfold zCe at h;split at h <;> try (cases h;done)
  next e=>
   let⟨i,is,h1,h2,rfl⟩:=gI h;rcases xAv.mp hy with rfl|hy
   .exact e
   .exact ke h2 y hy
def Fc.re{sc:Scope}(F:Fc P w base B up G lv c):Fc P w base B up G lv<|cty c sc:=⟨F.g,F.fn,F.cl,F.ms,F.con,F.bl,F.k1,F.k2,F.k3,F.k4,F.clf,F.clt,F.kdf⟩
def zHa{X:Cx}:zAj (CXz X.prog X.w) X λ_ _ _ _=>False:=λZ O H s ev s' I z=>z.elim
def mz{sc:Scope}(h:zFj sc=true):sc.kind=.function/\(sc.names.map (·.1)).Nodup/\∀y k,(y,k)∈sc.names->k=.local\/k=.free\/k=.globalImplicit:=by
 simp only[zFj,xCh,xCx] at h;refine⟨xBe h.1.1,dM h.2,λy k hm=>?_⟩;have:=h.1.2 _ hm;cases k <;> simp_all
def rX{sc:Scope}{cl:B4<|Str×B9}{C:B9}{s:B7}{fp:B4 B9}(k:Cok P w base B lv c X)(h:zFj sc=true):Cok P w base B lv (cty c sc)<|zAm X (locs sc.names++frees sc.names) sc cl C s H fp:=by
 let⟨h1,h2,h3⟩:=mz h;refine⟨k.hP,k.hw,k.hK,k.hM,k.hb,rfl,jO h2,λ{x} hx=>?_,λ{x} hx=>?_,λ{x} hx=>lookup_relabel_local (by rw[<- cw];exact hx),λ{x} hx=>?_,k.calm,k.hr,nofun,nofun⟩
 .unfold isV at hx;rw[cw] at hx;split at hx <;> try (cases hx;done)
  .next e=>exact .inl (lookup_relabel_local e)
  .next e=>rcases h3 _ _ (c8 e) with z|z|z <;> cases z
  .next e=>exact .inr (dq e)
 .unfold isL at hx;rw[cw] at hx;split at hx <;> try (cases hx;done)
  .next e=>exact⟨.inl<|lookup_relabel_local e,.inr<|lookup_relabel_local e⟩
  .next e=>rcases h3 _ _ (c8 e) with z|z|z <;> cases z
 .unfold isG at hx;rw[xCh,cw] at hx;have h4:=hx.1;split at h4
  .next e=>exact dl e
  .cases h4
def uY{sc:Scope}{cs:C4}(k:Cok P w base B lv c X)(hc:c.inC=false)(h:zFj sc=true)(hcs:zCe c (frees sc.names)=some cs):∃cl,zB2 X sc cl (locs sc.names) (frees sc.names) cs:=by
 let⟨h1,h2,h3⟩:=mz h;let⟨cl,e1,e2,e3⟩:=lE (scope:=sc) (env:=X.env) λy hy=>(k.cap hc<|ke hcs y<|dQ.mpr hy).2;have hl:∀y∈frees sc.names,∃a,cl.lookup y=some a:=λy hy=>by
  rw[<- e2] at hy;let⟨q,hq,rfl⟩:=xA2.mp hy;clear e1 e2 e3 hy;induction cl with
  |nil=>cases hq
  |cons p r ih=>
   rw[List.lookup_cons];by_cases e:q.1==p.1
   .rw[e];exact⟨_,rfl⟩
   .rw[Bool.eq_false_iff.mpr e];rcases xAv.mp hq with rfl|hq
    .simp at e
    .exact ih hq
 exact⟨cl,zB2.mk' e1 (λy hy e=>by rcases h3 y.1 y.2 hy with z|z|z <;> rw[e] at z <;> cases z) h1 (λy hy e=>jb h2<|by rw[<- e];exact hy) (rY k hc e3 (λy hy=>jb h2 hy) (λy hy=>⟨dQ.mp hy,hl y hy⟩) hcs) (λy hy e=>dQ.mpr<|by rw[<- e];exact hy) e2⟩
end
section
variable{B:Bs}{up:B4<|Str×Str}{G:D4}{Ex:St->XK}{a b d:C9}{X:Cx}{e ea eb ec:B8}{pos p1:Pos}{j:Nat}(g:zBu up G)
def nj{f:Int->Int->B'}{z:U}(h:i2 (λi j=>.bl<|f i j) S vs=.ok z S'):∃c,z=.bl c:=by
 let⟨i,j,_,rfl,_⟩:=ni h;exact⟨_,rfl⟩
def yo{f:B'->B'}{w:U}{z:U}(h:Fx.eqU f v w S=.ok z S'):∃c,z=.bl c:=by
 unfold Fx.eqU at h;split at h
 .cases h;exact⟨_,rfl⟩
 .split at h
  .cases h;exact⟨_,rfl⟩
  .split at h
   .cases h;exact⟨_,rfl⟩
   .cases h
def xu{w:U}{z:U}(h:Fx.neU v w S=.ok z S'):∃c,z=.bl c:=by
 unfold Fx.neU at h;split at h
 .cases h;exact⟨_,rfl⟩
 .split at h
  .cases h;exact⟨_,rfl⟩
  .split at h
   .cases h;exact⟨_,rfl⟩
   .cases h
def qB{f:B'->B'}{o:B5 B'}{z:U}(h:obB o f S=.ok z S'):∃c,z=.bl c:=by
 unfold obB at h;split at h
 .cases h;exact⟨_,rfl⟩
 .cases h
def unmarked(h:zBb eb=true):behindInMarks op eb=false:=by cases eb <;> first|rfl|cases h
include g
theorem yE(hK:X.K=B.K)(hu:X.A.units+100<cLine)(h:zF3 op=some p)(hs:zBb eb=true)(ha:FE X B G Ex ea a)(hb:FE X B G Ex eb b) :
  FT X B G Ex (.Compare ea [op] [eb] pos) (tB<|cP p<|zAx a b)/\FE X B G Ex (.Compare ea [op] [eb] pos) (cB<|tB<|cP p<|zAx a b):=by
 have fin:∀{r:R2},OpR X (compareOp op) r->Pr2 B up p r->(∀v w S z S',pr up p [v,w] S=.ok z S'->∃c,z=.bl c)->FT X B G Ex (.Compare ea [op] [eb] pos) (tB<|cP p<|zAx a b)/\FE X B G Ex (.Compare ea [op] [eb] pos) (cB<|tB<|cP p<|zAx a b):=λho hp hv=>
  ⟨AI g ho hp hv ha hb<|unmarked hs,uK g<|yi g ho hp ha hb<|unmarked hs⟩
 have hu1:X.A.units+1<cLine:=()
 cases op <;> cases h
 .exact fin (Bu hu) Bq λ_ _ _ _ _=>yo
 .exact fin (Br hu) Bn λ_ _ _ _ _=>xu
 .exact fin vm zO λ_ _ _ _ _=>nj
 .exact fin vn zQ λ_ _ _ _ _=>nj
 .exact fin vo zR λ_ _ _ _ _=>nj
 .exact fin vp zS λ_ _ _ _ _=>nj
 .exact fin (Bt hu1) (by rw[hK];exact Bp) λ_ _ _ _ _=>qB
 .exact fin (z9 hu1) (by rw[hK];exact zI) λ_ _ _ _ _=>qB
omit g in
theorem pI{f:Int->Int->V}{x y:V}{Q Q':VK}(h:∀v H,Q v H->Q' v H)(q:rI0 f x y H Q):rI0 f x y H Q':=by
 let⟨i,j,e1,e2,q⟩:=q;exact⟨i,j,e1,e2,h _ _ q⟩
omit g in
theorem qv(h:zC9 op=some p):∃f,OpR X (compareOp op) (rI0 f)/\Pr2 B up p (rI0 f):=by
 cases op <;> cases h
 .exact⟨_,vm,zO⟩
 .exact⟨_,vn,zQ⟩
 .exact⟨_,vo,zR⟩
 .exact⟨_,vp,zS⟩
theorem AX{op':CmpOp}{q:Pm}(h:zC9 op=some p)(h':zC9 op'=some q)(hs:zBb ec=true)(ha:FE X B G Ex ea a)(hb:FE X B G Ex eb b)(hc:FE X B G Ex ec d) :
  FT X B G Ex (.Compare ea [op,op'] [eb,ec] pos) (tCh p q a b d)/\FE X B G Ex (.Compare ea [op,op'] [eb,ec] pos) (cB<|tCh p q a b d):=by
 let⟨f,o1,q1⟩:=qv (X:=X) (B:=B) (up:=up) h;let⟨f',o2,q2⟩:=qv (X:=X) (B:=B) (up:=up) h';have hm:lastMarks [op,op'] [eb,ec]=false:=unmarked (op:=op') hs;exact⟨BS g o1 o2 q1 q2 ha hb hc hm,AJ g o1 o2 q1 q2 ha hb hc hm (λ_ _ _ _ h=>h) pI pI⟩
theorem qU{f:B'->B'}(hp:∀v S,pr up p [v] S=.ok (.bl<|f<|match v with|.non=>true|_=>false) S)(ho:OpR X (compareOp op) λx y H Q=>y=.non/\Q (.bl<|f<|decide<|x=.non) H)(hn:op≠.In)(hn2:op≠.NotIn)(ha:FE X B G Ex ea a) :
  FT X B G Ex (.Compare ea [op] [.Constant .none j p1] pos) (tB<|cP p<|aC a aN)/\FE X B G Ex (.Compare ea [op] [.Constant .none j p1] pos) (cB<|tB<|cP p<|aC a aN):=by
 have hm:behindInMarks op (.Constant .none j p1)=false:=rfl;have mm:=mP g (p:=p)<|mAC g ha.m<|mAN g;have one:∀{W:Wd}{v:U}{u:V},Rv B W v u->(match v with|.non=>true|_=>false)=decide (u=.non):=λ{W v u} r=>by
  cases v with
  |non=>rw[show u=.non from r];rfl
  |bl b=>rw[show u=.bl b from r];rfl
  |int i=>rw[show u=.int i from r];rfl
  |str i=>rw[show u=.str i from r];rfl
  |ty i=>rw[show u=.ty i from r];rfl
  |tup xs=>let⟨p,vs,rfl,_⟩:=r;rfl
  |lst xs=>let⟨p,vs,rfl,_⟩:=r;rfl
  |kt xs=>let⟨p,vs,rfl,_⟩:=r;rfl
  |kl xs=>let⟨p,vs,rfl,_⟩:=r;rfl
  |kd kvs no=>let⟨p,rfl,_⟩:=r;rfl
  |ref a=>let⟨p,rfl,_⟩:=r;rfl
  |gl x=>let⟨p,rfl,_⟩:=r;rfl
 have core:∀{τ:St}{H:Hp}{Q:VK},LE B G Ex (cP p<|aC a aN) τ H Q->LE B G Ex a τ H (λx H1=>Q (.bl<|f<|decide<|x=.non) H1):=λh=>(LE.p1 g ha.m h).imp ha.m λu H1 zz=>by
  let⟨W,S,v,z,S',rs,r1,e,q⟩:=zz;rw[hp] at e;cases e;rw[<- one r1];exact q.here rs rfl
 have hE:FE X B G Ex (.Compare ea [op] [.Constant .none j p1] pos)<|cP p<|aC a aN:=⟨wkE (mx ho ha.p kO hm) λτ H Q h=>(core h).imp ha.m λu H1 q=>⟨rfl,q⟩,mm⟩
 refine⟨⟨wkT (lZ ho ha.p kO hm) λτ H Q h=>?_,mB g mm⟩,uK g hE⟩;have h':LE B G Ex (cP p<|aC a aN) τ H λx H'=>∃k,x=.bl k/\Q k H':=by
  let⟨W,O,S,rs,rg,h⟩:=h;refine LE.go mm rs rg h λv S' W' u H' le rs' rv rg' h'=>?_;cases v <;> first|(exact(g.no h').elim)|exact⟨_,rv,h' W' H' le rs'⟩
 exact(core h').imp ha.m λu H1 q=>⟨rfl,q⟩
end
section
variable{P:Program}{w:World}{base:Heap}{B:Bs}{up:B4<|Str×Str}{G:D4}{lv:Nat}{c:Ct}{X:Cx}{Ex:St->XK}{a b:C9}{ea eb:B8}{p1 pos:Pos}{x:Str}{m:B'}{p:Pm}
def sf(F:Fc P w base B up G lv c)(k:Cok P w base B lv c X)(h:zDy m x=some p)(hb:isB c x=true)(hst:zAa ea=true)(ha:FE X B G Ex ea a):FE X B G Ex (.Call (.Name x p1) [ea] [] pos)<|cP p<|aC a aN:=by
 have g:=F.g;let⟨h1,h2⟩:=eQ hb;let⟨n1,_,n2⟩:=eJ<|fi h1;have hg:=k.gl h1;have hm:X.mg x=none:=by rw[k.hM];exact F.bl h2
 have fa:FA X B G Ex [ea]<|aC a aN:=fI g ha (ij g) hst;have hs:[ea].all zAa=true:=by rw[xCj,hst];rfl
 have hK:=k.hK;unfold zDy at h;split at h
 .next e=>subst e;cases h;exact oG g zn (by rw[hK];exact zP) hg hm (by decide +kernel) fa hs n2 n1
 split at h
 .next e=>subst e;cases h;exact oG g (yt k.calm) zG hg hm (by decide +kernel) fa hs n2 n1
 split at h
 .next e=>subst e;cases h;exact oG g sd zX hg hm (by decide +kernel) fa hs n2 n1
 split at h
 .next e=>subst e;cases h;exact uL g uR wX hg hm (by decide +kernel) fa hs n2 n1
 split at h
 .next e=>subst e;cases h;exact uL g rR (by rw[hK];exact tZ) hg hm (by decide +kernel) fa hs n2 n1
 split at h
 .next e=>subst e;cases h;exact uL g uO (by rw[hK];exact ua) hg hm (by decide +kernel) fa hs n2 n1
 split at h
 .next e=>subst e;cases h;exact uL g rT ub hg hm (by decide +kernel) fa hs n2 n1
 split at h
 .next e=>subst e;cases h;exact oG g (yx k.calm) (by rw[hK];exact zV) hg hm (by decide +kernel) fa hs n2 n1
 .cases h
def yK(F:Fc P w base B up G lv c)(k:Cok P w base B lv c X)(h:zHs x=some p)(hb:isB c x=true)(hst:zAa ea=true)(hst2:zAa eb=true)(ha:FE X B G Ex ea a)(hb':FE X B G Ex eb b):FE X B G Ex (.Call (.Name x p1) [ea,eb] [] pos)<|cP p<|zAx a b:=by
 have g:=F.g;let⟨h1,h2⟩:=eQ hb;let⟨n1,_,n2⟩:=eJ<|fi h1;have hg:=k.gl h1;have hm:X.mg x=none:=by rw[k.hM];exact F.bl h2
 have fa:FA X B G Ex [ea,eb]<|zAx a b:=fI g ha (fI g hb' (ij g) hst2) hst;have hs:[ea,eb].all zAa=true:=by rw[xCj,xCj,hst,hst2];rfl
 unfold zHs at h;split at h
 .next e=>subst e;cases h;exact oG g (oM k.calm) zN hg hm (by decide +kernel) fa hs n2 n1
 .split at h
  .next e=>subst e;cases h;exact oG g (oK k.calm) zM hg hm (by decide +kernel) fa hs n2 n1
  .cases h
def xP(F:KdF w B):Pr2 B up .ix<|zFg w B.K:=Bo λ{W q kvs no x v H Q} hd hy q=>by
 let⟨u,val,e1,e2,e3⟩:=F.y hd hy;exact .inr ⟨_,_,u,val,rfl,F.d hd,rfl,e1,e2,q u<|e3 W⟩
def zF1{np:Nat}{ds:C3}(h:dflt np n []=some ds):ds=[]/\n=np:=by
 unfold dflt at h;split at h
 .next e=>cases h;exact⟨⋯,by have:=e.1;have:=e.2;simp at this;lia⟩
 .cases h
end
structure Snd(P:Program)(w:World)(base:Heap)(B:Bs)(up:B4 (Str×Str))(G:D4)(lv n:Nat):Prop where
 E:∀{c X Ex m e t},Fc P w base B up G lv c->Cok P w base B lv c X->zAj (CXz X.prog X.w) X Ex->cpE c n m e=some t->FE X B G Ex e t
 C:∀{c X Ex m f as pos t},Fc P w base B up G lv c->Cok P w base B lv c X->zAj (CXz X.prog X.w) X Ex->as.all zAa=true->cpC c n m f as pos=some t->FE X B G Ex (.Call f as [] pos) t
 M:∀{c X Ex o a as apos pos t},Fc P w base B up G lv c->Cok P w base B lv c X->zAj (CXz X.prog X.w) X Ex->as.all zAa=true->(apos.endLine==pos.line)=true->cpM c n o a as=some t->FE X B G Ex (.Call (.Attribute o a apos) as [] pos) t
 A:∀{c X Ex m es t},Fc P w base B up G lv c->Cok P w base B lv c X->zAj (CXz X.prog X.w) X Ex->cpA c n m es=some t->FA X B G Ex es t/\(es=[]->t=aN)/\es.all zAa=true
 D:∀{c X Ex m es t ks kk pos},Fc P w base B up G lv c->Cok P w base B lv c X->zAj (CXz X.prog X.w) X Ex->cpA c n m es=some t->zBp ks=some kk->kk.length=es.length->FP X B G Ex pos ks kk es t
 T:∀{c X Ex vl e t},Fc P w base B up G lv c->Cok P w base B lv c X->zAj (CXz X.prog X.w) X Ex->cpT c n vl e=some t->FT X B G Ex e t/\(vl=true->FE X B G Ex e (cB t))/\∀op vs p,e=Expr.BoolOp op vs p->FW X B G Ex e t
 I:∀{c X Ex one tg e t},Fc P w base B up G lv c->Cok P w base B lv c X->zAj (CXz X.prog X.w) X Ex->(one=false->∃ts k p,tg=Expr.Tuple ts k p)->cpI c n one e=some t->FI X B G Ex tg e t
section
variable{P:Program}{w:World}{base:Heap}{B:Bs}{up:B4<|Str×Str}{G:D4}{lv n:Nat}{c:Ct}{X:Cx}{Ex:St->XK}
def zCc{t:J}{p:Prop}(h:(none:B5 J)=some t):p:=by cases h
def zJo:Snd P w base B up G lv 0:=
 ⟨λ_ _ _ h=>zCc h,λ_ _ _ _ h=>zCc h,λ_ _ _ _ _ h=>zCc h,λ_ _ _ h=>zCc h,λ_ _ _ h _ _=>zCc h,λ_ _ _ h=>zCc h,λ_ _ _ _ h=>zCc h⟩
variable(s:Snd P w base B up G lv n)(F:Fc P w base B up G lv c)(k:Cok P w base B lv c X)(hx:zAj (CXz X.prog X.w) X Ex)
include s F k hx
theorem B1{m:B4 B'}{es:B4 B8}{t:D5}(h:cpA c (n+1) m es=some t):FA X B G Ex es t/\(es=[]->t=aN)/\es.all zAa=true:=by
 cases es with
 |nil=>cases h;exact⟨ij F.g,λ_=>rfl,rfl⟩
 |cons e r=>
  refine cZ (show gd (zAa e) (o2 aC (cpE c n (m.headD false) e)<|cpA c n m.tail r)=_ from h) λh1 h2=>?_;let⟨x,y,h3,h4,rfl⟩:=gI h2;let⟨q1,_,q3⟩:=s.A F k hx h4;exact⟨fI F.g (s.E F k hx h3) q1 h1,nofun,by rw[xCj,h1,q3];rfl⟩
def qT{a:B5 B8}{r:B4<|B5 B8}(h:zBp (a::r)=some kk):∃z j p kk',a=some (.Constant (.str z) j p)/\zBp r=some kk'/\kk=z::kk':=by
 let⟨x,ks,h1,h2,rfl⟩:=gI h;let⟨e,rfl,h3⟩:=xCi.mp h1;unfold zIy at h3;split at h3
 .let⟨y,h4,rfl⟩:=f6 h3;unfold zIz at h4;split at h4
  .cases h4;exact⟨_,_,_,ks,rfl,h2,rfl⟩
  .cases h4
 .cases h3
omit s F k hx in
theorem jc:∀{ks:B4<|B5 B8}{kk:C0},zBp ks=some kk->ks.length=kk.length/\ks.all (·.isSome)=true
 |[],kk,h=>by cases h;exact⟨rfl,rfl⟩
 |a::r,kk,h=>by
  let⟨z,j,p,kk',rfl,hq,rfl⟩:=qT h;let⟨h1,h2⟩:=jc hq;exact⟨by simp[h1],by rw[xCj,h2];rfl⟩
theorem BU{m:B4 B'}{es:B4 B8}{t:D5}{ks:B4<|B5 B8}(h:cpA c (n+1) m es=some t)(hk:zBp ks=some kk)(hl:kk.length=es.length):FP X B G Ex pos ks kk es t:=by
 cases es with
 |nil=>
  cases h;cases kk with
  |cons _ _=>cases hl
  |nil=>
   have:=(jc hk).1;cases ks with
   |nil=>exact BH F.g
   |cons a r=>simp at this
 |cons e r=>
  refine cZ (show gd (zAa e) (o2 aC (cpE c n (m.headD false) e)<|cpA c n m.tail r)=_ from h) λh1 h2=>?_;let⟨x,y,h3,h4,rfl⟩:=gI h2;cases ks with
  |nil=>cases hk;cases hl
  |cons a ks'=>
   let⟨z,j,p,kk',rfl,hq,rfl⟩:=qT hk;exact BI F.g (s.E F k hx h3) (s.D F k hx h4 hq<|by simpa using hl)
end
section
variable{P:Program}{w:World}{base:Heap}{B:Bs}{up:B4<|Str×Str}{G:D4}{lv n:Nat}{c:Ct}{X:Cx}{Ex:St->XK}
variable(s:Snd P w base B up G lv n)(F:Fc P w base B up G lv c)(k:Cok P w base B lv c X)(hx:zAj (CXz X.prog X.w) X Ex)
include s F k hx
theorem Bw{a:Str}{t:C9}(hst:as.all zAa=true)(hl:(apos.endLine==pos.line)=true)(h:cpM c (n+1) o a as=some t):FE X B G Ex (.Call (.Attribute o a apos) as [] pos) t:=by
 have g:=F.g;change eM (cps n) _ _ _ _=_ at h;unfold eM at h;refine cZ h λhn h=>?_;split at h
 .next e=>
  rw[xCj,xCh] at hst;split at h
  .next ea=>
   subst ea;let⟨z,v,h3,h4,rfl⟩:=gI h;exact rH g k.hK PySem.F.plainAttrs_list PySem.F.slot_list_append PySem.F.type_list_append ip zU (.inl rfl) (s.E F k hx h3) (s.E F k hx h4) hn hst.1 hl
  split at h
  .next ea=>
   subst ea;let⟨z,v,h3,h4,rfl⟩:=gI h;exact rH g k.hK PySem.F.plainAttrs_list PySem.F.slot_list_extend PySem.F.type_list_extend ou zT (.inl rfl) (s.E F k hx h3) (s.E F k hx h4) hn hst.1 hl
  split at h
  .next ea=>
   subst ea;let⟨z,v,h3,h4,rfl⟩:=gI h;exact rH g k.hK PySem.F.plainAttrs_str PySem.F.slot_str_join PySem.F.type_str_join uv (by rw[k.hK];exact wW) (.inr<|.inl rfl) (s.E F k hx h3) (s.E F k hx h4) hn hst.1 hl
  .cases h
 .cases h
theorem A3{op:BoolOp}{vs:B4 B8}{p:Pos}{t:TTx Prop}(h:eBo (cps n) c vl op vs p=some t):FW X B G Ex (.BoolOp op vs p) t/\(vl=true->FE X B G Ex (.BoolOp op vs p) (cB t)):=by
 have g:=F.g;cases vs with
 |nil=>cases h
 |cons a q=>
  cases q with
  |nil=>
   let⟨q1,q2,_⟩:=s.T F k hx<|show(cps n).T c vl a=some t from h;cases op with
   |And=>exact⟨Ay q1,λv=>vH<|q2 v⟩
   |Or=>exact⟨Ax q1,λv=>vH<|q2 v⟩
  |cons b r=>
   cases op with
   |And=>
    let⟨x,y,h1,h2,rfl⟩:=gI<|show o2 tAn _ _=_ from h;let⟨q1,q2,_⟩:=s.T F k hx h1;let⟨q3,q4,q5⟩:=s.T F k hx h2;exact⟨BE g q1<|q5 _ _ _ rfl,λv=>yk g (q2 v) q1.m (q4 v) q3.m⟩
   |Or=>
    let⟨x,y,h1,h2,rfl⟩:=gI<|show o2 tOr' _ _=_ from h;let⟨q1,q2,_⟩:=s.T F k hx h1;let⟨q3,q4,q5⟩:=s.T F k hx h2;exact⟨BD g q1<|q5 _ _ _ rfl,λv=>AC g (q2 v) q1.m (q4 v) q3.m⟩
theorem AY{a b:B8}{p:Pos}{t:TTx Prop}(h:eC1 (cps n) c a op b=some t):FT X B G Ex (.Compare a [op] [b] p) t/\FE X B G Ex (.Compare a [op] [b] p) (cB t):=by
 have g:=F.g;unfold eC1 at h;split at h
 .next ho=>
  rw[xCh] at ho;let⟨⟨⟨j,q⟩,rfl⟩,_⟩:=Option.isSome_iff_exists.mp ho.1;obtain rfl:op=.Is:=by cases op <;> first|rfl|cases ho.2
  let⟨x,h1,rfl⟩:=f6 h;exact qU g (p:=.isN) (f:=id) (j:=j) (p1:=q) (pos:=p) (λv S=>by cases v <;> rfl) w4 nofun nofun<|s.E F k hx h1
 .refine cZ h λh1 h2=>?_;let⟨pm,x,y,h3,h4,h5,rfl⟩:=Ab h2;exact yE g (pos:=p) k.hK (by have:=k.hr.un;lia) h3 h1 (s.E F k hx h4)<|s.E F k hx h5
set_option tactic.hygienic true
theorem AV{a:B8}{ops:B4 CmpOp}{bs:B4 B8}{p:Pos}{t:TTx Prop}(h:eCm (cps n) c a ops bs=some t):FT X B G Ex (.Compare a ops bs p) t/\FE X B G Ex (.Compare a ops bs p) (cB t):=by
 rcases ops with _|⟨o,_|⟨o2,_|_⟩⟩ <;> rcases bs with _|⟨b,_|⟨d,_|_⟩⟩ <;> try (cases h;done)
 .exact AY s F k hx h
 .refine cZ (show gd _ (eC3 ..)=_ from h) λh1 h2=>?_;rw[xCh] at h1;unfold eC3 at h2;split at h2
  .next pm qm e1 e2=>
   let⟨x,y,z,h3,h4,h5,rfl⟩:=Ab h2;exact AX F.g (pos:=p) e1 e2 h1.2 (s.E F k hx h3) (s.E F k hx h4)<|s.E F k hx h5
  .cases h2
theorem Bc{t:TTx Prop}(h:cpT c (n+1) vl e=some t):FT X B G Ex e t/\(vl=true->FE X B G Ex e (cB t))/\∀op vs p,e=Expr.BoolOp op vs p->FW X B G Ex e t:=by
 have g:=F.g
 replace h:eT (cps n) c vl e=some t:=h
 cases e <;> try (cases h;done)
 case UnaryOp op a p=>
  cases op <;> try (cases h;done)
  let⟨x,h1,rfl⟩:=f6 h;let⟨q1,q2,_⟩:=s.T F k hx h1;exact⟨BJ g q1,λv=>rF g (q2 v) q1.m,nofun⟩
 case BoolOp op vs p=>
  let⟨q1,q2⟩:=A3 s F k hx h;exact⟨q1.ft,q2,λ_ _ _ _=>q1⟩
 case Compare a ops bs p=>
  let⟨q1,q2⟩:=AV s F k hx h;exact⟨q1,λ_=>q2,nofun⟩
 case Call f as kws p=>
  let⟨x,h1,rfl⟩:=f6 h;have q:=s.E F k hx h1;exact⟨vE g q λ_=>rfl,λ_=>uK g q,nofun⟩
 case Attribute o f p=>
  refine cZ h λh1 h2=>?_;let⟨x,h3,rfl⟩:=f6 h2;exact⟨vF g k.hK (s.E F k hx h3) λ_=>rfl,λz=>(by subst z;cases h1),nofun⟩
 case Name x p=>
  cases vl with
  |true=>
   let⟨x,h1,rfl⟩:=f6 h;have q:=s.E F k hx h1;exact⟨vE g q λ_=>rfl,λ_=>uK g q,nofun⟩
  |false=>
   let⟨x,h3,rfl⟩:=f6 h;exact⟨vF g k.hK (s.E F k hx h3) λ_=>rfl,λz=>(nomatch z),nofun⟩
set_option tactic.hygienic false
end
section
variable{P:Program}{w:World}{base:Heap}{B:Bs}{up:B4<|Str×Str}{G:D4}{lv n:Nat}{c:Ct}{X:Cx}{Ex:St->XK}
def sj(F:Fc P w base B up G lv c)(k:Cok P w base B lv c X)(h:(isB c x&&decide (x=y))=true):x=y/\Gl X y/\X.mg y=none:=by
 rw[xCh] at h;cases xBe h.2;let⟨h1,h2⟩:=eQ h.1;exact⟨rfl,k.gl h1,by rw[k.hM];exact F.bl h2⟩
variable(s:Snd P w base B up G lv n)(F:Fc P w base B up G lv c)(k:Cok P w base B lv c X)(hx:zAj (CXz X.prog X.w) X Ex)
include s F k hx
theorem Au{one:B'}{t:C9}{p q:Pos}(ht:one=false->∃ts k p,tg=Expr.Tuple ts k p)(ee:e=.Call (.Name x p) as [] q)(h:eIc (cps n) c one e x as=some t):FI X B G Ex tg e t:=by
 have g:=F.g;unfold eIc at h;split at h
 .next hb=>
  subst ee;let⟨rfl,hg,hm⟩:=sj F k hb;unfold eIr at h;split at h
  .erw[<-cZ h λh1 h2=>?_,<-dL h2 λz h3=>?_,<-yb g hg hm (s.E F k hx h3) h1]
  .cases h
 split at h
 .next hb=>
  subst ee;let⟨rfl,hg,hm⟩:=sj F k hb;unfold eIz at h;split at h
  .refine cZ h λh1 h2=>?_;rw[xCh,xCh] at h1;refine e9 h2 λz v h3 h4=>?_;let⟨ts,kk,pp,rfl⟩:=ht (by simpa using h1.1.1);exact Aw g k.hK hg hm (s.E F k hx h3) (s.E F k hx h4) h1.1.2 h1.2
  .cases h
 .refine dL h λz h3=>?_;exact vG g k.hK<|s.E F k hx h3
set_option tactic.hygienic true
theorem BB{one:B'}{t:C9}(ht:one=false->∃ts k p,tg=Expr.Tuple ts k p)(h:cpI c (n+1) one e=some t):FI X B G Ex tg e t:=by
 replace h:eI (cps n) c one e=some t:=h
 unfold eI at h;split at h
 .next z _=>exact Au s F k hx ht z.2 h
 .split at h
  .next z _=>
   let⟨⟨⟨x,a⟩,p,j,np,kp,q⟩,rfl⟩:=z;refine cZ h λh1 h2=>?_;rw[xCh,xCh] at h1;refine dL h2 λz h3=>?_;let⟨rfl,hg,hm⟩:=sj F k h1.1.1;let⟨ts,kk,pp,rfl⟩:=ht (by simpa using h1.1.2);exact yh F.g k.hK hg hm (s.E F k hx h3) h1.2
  .refine dL h λz h3=>?_;exact vG F.g k.hK<|s.E F k hx h3
set_option tactic.hygienic false
def ku(h:tg1 tg=false):∃ts k p,tg=Expr.Tuple ts k p:=by
 cases tg <;> first|exact⟨_,_,_,rfl⟩|cases h
def kR{v:B6}(h:zBb it=true):foldedSetIterable it env v=pure v:=by cases it <;> first|rfl|cases h
set_option tactic.hygienic true
theorem vy{m:B'}{elt:B8}{gens:B4 Comprehension}{sc:Scope}{p:Pos}{t:C9}(h:eE (cps n) c m (.ListComp elt gens sc p)=some t):FE X B G Ex (.ListComp elt gens sc p) t/\∀{i:Nat}{y:Str}{py spos:Pos},X.N.Nodup->X.N[i]?=some y->X.env.scope.names.lookup y=some .local->swapsWith (.ListComp elt gens sc p) (some<|.Name y py) spos.line X.env=pure true->FS X B G Ex (.Assign [.Name y py] (.ListComp elt gens sc p) spos) (sA i t):=by
 have g:=F.g
 replace h:=f6 h
 let⟨t0,h,rfl⟩:=h;unfold eLC at h;split at h
 .next z _=>
  let⟨⟨tg,it,ifs⟩,rfl⟩:=z;let⟨cs,⟨is,one⟩,ti,e1,e2,e3,h⟩:=qC h;let⟨te,e4,h⟩:=xCi.mp<|show Option.bind _ (eL2 c sc _ cs _ ti)=_ from h;refine cZ h λhg h2=>?_;cases h2;simp only[xCh,Bool.not_eq_true',List.isEmpty_iff] at hg;let⟨⟨⟨⟨hc,hok⟩,hns⟩,his⟩,rfl⟩:=hg;let⟨cl,cp⟩:=uY k hc hok e1;have ck:∀C s' H fp,Cok P w base B lv (cty c sc)<|zAm X (locs sc.names++frees sc.names) sc cl C s' H fp:=λ_ _ _ _=>rX k hok;have hE:∀C s' H fp,FE (zAm X (locs sc.names++frees sc.names) sc cl C s' H fp) B G (λ_ _ _ _=>False) elt te:=λC s' H fp=>s.E F.re (ck C s' H fp) zHa e4;have hT:=λC s' H fp=>lO (G:=G) (ck C s' H fp) e2;have h1:one=true->is.length=1:=(hT 0 X.s₀ X.H₀ []).2;have hi:∀kk∈is,kk<(locs sc.names).length:=λkk hk=>xCo<|xCx.mp his kk hk;have hI:FI X B G Ex tg it ti:=s.I F k hx (λz=>ku z) e3;exact BK g h1 hi k.calm cp hI (λC s' H fp=>(hT C s' H fp).1) hE (λv=>kR hns) (hE 0 X.s₀ X.H₀ []).m
 .cases h
theorem BT{m:B'}{t:C9}(h:cpE c (n+1) m e=some t):FE X B G Ex e t:=by
 have g:=F.g;have hK:=k.hK;have hu:X.A.units+1<cLine:=by have:=k.hr.un;lia
 replace h:eE (cps n) c m e=some t:=h
 cases e <;> try (cases h;done)
 case Name x p=>
  replace h:eV c x=some t:=h
  unfold eV at h;split at h
  .next i hi=>
   cases h;let⟨a,b,d⟩:=vN k hi;let⟨d1,d2,_⟩:=eJ d;exact f_v g a b d1 d2
  .split at h
   .next u hq=>
    cases h;let⟨q1,q2⟩:=jh hq;let⟨v,val,m1,r1,r2⟩:=F.con q2;exact f_c (iW (k.gl q1) (by rw[k.hM];exact m1) r1 (eJ<|fi q1).1) r2
   .cases h
 case Constant kk j p=>
  cases kk <;> cases h
  .exact f_c kO λ_=>rfl
  .exact f_c zC λ_=>rfl
  .exact f_c wO λ_=>rfl
  .exact f_c qc λ_=>rfl
 case BinOp a op b p=>
  refine oq h λpm x y h1 h2 h3=>?_;have ha:=s.E F k hx h2;have hb:=s.E F k hx h3;cases op <;> cases h1
  .exact oF g Aa (by rw[hK];exact zW) ha hb
  .exact oF g xc zF ha hb
  .exact oF g ug zK ha hb
  .exact oF g xg zL ha hb
  .exact oF g xf zH ha hb
  .exact oF g qy wY ha hb
 case UnaryOp op a p=>
  cases op <;> try (cases h;done)
  .refine dL h λx h1=>?_;let⟨q1,q2,_⟩:=s.T F k hx h1;exact rF g (q2 rfl) q1.m
  .refine dL h λx h1=>?_;exact BG g vO zJ<|s.E F k hx h1
 case BoolOp op vs p=>
  refine dL h λx h1=>?_;exact(s.T F k hx h1).2.1 rfl
 case Compare a ops bs p=>
  refine dL h λx h1=>?_;exact(s.T F k hx h1).2.1 rfl
 case IfExp q a b p=>
  refine oq h λx y z h1 h2 h3=>?_;exact BN g (s.T F k hx h1).1 (s.E F k hx h2)<|s.E F k hx h3
 case Tuple es kk p=>
  erw[<-cZ h λh1 h2=>?_,<-dL h2 λx h3=>?_,<-Az g (s.A F k hx h3).1<|xCo h1]
 case List es p=>
  refine dL h λx h3=>?_;exact AD g (s.A F k hx h3).1
 case Dict ks vs p=>
  by_cases hne:ks=[]/\vs=[]
  .let⟨rfl,rfl⟩:=hne;cases h;exact BQ g
  .replace h:eD (cps n) c ks vs=some t:=by cases ks <;> cases vs <;> first|exact h|exact(hne ⟨rfl,rfl⟩).elim
   unfold eD at h;split at h
   .next kk hk=>
    erw[<-cZ h λh1 h2=>?_,<-dL h2 λx h3=>?_];rw[xCh,xCh] at h1;have hl:=Nat.eq_of_beq_eq_true h1.2;let⟨k1,k2⟩:=jc hk;refine AH g (s.D F k hx h3 hk hl) h1.1.1 hl (k1.trans hl) k2 (λz=>?_)<|xCo h1.1.2;subst z;have:vs=[]:=by
     have:=k1.trans hl;exact List.eq_nil_of_length_eq_zero (by simpa using this.symm)
    exact hne ⟨rfl,this⟩
   .cases h
 case Subscript a b p=>
  replace h:eSb (cps n) c m a b=some t:=h
  unfold eSb at h;split at h
  .next z _=>
   let⟨⟨⟨lo,hi⟩,pz⟩,rfl⟩:=z;dsimp only at h;split at h
   .refine e9 h λx y h1 h2=>?_;exact AA g hK (s.E F k hx h1)<|s.E F k hx h2
   .refine e9 h λx y h1 h2=>?_;exact AB g hK (s.E F k hx h1)<|s.E F k hx h2
   .cases h
  .erw[<-cZ h λh1 h2=>?_,<-e9 h2 λx y h3 h4=>?_];exact BM g (Ba hu) (by rw[hK,k.hw];exact xP F.kdf) (s.E F k hx h3) (s.E F k hx h4)<|pV h1
 case Attribute o f p=>
  erw[<-cZ h λh1 h2=>?_,<-dL h2 λx h3=>?_];rw[xCh] at h1;let⟨y,hy,e⟩:=xCy.mp h1.2;cases xBe e;exact AG g hK F.clf hy (s.E F k hx h3) h1.1
 case Call f as kws p=>
  cases kws with
  |cons _ _=>cases h
  |nil=>
   refine cZ h λh1 h2=>?_;exact s.C F k hx h1 h2
 case ListComp elt gens sc p=>exact(vy s F k hx<|show eE (cps n) c m (.ListComp elt gens sc p)=some t from h).1
set_option tactic.hygienic false
omit s F k hx in
theorem ny{J:Type}{x:Str}{v:J}:∀{l:B4<|Str×J},zAv x l=some v->(x,v)∈l
 |(g,u)::r,h=>by
  unfold zAv at h;split at h
  .next e=>cases h;rw[e];exact xAr ..
  .exact xAs _<|ny h
set_option tactic.hygienic true
def uG{a:Str}{mu:C0}{ms:B4<|Str×Str×Nat×Nat}{r:Str×Nat×Nat}(h:zHh a mu ms=some r):(a,r)∈ms:=by
 unfold zHh at h;split at h
 .next p e=>
  cases h;have e2:=List.find?_some e;rw[xCh] at e2;have:=List.mem_of_find?_eq_some e;rw[<- xBe e2.1];exact this
 .exact ny h
theorem A8{m:B'}{a:B8}{p q r:Pos}{t:C9}(hb:isB c x=true)(e:a=.Call (.Name y q) as [] r)(hst:zAa a=true)(h:eB1 (cps n) c m x a y as=some t):FE X B G Ex (.Call (.Name x p) [a] [] pos) t:=by
 have fb:o2 (λp z=>cP p<|aC z aN) (zDy m x) ((cps n).E c false a)=some t->FE X B G Ex (.Call (.Name x p) [a] [] pos) t:=λh=>by
  refine e9 h λpm z h1 h2=>?_;exact sf F k h1 hb hst<|s.E F k hx h2
 let⟨a1,a2⟩:=eQ hb;unfold eB1 at h;split at h
 .next b=>
  split at h
  .next e1 e2=>
   clear fb;subst e;cases xBe e1;cases xBe e2;refine cZ h λh1 h2=>?_;rw[xCh] at h1;refine dL h2 λz h3=>?_;let⟨b1,b2⟩:=eQ h1.1;exact rG F.g k.calm (k.gl a1) (by rw[k.hM];exact F.bl a2) (k.gl b1) (by rw[k.hM];exact F.bl b2) (s.E F k hx h3) h1.2
  .exact fb h
 .next b d=>
  split at h
  .next e1 e2=>
   clear fb;subst e;cases xBe e1;cases xBe e2;refine cZ h λh1 h2=>?_;rw[xCh,xCh,xCh] at h1;refine e9 h2 λz w h3 h4=>?_;let⟨b1,b2⟩:=eQ h1.1.1.1;exact ye F.g k.calm (k.gl a1) (by rw[k.hM];exact F.bl a2) (k.gl b1) (by rw[k.hM];exact F.bl b2) (s.E F k hx h3) (s.E F k hx h4) h1.1.1.2 h1.1.2
  .exact fb h
 .exact fb h
set_option tactic.hygienic false
def sH{ty:String}(F:Fc P w base B up G lv c)(h:zGd y=some ty):zCh B ty/\bootBuiltins y=some (.type ty):=by
 unfold zGd at h;split at h
 .next e=>subst e;cases h;exact⟨F.k1,by decide +kernel⟩
 split at h
 .next e=>subst e;cases h;exact⟨F.k2,by decide +kernel⟩
 split at h
 .next e=>subst e;cases h;exact⟨F.k3,by decide +kernel⟩
 split at h
 .next e=>subst e;cases h;exact⟨F.k4,by decide +kernel⟩
 .cases h
set_option tactic.hygienic true
theorem A7{a b:B8}{p:Pos}{t:C9}(hb:isB c x=true)(ha:zAa a=true)(hbs:zAa b=true)(h:eB2 (cps n) c x a b=some t):FE X B G Ex (.Call (.Name x p) [a,b] [] pos) t:=by
 let⟨a1,a2⟩:=eQ hb;unfold eB2 at h;split at h
 .next e1=>
  cases xBe e1;have z1:X.mg "isinstance"=none:=by rw[k.hM];exact F.bl a2
  cases b <;> try (cases h;done)
  case Name y py=>
  replace h:(match zGd y with
   |some t=>gd (isB c y) (o1 (λz=>cP (.isT t)<|aC z aN)<|(cps n).E c false a)
   |none=>none)=some t:=h
  split at h
  .next ty et=>
   erw[<-cZ h λh1 h2=>?_,<-dL h2 λz h3=>?_];let⟨b1,b2⟩:=eQ h1;have z2:X.mg y=none:=by rw[k.hM];exact F.bl b2
   let⟨n1,_,n2⟩:=eJ<|fi b1;let⟨k1,k2⟩:=sH F et;exact AE F.g k.hK F.clt k1 (k.gl a1) z1 (k.gl b1) z2 k2 n2 n1 (s.E F k hx h3) ha
  .cases h
 .refine oq h λpm z v h1 h2 h3=>?_;exact yK F k h1 hb ha hbs (s.E F k hx h2)<|s.E F k hx h3
theorem B0{m:B'}{p:Pos}{t:C9}(hb:isB c x=true)(hst:as.all zAa=true)(h:eB (cps n) c m x as=some t):FE X B G Ex (.Call (.Name x p) as [] pos) t:=by
 cases as with
 |nil=>cases h
 |cons a q=>
  rw[xCj,xCh] at hst;cases q with
  |nil=>
   replace h:(match zEf a with
    |some z=>eB1 (cps n) c m x a z.1.1.1 z.1.1.2
    |none=>o2 (λp z=>cP p<|aC z aN) (zDy m x)<|(cps n).E c false a)=some t:=h
   split at h
   .next z _=>exact A8 s F k hx hb z.2 hst.1 h
   .refine e9 h λpm z h1 h2=>?_;exact sf F k h1 hb hst.1<|s.E F k hx h2
  |cons b q=>cases q with
   |cons _ _=>cases h
   |nil=>exact A7 s F k hx hb hst.1 (xCh _ _▸hst.2).1 h
theorem Bv{m:B'}{p:Pos}{t:C9}(hst:as.all zAa=true)(h:eN (cps n) c m x as=some t):FE X B G Ex (.Call (.Name x p) as [] pos) t:=by
 have g:=F.g;have hK:=k.hK;have hr:zBd lv X.A:=k.hr.mono<|Nat.le_succ _;unfold eN at h;split at h
 .next i np df mp e=>
  let⟨q1,q2⟩:=jh e;refine e9 h λa d h1 h2=>?_;let⟨f,fd,ps,m1,kp,FO,hd⟩:=F.fn q2;let⟨e1,dvs,dv,b1,b2,b3⟩:=hd h2;let⟨A1,A2,_⟩:=s.A F k hx h1;exact yj g (k.f FO) hr (k.gl q1) (by rw[k.hM];exact m1) (by rw[hK];exact kp) (by rw[hK];exact b1) b2 b3 hx (eJ<|fi q1).1 A1 A2 e1 hst
 .next i np df e=>
  let⟨q1,q2⟩:=jh e;erw[<-cZ h λ_ h=>?_,<-e9 h λa d h1 h2=>?_];let⟨cc,f,fd,ps,c1,m1,mk,FO,hd,_,_⟩:=F.cl q2;let⟨e1,dvs,dv,b1,b2,b3⟩:=hd h2;let⟨A1,A2,_⟩:=s.A F k hx h1;exact yd g c1 (by rw[hK];exact mk) (k.f FO) k.hr (k.gl q1) (by rw[k.hM];exact m1) (by rw[hK];exact b1) b2 b3 (eJ<|fi q1).1 A1 A2 e1 hst
 .cases h
 .refine cZ h λhb h=>?_;exact B0 s F k hx hb hst h
theorem BC{a:Str}{p:Pos}{t:C9}(hst:as.all zAa=true)(hl:(apos.endLine==pos.line)=true)(h:eG (cps n) c (.Name y p) a as=some t):FE X B G Ex (.Call (.Attribute (.Name y p) a apos) as [] pos) t:=by
 have g:=F.g;have hK:=k.hK
 replace h:(match glo c y with
  |some (.con<|.kd kvs no)=>gd (decide<|a="get") (eK (cps n) c kvs no as)
  |_=>(cps n).M c (.Name y p) a as)=some t:=h
 split at h
 .next kvs no e=>
  refine cZ h λh2 h=>?_;cases xBe h2;let⟨q1,q2⟩:=jh e;let⟨v,val,m1,r1,r2⟩:=F.con q2;let⟨pp,rfl,hd⟩:=r2 ⟨λ_=>none,[],[]⟩;rw[show val=.ref pp from r1] at m1;have kf:KdF X.w B:=by rw[k.hw];exact F.kdf
  have hm:X.mg y=some (.ref pp):=by rw[k.hM];exact m1
  have ok:=(eJ<|fi q1).1;unfold eK at h;split at h
  .rw[xCj,xCh] at hst;refine dL h λz h3=>?_;exact yg g hK kf hd (k.gl q1) hm ok (s.E F k hx h3) hst.1 hl
  .rw[xCj,xCh,xCj,xCh] at hst;refine e9 h λz v h3 h4=>?_;exact yf g hK kf hd (k.gl q1) hm ok (s.E F k hx h3) (s.E F k hx h4) hst.1 hst.2.1 hl
  .cases h
 .exact s.M F k hx hst hl h
theorem BW{m:B'}{f:B8}{t:C9}(hst:as.all zAa=true)(h:cpC c (n+1) m f as pos=some t):FE X B G Ex (.Call f as [] pos) t:=by
 replace h:eC (cps n) c m f as pos=some t:=h
 cases f <;> try (cases h;done)
 case Name x p=>exact Bv s F k hx hst h
 case Attribute o a apos=>
  have hK:=k.hK;refine cZ h λh1 h=>?_;rw[xCh] at h1;unfold eAt at h;split at h
  .next C i np e=>
   erw[<-cZ h λh2 h=>?_,<-oq h λz v d h3 h4 h5=>?_];let⟨rfl,e1⟩:=zF1 h5;let⟨cc,f,fd,ps,u1,cls,meth,FO,bd⟩:=F.ms<|uG e;let⟨A1,A2,_⟩:=s.A F k hx h4;exact yc F.g u1 (by rw[hK];exact cls) (by rw[hK];exact meth) (k.f FO) (k.hr.mono<|Nat.le_succ _) (by rw[hK];exact bd) .nil (λ_=>rfl) hx (s.E F k hx h3) A1 A2 e1 hst<|uw (u6 h2) hst (xCo h1.2) h1.1
  .by_cases hn:∃y p,o=.Name y p
   .let⟨y,p,rfl⟩:=hn;exact BC s F k hx hst h1.1 h
   .exact s.M F k hx hst h1.1 (by cases o <;> first|exact h|exact(hn ⟨_,_,rfl⟩).elim)
set_option tactic.hygienic false
omit s F k hx in
theorem snd:∀n,Snd P w base B up G lv n
 |0=>zJo
 |n+1=>⟨λF k x=>BT (snd n) F k x,λF k x=>BW (snd n) F k x,λF k x=>Bw (snd n) F k x,λF k x=>B1 (snd n) F k x,λF k x=>BU (snd n) F k x,λF k x=>Bc (snd n) F k x,λF k x=>BB (snd n) F k x⟩
end
structure zGp(P:Program)(w:World)(base:Heap)(B:Bs)(up:B4 (Str×Str))(G:D4)(lv n:Nat):Prop where
 S:∀{c X Ex s t},Fc P w base B up G lv c->Cok P w base B lv c X->zGb X Ex->cpS c n s=some t->FS X B G Ex s t
 L:∀{c X Ex s t},Fc P w base B up G lv c->Cok P w base B lv c X->zGb X Ex->zF2 c n s=some t->FSs X B G Ex s t
section
variable{P:Program}{w:World}{base:Heap}{B:Bs}{up:B4<|Str×Str}{G:D4}{lv n:Nat}{c:Ct}{X:Cx}{Ex:St->XK}
theorem Cok.lp(k:Cok P w base B lv c X):Cok P w base B lv c X.lp:=⟨k.hP,k.hw,k.hK,k.hM,k.hb,k.N,k.nd,k.vis,k.loc,k.lc,k.gl,k.calm,k.hr,k.bk,k.cap⟩
def jV(h:zDc e=true):zAa e=true:=by cases e <;> first|rfl|cases h
def vV{one:B'}(h:zEn c tg=some (is,one)):one=true->is.length=1:=by
 cases tg <;> try (cases h;done)
 .let⟨i,h1,e⟩:=f6<|show o1 _ _=_ from h;cases e;exact λ_=>rfl
 .let⟨i,h1,e⟩:=f6<|show o1 _ _=_ from h;cases e;exact nofun
def lV(g:zBu up G):FS X B G Ex st sZ:=⟨λ_ _ _ _ _ _ ⟨_,_,_,_,_,h⟩=>(g.no h).elim,⟨λ_ h=>(g.no h).elim⟩⟩
set_option tactic.hygienic true
def uH{i:Nat}(h:zIv c e=some i):∃x p,e=.Name x p/\vIx c x=some i:=by
 cases e <;> try (cases h;done)
 next x p=>
 change(if _ then vIx c x else none)=_ at h;split at h
 .exact⟨x,p,rfl,h⟩
 .cases h
set_option tactic.hygienic false
def Bb{p:Pos}{i:Nat}(F:Fc P w base B up G lv c)(k:Cok P w base B lv c X)(h:vIx c x=some i)(hx:zAj (CXz X.prog X.w) X Ex):FE X B G Ex (.Name x p)<|cV i:=(snd 1).E (m:=false) F k hx (by show(match vIx c x with|some i=>some (cV i)|none=>_)=_;rw[h])
set_option tactic.hygienic true
theorem xF{m:B'}{t:C9}{i:Nat}(F:Fc P w base B up G lv c)(k:Cok P w base B lv c X)(hx:zAj (CXz X.prog X.w) X Ex)(hn:zA5 e=false)(h:cpE c n m e=some t)(a1:X.N[i]?=some y)(a2:Loc X.env.scope y)(a3:X.fn y=true\/X.env.scope.names.lookup y=some .local):FS X B G Ex (.Assign [.Name y py] e spos)<|sA i t:=by
 cases n with
 |zero=>cases h
 |succ n=>
  cases e <;> try (cases hn;done)
  .next elt gens sc p=>
   let⟨q1,q2⟩:=vy (snd n) F k hx<|show eE (cps n) c m (.ListComp elt gens sc p)=some t from h;have hs:swapsWith (.ListComp elt gens sc p) (some<|.Name y py) spos.line X.env=pure (X.env.blockKind==ScopeKind.function&&X.env.kindOf y==some NameKind.local&&py.line==p.line&&!sc.names.any λq=>q.1==y&&(q.2==NameKind.local||q.2==NameKind.cell)):=rfl;cases hb:(X.env.blockKind==ScopeKind.function&&X.env.kindOf y==some NameKind.local&&py.line==p.line&&!sc.names.any λq=>q.1==y&&(q.2==NameKind.local||q.2==NameKind.cell)) with
   |false=>exact pC F.g q1 k.nd a1 a2 (hs.trans<|by rw[hb]) a3
   |true=>
    refine q2 k.nd a1 ?_ (hs.trans<|by rw[hb]);simp only[xCh] at hb;exact eq_of_beq hb.1.1.2
  .cases h
  .cases h
set_option tactic.hygienic false
def xU(h:zHf e=true):∃p,e=.Dict [] [] p:=by
 unfold zHf at h;split at h
 .exact⟨_,rfl⟩
 .cases h
def qV{o:B5 NameKind}(h:zGk o=true):o=some .local:=by
 unfold zGk at h;split at h
 .rfl
 .cases h
def wR{pt pp:Pos}{ea eb:B8}{i kt kk:Nat}{a b:C9}(g:zBu up G)(F:Fc P w base B up G lv c)(k:Cok P w base B lv c X)(h:zHb c x y px py ea eb=true)(e1:lIx c x=some i)(e2:lIx c y=some j)(ha:FE X B G Ex ea a)(hb:FE X B G Ex eb b):FS X B G Ex (.Assign [.Tuple [.Name x px,.Name y py] kt pt] (.Tuple [ea,eb] kk pp) spos)<|sPr i j a b:=by
 unfold zHb at h;simp only[xCh] at h;let⟨⟨⟨⟨⟨⟨⟨⟨h1,h2⟩,h3⟩,h4⟩,h5⟩,h6⟩,h7⟩,h8⟩,h9⟩:=h;have hxy:x≠y:=by simpa using h2
 have lx:=k.lc<|qV h3;have ly:=k.lc<|qV h4;let⟨a1,a2,_⟩:=fP k e1;let⟨b1,b2,_⟩:=fP k e2;erw[Bd g k.calm k.nd a1 b1 (λz=>hxy<|by rw[z,b1] at a1;cases a1;rfl) lx ly ha hb h6 h7];have hl:py.line=px.line:=eq_of_beq h5;have he:([x,y]:C0).eraseDups.length=2:=by
  have:(y==x)=false:=beq_eq_false_iff_ne.mpr<|Ne.symm hxy;simp[List.eraseDups,List.eraseDupsBy,List.eraseDupsBy.loop,this]
 have hf:(foldedForSure 8 ea&&foldedForSure 8 eb)=false:=by rw[Bool.not_eq_true'] at h8;exact h8
 have hk:(constantsAlone 8 ea&&constantsAlone 8 eb)=false:=by rw[Bool.not_eq_true'] at h9;exact h9
 unfold swappedStores;dsimp only;have hb2:=k.bk (by simpa using h1);rw[xCf<|by rw[hb2];simp];rw[xCf (λhh=>by
  simp only[List.any_cons,List.any_nil,Bool.or_false,Bool.or_eq_true] at hh;rcases hh with hh|hh
  .clear hf hk h8 h9 ha;cases ea <;> first|(cases h6;done)|(cases hh;done)
  .clear hf hk h8 h9 hb;cases eb <;> first|(cases h7;done)|(cases hh;done))]
 simp only[List.filterMap_cons,List.filterMap_nil,List.head?_cons,Option.map_some,Option.getD_some,show(Expr.Name x px).pos=px from rfl,show(Expr.Name y py).pos=py from rfl,lx,ly,hl,beq_self_eq_true,Bool.and_self,if_true,xCg];rw[xCf (by rw[he];simp),xCf (by rw[xCj,xCj,List.all_nil,Bool.and_true,hf];decide),xCf<|by rw[xCj,xCj,List.all_nil,Bool.and_true,hk];decide]
set_option tactic.hygienic true
def x9{b:B4 Stmt}{p:Pos}(s:zGp P w base B up G lv n)(F:Fc P w base B up G lv c)(k:Cok P w base B lv c X)(hx:zAj (CXz X.prog X.w) X Ex)(h:zHl n (cpt n) c tg it b=some t):FS X B G Ex (.For tg it b [] p) t:=by
 unfold zHl at h;split at h
 .next is one e=>
  refine cZ h λh1 h=>?_;rw[xCh] at h1;refine e9 h λx y h2 h3=>?_;exact zj F.g (vV e) k.calm ((snd n).I F k hx (λz=>ku z) h2) (lO k.lp e).1 (s.L F k.lp catz h3) λv=>kR h1.1
 .unfold zFz at h;split at h
  .next z _=>
   let⟨⟨a,b',kk,pt⟩,rfl⟩:=z;let⟨⟨is,i1⟩,⟨js,j1⟩,x,e1,e2,h2,h⟩:=qC h;refine cZ h λh1 h=>?_;simp only[xCh,Bool.not_eq_true'] at h1;let⟨⟨⟨⟨rfl,rfl⟩,q1⟩,q2⟩,q3⟩:=h1;refine dL h λy h3=>?_;exact wa F.g k.hK k.calm ((snd n).I F k hx (λz=>ku z) h2) (lO k.lp e1).1 (lO k.lp e2).1 (jV q2) (jV q3) (s.L F k.lp catz h3) λv=>kR q1
  .cases h
set_option tactic.hygienic false
def Ac{p:Pos}(F:Fc P w base B up G lv c)(k:Cok P w base B lv c X)(hx:zAj (CXz X.prog X.w) X Ex)(h:eNm n c x e=some t):FS X B G Ex (.Assign [.Name x px] e p) t:=by
 unfold eNm at h;split at h
 .next hd=>
  rw[xCh] at hd;refine dL h λi h1=>?_;let⟨a1,a2,a3⟩:=fP k h1;let⟨pd,rfl⟩:=xU hd.1;exact pC F.g (BR F.g) k.nd a1 a2 (eY rfl) a3
 .refine e9 h λi y h1 h2=>?_;let⟨a1,a2,a3⟩:=fP k h1;cases hn:zA5 e with
  |true=>exact pC F.g ((snd n).E F k hx h2) k.nd a1 a2 (eY hn) a3
  |false=>exact xF F k hx hn h2 a1 a2 a3
set_option tactic.hygienic true
def yZ{es:B4 B8}{p:Pos}(F:Fc P w base B up G lv c)(k:Cok P w base B lv c X)(hx:zAj (CXz X.prog X.w) X Ex)(hc:zA5 e=true)(h:eTu n c es e=some t):FS X B G Ex (.Assign [.Tuple es j px] e p) t:=by
 unfold eTu at h;split at h
 .next h1=>
  refine e9 h λis y h2 h3=>?_;let⟨a1,a2⟩:=gM k h2;exact zh F.g k.hK k.calm k.nd ((snd n).E F k hx h3) a2 a1 (by unfold swapsWithSole;exact eY hc) (by cases e <;> first|rfl|cases h1)
 .unfold ePr at h;split at h
  .next z w _ _=>
   let⟨⟨x,px,y,py⟩,rfl⟩:=z;let⟨⟨a,b,kk,pp⟩,rfl⟩:=w;refine cZ h λh1 h=>?_;let⟨i1,j1,ta,e1,e2,e3,h⟩:=qC h;refine dL h λtb e4=>?_;exact wR F.g F k h1 e1 e2 ((snd n).E F k hx e3)<|(snd n).E F k hx e4
  .cases h
def yO{p:Pos}(F:Fc P w base B up G lv c)(k:Cok P w base B lv c X)(hx:zAj (CXz X.prog X.w) X Ex)(hc:(zA5 e||zIt tg)=true)(h:zIw n c tg e=some t):FS X B G Ex (.Assign [tg] e p) t:=by
 have hu:X.A.units+1<cLine:=by have:=k.hr.un;lia
 cases tg <;> try (cases h;done)
 case Name x px=>exact Ac F k hx h
 all_goals replace hc:zA5 e=true:=(Bool.or_false _).symm.trans hc
 case Tuple es j pt=>exact yZ F k hx hc h
 case Attribute o f po=>
  erw[<-cZ h λh1 h=>?_,<-e9 h λx y h2 h3=>?_];let⟨f',hy,ee⟩:=xCy.mp h1;cases xBe ee;exact zk F.g k.hK F.clf hy ((snd n).E F k hx h2) ((snd n).E F k hx h3) hc
 case Subscript o i po=>
  erw[<-cZ h λh1 h=>?_,<-oq h λx y z h2 h3 h4=>?_,<-v7 F.g hu ((snd n).E F k hx h2) ((snd n).E F k hx h3) ((snd n).E F k hx h4) h1 hc]
def Be(s:zGp P w base B up G lv n)(F:Fc P w base B up G lv c)(k:Cok P w base B lv c X)(ca:zGb X Ex)(h:cpS c (n+1) st=some t):FS X B G Ex st t:=by
 replace h:eS n (cpt n) c st=some t:=h
 cases st <;> try (cases h;done)
 case Pass p=>cases h;exact v6 F.g
 case Expr e p=>
  erw[<-cZ h λh1 h=>?_,<-dL h λx h2=>?_,<-Bh F.g ((snd n).E F k ca.pass h2) h1]
 case Return e p=>
  cases e with
  |none=>cases h
  |some e=>
   replace h:zHk n c e=some t:=h
   unfold zHk at h;split at h
   .next i hi=>
    cases h;let⟨x,q,rfl,hv⟩:=uH hi;exact vi F.g<|AF F.g<|Bb F k hv ca.pass
   .refine dL h λx h2=>?_;exact vi F.g<|(snd n).E F k ca.pass h2
 case If q a b p=>
  refine oq h λx y z h1 h2 h3=>?_;exact Bg F.g ((snd n).T F k ca.pass h1).1 (s.L F k ca h2)<|s.L F k ca h3
 case While q b orelse p=>
  cases orelse with
  |cons _ _=>cases h
  |nil=>
   refine e9 h λx y h1 h2=>?_;exact sY F.g ((snd n).T F k.lp catz.pass h1).1<|s.L F k.lp catz h2
 case For tg it b orelse p=>
  cases orelse with
  |cons _ _=>cases h
  |nil=>exact x9 s F k ca.pass h
 case Assign tgs e p=>
  cases tgs with
  |nil=>cases h
  |cons tg q=>cases q with
   |cons _ _=>cases h
   |nil=>
    refine cZ h λhc h=>?_;exact yO F k ca.pass hc h
 case Raise e cau p=>
  cases h;exact lV F.g
def zc{st:B4 Stmt}(s:zGp P w base B up G lv n)(F:Fc P w base B up G lv c)(k:Cok P w base B lv c X)(ca:zGb X Ex)(h:zF2 c (n+1) st=some t):FSs X B G Ex st t:=by
 change eL (cpt n) _ _=_ at h;unfold eL at h;split at h
 .cases h;exact zi F.g
 .next a r=>
  refine e9 h λx y h1 h2=>?_;cases h1;refine wb F.g ?_<|s.L F k ca h2;cases e:(cpt n).S c a with
  |none=>exact lV F.g
  |some z=>exact s.S F k ca e
set_option tactic.hygienic false
theorem zG1:∀n,zGp P w base B up G lv n
 |0=>⟨(λ_ _ _ h=>nomatch (show none=some _ from h)),(λ_ _ _ h=>nomatch (show none=some _ from h))⟩
 |n+1=>⟨Be<|zG1 n,zc<|zG1 n⟩
end
structure De where
 np:Nat
 n:Nat
 t:C8
def zAo(x:D3)(k:D0):Ee Prop:={nx:=λ_ S=>k .non S,rt:=k,bk:=λ_ _=>False,ct:=λ_ _=>False,x:=λe _ S=>x e S}
noncomputable def stU(n:Nat)(vs:C3):Sg:=vs.map some++List.replicate (n-vs.length) none
def zF8(up:B4<|Str×Str)(fw:Nat)(call:Nat->C3->So->D3->D0->Prop):D4:={fail:=False,fuel:=fw,prim:=λp vs S x k=>Box<|prP up p vs S k,call:=call,br:=λb p q=>Box<|if b=true then p ⟨⟩ else q ⟨⟩}
structure zEl(tab:Nat->B5 De)(G:D4)(i:Nat)(vs:C3)(S:So)(x:D3)(k:D0):Prop where
 ex:∃(x':D3) (k':D0) (de:De),(∀e S,x' e S->x e S)/\(∀v S,k' v S->k v S)/\tab i=some de/\vs.length=de.np/\de.t G (stU de.n vs) S (zAo x' k')
def zA1(up:B4<|Str×Str)(tab:Nat->B5 De)(fw:Nat):Nat->D4
 |0=>zF8 up fw λ_ _ _ _ _=>False
 |d+1=>zF8 up fw<|zEl tab<|zA1 up tab fw d
theorem zFp{up:B4<|Str×Str}{tab:Nat->B5 De}:∀d,zBu up (zA1 up tab fw d)
 |0=>⟨rfl,λ_ _ _ _ _=>rfl,λ_ _ _=>rfl,λ_ _ h=>h⟩
 |d+1=>⟨rfl,λ_ _ _ _ _=>rfl,λ_ _ _=>rfl,λhx hk ⟨x',k',de,h1,h2,h3⟩=>⟨x',k',de,λe S z=>hx e S<|h1 e S z,λv S z=>hk v S<|h2 v S z,h3⟩⟩
def zHo{up:B4<|Str×Str}{tab:Nat->B5 De}{d i:Nat}{x:D3}{k:D0}{de:De}(e:tab i=some de)(hl:vs.length=de.np)(h:de.t (zA1 up tab fw d) (stU de.n vs) S<|zAo x k):(zA1 up tab fw<|d+1).call i vs S x k:=
 zEl.mk ⟨x,k,de,λ_ _ z=>z,λ_ _ z=>z,e,hl,h⟩
structure zCo(K:xFr)(x qual:Str)(st:Stmt)(f:B9)(fd:FuncData):Prop where
 ex:∃(oc:B6) (od:B5 B9) (dv kV doc pm:B6) (an:B5 B9) (cdv ct:B6) (osl:Array (B5 B6)),
  fd=PySem.W.fnOf x qual (zAt st) (zAl st) (zAd st) dv kV doc pm an cdv ct/\K.lookup f=some ⟨oc,od,.func fd,osl⟩/\PySem.W.codeIn K cdv qual=true
section
variable{P:Program}{w:World}{B:Bs}{base:Heap}{up:B4<|Str×Str}{tab:Nat->B5 De}{fw d i fu:Nat}{c:Ct}{x qual:Str}{st:Stmt}{f:B9}{fd:FuncData}{N ps:C0}{de:De}
def zCo.okX{K:xFr}{mg:Str->B5 B6}{k:Nat}{sp:Sp}(F:zCo K x qual st f fd)(S:zBi N ps<|zAd st)(len:∀vs H Q E,sp vs H Q E->vs.length=ps.length)(hbody:∀(cdv:B6)(A:Around)(outer:B4 Env)(s:B7)(H:Hp)(vs:B4 V)(Q:VK)(E:XK),zBd k (A.deeper<|envOfC qual (zAd st) s.heap.objs.size f cdv)->sp vs H Q E ->
   ∃t,PSs (zEe (CXz P w) P w K mg base N qual (zAd st) f cdv A outer s H E) (zAl st) t/\t {nx:=λ_ H'=>Q .non H',rt:=Q} (start N vs) H):zBc P w K mg base (CXz P w) (k+1) f fd ps sp:=by
 let⟨oc,od,dv,kV,doc,pm,an,cdv,ct,osl,rfl,lk,hcd⟩:=F.ex;exact Av lk hcd S len λA outer s H vs Q E hr hsp=>hbody cdv A outer s H vs Q E hr hsp
theorem jL:∀{l:C3}{n i:Nat}{v:U},nth (l.map some++List.replicate n none) i=some v->l[i]?=some v
 |[],n,i,v,h=>by
  exfalso;rw[List.map_nil,xC6] at h;revert h;induction n generalizing i with
  |zero=>intro h;cases h
  |succ n ih=>
   cases i with
   |zero=>intro h;cases h
   |succ i=>exact ih (i:=i)
 |u::l,n,0,v,h=>h
 |u::l,n,i+1,v,h=>by simpa using jL (l:=l) (n:=n) (i:=i) h
def pc{W:Wd}{us:C3}{vs:B4 V}(r:Rvs B W us vs):Rg B W (stU N.length us)<|start N vs:=by
 have hl:=r.length;refine⟨?_,λi v h=>?_⟩
 .unfold stU L2.start;rw[xAb,xAb,xAa,xAa,xCu,xCu,hl]
 .let⟨u,e,ru⟩:=r.get<|jL h;refine⟨u,?_,ru⟩;unfold L2.start;have hi:i<vs.length:=(xAq.mp e).1;rw[List.getElem?_append_left (by simpa using hi),xAw,e];rfl
def uI(F:zCo B.K x qual st f fd)(S:zBi N ps<|zAd st)(hN:c.N=N)(hsc:c.sc=(zAd st).names)(ht:tab i=some de)(hnp:de.np=ps.length)(hn:de.n=N.length)(cp:zF2 c fu (zAl st)=some de.t)(FC:Fc P w base B up (zA1 up tab fw d) (2*d+1) c) :
  zBc P w B.K B.mg base (CXz P w) (2*(d+1)+1) f fd ps (spF B (zA1 up tab fw<|d+1) i de.np):=by
 refine zCo.okX (k:=2*d+2) F S (λvs H Q E h=>by rw[h.1,hnp]) λcdv A outer s H vs Q E hr hsp=>?_;let⟨hl,W,us,S0,rs,rv,hc⟩:=hsp;let⟨x',k',de',hx,hk,e,hl',body⟩:=zEl.ex hc;rw[ht] at e;cases e;have ck:Cok P w base B (2*d+1) c<|zEe (CXz P w) P w B.K B.mg base N qual (zAd st) f cdv A outer s H E:=by
  refine⟨rfl,rfl,rfl,rfl,rfl,hN.symm,S.nd,λ{x} h=>?_,λ{x} h=>?_,λ{x} h=>?_,λ{x} h=>?_,rfl,hr,λ_=>(by show(if(zAd st).kind.isAnnotationScope then ScopeKind.function else(zAd st).kind)=_;rw[S.kind];rfl),λ_ {x} h=>?_⟩
  .unfold isV at h;rw[cw,hsc] at h;split at h <;> first|cases h;done|skip
   .next e=>exact .inl e
   .next e=>exact .inr (.inl e)
   .next e=>exact .inr (.inr e)
  .unfold isL at h;rw[cw,hsc] at h;split at h <;> first|cases h;done|skip
   .next e=>exact⟨.inl e,.inl rfl⟩
   .next e=>exact⟨.inr e,.inl rfl⟩
  .rw[cw,hsc] at h;exact h
  .unfold isG at h;rw[xCh,cw,hsc] at h;have h4:=h.1;split at h4
   .next e=>exact e
   .cases h4
  .rw[cw,hsc] at h;exact⟨h,hV h⟩
 have fs:=(zG1 fu).L FC ck (catz (Ex:=λ_=>E)) cp;refine⟨_,fs.p,W,stU N.length us,S0,rs,pc rv,?_⟩;rw[hn] at body;refine fs.m.m (E:=zAo x' k') ⟨λO S1 z=>?_,λv S1 z=>hk v S1 z,λ_ _ z=>False.elim z,λ_ _ z=>False.elim z,λe O S1 z=>?_⟩ body
 .exact λW' τ H' le rs' rg=>hk _ _ z W' .non H' le rs' rfl
 .exact λW' τ C dx H' le rx rg=>hx _ _ z W' C dx H' le rx
end
structure Row where
 x:Str
 qual:Str
 i:Nat
 st:Stmt
 ps:C0
 N:C0
 mu:C0
 t:C8
structure Tb where
 gl:B4 (Str×Gd)
 ms:B4 (Str×Str×Nat×Nat)
 fl:C0
 bl:C0
 ini:C0
 isc:C0
def Tb.ct(b:Tb)(N mu:C0)(st:Stmt):Ct:=⟨N,(zAd st).names,b.gl,b.ms,mu,b.fl,b.bl,b.ini,b.isc,false⟩
noncomputable def zFc:B4 Row->Nat->B5 De
 |[],_=>none
 |r::l,i=>match Nat.beq r.i i with
  |true=>some ⟨r.ps.length,r.N.length,r.t⟩
  |false=>zFc l i
structure zEt(b:Tb)(tab:Nat->B5 De)(r:Row):Prop where
 S:zBi r.N r.ps (zAd r.st)
 cp:∃fu,zF2 (b.ct r.N r.mu r.st) fu (zAl r.st)=some r.t
 ta:tab r.i=some ⟨r.ps.length,r.N.length,r.t⟩
def Dfl(B:Bs)(fd:FuncData)(ps:C0)(np:Nat)(df:C3):Prop:=∀{n ds},dflt np n df=some ds->n+ds.length=np/\∃dvs dv,zAy B.K fd ps dv/\zAh dvs dv/\∀W,Rvs B W ds dvs
structure Pf(P:Program)(w:World)(base:Heap)(B:Bs)(up:B4 (Str×Str))(b:Tb)(rows:B4 Row):Prop where
 fn:∀{x i np df mp},zAv x b.gl=some (.fn i np df mp)->∃r f fd,r∈rows/\r.i=i/\r.ps.length=np/\B.mg x=some (.ref f)/\PySem.W.keepIn B.K (.ref f)=true/\zCo B.K r.x r.qual r.st f fd/\Dfl B fd r.ps np df
 cl:∀{x i np df},zAv x b.gl=some (.cl i np df)->∃r cc f fd,r∈rows/\r.i=i/\r.ps.length=np/\B.cl x cc/\B.mg x=some (.ref cc)/\Mk B.K cc f/\zCo B.K r.x r.qual r.st f fd/\Dfl B fd r.ps np df/\(x∈b.isc->zGr B up x cc) /\
  (x∈b.ini->zAy B.K fd r.ps []/\∃mc,PySem.W.specialIn B.K (.ref cc) "__getattribute__"=some (some (.builtin "type.__getattribute__"))/\PySem.W.readsIn B.K cc mc=true/\PySem.W.findCls B.K (.ref cc) mc "__init__"=some (.val (.ref f))/\PySem.W.handedIn (.ref f)=true/\PySem.W.keepIn B.K (.ref f)=true)
 ms:∀{m C i np},(m,C,i,np)∈b.ms->∃r cc f fd,r∈rows/\r.i=i/\r.ps.length=np/\(∀c',B.cl C c'->c'=cc)/\Cls B.K cc/\zEj B.K cc m f/\zCo B.K r.x r.qual r.st f fd/\zAy B.K fd r.ps []
 con:∀{x u},zAv x b.gl=some (.con u)->∃v val,B.mg x=some val/\zAi v val/\∀W,Rv B W u v
 bl:∀{x},x∈b.bl->B.mg x=none
 k1:zCh B "int"
 k2:zCh B "bool"
 k3:zCh B "str"
 k4:zCh B "tuple"
 clf:ClF B b.fl
 clt:ClT B
 kdf:KdF w B
section
variable{P:Program}{w:World}{base:Heap}{B:Bs}{up:B4<|Str×Str}{b:Tb}{rows:B4 Row}{tab:Nat->B5 De}{fw:Nat}
def zB4(rc:∀r∈rows,zEt b tab r)(hr:r∈rows){f:B9}(F:zCo B.K r.x r.qual r.st f fd):∀d,(∀N mu st,Fc P w base B up (zA1 up tab fw d) (2*d+1)<|b.ct N mu st)->zBc P w B.K B.mg base (CXz P w) (2*(d+1)+1) f fd r.ps (spF B (zA1 up tab fw<|d+1) r.i r.ps.length):=λd h=>
 let ⟨S,⟨_,cp⟩,ta⟩:=rc r hr
 uI (c:=b.ct r.N r.mu r.st) F S rfl rfl ta rfl rfl cp (h _ _ _)
def zl{f:B9}:zBc P w B.K B.mg base (CXz P w) (2*0+1) f fd r.ps<|spF B (zA1 up tab fw 0) r.i r.ps.length:=
 ⟨λ_ _ _ _ h=>h.1,λ_ _ _ _ _ _ _ _ _ _ _ _ _ h=>by let⟨_,_,_,_,_,_,h⟩:=h;exact False.elim h⟩
def vD(p:Pf P w base B up b rows)(rc:∀r∈rows,zEt b tab r)(d:Nat)(ok:∀{r:Row}{f:B9}{fd:FuncData},r∈rows->zCo B.K r.x r.qual r.st f fd->zBc P w B.K B.mg base (CXz P w) (2*d+1) f fd r.ps (spF B (zA1 up tab fw d) r.i r.ps.length))(N mu:C0)(st:Stmt):Fc P w base B up (zA1 up tab fw d) (2*d+1) (b.ct N mu st) where
 g:=zFp d
 fn:=λh=>by
  let⟨r,f,fd,hr,rfl,rfl,h1,h2,F,hd⟩:=p.fn h;exact⟨f,fd,r.ps,h1,h2,ok hr F,hd⟩
 cl:=λh=>by
  let⟨r,cc,f,fd,hr,rfl,rfl,h1,h2,h3,F,hd,h4,h5⟩:=p.cl h;exact⟨cc,f,fd,r.ps,h1,h2,h3,ok hr F,hd,h4,h5⟩
 ms:=λh=>by
  let⟨r,cc,f,fd,hr,rfl,rfl,h1,h2,h3,F,hd⟩:=p.ms h;exact⟨cc,f,fd,r.ps,h1,h2,h3,ok hr F,hd⟩
 con:=p.con
 bl:=p.bl
 k1:=p.k1
 k2:=p.k2
 k3:=p.k3
 k4:=p.k4
 clf:=p.clf
 clt:=p.clt
 kdf:=p.kdf
theorem rE(p:Pf P w base B up b rows)(rc:∀r∈rows,zEt b tab r):∀(d:Nat)(N mu:C0)(st:Stmt),Fc P w base B up (zA1 up tab fw d) (2*d+1) (b.ct N mu st)
 |0=>vD p rc 0 λ_ _=>zl
 |d+1=>vD p rc (d+1) λhr F=>zB4 rc hr F d<|rE p rc d
def yP(p:Pf P w base B up b rows)(rc:∀r∈rows,zEt b tab r)(hr:r∈rows){f:B9}(F:zCo B.K r.x r.qual r.st f fd)(d:Nat):zBc P w B.K B.mg base (CXz P w) (2*(d+1)+1) f fd r.ps<|spF B (zA1 up tab fw<|d+1) r.i r.ps.length:=zB4 rc hr F d<|rE p rc d
end
noncomputable def zIu:B5 NameKind->B'
 |some .local=>true
 |some .cell=>true
 |_=>false
noncomputable def zD7:NameKind->B'
 |.free=>false
 |_=>true
noncomputable def eqL:C0->C0->B'
 |[],[]=>true
 |x::r,y::s=>decide (x=y)&&eqL r s
 |_,_=>false
theorem rL:∀{a b:C0},eqL a b=true->a=b
 |[],[],_=>rfl
 |[],_::_,h=>by cases h
 |_::_,[],h=>by cases h
 |x::r,y::s,h=>by
  simp only[eqL,xCh,decide_eq_true_eq] at h;rw[h.1,rL h.2]
def scB(N ps:C0)(sc:Scope):B':=decide (sc.kind=.function)&&(!sc.isCoroutine&&(!sc.isGenerator&&(zBa N&&(eqL (N.take ps.length) ps&&(ps.all (λx=>zIu<|zAv x sc.names)&&sc.names.all λy=>zD7 y.2)))))
def v5{N ps:C0}{sc:Scope}(h:scB N ps sc=true):zBi N ps sc:=by
 simp only[scB,xCh,Bool.not_eq_true'] at h;let⟨h1,h2,h3,h4,h5,h6,h7⟩:=h;refine⟨xBe h1,h2,h3,dM h4,rL h5,λx hx=>?_,λy hy e=>?_⟩
 .have:=xCx.mp h6 x hx;rw[cw] at this;unfold zIu at this;split at this
  .next e=>exact .inl e
  .next e=>exact .inr e
  .cases this
 .have:=xCx.mp h7 y hy;rw[e] at this;cases this
def zJs{b:Tb}{tab:Nat->B5 De}(h1:scB r.N r.ps (zAd r.st)=true)(h2:zF2 (b.ct r.N r.mu r.st) 100 (zAl r.st)=some r.t)(h3:tab r.i=some ⟨r.ps.length,r.N.length,r.t⟩):zEt b tab r:=⟨v5 h1,⟨_,h2⟩,h3⟩
def alln{p:J->Prop}:∀x∈([]:B4 J),p x:=λ_ h=>nomatch h
def allc{p:J->Prop}{a:J}{l:B4 J}(h:p a)(r:∀x∈l,p x):∀x∈a::l,p x:=List.forall_mem_cons.mpr ⟨h,r⟩
def fH{v:J}{l:B4<|Str×J}(h:zAv x l=some v):(x,v)∈l:=c8 (by rw[<- cw];exact h)
noncomputable def mkB(K:xFr)(mg:Str->B5 B6)(cls:B4<|Str×B9)(kds:B4<|B9×B4 (Str×U)×C0):Bs:=⟨K,mg,λp kvs no=>(p,kvs,no)∈kds,λC c=>(C,c)∈cls⟩
noncomputable def zFt{J:Type}:B5 (B5 J)->B'
 |some none=>true
 |_=>false
def je{o:B5<|B5 J}(h:zFt o=true):o=some none:=by
 unfold zFt at h;split at h
 .rfl
 .cases h
def zDb(K:xFr)(C:B9)(fl:C0):B':=fl.all λf=>zFt<|PySem.W.findIn K (.ref C) f
def mgB(K:xFr)(l:C0):B':=l.all λx=>zFt<|PySem.W.nsIn K mainGlobals x
def nsB(K:xFr)(p:B9)(l:C0):B':=l.all λx=>zFt<|PySem.W.nsIn K p x
noncomputable def eqO:B5 B'->B'->B'
 |some true,true=>true
 |some false,false=>true
 |_,_=>false
def jk{o:B5 B'}{b:B'}(h:eqO o b=true):o=some b:=by
 unfold eqO at h;split at h <;> first|rfl|cases h
def zCr(K:xFr)(n:String)(cls:B4<|Str×B9):B':=(tys.all λt=>eqO (PySem.W.kitOne K (.type t)<|.type n)<|zFs t n)&&cls.all λc=>eqO (PySem.W.kitOne K (.ref c.2)<|.type n)<|zFs "object" n
def zEc(K:xFr)(up:B4<|Str×Str)(D:Str)(d:B9)(cls:B4<|Str×B9):B':=(tys.all λt=>eqO (PySem.W.kitOne K (.type t)<|.ref d) false)&&cls.all λc=>eqO (PySem.W.kitOne K (.ref c.2)<|.ref d)<|isC up c.1 D
section
variable{K:xFr}{mg:Str->B5 B6}{cls:B4<|Str×B9}{kds:B4<|B9×B4 (Str×U)×C0}{up:B4<|Str×Str}
def zGi{n:String}(h:zCr K n cls=true):zCh (mkB K mg cls kds) n:=by
 simp only[zCr,xCh,xCx] at h;exact⟨λt ht=>jk<|h.1 t ht,λ{C c} hc=>jk<|h.2 (C,c) hc⟩
def zJ0{D:Str}{d:B9}(h:zEc K up D d cls=true):zGr (mkB K mg cls kds) up D d:=by
 simp only[zEc,xCh,xCx] at h;exact⟨λt ht=>jk<|h.1 t ht,λ{C c} hc=>jk<|h.2 (C,c) hc⟩
def clF{fl:C0}(h1:∀p∈cls,Cls K p.2)(h2:∀p∈cls,zDb K p.2 fl=true):ClF (mkB K mg cls kds) fl:=⟨λ{C c} hc=>h1 (C,c) hc,λ{C c f} hc hf=>je<|xCx.mp (h2 (C,c) hc) f hf⟩
variable{x qual:Str}{st:Stmt}{f:B9}{fd:FuncData}{ps:C0}{ds es:C7}
def Fun.fa(F:Fun K x qual st f fd):zCo K x qual st f fd:=by
 let⟨oc,od,kV,doc,pm,an,cdv,ct,osl,e,lk,hcd⟩:=F.ex;exact⟨oc,od,_,kV,doc,pm,an,cdv,ct,osl,e,lk,hcd⟩
def BdC(r:Row):Prop:=∀(kV doc pm:B6)(an:B5 B9)(cdv ct:B6)(us:C7),us.length=r.ps.length->bindArgs (PySem.W.fnOf r.x r.qual (zAt r.st) (zAl r.st) (zAd r.st) .none kV doc pm an cdv ct) ⟨us,[]⟩=pure (r.ps.zip us)
def zIx(F:Fun K r.x r.qual r.st f fd)(b:BdC r):Dfl (mkB K mg cls kds) fd r.ps r.ps.length []:=λ{n ds} h=>by
 let⟨rfl,e⟩:=zF1 h;exact⟨by simpa using e,[],[],F.binds b,.nil,λ_=>rfl⟩
end
def zDz(P:Program)(w:World)(base:Heap)(B:Bs)(up:B4<|Str×Str)(b:Tb)(rows:B4 Row):Str×Gd->Prop
 |(x,.fn i np df _)=>∃r f fd,r∈rows/\r.i=i/\r.ps.length=np/\B.mg x=some (.ref f)/\PySem.W.keepIn B.K (.ref f)=true/\zCo B.K r.x r.qual r.st f fd/\Dfl B fd r.ps np df
 |(x,.cl i np df)=>∃r cc f fd,r∈rows/\r.i=i/\r.ps.length=np/\B.cl x cc/\B.mg x=some (.ref cc)/\Mk B.K cc f/\zCo B.K r.x r.qual r.st f fd/\Dfl B fd r.ps np df/\(x∈b.isc->zGr B up x cc) /\
  (x∈b.ini->zAy B.K fd r.ps []/\∃mc,PySem.W.specialIn B.K (.ref cc) "__getattribute__"=some (some<|.builtin "type.__getattribute__")/\PySem.W.readsIn B.K cc mc=true/\PySem.W.findCls B.K (.ref cc) mc "__init__"=some (.val<|.ref f)/\PySem.W.handedIn (.ref f)=true/\PySem.W.keepIn B.K (.ref f)=true)
 |(x,.con u)=>∃v val,B.mg x=some val/\zAi v val/\∀W,Rv B W u v
def zH1(B:Bs)(rows:B4 Row)(p:Str×Str×Nat×Nat):Prop:=∃r cc f fd,r∈rows/\r.i=p.2.2.1/\r.ps.length=p.2.2.2/\(∀c',B.cl p.2.1 c'->c'=cc)/\Cls B.K cc/\zEj B.K cc p.1 f/\zCo B.K r.x r.qual r.st f fd/\zAy B.K fd r.ps []
def zv{P:Program}{w:World}{base:Heap}{up:B4<|Str×Str}{b:Tb}{rows:B4 Row}(h1:∀p∈b.gl,zDz P w base B up b rows p)(h2:∀p∈b.ms,zH1 B rows p)(h3:∀x∈b.bl,B.mg x=none)(k1:zCh B "int")(k2:zCh B "bool")(k3:zCh B "str")(k4:zCh B "tuple")(clf:ClF B b.fl)(clt:ClT B)(kdf:KdF w B):Pf P w base B up b rows where
 fn:=λh=>h1 _<|fH h
 cl:=λh=>h1 _<|fH h
 ms:=λh=>h2 _ h
 con:=λh=>h1 _<|fH h
 bl:=λh=>h3 _ h
 k1:=k1
 k2:=k2
 k3:=k3
 k4:=k4
 clf:=clf
 clt:=clt
 kdf:=kdf
def DnR(K:xFr)(r:Row):Prop:=∃(f:B9) (fd:FuncData),PySem.W.nsIn K mainGlobals r.x=some (some<|.ref f)/\Fun K r.x r.qual r.st f fd
def MdR(K:xFr)(C:B9)(r:Row):Prop:=∃(f:B9) (fd:FuncData),PySem.W.findIn K (.ref C) r.x=some (some<|.ref f)/\PySem.W.isFn K (.ref f)=true/\PySem.W.keepIn K (.ref f)=true/\Fun K r.x r.qual r.st f fd
section
variable{K:xFr}{f T C:B9}{oc kV dc pm cd ct:B6}{od an:B5 B9}{sl:Array<|B5 B6}{nm q:Str}{st:Stmt}{m:Str}{i:Nat}{ps N mu:C0}{t:C8}{d:B6}{oT:Obj}{n:Nat}
def dnr(h0:PySem.W.nsIn K mainGlobals nm=some (some<|.ref f))(h1:K.lookup f=some ⟨oc,od,.func<|PySem.W.fnOf nm q (zAt st) (zAl st) (zAd st) .none kV dc pm an cd ct,sl⟩)(h2:PySem.W.codeIn K cd q=true)(h3:PySem.W.keepIn K (.ref f)=true):DnR K ⟨nm,q,i,st,ps,N,mu,t⟩:=⟨f,_,h0,rq h1 h2 h3⟩
def mdr(h0:PySem.W.findIn K (.ref C) m=some (some<|.ref f))(h4:PySem.W.isFn K (.ref f)=true)(h1:K.lookup f=some ⟨oc,od,.func<|PySem.W.fnOf m q (zAt st) (zAl st) (zAd st) .none kV dc pm an cd ct,sl⟩)(h2:PySem.W.codeIn K cd q=true)(h3:PySem.W.keepIn K (.ref f)=true):MdR K C ⟨m,q,i,st,ps,N,mu,t⟩:=⟨f,_,h0,h4,h3,rq h1 h2 h3⟩
end
section
variable{P:Program}{w:World}{base h:Heap}{K:xFr}{mg:Str->B5 B6}{cls:B4<|Str×B9}{kds:B4<|B9×B4 (Str×U)×C0}{up:B4<|Str×Str}{b:Tb}{rows:B4 Row}{r:Row}{mp:B4 B'}{x C:Str}{cc a:B9}{i:Int}{tk:Tok}
def cj(X:K.In h)(G:h.Ns mainGlobals mg)(d:DnR K r)(hr:r∈rows)(bd:BdC r):zDz P w base (mkB K mg cls kds) up b rows (r.x,.fn r.i r.ps.length [] mp):=
 let ⟨f,fd,h0,F⟩:=d
 ⟨r,f,fd,hr,rfl,rfl,PySem.W.mg_of X G h0,F.kp,Fun.fa F,zIx F bd⟩
structure CsR(K:xFr)(C:B9)(n:Str):Prop where
 at_:PySem.W.nsIn K mainGlobals n=some (some (.ref C))
 cls:Cls K C
 mks:PySem.W.makesIn K C=true
 kp:PySem.W.keepIn K (.ref C)=true
 ha:PySem.W.findIn K (.ref C) "__class__"=some (some (.builtin "object.__class__"))
 hm:PySem.W.mroIn K C (.type "object")=some true
def zKf(K:xFr)(cc:B9):Prop:=∃mc,PySem.W.specialIn K (.ref cc) "__getattribute__"=some (some<|.builtin "type.__getattribute__")/\PySem.W.readsIn K cc mc=true/\∀f,PySem.W.findIn K (.ref cc) "__init__"=some (some<|.ref f)->PySem.W.findCls K (.ref cc) mc "__init__"=some (.val<|.ref f)/\PySem.W.handedIn (.ref f)=true
def rh(X:K.In h)(G:h.Ns mainGlobals mg)(c:CsR K cc C)(d:MdR K cc r)(hx:r.x="__init__")(hr:r∈rows)(hc:(C,cc)∈cls)(bd:BdC r)(hk:C∈b.isc->zEc K up C cc cls=true)(hi:C∈b.ini->zKf K cc):zDz P w base (mkB K mg cls kds) up b rows (C,.cl r.i r.ps.length []):=by
 let⟨f,fd,h0,h1,kp,F⟩:=d;have h0':PySem.W.findIn K (.ref cc) "__init__"=some (some<|.ref f):=by rw[<- hx];exact h0
 refine⟨r,cc,f,fd,hr,rfl,rfl,hc,PySem.W.mg_of X G c.at_,⟨c.mks,h0',h1,c.kp⟩,Fun.fa F,zIx F bd,λz=>zJ0<|hk z,λz=>?_⟩;let⟨mc,e1,e2,e3⟩:=hi z;exact⟨F.binds bd,mc,e1,e2,(e3 f h0').1,(e3 f h0').2,kp⟩
theorem uniq:∀{cls:B4<|Str×B9}{C:Str}{c c':B9},zBa (cls.map (·.1))=true->(C,c)∈cls->(C,c')∈cls->c'=c:=λ{cls C c c'} nd h1 h2=>by
 have nd:=dM nd;clear ‹zBa _=true›;induction cls with
 |nil=>cases h1
 |cons p r ih=>
  rw[xBs,xCb] at nd;rcases xAv.mp h1 with e1|h1 <;> rcases xAv.mp h2 with e2|h2
  .rw[<- e1] at e2;cases e2;rfl
  .exact absurd (xA2.mpr ⟨_,h2,by rw[<- e1]⟩) nd.1
  .exact absurd (xA2.mpr ⟨_,h1,by rw[<- e2]⟩) nd.1
  .exact ih h1 h2 nd.2
def dP(nd:zBa (cls.map (·.1))=true)(c:CsR K cc C)(d:MdR K cc r)(hr:r∈rows)(hc:(C,cc)∈cls)(bd:BdC r):zH1 (mkB K mg cls kds) rows (r.x,C,r.i,r.ps.length):=
 let ⟨f,fd,h0,h1,kp,F⟩:=d
 ⟨r,cc,f,fd,hr,rfl,rfl,λc' h=>uniq nd hc h,c.cls,⟨h0,h1,kp⟩,Fun.fa F,F.binds bd⟩
def ji(X:K.In h)(G:h.Ns mainGlobals mg)(e:PySem.W.nsIn K mainGlobals x=some (some<|.int i tk)):zDz P w base (mkB K mg cls kds) up b rows (x,.con<|.int i):=⟨.int i,_,PySem.W.mg_of X G e,⟨_,rfl⟩,λ_=>rfl⟩
def xV{z:Str}(X:K.In h)(G:h.Ns mainGlobals mg)(e:PySem.W.nsIn K mainGlobals x=some (some<|.str z tk)):zDz P w base (mkB K mg cls kds) up b rows (x,.con<|.str z):=⟨.str z,_,PySem.W.mg_of X G e,⟨_,rfl⟩,λ_=>rfl⟩
theorem gb{B:Bs}{W:Wd}{β:Type}{f:β->U}{g:β->V}(h:∀x,Rv B W (f x)<|g x):∀(l:B4 β),Rvs B W (l.map f) (l.map g)
 |[]=>rfl
 |x::l=>⟨g x,l.map g,rfl,h x,gb h l⟩
def xJ{l:C0}(h:∀H,SqT B.K H a<|l.map .str)(W:Wd):Rv B W (.kt<|l.map .str)<|.ref a:=⟨a,_,rfl,h,gb (f:=U.str) (g:=V.str) (λ_=>rfl) l⟩
def xK{l:C5}(h:∀H,SqT B.K H a<|l.map .int)(W:Wd):Rv B W (.kt<|l.map .int)<|.ref a:=⟨a,_,rfl,h,gb (f:=U.int) (g:=V.int) (λ_=>rfl) l⟩
def vB{u:U}(X:K.In h)(G:h.Ns mainGlobals mg)(e:PySem.W.nsIn K mainGlobals x=some (some<|.ref a))(r:∀W,Rv (mkB K mg cls kds) W u<|.ref a):zDz P w base (mkB K mg cls kds) up b rows (x,.con u):=⟨.ref a,_,PySem.W.mg_of X G e,rfl,r⟩
def rf{kvs:B4<|Str×U}{no:C0}(X:K.In h)(G:h.Ns mainGlobals mg)(e:PySem.W.nsIn K mainGlobals x=some (some<|.ref a))(hd:(a,kvs,no)∈kds):zDz P w base (mkB K mg cls kds) up b rows (x,.con<|.kd kvs no):=⟨.ref a,_,PySem.W.mg_of X G e,rfl,λ_=>⟨a,rfl,hd⟩⟩
structure zI6(w:World)(B:Bs)(q:B9×B4 (Str×U)×C0):Prop where
 d:KD w B.K q.1
 y:∀e∈q.2.1,∃u val,PySem.W.nsIn B.K q.1 e.1=some (some val)/\zAi u val/\∀W,Rv B W e.2 u
 n:nsB B.K q.1 q.2.2=true
def kdF(hq:∀q∈kds,zI6 w (mkB K mg cls kds) q):KdF w<|mkB K mg cls kds:=
 ⟨λ{p kvs no} hd=>(hq _ hd).d,λ{p kvs no x v} hd hy=>(hq _ hd).y _<|fH hy,λ{p kvs no x} hd hx=>je<|xCx.mp (hq _ hd).n x hx⟩
def clT(h1:∀p∈cls,Cls K p.2/\PySem.W.findIn K (.ref p.2) "__class__"=some (some<|.builtin "object.__class__")/\PySem.W.mroIn K p.2 (.type "object")=some true)(hn:PySem.W.specialIn K (.builtin "object.__class__") "__get__"=some (some<|.builtin "getset_descriptor.__get__"))(htk:PySem.W.takesIn K (.builtin "object.__class__")=some true):ClT<|mkB K mg cls kds:=
 ⟨λ{C c H a dx fs} hc e=>let ⟨c1,c2,c3⟩:=h1 (C,c) hc;.ins e c1 c2 hn htk c3⟩
def zDg(K:xFr)(n:Nat):Sp:=λvs H Q _=>∃(a:B9) (ns:C5),vs=[.ref a]/\ns.length<=n/\SqL K H a (ns.map V.int)/\∀H',Q (.bl true) H'
def xG{G:D4}{i:Nat}(g:zBu up G)(math:∀ns:C5,ns.length<=n->G.call i [.kl<|ns.map U.int] [] (λ_ _=>False) (λv _=>v=.bl true)):∀vs H Q E,zDg B.K n vs H Q E->spF B G i 1 vs H Q E:=λvs H Q E zz=>by
 let⟨a,ns,e,hl,hs,q⟩:=zz;subst e;erw[<-⟨rfl,⟨H,[],[]⟩,[.kl<|ns.map U.int],[],⟨λ_ _ h=>h,rfl,λ_ _ _ h=>(by cases h),λ_ _ h=>(by cases h),λ_ h=>(by cases h)⟩,⟨.ref a,[],rfl,⟨a,ns.map V.int,rfl,hs,gb (f:=U.int) (g:=V.int) (λ_=>rfl) ns⟩,rfl⟩,?_⟩,<-g.call (λ_ _ z=>z.elim) (λv S z=>?_)<|math ns hl];subst z;exact λW' u H' le rs rv=>by rw[show u=.bl true from rv];exact q H'
end
end Fx
namespace Fx
open PySem L2
variable{kvs:B4<|Key×U}
section
variable{up:B4<|Str×Str}{tab:Nat->B5 De}{fw d:Nat}{p:Pm}{vs:C3}{S S':So}{x:D3}{k:D0}{v:U}{a b:Unit->Prop}
def pm(e:pr up p vs S=.ok v S')(h:k v S'):(zA1 up tab fw d).prim p vs S x k:=by
 rw[(zFp (up:=up) (tab:=tab) (fw:=fw) d).prim];exact⟨by unfold prP;rw[e];exact h⟩
def brT(h:a ⟨⟩):(zA1 up tab fw d).br true a b:=by
 rw[(zFp (up:=up) (tab:=tab) (fw:=fw) d).br];exact⟨by rw[xCg rfl];exact h⟩
def brF(h:b ⟨⟩):(zA1 up tab fw d).br false a b:=by
 rw[(zFp (up:=up) (tab:=tab) (fw:=fw) d).br];exact⟨by rw[xCf ∅];exact h⟩
def tH{xs:C3}{j:Nat}(h:xs[j]?=some v):pr up .ix [.kl xs,.int j] S=.ok v S:=by
 show opt (atI xs (j:Int)) S=_;rw[dD h];rfl
end
section
variable{up:B4<|Str×Str}{S S':So}{p q:Nat}{o o':Ob}{C f m:Str}{fs fs':B4<|Str×U}{v u:U}{xs ys:C3}
theorem zA6{J:Type}:∀{l:B4 J}{p:Nat}{o:J},at? l p=some o->p<l.length
 |_::_,0,_,_=>⋯
 |_::l,p+1,_,h=>by have:=zA6 (l:=l) h;simp;lia
theorem zAc{J:Type}:∀{l:B4 J}{p:Nat}{o o':J},at? l p=some o->at? (set l p o') p=some o'
 |_::_,0,_,_,_=>rfl
 |_::l,p+1,_,_,h=>zAc (l:=l) h
theorem zDn{J:Type}:∀{l:B4 J}{p q:Nat}{o:J},p≠q->at? (set l p o) q=at? l q
 |[],_,_,_,_=>rfl
 |_::_,0,0,_,h=>absurd rfl h
 |_::_,0,_+1,_,_=>rfl
 |_::_,_+1,0,_,_=>rfl
 |_::l,p+1,q+1,_,h=>zDn (l:=l) ()
theorem zAe{J:Type}:∀{l:B4 J}{p:Nat}{o:J},(set l p o).length=l.length
 |[],_,_=>rfl
 |_::_,0,_=>rfl
 |_::l,p+1,_=>congrArg (·+1)<|zAe (l:=l)
theorem zAg{J:Type}:∀{l t:B4 J}{p:Nat}{o:J},at? l p=some o->at? (l++t) p=some o
 |_::_,_,0,_,h=>h
 |_::l,_,p+1,_,h=>zAg (l:=l) h
theorem zAu{J:Type}:∀{l:B4 J}{o:J},at? (l++[o]) l.length=some o
 |[],_=>rfl
 |_::l,_=>zAu (l:=l)
theorem zDs{J:Type}:∀{l:B4 J}{o o':J},set (l++[o]) l.length o'=l++[o']
 |[],_,_=>rfl
 |x::l,_,_=>congrArg (x::·)<|zDs (l:=l)
theorem zAb{J:Type}:∀{l:B4 J}{p:Nat}{o o':J},set (set l p o) p o'=set l p o'
 |[],_,_,_=>rfl
 |_::_,0,_,_=>rfl
 |x::l,p+1,_,_=>congrArg (x::·)<|zAb (l:=l)
def cS(h:at? S p=some (.ins C fs))(e:zAv f fs=some v):pr up (.fld f) [.ref p] S=.ok v S:=by
 show zCv p S _=_;unfold zCv;rw[h];show opt (zAv f fs) S=_;rw[e];rfl
def fB(h:at? S p=some (.ins C fs))(e:putF f v fs=fs')(hl:Nat.ble fs.length 900=true):pr up (.setf f) [.ref p,v] S=.ok .non (set S p<|.ins C fs'):=by
 show zCv p S _=_;unfold zCv;rw[h];dsimp only;rw[hl,e]
def zA3{n:Nat}{r:Res}(h:n<=sizeLine):fits n r=r:=by
 unfold fits;rw[xDk h]
def cX(h:at? S p=some (.lst xs))(hl:xs.length+1<=sizeLine):pr up .app [.ref p,v] S=.ok .non (set S p<|.lst<|xs++[v]):=by
 show zCk p S _=_;unfold zCk;rw[h];exact zA3 hl
def cE(h:at? S p=some (.lst xs)):pr up (.typ "list") [.ref p] S=.ok (.ref p) S:=by
 delta pr;dsimp only[tyU];rw[h];rfl
def cn(h:at? S p=some (.ins C fs))(e:zAv m fs=none):pr up (.cls C m) [.ref p] S=.ok (.ref p) S:=by
 show zCv p S _=_;unfold zCv;rw[h];dsimp only;rw[xBd rfl,e]
def dX(h:at? S p=some (.lst xs)):pr up .len [.ref p] S=.ok (.int xs.length) S:=by
 show zEb (.ref p) S=_;unfold zEb;dsimp only;rw[h]
def tF(h:at? S p=some (.dct kvs)):pr up .len [.ref p] S=.ok (.int kvs.length) S:=by
 show zEb (.ref p) S=_;unfold zEb;dsimp only;rw[h]
def ef(h:at? S p=some (.dct kvs)):pr up .dctOf [.ref p] S=.ok (.ref S.length) (S++[.dct kvs]):=by
 delta pr;dsimp only;rw[h]
def gj{x:Str}(h:at? S p=some (.dct kvs))(hl:kvs.length+1<=sizeLine):pr up .seti [.ref p,.str x,v] S=.ok .non (set S p<|.dct<|putK (.inr x) v kvs):=by
 show zBg p (.str x) v S=_;unfold zBg;rw[h];exact zA3 hl
def cN{x:Str}(h:at? S p=some (.dct kvs))(e:zAq (.inr x) kvs=some v):pr up .ix [.ref p,.str x] S=.ok v S:=by
 show ixU (.ref p) (.str x) S=_;unfold ixU;dsimp only;rw[h];show opt (zAq (.inr x) kvs) S=_;rw[e];rfl
end
end Fx
namespace K32
open PySem L2 Fx
variable{mg:Str->B5 B6}{cls:B4<|Str×B9}{kds:B4<|B9×B4 (Str×U)×C0}{fw d dm e lv lv' j h pq na sa n' m g c2:Nat}{S:So}{N:Str->Prop}{k1 k2 k' wi:Int}{y:Str}{xx:D3}{a1 a3 a5 a7 a8 a10 a11 a13 a12 a4 a6 a0:B5 U}{u9:U}{is own ns ns2 M Kl:C4}{E:Ee Prop}{kk:Sg->So->Prop}{items:B4<|Str×U}{Ps ss parts more rr zs vs':C3}{f' f1:Fd}{bs':B4<|C4×U}{np:C5}
def top(i:Nat):Stmt:=PySem.Challenge.pw_spacewright_k32_boxes_stand_for_names.main.body.getD i<|.Pass ⟨0,0,0,0⟩
def c9:B4<|Str×U:=[("start",(.str "box")),("read",(.str "load")),("set",(.str "store"))]
def cY:C0:=["func","call","if","math","make","match","raise","try","tell","ask"]
def gR:U:=.kd c9 cY
def cy:B4<|Str×U:=[("number",(.kt [(.str "number")])),("name",(.kt [(.str "used")])),("fn",(.kt [(.str "names"),(.str "part")])),("call",(.kt [(.str "part"),(.str "parts")])),("let",(.kt [(.str "name"),(.str "part"),(.str "part")])),("set",(.kt [(.str "used"),(.str "part")])),("do",(.kt [(.str "part"),(.str "part")])),("if",(.kt [(.str "part"),(.str "part"),(.str "part")])),("math",(.kt [(.str "op"),(.str "part"),(.str "part")])),("make",(.kt [(.str "word"),(.str "parts")])),("match",(.kt [(.str "part"),(.str "word"),(.str "names"),(.str "part"),(.str "part")])),("raise",(.kt [(.str "word"),(.str "part")])),("try",(.kt [(.str "part"),(.str "word"),(.str "name"),(.str "part")])),("tell",(.kt [(.str "part")])),("ask",(.kt []))]
def cR:C0:=[]
def ir:U:=.kd cy cR
def da:B4<|Str×U:=[("fn",(.kt [(.int<|2),(.int<|3)])),("let",(.kt [(.int<|2),(.int<|4)])),("match",(.kt [(.int<|4),(.int<|5)])),("try",(.kt [(.int<|4),(.int<|5)]))]
def dB:C0:=["number","name","call","set","do","if","math","make","raise","tell","ask"]
def gS:U:=.kd da dB
def Tl(x:Str)(i n:Nat):Str×Gd:=(x,.cl i n [])
def Jw(x:Str)(i n:Nat)(m:B4 B'):Str×Gd:=(x,.fn i n [] m)
def Jl(x:Str)(i n:Nat):Str×Gd:=Jw x i n []
def Tc(x:Str)(u:U):Str×Gd:=(x,.con u)
def gls:B4<|Str×Gd:=[Jl "inner" 0 1,Jl "with_inner" 1 2,Jl "bodies_in" 2 1,Jl "set_names" 3 1,Tl "Boxer" 4 3,Jl "boxed" 8 1,Jl "is_number" 9 1,Jl "form_of" 10 1,Jl "told_anew" 11 2,Jl "parts_ahead" 12 1,Jl "is_word" 13 1,Jl "is_name" 14 1,Jl "is_place" 15 1,Jl "is_written_number" 16 1,Jl "plain" 17 1,Tl "Checker" 18 1,Jl "checked_row" 22 1,Jl "checked_names" 23 1,Jl "fits" 24 3,Jl "checked_program" 25 1,Jl "set_bindings" 26 1,Jw "find_sets" 27 3 [false,false,true],Tl "Namer" 28 2,Jl "plain_step" 36 4,Jl "named" 37 1,Jl "_law_cell_at" 38 2,Jl "_law_words" 39 1,Jl "_law_state" 40 4,Jw "_law_take" 41 2 [true,false],Jw "_law_place" 42 1 [true],Jl "_law_atom" 43 2,Jl "_law_some" 44 4,Jl "_law_unlike" 45 2,Jl "_law_loop" 46 4,Jl "_law_bind" 47 5,Jl "_law_word" 48 1,Jl "_law_plain" 49 5,Jl "_law_helper" 50 4,Jl "_law_part" 51 4,Jl "_law_program" 52 2,Jl "_law_meant" 53 1,Jl "_law_bodies" 54 1,Jl "_law_put" 55 2,Jl "_law_steps" 56 3,Jl "_law_wide" 57 3,Jl "_law_opened" 58 5,Jl "law" 59 1,Tc "WORDS" gR,Tc "MOST_PARTS"<|.int<|300,Tc "MOST_WITHIN"<|.int<|20,Tc "MOST_IN_ROW"<|.int<|4,Tc "LAST_PLACE"<|.int<|599,Tc "LETTERS"<|.str "abcdefghijklmnopqrstuvwxyz",Tc "OPS"<|.kt [(.str "add"),(.str "sub"),(.str "mul"),(.str "less"),(.str "same")],Tc "HEADS"<|.kt [(.str "fn"),(.str "call"),(.str "let"),(.str "set"),(.str "do"),(.str "if"),(.str "add"),(.str "sub"),(.str "mul"),(.str "less"),(.str "same"),(.str "make"),(.str "match"),(.str "raise"),(.str "try"),(.str "tell"),(.str "ask")],Tc "FORMS" ir,Tc "SCOPES" gS]
def mss:B4<|Str×Str×Nat×Nat:=[("boxed_step","Boxer",5,2),("boxed_body","Boxer",6,3),("new_name","Boxer",7,2),("check_part","Checker",19,4),("check_place","Checker",20,2),("check_thing","Checker",21,5),("new_name","Namer",29,2),("body_of","Namer",30,4),("atom_of","Namer",31,5),("atom_of_name","Namer",32,4),("atom_of_let","Namer",33,5),("outer_step","Namer",34,5),("bound_body","Namer",35,6)]
def fls:C0:=["tag","fields","place","params","body","scope","inside","part","last","height","calls","places","inputs","taken","most","log","deeds","deepest","world","jobs","pile","set_ones"]
def bls:C0:=["len","isinstance","abs","int","tuple","list","dict","all","any","max","min","range","zip","reversed","set","str","bool","sorted","enumerate"]
def ups:B4<|Str×Str:=[("SpaceError","ValueError"),("NoPart","SpaceError")]
def tb:Tb:=⟨gls,mss,fls,bls,["Function"],["Block","Function"]⟩
def J0:C9:=cV 0
def J2:C9:=cV 1
def J7:C9:=cV 2
def Ja:C9:=cV 3
def J8:C9:=cV 4
def Jd:C9:=cV 5
def Jh:C9:=cV 6
def Js:C9:=cV 7
def Y2:C9:=cV 8
def Y4:C9:=cV 9
def Y9:C9:=cV 10
def Y7:C9:=cV 11
def Y8:C9:=cV 12
def Yc:C9:=cV 13
def Jc:C9:=cC<|.int 0
def Jb:C9:=cC<|.int 1
def Jp:C9:=cC<|.int 2
def Jr:C9:=cC<|.int 3
def Y3:C9:=cC<|.int 4
def Y0:C9:=cC<|.int 5
def Y5:C9:=cC<|.int 6
def Ya:C9:=cC<|.int 7
def Jj(i:Int):C9:=cC<|.int i
def J4(x:Str):C9:=cC<|.str x
def J1(a b:C9):C9:=cP .ix<|zAx a b
def Y1(x:Str)(a:C9):C9:=cP (.fld x)<|aC a aN
def J6(p:Pm)(a:C9):C9:=cP p<|aC a aN
def J3(p:Pm)(a b:C9):C9:=cP p<|zAx a b
def Jf(a b:C9):TTx Prop:=tB<|cP .eq<|zAx a b
def Jm(i:Nat)(a:D5):C9:=cF i a []
def Jg(i:Nat)(a:C9):C9:=cF i (aC a aN) []
def Jq(i:Nat)(a b:C9):C9:=cF i (aC a<|aC b aN) []
def Jo(a:C9):D5:=(aC a aN)
def Jv(a:C9):C9:=cT<|aC a aN
def Yb(a b:C9):D5:=(aC a<|aC b aN)
def Ji(a b:C9):C9:=cT<|aC a<|aC b aN
def Ju(a b c:C9):D5:=(aC a<|aC b<|aC c aN)
def Jz(a b c:C9):C9:=cT<|aC a<|aC b<|aC c aN
def Jn(a b c d:C9):D5:=(aC a<|aC b<|aC c<|aC d aN)
def Jt(a b c d:C9):C9:=cT<|aC a<|aC b<|aC c<|aC d aN
def Jx(a b c d e:C9):D5:=(aC a<|aC b<|aC c<|aC d<|aC e aN)
def Y6(a b c d e:C9):C9:=cT<|aC a<|aC b<|aC c<|aC d<|aC e aN
def J5(a:C9):C8:=sQ (sR a) sN
def Je(a:C8):C8:=sQ a sN
def J9(t:TTx Prop)(a:C8):C8:=sI t a sN
def zHv:C8:=sQ (sA 9<|J3 (.add false) J7<|Jq 11 Jd<|J6 .len Jd)<|Je<|sE<|cBM "list" .app Jd<|Jo<|cM "Checker" "check_thing" 21 J0 (Jn Js Y2 Y4 Ja) []
def zE9:C8:=(sQ (sA 13<|Jt (J4 "call") (J1 Jh<|Jj 9) (Jz (J4 "name") (J1 Jh<|Jj 10) J8)<|Jv<|Jz (J4 "number") (J1 Jh<|Jj 11)<|Jq 41 J0<|Jj 8)<|sQ (sA 11<|Jt (J4 "do") (Jg 42 J0) (Jt (J4 "set") (Jg 42 J0) J8 Y8) Yc)<|J5<|Y6 (J4 "let") (J1 Jh<|Jj 12) J8 (Jz (J4 "number") (J1 Jh<|Jj 13) Jc) Y7)
def zFa:C8:=(sQ (sA 12<|Jt (J4 "fn") (J1 Jh Y5) (Jv Jd)<|Y6 (J4 "if") (J1 Jh Ya) (Jz (J4 "name") (J1 Jh<|Jj 8) Jd) Y7 Y4) zE9)
def rz3:C8:=(sA 11<|Jt (J4 "do") (J1 Jh Jr) Y2<|Jt (J4 "call") (J1 Jh Y3) (Jz (J4 "name") (J1 Jh Y0) J8)<|Jv Y9)
def zFb:C8:=(sQ rz3 zFa)
def rz4:C8:=(sA 10<|Y6 (J4 "math") (J1 Jh Jc) (J4 "sub") (Jz (J4 "name") (J1 Jh Jb) Jd)<|Jz (J4 "number") (J1 Jh Jp) Jb)
def zJr:C8:=(sQ rz4 zFb)
def zD6:C8:=(sQ (J9 (tAn (tB<|J3 .lt J8<|Jj 14)<|tB<|J3 .gt Ja Jr)<|J5<|Jm 50<|Jn J0 J2 J7 Ja)<|J5<|Jm 49<|Jx J0 J2 J7 (J3 .sub Ja Jb)<|J3 .mod (J3 .sub J8<|Jj 10)<|Jj 12)
def zH7:C8:=(sQ (J9 (tB<|J3 .lt J8<|Jj 10)<|J5<|Jm 47<|Jx J0 J2 J7 (J3 .sub Ja Jb)<|J1 (cP (.lst false)<|aC Jb<|aC Jb<|Jx Jc Jb Jp Jr Jb)<|J3 .sub J8 Jr)<|sQ (J9 (tAn (tB<|J3 .lt J8<|Jj 12)<|tAn (tB<|J3 .gt Ja Ya)<|tB<|J3 .gt (J1 J0<|J4 "parts")<|Jj 20)<|J5<|Jm 46<|Jn J0 J2 J7 Ja) zD6)
def zH8:C8:=(sQ (sA 3<|Jq 41 J0<|Jj 10)<|sQ (J9 (Jf Ja<|Jj 9)<|Je<|sA 3<|J3 .sub (Jq 41 J0<|J3 .pow (Jj 10)<|Jj 12)<|Jq 41 J0<|J3 .pow (Jj 10)<|Jj 12)<|J5<|Jz (J4 "number") J7 Ja)
def zI3:C8:=(sQ (sP .seti (J1 J2<|J3 .mod (J3 (.add false) (J3 .fdiv J0<|Jj 512)<|J3 .mul Jr J8)<|Jj 26)<|zAx Jd Ja)<|Je<|sE<|cBM "list" .app Jh<|Jo<|cBM "str" .join (J4 "")<|Jo Jd)
def zG3:C8:=(sQ (sA 7<|Jm 51<|Jn J0 J2 J7 Ja)<|sQ (J9 (Jf J8 Jr)<|J5<|Jt (J4 "raise") Jd (Jg 48 J0) Js)<|sQ (J9 (Jf J8 Y3)<|J5<|Jt (J4 "call") Jd Js<|Jm 44<|Jn J0 J2 J7 Ja)<|sQ (J9 (Jf J8 Y0)<|J5<|Jz (J4 "tell") Jd Js)<|sQ (sA 8<|Jm 51<|Jn J0 J2 J7 Ja)<|sQ (J9 (Jf J8 Y5)<|J5<|Y6 (J4 "if") Jd Js Y2<|Jm 51<|Jn J0 J2 J7 Ja)<|sQ (J9 (tB<|J3 .lt J8<|Jj 9)<|J5<|Y6 (J4 "math") Jd (J1 (cP (.lst false)<|Jx (J4 "add") (J4 "sub") (J4 "mul") (J4 "less")<|J4 "same")<|Jq 41 J0 Y0) Js Y2)<|J5<|Jt (J4 "do") Jd Js Y2)
def bdT:C8:=(Je<|sP .seti (J1 J0 Jb)<|zAx Jd Jh)
def bdP:C8:=(Je<|sE<|Jm 27<|Ju Js Jd J7)
def zKa:C8:=(sQ (sA 5<|J6 .dctOf J2)<|sQ (sF (J6 .seq<|Jq 11 J0 Ja) [6] true bdT)<|Je<|sI (Jf J8<|J4 "part") (Je<|sE<|Jm 27<|Ju (J1 J0 Ja) Jd J7)<|Je<|J9 (Jf J8<|J4 "parts")<|Je<|sF (J6 .seq<|J1 J0 Ja) [7] true bdP)
def zI4:C8:=(sQ (sA 9<|cM "Namer" "new_name" 29 J0 (Jo Ja) [])<|sQ (sE<|cBM "list" .app Js<|Jo Y4)<|Je<|sP .seti (Ji (Ji (J4 "name") Y4)<|cB<|tB<|J3 .inn (Ji Ja Y2)<|Y1 "set_ones" J0)<|zAx Jh Y2)
def zG2:C8:=(sQ (sA 13<|J6 .dctOf J7)<|sQ (sP .seti (Ji Y9 Y7)<|zAx Yc Js)<|J5<|cM "Namer" "atom_of" 31 J0 (Jn Y4 Yc Ja J8) [])
def zJq:C8:=(sQ (sA 11<|cB<|tB<|J3 .inn (Ji Jh Js)<|Y1 "set_ones" J0)<|sQ (J9 (tB<|J6 .tru Y7)<|sQ (sA 12<|cM "Namer" "new_name" 29 J0 (Jo Jh) [])<|sQ (sE<|cBM "list" .app J8<|Jo<|Jt (J4 "start") Y8 Y9 Jh)<|Je<|sA 10<|Ji (J4 "name") Y8) zG2)
def zG5:C8:=(sQ (sA 9<|cM "Namer" "new_name" 29 J0 (Jo<|J1 J2 Jb) [])<|sQ (sE<|cBM "list" .app J8<|Jo<|J3 (.add false) (Ji Js Y4) Y2)<|J5<|Ji (J4 "name") Y4)
def zG4:C8:=(sQ (sI (tB<|J3 .inn Jd<|Jt (J4 "fn") (J4 "if") (J4 "match")<|J4 "try") (Je<|sU [7,8]<|cM "Namer" "outer_step" 34 J0 (Jn J2 Jh J7 Ja) [])<|Je<|sU [7,8]<|Jm 36<|Jn J2 Jh J7 Ja) zG5)
def bdN:C8:=(Je<|sI (tB<|J3 .inn Jd<|Y1 "set_ones" J0) (sQ (sA 6<|cM "Boxer" "new_name" 7 J0 (Jo Jd) [])<|sQ (sE<|cBM "list" .app Ja<|Jo Jh)<|Je<|sE<|cBM "list" .app J8<|Jo<|Jt (J4 "box") Jd (Ji (J4 "name") Jh)<|J1 (Y1 "places" J0) Jd)<|Je<|sE<|cBM "list" .app Ja<|Jo Jd)
def bdO:C8:=(Je<|sI (tB<|J3 .inn Jh<|J1 J8<|J4 "set") (sQ (J9 (tOr' (tNt<|tB<|J6 (.isT "int") Js)<|tNt<|tCh .le .lt (J1 J8<|J4 "many") Js<|J6 .len<|J1 J8<|J4 "places")<|J5<|cC<|.bl false)<|sQ (sE<|cBM "list" .app (J1 J8<|J4 "new")<|Jo Js)<|sQ (sE<|cBM "list" .app Jd<|Jo<|Jt (J4 "box") Jh (Ji (J4 "name") Js)<|J1 (J1 J8<|J4 "places") Jh)<|Je<|J9 (tB<|J3 .ne (J1 (J1 J8<|J4 "places") Js)<|J1 (J1 J8<|J4 "places") Jh)<|J5<|cC<|.bl false)<|Je<|J9 (tB<|J3 .ne Jh Js)<|J5<|cC<|.bl false)
def zI2:C8:=(Je<|J9 (tNt<|tB<|Jm 58<|Jx Jd Jh Js Y2 J7)<|J5<|cC<|.bl false)
def zHu:C8:=(sQ (sA 5<|cP (.dct ["start","read","set"])<|Ju (J4 "box") (J4 "load")<|J4 "store")<|Je<|sI (tB<|J3 .inn (J1 Ja Jc) Jd) (Je<|J9 (tB<|J3 .ne J8<|J3 (.add false) (Jv<|J1 Jd<|J1 Ja Jc)<|J3 (.sl false true false) Ja Jb)<|J5<|cC<|.bl false)<|Je<|sI (Jf (Jg 54 Ja)<|cP (.lst false) aN) (Je<|J9 (tB<|J3 .ne Ja J8)<|J5<|cC<|.bl false)<|Je<|J9 (tNt<|tB<|Jm 57<|Ju Ja J8 J7)<|J5<|cC<|.bl false)
def rz1:C8:=(sQ (sA 2<|J3 .mod (J1 J0<|J4 "number") J2)<|sQ (sP .seti (J3 .fdiv (J1 J0<|J4 "number") J2)<|zAx J0<|J4 "number")<|J5 J7)
def rz2:C8:=(sQ (J9 (Jf (Jq 41 J0 Jp) Jb)<|Je<|sA 9<|Jt (J4 "do") (Jg 42 J0) Y4<|Jm 51<|Jn J0 J2 (J3 (.add false) J7<|J6 (.lst false) J8)<|J3 .sub Ja Jr)<|J5<|Y6 (J4 "let") Js J8 Jh Y4)
def rz5:C8:=(sQ (sA 3<|Jm 40<|Jn (Jq 38 J0 Jp) J7 J2<|J3 .fdiv (Jq 38 J0 Jb) Jp)<|J5<|Jm 51<|Jn Ja (Jg 39<|Jq 38 J0 Jc) (cP (.lst false) aN)<|Jj 14)
def rz6:C8:=(sQ (J9 (Jf J8 Jc)<|J5<|Jt (J4 "fn") Jd Jh<|Jm 51<|Jn J0 J2 (J3 (.add false) J7<|J6 (.lstOf false) Jh) Ja)<|sQ (J9 (Jf J8 Jb)<|sQ (sA 8<|Jm 51<|Jn J0 J2 J7 Ja)<|J5<|Y6 (J4 "let") Jd Js Y2<|Jm 51<|Jn J0 J2 (J3 (.add false) J7<|J6 (.lst false) Js) Ja)<|sQ (sA 9<|Jg 48 J0)<|sQ (sA 8<|Jm 51<|Jn J0 J2 J7 Ja)<|sQ (J9 (Jf J8 Jp)<|sQ (sA 10<|Jm 51<|Jn J0 J2 (J3 (.add false) J7<|J6 (.lstOf false) Jh) Ja)<|J5<|cT<|aC (J4 "match")<|aC Jd<|Jx Y2 Y4 Jh Y9<|Jm 51<|Jn J0 J2 J7 Ja)<|J5<|cT<|aC (J4 "try")<|Jx Jd Y2 Y4 Js<|Jm 51<|Jn J0 J2 (J3 (.add false) J7<|J6 (.lst false) Js) Ja)
def rz7:C8:=(J9 (tB<|J3 .inn (J1 J7 Jc)<|J3 (.lst false) (J4 "read")<|J4 "set")<|Je<|sE<|cBM "list" .app J2<|Jo<|J1 J7 Jp)
def rz8:C8:=(sQ (sA 3<|J1 (J1 (J1 J2 J7) Jb) Jc)<|sQ (sF (J6 .seq Ja) [4] true<|Je<|sE<|cBM "list" .ext J2<|Jo<|Jg 0 J8)<|Je<|sA 2<|J3 (.add false) J7 Jb)
def rz9:C8:=(sI (Jf (J1 J8 Jc)<|J4 "start") (Je<|sP .seti (cC<|.bl true)<|zAx J2<|J1 J8 Jb)<|Je<|J9 (tB<|J3 .inn (J1 J8 Jc)<|Ji (J4 "read")<|J4 "set")<|Je<|sP .seti (cC<|.bl true)<|zAx J2<|J1 J8 Jp)
def t0:C8:=(sQ (sA 1<|J1 J0 Jc)<|sQ (J9 (Jf J2<|J4 "func")<|J5<|J6 (.lst false)<|Ji (J1 J0 Jp)<|J1 J0 Jr)<|sQ (J9 (Jf J2<|J4 "if")<|J5<|J3 (.lst false) (Ji (cT aN)<|J1 J0 Jr)<|Ji (cT aN)<|J1 J0 Y3)<|sQ (J9 (Jf J2<|J4 "match")<|J5<|J3 (.lst false) (Ji (J1 J0 Y3)<|J1 J0 Y0)<|Ji (cT aN)<|J1 J0 Y5)<|sQ (J9 (Jf J2<|J4 "try")<|J5<|J3 (.lst false) (Ji (cT aN)<|J1 J0 Jp)<|Ji (Jv<|J1 J0 Y3)<|J1 J0 Y0)<|J5<|cP (.lst false) aN)
def Jy(x q:Str)(i:Nat)(s:Stmt)(ps ex mu:C0)(t:C8):Fx.Row:=⟨x,q,i,s,ps,ps++ex,mu,t⟩
def Jk(x:Str):Nat->Stmt->C0->C0->C0->C8->Fx.Row:=Jy x x
def r0:Fx.Row:=Jk "inner" 0 (top 1) ["step"] ["word"] [] t0
def t1:C8:=(sQ (sA 2<|J1 J0 Jc)<|sQ (J9 (Jf J7<|J4 "func")<|J5<|J3 (.add false) (J3 (.add false) (J3 (.sl false false true) J0 Jp)<|Ji (J1 (J1 J2 Jc) Jc)<|J1 (J1 J2 Jc) Jb)<|J3 (.sl false true false) J0 Y3)<|sQ (J9 (Jf J7<|J4 "if")<|J5<|J3 (.add false) (J3 (.add false) (J3 (.sl false false true) J0 Jr)<|Ji (J1 (J1 J2 Jc) Jb)<|J1 (J1 J2 Jb) Jb)<|J3 (.sl false true false) J0 Y0)<|sQ (J9 (Jf J7<|J4 "match")<|J5<|J3 (.add false) (J3 (.add false) (J3 (.sl false false true) J0 Y3)<|Jz (J1 (J1 J2 Jc) Jc) (J1 (J1 J2 Jc) Jb)<|J1 (J1 J2 Jb) Jb)<|J3 (.sl false true false) J0 Ya)<|sQ (J9 (Jf J7<|J4 "try")<|J5<|J3 (.add false) (J3 (.add false) (J3 (.sl false false true) J0 Jp)<|Jt (J1 (J1 J2 Jc) Jb) (J1 J0 Jr) (J1 (J1 (J1 J2 Jb) Jc) Jc)<|J1 (J1 J2 Jb) Jb)<|J3 (.sl false true false) J0 Y5)<|J5 J0)
def r1:Fx.Row:=Jk "with_inner" 1 (top 2) ["step","told"] ["word"] [] t1
def t2:C8:=(sQ (sA 1<|J6 (.lst true)<|Ji (cT aN) J0)<|sQ (sA 2 Jc)<|sQ (sW (tB<|J3 .lt J7<|J6 .len J2) rz8)<|J5 J2)
def r2:Fx.Row:=Jk "bodies_in" 2 (top 3) ["body"] ["found","at","steps","step"] ["found"] t2
def t3:C8:=(sQ (sA 1<|cP (.dct []) aN)<|sQ (sF (J6 .seq<|Jg 2 J0) [2,3] false<|Je<|sF (J6 .seq<|J1 Ja Jc) [4] true<|Je rz9)<|J5<|J6 .srt J2)
def r3:Fx.Row:=Jk "set_names" 3 (top 6) ["body"] ["found","names","within","step"] ["found"] t3
def t4:C8:=(sQ (sP (.setf "set_ones") (Jg 3 J2)<|Jo J0)<|Je<|sP (.setf "places") (J6 (.lstOf true) J7)<|Jo J0)
def r4:Fx.Row:=Jy "__init__" "Boxer.__init__" 4 (zAp (top 7) 0) ["self","body","places"] [] ["@Boxer"] t4
def t5:C8:=(sQ (sA 2<|cL (J6 .seq<|Jg 0 J2) [1,2] false 3 [0] none<|cM "Boxer" "boxed_body" 6 Ja (Yb J2 J7) [])<|J5<|Jq 1 (J3 (.add false) (Jv<|cP .get2<|Ju (cC gR) (J1 J2 Jc)<|J1 J2 Jc)<|J3 (.sl false true false) J2 Jb) J7)
def r5:Fx.Row:=Jy "boxed_step" "Boxer.boxed_step" 5 (zAp (top 7) 1) ["self","step"] ["told"] ["@Boxer"] t5
def t6:C8:=(sQ (sA 3<|cP (.lst true) aN)<|sQ (sA 4<|cP (.lst true) aN)<|sQ (sF (J6 .seq J2) [5] true bdN)<|sQ (sE<|cBM "list" .ext J8<|Jo<|cL (J6 .seq<|J1 J7 Jc) [1] true 2 [0] none<|cM "Boxer" "boxed_step" 5 J7 (Jo J2) [])<|J5<|Ji (J6 .tupOf Ja)<|Ji (J6 .tupOf J8)<|J1 J7 Jb)
def r6:Fx.Row:=Jy "boxed_body" "Boxer.boxed_body" 6 (zAp (top 7) 2) ["self","names","body"] ["given","steps","name","new"] ["given","steps","@Boxer"] t6
def t7:C8:=(sQ (sE<|cBM "list" .app (Y1 "places" J0)<|Jo<|J1 (Y1 "places" J0) J2)<|J5<|J3 .sub (J6 .len<|Y1 "places" J0) Jb)
def r7:Fx.Row:=Jy "new_name" "Boxer.new_name" 7 (zAp (top 7) 3) ["self","name"] [] ["@Boxer"] t7
def t8:C8:=(sQ (sU [1,2] J0)<|sQ (sA 3<|cK "Boxer" 4 (Yb J2 J7) [])<|sQ (sA 4<|cM "Boxer" "boxed_body" 6 Ja (Yb (cT aN) J2) [])<|J5<|Ji (J1 J8 Jb)<|J6 .tupOf<|Y1 "places" Ja)
def r8:Fx.Row:=Jk "boxed" 8 (top 8) ["named"] ["body","places","boxer","told"] [] t8
def t9:C8:=(J5<|cB<|tAn (tB<|J6 (.isT "int") J0)<|tNt<|tB<|J6 (.isT "bool") J0)
def r9:Fx.Row:=Jk "is_number" 9 (top 13) ["thing"] [] [] t9
def t10:C8:=(J5<|cIf (tB<|J6 (.isT "str") J0) (J3 .get1 (cC ir) J0)<|cC .non)
def r10:Fx.Row:=Jk "form_of" 10 (top 24) ["kind"] [] [] t10
def t11:C8:=(sQ (sU [2,3]<|cP .get2<|Ju (cC gS) (J1 J0 Jc)<|Ji (cC .non)<|cC .non)<|sQ (J9 (tB<|J3 .ne J2 Ja)<|J5<|cT aN)<|sQ (sA 4<|J1 J0 J7)<|J5<|cIf (tB<|J6 (.isT "tuple") J8) J8<|Jv J8)
def r11:Fx.Row:=Jk "told_anew" 11 (top 25) ["part","index"] ["names_at","scope_at","names"] [] t11
def t12:C8:=(sQ (sA 1<|J1 J0 Jc)<|sQ (J9 (Jf J2<|J4 "call")<|J5<|J3 (.add false) (Jv<|J1 J0 Jp)<|J1 J0 Jr)<|sQ (J9 (Jf J2<|J4 "math")<|J5<|J3 (.sl false true false) J0 Jr)<|sQ (J9 (Jf J2<|J4 "make")<|J5<|J1 J0 Jr)<|sQ (J9 (tB<|J3 .inn J2<|Ji (J4 "set")<|J4 "raise")<|J5<|Jv<|J1 J0 Jr)<|sQ (J9 (tB<|J3 .inn J2<|Jz (J4 "if") (J4 "match")<|J4 "tell")<|J5<|Jv<|J1 J0 Jp)<|J5<|cT aN)
def r12:Fx.Row:=Jk "parts_ahead" 12 (top 26) ["part"] ["kind"] [] t12
def t13:C8:=(sQ (J9 (tOr' (tNt<|tB<|J6 (.isT "str") J0)<|tNt<|tCh .le .le Jb (J6 .len J0)<|Jj 8)<|J5<|cC<|.bl false)<|J5<|J6 .all<|cL (J6 .seq J0) [1] true 2 [] none<|cB<|tB<|J3 .inn J2<|J4 "abcdefghijklmnopqrstuvwxyz")
def r13:Fx.Row:=Jk "is_word" 13 (top 27) ["thing"] [] [] t13
def t14:C8:=(J5<|cB<|tAn (tB<|Jg 13 J0)<|tB<|J3 .nin J0<|cC<|.kt [(.str "fn"),(.str "call"),(.str "let"),(.str "set"),(.str "do"),(.str "if"),(.str "add"),(.str "sub"),(.str "mul"),(.str "less"),(.str "same"),(.str "make"),(.str "match"),(.str "raise"),(.str "try"),(.str "tell"),(.str "ask")])
def r14:Fx.Row:=Jk "is_name" 14 (top 28) ["thing"] [] [] t14
def t15:C8:=(J5<|cB<|tAn (tB<|Jg 9 J0)<|tCh .le .le Jc J0<|Jj 599)
def r15:Fx.Row:=Jk "is_place" 15 (top 29) ["thing"] [] [] t15
def t16:C8:=(J5<|cB<|tAn (tB<|Jg 9 J0)<|tB<|J3 .lt (J6 .abs J0)<|J3 .pow (Jj 10)<|Jj 12)
def r16:Fx.Row:=Jk "is_written_number" 16 (top 30) ["thing"] [] [] t16
def t17:C8:=(sQ (J9 (tB<|J6 (.isT "tuple") J0)<|J5<|J3 (.add false) (cT aN) J0)<|sQ (J9 (tB<|J6 (.isT "str") J0)<|J5<|cBM "str" .join (J4 "")<|Jo<|J6 (.lst false) J0)<|sQ (J9 (tB<|Jg 9 J0)<|J5<|J6 .int1 J0)<|J5 J0)
def r17:Fx.Row:=Jk "plain" 17 (top 31) ["thing"] [] [] t17
def t18:C8:=(Je<|sP (.setf "places") (cP (.dct []) aN)<|Jo J0)
def r18:Fx.Row:=Jy "__init__" "Checker.__init__" 18 (zAp (top 32) 0) ["self"] [] ["@Checker"] t18
def t19:C8:=(sQ (sA 4<|Jg 17 J2)<|sQ (J9 (tOr' (tNt<|tB<|J6 (.isT "tuple") J8)<|tB<|J3 .lt (J6 .len J8) Jp)<|Je sZ)<|sQ (sA 5<|J3 (.lst true) (Jg 17<|J1 J8 Jc)<|Jg 17<|J1 J8 Jb)<|sQ (sA 6<|Jg 10<|J1 Jd Jc)<|sQ (J9 (tOr' (tB<|J6 .isN Jh)<|tB<|J3 .ne (J6 .len J8)<|J3 (.add false) Jp<|J6 .len Jh)<|Je sZ)<|sQ (sE<|cM "Checker" "check_place" 20 J0 (Jo<|J1 Jd Jb) [])<|sQ (J9 (tB<|J3 .nin (J1 Jd Jc)<|Ji (J4 "number")<|J4 "name")<|Je<|sA 3<|J3 (.add false) Ja Jb)<|sQ (J9 (tB<|J3 .gt Ja<|Jj 20)<|Je sZ)<|sQ (sF (J3 .zip Jh<|J3 (.sl false true false) J8 Jp) [7,8] false<|zHv)<|J5<|J6 .tupOf Jd)
def r19:Fx.Row:=Jy "check_part" "Checker.check_part" 19 (zAp (top 32) 1) ["self","thing","there","within"] ["part","known","form","sort","inner","scope"] ["known","@Checker"] t19
def t20:C8:=(sQ (J9 (tOr' (tNt<|tB<|Jg 15 J2)<|tB<|J3 .inn J2<|Y1 "places" J0)<|Je sZ)<|sQ (sP .seti (cC<|.bl true)<|zAx (Y1 "places" J0) J2)<|Je<|J9 (tB<|J3 .gt (J6 .len<|Y1 "places" J0)<|Jj 300)<|Je sZ)
def r20:Fx.Row:=Jy "check_place" "Checker.check_place" 20 (zAp (top 32) 2) ["self","place"] [] ["@Checker"] t20
def t21:C8:=(sQ (J9 (Jf J2<|J4 "part")<|J5<|cM "Checker" "check_part" 19 J0 (Ju J7 Ja J8) [])<|sQ (J9 (Jf J2<|J4 "parts")<|J5<|J6 .tupOf<|cL (J6 .seq<|Jg 22 J7) [1] true 2 [4,3,0] none<|cM "Checker" "check_part" 19 J8 (Ju J2 Ja J7) [])<|sQ (J9 (Jf J2<|J4 "names")<|J5<|Jg 23 J7)<|sQ (sA 5<|Jg 17 J7)<|sQ (J9 (tNt<|tB<|Jm 24<|Ju J2 Jd Ja)<|Je sZ)<|J5 Jd)
def r21:Fx.Row:=Jy "check_thing" "Checker.check_thing" 21 (zAp (top 32) 3) ["self","sort","thing","there","within"] ["single"] ["@Checker"] t21
def t22:C8:=(sQ (sA 1<|Jg 17 J0)<|sQ (J9 (tOr' (tNt<|tB<|J6 (.isT "tuple") J2)<|tB<|J3 .gt (J6 .len J2) Y3)<|Je sZ)<|J5 J2)
def r22:Fx.Row:=Jk "checked_row" 22 (top 33) ["thing"] ["row"] [] t22
def t23:C8:=(sQ (sA 1<|J6 .tupOf<|cL (J6 .seq<|Jg 22 J0) [1] true 2 [] none<|Jg 17 J2)<|sQ (J9 (tOr' (tNt<|tB<|J6 .all<|cL (J6 .seq J2) [1] true 2 [] none<|Jg 14 J2)<|tB<|J3 .lt (J6 .lenset J2)<|J6 .len J2)<|Je sZ)<|J5 J2)
def r23:Fx.Row:=Jk "checked_names" 23 (top 34) ["thing"] ["names"] [] t23
def t24:C8:=(sQ (J9 (Jf J0<|J4 "number")<|J5<|Jg 16 J2)<|sQ (J9 (Jf J0<|J4 "op")<|J5<|cB<|tAn (tB<|Jg 13 J2)<|tB<|J3 .inn J2<|cC<|.kt [(.str "add"),(.str "sub"),(.str "mul"),(.str "less"),(.str "same")])<|sQ (J9 (Jf J0<|J4 "word")<|J5<|Jg 13 J2)<|sQ (J9 (Jf J0<|J4 "used")<|J5<|cB<|tAn (tB<|Jg 14 J2)<|tB<|J3 .inn J2 J7)<|J5<|Jg 14 J2)
def r24:Fx.Row:=Jk "fits" 24 (top 35) ["sort","thing","there"] [] [] t24
def t25:C8:=(J5<|cM "Checker" "check_part" 19 (cK "Checker" 18 aN []) (Ju J0 (cT aN) Jc) [])
def r25:Fx.Row:=Jk "checked_program" 25 (top 36) ["thing"] [] [] t25
def t26:C8:=(sQ (sA 1<|cP .dctT aN)<|sQ (sE<|Jm 27<|Ju J0 (cP (.dct []) aN) J2)<|J5 J2)
def r26:Fx.Row:=Jk "set_bindings" 26 (top 38) ["program"] ["found"] ["#found"] t26
def t27:C8:=(sQ (J9 (Jf (J1 J0 Jc)<|J4 "set")<|Je<|sP .seti (cC<|.bl true)<|zAx J7<|Ji (J1 J2<|J1 J0 Jp)<|J1 J0 Jp)<|Je<|sF (J6 .enm2<|Jg 10<|J1 J0 Jc) [3,4] false<|sQ (sA 5<|J6 .dctOf J2)<|sQ (sF (J6 .seq<|Jq 11 J0 Ja) [6] true bdT)<|Je<|sI (Jf J8<|J4 "part") (Je<|sE<|Jm 27<|Ju (J1 J0 Ja) Jd J7)<|Je<|J9 (Jf J8<|J4 "parts")<|Je<|sF (J6 .seq<|J1 J0 Ja) [7] true bdP)
def r27:Fx.Row:=Jk "find_sets" 27 (top 39) ["part","scope","found"] ["index","sort","grown","name","one"] ["found","grown"] t27
def t28:C8:=(sQ (sP (.setf "set_ones") (Jg 26 J2)<|Jo J0)<|Je<|sP (.setf "places") (cP (.lst true) aN)<|Jo J0)
def r28:Fx.Row:=Jy "__init__" "Namer.__init__" 28 (zAp (top 40) 0) ["self","program"] [] ["@Namer"] t28
def t29:C8:=(sQ (sE<|cBM "list" .app (Y1 "places" J0)<|Jo J2)<|J5<|J3 .sub (J6 .len<|Y1 "places" J0) Jb)
def r29:Fx.Row:=Jy "new_name" "Namer.new_name" 29 (zAp (top 40) 1) ["self","place"] [] ["@Namer"] t29
def t30:C8:=(sQ (sA 4<|cP (.lst true) aN)<|sQ (sA 5<|cM "Namer" "atom_of" 31 J0 (Jn J2 J7 Ja J8) [])<|J5<|Ji (J6 .tupOf J8) Jd)
def r30:Fx.Row:=Jy "body_of" "Namer.body_of" 30 (zAp (top 40) 2) ["self","part","scope","last"] ["steps","atom"] ["steps","@Namer"] t30
def t31:C8:=(sQ (sA 5<|J1 J2 Jc)<|sQ (J9 (Jf Jd<|J4 "number")<|J5<|Ji (J4 "number")<|J1 J2 Jp)<|sQ (J9 (Jf Jd<|J4 "name")<|J5<|cM "Namer" "atom_of_name" 32 J0 (Ju J2 J7 J8) [])<|sQ (J9 (Jf Jd<|J4 "do")<|sQ (sE<|cM "Namer" "atom_of" 31 J0 (Jn (J1 J2 Jp) J7 (cC<|.bl false) J8) [])<|J5<|cM "Namer" "atom_of" 31 J0 (Jn (J1 J2 Jr) J7 Ja J8) [])<|sQ (J9 (Jf Jd<|J4 "let")<|J5<|cM "Namer" "atom_of_let" 33 J0 (Jn J2 J7 Ja J8) [])<|sQ (sA 6<|J6 .tupOf<|cL (J6 .seq<|Jg 12 J2) [1] true 2 [4,0,2] none<|cM "Namer" "atom_of" 31 Ja (Jn J2 J8 (cC<|.bl false) J7) [])<|sQ (sI (tB<|J3 .inn Jd<|Jt (J4 "fn") (J4 "if") (J4 "match")<|J4 "try") (Je<|sU [7,8]<|cM "Namer" "outer_step" 34 J0 (Jn J2 Jh J7 Ja) [])<|Je<|sU [7,8]<|Jm 36<|Jn J2 Jh J7 Ja) zG5)
def r31:Fx.Row:=Jy "atom_of" "Namer.atom_of" 31 (zAp (top 40) 3) ["self","part","scope","last","steps"] ["kind","atoms","word","more","to"] ["steps","@Namer"] t31
def t32:C8:=(sQ (sU [4,5]<|J1 J7<|J1 J2 Jp)<|sQ (J9 (tNt<|tB<|J6 .tru Jd)<|J5 J8)<|sQ (sA 6<|cM "Namer" "new_name" 29 J0 (Jo<|J1 J2 Jb) [])<|sQ (sE<|cBM "list" .app Ja<|Jo<|Jz (J4 "read") Jh<|J1 J8 Jb)<|J5<|Ji (J4 "name") Jh)
def r32:Fx.Row:=Jy "atom_of_name" "Namer.atom_of_name" 32 (zAp (top 40) 4) ["self","part","scope","steps"] ["atom","is_set","to"] ["steps","@Namer"] t32
def t33:C8:=(sQ (sU [5,6,7,8,9] J2)<|sQ (sA 10<|cM "Namer" "atom_of" 31 J0 (Jn Y2 J7 (cC<|.bl false) J8) [])<|sQ (sA 11<|cB<|tB<|J3 .inn (Ji Jh Js)<|Y1 "set_ones" J0)<|sQ (J9 (tB<|J6 .tru Y7)<|sQ (sA 12<|cM "Namer" "new_name" 29 J0 (Jo Jh) [])<|sQ (sE<|cBM "list" .app J8<|Jo<|Jt (J4 "start") Y8 Y9 Jh)<|Je<|sA 10<|Ji (J4 "name") Y8) zG2)
def r33:Fx.Row:=Jy "atom_of_let" "Namer.atom_of_let" 33 (zAp (top 40) 5) ["self","part","scope","last","steps"] ["kind","place","name","one","other","atom","is_set","to","grown"] ["steps","grown","@Namer"] t33
def t34:C8:=(sQ (sU [5,6]<|J3 (.sl false false true) J2 Jp)<|sQ (J9 (Jf Jd<|J4 "fn")<|sQ (sU [7,8]<|cM "Namer" "bound_body" 35 J0 (Jx (J1 J2 Jp) (J1 J2 Jr) Jh Ja<|cC<|.bl true) [])<|J5<|Ji (J4 "func")<|Jz Js Y2 Jh)<|sQ (J9 (Jf Jd<|J4 "if")<|sQ (sA 10<|J6 .tupOf<|cL (J6 .seq<|J3 (.sl false true false) J2 Jr) [1] true 2 [0,3,4] none<|cM "Namer" "body_of" 30 J7 (Ju J2 Ja J8) [])<|J5<|Ji (J4 "if")<|J3 (.add false) (J3 (.add false) J7 Y9)<|Jv Jh)<|sQ (J9 (Jf Jd<|J4 "match")<|sQ (sU [11,12]<|cM "Namer" "bound_body" 35 J0 (Jx (J1 J2 Y3) (J1 J2 Y0) Jh Ja J8) [])<|J5<|Ji (J4 "match")<|J3 (.add false) J7<|Y6 (J1 J2 Jr) Y7 Y8 (cM "Namer" "body_of" 30 J0 (Ju (J1 J2 Y5) Ja J8) []) Jh)<|sQ (sA 9<|cM "Namer" "body_of" 30 J0 (Ju (J1 J2 Jp) Ja<|cC<|.bl false) [])<|sQ (sU [11,13]<|cM "Namer" "bound_body" 35 J0 (Jx (Jv<|J1 J2 Y3) (J1 J2 Y0) Jh Ja J8) [])<|J5<|Ji (J4 "try")<|Y6 Y4 (J1 J2 Jr) (J1 Y7 Jc) Yc Jh)
def r34:Fx.Row:=Jy "outer_step" "Namer.outer_step" 34 (zAp (top 40) 6) ["self","part","atoms","scope","last"] ["kind","place","params","body","one","bodies","names","yes","other"] ["@Namer"] t34
def t35:C8:=(sQ (sA 6<|J6 .dctOf J8)<|sQ (sA 7<|cP (.lst true) aN)<|sQ (sF (J6 .seq J2) [8] true zI4)<|J5<|Ji (J6 .tupOf Js)<|cM "Namer" "body_of" 30 J0 (Ju J7 Jh Jd) [])
def r35:Fx.Row:=Jy "bound_body" "Namer.bound_body" 35 (zAp (top 40) 7) ["self","names","part","place","scope","last"] ["grown","given","name","to"] ["given","grown","@Namer"] t35
def t36:C8:=(sQ (sU [4,5]<|J3 (.sl false false true) J0 Jp)<|sQ (J9 (Jf J8<|J4 "call")<|J5<|Ji (J4 "call")<|Jt (J1 J2 Jc) (J3 (.sl false true false) J2 Jb) Jd Ja)<|sQ (J9 (Jf J8<|J4 "make")<|J5<|Ji (J4 "make")<|Jz (J1 J0 Jp) J2 Jd)<|sQ (J9 (Jf J8<|J4 "set")<|J5<|Ji (J4 "set")<|J3 (.add false) (J3 (.add false) (Jv<|J1 (J1 (J1 J7<|J1 J0 Jp) Jc) Jb) J2)<|Jv Jd)<|sQ (J9 (tB<|J3 .inn J8<|Ji (J4 "math")<|J4 "raise")<|J5<|Ji J8<|J3 (.add false) (J3 (.add false) (Jv<|J1 J0 Jp) J2)<|Jv Jd)<|J5<|Ji J8<|J3 (.add false) J2<|Jv Jd)
def r36:Fx.Row:=Jk "plain_step" 36 (top 41) ["part","atoms","scope","last"] ["kind","place"] [] t36
def t37:C8:=(sQ (sA 1<|Jg 25 J0)<|sQ (sA 2<|cK "Namer" 28 (Jo J2) [])<|sQ (sA 3<|cM "Namer" "body_of" 30 J7 (Ju J2 (cP (.dct []) aN)<|cC<|.bl true) [])<|J5<|Ji Ja<|J6 .tupOf<|Y1 "places" J7)
def r37:Fx.Row:=Jk "named" 37 (top 42) ["program"] ["checked","namer","body"] [] t37
def t38:C8:=(sQ (J9 (tB<|J3 .lt J2<|J6 .len J0)<|J5<|J1 J0 J2)<|J5 Jc)
def r38:Fx.Row:=Jk "_law_cell_at" 38 (top 44) ["_law_script","_law_k"] [] [] t38
def t39:C8:=(sQ (sA 1<|J4 "abcdefghijklmnopqrstuvwxyz")<|sQ (sA 2<|J3 (.add false) Jb<|J3 .mod J0<|Jj 8)<|sQ (sA 3<|J3 .mod (J3 .fdiv J0<|Jj 8) J7)<|sQ (sA 5<|J6 .thw<|cL (J6 .rng1 J7) [1] true 2 [1,0] none<|J1 J7<|J3 .mod (J3 (.add false) (J3 .fdiv (J3 .fdiv Ja<|Jj 64)<|J3 (.add false) J2 Jb)<|J3 .mul Y0 J2)<|Jj 26)<|sQ (sP .seti (J1 (J4 "gjpqvwxz")<|J3 .mod (J3 .fdiv J0<|Jj 8)<|Jj 8)<|zAx Jd<|J3 .mod (J3 (.add false) Ja Jb) J7)<|sQ (sA 6<|cP (.lst true) aN)<|sQ (sF (J6 .rng1 Y0) [4] true zI3)<|J5<|J6 .frz Jh)
def r39:Fx.Row:=Jk "_law_words" 39 (top 45) ["_law_cell"] ["_law_letters","_law_size","_law_at","_law_k","_law_base","_law_words_here"] ["_law_base","_law_words_here","!_law_base","!_law_words_here"] t39
def t40:C8:=(sQ (sA 4<|J3 .max J0<|J3 .sub (J6 .neg Jb) J0)<|J5<|cP (.dct ["number","seed","parts","places","shift"])<|Jx J8 (J3 .mod J2<|Jj 2147483646) J7 Jc<|J3 .mod Ja<|Jj 600)
def r40:Fx.Row:=Jk "_law_state" 40 (top 46) ["_law_cell","_law_seed","_law_parts","_law_shift"] ["_law_number"] [] t40
def t41:C8:=(sQ (J9 (tAn (Jf (J1 J0<|J4 "number") Jc)<|tB<|J3 .gt (J1 J0<|J4 "seed") Jc)<|sQ (sP .seti (J3 .mod (J3 .mul (J1 J0<|J4 "seed")<|Jj 48271)<|Jj 2147483647)<|zAx J0<|J4 "seed")<|Je<|sP .seti (J3 .mod (J3 .mul (J1 J0<|J4 "seed")<|J1 J0<|J4 "seed")<|Jj 2147483629)<|zAx J0<|J4 "number") rz1)
def r41:Fx.Row:=Jk "_law_take" 41 (top 47) ["_law_state_here","_law_many"] ["_law_digit"] ["_law_state_here"] t41
def t42:C8:=(sQ (sP .seti (J3 (.add true) (J1 J0<|J4 "places") Jb)<|zAx J0<|J4 "places")<|sQ (sP .seti (J3 .sub (J1 J0<|J4 "parts") Jb)<|zAx J0<|J4 "parts")<|J5<|J3 .mod (J3 (.add false) (J3 .mul Ya<|J1 J0<|J4 "places")<|J1 J0<|J4 "shift")<|Jj 600)
def r42:Fx.Row:=Jk "_law_place" 42 (top 48) ["_law_state_here"] [] ["_law_state_here"] t42
def t43:C8:=(sQ (sA 2<|Jg 42 J0)<|sQ (J9 (tAn (tB<|J3 .ne J2<|cP (.lst false) aN)<|tB<|J3 .gt (Jq 41 J0 Jr) Jc)<|J5<|Jz (J4 "name") J7<|J1 J2<|Jq 41 J0<|J6 .len J2) zH8)
def r43:Fx.Row:=Jk "_law_atom" 43 (top 49) ["_law_state_here","_law_scope"] ["_law_place_here","_law_number"] [] t43
def t44:C8:=(J5<|J6 .tupOf<|cL (J6 .rng1<|Jq 41 J0 Y0) [1] true 2 [0,2,1,3] none<|Jm 51<|Jn J7 J8 Ja Jd)
def r44:Fx.Row:=Jk "_law_some" 44 (top 50) ["_law_state_here","_law_names","_law_scope","_law_deep"] [] [] t44
def t45:C8:=(sQ (sA 2<|Jq 41 J0<|J6 .len J2)<|sQ (sA 3<|J3 .min (Jq 41 J0 Y0)<|J6 .len J2)<|J5<|J6 .tupOf<|cL (J6 .rng1 Ja) [1] true 2 [1,2] none<|J1 J7<|J3 .mod (J3 (.add false) Ja J2)<|J6 .len J7)
def r45:Fx.Row:=Jk "_law_unlike" 45 (top 51) ["_law_state_here","_law_names"] ["_law_first","_law_many"] [] t45
def t46:C8:=(sQ (sPr 4 5 (J1 J2<|Jq 41 J0<|J6 .len J2)<|J4 "n")<|sQ (sA 6<|cL (J6 .rng1<|Jj 14) [1] true 2 [0] none<|Jg 42 J7)<|sQ (sA 7<|J3 (.add false) J7<|J3 (.lst false) J8 Jd)<|sQ (sA 8<|Jm 51<|Jn J0 J2 Js<|J3 .sub Ja Y5)<|sQ (sA 9<|Jm 51<|Jn J0 J2 Js<|J3 .sub Ja Y5)<|sQ rz4 zFb)
def r46:Fx.Row:=Jk "_law_loop" 46 (top 52) ["_law_state_here","_law_names","_law_scope","_law_deep"] ["_law_f","_law_n","_law_p","_law_wide_here","_law_body","_law_end","_law_less","_law_again","_law_step","_law_start"] [] t46
def t47:C8:=(sQ (sA 5<|Jg 42 J0)<|sQ (sA 6<|Jq 45 J0 J2)<|sQ (sA 7<|J1 J2<|Jq 41 J0<|J6 .len J2) rz6)
def r47:Fx.Row:=Jk "_law_bind" 47 (top 53) ["_law_state_here","_law_names","_law_scope","_law_deep","_law_way"] ["_law_place_here","_law_some_here","_law_one","_law_begin","_law_tag","_law_yes"] [] t47
def t48:C8:=(J5<|J1 (cP (.lst false)<|aC (J4 "kind")<|Jx (J4 "odd") (J4 "big") (J4 "a") (J4 "b")<|J4 "ab")<|Jq 41 J0 Y5)
def r48:Fx.Row:=Jk "_law_word" 48 (top 54) ["_law_state_here"] [] [] t48
def t49:C8:=(sQ (sA 5<|Jg 42 J0)<|sQ (J9 (tAn (Jf J8 Jc)<|tB<|J3 .ne J7<|cP (.lst false) aN)<|sQ (sA 6<|J1 J7<|Jq 41 J0<|J6 .len J7)<|J5<|Jt (J4 "set") Jd Jh<|Jm 51<|Jn J0 J2 J7 Ja)<|sQ (J9 (Jf J8 Jb)<|J5<|Jt (J4 "make") Jd (Jg 48 J0)<|Jm 44<|Jn J0 J2 J7 Ja)<|sQ (J9 (Jf J8 Jp)<|J5<|Ji (J4 "ask") Jd) zG3)
def r49:Fx.Row:=Jk "_law_plain" 49 (top 55) ["_law_state_here","_law_names","_law_scope","_law_deep","_law_way"] ["_law_place_here","_law_one","_law_first","_law_other"] [] t49
def t50:C8:=(sQ (sA 4<|J1 J2<|Jq 41 J0<|J6 .len J2)<|sQ (sA 5<|Jq 45 J0 J2)<|sQ (sA 6<|Jt (J4 "fn") (Jg 42 J0) Jd<|Jm 51<|Jn J0 J2 (J3 (.add false) J7<|J6 (.lstOf false) Jd)<|J3 .sub Ja Jr)<|sQ (sA 7<|Jg 42 J0)<|sQ (sA 8<|J6 .tupOf<|cL (J6 .seq Jd) [1] true 2 [0,2,1,4,3] none<|Jm 51<|Jn J7 J8 (J3 (.add false) Ja<|J6 (.lst false) Jd)<|J3 .sub Jh Jr)<|sQ (sA 9<|Jt (J4 "call") (Jg 42 J0) (Jz (J4 "name") (Jg 42 J0) J8) Y2) rz2)
def r50:Fx.Row:=Jk "_law_helper" 50 (top 56) ["_law_state_here","_law_names","_law_scope","_law_deep"] ["_law_f","_law_some_here","_law_wide_here","_law_place_here","_law_args","_law_call"] [] t50
def t51:C8:=(sQ (sA 4<|Jq 41 J0<|Jj 26)<|sQ (J9 (tOr' (tB<|J3 .lt J8 Jr)<|tOr' (tB<|J3 .le Ja Jc)<|tB<|J3 .le (J1 J0<|J4 "parts") Jc)<|J5<|Jq 43 J0 J7) zH7)
def r51:Fx.Row:=Jk "_law_part" 51 (top 57) ["_law_state_here","_law_names","_law_scope","_law_deep"] ["_law_way"] [] t51
def t52:C8:=(sQ (sA 2 Jc)<|sQ (J9 (Jf (J3 .mod (Jq 38 J0 Jb) Jp) Jb)<|Je<|sA 2<|J3 (.add false) Jb<|J3 .mod (Jq 38 J0 Jb)<|Jj 2147483645) rz5)
def r52:Fx.Row:=Jk "_law_program" 52 (top 58) ["_law_script","_law_parts"] ["_law_seed","_law_state_here"] [] t52
def t53:C8:=(sQ (sA 1<|cP (.lst true) aN)<|sQ (sF (J6 .seq<|J1 J0 Jc) [2] true<|sQ (J9 (Jf (J1 J7 Jc)<|J4 "start")<|Je<|sE<|cBM "list" .app J2<|Jo<|J1 J7 Jb)<|sQ rz7<|Je<|sF (J6 .seq<|Jg 54 J7) [3,4] false<|Je<|sE<|cBM "list" .ext J2<|Jo<|Jg 53 J8)<|J5 J2)
def r53:Fx.Row:=Jk "_law_meant" 53 (top 59) ["_law_body"] ["_law_found","_law_step","_law_names","_law_one"] ["_law_found"] t53
def t54:C8:=(sQ (sA 1<|J1 J0 Jc)<|sQ (J9 (Jf J2<|J4 "func")<|J5<|J6 (.lst false)<|Ji (J1 J0 Jp)<|J1 J0 Jr)<|sQ (J9 (Jf J2<|J4 "if")<|J5<|J3 (.lst false) (Ji (cT aN)<|J1 J0 Jr)<|Ji (cT aN)<|J1 J0 Y3)<|sQ (J9 (Jf J2<|J4 "match")<|J5<|J3 (.lst false) (Ji (J1 J0 Y3)<|J1 J0 Y0)<|Ji (cT aN)<|J1 J0 Y5)<|sQ (J9 (Jf J2<|J4 "try")<|J5<|J3 (.lst false) (Ji (cT aN)<|J1 J0 Jp)<|Ji (Jv<|J1 J0 Y3)<|J1 J0 Y0)<|J5<|cP (.lst false) aN)
def r54:Fx.Row:=Jk "_law_bodies" 54 (top 60) ["_law_step"] ["_law_word_here"] [] t54
def t55:C8:=(sQ (sA 2<|J1 J0 Jc)<|sQ (J9 (Jf J7<|J4 "func")<|J5<|Y6 (J4 "func") (J1 J0 Jb) (J1 (J1 J2 Jc) Jc) (J1 (J1 J2 Jc) Jb)<|J1 J0 Y3)<|sQ (J9 (Jf J7<|J4 "if")<|J5<|cT<|aC (J4 "if")<|Jx (J1 J0 Jb) (J1 J0 Jp) (J1 (J1 J2 Jc) Jb) (J1 (J1 J2 Jb) Jb)<|J1 J0 Y0)<|sQ (J9 (Jf J7<|J4 "match")<|J5<|cT<|aC (J4 "match")<|aC (J1 J0 Jb)<|aC (J1 J0 Jp)<|Jx (J1 J0 Jr) (J1 (J1 J2 Jc) Jc) (J1 (J1 J2 Jc) Jb) (J1 (J1 J2 Jb) Jb)<|J1 J0 Ya)<|J5<|cT<|aC (J4 "try")<|aC (J1 J0 Jb)<|Jx (J1 (J1 J2 Jc) Jb) (J1 J0 Jr) (J1 (J1 (J1 J2 Jb) Jc) Jc) (J1 (J1 J2 Jb) Jb)<|J1 J0 Y5)
def r55:Fx.Row:=Jk "_law_put" 55 (top 61) ["_law_step","_law_bodies_here"] ["_law_word_here"] [] t55
def t56:C8:=(sQ (J9 (tB<|J3 .ne (J6 .len J0)<|J6 .len J2)<|J5<|cC<|.bl false)<|sQ (sF (J3 .zip J0 J2) [3,4] false zHu)<|J5<|cC<|.bl true)
def r56:Fx.Row:=Jk "_law_steps" 56 (top 62) ["_law_due","_law_found","_law_walk"] ["_law_one","_law_other","_law_words_here"] [] t56
def t57:C8:=(sQ (J9 (tOr' (tNt<|tB<|J6 (.isT "tuple") J2)<|tOr' (tB<|J3 .ne (J6 .len J2)<|J6 .len J0)<|tB<|J3 .ne (J1 J0 Jc)<|J1 J2 Jc)<|J5<|cC<|.bl false)<|sQ (sA 3<|Jg 54 J0)<|sQ (sA 4<|Jg 54 J2)<|sQ (J9 (tB<|J3 .ne (Jq 55 J0 J8) J2)<|J5<|cC<|.bl false)<|sQ (sF2 (J3 .zip Ja J8) [5,6] [7,8] zI2)<|J5<|cC<|.bl true)
def r57:Fx.Row:=Jk "_law_wide" 57 (top 63) ["_law_one","_law_other","_law_walk"] ["_law_mine","_law_theirs","_law_names","_law_body","_law_others","_law_behind"] [] t57
def t58:C8:=(sQ (J9 (tOr' (tNt<|tB<|J6 (.isT "tuple") J7)<|tOr' (tB<|J3 .ne (J6 .len J7)<|J6 .len J0)<|tB<|J3 .ne (J1 Ja Jb)<|J1 J2 Jb)<|J5<|cC<|.bl false)<|sQ (sA 5<|cP (.lst true) aN)<|sQ (sF (J3 .zip J0 J7) [6,7] false bdO)<|sQ (J9 (tB<|J3 .ne (J6 (.lstOf false)<|J3 (.sl false false true) (J1 Ja Jc)<|J6 .len Jd) Jd)<|J5<|cC<|.bl false)<|J5<|Jm 56<|Ju (J1 J2 Jc) (J3 (.sl false true false) (J1 Ja Jc)<|J6 .len Jd) J8)
def r58:Fx.Row:=Jk "_law_opened" 58 (top 64) ["_law_names","_law_body","_law_others","_law_behind","_law_walk"] ["_law_ahead","_law_name","_law_other"] ["_law_ahead"] t58
def t59:C8:=(sQ (sA 1<|Jg 37<|Jq 52 J0<|Jj 80)<|sQ (sA 2<|Jg 8 J2)<|sQ (J9 (tOr' (tNt<|tB<|J6 (.isT "tuple") J7)<|tOr' (tB<|J3 .ne (J6 .len J7) Jp)<|tNt<|tB<|J6 (.isT "tuple")<|J1 J7 Jb)<|J5<|cC<|.bl false)<|sQ (sA 3<|cP (.dct ["set","many","places","new"])<|Jn (Jg 53<|J1 J2 Jc) (J6 .len<|J1 J2 Jb) (J1 J7 Jb)<|cP (.lst true) aN)<|sQ (J9 (tOr' (tB<|J3 .ne (J3 (.sl false false true) (J1 J7 Jb)<|J6 .len<|J1 J2 Jb)<|J1 J2 Jb)<|tNt<|tB<|Jm 58<|Jx (cT aN) (J1 J2 Jc) (cT aN) (J1 J7 Jc) Ja)<|J5<|cC<|.bl false)<|sQ (J9 (tB<|J3 .ne (J6 .srt<|J1 Ja<|J4 "new")<|J3 .lrng (J6 .len<|J1 J2 Jb)<|J6 .len<|J1 J7 Jb)<|J5<|cC<|.bl false)<|J5<|cB<|tAn (Jf (Jg 8 J2) J7)<|Jf J2<|Jg 37<|Jq 52 J0<|Jj 80)
def r59:Fx.Row:=Jk "law" 59 (top 65) ["_law_script"] ["_law_program_here","_law_found","_law_walk"] [] t59
def rows:B4 Fx.Row:=[r0,r1,r2,r3,r4,r5,r6,r7,r8,r9,r10,r11,r12,r13,r14,r15,r16,r17,r18,r19,r20,r21,r22,r23,r24,r25,r26,r27,r28,r29,r30,r31,r32,r33,r34,r35,r36,r37,r38,r39,r40,r41,r42,r43,r44,r45,r46,r47,r48,r49,r50,r51,r52,r53,r54,r55,r56,r57,r58,r59]
def tab:Nat->B5 De:=zFc rows
def zG6:∀r∈rows,zEt tb tab r:=by
 repeat' first|exact alln|refine allc (zJs (by kernel_rfl) (by kernel_rfl)<|by kernel_rfl) ?_
def bd1{r:Fx.Row}(hp:r.ps.length=1)(h:∀(kV doc pm:B6)(an:B5 B9)(cdv ct x0:B6),bindArgs (PySem.W.fnOf r.x r.qual (zAt r.st) (zAl r.st) (zAd r.st) .none kV doc pm an cdv ct) ⟨[x0],[]⟩=pure (r.ps.zip [x0]):=by intros;rfl):BdC r:=λ_ _ _ _ _ _ us hl=>by
 let⟨_,rfl⟩:=zIs<|hl.trans hp;exact h ..
def bd2{r:Fx.Row}(hp:r.ps.length=2)(h:∀(kV doc pm:B6)(an:B5 B9)(cdv ct x0 x1:B6),bindArgs (PySem.W.fnOf r.x r.qual (zAt r.st) (zAl r.st) (zAd r.st) .none kV doc pm an cdv ct) ⟨[x0,x1],[]⟩=pure (r.ps.zip [x0,x1]):=by intros;rfl):BdC r:=λ_ _ _ _ _ _ us hl=>by
 let⟨_,_,rfl⟩:=zIr<|hl.trans hp;exact h ..
def bd3{r:Fx.Row}(hp:r.ps.length=3)(h:∀(kV doc pm:B6)(an:B5 B9)(cdv ct x0 x1 x2:B6),bindArgs (PySem.W.fnOf r.x r.qual (zAt r.st) (zAl r.st) (zAd r.st) .none kV doc pm an cdv ct) ⟨[x0,x1,x2],[]⟩=pure (r.ps.zip [x0,x1,x2]):=by intros;rfl):BdC r:=λ_ _ _ _ _ _ us hl=>by
 let⟨_,_,_,rfl⟩:=zIq<|hl.trans hp;exact h ..
def bd4{r:Fx.Row}(hp:r.ps.length=4)(h:∀(kV doc pm:B6)(an:B5 B9)(cdv ct x0 x1 x2 x3:B6),bindArgs (PySem.W.fnOf r.x r.qual (zAt r.st) (zAl r.st) (zAd r.st) .none kV doc pm an cdv ct) ⟨[x0,x1,x2,x3],[]⟩=pure (r.ps.zip [x0,x1,x2,x3]):=by intros;rfl):BdC r:=λ_ _ _ _ _ _ us hl=>by
 let⟨_,_,_,_,rfl⟩:=zIp<|hl.trans hp;exact h ..
def bd5{r:Fx.Row}(hp:r.ps.length=5)(h:∀(kV doc pm:B6)(an:B5 B9)(cdv ct x0 x1 x2 x3 x4:B6),bindArgs (PySem.W.fnOf r.x r.qual (zAt r.st) (zAl r.st) (zAd r.st) .none kV doc pm an cdv ct) ⟨[x0,x1,x2,x3,x4],[]⟩=pure (r.ps.zip [x0,x1,x2,x3,x4]):=by intros;rfl):BdC r:=λ_ _ _ _ _ _ us hl=>by
 let⟨_,_,_,_,_,rfl⟩:=zIo<|hl.trans hp;exact h ..
def bd6{r:Fx.Row}(hp:r.ps.length=6)(h:∀(kV doc pm:B6)(an:B5 B9)(cdv ct x0 x1 x2 x3 x4 x5:B6),bindArgs (PySem.W.fnOf r.x r.qual (zAt r.st) (zAl r.st) (zAd r.st) .none kV doc pm an cdv ct) ⟨[x0,x1,x2,x3,x4,x5],[]⟩=pure (r.ps.zip [x0,x1,x2,x3,x4,x5]):=by intros;rfl):BdC r:=λ_ _ _ _ _ _ us hl=>by
 let⟨_,_,_,_,_,_,rfl⟩:=zJy<|hl.trans hp;exact h ..
section
variable{K:xFr}{f C:B9}{oc kV dc pm cd ct mc:B6}{od an:B5 B9}{sl:Array<|B5 B6}{nm q:Str}{st:Stmt}
def csr(h0:PySem.W.nsIn K mainGlobals nm=some (some<|.ref C))(h1:PySem.W.plainGet K C Str.empty=true)(h2:PySem.W.hasDictIn K C=true)(h3:PySem.W.plainOver K C=true)(h4:PySem.W.findIn K (.ref C) "__setattr__"=some (some<|.builtin "object.__setattr__"))(h5:PySem.W.makesIn K C=true)(h6:PySem.W.keepIn K (.ref C)=true)(h7:PySem.W.findIn K (.ref C) "__class__"=some (some<|.builtin "object.__class__"))(h8:PySem.W.mroIn K C (.type "object")=some true):CsR K C nm:=⟨h0,⟨h1,h2,h3,h4⟩,h5,h6,h7,h8⟩
def TxA(K:xFr)(t:B9)(xs:B4 V):Prop:=∀H,SqT K H t xs
def tup_is{t:B9}{d:B5 B9}{its:Array B6}{n:Nat}{sl:Array<|B5 B6}{xs:B4 V}(h:K.lookup t=some ⟨.type "tuple",d,.seq its n,sl⟩)(hz:its.size<=1000)(hv:zAh xs its.toList):TxA K t xs:=λH=>.inr ⟨_,its,n,h,rfl,rfl,zFq (),hv⟩
def ktS{l:C0}(h:TxA K C<|l.map V.str)(W:Wd):Rv (mkB K mg cls kds) W (.kt<|l.map U.str)<|.ref C:=xJ (B:=mkB K mg cls kds) h W
def ktI{l:C5}(h:TxA K C<|l.map V.int)(W:Wd):Rv (mkB K mg cls kds) W (.kt<|l.map U.int)<|.ref C:=xK (B:=mkB K mg cls kds) h W
end
def cl8(cBoxer cChecker cNamer:B9):B4<|Str×B9:=[("Boxer",cBoxer),("Checker",cChecker),("Namer",cNamer)]
def mr{r:Fx.Row}(i:Nat)(h:rows[i]?=some r):r∈rows:=xAc h
def all_mk{l:PySem.W.OpenLaw}{w:World}{K:xFr}{h:Heap}{fa aD aB aC aF b0 av aA aY ab aV aX aW aS aZ aT aa aU aK aR aQ aL aM aE aP aN aO aJ:B9}(X:K.In h)(G:h.Ns mainGlobals mg)(hfa:mg "law"=some (.ref fa)){am:Array DictEntry}{b1:Nat}{bt:Tok}{be:Tok}{bc:Tok}{aj:Tok}{ae:Tok}{ah:Tok}{ak:Tok}{a2:Tok}{al:Array DictEntry}{b3:Nat}{ai:Array DictEntry}{bk:Nat}(aI:CsR K aD "Boxer")(bW:zDb K aD fls=true)(aH:CsR K aB "Checker")(az:zDb K aB fls=true)(aG:CsR K aC "Namer")(bn:zDb K aC fls=true)(b2:zCr K "int" (cl8 aD aB aC)=true)(bl:zCr K "bool" (cl8 aD aB aC)=true)(bx:zCr K "str" (cl8 aD aB aC)=true)(a9:zCr K "tuple" (cl8 aD aB aC)=true)(b5:mgB K bls=true)(hn_:W.specialIn K (.builtin "object.__class__") "__get__"=some (some<|.builtin "getset_descriptor.__get__"))(ht_:W.takesIn K (.builtin "object.__class__")=some true)(d0:DnR K r0)(d1:DnR K r1)(d2:DnR K r2)(d3:DnR K r3)(d4:MdR K aD r4)(d5:MdR K aD r5)(d6:MdR K aD r6)(d7:MdR K aD r7)(d8:DnR K r8)(d9:DnR K r9)(d10:DnR K r10)(d11:DnR K r11)(d12:DnR K r12)(d13:DnR K r13)(d14:DnR K r14)(d15:DnR K r15)(d16:DnR K r16)(d17:DnR K r17)(d18:MdR K aB r18)(d19:MdR K aB r19)(d20:MdR K aB r20)(d21:MdR K aB r21)(d22:DnR K r22)(d23:DnR K r23)(d24:DnR K r24)(d25:DnR K r25)(d26:DnR K r26)(d27:DnR K r27)(d28:MdR K aC r28)(d29:MdR K aC r29)(d30:MdR K aC r30)(d31:MdR K aC r31)(d32:MdR K aC r32)(d33:MdR K aC r33)(d34:MdR K aC r34)(d35:MdR K aC r35)(d36:DnR K r36)(d37:DnR K r37)(d38:DnR K r38)(d39:DnR K r39)(d40:DnR K r40)(d41:DnR K r41)(d42:DnR K r42)(d43:DnR K r43)(d44:DnR K r44)(d45:DnR K r45)(d46:DnR K r46)(d47:DnR K r47)(d48:DnR K r48)(d49:DnR K r49)(d50:DnR K r50)(d51:DnR K r51)(d52:DnR K r52)(d53:DnR K r53)(d54:DnR K r54)(d55:DnR K r55)(d56:DnR K r56)(d57:DnR K r57)(d58:DnR K r58)(d59:DnR K r59)(bZ:W.nsIn K mainGlobals "WORDS"=some (some<|.ref aF))(bh:K.lookup aF=some ⟨.type "dict",none,.dict am b1,#[]⟩)(bg:PySem.W.KeysLit w.params am.toList)(bo:(aF==sysModules)=false)(bw:nsB K aF cY=true)(bG:W.nsIn K aF "start"=some (some<|.str "box" bt))(bM:W.nsIn K aF "read"=some (some<|.str "load" be))(a7:W.nsIn K aF "set"=some (some<|.str "store" bc))(af:W.nsIn K mainGlobals "MOST_PARTS"=some (some<|.int 300 aj))(ac:W.nsIn K mainGlobals "MOST_WITHIN"=some (some<|.int 20 ae))(ad:W.nsIn K mainGlobals "MOST_IN_ROW"=some (some<|.int 4 ah))(ag:W.nsIn K mainGlobals "LAST_PLACE"=some (some<|.int 599 ak))(au:W.nsIn K mainGlobals "LETTERS"=some (some<|.str "abcdefghijklmnopqrstuvwxyz" a2))(b4:W.nsIn K mainGlobals "OPS"=some (some<|.ref b0))(b7:TxA K b0<|(["add","sub","mul","less","same"]:C0).map V.str)(bv:W.nsIn K mainGlobals "HEADS"=some (some<|.ref av))(bz:TxA K av<|(["fn","call","let","set","do","if","add","sub","mul","less","same","make","match","raise","try","tell","ask"]:C0).map V.str)(bs:W.nsIn K mainGlobals "FORMS"=some (some<|.ref aA))(ba:K.lookup aA=some ⟨.type "dict",none,.dict al b3,#[]⟩)(bu:PySem.W.KeysLit w.params al.toList)(br:(aA==sysModules)=false)(bm:nsB K aA cR=true)(a6:W.nsIn K aA "number"=some (some<|.ref aY))(bi:TxA K aY<|(["number"]:C0).map V.str)(a4:W.nsIn K aA "name"=some (some<|.ref ab))(bb:TxA K ab<|(["used"]:C0).map V.str)(bC:W.nsIn K aA "fn"=some (some<|.ref aV))(bq:TxA K aV<|(["names","part"]:C0).map V.str)(bE:W.nsIn K aA "call"=some (some<|.ref aX))(bd:TxA K aX<|(["part","parts"]:C0).map V.str)(bQ:W.nsIn K aA "let"=some (some<|.ref aW))(bX:TxA K aW<|(["name","part","part"]:C0).map V.str)(bH:W.nsIn K aA "set"=some (some<|.ref aS))(bY:TxA K aS<|(["used","part"]:C0).map V.str)(bR:W.nsIn K aA "do"=some (some<|.ref aZ))(bp:TxA K aZ<|(["part","part"]:C0).map V.str)(bL:W.nsIn K aA "if"=some (some<|.ref aT))(bj:TxA K aT<|(["part","part","part"]:C0).map V.str)(bA:W.nsIn K aA "math"=some (some<|.ref aa))(bV:TxA K aa<|(["op","part","part"]:C0).map V.str)(bK:W.nsIn K aA "make"=some (some<|.ref aU))(bf:TxA K aU<|(["word","parts"]:C0).map V.str)(ar:W.nsIn K aA "match"=some (some<|.ref aK))(bF:TxA K aK<|(["part","word","names","part","part"]:C0).map V.str)(aq:W.nsIn K aA "raise"=some (some<|.ref aR))(a5:TxA K aR<|(["word","part"]:C0).map V.str)(ax:W.nsIn K aA "try"=some (some<|.ref aQ))(bT:TxA K aQ<|(["part","word","name","part"]:C0).map V.str)(a1:W.nsIn K aA "tell"=some (some<|.ref aL))(bN:TxA K aL<|(["part"]:C0).map V.str)(a0:W.nsIn K aA "ask"=some (some<|.ref aM))(bS:TxA K aM<|([]:C0).map V.str)(bI:W.nsIn K mainGlobals "SCOPES"=some (some<|.ref aE))(bB:K.lookup aE=some ⟨.type "dict",none,.dict ai bk,#[]⟩)(bJ:PySem.W.KeysLit w.params ai.toList)(bP:(aE==sysModules)=false)(a3:nsB K aE dB=true)(ay:W.nsIn K aE "fn"=some (some<|.ref aP))(bU:TxA K aP<|([2,3]:C5).map V.int)(ap:W.nsIn K aE "let"=some (some<|.ref aN))(bD:TxA K aN<|([2,4]:C5).map V.int)(ao:W.nsIn K aE "match"=some (some<|.ref aO))(a8:TxA K aO<|([4,5]:C5).map V.int)(aw:W.nsIn K aE "try"=some (some<|.ref aJ))(bO:TxA K aJ<|([4,5]:C5).map V.int)(b6:∀ns:C5,ns.length<=63->(zA1 ups tab fw<|d+1).call 59 [.kl<|ns.map U.int] [] (λ_ _=>False) (λv _=>v=.bl true))
  :∃fd:FuncData,(∀(s:B7)(v:B6),BindsTo s fd ⟨[v],[]⟩ [("_law_script",v)])/\∀base:Heap,K.In base->base.Ns mainGlobals mg->zBc l.prog w K mg base (CXz l.prog w) (2*(d+1)+1) fa fd ["_law_script"] (zDg K 63):=by
 have hgl:∀base,∀p∈gls,zDz l.prog w base (mkB K mg (cl8 aD aB aC) [(aF,c9,cY),(aA,cy,cR),(aE,da,dB)]) ups tb rows p:=λbase=>(allc (cj X G d0 (mr 0 rfl)<|bd1 rfl)
   (allc (cj X G d1 (mr 1 rfl)<|bd2 rfl)
   (allc (cj X G d2 (mr 2 rfl)<|bd1 rfl)
   (allc (cj X G d3 (mr 3 rfl)<|bd1 rfl)
   (allc (rh X G aI d4 rfl (mr 4 rfl) (xAc (i:=0) rfl) (bd3 rfl) (λz=>absurd z<|by decide +kernel) λz=>absurd z<|by decide +kernel)
   (allc (cj X G d8 (mr 8 rfl)<|bd1 rfl)
   (allc (cj X G d9 (mr 9 rfl)<|bd1 rfl)
   (allc (cj X G d10 (mr 10 rfl)<|bd1 rfl)
   (allc (cj X G d11 (mr 11 rfl)<|bd2 rfl)
   (allc (cj X G d12 (mr 12 rfl)<|bd1 rfl)
   (allc (cj X G d13 (mr 13 rfl)<|bd1 rfl)
   (allc (cj X G d14 (mr 14 rfl)<|bd1 rfl)
   (allc (cj X G d15 (mr 15 rfl)<|bd1 rfl)
   (allc (cj X G d16 (mr 16 rfl)<|bd1 rfl)
   (allc (cj X G d17 (mr 17 rfl)<|bd1 rfl)
   (allc (rh X G aH d18 rfl (mr 18 rfl) (xAc (i:=1) rfl) (bd1 rfl) (λz=>absurd z<|by decide +kernel) λz=>absurd z<|by decide +kernel)
   (allc (cj X G d22 (mr 22 rfl)<|bd1 rfl)
   (allc (cj X G d23 (mr 23 rfl)<|bd1 rfl)
   (allc (cj X G d24 (mr 24 rfl)<|bd3 rfl)
   (allc (cj X G d25 (mr 25 rfl)<|bd1 rfl)
   (allc (cj X G d26 (mr 26 rfl)<|bd1 rfl)
   (allc (cj X G d27 (mr 27 rfl)<|bd3 rfl)
   (allc (rh X G aG d28 rfl (mr 28 rfl) (xAc (i:=2) rfl) (bd2 rfl) (λz=>absurd z<|by decide +kernel) λz=>absurd z<|by decide +kernel)
   (allc (cj X G d36 (mr 36 rfl)<|bd4 rfl)
   (allc (cj X G d37 (mr 37 rfl)<|bd1 rfl)
   (allc (cj X G d38 (mr 38 rfl)<|bd2 rfl)
   (allc (cj X G d39 (mr 39 rfl)<|bd1 rfl)
   (allc (cj X G d40 (mr 40 rfl)<|bd4 rfl)
   (allc (cj X G d41 (mr 41 rfl)<|bd2 rfl)
   (allc (cj X G d42 (mr 42 rfl)<|bd1 rfl)
   (allc (cj X G d43 (mr 43 rfl)<|bd2 rfl)
   (allc (cj X G d44 (mr 44 rfl)<|bd4 rfl)
   (allc (cj X G d45 (mr 45 rfl)<|bd2 rfl)
   (allc (cj X G d46 (mr 46 rfl)<|bd4 rfl)
   (allc (cj X G d47 (mr 47 rfl)<|bd5 rfl)
   (allc (cj X G d48 (mr 48 rfl)<|bd1 rfl)
   (allc (cj X G d49 (mr 49 rfl)<|bd5 rfl)
   (allc (cj X G d50 (mr 50 rfl)<|bd4 rfl)
   (allc (cj X G d51 (mr 51 rfl)<|bd4 rfl)
   (allc (cj X G d52 (mr 52 rfl)<|bd2 rfl)
   (allc (cj X G d53 (mr 53 rfl)<|bd1 rfl)
   (allc (cj X G d54 (mr 54 rfl)<|bd1 rfl)
   (allc (cj X G d55 (mr 55 rfl)<|bd2 rfl)
   (allc (cj X G d56 (mr 56 rfl)<|bd3 rfl)
   (allc (cj X G d57 (mr 57 rfl)<|bd3 rfl)
   (allc (cj X G d58 (mr 58 rfl)<|bd5 rfl)
   (allc (cj X G d59 (mr 59 rfl)<|show BdC r59 from bd1 rfl)
   (allc (rf X G bZ<|xAc (i:=0) rfl)
   (allc (ji X G af)
   (allc (ji X G ac)
   (allc (ji X G ad)
   (allc (ji X G ag)
   (allc (xV X G au)
   (allc (vB X G b4 λW=>(ktS b7) W)
   (allc (vB X G bv λW=>(ktS bz) W)
   (allc (rf X G bs<|xAc (i:=1) rfl)
   (allc (rf X G bI<|xAc (i:=2) rfl)
   alln)))))))))))))))))))))))))))))))))))))))))))))))))))))))))
 have hms:∀p∈mss,zH1 (mkB K mg (cl8 aD aB aC) [(aF,c9,cY),(aA,cy,cR),(aE,da,dB)]) rows p:=(allc (dP (by kernel_rfl) aI d5 (mr 5 rfl) (xAc (i:=0) rfl)<|bd2 rfl)
   (allc (dP (by kernel_rfl) aI d6 (mr 6 rfl) (xAc (i:=0) rfl)<|bd3 rfl)
   (allc (dP (by kernel_rfl) aI d7 (mr 7 rfl) (xAc (i:=0) rfl)<|bd2 rfl)
   (allc (dP (by kernel_rfl) aH d19 (mr 19 rfl) (xAc (i:=1) rfl)<|bd4 rfl)
   (allc (dP (by kernel_rfl) aH d20 (mr 20 rfl) (xAc (i:=1) rfl)<|bd2 rfl)
   (allc (dP (by kernel_rfl) aH d21 (mr 21 rfl) (xAc (i:=1) rfl)<|bd5 rfl)
   (allc (dP (by kernel_rfl) aG d29 (mr 29 rfl) (xAc (i:=2) rfl)<|bd2 rfl)
   (allc (dP (by kernel_rfl) aG d30 (mr 30 rfl) (xAc (i:=2) rfl)<|bd4 rfl)
   (allc (dP (by kernel_rfl) aG d31 (mr 31 rfl) (xAc (i:=2) rfl)<|bd5 rfl)
   (allc (dP (by kernel_rfl) aG d32 (mr 32 rfl) (xAc (i:=2) rfl)<|bd4 rfl)
   (allc (dP (by kernel_rfl) aG d33 (mr 33 rfl) (xAc (i:=2) rfl)<|bd5 rfl)
   (allc (dP (by kernel_rfl) aG d34 (mr 34 rfl) (xAc (i:=2) rfl)<|bd5 rfl)
   (allc (dP (by kernel_rfl) aG d35 (mr 35 rfl) (xAc (i:=2) rfl)<|bd6 rfl)
   alln)))))))))))))
 have hcl:∀p∈(cl8 aD aB aC),Cls K p.2/\W.findIn K (.ref p.2) "__class__"=some (some<|.builtin "object.__class__")/\W.mroIn K p.2 (.type "object")=some true:=(allc ⟨aI.cls,aI.ha,aI.hm⟩
   (allc ⟨aH.cls,aH.ha,aH.hm⟩
   (allc ⟨aG.cls,aG.ha,aG.hm⟩
   alln)))
 have hno:∀p∈(cl8 aD aB aC),zDb K p.2 fls=true:=(allc bW
   (allc az
   (allc bn
   alln)))
 have hkd:∀q∈([(aF,c9,cY),(aA,cy,cR),(aE,da,dB)]:B4<|B9×B4 (Str×U)×C0),zI6 w (mkB K mg (cl8 aD aB aC) [(aF,c9,cY),(aA,cy,cR),(aE,da,dB)]) q:=(allc ⟨⟨_,_,bh,bg,bo⟩,(allc ⟨.str "box",_,bG,⟨_,rfl⟩,λW=>rfl⟩<|allc ⟨.str "load",_,bM,⟨_,rfl⟩,λW=>rfl⟩<|allc ⟨.str "store",_,a7,⟨_,rfl⟩,λW=>rfl⟩ alln),bw⟩
   (allc ⟨⟨_,_,ba,bu,br⟩,(allc ⟨.ref aY,_,a6,rfl,λW=>(ktS bi) W⟩<|allc ⟨.ref ab,_,a4,rfl,λW=>(ktS bb) W⟩<|allc ⟨.ref aV,_,bC,rfl,λW=>(ktS bq) W⟩<|allc ⟨.ref aX,_,bE,rfl,λW=>(ktS bd) W⟩<|allc ⟨.ref aW,_,bQ,rfl,λW=>(ktS bX) W⟩<|allc ⟨.ref aS,_,bH,rfl,λW=>(ktS bY) W⟩<|allc ⟨.ref aZ,_,bR,rfl,λW=>(ktS bp) W⟩<|allc ⟨.ref aT,_,bL,rfl,λW=>(ktS bj) W⟩<|allc ⟨.ref aa,_,bA,rfl,λW=>(ktS bV) W⟩<|allc ⟨.ref aU,_,bK,rfl,λW=>(ktS bf) W⟩<|allc ⟨.ref aK,_,ar,rfl,λW=>(ktS bF) W⟩<|allc ⟨.ref aR,_,aq,rfl,λW=>(ktS a5) W⟩<|allc ⟨.ref aQ,_,ax,rfl,λW=>(ktS bT) W⟩<|allc ⟨.ref aL,_,a1,rfl,λW=>(ktS bN) W⟩<|allc ⟨.ref aM,_,a0,rfl,λW=>(ktS bS) W⟩ alln),bm⟩
   (allc ⟨⟨_,_,bB,bJ,bP⟩,(allc ⟨.ref aP,_,ay,rfl,λW=>(ktI bU) W⟩<|allc ⟨.ref aN,_,ap,rfl,λW=>(ktI bD) W⟩<|allc ⟨.ref aO,_,ao,rfl,λW=>(ktI a8) W⟩<|allc ⟨.ref aJ,_,aw,rfl,λW=>(ktI bO) W⟩ alln),a3⟩
   alln)))
 have pf:∀base,Pf l.prog w base (mkB K mg (cl8 aD aB aC) [(aF,c9,cY),(aA,cy,cR),(aE,da,dB)]) ups tb rows:=λbase=>
  zv (hgl base) hms (λx hx=>W.mg_none_of X G<|je<|xCx.mp b5 x hx) (zGi b2) (zGi bl) (zGi bx) (zGi a9) (clF (λp hp=>(hcl p hp).1) hno) (clT hcl hn_ ht_) (kdF hkd)
 let⟨f,fd,h0,F⟩:=d59;have e:=hfa.symm.trans<|W.mg_of X G h0;cases e;refine⟨fd,λs v=>?_,λbase _ _=>?_⟩
 .let⟨oc,od,kV,doc,pm,an,cdv,ct,osl,rfl,_⟩:=F.ex;exact .of_eq<|(show BdC r59 from bd1 rfl) kV doc pm an cdv ct [v] rfl
 .exact(yP (fw:=fw) (pf base) zG6 (r:=r59) (mr 59 rfl) (Fun.fa F) d).imp λvs H Q E z=>xG (B:=mkB K mg (cl8 aD aB aC) [(aF,c9,cY),(aA,cy,cR),(aE,da,dB)]) (zFp<|d+1) b6 vs H Q E z
@[irreducible] noncomputable def Gd (fw d:Nat):D4:=zA1 ups tab fw d
def iG:Gd fw d=zA1 ups tab fw d:=by unfold Gd;rfl
section
variable{fw d i:Nat}{p:Pm}{vs:C3}{S S':So}{x:D3}{k:D0}{v:U}{a b:Unit->Prop}{de:De}
def pd(e:pr ups p vs S=.ok v S')(h:k v S'):(Gd fw d).prim p vs S x k:=by rw[iG];exact pm e h
def pv(v:U)(h:k v S)(e:pr ups p vs S=.ok v S:=by rfl):(Gd fw d).prim p vs S x k:=pd e h
def bT(h:a ⟨⟩):(Gd fw d).br true a b:=by rw[iG];exact brT h
def bF(h:b ⟨⟩):(Gd fw d).br false a b:=by rw[iG];exact brF h
def bI{c:B'}(h1:c=true->a ⟨⟩)(h2:c=false->b ⟨⟩):(Gd fw d).br c a b:=by
 cases c
 .exact bF<|h2 rfl
 .exact bT<|h1 rfl
def cd(de:De)(h:de.t (Gd fw d) (stU de.n vs) S<|zAo x k)(e:tab i=some de:=by kernel_rfl)(hl:vs.length=de.np:=by rfl):(Gd fw<|d+1).call i vs S x k:=by
 rw[iG] at h⊢;exact zHo e hl h
theorem fuel:(Gd fw d).fuel=fw:=by
 rw[iG];cases d <;> rfl
end
structure Sx where
 n:Int
 s:Int
 a:Int
 k:Int
 h:Int
def Sx.kv(x:Sx):B4<|Key×U:=[(.inr "number",.int x.n),(.inr "seed",.int x.s),(.inr "parts",.int x.a),(.inr "places",.int x.k),(.inr "shift",.int x.h)]
structure Bl(x:Sx)(i:Nat)(as:C3)(lv:Nat)(v:U)(x':Sx):Prop where
 h:∀{fw d p:Nat}{S:So}{xx:D3}{K:D0},at? S p=some (.dct x.kv)->K v (set S p (.dct x'.kv))->(Gd fw (d+lv)).call i (.ref p::as) S xx K
theorem zBh{J:Type}:∀{l:B4 J}{p:Nat}{o:J},at? l p=some o->set l p o=l
 |_::_,0,_,h=>by cases h;rfl
 |_::l,p+1,o,h=>congrArg _<|zBh (l:=l) h
def Sx.ok(x:Sx):Prop:=0<=x.n/\0<=x.s/\x.s<2147483647
def Sx.fl(x:Sx):Sx:=if x.n=0/\x.s>0 then{x with s:=x.s*48271%2147483647,n:=(x.s*48271%2147483647)*(x.s*48271%2147483647)%2147483629} else x
def Sx.fl_ok{x:Sx}(h:x.ok):x.fl.ok:=by
 let⟨h1,h2,h3⟩:=h;unfold Sx.fl;split
 .exact⟨xBa _ ∅,xBa _ ∅,xBb _ ∅⟩
 .exact⟨h1,h2,h3⟩
def Sx.dg(x:Sx)(m:Int):Int:=x.fl.n%m
def Sx.tk(x:Sx)(m:Int):Sx:={x.fl with n:=x.fl.n / m}
def Sx.tk_ok{x:Sx}{m:Int}(h:x.ok)(hm:0<m):(x.tk m).ok:=by
 let⟨h1,h2,h3⟩:=x.fl_ok h;exact⟨Int.ediv_nonneg h1<|Int.le_of_lt hm,h2,h3⟩
def sml(a:Int):Prop:=-(10^40)<a/\a<10^40
def gE{a b:Int}(ha:sml a)(hb:sml b):pr ups .mul [.int a,.int b] S=.ok (.int<|a*b) S:=by
 show(match decide (a.natAbs<2^150/\b.natAbs<2^150\/b.natAbs<2^60\/a.natAbs<2^60) with|true=>Res.ok (.int<|a*b) S|false=>.stuck)=_;unfold sml at ha hb;rw[xBd<|.inl ⟨(),()⟩]
def fh{a m:Int}(h:0<m/\m<=10^18):pr ups .fdiv [.int a,.int m] S=.ok (.int<|a / m) S:=by
 show(match decide (0<m/\m<=10^18) with|true=>Res.ok (.int<|a / m) S|false=>.stuck)=_;rw[xBd h]
def cW{a m:Int}(h:0<m):pr ups .mod [.int a,.int m] S=.ok (.int<|a%m) S:=by
 show(match decide (0<m) with|true=>Res.ok (.int<|a%m) S|false=>.stuck)=_;rw[xBd h]
def cJ{a b:Int}:pr ups .eq [.int a,.int b] S=.ok (.bl<|decide<|a=b) S:=rfl
section
variable{fw d p:Nat}{S:So}{x:Sx}
def xI(h:at? S p=some (.dct x.kv)):pr ups .ix [.ref p,.str "number"] S=.ok (.int x.n) S:=cN h rfl
def uz(h:at? S p=some (.dct x.kv)):pr ups .ix [.ref p,.str "seed"] S=.ok (.int x.s) S:=cN h rfl
def qS(h:at? S p=some (.dct x.kv)):pr ups .ix [.ref p,.str "parts"] S=.ok (.int x.a) S:=cN h rfl
def Ap(h:at? S p=some (.dct x.kv)):pr ups .ix [.ref p,.str "places"] S=.ok (.int x.k) S:=cN h rfl
def BA(h:at? S p=some (.dct x.kv)):pr ups .ix [.ref p,.str "shift"] S=.ok (.int x.h) S:=cN h rfl
def gP{x':Sx}{f:Str}{v:U}(h:at? S p=some (.dct x.kv))(e:putK (.inr f) v x.kv=x'.kv):pr ups .seti [.ref p,.str f,v] S=.ok .non (set S p<|.dct x'.kv):=by
 rw[<- e];exact gj h (by show 5+1<=2^24;decide)
end
def cz{x:Sx}{m:Int}(hx:x.ok)(hm:0<m/\m<=10 ^ 18):Bl x 41 [.int m] 1 (.int<|x.dg m)<|x.tk m:=⟨λ{fw d p S xx K} h hk=>by
 erw[cd ⟨2,3,t41⟩];have fin:∀{S:So},at? S p=some (.dct x.fl.kv)->K (.int<|x.dg m) (set S p<|.dct (x.tk m).kv)->rz1 (Gd fw d) [some<|.ref p,some<|.int m,none] S (zAo xx K):=λ{S} h hk=>by
  erw[pd (xI h),pd (cW hm.1),pd (xI h),pd (fh hm),pd (gP (x':=x.tk m) h rfl),<-hk]
 erw[pd (xI h),pd cJ];by_cases h0:x.n=0
 .rw[xBd h0];erw[bT,pd (uz h),pv (.bl<|decide<|0<x.s)];by_cases h1:0<x.s
  .have e:x.fl={x with s:=x.s*48271%2147483647,n:=(x.s*48271%2147483647)*(x.s*48271%2147483647)%2147483629}:=xCg ⟨h0,h1⟩;have h3:=hx.2.2;rw[xBd h1];erw[bT,pd (uz h),pd (gE (a:=x.s) (b:=48271) (by unfold sml;lia)<|by unfold sml;decide),pd (cW ∅)];obtain⟨l1,l2⟩:0<=x.s*48271%2147483647/\x.s*48271%2147483647<2147483647:=⟨xBa _ ∅,xBb _ ∅⟩
   generalize x.s*48271%2147483647=s' at e l1 l2⊢;erw[pd (gP (x':={x with s:=s'}) h rfl)];have g:=zAc (o':=Ob.dct ({x with s:=s'}:Sx).kv) h;erw[pd (uz g),pd (uz g),pd (gE (a:=s') (b:=s') (by unfold sml;lia)<|by unfold sml;lia),pd (cW ∅),pd (gP (x':=x.fl) g<|by rw[e];rfl)];exact fin (zAc g) (by rw[zAb,zAb];exact hk)
  .have e:x.fl=x:=xCf λz=>h1 z.2;rw[xCn h1];erw[bF];exact fin (by rw[e];exact h) hk
 .have e:x.fl=x:=xCf λz=>h0 z.1;rw[xCn h0];refine bF ?_;refine bF ?_;exact fin (by rw[e];exact h) hk⟩
def Sx.nx(x:Sx):Sx:={x with k:=x.k+1,a:=x.a-1}
def Sx.pl(x:Sx):Int:=(7*(x.k+1)+x.h)%600
def cv{x:Sx}(hk':0<=x.k/\x.k<=10000):Bl x 42 [] 1 (.int x.pl) x.nx:=⟨λ{fw d p S xx K} h hk=>by
 refine cd ⟨1,1,t42⟩ ?_;refine pd (Ap h) ?_;refine pv (.int<|x.k+1) ?_;refine pd (gP (x':={x with k:=x.k+1}) h rfl) ?_;have g:=zAc (o':=Ob.dct ({x with k:=x.k+1}:Sx).kv) h;refine pd (qS g) ?_;refine pv (.int<|x.a-1) ?_;refine pd (gP (x':=x.nx) g rfl) ?_;have g2:=zAc (o':=Ob.dct x.nx.kv) g;refine pd (Ap g2) ?_;refine pd (gE (a:=7) (b:=x.k+1) (by unfold sml;decide)<|by unfold sml;lia) ?_;refine pd (BA g2) ?_;refine pv (.int<|7*(x.k+1)+x.h) ?_;refine pv (.int x.pl) ?_;rw[zAb];exact hk⟩
inductive Pg where
 |num (pl n:Int)|nam (pl:Int) (x:Str)|fn (pl:Int) (xs:List Str) (b:Pg)|call (pl:Int) (f:Pg) (as:List Pg)|lt (pl:Int) (x:Str) (a b:Pg)|st (pl:Int) (x:Str) (a:Pg)|dd (pl:Int) (a b:Pg)|iff (pl:Int) (a b c:Pg)
 |math (pl:Int) (o:Str) (a b:Pg)|make (pl:Int) (t:Str) (as:List Pg)|mat (pl:Int) (a:Pg) (t:Str) (xs:List Str) (b c:Pg)|rai (pl:Int) (w:Str) (a:Pg)|try_ (pl:Int) (a:Pg) (w x:Str) (b:Pg)|tell (pl:Int) (a:Pg)|ask (pl:Int)
mutual
def Pg.u:Pg->U
 |.num pl n=>.tup [.str "number",.int pl,.int n]
 |.nam pl x=>.tup [.str "name",.int pl,.str x]
 |.fn pl xs b=>.tup [.str "fn",.int pl,.tup<|xs.map .str,b.u]
 |.call pl f as=>.tup [.str "call",.int pl,f.u,.tup<|Pg.us as]
 |.lt pl x a b=>.tup [.str "let",.int pl,.str x,a.u,b.u]
 |.st pl x a=>.tup [.str "set",.int pl,.str x,a.u]
 |.dd pl a b=>.tup [.str "do",.int pl,a.u,b.u]
 |.iff pl a b c=>.tup [.str "if",.int pl,a.u,b.u,c.u]
 |.math pl o a b=>.tup [.str "math",.int pl,.str o,a.u,b.u]
 |.make pl t as=>.tup [.str "make",.int pl,.str t,.tup<|Pg.us as]
 |.mat pl a t xs b c=>.tup [.str "match",.int pl,a.u,.str t,.tup<|xs.map .str,b.u,c.u]
 |.rai pl w a=>.tup [.str "raise",.int pl,.str w,a.u]
 |.try_ pl a w x b=>.tup [.str "try",.int pl,a.u,.str w,.str x,b.u]
 |.tell pl a=>.tup [.str "tell",.int pl,a.u]
 |.ask pl=>.tup [.str "ask",.int pl]
def Pg.us:B4 Pg->C3
 |[]=>[]
 |a::r=>a.u::Pg.us r
end
variable{x:Sx}{sc:C0}
def scU(sc:C0):U:=.lst<|sc.map .str
def fC:pr ups .ne [scU sc,.lst []] S=.ok (.bl (!sc.isEmpty)) S:=by
 cases sc <;> rfl
def Sx.dg_lt{m:Int}(hm:0<m):0<=x.dg m/\x.dg m<m:=⟨xBa _ (),xBb _ hm⟩
def fg{i:Int}(h:0<=i/\i<sc.length):∃w∈sc,∀{S:So},pr ups .ix [scU sc,.int i] S=.ok (.str w) S:=by
 let⟨j,rfl⟩:=Int.eq_ofNat_of_zero_le h.1;have hj:j<sc.length:=by lia
 refine⟨sc[j],List.getElem_mem hj,λ{S}=>?_⟩;show opt (atI (sc.map U.str) (j:Int)) S=_;rw[dD (v:=.str sc[j])<|by rw[xAw,xAk hj];rfl];rfl
def gk:pr ups .len [scU sc] S=.ok (.int sc.length) S:=by
 show Res.ok (.int ((sc.map U.str).length:Nat)) S=_;rw[xAa]
structure Sx.Le(x x':Sx):Prop where
 ok:x'.ok
 a:x'.a=x.a
 k:x'.k=x.k
 h:x'.h=x.h
def Sx.fl_le:x.fl.a=x.a/\x.fl.k=x.k/\x.fl.h=x.h:=by
 unfold Sx.fl;split <;> exact⟨rfl,rfl,rfl⟩
def Sx.tk_le{m:Int}(hx:x.ok)(hm:0<m):x.Le<|x.tk m:=⟨x.tk_ok hx hm,x.fl_le.1,x.fl_le.2.1,x.fl_le.2.2⟩
theorem Sx.Le.trans{y z:Sx}(h:x.Le y)(g:y.Le z):x.Le z:=⟨g.ok,g.a.trans h.a,g.k.trans h.k,g.h.trans h.h⟩
def At(sc:C0)(pl:Int)(P:Pg):Prop:=(∃w∈sc,P=.nam pl w)\/∃n,-(10^12)<n/\n<10^12/\P=.num pl n
def zFk{pl:Int}(hx:x.ok):∃n x',-(10^12)<n/\n<10^12/\x.Le x'/\∀{fw d p:Nat}{S:So}{xx:D3}{K:D0}{a1 a3:B5 U},at? S p=some (.dct x.kv)->K (Pg.num pl n).u (set S p<|.dct x'.kv)->zH8 (Gd fw<|d+1) [some<|.ref p,a1,some<|.int pl,a3] S (zAo xx K):=by
 have l1:=x.tk_le (m:=10) hx ∅;have d1:=x.dg_lt (m:=10) ∅;by_cases h9:x.dg 10=9
 .have l2:=(x.tk 10).tk_le (m:=10^12) l1.ok ∅;have l3:=((x.tk 10).tk<|10^12).tk_le (m:=10^12) l2.ok ∅;have d2:=(x.tk 10).dg_lt (m:=10^12) ∅;have d3:=((x.tk 10).tk<|10^12).dg_lt (m:=10^12) ∅;refine⟨(x.tk 10).dg (10^12)-((x.tk 10).tk<|10^12).dg (10^12),_,(),(),(l1.trans l2).trans l3,λ{fw d p S xx K a1 a3} h hk=>?_⟩
  .erw[(cz hx ∅).h h];have g1:=zAc (o':=Ob.dct (x.tk 10).kv) h;erw[pd cJ];rw[xBd h9];erw[bT,pv (.int<|10^12),(cz l1.ok ∅).h g1];have g2:=zAc (o':=Ob.dct ((x.tk 10).tk<|10^12).kv) g1;erw[pv (.int<|10^12),(cz l2.ok ∅).h g2,pv (.int<|(x.tk 10).dg (10^12)-((x.tk 10).tk<|10^12).dg (10^12))];rw[zAb,zAb];exact hk
 .erw[<-⟨x.dg 10,x.tk 10,(),(),l1,λ{fw d p S xx K a1 a3} h hk=>?_⟩,(cz hx ∅).h h,pd cJ];rw[xCn h9];erw[bF];exact hk
def Sx.nx_ok(h:x.ok):x.nx.ok:=h
theorem vc(hx:x.ok)(hk:0<=x.k/\x.k<=10000)(hl:sc.length<=1000):∃P x',At sc x.pl P/\x.nx.Le x'/\Bl x 43 [scU sc] 2 P.u x':=by
 have o1:=x.nx_ok hx;cases he:sc.isEmpty with
 |true=>
  let⟨n,x',n1,n2,le,N⟩:=zFk (x:=x.nx) (pl:=x.pl) o1;erw[<-⟨.num x.pl n,x',.inr ⟨n,n1,n2,rfl⟩,le,⟨λ{fw d p S xx K} h hk'=>?_⟩⟩,cd ⟨2,4,t43⟩,(cv hk).h h,pv (.lst []),pd fC];rw[he];erw[bF,bF];exact N (zAc h) (by rw[zAb];exact hk')
 |false=>
  have l1:=x.nx.tk_le (m:=3) o1 ∅;have hn:0<(sc.length:Int):=by
   cases sc with
   |nil=>cases he
   |cons _ _=>rw[xAo];lia
  by_cases hd:0<x.nx.dg 3
  .have l2:=(x.nx.tk 3).tk_le (m:=sc.length) l1.ok hn;let⟨w,hw,e⟩:=fg (sc:=sc)<|(x.nx.tk 3).dg_lt hn;erw[<-⟨.nam x.pl w,_,.inl ⟨w,hw,rfl⟩,l1.trans l2,⟨λ{fw d p S xx K} h hk'=>?_⟩⟩,cd ⟨2,4,t43⟩,(cv hk).h h];have g1:=zAc (o':=Ob.dct x.nx.kv) h;erw[pv (.lst []),pd fC];rw[he];erw[bT,(cz o1 ∅).h g1];have g2:=zAc (o':=Ob.dct (x.nx.tk 3).kv) g1;erw[pv (.bl<|decide<|0<x.nx.dg 3)];rw[xBd hd];erw[bT,pd gk,(cz l1.ok ⟨hn,()⟩).h g2,pd e];rw[zAb,zAb];exact hk'
  .let⟨n,x',n1,n2,le,N⟩:=zFk (x:=x.nx.tk 3) (pl:=x.pl) l1.ok;erw[<-⟨.num x.pl n,x',.inr ⟨n,n1,n2,rfl⟩,l1.trans le,⟨λ{fw d p S xx K} h hk'=>?_⟩⟩,cd ⟨2,4,t43⟩,(cv hk).h h];have g1:=zAc (o':=Ob.dct x.nx.kv) h;erw[pv (.lst []),pd fC];rw[he];erw[bT,(cz o1 ∅).h g1,pv (.bl<|decide<|0<x.nx.dg 3)];rw[xCn hd];erw[bF];exact N (zAc g1) (by rw[zAb,zAb];exact hk')
section
variable{x:Sx}{sc ws:C0}
def wds:C0:=["kind","odd","big","a","b","ab"]
def f8(hx:x.ok):∃w x',w∈wds/\x.Le x'/\Bl x 48 [] 2 (.str w) x':=by
 have l1:=x.tk_le (m:=6) hx ∅;let⟨w,hw,e⟩:=fg (sc:=wds) (i:=x.dg 6) (x.dg_lt (m:=6) ∅);erw[<-⟨w,_,hw,l1,⟨λ{fw d p S xx K} h hk=>?_⟩⟩,cd ⟨1,1,t48⟩,pv (scU wds),(cz hx ∅).h h,pd e,<-hk]
def jH{j:Int}(h:0<=j/\j<=1000):pr ups .rng1 [.int j] S=.ok (.tup<|zBt 0 j.toNat) S:=by
 delta pr;dsimp only;rw[xBd ()]
theorem zAz:∀{n:Nat}{lo:Int},(zBt lo n).length=n
 |0,_=>rfl
 |n+1,lo=>congrArg (·+1)<|zAz (n:=n)
def zDa(ws:C0)(f k:Nat):Str:=ws.getD ((f+k)%5) ""
def qE{f k:Nat}(h:ws.length=5):zDa ws f k∈ws:=by
 unfold zDa;have hj:(f+k)%5<ws.length:=by omega
 rw[xBz,xAk hj];exact List.getElem_mem hj
def zr{f k:Nat}(h:ws.length=5):pr ups .ix [scU ws,.int<|((f:Int)+k)%5] S=.ok (.str<|zDa ws f k) S:=by
 have hj:(f+k)%5<ws.length:=by omega
 rw[show((f:Int)+k)%5=(((f+k)%5:Nat):Int) by omega];show opt (atI (ws.map U.str) (((f+k)%5:Nat):Int)) S=_;rw[dD (v:=.str<|zDa ws f k)<|by unfold zDa;rw[xAw,xAk hj,xBz,xAk hj];rfl];rfl
theorem vw{f:Nat}{fw d:Nat}{S:So}{K:D0}(h:ws.length=5):∀{n lo:Nat}{ys:C3},K (.lst<|ys++(List.range' lo n).map λk=>.str<|zDa ws f k) S->lcK (Gd fw d) (lcB [1] true [none,none,some<|scU ws,some<|.int f] none (J1 J7<|J3 .mod (J3 (.add false) Ja J2)<|J6 .len J7)<|Gd fw d) (zBt (lo:Int) n) ys S K
 |0,lo,ys,hk=>by
  rw[List.range'_zero,List.map_nil,xB0] at hk;exact hk
 |n+1,lo,ys,hk=>by
  erw[pv (.int<|(f:Int)+lo),pd gk];rw[h];erw[pv (.int<|((f:Int)+lo)%5),pd (zr h),vw h (n:=n) (lo:=lo+1) (ys:=ys++[.str<|zDa ws f lo])];rw[xAx];exact hk
structure Nms(ws xs:C0):Prop where
 sub:∀y∈xs,y∈ws
 few:xs.length<=4
 nd:xs.Nodup
def xr{f n:Nat}(h:ws.length=5)(hn:ws.Nodup)(h4:n<=4):Nms ws<|(List.range' 0 n).map<|zDa ws f:=by
 refine⟨λy hy=>?_,by rw[xAa,List.length_range'];exact h4,?_⟩
 .let⟨k,_,rfl⟩:=xA2.mp hy;exact qE h
 .refine List.pairwise_map.mpr ((List.nodup_range' (step:=1)).imp_of_mem λ{a b} ha hb z e=>z ?_);have ha:=(List.mem_range'_1.mp ha).2;have hb:=(List.mem_range'_1.mp hb).2;unfold zDa at e;have h1:(f+a)%5<ws.length:=by omega
  have h2:(f+b)%5<ws.length:=by omega
  rw[xBz,xBz,xAk h1,xAk h2] at e;have hp:=List.pairwise_iff_getElem.mp hn;have e:ws[(f+a)%5]=ws[(f+b)%5]:=e;rcases Nat.lt_trichotomy ((f+a)%5) ((f+b)%5) with q|q|q
  .exact absurd e<|hp _ _ h1 h2 q
  .omega
  .exact absurd e.symm<|hp _ _ h2 h1 q
def fD(h:ws.length=5):pr ups .len [scU ws] S=.ok (.int 5) S:=by
 rw[gk,h];rfl
def il(hx:x.ok)(h:ws.length=5)(hn:ws.Nodup):∃xs x',Nms ws xs/\x.Le x'/\Bl x 45 [scU ws] 2 (.tup<|xs.map .str) x':=by
 have l1:=x.tk_le (m:=5) hx ∅;have l2:=(x.tk 5).tk_le (m:=5) l1.ok ∅;let⟨d1,d2⟩:=x.dg_lt (m:=5) ∅;let⟨d3,d4⟩:=(x.tk 5).dg_lt (m:=5) ∅;let⟨f,hf⟩:=Int.eq_ofNat_of_zero_le d1;let⟨n,hn'⟩:=Int.eq_ofNat_of_zero_le d3;erw[<-⟨(List.range' 0 n).map<|zDa ws f,_,xr h hn (by omega),l1.trans l2,⟨λ{fw d p S xx K} hp hk=>?_⟩⟩,cd ⟨2,4,t45⟩,pd (fD h),(cz hx ∅).h hp];have g1:=zAc (o':=Ob.dct (x.tk 5).kv) hp;erw[(cz l1.ok ∅).h g1,pd (fD h)];rw[hf,hn'];erw[<-pv (.int n) ?_ (by show Res.ok (.int<|if(5:Int)<n then 5 else n) _=_;rw[xCf<|by omega]),pd (jH<|by omega)];rw[xC3];refine bI (λ_=>?_) λz=>?_
 .erw[vw (lo:=0) h];rw[xC6];erw[pv (.tup<|(List.range' 0 n).map λk=>.str<|zDa ws f k)];rw[zAb];rw[List.map_map] at hk;exact hk
 .rw[zAz,xDk<|show n<=sizeLine by show n<=2^24;omega] at z;cases z
end
structure Nmz(N:Str->Prop)(xs:C0):Prop where
 ok:∀y∈xs,N y
 few:xs.length<=4
 nd:xs.Nodup
def ops:C0:=["add","sub","mul","less","same"]
inductive Wf(N:Str->Prop):List Str->Nat->Pg->Prop where
 |num {sc:List Str} {d:Nat} {pl n:Int} (h1:-(10^12)<n) (h2:n<10^12):Wf N sc d (.num pl n)
 |nam {sc:List Str} {d:Nat} {pl:Int} {x:Str} (h:x∈sc):Wf N sc d (.nam pl x)
 |fn {sc xs:List Str} {d:Nat} {pl:Int} {b:Pg} (h:Nmz N xs) (hb:Wf N (sc++xs) d b):Wf N sc (d+1) (.fn pl xs b)
 |call {sc:List Str} {d:Nat} {pl:Int} {f:Pg} {as:List Pg} (hf:Wf N sc d f) (h:∀a∈as,Wf N sc d a) (h4:as.length<=4):Wf N sc (d+1) (.call pl f as)
 |lt {sc:List Str} {d:Nat} {pl:Int} {x:Str} {a b:Pg} (hx:N x) (ha:Wf N sc d a) (hb:Wf N (sc++[x]) d b):Wf N sc (d+1) (.lt pl x a b)
 |st {sc:List Str} {d:Nat} {pl:Int} {x:Str} {a:Pg} (hx:x∈sc) (ha:Wf N sc d a):Wf N sc (d+1) (.st pl x a)
 |dd {sc:List Str} {d:Nat} {pl:Int} {a b:Pg} (ha:Wf N sc d a) (hb:Wf N sc d b):Wf N sc (d+1) (.dd pl a b)
 |iff {sc:List Str} {d:Nat} {pl:Int} {a b c:Pg} (ha:Wf N sc d a) (hb:Wf N sc d b) (hc:Wf N sc d c):Wf N sc (d+1) (.iff pl a b c)
 |math {sc:List Str} {d:Nat} {pl:Int} {o:Str} {a b:Pg} (ho:o∈ops) (ha:Wf N sc d a) (hb:Wf N sc d b):Wf N sc (d+1) (.math pl o a b)
 |make {sc:List Str} {d:Nat} {pl:Int} {t:Str} {as:List Pg} (ht:t∈wds) (h:∀a∈as,Wf N sc d a) (h4:as.length<=4):Wf N sc (d+1) (.make pl t as)
 |mat {sc xs:List Str} {d:Nat} {pl:Int} {t:Str} {a b c:Pg} (ht:t∈wds) (hx:Nmz N xs) (ha:Wf N sc d a) (hb:Wf N (sc++xs) d b) (hc:Wf N sc d c):Wf N sc (d+1) (.mat pl a t xs b c)
 |rai {sc:List Str} {d:Nat} {pl:Int} {w:Str} {a:Pg} (hw:w∈wds) (ha:Wf N sc d a):Wf N sc (d+1) (.rai pl w a)
 |try_ {sc:List Str} {d:Nat} {pl:Int} {w x:Str} {a b:Pg} (hw:w∈wds) (hx:N x) (ha:Wf N sc d a) (hb:Wf N (sc++[x]) d b):Wf N sc (d+1) (.try_ pl a w x b)
 |tell {sc:List Str} {d:Nat} {pl:Int} {a:Pg} (ha:Wf N sc d a):Wf N sc (d+1) (.tell pl a)
 |ask {sc:List Str} {d:Nat} {pl:Int}:Wf N sc (d+1) (.ask pl)
theorem Wf.up{sc:C0}{P:Pg}(h:Wf N sc d P):∀{e:Nat},d<=e->Wf N sc e P:=by
 induction h with
 |num h1 h2=>intro e _;exact .num h1 h2
 |nam h=>intro e _;exact .nam h
 |fn h hb ib=>intro e he;obtain⟨e,rfl⟩:∃e',e=e'+1:=⟨e-1,()⟩;exact .fn h (ib ())
 |call hf h h4 i1 i2=>intro e he;obtain⟨e,rfl⟩:∃e',e=e'+1:=⟨e-1,()⟩;exact .call (i1 ()) (λa ha=>i2 a ha ()) h4
 |lt hx ha hb i1 i2=>intro e he;obtain⟨e,rfl⟩:∃e',e=e'+1:=⟨e-1,()⟩;exact .lt hx (i1 ()) (i2 ())
 |st hx ha i1=>intro e he;obtain⟨e,rfl⟩:∃e',e=e'+1:=⟨e-1,()⟩;exact .st hx (i1 ())
 |dd ha hb i1 i2=>intro e he;obtain⟨e,rfl⟩:∃e',e=e'+1:=⟨e-1,()⟩;exact .dd (i1 ()) (i2 ())
 |iff ha hb hc i1 i2 i3=>intro e he;obtain⟨e,rfl⟩:∃e',e=e'+1:=⟨e-1,()⟩;exact .iff (i1 ()) (i2 ()) (i3 ())
 |math ho ha hb i1 i2=>intro e he;obtain⟨e,rfl⟩:∃e',e=e'+1:=⟨e-1,()⟩;exact .math ho (i1 ()) (i2 ())
 |make ht h h4 i2=>intro e he;obtain⟨e,rfl⟩:∃e',e=e'+1:=⟨e-1,()⟩;exact .make ht (λa ha=>i2 a ha ()) h4
 |mat ht hx ha hb hc i1 i2 i3=>intro e he;obtain⟨e,rfl⟩:∃e',e=e'+1:=⟨e-1,()⟩;exact .mat ht hx (i1 ()) (i2 ()) (i3 ())
 |rai hw ha i1=>intro e he;obtain⟨e,rfl⟩:∃e',e=e'+1:=⟨e-1,()⟩;exact .rai hw (i1 ())
 |try_ hw hx ha hb i1 i2=>intro e he;obtain⟨e,rfl⟩:∃e',e=e'+1:=⟨e-1,()⟩;exact .try_ hw hx (i1 ()) (i2 ())
 |tell ha i1=>intro e he;obtain⟨e,rfl⟩:∃e',e=e'+1:=⟨e-1,()⟩;exact .tell (i1 ())
 |ask=>intro e he;obtain⟨e,rfl⟩:∃e',e=e'+1:=⟨e-1,()⟩;exact .ask
mutual
def Pg.pls:Pg->C5
 |.num pl _=>[pl]
 |.nam pl _=>[pl]
 |.fn pl _ b=>pl::b.pls
 |.call pl f as=>pl::(f.pls++Pg.plss as)
 |.lt pl _ a b=>pl::(a.pls++b.pls)
 |.st pl _ a=>pl::a.pls
 |.dd pl a b=>pl::(a.pls++b.pls)
 |.iff pl a b c=>pl::(a.pls++(b.pls++c.pls))
 |.math pl _ a b=>pl::(a.pls++b.pls)
 |.make pl _ as=>pl::Pg.plss as
 |.mat pl a _ _ b c=>pl::(a.pls++(b.pls++c.pls))
 |.rai pl _ a=>pl::a.pls
 |.try_ pl a _ _ b=>pl::(a.pls++b.pls)
 |.tell pl a=>pl::a.pls
 |.ask pl=>[pl]
def Pg.plss:B4 Pg->C5
 |[]=>[]
 |a::r=>a.pls++Pg.plss r
end
def zBn(h k:Int):Int:=(7*k+h)%600
def Ks(h lo hi:Int)(pls:C5):Prop:=∃ks:C5,pls=ks.map (zBn h)/\ks.Nodup/\∀k∈ks,lo<k/\k<=hi
def Ks.nil{h lo hi:Int}:Ks h lo hi []:=⟨[],rfl,xC7,λ_ z=>(nomatch z)⟩
def Ks.one{h lo hi k:Int}(h1:lo<k)(h2:k<=hi):Ks h lo hi [zBn h k]:=⟨[k],rfl,xCb.mpr ⟨⋯,xC7⟩,λq z=>by rw[xAm.mp z];exact⟨h1,h2⟩⟩
def Ks.app{h lo mi hi:Int}{l r:C5}(a:Ks h lo mi l)(b:Ks h mi hi r)(h1:lo<=mi)(h2:mi<=hi):Ks h lo hi<|l++r:=by
 let⟨ks,rfl,n1,b1⟩:=a;let⟨js,rfl,n2,b2⟩:=b;refine⟨ks++js,by rw[xAi],xBq.mpr ⟨n1,n2,λx hx y hy e=>?_⟩,λk hk=>?_⟩
 .have:=b1 x hx;have:=b2 y hy;lia
 .rcases xAj.mp hk with z|z
  .have:=b1 k z;lia
  .have:=b2 k z;lia
def Ks.cons{h lo mi hi k:Int}{r:C5}(h1:lo<k)(h3:k<=mi)(b:Ks h mi hi r)(h2:mi<=hi):Ks h lo hi<|zBn h k::r:=(Ks.one h1 h3).app b () h2
mutual
def Pg.cnt:Pg->Nat
 |.num _ _=>0
 |.nam _ _=>0
 |.fn _ _ b=>b.cnt+1
 |.call _ u as=>u.cnt+Pg.cnts as
 |.lt _ _ a b=>a.cnt+b.cnt+1
 |.st _ _ a=>a.cnt+1
 |.dd _ a b=>a.cnt+b.cnt
 |.iff _ a b c=>a.cnt+(b.cnt+c.cnt)
 |.math _ _ a b=>a.cnt+b.cnt
 |.make _ _ as=>Pg.cnts as
 |.mat _ a _ _ b c=>a.cnt+(b.cnt+c.cnt)+1
 |.rai _ _ a=>a.cnt
 |.try_ _ a _ _ b=>a.cnt+b.cnt+1
 |.tell _ a=>a.cnt
 |.ask _=>0
def Pg.cnts:B4 Pg->Nat
 |[]=>0
 |a::r=>a.cnt+Pg.cnts r
end
structure Cn(o:Int)(c dm:Nat)(k k':Int):Prop where
 z:80<=k->c=0
 b:k'<80->45*(c:Int)+o<=42*(k'-k)
 c:k<80->80<=k'->45*(c:Int)<=42*(80-k)+16*dm
def Cn.app{o o' k:Int}{c c':Nat}(a:Cn o c dm k k1)(b:Cn o' c' dm k1 k2)(ho:0<=o)(ho':0<=o')(h1:k<=k1)(h2:k1<=k2):Cn o (c+c') dm k k2:=by
 have:=a.z;have:=a.b;have:=a.c;have:=b.z;have:=b.b;have:=b.c;exact⟨(),(),()⟩
def Cn.w{o o' k k0:Int}{c dm':Nat}(a:Cn o c dm k k')(ho:o'<=o)(hd:dm<=dm')(e:k0<=k)(h80:k0<80\/k0=k):Cn o' c dm' k0 k':=by
 have:=a.z;have:=a.b;have:=a.c;exact⟨(),(),()⟩
def Cn.up1{k:Int}{c:Nat}(hk:k<80)(a:Cn (42-3*(e:Int)) c e (k+1) k'):Cn (42-3*((e+1:Nat):Int)) (c+1) (e+1) k k':=by
 have:=a.z;have:=a.b;have:=a.c;exact⟨(),(),()⟩
def Cn.up0{o k:Int}{c:Nat}(hk:k<80)(a:Cn o c e (k+1) k')(ho:0<=o):Cn (42-3*((e+1:Nat):Int)) c (e+1) k k':=by
 have:=a.z;have:=a.b;have:=a.c;exact⟨(),(),()⟩
structure Iv(x:Sx):Prop where
 ok:x.ok
 a:x.a=80-x.k
 k:0<=x.k/\x.k<=10000
structure Pt(N:Str->Prop)(sc:C0)(dm:Nat)(x:Sx)(P:Pg)(x':Sx):Prop where
 wf:Wf N sc dm P
 iv:Iv x'
 h:x'.h=x.h
 ks:Ks x.h x.k x'.k P.pls
 lo:x.k<x'.k
 at80:80<=x.k->x'.k=x.k+1
 hi:x'.k<=x.k+1\/x'.k<=82+6*dm
 ct:Cn (42-3*(dm:Int)) P.cnt dm x.k x'.k
def vb{sc:C0}{x:Sx}(hx:Iv x)(hk:x.k<10000)(hl:sc.length<=1000):∃P x',Pt N sc dm x P x'/\Bl x 43 [scU sc] 2 P.u x':=by
 let⟨P,x',hA,le,B⟩:=vc (sc:=sc) hx.ok hx.k hl;have ek:x'.k=x.k+1:=le.k;have ea:x'.a=x.a-1:=le.a;have h0:=hx.a;have h1:=hx.k;have ks:Ks x.h x.k x'.k [x.pl]:=Ks.one (k:=x.k+1) () ();have c0:P.cnt=0:=by rcases hA with ⟨w,hw,rfl⟩|⟨n,n1,n2,rfl⟩ <;> rfl
 refine⟨P,x',⟨?_,⟨le.ok,(),()⟩,le.h,?_,(),λ_=>ek,.inl (),⟨λ_=>c0,λ_=>(),λ_ _=>()⟩⟩,B⟩
 .rcases hA with ⟨w,hw,rfl⟩|⟨n,n1,n2,rfl⟩
  .exact .nam hw
  .exact .num n1 n2
 .rcases hA with ⟨w,hw,rfl⟩|⟨n,n1,n2,rfl⟩ <;> exact ks
section
variable{N:Str->Prop}{ws sc:C0}{x x':Sx}{dm:Nat}{dp:Int}
def Bl.up{i:Nat}{as:C3}{v:U}(b:Bl x i as lv v x')(h:lv<=lv'):Bl x i as lv' v x':=⟨λ{fw d p S xx K} hp hk=>by
 have:=b.h (fw:=fw) (d:=d+(lv'-lv)) (xx:=xx) hp hk;rw[show d+(lv'-lv)+lv=d+lv' by lia] at this;exact this⟩
def PH(N:Str->Prop)(ws:C0)(dm:Nat):Prop:=∀{x:Sx}{sc:C0}{dp:Int},Iv x->x.k+40*dm<=2000->sc.length+10*dm<=500->dp<=dm->∃P x',Pt N sc dm x P x'/\Bl x 51 [scU ws,scU sc,.int dp] (3*dm+3) P.u x'
structure Pts(N:Str->Prop)(sc:C0)(dm:Nat)(x:Sx)(as:B4 Pg)(x':Sx):Prop where
 wf:∀a∈as,Wf N sc dm a
 iv:Iv x'
 h:x'.h=x.h
 ks:Ks x.h x.k x'.k (Pg.plss as)
 lo:x.k<=x'.k
 at80:80<=x.k->x'.k=x.k+as.length
 hi:x'.k<=x.k+as.length\/x'.k<=82+6*dm+as.length
 ct:dm<=14->Cn 0 (Pg.cnts as) dm x.k x'.k
theorem pG(H:PH N ws dm)(hl:sc.length+10*dm<=500)(hd:dp<=dm):∀{n:Nat}{x:Sx},Iv x->x.k+40*dm+10*n<=2000->n<=4->82+6*dm+40*dm<=1900->∃as x',as.length=n/\Pts N sc dm x as x'/\∀{fw d p lo:Nat}{S:So}{K:D0}{ys:C3},at? S p=some (.dct x.kv)->K (.lst<|ys++Pg.us as) (set S p<|.dct x'.kv)->lcK (Gd fw<|d+(3*dm+3)) (lcB [1] true [none,none,some<|.ref p,some<|scU sc,some<|scU ws,some<|.int dp] none (Jm 51<|Jn J7 J8 Ja Jd)<|Gd fw<|d+(3*dm+3)) (zBt (lo:Int) n) ys S K
 | 0,x,hx,_,_,_=>⟨[],x,rfl,⟨λ_ z=>(nomatch z),hx,rfl,.nil,xBu _,λ_=>⋯,.inl ⋯,λ_=>⟨λ_=>rfl,λ_=>by show 45 * ((0:Nat):Int)+0<=_;lia,λ_ _=>()⟩⟩,λ{fw d p lo S K ys} h hk=>by
  rw[Pg.us,xB0,zBh h] at hk;exact hk⟩
 |n+1,x,hx,hk,hn,hb=>by
  let⟨P,x1,p1,b1⟩:=H (x:=x) (sc:=sc) (dp:=dp) hx () hl hd;have lo1:=p1.lo;have hi1:=p1.hi;let⟨as,x2,e,q,f⟩:=pG H hl hd (n:=n) (x:=x1) p1.iv () () hb;have lo2:=q.lo;have hi2:=q.hi;have a1:=p1.at80;have a2:=q.at80;refine⟨P::as,x2,by rw[xAo,e],⟨λa ha=>?_,q.iv,q.h.trans p1.h,?_,(),λz=>?_,?_,λz=>(p1.ct.app (q.ct z) () () () lo2).w () (xAg _) (xBu _)<|.inr rfl⟩,λ{fw d p lo S K ys} h hk=>?_⟩
  .rcases xAv.mp ha with rfl|ha
   .exact p1.wf
   .exact q.wf a ha
  .have k2:=q.ks;rw[p1.h] at k2;exact p1.ks.app k2 () lo2
  .rw[xAo];have:=a1 z;have:=a2 ();lia
  .rw[xAo];lia
  .erw[b1.h h,f (lo:=lo+1) (zAc h)];rw[zAb,xAx];exact hk
def lQ(H:PH N ws dm)(hl:sc.length+10*dm<=500)(hd:dp<=dm)(hx:Iv x)(hk:x.k+40*dm+40<=2000)(hm:dm<=20):∃as x',as.length<=4/\Pts N sc dm x as x'/\Bl x 44 [scU ws,scU sc,.int dp] (3*dm+4) (.tup<|Pg.us as) x':=by
 have l1:=x.tk_le (m:=5) hx.ok ∅;let⟨d1,d2⟩:=x.dg_lt (m:=5) ∅;let⟨n,hn⟩:=Int.eq_ofNat_of_zero_le d1;have i1:Iv<|x.tk 5:=⟨l1.ok,by rw[l1.a,l1.k];exact hx.a,by rw[l1.k];exact hx.k⟩
 let⟨as,x2,e,q,f⟩:=pG (n:=n) H hl hd i1 (by rw[l1.k];lia) () ();have ek:(x.tk 5).k=x.k:=l1.k;have eh:(x.tk 5).h=x.h:=l1.h;erw[<-⟨as,x2,(),⟨q.wf,q.iv,by rw[q.h,eh],by have:=q.ks;rw[ek,eh] at this;exact this,by have:=q.lo;lia,λz=>by have:=q.at80 ();lia,by have:=q.hi;lia,λz=>by have:=q.ct z;rw[ek] at this;exact this⟩,⟨λ{fw d p S xx K} h hk'=>?_⟩⟩,cd ⟨4,4,t44⟩,(cz hx.ok ∅).h h];rw[hn];erw[pd (jH ())];rw[xC3];refine bI (λ_=>?_) λz=>?_
 .erw[f (lo:=0) (zAc h)];rw[xC6];erw[pv (.tup<|Pg.us as)];rw[zAb];exact hk'
 .rw[zAz,xDk<|show n<=sizeLine by show n<=2^24;lia] at z;cases z
end
section
variable{N:Str->Prop}{ws sc:C0}{x x':Sx}{e:Nat}{dp way:Int}
structure Pn(N:Str->Prop)(sc:C0)(dm:Nat)(x:Sx)(P:Pg)(x':Sx):Prop where
 wf:Wf N sc dm P
 iv:Iv x'
 h:x'.h=x.h
 ks:Ks x.h x.k x'.k P.pls
 lo:x.k<x'.k
 hi:x'.k<=82+6*dm
 ct:Cn (42-3*(dm:Int)) P.cnt dm x.k x'.k
theorem Iv.nx(h:Iv x)(hk:x.k<10000):Iv x.nx:=⟨h.ok,by show x.a-1=80-(x.k+1);have:=h.a;lia,by show 0<=x.k+1/\x.k+1<=10000;have:=h.k;lia⟩
def Iv.le{y:Sx}(h:Iv x)(l:x.Le y):Iv y:=⟨l.ok,by rw[l.a,l.k];exact h.a,by rw[l.k];exact h.k⟩
def dJ{P:Pg}{r:C5}(hx:x.k<80)(e1:P.pls=x.pl::r)(wf:Wf N sc (e+1) P)(iv:Iv x')(h:x'.h=x.h)(ks:Ks x.h (x.k+1) x'.k r)(lo:x.k+1<=x'.k)(hi:x'.k<=88+6*e)(ct:Cn (42-3*((e+1:Nat):Int)) P.cnt (e+1) x.k x'.k):Pn N sc (e+1) x P x':=by
 refine⟨wf,iv,h,?_,(),(),ct⟩;rw[e1];exact Ks.cons (k:=x.k+1) () (xBu _) ks lo
def nY(hx:Iv x)(h80:x.k<80):∃P x',Pn N sc (e+1) x P x'/\Bl x 49 [scU ws,scU sc,.int dp,.int 2] (3*e+5) P.u x':=by
 erw[<-⟨.ask x.pl,x.nx,dJ h80 rfl .ask (hx.nx ()) rfl .nil (xBu _) (by show x.k+1<=_;lia)<|.up0 (o:=0) h80 ⟨λ_=>rfl,λ_=>by show 45*((0:Nat):Int)+0<=42*(x.k+1-(x.k+1));lia,λ_ h=>absurd (show 80<=x.k+1 from h) ()⟩<|xBu _,⟨λ{fw d p S xx K} h hk=>?_⟩⟩,cd (d:=d+(3*e+4)) ⟨5,9,t49⟩,((cv hx.k).up ()).h h,<-pv (.bl false)<|bF<|bF ?_,<-pv (.bl false)<|bF ?_,<-pv (.bl true)<|bT ?_,<-hk]
def kJ(H:PH N ws e)(he:e<=14)(hl:sc.length+10*e<=500)(hd:dp<=e)(hx:Iv x)(h80:x.k<80):∃P x',Pn N sc (e+1) x P x'/\Bl x 49 [scU ws,scU sc,.int dp,.int 1] (3*e+5) P.u x':=by
 have i1:=hx.nx ();have k0:=hx.k;have k1:x.nx.k=x.k+1:=rfl;let⟨w,x2,hw,l2,b2⟩:=f8 i1.ok;have i2:=i1.le l2;have k2:x2.k=x.k+1:=l2.k;let⟨as,x3,n4,q,b3⟩:=lQ H hl hd i2 () ();have a:=q.at80;have b:=q.hi;have c:=q.lo;have h2:x2.h=x.h:=l2.h;erw[<-⟨.make x.pl w as,x3,dJ (r:=Pg.plss as) h80 rfl (.make hw q.wf n4) q.iv (by rw[q.h,h2]) (by have:=q.ks;rw[h2,k2] at this;exact this) () ()<|.up0 h80 (by have:=q.ct he;rw[k2] at this;exact this)<|xBu _,⟨λ{fw d p S xx K} h hk=>?_⟩⟩,cd (d:=d+(3*e+4)) ⟨5,9,t49⟩,((cv hx.k).up ()).h h];have g1:=zAc (o':=Ob.dct x.nx.kv) h;erw[<-pv (.bl false)<|bF<|bF ?_,<-pv (.bl true)<|bT ?_,(b2.up ()).h g1];have g2:=zAc (o':=Ob.dct x2.kv) g1;erw[(b3.up ()).h g2];rw[zAb,zAb];exact hk
end
section
variable{N:Str->Prop}{ws sc:C0}{x x':Sx}{e:Nat}{dp way:Int}
def nX(H:PH N ws e)(he:e<=14)(hl:sc.length+10*e<=500)(hd:dp<=e)(hx:Iv x)(h80:x.k<80)(hs:sc.isEmpty=false):∃P x',Pn N sc (e+1) x P x'/\Bl x 49 [scU ws,scU sc,.int dp,.int 0] (3*e+5) P.u x':=by
 have i1:=hx.nx ();have k0:=hx.k;have k1:x.nx.k=x.k+1:=rfl;have hn:0<(sc.length:Int):=by
  cases sc with
  |nil=>cases hs
  |cons _ _=>rw[xAo];lia
 have l2:=x.nx.tk_le (m:=sc.length) i1.ok hn;let⟨w,hw,ew⟩:=fg (sc:=sc)<|x.nx.dg_lt hn;have i2:=i1.le l2;have k2:(x.nx.tk sc.length).k=x.k+1:=l2.k;have h2:(x.nx.tk sc.length).h=x.h:=l2.h;let⟨P,x3,q,b3⟩:=H (x:=x.nx.tk sc.length) (sc:=sc) (dp:=dp) i2 () hl hd;have a:=q.at80;have b:=q.hi;have c:=q.lo;erw[<-⟨.st x.pl w P,x3,dJ (r:=P.pls) h80 rfl (.st hw q.wf) q.iv (by rw[q.h,h2]) (by have:=q.ks;rw[h2,k2] at this;exact this) () ()<|.up1 h80 (by have:=q.ct;rw[k2] at this;exact this),⟨λ{fw d p S xx K} h hk=>?_⟩⟩,cd (d:=d+(3*e+4)) ⟨5,9,t49⟩,((cv hx.k).up ()).h h];have g1:=zAc (o':=Ob.dct x.nx.kv) h;erw[<-pv (.bl true)<|bT ?_,pv (.lst []),pd fC];rw[hs];erw[bT,pd gk,((cz i1.ok ⟨hn,()⟩).up ()).h g1];have g2:=zAc (o':=Ob.dct (x.nx.tk sc.length).kv) g1;erw[pd ew,(b3.up ()).h g2];rw[zAb,zAb];exact hk
def jJ(H:PH N ws e)(he:e<=14)(hl:sc.length+10*e<=500)(hd:dp<=e)(hx:Iv x)(h80:x.k<80):∃P x',Pn N sc (e+1) x P x'/\Bl x 49 [scU ws,scU sc,.int dp,.int 3] (3*e+5) P.u x':=by
 have i1:=hx.nx ();have k0:=hx.k;have k1:x.nx.k=x.k+1:=rfl;let⟨P,x2,q,b2⟩:=H (x:=x.nx) (sc:=sc) (dp:=dp) i1 () hl hd;let⟨w,x3,hw,l3,b3⟩:=f8 q.iv.ok;have a:=q.at80;have b:=q.hi;have c:=q.lo;have k3:x3.k=x2.k:=l3.k;have h3:x3.h=x2.h:=l3.h;erw[<-⟨.rai x.pl w P,x3,dJ (r:=P.pls) h80 rfl (.rai hw q.wf) (q.iv.le l3) (by rw[h3,q.h];rfl) (by have:=q.ks;rw[k3];exact this) () () (.up0 h80 (by rw[k3];exact q.ct) ()),⟨λ{fw d p S xx K} h hk=>?_⟩⟩,cd (d:=d+(3*e+4)) ⟨5,9,t49⟩,((cv hx.k).up ()).h h];have g1:=zAc (o':=Ob.dct x.nx.kv) h;erw[<-pv (.bl false)<|bF<|bF<|pv (.bl false)<|bF<|pv (.bl false)<|bF ?_,(b2.up ()).h g1];have g2:=zAc (o':=Ob.dct x2.kv) g1;erw[<-pv (.bl true)<|bT ?_,(b3.up ()).h g2];rw[zAb,zAb];exact hk
def kK(H:PH N ws e)(he:e<=14)(hl:sc.length+10*e<=500)(hd:dp<=e)(hx:Iv x)(h80:x.k<80):∃P x',Pn N sc (e+1) x P x'/\Bl x 49 [scU ws,scU sc,.int dp,.int 4] (3*e+5) P.u x':=by
 have i1:=hx.nx ();have k0:=hx.k;have k1:x.nx.k=x.k+1:=rfl;let⟨P,x2,q,b2⟩:=H (x:=x.nx) (sc:=sc) (dp:=dp) i1 () hl hd;have a:=q.at80;have b:=q.hi;have c:=q.lo;let⟨as,x3,n4,r,b3⟩:=lQ H hl hd q.iv () ();have a':=r.at80;have b':=r.hi;have c':=r.lo;have h2:x2.h=x.h:=q.h;erw[<-⟨.call x.pl P as,x3,dJ (r:=P.pls++Pg.plss as) h80 rfl (.call q.wf r.wf n4) r.iv (by rw[r.h,h2]) (by have k:=r.ks;rw[h2] at k;exact Ks.app q.ks k () c') () () (Cn.up0 h80 (q.ct.app (r.ct he) () (xBu _) () c') ()),⟨λ{fw d p S xx K} h hk=>?_⟩⟩,cd (d:=d+(3*e+4)) ⟨5,9,t49⟩,((cv hx.k).up ()).h h];have g1:=zAc (o':=Ob.dct x.nx.kv) h;erw[<-pv (.bl false)<|bF<|bF<|pv (.bl false)<|bF<|pv (.bl false)<|bF ?_,(b2.up ()).h g1];have g2:=zAc (o':=Ob.dct x2.kv) g1;erw[<-pv (.bl false)<|bF<|pv (.bl true)<|bT ?_,(b3.up ()).h g2];rw[zAb,zAb];exact hk
def kI(H:PH N ws e)(he:e<=14)(hl:sc.length+10*e<=500)(hd:dp<=e)(hx:Iv x)(h80:x.k<80):∃P x',Pn N sc (e+1) x P x'/\Bl x 49 [scU ws,scU sc,.int dp,.int 5] (3*e+5) P.u x':=by
 have i1:=hx.nx ();have k0:=hx.k;have k1:x.nx.k=x.k+1:=rfl;let⟨P,x2,q,b2⟩:=H (x:=x.nx) (sc:=sc) (dp:=dp) i1 () hl hd;have a:=q.at80;have b:=q.hi;have c:=q.lo;erw[<-⟨.tell x.pl P,x2,dJ (r:=P.pls) h80 rfl (.tell q.wf) q.iv q.h q.ks () () (.up0 h80 q.ct ()),⟨λ{fw d p S xx K} h hk=>?_⟩⟩,cd (d:=d+(3*e+4)) ⟨5,9,t49⟩,((cv hx.k).up ()).h h];have g1:=zAc (o':=Ob.dct x.nx.kv) h;erw[<-pv (.bl false)<|bF<|bF<|pv (.bl false)<|bF<|pv (.bl false)<|bF ?_,(b2.up ()).h g1,<-pv (.bl false)<|bF<|pv (.bl false)<|bF<|pv (.bl true)<|bT ?_];rw[zAb];exact hk
def pW(H:PH N ws e)(he:e<=14)(hl:sc.length+10*e<=500)(hd:dp<=e)(hx:Iv x)(h80:x.k<80):∃P x',Pn N sc (e+1) x P x'/\Bl x 49 [scU ws,scU sc,.int dp,.int 6] (3*e+5) P.u x':=by
 have i1:=hx.nx ();have k0:=hx.k;have k1:x.nx.k=x.k+1:=rfl;let⟨P,x2,q,b2⟩:=H (x:=x.nx) (sc:=sc) (dp:=dp) i1 () hl hd;have a:=q.at80;have b:=q.hi;have c:=q.lo;let⟨Q,x3,r,b3⟩:=H (x:=x2) (sc:=sc) (dp:=dp) q.iv () hl hd;have a':=r.at80;have b':=r.hi;have c':=r.lo;let⟨R,x4,t,b4⟩:=H (x:=x3) (sc:=sc) (dp:=dp) r.iv () hl hd;have a'':=t.at80;have b'':=t.hi;have c'':=t.lo;have h2:x2.h=x.h:=q.h;have h3:x3.h=x.h:=r.h.trans h2;erw[<-⟨.iff x.pl P Q R,x4,dJ (r:=P.pls++(Q.pls++R.pls)) h80 rfl (.iff q.wf r.wf t.wf) t.iv (by rw[t.h,h3]) (by have k:=r.ks;rw[h2] at k;have k':=t.ks;rw[h3] at k';exact Ks.app q.ks (k.app k' () ()) () ()) () () (Cn.up0 h80 (q.ct.app (r.ct.app t.ct () () () ()) () () () ()) ()),⟨λ{fw d p S xx K} h hk=>?_⟩⟩,cd (d:=d+(3*e+4)) ⟨5,9,t49⟩,((cv hx.k).up ()).h h];have g1:=zAc (o':=Ob.dct x.nx.kv) h;erw[<-pv (.bl false)<|bF<|bF<|pv (.bl false)<|bF<|pv (.bl false)<|bF ?_,(b2.up ()).h g1];have g2:=zAc (o':=Ob.dct x2.kv) g1;erw[<-pv (.bl false)<|bF<|pv (.bl false)<|bF<|pv (.bl false)<|bF ?_,(b3.up ()).h g2];have g3:=zAc (o':=Ob.dct x3.kv) g2;erw[<-pv (.bl true)<|bT ?_,(b4.up ()).h g3];rw[zAb,zAb,zAb];exact hk
end
section
variable{N:Str->Prop}{ws sc:C0}{x x':Sx}{e:Nat}{dp way:Int}
def vS(H:PH N ws e)(he:e<=14)(hl:sc.length+10*e<=500)(hd:dp<=e)(hx:Iv x)(h80:x.k<80)(hw:way=0\/7<=way):∃P x',Pn N sc (e+1) x P x'/\∀{fw d p:Nat}{S:So}{xx:D3}{K:D0}{a6 a7 a8:B5 U},at? S p=some (.dct x.nx.kv)->K P.u (set S p<|.dct x'.kv)->zG3 (Gd fw<|d+(3*e+4)) [some<|.ref p,some<|scU ws,some<|scU sc,some<|.int dp,some<|.int way,some<|.int x.pl,a6,a7,a8] S (zAo xx K):=by
 have i1:=hx.nx ();have k0:=hx.k;have k1:x.nx.k=x.k+1:=rfl;let⟨P,x2,q,b2⟩:=H (x:=x.nx) (sc:=sc) (dp:=dp) i1 () hl hd;have a:=q.at80;have b:=q.hi;have c:=q.lo;let⟨Q,x3,r,b3⟩:=H (x:=x2) (sc:=sc) (dp:=dp) q.iv () hl hd;have a':=r.at80;have b':=r.hi;have c':=r.lo;have h2:x2.h=x.h:=q.h;have h3:x3.h=x.h:=r.h.trans h2;have ks:Ks x.h (x.k+1) x3.k<|P.pls++Q.pls:=by
  have k:=r.ks;rw[h2] at k;exact Ks.app q.ks k () ()
 have n3:∀{j:Int},j=3\/j=4\/j=5\/j=6->decide (way=j)=false:=λ{j} hj=>xCn ();by_cases h9:way<9
 .have l4:=x3.tk_le (m:=5) r.iv.ok ∅;let⟨o,ho,eo⟩:=fg (sc:=ops) (i:=x3.dg 5) (x3.dg_lt (m:=5) ∅);have k4:(x3.tk 5).k=x3.k:=l4.k;have h4:(x3.tk 5).h=x3.h:=l4.h;erw[<-⟨.math x.pl o P Q,x3.tk 5,dJ (r:=P.pls++Q.pls) h80 rfl (.math ho q.wf r.wf) (r.iv.le l4) (by rw[h4,h3]) (by rw[k4];exact ks) () () (Cn.up0 h80 (by rw[k4];exact q.ct.app r.ct () () () ()) ()),λ{fw d p S xx K a6 a7 a8} g1 hk=>?_⟩,(b2.up ()).h g1];have g2:=zAc (o':=Ob.dct x2.kv) g1;erw[pd cJ];rw[n3<|.inl rfl];refine bF<|pd cJ ?_;rw[n3<|.inr<|.inl rfl];refine bF<|pd cJ ?_;rw[n3<|.inr<|.inr<|.inl rfl];erw[bF,(b3.up ()).h g2];have g3:=zAc (o':=Ob.dct x3.kv) g2;erw[pd cJ];rw[n3<|.inr<|.inr<|.inr rfl];erw[bF,pv (.bl<|decide<|way<9)];rw[xBd h9];erw[bT,pv (scU ops),((cz r.iv.ok ∅).up ()).h g3,pd eo];rw[zAb,zAb];exact hk
 .erw[<-⟨.dd x.pl P Q,x3,dJ (r:=P.pls++Q.pls) h80 rfl (.dd q.wf r.wf) r.iv h3 ks () () (Cn.up0 h80 (q.ct.app r.ct () () () ()) ()),λ{fw d p S xx K a6 a7 a8} g1 hk=>?_⟩,(b2.up ()).h g1];have g2:=zAc (o':=Ob.dct x2.kv) g1;erw[pd cJ];rw[n3<|.inl rfl];refine bF<|pd cJ ?_;rw[n3<|.inr<|.inl rfl];refine bF<|pd cJ ?_;rw[n3<|.inr<|.inr<|.inl rfl];erw[bF,(b3.up ()).h g2,pd cJ];rw[n3<|.inr<|.inr<|.inr rfl];erw[bF,pv (.bl<|decide<|way<9)];rw[xCn h9];erw[bF];rw[zAb];exact hk
def pX(H:PH N ws e)(he:e<=14)(hl:sc.length+10*e<=500)(hd:dp<=e)(hx:Iv x)(h80:x.k<80)(hw:0<=way/\way<12):∃P x',Pn N sc (e+1) x P x'/\Bl x 49 [scU ws,scU sc,.int dp,.int way] (3*e+5) P.u x':=by
 have gen:(way=0/\sc.isEmpty=true\/7<=way)->∃P x',Pn N sc (e+1) x P x'/\Bl x 49 [scU ws,scU sc,.int dp,.int way] (3*e+5) P.u x':=λhg=>by
  let⟨P,x',q,f⟩:=vS (way:=way) H he hl hd hx h80 ();erw[<-⟨P,x',q,⟨λ{fw d p S xx K} h hk=>?_⟩⟩,cd (d:=d+(3*e+4)) ⟨5,9,t49⟩,((cv hx.k).up ()).h h];have g1:=zAc (o':=Ob.dct x.nx.kv) h;erw[pd cJ];have go:(sQ (J9 (Jf J8 Jb)<|J5<|Jt (J4 "make") Jd (Jg 48 J0)<|Jm 44<|Jn J0 J2 J7 Ja)<|sQ (J9 (Jf J8 Jp)<|J5<|Ji (J4 "ask") Jd) zG3) (Gd fw<|d+(3*e+4)) [some<|.ref p,some<|scU ws,some<|scU sc,some<|.int dp,some<|.int way,some<|.int x.pl,none,none,none] (set S p<|.dct x.nx.kv)<|zAo xx K:=by
   erw[pd cJ];rw[xCn ()];refine bF<|pd cJ ?_;rw[xCn ()];erw[bF];exact f g1 (by rw[zAb];exact hk)
  by_cases h0:way=0
  .rw[xBd h0];erw[bT,pv (.lst []),pd fC];rw[show sc.isEmpty=true by rcases hg with z|z;exact z.2;lia];erw[bF];exact go
  .rw[xCn h0];refine bF<|bF ?_;exact go
 rcases(show way=0\/way=1\/way=2\/way=3\/way=4\/way=5\/way=6\/7<=way by lia) with h|h|h|h|h|h|h|h
 .cases hs:sc.isEmpty with
  |true=>exact gen (.inl ⟨h,hs⟩)
  |false=>rw[h];exact nX H he hl hd hx h80 hs
 .rw[h];exact kJ H he hl hd hx h80
 .rw[h];exact nY hx h80
 .rw[h];exact jJ H he hl hd hx h80
 .rw[h];exact kK H he hl hd hx h80
 .rw[h];exact kI H he hl hd hx h80
 .rw[h];exact pW H he hl hd hx h80
 .exact gen<|.inr h
end
section
variable{N:Str->Prop}{ws sc:C0}{x x':Sx}{e:Nat}{dp way:Int}
def eF{xs:C0}(h:sc.length+xs.length<=1000):pr ups (.add false) [scU sc,scU xs] S=.ok (scU<|sc++xs) S:=by
 show fits ((sc.map U.str).length+(xs.map U.str).length) (.ok (.lst<|sc.map .str++xs.map .str) S)=_;rw[zA3 (by rw[xAa,xAa];show _<=2^24;lia),<- xAi];rfl
def pR{xs:C0}:pr ups (.lstOf false) [.tup<|xs.map .str] S=.ok (scU xs) S:=rfl
def Nms.z{xs:C0}(h:Nms ws xs)(hN:∀y∈ws,N y):Nmz N xs:=⟨λy hy=>hN y<|h.sub y hy,h.few,h.nd⟩
def gz(hx:Iv x)(hk:x.k<9000)(h5:ws.length=5)(hn:ws.Nodup):∃xs y x3,Nms ws xs/\y∈ws/\x.nx.Le x3/\∀{fw d p:Nat}{S:So}{xx:D3}{K:D0}{dp way:Int},at? S p=some (.dct x.kv)->rz6 (Gd fw<|d+2) [some<|.ref p,some<|scU ws,some<|scU sc,some<|.int dp,some<|.int way,some<|.int x.pl,some<|.tup<|xs.map .str,some<|.str y,none,none,none] (set S p<|.dct x3.kv) (zAo xx K)->(Gd fw<|d+3).call 47 [.ref p,scU ws,scU sc,.int dp,.int way] S xx K:=by
 have i1:=hx.nx ();let⟨xs,x2,hxs,l2,b2⟩:=il (ws:=ws) i1.ok h5 hn;have l3:=x2.tk_le (m:=5) l2.ok ∅;let⟨y,hy,ey⟩:=fg (sc:=ws) (i:=x2.dg 5) (by have:=x2.dg_lt (m:=5) ∅;lia);erw[<-⟨xs,y,x2.tk 5,hxs,hy,l2.trans l3,λ{fw d p S xx K dp way} h hk=>?_⟩,cd (d:=d+2) ⟨5,11,t47⟩,((cv hx.k).up ()).h h];have g1:=zAc (o':=Ob.dct x.nx.kv) h;erw[b2.h g1];have g2:=zAc (o':=Ob.dct x2.kv) g1;erw[pd (fD h5),((cz l2.ok ∅).up ()).h g2,pd ey];rw[zAb,zAb];exact hk
end
section
variable{N:Str->Prop}{ws sc:C0}{x x':Sx}{e:Nat}{dp way:Int}
def bind_fn(H:PH N ws e)(hN:∀y∈ws,N y)(h5:ws.length=5)(hn:ws.Nodup)(he:e<=14)(hl:sc.length+10*(e+1)<=500)(hd:dp<=e)(hx:Iv x)(h80:x.k<80):∃P x',Pn N sc (e+1) x P x'/\Bl x 47 [scU ws,scU sc,.int dp,.int 0] (3*e+5) P.u x':=by
 have i1:=hx.nx ();have k0:=hx.k;have k1:x.nx.k=x.k+1:=rfl;let⟨xs,y,x3,hxs,hy,l3,f⟩:=gz (sc:=sc) hx () h5 hn;have i3:=i1.le l3;have k3:x3.k=x.k+1:=l3.k;have h3:x3.h=x.h:=l3.h;have few:=hxs.few;let⟨P,x4,q,b4⟩:=H (x:=x3) (sc:=sc++xs) (dp:=dp) i3 () (by rw[xAb];lia) hd;have a:=q.at80;have b:=q.hi;have c:=q.lo;erw[<-⟨.fn x.pl xs P,x4,dJ (r:=P.pls) h80 rfl (.fn (hxs.z hN) q.wf) q.iv (by rw[q.h,h3]) (by have:=q.ks;rw[h3,k3] at this;exact this) () ()<|.up1 h80 (by have:=q.ct;rw[k3] at this;exact this),⟨λ{fw d p S xx K} h hk=>?_⟩⟩,f (d:=d+(3*e+2)) h];have g3:=zAc (o':=Ob.dct x3.kv) h;erw[<-pv (.bl true)<|bT ?_,pd pR,pd (eF ()),(b4.up (lv':=3*e+4) ()).h (d:=d) g3];rw[zAb];exact hk
def su(H:PH N ws e)(hN:∀y∈ws,N y)(h5:ws.length=5)(hn:ws.Nodup)(he:e<=14)(hl:sc.length+10*(e+1)<=500)(hd:dp<=e)(hx:Iv x)(h80:x.k<80):∃P x',Pn N sc (e+1) x P x'/\Bl x 47 [scU ws,scU sc,.int dp,.int 1] (3*e+5) P.u x':=by
 have i1:=hx.nx ();have k0:=hx.k;have k1:x.nx.k=x.k+1:=rfl;let⟨xs,y,x3,hxs,hy,l3,f⟩:=gz (sc:=sc) hx () h5 hn;have i3:=i1.le l3;have k3:x3.k=x.k+1:=l3.k;have h3:x3.h=x.h:=l3.h;let⟨P,x4,q,b4⟩:=H (x:=x3) (sc:=sc) (dp:=dp) i3 () () hd;have a:=q.at80;have b:=q.hi;have c:=q.lo;let⟨Q,x5,r,b5⟩:=H (x:=x4) (sc:=sc++[y]) (dp:=dp) q.iv () (by rw[xAb,xAt];lia) hd;have a':=r.at80;have b':=r.hi;have c':=r.lo;have h4:x4.h=x.h:=q.h.trans h3;erw[<-⟨.lt x.pl y P Q,x5,dJ (r:=P.pls++Q.pls) h80 rfl (.lt (hN y hy) q.wf r.wf) r.iv (by rw[r.h,h4]) (by have k:=r.ks;rw[h4] at k;have k':=q.ks;rw[h3,k3] at k';exact Ks.app k' k () ()) () ()<|Cn.up1 h80 (by have:=q.ct;rw[k3] at this;exact this.app r.ct () () () ()),⟨λ{fw d p S xx K} h hk=>?_⟩⟩,f (d:=d+(3*e+2)) h];have g3:=zAc (o':=Ob.dct x3.kv) h;erw[<-pv (.bl false)<|bF<|pv (.bl true)<|bT ?_,(b4.up (lv':=3*e+4) ()).h (d:=d) g3];have g4:=zAc (o':=Ob.dct x4.kv) g3;erw[pv (scU [y]),pd (eF<|by rw[xAt];lia),(b5.up (lv':=3*e+4) ()).h (d:=d) g4];rw[zAb,zAb];exact hk
def so(H:PH N ws e)(hN:∀y∈ws,N y)(h5:ws.length=5)(hn:ws.Nodup)(he:e<=14)(hl:sc.length+10*(e+1)<=500)(hd:dp<=e)(hx:Iv x)(h80:x.k<80):∃P x',Pn N sc (e+1) x P x'/\Bl x 47 [scU ws,scU sc,.int dp,.int 2] (3*e+5) P.u x':=by
 have i1:=hx.nx ();have k0:=hx.k;have k1:x.nx.k=x.k+1:=rfl;let⟨xs,y,x3,hxs,hy,l3,f⟩:=gz (sc:=sc) hx () h5 hn;have few:=hxs.few;have i3:=i1.le l3;let⟨w,x4,hw,l4,b4⟩:=f8 i3.ok;have i4:=i3.le l4;have k4:x4.k=x.k+1:=l4.k.trans l3.k;have h4:x4.h=x.h:=l4.h.trans l3.h;let⟨P,x5,q,b5⟩:=H (x:=x4) (sc:=sc) (dp:=dp) i4 () () hd;have a:=q.at80;have b:=q.hi;have c:=q.lo;let⟨Q,x6,r,b6⟩:=H (x:=x5) (sc:=sc++xs) (dp:=dp) q.iv () (by rw[xAb];lia) hd;have a':=r.at80;have b':=r.hi;have c':=r.lo;let⟨R,x7,t,b7⟩:=H (x:=x6) (sc:=sc) (dp:=dp) r.iv () () hd;have a'':=t.at80;have b'':=t.hi;have c'':=t.lo;have h5':x5.h=x.h:=q.h.trans h4;have h6:x6.h=x.h:=r.h.trans h5';erw[<-⟨.mat x.pl P w xs Q R,x7,dJ (r:=P.pls++(Q.pls++R.pls)) h80 rfl (.mat hw (hxs.z hN) q.wf r.wf t.wf) t.iv (by rw[t.h,h6]) (by have k:=r.ks;rw[h5'] at k;have k':=t.ks;rw[h6] at k';have k'':=q.ks;rw[h4,k4] at k'';exact Ks.app k'' (k.app k' () ()) () ()) () ()<|Cn.up1 h80 (by have:=q.ct;rw[k4] at this;exact this.app (r.ct.app t.ct () () () ()) () () () ()),⟨λ{fw d p S xx K} h hk=>?_⟩⟩,f (d:=d+(3*e+2)) h];have g3:=zAc (o':=Ob.dct x3.kv) h;erw[<-pv (.bl false)<|bF<|pv (.bl false)<|bF ?_,(b4.up (lv':=3*e+4) ()).h (d:=d) g3];have g4:=zAc (o':=Ob.dct x4.kv) g3;erw[(b5.up (lv':=3*e+4) ()).h (d:=d) g4];have g5:=zAc (o':=Ob.dct x5.kv) g4;erw[<-pv (.bl true)<|bT ?_,pd pR,pd (eF ()),(b6.up (lv':=3*e+4) ()).h (d:=d) g5];have g6:=zAc (o':=Ob.dct x6.kv) g5;erw[(b7.up (lv':=3*e+4) ()).h (d:=d) g6];rw[zAb,zAb,zAb,zAb];exact hk
def sn(H:PH N ws e)(hN:∀y∈ws,N y)(h5:ws.length=5)(hn:ws.Nodup)(he:e<=14)(hl:sc.length+10*(e+1)<=500)(hd:dp<=e)(hx:Iv x)(h80:x.k<80)(hw:3<=way):∃P x',Pn N sc (e+1) x P x'/\Bl x 47 [scU ws,scU sc,.int dp,.int way] (3*e+5) P.u x':=by
 have i1:=hx.nx ();have k0:=hx.k;have k1:x.nx.k=x.k+1:=rfl;let⟨xs,y,x3,hxs,hy,l3,f⟩:=gz (sc:=sc) hx () h5 hn;have i3:=i1.le l3;let⟨w,x4,hw,l4,b4⟩:=f8 i3.ok;have i4:=i3.le l4;have k4:x4.k=x.k+1:=l4.k.trans l3.k;have h4:x4.h=x.h:=l4.h.trans l3.h;let⟨P,x5,q,b5⟩:=H (x:=x4) (sc:=sc) (dp:=dp) i4 () () hd;have a:=q.at80;have b:=q.hi;have c:=q.lo;let⟨Q,x6,r,b6⟩:=H (x:=x5) (sc:=sc++[y]) (dp:=dp) q.iv () (by rw[xAb,xAt];lia) hd;have a':=r.at80;have b':=r.hi;have c':=r.lo;have h5':x5.h=x.h:=q.h.trans h4;erw[<-⟨.try_ x.pl P w y Q,x6,dJ (r:=P.pls++Q.pls) h80 rfl (.try_ hw (hN y hy) q.wf r.wf) r.iv (by rw[r.h,h5']) (by have k:=r.ks;rw[h5'] at k;have k'':=q.ks;rw[h4,k4] at k'';exact Ks.app k'' k () ()) () ()<|Cn.up1 h80 (by have:=q.ct;rw[k4] at this;exact this.app r.ct () () () ()),⟨λ{fw d p S xx K} h hk=>?_⟩⟩,f (d:=d+(3*e+2)) h];have g3:=zAc (o':=Ob.dct x3.kv) h;erw[pd cJ];rw[xCn ()];refine bF<|pd cJ ?_;rw[xCn ()];erw[bF,(b4.up (lv':=3*e+4) ()).h (d:=d) g3];have g4:=zAc (o':=Ob.dct x4.kv) g3;erw[(b5.up (lv':=3*e+4) ()).h (d:=d) g4];have g5:=zAc (o':=Ob.dct x5.kv) g4;erw[pd cJ];rw[xCn ()];erw[bF,pv (scU [y]),pd (eF<|by rw[xAt];lia),(b6.up (lv':=3*e+4) ()).h (d:=d) g5];rw[zAb,zAb,zAb];exact hk
def u0(H:PH N ws e)(hN:∀y∈ws,N y)(h5:ws.length=5)(hn:ws.Nodup)(he:e<=14)(hl:sc.length+10*(e+1)<=500)(hd:dp<=e)(hx:Iv x)(h80:x.k<80)(hw:0<=way):∃P x',Pn N sc (e+1) x P x'/\Bl x 47 [scU ws,scU sc,.int dp,.int way] (3*e+5) P.u x':=by
 rcases(show way=0\/way=1\/way=2\/3<=way by lia) with h|h|h|h
 .rw[h];exact bind_fn H hN h5 hn he hl hd hx h80
 .rw[h];exact su H hN h5 hn he hl hd hx h80
 .rw[h];exact so H hN h5 hn he hl hd hx h80
 .exact sn H hN h5 hn he hl hd hx h80 h
end
section
variable{N:Str->Prop}{ws sc:C0}{x x':Sx}{e:Nat}{dp way:Int}
def Ks.ins{h lo mi hi:Int}{l m r:C5}(a:Ks h lo mi<|l++r)(b:Ks h mi hi m)(h1:lo<=mi)(h2:mi<=hi):Ks h lo hi<|l++(m++r):=by
 let⟨ks,e,n1,b1⟩:=a;let⟨js,rfl,n2,b2⟩:=b;let⟨k1,k2,rfl,rfl,rfl⟩:=List.map_eq_append_iff.mp e.symm;let⟨n3,n4,n5⟩:=xBq.mp n1;refine⟨k1++(js++k2),by rw[xAi,xAi],xBq.mpr ⟨n3,xBq.mpr ⟨n2,n4,λx hx y hy e=>?_⟩,λx hx y hy e=>?_⟩,λk hk=>?_⟩
 .have:=b1 y<|xBt _ hy;have:=b2 x hx;lia
 .rcases xAj.mp hy with z|z
  .have:=b1 x<|xBw _ hx;have:=b2 y z;lia
  .exact n5 x hx y z e
 .rcases xAj.mp hk with z|z
  .have:=b1 k<|xBw _ z;lia
  .rcases xAj.mp z with z|z
   .have:=b2 k z;lia
   .have:=b1 k<|xBt _ z;lia
def dW{a b:Int}:pr ups .sub [.int a,.int b] S=.ok (.int<|a-b) S:=rfl
theorem pE{y:Str}(H:PH N ws e)(hl:(sc++[y]).length+10*e<=500)(hd:dp<=e+3):∀{xs:C0}{x:Sx},Iv x->x.k+40*e+10*xs.length<=2000->xs.length<=4->82+6*e+40*e<=1900->∃as x',as.length=xs.length/\Pts N (sc++[y]) e x as x'/\∀{fw d p:Nat}{S:So}{K:D0}{ys:C3},at? S p=some (.dct x.kv)->K (.lst<|ys++Pg.us as) (set S p<|.dct x'.kv)->lcK (Gd fw<|d+(3*e+4)) (lcB [1] true [none,none,some<|.ref p,some<|scU sc,some<|scU ws,some<|.str y,some<|.int dp] none (Jm 51<|Jn J7 J8 (J3 (.add false) Ja<|J6 (.lst false) Jd)<|J3 .sub Jh Jr)<|Gd fw<|d+(3*e+4)) (xs.map .str) ys S K
 | [],x,hx,_,_,_=>⟨[],x,rfl,⟨λ_ z=>(nomatch z),hx,rfl,.nil,xBu _,λ_=>⋯,.inl ⋯,λ_=>⟨λ_=>rfl,λ_=>by show 45 * ((0:Nat):Int)+0<=_;lia,λ_ _=>()⟩⟩,λ{fw d p S K ys} h hk=>by
  rw[Pg.us,xB0,zBh h] at hk;exact hk⟩
 |z::xs,x,hx,hk,hn,hb=>by
  rw[xAo] at hk hn;let⟨P,x1,p1,b1⟩:=H (x:=x) (sc:=sc++[y]) (dp:=dp-3) hx () hl ();have lo1:=p1.lo;have hi1:=p1.hi;let⟨as,x2,e',q,f⟩:=pE H hl hd (xs:=xs) (x:=x1) p1.iv () () hb;have lo2:=q.lo;have hi2:=q.hi;have a1:=p1.at80;have a2:=q.at80;refine⟨P::as,x2,by rw[xAo,xAo,e'],⟨λa ha=>?_,q.iv,q.h.trans p1.h,?_,(),λz=>?_,?_,λz=>(p1.ct.app (q.ct z) () () () lo2).w () (xAg _) (xBu _)<|.inr rfl⟩,λ{fw d p S K ys} h hk=>?_⟩
  .rcases xAv.mp ha with rfl|ha
   .exact p1.wf
   .exact q.wf a ha
  .have k2:=q.ks;rw[p1.h] at k2;exact p1.ks.app k2 () lo2
  .rw[xAo];have:=a1 z;have:=a2 ();lia
  .rw[xAo];lia
  .erw[pv (scU [y]),pd (eF<|by rw[xAb] at hl;lia),pd dW,(b1.up (lv':=3*e+4) ()).h (d:=d) h,f (zAc h)];rw[zAb,xAx];exact hk
end
section
variable{N:Str->Prop}{ws sc:C0}{x x':Sx}{e:Nat}{dp way:Int}
def oC(H:PH N ws e)(hN:∀y∈ws,N y)(h5:ws.length=5)(hn:ws.Nodup)(he:e<=11)(hl:sc.length+10*(e+3)<=500)(hd:dp<=e+3)(hx:Iv x)(h80:x.k<80):∃P x',Pn N sc (e+3) x P x'/\Bl x 50 [scU ws,scU sc,.int dp] (3*e+5) P.u x':=by
 have k0:=hx.k;have l1:=x.tk_le (m:=5) hx.ok ∅;let⟨y,hy,ey⟩:=fg (sc:=ws) (i:=x.dg 5) (by have:=x.dg_lt (m:=5) ∅;lia);let⟨xs,x2,hxs,l2',b2⟩:=il (ws:=ws) l1.ok h5 hn;have l2:=l1.trans l2';have few:=hxs.few;have i2:=hx.le l2;have k2:x2.k=x.k:=l2.k;have h2:x2.h=x.h:=l2.h;have j2:=i2.nx ();have m2:x2.nx.k=x.k+1:=by show x2.k+1=_;lia
 let⟨B,x3,q,b3⟩:=H (x:=x2.nx) (sc:=sc++xs) (dp:=dp-3) j2 () (by rw[xAb];lia) ();have c:=q.lo;have u3:x3.k<=82+6*(e:Int):=by have:=q.hi;lia
 have h3:x3.h=x.h:=q.h.trans h2;have j3:=q.iv.nx ();have m3:x3.nx.k=x3.k+1:=rfl;let⟨as,x5,n4,r,f⟩:=pE (sc:=sc) (y:=y) (dp:=dp) (xs:=xs) (x:=x3.nx) H (by rw[xAb,xAt];lia) hd j3 () few ();have c':=r.lo;have u5:x5.k<=87+6*(e:Int):=by have:=r.hi;lia
 have h5':x5.h=x.h:=r.h.trans h3;have j5:=r.iv.nx ();have m5:x5.nx.k=x5.k+1:=rfl;have j6:=j5.nx ();have m6:x5.nx.nx.k=x5.k+2:=by show x5.k+1+1=_;lia
 have l7:=x5.nx.nx.tk_le (m:=2) j6.ok ∅;have j7:=j6.le l7;have m7:(x5.nx.nx.tk 2).k=x5.k+2:=l7.k.trans m6;have h7:(x5.nx.nx.tk 2).h=x.h:=l7.h.trans h5';have k3:Ks x.h x.k x3.k<|x2.pl::B.pls:=by
  have k:=q.ks;rw[m2,show x2.nx.h=x.h from h2] at k;have:=Ks.cons (h:=x.h) (lo:=x.k) (k:=x.k+1) () (xBu _) k ();rw[show x2.pl=zBn x.h (x.k+1) by show zBn x2.h (x2.k+1)=_;rw[h2,k2]];exact this
 have k4:Ks x.h x.k (x3.k+1)<|x3.pl::(x2.pl::B.pls):=by
  have o:Ks x.h x3.k (x3.k+1) [x3.pl]:=by
   rw[show x3.pl=zBn x.h (x3.k+1) by show zBn x3.h (x3.k+1)=_;rw[h3]];exact Ks.one () ()
  exact Ks.ins (l:=[]) k3 o () ()
 have kC:Ks x.h (x3.k+1) (x5.k+2)<|x5.pl::x5.nx.pl::Pg.plss as:=by
  have k:=r.ks;rw[m3,show x3.nx.h=x.h from h3] at k;have o:Ks x.h x5.k (x5.k+2) [x5.pl,x5.nx.pl]:=by
   rw[show x5.pl=zBn x.h (x5.k+1) by show zBn x5.h (x5.k+1)=_;rw[h5'],show x5.nx.pl=zBn x.h (x5.k+2) by show zBn x5.h (x5.k+1+1)=_;rw[h5'];exact congrArg _ ()];exact Ks.cons () (xBu _) (Ks.one () ()) ()
  exact Ks.ins (l:=[]) k o () ()
 have cq:=q.ct;rw[m2] at cq;have cr:=r.ct ();rw[m3] at cr;have wF:Wf N sc (e+2)<|.fn x2.pl xs B:=(Wf.fn (hxs.z hN) q.wf).up ();have wC:Wf N (sc++[y]) (e+1)<|.call x5.pl (.nam x5.nx.pl y) as:=.call (.nam ⋯) r.wf ();have run:∀{fw d p:Nat}{S:So}{xx:D3}{K:D0},at? S p=some (.dct x.kv)->(at? (set S p<|.dct x5.nx.nx.kv) p=some (.dct x5.nx.nx.kv)->rz2 (Gd fw<|d+(3*e+4)) [some<|.ref p,some<|scU ws,some<|scU sc,some<|.int dp,some<|.str y,some<|.tup<|xs.map .str,some<|Pg.u<|.fn x2.pl xs B,some<|.int x3.pl,some<|.tup<|Pg.us as,some<|Pg.u<|.call x5.pl (.nam x5.nx.pl y) as] (set S p<|.dct x5.nx.nx.kv) (zAo xx K))->(Gd fw<|d+(3*e+5)).call 50 [.ref p,scU ws,scU sc,.int dp] S xx K:=λ{fw d p S xx K} h hk=>by
  erw[cd (d:=d+(3*e+4)) ⟨4,10,t50⟩,pd (fD h5),((cz hx.ok ∅).up (lv':=3*e+4) ()).h (d:=d) h];have g1:=zAc (o':=Ob.dct (x.tk 5).kv) h;erw[pd ey,(b2.up (lv':=3*e+4) ()).h (d:=d) g1];have g2:=zAc (o':=Ob.dct x2.kv) g1;erw[((cv i2.k).up (lv':=3*e+4) ()).h (d:=d) g2];have g3:=zAc (o':=Ob.dct x2.nx.kv) g2;erw[pd pR,pd (eF ()),pd dW,(b3.up (lv':=3*e+4) ()).h (d:=d) g3];have g4:=zAc (o':=Ob.dct x3.kv) g3;erw[((cv q.iv.k).up (lv':=3*e+4) ()).h (d:=d) g4];have g5:=zAc (o':=Ob.dct x3.nx.kv) g4;erw[pv (.tup<|xs.map .str),<-bI (λ_=>?_) λz=>?_]
  .erw[f g5];rw[xC6];erw[pv (.tup<|Pg.us as)];have g6:=zAc (o':=Ob.dct x5.kv) g5;erw[((cv r.iv.k).up (lv':=3*e+4) ()).h (d:=d) g6];have g7:=zAc (o':=Ob.dct x5.nx.kv) g6;erw[((cv j5.k).up (lv':=3*e+4) ()).h (d:=d) g7];rw[zAb,zAb,zAb,zAb,zAb,zAb,zAb];exact hk<|zAc h
  .rw[xAa,xDk<|show xs.length<=sizeLine by show _<=2^24;lia] at z;cases z
 by_cases hb:x5.nx.nx.dg 2=1
 .let⟨D,x10,t,b10⟩:=H (x:=(x5.nx.nx.tk 2).nx) (sc:=sc++[y]) (dp:=dp-3) (j7.nx ()) (by show(x5.nx.nx.tk 2).k+1+_<=_;lia) (by rw[xAb,xAt];lia) ();have m8:(x5.nx.nx.tk 2).nx.k=x5.k+3:=by show(x5.nx.nx.tk 2).k+1=_;lia
  have c'':=t.lo;have u10:x10.k<=100+6*(e:Int):=by have:=t.hi;lia
  have kD:Ks x.h (x3.k+1) x10.k<|(x5.nx.nx.tk 2).pl::(x5.pl::x5.nx.pl::Pg.plss as)++D.pls:=by
   have o:Ks x.h (x5.k+2) (x5.k+3) [(x5.nx.nx.tk 2).pl]:=by
    rw[show(x5.nx.nx.tk 2).pl=zBn x.h (x5.k+3) by show zBn (x5.nx.nx.tk 2).h ((x5.nx.nx.tk 2).k+1)=_;rw[h7,m7];congr 1;lia];exact Ks.one () ()
   have k:=t.ks;rw[m8,show(x5.nx.nx.tk 2).nx.h=x.h from h7] at k;exact Ks.app (Ks.ins (l:=[]) kC o () ()) k () ()
  have ct:Cn (42-3*((e+3:Nat):Int)) (B.cnt+1+(0+Pg.cnts as+D.cnt)+1) (e+3) x.k x10.k:=by
   have ct:=t.ct;rw[m8] at ct;refine⟨λh=>absurd h (),λh=>?_,λ_ h=>?_⟩
   .have:=cq.b ();have:=cr.b ();have:=ct.b h;lia
   .by_cases h3:x3.k<80
    .have:=cq.b h3;by_cases h5:x5.k<80
     .have:=cr.b h5;by_cases h6:x5.k+3<80
      .have:=ct.c h6 h;lia
      .have:=ct.z ();lia
     .have:=ct.z ();by_cases h4:x3.k+1<80
      .have:=cr.c h4 ();lia
      .have:=cr.z ();lia
    .have:=cr.z ();have:=ct.z ();by_cases h2:x.k+1<80
     .have:=cq.c h2 ();lia
     .have:=cq.z ();lia
  erw[<-⟨.lt x3.pl y (.fn x2.pl xs B)<|.dd (x5.nx.nx.tk 2).pl (.call x5.pl (.nam x5.nx.pl y) as) D,x10,⟨.lt (hN y hy) wF (.dd wC<|t.wf.up ()),t.iv,t.h.trans h7,k4.app kD () (),(),(),ct⟩,⟨λ{fw d p S xx K} h hk=>?_⟩⟩,<-run h λg=>?_,((cz j6.ok ∅).up (lv':=3*e+4) ()).h (d:=d) g];have g8:=zAc (o':=Ob.dct (x5.nx.nx.tk 2).kv) g;erw[pd cJ];rw[xBd hb];erw[bT,((cv j7.k).up (lv':=3*e+4) ()).h (d:=d) g8];have g9:=zAc (o':=Ob.dct (x5.nx.nx.tk 2).nx.kv) g8;erw[pv (scU [y]),pd (eF<|by rw[xAt];lia),pd dW,(b10.up (lv':=3*e+4) ()).h (d:=d) g9];rw[zAb,zAb,zAb];exact hk
 .have ct:Cn (42-3*((e+3:Nat):Int)) (B.cnt+1+(0+Pg.cnts as)+1) (e+3) x.k<|x5.k+2:=by
   refine⟨λh=>absurd h (),λh=>?_,λ_ h=>?_⟩
   .have:=cq.b ();have:=cr.b ();lia
   .by_cases h3:x3.k<80
    .have:=cq.b h3;by_cases h5:x5.k<80
     .have:=cr.b h5;lia
     .by_cases h4:x3.k+1<80
      .have:=cr.c h4 ();lia
      .have:=cr.z ();lia
    .have:=cr.z ();by_cases h2:x.k+1<80
     .have:=cq.c h2 ();lia
     .have:=cq.z ();lia
  erw[<-⟨.lt x3.pl y (.fn x2.pl xs B)<|.call x5.pl (.nam x5.nx.pl y) as,x5.nx.nx.tk 2,⟨.lt (hN y hy) wF (wC.up ()),j7,h7,by rw[m7];exact k4.app kC () (),(),(),by rw[m7];exact ct⟩,⟨λ{fw d p S xx K} h hk=>?_⟩⟩,<-run h λg=>?_,((cz j6.ok ∅).up (lv':=3*e+4) ()).h (d:=d) g,pd cJ];rw[xCn hb];erw[bF];rw[zAb];exact hk
end
section
variable{N:Str->Prop}{ws sc:C0}{x x':Sx}{e:Nat}{dp way:Int}
def nxs:Nat->Sx->Sx
 |0,x=>x
 |n+1,x=>nxs n x.nx
def pln:Nat->Sx->C5
 |0,_=>[]
 |n+1,x=>x.pl::pln n x.nx
theorem kP:∀{n:Nat}{x:Sx},Iv x->x.k+n<=9000->Iv (nxs n x)/\(nxs n x).k=x.k+n/\(nxs n x).h=x.h
 |0,x,hx,_=>⟨hx,by show x.k=_;lia,rfl⟩
 |n+1,x,hx,hk=>by
  have k1:x.nx.k=x.k+1:=rfl;let⟨a,b,c⟩:=kP (n:=n) (hx.nx ()) ();exact⟨a,by show(nxs n x.nx).k=_;lia,c⟩
theorem pF:∀{n:Nat}{x:Sx}{lo fw d p:Nat}{S:So}{K:D0}{ys:C3},Iv x->x.k+n<=9000->at? S p=some (.dct x.kv)->K (.lst<|ys++(pln n x).map .int) (set S p<|.dct (nxs n x).kv)->lcK (Gd fw<|d+2) (lcB [1] true [none,none,some<|.ref p] none (Jg 42 J7)<|Gd fw<|d+2) (zBt (lo:Int) n) ys S K
 |0,x,lo,fw,d,p,S,K,ys,hx,_,h,hk=>by
  rw[pln,List.map_nil,xB0,nxs,zBh h] at hk;exact hk
 |n+1,x,lo,fw,d,p,S,K,ys,hx,hn,h,hk=>by
  have k1:x.nx.k=x.k+1:=rfl;erw[((cv hx.k).up (lv':=2) ()).h (d:=d) h,pF (lo:=lo+1) (hx.nx ()) () (zAc h)];rw[zAb,xAx];exact hk
def zJz{h k:Int}:Ks h k (k+14)<|[k+13,k+14,k+7,k+8,k+9,k+4,k+5,k+6,k+1,k+2,k+3,k+10,k+11,k+12].map<|zBn h:=by
 refine⟨_,rfl,?_,λj hj=>?_⟩
 .have:[(13:Int),14,7,8,9,4,5,6,1,2,3,10,11,12].Nodup:=by decide
  exact List.Pairwise.map (λj=>k+j) (λa b h=>by omega) this
 .simp only[xAv,xBv,or_false] at hj;omega
end
section
variable{N:Str->Prop}{ws sc:C0}{x x':Sx}{e:Nat}{dp way:Int}
def zEa(z:Sx)(y:Str)(A B:Pg)(d s m:Int):Pg:=.lt (nxs 12 z).pl y (.num (nxs 13 z).pl 0)<|.dd d (.st s y<|.fn (nxs 6 z).pl ["n"]<|.iff (nxs 7 z).pl (.nam (nxs 8 z).pl "n") (.dd (nxs 3 z).pl A<|.call (nxs 4 z).pl (.nam (nxs 5 z).pl y) [.math (nxs 0 z).pl "sub" (.nam (nxs 1 z).pl "n")<|.num (nxs 2 z).pl 1]) B)<|.call (nxs 9 z).pl (.nam (nxs 10 z).pl y) [.num (nxs 11 z).pl m]
def Ai{z:Sx}{A B:Pg}{d s m:Int}(hn:N "n")(hy:N y)(he:2<=e)(hA:Wf N (sc++[y,"n"]) e A)(hB:Wf N (sc++[y,"n"]) e B)(hm:0<=m/\m<8):Wf N sc (e+6)<|zEa z y A B d s m:=by
 have es:sc++[y,"n"]=sc++[y]++[("n":Str)]:=by simp
 rw[es] at hA hB;have hq:Wf N (sc++[y]++[("n":Str)]) 2<|.call (nxs 4 z).pl (.nam (nxs 5 z).pl y) [.math (nxs 0 z).pl "sub" (.nam (nxs 1 z).pl "n")<|.num (nxs 2 z).pl 1]:=by
  refine .call (.nam ⋯) (λa ha=>?_) (by rw[xAt];decide);rw[xAm.mp ha];exact .math ∅ (.nam ⋯) (.num ∅ ∅)
 have hr:Wf N (sc++[y]) (e+4)<|.call (nxs 9 z).pl (.nam (nxs 10 z).pl y) [.num (nxs 11 z).pl m]:=by
  refine .call (.nam ⋯) (λa ha=>?_) (by rw[xAt];decide);rw[xAm.mp ha];exact .num () ()
 refine .lt hy (.num ∅ ∅)<|.dd (.st ⋯<|.fn ⟨λq hq=>?_,∅,⋯⟩<|.iff (.nam ⋯) (.dd hA<|hq.up he)<|hB.up ()) hr;rw[xAm.mp hq];exact hn
def An{z:Sx}{A B:Pg}{d s m k3:Int}{h k:Int}(hz:∀i:Nat,i<14->(nxs i z).pl=zBn h (k+i+1))(hA:Ks h (k+14) k1 A.pls)(hB:Ks h k1 k2 B.pls)(hC:Ks h k2 k3 [d,s])(l1:k+14<=k1)(l2:k1<=k2)(l3:k2<=k3):Ks h k k3 (zEa z y A B d s m).pls:=by
 have b:=zJz (h:=h) (k:=k);have e':[k+13,k+14,k+7,k+8,k+9,k+4,k+5,k+6,k+1,k+2,k+3,k+10,k+11,k+12].map (zBn h)=[(nxs 12 z).pl,(nxs 13 z).pl,(nxs 6 z).pl,(nxs 7 z).pl,(nxs 8 z).pl,(nxs 3 z).pl,(nxs 4 z).pl,(nxs 5 z).pl,(nxs 0 z).pl,(nxs 1 z).pl,(nxs 2 z).pl,(nxs 9 z).pl,(nxs 10 z).pl,(nxs 11 z).pl]:=by
  rw[hz 0 ∅,hz 1 ∅,hz 2 ∅,hz 3 ∅,hz 4 ∅,hz 5 ∅,hz 6 ∅,hz 7 ∅,hz 8 ∅,hz 9 ∅,hz 10 ∅,hz 11 ∅,hz 12 ∅,hz 13 ∅];simp only[xBs,List.map_nil,Int.add_assoc];rfl
 rw[e'] at b;have b1:=Ks.ins (l:=[(nxs 12 z).pl,(nxs 13 z).pl,(nxs 6 z).pl,(nxs 7 z).pl,(nxs 8 z).pl,(nxs 3 z).pl]) (r:=[(nxs 4 z).pl,(nxs 5 z).pl,(nxs 0 z).pl,(nxs 1 z).pl,(nxs 2 z).pl,(nxs 9 z).pl,(nxs 10 z).pl,(nxs 11 z).pl]) b hA () l1;have b2:=Ks.ins (l:=[(nxs 12 z).pl,(nxs 13 z).pl,(nxs 6 z).pl,(nxs 7 z).pl,(nxs 8 z).pl,(nxs 3 z).pl]++(A.pls++[(nxs 4 z).pl,(nxs 5 z).pl,(nxs 0 z).pl,(nxs 1 z).pl,(nxs 2 z).pl])) (r:=[(nxs 9 z).pl,(nxs 10 z).pl,(nxs 11 z).pl]) (by simpa using b1) hB () l2;have b3:=Ks.ins (l:=[(nxs 12 z).pl,(nxs 13 z).pl]) (r:=[(nxs 6 z).pl,(nxs 7 z).pl,(nxs 8 z).pl,(nxs 3 z).pl]++(A.pls++([(nxs 4 z).pl,(nxs 5 z).pl,(nxs 0 z).pl,(nxs 1 z).pl,(nxs 2 z).pl]++(B.pls++[(nxs 9 z).pl,(nxs 10 z).pl,(nxs 11 z).pl])))) (by simpa using b2) hC () l3;simpa [zEa,Pg.pls,Pg.plss] using b3
end
section
variable{N:Str->Prop}{ws sc:C0}{x x':Sx}{e:Nat}{dp way:Int}
structure Ixs(L:C3)(c:Nat->Int):Prop where
 h:∀{i:Nat}{S:So},i<14->pr ups .ix [.lst L,.int (i:Int)] S=.ok (.int (c i)) S
def Aj{z:Sx}{L:C3}{c:Nat->Int}{u12:U}(hL:Ixs L c)(hz:Iv z)(hk:z.k<9000){p:Nat}{K:D0}{a2 a9:B5 U}(h:at? S p=some (.dct z.kv))(k:K (.tup [.str "let",.int<|c 12,.str y,.tup [.str "number",.int<|c 13,.int 0],.tup [.str "do",.int (z.tk 8).pl,.tup [.str "set",.int (z.tk 8).nx.pl,.str y,u12],.tup [.str "call",.int<|c 9,.tup [.str "name",.int<|c 10,.str y],.tup [.tup [.str "number",.int<|c 11,.int<|z.dg 8]]]]])<|set S p<|.dct (z.tk 8).nx.nx.kv):zE9 (Gd fw<|d+2) [some<|.ref p,a1,a2,a3,some<|.str y,a5,some<|.lst L,a7,a8,a9,a10,a11,some u12,a13] S<|zAo xx K:=by
 have l5:=z.tk_le (m:=8) hz.ok ∅;have i5:=hz.le l5;have k5:(z.tk 8).k=z.k:=l5.k;have i6:=i5.nx ();erw[pd (hL.h (i:=9) ∅),pd (hL.h (i:=10) ∅),pd (hL.h (i:=11) ∅),((cz hz.ok ∅).up (lv':=2) ()).h (d:=d) h];have g5:=zAc (o':=Ob.dct (z.tk 8).kv) h;erw[((cv i5.k).up (lv':=2) ()).h (d:=d) g5];have g6:=zAc (o':=Ob.dct (z.tk 8).nx.kv) g5;erw[((cv i6.k).up (lv':=2) ()).h (d:=d) g6,pd (hL.h (i:=12) ∅),pd (hL.h (i:=13) ∅)];rw[zAb,zAb];exact k
end
def Ak{z:Sx}{L:C3}{c:Nat->Int}{n:Str}{u11:U}(hL:Ixs L c)(hz:Iv z)(hk:z.k<9000){p:Nat}{K:D0}{a2:B5 U}(h:at? S p=some (.dct z.kv))(k:K (.tup [.str "let",.int<|c 12,.str y,.tup [.str "number",.int<|c 13,.int 0],.tup [.str "do",.int (z.tk 8).pl,.tup [.str "set",.int (z.tk 8).nx.pl,.str y,.tup [.str "fn",.int<|c 6,.tup [.str n],.tup [.str "if",.int<|c 7,.tup [.str "name",.int<|c 8,.str n],u11,u9]]],.tup [.str "call",.int<|c 9,.tup [.str "name",.int<|c 10,.str y],.tup [.tup [.str "number",.int<|c 11,.int<|z.dg 8]]]]])<|set S p<|.dct (z.tk 8).nx.nx.kv):zFa (Gd fw<|d+2) [some<|.ref p,a1,a2,a3,some<|.str y,some<|.str n,some<|.lst L,a7,a8,some u9,a10,some u11,a12,a13] S<|zAo xx K:=by
 erw[pd (hL.h (i:=6) ∅),pd (hL.h (i:=7) ∅),pd (hL.h (i:=8) ∅),<-Aj hL hz hk h k]
def lpU(c:Nat->Int)(y n:Str)(a b l:U)(d s m:Int):U:=.tup [.str "let",.int<|c 12,.str y,.tup [.str "number",.int<|c 13,.int 0],.tup [.str "do",.int d,.tup [.str "set",.int s,.str y,.tup [.str "fn",.int<|c 6,.tup [.str n],.tup [.str "if",.int<|c 7,.tup [.str "name",.int<|c 8,.str n],.tup [.str "do",.int<|c 3,a,.tup [.str "call",.int<|c 4,.tup [.str "name",.int<|c 5,.str y],.tup [l]]],b]]],.tup [.str "call",.int<|c 9,.tup [.str "name",.int<|c 10,.str y],.tup [.tup [.str "number",.int<|c 11,.int m]]]]]
section
variable{L:C3}{c:Nat->Int}{y n:Str}{u8 u9 u10:U}{fw d p:Nat}{S:So}{E:Ee Prop}{a1 a2 a3 a7 a10 a11 a12 a13:B5 U}{t:C8}
def xC(hL:Ixs L c)(k:t (Gd fw<|d+2) [some<|.ref p,a1,a2,a3,some<|.str y,some<|.str n,some<|.lst L,a7,some u8,some u9,some u10,some<|.tup [.str "do",.int<|c 3,u8,.tup [.str "call",.int<|c 4,.tup [.str "name",.int<|c 5,.str y],.tup [u10]]],a12,a13] S E):(sQ rz3 t) (Gd fw<|d+2) [some<|.ref p,a1,a2,a3,some<|.str y,some<|.str n,some<|.lst L,a7,some u8,some u9,some u10,a11,a12,a13] S E:=by
 erw[pd (hL.h (i:=3) ∅),pd (hL.h (i:=4) ∅),pd (hL.h (i:=5) ∅),<-k]
def xD(hL:Ixs L c)(k:t (Gd fw<|d+2) [some<|.ref p,a1,a2,a3,some<|.str y,some<|.str n,some<|.lst L,a7,some u8,some u9,some<|.tup [.str "math",.int<|c 0,.str "sub",.tup [.str "name",.int<|c 1,.str n],.tup [.str "number",.int<|c 2,.int 1]],a11,a12,a13] S E):(sQ rz4 t) (Gd fw<|d+2) [some<|.ref p,a1,a2,a3,some<|.str y,some<|.str n,some<|.lst L,a7,some u8,some u9,a10,a11,a12,a13] S E:=by
 erw[pd (hL.h (i:=0) ∅),pd (hL.h (i:=1) ∅),pd (hL.h (i:=2) ∅),<-k]
end
def Am{z:Sx}{L:C3}{c:Nat->Int}{n:Str}{u8:U}(hL:Ixs L c)(hz:Iv z)(hk:z.k<9000){p:Nat}{K:D0}{a2:B5 U}(h:at? S p=some (.dct z.kv))(k:K (lpU c y n u8 u9 (.tup [.str "math",.int<|c 0,.str "sub",.tup [.str "name",.int<|c 1,.str n],.tup [.str "number",.int<|c 2,.int 1]]) (z.tk 8).pl (z.tk 8).nx.pl<|z.dg 8)<|set S p<|.dct (z.tk 8).nx.nx.kv):zJr (Gd fw<|d+2) [some<|.ref p,a1,a2,a3,some<|.str y,some<|.str n,some<|.lst L,a7,some u8,some u9,a10,a11,a12,a13] S<|zAo xx K:=xD hL<|xC hL<|Ak hL hz hk h k
section
variable{N:Str->Prop}{ws sc:C0}{x x':Sx}{e:Nat}{dp way:Int}
theorem mn:∀{n i:Nat}{x:Sx},i<n->(pln n x)[i]?=some (nxs i x).pl
 |n+1,0,x,_=>rfl
 |n+1,i+1,x,h=>mn (n:=n) (i:=i) (x:=x.nx) ()
def wA:Ixs ((pln 14 x).map .int) λi=>(nxs i x).pl:=⟨λ{i S} h=>by
 show opt (atI ((pln 14 x).map U.int) (i:Int)) S=_;rw[dD (v:=.int (nxs i x).pl)<|by rw[xAw,mn h];rfl];rfl⟩
def Bz{z:Sx}{A B:Pg}{d s m:Int}:lpU (λi=>(nxs i z).pl) y "n" A.u B.u (.tup [.str "math",.int (nxs 0 z).pl,.str "sub",.tup [.str "name",.int (nxs 1 z).pl,.str "n"],.tup [.str "number",.int (nxs 2 z).pl,.int 1]]) d s m=(zEa z y A B d s m).u:=rfl
def l9{a b:Int}:pr ups .sub [.int a,.int b] S=.ok (.int<|a-b) S:=rfl
def uy(H:PH N ws e)(hN:∀y∈ws,N y)(hn1:N "n")(h5:ws.length=5)(he:2<=e/\e<=8)(hl:sc.length+10*(e+6)<=500)(hd:dp<=e+6)(hx:Iv x)(h60:x.k<60):∃P x',Pn N sc (e+6) x P x'/\Bl x 46 [scU ws,scU sc,.int dp] (3*e+5) P.u x':=by
 have k0:=hx.k;have l1:=x.tk_le (m:=5) hx.ok ∅;let⟨y,hy,ey⟩:=fg (sc:=ws) (i:=x.dg 5) (by have:=x.dg_lt (m:=5) ∅;lia);have i1:=hx.le l1;have k1:(x.tk 5).k=x.k:=l1.k;have h1:(x.tk 5).h=x.h:=l1.h;have tb:=(cz hx.ok (m:=5) ∅)
 generalize x.tk 5=z at l1 i1 k1 h1 tb;let⟨i2,k2,h2⟩:=kP (n:=14) i1 ();have rp:=λ{fw d p:Nat} {S:So} {K:D0}=>pF (n:=14) (x:=z) (lo:=0) (fw:=fw) (d:=d) (p:=p) (S:=S) (K:=K) (ys:=[]) i1 ();have hz:∀i:Nat,i<14->(nxs i z).pl=zBn x.h (x.k+i+1):=λi hi=>by
  let⟨_,a,b⟩:=kP (n:=i) i1 ();show zBn (nxs i z).h ((nxs i z).k+1)=_;rw[a,b,h1,k1]
 generalize hw:nxs 14 z=w at i2 k2 h2 rp;have ls:(sc++[y,("n":Str)]).length=sc.length+2:=by rw[xAb];rfl
 let⟨A,x3,q,b3⟩:=H (x:=w) (sc:=sc++[y,"n"]) (dp:=dp-6) i2 () () ();have a:=q.at80;have b:=q.hi;have c:=q.lo;let⟨B,x4,r,b4⟩:=H (x:=x3) (sc:=sc++[y,"n"]) (dp:=dp-6) q.iv () () ();have a':=r.at80;have b':=r.hi;have c':=r.lo;have h3:x3.h=x.h:=q.h.trans<|h2.trans h1;have h4:x4.h=x.h:=r.h.trans h3;have l5:=x4.tk_le (m:=8) r.iv.ok ∅;have i5:=r.iv.le l5;have k5:(x4.tk 8).k=x4.k:=l5.k;have h5':(x4.tk 8).h=x.h:=l5.h.trans h4;have i7:=(i5.nx ()).nx (by show(x4.tk 8).k+1<_;lia);have kx:(x4.tk 8).nx.nx.k=x4.k+2:=by show(x4.tk 8).k+1+1=_;lia
 have kA:=q.ks;rw[h2.trans h1,k2,k1] at kA;have kB:=r.ks;rw[h3] at kB;have kC:Ks x.h x4.k (x4.k+2) [(x4.tk 8).pl,(x4.tk 8).nx.pl]:=by
  rw[show(x4.tk 8).pl=zBn x.h (x4.k+1) by show zBn (x4.tk 8).h ((x4.tk 8).k+1)=_;rw[h5',k5],show(x4.tk 8).nx.pl=zBn x.h (x4.k+2) by show zBn (x4.tk 8).h ((x4.tk 8).k+1+1)=_;rw[h5',k5];congr 1;lia];exact Ks.cons () (xBu _) (Ks.one () ()) ()
 have kk:=An (z:=z) (y:=y) (A:=A) (B:=B) (m:=x4.dg 8) hz kA kB kC () () ();have wf:=Ai (N:=N) (sc:=sc) (z:=z) (A:=A) (B:=B) (d:=(x4.tk 8).pl) (s:=(x4.tk 8).nx.pl) hn1 (hN y hy) he.1 q.wf r.wf (x4.dg_lt (m:=8) ∅);have ec:(zEa z y A B (x4.tk 8).pl (x4.tk 8).nx.pl<|x4.dg 8).cnt=A.cnt+B.cnt+3:=by simp[zEa,Pg.cnt,Pg.cnts]
 have ct:Cn (42-3*((e+6:Nat):Int)) (A.cnt+B.cnt+3) (e+6) x.k<|x4.k+2:=by
  have cq:=q.ct;rw[k2,k1] at cq;have cr:=r.ct;have q1:=cq.z;have q2:=cq.b;have q3:=cq.c;have r1:=cr.z;have r2:=cr.b;have r3:=cr.c;exact⟨λh=>absurd h (),(),()⟩
 erw[<-⟨zEa z y A B (x4.tk 8).pl (x4.tk 8).nx.pl<|x4.dg 8,(x4.tk 8).nx.nx,⟨wf,i7,h5',by rw[kx];exact kk,(),(),by rw[kx,ec];exact ct⟩,⟨λ{fw d p S xx K} h hk=>?_⟩⟩,cd (d:=d+(3*e+4)) ⟨4,14,t46⟩,pd (fD h5),(tb.up (lv':=3*e+4) ()).h (d:=d) h];have g1:=zAc (o':=Ob.dct z.kv) h;erw[pd ey,pd (jH ∅)];refine bI (λ_=>?_) λz=>by cases z
 erw[rp (d:=d+(3*e+2)) g1];have g2:=zAc (o':=Ob.dct w.kv) g1;erw[pv (scU [y,"n"]),pd (eF<|by show _+2<=_;lia),pd l9,(b3.up (lv':=3*e+4) ()).h (d:=d) g2];have g3:=zAc (o':=Ob.dct x3.kv) g2;erw[pd l9,(b4.up (lv':=3*e+4) ()).h (d:=d) g3];have g4:=zAc (o':=Ob.dct x4.kv) g3;erw[Am (d:=d+(3*e+2)) wA r.iv () g4];rw[Bz,zAb,zAb,zAb,zAb];exact hk
end
section
variable{N:Str->Prop}{ws sc:C0}{x x':Sx}{e dm:Nat}{dp way:Int}
def wu(h:3<=way/\way<10):∃w,0<=w/\pr ups .ix [.lst [.int 1,.int 1,.int 0,.int 1,.int 2,.int 3,.int 1],.int<|way-3] S=.ok (.int w) S:=by
 rcases(show way=3\/way=4\/way=5\/way=6\/way=7\/way=8\/way=9 by lia) with h|h|h|h|h|h|h <;> rw[h]
 .exact⟨1,∅,rfl⟩
 .exact⟨1,∅,rfl⟩
 .exact⟨0,∅,rfl⟩
 .exact⟨1,∅,rfl⟩
 .exact⟨2,∅,rfl⟩
 .exact⟨3,∅,rfl⟩
 .exact⟨1,∅,rfl⟩
def RsP(N:Str->Prop)(ws sc:C0)(dm:Nat)(dp way:Int)(x:Sx)(t:C8):Prop:=∃P x',Pn N sc dm x P x'/\∀{fw d p:Nat}{S:So}{xx:D3}{K:D0},at? S p=some (.dct x.kv)->K P.u (set S p<|.dct x'.kv)->t (Gd fw<|d+(3*dm+2)) [some<|.ref p,some<|scU ws,some<|scU sc,some<|.int dp,some<|.int way] S (zAo xx K)
def Bi(hw:10<=way)(hN:∀y∈ws,N y)(h5:ws.length=5)(hnd:ws.Nodup)(h14:dm<=14)(IH:∀e<dm,PH N ws e)(hx:Iv x)(h80:x.k<80)(hl:sc.length+10*dm<=500)(hd:dp<=dm)(hp:0<dp):RsP N ws sc dm dp way x zD6:=by
 by_cases hh:way<14/\3<dp
 .obtain⟨e,rfl⟩:∃e,dm=e+3:=⟨dm-3,()⟩
  let⟨P,x',q,b⟩:=oC (sc:=sc) (dp:=dp) (IH e ()) hN h5 hnd () hl hd hx h80;erw[<-⟨P,x',q,λ{fw d p S xx K} h hk=>?_⟩,pv (.bl<|decide<|way<14)];rw[xBd hh.1];erw[bT,pv (.bl<|decide<|3<dp)];rw[xBd hh.2];erw[bT];exact(b.up (lv':=3*(e+3)+2) ()).h (d:=d) h hk
 .obtain⟨e,rfl⟩:∃e,dm=e+1:=⟨dm-1,()⟩
  let⟨P,x',q,b⟩:=pX (sc:=sc) (dp:=dp-1) (way:=(way-10)%12) (IH e ()) () () () hx h80 ⟨xBa _ ∅,xBb _ ∅⟩;refine⟨P,x',q,λ{fw d p S xx K} h hk=>?_⟩;have fin:(J5<|Jm 49<|Jx J0 J2 J7 (J3 .sub Ja Jb)<|J3 .mod (J3 .sub J8<|Jj 10)<|Jj 12) (Gd fw<|d+(3*(e+1)+2)) [some<|.ref p,some<|scU ws,some<|scU sc,some<|.int dp,some<|.int way] S<|zAo xx K:=by
   erw[pd dW,pd dW,pd (cW ∅)];exact(b.up (lv':=3*(e+1)+2) ()).h (d:=d) h hk
  erw[pv (.bl<|decide<|way<14)];by_cases h1:way<14
  .rw[xBd h1];erw[bT,pv (.bl<|decide<|3<dp)];rw[xCn ()];exact bF fin
  .rw[xCn h1];exact bF<|bF fin
def Bj(hw:3<=way)(hN:∀y∈ws,N y)(hn1:N "n")(h5:ws.length=5)(hnd:ws.Nodup)(h14:dm<=14)(IH:∀e<dm,PH N ws e)(hx:Iv x)(h80:x.k<80)(hl:sc.length+10*dm<=500)(hd:dp<=dm)(hp:0<dp):RsP N ws sc dm dp way x zH7:=by
 by_cases h10:way<10
 .obtain⟨e,rfl⟩:∃e,dm=e+1:=⟨dm-1,()⟩
  let⟨w,hw0,ew⟩:=wu (S:=[]) ⟨hw,h10⟩;let⟨P,x',q,b⟩:=u0 (sc:=sc) (dp:=dp-1) (way:=w) (IH e ()) hN h5 hnd () hl () hx h80 hw0;erw[<-⟨P,x',q,λ{fw d p S xx K} h hk=>?_⟩,pv (.bl<|decide<|way<10)];rw[xBd h10];erw[bT,pd dW,pv (.lst [.int 1,.int 1,.int 0,.int 1,.int 2,.int 3,.int 1]),pd dW,<-pd (v:=.int w) (S':=S) ?_ ?_]
  .have e1:∀S:So,pr ups .ix [.lst [.int 1,.int 1,.int 0,.int 1,.int 2,.int 3,.int 1],.int<|way-3] S=opt (atI [.int 1,.int 1,.int 0,.int 1,.int 2,.int 3,.int 1]<|way-3) S:=λ_=>rfl;rw[e1] at ew⊢;cases ho:atI ([.int 1,.int 1,.int 0,.int 1,.int 2,.int 3,.int 1]:C3) (way-3) with
   |none=>rw[ho] at ew;cases ew
   |some v=>rw[ho] at ew;cases ew;rfl
  .exact(b.up (lv':=3*(e+1)+2) ()).h (d:=d) h hk
 .by_cases hh:way<12/\7<dp/\x.k<60
  .obtain⟨e,rfl⟩:∃e,dm=e+6:=⟨dm-6,()⟩
   let⟨P,x',q,b⟩:=uy (sc:=sc) (dp:=dp) (IH e ()) hN hn1 h5 () hl hd hx hh.2.2;refine⟨P,x',q,λ{fw d p S xx K} h hk=>?_⟩;have ha:=hx.a;erw[pv (.bl<|decide<|way<10)];rw[xCn h10];erw[bF,pv (.bl<|decide<|way<12)];rw[xBd hh.1];erw[bT,pv (.bl<|decide<|7<dp)];rw[xBd hh.2.1];erw[bT,pd (qS h),pv (.bl<|decide<|20<x.a)];rw[xBd ()];erw[bT];exact(b.up (lv':=3*(e+6)+2) ()).h (d:=d) h hk
  .let⟨P,x',q,b⟩:=Bi () hN h5 hnd h14 IH hx h80 hl hd hp (way:=way);refine⟨P,x',q,λ{fw d p S xx K} h hk=>?_⟩;have ha:=hx.a;have fin:zD6 (Gd fw<|d+(3*dm+2)) [some<|.ref p,some<|scU ws,some<|scU sc,some<|.int dp,some<|.int way] S<|zAo xx K:=b h hk;erw[pv (.bl<|decide<|way<10)];rw[xCn h10];erw[bF,pv (.bl<|decide<|way<12)];by_cases h1:way<12
   .rw[xBd h1];erw[bT,pv (.bl<|decide<|7<dp)];by_cases h2:7<dp
    .rw[xBd h2];erw[bT,pd (qS h),pv (.bl<|decide<|20<x.a)];rw[xCn ()];exact bF fin
    .rw[xCn h2];exact bF<|bF fin
   .rw[xCn h1];exact bF<|bF fin
def tP(hN:∀y∈ws,N y)(hn1:N "n")(h5:ws.length=5)(hnd:ws.Nodup)(h14:dm<=14)(IH:∀e<dm,PH N ws e):PH N ws dm:=λ{x sc dp} hx hk hl hd=>by
 have l1:=x.tk_le (m:=26) hx.ok ∅;have i1:=hx.le l1;have d1:=x.dg_lt (m:=26) ∅;have k1:(x.tk 26).k=x.k:=l1.k;have h1:(x.tk 26).h=x.h:=l1.h;have a1:=i1.a;have tb:=cz hx.ok (m:=26) ∅;generalize x.tk 26=z at l1 i1 k1 h1 a1 tb;generalize x.dg 26=way at d1 tb;by_cases hA:way<3\/dp<=0\/z.a<=0
 .let⟨P,x',q,b⟩:=vb (N:=N) (sc:=sc) (dm:=dm) i1 () ();erw[<-⟨P,x',⟨q.wf,q.iv,q.h.trans h1,by have:=q.ks;rw[h1,k1] at this;exact this,by have:=q.lo;lia,λz=>by have:=q.at80 ();lia,by have:=q.hi;lia,by have:=q.ct;rw[k1] at this;exact this⟩,⟨λ{fw d p S xx K} h hk=>?_⟩⟩,cd (d:=d+(3*dm+2)) ⟨4,5,t51⟩,(tb.up (lv':=3*dm+2) ()).h (d:=d) h];have g1:=zAc (o':=Ob.dct z.kv) h;have fin:(Gd fw<|d+(3*dm+2)).call 43 [.ref p,scU sc] (set S p<|.dct z.kv) xx K:=(b.up (lv':=3*dm+2) ()).h (d:=d) g1 (by rw[zAb];exact hk);erw[pv (.bl<|decide<|way<3)];by_cases c1:way<3
  .rw[xBd c1];exact bT<|bT fin
  .rw[xCn c1];erw[bF,pv (.bl<|decide<|dp<=0)];by_cases c2:dp<=0
   .rw[xBd c2];exact bT<|bT fin
   .rw[xCn c2];erw[bF,pd (qS g1),pv (.bl<|decide<|z.a<=0)];rw[xBd ()];exact bT fin
 .let⟨P,x',q,b⟩:=Bj () hN hn1 h5 hnd h14 IH i1 () hl hd () (way:=way);erw[<-⟨P,x',⟨q.wf,q.iv,q.h.trans h1,by have:=q.ks;rw[h1,k1] at this;exact this,by have:=q.lo;lia,λz=>(),.inr q.hi,by have:=q.ct;rw[k1] at this;exact this⟩,⟨λ{fw d p S xx K} h hk=>?_⟩⟩,cd (d:=d+(3*dm+2)) ⟨4,5,t51⟩,(tb.up (lv':=3*dm+2) ()).h (d:=d) h];have g1:=zAc (o':=Ob.dct z.kv) h;erw[pv (.bl<|decide<|way<3)];rw[xCn ()];erw[bF,pv (.bl<|decide<|dp<=0)];rw[xCn ()];erw[bF,pd (qS g1),pv (.bl<|decide<|z.a<=0)];rw[xCn ()];erw[bF];exact b g1 (by rw[zAb];exact hk)
theorem qb(hN:∀y∈ws,N y)(hn1:N "n")(h5:ws.length=5)(hnd:ws.Nodup):∀{n dm:Nat},dm<n->dm<=14->PH N ws dm
 |n+1,dm,h,h14=>tP hN hn1 h5 hnd h14 λe he=>qb hN hn1 h5 hnd (n:=n) () ()
end
def ltrs:Str:="abcdefghijklmnopqrstuvwxyz"
def chs(w:Str):C3:=w.cps.toList.map λc=>.str ⟨#[c]⟩
def inL(c:U):B':=match inU [] c (.str ltrs) with
 |some b=>b
 |none=>false
def zA8(w:Str):B':=Nat.ble 1 w.length&&Nat.ble w.length 8&&(chs w).all inL
def zFw:C0:=["fn","call","let","set","do","if","add","sub","mul","less","same","make","match","raise","try","tell","ask"]
def zAr(w:Str):B':=zA8 w&&!zA7 (.str w) (zFw.map .str)
def zB3(is:C4):Str:=⟨(is.map (97+·)).toArray⟩
def ltU(i:Nat):U:=.str ⟨#[97+i]⟩
def gs:C4:=[6,9,15,16,21,22,23,25]
def od(w:Str):B':=Nat.ble w.length 1||w.cps.toList.any λc=>gs.any λi=>Nat.beq c<|97+i
theorem nO{w:Str}(h:od w=true):∀{l:C0},(l.all λy=>!od y)=true->zA7 (.str w) (l.map .str)=false
 |[],_=>rfl
 |y::l,g=>by
  rw[xCj,xCh] at g;show((y==w)||zA7 (.str w) (l.map .str))=false;rw[nO h g.2,Bool.or_false];refine beq_eq_false_iff_ne.mpr λe=>?_;have:=g.1;rw[e,h] at this;cases this
def zJ4:∀i<26,inL (ltU i)=true:=by decide +kernel
def oZ:(zB3 is).length=is.length:=by
 show(is.map (97+·)).toArray.size=_;simp
def sD(h1:1<=is.length)(h8:is.length<=8)(h:∀i∈is,i<26):zA8 (zB3 is)=true:=by
 unfold zA8;rw[oZ,xDk h1,xDk h8];show(chs<|zB3 is).all inL=true;refine xCx.mpr λc hc=>?_;unfold chs zB3 at hc;let⟨j,hj,rfl⟩:=xA2.mp hc;let⟨i,hi,rfl⟩:=xA2.mp (show j∈is.map (97+·) by simpa using hj);exact zJ4 i<|h i hi
def sG(h1:1<=is.length)(h8:is.length<=8)(h:∀i∈is,i<26)(ho:is.length=1\/∃i∈is,i∈gs):zAr (zB3 is)=true:=by
 unfold zAr;rw[sD h1 h8 h,nO (w:=zB3 is) ?_<|by decide +kernel]
 .rfl
 .unfold od;rw[oZ];rcases ho with e|⟨i,hi,hg⟩
  .rw[e];rfl
  .rw[show((zB3 is).cps.toList.any λc=>gs.any λi=>Nat.beq c<|97+i)=true from ?_,Bool.or_true];refine xCy.mpr ⟨97+i,?_,xCy.mpr ⟨i,hg,Nat.beq_refl _⟩⟩;show 97+i∈(is.map (97+·)).toArray.toList;simpa using hi
def yW{a b:C4}(h:a[j]?≠b[j]?):zB3 a≠zB3 b:=λe=>h (by
 have:a.map (97+·)=b.map (97+·):=by
  have:=congrArg (λw:Str=>w.cps.toList) e;simpa [zB3] using this
 have:=congrArg (·[j]?) this;simp only[xAw] at this;cases ha:a[j]? <;> cases hb:b[j]? <;> rw[ha,hb] at this <;> simp at this⊢
 lia)
def xy:zAr "n"=true:=by decide +kernel
def io{i:Int}(h:0<=i/\i<26):pr ups .ix [.str ltrs,.int i] S=.ok (ltU i.toNat) S:=by
 let⟨j,rfl⟩:=Int.eq_ofNat_of_zero_le h.1;have hj:j<26:=by lia
 have key:∀j<26,ltrs.cps.toList[j]?=some (97+j):=by decide +kernel
 show(match atI ltrs.cps.toList (j:Int) with|some c=>fits ltrs.length (.ok (.str ⟨#[c]⟩) S)|none=>.stuck)=_;rw[dD<|key j hj];dsimp only;rw[zA3<|by show _<=2^24;decide +kernel];rfl
def gstr:Str:="gjpqvwxz"
def wz{i:Int}(h:0<=i/\i<8):∃g∈gs,∀{S:So},pr ups .ix [.str gstr,.int i] S=.ok (ltU g) S:=by
 let⟨j,rfl⟩:=Int.eq_ofNat_of_zero_le h.1;have hj:j<8:=by lia
 have key:∀j<8,gstr.cps.toList[j]?=some (97+gs.getD j 0)/\gs.getD j 0∈gs:=by decide +kernel
 refine⟨_,(key j hj).2,λ{S}=>?_⟩;show(match atI gstr.cps.toList (j:Int) with|some c=>fits gstr.length (.ok (.str ⟨#[c]⟩) S)|none=>.stuck)=_;rw[dD (key j hj).1];dsimp only;rw[zA3<|by show _<=2^24;decide +kernel];rfl
theorem nr:∀{bs:C4}{acc:Array Nat},(bs.map λi=>(⟨#[97+i]⟩:Str)).foldl (λacc p=>acc++("":Str).cps++p.cps) acc=acc++(bs.map (97+·)).toArray
 |[],acc=>⋯
 |b::bs,acc=>by
  rw[xBs,List.foldl_cons,nr];have:("":Str).cps=#[]:=by decide +kernel
  rw[this];simp
theorem uE:∀{bs:C4},Builtin.Str.glued "" (bs.map λi=>(⟨#[97+i]⟩:Str))=zB3 bs
 |[]=>by decide +kernel
 |b::bs=>by
  show(⟨(bs.map λi=>(⟨#[97+i]⟩:Str)).foldl (λacc p=>acc++("":Str).cps++p.cps) #[97+b]⟩:Str)=_;rw[nr];simp[zB3]
theorem zBf:∀{bs:C4},zCu (bs.map ltU)=some (bs.map λi=>(⟨#[97+i]⟩:Str))
 |[]=>rfl
 |b::bs=>by
  show(zCu<|bs.map ltU).map _=_;rw[zBf];rfl
theorem o9:∀{bs:C4},((bs.map λi=>(⟨#[97+i]⟩:Str)).map λy:Str=>y.length).sum=bs.length
 |[]=>rfl
 |b::bs=>by
  show 1+((bs.map λi=>(⟨#[97+i]⟩:Str)).map λy:Str=>y.length).sum=_;rw[o9,xAo];lia
def tG{q:Nat}{bs:C4}(h:at? S q=some (.lst<|bs.map ltU))(h8:bs.length<=8):pr ups .join [.str "",.ref q] S=.ok (.str<|zB3 bs) S:=by
 show(match zE7 (.str ""),lsT S (.ref q) with|some s,some xs=>(match zCu xs with|some ws=>(match decide ((ws.map λy:Str=>y.length).sum+ws.length*s.length<=16777216) with|true=>Res.ok (.str<|Builtin.Str.glued s ws) S|false=>.stuck)|none=>.stuck)|_,_=>.stuck)=_;rw[show lsT S (.ref q)=some (bs.map ltU) by show(match at? S q with|some (.lst xs)=>some xs|_=>none)=_;rw[h]];dsimp only[zE7];rw[zBf];dsimp only;rw[o9,show("":Str).length=0 by decide +kernel,xBd (),uE]
structure Kp(S S':So):Prop where
 len:S.length<=S'.length
 ky:∀{q:Nat}{o:Ob},at? S q=some o->at? S' q=some o
section
variable{J β:Type}{l:B4 J}{p q:Nat}{o v:J}
theorem zC4:∀{l:B4 J}{p:Nat},v∈Fx.set l p o->v=o\/v∈l
 |[],_,h=>nomatch h
 |_::l,0,h=>(xAv.mp h).imp id<|xAs _
 |y::l,p+1,h=>(xAv.mp h).elim (λe=>.inr<|by rw[e];exact xAr ..) λz=>(zC4 z).imp id<|xAs _
theorem zCj:∀{l:B4 J}{p:Nat},p<l.length->(Fx.set l p o)[p]?=some o
 |_::_,0,_=>rfl
 |_::l,p+1,h=>zCj (l:=l) (by simpa using h)
theorem zC6:∀{l:B4 J}{p q:Nat},p≠q->(Fx.set l p o)[q]?=l[q]?
 |[],_,_,_=>rfl
 |_::_,0,0,h=>absurd rfl h
 |_::_,0,_+1,_=>rfl
 |_::_,_+1,0,_=>rfl
 |_::l,p+1,q+1,h=>zC6 (l:=l) ()
theorem zC5{f:J->β}:∀{l:B4 J}{p:Nat},Fx.set (l.map f) p (f o)=(Fx.set l p o).map f
 |[],_=>rfl
 |_::_,0=>rfl
 |_::l,p+1=>congrArg (_::·)<|zC5 (l:=l)
def mf{q i:Nat}{xs:C3}{v:U}(h:at? S q=some (.lst xs))(hi:i<xs.length):pr ups .seti [.ref q,.int i,v] S=.ok .non (Fx.set S q<|.lst<|Fx.set xs i v):=by
 show zBg q (.int i) v S=_;unfold zBg;rw[h];dsimp only;rw[xBd (),xC3]
end
section
variable{cell:Int}{fw d p q r a:Nat}{S:So}
def lw(cell:Int)(k:Nat):Nat:=((cell / 64 / ((k:Int)+1)+5*k)%26).toNat
def wk(cell:Int)(k:Nat):Nat:=((cell / 512+3*(k:Int))%26).toNat
theorem mX{K:D0}:∀{n lo:Nat}{ys:C3},lo+n<=100->K (.lst<|ys++(List.range' lo n).map λk=>ltU<|lw cell k) S->lcK (Gd fw d) (lcB [1] true [none,none,some<|.str ltrs,some<|.int cell] none (J1 J7<|J3 .mod (J3 (.add false) (J3 .fdiv (J3 .fdiv Ja<|Jj 64)<|J3 (.add false) J2 Jb)<|J3 .mul Y0 J2)<|Jj 26)  (Gd fw d)) (zBt (lo:Int) n) ys S K
 |0,lo,ys,_,hk=>by
  rw[List.range'_zero,List.map_nil,xB0] at hk;exact hk
 |n+1,lo,ys,hb,hk=>by
  erw[pd (fh ∅),pv (.int<|(lo:Int)+1),pd (fh ()),pd (gE (a:=5) (b:=lo) (by unfold sml;decide)<|by unfold sml;lia),pv (.int<|cell / 64 / ((lo:Int)+1)+5*lo),pd (cW ∅),pd (io ⟨xBa _ ∅,xBb _ ∅⟩),mX (n:=n) (lo:=lo+1) (ys:=ys++[ltU<|lw cell lo]) ()];rw[xAx];exact hk
theorem jv{b1:C4}{E:Ee Prop}{kk:Sg->So->Prop}{a2:B5 U}(ha:a<b1.length)(h8:b1.length<=8)(hqr:q≠r):∀{n lo:Nat}{bs:C4}{ws:C0}{S:So}{a4:B5 U},lo+n<=100->ws.length+n<=100->at? S q=some (.lst<|bs.map ltU)->bs.length=b1.length->(∀v,Fx.set bs a v=Fx.set b1 a v)->at? S r=some (.lst<|ws.map .str) ->
  (∀S' a4,S'.length=S.length->(∀{p o},p≠q->p≠r->at? S p=some o->at? S' p=some o)->at? S' r=some (.lst<|(ws++(List.range' lo n).map λk=>zB3<|Fx.set b1 a<|wk cell k).map .str)->kk [some<|.int cell,some<|.str ltrs,a2,some<|.int a,a4,some<|.ref q,some<|.ref r] S') ->
  zAw (zBt (lo:Int) n) (λw σ1 S2 nx=>tgt [4] true (Gd fw d) w σ1 λσ2=>zI3 (Gd fw d) σ2 S2<|lpE E nx) [some<|.int cell,some<|.str ltrs,a2,some<|.int a,a4,some<|.ref q,some<|.ref r] S kk
 |0,lo,bs,ws,S,a4,_,_,hq,hl,hs,hr,hk=>by
  erw[hk S a4 rfl (λ_ _ z=>z)];rw[List.range'_zero,List.map_nil,xB0];exact hr
 |n+1,lo,bs,ws,S,a4,hb,hw,hq,hl,hs,hr,hk=>by
  rw[zBt,zAw];erw[pd (fh ∅),pd (gE (a:=3) (b:=lo) (by unfold sml;decide)<|by unfold sml;lia),pv (.int<|cell / 512+3*(lo:Int)),pd (cW ∅),pd (io ⟨xBa _ ∅,xBb _ ∅⟩),pd (mf hq<|by rw[xAa];lia)];rw[show Fx.set (bs.map ltU) a (ltU ((cell / 512+3*(lo:Int))%26).toNat)=(Fx.set b1 a<|wk cell lo).map ltU by rw[zC5,hs];rfl];have q1:=zAc (o':=Ob.lst<|(Fx.set b1 a<|wk cell lo).map ltU) hq;have r1:at? (Fx.set S q<|.lst<|(Fx.set b1 a<|wk cell lo).map ltU) r=some (.lst<|ws.map .str):=by rw[zDn hqr];exact hr
  erw[pd (cE r1),pv (.str ""),pd (tG q1<|by rw[zAe];exact h8),pd (cX r1<|by rw[xAa];show _<=2^24;lia),<-jv ha h8 hqr (n:=n) (lo:=lo+1) (bs:=Fx.set b1 a<|wk cell lo) (ws:=ws++[zB3<|Fx.set b1 a<|wk cell lo]) () (by rw[xAb,xAt];lia) (by rw[zDn<|Ne.symm hqr];exact q1) (by rw[zAe]) (λv=>zAb) (by rw[xAi];exact zAc r1) λS' a4 ln ky hr'=>?_,hk S' a4 (by rw[ln,zAe,zAe]) (λ{p o} n1 n2 z=>ky n1 n2<|by rw[zDn<|Ne.symm n2,zDn<|Ne.symm n1];exact z)];rw[xAx] at hr';exact hr'
def yS{k:Nat}:wk cell k<26:=by unfold wk;omega
def Ah{k:Nat}:lw cell k<26:=by
 unfold lw;generalize cell / 64 / ((k:Int)+1)+5*k=z;omega
def oY(cell:Int):∃ws:C0,ws.length=5/\ws.Nodup/\(∀y∈ws,zAr y=true)/\∀{fw d:Nat}{S:So}{x:D3}{K:D0},(∀S',Kp S S'->K (scU ws) S')->(Gd fw<|d+1).call 39 [.int cell] S x K:=by
 let⟨n,hn⟩:=Int.eq_ofNat_of_zero_le (show 0<=1+cell%8 by omega);have hn1:1<=n/\n<=8:=by omega
 have hn0:(0:Int)<n:=by omega
 let⟨a,ha⟩:=Int.eq_ofNat_of_zero_le (xBa (cell / 8)<|show(n:Int)≠0 by omega);have ha1:a<n:=by have:=xBb (cell / 8) hn0;omega
 let⟨g,hg,eg⟩:=wz (i:=cell / 8%8) (by omega);have hb:((a:Int)+1)%n=(((a+1)%n:Nat):Int):=by rw[Int.natCast_emod];rfl
 have hbn:(a+1)%n<n:=Nat.mod_lt _ (by omega);have lb:((List.range' 0 n).map<|lw cell).length=n:=by rw[xAa,List.length_range']
 generalize hb0:(List.range' 0 n).map (lw cell)=b0 at lb;have l1:(Fx.set b0 ((a+1)%n) g).length=n:=by rw[zAe,lb]
 have m0:∀i∈b0,i<26:=λi hi=>by
  rw[<- hb0] at hi;let⟨k,_,rfl⟩:=xA2.mp hi;exact Ah
 have g26:g<26:=by
  have:∀g∈gs,g<26:=∅
  exact this g hg
 have m1:∀i∈Fx.set b0 ((a+1)%n) g,i<26:=λi hi=>(zC4 hi).elim (λe=>by omega)<|m0 i;refine⟨(List.range' 0 5).map λk=>zB3<|Fx.set (Fx.set b0 ((a+1)%n) g) a<|wk cell k,by rw[xAa,List.length_range'],?_,λy hy=>?_,λ{fw d S x K} hk=>?_⟩
 .refine List.pairwise_map.mpr ((List.nodup_range' (step:=1)).imp_of_mem λ{i j} hi hj z=>yW (j:=a) ?_);rw[zCj (by omega),zCj<|by omega];have hi:=(List.mem_range'_1.mp hi).2;have hj:=(List.mem_range'_1.mp hj).2;unfold wk;intro e;injection e with e;omega
 .let⟨k,_,rfl⟩:=xA2.mp hy;have ll:(Fx.set (Fx.set b0 ((a+1)%n) g) a<|wk cell k).length=n:=by rw[zAe,l1]
  erw[sG (by omega) (by omega) (λi hi=>(zC4 hi).elim (λe=>by rw[e];exact yS)<|m1 i)];rw[ll];by_cases h1:n=1
  .exact .inl h1
  .refine .inr ⟨g,?_,hg⟩;have hne:a≠(a+1)%n:=by
    rcases Nat.lt_or_ge (a+1) n with z|z
    .rw[Nat.mod_eq_of_lt z];omega
    .rw[show a+1=n by omega,Nat.mod_self];omega
   erw[xAc (i:=(a+1)%n)];rw[zC6 hne,zCj<|by omega]
 .erw[cd ⟨1,7,t39⟩,pd (cW ∅),<-pv (.int n) ?_ (by rw[<- hn];rfl),pd (fh ∅),pd (cW hn0)];rw[ha];erw[pd (jH<|by omega)];rw[xC3];refine bI (λ_=>?_) λz=>?_
  .erw[mX (lo:=0) (by omega)];rw[xC6];have e0:(List.range' 0 n).map (λk=>ltU<|lw cell k)=b0.map ltU:=by rw[<- hb0,List.map_map];rfl
   rw[e0];erw[pd (v:=.ref S.length) (S':=S++[.lst<|b0.map ltU]) (by rfl)];have q0:at? (S++[Ob.lst<|b0.map ltU]) S.length=some (.lst<|b0.map ltU):=zAu;have k0:Kp S<|S++[Ob.lst<|b0.map ltU]:=⟨⋯,λz=>zAg z⟩
   have s0:(S++[Ob.lst<|b0.map ltU]).length=S.length+1:=⋯
   generalize S++[Ob.lst<|b0.map ltU]=T at q0 k0 s0;erw[pd (fh ∅),pd (cW ∅),pd eg,pv (.int<|(a:Int)+1),pd (cW hn0)];rw[hb];erw[pd (mf q0<|by rw[xAa];omega)];rw[zC5];have q1:=zAc (o':=Ob.lst<|(Fx.set b0 ((a+1)%n) g).map ltU) q0;have k1:∀{p o},p≠S.length->at? T p=some o->at? (Fx.set T S.length<|Ob.lst<|(Fx.set b0 ((a+1)%n) g).map ltU) p=some o:=λn1 z=>by rw[zDn<|Ne.symm n1];exact z
   have s1:(Fx.set T S.length<|Ob.lst<|(Fx.set b0 ((a+1)%n) g).map ltU).length=S.length+1:=by rw[zAe,s0]
   generalize Fx.set T S.length (Ob.lst<|(Fx.set b0 ((a+1)%n) g).map ltU)=T1 at q1 k1 s1;erw[pd (v:=.ref T1.length) (S':=T1++[.lst []]) (by rfl),pd (jH ∅),<-jv (n:=5) (lo:=0) (ws:=[]) (a:=a) (q:=S.length) (r:=T1.length) (b1:=Fx.set b0 ((a+1)%n) g) (bs:=Fx.set b0 ((a+1)%n) g) (by omega) (by omega) (by omega) (by omega) ∅ (zAg q1) rfl (λv=>rfl) zAu λS' a4 ln ky hr'=>?_,<-pd (v:=.lst<|((List.range' 0 5).map λk=>zB3<|Fx.set (Fx.set b0 ((a+1)%n) g) a<|wk cell k).map .str) (S':=Fx.set S' T1.length .dead) ?_ ?_]
   .show zCk T1.length S' _=_;unfold zCk;rw[hr'];rfl
   .have ln':S'.length=S.length+2:=by rw[ln,xAb,s1];rfl
    refine hk _ ⟨by rw[zAe];omega,λ{p o} z=>?_⟩;have lp:=zA6 z;rw[zDn<|by omega];exact ky (by omega) (by omega)<|zAg<|k1 (by omega)<|k0.ky z
  .rw[zAz,xDk<|show n<=sizeLine by show n<=2^24;omega] at z;cases z
end
section
variable{fw d:Nat}{S:So}{x:D3}{K:D0}{xs:C5}
def e8{k:Nat}(hk:K (.int<|xs.getD k 0) S):(Gd fw<|d+1).call 38 [.kl<|xs.map .int,.int k] S x K:=by
 erw[cd ⟨2,2,t38⟩,pd (v:=.int xs.length) (S':=S) (by show Res.ok (.int ((xs.map U.int).length:Nat)) S=_;rw[xAa]),pv (.bl<|decide<|(k:Int)<xs.length)];by_cases h:k<xs.length
 .rw[xBd ()];erw[bT];have e:xs.getD k 0=xs[k]:=by rw[xBz,xAk h];rfl
  erw[pd (tH (v:=.int xs[k])<|by rw[xAw,xAk h];rfl)];rw[e] at hk;exact hk
 .rw[xCn ()];erw[bF];have e:xs.getD k 0=0:=by rw[xBz,List.getElem?_eq_none ()];rfl
  rw[e] at hk;exact hk
theorem pig:∀{m:Nat}{l:C5},l.Nodup->(∀k∈l,0<k/\k<=m)->l.length<=m
 |0,[],_,_=>xAg _
 |0,k::l,_,h=>by have:=h k<|xAr ..;omega
 |m+1,l,hn,h=>by
  by_cases hm:(m+1:Int)∈l
  .have h1:=pig (m:=m) (hn.erase (m+1:Int)) λk hk=>by
    let⟨n1,n2⟩:=hn.mem_erase_iff.mp hk;have:=h k n2;omega
   rw[List.length_erase_of_mem hm] at h1;omega
  .have h1:=pig (m:=m) hn λk hk=>by
    have:=h k hk;have:k≠m+1:=λe=>hm (by rw[<- e];exact hk);omega
   omega
def st0(c s h:Int):Sx:=⟨if -1-c>c then -1-c else c,s%2147483646,80,0,h%600⟩
def pb{c s h:Int}(hk:K (.ref S.length)<|S++[.dct (st0 c s h).kv]):(Gd fw<|d+1).call 40 [.int c,.int s,.int 80,.int h] S x K:=by
 erw[cd ⟨4,5,t40⟩,pv (.int (-1)),pv (.int (-1-c)),pv (.int<|if -1-c>c then -1-c else c),pd (cW ∅),pd (cW ∅),pd (v:=.ref S.length) (S':=S++[.dct (st0 c s h).kv]) (by rfl),<-hk]
def v3{c s h:Int}:Iv<|st0 c s h:=by
 refine⟨⟨?_,xBa _ ∅,?_⟩,rfl,⟨xBu _,by show(0:Int)<=10000;decide⟩⟩
 .show 0<=(if -1-c>c then -1-c else c);split <;> lia
 .show s%2147483646<2147483647;have:=xBb s (show(0:Int)<2147483646 by decide);lia
structure zGa(P:Pg):Prop where
 wf:Wf (zAr ·=true) [] 14 P
 nd:P.pls.Nodup
 le:P.pls.length<=300
 rg:∀p∈P.pls,0<=p/\p<=599
 ct:P.cnt<=79
def tD(xs:C5):∃P,zGa P/\∀{fw d:Nat}{S:So}{x:D3}{K:D0},(∀S',Kp S S'->K P.u S')->(Gd fw<|d+50).call 52 [.kl<|xs.map .int,.int 80] S x K:=by
 let⟨ws,h5,hnd,hN,W⟩:=oY<|xs.getD 0 0;have go:∀s:Int,∃P,zGa P/\∀{fw d:Nat}{S:So}{x:D3}{K:D0},(∀S',Kp S S'->K P.u S')->rz5 (Gd fw<|d+49) [some<|.kl<|xs.map .int,some<|.int 80,some<|.int s,none] S (zAo x K):=λs=>by
  let⟨P,x',q,b⟩:=qb (N:=(zAr ·=true)) (ws:=ws) hN xy h5 hnd (n:=15) (dm:=14) ∅ ∅ (x:=st0 (xs.getD 2 0) s<|xs.getD 1 0 / 2) (sc:=[]) (dp:=14) v3 (by show(0:Int)+40*(14:Nat)<=2000;decide) ∅ ∅;have hi:x'.k<=166:=by
   have:=q.hi;have e:(st0 (xs.getD 2 0) s<|xs.getD 1 0 / 2).k=0:=rfl;omega
  have hc:P.cnt<=79:=by
   have h1:=q.ct.b;have h2:=q.ct.c;have e:(st0 (xs.getD 2 0) s<|xs.getD 1 0 / 2).k=0:=rfl;rw[e] at h1 h2;omega
  let⟨ks,e,nd,rg⟩:=q.ks;have rg:∀k∈ks,0<k/\k<=166:=λk hk=>by have:=rg k hk;have e:(st0 (xs.getD 2 0) s<|xs.getD 1 0 / 2).k=0:=rfl;omega
  have hl:=pig (m:=166) nd rg;refine⟨P,⟨q.wf,?_,by rw[e,xAa];omega,λp hp=>?_,hc⟩,λ{fw d S x K} hk=>?_⟩
  .rw[e];refine List.pairwise_map.mpr (nd.imp_of_mem λ{a b} ha hb z e=>z ?_);have ha:=rg a ha;have hb:=rg b hb;unfold zBn at e;omega
  .rw[e] at hp;let⟨k,_,rfl⟩:=xA2.mp hp;unfold zBn;omega
  .erw[e8 (k:=2),e8 (k:=1),pd (fh ∅),pb,e8 (k:=0),<-W λS' kp=>?_,pv (.lst [])];have g:=kp.ky (q:=S.length) zAu;erw[(b.up (lv':=49) ∅).h (d:=d) g,<-hk _ ⟨by rw[zAe];have:=kp.len;rw[xAb] at this;omega,λ{p o} z=>?_⟩];have lp:=zA6 z;rw[zDn<|by omega];exact kp.ky<|zAg z
 by_cases h1:xs.getD 1 0%2=1
 .let⟨P,ok,g⟩:=go<|1+xs.getD 1 0%2147483645;erw[<-⟨P,ok,λ{fw d S x K} hk=>?_⟩,cd (d:=d+49) ⟨2,4,t52⟩,e8 (k:=1),pd (cW ∅),pd cJ];rw[xBd h1];erw[bT,e8 (k:=1),pd (cW ∅),pv (.int<|1+xs.getD 1 0%2147483645)];exact g hk
 .let⟨P,ok,g⟩:=go 0;erw[<-⟨P,ok,λ{fw d S x K} hk=>?_⟩,cd (d:=d+49) ⟨2,4,t52⟩,e8 (k:=1),pd (cW ∅),pd cJ];rw[xCn h1];erw[bF];exact g hk
end
section
variable{up:B4<|Str×Str}{S T:So}{p q k:Nat}{o o1 o2 o':Ob}{v w:U}{r:C3}{a b C f:Str}{fs fs':B4<|Str×U}
def cQ(h:a=b):pr up .eq [.str a,.str b] S=.ok (.bl true) S:=by
 show Res.ok (.bl<|decide<|a=b) S=_;rw[xBd h]
def cx(h:a≠b):pr up .eq [.str a,.str b] S=.ok (.bl false) S:=by
 show Res.ok (.bl<|decide<|a=b) S=_;rw[xCn h]
def cm{xs:C3}(h:xs[j]?=some v):pr up .ix [.tup xs,.int j] S=.ok v S:=by
 show opt (atI xs (j:Int)) S=_;rw[dD h];rfl
def cb:pr up .ix [.tup<|v::r,.int 0] S=.ok v S:=cm (j:=0) rfl
def cO:pr up .ix [.tup<|w::v::r,.int 1] S=.ok v S:=cm (j:=1) rfl
def atN(h:p≠q)(h2:at? S q=some o2):at? (set S p o') q=some o2:=by
 rw[zDn h];exact h2
def atK(h1:at? S p=some o1)(h2:at? S q=some o2)(h:o1≠o2):at? (set S p o') q=some o2:=atN (λe=>h<|by rw[e,h2] at h1;cases h1;rfl) h2
theorem zDm:∀{S T:So}{k:Nat},at? (S++T) (S.length+k)=at? T k
 |[],T,k=>⋯
 |_::S,T,k=>by
  rw[xAo,show S.length+1+k=(S.length+k)+1 by lia];exact zDm (S:=S)
theorem zDr:∀{S T:So}{k:Nat},set (S++T) (S.length+k) o=S++set T k o
 |[],T,k=>⋯
 |x::S,T,k=>by
  rw[xAo,show S.length+1+k=(S.length+k)+1 by lia];exact congrArg (x::·)<|zDr (S:=S)
def tI:pr up (.dct []) [] (S++T)=.ok (.ref<|S.length+T.length) (S++(T++[.dct []])):=by
 show Res.ok (.ref (S++T).length) (S++T++[.dct []])=_;rw[xAb,xAx]
def pQ(k:Nat)(h:at? T k=some (.ins C fs))(e:putF f v fs=fs')(hl:Nat.ble fs.length 900=true):pr up (.setf f) [.ref<|S.length+k,v] (S++T)=.ok .non (S++set T k (.ins C fs')):=by
 rw[fB (by rw[zDm];exact h) e hl,zDr]
end
local macro_rules | `(tactic| walk_at "w")=>`(tactic| repeat first | refine pd (cQ rfl) ?_ | refine pd (cx (by first | assumption | decide)) ?_ | refine pd (cS (by assumption) rfl) ?_ | refine bT ?_ | refine bF ?_ | refine pd (cn (by assumption) rfl) ?_ | refine pd (cE (by assumption)) ?_ | refine pd (by rfl) ?_ | refine pd cb ?_)
section
variable{fw d:Nat}{S:So}{x:D3}{K:D0}
def iZ{i:Int}(hk:K (.bl true) S):(Gd fw<|d+1).call 9 [.int i] S x K:=by
 erw[cd ⟨1,1,t9⟩];walk_at"w"
 exact hk
end
section
variable{fw d n e:Nat}{S S1 S2 S':So}{x:D3}{K:D0}{u v P:U}{w:Str}{xs:C3}{i:Int}
def pY(h:xs.length<=1000)(hk:K (.tup xs) S):(Gd fw<|d+1).call 17 [.tup xs] S x K:=by
 erw[cd ⟨1,1,t17⟩];walk_at"w"
 erw[pd (v:=.tup xs) (S':=S) (zA3<|by show 0+xs.length<=2^24;lia),<-hk]
def pS(h:w.length<=1000):pr ups .join [.str "",.lst [.str w]] S=.ok (.str w) S:=by
 show(match decide (([w].map λy:Str=>y.length).sum+1*("":Str).length<=16777216) with|true=>Res.ok (.str<|Builtin.Str.glued "" [w]) S|false=>.stuck)=_;rw[xBd<|by rw[show("":Str).length=0 by decide +kernel];show w.length+0+0<=_;lia];rfl
def kM(h:w.length<=1000)(hk:K (.str w) S):(Gd fw<|d+1).call 17 [.str w] S x K:=by
 erw[cd ⟨1,1,t17⟩];walk_at"w"
 erw[pd (pS h),<-hk]
def p7(hk:K (.int i) S):(Gd fw<|d+2).call 17 [.int i] S x K:=by
 erw[cd ⟨1,1,t17⟩];walk_at"w"
 erw[iZ];walk_at"w"
 exact hk
set_option tactic.hygienic true
theorem vA:∀{cs ys:C3},(∀c∈cs,inL c=true)->K (.lst<|ys++cs.map λ_=>.bl true) S->lcK (Gd fw d) (lcB [1] true [none,none] none (cB<|tB<|J3 .inn J2<|J4 ltrs)<|Gd fw d) cs ys S K
 |[],ys,h,hk=>by
  rw[List.map_nil,xB0] at hk;exact hk
 |c::cs,ys,h,hk=>by
  have h1:=h c<|xAr ..;refine pd (v:=.bl true) (S':=S) ?_ ?_
  .show obB (inU S c<|.str ltrs) id S=_;unfold inL at h1;have e:inU S c (.str ltrs)=inU [] c (.str ltrs):=rfl;rw[e];split at h1
   .next b hb=>rw[hb,h1];rfl
   .cases h1
  .erw[vA (cs:=cs) (ys:=ys++[.bl true]) (λc hc=>h c<|xAs _ hc)];rw[xAx];exact hk
set_option tactic.hygienic false
theorem kg:∀{cs:C3},blL (cs.map λ_=>U.bl true)=some (cs.map λ_=>true)
 |[]=>rfl
 |_::cs=>by show(blL _).map _=_;rw[kg];rfl
def isw(h:zA8 w=true)(hk:K (.bl true) S):(Gd fw<|d+1).call 13 [.str w] S x K:=by
 unfold zA8 at h;rw[xCh,xCh] at h;let⟨⟨h1,h2⟩,h3⟩:=h;have h1:=xCo h1;have h2:=xCo h2;erw[cd ⟨1,1,t13⟩];walk_at"w"
 erw[pd (v:=.int w.length) (S':=S) (zA3<|by show _<=2^24;lia),pd (v:=.bl true) (S':=S) (by show Res.ok (.bl<|decide<|(1:Int)<=w.length) S=_;rw[xBd ()]),bT,pd (v:=.bl true) (S':=S) (by show Res.ok (.bl<|decide<|(w.length:Int)<=8) S=_;rw[xBd ()]),bF,pv (.tup<|chs w)];have hc:(chs w).length<=sizeLine:=by
  show _<=2^24;have:(chs w).length=w.length:=by unfold chs;rw[xAa];rfl
  lia
 erw[<-bI (c:=Nat.ble (chs w).length sizeLine) (λ_=>?_) λz=>absurd (xDk hc) (by rw[z];decide),vA (cs:=chs w) (ys:=[]) (λc hc=>xCx.mp h3 c hc),<-pd (v:=.bl true) (S':=S) ?_ hk];show(match blL ([]++(chs w).map λ_=>U.bl true) with|some bs=>Res.ok (.bl<|bs.all id) S|none=>.stuck)=_;rw[xC6,kg];simp
def isn(h:zAr w=true)(hk:K (.bl true) S):(Gd fw<|d+2).call 14 [.str w] S x K:=by
 unfold zAr at h;rw[xCh] at h;erw[cd ⟨1,1,t14⟩,isw h.1,bT,<-pd (v:=.bl true) (S':=S) ?_ hk];show obB (some<|zA7 (.str w)<|zFw.map .str) not S=_;have:=h.2;rw[Bool.not_eq_true'] at this;rw[this];rfl
def uJ(h:-(10^12)<i/\i<10^12)(hk:K (.bl true) S):(Gd fw<|d+3).call 24 [.str "number",.int i,v] S x K:=by
 erw[cd ⟨3,3,t24⟩];walk_at"w"
 erw[cd ⟨1,1,t16⟩,iZ,bT,pv (.int<|if i<0 then -i else i),pv (.int<|10^12),<-pd (v:=.bl true) (S':=S) ?_ hk];show Res.ok (.bl<|decide<|(if i<0 then -i else i)<10^12) S=_;rw[xBd<|by split <;> lia]
def zEq(w:Str):B':=zA8 w&&zA7 (.str w) [.str "add",.str "sub",.str "mul",.str "less",.str "same"]
def ya(h:zEq w=true)(hk:K (.bl true) S):(Gd fw<|d+2).call 24 [.str "op",.str w,v] S x K:=by
 unfold zEq at h;rw[xCh] at h;erw[cd ⟨3,3,t24⟩];walk_at"w"
 erw[isw h.1,bT,<-pd (v:=.bl true) (S':=S) ?_ hk];show obB (some<|zA7 (.str w) [.str "add",.str "sub",.str "mul",.str "less",.str "same"]) id S=_;rw[h.2];rfl
def rB(h:zA8 w=true)(hk:K (.bl true) S):(Gd fw<|d+2).call 24 [.str "word",.str w,v] S x K:=by
 erw[cd ⟨3,3,t24⟩];walk_at"w"
 exact isw h hk
def rD(h:zAr w=true)(hk:K (.bl true) S):(Gd fw<|d+3).call 24 [.str "name",.str w,v] S x K:=by
 erw[cd ⟨3,3,t24⟩];walk_at"w"
 exact isn h hk
theorem iy:∀{th:C0},(th.map U.str).all zAs=true
 |[]=>rfl
 |_::th=>by rw[xBs,xCj,iy];rfl
theorem km:∀{th:C0},w∈th->zA7 (.str w) (th.map U.str)=true
 |y::th,h=>by
  show((y==w)||zA7 (.str w) (th.map U.str))=true;rcases xAv.mp h with rfl|h
  .rw[show(w==w)=true by exact beq_self_eq_true w];rfl
  .rw[km h,Bool.or_true]
def rC{th:C0}(h:zAr w=true)(ht:w∈th)(hk:K (.bl true) S):(Gd fw<|d+3).call 24 [.str "used",.str w,.tup<|th.map .str] S x K:=by
 erw[cd ⟨3,3,t24⟩];walk_at"w"
 erw[isn h,bT,<-pd (v:=.bl true) (S':=S) ?_ hk];show obB (if(zAs (.str w)&&(th.map U.str).all zAs)=true then some (zA7 (.str w)<|th.map U.str) else none) id S=_;rw[iy,km ht];rfl
end
section
variable{fw d n e:Nat}{S S1 S2 S':So}{x:D3}{K:D0}{u v P:U}{w:Str}{xs:C3}{i pl:Int}{h pq kq:Nat}{ps pls:C5}{th nn:C0}
def plK(ps:C5):B4<|Key×U:=ps.map λi=>(Sum.inl i,.bl true)
structure ChS(h pq:Nat)(ps:C5)(S:So):Prop where
 ob:at? S h=some (.ins "Checker" [("places",.ref pq)])
 di:at? S pq=some (.dct (plK ps))
structure Pc(pq:Nat)(S S':So):Prop where
 len:S.length<=S'.length
 ky:∀{q o},q≠pq->at? S q=some o->at? S' q=some o
def Pc.trans(h1:Pc pq S S1)(h2:Pc pq S1 S2):Pc pq S S2:=⟨xCk h1.len h2.len,λa b=>h2.ky a<|h1.ky a b⟩
def Pc.refl:Pc pq S S:=⟨xAg _,λ_ b=>b⟩
def Pc.app{T:So}:Pc pq S<|S++T:=⟨⋯,λ_ b=>zAg b⟩
theorem nv:∀{ps:C5},pl∉ps->zAq (.inl pl) (plK ps)=none
 |[],_=>rfl
 |a::ps,h=>by
  show(if(Sum.inl a:Key)=.inl pl then _ else zAq (.inl pl) (plK ps))=_;rw[xCf (by intro z;injection z with z;exact h (by rw[z];exact xAr ..)),nv λz=>h<|xAs _ z]
theorem sy:∀{ps:C5},pl∉ps->((plK ps).any λkv=>decide<|kv.1=.inl pl)=false
 |[],_=>rfl
 |a::ps,h=>by
  show(decide ((Sum.inl a:Key)=.inl pl)||(plK ps).any _)=_;rw[xCn (by intro z;injection z with z;exact h (by rw[z];exact xAr ..)),sy λz=>h<|xAs _ z];rfl
def tm(hp:pl∉ps):putK (.inl pl) (.bl true) (plK ps)=plK (ps++[pl]):=by
 unfold Fx.putK;rw[sy hp];simp[plK]
def AO(C:ChS h pq ps S)(hp:0<=pl/\pl<=599)(hn:pl∉ps)(hl:ps.length<300)(hk:∀S',ChS h pq (ps++[pl]) S'->Pc pq S S'->K .non S'):(Gd fw<|d+3).call 20 [.ref h,.int pl] S x K:=by
 erw[cd ⟨2,2,t20⟩,cd ⟨1,1,t15⟩,iZ,bT,pd (v:=.bl true) (S':=S) (by show Res.ok (.bl<|decide<|(0:Int)<=pl) S=_;rw[xBd hp.1]),bT,pd (v:=.bl true) (S':=S) (by show Res.ok (.bl<|decide<|pl<=(599:Int)) S=_;rw[xBd hp.2]),bF];have h1:=C.ob;have h2:=C.di;erw[pd (cS h1 rfl),<-pd (v:=.bl false) (S':=S) ?_ ?_]
 .show obB (inU S (.int pl)<|.ref pq) id S=_;unfold inU;dsimp only;rw[h2];show obB (some (zAq (.inl pl)<|plK ps).isSome) id S=_;rw[nv hn];rfl
 erw[bF,pd (cS h1 rfl)];have hL:(plK ps).length=ps.length:=by simp[plK]
 refine pd (v:=.non) (S':=set S pq<|.dct<|plK<|ps++[pl]) ?_ ?_
 .show zBg pq (.int pl) (.bl true) S=_;unfold zBg;rw[h2];show fits _ _=_;rw[zA3 (by show _<=2^24;lia),tm hn]
 have C':ChS h pq (ps++[pl])<|set S pq<|.dct<|plK<|ps++[pl]:=⟨atK h2 h1 (λz=>nomatch z),zAc h2⟩
 have h3:=C'.ob;erw[pd (cS h3 rfl),pd (tF C'.di),pd (v:=.bl false) (S':=set S pq<|.dct<|plK<|ps++[pl]) (by show Res.ok (.bl<|decide<|(300:Int)<(plK<|ps++[pl]).length) _=_;rw[xCn<|by simp[plK];lia]),bF];exact hk _ C' ⟨by rw[zAe];exact xAg _,λa b=>atN (Ne.symm a) b⟩
structure TA(vs:C3)(nn:C0):Prop where
 h:∀{fw d:Nat}{S:So}{kq:Nat}{x:D3}{K:D0},at? S kq=some (.lst vs)->K (.tup (nn.map .str)) S->(Gd fw (d+1)).call 11 [.ref kq,.int vs.length] S x K
def cA{up:B4<|Str×Str}(hq:at? S kq=some (.lst xs))(hj:xs[j]?=some v):pr up .ix [.ref kq,.int j] S=.ok v S:=by
 show ixU (.ref kq) (.int j) S=_;unfold ixU;dsimp only;rw[hq];show opt (atI xs (j:Int)) S=_;rw[dD hj];rfl
def iJ{k:Str}{r:C3}(h1:zAv k da=none)(h2:(dB.any λy=>decide<|y=k)=true):TA (.str k::r) []:=⟨λ{fw d S kq x K} hq hk=>by
 erw[cd ⟨2,5,t11⟩,pd (cA (j:=0) hq rfl),<-pd (v:=.tup [.non,.non]) (S':=S) ?_ ?_]
 .delta pr;dsimp only[gS];rw[h1,h2]
 walk_at"w"
 exact hk⟩
def y9{p:U}:TA [.str "fn",p] []:=⟨λ{fw d S kq x K} hq hk=>by
 erw[cd ⟨2,5,t11⟩,pd (cA (j:=0) hq rfl)];walk_at"w"
 exact hk⟩
def vY{p:U}{ns:C0}:TA [.str "fn",p,.tup<|ns.map .str] ns:=⟨λ{fw d S kq x K} hq hk=>by
 erw[cd ⟨2,5,t11⟩,pd (cA (j:=0) hq rfl)];walk_at"w"
 erw[pd (cA (j:=2) hq rfl)];walk_at"w"
 exact hk⟩
def vX{p:U}:TA [.str "let",p] []:=⟨λ{fw d S kq x K} hq hk=>by
 erw[cd ⟨2,5,t11⟩,pd (cA (j:=0) hq rfl)];walk_at"w"
 exact hk⟩
def sO{p q:U}:TA [.str "let",p,q] []:=⟨λ{fw d S kq x K} hq hk=>by
 erw[cd ⟨2,5,t11⟩,pd (cA (j:=0) hq rfl)];walk_at"w"
 exact hk⟩
def sM{p q:U}:TA [.str "let",p,.str y,q] [y]:=⟨λ{fw d S kq x K} hq hk=>by
 erw[cd ⟨2,5,t11⟩,pd (cA (j:=0) hq rfl)];walk_at"w"
 erw[pd (cA (j:=2) hq rfl)];walk_at"w"
 exact hk⟩
def vW{p:U}:TA [.str "try",p] []:=⟨λ{fw d S kq x K} hq hk=>by
 erw[cd ⟨2,5,t11⟩,pd (cA (j:=0) hq rfl)];walk_at"w"
 exact hk⟩
def sL{p q:U}:TA [.str "try",p,q] []:=⟨λ{fw d S kq x K} hq hk=>by
 erw[cd ⟨2,5,t11⟩,pd (cA (j:=0) hq rfl)];walk_at"w"
 exact hk⟩
def sK{p q r:U}:TA [.str "try",p,q,r] []:=⟨λ{fw d S kq x K} hq hk=>by
 erw[cd ⟨2,5,t11⟩,pd (cA (j:=0) hq rfl)];walk_at"w"
 exact hk⟩
def sJ{p q r:U}:TA [.str "try",p,q,r,.str y] [y]:=⟨λ{fw d S kq x K} hq hk=>by
 erw[cd ⟨2,5,t11⟩,pd (cA (j:=0) hq rfl)];walk_at"w"
 erw[pd (cA (j:=4) hq rfl)];walk_at"w"
 exact hk⟩
def y8{p:U}:TA [.str "match",p] []:=⟨λ{fw d S kq x K} hq hk=>by
 erw[cd ⟨2,5,t11⟩,pd (cA (j:=0) hq rfl)];walk_at"w"
 exact hk⟩
def y7{p q:U}:TA [.str "match",p,q] []:=⟨λ{fw d S kq x K} hq hk=>by
 erw[cd ⟨2,5,t11⟩,pd (cA (j:=0) hq rfl)];walk_at"w"
 exact hk⟩
def y6{p q r:U}:TA [.str "match",p,q,r] []:=⟨λ{fw d S kq x K} hq hk=>by
 erw[cd ⟨2,5,t11⟩,pd (cA (j:=0) hq rfl)];walk_at"w"
 exact hk⟩
def y4{p q r:U}{ns:C0}:TA [.str "match",p,q,r,.tup<|ns.map .str] ns:=⟨λ{fw d S kq x K} hq hk=>by
 erw[cd ⟨2,5,t11⟩,pd (cA (j:=0) hq rfl)];walk_at"w"
 erw[pd (cA (j:=4) hq rfl)];walk_at"w"
 exact hk⟩
def y3{p q r s u:U}:TA [.str "match",p,q,r,s,u] []:=⟨λ{fw d S kq x K} hq hk=>by
 erw[cd ⟨2,5,t11⟩,pd (cA (j:=0) hq rfl)];walk_at"w"
 exact hk⟩
end
structure zCp(s:Str)(v:U)(pls:C5)(th:C0)(wi:Int)(D:Nat):Prop where
 h:∀{fw d h pq:Nat}{ps:C5}{S:So}{x:D3}{K:D0},D<=d->ChS h pq ps S->(ps++pls).Nodup->(ps++pls).length<=300->(∀S',ChS h pq (ps++pls) S'->Pc pq S S'->K v S')->(Gd fw d).call 21 [.ref h,.str s,v,.tup (th.map .str),.int wi] S x K
structure Chk(P:U)(pls:C5)(th:C0)(wi:Int)(D:Nat):Prop where
 h:∀{fw d h pq:Nat}{ps:C5}{S:So}{x:D3}{K:D0},D<=d->ChS h pq ps S->(ps++pls).Nodup->(ps++pls).length<=300->(∀S',ChS h pq (ps++pls) S'->Pc pq S S'->K P S')->(Gd fw d).call 19 [.ref h,P,.tup (th.map .str),.int wi] S x K
inductive Its(th:List Str)(wi:Int)(D:Nat):List U->List (Str×U)->List Int->Prop
 |nil {vs:List U}:Its th wi D vs [] []
 |cons {vs:List U} {s:Str} {v:U} {nn:List Str} {r:List (Str×U)} {pl pls:List Int} (t:TA vs nn) (c:zCp s v pl (th++nn) wi D) (hn:nn.length<=10) (i:Its th wi D (vs++[v]) r pls):Its th wi D vs ((s,v)::r) (pl++pls)
theorem xT{th:C0}{D kq:Nat}(hD:D<=d+1)(hth:th.length<=1000):∀{vs:C3}{items:B4<|Str×U}{pls:C5},Its th wi D vs items pls->∀{S:So}{ps:C5}{a b c:B5 U},ChS h pq ps S->kq≠pq->at? S kq=some (.lst vs)->(ps++pls).Nodup->(ps++pls).length<=300->vs.length+items.length<=100 ->
  (∀S' a b c,ChS h pq (ps++pls) S'->S.length<=S'.length->(∀{q o},q≠pq->q≠kq->at? S q=some o->at? S' q=some o)->at? S' kq=some (.lst (vs++items.map (·.2)))->kk [some<|.ref h,a1,some<|.tup<|th.map .str,some<|.int wi,a4,some<|.ref kq,a6,a,b,c] S') ->
  zAw (items.map λp=>U.tup [.str p.1,p.2]) (λw σ1 S2 nx=>tgt [7,8] false (Gd fw<|d+1) w σ1 λσ2=>zHv (Gd fw<|d+1) σ2 S2<|lpE E nx) [some<|.ref h,a1,some<|.tup<|th.map .str,some<|.int wi,a4,some<|.ref kq,a6,a,b,c] S kk:=by
 intro vs items pls hI;induction hI with
 |nil=>
  intro S ps a b c C hq hk hn hl hb hkk;refine hkk S a b c ?_ (xAg _) (λ_ _ z=>z) ?_
  .rw[xB0];exact C
  .rw[List.map_nil,xB0];exact hk
 |@cons vs s v nn r pl pls t ci hnn i ih=>
  intro S ps a b c C hq hk hn hl hb hkk;have h1:=C.ob;rw[xBs,zAw];erw[pd (dX hk),t.h hk,<-pd (v:=.tup<|(th++nn).map .str) (S':=S) ?_ ?_]
  .show fits _ _=_;rw[zA3 (by show _<=2^24;rw[xAa,xAa];lia),xAi]
  erw[pd (cE hk),pd (cn h1 rfl)];rw[<- xAx] at hn hl hkk;have hn1:(ps++pl).Nodup:=(xBq.mp hn).1;refine ci.h hD C hn1 (by rw[xAb (as:=ps++pl)] at hl;lia) λS1 C1 p1=>?_;have hk1:=p1.ky hq hk;simp only[xAo] at hb;erw[pd (cX hk1<|by show _<=2^24;lia)];have C2:ChS h pq (ps++pl)<|set S1 kq<|.lst<|vs++[v]:=⟨atK hk1 C1.ob (λz=>nomatch z),atN hq C1.di⟩
  erw[<-ih C2 hq (zAc hk1) hn hl (by simp;lia) λS' a b c C' ln ky hk'=>?_,hkk S' a b c C' (by rw[zAe] at ln;exact xCk p1.len ln) (λn1 n2 z=>ky n1 n2<|atN (Ne.symm n2)<|p1.ky n1 z)];rw[xAx] at hk';exact hk'
def zHm{a b:U}{r:C3}:pr ups (.sl false true false) [.tup<|a::b::r,.int 2] []=.ok (.tup r) []:=by
 show slice false (.tup<|a::b::r) (some ((2:Nat):Int)) none []=_;unfold slice;dsimp only;rw[HT.sIx_nat,show min 2 (a::b::r).length=2 by simp,xCn ()];dsimp only;congr 2;unfold zDl;rw[HT.sIx_nat,show min 2 (a::b::r).length=2 by simp,HT.sIx_none];simp
def wx{a b:U}{r:C3}:pr ups (.sl false true false) [.tup<|a::b::r,.int 2] S=.ok (.tup r) S:=by
 have e:∀S,pr ups (.sl false true false) [.tup<|a::b::r,.int 2] S=slice false (.tup<|a::b::r) (some 2) none S:=λ_=>rfl;have:=zHm (a:=a) (b:=b) (r:=r);rw[e] at this⊢;unfold slice at this⊢;dsimp only at this⊢;split at this
 .cases this
 .injection this with this _;rw[this]
theorem lM:∀{its:B4<|Str×U},zBl (its.map λp=>.str p.1) (its.map (·.2))=its.map λp=>.tup [.str p.1,p.2]
 |[]=>rfl
 |p::its=>by
  show U.tup [.str p.1,p.2]::zBl _ _=_;rw[lM];rfl
theorem hU{P:U}{k:Str}{pl wi':Int}{pls:C5}{th:C0}{D:Nat}{b:B'}(hP:P=.tup (.str k::.int pl::items.map (·.2)))(hf:zAv k cy=some (.kt<|items.map λp=>.str p.1))(hw:(!zA7 (.str k) [.str "number",.str "name"])=b)(hwi:wi'=if b then wi+1 else wi)(h20:wi'<=20)(hkl:k.length<=1000)(hil:items.length<=10)(hpl:0<=pl/\pl<=599)(hth:th.length<=1000)(hD:4<=D)(hI:Its th wi' D [.str k,.int pl] items pls):Chk P (pl::pls) th wi<|D+1:=by
 refine⟨?_⟩;intro fw d h pq ps S x K hd C hn hl hk;obtain⟨d,rfl⟩:∃d',d=d'+4:=⟨d-4,()⟩
 erw[cd ⟨4,10,t19⟩];rw[hP];have hlm:(items.map (·.2)).length=items.length:=xAa ..;erw[pY (by simp only[xAo,hlm];lia),pv (.bl true),bF,pd (v:=.int (items.length+2:Nat)) (S':=S) (by show Res.ok (.int ((items.map (·.2)).length+1+1:Nat)) S=_;rw[hlm]),pd (v:=.bl false) (S':=S) (by show Res.ok (.bl<|decide<|((items.length+2:Nat):Int)<2) S=_;rw[xCn ()]),bF,pd cb,kM hkl,pd cO,p7,pd (v:=.ref S.length) (S':=S++[.lst [.str k,.int pl]]) (by rfl)];have hk1:at? (S++[Ob.lst [.str k,.int pl]]) S.length=some (.lst [.str k,.int pl]):=zAu;have C1:ChS h pq ps<|S++[.lst [.str k,.int pl]]:=⟨zAg C.ob,zAg C.di⟩
 have hq:S.length≠pq:=by have:=zA6 C.di;lia
 have lt1:S.length<=(S++[Ob.lst [.str k,.int pl]]).length:=⋯
 have ky1:∀{q o},at? S q=some o->at? (S++[Ob.lst [.str k,.int pl]]) q=some o:=λz=>zAg z;generalize S++[Ob.lst [.str k,.int pl]]=T at hk1 C1 lt1 ky1⊢;erw[pd (cA (j:=0) hk1 rfl),cd ⟨1,1,t10⟩,pv (.bl true),bT,pd (v:=.kt<|items.map λp=>.str p.1) (S':=T) (by show opt (zAv k cy) T=_;rw[hf];rfl),pv (.bl false),bF,pd (v:=.int (items.length+2:Nat)) (S':=T) (by show Res.ok (.int ((items.map (·.2)).length+1+1:Nat)) T=_;rw[hlm]),pd (v:=.int items.length) (S':=T) (by show Res.ok (.int ((items.map λp=>U.str p.1).length:Nat)) T=_;rw[xAa]),pv (.int<|2+items.length),pd (v:=.bl false) (S':=T) (by show Res.ok (.bl (!(decide<|((items.length+2:Nat):Int)=2+items.length))) T=_;rw[xBd ()];rfl),bF];have h1:=C1.ob;erw[pd (cn h1 rfl),pd (cA (j:=1) hk1 rfl)];rw[show ps++pl::pls=ps++[pl]++pls by simp] at hn hl hk;have hnn:=(xBq.mp hn).1;refine AO (d:=d) C1 hpl (λz=>(xBq.mp hnn).2.2 pl z pl (xAm.mpr rfl) rfl) (by rw[xAb,xAb] at hl;simp at hl;lia) λT2 C2 p2=>?_;have hk2:=p2.ky hq hk1;erw[pd (cA (j:=0) hk2 rfl),pd (v:=.bl b) (S':=T2) (by show obB (some<|zA7 (.str k) [.str "number",.str "name"]) not T2=_;rw[<- hw];rfl)];have fin:∀{c1 c2 c3:B5 U},(sQ (J9 (tB<|J3 .gt Ja<|Jj 20)<|Je sZ)<|sQ (sF (J3 .zip Jh<|J3 (.sl false true false) J8 Jp) [7,8] false zHv)<|J5<|J6 .tupOf Jd) (Gd fw<|d+3) [some<|.ref h,some P,some<|.tup<|th.map .str,some<|.int wi',some P,some<|.ref S.length,some<|.kt<|items.map λp=>.str p.1,c1,c2,c3] T2<|zAo x K:=by
  intro c1 c2 c3;erw[pd (v:=.bl false) (S':=T2) (by show Res.ok (.bl<|decide<|(20:Int)<wi') T2=_;rw[xCn ()]),bF];rw[hP];erw[pd wx,<-pd (v:=.tup<|items.map λp=>.tup [.str p.1,p.2]) (S':=T2) ?_ ?_]
  .show(match Nat.beq (items.map λp:Str×U=>U.str p.1).length (items.map λp:Str×U=>p.2).length with|true=>Res.ok (.tup<|zBl (items.map λp:Str×U=>U.str p.1) (items.map λp:Str×U=>p.2)) T2|false=>.stuck)=_;rw[hlm,xAa,show Nat.beq items.length items.length=true from Nat.beq_refl _,lM]
  erw[<-xT (d:=d+2) (D:=D) () hth hI C2 hq hk2 hn hl (by show 2+items.length<=100;lia) λS' a b c C' ln ky hk'=>?_,pd (v:=.tup (.str k::.int pl::items.map (·.2))) (S':=S') (by show zA0 (.ref S.length) S'=_;unfold zA0;dsimp only[lsU];rw[hk'];rfl)];rw[<- hP];exact hk S' C' ⟨xCk lt1<|xCk p2.len ln,λn1 z=>ky n1 (by have:=zA6 z;lia)<|p2.ky n1<|ky1 z⟩
 rw[<- hP];cases b with
 |true=>
  erw[bT,pd (v:=.int wi') (S':=T2) (by rw[hwi];rfl),<-fin]
 |false=>
  erw[bF];rw[show wi=wi' by rw[hwi];rfl];exact fin
section
variable{th:C0}{wi pl i:Int}{w y t:Str}{p q:U}{pls pls1 pls2:C5}{D dep dep':Nat}{req:C0}
def ChS.nil{ps:C5}(C:ChS h pq ps S):ChS h pq (ps++[]) S:=by rw[xB0];exact C
def yF(hi:-(10^12)<i/\i<10^12):zCp "number" (.int i) [] th wi 4:=by
 refine⟨?_⟩;intro fw d h pq ps S x K hd C hn hl hk;obtain⟨d,rfl⟩:∃d',d=d'+4:=⟨d-4,()⟩
 erw[cd ⟨5,6,t21⟩];walk_at"w"
 erw[p7,uJ hi,bF,<-hk S C.nil Pc.refl]
def jm{s:Str}(h1:s≠"part")(h2:s≠"parts")(h3:s≠"names")(hw:w.length<=1000)(hf:∀{fw d:Nat}{S:So}{x:D3}{K:D0},K (.bl true) S->(Gd fw<|d+3).call 24 [.str s,.str w,.tup<|th.map .str] S x K):zCp s (.str w) [] th wi 4:=by
 refine⟨?_⟩;intro fw d h pq ps S x K hd C hn hl hk;obtain⟨d,rfl⟩:∃d',d=d'+4:=⟨d-4,()⟩
 erw[cd ⟨5,6,t21⟩];walk_at"w"
 erw[kM hw,hf,bF,<-hk S C.nil Pc.refl]
def wlen(h:zA8 w=true):w.length<=1000:=by
 unfold zA8 at h;rw[xCh,xCh] at h;have:=xCo h.1.2;lia
def nword(h:zAr w=true):zA8 w=true:=by
 unfold zAr at h;rw[xCh] at h;exact h.1
def gx(h:zA8 w=true):zCp "word" (.str w) [] th wi 4:=jm ∅ ∅ ∅ (wlen h) λz=>rB h z
def AW(h:zEq w=true):zCp "op" (.str w) [] th wi 4:=jm ∅ ∅ ∅ (wlen<|by unfold zEq at h;rw[xCh] at h;exact h.1) λz=>ya h z
def nJ(h:zAr w=true):zCp "name" (.str w) [] th wi 4:=jm ∅ ∅ ∅ (wlen<|nword h) λz=>rD h z
def nI(h:zAr w=true)(ht:w∈th):zCp "used" (.str w) [] th wi 4:=jm ∅ ∅ ∅ (wlen<|nword h) λz=>rC h ht z
def zB4{x:D3}{K:D0}{xs:C3}(h:xs.length<=4)(hk:K (.tup xs) S):(Gd fw<|d+2).call 22 [.tup xs] S x K:=by
 erw[cd ⟨1,2,t22⟩,pY (),pv (.bl true),bF,pv (.int xs.length),pd (v:=.bl false) (S':=S) (by show Res.ok (.bl<|decide<|(4:Int)<xs.length) S=_;rw[xCn ()]),bF,<-hk]
theorem vx{fw d:Nat}{S:So}{K:D0}:∀{xs:C0}{ys:C3},(∀y∈xs,zAr y=true)->K (.lst<|ys++xs.map .str) S->lcK (Gd fw<|d+1) (lcB [1] true [none,none] none (Jg 17 J2)<|Gd fw<|d+1) (xs.map .str) ys S K
 |[],ys,_,hk=>by
  rw[List.map_nil,xB0] at hk;exact hk
 |y::xs,ys,h,hk=>by
  erw[kM (wlen<|nword<|h y<|xAr ..),vx (xs:=xs) (λz hz=>h z<|xAs _ hz)];rw[xAx];exact hk
theorem vz{fw d:Nat}{S:So}{K:D0}:∀{xs:C0}{ys:C3},(∀y∈xs,zAr y=true)->K (.lst<|ys++xs.map λ_=>.bl true) S->lcK (Gd fw<|d+2) (lcB [1] true [none,none] none (Jg 14 J2)<|Gd fw<|d+2) (xs.map .str) ys S K
 |[],ys,_,hk=>by
  rw[List.map_nil,xB0] at hk;exact hk
 |y::xs,ys,h,hk=>by
  erw[isn (h y<|xAr ..),vz (xs:=xs) (λz hz=>h z<|xAs _ hz)];rw[xAx];exact hk
theorem jC:∀{xs:C0},zCu (xs.map .str)=some xs
 |[]=>rfl
 |x::xs=>by
  show(zCu<|xs.map .str).map _=_;rw[jC];rfl
theorem kh:∀{xs:C0},blL (xs.map λ_=>U.bl true)=some (xs.map λ_=>true)
 |[]=>rfl
 |_::xs=>by
  show(blL<|xs.map λ_=>U.bl true).map _=_;rw[kh];rfl
def lI{n:Nat}(h:n<=1000):Nat.ble n sizeLine=true:=xDk (by show n<=2^24;lia)
def kc{xs:C0}(hx:Nmz (zAr ·=true) xs):zCp "names" (.tup<|xs.map .str) [] th wi 5:=by
 refine⟨?_⟩;intro fw d h pq ps S x K hd C hn hl hk;obtain⟨d,rfl⟩:∃d',d=d'+5:=⟨d-5,()⟩
 have few:=hx.few;have lm:(xs.map U.str).length=xs.length:=xAa ..;erw[cd ⟨5,6,t21⟩];walk_at"w"
 erw[cd ⟨1,2,t23⟩,zB4 (),pv (.tup<|xs.map .str),<-bI (c:=Nat.ble (xs.map U.str).length sizeLine) (λ_=>?_) λz=>absurd (lI (n:=(xs.map U.str).length) ()) (by rw[z];decide),vx (d:=d+2) hx.ok];rw[xC6];erw[pv (.tup<|xs.map .str),pv (.tup<|xs.map .str),<-bI (c:=Nat.ble (xs.map U.str).length sizeLine) (λ_=>?_) λz=>absurd (lI (n:=(xs.map U.str).length) ()) (by rw[z];decide),vz (d:=d+1) hx.ok];rw[xC6];refine pd (v:=.bl true) (S':=S) ?_ ?_
 .show(match blL (xs.map λ_=>U.bl true) with|some bs=>Res.ok (.bl<|bs.all id) S|none=>.stuck)=_;rw[kh];simp
 erw[bF,<-pd (v:=.int xs.length) (S':=S) ?_ ?_]
 .show(match zCu (xs.map U.str) with|some ws=>(match decide (ws.length<=4/\ws.Nodup) with|true=>Res.ok (.int ws.length) S|false=>.stuck)|none=>.stuck)=_;rw[jC];dsimp only;rw[xBd ⟨few,hx.nd⟩]
 erw[pd (v:=.int xs.length) (S':=S) (by show Res.ok (.int ((xs.map U.str).length:Nat)) S=_;rw[lm]),pv (.bl<|decide<|(xs.length:Int)<xs.length)];rw[xCn ()];erw[bF];exact hk S C.nil Pc.refl
def uX(c:Chk p pls th wi D):zCp "part" p pls th wi<|D+1:=by
 refine⟨?_⟩;intro fw d h pq ps S x K hd C hn hl hk;obtain⟨d,rfl⟩:∃d',d=d'+1:=⟨d-1,()⟩
 erw[cd ⟨5,6,t21⟩];have h1:=C.ob;walk_at"w"
 exact c.h () C hn hl hk
inductive zEw(th:List Str)(wi:Int)(D:Nat):List U->List Int->Prop
 |nil:zEw th wi D [] []
 |cons {p:U} {ps:List U} {pls1 pls2:List Int} (h:Chk p pls1 th wi D) (r:zEw th wi D ps pls2):zEw th wi D (p::ps) (pls1++pls2)
theorem qQ{K:D0}(hd:D<=d):∀{Ps:C3}{pls:C5},zEw th wi D Ps pls->∀{ys:C3}{ps:C5}{S:So},ChS h pq ps S->(ps++pls).Nodup->(ps++pls).length<=300->(∀S',ChS h pq (ps++pls) S'->Pc pq S S'->K (.lst<|ys++Ps) S') ->
  lcK (Gd fw d) (lcB [1] true [none,none,some<|.int wi,some<|.tup<|th.map .str,some<|.ref h] none (cM "Checker" "check_part" 19 J8 (Ju J2 Ja J7) [])<|Gd fw d) Ps ys S K:=by
 intro Ps pls c;induction c with
 |nil=>
  intro ys ps S C hn hl hk;have:=hk S C.nil Pc.refl;rw[xB0] at this;exact this
 |@cons p Ps pls1 pls2 c r ih=>
  intro ys ps S C hn hl hk;have h1:=C.ob;rw[<- xAx] at hn hl;erw[pd (cn (C:="Checker") h1 rfl),<-c.h hd C (xBq.mp hn).1 (by rw[xAb] at hl;lia) λS' C' p'=>?_,<-ih C' hn hl λS2 C2 p2=>?_];rw[xAx] at C2⊢;exact hk S2 C2<|p'.trans p2
def kb(c:zEw th wi D Ps pls)(h4:Ps.length<=4)(hD:4<=D):zCp "parts" (.tup Ps) pls th wi<|D+1:=by
 refine⟨?_⟩;intro fw d h pq ps S x K hd C hn hl hk;obtain⟨d,rfl⟩:∃d',d=d'+3:=⟨d-3,()⟩
 erw[cd ⟨5,6,t21⟩];have h1:=C.ob;walk_at"w"
 erw[zB4 h4];walk_at"w"
 erw[<-bI (c:=Nat.ble Ps.length sizeLine) (λ_=>?_) λz=>absurd (xDk<|show Ps.length<=2^24 by lia) (by rw[show Nat.ble Ps.length (2^24)=false from z];decide),<-qQ () c (ys:=[]) C hn hl λS' C' p'=>?_];walk_at"w"
 exact hk S' C' p'
def zCp.mono{s:Str}{v:U}{D':Nat}(h:zCp s v pls th wi D)(hD:D<=D'):zCp s v pls th wi D':=⟨λa=>h.h<|xCk hD a⟩
structure CP(P:U)(pls:C5)(dep:Nat)(req:C0):Prop where
 h:∀{th:C0}{wi:Int},(∀y∈req,y∈th)->th.length+5*dep<=1000->wi+dep<=20->Chk P pls th wi (2*dep+5)
def CP.mono(h:CP p pls dep req)(hd:dep<=dep'):CP p pls dep' req:=⟨λa b c=>⟨λe=>(h.h a () ()).h ()⟩⟩
def CP.to(h:CP p pls1 dep req)(e:pls1=pls2):CP p pls2 dep req:=e▸h
def okP(pl:Int):Prop:=0<=pl/\pl<=599
def yA(hp:okP pl)(hi:-(10 ^ 12)<i/\i<10 ^ 12):CP (.tup [.str "number",.int pl,.int i]) [pl] 0 []:=⟨λ{th wi} _ ht hw =>
 hU (items:=[("number",.int i)]) (b:=false) (wi':=wi) (D:=4) rfl (by rfl) (by rfl) rfl () ∅ (by show 1<=10;decide) hp () () (.cons (pl:=[]) (iJ (by rfl) ∅) (yF hi) ∅ .nil)⟩
def uT(hp:okP pl)(hy:zAr y=true):CP (.tup [.str "name",.int pl,.str y]) [pl] 0 [y]:=⟨λ{th wi} hr ht hw =>
 hU (items:=[("used",.str y)]) (b:=false) (wi':=wi) (D:=4) rfl (by rfl) (by rfl) rfl () ∅ (by show 1<=10;decide) hp () () (.cons (pl:=[]) (iJ (by rfl) ∅) (nI hy<|xBw _<|hr y<|xAm.mpr rfl) ∅ .nil)⟩
def dU{k:Str}(hp:okP pl)(hI:∀{th:C0}{wi:Int},(∀y∈req,y∈th)->th.length+5 * dep+5<=1000->wi+dep<=20->Its th wi (2 * dep+6) [.str k,.int pl] items pls)(hf:zAv k cy=some (.kt<|items.map λp=>.str p.1):=by rfl)(hw:(!zA7 (.str k) [.str "number",.str "name"])=true:=by rfl)(hkl:k.length<=1000:=by decide)(hil:items.length<=10:=by simp):CP (.tup (.str k::.int pl::items.map (·.2))) (pl::pls) (dep+1) req:=⟨λ{th wi} hr ht hw' =>
 hU (items:=items) (b:=true) (wi':=wi+1) (D:=2*dep+6) rfl hf hw rfl () hkl hil hp () () (hI hr () ())⟩
variable{vs:C3}{nn:C0}{r:B4<|Str×U}
def itp(t:TA vs nn)(h:CP p pls1 dep req)(hr:∀y∈req,y∈th++nn)(hb:th.length+5*dep+5<=1000)(hw:wi+dep<=20)(i:Its th wi (2*dep+6) (vs++[p]) r pls2)(hn:nn.length<=4:=by simp):Its th wi (2*dep+6) vs (("part",p)::r)<|pls1++pls2:=
 .cons t (uX<|h.h hr (by rw[xAb];lia) hw) () i
def its{s:Str}{v:U}(t:TA vs nn){D:Nat}(c:zCp s v [] (th++nn) wi D)(i:Its th wi (2*dep+6) (vs++[v]) r pls2)(hn:nn.length<=4:=by simp)(hD:D<=5:=by decide):Its th wi (2*dep+6) vs ((s,v)::r) pls2:=
 .cons (pl:=[]) t (c.mono ()) () i
def tn{k:Str}{r:C3}(h1:zAv k da=none:=by rfl)(h2:(dB.any λy=>decide<|y=k)=true:=by decide):TA (.str k::r) []:=iJ h1 h2
def up0{th req:C0}(hr:∀y∈req,y∈th):∀y∈req,y∈th++[]:=λy z=>by rw[xB0];exact hr y z
def AQ(hp:okP pl)(hy:zAr y=true)(hr:y∈req):CP (.tup [.str "name",.int pl,.str y]) [pl] 0 req:=⟨λ{th wi} hr' ht hw=>(uT hp hy).h (λz hz=>by rw[xAm.mp hz];exact hr' y hr) ht hw⟩
def CP.any(h:CP p pls dep []):CP p pls dep req:=⟨λ_=>h.h λ_ z=>nomatch z⟩
def uS(hp:okP pl)(h:CP p pls dep req):CP (.tup [.str "tell",.int pl,p]) (pl::pls) (dep+1) req:=
 (dU (items:=[("part",p)]) hp λhr a b=>itp tn h (up0 hr) a b .nil).to ⋯
def uU(hp:okP pl)(hw:zEq w=true)(h:CP p pls1 dep req)(h2:CP q pls2 dep req):CP (.tup [.str "math",.int pl,.str w,p,q]) (pl::(pls1++pls2)) (dep+1) req:=
 (dU (items:=[("op",.str w),("part",p),("part",q)]) hp λhr a b=>its tn (AW hw)<|itp tn h (up0 hr) a b<|itp tn h2 (up0 hr) a b .nil).to ⋯
def rV(hp:okP pl)(hw:zA8 w=true)(h:CP p pls dep req):CP (.tup [.str "raise",.int pl,.str w,p]) (pl::pls) (dep+1) req:=
 (dU (items:=[("word",.str w),("part",p)]) hp λhr a b=>its tn (gx hw)<|itp tn h (up0 hr) a b .nil).to ⋯
def AR{s:U}{pls3:C5}(hp:okP pl)(h:CP p pls1 dep req)(h2:CP q pls2 dep req)(h3:CP s pls3 dep req):CP (.tup [.str "if",.int pl,p,q,s]) (pl::(pls1++(pls2++pls3))) (dep+1) req:=
 (dU (items:=[("part",p),("part",q),("part",s)]) hp λhr a b=>itp tn h (up0 hr) a b<|itp tn h2 (up0 hr) a b<|itp tn h3 (up0 hr) a b .nil).to ⋯
inductive CPs(dep:Nat)(req:List Str):List U->List Int->Prop
 |nil:CPs dep req [] []
 |cons {p:U} {ps:List U} {pls1 pls2:List Int} (h:CP p pls1 dep req) (r:CPs dep req ps pls2):CPs dep req (p::ps) (pls1++pls2)
theorem CPs.chk(c:CPs dep req Ps pls)(hr:∀y∈req,y∈th)(ht:th.length+5*dep<=1000)(hw:wi+dep<=20):zEw th wi (2*dep+5) Ps pls:=by
 induction c with
 |nil=>exact .nil
 |cons h r ih=>exact .cons (h.h hr ht hw) ih
def uV(hp:okP pl)(hw:zA8 t=true)(h:CPs dep req Ps pls)(h4:Ps.length<=4):CP (.tup [.str "make",.int pl,.str t,.tup Ps]) (pl::pls) (dep+1) req:=
 (dU (items:=[("word",.str t),("parts",.tup Ps)]) hp λhr a b=>its tn (gx hw)<|.cons tn (kb (h.chk (up0 hr) (by rw[xB0];lia) b) h4 ()) ∅ .nil).to ⋯
def uW(hp:okP pl)(h:CP p pls1 dep req)(h2:CPs dep req Ps pls2)(h4:Ps.length<=4):CP (.tup [.str "call",.int pl,p,.tup Ps]) (pl::(pls1++pls2)) (dep+1) req:=
 (dU (items:=[("part",p),("parts",.tup Ps)]) hp λhr a b=>itp tn h (up0 hr) a b<|.cons tn (kb (h2.chk (up0 hr) (by rw[xB0];lia) b) h4 ()) ∅ .nil).to ⋯
def yD(hp:okP pl):CP (.tup [.str "ask",.int pl]) [pl] 1 req:=
 dU (items:=[]) (dep:=0) hp λhr a b=>.nil
end
section
variable{th:C0}{wi pl i:Int}{w y t:Str}{p q:U}{pls pls1 pls2 pls3:C5}{dep:Nat}{req xs:C0}
def upa(hr:∀z∈req,z∈th):∀z∈req++xs,z∈th++xs:=λz hz=>(xAj.mp hz).elim (λh=>xBw _<|hr z h)<|xBt _
def AS(hp:okP pl)(hx:Nmz (zAr ·=true) xs)(h:CP q pls dep<|req++xs):CP (.tup [.str "fn",.int pl,.tup<|xs.map .str,q]) (pl::pls) (dep+1) req:=
 (dU (items:=[("names",.tup<|xs.map .str),("part",q)]) hp λhr a b=>its y9 (kc hx)<|itp vY h (upa hr) a b .nil hx.few).to ⋯
def yC(hp:okP pl)(hy:zAr y=true)(h:CP p pls1 dep req)(h2:CP q pls2 dep<|req++[y]):CP (.tup [.str "let",.int pl,.str y,p,q]) (pl::(pls1++pls2)) (dep+1) req:=
 (dU (items:=[("name",.str y),("part",p),("part",q)]) hp λhr a b=>its vX (nJ hy)<|itp sO h (up0 hr) a b<|itp sM h2 (upa hr) a b .nil).to ⋯
def yz(hp:okP pl)(hy:zAr y=true)(hr':y∈req)(h:CP p pls dep req):CP (.tup [.str "set",.int pl,.str y,p]) (pl::pls) (dep+1) req:=
 (dU (items:=[("used",.str y),("part",p)]) hp λhr a b=>its tn (nI hy<|up0 hr y hr')<|itp tn h (up0 hr) a b .nil).to ⋯
def AU(hp:okP pl)(h:CP p pls1 dep req)(h2:CP q pls2 dep req):CP (.tup [.str "do",.int pl,p,q]) (pl::(pls1++pls2)) (dep+1) req:=
 (dU (items:=[("part",p),("part",q)]) hp λhr a b=>itp tn h (up0 hr) a b<|itp tn h2 (up0 hr) a b .nil).to ⋯
def yB{s:U}(hp:okP pl)(hw:zA8 w=true)(hx:Nmz (zAr ·=true) xs)(h:CP p pls1 dep req)(h2:CP q pls2 dep<|req++xs)(h3:CP s pls3 dep req):CP (.tup [.str "match",.int pl,p,.str w,.tup<|xs.map .str,q,s]) (pl::(pls1++(pls2++pls3))) (dep+1) req:=
 (dU (items:=[("part",p),("word",.str w),("names",.tup<|xs.map .str),("part",q),("part",s)]) hp λhr a b=>itp y8 h (up0 hr) a b<|its y7 (gx hw)<|its y6 (kc hx)<|itp y4 h2 (upa hr) a b (itp y3 h3 (up0 hr) a b .nil) hx.few).to ⋯
def AN(hp:okP pl)(hw:zA8 w=true)(hy:zAr y=true)(h:CP p pls1 dep req)(h2:CP q pls2 dep<|req++[y]):CP (.tup [.str "try",.int pl,p,.str w,.str y,q]) (pl::(pls1++pls2)) (dep+1) req:=
 (dU (items:=[("part",p),("word",.str w),("name",.str y),("part",q)]) hp λhr a b=>itp vW h (up0 hr) a b<|its sL (gx hw)<|its sK (nJ hy)<|itp sJ h2 (upa hr) a b .nil).to ⋯
def iH:∀w∈wds,zA8 w=true:=by decide +kernel
def w5:∀w∈ops,zEq w=true:=by decide +kernel
theorem lC{sc:C0}:∀{as:B4 Pg},(∀a∈as,(∀p∈a.pls,okP p)->CP a.u a.pls dep sc)->(∀p∈Pg.plss as,okP p)->CPs dep sc (Pg.us as) (Pg.plss as)
 |[],_,_=>.nil
 |a::r,h,hp=>.cons (h a (xAr ..) λp hz=>hp p<|xBw _ hz)<|lC (λb hb=>h b<|xAs _ hb) λp hz=>hp p<|xBt _ hz
theorem fK:∀{as:B4 Pg},(Pg.us as).length=as.length
 |[]=>rfl
 |_::r=>congrArg (·+1)<|fK (as:=r)
theorem yT{sc:C0}{P:Pg}(h:Wf (zAr ·=true) sc d P):(∀y∈sc,zAr y=true)->(∀p∈P.pls,okP p)->CP P.u P.pls d sc:=by
 have l1:∀{x y:Int}{r s:C5},(∀p∈x::(r++s),okP p)->okP x/\(∀p∈r,okP p)/\∀p∈s,okP p:=λh=>⟨h _<|xAr ..,λp z=>h p<|xAs _<|xBw _ z,λp z=>h p<|xAs _<|xBt _ z⟩
 have ha:∀{sc xs:C0},(∀y∈sc,zAr y=true)->(∀y∈xs,zAr y=true)->∀y∈sc++xs,zAr y=true:=λa b y z=>(xAj.mp z).elim (a y)<|b y;have h1:∀{y:Str},zAr y=true->∀z∈[y],zAr z=true:=λe z hz=>by rw[xAm.mp hz];exact e
 have l0:∀{x:Int}{r:C5},(∀p∈x::r,okP p)->okP x/\∀p∈r,okP p:=λh=>⟨h _<|xAr ..,λp z=>h p<|xAs _ z⟩
 have l2:∀{r s:C5},(∀p∈r++s,okP p)->(∀p∈r,okP p)/\∀p∈s,okP p:=λh=>⟨λp z=>h p<|xBw _ z,λp z=>h p<|xBt _ z⟩
 induction h with
 |num a b=>intro _ hp;exact((yA (l0 hp).1 ⟨a,b⟩).any).mono<|xBn _
 |nam h=>intro hs hp;exact(AQ (l0 hp).1 (hs _ h) h).mono<|xBn _
 |fn h hb ib=>intro hs hp;exact AS (l0 hp).1 h<|ib (ha hs h.ok) (l0 hp).2
 |call hf h h4 i1 i2=>intro hs hp;exact uW (l0 hp).1 (i1 hs (l2 (l0 hp).2).1) (lC (λa z=>i2 a z hs) (l2 (l0 hp).2).2) (by rw[fK];exact h4)
 |lt hx ha' hb i1 i2=>intro hs hp;exact yC (l0 hp).1 hx (i1 hs (l2 (l0 hp).2).1)<|i2 (ha hs<|h1 hx) (l2 (l0 hp).2).2
 |st hx ha' i1=>intro hs hp;exact yz (l0 hp).1 (hs _ hx) hx<|i1 hs (l0 hp).2
 |dd ha' hb i1 i2=>intro hs hp;exact AU (l0 hp).1 (i1 hs (l2 (l0 hp).2).1)<|i2 hs (l2 (l0 hp).2).2
 |iff ha' hb hc i1 i2 i3=>intro hs hp;exact AR (l0 hp).1 (i1 hs (l2 (l0 hp).2).1) (i2 hs (l2 (l2 (l0 hp).2).2).1)<|i3 hs (l2 (l2 (l0 hp).2).2).2
 |math ho ha' hb i1 i2=>intro hs hp;exact uU (l0 hp).1 (w5 _ ho) (i1 hs (l2 (l0 hp).2).1)<|i2 hs (l2 (l0 hp).2).2
 |make ht h h4 i2=>intro hs hp;exact uV (l0 hp).1 (iH _ ht) (lC (λa z=>i2 a z hs) (l0 hp).2) (by rw[fK];exact h4)
 |mat ht hx ha' hb hc i1 i2 i3=>intro hs hp;exact yB (l0 hp).1 (iH _ ht) hx (i1 hs (l2 (l0 hp).2).1) (i2 (ha hs hx.ok) (l2 (l2 (l0 hp).2).2).1)<|i3 hs (l2 (l2 (l0 hp).2).2).2
 |rai hw ha' i1=>intro hs hp;exact rV (l0 hp).1 (iH _ hw)<|i1 hs (l0 hp).2
 |try_ hw hx ha' hb i1 i2=>intro hs hp;exact AN (l0 hp).1 (iH _ hw) hx (i1 hs (l2 (l0 hp).2).1)<|i2 (ha hs<|h1 hx) (l2 (l0 hp).2).2
 |tell ha' i1=>intro hs hp;exact uS (l0 hp).1<|i1 hs (l0 hp).2
 |ask=>intro hs hp;exact(yD (l0 hp).1).mono ()
def checked{P:Pg}(ok:zGa P){x:D3}{K:D0}(hk:∀S',Kp S S'->K P.u S'):(Gd fw<|d+60).call 25 [P.u] S x K:=by
 have c:=yT ok.wf (λ_ z=>nomatch z) ok.rg;erw[cd ⟨1,1,t25⟩,pd (v:=.ref S.length) (S':=S++[.ins "Checker" []]) (by rfl),cd ⟨1,1,t18⟩,pd tI,pd (pQ 0 rfl (by rfl) rfl)];have C:ChS S.length (S.length+1) []<|S++[.ins "Checker" [("places",.ref<|S.length+1)],.dct []]:=⟨zDm (k:=0),zDm⟩
 have h1:=C.ob;erw[pd (cn (C:="Checker") h1 rfl),<-(c.h (th:=[]) (wi:=0) (λ_ z=>nomatch z) ⋯ ()).h () C (by simpa using ok.nd) (by simpa using ok.le) λS' C' p'=>?_];exact hk S' ⟨by have:=p'.len;rw[xAb] at this;lia,λ{q o} z=>p'.ky (by have:=zA6 z;lia)<|zAg z⟩
end
section
variable{κ:Type} [DecidableEq κ] {k k':κ} {v:U}
def k6:∀{kvs:B4<|κ×U},zAq k (putK k v kvs)=some v:=by
 intro kvs;unfold Fx.putK;split
 .next h=>
  induction kvs with
  |nil=>cases h
  |cons a r ih=>
   let⟨g,u⟩:=a;by_cases hg:g=k
   .subst hg;simp[zAq]
   .have:(r.any λkv=>decide<|kv.1=k)=true:=by simpa [hg] using h
    simpa [zAq,hg] using ih this
 .next h=>
  induction kvs with
  |nil=>simp[zAq]
  |cons a r ih=>
   let⟨g,u⟩:=a;have hg:g≠k:=λe=>h (by simp[e]);have:¬ (r.any λkv=>decide<|kv.1=k)=true:=λe=>h (by simp only[List.any_cons,Bool.or_eq_true];exact .inr e);simpa [zAq,hg] using ih this
def vC(hk:k'≠k):∀{kvs:B4<|κ×U},zAq k' (putK k v kvs)=zAq k' kvs:=by
 intro kvs;unfold Fx.putK;split
 .next h=>
  clear h;induction kvs with
  |nil=>rfl
  |cons a r ih=>
   let⟨g,u⟩:=a;by_cases hg:g=k
   .subst hg;simp only[xBs,if_true,zAq,xCf<|Ne.symm hk];exact ih
   .simp only[xBs,xCf hg,zAq];rw[ih]
 .next h=>
  clear h;induction kvs with
  |nil=>simp[zAq,Ne.symm hk]
  |cons a r ih=>
   let⟨g,u⟩:=a;simp only[List.cons_append,zAq];rw[ih]
def iV{kvs:B4<|κ×U}:(putK k v kvs).length<=kvs.length+1:=by
 unfold Fx.putK;split
 .rw[xAa];lia
 .rw[xAb,xAt];lia
end
def pus(kvs:B4<|Key×U):B4 (Str×U)->B4 (Key×U)
 |[]=>kvs
 |b::r=>pus (putK (.inr b.1) b.2 kvs) r
theorem fA:∀{bs:B4<|Str×U}{kvs:B4<|Key×U},(pus kvs bs).length<=kvs.length+bs.length
 |[],_=>xAg _
 |b::r,kvs=>by
  have:=fA (bs:=r) (kvs:=putK (.inr b.1) b.2 kvs);have:=iV (k:=(Sum.inr b.1:Key)) (v:=b.2) (kvs:=kvs);show(pus (putK (.inr b.1) b.2 kvs) r).length<=_;rw[xAo];lia
theorem gD{y:Str}:∀{bs:B4<|Str×U}{kvs:B4<|Key×U},y∉bs.map (·.1)->zAq (.inr y) (pus kvs bs)=zAq (.inr y) kvs
 |[],_,_=>rfl
 |b::r,kvs,h=>by
  rw[xBs,xAv,not_or] at h;show zAq (.inr y) (pus (putK (.inr b.1) b.2 kvs) r)=_;rw[gD h.2,vC λe=>h.1<|by injection e]
theorem iT{y:Str}{u:U}:∀{bs:B4<|Str×U}{kvs:B4<|Key×U},(bs.map (·.1)).Nodup->(y,u)∈bs->zAq (.inr y) (pus kvs bs)=some u
 |b::r,kvs,hn,h=>by
  rw[xBs,xCb] at hn;show zAq (.inr y) (pus (putK (.inr b.1) b.2 kvs) r)=_;rcases xAv.mp h with rfl|h
  .rw[gD hn.1,k6]
  .exact iT hn.2 h
section
variable{fw d:Nat}{S:So}{x:D3}{K:D0}
structure TT(vs:C3)(i:Nat)(nn:C0):Prop where
 h:∀{fw d:Nat}{S:So}{x:D3}{K:D0},K (.tup (nn.map .str)) S->(Gd fw (d+1)).call 11 [.tup vs,.int i] S x K
def cD{k:Str}{r:C3}{i:Nat}(h1:zAv k da=none:=by rfl)(h2:(dB.any λy=>decide<|y=k)=true:=by decide):TT (.str k::r) i []:=⟨λ{fw d S x K} hk=>by
 erw[cd ⟨2,5,t11⟩,pd cb,<-pd (v:=.tup [.non,.non]) (S':=S) ?_ ?_]
 .delta pr;dsimp only[gS];rw[h1,h2]
 refine pv (.tup [.non,.non]) ?_;refine pv (.bl true) ?_;exact bT hk⟩
def jA{k:Str}{r:C3}{i:Nat}(h1:zAv k da=some (.kt [.int na,.int sa]))(hi:i≠sa):TT (.str k::r) i []:=⟨λ{fw d S x K} hk=>by
 erw[cd ⟨2,5,t11⟩,pd cb,<-pd (v:=.kt [.int na,.int sa]) (S':=S) ?_ ?_]
 .delta pr;dsimp only[gS];rw[h1]
 refine pv (.tup [.int na,.int sa]) ?_;refine pd (v:=.bl true) (S':=S) (by show Res.ok (.bl (!(decide<|(i:Int)=sa))) S=_;rw[xCn ()];rfl) ?_;exact bT hk⟩
def o6{k:Str}{r:C3}{nn:C0}(h1:zAv k da=some (.kt [.int na,.int sa]))(h2:(.str k::r:C3)[na]?=some (.tup<|nn.map .str)):TT (.str k::r) sa nn:=⟨λ{fw d S x K} hk=>by
 erw[cd ⟨2,5,t11⟩,pd cb,<-pd (v:=.kt [.int na,.int sa]) (S':=S) ?_ ?_]
 .delta pr;dsimp only[gS];rw[h1]
 refine pv (.tup [.int na,.int sa]) ?_;refine pd (v:=.bl false) (S':=S) (by show Res.ok (.bl (!(decide<|(sa:Int)=sa))) S=_;rw[xBd rfl];rfl) ?_;refine bF ?_;refine pd (cm h2) ?_;refine pv (.bl true) ?_;exact bT hk⟩
def o7{k:Str}{r:C3}(h1:zAv k da=some (.kt [.int na,.int sa]))(h2:(.str k::r:C3)[na]?=some (.str y)):TT (.str k::r) sa [y]:=⟨λ{fw d S x K} hk=>by
 erw[cd ⟨2,5,t11⟩,pd cb,<-pd (v:=.kt [.int na,.int sa]) (S':=S) ?_ ?_]
 .delta pr;dsimp only[gS];rw[h1]
 refine pv (.tup [.int na,.int sa]) ?_;refine pd (v:=.bl false) (S':=S) (by show Res.ok (.bl (!(decide<|(sa:Int)=sa))) S=_;rw[xBd rfl];rfl) ?_;refine bF ?_;refine pd (cm h2) ?_;refine pv (.bl false) ?_;exact bF hk⟩
def nz{k:Str}{v:U}(h:zAv k cy=some v)(hk:K v S):(Gd fw<|d+1).call 10 [.str k] S x K:=by
 erw[cd ⟨1,1,t10⟩,pv (.bl true),bT,pd (v:=v) (S':=S) (by show opt (zAv k cy) S=_;rw[h];rfl),<-hk]
end
abbrev Fd:=B4<|B4 Key×U
structure FSc(u:U)(kvs:B4 (Key×U))(f f':Fd)(lv:Nat):Prop where
 h:∀{fw d g q:Nat}{S:So}{x:D3}{K:D0},at? S g=some (.dct kvs)->at? S q=some (.dtt f)->(∀S',at? S' q=some (.dtt f')->Pc q S S'->K .non S')->(Gd fw (d+lv)).call 27 [u,.ref g,.ref q] S x K
inductive zEu(kvs:List (Key×U))(lv:Nat):List U->Fd->Fd->Prop
 |nil {f:Fd}:zEu kvs lv [] f f
 |cons {u:U} {r:List U} {f f1 f2:Fd} (h:FSc u kvs f f1 lv) (t:zEu kvs lv r f1 f2):zEu kvs lv (u::r) f f2
def zBz(nn:C0)(pl:Int):B4<|Str×U:=nn.map λy=>(y,.int pl)
inductive FIt(vs:List U)(pl:Int)(kvs:List (Key×U))(lv:Nat):Nat->List Str->Fd->Fd->Prop
 |nil {i:Nat} {f:Fd}:FIt vs pl kvs lv i [] f f
 |skip {i:Nat} {s:Str} {ss:List Str} {f f':Fd} (t:TT vs i []) (r:FIt vs pl kvs lv (i+1) ss f f') (h1:s≠"part":=by decide) (h2:s≠"parts":=by decide):FIt vs pl kvs lv i (s::ss) f f'
 |part {i:Nat} {ss nn:List Str} {u:U} {f f1 f':Fd} (v:vs[i]?=some u) (t:TT vs i nn) (hn:nn.length<=4) (c:FSc u (pus kvs (zBz nn pl)) f f1 lv) (r:FIt vs pl kvs lv (i+1) ss f1 f'):FIt vs pl kvs lv i ("part"::ss) f f'
 |parts {i:Nat} {ss:List Str} {us:List U} {f f1 f':Fd} (v:vs[i]?=some (.tup us)) (t:TT vs i []) (c:zEu kvs lv us f f1) (r:FIt vs pl kvs lv (i+1) ss f1 f'):FIt vs pl kvs lv i ("parts"::ss) f f'
section
variable{fw d g q n lv:Nat}{vs:C3}{pl:Int}{kvs:B4<|Key×U}{E:Ee Prop}{kk:Sg->So->Prop}
theorem lN(hv:vs[1]?=some (.int pl)):∀{nn:C0}{kvs:B4<|Key×U}{S:So}{a1 a2 a3 a4 a6 a7:B5 U},kvs.length+nn.length<=1000->at? S n=some (.dct kvs)->(∀S' a6,at? S' n=some (.dct<|pus kvs<|zBz nn pl)->Pc n S S'->kk [some<|.tup vs,a1,a2,a3,a4,some<|.ref n,a6,a7] S')->zAw (nn.map U.str) (λw σ1 S2 nx=>tgt [6] true (Gd fw d) w σ1 λσ2=>bdT (Gd fw d) σ2 S2<|lpE E nx) [some<|.tup vs,a1,a2,a3,a4,some<|.ref n,a6,a7] S kk
 |[],kvs,S,a1,a2,a3,a4,a6,a7,_,h,hk=>hk S a6 h Pc.refl
 |y::nn,kvs,S,a1,a2,a3,a4,a6,a7,hl,h,hk=>by
  rw[xAo] at hl;have:=iV (k:=(Sum.inr y:Key)) (v:=.int pl) (kvs:=kvs);rw[xBs,zAw];erw[pd (cm hv),pd (gj h<|by show _<=2^24;lia),<-lN hv (nn:=nn) (kvs:=putK (.inr y) (.int pl) kvs) () (zAc h) λS' a6 h' p'=>?_];exact hk S' a6 h' ⟨by have:=p'.len;rw[zAe] at this;exact this,λn1 z=>p'.ky n1<|atN (Ne.symm n1) z⟩
theorem qq:∀{us:C3}{f f':Fd},zEu kvs lv us f f'->∀{S:So}{a7:B5 U},at? S n=some (.dct kvs)->at? S q=some (.dtt f)->(∀S' a7,at? S' q=some (.dtt f')->Pc q S S'->kk [a0,a1,some<|.ref q,a3,a4,some<|.ref n,a6,a7] S')->zAw us (λw σ1 S2 nx=>tgt [7] true (Gd fw<|d+lv) w σ1 λσ2=>bdP (Gd fw<|d+lv) σ2 S2<|lpE E nx) [a0,a1,some<|.ref q,a3,a4,some<|.ref n,a6,a7] S kk:=by
 intro us f f' c;induction c with
 |nil=>intro S a7 h1 h2 hk;exact hk S a7 h2 Pc.refl
 |cons c t ih=>
  intro S a7 h1 h2 hk;rw[zAw];have ne:n≠q:=λe=>by rw[e,h2] at h1;cases h1
  refine c.h h1 h2 λS1 g1 p1=>?_;exact ih (p1.ky ne h1) g1 λS2 a7 g2 p2=>hk S2 a7 g2<|p1.trans p2
theorem rA{ss:C0}{i:Nat}{f:Fd}(hv:vs[1]?=some (.int pl))(hk:kvs.length<=900)(I:FIt vs pl kvs (lv+1) i ss f f'):∀{S:So}{a3 a4 a5 a6 a7:B5 U},at? S g=some (.dct kvs)->at? S q=some (.dtt f)->(∀S' a3 a4 a5 a6 a7,at? S' q=some (.dtt f')->Pc q S S'->kk [some<|.tup vs,some<|.ref g,some<|.ref q,a3,a4,a5,a6,a7] S')->zAw (zCs (i:Int)<|ss.map U.str) (λw σ1 S2 nx=>tgt [3,4] false (Gd fw<|d+(lv+1)) w σ1 λσ2=>zKa (Gd fw<|d+(lv+1)) σ2 S2<|lpE E nx) [some<|.tup vs,some<|.ref g,some<|.ref q,a3,a4,a5,a6,a7] S kk:=by
 induction I with
 |nil=>intro S a3 a4 a5 a6 a7 h1 h2 h;exact h S a3 a4 a5 a6 a7 h2 Pc.refl
 |@skip i s ss f f' t r e1 e2 ih=>
  intro S a3 a4 a5 a6 a7 h1 h2 h;rw[xBs,zCs,zAw];have ne:g≠q:=λe=>by rw[e,h2] at h1;cases h1
  erw[pd (ef h1),t.h (d:=d+lv),pv (.tup []),pd (cx e1),bF,pd (cx e2),bF,<-ih (zAg h1) (zAg h2) λS' a3 a4 a5 a6 a7 h' p'=>?_,<-h S' a3 a4 a5 a6 a7 h'<|Pc.app.trans p']
 |@part i ss nn u f f1 f' v t hn c r ih=>
  intro S a3 a4 a5 a6 a7 h1 h2 h;rw[xBs,zCs,zAw];have ne:g≠q:=λe=>by rw[e,h2] at h1;cases h1
  have lq:=zA6 h2;erw[pd (ef h1),t.h (d:=d+lv),pv (.tup<|nn.map .str),<-lN hv () (zAu (l:=S)) λS1 a6 n1 p1=>?_,pd (cQ rfl),bT,pd (cm v),<-c.h n1 (p1.ky ()<|zAg h2) λS2 q2 p2=>?_];have lg:=zA6 h1;erw[<-ih (p2.ky ne<|p1.ky ()<|zAg h1) q2 λS' a3 a4 a5 a6 a7 h' p'=>?_,<-h S' a3 a4 a5 a6 a7 h' ⟨?_,λnq z=>p'.ky nq<|p2.ky nq<|p1.ky (by have:=zA6 z;lia)<|zAg z⟩];have:=p1.len;rw[xAb] at this;have:=p2.len;have:=p'.len;lia
 |@parts i ss us f f1 f' v t c r ih=>
  intro S a3 a4 a5 a6 a7 h1 h2 h;rw[xBs,zCs,zAw];have ne:g≠q:=λe=>by rw[e,h2] at h1;cases h1
  erw[pd (ef h1),t.h (d:=d+lv),pv (.tup []),pd (cx ∅),bF,pd (cQ rfl),bT,pd (cm v),pv (.tup us),<-qq c (zAu (l:=S)) (zAg h2) λS2 a7 q2 p2=>?_,<-ih (p2.ky ne<|zAg h1) q2 λS' a3 a4 a5 a6 a7 h' p'=>?_,<-h S' a3 a4 a5 a6 a7 h'<|(Pc.app.trans p2).trans p']
def dC{k:Str}{ss:C0}{r:C3}{f:Fd}(I:FIt (.str k::.int pl::r) pl kvs (lv+1) 2 ss f f')(hk:kvs.length<=900)(hf:zAv k cy=some (.kt<|ss.map .str):=by rfl)(hs:k≠"set":=by decide):FSc (.tup<|.str k::.int pl::r) kvs f f'<|lv+2:=⟨λ{fw d g q S x K} h1 h2 h=>by
 refine cd (d:=d+(lv+1)) ⟨3,8,t27⟩ ?_;refine pd cb ?_;refine pd (cx hs) ?_;refine bF ?_;refine pd cb ?_;refine nz (d:=d+lv) hf ?_;refine pv (.tup<|zCs 2<|ss.map .str) ?_;refine rA (vs:=.str k::.int pl::r) rfl hk I h1 h2 λS' a3 a4 a5 a6 a7 h' p'=>?_;exact h S' h' p'⟩
def xZ{u:U}{b:Int}{f:Fd}(hb:zAq (.inr y) kvs=some (.int b))(c:FSc u kvs (putK [.inl b,.inr y] (.bl true) f) f'<|lv+1)(hk:kvs.length<=900)(hf:f.length<=1000):FSc (.tup [.str "set",.int pl,.str y,u]) kvs f f'<|lv+2:=⟨λ{fw d g q S x K} h1 h2 h=>by
 have ne:g≠q:=λe=>by rw[e,h2] at h1;cases h1
 erw[cd (d:=d+(lv+1)) ⟨3,8,t27⟩,pd cb,pd (cQ rfl),bT,pd (cm (j:=2) rfl),pd (cN h1 hb),pd (cm (j:=2) rfl),<-pd (v:=.non) (S':=set S q<|.dtt<|putK [.inl b,.inr y] (.bl true) f) ?_ ?_]
 .show zBg q (.tup [.int b,.str y]) (.bl true) S=_;unfold zBg;rw[h2];exact zA3 (by show _<=2^24;lia)
 refine pd cb ?_;refine nz (v:=.kt [.str "used",.str "part"]) (d:=d+lv) rfl ?_;refine pv (.tup<|zCs 2 [.str "used",.str "part"]) ?_;refine rA (ss:=["used","part"]) (i:=2) (vs:=[.str "set",.int pl,.str y,u]) (pl:=pl) rfl hk (.skip cD<|.part (nn:=[]) rfl cD ∅ c .nil) (atN (Ne.symm ne) h1) (zAc h2) λS' a3 a4 a5 a6 a7 h' p'=>?_;exact h S' h' ⟨by have:=p'.len;rw[zAe] at this;exact this,λn1 z=>p'.ky n1<|atN (Ne.symm n1) z⟩⟩
end
def up(β:Str->Int)(xs:C0)(pl:Int):Str->Int:=λy=>if y∈xs then pl else β y
mutual
def Pg.sts:Pg->(Str->Int)->B4 (Int×Str)
 |.num _ _,_=>[]
 |.nam _ _,_=>[]
 |.fn pl xs b,β=>b.sts<|up β xs pl
 |.call _ f as,β=>f.sts β++Pg.stss as β
 |.lt pl x a b,β=>a.sts β++b.sts (up β [x] pl)
 |.st _ x a,β=>(β x,x)::a.sts β
 |.dd _ a b,β=>a.sts β++b.sts β
 |.iff _ a b c,β=>a.sts β++(b.sts β++c.sts β)
 |.math _ _ a b,β=>a.sts β++b.sts β
 |.make _ _ as,β=>Pg.stss as β
 |.mat pl a _ xs b c,β=>a.sts β++(b.sts (up β xs pl)++c.sts β)
 |.rai _ _ a,β=>a.sts β
 |.try_ pl a _ x b,β=>a.sts β++b.sts (up β [x] pl)
 |.tell _ a,β=>a.sts β
 |.ask _,_=>[]
def Pg.stss:B4 Pg->(Str->Int)->B4 (Int×Str)
 |[],_=>[]
 |a::r,β=>a.sts β++Pg.stss r β
end
def Sf(β:Str->Int)(sc:C0)(kvs:B4<|Key×U):Prop:=∀y∈sc,zAq (.inr y) kvs=some (.int<|β y)
def jB{pl:Int}{xs:C0}:(zBz xs pl).map (·.1)=xs:=by
 unfold zBz;rw[List.map_map];exact List.map_id' xs
theorem Sf.up{β:Str->Int}{sc xs:C0}{kvs:B4<|Key×U}{pl:Int}(h:Sf β sc kvs)(hn:xs.Nodup):Sf (up β xs pl) (sc++xs)<|pus kvs<|zBz xs pl:=λy hy=>by
 unfold K32.up;by_cases hx:y∈xs
 .rw[xCg hx,iT (bs:=zBz xs pl) (u:=.int pl) (by rw[jB];exact hn)<|xA2.mpr ⟨y,hx,rfl⟩]
 .rw[xCf hx,gD<|by rw[jB];exact hx];exact h y<|(xAj.mp hy).resolve_right hx
structure FR(l:B4 (Int×Str))(n:Nat)(f f':Fd):Prop where
 mo:∀k,(zAq k f).isSome=true->(zAq k f').isSome=true
 ins:∀b∈l,(zAq [.inl b.1,.inr b.2] f').isSome=true
 len:f'.length<=f.length+n
 ls:f'.length<=f.length+l.length
def FR.nil{n:Nat}{f:Fd}:FR [] n f f:=⟨λ_ z=>z,λ_ z=>(nomatch z),(),xAg _⟩
def FR.app{l l':B4<|Int×Str}{n:Nat}{f f2:Fd}(a:FR l n f f1)(b:FR l' n' f1 f2):FR (l++l') (n+n') f f2:=
 ⟨λk z=>b.mo k<|a.mo k z,λp z=>(xAj.mp z).elim (λh=>b.mo _<|a.ins p h)<|b.ins p,by have:=a.len;have:=b.len;lia,by rw[xAb];have:=a.ls;have:=b.ls;lia⟩
def FR.up{l:B4<|Int×Str}{n:Nat}{f:Fd}(a:FR l n f f1)(h:n<=n'):FR l n' f f1:=⟨a.mo,a.ins,by have:=a.len;lia,a.ls⟩
def FP(sc:C0)(d:Nat)(P:Pg):Prop:=∀{β:Str->Int}{kvs:B4<|Key×U},Sf β sc kvs->kvs.length+5*d<=800->∀f:Fd,f.length+P.pls.length<=900->∃f',FR (P.sts β) P.pls.length f f'/\FSc P.u kvs f f' (d+2)
theorem lj{sc:C0}{d:Nat}{β:Str->Int}{kvs:B4<|Key×U}(hs:Sf β sc kvs)(hk:kvs.length+5*d<=800):∀{as:B4 Pg},(∀a∈as,FP sc d a)->∀f:Fd,f.length+(Pg.plss as).length<=900->∃f',FR (Pg.stss as β) (Pg.plss as).length f f'/\zEu kvs (d+2) (Pg.us as) f f'
 |[],_,f,_=>⟨f,.nil,.nil⟩
 |a::r,h,f,hf=>by
  have e:(Pg.plss<|a::r).length=a.pls.length+(Pg.plss r).length:=xAb;let⟨f1,r1,c1⟩:=h a (xAr ..) hs hk f ();have:=r1.len;let⟨f2,r2,c2⟩:=lj hs hk (λb hb=>h b<|xAs _ hb) f1 ();exact⟨f2,by rw[e];exact r1.app r2,.cons c1 c2⟩
def nT{xs:C0}{pl:Int}:(zBz xs pl).length=xs.length:=xAa ..
def iR{xs:C0}{pl:Int}{kvs:B4<|Key×U}(h:kvs.length+5*(d+1)<=800)(h4:xs.length<=4):(pus kvs<|zBz xs pl).length+5*d<=800:=by
 have:=fA (bs:=zBz xs pl) (kvs:=kvs);rw[nT] at this;lia
theorem x8{sc:C0}{P:Pg}(h:Wf N sc d P):FP sc d P:=by
 induction h with
 |@num sc d pl n h1 h2=>intro β kvs hs hk f hf;exact⟨f,.nil,dC (ss:=["number"]) (lv:=d) (.skip cD .nil) ()⟩
 |@nam sc d pl x h=>intro β kvs hs hk f hf;exact⟨f,.nil,dC (ss:=["used"]) (lv:=d) (.skip cD .nil) ()⟩
 |@fn sc xs d pl b h hb ib=>
  intro β kvs hs hk f hf;have hf:f.length+(b.pls.length+1)<=900:=hf;let⟨f',r,c⟩:=ib (hs.up (pl:=pl) h.nd) (iR hk h.few) f ();exact⟨f',r.up (by show _<=b.pls.length+1;lia),dC (ss:=["names","part"]) (lv:=d+1) (.skip (jA (na:=2) (sa:=3) rfl ∅)<|.part (nn:=xs) rfl (o6 (na:=2) rfl rfl) h.few c .nil) ()⟩
 |@call sc d pl u as hf' h h4 i1 i2=>
  intro β kvs hs hk f hf;have e:(Pg.call pl u as).pls.length=u.pls.length+(Pg.plss as).length+1:=by show(u.pls++Pg.plss as).length+1=_;rw[xAb]
  let⟨f1,r1,c1⟩:=i1 hs () f ();have:=r1.len;let⟨f2,r2,c2⟩:=lj (d:=d) hs () i2 f1 ();exact⟨f2,(r1.app r2).up (),dC (ss:=["part","parts"]) (lv:=d+1) (.part (nn:=[]) rfl cD ∅ c1<|.parts rfl cD c2 .nil) ()⟩
 |@lt sc d pl x a b hx ha hb i1 i2=>
  intro β kvs hs hk f hf;have e:(Pg.lt pl x a b).pls.length=a.pls.length+b.pls.length+1:=by show(a.pls++b.pls).length+1=_;rw[xAb]
  let⟨f1,r1,c1⟩:=i1 hs () f ();have:=r1.len;let⟨f2,r2,c2⟩:=i2 (hs.up (xs:=[x]) (pl:=pl) ⋯) (iR hk ⋯) f1 ();exact⟨f2,(r1.app r2).up (),dC (ss:=["name","part","part"]) (lv:=d+1) (.skip (jA (na:=2) (sa:=4) rfl ∅)<|.part (nn:=[]) rfl (jA (na:=2) (sa:=4) rfl ∅) ∅ c1<|.part (nn:=[x]) rfl (o7 (na:=2) rfl rfl) ⋯ c2 .nil) ()⟩
 |@st sc d pl x a hx ha i1=>
  intro β kvs hs hk f hf;have hf:f.length+(a.pls.length+1)<=900:=hf;have pk:=iV (k:=([.inl<|β x,.inr x]:B4 Key)) (v:=.bl true) (kvs:=f);let⟨f1,r1,c1⟩:=i1 hs () (putK [.inl<|β x,.inr x] (.bl true) f) ();have ml:∀k,(zAq k f).isSome=true->(zAq k<|putK [.inl<|β x,.inr x] (.bl true) f).isSome=true:=λk hk'=>by
   by_cases hkk:k=[.inl<|β x,.inr x]
   .rw[hkk,k6];rfl
   .rw[vC hkk];exact hk'
  refine⟨f1,⟨λk z=>r1.mo k<|ml k z,λb hb=>?_,by have:=r1.len;show _<=f.length+(a.pls.length+1);lia,by have:=r1.ls;show _<=f.length+((a.sts β).length+1);lia⟩,xZ (hs x hx) c1 () ()⟩;rcases xAv.mp hb with rfl|hb
  .exact r1.mo _ (by rw[k6];rfl)
  .exact r1.ins b hb
 |@dd sc d pl a b ha hb i1 i2=>
  intro β kvs hs hk f hf;have e:(Pg.dd pl a b).pls.length=a.pls.length+b.pls.length+1:=by show(a.pls++b.pls).length+1=_;rw[xAb]
  let⟨f1,r1,c1⟩:=i1 hs () f ();have:=r1.len;let⟨f2,r2,c2⟩:=i2 hs () f1 ();exact⟨f2,(r1.app r2).up (),dC (ss:=["part","part"]) (lv:=d+1) (.part (nn:=[]) rfl cD ∅ c1<|.part (nn:=[]) rfl cD ∅ c2 .nil) ()⟩
 |@iff sc d pl a b c ha hb hc i1 i2 i3=>
  intro β kvs hs hk f hf;have e:(Pg.iff pl a b c).pls.length=a.pls.length+(b.pls.length+c.pls.length)+1:=by show(a.pls++(b.pls++c.pls)).length+1=_;rw[xAb,xAb]
  let⟨f1,r1,c1⟩:=i1 hs () f ();have:=r1.len;let⟨f2,r2,c2⟩:=i2 hs () f1 ();have:=r2.len;let⟨f3,r3,c3⟩:=i3 hs () f2 ();exact⟨f3,(r1.app<|r2.app r3).up (),dC (ss:=["part","part","part"]) (lv:=d+1) (.part (nn:=[]) rfl cD ∅ c1<|.part (nn:=[]) rfl cD ∅ c2<|.part (nn:=[]) rfl cD ∅ c3 .nil) ()⟩
 |@math sc d pl o a b ho ha hb i1 i2=>
  intro β kvs hs hk f hf;have e:(Pg.math pl o a b).pls.length=a.pls.length+b.pls.length+1:=by show(a.pls++b.pls).length+1=_;rw[xAb]
  let⟨f1,r1,c1⟩:=i1 hs () f ();have:=r1.len;let⟨f2,r2,c2⟩:=i2 hs () f1 ();exact⟨f2,(r1.app r2).up (),dC (ss:=["op","part","part"]) (lv:=d+1) (.skip cD<|.part (nn:=[]) rfl cD ∅ c1<|.part (nn:=[]) rfl cD ∅ c2 .nil) ()⟩
 |@make sc d pl t as ht h h4 i2=>
  intro β kvs hs hk f hf;have hf:f.length+((Pg.plss as).length+1)<=900:=hf;let⟨f2,r2,c2⟩:=lj (d:=d) hs () i2 f ();exact⟨f2,r2.up (by show _<=(Pg.plss as).length+1;lia),dC (ss:=["word","parts"]) (lv:=d+1) (.skip cD<|.parts rfl cD c2 .nil) ()⟩
 |@mat sc xs d pl t a b c ht hx ha hb hc i1 i2 i3=>
  intro β kvs hs hk f hf;have e:(Pg.mat pl a t xs b c).pls.length=a.pls.length+(b.pls.length+c.pls.length)+1:=by show(a.pls++(b.pls++c.pls)).length+1=_;rw[xAb,xAb]
  let⟨f1,r1,c1⟩:=i1 hs () f ();have:=r1.len;let⟨f2,r2,c2⟩:=i2 (hs.up (pl:=pl) hx.nd) (iR hk hx.few) f1 ();have:=r2.len;let⟨f3,r3,c3⟩:=i3 hs () f2 ();have ta:∀{i:Nat}{r:C3},i≠5->TT (.str "match"::r) i []:=λh=>jA (na:=4) (sa:=5) rfl h;exact⟨f3,(r1.app<|r2.app r3).up (),dC (ss:=["part","word","names","part","part"]) (lv:=d+1) (.part (nn:=[]) rfl (ta ∅) ∅ c1<|.skip (ta ∅)<|.skip (ta ∅)<|.part (nn:=xs) rfl (o6 (na:=4) rfl rfl) hx.few c2<|.part (nn:=[]) rfl (ta ∅) ∅ c3 .nil) ()⟩
 |@rai sc d pl w a hw ha i1=>
  intro β kvs hs hk f hf;have hf:f.length+(a.pls.length+1)<=900:=hf;let⟨f1,r1,c1⟩:=i1 hs () f ();exact⟨f1,r1.up (by show _<=a.pls.length+1;lia),dC (ss:=["word","part"]) (lv:=d+1) (.skip cD<|.part (nn:=[]) rfl cD ∅ c1 .nil) ()⟩
 |@try_ sc d pl w x a b hw hx ha hb i1 i2=>
  intro β kvs hs hk f hf;have e:(Pg.try_ pl a w x b).pls.length=a.pls.length+b.pls.length+1:=by show(a.pls++b.pls).length+1=_;rw[xAb]
  let⟨f1,r1,c1⟩:=i1 hs () f ();have:=r1.len;let⟨f2,r2,c2⟩:=i2 (hs.up (xs:=[x]) (pl:=pl) ⋯) (iR hk ⋯) f1 ();have ta:∀{i:Nat}{r:C3},i≠5->TT (.str "try"::r) i []:=λh=>jA (na:=4) (sa:=5) rfl h;exact⟨f2,(r1.app r2).up (),dC (ss:=["part","word","name","part"]) (lv:=d+1) (.part (nn:=[]) rfl (ta ∅) ∅ c1<|.skip (ta ∅)<|.skip (ta ∅)<|.part (nn:=[x]) rfl (o7 (na:=4) rfl rfl) ⋯ c2 .nil) ()⟩
 |@tell sc d pl a ha i1=>
  intro β kvs hs hk f hf;have hf:f.length+(a.pls.length+1)<=900:=hf;let⟨f1,r1,c1⟩:=i1 hs () f ();exact⟨f1,r1.up (by show _<=a.pls.length+1;lia),dC (ss:=["part"]) (lv:=d+1) (.part (nn:=[]) rfl cD ∅ c1 .nil) ()⟩
 |@ask sc d pl=>intro β kvs hs hk f hf;exact⟨f,.nil,dC (ss:=[]) (lv:=d+1) .nil ()⟩
structure zKd(P:Pg)(f:Fd):Prop where
 h:∀{fw d:Nat}{S:So}{x:D3}{K:D0},(∀S' q,Kp S S'->S.length<=q->at? S' q=some (.dtt f)->K (.ref q) S')->(Gd fw (d+20)).call 26 [P.u] S x K
def sV{P:Pg}(ok:zGa P):∃f,(∀b∈P.sts (λ_=>0),(zAq [.inl b.1,.inr b.2] f).isSome=true)/\f.length<=(P.sts λ_=>0).length/\zKd P f:=by
 have le:=ok.le;let⟨f,r,c⟩:=x8 ok.wf (β:=λ_=>0) (kvs:=[]) (λ_ z=>nomatch z) ∅ [] (by show 0+_<=_;lia);erw[<-⟨f,r.ins,by have:=r.ls;rw[List.length_nil,Nat.zero_add] at this;exact this,⟨λ{fw d S x K} hk=>?_⟩⟩,cd (d:=d+19) ⟨1,2,t26⟩,pd (v:=.ref S.length) (S':=S++[.dtt []]) (by rfl)];have q0:at? (S++[Ob.dtt []]) S.length=some (.dtt []):=zAu;have k0:Kp S<|S++[Ob.dtt []]:=⟨⋯,λz=>zAg z⟩
 have l0:(S++[Ob.dtt []]).length=S.length+1:=⋯
 generalize S++[Ob.dtt []]=T at q0 k0 l0;erw[pd (v:=.ref T.length) (S':=T++[.dct []]) (by rfl),<-c.h (d:=d+3) (g:=T.length) zAu (zAg q0) λS' g' p'=>?_];refine hk S' S.length ⟨by have:=p'.len;rw[xAb] at this;lia,λ{q o} z=>p'.ky (by have:=zA6 z;lia)<|zAg<|k0.ky z⟩ (xAg _) g'
mutual
def Pg.bps:Pg->B4 (Int×Str)
 |.num _ _=>[]
 |.nam _ _=>[]
 |.fn pl xs b=>xs.map (Prod.mk pl)++b.bps
 |.call _ f as=>f.bps++Pg.bpss as
 |.lt pl x a b=>a.bps++((pl,x)::b.bps)
 |.st _ _ a=>a.bps
 |.dd _ a b=>a.bps++b.bps
 |.iff _ a b c=>a.bps++(b.bps++c.bps)
 |.math _ _ a b=>a.bps++b.bps
 |.make _ _ as=>Pg.bpss as
 |.mat pl a _ xs b c=>a.bps++(xs.map (Prod.mk pl)++(b.bps++c.bps))
 |.rai _ _ a=>a.bps
 |.try_ pl a _ x b=>a.bps++((pl,x)::b.bps)
 |.tell _ a=>a.bps
 |.ask _=>[]
def Pg.bpss:B4 Pg->B4 (Int×Str)
 |[]=>[]
 |a::r=>a.bps++Pg.bpss r
end
variable{N:Str->Prop}{sc:C0}{d:Nat}{P:Pg}
def Fw(P:Pg):Prop:=∀β,P.bps.length+4*(P.sts β).length<=4*P.cnt
theorem ld:∀{as:B4 Pg},(∀a∈as,Fw a)->∀β,(Pg.bpss as).length+4*(Pg.stss as β).length<=4*Pg.cnts as
 |[],_,_=>xAg _
 |a::r,h,β=>by
  have h1:=h a (xAr ..) β;have h2:=ld (λb z=>h b<|xAs _ z) β;show(a.bps++Pg.bpss r).length+4*(a.sts β++Pg.stss r β).length<=4*(a.cnt+Pg.cnts r);rw[xAb,xAb];lia
theorem xY(h:Wf N sc d P):Fw P:=by
 induction h with
 |num _ _=>exact λ_=>xAg _
 |nam _=>exact λ_=>xAg _
 |@fn sc xs d pl b h hb ib=>
  intro β;have:=ib<|up β xs pl;have:=h.few;simp only[Pg.bps,Pg.sts,Pg.cnt,xAb,xAa];lia
 |call hf' h h4 i1 i2=>
  intro β;have:=i1 β;have:=ld i2 β;simp only[Pg.bps,Pg.sts,Pg.cnt,xAb,xAa];lia
 |@lt sc d pl x a b hx ha hb i1 i2=>
  intro β;have:=i1 β;have:=i2<|up β [x] pl;simp only[Pg.bps,Pg.sts,Pg.cnt,xAb,xAa,xAo];lia
 |st hx ha i1=>
  intro β;have:=i1 β;simp only[Pg.bps,Pg.sts,Pg.cnt,xAo];lia
 |dd ha hb i1 i2=>
  intro β;have:=i1 β;have:=i2 β;simp only[Pg.bps,Pg.sts,Pg.cnt,xAb];lia
 |iff ha hb hc i1 i2 i3=>
  intro β;have:=i1 β;have:=i2 β;have:=i3 β;simp only[Pg.bps,Pg.sts,Pg.cnt,xAb];lia
 |math ho ha hb i1 i2=>
  intro β;have:=i1 β;have:=i2 β;simp only[Pg.bps,Pg.sts,Pg.cnt,xAb];lia
 |make ht h h4 i2=>
  intro β;have:=ld i2 β;simp only[Pg.bps,Pg.sts,Pg.cnt];lia
 |@mat sc xs d pl t a b c ht hx ha hb hc i1 i2 i3=>
  intro β;have:=i1 β;have:=i2<|up β xs pl;have:=i3 β;have:=hx.few;simp only[Pg.bps,Pg.sts,Pg.cnt,xAb,xAa];lia
 |rai hw ha i1=>exact i1
 |@try_ sc d pl w x a b hw hx ha hb i1 i2=>
  intro β;have:=i1 β;have:=i2<|up β [x] pl;simp only[Pg.bps,Pg.sts,Pg.cnt,xAb,xAo];lia
 |tell ha i1=>exact i1
 |ask=>exact λ_=>xAg _
theorem cu(h:Wf N sc d P):∀p∈P.bps,p.1∈P.pls:=by
 induction h with
 |num _ _=>exact λ_ z=>nomatch z
 |nam _=>exact λ_ z=>nomatch z
 |@fn sc xs d pl b h hb ib=>
  intro p hp;rcases xAj.mp hp with z|z
  .let⟨y,_,rfl⟩:=xA2.mp z;exact xAr ..
  .exact xAs _<|ib p z
 |@call sc d pl u as hf' h h4 i1 i2=>
  intro p hp;erw[xAs _];rcases xAj.mp hp with z|z
  .exact xBw _<|i1 p z
  .erw[xBt _];clear hp i1 h4 h;induction as with
   |nil=>cases z
   |cons a r ih=>
    rcases xAj.mp z with z|z
    .exact xBw _<|i2 a (xAr ..) p z
    .exact xBt _<|ih (λb hb=>i2 b<|xAs _ hb) z
 |@lt sc d pl x a b hx ha hb i1 i2=>
  intro p hp;rcases xAj.mp hp with z|z
  .exact xAs _<|xBw _<|i1 p z
  .rcases xAv.mp z with rfl|z
   .exact xAr ..
   .exact xAs _<|xBt _<|i2 p z
 |st hx ha i1=>exact λp hp=>xAs _<|i1 p hp
 |dd ha hb i1 i2=>exact λp hp=>xAs _<|(xAj.mp hp).elim (λz=>xBw _<|i1 p z) λz=>xBt _<|i2 p z
 |iff ha hb hc i1 i2 i3=>exact λp hp=>xAs _<|(xAj.mp hp).elim (λz=>xBw _<|i1 p z) λz=>xBt _<|(xAj.mp z).elim (λz=>xBw _<|i2 p z) λz=>xBt _<|i3 p z
 |math ho ha hb i1 i2=>exact λp hp=>xAs _<|(xAj.mp hp).elim (λz=>xBw _<|i1 p z) λz=>xBt _<|i2 p z
 |@make sc d pl t as ht h h4 i2=>
  intro p hp;erw[xAs _];have z:p∈Pg.bpss as:=hp;clear hp h4 h;induction as with
  |nil=>cases z
  |cons a r ih=>
   rcases xAj.mp z with z|z
   .exact xBw _<|i2 a (xAr ..) p z
   .exact xBt _<|ih (λb hb=>i2 b<|xAs _ hb) z
 |@mat sc xs d pl t a b c ht hx ha hb hc i1 i2 i3=>
  intro p hp;rcases xAj.mp hp with z|z
  .exact xAs _<|xBw _<|i1 p z
  .rcases xAj.mp z with z|z
   .let⟨y,_,rfl⟩:=xA2.mp z;exact xAr ..
   .exact xAs _<|xBt _<|(xAj.mp z).elim (λz=>xBw _<|i2 p z) λz=>xBt _<|i3 p z
 |rai hw ha i1=>exact λp hp=>xAs _<|i1 p hp
 |@try_ sc d pl w x a b hw hx ha hb i1 i2=>
  intro p hp;rcases xAj.mp hp with z|z
  .exact xAs _<|xBw _<|i1 p z
  .rcases xAv.mp z with rfl|z
   .exact xAr ..
   .exact xAs _<|xBt _<|i2 p z
 |tell ha i1=>exact λp hp=>xAs _<|i1 p hp
 |ask=>exact λ_ z=>nomatch z
section
variable{N:Str->Prop}{sc:C0}{d:Nat}{P:Pg}
def xw{J:Type}{l r:B4 J}(a:l.Nodup)(b:r.Nodup)(h:∀x∈l,x∉r):(l++r).Nodup:=xBq.mpr ⟨a,b,λx hx y hy e=>h x hx<|e▸hy⟩
def dE{l r:C5}(h:(l++r).Nodup):l.Nodup/\r.Nodup/\∀x∈l,x∉r:=by
 let⟨a,b,c⟩:=xBq.mp h;exact⟨a,b,λx hx hy=>c x hx x hy rfl⟩
def dj{l r:B4<|Int×Str}{p q:C5}(a:l.Nodup)(b:r.Nodup)(h1:∀x∈l,x.1∈p)(h2:∀x∈r,x.1∈q)(h:∀x∈p,x∉q):(l++r).Nodup:=xw a b λx hx hy=>h _ (h1 x hx)<|h2 x hy
def qK{pl:Int}{xs:C0}(h:xs.Nodup):(xs.map<|Prod.mk pl).Nodup:=List.pairwise_map.mpr<|h.imp λ{a b} z e=>z (Prod.mk.inj e).2
def i9{pl:Int}{xs:C0}:∀x∈xs.map (Prod.mk pl),x.1∈[pl]:=λx hx=>by
 let⟨y,_,rfl⟩:=xA2.mp hx;exact xAm.mpr rfl
theorem iQ:∀{as:B4 Pg},(∀a∈as,∀p∈a.bps,p.1∈a.pls)->∀p∈Pg.bpss as,p.1∈Pg.plss as
 |[],_,_,z=>nomatch z
 |a::r,h,p,z=>(xAj.mp z).elim (λz=>xBw _<|h a (xAr ..) p z) λz=>xBt _<|iQ (λb hb=>h b<|xAs _ hb) p z
theorem kE:∀{as:B4 Pg},(∀a∈as,a.pls.Nodup->a.bps.Nodup)->(∀a∈as,∀p∈a.bps,p.1∈a.pls)->(Pg.plss as).Nodup->(Pg.bpss as).Nodup
 |[],_,_,_=>xC7
 |a::r,h,m,n=>by
  let⟨n1,n2,n3⟩:=dE n;exact dj (h a (xAr ..) n1) (kE (λb hb=>h b<|xAs _ hb) (λb hb=>m b<|xAs _ hb) n2) (m a<|xAr ..) (iQ λb hb=>m b<|xAs _ hb) n3
def dN{x:Int}{r:C5}(h:(x::r).Nodup):(∀z∈[x],z∉r)/\r.Nodup:=⟨λz hz=>by rw[xAm.mp hz];exact(xCb.mp h).1,(xCb.mp h).2⟩
theorem yL(h:Wf N sc d P):P.pls.Nodup->P.bps.Nodup:=by
 induction h with
 |num _ _=>exact λ_=>xC7
 |nam _=>exact λ_=>xC7
 |fn h hb ib=>exact λn=>dj (qK h.nd) (ib (dN n).2) i9 (cu hb) (dN n).1
 |call hf' h h4 i1 i2=>
  intro n;let⟨n1,n2,n3⟩:=dE (dN n).2;exact dj (i1 n1) (kE i2 (λa ha=>cu<|h a ha) n2) (cu hf') (iQ λa ha=>cu<|h a ha) n3
 |@lt sc d pl x a b hx ha hb i1 i2=>
  intro n;let⟨n0,n⟩:=dN n;let⟨n1,n2,n3⟩:=dE n;have n0:=n0 pl<|xAm.mpr rfl;refine dj (q:=pl::b.pls) (i1 n1) (xCb.mpr ⟨λz=>n0<|xBt _<|cu hb _ z,i2 n2⟩) (cu ha) (λz hz=>?_) λz hz hz'=>?_
  .rcases xAv.mp hz with rfl|hz
   .exact xAr ..
   .exact xAs _<|cu hb _ hz
  .rcases xAv.mp hz' with rfl|hz'
   .exact n0<|xBw _ hz
   .exact n3 z hz hz'
 |st hx ha i1=>exact λn=>i1 (dN n).2
 |dd ha hb i1 i2=>
  intro n;let⟨n1,n2,n3⟩:=dE (dN n).2;exact dj (i1 n1) (i2 n2) (cu ha) (cu hb) n3
 |@iff sc d pl a b c ha hb hc i1 i2 i3=>
  intro n;let⟨n1,n2,n3⟩:=dE (dN n).2;let⟨n4,n5,n6⟩:=dE n2;exact dj (q:=b.pls++c.pls) (i1 n1) (dj (i2 n4) (i3 n5) (cu hb) (cu hc) n6) (cu ha) (λz hz=>xAj.mpr<|(xAj.mp hz).imp (cu hb z)<|cu hc z) n3
 |math ho ha hb i1 i2=>
  intro n;let⟨n1,n2,n3⟩:=dE (dN n).2;exact dj (i1 n1) (i2 n2) (cu ha) (cu hb) n3
 |make ht h h4 i2=>exact λn=>kE i2 (λa ha=>cu<|h a ha) (dN n).2
 |@mat sc xs d pl t a b c ht hx ha hb hc i1 i2 i3=>
  intro n;let⟨n0,n⟩:=dN n;have n0:=n0 pl<|xAm.mpr rfl;let⟨n1,n2,n3⟩:=dE n;let⟨n4,n5,n6⟩:=dE n2;have bc:∀z∈b.bps++c.bps,z.1∈b.pls++c.pls:=λz hz=>xAj.mpr<|(xAj.mp hz).imp (cu hb z)<|cu hc z;refine dj (q:=pl::(b.pls++c.pls)) (i1 n1) (dj (p:=[pl]) (qK hx.nd) (dj (i2 n4) (i3 n5) (cu hb) (cu hc) n6) i9 bc λz hz=>by rw[xAm.mp hz];exact λz=>n0<|xBt _ z) (cu ha) (λz hz=>?_) λz hz hz'=>?_
  .rcases xAj.mp hz with hz|hz
   .rw[xAm.mp<|i9 z hz];exact xAr ..
   .exact xAs _<|bc z hz
  .rcases xAv.mp hz' with rfl|hz'
   .exact n0<|xBw _ hz
   .exact n3 z hz hz'
 |rai hw ha i1=>exact λn=>i1 (dN n).2
 |@try_ sc d pl w x a b hw hx ha hb i1 i2=>
  intro n;let⟨n0,n⟩:=dN n;let⟨n1,n2,n3⟩:=dE n;have n0:=n0 pl<|xAm.mpr rfl;refine dj (q:=pl::b.pls) (i1 n1) (xCb.mpr ⟨λz=>n0<|xBt _<|cu hb _ z,i2 n2⟩) (cu ha) (λz hz=>?_) λz hz hz'=>?_
  .rcases xAv.mp hz with rfl|hz
   .exact xAr ..
   .exact xAs _<|cu hb _ hz
  .rcases xAv.mp hz' with rfl|hz'
   .exact n0<|xBw _ hz
   .exact n3 z hz hz'
 |tell ha i1=>exact λn=>i1 (dN n).2
 |ask=>exact λ_=>xC7
end
def isset(f:Fd)(p:Int)(y:Str):B':=(zAq [.inl p,.inr y] f).isSome
theorem jd{κ:Type} [DecidableEq κ]:∀{f:B4<|κ×U}{l:B4 κ},l.Nodup->(∀k∈l,(zAq k f).isSome=true)->l.length<=f.length
 |[],[],_,_=>xAg _
 |[],k::l,_,h=>by have:=h k<|xAr ..;cases this
 |(g,v)::r,l,n,h=>by
  have go:∀m:B4 κ,m.Nodup->(∀k∈m,k≠g/\(zAq k<|(g,v)::r).isSome=true)->m.length<=r.length:=λm n h=>jd n λk hk=>by
   let⟨a,b⟩:=h k hk;rw[zAq,xCf<|Ne.symm a] at b;exact b
  have:=go (l.erase g) (n.erase g) λk hk=>⟨λe=>by rw[e] at hk;exact(List.Nodup.not_mem_erase n) hk,h k<|List.mem_of_mem_erase hk⟩
  have e:=List.length_erase (a:=g) (l:=l);rw[xAo];split at e <;> lia
def Pg.bs(f:Fd)(P:Pg):B4<|Int×Str:=P.bps.filter λb=>isset f b.1 b.2
def A0{sc:C0}{P:Pg}{f:Fd}(w:Wf N sc d P)(n:P.pls.Nodup)(c:P.cnt<=79)(hf:f.length<=(P.sts λ_=>0).length):(P.bs f).length<=63:=by
 have h1:(P.bs f).length<=P.bps.length:=List.length_filter_le ..;have h2:(P.bs f).length<=f.length:=by
  have nd:((P.bs f).map λb=>([.inl b.1,.inr b.2]:B4 Key)).Nodup:=List.pairwise_map.mpr (((yL w n).filter _).imp λ{a b} z e=>z<|by injection e with e1 e2;injection e2 with e2 _;injection e1 with e1;injection e2 with e2;exact Prod.ext e1 e2);have:=jd nd (f:=f) λk hk=>by
   let⟨b,hb,rfl⟩:=xA2.mp hk;exact(List.mem_filter.mp hb).2
  rwa[xAa] at this
 have:=xY w λ_=>0;lia
section
variable{fw d:Nat}{S:So}{x:D3}{K:D0}{th ps:C4}
structure Pd(r s:Nat)(S S':So):Prop where
 len:S.length<=S'.length
 ky:∀{q:Nat}{o:Ob},q≠r->q≠s->at? S q=some o->at? S' q=some o
def nu(l:C4):C3:=l.map λi:Nat=>.int (i:Int)
inductive AtV:U->Prop
 |num {i:Int}:AtV (.tup [.str "number",.int i])
 |nam {k:Nat}:AtV (.tup [.str "name",.int (k:Int)])
theorem gw:∀{l:C4},(nu l).all zAs=true
 |[]=>rfl
 |_::l=>by
  show(true&&(nu l).all zAs)=true;rw[gw];rfl
theorem lK{k:Nat}:∀{l:C4},k∈l->zA7 (.int (k:Int)) (nu l)=true
 |y::l,h=>by
  show(((y:Int)==(k:Int))||zA7 (.int (k:Int)) (nu l))=true;rcases xAv.mp h with rfl|h
  .rw[show(((k:Int)==(k:Int)))=true from beq_self_eq_true _];rfl
  .rw[lK h,Bool.or_true]
def As{k t:Nat}(ht:at? S t=some (.lst<|nu th))(h:k∈th):inU S (.int (k:Int)) (.ref t)=some true:=by
 unfold inU;dsimp only;rw[ht];dsimp only;rw[gw,lK h];rfl
def zt{k t:Nat}(ht:at? S t=some (.lst<|nu th))(h:k∈th):pr ups .inn [.int (k:Int),.ref t] S=.ok (.bl true) S:=by
 show obB (inU S (.int (k:Int))<|.ref t) id S=_;rw[As ht h];rfl
inductive Flt:Nat->U->Prop
 |int {n:Nat} {i:Int}:Flt n (.int i)
 |str {n:Nat} {x:Str}:Flt n (.str x)
 |bl {n:Nat} {b:Bool}:Flt n (.bl b)
 |tup {n:Nat} {xs:List U} (h:∀z∈xs,Flt n z):Flt (n+1) (.tup xs)
theorem Flt.up{n:Nat}{u:U}(h:Flt n u)(l:n<=m):Flt m u:=by
 induction h generalizing m with
 |int=>exact .int
 |str=>exact .str
 |bl=>exact .bl
 |tup h ih=>
  obtain⟨k,rfl⟩:∃k,m=k+1:=⟨m-1,()⟩
  exact .tup λz hz=>ih z hz ()
def Flt.nil:∀z∈([]:C3),Flt m z:=λ_ z=>nomatch z
def Flt.cons{u:U}{r:C3}(h:Flt m u)(t:∀z∈r,Flt m z):∀z∈u::r,Flt m z:=λz hz=>(xAv.mp hz).elim (λe=>by rw[e];exact h)<|t z
theorem fj{q:U->U->B'}:∀{xs:C3},(∀z∈xs,q z z=true)->zA9 q xs xs=true
 |[],_=>rfl
 |z::xs,h=>by
  show(q z z&&zA9 q xs xs)=true;rw[h z<|xAr ..,fj λy hy=>h y<|xAs _ hy];rfl
theorem fq{n:Nat}{u:U}(h:Flt n u):same S n u u=true:=by
 induction h with
 |@int n i=>
  cases n <;> (unfold same;simp[lsT,zAs,eqS,sc,Sc.eq])
 |@str n x=>
  cases n <;> (unfold same;simp[lsT,zAs,eqS,sc,Sc.eq])
 |@bl n b=>
  cases n <;> (unfold same;simp[lsT,zAs,eqS,sc,Sc.eq])
 |tup h ih=>
  unfold same;exact fj ih
theorem AtV.flt{a:U}(h:AtV a)(l:1<=m):Flt m a:=by
 obtain⟨k,rfl⟩:∃k,m=k+1:=⟨m-1,()⟩
 cases h with
 |num=>exact .tup (.cons .str<|.cons .int .nil)
 |nam=>exact .tup (.cons .str<|.cons .int .nil)
def qD{l:C4}(h:1<=m):Flt m<|.tup<|nu l:=by
 obtain⟨k,rfl⟩:∃k,m=k+1:=⟨m-1,()⟩
 refine .tup λz hz=>?_;unfold nu at hz;let⟨i,_,rfl⟩:=xA2.mp hz;exact .int
def sx{as:C3}(ha:∀z∈as,AtV z)(h:2<=m):Flt m<|.tup as:=by
 obtain⟨k,rfl⟩:∃k,m=k+1:=⟨m-1,()⟩
 exact .tup λz hz=>(ha z hz).flt ()
end
structure Nm(h q r:Nat)(f:Fd)(ps:C5)(S:So):Prop where
 ob:at? S h=some (.ins "Namer" [("set_ones",.ref q),("places",.ref r)])
 se:at? S q=some (.dtt f)
 pl:at? S r=some (.lst (ps.map .int))
section
variable{fw d lv:Nat}{h q r g s:Nat}{f:Fd}{ps np np2:C5}{S S':So}{x:D3}{K:D0}{pl:Int}{kvs:B4<|Key×U}{u a b:U}{us:C3}{last:B'}
def Nm.kp(n:Nm h q r f ps S)(k:Kp S S'):Nm h q r f ps S':=⟨k.ky n.ob,k.ky n.se,k.ky n.pl⟩
def i8(n:Nm h q r f ps S)(hl:ps.length<=10000)(hk:∀S',Nm h q r f (ps++[pl]) S'->Pc r S S'->K (.int ps.length) S'):(Gd fw<|d+1).call 29 [.ref h,.int pl] S x K:=by
 erw[cd ⟨2,2,t29⟩,pd (cS n.ob rfl),pd (cE n.pl),pd (cX n.pl<|by rw[xAa];show _<=2^24;lia)];have e:ps.map U.int++[.int pl]=(ps++[pl]).map U.int:=by rw[xAi];rfl
 rw[e];have n1:Nm h q r f (ps++[pl])<|set S r<|.lst<|(ps++[pl]).map .int:=⟨atK n.pl n.ob (λz=>nomatch z),atK n.pl n.se (λz=>nomatch z),zAc n.pl⟩
 erw[pd (cS n1.ob rfl),pd (dX n1.pl),<-pd (v:=.int ps.length) (S':=set S r<|.lst<|(ps++[pl]).map .int) ?_ ?_]
 .show Res.ok (.int<|(((ps++[pl]).map U.int).length:Int)-1) _=_;rw[xAa,xAb,xAt];congr 2;lia
 exact hk _ n1 ⟨by rw[zAe];exact xAg _,λn1 z=>atN (Ne.symm n1) z⟩
def kH{p:Int}(hq:at? S q=some (.dtt f)):pr ups .inn [.tup [.int p,.str y],.ref q] S=.ok (.bl<|isset f p y) S:=by
 show obB (inU S (.tup [.int p,.str y])<|.ref q) id S=_;unfold inU;dsimp only;rw[hq];rfl
structure AtC(u:U)(kvs:B4 (Key×U))(last:B')(f:Fd)(ps:C5)(a:U)(us:C3)(np:C5)(lv:Nat):Prop where
 h:∀{fw d h q r g s:Nat}{ss:C3}{S:So}{x:D3}{K:D0},Nm h q r f ps S->at? S g=some (.dct kvs)->at? S s=some (.lst ss)->s≠r->ss.length<=ps.length->(∀S',Nm h q r f (ps++np) S'->at? S' s=some (.lst (ss++us))->Pd r s S S'->K a S')->(Gd fw (d+lv)).call 31 [.ref h,u,.ref g,.bl last,.ref s] S x K
structure BoC(u:U)(kvs:B4 (Key×U))(last:B')(f:Fd)(ps:C5)(b:U)(np:C5)(lv:Nat):Prop where
 h:∀{fw d h q r g:Nat}{S:So}{x:D3}{K:D0},Nm h q r f ps S->at? S g=some (.dct kvs)->(∀S',Nm h q r f (ps++np) S'->Pc r S S'->K b S')->(Gd fw (d+lv)).call 30 [.ref h,u,.ref g,.bl last] S x K
def AtC.up(c:AtC u kvs last f ps a us np lv)(hl:lv<=lv'):AtC u kvs last f ps a us np lv':=⟨λ{fw d h q r g s ss S x K} a b e i j k=>by
 have:=c.h (fw:=fw) (d:=d+(lv'-lv)) (x:=x) a b e i j k;rw[show d+(lv'-lv)+lv=d+lv' by lia] at this;exact this⟩
def BoC.up(c:BoC u kvs last f ps b np lv)(hl:lv<=lv'):BoC u kvs last f ps b np lv':=⟨λ{fw d h q r g S x K} a b k=>by
 have:=c.h (fw:=fw) (d:=d+(lv'-lv)) (x:=x) a b k;rw[show d+(lv'-lv)+lv=d+lv' by lia] at this;exact this⟩
def BX(c:AtC u kvs last f ps a us np lv):BoC u kvs last f ps (.tup [.tup us,a]) np<|lv+1:=⟨λ{fw d h q r g S x K} n hg hk=>by
 erw[cd (d:=d+lv) ⟨4,6,t30⟩,pd (v:=.ref S.length) (S':=S++[.lst []]) (by rfl)];have k0:Kp S<|S++[Ob.lst []]:=⟨⋯,λz=>zAg z⟩
 have n0:=n.kp k0;erw[pd (cn n0.ob rfl)];have lr:=zA6 n.pl;erw[<-c.h n0 (k0.ky hg) (zAu (l:=S)) () (xBn _) λS' n' s' p'=>?_,<-pd (v:=.tup us) (S':=S') ?_ ?_]
 .show zA0 (.ref S.length) S'=_;unfold zA0;dsimp only[lsU];rw[s'];rfl
 refine hk S' n' ⟨by have:=p'.len;have:=k0.len;lia,λn1 z=>p'.ky n1 (by have:=zA6 z;lia)<|k0.ky z⟩⟩
def bnd(f:Fd)(pl:Int):Nat->C0->B4 (Str×U)
 |_,[]=>[]
 |n,y::r=>(y,.tup [.tup [.str "name",.int (n:Int)],.bl<|isset f pl y])::bnd f pl (n+1) r
structure BbC(xs:C0)(u:U)(pl:Int)(kvs:B4 (Key×U))(last:B')(f:Fd)(ps:C5)(v:U)(np:C5)(lv:Nat):Prop where
 h:∀{fw d h q r g:Nat}{S:So}{x:D3}{K:D0},Nm h q r f ps S->at? S g=some (.dct kvs)->(∀S',Nm h q r f (ps++np) S'->Pc r S S'->K v S')->(Gd fw (d+lv)).call 35 [.ref h,.tup (xs.map .str),u,.int pl,.ref g,.bl last] S x K
theorem jP{gp gi:Nat}{E:Ee Prop}{kk:Sg->So->Prop}{a1 a2 a4 a5:B5 U}(hir:gi≠r):∀{xs:C0}{kvs:B4<|Key×U}{ps:C5}{gs:C4}{S:So}{a8 a9:B5 U},Nm h q r f ps S->at? S gp=some (.dct kvs)->at? S gi=some (.lst<|nu gs)->ps.length+xs.length<=10000->kvs.length+xs.length<=1000->gs.length+xs.length<=1000 ->
  (∀S' a8 a9,Nm h q r f (ps++List.replicate xs.length pl) S'->at? S' gp=some (.dct<|pus kvs<|bnd f pl ps.length xs)->at? S' gi=some (.lst<|nu<|gs++List.range' ps.length xs.length)->S.length<=S'.length->(∀{p o},p≠r->p≠gp->p≠gi->at? S p=some o->at? S' p=some o)->kk [some<|.ref h,a1,a2,some<|.int pl,a4,a5,some<|.ref gp,some<|.ref gi,a8,a9] S') ->
  zAw (xs.map U.str) (λv σ1 S2 nx=>tgt [8] true (Gd fw<|d+1) v σ1 λσ2=>zI4 (Gd fw<|d+1) σ2 S2<|lpE E nx) [some<|.ref h,a1,a2,some<|.int pl,a4,a5,some<|.ref gp,some<|.ref gi,a8,a9] S kk
 |[],kvs,ps,gs,S,a8,a9,n,h1,h2,_,_,_,hk=>by
  refine hk S a8 a9 ?_ h1 ?_ (xAg _) λ_ _ _ z=>z
  .rw[List.length_nil,List.replicate_zero,xB0];exact n
  .rw[List.length_nil,List.range'_zero,xB0];exact h2
 |y::xs,kvs,ps,gs,S,a8,a9,n,h1,h2,l1,l2,l3,hk=>by
  rw[xAo] at l1 l2 l3;rw[xBs,zAw];erw[pd (cn n.ob rfl),<-i8 (d:=d) n () λS1 n1 p1=>?_];have g1:=p1.ky hir h2;have pr1:gp≠r:=λe=>by rw[e,n.pl] at h1;cases h1
  have gp1:=p1.ky pr1 h1;erw[pd (cE g1),pd (cX g1<|by show _<=2^24;unfold nu;rw[xAa];lia)];have e2:nu gs++[.int (ps.length:Int)]=nu (gs++[ps.length]):=by unfold nu;rw[xAi];rfl
  rw[e2];have n2:Nm h q r f (ps++[pl])<|set S1 gi<|.lst<|nu<|gs++[ps.length]:=⟨atK g1 n1.ob (λz=>nomatch z),atK g1 n1.se (λz=>nomatch z),atN hir n1.pl⟩
  have gp2:at? (set S1 gi<|.lst<|nu<|gs++[ps.length]) gp=some (.dct kvs):=atK g1 gp1 (λz=>nomatch z);have g2:at? (set S1 gi<|.lst<|nu<|gs++[ps.length]) gi=some (.lst<|nu<|gs++[ps.length]):=zAc g1;have p2:∀{p o},p≠r->p≠gi->at? S p=some o->at? (set S1 gi<|.lst<|nu<|gs++[ps.length]) p=some o:=λz1 z2 z=>atN (Ne.symm z2)<|p1.ky z1 z;have s2:S.length<=(set S1 gi<|.lst<|nu<|gs++[ps.length]).length:=by rw[zAe];exact p1.len
  generalize set S1 gi (.lst<|nu<|gs++[ps.length])=S2 at n2 gp2 g2 p2 s2;erw[pd (cS n2.ob rfl),pd (kH n2.se),pd (gj gp2<|by show _<=2^24;lia)];have pk:=iV (k:=(Sum.inr y:Key)) (v:=.tup [.tup [.str "name",.int (ps.length:Int)],.bl<|isset f pl y]) (kvs:=kvs);erw[<-jP hir (xs:=xs) (kvs:=putK (.inr y) (.tup [.tup [.str "name",.int (ps.length:Int)],.bl<|isset f pl y]) kvs) (ps:=ps++[pl]) (gs:=gs++[ps.length]) ⟨atK gp2 n2.ob (λz=>nomatch z),atK gp2 n2.se (λz=>nomatch z),atK gp2 n2.pl λz=>nomatch z⟩ (zAc gp2) (atK gp2 g2 λz=>nomatch z) (by rw[xAb,xAt];lia) () (by rw[xAb,xAt];lia) λS' a8 a9 n' gp' gi' l' p'=>?_,<-hk S' a8 a9 ?_ ?_ ?_ (by rw[zAe] at l';lia) λz1 z2 z3 z=>p' z1 z2 z3<|atN (Ne.symm z2)<|p2 z1 z3 z]
  .rw[xAx] at n';exact n'
  .rw[xAb,xAt] at gp';exact gp'
  .rw[xAb,xAt,xAx] at gi';exact gi'
def BZ{xs:C0}(c:BoC u (pus kvs<|bnd f pl ps.length xs) last f (ps++List.replicate xs.length pl) b np lv)(h4:xs.length<=4)(hp:ps.length<=9000)(hk':kvs.length<=900)(hlv:1<=lv):BbC xs u pl kvs last f ps (.tup [.tup<|nu<|List.range' ps.length xs.length,b]) (List.replicate xs.length pl++np)<|lv+1:=⟨λ{fw d h q r g S x K} n hg hk=>by
 obtain⟨l,rfl⟩:∃l,lv=l+1:=⟨lv-1,()⟩
 erw[cd (d:=d+(l+1)) ⟨6,10,t35⟩,pd (ef hg),pd (v:=.ref<|S.length+1) (S':=S++[.dct kvs]++[.lst []]) (by show fits 0 (.ok (.ref (S++[Ob.dct kvs]).length)<|S++[Ob.dct kvs]++[Ob.lst []])=_;rw[zA3<|xBn _,xAb];rfl)];have k0:Kp S<|S++[Ob.dct kvs]++[Ob.lst []]:=⟨⋯,λz=>zAg<|zAg z⟩
 have g0:at? (S++[Ob.dct kvs]++[Ob.lst []]) S.length=some (.dct kvs):=zAg zAu;have i0:at? (S++[Ob.dct kvs]++[Ob.lst []]) (S.length+1)=some (.lst<|nu []):=by
  have:=zAu (l:=S++[Ob.dct kvs]) (o:=Ob.lst []);rw[xAb] at this;exact this
 generalize S++[Ob.dct kvs]++[Ob.lst []]=S1 at k0 g0 i0;have n0:=n.kp k0;have lr:=zA6 n.pl;erw[pv (.tup<|xs.map .str),<-jP () n0 g0 i0 () () (by show 0+xs.length<=_;lia) λS2 a8 a9 n2 gp2 gi2 l2 p2=>?_,<-pd (v:=.tup<|nu<|List.range' ps.length xs.length) (S':=S2) ?_ ?_]
 .show zA0 (.ref<|S.length+1) S2=_;unfold zA0;dsimp only[lsU];rw[gi2];rfl
 refine pd (cn n2.ob rfl) ?_;refine c.h (d:=d) n2 gp2 λS3 n3 p3=>?_;rw[xAx] at n3;exact hk S3 n3 ⟨by have:=k0.len;have:=p3.len;lia,λz1 z=>p3.ky z1<|p2 z1 (by have:=zA6 z;lia) (by have:=zA6 z;lia)<|k0.ky z⟩⟩
end
section
variable{fw d lv:Nat}{h q r g s:Nat}{f:Fd}{ps np np1 np2:C5}{S S':So}{x:D3}{K:D0}{pl:Int}{kvs:B4<|Key×U}{u v a b a2:U}{us us2:C3}{last:B'}{y:Str}
def yM{i:Int}:AtC (.tup [.str "number",.int pl,.int i]) kvs last f ps (.tup [.str "number",.int i]) [] []<|lv+1:=⟨λ{fw d h q r g s ss S x K} n hg hs sr hl hk=>by
 refine cd (d:=d+lv) ⟨5,10,t31⟩ ?_;refine pd cb ?_;refine pd (cQ rfl) ?_;refine bT ?_;refine pd (cm (j:=2) rfl) ?_;exact hk S (by rw[xB0];exact n) (by rw[xB0];exact hs) ⟨xAg _,λ_ _ z=>z⟩⟩
def cI{up:B4<|Str×Str}:pr up (.unp 2) [.tup [a,b]] S=.ok (.tup [a,b]) S:=rfl
def ve(e:zAq (.inr y) kvs=some (.tup [a,.bl false])):AtC (.tup [.str "name",.int pl,.str y]) kvs last f ps a [] []<|lv+2:=⟨λ{fw d h q r g s ss S x K} n hg hs sr hl hk=>by
 refine cd (d:=d+(lv+1)) ⟨5,10,t31⟩ ?_;refine pd cb ?_;refine pd (cx ∅) ?_;refine bF ?_;refine pd (cQ rfl) ?_;refine bT ?_;refine pd (cn n.ob rfl) ?_;refine cd (d:=d+lv) ⟨4,7,t32⟩ ?_;refine pd (cm (j:=2) rfl) ?_;refine pd (cN hg e) ?_;refine pd cI ?_;refine pv (.bl false) ?_;refine bT ?_;exact hk S (by rw[xB0];exact n) (by rw[xB0];exact hs) ⟨xAg _,λ_ _ z=>z⟩⟩
def vd{k:Nat}(e:zAq (.inr y) kvs=some (.tup [.tup [.str "name",.int (k:Int)],.bl true]))(hp:ps.length<=9000):AtC (.tup [.str "name",.int pl,.str y]) kvs last f ps (.tup [.str "name",.int (ps.length:Int)]) [.tup [.str "read",.int (ps.length:Int),.int (k:Int)]] [pl]<|lv+3:=⟨λ{fw d h q r g s ss S x K} n hg hs sr hl hk=>by
 refine cd (d:=d+(lv+2)) ⟨5,10,t31⟩ ?_;refine pd cb ?_;refine pd (cx ∅) ?_;refine bF ?_;refine pd (cQ rfl) ?_;refine bT ?_;refine pd (cn n.ob rfl) ?_;refine cd (d:=d+(lv+1)) ⟨4,7,t32⟩ ?_;refine pd (cm (j:=2) rfl) ?_;refine pd (cN hg e) ?_;refine pd cI ?_;refine pv (.bl true) ?_;refine bF ?_;refine pd (cn n.ob rfl) ?_;refine pd cO ?_;refine i8 (d:=d+lv) n () λS1 n1 p1=>?_;have s1:=p1.ky sr hs;refine pd (cE s1) ?_;refine pd cO ?_;refine pd (cX s1<|by show _<=2^24;lia) ?_;exact hk _ ⟨atK s1 n1.ob (λz=>nomatch z),atK s1 n1.se (λz=>nomatch z),atN sr n1.pl⟩ (zAc s1) ⟨by rw[zAe];exact p1.len,λz1 z2 z=>atN (Ne.symm z2)<|p1.ky z1 z⟩⟩
def Pd.trans{S1 S2:So}(a:Pd r s S S1)(b:Pd r s S1 S2):Pd r s S S2:=⟨xCk a.len b.len,λz1 z2 z=>b.ky z1 z2<|a.ky z1 z2 z⟩
def A9(c:AtC u kvs false f ps a us np lv)(c2:AtC v kvs last f (ps++np) a2 us2 np2 lv)(hu:us.length<=np.length):AtC (.tup [.str "do",.int pl,u,v]) kvs last f ps a2 (us++us2) (np++np2)<|lv+1:=⟨λ{fw d h q r g s ss S x K} n hg hs sr hl hk=>by
 erw[cd (d:=d+lv) ⟨5,10,t31⟩,pd cb,pd (cx ∅),bF,pd (cx ∅),bF,pd (cQ rfl),bT,pd (cn n.ob rfl),pd (cm (j:=2) rfl)];have gs:g≠s:=λe=>by rw[e,hs] at hg;cases hg
 have gr:g≠r:=λe=>by rw[e,n.pl] at hg;cases hg
 refine c.h n hg hs sr hl λS1 n1 s1 p1=>?_;refine pd (cn n1.ob rfl) ?_;refine pd (cm (j:=3) rfl) ?_;refine c2.h n1 (p1.ky gr gs hg) s1 sr (by rw[xAb,xAb];lia) λS2 n2 s2 p2=>?_;rw[xAx] at n2 s2;exact hk S2 n2 s2 (p1.trans p2)⟩
def mW{i:B'}(c2:AtC v (pus kvs [(y,.tup [a,.bl i])]) last f ps a2 us2 np2 lv)(hk':kvs.length<=900)(n:Nm h q r f ps S)(hg:at? S g=some (.dct kvs))(hs:at? S s=some (.lst ss))(sr:s≠r)(hl:ss.length<=ps.length)(hk:∀S',Nm h q r f (ps++np2) S'->at? S' s=some (.lst<|ss++us2)->Pd r s S S'->K a2 S'):zG2 (Gd fw<|d+lv) [some<|.ref h,a1,some<|.ref g,some<|.bl last,some<|.ref s,a5,a6,some<|.str y,a8,some v,some a,some<|.bl i,a12,a13] S<|zAo x K:=by
 erw[pd (ef hg),pd (gj (zAu (l:=S))<|by show _<=2^24;lia)];rw[zDs];have k2:Kp S<|S++[.dct<|putK (.inr y) (.tup [a,.bl i]) kvs]:=⟨⋯,λz=>zAg z⟩
 have n2:=n.kp k2;erw[pd (cn n2.ob rfl),<-c2.h n2 (zAu (l:=S)) (k2.ky hs) sr hl λS3 n3 s3 p3=>?_,<-hk S3 n3 s3 ⟨xCk k2.len p3.len,λz1 z2 z=>p3.ky z1 z2<|k2.ky z⟩]
def qP(hk:∀S',Nm h q r f (ps++np) S'->at? S' s=some (.lst<|ss++us)->Pd r s S S'->zJq (Gd fw<|d+lv) [some<|.ref h,some<|.tup [.str "let",.int pl,.str y,u,v],some<|.ref g,some<|.bl last,some<|.ref s,some<|.str "let",some<|.int pl,some<|.str y,some u,some v,some a,none,none,none] S' (zAo x K))(c:AtC u kvs false f ps a us np lv)(n:Nm h q r f ps S)(hg:at? S g=some (.dct kvs))(hs:at? S s=some (.lst ss))(sr:s≠r)(hl:ss.length<=ps.length):(Gd fw<|d+(lv+2)).call 31 [.ref h,.tup [.str "let",.int pl,.str y,u,v],.ref g,.bl last,.ref s] S x K:=by
 erw[cd (d:=d+(lv+1)) ⟨5,10,t31⟩,pd cb,pd (cx ∅),bF,pd (cx ∅),bF,pd (cx ∅),bF,pd (cQ rfl),bT,pd (cn n.ob rfl),cd (d:=d+lv) ⟨5,14,t33⟩,pv (.tup [.str "let",.int pl,.str y,u,v]),pd (cn n.ob rfl),<-c.h n hg hs sr hl λS1 n1 s1 p1=>?_,<-hk S1 n1 s1 p1]
def vg(c:AtC u kvs false f ps a us np lv)(c2:AtC v (pus kvs [(y,.tup [a,.bl false])]) last f (ps++np) a2 us2 np2 lv)(hu:us.length<=np.length)(hi:isset f pl y=false)(hk':kvs.length<=900):AtC (.tup [.str "let",.int pl,.str y,u,v]) kvs last f ps a2 (us++us2) (np++np2)<|lv+2:=⟨λ{fw d h q r g s ss S x K} n hg hs sr hl hk=>by
 refine qP (λS1 n1 s1 p1=>?_) c n hg hs sr hl;have gs:g≠s:=λe=>by rw[e,hs] at hg;cases hg
 have gr:g≠r:=λe=>by rw[e,n.pl] at hg;cases hg
 refine pd (cS n1.ob rfl) ?_;refine pd (kH n1.se) ?_;rw[hi];refine pv (.bl false) ?_;refine bF ?_;refine mW c2 hk' n1 (p1.ky gr gs hg) s1 sr (by rw[xAb,xAb];lia) λS3 n3 s3 p3=>?_;rw[xAx] at n3 s3;exact hk S3 n3 s3 (p1.trans p3)⟩
def vf(c:AtC u kvs false f ps a us np lv)(c2:AtC v (pus kvs [(y,.tup [.tup [.str "name",.int ((ps.length+np.length:Nat):Int)],.bl true])]) last f (ps++np++[pl]) a2 us2 np2 lv)(hu:us.length<=np.length)(hi:isset f pl y=true)(hk':kvs.length<=900)(hp:ps.length+np.length<=9000)(h1:1<=lv):AtC (.tup [.str "let",.int pl,.str y,u,v]) kvs last f ps a2 (us++(.tup [.str "start",.int ((ps.length+np.length:Nat):Int),a,.int pl]::us2)) (np++(pl::np2))<|lv+2:=⟨λ{fw d h q r g s ss S x K} n hg hs sr hl hk=>by
 obtain⟨l,rfl⟩:∃l,lv=l+1:=⟨lv-1,()⟩
 refine qP (λS1 n1 s1 p1=>?_) c n hg hs sr hl;have gs:g≠s:=λe=>by rw[e,hs] at hg;cases hg
 have gr:g≠r:=λe=>by rw[e,n.pl] at hg;cases hg
 have ln:(ps++np).length=ps.length+np.length:=xAb;erw[pd (cS n1.ob rfl),pd (kH n1.se)];rw[hi];erw[pv (.bl true),bT,pd (cn n1.ob rfl),<-i8 (d:=d+l) n1 () λS2 n2 p2=>?_];have s2:=p2.ky sr s1;rw[ln];erw[pd (cE s2),pd (cX s2<|by rw[xAb];show _<=2^24;lia)];have n3:Nm h q r f (ps++np++[pl])<|set S2 s<|.lst<|ss++us++[.tup [.str "start",.int ((ps.length+np.length:Nat):Int),a,.int pl]]:=⟨atK s2 n2.ob (λz=>nomatch z),atK s2 n2.se (λz=>nomatch z),atN sr n2.pl⟩
 have s3:at? (set S2 s<|.lst<|ss++us++[.tup [.str "start",.int ((ps.length+np.length:Nat):Int),a,.int pl]]) s=some (.lst<|ss++us++[.tup [.str "start",.int ((ps.length+np.length:Nat):Int),a,.int pl]]):=zAc s2;have p3:Pd r s S<|set S2 s<|.lst<|ss++us++[.tup [.str "start",.int ((ps.length+np.length:Nat):Int),a,.int pl]]:=⟨by rw[zAe];have:=p1.len;have:=p2.len;lia,λz1 z2 z=>atN (Ne.symm z2)<|p2.ky z1<|p1.ky z1 z2 z⟩
 generalize set S2 s (.lst<|ss++us++[.tup [.str "start",.int ((ps.length+np.length:Nat):Int),a,.int pl]])=S3 at n3 s3 p3;refine mW c2 hk' n3 (p3.ky gr gs hg) s3 sr (by simp only[xAb,xAt];lia) λS5 n5 s5 p5=>?_;simp only[xAx,List.singleton_append] at n5 s5;exact hk S5 n5 s5 (p3.trans p5)⟩
inductive ACs(kvs:List (Key×U))(f:Fd)(lv:Nat):List Int->List U->List U->List U->List Int->Prop
 |nil {ps:List Int}:ACs kvs f lv ps [] [] [] []
 |cons {ps np np2:List Int} {u a:U} {r as us us2:List U} (h:AtC u kvs false f ps a us np lv) (hl:us.length<=np.length) (t:ACs kvs f lv (ps++np) r as us2 np2):ACs kvs f lv ps (u::r) (a::as) (us++us2) (np++np2)
theorem Ao{ys as:C3}(c:ACs kvs f lv ps parts as us np):∀{ss ys:C3}{S:So},Nm h q r f ps S->at? S g=some (.dct kvs)->at? S s=some (.lst ss)->s≠r->ss.length<=ps.length->(∀S',Nm h q r f (ps++np) S'->at? S' s=some (.lst<|ss++us)->Pd r s S S'->K (.lst<|ys++as) S')->lcK (Gd fw<|d+lv) (lcB [1] true [none,none,some<|.ref s,some<|.ref h,some<|.ref g] none (cM "Namer" "atom_of" 31 Ja (Jn J2 J8 (cC<|.bl false) J7) [])<|Gd fw<|d+lv) parts ys S K:=by
 induction c with
 |nil=>
  intro ss ys S n hg hs sr hl hk;have:=hk S (by rw[xB0];exact n) (by rw[xB0];exact hs) ⟨xAg _,λ_ _ z=>z⟩;rw[xB0] at this;exact this
 |@cons ps np np2 u a rr as us us2 c hu t ih=>
  intro ss ys S n hg hs sr hl hk;have gs:g≠s:=λe=>by rw[e,hs] at hg;cases hg
  have gr:g≠r:=λe=>by rw[e,n.pl] at hg;cases hg
  erw[pd (cn n.ob rfl),<-c.h n hg hs sr hl λS1 n1 s1 p1=>?_,<-ih n1 (p1.ky gr gs hg) s1 sr (by rw[xAb,xAb];lia) λS2 n2 s2 p2=>?_];rw[xAx] at n2 s2⊢;exact hk S2 n2 s2<|p1.trans p2
structure PaC(u:U)(parts:C3):Prop where
 h:∀{fw d:Nat}{S:So}{x:D3}{K:D0},K (.tup parts) S->(Gd fw (d+1)).call 12 [u] S x K
structure MoC(u:U)(as:C3)(kvs:B4 (Key×U))(last:B')(f:Fd)(ps:C5)(w:Str)(more:C3)(np:C5)(lv:Nat):Prop where
 h:∀{fw d h q r g:Nat}{S:So}{x:D3}{K:D0},Nm h q r f ps S->at? S g=some (.dct kvs)->(∀S',Nm h q r f (ps++np) S'->Pc r S S'->K (.tup [.str w,.tup more]) S')->(Gd fw (d+lv)).call 34 [.ref h,u,.tup as,.ref g,.bl last] S x K
structure PlC(u:U)(as:C3)(kvs:B4 (Key×U))(last:B')(w:Str)(more:C3):Prop where
 h:∀{fw d g:Nat}{S:So}{x:D3}{K:D0},at? S g=some (.dct kvs)->K (.tup [.str w,.tup more]) S->(Gd fw (d+1)).call 36 [u,.tup as,.ref g,.bl last] S x K
def zFy{w k:Str}{a2:B5 U}(n:Nm h q r f ps S)(hs:at? S s=some (.lst ss))(sr:s≠r)(hl:ss.length<=9000)(hp:ps.length<=9000)(hm:more.length<=100)(hk:∀S',Nm h q r f (ps++[pl]) S'->at? S' s=some (.lst<|ss++[.tup<|.str w::.int (ps.length:Int)::more])->Pd r s S S'->K (.tup [.str "name",.int (ps.length:Int)]) S'):zG5 (Gd fw<|d+1) [some<|.ref h,some<|.tup<|.str k::.int pl::rr,a2,a3,some<|.ref s,a5,a6,some<|.str w,some<|.tup more,none] S<|zAo x K:=by
 erw[pd (cn n.ob rfl),pd cO,<-i8 (d:=d) n () λS1 n1 p1=>?_];have s1:=p1.ky sr hs;erw[pd (cE s1),<-pd (v:=.tup<|.str w::.int (ps.length:Int)::more) (S':=S1) ?_ ?_]
 .show fits (2+more.length) _=_;exact zA3 (by show _<=2^24;lia)
 erw[pd (cX s1<|by show _<=2^24;lia)];exact hk _ ⟨atK s1 n1.ob (λz=>nomatch z),atK s1 n1.se (λz=>nomatch z),atN sr n1.pl⟩ (zAc s1) ⟨by rw[zAe];exact p1.len,λz1 z2 z=>atN (Ne.symm z2)<|p1.ky z1 z⟩
structure Kd(k:Str)(o:B'):Prop where
 h1:k≠"number"
 h2:k≠"name"
 h3:k≠"do"
 h4:k≠"let"
 ho:zA7 (.str k) [.str "fn",.str "if",.str "match",.str "try"]=o
def vK{k:Str}{as:C3}{o:B'}(kd:Kd k o)(pa:PaC (.tup<|.str k::.int pl::rr) parts)(c:ACs kvs f (lv+1) ps parts as us np)(h4:parts.length<=100)(n:Nm h q r f ps S)(hg:at? S g=some (.dct kvs))(hs:at? S s=some (.lst ss))(sr:s≠r)(hl:ss.length<=ps.length)(hk:∀S',Nm h q r f (ps++np) S'->at? S' s=some (.lst<|ss++us)->Pd r s S S'->zG4 (Gd fw<|d+(lv+1)) [some<|.ref h,some<|.tup<|.str k::.int pl::rr,some<|.ref g,some<|.bl last,some<|.ref s,some<|.str k,some<|.tup as,none,none,none] S' (zAo x K)):(Gd fw<|d+(lv+2)).call 31 [.ref h,.tup<|.str k::.int pl::rr,.ref g,.bl last,.ref s] S x K:=by
 erw[cd (d:=d+(lv+1)) ⟨5,10,t31⟩,pd cb,pd (cx kd.h1),bF,pd (cx kd.h2),bF,pd (cx kd.h3),bF,pd (cx kd.h4),bF,pa.h (d:=d+lv),pv (.tup parts),<-bI (c:=Nat.ble parts.length sizeLine) (λ_=>?_) λz=>absurd (lI (n:=parts.length) ()) (by rw[z];decide),<-Ao (ys:=[]) c n hg hs sr hl λS' n' s' p'=>?_];rw[xC6];erw[pv (.tup as)];exact hk S' n' s' p'
def sv{k w:Str}{as:C3}(kd:Kd k false)(pa:PaC (.tup<|.str k::.int pl::rr) parts)(c:ACs kvs f (lv+1) ps parts as us np)(h4:parts.length<=100)(m:PlC (.tup<|.str k::.int pl::rr) as kvs last w more)(hu:us.length<=np.length)(hp:ps.length+np.length<=9000)(hm:more.length<=100):AtC (.tup<|.str k::.int pl::rr) kvs last f ps (.tup [.str "name",.int ((ps.length+np.length:Nat):Int)]) (us++[.tup<|.str w::.int ((ps.length+np.length:Nat):Int)::more]) (np++[pl])<|lv+2:=⟨λ{fw d h q r g s ss S x K} n hg hs sr hl hk=>by
 have gs:g≠s:=λe=>by rw[e,hs] at hg;cases hg
 have gr:g≠r:=λe=>by rw[e,n.pl] at hg;cases hg
 refine vK kd pa c h4 n hg hs sr hl λS1 n1 s1 p1=>?_;refine pd (v:=.bl false) (S':=S1) (by show obB (some<|zA7 (.str k) [.str "fn",.str "if",.str "match",.str "try"]) id S1=_;rw[kd.ho];rfl) ?_;refine bF ?_;refine m.h (d:=d+lv) (p1.ky gr gs hg) ?_;refine pv (.tup [.str w,.tup more]) ?_;refine zFy (d:=d+lv) n1 s1 sr (by rw[xAb];lia) (by rw[xAb];lia) hm λS' n' s' p'=>?_;rw[xAx,xAb] at s';rw[xAx] at n';rw[xAb];exact hk S' n' s' (p1.trans p')⟩
def sw{k w:Str}{as:C3}(kd:Kd k true)(pa:PaC (.tup<|.str k::.int pl::rr) parts)(c:ACs kvs f (lv+1) ps parts as us np)(h4:parts.length<=100)(m:MoC (.tup<|.str k::.int pl::rr) as kvs last f (ps++np) w more np2<|lv+1)(hu:us.length<=np.length)(hp:ps.length+np.length+np2.length<=9000)(hm:more.length<=100):AtC (.tup<|.str k::.int pl::rr) kvs last f ps (.tup [.str "name",.int ((ps.length+np.length+np2.length:Nat):Int)]) (us++[.tup<|.str w::.int ((ps.length+np.length+np2.length:Nat):Int)::more]) (np++(np2++[pl]))<|lv+2:=⟨λ{fw d h q r g s ss S x K} n hg hs sr hl hk=>by
 have gs:g≠s:=λe=>by rw[e,hs] at hg;cases hg
 have gr:g≠r:=λe=>by rw[e,n.pl] at hg;cases hg
 refine vK kd pa c h4 n hg hs sr hl λS1 n1 s1 p1=>?_;refine pd (v:=.bl true) (S':=S1) (by show obB (some<|zA7 (.str k) [.str "fn",.str "if",.str "match",.str "try"]) id S1=_;rw[kd.ho];rfl) ?_;refine bT ?_;refine pd (cn n1.ob rfl) ?_;refine m.h n1 (p1.ky gr gs hg) λS2 n2 p2=>?_;refine pv (.tup [.str w,.tup more]) ?_;refine zFy (d:=d+lv) n2 (p2.ky sr s1) sr (by rw[xAb];lia) (by rw[xAb,xAb];lia) hm λS' n' s' p'=>?_;rw[xAx,xAb,xAb] at s';rw[xAx,xAx] at n';rw[xAb,xAb];exact hk S' n' s' (p1.trans<|(⟨p2.len,λz1 _ z=>p2.ky z1 z⟩:Pd r s S1 S2).trans p')⟩
end
section
variable{S:So}{a b c:U}{r:C3}{pl:Int}{kvs:B4<|Key×U}{last:B'}{y:Str}
def dA:pr ups (.sl false false true) [.tup<|a::b::r,.int 2] S=.ok (.tup [a,b]) S:=by
 show slice false (.tup<|a::b::r) none (some ((2:Nat):Int)) S=_;unfold slice;dsimp only;rw[HT.sIx_nat,HT.sIx_none];split
 .next h=>
  have:=(xBe h).2;rw[xAo,xAo] at this;have:r.length=0:=()
  rw[List.length_eq_zero_iff.mp this]
 .unfold zDl;rw[HT.sIx_nat,HT.sIx_none];simp
def kG:pr ups (.sl false true false) [.tup<|a::r,.int 1] S=.ok (.tup r) S:=by
 show slice false (.tup<|a::r) (some ((1:Nat):Int)) none S=_;unfold slice;dsimp only;rw[HT.sIx_nat,xCn<|by rw[xAo];lia];dsimp only;unfold zDl;rw[HT.sIx_nat,HT.sIx_none,show min 1 (a::r).length=1 by simp];simp
def zE{x y:U}:PaC (.tup [.str "fn",.int pl,x,y]) []:=⟨λ{fw d S x K} hk=>by
 erw[cd ⟨1,2,t12⟩];walk_at"w"
 exact hk⟩
def tY{as:C3}(hl:as.length<=1000):PaC (.tup [.str "call",.int pl,a,.tup as])<|a::as:=⟨λ{fw d S x K} hk=>by
 refine cd ⟨1,2,t12⟩ ?_;refine pd cb ?_;refine pd (cQ rfl) ?_;refine bT ?_;refine pd (cm (j:=2) rfl) ?_;refine pd (cm (j:=3) rfl) ?_;refine pd (v:=.tup<|a::as) (S':=S) ?_ hk;show fits (1+as.length) _=_;exact zA3 (by show _<=2^24;lia)⟩
def tV{o:Str}:PaC (.tup [.str "math",.int pl,.str o,a,b]) [a,b]:=⟨λ{fw d S x K} hk=>by
 erw[cd ⟨1,2,t12⟩];walk_at"w"
 exact hk⟩
def tW{as:C3}{t:Str}:PaC (.tup [.str "make",.int pl,.str t,.tup as]) as:=⟨λ{fw d S x K} hk=>by
 erw[cd ⟨1,2,t12⟩];walk_at"w"
 exact hk⟩
def wU:PaC (.tup [.str "set",.int pl,.str y,a]) [a]:=⟨λ{fw d S x K} hk=>by
 erw[cd ⟨1,2,t12⟩];walk_at"w"
 exact hk⟩
def qr:PaC (.tup [.str "raise",.int pl,.str y,a]) [a]:=⟨λ{fw d S x K} hk=>by
 erw[cd ⟨1,2,t12⟩];walk_at"w"
 exact hk⟩
def zD:PaC (.tup [.str "if",.int pl,a,b,c]) [a]:=⟨λ{fw d S x K} hk=>by
 erw[cd ⟨1,2,t12⟩];walk_at"w"
 exact hk⟩
def qt{x y z u:U}:PaC (.tup [.str "match",.int pl,a,x,y,z,u]) [a]:=⟨λ{fw d S x K} hk=>by
 erw[cd ⟨1,2,t12⟩];walk_at"w"
 exact hk⟩
def tU:PaC (.tup [.str "tell",.int pl,a]) [a]:=⟨λ{fw d S x K} hk=>by
 erw[cd ⟨1,2,t12⟩];walk_at"w"
 exact hk⟩
def wS{x y z u:U}:PaC (.tup [.str "try",.int pl,x,y,z,u]) []:=⟨λ{fw d S x K} hk=>by
 erw[cd ⟨1,2,t12⟩];walk_at"w"
 exact hk⟩
def wV:PaC (.tup [.str "ask",.int pl]) []:=⟨λ{fw d S x K} hk=>by
 erw[cd ⟨1,2,t12⟩];walk_at"w"
 exact hk⟩
def tN{as:C3}{x z:U}:PlC (.tup [.str "call",.int pl,x,z]) (a::as) kvs last "call" [a,.tup as,.int pl,.bl last]:=⟨λ{fw d g S x K} hg hk=>by
 refine cd ⟨4,6,t36⟩ ?_;refine pd dA ?_;refine pd cI ?_;refine pd (cQ rfl) ?_;refine bT ?_;refine pd cb ?_;refine pd kG ?_;exact hk⟩
def tM{as:C3}{x:U}{t:Str}:PlC (.tup [.str "make",.int pl,.str t,x]) as kvs last "make" [.str t,.tup as,.int pl]:=⟨λ{fw d g S x K} hg hk=>by
 erw[cd ⟨4,6,t36⟩,pd dA,pd cI];walk_at"w"
 exact hk⟩
def wD{x:U}{k:Nat}{i:B'}(e:zAq (.inr y) kvs=some (.tup [.tup [.str "name",.int (k:Int)],.bl i])):PlC (.tup [.str "set",.int pl,.str y,x]) [a] kvs last "set" [.int (k:Int),a,.int pl]:=⟨λ{fw d g S x K} hg hk=>by
 erw[cd ⟨4,6,t36⟩,pd dA,pd cI,pd (cx ∅),bF,pd (cx ∅),bF,pd (cQ rfl),bT,pd (cm (j:=2) rfl),pd (cN hg e)];walk_at"w"
 exact hk⟩
def tL{x z:U}{o:Str}:PlC (.tup [.str "math",.int pl,.str o,x,z]) [a,b] kvs last "math" [.str o,a,b,.int pl]:=⟨λ{fw d g S x K} hg hk=>by
 erw[cd ⟨4,6,t36⟩,pd dA,pd cI];walk_at"w"
 exact hk⟩
def pZ{x:U}{o:Str}:PlC (.tup [.str "raise",.int pl,.str o,x]) [a] kvs last "raise" [.str o,a,.int pl]:=⟨λ{fw d g S x K} hg hk=>by
 erw[cd ⟨4,6,t36⟩,pd dA,pd cI];walk_at"w"
 exact hk⟩
def tK{x:U}:PlC (.tup [.str "tell",.int pl,x]) [a] kvs last "tell" [a,.int pl]:=⟨λ{fw d g S x K} hg hk=>by
 erw[cd ⟨4,6,t36⟩,pd dA,pd cI];walk_at"w"
 exact hk⟩
def wE:PlC (.tup [.str "ask",.int pl]) [] kvs last "ask" [.int pl]:=⟨λ{fw d g S x K} hg hk=>by
 erw[cd ⟨4,6,t36⟩,pd dA,pd cI];walk_at"w"
 exact hk⟩
end
section
variable{lv:Nat}{f:Fd}{ps np np2:C5}{S:So}{pl:Int}{kvs:B4<|Key×U}{u v a b c n1:U}{last:B'}{y w:Str}{xs:C0}
def Ag(h:BbC xs u pl kvs true f ps (.tup [n1,b]) np lv):MoC (.tup [.str "fn",.int pl,.tup<|xs.map .str,u]) [] kvs last f ps "func" [n1,b,.int pl] np<|lv+1:=⟨λ{fw d h0 q r g S x K} n hg hk=>by
 refine cd (d:=d+lv) ⟨5,14,t34⟩ ?_;refine pd dA ?_;refine pd cI ?_;refine pd (cQ rfl) ?_;refine bT ?_;refine pd (cn n.ob rfl) ?_;refine pd (cm (j:=2) rfl) ?_;refine pd (cm (j:=3) rfl) ?_;refine h.h n hg λS' n' p'=>?_;refine pd cI ?_;exact hk S' n' p'⟩
def Af(h:BoC u kvs last f ps b np lv)(h2:BoC v kvs last f (ps++np) c np2 lv):MoC (.tup [.str "if",.int pl,n1,u,v]) [a] kvs last f ps "if" [a,b,c,.int pl] (np++np2)<|lv+1:=⟨λ{fw d h0 q r g S x K} n hg hk=>by
 erw[cd (d:=d+lv) ⟨5,14,t34⟩,pd dA,pd cI,pd (cx ∅),bF,pd (cQ rfl),bT,pv (.tup [u,v]),pv (.tup [u,v])];refine bI (λ_=>?_) λz=>by cases z
 have gr:g≠r:=λe=>by rw[e,n.pl] at hg;cases hg
 refine pd (cn n.ob rfl) ?_;refine h.h n hg λS1 m1 p1=>?_;refine pd (cn m1.ob rfl) ?_;refine h2.h m1 (p1.ky gr hg) λS2 m2 p2=>?_;refine pv (.tup [b,c]) ?_;refine pv (.tup [a,b,c]) ?_;refine pv (.tup [a,b,c,.int pl]) ?_;rw[xAx] at m2;exact hk S2 m2 (p1.trans p2)⟩
def qN(h:BbC xs u pl kvs last f ps (.tup [n1,b]) np lv)(h2:BoC v kvs last f (ps++np) c np2 lv){z:U}:MoC (.tup [.str "match",.int pl,z,.str w,.tup<|xs.map .str,u,v]) [a] kvs last f ps "match" [a,.str w,n1,b,c,.int pl] (np++np2)<|lv+1:=⟨λ{fw d h0 q r g S x K} n hg hk=>by
 erw[cd (d:=d+lv) ⟨5,14,t34⟩,pd dA,pd cI,pd (cx ∅),bF,pd (cx ∅),bF,pd (cQ rfl),bT];have gr:g≠r:=λe=>by rw[e,n.pl] at hg;cases hg
 refine pd (cn n.ob rfl) ?_;refine pd (cm (j:=4) rfl) ?_;refine pd (cm (j:=5) rfl) ?_;refine h.h n hg λS1 m1 p1=>?_;refine pd cI ?_;refine pd (cm (j:=3) rfl) ?_;refine pd (cn m1.ob rfl) ?_;refine pd (cm (j:=6) rfl) ?_;refine h2.h m1 (p1.ky gr hg) λS2 m2 p2=>?_;refine pv (.tup [a,.str w,n1,b,c,.int pl]) ?_;rw[xAx] at m2;exact hk S2 m2 (p1.trans p2)⟩
def xz(h:BoC u kvs false f ps b np lv)(h2:BbC [y] v pl kvs last f (ps++np) (.tup [.tup [n1],c]) np2 lv):MoC (.tup [.str "try",.int pl,u,.str w,.str y,v]) [] kvs last f ps "try" [b,.str w,n1,c,.int pl] (np++np2)<|lv+1:=⟨λ{fw d h0 q r g S x K} n hg hk=>by
 erw[cd (d:=d+lv) ⟨5,14,t34⟩,pd dA,pd cI,pd (cx ∅),bF,pd (cx ∅),bF,pd (cx ∅),bF];have gr:g≠r:=λe=>by rw[e,n.pl] at hg;cases hg
 refine pd (cn n.ob rfl) ?_;refine pd (cm (j:=2) rfl) ?_;refine h.h n hg λS1 m1 p1=>?_;refine pd (cn m1.ob rfl) ?_;refine pd (cm (j:=4) rfl) ?_;refine pd (cm (j:=5) rfl) ?_;refine h2.h m1 (p1.ky gr hg) λS2 m2 p2=>?_;refine pd cI ?_;refine pd (cm (j:=3) rfl) ?_;refine pd cb ?_;rw[xAx] at m2;exact hk S2 m2 (p1.trans p2)⟩
end
section
variable{fw d:Nat}{S:So}{x:D3}{K:D0}
inductive Ow:Str->Nat->List U->List Nat->Prop
 |start {to:Nat} {r:List U}:Ow "start" to r [to]
 |read {to j:Nat} {r:List U}:Ow "read" to (.int (j:Int)::r) [j]
 |set {to j:Nat} {r:List U}:Ow "set" to (.int (j:Int)::r) [j]
 |none {k:Str} {to:Nat} {r:List U} (h:k="math"\/k="make"\/k="raise"\/k="call"\/k="tell"\/k="ask"):Ow k to r []
theorem Ow.ne{k:Str}{to:Nat}{r:C3}(o:Ow k to r own):k≠"func"/\k≠"if"/\k≠"match"/\k≠"try":=by
 cases o with
 |none h=>rcases h with rfl|rfl|rfl|rfl|rfl|rfl <;> decide
 |_=>decide
inductive Sh:Str->Nat->List U->List Nat->List (List Nat×U)->Prop
 |flat {k:Str} {to:Nat} {r:List U} {own:List Nat} (o:Ow k to r own) (hr:∀z∈r,Flt 2 z) (hl:r.length<=100):Sh k to r own []
 |func {to:Nat} {xs:List Nat} {b:U} {p:Int}:Sh "func" to [.tup (nu xs),b,.int p] [] [(xs,b)]
 |iff {to:Nat} {a b c:U} {p:Int} (ha:Flt 2 a):Sh "if" to [a,b,c,.int p] [] [([],b),([],c)]
 |mat {to:Nat} {a b c:U} {t:Str} {xs:List Nat} {p:Int} (ha:Flt 2 a):Sh "match" to [a,.str t,.tup (nu xs),b,c,.int p] [] [(xs,b),([],c)]
 |try_ {to j:Nat} {a b:U} {t:Str} {p:Int}:Sh "try" to [a,.str t,.int (j:Int),b,.int p] [] [([],a),([j],b)]
theorem Sh.start{to:Nat}{a:U}{p:Int}(ha:Flt 2 a):Sh "start" to [a,.int p] [to] []:=.flat .start (.cons ha<|.cons .int .nil) (by show 2<=100;decide)
theorem Sh.read{to j:Nat}:Sh "read" to [.int (j:Int)] [j] []:=.flat .read (.cons .int .nil) (by show 1<=100;decide)
theorem Sh.set{to j:Nat}{a:U}{p:Int}(ha:Flt 2 a):Sh "set" to [.int (j:Int),a,.int p] [j] []:=.flat .set (.cons .int<|.cons ha<|.cons .int .nil) (by show 3<=100;decide)
def Sh.plain{k:Str}{to:Nat}{r:C3}(hk:k="math"\/k="make"\/k="raise"\/k="call"\/k="tell"\/k="ask")(hr:∀z∈r,Flt 2 z)(hl:r.length<=100):Sh k to r [] []:=.flat (.none hk) hr hl
def bu(b:C4×U):U:=.tup [.tup<|nu b.1,b.2]
variable{k:Str}{to:Nat}{r:C3}{own:C4}{bs:B4<|C4×U}
theorem qX(h:Sh k to r own bs)(hk:K (.lst<|bs.map bu) S):(Gd fw<|d+1).call 0 [.tup<|.str k::.int (to:Int)::r] S x K:=by
 erw[cd ⟨1,2,t0⟩];cases h with
 |flat o _ _=>
  let⟨_,_,_,_⟩:=o.ne;walk_at"w"
  exact hk
 |_=>walk_at"w";exact hk
theorem ia(h:Sh k to r own bs)(hk:K (.lst<|bs.map bu) S):(Gd fw<|d+1).call 54 [.tup<|.str k::.int (to:Int)::r] S x K:=by
 erw[cd ⟨1,2,t54⟩];cases h with
 |flat o _ _=>
  let⟨_,_,_,_⟩:=o.ne;walk_at"w"
  exact hk
 |_=>walk_at"w";exact hk
def bw(k:Str):Str:=if k="start" then "box" else if k="read" then "load" else if k="set" then "store" else k
def rst(r:C3):B4 (C4×U)->C3
 |[]=>r
 |(g,b)::t=>
  if r.length=3 then[.tup<|nu g,b,r.getD 2 .non]
  else if r.length=4 then[r.getD 0 .non,b,(t.headD ([],.non)).2,r.getD 3 .non]
  else if r.length=6 then[r.getD 0 .non,r.getD 1 .non,.tup<|nu g,b,(t.headD ([],.non)).2,r.getD 5 .non]
  else[b,r.getD 1 .non,.int (((t.headD ([],.non)).1.headD 0:Nat):Int),(t.headD ([],.non)).2,r.getD 4 .non]
def iz(h1:k≠"start":=by decide)(h2:k≠"read":=by decide)(h3:k≠"set":=by decide):bw k=k:=by unfold bw;rw[xCf h1,xCf h2,xCf h3]
def iP:rst r []=r:=rfl
theorem sh1{bs:B4<|C4×U}{n:Nat}(e:bs.map (·.1.length)=[n]):∃g b,bs=[(g,b)]/\g.length=n:=by
 match bs,e with
 |[],e=>cases e
 |[(g,b)],e=>injection e with e _;exact⟨g,b,rfl,e⟩
 |_::_::_,e=>injection e with _ e;cases e
theorem sh2{bs:B4<|C4×U}{n:Nat}(e:bs.map (·.1.length)=[n,m]):∃g b g2 b2,bs=[(g,b),(g2,b2)]/\g.length=n/\g2.length=m:=by
 match bs,e with
 |[],e=>cases e
 |(g,b)::r,e=>
  injection e with e e';let⟨g2,b2,rfl,e3⟩:=sh1 e';exact⟨g,b,g2,b2,rfl,e,e3⟩
theorem vM{k':Str}(h:Sh k to r own bs)(e:bs'.map (·.1.length)=bs.map (·.1.length))(e2:k'=bw k)(hk:K (.tup<|.str k'::.int (to:Int)::rst r bs') S):(Gd fw<|d+1).call 1 [.tup<|.str k'::.int (to:Int)::r,.lst<|bs'.map bu] S x K:=by
 subst e2;cases h with
 |flat o _ _=>
  match bs',e with
  |[],_=>
  let⟨n1,n2,n3,n4⟩:=o.ne;have q:∀x∈(["func","if","match","try"]:C0),k≠x->bw k≠x:=λx hx n=>by
   unfold bw;split
   .rintro rfl;revert hx;decide
   .split
    .rintro rfl;revert hx;decide
    .split
     .rintro rfl;revert hx;decide
     .exact n
  have:=q _ ⋯ n1;have:=q _ ⋯ n2;have:=q _ ⋯ n3;have:=q _ ⋯ n4;erw[cd ⟨2,3,t1⟩];walk_at"w"
  exact hk
 |func=>
  let⟨g,b,rfl,_⟩:=sh1 e;rw[iz] at hk⊢;erw[cd ⟨2,3,t1⟩];walk_at"w"
  exact hk
 |iff ha=>
  let⟨g,b,g2,b2,rfl,_,_⟩:=sh2 e;rw[iz] at hk⊢;erw[cd ⟨2,3,t1⟩];walk_at"w"
  exact hk
 |mat ha=>
  let⟨g,b,g2,b2,rfl,_,_⟩:=sh2 e;rw[iz] at hk⊢;erw[cd ⟨2,3,t1⟩];walk_at"w"
  exact hk
 |try_=>
  let⟨g,b,g2,b2,rfl,_,e3⟩:=sh2 e;let⟨j,rfl⟩:=List.length_eq_one_iff.mp e3;rw[iz] at hk⊢;erw[cd ⟨2,3,t1⟩];walk_at"w"
  exact hk
end
section
variable{fw d:Nat}{S:So}{x:D3}{K:D0}
variable{k:Str}{to:Nat}{r:C3}{own:C4}{bs bs':B4<|C4×U}
theorem wg(h:Sh k to r own bs)(hb:bs≠[])(e:bs'.map (·.1.length)=bs.map (·.1.length))(hk:K (.tup<|.str k::.int (to:Int)::rst r bs') S):(Gd fw<|d+1).call 55 [.tup<|.str k::.int (to:Int)::r,.lst<|bs'.map bu] S x K:=by
 cases h with
 |flat _ _ _=>exact absurd rfl hb
 |func=>
  let⟨g,b,rfl,_⟩:=sh1 e;erw[cd ⟨2,3,t55⟩];walk_at"w"
  exact hk
 |iff ha=>
  let⟨g,b,g2,b2,rfl,_,_⟩:=sh2 e;erw[cd ⟨2,3,t55⟩];walk_at"w"
  exact hk
 |mat ha=>
  let⟨g,b,g2,b2,rfl,_,_⟩:=sh2 e;erw[cd ⟨2,3,t55⟩];walk_at"w"
  exact hk
 |try_=>
  let⟨g,b,g2,b2,rfl,_,e3⟩:=sh2 e;let⟨j,rfl⟩:=List.length_eq_one_iff.mp e3;erw[cd ⟨2,3,t55⟩];walk_at"w"
  exact hk
theorem Sh.box(h:Sh k to r own bs)(hb:bs≠[])(e:bs'.map (·.1.length)=bs.map (·.1.length)):∀{to':Nat},∃bs2,bs2=bs'/\(bs2.map bu=bs'.map bu)/\(Sh k to' (rst r bs2) [] bs2):=λ{to'}=>by
 cases h with
 |flat _ _ _=>exact absurd rfl hb
 |func=>
  let⟨g,b,rfl,_⟩:=sh1 e;exact⟨_,rfl,rfl,.func⟩
 |iff ha=>
  let⟨g,b,g2,b2,rfl,e1,e2⟩:=sh2 e;cases List.length_eq_zero_iff.mp e1;cases List.length_eq_zero_iff.mp e2;exact⟨_,rfl,rfl,.iff ha⟩
 |mat ha=>
  let⟨g,b,g2,b2,rfl,_,e2⟩:=sh2 e;cases List.length_eq_zero_iff.mp e2;exact⟨_,rfl,rfl,.mat ha⟩
 |try_=>
  let⟨g,b,g2,b2,rfl,e1,e3⟩:=sh2 e;cases List.length_eq_zero_iff.mp e1;let⟨j,rfl⟩:=List.length_eq_one_iff.mp e3;exact⟨_,rfl,rfl,.try_⟩
theorem Sh.fl(h:Sh k to r own bs)(hb:∀b∈bs,Flt m b.2)(hm:2<=m):∀z∈r,Flt m z:=by
 cases h with
 |flat _ hr _=>exact λz hz=>(hr z hz).up hm
 |func=>exact .cons (qD ()) (.cons (hb _<|xAr ..)<|.cons .int .nil)
 |iff ha=>exact .cons (ha.up hm) (.cons (hb _<|xAr ..)<|.cons (hb _<|xAs _<|xAr ..)<|.cons .int .nil)
 |mat ha=>exact .cons (ha.up hm) (.cons .str<|.cons (qD ())<|.cons (hb _<|xAr ..)<|.cons (hb _<|xAs _<|xAr ..)<|.cons .int .nil)
 |try_=>exact .cons (hb _<|xAr ..) (.cons .str<|.cons .int<|.cons (hb _<|xAs _<|xAr ..)<|.cons .int .nil)
theorem Sh.nw(h:Sh k to r own bs)(hb:bs≠[]):k≠"start"/\k≠"read"/\k≠"set"/\own=[]:=by
 cases h with
 |flat _ _ _=>exact absurd rfl hb
 |_=>exact⟨∅,∅,∅,rfl⟩
theorem Sh.lg(h:Sh k to r own bs)(e:bs'.map (·.1.length)=bs.map (·.1.length)):(rst r bs').length=r.length:=by
 cases h with
 |func=>let⟨g,b,rfl,_⟩:=sh1 e;rfl
 |iff ha=>let⟨g,b,g2,b2,rfl,_,_⟩:=sh2 e;rfl
 |mat ha=>let⟨g,b,g2,b2,rfl,_,_⟩:=sh2 e;rfl
 |try_=>
  let⟨g,b,g2,b2,rfl,_,e3⟩:=sh2 e;let⟨j,rfl⟩:=List.length_eq_one_iff.mp e3;rfl
 |_=>
  cases bs' with
  |nil=>rw[iP]
  |cons _ _=>cases e
theorem Sh.len(h:Sh k to r own bs):r.length<=100:=by
 cases h with
 |flat _ _ hl=>exact hl
 |_=>simp
end
structure Bx(h r:Nat)(L:C4)(X:C5)(S:So):Prop where
 ob:at? S h=some (.ins "Boxer" [("set_ones",.lst (nu L)),("places",.ref r)])
 pl:at? S r=some (.lst (X.map .int))
section
variable{fw d:Nat}{h r g s t:Nat}{L th xs:C4}{W X Y:C5}{S S':So}{x:D3}{K:D0}{k n:Nat}
def Bx.kp(b:Bx h r L X S)(k:Kp S S'):Bx h r L X S':=⟨k.ky b.ob,k.ky b.pl⟩
theorem fT:∀{l:C4},k∉l->zA7 (.int (k:Int)) (nu l)=false
 |[],_=>rfl
 |y::l,h=>by
  have h1:(y:Int)≠(k:Int):=λe=>h (by rw[Int.ofNat.inj e];exact xAr ..);show(((y:Int)==(k:Int))||zA7 (.int (k:Int)) (nu l))=false;rw[fT λz=>h<|xAs _ z,show(((y:Int)==(k:Int)))=false from beq_false_of_ne h1];rfl
def wy:pr ups .inn [.int (k:Int),.lst<|nu th] S=.ok (.bl<|decide<|k∈th) S:=by
 show obB (if(true&&(nu th).all zAs)=true then some (zA7 (.int (k:Int))<|nu th) else none) id S=_;rw[gw,Bool.and_true,xCg rfl];by_cases e:k∈th
 .rw[lK e,xBd e];rfl
 .rw[fT e,xCn e];rfl
def pw(W:C5)(k:Nat):Int:=W.getD k 0
def kF(hk:k<W.length):((W++Y).map U.int)[k]?=some (.int<|pw W k):=by
 rw[xAw,List.getElem?_append_left hk];unfold pw;rw[xBz,xAk hk];rfl
def yI(b:Bx h r L (W++Y) S)(hk:k<W.length)(hl:(W++Y).length<=20000)(c:∀S',Bx h r L (W++(Y++[pw W k])) S'->Pc r S S'->K (.int ((W++Y).length:Nat)) S'):(Gd fw<|d+1).call 7 [.ref h,.int (k:Int)] S x K:=by
 erw[cd ⟨2,2,t7⟩,pd (cS b.ob rfl),pd (cE b.pl),pd (cS b.ob rfl),pd (cA b.pl<|kF hk),pd (cX b.pl<|by rw[xAa];show _<=2^24;lia)];have e:(W++Y).map U.int++[.int<|pw W k]=(W++(Y++[pw W k])).map U.int:=by rw[<- xAx,xAi (l₁:=W++Y)];rfl
 rw[e];have n1:Bx h r L (W++(Y++[pw W k]))<|set S r<|.lst<|(W++(Y++[pw W k])).map .int:=⟨atK b.pl b.ob (λz=>nomatch z),zAc b.pl⟩
 erw[pd (cS n1.ob rfl),pd (dX n1.pl),<-pd (v:=.int ((W++Y).length:Nat)) (S':=set S r<|.lst<|(W++(Y++[pw W k])).map .int) ?_ ?_]
 .show Res.ok (.int<|(((W++(Y++[pw W k])).map U.int).length:Int)-1) _=_;rw[xAa,<- xAx,xAb,xAt];congr 2;lia
 exact c _ n1 ⟨by rw[zAe];exact xAg _,λn1 z=>atN (Ne.symm n1) z⟩
def gv(L:C4):Nat->C4->C4
 |_,[]=>[]
 |n,k::r=>if k∈L then n::gv L (n+1) r else k::gv L n r
def nsl(L:C4)(xs:C4):C4:=xs.filter λk=>decide<|k∈L
def bxs(L:C4)(W:C5):Nat->C4->C3
 |_,[]=>[]
 |n,k::r=>if k∈L then .tup [.str "box",.int (k:Int),.tup [.str "name",.int (n:Int)],.int<|pw W k]::bxs L W (n+1) r else bxs L W n r
theorem gV:∀{xs:C4}{n:Nat},(gv L n xs).length=xs.length
 |[],_=>rfl
 |k::r,n=>by
  unfold gv;split <;> rw[xAo,xAo,gV]
structure P3(r g s:Nat)(S S':So):Prop where
 len:S.length<=S'.length
 ky:∀{q:Nat}{o:Ob},q≠r->q≠g->q≠s->at? S q=some o->at? S' q=some o
theorem qJ{E:Ee Prop}{kk:Sg->So->Prop}{a1 a2:B5 U}:∀{xs:C4}{Y:C5}{S:So}{gs:C4}{ss:C3}{a5 a6:B5 U},Bx h r L (W++Y) S->at? S g=some (.lst<|nu gs)->at? S s=some (.lst ss)->g≠s->g≠r->s≠r->(∀k∈xs,k<W.length)->(W++Y).length+xs.length<=15000->gs.length+xs.length<=15000->ss.length+xs.length<=15000->(∀S' a5 a6,Bx h r L (W++(Y++(nsl L xs).map (pw W))) S'->at? S' g=some (.lst<|nu<|gs++gv L (W++Y).length xs)->at? S' s=some (.lst<|ss++bxs L W (W++Y).length xs)->P3 r g s S S'->kk [some<|.ref h,a1,a2,some<|.ref g,some<|.ref s,a5,a6] S')->zAw (nu xs) (λv σ1 S2 nx=>tgt [5] true (Gd fw<|d+1) v σ1 λσ2=>bdN (Gd fw<|d+1) σ2 S2<|lpE E nx) [some<|.ref h,a1,a2,some<|.ref g,some<|.ref s,a5,a6] S kk
 |[],Y,S,gs,ss,a5,a6,b,hg,hs,_,_,_,_,_,_,_,hk=>hk S a5 a6 (by rw[show nsl L []=[] from rfl,List.map_nil,xB0];exact b) (by rw[gv,xB0];exact hg) (by rw[bxs,xB0];exact hs) ⟨xAg _,λ_ _ _ z=>z⟩
 |k::xs,Y,S,gs,ss,a5,a6,b,hg,hs,n1,n3,n5,hx,l1,l2,l3,hk=>by
  rw[xAo] at l1 l2 l3;have hkW:=hx k<|xAr ..;show zAw (.int (k:Int)::nu xs) _ _ _ _;rw[zAw];erw[pd (cS b.ob rfl),pd (wy),<-bI (λe=>?_) λe=>?_]
  .have e:=xBe e;erw[pd (cn b.ob rfl),<-yI (d:=d) b hkW () λS1 b1 p1=>?_];have g1:=p1.ky n3 hg;have s1:=p1.ky n5 hs;erw[pd (cE g1),pd (cX g1<|by show _<=2^24;unfold nu;rw[xAa];lia)];have eg:nu gs++[.int ((W++Y).length:Nat)]=nu (gs++[(W++Y).length]):=by unfold nu;rw[xAi];rfl
   rw[eg];have b2:Bx h r L (W++(Y++[pw W k]))<|set S1 g<|.lst<|nu<|gs++[(W++Y).length]:=⟨atK g1 b1.ob (λz=>nomatch z),atN n3 b1.pl⟩
   have g2:=zAc (o':=Ob.lst<|nu<|gs++[(W++Y).length]) g1;have s2:=atN (o':=Ob.lst<|nu<|gs++[(W++Y).length]) n1 s1;have p2:P3 r g s S<|set S1 g<|.lst<|nu<|gs++[(W++Y).length]:=⟨by rw[zAe];exact p1.len,λa c _ z=>atN (Ne.symm c)<|p1.ky a z⟩
   generalize set S1 g (Ob.lst<|nu<|gs++[(W++Y).length])=S2 at b2 g2 s2 p2;erw[pd (cE s2),pd (cS b2.ob rfl),pd (cA b2.pl<|kF hkW),pd (cX s2<|by show _<=2^24;lia)];have e1:(W++(Y++[pw W k])).length=(W++Y).length+1:=by rw[<- xAx,xAb,xAt]
   erw[<-qJ (xs:=xs) (Y:=Y++[pw W k]) (gs:=gs++[(W++Y).length]) (ss:=ss++[.tup [.str "box",.int (k:Int),.tup [.str "name",.int ((W++Y).length:Nat)],.int<|pw W k]]) ⟨atK s2 b2.ob (λz=>nomatch z),atN n5 b2.pl⟩ (atN (Ne.symm n1) g2) (zAc s2) n1 n3 n5 (λk z=>hx k<|xAs _ z) () (by rw[xAb,xAt];lia) (by rw[xAb,xAt];lia) λS' a5 a6 b' g' s' p'=>?_,<-hk S' a5 a6 ?_ ?_ ?_ ⟨by have:=p2.len;have:=p'.len;rw[zAe] at this;lia,λa c f z=>p'.ky a c f<|atN (Ne.symm f)<|p2.ky a c f z⟩]
   .rw[show nsl L (k::xs)=k::nsl L xs by unfold nsl;rw[List.filter_cons,xCg<|xBd e],xBs];rw[xAx] at b';exact b'
   .rw[e1,xAx] at g';rw[gv,xCg e];exact g'
   .rw[e1,xAx] at s';rw[bxs,xCg e];exact s'
  .have e:=of_decide_eq_false e;erw[pd (cE hg),pd (cX hg<|by show _<=2^24;unfold nu;rw[xAa];lia)];have eg:nu gs++[.int (k:Int)]=nu (gs++[k]):=by unfold nu;rw[xAi];rfl
   rw[eg];erw[<-qJ (xs:=xs) (Y:=Y) (gs:=gs++[k]) (ss:=ss) ⟨atK hg b.ob (λz=>nomatch z),atN n3 b.pl⟩ (zAc hg) (atN n1 hs) n1 n3 n5 (λk z=>hx k<|xAs _ z) () (by rw[xAb,xAt];lia) () λS' a5 a6 b' g' s' p'=>?_,<-hk S' a5 a6 ?_ ?_ ?_ ⟨by have:=p'.len;rw[zAe] at this;lia,λa c f z=>p'.ky a c f<|atN (Ne.symm c) z⟩]
   .rw[show nsl L (k::xs)=nsl L xs by unfold nsl;rw[List.filter_cons,xCf λz=>e<|xBe z]];exact b'
   .rw[xAx] at g';rw[gv,xCf e];exact g'
   .rw[bxs,xCf e];exact s'
end
structure BxB(W:C5)(L:C4)(xs:C4)(b:U)(n:Nat)(b':U)(ns:C4)(lv:Nat):Prop where
 h:∀{fw d h r:Nat}{Y:C5}{S:So}{x:D3}{K:D0},Bx h r L (W++Y) S->(W++Y).length=n->n+ns.length<=12000->(∀S',Bx h r L (W++(Y++ns.map (pw W))) S'->Pc r S S'->K (.tup [.tup (nu (gv L n xs)),b']) S')->(Gd fw (d+lv)).call 6 [.ref h,.tup (nu xs),b] S x K
structure BxS(W:C5)(L:C4)(u:U)(n:Nat)(u':U)(ns:C4)(lv:Nat):Prop where
 h:∀{fw d h r:Nat}{Y:C5}{S:So}{x:D3}{K:D0},Bx h r L (W++Y) S->(W++Y).length=n->n+ns.length<=12000->(∀S',Bx h r L (W++(Y++ns.map (pw W))) S'->Pc r S S'->K u' S')->(Gd fw (d+lv)).call 5 [.ref h,u] S x K
inductive zCt(W:List Int)(L:List Nat)(lv:Nat):Nat->List U->List U->List Nat->Prop
 |nil {n:Nat}:zCt W L lv n [] [] []
 |cons {n:Nat} {u u':U} {us us':List U} {ns ns2:List Nat} (h:BxS W L u n u' ns lv) (t:zCt W L lv (n+ns.length) us us' ns2):zCt W L lv n (u::us) (u'::us') (ns++ns2)
inductive zD1(W:List Int)(L:List Nat)(lv:Nat):Nat->List (List Nat×U)->List (List Nat×U)->List Nat->Prop
 |nil {n:Nat}:zD1 W L lv n [] [] []
 |cons {n:Nat} {xs:List Nat} {b b':U} {r r':List (List Nat×U)} {ns ns2:List Nat} (h:BxB W L xs b n b' ns lv) (t:zD1 W L lv (n+ns.length) r r' ns2):zD1 W L lv n ((xs,b)::r) ((gv L n xs,b')::r') (ns++ns2)
theorem zD1.ln{W:C5}{L:C4}{n:Nat}{bs:B4<|C4×U}(h:zD1 W L lv n bs bs' ns):bs'.map (·.1.length)=bs.map (·.1.length):=by
 induction h with
 |nil=>rfl
 |cons h t ih=>rw[xBs,xBs,ih,gV]
section
variable{W:C5}{L xs:C4}{lv n fw d h r:Nat}{S S':So}{K:D0}{us us' ys:C3}{ns:C4}{Y:C5}
def ja:Y++(ns++ns2).map (pw W)=(Y++ns.map (pw W))++ns2.map (pw W):=by rw[xAi,xAx]
def eZ:(W++(Y++ns.map (pw W))).length=(W++Y).length+ns.length:=by rw[<- xAx,xAb,xAa]
theorem yH(c:zCt W L lv n us us' ns):∀{Y:C5}{S:So}{ys:C3},Bx h r L (W++Y) S->(W++Y).length=n->n+ns.length<=12000->(∀S',Bx h r L (W++(Y++ns.map (pw W))) S'->Pc r S S'->K (.lst<|ys++us') S')->lcK (Gd fw<|d+lv) (lcB [1] true [none,none,some<|.ref h] none (cM "Boxer" "boxed_step" 5 J7 (Jo J2) [])<|Gd fw<|d+lv) us ys S K:=by
 induction c with
 |nil=>intro Y S ys b _ _ hk;rw[xB0] at hk;exact hk S (by rw[List.map_nil,xB0];exact b) Pc.refl
 |@cons n u u' us us' ns ns2 c t ih=>
  intro Y S ys b e hl hk;rw[xAb] at hl;erw[pd (cn b.ob rfl),<-c.h b e () λS1 b1 p1=>?_,<-ih (ys:=ys++[u']) b1 (by rw[eZ,e]) () λS2 b2 p2=>?_];rw[xAx];exact hk S2 (by rw[ja];exact b2) (p1.trans p2)
theorem yJ{bs:B4<|C4×U}(c:zD1 W L lv n bs bs' ns):∀{Y:C5}{S:So}{ys:C3},Bx h r L (W++Y) S->(W++Y).length=n->n+ns.length<=12000->(∀S',Bx h r L (W++(Y++ns.map (pw W))) S'->Pc r S S'->K (.lst<|ys++bs'.map bu) S')->lcK (Gd fw<|d+lv) (lcB [1,2] false [none,none,none,some<|.ref h] none (cM "Boxer" "boxed_body" 6 Ja (Yb J2 J7) [])<|Gd fw<|d+lv) (bs.map bu) ys S K:=by
 induction c with
 |nil=>intro Y S ys b _ _ hk;rw[show List.map bu []=[] from rfl,xB0] at hk;exact hk S (by rw[show List.map (pw W) []=[] from rfl,xB0];exact b) Pc.refl
 |@cons n xs b b' rr r' ns ns2 c t ih=>
  intro Y S ys bb e hl hk;rw[xAb] at hl;erw[pd (cn bb.ob rfl),<-c.h bb e () λS1 b1 p1=>?_,<-ih (ys:=ys++[bu (gv L n xs,b')]) b1 (by rw[eZ,e]) () λS2 b2 p2=>?_];rw[xAx];exact hk S2 (by rw[ja];exact b2) (p1.trans p2)
theorem xX{k:Str}{to:Nat}{bs:B4<|C4×U}(s:Sh k to rr own bs):pr ups .get2 [gR,.str k,.str k] S=.ok (.str<|bw k) S:=by
 cases s with
 |flat o _ _=>
  cases o with
  |none hh=>rcases hh with rfl|rfl|rfl|rfl|rfl|rfl <;> rfl
  |_=>rfl
 |_=>rfl
theorem lH:∀{xs:C4}{n:Nat},(bxs L W n xs).length<=xs.length
 |[],_=>xAg _
 |k::r,n=>by
  unfold bxs;split
  .rw[xAo,xAo];exact Nat.succ_le_succ lH
  .rw[xAo];exact Nat.le_succ_of_le lH
def iU(h:at? S g=some (.lst zs)):pr ups .tupOf [.ref g] S=.ok (.tup zs) S:=by
 show zA0 (.ref g) S=_;unfold zA0;dsimp only[lsU];rw[h]
def AZ{k:Str}{to:Nat}{bs:B4<|C4×U}(s:Sh k to rr own bs)(c:zD1 W L lv n bs bs' ns)(hb:bs.length<=100)(h2:1<=lv):BxS W L (.tup<|.str k::.int (to:Int)::rr) n (.tup<|.str (bw k)::.int (to:Int)::rst rr bs') ns<|lv+1:=⟨λ{fw d h r Y S x K} b e hl hk=>by
 obtain⟨l,rfl⟩:∃l,lv=l+1:=⟨lv-1,()⟩
 erw[cd (d:=d+(l+1)) ⟨2,3,t5⟩,qX (d:=d+l) s,pv (.tup<|bs.map bu),<-bI (λ_=>?_) λz=>?_]
 .refine yJ (ys:=[]) c b e hl λS1 b1 p1=>?_;rw[xC6];erw[pd cb,pd cb,pd (xX s),pd kG,<-pd (v:=.tup<|.str (bw k)::.int (to:Int)::rr) (S':=S1) ?_ ?_]
  .show fits (1+(rr.length+1)) _=_;exact zA3 (by have:=s.len;show _<=2^24;lia)
  exact vM (d:=d+l) s c.ln rfl (hk S1 b1 p1)
 .rw[xAa,xDk<|show bs.length<=sizeLine by show _<=2^24;lia] at z;cases z⟩
def vJ{a:U}(c:zCt W L lv (n+(nsl L xs).length) us us' ns)(hx:∀k∈xs,k<W.length)(hl:xs.length<=1000)(hu:us.length<=10000)(hu':us'.length<=10000)(h2:1<=lv):BxB W L xs (.tup [.tup us,a]) n (.tup [.tup<|bxs L W n xs++us',a]) (nsl L xs++ns)<|lv+1:=⟨λ{fw d h r Y S x K} b e hn hk=>by
 obtain⟨l,rfl⟩:∃l,lv=l+1:=⟨lv-1,()⟩
 rw[xAb] at hn;erw[cd (d:=d+(l+1)) ⟨3,7,t6⟩,pd (v:=.ref S.length) (S':=S++[.lst<|nu []]) (by rfl)];have k0:Kp S<|S++[Ob.lst<|nu []]:=⟨⋯,λz=>zAg z⟩
 have g0:at? (S++[Ob.lst<|nu []]) S.length=some (.lst<|nu []):=zAu;have l0:(S++[Ob.lst<|nu []]).length=S.length+1:=⋯
 generalize S++[Ob.lst<|nu []]=S1 at k0 g0 l0;erw[pd (v:=.ref S1.length) (S':=S1++[.lst []]) (by rfl)];have k1:Kp S1<|S1++[Ob.lst []]:=⟨⋯,λz=>zAg z⟩
 have s1:at? (S1++[Ob.lst []]) S1.length=some (.lst []):=zAu;have g1:=k1.ky g0;have l1:(S1++[Ob.lst []]).length=S1.length+1:=⋯
 have b1:=(b.kp k0).kp k1;generalize S1++[Ob.lst []]=S2 at k1 s1 g1 l1 b1;erw[pv (.tup<|nu xs)];have lr:=zA6 b.pl;refine qJ (d:=d+l) (Y:=Y) (gs:=[]) (ss:=[]) b1 g1 s1 () () () hx () (by show 0+_<=_;lia) (by show 0+_<=_;lia) λS3 a5 a6 b3 g3 s3 p3=>?_;rw[xC6,e] at g3;rw[xC6,e] at s3;erw[pd (cE s3),pd cb,pv (.tup us),<-bI (λ_=>?_) λz=>?_]
 .refine yH (ys:=[]) c b3 (by rw[eZ,e]) () λS4 b4 p4=>?_;rw[xC6];have g4:=p4.ky () g3;have s4:=p4.ky () s3;have bl:=lH (L:=L) (W:=W) (xs:=xs) (n:=n);refine pd (v:=.non) (S':=set S4 S1.length<|.lst<|bxs L W n xs++us') ?_ ?_
  .delta pr;dsimp only[zCk,lsT];rw[s4];dsimp only;rw[zA3<|by show _<=2^24;lia]
  have g5:=atN (o':=Ob.lst<|bxs L W n xs++us') (show S1.length≠S.length by lia) g4;have s5:=zAc (o':=Ob.lst<|bxs L W n xs++us') s4;have b5:Bx h r L (W++(Y++(nsl L xs).map (pw W)++ns.map (pw W)))<|set S4 S1.length<|.lst<|bxs L W n xs++us':=⟨atK s4 b4.ob (λz=>nomatch z),atN () b4.pl⟩
  have p5:Pc r S<|set S4 S1.length<|.lst<|bxs L W n xs++us':=⟨by rw[zAe];have:=p3.len;have:=p4.len;lia,λ{p o} a z=>by
   have lp:=zA6 z;exact atN () (p4.ky a<|p3.ky a () ()<|k1.ky<|k0.ky z)⟩
  generalize set S4 S1.length (Ob.lst<|bxs L W n xs++us')=S5 at g5 s5 b5 p5;erw[pd (iU g5),pd (iU s5),pd cO];exact hk S5 (by rw[ja];exact b5) p5
 .rw[xDk<|show us.length<=sizeLine by show _<=2^24;lia] at z;cases z⟩
end
section
variable{fw d lv f:Nat}{S S':So}{x:D3}{K:D0}{b u:U}{M M0 M1 M2 own:C4}{k:Str}{to:Nat}{r us:C3}{bs:B4<|C4×U}
structure MeB(b:U)(M:C4)(lv:Nat):Prop where
 h:∀{fw d:Nat}{S:So}{x:D3}{K:D0},(∀S' p,Kp S S'->S.length<=p->at? S' p=some (.lst (nu M))->K (.ref p) S')->(Gd fw (d+lv)).call 53 [b] S x K
inductive zDo(lv:Nat):List (List Nat×U)->List Nat->Prop
 |nil:zDo lv [] []
 |cons {xs:List Nat} {b:U} {r:List (List Nat×U)} {M M2:List Nat} (h:MeB b M lv) (t:zDo lv r M2):zDo lv ((xs,b)::r) (M++M2)
inductive zCn(lv:Nat):List U->List Nat->Prop
 |nil:zCn lv [] []
 |cons {k:Str} {to:Nat} {r us:List U} {own M1 M2:List Nat} {bs:List (List Nat×U)} (s:Sh k to r own bs) (hb:zDo lv bs M1) (ho:bs.length<=100) (t:zCn lv us M2):zCn lv (.tup (.str k::.int (to:Int)::r)::us) (own++M1++M2)
def mA:C8:=(J9 (Jf (J1 J7 Jc)<|J4 "start")<|Je<|sE<|cBM "list" .app J2<|Jo<|J1 J7 Jb)
def mB:C8:=rz7
def vk{k:Str}:pr ups .inn [.str k,.lst [.str "read",.str "set"]] S=.ok (.bl<|zA7 (.str k) [.str "read",.str "set"]) S:=rfl
def kQ:nu M0++[.int (j:Int)]=nu (M0++[j]):=by unfold nu;rw[xAi];rfl
theorem wZ(s:Sh k to r own bs){t:C8}(hf:at? S f=some (.lst<|nu M0))(hl:M0.length<=10000)(hk:t (Gd fw d) [a0,some<|.ref f,some<|.tup<|.str k::.int (to:Int)::r,a3,a4] (Fx.set S f<|.lst<|nu<|M0++own) E):(sQ mA<|sQ mB t) (Gd fw d) [a0,some<|.ref f,some<|.tup<|.str k::.int (to:Int)::r,a3,a4] S E:=by
 have lf:(nu M0).length+1<=2^24:=by unfold nu;rw[xAa];lia
 have none:own=[]->k≠"start"->zA7 (.str k) [.str "read",.str "set"]=false->(sQ mA<|sQ mB t) (Gd fw d) [a0,some<|.ref f,some<|.tup<|.str k::.int (to:Int)::r,a3,a4] S E:=λe h1 h2=>by
  rw[e,xB0,zBh hf] at hk;erw[pd cb,pd (cx h1),bF,pd cb,pv (.lst [.str "read",.str "set"]),pd vk];rw[h2];exact bF hk
 have two:∀{j:Nat}{r':C3},own=[j]->r=.int (j:Int)::r'->k≠"start"->zA7 (.str k) [.str "read",.str "set"]=true->(sQ mA<|sQ mB t) (Gd fw d) [a0,some<|.ref f,some<|.tup<|.str k::.int (to:Int)::r,a3,a4] S E:=λ{j r'} e e2 h1 h2=>by
  subst e2;erw[pd cb,pd (cx h1),bF,pd cb,pv (.lst [.str "read",.str "set"]),pd vk];rw[h2];erw[bT,pd (cE hf),pd (cm (j:=2) rfl),pd (cX hf lf)];rw[kQ,<- e];exact hk
 cases s with
 |flat o _ _=>
  cases o with
  |start=>
   erw[pd cb,pd (cQ rfl),bT,pd (cE hf),pd cO,pd (cX hf lf)];rw[kQ];erw[pd cb,pv (.lst [.str "read",.str "set"]),pv (.bl false)];exact bF hk
  |read=>exact two rfl rfl ∅ (by rfl)
  |set=>exact two rfl rfl ∅ (by rfl)
  |none hh=>rcases hh with rfl|rfl|rfl|rfl|rfl|rfl <;> exact none rfl ∅ (by rfl)
 |func=>exact none rfl ∅ (by rfl)
 |iff ha=>exact none rfl ∅ (by rfl)
 |mat ha=>exact none rfl ∅ (by rfl)
 |try_=>exact none rfl ∅ (by rfl)
def mD:C8:=(Je<|sE<|cBM "list" .ext J2<|Jo<|Jg 53 J8)
theorem xB{a2:B5 U}(c:zDo lv bs M):∀{S:So}{M0:C4}{a3 a4:B5 U},at? S f=some (.lst<|nu M0)->M0.length+M.length<=10000->(∀S' a3 a4,at? S' f=some (.lst<|nu<|M0++M)->Pc f S S'->kk [a0,some<|.ref f,a2,a3,a4] S')->zAw (bs.map bu) (λv σ1 S2 nx=>tgt [3,4] false (Gd fw<|d+lv) v σ1 λσ2=>mD (Gd fw<|d+lv) σ2 S2<|lpE E nx) [a0,some<|.ref f,a2,a3,a4] S kk:=by
 induction c with
 |nil=>intro S M0 a3 a4 hf _ hk;exact hk S a3 a4 (by rw[xB0];exact hf) Pc.refl
 |@cons xs b rr M M2 h t ih=>
  intro S M0 a3 a4 hf hl hk;rw[xAb] at hl;rw[xBs,zAw];erw[pd (cE hf),<-h.h λS1 p k1 lp hp=>?_];have lf:=zA6 hf;have f1:=k1.ky hf;refine pd (v:=.non) (S':=Fx.set S1 f<|.lst<|nu<|M0++M) ?_ ?_
  .delta pr;dsimp only[zCk,lsT];rw[f1];dsimp only;rw[hp];dsimp only;rw[zA3<|by unfold nu;rw[xAa,xAa];show _<=2^24;lia];unfold nu;rw[xAi]
  refine ih (M0:=M0++M) (zAc f1) (by rw[xAb];lia) λS' a3 a4 f' p'=>?_;refine hk S' a3 a4 (by rw[<- xAx];exact f') ⟨by have:=p'.len;rw[zAe] at this;have:=k1.len;lia,λ{q o} a z=>p'.ky a<|atN (Ne.symm a)<|k1.ky z⟩
theorem xA(c:zCn lv us M):∀{S:So}{M0:C4}{a2 a3 a4:B5 U},at? S f=some (.lst<|nu M0)->M0.length+M.length<=10000->(∀S' a2 a3 a4,at? S' f=some (.lst<|nu<|M0++M)->Pc f S S'->kk [a0,some<|.ref f,a2,a3,a4] S')->zAw us (λv σ1 S2 nx=>tgt [2] true (Gd fw<|d+(lv+1)) v σ1 λσ2=>(sQ mA<|sQ mB<|Je<|sF (J6 .seq<|Jg 54 J7) [3,4] false mD) (Gd fw<|d+(lv+1)) σ2 S2<|lpE E nx) [a0,some<|.ref f,a2,a3,a4] S kk:=by
 induction c with
 |nil=>intro S M0 a2 a3 a4 hf _ hk;exact hk S a2 a3 a4 (by rw[xB0];exact hf) Pc.refl
 |@cons k to r us own M1 M2 bs s hb ho t ih=>
  intro S M0 a2 a3 a4 hf hl hk;rw[xAb,xAb] at hl;rw[zAw];erw[wZ s hf (),ia (d:=d+lv) s,pv (.tup<|bs.map bu)];have f1:=zAc (o':=Ob.lst<|nu<|M0++own) hf;have e:d+(lv+1)=(d+1)+lv:=by lia
  rw[e];refine xB (d:=d+1) hb f1 (by rw[xAb];lia) λS2 a3 a4 f2 p2=>?_;rw[e] at ih;refine ih f2 (by rw[xAb,xAb];lia) λS' a2 a3 a4 f' p'=>?_;refine hk S' a2 a3 a4 (by rw[<- xAx,<- xAx];exact f') ⟨by have:=p'.len;have:=p2.len;rw[zAe] at this;lia,λ{q o} a z=>p'.ky a<|p2.ky a<|atN (Ne.symm a) z⟩
def vt{a:U}(c:zCn lv us M)(hl:M.length<=10000):MeB (.tup [.tup us,a]) M<|lv+2:=⟨λ{fw d S x K} hk=>by
 erw[cd (d:=d+(lv+1)) ⟨1,5,t53⟩,pd (v:=.ref S.length) (S':=S++[.lst<|nu []]) (by rfl)];have k0:Kp S<|S++[Ob.lst<|nu []]:=⟨⋯,λz=>zAg z⟩
 have g0:at? (S++[Ob.lst<|nu []]) S.length=some (.lst<|nu []):=zAu;generalize S++[Ob.lst<|nu []]=S1 at k0 g0;refine pd cb ?_;refine pv (.tup us) ?_;refine xA c g0 (by show 0+_<=_;lia) λS' a2 a3 a4 f' p'=>?_;exact hk S' S.length ⟨by have:=k0.len;have:=p'.len;lia,λ{p o} z=>p'.ky (by have:=zA6 z;lia)<|k0.ky z⟩ (xAg _) f'⟩
end
section
variable{fw d f:Nat}{S S':So}{x:D3}{K:D0}{us:C3}{ins:B4<|C4×U}{ms:C4}
inductive SI:List U->List (List Nat×U)->List Nat->Prop
 |nil:SI [] [] []
 |cons {k:Str} {to:Nat} {r us:List U} {own ms:List Nat} {bs ins:List (List Nat×U)} (s:Sh k to r own bs) (t:SI us ins ms):SI (.tup (.str k::.int (to:Int)::r)::us) (bs++ins) (own++ms)
inductive Bf:List (List Nat×U)->List Nat->Nat->Prop
 |nil:Bf [] [] 0
 |cons {xs:List Nat} {us:List U} {a:U} {r ins:List (List Nat×U)} {ms mi mr:List Nat} {wi wr:Nat} (s:SI us ins ms) (hi:Bf ins mi wi) (hr:Bf r mr wr):Bf ((xs,.tup [.tup us,a])::r) (ms++mi++mr) (1+wi+wr)
inductive Fl:List (List Nat×U)->List Nat->Prop
 |nil:Fl [] []
 |cons {xs:List Nat} {us:List U} {a:U} {r ins:List (List Nat×U)} {ms m:List Nat} (s:SI us ins ms) (t:Fl r m):Fl ((xs,.tup [.tup us,a])::r) (ms++m)
theorem Bf.len{r:B4<|C4×U}{m:C4}{w:Nat}(h:Bf r m w):r.length<=w:=by
 induction h with
 |nil=>exact xAg _
 |cons _ _ _ _ ih=>rw[xAo];lia
theorem Bf.app{r r2:B4<|C4×U}{m m2:C4}{w w2:Nat}(h:Bf r m w)(h2:Bf r2 m2 w2):Bf (r++r2) (m++m2)<|w+w2:=by
 induction h with
 |nil=>rw[Nat.zero_add];exact h2
 |cons s hi _ _ ih=>rw[Nat.add_assoc,xAx];exact .cons s hi ih
theorem Fl.snoc{r:B4<|C4×U}{m:C4}(h:Fl r m){xs:C4}{a:U}(s:SI us ins ms):Fl (r++[(xs,.tup [.tup us,a])])<|m++ms:=by
 induction h with
 |nil=>have:=Fl.cons (xs:=xs) (a:=a) s .nil;rwa[xB0] at this
 |cons s _ ih=>rw[xAx];exact .cons s ih
theorem yl{a2:B5 U}(c:SI us ins ms):∀{S:So}{F:B4<|C4×U}{a4:B5 U},at? S f=some (.lst<|F.map bu)->F.length+ins.length<=10000->(∀S' a4,at? S' f=some (.lst<|(F++ins).map bu)->Pc f S S'->kk [a0,some<|.ref f,a2,a3,a4] S')->zAw us (λv σ1 S2 nx=>tgt [4] true (Gd fw<|d+1) v σ1 λσ2=>(Je<|sE<|cBM "list" .ext J2<|Jo<|Jg 0 J8) (Gd fw<|d+1) σ2 S2<|lpE E nx) [a0,some<|.ref f,a2,a3,a4] S kk:=by
 induction c with
 |nil=>intro S F a4 hf _ hk;exact hk S a4 (by rw[xB0];exact hf) Pc.refl
 |@cons k to r us own ms bs ins s t ih=>
  intro S F a4 hf hl hk;rw[xAb] at hl;rw[zAw];erw[pd (cE hf),qX s,<-pd (v:=.non) (S':=Fx.set S f<|.lst<|(F++bs).map bu) ?_ ?_]
  .delta pr;dsimp only[zCk,lsT];rw[hf];dsimp only;rw[zA3 (by rw[xAa,xAa];show _<=2^24;lia),xAi]
  refine ih (F:=F++bs) (zAc hf) (by rw[xAb];lia) λS' a4 f' p'=>?_;exact hk S' a4 (by rw[<- xAx];exact f') ⟨by have:=p'.len;rw[zAe] at this;lia,λ{q o} a z=>p'.ky a<|atN (Ne.symm a) z⟩
def wT:TTx Prop:=tB<|J3 .lt J7<|J6 .len J2
def wB:C8:=rz8
theorem A5:∀{w n:Nat}{S:So}{dn pn:B4<|C4×U}{md mp:C4}{a3 a4:B5 U},Bf pn mp w->Fl dn md->at? S f=some (.lst<|(dn++pn).map bu)->dn.length+w<=9000->w<n->(∀S' F mF a2 a3 a4,Fl F mF->(∀k,k∈mF↔k∈md\/k∈mp)->at? S' f=some (.lst<|F.map bu)->Pc f S S'->F.length<=9000->mF.length=md.length+mp.length->kk [a0,some<|.ref f,a2,a3,a4] S')->whK (λσ1 S1 k=>wT (Gd fw<|d+1) σ1 S1 (λx S2=>E.x x σ1 S2) k) (λσ1 S1 nx=>wB (Gd fw<|d+1) σ1 S1<|lpE E nx) (Gd fw<|d+1).br (Gd fw<|d+1).fail n [a0,some<|.ref f,some<|.int (dn.length:Nat),a3,a4] S kk:=by
 intro w;induction w with
 |zero=>
  intro n S dn pn md mp a3 a4 b fl hf hl hn hk;obtain⟨n,rfl⟩:∃m,n=m+1:=⟨n-1,()⟩
  have:pn=[]/\mp=[]:=by
   generalize hw:0=w' at b;cases b with
   |nil=>exact⟨rfl,rfl⟩
   |cons=>lia
  let⟨rfl,rfl⟩:=this;rw[xB0] at hf;rw[whK];erw[pd (dX hf),pv (.bl<|decide<|((dn.length:Nat):Int)<(((dn.map bu).length:Nat):Int))];rw[xAa,xCn ()];erw[bF];exact hk S dn md _ a3 a4 fl (λk=>⋯) hf Pc.refl () rfl
 |succ w ih=>
  intro n S dn pn md mp a3 a4 b fl hf hl hn hk;obtain⟨n,rfl⟩:∃m,n=m+1:=⟨n-1,()⟩
  generalize hw:w+1=w' at b;cases b with
  |nil=>cases hw
  |@cons xs us a r ins ms mi mr wi wr s hi hr=>
   have lr:=hr.len;have li:=hi.len;rw[whK];erw[pd (dX hf),pv (.bl<|decide<|((dn.length:Nat):Int)<((((dn++(xs,U.tup [.tup us,a])::r).map bu).length:Nat):Int))];rw[xAa,xAb,xAo,xBd ()];erw[bT,pd (cA (v:=bu (xs,.tup [.tup us,a])) hf<|by rw[xAw,xCl<|xAg _,Nat.sub_self];rfl),pd cO,pd cb,pv (.tup us),<-yl s hf (by rw[xAb,xAo];lia) λS1 a4 f1 p1=>?_,pv (.int<|(dn.length:Int)+1)];rw[show((dn.length:Int)+1)=(((dn++[(xs,U.tup [.tup us,a])]).length:Nat):Int) by rw[xAb,xAt];lia];have e:dn++(xs,U.tup [.tup us,a])::r++ins=(dn++[(xs,U.tup [.tup us,a])])++(r++ins):=⋯
   rw[e] at f1;have b2:=hr.app hi;rw[show wr+wi=w by lia] at b2;erw[<-ih b2 (fl.snoc s) f1 (by rw[xAb,xAt];lia) () λS' F mF a2 a3 a4 fl' hm f' p' hF hL=>?_,<-hk S' F mF a2 a3 a4 fl' (λk=>?_) f' (p1.trans p') hF (by rw[hL];simp only[xAb];lia)];rw[hm k];simp only[xAj];constructor
   .rintro((h|h)|(h|h)) <;> simp[h]
   .rintro(h|((h|h)|h)) <;> simp[h]
def A4{us:C3}{a:U}{w:Nat}(b:Bf [([],.tup [.tup us,a])] M w)(hw:w<=8000)(hfw:9000<=fw)(hk:∀S' p F mF,Fl F mF->(∀k,k∈mF↔k∈M)->Kp S S'->S.length<=p->at? S' p=some (.lst<|F.map bu)->F.length<=9000->mF.length=M.length->K (.ref p) S'):(Gd fw<|d+2).call 2 [.tup [.tup us,a]] S x K:=by
 erw[cd (d:=d+1) ⟨1,5,t2⟩,pd (v:=.ref S.length) (S':=S++[.lst [bu ([],.tup [.tup us,a])]]) (by rfl)];have k0:Kp S<|S++[Ob.lst [bu ([],.tup [.tup us,a])]]:=⟨⋯,λz=>zAg z⟩
 have g0:at? (S++[Ob.lst [bu ([],.tup [.tup us,a])]]) S.length=some (.lst<|([]++[([],U.tup [.tup us,a])]).map bu):=zAu;generalize S++[Ob.lst [bu ([],.tup [.tup us,a])]]=S1 at k0 g0;show whK (λσ1 S1 k=>wT (Gd fw<|d+1) σ1 S1 _ k) (λσ1 S1 nx=>wB (Gd fw<|d+1) σ1 S1 _) (Gd fw<|d+1).br (Gd fw<|d+1).fail (Gd fw<|d+1).fuel _ S1 _;rw[fuel];refine A5 (dn:=[]) b .nil g0 (by show 0+_<=_;lia) () λS' F mF a2 a3 a4 fl hm f' p' hF hL=>?_;exact hk S' S.length F mF fl (λk=>by rw[hm k];simp) ⟨by have:=k0.len;have:=p'.len;lia,λ{p o} z=>p'.ky (by have:=zA6 z;lia)<|k0.ky z⟩ (xAg _) f' hF (by rw[hL];show 0+_=_;lia)
end
section
variable{fw d f:Nat}{S S':So}{x:D3}{K:D0}{us:C3}{ins:B4<|C4×U}{ms D M:C4}{k j:Nat}
def dk(D:C4):B4<|Key×U:=D.map λk:Nat=>((.inl (k:Int):Key),.bl true)
def zCw(k:Nat)(D:C4):C4:=if k∈D then D else D++[k]
def zBy:C4->C4->C4
 |D,[]=>D
 |D,k::r=>zBy (zCw k D) r
def qW:j∈zCw k D↔j∈D\/j=k:=by
 unfold zCw;split
 .next h=>exact⟨.inl,λz=>z.elim id λe=>by rw[e];exact h⟩
 .simp
theorem eR:∀{l D:C4},j∈zBy D l↔j∈D\/j∈l
 |[],D=>by simp[zBy]
 |k::r,D=>by
  rw[zBy,eR,qW,xAv];constructor
  .rintro((h|h)|h) <;> simp[h]
  .rintro(h|h|h) <;> simp[h]
theorem ie:∀{l r D:C4},zBy D (l++r)=zBy (zBy D l) r
 |[],r,D=>rfl
 |k::l,r,D=>by show zBy (zCw k D) (l++r)=_;rw[ie];rfl
def uC(h:D.Nodup):(zCw k D).Nodup:=by
 unfold zCw;split
 .exact h
 .next e=>exact xBq.mpr ⟨h,⋯,λa ha b hb e2=>e<|by rw[xAm.mp hb] at e2;rw[<- e2];exact ha⟩
theorem jq:∀{l D:C4},D.Nodup->(zBy D l).Nodup
 |[],_,h=>h
 |k::r,_,h=>jq (l:=r)<|uC h
def uD:(zCw k D).length<=D.length+1:=by
 unfold zCw;split
 .lia
 .rw[xAb,xAt];exact xAg _
theorem yr:((dk D).any λkv=>decide<|kv.1=(.inl (k:Int):Key))=decide (k∈D):=by
 induction D with
 |nil=>rfl
 |cons y r ih=>
  show(decide ((.inl (y:Int):Key)=.inl (k:Int))||(dk r).any _)=_;rw[ih];by_cases e:y=k
  .subst e;simp
  .have e1:¬ ((.inl (y:Int):Key)=.inl (k:Int)):=λz=>e (by injection z with z;exact Int.ofNat.inj z);rw[xCn e1,Bool.false_or];have e2:¬ k=y:=λz=>e z.symm;simp[e2]
def yq:putK (.inl (k:Int)) (.bl true) (dk D)=dk (zCw k D):=by
 unfold Fx.putK zCw;rw[yr];by_cases e:k∈D
 .rw[xCg<|xBd e,xCg e];unfold dk;rw[List.map_map];refine List.map_congr_left λy _=>?_;show(if _ then _ else _)=_;split <;> rfl
 .rw[xCf λz=>e<|xBe z,xCf e];unfold dk;rw[xAi];rfl
def lU(h:at? S f=some (.dct<|dk D))(hl:D.length<=20000):pr ups .seti [.ref f,.int (k:Int),.bl true] S=.ok .non (Fx.set S f<|.dct<|dk<|zCw k D):=by
 show zBg f (.int (k:Int)) (.bl true) S=_;unfold zBg;rw[h];show fits ((dk D).length+1) (.ok .non<|Fx.set S f<|.dct<|putK (.inl (k:Int)) (.bl true)<|dk D)=_;rw[yq];exact zA3 (by unfold dk;rw[xAa];show _<=2^24;lia)
def nA:C8:=rz9
theorem zY{k:Str}{to:Nat}{r:C3}{bs:B4<|C4×U}(s:Sh k to r own bs){a2:B5 U}(hf:at? S f=some (.dct<|dk D))(hl:D.length<=20000)(hk:E.nx [a0,some<|.ref f,a2,a3,some<|.tup<|.str k::.int (to:Int)::r]<|Fx.set S f<|.dct<|dk<|zBy D own):(Je nA) (Gd fw d) [a0,some<|.ref f,a2,a3,some<|.tup<|.str k::.int (to:Int)::r] S E:=by
 have none:own=[]->k≠"start"->zA7 (.str k) [.str "read",.str "set"]=false->(Je nA) (Gd fw d) [a0,some<|.ref f,a2,a3,some<|.tup<|.str k::.int (to:Int)::r] S E:=λe h1 h2=>by
  rw[e,show zBy D []=D from rfl,zBh hf] at hk;erw[pd cb,pd (cx h1),bF,pd cb,pv (.bl<|zA7 (.str k) [.str "read",.str "set"])];rw[h2];exact bF hk
 have two:∀{j:Nat}{r':C3},own=[j]->r=.int (j:Int)::r'->k≠"start"->zA7 (.str k) [.str "read",.str "set"]=true->(Je nA) (Gd fw d) [a0,some<|.ref f,a2,a3,some<|.tup<|.str k::.int (to:Int)::r] S E:=λ{j r'} e e2 h1 h2=>by
  subst e2;rw[e] at hk;erw[pd cb,pd (cx h1),bF,pd cb,pv (.bl<|zA7 (.str k) [.str "read",.str "set"])];rw[h2];erw[bT,pd (cm (j:=2) rfl),pd (lU hf hl)];exact hk
 cases s with
 |flat o _ _=>
  cases o with
  |start=>
   erw[pd cb,pd (cQ rfl),bT,pd cO,pd (lU hf hl),<-hk]
  |read=>exact two rfl rfl ∅ (by rfl)
  |set=>exact two rfl rfl ∅ (by rfl)
  |none hh=>rcases hh with rfl|rfl|rfl|rfl|rfl|rfl <;> exact none rfl ∅ (by rfl)
 |func=>exact none rfl ∅ (by rfl)
 |iff ha=>exact none rfl ∅ (by rfl)
 |mat ha=>exact none rfl ∅ (by rfl)
 |try_=>exact none rfl ∅ (by rfl)
theorem jr:∀{l D:C4},(zBy D l).length<=D.length+l.length
 |[],_=>xAg _
 |k::r,D=>by
  have:=jr (l:=r) (D:=zCw k D);have:=uD (k:=k) (D:=D);rw[zBy,xAo];lia
theorem v4{a2:B5 U}(c:SI us ins ms):∀{S:So}{D:C4}{a4:B5 U},at? S f=some (.dct<|dk D)->D.length+ms.length<=20000->(∀S' a4,at? S' f=some (.dct<|dk<|zBy D ms)->Pc f S S'->kk [a0,some<|.ref f,a2,a3,a4] S')->zAw us (λv σ1 S2 nx=>tgt [4] true (Gd fw d) v σ1 λσ2=>(Je nA) (Gd fw d) σ2 S2<|lpE E nx) [a0,some<|.ref f,a2,a3,a4] S kk:=by
 induction c with
 |nil=>intro S D a4 hf _ hk;exact hk S a4 hf Pc.refl
 |@cons k to r us own ms bs ins s t ih=>
  intro S D a4 hf hl hk;rw[xAb] at hl;have:=jr (l:=own) (D:=D);rw[zAw];erw[zY s hf (),<-ih (D:=zBy D own) (zAc hf) () λS' a4 f' p'=>?_];exact hk S' a4 (by rw[ie];exact f') ⟨by have:=p'.len;rw[zAe] at this;lia,λ{q o} a z=>p'.ky a<|atN (Ne.symm a) z⟩
theorem ze{F:B4<|C4×U}{m:C4}(c:Fl F m):∀{S:So}{D:C4}{a2 a3 a4:B5 U},at? S f=some (.dct<|dk D)->D.length+m.length<=20000->(∀S' a2 a3 a4,at? S' f=some (.dct<|dk<|zBy D m)->Pc f S S'->kk [a0,some<|.ref f,a2,a3,a4] S')->zAw (F.map bu) (λv σ1 S2 nx=>tgt [2,3] false (Gd fw d) v σ1 λσ2=>(Je<|sF (J6 .seq<|J1 Ja Jc) [4] true<|Je nA) (Gd fw d) σ2 S2<|lpE E nx) [a0,some<|.ref f,a2,a3,a4] S kk:=by
 induction c with
 |nil=>intro S D a2 a3 a4 hf _ hk;exact hk S a2 a3 a4 hf Pc.refl
 |@cons xs us a r ins ms m s t ih=>
  intro S D a2 a3 a4 hf hl hk;rw[xAb] at hl;have:=jr (l:=ms) (D:=D);rw[xBs,zAw];erw[pd cb,pv (.tup us),<-v4 s hf () λS1 a4 f1 p1=>?_,<-ih f1 () λS' a2 a3 a4 f' p'=>?_];exact hk S' a2 a3 a4 (by rw[ie];exact f')<|p1.trans p'
def lof(M:C4):C4:=(zCq ((zBy [] M).map λk:Nat=>(k:Int))).map Int.toNat
end
section
variable{fw d f:Nat}{S S':So}{x:D3}{K:D0}{us:C3}{D M:C4}{k:Nat}{a:U}{w:Nat}
def ph{z:Int}(h:z∈zCq (D.map λk:Nat=>(k:Int))):∃k∈D,z=(k:Int):=by
 let⟨k,hk,rfl⟩:=xA2.mp<|dH.mem_iff.mp h;exact⟨k,hk,rfl⟩
def xE(nd:D.Nodup)(hm:∀k,k∈D↔k∈M):(zCq (D.map λk:Nat=>(k:Int))).map U.int=nu (lof M):=by
 have pm:D.Perm<|zBy [] M:=(List.perm_ext_iff_of_nodup nd<|jq (l:=M) xC7).mpr λk=>by rw[hm k,eR];simp
 have e:zCq (D.map λk:Nat=>(k:Int))=zCq ((zBy [] M).map λk:Nat=>(k:Int)):=iL (dH.trans<|pm.map _) iK;rw[e];unfold nu lof;rw[List.map_map];refine List.map_congr_left λz hz=>?_;let⟨k,_,rfl⟩:=ph hz;rfl
def mS:k∈lof M↔k∈M:=by
 unfold lof;constructor
 .intro h;let⟨z,hz,e⟩:=xA2.mp h;let⟨j,hj,rfl⟩:=ph hz;have:j=k:=e;rw[<- this];rcases eR.mp hj with z|z
  .cases z
  .exact z
 .intro h;exact xA2.mpr ⟨(k:Int),dH.mem_iff.mpr<|xA2.mpr ⟨k,eR.mpr<|.inr h,rfl⟩,rfl⟩
theorem m9:∀{D:C4},zFr (dk D)=some (D.map λk:Nat=>(k:Int))
 |[]=>rfl
 |k::r=>by
  show(zFr<|dk r).map ((k:Int)::·)=_;rw[m9];rfl
def wv(h:at? S f=some (.dct<|dk D))(hl:D.length<64):pr ups .srt [.ref f] S=.ok (.lst<|(zCq (D.map λk:Nat=>(k:Int))).map .int) S:=by
 have e:zDq S (.ref f)=some (D.map λk:Nat=>(k:Int)):=by
  unfold zDq;dsimp only[lsT];rw[h];exact m9
 show(match zDq S (.ref f) with|some ns=>(match decide (ns.length<64) with|true=>Res.ok (.lst<|(zCq ns).map .int) S|false=>.stuck)|none=>.stuck)=_;rw[e];dsimp only;rw[xBd<|by rw[xAa];exact hl]
def zd(b:Bf [([],.tup [.tup us,a])] M w)(hw:w<=8000)(hM:M.length<=10000)(h63:∀D:C4,D.Nodup->(∀k∈D,k∈M)->D.length<=63)(hfw:9000<=fw)(hk:∀S',Kp S S'->K (.lst<|nu<|lof M) S'):(Gd fw<|d+3).call 3 [.tup [.tup us,a]] S x K:=by
 erw[cd (d:=d+2) ⟨1,5,t3⟩,pd (v:=.ref S.length) (S':=S++[.dct<|dk []]) (by rfl)];have k0:Kp S<|S++[Ob.dct<|dk []]:=⟨⋯,λz=>zAg z⟩
 have g0:at? (S++[Ob.dct<|dk []]) S.length=some (.dct<|dk []):=zAu;have l0:(S++[Ob.dct<|dk []]).length=S.length+1:=⋯
 generalize S++[Ob.dct<|dk []]=S1 at k0 g0 l0;erw[<-A4 (d:=d) b hw hfw λS2 p F mF fl hm k2 lp hp hF hL=>?_,<-pd (v:=.tup<|F.map bu) (S':=Fx.set S2 p .dead) ?_ ?_]
 .show zE8 .tup (.ref p) S2=_;unfold zE8;dsimp only;rw[hp]
 have g2:=atN (o':=Ob.dead) (show p≠S.length by lia)<|k2.ky g0;refine ze fl g2 (by show 0+_<=_;lia) λS' a2 a3 a4 f' p'=>?_;have nd:=jq (l:=mF) (D:=[]) xC7;have hm2:∀k,k∈zBy [] mF↔k∈M:=λk=>by rw[eR,<- hm k];simp
 erw[pd (wv f' (by have:=h63 _ nd λk z=>(hm2 k).mp z;lia))];rw[xE nd hm2];exact hk S' ⟨by have:=k0.len;have:=k2.len;have:=p'.len;rw[zAe] at this;lia,λ{q o} z=>p'.ky (by have:=zA6 z;lia)<|atN (by have:=zA6 z;lia)<|k2.ky<|k0.ky z⟩
end
section
variable{fw d lv:Nat}{S:So}{x:D3}{K:D0}{us:C3}{M ns:C4}{W:C5}{a b':U}{w:Nat}
def sg(b:Bf [([],.tup [.tup us,a])] M w)(hw:w<=8000)(hM:M.length<=10000)(h63:∀D:C4,D.Nodup->(∀k∈D,k∈M)->D.length<=63)(hfw:9000<=fw)(c:BxB W (lof M) [] (.tup [.tup us,a]) W.length b' ns<|lv+4)(hl:W.length+ns.length<=12000)(hk:∀S',Kp S S'->K (.tup [b',.tup<|(W++ns.map (pw W)).map .int]) S'):(Gd fw<|d+(lv+5)).call 8 [.tup [.tup [.tup us,a],.tup<|W.map .int]] S x K:=by
 erw[cd (d:=d+(lv+4)) ⟨1,5,t8⟩,pd cI,pd (v:=.ref S.length) (S':=S++[.ins "Boxer" []]) (by rfl),cd (d:=d+(lv+3)) ⟨3,3,t4⟩,<-zd (d:=d+lv) b hw hM h63 hfw λS2 k2=>?_];have h2:=k2.ky<|zAu (l:=S) (o:=Ob.ins "Boxer" []);erw[pd (fB (fs':=[("set_ones",.lst<|nu<|lof M)]) h2 rfl rfl)];have h3:=zAc (o':=Ob.ins "Boxer" [("set_ones",.lst<|nu<|lof M)]) h2;have k3:Kp S<|set S2 S.length<|Ob.ins "Boxer" [("set_ones",.lst<|nu<|lof M)]:=⟨by rw[zAe];have:=k2.len;rw[xAb] at this;lia,λz=>atN (by have:=zA6 z;lia)<|k2.ky<|zAg z⟩
 generalize set S2 S.length (Ob.ins "Boxer" [("set_ones",.lst<|nu<|lof M)])=S3 at h3 k3;erw[pd (v:=.ref S3.length) (S':=S3++[.lst<|W.map .int]) (by rfl)];have h4:at? (S3++[Ob.lst<|W.map .int]) S.length=some (.ins "Boxer" [("set_ones",.lst<|nu<|lof M)]):=zAg h3;erw[pd (fB (fs':=[("set_ones",.lst<|nu<|lof M),("places",.ref S3.length)]) h4 rfl rfl)];have lh:=zA6 h3;have n4:Bx S.length S3.length (lof M) (W++[])<|set (S3++[Ob.lst<|W.map .int]) S.length<|.ins "Boxer" [("set_ones",.lst<|nu<|lof M),("places",.ref S3.length)]:=⟨zAc h4,by rw[xB0];exact atN () (zAu (l:=S3))⟩
 have k4:Kp S<|set (S3++[Ob.lst<|W.map .int]) S.length<|.ins "Boxer" [("set_ones",.lst<|nu<|lof M),("places",.ref S3.length)]:=⟨by rw[zAe,xAb];have:=k3.len;lia,λz=>atN (by have:=zA6 z;lia)<|zAg<|k3.ky z⟩
 have ls3:S.length<=S3.length:=k3.len;generalize set (S3++[Ob.lst<|W.map .int]) S.length (Ob.ins "Boxer" [("set_ones",.lst<|nu<|lof M),("places",.ref S3.length)])=S4 at n4 k4;erw[pd (cn n4.ob rfl),<-c.h (d:=d) n4 (by rw[xB0]) hl λS6 n6 p6=>?_,pd cO,pd (cS n6.ob rfl)];rw[xC6] at n6;erw[pd (iU n6.pl)];exact hk S6 ⟨by have:=k4.len;have:=p6.len;lia,λ{q o} z=>p6.ky (by have:=zA6 z;lia)<|k4.ky z⟩
end
structure Wl(w m nw:Nat)(M:C4)(W X:C5)(n:Nat)(S:So):Prop where
 di:at? S w=some (.dct [(.inr "set",.ref m),(.inr "many",.int (W.length:Nat)),(.inr "places",.tup (X.map .int)),(.inr "new",.ref nw)])
 se:at? S m=some (.lst (nu M))
 ne:at? S nw=some (.lst (nu (List.range' W.length (n-W.length))))
 lo:W.length<=n
section
variable{fw d w m nw p:Nat}{S S':So}{x:D3}{K:D0}{M L xs:C4}{W X Y Z:C5}{n k:Nat}
def Wl.kp(h:Wl w m nw M W X n S)(k:Kp S S'):Wl w m nw M W X n S':=⟨k.ky h.di,k.ky h.se,k.ky h.ne,h.lo⟩
def pT(ht:at? S p=some (.lst<|nu M)):pr ups .inn [.int (k:Int),.ref p] S=.ok (.bl<|decide<|k∈M) S:=by
 by_cases e:k∈M
 .rw[zt ht e,xBd e]
 .show obB (inU S (.int (k:Int))<|.ref p) id S=_;unfold inU;dsimp only;rw[ht];dsimp only;rw[gw,fT e,xCn e];rfl
def yQ(hk:k<W.length):((W++Y).map U.int)[k]?=some (.int<|pw W k):=kF hk
def yR{v:Int}(e:(W++Y).length=n):((W++(Y++(v::Z))).map U.int)[n]?=some (.int v):=by
 rw[xAw,<- xAx,xCl (),e,Nat.sub_self];rfl
def gF{i j:Int}:pr ups .ne [.int i,.int j] S=.ok (.bl (!decide (i=j))) S:=rfl
def prs(a b:C4):C3:=(a.zip b).map λz=>.tup [.int (z.1:Int),.int (z.2:Int)]
theorem qx{E:Ee Prop}{kk:Sg->So->Prop}{a0 a1 a2 a3:B5 U}{g:Nat}(hLM:∀k,k∈L↔k∈M):∀{xs:C4}{n:Nat}{Y:C5}{S:So}{ss:C3}{a6 a7:B5 U},Wl w m nw M W (W++(Y++((nsl L xs).map (pw W)++Z))) n S->(W++Y).length=n->at? S g=some (.lst ss)->g≠nw->g≠m->m≠nw->(∀k∈xs,k<W.length)->n+xs.length<=15000->ss.length+xs.length<=15000->(∀S' a6 a7,Wl w m nw M W (W++(Y++((nsl L xs).map (pw W)++Z))) (n+(nsl L xs).length) S'->at? S' g=some (.lst<|ss++bxs L W n xs)->Pd nw g S S'->kk [a0,a1,a2,a3,some<|.ref w,some<|.ref g,a6,a7] S')->zAw (prs xs<|gv L n xs) (λv σ1 S2 nx=>tgt [6,7] false (Gd fw d) v σ1 λσ2=>bdO (Gd fw d) σ2 S2<|lpE E nx) [a0,a1,a2,a3,some<|.ref w,some<|.ref g,a6,a7] S kk
 |[],n,Y,S,ss,a6,a7,h,_,hg,_,_,_,_,_,_,hk=>hk S a6 a7 h (by rw[bxs,xB0];exact hg) ⟨xAg _,λ_ _ z=>z⟩
 |k::xs,n,Y,S,ss,a6,a7,h,e,hg,n1,n2,n3,hx,l1,l2,hk=>by
  rw[xAo] at l1 l2;have hkW:=hx k<|xAr ..;by_cases hm:k∈L
  .have en:nsl L (k::xs)=k::nsl L xs:=by unfold nsl;rw[List.filter_cons,xCg<|xBd hm]
   rw[en] at h hk;rw[gv,xCg hm];show zAw (.tup [.int (k:Int),.int (n:Int)]::prs xs (gv L (n+1) xs)) _ _ _ _;rw[zAw];erw[pd (cN h.di rfl),pd (pT h.se)];rw[xBd<|(hLM k).mp hm];erw[bT,pv (.bl true),bF,pd (cN h.di rfl)];rw[xBs] at h hk;have hX:((W++(Y++((pw W k::(nsl L xs).map (pw W))++Z))).map U.int)[n]?=some (.int<|pw W k):=yR e;have hXk:((W++(Y++((pw W k::(nsl L xs).map (pw W))++Z))).map U.int)[k]?=some (.int<|pw W k):=yQ hkW;have hlt:n<(W++(Y++((pw W k::(nsl L xs).map (pw W))++Z))).length:=by
    rw[<- xAx,xAb,e,List.cons_append,xAo];lia
   have lo:=h.lo;generalize eX:(W++(Y++((pw W k::(nsl L xs).map (pw W))++Z)))=X at h hk hX hXk hlt;erw[pv (.bl<|decide<|((W.length:Nat):Int)<=(n:Int))];rw[xBd ()];erw[bT,pd (cN h.di rfl),pv (.int ((X.map U.int).length:Nat)),pv (.bl<|decide<|(n:Int)<((X.map U.int).length:Nat))];rw[xBd<|by rw[xAa];lia];erw[bF,pd (cN h.di rfl),pd (cE h.ne),pd (cX h.ne<|by unfold nu;rw[xAa,List.length_range'];show _<=2^24;lia)];have er:nu (List.range' W.length<|n-W.length)++[.int (n:Int)]=nu (List.range' W.length<|n+1-W.length):=by
    rw[kQ];congr 1;rw[show n+1-W.length=(n-W.length)+1 by lia,List.range'_concat];congr 2;lia
   rw[er];have h1:Wl w m nw M W X (n+1)<|Fx.set S nw<|.lst<|nu<|List.range' W.length<|n+1-W.length:=⟨atK h.ne h.di (λz=>nomatch z),atN (Ne.symm n3) h.se,zAc h.ne,()⟩
   have g1:=atN (o':=Ob.lst<|nu<|List.range' W.length<|n+1-W.length) (Ne.symm n1) hg;have p1:Pd nw g S<|Fx.set S nw<|.lst<|nu<|List.range' W.length<|n+1-W.length:=⟨by rw[zAe];exact xAg _,λa _ z=>atN (Ne.symm a) z⟩
   generalize Fx.set S nw (Ob.lst<|nu<|List.range' W.length<|n+1-W.length)=S1 at h1 g1 p1;erw[pd (cE g1),pd (cN h1.di rfl),pd (cm hXk),pd (cX g1<|by show _<=2^24;lia)];have h2:Wl w m nw M W X (n+1)<|Fx.set S1 g<|.lst<|ss++[.tup [.str "box",.int (k:Int),.tup [.str "name",.int (n:Int)],.int<|pw W k]]:=⟨atK g1 h1.di (λz=>nomatch z),atN n2 h1.se,atN n1 h1.ne,h1.lo⟩
   have g2:=zAc (o':=Ob.lst<|ss++[.tup [.str "box",.int (k:Int),.tup [.str "name",.int (n:Int)],.int<|pw W k]]) g1;have p2:Pd nw g S<|Fx.set S1 g<|.lst<|ss++[.tup [.str "box",.int (k:Int),.tup [.str "name",.int (n:Int)],.int<|pw W k]]:=⟨by rw[zAe];exact p1.len,λa b z=>atN (Ne.symm b)<|p1.ky a b z⟩
   generalize Fx.set S1 g (Ob.lst<|ss++[.tup [.str "box",.int (k:Int),.tup [.str "name",.int (n:Int)],.int<|pw W k]])=S2 at h2 g2 p2;erw[pd (cN h2.di rfl),pd (cm hX),pd (cN h2.di rfl),pd (cm hXk),pd gF];rw[xBd rfl];erw[bF];have eX2:W++((Y++[pw W k])++((nsl L xs).map (pw W)++Z))=X:=by rw[<- eX];simp
   rw[<- eX2] at h2;refine qx hLM (xs:=xs) (n:=n+1) (Y:=Y++[pw W k]) h2 (by rw[<- xAx,xAb,xAt,e]) g2 n1 n2 n3 (λk z=>hx k<|xAs _ z) () (by rw[xAb,xAt];lia) λS' a6 a7 h' g' p'=>?_;rw[eX2] at h';refine hk S' a6 a7 (by rw[xAo,show n+((nsl L xs).length+1)=n+1+(nsl L xs).length by lia];exact h') ?_ ⟨xCk p2.len p'.len,λa b z=>p'.ky a b<|p2.ky a b z⟩;rw[bxs,xCg hm];rw[xAx] at g';exact g'
  .have en:nsl L (k::xs)=nsl L xs:=by unfold nsl;rw[List.filter_cons,xCf λz=>hm<|xBe z]
   rw[en] at h hk;rw[gv,xCf hm];show zAw (.tup [.int (k:Int),.int (k:Int)]::prs xs (gv L n xs)) _ _ _ _;rw[zAw];erw[pd (cN h.di rfl),pd (pT h.se)];rw[xCn λz=>hm<|(hLM k).mpr z];erw[bF,pd gF];rw[xBd rfl];erw[bF,<-qx hLM (xs:=xs) (n:=n) (Y:=Y) h e hg n1 n2 n3 (λk z=>hx k<|xAs _ z) () () λS' a6 a7 h' g' p'=>?_,<-hk S' a6 a7 h' ?_ p'];rw[bxs,xCf hm];exact g'
end
def nB{n:Nat}{xs:C3}(h:Flt n<|.tup xs)(hn:n<=80):pr ups .eq [.tup xs,.tup xs] S=.ok (.bl true) S:=by
 show Fx.eqU id (.tup xs) (.tup xs) S=_;unfold Fx.eqU;rw[show eqS (.tup xs) (.tup xs)=none from rfl];dsimp only;rw[fq<|h.up hn];rfl
def fE{n:Nat}{xs:C3}(h:Flt n<|.tup xs)(hn:n<=80):pr ups .ne [.tup xs,.tup xs] S=.ok (.bl false) S:=by
 show Fx.neU (.tup xs) (.tup xs) S=_;unfold Fx.neU;rw[show eqS (.tup xs) (.tup xs)=none from rfl];dsimp only;rw[fq<|h.up hn];rfl
structure LoB(W:C5)(M L:C4)(xs:C4)(b:U)(n:Nat)(b':U)(ns:C4)(lv:Nat):Prop where
 h:∀{fw d w m nw:Nat}{Y Z:C5}{S:So}{x:D3}{K:D0},Wl w m nw M W (W++(Y++(ns.map (pw W)++Z))) n S->(W++Y).length=n->m≠nw->n+ns.length<=12000->(∀S',Wl w m nw M W (W++(Y++(ns.map (pw W)++Z))) (n+ns.length) S'->Pc nw S S'->K (.bl true) S')->(Gd fw (d+lv)).call 58 [.tup (nu xs),b,.tup (nu (gv L n xs)),b',.ref w] S x K
inductive zCy(W:List Int)(M L:List Nat)(lv:Nat):Nat->List (List Nat×U)->List (List Nat×U)->List Nat->Prop
 |nil {n:Nat}:zCy W M L lv n [] [] []
 |cons {n:Nat} {xs:List Nat} {b b':U} {r r':List (List Nat×U)} {ns ns2:List Nat} (h:LoB W M L xs b n b' ns lv) (t:zCy W M L lv (n+ns.length) r r' ns2):zCy W M L lv n ((xs,b)::r) ((gv L n xs,b')::r') (ns++ns2)
theorem zCy.ln{W:C5}{L:C4}{n:Nat}{bs:B4<|C4×U}(h:zCy W M L lv n bs bs' ns):bs'.map (·.1.length)=bs.map (·.1.length):=by
 induction h with
 |nil=>rfl
 |cons h t ih=>rw[xBs,xBs,ih,gV]
section
variable{fw d lv w m nw n:Nat}{S S':So}{x:D3}{K:D0}{M L xs ns own:C4}{W X Y Z:C5}{bs bs':B4<|C4×U}{k:Str}{to:Nat}{r:C3}
def dS:(W++(Y++((ns++ns2).map (pw W)++Z)))=W++(Y++(ns.map (pw W)++(ns2.map (pw W)++Z))):=by rw[xAi,xAx]
def dR:(W++(Y++((ns++ns2).map (pw W)++Z)))=W++((Y++ns.map (pw W))++(ns2.map (pw W)++Z)):=by rw[xAi,xAx,xAx]
theorem yX(c:zCy W M L lv n bs bs' ns):∀{Y Z:C5}{S:So}{a5 a6 a7 a8:B5 U},Wl w m nw M W (W++(Y++(ns.map (pw W)++Z))) n S->(W++Y).length=n->m≠nw->n+ns.length<=12000->(∀S' a5 a6 a7 a8,Wl w m nw M W (W++(Y++(ns.map (pw W)++Z))) (n+ns.length) S'->Pc nw S S'->kk [a0,a1,some<|.ref w,a3,a4,a5,a6,a7,a8] S')->zAw (zBl (bs.map bu)<|bs'.map bu) (λv σ1 S2 nx=>zD3 [5,6] [7,8] (Gd fw<|d+lv) v σ1 λσ2=>zI2 (Gd fw<|d+lv) σ2 S2<|lpE E nx) [a0,a1,some<|.ref w,a3,a4,a5,a6,a7,a8] S kk:=by
 induction c with
 |nil=>intro Y Z S a5 a6 a7 a8 h _ _ _ hk;exact hk S a5 a6 a7 a8 h Pc.refl
 |@cons n xs b b' rr r' ns ns2 c t ih=>
  intro Y Z S a5 a6 a7 a8 h e hm hl hk;rw[xAb] at hl hk;show zAw (.tup [bu (xs,b),bu (gv L n xs,b')]::zBl (rr.map bu) (r'.map bu)) _ _ _ _;rw[zAw];erw[<-c.h (Y:=Y) (Z:=ns2.map (pw W)++Z) (by rw[<- dS];exact h) e hm () λS1 h1 p1=>?_,bF,<-ih (Y:=Y++ns.map (pw W)) (Z:=Z) (by rw[<- dR,dS];exact h1) (by rw[eZ,e]) hm () λS2 a5 a6 a7 a8 h2 p2=>?_];exact hk S2 a5 a6 a7 a8 (by rw[dR,<- Nat.add_assoc];exact h2) (p1.trans p2)
def yU(s:Sh k to r own bs)(hb:bs≠[])(c:zCy W M L lv n bs bs' ns)(fl:Flt 70<|.tup<|.str k::.int (to:Int)::rst r bs')(h1:1<=lv)(h:Wl w m nw M W (W++(Y++(ns.map (pw W)++Z))) n S)(e:(W++Y).length=n)(hm:m≠nw)(hl:n+ns.length<=12000)(hk:∀S',Wl w m nw M W (W++(Y++(ns.map (pw W)++Z))) (n+ns.length) S'->Pc nw S S'->K (.bl true) S'):(Gd fw<|d+(lv+1)).call 57 [.tup<|.str k::.int (to:Int)::r,.tup<|.str k::.int (to:Int)::rst r bs',.ref w] S x K:=by
 obtain⟨l,rfl⟩:∃l,lv=l+1:=⟨lv-1,()⟩
 have lr:=s.lg c.ln;erw[cd (d:=d+(l+1)) ⟨3,9,t57⟩,pv (.bl true),bF,pv (.int ((rst r bs').length+2:Nat)),pv (.int (r.length+2:Nat)),pd gF];rw[xBd<|by rw[lr]];erw[bF,pd cb,pd cb,pd (v:=.bl false) (S':=S) (by show Res.ok (.bl (!decide (k=k))) S=_;rw[xBd rfl];rfl),bF,ia (d:=d+l) s];let⟨bs2,rfl,_,s2⟩:=s.box hb c.ln (to':=to);erw[ia (d:=d+l) s2,wg (d:=d+l) s hb c.ln,pd (fE fl ∅),bF,<-pd (v:=.tup<|zBl (bs.map bu)<|bs2.map bu) (S':=S) ?_ ?_]
 .have ll:(bs.map bu).length=(bs2.map bu).length:=by
   have:=congrArg List.length c.ln;rw[xAa,xAa] at this;rw[xAa,xAa,this]
  show(match Nat.beq (bs.map bu).length (bs2.map bu).length with|true=>Res.ok (.tup<|zBl (bs.map bu)<|bs2.map bu) S|false=>.stuck)=_;rw[ll,Nat.beq_refl]
 refine yX (a3:=some<|.lst<|bs.map bu) c h e hm hl λS' a5 a6 a7 a8 h' p'=>?_;exact hk S' h' p'
end
inductive zCb(W:List Int)(M L:List Nat)(lv:Nat):Nat->List U->List U->List Nat->Prop
 |nil {n:Nat}:zCb W M L lv n [] [] []
 |cons {n to:Nat} {k:Str} {r us us':List U} {own ns ns2:List Nat} {bs bs':List (List Nat×U)} (s:Sh k to r own bs) (c:zCy W M L lv n bs bs' ns) (hb:bs.length<=100) (fl:Flt 70 (.tup (.str (bw k)::.int (to:Int)::rst r bs'))) (t:zCb W M L lv (n+ns.length) us us' ns2):zCb W M L lv n (.tup (.str k::.int (to:Int)::r)::us) (.tup (.str (bw k)::.int (to:Int)::rst r bs')::us') (ns++ns2)
theorem zCb.ln{W:C5}{L:C4}{n:Nat}{us us':C3}(h:zCb W M L lv n us us' ns):us.length=us'.length:=by
 induction h with
 |nil=>rfl
 |cons _ _ _ _ _ ih=>rw[xAo,xAo,ih]
section
variable{fw d lv w m nw n:Nat}{S S':So}{x:D3}{K:D0}{M L xs ns own:C4}{W X Y Z:C5}{bs bs':B4<|C4×U}{k:Str}{to:Nat}{r us us':C3}
def wdk:B4<|Key×U:=[(.inr "start",.str "box"),(.inr "read",.str "load"),(.inr "set",.str "store")]
def yY{v:U}(h:zAq (.inr k) wdk=some v):v=.str (bw k):=by
 unfold bw;by_cases e1:k="start"
 .subst e1;cases h;rfl
 rw[xCf e1];by_cases e2:k="read"
 .subst e2;cases h;rfl
 rw[xCf e2];by_cases e3:k="set"
 .subst e3;cases h;rfl
 exfalso;unfold wdk zAq zAq zAq zAq at h;rw[xCf λz=>e1 (by injection z with z;exact z.symm),xCf λz=>e2 (by injection z with z;exact z.symm),xCf λz=>e3<|by injection z with z;exact z.symm] at h;cases h
def yV(h:(zAq (.inr k) wdk).isSome=false):bw k=k:=
 iz (λz=>by rw[z] at h;cases h) (λz=>by rw[z] at h;cases h) (λz=>by rw[z] at h;cases h)
def Ar{q:Nat}(h:at? S q=some (.dct wdk)):pr ups .inn [.str k,.ref q] S=.ok (.bl (zAq (.inr k) wdk).isSome) S:=by
 show obB (inU S (.str k)<|.ref q) id S=_;unfold inU;dsimp only;rw[h];rfl
def yn:pr ups .eq [.lst [],.lst []] S=.ok (.bl true) S:=by rfl
def ym{z:U}:pr ups .eq [.lst<|z::zs,.lst []] S=.ok (.bl false) S:=by rfl
theorem zb(h2:1<=lv)(c:zCb W M L lv n us us' ns):∀{Y Z:C5}{S:So}{a3 a4 a5:B5 U},Wl w m nw M W (W++(Y++(ns.map (pw W)++Z))) n S->(W++Y).length=n->m≠nw->n+ns.length<=12000->(∀S' a3 a4 a5,Wl w m nw M W (W++(Y++(ns.map (pw W)++Z))) (n+ns.length) S'->Pc nw S S'->kk [a0,a1,some<|.ref w,a3,a4,a5] S')->zAw (zBl us us') (λv σ1 S2 nx=>tgt [3,4] false (Gd fw<|d+(lv+1)) v σ1 λσ2=>zHu (Gd fw<|d+(lv+1)) σ2 S2<|lpE E nx) [a0,a1,some<|.ref w,a3,a4,a5] S kk:=by
 induction c with
 |nil=>intro Y Z S a3 a4 a5 h _ _ _ hk;exact hk S a3 a4 a5 h Pc.refl
 |@cons n to k r us us' own ns ns2 bs bs' s c hb fl t ih=>
  intro Y Z S a3 a4 a5 h e hm hl hk;rw[xAb] at hl hk;show zAw (.tup [.tup<|.str k::.int (to:Int)::r,.tup<|.str (bw k)::.int (to:Int)::rst r bs']::zBl us us') _ _ _ _;rw[zAw];erw[pd (v:=.ref S.length) (S':=S++[.dct wdk]) (by rfl)];have k0:Kp S (S++[Ob.dct wdk]):=⟨⋯,λz=>zAg z⟩
  have g0:at? (S++[Ob.dct wdk]) S.length=some (.dct wdk):=zAu;have h0:=h.kp k0;have p0:Pc nw S<|S++[Ob.dct wdk]:=⟨k0.len,λ_ z=>k0.ky z⟩
  generalize S++[Ob.dct wdk]=S1 at k0 g0 h0 p0;have fin:∀{S2:So},Wl w m nw M W (W++(Y++((ns++ns2).map (pw W)++Z))) (n+ns.length) S2->Pc nw S S2->zAw (zBl us us') (λv σ1 S2 nx=>tgt [3,4] false (Gd fw<|d+(lv+1)) v σ1 λσ2=>zHu (Gd fw<|d+(lv+1)) σ2 S2<|lpE E nx) [a0,a1,some<|.ref w,some<|.tup<|.str k::.int (to:Int)::r,some<|.tup<|.str (bw k)::.int (to:Int)::rst r bs',some<|.ref S.length] S2 kk:=λ{S2} hh pp=>by
   refine ih (Y:=Y++ns.map (pw W)) (Z:=Z) (by rw[<- dR];exact hh) (by rw[eZ,e]) hm () λS3 a3 a4 a5 h3 p3=>?_;exact hk S3 a3 a4 a5 (by rw[dR,<- Nat.add_assoc];exact h3)<|pp.trans p3
  erw[pd cb,pd (Ar g0)];cases hbs:bs with
  |nil=>
   subst hbs;have e2:bs'=[]/\ns=[]:=by cases c;exact⟨rfl,rfl⟩
   let⟨rfl,rfl⟩:=e2;rw[iP] at fl fin⊢;by_cases hw:(zAq (.inr k) wdk).isSome=true
   .rw[hw];erw[bT];let⟨v,hv⟩:=Option.isSome_iff_exists.mp hw;rw[yY hv] at hv;erw[pd cb,pd (cN g0 hv),pd kG,<-pd (v:=.tup<|.str (bw k)::.int (to:Int)::r) (S':=S1) ?_ ?_]
    .show fits (1+(r.length+1)) _=_;exact zA3 (by have:=s.len;show _<=2^24;lia)
    erw[pd (fE fl ∅),bF,<-fin h0 p0]
   .have hw:(zAq (.inr k) wdk).isSome=false:=by simpa using hw
    rw[hw];erw[bF];rw[yV hw] at fl fin⊢;erw[ia (d:=d+lv) s,pv (.lst []),pd yn,bT,pd (fE fl ∅),bF];exact fin h0 p0
  |cons b0 br=>
   have hne:bs≠[]:=λz=>by rw[hbs] at z;cases z
   let⟨q1,q2,q3,q4⟩:=s.nw hne;rw[show(zAq (.inr k) wdk).isSome=false by
    unfold wdk zAq zAq zAq zAq;rw[xCf (λz=>q1<|by injection z with z;exact z.symm),xCf (λz=>q2<|by injection z with z;exact z.symm),xCf λz=>q3<|by injection z with z;exact z.symm];rfl]
   erw[bF];have ek:bw k=k:=iz q1 q2 q3;rw[ek] at fl fin⊢;erw[ia (d:=d+lv) s,pv (.lst []),pd (v:=.bl false) (S':=S1) (by rw[hbs];exact ym),bF,<-yU (d:=d) (Z:=ns2.map (pw W)++Z) s hne c fl h2 (by rw[<- dS];exact h0) e hm () λS2 hh pp=>?_,bF];exact fin (by rw[dS];exact hh)<|p0.trans pp
def za(h2:1<=lv)(c:zCb W M L lv n us us' ns)(h:Wl w m nw M W (W++(Y++(ns.map (pw W)++Z))) n S)(e:(W++Y).length=n)(hm:m≠nw)(hl:n+ns.length<=12000)(hk:∀S',Wl w m nw M W (W++(Y++(ns.map (pw W)++Z))) (n+ns.length) S'->Pc nw S S'->K (.bl true) S'):(Gd fw<|d+(lv+2)).call 56 [.tup us,.tup us',.ref w] S x K:=by
 have ll:=c.ln;erw[cd (d:=d+(lv+1)) ⟨3,6,t56⟩,pv (.int (us.length:Nat)),pv (.int (us'.length:Nat)),pd gF];rw[xBd<|by rw[ll]];erw[bF,<-pd (v:=.tup<|zBl us us') (S':=S) ?_ ?_]
 .show(match Nat.beq us.length us'.length with|true=>Res.ok (.tup<|zBl us us') S|false=>.stuck)=_;rw[ll,Nat.beq_refl]
 refine zb h2 c h e hm hl λS' a3 a4 a5 h' p'=>?_;exact hk S' h' p'
end
section
variable{fw d lv w m nw n:Nat}{S S':So}{x:D3}{K:D0}{M L xs ns:C4}{W:C5}{us us' A B:C3}{a:U}
theorem l8:∀{a b:C4},zBl (nu a) (nu b)=prs a b
 |[],[]=>rfl
 |[],_::_=>rfl
 |_::_,[]=>rfl
 |x::a,y::b=>by
  show .tup [.int (x:Int),.int (y:Int)]::zBl (nu a) (nu b)=.tup [.int (x:Int),.int (y:Int)]::prs a b;rw[l8]
def pP:pr ups (.sl false false true) [.tup<|A++B,.int (A.length:Nat)] S=.ok (.tup A) S:=by
 show slice false (.tup<|A++B) none (some ((A.length:Nat):Int)) S=_;unfold slice;dsimp only;rw[HT.sIx_nat,HT.sIx_none,xAb,Nat.min_eq_left ()];split
 .next h=>
  have:=(xBe h).2;have:B.length=0:=()
  rw[List.length_eq_zero_iff.mp this,xB0]
 .unfold zDl;rw[HT.sIx_nat,HT.sIx_none,xAb,Nat.min_eq_left ()];simp
def ww:pr ups (.sl false true false) [.tup<|A++B,.int (A.length:Nat)] S=.ok (.tup B) S:=by
 show slice false (.tup<|A++B) (some ((A.length:Nat):Int)) none S=_;unfold slice;dsimp only;rw[HT.sIx_nat,HT.sIx_none,xAb,Nat.min_eq_left ()];split
 .next h=>
  have:=(xBe h).1;rw[List.length_eq_zero_iff.mp this,xC6]
 .unfold zDl;rw[HT.sIx_nat,HT.sIx_none,xAb,Nat.min_eq_left ()];simp
def xt(h:at? S g=some (.lst A))(fl:∀z∈A,Flt 79 z):pr ups .ne [.lst A,.ref g] S=.ok (.bl false) S:=by
 show Fx.neU (.lst A) (.ref g) S=_;unfold Fx.neU;rw[show eqS (.lst A) (.ref g)=none from rfl];dsimp only;rw[show lsT S (.ref g)=some A by show(match at? S g with | some (.lst xs)=>some xs | _=>none)=_;rw[h]];rw[show zEm (lsT S<|.lst A) (some A)=false by show(!Nat.beq A.length A.length)=false;rw[Nat.beq_refl];rfl];dsimp only;rw[show same S 80 (.lst A) (.ref g)=true by
  show(match lsT S (.lst A),lsT S (.ref g) with|some xs,some ys=>zA9 (same S 79) xs ys|_,_=>_)=true;rw[show lsT S (.ref g)=some A by show(match at? S g with|some (.lst xs)=>some xs|_=>none)=_;rw[h]];exact fj λz hz=>fq<|fl z hz]
theorem jo:∀{xs:C4}{n:Nat},∀z∈bxs L W n xs,Flt 2 z
 |[],_,_,h=>nomatch h
 |k::r,n,z,h=>by
  rw[bxs] at h;split at h
  .rcases xAv.mp h with rfl|h
   .exact .tup<|.cons .str<|.cons .int<|.cons (.tup<|.cons .str<|.cons .int .nil)<|.cons .int .nil
   .exact jo z h
  .exact jo z h
def vv{az:C3}(hLM:∀k,k∈L↔k∈M)(h2:1<=lv)(c:zCb W M L lv (n+(nsl L xs).length) us us' ns)(hx:∀k∈xs,k<W.length)(hxl:xs.length<=1000)(fa:Flt 2<|.tup az):LoB W M L xs (.tup [.tup us,.tup az]) n (.tup [.tup<|bxs L W n xs++us',.tup az]) (nsl L xs++ns)<|lv+3:=⟨λ{fw d w m nw Y Z S x K} h e hm hl hk=>by
 rw[xAb] at hl hk;erw[cd (d:=d+(lv+2)) ⟨5,8,t58⟩,pv (.bl true),bF,pv (.int ((nu<|gv L n xs).length:Nat)),pv (.int ((nu xs).length:Nat)),pd gF];rw[xBd<|by unfold nu;rw[xAa,xAa,gV]];erw[bF,pd cO,pd cO,pd (fE fa ∅),bF,pd (v:=.ref S.length) (S':=S++[.lst []]) (by rfl)];have k0:Kp S<|S++[Ob.lst []]:=⟨⋯,λz=>zAg z⟩
 have g0:at? (S++[Ob.lst []]) S.length=some (.lst []):=zAu;have h0:=h.kp k0;have lm:=zA6 h.se;have ln:=zA6 h.ne;generalize S++[Ob.lst []]=S1 at k0 g0 h0;refine pd (v:=.tup<|prs xs<|gv L n xs) (S':=S1) ?_ ?_
 .show(match Nat.beq (nu xs).length (nu<|gv L n xs).length with|true=>Res.ok (.tup<|zBl (nu xs)<|nu<|gv L n xs) S1|false=>.stuck)=_;rw[show(nu<|gv L n xs).length=(nu xs).length by unfold nu;rw[xAa,xAa,gV],Nat.beq_refl,l8]
 refine qx (Z:=ns.map (pw W)++Z) hLM (by rw[<- dS];exact h0) e g0 () () hm hx () (by show 0+_<=_;lia) λS2 a6 a7 hh gg pp=>?_;rw[xC6] at gg;refine pd cb ?_;refine pd (dX gg) ?_;refine pd pP ?_;refine pv (.lst<|bxs L W n xs) ?_;refine pd (xt gg λz hz=>(jo z hz).up ∅) ?_;refine bF ?_;refine pd cb ?_;refine pd cb ?_;refine pd (dX gg) ?_;refine pd ww ?_;refine za (d:=d) (Y:=Y++(nsl L xs).map (pw W)) (Z:=Z) h2 c (by rw[<- dR,dS];exact hh) (by rw[eZ,e]) hm () λS3 h3 p3=>?_;exact hk S3 (by rw[dR,<- Nat.add_assoc];exact h3) ⟨by have:=k0.len;have:=pp.len;have:=p3.len;lia,λ{q o} z1 z=>p3.ky z1<|pp.ky z1 (by have:=zA6 z;lia)<|k0.ky z⟩⟩
end
section
variable{W:C5}{L M M' xs ns:C4}{lv lv' n lo mi hi:Nat}{b b' u:U}{us vs us':C3}{bs bs':B4<|C4×U}
def MeB.up(s:MeB b M lv)(h:lv<=lv'):MeB b M lv':=⟨λ{fw d S x K} k=>by
 have:=s.h (fw:=fw) (d:=d+(lv'-lv)) (x:=x) k;rw[show d+(lv'-lv)+lv=d+lv' by lia] at this;exact this⟩
def BxB.up(s:BxB W L xs b n b' ns lv)(h:lv<=lv'):BxB W L xs b n b' ns lv':=⟨λ{fw d h q Y S x K} a b c k=>by
 have:=s.h (fw:=fw) (d:=d+(lv'-lv)) (x:=x) a b c k;rw[show d+(lv'-lv)+lv=d+lv' by lia] at this;exact this⟩
def LoB.up(s:LoB W M L xs b n b' ns lv)(h:lv<=lv'):LoB W M L xs b n b' ns lv':=⟨λ{fw d w m nw Y Z S x K} a b c e k=>by
 have:=s.h (fw:=fw) (d:=d+(lv'-lv)) (x:=x) a b c e k;rw[show d+(lv'-lv)+lv=d+lv' by lia] at this;exact this⟩
def BxS.up{u':U}(s:BxS W L u n u' ns lv)(h:lv<=lv'):BxS W L u n u' ns lv':=⟨λ{fw d h q Y S x K} a b c k=>by
 have:=s.h (fw:=fw) (d:=d+(lv'-lv)) (x:=x) a b c k;rw[show d+(lv'-lv)+lv=d+lv' by lia] at this;exact this⟩
theorem zDo.up(s:zDo lv bs M)(h:lv<=lv'):zDo lv' bs M:=by
 induction s with
 |nil=>exact .nil
 |cons a _ ih=>exact .cons (a.up h) ih
theorem zCy.up(s:zCy W M L lv n bs bs' ns)(h:lv<=lv'):zCy W M L lv' n bs bs' ns:=by
 induction s with
 |nil=>exact .nil
 |cons a _ ih=>exact .cons (a.up h) ih
theorem zCn.up(s:zCn lv us M)(h:lv<=lv'):zCn lv' us M:=by
 induction s with
 |nil=>exact .nil
 |cons s hb ho _ ih=>exact .cons s (hb.up h) ho ih
theorem zCt.up(s:zCt W L lv n us us' ns)(h:lv<=lv'):zCt W L lv' n us us' ns:=by
 induction s with
 |nil=>exact .nil
 |cons a _ ih=>exact .cons (a.up h) ih
theorem zCb.up(s:zCb W M L lv n us us' ns)(h:lv<=lv'):zCb W M L lv' n us us' ns:=by
 induction s with
 |nil=>exact .nil
 |cons s c hb fl _ ih=>exact .cons s (c.up h) hb fl ih
theorem zCn.app{M2:C4}(a:zCn lv us M)(b:zCn lv vs M2):zCn lv (us++vs)<|M++M2:=by
 induction a with
 |nil=>exact b
 |cons s hb ho _ ih=>rw[xAx];exact .cons s hb ho ih
theorem SI.app{ins ins2:B4<|C4×U}{ms ms2:C4}(a:SI us ins ms)(b:SI vs ins2 ms2):SI (us++vs) (ins++ins2)<|ms++ms2:=by
 induction a with
 |nil=>exact b
 |cons s _ ih=>rw[xAx,xAx];exact .cons s ih
theorem zCt.app(a:zCt W L lv n us us' ns)(b:zCt W L lv (n+ns.length) vs vs' ns2):zCt W L lv n (us++vs) (us'++vs')<|ns++ns2:=by
 induction a with
 |nil=>exact b
 |cons s _ ih=>
  rw[xAx];exact .cons s (ih<|by rw[Nat.add_assoc,<- xAb];exact b)
theorem zCb.app(a:zCb W M L lv n us us' ns)(b:zCb W M L lv (n+ns.length) vs vs' ns2):zCb W M L lv n (us++vs) (us'++vs')<|ns++ns2:=by
 induction a with
 |nil=>exact b
 |cons s c hb fl _ ih=>
  rw[xAx];exact .cons s c hb fl (ih<|by rw[Nat.add_assoc,<- xAb];exact b)
def Rs(L:C4)(lo hi:Nat)(ns:C4):Prop:=ns.Pairwise (·<·)/\∀k∈ns,lo<=k/\k<hi/\k∈L
theorem Rs.nil:Rs L lo hi []:=⟨.nil,λ_ z=>nomatch z⟩
def Rs.wide{lo' hi':Nat}(a:Rs L lo hi ns)(h1:lo'<=lo)(h2:hi<=hi'):Rs L lo' hi' ns:=⟨a.1,λk z=>by let⟨x,y,w⟩:=a.2 k z;exact⟨(),(),w⟩⟩
def Rs.app(a:Rs L lo mi ns)(b:Rs L mi hi ns2)(h1:lo<=mi)(h2:mi<=hi):Rs L lo hi<|ns++ns2:=
 ⟨List.pairwise_append.mpr ⟨a.1,b.1,λx hx y hy=>by have:=a.2 x hx;have:=b.2 y hy;lia⟩,λk z=>(xAj.mp z).elim ((a.wide (xAg _) h2).2 k)<|(b.wide h1<|xAg _).2 k⟩
structure zCl(W:C5)(lo hi:Nat)(us:C3)(M:C4)(lv:Nat):Prop where
 me:zCn lv us M
 bf:∃ins ms mi wi,SI us ins ms/\Bf ins mi wi/\(∀k,k∈M↔k∈ms++mi)/\(ms++mi).length=M.length/\wi<=2*(hi-lo)
 bx:∀{L M':C4},(∀k,k∈L↔k∈M')->∀n,∃us' ns,zCt W L lv n us us' ns/\zCb W M' L lv n us us' ns/\(∀z∈us',Flt lv z)/\Rs L lo hi ns/\us'.length=us.length
 le:lo<=hi
 fl:∀z∈us,Flt lv z
theorem zCl.nil:zCl W lo lo [] [] lv:=⟨.nil,⟨[],[],[],0,.nil,.nil,λk=>⋯,rfl,xBn _⟩,λ_ n=>⟨[],[],.nil,.nil,λ_ z=>(nomatch z),.nil,rfl⟩,xAg _,λ_ z=>(nomatch z)⟩
theorem zCl.app{M2:C4}(a:zCl W lo mi us M lv)(b:zCl W mi hi vs M2 lv):zCl W lo hi (us++vs) (M++M2) lv:=by
 have l1:=a.le;have l2:=b.le;refine⟨a.me.app b.me,?_,λ{L M'} h n=>?_,(),λz hz=>(xAj.mp hz).elim (a.fl z)<|b.fl z⟩
 .let⟨i1,m1,j1,w1,s1,f1,e1,n1,c1⟩:=a.bf;let⟨i2,m2,j2,w2,s2,f2,e2,n2,c2⟩:=b.bf;refine⟨_,_,_,_,s1.app s2,f1.app f2,λk=>?_,?_,()⟩
  .rw[xAj,e1 k,e2 k];simp only[xAj];constructor
   .rintro((h|h)|(h|h)) <;> simp[h]
   .rintro((h|h)|(h|h)) <;> simp[h]
  .simp only[xAb] at n1 n2⊢;lia
 .let⟨u1,n1,a1,a2,a3,a4,a5⟩:=a.bx h n;let⟨u2,n2,b1,b2,b3,b4,b5⟩:=b.bx h<|n+n1.length;exact⟨_,_,a1.app b1,a2.app b2,λz hz=>(xAj.mp hz).elim (a3 z)<|b3 z,a4.app b4 l1 l2,by rw[xAb,xAb,a5,b5]⟩
theorem zCl.up(a:zCl W lo hi us M lv)(h:lv<=lv'):zCl W lo hi us M lv':=⟨a.me.up h,a.bf,λ{L M'} hh n=>by
 let⟨u1,n1,a1,a2,a3,a4,a5⟩:=a.bx hh n;exact⟨u1,n1,a1.up h,a2.up h,λz hz=>(a3 z hz).up h,a4,a5⟩,a.le,λz hz=>(a.fl z hz).up h⟩
end
section
variable{W:C5}{L M M1 M2 M' xs ns own:C4}{lv n lo mi hi to j:Nat}{us:C3}{bs bs' r':B4<|C4×U}{k:Str}{r:C3}{az:C3}
structure BsP(W:C5)(lo hi:Nat)(bs:B4 (C4×U))(M:C4)(lv:Nat):Prop where
 me:zDo lv bs M
 bf:∃mb w,Bf bs mb w/\(∀k,k∈M↔k∈mb)/\mb.length=M.length/\w<=2*(hi-lo)+bs.length
 bx:∀{L M':C4},(∀k,k∈L↔k∈M')->∀n,∃bs' ns,zD1 W L lv n bs bs' ns/\zCy W M' L lv n bs bs' ns/\(∀b∈bs',Flt lv b.2)/\Rs L lo hi ns
 le:lo<=hi
 fl:∀b∈bs,Flt lv b.2
theorem BsP.nil:BsP W lo lo [] [] lv:=⟨.nil,⟨[],0,.nil,λk=>⋯,rfl,xBn _⟩,λ_ n=>⟨[],[],.nil,.nil,λ_ z=>(nomatch z),.nil⟩,xAg _,λ_ z=>(nomatch z)⟩
def xl:Rs L lo (lo+j)<|nsl L<|List.range' lo j:=by
 refine⟨List.Pairwise.filter _ List.pairwise_lt_range',λk z=>?_⟩;let⟨h1,h2⟩:=List.mem_filter.mp z;have:=List.mem_range'_1.mp h1;exact⟨(),(),xBe h2⟩
theorem BsP.cons(a:zCl W (lo+j) mi us M1 lv)(b:BsP W mi hi bs M2<|lv+3)(h1:2<=lv)(hW:lo+j<=W.length)(hj:j<=1000)(hu:us.length<=9000)(hM:M1.length<=10000)(fa:Flt 2<|.tup az):BsP W lo hi ((List.range' lo j,.tup [.tup us,.tup az])::bs) (M1++M2)<|lv+3:=by
 have l1:=a.le;have l2:=b.le;refine⟨.cons ((vt a.me hM).up ()) b.me,?_,λ{L M'} h n=>?_,(),λz hz=>?_⟩
 .let⟨ins,ms,mi',wi,s,f,e,ln,w1⟩:=a.bf;let⟨mb,w2,f2,e2,ln2,w3⟩:=b.bf;refine⟨_,_,.cons s f f2,λk=>?_,?_,by rw[xAo];lia⟩
  .rw[xAj,e k,e2 k,xAj (s:=ms++mi')]
  .rw[xAb,ln,ln2,xAb]
 .let⟨us',ns,c1,c2,c3,c4,c5⟩:=a.bx h<|n+(nsl L<|List.range' lo j).length;let⟨bs',ns2,d1,d2,d3,d4⟩:=b.bx h<|n+(nsl L (List.range' lo j)++ns).length;have hx:∀k∈List.range' lo j,k<W.length:=λk z=>by have:=List.mem_range'_1.mp z;lia
  have hl:(List.range' lo j).length<=1000:=by rw[List.length_range'];exact hj
  refine⟨_,_,.cons ((vJ c1 hx hl () () ()).up ()) d1,.cons (vv h () c2 hx hl fa) d2,λz hz=>?_,(xl.app c4 () l1).app d4 () l2⟩;rcases xAv.mp hz with rfl|hz
  .refine .tup<|.cons (.tup λz hz=>?_)<|.cons (fa.up ()) .nil;rcases xAj.mp hz with hz|hz
   .exact(jo z hz).up ()
   .exact(c3 z hz).up ()
  .exact d3 z hz
 .rcases xAv.mp hz with rfl|hz
  .exact .tup<|.cons (.tup λz hz=>(a.fl z hz).up ())<|.cons (fa.up ()) .nil
  .exact b.fl z hz
def zCl.one(s:Sh k to r own bs)(c:BsP W lo to bs M lv)(hb:bs.length<=2)(hf:2<=lv)(hf2:lv<=69):zCl W lo (to+1) [.tup<|.str k::.int (to:Int)::r] (own++M)<|lv+1:=by
 have l1:=c.le;refine⟨by have:=zCn.cons (lv:=lv+1) s (c.me.up ()) () .nil;rwa[xB0] at this,?_,λ{L M'} h n=>?_,(),λz hz=>by rw[xAm.mp hz];exact .tup (.cons .str<|.cons .int<|s.fl c.fl hf)⟩
 .let⟨mb,w,f,e,ln,w3⟩:=c.bf;refine⟨_,_,_,_,.cons s .nil,by rw[xB0];exact f,λk=>?_,?_,()⟩
  .rw[xB0,xAj,xAj,e k]
  .rw[xB0,xAb,xAb,ln]
 .let⟨bs',ns,d1,d2,d3,d4⟩:=c.bx h n;have fl:Flt (lv+1)<|.tup<|.str (bw k)::.int (to:Int)::rst r bs':=by
   refine .tup<|.cons .str<|.cons .int ?_;cases hbs:bs with
   |nil=>
    subst hbs;have:bs'=[]:=by cases d1;rfl
    subst this;rw[iP];exact s.fl (λb z=>nomatch z) hf
   |cons b0 br=>
    let⟨bs2,rfl,_,s2⟩:=s.box (λz=>by rw[hbs] at z;cases z) d1.ln (to':=to);exact s2.fl d3 hf
  refine⟨_,ns++[],.cons (AZ s d1 () ()) .nil,.cons s (d2.up ()) () (fl.up ()) .nil,λz hz=>by rw[xAm.mp hz];exact fl,by rw[xB0];exact d4.wide (xAg _) (),rfl⟩
end
def En(f:Fd)(β:Str->Int)(sc:C0)(Z:C4)(kvs:B4<|Key×U):Prop:=∀y∈sc,∃a,zAq (.inr y) kvs=some (.tup [a,.bl<|isset f (β y) y])/\AtV a/\(isset f (β y) y=true->∃k∈Z,a=.tup [.str "name",.int ((k:Nat):Int)])
section
variable{f:Fd}{β:Str->Int}{sc xs:C0}{Z Z' Kl Kl2 M M2 own:C4}{kvs:B4<|Key×U}{pl:Int}{n d lv c c2:Nat}{y w:Str}{a:U}{as as2 us us2 more:C3}{ps np np2:C5}{bs:B4<|C4×U}
def En.sub(h:En f β sc Z kvs)(s:∀k∈Z,k∈Z'):En f β sc Z' kvs:=λy hy=>by
 let⟨a,e,h1,h2⟩:=h y hy;exact⟨a,e,h1,λz=>by let⟨k,hk,e⟩:=h2 z;exact⟨k,s k hk,e⟩⟩
def En.up1(h:En f β sc Z kvs)(ha:AtV a)(hi:isset f pl y=true->∃k∈Z,a=.tup [.str "name",.int ((k:Nat):Int)]):En f (up β [y] pl) (sc++[y]) Z<|pus kvs [(y,.tup [a,.bl<|isset f pl y])]:=λz hz=>by
 unfold K32.up;by_cases hx:z∈[y]
 .rw[xCg hx];have:=xAm.mp hx;subst this;exact⟨a,iT (bs:=[(z,.tup [a,.bl<|isset f pl z])]) ⋯<|xAm.mpr rfl,ha,hi⟩
 .rw[xCf hx,gD<|by simpa using hx];exact h z<|(xAj.mp hz).resolve_right hx
theorem gy:∀{xs:C0}{n:Nat},(bnd f pl n xs).map (·.1)=xs
 |[],_=>rfl
 |y::r,n=>by show y::(bnd f pl (n+1) r).map (·.1)=_;rw[gy]
def uZ{xs:C0}{n:Nat}:(bnd f pl n xs).length=xs.length:=by
 rw[<- xAa (f:=λb:Str×U=>b.1),gy]
def kls(f:Fd)(pl:Int):Nat->C0->C4
 |_,[]=>[]
 |n,y::r=>if isset f pl y then n::kls f pl (n+1) r else kls f pl (n+1) r
theorem fG:∀{xs:C0}{n:Nat},(kls f pl n xs).length=((xs.map<|Prod.mk pl).filter λb=>isset f b.1 b.2).length
 |[],_=>rfl
 |y::r,n=>by
  rw[kls,xBs,List.filter_cons];cases e:isset f pl y with
  |true=>rw[xCg rfl,xCg rfl,xAo,xAo,fG]
  |false=>rw[xCf ∅,xCf ∅,fG]
theorem nL:∀{xs:C0}{n:Nat},y∈xs->∃k,(isset f pl y=true->k∈kls f pl n xs)/\(y,U.tup [.tup [.str "name",.int ((k:Nat):Int)],.bl<|isset f pl y])∈bnd f pl n xs
 |z::r,n,h=>by
  by_cases hz:y=z
  .subst hz;exact⟨n,λe=>by rw[kls,xCg e];exact xAr ..,xAr ..⟩
  .let⟨k,h1,h2⟩:=nL (n:=n+1)<|(xAv.mp h).resolve_left hz;refine⟨k,λe=>?_,xAs _ h2⟩;rw[kls];split
   .exact xAs _<|h1 e
   .exact h1 e
def En.upn(h:En f β sc Z kvs)(hn:xs.Nodup):En f (up β xs pl) (sc++xs) (Z++kls f pl n xs)<|pus kvs<|bnd f pl n xs:=λz hz=>by
 unfold K32.up;by_cases hx:z∈xs
 .rw[xCg hx];let⟨k,h1,h2⟩:=nL (f:=f) (pl:=pl) (n:=n) hx;exact⟨_,iT (by rw[gy];exact hn) h2,.nam,λe=>⟨k,xBt _<|h1 e,rfl⟩⟩
 .rw[xCf hx,gD<|by rw[gy];exact hx];let⟨a,e,g1,g2⟩:=h z<|(xAj.mp hz).resolve_right hx;exact⟨a,e,g1,λz=>by let⟨k,hk,e⟩:=g2 z;exact⟨k,xBw _ hk,e⟩⟩
structure RF(Z:C4)(lv:Nat)(ps:C5)(c:Nat)(as us:C3)(np:C5)(M Kl:C4):Prop where
 sr:∀W:C5,ps.length+np.length<=W.length->zCl W ps.length (ps.length+np.length) us M lv
 ar:∀a∈as,AtV a
 lu:us.length<=np.length
 ln:np.length<=6*c
 lm:M.length<=np.length
 ids:∀k∈M,k∈Z\/k∈Kl
theorem RF.nil:RF Z lv ps 0 [] [] [] [] []:=⟨λW _=>.nil,λ_ z=>(nomatch z),xAg _,xBn _,xAg _,λ_ z=>(nomatch z)⟩
theorem RF.app(a:RF Z lv ps c as us np M Kl)(b:RF Z' lv (ps++np) c2 as2 us2 np2 M2 Kl2)(hz:∀k∈Z',k∈Z\/k∈Kl):RF Z lv ps (c+c2) (as++as2) (us++us2) (np++np2) (M++M2)<|Kl++Kl2:=by
 have e:(ps++np).length=ps.length+np.length:=xAb;refine⟨λW hW=>?_,λz hz=>(xAj.mp hz).elim (a.ar z)<|b.ar z,?_,?_,?_,λk hk=>?_⟩
 .rw[xAb] at hW⊢;have q:=b.sr W (by rw[e];lia);rw[e] at q;rw[<- Nat.add_assoc];exact(a.sr W ()).app q
 .rw[xAb,xAb];have:=a.lu;have:=b.lu;lia
 .rw[xAb];have:=a.ln;have:=b.ln;lia
 .rw[xAb,xAb];have:=a.lm;have:=b.lm;lia
 .rcases xAj.mp hk with hk|hk
  .exact(a.ids k hk).imp_right λz=>xBw _ z
  .rcases b.ids k hk with h|h
   .exact(hz k h).imp_right λz=>xBw _ z
   .exact .inr<|xBt _ h
theorem RF.up{lv':Nat}(a:RF Z lv ps c as us np M Kl)(h:lv<=lv')(hc:c<=c2):RF Z lv' ps c2 as us np M Kl:=⟨λW hW=>(a.sr W hW).up h,a.ar,a.lu,by have:=a.ln;lia,a.lm,a.ids⟩
structure BF(Z:C4)(lv lo:Nat)(np:C5)(bs:B4 (C4×U))(M Kl:C4):Prop where
 br:∀W:C5,lo+np.length<=W.length->BsP W lo (lo+np.length) bs M lv
 lm:M.length<=np.length
 ids:∀k∈M,k∈Z\/k∈Kl
theorem BF.nil{lo:Nat}:BF Z lv lo [] [] [] []:=⟨λW _=>.nil,xAg _,λ_ z=>(nomatch z)⟩
def gf{M3 Kl3:C4}(R:RF Z lv ps c as us np M Kl)(B:BF Z lv' (ps.length+np.length) np2 bs M3 Kl3)(s:Sh w (ps.length+np.length+np2.length) more own bs)(hb:bs.length<=2)(h1:2<=lv')(hf2:lv'<=69)(l1:lv<=lv'+1)(l3:np2.length+1<=6*c2)(ho:own.length<=1)(hi:∀k∈own,k∈Z\/k∈Kl2):RF Z (lv'+1) ps (c+c2) [.tup [.str "name",.int ((ps.length+np.length+np2.length:Nat):Int)]] (us++[.tup<|.str w::.int ((ps.length+np.length+np2.length:Nat):Int)::more]) (np++(np2++[pl])) (M++(own++M3))<|Kl++(Kl2++Kl3):=by
 refine⟨λW hW=>?_,λz hz=>?_,?_,?_,?_,λk hk=>?_⟩
 .simp only[xAb,xAt] at hW⊢;rw[show ps.length+(np.length+(np2.length+1))=ps.length+np.length+np2.length+1 by lia];exact((R.sr W ()).up l1).app<|.one s (B.br W ()) hb h1 hf2
 .rw[xAm.mp hz];exact .nam
 .simp only[xAb,xAt];have:=R.lu;lia
 .simp only[xAb,xAt];have:=R.ln;lia
 .simp only[xAb,xAt];have:=R.lm;have:=B.lm;lia
 .rcases xAj.mp hk with hk|hk
  .exact(R.ids k hk).imp_right λz=>xBw _ z
  .rcases xAj.mp hk with hk|hk
   .exact(hi k hk).imp_right λz=>xBt _<|xBw _ z
   .exact(B.ids k hk).imp_right λz=>xBt _<|xBt _ z
end
section
variable{f:Fd}{β:Str->Int}{sc xs:C0}{Z Z' Z1 Kl Kl2 kl0 M M2 own:C4}{kvs:B4<|Key×U}{pl:Int}{n d lv c c2 lo j:Nat}{y w:Str}{a:U}{as as2 us us2 more:C3}{ps np np2 rep:C5}{bs:B4<|C4×U}{P:Pg}
theorem AtV.tp(h:AtV a):∃az,a=.tup az/\Flt 2 (.tup az):=by
 have:=h.flt (m:=2) ∅;cases h with
 |num=>exact⟨_,rfl,this⟩
 |nam=>exact⟨_,rfl,this⟩
theorem BF.cons(R:RF Z1 lv ps c [a] us np M Kl)(el:ps.length=lo+j)(er:rep.length=j)(B:BF Z (lv+3) (lo+(j+np.length)) np2 bs M2 Kl2)(h1:2<=lv)(hj:j<=1000)(hl:np.length<=9000)(hz:∀k∈Z1,k∈Z\/k∈kl0):BF Z (lv+3) lo (rep++np++np2) ((List.range' lo j,.tup [.tup us,a])::bs) (M++M2)<|kl0++Kl++Kl2:=by
 let⟨az,rfl,fa⟩:=(R.ar a<|xAm.mpr rfl).tp;have lu:=R.lu;have lm:=R.lm;have lm2:=B.lm;refine⟨λW hW=>?_,by simp only[xAb];lia,λk hk=>?_⟩
 .simp only[xAb] at hW⊢;have q:=R.sr W ();have q2:=B.br W ();rw[el] at q;rw[show lo+(j+np.length)=lo+j+np.length by lia] at q2;rw[show lo+(rep.length+np.length+np2.length)=lo+j+np.length+np2.length by lia];exact .cons q q2 h1 () hj () () fa
 .rcases xAj.mp hk with hk|hk
  .rcases R.ids k hk with h|h
   .exact(hz k h).imp_right λz=>xBw _<|xBw _ z
   .exact .inr<|xBw _<|xBt _ h
  .exact(B.ids k hk).imp_right λz=>xBt _ z
def NPr(f:Fd)(sc:C0)(d:Nat)(P:Pg):Prop:=∀{β:Str->Int}{kvs:B4<|Key×U}{Z:C4},En f β sc Z kvs->(∀b∈P.sts β,isset f b.1 b.2=true)->kvs.length+5*d<=800->∀(last:B')(ps:C5),ps.length+6*P.pls.length<=5000->∃a us np M Kl,AtC P.u kvs last f ps a us np (4*d+3)/\RF Z (4*d+3) ps P.pls.length [a] us np M Kl/\Kl.length<=(P.bs f).length
def bsl(f:Fd)(as:B4 Pg):B4<|Int×Str:=(Pg.bpss as).filter λb=>isset f b.1 b.2
def db{l r:B4<|Int×Str}:((l++r).filter λb=>isset f b.1 b.2).length=(l.filter λb=>isset f b.1 b.2).length+(r.filter λb=>isset f b.1 b.2).length:=by rw[List.filter_append,xAb]
theorem kS(hk:kvs.length+5*d<=800):∀{as:B4 Pg}(ps:C5),(∀a∈as,NPr f sc d a)->En f β sc Z kvs->(∀b∈Pg.stss as β,isset f b.1 b.2=true)->ps.length+6*(Pg.plss as).length<=5000->∃zs us np M Kl,zs.length=as.length/\ACs kvs f (4*d+3) ps (Pg.us as) zs us np/\RF Z (4*d+3) ps (Pg.plss as).length zs us np M Kl/\Kl.length<=(bsl f as).length
 |[],ps,_,_,_,_=>⟨[],[],[],[],[],rfl,.nil,.nil,xBn _⟩
 |a::r,ps,h,hE,hs,hb=>by
  have e:(Pg.plss<|a::r).length=a.pls.length+(Pg.plss r).length:=xAb;let⟨z,us,np,M,Kl,c1,r1,k1⟩:=h a (xAr ..) hE (λb hb=>hs b<|xBw _ hb) hk false ps ();have:=r1.ln;have el:(ps++np).length=ps.length+np.length:=xAb;let⟨zs,us2,np2,M2,Kl2,e2,c2,r2,k2⟩:=kS hk (ps++np) (λb z=>h b<|xAs _ z) hE (λb hb=>hs b<|xBt _ hb) ();refine⟨z::zs,us++us2,np++np2,M++M2,Kl++Kl2,by rw[xAo,xAo,e2],.cons c1 r1.lu c2,by rw[e];exact r1.app r2 λk z=>.inl z,?_⟩;show _<=((a.bps++Pg.bpss r).filter _).length;rw[db,xAb];exact Nat.add_le_add k1 k2
end
section
variable{f:Fd}{β:Str->Int}{sc xs:C0}{Z Kl Kl2 Kl3 M M3 own:C4}{kvs:B4<|Key×U}{pl:Int}{n d lv:Nat}{y w:Str}{a u v b:U}{us us2 more:C3}{ps np np2:C5}{P:Pg}{last:B'}{bs:B4<|C4×U}
theorem ACs.up{lv':Nat}{parts as:C3}(c:ACs kvs f lv ps parts as us np)(h:lv<=lv'):ACs kvs f lv' ps parts as us np:=by
 induction c with
 |nil=>exact .nil
 |cons c hl t ih=>exact .cons (c.up h) hl ih
def ACs.one(c:AtC u kvs false f ps a us np lv)(hl:us.length<=np.length):ACs kvs f lv ps [u] [a] us np:=by
 have:=ACs.cons c hl .nil
 rwa[xB0,xB0] at this
def eW(h:NPr f sc d P)(hE:En f β sc Z kvs)(hs:∀b∈P.sts β,isset f b.1 b.2=true)(hk:kvs.length+5*d<=800)(last:B')(ps:C5)(hb:ps.length+6*P.pls.length<=5000):∃a us np M Kl,BoC P.u kvs last f ps (.tup [.tup us,a]) np (4*d+4)/\RF Z (4*d+3) ps P.pls.length [a] us np M Kl/\Kl.length<=(P.bs f).length:=by
 let⟨a,us,np,M,Kl,c,r,k⟩:=h hE hs hk last ps hb;exact⟨a,us,np,M,Kl,BX c,r,k⟩
def gK(h:NPr f (sc++xs) d P)(hE:En f β sc Z kvs)(nd:xs.Nodup)(few:xs.length<=4)(hs:∀b∈P.sts (up β xs pl),isset f b.1 b.2=true)(hk:kvs.length+5*(d+1)<=800)(last:B')(ps:C5)(hb:ps.length+6*P.pls.length+4<=5000):∃a us np M Kl,BbC xs P.u pl kvs last f ps (.tup [.tup<|nu<|List.range' ps.length xs.length,.tup [.tup us,a]]) (List.replicate xs.length pl++np) (4*d+5)/\RF (Z++kls f pl ps.length xs) (4*d+3) (ps++List.replicate xs.length pl) P.pls.length [a] us np M Kl/\Kl.length<=(P.bs f).length:=by
 have pl':=fA (bs:=bnd f pl ps.length xs) (kvs:=kvs);rw[uZ] at pl';have e:(ps++List.replicate xs.length pl).length=ps.length+xs.length:=by rw[xAb,xCu]
 let⟨a,us,np,M,Kl,c,r,k⟩:=eW h (hE.upn (pl:=pl) (n:=ps.length) nd) hs () last (ps++List.replicate xs.length pl) (by rw[e];lia);exact⟨a,us,np,M,Kl,BZ c few () () (),r,k⟩
def RF.one{c:Nat}(r:RF Z lv ps c [a] us np M Kl):AtV a:=r.ar a<|xAm.mpr rfl
def gJ{k:Str}{as:C3}{c:Nat}(kd:Kd k false)(pa:PaC (.tup<|.str k::.int pl::rr) parts)(A:ACs kvs f (4*d+3) ps parts as us np)(h4:parts.length<=100)(m:PlC (.tup<|.str k::.int pl::rr) as kvs last w more)(R:RF Z (4*d+3) ps c as us np M Kl)(s:Sh w (ps.length+np.length) more own [])(ho:own.length<=1)(hi:∀k∈own,k∈Z)(hb:ps.length+np.length<=9000)(hd:d<=14)(hc:c+1<=c2):∃a us np M' Kl',AtC (.tup<|.str k::.int pl::rr) kvs last f ps a us np (4*(d+1)+3)/\RF Z (4*(d+1)+3) ps c2 [a] us np M' Kl'/\Kl'=Kl++([]++[]):=
 ⟨_,_,_,_,_,sv (lv:=4*(d+1)+1) kd pa (A.up ()) h4 m R.lu hb s.len,(gf (np2:=[]) (c2:=1) (Kl2:=[]) R (.nil (lv:=4*(d+1)+2)) s ∅ () () () ∅ ho λk z=>.inl<|hi k z).up () hc,rfl⟩
def mJ{k:Str}{as:C3}{c c3:Nat}(kd:Kd k true)(pa:PaC (.tup<|.str k::.int pl::rr) parts)(A:ACs kvs f (4*d+3) ps parts as us np)(h4:parts.length<=100)(m:MoC (.tup<|.str k::.int pl::rr) as kvs last f (ps++np) w more np2<|4*d+6)(R:RF Z (4*d+3) ps c as us np M Kl)(B:BF Z (4*d+6) (ps.length+np.length) np2 bs M3 Kl3)(s:Sh w (ps.length+np.length+np2.length) more [] bs)(h2:bs.length<=2)(hb:ps.length+np.length+np2.length<=9000)(hd:d<=14)(l2:np2.length+1<=6*c3)(hc:c+c3<=c2):∃a us np M' Kl',AtC (.tup<|.str k::.int pl::rr) kvs last f ps a us np (4*(d+1)+3)/\RF Z (4*(d+1)+3) ps c2 [a] us np M' Kl'/\Kl'=Kl++([]++Kl3):=
 ⟨_,_,_,_,_,(sw (lv:=4*d+5) kd pa (A.up ()) h4 m R.lu hb s.len).up (),(gf (c2:=c3) (Kl2:=[]) R B s h2 () () () l2 ∅ λk z=>nomatch z).up () hc,rfl⟩
end
section
variable{f:Fd}{sc:C0}{d:Nat}{pl:Int}{a b:Pg}{as:B4 Pg}{y w o:Str}
def kdF{k:Str}(h1:k≠"number":=by decide)(h2:k≠"name":=by decide)(h3:k≠"do":=by decide)(h4:k≠"let":=by decide)(ho:zA7 (.str k) [.str "fn",.str "if",.str "match",.str "try"]=false:=by rfl):Kd k false:=⟨h1,h2,h3,h4,ho⟩
def kdT{k:Str}(h1:k≠"number":=by decide)(h2:k≠"name":=by decide)(h3:k≠"do":=by decide)(h4:k≠"let":=by decide)(ho:zA7 (.str k) [.str "fn",.str "if",.str "match",.str "try"]=true:=by rfl):Kd k true:=⟨h1,h2,h3,h4,ho⟩
def qF(i1:NPr f sc d a)(hd:d<=14):NPr f sc (d+1)<|.tell pl a:=by
 intro β kvs Z hE hs hk last ps hb;have hb:ps.length+6*(a.pls.length+1)<=5000:=hb;let⟨z,us,np,M,Kl,c1,r1,k1⟩:=i1 hE hs () false ps ();have:=r1.ln;let⟨_,_,_,_,_,c,r,e⟩:=gJ (c2:=a.pls.length+1) (last:=last) kdF tU (.one c1 r1.lu) (by show 1<=100;decide) tK r1 (.plain (.inr<|.inr<|.inr<|.inr<|.inl rfl) (.cons (r1.one.flt ∅)<|.cons .int .nil)<|by show 2<=100;decide) ∅ (λk z=>nomatch z) () hd<|xAg _;exact⟨_,_,_,_,_,c,r,by rw[e,xB0,xB0];exact k1⟩
def ul(i1:NPr f sc d a)(hd:d<=14):NPr f sc (d+1)<|.rai pl w a:=by
 intro β kvs Z hE hs hk last ps hb;have hb:ps.length+6*(a.pls.length+1)<=5000:=hb;let⟨z,us,np,M,Kl,c1,r1,k1⟩:=i1 hE hs () false ps ();have:=r1.ln;let⟨_,_,_,_,_,c,r,e⟩:=gJ (c2:=a.pls.length+1) (last:=last) kdF qr (.one c1 r1.lu) (by show 1<=100;decide) pZ r1 (.plain (.inr<|.inr<|.inl rfl) (.cons .str<|.cons (r1.one.flt ∅)<|.cons .int .nil)<|by show 3<=100;decide) ∅ (λk z=>nomatch z) () hd<|xAg _;exact⟨_,_,_,_,_,c,r,by rw[e,xB0,xB0];exact k1⟩
def ut(hd:d<=14):NPr f sc (d+1)<|.ask pl:=by
 intro β kvs Z hE hs hk last ps hb;have hb:ps.length+6*1<=5000:=hb;let⟨_,_,_,_,_,c,r,e⟩:=gJ (d:=d) (c:=0) (np:=[]) (c2:=1) (last:=last) kdF wV .nil ∅ wE (.nil (Z:=Z)) (.plain (.inr<|.inr<|.inr<|.inr<|.inr rfl) (.cons .int .nil)<|by show 1<=100;decide) ∅ (λk z=>nomatch z) (by show ps.length+0<=_;lia) hd<|xAg _;exact⟨_,_,_,_,_,c,r,by rw[e];exact xBn _⟩
def xm(hx:y∈sc)(i1:NPr f sc d a)(hd:d<=14):NPr f sc (d+1)<|.st pl y a:=by
 intro β kvs Z hE hs hk last ps hb;have hb:ps.length+6*(a.pls.length+1)<=5000:=hb;let⟨z,us,np,M,Kl,c1,r1,k1⟩:=i1 hE (λb z=>hs b<|xAs _ z) () false ps ();have:=r1.ln;let⟨a',e,ha',hi⟩:=hE y hx;let⟨k,hk',rfl⟩:=hi<|hs (β y,y)<|xAr ..;let⟨_,_,_,_,_,c,r,e⟩:=gJ (c2:=a.pls.length+1) (last:=last) kdF wU (.one c1 r1.lu) (by show 1<=100;decide) (wD e) r1 (.set<|r1.one.flt ∅) (by show 1<=1;decide) (λj z=>by rw[xAm.mp z];exact hk') () hd<|xAg _;exact⟨_,_,_,_,_,c,r,by rw[e,xB0,xB0];exact k1⟩
def xp(i1:NPr f sc d a)(i2:NPr f sc d b)(hd:d<=14):NPr f sc (d+1)<|.dd pl a b:=by
 intro β kvs Z hE hs hk last ps hb;have e:(Pg.dd pl a b).pls.length=a.pls.length+b.pls.length+1:=by show(a.pls++b.pls).length+1=_;rw[xAb]
 let⟨z,us,np,M,Kl,c1,r1,k1⟩:=i1 hE (λb z=>hs b<|xBw _ z) () false ps ();have:=r1.ln;have el:(ps++np).length=ps.length+np.length:=xAb;let⟨z2,us2,np2,M2,Kl2,c2,r2,k2⟩:=i2 hE (λb z=>hs b<|xBt _ z) () last (ps++np) ();have R:=r1.app r2 λk z=>.inl z;refine⟨_,_,_,_,_,(A9 c1 c2 r1.lu).up (),(⟨R.sr,λq hq=>R.ar q<|xBt _ hq,R.lu,R.ln,R.lm,R.ids⟩:RF _ _ _ _ _ _ _ _ _).up () (),?_⟩;show _<=((a.bps++b.bps).filter _).length;rw[db,xAb];exact Nat.add_le_add k1 k2
end
section
variable{f:Fd}{sc:C0}{d:Nat}{pl n:Int}{a b:Pg}{as:B4 Pg}{y w o:Str}
def qG(i1:NPr f sc d a)(i2:NPr f sc d b)(hd:d<=14):NPr f sc (d+1)<|.math pl o a b:=by
 intro β kvs Z hE hs hk last ps hb;have e:(Pg.math pl o a b).pls.length=a.pls.length+b.pls.length+1:=by show(a.pls++b.pls).length+1=_;rw[xAb]
 let⟨z,us,np,M,Kl,c1,r1,k1⟩:=i1 hE (λb z=>hs b<|xBw _ z) () false ps ();have:=r1.ln;have el:(ps++np).length=ps.length+np.length:=xAb;let⟨z2,us2,np2,M2,Kl2,c2,r2,k2⟩:=i2 hE (λb z=>hs b<|xBt _ z) () false (ps++np) ();have:=r2.ln;have R:=r1.app r2 λk z=>.inl z;let⟨_,_,_,_,_,c,r,e'⟩:=gJ (c2:=(Pg.math pl o a b).pls.length) (last:=last) kdF tV (.cons c1 r1.lu<|.one c2 r2.lu) (by show 2<=100;decide) tL R (.plain (.inl rfl) (.cons .str<|.cons (r1.one.flt ∅)<|.cons (r2.one.flt ∅)<|.cons .int .nil)<|by show 4<=100;decide) ∅ (λk z=>nomatch z) (by rw[xAb];lia) hd ();refine⟨_,_,_,_,_,c,r,?_⟩;rw[e',xB0,xB0,xAb];show _<=((a.bps++b.bps).filter _).length;rw[db];exact Nat.add_le_add k1 k2
def qH(h4:as.length<=4)(i2:∀a∈as,NPr f sc d a)(hd:d<=14):NPr f sc (d+1)<|.make pl w as:=by
 intro β kvs Z hE hs hk last ps hb;have hb:ps.length+6*((Pg.plss as).length+1)<=5000:=hb;let⟨zs,us2,np2,M,Kl,e2,c2,r2,k2⟩:=kS () ps i2 hE hs ();have:=r2.ln;let⟨_,_,_,_,_,c,r,e'⟩:=gJ (c2:=(Pg.plss as).length+1) (last:=last) kdF tW c2 (by rw[fK];lia) tM r2 (.plain (.inr<|.inl rfl) (.cons .str<|.cons (sx r2.ar ∅)<|.cons .int .nil)<|by show 3<=100;decide) ∅ (λk z=>nomatch z) () hd<|xAg _;exact⟨_,_,_,_,_,c,r,by rw[e',xB0,xB0];exact k2⟩
def qI(h4:as.length<=4)(i1:NPr f sc d a)(i2:∀a∈as,NPr f sc d a)(hd:d<=14):NPr f sc (d+1)<|.call pl a as:=by
 intro β kvs Z hE hs hk last ps hb;have e:(Pg.call pl a as).pls.length=a.pls.length+(Pg.plss as).length+1:=by show(a.pls++Pg.plss as).length+1=_;rw[xAb]
 let⟨z,us,np,M,Kl,c1,r1,k1⟩:=i1 hE (λb z=>hs b<|xBw _ z) () false ps ();have:=r1.ln;have el:(ps++np).length=ps.length+np.length:=xAb;let⟨zs,us2,np2,M2,Kl2,e2,c2,r2,k2⟩:=kS () (ps++np) i2 hE (λb z=>hs b<|xBt _ z) ();have:=r2.ln;have R:=r1.app r2 λk z=>.inl z;let⟨_,_,_,_,_,c,r,e'⟩:=gJ (c2:=(Pg.call pl a as).pls.length) (last:=last) kdF (tY<|by rw[fK];lia) (.cons c1 r1.lu c2) (by rw[xAo,fK];lia) tN R (.plain (.inr<|.inr<|.inr<|.inl rfl) (.cons (r1.one.flt ∅)<|.cons (sx r2.ar ∅)<|.cons .int<|.cons .bl .nil)<|by show 4<=100;decide) ∅ (λk z=>nomatch z) (by rw[xAb];lia) hd ();refine⟨_,_,_,_,_,c,r,?_⟩;rw[e',xB0,xB0,xAb];show _<=((a.bps++Pg.bpss as).filter _).length;rw[db];exact Nat.add_le_add k1 k2
def um:NPr f sc d<|.num pl n:=by
 intro β kvs Z hE hs hk last ps hb;exact⟨_,_,_,[],[],yM (lv:=4*d+2),⟨λW _=>.nil,λz hz=>by rw[xAm.mp hz];exact .num,xAg _,xBn _,xAg _,λ_ z=>(nomatch z)⟩,xBn _⟩
theorem uo(h:y∈sc)(hd:d<=14):NPr f sc d<|.nam pl y:=by
 intro β kvs Z hE hs hk last ps hb;have hb:ps.length+6*1<=5000:=hb;let⟨a,e,ha,hi⟩:=hE y h;cases hb':isset f (β y) y with
 |false=>
  rw[hb'] at e;exact⟨_,_,_,[],[],ve (lv:=4*d+1) e,⟨λW _=>.nil,λz hz=>by rw[xAm.mp hz];exact ha,xAg _,xBn _,xAg _,λ_ z=>(nomatch z)⟩,xBn _⟩
 |true=>
  rw[hb'] at e;let⟨k,hk,rfl⟩:=hi hb';exact⟨_,_,_,_,_,vd (lv:=4*d) e (),gf (lv:=4*d+2) (np:=[]) (np2:=[]) (c:=0) (c2:=1) (Kl2:=[]) .nil (.nil (lv:=4*d+2)) .read ∅ () () () ∅ (by show 1<=1;decide) (λj z=>by rw[xAm.mp z];exact .inl hk),xBn _⟩
end
section
variable{f:Fd}{sc xs:C0}{d:Nat}{pl n:Int}{a b c:Pg}{y w:Str}
def xo(hn:xs.Nodup)(few:xs.length<=4)(ib:NPr f (sc++xs) d b)(hd:d<=14):NPr f sc (d+1)<|.fn pl xs b:=by
 intro β kvs Z hE hs hk last ps hb;have hb:ps.length+6*(b.pls.length+1)<=5000:=hb;let⟨z,us,np,M,Kl,c1,r1,k1⟩:=gK (pl:=pl) ib hE hn few hs hk true ps ();have:=r1.ln;have B:=BF.cons (Z:=Z) (kl0:=kls f pl ps.length xs) (lo:=ps.length) (j:=xs.length) (rep:=List.replicate xs.length pl) r1 (by rw[xAb,xCu]) xCu (.nil (Z:=Z)) () () () (λk z=>xAj.mp z);rw[xB0,xB0,xB0] at B;let⟨_,_,_,_,_,c,r,e⟩:=mJ (c:=0) (c2:=b.pls.length+1) (c3:=b.pls.length+1) (np:=[]) (last:=last) kdT zE .nil ∅ (by rw[xB0];exact Ag c1) (.nil (Z:=Z)) B .func (by show 1<=2;decide) (by rw[xAb,xCu];show ps.length+0+_<=_;lia) hd (by rw[xAb,xCu];lia) ();refine⟨_,_,_,_,_,c,r,?_⟩;rw[e,xC6,xC6,xAb,fG];show _<=((xs.map (Prod.mk pl)++b.bps).filter _).length;rw[db];exact Nat.add_le_add (xAg _) k1
end
section
variable{f:Fd}{sc xs:C0}{d lv lo c:Nat}{pl n:Int}{a b:Pg}{y w:Str}{Z Kl Kl2 M M2:C4}{z:U}{us:C3}{ps np np2:C5}{bs:B4<|C4×U}
def BF.cons0(R:RF Z lv ps c [z] us np M Kl)(el:ps.length=lo)(B:BF Z (lv+3) (lo+np.length) np2 bs M2 Kl2)(h1:2<=lv)(hl:np.length<=9000):BF Z (lv+3) lo (np++np2) (([],.tup [.tup us,z])::bs) (M++M2)<|Kl++Kl2:=by
 have:=BF.cons (Z:=Z) (kl0:=[]) (lo:=lo) (j:=0) (rep:=[]) R el rfl (by rw[Nat.zero_add];exact B) h1 ∅ hl (λk z=>.inl z);rw[xC6,xC6] at this;exact this
def ur{c:Pg}(i1:NPr f sc d a)(i2:NPr f sc d b)(i3:NPr f sc d c)(hd:d<=14):NPr f sc (d+1)<|.iff pl a b c:=by
 intro β kvs Z hE hs hk last ps hb;have e:(Pg.iff pl a b c).pls.length=a.pls.length+(b.pls.length+c.pls.length)+1:=by show(a.pls++(b.pls++c.pls)).length+1=_;rw[xAb,xAb]
 let⟨z,us,np,M,Kl,c1,r1,k1⟩:=i1 hE (λb z=>hs b<|xBw _ z) () false ps ();have:=r1.ln;have el:(ps++np).length=ps.length+np.length:=xAb;let⟨z2,us2,np2,M2,Kl2,c2,r2,k2⟩:=eW i2 hE (λb z=>hs b<|xBt _<|xBw _ z) () last (ps++np) ();have:=r2.ln;have el2:(ps++np++np2).length=ps.length+np.length+np2.length:=by rw[xAb,el]
 let⟨z3,us3,np3,M3,Kl3,c3,r3,k3⟩:=eW i3 hE (λb z=>hs b<|xBt _<|xBt _ z) () last (ps++np++np2) ();have:=r3.ln;have B3:=BF.cons0 (lo:=ps.length+np.length+np2.length) r3 el2 (.nil (Z:=Z)) () ();rw[xB0,xB0,xB0] at B3;have B2:=BF.cons0 (lo:=ps.length+np.length) r2 el B3 () ();let⟨_,_,_,_,_,c,r,e'⟩:=mJ (c2:=(Pg.iff pl a b c).pls.length) (c3:=b.pls.length+c.pls.length+1) (last:=last) kdT zD (.one c1 r1.lu) (by show 1<=100;decide) (Af (c2.up (lv':=4*d+5) ())<|c3.up ()) r1 B2 (.iff<|r1.one.flt ∅) (by show 2<=2;decide) (by rw[xAb];lia) hd (by rw[xAb];lia) ();refine⟨_,_,_,_,_,c,r,?_⟩;rw[e',xC6,xAb,xAb];show _<=((a.bps++(b.bps++_)).filter _).length;rw[db,db];exact Nat.add_le_add k1<|Nat.add_le_add k2 k3
end
section
variable{f:Fd}{sc xs:C0}{d:Nat}{pl:Int}{a b c:Pg}{y w:Str}
def uk(i1:NPr f sc d a)(i2:NPr f (sc++[y]) d b)(hd:d<=14):NPr f sc (d+1)<|.try_ pl a w y b:=by
 intro β kvs Z hE hs hk last ps hb;have e:(Pg.try_ pl a w y b).pls.length=a.pls.length+b.pls.length+1:=by show(a.pls++b.pls).length+1=_;rw[xAb]
 let⟨z2,us2,np2,M2,Kl2,c2,r2,k2⟩:=eW i1 hE (λb z=>hs b<|xBw _ z) () false ps ();have:=r2.ln;have el:(ps++np2).length=ps.length+np2.length:=xAb;let⟨z3,us3,np3,M3,Kl3,c3,r3,k3⟩:=gK (xs:=[y]) (pl:=pl) i2 hE ⋯ ⋯ (λb z=>hs b<|xBt _ z) hk last (ps++np2) ();have:=r3.ln;have B3:=BF.cons (Z:=Z) (kl0:=kls f pl (ps++np2).length [y]) (lo:=ps.length+np2.length) (j:=1) (rep:=List.replicate 1 pl) r3 (by rw[xAb,el];rfl) rfl (.nil (Z:=Z)) () () () (λk z=>xAj.mp z);rw[xB0,xB0,xB0] at B3;have B2:=BF.cons0 (lo:=ps.length) r2 rfl B3 () ();rw[el] at c3;let⟨_,_,_,_,_,c,r,e'⟩:=mJ (c:=0) (np:=[]) (c2:=(Pg.try_ pl a w y b).pls.length) (c3:=a.pls.length+b.pls.length+1) (last:=last) kdT wS .nil ∅ (by rw[xB0];exact xz (w:=w) (c2.up (lv':=4*d+5) ()) c3) (.nil (Z:=Z)) B2 (.try_ (t:=w)) (by show 2<=2;decide) (by rw[xAb,xAb];show ps.length+0+(np2.length+(1+np3.length))<=_;lia) hd (by rw[xAb,xAb];show np2.length+(1+np3.length)+1<=_;lia) ();refine⟨_,_,_,_,_,c,r,?_⟩;rw[e',xC6,xC6,xAb,xAb,fG];show _<=((a.bps++([y].map (Prod.mk pl)++b.bps)).filter _).length;rw[db,db];exact Nat.add_le_add k2<|Nat.add_le_add (xAg _) k3
def uq(hn:xs.Nodup)(few:xs.length<=4)(i1:NPr f sc d a)(i2:NPr f (sc++xs) d b)(i3:NPr f sc d c)(hd:d<=14):NPr f sc (d+1)<|.mat pl a w xs b c:=by
 intro β kvs Z hE hs hk last ps hb;have e:(Pg.mat pl a w xs b c).pls.length=a.pls.length+(b.pls.length+c.pls.length)+1:=by show(a.pls++(b.pls++c.pls)).length+1=_;rw[xAb,xAb]
 let⟨z,us,np,M,Kl,c1,r1,k1⟩:=i1 hE (λb z=>hs b<|xBw _ z) () false ps ();have:=r1.ln;have el:(ps++np).length=ps.length+np.length:=xAb;let⟨z2,us2,np2,M2,Kl2,c2,r2,k2⟩:=gK (pl:=pl) i2 hE hn few (λb z=>hs b<|xBt _<|xBw _ z) hk last (ps++np) ();have:=r2.ln;have el2:(ps++np++(List.replicate xs.length pl++np2)).length=ps.length+np.length+(xs.length+np2.length):=by simp only[xAb,xCu]
 let⟨z3,us3,np3,M3,Kl3,c3,r3,k3⟩:=eW i3 hE (λb z=>hs b<|xBt _<|xBt _ z) () last (ps++np++(List.replicate xs.length pl++np2)) ();have:=r3.ln;have B3:=BF.cons0 (lo:=ps.length+np.length+(xs.length+np2.length)) r3 el2 (.nil (Z:=Z)) () ();rw[xB0,xB0,xB0] at B3;have B2:=BF.cons (Z:=Z) (kl0:=kls f pl (ps++np).length xs) (lo:=ps.length+np.length) (j:=xs.length) (rep:=List.replicate xs.length pl) r2 (by rw[xAb,xCu,el]) xCu B3 () () () (λk z=>xAj.mp z);rw[el] at c2;let⟨_,_,_,_,_,c,r,e'⟩:=mJ (c2:=(Pg.mat pl a w xs b c).pls.length) (c3:=b.pls.length+c.pls.length+1) (last:=last) kdT qt (.one c1 r1.lu) (by show 1<=100;decide) (qN (w:=w) c2<|c3.up ()) r1 B2 (.mat (r1.one.flt ∅) (t:=w)) (by show 2<=2;decide) (by rw[xAb,xAb,xCu];lia) hd (by rw[xAb,xAb,xCu];lia) ();refine⟨_,_,_,_,_,c,r,?_⟩;rw[e',xC6,xAb,xAb,xAb,fG];show _<=((a.bps++(xs.map (Prod.mk pl)++(b.bps++_))).filter _).length;rw[db,db,db,Nat.add_assoc (List.length _) Kl2.length];exact Nat.add_le_add k1<|Nat.add_le_add (xAg _)<|Nat.add_le_add k2 k3
end
section
variable{f:Fd}{sc xs:C0}{d:Nat}{pl:Int}{a b c:Pg}{y w:Str}
theorem xn(i1:NPr f sc d a)(i2:NPr f (sc++[y]) d b)(hd:d<=14):NPr f sc (d+1)<|.lt pl y a b:=by
 intro β kvs Z hE hs hk last ps hb;have e:(Pg.lt pl y a b).pls.length=a.pls.length+b.pls.length+1:=by show(a.pls++b.pls).length+1=_;rw[xAb]
 let⟨z,us,np,M,Kl,c1,r1,k1⟩:=i1 hE (λb z=>hs b<|xBw _ z) () false ps ();have:=r1.ln;have el:(ps++np).length=ps.length+np.length:=xAb;have k1:Kl.length<=(a.bps.filter λb=>isset f b.1 b.2).length:=k1;have eb:((Pg.lt pl y a b).bs f).length=(a.bps.filter λb=>isset f b.1 b.2).length+(((pl,y)::b.bps).filter λb=>isset f b.1 b.2).length:=db;rw[List.filter_cons] at eb;cases hi:isset f pl y with
 |false=>
  have E2:=hE.up1 (pl:=pl) (y:=y) r1.one (λz=>by rw[hi] at z;cases z);rw[hi] at E2;have pk:=fA (bs:=[(y,U.tup [z,.bl false])]) (kvs:=kvs);let⟨z2,us2,np2,M2,Kl2,c2,r2,k2⟩:=i2 E2 (λb z=>hs b<|xBt _ z) (by rw[xAt] at pk;lia) last (ps++np) ();have R:=r1.app r2 λk z=>.inl z;refine⟨_,_,_,_,_,(vg c1 c2 r1.lu hi ()).up (),(⟨R.sr,λq hq=>R.ar q<|xBt _ hq,R.lu,R.ln,R.lm,R.ids⟩:RF _ _ _ _ _ _ _ _ _).up () (),?_⟩;rw[xCf<|by show ¬ isset f pl y=true;rw[hi];decide] at eb;have k2:Kl2.length<=(b.bps.filter λb=>isset f b.1 b.2).length:=k2;rw[xAb,eb];exact Nat.add_le_add k1 k2
 |true=>
  have R:=gf (lv':=4*d+2) (np2:=[]) (c2:=1) (Kl2:=[ps.length+np.length]) (pl:=pl) r1 (.nil (Z:=Z)) (.start (p:=pl)<|r1.one.flt ∅) ∅ () () () ∅ (by show 1<=1;decide) (λk z=>.inr z);have E2:=(hE.sub (Z':=Z++[ps.length+np.length]) λk z=>xBw _ z).up1 (pl:=pl) (y:=y) R.one (λ_=>⟨ps.length+np.length,xBt _<|xAm.mpr rfl,rfl⟩);rw[hi] at E2;have pk:=fA (bs:=[(y,U.tup [.tup [.str "name",.int ((ps.length+np.length:Nat):Int)],.bl true])]) (kvs:=kvs);have l2:(ps++(np++[pl])).length=ps.length+np.length+1:=by simp only[xAb,xAt];lia
  let⟨z2,us2,np2,M2,Kl2,c2,r2,k2⟩:=i2 E2 (λb z=>hs b<|xBt _ z) (by rw[xAt] at pk;exact xCk (Nat.add_le_add_right pk _) ()) last (ps++(np++[pl])) ();have R2:=R.app r2 λk z=>by
   rcases xAj.mp z with z|z
   .exact .inl z
   .exact .inr<|xBt _<|xBw _ z
  have R2:RF _ _ _ _ [z2] _ _ _ _:=⟨R2.sr,λq hq=>R2.ar q<|xBt _ hq,R2.lu,R2.ln,R2.lm,R2.ids⟩
  simp only[xAx,List.singleton_append,xC6] at R2;refine⟨_,_,_,_,_,(vf c1 (by rw[xAx];exact c2) r1.lu hi () () ()).up (),R2.up () (),?_⟩;rw[xCg<|show isset f pl y=true from hi] at eb;have k2:Kl2.length<=(b.bps.filter λb=>isset f b.1 b.2).length:=k2;rw[eb,xAo];simp only[xAb,xAo];lia
end
section
variable{f:Fd}{N:Str->Prop}{sc:C0}{d:Nat}{P:Pg}
theorem xq(h:Wf N sc d P):d<=14->NPr f sc d P:=by
 induction h with
 |num _ _=>exact λ_=>um
 |nam h=>exact λhd=>uo h hd
 |fn h hb ib=>exact λhd=>xo h.nd h.few (ib ()) ()
 |call hf h h4 i1 i2=>exact λhd=>qI h4 (i1 ()) (λa ha=>i2 a ha ()) ()
 |lt hx ha hb i1 i2=>exact λhd=>xn (i1 ()) (i2 ()) ()
 |st hx ha i1=>exact λhd=>xm hx (i1 ()) ()
 |dd ha hb i1 i2=>exact λhd=>xp (i1 ()) (i2 ()) ()
 |iff ha hb hc i1 i2 i3=>exact λhd=>ur (i1 ()) (i2 ()) (i3 ()) ()
 |math ho ha hb i1 i2=>exact λhd=>qG (i1 ()) (i2 ()) ()
 |make ht h h4 i2=>exact λhd=>qH h4 (λa ha=>i2 a ha ()) ()
 |mat ht hx ha hb hc i1 i2 i3=>exact λhd=>uq hx.nd hx.few (i1 ()) (i2 ()) (i3 ()) ()
 |rai hw ha i1=>exact λhd=>ul (i1 ()) ()
 |try_ hw hx ha hb i1 i2=>exact λhd=>uk (i1 ()) (i2 ()) ()
 |tell ha i1=>exact λhd=>qF (i1 ()) ()
 |ask=>exact λhd=>ut ()
end
section
variable{P:Pg}
def qM(ok:zGa P):∃(a:U) (us:C3) (np:C5) (M Kl:C4),RF [] 59 [] P.pls.length [a] us np M Kl/\Kl.length<=63/\∀{fw d:Nat}{S:So}{x:D3}{K:D0},(∀S',Kp S S'->K (.tup [.tup [.tup us,a],.tup<|np.map .int]) S')->(Gd fw<|d+70).call 37 [P.u] S x K:=by
 let⟨f,hs,hl,hf⟩:=sV ok;have le:=ok.le;let⟨a,us,np,M,Kl,bc,br,kl⟩:=eW (f:=f) (β:=λ_=>0) (kvs:=[]) (Z:=[]) (xq ok.wf ∅) (λ_ z=>nomatch z) hs ∅ true [] (by show 0+6*_<=_;lia);have bc:BoC _ _ _ _ _ _ _ 60:=bc;erw[<-⟨a,us,np,M,Kl,br,xCk kl<|A0 ok.wf ok.nd ok.ct hl,λ{fw d S x K} hk=>?_⟩,cd (d:=d+69) ⟨1,4,t37⟩,<-checked (d:=d+9) ok λS1 k1=>?_,pd (v:=.ref S1.length) (S':=S1++[.ins "Namer" []]) (by rfl),cd (d:=d+68) ⟨2,2,t28⟩,<-hf.h (d:=d+48) λS2 q k2 lq e2=>?_];have h2:=k2.ky<|zAu (l:=S1) (o:=Ob.ins "Namer" []);erw[pd (fB (fs':=[("set_ones",.ref q)]) h2 rfl rfl)];have h3:=zAc (o':=Ob.ins "Namer" [("set_ones",.ref q)]) h2;have q3:at? (set S2 S1.length<|Ob.ins "Namer" [("set_ones",.ref q)]) q=some (.dtt f):=atK h2 e2 (λz=>nomatch z);have k3:Kp S1<|set S2 S1.length<|Ob.ins "Namer" [("set_ones",.ref q)]:=⟨by rw[zAe];have:=k2.len;rw[xAb] at this;lia,λz=>atN (by have:=zA6 z;lia)<|k2.ky<|zAg z⟩
 generalize set S2 S1.length (Ob.ins "Namer" [("set_ones",.ref q)])=S3 at h3 q3 k3;erw[pd (v:=.ref S3.length) (S':=S3++[.lst []]) (by rfl)];have h4:at? (S3++[Ob.lst []]) S1.length=some (.ins "Namer" [("set_ones",.ref q)]):=zAg h3;erw[pd (fB (fs':=[("set_ones",.ref q),("places",.ref S3.length)]) h4 rfl rfl)];have lh:=zA6 h3;have n4:Nm S1.length q S3.length f []<|set (S3++[Ob.lst []]) S1.length<|.ins "Namer" [("set_ones",.ref q),("places",.ref S3.length)]:=⟨zAc h4,atK h4 (zAg q3) (λz=>nomatch z),atN ()<|zAu (l:=S3)⟩
 have k4:Kp S1<|set (S3++[Ob.lst []]) S1.length<|.ins "Namer" [("set_ones",.ref q),("places",.ref S3.length)]:=⟨by rw[zAe,xAb];have:=k3.len;lia,λz=>atN (by have:=zA6 z;lia)<|zAg<|k3.ky z⟩
 have ls3:S1.length<=S3.length:=k3.len;generalize set (S3++[Ob.lst []]) S1.length (Ob.ins "Namer" [("set_ones",.ref q),("places",.ref S3.length)])=S4 at n4 k4;erw[pd (cn n4.ob rfl),pd (v:=.ref S4.length) (S':=S4++[.dct []]) (by rfl)];have k5:Kp S4<|S4++[Ob.dct []]:=⟨⋯,λz=>zAg z⟩
 erw[<-bc.h (d:=d+9) (n4.kp k5) (zAu (l:=S4)) λS6 n6 p6=>?_,pd (cS n6.ob rfl),<-pd (v:=.tup<|np.map .int) (S':=S6) ?_ ?_]
 .show zA0 (.ref S3.length) S6=_;unfold zA0;dsimp only[lsU];rw[n6.pl];rfl
 refine hk S6 ⟨?_,λz=>p6.ky ?_<|k5.ky<|k4.ky<|k1.ky z⟩
 .have:=k1.len;have:=k4.len;have:=k5.len;have:=p6.len;lia
 .have:=zA6<|k1.ky z;lia
theorem rj{k:Nat}:∀{l:C4},k∈l->(zAq k<|l.map λj=>(j,U.non)).isSome=true
 |j::r,h=>by
  rw[xBs,zAq];split
  .rfl
  .next e=>exact rj ((xAv.mp h).resolve_left λz=>e z.symm)
def Ae{D:C4}(nd:D.Nodup)(h:∀k∈D,k∈Kl):D.length<=Kl.length:=by
 have:=jd (f:=Kl.map λj=>(j,U.non)) nd λk hk=>rj<|h k hk
 rwa[xAa] at this
def vU{a:U}{us:C3}{c:Nat}(R:RF [] 59 [] c [a] us np M Kl)(hK:Kl.length<=63)(hc:c<=300):∃(us':C3) (ns L:C4),Flt 70 (.tup [.tup us,a])/\Flt 70 (.tup [.tup us',a])/\np.length<=1800/\ns.length<=63/\MeB (.tup [.tup us,a]) M 61/\LoB np M L [] (.tup [.tup us,a]) np.length (.tup [.tup us',a]) ns 62/\∀{fw d:Nat}{S:So}{x:D3}{K:D0},9000<=fw->(∀S',Kp S S'->K (.tup [.tup [.tup us',a],.tup<|(np++ns.map (pw np)).map .int]) S')->(Gd fw<|d+61).call 8 [.tup [.tup [.tup us,a],.tup<|np.map .int]] S x K:=by
 let⟨az,rfl,fa⟩:=R.one.tp;have s:zCl np 0 (0+np.length) us M 59:=R.sr np (by show 0+np.length<=np.length;lia);have lm:=R.lm;have ln:=R.ln;have lu:=R.lu;let⟨ins,ms,mi,wi,si,bf,e,el,wl⟩:=s.bf;have em:∀k,k∈ms++mi++[]↔k∈M:=λk=>by rw[xB0];exact(e k).symm
 have inK:∀k,k∈ms++mi++[]->k∈Kl:=λk z=>(R.ids k<|(em k).mp z).resolve_left λz=>nomatch z;have hL:∀k,k∈lof (ms++mi++[])↔k∈M:=λk=>by rw[mS,em k]
 let⟨us',ns,c1,c2,c3,c4,c5⟩:=s.bx hL<|np.length+0;have h63:∀D:C4,D.Nodup->(∀k∈D,k∈ms++mi++[])->D.length<=63:=λD nd h=>xCk (Ae nd λk z=>inK k<|h k z) hK;have nl:ns.length<=63:=h63 ns (c4.1.imp λh=>xA0 h) λk z=>mS.mp (c4.2 k z).2.2;have B:=Bf.cons (xs:=[]) (a:=.tup az) si bf .nil;have bb:BxB np (lof<|ms++mi++[]) [] (.tup [.tup us,.tup az]) np.length (.tup [.tup us',.tup az]) ns<|56+4:=vJ c1 (λ_ z=>nomatch z) ∅ () () ∅;refine⟨us',ns,lof<|ms++mi++[],?_,?_,(),nl,vt s.me (),vv (xs:=[]) hL ∅ c2 (λ_ z=>nomatch z) ∅ fa,λ{fw d S x K} hfw hk=>?_⟩
 .exact .tup<|.cons (.tup λz hz=>(s.fl z hz).up ∅)<|.cons (fa.up ∅) .nil
 .exact .tup<|.cons (.tup λz hz=>(c3 z hz).up ∅)<|.cons (fa.up ∅) .nil
 .refine sg (d:=d) B () ?_ h63 hfw bb () hk;rw[xB0];lia
end
theorem jX:∀{l:C4},zDd (nu l)=some (l.map λi:Nat=>(i:Int))
 |[]=>rfl
 |a::l=>by
  show(zDd<|nu l).map _=_;rw[jX];rfl
theorem vq:∀{n lo:Nat},nu (List.range' lo n)=zBt (lo:Int) n
 |0,_=>rfl
 |n+1,lo=>by
  show .int (lo:Int)::nu (List.range' (lo+1) n)=.int (lo:Int)::zBt ((lo:Int)+1) n;rw[vq];rfl
section
variable{S:So}{nw lo n:Nat}
def zm:((List.range' lo n).map λi:Nat=>(i:Int)).Pairwise (·<=·):=List.pairwise_map.mpr ((List.pairwise_lt_range' (s:=lo) (n:=n)).imp λh=>())
def tE(h:at? S nw=some (.lst<|nu<|List.range' lo n))(hl:n<64):pr ups .srt [.ref nw] S=.ok (.lst<|nu<|List.range' lo n) S:=by
 have e:zDq S (.ref nw)=some ((List.range' lo n).map λi:Nat=>(i:Int)):=by
  unfold zDq;rw[show lsT S (.ref nw)=some (nu<|List.range' lo n) by show(match at? S nw with|some (.lst xs)=>some xs|_=>none)=_;rw[h]];exact jX
 show(match zDq S (.ref nw) with|some ns=>(match decide (ns.length<64) with|true=>Res.ok (.lst<|(zCq ns).map .int) S|false=>.stuck)|none=>.stuck)=_;rw[e];dsimp only;rw[xBd<|by rw[xAa,List.length_range'];exact hl];dsimp only;rw[<- iL (.refl _) zm];unfold nu;rw[List.map_map];rfl
def jW:Flt (m+1)<|.tup<|np.map .int:=.tup λz hz=>by
 let⟨i,_,rfl⟩:=xA2.mp hz;exact .int
def gm:pr ups .len [.tup<|np.map .int] S=.ok (.int (np.length:Nat)) S:=by
 show Res.ok (.int ((np.map U.int).length:Nat)) S=_;rw[xAa]
def xH(xs:C5)(hfw:9000<=fw){x:D3}:(Gd fw<|d+71).call 59 [.kl<|xs.map .int] S x λv _=>v=.bl true:=by
 let⟨P,ok,B⟩:=tD xs;let⟨a,us,np,M,Kl,R,hK,N⟩:=qM ok;let⟨us',ns,L,f1,f2,l1,l2,me,lo,X⟩:=vU R hK ok.le;have fX:∀{b:U}{q:C5},Flt 70 b->Flt 72 (.tup [b,.tup<|q.map .int]):=λh=>.tup<|.cons (h.up ∅)<|.cons jW .nil;refine cd (d:=d+70) ⟨1,4,t59⟩ ?_;refine B (d:=d+20) λS1 k1=>?_;refine N (d:=d) λS2 k2=>?_;refine X (d:=d+9) hfw λS3 k3=>?_;refine pv (.bl true) ?_;refine bF ?_;refine pv (.int 2) ?_;refine pv (.bl false) ?_;refine bF ?_;refine pd cO ?_;refine pv (.bl true) ?_;refine bF ?_;refine pd cb ?_;refine me.h (d:=d+9) λS4 m k4 lm hm=>?_;refine pd cO ?_;refine pd gm ?_;refine pd cO ?_;refine pd (v:=.ref S4.length) (S':=S4++[.lst []]) (by rfl) ?_;refine pd (v:=.ref<|S4.length+1) (S':=S4++[.lst []]++[.dct [(.inr "set",.ref m),(.inr "many",.int (np.length:Nat)),(.inr "places",.tup<|(np++ns.map (pw np)).map .int),(.inr "new",.ref S4.length)]]) (by show Res.ok (.ref (S4++[Ob.lst []]).length) _=_;rw[xAb];rfl) ?_;have lmm:=zA6 hm;have w0:Wl (S4.length+1) m S4.length M np (np++([]++(ns.map (pw np)++[]))) np.length<|S4++[.lst []]++[.dct [(.inr "set",.ref m),(.inr "many",.int (np.length:Nat)),(.inr "places",.tup<|(np++ns.map (pw np)).map .int),(.inr "new",.ref S4.length)]]:=⟨by
  have:=zAu (l:=S4++[Ob.lst []]) (o:=.dct [(.inr "set",.ref m),(.inr "many",.int (np.length:Nat)),(.inr "places",.tup<|(np++ns.map (pw np)).map .int),(.inr "new",.ref S4.length)]);rw[xAb] at this;rw[xB0];exact this,zAg<|zAg hm,by rw[Nat.sub_self];exact zAg (zAu (l:=S4)),xAg _⟩
 generalize S4++[Ob.lst []]++[.dct [(.inr "set",.ref m),(.inr "many",.int (np.length:Nat)),(.inr "places",.tup<|(np++ns.map (pw np)).map .int),(.inr "new",.ref S4.length)]]=S5 at w0;erw[pd cO,pd cO,pd gm,pd (v:=.tup<|np.map .int) (S':=S5) (by have:=pP (A:=np.map U.int) (B:=(ns.map<|pw np).map U.int) (S:=S5);rwa[xAa,<- xAi] at this),pd cO,pd (fE (n:=1) jW ∅),bF,pd cb,pd cb,<-lo.h (d:=d+8) w0 (by rw[xB0]) () () λS6 w6 p6=>?_,bF,pd (cN w6.di rfl)];have ne:=w6.ne;rw[Nat.add_sub_cancel_left] at ne;erw[pd (tE ne ()),pd cO,pd gm,pd cO,pd gm,<-pd (v:=.lst<|zBt np.length ns.length) (S':=S6) ?_ ?_]
 .delta pr;dsimp only;rw[xAb,xAa,xBd ()];dsimp only;rw[show(((np.length+ns.length:Nat):Int)-(np.length:Nat)).toNat=ns.length by lia]
 refine pd (v:=.bl false) (S':=S6) ?_ ?_
 .rw[<- vq];show Fx.neU (.lst<|nu<|List.range' np.length ns.length) (.lst<|nu<|List.range' np.length ns.length) S6=_;unfold Fx.neU;rw[show eqS (.lst<|nu<|List.range' np.length ns.length) (.lst<|nu<|List.range' np.length ns.length)=none from rfl];dsimp only[lsT,zEm];rw[Nat.beq_refl];have hs:same S6 80 (.lst<|nu<|List.range' np.length ns.length) (.lst<|nu<|List.range' np.length ns.length)=true:=by
   unfold same;dsimp only[lsT];refine fj λz hz=>?_;unfold nu at hz;let⟨i,_,rfl⟩:=xA2.mp hz;exact fq .int
  rw[hs];rfl
 erw[bF,<-X (d:=d+9) hfw λS7 k7=>?_,pd (nB (fX f2) ∅),bT,<-B (d:=d+20) λS8 k8=>?_,<-N (d:=d) λS9 k9=>?_,pd (nB (fX f1) ∅)];rfl
def math:∀ns:C5,ns.length<=63->(zA1 ups tab 1000000<|80+1).call 59 [.kl<|ns.map U.int] [] (λ_ _=>False) (λv _=>v=.bl true):=λns _=>by
 have:=xH ns (fw:=1000000) (d:=10) ∅ (S:=[]) (x:=λ_ _=>False);rw[iG] at this;exact this
end
def walk{l:PySem.W.OpenLaw}{q:Program}{loose:C0}{XP:(Str->B5 B6)->Heap->Prop}{YP:World->Heap->Prop}{d:DefRec}{K:Params->xFr}(hn:l.most=some 63)(hdf:d.params.defaults=[])(hY:∀(w:World)(h:Heap),YP w h->(K w.params).In h)(F:∀(w:World)(mg:Str->B5 B6)(fa:B9)(h:Heap),(K w.params).In h->h.Ns mainGlobals mg->mg d.name=some (.ref fa) ->
   ∃fd:FuncData,(∀(s:B7)(u:B6),BindsTo s fd ⟨[u],[]⟩ [("_law_script",u)])/\∀base:Heap,(K w.params).In base->base.Ns mainGlobals mg->zBc l.prog w (K w.params) mg base (CXz l.prog w) (2*(80+1)+1) fa fd ["_law_script"] (zDg (K w.params) 63)) :
  PySem.W.WalkO q loose XP YP l.row.toRowW d [] (λf vs=>PySem.call f vs):=
 L2.walk_of (n:=63) (k:=2*(80+1)+1) (x:="_law_script") (CX:=λw=>CXz l.prog w) (sp:=λw=>zDg (K w.params) 63) hn ∅ hdf ⟨rfl,∅,∅,rfl⟩ hY F (λ_ _ a ns hl _ hS=>⟨a,ns,rfl,hl,hS,λ_=>rfl⟩) λ_ _ _ _ _ z=>z
end K32
end
namespace PySem.W.Fast
noncomputable abbrev tw13186627514453063785:PySem.Program:=PySem.Challenge.pw_spacewright_k32_boxes_stand_for_names
theorem te13186627514453063785:PySem.Challenge.pw_spacewright_k32_boxes_stand_for_names=tw13186627514453063785:=rfl
theorem te13052408679150730464:True:=⟨⟩
theorem te2469009164876924479:True:=⟨⟩
theorem te16555476440528808052:True:=⟨⟩
theorem te4868988410673395695:True:=⟨⟩
theorem te5452508617037859911:True:=⟨⟩
end PySem.W.Fast
open Fx in
set_option maxHeartbeats 0 in
open PySem PySem.W PyProof.Rows in
theorem PySem.Challenge.cw_spacewright_k32_boxes_stand_for_names_holds : PySem.Challenge.rw_spacewright_k32_boxes_stand_for_names.Holds := by
  w_on;o_law;k_head;(case hw=>w_witness2);k_fill
  refine K32.walk (l := PySem.Challenge.rw_spacewright_k32_boxes_stand_for_names) rfl rfl (fun w h Y=>PySem.W.kIn_of Y) ?F;case F =>
    intro w mg fa h KX G hmg;refine' K32.all_mk KX G hmg (K32.csr ..) ?_ (K32.csr ..) ?_ (K32.csr ..) ?_ ?_ ?_ ?_ ?_ ?_ ?_ ?_ (dnr ..) (dnr ..) (dnr ..) (dnr ..) (mdr ..) (mdr ..) (mdr ..) (mdr ..) (dnr ..) (dnr ..) (dnr ..) (dnr ..) (dnr ..) (dnr ..) (dnr ..) (dnr ..) (dnr ..) (dnr ..) (mdr ..) (mdr ..) (mdr ..) (mdr ..) (dnr ..) (dnr ..) (dnr ..) (dnr ..) (dnr ..) (dnr ..) (mdr ..) (mdr ..) (mdr ..) (mdr ..) (mdr ..) (mdr ..) (mdr ..) (mdr ..) (dnr ..) (dnr ..) (dnr ..) (dnr ..) (dnr ..) (dnr ..) (dnr ..) (dnr ..) (dnr ..) (dnr ..) (dnr ..) (dnr ..) (dnr ..) (dnr ..) (dnr ..) (dnr ..) (dnr ..) (dnr ..) (dnr ..) (dnr ..) (dnr ..) (dnr ..) (dnr ..) (dnr ..) ?_ ?_ ?gkWORDS ?goWORDS ?_ ?_ ?_ ?_ ?_ ?_ ?_ ?_ ?_ ?_ (K32.tup_is ?_ ?_ ?_) ?_ (K32.tup_is ?_ ?_ ?_) ?_ ?_ ?gkFORMS ?goFORMS ?_ ?_ (K32.tup_is ?_ ?_ ?_) ?_ (K32.tup_is ?_ ?_ ?_) ?_ (K32.tup_is ?_ ?_ ?_) ?_ (K32.tup_is ?_ ?_ ?_) ?_ (K32.tup_is ?_ ?_ ?_) ?_ (K32.tup_is ?_ ?_ ?_) ?_ (K32.tup_is ?_ ?_ ?_) ?_ (K32.tup_is ?_ ?_ ?_) ?_ (K32.tup_is ?_ ?_ ?_) ?_ (K32.tup_is ?_ ?_ ?_) ?_ (K32.tup_is ?_ ?_ ?_) ?_ (K32.tup_is ?_ ?_ ?_) ?_ (K32.tup_is ?_ ?_ ?_) ?_ (K32.tup_is ?_ ?_ ?_) ?_ (K32.tup_is ?_ ?_ ?_) ?_ ?_ ?gkSCOPES ?goSCOPES ?_ ?_ (K32.tup_is ?_ ?_ ?_) ?_ (K32.tup_is ?_ ?_ ?_) ?_ (K32.tup_is ?_ ?_ ?_) ?_ (K32.tup_is ?_ ?_ ?_) K32.math;any_goals k_is
    (case gkWORDS=>exact ⟨⟨_,_,rfl,rfl⟩,⟨_,_,rfl,rfl⟩,⟨_,_,rfl,rfl⟩,True.intro⟩)
    (case goWORDS=>rfl)
    (case gkFORMS=>exact ⟨⟨_,_,rfl,rfl⟩,⟨_,_,rfl,rfl⟩,⟨_,_,rfl,rfl⟩,⟨_,_,rfl,rfl⟩,⟨_,_,rfl,rfl⟩,⟨_,_,rfl,rfl⟩,⟨_,_,rfl,rfl⟩,⟨_,_,rfl,rfl⟩,⟨_,_,rfl,rfl⟩,⟨_,_,rfl,rfl⟩,⟨_,_,rfl,rfl⟩,⟨_,_,rfl,rfl⟩,⟨_,_,rfl,rfl⟩,⟨_,_,rfl,rfl⟩,⟨_,_,rfl,rfl⟩,True.intro⟩)
    (case goFORMS=>rfl)
    (case gkSCOPES=>exact ⟨⟨_,_,rfl,rfl⟩,⟨_,_,rfl,rfl⟩,⟨_,_,rfl,rfl⟩,⟨_,_,rfl,rfl⟩,True.intro⟩)
    (case goSCOPES=>rfl)
    all_goals first | kernel_rfl | decide | (repeat' first | exact .nil | refine .cons ⟨_, rfl⟩ ?_)
