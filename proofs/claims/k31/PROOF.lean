import PyProof.Rows.All
import Wide.All
import OpenK.AllK
import Wide.FinOn
import PyProof.EqAt
import PyProof.EqKinds
import PyProof.NeKinds
import PyProof.TupleCall
import PyProof.SetKind
import PyProof.DictKinds
import PyProof.MeetsSeq2
import PyProof.SetRoads
import PyProof.SetNew
import PyProof.Rows.SetFrom
import KE.KDictList
import PyProof.Rows.SortWalk
import KE.KDictSum
import PyProof.EnumFor
import PyProof.EnumStmt
import PyProof.EnumMake
import KE.KRevIter
import PyProof.Draws
import PyProof.CollectIter
import PyProof.TupleOfGen
import PyProof.TupleOps
import KE.KEqDict
import PyProof.WalkInts
import PyProof.PureStr
import PyProof.Rows.StrJoin2
import PyProof.StrCalls2
import PyProof.ConsumeWalk
import KE.KIntText
import PyProof.DictUpdate
import PyProof.FString
import PyProof.StrOps2
import PyProof.SliceStr2
import PyProof.StrBlockI
import PyProof.StrWalks
import OpenK.KTop
import PyProof.ZipIter
import PyProof.StrLawsTight
import PyProof.StrLawsRepr
import KE.KSortTup
import PySem.Challenge.RW_spacewright_k31_names_that_are_set
set_option tactic.hygienic false
set_option compiler.extract_closed false
set_option genInjectivity false
set_option genSizeOf false
set_option bootstrap.genMatcherCode false
set_option Elab.async false
set_option linter.all false
set_option maxRecDepth 100000
set_option maxHeartbeats 4000000
local macro_rules|`(())=>`(by lia)
local macro_rules|`(∅)=>`(by decide)
local macro_rules|`(⋯)=>`(by simp)
def zzP:Nat->Lean.Term->Lean.MacroM (Lean.TSyntax `rcasesPat)
 |0,_=>Lean.Macro.throwUnsupported
 |n+1,t=>do
  match t with
  |`(⟨$xs,*⟩)=>
   let ys<-xs.getElems.mapM (zzP n)
   `(rcasesPat|⟨$[$ys:rcasesPat],*⟩)
  |`(_)=>`(rcasesPat|_)
  |`($x:ident)=>`(rcasesPat|$x:ident)
  |_=>Lean.Macro.throwUnsupported
local macro_rules|`(tactic|let ⟨$xs,*⟩:=$e)=>do
 let p<-zzP 9 (<-`(⟨$xs,*⟩))
 `(tactic|obtain $p:rcasesPat:=$e)
noncomputable section
abbrev B7.{u}:Type u->Type u:=List
abbrev B8.{u}:Type u->Type u:=Option
abbrev B9:=PySem.Value
abbrev B':=PySem.Shared
abbrev C0:=PySem.Expr
abbrev C3:=PySem.Addr
abbrev C4:=Bool
abbrev C5:=B7 PySem.Str
abbrev C7:=B7 Nat
abbrev C8:=B7 Int
abbrev D0:=B7 B9
local macro_rules|`(tactic|erw[$f $xs*])=>`(tactic|refine $f $xs* ?_)|`(tactic|erw[$e:term])=>`(tactic|refine $e ?_)|`(tactic|erw[<-$e:term])=>`(tactic|refine $e)|`(tactic|erw[$r,$rs,*])=>`(tactic|(erw[$r];erw[$rs,*]))
abbrev xFr:=PySem.W.Frag
def xAa:type_of%@List.length_map:=@List.length_map
def xAb:type_of%@List.length_append:=@List.length_append
def xAc:type_of%@List.mem_of_getElem?:=@List.mem_of_getElem?
def xAd:type_of%@PySem.wpAny_bind:=@PySem.wpAny_bind
def xAe:type_of%@PySem.wpAny_pure:=@PySem.wpAny_pure
def xAf:type_of%@PySem.Heap.get?_push_of_some:=@PySem.Heap.get?_push_of_some
def xAg:type_of%@Nat.le_refl:=@Nat.le_refl
def xAh:type_of%@Array.length_toList:=@Array.length_toList
def xAi:type_of%@List.map_append:=@List.map_append
def xAj:type_of%@List.mem_append:=@List.mem_append
def xAk:type_of%@List.getElem?_eq_getElem:=@List.getElem?_eq_getElem
def xAl:type_of%@PySem.Heap.get?_push_size:=@PySem.Heap.get?_push_size
def xAm:type_of%@List.mem_singleton:=@List.mem_singleton
def xAo:type_of%@List.length_cons:=@List.length_cons
def xAp:type_of%@List.size_toArray:=@List.size_toArray
def xAq:type_of%@List.getElem?_eq_some_iff:=@List.getElem?_eq_some_iff
def xAr:type_of%@List.mem_cons_self:=@List.mem_cons_self
def xAs:type_of%@List.mem_cons_of_mem:=@List.mem_cons_of_mem
def xAt:type_of%@List.length_singleton:=@List.length_singleton
def xAv:type_of%@List.mem_cons:=@List.mem_cons
def xAw:type_of%@List.getElem?_map:=@List.getElem?_map
def xAx:type_of%@List.append_assoc:=@List.append_assoc
def xAy:type_of%@Bool.false_ne_true:=@Bool.false_ne_true
def xAz:type_of%@Bool.false_eq_true:=@Bool.false_eq_true
def xA0:type_of%@Nat.ne_of_lt:=@Nat.ne_of_lt
def xA1:type_of%@PySem.Heap.lt_size:=@PySem.Heap.lt_size
def xA2:type_of%@List.mem_map:=@List.mem_map
def xA7:type_of%@PySem.Heap.get?_update_self:=@PySem.Heap.get?_update_self
def xA8:type_of%@Array.getElem?_toList:=@Array.getElem?_toList
def xBa:type_of%@Int.emod_nonneg:=@Int.emod_nonneg
def xBb:type_of%@Int.emod_lt_of_pos:=@Int.emod_lt_of_pos
def xBc:type_of%@Nat.lt_of_lt_of_le:=@Nat.lt_of_lt_of_le
def xBd:type_of%@decide_eq_true:=@decide_eq_true
def xBe:type_of%@of_decide_eq_true:=@of_decide_eq_true
def xBl:type_of%@PySem.wpAny_newObj_type:=@PySem.wpAny_newObj_type
def xBn:type_of%@Nat.zero_le:=@Nat.zero_le
def xBo:type_of%@Nat.lt_irrefl:=@Nat.lt_irrefl
def xBq:type_of%@List.nodup_append:=@List.nodup_append
def xBs:type_of%@List.map_cons:=@List.map_cons
def xBt:type_of%@List.mem_append_right:=@List.mem_append_right
def xBu:type_of%@Int.le_refl:=@Int.le_refl
def xBv:type_of%@List.not_mem_nil:=@List.not_mem_nil
def xBw:type_of%@List.mem_append_left:=@List.mem_append_left
def xBz:type_of%@List.getD_eq_getElem?_getD:=@List.getD_eq_getElem?_getD
def xB0:type_of%@List.append_nil:=@List.append_nil
def xB3:type_of%@Option.some.inj:=@Option.some.inj
def xB5:type_of%@PySem.Heap.SameBut.update:=@PySem.Heap.SameBut.update
def xB7:type_of%@Array.getElem?_eq_some_iff:=@Array.getElem?_eq_some_iff
def xCa:type_of%@Nat.lt_succ_of_lt:=@Nat.lt_succ_of_lt
def xCb:type_of%@List.nodup_cons:=@List.nodup_cons
def xCf:type_of%@if_neg:=@if_neg
def xCg:type_of%@if_pos:=@if_pos
def xCh:type_of%@Bool.and_eq_true:=@Bool.and_eq_true
def xCi:type_of%@Option.bind_eq_some_iff:=@Option.bind_eq_some_iff
def xCj:type_of%@List.all_cons:=@List.all_cons
def xCk:type_of%@Nat.le_trans:=@Nat.le_trans
def xCl:type_of%@List.getElem?_append_right:=@List.getElem?_append_right
def xCn:type_of%@decide_eq_false:=@decide_eq_false
def xCo:type_of%@Nat.le_of_ble_eq_true:=@Nat.le_of_ble_eq_true
def xCp:type_of%@Nat.lt_succ_self:=@Nat.lt_succ_self
def xCu:type_of%@List.length_replicate:=@List.length_replicate
def xCx:type_of%@List.all_eq_true:=@List.all_eq_true
def xCy:type_of%@List.any_eq_true:=@List.any_eq_true
def xC3:type_of%@Int.toNat_natCast:=@Int.toNat_natCast
def xC6:type_of%@List.nil_append:=@List.nil_append
def xC7:type_of%@List.nodup_nil:=@List.nodup_nil
def xDa:type_of%@PySem.wpAny_field:=@PySem.wpAny_field
def xDc:type_of%@PySem.wpAny_holding:=@PySem.wpAny_holding
def xDe:type_of%@Bool.and_false:=@Bool.and_false
def xDk:type_of%@Nat.ble_eq_true_of_le:=@Nat.ble_eq_true_of_le
namespace L2
open PySem PySem.Spec PyProof.Rows
variable{H:Hp}{h base:Heap}{g':Array GenState}{t' i j k n:Nat}{d':Drawn}{ch fp:B7 C3}{it dx C:C3}{N ps:C5}{M:Model}{A:Around}{X:Cx}{s:B'}{pos:Pos}{Z:B7<|C3×Obj}{Q:B9->B'->Prop}{y:V}{K:xFr}{es:B7 C0}{tg:C0}{te:TE}{op op':CmpOp}{r':R2}{kw:B7<|Str×B9}{mg:Str->B8 B9}{CX:CXT}{fd:FuncData}{sp:Sp}{outer:B7 Env}{vs:B7 V}{qual:Str}{scope:Scope}
noncomputable abbrev Key:=Sum Int Str
noncomputable def zCi:Key->B9->C4
 |.inl k,v=>Value.isInt k v
 |.inr x,v=>Value.isStrOf x v
noncomputable def zJ9(w:World):Key->Int
 |.inl k=>hashInt k
 |.inr x=>hashStr w x
theorem cw:∀{k:Key}{v:B9},zCi k v=true->(∃i t,k=Sum.inl i/\v=Value.int i t)\/(∃x t,k=Sum.inr x/\v=Value.str x t)
 |.inl i,v,h=>by
  let⟨t,e⟩:=Value.isInt_shape (k:=i) (v:=v) h;exact .inl ⟨i,t,rfl,e⟩
 |.inr x,v,h=>by
  let⟨t,e⟩:=Value.isStrOf_shape (x:=x) (v:=v) h;exact .inr ⟨x,t,rfl,e⟩
def oA(i:Int)(t:Tok):zCi (.inl i) (.int i t)=true:=by simp[zCi,Value.isInt]
def oz(x:Str)(t:Tok):zCi (.inr x) (.str x t)=true:=by simp[zCi,Value.isStrOf]
def yb(a b:Int):decide ((Sum.inl a:Key)=Sum.inl b)=(a==b):=by
 by_cases e:a=b
 .subst e;simp
 .have h:¬ (Sum.inl a:Key)=Sum.inl b:=λq=>e<|Sum.inl.inj q;rw[xCn h];exact(beq_eq_false_iff_ne.mpr e).symm
def x8(a b:Str):decide ((Sum.inr a:Key)=Sum.inr b)=decide (a=b):=by
 by_cases e:a=b
 .subst e;simp
 .have h:¬ (Sum.inr a:Key)=Sum.inr b:=λq=>e<|Sum.inr.inj q;rw[xCn h,xCn e]
def ya(a:Int)(b:Str):decide ((Sum.inl a:Key)=Sum.inr b)=false:=xCn λq=>nomatch q
def x9(a:Str)(b:Int):decide ((Sum.inr a:Key)=Sum.inl b)=false:=xCn λq=>nomatch q
def zAj(prog:Program)(w:World):PySem.KeyKind prog w Key where
 is:=zCi
 hash:=zJ9 w
 inj:=λv a b l hb=>by
  rcases cw l with ⟨i,t,rfl,rfl⟩|⟨x,t,rfl,rfl⟩
  .rcases cw hb with ⟨j,u,rfl,e⟩|⟨y,u,rfl,e⟩
   .injection e with e1 _;rw[e1]
   .exact nomatch e
  .rcases cw hb with ⟨j,u,rfl,e⟩|⟨y,u,rfl,e⟩
   .exact nomatch e
   .injection e with e1 _;rw[e1]
 byValue:=λk v h=>by
  rcases cw h with ⟨i,t,rfl,rfl⟩|⟨x,t,rfl,rfl⟩ <;> rfl
 pyHash:=λc h=>by
  rcases cw c with ⟨i,t,rfl,rfl⟩|⟨x,t,rfl,rfl⟩
  .exact wpAny_pyHash_int h
  .exact wpAny_pyHash_str h
 eqBool:=λd c h=>by
  rcases cw d with ⟨i,t,rfl,rfl⟩|⟨x,t,rfl,rfl⟩
  .rcases cw c with ⟨j,u,rfl,rfl⟩|⟨y,u,rfl,rfl⟩
   .rw[yb] at h;exact wpAny_eqBool_int h
   .rw[ya] at h;exact SeqAt.EqAt.int_str i t y u _ _ _ _ h
  .rcases cw c with ⟨j,u,rfl,rfl⟩|⟨y,u,rfl,rfl⟩
   .rw[x9] at h;exact SeqAt.EqAt.str_int x t j u _ _ _ _ h
   .rw[x8] at h;exact wpAny_eqBool_str h
 «strs»:=λk x t v h=>by
  rcases cw h with ⟨i,u,rfl,e⟩|⟨y,u,rfl,e⟩
  .exact nomatch e
  .injection e with e1 _;subst e1;cases v <;> rfl
def jO(prog:Program)(w:World)(i:Int)(t:Tok):(zAj prog w).is (.inl i) (.int i t)=true:=oA i t
def jN(prog:Program)(w:World)(x:Str)(t:Tok):(zAj prog w).is (.inr x) (.str x t)=true:=oz x t
set_option genInjectivity true in
inductive V where
 |non|bl (b:Bool)|int (i:Int)|str (x:Str)|byt (b:Array UInt8)|flt (b:UInt64)|ref (a:Addr)|ty (n:String)
 deriving DecidableEq
abbrev C9:=B7 V
def zAh:V->B9->Prop
 |.non,u=>u=Value.none
 |.bl b,u=>u=Value.bool b
 |.int i,u=>∃t,u=Value.int i t
 |.str x,u=>∃t,u=Value.str x t
 |.byt b,u=>∃t,u=Value.bytes b t
 |.flt b,u=>∃t,u=Value.float b t
 |.ref a,u=>u=Value.ref a
 |.ty n,u=>u=Value.type n
noncomputable abbrev zAg:C9->D0->Prop:=Paired zAh
theorem zAg.length{xs:C9}{us:D0}(r:zAg xs us):xs.length=us.length:=Paired.length r
theorem zAg.get:∀{xs:C9}{us:D0}{i:Nat}{x:V},zAg xs us->xs[i]?=some x->∃u,us[i]?=some u/\zAh x u
 |_,_,_,_,.nil,e=>by simp at e
 |_,_,0,_,.cons r _,e=>by simp at e;subst e;exact⟨_,rfl,r⟩
 |_,_,i+1,x,.cons _ t,e=>by
  let⟨u,b,a⟩:=zAg.get (i:=i) (x:=x) t (by simpa using e);exact⟨u,by simpa using b,a⟩
theorem zAg.set{x:V}{u:B9}(r:zAh x u):∀{xs:C9}{us:D0}(i:Nat),zAg xs us->zAg (xs.set i x) (us.set i u)
 |_,_,_,.nil=>.nil
 |_,_,0,.cons _ t=>.cons r t
 |_,_,i+1,.cons q t=>.cons q<|zAg.set r i t
theorem zAg.append:∀{xs ys:C9}{us ws:D0},zAg xs us->zAg ys ws->zAg (xs++ys) (us++ws)
 |_,_,_,_,.nil,s=>s
 |_,_,_,_,.cons r t,s=>.cons r<|zAg.append t s
theorem zAg.take:∀{xs:C9}{us:D0}(n:Nat),zAg xs us->zAg (xs.take n) (us.take n)
 |_,_,0,_=>.nil
 |_,_,_+1,.nil=>.nil
 |_,_,n+1,.cons r t=>.cons r<|zAg.take n t
theorem zAg.drop:∀{xs:C9}{us:D0}(n:Nat),zAg xs us->zAg (xs.drop n) (us.drop n)
 |_,_,0,r=>r
 |_,_,_+1,.nil=>.nil
 |_,_,n+1,.cons _ t=>zAg.drop n t
def zCe:B8 V->B8 B9->Prop
 |some v,some u=>zAh v u
 |none,none=>True
 |_,_=>False
def KV{κ:Type}:B7 (κ×V)->B7 (κ×B9)->Prop:=Paired λ(p:κ×V) (q:κ×B9)=>p.1=q.1/\zAh p.2 q.2
noncomputable def kV:Key->V
 |.inl i=>.int i
 |.inr x=>.str x
inductive HO where
 
 |lst (xs:List V)
 
 |tup (xs:List V)
 
 |dK (kvs:List (Key×V))|dT (kvs:List (List Key×V))
 
 |set (S:Int->Bool) (n:Nat)
 
 |ins (C dx:Addr) (fs:List (Str×V))
 
 |own (x:Addr)
 
 |xd (fs:List (Str×V))
 
 |met (f x:Addr)
 
 |rng (lo hi:Int)
 
 |frz (o:Obj) (u:HO)
 
 |tbl (ps:Array Value)
 
 |ext (φ:Heap->Prop)
noncomputable abbrev Hp:=C3->B8 HO
noncomputable def upd(H:Hp)(a:C3)(o:HO):Hp:=λb=>if b=a then some o else H b
def bv{a:C3}{o:HO}:upd H a o a=some o:=by unfold upd;rw[xCg rfl]
def bt{a b:C3}{o:HO}(h:b≠a):upd H a o b=H b:=by unfold upd;rw[xCf h]
def Am{a b:C3}{o u:HO}(h:H a=some o)(h':H b=some u)(d:o≠u):a≠b:=by
 intro e;subst e;rw[h] at h';exact d (xB3 h')
def cy{a b:C3}{o:HO}(h:H a=some o)(h':H b=none):a≠b:=by
 intro e;subst e;rw[h] at h';cases h'
section
variable(P:Program)(w:World)
def zAe(H:Hp)(h:Heap)(a:C3):HO->Prop
 |.lst c=>c.length<=sizeLine/\∃(its:D0) (n:Nat),zAg c its/\h.get? a=some {cls:=.type "list",data:=.seq its.toArray n}
 |.tup c=>c.length<=sizeLine/\∃its:D0,zAg c its/\IsTup h a its.toArray
 |.dK b=>b.length<=sizeLine/\(a==sysModules)=false/\∃vs,KV b vs/\h.DictOf (zAj P w) a vs
 |.dT b=>b.length<=sizeLine/\(a==sysModules)=false/\∃c:B7<|B7 Key×C3×B9,
   Paired (λ(p:B7 Key×V) (q:B7 Key×C3×B9)=>p.1=q.1/\H q.2.1=some (.tup<|p.1.map kV)/\zAh p.2 q.2.2) b c /\
   ∃o es r,h.get? a=some o/\o.ExactDict/\o.data=.dict es r/\es.toList=c.map (entryOfKey<|tupleKind<|zAj P w)/\(c.map (·.1)).Nodup
 |.set S n=>h.SetOf (intKind P w) a S n
 |.ins C dx fs=>H dx=some (.own a)/\fs.length<=1000/\dx≠a/\h.get? a=some (W.instObj C dx) /\
   ∃mA,h.Ns1 dx mA/\(∀f,zCe (fs.lookup f)<|mA f)/\PySem.Within mA (fs.map (·.1))
 |.own _=>∃o,h.get? a=some o
 |.xd fs=>∃mA,h.Ns1 a mA/\∀f,zCe (fs.lookup f)<|mA f
 |.rng l m=>∃t u v,h.get? a=some {cls:=.type "range",data:=.fields #[.int l t,.int m u,.int 1 v]}
 |.frz o u=>h.get? a=some o/\zAe H h a u
 |.tbl ps=>h.get? a=some {cls:=.none,data:=.fields ps}
 |.met f x=>h.get? a=some (W.methodObj (.ref f)<|.ref x)
 |.ext φ=>φ h/\(∃o,h.get? a=some o)/\∀e d:Heap,φ e->(∀o,e.get? a=some o->d.get? a=some o)->φ d
def HOk(H:Hp)(h:Heap):Prop:=∀a o,H a=some o->zAe P w H h a o
end
section
variable{P:Program}{w:World}{H H':Hp}{h h':Heap}{a:C3}{o:HO}
theorem zAe.lt(x:zAe P w H h a o):a<h.objs.size:=by
 cases o with
 |lst c=>let⟨_,_,_,_,e⟩:=x;exact xA1 e
 |tup c=>let⟨_,_,_,p⟩:=x;exact p.lt
 |dK b=>let⟨_,_,_,_,o,_,_,e,_⟩:=x;exact xA1 e
 |dT b=>let⟨_,_,_,_,o,_,_,e,_⟩:=x;exact xA1 e
 |set S n=>let⟨o,_,_,_,e,_⟩:=x;exact xA1 e
 |ins C dx fs=>let⟨_,_,_,e,_⟩:=x;exact xA1 e
 |own y=>let⟨_,e⟩:=x;exact xA1 e
 |xd fs=>let⟨_,⟨_,_,_,e,_⟩,_⟩:=x;exact xA1 e
 |rng l m=>let⟨_,_,_,e⟩:=x;exact xA1 e
 |frz d u=>let⟨e,_⟩:=x;exact xA1 e
 |tbl ps=>exact xA1 (show h.get? a=some _ from x)
 |met f y=>exact xA1 (show h.get? a=some _ from x)
 |ext φ=>let⟨_,⟨_,e⟩,_⟩:=x;exact xA1 e
theorem Paired.mapP{J β:Type}{F G:J->β->Prop}:∀{l₁:B7 J}{l₂:B7 β},Paired F l₁ l₂->(∀a b,F a b->G a b)->Paired G l₁ l₂
 |_,_,.nil,_=>.nil
 |_,_,.cons r t,f=>.cons (f _ _ r)<|Paired.mapP t f
theorem zAe.stay(x:zAe P w H h a o)(k:∀b u,(b=a\/H b=some (.own a))->h.get? b=some u->h'.get? b=some u)(F:∀b,H b=some (.own a)->H' b=some (.own a))(E:∀b xs,H b=some (.tup xs)->H' b=some (.tup xs)):zAe P w H' h' a o:=by
 induction o with
 |lst xs=>let⟨z,its,n,r,e⟩:=x;exact⟨z,its,n,r,k _ _ (.inl rfl) e⟩
 |tup xs=>let⟨z,its,r,l,e,c⟩:=x;exact⟨z,its,r,l,k _ _ (.inl rfl) e,c⟩
 |dK B=>let⟨z,y,vs,r,l,es,m,e,c⟩:=x;exact⟨z,y,vs,r,l,es,m,k _ _ (.inl rfl) e,c⟩
 |dT B=>
  let⟨z,y,xs,r,l,es,m,e,c⟩:=x;exact⟨z,y,xs,Paired.mapP r λp q z=>⟨z.1,E _ _ z.2.1,z.2.2⟩,l,es,m,k _ _ (.inl rfl) e,c⟩
 |set S n=>let⟨l,es,m,t,e,c⟩:=x;exact⟨l,es,m,t,k _ _ (.inl rfl) e,c⟩
 |ins C dx fs=>
  let⟨d,z,ne,e,mA,⟨od,es,m,G,c⟩,r⟩:=x;exact⟨F _ d,z,ne,k _ _ (.inl rfl) e,mA,⟨od,es,m,k _ _ (.inr d) G,c⟩,r⟩
 |own y=>let⟨l,e⟩:=x;exact⟨l,k _ _ (.inl rfl) e⟩
 |xd fs=>let⟨mA,⟨od,es,m,e,c⟩,r⟩:=x;exact⟨mA,⟨od,es,m,k _ _ (.inl rfl) e,c⟩,r⟩
 |rng I J=>let⟨t,u,v,e⟩:=x;exact⟨t,u,v,k _ _ (.inl rfl) e⟩
 |frz l u D=>let⟨e,q⟩:=x;exact⟨k _ _ (.inl rfl) e,D q⟩
 |tbl ps=>
  have e:h.get? a=some {cls:=.none,data:=.fields ps}:=x;show h'.get? a=some {cls:=.none,data:=.fields ps};exact k a _ (.inl rfl) e
 |met f y=>
  have e:h.get? a=some (W.methodObj (.ref f)<|.ref y):=x;show h'.get? a=some (W.methodObj (.ref f)<|.ref y);exact k a _ (.inl rfl) e
 |ext φ=>let⟨p,⟨o,e⟩,st⟩:=x;exact⟨st _ _ p λo q=>k _ _ (.inl rfl) q,⟨o,k _ _ (.inl rfl) e⟩,st⟩
theorem HOk.lt(x:HOk P w H h)(e:H a=some o):a<h.objs.size:=(x a o e).lt
theorem HOk.fresh(x:HOk P w H h)(e:h.objs.size<=a):H a=none:=by
 cases q:H a with
 |none=>rfl
 |some u=>exact absurd (xBc (x.lt q) e) (xBo _)
def HOk.kept(x:HOk P w H h)(k:∀b u,h.get? b=some u->h'.get? b=some u):HOk P w H h':=λa o e=>
 (x a o e).stay (λb u _ q=>k b u q) (λ_ q=>q) λ_ _ q=>q
def HOk.laid(x:HOk P w H h)(k:∀b u,h.get? b=some u->h'.get? b=some u)(l:h.objs.size<=a)(new:zAe P w (upd H a o) h' a o):HOk P w (upd H a o) h':=λb u e=>by
 have d:=x.fresh l;by_cases hb:b=a
 .subst hb;rw[bv] at e;cases e;exact new
 .rw[bt hb] at e;exact(x b u e).stay (λc v _ q=>k c v q) (λc q=>by rw[bt<|cy q d];exact q) λc m q=>by rw[bt<|cy q d];exact q
end
def Rd(H:Hp)(a:C3)(u:HO):Prop:=H a=some u\/∃o,H a=some (.frz o u)
def Rd.ok{P:Program}{w:World}{a:C3}{u:HO}(r:Rd H a u)(x:HOk P w H h):zAe P w H h a u:=by
 rcases r with r|⟨o,r⟩
 .exact x a u r
 .let⟨_,q⟩:=x a _ r;exact q
def Mut:B8 HO->Prop
 |some (.lst _)=>True
 |some (.dK _)=>True
 |some (.dT _)=>True
 |some (.set _ _)=>True
 |some (.ins _ _ _)=>True
 |some (.ext _)=>True
 |_=>False
section
variable{P:Program}{w:World}{H:Hp}{h h':Heap}{x e:C3}{o':HO}
def HOk.write(ok:HOk P w H h)(d:Mut<|H x)(o:e=x\/H e=some (.own x))(k:∀b u,b≠e->h.get? b=some u->h'.get? b=some u)(l:∃u,h'.get? e=some u)(new:zAe P w (upd H x o') h' x o'):HOk P w (upd H x o') h':=λb u q=>by
 have nown:∀c y,H c=some (.own y)->c≠x:=λc y r z=>by subst z;rw[r] at d;exact d
 have ntup:∀c a,H c=some (.tup a)->c≠x:=λc a r z=>by subst z;rw[r] at d;exact d
 by_cases hb:b=x
 .subst hb;rw[bv] at q;cases q;exact new
 .rw[bt hb] at q;by_cases hbe:b=e
  .have m:H b=some (.own x):=by
    rcases o with z|z
    .exact absurd (hbe.trans z) hb
    .rw[hbe];exact z
   rw[q] at m;cases m;let⟨v,p⟩:=l;exact⟨v,by rw[hbe];exact p⟩
  .refine(ok b u q).stay (λc v hc r=>k c v ?_ r) (λc r=>by rw[bt<|nown c b r];exact r) λc a r=>by rw[bt<|ntup c a r];exact r
   rcases hc with rfl|hc
   .exact hbe
   .rintro rfl
    rcases o with z|z
    .exact nown c b hc z
    .rw[hc] at z;cases z;exact hb rfl
end
structure Un(fs ex:B7 C3)(H H':Hp)(h h':Heap):Prop where
 keep:∀b o,h.get? b=some o->H b=none->b∉fs->b∉ex->h'.get? b=some o
 slot:∀b o,h.get? b=some o->H b=none->b∈fs->b∉ex->∃sl,h'.get? b=some {o with slots:=sl}
 free:∀b o,h.get? b=some o->H b=none->b∉ex->H' b=none
 there:∀b o,h.get? b=some o->b∉ex->∃o',h'.get? b=some o'
 tups:∀b xs,H b=some (.tup xs)->H' b=some (.tup xs)
 frzs:∀b o u,H b=some (.frz o u)->H' b=some (.frz o u)
 tbls:∀b ps,H b=some (.tbl ps)->∃more,H' b=some (.tbl (ps++more))
section
variable{fs fs' ex ex':B7 C3}{H H1 H2:Hp}{h h1 h2 h':Heap}{a x e:C3}{o:HO}
def Un.any(u:Un fs ex H H1 h h1){b:C3}{c:Obj}(q:h.get? b=some c)(n:H b=none)(d:b∉ex):∃l,h1.get? b=some {c with slots:=l}:=by
 by_cases hb:b∈fs
 .exact u.slot b c q n hb d
 .exact⟨c.slots,u.keep b c q n hb d⟩
def Un.kept(k:∀b u,h.get? b=some u->h'.get? b=some u):Un fs ex H H h h':=
 ⟨λb c q _ _ _=>k b c q,λb c q _ _ _=>⟨c.slots,k b c q⟩,λ_ _ _ n _=>n,λb c q _=>⟨c,k b c q⟩,λ_ _ q=>q,λ_ _ _ q=>q,λ_ ps q=>⟨#[],by rw[q];simp⟩⟩
def Un.refl:Un fs ex H H h h:=Un.kept λ_ _ q=>q
def Un.laid(k:∀b u,h.get? b=some u->h'.get? b=some u)(l:h.objs.size<=a)(c:H a=none):Un fs ex H (upd H a o) h h' where
 keep:=λb u q _ _ _=>k b u q
 slot:=λb u q _ _ _=>⟨u.slots,k b u q⟩
 free:=λb u q n _=>by rw[bt<|xA0<|xBc (xA1 q) l];exact n
 there:=λb u q _=>⟨u,k b u q⟩
 tups:=λb d q=>by rw[bt<|cy q c];exact q
 frzs:=λb u d q=>by rw[bt<|cy q c];exact q
 tbls:=λb ps q=>⟨#[],by rw[bt<|cy q c,q];simp⟩
def Un.write(c:Mut<|H x)(p:e=x\/H e=some (.own x))(k:∀b u,b≠e->h.get? b=some u->h'.get? b=some u)(d:∃u,h'.get? e=some u):Un fs ex H (upd H x o) h h':=by
 have hx:∀b,H b=none->b≠x:=λb n z=>by subst z;rw[n] at c;exact c
 have hb:∀b,H b=none->b≠e:=λb n z=>by
  subst z;rcases p with r|r
  .exact hx b n r
  .rw[n] at r;cases r
 have hm:∀b u,H b=some u->¬ Mut (some u)->b≠x:=λb u q m z=>by subst z;rw[q] at c;exact m c
 refine⟨λb u q n _ _=>k b u (hb b n) q,λb u q n _ _=>⟨u.slots,k b u (hb b n) q⟩,λb u q n _=>by rw[bt<|hx b n];exact n,λb u q _=>?_,
  λb l q=>by rw[bt<|hm b _ q λz=>z];exact q,λb u l q=>by rw[bt<|hm b _ q λz=>z];exact q,λb ps q=>⟨#[],by rw[bt<|hm b _ q λz=>z,q];simp⟩⟩
 by_cases hbe:b=e
 .subst hbe;exact d
 .exact⟨u,k b u hbe q⟩
end
noncomputable def trk(h:Heap)(H:Hp):B7 C3:=(List.range h.objs.size).filter λa=>(H a).isSome
def zDn(h:Heap)(H:Hp):Heap:=W.hideAll h<|trk h H
def oF(h:Heap)(H:Hp):(zDn h H).objs.size=h.objs.size:=W.hideAll_size _ _
def rA{b:C3}{o:Obj}(e:h.get? b=some o)(n:H b=none):(zDn h H).get? b=some o:=
 W.hideAll_get _ e λa=>by
  have q:(H b).isSome=true:=(List.mem_filter.mp a).2;rw[n] at q;simp at q
theorem ux{b:C3}{o:Obj}(e:(zDn h H).get? b=some o):h.get? b=some o/\H b=none:=by
 have a:h.get? b=some o:=W.of_hideAll (trk h H) e;refine⟨a,?_⟩;cases q:H b with
 |none=>rfl
 |some x=>
  have c:b∈trk h H:=List.mem_filter.mpr ⟨List.mem_range.mpr<|xA1 a,by simp[q]⟩;have z:(zDn h H).get? b=none:=W.hideAll_none (trk h H) c;rw[z] at e;cases e
structure Mod(K:xFr)(mg:Str->B8 B9)(base:Heap):Prop where
 kin:K.In base
 glob:base.Ns mainGlobals mg
 blt:∃mb,base.Ns builtinsNs mb/\∀x:Str,x≠"__name__"->mb x=bootBuiltins x
 nolimit:base.NoLimit
structure Cx where
 prog:Program
 w:World
 K:xFr
 mg:Str->B8 B9
 base:Heap
 A:Around
 N:C5
 s₀:B'
 H₀:Hp
 env:Env
 outer:B7 Env
 stack:B7 Env
 ex:B7 C3
 fn:Str->C4
 calm:C4
 pn:B7 (C3×Obj)
 xe:B9->B'->Prop
noncomputable def frs(l:B7 Env):B7 C3:=l.filterMap (·.frame)
noncomputable abbrev Cx.fs(X:Cx):B7 C3:=frs X.outer
def Vis(sc:Scope)(x:Str):Prop:=sc.names.lookup x=some .local\/sc.names.lookup x=some .cell\/sc.names.lookup x=some .free
def Loc(sc:Scope)(x:Str):Prop:=sc.names.lookup x=some .local\/sc.names.lookup x=some .cell
def zKn(env:Env)(h:Heap)(m:Str->B8 B9)(x:Str)(u:B9):Prop:=
 (env.kindOf x=some .local/\m x=some u)\/((env.kindOf x=some .cell\/env.kindOf x=some .free)/\∃c,env.cells.lookup x=some c/\h.IsCell c (some u))
structure Cx.Ok(X:Cx):Prop where
 mod:Mod X.K X.mg X.base
 kind:X.env.scope.kind=.function
 glob:X.env.globals=mainGlobals
 blt:X.env.builtins=builtinsNs
 above:X.s₀.heap.objs.size<=X.env.locals
 inj:∀x y c,X.env.cells.lookup x=some c->X.env.cells.lookup y=some c->x=y
 has:∀x,(X.env.kindOf x=some .cell\/X.env.kindOf x=some .free)->∃c,X.env.cells.lookup x=some c
 cab:∀x c,X.fn x=true->X.env.cells.lookup x=some c->X.s₀.heap.objs.size<=c
 hd:X.calm=true->X.A.handled=none
 frames:X.A.frames=some X.stack
 stk:X.stack=X.outer\/(X.stack=X.env::X.outer/\X.env.frame=some X.env.locals)
 exf:∀b∈X.ex,b≠X.env.locals/\∀x c,X.env.cells.lookup x=some c->c≠b
 bs:∀b o,X.base.get? b=some o->X.s₀.heap.get? b=some o/\X.H₀ b=none
 bsz:X.base.objs.size<=X.s₀.heap.objs.size
 noex:∀b o,X.base.get? b=some o->b∉X.ex
 exfs:∀b∈X.ex,b∉X.fs
 funs:X.s₀.heap.FunFrames X.base X.outer
 frf:∀b∈X.fs,X.H₀ b=none
structure Inv(X:Cx)(Z:B7 (C3×Obj))(O:B7 (B8 V))(H:Hp)(s:B'):Prop where
 ok:X.Ok
 os:s.os=X.s₀.os
 bare:AllBare s.gens
 base:Un X.fs X.ex X.H₀ H X.s₀.heap s.heap
 loc:∃m,s.heap.Ns X.env.locals m/\∀(i:Nat)(x:Str)(v:V),X.N[i]?=some x->O[i]?=some (some v)->Vis X.env.scope x->∃u,zAh v u/\zKn X.env s.heap m x u
 cell:∀x c,X.env.cells.lookup x=some c->∃v,s.heap.IsCell c v
 free:H X.env.locals=none
 freeC:∀x c,X.env.cells.lookup x=some c->H c=none
 pin:∀p∈X.pn++Z,s.heap.get? p.1=some p.2/\H p.1=none/\p.1≠X.env.locals/\p.1∉X.fs/\∀v,p.2.data≠.cell v
 hok:HOk X.prog X.w H s.heap
 len:O.length=X.N.length
section
variable{X:Cx}{Z:B7<|C3×Obj}{O:B7<|B8 V}{H H':Hp}{s:B'}{h':Heap}
def Cx.Ok.nofr(ok:X.Ok){b:C3}{o:Obj}(e:X.base.get? b=some o):b∉X.fs:=λhb=>by
 have:=(ok.funs.mem hb).1;rw[e] at this;cases this
theorem Inv.bs(I:Inv X Z O H s):∀b o,X.base.get? b=some o->s.heap.get? b=some o/\H b=none:=λb o e=>
 ⟨I.base.keep b o (I.ok.bs b o e).1 (I.ok.bs b o e).2 (I.ok.nofr e)<|I.ok.noex b o e,I.base.free b o (I.ok.bs b o e).1 (I.ok.bs b o e).2<|I.ok.noex b o e⟩
def Inv.bk(I:Inv X Z O H s):∀b o,X.base.get? b=some o->s.heap.get? b=some o:=λb o e=>(I.bs b o e).1
theorem Inv.mod(I:Inv X Z O H s):Mod X.K X.mg X.base:=I.ok.mod
def Inv.kIn(I:Inv X Z O H s):X.K.In s.heap:=I.ok.mod.kin.keeps I.bk
theorem Inv.lt(I:Inv X Z O H s):X.env.locals<s.heap.objs.size:=let ⟨_,a,_⟩:=I.loc;a.lt
def Inv.sz(I:Inv X Z O H s):X.s₀.heap.objs.size<=s.heap.objs.size:=xCk I.ok.above<|Nat.le_of_lt I.lt
def Inv.nofs(I:Inv X Z O H s){a:C3}(h:s.heap.objs.size<=a):a∉X.fs:=λhb=>by
 let⟨_,o,b,_⟩:=I.ok.funs.mem hb;exact absurd (xBc (xA1 b)<|xCk I.sz h)<|xBo _
def Inv.cne(I:Inv X Z O H s):∀x c,X.env.cells.lookup x=some c->c≠X.env.locals:=λx c e z=>by
 let⟨v,o,d,l⟩:=I.cell x c e;let⟨m,⟨p,es,q,a,b,_⟩,_⟩:=I.loc;rw[z,a] at d;cases d;rw[b] at l;cases l
theorem Inv.funs(I:Inv X Z O H s):s.heap.FunFrames X.base X.outer:=by
 have all:∀(l:B7 Env),(∀b∈frs l,b∈X.fs)->X.s₀.heap.FunFrames X.base l->s.heap.FunFrames X.base l:=by
  intro l;induction l with
  |nil=>intro _ _;trivial
  |cons B r m=>
   intro d t;let⟨v,⟨L,o,a,q,p,x⟩,hr⟩:=t;have c:L∈X.fs:=d L (by unfold frs;rw[List.filterMap_cons,a];exact xAr);let⟨D,e⟩:=I.base.slot L o p (I.ok.frf L c) c λz=>I.ok.exfs L z c;exact⟨v,⟨L,_,a,q,e,x⟩,m (λb hb=>d b<|by unfold frs;rw[List.filterMap_cons,a];exact xAs _ hb) hr⟩
 exact all X.outer (λ_ hb=>hb) I.ok.funs
theorem Inv.stack(I:Inv X Z O H s):s.heap.FunFrames X.base X.stack:=by
 rcases I.ok.stk with e|⟨e,hf⟩
 .rw[e];exact I.funs
 .rw[e];let⟨m,a,_⟩:=I.loc;refine .cons (by rw[I.ok.kind];decide) hf a ?_ I.funs;exact Heap.get?_none_of_le<|xCk I.ok.bsz I.ok.above
def Inv.stkSub(I:Inv X Z O H s):∀b∈frs X.stack,b∈X.env.locals::X.fs:=λb hb=>by
 rcases I.ok.stk with e|⟨e,hf⟩
 .rw[e] at hb;exact xAs _ hb
 .rw[e] at hb;unfold frs at hb;rw[List.filterMap_cons,hf] at hb;exact hb
def Inv.stkFree(I:Inv X Z O H s):∀b∈frs X.stack,H b=none:=λb hb=>by
 rcases xAv.mp (I.stkSub b hb) with e|hb
 .rw[e];exact I.free
 .let⟨_,o,a,_⟩:=I.ok.funs.mem hb;exact I.base.free b o a (I.ok.frf b hb) λz=>I.ok.exfs b z hb
def Inv.step(I:Inv X Z O H s)(E:∀b∈ch,(b∈X.ex\/X.s₀.heap.objs.size<=b)/\b≠X.env.locals/\(∀x c,X.env.cells.lookup x=some c->c≠b)/\∀p∈X.pn++Z,p.1≠b)(D:∀b o,b≠X.env.locals->b∉X.fs->b∉ch->s.heap.get? b=some o->H b=none->h'.get? b=some o)(L:∀b o,b≠X.env.locals->b∈X.fs->b∉ch->s.heap.get? b=some o->H b=none->∃sl,h'.get? b=some {o with slots:=sl})(t:∀b o,b∉ch->s.heap.get? b=some o->H b=none->H' b=none)(there:∀b o,b∉ch->s.heap.get? b=some o->∃o',h'.get? b=some o')(R:∀b xs,H b=some (.tup xs)->H' b=some (.tup xs))(Y:∀b o u,H b=some (.frz o u)->H' b=some (.frz o u))(S:∀b ps,H b=some (.tbl ps)->∃W,H' b=some (.tbl<|ps++W))(ns:∀m,s.heap.Ns X.env.locals m->h'.Ns X.env.locals m)(hok:HOk X.prog X.w H' h')(hg:AllBare g') :
  Inv X Z O H' {s with heap:=h',gens:=g',drawn:=d',toks:=t'}:=by
 have T:∀b o,X.s₀.heap.get? b=some o->b≠X.env.locals:=λb o e=>xA0<|xBc (xA1 e) I.ok.above;have G:∀b o,X.s₀.heap.get? b=some o->b∉X.ex->b∉ch:=λb o e a hb=>by
  rcases(E b hb).1 with z|z
  .exact a z
  .exact absurd (xBc (xA1 e) z)<|xBo _
 have F:∀x c,X.env.cells.lookup x=some c->∀v,s.heap.IsCell c v->h'.IsCell c v:=λx c e v ⟨o,P,hd⟩=>by
  have B:c∉ch:=λz=>(E c z).2.2.1 x c e rfl;by_cases hc:c∈X.fs
  .let⟨sl,q⟩:=L c o (I.cne x c e) hc B P<|I.freeC x c e;exact⟨_,q,hd⟩
  .exact⟨o,D c o (I.cne x c e) hc B P<|I.freeC x c e,hd⟩
 refine⟨I.ok,I.os,hg,⟨λb o e n hb a=>?_,λb o e n hb a=>?_,λb o e n a=>?_,λb o e a=>?_,λb xs e=>R b xs<|I.base.tups b xs e,λb o xs e=>Y b o xs<|I.base.frzs b o xs e,λb ps e=>?_⟩,?_,λx c e=>?_,?_,λx c e=>?_,λp hp=>?_,hok,I.len⟩
 .exact D b o (T b o e) hb (G b o e a) (I.base.keep b o e n hb a)<|I.base.free b o e n a
 .let⟨sl,J⟩:=I.base.slot b o e n hb a;let⟨sl',e2⟩:=L b _ (T b o e) hb (G b o e a) J<|I.base.free b o e n a;exact⟨sl',e2⟩
 .let⟨o',J⟩:=I.base.there b o e a;exact t b o' (G b o e a) J<|I.base.free b o e n a
 .let⟨o',J⟩:=I.base.there b o e a;exact there b o' (G b o e a) J
 .let⟨m1,J⟩:=I.base.tbls b ps e;let⟨m2,e2⟩:=S b _ J;exact⟨m1++m2,by rw[e2,Array.append_assoc]⟩
 .let⟨m,hn,hl⟩:=I.loc;refine⟨m,ns m hn,λi x v J e2 e3=>?_⟩;let⟨u,r,l⟩:=hl i x v J e2 e3;refine⟨u,r,?_⟩;rcases l with l|⟨k,c,e,z⟩
  .exact .inl l
  .exact .inr ⟨k,c,e,F x c e _ z⟩
 .let⟨v,z⟩:=I.cell x c e;exact⟨v,F x c e v z⟩
 .let⟨m,⟨o,_,_,P,_⟩,_⟩:=I.loc;exact t _ o (λz=>(E _ z).2.1 rfl) P I.free
 .let⟨v,o,P,hd⟩:=I.cell x c e;exact t c o (λz=>(E c z).2.2.1 x c e rfl) P<|I.freeC x c e
 .let⟨e,n,ne,nf,d⟩:=I.pin p hp;have B:p.1∉ch:=λz=>(E p.1 z).2.2.2 p hp rfl;exact⟨D p.1 p.2 ne nf B e n,t p.1 p.2 B e n,ne,nf,d⟩
def Inv.un(I:Inv X Z O H s)(u:Un X.fs [] H H' s.heap h')(c:HOk X.prog X.w H' h'):Inv X Z O H' {s with heap:=h',toks:=t'}:=by
 let⟨m,⟨o,es,D,p,r⟩,_⟩:=id I.loc;let⟨v,t⟩:=u.any p I.free ⋯;exact I.step (g':=s.gens) (d':=s.drawn) (ch:=[]) (λ_ z=>nomatch z) (λb o _ hb _ e n=>u.keep b o e n hb ⋯) (λb o _ hb _ e n=>u.slot b o e n hb ⋯) (λb o _ e n=>u.free b o e n ⋯) (λb o _ e=>u.there b o e ⋯) u.tups u.frzs u.tbls (λB q=>by
  let⟨x,d,l,a,r'⟩:=q;rw[p] at a;cases a;exact⟨_,d,l,t,r'⟩) c I.bare
def Inv.call(I:Inv X Z O H s)(u:Un (frs X.stack) ch H H' s.heap h')(q:HOk X.prog X.w H' h')(F:AllBare g')(l:∀b∈ch,(b∈X.ex\/X.s₀.heap.objs.size<=b)/\b≠X.env.locals/\(∀x c,X.env.cells.lookup x=some c->c≠b)/\∀p∈X.pn++Z,p.1≠b) :
  Inv X Z O H' {s with heap:=h',gens:=g',drawn:=d',toks:=t'}:=by
 let⟨m,⟨o,es,P,D,r⟩,_⟩:=id I.loc;let⟨G,t⟩:=u.any D I.free λz=>(l _ z).2.1 rfl;exact I.step (ch:=ch) l (λb o t hb a e n=>u.keep b o e n (λz=>(xAv.mp<|I.stkSub b z).elim t hb) a) (λb o _ _ a e n=>u.any e n a) (λb o a e n=>u.free b o e n a) (λb o a e=>u.there b o e a) u.tups u.frzs u.tbls (λL E=>by
  let⟨J,v,B,d,r'⟩:=E;rw[D] at d;cases d;exact⟨_,v,B,t,r'⟩) q F
def Inv.turned(I:Inv X Z O H s)(k:∀b o,b≠it->s.heap.get? b=some o->h'.get? b=some o)(B:H it=none)(l:it≠X.env.locals)(G:it∈X.ex\/X.s₀.heap.objs.size<=it)(F:∀x c,X.env.cells.lookup x=some c->c≠it)(E:∀p∈X.pn++Z,p.1≠it):Inv X Z O H {s with heap:=h',toks:=t'}:=by
 have d:∀b u,H b=some u->b≠it:=λb u e z=>by rw[z,B] at e;cases e
 refine I.step (g':=s.gens) (d':=s.drawn) (ch:=[it]) (λb hb=>?_) (λb o _ _ a e _=>k b o (λz=>a<|by simp[z]) e) (λb o _ _ a e _=>⟨o.slots,k b o (λz=>a<|by simp[z]) e⟩) (λ_ _ _ _ n=>n)
  (λb o a e=>⟨o,k b o (λz=>a<|by simp[z]) e⟩) (λ_ _ e=>e) (λ_ _ _ e=>e) (λb ps e=>⟨#[],by rw[e];simp⟩) (λm D=>?_) (λb u e=>?_) I.bare
 .have e:b=it:=by simpa using hb
  subst e;exact⟨G,l,F,E⟩
 .let⟨o,es,J,t,r⟩:=D;exact⟨o,es,J,k _ o (Ne.symm l) t,r⟩
 .refine(I.hok b u e).stay (λc v a q=>k c v ?_ q) (λ_ q=>q) λ_ _ q=>q;rcases a with z|z
  .rw[z];exact d b u e
  .exact d c _ z
def Inv.tok(I:Inv X Z O H s)(t:Nat):Inv X Z O H {s with toks:=t}:=I.un (h':=s.heap) (t':=t) Un.refl I.hok
theorem Inv.kept{t':Nat}(I:Inv X Z O H s)(k:∀b u,s.heap.get? b=some u->h'.get? b=some u):Inv X Z O H {s with heap:=h',toks:=t'}:=I.un (Un.kept k)<|I.hok.kept k
theorem Inv.laid{a:C3}{o:HO}{t':Nat}(I:Inv X Z O H s)(k:∀b u,s.heap.get? b=some u->h'.get? b=some u)(c:s.heap.objs.size<=a)(new:zAe X.prog X.w (upd H a o) h' a o) :
  Inv X Z O (upd H a o) {s with heap:=h',toks:=t'}:=I.un (Un.laid k c<|I.hok.fresh c)<|I.hok.laid k c new
theorem Inv.write{x e:C3}{o:HO}{t':Nat}(I:Inv X Z O H s)(c:Mut<|H x)(d:e=x\/H e=some (.own x))(k:∀b u,b≠e->s.heap.get? b=some u->h'.get? b=some u)(a:∃u,h'.get? e=some u)(new:zAe X.prog X.w (upd H x o) h' x o):Inv X Z O (upd H x o) {s with heap:=h',toks:=t'}:=I.un (Un.write c d k a)<|I.hok.write c d k a new
def Inv.pins_of{a:B7<|C3×Obj}(I:Inv X Z O H s)(h:∀p∈a,s.heap.get? p.1=some p.2/\H p.1=none/\p.1≠X.env.locals/\p.1∉X.fs/\∀v,p.2.data≠.cell v):Inv X a O H s:=
 ⟨I.ok,I.os,I.bare,I.base,I.loc,I.cell,I.free,I.freeC,λp b=>(xAj.mp b).elim (λz=>I.pin p<|xBw _ z)<|h p,I.hok,I.len⟩
def jK(c:N.Nodup){x:Str}(a:N[i]?=some x)(b:N[j]?=some x):i=j:=by
 let⟨l,e1⟩:=xAq.mp a;let⟨e,d⟩:=xAq.mp b;exact(List.getElem_inj c).mp<|e1.trans d.symm
def ic{E:B9->B'->Prop}{x:Str}{v:V}{u:B9}{Q:Unit->B'->Prop}(I:Inv X Z O H s)(hN:X.N.Nodup)(hi:X.N[i]?=some x)(B:Loc X.env.scope x)(r:zAh v u)(h:∀s',Inv X Z (O.set i<|some v) H s'->(∃a,Heap.SameBut a s.heap s'.heap/\(a=X.env.locals\/X.env.cells.lookup x=some a))->Q Unit.unit s')(hf:X.fn x=true\/X.env.scope.names.lookup x=some .local:=by first|exact .inl rfl|exact .inr rfl|assumption):wpAny M A (storeName X.env x u) Q E s:=by
 let⟨m,hn,hl⟩:=id I.loc;have P:(X.env.scope.kind == .class||(X.env.scope.kind == .module&&X.env.locals != X.env.globals))=false:=by rw[I.ok.kind];rfl
 have hiσ:i<O.length:=by rw[I.len];exact(xAq.mp hi).1
 have cne:=I.cne;have tracked:∀{a:C3}{h':Heap},(∃o,s.heap.get? a=some o/\H a=none)->Heap.SameBut a s.heap h'->HOk X.prog X.w H h':=λ{a h'} ha l b ob e=>by
  let⟨_,_,D⟩:=ha;refine(I.hok b ob e).stay (λc S hc q=>(l.2 c ?_).trans q) (λ_ q=>q) λ_ _ q=>q;rintro rfl
  rcases hc with rfl|hc
  .rw[D] at e;cases e
  .rw[D] at hc;cases hc
 rcases B with hk|hk
 .refine wpAny_storeName_local hk hn (λh' hn' l=>?_) P;let⟨oL,_,_,hoL,_⟩:=id hn;refine h _ ⟨I.ok,I.os,I.bare,⟨λb o e n hb B=>?_,λb o e n hb B=>?_,I.base.free,λb o e B=>?_,I.base.tups,I.base.frzs,I.base.tbls⟩,⟨_,hn',λj y W t F e3=>?_⟩,λy c e=>?_,I.free,I.freeC,λp hp=>?_,tracked ⟨oL,hoL,I.free⟩ l,by simpa using I.len⟩ ⟨_,l,.inl rfl⟩
  .exact(l.2 b<|xA0<|xBc (xA1 e) I.ok.above).trans<|I.base.keep b o e n hb B
  .let⟨sl,t⟩:=I.base.slot b o e n hb B;exact⟨sl,(l.2 b<|xA0<|xBc (xA1 e) I.ok.above).trans t⟩
  .let⟨o',t⟩:=I.base.there b o e B;exact⟨o',(l.2 b<|xA0<|xBc (xA1 e) I.ok.above).trans t⟩
  .by_cases hj:j=i
   .subst hj;rw[hi] at t;cases t;rw[List.getElem?_set_self hiσ] at F;cases F;exact⟨u,r,.inl ⟨hk,⋯⟩⟩
   .rw[List.getElem?_set_ne<|Ne.symm hj] at F;let⟨Y,r',q⟩:=hl j y W t F e3;refine⟨Y,r',?_⟩;rcases q with ⟨k,e⟩|⟨k,c,e,z⟩
    .refine .inl ⟨k,?_⟩;have:y≠x:=λe=>hj<|jK hN t<|e▸hi;simp[this,e]
    .exact .inr ⟨k,c,e,z.sameBut l<|cne y c e⟩
  .let⟨S,z⟩:=I.cell y c e;exact⟨S,z.sameBut l<|cne y c e⟩
  .let⟨e,n,ne,nf,d⟩:=I.pin p hp;exact⟨(l.2 p.1 ne).trans e,n,ne,nf,d⟩
 .have G:X.fn x=true:=by
   rcases hf with z|z
   .exact z
   .rw[z] at hk;cases hk
  let⟨c,hc⟩:=I.ok.has x<|.inl hk;let⟨S,z⟩:=I.cell x c hc;refine wpAny_storeName_cell I.ok.kind hk hc z (λh' R l=>?_);let⟨oc,L,J⟩:=id z;refine h {s with heap:=h'} ⟨I.ok,I.os,I.bare,⟨λb o e n hb B=>?_,λb o e n hb B=>?_,I.base.free,λb o e B=>?_,I.base.tups,I.base.frzs,I.base.tbls⟩,⟨m,hn.sameBut l<|Ne.symm<|cne x c hc,λj y W t F e3=>?_⟩,λy T e=>?_,I.free,I.freeC,λp hp=>?_,tracked ⟨oc,L,I.freeC x c hc⟩ l,by simpa using I.len⟩ ⟨c,l,.inr hc⟩
  .exact(l.2 b<|xA0<|xBc (xA1 e)<|I.ok.cab x c G hc).trans<|I.base.keep b o e n hb B
  .let⟨sl,t⟩:=I.base.slot b o e n hb B;exact⟨sl,(l.2 b<|xA0<|xBc (xA1 e)<|I.ok.cab x c G hc).trans t⟩
  .let⟨o',t⟩:=I.base.there b o e B;exact⟨o',(l.2 b<|xA0<|xBc (xA1 e)<|I.ok.cab x c G hc).trans t⟩
  .by_cases hj:j=i
   .subst hj;rw[hi] at t;cases t;rw[List.getElem?_set_self hiσ] at F;cases F;exact⟨u,r,.inr ⟨.inl hk,c,hc,R⟩⟩
   .rw[List.getElem?_set_ne<|Ne.symm hj] at F;let⟨Y,r',q⟩:=hl j y W t F e3;refine⟨Y,r',?_⟩;rcases q with q|⟨k,T,e,z'⟩
    .exact .inl q
    .refine .inr ⟨k,T,e,z'.sameBut l ?_⟩;rintro rfl
     exact hj<|jK hN t<|I.ok.inj _ _ _ e hc▸hi
  .by_cases hcc:T=c
   .subst hcc;exact⟨_,R⟩
   .let⟨w2,z2⟩:=I.cell y T e;exact⟨w2,z2.sameBut l hcc⟩
  .let⟨e,n,ne,nf,d⟩:=I.pin p hp;refine⟨(l.2 p.1 ?_).trans e,n,ne,nf,d⟩;intro q;rw[q,L] at e;have q':oc=p.2:=xB3 e;exact d S (by rw[<- q'];exact J)
def ff{E:B9->B'->Prop}{x:Str}{v:V}{u:B9}{Q:Unit->B'->Prop}(I:Inv X Z O H s)(d:X.N.Nodup)(hi:X.N[i]?=some x)(b:Loc X.env.scope x)(r:zAh v u)(h:∀a,Inv X Z (O.set i<|some v) H a->Q Unit.unit a)(c:X.fn x=true\/X.env.scope.names.lookup x=some .local:=by first|exact .inl rfl|exact .inr rfl|assumption):wpAny M A (storeName X.env x u) Q E s:=
 ic I d hi b r (λa I' _=>h a I') c
def Inv.call'{a:B'}(I:Inv X Z O H s)(o:a.os=s.os)(u:Un (frs X.stack) ch H H' s.heap a.heap)(d:HOk X.prog X.w H' a.heap)(q:AllBare a.gens)(l:∀b∈ch,(b∈X.ex\/X.s₀.heap.objs.size<=b)/\b≠X.env.locals/\(∀x c,X.env.cells.lookup x=some c->c≠b)/\∀p∈X.pn++Z,p.1≠b):Inv X Z O H' a:=by
 let⟨h',g',d',t',m⟩:=a;have e:m=s.os:=o;subst e;exact I.call (g':=g') (t':=t') (d':=d') u d q l
end
noncomputable abbrev XK:=B9->B8 C3->Hp->Prop
noncomputable abbrev St:=B7<|B8 V
noncomputable abbrev VK:=V->Hp->Prop
noncomputable abbrev TE:=St->Hp->VK->Prop
noncomputable abbrev TT:=St->Hp->(C4->Hp->Prop)->Prop
noncomputable abbrev TA:=St->Hp->(C9->Hp->Prop)->Prop
structure zDs where
 nx:St->Hp->Prop
 rt:VK
 bk:St->Hp->Prop:=λ_ _=>False
 ct:St->Hp->Prop:=λ_ _=>False
noncomputable abbrev TS:=zDs->St->Hp->Prop
def EP(X:Cx)(Z:B7<|C3×Obj)(O:St)(Q:VK)(u:B9)(a:B'):Prop:=∃v H',Inv X Z O H' a/\zAh v u/\Q v H'
def TP(X:Cx)(Z:B7<|C3×Obj)(O:St)(Q:C4->Hp->Prop)(b:C4)(a:B'):Prop:=∃H',Inv X Z O H' a/\Q b H'
def AP(X:Cx)(Z:B7<|C3×Obj)(O:St)(Q:C9->Hp->Prop)(us:D0)(a:B'):Prop:=∃vs H',Inv X Z O H' a/\zAg vs us/\Q vs H'
def SP(X:Cx)(Z:B7<|C3×Obj)(D:zDs)(f:Flow)(a:B'):Prop:=
 match f with
 |.next=>∃O' H',Inv X Z O' H' a/\D.nx O' H'
 |.brk=>∃O' H',Inv X Z O' H' a/\D.bk O' H'
 |.cont=>∃O' H',Inv X Z O' H' a/\D.ct O' H'
 |.ret u=>∃v O' H',Inv X Z O' H' a/\zAh v u/\D.rt v H'
def PE(X:Cx)(e:C0)(t:TE):Prop:=
 ∀(Z:B7<|C3×Obj)(s:B')(O:St)(H:Hp)(Q:VK),Inv X Z O H s->t O H Q->wpAny (model X.prog X.w) X.A (eval e X.env) (EP X Z O Q) X.xe s
def PT(X:Cx)(e:C0)(t:TT):Prop:=
 ∀(Z:B7<|C3×Obj)(s:B')(O:St)(H:Hp)(Q:C4->Hp->Prop),Inv X Z O H s->t O H Q->wpAny (model X.prog X.w) X.A (isTrue e X.env<|eval e X.env) (TP X Z O Q) X.xe s
def PW(X:Cx)(e:C0)(t:TT):Prop:=
 ∀(a:Sem B9)(Z:B7<|C3×Obj)(s:B')(O:St)(H:Hp)(Q:C4->Hp->Prop),Inv X Z O H s->t O H Q->wpAny (model X.prog X.w) X.A (isTrue e X.env a) (TP X Z O Q) X.xe s
def PW.pt{e:C0}{t:TT}(h:PW X e t):PT X e t:=h _
def PA(X:Cx)(es:B7 C0)(t:TA):Prop:=
 ∀(pos:Pos)(Z:B7<|C3×Obj)(s:B')(O:St)(H:Hp)(Q:C9->Hp->Prop),Inv X Z O H s->t O H Q->wpAny (model X.prog X.w) X.A (spliced<|backTo pos<|starEach es X.env) (AP X Z O Q) X.xe s
def PS(X:Cx)(a:Stmt)(t:TS):Prop:=
 ∀(Z:B7<|C3×Obj)(s:B')(O:St)(H:Hp)(D:zDs),Inv X Z O H s->t D O H->wpAny (model X.prog X.w) X.A (exec a X.env) (SP X Z D) X.xe s
def PSs(X:Cx)(a:B7 Stmt)(t:TS):Prop:=
 ∀(Z:B7<|C3×Obj)(s:B')(O:St)(H:Hp)(D:zDs),Inv X Z O H s->t D O H->wpAny (model X.prog X.w) X.A (execs a X.env) (SP X Z D) X.xe s
def thn{J:Type}{t:Sem J}{Q Q':J->B'->Prop}{E:B9->B'->Prop}(h:wpAny M A t Q E s)(b:∀a s,Q a s->Q' a s):wpAny M A t Q' E s:=wpAny_mono h b λ_ _ x=>x
section
variable{X:Cx}
def zJj(i:Nat):TE:=λO H Q=>∃v,O[i]?=some (some v)/\Q v H
def tC(v:V):TE:=λ_ H Q=>Q v H
def wZ{x:Str}(D:X.N[i]?=some x)(p:Vis X.env.scope x)(b:(x==("__debug__":Str))=false:=by decide)(d:(x==("__classdict__":Str))=false:=by decide):PE X (.Name x pos)<|zJj i:=by
 intro Z s O H Q I h;let⟨v,e,h⟩:=h;let⟨m,q,B⟩:=I.loc;let⟨u,r,l⟩:=B i x v D e p;have fin:EP X Z O Q u s:=⟨v,H,I,r,h⟩
 rcases l with ⟨hk,t⟩|⟨hk,c,o,a⟩
 .exact wpAny_Name (wpAny_loadName_local I.ok.kind hk q t fin) b
 .rcases hk with hk|hk
  .exact wpAny_Name (wpAny_loadName_cell I.ok.kind hk o a fin) b
  .exact wpAny_Name (wpAny_loadName_free I.ok.kind hk o a fin d) b
def xf{i j pos}:PE X (.Constant (.int i) j pos)<|tC<|.int i:=λ_ _ _ H _ I h=>wpAny_Constant_int ⟨.int i,H,I.tok _,⟨_,rfl⟩,h⟩
def zH{b j pos}:PE X (.Constant (.bool b) j pos)<|tC<|.bl b:=λ_ _ _ H _ I h=>Constant_bool ⟨.bl b,H,I,rfl,h⟩
def kP{j pos}:PE X (.Constant .none j pos)<|tC .non:=λ_ _ _ H _ I h=>Constant_none ⟨.non,H,I,rfl,h⟩
def qi{x j pos}:PE X (.Constant (.str x) j pos)<|tC<|.str x:=λ_ _ _ H _ I h=>Calls.Constant_str ⟨.str x,H,I.tok _,⟨_,rfl⟩,h⟩
def Gl(X:Cx)(x:Str):Prop:=X.env.kindOf x=some .globalImplicit
def fj{E:B9->B'->Prop}{O:St}{x:Str}{u:B9}(I:Inv X Z O H s)(b:Gl X x)(a:X.mg x=some u)(h:Q u s)(c:(x==("__debug__":Str))=false:=by decide):wpAny (model X.prog X.w) X.A (eval (.Name x pos) X.env) Q E s:=
 Calls.Name_function_global I.ok.kind b (Calls.loadGlobal_global (by rw[I.ok.glob];exact I.mod.glob.keeps I.bk) a h) c
def fG{E:B9->B'->Prop}{O:St}{x:Str}{u:B9}(I:Inv X Z O H s)(d:Gl X x)(c:X.mg x=none)(a:bootBuiltins x=some u)(h:Q u s)(b:x≠"__name__":=by decide)(e:(x==("__debug__":Str))=false:=by decide):wpAny (model X.prog X.w) X.A (eval (.Name x pos) X.env) Q E s:=by
 let⟨o,m,l⟩:=I.mod.blt;exact Calls.Name_function_global I.ok.kind d (Calls.loadGlobal_builtin (by rw[I.ok.glob];exact I.mod.glob.keeps I.bk) c (by rw[I.ok.blt];exact m.keeps I.bk) ((l x b).trans a) h) e
def iP{x:Str}{v:V}{u:B9}(b:Gl X x)(a:X.mg x=some u)(r:zAh v u)(c:(x==("__debug__":Str))=false:=by decide):PE X (.Name x pos)<|tC v:=
 λ_ _ _ H _ I h=>fj I b a ⟨v,H,I,r,h⟩ c
def ud{x:Str}{v:V}{u:B9}(d:Gl X x)(c:X.mg x=none)(a:bootBuiltins x=some u)(r:zAh v u)(b:x≠"__name__":=by decide)(e:(x==("__debug__":Str))=false:=by decide):PE X (.Name x pos)<|tC v:=
 λ_ _ _ H _ I h=>fG I d c a ⟨v,H,I,r,h⟩ b e
variable{a b:C0}{ta tb:TE}{pos:Pos}
def tB(t:TE):TT:=λO H Q=>t O H λx H1=>∃c,x=.bl c/\Q c H1
def wG{e:C0}{t:TE}(h:PE X e t)(o:∀c,isTrue e X.env c=(do let v <- c;standAt e.pos;holding [v] (truthy v)):=by intro _;rfl):PT X e<|tB t:=by
 intro Z s O H Q I m;refine isTrue_plain (thn (h Z s O H _ I m) λv p ⟨x,H1,I1,r1,l⟩=>?_) (o _);let⟨d,rfl,q⟩:=l;cases r1;exact wpAny_truthy_bool ⟨H1,I1,q⟩
variable{tA tB':TT}{rest:B7 C0}
def zJu(t u:TT):TT:=λO H Q=>t O H λc H1=>if c=true then u O H1 Q else Q false H1
def tOr(t u:TT):TT:=λO H Q=>t O H λc H1=>if c=true then Q true H1 else u O H1 Q
def zJp(t:TT):TT:=λO H Q=>t O H λc H1=>Q (!c) H1
theorem tF(d:PT X a tA):PW X (.BoolOp .And [a] pos) tA:=by
 intro l Z s O H Q I h;refine isTrue_and (thn (d Z s O H Q I h) λc m e=>?_);cases c with
 |true=>exact isTrue_and_nil e
 |false=>exact e
theorem wD(d:PT X a tA):PW X (.BoolOp .Or [a] pos) tA:=by
 intro l Z s O H Q I h;refine isTrue_or (thn (d Z s O H Q I h) λc m e=>?_);cases c with
 |false=>exact isTrue_or_nil e
 |true=>exact e
theorem wE(m:PT X a tA)(hb:PW X (.BoolOp .And (b::rest) pos) tB'):PW X (.BoolOp .And (a::b::rest) pos)<|zJu tA tB':=by
 intro e Z s O H Q I h;refine isTrue_and (thn (m Z s O H _ I h) λc l ⟨H1,I1,d⟩=>?_);cases c with
 |true=>exact hb e Z l O H1 Q I1 d
 |false=>exact⟨H1,I1,d⟩
theorem zu(m:PT X a tA)(hb:PW X (.BoolOp .Or (b::rest) pos) tB'):PW X (.BoolOp .Or (a::b::rest) pos)<|tOr tA tB':=by
 intro e Z s O H Q I h;refine isTrue_or (thn (m Z s O H _ I h) λc l ⟨H1,I1,d⟩=>?_);cases c with
 |true=>exact⟨H1,I1,d⟩
 |false=>exact hb e Z l O H1 Q I1 d
def wH(d:PT X a tA):PT X (.UnaryOp .Not a pos)<|zJp tA:=by
 intro Z s O H Q I h;exact isTrue_not (d Z s O H (λc H1=>Q (!c) H1) I h)
def zG8(ta tb:TE):TE:=λO H Q=>ta O H λx H1=>∃c,x=.bl c/\if c=true then tb O H1 Q else Q (.bl false) H1
def zJo(ta tb:TE):TE:=λO H Q=>ta O H λx H1=>∃c,x=.bl c/\if c=true then Q (.bl true) H1 else tb O H1 Q
def zG3(ta:TE):TE:=λO H Q=>ta O H λx H1=>∃c,x=.bl c/\Q (.bl (!c)) H1
def w5{op}{t:TE}(h:PE X a t):PE X (.BoolOp op [a] pos) t:=λZ s O H Q I c=>BoolOp_one<|h Z s O H Q I c
theorem xh(m:PE X a ta)(hb:PE X (.BoolOp .And (b::rest) pos) tb):PE X (.BoolOp .And (a::b::rest) pos)<|zG8 ta tb:=by
 intro Z s O H Q I h;refine BoolOp_and (thn (m Z s O H _ I h) λv l e=>?_);let⟨x,H1,I1,r1,d⟩:=e;let⟨c,rfl,d⟩:=d;cases r1;erw[wpAny_truthy_bool];cases c with
 |true=>exact hb Z l O H1 Q I1 d
 |false=>exact⟨.bl false,H1,I1,rfl,d⟩
theorem zD(m:PE X a ta)(hb:PE X (.BoolOp .Or (b::rest) pos) tb):PE X (.BoolOp .Or (a::b::rest) pos)<|zJo ta tb:=by
 intro Z s O H Q I h;refine BoolOp_or (thn (m Z s O H _ I h) λv l e=>?_);let⟨x,H1,I1,r1,d⟩:=e;let⟨c,rfl,d⟩:=d;cases r1;erw[wpAny_truthy_bool];cases c with
 |false=>exact hb Z l O H1 Q I1 d
 |true=>exact⟨.bl true,H1,I1,rfl,d⟩
def w6(l:PE X a ta):PE X (.UnaryOp .Not a pos)<|zG3 ta:=by
 intro Z s O H Q I h;refine UnaryOp_ (thn (l Z s O H _ I h) λv m e=>?_);let⟨x,H1,I1,r1,d⟩:=e;let⟨c,rfl,d⟩:=d;cases r1;exact not_of<|wpAny_truthy_bool ⟨.bl (!c),H1,I1,rfl,d⟩
def tIf(t:TT)(ta tb:TE):TE:=λO H Q=>t O H λc H1=>if c=true then ta O H1 Q else tb O H1 Q
theorem qo{c:C0}(m:PT X c tA)(o:PE X a ta)(hb:PE X b tb):PE X (.IfExp c a b pos)<|tIf tA ta tb:=by
 intro Z s O H Q I h;refine wpAny_IfExp (thn (m Z s O H _ I h) λd e ⟨H1,I1,l⟩=>?_);cases d with
 |true=>exact o Z e O H1 Q I1 l
 |false=>exact hb Z e O H1 Q I1 l
end
def SqL(K:xFr)(H:Hp)(a:C3)(xs:C9):Prop:=
 Rd H a (.lst xs) \/
  ∃(o:Obj) (its:Array B9) (n:Nat),K.lookup a=some o/\o.cls=.type "list"/\o.dict=none/\o.data=.seq its n/\its.size<=sizeLine/\zAg xs its.toList
def SqT(K:xFr)(H:Hp)(a:C3)(xs:C9):Prop:=
 Rd H a (.tup xs) \/
  ∃(o:Obj) (its:Array B9) (n:Nat),K.lookup a=some o/\o.cls=.type "tuple"/\o.data=.seq its n/\its.size<=sizeLine/\zAg xs its.toList
noncomputable def zKk:B9->B8 V
 |.none=>some .non
 |.bool b=>some<|.bl b
 |.int i _=>some<|.int i
 |.str x _=>some<|.str x
 |.bytes b _=>some<|.byt b
 |.float b _=>some<|.flt b
 |.ref a=>some<|.ref a
 |.type n=>some<|.ty n
 |_=>none
theorem zAh.abs{x:V}{u:B9}(r:zAh x u):zKk u=some x:=by
 cases x with
 |non=>cases r;rfl
 |bl _=>cases r;rfl
 |int _=>let⟨t,rfl⟩:=r;rfl
 |str _=>let⟨t,rfl⟩:=r;rfl
 |byt _=>let⟨t,rfl⟩:=r;rfl
 |flt _=>let⟨t,rfl⟩:=r;rfl
 |ref _=>cases r;rfl
 |ty _=>cases r;rfl
def zAh.inj{x:V}{u:B9}(r:zAh x u)(q:zAh y u):x=y:=xB3<|r.abs.symm.trans q.abs
theorem zAg.inj:∀{xs ys:C9}{us:D0},zAg xs us->zAg ys us->xs=ys
 |_,_,_,.nil,.nil=>rfl
 |_,_,_,.cons r t,.cons r' t'=>by rw[r.inj r',zAg.inj t t']
section
variable{X:Cx}{Z:B7<|C3×Obj}{O:St}{H:Hp}{s:B'}{a:C3}{xs ys:C9}
def SqL.of(h:H a=some (.lst xs)):SqL K H a xs:=.inl<|.inl h
def SqT.of(h:H a=some (.tup xs)):SqT K H a xs:=.inl<|.inl h
def Inv.list(I:Inv X Z O H s)(h:SqL X.K H a xs):∃its:D0,zAg xs its/\PlainL s.heap a its.toArray/\xs.length<=sizeLine:=by
 rcases h with h|⟨o,its,n,hk,hc,hd,hs,hz,r⟩
 .let⟨z,its,n,r,e⟩:=h.ok I.hok;exact⟨its,r,⟨_,n,e,rfl,rfl,rfl⟩,z⟩
 .refine⟨its.toList,r,⟨o,n,I.kIn a o hk,hc,hd,by simpa using hs⟩,?_⟩;have e:=r.length;simp only[xAh] at e;lia
def Inv.tuple(I:Inv X Z O H s)(h:SqT X.K H a xs):∃its:D0,zAg xs its/\IsTup s.heap a its.toArray/\xs.length<=sizeLine:=by
 rcases h with h|⟨o,its,n,hk,hc,hs,hz,r⟩
 .let⟨z,its,r,p⟩:=h.ok I.hok;exact⟨its,r,p,z⟩
 .refine⟨its.toList,r,⟨o,I.kIn a o hk,hc,n,by simpa using hs⟩,?_⟩;have e:=r.length;simp only[xAh] at e;lia
def Inv.list_inj(I:Inv X Z O H s)(h:SqL X.K H a xs)(h':SqL X.K H a ys):xs=ys:=by
 let⟨its,r,⟨o,n,e,_,_,d⟩,_⟩:=I.list h;let⟨b,r',⟨l,m,c,_,_,d'⟩,_⟩:=I.list h';rw[e] at c;cases c;rw[d] at d';injection d' with d1 _;have:its=b:=by simpa using congrArg Array.toList d1
 subst this;exact r.inj r'
def Inv.tuple_inj(I:Inv X Z O H s)(h:SqT X.K H a xs)(h':SqT X.K H a ys):xs=ys:=by
 let⟨its,r,⟨o,e,_,n,d⟩,_⟩:=I.tuple h;let⟨b,r',⟨l,c,_,m,d'⟩,_⟩:=I.tuple h';rw[e] at c;cases c;rw[d] at d';injection d' with d1 _;have:its=b:=by simpa using congrArg Array.toList d1
 subst this;exact r.inj r'
end
noncomputable abbrev Cx.wish(X:Cx)(E:B9->B'->Prop):Cx:={X with xe:=E}
theorem Cx.Ok.wish{X:Cx}(ok:X.Ok)(E:B9->B'->Prop):(X.wish E).Ok:=
 ⟨ok.mod,ok.kind,ok.glob,ok.blt,ok.above,ok.inj,ok.has,ok.cab,ok.hd,ok.frames,ok.stk,ok.exf,ok.bs,ok.bsz,ok.noex,ok.exfs,ok.funs,ok.frf⟩
def Cx.Ok.unwish{E:B9->B'->Prop}(ok:(X.wish E).Ok):X.Ok:=
 ⟨ok.mod,ok.kind,ok.glob,ok.blt,ok.above,ok.inj,ok.has,ok.cab,ok.hd,ok.frames,ok.stk,ok.exf,ok.bs,ok.bsz,ok.noex,ok.exfs,ok.funs,ok.frf⟩
section
variable{X:Cx}{Z:B7<|C3×Obj}{O:St}{H:Hp}{s:B'}{E:B9->B'->Prop}
theorem Inv.wish(I:Inv X Z O H s)(E:B9->B'->Prop):Inv (X.wish E) Z O H s:=⟨I.ok.wish E,I.os,I.bare,I.base,I.loc,I.cell,I.free,I.freeC,I.pin,I.hok,I.len⟩
theorem Inv.unwish(I:Inv (X.wish E) Z O H s):Inv X Z O H s:=⟨I.ok.unwish,I.os,I.bare,I.base,I.loc,I.cell,I.free,I.freeC,I.pin,I.hok,I.len⟩
theorem SP.unwish{D:zDs}{f:Flow}{a:B'}(h:SP (X.wish E) Z D f a):SP X Z D f a:=by
 cases f with
 |next=>let⟨O',H',I,q⟩:=h;exact⟨O',H',I.unwish,q⟩
 |brk=>let⟨O',H',I,q⟩:=h;exact⟨O',H',I.unwish,q⟩
 |cont=>let⟨O',H',I,q⟩:=h;exact⟨O',H',I.unwish,q⟩
 |ret u=>let⟨v,O',H',I,r,q⟩:=h;exact⟨v,O',H',I.unwish,r,q⟩
end
section
variable{X:Cx}{st:Stmt}{rest:B7 Stmt}{t u:TS}{e:C0}{te:TE}{pos:Pos}
def zE5:TS:=λD O H=>D.nx O H
def zJl(t u:TS):TS:=λD O H=>t {D with nx:=u D} O H
def tI:PSs X [] zE5:=λ_ _ O H _ I h=>wpAny_execs_nil ⟨O,H,I,h⟩
theorem pV(c:PS X st t)(b:PSs X rest u):PSs X (st::rest)<|zJl t u:=by
 intro Z s O H D I h;refine wpAny_execs_cons (thn (c Z s O H {D with nx:=u D} I h) λf a q=>?_);cases f with
 |next=>
  let⟨O',H',I',q⟩:=q;exact b Z a O' H' D I' q
 |ret v=>exact q
 |brk=>exact q
 |cont=>exact q
def tJ:PS X (.Pass pos) zE5:=λ_ _ O H _ I h=>wpAny_Pass ⟨O,H,I,h⟩
def Inv.quiet{O:St}(I:Inv X Z O H s):interactive X.env=false:=by simp[interactive,I.ok.kind]
def zE7(te:TE):TS:=λD O H=>te O H λ_ H1=>D.nx O H1
def tK(c:PE X e te)(b:swapsWith e none pos.line X.env=pure false:=by rfl):PS X (.Expr e pos)<|zE7 te:=by
 intro Z s O H D I h;exact wpAny_Expr_any (thn (c Z s O H _ I h) λv d ⟨x,H1,I1,r1,a⟩=>⟨O,H1,I1,a⟩) I.quiet b
def zJm(te:TE):TS:=λD O H=>te O H D.rt
def wJ(b:PE X e te):PS X (.Return (some e) pos)<|zJm te:=by
 intro Z s O H D I h;exact wpAny_Return_some (thn (b Z s O H _ I h) λv c ⟨x,H1,I1,r1,a⟩=>⟨x,O,H1,I1,r1,a⟩)
def zJr(c:TT)(t u:TS):TS:=λD O H=>c O H λb H1=>if b=true then t D O H1 else u D O H1
theorem zv{c:C0}{a b:B7 Stmt}{l:TT}(p:PT X c l)(q:PSs X a t)(hb:PSs X b u):PS X (.If c a b pos)<|zJr l t u:=by
 intro Z s O H D I h;refine wpAny_If (thn (p Z s O H _ I h) λd m ⟨H1,I1,o⟩=>?_);cases d with
 |true=>exact q Z m O H1 D I1 o
 |false=>exact hb Z m O H1 D I1 o
end
noncomputable abbrev TG:=V->St->Hp->(St->Hp->Prop)->Prop
noncomputable abbrev TGs:=C9->St->Hp->(St->Hp->Prop)->Prop
def PG(X:Cx)(target:C0)(t:TG):Prop:=
 ∀(Z:B7<|C3×Obj)(s:B')(O:St)(H:Hp)(v:V)(u:B9)(Q:St->Hp->Prop),Inv X Z O H s->zAh v u->t v O H Q ->
  wpAny (model X.prog X.w) X.A (assign target X.env u) (λ_ a=>∃O' H',Inv X Z O' H' a/\Q O' H') X.xe s
def PGs(X:Cx)(a:B7 C0)(t:TGs):Prop:=
 ∀(Z:B7<|C3×Obj)(s:B')(O:St)(H:Hp)(vs:C9)(us:D0)(Q:St->Hp->Prop),Inv X Z O H s->zAg vs us->t vs O H Q ->
  wpAny (model X.prog X.w) X.A (assignInOrder ((assignEach a X.env).map (·.2)) us) (λ_ b=>∃O' H',Inv X Z O' H' b/\Q O' H') X.xe s
noncomputable abbrev zGv:=V->V->V->Hp->(Hp->Prop)->Prop
def zH8(X:Cx)(t:zGv):Prop:=
 ∀(Z:B7<|C3×Obj)(s:B')(O:St)(H:Hp)(o i v:V)(a b u:B9)(Q:Hp->Prop),Inv X Z O H s->zAh o a->zAh i b->zAh v u->t o i v H Q ->
  wpAny (model X.prog X.w) X.A (setItem a b u) (λ_ c=>∃H',Inv X Z O H' c/\Q H') X.xe s
section
variable{X:Cx}{pos:Pos}
def zDf(i:Nat):TG:=λv O H Q=>Q (O.set i<|some v) H
def mh{x:Str}(c:X.N.Nodup)(hi:X.N[i]?=some x)(a:Loc X.env.scope x)(b:X.fn x=true\/X.env.scope.names.lookup x=some .local:=by first|exact .inl rfl|exact .inr rfl|assumption):PG X (.Name x pos)<|zDf i:=by
 intro Z s O H v u Q I r h;exact wpAny_assign_Name (ff I c hi a r (λd I'=>⟨_,H,I',h⟩) b)
def zHq:TGs:=λvs O H Q=>vs=[]/\Q O H
def zDo(t:TG)(u:TGs):TGs:=λvs O H Q=>∃v r,vs=v::r/\t v O H λO' H'=>u r O' H' Q
def mf:PGs X [] zHq:=by
 intro Z s O H vs us Q I r h;let⟨e,h⟩:=h;subst e;cases r;exact assignInOrder_nil ⟨O,H,I,h⟩
theorem gF{e:C0}{t:TG}{u:TGs}(o:PG X e t)(m:PGs X es u)(l:(assignEach (e::es) X.env).map (·.2)=assign e X.env::(assignEach es X.env).map (·.2):=by rfl):PGs X (e::es)<|zDo t u:=by
 intro Z s O H vs us Q I r h;let⟨v,q,p,h⟩:=h;subst p;cases r with
 |cons r c=>
  rw[l];refine assignInOrder_cons (thn (o Z s O H _ _ _ I r h) λ_ b a=>?_);let⟨σ1,H1,I1,d⟩:=a;exact m Z b σ1 H1 _ _ Q I1 c d
def zGt(K:xFr)(n:Nat)(t:TGs):TG:=λv O H Q=>∃a b,v=.ref a/\SqT K H a b/\b.length=n/\t b O H Q
def kO{t:TGs}(E:X.calm=true)(h:PGs X es t)(B:(assignEach es X.env).length=n:=by rfl)(d:(assignEach es X.env).findIdx? (·.1)=none:=by rfl):PG X (.Tuple es k pos)<|zGt X.K n t:=by
 intro Z s O H v u Q I r c;let⟨a,m,G,x,D,c⟩:=c;subst G;cases r;let⟨its,l,q,J⟩:=I.tuple x;refine assign_Tuple_tuple (I.ok.hd E) q (by simp[B,<- D,l.length]) d λF p=>?_;have I1:Inv X Z O H {s with heap:=F}:=I.kept (t':=s.toks) λb o e=>p b o (xA0<|xA1 e) e;exact h Z _ O H m _ Q I1 (by simpa using l) c
def zKd(to a:TE)(t:zGv):TG:=λv O H Q=>to O H λo H1=>a O H1 λi H2=>t o i v H2 λH3=>Q O H3
def wX{o i:C0}{to d:TE}{t:zGv}(D:PE X o to)(hi:PE X i d)(B:zH8 X t)(E:∀v,assign (.Subscript o i pos) X.env v=(do
   let a <- holding [v] (eval o X.env)
   let b <- holding [v,a] (eval i X.env)
   standAt pos
   holding [v,a,b] (setItem a b v)
   release [v,a,b] []):=by intro _;rfl):PG X (.Subscript o i pos)<|zKd to d t:=by
 intro Z s O H v u Q I r h;rw[E];refine xAd (xDc<|thn (D Z s O H _ I h) λa l c=>?_);let⟨x,H1,I1,r1,q⟩:=c;refine xAd (xDc<|thn (hi Z l O H1 _ I1 q) λb e c=>?_);let⟨y,H2,I2,r2,p⟩:=c;refine xAd (wpAny_standAt<|xAd<|xDc<|thn (B Z e O H2 x y v a b u _ I2 r1 r2 r p) λ_ F ⟨H3,I3,m⟩=>?_);exact wpAny_release ⟨O,H3,I3,m⟩
def zG7(te:TE)(g:TG):TS:=λD O H=>te O H λx H1=>g x O H1 D.nx
def pX{e:C0}{g:TG}(m:PE X e te)(l:PG X tg g)(d:swapsWithSole [tg] e pos.line X.env=pure false:=by rfl)(c:swappedStores [tg] e X.env=pure none:=by rfl)(o:(assignEach [tg] X.env).map (·.2)=[assign tg X.env]:=by rfl):PS X (.Assign [tg] e pos)<|zG7 te g:=by
 intro Z s O H D I h;refine wpAny_Assign_stores (thn (m Z s O H _ I h) λv a ⟨x,H1,I1,r1,b⟩=>?_) d c;rw[o];exact thn (l Z a O H1 x v _ I1 r1 b) λ_ p q=>q
def wI{x:Str}{e:C0}{a:Pos}(o:X.N.Nodup)(hi:X.N[i]?=some x)(c:Loc X.env.scope x)(m:PE X e te)(d:swapsWith e (some<|.Name x a) pos.line X.env=pure false:=by rfl)(l:X.fn x=true\/X.env.scope.names.lookup x=some .local:=by first|exact .inl rfl|exact .inr rfl|assumption) :
  PS X (.Assign [.Name x a] e pos) (zG7 te<|zDf i):=by
 intro Z s O H D I h;refine wpAny_Assign_Name (thn (m Z s O H _ I h) λv q ⟨y,H1,I1,r1,b⟩=>?_) d;exact ff I1 o hi c r1 (λp I2=>⟨_,H1,I2,b⟩) l
def zJn(i j:Nat)(a:TA):TS:=λD O H=>a O H λvs H1=>∃v w,vs=[v,w]/\D.nx ((O.set i<|some v).set j<|some w) H1
def wK{x y:Str}{a b:C0}{F:TA}{t r pt:Pos}{kt k2 pt2}(hc:X.calm=true)(L:X.N.Nodup)(hi:X.N[i]?=some x)(Y:X.N[j]?=some y)(E:i≠j)(J:X.env.scope.names.lookup x=some .local)(G:X.env.scope.names.lookup y=some .local)(ha:PA X [a,b] F)(T:swappedStores [.Tuple [.Name x t,.Name y r] kt pt] (.Tuple [a,b] k2 pt2) X.env=pure (some [x,y]))(W:swapsWithSole [.Tuple [.Name x t,.Name y r] kt pt] (.Tuple [a,b] k2 pt2) pos.line X.env=pure false:=by rfl) :
  PS X (.Assign [.Tuple [.Name x t,.Name y r] kt pt] (.Tuple [a,b] k2 pt2) pos) (zJn i j F):=by
 intro Z s O H D I h;rw[exec_Assign_arm];refine xAd (wpAny_standAt ?_);rw[W];refine xAd (xAe ?_);rw[xCf ∅];refine xAd (Tuple_<|thn (ha _ Z s O H _ I h) λus l P=>?_);let⟨vs,H1,I1,r1,m⟩:=P;let⟨v,w,e1,m⟩:=m;subst e1;obtain⟨d,c,rfl,rv,rw'⟩:∃d c,us=[d,c]/\zAh v d/\zAh w c:=by
  cases r1 with
  |cons p q=>
   cases q with
   |cons S R=>
    cases R;exact⟨_,_,rfl,p,S⟩
 refine xBl ?_ (by show 2<=sizeLine;decide);have I2:Inv X Z O H1 {l with heap:=l.heap.push {cls:=.type "tuple",data:=.seq [d,c].toArray} }:=I1.kept (t':=l.toks) λb o e=>xAf _ e;rw[T];refine xAd<|xAe ?_;show wpAny (model X.prog X.w) X.A (do rule "assign.swapped-stores";let items <- unpackItems (.ref l.heap.objs.size) 2 none;assignInOrder [λv=>bindName X.env y v,λv=>bindName X.env x v] items.reverse;pure Flow.next) _ _ _;refine xAd (wpAny_rule<|xAd<|unpackItems_tuple (items:=#[d,c]) (I.ok.hd hc) (IsTup.new l.heap _) λh' B=>?_);have I3:=I2.kept (h':=h') (t':=l.toks) λb o e=>B b o (xA0<|xA1 e) e;show wpAny _ _ (assignInOrder [λv=>bindName X.env y v,λv=>bindName X.env x v] [c,d]>>=λ_=>pure Flow.next) _ _ _;erw[<-xAd<|assignInOrder_cons<|wpAny_bindName<|ff I3 L Y (.inl G) rw' (λs2 I4=>?_)<|.inr G,<-assignInOrder_cons<|wpAny_bindName<|ff I4 L hi (.inl J) rv (λs3 I5=>assignInOrder_nil<|xAe ?_)<|.inr J];rw[List.set_comm _ _<|Ne.symm E] at I5;exact⟨_,H1,I5,m⟩
end
section
variable{X:Cx}{pos:Pos}
def zE3(c:TT)(tb:TS):TS:=λD O H=>∃W:Nat->St->Hp->Prop,(∃m,W m O H)/\∀m O H,W m O H ->
 c O H λb H1=>if b=true then ∃N:St->Hp->Prop,(∀O' H',N O' H'->∃a,a<m/\W a O' H')/\tb {D with nx:=N,ct:=N,bk:=D.nx} O H1 else D.nx O H1
end
structure It where
 go:Nat->Hp->Prop
 yld:Nat->Hp->V->Hp->Prop
 stop:Nat->Hp->Prop
def zC1(X:Cx)(Z:B7<|C3×Obj)(H:Hp)(b:C3):Prop:=
 H b=none/\b≠X.env.locals/\b∉X.fs/\(b∈X.ex\/X.s₀.heap.objs.size<=b)/\(∀x c,X.env.cells.lookup x=some c->c≠b)/\∀p∈X.pn++Z,p.1≠b
def Inv.fpOk{O:St}{H':Hp}{b:C3}(I:Inv X Z O H s)(hb:s.heap.objs.size<=b)(d:H' b=none):zC1 X Z H' b:=by
 refine⟨d,Nat.ne_of_gt<|xBc I.lt hb,I.nofs hb,.inr<|xCk I.sz hb,λx c e z=>?_,λp a z=>?_⟩
 .let⟨v,q⟩:=I.cell x c e;exact absurd (xBc q.lt<|by rw[z];exact hb)<|xBo _
 .exact absurd (xBc (xA1 (I.pin p a).1)<|by rw[z];exact hb)<|xBo _
structure zEi(P:Program)(w:World)(K:xFr)(tg:C0)(m0J:It)(fp:B7 C3)(it:C3)(tn:Nat->Heap->Prop):Prop where
 mem:it∈fp
 obj:∀i h,tn i h->∀b∈fp,∃o,h.get? b=some o/\∀v,o.data≠.cell v
 keep:∀i h h',tn i h->(∀b∈fp,∀o,h.get? b=some o->h'.get? b=some o)->tn i h'
 item:∀(X:Cx),X.prog=P->X.w=w->X.K=K->X.calm=true->∀(i:Nat)(Z:B7 (C3×Obj))(s:B')(O:St)(H:Hp)(E:B9->B'->Prop),Inv X Z O H s->(∀b∈fp,zC1 X Z H b)->tn i s.heap->m0J.go i H ->
  wpAny (model P w) X.A (pyNext (.ref it)) (λr s1=>∃u,r=some u /\
   wpAny (model P w) X.A (letOwnedTupleGo tg (.ref it) u) (λ_ s2=>∃x H',Inv X Z O H' s2/\zAh x u/\m0J.yld i H x H'/\tn (i+1) s2.heap/\∀b∈fp,H' b=none) E s1) E s
 done:∀(X:Cx),X.prog=P->X.w=w->X.K=K->X.calm=true->∀(i:Nat)(Z:B7 (C3×Obj))(s:B')(O:St)(H:Hp)(E:B9->B'->Prop),Inv X Z O H s->(∀b∈fp,zC1 X Z H b)->tn i s.heap->m0J.stop i H ->
  wpAny (model P w) X.A (pyNext (.ref it)) (λr s1=>r=none/\Inv X Z O H s1) E s
 self:∀(A:Around)(i:Nat)(s:B')(Q:B9->B'->Prop)(E:B9->B'->Prop),tn i s.heap->Q (.ref it) s->wpAny (model P w) A (pyIter (.ref it)) Q E s
noncomputable abbrev TI:=St->Hp->(It->Hp->Prop)->Prop
def PIE(X:Cx)(Z:B7<|C3×Obj)(O:St)(tg:C0)(R:It->Hp->Prop)(c:B9)(d:B'):Prop:=
 ∃(it:C3) (fp:B7 C3) (tn:Nat->Heap->Prop) (a:It) (H':Hp),c=.ref it/\Inv X Z O H' d/\zEi X.prog X.w X.K tg a fp it tn/\tn 0 d.heap/\(∀b∈fp,zC1 X Z H' b)/\R a H'
def PI(X:Cx)(tg iter:C0)(wi:TI):Prop:=
 ∀(Z:B7<|C3×Obj)(s:B')(O:St)(H:Hp)(R:It->Hp->Prop),Inv X Z O H s->wi O H R ->
  wpAny (model X.prog X.w) X.A (eval iter X.env) (λv a=>wpAny (model X.prog X.w) X.A (pyIter v) (PIE X Z O tg R) X.xe a) X.xe s
def ni{E:B9->B'->Prop}{u:B9}{o:Obj}{n:String}{vs:Array B9}{Q:Unit->B'->Prop}(b:s.heap.get? it=some o)(e:o.cls=.type n)(d:o.data=.fields vs)(c:["enumerate","zip","dict_itemiterator","dict_reverseitemiterator","odict_iterator","itertools.zip_longest","itertools.pairwise"].contains n=false)(a:Q Unit.unit s):wpAny M A (letOwnedTupleGo tg (.ref it) u) Q E s:=by
 unfold letOwnedTupleGo;cases tg <;> first
  |exact xAe a
  | (cases u <;> first
    |exact xAe a
    | (refine xAd (wpAny_load b ?_)
       rw[e,d];show wpAny M A (if(["enumerate","zip","dict_itemiterator","dict_reverseitemiterator","odict_iterator","itertools.zip_longest","itertools.pairwise"].contains n&&vs[0]?==some (rawInt _))=true then _ else _) Q E s;rw[xCf<|by intro h;rw[c,Bool.false_and] at h;cases h];exact xAe a))
noncomputable def Itl(K:xFr)(a:C3):It:=
 ⟨λi H=>∃b x,SqL K H a b/\b[i]?=some x,λi H x H'=>H'=H/\∀b,SqL K H a b->b[i]?=some x,λi H=>∃b,SqL K H a b/\b.length<=i⟩
noncomputable def Itt(K:xFr)(a:C3):It:=
 ⟨λi H=>∃b x,SqT K H a b/\b[i]?=some x,λi H x H'=>H'=H/\∀b,SqT K H a b->b[i]?=some x,λi H=>∃b,SqT K H a b/\b.length<=i⟩
noncomputable def Itr(lo:Int)(n:Nat):It:=⟨λi _=>i<n,λi H x H'=>H'=H/\x=.int (lo+i),λi _=>n<=i⟩
def nR{P:Program}{w:World}(a it:C3):zEi P w K tg (Itl K a) [it] it (λi h=>h.IsListIter it a i) where
 mem:=by simp
 obj:=λi h l b hb=>by
  have e:b=it:=by simpa using hb
  subst e;let⟨o,e,c,d⟩:=l;exact⟨o,e,λv z=>by rw[d] at z;cases z⟩
 keep:=λi h t l k=>l.at λo e=>k it ⋯ o e
 item:=by
  intro X J F L hc i Z s O H E I r l G;subst J F L;let⟨xs,x,q,D⟩:=G;let⟨its,B,p,hz⟩:=I.list q;let⟨u,hu,ru⟩:=B.get D;let⟨Y,W,f2,T,S,R⟩:=r it ⋯;refine wpAny_pyNext_list_item l p.isList (x:=u) (by simpa using hu) λt m sb=>?_;have I1:Inv X Z O H {s with heap:=t}:=I.turned (t':=s.toks) (λb o hb e=>(sb.2 b hb).trans e) Y W T S R;let⟨o,e,c,d⟩:=id m;exact⟨u,rfl,ni (s:={s with heap:=t}) e c d ∅ ⟨x,H,I1,ru,⟨rfl,λys hy=>by rw[I.list_inj hy q];exact D⟩,m,λb hb=>(r b hb).1⟩⟩
 done:=by
  intro X J F L hc i Z s O H E I r l G;subst J F L;let⟨xs,q,D⟩:=G;let⟨its,B,p,hz⟩:=I.list q;let⟨Y,W,f2,T,S,R⟩:=r it ⋯;have hl:=B.length;exact wpAny_pyNext_list_end (I.ok.hd hc) l p.isList (by simp;lia) λt eb=>⟨rfl,I.turned (t':=s.toks) (λb o hb e=>eb b o hb e) Y W T S R⟩
 self:=λ_ _ _ _ _ l h=>wpAny_pyIter_listiter l h
def ko{P:Program}{w:World}(a it:C3):zEi P w K tg (Itt K a) [it] it (λi h=>h.IsTupleIter it a i) where
 mem:=by simp
 obj:=λi h l b hb=>by
  have e:b=it:=by simpa using hb
  subst e;let⟨o,e,c,d⟩:=l;exact⟨o,e,λv z=>by rw[d] at z;cases z⟩
 keep:=λi h t l k=>l.at λo e=>k it ⋯ o e
 item:=by
  intro X J F L hc i Z s O H E I r l G;subst J F L;let⟨xs,x,q,D⟩:=G;let⟨its,B,p,hz⟩:=I.tuple q;let⟨u,hu,ru⟩:=B.get D;let⟨Y,W,f2,T,S,R⟩:=r it ⋯;refine wpAny_pyNext_tuple_item l (show s.heap.IsTuple a its.toArray from p) (x:=u) (by simpa using hu) λt m sb=>?_;have I1:Inv X Z O H {s with heap:=t}:=I.turned (t':=s.toks) (λb o hb e=>(sb.2 b hb).trans e) Y W T S R;let⟨o,e,c,d⟩:=id m;exact⟨u,rfl,ni (s:={s with heap:=t}) e c d ∅ ⟨x,H,I1,ru,⟨rfl,λys hy=>by rw[I.tuple_inj hy q];exact D⟩,m,λb hb=>(r b hb).1⟩⟩
 done:=by
  intro X J F L hc i Z s O H E I r l G;subst J F L;let⟨xs,q,D⟩:=G;let⟨its,B,p,hz⟩:=I.tuple q;let⟨Y,W,f2,T,S,R⟩:=r it ⋯;have hl:=B.length;exact wpAny_pyNext_tuple_end (I.ok.hd hc) l (show s.heap.IsTuple a its.toArray from p) (by simp;lia) λt eb=>⟨rfl,I.turned (t':=s.toks) (λb o hb e=>eb b o hb e) Y W T S R⟩
 self:=λ_ _ _ _ _ l h=>wpAny_pyIter_tupleiter l h
def kr{P:Program}{w:World}(it:C3)(lo:Int)(n:Nat):zEi P w K tg (Itr lo n) [it] it (λi h=>IsRangeIter h it (lo+(i:Nat)*1) ((n:Int)-(i:Nat)) 1) where
 mem:=by simp
 obj:=λi h a b hb=>by
  have e:b=it:=by simpa using hb
  subst e;exact⟨_,a,λv z=>by
   have L:Data.fields _=Data.cell v:=z;cases L⟩
 keep:=λi h l a k=>k it ⋯ _ a
 item:=by
  intro X r m x q i Z s O H E I d a p;subst r m x;let⟨J,G,T,F,D,B⟩:=d it ⋯;have W:=Walks.range (prog:=X.prog) (w:=X.w) (I.ok.hd q) it lo 1 n;refine W.item i s _ _ p a λv l tk S c R=>?_;let⟨t,rfl⟩:=S;have I1:Inv X Z O H {s with heap:=l,toks:=tk}:=I.turned (λb o hb e=>R b o (by simpa using hb) e) J G F D B;refine⟨_,rfl,ni (s:={s with heap:=l,toks:=tk}) (n:="range_iterator") c rfl rfl ∅ ⟨.int<|lo+i,H,I1,⟨t,?_⟩,⟨rfl,rfl⟩,c,λb hb=>(d b hb).1⟩⟩;rw[Int.mul_one]
 done:=by
  intro X r m x q i Z s O H E I d a p;subst r m x;let⟨J,G,T,F,D,B⟩:=d it ⋯;exact wpAny_pyNext_range_end (I.ok.hd q) a (by have:n<=i:=p;lia) λl Y=>⟨rfl,I.turned (t':=s.toks) (λb o hb e=>Y b o hb e) J G F D B⟩
 self:=λ_ _ _ _ _ a h=>wpAny_pyIter_rangeiter a h
section
variable{X:Cx}{tg:C0}
def pQ{O:St}{R:It->Hp->Prop}{E:B9->B'->Prop}{lo hi:Int}{t u v:Tok}{tk:Nat}(I:Inv X Z O H s)(l:-(2^62)<=lo)(d:lo<2^62)(c:-(2^62)<=hi)(a:hi<2^62)(q:R (Itr lo (hi-lo).toNat) H):wpAny (model X.prog X.w) X.A (pyIter<|.ref s.heap.objs.size) (PIE X Z O tg R) E {s with heap:=s.heap.push {cls:=.type "range",data:=.fields #[.int lo t,.int hi u,.int 1 v]},toks:=tk}:=by
 refine wpAny_pyIter_range (IsRange.new ..) (small_one l d c a) ?_;have I1:Inv X Z O H { s with heap:=s.heap.push { cls:=.type "range",data:=.fields #[.int lo t,.int hi u,.int 1 v] },toks:=tk }:=I.kept λb o e=>xAf _ e;refine⟨(s.heap.push { cls:=.type "range",data:=.fields #[.int lo t,.int hi u,.int 1 v] }).objs.size,[(s.heap.push { cls:=.type "range",data:=.fields #[.int lo t,.int hi u,.int 1 v] }).objs.size],_,_,H,rfl,
  I1.kept (t':=tk) λb o e=>xAf _ e,kr _ lo (hi-lo).toNat,?_,λb hb=>?_,q⟩
 .have p:lo+((0:Nat):Int)*1=lo:=by simp
  have m:(((hi-lo).toNat:Nat):Int)-((0:Nat):Int)=Builtin.Range.rangeSize lo hi 1:=by rw[rangeSize_one];split <;> lia
  show IsRangeIter _ _ (lo+((0:Nat):Int)*1) ((((hi-lo).toNat:Nat):Int)-((0:Nat):Int)) 1;rw[p,m];exact xAl _ rfl
 .have e:b=(s.heap.push {cls:=.type "range",data:=.fields #[.int lo t,.int hi u,.int 1 v]}).objs.size:=by simpa using hb
  subst e;exact I1.fpOk (xAg _)<|I1.hok.fresh<|xAg _
def zF3(a:TA):TI:=λO H R=>a O H λvs H1=>∃j:Int,vs=[.int j]/\-(2^62)<=j/\j<2^62/\R (Itr 0 j.toNat) H1
theorem oa{a:C0}{c:TA}{p:Pos}(v:Gl X "range")(o:X.mg "range"=none)(x:PA X [a] c)(m:starEach [a] X.env=[(false,eval a X.env)]:=by rfl):PI X tg (.Call (.Name "range" p) [a] [] pos)<|zF3 c:=by
 intro Z s O H R I h;refine Call_ (fG I v o boot_range<|PyProof.Rows.callWith_type1 (thn (x pos Z s O H _ I h) λus B ⟨vs,H1,I1,r1,b⟩=>?_) m rfl);let⟨j,e,b,l,q⟩:=b;subst e;cases r1 with
 |cons r d=>
  cases d;let⟨t,rfl⟩:=r;exact call_range_1 (pQ I1 () () b l<|by simpa using q)
def zJs(wi:TI)(g:TG)(tb:TS):TS:=λD O H=>wi O H λa H1=>∃W:Nat->Nat->St->Hp->Prop,(∃m,W 0 m O H1)/\∀i m O H,W i m O H ->
 (a.stop i H/\D.nx O H)\/(a.go i H/\∃N:St->Hp->Prop,(∀O' H',N O' H'->∃b,b<m/\W (i+1) b O' H')/\∀x H',a.yld i H x H'->g x O H' λσ2 H2=>tb {D with nx:=N,ct:=N,bk:=D.nx} σ2 H2)
noncomputable def zB9(fp:B7 C3)(h:Heap):B7<|C3×Obj:=fp.filterMap λb=>(h.get? b).map λo=>(b,o)
def dQ{b:C3}{o:Obj}(hb:b∈fp)(e:h.get? b=some o):(b,o)∈zB9 fp h:=List.mem_filterMap.mpr ⟨b,hb,by rw[e];rfl⟩
theorem oq{p:C3×Obj}(a:p∈zB9 fp h):p.1∈fp/\h.get? p.1=some p.2:=by
 let⟨b,hb,e⟩:=List.mem_filterMap.mp a;cases q:h.get? b with
 |none=>rw[q] at e;cases e
 |some o=>
  rw[q] at e;have c:(b,o)=p:=xB3 e;subst c;exact⟨hb,q⟩
def Inv.pinned{O:St}(I:Inv X Z O H s)(m:∀b∈fp,zC1 X Z H b)(l:∀b∈fp,∃o,s.heap.get? b=some o/\∀v,o.data≠.cell v):Inv X (Z++zB9 fp s.heap) O H s:=
 I.pins_of λp c=>(xAj.mp c).elim (λz=>I.pin p<|xBt _ z) λz=>by
  let⟨hb,e⟩:=oq z;let⟨t,r,q,_⟩:=m p.1 hb;let⟨o,a,d⟩:=l p.1 hb;rw[e] at a;cases a;exact⟨e,t,r,q,d⟩
def Inv.unpinned{pl:B7<|C3×Obj}{O:St}(I:Inv X (Z++pl) O H s):Inv X Z O H s:=I.pins_of λp a=>I.pin p<|xBt _<|xBw _ a
end
noncomputable abbrev R2:=V->V->Hp->VK->Prop
def OpR(X:Cx)(f:B9->B9->Sem B9)(r:R2):Prop:=
 ∀(Z:B7<|C3×Obj)(s:B')(O:St)(H:Hp)(x y:V)(v u:B9)(Q:VK),Inv X Z O H s->zAh x v->zAh y u->r x y H Q ->
  wpAny (model X.prog X.w) X.A (f v u) (EP X Z O Q) X.xe s
def UnR(X:Cx)(f:B9->Sem B9)(r:V->Hp->VK->Prop):Prop:=
 ∀(Z:B7<|C3×Obj)(s:B')(O:St)(H:Hp)(x:V)(v:B9)(Q:VK),Inv X Z O H s->zAh x v->r x H Q ->
  wpAny (model X.prog X.w) X.A (f v) (EP X Z O Q) X.xe s
def zAl(X:Cx)(f:B9)(r:C9->Hp->VK->Prop):Prop:=
 ∀(Z:B7<|C3×Obj)(s:B')(O:St)(H:Hp)(xs:C9)(us:D0)(Q:VK),Inv X Z O H s->zAg xs us->r xs H Q ->
  wpAny (model X.prog X.w) X.A (call f us) (EP X Z O Q) X.xe s
def zKl(X:Cx)(r:V->Hp->(C4->Hp->Prop)->Prop):Prop:=
 ∀(Z:B7<|C3×Obj)(s:B')(O:St)(H:Hp)(x:V)(v:B9)(Q:C4->Hp->Prop),Inv X Z O H s->zAh x v->r x H Q ->
  wpAny (model X.prog X.w) X.A (truthy v) (TP X Z O Q) X.xe s
def tOp(r:R2)(a tb:TE):TE:=λO H Q=>a O H λx H1=>tb O H1 λy H2=>r x y H2 Q
def tUn(r:V->Hp->VK->Prop)(a:TE):TE:=λO H Q=>a O H λx H1=>r x H1 Q
def rI(C:Int->Int->Prop)(g:Int->Int->V):R2:=λx y H Q=>∃i j,x=.int i/\y=.int j/\C i j/\Q (g i j) H
def rI0(g:Int->Int->V):R2:=λx y H Q=>∃i j,x=.int i/\y=.int j/\Q (g i j) H
def rU(g:Int->V):V->Hp->VK->Prop:=λx H Q=>∃i,x=.int i/\Q (g i) H
section
variable{X:Cx}{a b c:C0}{ta tb tc:TE}{pos:Pos}
def zH3(q:PE X a ta)(hb:PE X b tb){O:St}{R:V->V->Hp->Prop}(I:Inv X Z O H s)(h:ta O H λx H1=>tb O H1 λy H2=>R x y H2){f:B9->B9->Sem B9}(p:∀v u d x y H2,Inv X Z O H2 d->zAh x v->zAh y u->R x y H2->wpAny (model X.prog X.w) X.A (f v u) Q X.xe d) :
  wpAny (model X.prog X.w) X.A (eval a X.env) (λv s₁=>wpAny (model X.prog X.w) X.A (eval b X.env) (λu s₂=>wpAny (model X.prog X.w) X.A (f v u) Q X.xe s₂) X.xe s₁) X.xe s:=by
 refine thn (q Z s O H _ I h) λv l e=>?_;let⟨x,H1,I1,r1,o⟩:=e;refine thn (hb Z l O H1 _ I1 o) λu d e=>?_;let⟨y,H2,I2,r2,m⟩:=e;exact p v u d x y H2 I2 r1 r2 m
def zE{op:Operator}{r:R2}(m:OpR X (binaryOp op) r)(o:PE X a ta)(hb:PE X b tb):PE X (.BinOp a op b pos)<|tOp r ta tb:=by
 intro Z s O H Q I h;exact wpAny_BinOp (zH3 o hb I h λv u d x y H2 I2 l e q=>m Z d O H2 x y v u Q I2 l e q)
def zC{op:UnaryOp}{r:V->Hp->VK->Prop}(l:UnR X (unaryOp op) r)(m:PE X a ta):PE X (.UnaryOp op a pos)<|tUn r ta:=by
 intro Z s O H Q I h;exact UnaryOp_ (thn (m Z s O H _ I h) λv d ⟨x,H1,I1,r1,e⟩=>l Z d O H1 x v Q I1 r1 e)
def opI{f:B9->B9->Sem B9}{C:Int->Int->Prop}{g:Int->Int->Int}(d:∀(i j:Int)(t u:Tok)(s:B')(Q:B9->B'->Prop)(E:B9->B'->Prop),C i j->Q (.int (g i j) s.toks) {s with toks:=s.toks+1}->wpAny (model X.prog X.w) X.A (f (.int i t)<|.int j u) Q E s) :
  OpR X f (rI C λi j=>.int<|g i j):=by
 intro Z s O H x y v u Q I l e h;let⟨i,j,rfl,rfl,m,q⟩:=h;let⟨t,rfl⟩:=l;let⟨t',rfl⟩:=e;exact d i j t t' s _ _ m ⟨.int<|g i j,H,I.tok _,⟨_,rfl⟩,q⟩
def zIv{f:B9->B9->Sem B9}{g:Int->Int->Int}(d:∀(i j:Int)(t u:Tok)(s:B')(Q:B9->B'->Prop)(E:B9->B'->Prop),Q (.int (g i j) s.toks) {s with toks:=s.toks+1}->wpAny (model X.prog X.w) X.A (f (.int i t)<|.int j u) Q E s) :
  OpR X f (rI0 λi j=>.int<|g i j):=by
 intro Z s O H x y v u Q I l e h;let⟨i,j,rfl,rfl,q⟩:=h;let⟨t,rfl⟩:=l;let⟨t',rfl⟩:=e;exact d i j t t' s _ _ ⟨.int<|g i j,H,I.tok _,⟨_,rfl⟩,q⟩
def zGp{f:B9->B9->Sem B9}{g:Int->Int->C4}(d:∀(i j:Int)(t u:Tok)(s:B')(Q:B9->B'->Prop)(E:B9->B'->Prop),Q (.bool<|g i j) s->wpAny (model X.prog X.w) X.A (f (.int i t)<|.int j u) Q E s) :
  OpR X f (rI0 λi j=>.bl<|g i j):=by
 intro Z s O H x y v u Q I l e h;let⟨i,j,rfl,rfl,q⟩:=h;let⟨t,rfl⟩:=l;let⟨t',rfl⟩:=e;exact d i j t t' s _ _ ⟨.bl<|g i j,H,I,rfl,q⟩
def zJf(i j:Int):Prop:=0<=j/\j<=1000000/\i.natAbs<2^64
def xC:OpR X (binaryOp .Add)<|rI0 λi j=>.int<|i+j:=zIv λ_ _ _ _ _ _ _ q=>add_int q
def xu:OpR X (binaryOp .Sub)<|rI0 λi j=>.int<|i-j:=zIv λ_ _ _ _ _ _ _ q=>sub_int q
def xy:OpR X (binaryOp .Mod)<|rI (λ_ j=>0<j) λi j=>.int<|i%j:=opI λi j _ _ _ _ _ d q=>by
 have e:(0:Int)<j:=d;exact mod_int' () (by rw[Int.fmod_eq_emod_of_nonneg i ()];exact q)
def xw:OpR X (binaryOp .Pow)<|rI zJf λi j=>.int<|i^j.toNat:=opI λ_ _ _ _ _ _ _ d q=>pow_int_small d.1 d.2.1 d.2.2 q
def unI{f:B9->Sem B9}{g:Int->Int}(d:∀(i:Int)(t:Tok)(s:B')(Q:B9->B'->Prop)(E:B9->B'->Prop),Q (.int (g i) s.toks) {s with toks:=s.toks+1}->wpAny (model X.prog X.w) X.A (f<|.int i t) Q E s) :
  UnR X f (rU λi=>.int<|g i):=by
 intro Z s O H x v Q I e h;let⟨i,rfl,q⟩:=h;let⟨t,rfl⟩:=e;exact d i t s _ _ ⟨.int<|g i,H,I.tok _,⟨_,rfl⟩,q⟩
def v6:UnR X (unaryOp .USub)<|rU λi=>.int (-i):=unI λ_ _ _ _ _ q=>neg_int q
end
noncomputable def scal:V->V->C4
 |.non,.non=>true|.non,.int _=>true|.int _,.non=>true|.non,.bl _=>true|.bl _,.non=>true|.non,.str _=>true|.str _,.non=>true
 |.int _,.int _=>true|.bl _,.bl _=>true|.str _,.str _=>true|.byt _,.byt _=>true
 |.int _,.str _=>true|.str _,.int _=>true|.bl _,.str _=>true|.str _,.bl _=>true
 |_,_=>false
def rEq:R2:=λx y H Q=>scal x y=true/\Q (.bl<|decide<|x=y) H
def rNe:R2:=λx y H Q=>scal x y=true/\Q (.bl (!decide (x=y))) H
def nz{i j:Int}:decide (V.int i=V.int j)=(i==j):=by
 rw[Bool.eq_iff_iff];simp
def rX{i j:C4}:decide (V.bl i=V.bl j)=(i==j):=by
 rw[Bool.eq_iff_iff];simp
def ny{i j:Str}:decide (V.str i=V.str j)=(i==j):=by
 rw[Bool.eq_iff_iff];simp
def nB{i j:Array UInt8}:decide (V.byt i=V.byt j)=(i.toList==j.toList):=by
 rw[Bool.eq_iff_iff];cases i;cases j;simp
section
variable{X:Cx}{a b c:C0}{ta tb tc:TE}{pos:Pos}
def bw{O:St}{Q:VK}{k d:C4}(I:Inv X Z O H s)(q:Q (.bl k) H)(e:k=d):EP X Z O Q (.bool d) s:=by
 subst e;exact⟨.bl k,H,I,rfl,q⟩
theorem Ad:OpR X (compareOp .Eq) rEq:=by
 intro Z s O H x y v u Q I l d h;let⟨e,q⟩:=h;cases x with
 |non=>
  cases l;cases y with
  |non=>cases d;exact PySem.EqNone.eq_none_none (bw I q ⋯)
  |bl j=>cases d;exact PySem.EqNone.eq_none_bool (bw I q ⋯)
  |int j=>let⟨t',rfl⟩:=d;exact PySem.EqNone.eq_none_int (bw I q ⋯)
  |str j=>let⟨t',rfl⟩:=d;exact PySem.EqNone.eq_none_str (bw I q ⋯)
  |_=>exact absurd (show false=true from e) xAy
 |bl i=>
  cases l;cases y with
  |non=>cases d;exact PySem.EqNone.eq_bool_none (bw I q ⋯)
  |bl j=>cases d;exact eq_bool<|bw I q rX
  |str j=>let⟨t',rfl⟩:=d;exact PySem.EqMixed.eq_bool_str (bw I q ⋯)
  |_=>exact absurd (show false=true from e) xAy
 |int i=>
  let⟨t,rfl⟩:=l;cases y with
  |non=>cases d;exact PySem.EqNone.eq_int_none (bw I q ⋯)
  |int j=>let⟨t',rfl⟩:=d;exact eq_int<|bw I q nz
  |str j=>let⟨t',rfl⟩:=d;exact PySem.EqMixed.eq_int_str (bw I q ⋯)
  |_=>exact absurd (show false=true from e) xAy
 |str i=>
  let⟨t,rfl⟩:=l;cases y with
  |non=>cases d;exact PySem.EqNone.eq_str_none (bw I q ⋯)
  |bl j=>cases d;exact PySem.EqMixed.eq_str_bool (bw I q ⋯)
  |int j=>let⟨t',rfl⟩:=d;exact PySem.EqMixed.eq_str_int (bw I q ⋯)
  |str j=>let⟨t',rfl⟩:=d;exact eq_str<|bw I q ny
  |_=>exact absurd (show false=true from e) xAy
 |byt i=>
  let⟨t,rfl⟩:=l;cases y with
  |byt j=>let⟨t',rfl⟩:=d;exact W.eq_bytes<|bw I q nB
  |_=>exact absurd (show false=true from e) xAy
 |_=>cases y <;> exact absurd (show false=true from e) xAy
theorem Ac:OpR X (compareOp .NotEq) rNe:=by
 intro Z s O H x y v u Q I l d h;let⟨e,q⟩:=h;cases x with
 |non=>
  cases l;cases y with
  |non=>cases d;exact PySem.EqNone.ne_none_none (bw I q ⋯)
  |bl j=>cases d;exact PySem.EqNone.ne_none_bool (bw I q ⋯)
  |int j=>let⟨t',rfl⟩:=d;exact PySem.EqNone.ne_none_int (bw I q ⋯)
  |str j=>let⟨t',rfl⟩:=d;exact PySem.EqNone.ne_none_str (bw I q ⋯)
  |_=>exact absurd (show false=true from e) xAy
 |bl i=>
  cases l;cases y with
  |non=>cases d;exact PySem.EqNone.ne_bool_none (bw I q ⋯)
  |bl j=>cases d;exact ne_bool<|bw I q<|congrArg not rX
  |str j=>let⟨t',rfl⟩:=d;exact PySem.EqMixed.ne_bool_str (bw I q ⋯)
  |_=>exact absurd (show false=true from e) xAy
 |int i=>
  let⟨t,rfl⟩:=l;cases y with
  |non=>cases d;exact PySem.EqNone.ne_int_none (bw I q ⋯)
  |int j=>let⟨t',rfl⟩:=d;exact ne_int<|bw I q<|congrArg not nz
  |str j=>let⟨t',rfl⟩:=d;exact PySem.EqMixed.ne_int_str (bw I q ⋯)
  |_=>exact absurd (show false=true from e) xAy
 |str i=>
  let⟨t,rfl⟩:=l;cases y with
  |non=>cases d;exact PySem.EqNone.ne_str_none (bw I q ⋯)
  |bl j=>cases d;exact PySem.EqMixed.ne_str_bool (bw I q ⋯)
  |int j=>let⟨t',rfl⟩:=d;exact PySem.EqMixed.ne_str_int (bw I q ⋯)
  |str j=>let⟨t',rfl⟩:=d;exact ne_str<|bw I q<|congrArg not ny
  |_=>exact absurd (show false=true from e) xAy
 |byt i=>
  let⟨t,rfl⟩:=l;cases y with
  |byt j=>let⟨t',rfl⟩:=d;exact W.ne_bytes<|bw I q<|congrArg not nB
  |_=>exact absurd (show false=true from e) xAy
 |_=>cases y <;> exact absurd (show false=true from e) xAy
def vE:OpR X (compareOp .Lt)<|rI0 λi j=>.bl<|decide<|i<j:=zGp λ_ _ _ _ _ _ _ q=>lt_int q
def vF:OpR X (compareOp .LtE)<|rI0 λi j=>.bl<|decide<|i<=j:=zGp λ_ _ _ _ _ _ _ q=>le_int q
def vG:OpR X (compareOp .Gt)<|rI0 λi j=>.bl<|decide<|j<i:=zGp λ_ _ _ _ _ _ _ q=>gt_int q
def vH:OpR X (compareOp .GtE)<|rI0 λi j=>.bl<|decide<|j<=i:=zGp λ_ _ _ _ _ _ _ q=>ge_int q
def oj:OpR X (compareOp .In) λx y H Q=>∃i j,x=.str i/\y=.str j/\Q (.bl (!(Builtin.Str.occurrences j i 0 j.length 1).isEmpty)) H:=by
 intro Z s O H x y v u Q I e d h;let⟨i,j,rfl,rfl,q⟩:=h;let⟨t,rfl⟩:=e;let⟨t',rfl⟩:=d;exact in_str<|bw I q rfl
def xz:OpR X (compareOp .Is) λx y H Q=>y=.non/\Q (.bl<|decide<|x=.non) H:=by
 intro Z s O H x y v u Q I d e h;let⟨rfl,q⟩:=h;cases e;refine is_none_gen<|bw I q ?_;cases x <;> first
  |(cases d;rfl)
  |(let⟨t,rfl⟩:=d;rfl)
def iQ:OpR X (compareOp .NotIn) λx y H Q=>∃i j,x=.str i/\y=.str j/\Q (.bl (!(!(Builtin.Str.occurrences j i 0 j.length 1).isEmpty))) H:=by
 intro Z s O H x y v u Q I e d h;let⟨i,j,rfl,rfl,q⟩:=h;let⟨t,rfl⟩:=e;let⟨t',rfl⟩:=d;exact notIn_str<|bw I q rfl
def mj{r:R2}(m:OpR X (compareOp op) r)(p:PE X a ta)(hb:PE X b tb)(o:behindInMarks op b=false):PE X (.Compare a [op] [b] pos)<|tOp r ta tb:=by
 intro Z s O H Q I h;exact wpAny_Compare1 (zH3 p hb I h λv u d x y H2 I2 l e q=>m Z d O H2 x y v u Q I2 l e q) o
def zE4(t:TE):TT:=λO H Q=>t O H λx H'=>∃k,x=.bl k/\Q k H'
def lV{r:R2}(q:OpR X (compareOp op) r)(B:PE X a ta)(hb:PE X b tb)(t:behindInMarks op b=false):PT X (.Compare a [op] [b] pos)<|zE4<|tOp r ta tb:=by
 intro Z s O H Q I h;refine wpAny_isTrue_Compare1 (thn (B Z s O H _ I h) λv l ⟨x,H1,I1,r1,p⟩=>thn (hb Z l O H1 _ I1 p) λu d ⟨y,H2,I2,r2,o⟩ =>
  thn (q Z d O H2 x y v u _ I2 r1 r2 o) λc D ⟨z,H3,I3,r3,k,e,m⟩=>?_) t
 subst e;cases r3;exact wpAny_truthy_bool ⟨H3,I3,m⟩
def zC3(r r':R2)(ta tb tc:TE):TE:=λO H Q=>ta O H λx H1=>tb O H1 λy H2=>r x y H2 λz H3=>∃k,z=.bl k /\
 (if k=true then tc O H3 λd H4=>r' y d H4 Q else Q (.bl false) H3)
theorem qt{r:R2}(J:OpR X (compareOp op) r)(l:OpR X (compareOp op') r')(R:PE X a ta)(hb:PE X b tb)(P:PE X c tc)(L:lastMarks [op,op'] [b,c]=false:=by with_unfolding_all rfl):PE X (.Compare a [op,op'] [b,c] pos)<|zC3 r r' ta tb tc:=by
 intro Z s O H Q I h;refine Compare_chain (thn (R Z s O H _ I h) λv D ⟨x,H1,I1,r1,G⟩=>chain_link (thn (hb Z D O H1 _ I1 G) λu B ⟨y,H2,I2,r2,F⟩ =>
  thn (J Z B O H2 x y v u _ I2 r1 r2 F) λd t ⟨z,H3,I3,r3,k,e,m⟩=>?_)) L
 subst e;cases r3;erw[wpAny_truthy_bool];cases k with
 |false=>exact ite_ff ⟨.bl false,H3,I3,rfl,m⟩
 |true=>exact ite_tt (chain_last<|thn (P Z t O H3 _ I3 m) λp q ⟨o,H4,I4,r4,E⟩=>l Z q O H4 y o u p Q I4 r2 r4 E)
theorem pU{r:R2}(R:OpR X (compareOp op) r)(l:OpR X (compareOp op') r')(W:PE X a ta)(hb:PE X b tb)(T:PE X c tc)(S:lastMarks [op,op'] [b,c]=false:=by with_unfolding_all rfl):PT X (.Compare a [op,op'] [b,c] pos)<|zE4<|zC3 r r' ta tb tc:=by
 intro Z s O H Q I h;refine isTrue_chain (thn (W Z s O H _ I h) λv E ⟨x,H1,I1,r1,L⟩=>test_link (thn (hb Z E O H1 _ I1 L) λu D ⟨y,H2,I2,r2,J⟩ =>
  thn (R Z D O H2 x y v u _ I2 r1 r2 J) λd B ⟨z,H3,I3,r3,k,e,m⟩=>?_)) S
 subst e;cases r3;erw[wpAny_truthy_bool];cases k with
 |false=>
  let⟨k',e',P⟩:=m;cases e';exact ite_ff ⟨H3,I3,P⟩
 |true=>
  refine ite_tt (test_last<|thn (T Z B O H3 _ I3 m) λq t ⟨p,H4,I4,r4,G⟩=>thn (l Z t O H4 y p u q _ I4 r2 r4 G) λd' s5 o=>?_);let⟨z2,H5,I5,r5,k2,Y,F⟩:=o;subst Y;cases r5;exact wpAny_truthy_bool ⟨H5,I5,F⟩
def zH7(K:xFr)(x:V)(H:Hp)(k:C4):Prop:=
 match x with
 |.non=>k=false
 |.bl b=>k=b
 |.int i=>k=(i != 0)
 |.str y=>y.length<=sizeLine/\k=((y.length:Int) != 0)
 |.byt y=>y.size<=sizeLine/\k=((y.size:Int) != 0)
 |.ref p=>(∃xs,SqL K H p xs/\k=!xs.isEmpty)\/(∃xs,SqT K H p xs/\k=!xs.isEmpty)\/∃kvs,H p=some (.dK kvs)/\k=!kvs.isEmpty
 |_=>False
def kY{κ:Type}{kvs:B7<|κ×V}{vs:B7<|κ×B9}(r:KV kvs vs):(!vs.isEmpty)=!kvs.isEmpty:=by
 cases r <;> rfl
def gQ{xs:C9}{its:D0}(r:zAg xs its):(!its.toArray.isEmpty)=!xs.isEmpty:=by
 cases r <;> simp
def zBz:(sizeLine:Nat)<2^63:=by rw[sizeLine_eq];decide
theorem we:zKl X λx H Q=>∃k,zH7 X.K x H k/\Q k H:=by
 intro Z s O H x v Q I D h;let⟨k,e,q⟩:=h;have J:=zBz;have G:sizeLine=16777216:=sizeLine_eq;cases x with
 |non=>
  cases D;have d:k=false:=e;subst d;exact truthy_none ⟨H,I,q⟩
 |bl b=>
  cases D;have d:k=b:=e;subst d;exact wpAny_truthy_bool ⟨H,I,q⟩
 |int i=>
  let⟨t,rfl⟩:=D;have d:k=(i != 0):=e;subst d;exact PySem.P.truthy_int ⟨H,I,q⟩
 |str y=>
  let⟨t,rfl⟩:=D;obtain⟨hy,d⟩:y.length<=sizeLine/\k=((y.length:Int) != 0):=e;subst d;exact PySem.P.truthy_str () ⟨H,I.tok _,q⟩
 |byt y=>
  let⟨t,rfl⟩:=D;obtain⟨hy,d⟩:y.size<=sizeLine/\k=((y.size:Int) != 0):=e;subst d;exact W.truthy_bytes () ⟨H,I.tok _,q⟩
 |ref p=>
  cases D;have d:(∃B,SqL X.K H p B/\k=!B.isEmpty)\/(∃B,SqT X.K H p B/\k=!B.isEmpty)\/∃l,H p=some (.dK l)/\k=!l.isEmpty:=e;rcases d with ⟨B,E,d⟩|⟨B,E,d⟩|⟨l,E,d⟩
  .subst d;let⟨its,r,pl,F⟩:=I.list E;have o:=r.length;exact wpAny_truthy_list pl.isList (by simp only[xAp];lia) ⟨H,I.tok _,by rw[gQ r];exact q⟩
  .subst d;let⟨its,r,pl,F⟩:=I.tuple E;have o:=r.length;exact truthy_tuple pl (by simp only[xAp];lia) ⟨H,I.tok _,by rw[gQ r];exact q⟩
  .subst d;obtain⟨F,hS,vs,r,m⟩:l.length<=sizeLine/\(p==sysModules)=false/\∃vs,KV l vs/\s.heap.DictOf (zAj X.prog X.w) p vs:=I.hok p _ E;have o:l.length=vs.length:=Paired.length r;exact wpAny_truthy_dict hS m () ⟨H,I.tok _,by rw[kY r];exact q⟩
 |_=>exact(show False from e).elim
def pT(o:PE X a ta)(m:∀d,isTrue a X.env d=(do let v <- d;standAt a.pos;holding [v] (truthy v))) :
  PT X a (λO H Q=>ta O H λx H'=>∃k,zH7 X.K x H' k/\Q k H'):=by
 intro Z s O H Q I h;exact isTrue_plain (thn (o Z s O H _ I h) λv e ⟨x,H1,I1,r1,l⟩=>we Z e O H1 x v Q I1 r1 l) (m _)
theorem zBa{x:V}{us:D0}(r:zAg [x] us):∃u,us=[u]/\zAh x u:=by
 cases r with
 |cons r1 r2=>cases r2;exact⟨_,rfl,r1⟩
theorem zD3{x:V}{us:D0}(r:zAg [x,y] us):∃u d,us=[u,d]/\zAh x u/\zAh y d:=by
 cases r with
 |cons r1 r2=>
  cases r2 with
  |cons r3 r4=>cases r4;exact⟨_,_,rfl,r1,r3⟩
def sv:zAl X (.builtin "abs") λxs H Q=>∃i,xs=[.int i]/\Q (.int<|if i<0 then -i else i) H:=by
 intro Z s O H xs us Q I r h;let⟨i,rfl,q⟩:=h;let⟨u,rfl,t,rfl⟩:=zBa r;exact call_abs_int λu tk=>⟨.int<|if i<0 then -i else i,H,I.tok _,⟨_,rfl⟩,q⟩
def oS(d:X.calm=true):zAl X (.builtin "max") λxs H Q=>∃i j,xs=[.int i,.int j]/\Q (.int<|if j>i then j else i) H:=by
 intro Z s O H xs us Q I r h;let⟨i,j,rfl,q⟩:=h;let⟨u,e,rfl,⟨t,rfl⟩,⟨t',rfl⟩⟩:=zD3 r;refine max_two_ints (I.ok.hd d) λl tk k=>⟨_,H,I.kept k,?_,q⟩
 by_cases hj:j>i
 .rw[xCg hj,xCg hj];exact⟨_,rfl⟩
 .rw[xCf hj,xCf hj];exact⟨_,rfl⟩
def oR(d:X.calm=true):zAl X (.builtin "min") λxs H Q=>∃i j,xs=[.int i,.int j]/\Q (.int<|if j<i then j else i) H:=by
 intro Z s O H xs us Q I r h;let⟨i,j,rfl,q⟩:=h;let⟨u,e,rfl,⟨t,rfl⟩,⟨t',rfl⟩⟩:=zD3 r;refine min_two_ints (I.ok.hd d) λl tk k=>⟨_,H,I.kept k,?_,q⟩
 by_cases hj:j<i
 .rw[xCg hj,xCg hj];exact⟨_,rfl⟩
 .rw[xCf hj,xCf hj];exact⟨_,rfl⟩
def oW:zAl X (.type "int") λxs H Q=>(∃i,xs=[.int i]/\Q (.int i) H)\/∃k,xs=[.bl k]/\Q (.int<|if k then 1 else 0) H:=by
 intro Z s O H xs us Q I r h;rcases h with ⟨i,rfl,q⟩|⟨k,rfl,q⟩
 .let⟨u,rfl,t,rfl⟩:=zBa r;exact call_int_int ⟨.int i,H,I,⟨_,rfl⟩,q⟩
 .let⟨u,rfl,r1⟩:=zBa r;cases r1;exact call_int_bool ⟨.int<|if k then 1 else 0,H,I.tok _,⟨_,rfl⟩,q⟩
def zJc(K:xFr)(x:V)(H:Hp)(n:Nat):Prop:=
 match x with
 |.str y=>y.length<=sizeLine/\n=y.length
 |.byt y=>y.size<=sizeLine/\n=y.size
 |.ref p=>(∃xs,SqL K H p xs/\n=xs.length)\/∃xs,SqT K H p xs/\n=xs.length
 |_=>False
theorem su:zAl X (.builtin "len") λxs H Q=>∃x n,xs=[x]/\zJc X.K x H n/\Q (.int n) H:=by
 intro Z s O H xs us Q I r h;let⟨x,n,rfl,e,q⟩:=h;let⟨u,rfl,m⟩:=zBa r;have D:=zBz;have B:sizeLine=16777216:=sizeLine_eq;cases x with
 |str y=>
  let⟨t,rfl⟩:=m;obtain⟨hy,l⟩:y.length<=sizeLine/\n=y.length:=e;subst l;exact len_str () ⟨.int _,H,I.tok _,⟨_,rfl⟩,q⟩
 |byt y=>
  let⟨t,rfl⟩:=m;obtain⟨hy,l⟩:y.size<=sizeLine/\n=y.size:=e;subst l;exact W.len_bytes () ⟨.int _,H,I.tok _,⟨_,rfl⟩,q⟩
 |ref p=>
  cases m;have l:(∃xs,SqL X.K H p xs/\n=xs.length)\/∃xs,SqT X.K H p xs/\n=xs.length:=e;rcases l with ⟨xs,o,l⟩|⟨xs,o,l⟩
  .subst l;let⟨its,r',pl,v⟩:=I.list o;have d:=r'.length;exact Calls.call_len_list pl.isList (by simp only[xAp];lia) ⟨.int xs.length,H,I.tok _,⟨_,by simp only[xAp];rw[d]⟩,q⟩
  .subst l;let⟨its,r',pl,v⟩:=I.tuple o;have d:=r'.length;exact len_tuple pl (by simp only[xAp];lia) ⟨.int xs.length,H,I.tok _,⟨_,by simp only[xAp];rw[d]⟩,q⟩
 |_=>exact(show False from e).elim
end
structure zEj(h:Heap)(x dx C:C3)(mA:Str->B8 B9):Prop where
 obj:h.get? x=some (W.instObj C dx)
 ns:h.Ns1 dx mA
 ne:dx≠x
set_option tactic.hygienic true
def oy{mA:Str->B8 B9}(n:h.Ns1 dx mA):∃od,h.get? dx=some od/\∀name,W.lookIn name od=some (mA name):=by
 let⟨o,es,v,d,p,m,_,l⟩:=n;refine⟨o,d,λname=>?_⟩;have e:=l name;unfold nsFind findBy at e;rw[<- Array.find?_toList] at e;unfold W.lookIn;rw[p];dsimp only;split
 .rename_i y q
  rw[q] at e;exact congrArg some e
 .rename_i q
  rw[q] at e;have a:es.toList.any (·.refKey)=false:=by
   rw[List.any_eq_false];intro y c;let⟨z,t,b⟩:=m y<|Array.mem_toList_iff.mp c;simp[DictEntry.refKey,b]
  have r:¬ es.toList.any (·.refKey)=true:=by rw[a];exact xAy
  rw[xCf r];exact congrArg some e
set_option tactic.hygienic false
def zEj.look{x:C3}{mA:Str->B8 B9}(I:zEj h x dx C mA):∃od,PySem.W.InstAt h x (W.instObj C dx) C (some od)/\∀name,W.lookIn name od=some (mA name):=
 let ⟨od,a,b⟩:=oy I.ns
 ⟨od,⟨I.obj,rfl,rfl,a⟩,b⟩
section
variable{prog:Program}{w:World}{A:Around}{E:B9->B'->Prop}{s:B'}{K:xFr}{x dx C f:C3}{mA:Str->B8 B9}{name:Str}{v:B9}
def uR{a:C4}(X:K.In s.heap)(I:zEj s.heap x dx C mA)(m:W.plainGet K C name=true)(l:W.hasDictIn K C=true)(o:W.findIn K (.ref C) name=some none)(d:mA name=some v)(c:W.handedIn v=true)(h:Q v {s with toks:=s.toks+1}) :
  wpAny (model prog w) A (getAttr (.ref x) name a) Q E s:=by
 let⟨od,b,e⟩:=I.look;exact W.get_value X b (W.plainGet_of m).1 (W.findObj_own l o rfl<|by rw[e,d]) c h
def rD{pl:Sem C4}{Q:B9×D0->B'->Prop}(X:K.In s.heap)(I:zEj s.heap x dx C mA)(b:W.plainGet K C name=true)(l:W.findIn K (.ref C) name=some (some<|.ref f))(d:W.isFn K (.ref f)=true)(c:mA name=none)(h:Q (.ref f,[.ref x]) s) :
  wpAny (model prog w) A (getMethod (.ref x) name pl) Q E s:=by
 let⟨od,a,e⟩:=I.look;exact W.method_fn X a (W.plainGet_of b).1 (W.plainGet_of b).2 l (beq_iff_eq.mp d) (by show(W.lookIn name od).map (·.isSome)=some false;rw[e,c];rfl) h
def tD{q:C5}{Q:Unit->B'->Prop}(X:K.In s.heap)(I:zEj s.heap x dx C mA)(F:W.findIn K (.ref C) "__setattr__"=some (some<|.builtin "object.__setattr__"))(G:W.plainOver K C=true)(D:W.takerIn K C name=some none)(J:W.hasDictIn K C=true)(B:PySem.Within mA q)(hsz:q.length<=sizeLine)(h:∀h',zEj h' x dx C (λy=>if y=name then some v else mA y)->Heap.SameBut dx s.heap h'->Q Unit.unit {s with heap:=h',toks:=s.toks+2}) :
  wpAny (model prog w) A (setAttr (.ref x) name v) Q E s:=by
 let⟨od,c,S⟩:=I.look;refine W.set_plain X c F (W.osa_open (s:={s with toks:=s.toks+1}) (r:=none) X c G D λb=>?_);let⟨cd,L,o⟩:=W.any_some J;have t:s.heap.get? x=some ⟨.ref C,some dx,.plain,#[]⟩:=I.obj;refine xAd<|xAe<|xAd<|xAd<|wpAny_loadPart t<|xAd<|PySem.W.Looks.here (s:={s with toks:=s.toks+1}) (W.looks_clsIn X L) ?_;rw[o];erw[<-xAe (a:=some dx)<|xAd<|xAe<|xAd ?_,<-wpAny_nsSet1 (s:={s with toks:=s.toks+1}) I.ns λh' e d=>?_];let⟨R,O,P,l,m,p⟩:=e.count<|PySem.Within.cons name v B;refine xAd<|wpAny_lookBehind l (by rw[m];exact pastItsLine_dict (xCk p<|by rw[xAo];lia)) ?_;exact xAe<|h _ ⟨(d.2 _<|Ne.symm I.ne).trans I.obj,e,I.ne⟩ d
def qT{R:Result->B'->Prop}{vs:D0}(X:K.In s.heap)(b:W.makesIn K C=true)(hi:W.findIn K (.ref C) "__init__"=some (some<|.ref f))(c:W.typeIn K (.ref f)=some (.type "function"))(h:codeAny (model prog w) (A.under<|.builtin "type.__call__" ⟨.ref C::vs,kw⟩) (.call (.ref f) ⟨.ref (s.heap.objs.size+1)::vs,kw⟩) (PySem.W.InitBack (s.heap.objs.size+1) R)
   {s with heap:=(s.heap.push W.emptyDict).push<|W.instObj C s.heap.objs.size}) :
  codeAny (model prog w) A (.call (.ref C) ⟨vs,kw⟩) R s:=by
 let⟨l,g,d,t,e⟩:=s;exact W.make_core (W.makes_of X b) (W.looks_findIn X hi) (λa=>W.bind_fn X a c) (.inl rfl) h
end
noncomputable def putF(f:Str)(v:V):B7 (Str×V)->B7 (Str×V)
 |[]=>[(f,v)]
 |(g,x)::r=>if g=f then(g,v)::r else(g,x)::putF f v r
theorem fN(f g:Str)(v:V):∀fs:B7<|Str×V,(putF f v fs).lookup g=if g=f then some v else fs.lookup g
 |[]=>by
  show List.lookup g [(f,v)]=_;by_cases h:g=f
  .have hb:(g==f)=true:=beq_iff_eq.mpr h;simp only[List.lookup,hb,xCg h]
  .have hb:(g==f)=false:=beq_eq_false_iff_ne.mpr h;simp only[List.lookup,hb,xCf h]
 |(k,x)::r=>by
  have a:=fN f g v r;rw[show putF f v ((k,x)::r)=(if k=f then(k,v)::r else(k,x)::putF f v r) from rfl];by_cases hk:k=f
  .rw[xCg hk];by_cases h:g=k
   .have hb:(g==k)=true:=beq_iff_eq.mpr h;simp only[List.lookup,hb,xCg<|h.trans hk]
   .have hb:(g==k)=false:=beq_eq_false_iff_ne.mpr h;simp only[List.lookup,hb,xCf λe:g=f=>h<|e.trans hk.symm]
  .rw[xCf hk];by_cases h:g=k
   .have hb:(g==k)=true:=beq_iff_eq.mpr h;simp only[List.lookup,hb,xCf λe:g=f=>hk<|h.symm.trans e]
   .have hb:(g==k)=false:=beq_eq_false_iff_ne.mpr h;simp only[List.lookup,hb];exact a
theorem fI(f:Str)(v:V):∀fs:B7<|Str×V,f∈(putF f v fs).map (·.1)/\∀g,g∈fs.map (·.1)->g∈(putF f v fs).map (·.1)
 |[]=>⟨by simp[putF],λg h=>by simp at h⟩
 |(k,x)::r=>by
  let⟨a,i2⟩:=fI f v r;rw[show putF f v ((k,x)::r)=(if k=f then(k,v)::r else(k,x)::putF f v r) from rfl];by_cases hk:k=f
  .rw[xCg hk];subst hk;exact⟨⋯,λg h=>by simpa using h⟩
  .rw[xCf hk];refine⟨?_,λg h=>?_⟩
   .rw[xBs];exact xAs _ a
   .rw[xBs] at h⊢;rcases xAv.mp h with e|e
    .exact xAv.mpr<|.inl e
    .exact xAs _<|i2 g e
theorem fO(f:Str)(v:V):∀fs:B7<|Str×V,(putF f v fs).length<=fs.length+1
 |[]=>by simp[putF]
 |(k,x)::r=>by
  have a:=fO f v r;rw[show putF f v ((k,x)::r)=(if k=f then(k,v)::r else(k,x)::putF f v r) from rfl];by_cases hk:k=f
  .rw[xCg hk,xAo,xAo];lia
  .rw[xCf hk,xAo,xAo];lia
theorem zCe.some_of{v:V}{o:B8 B9}(r:zCe (some v) o):∃u,o=some u/\zAh v u:=by
 cases o with
 |none=>exact(show False from r).elim
 |some u=>exact⟨u,rfl,r⟩
theorem zCe.none_of{o:B8 B9}(r:zCe none o):o=none:=by
 cases o with
 |none=>rfl
 |some u=>exact(show False from r).elim
theorem oH{v:V}{u:B9}(r:zAh v u):W.handedIn u=true:=by
 cases v with
 |non=>cases (show u=Value.none from r);rfl
 |bl b=>cases (show u=Value.bool b from r);rfl
 |int i=>let⟨t,e⟩:=(show ∃t,u=Value.int i t from r);cases e;rfl
 |str x=>let⟨t,e⟩:=(show ∃t,u=Value.str x t from r);cases e;rfl
 |byt b=>let⟨t,e⟩:=(show ∃t,u=Value.bytes b t from r);cases e;rfl
 |flt b=>let⟨t,e⟩:=(show ∃t,u=Value.float b t from r);cases e;rfl
 |ref a=>cases (show u=Value.ref a from r);rfl
 |ty n=>cases (show u=Value.type n from r);rfl
section
variable{P:Program}{w:World}{H H':Hp}{h h':Heap}{a C dx:C3}{fs fs':B7<|Str×V}
def gk(b:HOk P w H h)(e:H a=some (.ins C dx fs)):∃mA,zEj h a dx C mA/\(∀f,zCe (fs.lookup f)<|mA f)/\PySem.Within mA (fs.map (·.1))/\fs.length<=1000/\H dx=some (.own a):=by
 let⟨d,z,ne,c,mA,n,r,q⟩:=(show zAe P w H h a (.ins C dx fs) from b a _ e)
 exact⟨mA,⟨c,n,ne⟩,r,q,z,d⟩
end
structure Cls(K:xFr)(C:C3):Prop where
 pg:W.plainGet K C Str.empty=true
 hd:W.hasDictIn K C=true
 po:W.plainOver K C=true
 sa:W.findIn K (.ref C) "__setattr__"=some (some (.builtin "object.__setattr__"))
def Cls.get(c:Cls K C)(f:Str):W.plainGet K C f=true:=c.pg
def zBt(K:xFr)(C:C3)(f:Str):Prop:=W.findIn K (.ref C) f=some none
def zBt.taker{f:Str}(n:zBt K C f):W.takerIn K C f=some none:=by
 unfold W.takerIn;rw[show W.findIn K (.ref C) f=some none from n];rfl
structure zEk(K:xFr)(C:C3)(m:Str)(f:C3):Prop where
 at_:W.findIn K (.ref C) m=some (some (.ref f))
 fn:W.isFn K (.ref f)=true
 kp:W.keepIn K (.ref f)=true
section
variable{X:Cx}{Z:B7<|C3×Obj}{O:St}{H:Hp}{s:B'}{a C dx:C3}{fs:B7<|Str×V}{f:Str}{v:V}{A:Around}{E:B9->B'->Prop}
def k7{b:C4}(I:Inv X Z O H s)(e:H a=some (.ins C dx fs))(c:Cls X.K C)(n:zBt X.K C f)(l:fs.lookup f=some v)(h:∀u m,Inv X Z O H m->zAh v u->Q u m):wpAny (model X.prog X.w) A (getAttr (.ref a) f b) Q E s:=by
 let⟨mA,d,r,_,_,_⟩:=gk I.hok e;let⟨u,q,p⟩:=zCe.some_of (v:=v) (o:=mA f) (by rw[<- l];exact r f);exact uR I.kIn d (c.get f) c.hd n q (oH p)<|h u _ (I.tok _) p
def gS{m:Str}{g:C3}{pl:Sem C4}{Q:B9×D0->B'->Prop}(I:Inv X Z O H s)(e:H a=some (.ins C dx fs))(c:Cls X.K C)(k:zEk X.K C m g)(l:fs.lookup m=none)(h:Q (.ref g,[.ref a]) s):wpAny (model X.prog X.w) A (getMethod (.ref a) m pl) Q E s:=by
 let⟨mA,b,r,_,_,_⟩:=gk I.hok e;have d:mA m=none:=zCe.none_of (by rw[<- l];exact r m);exact rD I.kIn b (c.get m) k.at_ k.fn d h
def kF{u:B9}{Q:Unit->B'->Prop}(I:Inv X Z O H s)(e:H a=some (.ins C dx fs))(c:Cls X.K C)(n:zBt X.K C f)(R:fs.length<1000)(D:zAh y u)(h:∀p,Inv X Z O (upd H a<|.ins C dx<|putF f y fs) p->Q Unit.unit p):wpAny (model X.prog X.w) A (setAttr (.ref a) f u) Q E s:=by
 let⟨mA,l,r,m,_,t⟩:=gk I.hok e;have F:(fs.map (·.1)).length<=sizeLine:=by rw[xAa,sizeLine_eq];lia
 refine tD I.kIn l c.sa c.po n.taker c.hd m F λL d B=>h _ ?_;have J:∃o,L.get? dx=some o:=let ⟨o,_,_,P,_⟩:=d.ns;⟨o,P⟩;erw[I.write (x:=a) (e:=dx) (by rw[e];exact True.intro) (.inr t) (λb q hb z=>(B.2 b hb).trans z) J,<-⟨by rw[bt l.ne];exact t,?_,l.ne,d.obj,_,d.ns,λg=>?_,λg G=>?_⟩]
 .have:=fO f y fs;lia
 .show zCe ((putF f y fs).lookup g)<|if g=f then some u else mA g;rw[fN];by_cases q:g=f
  .rw[xCg q,xCg q];exact D
  .rw[xCf q,xCf q];exact r g
 .by_cases q:g=f
  .rw[q];exact(fI f y fs).1
  .refine(fI f y fs).2 g (m g λz=>G ?_);show(if g=f then some u else mA g)=none;rw[xCf q];exact z
def Inv.made(I:Inv X Z O H s):Inv X Z O (upd (upd H s.heap.objs.size<|.own<|s.heap.objs.size+1) (s.heap.objs.size+1)<|.ins C s.heap.objs.size [])
  {s with heap:=(s.heap.push W.emptyDict).push<|W.instObj C s.heap.objs.size}:=by
 have c:(s.heap.push W.emptyDict).get? s.heap.objs.size=some W.emptyDict:=xAl s.heap rfl;have p:((s.heap.push W.emptyDict).push<|W.instObj C s.heap.objs.size).get? (s.heap.objs.size+1)=some (W.instObj C s.heap.objs.size):=by
  have:=xAl (s.heap.push W.emptyDict) (o:=W.instObj C s.heap.objs.size) rfl
  rwa[Heap.size_push] at this
 have m:(s.heap.push W.emptyDict).Ns s.heap.objs.size λ_=>none:=⟨W.emptyDict,#[],_,c,rfl,(λe l=>absurd l ⋯),λ_=>rfl⟩
 have I1:=I.laid (a:=s.heap.objs.size) (o:=.own<|s.heap.objs.size+1) (h':=s.heap.push W.emptyDict) (t':=s.toks) (λb u q=>xAf _ q) (xAg _) ⟨_,c⟩;erw[I1.laid (a:=s.heap.objs.size+1) (o:=.ins C s.heap.objs.size []) (t':=s.toks) (λb u q=>xAf _ q) (Nat.le_of_eq<|Heap.size_push _ _)];have ne:s.heap.objs.size≠s.heap.objs.size+1:=xA0<|xCp _;refine⟨by rw[bt ne,bv],xBn _,ne,p,λ_=>none,(Heap.Ns1.of_empty m).at λo q=>xAf _ q,λ_=>True.intro,λy d=>absurd rfl d⟩
def vp{prog:Program}{w:World}{env:Env}{e:C0}{f:Str}(hb:attributeBase e f env (eval e env)=eval e env)(h:wpAny (model prog w) A (eval e env) (λo s₁=>wpAny (model prog w) A (getAttr o f true) Q E s₁) E s):wpAny (model prog w) A (eval (.Attribute e f pos) env) Q E s:=
 Attribute_any_ h (by rw[arm_eval_Attribute,hb])
end
def zJt(K:xFr)(b:TE)(f:Str):TE:=λO H Q=>b O H λx H1=>∃a C dx fs v,x=.ref a/\H1 a=some (.ins C dx fs)/\Cls K C/\zBt K C f/\fs.lookup f=some v/\Q v H1
def zJw(K:xFr)(c b:TE)(f:Str):TS:=λD O H=>b O H λy H1=>c O H1 λx H2=>∃a C dx fs,x=.ref a/\H2 a=some (.ins C dx fs)/\Cls K C/\zBt K C f/\fs.length<1000 /\
 D.nx O (upd H2 a<|.ins C dx<|putF f y fs)
section
variable{X:Cx}{o e value:C0}{f:Str}{pos pos' tpos:Pos}{ta tv:TE}
def xg(p:PE X e ta)(hb:attributeBase e f X.env (eval e X.env)=eval e X.env):PE X (.Attribute e f pos)<|zJt X.K ta f:=by
 intro Z s O H Q I h;refine vp hb (thn (p Z s O H _ I h) λu E b=>?_);let⟨x,H1,I1,d,a,C,dx,fs,v,r,t,c,n,l,q⟩:=b;subst r;obtain rfl:u=Value.ref a:=d;exact k7 I1 t c n l λB D I2 m=>⟨v,H1,I2,m,q⟩
def wL(B:PE X o ta)(t:PE X value tv)(v:swapsWith value (some<|.Attribute o f pos') pos.line X.env=pure false):PS X (.Assign [.Attribute o f pos'] value pos)<|zJw X.K ta tv f:=by
 intro Z s O H D I h;refine plainObj_wpAny_Assign_Attribute (thn (t Z s O H _ I h) λu b ⟨y,H1,I1,d,q⟩=>thn (B Z b O H1 _ I1 q) λr J ⟨x,H2,I2,m,a,C,dx,fs,E,F,c,n,l,p⟩=>?_) v;subst E;obtain rfl:r=Value.ref a:=m;exact kF I2 F c n l d λG I3=>⟨O,_,I3,p⟩
end
section
variable{X:Cx}{Z:B7<|C3×Obj}{O:St}{H:Hp}{s:B'}{A:Around}{E:B9->B'->Prop}{Q:B9->B'->Prop}{c:B9}{b:C4}
inductive zCb(K:xFr)(H:Hp):V->Value->Prop where
 |non:zCb K H .non (.type "NoneType")
 |bl (x:Bool):zCb K H (.bl x) (.type "bool")
 |int (i:Int):zCb K H (.int i) (.type "int")
 |str (x:Str):zCb K H (.str x) (.type "str")
 |flt (x:UInt64):zCb K H (.flt x) (.type "float")
 |lst {a:Addr} {xs:List V} (e:H a=some (.lst xs)):zCb K H (.ref a) (.type "list")
 |frz {a:Addr} {o:Obj} {xs:List V} (e:H a=some (.frz o (.lst xs))):zCb K H (.ref a) (.type "list")
 |tup {a:Addr} {xs:List V} (e:H a=some (.tup xs)):zCb K H (.ref a) (.type "tuple")
 |dK {a:Addr} {kvs:List (Key×V)} (e:H a=some (.dK kvs)):zCb K H (.ref a) (.type "dict")
 |dT {a:Addr} {kvs:List (List Key×V)} (e:H a=some (.dT kvs)):zCb K H (.ref a) (.type "dict")
 |ins {a C dx:Addr} {fs:List (Str×V)} (e:H a=some (.ins C dx fs)) (cl:Cls K C) (ha:W.findIn K (.ref C) "__class__"=some (some (.builtin "object.__class__")))
   (hn:W.specialIn K (.builtin "object.__class__") "__get__"=some (some (.builtin "getset_descriptor.__get__"))) (htk:W.takesIn K (.builtin "object.__class__")=some true)
   (hm:W.mroIn K C (.type "object")=some true):zCb K H (.ref a) (.ref C)
theorem oB{x:V}{u t:B9}(I:Inv X Z O H s)(d:zAh x u)(ty:zCb X.K H x t)(e:W.kitOne X.K t c=some b)(h:∀tk,Q (.bool b) {s with toks:=tk}) :
  wpAny (model X.prog X.w) A (call (.builtin "isinstance") [u,c]) Q E s:=by
 cases ty with
 |non=>cases (show u=Value.none from d);exact W.kia_one W.kitx_none I.kIn True.intro e (λz=>nomatch z) h
 |bl y=>cases (show u=Value.bool y from d);exact W.kia_one W.kitx_bool I.kIn True.intro e (λz=>nomatch z) h
 |int i=>let⟨t,q⟩:=(show ∃t,u=Value.int i t from d);cases q;exact W.kia_one W.kitx_int I.kIn True.intro e (λz=>nomatch z) h
 |str y=>let⟨t,q⟩:=(show ∃t,u=Value.str y t from d);cases q;exact W.kia_one W.kitx_str I.kIn True.intro e (λz=>nomatch z) h
 |flt y=>let⟨t,q⟩:=(show ∃t,u=Value.float y t from d);cases q;exact W.kia_one W.kitx_float I.kIn True.intro e (λz=>nomatch z) h
 |@lst a v l=>
  cases (show u=Value.ref a from d);let⟨_,_,n,_,m⟩:=(show zAe X.prog X.w H s.heap a (.lst v) from I.hok a _ l)
  exact W.kia_one W.kitx_list I.kIn ⟨_,m,rfl⟩ e (λz=>nomatch z) h
 |@frz a L v l=>
  cases (show u=Value.ref a from d);let⟨_,_,_,n,_,m⟩:=(show zAe X.prog X.w H s.heap a (.frz L<|.lst v) from I.hok a _ l)
  exact W.kia_one W.kitx_list I.kIn ⟨_,m,rfl⟩ e (λz=>nomatch z) h
 |@tup a v l=>
  cases (show u=Value.ref a from d);let⟨_,_,_,p⟩:=(show zAe X.prog X.w H s.heap a (.tup v) from I.hok a _ l)
  let⟨o,m,B,_⟩:=p;exact W.kia_one W.kitx_tuple I.kIn ⟨o,m,B⟩ e (λz=>nomatch z) h
 |@dK a r l=>
  cases (show u=Value.ref a from d);let⟨_,_,vs,_,p⟩:=(show zAe X.prog X.w H s.heap a (.dK r) from I.hok a _ l)
  let⟨o,es,T,m,B,_⟩:=p;exact W.kia_one W.kitx_dict I.kIn ⟨o,m,B.1⟩ e (λz=>nomatch z) h
 |@dT a r l=>
  cases (show u=Value.ref a from d);let⟨_,_,v,_,o,es,T,m,B,_⟩:=(show zAe X.prog X.w H s.heap a (.dT r) from I.hok a _ l)
  exact W.kia_one W.kitx_dict I.kIn ⟨o,m,B.1⟩ e (λz=>nomatch z) h
 |@ins a C dx fs l J S P G R=>
  cases (show u=Value.ref a from d);let⟨mA,D,_⟩:=gk I.hok l;let⟨od,F,_⟩:=D.look;exact W.kia_one (W.kitx_own (J.get _) J.hd S P G R) I.kIn F e (λz=>nomatch z) h
end
structure zBe(k:Nat)(A:Around):Prop where
 hd:A.handled=none
 dp:A.depth+3*k+5<recursionLimit
 un:A.units+16*k+200<cLine
 gd:A.guards=some []
def zBe.mono(r:zBe k A)(h:j<=k):zBe j A:=⟨r.hd,by have:=r.dp;lia,by have:=r.un;lia,r.gd⟩
theorem zBe.deeper{k:Nat}{A:Around}(r:zBe (k+1) A)(env:Env):zBe k<|A.deeper env:=
 ⟨r.hd,by have:=r.dp;show A.depth+1+3*k+5<_;lia,by have:=r.un;show A.units+3+16*k+200<_;lia,r.gd⟩
def kX{us:D0}:(A.under<|.builtin "type.__call__" ⟨.ref C::us,kw⟩).depth=A.depth+1:=by
 first|rfl|simp[Around.under,Code.weight,Code.isCreation,Code.isGuard,Code.isCaller,Code.frames,Code.isFrame,guardIds]
def kW{us:D0}:(A.under<|.builtin "type.__call__" ⟨.ref C::us,kw⟩).units=A.units+1:=by
 first|rfl|simp[Around.under,Code.cUnits,Code.frames,Code.isFrame]
def jQ{us:D0}:(A.under<|.builtin "type.__call__" ⟨.ref C::us,kw⟩).guards=A.guards:=by
 first|rfl|simp[Around.under,Code.weight,Code.isCreation,Code.isGuard,Code.isCaller,Code.frames,Code.isFrame,guardIds]
def zBe.make(r:zBe (k+1) A)(C:C3)(us:D0)(kw:B7<|Str×B9):zBe k<|A.under<|.builtin "type.__call__" ⟨.ref C::us,kw⟩:=
 ⟨r.hd,by have:=r.dp;rw[kX];lia,by have:=r.un;rw[kW];lia,jQ.trans r.gd⟩
theorem zBe.depth{k:Nat}{A:Around}(r:zBe k A):A.depth<recursionLimit:=by have:=r.dp;lia
def zGo:TA:=λ_ H Q=>Q [] H
def zFa(c:TE)(b:TA):TA:=λO H Q=>c O H λx H1=>b O H1 λa H2=>Q (x::a) H2
section
variable{X:Cx}{e:C0}{es:B7 C0}{te:TE}{t:TA}{pos:Pos}
def eZ:PA X [] zGo:=λ_ _ _ _ H Q I h=>Calls.spliced_nil ⟨[],H,I,.nil,h⟩
def uh(p:PE X e te)(o:PA X es t)(m:starEach (e::es) X.env=(false,eval e X.env)::starEach es X.env:=by rfl):PA X (e::es)<|zFa te t:=by
 intro pos Z s O H Q I h;rw[m];show wpAny _ _ (spliced<|(false,eval e X.env)::backTo pos (starEach es X.env)) _ _ s;refine Calls.spliced_cons (thn (p Z s O H _ I h) λu c a=>?_);let⟨x,H1,I1,r1,l⟩:=a;exact thn (o pos Z c O H1 _ I1 l) λus q ⟨b,H2,I2,r2,d⟩=>⟨x::b,H2,I2,.cons r1 r2,d⟩
def zJk(t:TA):TE:=λO H Q=>t O H λa H1=>a.length<=sizeLine/\∀p,H1 p=none->Q (.ref p) (upd H1 p<|.tup a)
def zJq(t:TA):TE:=λO H Q=>t O H λa H1=>a.length<=sizeLine/\∀p,H1 p=none->Q (.ref p) (upd H1 p<|.lst a)
def w4{x1}(h:PA X es t):PE X (.Tuple es x1 pos)<|zJk t:=by
 intro Z s O H Q I d;refine wpAny_Tuple_spliced (thn (h pos Z s O H _ I d) λus a ⟨c,H1,I1,r,z,q⟩=>⟨by rw[<- r.length];exact z,?_⟩);have l:H1 a.heap.objs.size=none:=I1.hok.fresh<|xAg _;refine⟨.ref a.heap.objs.size,upd H1 a.heap.objs.size<|.tup c,I1.laid (t':=a.toks) (λb u e=>xAf _ e) (xAg _) ?_,rfl,q _ l⟩;exact⟨z,us,r,⟨_,xAl _ rfl,rfl,_,rfl⟩⟩
def xb(h:PA X es t):PE X (.List es pos)<|zJq t:=by
 intro Z s O H Q I d;refine wpAny_List_spliced (thn (h pos Z s O H _ I d) λus a ⟨c,H1,I1,r,z,q⟩=>⟨by rw[<- r.length];exact z,?_⟩);have l:H1 a.heap.objs.size=none:=I1.hok.fresh<|xAg _;refine⟨.ref a.heap.objs.size,upd H1 a.heap.objs.size<|.lst c,I1.laid (t':=a.toks) (λb u e=>xAf _ e) (xAg _) ?_,rfl,q _ l⟩;exact⟨z,us,0,r,xAl _ rfl⟩
end
noncomputable abbrev Sp:=C9->Hp->VK->XK->Prop
noncomputable abbrev CXT:=B7 Env->Hp->B'->XK->B9->B'->Prop
structure zEl(P:Program)(w:World)(K:xFr)(mg:Str->B8 B9)(base:Heap)(A:Around)(outer:B7 Env)(s:B')(H:Hp):Prop where
 frames:A.frames=some outer
 mod:Mod K mg base
 bs:∀b o,base.get? b=some o->s.heap.get? b=some o/\H b=none
 bsz:base.objs.size<=s.heap.objs.size
 funs:s.heap.FunFrames base outer
 frf:∀b∈frs outer,H b=none
 hok:HOk P w H s.heap
 bare:AllBare s.gens
def CE(outer:B7 Env)(P:Program)(w:World)(H:Hp)(s:B')(Q:VK)(u:B9)(a:B'):Prop:=
 ∃v H',a.os=s.os/\AllBare a.gens/\Un (frs outer) [] H H' s.heap a.heap/\HOk P w H' a.heap/\zAh v u/\Q v H'
def CR(CX:CXT)(outer:B7 Env)(P:Program)(w:World)(H:Hp)(s:B')(Q:VK)(E:XK)(r:Result)(a:B'):Prop:=
 match r with
 |.ok (.ret u)=>CE outer P w H s Q u a
 |.ok _=>False
 |.error e=>CX outer H s E e a
structure zBb(P:Program)(w:World)(K:xFr)(mg:Str->B8 B9)(base:Heap)(CX:CXT)(k:Nat)(f:C3)(fd:FuncData)(ps:C5)(sp:Sp):Prop where
 len:∀vs H Q E,sp vs H Q E->vs.length=ps.length
 run:∀(A:Around)(outer:B7 Env)(s:B')(H:Hp)(args:Args)(us:D0)(vs:C9)(Q:VK)(E:XK),zBe k A->zEl P w K mg base A outer s H->BindsTo s fd args (ps.zip us)->zAg vs us->sp vs H Q E ->
  codeAny (model P w) A (.call (.ref f) args) (CR CX outer P w H s Q E) s
def zBb.imp{P:Program}{w:World}{f:C3}{a:Sp}(F:zBb P w K mg base CX k f fd ps sp)(h:∀vs H Q E,a vs H Q E->sp vs H Q E):zBb P w K mg base CX k f fd ps a:=
 ⟨λvs H Q E q=>F.len vs H Q E<|h _ _ _ _ q,λA outer s H b us vs Q E e l hb c d=>F.run A outer s H b us vs Q E e l hb c<|h _ _ _ _ d⟩
def zEl.make{P:Program}{w:World}(e:zEl P w K mg base A outer s H)(C:C3)(us:D0)(kw:B7<|Str×B9) :
  zEl P w K mg base (A.under<|.builtin "type.__call__" ⟨.ref C::us,kw⟩) outer s H:=⟨by first|exact e.frames|(simpa [Around.under,Code.envs,Code.isFrame,pushEnvs] using e.frames),e.mod,e.bs,e.bsz,e.funs,e.frf,e.hok,e.bare⟩
section
variable{X:Cx}{Z:B7<|C3×Obj}{O:St}{H:Hp}{s s':B'}
def Inv.env0(I:Inv X Z O H s):zEl X.prog X.w X.K X.mg X.base X.A X.stack s H:=
 ⟨I.ok.frames,I.ok.mod,I.bs,xCk I.ok.bsz I.sz,I.stack,I.stkFree,I.hok,I.bare⟩
def Inv.after{Q:VK}{u:B9}(I:Inv X Z O H s)(h:CE X.stack X.prog X.w H s Q u s'):EP X Z O Q u s':=by
 let⟨v,H',l,a,un,e,r,q⟩:=h;let⟨m,g,d,t,c⟩:=s';obtain rfl:c=s.os:=l;exact⟨v,H',I.call (h':=m) (g':=g) (d':=d) (t':=t) (ch:=[]) un e a (λb z=>absurd z ⋯),r,q⟩
end
def zD5(C:C3)(sp:Sp)(a:C9)(E:XK)(t:TA):TE:=λO H Q=>t O H λvs H1=>∀x dx,H1 x=none->H1 dx=none->dx≠x ->
 sp (.ref x::(vs++a)) (upd (upd H1 dx<|.own x) x<|.ins C dx []) (λv H2=>v=.non/\Q (.ref x) H2) E
def zAy(K:xFr)(fd:FuncData)(ps:C5)(a:D0):Prop:=
 ∀(s:B')(us:D0),K.In s.heap->(us++a).length=ps.length->BindsTo s fd ⟨us,[]⟩ (ps.zip<|us++a)
def zAy.all(h:∀us:D0,us.length=ps.length->bindArgs fd ⟨us,[]⟩=pure (ps.zip us)):zAy K fd ps []:=λs us _ a=>by
 rw[xB0] at a⊢;exact .of_eq<|h us a
def zCp(CX:CXT)(X:Cx)(E:XK):Prop:=∀(Z:B7<|C3×Obj)(O:St)(H:Hp)(s:B')(e:B9)(a:B'),Inv X Z O H s->CX X.stack H s E e a->X.xe e a
section
variable{X:Cx}{CX:CXT}{k:Nat}{f C:C3}{fd:FuncData}{ps:C5}{sp:Sp}{dvs:C9}{ds:D0}{E:XK}{x m:Str}{p pos apos:Pos}{e o:C0}{es:B7 C0}{ta:TE}{t:TA}
structure Mk(K:xFr)(C f:C3):Prop where
 makes:W.makesIn K C=true
 init:W.findIn K (.ref C) "__init__"=some (some (.ref f))
 fn:W.isFn K (.ref f)=true
 kp:W.keepIn K (.ref C)=true
theorem jB{O:St}{Q:VK}{us:D0}(M:Mk X.K C f)(F:zBb X.prog X.w X.K X.mg X.base CX k f fd ps sp)(B:zBe (k+1) X.A)(hb:zAy X.K fd ps ds)(G:zAg dvs ds)(q:zCp CX X E)(I:Inv X Z O H s)(r:zAg vs us)(h:∀x dx,H x=none->H dx=none->dx≠x->sp (.ref x::(vs++dvs)) (upd (upd H dx<|.own x) x<|.ins C dx []) (λv H2=>v=.non/\Q (.ref x) H2) E) :
  wpAny (model X.prog X.w) X.A (call (.ref C) us) (EP X Z O Q) X.xe s:=by
 have b:=h (s.heap.objs.size+1) s.heap.objs.size (I.hok.fresh<|Nat.le_succ _) (I.hok.fresh<|xAg _)<|xA0<|xCp _;have I2:=Inv.made (C:=C) I;have r2:zAg (V.ref (s.heap.objs.size+1)::(vs++dvs))<|Value.ref (s.heap.objs.size+1)::(us++ds):=.cons rfl<|r.append G;have D:(Value.ref (s.heap.objs.size+1)::us++ds).length=ps.length:=by
  have e:=r2.length;rw[F.len _ _ _ _ b] at e;exact e.symm
 refine wpAny_call<|qT (f:=f) I.kIn M.makes M.init (beq_iff_eq.mp M.fn)<|codeAny_mono (F.run _ X.stack _ _ ⟨Value.ref (s.heap.objs.size+1)::us,[]⟩ (Value.ref (s.heap.objs.size+1)::(us++ds)) _ _ E (B.make C us [])
  (I2.env0.make C us []) (hb _ (Value.ref (s.heap.objs.size+1)::us) I2.kIn D) r2 b) λr c a=>?_
 cases r with
 |error e=>exact q Z O _ _ e c I2 a
 |ok fl=>
  cases fl with
  |ret u=>
   let⟨v,H',I3,d,J,l⟩:=I2.after a;subst J;exact⟨d,⟨V.ref<|s.heap.objs.size+1,H',I3,rfl,l⟩⟩
  |next=>exact False.elim a
  |brk=>exact False.elim a
  |cont=>exact False.elim a
def ua(M:Mk X.K C f)(F:zBb X.prog X.w X.K X.mg X.base CX k f fd ps sp)(d:zBe (k+1) X.A)(v:Gl X x)(l:X.mg x=some (.ref C))(hb:zAy X.K fd ps ds)(D:zAg dvs ds)(c:zCp CX X E)(G:PA X (e::es) t)(b:(x==("__debug__":Str))=false:=by decide)(B:starEach (e::es) X.env=(false,eval e X.env)::starEach es X.env:=by rfl)(a:(backTo pos<|starEach es X.env).any (·.1)=false:=by rfl) :
  PE X (.Call (.Name x p) (e::es) [] pos) (zD5 C sp dvs E t):=by
 intro Z s O H Q I h;erw[<-wpAny_Call_Name_kw (fj I v l ?_ b),<-W.callWith_K (h₀:=X.base) I.ok.mod.kin M.kp (thn (G pos Z s O H _ I h) λus J ⟨vs,H1,I1,r,q⟩=>⟨I1.kIn,?_⟩) B a,<-jB M F d hb D c I1 r q]
def ql(M:Mk X.K C f)(F:zBb X.prog X.w X.K X.mg X.base CX k f fd ps sp)(c:zBe (k+1) X.A)(l:Gl X x)(d:X.mg x=some (.ref C))(hb:zAy X.K fd ps ds)(q:zAg dvs ds)(b:zCp CX X E)(a:(x==("__debug__":Str))=false:=by decide):PE X (.Call (.Name x p) [] [] pos)<|zD5 C sp dvs E zGo:=by
 intro Z s O H Q I h;refine wpAny_Call_Name_kw (fj I l d ?_ a);exact W.callWith_K0 I.kIn M.kp (jB (us:=[]) M F c hb q b I .nil h)
end
structure zBj(N P:C5)(sc:Scope):Prop where
 kind:sc.kind=.function
 co:sc.isCoroutine=false
 gen:sc.isGenerator=false
 nd:N.Nodup
 pre:N.take P.length=P
 par:∀x∈P,sc.names.lookup x=some .local\/sc.names.lookup x=some .cell
 nofree:∀y∈sc.names,y.2≠.free
theorem ip{kindOf:Str->B8 NameKind}{x:Str}:∀{binds:B7<|Str×B9}{m:Str->B8 B9},(∀v,(x,v)∉binds)->bindL kindOf binds m x=m x
 |[],_,_=>rfl
 |(n,v)::r,m,h=>by
  unfold bindL;rw[ip λw a=>h w<|xAs _ a];split
  .have:x≠n:=by rintro rfl;exact h v xAr
   simp[this]
  .rfl
theorem ir{kindOf:Str->B8 NameKind}{x:Str}:∀{binds:B7<|Str×B9}{m:Str->B8 B9},(∀v,(x,v)∉binds)->bindC kindOf binds m x=m x
 |[],_,_=>rfl
 |(n,v)::r,m,h=>by
  unfold bindC;rw[ir λw a=>h w<|xAs _ a];split
  .rfl
  .have:x≠n:=by rintro rfl;exact h v xAr
   simp[this]
theorem iq{kindOf:Str->B8 NameKind}{x:Str}{v:B9}:∀{P:C5}{vs:D0}{i:Nat}{m:Str->B8 B9},P.Nodup->P[i]?=some x->vs[i]?=some v->kindOf x=some .local ->
  bindL kindOf (P.zip vs) m x=some v
 |[],_,_,_,_,h,_,_=>by simp at h
 |_::_,[],_,_,_,_,h,_=>by simp at h
 |p::P,w::vs,0,m,c,b,a,d=>by
  simp at b a;subst b;subst a;show bindL kindOf ((p,w)::P.zip vs) m p=_;unfold bindL;rw[ip λv e=>(xCb.mp c).1 (List.of_mem_zip e).1,xCg d];simp
 |p::P,w::vs,i+1,m,c,b,a,d=>by
  show bindL kindOf ((p,w)::P.zip vs) m x=_;unfold bindL;exact iq (i:=i) (xCb.mp c).2 (by simpa using b) (by simpa using a) d
theorem iu{kindOf:Str->B8 NameKind}{x:Str}{v:B9}:∀{P:C5}{vs:D0}{i:Nat}{m:Str->B8 B9},P.Nodup->P[i]?=some x->vs[i]?=some v->kindOf x≠some .local ->
  bindC kindOf (P.zip vs) m x=some v
 |[],_,_,_,_,h,_,_=>by simp at h
 |_::_,[],_,_,_,_,h,_=>by simp at h
 |p::P,w::vs,0,m,c,b,a,d=>by
  simp at b a;subst b;subst a;show bindC kindOf ((p,w)::P.zip vs) m p=_;unfold bindC;rw[ir λv e=>(xCb.mp c).1 (List.of_mem_zip e).1,xCf d];simp
 |p::P,w::vs,i+1,m,c,b,a,d=>by
  show bindC kindOf ((p,w)::P.zip vs) m x=_;unfold bindC;exact iu (i:=i) (xCb.mp c).2 (by simpa using b) (by simpa using a) d
noncomputable def start(N:C5)(vs:C9):St:=vs.map some++List.replicate (N.length-vs.length) none
noncomputable def zEe(CX:CXT)(P:Program)(w:World)(K:xFr)(mg:Str->B8 B9)(base:Heap)(N:C5)(qual:Str)(scope:Scope)(f:C3)(cd:B9)(A:Around)(outer:B7 Env)(s:B')(H:Hp)(E:XK):Cx where
 prog:=P
 w:=w
 K:=K
 mg:=mg
 base:=base
 A:=A.deeper<|envOfC qual scope s.heap.objs.size f cd
 N:=N
 s₀:=s
 H₀:=H
 env:=envOfC qual scope s.heap.objs.size f cd
 outer:=outer
 stack:=envOfC qual scope s.heap.objs.size f cd::outer
 ex:=[]
 calm:=true
 fn:=λ_=>true
 pn:=[]
 xe:=λe a=>wpAny (model P w) (A.deeper<|envOfC qual scope s.heap.objs.size f cd) (leaving (envOfC qual scope s.heap.objs.size f cd) e) (λ_ s''=>CX outer H s E e s'') (λb s''=>CX outer H s E b s'') a
def gW{sc:Scope}{x:Str}(h:sc.names.lookup x=some .cell):∃c,(cellsFrom n sc.names []).lookup x=some c:=by
 have q:=W.cellsFrom_some sc.names n []<|.inl h;exact Option.isSome_iff_exists.mp q
def oC{P:Program}{w:World}{f:C3}{cd:B9}{D:B'}{E:XK}{us:D0}(S:zBj N ps scope)(L:A.handled=none)(l:zEl P w K mg base A outer s H)(R:vs.length=ps.length)(r:zAg vs us)(x:InCallC s s.heap.objs.size (bindL (envOfC qual scope s.heap.objs.size f cd).kindOf (ps.zip us) λ_=>none) (cellsFrom (s.heap.objs.size+1) scope.names []) (bindC (envOfC qual scope s.heap.objs.size f cd).kindOf (ps.zip us) λ_=>none) D) :
  Inv (zEe CX P w K mg base N qual scope f cd A outer s H E) [] (start N vs) H D:=by
 have J:ps.length<=N.length:=by have:=congrArg List.length S.pre;rw[List.length_take] at this;lia
 let⟨B,tk,rfl,G⟩:=x.done;have noA:∀b:C3,b ∉ (zEe CX P w K mg base N qual scope f cd A outer s H E).ex:=λb z=>absurd (show b∈([]:B7 C3) from z) ⋯;refine⟨⟨l.mod,S.kind,rfl,rfl,xAg _,λy z c B d=>?_,λy hy=>?_,λy c _ h=>?_,λ_=>L,Around.frames_deeper l.frames,.inr ⟨rfl,rfl⟩,λb z=>absurd z<|noA b,l.bs,l.bsz,λb _ _=>noA b,λb z=>absurd z<|noA b,l.funs,l.frf⟩,
  rfl,l.bare,Un.kept G,⟨_,x.toInCall.ns,λi y v B d T=>?_⟩,λy c h=>⟨_,x.cell y c h⟩,l.hok.fresh<|xAg _,λy c h=>?_,λp o=>absurd (show p∈([]:B7<|C3×Obj) from o) ⋯,l.hok.kept G,?_⟩
 .exact name_of_addr x.apart (PySem.mem_of_lookup B)<|PySem.mem_of_lookup d
 .have hy:scope.names.lookup y=some .cell\/scope.names.lookup y=some .free:=hy;rcases hy with hy|hy
  .exact gW hy
  .exact absurd rfl<|S.nofree _<|PySem.mem_of_lookup hy
 .exact Nat.le_of_lt<|x.above y c<|PySem.mem_of_lookup h
 .have t:i<vs.length:=by
   unfold start at d;by_cases t:i<vs.length
   .exact t
   .rw[xCl<|by simpa using t] at d;rw[List.getElem?_replicate] at d;split at d <;> cases d
  have O:vs[i]?=some v:=by
   unfold start at d;rw[List.getElem?_append_left (by simpa using t),xAw] at d;cases e:vs[i]? with
   |none=>rw[e] at d;cases d
   |some a=>rw[e] at d;cases d;rfl
  let⟨u,F,I⟩:=r.get O;have o:ps[i]?=some y:=by
   rw[<- S.pre,List.getElem?_take_of_lt ()];exact B
  have m:ps.Nodup:=by rw[<- S.pre];exact S.nd.sublist<|List.take_sublist _ _
  refine⟨u,I,?_⟩;rcases S.par y (xAc o) with k|k
  .exact .inl ⟨k,iq m o F k⟩
  .let⟨c,e⟩:=gW (n:=s.heap.objs.size+1) k;refine .inr ⟨.inl k,c,e,?_⟩;have q:=x.cell y c e;rw[iu m o F<|by show scope.names.lookup y≠_;rw[k];decide] at q;exact q
 .exact l.hok.fresh<|Nat.le_of_lt<|x.above y c<|PySem.mem_of_lookup h
 .unfold start;show _=N.length;rw[xAb,xAa,xCu];lia
theorem AB{P:Program}{w:World}{f:C3}{name:Str}{params:Arguments}{d:B7 Stmt}{dV kV F pm c ct oc:B9}{an od:B8 C3}{L:Array<|B8 B9}(lk:K.lookup f=some ⟨oc,od,.func<|W.fnOf name qual params d scope dV kV F pm an c ct,L⟩)(T:W.codeIn K c qual=true)(S:zBj N ps scope)(len:∀vs H Q E,sp vs H Q E->vs.length=ps.length)(m:∀(A:Around)(outer:B7 Env)(s:B')(H:Hp)(vs:C9)(Q:VK)(E:XK),zBe k (A.deeper<|envOfC qual scope s.heap.objs.size f c)->sp vs H Q E ->
   ∃t,PSs (zEe CX P w K mg base N qual scope f c A outer s H E) d t/\t {nx:=λ_ H'=>Q .non H',rt:=Q} (start N vs) H) :
  zBb P w K mg base CX (k+1) f (W.fnOf name qual params d scope dV kV F pm an c ct) ps sp:=by
 refine⟨len,λA outer s H args us vs Q E R D hb r B=>?_⟩;have hl:=len _ _ _ _ B;have KX:K.In s.heap:=D.mod.kin.keeps λb o e=>(D.bs b o e).1;have O:s.heap.NoLimit:=D.mod.nolimit.keeps λb o e=>(D.bs b o e).1;have l:∀y∈ps.zip us,scope.names.lookup y.1=some .local\/(scope.names.lookup y.1=some .cell/\((cellsFrom (s.heap.objs.size+1) scope.names []).lookup y.1).isSome=true):=λ⟨n,v⟩ hy=>by
  rcases S.par n (List.of_mem_zip hy).1 with q|q
  .exact .inl q
  .exact .inr ⟨q,W.cellsFrom_some _ _ _<|.inl q⟩
 erw[<-codeAny_call_function R.depth (KX _ _ lk) rfl S.co S.gen rfl (W.codeRec_of KX T)<|hb _ _ _ _ ?_,<-wpAny_newFunctionEnv_cells S.kind l λenv he Y x=>?_];subst he;refine⟨O.keeps x.toInCall.keep,codeAny_func ?_⟩;let⟨t,ht,hq⟩:=m A outer s H vs Q E (R.deeper _) B;have I:Inv (zEe CX P w K mg base N qual scope f c A outer s H E) [] (start N vs) H Y:=oC S R.hd D hl r x;refine wpAny_mono (ht [] Y (start N vs) H _ I hq) (λfl G p=>?_) λe G p=>p;have fin:∀{O':St}{H':Hp}{v:V}{u:B9},Inv (zEe CX P w K mg base N qual scope f c A outer s H E) [] O' H' G->zAh v u->Q v H'->CE outer P w H s Q u G:=
  λ{O' H' v u} a J q=>⟨v,H',a.os,a.bare,a.base,a.hok,J,q⟩
 cases fl with
 |ret u=>
  let⟨v,O',H',a,J,q⟩:=p;exact fin a J q
 |next=>
  let⟨O',H',a,q⟩:=p;exact fin (v:=V.non) (u:=Value.none) a rfl q
 |brk=>
  let⟨_,_,_,q⟩:=p;exact False.elim q
 |cont=>
  let⟨_,_,_,q⟩:=p;exact False.elim q
section
variable{X:Cx}{x:Str}{p pos:Pos}{e:C0}{es:B7 C0}{t:TA}{id T:String}{r:C9->Hp->VK->Prop}
def tCB(r:C9->Hp->VK->Prop)(t:TA):TE:=λO H Q=>t O H λvs H1=>r vs H1 Q
def qv(B:zAl X (.builtin id) r)(q:Gl X x)(o:X.mg x=none)(l:bootBuiltins x=some (.builtin id))(D:PA X (e::es) t)(m:x≠"__name__":=by decide)(b:(x==("__debug__":Str))=false:=by decide)(v:starEach (e::es) X.env=(false,eval e X.env)::starEach es X.env:=by rfl)(a:(backTo pos<|starEach es X.env).any (·.1)=false:=by rfl):PE X (.Call (.Name x p) (e::es) [] pos)<|tCB r t:=by
 intro Z s O H Q I h;refine wpAny_Call_Name_kw (fG I q o l ?_ m b);exact PyProof.Rows.callWith_builtin1 (thn (D pos Z s O H _ I h) λus c ⟨vs,H1,I1,r1,d⟩=>B Z c O H1 vs us Q I1 r1 d) v a
def oh(B:zAl X (.type T) r)(q:Gl X x)(o:X.mg x=none)(l:bootBuiltins x=some (.type T))(D:PA X (e::es) t)(m:x≠"__name__":=by decide)(b:(x==("__debug__":Str))=false:=by decide)(v:starEach (e::es) X.env=(false,eval e X.env)::starEach es X.env:=by rfl)(a:(backTo pos<|starEach es X.env).any (·.1)=false:=by rfl):PE X (.Call (.Name x p) (e::es) [] pos)<|tCB r t:=by
 intro Z s O H Q I h;refine wpAny_Call_Name_kw (fG I q o l ?_ m b);exact PyProof.Rows.callWith_type1 (thn (D pos Z s O H _ I h) λus c ⟨vs,H1,I1,r1,d⟩=>B Z c O H1 vs us Q I1 r1 d) v a
end
end L2
namespace HT
open PySem PyProof.Rows
variable{t sl:C3}{Q:B9->B'->Prop}{vl vu:B9}{lo hi:B8 Int}
section
open PySem.SeqAt
open PySem.AutoSeq1 (wpAny_loadPart')
open PySem.MeetsSeq PySem.MeetsSeq2 PySem.MeetsSeq3
end
section
variable{prog:Program}{w:World}{A:Around}{E:B9->B'->Prop}{s:B'}
def cat_tup{b:C3}{vs ws:D0}(k:IsTup s.heap t vs.toArray)(hb:IsTup s.heap b ws.toArray)(h:vs≠[])(m:ws=[]->Q (.ref t) s)(l:ws≠[]->Q (.ref s.heap.objs.size) {s with heap:=s.heap.push {cls:=.type "tuple",data:=.seq (vs++ws).toArray} })(hsz:vs.length+ws.length<=sizeLine):wpAny (model prog w) A (binaryOp .Add (.ref t)<|.ref b) Q E s:=by
 let⟨⟨cls,i,data,sl⟩,ho,hc,n,hd⟩:=id k;let⟨⟨j,c,d,a⟩,ho2,hc2,n2,hd2⟩:=id hb;simp only at hc hd hc2 hd2;subst hc hd hc2 hd2;have e:vs.toArray++ws.toArray=(vs++ws).toArray:=by simp
 by_cases hw:ws=[]
 .exact concat_meets ⟨_,ho,rfl⟩ ⟨_,ho2,rfl⟩ noFill_tuple_add seq_tuple_add PySem.F.slot_tuple_add PySem.F.entry_tuple_add (PySem.F.args_tuple_add_2 _ _)
   (tuple_addW1 t b vs.toArray ws.toArray n n2 i c sl a (by simpa using h)<|by simp[hw]) ⟨ho,ho2,m hw⟩
 .refine concat_meets ⟨_,ho,rfl⟩ ⟨_,ho2,rfl⟩ noFill_tuple_add seq_tuple_add PySem.F.slot_tuple_add PySem.F.entry_tuple_add (PySem.F.args_tuple_add_2 _ _)
   (tuple_addW2 t b vs.toArray ws.toArray n n2 i c sl a (by simpa using h) (by simpa using hw)<|by rw[xAp,xAp];exact hsz) ⟨ho,ho2,?_⟩
  rw[e];exact l hw
noncomputable def sIx(n d:Nat):B8 Int->Nat
 |none=>d
 |some v=>if v<0 then(v+(n:Int)).toNat else min v.toNat n
def sIx_none(n d:Nat):sIx n d none=d:=rfl
def sIx_nat(n d k:Nat):sIx n d (some (k:Int))=min k n:=by
 show(if(k:Int)<0 then((k:Int)+(n:Int)).toNat else min (k:Int).toNat n)=min k n;rw[xCf (),xC3]
theorem pM(n d:Nat)(a:d<=n)(o:B8 Int):sIx n d o<=n:=by
 cases o with
 |none=>exact a
 |some v=>
  show(if v<0 then(v+(n:Int)).toNat else min v.toNat n)<=n;by_cases hv:v<0
  .rw[xCg hv];lia
  .rw[xCf hv];exact Nat.min_le_right _ _
def nE(v:Int)(n d:Nat):(if v<0 then max (v+(n:Int)) 0 else min v (n:Int))=((sIx n d<|some v:Nat):Int):=by
 show(if v<0 then max (v+(n:Int)) 0 else min v (n:Int))=(((if v<0 then(v+(n:Int)).toNat else min v.toNat n):Nat):Int);by_cases hv:v<0
 .simp only[xCg hv];lia
 .simp only[xCf hv];lia
def lH(lo hi:B8 Int)(n:Nat):Builtin.Slice.sliceAdjust lo hi 1 (n:Int)=(((sIx n 0 lo:Nat):Int),((sIx n n hi:Nat):Int)):=by
 have a:¬ ((1:Int)<0):=()
 unfold Builtin.Slice.sliceAdjust;simp only[a,if_false];refine Prod.ext ?_ ?_
 .cases lo with
  |none=>rfl
  |some v=>exact nE v n 0
 .cases hi with
  |none=>rfl
  |some v=>exact nE v n n
def kM(i j:Nat):Builtin.Slice.slicePlaces (i:Int) (j:Int) 1=j-i:=by
 unfold Builtin.Slice.slicePlaces;have a:(1:Int)>0:=by lia
 simp only[a,if_true,Int.ediv_one];split <;> lia
theorem gz{v:B9}{o:B8 Int}{Q:B8 Int->B'->Prop}(p:IsPart v o)(h:Q o s):wpAny (model prog w) A (Builtin.Slice.slicePartIndex v) Q E s:=by
 cases p with
 |none=>exact slicePart_none h
 |int i t=>exact slicePart_int h
def dG{n:Nat}{Q:Int×Int×Nat->B'->Prop}(d:s.heap.IsSliceOf sl vl vu .none)(pl:IsPart vl lo)(c:IsPart vu hi)(h:Q (((sIx n 0 lo:Nat):Int),1,sIx n n hi-sIx n 0 lo) s):wpAny (model prog w) A (Builtin.Slice.sliceApplied (.ref sl)<|pure (n:Int)) Q E s:=by
 let⟨i,a,e,b⟩:=id d;unfold Builtin.Slice.sliceApplied Builtin.Slice.sliceFields;erw[<-xAd<|xAd<|xDa a b (x:=vl) rfl<|xAd<|xDa a b (x:=vu) rfl<|xAd<|xDa a b (x:=.none) rfl<|xAe ?_,<-xAd<|slicePart_none ?_];show wpAny _ _ (if((1:Int)==0)=true then _ else _) _ _ s;rw[xCf ∅];refine xAd<|gz pl<|xAd<|gz c<|xAd<|xAe ?_;show wpAny _ _ (match Builtin.Slice.sliceAdjust lo hi 1 (n:Int) with|(lo,hi)=>pure (lo,(1:Int),Builtin.Slice.slicePlaces lo hi 1)) _ _ s;rw[lH lo hi n];show wpAny _ _ (pure (((sIx n 0 lo:Nat):Int),(1:Int),Builtin.Slice.slicePlaces ((sIx n 0 lo:Nat):Int) ((sIx n n hi:Nat):Int) 1)) _ _ s;rw[kM];exact xAe h
def qf(xs:Array B9)(i k:Nat):((List.range k).filterMap λ(m:Nat)=>xs[((i:Int)+(m:Int)*1).toNat]?).toArray=((xs.toList.drop i).take k).toArray:=by
 have e:(λ(m:Nat)=>xs[((i:Int)+(m:Int)*1).toNat]?)=λm=>xs[i+m]?:=by
  funext m
  have:((i:Int)+(m:Int)*1).toNat=i+m:=()
  rw[this]
 rw[e];have:=pick_run xs i k;rw[List.filterMap_map] at this;have a:((λx=>xs[x]?) ∘ λx=>i+x)=λm=>xs[i+m]?:=rfl;rw[a] at this;rw[this]
def getItem_tuple_cut{items:Array B9}(b:IsTup s.heap t items)(j:s.heap.IsSliceOf sl vl vu .none)(pl:IsPart vl lo)(k:IsPart vu hi)(n:¬ (sIx items.size 0 lo=0/\sIx items.size items.size hi=items.size))(h:Q (.ref s.heap.objs.size) {s with heap:=s.heap.push {cls:=.type "tuple",data:=.seq ((items.toList.drop<|sIx items.size 0 lo).take<|sIx items.size items.size hi-sIx items.size 0 lo).toArray} })(hsz:items.size<=sizeLine):wpAny (model prog w) A (getItem (.ref t)<|.ref sl) Q E s:=by
 have a:sizeOk<|.seq ((items.toList.drop<|sIx items.size 0 lo).take<|sIx items.size items.size hi-sIx items.size 0 lo).toArray:=by
  show((items.toList.drop<|sIx items.size 0 lo).take<|sIx items.size items.size hi-sIx items.size 0 lo).toArray.size<=sizeLine;rw[xAp,List.length_take,List.length_drop,xAh];omega
 have v:sIx items.size items.size hi<=items.size:=pM _ _ (xAg _) hi;let⟨l,c,e,o⟩:=id j;have i:s.TypeIs (.ref sl) "slice":=⟨l,c,e⟩
 unfold getItem;try with_reducible refine xDc ?_
 first|refine xAd (xAe ?_)|skip
 refine xAd<|wpAny_sequenceKey b.typeIs ∅ ?_;refine xAd (wpAny_callSpecial?_slot (name:=Str.ofString "__getitem__") b.typeIs PyProof.Rows.slot_tuple_getitem
  (wpAny_call_entry PyProof.Rows.slot_tuple_getitem b.typeIs entry_tuple_getitem ?_<|args_tuple_getitem _ _))
 show wpAny _ _ (Builtin.Tuple.tupleItemsOf (.ref t)>>=_) _ _ s;erw[<-xAd<|tupleItemsOf_ b ?_,<-xAd<|wpAny_typeOf i ?_];rw[xCg ∅];refine xAd<|dG j pl k ?_;have d:¬ ((((sIx items.size 0 lo:Nat):Int)==0&&(1:Int)==1&&(sIx items.size items.size hi-sIx items.size 0 lo)==items.size)=true):=by
  intro q;rw[xCh,xCh] at q;have r:((sIx items.size 0 lo:Nat):Int)=0:=eq_of_beq q.1.1;have p:sIx items.size items.size hi-sIx items.size 0 lo=items.size:=eq_of_beq q.2;exact n ⟨by omega,by omega⟩
 show wpAny _ _ (if(((sIx items.size 0 lo:Nat):Int)==0&&(1:Int)==1&&(sIx items.size items.size hi-sIx items.size 0 lo)==items.size)=true then _ else _) _ _ s;rw[xCf d,qf];first
  |exact xAd (m:=Builtin.Tuple.tupleExact _) (xBl (xAe ⟨_,rfl,xAe h⟩) a)
  |exact xAd (m:=Builtin.Tuple.tupleExact _) (xBl (xAd<|xAe<|xAe ⟨_,rfl,xAe h⟩) a)
  |exact xAd (xAd (m:=Builtin.Tuple.tupleExact _)<|xBl (xAe<|xAe ⟨_,rfl,xAe h⟩) a)
  |exact xAd (xAd (m:=Builtin.Tuple.tupleExact _)<|xBl (xAe ⟨_,rfl,xAe h⟩) a)
end
end HT
namespace L2
open PySem PySem.Spec PyProof.Rows
variable{xs:C9}{n j t':Nat}{i:Int}{J:Type}{Z:B7<|C3×Obj}{O:St}{H H':Hp}{s:B'}{its':D0}{y x:V}{P:Program}{kvs:B7<|Key×V}{Q:B9->B'->Prop}{h':Heap}{X:Cx}{pos:Pos}{trs:B7<|TE×TE}
noncomputable abbrev TO:=St->Hp->(B8 Int->Hp->Prop)->Prop
def PO(X:Cx)(e:B8 C0)(t:TO):Prop:=
 ∀(Z:B7<|C3×Obj)(s:B')(O:St)(H:Hp)(Q:B8 Int->Hp->Prop),Inv X Z O H s->t O H Q ->
  wpAny (model X.prog X.w) X.A (evalPart e X.env) (λu a=>∃o H',Inv X Z O H' a/\IsPart u o/\Q o H') X.xe s
def zD4:TO:=λ_ H Q=>Q none H
def zG2(t:TE):TO:=λO H Q=>t O H λx H1=>∃i,x=.int i/\Q (some i) H1
theorem dR{a:C8}:∀{us:D0},zAg (a.map V.int) us->IntsAre us a:=by
 induction a with
 |nil=>intro us r;rw[List.map_nil] at r;cases r;exact .nil
 |cons n a ih=>
  intro us r;rw[xBs] at r;cases r with
  |cons r1 r2=>
   let⟨t,e⟩:=r1;subst e;exact .cons n t<|ih r2
section
variable{X:Cx}{e:C0}{te:TE}{lo hi:B8 C0}{tl th:TO}{pos p2:Pos}
def l8:PO X none zD4:=by
 intro Z s O H Q I h;rw[evalPart_none];exact xAe ⟨none,H,I,.none,h⟩
def lZ(h:PE X e te):PO X (some e)<|zG2 te:=by
 intro Z s O H Q I c;rw[evalPart_some];refine thn (h Z s O H _ I c) λu d a=>?_;let⟨x,H1,I1,r1,b⟩:=a;let⟨i,rfl,q⟩:=b;let⟨t,rfl⟩:=r1;exact⟨some i,H1,I1,.int i t,q⟩
def SlR(X:Cx)(r:V->B8 Int->B8 Int->Hp->VK->Prop):Prop:=
 ∀(Z:B7<|C3×Obj)(s:B')(O:St)(H:Hp)(x:V)(v b a:B9)(lo hi:B8 Int)(c:C3)(Q:VK),Inv X Z O H s->zAh x v->s.heap.IsSliceOf c b a .none->IsPart b lo->IsPart a hi->r x lo hi H Q ->
  ∃T id,typeLookup (.type T) "__getitem__"=pure (some<|.builtin id)/\s.TypeIs v T/\wpAny (model X.prog X.w) X.A (getItem v<|.ref c) (EP X Z O Q) X.xe s
def tSl(r:V->B8 Int->B8 Int->Hp->VK->Prop)(te:TE)(tl th:TO):TE:=λO H Q=>te O H λx H1=>tl O H1 λl H2=>th O H2 λu H3=>r x l u H3 Q
def jF{r:V->B8 Int->B8 Int->Hp->VK->Prop}(F:SlR X r)(L:PE X e te)(G:PO X lo tl)(D:PO X hi th):PE X (.Subscript e (.Slice lo hi none p2) pos)<|tSl r te tl th:=by
 intro Z s O H Q I h;refine Subscript_ (thn (L Z s O H _ I h) λv o k=>?_);let⟨x,H1,I1,r1,B⟩:=k;refine wpAny_Slice (thn (G Z o O H1 _ I1 B) λd m ⟨l,H2,I2,pl,t⟩=>thn (D Z m O H2 _ I2 t) λc a k=>?_);let⟨u,H3,I3,C,p⟩:=k;rw[evalPart_none];erw[xAe];have I4:Inv X Z O H3 {a with heap:=a.heap.push {cls:=.type "slice",data:=.fields #[d,c,.none]} }:=I3.kept (t':=a.toks) λb N q=>xAf _ q;let⟨T,id,M,E,K⟩:=F Z {a with heap:=a.heap.push {cls:=.type "slice",data:=.fields #[d,c,.none]} } O H3 x v d c l u a.heap.objs.size Q I4 r1 (Heap.IsSliceOf.new ..) pl C p;show wpAny (model X.prog X.w) X.A (subscriptTail e (.Slice lo hi none p2) v<|.ref a.heap.objs.size) (EP X Z O Q) X.xe {a with heap:=a.heap.push {cls:=.type "slice",data:=.fields #[d,c,.none]} };exact tail_any (ops:=[.ref a.heap.objs.size,v]) E M K (by with_unfolding_all rfl)
def zDx(xs:C9)(lo hi:B8 Int):C9:=(xs.drop<|HT.sIx xs.length 0 lo).take<|HT.sIx xs.length xs.length hi-HT.sIx xs.length 0 lo
def fR(xs:C9)(lo hi:B8 Int):(zDx xs lo hi).length<=xs.length:=by
 unfold zDx;rw[List.length_take,List.length_drop];lia
def zIj(K:xFr):V->B8 Int->B8 Int->Hp->VK->Prop:=λx lo hi H Q=>∃a xs,x=.ref a/\SqT K H a xs /\
 ¬ (HT.sIx xs.length 0 lo=0/\HT.sIx xs.length xs.length hi=xs.length)/\∀p,H p=none->Q (.ref p) (upd H p<|.tup<|zDx xs lo hi)
def pI:SlR X<|zIj X.K:=by
 intro Z s O H x v C B lo hi D Q I l A pl m h;let⟨a,xs,rfl,p,t,q⟩:=h;cases l;let⟨its,r,k,d⟩:=I.tuple p;have c:its.toArray.size=xs.length:=by rw[xAp];exact r.length.symm
 erw[<-⟨"tuple",_,PyProof.Rows.slot_tuple_getitem.lookup,k.typeIs,?_⟩,<-HT.getItem_tuple_cut k A pl m (by rw[c];exact t) ?_ (by rw[c];exact d)];rw[c];refine⟨.ref s.heap.objs.size,_,I.laid (t':=s.toks) (o:=.tup<|zDx xs lo hi) (λb E q=>xAf _ q) (xAg _) ?_,rfl,q _<|I.hok.fresh<|xAg _⟩;exact⟨xCk (fR xs lo hi) d,_,(r.drop<|HT.sIx xs.length 0 lo).take<|HT.sIx xs.length xs.length hi-HT.sIx xs.length 0 lo,IsTup.new _ _⟩
def zHh(K:xFr):R2:=λx y H Q=>∃a b xs c,x=.ref a/\y=.ref b/\SqT K H a xs/\SqT K H b c/\xs≠[]/\xs.length+c.length<=sizeLine /\
 (c=[]->Q (.ref a) H)/\(c≠[]->∀p,H p=none->Q (.ref p) (upd H p<|.tup<|xs++c))
theorem zAg.nil_iff{us:D0}(r:zAg xs us):us=[]↔xs=[]:=by
 cases r with
 |nil=>simp
 |cons _ _=>simp
def uw:OpR X (binaryOp .Add)<|zHh X.K:=by
 intro Z s O H x y v u Q I m l h;let⟨a,b,xs,k,rfl,rfl,A,hb,t,d,r,p⟩:=h;cases m;cases l;let⟨its,r1,p1,_⟩:=I.tuple A;let⟨c,r2,p2,_⟩:=I.tuple hb;erw[<-HT.cat_tup p1 p2 (λz=>t<|r1.nil_iff.mp z) (λz=>⟨.ref a,H,I,rfl,r<|r2.nil_iff.mp z⟩) (λz=>?_) (by rw[<- r1.length,<- r2.length];exact d),<-⟨.ref s.heap.objs.size,_,I.laid (t':=s.toks) (o:=.tup<|xs++k) (λb B q=>xAf _ q) (xAg _) ?_,rfl,p (λw=>z<|r2.nil_iff.mpr w) _<|I.hok.fresh<|xAg _⟩];exact⟨by rw[xAb];exact d,_,r1.append r2,IsTup.new _ _⟩
end
noncomputable def ixN(n:Nat)(i:Int):B8 Nat:=if 0<=i then(if i<n then some i.toNat else none) else if -(n:Int)<=i then some (i+n).toNat else none
def atI{J:Type}(xs:B7 J)(i:Int):B8 J:=(ixN xs.length i).bind λj=>xs[j]?
def m4(h:ixN n i=some j):seqIndex? i n=some j/\j<n/\-(n:Int)<=i/\i<n:=by
 unfold ixN at h;by_cases h0:0<=i
 .rw[xCg h0] at h;by_cases h1:i<n
  .rw[xCg h1] at h;have e:i.toNat=j:=xB3 h;exact⟨by rw[seqIndex_of h0 h1,e],(),(),h1⟩
  .rw[xCf h1] at h;cases h
 .rw[xCf h0] at h;by_cases h1:-(n:Int)<=i
  .rw[xCg h1] at h;have e:(i+n).toNat=j:=xB3 h;exact⟨by rw[seqIndex_neg () h1,e],(),h1,()⟩
  .rw[xCf h1] at h;cases h
theorem jl{xs:B7 J}{v:J}(h:atI xs i=some v):∃j,seqIndex? i xs.length=some j/\xs[j]?=some v/\j<xs.length/\-(xs.length:Int)<=i/\i<xs.length:=by
 unfold atI at h;cases e:ixN xs.length i with
 |none=>rw[e] at h;cases h
 |some j=>
  rw[e] at h;let⟨d,c,b,a⟩:=m4 e;exact⟨j,d,h,c,b,a⟩
def dA{xs:B7 J}{v:J}(h:xs[j]?=some v):atI xs (j:Int)=some v:=by
 have a:j<xs.length:=(xAq.mp h).1;have e:ixN xs.length (j:Int)=some j:=by
  unfold ixN;rw[xCg (),xCg ()];simp
 unfold atI;rw[e];exact h
def zCk(b:C0):Prop:=∀o i,subscripted b false o i=operate [o,i] (getItem o i)
def IxR(X:Cx)(r:R2):Prop:=
 ∀(a slice:C0)(Z:B7<|C3×Obj)(s:B')(O:St)(H:Hp)(x y:V)(v u:B9)(Q:VK),Inv X Z O H s->zAh x v->zAh y u->r x y H Q ->
  subscripted slice false v u=operate [v,u] (getItem v u)->wpAny (model X.prog X.w) X.A (subscriptTail a slice v u) (EP X Z O Q) X.xe s
def MtR(X:Cx)(id:String)(r:V->C9->Hp->VK->Prop):Prop:=
 ∀(Z:B7<|C3×Obj)(s:B')(O:St)(H:Hp)(x:V)(xs:C9)(v:B9)(us:D0)(Q:VK),Inv X Z O H s->zAh x v->zAg xs us->r x xs H Q ->
  wpAny (model X.prog X.w) X.A (call (.builtin id)<|v::us) (EP X Z O Q) X.xe s
section
variable{X:Cx}{a b:C0}{ta tb:TE}{pos:Pos}
def IxR.or{r k:R2}(h:IxR X r)(h':IxR X k):IxR X λx y H Q=>r x y H Q\/k x y H Q:=by
 intro c slice Z s O H x y v u Q I e d q l;rcases q with q|q
 .exact h c slice Z s O H x y v u Q I e d q l
 .exact h' c slice Z s O H x y v u Q I e d q l
def zF{r:R2}(k:IxR X r)(l:PE X a ta)(hb:PE X b tb)(hs:zCk b):PE X (.Subscript a b pos)<|tOp r ta tb:=by
 intro Z s O H Q I h;exact Subscript_ (zH3 l hb I h λv u c x y H2 I2 e d q=>k a b Z c O H2 x y v u Q I2 e d q<|hs _ _)
def zIp(K:xFr):R2:=λx y H Q=>∃p xs i v,x=.ref p/\y=.int i/\SqL K H p xs/\atI xs i=some v/\Q v H
def zIn(K:xFr):R2:=λx y H Q=>∃p xs i v,x=.ref p/\y=.int i/\SqT K H p xs/\atI xs i=some v/\Q v H
def zIo:R2:=λx y H Q=>∃z i c,x=.str z/\y=.int i/\z.length<=sizeLine/\atI z.cps.toList i=some c/\Q (.str ⟨#[c]⟩) H
def uM:IxR X<|zIp X.K:=by
 intro d slice Z s O H x y v u Q I B A h l;let⟨p,xs,i,z,rfl,rfl,C,E,q⟩:=h;cases B;let⟨t,rfl⟩:=A;let⟨its,r,pl,M⟩:=I.list C;let⟨j,c,L,R,G,F⟩:=jl E;let⟨w,m,e⟩:=r.get L;have D:=r.length;have N:=zBz;have fin:EP X Z O Q w s:=⟨z,H,I,e,q⟩
 by_cases h0:0<=i
 .have k:i.toNat=j:=by
   rw[seqIndex_of h0 F] at c;exact xB3 c
  exact item_listR pl.isList h0 () (by rw[k];simpa using m) fin l
 .have k:(i+(its.toArray.size:Int)).toNat=j:=by
   rw[seqIndex_neg () G] at c;rw[xAp,<- D];exact xB3 c
  exact subscriptTail_builtinR (x:=w) pl.isList.typeIs slot_list_getitem.lookup
   (wpAny_getItem_list_neg (Q:=λr o=>r=w/\EP X Z O Q r o) pl.isList () (by rw[xAp] <;> lia) () (by rw[k];simpa using m) ⟨rfl,fin⟩) l
def yd:IxR X<|zIn X.K:=by
 intro c slice Z s O H x y v u Q I l k h m;let⟨p,xs,i,z,rfl,rfl,o,B,q⟩:=h;cases l;let⟨t,rfl⟩:=k;let⟨its,r,pl,F⟩:=I.tuple o;let⟨j,D,C,N,M,L⟩:=jl B;let⟨w,E,d⟩:=r.get C;have A:=r.length;have G:=zBz;have fin:EP X Z O Q w s:=⟨z,H,I,d,q⟩
 exact subscriptTail_builtinR (x:=w) pl.typeIs slot_tuple_getitem.lookup
  (getItem_tuple (j:=j) (Q:=λr e=>r=w/\EP X Z O Q r e) pl () () (by rw[xAp,<- A];exact D) (by simpa using E) ⟨rfl,fin⟩) m
def ye:IxR X zIo:=by
 intro d slice Z s O H x y v u Q I l k h m;let⟨z,i,c,rfl,rfl,E,p,q⟩:=h;let⟨t,rfl⟩:=l;let⟨t',rfl⟩:=k;let⟨j,e,B,G,A,r⟩:=jl p;have o:z.cps.toList.length=z.length:=by simp[Str.length]
 rw[o] at e A r;have F:=zBz;exact tail_any (typeIs_str s z t) slot_str_getitem.lookup (getItem_str (c:=c) (by
  have D:decide (i < -(2^63:Int))=false:=xCn ();have C:decide (i >= 2^63)=false:=xCn ();rw[D,C,Bool.or_false]) (by rw[e];simpa using B) ⟨.str ⟨#[c]⟩,H,I.tok _,⟨_,rfl⟩,q⟩) m
def rIx(K:xFr):R2:=λx y H Q=>zIp K x y H Q\/zIn K x y H Q\/zIo x y H Q
def yf:IxR X<|rIx X.K:=uM.or<|yd.or ye
def kU(its:D0)(n j:Nat)(u:B9):Obj.mapSeq (·.setIfInBounds j u) {cls:=.type "list",data:=.seq its.toArray n}={cls:=.type "list",data:=.seq (its.set j u).toArray n}:=by
 simp[Obj.mapSeq]
theorem Inv.lst{Z:B7<|C3×Obj}{O:St}{H:Hp}{s:B'}{p:C3}{xs:C9}(I:Inv X Z O H s)(h:H p=some (.lst xs)) :
  ∃(its:D0) (n:Nat),zAg xs its/\s.heap.get? p=some {cls:=.type "list",data:=.seq its.toArray n}/\xs.length<=sizeLine:=by
 let⟨z,its,n,r,e⟩:=I.hok p _ h;exact⟨its,n,r,e,z⟩
def Inv.lstUpd{p:C3}{ys:C9}{its:D0}{c:Nat}{f:Obj->Obj}(I:Inv X Z O H s)(h:H p=some (.lst xs))(l:s.heap.get? p=some {cls:=.type "list",data:=.seq its.toArray n})(d:f {cls:=.type "list",data:=.seq its.toArray n}={cls:=.type "list",data:=.seq its'.toArray c})(r:zAg ys its')(k:ys.length<=sizeLine)(t:Nat) :
  Inv X Z O (upd H p<|.lst ys) {s with heap:=s.heap.update p f,toks:=t}:=by
 have e:(s.heap.update p f).get? p=some {cls:=.type "list",data:=.seq its'.toArray c}:=by
  rw[xA7 f l (by rw[d] <;> rfl),d]
 refine I.write (x:=p) (e:=p) (by rw[h];trivial) (.inl rfl) (λb u hb q=>(Heap.get?_update_other _ _<|Ne.symm hb).trans q) ⟨_,e⟩ ?_;exact⟨k,its',c,r,e⟩
def zFk:V->V->V->Hp->(Hp->Prop)->Prop:=λo i v H Q=>∃p xs k j,o=.ref p/\i=.int k/\H p=some (.lst xs)/\ixN xs.length k=some j/\Q (upd H p<|.lst<|xs.set j v)
def set_list:zH8 X zFk:=by
 intro Z s O H o i v K L u Q I D E C h;let⟨p,xs,k,j,rfl,rfl,m,G,q⟩:=h;cases D;let⟨t,rfl⟩:=E;let⟨its,n,r,d,F⟩:=I.lst m;let⟨c,N,B,A⟩:=m4 G;have e:=r.length;have M:=zBz;have I':Inv X Z O (upd H p<|.lst<|xs.set j v) {s with heap:=s.heap.update p (Obj.mapSeq (·.setIfInBounds j u))}:=
  I.lstUpd m d (kU its n j u) (r.set C j) (by rw[List.length_set];exact F) s.toks
 by_cases h0:0<=k
 .have l:k.toNat=j:=by
   rw[seqIndex_of h0 A] at c;exact xB3 c
  exact W.ki_setAt d h0 () (by rw[xAp,<- e];exact A) (by rw[l];exact⟨_,I',q⟩)
 .have l:(k+(its.toArray.size:Int)).toNat=j:=by
   rw[seqIndex_neg () B] at c;rw[xAp,<- e];exact xB3 c
  exact W.ki_setBack d () (by rw[xAp,<- e];exact B) () (by rw[l];exact⟨_,I',q⟩)
def iG(lo hi:B8 Int)(n:Nat):(sliceBounds lo hi none n).1=((HT.sIx n 0 lo:Nat):Int)/\(sliceBounds lo hi none n).2.1=((HT.sIx n n hi:Nat):Int)/\(sliceBounds lo hi none n).2.2=1:=by
 refine⟨?_,?_,rfl⟩
 .cases lo with
  |none=>simp[sliceBounds,HT.sIx]
  |some i=>
   simp only[sliceBounds,HT.sIx,Option.getD_none,show(1:Int)>0 by decide,if_true];by_cases h:i<0
   .simp only[h,if_true] <;> lia
   .simp only[h,if_false] <;> lia
 .cases hi with
  |none=>simp[sliceBounds,HT.sIx]
  |some i=>
   simp only[sliceBounds,HT.sIx,Option.getD_none,show(1:Int)>0 by decide,if_true];by_cases h:i<0
   .simp only[h,if_true] <;> lia
   .simp only[h,if_false] <;> lia
def hW(its:D0)(lo hi:B8 Int):slicePick its.toArray lo hi none=((its.drop<|HT.sIx its.length 0 lo).take<|HT.sIx its.length its.length hi-HT.sIx its.length 0 lo).toArray:=by
 let⟨e,d,c⟩:=iG lo hi its.toArray.size;unfold slicePick;rw[e,d,c];simp only[sliceRange_one,pick_run,xAp] <;> rfl
def zIk(K:xFr):V->B8 Int->B8 Int->Hp->VK->Prop:=λx c d H Q=>∃a xs,x=.ref a/\SqL K H a xs/\∀p,H p=none->Q (.ref p) (upd H p<|.lst<|zDx xs c d)
def lO:SlR X<|zIk X.K:=by
 intro Z s O H x v C B d e D Q I l A pl m h;let⟨a,xs,rfl,t,q⟩:=h;cases l;let⟨its,r,k,p⟩:=I.list t;have c:=r.length;erw[<-⟨"list",_,slot_list_getitem.lookup,k.isList.typeIs,?_⟩,<-wpAny_getItem_list_slice k.isList A pl m .none ⋯ ?_ (by rw[xAp] <;> lia)];rw[hW,<- c];refine⟨.ref s.heap.objs.size,_,I.laid (t':=s.toks) (o:=.lst<|zDx xs d e) (λb E q=>xAf _ q) (xAg _) ?_,rfl,q _<|I.hok.fresh<|xAg _⟩;exact⟨xCk (fR xs d e) p,_,0,(r.drop<|HT.sIx xs.length 0 d).take<|HT.sIx xs.length xs.length e-HT.sIx xs.length 0 d,xAl _ rfl⟩
noncomputable def zBn:V->C4
 |.non=>true
 |.bl _=>true
 |.int _=>true
 |.str _=>true
 |_=>false
noncomputable def eqV:V->V->C4
 |.non,.non=>true
 |.bl a,.bl b=>a==b
 |.bl a,.int b=>(if a then 1 else 0)==b
 |.int a,.bl b=>a==(if b then 1 else 0)
 |.int a,.int b=>a==b
 |.str a,.str b=>a==b
 |_,_=>false
theorem rT{A:Around}{u v:B9}(d:zAh y u)(c:zAh x v)(h:zBn y=true)(e:zBn x=true):SeqAt.EqAt A s u v<|eqV y x:=by
 cases y with
 |non=>
  cases d;cases x with
  |non=>cases c;exact SeqAt.EqAt.same _
  |bl b=>cases c;exact SeqAt.EqAt.none_bool b
  |int b=>let⟨t,rfl⟩:=c;exact SeqAt.EqAt.none_int b t
  |str b=>let⟨t,rfl⟩:=c;exact SeqAt.EqAt.none_str b t
  |_=>exact absurd (show false=true from e) xAy
 |bl a=>
  cases d;cases x with
  |non=>cases c;exact SeqAt.EqAt.bool_none a
  |bl b=>cases c;exact SeqAt.EqAt.bool_bool a b
  |int b=>let⟨t,rfl⟩:=c;exact SeqAt.EqAt.bool_int a b t
  |str b=>let⟨t,rfl⟩:=c;exact SeqAt.EqAt.bool_str a b t
  |_=>exact absurd (show false=true from e) xAy
 |int a=>
  let⟨t',rfl⟩:=d;cases x with
  |non=>cases c;exact SeqAt.EqAt.int_none a t'
  |bl b=>cases c;exact SeqAt.EqAt.int_bool a t' b
  |int b=>let⟨t,rfl⟩:=c;exact SeqAt.EqAt.int_int a t' b t
  |str b=>let⟨t,rfl⟩:=c;exact SeqAt.EqAt.int_str a t' b t
  |_=>exact absurd (show false=true from e) xAy
 |str a=>
  let⟨t',rfl⟩:=d;cases x with
  |non=>cases c;exact SeqAt.EqAt.str_none a t'
  |bl b=>cases c;exact SeqAt.EqAt.str_bool a t' b
  |int b=>let⟨t,rfl⟩:=c;exact SeqAt.EqAt.str_int a t' b t
  |str b=>let⟨t,rfl⟩:=c;exact SeqAt.EqAt.str_str a t' b t
  |_=>exact absurd (show false=true from e) xAy
 |_=>exact absurd (show false=true from h) xAy
def eqU(x:V)(u:B9):C4:=match u with
 |.none=>eqV .non x
 |.bool b=>eqV (.bl b) x
 |.int i _=>eqV (.int i) x
 |.str z _=>eqV (.str z) x
 |_=>false
theorem rR{u:B9}(r:zAh y u)(f:zBn y=true):eqU x u=eqV y x:=by
 cases y with
 |non=>cases r;rfl
 |bl b=>cases r;rfl
 |int i=>let⟨t,rfl⟩:=r;rfl
 |str z=>let⟨t,rfl⟩:=r;rfl
 |_=>exact absurd (show false=true from f) xAy
theorem fq{x:V}:∀{xs:C9}{us:D0},zAg xs us->xs.all zBn=true->us.any (eqU x)=xs.any λy=>eqV y x
 |_,_,.nil,_=>rfl
 |y::xs,u::us,.cons r t,f=>by
  rw[xCj,xCh] at f;rw[List.any_cons,List.any_cons,rR r f.1,fq t f.2]
theorem dY{A:Around}{s:B'}{x:V}{v:B9}(c:zAh x v)(d:zBn x=true):∀{xs:C9}{us:D0},zAg xs us->xs.all zBn=true->∀u∈us,SeqAt.EqAt A s u v (eqU x u)
 |_,_,.nil,_=>λu hu=>by cases hu
 |y::xs,u::us,.cons r t,f=>λe hu=>by
  rw[xCj,xCh] at f;rcases xAv.mp hu with rfl|hu
  .rw[rR r f.1];exact rT r c f.1 d
  .exact dY c d t f.2 e hu
def inV(x:V)(xs:C9):C4:=xs.any λy=>eqV y x
def rIn(K:xFr)(neg:C4):R2:=λx y H Q=>∃p xs,y=.ref p/\(SqL K H p xs\/SqT K H p xs)/\zBn x=true/\xs.all zBn=true/\Q (.bl<|if neg then !inV x xs else inV x xs) H
def om:OpR X (compareOp .In)<|rIn X.K false:=by
 intro Z s O H x y v u Q I d k h;let⟨p,xs,rfl,hq,e,fs,q⟩:=h;cases k;rcases hq with hq|hq
 .let⟨its,r,pl,l⟩:=I.list hq;refine SeqAt.in_listAt (eqU x) pl.isList (λw c=>dY d e r fs w<|by simpa using c) ⟨.bl _,H,I,rfl,?_⟩;rw[show its.toArray.any (eqU x)=its.any (eqU x) by simp,fq r fs];exact q
 .let⟨its,r,pl,l⟩:=I.tuple hq;refine SeqAt.in_tupleAt (eqU x) pl (λw c=>dY d e r fs w<|by simpa using c) ⟨.bl _,H,I,rfl,?_⟩;rw[show its.toArray.any (eqU x)=its.any (eqU x) by simp,fq r fs];exact q
def iR:OpR X (compareOp .NotIn)<|rIn X.K true:=by
 intro Z s O H x y v u Q I d k h;let⟨p,xs,rfl,hq,e,fs,q⟩:=h;cases k;rcases hq with hq|hq
 .let⟨its,r,pl,l⟩:=I.list hq;refine SeqAt.notIn_listAt (eqU x) pl.isList (λw c=>dY d e r fs w<|by simpa using c) ⟨.bl _,H,I,rfl,?_⟩;rw[show its.toArray.any (eqU x)=its.any (eqU x) by simp,fq r fs];exact q
 .let⟨its,r,pl,l⟩:=I.tuple hq;refine SeqAt.notIn_tupleAt (eqU x) pl (λw c=>dY d e r fs w<|by simpa using c) ⟨.bl _,H,I,rfl,?_⟩;rw[show its.toArray.any (eqU x)=its.any (eqU x) by simp,fq r fs];exact q
def jk:zAl X (.type "list") λxs H Q=>∃p ys,xs=[.ref p]/\(SqL X.K H p ys\/SqT X.K H p ys)/\∀l,H l=none->Q (.ref l) (upd H l<|.lst ys):=by
 intro Z s O H xs us Q I r h;let⟨p,ys,rfl,hq,q⟩:=h;let⟨u,rfl,C⟩:=zBa r;cases C;have fin:∀(its:D0),zAg ys its->ys.length<=sizeLine->∀(h':Heap)(d:Nat),(∀b B,s.heap.get? b=some B->h'.get? b=some B) ->
   h'.get? s.heap.objs.size=some {cls:=.type "list",dict:=none,data:=.seq its.toArray d,slots:=#[]}->EP X Z O Q (.ref s.heap.objs.size) {s with heap:=h'}:=λits c k h' d kp e=>
  ⟨.ref s.heap.objs.size,_,I.laid (t':=s.toks) kp (xAg _)<|show zAe X.prog X.w _ h' _ (.lst ys) from⟨k,its,d,c,e⟩,rfl,q _<|I.hok.fresh<|xAg _⟩
 rcases hq with hq|hq
 .let⟨its,c,pl,k⟩:=I.list hq;have m:=c.length;let⟨o,t,A,n,v⟩:=pl.isList;exact call_list_seq p (.inl rfl) t A v (λh' d kp e=>fin its c k h' d kp e) (by simp only[xAp] <;> lia)
 .let⟨its,c,pl,k⟩:=I.tuple hq;have m:=c.length;let⟨o,t,A,n,v⟩:=pl;exact call_list_seq p (.inr rfl) t A v (λh' d kp e=>fin its c k h' d kp e) (by simp only[xAp] <;> lia)
def hZ:zAl X (.type "tuple") λxs H Q=>∃p ys,xs=[.ref p]/\((SqL X.K H p ys/\∀l,H l=none->Q (.ref l) (upd H l<|.tup ys))\/(SqT X.K H p ys/\Q (.ref p) H)):=by
 intro Z s O H xs us Q I r h;let⟨p,ys,rfl,h⟩:=h;let⟨u,rfl,t⟩:=zBa r;cases t;rcases h with ⟨d,q⟩|⟨d,q⟩
 .let⟨its,c,pl,k⟩:=I.list d;have m:=c.length;refine call_tuple_list pl.isList (λh' kp=>?_) (by simp only[xAp] <;> lia);have I1:Inv X Z O H {s with heap:=h'}:=I.kept (t':=s.toks) kp;have I2:Inv X Z O (upd H h'.objs.size<|.tup ys) {s with heap:=h'.push {cls:=.type "tuple",data:=.seq its.toArray} }:=
   I1.laid (t':=s.toks) (λb o e=>xAf _ e) (xAg _) (show zAe X.prog X.w _ _ _ (.tup ys) from⟨k,its,c,IsTup.new _ _⟩)
  exact⟨.ref h'.objs.size,_,I2,rfl,q _<|I1.hok.fresh<|xAg _⟩
 .let⟨its,c,pl,k⟩:=I.tuple d;exact call_tuple_same pl ⟨.ref p,H,I,rfl,q⟩
def tyV(K:xFr)(T:String)(x:V)(H:Hp):Prop:=match x with
 |.str _=>T="str"
 |.int _=>T="int"
 |.ref p=>(T="list"/\∃xs,SqL K H p xs)\/(T="tuple"/\∃o,K.lookup p=some o/\o.cls=.type "tuple"/\o.dict=none) \/
   (T="dict"/\((∃kvs,H p=some (.dK kvs))\/∃kvs,H p=some (.dT kvs)))\/(T="set"/\∃S n,H p=some (.set S n))
 |_=>False
theorem wa{T:String}{v:B9}(I:Inv X Z O H s)(r:zAh x v)(ty:tyV X.K T x H) :
  s.TypeIs v T/\∀a,v=.ref a->∃m,s.heap.get? a=some m/\m.dict=none:=by
 cases x with
 |str z=>
  let⟨t,rfl⟩:=r;cases (show T="str" from ty);exact⟨typeIs_str s z t,λ_ e=>nomatch e⟩
 |int i=>
  let⟨t,rfl⟩:=r;cases (show T="int" from ty);exact⟨typeIs_int s i t,λ_ e=>nomatch e⟩
 |ref p=>
  cases r;rcases ty with ⟨rfl,xs,q⟩|⟨rfl,o,d,A,k⟩|⟨rfl,d⟩|⟨rfl,S,n,d⟩
  .let⟨its,_,pl,_⟩:=I.list q;refine⟨pl.isList.typeIs,λa e=>?_⟩;cases e;let⟨o,n,e,c,k,_⟩:=pl;exact⟨o,e,k⟩
  .refine⟨⟨o,I.kIn p o d,A⟩,λa e=>?_⟩;cases e;exact⟨o,I.kIn _ o d,k⟩
  .have z:∃o,s.heap.get? p=some o/\o.ExactDict:=by
    rcases d with ⟨kvs,d⟩|⟨kvs,d⟩
    .let⟨_,_,_,_,o,_,_,e,h,_⟩:=I.hok p _ d;exact⟨o,e,h⟩
    .let⟨_,_,_,_,o,_,_,e,h,_⟩:=I.hok p _ d;exact⟨o,e,h⟩
   let⟨o,e,h⟩:=z;refine⟨⟨o,e,h.1⟩,λa l=>?_⟩;cases l;exact⟨o,e,h.2.1⟩
  .let⟨o,_,_,_,e,h,_⟩:=I.hok p _ d;refine⟨⟨o,e,h.1⟩,λa l=>?_⟩;cases l;exact⟨o,e,h.2.1⟩
 |_=>exact False.elim ty
def tBM(K:xFr)(T:String)(r:V->C9->Hp->VK->Prop)(to:TE)(t:TA):TE:=λO H Q=>to O H λx H1=>tyV K T x H1/\t O H1 λxs H2=>r x xs H2 Q
variable{o e:C0}{es:B7 C0}{to:TE}{t:TA}{name:Str}{apos cpos:Pos}{T id:String}{r:V->C9->Hp->VK->Prop}
def zG(F:PlainAttrs T)(k:Slot T name id)(m:typeOf (.builtin id)=pure (.type "method_descriptor"))(M:MtR X id r)(L:PE X o to)(N:PA X (e::es) t)(d:attributeBase o name X.env (eval o X.env)=eval o X.env:=by rfl)(l:((backTo cpos<|starEach (e::es) X.env).all (λx=>!x.1) && (backToKw cpos<|keywordEach [] X.env).all (λx=>x.1.isSome)
   && decide ((e::es).length+([]:B7 Keyword).length+(if([]:B7 Keyword).isEmpty then 0 else 1)<30))=true:=by rfl)(c:(apos.endLine==cpos.line)=true:=by rfl)(G:starEach (e::es) X.env=(false,eval e X.env)::starEach es X.env:=by rfl)(hplain:(backTo cpos<|starEach es X.env).any (·.1)=false:=by rfl) :
  PE X (.Call (.Attribute o name apos) (e::es) [] cpos) (tBM X.K T r to t):=by
 intro Z s O H Q I h;refine wpAny_Call_method_late d l c rfl (thn (L Z s O H _ I h) λv C q=>?_);let⟨x,H1,I1,r1,ty,E⟩:=q;let⟨S,R⟩:=wa I1 r1 ty;refine⟨T,id,F,k,m,S,R,?_⟩;have p:=N cpos Z C O H1 _ I1 E;rw[G] at p⊢;refine Calls.callWith_builtin (by show(false||(backTo cpos<|starEach es X.env).any (·.1))=false;rw[hplain] <;> rfl)<|Calls.evalArgs_plain ?_;exact thn p λus B ⟨A,H2,I2,r2,D⟩=>M Z B O H2 x A v us Q I2 r1 r2 D
end
def MtM(X:Cx)(id:String)(r:V->C9->Hp->VK->Prop):Prop:=
 ∀(Z:B7<|C3×Obj)(s:B')(O:St)(H:Hp)(x:V)(xs:C9)(v:B9)(us:D0)(Q:VK),Inv X Z O H s->zAh x v->zAg xs us->r x xs H Q ->
  wpAny (model X.prog X.w) X.A (call (.builtin id)<|v::us) (EP X Z O Q) X.xe s
theorem zAg.one:∀{x:V}{us:D0},zAg [x] us->∃u,us=[u]/\zAh x u
 |_,_,.cons r .nil=>⟨_,rfl,r⟩
section
variable{X:Cx}{Z:B7<|C3×Obj}{O:St}{H:Hp}{s:B'}{l b:C3}{xs ys zs:C9}
def Inv.lset{its:D0}{f:Array B9->Array B9}(I:Inv X Z O H s)(k:H l=some (.lst xs))(e:s.heap.get? l=some {cls:=.type "list",data:=.seq its.toArray n})(h:f its.toArray=its'.toArray)(c:zAg ys its')(a:ys.length<=sizeLine) :
  Inv X Z O (upd H l<|.lst ys) {s with heap:=s.heap.update l<|Obj.mapSeq f,toks:=t'}:=by
 have q:=PySem.IsL.update e f;rw[h] at q;refine I.write (x:=l) (e:=l) (by rw[k];exact trivial) (.inl rfl) (λm u hb d=>(Heap.get?_update_other s.heap (Obj.mapSeq f)<|Ne.symm hb).trans d) ⟨_,q⟩ ?_;exact⟨a,its',_,c,q⟩
def Inv.lnew{its:D0}(I:Inv X Z O H s)(c:zAg ys its)(a:ys.length<=sizeLine) :
  Inv X Z O (upd H s.heap.objs.size<|.lst ys) {s with heap:=s.heap.push {cls:=.type "list",data:=.seq its.toArray},toks:=t'}:=
 I.laid (λ_ _ q=>xAf _ q) (xAg _) ⟨a,its,0,c,xAl _ rfl⟩
theorem Inv.fresh(I:Inv X Z O H s):H s.heap.objs.size=none:=I.hok.fresh<|xAg _
def Inv.lstM(I:Inv X Z O H s)(a:H l=some (.lst xs)):xs.length<=sizeLine/\∃(its:D0) (n:Nat),zAg xs its/\xs.length=its.length/\s.heap.get? l=some {cls:=.type "list",data:=.seq its.toArray n}:=by
 let⟨z,its,n,r,e⟩:=I.hok l _ a;exact⟨z,its,n,r,r.length,e⟩
def zDj(h:n<=sizeLine):Builtin.List.listTooLong n=false:=by
 unfold Builtin.List.listTooLong;exact xCn ()
end
section
variable{X:Cx}
def zDa:V->C9->Hp->VK->Prop:=λx a H Q=>∃l xs y,x=.ref l/\a=[y]/\H l=some (.lst xs)/\xs.length<sizeLine/\Q .non (upd H l<|.lst<|xs++[y])
def ig:MtM X "list.append" zDa:=by
 intro Z s O H x k v us Q I b c h;let⟨l,xs,y,rfl,rfl,a,m,q⟩:=h;cases b;let⟨u,rfl,d⟩:=c.one;let⟨z,its,n,r,o,e⟩:=I.lstM a;erw[<-call_meets F.slot_list_append ⟨_,e,rfl⟩ F.entry_list_append (F.args_list_append_2 _ _) (PySem.list_append l its.toArray n u<|by rw[xAp];lia) ⟨e,?_⟩,<-⟨.non,_,I.lset (its':=its++[u]) a e ⋯ (r.append<|.cons d .nil) ?_,rfl,q⟩];rw[xAb,xAt];lia
def zC9:V->C9->Hp->VK->Prop:=λx c H Q=>∃l b xs a,x=.ref l/\c=[.ref b]/\H l=some (.lst xs)/\H b=some (.lst a)/\xs.length+a.length<=sizeLine/\Q .non (upd H l<|.lst<|xs++a)
def ox:MtM X "list.extend" zC9:=by
 intro Z s O H x G v us Q I m o h;let⟨l,b,xs,D,rfl,rfl,k,B,K,q⟩:=h;cases m;let⟨u,rfl,p⟩:=o.one;cases p;let⟨z,its,n,r,L,e⟩:=I.lstM k;let⟨E,a,t,r2,A,C⟩:=I.lstM B;have d:its.toArray.size+a.toArray.size<=sizeLine:=by rw[xAp,xAp];lia
 have c:¬ (!its.toArray.isEmpty&&Builtin.List.listTooLong (its.toArray.size+a.toArray.size))=true:=by
  rw[zDj d,xDe];exact xAy
 refine call_meets F.slot_list_extend ⟨_,e,rfl⟩ F.entry_list_extend (F.args_list_extend_2 _ _)
  (AutoSeq1.list_extend_list_list_0 l its.toArray n b a.toArray t c (by rw[xAp];lia) ()) ⟨e,C,?_⟩
 refine⟨.non,_,I.lset (its':=its++a) k e ⋯ (r.append r2) ?_,rfl,q⟩;rw[xAb];lia
def zIt:R2:=λx y H Q=>∃l b xs a,x=.ref l/\y=.ref b/\H l=some (.lst xs)/\H b=some (.lst a)/\xs.length+a.length<=sizeLine/\∀p,H p=none->Q (.ref p) (upd H p<|.lst<|xs++a)
def xB:OpR X (binaryOp .Add) zIt:=by
 intro Z s O H x y v u Q I d c h;let⟨l,b,xs,A,rfl,rfl,m,o,D,q⟩:=h;cases d;cases c;let⟨z,its,n,r,E,e⟩:=I.lstM m;let⟨B,a,C,r2,k,t⟩:=I.lstM o;refine PySem.P.add_list e t ?_ (by rw[xAp,xAp];lia);have p:its.toArray++a.toArray=(its++a).toArray:=by simp
 rw[p];exact⟨.ref _,_,I.lnew (t':=s.toks) (r.append r2) (by rw[xAb];lia),rfl,q _ I.fresh⟩
end
section
variable{prog:Program}{w:World}{A:Around}{E:B9->B'->Prop}{s:B'}
set_option maxRecDepth 100000 in
end
section
variable{κ:Type} [DecidableEq κ]
noncomputable def zCd(kvs:B7<|κ×V)(k:κ):B8 V:=(kvs.find? λkv=>decide<|kv.1=k).map (·.2)
noncomputable def putK(kvs:B7<|κ×V)(k:κ)(v:V):B7<|κ×V:=
 if(kvs.any λkv=>decide<|kv.1=k)=true then kvs.map (λkv=>if kv.1=k then(kv.1,v) else kv) else kvs++[(k,v)]
def e9{p:κ×V}{r:B7<|κ×V}{k:κ}(e:p.1=k):zCd (p::r) k=some p.2:=by simp[zCd,List.find?_cons,e]
def fc{p:κ×V}{r:B7<|κ×V}{k:κ}(e:¬ p.1=k):zCd (p::r) k=zCd r k:=by simp[zCd,List.find?_cons,e]
theorem jr(k:κ):∀kvs:B7<|κ×V,(kvs.any λkv=>decide<|kv.1=k)=(zCd kvs k).isSome
 |[]=>rfl
 |p::r=>by
  rw[List.any_cons];by_cases e:p.1=k
  .simp only[e9 e,xBd e,Bool.true_or,Option.isSome_some]
  .rw[fc e,xCn e,Bool.false_or];exact jr k r
def dZ(kvs:B7<|κ×V)(k:κ)(v:V):(putK kvs k v).length<=kvs.length+1:=by
 unfold putK;split
 .rw[xAa];lia
 .rw[xAb,xAo,List.length_nil];lia
theorem zCe.isSome_eq{o:B8 V}{u:B8 B9}(r:zCe o u):o.isSome=u.isSome:=by
 cases o with
 |none=>cases u with
  |none=>rfl
  |some _=>exact(show False from r).elim
 |some _=>cases u with
  |none=>exact(show False from r).elim
  |some _=>rfl
theorem KV.val{kvs:B7<|κ×V}{vs:B7<|κ×B9}(r:KV kvs vs)(k:κ):zCe (zCd kvs k)<|valueAt vs k:=by
 unfold KV at r;induction r with
 |nil=>exact True.intro
 |@cons p q m a h t d=>
  let⟨h1,l⟩:=h;by_cases e:p.1=k
  .have c:q.1=k:=h1.symm.trans e;have b:valueAt (q::a) k=some q.2:=by simp[valueAt,List.find?_cons,c]
   rw[e9 e,b];exact l
  .have c:¬ q.1=k:=λz=>e<|h1.trans z;have b:valueAt (q::a) k=valueAt a k:=by simp[valueAt,List.find?_cons,c]
   rw[fc e,b];exact d
theorem KV.any{kvs:B7<|κ×V}{vs:B7<|κ×B9}(r:KV kvs vs)(k:κ):(kvs.any λkv=>decide<|kv.1=k)=vs.any λkv=>decide<|kv.1=k:=by
 unfold KV at r;induction r with
 |nil=>rfl
 |cons h t a=>rw[List.any_cons,List.any_cons,a,h.1]
theorem KV.repl{kvs:B7<|κ×V}{vs:B7<|κ×B9}(r:KV kvs vs)(k:κ){u:B9}(a:zAh y u) :
  KV (kvs.map λkv=>if kv.1=k then(kv.1,y) else kv) (vs.map λkv=>if kv.1=k then(kv.1,u) else kv):=by
 unfold KV at r⊢;induction r with
 |nil=>exact .nil
 |@cons p q l d h t b=>
  rw[xBs,xBs];refine .cons ?_ b;let⟨h1,c⟩:=h;by_cases e:p.1=k
  .rw[xCg e,xCg<|h1.symm.trans e];exact⟨h1,a⟩
  .rw[xCf e,xCf λz=>e<|h1.trans z];exact⟨h1,c⟩
def KV.put{kvs:B7<|κ×V}{vs:B7<|κ×B9}(r:KV kvs vs)(k:κ){u:B9}(a:zAh y u):KV (putK kvs k y)<|stored vs k u:=by
 unfold putK stored;rw[r.any k];by_cases e:(vs.any λkv=>decide<|kv.1=k)=true
 .rw[xCg e,xCg e];exact r.repl k a
 .rw[xCf e,xCf e];exact Paired.snoc r ⟨rfl,a⟩
theorem KV.keys{kvs:B7<|κ×V}{vs:B7<|κ×B9}(r:KV kvs vs):kvs.map (·.1)=vs.map (·.1):=by
 unfold KV at r;induction r with
 |nil=>rfl
 |cons h t a=>rw[xBs,xBs,a,h.1]
theorem KV.length{kvs:B7<|κ×V}{vs:B7<|κ×B9}(r:KV kvs vs):kvs.length=vs.length:=Paired.length r
end
theorem il{w:World}{k:Key}{u:B9}(r:zAh (kV k) u):(zAj P w).is k u=true:=by
 cases k with
 |inl i=>let⟨t,e⟩:=(show ∃t,u=Value.int i t from r);subst e;exact jO P w i t
 |inr x=>let⟨t,e⟩:=(show ∃t,u=Value.str x t from r);subst e;exact jN P w x t
theorem im{P:Program}{w:World}:∀{ks:B7 Key}{us:D0},zAg (ks.map kV) us->ItemsAre (zAj P w) ks us
 |[],_,r=>by rw[List.map_nil] at r;cases r;exact .nil
 |k::ks,_,r=>by
  rw[xBs] at r;cases r with
  |cons h t=>exact .cons (il h) (im t)
noncomputable abbrev KT(H:Hp):B7 (B7 Key×V)->B7 (B7 Key×C3×B9)->Prop:=Paired λp q=>p.1=q.1/\H q.2.1=some (.tup<|p.1.map kV)/\zAh p.2 q.2.2
theorem KT.val{kvs:B7<|B7 Key×V}{xs:B7<|B7 Key×C3×B9}(r:KT H kvs xs)(k:B7 Key):zCe (zCd kvs k) ((atKey xs k).map (·.2)):=by
 induction r with
 |nil=>exact True.intro
 |@cons p q m a h t d=>
  let⟨h1,_,l⟩:=h;by_cases e:p.1=k
  .have c:q.1=k:=h1.symm.trans e;have b:atKey (q::a) k=some q.2:=by simp[atKey,List.find?_cons,c]
   rw[e9 e,b];exact l
  .have c:¬ q.1=k:=λz=>e<|h1.trans z;have b:atKey (q::a) k=atKey a k:=by simp[atKey,List.find?_cons,c]
   rw[fc e,b];exact d
theorem KT.repl{kvs:B7<|B7 Key×V}{xs:B7<|B7 Key×C3×B9}(r:KT H kvs xs)(k:B7 Key){u:B9}(b:zAh y u) :
  KT H (kvs.map λkv=>if kv.1=k then(kv.1,y) else kv) (xs.map<|putAt k u):=by
 induction r with
 |nil=>exact .nil
 |@cons p q m l h t c=>
  rw[xBs,xBs];refine .cons ?_ c;let⟨h1,a,d⟩:=h;unfold putAt;by_cases e:p.1=k
  .rw[xCg e,xCg<|h1.symm.trans e];exact⟨h1,a,b⟩
  .rw[xCf e,xCf λz=>e<|h1.trans z];exact⟨h1,a,d⟩
def KT.put{kvs:B7<|B7 Key×V}{xs:B7<|B7 Key×C3×B9}(r:KT H kvs xs)(k:B7 Key){b:C3}{u:B9}(hb:H b=some (.tup<|k.map kV))(a:zAh y u) :
  KT H (putK kvs k y) (storedH xs k b u):=by
 have e:(kvs.any λkv=>decide<|kv.1=k)=(atKey xs k).isSome:=by
  rw[jr,(r.val k).isSome_eq,Option.isSome_map]
 unfold putK storedH;rw[e];by_cases q:(atKey xs k).isSome=true
 .rw[xCg q,xCg q];exact r.repl k a
 .rw[xCf q,xCf q];exact Paired.snoc r ⟨rfl,hb,a⟩
def KT.keeps{kvs:B7<|B7 Key×V}{xs:B7<|B7 Key×C3×B9}(r:KT H kvs xs)(a:∀b ys,H b=some (.tup ys)->H' b=some (.tup ys)):KT H' kvs xs:=
 Paired.mapP r λ_ _ z=>⟨z.1,a _ _ z.2.1,z.2.2⟩
section
variable{P:Program}{w:World}{H:Hp}{h:Heap}{a:C3}
def vC{u:HO}(ok:HOk P w H h)(e:Rd H a u):zAe P w H h a u:=e.ok ok
def fQ(ok:HOk P w H h)(e:Rd H a<|.dK kvs):kvs.length<=sizeLine/\(a==sysModules)=false/\∃vs,KV kvs vs/\h.DictOf (zAj P w) a vs:=
 show zAe P w H h a (.dK kvs) from vC ok e
def vZ(ok:HOk P w H h)(e:H a=some (.dK kvs)):kvs.length<=sizeLine/\(a==sysModules)=false/\∃vs,KV kvs vs/\h.DictOf (zAj P w) a vs:=fQ ok<|.inl e
def gO{ks:B7 Key}(ok:HOk P w H h)(e:H a=some (.tup<|ks.map kV)):(tupleKind<|zAj P w).is h ks a:=by
 let⟨_,its,r,o,d,c,n,b⟩:=(show zAe P w H h a (.tup<|ks.map kV) from ok a _ e)
 exact⟨o,its.toArray,n,d,c,b,by simpa using im r⟩
def jZ{kvs:B7<|B7 Key×V}(ok:HOk P w H h)(e:Rd H a<|.dT kvs):kvs.length<=sizeLine/\(a==sysModules)=false /\
  ∃xs,KT H kvs xs/\h.DictOfH (tupleKind<|zAj P w) a xs:=by
 let⟨z,y,xs,r,o,C,D,B,A,v,k,d⟩:=(show zAe P w H h a (.dT kvs) from vC ok e)
 refine⟨z,y,xs,r,o,C,D,B,A,v,k,λx hx=>?_,d⟩;have all:∀{l:B7<|B7 Key×V}{m:B7<|B7 Key×C3×B9},KT H l m->∀x∈m,(tupleKind<|zAj P w).is h x.1 x.2.1:=by
  intro l m q;induction q with
  |nil=>intro x hx;exact nomatch hx
  |@cons p q F E b t c=>
   intro x hx;rcases xAv.mp hx with e|hx
   .subst e;exact gO ok (by rw[<- b.1];exact b.2.1)
   .exact c x hx
 exact all r x hx
def AU{kvs:B7<|B7 Key×V}(ok:HOk P w H h)(e:H a=some (.dT kvs)):kvs.length<=sizeLine/\(a==sysModules)=false /\
  ∃xs,KT H kvs xs/\h.DictOfH (tupleKind<|zAj P w) a xs:=jZ ok<|.inl e
end
def zEx(H:Hp)(a:C3)(y:V)(r:B8 V):Prop:=
 (∃kvs k,Rd H a (.dK kvs)/\y=kV k/\r=zCd kvs k)\/∃kvs k b,Rd H a (.dT kvs)/\y=.ref b/\H b=some (.tup<|k.map kV)/\r=zCd kvs k
def zJe(H:Hp)(a:C3)(y v:V)(H':Hp):Prop:=
 (∃kvs k,H a=some (.dK kvs)/\y=kV k/\kvs.length<sizeLine/\H'=upd H a (.dK<|putK kvs k v)) \/
 ∃kvs k b,H a=some (.dT kvs)/\y=.ref b/\H b=some (.tup<|k.map kV)/\kvs.length<sizeLine/\H'=upd H a (.dT<|putK kvs k v)
section
variable{X:Cx}{Z:B7<|C3×Obj}{O:St}{H:Hp}{s:B'}{a:C3}{y v:V}{u r:B9}{o:B8 V}{A:Around}{E:B9->B'->Prop}
def Inv.big(I:Inv X Z O H s):sysModules<s.heap.objs.size:=by
 have h:mainGlobals<s.heap.objs.size:=(I.mod.glob.keeps I.bk).lt;exact Nat.lt_trans ∅ h
def oP(K:A.units+1<cLine)(I:Inv X Z O H s)(g:zEx H a y<|some v)(F:zAh y u)(h:∀m D,Inv X Z O H D->zAh v m->Q m D) :
  wpAny (model X.prog X.w) A (getItem (.ref a) u) Q E s:=by
 rcases g with ⟨kvs,k,e,B,l⟩|⟨kvs,k,b,e,B,N,l⟩
 .subst B;let⟨z,M,G,d,C⟩:=fQ I.hok e;let⟨m,q,c⟩:=zCe.some_of (v:=v) (o:=valueAt G k) (by rw[l];exact d.val k);exact wpAny_getItem_of (il F) C.mapOf q<|h m _ (I.tok _) c
 .subst B;cases (show u=Value.ref b from F);let⟨z,M,xs,d,C⟩:=jZ I.hok e;let⟨m,q,c⟩:=zCe.some_of (v:=v) (o:=(atKey xs k).map (·.2)) (by rw[l];exact d.val k);let⟨p,L,t⟩:=Option.map_eq_some_iff.mp q;erw[wpAny_getItem_heap (tupleKind_room_in1 K) (gO I.hok N) C L];rw[t];exact h m _ (I.tok _) c
def BZ(C:A.units+1<cLine)(I:Inv X Z O H s)(g:zEx H a y o)(B:zAh y u)(h:∀t,Inv X Z O H t->Q (.bool o.isSome) t) :
  wpAny (model X.prog X.w) A (compareOp .In u<|.ref a) Q E s:=by
 rcases g with ⟨kvs,k,e,m,l⟩|⟨kvs,k,b,e,m,D,l⟩
 .subst m;let⟨z,d,F,c,p⟩:=fQ I.hok e;erw[wpAny_in_of (il B) d p.mapOf];rw[<- (c.val k).isSome_eq,<- l];exact h _<|I.tok _
 .subst m;cases (show u=Value.ref b from B);let⟨z,d,xs,c,p⟩:=jZ I.hok e;erw[wpAny_in_heap (tupleKind_room_in1 C) (gO I.hok D) d p];have q:=(c.val k).isSome_eq;rw[Option.isSome_map] at q;rw[<- q,<- l];exact h _<|I.tok _
def uZ(C:A.units+1<cLine)(I:Inv X Z O H s)(g:zEx H a y o)(B:zAh y u)(h:∀t,Inv X Z O H t->Q (.bool (!o.isSome)) t) :
  wpAny (model X.prog X.w) A (compareOp .NotIn u<|.ref a) Q E s:=by
 rcases g with ⟨kvs,k,e,m,l⟩|⟨kvs,k,b,e,m,D,l⟩
 .subst m;let⟨z,d,F,c,p⟩:=fQ I.hok e;erw[wpAny_notIn_of (il B) d p.mapOf];rw[<- (c.val k).isSome_eq,<- l];exact h _<|I.tok _
 .subst m;cases (show u=Value.ref b from B);let⟨z,d,xs,c,p⟩:=jZ I.hok e;erw[wpAny_notIn_heap (tupleKind_room_in1 C) (gO I.hok D) d p];have q:=(c.val k).isSome_eq;rw[Option.isSome_map] at q;rw[<- q,<- l];exact h _<|I.tok _
def ji{c:HO}(I:Inv X Z O H s)(d:Mut<|H a)(h:Heap.SameBut a s.heap h')(k:∃q,h'.get? a=some q)(new:zAe X.prog X.w (upd H a c) h' a c) :
  Inv X Z O (upd H a c) {s with heap:=h',toks:=t'}:=
 I.write (x:=a) (e:=a) d (.inl rfl) (λb q hb z=>(h.2 b hb).trans z) k new
def lj{w:World}{vs:B7<|Key×B9}(z:kvs.length<=sizeLine)(c:(a==sysModules)=false)(b:KV kvs vs)(d:h'.DictOf (zAj P w) a vs) :
  zAe P w H' h' a (.dK kvs):=⟨z,c,vs,b,d⟩
def oO{Q:Unit->B'->Prop}(W:A.units+1<cLine)(I:Inv X Z O H s)(g:zJe H a y v H')(M:zAh y u)(N:zAh v r)(h:∀L,Inv X Z O H' L->Q Unit.unit L) :
  wpAny (model X.prog X.w) A (setItem (.ref a) u r) Q E s:=by
 rcases g with ⟨kvs,k,e,F,l,G⟩|⟨kvs,k,b,e,F,S,l,G⟩
 .subst F G;let⟨z,D,T,d,K⟩:=vZ I.hok e;have t:T.length<=sizeLine:=by rw[<- d.length];exact z
  have C:(putK kvs k v).length<=sizeLine:=by have:=dZ kvs k v;lia
  refine wpAny_setItem_pairs (hsz:=t) (il M) K λh' m B=>h _ ?_;have Y:∃q,h'.get? a=some q:=let ⟨q,_,_,p,_⟩:=m;⟨q,p⟩;exact ji I (by rw[e];exact True.intro) B Y<|lj C D (d.put k N) m
 .subst F G;cases (show u=Value.ref b from M);let⟨z,D,xs,d,K⟩:=AU I.hok e;have t:xs.length<=sizeLine:=by rw[<- Paired.length d];exact z
  have C:(putK kvs k v).length<=sizeLine:=by have:=dZ kvs k v;lia
  refine wpAny_setItem_heap (hsz:=t) (tupleKind_room_in1 W) (gO I.hok S) K λh' m B=>h _ ?_;let⟨q,es,ep,p,h2,h3,h4,_,h5⟩:=m;refine ji I (by rw[e];exact True.intro) B ⟨q,p⟩ ⟨C,D,_,(d.put k S N).keeps λc ys R=>?_,q,es,ep,p,h2,h3,h4,h5⟩;rw[bt<|Am R e λz=>nomatch z];exact R
end
section
variable{X:Cx}{Z:B7<|C3×Obj}{O:St}{H:Hp}{s:B'}{a:C3}{kvs:B7<|Key×V}{k:Key}{u:B9}{A:Around}{E:B9->B'->Prop}
def AV(I:Inv X Z O H s)(e:Rd H a<|.dK kvs)(h:∀t c,Inv X Z O H c->Q (.int kvs.length t) c):wpAny (model X.prog X.w) A (call (.builtin "len") [.ref a]) Q E s:=by
 let⟨z,d,m,b,l⟩:=fQ I.hok e;erw[call_len_dict d l (by rw[<- b.length];rw[sizeLine_eq] at z;lia)];rw[<- b.length];exact h _ _<|I.tok _
end
def j8{a:C3}{o:B8 V}(I:Inv X Z O H s)(g:zEx H a y o):s.TypeIs (.ref a) "dict":=by
 rcases g with ⟨kvs,k,e,_,_⟩|⟨kvs,k,b,e,_,_,_⟩
 .let⟨_,_,d,_,c⟩:=fQ I.hok e;exact c.typeIs
 .let⟨_,_,xs,_,c⟩:=jZ I.hok e;exact c.typeIs
def j4{w:World}(h:Heap)(hb:sysModules<h.objs.size):zAe P w H (h.push {cls:=.type "dict",data:=.dict #[]}) h.objs.size<|.dK []:=
 ⟨xBn _,beq_eq_false_iff_ne.mpr<|Ne.symm<|xA0 hb,[],.nil,Heap.DictOf.new h⟩
def rW{w:World}(h:Heap)(hb:sysModules<h.objs.size):zAe P w H (h.push {cls:=.type "dict",data:=.dict #[]}) h.objs.size<|.dT []:=
 ⟨xBn _,beq_eq_false_iff_ne.mpr<|Ne.symm<|xA0 hb,[],.nil,_,#[],0,xAl _ rfl,⟨rfl,rfl,rfl⟩,rfl,rfl,xC7⟩
def zE9:TE:=λ_ H Q=>∀p,H p=none->Q (.ref p) (upd H p<|.dK [])
def zE8:TE:=λ_ H Q=>∀p,H p=none->Q (.ref p) (upd H p<|.dT [])
section
variable{X:Cx}{pos:Pos}
def qr:PE X (.Dict [] [] pos) zE9:=λZ s O H Q I h=>
 wpAny_Dict_empty ⟨.ref s.heap.objs.size,_,I.laid (a:=s.heap.objs.size) (o:=.dK []) (t':=s.toks) (λ_ _ q=>xAf _ q) (xAg _)<|j4 s.heap I.big,rfl,h _<|I.hok.fresh<|xAg _⟩
def qq:PE X (.Dict [] [] pos) zE8:=λZ s O H Q I h=>
 wpAny_Dict_empty ⟨.ref s.heap.objs.size,_,I.laid (a:=s.heap.objs.size) (o:=.dT []) (t':=s.toks) (λ_ _ q=>xAf _ q) (xAg _)<|rW s.heap I.big,rfl,h _<|I.hok.fresh<|xAg _⟩
end
def zCm:B7 (TE×TE)->St->Hp->(B7 (V×V)->Hp->Prop)->Prop
 |[],_,H,Q=>Q [] H
 |(tk,a)::r,O,H,Q=>tk O H λx H1=>a O H1 λy H2=>zCm r O H2 λb H3=>Q ((x,y)::b) H3
noncomputable abbrev VV:B7 (V×V)->B7 (B9×B9)->Prop:=Paired λp q=>zAh p.1 q.1/\zAh p.2 q.2
def PPs(X:Cx)(pos:Pos)(keys:B7<|B8 C0)(values:B7 C0)(trs:B7<|TE×TE):Prop:=
 ∀(Z:B7<|C3×Obj)(s:B')(O:St)(H:Hp)(Q:B7 (V×V)->Hp->Prop),Inv X Z O H s->zCm trs O H Q ->
  wpAny (model X.prog X.w) X.A (evalPairs<|pairTrees keys values X.env pos) (λvs a=>∃ps H',Inv X Z O H' a/\VV ps vs/\Q ps H') X.xe s
def tS:PPs X pos [] [] []:=λZ s O H Q I h=>pairTrees_nil_walk ⟨[],H,I,.nil,h⟩
def p7{k v:C0}{ks:B7<|B8 C0}{vs:B7 C0}{tk b:TE}(A:PE X k tk)(r:PE X v b)(t:PPs X pos ks vs trs) :
  PPs X pos (some k::ks) (v::vs) ((tk,b)::trs):=λZ s O H Q I h=>
 pairTrees_cons_walk (thn (A Z s O H _ I h) λu d ⟨x,H1,I1,l,p⟩=>thn (r Z d O H1 _ I1 p) λC c ⟨y,H2,I2,e,o⟩ =>
  thn (t Z c O H2 _ I2 o) λB D ⟨q,H3,I3,a,m⟩=>⟨(x,y)::q,H3,I3,.cons ⟨l,e⟩ a,m⟩)
def zBk(kvs a:B7<|Key×V):B7<|Key×V:=a.foldl (λb kv=>putK b kv.1 kv.2) kvs
theorem KV.merge:∀{a:B7<|Key×V}{b:B7<|Key×B9}{kvs:B7<|Key×V}{vs:B7<|Key×B9},KV a b->KV kvs vs->KV (zBk kvs a) (merged vs b):=by
 intro a b kvs vs r;unfold KV at r;induction r generalizing kvs vs with
 |nil=>intro q;exact q
 |@cons p q k d h t c=>
  intro r0;have e:KV (putK kvs p.1 p.2) (stored vs q.1 q.2):=by
   have:=r0.put p.1 h.2;rw[<- h.1];exact this
  exact c e
theorem eR:∀(a kvs:B7<|Key×V),(zBk kvs a).length<=kvs.length+a.length
 |[],kvs=>by show kvs.length<=kvs.length+0;lia
 |p::r,kvs=>by
  have c:=eR r<|putK kvs p.1 p.2;have b:=dZ kvs p.1 p.2;show(zBk (putK kvs p.1 p.2) r).length<=_;rw[xAo];lia
theorem gX{P:Program}{w:World}:∀{kvs:B7<|Key×V}{ws:B7<|B9×B9},VV (kvs.map λkv=>(kV kv.1,kv.2)) ws->∃d,Carries (zAj P w) ws d/\KV kvs d
 |[],_,r=>by rw[List.map_nil] at r;cases r;exact⟨[],True.intro,.nil⟩
 |p::kvs,_,r=>by
  rw[xBs] at r;cases r with
  |@cons a b e bs h t=>
   let⟨d,c,q⟩:=gX (P:=P) (w:=w) t;let⟨b1,b2⟩:=b;exact⟨(p.1,b2)::d,⟨il h.1,rfl,c⟩,.cons ⟨rfl,h.2⟩ q⟩
def zG6(trs:B7<|TE×TE):TE:=λO H Q=>∀p,H p=none->zCm trs O (upd H p<|.dK []) λa H2=>H2 p=some (.dK [])/\∃kvs:B7<|Key×V,a=kvs.map (λkv=>(kV kv.1,kv.2))/\kvs.length<=15/\Q (.ref p) (upd H2 p<|.dK<|zBk [] kvs)
def uc{keys:B7<|B8 C0}{values:B7 C0}(h:PPs X pos keys values trs)(b:keys.all (·.isSome)=true)(E:keys.length=values.length)(L:keys≠[])(l:keys.length<=15):PE X (.Dict keys values pos)<|zG6 trs:=by
 intro Z s O H Q I q;have D:=I.hok.fresh<|xAg s.heap.objs.size;have I1:=I.laid (a:=s.heap.objs.size) (o:=.dK []) (h':=s.heap.push {cls:=.type "dict",data:=.dict #[]}) (t':=s.toks) (λ_ _ q=>xAf _ q) (xAg _)<|j4 s.heap I.big;refine wpAny_Dict_walk (knd:=zAj X.prog X.w) b E L l (thn (h Z _ O _ _ I1<|q _ D) λR S m=>?_);let⟨T,H2,I2,k,e,kvs,M,W,v⟩:=m;subst M;let⟨r,c,t⟩:=gX (P:=X.prog) (w:=X.w) k;let⟨z,G,p,r0,N⟩:=vZ I2.hok e;cases r0;refine⟨r,c,N,λh' d B=>⟨.ref s.heap.objs.size,_,?_,rfl,v⟩⟩;have A:(zBk [] kvs).length<=sizeLine:=by
  have K:=eR kvs [];rw[List.length_nil] at K;rw[sizeLine_eq];lia
 have F:∃q,h'.get? s.heap.objs.size=some q:=let ⟨q,_,_,C,_⟩:=d;⟨q,C⟩;exact ji I2 (by rw[e];exact True.intro) B F<|lj A G (t.merge .nil) d
structure M1(X:Cx)(o:C0)(m:Str)(apos:Pos)(e:C0)(cpos:Pos):Prop where
 base:attributeBase o m X.env (eval o X.env)=eval o X.env
 few:((backTo cpos (starEach [e] X.env)).all (λx=>!x.1) && (backToKw cpos (keywordEach [] X.env)).all (λx=>x.1.isSome)
  && decide (([e]:B7 C0).length+([]:B7 Keyword).length+(if([]:B7 Keyword).isEmpty then 0 else 1)<30))=true
 line:(apos.endLine==cpos.line)=true
 trees:backTo cpos (starEach [e] X.env)=[(false,eval e X.env)]
structure M2(X:Cx)(o:C0)(m:Str)(apos:Pos)(e f:C0)(cpos:Pos):Prop where
 base:attributeBase o m X.env (eval o X.env)=eval o X.env
 few:((backTo cpos (starEach [e,f] X.env)).all (λx=>!x.1) && (backToKw cpos (keywordEach [] X.env)).all (λx=>x.1.isSome)
  && decide (([e,f]:B7 C0).length+([]:B7 Keyword).length+(if([]:B7 Keyword).isEmpty then 0 else 1)<30))=true
 line:(apos.endLine==cpos.line)=true
 trees:backTo cpos (starEach [e,f] X.env)=[(false,eval e X.env),(false,eval f X.env)]
section
variable{X:Cx}{Z:B7<|C3×Obj}{O:St}{H:Hp}{s:B'}{a:C3}{kvs:B7<|Key×V}{A:Around}{E:B9->B'->Prop}
def rY(I:Inv X Z O H s)(e:Rd H a<|.dK kvs)(h:∀p k,H p=none->Inv X Z O (upd H p<|.dK kvs) k->Q (.ref p) k):wpAny (model X.prog X.w) A (call (.type "dict") [.ref a]) Q E s:=by
 let⟨z,r,v,c,t⟩:=fQ I.hok e;erw[<-kt_call_dict r t (by rw[<- c.length];exact z) λh' d m=>?_,<-h _ _ (I.hok.fresh<|xAg _)<|I.laid (a:=s.heap.objs.size) (o:=.dK kvs) (t':=s.toks) (λb q l=>?_) (xAg _)<|lj z (beq_eq_false_iff_ne.mpr<|Ne.symm<|xA0 I.big) c d];exact(m.2 b<|xA0<|xA1 l).trans<|xAf _ l
end
end L2
namespace Att
open PySem PySem.W PySem.Calls PyProof.Rows
variable{P:Params}{h:Heap}{l:OpenLaw}{n:Nat}
theorem fU:∀(c:C8)(vs:D0),WellAll P h vs (c.map WData.int)->IntsAre vs c:=by
 intro c;induction c with
 |nil=>
  intro vs w;rw[List.map_nil] at w;cases w;exact .nil
 |cons n c ih=>
  intro vs w;rw[xBs] at w;cases w with
  |cons a b=>
   cases a;exact .cons _ _<|ih _ b
theorem nT(y:l.most=some n){args:B7 WData}{vals:D0}(b:l.row.toRowW.claim.pre args=true)(k:WellAll P h vals args) :
  ∃a vs ns,vals=[Value.ref a]/\args=[WData.list<|ns.map WData.int]/\h.get? a=some {cls:=.type "list",data:=.seq vs.toArray}/\IntsAre vs ns/\ns.length<=n:=by
 have m:WShape.hasAll [] args [.list .int]=true:=(pre_splitW b).1;have o:l.pre.holds [] {args:=args}=true:=(pre_splitW b).2;let⟨d,r,rfl,C,B⟩:=hasAllW_cons m;obtain rfl:=hasAllW_nil B;let⟨D,rfl,A⟩:=hasW_list C;let⟨ns,rfl⟩:=items_int A;have c:ns.length<=n:=by
  unfold OpenLaw.pre at o;have j:(WTm.not<|.lt (.lit<|.int (n:Int))<|.len<|.arg 0).holds [] {args:=[.list<|ns.map .int]}=true:=by
   have j:=(holds_andW o).1;rw[y] at j;exact j
  have i:=condW_of j<|w_not<|w_lt w_lit<|w_len_list<|w_arg rfl;rw[xAa] at i;refine Nat.le_of_not_lt λq=>?_;have v:(n:Int)<((ns.length:Nat):Int):=()
  first
   |(rw[xBd v] at i;exact absurd i ∅)
   |(simp at i;lia)
 cases k with
 |cons t p=>
  cases p;cases t with
  |list x e=>exact⟨_,_,ns,rfl,rfl,x,fU ns _ e,c⟩
def nX(l:OpenLaw)(args:B7 WData):l.row.toRowW.claim.post args (.bool true) args=true:=
 postW_of (r:=l.row.toRowW) (X:=(true==true))
  (show WShape.has [] (.bool true) .bool=true by first|rfl|decide|simp[WShape.has,WShape.arms,WShape.armsAll])
  (show(WTm.eq .res<|.lit<|.bool true).value [] {args:=args,res:=some<|.bool true,after:=args}=some (.bool<|true==true) from w_eq_bool (w_res rfl) w_lit) rfl
def attach_call{q:Program}{b:C5}{XP:(Str->B8 B9)->Heap->Prop}{YP:World->Heap->Prop}{d:DefRec}(J:l.most=some n)(A:d.params.defaults=[])(call:∀(w:World)(s₀ s₁:B')(t v:Str->B8 B9)(fa:C3)(o:Obj)(pm cd e:B9)(a:C3)(vs:D0)(p:C8),
   Ground q b [] XP w s₀ t v s₁.heap->YP w s₁.heap ->
   s₁.heap.get? fa=some o->o.data=.func (docDef d.name d.params d.body d.scope pm cd e)->s₁.heap.CodeRec cd d.name->t d.name=some (.ref fa) ->
   s₁.heap.get? a=some {cls:=.type "list",data:=.seq vs.toArray}->IntsAre vs p->p.length<=n->s₁.gens=#[] ->
   codeAny (model l.prog w) callerA (.call (.ref fa) ⟨[.ref a],[]⟩) (λr m=>r=.ok (.ret<|.bool true)/\OldK s₁.heap m.heap/\m.os=s₁.os/\AllBare m.gens) s₁) :
  WalkO q b XP YP l.row.toRowW d [] (λf vs=>PySem.call f vs):=by
 intro w s₀ s₁ t v G Y fa o pm cd e S kV I N B D y M E vals T i C F x L;obtain rfl:S=.none:=Dflts.none D A;obtain rfl:kV=.none:=Dflts.noKw D;let⟨a,vs,p,rfl,rfl,j,c,k⟩:=nT J i x;refine enter_call (codeAny_mono (call w s₀ s₁ t v fa o pm cd e a vs p G Y I (fd_plain N) B y j c k M) λr m H=>?_);let⟨rfl,R,Q,O⟩:=H;exact⟨.inl ⟨.bool true,.bool true,[],rfl,λ_=>rfl,.bool true,nX l _,λ_=>⟨List.Pairwise.nil,λ_ K=>(nomatch K)⟩⟩,R,Q,O⟩
end Att
namespace L2
open PySem PySem.Spec PyProof.Rows
variable{k n:Nat}{fd:FuncData}{x qual y:Str}{st:Stmt}{env:Env}{scope:Scope}
theorem dE:∀{vs:D0}{a:C8},IntsAre vs a->zAg (a.map V.int) vs
 |_,_,.nil=>.nil
 |_,_,.cons n t h=>.cons ⟨t,rfl⟩<|dE h
def zH9(H:Hp):Prop:=∀b,H b=none\/∃o xs,H b=some (.frz o<|.lst xs)
theorem qY{P:Program}{w:World}{K:xFr}{t N:Str->B8 B9}{CX:CXT}{fa a:C3}{sp:Sp}{s₁:B'}{vs:D0}{ns:C8}(KX:K.In s₁.heap)(D:s₁.heap.Ns mainGlobals t)(hb:s₁.heap.Ns builtinsNs N)(O:∀x:Str,x≠"__name__"->N x=bootBuiltins x)(E:s₁.heap.NoLimit)(hg:s₁.gens=#[])(M:s₁.heap.get? a=some {cls:=.type "list",data:=.seq vs.toArray})(hi:IntsAre vs ns)(T:ns.length<=sizeLine)(hr:zBe k callerA)(F:∀i:Heap,K.In i->i.Ns mainGlobals t->zBb P w K t i CX k fa fd [x] sp)(l:∀(s:B')(u:B9),BindsTo s fd ⟨[u],[]⟩ [(x,u)])(hsp:∀H:Hp,zH9 H->SqL K H a (ns.map V.int)->sp [.ref a] H (λv _=>v=.bl true) λ_ _ _=>False)(Q:∀H e c,CX [] H s₁ (λ_ _ _=>False) e c->False) :
  codeAny (model P w) callerA (.call (.ref fa) ⟨[.ref a],[]⟩) (λr c=>r=.ok (.ret<|.bool true)/\OldK s₁.heap c.heap/\c.os=s₁.os/\AllBare c.gens) s₁:=by
 have S:=dE hi;have A:=hi.length
 -- from an abstract heap in which nothing but the script may be tracked
 have j:∀H:Hp,zH9 H->SqL K H a (ns.map V.int)->HOk P w H s₁.heap->(∀b,H b≠none->b=a)->(H a≠none->K.lookup a=none) ->
   codeAny (model P w) callerA (.call (.ref fa) ⟨[.ref a],[]⟩) (λr c=>r=.ok (.ret<|.bool true)/\OldK s₁.heap c.heap/\c.os=s₁.os/\AllBare c.gens) s₁:=by
  intro H W hS C X hK;have base_of:∀{b:C3}{o:Obj},s₁.heap.get? b=some o->H b=none->(zDn s₁.heap H).get? b=some o:=λe n=>rA e n;have noA:∀{b:C3}{o:Obj}{I:Array DictEntry}{J:Nat},s₁.heap.get? b=some o->o.data=.dict I J->H b=none:=λ{b o I J} e d=>by
   cases q:H b with
   |none=>rfl
   |some u=>
    have R:b=a:=X b (by rw[q];simp);subst R;rw[M] at e;cases e;have d':Data.seq vs.toArray _=Data.dict I J:=d;cases d'
  have nsK:∀{b:C3}{m:Str->B8 B9},s₁.heap.Ns b m->(zDn s₁.heap H).Ns b m:=λ{b m} ⟨o,I,J,e,d,r⟩=>⟨o,I,J,base_of e<|noA e d,d,r⟩
  have G:K.In<|zDn s₁.heap H:=λb o e=>base_of (KX b o e) (by
   cases q:H b with
   |none=>rfl
   |some u=>
    have R:b=a:=X b (by rw[q];simp);subst R;rw[hK<|by rw[q];simp] at e;cases e)
  have hM:Mod K t<|zDn s₁.heap H:=⟨G,nsK D,⟨N,nsK hb,O⟩,let ⟨mc,h1,h2⟩:=E;⟨mc,nsK h1,h2⟩⟩
  have e0:zEl P w K t (zDn s₁.heap H) callerA [] s₁ H:=⟨rfl,hM,λb o e=>ux e,Nat.le_of_eq<|oF _ _,trivial,λb hb=>absurd (show b∈([]:B7 C3) from hb) ⋯,C,.of_eq hg⟩
  refine codeAny_mono ((F _ G<|nsK D).run callerA [] s₁ H ⟨[.ref a],[]⟩ [.ref a] [.ref a] _ _ hr e0 (l s₁<|.ref a) (.cons rfl .nil)<|hsp H W hS) λr c h=>?_;cases r with
  |error e=>exact(Q H e c h).elim
  |ok fl=>
   cases fl with
   |next=>exact False.elim h
   |brk=>exact False.elim h
   |cont=>exact False.elim h
   |ret u=>
    let⟨v,H',os,L,un,B,r',q⟩:=h;have q':v=.bl true:=q;subst q';obtain rfl:u=Value.bool true:=r';refine⟨rfl,OldK.of_keep λb o e=>?_,os,L⟩;cases q:H b with
    |none=>exact un.keep b o e q (by intro z;exact absurd (show b∈([]:B7 C3) from z) ⋯) ⋯
    |some u=>
     rcases W b with z|⟨ob,xs,z⟩
     .rw[q] at z;cases z
     .have Z:=un.frzs b ob _ z;let⟨Y,_⟩:=C b _ z;let⟨e2,_⟩:=B b _ Z;rw[e] at Y;cases Y;exact e2
 cases hk:K.lookup a with
 |some o=>
  -- the script is one of the module's own objects
  have e:=KX a o hk;rw[M] at e;cases e;refine j (λ_=>none) (λ_=>.inl rfl) (.inr ⟨_,vs.toArray,_,hk,rfl,rfl,rfl,by rw[xAp,A];exact T,by simpa using S⟩) (λb u z=>by have p:(none:B8 HO)=some u:=z;cases p) (λb z=>absurd rfl z) λz=>absurd rfl z
 |none=>
  refine j (λb=>if b=a then some (.frz {cls:=.type "list",data:=.seq vs.toArray}<|.lst<|ns.map V.int) else none) (λb=>?_) (.inl<|.inr ⟨{cls:=.type "list",data:=.seq vs.toArray},xCg rfl⟩) (λb u z=>?_) (λb z=>?_) λ_=>hk
  .by_cases hb:b=a
   .exact .inr ⟨_,_,xCg hb⟩
   .exact .inl<|xCf hb
  .by_cases hb:b=a
   .have p:=(xCg hb).symm.trans z;cases p;subst hb;exact⟨M,by rw[xAa];exact T,vs,_,S,M⟩
   .have p:=(xCf hb).symm.trans z;cases p
  .by_cases hb:b=a
   .exact hb
   .exact absurd (xCf hb) z
def walk_of{l:PySem.W.OpenLaw}{q:Program}{j:C5}{XP:(Str->B8 B9)->Heap->Prop}{YP:World->Heap->Prop}{d:DefRec}{K:Params->xFr}{CX:World->CXT}{sp:World->Sp}(L:l.most=some n)(C:n<=sizeLine)(E:d.params.defaults=[])(J:zBe k callerA)(O:∀(w:World)(h:Heap),YP w h->(K w.params).In h)(F:∀(w:World)(p:Str->B8 B9)(fa:C3)(h:Heap),(K w.params).In h->h.Ns mainGlobals p->p d.name=some (.ref fa) ->
   ∃fd:FuncData,(∀(s:B')(u:B9),BindsTo s fd ⟨[u],[]⟩ [(x,u)]) /\
    ∀c:Heap,(K w.params).In c->c.Ns mainGlobals p->zBb l.prog w (K w.params) p c (CX w) k fa fd [x] (sp w))(B:∀(w:World)(H:Hp)(a:C3)(t:C8),t.length<=n->zH9 H->SqL (K w.params) H a (t.map V.int)->sp w [.ref a] H (λv _=>v=.bl true) λ_ _ _=>False)(I:∀(w:World)(H:Hp)(s:B')(e:B9)(A:B'),CX w [] H s (λ_ _ _=>False) e A->False) :
  PySem.W.WalkO q j XP YP l.row.toRowW d [] (λf vs=>PySem.call f vs):=by
 refine Att.attach_call L E λw s₀ s₁ p X fa o pm cd S a vs t G Y Z hd N D r m i M=>?_;have KX:=O w _ Y;let⟨fd,hb,R⟩:=F w p fa _ KX G.T.g D;exact qY KX G.T.g G.T.b G.T.builtins G.T.nolimit M r m (xCk i C) J R hb (λH Q P=>B w H a t i Q P) λH e A=>I w H s₁ e A
noncomputable def zAt(s:Stmt)(j:Nat):Stmt:=match s with
 |.ClassDef _ _ _ a _ _ _ _ _ _ _=>a.getD j<|.Pass ⟨0,0,0,0⟩
 |_=>.Pass ⟨0,0,0,0⟩
noncomputable def zAr(s:Stmt):Arguments:=match s with
 |.FunctionDef _ a _ _ _ _ _ _ _ _=>a
 |_=>{posonlyargs:=[],args:=[],vararg:=none,kwonlyargs:=[],kw_defaults:=[],kwarg:=none,defaults:=[]}
noncomputable def zAk(s:Stmt):B7 Stmt:=match s with
 |.FunctionDef _ _ b _ _ _ _ _ _ _=>b
 |_=>[]
noncomputable def zAd(s:Stmt):Scope:=match s with
 |.FunctionDef _ _ _ _ _ _ sc _ _ _=>sc
 |_=>{kind:=.function,names:=[],isGenerator:=false,isCoroutine:=false}
structure Fun(K:xFr)(x qual:Str)(st:Stmt)(f:C3)(fd:FuncData):Prop where
 ex:∃(oc:B9) (od:B8 C3) (kV doc pm:B9) (an:B8 C3) (cdv ct:B9) (osl:Array (B8 B9)),
  fd=W.fnOf x qual (zAr st) (zAk st) (zAd st) .none kV doc pm an cdv ct/\K.lookup f=some ⟨oc,od,.func fd,osl⟩/\W.codeIn K cdv qual=true
 kp:W.keepIn K (.ref f)=true
section
variable{P:Program}{w:World}{K:xFr}{mg:Str->B8 B9}{base:Heap}
def Fun.binds{f:C3}{ps:C5}(F:Fun K x qual st f fd)(h:∀(kV a pm:B9)(c:B8 C3)(b ct:B9)(us:D0),us.length=ps.length->bindArgs (W.fnOf x qual (zAr st) (zAk st) (zAd st) .none kV a pm c b ct) ⟨us,[]⟩=pure (ps.zip us)):zAy K fd ps []:=by
 let⟨i,od,kV,a,pm,c,b,ct,d,rfl,j,e⟩:=F.ex;exact .all<|h kV a pm c b ct
def rE{f:C3}{h:B9}{od e:B8 C3}{d:Array<|B8 B9}{kV b pm a ct:B9}(l:K.lookup f=some ⟨h,od,.func<|W.fnOf x qual (zAr st) (zAk st) (zAd st) .none kV b pm e a ct,d⟩)(c:W.codeIn K a qual=true)(k:W.keepIn K (.ref f)=true):Fun K x qual st f<|W.fnOf x qual (zAr st) (zAk st) (zAd st) .none kV b pm e a ct:=⟨⟨h,od,kV,b,pm,e,a,ct,d,rfl,l,c⟩,k⟩
end
def zC5(h:n<=1000):n<sizeLine:=Nat.lt_of_le_of_lt h ∅
def zGi(H H':Hp):Prop:=∀b o,H b=some o->H' b=some o
def zGi.refl(H:Hp):zGi H H:=λ_ _ h=>h
section
variable{X:Cx}
def oU:zAl X (.builtin "len") λxs H Q=>∃a kvs,xs=[V.ref a]/\H a=some (.dK kvs)/\Q (.int kvs.length) H:=by
 intro Z s O H xs us Q I r h;let⟨a,kvs,rfl,c,q⟩:=h;let⟨u,rfl,b⟩:=zBa r;cases b;exact AV I (.inl c) λt d I'=>⟨.int kvs.length,H,I',⟨t,rfl⟩,q⟩
end
noncomputable def zAm(X:Cx)(N:C5)(scope:Scope)(a:B7<|Str×C3)(C:C3)(s:B')(H:Hp)(fp:B7 C3):Cx where
 prog:=X.prog
 w:=X.w
 K:=X.K
 mg:=X.mg
 base:=X.base
 A:=X.A
 N:=N
 s₀:=s
 H₀:=H
 env:=compEnvC scope a C X.env
 outer:=X.stack
 stack:=X.stack
 ex:=fp
 fn:=λ_=>false
 calm:=X.calm
 pn:=[]
 xe:=λ_ _=>False
theorem fM{k:NameKind}(h:(relabel scope env).names.lookup y=some k):∃b,(y,b)∈scope.names/\(k=b\/(b=.free/\k=.cell)):=by
 unfold relabel at h;dsimp only at h;revert h;generalize scope.names=l;intro h;induction l with
 |nil=>simp at h
 |cons a r i=>
  let⟨n,c⟩:=a;rw[xBs] at h;by_cases hc:(c==NameKind.free&&env.scope.kind == .function&&env.kindOf n==some .cell)=true
  .dsimp only at h;rw[xCg hc] at h;rw[List.lookup_cons] at h;by_cases e:y==n
   .rw[e] at h;have d:y=n:=eq_of_beq e;subst d;have j:c=.free:=by
     rw[xCh,xCh] at hc;exact eq_of_beq hc.1.1
    subst j;exact⟨.free,xAr,.inr ⟨rfl,(xB3 h).symm⟩⟩
   .rw[Bool.eq_false_iff.mpr e] at h;let⟨b,m,z⟩:=i h;exact⟨b,xAs _ m,z⟩
  .dsimp only at h;rw[xCf hc] at h;rw[List.lookup_cons] at h;by_cases e:y==n
   .rw[e] at h;have d:y=n:=eq_of_beq e;subst d;exact⟨c,xAr,.inl (xB3 h).symm⟩
   .rw[Bool.eq_false_iff.mpr e] at h;let⟨b,m,z⟩:=i h;exact⟨b,xAs _ m,z⟩
theorem da(h:scope.names.lookup y=some .free):(relabel scope env).names.lookup y=some .cell\/(relabel scope env).names.lookup y=some .free:=by
 unfold relabel;dsimp only;revert h;generalize scope.names=l;intro h;induction l with
 |nil=>simp at h
 |cons a r b=>
  let⟨n,c⟩:=a;rw[xBs];rw[List.lookup_cons] at h;by_cases hc:(c==NameKind.free&&env.scope.kind == .function&&env.kindOf n==some .cell)=true
  .dsimp only;rw[xCg hc];rw[List.lookup_cons];by_cases e:y==n
   .rw[e];exact .inl rfl
   .rw[Bool.eq_false_iff.mpr e] at h⊢;exact b h
  .dsimp only;rw[xCf hc];rw[List.lookup_cons];by_cases e:y==n
   .rw[e] at h⊢;exact .inr h
   .rw[Bool.eq_false_iff.mpr e] at h⊢;exact b h
noncomputable def zC0(O:St)(a:C7):St:=a.map λk=>(O[k]?).join
section
variable{X:Cx}
def oV:zAl X (.builtin "isinstance") λxs H Q=>∃x n t b,xs=[x,V.ty n]/\zCb X.K H x t/\W.kitOne X.K t (.type n)=some b/\Q (.bl b) H:=by
 intro Z s O H xs us Q I r h;let⟨x,n,t,b,rfl,ty,e,q⟩:=h;let⟨u,c,rfl,d,a⟩:=zD3 r;cases (show c=Value.type n from a);exact oB I d ty e λtk=>⟨.bl b,H,I.tok tk,rfl,q⟩
def ut:OpR X (binaryOp .Mult)<|rI (λi j=>IntMulOk i j) λi j=>.int<|i*j:=opI λ_ _ _ _ _ _ _ a q=>mul_int q a
def qE:OpR X (binaryOp .FloorDiv)<|rI (λi j=>j≠0/\Builtin.divisionGoesByPylong i j=false) λi j=>.int<|i.fdiv j:=opI λ_ _ _ _ _ _ _ a q=>floordiv_int a.1 q<|.inl a.2
def rQ{x:V}(h:zBn x=true):eqV x x=true:=by
 cases x <;> first|rfl|(exact absurd (show false=true from h) ∅)|(simp[eqV])
end
def small(h:n<=1000):n<=sizeLine:=Nat.le_of_lt<|zC5 h
def cZ{H:Hp}{p:C3}(h:H p=none)(o:HO):zGi H<|upd H p o:=λb u q=>by rw[bt<|cy q h];exact q
def cO{xs:C9}{us:D0}(r:zAg xs us){j:Nat}(b:j<us.toArray.size):∃x,xs[j]?=some x/\zAh x us.toArray[j]:=by
 rw[xAp] at b;have a:j<xs.length:=by rw[r.length];exact b
 let⟨u,e,q⟩:=r.get<|xAk a;refine⟨xs[j],xAk a,?_⟩;rw[List.getElem_toArray];have:us[j]=u:=(xAq.mp e).2;rw[this];exact q
end L2
namespace L2
open PySem PySem.Spec PyProof.Rows PySem.Builtin PySem.Builtin.ObjectAttr
theorem zAe.there{P:Program}{w:World}{H:Hp}{h:Heap}{a:C3}{o:HO}(x:zAe P w H h a o):∃u,h.get? a=some u:=by
 cases o with
 |lst c=>let⟨_,_,_,_,e⟩:=x;exact⟨_,e⟩
 |tup c=>let⟨_,_,_,d,e,_⟩:=x;exact⟨_,e⟩
 |dK b=>let⟨_,_,_,_,o,_,_,e,_⟩:=x;exact⟨_,e⟩
 |dT b=>let⟨_,_,_,_,o,_,_,e,_⟩:=x;exact⟨_,e⟩
 |set S n=>let⟨o,_,_,_,e,_⟩:=x;exact⟨_,e⟩
 |ins C l fs=>let⟨_,_,_,e,_⟩:=x;exact⟨_,e⟩
 |own y=>let⟨_,e⟩:=x;exact⟨_,e⟩
 |xd fs=>let⟨_,⟨_,_,_,e,_⟩,_⟩:=x;exact⟨_,e⟩
 |rng j k=>let⟨_,_,_,e⟩:=x;exact⟨_,e⟩
 |frz d u=>let⟨e,_⟩:=x;exact⟨_,e⟩
 |tbl i=>exact⟨_,(show h.get? a=some _ from x)⟩
 |met f y=>exact⟨_,(show h.get? a=some _ from x)⟩
 |ext φ=>let⟨_,e,_⟩:=x;exact e
section
variable{X:Cx}{Z:B7<|C3×Obj}{O:St}{H:Hp}{s:B'}{h':Heap}
def Inv.laidN{a:C3}{o:HO}{t':Nat}(I:Inv X Z O H s)(k:∀b u,s.heap.get? b=some u->h'.get? b=some u)(i:s.heap.get? a=none)(new:zAe X.prog X.w (upd H a o) h' a o) :
  H a=none/\Inv X Z O (upd H a o) {s with heap:=h',toks:=t'}:=by
 have d:H a=none:=by
  cases q:H a with
  |none=>rfl
  |some u=>
   let⟨v,e⟩:=(I.hok a u q).there;rw[i] at e;cases e
 refine⟨d,I.un ⟨λb u q _ _ _=>k b u q,λb u q _ _ _=>⟨u.slots,k b u q⟩,λb u q n _=>?_,λb u q _=>⟨u,k b u q⟩,λb h q=>?_,λb u h q=>?_,λb j q=>⟨#[],?_⟩⟩ λb u e=>?_⟩
 .rw[bt λz=>by rw[z,i] at q;cases q];exact n
 .rw[bt<|cy q d];exact q
 .rw[bt<|cy q d];exact q
 .rw[bt<|cy q d,q,Array.append_empty]
 .by_cases hb:b=a
  .subst hb;rw[bv] at e;cases e;exact new
  .rw[bt hb] at e;exact(I.hok b u e).stay (λc v _ q=>k c v q) (λc q=>by rw[bt<|cy q d];exact q) λc h q=>by rw[bt<|cy q d];exact q
end
def zAi(CX:CXT)(X:Cx)(Ex:St->XK):Prop:=∀(Z:B7<|C3×Obj)(O:St)(H:Hp)(s:B')(b:B9)(a:B'),Inv X Z O H s->CX X.stack H s (Ex O) b a->X.xe b a
def zC4(sp:Sp)(a:C9)(Ex:St->XK)(t:TA):TE:=λO H Q=>t O H λb H1=>sp (b++a) H1 Q<|Ex O
def zC2(C:C3)(m:Str)(sp:Sp)(b:C9)(Ex:St->XK)(d:TE)(t:TA):TE:=λO H Q=>d O H λx H1=>∃a e fs,x=.ref a/\H1 a=some (.ins C e fs)/\fs.lookup m=none /\
 t O H1 λc H2=>sp (x::(c++b)) H2 Q<|Ex O
section
variable{X:Cx}{CX:CXT}{k:Nat}{f C:C3}{fd:FuncData}{ps:C5}{sp:Sp}{dvs:C9}{ds:D0}{Ex:St->XK}{x m:Str}{p pos apos:Pos}{e o:C0}{es:B7 C0}{ta:TE}{t:TA}
theorem f7{Z:B7<|C3×Obj}{O:St}{H:Hp}{s:B'}{Q:VK}{us:D0}{vs:C9}(F:zBb X.prog X.w X.K X.mg X.base CX k f fd ps sp)(d:zBe k X.A)(hb:zAy X.K fd ps ds)(j:zAg dvs ds)(c:zAi CX X Ex)(I:Inv X Z O H s)(r:zAg vs us)(h:sp (vs++dvs) H Q<|Ex O):wpAny (model X.prog X.w) X.A (call (.ref f) us) (EP X Z O Q) X.xe s:=by
 have r2:zAg (vs++dvs)<|us++ds:=r.append j;have i:(us++ds).length=ps.length:=by rw[<- r2.length];exact F.len _ _ _ _ h
 refine wpAny_call (codeAny_mono (F.run X.A X.stack s H ⟨us,[]⟩ (us++ds) (vs++dvs) Q (Ex O) d I.env0 (hb s us I.kIn i) r2 h) λr b a=>?_);cases r with
 |error e=>exact c Z O H s e b I a
 |ok fl=>
  cases fl with
  |ret u=>exact I.after a
  |next=>exact False.elim a
  |brk=>exact False.elim a
  |cont=>exact False.elim a
def qu(F:zBb X.prog X.w X.K X.mg X.base CX k f fd ps sp)(d:zBe k X.A)(l:Gl X x)(i:X.mg x=some (.ref f))(j:W.keepIn X.K (.ref f)=true)(hb:zAy X.K fd ps ds)(v:zAg dvs ds)(c:zAi CX X Ex)(y:PA X (e::es) t)(b:(x==("__debug__":Str))=false:=by decide)(n:starEach (e::es) X.env=(false,eval e X.env)::starEach es X.env:=by rfl)(a:(backTo pos<|starEach es X.env).any (·.1)=false:=by rfl) :
  PE X (.Call (.Name x p) (e::es) [] pos) (zC4 sp dvs Ex t):=by
 intro Z s O H Q I h;erw[<-wpAny_Call_Name_kw (fj I l i ?_ b),<-W.callWith_K (h₀:=X.base) I.ok.mod.kin j (thn (y pos Z s O H _ I h) λus D ⟨B,H1,I1,r,q⟩=>⟨I1.kIn,?_⟩) n a,<-f7 F d hb v c I1 r q]
def oi(F:zBb X.prog X.w X.K X.mg X.base CX k f fd ps sp)(c:zBe k X.A)(j:Gl X x)(d:X.mg x=some (.ref f))(i:W.keepIn X.K (.ref f)=true)(hb:zAy X.K fd ps ds)(l:zAg dvs ds)(b:zAi CX X Ex)(a:(x==("__debug__":Str))=false:=by decide):PE X (.Call (.Name x p) [] [] pos)<|zC4 sp dvs Ex zGo:=by
 intro Z s O H Q I h;refine wpAny_Call_Name_kw (fj I j d ?_ a);exact W.callWith_K0 I.kIn i (f7 (us:=[]) F c hb l b I .nil h)
def qj{pl:Sem C4}(E:PE X o ta)(c:Cls X.K C)(i:zEk X.K C m f)(F:zBb X.prog X.w X.K X.mg X.base CX k f fd ps sp)(D:zBe k X.A)(hb:zAy X.K fd ps ds)(G:zAg dvs ds)(y:zAi CX X Ex)(J:PA X (e::es) t)(b:starEach (e::es) X.env=(false,eval e X.env)::starEach es X.env:=by rfl)(d:(backTo pos<|starEach es X.env).any (·.1)=false:=by rfl)(B:eval (.Call (.Attribute o m apos) (e::es) [] pos) X.env=(do
   let ov <- eval o X.env
   standAt apos.atName
   let (f,first) <- holding [ov] (getMethod ov m pl)
   callWith pos f first (backTo pos<|starEach (e::es) X.env) (backToKw pos<|keywordEach [] X.env)):=by rfl) :
  PE X (.Call (.Attribute o m apos) (e::es) [] pos) (zC2 C m sp dvs Ex ta t):=by
 intro Z s O H Q I h;refine W.methodCall_KW (pl:=pl) (thn (E Z s O H _ I h) λu j ⟨x,H1,I1,n,a,P,fs,L,M,l,q⟩=>?_) B;subst L;obtain rfl:u=Value.ref a:=n;erw[gS I1 M c i l,<-W.callWith_K (first:=[.ref a]) (h₀:=X.base) I.ok.mod.kin i.kp (thn (J pos Z j O H1 _ I1 q) λus N ⟨vs,H2,I2,r,v⟩=>⟨I2.kIn,?_⟩) b d,<-f7 (us:=.ref a::us) (vs:=.ref a::vs) F D hb G y I2 (.cons rfl r) v]
def og{pl:Sem C4}(r:PE X o ta)(c:Cls X.K C)(b:zEk X.K C m f)(F:zBb X.prog X.w X.K X.mg X.base CX k f fd ps sp)(n:zBe k X.A)(hb:zAy X.K fd ps ds)(v:zAg dvs ds)(i:zAi CX X Ex)(j:eval (.Call (.Attribute o m apos) [] [] pos) X.env=(do
   let ov <- eval o X.env
   standAt apos.atName
   let (f,first) <- holding [ov] (getMethod ov m pl)
   callWith pos f first (backTo pos<|starEach [] X.env) (backToKw pos<|keywordEach [] X.env)):=by rfl) :
  PE X (.Call (.Attribute o m apos) [] [] pos) (zC2 C m sp dvs Ex ta zGo):=by
 intro Z s O H Q I h;refine W.methodCall_KW (pl:=pl) (thn (r Z s O H _ I h) λu D ⟨x,H1,I1,d,a,E,fs,y,B,l,q⟩=>?_) j;subst y;obtain rfl:u=Value.ref a:=d;erw[gS I1 B c b l,<-W.callWith_K0 (first:=[.ref a]) I1.kIn b.kp<|f7 (us:=[.ref a]) (vs:=[.ref a]) F n hb v i I1 (.cons rfl .nil) q]
end
end L2
namespace L2
open PySem PySem.Spec PyProof.Rows
inductive Al(H:Hp):Nat->V->V->Prop where
 |flat {n:Nat} {x:V}:zBn x=true->Al H n x x
 |same {n:Nat} {a:Addr}:Al H n (.ref a) (.ref a)
 |tup {n:Nat} {a b:Addr} {xs ys:List V}:H a=some (.tup xs)->H b=some (.tup ys)->xs.length=ys.length->(∀(j:Nat)(x y:V),xs[j]?=some x->ys[j]?=some y->Al H n x y)->Al H (n+1) (.ref a) (.ref b)
 |lst {n:Nat} {a b:Addr} {xs ys:List V}:H a=some (.lst xs)->H b=some (.lst ys)->xs.length=ys.length->(∀(j:Nat)(x y:V),xs[j]?=some x->ys[j]?=some y->Al H n x y)->Al H (n+1) (.ref a) (.ref b)
theorem gu{P:Program}{w:World}{H:Hp}{s:B'}(d:HOk P w H s.heap){n:Nat}{x y:V}(h:Al H n x y):∀{A:Around}{u v:B9},zAh x u->zAh y v->A.units+n<cLine->SeqAt.EqAt A s u v true:=by
 induction h with
 |@flat n x f=>
  intro A u v r1 r2 _;have:=rT (A:=A) (s:=s) r1 r2 f f;rw[rQ f] at this;exact this
 |@same n a=>
  intro A u v r1 r2 _;cases (show u=Value.ref a from r1);cases (show v=Value.ref a from r2);exact SeqAt.EqAt.same _
 |@tup n a b o l I G F _ t=>
  intro A u v r1 r2 L;cases (show u=Value.ref a from r1);cases (show v=Value.ref b from r2);by_cases hab:a=b
  .subst hab;exact SeqAt.EqAt.same _
  .let⟨_,its,k,t1⟩:=(show zAe P w H s.heap a (.tup o) from d a _ I)
   let⟨_,c,i,t2⟩:=(show zAe P w H s.heap b (.tup l) from d b _ G)
   have B:∀j (N:j<its.toArray.size) (M:j<c.toArray.size),SeqAt.EqAt A.in1 s its.toArray[j] c.toArray[j]<|(λ_=>true) j:=λj r q=>by
    let⟨p,K,D⟩:=cO k r;let⟨m,J,C⟩:=cO i q;exact t j p m K J D C (by show A.units+1+n<cLine;lia)
   erw[SeqAt.EqAt.of_refs hab];have:=SeqAt.RcAt.tuples (e:=λ_=>true) t1 t2 () B;have E:((List.range<|min its.toArray.size c.toArray.size).all (λ_=>true)&&its.toArray.size==c.toArray.size)=true:=by
    rw[xAp,xAp,<- k.length,<- i.length,F];simp
   rw[E] at this;exact this
 |@lst n a b o l I G F _ t=>
  intro A u v r1 r2 L;cases (show u=Value.ref a from r1);cases (show v=Value.ref b from r2);by_cases hab:a=b
  .subst hab;exact SeqAt.EqAt.same _
  .let⟨_,its,R,k,t1⟩:=(show zAe P w H s.heap a (.lst o) from d a _ I)
   let⟨_,c,Q,i,t2⟩:=(show zAe P w H s.heap b (.lst l) from d b _ G)
   have B:∀j (N:j<its.toArray.size) (M:j<c.toArray.size),SeqAt.EqAt A.in1 s its.toArray[j] c.toArray[j]<|(λ_=>true) j:=λj r q=>by
    let⟨p,K,D⟩:=cO k r;let⟨m,J,C⟩:=cO i q;exact t j p m K J D C (by show A.units+1+n<cLine;lia)
   erw[SeqAt.EqAt.of_refs hab];have O:its.toArray.size=c.toArray.size:=by rw[xAp,xAp,<- k.length,<- i.length,F]
   have:=SeqAt.RcAt.lists (e:=λ_=>true) ⟨_,t1,rfl,_,rfl⟩ ⟨_,t2,rfl,_,rfl⟩ O () B;have E:(List.range its.toArray.size).all (λ_=>true)=true:=xCx.mpr λ_ _=>rfl;rw[E] at this;exact this
section
variable{X:Cx}
def rAl(b:C4):R2:=λx y H Q=>∃p q c a n,x=.ref p/\y=.ref q/\H p=some (.tup c)/\H q=some (.tup a)/\c.length=a.length/\n<=90/\(∀(j:Nat)(x y:V),c[j]?=some x->a[j]?=some y->Al H n x y)/\Q (.bl b) H
def ur(N:X.A.units+100<cLine):OpR X (compareOp .NotEq)<|rAl false:=by
 intro Z s O H x y v u Q I r p h;let⟨a,b,m,k,n,rfl,rfl,J,G,F,P,M,q⟩:=h;cases (show v=Value.ref a from r);cases (show u=Value.ref b from p);let⟨_,its,i,t1⟩:=(show zAe X.prog X.w H s.heap a (.tup m) from I.hok a _ J)
 let⟨_,c,d,t2⟩:=(show zAe X.prog X.w H s.heap b (.tup k) from I.hok b _ G)
 have C:∀j (S:j<its.toArray.size) (R:j<c.toArray.size),SeqAt.EqAt X.A.in1 s its.toArray[j] c.toArray[j]<|(λ_=>true) j:=λj B t=>by
  let⟨o,L,E⟩:=cO i B;let⟨l,K,D⟩:=cO d t;exact gu I.hok (M j o l L K) E D (by show X.A.units+1+n<cLine;lia)
 erw[(SeqAt.RcNeAt.tuples (e:=λ_=>true) t1 t2 () C) X.prog X.w X.xe _,bw I q];rw[xAp,xAp,<- i.length,<- d.length,F];simp
def uv(N:X.A.units+100<cLine):OpR X (compareOp .Eq)<|rAl true:=by
 intro Z s O H x y v u Q I r p h;let⟨a,b,m,k,n,rfl,rfl,J,G,F,P,M,q⟩:=h;cases (show v=Value.ref a from r);cases (show u=Value.ref b from p);let⟨_,its,i,t1⟩:=(show zAe X.prog X.w H s.heap a (.tup m) from I.hok a _ J)
 let⟨_,c,d,t2⟩:=(show zAe X.prog X.w H s.heap b (.tup k) from I.hok b _ G)
 have C:∀j (S:j<its.toArray.size) (R:j<c.toArray.size),SeqAt.EqAt X.A.in1 s its.toArray[j] c.toArray[j]<|(λ_=>true) j:=λj B t=>by
  let⟨o,L,E⟩:=cO i B;let⟨l,K,D⟩:=cO d t;exact gu I.hok (M j o l L K) E D (by show X.A.units+1+n<cLine;lia)
 erw[SeqAt.eq_tupleAt (e:=λ_=>true) t1 t2 () C,bw I q];rw[xAp,xAp,<- i.length,<- d.length,F];simp
end
end L2
namespace HT
open PySem PyProof.Rows
section
open PySem.SeqAt
open PySem.AutoSeq1 (wpAny_loadPart')
open PySem.MeetsSeq PySem.MeetsSeq2 PySem.MeetsSeq3
section
variable{prog:Program}{w:World}{A:Around}{E:B9->B'->Prop}{s:B'}
def getItem_tuple_all{t b:C3}{items:Array B9}{j i:B9}{lo hi:B8 Int}{Q:B9->B'->Prop}(a:IsTup s.heap t items)(l:s.heap.IsSliceOf b j i .none)(pl:IsPart j lo)(m:IsPart i hi)(k:sIx items.size 0 lo=0/\sIx items.size items.size hi=items.size)(h:Q (.ref t) s):wpAny (model prog w) A (getItem (.ref t)<|.ref b) Q E s:=by
 have p:sIx items.size items.size hi<=items.size:=pM _ _ (xAg _) hi;let⟨n,c,d,o⟩:=id l;have e:s.TypeIs (.ref b) "slice":=⟨n,c,d⟩
 unfold getItem;try with_reducible refine xDc ?_
 first|refine xAd (xAe ?_)|skip
 refine xAd<|wpAny_sequenceKey a.typeIs ∅ ?_;refine xAd (wpAny_callSpecial?_slot (name:=Str.ofString "__getitem__") a.typeIs PyProof.Rows.slot_tuple_getitem
  (wpAny_call_entry PyProof.Rows.slot_tuple_getitem a.typeIs entry_tuple_getitem ?_<|args_tuple_getitem _ _))
 show wpAny _ _ (Builtin.Tuple.tupleItemsOf (.ref t)>>=_) _ _ s;erw[<-xAd<|tupleItemsOf_ a ?_,<-xAd<|wpAny_typeOf e ?_];rw[xCg ∅];refine xAd<|dG l pl m ?_;show wpAny _ _ (if(((sIx items.size 0 lo:Nat):Int)==0&&(1:Int)==1&&(sIx items.size items.size hi-sIx items.size 0 lo)==items.size)=true then _ else _) _ _ s;rw[xCg<|by rw[k.1,k.2];simp];erw[xAd];unfold Builtin.Tuple.tupleIsExact;refine xAd<|wpAny_typeOf a.typeIs<|xAe ?_;rw[xCg ∅];refine xAd<|wpAny_rule ?_;exact xAe ⟨_,rfl,xAe h⟩
end
end
end HT
namespace L2
open PySem PySem.Spec PyProof.Rows
def zIl(K:xFr):V->B8 Int->B8 Int->Hp->VK->Prop:=λx c d H Q=>∃a b,x=.ref a/\SqT K H a b/\(HT.sIx b.length 0 c=0/\HT.sIx b.length b.length d=b.length)/\Q (.ref a) H
def lN{X:Cx}:SlR X<|zIl X.K:=by
 intro Z s O H x v n m p y o Q I e l pl i h;let⟨a,d,rfl,j,k,q⟩:=h;cases e;let⟨its,r,c,t⟩:=I.tuple j;have b:its.toArray.size=d.length:=by rw[xAp];exact r.length.symm
 refine⟨"tuple",_,PyProof.Rows.slot_tuple_getitem.lookup,c.typeIs,?_⟩;exact HT.getItem_tuple_all c l pl i (by rw[b];exact k) ⟨.ref a,H,I,rfl,q⟩
end L2
namespace SetA
open PySem PySem.SetTable
variable{mask k i j n wanted:Nat}{xs:Array Nat}{J:Type}{t:SetTable}{owner:Array<|B8 Nat}{hashes:Array Int}{l:B7<|Int×B9}{Q:Array (Int×B9)->B'->Prop}
noncomputable def g:Nat->Nat
 |0=>0
 |n+1=>5*g n+1
theorem vT(n:Nat):5^n=4*g n+1:=by
 induction n with
 |zero=>rfl
 |succ n a=>rw[Nat.pow_succ,a];simp only[g];lia
def u(n x:Nat):Nat:=5^n*x+g n
def pi(n x:Nat):u (n+1) x=5*u n x+1:=by
 unfold u;rw[Nat.pow_succ];simp only[g];rw[Nat.mul_add,<- Nat.mul_assoc,Nat.mul_comm (5^n) 5];lia
theorem vA(m n x:Nat):u (n+m) x=5^m*u n x+g m:=by
 induction m with
 |zero=>simp[g]
 |succ m a=>
  rw[<- Nat.add_assoc,pi,a,Nat.pow_succ];simp only[g];rw[Nat.mul_add,<- Nat.mul_assoc,Nat.mul_comm (5^m) 5];lia
theorem AA(k:Nat):∃c,g (2^k)=2^k*(2*c+1):=by
 induction k with
 |zero=>exact⟨0,rfl⟩
 |succ k a=>
  let⟨c,b⟩:=a;have d:g (2^(k+1))=5^(2^k)*g (2^k)+g (2^k):=by
   have e:=vA (2^k) (2^k) 0;rw[<- Nat.two_mul,Nat.mul_comm 2,<- Nat.pow_succ] at e;simpa [u] using e
  rw[d,vT,b,Nat.pow_succ];generalize 2^k=P;refine⟨2*c*(P*(2*c+1))+P*(2*c+1)+c,?_⟩
  grind
theorem met(k:Nat):∀x j:Nat,∃n,n<2^k/\u n x%2^k=j%2^k:=by
 induction k with
 |zero=>exact λx j=>⟨0,∅,by simp[Nat.mod_one]⟩
 |succ k b=>
  intro x j;let⟨n,q,e⟩:=b x j;let⟨c,d⟩:=AA k;have r:0<2^k:=Nat.two_pow_pos k;have m:u (n+2^k) x=u n x+2^k+2*2^k*(2*(2*c+1)*u n x+c):=by
   rw[vA,vT,d];generalize 2^k=P;generalize u n x=y
   grind
  rw[Nat.pow_succ,Nat.mul_comm];generalize 2^k=P at *;by_cases h:u n x%(2*P)=j%(2*P)
  .exact⟨n,(),h⟩
  .refine⟨n+P,(),?_⟩;rw[m,Nat.add_mul_mod_self_left];generalize u n x=y at *;have B:y%(2*P)%P=y%P:=Nat.mod_mul_left_mod y 2 P;have A:j%(2*P)%P=j%P:=Nat.mod_mul_left_mod j 2 P;have v:(y+P)%(2*P)%P=y%P:=by rw[Nat.mod_mul_left_mod,Nat.add_mod_right]
   have b1:y%(2*P)<2*P:=Nat.mod_lt _ ();have b2:j%(2*P)<2*P:=Nat.mod_lt _ ();have o:(y+P)%(2*P)=(y%(2*P)+P)%(2*P):=by rw[Nat.add_mod,Nat.mod_eq_of_lt<|show P<2*P by lia]
   rw[o];generalize y%(2*P)=y1 at *;generalize j%(2*P)=j1 at *;have a:y1%P=j1%P:=by lia
   have f:∀z,z<2*P->z%P=if z<P then z else z-P:=by
    intro z p;split
    .exact Nat.mod_eq_of_lt ‹_›
    .rw[Nat.mod_eq_sub_mod (),Nat.mod_eq_of_lt ()]
   rw[f y1 b1,f j1 b2] at a;split at a <;> split at a
   .lia
   .rw[Nat.mod_eq_of_lt ()];lia
   .rw[Nat.mod_eq_sub_mod (),Nat.mod_eq_of_lt ()];lia
   .lia
noncomputable def nth(mask:Nat):Nat->Nat×Nat->Nat×Nat
 |0,p=>p
 |n+1,p=>nth mask n<|leap mask p.1 p.2
theorem mz(mask:Nat):∀(a b:Nat)(p:Nat×Nat),nth mask (a+b) p=nth mask b (nth mask a p):=by
 intro a;induction a with
 |zero=>intro b p;rw[Nat.zero_add];rfl
 |succ a c=>intro b p;rw[Nat.succ_add];exact c b _
theorem xD(mask:Nat):∀(n:Nat)(p:Nat×Nat),p.1<=mask->(nth mask n p).1<=mask:=by
 intro n;induction n with
 |zero=>exact λp h=>h
 |succ n a=>
  intro p _;erw[a _];have:=Nat.mod_lt (p.1*5+1+p.2 / 32)<|Nat.succ_pos mask;exact Nat.le_of_lt_succ this
theorem Ai(mask:Nat):∀(n:Nat)(p:Nat×Nat),(nth mask n p).2=p.2 / 32^n:=by
 intro n;induction n with
 |zero=>intro p;simp[nth]
 |succ n a=>
  intro p;simp only[nth,a,leap];rw[Nat.div_div_eq_div_mul,Nat.pow_succ,Nat.mul_comm]
theorem Ah(mask:Nat):∀(n x:Nat),x<=mask->nth mask n (x,0)=(u n x%(mask+1),0):=by
 intro n;induction n with
 |zero=>
  intro x h;simp[nth,u,g,Nat.mod_eq_of_lt<|Nat.lt_succ_of_le h]
 |succ n a=>
  intro x h;have e:=mz mask n 1 (x,0);rw[e,a x h];simp only[nth,leap,Nat.zero_div,Nat.add_zero];rw[pi,Nat.mul_comm 5];congr 1;rw[Nat.add_mod,Nat.mul_mod,Nat.mod_mod,<- Nat.mul_mod,<- Nat.add_mod]
def lands(b:mask+1=2^k){p:Nat}(hi:i<=mask)(a:p<2^64)(o:j<=mask):∃n,n<turns mask/\(nth mask n (i,p)).1=j:=by
 have c:(nth mask 13 (i,p)).2=0:=by
  rw[Ai];exact Nat.div_eq_of_lt (xBc a ∅)
 have d:=xD mask 13 (i,p) hi;let⟨n,m,e⟩:=met k (nth mask 13 (i,p)).1 j;refine⟨13+n,by unfold turns;lia,?_⟩;have h:nth mask 13 (i,p)=((nth mask 13 (i,p)).1,0):=Prod.ext rfl c;rw[mz,h,Ah mask n _ d];rw[b];rw[e];exact Nat.mod_eq_of_lt ()
def Ris(xs:Array Nat):Prop:=∀i j (hi:i<xs.size) (a:j<xs.size),i<j->xs[i]<xs[j]
theorem sH(hr:Ris xs)(j:Nat):∀(fuel lo hi:Nat),lo<=hi->hi<=xs.size->hi-lo<=fuel ->
  (∀i (h:i<xs.size),i<lo->xs[i]<j)->(∀i (h:i<xs.size),hi<=i->j<=xs[i]) ->
  ∃p,below.go xs j fuel lo hi=p/\p<=xs.size/\(∀i (h:i<xs.size),i<p->xs[i]<j)/\(∀i (h:i<xs.size),p<=i->j<=xs[i]):=by
 intro fuel;induction fuel with
 |zero=>
  intro lo hi v c r a b;have:lo=hi:=by lia
  subst this;exact⟨lo,rfl,c,a,b⟩
 |succ fuel o=>
  intro lo hi v c r a b;unfold below.go;by_cases hlt:lo<hi
  .rw[xCg hlt];dsimp only;have d:(lo+hi) / 2<xs.size:=by lia
   have e:xs.getD ((lo+hi) / 2) j=xs[(lo+hi) / 2]:=by simp[Array.getD,d]
   rw[e];split
   .rename_i hc
    refine o _ _ () c () (λi h m=>?_) b;by_cases q:i=(lo+hi) / 2
    .subst q;exact hc
    .exact Nat.lt_trans (hr _ _ h d ()) hc
   .rename_i hc
    refine o _ _ () () () a (λi h m=>?_);by_cases q:i=(lo+hi) / 2
    .subst q;lia
    .exact xCk (Nat.le_of_not_lt hc) (Nat.le_of_lt<|hr _ _ d h ())
  .rw[xCf hlt];have:lo=hi:=by lia
   subst this;exact⟨lo,rfl,c,a,b⟩
def gY(b:Ris xs)(j:Nat):below xs j<=xs.size/\(∀i (h:i<xs.size),i<below xs j->xs[i]<j)/\(∀i (h:i<xs.size),below xs j<=i->j<=xs[i]):=by
 let⟨p,e,r⟩:=sH b j xs.size 0 xs.size (xBn _) (xAg _) () (λi h a=>absurd a<|Nat.not_lt_zero _) (λi h a=>absurd h ());have c:below xs j=p:=e;rw[c];exact r
def gZ(d:Ris xs)(hi:i<=xs.size)(a:∀h:0<i,∀c:i-1<xs.size,xs[i-1]<j)(b:∀h:i<xs.size,j<=xs[i]):below xs j=i:=by
 let⟨m,c,e⟩:=gY d j;by_cases q:below xs j<i
 .have:=a () ();have:=e (i-1) () ();lia
 .by_cases q2:i<below xs j
  .have:=b ();have:=c i () q2;lia
  .lia
def xJ(a:Ris xs)(h:xs[below xs j]?≠some j):∀i (hi:i<xs.size),xs[i]≠j:=by
 intro i hi e;let⟨m,d,c⟩:=gY a j;have hb:below xs j=i:=by
  refine gZ a (Nat.le_of_lt hi) (λo b=>?_) (λ_=>());have:=a (i-1) i b hi ();lia
 exact h (by rw[hb,Array.getElem?_eq_getElem hi,e])
def gC:Ris xs↔xs.toList.Pairwise (·<·):=by
 rw[List.pairwise_iff_getElem];constructor
 .intro h i j c b a;simpa using h i j (by simpa using c) (by simpa using b) a
 .intro h i j c b a;have:=h i j (by simpa using c) (by simpa using b) a
  rwa[Array.getElem_toList,Array.getElem_toList] at this
def kH(m:Ris xs)(h:xs[below xs j]?≠some j):Ris<|insertAt xs (below xs j) j:=by
 let⟨v,r,p⟩:=gY m j;have q:=xJ m h;rw[gC,toList_insertAt];have o:=gC.mp m;rw[List.pairwise_append];refine⟨o.sublist<|List.take_sublist _ _,?_,?_⟩
 .rw[List.pairwise_cons];refine⟨λx d=>?_,o.sublist<|List.drop_sublist _ _⟩;let⟨i,b,e⟩:=List.getElem_of_mem d;rw[List.getElem_drop] at e;rw[List.length_drop,xAh] at b;have a:below xs j+i<xs.size:=by lia
  have:=p (below xs j+i) a ();have:=q _ a;rw[Array.getElem_toList] at e;lia
 .intro x d y hy;let⟨i,b,e⟩:=List.getElem_of_mem d;rw[List.getElem_take] at e;rw[List.length_take,xAh] at b;have c:x<j:=by
   have:=r i () ();rw[Array.getElem_toList] at e;lia
  rcases xAv.mp hy with rfl|hy
  .exact c
  .let⟨i,b,e⟩:=List.getElem_of_mem hy;rw[List.getElem_drop] at e;rw[List.length_drop,xAh] at b;have:=p (below xs j+i) () ();rw[Array.getElem_toList] at e;lia
def gy(xs:Array J)(p:Nat):(eraseAt xs p).toList=xs.toList.eraseIdx p:=by
 rw[List.eraseIdx_eq_take_drop_succ];simp[eraseAt,List.extract_eq_take_drop,List.take_of_length_le]
def cJ(xs:Array J)(p:Nat)(x:J):(insertAt xs p x).size=xs.size+1:=by
 rw[<- xAh,toList_insertAt];simp only[xAb,List.length_take,xAo,List.length_drop,xAh];lia
def iH(xs:Array J)(p:Nat)(h:p<xs.size):(eraseAt xs p).size+1=xs.size:=by
 rw[<- xAh,gy,List.length_eraseIdx_of_lt<|by simpa using h];simp only[xAh];lia
theorem gap:∀(n:Nat)(l:C7),l.length<n->∃j,j<n/\j∉l:=by
 intro n;induction n with
 |zero=>intro l h;exact absurd h<|Nat.not_lt_zero _
 |succ n a=>
  intro l h;by_cases q:n∈l
  .have b:(l.erase n).length<n:=by
    rw[List.length_erase_of_mem q];have:=List.length_pos_of_mem q;lia
   let⟨j,e,d⟩:=a (l.erase n) b;refine⟨j,(),λc=>d ?_⟩;exact(List.mem_erase_of_ne ()).mpr c
  .exact⟨n,(),q⟩
def dl(t:SetTable)(j:Nat):(t.slot j=.empty/\t.place[below t.place j]?≠some j/\has t.dummies j=false)\/(t.slot j=.dummy/\t.place[below t.place j]?≠some j/\has t.dummies j=true)\/(∃i,t.slot j=.live i/\t.place[below t.place j]?=some j):=by
 unfold SetTable.slot;dsimp only;by_cases h:t.place[below t.place j]?=some j
 .refine .inr<|.inr ⟨below t.place j,?_,h⟩;rw[xCg<|by rw[h];exact beq_self_eq_true _]
 .have e:¬ (t.place[below t.place j]?==some j)=true:=λq=>h<|beq_iff_eq.mp q;rw[xCf e];cases hd:has t.dummies j with
  |true=>exact .inr (.inl ⟨rfl,h,rfl⟩)
  |false=>exact .inl ⟨rfl,h,rfl⟩
def nh(h:has xs j=true):below xs j<xs.size/\j∈xs.toList:=by
 have e:xs[below xs j]?=some j:=beq_iff_eq.mp h;let⟨b,a⟩:=xB7.mp e;refine⟨b,?_⟩;rw[<- a];simp
def kE(h:t.fill<=t.mask):∃j,j<=t.mask/\t.slot j=.empty:=by
 let⟨j,d,a⟩:=gap (t.mask+1) (t.place.toList++t.dummies.toList) (by
  rw[xAb,xAh,xAh];exact Nat.lt_succ_of_le h)
 refine⟨j,(),?_⟩;rcases dl t j with q|q|⟨i,q1,q2⟩
 .exact q.1
 .exact absurd (xBt _ (nh q.2.2).2) a
 .let⟨c,b⟩:=xB7.mp q2;refine absurd (xBw _ ?_) a;rw[<- b];simp
def zCw(t:SetTable)(d:B8 Nat):Prop:=∀j,d=some j->t.slot j=.dummy
theorem nW(t:SetTable)(h:Int)(L:Nat)(i b:Nat)(next:∀d,zCw t d->∃j d',probe.go t (λ_=>h+1) h L ⟨(leap t.mask i b).1,runEnd t.mask (leap t.mask i b).1-(leap t.mask i b).1,(leap t.mask i b).1,(leap t.mask i b).2,d⟩=some (.empty j d')/\t.slot j=.empty/\zCw t d') :
  ∀(a j:Nat)(d:B8 Nat),zCw t d->∃o d',probe.go t (λ_=>h+1) h (L+(a+1)) ⟨j,a,i,b,d⟩=some (.empty o d')/\t.slot o=.empty/\zCw t d':=by
 intro a;induction a with
 |zero=>
  intro j d m;rw[show L+(0+1)=L+1 from rfl];unfold probe.go;dsimp only;rcases dl t j with q|q|⟨i',q1,q2⟩
  .rw[q.1];exact⟨j,d,rfl,q.1,m⟩
  .rw[q.1];dsimp only;have:=next (some j) (λo e=>by cases e;exact q.1);simpa [advance] using this
  .rw[q1];dsimp only;have c:¬ (h+1==h)=true:=by
    intro p;have:=beq_iff_eq.mp p;lia
   rw[xCf c];have:=next d m;simpa [advance] using this
 |succ a r=>
  intro j d m;rw[show L+(a+1+1)=(L+(a+1))+1 from rfl];unfold probe.go;dsimp only;rcases dl t j with q|q|⟨i',q1,q2⟩
  .rw[q.1];exact⟨j,d,rfl,q.1,m⟩
  .rw[q.1];dsimp only;have:=r (j+1) (some j) (λo e=>by cases e;exact q.1);simpa [advance] using this
  .rw[q1];dsimp only;have c:¬ (h+1==h)=true:=by
    intro p;have:=beq_iff_eq.mp p;lia
   rw[xCf c];have:=r (j+1) d m;simpa [advance] using this
set_option tactic.hygienic true
theorem nj(t:SetTable)(f:Nat->Int)(h:Int):∀(a b:Nat)(p:Probe)(m:Met),a<=b->probe.go t f h a p=some m->probe.go t f h b p=some m:=by
 intro a;induction a with
 |zero=>intro b p m _ e;cases e
 |succ a d=>
  intro b p m hb e;obtain⟨b,rfl⟩:∃c,b=c+1:=⟨b-1,()⟩
  unfold probe.go at e⊢;split
  .rename_i q;rw[q] at e;exact e
  .rename_i q;rw[q] at e;exact d b _ m () e
  .rename_i i q
   rw[q] at e;dsimp only at e⊢;split
   .rename_i c;rw[xCg c] at e;exact e
   .rename_i c;rw[xCf c] at e;exact d b _ m () e
set_option tactic.hygienic false
theorem jD(t:SetTable)(h:Int):∀(n i a:Nat)(d:B8 Nat),zCw t d->t.slot (nth t.mask n (i,a)).1=.empty ->
  ∃j d',probe.go t (λ_=>h+1) h (10*(n+1)) ⟨i,runEnd t.mask i-i,i,a,d⟩=some (.empty j d')/\t.slot j=.empty/\zCw t d':=by
 intro n;induction n with
 |zero=>
  intro i a d o b;refine⟨i,d,?_,b,o⟩;rw[show 10*(0+1)=9+1 from rfl];unfold probe.go;have c:t.slot i=.empty:=b;dsimp only;rw[c]
 |succ n p=>
  intro i a d o b;have v:runEnd t.mask i-i<=9:=by
   unfold runEnd;split <;> lia
  let⟨j,d',e,r⟩:=nW t h (10*(n+1)) i a (λq m=>p _ _ q m b) (runEnd t.mask i-i) i d o;exact⟨j,d',nj _ _ _ _ _ _ _ () e,r⟩
def nJ(h:Int):bits h<2^64:=by
 unfold bits;have b:h%(2^64:Int)<2^64:=xBb _ ∅;have a:0<=h%(2^64:Int):=xBa _ ∅;lia
theorem uT(m:t.mask+1=2^k)(o:t.fill<=t.mask)(h:Int) :
  ∃j b,t.freeSlot h=some (j,b)/\t.place[below t.place j]?≠some j/\(b=true->has t.dummies j=true):=by
 let⟨B,a,r⟩:=kE o;let⟨n,C,e⟩:=lands m (i:=bits h%(t.mask+1)) (p:=bits h) (Nat.le_of_lt_succ<|Nat.mod_lt _<|Nat.succ_pos _) (nJ h) a;let⟨j,d,A,y,x⟩:=jD t h n (bits h%(t.mask+1)) (bits h) none (λj q=>by cases q) (by rw[e];exact r);have v:t.probe (λ_=>h+1) h (t.probeStart h)=some (.empty j d):=nj _ _ _ _ _ _ _ () A;unfold freeSlot;rw[v];cases d with
 |none=>
  refine⟨j,false,rfl,?_,λq=>by cases q⟩;rcases dl t j with q|q|⟨i,q1,_⟩
  .exact q.2.1
  .exact q.2.1
  .rw[y] at q1;cases q1
 |some d=>
  have c:=x d rfl;rcases dl t d with q|q|⟨i,q1,_⟩
  .rw[c] at q;cases q.1
  .exact⟨d,true,rfl,q.2.1,λ_=>q.2.2⟩
  .rw[c] at q1;cases q1
theorem rH(m:owner.size=mask+1):∀(fuel i a:Nat),(∃n,n<fuel/\owner[(nth mask n (i,a)).1]?=some none) ->
  ∃j,layClean.free mask owner fuel i a=some j/\owner[j]?=some none:=by
 intro fuel;induction fuel with
 |zero=>rintro i a ⟨n,hn,_⟩;exact absurd hn<|Nat.not_lt_zero _
 |succ fuel d=>
  rintro i a ⟨n,hn,e⟩
  unfold layClean.free;have b:∀k,(owner.getD (i+k)<|some 0).isNone=true->owner[i+k]?=some none:=by
   intro k q;rw[Array.getD_eq_getD_getElem?] at q;cases hh:owner[i+k]? with
   |none=>rw[hh] at q;cases q
   |some v=>
    rw[hh] at q;cases v with
    |none=>rfl
    |some v=>cases q
  cases hf:(List.range<|runEnd mask i+1-i).find? (λk=>(owner.getD (i+k)<|some 0).isNone) with
  |some k=>
   dsimp only;exact⟨i+k,rfl,b k<|List.find?_some (p:=λk=>(owner.getD (i+k)<|some 0).isNone) hf⟩
  |none=>
   dsimp only;erw[d _ _];cases n with
   |zero=>
    have c:=List.find?_eq_none.mp hf 0 (by
     rw[List.mem_range];unfold runEnd;split <;> lia)
    have h:owner[i]?=some none:=e;rw[Nat.add_zero,Array.getD_eq_getD_getElem?,h] at c;exact absurd rfl c
   |succ n=>exact⟨n,(),e⟩
noncomputable def vals(owner:Array<|B8 Nat):C7:=owner.toList.filterMap id
theorem pb{c:Nat}(h:owner[j]?=some none):(vals<|owner.setIfInBounds j<|some c).Perm<|c::vals owner:=by
 let⟨m,e⟩:=xB7.mp h;unfold vals;rw[Array.toList_setIfInBounds];have b:owner.toList[j]?=some none:=by rw[xA8];exact h
 generalize owner.toList=l at b;clear h m e;induction l generalizing j with
 |nil=>cases b
 |cons a l d=>
  cases j with
  |zero=>
   cases b;simp
  |succ j=>
   have:=d (j:=j) b;simp only[List.set_cons_succ];cases a with
   |none=>simpa using this
   |some a=>
    simp only[List.filterMap_cons,id];exact(this.cons a).trans<|List.Perm.swap _ _ _
def pe(owner:Array<|B8 Nat)(h:(vals owner).length<owner.size):∃j:Nat,owner[j]?=some none:=by
 by_cases q:∃j:Nat,owner[j]?=some none
 .exact q
 .exfalso;have:(vals owner).length=owner.toList.length:=by
   unfold vals;have b:∀v∈owner.toList,v≠none:=by
    intro v c e;subst e;let⟨j,m,e⟩:=List.getElem_of_mem c;exact q ⟨j,by rw[<- xA8,xAk m,e]⟩
   generalize owner.toList=l at b;induction l with
   |nil=>rfl
   |cons a l d=>
    cases a with
    |none=>exact absurd rfl (b none<|xAr)
    |some a=>
     simp only[List.filterMap_cons,id,xAo];rw[d λv c=>b v<|xAs _ c]
  have o:owner.toList.length=owner.size:=xAh;lia
theorem qX(A:mask+1=2^k):∀(a:C8)(owner:Array<|B8 Nat)(c:Nat),owner.size=mask+1->(vals owner).Perm (List.range c)->c+a.length<=mask+1 ->
  ∃owner',a.foldl (λ(acc:B8<|Array (B8 Nat)×Nat) h=>do
   let (owner,k) <- acc
   let j <- layClean.free mask owner (turns mask) (bits h%(mask+1)) (bits h)
   pure (owner.setIfInBounds j<|some k,k+1)) (some (owner,c))=some (owner',c+a.length)/\owner'.size=mask+1/\(vals owner').Perm (List.range<|c+a.length):=by
 intro a;induction a with
 |nil=>intro owner c d b _;exact⟨owner,rfl,d,b⟩
 |cons h a x=>
  intro owner c d b C;rw[xAo] at C;let⟨v,m⟩:=pe owner (by rw[b.length_eq,List.length_range];lia);let⟨B,_⟩:=xB7.mp m;let⟨n,y,D⟩:=lands A (i:=bits h % (mask+1)) (p:=bits h) (Nat.le_of_lt_succ<|Nat.mod_lt _<|Nat.succ_pos _) (nJ h) (j:=v) ();let⟨j,E,e⟩:=rH d (turns mask) (bits h % (mask+1)) (bits h) ⟨n,y,by rw[D];exact m⟩;let⟨owner',r,q,o⟩:=x (owner.setIfInBounds j<|some c) (c+1) (by rw[Array.size_setIfInBounds];exact d) (by
   refine(pb e).trans ?_;rw[List.range_succ];exact(b.cons c).trans (List.perm_append_singleton c _).symm) ()
  refine⟨owner',?_,q,?_⟩
  .rw[List.foldl_cons];have F:(do
     let (owner,k) <- some (owner,c)
     let j <- layClean.free mask owner (turns mask) (bits h%(mask+1)) (bits h)
     pure (owner.setIfInBounds j<|some k,k+1))=some (owner.setIfInBounds j<|some c,c+1):=by
    simp[E]
   rw[F,r,xAo];congr 2;lia
  .rw[xAo];rw[show c+(a.length+1)=c+1+a.length by lia];exact o
theorem uJ(f:Nat->B8 Nat):∀(l:C7),(l.filterMap λj=>(f j).map (j,·)).map (·.1)=l.filter λj=>(f j).isSome:=by
 intro l;induction l with
 |nil=>rfl
 |cons a l b=>
  cases h:f a with
  |none=>simp[h];simpa using b
  |some v=>simp[h];simpa using b
theorem uI(f:Nat->B8 Nat):∀(l:C7),(l.filterMap λj=>(f j).map (j,·)).map (·.2)=l.filterMap f:=by
 intro l;induction l with
 |nil=>rfl
 |cons a l b=>
  cases h:f a with
  |none=>simp[h];simpa using b
  |some v=>simp[h];simpa using b
def xT:∀(n:Nat),(((List.range n).filterMap λj=>(owner.getD j none).map (j,·)).map (·.1)).Pairwise (·<·):=by
 intro n;rw[uJ λj=>owner.getD j none];exact List.Pairwise.sublist List.filter_sublist List.pairwise_lt_range
def qU(h:owner.size=n):((List.range n).filterMap λj=>(owner.getD j none).map (j,·)).map (·.2)=vals owner:=by
 subst h;unfold vals;have e:owner.toList=(List.range owner.size).map λj=>owner.getD j none:=by
  apply List.ext_getElem
  .simp
  .intro i a b;have:i<owner.size:=by simpa using a
   simp[Array.getD,this]
 rw[e,uI λj=>owner.getD j none,List.filterMap_map];rfl
def uK(h:mask+1=2^k)(f m:Nat)(led plain:C4)(p:hashes.size<=mask+1) :
  ∃place a,laid mask f m led plain hashes=some ({mask:=mask,place:=place,dummies:=#[],finger:=f,led:=led,moves:=m,plain:=plain},a)/\Ris place/\place.size=hashes.size/\a.toList.Perm (List.range hashes.size):=by
 let⟨owner,e,c,b⟩:=qX h hashes.toList (Array.replicate (mask+1) none) 0 ⋯ (by
  unfold vals;have:∀n,List.filterMap id (List.replicate n (none:B8 Nat))=[]:=by
   intro n;induction n with
   |zero=>rfl
   |succ n d=>simpa [List.replicate_succ] using d
  rw[Array.toList_replicate,this];exact .nil) (by rw[xAh];lia)
 rw[Nat.zero_add,xAh] at e b;have o:layClean mask hashes=some owner:=by
  unfold layClean;rw[<- Array.foldl_toList,e];rfl
 refine⟨_,_,by unfold laid;rw[o];rfl,?_,?_,?_⟩
 .rw[gC];exact xT _
 .have:=congrArg List.length<|qU c;rw[xAa] at this;rw[xAp,xAa,this,b.length_eq,List.length_range]
 .rw[show(List.map (λx=>x.2)<|List.filterMap (λj=>Option.map (λx=>(j,x))<|owner.getD j none)<|List.range<|mask+1).toArray.toList=vals owner from qU c];exact b
def above(n:Nat)(h:n<2^60):∃k,3<=k/\sizeAbove n=2^k/\n<sizeAbove n/\sizeAbove n<=2*n+8:=by
 have d:∀(fuel k:Nat),n<2^(k+fuel)->3<=k->(k=3\/2^k<=2*n)->∃c,3<=c/\sizeAbove.go n fuel (2^k)=2^c/\n<2^c/\2^c<=2*n+8:=by
  intro fuel;induction fuel with
  |zero=>
   intro k b a h3;refine⟨k,a,rfl,b,?_⟩;rcases h3 with rfl|h3
   .lia
   .lia
  |succ fuel m=>
   intro k b a h3;unfold sizeAbove.go;split
   .rename_i hle
    rw[<- Nat.pow_succ];refine m (k+1) (by rw[show k+1+fuel=k+(fuel+1) by lia];exact b) ()<|.inr ?_;rw[Nat.pow_succ];lia
   .rename_i hle
    refine⟨k,a,rfl,(),?_⟩;rcases h3 with rfl|h3
    .lia
    .lia
 let⟨k,b,a,h3,o⟩:=d 64 3 (xBc h<|Nat.pow_le_pow_right ∅ ∅) ∅<|.inl rfl;have e:sizeAbove n=2^k:=a;exact⟨k,b,e,by rw[e];exact h3,by rw[e];exact o⟩
structure TOk(t:SetTable)(n:Nat):Prop where
 pw:∃k,3<=k/\t.mask+1=2^k
 sz:t.place.size=n
 ris:Ris t.place
 fl:t.fill*5<t.mask*3
 pl:t.plain=true
theorem TOk.fits{t:SetTable}{n:Nat}(h:TOk t n):t.fits n=true:=by
 unfold SetTable.fits;rw[h.sz];have:=h.fl;simp only[beq_self_eq_true,Bool.true_and,decide_eq_true_eq];lia
theorem TOk.fresh(f m:Nat)(a:C4):TOk (SetTable.fresh f m a) 0:=⟨⟨3,∅,rfl⟩,rfl,λi j b=>absurd b<|Nat.not_lt_zero _,by simp[SetTable.fresh,SetTable.fill],rfl⟩
def TOk.new(H:TOk t n)(es:Array<|Int×B9)(B:es.size=n)(h:Int)(x:B9) :
  ∃p t' c,layNew t es h x=(insertAt es p (h,x),t',c,false)/\t'.led=t.led/\t'.mask=t.mask/\t'.plain=true/\t'.place.size=n+1/\Ris t'.place/\t'.fill<=t'.mask/\((!c&&t'.tooFull)=false->TOk t' (n+1)):=by
 let⟨k,C,A⟩:=H.pw;have v:=H.fl;let⟨j,c,e,F,E⟩:=uT A () h;have b:(t.put j).1.place.size=n+1:=by
  show(insertAt t.place (below t.place j) j).size=n+1;rw[cJ,H.sz]
 have y:(t.put j).1.dummies.size<=t.dummies.size/\(c=true->(t.put j).1.dummies.size+1=t.dummies.size):=by
  show(if has t.dummies j then eraseAt t.dummies (below t.dummies j) else t.dummies).size<=t.dummies.size/\(c=true->(if has t.dummies j then eraseAt t.dummies (below t.dummies j) else t.dummies).size+1=t.dummies.size);split
  .rename_i q
   have:=iH t.dummies _ (nh q).1;exact⟨(),λ_=>this⟩
  .rename_i q
   exact⟨xAg _,λz=>absurd (E z) q⟩
 have o:(t.put j).1.fill<=t.fill+1/\(c=true->(t.put j).1.fill=t.fill):=by
  unfold SetTable.fill;rw[b,H.sz];exact⟨(),λz=>by have:=y.2 z;lia⟩
 have a:(t.put j).1.mask=t.mask:=rfl;have d:Ris (t.put j).1.place:=kH H.ris F;have m:(t.put j).1.fits (insertAt es (below t.place j) (h,x)).size=true:=by
  unfold SetTable.fits;rw[b,cJ,B,a];simp only[beq_self_eq_true,Bool.true_and,decide_eq_true_eq];lia
 refine⟨below t.place j,(t.put j).1,c,?_,rfl,rfl,H.pl,b,d,by rw[a];lia,λr=>⟨⟨k,C,A⟩,b,d,?_,H.pl⟩⟩
 .unfold layNew;rw[e];dsimp only;have D:(t.put j).2=below t.place j:=rfl;rw[D,m];unfold SetTable.orStandIn;rw[m];rfl
 .rw[a];cases c with
  |true=>rw[o.2 rfl];exact v
  |false=>
   unfold SetTable.tooFull at r;rw[a] at r;simp only[Bool.not_false,Bool.true_and,decide_eq_false_iff_not,Nat.not_le,ge_iff_le] at r;exact r
def nU(o:t.plain=true)(d:hashes.size=n)(v:2*n<=wanted)(hb:wanted<2^60) :
  ∃t' a,t.relaid hashes wanted=some (t',a)/\t'.led=t.led/\TOk t' n/\a.toList.Perm (List.range n)/\t'.mask+1=sizeAbove wanted/\t'.dummies=#[]:=by
 let⟨k,m,A,y,x⟩:=above wanted hb;have c:8<=2^k:=xCk ∅<|Nat.pow_le_pow_right (by decide:0<2) m;have h:sizeAbove wanted-1+1=2^k:=by lia
 let⟨b,a,e,r,q,p⟩:=uK h t.finger (t.movedTo<|sizeAbove wanted-1) t.led t.plain (hashes:=hashes) ();refine⟨_,a,e,rfl,⟨⟨k,m,h⟩,by rw[<- d];exact q,r,?_,o⟩,by rw[<- d];exact p,by show sizeAbove wanted-1+1=_;lia,rfl⟩;unfold SetTable.fill;show(b.size+0)*5<(sizeAbove wanted-1)*3;lia
def TOk.relay(q:t.plain=true)(es:Array<|Int×B9)(d:es.size=n)(p:2*n<=wanted)(hb:wanted<2^60) :
  ∃c t',relayAll t es wanted=(c,t',false)/\t'.led=t.led/\TOk t' n/\c.toList.Perm es.toList:=by
 let⟨t',a,e,v,o,m,_⟩:=nU q (hashes:=es.map (·.1)) (n:=n) (by rw[Array.size_map,d]) p hb;have b:(a.filterMap (es[·]?)).toList.Perm es.toList:=by
  rw[Array.toList_filterMap];exact(m.filterMap _).trans (by rw[<- d,filterMap_getElem?_range])
 have h:(a.filterMap (es[·]?)).size=n:=by rw[<- xAh,b.length_eq,xAh,d]
 refine⟨_,t',?_,v,o,b⟩;unfold relayAll;rw[e];dsimp only;have r:(coversAll a es.size&&t'.fits (a.filterMap (es[·]?)).size)=true:=by
  rw[h,o.fits,d];unfold coversAll;rw[List.isPerm_iff.mpr m];rfl
 rw[xCg r]
noncomputable def zCo(e:Int×B9):Int:=match e.2 with|.int k _=>k|_=>0
def EOk(l:B7<|Int×B9):Prop:=∀e∈l,∃k t,e=(hashInt k,Value.int k t)
noncomputable def zAo(es:Array<|Int×B9)(ep:Nat)(t:SetTable):Obj:={cls:=.type "set",dict:=none,data:=.set es ep t,slots:=#[]}
structure SIn(w:World)(h:Heap)(a:C3)(es:Array (Int×B9))(ep:Nat)(t:SetTable)(ks:C8):Prop where
 ob:h.get? a=some (zAo es ep t)
 el:EOk es.toList
 ky:es.toList.map zCo=ks
 nd:ks.Nodup
 tb:TOk t es.size
 ld:t.led=true\/w.params.followText "set-order"=true
def zBd(w:World)(h:Heap)(a:C3)(ks:C8):Prop:=∃es ep t,SIn w h a es ep t ks
def SIn.at'{w:World}{h h':Heap}{a:C3}{es ep t ks}(S:SIn w h a es ep t ks)(e:∀o,h.get? a=some o->h'.get? a=some o):SIn w h' a es ep t ks:={S with ob:=e _ S.ob}
theorem zBd.at'{w:World}{h h':Heap}{a:C3}{ks}(S:zBd w h a ks)(e:∀o,h.get? a=some o->h'.get? a=some o):zBd w h' a ks:=let ⟨b,c,t,q⟩:=S;⟨b,c,t,q.at' e⟩
theorem SIn.size{w:World}{h:Heap}{a:C3}{es ep t ks}(S:SIn w h a es ep t ks):es.size=ks.length:=by
 rw[<- S.ky,xAa,xAh]
section
variable{prog:Program}{w:World}{A:Around}{E:B9->B'->Prop}{s:B'}{a:C3}{es:Array<|Int×B9}{ep:Nat}{t:SetTable}{ks:C8}
def EOk.elems(h:EOk l):ElemsOf (intKind prog w) l:=by
 intro e b;let⟨k,t,rfl⟩:=h e b;exact⟨⟨k,by simp[intKind,Value.isInt],rfl⟩,rfl⟩
def SIn.state(S:SIn w s.heap a es ep t ks){Q:(Array (Int×B9)×Nat×SetTable)->B'->Prop}(h:Q (es,ep,t) s):wpAny (model prog w) A (setState a) Q E s:=
 wpAny_setState_of S.ob rfl S.tb.fits h
def SIn.entries(S:SIn w s.heap a es ep t ks)(h:Q es s):wpAny (model prog w) A (setEntries a) Q E s:=
 wpAny_setEntries_of S.ob rfl S.tb.fits h
def SIn.epoch(S:SIn w s.heap a es ep t ks){Q:Nat->B'->Prop}(h:Q ep s):wpAny (model prog w) A (setEpoch a) Q E s:=
 wpAny_setEpoch_of S.ob rfl S.tb.fits h
def uW(h:EOk l)(k:Int):(∀i,l.findIdx? (λe=>(intKind prog w).is k e.2)=some i->(l.map zCo)[i]?=some k)/\(l.findIdx? (λe=>(intKind prog w).is k e.2)=none->k∉l.map zCo):=by
 have b:∀e∈l,(intKind prog w).is k e.2=true↔zCo e=k:=by
  intro e c;let⟨y,t,rfl⟩:=h e c;simp[intKind,Value.isInt,zCo]
 constructor
 .intro i v;let⟨d,o,_⟩:=List.findIdx?_eq_some_iff_getElem.mp v;rw[xAw,xAk d];have:=(b _<|List.getElem_mem d).mp o;simp[this]
 .intro p q;let⟨e,c,r⟩:=xA2.mp q;have m:=List.findIdx?_eq_none_iff.mp p e c;have x:=(b e c).mpr r;rw[x] at m;cases m
def SIn.stored(S:SIn w s.heap a es ep t ks){b:Array<|Int×B9}{t':SetTable}{c:C8}(o:EOk b.toList)(m:b.toList.map zCo=c)(h:c.Nodup)(e:TOk t' b.size)(d:t'.led=true\/w.params.followText "set-order"=true) :
  SIn w (s.heap.update a<|Obj.putSet b t') a b (ep+1) t' c:=by
 refine⟨?_,o,m,h,e,d⟩;have:=xA7 (Obj.putSet b t') S.ob (by rw[putSet_of b t' rfl];rfl);rw[putSet_of b t' rfl] at this;exact this
def EOk.perm{b:B7<|Int×B9}(h:EOk l)(p:b.Perm l):EOk b:=λe c=>h e<|p.mem_iff.mp c
theorem SIn.add(S:SIn w s.heap a es ep t ks)(hb:ks.length+1<scanBound){k:Int}{tk:Tok}{Q:C4->B'->Prop}(h:∀(h':Heap)(b:C8),Heap.SameBut a s.heap h'->zBd w h' a b->(∀x,x∈b↔x=k\/x∈ks)->b.length<=ks.length+1->Q (!decide (k∈ks)) {s with heap:=h'}) :
  wpAny (model prog w) A (setAddHashed a (.int k tk)<|hashInt k) Q E s:=by
 have H:(intKind prog w).is k (.int k tk)=true:=by simp[intKind,Value.isInt]
 have K:ElemsOf (intKind prog w) es.toList:=S.el.elems;unfold setAddHashed setAddHashedIn;refine xDc<|xAd<|S.state ?_;dsimp only;rw[byScan_of (x:=.int k tk) rfl (by rw[S.size];lia) K];simp only[↓reduceIte];unfold setAddByScan;refine xAd<|xAd<|wpAny_rule ?_;let⟨f1,P⟩:=uW (prog:=prog) (w:=w) S.el k;rw[S.ky] at f1 P;refine xAd<|wpAny_setScan_of (knd:=intKind prog w) H S.ob rfl S.tb.fits K ?_;cases hr:es.toList.findIdx? (λe=>(intKind prog w).is k e.2) with
 |some j=>
  dsimp only;have F:k∈ks:=xAc<|f1 j hr;refine xAe<|xAe ?_;have q:=h s.heap ks (Heap.SameBut.refl a s.heap) ⟨es,ep,t,S⟩ (λx=>⟨.inr,λz=>z.elim (λe=>e▸F) id⟩) ();rw[xBd F] at q;cases s;exact q
 |none=>
  dsimp only;have F:k∉ks:=P hr;let⟨p,d,T,e,X,l2,O,l4,Z,Y,W⟩:=S.tb.new es rfl (hashInt k)<|.int k tk;rw[e];dsimp only;refine xAd<|xAe ?_;rw[O];simp only[↓reduceIte];erw[xAd];rw[hashByValue_scannable 8 rfl];erw[xAe];have N:plainKind (Value.int k tk)=true:=rfl;rw[N];simp only[↓reduceIte];have B:=insertAt_perm es p (hashInt k,Value.int k tk);rw[Array.toList_push] at B;have c:(insertAt es p (hashInt k,Value.int k tk)).size=es.size+1:=cJ _ _ _;have v:EOk (insertAt es p (hashInt k,Value.int k tk)).toList:=by
   refine EOk.perm (λx hx=>?_) B;rcases xAj.mp hx with hx|hx
   .exact S.el x hx
   .rw[xAm] at hx;exact⟨k,tk,hx⟩
  have m:((insertAt es p (hashInt k,Value.int k tk)).toList.map zCo).Perm<|k::ks:=by
   erw[(B.map zCo).trans];rw[xAi,S.ky];exact List.perm_append_singleton _ _
  have D:(k::ks).Nodup:=xCb.mpr ⟨F,S.nd⟩;have y:(insertAt es p (hashInt k,Value.int k tk)).size<=sizeLine:=fits_of_scanBound (by rw[c,S.size];exact hb);have fin:∀(h':Heap)(b:C8),Heap.SameBut a s.heap h'->zBd w h' a b->b.Perm (k::ks)->Q true {s with heap:=h'}:=by
   intro h' b b1 b2 R;have q:=h h' b b1 b2 (λx=>by rw[R.mem_iff,xAv]) (by rw[R.length_eq,xAo];exact xAg _);rw[xCn F] at q;exact q
  have L:=xB5 s.heap a<|Obj.putSet (insertAt es p (hashInt k,Value.int k tk)) d;have G:d.led=true\/w.params.followText "set-order"=true:=by rw[X];exact S.ld
  cases hfull:(!T&&d.tooFull) with
  |false=>
   refine xAd<|wpAny_storeSet_of S.ob rfl ?_ y;simp only[xAz,↓reduceIte];refine xAe<|xAe<|fin _ _ L ⟨_,_,_,S.stored v rfl (m.nodup_iff.mpr D) (by rw[c];exact W hfull) G⟩ m
  |true=>
   have M:es.size+1<4096:=by
    have:=S.size;unfold scanBound at hb;lia
   have I:2*(es.size+1)<=SetTable.grown (es.size+1)/\SetTable.grown (es.size+1)<2^60:=by
    unfold SetTable.grown;have:=M;rw[xCf ()];exact⟨(),xBc (show(es.size+1)*4<2^20 by lia) ∅⟩
   let⟨o,t2,r1,r2,r3,r4⟩:=TOk.relay (t:=d) O (insertAt es p (hashInt k,Value.int k tk)) c I.1 I.2;refine xAd<|wpAny_storeSet_of S.ob rfl ?_ y;have C:(s.heap.update a<|Obj.putSet (insertAt es p (hashInt k,Value.int k tk)) d).get? a=some (zAo (insertAt es p (hashInt k,Value.int k tk)) (ep+1) d):=by
    have:=xA7 (Obj.putSet (insertAt es p (hashInt k,Value.int k tk)) d) S.ob (by rw[putSet_of _ d rfl];rfl);rw[putSet_of _ d rfl] at this;exact this
   simp only[↓reduceIte];rw[c,r1];dsimp only;have r:o.size=es.size+1:=by rw[<- xAh,r4.length_eq,xAh,c]
   erw[<-xAd (xAe<|xAd<|wpAny_storeSet_of C rfl ?_<|by rw[r,<- c];exact y),<-xAe<|xAe<|fin _ (o.toList.map zCo) (L.trans<|xB5 _ a _) ⟨o,ep+2,t2,?_,v.perm r4,rfl,?_,by rw[r];exact r3,by rw[r2];exact G⟩<|(r4.map zCo).trans m]
   .have:=xA7 (Obj.putSet o t2) C (by rw[putSet_of _ t2 rfl];rfl);rw[putSet_of _ t2 rfl] at this;exact this
   .exact((r4.map zCo).trans m).nodup_iff.mpr D
end
theorem tX(next:Nat->Nat):∀(n k:Nat)(b:B7 J)(out:Array J),b.length=n->(pickOrder.go next n k b out).toList.Perm (out.toList++b):=by
 intro n;induction n with
 |zero=>
  intro k b out h;obtain rfl:=List.length_eq_zero_iff.mp h;unfold pickOrder.go;simp
 |succ n m=>
  intro k b out h;have c:next k%b.length<b.length:=Nat.mod_lt _ ();unfold pickOrder.go;rw[xAk c];dsimp only;erw[(m (k+1) _ _<|by rw[List.length_eraseIdx_of_lt c];lia).trans];rw[Array.toList_push,xAx];erw[List.Perm.append_left _];generalize next k%b.length=i at c;clear m;induction b generalizing i n with
  |nil=>exact absurd c (Nat.not_lt_zero _)
  |cons a b e=>
   cases i with
   |zero=>exact .rfl
   |succ i=>
    have d:i<b.length:=by simpa using c
    have:=e (b.length-1) () i d;rw[List.eraseIdx_cons_succ,List.getElem_cons_succ];exact(List.Perm.swap _ _ _).trans<|this.cons a
def n9(next:Nat->Nat)(xs:Array J):(pickOrder next xs).toList.Perm xs.toList:=by
 have:=tX next xs.size 0 xs.toList #[] ⋯;rw[show(#[]:Array J).toList++xs.toList=xs.toList from rfl] at this;exact this
noncomputable def wk(w:World)(a:C3)(ep:Nat)(es:Array<|Int×B9):Array<|Int×B9:=if w.params.followText "set-order"=true then pickOrder (w.params.setOrder a ep) es else es
def iy(w:World)(a:C3)(ep:Nat)(es:Array<|Int×B9):(wk w a ep es).toList.Perm es.toList:=by
 unfold wk;split
 .exact n9 _ _
 .exact .rfl
section
variable{prog:Program}{w:World}{A:Around}{E:B9->B'->Prop}{s:B'}{a:C3}{es:Array<|Int×B9}{ep:Nat}{t:SetTable}{ks:C8}
def zDh{Q:C4->B'->Prop}(h:Q (w.params.followText "set-order") s):wpAny (model prog w) A setsByText Q E s:=by
 unfold setsByText;exact xAd<|wpAny_askSetting<|xAe h
theorem SIn.walk(S:SIn w s.heap a es ep t ks)(h:Q (wk w a ep es) s):wpAny (model prog w) A (setWalk a) Q E s:=by
 unfold setWalk;refine xAd<|S.state ?_;dsimp only;refine xAd<|zDh ?_;unfold wk at h;cases hb:w.params.followText "set-order" with
 |true=>
  rw[xCg rfl];rw[hb,xCg rfl] at h;exact xAd<|wpAny_askSetting<|xAe h
 |false=>
  rw[xCf xAy];rw[hb,xCf xAy] at h;have b:t.led=true:=S.ld.elim id λq=>by rw[hb] at q;cases q
  change wpAny _ _ (if(!t.plain&&decide (es.size>1))=true then _ else _) _ _ _;rw[S.tb.pl];simp only[Bool.not_true,Bool.false_and,xAz,↓reduceIte];change wpAny _ _ ((if(!t.led&&decide (es.size>1))=true then unsupported "set:maker-not-led" else pure Unit.unit)>>=_) _ _ _;rw[b];simp only[Bool.not_true,Bool.false_and,xAz,↓reduceIte];exact xAd<|xAe<|xAe h
def rG(b:C4)(c:b=true\/w.params.followText "set-order"=true)(h:Heap):SIn w (h.push<|zAo #[] 0 (.fresh 0 0 b)) h.objs.size #[] 0 (.fresh 0 0 b) []:=
 ⟨xAl _ rfl,λe d=>absurd d ⋯,rfl,xC7,TOk.fresh 0 0 b,c⟩
def SIn.type(S:SIn w s.heap a es ep t ks):s.TypeIs (.ref a) "set":=⟨_,S.ob,rfl⟩
theorem SIn.sizeOf(S:SIn w s.heap a es ep t ks){Q:Nat->B'->Prop}(h:Q ks.length s):wpAny (model prog w) A (Builtin.Frozenset.sizeOf a) Q E s:=by
 unfold Builtin.Frozenset.sizeOf;refine xAd<|S.entries<|xAe ?_;rw[S.size];exact h
def wk_keys(S:SIn w s.heap a es ep t ks):EOk (wk w a ep es).toList/\((wk w a ep es).toList.map zCo).Perm ks:=by
 have h:=iy w a ep es;exact⟨S.el.perm h,by rw[<- S.ky];exact h.map zCo⟩
end
end SetA
namespace SetA
open PySem PySem.Spec PySem.SetTable PyProof.Rows
variable{Q:B9->B'->Prop}{I:C3}{slot i:Nat}
theorem zDd:∀(N:Nat){l:C8},l.Nodup->(∀k∈l,0<=k/\k<(N:Int))->l.length<=N
 |0,l,_,h=>by
  cases l with
  |nil=>exact xAg _
  |cons k r=>have:=h k xAr;lia
 |N+1,l,a,h=>by
  have e:=zDd N (l:=l.erase (N:Int)) (a.erase _) (λk b=>by
   have d:=h k<|List.mem_of_mem_erase b;have c:k≠(N:Int):=λz=>by
    subst z;exact(a.mem_erase_iff.mp b).1 rfl
   lia)
  rw[List.length_erase] at e;split at e <;> lia
def Bnd(ks:C8):Prop:=∀x∈ks,0<=x/\x<4000
def Bnd.len{ks:C8}(h:Bnd ks)(a:ks.Nodup):ks.length+1<scanBound:=by
 have:=zDd 4000 a h;have e:scanBound=4096:=rfl;lia
section
variable{prog:Program}{w:World}{A:Around}{E:B9->B'->Prop}{s:B'}
def mG(x:B9){Q₁:B9->B'->Prop}(h:∀a:C4,(a=true\/w.params.followText "set-order"=true)->Q₁ (.ref s.heap.objs.size) {s with heap:=s.heap.push<|zAo #[] 0 (.fresh 0 0 a)}) :
  codeAny (model prog w) A (.call (.builtin "set.__new__") ⟨[.type "set",x],[]⟩) (wants Q₁ E) s:=by
 erw[codeAny_of_tree];change wpAny _ A.in1 (do checkBuiltinCall "set.__new__" ⟨[.type "set",x],[]⟩;again (.builtin "set.__new__" ⟨[.type "set",x],[]⟩)) _ _ s;refine xAd<|wpAny_of_eq (PySem.F.newCall_set_1 x)<|xAe ⟨plainId_quiet PySem.F.plain_set_new _,codeAny_builtin PySem.F.entry_set_new ?_⟩;rw[Around.under_plainId PySem.F.plain_set_new _];unfold Builtin.«set.__new__» Builtin.Frozenset.newClass;have b:=sub_set_self;let⟨e,j,k,c,d⟩:=s;dsimp only;wp_walk
 refine wpAny_askSetting<|xAe ?_;dsimp only;simp only[newObj];refine xAd<|wpAny_alloc<|xAe<|xAe<|h _ ?_;change(!(w.params.followText "set-order"))=true\/w.params.followText "set-order"=true;cases w.params.followText "set-order" <;> simp
end
section
variable{prog:Program}{w:World}{A:Around}{R:Result->B'->Prop}{I:C3}{fp wr:B7 C3}{G:Array GenState->Array GenState->Prop}{n:Nat}{P:Nat->B9->Prop}{St:Nat->B'->Prop}
theorem oI(W:WalksS prog w A.in1 I fp wr G n P St)(S:C3)(D:S∉fp)(val:Nat->Int)(q:∀i v,P i v->∃t,v=.int (val i) t)(O:∀i,i<n->0<=val i/\val i<4000) :
  ∀(k i:Nat)(s:B')(ks:C8),n-i=k->i<=n->St i s->zBd w s.heap S ks->(∀x,x∈ks↔∃j,j<i/\val j=x) ->
   (∀a c,Moved (S::wr) G s a->zBd w a.heap S c->(∀x,x∈c↔∃j,j<n/\val j=x)->R (.ok<|.ret .none) a) ->
   codeAny (model prog w) A (.builtin "set.update.loop" ⟨[.ref S,.ref I],[]⟩) R s:=by
 have C:S∉wr:=λh=>D<|W.sub _ h;have r:∀b∈wr,b∈S::wr:=λb hb=>xAs _ hb;intro k;induction k with
 |zero=>
  intro i s ks T X l J E hR;obtain rfl:i=n:=by lia
  erw[codeAny_builtin PyProof.Rows.F.entry_set_update_loop];rw[Around.under_plainId PyProof.Rows.F.plain_set_update_loop _];change wpAny _ A.in1 (pyNext (.ref I)>>=_) _ _ s;refine xAd (W.done s _ _ l λa p=>?_);change wpAny _ A.in1 (ret Value.none) _ _ a;exact xAe<|hR a ks (p.mono r) (J.at' λo e=>p.heap S _ C e) E
 |succ k M=>
  intro i s ks T X l J E hR;have B:i<n:=by lia
  erw[codeAny_builtin PyProof.Rows.F.entry_set_update_loop];rw[Around.under_plainId PyProof.Rows.F.plain_set_update_loop _];change wpAny _ A.in1 (pyNext (.ref I)>>=_) _ _ s;refine xAd (W.item i s _ _ B l λv a Y y p=>?_);let⟨t,rfl⟩:=q i v Y;have d:zBd w a.heap S ks:=J.at' λo e=>p.heap S _ C e;change wpAny _ A.in1 (holding [Value.int (val i) t] (setAdd S<|.int (val i) t)>>=_) _ _ a;refine xAd<|xDc ?_;unfold setAdd;erw[xDc,<-xAd<|(intKind prog w).pyHash (k:=val i) (intKind_is _ _ _ _) ?_];let⟨es,ep,tb,d⟩:=d;erw[<-SIn.add (s:={a with toks:=a.toks+1}) d (Bnd.len (λx N=>by let⟨j,K,m⟩:=(E x).mp N;rw[<- m];exact O j ()) d.nd) λh' c L c2 c3 c4=>?_,<-xAe ⟨plainId_quiet PyProof.Rows.F.plain_set_update_loop _,M (i+1) _ c () B (W.frame _ a _ _ y (Nat.le_succ _) λb hb o e=>?_) c2 (λx=>?_) λs'' ks'' H d1 Z=>?_⟩]
  .rw[L.2 b λh:b=S=>D<|by rw[<- h];exact hb];exact e
  .rw[c3,E];constructor
   .rintro(rfl|⟨j,K,m⟩)
    .exact⟨i,(),rfl⟩
    .exact⟨j,(),m⟩
   .rintro⟨j,K,m⟩
    by_cases e:j=i
    .subst e;exact .inl m.symm
    .exact .inr ⟨j,(),m⟩
  .refine hR s'' ks'' (Moved.trans W.gtrans ((p.mono r).then_heap (Nat.le_succ _) λb o hb e=>?_) H) d1 Z;rw[L.2 b λh:b=S=>hb<|by rw[h];exact xAr];exact e
end
section
variable{prog:Program}{w:World}{A:Around}{E:B9->B'->Prop}{s:B'}
theorem set_list{l:C3}{items:Array B9}{k:C8}(hh:A.handled=none)(hl:s.heap.IsList l items)(hi:IntsAre items.toList k)(hb:Bnd k)(h:∀(h':Heap)(tk:Nat)(ks:C8),zBd w h' s.heap.objs.size ks->(∀x,x∈ks↔x∈k) ->
   (∀b o,s.heap.get? b=some o->h'.get? b=some o)->s.toks<=tk->Q (.ref s.heap.objs.size) {s with heap:=h',toks:=tk}) :
  wpAny (model prog w) A (call (.type "set") [.ref l]) Q E s:=by
 let⟨c,tl,hmro⟩:=PySem.F.called_set.mro;have W:=PySem.F.called_set.made;have hsub:=PySem.F.called_set.sub;have hlen:items.size=k.length:=by rw[<- hi.length,xAh]
 refine wpAny_call<|codeAny_of_tree ?_;change wpAny _ _ (callAny (.type "set") _) _ _ _;refine xAe ⟨Code.quiet_builtin _ (by decide +kernel),codeAny_builtin PySem.F.entry_type_call ?_⟩;rw[Around.under_plain (weight_type_call_type "set" [.ref l] []) rfl];have q1:=PySem.F.called_set.notType;have q2:=PySem.F.called_set.canCreate;have q3:=PySem.F.typeCall_set_1<|.ref l;repeat (any_goals (first|assumption|wp_step))
 refine codeAny_mono (mG (.ref l) (E:=E) (Q₁:=λy s₁=>∃a:C4,(a=true\/w.params.followText "set-order"=true)/\y=.ref s.heap.objs.size/\s₁={s with heap:=s.heap.push<|zAo #[] 0 (.fresh 0 0 a)}) λa n=>⟨a,n,rfl,rfl⟩) λr s₁ m=>?_;cases r with
 |error e=>exact m
 |ok fl=>
  cases fl with
  |ret y=>
   let⟨a,n,rfl,rfl⟩:=m;have P0:=rG (w:=w) a n s.heap;have hT:Shared.TypeIs {s with heap:=s.heap.push<|zAo #[] 0 (.fresh 0 0 a)} (.ref s.heap.objs.size) "set":=⟨_,P0.ob,rfl⟩
   have hli:=PySem.F.called_set.init.lookup;have hbi:=PySem.F.called_set.init.bind<|.ref s.heap.objs.size;repeat (any_goals (first|assumption|wp_step))
   refine codeAny_mono (codeAny_call_builtin (R:=wants (λr s₂=>r = .none/\∃h' tk ks,s₂={ s with heap:=h',toks:=tk }/\zBd w h' s.heap.objs.size ks/\(∀x,x∈ks↔x∈k) /\
     (∀b o,s.heap.get? b=some o->h'.get? b=some o)/\s.toks<=tk) E) PySem.F.called_set.init.plain PySem.F.entry_set_init<|check_set_init_1 hT ?_) λr₂ s₂ m₂=>?_
   .let⟨ol,G,M,nl,L⟩:=hl;let⟨ocls,d,S,oslots⟩:=ol;simp only at M L;subst M;subst L;have D:(s.heap.push<|zAo #[] 0 (.fresh 0 0 a)).get? l=some {cls:=.type "list",dict:=d,data:=.seq items nl,slots:=oslots}:=xAf _ G;have q4:=PySem.F.sub_list_set;have q5:=PySem.F.sub_list_frozenset;have q6:(Value.type "list" == Value.type "dict")=false:=by decide
    have K:(s.heap.push<|zAo #[] 0 (.fresh 0 0 a)).IsList l items:=⟨_,D,rfl,nl,rfl⟩
    unfold Builtin.«set.__init__» noKeywords Builtin.Frozenset.updateFrom;generalize hPI:pyIter=PI;wp_walk
    subst hPI;erw[wpAny_pyIter_list K,<-xAd<|wpAny_runValue ?_];have J:l<s.heap.objs.size:=xA1 G;have X:A.in1.in1.in1.handled=none:=by simp[hh]
    have H:l≠(s.heap.push<|zAo #[] 0 (.fresh 0 0 a)).objs.size:=by
     rw[Heap.size_push];exact xA0<|xCa J
    have hSf:s.heap.objs.size∉[(s.heap.push<|zAo #[] 0 (.fresh 0 0 a)).objs.size,l]:=by
     rw[Heap.size_push];simp only[xAv,xBv,or_false,not_or];exact⟨xA0<|xCp _,Nat.ne_of_gt J⟩
    have C:∀(i:Nat)(v:B9),items[i]?=some v->∃t,v=.int ((λi=>k.getD i 0) i) t:=λi v hv=>
     IntsAre.int_at hi i v (by rw[xA8];exact hv)
    refine oI ((Walks.list X _ l H items).toS) s.heap.objs.size hSf (λi=>k.getD i 0) C (λi hi=>?hB) (items.size-0) 0 _ [] () (xBn _)
     ⟨⟨_,xAl _ rfl,rfl,rfl⟩,(K.push _)⟩ ⟨_,_,_,P0.at' λo e=>xAf _ e⟩ (λx=>⋯) ?hR
    case hB=>
     erw[hb _];rw[xBz,xAk ()];exact List.getElem_mem _
    case hR=>
     intro s' T B d1 d2;let⟨h',g',d',q,P⟩:=s';have eg:g'=s.gens:=B.gens;have ed:d'=s.drawn:=B.drawn;have eo:P=s.os:=B.os;have et:s.toks<=q:=B.toks;subst eg;subst ed;subst eo;change wpAny _ _ _ _ _ _;erw[xAe];change wpAny _ _ (ret Value.none) _ _ _;refine xAe ⟨rfl,h',q,T,rfl,d1,λx=>?_,λb o e=>?_,et⟩
     .rw[d2,List.mem_iff_getElem];constructor
      .rintro⟨j,O,p⟩
       refine⟨j,(),?_⟩;rw[<- p,xBz,xAk ()];rfl
      .rintro⟨j,O,p⟩
       refine⟨j,(),?_⟩;rw[<- p,xBz,xAk ()];rfl
     .have N:=xA1 e;have Z:b≠s.heap.objs.size:=xA0 N;have Y:b≠(s.heap.push<|zAo #[] 0 (.fresh 0 0 a)).objs.size:=by
       rw[Heap.size_push];exact xA0<|xCa N
      exact B.heap b o (by simp only[xAv,xBv,or_false,not_or];exact⟨Z,Y⟩)<|xAf _<|xAf _ e
   .cases r₂ with
    |error e=>exact m₂
    |ok fl₂ =>
     cases fl₂ with
     |ret r=>
      let⟨rfl,h',tk,ks,rfl,O,p,z4,z5⟩:=m₂;repeat (any_goals (first|assumption|wp_step))
      exact h _ _ _ O p z4 z5
     |_=>exact m₂.elim
  |_=>exact m.elim
end
def rV:entryFor table "set.__iter__"=some Builtin.«frozenset.__iter__» :=
 entryFor_alias (id':="frozenset.__iter__") (by kernel_rfl) rfl (by decide +kernel) (by kernel_rfl)
def qA:Manifest.owners.lookup (String.ofList ['r','o','t','a','r','e','t','i','_','t','e','s'].reverse)=some Manifest.sig_set_iterator:=by kernel_rfl
def fL:Slot "set_iterator" "__iter__" "set_iterator.__iter__" :=
 Slot.of (owner:="set_iterator") (n:="__iter__") (by rw[typeLookup_type,builtinLookup_eq_fast];kernel_rfl) (by decide +kernel) (by decide +kernel) (by decide +kernel) (by first|exact .inl (by decide +kernel)|exact .inr (by decide +kernel)) (by rw[isSubtype_type];kernel_rfl)
def cS:Slot "set_iterator" "__next__" "set_iterator.__next__" :=
 Slot.of (owner:="set_iterator") (n:="__next__") (by rw[typeLookup_type,builtinLookup_eq_fast];kernel_rfl) (by decide +kernel) (by decide +kernel) (by decide +kernel) (by first|exact .inl (by decide +kernel)|exact .inr (by decide +kernel)) (by rw[isSubtype_type];kernel_rfl)
def fP:entryFor table "set_iterator.__next__"=some Builtin.«set_iterator.__next__»:=entryFor_of_tree (by kernel_rfl)
def jX:entryFor table "set_iterator.__iter__"=some Builtin.«dict_keyiterator.__iter__» :=
 entryFor_alias (id':="dict_keyiterator.__iter__") (by kernel_rfl) rfl (by decide +kernel) (by kernel_rfl)
def fS(a:B9):argsOk "set_iterator.__next__" ⟨[a],[]⟩:=by
 unfold argsOk;rw[signature?_of (id:="set_iterator.__next__") (n:=['_','_','t','x','e','n','_','_']) (o:=['r','o','t','a','r','e','t','i','_','t','e','s']) (by kernel_rfl) qA];kernel_rfl
def km(a:B9):argsOk "set_iterator.__iter__" ⟨[a],[]⟩:=by
 unfold argsOk;rw[signature?_of (id:="set_iterator.__iter__") (n:=['_','_','r','e','t','i','_','_']) (o:=['r','o','t','a','r','e','t','i','_','t','e','s']) (by kernel_rfl) qA];kernel_rfl
noncomputable def zDm(slot i:Nat)(a:C3)(n ep:Nat):Obj:={cls:=.type "set_iterator",dict:=none,data:=.fields #[rawInt slot,rawInt i,.ref a,rawInt n,rawInt ep],slots:=#[]}
section
variable{prog:Program}{w:World}{A:Around}{E:B9->B'->Prop}{s:B'}{a:C3}{es:Array<|Int×B9}{ep:Nat}{t:SetTable}{ks:C8}
def SIn.drawn(S:SIn w s.heap a es ep t ks){Q:C4->B'->Prop}(h:Q false s):wpAny (model prog w) A (setDrawn a) Q E s:=by
 unfold setDrawn;refine xAd<|S.state ?_;dsimp only;refine xAd<|zDh ?_;change wpAny _ _ (pure (!(w.params.followText "set-order")&&(!t.plain&&decide (es.size>1)))) _ _ _;rw[S.tb.pl];simp only[Bool.not_true,Bool.false_and,xDe];exact xAe h
def SIn.iter(S:SIn w s.heap a es ep t ks)(h:Q (.ref s.heap.objs.size) {s with heap:=s.heap.push<|zDm 0 0 a ks.length ep}) :
  wpAny (model prog w) A (pyIter<|.ref a) Q E s:=by
 refine wpAny_pyIter_slot S.type PySem.F.slot_set_iter<|wpAny_call_entry PySem.F.slot_set_iter S.type rV ?_<|PySem.F.args_set_iter_1 _;unfold Builtin.«frozenset.__iter__»;erw[<-xAd (m:=Builtin.Frozenset.slot0 _ _)<|xAe ?_,<-xAd<|S.sizeOf ?_,<-xAd<|S.drawn ?_];rw[xCf xAy];erw[<-xAd<|xAe ?_,<-xAd<|S.epoch ?_,<-xAd<|xBl<|xAe ⟨_,rfl,"set_iterator",_,⟨_,xAl _ rfl,rfl⟩,cS.lookup,?_⟩];exact h
def zGz(w:World)(h:Heap)(I a:C3)(es:Array<|Int×B9)(ep:Nat)(t:SetTable)(ks:C8)(i:Nat):Prop:=
 (∃slot,h.get? I=some (zDm slot i a ks.length ep)/\(w.params.followText "set-order"=false->below t.place slot=i))/\SIn w h a es ep t ks
def yh{h:Heap}{n:Nat}(c:h.get? I=some (zDm slot i a n ep))(b:Nat) :
  ((h.update I (Obj.mapFields (·.setIfInBounds 0 (rawInt b)))).update I (Obj.mapFields (·.setIfInBounds 1 (rawInt<|(i:Int)+1)))).get? I=some (zDm b (i+1) a n ep):=by
 have e:=xA7 (Obj.mapFields (·.setIfInBounds 0 (rawInt b))) c rfl;have d:=xA7 (Obj.mapFields (·.setIfInBounds 1 (rawInt<|(i:Int)+1))) e rfl;exact d
theorem SIn.next(S:SIn w s.heap a es ep t ks)(k:w.params.followText "set-order"=false->below t.place slot=i){Q:B8 (B9×Nat)->B'->Prop}(d:∀(e:Int×B9)(b:Nat),(wk w a ep es)[i]?=some e->(w.params.followText "set-order"=false->below t.place b=i+1)->Q (some (e.2,b)) s)(c:(wk w a ep es)[i]?=none->Q none s):wpAny (model prog w) A (setNext a slot i ep) Q E s:=by
 unfold setNext;refine xAd<|S.state ?_;dsimp only;refine xAd<|zDh ?_;cases hb:w.params.followText "set-order" with
 |true=>
  rw[xCg rfl,xCf ⋯];refine xAd<|S.walk<|xAe ?_;cases he:(wk w a ep es)[i]? with
  |none=>exact c he
  |some e=>exact d e slot he λq=>by rw[hb] at q;cases q
 |false=>
  rw[xCf xAy];have l:t.led=true:=S.ld.elim id λq=>by rw[hb] at q;cases q
  have h:wk w a ep es=es:=by unfold wk;rw[hb,xCf xAy]
  rw[h] at d c;change wpAny _ _ (if(!t.plain&&decide (es.size>1))=true then _ else _) _ _ _;rw[S.tb.pl];simp only[Bool.not_true,Bool.false_and,xAz,↓reduceIte];change wpAny _ _ ((if(!t.led&&!es.isEmpty)=true then unsupported "set:maker-not-led" else pure Unit.unit)>>=_) _ _ _;rw[l];simp only[Bool.not_true,Bool.false_and,xAz,↓reduceIte];refine xAd<|xAe<|xAe ?_;rw[k hb];have j:=S.tb.sz;cases he:es[i]? with
  |none=>exact c he
  |some e=>
   let⟨n,_⟩:=xB7.mp he;rw[Array.getElem?_eq_getElem (by lia:i<t.place.size)];refine d e _ he λ_=>gZ S.tb.ris () (λ_ _=>?_) λm=>?_
   .exact xCp _
   .exact S.tb.ris i (i+1) () m<|xCp _
def ou{Q:B8 B9->B'->Prop}(l:a≠I)(p:zGz w s.heap I a es ep t ks i)(hi:i<ks.length)(h:∀e h',(wk w a ep es)[i]?=some e->zGz w h' I a es ep t ks (i+1)->Heap.SameBut I s.heap h'->Q (some e.2) {s with heap:=h'}):wpAny (model prog w) A (pyNext<|.ref I) Q E s:=by
 let⟨⟨slot,d,q⟩,S⟩:=p;have n:s.TypeIs (.ref I) "set_iterator":=⟨_,d,rfl⟩
 unfold pyNext;refine xAd<|wpAny_attempt<|wpAny_callSpecial?_slot (name:=Str.ofString "__next__") n cS<|wpAny_call_entry cS n fP ?_<|fS _;unfold Builtin.«set_iterator.__next__»;erw[<-xAd<|xAe ?_,<-xAd<|wpAny_fieldsOf d rfl ?_];dsimp only;refine xAd<|S.entries ?_;have j:=S.size;rw[xCf<|by rw[j];simp];change wpAny _ _ (setNext a slot i ep>>=_) _ _ _;refine xAd<|S.next q (λe b m k=>?_) λm=>?_
 .dsimp only;refine xAd<|wpAny_setField d rfl ⋯ ?_;have v:=xA7 (Obj.mapFields (·.setIfInBounds 0 (rawInt b))) d rfl;refine xAd<|wpAny_setField v rfl ⋯ ?_;have c:=(xB5 s.heap I (Obj.mapFields (·.setIfInBounds 0 (rawInt b)))).trans (xB5 _ I (Obj.mapFields (·.setIfInBounds 1 (rawInt<|(i:Int)+1))));refine xAe ⟨_,rfl,xAe<|h e _ m ⟨⟨b,yh d b,k⟩,S.at' λo r=>?_⟩ c⟩;rw[c.2 a l];exact r
 .have:=(iy w a ep es).length_eq;rw[xAh,xAh] at this;rw[Array.getElem?_eq_none_iff] at m;lia
def qO{Q:B8 B9->B'->Prop}(r:A.handled=none)(n:zGz w s.heap I a es ep t ks ks.length)(h:∀h',Heap.ExtBut I s.heap h'->Q none {s with heap:=h'}):wpAny (model prog w) A (pyNext<|.ref I) Q E s:=by
 let⟨⟨slot,j,p⟩,S⟩:=n;have l:s.TypeIs (.ref I) "set_iterator":=⟨_,j,rfl⟩
 unfold pyNext;refine xAd<|wpAny_attempt<|wpAny_callSpecial?_slot (name:=Str.ofString "__next__") l cS<|wpAny_call_entry cS l fP ?_<|fS _;unfold Builtin.«set_iterator.__next__»;erw[<-xAd<|xAe ?_,<-xAd<|wpAny_fieldsOf j rfl ?_];dsimp only;refine xAd<|S.entries ?_;have d:=S.size;rw[xCf<|by rw[d];simp];change wpAny _ _ (setNext a slot ks.length ep>>=_) _ _ _;refine xAd<|S.next p (λe c k o=>?_) λk=>?_
 .let⟨q,_⟩:=xB7.mp k;have:=(iy w a ep es).length_eq;rw[xAh,xAh] at this;lia
 .dsimp only;erw[<-xAd<|wpAny_setField j rfl ⋯ ?_,xAd];simp only[newExc,newTuple];erw[<-xAd (xBl ?_<|by size_fits),<-xAd (m:=firstArgMember _ _)<|wpAny_of_eq (a:=Value.none) (by first|rfl|(simp only[firstArgMember];rfl)) ?_,<-xBl ?_ (by size_fits)];simp only[raiseNew];refine xAd<|wpAny_handled ?_;rw[show A.in1.handled=none from r];erw[<-xAd<|xAe<|wpAny_throw ?_,<-xAd<|wpAny_isInstance (T:="StopIteration") (b:=true) ⟨_,xAl _ rfl,rfl⟩ isSubtype_stop ?_];exact xAe<|h _<|((xB5 ..).extBut.push _).push _
def nP(B:A.handled=none)(I a:C3)(l:a≠I)(es:Array<|Int×B9)(ep:Nat)(t:SetTable)(ks:C8) :
  Walks prog w A I [I,a] [I] ks.length (λi v=>∃e,(wk w a ep es)[i]?=some e/\e.2=v) (λi h=>zGz w h I a es ep t ks i) where
 sub:=λb hb=>by simp at hb;simp[hb]
 frame:=λ_ _ _ c p=>⟨let ⟨slot,k,j⟩:=c.1;⟨slot,p I ⋯ _ k,j⟩,c.2.at' λo e=>p a ⋯ o e⟩
 item:=λi s Q E y c d=>ou l c y λe n k j r=>d e.2 n s.toks ⟨e,k,rfl⟩ j λb o hb q=>r.extBut b o (λz=>hb<|by simp[z]) q
 done:=λs Q E c d=>qO B c λn z=>d n s.toks λb o hb q=>z b o (λz=>hb<|by simp[z]) q
 self:=λ_ s _ _ c d=>by
  let⟨⟨slot,x,_⟩,_⟩:=c;have m:s.TypeIs (.ref I) "set_iterator":=⟨_,x,rfl⟩
  refine wpAny_pyIter_slot m fL<|wpAny_call_entry fL m jX ?_<|km _;change wpAny _ _ (ret<|.ref I) _ _ s;exact xAe ⟨_,rfl,"set_iterator",_,m,cS.lookup,d⟩
def rq{r:C3}{Q:C4->B'->Prop}(d:s.TypeIs (.ref r) "set")(h:Q false s):wpAny (model prog w) A (Builtin.List.listLengthHint<|.ref r) Q E s:=by
 unfold Builtin.List.listLengthHint;refine xAd<|wpAny_specialOf d PySem.F.slot_set_len.lookup ?_;generalize hid:("set.__len__":String)=id0
 wp_delta
 rw[show splitId id0=some ("set","__len__") from by subst hid;decide +kernel];subst hid;erw[<-xAd<|wpAny_isInstance (T:="set") (b:=true) d (by rw[isSubtype_type];kernel_rfl) ?_,<-wpAny_ite_split (λc=>absurd c ∅) (λ_=>?_),<-wpAny_ite_split (λ_=>?_) (λc=>absurd (by decide +kernel) c),<-xAd<|wpAny_typeOf d ?_,<-xAe h]
def tw:PySem.W.KdlSrc prog w "set" a a ks.length (λi v=>∃e,(wk w a ep es)[i]?=some e/\e.2=v) (λh=>SIn w h a es ep t ks) where
 type:=λs q=>SIn.type (s:=s) q
 there:=λ_ q=>⟨xA1 q.ob,xA1 q.ob⟩
 keep:=λ_ _ q c=>q.at' λo e=>c a (.inl rfl) o e
 notList:=by decide
 notTuple:=by decide
 hint:=λ_ _ s _ q b=>rq (SIn.type (s:=s) q) b
 iter:=λ_ s d q=>⟨_,_,(λ_ _ b=>SIn.iter (s:=s) q b),nP d _ a (xA0<|xA1 q.ob) es ep t ks,⟨⟨0,xAl _ rfl,λ_=>gZ q.tb.ris (xBn _) (λz=>absurd z<|xBo _) λ_=>xBn _⟩,q.at' λo e=>xAf _ e⟩⟩
end
end SetA
namespace L2
open PySem PySem.Spec PyProof.Rows
section
variable{X:Cx}
theorem kZ{kvs:B7<|Key×V}{vs:B7<|Key×B9}{c:C8}{P:Program}{w:World}{acc:Array B9}(n:KV kvs vs)(C:kvs.map (·.1)=c.map Sum.inl)(hi:acc.size=vs.length)(B:∀(i:Nat)(v:B9),acc[i]?=some v->∃k x,vs[i]?=some (k,x)/\(zAj P w).is k v=true):zAg (c.map V.int) acc.toList:=by
 have a:vs.map (·.1)=c.map Sum.inl:=by rw[<- n.keys];exact C
 have A:c.length=vs.length:=by
  have:=congrArg List.length a;rw[xAa,xAa] at this;exact this.symm
 have o:∀(l:D0)(b:C8),l.length=b.length->(∀(i:Nat)(v:B9),l[i]?=some v->∃m t,b[i]?=some m/\v=Value.int m t)->zAg (b.map V.int) l:=by
  intro l;induction l with
  |nil=>
   intro b h _;cases b with
   |nil=>exact .nil
   |cons _ _=>simp at h
  |cons v l ih=>
   intro b h q;cases b with
   |nil=>simp at h
   |cons m b=>
    let⟨E,t,r,p⟩:=q 0 v rfl;cases r;exact .cons ⟨t,p⟩<|ih b (by simpa using h) λi u e=>q (i+1) u e
 refine o acc.toList c (by rw[xAh];lia) λi v e=>?_;let⟨k,x,r,p⟩:=B i v (by rw[<- xA8];exact e);have d:(vs.map (·.1))[i]?=some k:=by rw[xAw,r];rfl
 rw[a,xAw] at d;cases en:c[i]? with
 |none=>rw[en] at d;cases d
 |some m=>
  rw[en] at d;cases d;rcases cw (show zCi (Sum.inl m) v=true from p) with ⟨F,t,j,y⟩|⟨D,t,j,y⟩
  .cases j;exact⟨m,t,rfl,y⟩
  .cases j
end
end L2
namespace L2
open PySem PySem.Spec PyProof.Rows SetA
variable{P:Program}{H:Hp}{h:Heap}{p:C3}{ks:C8}
noncomputable def zEu(w:World)(p:C3)(ks:C8):HO:=HO.ext λh=>zBd w h p ks
def wt{w:World}(S:zBd w h p ks):zAe P w H h p<|zEu w p ks:=
 ⟨S,let ⟨_,_,_,q⟩:=S;⟨_,q.ob⟩,λb a q k=>q.at' k⟩
def wu{w a:World}(ok:HOk P a H h)(e:H p=some (zEu w p ks)):zBd w h p ks:=(ok p _ e).1
section
variable{X:Cx}
def tz{s:B'}{Z:B7<|C3×Obj}{O:St}{h':Heap}{tk:Nat}{Q:VK}(I:Inv X Z O H s)(k:∀b o,s.heap.get? b=some o->h'.get? b=some o)(S:zBd X.w h' s.heap.objs.size ks)(q:H s.heap.objs.size=none->Q (.ref s.heap.objs.size) (upd H s.heap.objs.size<|zEu X.w s.heap.objs.size ks)):EP X Z O Q (.ref s.heap.objs.size) {s with heap:=h',toks:=tk}:=by
 have c:s.heap.get? s.heap.objs.size=none:=by
  cases z:s.heap.get? s.heap.objs.size with
  |none=>rfl
  |some o=>exact absurd (xA1 z) (xBo _)
 let⟨a,I2⟩:=Inv.laidN (t':=tk) I k c<|wt S;exact⟨.ref s.heap.objs.size,_,I2,rfl,q a⟩
def oQ(j:X.calm=true):zAl X (.type "set") (λxs H Q=>∃(p:C3) (b:C8),xs=[.ref p]/\SqL X.K H p (b.map V.int)/\Bnd b /\
  ∀(l:C3)(ks:C8),H l=none->ks.Nodup->(∀z,z∈ks↔z∈b)->Q (.ref l) (upd H l<|zEu X.w l ks)):=by
 intro Z s O H xs us Q I r h;let⟨p,b,rfl,k,e,h⟩:=h;let⟨u,rfl,d⟩:=zBa r;obtain rfl:u=Value.ref p:=d;let⟨its,r1,t1,o⟩:=I.list k;have a:=r1.length;rw[xAa] at a;refine SetA.set_list (I.ok.hd j) t1.isList (dR r1) e λq tk ks c n m t=>?_;exact tz (tk:=tk) I m c λi=>h _ ks i (let ⟨_,_,_,z⟩:=c;z.nd) n
def oE{es:Array<|Int×B9}{c:C8}{acc:Array B9}(r:EOk es.toList)(o:es.toList.map zCo=c)(hi:acc.size=c.length)(n:∀(i:Nat)(v:B9),acc[i]?=some v->∃e,es[i]?=some e/\e.2=v):zAg (c.map V.int) acc.toList:=by
 have d:∀(l:D0)(a:C8),l.length=a.length->(∀(i:Nat)(v:B9),l[i]?=some v->∃m t,a[i]?=some m/\v=Value.int m t)->zAg (a.map V.int) l:=by
  intro l;induction l with
  |nil=>
   intro a h _;cases a with
   |nil=>exact .nil
   |cons _ _=>simp at h
  |cons v l ih=>
   intro a h q;cases a with
   |nil=>simp at h
   |cons m a=>
    let⟨y,t,b,j⟩:=q 0 v rfl;cases b;exact .cons ⟨t,j⟩<|ih a (by simpa using h) λi u e=>q (i+1) u e
 refine d acc.toList c (by rw[xAh];exact hi) λi v e=>?_;let⟨x,b,j⟩:=n i v (by rw[<- xA8];exact e);rw[<- xA8] at b;let⟨k,t,rfl⟩:=r x<|xAc b;refine⟨k,t,?_,j.symm⟩;rw[<- o,xAw,b];rfl
end
end L2
namespace L2
open PySem PySem.Spec PyProof.Rows
variable{s:B'}{scope:Scope}{env:Env}{X:Cx}{Z:B7<|C3×Obj}{O:St}{H:Hp}{i n:Nat}{fp:B7 C3}{es:B7 C0}{e:C0}
structure zB4(X:Cx)(scope:Scope)(cl:B7 (Str×C3))(ls N:C5)(fr:C7):Prop where
 clos:closureFor scope X.env=pure cl
 cell:∀y∈scope.names,y.2≠.cell
 kind:scope.kind=.function
 names:∀y∈scope.names,y.2=.local->scope.names.lookup y.1=some .local
 sub:∀y c,cl.lookup y=some c->X.env.cells.lookup y=some c
 has:∀y∈scope.names,y.2=.free->∃c,cl.lookup y.1=some c
 caps:∀(j:Nat)(y:Str),N[j]?=some y->∃k c,fr[j]?=some k/\X.N[k]?=some y/\Vis X.env.scope y/\X.env.kindOf y≠some .local/\cl.lookup y=some c/\(scope.names.lookup y=some .free)
 len:N.length=fr.length
theorem lB{prog:Program}{w:World}{A:Around}{R:Result->B'->Prop}{j target iter:C0}{d:B7 C0}{pos:Pos}{k acc:B9}(b:Nat->B'->Prop)(go:∀n s,b n s->wpAny (model prog w) A (pyNext k) (λr o=>match r with
   |none=>R (.ok .next) o
   | some v=>wpAny (model prog w) A (letOwnedTupleGo target k v) (λ_ y=>wpAny (model prog w) A (assign target env v) (λ_ t =>
     wpAny (model prog w) A (forIn d true λc r=>if r=true then do let ok <- isTrue c env (eval c env);pure (ForInStep.yield ok) else pure (ForInStep.yield r)) (λok l =>
      if ok=true then wpAny (model prog w) A (eval j env) (λx q=>wpAny (model prog w) A (call (.builtin "list.append") [acc,x]) (λ_ p=>∃m,m<n/\b m p) (notedBy (model prog w) A env λe a=>R (.error e) a) q) (notedBy (model prog w) A env λe a=>R (.error e) a) l
      else ∃m,m<n/\b m l) (notedBy (model prog w) A env λe a=>R (.error e) a) t) (notedBy (model prog w) A env λe a=>R (.error e) a) y) (notedBy (model prog w) A env λe a=>R (.error e) a) o) (notedBy (model prog w) A env λe a=>R (.error e) a) s)(n:Nat)(h:b n s):codeAny (model prog w) A (.compLoop (.ListComp j [⟨target,iter,d,0⟩] scope pos) 0 k acc env) R s:=by
 refine codeAny_loop rfl b (λn s D=>?_) n h;change wpAny _ A ((compTurn (.ListComp j [⟨target,iter,d,0⟩] scope pos) 0 k acc env).onRaise λx=>do noteFrame x env;theTreesLotGoes x) _ _ s;erw[wpAny_noted];rw[compTurn_list];refine xAd (wpAny_standAt<|xAd<|wpAny_mono (go n s D) (λr o C=>?_) λ_ _ z=>z);cases r with
 |none=>exact xAe C
 |some v=>
  erw[<-xAd (wpAny_mono C (λ_ y I=>?_) λ_ _ z=>z),<-xAd (wpAny_mono I (λ_ t G=>xAd<|wpAny_mono G (λok l B=>?_) λ_ _ z=>z) λ_ _ z=>z)];cases ok with
  |false=>exact xAe ⟨rfl,B⟩
  |true=>exact xAd (xAd<|wpAny_mono B (λx q F=>xAd<|wpAny_mono F (λ_ p E=>xAe<|xAe ⟨rfl,E⟩) λ_ _ z=>z) λ_ _ z=>z)
def PTs(X:Cx)(a:B7 C0)(t:TT):Prop:=
 ∀(Z:B7<|C3×Obj)(s:B')(O:St)(H:Hp)(Q:C4->Hp->Prop),Inv X Z O H s->t O H Q ->
  wpAny (model X.prog X.w) X.A (forIn a true λc r=>if r=true then do let ok <- isTrue c X.env (eval c X.env);pure (ForInStep.yield ok) else pure (ForInStep.yield r)) (TP X Z O Q) X.xe s
def zIf:TT:=λ_ H Q=>Q true H
def tH:PTs X [] zIf:=λ_ _ _ H _ I h=>wpAny_tests_nil ⟨H,I,h⟩
def zG4(wi:TI)(m:Nat)(d:C7)(g:TG)(l:TT)(j:TE):TE:=λO H Q=>wi O H λa H1=>∀D,H1 D=none->∃W:Nat->Nat->C9->Hp->Prop,(∃k,W 0 k []<|upd H1 D<|.lst [])/\∀i k ys H,W i k ys H->H D=some (.lst ys) /\
 ((a.stop i H/\Q (.ref D) H)\/(a.go i H/\ys.length<sizeLine/\∃N:C9->Hp->Prop,(∀c H',N c H'->∃h,h<k/\W (i+1) h c H') /\
  ∀x H',a.yld i H x H'->g x (List.replicate m none++zC0 O d) H' λσ2 H2=>σ2.drop m=zC0 O d/\σ2.length=m+d.length /\
   l σ2 H2 λb H3=>H3 D=some (.lst ys)/\if b=true then j σ2 H3 λv H4=>H4 D=some (.lst ys)/\N (ys++[v]) (upd H4 D<|.lst<|ys++[v]) else N ys H3))
def Inv.forget{O':St}(I:Inv X Z O H s)(a:O'.length=O.length)(h:∀(i:Nat)(v:V),O'[i]?=some (some v)->O[i]?=some (some v)):Inv X Z O' H s:=
 ⟨I.ok,I.os,I.bare,I.base,let ⟨m,c,b⟩:=I.loc;⟨m,c,λi x v k j d=>b i x v k (h i v j) d⟩,I.cell,I.free,I.freeC,I.pin,I.hok,a.trans I.len⟩
def jJ{m:Nat}{cs:St}{v:V}(h:(List.replicate m none++cs)[i]?=some (some v)):m<=i/\cs[i-m]?=some (some v):=by
 by_cases hi:i<m
 .rw[List.getElem?_append_left (by simpa using hi),List.getElem?_replicate,xCg hi] at h;cases h
 .rw[xCl (by simp;lia),xCu] at h;exact⟨(),h⟩
section
variable{X:Cx}{elt tg iter:C0}{ifs:B7 C0}{pos:Pos}{scope:Scope}{cl:B7<|Str×C3}{ls N:C5}{fr:C7}{wi:TI}{g:TG}{tc:TT}{te:TE}
def sk{C:C3}(cp:zB4 X scope cl ls N fr)(I:Inv X Z O H s)(d:s.heap.objs.size<=C)(a:∀b∈fp,zC1 X Z H b)(k:∀b∈fp,b<s.heap.objs.size) :
  (zAm X (ls++N) scope cl C s H fp).Ok where
 mod:=I.ok.mod
 kind:=cp.kind
 glob:=I.ok.glob
 blt:=I.ok.blt
 above:=d
 inj:=λy z c p l=>I.ok.inj y z c (cp.sub y c p)<|cp.sub z c l
 has:=λy h=>by
  have h':(relabel scope X.env).names.lookup y=some .cell\/(relabel scope X.env).names.lookup y=some .free:=h;rcases h' with h'|h'
  .obtain⟨j,m,z|⟨z,_⟩⟩:=fM h'
   .subst z;exact absurd rfl<|cp.cell _ m
   .subst z;exact cp.has _ m rfl
  .obtain⟨j,m,z|⟨_,z⟩⟩:=fM h'
   .subst z;exact cp.has _ m rfl
   .cases z
 cab:=λ_ _ e=>absurd e xAy
 hd:=I.ok.hd
 frames:=I.ok.frames
 stk:=.inl rfl
 exf:=λb hb=>⟨xA0<|xBc (k b hb) d,λy c e z=>(a b hb).2.2.2.2.1 y c (cp.sub y c e) z⟩
 bs:=I.bs
 bsz:=xCk I.ok.bsz I.sz
 noex:=λb o e hb=>by
  have q:=a b hb;rcases q.2.2.2.1 with z|z
  .exact I.ok.noex b o e z
  .have:=xA1 (I.ok.bs b o e).1;exact absurd (xBc this z)<|xBo _
 exfs:=λb hb z=>by
  have q:=a b hb;rcases xAv.mp (I.stkSub b z) with z'|z'
  .exact q.2.1 z'
  .exact q.2.2.1 z'
 funs:=I.stack
 frf:=I.stkFree
def j9{pos':Pos}{Q:VK}{use:B8<|B9->Sem Unit}{QQ:B9->B'->Prop}(hc:X.calm=true)(cp:zB4 X scope cl ls N fr)(hi:PI X tg iter wi)(hg:∀C s H fp,PG (zAm X (ls++N) scope cl C s H fp) tg g)(ht:∀C s H fp,PTs (zAm X (ls++N) scope cl C s H fp) ifs tc)(he:∀C s H fp,PE (zAm X (ls++N) scope cl C s H fp) elt te)(hs:∀v,foldedSetIterable iter X.env v=pure v)(I:Inv X Z O H s)(h:zG4 wi ls.length fr g tc te O H Q)(fin:∀(B C:C3)(H':Hp)(J:B')(m:Str->B8 B9),Inv X Z O H' J->zC1 X Z H' C->J.heap.Ns C m->Q (.ref B) H'->compPost (model X.prog X.w) X.A X.xe use QQ (.ref B) C (.ok .next) J) :
  wpAny (model X.prog X.w) X.A (comprehension (.ListComp elt [⟨tg,iter,ifs,0⟩] scope pos) scope X.env pos' (newList []) false (eval iter X.env) use) QQ X.xe s:=by
 refine wpAny_comprehension_free (use:=use) rfl hs cp.clos cp.kind cp.names (thn (hi Z s O H _ I h) λv s1 S=>thn S λitv a h2=>?_);let⟨it,fp,tn,m0J,H2,e,I2,T,G,Y,R⟩:=h2;subst e;have hfl:∀b∈fp,b<a.heap.objs.size:=λb hb=>let ⟨o,e,_⟩:=T.obj _ _ G b hb;xA1 e;refine xBl<|wpAny_newFunctionEnv cp.cell (by intro y hy;simp at hy) (λS E t=>?_) cp.kind;dsimp only at E t⊢;generalize hG:a.heap.push {cls:=.type "list",dict:=none,data:=.seq ([]:D0).toArray}=G2 at E t⊢;have hCs:G2.objs.size=a.heap.objs.size+1:=by rw[<- hG,Heap.size_push]
 have hDC:a.heap.objs.size≠G2.objs.size:=by rw[hCs];exact xA0<|xCp _
 have l:a.heap.objs.size<=G2.objs.size:=by rw[hCs];exact Nat.le_succ _
 have x:∀b o,a.heap.get? b=some o->S.get? b=some o:=λb o e=>t.extBut b o (xA0<|xBc (xA1 e) l)<|xAf _<|hG▸xAf _ e;have hacc:S.get? a.heap.objs.size=some {cls:=.type "list",dict:=none,data:=.seq ([]:D0).toArray}:=t.extBut _ _ hDC<|xAf _<|hG▸xAl _ rfl;have hDn:H2 a.heap.objs.size=none:=I2.hok.fresh<|xAg _;have hCn:H2 G2.objs.size=none:=I2.hok.fresh l;let⟨W,⟨m0,w0⟩,turn⟩:=R a.heap.objs.size hDn;have K:=sk (C:=G2.objs.size) cp I2 l Y hfl;have I3:Inv (zAm X (ls++N) scope cl G2.objs.size a H2 fp) [] (List.replicate ls.length none++zC0 O fr) (upd H2 a.heap.objs.size<|.lst []) {a with heap:=S,toks:=a.toks+([]:B7<|Str×B9).length}:=by
  refine⟨K,rfl,I2.bare,Un.laid x (xAg _) hDn,⟨_,E,λi y v e1 e2 e3=>?_⟩,λy c e=>?_,?_,λy c e=>?_,(λp hp=>nomatch hp),I2.hok.laid x (xAg _) ⟨xBn _,[],0,.nil,hacc⟩,?_⟩
  .let⟨hm,L⟩:=jJ e2;have e1':N[i-ls.length]?=some y:=by
    have e1'':(ls++N)[i]?=some y:=e1;rw[xCl hm] at e1'';exact e1''
   let⟨k,c,g1,g2,g3,g4,g5,g6⟩:=cp.caps _ y e1';have e4:O[k]?=some (some v):=by
    unfold zC0 at L;rw[xAw,g1] at L;have e5:(O[k]?).join=some v:=xB3 L;cases z:O[k]? with
    |none=>rw[z] at e5;cases e5
    |some o=>rw[z] at e5;exact congrArg some e5
   let⟨m2,_,hl2⟩:=I2.loc;let⟨u,r,lk⟩:=hl2 k y v g2 e4 g3;refine⟨u,r,.inr ⟨da g6,c,g5,?_⟩⟩;rcases lk with ⟨lk,_⟩|⟨_,c',lk1,o,lk2,lk3⟩
   .exact absurd lk g4
   .have:=cp.sub y c g5;rw[lk1] at this;cases this;exact⟨o,x _ _ lk2,lk3⟩
  .let⟨v,o,e1,e2⟩:=I2.cell y c<|cp.sub y c e;exact⟨v,o,x _ _ e1,e2⟩
  .show upd H2 a.heap.objs.size (.lst []) G2.objs.size=none;rw[bt<|Ne.symm hDC];exact hCn
  .let⟨v,o,e1,e2⟩:=I2.cell y c<|cp.sub y c e;rw[bt<|xA0<|xA1 e1];exact I2.freeC y c<|cp.sub y c e
  .change(List.replicate ls.length none++zC0 O fr).length=(ls++N).length;unfold zC0;rw[xAb,xAb,xCu,xAa,cp.len]
 have D:∀{H':Hp},(∀b∈fp,H' b=none)->∀b∈fp,zC1 (zAm X (ls++N) scope cl G2.objs.size a H2 fp) [] H' b:=λhn b hb=>
  ⟨hn b hb,xA0<|xBc (hfl b hb) l,K.exfs b hb,.inl hb,(K.exf b hb).2,λp hp=>nomatch hp⟩
 have loop:∀s3:B',s3={a with heap:=S,toks:=a.toks+([]:B7<|Str×B9).length} ->
   codeAny (model X.prog X.w) X.A (.compLoop (.ListComp elt [⟨tg,iter,ifs,0⟩] scope pos) 0 (.ref it) (.ref a.heap.objs.size)<|compEnvC scope cl G2.objs.size X.env)
    (compPost (model X.prog X.w) X.A X.xe use QQ (.ref a.heap.objs.size) G2.objs.size) s3:=by
  rintro s3 rfl
  refine lB (λn s'=>∃i ys H',Inv (zAm X (ls++N) scope cl G2.objs.size a H2 fp) [] (List.replicate ls.length none++zC0 O fr) H' s'/\tn i s'.heap/\(∀b∈fp,H' b=none)/\W i n ys H') ?_ m0
   ⟨0,[],_,I3,T.keep _ _ _ G λb hb o e=>x b o e,λb hb=>by rw[bt<|xA0<|hfl b hb];exact(Y b hb).1,w0⟩
  rintro n s' ⟨i,ys,H',IY,st,frn,w'⟩
  let⟨hD,hh⟩:=turn i n ys H' w';rcases hh with ⟨stop,q⟩|⟨go,hz,Nx,hN,step⟩
  .refine wpAny_mono (T.done (zAm X (ls++N) scope cl G2.objs.size a H2 fp) rfl rfl rfl hc i [] s' _ H' (λ_ _=>False) IY (D frn) st stop) (λr J h4=>?_) (λ_ _ z=>z.elim);let⟨hr,I4⟩:=h4;subst hr;let⟨mY,hnY,_⟩:=I4.loc;have I5:Inv X Z O H' J:=Inv.call' (s:=a) (H:=H2) (ch:=fp) I2 I4.os I4.base I4.hok I4.bare (λb hb=>⟨(Y b hb).2.2.2.1,(Y b hb).2.1,(Y b hb).2.2.2.2.1,(Y b hb).2.2.2.2.2⟩);exact fin _ _ H' J mY I5 (I2.fpOk l I4.free) hnY q
  .refine wpAny_mono (T.item (zAm X (ls++N) scope cl G2.objs.size a H2 fp) rfl rfl rfl hc i [] s' _ H' (λ_ _=>False) IY (D frn) st go) (λr J h4=>?_) (λ_ _ z=>z.elim);let⟨u,hr,h4⟩:=h4;subst hr;refine wpAny_mono h4 (λ_ s5 h5=>?_) (λ_ _ z=>z.elim);let⟨xv,H5,I5,r5,y5,F,fr5⟩:=h5;have I5':=I5.pinned (D fr5)<|T.obj _ _ F;refine wpAny_mono (hg G2.objs.size a H2 fp _ s5 _ H5 xv u _ I5' r5<|step xv H5 y5) (λ_ s6 h6=>?_) (λ_ _ z=>z.elim);let⟨σ6,H6,I6,c6,l6,t6⟩:=h6;have back:∀{H7:Hp}{M:B'},Inv (zAm X (ls++N) scope cl G2.objs.size a H2 fp) ([]++zB9 fp s5.heap) σ6 H7 M->Inv (zAm X (ls++N) scope cl G2.objs.size a H2 fp) [] (List.replicate ls.length none++zC0 O fr) H7 M/\tn (i+1) M.heap/\∀b∈fp,H7 b=none:=λ{H7 M} I7=>by
    refine⟨I7.unpinned.forget ?_ λj v e=>?_,T.keep _ _ _ F λb hb o e=>(I7.pin (b,o)<|xBt _<|xBt _<|dQ hb e).1,λb hb=>?_⟩
    .rw[l6,xAb,xCu];unfold zC0;rw[xAa]
    .let⟨hm,e'⟩:=jJ e;rw[<- c6,List.getElem?_drop] at e';rw[show j=ls.length+(j-ls.length) by lia];exact e'
    .let⟨o,e,d⟩:=T.obj _ _ F b hb;exact(I7.pin (b,o)<|xBt _<|xBt _<|dQ hb e).2.1
   refine wpAny_mono (ht G2.objs.size a H2 fp _ s6 _ H6 _ I6 t6) (λok M P=>?_) (λ_ _ z=>z.elim);let⟨H7,I7,hD7,P⟩:=P;cases ok with
   |false=>
    rw[xCf xAy] at P⊢;let⟨k',hk,w8⟩:=hN _ _ P;let⟨b1,b2,b3⟩:=back I7;exact⟨k',hk,i+1,ys,H7,b1,b2,b3,w8⟩
   |true=>
    rw[xCg rfl] at P⊢;refine wpAny_mono (he G2.objs.size a H2 fp _ M _ H7 _ I7 P) (λxv' s8 h8=>?_) (λ_ _ z=>z.elim);let⟨v8,H8,I8,r8,hD8,n8⟩:=h8;refine wpAny_mono (ig (X:=zAm X (ls++N) scope cl G2.objs.size a H2 fp) _ s8 _ H8 (.ref a.heap.objs.size) [v8] (.ref a.heap.objs.size) [xv'] (λv' H9=>H9=upd H8 a.heap.objs.size (.lst<|ys++[v8])) I8 rfl (.cons r8 .nil) ⟨a.heap.objs.size,ys,v8,rfl,rfl,hD8,hz,rfl⟩) (λ_ s9 h9=>?_) (λ_ _ z=>z.elim);let⟨v9,H9,I9,_,rfl⟩:=h9;let⟨k',hk,w9⟩:=hN _ _ n8;let⟨b1,b2,b3⟩:=back I9;exact⟨k',hk,i+1,ys++[v8],_,b1,b2,b3,w9⟩
 exact codeAny_compStart_list (loop _ rfl)<|T.self _ 0 _ _ _ (T.keep _ _ _ G λb hb o e=>x b o e)<|loop _ rfl
def xc(t:X.calm=true)(x:zB4 X scope cl ls N fr)(hi:PI X tg iter wi)(q:∀C s H fp,PG (zAm X (ls++N) scope cl C s H fp) tg g)(l:∀C s H fp,PTs (zAm X (ls++N) scope cl C s H fp) ifs tc)(r:∀C s H fp,PE (zAm X (ls++N) scope cl C s H fp) elt te)(p:∀v,foldedSetIterable iter X.env v=pure v:=by intro _;rfl):PE X (.ListComp elt [⟨tg,iter,ifs,0⟩] scope pos)<|zG4 wi ls.length fr g tc te:=by
 intro Z s O H Q I h;rw[eval_ListComp];refine j9 (use:=none) (QQ:=EP X Z O Q) t x hi q l r p I h λB C H' d m I4 a k j=>⟨m,k,λy c=>?_⟩
 exact⟨.ref B,H',I4.turned (t':=d.toks) (λb o hb e=>c.extBut b o hb e) a.1 a.2.1 a.2.2.2.1 a.2.2.2.2.1 a.2.2.2.2.2,rfl,j⟩
def pW{y:Str}{j c:Pos}(P:X.N.Nodup)(p:X.N[i]?=some y)(r:X.env.scope.names.lookup y=some .local)(M:X.calm=true)(Q:zB4 X scope cl ls N fr)(hi:PI X tg iter wi)(K:∀C s H fp,PG (zAm X (ls++N) scope cl C s H fp) tg g)(G:∀C s H fp,PTs (zAm X (ls++N) scope cl C s H fp) ifs tc)(L:∀C s H fp,PE (zAm X (ls++N) scope cl C s H fp) elt te)(J:∀v,foldedSetIterable iter X.env v=pure v:=by intro _;rfl)(l:swapsWith (.ListComp elt [⟨tg,iter,ifs,0⟩] scope pos) (some<|.Name y j) c.line X.env=pure true:=by rfl) :
  PS X (.Assign [.Name y j] (.ListComp elt [⟨tg,iter,ifs,0⟩] scope pos) c) (zG7 (zG4 wi ls.length fr g tc te)<|zDf i):=by
 intro Z s O H D I h;rw[exec_Assign_Name_used _ _ _ _ l];refine xAd (wpAny_standAt<|xAd ?_);change wpAny _ X.A (do let _ <- comprehension (.ListComp elt [⟨tg,iter,ifs,0⟩] scope pos) scope X.env _ (newList []) false (eval iter X.env) (some<|assign (.Name y j) X.env)) _ _ s;refine xAd (wpAny_mono (j9 (use:=some<|assign (.Name y j) X.env) (QQ:=λ_ q=>SP X Z D .next q) M Q hi K G L J I h λB C H' R m I4 d F E=>?_) (λ_ q z=>xAe<|xAe z) λ_ _ z=>z);change wpAny _ X.A (assign (.Name y j) X.env<|.ref B) _ _ _;refine wpAny_assign_Name (ic I4 P p (.inl r) (v:=.ref B) rfl (λx I5 ⟨a,k,ha⟩=>?_)<|.inr r);have aC:C≠a:=by
  rcases ha with ha|ha
  .rw[ha];exact d.2.1
  .exact λz=>d.2.2.2.2.1 _ _ ha z.symm
 refine⟨m,F.sameBut k aC,λS t=>⟨_,H',?_,E⟩⟩;exact I5.turned (t':=x.toks) (λb o hb e=>t.extBut b o hb e) d.1 d.2.1 d.2.2.2.1 d.2.2.2.2.1 d.2.2.2.2.2
end
structure zCc(X:Cx)(scope:Scope)(cl:B7 (Str×C3))(y:Str)(k:Nat):Prop where
 ex:∃c,cl.lookup y=some c/\X.env.cells.lookup y=some c
 at':X.N[k]?=some y
 cell:X.env.scope.names.lookup y=some .cell
 free:scope.names.lookup y=some .free
theorem cU{J:Type}{y:Str}{c:J}:∀{l:B7<|Str×J},l.lookup y=some c->(y,c)∈l
 |[],h=>by simp at h
 |(z,d)::r,h=>by
  rw[List.lookup_cons] at h;by_cases e:y==z
  .rw[e] at h;cases xB3 h;rw[eq_of_beq e];exact xAr
  .rw[Bool.eq_false_iff.mpr e] at h;exact xAs _<|cU h
def zB4.mk'{b:B7<|Str×C3}{B N:C5}{d:C7}(r:closureFor scope X.env=pure b)(t:∀y∈scope.names,y.2≠.cell)(o:scope.kind=.function)(a:∀y∈scope.names,y.2=.local->scope.names.lookup y.1=some .local)(h:Paired (zCc X scope b) N d)(has:∀y∈scope.names,y.2=.free->y.1∈N)(D:b.map (·.1)=N):zB4 X scope b B N d:=by
 have get:∀{N:C5}{d:C7},Paired (zCc X scope b) N d->∀(j:Nat)(y:Str),N[j]?=some y->∃k,d[j]?=some k/\zCc X scope b y k:=by
  intro N d h;induction h with
  |nil=>intro j y e;simp at e
  |cons E F C=>
   intro j y e;cases j with
   |zero=>simp at e;subst e;exact⟨_,rfl,E⟩
   |succ j=>exact C j y (by simpa using e)
 have m:∀y∈N,∃k,zCc X scope b y k:=λy p=>by
  let⟨j,e⟩:=List.mem_iff_getElem?.mp p;let⟨k,_,c⟩:=get h j y e;exact⟨k,c⟩
 refine⟨r,t,o,a,λy c e=>?_,λy p e=>?_,λj y e=>?_,h.length⟩
 .have p:y∈N:=by
   rw[<- D];have:=cU e;exact xA2.mpr ⟨_,this,rfl⟩
  let⟨k,⟨A,l,v⟩,_⟩:=m y p;rw[e] at l;cases l;exact v
 .let⟨k,⟨A,l,v⟩,_⟩:=m _<|has y p e;exact⟨A,l⟩
 .let⟨k,l,⟨c,v,G⟩,g1,g2,g3⟩:=get h j y e;refine⟨k,c,l,g1,.inr<|.inl g2,λq=>?_,v,g3⟩;have x:X.env.scope.names.lookup y=some .local:=q;rw[g2] at x;cases x
section
variable{X:Cx}
def zEq(b:C4):R2:=λx y H Q=>∃p q c a n,x=.ref p/\y=.ref q/\H p=some (.lst c)/\H q=some (.lst a)/\c.length=a.length/\n<=90/\(∀(j:Nat)(x y:V),c[j]?=some x->a[j]?=some y->Al H n x y)/\Q (.bl b) H
def qC(S:X.A.units+100<cLine):OpR X (compareOp .NotEq)<|zEq false:=by
 intro Z s O H x y v u Q I t r h;let⟨a,b,o,l,n,rfl,rfl,K,J,G,T,N,q⟩:=h;cases (show v=Value.ref a from t);cases (show u=Value.ref b from r);let⟨_,its,R,k,t1⟩:=(show zAe X.prog X.w H s.heap a (.lst o) from I.hok a _ K)
 let⟨_,c,P,d,t2⟩:=(show zAe X.prog X.w H s.heap b (.lst l) from I.hok b _ J)
 have D:∀j (Y:j<its.toArray.size) (W:j<c.toArray.size),SeqAt.EqAt X.A.in1 s its.toArray[j] c.toArray[j]<|(λ_=>true) j:=λj C B=>by
  let⟨p,M,F⟩:=cO k C;let⟨m,L,E⟩:=cO d B;exact gu I.hok (N j p m M L) F E (by show X.A.units+1+n<cLine;lia)
 have es:its.toArray.size=c.toArray.size:=by rw[xAp,xAp,<- k.length,<- d.length,G]
 erw[(SeqAt.RcNeAt.lists (e:=λ_=>true) ⟨_,t1,rfl,_,rfl⟩ ⟨_,t2,rfl,_,rfl⟩ es () D) X.prog X.w X.xe _,bw I q];simp
def qF(S:X.A.units+100<cLine):OpR X (compareOp .Eq)<|zEq true:=by
 intro Z s O H x y v u Q I t r h;let⟨a,b,o,l,n,rfl,rfl,K,J,G,T,N,q⟩:=h;cases (show v=Value.ref a from t);cases (show u=Value.ref b from r);let⟨_,its,R,k,t1⟩:=(show zAe X.prog X.w H s.heap a (.lst o) from I.hok a _ K)
 let⟨_,c,P,d,t2⟩:=(show zAe X.prog X.w H s.heap b (.lst l) from I.hok b _ J)
 have D:∀j (Y:j<its.toArray.size) (W:j<c.toArray.size),SeqAt.EqAt X.A.in1 s its.toArray[j] c.toArray[j]<|(λ_=>true) j:=λj C B=>by
  let⟨p,M,F⟩:=cO k C;let⟨m,L,E⟩:=cO d B;exact gu I.hok (N j p m M L) F E (by show X.A.units+1+n<cLine;lia)
 have es:its.toArray.size=c.toArray.size:=by rw[xAp,xAp,<- k.length,<- d.length,G]
 erw[SeqAt.eq_listAt (e:=λ_=>true) ⟨_,t1,rfl,_,rfl⟩ ⟨_,t2,rfl,_,rfl⟩ es () D,bw I q];simp
end
def zI8(K:xFr):C9->Hp->VK->Prop:=λa H Q=>∃x n,a=[x]/\zJc K x H n/\Q (.int n) H
def zGf:C9->Hp->VK->Prop:=λc H Q=>∃a b,c=[V.ref a]/\H a=some (.dK b)/\Q (.int b.length) H
def zGe(K:xFr):C9->Hp->VK->Prop:=λb H Q=>∃p a,b=[.ref p]/\(SqL K H p a\/SqT K H p a)/\∀l,H l=none->Q (.ref l) (upd H l<|.lst a)
def zDy(K:xFr):C9->Hp->VK->Prop:=λb H Q=>∃p a,b=[.ref p]/\((SqL K H p a/\∀l,H l=none->Q (.ref l) (upd H l<|.tup a))\/(SqT K H p a/\Q (.ref p) H))
def zKi(K:xFr):C9->Hp->VK->Prop:=λa H Q=>∃x n t b,a=[x,V.ty n]/\zCb K H x t/\W.kitOne K t (.type n)=some b/\Q (.bl b) H
def zGg:C9->Hp->VK->Prop:=λa H Q=>(∃i,a=[.int i]/\Q (.int i) H)\/∃k,a=[.bl k]/\Q (.int<|if k then 1 else 0) H
section
variable{X:Cx}
def yL:zAl X (.builtin "len")<|zI8 X.K:=su
def vc:zAl X (.builtin "len") zGf:=oU
def u7:zAl X (.type "list")<|zGe X.K:=jk
def sd:zAl X (.type "tuple")<|zDy X.K:=hZ
def yM:zAl X (.builtin "isinstance")<|zKi X.K:=oV
def vd:zAl X (.type "int") zGg:=oW
end
def zJ4:R2:=λx y H Q=>y=.non/\Q (.bl<|decide<|x=.non) H
def xq:OpR X (compareOp .Is) zJ4:=xz
section
variable{m0J:It}{P:Hp->Prop}{n:Nat}{Y:Nat->Hp->V->Hp->Prop}{g:TG}{tb:TS}{Dn:zDs}{O:St}{H:Hp}
variable{K:xFr}{tl:TE}{tas:TA}{R:It->Hp->Prop}{a:C3}{xs:C9}
def zFs(K:xFr)(x:V)(H:Hp)(R:It->Hp->Prop):Prop:=∃a,x=.ref a/\(∃xs,SqL K H a xs)/\R (Itl K a) H
def zFr(K:xFr)(x:V)(H:Hp)(R:It->Hp->Prop):Prop:=∃a,x=.ref a/\(∃xs,SqT K H a xs)/\R (Itt K a) H
end
section
variable{prog:Program}{w:World}{A:Around}{E:B9->B'->Prop}{s:B'}
theorem gU{b l:C3}{items:Array B9}(c:l≠b):∀(n i:Nat)(s:B')(Q:D0->B'->Prop),s.heap.IsListIter b l i->s.heap.IsList l items->i+n<=items.size ->
  (∀h',h'.IsListIter b l (i+n)->Heap.SameBut b s.heap h'->Q ((items.toList.drop i).take n) {s with heap:=h'})->wpAny (model prog w) A (draw (.ref b) n) Q E s
 |0,i,s,Q,a,_,_,k=>by
  change wpAny _ _ (pure []) Q E s;exact xAe (by simpa using k s.heap a (Heap.SameBut.refl ..))
 |n+1,i,s,Q,a,m,p,k=>by
  have lt:i<items.size:=()
  change wpAny _ _ (pyNext (.ref b)>>=_) Q E s;erw[<-xAd (wpAny_pyNext_list_item a m (x:=items[i]) (by simp[lt]) λt j sb1=>?_),<-xAd (xDc<|gU c n (i+1) _ _ j (m.at λo e=>(sb1.2 l c).trans e) () λr h d=>xAe ?_)];have q:items.toList.drop i=items[i]::items.toList.drop (i+1):=by simp[List.drop_eq_getElem_cons,lt]
  have:=k r (by rw[show i+(n+1)=i+1+n by lia];exact h)<|sb1.trans d;rw[q,List.take_succ_cons] at this;exact this
def iC{l:C3}{items:Array B9}{targets:B7<|C4×(B9->Sem Unit)}{Q:Unit->B'->Prop}(q:A.handled=none)(c:s.heap.IsList l items)(p:targets.length=items.size)(a:targets.findIdx? (·.1)=none)(h:∀h',Heap.ExtBut s.heap.objs.size s.heap h'->wpAny (model prog w) A (assignInOrder (targets.map (·.2)) items.toList) Q E {s with heap:=h'}) :
  wpAny (model prog w) A (unpack (.ref l) targets) Q E s:=by
 unfold unpack;rw[p,a];refine xAd<|xDc ?_;have lt:l≠s.heap.objs.size:=by let⟨o,m,_⟩:=c;exact xA0<|xA1 m
 unfold unpackItems;erw[xAd];unfold notIterableAtAll;erw[<-xAd<|wpAny_specialOf c.typeIs PySem.F.slot_list_iter.lookup ?_,xAe];simp only[xAz,if_false];erw[<-xAd<|xDc<|wpAny_pyIter_list c ?_,<-xAd (xDc<|gU lt items.size 0 _ _ ⟨_,xAl _ rfl,rfl,rfl⟩ (c.push _) () λt j sb1=>?_)];have d:List.take items.size (List.drop 0 items.toList)=items.toList:=by
  rw[List.drop_zero];exact List.take_of_length_le ⋯
 rw[d,xCf ⋯];have k:t.IsList l items:=(c.push _).at λo e=>(sb1.2 l lt).trans e;refine xAd (xDc<|wpAny_pyNext_list_end q j k ⋯ λr v=>?_);simp only[Option.isSome_none,xAz,if_false];exact xAe<|h r λb o hb e=>v b o hb<|sb1.extBut b o hb<|xAf _ e
end
section
variable{X:Cx}{pos:Pos}
def zKe(K:xFr)(n:Nat)(t:TGs):TG:=λv O H Q=>∃a b,v=.ref a/\SqL K H a b/\b.length=n/\t b O H Q
def wY{k:Nat}{t:TGs}(A:X.calm=true)(h:PGs X es t)(x:(assignEach es X.env).length=n:=by rfl)(d:(assignEach es X.env).findIdx? (·.1)=none:=by rfl):PG X (.Tuple es k pos)<|zKe X.K n t:=by
 intro Z s O H v u Q I r c;let⟨a,l,C,q,y,c⟩:=c;subst C;cases r;let⟨its,j,p,D⟩:=I.list q;rw[assign_Tuple];refine xAd (wpAny_standAt<|iC (I.ok.hd A) p.isList (by simp[x,<- y,j.length]) d λB m=>?_);have I1:Inv X Z O H {s with heap:=B}:=I.kept (t':=s.toks) λb o e=>m b o (xA0<|xA1 e) e;exact h Z _ O H l _ Q I1 (by simpa using j) c
end
section
variable{X:Cx}
def zFn(K:xFr):R2:=λx y H Q=>∃a b xs c,x=.ref a/\y=.ref b/\H a=some (.tup xs)/\H b=some (.tup c)/\xs.length+c.length<=sizeLine/\∀p H2,zGi H H2->H2 p=some (.tup<|xs++c)->Q (.ref p) H2
def um:OpR X (binaryOp .Add)<|zFn X.K:=by
 intro Z s O H x y v u Q I r o h;let⟨a,b,m,B,rfl,rfl,j,hb,D,q⟩:=h;by_cases hx:m=[]
 .cases (show v=Value.ref a from r);cases (show u=Value.ref b from o);subst hx;let⟨its,r1,p1,_⟩:=I.tuple<|SqT.of j;let⟨c,r2,p2,_⟩:=I.tuple<|SqT.of hb;have G:its=[]:=r1.nil_iff.mpr rfl;subst G;let⟨⟨L,J,t,C⟩,ho,hc,n,hd⟩:=id p1;let⟨⟨A,k,l,d⟩,ho2,hc2,n2,hd2⟩:=id p2;simp only at hc hd hc2 hd2;subst hc hd hc2 hd2;refine concat_meets ⟨_,ho,rfl⟩ ⟨_,ho2,rfl⟩ noFill_tuple_add seq_tuple_add PySem.F.slot_tuple_add PySem.F.entry_tuple_add (PySem.F.args_tuple_add_2 _ _)
   (tuple_addW0 a b ([]:D0).toArray c.toArray n n2 J k C d ⋯) ⟨ho,ho2,?_⟩
  exact⟨.ref b,H,I,rfl,q b H (.refl _) hb⟩
 .refine uw Z s O H _ _ v u Q I r o ⟨a,b,m,B,rfl,rfl,.of j,.of hb,hx,D,λe=>?_,λ_ p E=>q p _ (cZ E _) bv⟩;subst e;exact q a H (.refl _) (by rw[xB0];exact j)
end
noncomputable def zAa:C0->C4
 |.Starred _ _=>false
 |_=>true
def bx(h:zAa e=true):starEach (e::es) env=(false,eval e env)::starEach es env:=by
 cases e <;> first|rfl|cases h
theorem dF{pos:Pos}{env:Env}:∀{es:B7 C0},es.all zAa=true->(backTo pos<|starEach es env).any (·.1)=false
 |[],_=>rfl
 |e::es,h=>by
  rw[xCj,xCh] at h;rw[bx h.1];change(false||(backTo pos<|starEach es env).any (·.1))=false;rw[dF h.2];rfl
theorem jz{pos:Pos}{env:Env}:∀{es:B7 C0},es.all zAa=true->(backTo pos<|starEach es env).all (λx=>!x.1)=true
 |[],_=>rfl
 |e::es,h=>by
  rw[xCj,xCh] at h;rw[bx h.1];change(true&&(backTo pos<|starEach es env).all (λx=>!x.1))=true;rw[jz h.2];rfl
noncomputable def zA3:C0->C4
 |.ListComp ..=>false
 |.SetComp ..=>false
 |.DictComp ..=>false
 |_=>true
def eJ{t:B8 C0}{l:Nat}(h:zA3 e=true):swapsWith e t l env=pure false:=by
 cases e <;> first|rfl|cases h
noncomputable def zBy:C0->C4
 |.Call ..=>false
 |_=>true
def gf{o:C0}{f:Str}{x:Sem B9}(h:zBy o=true):attributeBase o f env x=x:=by
 cases o <;> first|rfl|cases h
section
variable{X:Cx}{e o:C0}{es:B7 C0}{te to:TE}{t:TA}{pos p apos cpos:Pos}{x name:Str}{id T:String}{i:Nat}{r:C9->Hp->VK->Prop}
def jH(b:PE X e te)(a:PA X es t)(h:zAa e=true:=by rfl):PA X (e::es)<|zFa te t:=uh b a<|bx h
def mn(k:zAl X (.builtin id) r)(j:Gl X x)(d:X.mg x=none)(b:bootBuiltins x=some (.builtin id))(l:PA X (e::es) t)(h:(e::es).all zAa=true:=by rfl)(c:x≠"__name__":=by decide)(a:(x==("__debug__":Str))=false:=by decide):PE X (.Call (.Name x p) (e::es) [] pos)<|tCB r t:=by
 rw[xCj,xCh] at h;exact qv k j d b l c a (bx h.1)<|dF h.2
def jG(k:zAl X (.type T) r)(j:Gl X x)(d:X.mg x=none)(b:bootBuiltins x=some (.type T))(l:PA X (e::es) t)(h:(e::es).all zAa=true:=by rfl)(c:x≠"__name__":=by decide)(a:(x==("__debug__":Str))=false:=by decide):PE X (.Call (.Name x p) (e::es) [] pos)<|tCB r t:=by
 rw[xCj,xCh] at h;exact oh k j d b l c a (bx h.1)<|dF h.2
variable{k k':Nat}{ps:C5}{sp:Sp}
def zw(a:PE X e te)(h:zA3 e=true:=by rfl):PS X (.Expr e pos)<|zE7 te:=tK a<|eJ h
variable{rm:V->C9->Hp->VK->Prop}
def Bq(j:PlainAttrs T)(b:Slot T name id)(c:typeOf (.builtin id)=pure (.type "method_descriptor"))(m:MtR X id rm)(l:PE X o to)(q:PA X [e] t)(h:zBy o=true:=by rfl)(d:zAa e=true:=by rfl)(a:(apos.endLine==cpos.line)=true:=by rfl) :
  PE X (.Call (.Attribute o name apos) [e] [] cpos) (tBM X.K T rm to t):=
 zG j b c m l q (gf h) (by rw[bx d];rfl) a (bx d) rfl
def zy{b:C0}{a:TA}(d:Gl X "range")(c:X.mg "range"=none)(j:PA X [e] a)(h:zAa e=true:=by rfl):PI X b (.Call (.Name "range" p) [e] [] pos)<|zF3 a:=oa d c j<|bx h
end
section
variable{X:Cx}{e a b c o:C0}{es:B7 C0}{te ta tb tc to:TE}{t u:TA}{pos p p2 apos cpos px:Pos}{x y name:Str}{id T:String}{i j k:Nat}{st:Stmt}{sts:B7 Stmt}{ts us:TS}{tt tt':TT}
noncomputable def zB1:C0->C4
 |.Slice ..=>false
 |_=>true
def p8(h:zB1 b=true):zCk b:=λo i=>by cases b <;> first|rfl|cases h
variable{r:C9->Hp->VK->Prop}{rm:V->C9->Hp->VK->Prop}{ps:C5}{sp:Sp}{k':Nat}
variable{tg iter elt:C0}{g:TG}{gs:TGs}{wi:TI}{tas:TA}
def kj(h:zAa e=true):(assignEach (e::es) env).map (·.2)=assign e env::(assignEach es env).map (·.2):=by
 cases e <;> first|rfl|cases h
def vz(h:zAa e=true):assignEach (e::es) env=(false,assign e env)::assignEach es env:=by
 cases e <;> first|rfl|cases h
theorem dj{env:Env}:∀{es:B7 C0},es.all zAa=true->(assignEach es env).length=es.length/\(assignEach es env).findIdx? (·.1)=none
 |[],_=>⟨rfl,rfl⟩
 |e::es,h=>by
  rw[xCj,xCh] at h;let⟨l,d⟩:=dj (env:=env) h.2;rw[vz h.1];refine⟨by rw[xAo,l,xAo],?_⟩;rw[List.findIdx?_cons,d];rfl
variable{scope:Scope}{cl:B7<|Str×C3}{ls N:C5}{fr:C7}{ifs:B7 C0}
variable{body orelse:B7 Stmt}
end
def zHm(h:n<=16000000):n<sizeLine:=by rw[sizeLine_eq];lia
def zFy(h:n<=16000000):n<=sizeLine:=Nat.le_of_lt<|zHm h
def zGl(i j:Int):Prop:=0<j/\j<=10^18
def qD:OpR X (binaryOp .FloorDiv)<|rI zGl λi j=>.int<|i / j:=by
 intro Z s O H x y v u Q I b a h;let⟨i,j,rfl,rfl,⟨l,d⟩,q⟩:=h;have c:j.natAbs.log2<9000:=by
  have k:j.natAbs<2^60:=by
   have:(2:Int)^60=1152921504606846976:=∅
   have:(10:Int)^18=1000000000000000000:=∅
   have:(2:Nat)^60=1152921504606846976:=∅
   lia
  have:=(Nat.log2_lt (n:=j.natAbs) ()).mpr k;lia
 refine qE Z s O H _ _ v u Q I b a ⟨i,j,rfl,rfl,⟨(),PyProof.noPylong_of_log2 c⟩,?_⟩;have e:i.fdiv j=i / j:=Int.fdiv_eq_ediv_of_nonneg _ ();change Q (.int<|i.fdiv j) H;rw[e];exact q
section
variable{X:Cx}{Z:B7<|C3×Obj}{O:St}{H:Hp}{s:B'}{h':Heap}
def Inv.turnedL{t':Nat}(I:Inv X Z O H s)(k:∀b o,b∉fp->s.heap.get? b=some o->h'.get? b=some o)(h:∀b∈fp,zC1 X Z H b):Inv X Z O H {s with heap:=h',toks:=t'}:=by
 have d:∀b u,H b=some u->b∉fp:=λb u e z=>by rw[(h b z).1] at e;cases e
 refine I.step (g':=s.gens) (d':=s.drawn) (ch:=fp) (λb hb=>?_) (λb o _ _ a e _=>k b o a e) (λb o _ _ a e _=>⟨o.slots,k b o a e⟩) (λ_ _ _ _ n=>n)
  (λb o a e=>⟨o,k b o a e⟩) (λ_ _ e=>e) (λ_ _ _ e=>e) (λb B e=>⟨#[],by rw[e];simp⟩) (λm l=>?_) (λb u e=>?_) I.bare
 .let⟨D,y,C,x,t,p⟩:=h b hb;exact⟨x,y,t,p⟩
 .let⟨o,es,A,j,r⟩:=l;exact⟨o,es,A,k _ o (λz=>(h _ z).2.1 rfl) j,r⟩
 .refine(I.hok b u e).stay (λc v a q=>k c v ?_ q) (λ_ q=>q) λ_ _ q=>q;rcases a with z|z
  .rw[z];exact d b u e
  .exact d c _ z
end
def oX:bootBuiltins "enumerate"=some (.type "enumerate"):=by decide +kernel
end L2
namespace L2
open PySem PySem.Spec PyProof.Rows SetA
def zH0(w:World)(K:xFr):C9->Hp->VK->Prop:=λc H Q=>∃(p:C3) (a:C8),c=[.ref p]/\SqL K H p (a.map V.int)/\Bnd a /\
  ∀(l:C3)(b:C8),H l=none->b.Nodup->(∀z,z∈b↔z∈a)->Q (.ref l) (upd H l<|zEu w l b)
section
variable{X:Cx}
def u6(a:X.calm=true):zAl X (.type "set")<|zH0 X.w X.K:=oQ a
end
end L2
namespace RevA
open PySem PySem.Spec PyProof.Rows
open AutoSeq1 (wpAny_loadPart')
variable{it t:C3}{i:Nat}{xs:Array B9}{Q:B9->B'->Prop}
noncomputable def zBw(t:C3):Obj:={cls:=.type "tuple_iterator",data:=.fields #[.ref t,.int 0 0]}
section
variable{prog:Program}{w:World}{A:Around}{E:B9->B'->Prop}{s:B'}
def kT{x:B9}(a:s.heap.IsTupleIter it t i)(j:s.heap.IsTuple t xs)(h:xs[i]?=some x)(q:∀h',h'.IsTupleIter it t (i+1)->Heap.SameBut it s.heap h'->Q x {s with heap:=h'}):wpAny (model prog w) A (Builtin.SmallTypes.nextOf<|.ref it) Q E s:=by
 let⟨o,c,k,b⟩:=id a;let⟨l,d,_,m,e⟩:=j;unfold Builtin.SmallTypes.nextOf;refine xAd<|wpAny_callSpecial?_slot (name:=Str.ofString "__next__") a.typeIs PySem.F.slot_tuple_iterator_next<|wpAny_call_entry PySem.F.slot_tuple_iterator_next a.typeIs PySem.F.entry_tuple_iterator_next ?_<|PySem.F.args_tuple_iterator_next_1 _;change wpAny _ _ (field (.ref it) 0>>=_) _ _ s;refine xAd<|xDa c b (x:=.ref t) rfl ?_;change wpAny _ _ (if(Value.ref t==Value.none)=true then _ else _) _ _ s;rw[xCf<|show ¬ ((Value.ref t==Value.none)=true) from xAy];change wpAny _ _ (field (.ref it) 1>>=_) _ _ s;refine xAd<|xDa c b (x:=.int i 0) rfl ?_;change wpAny _ _ (seqItems? (.ref t)>>=_) _ _ s;refine xAd<|wpAny_seqItems d e ?_;simp only[xC3,h];refine xAd<|wpAny_setField c b ⋯<|xAe ⟨x,rfl,xAe<|q _ ?_<|xB5 ..⟩;exact⟨_,xA7 _ c<|Obj.isFreed_of_fields<|Obj.data_mapFields b _,(Obj.cls_mapFields ..).trans k,by rw[Obj.data_mapFields b];simp[rawInt]⟩
def ow(k:A.handled=none)(b:s.heap.IsTupleIter it t i)(n:s.heap.IsTuple t xs)(l:xs[i]?=none)(q:∀h' e,Heap.ExtBut it s.heap h'->(∃o,h'.get? e=some o/\o.cls=.type "StopIteration")->E (.ref e) {s with heap:=h'}):wpAny (model prog w) A (Builtin.SmallTypes.nextOf<|.ref it) Q E s:=by
 let⟨o,d,v,j⟩:=id b;let⟨p,c,_,r,h⟩:=n;unfold Builtin.SmallTypes.nextOf;refine xAd<|wpAny_callSpecial?_slot (name:=Str.ofString "__next__") b.typeIs PySem.F.slot_tuple_iterator_next<|wpAny_call_entry PySem.F.slot_tuple_iterator_next b.typeIs PySem.F.entry_tuple_iterator_next ?_<|PySem.F.args_tuple_iterator_next_1 _;change wpAny _ _ (field (.ref it) 0>>=_) _ _ s;refine xAd<|xDa d j (x:=.ref t) rfl ?_;change wpAny _ _ (if(Value.ref t==Value.none)=true then _ else _) _ _ s;rw[xCf<|show ¬ ((Value.ref t==Value.none)=true) from xAy];change wpAny _ _ (field (.ref it) 1>>=_) _ _ s;refine xAd<|xDa d j (x:=.int i 0) rfl ?_;change wpAny _ _ (seqItems? (.ref t)>>=_) _ _ s;refine xAd<|wpAny_seqItems c h ?_;simp only[xC3,l];refine xAd<|wpAny_rule<|xAd<|wpAny_setField d j ⋯ ?_;change wpAny _ _ (newExc (.type "StopIteration") []>>=_) _ _ _;erw[xAd];simp only[newExc,newTuple];erw[<-xAd (xBl ?_<|by size_fits),<-xAd (m:=firstArgMember _ _)<|wpAny_of_eq (a:=Value.none) (by first|rfl|(simp only[firstArgMember];rfl)) ?_,<-xBl ?_ (by size_fits)];simp only[raiseNew];refine xAd<|wpAny_handled ?_;first|rw[show A.in1.handled=none from k]|rw[k]
 refine xAd<|xAe<|wpAny_throw ?_;exact q _ _ (((xB5 ..).extBut.push _).push _) ⟨_,xAl _ rfl,rfl⟩
end
def zDg{prog:Program}{w:World}{A:Around}(n:A.handled=none)(it l:C3)(d:l≠it)(xs:Array B9) :
  Draws prog w A it [it,l] xs.size (λi v=>xs[i]?=some v) (λi h=>h.IsTupleIter it l i/\h.IsTuple l xs) where
 live:=λ_ _ a=>let ⟨o,m,_⟩:=a.1;⟨o,m⟩
 frame:=λ_ _ _ a j=>⟨a.1.at λo e=>j it ⋯ o e,a.2.at λo e=>j l ⋯ o e⟩
 item:=λi s Q E k a p=>by
  refine kT a.1 a.2 (x:=xs[i]) (by simp[k]) λr c b=>?_;exact p _ r s.toks (by simp[k]) ⟨c,a.2.extBut b.extBut d⟩ b
 done:=λs Q E a q=>ow n a.1 a.2 ⋯ q
end RevA
namespace L2
open PySem PySem.Spec PyProof.Rows
variable{J:Type}
theorem zI1{us:B7 J}(h:us.length=1):∃c,us=[c]:=by
 cases us with
 |nil=>cases h
 |cons a r=>
  cases r with
  |nil=>exact⟨a,rfl⟩
  |cons b r=>cases h
theorem zI0{us:B7 J}(h:us.length=2):∃c b,us=[c,b]:=by
 cases us with
 |nil=>cases h
 |cons a r=>
  let⟨b,rfl⟩:=zI1<|Nat.succ.inj h;exact⟨a,b,rfl⟩
theorem zIz{us:B7 J}(h:us.length=3):∃d c b,us=[d,c,b]:=by
 cases us with
 |nil=>cases h
 |cons a r=>
  let⟨c,b,rfl⟩:=zI0<|Nat.succ.inj h;exact⟨a,c,b,rfl⟩
theorem zIy{us:B7 J}(h:us.length=4):∃e d c b,us=[e,d,c,b]:=by
 cases us with
 |nil=>cases h
 |cons a r=>
  let⟨d,c,b,rfl⟩:=zIz<|Nat.succ.inj h;exact⟨a,d,c,b,rfl⟩
theorem zIx{us:B7 J}(h:us.length=5):∃i e d c b,us=[i,e,d,c,b]:=by
 cases us with
 |nil=>cases h
 |cons a r=>
  let⟨e,d,c,b,rfl⟩:=zIy<|Nat.succ.inj h;exact⟨a,e,d,c,b,rfl⟩
theorem zJ6{us:B7 J}(h:us.length=6):∃j i e d c b,us=[j,i,e,d,c,b]:=by
 cases us with
 |nil=>cases h
 |cons a r=>
  let⟨i,e,d,c,b,rfl⟩:=zIx<|Nat.succ.inj h;exact⟨a,i,e,d,c,b,rfl⟩
end L2
namespace L2
open PySem PySem.Spec PyProof.Rows SetA
def zDz:C9->Hp->VK->Prop:=λb H Q=>∃d a,b=[.ref d]/\Rd H d (.dK a)/\∀p,H p=none->Q (.ref p) (upd H p<|.dK a)
section
variable{X:Cx}{e tg o:C0}{te td:TE}{apos cpos:Pos}
def sg:zAl X (.type "dict") zDz:=by
 intro Z s O H j us Q I r h;let⟨d,b,rfl,i,q⟩:=h;let⟨u,rfl,a⟩:=zBa r;obtain rfl:u=Value.ref d:=a;exact rY I i λp k c I'=>⟨.ref p,_,I',rfl,q p c⟩
end
end L2
namespace Fx
open PySem L2
set_option genInjectivity true in
inductive U where
 |non|bl (b:Bool)|int (i:Int)|str (x:Str)|tup (xs:List U)|lst (xs:List U)|kt (xs:List U)|kl (xs:List U)|kd (kvs:List (Str×U)) (no:List Str)|ref (a:Nat)|ty (n:String)|gl (x:Str)
instance:Inhabited U:=⟨.non⟩
abbrev C6:=B7 U
inductive Ob where
 |lst (xs:List U)|dct (kvs:List (Key×U))|dtt (kvs:List (List Key×U))|ins (C:Str) (fs:List (Str×U))|dead
instance:Inhabited Ob:=⟨.dead⟩
noncomputable abbrev So:=B7 Ob
structure Xc where
 cls:Str
 fs:B7 (Str×U)
set_option genInjectivity true in
inductive Res where
 |ok (v:U) (S:So)|stuck
inductive Pm where
 |add (m:Bool)|sub|mul|fdiv|mod|pow|neg
 |eq|ne|lt|le|gt|ge|isN|notN|inn|nin
 |ix|sl (m a b:Bool)|tru|len|isT (n:String)|isC (C:Str)|abs|max|min|int1|str1
 |lst (m:Bool)|dct (ks:List Str)|tupOf|lstOf (m:Bool)|dctOf|lenset|all|any
 |app|pop|ext|get1|get2|join
 |typ (T:String)|fld (f:Str)|setf (f:Str)|seti|cls (C m:Str)|unp (n:Nat)|new (C:Str)
 |rng1|rng2|rng3|zip|enm|rev|seq|fnOf|frz|sortS|dctT|srt (m:Bool)|srs|lrng|enm2|thw|upd
noncomputable def nth:B7 (B8 U)->Nat->B8 U
 |[],_=>none
 |v::_,0=>v
 |_::r,i+1=>nth r i
noncomputable def put:B7 (B8 U)->Nat->U->B7 (B8 U)
 |[],_,_=>[]
 |_::r,0,v=>some v::r
 |o::r,i+1,v=>o::put r i v
def puts:B7 (B8 U)->C7->C6->B7 (B8 U)
 |O,i::b,v::a=>puts (put O i v) b a
 |O,_,_=>O
noncomputable def at?{J:Type}:B7 J->Nat->B8 J
 |[],_=>none
 |v::_,0=>some v
 |_::r,i+1=>at? r i
noncomputable def set{J:Type}:B7 J->Nat->J->B7 J
 |[],_,_=>[]
 |_::r,0,v=>v::r
 |o::r,i+1,v=>o::set r i v
def lsU(S:So):U->B8 (C6)
 |.lst b=>some b
 |.kl b=>some b
 |.ref a=>match at? S a with
  |some (.lst b)=>some b
  |_=>none
 |_=>none
def lsT(S:So):U->B8 (C6)
 |.lst b=>some b
 |.ref a=>match at? S a with
  |some (.lst b)=>some b
  |_=>none
 |_=>none
def sqU(S:So):U->B8 (C6)
 |.tup a=>some a
 |.kt a=>some a
 |u=>lsU S u
noncomputable def sqF:U->B8 (C6)
 |.tup a=>some a
 |.kt a=>some a
 |.lst a=>some a
 |.kl a=>some a
 |_=>none
noncomputable def mkL(m:C4)(xs:C6)(S:So):Res:=match m with
 |true=>.ok (.ref S.length)<|S++[.lst xs]
 |false=>.ok (.lst xs) S
noncomputable def fits(n:Nat)(r:Res):Res:=match Nat.ble n sizeLine with
 |true=>r
 |false=>.stuck
noncomputable def zAv{J:Type}(f:Str):B7 (Str×J)->B8 J
 |[]=>none
 |(g,v)::r=>if f=g then some v else zAv f r
noncomputable def putF(f:Str)(v:U):B7 (Str×U)->B7 (Str×U)
 |[]=>[(f,v)]
 |(g,u)::r=>if g=f then(g,v)::r else(g,u)::putF f v r
noncomputable def zAu{κ:Type} [DecidableEq κ] (k:κ):B7 (κ×U)->B8 U
 |[]=>none
 |(g,v)::r=>if g=k then some v else zAu k r
noncomputable def putK{κ:Type} [DecidableEq κ] (k:κ) (v:U) (kvs:B7<|κ×U):B7<|κ×U:=if(kvs.any λkv=>decide<|kv.1=k)=true then kvs.map (λkv=>if kv.1=k then(kv.1,v) else kv) else kvs++[(k,v)]
noncomputable def zEs:U->B8 Key
 |.int i=>some<|.inl i
 |.str x=>some<|.inr x
 |_=>none
def zEd:C6->B8 (B7 Key)
 |[]=>some []
 |u::r=>(zEs u).bind λk=>(zEd r).map (k::·)
def zGq:U->B8 (B7 Key)
 |.tup a=>zEd a
 |_=>none
inductive Sc where
 |non|int (i:Int)|bl (b:Bool)|str (x:Str)
noncomputable def Sc.u:Sc->U
 |.non=>.non
 |.int i=>.int i
 |.bl b=>.bl b
 |.str x=>.str x
noncomputable def sc:U->B8 Sc
 |.non=>some .non
 |.int i=>some<|.int i
 |.bl b=>some<|.bl b
 |.str x=>some<|.str x
 |_=>none
def zm{u:U}{a:Sc}(h:sc u=some a):u=a.u:=by unfold sc at h;split at h <;> cases h <;> rfl
noncomputable def Sc.eq:Sc->Sc->B8 C4
 |.non,b=>match b with
  |.non=>some true
  |_=>some false
 |.int i,b=>match b with
  |.int j=>some<|decide<|i=j
  |.bl _=>none
  |_=>some false
 |.bl i,b=>match b with
  |.bl j=>some<|decide<|i=j
  |.int _=>none
  |_=>some false
 |.str i,b=>match b with
  |.str j=>some<|decide<|i=j
  |_=>some false
def eqS(x y:U):B8 C4:=(sc x).bind λa=>(sc y).bind λb=>a.eq b
noncomputable def zAs:U->C4
 |.non=>true
 |.bl _=>true
 |.int _=>true
 |.str _=>true
 |_=>false
noncomputable def eqF:U->U->C4
 |.non,.non=>true
 |.bl a,.bl b=>a==b
 |.bl a,.int b=>(if a then 1 else 0)==b
 |.int a,.bl b=>a==(if b then 1 else 0)
 |.int a,.int b=>a==b
 |.str a,.str b=>a==b
 |_,_=>false
noncomputable def zA7{J:Type}(f:J->J->C4):B7 J->B7 J->C4
 |[],[]=>true
 |x::b,y::a=>f x y&&zA7 f b a
 |_,_=>false
def same(S:So):Nat->U->U->C4
 |0,x,y=>zAs x&&zAs y&&eqS x y==some true
 |n+1,x,y=>match x,y with
  |.tup b,.tup a=>zA7 (same S n) b a
  |x,y=>match lsT S x,lsT S y with
   |some b,some a=>zA7 (same S n) b a
   |_,_=>zAs x&&zAs y&&eqS x y==some true
def zBc(x:U):C6->C4
 |[]=>false
 |y::a=>eqF y x||zBc x a
def inU(S:So)(x y:U):B8 C4:=match y with
 |.str j=>match x with
  |.str i=>some (!(Builtin.Str.occurrences j i 0 j.length 1).isEmpty)
  |_=>none
 |.ref a=>match at? S a with
  |some (.dct b)=>(zEs x).map λk=>(zAu k b).isSome
  |some (.dtt b)=>(zGq x).map λk=>(zAu k b).isSome
  |some (.lst c)=>if zAs x&&c.all zAs then some (zBc x c) else none
  |_=>none
 |y=>match sqU S y with
  |some c=>if zAs x&&c.all zAs then some (zBc x c) else none
  |none=>none
noncomputable def obB(o:B8 C4)(f:C4->C4)(S:So):Res:=match o with
 |some b=>.ok (.bl<|f b) S
 |none=>.stuck
noncomputable def i2(f:Int->Int->U)(S:So):C6->Res
 |[.int i,.int j]=>.ok (f i j) S
 |_=>.stuck
def zEf(xs:C6)(lo hi:B8 Int):C6:=(xs.drop<|HT.sIx xs.length 0 lo).take<|HT.sIx xs.length xs.length hi-HT.sIx xs.length 0 lo
def slice(m:C4)(x:U)(lo hi:B8 Int)(S:So):Res:=match x with
 |.tup a=>match decide (HT.sIx a.length 0 lo=0/\HT.sIx a.length a.length hi=a.length) with
  |true=>.ok (.tup a) S
  |false=>.ok (.tup<|zEf a lo hi) S
 |x=>match lsU S x with
  |some a=>mkL m (zEf a lo hi) S
  |none=>.stuck
def zG1(S:So):U->B8 C4
 |.bl b=>some b
 |.ref a=>match at? S a with
  |some (.lst c)=>some (!c.isEmpty)
  |_=>none
 |_=>none
noncomputable def isC(up:B7<|Str×Str)(C D:Str):C4:=decide (C=D)||up.any λp=>decide (p.1=C)&&decide (p.2=D)
def tyU(S:So):U->B8 String
 |.non=>some "NoneType"
 |.bl _=>some "bool"
 |.int _=>some "int"
 |.str _=>some "str"
 |.tup _=>some "tuple"
 |.lst _=>some "list"
 |.ref a=>match at? S a with
  |some (.lst _)=>some "list"
  |some (.dct _)=>some "dict"
  |some (.ins _ _)=>some "object"
  |_=>none
 |_=>none
noncomputable def zF1(t n:String):C4:=(t==n)||(t == "bool" && n == "int")
noncomputable def zCx:C6->B8 (C5)
 |[]=>some []
 |.str x::r=>(zCx r).map (x::·)
 |_=>none
noncomputable def blL:C6->B8 (B7 C4)
 |[]=>some []
 |.bl x::r=>(blL r).map (x::·)
 |_=>none
noncomputable def zBx(lo:Int):Nat->C6
 |0=>[]
 |n+1=>.int lo::zBx (lo+1) n
noncomputable def zCt:C6->C6->C6
 |x::b,y::a=>.tup [x,y]::zCt b a
 |_,_=>[]
noncomputable def zGu:C5->C6->B7 (Key×U)
 |k::b,v::a=>(.inr k,v)::zGu b a
 |_,_=>[]
def zH5(m:C4)(a b:U)(S:So):Res:=match a,b with
 |.int i,.int j=>.ok (.int<|i+j) S
 |.tup xs,.tup c=>fits (xs.length+c.length)<|.ok (.tup<|xs++c) S
 |a,b=>match lsT S a,lsT S b with
  |some xs,some c=>fits (xs.length+c.length)<|mkL m (xs++c) S
  |_,_=>.stuck
noncomputable def zE0:B8 (C6)->B8 (C6)->C4
 |some b,some a=>!Nat.beq b.length a.length
 |_,_=>false
def neU(a b:U)(S:So):Res:=match eqS a b with
 |some c=>.ok (.bl<|not c) S
 |none=>match zE0 (lsT S a) (lsT S b) with
  |true=>.ok (.bl true) S
  |false=>match same S 80 a b with
   |true=>.ok (.bl false) S
   |false=>.stuck
def eqU(f:C4->C4)(a b:U)(S:So):Res:=match eqS a b with
 |some c=>.ok (.bl<|f c) S
 |none=>match zE0 (lsT S a) (lsT S b) with
  |true=>.ok (.bl<|f false) S
  |false=>match same S 80 a b with
   |true=>.ok (.bl<|f true) S
   |false=>.stuck
noncomputable def opt(o:B8 U)(S:So):Res:=match o with
 |some v=>.ok v S
 |none=>.stuck
def ixU(a b:U)(S:So):Res:=match a with
 |.kd d _=>match b with
  |.str x=>opt (zAv x d) S
  |_=>.stuck
 |.str z=>match b with
  |.int i=>match atI z.cps.toList i with
   |some c=>fits z.length<|.ok (.str ⟨#[c]⟩) S
   |none=>.stuck
  |_=>.stuck
 |.ref p=>match at? S p with
  |some (.dct d)=>match zEs b with
   |some k=>opt (zAu k d) S
   |none=>.stuck
  |some (.lst e)=>match b with
   |.int i=>opt (atI e i) S
   |_=>.stuck
  |_=>.stuck
 |a=>match sqU S a with
  |some e=>match b with
   |.int i=>opt (atI e i) S
   |_=>.stuck
  |none=>.stuck
def zEb(a:U)(S:So):Res:=match a with
 |.str x=>fits x.length<|.ok (.int x.length) S
 |.ref p=>match at? S p with
  |some (.lst b)=>.ok (.int b.length) S
  |some (.dct c)=>.ok (.int c.length) S
  |_=>.stuck
 |a=>match sqU S a with
  |some b=>.ok (.int b.length) S
  |none=>.stuck
def zKb(D:Str)(a:U)(S:So)(up:B7<|Str×Str):Res:=match a with
 |.ref p=>match at? S p with
  |some (.ins C _)=>.ok (.bl<|isC up C D) S
  |some (.lst _)=>.ok (.bl false) S
  |some (.dct _)=>.ok (.bl false) S
  |_=>.stuck
 |a=>match tyU S a with
  |some _=>.ok (.bl false) S
  |none=>.stuck
def zA1(a:U)(S:So):Res:=match a with
 |.tup b=>.ok (.tup b) S
 |a=>match lsU S a with
  |some b=>.ok (.tup b) S
  |none=>.stuck
def zBg(p:Nat)(k v:U)(S:So):Res:=match at? S p with
 |some (.dct a)=>match zEs k with
  |some k=>fits (a.length+1)<|.ok .non<|set S p<|.dct<|putK k v a
  |none=>.stuck
 |some (.dtt a)=>match zGq k with
  |some k=>fits (a.length+1)<|.ok .non<|set S p<|.dtt<|putK k v a
  |none=>.stuck
 |some (.lst b)=>match k with
  |.int i=>match decide (0<=i/\i<b.length) with
   |true=>.ok .non<|set S p<|.lst<|set b i.toNat v
   |false=>.stuck
  |_=>.stuck
 |_=>.stuck
def zFe(f:C6->U)(a:U)(S:So):Res:=match a with
 |.str x=>.ok (f<|x.cps.toList.map λc=>.str ⟨#[c]⟩) S
 |.ref p=>match at? S p with
  |some (.lst b)=>.ok (f b)<|set S p .dead
  |_=>.stuck
 |a=>match sqU S a with
  |some b=>.ok (f b) S
  |none=>.stuck
def zCy(p:Nat)(S:So)(f:Str->B7 (Str×U)->Res):Res:=match at? S p with
 |some (.ins C fs)=>f C fs
 |_=>.stuck
def zCu(p:Nat)(S:So)(f:C6->Res):Res:=match at? S p with
 |some (.lst a)=>f a
 |_=>.stuck
noncomputable def zFb:U->B8 Str
 |.str x=>some x
 |_=>none
def wn{u:U}{x:Str}(h:zFb u=some x):u=.str x:=by unfold zFb at h;split at h <;> cases h;rfl
noncomputable def zCv(i:Int):C6->C6
 |[]=>[]
 |x::a=>.tup [.int i,x]::zCv (i+1) a
noncomputable def zCa:C6->B8 (C8)
 |[]=>some []
 |.int i::r=>(zCa r).map (i::·)
 |_=>none
noncomputable def zF0:B7 (Key×U)->B8 (C8)
 |[]=>some []
 |(.inl i,_)::r=>(zF0 r).map (i::·)
 |_=>none
def zFd(S:So)(a:U):B8<|C8:=match lsT S a with
 |some c=>zCa c
 |none=>match a with
  |.ref p=>match at? S p with
   |some (.dct b)=>zF0 b
   |_=>none
  |_=>none
noncomputable def zEt(i:Int):C8->C8
 |[]=>[i]
 |j::r=>if i<=j then i::j::r else j::zEt i r
def zCf:C8->C8
 |[]=>[]
 |i::r=>zEt i<|zCf r
noncomputable def unq:C8->C8
 |[]=>[]
 |i::r=>if i∈r then unq r else i::unq r
variable(up:B7<|Str×Str)
def pr:Pm->C6->So->Res
 |.add m,c,S=>match c with
  |[a,b]=>zH5 m a b S
  |_=>.stuck
 |.sub,c,S=>i2 (λi j=>.int<|i-j) S c
 |.mul,c,S=>match c with
  |[.int i,.int j]=>match decide (i.natAbs<2^150/\j.natAbs<2^150\/j.natAbs<2^60\/i.natAbs<2^60) with
   |true=>.ok (.int<|i*j) S
   |false=>.stuck
  |_=>.stuck
 |.fdiv,c,S=>match c with
  |[.int i,.int j]=>match decide (0<j/\j<=10^18) with
   |true=>.ok (.int<|i / j) S
   |false=>.stuck
  |_=>.stuck
 |.mod,c,S=>match c with
  |[.int i,.int j]=>match decide (0<j) with
   |true=>.ok (.int<|i%j) S
   |false=>.stuck
  |_=>.stuck
 |.pow,c,S=>match c with
  |[.int i,.int j]=>match decide (0<=j/\j<=1000/\i.natAbs<2^60) with
   |true=>.ok (.int<|i^j.toNat) S
   |false=>.stuck
  |_=>.stuck
 |.neg,c,S=>match c with
  |[.int i]=>.ok (.int (-i)) S
  |_=>.stuck
 |.eq,c,S=>match c with
  |[a,b]=>eqU id a b S
  |_=>.stuck
 |.ne,c,S=>match c with
  |[a,b]=>neU a b S
  |_=>.stuck
 |.lt,c,S=>i2 (λi j=>.bl<|decide<|i<j) S c
 |.le,c,S=>i2 (λi j=>.bl<|decide<|i<=j) S c
 |.gt,c,S=>i2 (λi j=>.bl<|decide<|j<i) S c
 |.ge,c,S=>i2 (λi j=>.bl<|decide<|j<=i) S c
 |.isN,c,S=>match c with
  |[a]=>.ok (.bl<|match a with|.non=>true|_=>false) S
  |_=>.stuck
 |.notN,c,S=>match c with
  |[a]=>.ok (.bl<|match a with|.non=>false|_=>true) S
  |_=>.stuck
 |.inn,c,S=>match c with
  |[a,b]=>obB (inU S a b) id S
  |_=>.stuck
 |.nin,c,S=>match c with
  |[a,b]=>obB (inU S a b) not S
  |_=>.stuck
 |.ix,c,S=>match c with
  |[a,b]=>ixU a b S
  |_=>.stuck
 |.sl m l h,c,S=>match l,h,c with
  |true,true,[x,.int i,.int j]=>slice m x (some i) (some j) S
  |true,false,[x,.int i]=>slice m x (some i) none S
  |false,true,[x,.int j]=>slice m x none (some j) S
  |_,_,_=>.stuck
 |.tru,c,S=>match c with
  |[a]=>obB (zG1 S a) id S
  |_=>.stuck
 |.len,c,S=>match c with
  |[a]=>zEb a S
  |_=>.stuck
 |.isT n,c,S=>match c with
  |[a]=>match tyU S a with
   |some t=>.ok (.bl<|zF1 t n) S
   |none=>.stuck
  |_=>.stuck
 |.isC D,c,S=>match c with
  |[a]=>zKb D a S up
  |_=>.stuck
 |.abs,c,S=>match c with
  |[.int i]=>.ok (.int<|if i<0 then -i else i) S
  |_=>.stuck
 |.max,c,S=>i2 (λi j=>.int<|if j>i then j else i) S c
 |.min,c,S=>i2 (λi j=>.int<|if j<i then j else i) S c
 |.int1,c,S=>match c with
  |[a]=>match a with
   |.int i=>.ok (.int i) S
   |.bl b=>.ok (.int<|if b then 1 else 0) S
   |_=>.stuck
  |_=>.stuck
 |.lst m,c,S=>fits c.length<|mkL m c S
 |.dct A,c,S=>match Nat.beq A.length c.length with
  |true=>.ok (.ref S.length)<|S++[.dct<|zGu A c]
  |false=>.stuck
 |.tupOf,c,S=>match c with
  |[a]=>zA1 a S
  |_=>.stuck
 |.lstOf m,c,S=>match c with
  |[a]=>match sqU S a with
   |some xs=>mkL m xs S
   |none=>.stuck
  |_=>.stuck
 |.dctOf,c,S=>match c with
  |[.ref p]=>match at? S p with
   |some (.dct e)=>.ok (.ref S.length)<|S++[.dct e]
   |_=>.stuck
  |_=>.stuck
 |.lenset,c,S=>match c with
  |[.tup xs]=>match zCx xs with
   |some o=>match decide (o.length<=4/\o.Nodup) with
    |true=>.ok (.int o.length) S
    |false=>.stuck
   |none=>.stuck
  |_=>.stuck
 |.all,c,S=>match c with
  |[.lst xs]=>match blL xs with
   |some bs=>.ok (.bl<|bs.all id) S
   |none=>.stuck
  |_=>.stuck
 |.app,c,S=>match c with
  |[.ref p,v]=>zCu p S λxs=>fits (xs.length+1)<|.ok .non<|set S p<|.lst<|xs++[v]
  |_=>.stuck
 |.get1,c,S=>match c with
  |[.kd e _,.str x]=>opt (zAv x e) S
  |_=>.stuck
 |.get2,c,S=>match c with
  |[.kd e no,.str x,d]=>match zAv x e with
   |some v=>.ok v S
   |none=>match no.any λy=>decide (y=x) with
    |true=>.ok d S
    |false=>.stuck
  |_=>.stuck
 |.join,c,S=>match c with
  |[a,b]=>match zFb a,lsT S b with
   |some s,some xs=>match zCx xs with
    |some o=>match decide ((o.map (·.length)).sum+o.length*s.length<=16777216) with
     |true=>.ok (.str<|Builtin.Str.glued s o) S
     |false=>.stuck
    |none=>.stuck
   |_,_=>.stuck
  |_=>.stuck
 |.ext,c,S=>match c with
  |[.ref p,b]=>zCu p S λxs=>match lsT S b with
   |some r=>fits (xs.length+r.length)<|.ok .non<|set S p<|.lst<|xs++r
   |none=>.stuck
  |_=>.stuck
 |.thw,c,S=>match c with
  |[.lst xs]=>.ok (.ref S.length)<|S++[.lst xs]
  |_=>.stuck
 |.dctT,c,S=>match c with
  |[]=>.ok (.ref S.length)<|S++[.dtt []]
  |_=>.stuck
 |.srt m,c,S=>match c with
  |[a]=>match zFd S a with
   |some q=>match decide (q.length<64) with
    |true=>mkL m ((zCf q).map .int) S
    |false=>.stuck
   |none=>.stuck
  |_=>.stuck
 |.srs,c,S=>match c with
  |[a]=>match(lsT S a).bind zCa with
   |some q=>match decide ((∀z∈q,0<=z/\z<4000)/\(unq q).length<64) with
    |true=>.ok (.lst<|(zCf<|unq q).map .int) S
    |false=>.stuck
   |none=>.stuck
  |_=>.stuck
 |.lrng,c,S=>match c with
  |[.int i,.int j]=>match decide (0<=i/\i<=j/\j<=100000) with
   |true=>.ok (.lst<|zBx i (j-i).toNat) S
   |false=>.stuck
  |_=>.stuck
 |.enm2,c,S=>match c with
  |[a]=>match a with
   |.tup xs=>.ok (.tup<|zCv 2 xs) S
   |.kt xs=>.ok (.tup<|zCv 2 xs) S
   |_=>.stuck
  |_=>.stuck
 |.fld f,c,S=>match c with
  |[.ref p]=>zCy p S λ_ fs=>opt (zAv f fs) S
  |_=>.stuck
 |.setf f,c,S=>match c with
  |[.ref p,v]=>zCy p S λC fs=>match Nat.ble fs.length 900 with
   |true=>.ok .non<|set S p<|.ins C<|putF f v fs
   |false=>.stuck
  |_=>.stuck
 |.typ T,c,S=>match c with
  |[a]=>match tyU S a with
   |some t=>match t==T with
    |true=>.ok a S
    |false=>.stuck
   |none=>.stuck
  |_=>.stuck
 |.seti,c,S=>match c with
  |[.ref p,k,v]=>zBg p k v S
  |_=>.stuck
 |.cls C m,c,S=>match c with
  |[.ref p]=>zCy p S λD fs=>match decide (C=D) with
   |true=>match zAv m fs with
    |none=>.ok (.ref p) S
    |some _=>.stuck
   |false=>.stuck
  |_=>.stuck
 |.unp n,c,S=>match c with
  |[a]=>match sqU S a with
   |some xs=>match Nat.beq xs.length n with
    |true=>.ok (.tup xs) S
    |false=>.stuck
   |none=>.stuck
  |_=>.stuck
 |.new C,c,S=>match c with
  |[]=>.ok (.ref S.length)<|S++[.ins C []]
  |_=>.stuck
 |.rng1,c,S=>match c with
  |[.int j]=>match decide (-(2^62)<=j/\j<2^62) with
   |true=>.ok (.tup<|zBx 0 j.toNat) S
   |false=>.stuck
  |_=>.stuck
 |.zip,c,S=>match c with
  |[a,b]=>match sqF a,sqF b with
   |some xs,some r=>match Nat.beq xs.length r.length with
    |true=>.ok (.tup<|zCt xs r) S
    |false=>.stuck
   |_,_=>.stuck
  |_=>.stuck
 |.seq,c,S=>match c with
  |[a]=>zFe .tup a S
  |_=>.stuck
 |.frz,c,S=>match c with
  |[.ref p]=>zCu p S λxs=>.ok (.lst xs)<|set S p .dead
  |_=>.stuck
 |_,_,_=>.stuck
noncomputable abbrev Sg:=B7<|B8 U
noncomputable abbrev Kx(J:Type):=Xc->So->J
abbrev D6:=Kx Prop
noncomputable abbrev Kv(J:Type):=U->So->J
abbrev D5:=Kv Prop
structure Gx(J:Type) where
 fail:J
 fuel:Nat
 prim:Pm->C6->So->Kx J->Kv J->J
 call:Nat->C6->So->Kx J->Kv J->J
 br:C4->(Unit->J)->(Unit->J)->J
abbrev D7:=Gx Prop
structure Ee(J:Type) where
 nx:Sg->So->J
 rt:Kv J
 bk:Sg->So->J
 ct:Sg->So->J
 x:Xc->Sg->So->J
noncomputable abbrev TEx(J:Type):=Gx J->Sg->So->Kx J->Kv J->J
abbrev D4:=TEx Prop
noncomputable abbrev TTx(J:Type):=Gx J->Sg->So->Kx J->(C4->So->J)->J
noncomputable abbrev TAx(J:Type):=Gx J->Sg->So->Kx J->(C6->So->J)->J
abbrev D8:=TAx Prop
noncomputable abbrev TSx(J:Type):=Gx J->Sg->So->Ee J->J
abbrev D3:=TSx Prop
section
variable{J:Type}
noncomputable def cV(i:Nat):TEx J:=λG O S _ k=>match nth O i with
 |some v=>k v S
 |none=>G.fail
noncomputable def cC(u:U):TEx J:=λ_ _ S _ k=>k u S
noncomputable def aN:TAx J:=λ_ _ S _ k=>k [] S
noncomputable def aC(e:TEx J)(r:TAx J):TAx J:=λG O S x k=>e G O S x λv S1=>r G O S1 x λa S2=>k (v::a) S2
noncomputable def cP(p:Pm)(as:TAx J):TEx J:=λG O S x k=>as G O S x λa S1=>G.prim p a S1 x k
noncomputable def cT(as:TAx J):TEx J:=λG O S x k=>as G O S x λa S1=>k (.tup a) S1
noncomputable def cF(i:Nat)(as:TAx J)(b:C6):TEx J:=λG O S x k=>as G O S x λa S1=>G.call i (a++b) S1 x k
noncomputable def cM(C m:Str)(i:Nat)(o:TEx J)(as:TAx J)(b:C6):TEx J:=λG O S x k=>o G O S x λv S1=>G.prim (.cls C m) [v] S1 x λw S2=>as G O S2 x λa S3=>G.call i (w::(a++b)) S3 x k
noncomputable def cK(C:Str)(i:Nat)(as:TAx J)(b:C6):TEx J:=λG O S x k=>as G O S x λa S1=>G.prim (.new C) [] S1 x λw S2=>G.call i (w::(a++b)) S2 (λ_ _=>G.fail) λr S3=>match r with
 |.non=>k w S3
 |_=>G.fail
noncomputable def cBM(T:String)(p:Pm)(o:TEx J)(as:TAx J):TEx J:=λG O S x k=>o G O S x λv S1=>G.prim (.typ T) [v] S1 x λw S2=>as G O S2 x λa S3=>G.prim p (w::a) S3 x k
noncomputable def tB(e:TEx J):TTx J:=λG O S x k=>e G O S x λv S1=>match v with
 |.bl b=>k b S1
 |_=>G.fail
noncomputable def tNt(t:TTx J):TTx J:=λG O S x k=>t G O S x λb S1=>k (!b) S1
noncomputable def tAn(t u:TTx J):TTx J:=λG O S x k=>t G O S x λb S1=>G.br b (λ_=>u G O S1 x k) λ_=>k false S1
noncomputable def tOr'(t u:TTx J):TTx J:=λG O S x k=>t G O S x λb S1=>G.br b (λ_=>k true S1) λ_=>u G O S1 x k
noncomputable def cB(t:TTx J):TEx J:=λG O S x k=>t G O S x λb S1=>k (.bl b) S1
noncomputable def cIf(t:TTx J)(a b:TEx J):TEx J:=λG O S x k=>t G O S x λc S1=>G.br c (λ_=>a G O S1 x k) λ_=>b G O S1 x k
noncomputable def tCh(p q:Pm)(a b c:TEx J):TTx J:=λG O S x k=>a G O S x λv S1=>b G O S1 x λw S2=>G.prim p [v,w] S2 x λr S3=>match r with
 | .bl d=>G.br d (λ_=>c G O S3 x λz S4=>G.prim q [w,z] S4 x λr2 S5=>match r2 with
  |.bl e=>k e S5
  |_=>G.fail) λ_=>k false S3
 |_=>G.fail
noncomputable def zA4:C6->(U->Sg->So->(Sg->So->J)->J)->Sg->So->(Sg->So->J)->J
 |[],_,O,S,k=>k O S
 |v::a,b,O,S,k=>b v O S λσ1 S1=>zA4 a b σ1 S1 k
noncomputable def whK(t:Sg->So->(C4->So->J)->J)(b:Sg->So->(Sg->So->J)->J)(d:C4->(Unit->J)->(Unit->J)->J)(a:J):Nat->Sg->So->(Sg->So->J)->J
 |0,_,_,_=>a
 |n+1,O,S,k=>t O S λc S1=>d c (λ_=>b O S1 λσ2 S2=>whK t b d a n σ2 S2 k) λ_=>k O S1
def tgt(is:C7)(one:C4)(G:Gx J)(v:U)(O:Sg)(k:Sg->J):J:=match one with
 |true=>k<|puts O is [v]
 |false=>match v with
  |.tup a=>match Nat.beq a.length is.length with
   |true=>k<|puts O is a
   |false=>G.fail
  |_=>G.fail
noncomputable def lcK(G:Gx J)(b:U->So->(B8 U->So->J)->J):C6->C6->So->Kv J->J
 |[],a,S,k=>k (.lst a) S
 |v::c,a,S,k=>b v S λo S1=>match o with
  |some u=>lcK G b c (a++[u]) S1 k
  |none=>lcK G b c a S1 k
def lcB(is:C7)(one:C4)(O:Sg)(t:B8<|TTx J)(e:TEx J)(G:Gx J):U->So->(B8 U->So->J)->J:=λw S2 nx=>tgt is one G w O λσ1=>match t with
 |none=>e G σ1 S2 (λ_ _=>G.fail) λu S3=>nx (some u) S3
 |some t=>t G σ1 S2 (λ_ _=>G.fail) λb S3=>G.br b (λ_=>e G σ1 S3 (λ_ _=>G.fail) λu S4=>nx (some u) S4) λ_=>nx none S3
def cL(b:TEx J)(is:C7)(one:C4)(n:Nat)(cs:C7)(t:B8<|TTx J)(e:TEx J):TEx J:=λG O S x k=>b G O S x λv S1=>match v with
 |.tup a=>G.br (Nat.ble a.length sizeLine) (λ_=>lcK G (lcB is one (List.replicate n none++cs.map (nth O)) t e G) a [] S1 k) λ_=>G.fail
 |_=>G.fail
noncomputable def zGn(m:C4)(t:TEx J):TEx J:=match m with
 |true=>cP .thw<|aC t aN
 |false=>t
noncomputable def sN:TSx J:=λ_ O S E=>E.nx O S
noncomputable abbrev sqE(E:Ee J)(nx:Sg->So->J):Ee J:={E with nx:=nx}
noncomputable abbrev lpE(E:Ee J)(nx:Sg->So->J):Ee J:={E with nx:=nx,ct:=nx,bk:=E.nx}
def sQ(t u:TSx J):TSx J:=λG O S E=>t G O S<|sqE E λσ1 S1=>u G σ1 S1 E
def sA(i:Nat)(e:TEx J):TSx J:=λG O S E=>e G O S (λx S1=>E.x x O S1) λv S1=>E.nx (put O i v) S1
def sU(is:C7)(e:TEx J):TSx J:=λG O S E=>e G O S (λx S1=>E.x x O S1) λv S1=>G.prim (.unp is.length) [v] S1 (λx S1=>E.x x O S1) λw S2=>match w with
 |.tup a=>E.nx (puts O is a) S2
 |_=>G.fail
def sPr(i j:Nat)(a b:TEx J):TSx J:=λG O S E=>a G O S (λx S1=>E.x x O S1) λv S1=>b G O S1 (λx S1=>E.x x O S1) λw S2=>E.nx (put (put O i v) j w) S2
noncomputable def sE(e:TEx J):TSx J:=λG O S E=>e G O S (λx S1=>E.x x O S1) λ_ S1=>E.nx O S1
noncomputable def sR(e:TEx J):TSx J:=λG O S E=>e G O S (λx S1=>E.x x O S1) E.rt
noncomputable def sI(t:TTx J)(a b:TSx J):TSx J:=λG O S E=>t G O S (λx S1=>E.x x O S1) λc S1=>G.br c (λ_=>a G O S1 E) λ_=>b G O S1 E
noncomputable def sP(p:Pm)(e:TEx J)(b:TAx J):TSx J:=λG O S E=>e G O S (λx S1=>E.x x O S1) λv S1=>b G O S1 (λx S1=>E.x x O S1) λa S2=>G.prim p (a++[v]) S2 (λx S1=>E.x x O S1) λ_ S3=>E.nx O S3
def sF(c:TEx J)(is:C7)(one:C4)(b:TSx J):TSx J:=λG O S E=>c G O S (λx S1=>E.x x O S1) λv S1=>match v with
 |.tup a=>zA4 a (λw σ1 S2 nx=>tgt is one G w σ1 λσ2=>b G σ2 S2<|lpE E nx) O S1 E.nx
 |_=>G.fail
def zBm(p:Nat)(b:U->Sg->So->(Sg->So->J)->J)(a:J):Nat->Nat->Sg->So->(Sg->So->J)->J
 |0,_,_,_,_=>a
 |n+1,i,O,S,k=>match at? S p with
  |some (.lst c)=>match c[i]? with
   |some v=>b v O S λσ1 S1=>zBm p b a n (i+1) σ1 S1 k
   |none=>k O S
  |_=>a
def sFL(a:TEx J)(is:C7)(b:TSx J):TSx J:=λG O S E=>a G O S (λx S1=>E.x x O S1) λv S1=>match v with
 |.ref p=>zBm p (λw σ1 S2 nx=>tgt is true G w σ1 λσ2=>b G σ2 S2<|lpE E nx) G.fail G.fuel 0 O S1 E.nx
 |_=>G.fail
def zEn(is d:C7)(G:Gx J)(v:U)(O:Sg)(k:Sg->J):J:=match v with
 |.tup c=>match c with
  |[a,b]=>tgt is false G a O λσ1=>tgt d false G b σ1 k
  |_=>G.fail
 |_=>G.fail
def sF2(d:TEx J)(is c:C7)(b:TSx J):TSx J:=λG O S E=>d G O S (λx S1=>E.x x O S1) λv S1=>match v with
 |.tup a=>zA4 a (λw σ1 S2 nx=>zEn is c G w σ1 λσ2=>b G σ2 S2<|lpE E nx) O S1 E.nx
 |_=>G.fail
def sW(t:TTx J)(b:TSx J):TSx J:=λG O S E=>whK (λσ1 S1 k=>t G σ1 S1 (λx S2=>E.x x σ1 S2) k) (λσ1 S1 nx=>b G σ1 S1<|lpE E nx) G.br G.fail G.fuel O S E.nx
end
noncomputable def zAw{J:Type}(a b:TEx J):TAx J:=aC a<|aC b aN
noncomputable def zA8:C5->C4
 |[]=>true
 |x::r=>!(r.any λy=>decide<|y=x)&&zA8 r
end Fx
namespace Fx
open PySem PySem.Spec L2
variable{W':Wd}{vs:B7 V}{v:V}{o h:HO}{a i n:Nat}{l:B7<|C3×HO}{S:So}{x:D6}{k:D5}{b:C4}{q:Unit->Prop}{e it:D4}{as:D8}{ds:C6}{C:Str}{t:TTx Prop}{E E':Ee Prop}{nx':Sg->So->Prop}{is:C7}{O:Sg}{k':Sg->Prop}
structure Bs where
 K:xFr
 mg:Str->B8 B9
 kd:C3->B7 (Str×U)->C5->Prop
 cl:Str->C3->Prop
structure Wd where
 F:Hp
 μ:B7 C3
 pr:B7 (C3×HO)
structure Wd.Lf(W W':Wd):Prop where
 f:∀p o,W.F p=some o->W'.F p=some o
 m:∀a p,at? W.μ a=some p->at? W'.μ a=some p
structure Wd.Le(W W':Wd):Prop where
 f:∀p o,W.F p=some o->W'.F p=some o
 m:∀a p,at? W.μ a=some p->at? W'.μ a=some p
 r:W'.pr=W.pr
theorem Wd.Lf.pr{W:Wd}{l:B7<|C3×HO}:W.Lf {W with pr:=l}:=⟨λ_ _ h=>h,λ_ _ h=>h⟩
def Wd.Le.lf{W:Wd}(h:W.Le W'):W.Lf W':=⟨h.f,h.m⟩
def Wd.Le.refl{W:Wd}:W.Le W:=⟨λ_ _ h=>h,λ_ _ h=>h,rfl⟩
theorem Wd.Le.trans{W W1 W2:Wd}(a:W.Le W1)(b:W1.Le W2):W.Le W2:=⟨λp o h=>b.f p o<|a.f p o h,λi p h=>b.m i p<|a.m i p h,b.r.trans a.r⟩
variable(B:Bs)
mutual
def Rv(W:Wd):U->V->Prop
 |.non,v=>v=.non
 |.bl b,v=>v=.bl b
 |.int i,v=>v=.int i
 |.str x,v=>v=.str x
 |.tup c,v=>∃p vs,v=.ref p/\W.F p=some (.tup vs)/\Rvs W c vs
 |.lst c,v=>∃p vs,v=.ref p/\W.F p=some (.lst vs)/\Rvs W c vs
 |.kt c,v=>∃p vs,v=.ref p/\(∀H,SqT B.K H p vs)/\Rvs W c vs
 |.kl c,v=>∃p vs,v=.ref p/\SqL B.K W.F p vs/\Rvs W c vs
 |.kd d no,v=>∃p,v=.ref p/\B.kd p d no
 |.ref a,v=>∃p,v=.ref p/\at? W.μ a=some p
 |.ty n,v=>v=.ty n
 |.gl x,v=>∃p,v=.ref p/\B.mg x=some (.ref p)
def Rvs(W:Wd):C6->B7 V->Prop
 |[],vs=>vs=[]
 |x::c,vs=>∃v r,vs=v::r/\Rv W x v/\Rvs W c r
end
variable{B:Bs}
def eU{K:xFr}{F F':Hp}{p:C3}(le:∀p o,F p=some o->F' p=some o)(h:SqL K F p vs):SqL K F' p vs:=by
 rcases h with (h|⟨o,h⟩)|h
 .exact .inl<|.inl<|le _ _ h
 .exact .inl<|.inr ⟨o,le _ _ h⟩
 .exact .inr h
mutual
theorem Rv.lf{W W':Wd}(le:W.Lf W'):∀{u:U}{v:V},Rv B W u v->Rv B W' u v
 |.non,_,h=>h
 |.bl _,_,h=>h
 |.int _,_,h=>h
 |.str _,_,h=>h
 |.tup _,_,h=>let ⟨p,vs,e,f,r⟩:=h;⟨p,vs,e,le.f _ _ f,Rvs.lf le r⟩
 |.lst _,_,h=>let ⟨p,vs,e,f,r⟩:=h;⟨p,vs,e,le.f _ _ f,Rvs.lf le r⟩
 |.kt _,_,h=>let ⟨p,vs,e,f,r⟩:=h;⟨p,vs,e,f,Rvs.lf le r⟩
 |.kl _,_,h=>let ⟨p,vs,e,f,r⟩:=h;⟨p,vs,e,eU le.f f,Rvs.lf le r⟩
 |.kd _ _,_,h=>h
 |.ref _,_,h=>let ⟨p,e,f⟩:=h;⟨p,e,le.m _ _ f⟩
 |.ty _,_,h=>h
 |.gl _,_,h=>h
theorem Rvs.lf{W W':Wd}(le:W.Lf W'):∀{us:C6}{vs:B7 V},Rvs B W us vs->Rvs B W' us vs
 |[],_,h=>h
 |_::_,_,h=>let ⟨v,r,e,d,c⟩:=h;⟨v,r,e,Rv.lf le d,Rvs.lf le c⟩
end
def Rv.mono{W:Wd}(le:W.Le W'){u:U}(h:Rv B W u v):Rv B W' u v:=h.lf le.lf
def Rvs.mono{W:Wd}(le:W.Le W'){u:C6}{v:B7 V}(h:Rvs B W u v):Rvs B W' u v:=h.lf le.lf
theorem Rvs.length{W:Wd}:∀{us:C6}{vs:B7 V},Rvs B W us vs->vs.length=us.length
 |[],_,h=>by rw[show _=[] from h];rfl
 |_::_,_,h=>by let⟨v,r,rfl,_,c⟩:=h;simp[Rvs.length c]
theorem Rvs.app{W:Wd}:∀{us ws:C6}{vs c:B7 V},Rvs B W us vs->Rvs B W ws c->Rvs B W (us++ws) (vs++c)
 |[],_,_,_,h,g=>by rw[show _=[] from h];exact g
 |_::_,_,_,_,h,g=>by let⟨v,r,rfl,j,d⟩:=h;exact⟨v,r++_,rfl,j,Rvs.app d g⟩
def Rvs.one{W:Wd}{u:U}(h:Rv B W u v):Rvs B W [u] [v]:=⟨v,[],rfl,h,rfl⟩
theorem Rvs.get{W:Wd}:∀{us:C6}{vs:B7 V},Rvs B W us vs->∀{i:Nat}{u:U},us[i]?=some u->∃v,vs[i]?=some v/\Rv B W u v
 |[],_,_,_,_,e=>by simp at e
 |_::_,_,h,0,_,e=>by let⟨v,r,rfl,d,c⟩:=h;simp at e;subst e;exact⟨v,rfl,d⟩
 |_::_,_,h,i+1,_,e=>by let⟨v,r,rfl,d,c⟩:=h;exact Rvs.get c (by simpa using e)
theorem Rvs.drop{W:Wd}:∀(n:Nat){us:C6}{vs:B7 V},Rvs B W us vs->Rvs B W (us.drop n) (vs.drop n)
 |0,_,_,h=>h
 |_+1,[],_,h=>by rw[show _=[] from h];rfl
 |n+1,_::_,_,h=>by let⟨v,r,rfl,d,c⟩:=h;exact Rvs.drop n c
theorem Rvs.take{W:Wd}:∀(n:Nat){us:C6}{vs:B7 V},Rvs B W us vs->Rvs B W (us.take n) (vs.take n)
 |0,_,_,_=>rfl
 |_+1,[],_,h=>by rw[show _=[] from h];rfl
 |n+1,_::_,_,h=>by let⟨v,r,rfl,d,c⟩:=h;exact⟨v,r.take n,rfl,d,Rvs.take n c⟩
theorem Rvs.set{W:Wd}{u:U}{v:V}(g:Rv B W u v):∀{us:C6}{vs:B7 V}(i:Nat),Rvs B W us vs->Rvs B W (Fx.set us i u) (vs.set i v)
 |[],_,_,h=>by rw[show _=[] from h];rfl
 |_::_,_,0,h=>by let⟨d,r,rfl,j,c⟩:=h;exact⟨v,r,rfl,g,c⟩
 |_::_,_,i+1,h=>by let⟨d,r,rfl,j,c⟩:=h;exact⟨d,_,rfl,j,Rvs.set g i c⟩
def Rn{κ:Type}(B:Bs)(W:Wd):B7 (κ×U)->B7 (κ×V)->Prop
 |[],vs=>vs=[]
 |x::c,vs=>∃v r,vs=(x.1,v)::r/\Rv B W x.2 v/\Rn B W c r
theorem Rn.lf{κ:Type}{W W':Wd}(le:W.Lf W'):∀{us:B7<|κ×U}{vs:B7<|κ×V},Rn B W us vs->Rn B W' us vs
 |[],_,h=>h
 |_::_,_,h=>let ⟨v,r,e,d,c⟩:=h;⟨v,r,e,d.lf le,Rn.lf le c⟩
def Rn.mono{κ:Type}{W:Wd}(le:W.Le W'){us:B7<|κ×U}{vs:B7<|κ×V}(h:Rn B W us vs):Rn B W' us vs:=h.lf le.lf
theorem Rn.length{κ:Type}{W:Wd}:∀{us:B7<|κ×U}{vs:B7<|κ×V},Rn B W us vs->vs.length=us.length
 |[],_,h=>by rw[show _=[] from h];rfl
 |_::_,_,h=>by let⟨v,r,rfl,_,c⟩:=h;simp[Rn.length c]
def Ro(B:Bs)(W:Wd):Ob->HO->Prop
 |.lst j,o=>∃vs,o=.lst vs/\Rvs B W j vs
 |.dct d,o=>∃vs,o=.dK vs/\Rn B W d vs
 |.dtt d,o=>∃vs,o=.dT vs/\Rn B W d vs
 |.ins C fs,o=>∃c m vs,B.cl C c/\o=.ins c m vs/\Rn B W fs vs
 |.dead,o=>∃vs,o=.lst vs
theorem Ro.lf{W W':Wd}(le:W.Lf W'):∀{o:Ob}{h:HO},Ro B W o h->Ro B W' o h
 |.lst _,_,h=>let ⟨vs,e,r⟩:=h;⟨vs,e,r.lf le⟩
 |.dct _,_,h=>let ⟨vs,e,r⟩:=h;⟨vs,e,r.lf le⟩
 |.dtt _,_,h=>let ⟨vs,e,r⟩:=h;⟨vs,e,r.lf le⟩
 |.ins _ _,_,h=>let ⟨c,d,vs,m,e,r⟩:=h;⟨c,d,vs,m,e,r.lf le⟩
 |.dead,_,h=>h
def Ro.mono{W:Wd}(le:W.Le W'){o:Ob}(r:Ro B W o h):Ro B W' o h:=r.lf le.lf
structure RS(B:Bs)(W:Wd)(S:So)(H:Hp):Prop where
 fz:∀p o,W.F p=some o->H p=some o
 len:W.μ.length=S.length
 nd:∀a b p,at? W.μ a=some p->at? W.μ b=some p->a=b
 ob:∀a p,at? W.μ a=some p->∃o h,at? S a=some o/\H p=some h/\Ro B W o h/\(o=.dead\/W.F p=none)
 pf:∀q∈W.pr,H q.1=some q.2/\W.F q.1=none/\(∀a,at? W.μ a≠some q.1)/\∀vs,q.2≠.tup vs
section
variable{J:Type}
theorem nK:∀{l:B7 J}{i:Nat}{v:J},at? l i=some v->i<l.length
 |_::_,0,_,_=>⋯
 |_::r,i+1,v,h=>by have:=nK (l:=r) (i:=i) h;simp;lia
theorem ki:∀{l:B7 J}{i:Nat},i<l.length->∃v,at? l i=some v
 |v::_,0,_=>⟨v,rfl⟩
 |_::r,i+1,h=>ki (l:=r) (i:=i) (by simpa using h)
theorem cY:∀{l r:B7 J}{i:Nat}{v:J},at? l i=some v->at? (l++r) i=some v
 |_::_,_,0,_,h=>h
 |_::l,r,i+1,v,h=>cY (l:=l) (r:=r) (i:=i) h
theorem hU:∀{l:B7 J}{v:J},at? (l++[v]) l.length=some v
 |[],_=>rfl
 |_::l,v=>hU (l:=l) (v:=v)
theorem dh:∀{l:B7 J}{v w:J}{i:Nat},at? (l++[v]) i=some w->at? l i=some w\/(i=l.length/\w=v)
 |[],v,w,0,h=>.inr ⟨rfl,(xB3 h).symm⟩
 |[],_,_,_+1,h=>by cases h
 |_::_,_,_,0,h=>.inl h
 |_::l,v,w,i+1,h=>by
  rcases dh (l:=l) (v:=v) (w:=w) (i:=i) h with z|⟨z,e⟩
  .exact .inl z
  .exact .inr ⟨by simp[z],e⟩
theorem iI:∀{l:B7 J}{i:Nat}{v:J},(set l i v).length=l.length
 |[],_,_=>rfl
 |_::_,0,_=>rfl
 |_::r,i+1,v=>by show(set r i v).length+1=r.length+1;rw[iI]
theorem lG:∀{l:B7 J}{i:Nat}{v:J},i<l.length->at? (set l i v) i=some v
 |_::_,0,_,_=>rfl
 |_::r,i+1,v,h=>lG (l:=r) (i:=i) (by simpa using h)
theorem fK:∀{l:B7 J}{i j:Nat}{v:J},i≠j->at? (set l i v) j=at? l j
 |[],_,_,_,_=>rfl
 |_::_,0,0,_,h=>absurd rfl h
 |_::_,0,_+1,_,_=>rfl
 |_::_,_+1,0,_,_=>rfl
 |_::r,i+1,j+1,v,h=>fK (l:=r) (i:=i) (j:=j) ()
end
section
variable{W:Wd}{S:So}{H H':Hp}{p:C3}
def RS.here(r:RS B W S H){o:Ob}(e:at? S a=some o):∃p h,at? W.μ a=some p/\H p=some h/\Ro B W o h/\(o=.dead\/W.F p=none):=by
 have m:=nK e;let⟨p,c⟩:=ki (l:=W.μ) (i:=a) (by rw[r.len];exact m);let⟨A,h,d,y,j,q⟩:=r.ob a p c;rw[e] at d;cases d;exact⟨p,h,c,y,j,q⟩
def RS.same(r:RS B W S H)(s:zGi H H'):RS B W S H':=
 ⟨λp o h=>s _ _<|r.fz p o h,r.len,r.nd,λa p h=>let ⟨o,g,e,j,d,q⟩:=r.ob a p h;⟨o,g,e,s _ _ j,d,q⟩,λq c=>⟨s _ _ (r.pf q c).1,(r.pf q c).2⟩⟩
def RS.add(r:RS B W S H)(e:H p=some o)(y:∀a,at? W.μ a≠some p)(hp:∀q∈W.pr,q.1≠p):W.Le {W with F:=upd W.F p o}/\RS B {W with F:=upd W.F p o} S H:=by
 have le:W.Le { W with F:=upd W.F p o }:=⟨λb c h=>by
  by_cases z:b=p
  .subst z;rw[r.fz _ _ h] at e;cases e;exact bv
  .show upd W.F p o b=_;rw[bt z];exact h,λ_ _ h=>h,rfl⟩
 refine⟨le,⟨λb c h=>?_,r.len,r.nd,λa b h=>?_,λq d=>?_⟩⟩
 .by_cases z:b=p
  .subst z;have:some o=some c:=by rw[<- h];exact bv.symm
   cases this;exact e
  .exact r.fz b c (by rw[<- h];exact(bt z).symm)
 .let⟨c,g,J,A,m,q⟩:=r.ob a b h;refine⟨c,g,J,A,m.mono le,q.imp id λz=>?_⟩;show upd W.F p o b=none;rw[bt λj=>y a<|by rw[<- j];exact h];exact z
 .let⟨I,G,D⟩:=r.pf q d;exact⟨I,by show upd W.F p o q.1=none;rw[bt<|hp q d];exact G,D⟩
def RS.addT(r:RS B W S H)(e:H p=some (.tup vs)):W.Le {W with F:=upd W.F p<|.tup vs}/\RS B {W with F:=upd W.F p<|.tup vs} S H:=by
 by_cases z:W.F p=some (.tup vs)
 .have:upd W.F p (.tup vs)=W.F:=by
   funext b
   by_cases y:b=p
   .rw[y,bv,z]
   .rw[bt y]
  rw[this];exact⟨.refl,r⟩
 .refine r.add e (λa h=>?_) λq d z=>?_
  .let⟨o,g,m,j,c,q⟩:=r.ob a p h;rw[e] at j;cases j;cases o with
   |lst _=>let⟨_,z,_⟩:=c;cases z
   |dct _=>let⟨_,z,_⟩:=c;cases z
   |dtt _=>let⟨_,z,_⟩:=c;cases z
   |ins _ _=>let⟨_,_,_,_,z,_⟩:=c;cases z
   |dead=>let⟨_,z⟩:=c;cases z
  .rw[<- z,(r.pf q d).1] at e;exact(r.pf q d).2.2.2 vs<|xB3 e
def RS.fresh(r:RS B W S H)(e:H p=none):W.Le {W with F:=upd W.F p o}/\RS B {W with F:=upd W.F p o} S (upd H p o):=by
 refine(r.same<|cZ e o).add bv (λa h=>?_) λq d z=>?_
 .let⟨_,g,_,c,_⟩:=r.ob a p h;rw[e] at c;cases c
 .rw[<- z,(r.pf q d).1] at e;cases e
def RS.push{o:Ob}(r:RS B W S H)(e:H p=none)(G:Ro B {W with μ:=W.μ++[p]} o h):W.Le {W with μ:=W.μ++[p]}/\RS B {W with μ:=W.μ++[p]} (S++[o]) (upd H p h)/\at? (W.μ++[p]) S.length=some p:=by
 have le:W.Le {W with μ:=W.μ++[p]}:=⟨λ_ _ h=>h,λa b h=>cY h,rfl⟩
 have nm:∀a,at? W.μ a≠some p:=λa z=>by
  let⟨_,g,_,j,_⟩:=r.ob a p z;rw[e] at j;cases j
 have K:W.F p=none:=by
  cases z:W.F p with
  |none=>rfl
  |some d=>rw[r.fz _ _ z] at e;cases e
 have m:=cZ e h;refine⟨le,⟨λb d z=>m _ _<|r.fz b d z,by simp[r.len],λa b q c A=>?_,λa q c=>?_,λq J=>?_⟩,by rw[<- r.len];exact hU⟩
 .rcases dh c with z1|⟨z1,e1⟩ <;> rcases dh A with z2|⟨z2,e2⟩
  .exact r.nd a b q z1 z2
  .exact absurd (e2▸z1)<|nm a
  .exact absurd (e1▸z2)<|nm b
  .rw[z1,z2]
 .rcases dh c with z1|⟨z1,e1⟩
  .let⟨d,g,L,j,y,I⟩:=r.ob a q z1;exact⟨d,g,cY L,m _ _ j,y.mono le,I⟩
  .subst e1;exact⟨o,h,by rw[z1,r.len];exact hU,bv,G,.inr K⟩
 .let⟨c,A,D⟩:=r.pf q J;refine⟨m _ _ c,A,λa z=>?_,D.2⟩;rcases dh z with z1|⟨_,e1⟩
  .exact D.1 a z1
  .rw[e1,e] at c;cases c
def RS.mut{o o':Ob}(r:RS B W S H)(d:at? W.μ a=some p)(e:at? S a=some o)(J:o≠.dead)(G:Ro B W o' h):RS B W (set S a o')<|upd H p h:=by
 have A:W.F p=none:=by
  let⟨o2,g,j,_,_,q⟩:=r.ob a p d;rw[e] at j;cases j;exact q.resolve_left J
 refine⟨λb o2 z=>?_,by rw[iI];exact r.len,r.nd,λb q c=>?_,λq K=>?_⟩
 .rw[bt λy=>by rw[y,A] at z;cases z];exact r.fz b o2 z
 .by_cases y:a=b
  .subst y;rw[d] at c;cases c;exact⟨o',h,lG<|nK e,bv,G,.inr A⟩
  .let⟨o2,g,j,L,m,I⟩:=r.ob b q c;exact⟨o2,g,by rw[fK y];exact j,by rw[bt λz=>y<|r.nd a b p d<|by rw[<- z];exact c];exact L,m,I⟩
 .let⟨c,M,D⟩:=r.pf q K;exact⟨by rw[bt λz=>D.1 a<|by rw[z];exact d];exact c,M,D⟩
def RS.freeze{xs:C6}(r:RS B W S H)(e:at? S a=some (.lst xs))(d:at? W.μ a=some p):∃W',W.Le W'/\RS B W' (set S a .dead) H/\Rv B W' (.lst xs) (.ref p):=by
 let⟨o,g,j,I,K,q⟩:=r.ob a p d;rw[e] at j;cases j;let⟨vs,rfl,m⟩:=K;have N:W.F p=none:=q.resolve_left (by intro z;cases z);have le:W.Le { W with F:=upd W.F p (.lst vs) }:=⟨λb D h=>by
  show upd W.F p _ b=_;rw[bt λy=>by rw[y,N] at h;cases h];exact h,λ_ _ h=>h,rfl⟩
 refine⟨_,le,⟨λb D h=>?_,by rw[iI];exact r.len,r.nd,λb q c=>?_,λq M=>?_⟩,p,vs,rfl,bv,m.mono le⟩
 .by_cases z:b=p
  .subst z;have:some (HO.lst vs)=some D:=by rw[<- h];exact bv.symm
   cases this;exact I
  .exact r.fz b D (by rw[<- h];exact(bt z).symm)
 .by_cases y:a=b
  .subst y;rw[d] at c;cases c;exact⟨.dead,_,lG<|nK e,I,⟨vs,rfl⟩,.inl rfl⟩
  .let⟨o2,g,j,G,A,L⟩:=r.ob b q c;refine⟨o2,g,by rw[fK y];exact j,G,A.mono le,L.imp id λz=>?_⟩;show upd W.F p _ q=none;rw[bt λz=>y<|r.nd a b p d<|by rw[<- z];exact c];exact z
 .let⟨c,P,J⟩:=r.pf q M;refine⟨c,?_,J⟩;show upd W.F p _ q.1=none;rw[bt λz=>J.1 a<|by rw[z];exact d];exact P
def RS.hold(r:RS B W S H)(e:H p=none)(D:∀vs,o≠.tup vs):RS B {W with pr:=(p,o)::W.pr} S<|upd H p o:=by
 have m:=cZ e o;have c:=r.same m;refine⟨c.fz,c.len,c.nd,λa q h=>let ⟨j,g,G,d,y,A⟩:=c.ob a q h;⟨j,g,G,d,y.lf<|Wd.Lf.pr,A⟩,λq hq=>?_⟩;rcases xAv.mp hq with rfl|hq
 .refine⟨bv,?_,λa z=>?_,D⟩
  .cases z:W.F p with
   |none=>rfl
   |some j=>rw[r.fz _ _ z] at e;cases e
  .let⟨_,g,_,d,_⟩:=r.ob a p z;rw[e] at d;cases d
 .exact c.pf q hq
def RS.held{o':HO}(r:RS B W S H)(c:W.pr=(p,o)::l)(G:∀vs,o'≠.tup vs)(hl:∀q∈l,q.1≠p):RS B {W with pr:=(p,o')::l} S<|upd H p o':=by
 let⟨K,j,d,_⟩:=r.pf (p,o) (by rw[c];exact xAr);refine⟨λb u z=>?_,r.len,r.nd,λa q h=>?_,λq hq=>?_⟩
 .rw[bt λy=>by rw[y,j] at z;cases z];exact r.fz b u z
 .let⟨o2,g,J,I,m,A⟩:=r.ob a q h;exact⟨o2,g,J,by rw[bt λy=>d a<|by rw[<- y];exact h];exact I,m.lf<|Wd.Lf.pr,A⟩
 .rcases xAv.mp hq with rfl|hq
  .exact⟨bv,j,d,G⟩
  .let⟨F,D⟩:=r.pf q (by rw[c];exact xAs _ hq);exact⟨by rw[bt<|hl q hq];exact F,D⟩
def RS.heldF(r:RS B W S H)(c:W.pr=(p,o)::l)(hl:∀q∈l,q.1≠p):RS B {W with pr:=l,F:=upd W.F p o} S H:=by
 let⟨L,K,J,_⟩:=r.pf (p,o) (by rw[c];exact xAr);have lf:W.Lf {W with pr:=l,F:=upd W.F p o}:=⟨λb u z=>by show upd W.F p o b=_;rw[bt λy=>by rw[y,K] at z;cases z];exact z,λ_ _ h=>h⟩
 refine⟨λb u z=>?_,r.len,r.nd,λa q h=>?_,λq d=>?_⟩
 .by_cases y:b=p
  .subst y;have:some o=some u:=by rw[<- z];exact bv.symm
   cases this;exact L
  .exact r.fz b u (by rw[<- z];exact(bt y).symm)
 .let⟨o2,g,M,I,j,m⟩:=r.ob a q h;exact⟨o2,g,M,I,j.lf lf,m.imp id λz=>by show upd W.F p o q=none;rw[bt λy=>J a<|by rw[<- y];exact h];exact z⟩
 .let⟨G,D,A⟩:=r.pf q (by rw[c];exact xAs _ d);exact⟨G,by show upd W.F p o q.1=none;rw[bt<|hl q d];exact D,A⟩
def RS.heldS{b:Ob}(r:RS B W S H)(A:W.pr=(p,o)::l)(hl:∀q∈l,q.1≠p)(G:Ro B {W with pr:=l,μ:=W.μ++[p]} b h):RS B {W with pr:=l,μ:=W.μ++[p]} (S++[b]) (upd H p h)/\at? (W.μ++[p]) S.length=some p:=by
 let⟨R,D,h3,_⟩:=r.pf (p,o) (by rw[A];exact xAr);have lf:W.Lf {W with pr:=l,μ:=W.μ++[p]}:=⟨λ_ _ h=>h,λ_ _ h=>cY h⟩
 refine⟨⟨λc u z=>?_,by simp[r.len],λa c q d F=>?_,λa q d=>?_,λq m=>?_⟩,by rw[<- r.len];exact hU⟩
 .rw[bt λy=>by rw[y,D] at z;cases z];exact r.fz c u z
 .rcases dh d with z1|⟨z1,e1⟩ <;> rcases dh F with z2|⟨z2,e2⟩
  .exact r.nd a c q z1 z2
  .exact absurd (e2▸z1)<|h3 a
  .exact absurd (e1▸z2)<|h3 c
  .rw[z1,z2]
 .rcases dh d with z1|⟨z1,e1⟩
  .let⟨J,g,Q,P,j,I⟩:=r.ob a q z1;exact⟨J,g,cY Q,by rw[bt λy=>h3 a<|by rw[<- y];exact z1];exact P,j.lf lf,I⟩
  .subst e1;exact⟨b,h,by rw[z1,r.len];exact hU,bv,G,.inr D⟩
 .let⟨N,M,L,K⟩:=r.pf q (by rw[A];exact xAs _ m);refine⟨by rw[bt<|hl q m];exact N,M,λa z=>?_,K⟩;rcases dh z with z1|⟨_,e1⟩
  .exact L a z1
  .exact hl q m e1
end
structure Rg(B:Bs)(W:Wd)(O:Sg)(τ:St):Prop where
 l:τ.length=O.length
 v:∀i v,nth O i=some v->∃u,τ[i]?=some (some u)/\Rv B W v u
theorem Rg.mono{W W':Wd}{O:Sg}{τ:St}(r:Rg B W O τ)(le:W.Le W'):Rg B W' O τ:=⟨r.l,λi v h=>let ⟨u,e,q⟩:=r.v i v h;⟨u,e,q.mono le⟩⟩
theorem f9:∀{O:Sg}{i:Nat}{v:U},(put O i v).length=O.length
 |[],_,_=>rfl
 |_::_,0,_=>rfl
 |_::r,i+1,v=>by show(put r i v).length+1=r.length+1;rw[f9]
theorem mw:∀{O:Sg}{i j:Nat}{v w:U},nth (put O i v) j=some w->(i=j/\w=v/\i<O.length)\/(i≠j/\nth O j=some w)
 |[],_,_,_,_,h=>by cases h
 |_::_,0,0,_,_,h=>.inl ⟨rfl,(xB3 h).symm,⋯⟩
 |_::_,0,_+1,_,_,h=>.inr ⟨(),h⟩
 |_::_,_+1,0,_,_,h=>.inr ⟨(),h⟩
 |_::r,i+1,j+1,v,w,h=>by
  rcases mw (O:=r) (i:=i) (j:=j) h with ⟨a,b,c⟩|⟨a,b⟩
  .exact .inl ⟨(),b,by simp;lia⟩
  .exact .inr ⟨(),b⟩
theorem Rg.put{W:Wd}{O:Sg}{τ:St}{i:Nat}{v:U}{u:V}(r:Rg B W O τ)(q:Rv B W v u):Rg B W (put O i v)<|τ.set i<|some u:=by
 refine⟨by rw[List.length_set,f9];exact r.l,λj w h=>?_⟩;rcases mw h with ⟨rfl,rfl,m⟩|⟨a,b⟩
 .exact⟨u,by rw[List.getElem?_set_self<|by rw[r.l];exact m],q⟩
 .let⟨c,e,d⟩:=r.v j w b;exact⟨c,by rw[List.getElem?_set_ne a];exact e,d⟩
structure RX(B:Bs)(W:Wd)(x:Xc)(S:So)(C:B9)(dx:B8 C3)(H:Hp):Prop where
 s:RS B W S H
 c:∃c,B.mg x.cls=some (.ref c)/\C=.ref c
 f:(x.fs=[]/\dx=none)\/∃d vs,dx=some d/\H d=some (.xd vs)/\Rn B W x.fs vs
def XL(B:Bs)(W:Wd)(E:XK):D6:=λx S=>∀W' C c H,W.Le W'->RX B W' x S C c H->E C c H
def XL.up{W W':Wd}{E:XK}{x:Xc}{S:So}(le:W.Le W')(h:XL B W E x S):XL B W' E x S:=λW2 C d H c=>h W2 C d H<|le.trans c
def VL(B:Bs)(W:Wd)(Q:VK):D5:=λv S=>∀W' u H,W.Le W'->RS B W' S H->Rv B W' v u->Q u H
def AL(B:Bs)(W:Wd)(Q:B7 V->Hp->Prop):C6->So->Prop:=λv S=>∀W' u H,W.Le W'->RS B W' S H->Rvs B W' v u->Q u H
def BL(B:Bs)(W:Wd)(Q:C4->Hp->Prop):C4->So->Prop:=λb S=>∀W' H,W.Le W'->RS B W' S H->Q b H
def NL(B:Bs)(W:Wd)(Q:St->Hp->Prop):Sg->So->Prop:=λO S=>∀W' τ H,W.Le W'->RS B W' S H->Rg B W' O τ->Q τ H
section
variable(B)(G:D7)(Ex:St->XK)
def LE(c:D4):TE:=λτ H Q=>∃W O S,RS B W S H/\Rg B W O τ/\c G O S (XL B W<|Ex τ) (VL B W Q)
def LA(c:D8):TA:=λτ H Q=>∃W O S,RS B W S H/\Rg B W O τ/\c G O S (XL B W<|Ex τ) (AL B W Q)
def LT(c:TTx Prop):TT:=λτ H Q=>∃W O S,RS B W S H/\Rg B W O τ/\c G O S (XL B W<|Ex τ) (BL B W Q)
def LEe(W:Wd)(D:zDs):Ee Prop where
 nx:=NL B W D.nx
 rt:=VL B W D.rt
 bk:=NL B W D.bk
 ct:=NL B W D.ct
 x:=λx O S=>∀W' τ C dx H,W.Le W'->RX B W' x S C dx H->Rg B W' O τ->Ex τ C dx H
def LS(c:D3):TS:=λD τ H=>∃W O S,RS B W S H/\Rg B W O τ/\c G O S (LEe B Ex W D)
end
structure zA0(G:D7)(c:D4):Prop where
 m:∀{O S}{x x':D6}{k k':D5},(∀e S,x e S->x' e S)->(∀v S,k v S->k' v S)->c G O S x k->c G O S x' k'
structure zCl(G:D7)(c:D8)(n:Nat):Prop where
 m:∀{O S}{x x':D6}{k k':C6->So->Prop},(∀e S,x e S->x' e S)->(∀v S,v.length=n->k v S->k' v S)->c G O S x k->c G O S x' k'
structure zBu(G:D7)(c:TTx Prop):Prop where
 m:∀{O S}{x x':D6}{k k':C4->So->Prop},(∀e S,x e S->x' e S)->(∀v S,k v S->k' v S)->c G O S x k->c G O S x' k'
structure zD2(E E':Ee Prop):Prop where
 nx:∀O S,E.nx O S->E'.nx O S
 rt:∀v S,E.rt v S->E'.rt v S
 bk:∀O S,E.bk O S->E'.bk O S
 ct:∀O S,E.ct O S->E'.ct O S
 x:∀e O S,E.x e O S->E'.x e O S
structure zB5(G:D7)(c:D3):Prop where
 m:∀{O S}{E E':Ee Prop},zD2 E E'->c G O S E->c G O S E'
structure Box(p:Prop):Prop where
 h:p
def prP(up:B7<|Str×Str)(p:Pm)(vs:C6)(S:So)(k:D5):Prop:=match pr up p vs S with
 |.ok v S1=>k v S1
 |.stuck=>False
structure zBv(up:B7 (Str×Str))(G:D7):Prop where
 fail:G.fail=False
 prim:∀p vs S x k,G.prim p vs S x k=Box (prP up p vs S k)
 br:∀b p q,G.br b p q=Box (if b=true then p Unit.unit else q Unit.unit)
 call:∀{i vs S}{x x':D6}{k k':D5},(∀e S,x e S->x' e S)->(∀v S,k v S->k' v S)->G.call i vs S x k->G.call i vs S x' k'
section
variable{up:B7<|Str×Str}{G:D7}(g:zBv up G)
include g
theorem zBv.pm{p:Pm}{vs:C6}{x':D6}{k':D5}(c:∀v S,k v S->k' v S)(h:G.prim p vs S x k):G.prim p vs S x' k':=by
 rw[g.prim] at h⊢;let⟨h⟩:=h;refine⟨?_⟩;unfold prP at h⊢;cases e:pr up p vs S with
 |ok v S1=>rw[e] at h;exact c _ _ h
 |stuck=>rw[e] at h;exact h
theorem zBv.pok{p:Pm}{vs:C6}(h:G.prim p vs S x k):∃v S1,pr up p vs S=.ok v S1/\k v S1:=by
 rw[g.prim] at h;let⟨h⟩:=h;unfold prP at h;cases e:pr up p vs S with
 |ok v S1=>rw[e] at h;exact⟨v,S1,rfl,h⟩
 |stuck=>rw[e] at h;exact h.elim
theorem zBv.bm{p d c:Unit->Prop}(m:p Unit.unit->d Unit.unit)(j:q Unit.unit->c Unit.unit)(h:G.br b p q):G.br b d c:=by
 rw[g.br] at h⊢;let⟨h⟩:=h;refine⟨?_⟩;cases b
 .exact j h
 .exact m h
theorem zBv.bk{p:Unit->Prop}(h:G.br b p q):if b=true then p Unit.unit else q Unit.unit:=by
 rw[g.br] at h;exact h.h
theorem zBv.no(h:G.fail):False:=by rw[g.fail] at h;exact h
theorem mV:zA0 G<|cV i:=⟨λd c h=>by
 unfold cV at h⊢;split at h
 .exact c _ _ h
 .exact h⟩
theorem mC{u:U}:zA0 G<|cC u:=⟨λd c h=>c _ _ h⟩
theorem mAN:zCl G aN 0:=⟨λd c h=>c _ _ rfl h⟩
theorem mAC{r:D8}(a:zA0 G e)(b:zCl G r n):zCl G (aC e r)<|n+1:=⟨λc j h=>a.m c (λv S1=>b.m c λvs S2 d=>j _ _<|by simp[d]) h⟩
theorem mP{p:Pm}(a:zCl G as n):zA0 G<|cP p as:=⟨λc d h=>a.m c (λvs S1 _ j=>g.pm d j) h⟩
theorem mT(a:zCl G as n):zA0 G<|cT as:=⟨λc d h=>a.m c (λvs S1 _ j=>d _ _ j) h⟩
theorem mF(a:zCl G as n):zA0 G<|cF i as ds:=⟨λc d h=>a.m c (λvs S1 _ j=>g.call c d j) h⟩
theorem mM{m:Str}{o:D4}(b:zA0 G o)(a:zCl G as n):zA0 G<|cM C m i o as ds:=⟨λc d h=>b.m c (λv S1 r=>g.pm (λw S2 p=>a.m c (λvs S3 _ j=>g.call c d j) p) r) h⟩
theorem mK(a:zCl G as n):zA0 G<|cK C i as ds:=⟨λd j h=>a.m d (λvs S1 _ y=>g.pm (λw S2 p=>g.call (λ_ _ h=>h) (λr S3 c=>by cases r <;> first|exact j _ _ c|exact c) p) y) h⟩
theorem mBM{T:String}{p:Pm}{o:D4}(b:zA0 G o)(a:zCl G as n):zA0 G<|cBM T p o as:=⟨λc d h=>b.m c (λv S1 y=>g.pm (λw S2 r=>a.m c (λvs S3 _ j=>g.pm d j) r) y) h⟩
theorem mB(a:zA0 G e):zBu G<|tB e:=⟨λd j h=>a.m d (λv S1 c=>by cases v <;> first|exact j _ _ c|exact c) h⟩
theorem mNt(a:zBu G t):zBu G<|tNt t:=⟨λc d h=>a.m c (λv S1 j=>d _ _ j) h⟩
theorem mAn{u:TTx Prop}(a:zBu G t)(b:zBu G u):zBu G<|tAn t u:=⟨λc d h=>a.m c (λv S1 j=>g.bm (b.m c d) (d _ _) j) h⟩
theorem mOr{u:TTx Prop}(a:zBu G t)(b:zBu G u):zBu G<|tOr' t u:=⟨λc d h=>a.m c (λv S1 j=>g.bm (d _ _) (b.m c d) j) h⟩
theorem mCB(a:zBu G t):zA0 G<|cB t:=⟨λc d h=>a.m c (λv S1 j=>d _ _ j) h⟩
theorem mIf{f:D4}(a:zBu G t)(b:zA0 G e)(c:zA0 G f):zA0 G<|cIf t e f:=⟨λd j h=>a.m d (λv S1 p=>g.bm (b.m d j) (c.m d j) p) h⟩
theorem mCh{p q:Pm}{a b c:D4}(F:zA0 G a)(hb:zA0 G b)(D:zA0 G c):zBu G<|tCh p q a b c:=⟨λd j h=>F.m d (λv S1=>hb.m d λw S2=>g.pm λr S3 A=>by
 cases r <;> first|exact A|exact g.bm (D.m d λz S4=>g.pm λr2 S5 y=>by cases r2 <;> first|exact j _ _ y|exact y) (j _ _) A) h⟩
theorem mN:zB5 G sN:=⟨λl h=>l.nx _ _ h⟩
omit g in
theorem zD2.sq{nx:Sg->So->Prop}(l:zD2 E E')(h:∀O S,nx O S->nx' O S):zD2 (sqE E nx)<|sqE E' nx':=⟨h,l.rt,l.bk,l.ct,l.x⟩
omit g in
theorem zD2.lp{nx:Sg->So->Prop}(l:zD2 E E')(h:∀O S,nx O S->nx' O S):zD2 (lpE E nx)<|lpE E' nx':=⟨h,l.rt,l.nx,h,l.x⟩
theorem mQ{t u:D3}(a:zB5 G t)(b:zB5 G u):zB5 G<|sQ t u:=⟨λl h=>a.m (l.sq λ_ _=>b.m l) h⟩
theorem mA(a:zA0 G e):zB5 G<|sA i e:=⟨λl h=>a.m (λ_ _=>l.x _ _ _) (λ_ _=>l.nx _ _) h⟩
theorem mU(a:zA0 G e):zB5 G<|sU is e:=⟨λl h=>a.m (λ_ _=>l.x _ _ _) (λ_ _=>g.pm λw S h=>by cases w <;> first|exact l.nx _ _ h|exact h) h⟩
theorem mSE(a:zA0 G e):zB5 G<|sE e:=⟨λl h=>a.m (λ_ _=>l.x _ _ _) (λ_ _=>l.nx _ _) h⟩
theorem mR(a:zA0 G e):zB5 G<|sR e:=⟨λl h=>a.m (λ_ _=>l.x _ _ _) (λ_ _=>l.rt _ _) h⟩
theorem mI{u v:D3}(a:zBu G t)(b:zB5 G u)(c:zB5 G v):zB5 G<|sI t u v:=⟨λl h=>a.m (λ_ _=>l.x _ _ _) (λ_ _=>g.bm (b.m l)<|c.m l) h⟩
theorem mSP{p:Pm}{c:D8}(a:zA0 G e)(b:zCl G c n):zB5 G<|sP p e c:=⟨λl h=>a.m (λ_ _=>l.x _ _ _) (λ_ _=>b.m (λ_ _=>l.x _ _ _) λ_ _ _=>g.pm λ_ _=>l.nx _ _) h⟩
theorem zFw{one:C4}{v:U}{k:Sg->Prop}(c:∀O,k O->k' O)(h:tgt is one G v O k):tgt is one G v O k':=by
 unfold tgt at h⊢;cases one with
 |true=>exact c _ h
 |false=>cases v with
  |tup vs=>
   dsimp only at h⊢;cases e:Nat.beq vs.length is.length with
   |true=>rw[e] at h;exact c _ h
   |false=>rw[e] at h;exact(g.no h).elim
  |_=>exact(g.no h).elim
omit g in
theorem zIw{b d:U->Sg->So->(Sg->So->Prop)->Prop}(hb:∀v O S k k',(∀O S,k O S->k' O S)->b v O S k->d v O S k'):∀{vs:C6}{O:Sg}{S:So}{k k':Sg->So->Prop},(∀O S,k O S->k' O S)->zA4 vs b O S k->zA4 vs d O S k'
 |[],_,_,_,_,c,h=>c _ _ h
 |v::vs,_,_,_,_,c,h=>hb _ _ _ _ _ (λ_ _ z=>zIw hb c z) h
set_option tactic.hygienic true
omit g in
theorem zFx{p:Nat}{c:Prop}{b j:U->Sg->So->(Sg->So->Prop)->Prop}(hb:∀v O S k k',(∀O S,k O S->k' O S)->b v O S k->j v O S k'):∀{n i:Nat}{O:Sg}{S:So}{k k':Sg->So->Prop},(∀O S,k O S->k' O S)->zBm p b c n i O S k->zBm p j c n i O S k'
 |0,_,_,_,_,_,_,h=>h
 |n+1,i,O,S,k,k',d,h=>by
  rw[zBm] at h⊢;split at h
  .next m e=>
   split at h
   .exact hb _ _ _ _ _ (λ_ _ z=>zFx hb d z) h
   .exact d _ _ h
  .exact h
set_option tactic.hygienic false
theorem zJ5{b:D3}(a:zA0 G it)(hb:zB5 G b):zB5 G<|sFL it is b:=⟨λl h=>a.m (λ_ _=>l.x _ _ _) (λv S1 c=>by
 cases v <;> first|exact c|(dsimp only at c⊢;refine zFx ?_ l.nx c;exact λ_ _ _ _ _ d=>zFw g λ_=>hb.m<|l.lp d)) h⟩
theorem zHl{c:C7}{v:U}{k:Sg->Prop}(d:∀O,k O->k' O)(h:zEn is c G v O k):zEn is c G v O k':=by
 cases v with
 |tup vs=>
  match vs with
  |[a,b]=>exact zFw g (is:=is) (one:=false) (v:=a) (k:=λσ1=>tgt c false G b σ1 k) (λσ1=>zFw g d) h
  |[]|[_]|_::_::_::_=>exact(g.no h).elim
 |_=>exact(g.no h).elim
theorem mSW{b:D3}(a:zBu G t)(hb:zB5 G b):zB5 G<|sW t b:=⟨λ{O S E E'} l h=>by
 unfold sW at h⊢;generalize G.fuel=n at h⊢;induction n generalizing O S with
 |zero=>exact h
 |succ n d=>exact a.m (λ_ _=>l.x _ _ _) (λc S1=>g.bm (hb.m<|l.lp λ_ _=>d)<|l.nx _ _) h⟩
omit g in
theorem mLc{b j:U->So->(B8 U->So->Prop)->Prop}(hb:∀v S k k',(∀o S,k o S->k' o S)->b v S k->j v S k'):∀{vs ys:C6}{S:So}{k k':D5},(∀v S,k v S->k' v S)->lcK G b vs ys S k->lcK G j vs ys S k'
 |[],_,_,_,_,d,h=>d _ _ h
 | v::vs,_,_,_,_,d,h=>hb _ _ _ _ (λo S c=>match o,c with
  |some _,c=>mLc hb d c
  |none,c=>mLc hb d c) h
theorem mL{one:C4}{cs:C7}{t:B8<|TTx Prop}(a:zA0 G it)(hb:∀u,t=some u->zBu G u)(j:zA0 G e):zA0 G<|cL it is one n cs t e:=⟨λp r h=>a.m p (λv S1 d=>by
 cases v with
 |tup vs=>
  erw[<-g.bm (λd=>?_) (λd=>d) d,<-mLc ?_ r d,<-λ_ _ _ _ ho=>zFw g ?_];intro O z;cases t with
  |none=>exact j.m (λ_ _ h=>h) (λ_ _=>ho _ _) z
  |some u=>exact(hb u rfl).m (λ_ _ h=>h) (λc S3=>g.bm (j.m (λ_ _ h=>h) λ_ _=>ho _ _)<|ho _ _) z
 |_=>exact d) h⟩
end
end Fx
namespace L2
open PySem PySem.Spec PyProof.Rows
section
variable{X:Cx}
theorem lK:∀{ws:C5}{us:D0},zAg (ws.map V.str) us->StrsAre us ws
 |[],_,h=>by cases h;exact .nil
 |w::ws,_,h=>by
  cases h with
  |cons a b=>
   let⟨t,rfl⟩:=a;exact .cons w t<|lK b
def zFl(K:xFr):V->C9->Hp->VK->Prop:=λx b H Q=>∃(sep:Str) (l:C3) (a:C5),x=.str sep/\b=[.ref l]/\SqL K H l (a.map V.str)/\(a.map (·.length)).sum+a.length*sep.length<=16777216/\Q (.str<|Txt.join sep a) H
def uF:MtR X "str.join"<|zFl X.K:=by
 intro Z s O H x j v us Q I b c h;let⟨sep,l,a,rfl,rfl,e,hb,q⟩:=h;let⟨t,rfl⟩:=b;let⟨u,rfl,d⟩:=c.one;obtain rfl:u=Value.ref l:=d;let⟨its,r1,t1,i⟩:=I.list e;refine join_list t1.isList (ys:=a) (by simpa using lK r1) hb λm k=>?_;exact⟨.str _,H,I.tok _,⟨_,rfl⟩,q⟩
def zI9(K:xFr):C9->Hp->VK->Prop:=λa H Q=>∃(p:C3) (bs:B7 C4),a=[.ref p]/\SqL K H p (bs.map V.bl)/\∀b:C4,b=bs.all id->Q (.bl b) H
def oY(bs:B7 C4):(List.range bs.length).all (λi=>bs.getD i true)=bs.all id:=by
 rw[Bool.eq_iff_iff,xCx,xCx];constructor
 .intro h b hb;let⟨i,a,rfl⟩:=List.getElem_of_mem hb;have:=h i<|List.mem_range.mpr a;rw[xBz,xAk a] at this;exact this
 .intro h i a;have a:=List.mem_range.mp a;rw[xBz,xAk a];exact h _<|List.getElem_mem a
def yN(t:X.calm=true):zAl X (.builtin "all")<|zI9 X.K:=by
 intro Z s O H E us Q I r h;let⟨p,bs,rfl,y,q⟩:=h;let⟨u,rfl,c⟩:=zBa r;obtain rfl:u=Value.ref p:=c;let⟨its,r1,t1,D⟩:=I.list y;have j:=r1.length;rw[xAa] at j;have d:p<s.heap.objs.size:=by
  let⟨o,_,e,_⟩:=t1;exact xA1 e
 have a:∀(i:Nat)(v:B9),its.toArray[i]?=some v->v=Value.bool (bs.getD i true):=λi v e=>by
  have m:its[i]?=some v:=by simpa using e
  have l:i<bs.length:=by rw[j];exact(xAq.mp m).1
  let⟨u,k,c⟩:=r1.get (i:=i) (x:=.bl bs[i]) (by rw[xAw,xAk l];rfl);rw[m] at k;cases k;rw[xBz,xAk l];exact c
 erw[<-call_all_walk<|wpAny_pyIter_list t1.isList ?_,<-⟨s.heap.objs.size,[s.heap.objs.size,p],[s.heap.objs.size],_,_,_,λi=>bs.getD i true,rfl,Walks.list (A:=X.A.in1) (I.ok.hd t) s.heap.objs.size p (xA0 d) its.toArray,⟨⟨_,xAl _ rfl,rfl,rfl⟩,t1.isList.push _⟩,λi v F Q' E' C B=>?_,λG tk n=>?_⟩]
 .rw[a i v C];exact wpAny_truthy_bool B
 .refine⟨.bl _,H,I.kept (t':=tk) λb o e=>n b o ?_<|xAf _ e,rfl,q _ ?_⟩
  .rw[xAm];exact xA0<|xA1 e
  .rw[xAp,<- j];exact oY bs
end
noncomputable def Its(z:Str):It:=⟨λi _=>i<z.cps.size,λi H x H'=>H'=H/\∃c,z.cps[i]?=some c/\x=.str ⟨#[c]⟩,λi _=>i=z.cps.size⟩
def jt{P:Program}{w:World}{K:xFr}{R:C0}(a:C3)(z:Str)(t:Tok)(ty:String)(y:["enumerate","zip","dict_itemiterator","dict_reverseitemiterator","odict_iterator","itertools.zip_longest","itertools.pairwise"].contains ty=false)(W:∀A':Around,A'.handled=none->Walks P w A' a [a] [a] z.cps.size (SignAt z) (λi h=>h.IsStrIter a ty z t i))(l:∀(A:Around)(i:Nat)(s:B')(Q:B9->B'->Prop)(E:B9->B'->Prop),s.heap.IsStrIter a ty z t i->Q (.ref a) s->wpAny (model P w) A (pyIter<|.ref a) Q E s) :
  zEi P w K R (Its z) [a] a (λi h=>h.IsStrIter a ty z t i) where
 mem:=by simp
 obj:=λi h j b hb=>by
  have e:b=a:=by simpa using hb
  subst e;let⟨o,e,c,d⟩:=j;exact⟨o,e,λv z=>by rw[d] at z;cases z⟩
 keep:=λi h q j k=>by
  let⟨o,e,r⟩:=j;exact⟨o,k a ⋯ o e,r⟩
 item:=by
  intro X D x F C i Z s O H E I p j n;subst D x F;let⟨N,M,Y,L,J,G⟩:=p a ⋯;refine(W X.A<|I.ok.hd C).item i s _ _ n j λv q tk T m S=>?_;let⟨c,u,B,rfl⟩:=T;have I1:Inv X Z O H {s with heap:=q,toks:=tk}:=I.turned (λb o hb e=>S b o (by simpa using hb) e) N M L J G;let⟨o,e,c',d⟩:=id m;exact⟨_,rfl,ni (s:={s with heap:=q,toks:=tk}) e c' d y ⟨.str ⟨#[c]⟩,H,I1,⟨u,rfl⟩,⟨rfl,c,B,rfl⟩,m,λb hb=>(p b hb).1⟩⟩
 done:=by
  intro X D x F C i Z s O H E I p j n;subst D x F;let⟨N,M,Y,L,J,G⟩:=p a ⋯;have n:i=z.cps.size:=n;subst n;exact(W X.A<|I.ok.hd C).done s _ _ j λq tk eb=>⟨rfl,I.turned (t':=tk) (λb o hb e=>eb b o (by simpa using hb) e) N M L J G⟩
 self:=l
def zDl(x:V)(H:Hp)(R:It->Hp->Prop):Prop:=∃z:Str,x=.str z/\R (Its z) H
def sx:bootBuiltins "zip"=some (.type "zip"):=by decide +kernel
def zFu(K:xFr)(a:C3)(y:V)(H:Hp)(Q:VK):Prop:=∃x v u,y=.str x/\PySem.W.nsIn K a x=some (some u)/\zAh v u/\Q v H
def zG5(K:xFr)(a:C3)(b:TE):TE:=λO H Q=>b O H λy H2=>zFu K a y H2 Q
def KD(w:World)(K:xFr)(a:C3):Prop:=∃es n,K.lookup a=some ⟨.type "dict",none,.dict es n,#[]⟩/\PySem.W.KeysLit w.params es.toList/\(a==sysModules)=false
section
variable{X:Cx}{o e:C0}{te:TE}{a:C3}{apos cpos:Pos}
def ub(d:KD X.w X.K a)(G:PE X o<|tC<|.ref a)(L:PE X e te)(m:M1 X o "get" apos e cpos):PE X (.Call (.Attribute o "get" apos) [e] [] cpos)<|zG5 X.K a te:=by
 let⟨R,n,c,k,E⟩:=d;intro Z s O H Q I h;refine wpAny_Call_method m.base m.few m.line PySem.F.plainAttrs_dict PySem.F.slot_dict_get PySem.F.type_dict_get (thn (G Z s O H (λx H1=>x=.ref a/\te O H1 λy H2=>zFu X.K a y H2 Q) I ⟨rfl,h⟩) λu p l=>?_);let⟨x,H1,I1,A,M,D⟩:=l;subst M;obtain rfl:u=Value.ref a:=A;have i:=PySem.W.mapOf_K (prog:=X.prog) (w:=X.w) (λb o e=>I1.kIn b o e) c k;refine⟨i.typeIs,λb e=>⟨_,by cases e;exact I1.kIn a _ c,rfl⟩,?_⟩;rw[m.trees];refine Calls.callWith_builtin rfl (Calls.evalArgs_plain<|Calls.spliced_cons<|thn (L Z p O H1 _ I1 D) λP N ⟨y,H2,I2,r,C⟩=>Calls.spliced_nil ?_);let⟨z,v,u,rfl,J,B,q⟩:=C;let⟨t,rfl⟩:=r;have j:=PySem.W.mapOf_K (prog:=X.prog) (w:=X.w) (λb o e=>I2.kIn b o e) c k;refine call_meetsIn PySem.F.slot_dict_get j.typeIs PySem.F.entry_dict_get (PySem.F.args_dict_get_2 _ _) (meets_dict_get (strKind X.prog X.w) a (strKind_is X.prog X.w z t) E) ⟨_,j,?_⟩;rw[PySem.W.find_K c J];exact⟨v,H2,I2.tok _,B,q⟩
end
end L2
namespace RevA
open PySem PySem.Spec PyProof.Rows
variable{Q E:B9->B'->Prop}{prog:Program}{A:Around}{s:B'}
structure ZAp(z TI TO i1 i2:C3)(f1 f2:B7 C3):Prop where
 q1:TI≠z
 q2:TO≠z
 q3:i1≠z
 q4:i2≠z
 q5:TI≠TO
 q6:TI≠i1
 q7:TI≠i2
 q8:TO≠i1
 q9:TO≠i2
 qa:i1≠i2
 n1:z∉f1
 n2:z∉f2
 n3:TO∉f1
 n4:TO∉f2
 n5:i1∉f2
 n6:i2∉f1
section
variable{prog:Program}{w:World}{A:Around}{E:B9->B'->Prop}{s:B'}{z TI TO i1 i2:C3}{f1 f2:B7 C3}{n1 n2 k:Nat}{P1 P2:Nat->B9->Prop}{S1 S2:Nat->Heap->Prop}{a b:B9}
def oZ(D1:Draws prog w A i1 f1 n1 P1 S1)(D2:Draws prog w A i2 f2 n2 P2 S2)(D:ZAp z TI TO i1 i2 f1 f2)(C:IsZip s.heap z TI TO .none)(W:IsPair s.heap TI (.ref i1)<|.ref i2)(T:IsPair s.heap TO a b)(R:S1 k s.heap)(P:S2 k s.heap)(l1:k<n1)(l2:k<n2)(q:∀x y h' tk,P1 k x->P2 k y->IsZip h' z TI TO (rawInt s.heap.objs.size)->IsPair h' TO x y->S1 (k+1) h'->S2 (k+1) h'->IsPair h' s.heap.objs.size x y->(∀c o,c≠z->c≠TO->c≠i1->c≠i2->s.heap.get? c=some o->h'.get? c=some o) ->
   Q (.ref s.heap.objs.size) {s with heap:=h',toks:=tk}):wpAny (model prog w) A (Builtin.«zip.__next__» ⟨[.ref z],[]⟩) (λfin s'=>∃v,fin=.done (.ret v)/\Q v s') E s:=by
 let⟨S,g,d,O,m⟩:=s;change wpAny _ _ (field (.ref z) 2>>=_) _ _ _;refine xAd<|xDa C rfl (x:=.bool false) rfl ?_;change wpAny _ _ (field (.ref z) 3>>=_) _ _ _;refine xAd<|xDa C rfl (x:=.ref TI) rfl<|xAd<|wpAny_seqItems W rfl ?_;change wpAny _ _ (Builtin.SmallTypes.ownedTupleIsFree (.ref z)>>=_) _ _ _;erw[xAd];unfold Builtin.SmallTypes.ownedTupleIsFree;refine xAd<|xDa C rfl (x:=.none) rfl<|xAe ?_;simp only[if_true];erw[<-xAd<|wpAny_rule<|xAd<|xDa C rfl (x:=.ref TO) rfl ?_,<-xAd<|wpAny_setField_rec C ⋯ λH N b1=>?_]
 replace N:IsZip H z TI TO .ellipsis:=N
 replace b1:Heap.SameBut z S H:=b1
 erw[xAd];simp only[List.zipIdx_cons,List.zipIdx_nil,List.forIn_cons,List.forIn_nil];refine xAd<|xAd<|wpAny_onRaise ?_;change wpAny _ _ (Builtin.SmallTypes.nextOf (.ref i1)>>=_) _ _ _;have t1:S1 k H:=D1.frame _ _ _ R λc h o e=>b1.extBut c o (λy=>D.n1<|y▸h) e;refine xAd<|D1.item k ⟨H,g,d,O,m⟩ _ _ l1 t1 λx G l px t2 b2=>xAe ?_
 replace b2:Heap.SameBut i1 H G:=b2
 have o2:IsPair G TO a b:=b2.extBut _ _ D.q8<|b1.extBut _ _ D.q2 T;erw[<-xAd<|wpAny_seqItems (s:=⟨G,g,d,l,m⟩) o2 rfl ?_,<-xAd<|wpAny_updateSeq_pair (s:=⟨G,g,d,l,m⟩) o2 λt o3 b3=>?_]
 replace o3:IsPair t TO x b:=o3
 replace b3:Heap.SameBut TO G t:=b3
 erw[<-xAd<|wpAny_letGo<|xAe ?_,<-xAd<|xAd<|wpAny_onRaise ?_];change wpAny _ _ (Builtin.SmallTypes.nextOf (.ref i2)>>=_) _ _ _;have u3:S2 k t:=D2.frame _ _ _ P λc h o e=>b3.extBut c o (λy=>D.n4<|y▸h)<|b2.extBut c o (λy=>D.n5<|y▸h)<|b1.extBut c o (λy=>D.n2<|y▸h) e;have t3:S1 (k+1) t:=D1.frame _ _ _ t2 λc h o e=>b3.extBut c o (λy=>D.n3<|y▸h) e;refine xAd<|D2.item k ⟨t,g,d,l,m⟩ _ _ l2 u3 λy r j py u4 b4=>xAe ?_
 replace b4:Heap.SameBut i2 t r:=b4
 have o4:IsPair r TO x b:=b4.extBut _ _ D.q9 o3;have t4:S1 (k+1) r:=D1.frame _ _ _ t3 λc h o e=>b4.extBut c o (λy=>D.n6<|y▸h) e;erw[<-xAd<|wpAny_seqItems (s:=⟨r,g,d,j,m⟩) o4 rfl ?_,<-xAd<|wpAny_updateSeq_pair (s:=⟨r,g,d,j,m⟩) o4 λi J p=>?_]
 replace J:IsPair i TO x y:=J
 replace p:Heap.SameBut TO r i:=p
 refine xAd<|wpAny_letGo<|xAe<|xAe ?_;have t5:S1 (k+1) i:=D1.frame _ _ _ t4 λc h o e=>p.extBut c o (λy=>D.n3<|y▸h) e;have u5:S2 (k+1) i:=D2.frame _ _ _ u4 λc h o e=>p.extBut c o (λy=>D.n4<|y▸h) e;erw[<-xAd<|wpAny_seqItems (s:=⟨i,g,d,j,m⟩) J rfl ?_,<-xAd<|wpAny_newTuple ?_];have sz:i.objs.size=S.objs.size:=by rw[p.1,b4.1,b3.1,b2.1,b1.1]
 have z5:IsZip i z TI TO .ellipsis:=p.extBut _ _ D.q2.symm<|b4.extBut _ _ D.q4.symm<|b3.extBut _ _ D.q2.symm<|b2.extBut _ _ D.q3.symm N;have kk:∀c o,c≠z->c≠TO->c≠i1->c≠i2->S.get? c=some o->i.get? c=some o:=λc o n K Z Y e=>p.extBut _ _ K<|b4.extBut _ _ Y<|b3.extBut _ _ K<|b2.extBut _ _ Z<|b1.extBut _ _ n e;have B:z<i.objs.size:=xA1 z5;change wpAny _ _ (Builtin.SmallTypes.ownedTupleHandOut (.ref z) (.ref i.objs.size)>>=_) _ _ _;erw[xAd];unfold Builtin.SmallTypes.ownedTupleHandOut;have z6:IsZip (i.push {cls:=.type "tuple",data:=.seq #[x,y]}) z TI TO .ellipsis:=xAf _ z5;refine xAd<|wpAny_setField_rec z6 ⋯ λX M b7=>?_
 replace M:IsZip X z TI TO<|rawInt i.objs.size:=M
 refine wpAny_setField_rec M ⋯ λF I L=>?_
 replace I:IsZip F z TI TO<|rawInt i.objs.size:=I
 replace b7:Heap.SameBut z (i.push {cls:=.type "tuple",data:=.seq #[x,y]}) X:=b7
 replace L:Heap.SameBut z X F:=L
 have up:∀c o,c≠z->i.get? c=some o->F.get? c=some o:=λc o n e=>L.extBut _ _ n<|b7.extBut _ _ n<|xAf _ e;have T8:IsPair F i.objs.size x y:=L.extBut _ _ (Nat.ne_of_gt B)<|b7.extBut _ _ (Nat.ne_of_gt B)<|xAl _ rfl;rw[sz] at I T8;refine xAe ⟨_,rfl,?_⟩;change Q (.ref i.objs.size) _;rw[sz];exact q x y F j px py I (up _ _ D.q2 J) (D1.frame _ _ _ t5 λc h o e=>up c o (λy=>D.n1<|y▸h) e) (D2.frame _ _ _ u5 λc h o e=>up c o (λy=>D.n2<|y▸h) e) T8 λc o n K Z Y e=>up c o n<|kk c o n K Z Y e
def o0{Q:Fin->B'->Prop}(D1:Draws prog w A i1 f1 n1 P1 S1)(D:ZAp z TI TO i1 i2 f1 f2)(h:IsZip s.heap z TI TO .none)(n:IsPair s.heap TI (.ref i1)<|.ref i2)(l:S1 n1 s.heap)(q:∀h' e,(∀c o,c≠z->c≠TO->c≠i1->c≠i2->s.heap.get? c=some o->h'.get? c=some o)->(∃o,h'.get? e=some o/\o.cls=.type "StopIteration")->E (.ref e) {s with heap:=h'}) :
  wpAny (model prog w) A (Builtin.«zip.__next__» ⟨[.ref z],[]⟩) Q E s:=by
 change wpAny _ _ (field (.ref z) 2>>=_) _ _ _;refine xAd<|xDa h rfl (x:=.bool false) rfl ?_;change wpAny _ _ (field (.ref z) 3>>=_) _ _ _;refine xAd<|xDa h rfl (x:=.ref TI) rfl<|xAd<|wpAny_seqItems n rfl ?_;change wpAny _ _ (Builtin.SmallTypes.ownedTupleIsFree (.ref z)>>=_) _ _ _;erw[xAd];unfold Builtin.SmallTypes.ownedTupleIsFree;refine xAd<|xDa h rfl (x:=.none) rfl<|xAe ?_;simp only[if_true];erw[<-xAd<|wpAny_rule<|xAd<|xDa h rfl (x:=.ref TO) rfl ?_,<-xAd<|wpAny_setField_rec h ⋯ λp j b1=>?_]
 replace j:IsZip p z TI TO .ellipsis:=j
 erw[xAd];simp only[List.zipIdx_cons,List.zipIdx_nil,List.forIn_cons,List.forIn_nil];refine xAd<|xAd<|wpAny_onRaise ?_;change wpAny _ _ (Builtin.SmallTypes.nextOf (.ref i1)>>=_) _ _ _;have t1:S1 n1 p:=D1.frame _ _ _ l λc F o e=>b1.extBut c o (λy=>D.n1<|y▸F) e;refine xAd (D1.done {s with heap:=p} _ _ t1 λH e b2 C=>?_);let⟨B,d,i⟩:=C;have r:IsZip H z TI TO .ellipsis:=b2 _ _ D.q3.symm j;have m:e≠z:=λx=>by subst x;rw[r] at d;cases d;simp at i
 exact wpAny_setField_rec r ⋯ λG _ v=>q G e (λc o t _ I _ x=>v.extBut _ _ t<|b2 _ _ I<|b1.extBut _ _ t x) ⟨B,v.extBut _ _ m d,i⟩
def nN{Q:B8 B9->B'->Prop}(D1:Draws prog w A.in1 i1 f1 n1 P1 S1)(D2:Draws prog w A.in1 i2 f2 n2 P2 S2)(D:ZAp z TI TO i1 i2 f1 f2)(j:IsZip s.heap z TI TO .none)(i:IsPair s.heap TI (.ref i1)<|.ref i2)(h:IsPair s.heap TO a b)(e:S1 k s.heap)(d:S2 k s.heap)(n:k<n1)(m:k<n2)(q:∀x y h' tk,P1 k x->P2 k y->IsZip h' z TI TO (rawInt s.heap.objs.size)->IsPair h' TO x y->S1 (k+1) h'->S2 (k+1) h'->IsPair h' s.heap.objs.size x y->(∀c o,c≠z->c≠TO->c≠i1->c≠i2->s.heap.get? c=some o->h'.get? c=some o) ->
   Q (some<|.ref s.heap.objs.size) {s with heap:=h',toks:=tk}):wpAny (model prog w) A (pyNext<|.ref z) Q E s:=by
 have l:s.TypeIs (.ref z) "zip":=⟨_,j,rfl⟩
 unfold pyNext;exact xAd<|wpAny_attempt<|wpAny_callSpecial?_slot (name:=Str.ofString "__next__") l PySem.F.slot_zip_next (wpAny_call_entry PySem.F.slot_zip_next l PySem.F.entry_zip_next
  (oZ D1 D2 D j i h e d n m λx y h' tk r1 r2 r3 r4 r5 r6 r7 r8=>xAe<|q x y h' tk r1 r2 r3 r4 r5 r6 r7 r8) (PySem.F.args_zip_next_1 _))
def nO{Q:B8 B9->B'->Prop}(D1:Draws prog w A.in1 i1 f1 n1 P1 S1)(D:ZAp z TI TO i1 i2 f1 f2)(i:IsZip s.heap z TI TO .none)(h:IsPair s.heap TI (.ref i1)<|.ref i2)(d:S1 n1 s.heap)(q:∀h',(∀c o,c≠z->c≠TO->c≠i1->c≠i2->s.heap.get? c=some o->h'.get? c=some o)->Q none {s with heap:=h'}):wpAny (model prog w) A (pyNext<|.ref z) Q E s:=by
 have j:s.TypeIs (.ref z) "zip":=⟨_,i,rfl⟩
 unfold pyNext;refine xAd<|wpAny_attempt<|wpAny_callSpecial?_slot (name:=Str.ofString "__next__") j PySem.F.slot_zip_next<|wpAny_call_entry PySem.F.slot_zip_next j PySem.F.entry_zip_next (o0 D1 D i h d λh' e m n=>?_)<|PySem.F.args_zip_next_1 _;let⟨o,l,p⟩:=n;exact xAd<|wpAny_isInstance (T:="StopIteration") (b:=true) ⟨o,l,p⟩ isSubtype_stop<|xAe<|q _ m
end
def zBl(v:B9)(o:Obj)(h:Heap):Prop:=∀(prog:Program)(w:World)(A:Around)(E:B9->B'->Prop)(s:B')(Q:B9->B'->Prop),s.heap=h->Q (.ref s.heap.objs.size) {s with heap:=s.heap.push o}->wpAny (model prog w) A (pyIter v) Q E s
def m9{w:World}{v:B9}{o:Obj}(i:zBl v o s.heap)(h:Q (.ref s.heap.objs.size) {s with heap:=s.heap.push o}):wpAny (model prog w) A (pyIter v) Q E s:=i _ _ _ _ _ _ rfl h
noncomputable abbrev zh3(h:Heap)(o1 o2:Obj):Heap:=((h.push o1).push o2).push {cls:=.type "tuple",data:=.seq #[.ref h.objs.size,.ref (h.push o1).objs.size]}
noncomputable abbrev zh4(h:Heap)(o1 o2:Obj):Heap:=(zh3 h o1 o2).push {cls:=.type "tuple",data:=.seq #[.none,.none]}
noncomputable abbrev zh5(h:Heap)(o1 o2:Obj):Heap:=(zh4 h o1 o2).push {cls:=.type "zip",data:=.fields #[.none,.bool false,.bool false,.ref ((h.push o1).push o2).objs.size,.ref (zh3 h o1 o2).objs.size]}
def sO(b a:B9)(o1 o2:Obj):Meets (Builtin.«zip.__new__» ⟨[.type "zip",b,a],[]⟩) λ_ R s=>zBl b o1 s.heap/\zBl a o2 (s.heap.push o1)/\R (.ok<|.ret<|.ref (zh4 s.heap o1 o2).objs.size) {s with heap:=zh5 s.heap o1 o2}:=
 .of_wp λprog w A R s h=>by
  let⟨k,g,d,tk,i⟩:=s;let⟨e,c,h⟩:=h;have j:=sub_zip;have m:zBl b o1<|Shared.heap ⟨k,g,d,tk,i⟩:=e;have l:zBl a o2<|Shared.heap ⟨k.push o1,g,d,tk,i⟩:=c;wp_walk using m9 m,m9 l
  exact⟨_,rfl,h⟩
def o6{w:World}{b a:B9}{o1 o2:Obj}(r:zBl b o1 s.heap)(p:zBl a o2<|s.heap.push o1)(q:∀h',IsZip h' (s.heap.objs.size+4) (s.heap.objs.size+2) (s.heap.objs.size+3) .none->IsPair h' (s.heap.objs.size+2) (.ref s.heap.objs.size) (.ref<|s.heap.objs.size+1)->IsPair h' (s.heap.objs.size+3) .none .none ->
   (o1.isFreed=false->h'.get? s.heap.objs.size=some o1)->(o2.isFreed=false->h'.get? (s.heap.objs.size+1)=some o2)->(∀c o,s.heap.get? c=some o->h'.get? c=some o)->Q (.ref<|s.heap.objs.size+4) {s with heap:=h'}) :
  wpAny (model prog w) A (call (.type "zip") [b,a]) Q E s:=by
 refine callType_new PySem.F.called_zip ∅ (PySem.F.typeCall_zip_2 _ _) (PySem.F.newCall_zip_2 _ _) (λd=>PySem.F.args_object_init_3 d _ _) PySem.F.entry_zip_new (sO b a o1 o2) ⟨r,p,?_⟩;have j:(s.heap.push o1).objs.size=s.heap.objs.size+1:=Heap.size_push ..;have i:((s.heap.push o1).push o2).objs.size=s.heap.objs.size+2:=by rw[Heap.size_push,j]
 have h:(zh3 s.heap o1 o2).objs.size=s.heap.objs.size+3:=by rw[Heap.size_push,i]
 have n:(zh4 s.heap o1 o2).objs.size=s.heap.objs.size+4:=by rw[Heap.size_push,h]
 have e:(zh5 s.heap o1 o2).get? (zh4 s.heap o1 o2).objs.size=some _:=xAl _ rfl;have k:(zh5 s.heap o1 o2).get? (zh3 s.heap o1 o2).objs.size=some _:=xAf _<|xAl _ rfl;have l:(zh5 s.heap o1 o2).get? ((s.heap.push o1).push o2).objs.size=some _:=xAf _<|xAf _<|xAl _ rfl;have m:o2.isFreed=false->(zh5 s.heap o1 o2).get? (s.heap.push o1).objs.size=some o2:=λf=>xAf _<|xAf _<|xAf _<|xAl _ f;have t:o1.isFreed=false->(zh5 s.heap o1 o2).get? s.heap.objs.size=some o1:=λf=>xAf _<|xAf _<|xAf _<|xAf _<|xAl _ f;change _/\_;rw[i,h,n] at e;rw[j,i] at l;rw[h] at k;rw[j] at m;rw[n];exact⟨⟨_,e,rfl⟩,q _ e l k t m λc o x=>xAf _<|xAf _<|xAf _<|xAf _<|xAf _ x⟩
end RevA
namespace L2
open PySem PySem.Spec PyProof.Rows RevA
def o7{n:Nat}{f1 f2:B7 C3}(j:∀b∈f1,b=n\/b<n)(i:∀b∈f2,b=n+1\/b<n):ZAp (n+4) (n+2) (n+3) n (n+1) f1 f2:=by
 have h:∀c:Nat,n<c->c∉f1:=λc a z=>by
  rcases j c z with e|e
  .exact Nat.ne_of_gt a e
  .exact Nat.not_lt_of_lt a e
 have d:∀c:Nat,n<=c->c≠n+1->c∉f2:=λc a k z=>by
  rcases i c z with e|e
  .exact k e
  .exact Nat.not_lt_of_le a e
 exact⟨⋯,⋯,by simp[xA0],⋯,⋯,⋯,⋯,⋯,⋯,⋯,h _ (),d _ () ⋯,h _ (),d _ () ⋯,d _ (xAg _) ⋯,h _ ()⟩
end L2
namespace Prg
open PySem PySem.NumText PySem.StrLaws PyProof.Rows L2
section
variable{n:Nat}{sc:C5}{pl:Int}{P:C5->D->Prop}{kind:Str}{ds:B7 D}{i:Nat}{s:Ps}{x:D}
variable(h:0<=pl/\pl<=599)
include h
end
end Prg
namespace L2
open PySem PySem.Spec PyProof.Rows
def zDw(K:xFr)(a:C3)(y d:V)(H:Hp)(Q:VK):Prop:=∃x v r,y=.str x/\PySem.W.nsIn K a x=some r/\(∀u,r=some u->zAh v u)/\(r=none->v=d)/\Q v H
def zE6(K:xFr)(a:C3)(c b:TE):TE:=λO H Q=>c O H λy H2=>b O H2 λd H3=>zDw K a y d H3 Q
section
variable{X:Cx}{o e f:C0}{te tf:TE}{a:C3}{apos cpos:Pos}
theorem qp(d:KD X.w X.K a)(M:PE X o<|tC<|.ref a)(R:PE X e te)(P:PE X f tf)(m:M2 X o "get" apos e f cpos):PE X (.Call (.Attribute o "get" apos) [e,f] [] cpos)<|zE6 X.K a te tf:=by
 let⟨es,n,c,k,L⟩:=d;intro Z s O H Q I h;refine wpAny_Call_method m.base m.few m.line PySem.F.plainAttrs_dict PySem.F.slot_dict_get PySem.F.type_dict_get (thn (M Z s O H (λx H1=>x = .ref a/\te O H1 λy H2=>tf O H2 λd H3=>zDw X.K a y d H3 Q) I ⟨rfl,h⟩) λu A l=>?_);let⟨x,H1,I1,D,T,J⟩:=l;subst T;obtain rfl:u=Value.ref a:=D;have i:=PySem.W.mapOf_K (prog:=X.prog) (w:=X.w) (λb o e=>I1.kIn b o e) c k;refine⟨i.typeIs,λb e=>⟨_,by cases e;exact I1.kIn a _ c,rfl⟩,?_⟩;rw[m.trees];refine Calls.callWith_builtin rfl<|Calls.evalArgs_plain<|Calls.spliced_cons (thn (R Z A O H1 _ I1 J) λiv p ⟨y,H2,I2,C,G⟩ =>
  Calls.spliced_cons (thn (P Z p O H2 _ I2 G) λS Y ⟨z,H3,I3,B,E⟩=>Calls.spliced_nil ?_))
 let⟨x,v,r,rfl,N,r1,r2,q⟩:=E;let⟨t,rfl⟩:=C;have j:=PySem.W.mapOf_K (prog:=X.prog) (w:=X.w) (λb o e=>I3.kIn b o e) c k;refine call_meetsIn PySem.F.slot_dict_get j.typeIs PySem.F.entry_dict_get (PySem.F.args_dict_get_3 _ _ _) (meets_dict_get_default (strKind X.prog X.w) a (strKind_is X.prog X.w x t) L S) ⟨_,j,?_⟩;rw[PySem.W.find_K c N];cases r with
 |none=>cases r2 rfl;exact⟨_,H3,I3.tok _,B,q⟩
 |some u=>exact⟨v,H3,I3.tok _,r1 u rfl,q⟩
end
end L2
namespace SetA
open PySem PySem.Spec PySem.SetTable PyProof.Rows
variable{h h':Heap}{a:C3}{n:Nat}{t:SetTable}
def zB2(h:Heap)(a:C3)(n:Nat):Prop:=∃es ep t,h.get? a=some (zAo es ep t)/\es.size=n/\t.fits n=true
def zB2.at'(S:zB2 h a n)(e:∀o,h.get? a=some o->h'.get? a=some o):zB2 h' a n:=by
 let⟨b,c,t,q,r⟩:=S;exact⟨b,c,t,e _ q,r⟩
structure Ju(t:SetTable)(n:Nat):Prop where
 msk:7<=t.mask
 sz:t.place.size=n
 dm:t.dummies=#[]
theorem Ju.fits{t:SetTable}{n:Nat}(h:Ju t n)(b:n<=4):t.fits n=true:=by
 unfold SetTable.fits SetTable.fill;rw[h.sz,h.dm];have:=h.msk;simp only[beq_self_eq_true,Bool.true_and,decide_eq_true_eq,xAp,List.length_nil];lia
def Ju.full(h:Ju t n)(b:n<=4):t.tooFull=false:=by
 unfold SetTable.tooFull SetTable.fill;rw[h.sz,h.dm];have:=h.msk;simp only[decide_eq_false_iff_not,xAp,List.length_nil,ge_iff_le];lia
theorem Ju.new(T:Ju t n)(es:Array<|Int×B9)(d:es.size=n)(l:n<4)(h:Int)(x:B9) :
  ∃b t' i m,layNew t es h x=(b,t',i,m)/\b.size=n+1/\Ju t' (n+1)/\∀e∈b.toList,e∈es.toList\/e=(h,x):=by
 have k:∀p,∀e∈(insertAt es p (h,x)).toList,e∈es.toList\/e=(h,x):=λp e c=>by
  have:=(insertAt_perm es p (h,x)).mem_iff.mp c;rw[Array.toList_push] at this;rcases xAj.mp this with z|z
  .exact .inl z
  .exact .inr<|xAm.mp z
 unfold layNew;cases t.freeSlot h with
 |none=>
  refine⟨_,_,_,_,rfl,by rw[Array.size_push,d],⟨by show 7<=4*(es.size+1)+4;lia,by show(Array.range<|es.size+1).size=_;rw[Array.size_range,d],rfl⟩,λe c=>?_⟩;rw[Array.toList_push] at c;rcases xAj.mp c with z|z
  .exact .inl z
  .exact .inr<|xAm.mp z
 |some r=>
  let⟨j,i⟩:=r;have T':Ju (t.put j).1<|n+1:=⟨T.msk,by show(insertAt t.place (below t.place j) j).size=n+1;rw[cJ,T.sz],by show(if has t.dummies j then eraseAt t.dummies (below t.dummies j) else t.dummies)=#[];rw[T.dm];rfl⟩
  have e:(insertAt es (t.put j).2 (h,x)).size=n+1:=by rw[cJ,d]
  refine⟨_,_,_,_,rfl,e,?_,k _⟩;show Ju ((t.put j).1.orStandIn (insertAt es (t.put j).2 (h,x)).size)<|n+1;unfold SetTable.orStandIn;rw[e,T'.fits l];exact T'
def ZOk(w:World)(ks:C5)(l:B7<|Int×B9):Prop:=∀e∈l,∃k t,k∈ks/\e=(hashStr w k,Value.str k t)
def ZIn(w:World)(h:Heap)(a:C3)(n:Nat)(ks:C5):Prop:=∃es ep t,h.get? a=some (zAo es ep t)/\es.size=n/\Ju t n/\ZOk w ks es.toList
def ZIn.at'{w:World}{ks:C5}(S:ZIn w h a n ks)(e:∀o,h.get? a=some o->h'.get? a=some o):ZIn w h' a n ks:=by
 let⟨b,c,t,q,r⟩:=S;exact⟨b,c,t,e _ q,r⟩
section
variable{prog:Program}{w:World}{A:Around}{E:B9->B'->Prop}{s:B'}{a:C3}{n:Nat}{ks:C5}
def ZIn.add(S:ZIn w s.heap a n ks)(r:n<4){k:Str}(K:k∉ks){tk:Tok}{Q:C4->B'->Prop}(h:∀h':Heap,Heap.SameBut a s.heap h'->ZIn w h' a (n+1) (k::ks)->Q true {s with heap:=h'}):wpAny (model prog w) A (setAddHashed a (.str k tk)<|hashStr w k) Q E s:=by
 let⟨y,N,t,l,D,T,B⟩:=S;have H:t.fits y.size=true:=by rw[D];exact T.fits<|Nat.le_of_lt r
 have o:(PySem.strKind prog w).is k (.str k tk)=true:=by simp[PySem.strKind,Value.isStrOf]
 have p:ElemsOf (PySem.strKind prog w) y.toList:=λe q=>by
  let⟨m,j,_,rfl⟩:=B e q;exact⟨⟨m,by simp[PySem.strKind,Value.isStrOf],rfl⟩,rfl⟩
 unfold setAddHashed setAddHashedIn;refine xDc<|xAd<|wpAny_setState_of l rfl H ?_;dsimp only;rw[byScan_of (x:=.str k tk) rfl (by rw[D];have:scanBound=4096:=rfl;lia) p];simp only[↓reduceIte];unfold setAddByScan;erw[<-xAd<|xAd<|wpAny_rule ?_,<-xAd<|wpAny_setScan_of (knd:=PySem.strKind prog w) o l rfl H p ?_];have C:y.toList.findIdx? (λe=>(PySem.strKind prog w).is k e.2)=none:=List.findIdx?_eq_none_iff.mpr λe q=>by
  let⟨m,j,F,rfl⟩:=B e q;have:m≠k:=λz=>K<|z▸F;simp[PySem.strKind,Value.isStrOf,this]
 rw[C];dsimp only;let⟨c,j,O,M,e,G,d,J⟩:=T.new y D r (hashStr w k)<|.str k tk;rw[e];dsimp only;have done:∀t2:SetTable,Ju t2 (n+1)->Q true { s with heap:=s.heap.update a (Obj.putSet c t2) }:=λt2 T2=>h _ (xB5 s.heap a<|Obj.putSet c t2) ⟨c,N+1,t2,by
  have:=xA7 (Obj.putSet c t2) l (by rw[putSet_of c t2 rfl];rfl);rw[putSet_of c t2 rfl] at this;exact this,G,T2,λe q=>by
  rcases J e q with z|z
  .let⟨m,j,F,L⟩:=B e z;exact⟨m,j,xAs _ F,L⟩
  .exact⟨k,tk,xAr,z⟩⟩
 have i:c.size<=sizeLine:=fits_of_scanBound (by rw[G];have:scanBound=4096:=rfl;lia);have I:∀b:C4,({j with plain:=b}:SetTable).tooFull=false:=λb=>Ju.full ⟨d.msk,d.sz,d.dm⟩ r;have v:=d.full r;cases M
 .refine xAd<|xAe ?_;cases hp:j.plain with
  |true=>
   simp only[↓reduceIte];erw[xAd];rw[hashByValue_scannable 8 rfl];erw[xAe];cases plainKind (Value.str k tk) with
   |true=>
    simp only[↓reduceIte];refine xAd<|wpAny_storeSet_of l rfl ?_ i;rw[v,xDe];simp only[xAz,↓reduceIte];exact xAe<|xAe<|done j d
   |false=>
    simp only[xAz,↓reduceIte];refine xAd<|wpAny_storeSet_of l rfl ?_ i;rw[I,xDe];simp only[xAz,↓reduceIte];exact xAe<|xAe<|done _ ⟨d.msk,d.sz,d.dm⟩
  |false=>
   simp only[xAz,↓reduceIte];refine xAd<|xAe ?_;simp only[↓reduceIte];refine xAd<|wpAny_storeSet_of l rfl ?_ i;rw[v,xDe];simp only[xAz,↓reduceIte];exact xAe<|xAe<|done j d
 .refine xAd<|wpAny_rule ?_;cases hp:j.plain with
  |true=>
   simp only[↓reduceIte];erw[xAd];rw[hashByValue_scannable 8 rfl];erw[xAe];cases plainKind (Value.str k tk) with
   |true=>
    simp only[↓reduceIte];refine xAd<|wpAny_storeSet_of l rfl ?_ i;rw[v,xDe];simp only[xAz,↓reduceIte];exact xAe<|xAe<|done j d
   |false=>
    simp only[xAz,↓reduceIte];refine xAd<|wpAny_storeSet_of l rfl ?_ i;rw[I,xDe];simp only[xAz,↓reduceIte];exact xAe<|xAe<|done _ ⟨d.msk,d.sz,d.dm⟩
  |false=>
   simp only[xAz,↓reduceIte];refine xAd<|xAe ?_;simp only[↓reduceIte];refine xAd<|wpAny_storeSet_of l rfl ?_ i;rw[v,xDe];simp only[xAz,↓reduceIte];exact xAe<|xAe<|done j d
end
section
variable{prog:Program}{w:World}{A:Around}{R:Result->B'->Prop}{I S:C3}{fp wr:B7 C3}{G:Array GenState->Array GenState->Prop}{n:Nat}{P:Nat->B9->Prop}{St:Nat->B'->Prop}
theorem fill(W:WalksS prog w A.in1 I fp wr G n P St)(D:S∉fp){val:Nat->Str}(m:∀i v,P i v->∃t,v=.str (val i) t)(K:∀i j,i<j->j<n->val i≠val j)(X:n<=4):∀(k i:Nat)(s:B')(ks:C5),i+k=n->St i s->ZIn w s.heap S i ks->(∀x∈ks,∃j,j<i/\val j=x)->(∀c,Moved (S::wr) G s c->zB2 c.heap S n->R (.ok<|.ret .none) c)->codeAny (model prog w) A (.builtin "set.update.loop" ⟨[.ref S,.ref I],[]⟩) R s:=by
 have C:S∉wr:=λh=>D<|W.sub _ h;have p:∀b∈wr,b∈S::wr:=λb hb=>xAs _ hb;intro k;induction k with
 |zero=>
  intro i s ks N d L J hR;obtain rfl:i=n:=N;erw[codeAny_builtin PyProof.Rows.F.entry_set_update_loop];rw[Around.under_plainId PyProof.Rows.F.plain_set_update_loop _];change wpAny _ A.in1 (pyNext (.ref I)>>=_) _ _ s;refine xAd (W.done s _ _ d λc l=>?_);change wpAny _ A.in1 (ret Value.none) _ _ c;let⟨Z,ep,t,q,r,T,_⟩:=L;exact xAe<|hR c (l.mono p) ⟨Z,ep,t,l.heap S _ C q,r,T.fits X⟩
 |succ k Q=>
  intro i s ks N d L J hR;have B:i<n:=by lia
  erw[codeAny_builtin PyProof.Rows.F.entry_set_update_loop];rw[Around.under_plainId PyProof.Rows.F.plain_set_update_loop _];change wpAny _ A.in1 (pyNext (.ref I)>>=_) _ _ s;refine xAd (W.item i s _ _ B d λv c Y y l=>?_);let⟨t,rfl⟩:=m i v Y;change wpAny _ A.in1 (holding [Value.str (val i) t] (setAdd S<|.str (val i) t)>>=_) _ _ c;refine xAd<|xDc ?_;unfold setAdd;erw[xDc,<-xAd<|(PySem.strKind prog w).pyHash (k:=val i) (PySem.strKind_is _ _ _ _) ?_,<-ZIn.add (s:={c with toks:=c.toks+1}) (L.at' λo e=>l.heap S _ C e) () (λz=>by let⟨j,M,E⟩:=J _ z;exact K j i M B E) λh' O c2=>?_,<-xAe ⟨plainId_quiet PyProof.Rows.F.plain_set_update_loop _,Q (i+1) _ _ () (W.frame _ c _ _ y (Nat.le_succ _) λb hb o e=>?_) c2 (λx hx=>?_) λs'' H d1=>?_⟩]
  .rw[O.2 b λh:b=S=>D<|by rw[<- h];exact hb];exact e
  .rcases xAv.mp hx with rfl|hx
   .exact⟨i,(),rfl⟩
   .let⟨j,M,E⟩:=J x hx;exact⟨j,(),E⟩
  .refine hR s'' (Moved.trans W.gtrans ((l.mono p).then_heap (Nat.le_succ _) λb o hb e=>?_) H) d1;rw[O.2 b λh:b=S=>hb<|by rw[h];exact xAr];exact e
end
section
variable{prog:Program}{w:World}{A:Around}{E:B9->B'->Prop}{s:B'}
theorem set_tupleZ{l:C3}{items:Array B9}{Q:B9->B'->Prop}(hh:A.handled=none)(hl:s.heap.IsTuple l items){val:Nat->Str}(hi:∀(i:Nat)(v:B9),items[i]?=some v->∃t,v=.str (val i) t)(O:∀i j,i<j->j<items.size->val i≠val j)(hb:items.size<=4)(h:∀(h':Heap)(tk:Nat),zB2 h' s.heap.objs.size items.size->(∀b o,s.heap.get? b=some o->h'.get? b=some o)->s.toks<=tk->Q (.ref s.heap.objs.size) {s with heap:=h',toks:=tk}) :
  wpAny (model prog w) A (call (.type "set") [.ref l]) Q E s:=by
 let⟨c,tl,hmro⟩:=PySem.F.called_set.mro;have N:=PySem.F.called_set.made;have Z:=PySem.F.called_set.sub;refine wpAny_call<|codeAny_of_tree ?_;change wpAny _ _ (callAny (.type "set") _) _ _ _;refine xAe ⟨Code.quiet_builtin _ (by decide +kernel),codeAny_builtin PySem.F.entry_type_call ?_⟩;rw[Around.under_plain (weight_type_call_type "set" [.ref l] []) rfl];have q1:=PySem.F.called_set.notType;have q2:=PySem.F.called_set.canCreate;have q3:=PySem.F.typeCall_set_1<|.ref l;repeat (any_goals (first|assumption|wp_step))
 refine codeAny_mono (mG (.ref l) (E:=E) (Q₁:=λq s₁=>∃d:C4,(d=true\/w.params.followText "set-order"=true)/\q=.ref s.heap.objs.size/\s₁={s with heap:=s.heap.push<|zAo #[] 0 (.fresh 0 0 d)}) λd D=>⟨d,D,rfl,rfl⟩) λr s₁ m=>?_;cases r with
 |error e=>exact m
 |ok fl=>
  cases fl with
  |ret q=>
   let⟨d,D,rfl,rfl⟩:=m;have P0:(s.heap.push<|zAo #[] 0 (.fresh 0 0 d)).get? s.heap.objs.size=some (zAo #[] 0 (.fresh 0 0 d)):=xAl _ rfl;have hT:Shared.TypeIs {s with heap:=s.heap.push<|zAo #[] 0 (.fresh 0 0 d)} (.ref s.heap.objs.size) "set":=⟨_,P0,rfl⟩
   have hli:=PySem.F.called_set.init.lookup;have hbi:=PySem.F.called_set.init.bind<|.ref s.heap.objs.size;repeat (any_goals (first|assumption|wp_step))
   refine codeAny_mono (codeAny_call_builtin (R:=wants (λr s₂=>r = .none/\∃h' tk,s₂={ s with heap:=h',toks:=tk }/\zB2 h' s.heap.objs.size items.size /\
     (∀b o,s.heap.get? b=some o->h'.get? b=some o)/\s.toks<=tk) E) PySem.F.called_set.init.plain PySem.F.entry_set_init<|check_set_init_1 hT ?_) λr₂ s₂ m₂=>?_
   .let⟨ol,B,J,Y,I⟩:=hl;let⟨X,k,M,oslots⟩:=ol;simp only at J I;subst J;subst I;have y:(s.heap.push<|zAo #[] 0 (.fresh 0 0 d)).get? l=some {cls:=.type "tuple",dict:=k,data:=.seq items Y,slots:=oslots}:=xAf _ B;have q4:=PySem.F.sub_tuple_set;have q5:=PySem.F.sub_tuple_frozenset;have q6:(Value.type "tuple" == Value.type "dict")=false:=by decide
    have H:(s.heap.push<|zAo #[] 0 (.fresh 0 0 d)).IsTuple l items:=⟨_,y,rfl,Y,rfl⟩
    unfold Builtin.«set.__init__» noKeywords Builtin.Frozenset.updateFrom;generalize hPI:pyIter=PI;wp_walk
    subst hPI;erw[wpAny_pyIter_tuple H,<-xAd<|wpAny_runValue ?_];have G:l<s.heap.objs.size:=xA1 B;have P:A.in1.in1.in1.handled=none:=by simp[hh]
    have C:l≠(s.heap.push<|zAo #[] 0 (.fresh 0 0 d)).objs.size:=by
     rw[Heap.size_push];exact xA0<|xCa G
    have W:s.heap.objs.size∉[(s.heap.push<|zAo #[] 0 (.fresh 0 0 d)).objs.size,l]:=by
     rw[Heap.size_push];simp only[xAv,xBv,or_false,not_or];exact⟨xA0<|xCp _,Nat.ne_of_gt G⟩
    refine fill ((Walks.tuple P _ l C items).toS) W hi O hb items.size 0 _ [] (Nat.zero_add _)
     ⟨⟨_,xAl _ rfl,rfl,rfl⟩,(H.push _)⟩ ⟨#[],0,_,xAf _ P0,rfl,⟨xAg _,rfl,rfl⟩,λe he=>absurd he ⋯⟩ (λ_ z=>absurd z ⋯) ?hR
    case hR=>
     intro s' x d1;let⟨h',g',d',p,L⟩:=s';have eg:g'=s.gens:=x.gens;have ed:d'=s.drawn:=x.drawn;have eo:L=s.os:=x.os;have et:s.toks<=p:=x.toks;subst eg;subst ed;subst eo;change wpAny _ _ _ _ _ _;erw[xAe];change wpAny _ _ (ret Value.none) _ _ _;refine xAe ⟨rfl,h',p,rfl,d1,λb o e=>?_,et⟩
     .have K:=xA1 e;have T:b≠s.heap.objs.size:=xA0 K;have S:b≠(s.heap.push<|zAo #[] 0 (.fresh 0 0 d)).objs.size:=by
       rw[Heap.size_push];exact xA0<|xCa K
      exact x.heap b o (by simp only[xAv,xBv,or_false,not_or];exact⟨T,S⟩)<|xAf _<|xAf _ e
   .cases r₂ with
    |error e=>exact m₂
    |ok fl₂ =>
     cases fl₂ with
     |ret r=>
      let⟨rfl,h',tk,rfl,z1,z4,z5⟩:=m₂;repeat (any_goals (first|assumption|wp_step))
      exact h _ _ z1 z4 z5
     |_=>exact m₂.elim
  |_=>exact m.elim
end
end SetA
namespace L2
open PySem PySem.Spec PyProof.Rows SetA
noncomputable def zH6(p:C3)(n:Nat):HO:=HO.ext λh=>zB2 h p n
def v4{P:Program}{w:World}{H:Hp}{h:Heap}{p:C3}{n:Nat}(S:zB2 h p n):zAe P w H h p<|zH6 p n:=
 ⟨S,let ⟨_,_,_,q,_⟩:=S;⟨_,q⟩,λb a q k=>q.at' k⟩
def zHz:C9->Hp->VK->Prop:=λa H Q=>∃(p:C3) (ns:C5),a=[.ref p]/\H p=some (.tup<|ns.map V.str)/\ns.length<=4/\ns.Nodup/\∀l:C3,H l=none->Q (.ref l) (upd H l<|zH6 l ns.length)
def zH1:C9->Hp->VK->Prop:=λa H Q=>∃p n,a=[V.ref p]/\H p=some (zH6 p n)/\n<=100000/\Q (.int n) H
section
variable{X:Cx}
def u0(B:X.calm=true):zAl X (.type "set") zHz:=by
 intro Z s O H G us Q I r h;let⟨p,b,rfl,C,J,n,h⟩:=h;let⟨u,rfl,l⟩:=zBa r;obtain rfl:u=Value.ref p:=l;let⟨its,r1,t1,F⟩:=I.tuple<|SqT.of C;have c:=r1.length;rw[xAa] at c;refine SetA.set_tupleZ (val:=λi=>b.getD i Str.empty) (I.ok.hd B) t1 (λi v m=>?_) (λi j y D=>?_) (by simp only[xAp];lia) λK tk A E L=>?_
 .have d:i<b.length:=by
   have:=(xB7.mp m).1;simp only[xAp] at this;lia
  let⟨u,e,t,l⟩:=r1.get (i:=i) (x:=.str b[i]) (by rw[xAw,xAk d];rfl);rw[List.getElem?_toArray,e] at m;cases m;refine⟨t,?_⟩;rw[xBz,xAk d];exact l
 .have k:j<b.length:=by
   simp only[xAp] at D;lia
  rw[xBz,xBz,xAk k,xAk<|Nat.lt_trans y k];exact List.pairwise_iff_getElem.mp n i j (Nat.lt_trans y k) k y
 .rw[show its.toArray.size=b.length by rw[xAp];lia] at A;have q:s.heap.get? s.heap.objs.size=none:=by
   cases z:s.heap.get? s.heap.objs.size with
   |none=>rfl
   |some o=>exact absurd (xA1 z) (xBo _)
  let⟨a,I2⟩:=Inv.laidN (t':=tk) I E q<|v4 A;exact⟨.ref s.heap.objs.size,_,I2,rfl,h _ a⟩
def vb:zAl X (.builtin "len") zH1:=by
 intro Z s O H c us Q I r h;let⟨p,n,rfl,b,d,q⟩:=h;let⟨u,rfl,a⟩:=zBa r;obtain rfl:u=Value.ref p:=a;obtain⟨es,ep,t,S,rfl,hb⟩:zB2 s.heap p n:=(I.hok p _ b).1;exact call_len_set S ⟨rfl,rfl,rfl⟩ rfl hb () ⟨.int es.size,H,I.tok _,⟨_,rfl⟩,q⟩
end
end L2
namespace Fx
open PySem PySem.Spec L2
variable{X:Cx}{xs:C6}{n:Nat}{ys:B7 V}
def OpR.or{f:B9->B9->Sem B9}{r c:R2}(h:OpR X f r)(h':OpR X f c):OpR X f λx y H Q=>r x y H Q\/c x y H Q:=by
 intro Z s O H x y v u Q I b a q;rcases q with q|q
 .exact h Z s O H x y v u Q I b a q
 .exact h' Z s O H x y v u Q I b a q
def zAl.or{f:B9}{r b:B7 V->Hp->VK->Prop}(h:zAl X f r)(h':zAl X f b):zAl X f λxs H Q=>r xs H Q\/b xs H Q:=by
 intro Z s O H xs us Q I a q;rcases q with q|q
 .exact h Z s O H xs us Q I a q
 .exact h' Z s O H xs us Q I a q
def SlR.or{r j:V->B8 Int->B8 Int->Hp->VK->Prop}(h:SlR X r)(h':SlR X j):SlR X λx a b H Q=>r x a b H Q\/j x a b H Q:=by
 intro Z s O H x v d c l o e Q I i m pl k q;rcases q with q|q
 .exact h Z s O H x v d c l o e Q I i m pl k q
 .exact h' Z s O H x v d c l o e Q I i m pl k q
section
variable{B:Bs}{W:Wd}{S S':So}{H:Hp}{v w z:U}{u u1 u2:V}{vs:C6}{us:B7 V}{Q:VK}
theorem cQ(c:RS B W S H)(b:Rv B W v u)(h:lsT S v=some xs):∃p ys,u=.ref p/\H p=some (.lst ys)/\Rvs B W xs ys:=by
 cases v with
 |lst _=>cases h;let⟨p,ys,e,f,r⟩:=b;exact⟨p,ys,e,c.fz _ _ f,r⟩
 |ref a=>
  unfold lsT at h;dsimp only at h;let⟨p,rfl,j⟩:=b;cases e:at? S a with
  |none=>rw[e] at h;cases h
  |some o=>
   rw[e] at h;cases o <;> cases h
   let⟨l,g,d,k,i,_⟩:=c.here e;rw[j] at d;cases d;let⟨ys,rfl,r⟩:=i;exact⟨p,ys,rfl,k,r⟩
 |_=>cases h
theorem gK(c:RS B W S H)(b:Rv B W v u)(h:lsU S v=some xs):∃p ys,u=.ref p/\SqL B.K H p ys/\Rvs B W xs ys:=by
 cases v with
 |kl _=>cases h;let⟨p,ys,e,f,r⟩:=b;exact⟨p,ys,e,eU c.fz f,r⟩
 |lst _=>let⟨p,ys,e,f,r⟩:=cQ (S:=S) c b (xs:=xs) h;exact⟨p,ys,e,.of f,r⟩
 |ref a=>let⟨p,ys,e,f,r⟩:=cQ (S:=S) c b (xs:=xs) h;exact⟨p,ys,e,.of f,r⟩
 |_=>cases h
theorem fB(rs:RS B W S H)(b:Rv B W v u)(h:sqU S v=some xs):∃p ys,u=.ref p/\(SqL B.K H p ys\/SqT B.K H p ys)/\Rvs B W xs ys:=by
 cases v with
 |tup _=>cases h;let⟨p,ys,e,f,r⟩:=b;exact⟨p,ys,e,.inr<|.of<|rs.fz _ _ f,r⟩
 |kt _=>cases h;let⟨p,ys,e,f,r⟩:=b;exact⟨p,ys,e,.inr<|f H,r⟩
 |kl _=>let⟨p,ys,e,f,r⟩:=gK (S:=S) rs b (xs:=xs) h;exact⟨p,ys,e,.inl f,r⟩
 |lst _=>let⟨p,ys,e,f,r⟩:=gK (S:=S) rs b (xs:=xs) h;exact⟨p,ys,e,.inl f,r⟩
 |ref a=>let⟨p,ys,e,f,r⟩:=gK (S:=S) rs b (xs:=xs) h;exact⟨p,ys,e,.inl f,r⟩
 |_=>cases h
def VL.here(h:VL B W Q z S)(b:RS B W S H)(a:Rv B W z u):Q u H:=h W u H .refl b a
theorem VL.tup(h:VL B W Q (.tup vs) S)(c:RS B W S H)(b:Rvs B W vs us){p:C3}(e:H p=none):Q (.ref p)<|upd H p<|.tup us:=by
 let⟨le,a⟩:=c.fresh (o:=.tup us) e;exact h _ _ _ le a ⟨p,us,rfl,bv,b.mono le⟩
theorem fE{m:C4}(e:mkL m vs S=.ok z S')(h:VL B W Q z S')(c:RS B W S H)(b:Rvs B W vs us){p:C3}(d:H p=none):Q (.ref p)<|upd H p<|.lst us:=by
 cases m with
 |true=>
  cases e;have le:W.Le {W with μ:=W.μ++[p]}:=⟨λ_ _ h=>h,λ_ _ h=>cY h,rfl⟩
  let⟨_,a,i⟩:=c.push (o:=.lst vs) (h:=.lst us) d ⟨us,rfl,b.mono le⟩;exact h _ _ _ le a ⟨p,rfl,i⟩
 |false=>
  cases e;let⟨le,a⟩:=c.fresh (o:=.lst us) d;exact h _ _ _ le a ⟨p,us,rfl,bv,b.mono le⟩
def db{r:Res}(h:fits n r=.ok z S'):n<=sizeLine/\r=.ok z S':=by
 unfold fits at h;split at h
 .next e=>exact⟨xCo e,h⟩
 .cases h
def nD(r:Rvs B W xs ys)(lo hi:B8 Int):Rvs B W (zEf xs lo hi)<|zDx ys lo hi:=by
 unfold zEf zDx;rw[r.length];exact(r.drop _).take _
def jg(f:zAs v=true)(r:Rv B W v u):zBn u=true:=by
 cases v <;> first|(cases f;done)|(rw[show u=_ from r];rfl)
theorem jW:∀{vs:C6}{us:B7 V},vs.all zAs=true->Rvs B W vs us->us.all zBn=true
 |[],_,_,r=>by rw[show _=[] from r];rfl
 |x::xs,_,f,r=>by
  let⟨v,t,rfl,b,a⟩:=r;rw[xCj,xCh] at f;rw[xCj,jg f.1 b,jW f.2 a];rfl
def yF(a:zAs v=true)(fw:zAs w=true)(r1:Rv B W v u1)(r2:Rv B W w u2):eqV u1 u2=eqF v w:=by
 cases v <;> first|(cases a;done)|(cases w <;> first|(cases fw;done)|(rw[show u1=_ from r1,show u2=_ from r2];rfl))
theorem nL(f:zAs v=true)(r:Rv B W v u):∀{vs:C6}{us:B7 V},vs.all zAs=true->Rvs B W vs us->inV u us=zBc v vs
 |[],_,_,q=>by rw[show _=[] from q];rfl
 |x::xs,_,g,q=>by
  let⟨y,t,rfl,b,a⟩:=q;rw[xCj,xCh] at g;show(eqV y u||inV u t)=_;rw[nL f r g.2 a,yF g.1 f b r];rfl
theorem y3(r:Rvs B W xs ys){i:Int}(h:atI xs i=some v):∃y,atI ys i=some y/\Rv B W v y:=by
 unfold atI at h⊢;rw[r.length];cases e:ixN xs.length i with
 |none=>rw[e] at h;cases h
 |some j=>rw[e] at h;exact r.get h
theorem fW{κ:Type} [DecidableEq κ] {k:κ}:∀{kvs:B7<|κ×U}{vs:B7<|κ×V},Rn B W kvs vs->(∀v,zAu k kvs=some v->∃u,zCd vs k=some u/\Rv B W v u)/\(zAu k kvs=none->zCd vs k=none)
 |[],_,r=>by rw[show _=[] from r];exact⟨(λv h=>nomatch h),λ_=>rfl⟩
 |(j,x)::t,_,r=>by
  let⟨v,q,rfl,b,a⟩:=r;by_cases e:j=k
  .subst e;rw[e9 rfl];unfold zAu;rw[xCg rfl];exact⟨λc h=>by cases h;exact⟨v,rfl,b⟩,(λh=>nomatch h)⟩
  .rw[fc e];unfold zAu;rw[xCf e];exact fW a
def gj{k:Key}(h:zEs v=some k)(r:Rv B W v u):u=kV k:=by
 cases v <;> first|(cases h;exact r)|(cases h;done)
theorem jR:∀{xs:C6}{ks:B7 Key}{ys:B7 V},zEd xs=some ks->Rvs B W xs ys->ys=ks.map kV
 |[],_,_,h,r=>by cases h;exact r
 |x::xs,ks,_,h,r=>by
  let⟨y,ys,rfl,r1,r2⟩:=r;let⟨k,c,h⟩:=xCi.mp h;let⟨a,b,rfl⟩:=Option.map_eq_some_iff.mp h;rw[gj c r1,jR b r2];rfl
def mW{ks:B7 Key}(a:RS B W S H)(h:zGq v=some ks)(r:Rv B W v u):∃b,u=.ref b/\H b=some (.tup<|ks.map kV):=by
 cases v <;> try (cases h;done)
 let⟨p,ys,rfl,f,r⟩:=r;exact⟨p,rfl,by rw[<- jR h r];exact a.fz _ _ f⟩
theorem dD{f:U->U->C4}{R:V->V->Prop}(e:∀x y a b,f x y=true->Rv B W x a->Rv B W y b->R a b):∀{xs ys:C6}{as bs:B7 V},zA7 f xs ys=true->Rvs B W xs as->Rvs B W ys bs->as.length=bs.length/\∀(j:Nat)(x y:V),as[j]?=some x->bs[j]?=some y->R x y
 |[],[],_,_,_,r,q=>by rw[show _=[] from r,show _=[] from q];exact⟨rfl,λj x y h=>by simp at h⟩
 |[],_::_,_,_,h,_,_=>by cases h
 |_::_,[],_,_,h,_,_=>by cases h
 |x::xs,y::ys,_,_,h,r,q=>by
  let⟨a,t,rfl,r1,r2⟩:=r;let⟨b,p,rfl,o,m⟩:=q;unfold zA7 at h;rw[xCh] at h;let⟨l,z⟩:=dD e h.2 r2 m;refine⟨by simp[l],λj k i d c=>?_⟩;cases j with
  |zero=>simp at d c;subst d c;exact e _ _ _ _ h.1 r1 o
  |succ j=>exact z j k i (by simpa using d) (by simpa using c)
def la{c:C4}(h:eqS v w=some c)(r1:Rv B W v u1)(r2:Rv B W w u2):scal u1 u2=true/\decide (u1=u2)=c:=by
 let⟨a,e,h⟩:=xCi.mp h;let⟨b,d,h⟩:=xCi.mp h;rw[zm e] at r1;rw[zm d] at r2;cases a <;> cases b <;> first|(rw[show u1=_ from r1,show u2=_ from r2];refine⟨rfl,?_⟩;cases h;first|rfl|simp)|(cases h;done)
def fC(h:(zAs v&&zAs w&&eqS v w==some true)=true)(r1:Rv B W v u1)(r2:Rv B W w u2):Al H n u1 u2:=by
 simp only[xCh,beq_iff_eq] at h;let⟨⟨a,b⟩,e⟩:=h;have:u1=u2:=xBe (la e r1 r2).2;subst this;exact .flat<|jg a r1
theorem fZ(c:RS B W S H):∀{n:Nat}{v w:U}{u1 u2:V},same S n v w=true->Rv B W v u1->Rv B W w u2->Al H n u1 u2
 |0,v,w,u1,u2,h,r1,r2=>fC (by unfold same at h;exact h) r1 r2
 |n+1,v,w,u1,u2,h,r1,r2=>by
  have d:(match lsT S v,lsT S w with
   |some xs,some ys=>zA7 (same S n) xs ys
   |_,_=>zAs v&&zAs w&&eqS v w==some true)=true->Al H (n+1) u1 u2:=λh=>by
   cases e1:lsT S v with
   |none=>rw[e1] at h;exact fC h r1 r2
   |some xs=>
    cases e2:lsT S w with
    |none=>rw[e1,e2] at h;exact fC h r1 r2
    |some ys=>
     rw[e1,e2] at h;let⟨p,C,rfl,r,k⟩:=cQ c r1 e1;let⟨q,bs,rfl,o,j⟩:=cQ c r2 e2;let⟨l,z⟩:=dD (λx y a b m i e=>fZ c m i e) h k j;exact .lst r o l z
  unfold same at h;cases v <;> first | exact d h | (cases w <;> first | exact d h | (
   let⟨p,C,rfl,A,k⟩:=r1;let⟨q,bs,rfl,t,j⟩:=r2;let⟨l,z⟩:=dD (λx y a b m i e=>fZ c m i e) h k j;exact .tup (c.fz _ _ A) (c.fz _ _ t) l z))
end
end Fx
namespace Fx
open PySem PySem.Spec L2 PyProof.Rows
variable{X:Cx}{S:So}{H:Hp}{v:U}{u1 u2:V}{b:C4}{Q:VK}
def Pr2(B:Bs)(up:B7<|Str×Str)(p:Pm)(r:R2):Prop:=∀{W:Wd}{S:So}{H:Hp}{v w:U}{u1 u2:V}{z:U}{S':So}{Q:VK},RS B W S H->Rv B W v u1->Rv B W w u2->pr up p [v,w] S=.ok z S'->VL B W Q z S'->r u1 u2 H Q
def Pr1(B:Bs)(up:B7<|Str×Str)(p:Pm)(r:V->Hp->VK->Prop):Prop:=∀{W:Wd}{S:So}{H:Hp}{v:U}{u1:V}{z:U}{S':So}{Q:VK},RS B W S H->Rv B W v u1->pr up p [v] S=.ok z S'->VL B W Q z S'->r u1 H Q
def PrN(B:Bs)(up:B7<|Str×Str)(p:Pm)(r:B7 V->Hp->VK->Prop):Prop:=∀{W:Wd}{S:So}{H:Hp}{vs:C6}{us:B7 V}{z:U}{S':So}{Q:VK},RS B W S H->Rvs B W vs us->pr up p vs S=.ok z S'->VL B W Q z S'->r us H Q
section
variable{B:Bs}{up:B7<|Str×Str}
def rOr(r a:R2):R2:=λx y H Q=>r x y H Q\/a x y H Q
def zIu(K:xFr):R2:=rOr (rI0 λi j=>.int<|i+j)<|rOr (zFn K) zIt
def z9{m:C4}:Pr2 B up (.add m)<|zIu B.K:=by
 intro W S H v w u1 u2 z S' Q a r1 r2 h q;change zH5 m v w S=_ at h;unfold zH5 at h;split at h
 .cases h;exact .inl ⟨_,_,r1,r2,q.here a rfl⟩
 .let⟨o,e⟩:=db h;cases e;let⟨p,j,rfl,t,d⟩:=r1;let⟨l,i,rfl,r,c⟩:=r2;refine .inr<|.inl ⟨p,l,j,i,rfl,rfl,a.fz _ _ t,a.fz _ _ r,by rw[d.length,c.length];exact o,λp2 H2 x n=>?_⟩;let⟨le,k⟩:=(a.same x).addT n;exact q _ _ _ le k ⟨p2,_,rfl,bv,(d.app c).mono le⟩
 .split at h
  .next A y=>
   let⟨o,e⟩:=db h;let⟨p,j,rfl,t,d⟩:=cQ a r1 A;let⟨l,i,rfl,r,c⟩:=cQ a r2 y;exact .inr<|.inr ⟨p,l,j,i,rfl,rfl,t,r,by rw[d.length,c.length];exact o,λp2 n=>fE e q a (d.app c) n⟩
  .cases h
def Af:OpR X (binaryOp .Add)<|zIu X.K:=OpR.or xC<|OpR.or um xB
def nc{f:Int->Int->U}{vs:C6}{z:U}{S':So}(h:i2 f S vs=.ok z S'):∃i j,vs=[.int i,.int j]/\z=f i j/\S'=S:=by
 unfold i2 at h;split at h
 .cases h;exact⟨_,_,rfl,rfl,rfl⟩
 .cases h
def qz{p:Pm}{f:Int->Int->U}{g:Int->Int->V}(c:∀vs S,pr up p vs S=i2 f S vs)(hf:∀W i j,Rv B W (f i j)<|g i j):Pr2 B up p<|rI0 g:=by
 intro W S H v w u1 u2 z S' Q a r1 r2 h q;rw[c] at h;let⟨i,j,e,rfl,rfl⟩:=nc h;cases e;exact⟨i,j,r1,r2,q.here a<|hf _ _ _⟩
def zK:Pr2 B up .sub<|rI0 λi j=>.int<|i-j:=qz (f:=λi j=>.int<|i-j) (λ_ _=>rfl) λ_ _ _=>rfl
def zT:Pr2 B up .lt<|rI0 λi j=>.bl<|decide<|i<j:=qz (f:=λi j=>.bl<|decide<|i<j) (λ_ _=>rfl) λ_ _ _=>rfl
def zV:Pr2 B up .le<|rI0 λi j=>.bl<|decide<|i<=j:=qz (f:=λi j=>.bl<|decide<|i<=j) (λ_ _=>rfl) λ_ _ _=>rfl
def zW:Pr2 B up .gt<|rI0 λi j=>.bl<|decide<|j<i:=qz (f:=λi j=>.bl<|decide<|j<i) (λ_ _=>rfl) λ_ _ _=>rfl
def zX:Pr2 B up .ge<|rI0 λi j=>.bl<|decide<|j<=i:=qz (f:=λi j=>.bl<|decide<|j<=i) (λ_ _=>rfl) λ_ _ _=>rfl
def lE{C:Int->Int->Prop} [∀i j,Decidable<|C i j] {f:Int->Int->U} {S:So} {vs:C6} {z:U} {S':So} (h:(match vs with
  |[.int i,.int j]=>match decide (C i j) with
   |true=>Res.ok (f i j) S
   |false=>.stuck
  |_=>.stuck)=.ok z S'):∃i j,vs=[.int i,.int j]/\C i j/\z=f i j/\S'=S:=by
 split at h
 .split at h
  .next e=>cases h;exact⟨_,_,rfl,xBe e,rfl,rfl⟩
  .cases h
 .cases h
def dS{i:Int}{n:Nat}(h:i.natAbs<2^n):Builtin.Int.intBits i<=n:=by
 unfold Builtin.Int.intBits;by_cases e:i=0
 .subst e;simp
 .have a:i.natAbs≠0:=by lia
  have:=(Nat.log2_lt a).mpr h;split <;> lia
set_option tactic.hygienic true
def zP:Pr2 B up .mul<|rI (λi j=>IntMulOk i j) λi j=>.int<|i*j:=by
 intro W S H v w u1 u2 z S' Q d r1 r2 h q;cases v <;> try (cases h;done)
 .cases w <;> try (cases h;done)
  next i j=>
  delta pr at h;dsimp only at h;split at h
  .next c=>
   cases h;have c:=xBe c;refine⟨i,j,r1,r2,?_,q.here d rfl⟩;rcases c with ⟨h1,h2⟩|h1|h1
   .have a:=dS h1;have b:=dS h2;unfold IntMulOk;have:Builtin.Int.intTooBig (Builtin.Int.intBits i+Builtin.Int.intBits j)=false:=by
     unfold Builtin.Int.intTooBig bitsLine;exact xCn ()
    rw[this];simp
   .exact .of_right (xCk (dS h1) ())
   .exact .of_left (xCk (dS h1) ())
  .cases h
set_option tactic.hygienic false
def xo:Pr2 B up .fdiv<|rI zGl λi j=>.int<|i / j:=by
 intro W S H v w u1 u2 z S' Q a r1 r2 h q;let⟨i,j,e,c,rfl,rfl⟩:=lE (C:=λi j=>0<j/\j<=10^18) (f:=λi j=>.int<|i / j) h;cases e;exact⟨i,j,r1,r2,c,q.here a rfl⟩
def zQ:Pr2 B up .mod<|rI (λ_ j=>0<j) λi j=>.int<|i%j:=by
 intro W S H v w u1 u2 z S' Q a r1 r2 h q;let⟨i,j,e,c,rfl,rfl⟩:=lE (C:=λi j=>0<j) (f:=λi j=>.int<|i%j) h;cases e;exact⟨i,j,r1,r2,c,q.here a rfl⟩
def zM:Pr2 B up .pow<|rI zJf λi j=>.int<|i^j.toNat:=by
 intro W S H v w u1 u2 z S' Q c r1 r2 h q;let⟨i,j,e,a,rfl,rfl⟩:=lE (C:=λi j=>0<=j/\j<=1000/\i.natAbs<2^60) (f:=λi j=>.int<|i^j.toNat) h;cases e;exact⟨i,j,r1,r2,⟨a.1,(),Nat.lt_trans a.2.2 ∅⟩,q.here c rfl⟩
def zFj:R2:=λx y H Q=>∃a b d c,x=.ref a/\y=.ref b/\H a=some (.lst d)/\H b=some (.lst c)/\d.length≠c.length/\Q (.bl false) H
def uo(i:X.A.units<cLine):OpR X (compareOp .Eq) zFj:=by
 intro Z s O H x y v u Q I e d h;let⟨a,b,p,o,rfl,rfl,l,k,j,q⟩:=h;cases (show v=Value.ref a from e);cases (show u=Value.ref b from d);let⟨its,r1,t1,n⟩:=I.list<|SqL.of l;let⟨c,r2,t2,m⟩:=I.list<|SqL.of k;have t:=r1.length;have r:=r2.length;erw[(SeqAt.RcAt.lists_lengths t1.isList t2.isList (by rw[xAp,xAp];exact bne_iff_ne.mpr ()) i) X.prog X.w X.xe _,<-bw I q rfl]
def zIs:R2:=rOr rEq<|rOr zFj<|rOr (rAl true)<|zEq true
def zIi:R2:=λx y H Q=>∃a b d c,x=.ref a/\y=.ref b/\H a=some (.lst d)/\H b=some (.lst c)/\d.length≠c.length/\Q (.bl true) H
def xt(i:X.A.units<cLine):OpR X (compareOp .NotEq) zIi:=by
 intro Z s O H x y v u Q I e d h;let⟨a,b,p,o,rfl,rfl,l,k,j,q⟩:=h;cases (show v=Value.ref a from e);cases (show u=Value.ref b from d);let⟨its,r1,t1,n⟩:=I.list<|SqL.of l;let⟨c,r2,t2,m⟩:=I.list<|SqL.of k;have t:=r1.length;have r:=r2.length;erw[(SeqAt.RcNeAt.lists_lengths t1.isList t2.isList (by rw[xAp,xAp];exact bne_iff_ne.mpr ()) i) X.prog X.w X.xe _,<-bw I q rfl]
def zIm:R2:=rOr rNe<|rOr zIi<|rOr (rAl false)<|zEq false
def jA{W:Wd}{w:U}(c:RS B W S H)(r1:Rv B W v u1)(r2:Rv B W w u2)(C:eqS v w=none)(h:same S 80 v w=true)(q:Q (.bl b) H):rOr (rAl b) (zEq b) u1 u2 H Q:=by
 have d:(match lsT S v,lsT S w with
   |some A,some t=>zA7 (same S 79) A t
   |_,_=>zAs v&&zAs w&&eqS v w==some true)=true->rOr (rAl b) (zEq b) u1 u2 H Q:=λh=>by
  cases e1:lsT S v with
  |none=>rw[e1,C] at h;simp at h
  |some A=>
   cases e2:lsT S w with
   |none=>rw[e1,e2,C] at h;simp at h
   |some t=>
    rw[e1,e2] at h;let⟨p,r,rfl,D,k⟩:=cQ c r1 e1;let⟨m,bs,rfl,o,j⟩:=cQ c r2 e2;let⟨l,z⟩:=dD (λx y a b n i e=>fZ c n i e) h k j;exact .inr ⟨p,m,r,bs,79,rfl,rfl,D,o,l,∅,z,q⟩
 unfold same at h;cases v <;> first | exact d h | (cases w <;> first | exact d h | (
  let⟨p,r,rfl,F,k⟩:=r1;let⟨m,bs,rfl,E,j⟩:=r2;let⟨l,z⟩:=dD (λx y a b n i e=>fZ c n i e) h k j;exact .inl ⟨p,m,r,bs,79,rfl,rfl,c.fz _ _ F,c.fz _ _ E,l,∅,z,q⟩))
set_option tactic.hygienic true
def ph{W:Wd}{w:U}(d:RS B W S H)(r1:Rv B W v u1)(r2:Rv B W w u2)(e:zE0 (lsT S v) (lsT S w)=true):∃p a as bs,u1=.ref p/\u2=.ref a/\H p=some (.lst as)/\H a=some (.lst bs)/\as.length≠bs.length:=by
 unfold zE0 at e;split at e
 .next n m l k=>
  let⟨p,as,rfl,j,i⟩:=cQ d r1 l;let⟨a,bs,rfl,c,h⟩:=cQ d r2 k;refine⟨p,a,as,bs,rfl,rfl,j,c,λz=>?_⟩;rw[i.length,h.length] at z;rw[z,Nat.beq_refl] at e;cases e
 .cases e
def Bv:Pr2 B up .eq zIs:=by
 intro W S H v w u1 u2 z S' Q d r1 r2 h q;change Fx.eqU id v w S=_ at h;unfold Fx.eqU at h;split at h
 .next c e=>
  cases h;let⟨a,b⟩:=la e r1 r2;exact .inl ⟨a,by rw[b];exact q.here d rfl⟩
 .next e=>
  split at h
  .next i=>
   cases h;let⟨p,j,r,bs,o,n,m,l,k⟩:=ph d r1 r2 i;exact .inr<|.inl ⟨p,j,r,bs,o,n,m,l,k,q.here d rfl⟩
  .split at h
   .next i=>cases h;exact .inr<|.inr<|jA d r1 r2 e i<|q.here d rfl
   .cases h
def Br:Pr2 B up .ne zIm:=by
 intro W S H v w u1 u2 z S' Q d r1 r2 h q;change neU v w S=_ at h;unfold neU at h;split at h
 .next c e=>
  cases h;let⟨a,b⟩:=la e r1 r2;exact .inl ⟨a,by rw[b];exact q.here d rfl⟩
 .next e=>
  split at h
  .next i=>
   cases h;let⟨p,j,r,bs,o,n,m,l,k⟩:=ph d r1 r2 i;exact .inr<|.inl ⟨p,j,r,bs,o,n,m,l,k,q.here d rfl⟩
  .split at h
   .next i=>cases h;exact .inr<|.inr<|jA d r1 r2 e i<|q.here d rfl
   .cases h
set_option tactic.hygienic false
def zO:Pr1 B up .neg<|rU λi=>.int (-i):=by
 intro W S H v u1 z S' Q a r1 h q;cases v <;> first|(cases h;done)|(cases h;exact⟨_,r1,q.here a rfl⟩)
def Bz(a:X.A.units+100<cLine):OpR X (compareOp .Eq) zIs:=OpR.or Ad<|OpR.or (uo ())<|OpR.or (uv a)<|qF a
def Bw(a:X.A.units+100<cLine):OpR X (compareOp .NotEq) zIm:=OpR.or Ac<|OpR.or (xt ())<|OpR.or (ur a)<|qC a
def zJ1(n:C4):R2:=λx y H Q=>∃i j,x=.str i/\y=.str j/\Q (.bl<|if n then !(!(Builtin.Str.occurrences j i 0 j.length 1).isEmpty) else !(Builtin.Str.occurrences j i 0 j.length 1).isEmpty) H
def zHg(n:C4):R2:=λy x H Q=>∃a o,x=.ref a/\zEx H a y o/\Q (.bl<|if n then !o.isSome else o.isSome) H
def zEp(K:xFr)(n:C4):R2:=rOr (rIn K n)<|rOr (zJ1 n)<|zHg n
set_option tactic.hygienic true
def rl{W:Wd}{w:U}{n:C4}(o:RS B W S H)(r1:Rv B W v u1)(r2:Rv B W w u2)(h:inU S v w=some b)(q:Q (.bl<|if n then !b else b) H):zEp B.K n u1 u2 H Q:=by
 have l:∀i,sqU S w=some i->(if zAs v&&i.all zAs then some (zBc v i) else none)=some b->zEp B.K n u1 u2 H Q:=λi e h=>by
  split at h
  .next m=>
   rw[xCh] at m;cases h;let⟨p,J,rfl,sq,I⟩:=fB o r2 e;refine .inl ⟨p,J,rfl,sq,jg m.1 r1,jW m.2 I,?_⟩;rw[nL m.1 r1 m.2 I];exact q
  .cases h
 unfold inU at h;split at h
 .split at h
  .cases h;exact .inr<|.inl ⟨_,_,r1,r2,q⟩
  .cases h
 .next a=>
  split at h
  .next c e=>
   let⟨p,g,x,A,r,_⟩:=o.here e;let⟨M,G,d⟩:=r2;rw[x] at d;cases d;let⟨j,rfl,t⟩:=r;cases ek:zEs v with
   |none=>rw[ek] at h;cases h
   |some k=>
    rw[ek] at h;have hb:(zAu k c).isSome=b:=xB3 h;refine .inr<|.inr ⟨p,zCd j k,G,.inl ⟨j,k,.inl A,gj ek r1,rfl⟩,?_⟩;have:(zCd j k).isSome=b:=by
     let⟨E,D⟩:=fW (k:=k) t;rw[<- hb];cases z:zAu k c with
     |none=>rw[D z];rfl
     |some y=>let⟨L,F,_⟩:=E y z;rw[F];rfl
    rw[this];exact q
  .next c e=>
   let⟨p,g,x,A,r,_⟩:=o.here e;let⟨M,G,d⟩:=r2;rw[x] at d;cases d;let⟨j,rfl,t⟩:=r;cases ek:zGq v with
   |none=>rw[ek] at h;cases h
   |some k=>
    rw[ek] at h;have hb:(zAu k c).isSome=b:=xB3 h;let⟨N,rfl,C⟩:=mW o ek r1;refine .inr<|.inr ⟨p,zCd j k,G,.inr ⟨j,k,N,.inl A,rfl,C,rfl⟩,?_⟩;have:(zCd j k).isSome=b:=by
     let⟨E,D⟩:=fW (k:=k) t;rw[<- hb];cases z:zAu k c with
     |none=>rw[D z];rfl
     |some y=>let⟨L,F,_⟩:=E y z;rw[F];rfl
    rw[this];exact q
  .next i e=>exact l i (by show lsU S (.ref a)=_;unfold lsU;dsimp only;rw[e]) h
  .cases h
 .split at h
  .next i e=>exact l i e h
  .cases h
def Bu:Pr2 B up .inn<|zEp B.K false:=by
 intro W S H v w u1 u2 z S' Q a r1 r2 h q;change obB (inU S v w) id S=_ at h;unfold obB at h;split at h
 .next b e=>cases h;exact rl a r1 r2 e<|q.here a rfl
 .cases h
def zN:Pr2 B up .nin<|zEp B.K true:=by
 intro W S H v w u1 u2 z S' Q a r1 r2 h q;change obB (inU S v w) not S=_ at h;unfold obB at h;split at h
 .next b e=>cases h;exact rl a r1 r2 e<|q.here a rfl
 .cases h
set_option tactic.hygienic false
def xA(h:X.A.units+1<cLine):OpR X (compareOp .In)<|zHg false:=by
 intro Z s O H x y v u Q I d c ⟨a,o,e,g,q⟩;subst e;obtain rfl:u=Value.ref a:=c;exact BZ h I g d λi I3=>⟨.bl o.isSome,H,I3,rfl,q⟩
def uq(h:X.A.units+1<cLine):OpR X (compareOp .NotIn)<|zHg true:=by
 intro Z s O H x y v u Q I d c ⟨a,o,e,g,q⟩;subst e;obtain rfl:u=Value.ref a:=c;exact uZ h I g d λi I3=>⟨.bl (!o.isSome),H,I3,rfl,q⟩
def Bx(a:X.A.units+1<cLine):OpR X (compareOp .In)<|zEp X.K false:=OpR.or om<|OpR.or oj<|xA a
def Ae(a:X.A.units+1<cLine):OpR X (compareOp .NotIn)<|zEp X.K true:=OpR.or iR<|OpR.or iQ<|uq a
def zIr:R2:=λx y H Q=>∃a v,x=.ref a/\zEx H a y (some v)/\Q v H
def uN(k:X.A.units+1<cLine):IxR X zIr:=by
 intro c slice Z s O H x y v u Q I j i ⟨a,w,e,g,q⟩ hs;subst e;obtain rfl:v=Value.ref a:=j;have h:=j8 I g;unfold subscriptTail;erw[xAd];rw[getitemInPython_of_ne h.not_modules];refine xAd<|wpAny_specialOf h PySem.F.slot_dict_getitem.lookup ?_;have fin:wpAny (model X.prog X.w) X.A (subscripted slice false (.ref a) u) (λr s₃=>wpAny (model X.prog X.w) X.A (letTemporaryGo c (.ref a) r>>=λ_=>pure r) (EP X Z O Q) X.xe s₃) X.xe s:=by
  rw[hs];exact wpAny_operating<|oP k I g i λl m I3 d=>xAd<|wpAny_letTemporaryGo<|xAe ⟨w,H,I3,d,q⟩
 first
  |exact xAe (xAd fin)
  |exact xAd (xAe<|xAd fin)
  |exact xAd fin
def zIq(w:World)(K:xFr):R2:=λx y H Q=>∃a z v u,x=.ref a/\KD w K a/\y=.str z/\PySem.W.nsIn K a z=some (some u)/\zAh v u/\Q v H
def Ay:IxR X<|zIq X.w X.K:=by
 intro c slice Z s O H x y v u Q I j i ⟨a,z,w,uu,e,⟨es,n,hl,hk,lo⟩,e2,hn,rw',q⟩ hs;subst e e2;obtain rfl:v=Value.ref a:=j;let⟨t,rfl⟩:=i;have d:=PySem.W.mapOf_K (prog:=X.prog) (w:=X.w) (λb o e=>I.kIn b o e) hl hk;have h:=d.typeIs;unfold subscriptTail;erw[xAd];rw[getitemInPython_of_ne h.not_modules];refine xAd<|wpAny_specialOf h PySem.F.slot_dict_getitem.lookup ?_;have fin:wpAny (model X.prog X.w) X.A (subscripted slice false (.ref a)<|.str z t) (λr s₃=>wpAny (model X.prog X.w) X.A (letTemporaryGo c (.ref a) r>>=λ_=>pure r) (EP X Z O Q) X.xe s₃) X.xe s:=by
  rw[hs];exact wpAny_operating<|wpAny_getItem_of (strKind_is X.prog X.w z t) d (PySem.W.find_K hl hn)<|xAd<|wpAny_letTemporaryGo<|xAe ⟨w,H,I.tok _,rw',q⟩
 first
  |exact xAe (xAd fin)
  |exact xAd (xAe<|xAd fin)
  |exact xAd fin
def zFm(w:World)(K:xFr):R2:=λx y H Q=>(rIx K x y H Q\/zIr x y H Q)\/zIq w K x y H Q
def Bh(a:X.A.units+1<cLine):IxR X<|zFm X.w X.K:=(yf.or<|uN a).or Ay
end
end Fx
namespace Fx
open PySem PySem.Spec L2
open PyProof.Rows hiding St
variable{t':TS}{S:So}{O:Sg}{τ:St}{H:Hp}{r:R2}
structure FE(X:Cx)(B:Bs)(G:D7)(Ex:St->XK)(e:C0)(c:D4):Prop where
 p:PE X e (LE B G Ex c)
 m:zA0 G c
structure FA(X:Cx)(B:Bs)(G:D7)(Ex:St->XK)(es:B7 C0)(c:D8):Prop where
 p:PA X es (LA B G Ex c)
 m:zCl G c es.length
structure FT(X:Cx)(B:Bs)(G:D7)(Ex:St->XK)(e:C0)(c:TTx Prop):Prop where
 p:PT X e (LT B G Ex c)
 m:zBu G c
structure FS(X:Cx)(B:Bs)(G:D7)(Ex:St->XK)(s:Stmt)(c:D3):Prop where
 p:PS X s (LS B G Ex c)
 m:zB5 G c
structure FSs(X:Cx)(B:Bs)(G:D7)(Ex:St->XK)(s:B7 Stmt)(c:D3):Prop where
 p:PSs X s (LS B G Ex c)
 m:zB5 G c
section
variable{X:Cx}{e:C0}{es:B7 C0}{st:Stmt}{sts:B7 Stmt}
def wkE{t t':TE}(h:PE X e t)(w:∀O H Q,t' O H Q->t O H Q):PE X e t':=λZ s O H Q I q=>h Z s O H Q I<|w _ _ _ q
def wkA{t t':TA}(h:PA X es t)(w:∀O H Q,t' O H Q->t O H Q):PA X es t':=λpos Z s O H Q I q=>h pos Z s O H Q I<|w _ _ _ q
def wkT{t t':TT}(h:PT X e t)(w:∀O H Q,t' O H Q->t O H Q):PT X e t':=λZ s O H Q I q=>h Z s O H Q I<|w _ _ _ q
def wkS{t:TS}(h:PS X st t)(w:∀D O H,t' D O H->t D O H):PS X st t':=λZ s O H D I q=>h Z s O H D I<|w _ _ _ q
def zIe{t:TS}(h:PSs X sts t)(w:∀D O H,t' D O H->t D O H):PSs X sts t':=λZ s O H D I q=>h Z s O H D I<|w _ _ _ q
end
section
variable{B:Bs}{up:B7<|Str×Str}{G:D7}{Ex:St->XK}{τ:St}{H:Hp}{Q:VK}{W W':Wd}{c a b:D4}{as:D8}{n:Nat}{p:Pm}
def VL.inc{v:U}(le:W.Le W')(h:VL B W Q v S):VL B W' Q v S:=λW2 u H d=>h W2 u H<|le.trans d
def NL.inc{Q:St->Hp->Prop}{v:Sg}(le:W.Le W')(h:NL B W Q v S):NL B W' Q v S:=λW2 u H d=>h W2 u H<|le.trans d
theorem LEe.inc{D:zDs}(le:W.Le W'):zD2 (LEe B Ex W D)<|LEe B Ex W' D:=⟨λ_ _=>NL.inc le,λ_ _=>VL.inc le,λ_ _=>NL.inc le,λ_ _=>NL.inc le,λ_ _ _ h W2 τ C e H d=>h W2 τ C e H<|le.trans d⟩
def LE.go{k:D5}(m:zA0 G c)(j:RS B W S H)(e:Rg B W O τ)(h:c G O S (XL B W<|Ex τ) k)(l:∀v S' W' u H',W.Le W'->RS B W' S' H'->Rv B W' v u->Rg B W' O τ->k v S'->Q u H'):LE B G Ex c τ H Q:=
 ⟨W,O,S,j,e,m.m (λ_ _ h=>h) (λv S' o W' u H' le d i=>l v S' W' u H' le d i (e.mono le) o) h⟩
def LA.go{k:C6->So->Prop}{Q:B7 V->Hp->Prop}(m:zCl G as n)(j:RS B W S H)(e:Rg B W O τ)(h:as G O S (XL B W<|Ex τ) k)(o:∀v S' W' u H',v.length=n->W.Le W'->RS B W' S' H'->Rvs B W' v u->Rg B W' O τ->k v S'->Q u H'):LA B G Ex as τ H Q:=
 ⟨W,O,S,j,e,m.m (λ_ _ h=>h) (λv S' l q W' u H' le d i=>o v S' W' u H' l le d i (e.mono le) q) h⟩
def LT.go{t:TTx Prop}{k:C4->So->Prop}{Q:C4->Hp->Prop}(m:zBu G t)(i:RS B W S H)(e:Rg B W O τ)(h:t G O S (XL B W<|Ex τ) k)(j:∀v S' W' H',W.Le W'->RS B W' S' H'->Rg B W' O τ->k v S'->Q v H'):LT B G Ex t τ H Q:=
 ⟨W,O,S,i,e,m.m (λ_ _ h=>h) (λv S' l W' H' le d=>j v S' W' H' le d (e.mono le) l) h⟩
def XL.upf(le:W.Le W')(E:XK):∀e S,XL B W E e S->XL B W' E e S:=λ_ _=>XL.up le
def K1(B:Bs)(up:B7<|Str×Str)(p:Pm)(Q:VK):VK:=λu H=>∃W S v z S',RS B W S H/\Rv B W v u/\pr up p [v] S=.ok z S'/\VL B W Q z S'
def K2(B:Bs)(up:B7<|Str×Str)(p:Pm)(Q:VK):V->V->Hp->Prop:=λe d H=>∃W S v w z S',RS B W S H/\Rv B W v e/\Rv B W w d/\pr up p [v,w] S=.ok z S'/\VL B W Q z S'
def KN(B:Bs)(up:B7<|Str×Str)(p:Pm)(Q:VK):B7 V->Hp->Prop:=λus H=>∃W S d z S',RS B W S H/\Rvs B W d us/\pr up p d S=.ok z S'/\VL B W Q z S'
variable(g:zBv up G)
include g
theorem LE.p1(m:zA0 G a)(h:LE B G Ex (cP p<|aC a aN) τ H Q):LE B G Ex a τ H<|K1 B up p Q:=by
 let⟨W,O,S,j,l,h⟩:=h;refine LE.go m j l h λv S' W' u H' le d i k o=>?_;let⟨z,S2,e,q⟩:=g.pok o;exact⟨W',S',v,z,S2,d,i,e,q.inc le⟩
theorem LE.p2(D:zA0 G a)(o:zA0 G b)(h:LE B G Ex (cP p<|zAw a b) τ H Q):LE B G Ex a τ H λx H1=>LE B G Ex b τ H1 λy H2=>K2 B up p Q x y H2:=by
 let⟨W,O,S,A,C,h⟩:=h;erw[<-LE.go D A C h λv S' W' u H' le k t l F=>?_,<-LE.go o k l (o.m (XL.upf le _) (λ_ _ h=>h) F) λw S2 W2 I H2 d j i _ E=>?_];let⟨z,S3,e,q⟩:=g.pok E;exact⟨W2,S2,v,w,z,S3,j,t.mono d,i,e,q.inc<|le.trans d⟩
theorem LE.pn(m:zCl G as n)(h:LE B G Ex (cP p as) τ H Q):LA B G Ex as τ H<|KN B up p Q:=by
 let⟨W,O,S,j,l,h⟩:=h;refine LA.go m j l h λv S' W' u H' _ le d i k o=>?_;let⟨z,S2,e,q⟩:=g.pok o;exact⟨W',S',v,z,S2,d,i,e,q.inc le⟩
end
section
variable{B:Bs}{up:B7<|Str×Str}{G:D7}{Ex:St->XK}{c a b:D4}{as:D8}{t u:TTx Prop}
def LE.imp{Q Q':VK}(m:zA0 G c)(h:LE B G Ex c τ H Q)(j:∀u H,Q u H->Q' u H):LE B G Ex c τ H Q':=by
 let⟨W,O,S,d,i,h⟩:=h;exact⟨W,O,S,d,i,m.m (λ_ _ h=>h) (λv S h W' u H le d e=>j _ _<|h W' u H le d e) h⟩
def LA.imp{n:Nat}{Q Q':B7 V->Hp->Prop}(m:zCl G as n)(h:LA B G Ex as τ H Q)(j:∀u H,Q u H->Q' u H):LA B G Ex as τ H Q':=by
 let⟨W,O,S,d,i,h⟩:=h;exact⟨W,O,S,d,i,m.m (λ_ _ h=>h) (λv S _ h W' u H le d e=>j _ _<|h W' u H le d e) h⟩
variable{X:Cx}{e ea eb ec ed:C0}{es:B7 C0}{pos p1 p2:Pos}{x:Str}{i:Nat}{pm:Pm}(g:zBv up G)
include g
theorem f_v(p:X.N[i]?=some x)(n:Vis X.env.scope x)(o:(x==("__debug__":Str))=false)(d:(x==("__classdict__":Str))=false):FE X B G Ex (.Name x pos)<|cV i:=
 ⟨wkE (wZ p n o d) λτ H Q j=>by
  let⟨W,O,S,l,m,h⟩:=j;unfold cV at h;cases e:nth O i with
  |none=>rw[e] at h;exact(g.no h).elim
  |some v=>rw[e] at h;let⟨u,q,k⟩:=m.v i v e;exact⟨u,q,h W u H .refl l k⟩,mV g⟩
omit g in
theorem f_c{v:V}{u:U}(h:PE X e<|tC v)(r:∀W,Rv B W u v):FE X B G Ex e<|cC u:=⟨wkE h λτ H Q ⟨W,O,S,d,k,h⟩=>h W v H .refl d<|r W,⟨λl j h=>j _ _ h⟩⟩
theorem oJ{op:Operator}(l:OpR X (binaryOp op) r)(k:Pr2 B up pm r)(d:FE X B G Ex ea a)(hb:FE X B G Ex eb b):FE X B G Ex (.BinOp ea op eb pos)<|cP pm<|zAw a b:=
 ⟨wkE (zE l d.p hb.p) λτ H Q h=>(LE.p2 g d.m hb.m h).imp d.m λx H1 n=>n.imp hb.m λy H2 ⟨W,S,v,w,z,S',j,r1,r2,e,q⟩=>k j r1 r2 e q,mP g<|mAC g d.m<|mAC g hb.m<|mAN g⟩
theorem BJ{op:UnaryOp}{r:V->Hp->VK->Prop}(l:UnR X (unaryOp op) r)(k:Pr1 B up pm r)(d:FE X B G Ex ea a):FE X B G Ex (.UnaryOp op ea pos)<|cP pm<|aC a aN:=
 ⟨wkE (zC l d.p) λτ H Q h=>(LE.p1 g d.m h).imp d.m λx H1 ⟨W,S,v,z,S',j,r1,e,q⟩=>k j r1 e q,mP g<|mAC g d.m<|mAN g⟩
theorem BP(l:IxR X r)(n:Pr2 B up pm r)(d:FE X B G Ex ea a)(hb:FE X B G Ex eb b)(k:zCk eb):FE X B G Ex (.Subscript ea eb pos)<|cP pm<|zAw a b:=
 ⟨wkE (zF l d.p hb.p k) λτ H Q h=>(LE.p2 g d.m hb.m h).imp d.m λx H1 o=>o.imp hb.m λy H2 ⟨W,S,v,w,z,S',j,r1,r2,e,q⟩=>n j r1 r2 e q,mP g<|mAC g d.m<|mAC g hb.m<|mAN g⟩
theorem hX:FA X B G Ex [] aN:=⟨wkA eZ λτ H Q ⟨W,O,S,d,j,h⟩=>h W [] H .refl d rfl,mAN g⟩
theorem fo(y:FE X B G Ex e a)(j:FA X B G Ex es as)(q:zAa e=true):FA X B G Ex (e::es)<|aC a as:=
 ⟨wkA (jH y.p j.p q) λτ H Q ⟨W,O,S,C,D,h⟩=>LE.go y.m C D h λv S' W' u H' le n A o F =>
  LA.go j.m n o (j.m.m (XL.upf le _) (λ_ _ _ h=>h) F) λI S2 W2 us H2 _ d l k _ E=>E W2 (u::us) H2 (le.trans d) l ⟨u,us,rfl,A.mono d,k⟩,mAC g y.m j.m⟩
theorem AF{k:Nat}(l:FA X B G Ex es as)(y:es.length<=1000):FE X B G Ex (.Tuple es k pos)<|cT as:=
 ⟨wkE (w4 l.p) λτ H Q ⟨W,O,S,n,o,h⟩=>LA.go l.m n o h λC S' W' us H' v le j d _ A=>⟨by rw[d.length,v];exact small y,λp q=>VL.tup (VL.inc le A) j d q⟩,mT g l.m⟩
theorem AK{m:C4}(d:FA X B G Ex es as):FE X B G Ex (.List es pos)<|cP (.lst m) as:=
 ⟨wkE (xb d.p) λτ H Q h=>(LE.pn g d.m h).imp d.m λus H1 l=>by
  let⟨W,S,j,z,S',n,k,e,q⟩:=l;let⟨v,e⟩:=db<|show fits j.length (mkL m j S)=_ from e;exact⟨by rw[k.length];exact v,λp o=>fE e q n k o⟩,mP g d.m⟩
theorem AR{op:CmpOp}(F:OpR X (compareOp op) r)(E:Pr2 B up pm r)(K:∀v w S z S',pr up pm [v,w] S=.ok z S'->∃c,z=.bl c)(d:FE X B G Ex ea a)(hb:FE X B G Ex eb b)(I:behindInMarks op eb=false):FT X B G Ex (.Compare ea [op] [eb] pos)<|tB<|cP pm<|zAw a b:=by
 have o:=mP g (p:=pm)<|mAC g d.m<|mAC g hb.m<|mAN g;refine⟨wkT (lV F d.p hb.p I) λτ H Q h=>?_,mB g o⟩;have j:LE B G Ex (cP pm<|zAw a b) τ H λx H'=>∃k,x=.bl k/\Q k H':=by
  let⟨W,O,S,n,D,h⟩:=h;refine LE.go o n D h λv S' W' u H' le l A C j=>?_;cases v <;> first|(exact(g.no j).elim)|exact⟨_,A,j W' H' le l⟩
 exact(LE.p2 g d.m hb.m j).imp d.m λx H1 J=>J.imp hb.m λy H2 ⟨W,S,v,w,z,S',n,r1,r2,e,q⟩=>E n r1 r2 e q
theorem vV(h:FE X B G Ex e c)(y:∀d,isTrue e X.env d=(do let v <- d;standAt e.pos;holding [v] (truthy v))):FT X B G Ex e<|tB c:=
 ⟨wkT (wG h.p y) λτ H Q ⟨W,O,S,n,q,A⟩=>LE.go h.m n q A λv S' W' u H' le j l o k=>by
  cases v <;> first|(exact(g.no k).elim)|exact⟨_,l,k W' H' le j⟩,mB g h.m⟩
theorem BN(h:FT X B G Ex ea t):FT X B G Ex (.UnaryOp .Not ea pos)<|tNt t:=
 ⟨wkT (wH h.p) λτ H Q ⟨W,O,S,j,l,n⟩=>LT.go h.m j l n λv S' W' H' le d k o=>o W' H' le d,mNt g h.m⟩
end
end Fx
namespace L2
open PySem PySem.Spec PyProof.Rows PySem.Builtin PySem.Builtin.ObjectAttr
noncomputable abbrev Cx.lp(X:Cx):Cx:=X.wish<|notedBy (model X.prog X.w) X.A X.env<|cameBackBy (model X.prog X.w) X.A X.env X.xe
section
variable{X:Cx}{pos:Pos}
theorem nV{c:C0}{a:B7 Stmt}{m:TT}{tb:TS}(x:PT X.lp c m)(hb:PSs X.lp a tb):PS X (.While c a [] pos)<|zE3 m tb:=by
 intro Z s O H D I h;let⟨W,⟨t,p⟩,turn⟩:=h;refine wpAny_While<|codeAny_whileLoop (λn r=>∃O' H',Inv X Z O' H' r/\W n O' H') ?_ t ⟨O,H,I,p⟩;rintro n s1 ⟨σ1,H1,I1,w1⟩
 refine thn (x Z s1 σ1 H1 _ (I1.wish _)<|turn n σ1 H1 w1) λb q ⟨H2,I2,e⟩=>?_;cases b with
 |true=>
  let⟨N,o,e⟩:=e;rw[xCg rfl];refine thn (hb Z q σ1 H2 _ I2 e) λf y d=>?_;cases f with
  |next=>
   let⟨σ3,H3,I3,j⟩:=d;let⟨k,l,i⟩:=o σ3 H3 j;exact⟨k,l,σ3,H3,I3.unwish,i⟩
  |cont=>
   let⟨σ3,H3,I3,j⟩:=d;let⟨k,l,i⟩:=o σ3 H3 j;exact⟨k,l,σ3,H3,I3.unwish,i⟩
  |brk=>exact SP.unwish (f:=.next) d
  |ret v=>exact SP.unwish (f:=.ret v) d
 |false=>
  rw[xCf xAy];exact wpAny_execs_nil ⟨σ1,H2,I2.unwish,e⟩
def lW{A iter:C0}{k:B7 Stmt}{wi:TI}{g:TG}{tb:TS}(K:X.calm=true)(hi:PI X A iter wi)(hg:PG X.lp A g)(hb:PSs X.lp k tb)(hs:∀x,foldedSetIterable iter X.env x=pure x):PS X (.For A iter k [] pos)<|zJs wi g tb:=by
 intro Z s O H D I h;refine wpAny_For (thn (hi Z s O H _ I h) λv s1 h1=>thn h1 λitv s2 h2=>?_) hs;let⟨it,t,tn,m0J,H2,e,I2,T,B,L,W,⟨m0,R⟩,turn⟩:=h2;subst e;have a:∀{H':Hp},(∀b∈t,H' b=none)->∀b∈t,zC1 X Z H' b:=λhn b hb=>⟨hn b hb,(L b hb).2⟩
 refine codeAny_forLoop_any (λn J=>∃i O' H',Inv X Z O' H' J/\tn i J.heap/\(∀b∈t,H' b=none)/\W i n O' H') ?_ m0 ⟨0,O,H2,I2,B,λb hb=>(L b hb).1,R⟩;rintro n s3 ⟨i,σ3,H3,I3,st3,fr3,w3⟩
 rcases turn i n σ3 H3 w3 with ⟨p,qn⟩|⟨go,N,hN,step⟩
 .refine thn (T.done X rfl rfl rfl K i Z s3 σ3 H3 _ I3 (a fr3) st3 p) λr Y ⟨E,I4⟩=>?_;subst E;exact wpAny_execs_nil ⟨σ3,H3,I4,qn⟩
 .refine thn (T.item X rfl rfl rfl K i Z s3 σ3 H3 _ I3 (a fr3) st3 go) λr Y ⟨u,E,h4⟩=>?_;subst E;refine thn h4 λ_ G y=>?_;let⟨x,H5,I5,r5,M,l,F⟩:=y;have I5':=I5.pinned (a F)<|T.obj _ _ l;refine thn (hg _ G σ3 H5 x u _ (I5'.wish _) r5<|step x H5 M) λ_ S y=>?_;let⟨σ6,H6,I6,q6⟩:=y;refine thn (hb _ S σ6 H6 _ I6 q6) λf C j=>?_;have c:∀{σ7:St}{H7:Hp},Inv X (Z++zB9 t G.heap) σ7 H7 C->N σ7 H7->∃m,m<n/\∃i O' H',Inv X Z O' H' C/\tn i C.heap/\(∀b∈t,H' b=none)/\W i m O' H':=λ{σ7 H7} I7 q=>by
   let⟨m',hm,Q⟩:=hN σ7 H7 q;refine⟨m',hm,i+1,σ7,H7,I7.unpinned,T.keep _ _ _ l λb hb o e=>(I7.pin (b,o)<|xBt _<|xBt _<|dQ hb e).1,λb hb=>?_,Q⟩;let⟨o,e,d⟩:=T.obj _ _ l b hb;exact(I7.pin (b,o)<|xBt _<|xBt _<|dQ hb e).2.1
  cases f with
  |next=>let⟨σ7,H7,I7,q⟩:=j;exact c I7.unwish q
  |cont=>let⟨σ7,H7,I7,q⟩:=j;exact c I7.unwish q
  |brk=>let⟨σ7,H7,I7,j⟩:=j;exact⟨σ7,H7,I7.unwish.unpinned,j⟩
  |ret v=>let⟨P,σ7,H7,I7,r7,j⟩:=j;exact⟨P,σ7,H7,I7.unwish.unpinned,r7,j⟩
end
def CXz(_:Program)(_:World):CXT:=λ_ _ _ _ _ _=>False
structure zGk(X:Cx)(Ex:St->XK):Prop where
 pass:zAi (CXz X.prog X.w) X Ex
def catz{X:Cx}{Ex:St->XK}:zGk X Ex:=⟨λ_ _ _ _ _ _ _ h=>h.elim⟩
end L2
namespace Fx
open PySem PySem.Spec L2
open PyProof.Rows hiding St
variable{op op':CmpOp}{p q:Pm}{r':R2}{v:U}{k np:Nat}{f' c':C3}{fd:FuncData}{ps ks:C5}{ds:D0}{dvs:B7 V}{dus:C6}{kx:B7<|B8 C0}{kvs:B7<|Str×U}
structure FW(X:Cx)(B:Bs)(G:D7)(Ex:St->XK)(e:C0)(c:TTx Prop):Prop where
 p:PW X e (LT B G Ex c)
 m:zBu G c
def spF(B:Bs)(G:D7)(i np:Nat):Sp:=λa H Q E=>a.length=np/\∃W us S,RS B W S H/\Rvs B W us a/\G.call i us S (XL B W E) (VL B W Q)
section
variable{B:Bs}{up:B7<|Str×Str}{G:D7}{Ex:St->XK}{c a b d:D4}{as:D8}{t u:TTx Prop}
variable{X:Cx}{e ea eb ec ed:C0}{es rest:B7 C0}{pos p1 p2 apos:Pos}{x m:Str}{i:Nat}{pm:Pm}(g:zBv up G)
def wkW{t t':TT}(h:PW X e t)(w:∀O H Q,t' O H Q->t O H Q):PW X e t':=λj Z s O H Q I q=>h j Z s O H Q I<|w _ _ _ q
omit g in
def AE(h:FT X B G Ex ea t):FW X B G Ex (.BoolOp .And [ea] pos) t:=⟨tF h.p,h.m⟩
def AD(h:FT X B G Ex ea t):FW X B G Ex (.BoolOp .Or [ea] pos) t:=⟨wD h.p,h.m⟩
def FW.ft(h:FW X B G Ex e t):FT X B G Ex e t:=⟨h.p.pt,h.m⟩
include g
theorem BI(h:FT X B G Ex ea t)(l:FW X B G Ex (.BoolOp .And (eb::rest) pos) u):FW X B G Ex (.BoolOp .And (ea::eb::rest) pos)<|tAn t u:=
 ⟨wkW (wE h.p l.p) λτ H Q ⟨W,O,S,A,C,D⟩=>LT.go h.m A C D λv S' W' H' le j r n=>by
  have n:=g.bk n;cases v with
  |true=>exact LT.go l.m j r (l.m.m (XL.upf le _) (λ_ _ h=>h) n) λw S2 W2 H2 y o _ E=>E W2 H2 (le.trans y) o
  |false=>exact n W' H' le j,mAn g h.m l.m⟩
theorem BH(h:FT X B G Ex ea t)(l:FW X B G Ex (.BoolOp .Or (eb::rest) pos) u):FW X B G Ex (.BoolOp .Or (ea::eb::rest) pos)<|tOr' t u:=
 ⟨wkW (zu h.p l.p) λτ H Q ⟨W,O,S,A,C,D⟩=>LT.go h.m A C D λv S' W' H' le j r n=>by
  have n:=g.bk n;cases v with
  |false=>exact LT.go l.m j r (l.m.m (XL.upf le _) (λ_ _ h=>h) n) λw S2 W2 H2 y o _ E=>E W2 H2 (le.trans y) o
  |true=>exact n W' H' le j,mOr g h.m l.m⟩
theorem uX(h:FE X B G Ex e c):FE X B G Ex e<|cB<|tB c:=
 ⟨wkE h.p λτ H Q ⟨W,O,S,o,y,A⟩=>LE.go h.m o y A λv S' W' u H' le j n r l=>by
  cases v <;> first|(exact(g.no l).elim)|exact l W' u H' le j n,mCB g<|mB g h.m⟩
theorem yA{r:R2}(o:OpR X (compareOp op) r)(n:Pr2 B up pm r)(j:FE X B G Ex ea a)(hb:FE X B G Ex eb b)(A:behindInMarks op eb=false):FE X B G Ex (.Compare ea [op] [eb] pos)<|cP pm<|zAw a b:=
 ⟨wkE (mj o j.p hb.p A) λτ H Q h=>(LE.p2 g j.m hb.m h).imp j.m λx H1 C=>C.imp hb.m λy H2 ⟨W,S,v,w,z,S',l,r1,r2,e,q⟩=>n l r1 r2 e q,mP g<|mAC g j.m<|mAC g hb.m<|mAN g⟩
theorem rN(h:FE X B G Ex ea<|cB t)(l:zBu G t):FE X B G Ex (.UnaryOp .Not ea pos)<|cB<|tNt t:=
 ⟨wkE (w6 h.p) λτ H Q ⟨W,O,S,o,r,y⟩=>⟨W,O,S,o,r,l.m (λ_ _ h=>h) (λv S' A W' u H' le j n=>⟨v,n,A W' (.bl (!v)) H' le j rfl⟩) y⟩,mCB g<|mNt g l⟩
theorem yC(h:FE X B G Ex ea<|cB t)(D:zBu G t)(K:FE X B G Ex (.BoolOp .And (eb::rest) pos)<|cB u)(C:zBu G u):FE X B G Ex (.BoolOp .And (ea::eb::rest) pos)<|cB<|tAn t u:=
 ⟨wkE (xh h.p K.p) λτ H Q ⟨W,O,S,F,A,I⟩=>⟨W,O,S,F,A,D.m (λ_ _ h=>h) (λv S' l W' w H' le j E=>⟨v,E,by
  have l:=g.bk l;cases v with
  |true=>exact⟨W',O,S',j,A.mono le,C.m (XL.upf le _) (λz S2 J W2 y H2 r o n=>J W2 y H2 (le.trans r) o n) l⟩
  |false=>exact l W' _ H' le j rfl⟩) I⟩,mCB g<|mAn g D C⟩
theorem AJ(h:FE X B G Ex ea<|cB t)(D:zBu G t)(K:FE X B G Ex (.BoolOp .Or (eb::rest) pos)<|cB u)(C:zBu G u):FE X B G Ex (.BoolOp .Or (ea::eb::rest) pos)<|cB<|tOr' t u:=
 ⟨wkE (zD h.p K.p) λτ H Q ⟨W,O,S,F,A,I⟩=>⟨W,O,S,F,A,D.m (λ_ _ h=>h) (λv S' l W' w H' le j E=>⟨v,E,by
  have l:=g.bk l;cases v with
  |false=>exact⟨W',O,S',j,A.mono le,C.m (XL.upf le _) (λz S2 J W2 y H2 r o n=>J W2 y H2 (le.trans r) o n) l⟩
  |true=>exact l W' _ H' le j rfl⟩) I⟩,mCB g<|mOr g D C⟩
omit g in
theorem vY{op:BoolOp}(h:FE X B G Ex ea c):FE X B G Ex (.BoolOp op [ea] pos) c:=⟨w5 h.p,h.m⟩
theorem BQ(h:FT X B G Ex ec t)(y:FE X B G Ex ea a)(hb:FE X B G Ex eb b):FE X B G Ex (.IfExp ec ea eb pos)<|cIf t a b:=
 ⟨wkE (qo h.p y.p hb.p) λτ H Q ⟨W,O,S,E,F,I⟩=>LT.go h.m E F I λv S' W' H' le o r A=>by
  have A:=g.bk A;cases v with
  |true=>exact LE.go y.m o r (y.m.m (XL.upf le _) (λ_ _ h=>h) A) λw S2 W2 C H2 n l j _ D=>D W2 C H2 (le.trans n) l j
  |false=>exact LE.go hb.m o r (hb.m.m (XL.upf le _) (λ_ _ h=>h) A) λw S2 W2 C H2 n l j _ D=>D W2 C H2 (le.trans n) l j,mIf g h.m y.m hb.m⟩
theorem nH{r:R2}(hp:Pr2 B up p r)(hq:Pr2 B up q r')(ma:zA0 G a)(T:zA0 G b)(R:zA0 G c){τ:St}{H:Hp}{Q:C4->Hp->Prop}(h:LT B G Ex (tCh p q a b c) τ H Q) :
  zC3 r r' (LE B G Ex a) (LE B G Ex b) (LE B G Ex c) τ H (λx H'=>∃k,x=V.bl k/\Q k H'):=by
 let⟨W,O,S,Z,rg,hh⟩:=h;erw[<-LE.go ma Z rg hh λv S1 W1 u1 H1 j K E M h1=>?_,<-LE.go T K M (T.m (XL.upf j _) (λ_ _ h=>h) h1) λw S2 W2 u2 H2 le2 J n L h2=>?_];let⟨z,S3,e,l⟩:=g.pok h2;refine hp J (E.mono le2) n e λW3 u3 H3 le3 o D=>?_;cases z <;> first|(exact(g.no l).elim)|skip
 refine⟨_,D,?_⟩;have l:=g.bk l;split
 .next hb=>
  rw[xCg hb] at l;refine LE.go R o ((L.mono le3)) (R.m (XL.upf (j.trans<|le2.trans le3) _) (λ_ _ h=>h) l) λy S4 W4 u4 H4 le4 I C _ h4=>?_;let⟨Y,S5,e2,P⟩:=g.pok h4;refine hq I ((n.mono le3).mono le4) C e2 λW5 u5 H5 N F A=>?_;cases Y <;> first|(exact(g.no P).elim)|exact⟨_,A,P W5 H5 (j.trans<|le2.trans<|le3.trans<|le4.trans N) F⟩
 .next hb=>
  rw[xCf hb] at l;exact⟨false,rfl,l W3 H3 (j.trans<|le2.trans le3) o⟩
theorem BV{r:R2}(A:OpR X (compareOp op) r)(j:OpR X (compareOp op') r')(y:Pr2 B up p r)(o:Pr2 B up q r')(n:FE X B G Ex ea a)(hb:FE X B G Ex eb b)(l:FE X B G Ex ec c)(C:lastMarks [op,op'] [eb,ec]=false):FT X B G Ex (.Compare ea [op,op'] [eb,ec] pos)<|tCh p q a b c:=
 ⟨wkT (pU A j n.p hb.p l.p C) λτ H Q h=>nH g y o n.m hb.m l.m h,mCh g n.m hb.m l.m⟩
theorem AS{r:R2}(R:OpR X (compareOp op) r)(D:OpR X (compareOp op') r')(P:Pr2 B up p r)(N:Pr2 B up q r')(l:FE X B G Ex ea a)(hb:FE X B G Ex eb b)(j:FE X B G Ex ec c)(T:lastMarks [op,op'] [eb,ec]=false)(hi:∀x y H Q,r x y H Q->r x y H Q)(L:∀{x y H}{Q Q':VK},(∀v H,Q v H->Q' v H)->r x y H Q->r x y H Q')(C:∀{x y H}{Q Q':VK},(∀v H,Q v H->Q' v H)->r' x y H Q->r' x y H Q'):FE X B G Ex (.Compare ea [op,op'] [eb,ec] pos)<|cB<|tCh p q a b c:=
 ⟨wkE (qt R D l.p hb.p j.p T) λτ H Q I=>by
  let⟨W,O,S,J,K,Y⟩:=I;have h0:LT B G Ex (tCh p q a b c) τ H λk H'=>Q (.bl k) H':=⟨W,O,S,J,K,(mCh g l.m hb.m j.m).m (λ_ _ h=>h) (λv S' h' W' H' le o=>h' W' (.bl v) H' le o rfl) Y⟩
  have h1:=nH g P N l.m hb.m j.m h0;refine LE.imp l.m h1 λx H1 h2=>LE.imp hb.m h2 λy H2 h3=>L (λz H3 ⟨k,e,n⟩=>⟨k,e,?_⟩) h3;split
  .next E=>rw[xCg E] at n;exact LE.imp j.m n λw H4 Z=>C (λz5 H5 ⟨M,F,A⟩=>by rw[F];exact A) Z
  .next E=>rw[xCf E] at n;let⟨M,F,A⟩:=n;cases F;exact A,mCB g<|mCh g l.m hb.m j.m⟩
variable{k:Nat}{f:C3}{fd:FuncData}{ps:C5}{np:Nat}{ds:D0}{dvs:B7 V}{dus:C6}
theorem yB(F:zBb X.prog X.w X.K X.mg X.base (CXz X.prog X.w) k f fd ps<|spF B G i np)(J:zBe k X.A)(N:Gl X x)(L:X.mg x=some (.ref f))(M:PySem.W.keepIn X.K (.ref f)=true)(hb:zAy X.K fd ps ds)(P:zAg dvs ds)(hdu:∀W,Rvs B W dus dvs)(I:zAi (CXz X.prog X.w) X Ex)(n:(x==("__debug__":Str))=false)(y:FA X B G Ex es as)(Z:es=[]->as=aN)(T:es.length+dus.length=np)(l:es.all zAa=true):FE X B G Ex (.Call (.Name x p1) es [] pos)<|cF i as dus:=by
 refine⟨?_,mF g y.m⟩;have j:∀τ H Q,LE B G Ex (cF i as dus) τ H Q->zC4 (spF B G i np) dvs Ex (LA B G Ex as) τ H Q:=λτ H Q ⟨W,O,S,r,E,C⟩=>LA.go y.m r E C λv S' W' u H' Y le o D R h'=>
  ⟨by rw[xAb,D.length,(hdu W').length,Y];exact T,W',v++dus,S',o,D.app<|hdu W',g.call (XL.upf le _) (λ_ _=>VL.inc le) h'⟩
 cases es with
 |nil=>
  rw[Z rfl] at j⊢;refine wkE (oi F J N L M hb P I n) λτ H Q h=>?_;let⟨W,O,S,r,E,C⟩:=j τ H Q h;exact C W [] H .refl r rfl
 |cons e es=>
  rw[xCj,xCh] at l;exact wkE (qu F J N L M hb P I y.p n (bx l.1)<|dF l.2) j
end
section
variable{B:Bs}{up:B7<|Str×Str}
def Rvs.inv1{W:Wd}{us:B7 V}(r:Rvs B W [v] us):∃u,us=[u]/\Rv B W v u:=by let⟨u,t,rfl,h,a⟩:=r;rw[show t=[] from a];exact⟨u,rfl,h⟩
def Rvs.inv2{W:Wd}{w:U}{us:B7 V}(r:Rvs B W [v,w] us):∃b a,us=[b,a]/\Rv B W v b/\Rv B W w a:=by
 let⟨u,t,rfl,h,d⟩:=r;let⟨a,rfl,c⟩:=Rvs.inv1 d;exact⟨u,a,rfl,h,c⟩
set_option tactic.hygienic true
def Bt{r:World}(M:∀{W:Wd}{p:C3}{kvs:B7<|Str×U}{no:C5}{x:Str}{v:U}{H:Hp}{Q:VK},B.kd p kvs no->zAv x kvs=some v->(∀u,Rv B W v u->Q u H)->zFm r B.K (.ref p) (.str x) H Q):Pr2 B up .ix<|zFm r B.K:=by
 intro W S H v w D C z S' Q d r1 r2 h q;change ixU v w S=_ at h;have j:∀b,sqU S v=some b->(match w with
   |.int i=>opt (atI b i) S
   |_=>Res.stuck)=.ok z S'->zFm r B.K D C H Q:=λb e h=>by
  split at h
  .unfold opt at h;split at h
   .next i A m=>
    cases h;let⟨p,t,rfl,sq,F⟩:=fB d r1 e;let⟨y,o,n⟩:=y3 F m;rcases sq with sq|sq
    .exact .inl<|.inl<|.inl ⟨p,t,_,y,rfl,r2,sq,o,q.here d n⟩
    .exact .inl<|.inl<|.inr<|.inl ⟨p,t,_,y,rfl,r2,sq,o,q.here d n⟩
   .cases h
  .cases h
 unfold ixU at h;split at h
 .next kvs=>
  split at h
  .next x=>
   unfold opt at h;split at h
   .next A e=>
    cases h;let⟨p,rfl,O⟩:=r1;rw[show C=.str x from r2];exact M (W:=W) O e λu E=>q.here d E
   .cases h
  .cases h
 .split at h
  .split at h
   .next T i c e=>
    let⟨L,m⟩:=db h;cases m;exact .inl<|.inl<|.inr<|.inr ⟨_,_,_,r1,r2,L,e,q.here d rfl⟩
   .cases h
  .cases h
 .next p=>
  split at h
  .next kvs e=>
   split at h
   .next k R=>
    unfold opt at h;split at h
    .next A o=>
     cases h;let⟨a,g,J,N,G,_⟩:=d.here e;let⟨X,m,l⟩:=r1;rw[J] at l;cases l;let⟨ks,rfl,I⟩:=G;let⟨y,P,n⟩:=(fW (k:=k) I).1 _ o;exact .inl<|.inr ⟨a,y,m,.inl ⟨ks,k,.inl N,gj R r2,P.symm⟩,q.here d n⟩
    .cases h
   .cases h
  .next b e=>exact j b (by show lsU S (.ref p)=_;unfold lsU;dsimp only;rw[e]) h
  .cases h
 .split at h
  .next b e=>exact j b e h
  .cases h
set_option tactic.hygienic false
def zEh(K:xFr):B7 V->Hp->VK->Prop:=λa H Q=>zI8 K a H Q\/zGf a H Q
def zt{X:Cx}:zAl X (.builtin "len")<|zEh X.K:=zAl.or yL vc
set_option tactic.hygienic true
theorem zU:PrN B up .len<|zEh B.K:=by
 intro W S H m us z S' Q d n h q;cases m with
 |nil=>cases h
 |cons v t=>cases t with
  |cons _ _=>cases h
  |nil=>
   let⟨u,rfl,r1⟩:=n.inv1;change zEb v S=_ at h;have c:∀b,sqU S v=some b->z=.int b.length->S'=S->zEh B.K [u] H Q:=λb e y A=>by
    subst y A;let⟨p,l,rfl,sq,o⟩:=fB d r1 e;have:=q.here d (u:=.int b.length) rfl;rw[<- o.length] at this;rcases sq with sq|sq
    .exact .inl ⟨_,_,rfl,.inl ⟨l,sq,rfl⟩,this⟩
    .exact .inl ⟨_,_,rfl,.inr ⟨l,sq,rfl⟩,this⟩
   unfold zEb at h;split at h
   .let⟨D,j⟩:=db h;cases j;rw[show u=.str _ from r1];exact .inl ⟨_,_,rfl,⟨D,rfl⟩,q.here d rfl⟩
   .next p=>
    split at h
    .next b e=>cases h;exact c b (by show lsU S (.ref p)=_;unfold lsU;dsimp only;rw[e]) rfl rfl
    .next kvs e=>
     cases h;let⟨a,g,C,E,r,_⟩:=d.here e;let⟨F,j,i⟩:=r1;rw[C] at i;cases i;let⟨ks,rfl,x⟩:=r;have:=q.here d (u:=.int kvs.length) rfl;rw[<- x.length] at this;subst j;exact .inr ⟨a,ks,rfl,E,this⟩
    .cases h
   .split at h
    .next b e=>cases h;exact c b e rfl rfl
    .cases h
set_option tactic.hygienic false
theorem vs1{vs:C6}{S:So}{z:U}{S':So}(h:pr up p vs S=.ok z S')(d:pr up p [] S=.stuck)(c:∀a b r,pr up p (a::b::r) S=.stuck):∃v,vs=[v]:=by
 cases vs with
 |nil=>rw[d] at h;cases h
 |cons v t=>cases t with
  |nil=>exact⟨v,rfl⟩
  |cons _ _=>rw[c] at h;cases h
def Aa:PrN B up .abs λxs H Q=>∃i,xs=[.int i]/\Q (.int<|if i<0 then -i else i) H:=by
 intro W S H e us z S' Q d c h q;let⟨v,rfl⟩:=vs1 h rfl λa b r=>by cases a <;> rfl
 let⟨u,rfl,r1⟩:=c.inv1;cases v <;> first|(cases h;done)|(cases h;exact⟨_,by rw[show u=_ from r1],q.here d rfl⟩)
def zS:PrN B up .max λxs H Q=>∃i j,xs=[.int i,.int j]/\Q (.int<|if j>i then j else i) H:=by
 intro W S H e us z S' Q d c h q;let⟨i,j,rfl,rfl,rfl⟩:=nc (f:=λi j=>.int<|if j>i then j else i) h;let⟨b,a,rfl,r1,r2⟩:=c.inv2;exact⟨i,j,by rw[show b=_ from r1,show a=_ from r2],q.here d rfl⟩
def zR:PrN B up .min λxs H Q=>∃i j,xs=[.int i,.int j]/\Q (.int<|if j<i then j else i) H:=by
 intro W S H e us z S' Q d c h q;let⟨i,j,rfl,rfl,rfl⟩:=nc (f:=λi j=>.int<|if j<i then j else i) h;let⟨b,a,rfl,r1,r2⟩:=c.inv2;exact⟨i,j,by rw[show b=_ from r1,show a=_ from r2],q.here d rfl⟩
def xn:PrN B up .int1 zGg:=by
 intro W S H e us z S' Q c d h q;let⟨v,rfl⟩:=vs1 h rfl λa b r=>by cases a <;> rfl
 let⟨u,rfl,r1⟩:=d.inv1;cases v <;> first|(cases h;done)|(cases h;rw[show u=_ from r1];first|exact .inl ⟨_,rfl,q.here c rfl⟩|exact .inr ⟨_,rfl,q.here c rfl⟩)
set_option tactic.hygienic true
def uj:PrN B up .tupOf<|zDy B.K:=by
 intro W S H n us z S' Q rs i h q;let⟨v,rfl⟩:=vs1 h rfl λa b r=>by cases a <;> rfl
 let⟨u,rfl,r1⟩:=i.inv1;change zA1 v S=_ at h;unfold zA1 at h;split at h
 .cases h;let⟨p,c,rfl,f,d⟩:=r1;exact⟨p,c,rfl,.inr ⟨.of<|rs.fz _ _ f,q.here rs ⟨p,c,rfl,f,d⟩⟩⟩
 .split at h
  .next m e=>
   cases h;let⟨p,c,rfl,sq,d⟩:=gK rs r1 e;exact⟨p,c,rfl,.inl ⟨sq,λl j=>q.tup rs d j⟩⟩
  .cases h
def uk{m:C4}:PrN B up (.lstOf m)<|zGe B.K:=by
 intro W S H t us z S' Q c i h q;let⟨v,rfl⟩:=vs1 h rfl λa b r=>by cases a <;> rfl
 let⟨u,rfl,r1⟩:=i.inv1;delta pr at h;dsimp only at h;split at h
 .next o e=>
  let⟨p,d,rfl,sq,j⟩:=fB c r1 e;exact⟨p,d,rfl,sq,λl n=>fE h q c j n⟩
 .cases h
def ul:PrN B up .dctOf zDz:=by
 intro W S H C us z S' Q i j h q;let⟨v,rfl⟩:=vs1 h rfl λa b r=>by cases a <;> rfl
 let⟨u,rfl,r1⟩:=j.inv1;cases v <;> try (cases h;done)
 delta pr at h;dsimp only at h;split at h
 .next kvs e=>
  cases h;let⟨a,g,t,x,l,_⟩:=i.here e;let⟨D,A,c⟩:=r1;rw[t] at c;cases c;let⟨ks,rfl,m⟩:=l;refine⟨a,ks,by rw[A],.inl x,λp n=>?_⟩;have le:W.Le {W with μ:=W.μ++[p]}:=⟨λ_ _ h=>h,λ_ _ h=>cY h,rfl⟩
  let⟨_,d,y⟩:=i.push (o:=.dct kvs) (h:=.dK ks) n ⟨ks,rfl,m.mono le⟩;exact q _ _ _ le d ⟨p,rfl,y⟩
 .cases h
set_option tactic.hygienic false
theorem sB{W:Wd}:∀{vs:C6}{us:B7 V}{bs:B7 C4},blL vs=some bs->Rvs B W vs us->us=bs.map V.bl
 |[],_,_,h,r=>by cases h;exact r
 |x::t,_,_,h,r=>by
  let⟨u,s,rfl,b,a⟩:=r;cases x <;> try (cases h;done)
  simp only[blL] at h;cases e:blL t with
  |none=>rw[e] at h;cases h
  |some bs=>
   rw[e] at h;cases h;rw[sB e a,show u=_ from b];rfl
theorem zBf{W:Wd}:∀{vs:C6}{us:B7 V}{bs:C5},zCx vs=some bs->Rvs B W vs us->us=bs.map V.str
 |[],_,_,h,r=>by cases h;exact r
 |x::t,_,_,h,r=>by
  let⟨u,s,rfl,b,a⟩:=r;cases x <;> try (cases h;done)
  simp only[zCx] at h;cases e:zCx t with
  |none=>rw[e] at h;cases h
  |some bs=>
   rw[e] at h;cases h;rw[zBf e a,show u=_ from b];rfl
set_option tactic.hygienic true
def z0:PrN B up .all<|zI9 B.K:=by
 intro W S H l us z S' Q c d h q;let⟨v,rfl⟩:=vs1 h rfl λa b r=>by cases a <;> rfl
 let⟨u,rfl,r1⟩:=d.inv1;cases v <;> try (cases h;done)
 delta pr at h;dsimp only at h;split at h
 .next bs e=>
  cases h;let⟨p,j,rfl,f,i⟩:=r1;refine⟨p,bs,rfl,.of (by rw[<- sB e i];exact c.fz _ _ f),λb hb=>?_⟩;subst hb;exact q.here c rfl
 .cases h
set_option tactic.hygienic false
end
section
variable{B:Bs}{up:B7<|Str×Str}{G:D7}{Ex:St->XK}{c a b d:D4}{as:D8}
variable{X:Cx}{e ea eb:C0}{es:B7 C0}{pos p1 p2 apos:Pos}{x:Str}{id T:String}{pm:Pm}{r:B7 V->Hp->VK->Prop}(g:zBv up G)
include g
theorem oK(D:zAl X (.builtin id) r)(t:PrN B up pm r)(C:Gl X x)(A:X.mg x=none)(o:bootBuiltins x=some (.builtin id))(i:FA X B G Ex (e::es) as)(h:(e::es).all zAa=true)(y:x≠"__name__")(j:(x==("__debug__":Str))=false):FE X B G Ex (.Call (.Name x p1) (e::es) [] pos)<|cP pm as:=
 ⟨wkE (mn D C A o i.p h y j) λτ H Q h=>(LE.pn g i.m h).imp i.m λus H1 ⟨W,S,E,z,S',n,l,e,q⟩=>t n l e q,mP g i.m⟩
theorem uY(D:zAl X (.type T) r)(t:PrN B up pm r)(C:Gl X x)(A:X.mg x=none)(o:bootBuiltins x=some (.type T))(i:FA X B G Ex (e::es) as)(h:(e::es).all zAa=true)(y:x≠"__name__")(j:(x==("__debug__":Str))=false):FE X B G Ex (.Call (.Name x p1) (e::es) [] pos)<|cP pm as:=
 ⟨wkE (jG D C A o i.p h y j) λτ H Q h=>(LE.pn g i.m h).imp i.m λus H1 ⟨W,S,E,z,S',n,l,e,q⟩=>t n l e q,mP g i.m⟩
end
section
variable{B:Bs}{W:Wd}{S S':So}{H:Hp}
theorem fF{f:Str}:∀{fs:B7<|Str×U}{vs:B7<|Str×V},Rn B W fs vs->(∀v,zAv f fs=some v->∃u,vs.lookup f=some u/\Rv B W v u)/\(zAv f fs=none->vs.lookup f=none)
 |[],_,r=>by rw[show _=[] from r];exact⟨(λv h=>nomatch h),λ_=>rfl⟩
 |(j,x)::t,_,r=>by
  let⟨v,q,rfl,b,a⟩:=r;by_cases e:f=j
  .subst e;unfold zAv;rw[xCg rfl];refine⟨λc h=>?_,(λh=>nomatch h)⟩;cases h;exact⟨v,by simp[List.lookup],b⟩
  .have hb:(f==j)=false:=beq_eq_false_iff_ne.mpr e;unfold zAv;rw[xCf e];simp only[List.lookup,hb];exact fF a
theorem lU{f:Str}{x:U}{y:V}(g:Rv B W x y):∀{fs:B7<|Str×U}{vs:B7<|Str×V},Rn B W fs vs->Rn B W (putF f x fs) (L2.putF f y vs)
 |[],_,r=>by rw[show _=[] from r];exact⟨y,[],rfl,g,rfl⟩
 |(j,z)::t,_,r=>by
  let⟨v,q,rfl,b,a⟩:=r;unfold putF L2.putF;by_cases e:j=f
  .rw[xCg e,xCg e];exact⟨y,q,rfl,g,a⟩
  .rw[xCf e,xCf e];exact⟨v,_,rfl,b,lU g a⟩
theorem Rn.app{κ:Type}:∀{us ws:B7<|κ×U}{vs a:B7<|κ×V},Rn B W us vs->Rn B W ws a->Rn B W (us++ws) (vs++a)
 |[],_,_,_,h,g=>by rw[show _=[] from h];exact g
 |_::_,_,_,_,h,g=>by let⟨v,r,rfl,c,b⟩:=h;exact⟨v,r++_,rfl,c,Rn.app b g⟩
def lT{κ:Type} [DecidableEq κ] {k:κ} {x:U} {y:V} (g:Rv B W x y) {fs:B7<|κ×U} {vs:B7<|κ×V} (r:Rn B W fs vs):Rn B W (putK k x fs)<|L2.putK vs k y:=by
 have d:(vs.any λkv=>decide<|kv.1=k)=(fs.any λkv=>decide<|kv.1=k):=by
  clear g;induction fs generalizing vs with
  |nil=>rw[show vs=[] from r];rfl
  |cons p t a=>let⟨v,q,rfl,c,b⟩:=r;rw[List.any_cons,List.any_cons,a b]
 unfold putK L2.putK;rw[d];split
 .next h=>
  clear h d;induction fs generalizing vs with
  |nil=>rw[show vs=[] from r];rfl
  |cons p t a=>
   let⟨v,q,rfl,c,b⟩:=r;rw[xBs,xBs];by_cases e:p.1=k
   .rw[xCg e,xCg e];exact⟨y,_,rfl,g,a b⟩
   .rw[xCf e,xCf e];exact⟨v,_,rfl,c,a b⟩
 .exact r.app ⟨y,[],rfl,g,rfl⟩
set_option tactic.hygienic true
def jb{p:Nat}{f:Str->B7 (Str×U)->Res}{z:U}{u:V}(j:RS B W S H)(r1:Rv B W (.ref p) u)(h:zCy p S f=.ok z S'):∃C fs a c d vs,at? S p=some (.ins C fs)/\f C fs=.ok z S'/\u=.ref a/\at? W.μ p=some a/\B.cl C c/\H a=some (.ins c d vs)/\Rn B W fs vs:=by
 unfold zCy at h;split at h
 .next C fs e=>
  let⟨a,g,i,n,l,_⟩:=j.here e;let⟨t,r,b⟩:=r1;rw[i] at b;cases b;let⟨c,d,vs,o,rfl,m⟩:=l;exact⟨C,fs,a,c,d,vs,e,h,r,i,o,n,m⟩
 .cases h
def mH{p:Nat}{f:C6->Res}{z:U}{u:V}(d:RS B W S H)(r1:Rv B W (.ref p) u)(h:zCu p S f=.ok z S'):∃xs a vs,at? S p=some (.lst xs)/\f xs=.ok z S'/\u=.ref a/\at? W.μ p=some a/\H a=some (.lst vs)/\Rvs B W xs vs:=by
 unfold zCu at h;split at h
 .next xs e=>
  let⟨a,g,c,l,i,_⟩:=d.here e;let⟨n,m,b⟩:=r1;rw[c] at b;cases b;let⟨vs,rfl,j⟩:=i;exact⟨xs,a,vs,e,h,m,c,l,j⟩
 .cases h
set_option tactic.hygienic false
end
section
variable{B:Bs}{up:B7<|Str×Str}{G:D7}{Ex:St->XK}{c a b d:D4}{as:D8}
variable{X:Cx}{e ea eb o value:C0}{es:B7 C0}{pos p1 p2 apos cpos pos':Pos}{x f m C:Str}{id T:String}{pm:Pm}{i:Nat}(g:zBv up G)
structure ClF(B:Bs)(flds:C5):Prop where
 c:∀{C c},B.cl C c->Cls B.K c
 n:∀{C c f},B.cl C c->f∈flds->zBt B.K c f
variable{fl:C5}
include g
theorem AO(A:X.K=B.K)(F:ClF B fl)(M:f∈fl)(j:FE X B G Ex o a)(h:zBy o=true):FE X B G Ex (.Attribute o f pos)<|cP (.fld f)<|aC a aN:=
 ⟨wkE (xg j.p<|gf h) λτ H Q h=>(LE.p1 g j.m h).imp j.m λu H1 D=>by
  let⟨W,S,v,z,S',r,r1,e,q⟩:=D;cases v <;> try (cases e;done)
  let⟨C,fs,a,c,R,E,_,l,P,_,t,L,J⟩:=jb r r1 e;unfold opt at l;split at l
  .next Y O=>
   cases l;let⟨y,N,I⟩:=(fF (f:=f) J).1 _ O;exact⟨a,c,R,E,y,P,L,by rw[A];exact F.c t,by rw[A];exact F.n t M,N,q.here r I⟩
  ·(cases l),mP g<|mAC g j.m<|mAN g⟩
theorem yt(Z:∀c,B.cl C c->c=c')(cc:Cls X.K c')(hm:zEk X.K c' m f')(F:zBb X.prog X.w X.K X.mg X.base (CXz X.prog X.w) k f' fd ps<|spF B G i np)(hr:zBe k X.A)(hb:zAy X.K fd ps ds)(hd:zAg dvs ds)(hdu:∀W,Rvs B W dus dvs)(hx:zAi (CXz X.prog X.w) X Ex)(I:FE X B G Ex o a)(L:FA X B G Ex es as)(h0:es=[]->as=aN)(hn:es.length+1+dus.length=np)(n:es.all zAa=true)(J:∃pl,eval (.Call (.Attribute o m apos) es [] pos) X.env=(do
   let ov <- eval o X.env
   standAt apos.atName
   let (f,first) <- holding [ov] (getMethod ov m pl)
   callWith pos f first (backTo pos<|starEach es X.env) (backToKw pos<|keywordEach [] X.env))):FE X B G Ex (.Call (.Attribute o m apos) es [] pos)<|cM C m i a as dus:=by
 refine⟨?_,mM g I.m L.m⟩;have j:∀τ H Q,LE B G Ex (cM C m i a as dus) τ H Q->zC2 c' m (spF B G i np) dvs Ex (LE B G Ex a) (LA B G Ex as) τ H Q:=λτ H Q ⟨W,O,S,N,rg,Y⟩=>LE.go I.m N rg Y λv S1 W1 u1 H1 le1 E y P h1=>by
  let⟨w,S2,e,h2⟩:=g.pok h1;cases v <;> try (cases e;done)
  let⟨D,fs,aa,c,dx,vs,_,r,e3,hμ,hc,R,rn⟩:=jb E y e;split at r
  .next hD=>
   have hD:=xBe hD;subst hD;split at r
   .next hf=>
    cases r;obtain rfl:=Z c hc;erw[<-⟨aa,dx,vs,e3,R,(fF (f:=m) rn).2 hf,?_⟩,<-LA.go L.m E P (L.m.m (XL.upf le1 _) (λ_ _ _ h=>h) h2) λws S3 W3 us H3 hl l M t _ h3=>?_];exact⟨by rw[xAo,xAb,t.length,(hdu W3).length,hl,<- hn];lia,W3,.ref _::(ws++dus),S3,M,⟨u1,_,rfl,y.mono l,t.app<|hdu W3⟩,g.call (XL.upf (le1.trans l) _) (λ_ _=>VL.inc<|le1.trans l) h3⟩
   .cases r
  .cases r
 let⟨pl,J⟩:=J;cases es with
 |nil=>
  rw[h0 rfl] at j⊢;erw[<-wkE (og (pl:=pl) I.p cc hm F hr hb hd hx J) λτ H Q h=>?_,<-(j τ H Q h).imp I.m λu H1 ⟨a',dx,fs,e1,r,e3,h4⟩=>⟨a',dx,fs,e1,r,e3,?_⟩]
  let⟨W,O,S,N,rg,Y⟩:=h4;exact Y W [] H1 .refl N rfl
 |cons e es=>
  rw[xCj,xCh] at n;exact wkE (qj (pl:=pl) I.p cc hm F hr hb hd hx L.p (bx n.1) (dF n.2) J) j
omit g in
theorem zFo:zCp (CXz X.prog X.w) X λ_ _ _=>False:=λZ O H s j h I z=>z.elim
theorem yu(hcl:B.cl x c')(M:Mk X.K c' f')(F:zBb X.prog X.w X.K X.mg X.base (CXz X.prog X.w) k f' fd ps<|spF B G i np)(hr:zBe (k+1) X.A)(hg:Gl X x)(hm:X.mg x=some (.ref c'))(hb:zAy X.K fd ps ds)(hd:zAg dvs ds)(hdu:∀W,Rvs B W dus dvs)(E:(x==("__debug__":Str))=false)(Z:FA X B G Ex es as)(h0:es=[]->as=aN)(hn:es.length+1+dus.length=np)(n:es.all zAa=true):FE X B G Ex (.Call (.Name x p1) es [] pos)<|cK x i as dus:=by
 refine⟨?_,mK g Z.m⟩;have j:∀τ H Q,LE B G Ex (cK x i as dus) τ H Q->zD5 c' (spF B G i np) dvs (λ_ _ _=>False) (LA B G Ex as) τ H Q:=λτ H Q ⟨W,O,S,P,rg,hh⟩=>LA.go Z.m P rg hh λws S1 W1 us H1 hl R N t _ h1=>by
  intro l dx Y hdx hne;let⟨w,S2,e,h2⟩:=g.pok h1;cases e;have sm:=cZ hdx<|.own l;have D:upd H1 dx (.own l) l=none:=by rw[bt<|Ne.symm hne];exact Y
  have le2:W1.Le {W1 with μ:=W1.μ++[l]}:=⟨λ_ _ h=>h,λ_ _ h=>cY h,rfl⟩
  let⟨_,L,ha⟩:=(N.same sm).push (o:=.ins x []) (h:=.ins c' dx []) D ⟨c',dx,[],hcl,rfl,rfl⟩;refine⟨by rw[xAo,xAb,t.length,(hdu W1).length,hl,<- hn];lia,_,.ref S1.length::(ws++dus),_,L,⟨_,_,rfl,⟨l,rfl,ha⟩,(t.mono le2).app<|hdu _⟩,g.call (λ_ _ h=>(g.no h).elim) (λr S3 h3 W3 u3 H3 y J I=>?_) h2⟩;cases r <;> first|(exact(g.no h3).elim)|exact⟨I,h3 W3 (.ref l) H3 (R.trans<|le2.trans y) J ⟨l,rfl,y.m _ _ ha⟩⟩
 cases es with
 |nil=>
  rw[h0 rfl] at j⊢;refine wkE (ql M F hr hg hm hb hd zFo E) λτ H Q h=>?_;let⟨W,O,S,P,rg,hh⟩:=j τ H Q h;exact hh W [] H .refl P rfl
 |cons e es=>
  rw[xCj,xCh] at n;exact wkE (ua M F hr hg hm hb hd zFo Z.p E (bx n.1)<|dF n.2) j
end
section
variable{B:Bs}{W:Wd}{S S':So}{H:Hp}
theorem Rg.lf{W W':Wd}{O:Sg}{τ:St}(r:Rg B W O τ)(le:W.Lf W'):Rg B W' O τ:=⟨r.l,λi v h=>let ⟨u,e,q⟩:=r.v i v h;⟨u,e,q.lf le⟩⟩
def RS.drop(r:RS B W S H){l:B7<|C3×HO}(h:∀q∈l,q∈W.pr):RS B {W with pr:=l} S H:=
 ⟨r.fz,r.len,r.nd,λa p z=>let ⟨o,g,e,d,b,q⟩:=r.ob a p z;⟨o,g,e,d,b.lf .pr,q⟩,λq c=>r.pf q<|h q c⟩
def XL.hold{E:XK}{x:Xc}{e:C3×HO}(h:XL B W E x S):XL B {W with pr:=e::W.pr} E x S:=λW' C o H le a=>
 h {W' with pr:=W.pr} C o H ⟨le.f,le.m,rfl⟩ ⟨a.s.drop λq i=>by rw[le.r];exact xAs _ i,a.c,a.f.imp id λ⟨d,b,n,l,j⟩=>⟨d,b,n,l,j.lf .pr⟩⟩
def zJ0(K:xFr):V->B8 Int->B8 Int->Hp->VK->Prop:=λx a b H Q=>zIj K x a b H Q\/zIk K x a b H Q\/zIl K x a b H Q
set_option tactic.hygienic true
def lP{m:C4}{z:U}{u:V}{lo hi:B8 Int}{Q:VK}(rs:RS B W S H)(r1:Rv B W v u)(h:slice m v lo hi S=.ok z S')(q:VL B W Q z S'):zJ0 B.K u lo hi H Q:=by
 unfold slice at h;split at h
 .next i=>
  split at h
  .next d=>
   cases h;let⟨p,b,rfl,f,a⟩:=r1;exact .inr<|.inr ⟨p,b,rfl,.of<|rs.fz _ _ f,by rw[a.length];exact xBe d,q.here rs ⟨p,b,rfl,f,a⟩⟩
  .next d=>
   cases h;let⟨p,b,rfl,f,a⟩:=r1;have l:=a.length;refine .inl ⟨p,b,rfl,.of<|rs.fz _ _ f,by rw[l];exact of_decide_eq_false d,λj c=>q.tup rs (nD a lo hi) c⟩
 .split at h
  .next i e=>
   let⟨p,b,rfl,sq,a⟩:=gK rs r1 e;exact .inr<|.inl ⟨p,b,rfl,sq,λj c=>fE h q rs (nD a lo hi) c⟩
  .cases h
set_option tactic.hygienic false
end
section
variable{B:Bs}{up:B7<|Str×Str}{G:D7}{Ex:St->XK}{c a b d:D4}{as:D8}
variable{X:Cx}{e ea eb ec o:C0}{es:B7 C0}{pos p1 p2 p3 apos cpos:Pos}{x f m C:Str}{id T:String}{pm:Pm}{i:Nat}(g:zBv up G)
include g
theorem AH{m:C4}(r:X.K=B.K)(j:FE X B G Ex ea a)(hb:FE X B G Ex eb b):FE X B G Ex (.Subscript ea (.Slice (some eb) none none p2) pos)<|cP (.sl m true false)<|zAw a b:=
 ⟨wkE (jF (SlR.or pI<|SlR.or lO lN) j.p (lZ hb.p) l8) λτ H Q h=>(LE.p2 g j.m hb.m h).imp j.m λx H1 t=>t.imp hb.m λy H2 l=>by
  let⟨W,S,v,w,z,S',n,r1,r2,e,q⟩:=l;cases w <;> try (cases e;done)
  have:=lP (lo:=some _) (hi:=none) n r1 e q;rw[<- r] at this;exact⟨_,r2,this⟩,mP g<|mAC g j.m<|mAC g hb.m<|mAN g⟩
theorem AI{m:C4}(r:X.K=B.K)(j:FE X B G Ex ea a)(hb:FE X B G Ex eb b):FE X B G Ex (.Subscript ea (.Slice none (some eb) none p2) pos)<|cP (.sl m false true)<|zAw a b:=
 ⟨wkE (jF (SlR.or pI<|SlR.or lO lN) j.p l8<|lZ hb.p) λτ H Q h=>(LE.p2 g j.m hb.m h).imp j.m λx H1 t=>t.imp hb.m λy H2 l=>by
  let⟨W,S,v,w,z,S',n,r1,r2,e,q⟩:=l;cases w <;> try (cases e;done)
  have:=lP (lo:=none) (hi:=some _) n r1 e q;rw[<- r] at this;exact⟨_,r2,this⟩,mP g<|mAC g j.m<|mAC g hb.m<|mAN g⟩
omit g in
structure FP(X:Cx)(B:Bs)(G:D7)(Ex:St->XK)(pos:Pos)(kx:B7 (B8 C0))(ks:C5)(es:B7 C0)(as:D8):Prop where
 ex:∃trs,PPs X pos kx es trs/\∀τ H Q,LA B G Ex as τ H (λus H'=>Q ((ks.zip us).map λp=>(V.str p.1,p.2)) H')->zCm trs τ H Q
 m:zCl G as es.length
theorem BK:FP X B G Ex pos [] [] [] aN:=⟨⟨[],tS,λτ H Q ⟨W,O,S,j,l,h⟩=>h W [] H .refl j rfl⟩,mAN g⟩
theorem BM{k:Str}{j:Nat}(F:FE X B G Ex e a)(r:FP X B G Ex pos kx ks es as):FP X B G Ex pos (some (.Constant (.str k) j p2)::kx) (k::ks) (e::es)<|aC a as:=by
 let⟨J,N,M⟩:=r.ex;erw[<-⟨⟨_,p7 qi F.p N,λτ H Q ⟨W,O,S,K,L,h⟩=>?_⟩,mAC g F.m r.m⟩,<-LE.go F.m K L h λv S1 W1 I H1 n D y E R=>M τ H1 _ ?_,<-LA.go r.m D E (r.m.m (XL.upf n _) (λ_ _ _ h=>h) R) λY S2 W2 us H2 _ l A t _ P=>P W2 (I::us) H2 (n.trans l) A ⟨I,us,rfl,y.mono l,t⟩]
omit g in
theorem nC{W:Wd}:∀{ks:C5}{vs:C6}{us:B7 V},Rvs B W vs us->Rn B W (zGu ks vs) ((ks.zip us).map λp=>((Sum.inr p.1:Key),p.2))
 |[],vs,us,r=>by cases vs <;> rfl
 |k::ks,[],us,r=>by rw[show us=[] from r];rfl
 |k::ks,v::vs,us,r=>by
  let⟨u,t,rfl,j,h⟩:=r;exact⟨u,_,rfl,j,nC h⟩
omit g in
theorem dI:∀{ks:C5},zA8 ks=true->ks.Nodup
 |[],_=>xC7
 |k::ks,h=>by
  simp only[zA8,xCh,Bool.not_eq_true'] at h;refine xCb.mpr ⟨λj=>?_,dI h.2⟩;have:(ks.any λy=>decide<|y=k)=true:=xCy.mpr ⟨k,j,⋯⟩;rw[h.1] at this;cases this
omit g in
theorem pS{acc:B7<|Key×V}{k:Key}{v:V}(h:k∉acc.map (·.1)):L2.putK acc k v=acc++[(k,v)]:=by
 unfold L2.putK;rw[xCf];intro z;let⟨p,j,e⟩:=xCy.mp z;exact h<|xA2.mpr ⟨p,j,xBe e⟩
omit g in
theorem ij:∀{j acc:B7<|Key×V},(acc.map (·.1)++j.map (·.1)).Nodup->zBk acc j=acc++j
 |[],acc,_=>by simp[zBk]
 |p::t,acc,h=>by
  have l:p.1∉acc.map (·.1):=λz=>by
   have:=(xBq.mp h).2.2 p.1 z p.1 ⋯;exact this rfl
  show zBk (L2.putK acc p.1 p.2) t=_;rw[pS l,ij<|by simpa [xAx] using h];simp
omit g in
theorem jn:∀{ks:C5}{us:B7 V},ks.length=us.length->(ks.zip us).map ((λx=>x.1) ∘ λp=>((Sum.inr p.1:Key),p.2))=ks.map λk=>(Sum.inr k:Key)
 |[],_,_=>rfl
 |k::t,[],h=>by cases h
 |k::t,u::r,h=>by rw[List.zip_cons_cons,xBs,xBs,jn<|by simpa using h];rfl
theorem AQ(A:FP X B G Ex pos kx ks es as)(P:zA8 ks=true)(hl:ks.length=es.length)(R:kx.length=es.length)(y:kx.all (·.isSome)=true)(h0:kx≠[])(h15:ks.length<=15):FE X B G Ex (.Dict kx es pos)<|cP (.dct ks) as:=by
 let⟨K,h1,h2⟩:=A.ex;refine⟨wkE (uc h1 y R h0 ()) λτ H Q ⟨W,O,S,I,L,h⟩=>?_,mP g A.m⟩;intro p j;erw[h2 τ _ _,<-LA.go A.m (I.hold (o:=.dK []) j λ_=>nofun) (L.lf .pr) (A.m.m (λ_ _=>XL.hold) (λ_ _ _ h=>h) h) λJ S1 W1 us H1 M le1 n l _ Z=>?_];let⟨z,S2,e,q⟩:=g.pok Z;delta pr at e;dsimp only at e;split at e
 .cases e;have hu:=l.length;have t:W1.pr=(p,.dK [])::W.pr:=le1.r;refine⟨(n.pf _<|by rw[t];exact xAr).1,(ks.zip us).map λp=>((Sum.inr p.1:Key),p.2),by rw[List.map_map];rfl,by rw[xAa,List.length_zip];lia,?_⟩;have F:(((ks.zip us).map λp=>((Sum.inr p.1:Key),p.2)).map (·.1)).Nodup:=by
   rw[List.map_map];have:=jn (ks:=ks) (us:=us) ();rw[this];exact List.Pairwise.map _ (λa b h z=>h<|Sum.inr.inj z)<|dI P
  rw[ij (acc:=[])<|by simpa using F];have E:∀q∈W.pr,q.1≠p:=λq N z=>by rw[<- z,(I.pf q N).1] at j;cases j
  have lf:W1.Lf {W1 with pr:=W.pr,μ:=W1.μ++[p]}:=⟨λ_ _ h=>h,λ_ _ h=>cY h⟩
  let⟨D,Y⟩:=n.heldS (b:=.dct<|zGu ks J) (h:=.dK<|[]++(ks.zip us).map λp=>((Sum.inr p.1:Key),p.2)) t E ⟨_,rfl,by rw[xC6];exact(nC l).lf lf⟩;exact q {W1 with pr:=W.pr,μ:=W1.μ++[p]} _ _ ⟨λb o z=>le1.f b o z,λa b z=>cY<|le1.m a b z,rfl⟩ D ⟨p,rfl,Y⟩
 .cases e
theorem BT:FE X B G Ex (.Dict [] [] pos)<|cP (.dct []) aN:=
 ⟨wkE qr λτ H Q l=>by
  let⟨W,O,S,n,y,h⟩:=l;let⟨z,S2,e,q⟩:=g.pok h;cases e;intro p r;have le:W.Le {W with μ:=W.μ++[p]}:=⟨λ_ _ h=>h,λ_ _ h=>cY h,rfl⟩
  let⟨_,j,t⟩:=n.push (o:=.dct []) (h:=.dK []) r ⟨[],rfl,rfl⟩;exact q _ _ _ le j ⟨p,rfl,t⟩,mP g<|mAN g⟩
end
def Bc:bootBuiltins "isinstance"=some (.builtin "isinstance"):=by decide +kernel
noncomputable def tys:B7 String:=["NoneType","bool","int","str","tuple","list","dict"]
structure ClT(B:Bs):Prop where
 ty:∀{C c H a dx fs},B.cl C c->H a=some (.ins c dx fs)->zCb B.K H (.ref a) (.ref c)
structure zB6(B:Bs)(n:String):Prop where
 t:∀t∈tys,PySem.W.kitOne B.K (.type t) (.type n)=some (zF1 t n)
 o:∀{C c},B.cl C c->PySem.W.kitOne B.K (.ref c) (.type n)=some (zF1 "object" n)
structure zGy(B:Bs)(up:B7 (Str×Str))(D:Str)(d:C3):Prop where
 t:∀t∈tys,PySem.W.kitOne B.K (.type t) (.ref d)=some false
 o:∀{C c},B.cl C c->PySem.W.kitOne B.K (.ref c) (.ref d)=some (isC up C D)
section
variable{B:Bs}{W:Wd}{S S':So}{H:Hp}
theorem wb{u:V}{t:String}(T:ClT B)(rs:RS B W S H)(r:Rv B W v u)(h:tyU S v=some t):(t∈tys/\zCb B.K H u (.type t))\/(t="object"/\∃p C fs c,v=.ref p/\at? S p=some (.ins C fs)/\B.cl C c/\zCb B.K H u (.ref c)):=by
 cases v with
 |non=>cases h;rw[show u=_ from r];exact .inl ⟨∅,.non⟩
 |bl b=>cases h;rw[show u=_ from r];exact .inl ⟨∅,.bl b⟩
 |int i=>cases h;rw[show u=_ from r];exact .inl ⟨∅,.int i⟩
 |str x=>cases h;rw[show u=_ from r];exact .inl ⟨∅,.str x⟩
 |tup n=>cases h;let⟨p,j,rfl,f,_⟩:=r;exact .inl ⟨∅,.tup<|rs.fz _ _ f⟩
 |lst n=>cases h;let⟨p,j,rfl,f,_⟩:=r;exact .inl ⟨∅,.lst<|rs.fz _ _ f⟩
 |ref p=>
  unfold tyU at h;dsimp only at h;let⟨a,rfl,A⟩:=r;cases e:at? S p with
  |none=>rw[e] at h;cases h
  |some o=>
   let⟨E,g,d,m,l,_⟩:=rs.here e;rw[A] at d;cases d;rw[e] at h;cases o with
   |lst n=>cases h;let⟨j,rfl,_⟩:=l;exact .inl ⟨∅,.lst m⟩
   |dct kvs=>cases h;let⟨j,rfl,_⟩:=l;exact .inl ⟨∅,.dK m⟩
   |dtt kvs=>cases h
   |ins C fs=>cases h;let⟨c,D,j,y,rfl,_⟩:=l;exact .inr ⟨rfl,p,C,fs,c,rfl,e,y,T.ty y m⟩
   |dead=>cases h
 |_=>cases h
set_option tactic.hygienic true
def v7{z:U}{u:V}{T:String}{up:B7<|Str×Str}(rs:RS B W S H)(r:Rv B W v u)(h:pr up (.typ T) [v] S=.ok z S')(m:T="list"\/T="str"\/T="dict"):z=v/\S'=S/\tyV B.K T u H:=by
 delta pr at h;dsimp only at h;split at h
 .next t e=>
  split at h
  .next i=>
   cases h;refine⟨rfl,rfl,?_⟩;have i:t=T:=beq_iff_eq.mp i;subst i;rcases m with rfl|rfl|rfl
   .cases v with
    |lst xs=>let⟨p,b,rfl,f,_⟩:=r;exact .inl ⟨rfl,b,.of<|rs.fz _ _ f⟩
    |ref p=>
     unfold tyU at e;dsimp only at e;cases e2:at? S p with
     |none=>rw[e2] at e;cases e
     |some o=>
      rw[e2] at e;cases o <;> try (simp at e;done)
      let⟨y,b,n,d,_⟩:=cQ rs r (xs:=_) (by unfold lsT;dsimp only;rw[e2]);subst n;exact .inl ⟨rfl,b,.of d⟩
    |_=>simp[tyU] at e
   .cases v with
    |str x=>rw[show u=_ from r];rfl
    |ref p=>
     unfold tyU at e;dsimp only at e;split at e <;> simp at e
    |_=>simp[tyU] at e
   .cases v with
    |ref p=>
     unfold tyU at e;dsimp only at e;cases e2:at? S p with
     |none=>rw[e2] at e;cases e
     |some o=>
      rw[e2] at e;cases o <;> try (simp at e;done)
      let⟨a,rfl,l⟩:=r;let⟨y,g,c,d,j,_⟩:=rs.here e2;rw[l] at c;cases c;let⟨b,rfl,_⟩:=j;exact .inr<|.inr<|.inl ⟨rfl,.inl ⟨b,d⟩⟩
    |_=>simp[tyU] at e
  .cases h
 .cases h
set_option tactic.hygienic false
end
section
variable{B:Bs}{up:B7<|Str×Str}{G:D7}{Ex:St->XK}{c a b d:D4}{as:D8}
variable{X:Cx}{e ea eb ec o:C0}{es:B7 C0}{pos p1 p2 p3 apos cpos:Pos}{x y f m C:Str}{id T:String}{pm:Pm}{i:Nat}(g:zBv up G)
include g
set_option tactic.hygienic true
theorem AM(n:X.K=B.K)(ct:ClT B)(kt:zB6 B T)(N:Gl X "isinstance")(M:X.mg "isinstance"=none)(F:Gl X y)(E:X.mg y=none)(A:bootBuiltins y=some (.type T))(D:y≠"__name__")(I:(y==("__debug__":Str))=false)(l:FE X B G Ex ea a)(j:zAa ea=true):FE X B G Ex (.Call (.Name "isinstance" p1) [ea,.Name y p2] [] pos)<|cP (.isT T)<|aC a aN:=
 ⟨wkE (mn yM N M Bc (jH l.p (jH (ud F E A (v:=.ty T) rfl D I) eZ rfl) j)<|by rw[xCj,j];rfl) λτ H Q h=>(LE.p1 g l.m h).imp l.m λu H1 J=>by
  let⟨W,S,v,z,S',r,r1,e,q⟩:=J;delta pr at e;dsimp only at e;split at e
  .next t P=>
   cases e;rcases wb ct r r1 P with ⟨L,ty⟩|⟨rfl,p,C,fs,c,_,_,O,ty⟩
   .exact⟨u,T,_,_,rfl,by rw[n];exact ty,by rw[n];exact kt.t _ L,q.here r rfl⟩
   .exact⟨u,T,_,_,rfl,by rw[n];exact ty,by rw[n];exact kt.o O,q.here r rfl⟩
  ·(cases e),mP g<|mAC g l.m<|mAN g⟩
set_option tactic.hygienic false
omit g in
def PrM(B:Bs)(up:B7<|Str×Str)(p:Pm)(r:V->B7 V->Hp->VK->Prop):Prop:=∀{W:Wd}{S:So}{H:Hp}{v:U}{u:V}{vs:C6}{us:B7 V}{z:U}{S':So}{Q:VK},RS B W S H->Rv B W v u->Rvs B W vs us->pr up p (v::vs) S=.ok z S'->VL B W Q z S'->r u us H Q
theorem rP{r:V->B7 V->Hp->VK->Prop}{name:Str}(hK:X.K=B.K)(R:PlainAttrs T)(j:Slot T name id)(I:typeOf (.builtin id)=pure (.type "method_descriptor"))(Z:MtR X id r)(Y:PrM B up pm r)(hT:T="list"\/T="str"\/T="dict")(J:FE X B G Ex o a)(L:FE X B G Ex e b)(h:zBy o=true)(A:zAa e=true)(M:(apos.endLine==cpos.line)=true):FE X B G Ex (.Call (.Attribute o name apos) [e] [] cpos)<|cBM T pm a<|aC b aN:=
 ⟨wkE (Bq R j I Z J.p (fo g L (hX g) A).p h A M) λτ H Q ⟨W,O,S,N,P,hh⟩=>LE.go J.m N P hh λv S1 W1 u1 H1 le1 n l F h1=>by
  let⟨z,S2,e2,A⟩:=g.pok h1;let⟨rfl,rfl,ty⟩:=v7 n l e2 hT;have fa:FA X B G Ex [e]<|aC b aN:=fo g L (hX g) ‹_›;refine⟨by rw[hK];exact ty,LA.go fa.m n F (fa.m.m (XL.upf le1 _) (λ_ _ _ h=>h) A) λws S3 W3 us H3 M t E D _ h3=>?_⟩;let⟨z3,S4,e4,q⟩:=g.pok h3;exact Y E (l.mono t) D e4 (q.inc<|le1.trans t),mBM g J.m<|mAC g L.m<|mAN g⟩
omit g in
theorem zZ:PrM B up .app zDa:=by
 intro W S H v u A us z S' Q l E j h q;cases A with
 |nil=>cases v <;> cases h
 |cons w t=>cases t with
  |cons _ _=>cases v <;> cases h
  |nil=>
   cases v <;> try (cases h;done)
   let⟨O,N,r,M,J,L,F,I,n⟩:=mH l E h;let⟨P,K⟩:=db J;cases K;let⟨D,rfl,r2⟩:=j.inv1;exact⟨N,r,D,L,rfl,I,by rw[n.length];lia,q.here (l.mut F M (by nofun) ⟨_,rfl,n.app<|.one r2⟩) rfl⟩
set_option tactic.hygienic true
omit g in
omit g in
theorem zY:PrM B up .ext zC9:=by
 intro W S H v u F us z S' Q n I l h q;cases F with
 |nil=>cases v <;> cases h
 |cons w t=>cases t with
  |cons _ _=>cases v <;> cases h
  |nil=>
   cases v <;> try (cases h;done)
   let⟨xs,Y,D,P,r,O,J,L,A⟩:=mH n I h;split at r
   .next Z M=>
    let⟨K,N⟩:=db r;cases N;let⟨u2,rfl,r2⟩:=l.inv1;let⟨R,E,rfl,hb,j⟩:=cQ n r2 M;exact⟨Y,R,D,E,O,rfl,L,hb,by rw[A.length,j.length];exact K,q.here (n.mut J P (by nofun) ⟨_,rfl,A.app j⟩) rfl⟩
   .cases r
omit g in
theorem xm:PrM B up .join<|zFl B.K:=by
 intro W S H v u A us z S' Q n D j h q;cases A with
 |nil=>cases h
 |cons b t=>cases t with
  |cons _ _=>cases h
  |nil=>
   delta pr at h;dsimp only at h;split at h
   .next s N es J=>
    split at h
    .next r L=>
     split at h
     .next F=>
      cases h;let⟨O,rfl,r2⟩:=j.inv1;let⟨l,M,rfl,I,E⟩:=cQ n r2 J;have e:=zBf L E;subst e;have:=wn es;subst this;exact⟨s,l,r,D,rfl,.of I,xBe F,q.here n rfl⟩
     .cases h
    .cases h
   .cases h
theorem vW(Z:X.K=B.K)(h:FE X B G Ex e c)(Y:∀j,isTrue e X.env j=(do let v <- j;standAt e.pos;holding [v] (truthy v))):FT X B G Ex e<|tB<|cP .tru<|aC c aN:=by
 have I:=mP g (p:=.tru)<|mAC g h.m<|mAN g;refine⟨wkT (pT h.p Y) λτ H Q F=>?_,mB g I⟩;have A:LE B G Ex (cP .tru<|aC c aN) τ H λx H'=>∃k,x=.bl k/\Q k H':=by
  let⟨W,O,S,t,P,F⟩:=F;refine LE.go I t P F λv S' W' u H' le E L N A=>?_;cases v <;> first|(exact(g.no A).elim)|exact⟨_,L,A W' H' le E⟩
 refine(LE.p1 g h.m A).imp h.m λu H1 J=>?_;let⟨W,S,v,z,S',t,r1,e,q⟩:=J;change obB (zG1 S v) id S=_ at e;unfold obB at e;split at e
 .next b eb=>
  cases e;let⟨k,ek,R⟩:=q.here t (u:=.bl b) rfl;cases ek;refine⟨b,?_,R⟩;have D:∀l,sqU S v=some l->b=!l.isEmpty->zH7 X.K u H1 b:=λl ex hb=>by
   let⟨p,r,rfl,sq,M⟩:=fB t r1 ex;have n:b=!r.isEmpty:=by rw[hb];cases l <;> cases r <;> first|rfl|(have:=M.length;simp at this)
   rw[Z];rcases sq with sq|sq
   .exact .inl ⟨r,sq,n⟩
   .exact .inr<|.inl ⟨r,sq,n⟩
  unfold zG1 at eb;split at eb
  .cases eb;rw[show u=_ from r1];rfl
  .next p=>
   split at eb
   .next l e2=>exact D l (by show lsU S (.ref p)=_;unfold lsU;dsimp only;rw[e2]) (xB3 eb).symm
   .cases eb
  .cases eb
 .cases e
set_option tactic.hygienic false
omit g in
structure KdF(wo:World)(B:Bs):Prop where
 d:∀{p kvs no},B.kd p kvs no->KD wo B.K p
 y:∀{p kvs no x v},B.kd p kvs no->zAv x kvs=some v->∃u val,PySem.W.nsIn B.K p x=some (some val)/\zAh u val/\∀W,Rv B W v u
 n:∀{p kvs no x},B.kd p kvs no->x∈no->PySem.W.nsIn B.K p x=some none
theorem yx{no:C5}{p:C3}(D:X.K=B.K)(F:KdF X.w B)(A:B.kd p kvs no)(R:Gl X x)(M:X.mg x=some (.ref p))(t:(x==("__debug__":Str))=false)(r:FE X B G Ex e b)(E:zAa e=true)(N:(apos.endLine==cpos.line)=true):FE X B G Ex (.Call (.Attribute (.Name x p1) "get" apos) [e] [] cpos)<|cP .get1<|aC (cC<|.kd kvs no)<|aC b aN:=
 ⟨wkE (ub (by rw[D];exact F.d A) (iP R M (v:=.ref p) rfl t) r.p ⟨gf rfl,by rw[bx E];rfl,N,by rw[bx E];rfl⟩) λτ H Q ⟨W,O,S,I,L,P⟩=>LE.go r.m I L P λv S1 W1 u1 H1 n l j J Y=>by
  let⟨z,S2,h,q⟩:=g.pok Y;cases v <;> try (cases h;done)
  change opt _ _=_ at h;unfold opt at h;split at h
  .next v' Z=>
   cases h;let⟨u,val,e3,r3,r4⟩:=F.y A Z;exact⟨_,u,val,j,by rw[D];exact e3,r3,(q.inc n).here l<|r4 _⟩
  ·(cases h),mP g<|mAC g (mC g)<|mAC g r.m<|mAN g⟩
theorem yw{no:C5}{p:C3}(P:X.K=B.K)(F:KdF X.w B)(N:B.kd p kvs no)(hg:Gl X x)(hm:X.mg x=some (.ref p))(M:(x==("__debug__":Str))=false)(L:FE X B G Ex e b)(A:FE X B G Ex ec c)(D:zAa e=true)(Y:zAa ec=true)(hl:(apos.endLine==cpos.line)=true):FE X B G Ex (.Call (.Attribute (.Name x p1) "get" apos) [e,ec] [] cpos)<|cP .get2<|aC (cC<|.kd kvs no)<|zAw b c:=
 ⟨wkE (qp (by rw[P];exact F.d N) (iP hg hm (v:=.ref p) rfl M) L.p A.p ⟨gf rfl,by rw[bx D,bx Y];rfl,hl,by rw[bx D,bx Y];rfl⟩) λτ H Q ⟨W,O,S,rs,rg,hh⟩=>LE.go L.m rs rg hh λv S1 W1 u1 H1 le1 I l J h1 =>
  LE.go A.m I J (A.m.m (XL.upf le1 _) (λ_ _ h=>h) h1) λw S2 W2 Z H2 t r E _ D=>by
   let⟨z,S3,j,q⟩:=g.pok D;cases v <;> try (cases j;done)
   delta pr at j;dsimp only at j;split at j
   .next v' ev=>
    cases j;let⟨u,val,e3,r3,r4⟩:=F.y N ev;exact⟨_,u,some val,l,by rw[P];exact e3,λ_ z=>by cases z;exact r3,nofun,(q.inc<|le1.trans t).here r<|r4 _⟩
   .split at j
    .next hn=>
     cases j;let⟨y,hy,R⟩:=xCy.mp hn;have R:=xBe R;subst R;exact⟨_,Z,none,l,by rw[P];exact F.n N hy,nofun,λ_=>rfl,(q.inc<|le1.trans t).here r E⟩
    ·(cases j),mP g<|mAC g (mC g)<|mAC g L.m<|mAC g A.m<|mAN g⟩
end
end Fx
namespace RevA
open PySem PySem.Spec PyProof.Rows
open AutoSeq1 (wpAny_loadPart')
noncomputable def zBr(a:C3):Obj:={cls:=.type "enumerate",data:=.fields #[.none,.bool false,.ref a,rawInt 2,.none,.none]}
set_option tactic.hygienic true
def oM(t:C3)(xs:Array B9)(n:Nat)(e:B8 C3)(j:Array<|B8 B9)(tk:Tok) :
  Meets (Builtin.«enumerate.__new__» ⟨[.type "enumerate",.ref t],[("start",.int 2 tk)]⟩) (λ_ R s=>s.heap.get? t=some { cls:=.type "tuple",dict:=e,data:=.seq xs n,slots:=j } /\
   R (.ok<|.ret<|.ref (s.heap.push<|zBw t).objs.size) {s with heap:=(s.heap.push<|zBw t).push<|zBr s.heap.objs.size}):=
 .of_wp λi w A R s h=>by
  let⟨l,g,d,tk,k⟩:=s;let⟨a,h⟩:=h;have o:=sub_enumerate;have b:Heap.IsTuple (Shared.heap ⟨l,g,d,tk,k⟩) t xs:=⟨_,a,rfl,n,rfl⟩
  wp_walk using wpAny_loadPart' a
  refine wpAny_stack_any λm=>xAe ?_;split
  .rename_i c _ _ _ _ _
   cases (c==Value.type "enumerate")
   .wp_walk using wpAny_loadPart' a,wpAny_pyIter_tuple b
    exact⟨_,rfl,h⟩
   .wp_walk using wpAny_loadPart' a,wpAny_pyIter_tuple b
    exact⟨_,rfl,h⟩
  .wp_walk using wpAny_loadPart' a,wpAny_pyIter_tuple b
   exact⟨_,rfl,h⟩
set_option tactic.hygienic false
def pC(a b:B9):checkTypeCall "enumerate" ⟨[a],[("start",b)]⟩=pure Unit.unit:=by kernel_rfl
def qQ(a b:B9):checkBuiltinCall "enumerate.__new__" ⟨[.type "enumerate",a],[("start",b)]⟩=pure Unit.unit:=by kernel_rfl
def sM(a b c:B9):argsOk "object.__init__" ⟨[a,b],[("start",c)]⟩:=by
 unfold argsOk;rw[signature?_of (id:="object.__init__") (n:=['_','_','t','i','n','i','_','_']) (o:=['t','c','e','j','b','o']) (by kernel_rfl) PySem.F.owner_object];kernel_rfl
section
variable{prog:Program}{w:World}{A:Around}{E:B9->B'->Prop}{s:B'}
def zHs{t:C3}{xs:Array B9}{tk:Tok}{Q:B9->B'->Prop}(C:s.heap.IsTuple t xs)(h:∀h',IsEnum h' (s.heap.objs.size+1) s.heap.objs.size 2 .none->h'.IsTupleIter s.heap.objs.size t 0->(∀b o,s.heap.get? b=some o->h'.get? b=some o)->Q (.ref<|s.heap.objs.size+1) {s with heap:=h'}) :
  wpAny (model prog w) A (call (.type "enumerate") [.ref t] [("start",.int 2 tk)]) Q E s:=by
 let⟨⟨c,e,D,m⟩,hl,hc,n,hd⟩:=C
 replace hc:c=.type "tuple":=hc
 replace hd:D=.seq xs n:=hd
 subst hc hd;let⟨K,G,k⟩:=PySem.F.called_enumerate.mro;have d:=PySem.F.called_enumerate.made;have j:=PySem.F.called_enumerate.sub;refine wpAny_call<|codeAny_of_tree ?_;change wpAny _ _ (callAny (.type "enumerate") _) _ _ _;refine xAe ⟨Code.quiet_builtin _ (by decide +kernel),codeAny_builtin PySem.F.entry_type_call ?_⟩;rw[Around.under_plain (weight_type_call_type "enumerate" [.ref t] [("start",.int 2 tk)])<|units_type_call_type "enumerate" [.ref t] [("start",.int 2 tk)]];have J:=PySem.F.called_enumerate.notType;have I:=PySem.F.called_enumerate.canCreate;have H:=pC (.ref t)<|.int 2 tk;repeat (any_goals (first|assumption|wp_step))
 have i:(s.heap.push<|zBw t).objs.size=s.heap.objs.size+1:=Heap.size_push ..;have l:IsEnum ((s.heap.push<|zBw t).push<|zBr s.heap.objs.size) (s.heap.objs.size+1) s.heap.objs.size 2 .none:=by
  have:=xAl (s.heap.push<|zBw t) (o:=zBr s.heap.objs.size) rfl;rw[i] at this;exact this
 have q:=oM t xs n e m tk prog w A.in1 (λr s₁=>r=.ok (.ret<|.ref<|s.heap.objs.size+1)/\s₁={s with heap:=(s.heap.push<|zBw t).push<|zBr s.heap.objs.size}) s ⟨hl,by rw[i];exact⟨rfl,rfl⟩⟩;refine codeAny_mono (codeAny_call_builtin (R:=λr s₁=>r=.ok (.ret<|.ref<|s.heap.objs.size+1)/\s₁={s with heap:=(s.heap.push<|zBw t).push<|zBr s.heap.objs.size}) PySem.F.called_enumerate.plain PySem.F.entry_enumerate_new<|wpAny_of_eq (qQ _ _) q) λr s₁ a=>?_;let⟨rfl,rfl⟩:=a;have B:Shared.TypeIs {s with heap:=(s.heap.push<|zBw t).push<|zBr s.heap.objs.size} (.ref<|s.heap.objs.size+1) "enumerate":=⟨_,l,rfl⟩
 have v:=PySem.F.called_enumerate.init.lookup;have y:=PySem.F.called_enumerate.init.bind<|.ref<|s.heap.objs.size+1;repeat (any_goals (first|assumption|wp_step))
 refine codeAny_mono (codeAny_call_builtin (R:=λr s₁=>r=.ok (.ret .none)/\s₁={s with heap:=(s.heap.push<|zBw t).push<|zBr s.heap.objs.size}) PySem.F.called_enumerate.init.plain PySem.F.entry_object_init<|PySem.F.called_enumerate.init.check _ _ _ _ _ _ _ _ B (sM _ _ _) ?_) λr s₁ a=>?_
 .have p:(some "enumerate.__new__" != some "object.__new__")=true:=by decide
  repeat (any_goals (first|assumption|wp_step))
  exact⟨rfl,rfl⟩
 .let⟨rfl,rfl⟩:=a;repeat (any_goals (first|assumption|wp_step))
  exact h _ l ⟨_,xAf _<|xAl _ rfl,rfl,rfl⟩ λb o x=>xAf _<|xAf _ x
end
def zF9{prog:Program}{w:World}{A:Around}{j:C3}{fp:B7 C3}{n:Nat}{P:Nat->B9->Prop}{St:Nat->Heap->Prop}(D:Draws prog w A j fp n P St) :
  Draws prog w A j fp (n+2) (λi v=>P (i-2) v) (λi h=>2<=i/\St (i-2) h) where
 live:=λi h d=>D.live (i-2) h d.2
 frame:=λi h e d k=>⟨d.1,D.frame (i-2) h e d.2 k⟩
 item:=λi s Q E o d l=>D.item (i-2) s Q E () d.2 λv e tk a b c=>l v e tk a ⟨(),by rw[show i+1-2=i-2+1 by have:=d.1;lia];exact b⟩ c
 done:=λs Q E d m=>D.done s Q E (by have:=d.2;rw[Nat.add_sub_cancel] at this;exact this) m
end RevA
namespace L2
open PySem PySem.Spec PyProof.Rows RevA
variable{P:Program}{K:xFr}{elts:B7 C0}{k lim:Nat}{pos p:Pos}{s:B'}{a:C0}{ta:TA}{it:C3}{x:V}{kx:C4}
noncomputable def zIc(K:xFr)(a:C3):It:=
 ⟨λi H=>∃b x,SqT K H a b/\b[i]?=some x,λi H x H'=>∃(p:C3) (v:V),x=.ref p/\H p=none/\H'=upd H p (.tup [.int ((i+2:Nat):Int),v])/\∀b,SqT K H a b->b[i]?=some v,λi H=>∃b,SqT K H a b/\b.length=i⟩
def ku{w:World}(a it e:C3)(r:e≠it)(hae:a≠e)(C:a≠it):zEi P w K (.Tuple elts k pos) (zIc K a) [e,it] e (λi h=>(∃j,IsEnum h e it ((i+2:Nat):Int) j)/\h.IsTupleIter it a i) where
 mem:=by simp
 obj:=λi h l b hb=>by
  let⟨⟨j,q1⟩,o,q2,c,d⟩:=l;simp only[xAv,xBv,or_false] at hb;rcases hb with rfl|rfl
  .exact⟨_,q1,λv z=>by cases z⟩
  .exact⟨o,q2,λv z=>by rw[d] at z;cases z⟩
 keep:=λi h h' l k=>⟨let ⟨j,q⟩:=l.1;⟨j,k e ⋯ _ q⟩,l.2.at λo e'=>k it ⋯ o e'⟩
 item:=by
  intro X F T hK hc i Z s O H E I hf l hg;subst F T hK;let⟨xs,x,L,S⟩:=hg;let⟨its,Q,p,hz⟩:=I.tuple L;let⟨u,hu,ru⟩:=Q.get S;let⟨⟨j,t⟩,hit⟩:=l;have D:=zF9<|zDg (prog:=X.prog) (w:=X.w) (A:=X.A.in1) (by simpa using I.ok.hd hc) it a C its.toArray;have B:i+2<its.toArray.size+2:=by
   rw[xAp];have:=(xAq.mp hu).1;lia
  refine wpAny_pyNext_enum_itemD D t ⟨(),by rw[Nat.add_sub_cancel];exact⟨hit,p⟩⟩ B r (by simp[r,Ne.symm hae]) λJ h1 tk F ho m hT hsz hk=>?_;have R:J=u:=by
   have N:its.toArray[i+2-2]?=some J:=F;rw[Nat.add_sub_cancel,List.getElem?_toArray,hu] at N;cases N;rfl
  subst R;have m:=m.2;rw[show i+2+1-2=i+1 by lia] at m;have hel:e<s.heap.objs.size:=xA1 t;have Y:it<s.heap.objs.size:=by let⟨_,z,_⟩:=hit;exact xA1 z
  have h0:H s.heap.objs.size=none:=I.hok.fresh<|xAg _;have I1:Inv X Z O (upd H s.heap.objs.size<|.tup [.int ((i+2:Nat):Int),x]) {s with heap:=s.heap.push {cls:=.type "tuple",data:=.seq #[.int ((i+2:Nat):Int) tk,J]},toks:=tk+1}:=by
   refine I.laid (λb o e=>xAf _ e) (xAg _) ⟨by simp[sizeLine_eq],[.int ((i+2:Nat):Int) tk,J],.cons ⟨_,rfl⟩<|.cons ru .nil,_,xAl _ rfl,rfl,_,rfl⟩
  refine⟨_,rfl,wpAny_letOwnedTupleGo_enum (s:={s with heap:=h1,toks:=tk+1}) ho λh2 he2 W=>?_⟩;have n:Heap.SameBut e h1 h2:=W;have G:∀b∈[e,it],zC1 X Z (upd H s.heap.objs.size<|.tup [.int ((i+2:Nat):Int),x]) b:=λb hb=>by
   let⟨f0,f⟩:=hf b hb;refine⟨?_,f⟩;rw[bt]
   .exact f0
   .simp only[xAv,xBv,or_false] at hb;rcases hb with rfl|rfl
    .exact xA0 hel
    .exact xA0 Y
  have I2:=Inv.turnedL (t':=tk+1) (h':=h2) (fp:=[e,it]) I1 (λb o hb M=>?_) G
  .refine⟨.ref s.heap.objs.size,_,I2,rfl,⟨_,x,rfl,h0,rfl,λys hy=>by rw[I.tuple_inj hy L];exact S⟩,⟨⟨_,by rw[show i+1+2=i+2+1 by lia];exact he2⟩,m.1.at λo z=>(n.2 it r.symm).trans z⟩,λb hb=>(G b hb).1⟩
  .simp only[xAv,xBv,or_false,not_or] at hb;rw[n.2 b hb.1];by_cases z:b=s.heap.objs.size
   .subst z;rw[hT];rw[<- M];exact(xAl _ rfl).symm
   .erw[hk b o hb.1 hb.2];exact(Heap.get?_push_cases M).elim (λy=>absurd y.1 z) id
 done:=by
  intro X F T hK hc i Z s O H E I hf l hg;subst F T hK;let⟨xs,L,S⟩:=hg;let⟨its,Q,p,hz⟩:=I.tuple L;let⟨f0,f1,f2,f3,f4,f5⟩:=hf it ⋯;have hl:=Q.length;let⟨⟨j,t⟩,hit⟩:=l;have D:=zDg (prog:=X.prog) (w:=X.w) (A:=X.A.in1) (by simpa using I.ok.hd hc) it a C its.toArray;have N:its.toArray.size=i:=by rw[xAp];lia
  exact wpAny_pyNext_enum_endD D t (by rw[N];exact⟨hit,p⟩) λh' M=>⟨rfl,I.turned (t':=s.toks) (λb o hb e=>M b o hb e) f0 f1 f3 f4 f5⟩
 self:=λ_ _ _ _ _ l h=>let ⟨⟨j,t⟩,_⟩:=l;wpAny_pyIter_enum t h
def zD9(K:xFr)(vs:C9)(H:Hp)(R:It->Hp->Prop):Prop:=∃a,vs=[.ref a]/\(∃xs,SqT K H a xs)/\R (zIc K a) H
def zF4(K:xFr)(ta:TA):TI:=λO H R=>ta O H λb H1=>zD9 K b H1 R
def rZ{M:Model}{A:Around}{E:B9->B'->Prop}{env:Env}{T:String}{e:C0}{b:B7 Keyword}{Q:B9->B'->Prop}(j:starEach [e] env=[(false,eval e env)])(c:(backToKw pos<|keywordEach b env).all (·.1.isSome)=true)(d:(backToKw pos<|keywordEach b env).any (·.1.isNone)=false)(h:wpAny M A (spliced<|backTo pos<|starEach [e] env) (λvs s₁=>wpAny M A (evalAll ((backToKw pos<|keywordEach b env).map (·.2))) (λkvs s₂=>wpAny M A (call (.type T) vs (((backToKw pos<|keywordEach b env).filterMap (·.1)).zip kvs)) Q E s₂) E s₁) E s) :
  wpAny M A (callWith pos (.type T) [] (backTo pos<|starEach [e] env)<|backToKw pos<|keywordEach b env) Q E s:=by
 rw[j,show backTo pos [(false,eval e env)]=(false,eval e env)::[] from rfl] at h⊢;unfold callWith;refine xAd (xDc<|wpAny_mono (evalArgs_kwB (Q:=λa s₁=>wpAny M A (call (.type T) ([]++a.pos) a.kw) Q E s₁) c h) (λa s₁ h₁=>xAd<|wpAny_standAt ?_) λ_ _ x=>x);rw[d,show((false,eval e env)::[]).any (·.1)=false from rfl];refine xAd<|xAe ?_;exact xAd<|wpAny_mono h₁ (λr s₂ i=>xAd<|xDc<|wpAny_point<|xAe i) λ_ _ x=>x
section
variable{X:Cx}
theorem qg{pt kp np:Pos}{j:Nat}(E:Gl X "enumerate")(C:X.mg "enumerate"=none)(F:PA X [a] ta)(y:starEach [a] X.env=[(false,eval a X.env)]) :
  PI X (.Tuple elts k pt) (.Call (.Name "enumerate" p) [a] [⟨some "start",.Constant (.int 2) j np,kp⟩] pos) (zF4 X.K ta):=by
 intro Z s O H R I h;refine xAd (fG I E C oX<|rZ y rfl rfl<|thn (F pos Z s O H _ I h) λus c ⟨J,H1,I1,r1,v⟩=>kws_cons<|wpAny_Constant_int<|kws_nil ?_);let⟨l,e,⟨xs,A⟩,q⟩:=v;subst e;cases r1 with
 |cons r t=>
  cases t;cases r;let⟨its,L,pl,M⟩:=I1.tuple (xs:=xs) A;have d:l<c.heap.objs.size:=by let⟨o,B,_⟩:=pl;exact xA1 B
  erw[<-zHs (s:={c with toks:=c.toks+1}) (show c.heap.IsTuple l its.toArray from pl) λG n m D=>?_,wpAny_pyIter_enum n];have I2:Inv X Z O H1 {c with heap:=G,toks:=c.toks+1}:=(I1.tok _).kept (t':=c.toks+1) D;refine⟨c.heap.objs.size+1,[c.heap.objs.size+1,c.heap.objs.size],_,_,H1,rfl,I2,ku l _ _ (Nat.succ_ne_self _) (xA0<|xCa d)<|xA0 d,⟨⟨_,n⟩,m⟩,λb hb=>?_,q⟩;have i:c.heap.objs.size<=b:=by
   simp only[xAv,xBv,or_false] at hb;rcases hb with rfl|rfl
   .exact Nat.le_succ _
   .exact xAg _
  exact I1.fpOk i<|I1.hok.fresh i
end
def sqB(k:C4)(K:xFr)(H:Hp)(a:C3)(xs:C9):Prop:=match k with
 |true=>SqT K H a xs
 |false=>SqL K H a xs
def sqK(k:C4)(K:xFr)(H:Hp)(x:V)(xs:C9):Prop:=∃a,x=.ref a/\sqB k K H a xs
structure SrW(k:C4)(P:Program)(w:World)(K:xFr)(lim:Nat)(x:V)(it:C3)(tn:Nat->Heap->Prop):Prop where
 obj:∀i h,tn i h->∃o,h.get? it=some o/\∀v,o.data≠.cell v
 keep:∀i h h',tn i h->(∀o,h.get? it=some o->h'.get? it=some o)->tn i h'
 dr:∀(X:Cx),X.prog=P->X.w=w->X.K=K->X.calm=true->∀(Z:B7 (C3×Obj))(O:St)(H:Hp)(s:B'),Inv X Z O H s->∀xs,sqK k K H x xs->∃(f:B7 C3) (Pv:Nat->B9->Prop) (S:Nat->Heap->Prop),
  (∀b∈f,b=it\/b<lim)/\Draws P w X.A.in1 it f xs.length Pv S/\(∀i,tn i s.heap->S i s.heap)/\(∀i h,S i h->tn i h)/\(∀i v,Pv i v->∃u,xs[i]?=some u/\zAh u v)/\∀ys,sqK k K H x ys->ys=xs
def tq{w:World}{a:C3}(t:a<lim)(hi:lim<=it):SrW true P w K lim (.ref a) it (λi h=>h.IsTupleIter it a i) where
 obj:=λi h ⟨o,e,_,d⟩=>⟨o,e,λv z=>by rw[d] at z;cases z⟩
 keep:=λi h M c k=>c.at λo e=>k o e
 dr:=by
  intro X F C G E Z O H s I y j;subst F C G;let⟨b,e,j⟩:=j
  .cases e;let⟨its,n,p,L⟩:=I.tuple j;have r:=n.length;have D:=zDg (prog:=X.prog) (w:=X.w) (A:=X.A.in1) (by simpa using I.ok.hd E) it a (xA0<|xBc t hi) its.toArray;rw[xAp,<- r] at D;refine⟨_,_,_,λb hb=>?_,D,λi c=>⟨c,p⟩,λi h c=>c.1,λi v l=>?_,λJ m=>?_⟩
   .simp only[xAv,xBv,or_false] at hb;rcases hb with rfl|rfl
    .exact .inl rfl
    .exact .inr t
   .have l:its[i]?=some v:=by simpa using l
    have hi:i<y.length:=by rw[r];exact(xAq.mp l).1
    let⟨u,q,B⟩:=n.get<|xAk hi;rw[l] at q;cases q;exact⟨_,xAk hi,B⟩
   .let⟨b,e,m⟩:=m;cases e;exact I.tuple_inj m j
def tu{w:World}{a:C3}(t:a<lim)(hi:lim<=it):SrW false P w K lim (.ref a) it (λi h=>h.IsListIter it a i) where
 obj:=λi h ⟨o,e,_,d⟩=>⟨o,e,λv z=>by rw[d] at z;cases z⟩
 keep:=λi h M c k=>c.at λo e=>k o e
 dr:=by
  intro X F C G E Z O H s I y j;subst F C G;let⟨b,e,j⟩:=j
  .cases e;let⟨its,n,p,L⟩:=I.list j;have r:=n.length;have D:=Draws.list (prog:=X.prog) (w:=X.w) (A:=X.A.in1) (by simpa using I.ok.hd E) it a (xA0<|xBc t hi) its.toArray;rw[xAp,<- r] at D;refine⟨_,_,_,λb hb=>?_,D,λi c=>⟨c,p.isList⟩,λi h c=>c.1,λi v l=>?_,λJ m=>?_⟩
   .simp only[xAv,xBv,or_false] at hb;rcases hb with rfl|rfl
    .exact .inl rfl
    .exact .inr t
   .have l:its[i]?=some v:=by simpa using l
    have hi:i<y.length:=by rw[r];exact(xAq.mp l).1
    let⟨u,q,B⟩:=n.get<|xAk hi;rw[l] at q;cases q;exact⟨_,xAk hi,B⟩
   .let⟨b,e,m⟩:=m;cases e;exact I.list_inj m j
noncomputable def zIb(kx d:C4)(K:xFr)(x y:V):It:=
 ⟨λi H=>∃b c u v,sqK kx K H x b/\sqK d K H y c/\b[i]?=some u/\c[i]?=some v,
  λi H p H'=>∃(q:C3) (u v:V),p=.ref q/\H q=none/\H'=upd H q (.tup [u,v])/\(∀b,sqK kx K H x b->b[i]?=some u)/\∀c,sqK d K H y c->c[i]?=some v,
  λi H=>∃b,sqK kx K H x b/\b.length=i⟩
def nQ{w:World}{y:V}{n:Nat}{t1 t2:Nat->Heap->Prop}{ky:C4}(t:SrW kx P w K n x n t1)(G:SrW ky P w K n y (n+1) t2) :
  zEi P w K (.Tuple elts k pos) (zIb kx ky K x y) [n+4,n+2,n+3,n,n+1] (n+4) (λi h=>IsZip h (n+4) (n+2) (n+3) .none/\IsPair h (n+2) (.ref n) (.ref<|n+1)/\(∃x y,IsPair h (n+3) x y)/\t1 i h/\t2 i h) where
 mem:=by simp
 obj:=λi h j c q=>by
  let⟨m,l,⟨x,y,r⟩,q4,q5⟩:=j;simp only[xAv,xBv,or_false] at q;rcases q with rfl|rfl|rfl|rfl|rfl
  .exact⟨_,m,λv z=>by cases z⟩
  .exact⟨_,l,λv z=>by cases z⟩
  .exact⟨_,r,λv z=>by cases z⟩
  .exact t.obj i h q4
  .exact G.obj i h q5
 keep:=λi h h' j k=>by
  let⟨m,l,⟨x,y,r⟩,q4,q5⟩:=j;exact⟨k _ ⋯ _ m,k _ ⋯ _ l,⟨x,y,k _ ⋯ _ r⟩,t.keep i h h' q4 λo e=>k _ ⋯ o e,G.keep i h h' q5 λo e=>k _ ⋯ o e⟩
 item:=by
  intro X hP T hK q i Z s O H E I hf j hg;subst hP T hK;let⟨M,ys,u,v,Y,hr,S,R⟩:=hg;let⟨m,l,⟨x0,y0,r⟩,q4,q5⟩:=j;let⟨f1,P1,S1,N,D1,a1,c1,r1,j1⟩:=t.dr X rfl rfl rfl q Z O H s I M Y;let⟨f2,P2,S2,m2,D2,a2,c2,r2,j2⟩:=G.dr X rfl rfl rfl q Z O H s I ys hr;have AP:=o7 (f1:=f1) (f2:=f2) N m2;have lz:n+4<s.heap.objs.size:=xA1 m;have h0:H s.heap.objs.size=none:=I.hok.fresh<|xAg _;refine nN D1 D2 AP m l r (a1 i q4) (a2 i q5) (xAq.mp S).1 (xAq.mp R).1 λF D h1 tk p1 p2 b1 b2 b3 b4 b5 hk=>?_;let⟨u',B,ru⟩:=r1 i F p1;rw[S] at B;cases B;let⟨v',A,rv⟩:=r2 i D p2;rw[R] at A;cases A;have I1:Inv X Z O (upd H s.heap.objs.size<|.tup [u,v]) {s with heap:=s.heap.push {cls:=.type "tuple",data:=.seq #[F,D]},toks:=tk}:=by
   refine I.laid (λb o e=>xAf _ e) (xAg _) ⟨by simp[sizeLine_eq],[F,D],.cons ru<|.cons rv .nil,_,xAl _ rfl,rfl,_,rfl⟩
  refine⟨_,rfl,wpAny_letOwnedTupleGo_zip (s:={s with heap:=h1,toks:=tk}) b1 λh2 e1 W=>?_⟩;have d:Heap.SameBut (n+4) h1 h2:=W;have C:∀b∈[n+4,n+2,n+3,n,n+1],zC1 X Z (upd H s.heap.objs.size<|.tup [u,v]) b:=λb hb=>by
   let⟨f0,f⟩:=hf b hb;refine⟨?_,f⟩;rw[bt]
   .exact f0
   .simp only[xAv,xBv,or_false] at hb;rcases hb with rfl|rfl|rfl|rfl|rfl <;> exact xA0 ()
  have I2:=Inv.turnedL (t':=tk) (h':=h2) (fp:=[n+4,n+2,n+3,n,n+1]) I1 (λb o hb J=>?_) C
  .refine⟨.ref s.heap.objs.size,_,I2,rfl,⟨_,u,v,rfl,h0,rfl,λL Q=>by rw[j1 L Q];exact S,λL Q=>by rw[j2 L Q];exact R⟩,⟨e1,?_,⟨F,D,?_⟩,?_,?_⟩,λb hb=>(C b hb).1⟩
   .exact(d.2 _ AP.q1).trans<|hk _ _ AP.q1 AP.q5 AP.q6 AP.q7 l
   .exact(d.2 _ AP.q2).trans b2
   .exact t.keep _ _ _ (c1 _ _ b3) λo e=>(d.2 _ AP.q3).trans e
   .exact G.keep _ _ _ (c2 _ _ b4) λo e=>(d.2 _ AP.q4).trans e
  .simp only[xAv,xBv,or_false,not_or] at hb;rw[d.2 b hb.1];by_cases zz:b=s.heap.objs.size
   .subst zz;rw[show h1.get? s.heap.objs.size=_ from b5];rw[<- J];exact(xAl _ rfl).symm
   .erw[hk b o hb.1 hb.2.2.1 hb.2.2.2.1 hb.2.2.2.2];exact(Heap.get?_push_cases J).elim (λy=>absurd y.1 zz) id
 done:=by
  intro X hP T hK q i Z s O H E I hf j hg;subst hP T hK;let⟨M,Y,rfl⟩:=hg;let⟨m,l,⟨x0,y0,r⟩,q4,q5⟩:=j;let⟨f1,P1,S1,N,D1,a1,c1,r1,j1⟩:=t.dr X rfl rfl rfl q Z O H s I M Y;have AP:=o7 (f1:=f1) (f2:=[]) N λb hb=>nomatch hb;refine nO D1 AP m l (a1 _ q4) λh' J=>⟨rfl,Inv.turnedL (t':=s.toks) (fp:=[n+4,n+2,n+3,n,n+1]) I (λb o hb e=>?_) hf⟩
  simp only[xAv,xBv,or_false,not_or] at hb;exact J b o hb.1 hb.2.2.1 hb.2.2.2.1 hb.2.2.2.2 e
 self:=λ_ _ _ _ _ j h=>wpAny_pyIter_zip j.1 h
def zD8(K:xFr)(vs:C9)(H:Hp)(R:It->Hp->Prop):Prop:=∃x y kx b,vs=[x,y]/\(∃xs,sqK kx K H x xs)/\(∃ys,sqK b K H y ys)/\R (zIb kx b K x y) H
def zHo(K:xFr)(ta:TA):TI:=λO H R=>ta O H λb H1=>zD8 K b H1 R
section
variable{X:Cx}
theorem pG{Z:B7<|C3×Obj}{O:St}{H:Hp}{v:B9}(I:Inv X Z O H s)(r:zAh x v){xs:C9}(h:sqK kx X.K H x xs)(lim it:Nat)(j:s.heap.objs.size<=lim)(hi:lim<=it) :
  ∃(o:Obj) (tn:Nat->Heap->Prop),(∀h',(∀c o,s.heap.get? c=some o->h'.get? c=some o)->zBl v o h')/\o.isFreed=false/\SrW kx X.prog X.w X.K lim x it tn/\∀h',h'.get? it=some o->tn 0 h':=by
 let⟨a,rfl,i⟩:=h;obtain rfl:v=Value.ref a:=r;cases kx with
 |true=>
  let⟨its,m,p,t⟩:=I.tuple i;have d:a<s.heap.objs.size:=by let⟨o,e,_⟩:=p;exact xA1 e
  refine⟨zBw a,_,λh' k=>?_,rfl,tq (xBc d j) hi,λh' e=>⟨_,e,rfl,rfl⟩⟩;intro b w A E l Q e q;subst e;let⟨o,e,r⟩:=p;exact wpAny_pyIter_tuple (items:=its.toArray) ⟨o,k _ _ e,r⟩ q
 |false=>
  let⟨its,m,p,t⟩:=I.list i;have d:a<s.heap.objs.size:=by let⟨o,n,e,_⟩:=p;exact xA1 e
  refine⟨{cls:=.type "list_iterator",data:=.fields #[.ref a,.int 0 0]},_,λh' k=>?_,rfl,tu (xBc d j) hi,λh' e=>⟨_,e,rfl,rfl⟩⟩;intro b w A E l Q e q;subst e;let⟨o,n,e,r⟩:=p;exact wpAny_pyIter_list (PlainL.isList ⟨o,n,k _ _ e,r⟩) q
theorem tY{b:C0}{pt:Pos}(G:Gl X "zip")(E:X.mg "zip"=none)(J:PA X [a,b] ta)(C:starEach [a,b] X.env=(false,eval a X.env)::starEach [b] X.env)(j:starEach [b] X.env=[(false,eval b X.env)]) :
  PI X (.Tuple elts k pt) (.Call (.Name "zip" p) [a,b] [] pos) (zHo X.K ta):=by
 intro Z s O H R I h;refine Call_ (fG I G E sx<|PyProof.Rows.callWith_type1 (thn (J pos Z s O H _ I h) λus c ⟨S,H1,I1,r1,v⟩=>?_) C<|by rw[j];rfl);let⟨x,y,kx,T,e,⟨Q,D⟩,⟨ys,hr⟩,q⟩:=v;subst e;cases r1 with
 |cons r i=>
  cases i with
  |cons r2 i=>
   cases i;let⟨o1,t1,B,m,S1,t⟩:=pG I1 r D c.heap.objs.size c.heap.objs.size (xAg _)<|xAg _;let⟨o2,t2,A,l,S2,o⟩:=pG I1 r2 hr c.heap.objs.size (c.heap.objs.size+1) (xAg _)<|Nat.le_succ _;erw[<-o6 (B _ λ_ _ e=>e) (A _ λ_ _ e=>xAf _ e) λL n N M a4 a5 F=>?_,wpAny_pyIter_zip n];have I2:Inv X Z O H1 {c with heap:=L}:=I1.kept (t':=c.toks) F;refine⟨c.heap.objs.size+4,[c.heap.objs.size+4,c.heap.objs.size+2,c.heap.objs.size+3,c.heap.objs.size,c.heap.objs.size+1],_,_,H1,rfl,I2,nQ S1 S2,⟨n,N,⟨_,_,M⟩,t _<|a4 m,o _<|a5 l⟩,λb hb=>?_,q⟩;have d:c.heap.objs.size<=b:=by
    simp only[xAv,xBv,or_false] at hb;rcases hb with rfl|rfl|rfl|rfl|rfl <;> lia
   exact I1.fpOk d<|I1.hok.fresh d
end
end L2
namespace Fx
open PySem PySem.Spec L2
open PyProof.Rows hiding St
variable{ys:B7 V}{xs:C6}{ts:B7 C0}{k:Nat}{is js:C7}{S:So}{H:Hp}{O:Sg}{τ:St}{QS:St->Hp->Prop}{D:zDs}{o:C0}
structure Wku(B:Bs)(m0J:It)(W:Wd)(vs:C6):Prop where
 go:∀{i:Nat}{H:Hp}{W':Wd}{S:So},W.Lf W'->RS B W' S H->i<vs.length->m0J.go i H
 yld:∀{i:Nat}{H H':Hp}{x:V}{v:U}{W':Wd}{S:So},W.Lf W'->RS B W' S H->vs[i]?=some v->m0J.yld i H x H'->∃W2,W'.Le W2/\RS B W2 S H'/\Rv B W2 v x
 stop:∀{H:Hp}{W':Wd}{S:So},W.Lf W'->RS B W' S H->m0J.stop vs.length H
def IL(B:Bs)(W:Wd)(R:It->Hp->Prop):D5:=λv S=>∀W' a H b,W.Le W'->RS B W' S H->v=.tup b->Wku B a W' b->R a H
def LI(B:Bs)(G:D7)(Ex:St->XK)(c:D4):TI:=λτ H R=>∃W O S,RS B W S H/\Rg B W O τ/\c G O S (XL B W<|Ex τ) (IL B W R)
structure FI(X:Cx)(B:Bs)(G:D7)(Ex:St->XK)(tg it:C0)(c:D4):Prop where
 p:PI X tg it (LI B G Ex c)
 m:zA0 G c
def wkI{X:Cx}{a e:C0}{t t':TI}(h:PI X a e t)(w:∀O H R,t' O H R->t O H R):PI X a e t':=λZ s O H R I q=>h Z s O H R I<|w _ _ _ q
section
variable{B:Bs}{W:Wd}{vs:C6}
def zG0{a:C3}(h:SqL B.K W.F a ys)(r:Rvs B W vs ys):Wku B (Itl B.K a) W vs where
 go:=λ{i H W' S} le b j=>⟨ys,ys[i]'(by rw[r.length];exact j),eU (λp o z=>b.fz p o<|le.f p o z) h,⋯⟩
 yld:=λ{i H H' x v W' S} le b d ⟨e,y⟩=>by
  subst e;let⟨u,l,c⟩:=r.get d;have:=y ys<|eU (λp o z=>b.fz p o<|le.f p o z) h;rw[l] at this;cases this;exact⟨W',.refl,b,c.lf le⟩
 stop:=λle b=>⟨ys,eU (λp o z=>b.fz p o<|le.f p o z) h,by rw[r.length];exact xAg _⟩
def zId{a:C3}(h:∀H:Hp,(∀p o,W.F p=some o->H p=some o)->SqT B.K H a ys)(r:Rvs B W vs ys):Wku B (Itt B.K a) W vs where
 go:=λ{i H W' S} le b j=>⟨ys,ys[i]'(by rw[r.length];exact j),h _ λp o z=>b.fz p o<|le.f p o z,⋯⟩
 yld:=λ{i H H' x v W' S} le b d ⟨e,y⟩=>by
  subst e;let⟨u,l,c⟩:=r.get d;have:=y ys (h _ λp o z=>b.fz p o<|le.f p o z);rw[l] at this;cases this;exact⟨W',.refl,b,c.lf le⟩
 stop:=λle b=>⟨ys,h _ λp o z=>b.fz p o<|le.f p o z,by rw[r.length];exact xAg _⟩
theorem jU:∀{n:Nat}{lo:Int}{i:Nat},(zBx lo n)[i]?=if i<n then some (.int<|lo+i) else none
 |0,_,_=>by simp[zBx]
 |n+1,lo,0=>by simp[zBx]
 |n+1,lo,i+1=>by
  show(zBx (lo+1) n)[i]?=_;rw[jU];by_cases h:i<n
  .rw[xCg h,xCg ()];congr 2;lia
  .rw[xCf h,xCf ()]
theorem zAz:∀{n:Nat}{lo:Int},(zBx lo n).length=n
 |0,_=>rfl
 |n+1,lo=>by show(zBx (lo+1) n).length+1=_;rw[zAz]
def zJi{lo:Int}{n:Nat}:Wku B (Itr lo n) W (zBx lo n) where
 go:=λle b c=>by rw[zAz] at c;exact c
 yld:=λ{i H H' x v W' S} le b a ⟨e,y⟩=>by
  subst e y;rw[jU] at a;split at a
  .cases a;exact⟨W',.refl,b,rfl⟩
  .cases a
 stop:=λle b=>by rw[zAz];exact xAg _
def zJh{z:Str}:Wku B (Its z) W (z.cps.toList.map λc=>.str ⟨#[c]⟩) where
 go:=λle a d=>by show _<z.cps.size;simpa using d
 yld:=λ{i H H' x v W' S} le a b y=>by
  let⟨e,c,h,j⟩:=y;subst e j;rw[xAw] at b;have:z.cps.toList[i]?=some c:=by simpa using h
  rw[this] at b;cases b;exact⟨W',.refl,a,rfl⟩
 stop:=λle a=>by show _=z.cps.size;simp
theorem jo:∀{xs ys:C6}{i:Nat}{v:U},(zCt xs ys)[i]?=some v->∃x y,xs[i]?=some x/\ys[i]?=some y/\v=.tup [x,y]
 |[],_,_,_,h=>by simp[zCt] at h
 |_::_,[],_,_,h=>by simp[zCt] at h
 |x::xs,y::ys,0,_,h=>by simp[zCt] at h;exact⟨x,y,rfl,rfl,h.symm⟩
 |x::xs,y::ys,i+1,_,h=>by simpa using jo (xs:=xs) (ys:=ys) (i:=i) (by simpa [zCt] using h)
theorem gx:∀{xs ys:C6},xs.length=ys.length->(zCt xs ys).length=xs.length
 |[],_,_=>rfl
 |x::xs,[],h=>by cases h
 |x::xs,y::ys,h=>by simp[zCt,gx (xs:=xs) (ys:=ys)<|by simpa using h]
def zJg{r n:C4}{x y:V}{as bs:B7 V}{ys:C6}(m:∀H:Hp,(∀p o,W.F p=some o->H p=some o)->sqK r B.K H x as)(t:∀H:Hp,(∀p o,W.F p=some o->H p=some o)->sqK n B.K H y bs)(r1:Rvs B W xs as)(r2:Rvs B W ys bs)(j:xs.length=ys.length):Wku B (zIb r n B.K x y) W (zCt xs ys) where
 go:=λ{i H W' S} le c l=>by
  rw[gx j] at l;exact⟨as,bs,as[i]'(by rw[r1.length];exact l),bs[i]'(by rw[r2.length,<- j];exact l),m _ λp o z=>c.fz p o<|le.f p o z,t _ λp o z=>c.fz p o<|le.f p o z,⋯,⋯⟩
 yld:=λ{i H H' X v W' S} le c G ⟨q,u,A,T,R,Q,P,N⟩=>by
  subst T Q;let⟨a,b,J,I,rfl⟩:=jo G;let⟨C,M,E⟩:=r1.get J;have:=P as (m _ λp o z=>c.fz p o<|le.f p o z);rw[M] at this;cases this;let⟨C,L,e⟩:=r2.get I;have:=N bs (t _ λp o z=>c.fz p o<|le.f p o z);rw[L] at this;cases this;let⟨d,h⟩:=c.fresh (o:=.tup [u,A]) R;exact⟨_,d,h,q,_,rfl,bv,⟨_,_,rfl,(E.lf le).mono d,⟨_,_,rfl,(e.lf le).mono d,rfl⟩⟩⟩
 stop:=λle c=>⟨as,m _ λp o z=>c.fz p o<|le.f p o z,by rw[gx j];exact r1.length⟩
end
section
variable{B:Bs}{W:Wd}{vs:C6}
theorem gT:∀{xs:C6}{lo:Int},(zCv lo xs).length=xs.length
 |[],_=>rfl
 |_::xs,lo=>by show(zCv (lo+1) xs).length+1=_;rw[gT];rfl
theorem jY:∀{xs:C6}{lo:Int}{i:Nat}{v:U},(zCv lo xs)[i]?=some v->∃x,xs[i]?=some x/\v=.tup [.int<|lo+i,x]
 |[],_,_,_,h=>by cases h
 |x::xs,lo,0,v,h=>by cases h;exact⟨x,rfl,by congr 3;lia⟩
 |x::xs,lo,i+1,v,h=>by
  let⟨y,a,rfl⟩:=jY (xs:=xs) (lo:=lo+1) (i:=i) h;exact⟨y,a,by congr 3;lia⟩
def zEz{a:C3}(h:∀H:Hp,(∀p o,W.F p=some o->H p=some o)->SqT B.K H a ys)(r:Rvs B W vs ys):Wku B (zIc B.K a) W (zCv 2 vs) where
 go:=λ{i H W' S} le b j=>⟨ys,ys[i]'(by rw[gT] at j;rw[r.length];exact j),h _ λp o z=>b.fz p o<|le.f p o z,⋯⟩
 yld:=λ{i H H' x v W' S} le b m ⟨q,u,C,A,y,t⟩=>by
  subst C y;let⟨E,e,rfl⟩:=jY m;let⟨G,n,l⟩:=r.get e;have:=t ys (h _ λp o z=>b.fz p o<|le.f p o z);rw[n] at this;cases this;let⟨c,d⟩:=b.fresh (o:=.tup [.int ((i+2:Nat):Int),u]) A;exact⟨_,c,d,q,_,rfl,bv,⟨_,_,rfl,(by show V.int _=V.int _;congr 1;lia),⟨_,_,rfl,(l.lf le).mono c,rfl⟩⟩⟩
 stop:=λle b=>⟨ys,h _ λp o z=>b.fz p o<|le.f p o z,by rw[gT,r.length]⟩
end
def zFt(K:xFr)(x:V)(H:Hp)(R:It->Hp->Prop):Prop:=zFs K x H R\/zFr K x H R\/zDl x H R
def iA(K:xFr)(a:TE):TI:=λO H R=>a O H λx H1=>zFt K x H1 R
section
variable{X:Cx}{e tg:C0}{te:TE}
def zA(y:PE X e te):PI X tg e<|iA X.K te:=by
 intro Z s O H R I h;refine thn (y Z s O H _ I h) λv c l=>?_;let⟨x,H1,I1,r1,n⟩:=l;rcases n with ⟨a,e,⟨xs,i⟩,q⟩|⟨a,e,⟨xs,i⟩,q⟩|q
 .subst e;cases r1;let⟨its,m,p,r⟩:=I1.list i;erw[wpAny_pyIter_list p.isList,<-⟨c.heap.objs.size,[c.heap.objs.size],_,_,H1,rfl,I1.kept (t':=c.toks) λb o e=>xAf _ e,nR a _,⟨_,xAl _ rfl,rfl,rfl⟩,λb hb=>?_,q⟩];have e:b=c.heap.objs.size:=by simpa using hb
  subst e;exact I1.fpOk (xAg _)<|I1.hok.fresh<|xAg _
 .subst e;cases r1;let⟨its,m,p,r⟩:=I1.tuple i;erw[wpAny_pyIter_tuple (show c.heap.IsTuple a its.toArray from p),<-⟨c.heap.objs.size,[c.heap.objs.size],_,_,H1,rfl,I1.kept (t':=c.toks) λb o e=>xAf _ e,ko a _,⟨_,xAl _ rfl,rfl,rfl⟩,λb hb=>?_,q⟩];have e:b=c.heap.objs.size:=by simpa using hb
  subst e;exact I1.fpOk (xAg _)<|I1.hok.fresh<|xAg _
 .let⟨z,rfl,q⟩:=q;let⟨t,rfl⟩:=r1;cases ha:z.cps.all (·<128)
  .refine wpAny_pyIter_wide ha ⟨c.heap.objs.size,[c.heap.objs.size],_,_,H1,rfl,I1.kept (t':=c.toks) λb o e=>xAf _ e,jt _ z t "str_iterator" ∅ (λA' j=>Walks.strWide j _ z t) λ_ _ _ _ _ d h=>wpAny_pyIter_striter_wide d h,⟨_,xAl _ rfl,rfl,rfl⟩,λb hb=>?_,q⟩;have e:b=c.heap.objs.size:=by simpa using hb
   subst e;exact I1.fpOk (xAg _)<|I1.hok.fresh<|xAg _
  .refine wpAny_pyIter_ascii ha ⟨c.heap.objs.size,[c.heap.objs.size],_,_,H1,rfl,I1.kept (t':=c.toks) λb o e=>xAf _ e,jt _ z t "str_ascii_iterator" ∅ (λA' j=>Walks.strAscii j _ z t) λ_ _ _ _ _ d h=>wpAny_pyIter_striter_ascii d h,⟨_,xAl _ rfl,rfl,rfl⟩,λb hb=>?_,q⟩;have e:b=c.heap.objs.size:=by simpa using hb
   subst e;exact I1.fpOk (xAg _)<|I1.hok.fresh<|xAg _
end
section
variable{B:Bs}{up:B7<|Str×Str}{G:D7}{Ex:St->XK}{c a b d:D4}{as:D8}
variable{X:Cx}{e ea eb tg:C0}{es:B7 C0}{pos p1 p2:Pos}{x:Str}(g:zBv up G)
include g
set_option tactic.hygienic true
theorem vX(M:X.K=B.K)(h:FE X B G Ex e a):FI X B G Ex tg e<|cP .seq<|aC a aN:=
 ⟨wkI (zA h.p) λτ H R ⟨W,O,S,C,F,L⟩=>LE.go h.m C F L λv S1 W1 T H1 j rs1 i E N=>by
  let⟨z,S2,l,q⟩:=g.pok N;change zFe .tup v S1=_ at l;unfold zFe at l;rw[M];split at l
  .next A=>
   cases l;exact .inr (.inr ⟨A,i,q W1 _ H1 _ j rs1 rfl zJh⟩)
  .next p=>
   split at l
   .next xs n=>
    cases l;let⟨Q,rfl,J⟩:=i;let⟨W2,t,rs2,Y,ys,P,y,r3⟩:=rs1.freeze n J;cases P;exact .inl ⟨Q,rfl,⟨ys,.of<|rs2.fz _ _ y⟩,q W2 _ H1 xs (j.trans t) rs2 rfl<|zG0 (.of y) r3⟩
   .cases l
  .next Z I=>
   split at l
   .next xs n=>
    cases l;cases v with
    |tup _=>cases n;let⟨p,ys,rfl,f,r⟩:=i;exact .inr (.inl ⟨p,rfl,⟨ys,.of<|rs1.fz _ _ f⟩,q W1 _ H1 xs j rs1 rfl<|zId (λH hF=>.of<|hF _ _ f) r⟩)
    |kt _=>cases n;let⟨p,ys,rfl,f,r⟩:=i;exact .inr (.inl ⟨p,rfl,⟨ys,f H1⟩,q W1 _ H1 xs j rs1 rfl<|zId (λH _=>f H) r⟩)
    |lst _=>cases n;let⟨p,ys,rfl,f,r⟩:=i;exact .inl ⟨p,rfl,⟨ys,.of<|rs1.fz _ _ f⟩,q W1 _ H1 xs j rs1 rfl<|zG0 (.of f) r⟩
    |kl _=>cases n;let⟨p,ys,rfl,f,r⟩:=i;exact .inl ⟨p,rfl,⟨ys,eU rs1.fz f⟩,q W1 _ H1 xs j rs1 rfl<|zG0 f r⟩
    |ref p=>exact(I p rfl).elim
    |_=>cases n
   ·(cases l),mP g<|mAC g h.m<|mAN g⟩
set_option tactic.hygienic false
theorem yr(K:Gl X "range")(I:X.mg "range"=none)(h:FE X B G Ex e a)(l:zAa e=true):FI X B G Ex tg (.Call (.Name "range" p1) [e] [] pos)<|cP .rng1<|aC a aN:=
 ⟨wkI (zy K I (fo g h (hX g) l).p l) λτ H R ⟨W,O,S,C,F,J⟩=>LA.go (mAC g h.m<|mAN g) C F J λN S1 W1 us H1 P y t n E A=>by
  let⟨z,S2,i,q⟩:=g.pok A;let⟨v,rfl⟩:=vs1 i rfl λa b r=>by cases a <;> rfl
  let⟨u,rfl,r1⟩:=n.inv1;cases v <;> try (cases i;done)
  delta pr at i;dsimp only at i;split at i
  .next j L=>
   cases i;let⟨A,M⟩:=xBe L;exact⟨_,by rw[show u=_ from r1],A,M,q W1 _ H1 _ y t rfl zJi⟩
  ·(cases i),mP g<|mAC g h.m<|mAN g⟩
theorem yz{j:Nat}{pt np kp:Pos}(y:X.K=B.K)(J:Gl X "enumerate")(F:X.mg "enumerate"=none)(h:FE X B G Ex e a)(l:zAa e=true):FI X B G Ex (.Tuple ts k pt) (.Call (.Name "enumerate" p1) [e] [⟨some "start",.Constant (.int 2) j np,kp⟩] pos)<|cP .enm2<|aC a aN:=
 ⟨wkI (qg J F (fo g h (hX g) l).p<|by rw[bx l];rfl) λτ H R ⟨W,O,S,A,E,I⟩=>LA.go (mAC g h.m<|mAN g) A E I λM S1 W1 us H1 N i rs1 t C L=>by
  let⟨z,S2,n,q⟩:=g.pok L;let⟨v,rfl⟩:=vs1 n rfl λa b r=>by cases a <;> rfl
  let⟨u,rfl,r1⟩:=t.inv1;cases v <;> try (cases n;done)
  .cases n;let⟨p,ys,rfl,f,r⟩:=r1;rw[y];exact⟨p,rfl,⟨ys,.of<|rs1.fz _ _ f⟩,q W1 _ H1 _ i rs1 rfl<|zEz (λH hF=>.of<|hF _ _ f) r⟩
  .cases n;let⟨p,ys,rfl,f,r⟩:=r1;rw[y];exact⟨p,rfl,⟨ys,f H1⟩,q W1 _ H1 _ i rs1 rfl<|zEz (λH _=>f H) r⟩,mP g<|mAC g h.m<|mAN g⟩
omit g in
theorem pH{W:Wd}{v:U}{u:V}(r:Rv B W v u)(h:sqF v=some xs):∃k ys,(∀H:Hp,(∀p o,W.F p=some o->H p=some o)->sqK k B.K H u ys)/\Rvs B W xs ys:=by
 cases v with
 |tup _=>cases h;let⟨p,ys,rfl,f,r⟩:=r;exact⟨true,ys,λH hF=>⟨p,rfl,.of<|hF _ _ f⟩,r⟩
 |kt _=>cases h;let⟨p,ys,rfl,f,r⟩:=r;exact⟨true,ys,λH _=>⟨p,rfl,f H⟩,r⟩
 |lst _=>cases h;let⟨p,ys,rfl,f,r⟩:=r;exact⟨false,ys,λH hF=>⟨p,rfl,.of<|hF _ _ f⟩,r⟩
 |kl _=>cases h;let⟨p,ys,rfl,f,r⟩:=r;exact⟨false,ys,λH hF=>⟨p,rfl,eU hF f⟩,r⟩
 |_=>cases h
theorem AC(hK:X.K=B.K)(hg:Gl X "zip")(T:X.mg "zip"=none)(h:FE X B G Ex ea a)(h2:FE X B G Ex eb b)(n:zAa ea=true)(i:zAa eb=true):FI X B G Ex (.Tuple ts k p2) (.Call (.Name "zip" p1) [ea,eb] [] pos)<|cP .zip<|zAw a b:=by
 have fa:FA X B G Ex [ea,eb]<|zAw a b:=fo g h (fo g h2 (hX g) i) n;refine⟨wkI (tY hg T fa.p (bx n)<|by rw[bx i];rfl) λτ H R ⟨W,O,S,J,M,Z⟩=>LA.go fa.m J M Z λF S1 W1 us H1 Y A j r L h1=>?_,mP g fa.m⟩;let⟨z,S2,l,q⟩:=g.pok h1;match F,Y with
 |[v,w],_=>
  let⟨u,I,rfl,r1,r2⟩:=r.inv2;delta pr at l;dsimp only at l;split at l
  .next xs ys ex ey=>
   split at l
   .next Q=>
    cases l;let⟨P,as,E,y⟩:=pH r1 ex;let⟨N,bs,C,t⟩:=pH r2 ey;rw[hK];exact⟨u,I,P,N,rfl,⟨as,E _ j.fz⟩,⟨bs,C _ j.fz⟩,q W1 _ H1 _ A j rfl<|zJg E C y t<|Nat.eq_of_beq_eq_true Q⟩
   .cases l
  .cases l
end
def zF6:C7->TGs
 |[]=>zHq
 |i::is=>zDo (zDf i)<|zF6 is
def zGs(K:xFr)(is:C7)(one:C4):TG:=match one with
 |true=>zDf<|is.headD 0
 |false=>zGt K is.length<|zF6 is
structure FG(X:Cx)(B:Bs)(G:D7)(tg:C0)(is:C7)(one:C4):Prop where
 p:PG X tg (zGs B.K is one)
section
variable{B:Bs}{up:B7<|Str×Str}{G:D7}{Ex:St->XK}{c a b d:D4}{as:D8}{t:TTx Prop}{u v:D3}
variable{X:Cx}{e ea eb tg iter:C0}{es:B7 C0}{st:Stmt}{sts body orelse:B7 Stmt}{pos p1 p2:Pos}{x y:Str}{i:Nat}(g:zBv up G)
def BS(l:X.N.Nodup)(hi:X.N[i]?=some x)(h:Loc X.env.scope x)(j:X.fn x=true\/X.env.scope.names.lookup x=some .local):FG X B G (.Name x pos) [i] true:=⟨mh l hi h j⟩
theorem gR(m:X.N.Nodup):∀{es:B7 C0}{is:C7},(∀(j:Nat)(e:C0),es[j]?=some e->∃x p i,e=.Name x p/\is[j]?=some i/\X.N[i]?=some x/\Loc X.env.scope x/\(X.fn x=true\/X.env.scope.names.lookup x=some .local))->es.length=is.length->PGs X es (zF6 is)/\es.all zAa=true
 |[],[],_,_=>⟨mf,rfl⟩
 |e::es,[],_,l=>by cases l
 |[],i::is,_,l=>by cases l
 |e::es,i::is,h,l=>by
  let⟨x,p,I,rfl,A,F,E,C⟩:=h 0 e rfl;cases A;let⟨q,n⟩:=gR m (es:=es) (is:=is) (λj e r=>h (j+1) e r) (by simpa using l);exact⟨gF (mh m F E C) q rfl,by rw[xCj,n];rfl⟩
theorem rB:∀{is:C7}{W:Wd}{S:So}{H:Hp}{O:Sg}{τ:St}{vs:C6}{us:B7 V}{QS:St->Hp->Prop},RS B W S H->Rg B W O τ->Rvs B W vs us->vs.length=is.length->(∀τ',Rg B W (puts O is vs) τ'->(∀j,j∉is->τ'[j]?=τ[j]?)->QS τ' H)->zF6 is us τ H QS
 |[],W,S,H,O,τ,vs,us,QS,p,n,l,h,q=>by
  match vs,h with
  |[],_=>rw[show us=[] from l];exact⟨rfl,q τ n λ_ _=>rfl⟩
 |i::is,W,S,H,O,τ,vs,us,QS,p,n,l,h,q=>by
  match vs,h with
  |v::vs,h=>
   let⟨u,us,rfl,r1,r2⟩:=l;exact⟨u,us,rfl,rB p (n.put r1) r2 (by simpa using h) λτ' m A=>q τ' m λj r=>by
    rw[A j λz=>r<|xAs _ z,List.getElem?_set_ne λz=>r<|by simp[z]]⟩
theorem jC:∀{is:C7}{O:Sg}{vs:C6},(puts O is vs).length=O.length
 |[],_,_=>by cases ‹C6› <;> rfl
 |i::is,O,[]=>rfl
 |i::is,O,v::vs=>by show(puts (put O i v) is vs).length=_;rw[jC,f9]
include g
theorem jV{one:C4}{W:Wd}{v:U}{x:V}{k:Sg->Prop}(E:one=true->is.length=1)(rs:RS B W S H)(C:Rg B W O τ)(A:Rv B W v x)(h:tgt is one G v O k)(q:∀O' τ',k O'->Rg B W O' τ'->O'.length=O.length->(∀j,j∉is->τ'[j]?=τ[j]?)->QS τ' H):zGs B.K is one x τ H QS:=by
 cases one with
 |true=>
  match is,E rfl with
  |[i],_=>exact q (put O i v) _ h (C.put A) f9 λj n=>by rw[List.getElem?_set_ne λz=>n<|by rw[<- z];simp]
 |false=>
  unfold tgt at h;dsimp only at h;cases v <;> try (exact(g.no h).elim)
  dsimp only at h;split at h
  .next l=>
   have l:=Nat.eq_of_beq_eq_true l;let⟨p,ys,rfl,f,r⟩:=A;exact⟨p,ys,rfl,.of<|rs.fz _ _ f,by rw[r.length,l],rB rs C r l λτ' m n=>q _ τ' h m jC n⟩
  .exact(g.no h).elim
omit g in
theorem BR(A:X.K=B.K)(q:X.calm=true)(r:X.N.Nodup)(h:∀(j:Nat)(e:C0),es[j]?=some e->∃x p i,e=.Name x p/\is[j]?=some i/\X.N[i]?=some x/\Loc X.env.scope x/\(X.fn x=true\/X.env.scope.names.lookup x=some .local))(m:es.length=is.length):FG X B G (.Tuple es k pos) is false:=by
 let⟨n,l⟩:=gR r h m;refine⟨?_⟩;show PG X _<|zGt B.K is.length<|zF6 is;rw[<- A];exact kO q n ((dj l).1.trans m) (dj l).2
theorem ww:FS X B G Ex (.Pass pos) sN:=⟨wkS tJ λD τ H ⟨W,O,S,j,l,h⟩=>h W τ H .refl j l,mN g⟩
theorem zo:FSs X B G Ex [] sN:=⟨zIe tI λD τ H ⟨W,O,S,j,l,h⟩=>h W τ H .refl j l,mN g⟩
theorem wA(r:FS X B G Ex st u)(q:FSs X B G Ex sts v):FSs X B G Ex (st::sts)<|sQ u v:=
 ⟨zIe (pV r.p q.p) λD τ H ⟨W,O,S,A,C,h⟩=>⟨W,O,S,A,C,r.m.m (E:=sqE (LEe B Ex W D) λσ1 S1=>v G σ1 S1<|LEe B Ex W D) (E':=LEe B Ex W {D with nx:=LS B G Ex v D}) ⟨λσ1 S1 F W1 τ1 H1 n j l=>⟨W1,σ1,S1,j,l,q.m.m (LEe.inc n) F⟩,λ_ _ z=>z,λ_ _ z=>z,λ_ _ z=>z,λ_ _ _ z=>z⟩ h⟩,mQ g r.m q.m⟩
omit g in
theorem xle{W:Wd}(rg:Rg B W O τ):∀x S,(LEe B Ex W D).x x O S->XL B W (Ex τ) x S:=λx S h W' C l H le j=>h W' τ C l H le j<|rg.mono le
omit g in
theorem LE.stm{W:Wd}{Q:VK}{k:D5}(m:zA0 G c)(l:RS B W S H)(j:Rg B W O τ)(h:c G O S (λx S1=>(LEe B Ex W D).x x O S1) k)(n:∀v S' W' u H',W.Le W'->RS B W' S' H'->Rv B W' v u->Rg B W' O τ->k v S'->Q u H'):LE B G Ex c τ H Q:=
 LE.go m l j (m.m (λx S=>xle j x S) (λ_ _ h=>h) h) n
theorem pL(n:FE X B G Ex e c)(F:X.N.Nodup)(hi:X.N[i]?=some x)(C:Loc X.env.scope x)(l:swapsWith e (some<|.Name x p1) pos.line X.env=pure false)(E:X.fn x=true\/X.env.scope.names.lookup x=some .local):FS X B G Ex (.Assign [.Name x p1] e pos)<|sA i c:=
 ⟨wkS (wI F hi C n.p l E) λD τ H ⟨W,O,S,r,A,h⟩=>LE.stm n.m r A h λv S' W' u H' le j q rg' I=>I W' _ H' le j<|rg'.put q,mA g n.m⟩
theorem Bn(n:FE X B G Ex e c)(A:zA3 e=true):FS X B G Ex (.Expr e pos)<|sE c:=
 ⟨wkS (zw n.p A) λD τ H ⟨W,O,S,q,r,h⟩=>LE.stm n.m q r h λv S' W' u H' le j E l C=>C W' τ H' le j l,mSE g n.m⟩
theorem vB(l:FE X B G Ex e c):FS X B G Ex (.Return (some e) pos)<|sR c:=
 ⟨wkS (wJ l.p) λD τ H ⟨W,O,S,q,A,h⟩=>LE.stm l.m q A h λv S' W' u H' le j n r C=>C W' u H' le j n,mR g l.m⟩
theorem Bm(n:FT X B G Ex e t)(r:FSs X B G Ex body u)(hb:FSs X B G Ex orelse v):FS X B G Ex (.If e body orelse pos)<|sI t u v:=
 ⟨wkS (zv n.p r.p hb.p) λD τ H ⟨W,O,S,C,A,h⟩=>LT.go n.m C A (n.m.m (λx S=>xle A x S) (λ_ _ h=>h) h) λc S' W' H' le j l q=>by
  have q:=g.bk q;cases c with
  |true=>exact⟨W',O,S',j,l,r.m.m (LEe.inc le) q⟩
  |false=>exact⟨W',O,S',j,l,hb.m.m (LEe.inc le) q⟩,mI g n.m r.m hb.m⟩
omit g in
theorem PG.or'{t1 t2:TG}(h:PG X tg t1)(h2:PG X tg t2):PG X tg λv O H Q=>t1 v O H Q\/t2 v O H Q:=λZ s O H v u Q I r q=>q.elim (h Z s O H v u Q I r)<|h2 Z s O H v u Q I r
theorem zn{pt:Pos}(hK:X.K=B.K)(M:X.calm=true)(Z:X.N.Nodup)(J:FE X B G Ex e c)(h:∀(j:Nat)(e:C0),es[j]?=some e->∃x p i,e=.Name x p/\is[j]?=some i/\X.N[i]?=some x/\Loc X.env.scope x/\(X.fn x=true\/X.env.scope.names.lookup x=some .local))(I:es.length=is.length)(Y:swapsWithSole [.Tuple es k pt] e pos.line X.env=pure false)(T:swappedStores [.Tuple es k pt] e X.env=pure none):FS X B G Ex (.Assign [.Tuple es k pt] e pos)<|sU is c:=by
 let⟨L,A⟩:=gR Z h I;refine⟨wkS (pX J.p (PG.or' (kO (k:=k) (pos:=pt) M L (dj A).1 (dj A).2)<|wY (k:=k) (pos:=pt) M L (dj A).1 (dj A).2) Y T) λD τ H ⟨W,O,S,Q,R,h⟩=>LE.stm J.m Q R h λv S' W' u H' le l P F h'=>?_,mU g J.m⟩;let⟨z,S2,n,q⟩:=g.pok h';delta pr at n;dsimp only at n;split at n
 .next xs ex=>
  split at n
  .next r=>
   cases n;have r:=Nat.eq_of_beq_eq_true r;let⟨p,ys,rfl,sq,C⟩:=fB l P ex;have fin:=rB l F C r λτ' E _=>q W' τ' H' le l E;rw[hK];rcases sq with sq|sq
   .exact .inr ⟨p,ys,rfl,sq,by rw[C.length,r,I],fin⟩
   .exact .inl ⟨p,ys,rfl,sq,by rw[C.length,r,I],fin⟩
  .cases n
 .cases n
theorem zq{fl:C5}{f:Str}(Y:X.K=B.K)(F:ClF B fl)(hf:f∈fl)(E:FE X B G Ex o a)(P:FE X B G Ex e c)(hc:zA3 e=true):FS X B G Ex (.Assign [.Attribute o f p1] e pos)<|sP (.setf f) c<|aC a aN:=
 ⟨wkS (wL E.p P.p<|eJ hc) λD τ H ⟨W,O,S,rs,T,h⟩=>LE.stm P.m rs T h λv S1 W1 u1 H1 A L J N h1=>by
  refine LE.go E.m L N (E.m.m (λx S z=>XL.up A<|xle T x S z) (λ_ _ z=>z) h1) λw S2 W2 u2 H2 r l I M h2=>?_;let⟨z,S3,Z,q⟩:=g.pok h2;cases w <;> try (cases Z;done)
  let⟨C,fs,aa,cc,dx,vs,e4,Q,e6,hm,j,hh,R⟩:=jb l I<|show zCy _ _ _=_ from Z;split at Q
  .next hb=>
   cases Q;have hb:=xCo hb;exact⟨aa,cc,dx,vs,e6,hh,by rw[Y];exact F.c j,by rw[Y];exact F.n j hf,by rw[R.length];lia,q W2 τ _ (A.trans r) (l.mut hm e4 (by nofun) ⟨cc,dx,_,j,rfl,lU (J.mono r) R⟩) M⟩
  ·(cases Q),mSP g P.m<|mAC g E.m<|mAN g⟩
omit g in
def zHf:zGv:=λo i v H Q=>zFk o i v H Q\/∃a H4,o=.ref a/\zJe H a i v H4/\Q H4
omit g in
theorem zl(r:X.A.units+1<cLine):zH8 X zHf:=by
 intro Z s O H o i v n p u Q I l m j h;rcases h with h|⟨a,H4,rfl,d,q⟩
 .exact set_list Z s O H o i v n p u Q I l m j h
 .obtain rfl:n=Value.ref a:=l;exact oO r I d m j λC I4=>⟨H4,I4,q⟩
set_option tactic.hygienic true
theorem wy{P:C0}(hu:X.A.units+1<cLine)(ho:FE X B G Ex o a)(hi:FE X B G Ex P b)(he:FE X B G Ex e c)(hs:zB1 P=true)(hc:zA3 e=true):FS X B G Ex (.Assign [.Subscript o P p1] e pos)<|sP .seti c<|zAw a b:=by
 erw[<-⟨wkS (pX he.p (wX ho.p hi.p (zl hu)<|by intro _;cases P <;> first|rfl|cases hs) (by rw[show swapsWithSole [Expr.Subscript o P p1] e pos.line X.env=swapsWith e (some<|.Subscript o P p1) pos.line X.env from rfl];exact eJ hc) rfl rfl) λD τ H ⟨W,O,S,rs,rg,h⟩=>LE.stm he.m rs rg h λv S1 W1 u1 H1 M rs1 C rg1 h1=>?_,mSP g he.m<|mAC g ho.m<|mAC g hi.m<|mAN g⟩,<-LE.go ho.m rs1 rg1 (ho.m.m (λx S z=>XL.up M<|xle rg x S z) (λ_ _ z=>z) h1) λw S2 W2 u2 H2 le2 rs2 r rg2 h2=>?_,<-LE.go hi.m rs2 rg2 (hi.m.m (λx S z=>XL.up (M.trans le2)<|xle rg x S z) (λ_ _ z=>z) h2) λw3 S3 W3 u3 H3 L n I J h3=>?_];let⟨z,S4,l,q⟩:=g.pok h3;have r:=r.mono L;have C:=(C.mono le2).mono L;have K:=M.trans<|le2.trans L;cases w <;> try (cases l;done)
 change zBg _ w3 v S3=_ at l;unfold zBg at l;split at l
 .next kvs F=>
  split at l
  .next kk N=>
   let⟨hl,e5⟩:=db l;cases e5;let⟨aa,hh,E,T,Q,_⟩:=n.here F;let⟨Z,Y,j⟩:=r;rw[E] at j;cases j;let⟨ks,rfl,R⟩:=Q;exact .inr ⟨aa,_,Y,.inl ⟨ks,kk,T,gj N I,by rw[R.length];lia,rfl⟩,q W3 τ _ K (n.mut E F (by nofun) ⟨_,rfl,lT C R⟩) J⟩
  .cases l
 .next kvs F=>
  split at l
  .next kk N=>
   let⟨hl,e5⟩:=db l;cases e5;let⟨aa,hh,E,T,Q,_⟩:=n.here F;let⟨Z,Y,j⟩:=r;rw[E] at j;cases j;let⟨ks,rfl,R⟩:=Q;let⟨bb,rfl,hbb⟩:=mW n N I;exact .inr ⟨aa,_,Y,.inr ⟨ks,kk,bb,T,rfl,hbb,by rw[R.length];lia,rfl⟩,q W3 τ _ K (n.mut E F (by nofun) ⟨_,rfl,lT C R⟩) J⟩
  .cases l
 .next xs F=>
  split at l
  .next ii=>
   split at l
   .next hd=>
    cases l;let⟨h0,h1⟩:=xBe hd;let⟨aa,hh,E,T,Q,_⟩:=n.here F;let⟨Z,Y,j⟩:=r;rw[E] at j;cases j;let⟨ys,rfl,rr⟩:=Q;refine .inl ⟨aa,ys,ii,ii.toNat,Y,I,T,?_,q W3 τ _ K (n.mut E F (by nofun) ⟨_,rfl,rr.set C _⟩) J⟩;unfold ixN;rw[xCg h0,xCg<|by rw[rr.length];exact h1]
   .cases l
  .cases l
 .cases l
set_option tactic.hygienic false
theorem pK{P:TG}{R:D7->U->Sg->(Sg->Prop)->Prop}(hR:∀{W S H O τ v x}{k:Sg->Prop}{QS:St->Hp->Prop},RS B W S H->Rg B W O τ->Rv B W v x->R G v O k->(∀O' τ',k O'->Rg B W O' τ'->QS τ' H)->P x τ H QS)(M:∀{v O}{k Q:Sg->Prop},(∀O,k O->Q O)->R G v O k->R G v O Q)(hc:X.calm=true)(hi:FI X B G Ex tg iter c)(hg:PG X.lp tg P)(hb:FSs X.lp B G Ex body u)(hs:∀x,foldedSetIterable iter X.env x=pure x):FS X B G Ex (.For tg iter body [] pos) (λG' O S E=>c G' O S (λx S1=>E.x x O S1) λv S1=>match v with
  |.tup vs=>zA4 vs (λw σ1 S2 nx=>R G' w σ1 λσ2=>u G' σ2 S2<|lpE E nx) O S1 E.nx
  |_=>G'.fail):=by
 refine⟨wkS (lW hc hi.p hg hb.p hs) λD τ H ⟨W,O,S,T,L,h⟩=>?_,⟨λl h=>hi.m.m (λ_ _=>l.x _ _ _) (λv S1 C=>by
  cases v <;> first|exact C|(dsimp only at C⊢;refine zIw ?_ l.nx C;exact λ_ _ _ _ _ hk=>M λ_=>hb.m.m<|l.lp hk)) h⟩⟩
 refine⟨W,O,S,T,L,hi.m.m (λx S z=>xle L x S z) (λv S1 C W1 Y H1 vs A J ev wk=>?_) h⟩;subst ev;dsimp only at C;refine⟨λi m τ' H'=>i<=vs.length/\m=vs.length-i/\∃W' O' S',W1.Le W'/\RS B W' S' H'/\Rg B W' O' τ'/\zA4 (vs.drop i) (λw σ1 S2 nx=>R G w σ1 λσ2=>u G σ2 S2<|lpE (LEe B Ex W D) nx) O' S' (LEe B Ex W D).nx,⟨vs.length,xBn _,rfl,W1,O,S1,.refl,J,L.mono A,C⟩,?_⟩;rintro i m τ' H' ⟨hi',rfl,W',O',S',le',rs',rg',hh⟩
 by_cases hlt:i<vs.length
 .refine .inr ⟨wk.go le'.lf rs' hlt,λτ2 H2=>∃W2 σ2 S2,W1.Le W2/\RS B W2 S2 H2/\Rg B W2 σ2 τ2/\zA4 (vs.drop<|i+1) (λw σ1 S2 nx=>R G w σ1 λσ2=>u G σ2 S2<|lpE (LEe B Ex W D) nx) σ2 S2 (LEe B Ex W D).nx,λτ2 H2 ⟨W2,σ2,S2,Z,r2,g2,f2⟩=>⟨vs.length-(i+1),(),hlt,rfl,W2,σ2,S2,Z,r2,g2,f2⟩,λx H2 y=>?_⟩;rw[List.drop_eq_getElem_cons hlt] at hh;let⟨W2,le2,F,I⟩:=wk.yld le'.lf rs' (xAk hlt) y;refine hR (k:=λσ2=>u G σ2 S'<|lpE (LEe B Ex W D) λσ1 S1=>zA4 (vs.drop<|i+1) (λw σ1 S2 nx=>R G w σ1 λσ2=>u G σ2 S2<|lpE (LEe B Ex W D) nx) σ1 S1 (LEe B Ex W D).nx) F (rg'.mono le2) I hh λσ3 τ3 h3 K=>⟨W2,σ3,S',F,K,hb.m.m ?_ h3⟩
  have q:W.Le W2:=A.trans<|le'.trans le2;exact⟨λσ4 S4 N W4 τ4 H4 r j n=>⟨W4,σ4,S4,le'.trans<|le2.trans r,j,n,N⟩,λ_ _=>VL.inc q,λ_ _=>NL.inc q,λσ4 S4 N W4 τ4 H4 r j n=>⟨W4,σ4,S4,le'.trans<|le2.trans r,j,n,N⟩,(LEe.inc q).x⟩
 .have e:i=vs.length:=by lia
  subst e;rw[List.drop_length] at hh;exact .inl ⟨wk.stop le'.lf rs',hh W' τ' H' (A.trans le') rs' rg'⟩
theorem zp{one:C4}(r:one=true->is.length=1)(C:X.calm=true)(hi:FI X B G Ex tg iter c)(A:FG X.lp B G tg is one)(hb:FSs X.lp B G Ex body u)(n:∀x,foldedSetIterable iter X.env x=pure x):FS X B G Ex (.For tg iter body [] pos)<|sF c is one u:=
 pK g (R:=tgt is one) (λl m j h q=>jV g r l m j h λO' τ' a b _ _=>q O' τ' a b) (zFw g) C hi A.p hb n
set_option tactic.hygienic true
theorem wx(hK:X.K=B.K)(ho:is.length=1)(hc:X.calm=true)(Q:FE X B G Ex iter c)(hg:FG X.lp B G tg is true)(hb:FSs X.lp B G Ex body u)(hs:∀x,foldedSetIterable iter X.env x=pure x):FS X B G Ex (.For tg iter body [] pos)<|sFL c is u:=by
 refine⟨wkS (lW hc (zA Q.p) hg.p hb.p hs) λD τ H ⟨W,O,S,rs,rg,h⟩=>LE.stm Q.m rs rg h λv S1 W1 u1 H1 J I F P E=>?_,zJ5 g Q.m hb.m⟩;cases v <;> try (exact(g.no E).elim)
 rename_i p
 dsimp only at E;have rv0:=F;let⟨a,rfl,hm⟩:=F;generalize G.fuel=n at E;cases n with
 |zero=>exact(g.no E).elim
 |succ n=>
  have hl:∃xs,at? S1 p=some (.lst xs):=by
   have T:=E;rw[zBm] at T;split at T
   .next xs e=>exact⟨xs,e⟩
   .exact(g.no T).elim
  have Z:∀{W':Wd}{S':So}{H':Hp}{xs:C6},W1.Le W'->RS B W' S' H'->at? S' p=some (.lst xs)->∃ys,H' a=some (.lst ys)/\Rvs B W' xs ys:=λ{W' S' H' xs} le j e=>by
   let⟨aa,o,L,C,ro,_⟩:=j.here e;rw[le.m _ _ hm] at L;cases L;let⟨ys,rfl,M⟩:=ro;exact⟨ys,C,M⟩
  let⟨xs,e⟩:=hl;let⟨ys,C,_⟩:=Z .refl I e;rw[hK];erw[<-.inl ⟨a,rfl,⟨ys,.of C⟩,?_⟩,<-⟨λi m τ' H'=>∃W' O' S',W1.Le W'/\RS B W' S' H'/\Rg B W' O' τ'/\zBm p (λw σ1 S2 nx=>tgt is true G w σ1 λσ2=>u G σ2 S2<|lpE (LEe B Ex W D) nx) G.fail m i O' S' (LEe B Ex W D).nx,⟨n+1,W1,O,S1,.refl,I,P,E⟩,?_⟩];rintro i m τ' H' ⟨W',O',S',le',j,rg',hh⟩
  cases m with
  |zero=>exact(g.no hh).elim
  |succ m=>
   rw[zBm] at hh;split at hh
   .next xs e=>
    let⟨ys,C,M⟩:=Z le' j e;split at hh
    .next v Y=>
     let⟨y,ey,ry⟩:=M.get Y;refine .inr ⟨⟨ys,y,.of C,ey⟩,λτ2 H2=>∃W2 σ2 S2,W1.Le W2/\RS B W2 S2 H2/\Rg B W2 σ2 τ2/\zBm p (λw σ1 S2 nx=>tgt is true G w σ1 λσ2=>u G σ2 S2<|lpE (LEe B Ex W D) nx) G.fail m (i+1) σ2 S2 (LEe B Ex W D).nx,λτ2 H2 z=>⟨m,xCp _,z⟩,λx H2 ⟨e2,y2⟩=>?_⟩;subst e2;have:=y2 ys<|.of C;rw[ey] at this;cases this;refine jV g (λ_=>ho) j rg' ry hh λσ3 τ3 h3 N _ _=>⟨W',σ3,S',j,N,hb.m.m ?_ h3⟩
     have r:W.Le W':=J.trans le';exact⟨λσ4 S4 R W4 τ4 H4 A l q=>⟨W4,σ4,S4,le'.trans A,l,q,R⟩,λ_ _=>VL.inc r,λ_ _=>NL.inc r,λσ4 S4 R W4 τ4 H4 A l q=>⟨W4,σ4,S4,le'.trans A,l,q,R⟩,(LEe.inc r).x⟩
    .next Y=>
     refine .inl ⟨⟨ys,.of C,?_⟩,hh W' τ' H' (J.trans le') j rg'⟩;rw[M.length];exact List.getElem?_eq_none_iff.mp Y
   .exact(g.no hh).elim
theorem yl{W:Wd}{v:U}{x:V}{k:Sg->Prop}(rs:RS B W S H)(n:Rg B W O τ)(m:Rv B W v x)(h:zEn is js G v O k)(q:∀O' τ',k O'->Rg B W O' τ'->QS τ' H):zGt B.K 2 (zDo (zGs B.K is false)<|zDo (zGs B.K js false) zHq) x τ H QS:=by
 unfold zEn at h;cases v <;> try (exact(g.no h).elim)
 rename_i vs
 match vs,h with
 |[a,b],h=>
  let⟨p,ys,rfl,f,r⟩:=m;let⟨F,_,rfl,r1,E,_,rfl,r2,r3⟩:=r;cases r3;exact⟨p,_,rfl,.of<|rs.fz _ _ f,rfl,_,_,rfl,jV g (one:=false) nofun rs n r1 h λσ1 τ1 C l _ _=>⟨_,_,rfl,jV g (one:=false) nofun rs l r2 C λσ2 τ2 A j _ _=>⟨rfl,q σ2 τ2 A j⟩⟩⟩
 |[],h|[_],h|_::_::_::_,h=>exact(g.no h).elim
set_option tactic.hygienic false
theorem wz{t1 t2:C0}{m:Nat}{pt:Pos}(l:X.K=B.K)(n:X.calm=true)(hi:FI X B G Ex (.Tuple [t1,t2] m pt) iter c)(A:FG X.lp B G t1 is false)(r:FG X.lp B G t2 js false)(j:zAa t1=true)(h:zAa t2=true)(hb:FSs X.lp B G Ex body u)(q:∀x,foldedSetIterable iter X.env x=pure x):FS X B G Ex (.For (.Tuple [t1,t2] m pt) iter body [] pos)<|sF2 c is js u:=
 pK g (R:=zEn is js) (yl g) (zHl g) n hi (by
  rw[<- show X.lp.K=B.K from l];exact kO n (gF (by rw[show X.lp.K=B.K from l];exact A.p) (gF (by rw[show X.lp.K=B.K from l];exact r.p) mf<|kj h)<|kj j) ((dj<|by rw[xCj,xCj,j,h];rfl).1) (dj<|by rw[xCj,xCj,j,h];rfl).2) hb q
theorem tE(I:FT X.lp B G Ex e t)(hb:FSs X.lp B G Ex body u):FS X B G Ex (.While e body [] pos)<|sW t u:=by
 erw[<-⟨wkS (nV I.p hb.p) λD τ H ⟨W,O,S,L,M,h⟩=>?_,mSW g I.m hb.m⟩,<-⟨λm τ' H'=>∃W' O' S',W.Le W'/\RS B W' S' H'/\Rg B W' O' τ'/\whK (λσ1 S1 k=>t G σ1 S1 (λx S2=>(LEe B Ex W D).x x σ1 S2) k) (λσ1 S1 nx=>u G σ1 S1<|lpE (LEe B Ex W D) nx) G.br G.fail m O' S' (LEe B Ex W D).nx,⟨G.fuel,W,O,S,.refl,L,M,h⟩,?_⟩];rintro m τ' H' ⟨W',O',S',le',rs',rg',hh⟩
 cases m with
 |zero=>exact(g.no hh).elim
 |succ m=>
  refine LT.go I.m rs' rg' (I.m.m (λx S z=>λW2 C N H l K=>z W2 τ' C N H (le'.trans l) K<|rg'.mono l) (λ_ _ z=>z) hh) λcc S2 W2 H2 l E F A=>?_;have A:=g.bk A;have j:W.Le W2:=le'.trans l;cases cc with
  |true=>
   rw[xCg rfl] at A⊢;refine⟨λτ3 H3=>∃W3 σ3 S3,W.Le W3/\RS B W3 S3 H3/\Rg B W3 σ3 τ3/\whK (λσ1 S1 k=>t G σ1 S1 (λx S2=>(LEe B Ex W D).x x σ1 S2) k) (λσ1 S1 nx=>u G σ1 S1<|lpE (LEe B Ex W D) nx) G.br G.fail m σ3 S3 (LEe B Ex W D).nx,λτ3 H3 z=>⟨m,xCp _,z⟩,W2,O',S2,E,F,hb.m.m ?_ A⟩;exact⟨λσ4 S4 J W4 τ4 H4 r n q=>⟨W4,σ4,S4,j.trans r,n,q,J⟩,λ_ _=>VL.inc j,λ_ _=>NL.inc j,λσ4 S4 J W4 τ4 H4 r n q=>⟨W4,σ4,S4,j.trans r,n,q,J⟩,(LEe.inc j).x⟩
  |false=>
   rw[xCf xAy] at A⊢;exact A W2 τ' H2 j E F
end
end Fx
namespace L2
open PySem PySem.Spec PyProof.Rows
def zHy:C9->Hp->VK->Prop:=λb H Q=>∃(p:C3) (ns:C8),b=[.ref p]/\(H p=some (.lst<|ns.map V.int)\/∃a:B7<|Key×V,H p=some (.dK a)/\a.map (·.1)=ns.map Sum.inl)/\ns.length<64/\∀(l:C3)(ns':C8),H l=none->ns'.Perm ns->ns'.Pairwise (·<=·)->Q (.ref l) (upd H l<|.lst<|ns'.map V.int)
noncomputable def zGx(p:C3)(a n:Nat):HO:=HO.ext λh=>∃t u v,IsRange h p (a:Int) ((a:Int)+n) 1 t u v
def zKh:C9->Hp->VK->Prop:=λb H Q=>∃a n:Nat,b=[.int a,.int<|(a:Int)+n]/\∀l,H l=none->Q (.ref l) (upd H l<|zGx l a n)
def zGd:C9->Hp->VK->Prop:=λb H Q=>∃r a n,b=[.ref r]/\H r=some (zGx r a n)/\a+n<=100000/\∀l,H l=none->Q (.ref l) (upd H l<|.lst ((List.range' a n).map λi:Nat=>V.int (i:Int)))
theorem jq:∀{l:D0}{k:Nat},(∀(j:Nat)(v:B9),l[j]?=some v->∃t,v=.int ((k+j:Nat):Int) t)->zAg ((List.range' k l.length).map λi:Nat=>V.int (i:Int)) l
 |[],_,_=>.nil
 |v::l,k,h=>by
  let⟨t,e⟩:=h 0 v rfl;refine .cons ⟨t,by rw[e];rfl⟩ (jq (l:=l) (k:=k+1) λj u a=>?_);let⟨t,e⟩:=h (j+1) u a;exact⟨t,by rw[e];congr 1;lia⟩
section
variable{X:Cx}
def yI(R:X.calm=true):zAl X (.builtin "sorted") zHy:=by
 intro Z s O H Y us Q I r h;let⟨p,ns,rfl,E,S,q⟩:=h;let⟨u,rfl,K⟩:=zBa r;obtain rfl:u=Value.ref p:=K;have M:=sizeLine_eq;rcases E with E|⟨kvs,hd,hk⟩
 .let⟨its,r1,t1,G⟩:=I.list<|SqL.of E;have P:=r1.length;rw[xAa] at G P;refine sorted_ints t1.isList (dR r1) () λout ns' x n t=>?_;let⟨e,g⟩:=sortedAll_at s.heap its out;have d:H (s.heap.objs.size+1)=none:=I.hok.fresh<|Nat.le_succ _;erw[<-⟨.ref<|s.heap.objs.size+1,_,I.laid (a:=s.heap.objs.size+1) (o:=.lst<|ns'.map V.int) (t':=s.toks) (λ_ _=>sortedAll_old) (Nat.le_succ _) ?_,rfl,q _ ns' d n t⟩,<-⟨?_,out.toList,e,dE x,?_⟩]
  .rw[xAa,n.length_eq];exact G
  .rw[g,Array.toArray_toList]
 .let⟨hz,L,vs,l,T⟩:=fQ I.hok<|.inl hd;let⟨ep,D⟩:=T.dictAt;have N:=l.length;erw[Calls.call_function_entry kind_sorted plain_sorted entry_sorted (args_sorted1 _)];unfold Builtin.«sorted»;erw[<-xAd (m:=checkCount "sorted" 1 1 _)<|xAe ?_,<-xAd (PySem.W.kdu_collect (A:=X.A.in1) (PySem.W.kdl_dict (knd:=zAj X.prog X.w) (kvs:=vs) (ep:=ep) L) (I.ok.hd R) D () λj tk c hkeep k=>?_)];have J:=kZ l hk k.1 (λi v e=>k.2 i v e);have B:=J.length;rw[xAa] at B;have y:c.toList.length<=sizeLine:=by lia
  refine xAd<|wpAny_newList ?_ y;have F:(j.push<|seqObj "list" c.toList.toArray 0).get? j.objs.size=some (seqObj "list" c.toList.toArray 0):=xAl _ rfl;erw[<-xAd<|xDc<|wpAny_call_entry slot_list_sort ⟨_,F,rfl⟩ entry_list_sort (list_sort_tree F (dR J) () λout ns' x n t=>⟨_,rfl,?_⟩)<|args_list_sort _,<-xAe ⟨_,rfl,?_⟩];have keepAll:∀b o,s.heap.get? b=some o->(sortedHeap (j.push<|seqObj "list" c.toList.toArray 0) j.objs.size c.toList out).get? b=some o:=λb o e=>by
   have hb:=xA1<|hkeep b o e;rw[sortedHeap_old (xA0 hb)<|by rw[size_push'];exact xCa hb];exact xAf _<|hkeep b o e
  let⟨e,g⟩:=sortedHeap_at (vs:=c.toList) (out:=out) F;have C:s.heap.get? j.objs.size=none:=by
   cases z:s.heap.get? j.objs.size with
   |none=>rfl
   |some o=>exact absurd (xA1<|hkeep _ _ z) (xBo _)
  have new:zAe X.prog X.w (upd H j.objs.size<|.lst<|ns'.map V.int) (sortedHeap (j.push<|seqObj "list" c.toList.toArray 0) j.objs.size c.toList out) j.objs.size<|.lst<|ns'.map V.int:=by
   refine⟨?_,out.toList,e,dE x,?_⟩
   .rw[xAa,n.length_eq];lia
   .rw[g,Array.toArray_toList]
  let⟨d,I2⟩:=Inv.laidN (t':=tk) I keepAll C new;exact⟨.ref j.objs.size,_,I2,rfl,q _ ns' d n t⟩
def yK:zAl X (.type "range") zKh:=by
 intro Z s O H c us Q I r h;let⟨a,n,rfl,h⟩:=h;obtain⟨u,v,rfl,⟨t,rfl⟩,⟨t2,rfl⟩⟩:∃u v,us=[u,v]/\zAh (.int a) u/\zAh (.int<|(a:Int)+n) v:=by
  cases r with
  |cons r1 r=>cases r with
   |cons r2 r=>cases r;exact⟨_,_,rfl,r1,r2⟩
 refine call_range_2 ⟨.ref s.heap.objs.size,_,I.laid (a:=s.heap.objs.size) (o:=zGx s.heap.objs.size a n) (t':=s.toks+1) (λb o e=>xAf _ e) (xAg _) ?_,rfl,h _<|I.hok.fresh<|xAg _⟩;exact⟨⟨_,_,_,xAl _ rfl⟩,⟨_,xAl _ rfl⟩,λi d ⟨t,u,v,q⟩ k=>⟨t,u,v,k _ q⟩⟩
def sf(C:X.calm=true):zAl X (.type "list") zGd:=by
 intro Z s O H F us Q I r h;let⟨p,a,n,rfl,A,G,q⟩:=h;let⟨u,rfl,y⟩:=zBa r;obtain rfl:u=Value.ref p:=y;obtain⟨t,u',v,hR⟩:∃t u v,IsRange s.heap p (a:Int) ((a:Int)+n) 1 t u v:=(I.hok p _ A).1;erw[<-call_list_range (n:=n) (I.ok.hd C) hR (small_one () () () ()) (by rw[rangeSize_one];split <;> lia) () λJ tk c E B D d=>?_,<-⟨.ref s.heap.objs.size,_,I.laid (a:=s.heap.objs.size) (o:=.lst ((List.range' a n).map λi:Nat=>V.int (i:Int))) (t':=tk) (λb o e=>B b o e) (xAg _) ?_,rfl,q _<|I.hok.fresh<|xAg _⟩];have m:c.toList.length=n:=by rw[xAh];exact d.1
 refine⟨by rw[xAa,List.length_range'];show n<=2^24;lia,c.toList,E,?_,?_⟩
 .have:=jq (l:=c.toList) (k:=a) λj v x=>by
   let⟨t,e⟩:=d.2 j v (by rw[xA8] at x;exact x);exact⟨t,by rw[e];congr 1;lia⟩
  rw[m] at this;exact this
 .rw[D,Array.toArray_toList]
end
end L2
namespace L2
open PySem PySem.Spec PyProof.Rows SetA
def zKg(w:World):C9->Hp->VK->Prop:=λb H Q=>∃(p:C3) (a:C8),b=[.ref p]/\H p=some (zEu w p a)/\a.length<64 /\
  ∀(l:C3)(ns':C8),H l=none->ns'.Perm a->ns'.Pairwise (·<=·)->Q (.ref l) (upd H l<|.lst<|ns'.map V.int)
section
variable{X:Cx}
def yJ(M:X.calm=true):zAl X (.builtin "sorted")<|zKg X.w:=by
 intro Z s O H N us Q I r h;let⟨p,ks,rfl,L,K,q⟩:=h;let⟨u,rfl,C⟩:=zBa r;obtain rfl:u=Value.ref p:=C;let⟨es,ep,t,S⟩:=wu I.hok L;have G:=sizeLine_eq;have J:scanBound=4096:=rfl;erw[Calls.call_function_entry kind_sorted plain_sorted entry_sorted (args_sorted1 _)];unfold Builtin.«sorted»;erw[<-xAd (m:=checkCount "sorted" 1 1 _)<|xAe ?_,<-xAd (PySem.W.kdu_collect (A:=X.A.in1) (tw (es:=es) (ep:=ep) (t:=t) (ks:=ks)) (I.ok.hd M) S () λa tk acc hkeep c=>?_)];let⟨F,j⟩:=SetA.wk_keys (s:=s) S;have y:=oE (acc:=acc) F rfl (by rw[c.1,j.length_eq]) (λi v e=>c.2 i v e);have l:=y.length;rw[xAa,j.length_eq] at l;have k:acc.toList.length<=sizeLine:=by lia
 refine xAd<|wpAny_newList ?_ k;have x:(a.push<|seqObj "list" acc.toList.toArray 0).get? a.objs.size=some (seqObj "list" acc.toList.toArray 0):=xAl _ rfl;erw[<-xAd<|xDc<|wpAny_call_entry slot_list_sort ⟨_,x,rfl⟩ entry_list_sort (list_sort_tree x (dR y) () λout ns' E B D=>⟨_,rfl,?_⟩)<|args_list_sort _,<-xAe ⟨_,rfl,?_⟩];have keepAll:∀b o,s.heap.get? b=some o->(sortedHeap (a.push<|seqObj "list" acc.toList.toArray 0) a.objs.size acc.toList out).get? b=some o:=λb o e=>by
  have hb:=xA1<|hkeep b o e;rw[sortedHeap_old (xA0 hb)<|by rw[size_push'];exact xCa hb];exact xAf _<|hkeep b o e
 let⟨e,g⟩:=sortedHeap_at (vs:=acc.toList) (out:=out) x;have n:s.heap.get? a.objs.size=none:=by
  cases z:s.heap.get? a.objs.size with
  |none=>rfl
  |some o=>exact absurd (xA1<|hkeep _ _ z) (xBo _)
 have new:zAe X.prog X.w (upd H a.objs.size<|.lst<|ns'.map V.int) (sortedHeap (a.push<|seqObj "list" acc.toList.toArray 0) a.objs.size acc.toList out) a.objs.size<|.lst<|ns'.map V.int:=by
  refine⟨?_,out.toList,e,dE E,?_⟩
  .rw[xAa,B.length_eq,j.length_eq];lia
  .rw[g,Array.toArray_toList]
 let⟨d,I2⟩:=Inv.laidN (t':=tk) I keepAll n new;exact⟨.ref a.objs.size,_,I2,rfl,q _ ns' d (B.trans j) D⟩
end
end L2
namespace Fx
open PySem PySem.Spec L2
open PyProof.Rows hiding St
section
variable{B:Bs}{up:B7<|Str×Str}{G:D7}{Ex:St->XK}{c a b d:D4}{as:D8}{t:TTx Prop}{u v:D3}
variable{X:Cx}{e ea eb tg iter elt:C0}{es:B7 C0}{st:Stmt}{sts body:B7 Stmt}{pos p1 p2 p3 p4 np hpos:Pos}{x y n f:Str}{i j:Nat}{cc:C3}(g:zBv up G)
include g
set_option tactic.hygienic true
theorem rO(M:X.calm=true)(L:Gl X "len")(J:X.mg "len"=none)(D:Gl X "set")(C:X.mg "set"=none)(o:FE X B G Ex ea a)(k:zAa ea=true):FE X B G Ex (.Call (.Name "len" p1) [.Call (.Name "set" p2) [ea] [] p3] [] pos)<|cP .lenset<|aC a aN:=
 ⟨wkE (mn vb L J (by decide +kernel) (jH (jG (u0 M) D C (by decide +kernel) (jH o.p eZ k)<|by rw[xCj,k];rfl) eZ rfl) rfl) λτ H Q h=>(LE.p1 g o.m h).imp o.m λw H1 F=>by
  let⟨W,S,v,z,S',E,r1,e,q⟩:=F;cases v <;> try (cases e;done)
  delta pr at e;dsimp only at e;split at e
  .next I P=>
   split at e
   .next hb=>
    cases e;let⟨p,R,rfl,f,r⟩:=r1;have A:=zBf P r;subst A;let⟨O,N⟩:=xBe hb;exact⟨p,I,rfl,E.fz _ _ f,O,N,λl K=>⟨l,_,rfl,bv,(),q W _ _ .refl (E.same<|cZ K _) rfl⟩⟩
   .cases e
  ·(cases e),mP g<|mAC g o.m<|mAN g⟩
set_option tactic.hygienic false
omit g in
theorem ja{W:Wd}:∀{xs:C6}{k:C8}{ys:B7 V},zCa xs=some k->Rvs B W xs ys->ys=k.map V.int
 |[],_,_,h,r=>by cases h;exact r
 |.int i::xs,k,_,h,r=>by
  let⟨y,ys,rfl,r1,r2⟩:=r;let⟨l,m,rfl⟩:=Option.map_eq_some_iff.mp h;rw[show y=_ from r1,ja m r2];rfl
omit g in
theorem mX{W:Wd}:∀{kvs:B7<|Key×U}{k:C8}{ks:B7<|Key×V},zF0 kvs=some k->Rn B W kvs ks->ks.map (·.1)=k.map Sum.inl
 |[],_,_,h,r=>by cases h;rw[show _=[] from r];rfl
 |(.inl i,x)::t,k,_,h,r=>by
  let⟨v,q,rfl,p,m⟩:=r;let⟨l,o,rfl⟩:=Option.map_eq_some_iff.mp h;rw[xBs,xBs,mX o m]
omit g in
theorem fJ{i:Int}:∀{l:C8},(zEt i l).Perm (i::l)
 |[]=>.refl _
 |j::r=>by
  unfold zEt;split
  .exact .refl _
  .exact(fJ.cons j).trans<|.swap i j r
omit g in
theorem cR:∀{l:C8},(zCf l).Perm l
 |[]=>.refl _
 |i::r=>fJ.trans<|cR.cons i
omit g in
theorem nb{i:Int}:∀{l:C8},l.Pairwise (·<=·)->(zEt i l).Pairwise (·<=·)
 |[],_=>List.pairwise_singleton ..
 |j::r,h=>by
  unfold zEt;let⟨h1,m⟩:=List.pairwise_cons.mp h;split
  .next k=>
   refine List.pairwise_cons.mpr ⟨λz hz=>?_,h⟩;rcases xAv.mp hz with rfl|hz
   .exact k
   .exact Int.le_trans k<|h1 z hz
  .next k=>
   refine List.pairwise_cons.mpr ⟨λz hz=>?_,nb m⟩;rcases xAv.mp (fJ.mem_iff.mp hz) with rfl|hz
   .lia
   .exact h1 z hz
omit g in
theorem fX:∀{l:C8},(zCf l).Pairwise (·<=·)
 |[]=>.nil
 |i::r=>nb fX
omit g in
theorem fY{l m:C8}(h:m.Perm l)(p:m.Pairwise (·<=·)):m=zCf l:=(h.trans cR.symm).eq_of_pairwise (λa b _ _ o k=>Int.le_antisymm o k) p fX
omit g in
theorem gA{W:Wd}:∀{l:C8},Rvs B W (l.map .int) (l.map V.int)
 |[]=>rfl
 |_::l=>⟨_,_,rfl,rfl,gA (l:=l)⟩
set_option tactic.hygienic true
omit g in
theorem zL{m:C4}:PrN B up (.srt m) zHy:=by
 intro W S H vs us z S' Q D F h q;let⟨v,rfl⟩:=vs1 h rfl λa b r=>by cases a <;> rfl
 let⟨u,rfl,r1⟩:=F.inv1;delta pr at h;dsimp only at h;split at h
 .next ns e=>
  split at h
  .next o=>
   have o:=xBe o;have fin:∀{p:C3},u = .ref p->(H p=some (.lst<|ns.map V.int)\/∃k:B7<|Key×V,H p=some (.dK k)/\k.map (·.1)=ns.map Sum.inl)->zHy [u] H Q:=λ{p} T O=>⟨p,ns,by rw[T],O,o,λl M R pm L=>by
    rw[fY pm L];exact fE (m:=m) h q D gA R⟩
   unfold zFd at e;split at e
   .next Z E=>
    let⟨p,Y,rfl,C,I⟩:=cQ D r1 E;rw[ja e I] at C;exact fin rfl<|.inl C
   .split at e
    .split at e
     .next p k E=>
      let⟨a,g,P,C,J,_⟩:=D.here E;let⟨a',rfl,A⟩:=r1;rw[P] at A;cases A;let⟨N,rfl,K⟩:=J;exact fin rfl<|.inr ⟨N,C,mX e K⟩
     .cases e
    .cases e
  .cases h
 .cases h
set_option tactic.hygienic false
omit g in
theorem lS{W:Wd}:∀{n k:Nat},Rvs B W (zBx (k:Int) n) ((List.range' k n).map λi:Nat=>V.int (i:Int))
 |0,_=>rfl
 |n+1,k=>⟨_,_,rfl,rfl,lS (n:=n) (k:=k+1)⟩
set_option tactic.hygienic true
theorem yv{eb:C0}{b:D4}(hc:X.calm=true)(hg:Gl X "list")(P:X.mg "list"=none)(M:Gl X "range")(J:X.mg "range"=none)(ha:FE X B G Ex ea a)(hb:FE X B G Ex eb b)(r:zAa ea=true)(h:zAa eb=true):FE X B G Ex (.Call (.Name "list" p1) [.Call (.Name "range" p2) [ea,eb] [] p3] [] pos)<|cP .lrng<|zAw a b:=
 have fa:FA X B G Ex [ea,eb]<|zAw a b:=fo g ha (fo g hb (hX g) h) r
 ⟨wkE (jG (sf hc) hg P (by decide +kernel) (jH (jG yK M J (by decide +kernel) fa.p<|by rw[xCj,xCj,r,h];rfl) eZ rfl) rfl) λτ H Q ⟨W,O,S,T,Z,hh⟩=>LA.go fa.m T Z hh λR S1 W1 us H1 L I E C Y N=>(by
  let⟨z,S2,e,q⟩:=g.pok N;match R,L with
  |[v,w],_=>
   let⟨x,us,rfl,r1,y,A,rfl,r2,r3⟩:=C;cases (show A=[] from r3);cases v <;> try (cases e;done)
   cases w <;> try (cases e;done)
   rename_i i j _
   delta pr at e;dsimp only at e;split at e
   .next hb=>
    cases e;let⟨N,h2,h3⟩:=xBe hb;let⟨n,rfl⟩:=Int.eq_ofNat_of_zero_le N;let⟨m,P⟩:=Int.eq_ofNat_of_zero_le (show 0<=j-n by lia);have ej:j=(n:Int)+m:=by lia
    subst ej;rw[show((n:Int)+m-n).toNat=m by lia] at q;refine⟨n,m,by rw[show x=_ from r1,show y=_ from r2],λl L=>⟨l,n,m,rfl,bv,(),λl2 K=>?_⟩⟩;let⟨F,D⟩:=(E.same<|cZ L<|zGx l n m).fresh (o:=.lst ((List.range' n m).map λi:Nat=>V.int (i:Int))) K;exact q _ _ _ (I.trans F) D ⟨l2,_,rfl,bv,lS (k:=n)⟩
   .cases e),mP g fa.m⟩
set_option tactic.hygienic false
omit g in
theorem fe{z:Int}:∀{l:C8},z∈unq l↔z∈l
 |[]=>Iff.rfl
 |i::r=>by
  unfold unq;split
  .next h=>rw[fe,xAv];exact⟨.inr,λz=>z.elim (λe=>by rw[e];exact h) id⟩
  .rw[xAv,xAv,fe]
omit g in
theorem iB:∀{l:C8},(unq l).Nodup
 |[]=>.nil
 |i::r=>by
  unfold unq;split
  .exact iB
  .next h=>exact xCb.mpr ⟨λz=>h<|fe.mp z,iB⟩
set_option tactic.hygienic true
theorem AG(K:X.calm=true)(Y:Gl X "sorted")(R:X.mg "sorted"=none)(D:Gl X "set")(A:X.mg "set"=none)(r:FE X B G Ex ea a)(k:zAa ea=true):FE X B G Ex (.Call (.Name "sorted" p1) [.Call (.Name "set" p2) [ea] [] p3] [] pos)<|cP .srs<|aC a aN:=
 ⟨wkE (mn (yJ K) Y R (by decide +kernel) (jH (jG (u6 K) D A (by decide +kernel) (jH r.p eZ k)<|by rw[xCj,k];rfl) eZ rfl) rfl) λτ H Q h=>(LE.p1 g r.m h).imp r.m λw H1 L=>by
  let⟨W,S,v,z,S',E,r1,e,q⟩:=L;delta pr at e;dsimp only at e;split at e
  .next F en=>
   split at e
   .next hb=>
    let⟨h1,Z⟩:=xBe hb;let⟨xs,ex,ei⟩:=xCi.mp en;let⟨p,ys,rfl,J,M⟩:=cQ E r1 ex;rw[ja ei M] at J;refine⟨p,F,rfl,.of J,h1,λl I T P o=>?_⟩;have pm:I.Perm<|unq F:=(List.perm_ext_iff_of_nodup P iB).mpr λz=>by rw[o z,fe]
    refine⟨l,I,rfl,bv,by rw[pm.length_eq];exact Z,λl2 O C p2 N=>?_⟩;rw[fY (p2.trans pm) N];exact fE (m:=false) e q (E.same<|cZ T _) gA C
   .cases e
  ·(cases e),mP g<|mAC g r.m<|mAN g⟩
set_option tactic.hygienic false
theorem BU:FE X B G Ex (.Dict [] [] pos)<|cP .dctT aN:=
 ⟨wkE qq λτ H Q l=>by
  let⟨W,O,S,m,C,h⟩:=l;let⟨z,S2,e,q⟩:=g.pok h;cases e;intro p r;have le:W.Le {W with μ:=W.μ++[p]}:=⟨λ_ _ h=>h,λ_ _ h=>cY h,rfl⟩
  let⟨_,k,A⟩:=m.push (o:=.dtt []) (h:=.dT []) r ⟨[],rfl,rfl⟩;exact q _ _ _ le k ⟨p,rfl,A⟩,mP g<|mAN g⟩
theorem Bj{r:D4}{i j:Nat}{x y:Str}{P M pt o k:Pos}{kt Q:Nat}(hc:X.calm=true)(hN:X.N.Nodup)(hi:X.N[i]?=some x)(hj:X.N[j]?=some y)(K:i≠j)(hx:X.env.scope.names.lookup x=some .local)(Z:X.env.scope.names.lookup y=some .local)(R:FE X B G Ex ea a)(hb:FE X B G Ex eb r)(J:zAa ea=true)(q:zAa eb=true)(hw:swappedStores [.Tuple [.Name x P,.Name y M] kt pt] (.Tuple [ea,eb] Q o) X.env=pure (some [x,y])):FS X B G Ex (.Assign [.Tuple [.Name x P,.Name y M] kt pt] (.Tuple [ea,eb] Q o) k)<|sPr i j a r:=by
 have fa:FA X B G Ex [ea,eb]<|aC a<|aC r aN:=fo g R (fo g hb (hX g) q) J;refine⟨wkS (wK hc hN hi hj K hx Z fa.p hw) λD τ H ⟨W,O,S,Y,L,h⟩=>?_,⟨λl h=>R.m.m (λ_ _=>l.x _ _ _) (λ_ _ h=>hb.m.m (λ_ _=>l.x _ _ _) (λ_ _=>l.nx _ _) h) h⟩⟩;have h2:(aC a<|aC r aN) G O S (λx S1=>(LEe B Ex W D).x x O S1) λA S2=>match A with|[v,w]=>(LEe B Ex W D).nx (put (put O i v) j w) S2|_=>G.fail:=h;refine LA.go fa.m Y L (fa.m.m (λx S z=>xle L x S z) (λ_ _ _ z=>z) h2) λA S1 W1 us H1 hl I E C F h1=>?_;match A,hl with
 |[v,w],_=>
  let⟨u,T,rfl,r1,r2⟩:=C.inv2;exact⟨u,T,rfl,h1 W1 _ H1 I E<|(F.put r1).put r2⟩
set_option tactic.hygienic true
theorem AN(k:FE X B G Ex ea a):FE X B G Ex ea<|cP .frz<|aC a aN:=
 ⟨wkE k.p λτ H Q h=>(LE.p1 g k.m h).imp k.m λw H1 r=>by
  let⟨W,S,v,z,S',A,r1,e,q⟩:=r;cases v <;> try (cases e;done)
  next p=>
  change zCu p S _=_ at e;unfold zCu at e;split at e
  .next E D=>
   cases e;let⟨F,rfl,C⟩:=r1;let⟨W2,o,l,r3⟩:=A.freeze D C;exact q W2 _ H1 o l r3
  ·(cases e),mP g<|mAC g k.m<|mAN g⟩
set_option tactic.hygienic false
omit g in
theorem my:∀{n:Nat}{l:B7<|B8 U}{k:Nat}{v:U},nth (List.replicate n none++l) k=some v->n<=k/\nth l (k-n)=some v
 |0,l,k,v,h=>⟨xBn _,by simpa using h⟩
 |n+1,l,0,v,h=>by cases h
 |n+1,l,k+1,v,h=>by
  have h:nth (List.replicate n none++l) k=some v:=by simpa [List.replicate_succ,nth] using h
  let⟨a,b⟩:=my h;exact⟨(),by rw[show k+1-(n+1)=k-n by lia];exact b⟩
omit g in
theorem mx{O:Sg}:∀{cs:C7}{k:Nat}{v:U},nth (cs.map<|nth O) k=some v->∃c,cs[k]?=some c/\nth O c=some v
 |[],_,_,h=>by cases h
 |c::cs,0,v,h=>⟨c,rfl,h⟩
 |c::cs,k+1,v,h=>by simpa using mx (cs:=cs) (k:=k) (by simpa [nth] using h)
omit g in
theorem yV{W:Wd}{O:Sg}{τ:St}{m:Nat}{cs:C7}(l:Rg B W O τ):Rg B W (List.replicate m none++cs.map (nth O))<|List.replicate m none++zC0 τ cs:=by
 refine⟨by simp[zC0],λk v h=>?_⟩;let⟨A,q⟩:=my h;let⟨c,p,o⟩:=mx q;let⟨u,e,r⟩:=l.v c v o;refine⟨u,?_,r⟩;rw[xCl (by simpa using A),xCu];unfold zC0;rw[xAw,p];simp[e]
theorem mTh{m:C4}{t:D4}(h:zA0 G t):zA0 G<|zGn m t:=by
 cases m with
 |true=>exact mP g (mAC g h<|mAN g)
 |false=>exact h
theorem BO{m:C4}{scope:Scope}{cl:B7<|Str×C3}{T N:C5}{cs is:C7}{one:C4}(ho:one=true->is.length=1)(his:∀k∈is,k<T.length)(hc:X.calm=true)(cp:zB4 X scope cl T N cs)(hi:FI X B G Ex tg iter c)(hg:∀C s H fp,FG (zAm X (T++N) scope cl C s H fp) B G tg is one)(he:∀C s H fp,FE (zAm X (T++N) scope cl C s H fp) B G (λ_ _ _ _=>False) elt a)(hs:∀v,foldedSetIterable iter X.env v=pure v)(me:zA0 G a):FE X B G Ex (.ListComp elt [⟨tg,iter,[],0⟩] scope pos) (zGn m<|cL c is one T.length cs none a)/\∀{i:Nat}{y:Str}{py R:Pos},X.N.Nodup->X.N[i]?=some y->X.env.scope.names.lookup y=some .local->swapsWith (.ListComp elt [⟨tg,iter,[],0⟩] scope pos) (some<|.Name y py) R.line X.env=pure true->FS X B G Ex (.Assign [.Name y py] (.ListComp elt [⟨tg,iter,[],0⟩] scope pos) R) (sA i<|zGn m<|cL c is one T.length cs none a):=by
 have htc:∀C s H fp,PTs (zAm X (T++N) scope cl C s H fp) [] zIf:=λC s H fp=>tH;refine⟨⟨wkE (xc hc cp hi.p (λC s H fp=>(hg C s H fp).p) htc (λC s H fp=>(he C s H fp).p) hs) ?core,mTh g<|mL g hi.m nofun me⟩,λ{i y py R} hN hiy hy hsw=>⟨wkS (pW hN hiy hy hc cp hi.p (λC s H fp=>(hg C s H fp).p) htc (λC s H fp=>(he C s H fp).p) hs hsw) λD τ H ⟨W,O,S,rs,rg,h⟩=>?core τ H _<|LE.stm (mTh g<|mL g hi.m nofun me) rs rg h λv S' W' u H' le rs' rv rg' h'=>h' W' _ H' le rs'<|rg'.put rv,mA g<|mTh g<|mL g hi.m nofun me⟩⟩;case core=>
 rintro τ H Q ⟨W,O,S,rs,rg,h⟩
 obtain⟨Kf,h,fin⟩:∃Kf:D5,cL c is one T.length cs none a G O S (XL B W<|Ex τ) Kf/\∀{W1 W2:Wd}{S2:So}{us:C6}{ys:B7 V}{H2:Hp}{D:C3},W.Le W1->W1.Lf W2->W2.pr=(D,.lst ys)::W1.pr->(∀q∈W1.pr,q.1≠D)->RS B W2 S2 H2->Rvs B W2 us ys->Kf (.lst us) S2->Q (.ref D) H2:=by
  cases m with
  |false=>
   refine⟨VL B W Q,h,λ{W1 W2 S2 us ys H2 D} le1 lf2 A M E L P=>?_⟩;have I:=E.heldF A M;have K:W2.Lf {W2 with pr:=W1.pr,F:=upd W2.F D<|.lst ys}:=by
    have hF:=(E.pf (D,.lst ys)<|by rw[A];exact xAr).2.1;exact⟨λp o z=>by show upd W2.F D _ p=_;rw[bt λy=>by rw[y,hF] at z;cases z];exact z,λ_ _ z=>z⟩
   exact P {W2 with pr:=W1.pr,F:=upd W2.F D<|.lst ys} (.ref D) H2 ⟨λp o z=>K.f p o<|lf2.f p o<|le1.f p o z,λp o z=>K.m p o<|lf2.m p o<|le1.m p o z,le1.r⟩ I ⟨D,ys,rfl,bv,L.lf K⟩
  |true=>
   refine⟨_,h,λ{W1 W2 S2 us ys H2 D} le1 lf2 A M E L P=>?_⟩;let⟨z,S3,e,P⟩:=g.pok P;cases e;have K:W2.Lf {W2 with pr:=W1.pr,μ:=W2.μ++[D]}:=⟨λ_ _ z=>z,λ_ _ z=>cY z⟩
   let⟨I,hat⟩:=E.heldS (b:=.lst us) (h:=.lst ys) A M ⟨ys,rfl,L.lf K⟩;have eq:upd H2 D (.lst ys)=H2:=by
    funext q
    by_cases y:q=D
    .rw[y,bv];exact((E.pf (D,.lst ys)<|by rw[A];exact xAr).1).symm
    .rw[bt y]
   rw[eq] at I;exact P {W2 with pr:=W1.pr,μ:=W2.μ++[D]} (.ref D) H2 ⟨λp o z=>K.f p o<|lf2.f p o<|le1.f p o z,λp o z=>K.m p o<|lf2.m p o<|le1.m p o z,le1.r⟩ I ⟨D,rfl,hat⟩
 refine⟨W,O,S,rs,rg,hi.m.m (λ_ _ z=>z) (λv S1 h1 W1 m0J H1 J le1 rs1 ev wk=>?_) h⟩;subst ev;have h1:=g.bk h1;split at h1
 .next hsz=>
  have hsz:=xCo hsz;intro D hD;generalize hbody:lcB is one (List.replicate T.length none++cs.map (nth O)) none a G=bd at h1;have M:∀q∈W1.pr,q.1≠D:=λq hq z=>by rw[<- z,(rs1.pf q hq).1] at hD;cases hD
  let Wi:Nat->Nat->B7 V->Hp->Prop:=λi k ys H'=>i<=J.length/\k=J.length-i/\ys.length<=i/\∃W' S' us,W1.Lf W'/\W'.pr=(D,.lst ys)::W1.pr/\RS B W' S' H'/\Rvs B W' us ys/\lcK G bd (J.drop i) us S' Kf
  have again:∀{i:Nat}{ys:B7 V}{W':Wd}{S':So}{H':Hp}{us:C6},i<J.length->ys.length<=i+1->W1.Lf W'->W'.pr=(D,.lst ys)::W1.pr->RS B W' S' H'->Rvs B W' us ys->lcK G bd (J.drop<|i+1) us S' Kf->Wi (i+1) (J.length-(i+1)) ys H':=λhi hy l1 l2 l3 l4 l5=>⟨hi,rfl,hy,_,_,_,l1,l2,l3,l4,l5⟩
  refine⟨Wi,⟨J.length,xBn _,rfl,xAg _,_,S1,[],Wd.Lf.pr,rfl,rs1.hold (o:=.lst []) hD λ_=>nofun,rfl,h1⟩,?_⟩;rintro i k ys H2 ⟨hi',rfl,hy,W2,S2,us,lf2,A,E,L,P⟩
  refine⟨(E.pf _<|by rw[A];exact xAr).1,?_⟩;by_cases hlt:i<J.length
  .refine .inr ⟨wk.go lf2 E hlt,Nat.lt_of_le_of_lt hy<|xBc hlt hsz,λys' H'=>Wi (i+1) (J.length-(i+1)) ys' H',λys' H' z=>⟨_,(),z⟩,λx H3 yy=>?_⟩;rw[List.drop_eq_getElem_cons hlt] at P;let⟨W3,Z,I,rv3⟩:=wk.yld lf2 E (xAk hlt) yy;have P:lcB is one (List.replicate T.length none++cs.map (nth O)) none a G J[i] S2 λo S1=>match o with
    |some u=>lcK G bd (J.drop<|i+1) (us++[u]) S1 Kf
    |none=>lcK G bd (J.drop<|i+1) us S1 Kf:=by rw[hbody];exact P
   have lf3:W1.Lf W3:=⟨λp o z=>Z.f p o<|lf2.f p o z,λp o z=>Z.m p o<|lf2.m p o z⟩
   have hpr3:W3.pr=(D,.lst ys)::W1.pr:=Z.r.trans A;refine jV g ho I (yV<|(rg.mono le1).lf lf3) rv3 P λσ4 τ4 h4 rg4 hl4 hj4=>⟨?_,?_,?_⟩
   .have hl:τ4.length=T.length+cs.length:=by rw[rg4.l,hl4];simp
    apply List.ext_getElem?;intro q;rw[List.getElem?_drop,hj4 _ (λz=>absurd (his _ z) ()),xCl ⋯,xCu];congr 1;lia
   .rw[rg4.l,hl4];simp
   ·-- the element
    have elem:∀{W5:Wd}{S5:So}{H5:Hp},W3.Le W5->RS B W5 S5 H5->a G σ4 S5 (λ_ _=>G.fail) (λu S6=>lcK G bd (J.drop<|i+1) (us++[u]) S6 Kf)->LE B G (λ_ _ _ _=>False) a τ4 H5 λv H6=>H6 D=some (.lst ys)/\Wi (i+1) (J.length-(i+1)) (ys++[v]) (upd H6 D<|.lst<|ys++[v]):=λ{W5 S5 H5} le5 rs5 h5=>
     LE.go me rs5 (rg4.mono le5) (me.m (λ_ _ z=>(g.no z).elim) (λ_ _ z=>z) h5) λu S6 W6 uu H6 Y rs6 ru _ h6=>by
      have hpr6:W6.pr=(D,.lst ys)::W1.pr:=(le5.trans Y).r.trans hpr3;refine⟨(rs6.pf _<|by rw[hpr6];exact xAr).1,again hlt (by simp;lia) (W':={W6 with pr:=(D,.lst<|ys++[uu])::W1.pr}) ?_ rfl (rs6.held hpr6 (λ_=>nofun) M) ?_ h6⟩
      .exact⟨λp o z=>(le5.trans Y).f p o<|lf3.f p o z,λp o z=>(le5.trans Y).m p o<|lf3.m p o z⟩
      .exact(((L.mono Z).mono<|le5.trans Y).app<|.one ru).lf .pr
    exact⟨(I.pf _<|by rw[hpr3];exact xAr).1,by rw[xCg rfl];exact elem .refl I h4⟩
  .have e:i=J.length:=by lia
   subst e;rw[List.drop_length] at P;refine .inl ⟨wk.stop lf2 E,?_⟩;exact fin le1 lf2 A M E L P
 .exact(g.no h1).elim
end
end Fx
namespace Fx
open PySem L2
inductive Gd where
 |fn (i np:Nat) (df:List U) (mp:List Bool)|cl (i np:Nat) (df:List U)|con (u:U)
structure Ct where
 N:C5
 sc:B7 (Str×NameKind)
 gl:B7 (Str×Gd)
 ms:B7 (Str×Str×Nat×Nat)
 mu:C5
 fl:C5
 bl:C5
 ini:C5
 isc:C5
 inC:C4
noncomputable def idx(x:Str):C5->Nat->B8 Nat
 |[],_=>none
 |y::r,i=>if x=y then some i else idx x r (i+1)
noncomputable def okN(x:Str):C4:=!(x==("__debug__":Str))&&!(x==("__classdict__":Str))&&!(x==("__name__":Str))
noncomputable def isV(c:Ct)(x:Str):C4:=match zAv x c.sc with
 |some .local=>true
 |some .cell=>true
 |some .free=>true
 |_=>false
noncomputable def isL(c:Ct)(x:Str):C4:=match zAv x c.sc with
 |some .local=>true
 |some .cell=>true
 |_=>false
def isG(c:Ct)(x:Str):C4:=(match zAv x c.sc with
 |some .globalImplicit=>true
 |_=>false)&&okN x
def vIx(c:Ct)(x:Str):B8 Nat:=if isV c x&&okN x then idx x c.N 0 else none
def lIx(c:Ct)(x:Str):B8 Nat:=if isL c x then idx x c.N 0 else none
def glo(c:Ct)(x:Str):B8 Gd:=if isG c x then zAv x c.gl else none
def isB(c:Ct)(x:Str):C4:=isG c x&&c.bl.any λy=>decide<|y=x
noncomputable def o1{J β:Type}(f:J->β):B8 J->B8 β
 |some a=>some<|f a
 |none=>none
noncomputable def o2{J β γ:Type}(f:J->β->γ):B8 J->B8 β->B8 γ
 |some a,some b=>some<|f a b
 |_,_=>none
noncomputable def o3{J β γ δ:Type}(f:J->β->γ->δ):B8 J->B8 β->B8 γ->B8 δ
 |some a,some b,some c=>some<|f a b c
 |_,_,_=>none
noncomputable def gd{J:Type}(b:C4)(o:B8 J):B8 J:=match b with
 |true=>o
 |false=>none
noncomputable def zJ3(m:C4):Operator->B8 Pm
 |.Add=>some (.add m)|.Sub=>some .sub|.Mult=>some .mul|.FloorDiv=>some .fdiv|.Mod=>some .mod|.Pow=>some .pow|_=>none
noncomputable def zGc:CmpOp->B8 Pm
 |.Eq=>some .eq|.NotEq=>some .ne|.Lt=>some .lt|.LtE=>some .le|.Gt=>some .gt|.GtE=>some .ge|.In=>some .inn|.NotIn=>some .nin|_=>none
noncomputable def zDb:CmpOp->B8 Pm
 |.Lt=>some .lt|.LtE=>some .le|.Gt=>some .gt|.GtE=>some .ge|_=>none
noncomputable def zA9:C0->C4
 |.Set ..=>false
 |_=>true
noncomputable def zGm(x:Str):B8 String:=if x="int" then some "int" else if x="bool" then some "bool" else if x="str" then some "str" else if x="tuple" then some "tuple" else if x="list" then some "list" else none
noncomputable def zD0(m:C4)(x:Str):B8 Pm:=if x="len" then some .len else if x="sorted" then some (.srt m) else if x="abs" then some .abs else if x="int" then some .int1 else if x="tuple" then some .tupOf else if x="list" then some (.lstOf m) else if x="dict" then some .dctOf else if x="all" then some .all else none
noncomputable def zH2(x:Str):B8 Pm:=if x="max" then some .max else if x="min" then some .min else none
noncomputable def zI7:Const->B8 Str
 |.str x=>some x
 |_=>none
def zI6:C0->B8 (Str×Nat×Pos)
 |.Constant k j p=>o1 (λx=>(x,j,p))<|zI7 k
 |_=>none
def zBq:B7 (B8 C0)->B8 (C5)
 |[]=>some []
 |e::r=>o2 (λx a=>x.1::a) (e.bind zI6)<|zBq r
def zBp(c:Ct):B7 C0->B8 (C7)
 |[]=>some []
 |.Name x _::r=>o2 (λi a=>i::a) (lIx c x)<|zBp c r
 |_=>none
def zEo(c:Ct):C0->B8 (C7×C4)
 |.Name x _=>o1 (λi=>([i],true))<|lIx c x
 |.Tuple b _ _=>o1 (λa=>(a,false))<|zBp c b
 |_=>none
noncomputable def locs:B7 (Str×NameKind)->C5
 |[]=>[]
 |(x,.local)::r=>x::locs r
 |_::r=>locs r
noncomputable def frees:B7 (Str×NameKind)->C5
 |[]=>[]
 |(x,.free)::r=>frees r++[x]
 |_::r=>frees r
def zCj(c:Ct):C5->B8 (C7)
 |[]=>some []
 |x::r=>match zAv x c.sc with
  |some .cell=>o2 (λi a=>i::a) (idx x c.N 0)<|zCj c r
  |_=>none
def zFp(sc:Scope):C4:=decide (sc.kind = .function) && sc.names.all (λp=>match p.2 with
 |.local=>true
 |.free=>true
 |.globalImplicit=>true
 |_=>false)&&zA8 (sc.names.map (·.1))
noncomputable def dflt(np n:Nat)(df:C6):B8<|C6:=if n<=np/\np-n<=df.length then some (df.drop<|df.length-(np-n)) else none
noncomputable def zDv:C0->C4
 |.Call (.Name y _) _ _ _=>y != ("super":Str)
 |.Call ..=>false
 |_=>true
noncomputable def tg1:C0->C4
 |.Tuple ..=>false
 |_=>true
noncomputable def zDe:C0->C4
 |.Tuple ..=>true
 |_=>false
noncomputable def zGr:B8 NameKind->C4
 |some .local=>true
 |_=>false
noncomputable def o1'{J β:Type}(f:J->B8 β)(a:B8 J):B8 β:=a.bind f
noncomputable def o3'{J β γ δ:Type}(f:J->β->γ->B8 δ)(a:B8 J)(b:B8 β)(c:B8 γ):B8 δ:=a.bind λx=>b.bind λy=>c.bind λz=>f x y z
def qH{J β γ δ:Type}{f:J->β->γ->B8 δ}{a:B8 J}{b:B8 β}{c:B8 γ}{r:δ}(h:o3' f a b c=some r):∃x y z,a=some x/\b=some y/\c=some z/\f x y z=some r:=by
 unfold o3' at h;let⟨x,i,h⟩:=xCi.mp h;let⟨y,e,h⟩:=xCi.mp h;let⟨z,d,h⟩:=xCi.mp h;exact⟨x,y,z,i,e,d,h⟩
noncomputable def zEg(e:C0):B8 {z:(Str×B7 C0)×Pos×Pos // e=.Call (.Name z.1.1 z.2.1) z.1.2 [] z.2.2}:=match e with
 |.Call (.Name x p) a [] q=>some ⟨((x,a),p,q),rfl⟩
 |_=>none
noncomputable def zKf(e:C0):B8 {z:(Str×C0)×Pos×Nat×Pos×Pos×Pos // e=.Call (.Name z.1.1 z.2.1) [z.1.2] [⟨some "start",.Constant (.int 2) z.2.2.1 z.2.2.2.1,z.2.2.2.2.1⟩] z.2.2.2.2.2}:=match e with
 |.Call (.Name x p) [a] [⟨some y,.Constant (.int i) j b,kp⟩] q=>if h:y="start"/\i=2 then some ⟨((x,a),p,j,b,kp,q),by let⟨rfl,rfl⟩:=h;rfl⟩ else none
 |_=>none
noncomputable def zHk(e:C0):B8 {z:Nat×Pos // e=.Constant .none z.1 z.2}:=match e with
 |.Constant .none j p=>some ⟨(j,p),rfl⟩
 |_=>none
noncomputable def zKa:CmpOp->C4
 |.Is=>true
 |_=>false
noncomputable def slO(e:C0):B8 {z:(B8 C0×B8 C0)×Pos // e=.Slice z.1.1 z.1.2 none z.2}:=match e with
 |.Slice a b none p=>some ⟨((a,b),p),rfl⟩
 |_=>none
noncomputable def zHw(gs:B7 Comprehension):B8 {z:C0×C0×B7 C0 // gs=[⟨z.1,z.2.1,z.2.2,0⟩]}:=match gs with
 |[⟨a,b,l,0⟩]=>some ⟨(a,b,l),rfl⟩
 |_=>none
noncomputable def zE2(e:C0):B8 {z:C0×C0×Nat×Pos // e=.Tuple [z.1,z.2.1] z.2.2.1 z.2.2.2}:=match e with
 |.Tuple [a,b] k p=>some ⟨(a,b,k,p),rfl⟩
 |_=>none
noncomputable def zJ2(es:B7 C0):B8 {z:Str×Pos×Str×Pos // es=[.Name z.1 z.2.1,.Name z.2.2.1 z.2.2.2]}:=match es with
 |[.Name x b,.Name y a]=>some ⟨(x,b,y,a),rfl⟩
 |_=>none
section
variable{J:Type}
noncomputable def zHp(a:Str)(c:C5)(b:B7<|Str×Str×Nat×Nat):B8<|Str×Nat×Nat:=match b.find? λp=>decide (p.1=a)&&c.any λy=>decide (y="@"++p.2.1) with
 |some p=>some p.2
 |none=>zAv a b
structure Cps(J:Type) where
 E:Ct->C4->C0->B8 (TEx J)
 C:Ct->C4->C0->B7 C0->Pos->B8 (TEx J)
 M:Ct->C0->Str->B7 C0->B8 (TEx J)
 A:Ct->B7 C4->B7 C0->B8 (TAx J)
 T:Ct->C4->C0->B8 (TTx J)
 I:Ct->C4->C0->B8 (TEx J)
def eV(c:Ct)(x:Str):B8<|TEx J:=match vIx c x with
 |some i=>some<|cV i
 |none=>match glo c x with
  |some (.con u)=>some<|cC u
  |_=>none
def eD(r:Cps J)(c:Ct)(ks:B7<|B8 C0)(vs:B7 C0):B8<|TEx J:=match zBq ks with
 |some a=>gd (zA8 a&&Nat.ble a.length 15&&Nat.beq a.length vs.length)<|o1 (cP<|.dct a)<|r.A c (vs.map λ_=>true) vs
 |none=>none
def eSb(r:Cps J)(c:Ct)(m:C4)(a b:C0):B8<|TEx J:=match slO b with
 |some z=>match z.1.1.1,z.1.1.2 with
  |some l,none=>o2 (λx y=>cP (.sl m true false)<|zAw x y) (r.E c false a)<|r.E c false l
  |none,some h=>o2 (λx y=>cP (.sl m false true)<|zAw x y) (r.E c false a)<|r.E c false h
  |_,_=>none
 |none=>gd (zB1 b)<|o2 (λx y=>cP .ix<|zAw x y) (r.E c false a)<|r.E c false b
noncomputable def cty(c:Ct)(sc:Scope):Ct:={c with N:=locs sc.names++frees sc.names,sc:=sc.names,inC:=true}
def eL2(c:Ct)(sc:Scope)(z:C0×C0×B7 C0)(cs:C7)(u:C7×C4)(a b:TEx J):B8<|TEx J:=gd (!c.inC&&zFp sc&&zA9 z.2.1&&u.1.all (λk=>Nat.blt k (locs sc.names).length)&&z.2.2.isEmpty)<|some<|cL a u.1 u.2 (locs sc.names).length cs none b
def eL1(r:Cps J)(c:Ct)(a:C0)(sc:Scope)(z:C0×C0×B7 C0)(cs:C7)(u:C7×C4)(b:TEx J):B8<|TEx J:=o1' (eL2 c sc z cs u b)<|r.E (cty c sc) false a
def eLC(r:Cps J)(c:Ct)(b:C0)(a:B7 Comprehension)(sc:Scope):B8<|TEx J:=match zHw a with
 |some z=>o3' (eL1 r c b sc z.1) (zCj c<|frees sc.names) (zEo (cty c sc) z.1.1)<|r.I c (tg1 z.1.1) z.1.2.1
 |none=>none
def eE(r:Cps J)(c:Ct)(m:C4)(e:C0):B8<|TEx J:=match e with
  |.Name x _=>eV c x
  |.Constant k _ _=>match k with
   |.int i=>some<|cC<|.int i
   |.str x=>some<|cC<|.str x
   |.bool b=>some<|cC<|.bl b
   |.none=>some<|cC .non
   |_=>none
  |.BinOp a h b _=>o3 (λp x y=>cP p<|zAw x y) (zJ3 m h) (r.E c false a)<|r.E c false b
  |.UnaryOp h a _=>match h with
   |.Not=>o1 (λt=>cB<|tNt t)<|r.T c true a
   |.USub=>o1 (λx=>cP .neg<|aC x aN)<|r.E c false a
   |_=>none
  |.BoolOp h d p=>o1 cB<|r.T c true<|.BoolOp h d p
  |.Compare a ops bs p=>o1 cB<|r.T c true<|.Compare a ops bs p
  |.IfExp t a b _=>o3 cIf (r.T c false t) (r.E c m a)<|r.E c m b
  |.Tuple l _ _=>gd (Nat.ble l.length 1000)<|o1 cT<|r.A c [] l
  |.List l _=>o1 (cP<|.lst m)<|r.A c [] l
  |.Dict ks d _=>match ks,d with
   |[],[]=>some<|cP (.dct []) aN
   |ks,d=>eD r c ks d
  |.Subscript a b _=>eSb r c m a b
  |.Attribute o f _=>gd (zBy o&&c.fl.any λg=>decide<|g=f)<|o1 (λx=>cP (.fld f)<|aC x aN)<|r.E c false o
  |.ListComp q j sc _=>o1 (zGn m)<|eLC r c q j sc
  |.Call f v n pos=>match n with
   |[]=>gd (v.all zAa)<|r.C c m f v pos
   |_=>none
  |_=>none
def eB1(r:Cps J)(c:Ct)(m:C4)(x:Str)(a:C0)(y:Str)(as:B7 C0):B8<|TEx J:=match as with
 |[b]=>match decide (y="set") with
  | true=>gd (isB c y && zAa b) (match decide (x="len") with
   |true=>o1 (λz=>cP .lenset<|aC z aN) (r.E c false b)
   |false=>gd (decide<|x="sorted")<|o1 (λz=>cP .srs<|aC z aN)<|r.E c false b)
  |false=>o2 (λp z=>cP p<|aC z aN) (zD0 m x)<|r.E c false a
 |[b,d]=>match decide (x="list"),decide (y="range") with
  |true,true=>gd (isB c y&&zAa b&&zAa d&&!m)<|o2 (λz w=>cP .lrng<|zAw z w) (r.E c false b)<|r.E c false d
  |_,_=>o2 (λp z=>cP p<|aC z aN) (zD0 m x)<|r.E c false a
 |_=>o2 (λp z=>cP p<|aC z aN) (zD0 m x)<|r.E c false a
def eB2(r:Cps J)(c:Ct)(x:Str)(a b:C0):B8<|TEx J:=match decide (x="isinstance") with
 |true=>match b with
  |.Name y _=>match zGm y with
   |some t=>gd (isB c y)<|o1 (λz=>cP (.isT t)<|aC z aN)<|r.E c false a
   |none=>none
  |_=>none
 |false=>o3 (λp z w=>cP p<|zAw z w) (zH2 x) (r.E c false a)<|r.E c false b
def eB(r:Cps J)(c:Ct)(m:C4)(x:Str)(as:B7 C0):B8<|TEx J:=match as with
 |[a]=>match zEg a with
  |some z=>eB1 r c m x a z.1.1.1 z.1.1.2
  |none=>o2 (λp z=>cP p<|aC z aN) (zD0 m x)<|r.E c false a
 |[a,b]=>eB2 r c x a b
 |_=>none
def eN(r:Cps J)(c:Ct)(m:C4)(x:Str)(as:B7 C0):B8<|TEx J:=match glo c x with
 |some (.fn i b e h)=>o2 (λa d=>cF i a d) (r.A c h as)<|dflt b as.length e
 |some (.cl i b e)=>gd (!c.inC)<|o2 (λa d=>cK x i a d) (r.A c [] as)<|dflt b (as.length+1) e
 |some _=>none
 |none=>gd (isB c x)<|eB r c m x as
def eK(r:Cps J)(c:Ct)(kvs:B7<|Str×U)(no:C5)(as:B7 C0):B8<|TEx J:=match as with
 |[e]=>o1 (λz=>cP .get1<|aC (cC<|.kd kvs no)<|aC z aN)<|r.E c false e
 |[e,d]=>o2 (λz w=>cP .get2<|aC (cC<|.kd kvs no)<|zAw z w) (r.E c false e)<|r.E c false d
 |_=>none
def eG(r:Cps J)(c:Ct)(o:C0)(a:Str)(as:B7 C0):B8<|TEx J:=match o with
 |.Name y _=>match glo c y with
  |some (.con<|.kd b no)=>gd (decide<|a="get")<|eK r c b no as
  |_=>r.M c o a as
 |o=>r.M c o a as
def eAt(r:Cps J)(c:Ct)(o:C0)(a:Str)(as:B7 C0):B8<|TEx J:=match zHp a c.mu c.ms with
 |some (C,i,b)=>gd (zDv o)<|o3 (λz w d=>cM C a i z w d) (r.E c false o) (r.A c [] as)<|dflt b (as.length+1) []
 |none=>eG r c o a as
def eC(r:Cps J)(c:Ct)(m:C4)(f:C0)(as:B7 C0)(pos:Pos):B8<|TEx J:=match f with
  |.Name x _=>eN r c m x as
  |.Attribute o a b=>gd (b.endLine==pos.line&&Nat.blt as.length 29)<|eAt r c o a as
  |_=>none
def eM(r:Cps J)(c:Ct)(o:C0)(a:Str)(as:B7 C0):B8<|TEx J:=gd (zBy o) (match as with
  |[e]=>if a="append" then o2 (λz w=>cBM "list" .app z<|aC w aN) (r.E c false o) (r.E c false e)
   else if a="extend" then o2 (λz w=>cBM "list" .ext z<|aC w aN) (r.E c false o) (r.E c false e)
   else if a="join" then o2 (λz w=>cBM "str" .join z<|aC w aN) (r.E c false o) (r.E c false e)
   else none
  |_=>none)
def eA(r:Cps J)(c:Ct)(m:B7 C4)(es:B7 C0):B8<|TAx J:=match es with
 |[]=>some aN
 |e::q=>gd (zAa e)<|o2 aC (r.E c (m.headD false) e)<|r.A c m.tail q
def eBo(r:Cps J)(c:Ct)(b:C4)(op:BoolOp)(vs:B7 C0)(p:Pos):B8<|TTx J:=match vs with
 |[]=>none
 |a::q=>match q with
  |[]=>r.T c b a
  |_::_=>match op with
   |.And=>o2 tAn (r.T c b a)<|r.T c b<|.BoolOp .And q p
   |.Or=>o2 tOr' (r.T c b a)<|r.T c b<|.BoolOp .Or q p
def eC1(r:Cps J)(c:Ct)(a:C0)(op:CmpOp)(b:C0):B8<|TTx J:=match(zHk b).isSome&&zKa op with
 |true=>o1 (λx=>tB<|cP .isN<|aC x aN)<|r.E c false a
 |false=>gd (zA9 b)<|o3 (λp x y=>tB<|cP p<|zAw x y) (zGc op) (r.E c false a)<|r.E c false b
def eC3(r:Cps J)(c:Ct)(a b d:C0)(p q:B8 Pm):B8<|TTx J:=match p,q with
 |some p,some q=>o3 (λx y z=>tCh p q x y z) (r.E c false a) (r.E c false b)<|r.E c false d
 |_,_=>none
def eCm(r:Cps J)(c:Ct)(a:C0)(ops:B7 CmpOp)(bs:B7 C0):B8<|TTx J:=match ops,bs with
 |[e],[b]=>eC1 r c a e b
 |[p,q],[b,d]=>gd (zA9 b&&zA9 d)<|eC3 r c a b d (zDb p)<|zDb q
 |_,_=>none
def eT(r:Cps J)(c:Ct)(b:C4)(e:C0):B8<|TTx J:=match e with
  |.UnaryOp d a _=>match d with
   |.Not=>o1 tNt<|r.T c b a
   |_=>none
  |.BoolOp d i p=>eBo r c b d i p
  |.Compare a ops bs _=>eCm r c a ops bs
  |.Call f j h p=>o1 tB<|r.E c false<|.Call f j h p
  |.Attribute o f p=>gd (!b)<|o1 (λx=>tB<|cP .tru<|aC x aN)<|r.E c false<|.Attribute o f p
  |.Name x p=>match b with
   |true=>o1 tB<|r.E c false<|.Name x p
   |false=>o1 (λy=>tB<|cP .tru<|aC y aN)<|r.E c false<|.Name x p
  |_=>none
def eIs(r:Cps J)(c:Ct)(e:C0):B8<|TEx J:=o1 (λz=>cP .seq<|aC z aN)<|r.E c false e
def eIr(r:Cps J)(c:Ct)(as:B7 C0):B8<|TEx J:=match as with
 |[a]=>gd (zAa a)<|o1 (λz=>cP .rng1<|aC z aN)<|r.E c false a
 |_=>none
def eIz(r:Cps J)(c:Ct)(one:C4)(as:B7 C0):B8<|TEx J:=match as with
 |[a,b]=>gd (!one&&zAa a&&zAa b)<|o2 (λz w=>cP .zip<|zAw z w) (r.E c false a)<|r.E c false b
 |_=>none
def eIc(r:Cps J)(c:Ct)(one:C4)(e:C0)(x:Str)(as:B7 C0):B8<|TEx J:=match isB c x&&decide (x="range") with
 |true=>eIr r c as
 |false=>match isB c x&&decide (x="zip") with
  |true=>eIz r c one as
  |false=>eIs r c e
def eI(r:Cps J)(c:Ct)(one:C4)(e:C0):B8<|TEx J:=match zEg e with
 |some z=>eIc r c one e z.1.1.1 z.1.1.2
 |none=>match zKf e with
  |some z=>gd (isB c z.1.1.1&&decide (z.1.1.1="enumerate")&&!one&&zAa z.1.1.2)<|o1 (λz=>cP .enm2<|aC z aN)<|r.E c false z.1.1.2
  |none=>eIs r c e
def cps:Nat->Cps J
 |0=>⟨λ_ _ _=>none,λ_ _ _ _ _=>none,λ_ _ _ _=>none,λ_ _ _=>none,λ_ _ _=>none,λ_ _ _=>none⟩
 |n+1=>⟨eE<|cps n,eC<|cps n,eM<|cps n,eA<|cps n,eT<|cps n,eI<|cps n⟩
def cpE(c:Ct)(n:Nat)(m:C4)(e:C0):B8<|TEx J:=(cps n).E c m e
def cpC(c:Ct)(n:Nat)(m:C4)(f:C0)(as:B7 C0)(pos:Pos):B8<|TEx J:=(cps n).C c m f as pos
def cpM(c:Ct)(n:Nat)(o:C0)(a:Str)(as:B7 C0):B8<|TEx J:=(cps n).M c o a as
def cpA(c:Ct)(n:Nat)(m:B7 C4)(es:B7 C0):B8<|TAx J:=(cps n).A c m es
def cpT(c:Ct)(n:Nat)(a:C4)(e:C0):B8<|TTx J:=(cps n).T c a e
def cpI(c:Ct)(n:Nat)(one:C4)(e:C0):B8<|TEx J:=(cps n).I c one e
noncomputable def sZ:TSx J:=λG _ _ _=>G.fail
def zHr(c:Ct)(z:Str):C0->B8 Nat
 |.Name x _=>if(c.mu.any λy=>decide<|y=z++x)=true then vIx c x else none
 |_=>none
def zHj(c:Ct)(x y:Str)(e d:Pos)(a b:C0):C4:=!c.inC&&!decide (x=y)&&zGr (zAv x c.sc)&&zGr (zAv y c.sc)&&(d.line==e.line)&&zAa a&&zAa b&&!(foldedForSure 8 a&&foldedForSure 8 b)&&!(constantsAlone 8 a&&constantsAlone 8 b)
noncomputable def zHn:C0->C4
 |.Dict [] [] _=>true
 |_=>false
noncomputable def zI2:C0->C4
 |.Name ..=>true
 |_=>false
structure Cpt(J:Type) where
 S:Ct->Stmt->B8 (TSx J)
 L:Ct->B7 Stmt->B8 (TSx J)
def zHt(n:Nat)(c:Ct)(e:C0):B8<|TSx J:=match zHr c "!" e with
 |some i=>some<|sR<|cP .frz<|aC (cV i) aN
 |none=>o1 sR<|cpE c n (c.mu.any λy=>decide<|y="^") e
def eF2(r:Cpt J)(c:Ct)(z:C0×C0×Nat×Pos)(a:C0)(b:B7 Stmt)(u v:C7×C4)(w:TEx J):B8<|TSx J:=gd (!u.2&&!v.2&&zA9 a&&zDe z.1&&zDe z.2.1)<|o1 (λy=>sF2 w u.1 v.1 y)<|r.L c b
def zF8(n:Nat)(r:Cpt J)(c:Ct)(a d:C0)(b:B7 Stmt):B8<|TSx J:=match zE2 a with
 |some z=>o3' (eF2 r c z.1 d b) (zEo c z.1.1) (zEo c z.1.2.1)<|cpI c n (tg1 a) d
 |none=>none
def zHu(n:Nat)(r:Cpt J)(c:Ct)(a d:C0)(b:B7 Stmt):B8<|TSx J:=match zEo c a with
 |some (e,one)=>match zHr c "~" d with
  |some i=>gd one<|o1 (λw=>sFL (cV i) e w)<|r.L c b
  |none=>gd (zA9 d&&(one||zDe a))<|o2 (λz w=>sF z e one w) (cpI c n (tg1 a) d)<|r.L c b
 |none=>zF8 n r c a d b
def eNm(n:Nat)(c:Ct)(x:Str)(e:C0):B8<|TSx J:=match zHn e&&c.mu.any λy=>decide (y="#"++x) with
 |true=>o1 (λi=>sA i<|cP .dctT aN)<|lIx c x
 |false=>o2 sA (lIx c x)<|cpE c n (c.mu.any λy=>decide<|x=y) e
def eP2(n:Nat)(c:Ct)(e:C0)(i j:Nat)(a:TEx J):B8<|TSx J:=o1 (λb=>sPr i j a b)<|cpE c n false e
def ePr(n:Nat)(c:Ct)(es:B7 C0)(e:C0):B8<|TSx J:=match zJ2 es,zE2 e with
 |some z,some w=>gd (zHj c z.1.1 z.1.2.2.1 z.1.2.1 z.1.2.2.2 w.1.1 w.1.2.1)<|o3' (eP2 n c w.1.2.1) (lIx c z.1.1) (lIx c z.1.2.2.1)<|cpE c n false w.1.1
 |_,_=>none
def eTu(n:Nat)(c:Ct)(es:B7 C0)(e:C0):B8<|TSx J:=match zDe e with
 |false=>o2 sU (zBp c es)<|cpE c n false e
 |true=>ePr n c es e
def zI4(n:Nat)(c:Ct)(a e:C0):B8<|TSx J:=match a with
 |.Name x _=>eNm n c x e
 |.Tuple b _ _=>eTu n c b e
 |.Attribute o f _=>gd (c.fl.any λg=>decide<|g=f)<|o2 (λz w=>sP (.setf f) w<|aC z aN) (cpE c n false o)<|cpE c n true e
 |.Subscript o i _=>gd (zB1 i)<|o3 (λz w v=>sP .seti v<|zAw z w) (cpE c n false o) (cpE c n false i)<|cpE c n true e
 |_=>none
def eS(n:Nat)(r:Cpt J)(c:Ct)(s:Stmt):B8<|TSx J:=match s with
  |.Pass _=>some sN
  |.Expr e _=>gd (zA3 e)<|o1 sE<|cpE c n false e
  |.Return e _=>match e with
   |some e=>zHt n c e
   |none=>none
  |.If t a b _=>o3 sI (cpT c n false t) (r.L c a)<|r.L c b
  |.While t b orelse _=>match orelse with
   |[]=>o2 sW (cpT c n false t)<|r.L c b
   |_=>none
  |.For d i b orelse _=>match orelse with
   |[]=>zHu n r c d i b
   |_=>none
  |.Assign h e _=>match h with
   |[d]=>gd (zA3 e||zI2 d)<|zI4 n c d e
   |_=>none
  |.Raise ..=>some sZ
  |_=>none
def eL(r:Cpt J)(c:Ct)(ss:B7 Stmt):B8<|TSx J:=match ss with
 |[]=>some sN
 |s::q=>o2 sQ (some<|(r.S c s).getD sZ)<|r.L c q
def cpt:Nat->Cpt J
 |0=>⟨λ_ _=>none,λ_ _=>none⟩
 |n+1=>⟨eS n<|cpt n,eL<|cpt n⟩
def cpS(c:Ct)(n:Nat)(s:Stmt):B8<|TSx J:=(cpt n).S c s
def zGb(c:Ct)(n:Nat)(ss:B7 Stmt):B8<|TSx J:=(cpt n).L c ss
end
end Fx
namespace Fx
open PySem PySem.Spec L2
open PyProof.Rows hiding St
variable{J β γ δ:Type}{o tg e it:C0}{apos pos py spos px:Pos}{env:Env}{x y:Str}{is:C7}{H:Hp}{vs:C6}{S S':So}{v:U}{op:CmpOp}{p:Pm}{n j fw:Nat}{kk:C5}{as:B7 C0}{vl:C4}{st:Stmt}{t:D3}{r:Row}{fd:FuncData}{B:Bs}
theorem dw{f:J->β}{a:B8 J}{t:β}{C:β->Prop}(h:o1 f a=some t)(k:∀x,a=some x->C (f x)):C t:=by
 cases a with
 |none=>cases h
 |some x=>cases h;exact k x rfl
theorem eP{f:J->β->γ}{a:B8 J}{b:B8 β}{t:γ}{C:γ->Prop}(h:o2 f a b=some t)(k:∀x y,a=some x->b=some y->C (f x y)):C t:=by
 cases a with
 |none=>cases h
 |some x=>cases b with
  |none=>cases h
  |some y=>cases h;exact k x y rfl rfl
theorem ot{f:J->β->γ->δ}{a:B8 J}{b:B8 β}{c:B8 γ}{t:δ}{C:δ->Prop}(h:o3 f a b c=some t)(k:∀x y z,a=some x->b=some y->c=some z->C (f x y z)):C t:=by
 cases a with
 |none=>cases h
 |some x=>cases b with
  |none=>cases h
  |some y=>cases c with
   |none=>cases h
   |some z=>cases h;exact k x y z rfl rfl rfl
theorem cN{b:C4}{o:B8 J}{t:J}{C:Prop}(h:gd b o=some t)(k:b=true->o=some t->C):C:=by
 cases b with
 |false=>cases h
 |true=>exact k rfl h
def fT{f:J->β}{o:B8 J}{b:β}(h:o1 f o=some b):∃a,o=some a/\b=f a:=by cases o <;> cases h;exact⟨_,rfl,rfl⟩
def gG{f:J->β->γ}{o:B8 J}{p:B8 β}{b:γ}(h:o2 f o p=some b):∃x y,o=some x/\p=some y/\b=f x y:=by cases o <;> cases p <;> cases h;exact⟨_,_,rfl,rfl,rfl⟩
def Ag{f:J->β->γ->δ}{o:B8 J}{p:B8 β}{q:B8 γ}{b:δ}(h:o3 f o p q=some b):∃x y z,o=some x/\p=some y/\q=some z/\b=f x y z:=by cases o <;> cases p <;> cases q <;> cases h;exact⟨_,_,_,rfl,rfl,rfl,rfl⟩
theorem jc{x:Str}:∀{l:C5}{i j:Nat},idx x l i=some j->i<=j/\l[j-i]?=some x
 |[],_,_,h=>by cases h
 |y::r,i,j,h=>by
  unfold idx at h;split at h
  .next e=>cases h;exact⟨xAg _,by rw[Nat.sub_self,e];rfl⟩
  .let⟨b,a⟩:=jc h;exact⟨(),by rw[show j-i=(j-(i+1))+1 by lia];simpa using a⟩
def uG{m:Str}{es:B7 C0}(hb:attributeBase o m env (eval o env)=eval o env)(a:es.all zAa=true)(d:es.length<29)(b:(apos.endLine == pos.line)=true):∃pl,eval (.Call (.Attribute o m apos) es [] pos) env=(do
   let ov <- eval o env
   standAt apos.atName
   let (f,first) <- holding [ov] (getMethod ov m pl)
   callWith pos f first (backTo pos<|starEach es env) (backToKw pos<|keywordEach [] env)):=by
 have c:methodCallForm (es.length+([]:B7 Keyword).length) (backTo pos<|starEach es env) (backToKw pos<|keywordEach [] env)=true:=by
  unfold methodCallForm;rw[jz a];simp[keywordEach,backToKw];lia
 refine⟨do return (<- importBound o env).getD true,?_⟩;rw[show eval (.Call (.Attribute o m apos) es [] pos) env=(do
  let ov <- attributeBase o m env (eval o env)
  standAt apos.atName
  methodCall o m apos pos env ov (es.length+([]:B7 Keyword).length) (backTo pos<|starEach es env) (backToKw pos<|keywordEach [] env)) from rfl,hb]
 unfold methodCall methodCallPos calleeOf;rw[c,b];rfl
set_option tactic.hygienic true
def vo{m:Str}{x:Sem B9}(h:zDv o=true):attributeBase o m env x=x:=by
 cases o <;> try rfl
 rename_i f as ks p
 cases f <;> try (cases h;done)
 rename_i y q
 have a:(y != ("super":Str))=true:=h;cases as <;> cases ks <;> try rfl
 unfold attributeBase;dsimp only;rw[xCg<|by rw[a];rfl]
set_option tactic.hygienic false
structure Fc(P:Program)(w:World)(base:Heap)(B:Bs)(up:B7 (Str×Str))(G:D7)(lv:Nat)(c:Ct):Prop where
 g:zBv up G
 fn:∀{x i np df mp},zAv x c.gl=some (.fn i np df mp)->∃f fd ps,B.mg x=some (.ref f)/\PySem.W.keepIn B.K (.ref f)=true/\zBb P w B.K B.mg base (CXz P w) lv f fd ps (spF B G i np)/\(∀{n ds},dflt np n df=some ds->n+ds.length=np/\∃dvs dv,zAy B.K fd ps dv/\zAg dvs dv/\∀W,Rvs B W ds dvs)
 cl:∀{x i np df},zAv x c.gl=some (.cl i np df)->∃cc f fd ps,B.cl x cc/\B.mg x=some (.ref cc)/\Mk B.K cc f/\zBb P w B.K B.mg base (CXz P w) lv f fd ps (spF B G i np)/\(∀{n ds},dflt np n df=some ds->n+ds.length=np/\∃dvs dv,zAy B.K fd ps dv/\zAg dvs dv/\∀W,Rvs B W ds dvs)/\(x∈c.isc->zGy B up x cc)/\(x∈c.ini->zAy B.K fd ps []/\∃mc,PySem.W.specialIn B.K (.ref cc) "__getattribute__"=some (some (.builtin "type.__getattribute__"))/\PySem.W.readsIn B.K cc mc=true/\PySem.W.findCls B.K (.ref cc) mc "__init__"=some (.val (.ref f))/\PySem.W.handedIn (.ref f)=true/\PySem.W.keepIn B.K (.ref f)=true)
 ms:∀{m C i np},(m,C,i,np)∈c.ms->∃cc f fd ps,(∀c',B.cl C c'->c'=cc)/\Cls B.K cc/\zEk B.K cc m f/\zBb P w B.K B.mg base (CXz P w) lv f fd ps (spF B G i np)/\zAy B.K fd ps []
 con:∀{x u},zAv x c.gl=some (.con u)->∃v val,B.mg x=some val/\zAh v val/\∀W,Rv B W u v
 bl:∀{x},x∈c.bl->B.mg x=none
 k1:zB6 B "int"
 k2:zB6 B "bool"
 k3:zB6 B "str"
 k4:zB6 B "tuple"
 k5:zB6 B "list"
 clf:ClF B c.fl
 clt:ClT B
 kdf:KdF w B
structure Cok(P:Program)(w:World)(base:Heap)(B:Bs)(lv:Nat)(c:Ct)(X:Cx):Prop where
 hP:X.prog=P
 hw:X.w=w
 hK:X.K=B.K
 hM:X.mg=B.mg
 hb:X.base=base
 N:X.N=c.N
 nd:X.N.Nodup
 vis:∀{x},isV c x=true->Vis X.env.scope x
 loc:∀{x},isL c x=true->Loc X.env.scope x/\(X.fn x=true\/X.env.scope.names.lookup x=some .local)
 lc:∀{x},zAv x c.sc=some .local->X.env.kindOf x=some .local
 gl:∀{x},isG c x=true->Gl X x
 calm:X.calm=true
 hr:zBe (lv+1) X.A
 bk:c.inC=false->X.env.blockKind=.function
 cap:c.inC=false->∀{x},zAv x c.sc=some .cell->X.env.scope.names.lookup x=some .cell/\∃a,X.env.cells.lookup x=some a
section
variable{P:Program}{w:World}{base:Heap}{B:Bs}{up:B7<|Str×Str}{G:D7}{lv:Nat}{c:Ct}{X:Cx}{Ex:St->XK}
theorem Cok.f{k:Nat}{f:C3}{fd:FuncData}{ps:C5}{sp:Sp}(a:Cok P w base B lv c X)(F:zBb P w B.K B.mg base (CXz P w) k f fd ps sp):zBb X.prog X.w X.K X.mg X.base (CXz X.prog X.w) k f fd ps sp:=by
 rw[a.hP,a.hw,a.hK,a.hM,a.hb];exact F
def e8(h:isG c x=true):okN x=true:=by unfold isG at h;rw[xCh] at h;exact h.2
def dX(h:okN x=true):(x==("__debug__":Str))=false/\(x==("__classdict__":Str))=false/\x≠"__name__":=by
 simp only[okN,xCh,Bool.not_eq_true'] at h;exact⟨h.1.1,h.1.2,λz=>by have:=h.2;rw[z] at this;simp at this⟩
def je{d:Gd}(h:glo c x=some d):isG c x=true/\zAv x c.gl=some d:=by
 unfold glo at h;split at h
 .next e=>exact⟨e,h⟩
 .cases h
def ef(h:isB c x=true):isG c x=true/\x∈c.bl:=by
 unfold isB at h;rw[xCh] at h;let⟨y,a,e⟩:=xCy.mp h.2;exact⟨h.1,by rw[<- xBe e];exact a⟩
def v5{i:Nat}(k:Cok P w base B lv c X)(h:vIx c x=some i):X.N[i]?=some x/\Vis X.env.scope x/\okN x=true:=by
 unfold vIx at h;split at h
 .next e=>
  rw[xCh] at e;let⟨_,a⟩:=jc h;exact⟨by rw[k.N];simpa using a,k.vis e.1,e.2⟩
 .cases h
def fH{i:Nat}(k:Cok P w base B lv c X)(h:lIx c x=some i):X.N[i]?=some x/\Loc X.env.scope x/\(X.fn x=true\/X.env.scope.names.lookup x=some .local):=by
 unfold lIx at h;split at h
 .next e=>
  let⟨_,a⟩:=jc h;exact⟨by rw[k.N];simpa using a,k.loc e⟩
 .cases h
set_option tactic.hygienic true
theorem gJ(k:Cok P w base B lv c X):∀{es:B7 C0}{is:C7},zBp c es=some is->es.length=is.length/\∀(j:Nat)(e:C0),es[j]?=some e->∃x p i,e=.Name x p/\is[j]?=some i/\X.N[i]?=some x/\Loc X.env.scope x/\(X.fn x=true\/X.env.scope.names.lookup x=some .local)
 |[],is,h=>by cases h;exact⟨rfl,λj e z=>by simp at z⟩
 |e::es,is,h=>by
  cases e <;> try (cases h;done)
  rename_i x p
  let⟨i,a,d,b,rfl⟩:=gG<|show o2 _ (lIx c x) (zBp c es)=_ from h;let⟨l,q⟩:=gJ k b;refine⟨by simp[l],λj e z=>?_⟩;cases j with
  |zero=>simp at z;subst z;exact⟨x,p,i,rfl,rfl,fH k d⟩
  |succ j=>simpa using q j e (by simpa using z)
set_option tactic.hygienic false
def jw{one:C4}(k:Cok P w base B lv c X)(h:zEo c tg=some (is,one)):FG X B G tg is one/\(one=true->is.length=1):=by
 cases tg <;> try (cases h;done)
 .let⟨i,m,e⟩:=fT<|show o1 _ _=_ from h;cases e;let⟨a,b,d⟩:=fH k m;exact⟨BS k.nd a b d,λ_=>rfl⟩
 .let⟨i,m,e⟩:=fT<|show o1 _ _=_ from h;cases e;let⟨l,q⟩:=gJ k m;exact⟨BR k.hK k.calm k.nd q l,nofun⟩
theorem cg{J:Type}{x:Str}:∀{l:B7<|Str×J},zAv x l=l.lookup x
 |[]=>rfl
 |(y,v)::r=>by
  unfold zAv;rw[List.lookup_cons];by_cases e:x=y
  .rw[xCg e,e];simp
  .rw[xCf e,beq_false_of_ne e];exact cg
theorem c9{env:Env}:∀{a:B7<|Str×NameKind}{x:Str},a.lookup x=some .globalImplicit ->
  (a.map λ(n,k)=>if(k==NameKind.free&&env.scope.kind == .function&&env.kindOf n==some .cell) then(n,NameKind.cell) else(n,k)).lookup x=some .globalImplicit
 |[],_,h=>by simp at h
 |(n,k)::r,x,h=>by
  have b:=@c9 env r x;show List.lookup x ((if(k==NameKind.free&&env.scope.kind == .function&&env.kindOf n==some .cell)=true then(n,NameKind.cell) else(n,k))::_)=_;cases hx:x==n with
  |true=>
   simp only[List.lookup_cons,hx] at h;cases h;simp[hx,List.lookup_cons]
  |false=>
   simp only[List.lookup_cons,hx] at h;split <;> simp only[List.lookup_cons,hx] <;> exact b h
theorem lD{env:Env}:∀{l:B7<|Str×NameKind},(∀y,(y,NameKind.free)∈l->∃a,env.cells.lookup y=some a)->∀acc:B7<|Str×C3,∃b,(forIn l acc λ(p:Str×NameKind) (cs:B7<|Str×C3)=>(do
   if(p.2==NameKind.free)=true then do
    let a <- cellOf env p.1
    pure (ForInStep.yield<|(p.1,a)::cs)
   else pure (ForInStep.yield cs):Sem<|ForInStep<|B7<|Str×C3))=pure (b++acc)/\b.map (·.1)=frees l/\∀q∈b,env.cells.lookup q.1=some q.2
 |[],_,acc=>⟨[],rfl,rfl,λ_ h=>nomatch h⟩
 |(y,k)::r,h,acc=>by
  by_cases e:k=.free
  .subst e;let⟨a,C⟩:=h y xAr;let⟨b,A,m,i⟩:=lD (l:=r) (λz d=>h z<|xAs _ d)<|(y,a)::acc;refine⟨b++[(y,a)],?_,by rw[xAi,m];rfl,λq hq=>?_⟩
   .rw[List.forIn_cons,xAx,show[(y,a)]++acc=(y,a)::acc from rfl,<- A];simp only[cellOf,C];rfl
   .rcases xAj.mp hq with hq|hq
    .exact i q hq
    .rw[xAm.mp hq];exact C
  .let⟨b,A,m,i⟩:=lD (l:=r) (λz d=>h z<|xAs _ d) acc;refine⟨b,?_,by rw[m];cases k <;> first|rfl|exact absurd rfl e,i⟩;rw[List.forIn_cons,<- A];simp only[show(k==NameKind.free)=false from beq_false_of_ne e];rfl
def lC{scope:Scope}(h:∀y,(y,NameKind.free)∈scope.names->∃a,env.cells.lookup y=some a):∃b,closureFor scope env=pure b/\b.map (·.1)=frees scope.names/\∀q∈b,env.cells.lookup q.1=some q.2:=by
 let⟨b,d,k,i⟩:=lD h [];refine⟨b,?_,k,i⟩;rw[xB0] at d;have:=congrArg (λz:Sem<|B7<|Str×C3=>z>>=λr=>pure r) d;exact this
theorem jP{x:Str}:∀{l:B7<|Str×NameKind},x∈locs l↔(x,NameKind.local)∈l
 |[]=>by simp[locs]
 |(y,k)::r=>by cases k <;> simp[locs,jP (l:=r)]
theorem dL{x:Str}:∀{l:B7<|Str×NameKind},x∈frees l↔(x,NameKind.free)∈l
 |[]=>by simp[frees]
 |(y,k)::r=>by cases k <;> simp[frees,dL (l:=r),or_comm]
theorem iW{y:Str}{k:NameKind}:∀{l:B7<|Str×NameKind},(l.map (·.1)).Nodup->(y,k)∈l->l.lookup y=some k
 |[],_,h=>nomatch h
 |(z,b)::r,a,h=>by
  rw[xBs,xCb] at a;rw[List.lookup_cons];rcases xAv.mp h with e|h
  .cases e;simp
  .have:y≠z:=λe=>a.1 (by rw[<- e];exact xA2.mpr ⟨_,h,rfl⟩);rw[beq_false_of_ne this];exact iW a.2 h
theorem jL:∀{l:B7<|Str×NameKind},(l.map (·.1)).Nodup->(locs l++frees l).Nodup
 |[],_=>xC7
 |(z,k)::r,d=>by
  rw[xBs,xCb] at d;have i:=jL d.2;have q:z∉locs r:=λh=>d.1<|xA2.mpr ⟨_,jP.mp h,rfl⟩;have m:z∉frees r:=λh=>d.1<|xA2.mpr ⟨_,dL.mp h,rfl⟩;cases k <;> try exact i
  .show(z::(locs r++frees r)).Nodup;exact xCb.mpr ⟨λh=>(xAj.mp h).elim q m,i⟩
  .show(locs r++(frees r++[z])).Nodup;rw[<- xAx];refine xBq.mpr ⟨i,⋯,λa A b hb=>?_⟩;rw[xAm.mp hb];rintro rfl
   exact(xAj.mp A).elim q m
theorem so(k:Cok P w base B lv c X)(A:c.inC=false){scope:Scope}{l:B7<|Str×C3}(d:∀q∈l,X.env.cells.lookup q.1=some q.2)(b:∀y,(y,NameKind.free)∈scope.names->scope.names.lookup y=some .free) :
  ∀{fs:C5}{cs:C7},(∀y∈fs,(y,NameKind.free)∈scope.names/\∃a,l.lookup y=some a)->zCj c fs=some cs->Paired (zCc X scope l) fs cs
 |[],cs,_,h=>by cases h;exact .nil
 |y::fs,cs,m,h=>by
  unfold zCj at h;split at h <;> try (cases h;done)
  next e=>
   let⟨i,is,K,I,rfl⟩:=gG h;let⟨F,a,C⟩:=m y xAr;let⟨_,E⟩:=jc K;exact .cons ⟨⟨a,C,d _<|cU C⟩,by rw[k.N];simpa using E,(k.cap A e).1,b y F⟩<|so k A d b (λz D=>m z<|xAs _ D) I
theorem ke:∀{fs:C5}{cs:C7},zCj c fs=some cs->∀y∈fs,zAv y c.sc=some .cell
 |[],cs,_,y,hy=>nomatch hy
 |z::fs,cs,h,y,hy=>by
  unfold zCj at h;split at h <;> try (cases h;done)
  next e=>
   let⟨i,is,b,a,rfl⟩:=gG h;rcases xAv.mp hy with rfl|hy
   .exact e
   .exact ke a y hy
def Fc.re{sc:Scope}(F:Fc P w base B up G lv c):Fc P w base B up G lv<|cty c sc:=⟨F.g,F.fn,F.cl,F.ms,F.con,F.bl,F.k1,F.k2,F.k3,F.k4,F.k5,F.clf,F.clt,F.kdf⟩
def zHi{X:Cx}:zAi (CXz X.prog X.w) X λ_ _ _ _=>False:=λZ O H s b a I z=>z.elim
def mq{sc:Scope}(h:zFp sc=true):sc.kind=.function/\(sc.names.map (·.1)).Nodup/\∀y k,(y,k)∈sc.names->k=.local\/k=.free\/k=.globalImplicit:=by
 simp only[zFp,xCh,xCx] at h;refine⟨xBe h.1.1,dI h.2,λy k a=>?_⟩;have:=h.1.2 _ a;cases k <;> simp_all
def sn{sc:Scope}{l:B7<|Str×C3}{C:C3}{s:B'}{fp:B7 C3}(k:Cok P w base B lv c X)(h:zFp sc=true):Cok P w base B lv (cty c sc)<|zAm X (locs sc.names++frees sc.names) sc l C s H fp:=by
 let⟨m,i,d⟩:=mq h;refine⟨k.hP,k.hw,k.hK,k.hM,k.hb,rfl,jL i,λ{x} a=>?_,λ{x} a=>?_,λ{x} a=>lookup_relabel_local (by rw[<- cg];exact a),λ{x} a=>?_,k.calm,k.hr,nofun,nofun⟩
 .unfold isV at a;rw[cg] at a;split at a <;> try (cases a;done)
  .next e=>exact .inl (lookup_relabel_local e)
  .next e=>rcases d _ _ (cU e) with z|z|z <;> cases z
  .next e=>exact .inr (da e)
 .unfold isL at a;rw[cg] at a;split at a <;> try (cases a;done)
  .next e=>exact⟨.inl<|lookup_relabel_local e,.inr<|lookup_relabel_local e⟩
  .next e=>rcases d _ _ (cU e) with z|z|z <;> cases z
 .unfold isG at a;rw[xCh,cg] at a;have b:=a.1;split at b
  .next e=>exact c9 e
  .cases b
def vk{sc:Scope}{cs:C7}(k:Cok P w base B lv c X)(m:c.inC=false)(h:zFp sc=true)(d:zCj c (frees sc.names)=some cs):∃i,zB4 X sc i (locs sc.names) (frees sc.names) cs:=by
 let⟨K,A,I⟩:=mq h;let⟨i,D,l,C⟩:=lC (scope:=sc) (env:=X.env) λy b=>(k.cap m<|ke d y<|dL.mpr b).2;have F:∀y∈frees sc.names,∃a,i.lookup y=some a:=λy b=>by
  rw[<- l] at b;let⟨q,hq,rfl⟩:=xA2.mp b;clear D l C b;induction i with
  |nil=>cases hq
  |cons p r E=>
   rw[List.lookup_cons];by_cases e:q.1==p.1
   .rw[e];exact⟨_,rfl⟩
   .rw[Bool.eq_false_iff.mpr e];rcases xAv.mp hq with rfl|hq
    .simp at e
    .exact E hq
 exact⟨i,zB4.mk' D (λy b e=>by rcases I y.1 y.2 b with z|z|z <;> rw[e] at z <;> cases z) K (λy b e=>iW A<|by rw[<- e];exact b) (so k m C (λy b=>iW A b) (λy b=>⟨dL.mp b,F y b⟩) d) (λy b e=>dL.mpr<|by rw[<- e];exact b) l⟩
end
section
variable{B:Bs}{up:B7<|Str×Str}{G:D7}{Ex:St->XK}{a b d:D4}{X:Cx}{e ea eb ec:C0}{pos p1:Pos}{j:Nat}(g:zBv up G)
def ng{f:Int->Int->C4}{z:U}(h:i2 (λi j=>.bl<|f i j) S vs=.ok z S'):∃c,z=.bl c:=by
 let⟨i,j,_,rfl,_⟩:=nc h;exact⟨_,rfl⟩
def yE{f:C4->C4}{w:U}{z:U}(h:Fx.eqU f v w S=.ok z S'):∃c,z=.bl c:=by
 unfold Fx.eqU at h;split at h
 .cases h;exact⟨_,rfl⟩
 .split at h
  .cases h;exact⟨_,rfl⟩
  .split at h
   .cases h;exact⟨_,rfl⟩
   .cases h
def xL{w:U}{z:U}(h:Fx.neU v w S=.ok z S'):∃c,z=.bl c:=by
 unfold Fx.neU at h;split at h
 .cases h;exact⟨_,rfl⟩
 .split at h
  .cases h;exact⟨_,rfl⟩
  .split at h
   .cases h;exact⟨_,rfl⟩
   .cases h
def qG{f:C4->C4}{o:B8 C4}{z:U}(h:obB o f S=.ok z S'):∃c,z=.bl c:=by
 unfold obB at h;split at h
 .cases h;exact⟨_,rfl⟩
 .cases h
def unmarked(h:zA9 eb=true):behindInMarks op eb=false:=by cases eb <;> first|rfl|cases h
include g
theorem yT(D:X.K=B.K)(k:X.A.units+100<cLine)(h:zGc op=some p)(l:zA9 eb=true)(C:FE X B G Ex ea a)(hb:FE X B G Ex eb b) :
  FT X B G Ex (.Compare ea [op] [eb] pos) (tB<|cP p<|zAw a b)/\FE X B G Ex (.Compare ea [op] [eb] pos) (cB<|tB<|cP p<|zAw a b):=by
 have fin:∀{r:R2},OpR X (compareOp op) r->Pr2 B up p r->(∀v w S z S',pr up p [v,w] S=.ok z S'->∃c,z=.bl c)->FT X B G Ex (.Compare ea [op] [eb] pos) (tB<|cP p<|zAw a b)/\FE X B G Ex (.Compare ea [op] [eb] pos) (cB<|tB<|cP p<|zAw a b):=λq m E=>
  ⟨AR g q m E C hb<|unmarked l,uX g<|yA g q m C hb<|unmarked l⟩
 have i:X.A.units+1<cLine:=()
 cases op <;> cases h
 .exact fin (Bz k) Bv λ_ _ _ _ _=>yE
 .exact fin (Bw k) Br λ_ _ _ _ _=>xL
 .exact fin vE zT λ_ _ _ _ _=>ng
 .exact fin vF zV λ_ _ _ _ _=>ng
 .exact fin vG zW λ_ _ _ _ _=>ng
 .exact fin vH zX λ_ _ _ _ _=>ng
 .exact fin (Bx i) (by rw[D];exact Bu) λ_ _ _ _ _=>qG
 .exact fin (Ae i) (by rw[D];exact zN) λ_ _ _ _ _=>qG
omit g in
theorem pR{f:Int->Int->V}{x y:V}{Q Q':VK}(h:∀v H,Q v H->Q' v H)(q:rI0 f x y H Q):rI0 f x y H Q':=by
 let⟨i,j,k,c,q⟩:=q;exact⟨i,j,k,c,h _ _ q⟩
omit g in
theorem qB(h:zDb op=some p):∃f,OpR X (compareOp op) (rI0 f)/\Pr2 B up p (rI0 f):=by
 cases op <;> cases h
 .exact⟨_,vE,zT⟩
 .exact⟨_,vF,zV⟩
 .exact⟨_,vG,zW⟩
 .exact⟨_,vH,zX⟩
theorem A6{c:CmpOp}{q:Pm}(h:zDb op=some p)(h':zDb c=some q)(C:zA9 ec=true)(A:FE X B G Ex ea a)(hb:FE X B G Ex eb b)(m:FE X B G Ex ec d) :
  FT X B G Ex (.Compare ea [op,c] [eb,ec] pos) (tCh p q a b d)/\FE X B G Ex (.Compare ea [op,c] [eb,ec] pos) (cB<|tCh p q a b d):=by
 let⟨f,o1,k⟩:=qB (X:=X) (B:=B) (up:=up) h;let⟨D,o2,i⟩:=qB (X:=X) (B:=B) (up:=up) h';have l:lastMarks [op,c] [eb,ec]=false:=unmarked (op:=c) C;exact⟨BV g o1 o2 k i A hb m l,AS g o1 o2 k i A hb m l (λ_ _ _ _ h=>h) pR pR⟩
theorem rf{f:C4->C4}(T:∀v S,pr up p [v] S=.ok (.bl<|f<|match v with|.non=>true|_=>false) S)(I:OpR X (compareOp op) λx y H Q=>y=.non/\Q (.bl<|f<|decide<|x=.non) H)(hn:op≠.In)(Y:op≠.NotIn)(l:FE X B G Ex ea a) :
  FT X B G Ex (.Compare ea [op] [.Constant .none j p1] pos) (tB<|cP p<|aC a aN)/\FE X B G Ex (.Compare ea [op] [.Constant .none j p1] pos) (cB<|tB<|cP p<|aC a aN):=by
 have K:behindInMarks op (.Constant .none j p1)=false:=rfl;have F:=mP g (p:=p)<|mAC g l.m<|mAN g;have one:∀{W:Wd}{v:U}{u:V},Rv B W v u->(match v with|.non=>true|_=>false)=decide (u=.non):=λ{W v u} r=>by
  cases v with
  |non=>rw[show u=.non from r];rfl
  |bl b=>rw[show u=.bl b from r];rfl
  |int i=>rw[show u=.int i from r];rfl
  |str i=>rw[show u=.str i from r];rfl
  |ty i=>rw[show u=.ty i from r];rfl
  |tup C=>let⟨p,vs,rfl,_⟩:=r;rfl
  |lst C=>let⟨p,vs,rfl,_⟩:=r;rfl
  |kt C=>let⟨p,vs,rfl,_⟩:=r;rfl
  |kl C=>let⟨p,vs,rfl,_⟩:=r;rfl
  |kd R no=>let⟨p,rfl,_⟩:=r;rfl
  |ref a=>let⟨p,rfl,_⟩:=r;rfl
  |gl x=>let⟨p,rfl,_⟩:=r;rfl
 have c:∀{τ:St}{H:Hp}{Q:VK},LE B G Ex (cP p<|aC a aN) τ H Q->LE B G Ex a τ H (λx H1=>Q (.bl<|f<|decide<|x=.non) H1):=λh=>(LE.p1 g l.m h).imp l.m λu H1 L=>by
  let⟨W,S,v,z,S',E,r1,e,q⟩:=L;rw[T] at e;cases e;rw[<- one r1];exact q.here E rfl
 have Z:FE X B G Ex (.Compare ea [op] [.Constant .none j p1] pos)<|cP p<|aC a aN:=⟨wkE (mj I l.p kP K) λτ H Q h=>(c h).imp l.m λu H1 q=>⟨rfl,q⟩,F⟩
 refine⟨⟨wkT (lV I l.p kP K) λτ H Q h=>?_,mB g F⟩,uX g Z⟩;have A:LE B G Ex (cP p<|aC a aN) τ H λx H'=>∃k,x=.bl k/\Q k H':=by
  let⟨W,O,S,E,P,h⟩:=h;refine LE.go F E P h λv S' W' u H' le D M N A=>?_;cases v <;> first|(exact(g.no A).elim)|exact⟨_,M,A W' H' le D⟩
 exact(c A).imp l.m λu H1 q=>⟨rfl,q⟩
end
section
variable{P:Program}{w:World}{base:Heap}{B:Bs}{up:B7<|Str×Str}{G:D7}{lv:Nat}{c:Ct}{X:Cx}{Ex:St->XK}{a b:D4}{ea eb:C0}{p1 pos:Pos}{x:Str}{m:C4}{p:Pm}
def sw(F:Fc P w base B up G lv c)(k:Cok P w base B lv c X)(h:zD0 m x=some p)(hb:isB c x=true)(C:zAa ea=true)(I:FE X B G Ex ea a):FE X B G Ex (.Call (.Name x p1) [ea] [] pos)<|cP p<|aC a aN:=by
 have g:=F.g;let⟨E,K⟩:=ef hb;let⟨i,_,d⟩:=dX<|e8 E;have A:=k.gl E;have q:X.mg x=none:=by rw[k.hM];exact F.bl K
 have fa:FA X B G Ex [ea]<|aC a aN:=fo g I (hX g) C;have l:[ea].all zAa=true:=by rw[xCj,C];rfl
 have D:=k.hK;unfold zD0 at h;split at h
 .next e=>subst e;cases h;exact oK g zt (by rw[D];exact zU) A q (by decide +kernel) fa l d i
 split at h
 .next e=>subst e;cases h;exact oK g (yI k.calm) zL A q (by decide +kernel) fa l d i
 split at h
 .next e=>subst e;cases h;exact oK g sv Aa A q (by decide +kernel) fa l d i
 split at h
 .next e=>subst e;cases h;exact uY g vd xn A q (by decide +kernel) fa l d i
 split at h
 .next e=>subst e;cases h;exact uY g sd (by rw[D];exact uj) A q (by decide +kernel) fa l d i
 split at h
 .next e=>subst e;cases h;exact uY g u7 (by rw[D];exact uk) A q (by decide +kernel) fa l d i
 split at h
 .next e=>subst e;cases h;exact uY g sg ul A q (by decide +kernel) fa l d i
 split at h
 .next e=>subst e;cases h;exact oK g (yN k.calm) (by rw[D];exact z0) A q (by decide +kernel) fa l d i
 .cases h
def yW(F:Fc P w base B up G lv c)(k:Cok P w base B lv c X)(h:zH2 x=some p)(hb:isB c x=true)(i:zAa ea=true)(d:zAa eb=true)(K:FE X B G Ex ea a)(l:FE X B G Ex eb b):FE X B G Ex (.Call (.Name x p1) [ea,eb] [] pos)<|cP p<|zAw a b:=by
 have g:=F.g;let⟨I,L⟩:=ef hb;let⟨A,_,q⟩:=dX<|e8 I;have E:=k.gl I;have D:X.mg x=none:=by rw[k.hM];exact F.bl L
 have fa:FA X B G Ex [ea,eb]<|zAw a b:=fo g K (fo g l (hX g) d) i;have C:[ea,eb].all zAa=true:=by rw[xCj,xCj,i,d];rfl
 unfold zH2 at h;split at h
 .next e=>subst e;cases h;exact oK g (oS k.calm) zS E D (by decide +kernel) fa C q A
 .split at h
  .next e=>subst e;cases h;exact oK g (oR k.calm) zR E D (by decide +kernel) fa C q A
  .cases h
def yc(F:KdF w B):Pr2 B up .ix<|zFm w B.K:=Bt λ{W q i no x v H Q} h k q=>by
 let⟨u,val,A,l,e3⟩:=F.y h k;exact .inr ⟨_,_,u,val,rfl,F.d h,rfl,A,l,q u<|e3 W⟩
def zGa{np:Nat}{d:C6}(h:dflt np n []=some d):d=[]/\n=np:=by
 unfold dflt at h;split at h
 .next e=>cases h;exact⟨⋯,by have:=e.1;have:=e.2;simp at this;lia⟩
 .cases h
end
structure Snd(P:Program)(w:World)(base:Heap)(B:Bs)(up:B7 (Str×Str))(G:D7)(lv n:Nat):Prop where
 E:∀{c X Ex m e t},Fc P w base B up G lv c->Cok P w base B lv c X->zAi (CXz X.prog X.w) X Ex->cpE c n m e=some t->FE X B G Ex e t
 C:∀{c X Ex m f as pos t},Fc P w base B up G lv c->Cok P w base B lv c X->zAi (CXz X.prog X.w) X Ex->as.all zAa=true->cpC c n m f as pos=some t->FE X B G Ex (.Call f as [] pos) t
 M:∀{c X Ex o a as apos pos t},Fc P w base B up G lv c->Cok P w base B lv c X->zAi (CXz X.prog X.w) X Ex->as.all zAa=true->(apos.endLine==pos.line)=true->cpM c n o a as=some t->FE X B G Ex (.Call (.Attribute o a apos) as [] pos) t
 A:∀{c X Ex m es t},Fc P w base B up G lv c->Cok P w base B lv c X->zAi (CXz X.prog X.w) X Ex->cpA c n m es=some t->FA X B G Ex es t/\(es=[]->t=aN)/\es.all zAa=true
 D:∀{c X Ex m es t ks kk pos},Fc P w base B up G lv c->Cok P w base B lv c X->zAi (CXz X.prog X.w) X Ex->cpA c n m es=some t->zBq ks=some kk->kk.length=es.length->FP X B G Ex pos ks kk es t
 T:∀{c X Ex vl e t},Fc P w base B up G lv c->Cok P w base B lv c X->zAi (CXz X.prog X.w) X Ex->cpT c n vl e=some t->FT X B G Ex e t/\(vl=true->FE X B G Ex e (cB t))/\∀op vs p,e=Expr.BoolOp op vs p->FW X B G Ex e t
 I:∀{c X Ex one tg e t},Fc P w base B up G lv c->Cok P w base B lv c X->zAi (CXz X.prog X.w) X Ex->(one=false->∃ts k p,tg=Expr.Tuple ts k p)->cpI c n one e=some t->FI X B G Ex tg e t
section
variable{P:Program}{w:World}{base:Heap}{B:Bs}{up:B7<|Str×Str}{G:D7}{lv n:Nat}{c:Ct}{X:Cx}{Ex:St->XK}
def zCg{t:J}{p:Prop}(h:(none:B8 J)=some t):p:=by cases h
def zJv:Snd P w base B up G lv 0:=
 ⟨λ_ _ _ h=>zCg h,λ_ _ _ _ h=>zCg h,λ_ _ _ _ _ h=>zCg h,λ_ _ _ h=>zCg h,λ_ _ _ h _ _=>zCg h,λ_ _ _ h=>zCg h,λ_ _ _ _ h=>zCg h⟩
theorem B6{m:B7 C4}{es:B7 C0}{t:D8}(s:Snd P w base B up G lv n)(F:Fc P w base B up G lv c)(k:Cok P w base B lv c X)(a:zAi (CXz X.prog X.w) X Ex)(h:cpA c (n+1) m es=some t):FA X B G Ex es t/\(es=[]->t=aN)/\es.all zAa=true:=by
 cases es with
 |nil=>cases h;exact⟨hX F.g,λ_=>rfl,rfl⟩
 |cons e r=>
  refine cN (show gd (zAa e) (o2 aC (cpE c n (m.headD false) e)<|cpA c n m.tail r)=_ from h) λb C=>?_;let⟨x,y,q,l,rfl⟩:=gG C;let⟨i,_,d⟩:=s.A F k a l;exact⟨fo F.g (s.E F k a q) i b,nofun,by rw[xCj,b,d];rfl⟩
def rd{a:B8 C0}{r:B7<|B8 C0}(h:zBq (a::r)=some kk):∃z j p b,a=some (.Constant (.str z) j p)/\zBq r=some b/\kk=z::b:=by
 let⟨x,k,m,l,rfl⟩:=gG h;let⟨e,rfl,i⟩:=xCi.mp m;unfold zI6 at i;split at i
 .let⟨y,d,rfl⟩:=fT i;unfold zI7 at d;split at d
  .cases d;exact⟨_,_,_,k,rfl,l,rfl⟩
  .cases d
 .cases i
theorem iZ:∀{ks:B7<|B8 C0}{kk:C5},zBq ks=some kk->ks.length=kk.length/\ks.all (·.isSome)=true
 |[],kk,h=>by cases h;exact⟨rfl,rfl⟩
 |a::r,kk,h=>by
  let⟨z,j,p,b,rfl,d,rfl⟩:=rd h;let⟨k,i⟩:=iZ d;exact⟨by simp[k],by rw[xCj,i];rfl⟩
theorem BX{m:B7 C4}{es:B7 C0}{t:D8}{ks:B7<|B8 C0}(s:Snd P w base B up G lv n)(F:Fc P w base B up G lv c)(k:Cok P w base B lv c X)(i:zAi (CXz X.prog X.w) X Ex)(h:cpA c (n+1) m es=some t)(d:zBq ks=some kk)(b:kk.length=es.length):FP X B G Ex pos ks kk es t:=by
 cases es with
 |nil=>
  cases h;cases kk with
  |cons _ _=>cases b
  |nil=>
   have:=(iZ d).1;cases ks with
   |nil=>exact BK F.g
   |cons a r=>simp at this
 |cons e r=>
  refine cN (show gd (zAa e) (o2 aC (cpE c n (m.headD false) e)<|cpA c n m.tail r)=_ from h) λL K=>?_;let⟨x,y,I,C,rfl⟩:=gG K;cases ks with
  |nil=>cases d;cases b
  |cons a l=>
   let⟨z,j,p,q,rfl,A,rfl⟩:=rd d;exact BM F.g (s.E F k i I) (s.D F k i C A<|by simpa using b)
end
section
variable{P:Program}{w:World}{base:Heap}{B:Bs}{up:B7<|Str×Str}{G:D7}{lv n:Nat}{c:Ct}{X:Cx}{Ex:St->XK}
def BB{a:Str}{t:D4}(s:Snd P w base B up G lv n)(F:Fc P w base B up G lv c)(k:Cok P w base B lv c X)(d:zAi (CXz X.prog X.w) X Ex)(b:as.all zAa=true)(A:(apos.endLine==pos.line)=true)(h:cpM c (n+1) o a as=some t):FE X B G Ex (.Call (.Attribute o a apos) as [] pos) t:=by
 have g:=F.g;change eM (cps n) _ _ _ _=_ at h;unfold eM at h;refine cN h λq h=>?_;split at h
 .next e=>
  rw[xCj,xCh] at b;split at h
  .next m=>
   subst m;let⟨z,v,l,i,rfl⟩:=gG h;exact rP g k.hK PySem.F.plainAttrs_list PySem.F.slot_list_append PySem.F.type_list_append ig zZ (.inl rfl) (s.E F k d l) (s.E F k d i) q b.1 A
  split at h
  .next m=>
   subst m;let⟨z,v,l,i,rfl⟩:=gG h;exact rP g k.hK PySem.F.plainAttrs_list PySem.F.slot_list_extend PySem.F.type_list_extend ox zY (.inl rfl) (s.E F k d l) (s.E F k d i) q b.1 A
  split at h
  .next m=>
   subst m;let⟨z,v,l,i,rfl⟩:=gG h;exact rP g k.hK PySem.F.plainAttrs_str PySem.F.slot_str_join PySem.F.type_str_join uF (by rw[k.hK];exact xm) (.inr<|.inl rfl) (s.E F k d l) (s.E F k d i) q b.1 A
  .cases h
 .cases h
theorem A9{op:BoolOp}{vs:B7 C0}{p:Pos}{t:TTx Prop}(s:Snd P w base B up G lv n)(F:Fc P w base B up G lv c)(k:Cok P w base B lv c X)(i:zAi (CXz X.prog X.w) X Ex)(h:eBo (cps n) c vl op vs p=some t):FW X B G Ex (.BoolOp op vs p) t/\(vl=true->FE X B G Ex (.BoolOp op vs p) (cB t)):=by
 have g:=F.g;cases vs with
 |nil=>cases h
 |cons a q=>
  cases q with
  |nil=>
   let⟨d,q2,_⟩:=s.T F k i<|show(cps n).T c vl a=some t from h;cases op with
   |And=>exact⟨AE d,λv=>vY<|q2 v⟩
   |Or=>exact⟨AD d,λv=>vY<|q2 v⟩
  |cons b r=>
   cases op with
   |And=>
    let⟨x,y,D,C,rfl⟩:=gG<|show o2 tAn _ _=_ from h;let⟨d,q2,_⟩:=s.T F k i D;let⟨A,l,q5⟩:=s.T F k i C;exact⟨BI g d<|q5 _ _ _ rfl,λv=>yC g (q2 v) d.m (l v) A.m⟩
   |Or=>
    let⟨x,y,D,C,rfl⟩:=gG<|show o2 tOr' _ _=_ from h;let⟨d,q2,_⟩:=s.T F k i D;let⟨A,l,q5⟩:=s.T F k i C;exact⟨BH g d<|q5 _ _ _ rfl,λv=>AJ g (q2 v) d.m (l v) A.m⟩
def A7{a b:C0}{p:Pos}{t:TTx Prop}(s:Snd P w base B up G lv n)(F:Fc P w base B up G lv c)(k:Cok P w base B lv c X)(d:zAi (CXz X.prog X.w) X Ex)(h:eC1 (cps n) c a op b=some t):FT X B G Ex (.Compare a [op] [b] p) t/\FE X B G Ex (.Compare a [op] [b] p) (cB t):=by
 have g:=F.g;unfold eC1 at h;split at h
 .next i=>
  rw[xCh] at i;let⟨⟨⟨j,q⟩,rfl⟩,_⟩:=Option.isSome_iff_exists.mp i.1;obtain rfl:op=.Is:=by cases op <;> first|rfl|cases i.2
  let⟨x,l,rfl⟩:=fT h;exact rf g (p:=.isN) (f:=id) (j:=j) (p1:=q) (pos:=p) (λv S=>by cases v <;> rfl) xq nofun nofun<|s.E F k d l
 .refine cN h λl D=>?_;let⟨pm,x,y,C,A,m,rfl⟩:=Ag D;exact yT g (pos:=p) k.hK (by have:=k.hr.un;lia) C l (s.E F k d A)<|s.E F k d m
set_option tactic.hygienic true
def A4{a:C0}{ops:B7 CmpOp}{bs:B7 C0}{p:Pos}{t:TTx Prop}(s:Snd P w base B up G lv n)(F:Fc P w base B up G lv c)(k:Cok P w base B lv c X)(i:zAi (CXz X.prog X.w) X Ex)(h:eCm (cps n) c a ops bs=some t):FT X B G Ex (.Compare a ops bs p) t/\FE X B G Ex (.Compare a ops bs p) (cB t):=by
 rcases ops with _|⟨o,_|⟨o2,_|_⟩⟩ <;> rcases bs with _|⟨b,_|⟨d,_|_⟩⟩ <;> try (cases h;done)
 .exact A7 s F k i h
 .refine cN (show gd _ (eC3 ..)=_ from h) λm l=>?_;rw[xCh] at m;unfold eC3 at l;split at l
  .next pm K I D=>
   let⟨x,y,z,C,A,q,rfl⟩:=Ag l;exact A6 F.g (pos:=p) I D m.2 (s.E F k i C) (s.E F k i A)<|s.E F k i q
  .cases l
def Bi{t:TTx Prop}(s:Snd P w base B up G lv n)(F:Fc P w base B up G lv c)(k:Cok P w base B lv c X)(d:zAi (CXz X.prog X.w) X Ex)(h:cpT c (n+1) vl e=some t):FT X B G Ex e t/\(vl=true->FE X B G Ex e (cB t))/\∀op vs p,e=Expr.BoolOp op vs p->FW X B G Ex e t:=by
 have g:=F.g
 replace h:eT (cps n) c vl e=some t:=h
 cases e <;> try (cases h;done)
 case UnaryOp op a p=>
  cases op <;> try (cases h;done)
  let⟨x,i,rfl⟩:=fT h;let⟨b,l,_⟩:=s.T F k d i;exact⟨BN g b,λv=>rN g (l v) b.m,nofun⟩
 case BoolOp op vs p=>
  let⟨b,l⟩:=A9 s F k d h;exact⟨b.ft,l,λ_ _ _ _=>b⟩
 case Compare a ops bs p=>
  let⟨b,l⟩:=A4 s F k d h;exact⟨b,λ_=>l,nofun⟩
 case Call f as C p=>
  let⟨x,i,rfl⟩:=fT h;have q:=s.E F k d i;exact⟨vV g q λ_=>rfl,λ_=>uX g q,nofun⟩
 case Attribute o f p=>
  refine cN h λi D=>?_;let⟨x,A,rfl⟩:=fT D;exact⟨vW g k.hK (s.E F k d A) λ_=>rfl,λz=>(by subst z;cases i),nofun⟩
 case Name x p=>
  cases vl with
  |true=>
   let⟨x,i,rfl⟩:=fT h;have q:=s.E F k d i;exact⟨vV g q λ_=>rfl,λ_=>uX g q,nofun⟩
  |false=>
   let⟨x,A,rfl⟩:=fT h;exact⟨vW g k.hK (s.E F k d A) λ_=>rfl,λz=>(nomatch z),nofun⟩
set_option tactic.hygienic false
end
section
variable{P:Program}{w:World}{base:Heap}{B:Bs}{up:B7<|Str×Str}{G:D7}{lv n:Nat}{c:Ct}{X:Cx}{Ex:St->XK}
def sy(F:Fc P w base B up G lv c)(k:Cok P w base B lv c X)(h:(isB c x&&decide (x=y))=true):x=y/\Gl X y/\X.mg y=none:=by
 rw[xCh] at h;cases xBe h.2;let⟨b,a⟩:=ef h.1;exact⟨rfl,k.gl b,by rw[k.hM];exact F.bl a⟩
def Az{one:C4}{t:D4}{p q:Pos}(s:Snd P w base B up G lv n)(F:Fc P w base B up G lv c)(k:Cok P w base B lv c X)(d:zAi (CXz X.prog X.w) X Ex)(D:one=false->∃A k p,tg=Expr.Tuple A k p)(C:e=.Call (.Name x p) as [] q)(h:eIc (cps n) c one e x as=some t):FI X B G Ex tg e t:=by
 have g:=F.g;unfold eIc at h;split at h
 .next hb=>
  subst C;let⟨rfl,l,i⟩:=sy F k hb;unfold eIr at h;split at h
  .erw[<-cN h λa m=>?_,<-dw m λz b=>?_,<-yr g l i (s.E F k d b) a]
  .cases h
 split at h
 .next hb=>
  subst C;let⟨rfl,l,i⟩:=sy F k hb;unfold eIz at h;split at h
  .refine cN h λa m=>?_;rw[xCh,xCh] at a;refine eP m λz v b I=>?_;let⟨A,kk,K,rfl⟩:=D (by simpa using a.1.1);exact AC g k.hK l i (s.E F k d b) (s.E F k d I) a.1.2 a.2
  .cases h
 .refine dw h λz b=>?_;exact vX g k.hK<|s.E F k d b
set_option tactic.hygienic true
def BE{one:C4}{t:D4}(s:Snd P w base B up G lv n)(F:Fc P w base B up G lv c)(k:Cok P w base B lv c X)(d:zAi (CXz X.prog X.w) X Ex)(m:one=false->∃l k p,tg=Expr.Tuple l k p)(h:cpI c (n+1) one e=some t):FI X B G Ex tg e t:=by
 replace h:eI (cps n) c one e=some t:=h
 unfold eI at h;split at h
 .next z _=>exact Az s F k d m z.2 h
 .split at h
  .next z _=>
   let⟨⟨⟨x,a⟩,p,j,np,kp,q⟩,rfl⟩:=z;refine cN h λb D=>?_;rw[xCh,xCh] at b;refine dw D λz i=>?_;let⟨rfl,C,A⟩:=sy F k b.1.1;let⟨l,kk,I,rfl⟩:=m (by simpa using b.1.2);exact yz F.g k.hK C A (s.E F k d i) b.2
  .refine dw h λz i=>?_;exact vX F.g k.hK<|s.E F k d i
set_option tactic.hygienic false
def kz(h:tg1 tg=false):∃a k p,tg=Expr.Tuple a k p:=by
 cases tg <;> first|exact⟨_,_,_,rfl⟩|cases h
def kR{v:B9}(h:zA9 it=true):foldedSetIterable it env v=pure v:=by cases it <;> first|rfl|cases h
set_option tactic.hygienic true
def vL{m:C4}{b:C0}{a:B7 Comprehension}{sc:Scope}{p:Pos}{t:D4}(s:Snd P w base B up G lv n)(F:Fc P w base B up G lv c)(k:Cok P w base B lv c X)(R:zAi (CXz X.prog X.w) X Ex)(h:eE (cps n) c m (.ListComp b a sc p)=some t):FE X B G Ex (.ListComp b a sc p) t/\∀{i:Nat}{y:Str}{py spos:Pos},X.N.Nodup->X.N[i]?=some y->X.env.scope.names.lookup y=some .local->swapsWith (.ListComp b a sc p) (some<|.Name y py) spos.line X.env=pure true->FS X B G Ex (.Assign [.Name y py] (.ListComp b a sc p) spos) (sA i t):=by
 have g:=F.g
 replace h:=fT h
 let⟨t0,h,rfl⟩:=h;unfold eLC at h;split at h
 .next z _=>
  let⟨⟨tg,it,Q⟩,rfl⟩:=z;let⟨cs,⟨is,one⟩,ti,e1,e2,e3,h⟩:=qH h;let⟨O,e4,h⟩:=xCi.mp<|show Option.bind _ (eL2 c sc _ cs _ ti)=_ from h;refine cN h λA h2=>?_;cases h2;simp only[xCh,Bool.not_eq_true',List.isEmpty_iff] at A;let⟨⟨⟨⟨Y,q⟩,hns⟩,his⟩,rfl⟩:=A;let⟨L,cp⟩:=vk k Y q e1;have M:∀C d H l,Cok P w base B lv (cty c sc)<|zAm X (locs sc.names++frees sc.names) sc L C d H l:=λ_ _ _ _=>sn k q;have K:∀C d H l,FE (zAm X (locs sc.names++frees sc.names) sc L C d H l) B G (λ_ _ _ _=>False) b O:=λC d H l=>s.E F.re (M C d H l) zHi e4;have D:=λC d H l=>jw (G:=G) (M C d H l) e2;have h1:one=true->is.length=1:=(D 0 X.s₀ X.H₀ []).2;have W:∀kk∈is,kk<(locs sc.names).length:=λkk T=>xCo<|xCx.mp his kk T;have Z:FI X B G Ex tg it ti:=s.I F k R (λz=>kz z) e3;exact BO g h1 W k.calm cp Z (λC d H l=>(D C d H l).1) K (λv=>kR hns) (K 0 X.s₀ X.H₀ []).m
 .cases h
def BW{m:C4}{t:D4}(s:Snd P w base B up G lv n)(F:Fc P w base B up G lv c)(k:Cok P w base B lv c X)(I:zAi (CXz X.prog X.w) X Ex)(h:cpE c (n+1) m e=some t):FE X B G Ex e t:=by
 have g:=F.g;have N:=k.hK;have hu:X.A.units+1<cLine:=by have:=k.hr.un;lia
 replace h:eE (cps n) c m e=some t:=h
 cases e <;> try (cases h;done)
 case Name x p=>
  replace h:eV c x=some t:=h
  unfold eV at h;split at h
  .next i hi=>
   cases h;let⟨a,b,d⟩:=v5 k hi;let⟨d1,d2,_⟩:=dX d;exact f_v g a b d1 d2
  .split at h
   .next u hq=>
    cases h;let⟨Q,W⟩:=je hq;let⟨v,val,m1,r1,r2⟩:=F.con W;exact f_c (iP (k.gl Q) (by rw[k.hM];exact m1) r1 (dX<|e8 Q).1) r2
   .cases h
 case Constant kk j p=>
  cases kk <;> cases h
  .exact f_c kP λ_=>rfl
  .exact f_c zH λ_=>rfl
  .exact f_c xf λ_=>rfl
  .exact f_c qi λ_=>rfl
 case BinOp a op b p=>
  refine ot h λpm x y l K L=>?_;have M:=s.E F k I K;have hb:=s.E F k I L;cases op <;> cases l
  .exact oJ g Af (by rw[N];exact z9) M hb
  .exact oJ g xu zK M hb
  .exact oJ g ut zP M hb
  .exact oJ g xy zQ M hb
  .exact oJ g xw zM M hb
  .exact oJ g qD xo M hb
 case UnaryOp op a p=>
  cases op <;> try (cases h;done)
  .refine dw h λx l=>?_;let⟨Q,W,_⟩:=s.T F k I l;exact rN g (W rfl) Q.m
  .refine dw h λx l=>?_;exact BJ g v6 zO<|s.E F k I l
 case BoolOp op vs p=>
  refine dw h λx l=>?_;exact(s.T F k I l).2.1 rfl
 case Compare a ops bs p=>
  refine dw h λx l=>?_;exact(s.T F k I l).2.1 rfl
 case IfExp q a b p=>
  refine ot h λx y z l K L=>?_;exact BQ g (s.T F k I l).1 (s.E F k I K)<|s.E F k I L
 case Tuple es kk p=>
  erw[<-cN h λl K=>?_,<-dw K λx L=>?_,<-AF g (s.A F k I L).1<|xCo l]
 case List es p=>
  refine dw h λx L=>?_;exact AK g (s.A F k I L).1
 case Dict Z vs p=>
  by_cases hne:Z=[]/\vs=[]
  .let⟨rfl,rfl⟩:=hne;cases h;exact BT g
  .replace h:eD (cps n) c Z vs=some t:=by cases Z <;> cases vs <;> first|exact h|exact(hne ⟨rfl,rfl⟩).elim
   unfold eD at h;split at h
   .next kk hk=>
    erw[<-cN h λl K=>?_,<-dw K λx L=>?_];rw[xCh,xCh] at l;have R:=Nat.eq_of_beq_eq_true l.2;let⟨k1,k2⟩:=iZ hk;refine AQ g (s.D F k I L hk R) l.1.1 R (k1.trans R) k2 (λz=>?_)<|xCo l.1.2;subst z;have:vs=[]:=by
     have:=k1.trans R;exact List.eq_nil_of_length_eq_zero (by simpa using this.symm)
    exact hne ⟨rfl,this⟩
   .cases h
 case Subscript a b p=>
  replace h:eSb (cps n) c m a b=some t:=h
  unfold eSb at h;split at h
  .next z _=>
   let⟨⟨⟨lo,hi⟩,pz⟩,rfl⟩:=z;dsimp only at h;split at h
   .refine eP h λx y l K=>?_;exact AH g N (s.E F k I l)<|s.E F k I K
   .refine eP h λx y l K=>?_;exact AI g N (s.E F k I l)<|s.E F k I K
   .cases h
  .erw[<-cN h λl K=>?_,<-eP K λx y L h4=>?_];exact BP g (Bh hu) (by rw[N,k.hw];exact yc F.kdf) (s.E F k I L) (s.E F k I h4)<|p8 l
 case Attribute o f p=>
  erw[<-cN h λl K=>?_,<-dw K λx L=>?_];rw[xCh] at l;let⟨y,hy,e⟩:=xCy.mp l.2;cases xBe e;exact AO g N F.clf hy (s.E F k I L) l.1
 case Call f as Y p=>
  cases Y with
  |cons _ _=>cases h
  |nil=>
   refine cN h λl K=>?_;exact s.C F k I l K
 case ListComp elt O sc p=>exact(vL s F k I<|show eE (cps n) c m (.ListComp elt O sc p)=some t from h).1
set_option tactic.hygienic false
theorem nt{J:Type}{x:Str}{v:J}:∀{l:B7<|Str×J},zAv x l=some v->(x,v)∈l
 |(g,u)::r,h=>by
  unfold zAv at h;split at h
  .next e=>cases h;rw[e];exact xAr ..
  .exact xAs _<|nt h
set_option tactic.hygienic true
def uS{a:Str}{i:C5}{b:B7<|Str×Str×Nat×Nat}{r:Str×Nat×Nat}(h:zHp a i b=some r):(a,r)∈b:=by
 unfold zHp at h;split at h
 .next p e=>
  cases h;have d:=List.find?_some e;rw[xCh] at d;have:=List.mem_of_find?_eq_some e;rw[<- xBe d.1];exact this
 .exact nt h
def Be{m:C4}{a:C0}{p q r:Pos}{t:D4}(s:Snd P w base B up G lv n)(F:Fc P w base B up G lv c)(k:Cok P w base B lv c X)(A:zAi (CXz X.prog X.w) X Ex)(hb:isB c x=true)(e:a=.Call (.Name y q) as [] r)(K:zAa a=true)(h:eB1 (cps n) c m x a y as=some t):FE X B G Ex (.Call (.Name x p) [a] [] pos) t:=by
 have D:o2 (λp z=>cP p<|aC z aN) (zD0 m x) ((cps n).E c false a)=some t->FE X B G Ex (.Call (.Name x p) [a] [] pos) t:=λh=>by
  refine eP h λpm z i l=>?_;exact sw F k i hb K<|s.E F k A l
 let⟨O,N⟩:=ef hb;unfold eB1 at h;split at h
 .next b=>
  split at h
  .next M=>
   clear D;subst e;cases xBe M;refine cN h λi l=>?_;rw[xCh] at i;let⟨b1,b2⟩:=ef i.1;split at l
   rotate_left
   .refine cN l λI L=>?_;cases xBe I;refine dw L λz C=>?_;exact AG F.g k.calm (k.gl O) (by rw[k.hM];exact F.bl N) (k.gl b1) (by rw[k.hM];exact F.bl b2) (s.E F k A C) i.2
   .next I=>
   cases xBe I;refine dw l λz C=>?_;exact rO F.g k.calm (k.gl O) (by rw[k.hM];exact F.bl N) (k.gl b1) (by rw[k.hM];exact F.bl b2) (s.E F k A C) i.2
  .exact D h
 .next b d=>
  split at h
  .next I M=>
   clear D;subst e;cases xBe I;cases xBe M;refine cN h λi l=>?_;rw[xCh,xCh,xCh] at i;refine eP l λz w C L=>?_;let⟨b1,b2⟩:=ef i.1.1.1;exact yv F.g k.calm (k.gl O) (by rw[k.hM];exact F.bl N) (k.gl b1) (by rw[k.hM];exact F.bl b2) (s.E F k A C) (s.E F k A L) i.1.1.2 i.1.2
  .exact D h
 .exact D h
set_option tactic.hygienic false
def sV{ty:String}(F:Fc P w base B up G lv c)(h:zGm y=some ty):zB6 B ty/\bootBuiltins y=some (.type ty):=by
 unfold zGm at h;split at h
 .next e=>subst e;cases h;exact⟨F.k1,by decide +kernel⟩
 split at h
 .next e=>subst e;cases h;exact⟨F.k2,by decide +kernel⟩
 split at h
 .next e=>subst e;cases h;exact⟨F.k3,by decide +kernel⟩
 split at h
 .next e=>subst e;cases h;exact⟨F.k4,by decide +kernel⟩
 split at h
 .next e=>subst e;cases h;exact⟨F.k5,by decide +kernel⟩
 .cases h
set_option tactic.hygienic true
def Bd{a b:C0}{p:Pos}{t:D4}(s:Snd P w base B up G lv n)(F:Fc P w base B up G lv c)(k:Cok P w base B lv c X)(d:zAi (CXz X.prog X.w) X Ex)(hb:isB c x=true)(A:zAa a=true)(i:zAa b=true)(h:eB2 (cps n) c x a b=some t):FE X B G Ex (.Call (.Name x p) [a,b] [] pos) t:=by
 let⟨R,Q⟩:=ef hb;unfold eB2 at h;split at h
 .next O=>
  cases xBe O;have D:X.mg "isinstance"=none:=by rw[k.hM];exact F.bl Q
  cases b <;> try (cases h;done)
  case Name y py=>
  replace h:(match zGm y with
   |some t=>gd (isB c y) (o1 (λz=>cP (.isT t)<|aC z aN)<|(cps n).E c false a)
   |none=>none)=some t:=h
  split at h
  .next ty N=>
   erw[<-cN h λq m=>?_,<-dw m λz l=>?_];let⟨b1,b2⟩:=ef q;have C:X.mg y=none:=by rw[k.hM];exact F.bl b2
   let⟨K,_,I⟩:=dX<|e8 b1;let⟨M,L⟩:=sV F N;exact AM F.g k.hK F.clt M (k.gl R) D (k.gl b1) C L I K (s.E F k d l) A
  .cases h
 .refine ot h λpm z v q m l=>?_;exact yW F k q hb A i (s.E F k d m)<|s.E F k d l
theorem B5{m:C4}{p:Pos}{t:D4}(s:Snd P w base B up G lv n)(F:Fc P w base B up G lv c)(k:Cok P w base B lv c X)(i:zAi (CXz X.prog X.w) X Ex)(hb:isB c x=true)(d:as.all zAa=true)(h:eB (cps n) c m x as=some t):FE X B G Ex (.Call (.Name x p) as [] pos) t:=by
 cases as with
 |nil=>cases h
 |cons a q=>
  rw[xCj,xCh] at d;cases q with
  |nil=>
   replace h:(match zEg a with
    |some z=>eB1 (cps n) c m x a z.1.1.1 z.1.1.2
    |none=>o2 (λp z=>cP p<|aC z aN) (zD0 m x)<|(cps n).E c false a)=some t:=h
   split at h
   .next z _=>exact Be s F k i hb z.2 d.1 h
   .refine eP h λpm z A l=>?_;exact sw F k A hb d.1<|s.E F k i l
  |cons b q=>cases q with
   |cons _ _=>cases h
   |nil=>exact Bd s F k i hb d.1 (xCh _ _▸d.2).1 h
def BA{m:C4}{p:Pos}{t:D4}(s:Snd P w base B up G lv n)(F:Fc P w base B up G lv c)(k:Cok P w base B lv c X)(q:zAi (CXz X.prog X.w) X Ex)(b:as.all zAa=true)(h:eN (cps n) c m x as=some t):FE X B G Ex (.Call (.Name x p) as [] pos) t:=by
 have g:=F.g;have C:=k.hK;have T:zBe lv X.A:=k.hr.mono<|Nat.le_succ _;unfold eN at h;split at h
 .next i R Y mp e=>
  let⟨l,D⟩:=je e;refine eP h λa d L K=>?_;let⟨f,fd,Q,E,kp,FO,I⟩:=F.fn D;let⟨M,N,W,b1,b2,O⟩:=I K;let⟨A1,A2,_⟩:=s.A F k q L;exact yB g (k.f FO) T (k.gl l) (by rw[k.hM];exact E) (by rw[C];exact kp) (by rw[C];exact b1) b2 O q (dX<|e8 l).1 A1 A2 M b
 .next i R Y e=>
  let⟨l,D⟩:=je e;erw[<-cN h λ_ h=>?_,<-eP h λa d L K=>?_];let⟨cc,f,fd,Q,Z,E,mk,FO,I,_,_⟩:=F.cl D;let⟨M,N,W,b1,b2,O⟩:=I K;let⟨A1,A2,_⟩:=s.A F k q L;exact yu g Z (by rw[C];exact mk) (k.f FO) k.hr (k.gl l) (by rw[k.hM];exact E) (by rw[C];exact b1) b2 O (dX<|e8 l).1 A1 A2 M b
 .cases h
 .refine cN h λhb h=>?_;exact B5 s F k q hb b h
def BG{a:Str}{p:Pos}{t:D4}(s:Snd P w base B up G lv n)(F:Fc P w base B up G lv c)(k:Cok P w base B lv c X)(i:zAi (CXz X.prog X.w) X Ex)(b:as.all zAa=true)(m:(apos.endLine==pos.line)=true)(h:eG (cps n) c (.Name y p) a as=some t):FE X B G Ex (.Call (.Attribute (.Name y p) a apos) as [] pos) t:=by
 have g:=F.g;have L:=k.hK
 replace h:(match glo c y with
  |some (.con<|.kd d no)=>gd (decide<|a="get") (eK (cps n) c d no as)
  |_=>(cps n).M c (.Name y p) a as)=some t:=h
 split at h
 .next d no e=>
  refine cN h λQ h=>?_;cases xBe Q;let⟨l,N⟩:=je e;let⟨v,val,C,r1,r2⟩:=F.con N;let⟨A,rfl,K⟩:=r2 ⟨λ_=>none,[],[]⟩;rw[show val=.ref A from r1] at C;have D:KdF X.w B:=by rw[k.hw];exact F.kdf
  have I:X.mg y=some (.ref A):=by rw[k.hM];exact C
  have ok:=(dX<|e8 l).1;unfold eK at h;split at h
  .rw[xCj,xCh] at b;refine dw h λz q=>?_;exact yx g L D K (k.gl l) I ok (s.E F k i q) b.1 m
  .rw[xCj,xCh,xCj,xCh] at b;refine eP h λz v q O=>?_;exact yw g L D K (k.gl l) I ok (s.E F k i q) (s.E F k i O) b.1 b.2.1 m
  .cases h
 .exact s.M F k i b m h
def B0{m:C4}{f:C0}{t:D4}(s:Snd P w base B up G lv n)(F:Fc P w base B up G lv c)(k:Cok P w base B lv c X)(l:zAi (CXz X.prog X.w) X Ex)(b:as.all zAa=true)(h:cpC c (n+1) m f as pos=some t):FE X B G Ex (.Call f as [] pos) t:=by
 replace h:eC (cps n) c m f as pos=some t:=h
 cases f <;> try (cases h;done)
 case Name x p=>exact BA s F k l b h
 case Attribute o a apos=>
  have I:=k.hK;refine cN h λD h=>?_;rw[xCh] at D;unfold eAt at h;split at h
  .next C i Z e=>
   erw[<-cN h λR h=>?_,<-ot h λz v d Q O N=>?_];let⟨rfl,T⟩:=zGa N;let⟨cc,f,fd,Y,L,K,q,FO,W⟩:=F.ms<|uS e;let⟨A1,A2,_⟩:=s.A F k l O;exact yt F.g L (by rw[I];exact K) (by rw[I];exact q) (k.f FO) (k.hr.mono<|Nat.le_succ _) (by rw[I];exact W) .nil (λ_=>rfl) l (s.E F k l Q) A1 A2 T b<|uG (vo R) b (xCo D.2) D.1
  .by_cases hn:∃y p,o=.Name y p
   .let⟨y,p,rfl⟩:=hn;exact BG s F k l b D.1 h
   .exact s.M F k l b D.1 (by cases o <;> first|exact h|exact(hn ⟨_,_,rfl⟩).elim)
set_option tactic.hygienic false
theorem snd:∀n,Snd P w base B up G lv n
 |0=>zJv
 |n+1=>⟨BW<|snd n,B0<|snd n,BB<|snd n,B6<|snd n,BX<|snd n,Bi<|snd n,BE<|snd n⟩
end
structure zGw(P:Program)(w:World)(base:Heap)(B:Bs)(up:B7 (Str×Str))(G:D7)(lv n:Nat):Prop where
 S:∀{c X Ex s t},Fc P w base B up G lv c->Cok P w base B lv c X->zGk X Ex->cpS c n s=some t->FS X B G Ex s t
 L:∀{c X Ex s t},Fc P w base B up G lv c->Cok P w base B lv c X->zGk X Ex->zGb c n s=some t->FSs X B G Ex s t
section
variable{P:Program}{w:World}{base:Heap}{B:Bs}{up:B7<|Str×Str}{G:D7}{lv n:Nat}{c:Ct}{X:Cx}{Ex:St->XK}
theorem Cok.lp(k:Cok P w base B lv c X):Cok P w base B lv c X.lp:=⟨k.hP,k.hw,k.hK,k.hM,k.hb,k.N,k.nd,k.vis,k.loc,k.lc,k.gl,k.calm,k.hr,k.bk,k.cap⟩
def jS(h:zDe e=true):zAa e=true:=by cases e <;> first|rfl|cases h
def pB{one:C4}(h:zEo c tg=some (is,one)):one=true->is.length=1:=by
 cases tg <;> try (cases h;done)
 .let⟨i,a,e⟩:=fT<|show o1 _ _=_ from h;cases e;exact λ_=>rfl
 .let⟨i,a,e⟩:=fT<|show o1 _ _=_ from h;cases e;exact nofun
def lR(g:zBv up G):FS X B G Ex st sZ:=⟨λ_ _ _ _ _ _ ⟨_,_,_,_,_,h⟩=>(g.no h).elim,⟨λ_ h=>(g.no h).elim⟩⟩
set_option tactic.hygienic true
def nv{z:Str}{i:Nat}(h:zHr c z e=some i):∃x p,e=.Name x p/\vIx c x=some i:=by
 cases e <;> try (cases h;done)
 next x p=>
 change(if _ then vIx c x else none)=_ at h;split at h
 .exact⟨x,p,rfl,h⟩
 .cases h
set_option tactic.hygienic false
def za{p:Pos}{i:Nat}(F:Fc P w base B up G lv c)(k:Cok P w base B lv c X)(h:vIx c x=some i)(a:zAi (CXz X.prog X.w) X Ex):FE X B G Ex (.Name x p)<|cV i:=(snd 1).E (m:=false) F k a (by show(match vIx c x with|some i=>some (cV i)|none=>_)=_;rw[h])
set_option tactic.hygienic true
theorem xU{m:C4}{t:D4}{i:Nat}(F:Fc P w base B up G lv c)(k:Cok P w base B lv c X)(D:zAi (CXz X.prog X.w) X Ex)(E:zA3 e=false)(h:cpE c n m e=some t)(l:X.N[i]?=some y)(K:Loc X.env.scope y)(I:X.fn y=true\/X.env.scope.names.lookup y=some .local):FS X B G Ex (.Assign [.Name y py] e spos)<|sA i t:=by
 cases n with
 |zero=>cases h
 |succ n=>
  cases e <;> try (cases E;done)
  .next b a sc p=>
   let⟨C,A⟩:=vL (snd n) F k D<|show eE (cps n) c m (.ListComp b a sc p)=some t from h;have d:swapsWith (.ListComp b a sc p) (some<|.Name y py) spos.line X.env=pure (X.env.blockKind==ScopeKind.function&&X.env.kindOf y==some NameKind.local&&py.line==p.line&&!sc.names.any λq=>q.1==y&&(q.2==NameKind.local||q.2==NameKind.cell)):=rfl;cases hb:(X.env.blockKind==ScopeKind.function&&X.env.kindOf y==some NameKind.local&&py.line==p.line&&!sc.names.any λq=>q.1==y&&(q.2==NameKind.local||q.2==NameKind.cell)) with
   |false=>exact pL F.g C k.nd l K (d.trans<|by rw[hb]) I
   |true=>
    refine A k.nd l ?_ (d.trans<|by rw[hb]);simp only[xCh] at hb;exact eq_of_beq hb.1.1.2
  .cases h
  .cases h
set_option tactic.hygienic false
def yi(h:zHn e=true):∃p,e=.Dict [] [] p:=by
 unfold zHn at h;split at h
 .exact⟨_,rfl⟩
 .cases h
def rh{o:B8 NameKind}(h:zGr o=true):o=some .local:=by
 unfold zGr at h;split at h
 .rfl
 .cases h
def xi{pt L:Pos}{l d:C0}{i kt kk:Nat}{a b:D4}(g:zBv up G)(F:Fc P w base B up G lv c)(k:Cok P w base B lv c X)(h:zHj c x y px py l d=true)(T:lIx c x=some i)(R:lIx c y=some j)(K:FE X B G Ex l a)(hb:FE X B G Ex d b):FS X B G Ex (.Assign [.Tuple [.Name x px,.Name y py] kt pt] (.Tuple [l,d] kk L) spos)<|sPr i j a b:=by
 unfold zHj at h;simp only[xCh] at h;let⟨⟨⟨⟨⟨⟨⟨⟨Q,O⟩,h3⟩,h4⟩,h5⟩,h6⟩,h7⟩,h8⟩,h9⟩:=h;have m:x≠y:=by simpa using O
 have I:=k.lc<|rh h3;have E:=k.lc<|rh h4;let⟨D,W,_⟩:=fH k T;let⟨b1,b2,_⟩:=fH k R;erw[Bj g k.calm k.nd D b1 (λz=>m<|by rw[z,b1] at D;cases D;rfl) I E K hb h6 h7];have M:py.line=px.line:=eq_of_beq h5;have N:([x,y]:C5).eraseDups.length=2:=by
  have:(y==x)=false:=beq_eq_false_iff_ne.mpr<|Ne.symm m;simp[List.eraseDups,List.eraseDupsBy,List.eraseDupsBy.loop,this]
 have A:(foldedForSure 8 l&&foldedForSure 8 d)=false:=by rw[Bool.not_eq_true'] at h8;exact h8
 have q:(constantsAlone 8 l&&constantsAlone 8 d)=false:=by rw[Bool.not_eq_true'] at h9;exact h9
 unfold swappedStores;dsimp only;have C:=k.bk (by simpa using Q);rw[xCf<|by rw[C];simp];rw[xCf (λhh=>by
  simp only[List.any_cons,List.any_nil,Bool.or_false,Bool.or_eq_true] at hh;rcases hh with hh|hh
  .clear A q h8 h9 K;cases l <;> first|(cases h6;done)|(cases hh;done)
  .clear A q h8 h9 hb;cases d <;> first|(cases h7;done)|(cases hh;done))]
 simp only[List.filterMap_cons,List.filterMap_nil,List.head?_cons,Option.map_some,Option.getD_some,show(Expr.Name x px).pos=px from rfl,show(Expr.Name y py).pos=py from rfl,I,E,M,beq_self_eq_true,Bool.and_self,if_true,xCg];rw[xCf (by rw[N];simp),xCf (by rw[xCj,xCj,List.all_nil,Bool.and_true,A];decide),xCf<|by rw[xCj,xCj,List.all_nil,Bool.and_true,q];decide]
set_option tactic.hygienic true
def yp{b:B7 Stmt}{p:Pos}(s:zGw P w base B up G lv n)(F:Fc P w base B up G lv c)(k:Cok P w base B lv c X)(m:zAi (CXz X.prog X.w) X Ex)(h:zHu n (cpt n) c tg it b=some t):FS X B G Ex (.For tg it b [] p) t:=by
 unfold zHu at h;split at h
 .next is one e=>
  split at h
  .next i E=>
   refine cN h λD h=>?_;subst D;refine dw h λy d=>?_;let⟨x,q,rfl,C⟩:=nv E;exact wx F.g k.hK (pB e rfl) k.calm (za F k C m) (jw k.lp e).1 (s.L F k.lp catz d) λv=>rfl
  refine cN h λl h=>?_;rw[xCh] at l;refine eP h λx y A d=>?_;exact zp F.g (pB e) k.calm ((snd n).I F k m (λz=>kz z) A) (jw k.lp e).1 (s.L F k.lp catz d) λv=>kR l.1
 .unfold zF8 at h;split at h
  .next z _=>
   let⟨⟨a,M,kk,pt⟩,rfl⟩:=z;let⟨⟨is,K⟩,⟨js,j1⟩,x,e1,e2,A,h⟩:=qH h;refine cN h λl h=>?_;simp only[xCh,Bool.not_eq_true'] at l;let⟨⟨⟨⟨rfl,rfl⟩,q1⟩,q2⟩,q3⟩:=l;refine dw h λy d=>?_;exact wz F.g k.hK k.calm ((snd n).I F k m (λz=>kz z) A) (jw k.lp e1).1 (jw k.lp e2).1 (jS q2) (jS q3) (s.L F k.lp catz d) λv=>kR q1
  .cases h
set_option tactic.hygienic false
def Aj{p:Pos}(F:Fc P w base B up G lv c)(k:Cok P w base B lv c X)(m:zAi (CXz X.prog X.w) X Ex)(h:eNm n c x e=some t):FS X B G Ex (.Assign [.Name x px] e p) t:=by
 unfold eNm at h;split at h
 .next q=>
  rw[xCh] at q;refine dw h λi l=>?_;let⟨d,b,a⟩:=fH k l;let⟨pd,rfl⟩:=yi q.1;exact pL F.g (BU F.g) k.nd d b (eJ rfl) a
 .refine eP h λi y l A=>?_;let⟨d,b,a⟩:=fH k l;cases hn:zA3 e with
  |true=>exact pL F.g ((snd n).E F k m A) k.nd d b (eJ hn) a
  |false=>exact xU F k m hn A d b a
set_option tactic.hygienic true
def zb{es:B7 C0}{p:Pos}(F:Fc P w base B up G lv c)(k:Cok P w base B lv c X)(d:zAi (CXz X.prog X.w) X Ex)(l:zA3 e=true)(h:eTu n c es e=some t):FS X B G Ex (.Assign [.Tuple es j px] e p) t:=by
 unfold eTu at h;split at h
 .next i=>
  refine eP h λis y q m=>?_;let⟨L,K⟩:=gJ k q;exact zn F.g k.hK k.calm k.nd ((snd n).E F k d m) K L (by unfold swapsWithSole;exact eJ l) (by cases e <;> first|rfl|cases i)
 .unfold ePr at h;split at h
  .next z w _ _=>
   let⟨⟨x,px,y,py⟩,rfl⟩:=z;let⟨⟨a,b,kk,N⟩,rfl⟩:=w;refine cN h λi h=>?_;let⟨Q,O,M,I,D,C,h⟩:=qH h;refine dw h λtb A=>?_;exact xi F.g F k i I D ((snd n).E F k d C)<|(snd n).E F k d A
  .cases h
def y4{p:Pos}(F:Fc P w base B up G lv c)(k:Cok P w base B lv c X)(a:zAi (CXz X.prog X.w) X Ex)(b:(zA3 e||zI2 tg)=true)(h:zI4 n c tg e=some t):FS X B G Ex (.Assign [tg] e p) t:=by
 have D:X.A.units+1<cLine:=by have:=k.hr.un;lia
 cases tg <;> try (cases h;done)
 case Name x px=>exact Aj F k a h
 all_goals replace b:zA3 e=true:=(Bool.or_false _).symm.trans b
 case Tuple M j pt=>exact zb F k a b h
 case Attribute o f q=>
  erw[<-cN h λm h=>?_,<-eP h λx y l d=>?_];let⟨L,C,K⟩:=xCy.mp m;cases xBe K;exact zq F.g k.hK F.clf C ((snd n).E F k a l) ((snd n).E F k a d) b
 case Subscript o i q=>
  erw[<-cN h λm h=>?_,<-ot h λx y z l d I=>?_,<-wy F.g D ((snd n).E F k a l) ((snd n).E F k a d) ((snd n).E F k a I) m b]
def Bk(s:zGw P w base B up G lv n)(F:Fc P w base B up G lv c)(k:Cok P w base B lv c X)(d:zGk X Ex)(h:cpS c (n+1) st=some t):FS X B G Ex st t:=by
 replace h:eS n (cpt n) c st=some t:=h
 cases st <;> try (cases h;done)
 case Pass p=>cases h;exact ww F.g
 case Expr e p=>
  erw[<-cN h λm h=>?_,<-dw h λx l=>?_,<-Bn F.g ((snd n).E F k d.pass l) m]
 case Return e p=>
  cases e with
  |none=>cases h
  |some e=>
   replace h:zHt n c e=some t:=h
   unfold zHt at h;split at h
   .next i D=>
    cases h;let⟨x,q,rfl,C⟩:=nv D;exact vB F.g<|AN F.g<|za F k C d.pass
   .refine dw h λx l=>?_;exact vB F.g<|(snd n).E F k d.pass l
 case If q a b p=>
  refine ot h λx y z m l K=>?_;exact Bm F.g ((snd n).T F k d.pass m).1 (s.L F k d l)<|s.L F k d K
 case While q b orelse p=>
  cases orelse with
  |cons _ _=>cases h
  |nil=>
   refine eP h λx y m l=>?_;exact tE F.g ((snd n).T F k.lp catz.pass m).1<|s.L F k.lp catz l
 case For tg it b orelse p=>
  cases orelse with
  |cons _ _=>cases h
  |nil=>exact yp s F k d.pass h
 case Assign A e p=>
  cases A with
  |nil=>cases h
  |cons tg q=>cases q with
   |cons _ _=>cases h
   |nil=>
    refine cN h λI h=>?_;exact y4 F k d.pass I h
 case Raise e M p=>
  cases h;exact lR F.g
def zi{st:B7 Stmt}(s:zGw P w base B up G lv n)(F:Fc P w base B up G lv c)(k:Cok P w base B lv c X)(b:zGk X Ex)(h:zGb c (n+1) st=some t):FSs X B G Ex st t:=by
 change eL (cpt n) _ _=_ at h;unfold eL at h;split at h
 .cases h;exact zo F.g
 .next a r=>
  refine eP h λx y i d=>?_;cases i;refine wA F.g ?_<|s.L F k b d;cases e:(cpt n).S c a with
  |none=>exact lR F.g
  |some z=>exact s.S F k b e
set_option tactic.hygienic false
theorem zG9:∀n,zGw P w base B up G lv n
 |0=>⟨(λ_ _ _ h=>nomatch (show none=some _ from h)),(λ_ _ _ h=>nomatch (show none=some _ from h))⟩
 |n+1=>⟨Bk<|zG9 n,zi<|zG9 n⟩
end
structure De where
 np:Nat
 n:Nat
 t:D3
noncomputable def zAp(x:D6)(k:D5):Ee Prop:={nx:=λ_ S=>k .non S,rt:=k,bk:=λ_ _=>False,ct:=λ_ _=>False,x:=λe _ S=>x e S}
noncomputable def stU(n:Nat)(vs:C6):Sg:=vs.map some++List.replicate (n-vs.length) none
noncomputable def zGh(up:B7<|Str×Str)(fw:Nat)(call:Nat->C6->So->D6->D5->Prop):D7:={fail:=False,fuel:=fw,prim:=λp vs S x k=>Box<|prP up p vs S k,call:=call,br:=λb p q=>Box<|if b=true then p Unit.unit else q Unit.unit}
structure zEm(tab:Nat->B8 De)(G:D7)(i:Nat)(vs:C6)(S:So)(x:D6)(k:D5):Prop where
 ex:∃(x':D6) (k':D5) (de:De),(∀e S,x' e S->x e S)/\(∀v S,k' v S->k v S)/\tab i=some de/\vs.length=de.np/\de.t G (stU de.n vs) S (zAp x' k')
noncomputable def zA2(up:B7<|Str×Str)(tab:Nat->B8 De)(fw:Nat):Nat->D7
 |0=>zGh up fw λ_ _ _ _ _=>False
 |d+1=>zGh up fw<|zEm tab<|zA2 up tab fw d
theorem zFv{up:B7<|Str×Str}{tab:Nat->B8 De}:∀d,zBv up (zA2 up tab fw d)
 |0=>⟨rfl,λ_ _ _ _ _=>rfl,λ_ _ _=>rfl,λ_ _ h=>h⟩
 |d+1=>⟨rfl,λ_ _ _ _ _=>rfl,λ_ _ _=>rfl,λc i ⟨a,b,l,h1,h2,k⟩=>⟨a,b,l,λe S z=>c e S<|h1 e S z,λv S z=>i v S<|h2 v S z,k⟩⟩
def zHx{up:B7<|Str×Str}{tab:Nat->B8 De}{d i:Nat}{x:D6}{k:D5}{a:De}(e:tab i=some a)(b:vs.length=a.np)(h:a.t (zA2 up tab fw d) (stU a.n vs) S<|zAp x k):(zA2 up tab fw<|d+1).call i vs S x k:=
 zEm.mk ⟨x,k,a,λ_ _ z=>z,λ_ _ z=>z,e,b,h⟩
structure zCr(K:xFr)(x qual:Str)(st:Stmt)(f:C3)(fd:FuncData):Prop where
 ex:∃(oc:B9) (od:B8 C3) (dv kV doc pm:B9) (an:B8 C3) (cdv ct:B9) (osl:Array (B8 B9)),
  fd=PySem.W.fnOf x qual (zAr st) (zAk st) (zAd st) dv kV doc pm an cdv ct/\K.lookup f=some ⟨oc,od,.func fd,osl⟩/\PySem.W.codeIn K cdv qual=true
section
variable{P:Program}{w:World}{B:Bs}{base:Heap}{up:B7<|Str×Str}{tab:Nat->B8 De}{fw d i fu:Nat}{c:Ct}{x qual:Str}{st:Stmt}{f:C3}{fd:FuncData}{N ps:C5}{de:De}
def zCr.okX{K:xFr}{q:Str->B8 B9}{k:Nat}{sp:Sp}(F:zCr K x qual st f fd)(S:zBj N ps<|zAd st)(len:∀vs H Q E,sp vs H Q E->vs.length=ps.length)(h:∀(b:B9)(A:Around)(a:B7 Env)(s:B')(H:Hp)(vs:B7 V)(Q:VK)(E:XK),zBe k (A.deeper<|envOfC qual (zAd st) s.heap.objs.size f b)->sp vs H Q E ->
   ∃t,PSs (zEe (CXz P w) P w K q base N qual (zAd st) f b A a s H E) (zAk st) t/\t {nx:=λ_ H'=>Q .non H',rt:=Q} (start N vs) H):zBb P w K q base (CXz P w) (k+1) f fd ps sp:=by
 let⟨L,od,M,kV,I,pm,O,b,ct,C,rfl,D,m⟩:=F.ex;exact AB D m S len λA a s H vs Q E G l=>h b A a s H vs Q E G l
theorem jI:∀{l:C6}{n i:Nat}{v:U},nth (l.map some++List.replicate n none) i=some v->l[i]?=some v
 |[],n,i,v,h=>by
  exfalso;rw[List.map_nil,xC6] at h;revert h;induction n generalizing i with
  |zero=>intro h;cases h
  |succ n a=>
   cases i with
   |zero=>intro h;cases h
   |succ i=>exact a (i:=i)
 |u::l,n,0,v,h=>h
 |u::l,n,i+1,v,h=>by simpa using jI (l:=l) (n:=n) (i:=i) h
def pF{W:Wd}{us:C6}{vs:B7 V}(r:Rvs B W us vs):Rg B W (stU N.length us)<|start N vs:=by
 have b:=r.length;refine⟨?_,λi v h=>?_⟩
 .unfold stU L2.start;rw[xAb,xAb,xAa,xAa,xCu,xCu,b]
 .let⟨u,e,a⟩:=r.get<|jI h;refine⟨u,?_,a⟩;unfold L2.start;have k:i<vs.length:=(xAq.mp e).1;rw[List.getElem?_append_left (by simpa using k),xAw,e];rfl
def uU(F:zCr B.K x qual st f fd)(S:zBj N ps<|zAd st)(hN:c.N=N)(a:c.sc=(zAd st).names)(ht:tab i=some de)(G:de.np=ps.length)(hn:de.n=N.length)(cp:zGb c fu (zAk st)=some de.t)(FC:Fc P w base B up (zA2 up tab fw d) (2*d+1) c) :
  zBb P w B.K B.mg base (CXz P w) (2*(d+1)+1) f fd ps (spF B (zA2 up tab fw<|d+1) i de.np):=by
 refine zCr.okX (k:=2*d+2) F S (λvs H Q E h=>by rw[h.1,G]) λI A l s H vs Q E hr D=>?_;let⟨hl,W,us,S0,Z,Y,hc⟩:=D;let⟨T,k',de',hx,M,e,hl',b⟩:=zEm.ex hc;rw[ht] at e;cases e;have ck:Cok P w base B (2*d+1) c<|zEe (CXz P w) P w B.K B.mg base N qual (zAd st) f I A l s H E:=by
  refine⟨rfl,rfl,rfl,rfl,rfl,hN.symm,S.nd,λ{x} h=>?_,λ{x} h=>?_,λ{x} h=>?_,λ{x} h=>?_,rfl,hr,λ_=>(by show(if(zAd st).kind.isAnnotationScope then ScopeKind.function else(zAd st).kind)=_;rw[S.kind];rfl),λ_ {x} h=>?_⟩
  .unfold isV at h;rw[cg,a] at h;split at h <;> first|cases h;done|skip
   .next e=>exact .inl e
   .next e=>exact .inr (.inl e)
   .next e=>exact .inr (.inr e)
  .unfold isL at h;rw[cg,a] at h;split at h <;> first|cases h;done|skip
   .next e=>exact⟨.inl e,.inl rfl⟩
   .next e=>exact⟨.inr e,.inl rfl⟩
  .rw[cg,a] at h;exact h
  .unfold isG at h;rw[xCh,cg,a] at h;have R:=h.1;split at R
   .next e=>exact e
   .cases R
  .rw[cg,a] at h;exact⟨h,gW h⟩
 have fs:=(zG9 fu).L FC ck (catz (Ex:=λ_=>E)) cp;refine⟨_,fs.p,W,stU N.length us,S0,Z,pF Y,?_⟩;rw[hn] at b;refine fs.m.m (E:=zAp T k') ⟨λO S1 z=>?_,λv S1 z=>M v S1 z,λ_ _ z=>False.elim z,λ_ _ z=>False.elim z,λe O S1 z=>?_⟩ b
 .exact λW' τ H' le q rg=>M _ _ z W' .non H' le q rfl
 .exact λW' τ C dx H' le X rg=>hx _ _ z W' C dx H' le X
end
structure Row where
 x:Str
 qual:Str
 i:Nat
 st:Stmt
 ps:C5
 N:C5
 mu:C5
 t:D3
structure Tb where
 gl:B7 (Str×Gd)
 ms:B7 (Str×Str×Nat×Nat)
 fl:C5
 bl:C5
 ini:C5
 isc:C5
def Tb.ct(b:Tb)(N a:C5)(st:Stmt):Ct:=⟨N,(zAd st).names,b.gl,b.ms,a,b.fl,b.bl,b.ini,b.isc,false⟩
noncomputable def zFi:B7 Row->Nat->B8 De
 |[],_=>none
 |r::l,i=>match Nat.beq r.i i with
  |true=>some ⟨r.ps.length,r.N.length,r.t⟩
  |false=>zFi l i
structure zEv(b:Tb)(tab:Nat->B8 De)(r:Row):Prop where
 S:zBj r.N r.ps (zAd r.st)
 cp:∃fu,zGb (b.ct r.N r.mu r.st) fu (zAk r.st)=some r.t
 ta:tab r.i=some ⟨r.ps.length,r.N.length,r.t⟩
def Dfl(B:Bs)(fd:FuncData)(ps:C5)(np:Nat)(c:C6):Prop:=∀{n ds},dflt np n c=some ds->n+ds.length=np/\∃a b,zAy B.K fd ps b/\zAg a b/\∀W,Rvs B W ds a
structure Pf(P:Program)(w:World)(base:Heap)(B:Bs)(up:B7 (Str×Str))(b:Tb)(rows:B7 Row):Prop where
 fn:∀{x i np df mp},zAv x b.gl=some (.fn i np df mp)->∃r f fd,r∈rows/\r.i=i/\r.ps.length=np/\B.mg x=some (.ref f)/\PySem.W.keepIn B.K (.ref f)=true/\zCr B.K r.x r.qual r.st f fd/\Dfl B fd r.ps np df
 cl:∀{x i np df},zAv x b.gl=some (.cl i np df)->∃r cc f fd,r∈rows/\r.i=i/\r.ps.length=np/\B.cl x cc/\B.mg x=some (.ref cc)/\Mk B.K cc f/\zCr B.K r.x r.qual r.st f fd/\Dfl B fd r.ps np df/\(x∈b.isc->zGy B up x cc) /\
  (x∈b.ini->zAy B.K fd r.ps []/\∃mc,PySem.W.specialIn B.K (.ref cc) "__getattribute__"=some (some (.builtin "type.__getattribute__"))/\PySem.W.readsIn B.K cc mc=true/\PySem.W.findCls B.K (.ref cc) mc "__init__"=some (.val (.ref f))/\PySem.W.handedIn (.ref f)=true/\PySem.W.keepIn B.K (.ref f)=true)
 ms:∀{m C i np},(m,C,i,np)∈b.ms->∃r cc f fd,r∈rows/\r.i=i/\r.ps.length=np/\(∀c',B.cl C c'->c'=cc)/\Cls B.K cc/\zEk B.K cc m f/\zCr B.K r.x r.qual r.st f fd/\zAy B.K fd r.ps []
 con:∀{x u},zAv x b.gl=some (.con u)->∃v val,B.mg x=some val/\zAh v val/\∀W,Rv B W u v
 bl:∀{x},x∈b.bl->B.mg x=none
 k1:zB6 B "int"
 k2:zB6 B "bool"
 k3:zB6 B "str"
 k4:zB6 B "tuple"
 k5:zB6 B "list"
 clf:ClF B b.fl
 clt:ClT B
 kdf:KdF w B
section
variable{P:Program}{w:World}{base:Heap}{B:Bs}{up:B7<|Str×Str}{b:Tb}{rows:B7 Row}{tab:Nat->B8 De}{fw:Nat}
def zB8(a:∀r∈rows,zEv b tab r)(l:r∈rows){f:C3}(F:zCr B.K r.x r.qual r.st f fd):∀d,(∀N k st,Fc P w base B up (zA2 up tab fw d) (2*d+1)<|b.ct N k st)->zBb P w B.K B.mg base (CXz P w) (2*(d+1)+1) f fd r.ps (spF B (zA2 up tab fw<|d+1) r.i r.ps.length):=λd h=>
 let ⟨S,⟨_,m⟩,ta⟩:=a r l
 uU (c:=b.ct r.N r.mu r.st) F S rfl rfl ta rfl rfl m (h _ _ _)
def zr{f:C3}:zBb P w B.K B.mg base (CXz P w) (2*0+1) f fd r.ps<|spF B (zA2 up tab fw 0) r.i r.ps.length:=
 ⟨λ_ _ _ _ h=>h.1,λ_ _ _ _ _ _ _ _ _ _ _ _ _ h=>by let⟨_,_,_,_,_,_,h⟩:=h;exact False.elim h⟩
def vU(p:Pf P w base B up b rows)(D:∀r∈rows,zEv b tab r)(d:Nat)(ok:∀{r:Row}{f:C3}{fd:FuncData},r∈rows->zCr B.K r.x r.qual r.st f fd->zBb P w B.K B.mg base (CXz P w) (2*d+1) f fd r.ps (spF B (zA2 up tab fw d) r.i r.ps.length))(N q:C5)(st:Stmt):Fc P w base B up (zA2 up tab fw d) (2*d+1) (b.ct N q st) where
 g:=zFv d
 fn:=λh=>by
  let⟨r,f,fd,a,rfl,rfl,l,k,F,c⟩:=p.fn h;exact⟨f,fd,r.ps,l,k,ok a F,c⟩
 cl:=λh=>by
  let⟨r,cc,f,fd,a,rfl,rfl,l,k,m,F,c,C,A⟩:=p.cl h;exact⟨cc,f,fd,r.ps,l,k,m,ok a F,c,C,A⟩
 ms:=λh=>by
  let⟨r,cc,f,fd,a,rfl,rfl,l,k,m,F,c⟩:=p.ms h;exact⟨cc,f,fd,r.ps,l,k,m,ok a F,c⟩
 con:=p.con
 bl:=p.bl
 k1:=p.k1
 k2:=p.k2
 k3:=p.k3
 k4:=p.k4
 k5:=p.k5
 clf:=p.clf
 clt:=p.clt
 kdf:=p.kdf
theorem rM(p:Pf P w base B up b rows)(a:∀r∈rows,zEv b tab r):∀(d:Nat)(N c:C5)(st:Stmt),Fc P w base B up (zA2 up tab fw d) (2*d+1) (b.ct N c st)
 |0=>vU p a 0 λ_ _=>zr
 |d+1=>vU p a (d+1) λh F=>zB8 a h F d<|rM p a d
def y6(p:Pf P w base B up b rows)(a:∀r∈rows,zEv b tab r)(c:r∈rows){f:C3}(F:zCr B.K r.x r.qual r.st f fd)(d:Nat):zBb P w B.K B.mg base (CXz P w) (2*(d+1)+1) f fd r.ps<|spF B (zA2 up tab fw<|d+1) r.i r.ps.length:=zB8 a c F d<|rM p a d
end
noncomputable def zI3:B8 NameKind->C4
 |some .local=>true
 |some .cell=>true
 |_=>false
noncomputable def zD7:NameKind->C4
 |.free=>false
 |_=>true
noncomputable def eqL:C5->C5->C4
 |[],[]=>true
 |x::r,y::s=>decide (x=y)&&eqL r s
 |_,_=>false
theorem rS:∀{a b:C5},eqL a b=true->a=b
 |[],[],_=>rfl
 |[],_::_,h=>by cases h
 |_::_,[],h=>by cases h
 |x::r,y::s,h=>by
  simp only[eqL,xCh,decide_eq_true_eq] at h;rw[h.1,rS h.2]
def scB(N ps:C5)(sc:Scope):C4:=decide (sc.kind=.function)&&(!sc.isCoroutine&&(!sc.isGenerator&&(zA8 N&&(eqL (N.take ps.length) ps&&(ps.all (λx=>zI3<|zAv x sc.names)&&sc.names.all λy=>zD7 y.2)))))
def wv{N ps:C5}{sc:Scope}(h:scB N ps sc=true):zBj N ps sc:=by
 simp only[scB,xCh,Bool.not_eq_true'] at h;let⟨q,m,l,k,i,d,c⟩:=h;refine⟨xBe q,m,l,dI k,rS i,λx b=>?_,λy a e=>?_⟩
 .have:=xCx.mp d x b;rw[cg] at this;unfold zI3 at this;split at this
  .next e=>exact .inl e
  .next e=>exact .inr e
  .cases this
 .have:=xCx.mp c y a;rw[e] at this;cases this
def zJz{b:Tb}{tab:Nat->B8 De}(d:scB r.N r.ps (zAd r.st)=true)(c:zGb (b.ct r.N r.mu r.st) 100 (zAk r.st)=some r.t)(a:tab r.i=some ⟨r.ps.length,r.N.length,r.t⟩):zEv b tab r:=⟨wv d,⟨_,c⟩,a⟩
def alln{p:J->Prop}:∀x∈([]:B7 J),p x:=λ_ h=>nomatch h
def allc{p:J->Prop}{a:J}{l:B7 J}(h:p a)(r:∀x∈l,p x):∀x∈a::l,p x:=List.forall_mem_cons.mpr ⟨h,r⟩
def fm{v:J}{l:B7<|Str×J}(h:zAv x l=some v):(x,v)∈l:=cU (by rw[<- cg];exact h)
noncomputable def mkB(K:xFr)(h:Str->B8 B9)(d:B7<|Str×C3)(b:B7<|C3×B7 (Str×U)×C5):Bs:=⟨K,h,λp a no=>(p,a,no)∈b,λC c=>(C,c)∈d⟩
noncomputable def zF2{J:Type}:B8 (B8 J)->C4
 |some none=>true
 |_=>false
def i9{o:B8<|B8 J}(h:zF2 o=true):o=some none:=by
 unfold zF2 at h;split at h
 .rfl
 .cases h
def zDk(K:xFr)(C:C3)(fl:C5):C4:=fl.all λf=>zF2<|PySem.W.findIn K (.ref C) f
def mgB(K:xFr)(l:C5):C4:=l.all λx=>zF2<|PySem.W.nsIn K mainGlobals x
def nsB(K:xFr)(p:C3)(l:C5):C4:=l.all λx=>zF2<|PySem.W.nsIn K p x
noncomputable def eqO:B8 C4->C4->C4
 |some true,true=>true
 |some false,false=>true
 |_,_=>false
def jh{o:B8 C4}{b:C4}(h:eqO o b=true):o=some b:=by
 unfold eqO at h;split at h <;> first|rfl|cases h
def zCh(K:xFr)(n:String)(a:B7<|Str×C3):C4:=(tys.all λt=>eqO (PySem.W.kitOne K (.type t)<|.type n)<|zF1 t n)&&a.all λc=>eqO (PySem.W.kitOne K (.ref c.2)<|.type n)<|zF1 "object" n
def zEc(K:xFr)(up:B7<|Str×Str)(D:Str)(d:C3)(a:B7<|Str×C3):C4:=(tys.all λt=>eqO (PySem.W.kitOne K (.type t)<|.ref d) false)&&a.all λc=>eqO (PySem.W.kitOne K (.ref c.2)<|.ref d)<|isC up c.1 D
section
variable{K:xFr}{mg:Str->B8 B9}{cls:B7<|Str×C3}{kds:B7<|C3×B7 (Str×U)×C5}{up:B7<|Str×Str}
def zFz{n:String}(h:zCh K n cls=true):zB6 (mkB K mg cls kds) n:=by
 simp only[zCh,xCh,xCx] at h;exact⟨λt a=>jh<|h.1 t a,λ{C c} b=>jh<|h.2 (C,c) b⟩
def zJ8{D:Str}{d:C3}(h:zEc K up D d cls=true):zGy (mkB K mg cls kds) up D d:=by
 simp only[zEc,xCh,xCx] at h;exact⟨λt a=>jh<|h.1 t a,λ{C c} b=>jh<|h.2 (C,c) b⟩
def clF{fl:C5}(h:∀p∈cls,Cls K p.2)(d:∀p∈cls,zDk K p.2 fl=true):ClF (mkB K mg cls kds) fl:=⟨λ{C c} a=>h (C,c) a,λ{C c f} a b=>i9<|xCx.mp (d (C,c) a) f b⟩
variable{x qual:Str}{st:Stmt}{f:C3}{fd:FuncData}{ps:C5}{ds es:D0}
def Fun.fa(F:Fun K x qual st f fd):zCr K x qual st f fd:=by
 let⟨h,od,kV,c,pm,k,d,ct,a,e,i,b⟩:=F.ex;exact⟨h,od,_,kV,c,pm,k,d,ct,a,e,i,b⟩
def BdC(r:Row):Prop:=∀(kV a pm:B9)(c:B8 C3)(b ct:B9)(us:D0),us.length=r.ps.length->bindArgs (PySem.W.fnOf r.x r.qual (zAr r.st) (zAk r.st) (zAd r.st) .none kV a pm c b ct) ⟨us,[]⟩=pure (r.ps.zip us)
def zI5(F:Fun K r.x r.qual r.st f fd)(b:BdC r):Dfl (mkB K mg cls kds) fd r.ps r.ps.length []:=λ{n ds} h=>by
 let⟨rfl,e⟩:=zGa h;exact⟨by simpa using e,[],[],F.binds b,.nil,λ_=>rfl⟩
end
def zD1(P:Program)(w:World)(h:Heap)(B:Bs)(up:B7<|Str×Str)(b:Tb)(rows:B7 Row):Str×Gd->Prop
 |(x,.fn i a c _)=>∃r f fd,r∈rows/\r.i=i/\r.ps.length=a/\B.mg x=some (.ref f)/\PySem.W.keepIn B.K (.ref f)=true/\zCr B.K r.x r.qual r.st f fd/\Dfl B fd r.ps a c
 |(x,.cl i a c)=>∃r cc f fd,r∈rows/\r.i=i/\r.ps.length=a/\B.cl x cc/\B.mg x=some (.ref cc)/\Mk B.K cc f/\zCr B.K r.x r.qual r.st f fd/\Dfl B fd r.ps a c/\(x∈b.isc->zGy B up x cc) /\
  (x∈b.ini->zAy B.K fd r.ps []/\∃d,PySem.W.specialIn B.K (.ref cc) "__getattribute__"=some (some<|.builtin "type.__getattribute__")/\PySem.W.readsIn B.K cc d=true/\PySem.W.findCls B.K (.ref cc) d "__init__"=some (.val<|.ref f)/\PySem.W.handedIn (.ref f)=true/\PySem.W.keepIn B.K (.ref f)=true)
 |(x,.con u)=>∃v val,B.mg x=some val/\zAh v val/\∀W,Rv B W u v
def zIa(B:Bs)(rows:B7 Row)(p:Str×Str×Nat×Nat):Prop:=∃r cc f fd,r∈rows/\r.i=p.2.2.1/\r.ps.length=p.2.2.2/\(∀a,B.cl p.2.1 a->a=cc)/\Cls B.K cc/\zEk B.K cc p.1 f/\zCr B.K r.x r.qual r.st f fd/\zAy B.K fd r.ps []
def zB{P:Program}{w:World}{a:Heap}{up:B7<|Str×Str}{b:Tb}{rows:B7 Row}(c:∀p∈b.gl,zD1 P w a B up b rows p)(i:∀p∈b.ms,zIa B rows p)(d:∀x∈b.bl,B.mg x=none)(k1:zB6 B "int")(k2:zB6 B "bool")(k3:zB6 B "str")(k4:zB6 B "tuple")(k5:zB6 B "list")(clf:ClF B b.fl)(clt:ClT B)(kdf:KdF w B):Pf P w a B up b rows where
 fn:=λh=>c _<|fm h
 cl:=λh=>c _<|fm h
 ms:=λh=>i _ h
 con:=λh=>c _<|fm h
 bl:=λh=>d _ h
 k1:=k1
 k2:=k2
 k3:=k3
 k4:=k4
 k5:=k5
 clf:=clf
 clt:=clt
 kdf:=kdf
def DnR(K:xFr)(r:Row):Prop:=∃(f:C3) (fd:FuncData),PySem.W.nsIn K mainGlobals r.x=some (some<|.ref f)/\Fun K r.x r.qual r.st f fd
def MdR(K:xFr)(C:C3)(r:Row):Prop:=∃(f:C3) (fd:FuncData),PySem.W.findIn K (.ref C) r.x=some (some<|.ref f)/\PySem.W.isFn K (.ref f)=true/\PySem.W.keepIn K (.ref f)=true/\Fun K r.x r.qual r.st f fd
section
variable{K:xFr}{f T C:C3}{oc kV dc pm cd ct:B9}{od an:B8 C3}{sl:Array<|B8 B9}{nm q:Str}{st:Stmt}{m:Str}{i:Nat}{ps N mu:C5}{t:D3}{d:B9}{oT:Obj}{n:Nat}
def dnr(h:PySem.W.nsIn K mainGlobals nm=some (some<|.ref f))(c:K.lookup f=some ⟨oc,od,.func<|PySem.W.fnOf nm q (zAr st) (zAk st) (zAd st) .none kV dc pm an cd ct,sl⟩)(b:PySem.W.codeIn K cd q=true)(a:PySem.W.keepIn K (.ref f)=true):DnR K ⟨nm,q,i,st,ps,N,mu,t⟩:=⟨f,_,h,rE c b a⟩
def mdr(k:PySem.W.findIn K (.ref C) m=some (some<|.ref f))(b:PySem.W.isFn K (.ref f)=true)(h:K.lookup f=some ⟨oc,od,.func<|PySem.W.fnOf m q (zAr st) (zAk st) (zAd st) .none kV dc pm an cd ct,sl⟩)(c:PySem.W.codeIn K cd q=true)(a:PySem.W.keepIn K (.ref f)=true):MdR K C ⟨m,q,i,st,ps,N,mu,t⟩:=⟨f,_,k,b,a,rE h c a⟩
end
section
variable{P:Program}{w:World}{base h:Heap}{K:xFr}{mg:Str->B8 B9}{cls:B7<|Str×C3}{kds:B7<|C3×B7 (Str×U)×C5}{up:B7<|Str×Str}{b:Tb}{rows:B7 Row}{r:Row}{mp:B7 C4}{x C:Str}{cc a:C3}{i:Int}{tk:Tok}
def ce(X:K.In h)(G:h.Ns mainGlobals mg)(d:DnR K r)(c:r∈rows)(l:BdC r):zD1 P w base (mkB K mg cls kds) up b rows (r.x,.fn r.i r.ps.length [] mp):=
 let ⟨f,fd,k,F⟩:=d
 ⟨r,f,fd,c,rfl,rfl,PySem.W.mg_of X G k,F.kp,Fun.fa F,zI5 F l⟩
structure CsR(K:xFr)(C:C3)(n:Str):Prop where
 at_:PySem.W.nsIn K mainGlobals n=some (some (.ref C))
 cls:Cls K C
 mks:PySem.W.makesIn K C=true
 kp:PySem.W.keepIn K (.ref C)=true
 ha:PySem.W.findIn K (.ref C) "__class__"=some (some (.builtin "object.__class__"))
 hm:PySem.W.mroIn K C (.type "object")=some true
def zKo(K:xFr)(cc:C3):Prop:=∃c,PySem.W.specialIn K (.ref cc) "__getattribute__"=some (some<|.builtin "type.__getattribute__")/\PySem.W.readsIn K cc c=true/\∀f,PySem.W.findIn K (.ref cc) "__init__"=some (some<|.ref f)->PySem.W.findCls K (.ref cc) c "__init__"=some (.val<|.ref f)/\PySem.W.handedIn (.ref f)=true
def vR(X:K.In h)(G:h.Ns mainGlobals mg)(c:CsR K cc C)(d:MdR K cc r)(A:r.x="__init__")(D:r∈rows)(E:(C,cc)∈cls)(m:BdC r)(hk:C∈b.isc->zEc K up C cc cls=true)(hi:C∈b.ini->zKo K cc):zD1 P w base (mkB K mg cls kds) up b rows (C,.cl r.i r.ps.length []):=by
 let⟨f,fd,L,I,kp,F⟩:=d;have k:PySem.W.findIn K (.ref cc) "__init__"=some (some<|.ref f):=by rw[<- A];exact L
 refine⟨r,cc,f,fd,D,rfl,rfl,E,PySem.W.mg_of X G c.at_,⟨c.mks,k,I,c.kp⟩,Fun.fa F,zI5 F m,λz=>zJ8<|hk z,λz=>?_⟩;let⟨q,N,M,l⟩:=hi z;exact⟨F.binds m,q,N,M,(l f k).1,(l f k).2,kp⟩
theorem uniq:∀{cls:B7<|Str×C3}{C:Str}{c k:C3},zA8 (cls.map (·.1))=true->(C,c)∈cls->(C,k)∈cls->k=c:=λ{cls C c k} d h1 h2=>by
 have d:=dI d;clear ‹zA8 _=true›;induction cls with
 |nil=>cases h1
 |cons p r l=>
  rw[xBs,xCb] at d;rcases xAv.mp h1 with e1|h1 <;> rcases xAv.mp h2 with e2|h2
  .rw[<- e1] at e2;cases e2;rfl
  .exact absurd (xA2.mpr ⟨_,h2,by rw[<- e1]⟩) d.1
  .exact absurd (xA2.mpr ⟨_,h1,by rw[<- e2]⟩) d.1
  .exact l h1 h2 d.2
def eQ(k:zA8 (cls.map (·.1))=true)(c:CsR K cc C)(d:MdR K cc r)(l:r∈rows)(m:(C,cc)∈cls)(D:BdC r):zIa (mkB K mg cls kds) rows (r.x,C,r.i,r.ps.length):=
 let ⟨f,fd,A,q,kp,F⟩:=d
 ⟨r,cc,f,fd,l,rfl,rfl,λE h=>uniq k m h,c.cls,⟨A,q,kp⟩,Fun.fa F,F.binds D⟩
def jf(X:K.In h)(G:h.Ns mainGlobals mg)(e:PySem.W.nsIn K mainGlobals x=some (some<|.int i tk)):zD1 P w base (mkB K mg cls kds) up b rows (x,.con<|.int i):=⟨.int i,_,PySem.W.mg_of X G e,⟨_,rfl⟩,λ_=>rfl⟩
def yk{z:Str}(X:K.In h)(G:h.Ns mainGlobals mg)(e:PySem.W.nsIn K mainGlobals x=some (some<|.str z tk)):zD1 P w base (mkB K mg cls kds) up b rows (x,.con<|.str z):=⟨.str z,_,PySem.W.mg_of X G e,⟨_,rfl⟩,λ_=>rfl⟩
theorem f6{B:Bs}{W:Wd}{β:Type}{f:β->U}{g:β->V}(h:∀x,Rv B W (f x)<|g x):∀(l:B7 β),Rvs B W (l.map f) (l.map g)
 |[]=>rfl
 |x::l=>⟨g x,l.map g,rfl,h x,f6 h l⟩
def xY{l:C5}(h:∀H,SqT B.K H a<|l.map .str)(W:Wd):Rv B W (.kt<|l.map .str)<|.ref a:=⟨a,_,rfl,h,f6 (f:=U.str) (g:=V.str) (λ_=>rfl) l⟩
def xZ{l:C8}(h:∀H,SqT B.K H a<|l.map .int)(W:Wd):Rv B W (.kt<|l.map .int)<|.ref a:=⟨a,_,rfl,h,f6 (f:=U.int) (g:=V.int) (λ_=>rfl) l⟩
def vP{u:U}(X:K.In h)(G:h.Ns mainGlobals mg)(e:PySem.W.nsIn K mainGlobals x=some (some<|.ref a))(r:∀W,Rv (mkB K mg cls kds) W u<|.ref a):zD1 P w base (mkB K mg cls kds) up b rows (x,.con u):=⟨.ref a,_,PySem.W.mg_of X G e,rfl,r⟩
def vQ{kvs:B7<|Str×U}{no:C5}(X:K.In h)(G:h.Ns mainGlobals mg)(e:PySem.W.nsIn K mainGlobals x=some (some<|.ref a))(c:(a,kvs,no)∈kds):zD1 P w base (mkB K mg cls kds) up b rows (x,.con<|.kd kvs no):=⟨.ref a,_,PySem.W.mg_of X G e,rfl,λ_=>⟨a,rfl,c⟩⟩
structure zJd(w:World)(B:Bs)(q:C3×B7 (Str×U)×C5):Prop where
 d:KD w B.K q.1
 y:∀e∈q.2.1,∃u val,PySem.W.nsIn B.K q.1 e.1=some (some val)/\zAh u val/\∀W,Rv B W e.2 u
 n:nsB B.K q.1 q.2.2=true
def kdF(l:∀q∈kds,zJd w (mkB K mg cls kds) q):KdF w<|mkB K mg cls kds:=
 ⟨λ{p c no} k=>(l _ k).d,λ{p c no x v} k m=>(l _ k).y _<|fm m,λ{p c no x} k A=>i9<|xCx.mp (l _ k).n x A⟩
def clT(m:∀p∈cls,Cls K p.2/\PySem.W.findIn K (.ref p.2) "__class__"=some (some<|.builtin "object.__class__")/\PySem.W.mroIn K p.2 (.type "object")=some true)(k:PySem.W.specialIn K (.builtin "object.__class__") "__get__"=some (some<|.builtin "getset_descriptor.__get__"))(d:PySem.W.takesIn K (.builtin "object.__class__")=some true):ClT<|mkB K mg cls kds:=
 ⟨λ{C c H a E fs} l e=>let ⟨D,A,q⟩:=m (C,c) l;.ins e D A k d q⟩
def zDi(K:xFr)(n:Nat):Sp:=λvs H Q _=>∃(a:C3) (c:C8),vs=[.ref a]/\c.length<=n/\SqL K H a (c.map V.int)/\∀H',Q (.bl true) H'
def xV{G:D7}{i:Nat}(g:zBv up G)(math:∀ns:C8,ns.length<=n->G.call i [.kl<|ns.map U.int] [] (λ_ _=>False) (λv _=>v=.bl true)):∀vs H Q E,zDi B.K n vs H Q E->spF B G i 1 vs H Q E:=λvs H Q E c=>by
 let⟨a,ns,e,l,k,q⟩:=c;subst e;erw[<-⟨rfl,⟨H,[],[]⟩,[.kl<|ns.map U.int],[],⟨λ_ _ h=>h,rfl,λ_ _ _ h=>(by cases h),λ_ _ h=>(by cases h),λ_ h=>(by cases h)⟩,⟨.ref a,[],rfl,⟨a,ns.map V.int,rfl,k,f6 (f:=U.int) (g:=V.int) (λ_=>rfl) ns⟩,rfl⟩,?_⟩,<-g.call (λ_ _ z=>z.elim) (λv S z=>?_)<|math ns l];subst z;exact λW' u H' le m d=>by rw[show u=.bl true from d];exact q H'
end
end Fx
namespace Fx
open PySem L2
variable{kvs:B7<|Key×U}
section
variable{up:B7<|Str×Str}{tab:Nat->B8 De}{fw d:Nat}{p:Pm}{vs:C6}{S S':So}{x:D6}{k:D5}{v:U}{a b:Unit->Prop}
def pm(e:pr up p vs S=.ok v S')(h:k v S'):(zA2 up tab fw d).prim p vs S x k:=by
 rw[(zFv (up:=up) (tab:=tab) (fw:=fw) d).prim];exact⟨by unfold prP;rw[e];exact h⟩
def brT(h:a Unit.unit):(zA2 up tab fw d).br true a b:=by
 rw[(zFv (up:=up) (tab:=tab) (fw:=fw) d).br];exact⟨by rw[xCg rfl];exact h⟩
def brF(h:b Unit.unit):(zA2 up tab fw d).br false a b:=by
 rw[(zFv (up:=up) (tab:=tab) (fw:=fw) d).br];exact⟨by rw[xCf ∅];exact h⟩
def tQ{xs:C6}{j:Nat}(h:xs[j]?=some v):pr up .ix [.kl xs,.int j] S=.ok v S:=by
 show opt (atI xs (j:Int)) S=_;rw[dA h];rfl
end
section
variable{up:B7<|Str×Str}{S S':So}{p q:Nat}{o o':Ob}{C f m:Str}{fs fs':B7<|Str×U}{v u:U}{xs ys:C6}
theorem zBi{J:Type}:∀{l:B7 J}{p:Nat}{o:J},at? l p=some o->p<l.length
 |_::_,0,_,_=>⋯
 |_::l,p+1,_,h=>by have:=zBi (l:=l) h;simp;lia
theorem zAc{J:Type}:∀{l:B7 J}{p:Nat}{o o':J},at? l p=some o->at? (set l p o') p=some o'
 |_::_,0,_,_,_=>rfl
 |_::l,p+1,_,_,h=>zAc (l:=l) h
theorem zDq{J:Type}:∀{l:B7 J}{p q:Nat}{o:J},p≠q->at? (set l p o) q=at? l q
 |[],_,_,_,_=>rfl
 |_::_,0,0,_,h=>absurd rfl h
 |_::_,0,_+1,_,_=>rfl
 |_::_,_+1,0,_,_=>rfl
 |_::l,p+1,q+1,_,h=>zDq (l:=l) ()
theorem zAf{J:Type}:∀{l:B7 J}{p:Nat}{o:J},(set l p o).length=l.length
 |[],_,_=>rfl
 |_::_,0,_=>rfl
 |_::l,p+1,_=>congrArg (·+1)<|zAf (l:=l)
theorem zAn{J:Type}:∀{l t:B7 J}{p:Nat}{o:J},at? l p=some o->at? (l++t) p=some o
 |_::_,_,0,_,h=>h
 |_::l,_,p+1,_,h=>zAn (l:=l) h
theorem zAx{J:Type}:∀{l:B7 J}{o:J},at? (l++[o]) l.length=some o
 |[],_=>rfl
 |_::l,_=>zAx (l:=l)
theorem zDu{J:Type}:∀{l:B7 J}{o o':J},set (l++[o]) l.length o'=l++[o']
 |[],_,_=>rfl
 |x::l,_,_=>congrArg (x::·)<|zDu (l:=l)
theorem zAb{J:Type}:∀{l:B7 J}{p:Nat}{o o':J},set (set l p o) p o'=set l p o'
 |[],_,_,_=>rfl
 |_::_,0,_,_=>rfl
 |x::l,p+1,_,_=>congrArg (x::·)<|zAb (l:=l)
def dB(h:at? S p=some (.ins C fs))(e:zAv f fs=some v):pr up (.fld f) [.ref p] S=.ok v S:=by
 show zCy p S _=_;unfold zCy;rw[h];show opt (zAv f fs) S=_;rw[e];rfl
def iM(h:at? S p=some (.ins C fs))(e:putF f v fs=fs')(a:Nat.ble fs.length 900=true):pr up (.setf f) [.ref p,v] S=.ok .non (set S p<|.ins C fs'):=by
 show zCy p S _=_;unfold zCy;rw[h];dsimp only;rw[a,e]
def zA6{n:Nat}{r:Res}(h:n<=sizeLine):fits n r=r:=by
 unfold fits;rw[xDk h]
def cH(h:at? S p=some (.lst xs))(a:xs.length+1<=sizeLine):pr up .app [.ref p,v] S=.ok .non (set S p<|.lst<|xs++[v]):=by
 show zCu p S _=_;unfold zCu;rw[h];exact zA6 a
def cE(h:at? S p=some (.lst xs)):pr up (.typ "list") [.ref p] S=.ok (.ref p) S:=by
 delta pr;dsimp only[tyU];rw[h];rfl
def cm(h:at? S p=some (.ins C fs))(e:zAv m fs=none):pr up (.cls C m) [.ref p] S=.ok (.ref p) S:=by
 show zCy p S _=_;unfold zCy;rw[h];dsimp only;rw[xBd rfl,e]
def gc(h:at? S p=some (.lst xs)):pr up .len [.ref p] S=.ok (.int xs.length) S:=by
 show zEb (.ref p) S=_;unfold zEb;dsimp only;rw[h]
def tO(h:at? S p=some (.dct kvs)):pr up .len [.ref p] S=.ok (.int kvs.length) S:=by
 show zEb (.ref p) S=_;unfold zEb;dsimp only;rw[h]
def dU(h:at? S p=some (.dct kvs)):pr up .dctOf [.ref p] S=.ok (.ref S.length) (S++[.dct kvs]):=by
 delta pr;dsimp only;rw[h]
def ga{x:Str}(h:at? S p=some (.dct kvs))(a:kvs.length+1<=sizeLine):pr up .seti [.ref p,.str x,v] S=.ok .non (set S p<|.dct<|putK (.inr x) v kvs):=by
 show zBg p (.str x) v S=_;unfold zBg;rw[h];exact zA6 a
def dP{x:Str}(h:at? S p=some (.dct kvs))(e:zAu (.inr x) kvs=some v):pr up .ix [.ref p,.str x] S=.ok v S:=by
 show ixU (.ref p) (.str x) S=_;unfold ixU;dsimp only;rw[h];show opt (zAu (.inr x) kvs) S=_;rw[e];rfl
end
end Fx
namespace K31
open PySem L2 Fx
variable{mg:Str->B8 B9}{cls:B7<|Str×C3}{kds:B7<|C3×B7 (Str×U)×C5}{fw d dm e lv lv' j h pq na sa n' c2 hi:Nat}{S S2:So}{N:Str->Prop}{k1 k2 k' wi:Int}{y:Str}{A B:Pg}{xx:D6}{a1 a3 a5 a7 a8 a10 a11 a13 a12 a4 a6 a0:B8 U}{u9:U}{is own M:C7}{ns:C5}{E:Ee Prop}{kk:Sg->So->Prop}{items:B7<|Str×U}{Ps ss parts more rr:C6}{f' f1:Fd}
noncomputable def top(i:Nat):Stmt:=PySem.Challenge.pw_spacewright_k31_names_that_are_set.main.body.getD i<|.Pass ⟨0,0,0,0⟩
noncomputable def cn:B7<|Str×U:=[("number",(.kt [(.str "number")])),("name",(.kt [(.str "used")])),("fn",(.kt [(.str "names"),(.str "part")])),("call",(.kt [(.str "part"),(.str "parts")])),("let",(.kt [(.str "name"),(.str "part"),(.str "part")])),("set",(.kt [(.str "used"),(.str "part")])),("do",(.kt [(.str "part"),(.str "part")])),("if",(.kt [(.str "part"),(.str "part"),(.str "part")])),("math",(.kt [(.str "op"),(.str "part"),(.str "part")])),("make",(.kt [(.str "word"),(.str "parts")])),("match",(.kt [(.str "part"),(.str "word"),(.str "names"),(.str "part"),(.str "part")])),("raise",(.kt [(.str "word"),(.str "part")])),("try",(.kt [(.str "part"),(.str "word"),(.str "name"),(.str "part")])),("tell",(.kt [(.str "part")])),("ask",(.kt []))]
noncomputable def cI:C5:=[]
noncomputable def ik:U:=.kd cn cI
noncomputable def cW:B7<|Str×U:=[("fn",(.kt [(.int<|2),(.int<|3)])),("let",(.kt [(.int<|2),(.int<|4)])),("match",(.kt [(.int<|4),(.int<|5)])),("try",(.kt [(.int<|4),(.int<|5)]))]
noncomputable def du:C5:=["number","name","call","set","do","if","math","make","raise","tell","ask"]
noncomputable def gP:U:=.kd cW du
noncomputable def Tl(x:Str)(i n:Nat):Str×Gd:=(x,.cl i n [])
noncomputable def Ju(x:Str)(i n:Nat)(m:B7 C4):Str×Gd:=(x,.fn i n [] m)
noncomputable def Jn(x:Str)(i n:Nat):Str×Gd:=Ju x i n []
noncomputable def Tc(x:Str)(u:U):Str×Gd:=(x,.con u)
noncomputable def gls:B7<|Str×Gd:=[Jn "inner" 0 1,Jn "bodies_in" 1 1,Jn "set_names" 2 1,Jn "is_number" 3 1,Jn "form_of" 4 1,Jn "told_anew" 5 2,Jn "parts_ahead" 6 1,Jn "is_word" 7 1,Jn "is_name" 8 1,Jn "is_place" 9 1,Jn "is_written_number" 10 1,Jn "plain" 11 1,Tl "Checker" 12 1,Jn "checked_row" 16 1,Jn "checked_names" 17 1,Jn "fits" 18 3,Jn "checked_program" 19 1,Jn "set_bindings" 20 1,Ju "find_sets" 21 3 [false,false,true],Tl "Namer" 22 2,Jn "plain_step" 30 4,Jn "named" 31 1,Jn "_law_cell_at" 32 2,Jn "_law_words" 33 1,Jn "_law_state" 34 4,Ju "_law_take" 35 2 [true,false],Ju "_law_place" 36 1 [true],Jn "_law_atom" 37 2,Jn "_law_some" 38 4,Jn "_law_unlike" 39 2,Jn "_law_loop" 40 4,Jn "_law_bind" 41 5,Jn "_law_word" 42 1,Jn "_law_plain" 43 5,Jn "_law_helper" 44 4,Jn "_law_part" 45 4,Jn "_law_program" 46 2,Jn "_law_bodies" 47 1,Jn "_law_meant" 48 1,Jn "_law_hand" 49 2,Jn "_law_right" 50 1,Jn "law" 51 1,Tc "MOST_PARTS"<|.int<|300,Tc "MOST_WITHIN"<|.int<|20,Tc "MOST_IN_ROW"<|.int<|4,Tc "LAST_PLACE"<|.int<|599,Tc "LETTERS"<|.str "abcdefghijklmnopqrstuvwxyz",Tc "OPS"<|.kt [(.str "add"),(.str "sub"),(.str "mul"),(.str "less"),(.str "same")],Tc "HEADS"<|.kt [(.str "fn"),(.str "call"),(.str "let"),(.str "set"),(.str "do"),(.str "if"),(.str "add"),(.str "sub"),(.str "mul"),(.str "less"),(.str "same"),(.str "make"),(.str "match"),(.str "raise"),(.str "try"),(.str "tell"),(.str "ask")],Tc "FORMS" ik,Tc "SCOPES" gP]
noncomputable def mss:B7<|Str×Str×Nat×Nat:=[("check_part","Checker",13,4),("check_place","Checker",14,2),("check_thing","Checker",15,5),("new_name","Namer",23,2),("body_of","Namer",24,4),("atom_of","Namer",25,5),("atom_of_name","Namer",26,4),("atom_of_let","Namer",27,5),("outer_step","Namer",28,5),("bound_body","Namer",29,6)]
noncomputable def fls:C5:=["tag","fields","place","params","body","scope","inside","part","last","height","calls","places","inputs","taken","most","log","deeds","deepest","world","jobs","pile","set_ones"]
noncomputable def bls:C5:=["len","isinstance","abs","int","tuple","list","dict","all","any","max","min","range","zip","reversed","set","str","bool","sorted","enumerate"]
noncomputable def ups:B7<|Str×Str:=[("SpaceError","ValueError"),("NoPart","SpaceError")]
noncomputable def tb:Tb:=⟨gls,mss,fls,bls,["Function"],["Block","Function"]⟩
def J0:D4:=cV 0
def J1:D4:=cV 1
def J7:D4:=cV 2
def J8:D4:=cV 3
def J9:D4:=cV 4
def Jc:D4:=cV 5
def Jh:D4:=cV 6
def Jt:D4:=cV 7
def Y0:D4:=cV 8
def Y3:D4:=cV 9
def Y9:D4:=cV 10
def Y7:D4:=cV 11
def Y8:D4:=cV 12
def Yb:D4:=cV 13
def Ji:D4:=cC<|.int 0
def Jg:D4:=cC<|.int 1
def Jq:D4:=cC<|.int 2
def Jr:D4:=cC<|.int 3
def Y2:D4:=cC<|.int 4
def Jv:D4:=cC<|.int 5
def Y6:D4:=cC<|.int 6
def Ya:D4:=cC<|.int 7
def Jd(i:Int):D4:=cC<|.int i
def J3(x:Str):D4:=cC<|.str x
def J4(a b:D4):D4:=cP .ix<|zAw a b
def Y5(x:Str)(a:D4):D4:=cP (.fld x)<|aC a aN
def J6(p:Pm)(a:D4):D4:=cP p<|aC a aN
def J2(p:Pm)(a b:D4):D4:=cP p<|zAw a b
def Jf(a b:D4):TTx Prop:=tB<|cP .eq<|zAw a b
def Jo(i:Nat)(a:D8):D4:=cF i a []
def Je(i:Nat)(a:D4):D4:=cF i (aC a aN) []
def Jk(i:Nat)(a b:D4):D4:=cF i (aC a<|aC b aN) []
def Jp(a:D4):D8:=(aC a aN)
def Jx(a:D4):D4:=cT<|aC a aN
def Jj(a b:D4):D4:=cT<|aC a<|aC b aN
def Jw(a b c:D4):D8:=(aC a<|aC b<|aC c aN)
def Jy(a b c:D4):D4:=cT<|aC a<|aC b<|aC c aN
def Jl(a b c d:D4):D8:=(aC a<|aC b<|aC c<|aC d aN)
def Js(a b c d:D4):D4:=cT<|aC a<|aC b<|aC c<|aC d aN
def Jz(a b c d e:D4):D8:=(aC a<|aC b<|aC c<|aC d<|aC e aN)
def Y4(a b c d e:D4):D4:=cT<|aC a<|aC b<|aC c<|aC d<|aC e aN
def J5(a:D4):D3:=sQ (sR a) sN
def Jb(a:D3):D3:=sQ a sN
def Ja(t:TTx Prop)(a:D3):D3:=sI t a sN
def bdH:D3:=(sQ (sA 4<|J2 (.add false) (J2 .mul (Jd 100) J1) J8)<|sQ (sA 5<|Jk 35 J0 Ya)<|Jb<|sI (Jf Jc Ji) (Jb<|sE<|cBM "list" .app J7<|Jp<|Js (J3 "start") (Jk 35 J0<|Jd 50) (Jj (J3 "number") Jg) Jr)<|Jb<|sI (Jf Jc Jg) (Jb<|sE<|cBM "list" .app J7<|Jp<|Jy (J3 "read") J9<|Jk 35 J0<|Jd 50)<|Jb<|sI (Jf Jc Jq) (Jb<|sE<|cBM "list" .app J7<|Jp<|Y4 (J3 "set") J9 (Jk 35 J0<|Jd 50) (Jj (J3 "name")<|Jd 51) Y2)<|Jb<|sI (tAn (Jf Jc Jr)<|tB<|J2 .gt J1 Ji) (Jb<|sE<|cBM "list" .app J7<|Jp<|cT<|aC (J3 "if")<|Jz J9 (Jj (J3 "name")<|Jd 52) (Jk 49 J0<|J2 .sub J1 Jg) (Jk 49 J0<|J2 .sub J1 Jg) Jv)<|Jb<|sI (tAn (Jf Jc Y2)<|tB<|J2 .gt J1 Ji) (Jb<|sE<|cBM "list" .app J7<|Jp<|Y4 (J3 "func") J9 (Jx<|Jd 53) (Jk 49 J0<|J2 .sub J1 Jg) Y6)<|Jb<|sI (tAn (Jf Jc Jv)<|tB<|J2 .gt J1 Ji) (Jb<|sE<|cBM "list" .app J7<|Jp<|cT<|aC (J3 "try")<|aC J9<|Jz (Jk 49 J0<|J2 .sub J1 Jg) (J3 "a") (Jd 54) (Jk 49 J0<|J2 .sub J1 Jg) Ya)<|Jb<|Ja (tB<|J2 .gt J1 Ji)<|sQ (sA 6<|Jk 49 J0<|J2 .sub J1 Jg)<|Jb<|sE<|cBM "list" .app J7<|Jp<|cT<|aC (J3 "match")<|aC J9<|aC (Jj (J3 "number") Ji)<|Jz (J3 "b") (Jj (Jd 55)<|Jd 56) Jh (Jk 49 J0<|J2 .sub J1 Jg)<|Jd 8)
def bdL:D3:=(Jb<|Ja (tOr' (tB<|J6 (.isT "bool") J9)<|tNt<|tB<|J6 (.isT "int") J9)<|J5<|cC<|.bl false)
def bdR:D3:=(sQ (sA 3<|Je 2 J0)<|sQ (Ja (tOr' (tNt<|tB<|J6 (.isT "list") J8)<|tB<|J2 .ne J8 J1)<|J5<|cC<|.bl false)<|sQ (sFL J8 [4] bdL)<|Jb<|sE<|cBM "list" .app J8<|Jp Ji)
def zH4:D3:=sQ (sA 9<|J2 (.add false) J7<|Jk 5 Jc<|J6 .len Jc)<|Jb<|sE<|cBM "list" .app Jc<|Jp<|cM "Checker" "check_thing" 15 J0 (Jl Jt Y0 Y3 J8) []
def zFf:D3:=(sQ (sA 13<|Js (J3 "call") (J4 Jh<|Jd 9) (Jy (J3 "name") (J4 Jh<|Jd 10) J9)<|Jx<|Jy (J3 "number") (J4 Jh<|Jd 11)<|Jk 35 J0<|Jd 8)<|sQ (sA 11<|Js (J3 "do") (Je 36 J0) (Js (J3 "set") (Je 36 J0) J9 Y8) Yb)<|J5<|Y4 (J3 "let") (J4 Jh<|Jd 12) J9 (Jy (J3 "number") (J4 Jh<|Jd 13) Ji) Y7)
def zFg:D3:=(sQ (sA 12<|Js (J3 "fn") (J4 Jh Y6) (Jx Jc)<|Y4 (J3 "if") (J4 Jh Ya) (Jy (J3 "name") (J4 Jh<|Jd 8) Jc) Y7 Y3) zFf)
def rz3:D3:=(sA 11<|Js (J3 "do") (J4 Jh Jr) Y0<|Js (J3 "call") (J4 Jh Y2) (Jy (J3 "name") (J4 Jh Jv) J9)<|Jx Y9)
def zFh:D3:=(sQ rz3 zFg)
def rz4:D3:=(sA 10<|Y4 (J3 "math") (J4 Jh Ji) (J3 "sub") (Jy (J3 "name") (J4 Jh Jg) Jc)<|Jy (J3 "number") (J4 Jh Jq) Jg)
def zJy:D3:=(sQ rz4 zFh)
def zD6:D3:=(sQ (Ja (tAn (tB<|J2 .lt J9<|Jd 14)<|tB<|J2 .gt J8 Jr)<|J5<|Jo 44<|Jl J0 J1 J7 J8)<|J5<|Jo 43<|Jz J0 J1 J7 (J2 .sub J8 Jg)<|J2 .mod (J2 .sub J9<|Jd 10)<|Jd 12)
def zIg:D3:=(sQ (Ja (tB<|J2 .lt J9<|Jd 10)<|J5<|Jo 41<|Jz J0 J1 J7 (J2 .sub J8 Jg)<|J4 (cP (.lst false)<|aC Jg<|aC Jg<|Jz Ji Jg Jq Jr Jg)<|J2 .sub J9 Jr)<|sQ (Ja (tAn (tB<|J2 .lt J9<|Jd 12)<|tAn (tB<|J2 .gt J8 Ya)<|tB<|J2 .gt (J4 J0<|J3 "parts")<|Jd 20)<|J5<|Jo 40<|Jl J0 J1 J7 J8) zD6)
def zIh:D3:=(sQ (sA 3<|Jk 35 J0<|Jd 10)<|sQ (Ja (Jf J8<|Jd 9)<|Jb<|sA 3<|J2 .sub (Jk 35 J0<|J2 .pow (Jd 10)<|Jd 12)<|Jk 35 J0<|J2 .pow (Jd 10)<|Jd 12)<|J5<|Jy (J3 "number") J7 J8)
def zJa:D3:=(sQ (sP .seti (J4 J1<|J2 .mod (J2 (.add false) (J2 .fdiv J0<|Jd 512)<|J2 .mul Jr J9)<|Jd 26)<|zAw Jc J8)<|Jb<|sE<|cBM "list" .app Jh<|Jp<|cBM "str" .join (J3 "")<|Jp Jc)
def zHb:D3:=(sQ (sA 7<|Jo 45<|Jl J0 J1 J7 J8)<|sQ (Ja (Jf J9 Jr)<|J5<|Js (J3 "raise") Jc (Je 42 J0) Jt)<|sQ (Ja (Jf J9 Y2)<|J5<|Js (J3 "call") Jc Jt<|Jo 38<|Jl J0 J1 J7 J8)<|sQ (Ja (Jf J9 Jv)<|J5<|Jy (J3 "tell") Jc Jt)<|sQ (sA 8<|Jo 45<|Jl J0 J1 J7 J8)<|sQ (Ja (Jf J9 Y6)<|J5<|Y4 (J3 "if") Jc Jt Y0<|Jo 45<|Jl J0 J1 J7 J8)<|sQ (Ja (tB<|J2 .lt J9<|Jd 9)<|J5<|Y4 (J3 "math") Jc (J4 (cP (.lst false)<|Jz (J3 "add") (J3 "sub") (J3 "mul") (J3 "less")<|J3 "same")<|Jk 35 J0 Jv) Jt Y0)<|J5<|Js (J3 "do") Jc Jt Y0)
def bdT:D3:=(Jb<|sP .seti (J4 J0 Jg)<|zAw Jc Jh)
def bdP:D3:=(Jb<|sE<|Jo 21<|Jw Jt Jc J7)
def zKj:D3:=(sQ (sA 5<|J6 .dctOf J1)<|sQ (sF (J6 .seq<|Jk 5 J0 J8) [6] true bdT)<|Jb<|sI (Jf J9<|J3 "part") (Jb<|sE<|Jo 21<|Jw (J4 J0 J8) Jc J7)<|Jb<|Ja (Jf J9<|J3 "parts")<|Jb<|sF (J6 .seq<|J4 J0 J8) [7] true bdP)
def zJb:D3:=(sQ (sA 9<|cM "Namer" "new_name" 23 J0 (Jp J8) [])<|sQ (sE<|cBM "list" .app Jt<|Jp Y3)<|Jb<|sP .seti (Jj (Jj (J3 "name") Y3)<|cB<|tB<|J2 .inn (Jj J8 Y0)<|Y5 "set_ones" J0)<|zAw Jh Y0)
def zHa:D3:=(sQ (sA 13<|J6 .dctOf J7)<|sQ (sP .seti (Jj Y9 Y7)<|zAw Yb Jt)<|J5<|cM "Namer" "atom_of" 25 J0 (Jl Y3 Yb J8 J9) [])
def zJx:D3:=(sQ (sA 11<|cB<|tB<|J2 .inn (Jj Jh Jt)<|Y5 "set_ones" J0)<|sQ (Ja (tB<|J6 .tru Y7)<|sQ (sA 12<|cM "Namer" "new_name" 23 J0 (Jp Jh) [])<|sQ (sE<|cBM "list" .app J9<|Jp<|Js (J3 "start") Y8 Y9 Jh)<|Jb<|sA 10<|Jj (J3 "name") Y8) zHa)
def zHd:D3:=(sQ (sA 9<|cM "Namer" "new_name" 23 J0 (Jp<|J4 J1 Jg) [])<|sQ (sE<|cBM "list" .app J9<|Jp<|J2 (.add false) (Jj Jt Y3) Y0)<|J5<|Jj (J3 "name") Y3)
def zHc:D3:=(sQ (sI (tB<|J2 .inn Jc<|Js (J3 "fn") (J3 "if") (J3 "match")<|J3 "try") (Jb<|sU [7,8]<|cM "Namer" "outer_step" 28 J0 (Jl J1 Jh J7 J8) [])<|Jb<|sU [7,8]<|Jo 30<|Jl J1 Jh J7 J8) zHd)
def rz1:D3:=(sQ (sA 2<|J2 .mod (J4 J0<|J3 "number") J1)<|sQ (sP .seti (J2 .fdiv (J4 J0<|J3 "number") J1)<|zAw J0<|J3 "number")<|J5 J7)
def rz2:D3:=(sQ (Ja (Jf (Jk 35 J0 Jq) Jg)<|Jb<|sA 9<|Js (J3 "do") (Je 36 J0) Y3<|Jo 45<|Jl J0 J1 (J2 (.add false) J7<|J6 (.lst false) J9)<|J2 .sub J8 Jr)<|J5<|Y4 (J3 "let") Jt J9 Jh Y3)
def rz5:D3:=(sQ (sA 3<|Jo 34<|Jl (Jk 32 J0 Jq) J7 J1<|J2 .fdiv (Jk 32 J0 Jg) Jq)<|J5<|Jo 45<|Jl J8 (Je 33<|Jk 32 J0 Ji) (cP (.lst false) aN)<|Jd 14)
def rz6:D3:=(sQ (Ja (Jf J9 Ji)<|J5<|Js (J3 "fn") Jc Jh<|Jo 45<|Jl J0 J1 (J2 (.add false) J7<|J6 (.lstOf false) Jh) J8)<|sQ (Ja (Jf J9 Jg)<|sQ (sA 8<|Jo 45<|Jl J0 J1 J7 J8)<|J5<|Y4 (J3 "let") Jc Jt Y0<|Jo 45<|Jl J0 J1 (J2 (.add false) J7<|J6 (.lst false) Jt) J8)<|sQ (sA 9<|Je 42 J0)<|sQ (sA 8<|Jo 45<|Jl J0 J1 J7 J8)<|sQ (Ja (Jf J9 Jq)<|sQ (sA 10<|Jo 45<|Jl J0 J1 (J2 (.add false) J7<|J6 (.lstOf false) Jh) J8)<|J5<|cT<|aC (J3 "match")<|aC Jc<|Jz Y0 Y3 Jh Y9<|Jo 45<|Jl J0 J1 J7 J8)<|J5<|cT<|aC (J3 "try")<|Jz Jc Y0 Y3 Jt<|Jo 45<|Jl J0 J1 (J2 (.add false) J7<|J6 (.lst false) Jt) J8)
def rz7:D3:=(Ja (tB<|J2 .inn (J4 J7 Ji)<|J2 (.lst false) (J3 "read")<|J3 "set")<|Jb<|sE<|cBM "list" .app J1<|Jp<|J4 J7 Jq)
def rz8:D3:=(sQ (sA 3<|J4 (J4 (J4 J1 J7) Jg) Ji)<|sQ (sF (J6 .seq J8) [4] true<|Jb<|sE<|cBM "list" .ext J1<|Jp<|Je 0 J9)<|Jb<|sA 2<|J2 (.add false) J7 Jg)
def rz9:D3:=(sI (Jf (J4 J9 Ji)<|J3 "start") (Jb<|sP .seti (cC<|.bl true)<|zAw J1<|J4 J9 Jg)<|Jb<|Ja (tB<|J2 .inn (J4 J9 Ji)<|Jj (J3 "read")<|J3 "set")<|Jb<|sP .seti (cC<|.bl true)<|zAw J1<|J4 J9 Jq)
def t0:D3:=(sQ (sA 1<|J4 J0 Ji)<|sQ (Ja (Jf J1<|J3 "func")<|J5<|J6 (.lst false)<|Jj (J4 J0 Jq)<|J4 J0 Jr)<|sQ (Ja (Jf J1<|J3 "if")<|J5<|J2 (.lst false) (Jj (cT aN)<|J4 J0 Jr)<|Jj (cT aN)<|J4 J0 Y2)<|sQ (Ja (Jf J1<|J3 "match")<|J5<|J2 (.lst false) (Jj (J4 J0 Y2)<|J4 J0 Jv)<|Jj (cT aN)<|J4 J0 Y6)<|sQ (Ja (Jf J1<|J3 "try")<|J5<|J2 (.lst false) (Jj (cT aN)<|J4 J0 Jq)<|Jj (Jx<|J4 J0 Y2)<|J4 J0 Jv)<|J5<|cP (.lst false) aN)
noncomputable def Y1(x q:Str)(i:Nat)(s:Stmt)(ps b a:C5)(t:D3):Fx.Row:=⟨x,q,i,s,ps,ps++b,a,t⟩
noncomputable def Jm(x:Str):Nat->Stmt->C5->C5->C5->D3->Fx.Row:=Y1 x x
noncomputable def r0:Fx.Row:=Jm "inner" 0 (top 1) ["step"] ["word"] [] t0
def t1:D3:=(sQ (sA 1<|J6 (.lst true)<|Jj (cT aN) J0)<|sQ (sA 2 Ji)<|sQ (sW (tB<|J2 .lt J7<|J6 .len J1) rz8)<|J5 J1)
noncomputable def r1:Fx.Row:=Jm "bodies_in" 1 (top 2) ["body"] ["found","at","steps","step"] ["found"] t1
def t2:D3:=(sQ (sA 1<|cP (.dct []) aN)<|sQ (sF (J6 .seq<|Je 1 J0) [2,3] false<|Jb<|sF (J6 .seq<|J4 J8 Ji) [4] true<|Jb rz9)<|J5<|J6 (.srt true) J1)
noncomputable def r2:Fx.Row:=Jm "set_names" 2 (top 4) ["body"] ["found","names","within","step"] ["found","^"] t2
def t3:D3:=(J5<|cB<|tAn (tB<|J6 (.isT "int") J0)<|tNt<|tB<|J6 (.isT "bool") J0)
noncomputable def r3:Fx.Row:=Jm "is_number" 3 (top 9) ["thing"] [] [] t3
def t4:D3:=(J5<|cIf (tB<|J6 (.isT "str") J0) (J2 .get1 (cC ik) J0)<|cC .non)
noncomputable def r4:Fx.Row:=Jm "form_of" 4 (top 20) ["kind"] [] [] t4
def t5:D3:=(sQ (sU [2,3]<|cP .get2<|Jw (cC gP) (J4 J0 Ji)<|Jj (cC .non)<|cC .non)<|sQ (Ja (tB<|J2 .ne J1 J8)<|J5<|cT aN)<|sQ (sA 4<|J4 J0 J7)<|J5<|cIf (tB<|J6 (.isT "tuple") J9) J9<|Jx J9)
noncomputable def r5:Fx.Row:=Jm "told_anew" 5 (top 21) ["part","index"] ["names_at","scope_at","names"] [] t5
def t6:D3:=(sQ (sA 1<|J4 J0 Ji)<|sQ (Ja (Jf J1<|J3 "call")<|J5<|J2 (.add false) (Jx<|J4 J0 Jq)<|J4 J0 Jr)<|sQ (Ja (Jf J1<|J3 "math")<|J5<|J2 (.sl false true false) J0 Jr)<|sQ (Ja (Jf J1<|J3 "make")<|J5<|J4 J0 Jr)<|sQ (Ja (tB<|J2 .inn J1<|Jj (J3 "set")<|J3 "raise")<|J5<|Jx<|J4 J0 Jr)<|sQ (Ja (tB<|J2 .inn J1<|Jy (J3 "if") (J3 "match")<|J3 "tell")<|J5<|Jx<|J4 J0 Jq)<|J5<|cT aN)
noncomputable def r6:Fx.Row:=Jm "parts_ahead" 6 (top 22) ["part"] ["kind"] [] t6
def t7:D3:=(sQ (Ja (tOr' (tNt<|tB<|J6 (.isT "str") J0)<|tNt<|tCh .le .le Jg (J6 .len J0)<|Jd 8)<|J5<|cC<|.bl false)<|J5<|J6 .all<|cL (J6 .seq J0) [1] true 2 [] none<|cB<|tB<|J2 .inn J1<|J3 "abcdefghijklmnopqrstuvwxyz")
noncomputable def r7:Fx.Row:=Jm "is_word" 7 (top 23) ["thing"] [] [] t7
def t8:D3:=(J5<|cB<|tAn (tB<|Je 7 J0)<|tB<|J2 .nin J0<|cC<|.kt [(.str "fn"),(.str "call"),(.str "let"),(.str "set"),(.str "do"),(.str "if"),(.str "add"),(.str "sub"),(.str "mul"),(.str "less"),(.str "same"),(.str "make"),(.str "match"),(.str "raise"),(.str "try"),(.str "tell"),(.str "ask")])
noncomputable def r8:Fx.Row:=Jm "is_name" 8 (top 24) ["thing"] [] [] t8
def t9:D3:=(J5<|cB<|tAn (tB<|Je 3 J0)<|tCh .le .le Ji J0<|Jd 599)
noncomputable def r9:Fx.Row:=Jm "is_place" 9 (top 25) ["thing"] [] [] t9
def t10:D3:=(J5<|cB<|tAn (tB<|Je 3 J0)<|tB<|J2 .lt (J6 .abs J0)<|J2 .pow (Jd 10)<|Jd 12)
noncomputable def r10:Fx.Row:=Jm "is_written_number" 10 (top 26) ["thing"] [] [] t10
def t11:D3:=(sQ (Ja (tB<|J6 (.isT "tuple") J0)<|J5<|J2 (.add false) (cT aN) J0)<|sQ (Ja (tB<|J6 (.isT "str") J0)<|J5<|cBM "str" .join (J3 "")<|Jp<|J6 (.lst false) J0)<|sQ (Ja (tB<|Je 3 J0)<|J5<|J6 .int1 J0)<|J5 J0)
noncomputable def r11:Fx.Row:=Jm "plain" 11 (top 27) ["thing"] [] [] t11
def t12:D3:=(Jb<|sP (.setf "places") (cP (.dct []) aN)<|Jp J0)
def r12:Fx.Row:=Y1 "__init__" "Checker.__init__" 12 (zAt (top 28) 0) ["self"] [] ["@Checker"] t12
def t13:D3:=(sQ (sA 4<|Je 11 J1)<|sQ (Ja (tOr' (tNt<|tB<|J6 (.isT "tuple") J9)<|tB<|J2 .lt (J6 .len J9) Jq)<|Jb sZ)<|sQ (sA 5<|J2 (.lst true) (Je 11<|J4 J9 Ji)<|Je 11<|J4 J9 Jg)<|sQ (sA 6<|Je 4<|J4 Jc Ji)<|sQ (Ja (tOr' (tB<|J6 .isN Jh)<|tB<|J2 .ne (J6 .len J9)<|J2 (.add false) Jq<|J6 .len Jh)<|Jb sZ)<|sQ (sE<|cM "Checker" "check_place" 14 J0 (Jp<|J4 Jc Jg) [])<|sQ (Ja (tB<|J2 .nin (J4 Jc Ji)<|Jj (J3 "number")<|J3 "name")<|Jb<|sA 3<|J2 (.add false) J8 Jg)<|sQ (Ja (tB<|J2 .gt J8<|Jd 20)<|Jb sZ)<|sQ (sF (J2 .zip Jh<|J2 (.sl false true false) J9 Jq) [7,8] false<|zH4)<|J5<|J6 .tupOf Jc)
def r13:Fx.Row:=Y1 "check_part" "Checker.check_part" 13 (zAt (top 28) 1) ["self","thing","there","within"] ["part","known","form","sort","inner","scope"] ["known","@Checker"] t13
def t14:D3:=(sQ (Ja (tOr' (tNt<|tB<|Je 9 J1)<|tB<|J2 .inn J1<|Y5 "places" J0)<|Jb sZ)<|sQ (sP .seti (cC<|.bl true)<|zAw (Y5 "places" J0) J1)<|Jb<|Ja (tB<|J2 .gt (J6 .len<|Y5 "places" J0)<|Jd 300)<|Jb sZ)
def r14:Fx.Row:=Y1 "check_place" "Checker.check_place" 14 (zAt (top 28) 2) ["self","place"] [] ["@Checker"] t14
def t15:D3:=(sQ (Ja (Jf J1<|J3 "part")<|J5<|cM "Checker" "check_part" 13 J0 (Jw J7 J8 J9) [])<|sQ (Ja (Jf J1<|J3 "parts")<|J5<|J6 .tupOf<|cL (J6 .seq<|Je 16 J7) [1] true 2 [4,3,0] none<|cM "Checker" "check_part" 13 J9 (Jw J1 J8 J7) [])<|sQ (Ja (Jf J1<|J3 "names")<|J5<|Je 17 J7)<|sQ (sA 5<|Je 11 J7)<|sQ (Ja (tNt<|tB<|Jo 18<|Jw J1 Jc J8)<|Jb sZ)<|J5 Jc)
def r15:Fx.Row:=Y1 "check_thing" "Checker.check_thing" 15 (zAt (top 28) 3) ["self","sort","thing","there","within"] ["single"] ["@Checker"] t15
def t16:D3:=(sQ (sA 1<|Je 11 J0)<|sQ (Ja (tOr' (tNt<|tB<|J6 (.isT "tuple") J1)<|tB<|J2 .gt (J6 .len J1) Y2)<|Jb sZ)<|J5 J1)
noncomputable def r16:Fx.Row:=Jm "checked_row" 16 (top 29) ["thing"] ["row"] [] t16
def t17:D3:=(sQ (sA 1<|J6 .tupOf<|cL (J6 .seq<|Je 16 J0) [1] true 2 [] none<|Je 11 J1)<|sQ (Ja (tOr' (tNt<|tB<|J6 .all<|cL (J6 .seq J1) [1] true 2 [] none<|Je 8 J1)<|tB<|J2 .lt (J6 .lenset J1)<|J6 .len J1)<|Jb sZ)<|J5 J1)
noncomputable def r17:Fx.Row:=Jm "checked_names" 17 (top 30) ["thing"] ["names"] [] t17
def t18:D3:=(sQ (Ja (Jf J0<|J3 "number")<|J5<|Je 10 J1)<|sQ (Ja (Jf J0<|J3 "op")<|J5<|cB<|tAn (tB<|Je 7 J1)<|tB<|J2 .inn J1<|cC<|.kt [(.str "add"),(.str "sub"),(.str "mul"),(.str "less"),(.str "same")])<|sQ (Ja (Jf J0<|J3 "word")<|J5<|Je 7 J1)<|sQ (Ja (Jf J0<|J3 "used")<|J5<|cB<|tAn (tB<|Je 8 J1)<|tB<|J2 .inn J1 J7)<|J5<|Je 8 J1)
noncomputable def r18:Fx.Row:=Jm "fits" 18 (top 31) ["sort","thing","there"] [] [] t18
def t19:D3:=(J5<|cM "Checker" "check_part" 13 (cK "Checker" 12 aN []) (Jw J0 (cT aN) Ji) [])
noncomputable def r19:Fx.Row:=Jm "checked_program" 19 (top 32) ["thing"] [] [] t19
def t20:D3:=(sQ (sA 1<|cP .dctT aN)<|sQ (sE<|Jo 21<|Jw J0 (cP (.dct []) aN) J1)<|J5 J1)
noncomputable def r20:Fx.Row:=Jm "set_bindings" 20 (top 34) ["program"] ["found"] ["#found"] t20
def t21:D3:=(sQ (Ja (Jf (J4 J0 Ji)<|J3 "set")<|Jb<|sP .seti (cC<|.bl true)<|zAw J7<|Jj (J4 J1<|J4 J0 Jq)<|J4 J0 Jq)<|Jb<|sF (J6 .enm2<|Je 4<|J4 J0 Ji) [3,4] false<|sQ (sA 5<|J6 .dctOf J1)<|sQ (sF (J6 .seq<|Jk 5 J0 J8) [6] true bdT)<|Jb<|sI (Jf J9<|J3 "part") (Jb<|sE<|Jo 21<|Jw (J4 J0 J8) Jc J7)<|Jb<|Ja (Jf J9<|J3 "parts")<|Jb<|sF (J6 .seq<|J4 J0 J8) [7] true bdP)
noncomputable def r21:Fx.Row:=Jm "find_sets" 21 (top 35) ["part","scope","found"] ["index","sort","grown","name","one"] ["found","grown"] t21
def t22:D3:=(sQ (sP (.setf "set_ones") (Je 20 J1)<|Jp J0)<|Jb<|sP (.setf "places") (cP (.lst true) aN)<|Jp J0)
def r22:Fx.Row:=Y1 "__init__" "Namer.__init__" 22 (zAt (top 36) 0) ["self","program"] [] ["@Namer"] t22
def t23:D3:=(sQ (sE<|cBM "list" .app (Y5 "places" J0)<|Jp J1)<|J5<|J2 .sub (J6 .len<|Y5 "places" J0) Jg)
def r23:Fx.Row:=Y1 "new_name" "Namer.new_name" 23 (zAt (top 36) 1) ["self","place"] [] ["@Namer"] t23
def t24:D3:=(sQ (sA 4<|cP (.lst true) aN)<|sQ (sA 5<|cM "Namer" "atom_of" 25 J0 (Jl J1 J7 J8 J9) [])<|J5<|Jj (J6 .tupOf J9) Jc)
def r24:Fx.Row:=Y1 "body_of" "Namer.body_of" 24 (zAt (top 36) 2) ["self","part","scope","last"] ["steps","atom"] ["steps","@Namer"] t24
def t25:D3:=(sQ (sA 5<|J4 J1 Ji)<|sQ (Ja (Jf Jc<|J3 "number")<|J5<|Jj (J3 "number")<|J4 J1 Jq)<|sQ (Ja (Jf Jc<|J3 "name")<|J5<|cM "Namer" "atom_of_name" 26 J0 (Jw J1 J7 J9) [])<|sQ (Ja (Jf Jc<|J3 "do")<|sQ (sE<|cM "Namer" "atom_of" 25 J0 (Jl (J4 J1 Jq) J7 (cC<|.bl false) J9) [])<|J5<|cM "Namer" "atom_of" 25 J0 (Jl (J4 J1 Jr) J7 J8 J9) [])<|sQ (Ja (Jf Jc<|J3 "let")<|J5<|cM "Namer" "atom_of_let" 27 J0 (Jl J1 J7 J8 J9) [])<|sQ (sA 6<|J6 .tupOf<|cL (J6 .seq<|Je 6 J1) [1] true 2 [4,0,2] none<|cM "Namer" "atom_of" 25 J8 (Jl J1 J9 (cC<|.bl false) J7) [])<|sQ (sI (tB<|J2 .inn Jc<|Js (J3 "fn") (J3 "if") (J3 "match")<|J3 "try") (Jb<|sU [7,8]<|cM "Namer" "outer_step" 28 J0 (Jl J1 Jh J7 J8) [])<|Jb<|sU [7,8]<|Jo 30<|Jl J1 Jh J7 J8) zHd)
def r25:Fx.Row:=Y1 "atom_of" "Namer.atom_of" 25 (zAt (top 36) 3) ["self","part","scope","last","steps"] ["kind","atoms","word","more","to"] ["steps","@Namer"] t25
def t26:D3:=(sQ (sU [4,5]<|J4 J7<|J4 J1 Jq)<|sQ (Ja (tNt<|tB<|J6 .tru Jc)<|J5 J9)<|sQ (sA 6<|cM "Namer" "new_name" 23 J0 (Jp<|J4 J1 Jg) [])<|sQ (sE<|cBM "list" .app J8<|Jp<|Jy (J3 "read") Jh<|J4 J9 Jg)<|J5<|Jj (J3 "name") Jh)
def r26:Fx.Row:=Y1 "atom_of_name" "Namer.atom_of_name" 26 (zAt (top 36) 4) ["self","part","scope","steps"] ["atom","is_set","to"] ["steps","@Namer"] t26
def t27:D3:=(sQ (sU [5,6,7,8,9] J1)<|sQ (sA 10<|cM "Namer" "atom_of" 25 J0 (Jl Y0 J7 (cC<|.bl false) J9) [])<|sQ (sA 11<|cB<|tB<|J2 .inn (Jj Jh Jt)<|Y5 "set_ones" J0)<|sQ (Ja (tB<|J6 .tru Y7)<|sQ (sA 12<|cM "Namer" "new_name" 23 J0 (Jp Jh) [])<|sQ (sE<|cBM "list" .app J9<|Jp<|Js (J3 "start") Y8 Y9 Jh)<|Jb<|sA 10<|Jj (J3 "name") Y8) zHa)
def r27:Fx.Row:=Y1 "atom_of_let" "Namer.atom_of_let" 27 (zAt (top 36) 5) ["self","part","scope","last","steps"] ["kind","place","name","one","other","atom","is_set","to","grown"] ["steps","grown","@Namer"] t27
def t28:D3:=(sQ (sU [5,6]<|J2 (.sl false false true) J1 Jq)<|sQ (Ja (Jf Jc<|J3 "fn")<|sQ (sU [7,8]<|cM "Namer" "bound_body" 29 J0 (Jz (J4 J1 Jq) (J4 J1 Jr) Jh J8<|cC<|.bl true) [])<|J5<|Jj (J3 "func")<|Jy Jt Y0 Jh)<|sQ (Ja (Jf Jc<|J3 "if")<|sQ (sA 10<|J6 .tupOf<|cL (J6 .seq<|J2 (.sl false true false) J1 Jr) [1] true 2 [0,3,4] none<|cM "Namer" "body_of" 24 J7 (Jw J1 J8 J9) [])<|J5<|Jj (J3 "if")<|J2 (.add false) (J2 (.add false) J7 Y9)<|Jx Jh)<|sQ (Ja (Jf Jc<|J3 "match")<|sQ (sU [11,12]<|cM "Namer" "bound_body" 29 J0 (Jz (J4 J1 Y2) (J4 J1 Jv) Jh J8 J9) [])<|J5<|Jj (J3 "match")<|J2 (.add false) J7<|Y4 (J4 J1 Jr) Y7 Y8 (cM "Namer" "body_of" 24 J0 (Jw (J4 J1 Y6) J8 J9) []) Jh)<|sQ (sA 9<|cM "Namer" "body_of" 24 J0 (Jw (J4 J1 Jq) J8<|cC<|.bl false) [])<|sQ (sU [11,13]<|cM "Namer" "bound_body" 29 J0 (Jz (Jx<|J4 J1 Y2) (J4 J1 Jv) Jh J8 J9) [])<|J5<|Jj (J3 "try")<|Y4 Y3 (J4 J1 Jr) (J4 Y7 Ji) Yb Jh)
def r28:Fx.Row:=Y1 "outer_step" "Namer.outer_step" 28 (zAt (top 36) 6) ["self","part","atoms","scope","last"] ["kind","place","params","body","one","bodies","names","yes","other"] ["@Namer"] t28
def t29:D3:=(sQ (sA 6<|J6 .dctOf J9)<|sQ (sA 7<|cP (.lst true) aN)<|sQ (sF (J6 .seq J1) [8] true zJb)<|J5<|Jj (J6 .tupOf Jt)<|cM "Namer" "body_of" 24 J0 (Jw J7 Jh Jc) [])
def r29:Fx.Row:=Y1 "bound_body" "Namer.bound_body" 29 (zAt (top 36) 7) ["self","names","part","place","scope","last"] ["grown","given","name","to"] ["given","grown","@Namer"] t29
def t30:D3:=(sQ (sU [4,5]<|J2 (.sl false false true) J0 Jq)<|sQ (Ja (Jf J9<|J3 "call")<|J5<|Jj (J3 "call")<|Js (J4 J1 Ji) (J2 (.sl false true false) J1 Jg) Jc J8)<|sQ (Ja (Jf J9<|J3 "make")<|J5<|Jj (J3 "make")<|Jy (J4 J0 Jq) J1 Jc)<|sQ (Ja (Jf J9<|J3 "set")<|J5<|Jj (J3 "set")<|J2 (.add false) (J2 (.add false) (Jx<|J4 (J4 (J4 J7<|J4 J0 Jq) Ji) Jg) J1)<|Jx Jc)<|sQ (Ja (tB<|J2 .inn J9<|Jj (J3 "math")<|J3 "raise")<|J5<|Jj J9<|J2 (.add false) (J2 (.add false) (Jx<|J4 J0 Jq) J1)<|Jx Jc)<|J5<|Jj J9<|J2 (.add false) J1<|Jx Jc)
noncomputable def r30:Fx.Row:=Jm "plain_step" 30 (top 37) ["part","atoms","scope","last"] ["kind","place"] [] t30
def t31:D3:=(sQ (sA 1<|Je 19 J0)<|sQ (sA 2<|cK "Namer" 22 (Jp J1) [])<|sQ (sA 3<|cM "Namer" "body_of" 24 J7 (Jw J1 (cP (.dct []) aN)<|cC<|.bl true) [])<|J5<|Jj J8<|J6 .tupOf<|Y5 "places" J7)
noncomputable def r31:Fx.Row:=Jm "named" 31 (top 38) ["program"] ["checked","namer","body"] [] t31
def t32:D3:=(sQ (Ja (tB<|J2 .lt J1<|J6 .len J0)<|J5<|J4 J0 J1)<|J5 Ji)
noncomputable def r32:Fx.Row:=Jm "_law_cell_at" 32 (top 40) ["_law_script","_law_k"] [] [] t32
def t33:D3:=(sQ (sA 1<|J3 "abcdefghijklmnopqrstuvwxyz")<|sQ (sA 2<|J2 (.add false) Jg<|J2 .mod J0<|Jd 8)<|sQ (sA 3<|J2 .mod (J2 .fdiv J0<|Jd 8) J7)<|sQ (sA 5<|J6 .thw<|cL (J6 .rng1 J7) [1] true 2 [1,0] none<|J4 J7<|J2 .mod (J2 (.add false) (J2 .fdiv (J2 .fdiv J8<|Jd 64)<|J2 (.add false) J1 Jg)<|J2 .mul Jv J1)<|Jd 26)<|sQ (sP .seti (J4 (J3 "gjpqvwxz")<|J2 .mod (J2 .fdiv J0<|Jd 8)<|Jd 8)<|zAw Jc<|J2 .mod (J2 (.add false) J8 Jg) J7)<|sQ (sA 6<|cP (.lst true) aN)<|sQ (sF (J6 .rng1 Jv) [4] true zJa)<|J5<|J6 .frz Jh)
noncomputable def r33:Fx.Row:=Jm "_law_words" 33 (top 41) ["_law_cell"] ["_law_letters","_law_size","_law_at","_law_k","_law_base","_law_words_here"] ["_law_base","_law_words_here","!_law_base","!_law_words_here"] t33
def t34:D3:=(sQ (sA 4<|J2 .max J0<|J2 .sub (J6 .neg Jg) J0)<|J5<|cP (.dct ["number","seed","parts","places","shift"])<|Jz J9 (J2 .mod J1<|Jd 2147483646) J7 Ji<|J2 .mod J8<|Jd 600)
noncomputable def r34:Fx.Row:=Jm "_law_state" 34 (top 42) ["_law_cell","_law_seed","_law_parts","_law_shift"] ["_law_number"] [] t34
def t35:D3:=(sQ (Ja (tAn (Jf (J4 J0<|J3 "number") Ji)<|tB<|J2 .gt (J4 J0<|J3 "seed") Ji)<|sQ (sP .seti (J2 .mod (J2 .mul (J4 J0<|J3 "seed")<|Jd 48271)<|Jd 2147483647)<|zAw J0<|J3 "seed")<|Jb<|sP .seti (J2 .mod (J2 .mul (J4 J0<|J3 "seed")<|J4 J0<|J3 "seed")<|Jd 2147483629)<|zAw J0<|J3 "number") rz1)
noncomputable def r35:Fx.Row:=Jm "_law_take" 35 (top 43) ["_law_state_here","_law_many"] ["_law_digit"] ["_law_state_here"] t35
def t36:D3:=(sQ (sP .seti (J2 (.add true) (J4 J0<|J3 "places") Jg)<|zAw J0<|J3 "places")<|sQ (sP .seti (J2 .sub (J4 J0<|J3 "parts") Jg)<|zAw J0<|J3 "parts")<|J5<|J2 .mod (J2 (.add false) (J2 .mul Ya<|J4 J0<|J3 "places")<|J4 J0<|J3 "shift")<|Jd 600)
noncomputable def r36:Fx.Row:=Jm "_law_place" 36 (top 44) ["_law_state_here"] [] ["_law_state_here"] t36
def t37:D3:=(sQ (sA 2<|Je 36 J0)<|sQ (Ja (tAn (tB<|J2 .ne J1<|cP (.lst false) aN)<|tB<|J2 .gt (Jk 35 J0 Jr) Ji)<|J5<|Jy (J3 "name") J7<|J4 J1<|Jk 35 J0<|J6 .len J1) zIh)
noncomputable def r37:Fx.Row:=Jm "_law_atom" 37 (top 45) ["_law_state_here","_law_scope"] ["_law_place_here","_law_number"] [] t37
def t38:D3:=(J5<|J6 .tupOf<|cL (J6 .rng1<|Jk 35 J0 Jv) [1] true 2 [0,2,1,3] none<|Jo 45<|Jl J7 J9 J8 Jc)
noncomputable def r38:Fx.Row:=Jm "_law_some" 38 (top 46) ["_law_state_here","_law_names","_law_scope","_law_deep"] [] [] t38
def t39:D3:=(sQ (sA 2<|Jk 35 J0<|J6 .len J1)<|sQ (sA 3<|J2 .min (Jk 35 J0 Jv)<|J6 .len J1)<|J5<|J6 .tupOf<|cL (J6 .rng1 J8) [1] true 2 [1,2] none<|J4 J7<|J2 .mod (J2 (.add false) J8 J1)<|J6 .len J7)
noncomputable def r39:Fx.Row:=Jm "_law_unlike" 39 (top 47) ["_law_state_here","_law_names"] ["_law_first","_law_many"] [] t39
def t40:D3:=(sQ (sPr 4 5 (J4 J1<|Jk 35 J0<|J6 .len J1)<|J3 "n")<|sQ (sA 6<|cL (J6 .rng1<|Jd 14) [1] true 2 [0] none<|Je 36 J7)<|sQ (sA 7<|J2 (.add false) J7<|J2 (.lst false) J9 Jc)<|sQ (sA 8<|Jo 45<|Jl J0 J1 Jt<|J2 .sub J8 Y6)<|sQ (sA 9<|Jo 45<|Jl J0 J1 Jt<|J2 .sub J8 Y6)<|sQ rz4 zFh)
noncomputable def r40:Fx.Row:=Jm "_law_loop" 40 (top 48) ["_law_state_here","_law_names","_law_scope","_law_deep"] ["_law_f","_law_n","_law_p","_law_wide","_law_body","_law_end","_law_less","_law_again","_law_step","_law_start"] [] t40
def t41:D3:=(sQ (sA 5<|Je 36 J0)<|sQ (sA 6<|Jk 39 J0 J1)<|sQ (sA 7<|J4 J1<|Jk 35 J0<|J6 .len J1) rz6)
noncomputable def r41:Fx.Row:=Jm "_law_bind" 41 (top 49) ["_law_state_here","_law_names","_law_scope","_law_deep","_law_way"] ["_law_place_here","_law_some_here","_law_one","_law_begin","_law_tag","_law_yes"] [] t41
def t42:D3:=(J5<|J4 (cP (.lst false)<|aC (J3 "kind")<|Jz (J3 "odd") (J3 "big") (J3 "a") (J3 "b")<|J3 "ab")<|Jk 35 J0 Y6)
noncomputable def r42:Fx.Row:=Jm "_law_word" 42 (top 50) ["_law_state_here"] [] [] t42
def t43:D3:=(sQ (sA 5<|Je 36 J0)<|sQ (Ja (tAn (Jf J9 Ji)<|tB<|J2 .ne J7<|cP (.lst false) aN)<|sQ (sA 6<|J4 J7<|Jk 35 J0<|J6 .len J7)<|J5<|Js (J3 "set") Jc Jh<|Jo 45<|Jl J0 J1 J7 J8)<|sQ (Ja (Jf J9 Jg)<|J5<|Js (J3 "make") Jc (Je 42 J0)<|Jo 38<|Jl J0 J1 J7 J8)<|sQ (Ja (Jf J9 Jq)<|J5<|Jj (J3 "ask") Jc) zHb)
noncomputable def r43:Fx.Row:=Jm "_law_plain" 43 (top 51) ["_law_state_here","_law_names","_law_scope","_law_deep","_law_way"] ["_law_place_here","_law_one","_law_first","_law_other"] [] t43
def t44:D3:=(sQ (sA 4<|J4 J1<|Jk 35 J0<|J6 .len J1)<|sQ (sA 5<|Jk 39 J0 J1)<|sQ (sA 6<|Js (J3 "fn") (Je 36 J0) Jc<|Jo 45<|Jl J0 J1 (J2 (.add false) J7<|J6 (.lstOf false) Jc)<|J2 .sub J8 Jr)<|sQ (sA 7<|Je 36 J0)<|sQ (sA 8<|J6 .tupOf<|cL (J6 .seq Jc) [1] true 2 [0,2,1,4,3] none<|Jo 45<|Jl J7 J9 (J2 (.add false) J8<|J6 (.lst false) Jc)<|J2 .sub Jh Jr)<|sQ (sA 9<|Js (J3 "call") (Je 36 J0) (Jy (J3 "name") (Je 36 J0) J9) Y0) rz2)
noncomputable def r44:Fx.Row:=Jm "_law_helper" 44 (top 52) ["_law_state_here","_law_names","_law_scope","_law_deep"] ["_law_f","_law_some_here","_law_wide","_law_place_here","_law_args","_law_call"] [] t44
def t45:D3:=(sQ (sA 4<|Jk 35 J0<|Jd 26)<|sQ (Ja (tOr' (tB<|J2 .lt J9 Jr)<|tOr' (tB<|J2 .le J8 Ji)<|tB<|J2 .le (J4 J0<|J3 "parts") Ji)<|J5<|Jk 37 J0 J7) zIg)
noncomputable def r45:Fx.Row:=Jm "_law_part" 45 (top 53) ["_law_state_here","_law_names","_law_scope","_law_deep"] ["_law_way"] [] t45
def t46:D3:=(sQ (sA 2 Ji)<|sQ (Ja (Jf (J2 .mod (Jk 32 J0 Jg) Jq) Jg)<|Jb<|sA 2<|J2 (.add false) Jg<|J2 .mod (Jk 32 J0 Jg)<|Jd 2147483645) rz5)
noncomputable def r46:Fx.Row:=Jm "_law_program" 46 (top 54) ["_law_script","_law_parts"] ["_law_seed","_law_state_here"] [] t46
def t47:D3:=(sQ (sA 1<|J4 J0 Ji)<|sQ (Ja (Jf J1<|J3 "func")<|J5<|J6 (.lst false)<|J4 J0 Jr)<|sQ (Ja (Jf J1<|J3 "if")<|J5<|J2 (.lst false) (J4 J0 Jr)<|J4 J0 Y2)<|sQ (Ja (Jf J1<|J3 "match")<|J5<|J2 (.lst false) (J4 J0 Jv)<|J4 J0 Y6)<|sQ (Ja (Jf J1<|J3 "try")<|J5<|J2 (.lst false) (J4 J0 Jq)<|J4 J0 Jv)<|J5<|cP (.lst false) aN)
noncomputable def r47:Fx.Row:=Jm "_law_bodies" 47 (top 55) ["_law_step"] ["_law_word_here"] [] t47
def t48:D3:=(sQ (sA 1<|cP (.lst true) aN)<|sQ (sF (J6 .seq<|J4 J0 Ji) [2] true<|sQ (Ja (Jf (J4 J7 Ji)<|J3 "start")<|Jb<|sE<|cBM "list" .app J1<|Jp<|J4 J7 Jg)<|sQ rz7<|Jb<|sF (J6 .seq<|Je 47 J7) [3] true<|Jb<|sE<|cBM "list" .ext J1<|Jp<|Je 48 J8)<|J5 J1)
noncomputable def r48:Fx.Row:=Jm "_law_meant" 48 (top 56) ["_law_body"] ["_law_found","_law_step","_law_one"] ["_law_found"] t48
def t49:D3:=(sQ (sA 2<|cP (.lst true) aN)<|sQ (sF (J6 .rng1<|Jk 35 J0 Ya) [3] true bdH)<|J5<|Jj (J6 .tupOf J7)<|Jj (J3 "name")<|Jd 57)
noncomputable def r49:Fx.Row:=Jm "_law_hand" 49 (top 57) ["_law_state_here","_law_deep"] ["_law_steps","_law_k","_law_to","_law_way","_law_one"] ["_law_steps"] t49
def t50:D3:=(sQ (sA 1<|J6 .srs<|Je 48 J0)<|sQ (sF (J6 .rng1 Jq) [2] true<|sQ (sA 3<|Je 2 J0)<|sQ (Ja (tOr' (tNt<|tB<|J6 (.isT "list") J8)<|tB<|J2 .ne J8 J1)<|J5<|cC<|.bl false)<|sQ (sFL J8 [4] bdL)<|Jb<|sE<|cBM "list" .app J8<|Jp Ji)<|J5<|cC<|.bl true)
noncomputable def r50:Fx.Row:=Jm "_law_right" 50 (top 58) ["_law_body"] ["_law_due","_law_again","_law_found","_law_name"] ["_law_found","~_law_found"] t50
def t51:D3:=(sQ (sA 1<|J4 (Je 31<|Jk 46 J0<|Jd 80) Ji)<|sQ (sA 2<|Jo 34<|Jl (Jk 32 J0 Jr) (J2 (.add false) Jg<|J2 .mod (Jk 32 J0 Y2)<|Jd 2147483645) Jg Ji)<|sQ (sA 3<|Jk 49 J7 Jr)<|J5<|cB<|tAn (tB<|Je 50 J8)<|tAn (tB<|Je 50 J1)<|tB<|Je 50<|Jj (cT aN)<|Jj (J3 "number") Jr)
noncomputable def r51:Fx.Row:=Jm "law" 51 (top 59) ["_law_script"] ["_law_body","_law_state_here","_law_hand_here"] [] t51
def rows:B7 Fx.Row:=[r0,r1,r2,r3,r4,r5,r6,r7,r8,r9,r10,r11,r12,r13,r14,r15,r16,r17,r18,r19,r20,r21,r22,r23,r24,r25,r26,r27,r28,r29,r30,r31,r32,r33,r34,r35,r36,r37,r38,r39,r40,r41,r42,r43,r44,r45,r46,r47,r48,r49,r50,r51]
def tab:Nat->B8 De:=zFi rows
def zHe:∀r∈rows,zEv tb tab r:=by
 repeat' first|exact alln|refine allc (zJz (by kernel_rfl) (by kernel_rfl)<|by kernel_rfl) ?_
def bd1{r:Fx.Row}(i:r.ps.length=1)(h:∀(kV a pm:B9)(k:B8 C3)(b ct c:B9),bindArgs (PySem.W.fnOf r.x r.qual (zAr r.st) (zAk r.st) (zAd r.st) .none kV a pm k b ct) ⟨[c],[]⟩=pure (r.ps.zip [c]):=by intros;rfl):BdC r:=λ_ _ _ _ _ _ us hl=>by
 let⟨_,rfl⟩:=zI1<|hl.trans i;exact h ..
def bd2{r:Fx.Row}(k:r.ps.length=2)(h:∀(kV a pm:B9)(l:B8 C3)(b ct i c:B9),bindArgs (PySem.W.fnOf r.x r.qual (zAr r.st) (zAk r.st) (zAd r.st) .none kV a pm l b ct) ⟨[i,c],[]⟩=pure (r.ps.zip [i,c]):=by intros;rfl):BdC r:=λ_ _ _ _ _ _ us hl=>by
 let⟨_,_,rfl⟩:=zI0<|hl.trans k;exact h ..
def bd3{r:Fx.Row}(l:r.ps.length=3)(h:∀(kV a pm:B9)(m:B8 C3)(b ct k i c:B9),bindArgs (PySem.W.fnOf r.x r.qual (zAr r.st) (zAk r.st) (zAd r.st) .none kV a pm m b ct) ⟨[k,i,c],[]⟩=pure (r.ps.zip [k,i,c]):=by intros;rfl):BdC r:=λ_ _ _ _ _ _ us hl=>by
 let⟨_,_,_,rfl⟩:=zIz<|hl.trans l;exact h ..
def bd4{r:Fx.Row}(m:r.ps.length=4)(h:∀(kV a pm:B9)(n:B8 C3)(b ct l k i c:B9),bindArgs (PySem.W.fnOf r.x r.qual (zAr r.st) (zAk r.st) (zAd r.st) .none kV a pm n b ct) ⟨[l,k,i,c],[]⟩=pure (r.ps.zip [l,k,i,c]):=by intros;rfl):BdC r:=λ_ _ _ _ _ _ us hl=>by
 let⟨_,_,_,_,rfl⟩:=zIy<|hl.trans m;exact h ..
def bd5{r:Fx.Row}(n:r.ps.length=5)(h:∀(kV a pm:B9)(o:B8 C3)(b ct m l k i c:B9),bindArgs (PySem.W.fnOf r.x r.qual (zAr r.st) (zAk r.st) (zAd r.st) .none kV a pm o b ct) ⟨[m,l,k,i,c],[]⟩=pure (r.ps.zip [m,l,k,i,c]):=by intros;rfl):BdC r:=λ_ _ _ _ _ _ us hl=>by
 let⟨_,_,_,_,_,rfl⟩:=zIx<|hl.trans n;exact h ..
def bd6{r:Fx.Row}(o:r.ps.length=6)(h:∀(kV a pm:B9)(p:B8 C3)(b ct n m l k i c:B9),bindArgs (PySem.W.fnOf r.x r.qual (zAr r.st) (zAk r.st) (zAd r.st) .none kV a pm p b ct) ⟨[n,m,l,k,i,c],[]⟩=pure (r.ps.zip [n,m,l,k,i,c]):=by intros;rfl):BdC r:=λ_ _ _ _ _ _ us hl=>by
 let⟨_,_,_,_,_,_,rfl⟩:=zJ6<|hl.trans o;exact h ..
section
variable{K:xFr}{f C:C3}{oc kV dc pm cd ct mc:B9}{od an:B8 C3}{sl:Array<|B8 B9}{nm q:Str}{st:Stmt}
def csr(o:PySem.W.nsIn K mainGlobals nm=some (some<|.ref C))(n:PySem.W.plainGet K C Str.empty=true)(m:PySem.W.hasDictIn K C=true)(l:PySem.W.plainOver K C=true)(k:PySem.W.findIn K (.ref C) "__setattr__"=some (some<|.builtin "object.__setattr__"))(i:PySem.W.makesIn K C=true)(c:PySem.W.keepIn K (.ref C)=true)(b:PySem.W.findIn K (.ref C) "__class__"=some (some<|.builtin "object.__class__"))(a:PySem.W.mroIn K C (.type "object")=some true):CsR K C nm:=⟨o,⟨n,m,l,k⟩,i,c,b,a⟩
def TxA(K:xFr)(t:C3)(xs:B7 V):Prop:=∀H,SqT K H t xs
def tup_is{t:C3}{d:B8 C3}{its:Array B9}{n:Nat}{sl:Array<|B8 B9}{xs:B7 V}(h:K.lookup t=some ⟨.type "tuple",d,.seq its n,sl⟩)(b:its.size<=1000)(a:zAg xs its.toList):TxA K t xs:=λH=>.inr ⟨_,its,n,h,rfl,rfl,zFy (),a⟩
def ktS{l:C5}(h:TxA K C<|l.map V.str)(W:Wd):Rv (mkB K mg cls kds) W (.kt<|l.map U.str)<|.ref C:=xY (B:=mkB K mg cls kds) h W
def ktI{l:C8}(h:TxA K C<|l.map V.int)(W:Wd):Rv (mkB K mg cls kds) W (.kt<|l.map U.int)<|.ref C:=xZ (B:=mkB K mg cls kds) h W
end
noncomputable def cl8(cChecker cNamer:C3):B7<|Str×C3:=[("Checker",cChecker),("Namer",cNamer)]
def mr{r:Fx.Row}(i:Nat)(h:rows[i]?=some r):r∈rows:=xAc h
def all_mk{l:PySem.W.OpenLaw}{w:World}{K:xFr}{h:Heap}{fa c aC bi aq b aW aU aX aV aT aS aP aY aR aQ aI aO aH aL aN k aK aJ aG aM:C3}(X:K.In h)(G:h.Ns mainGlobals mg)(O:mg "law"=some (.ref fa)){ah:Tok}{af:Tok}{ab:Tok}{ag:Tok}{bH:Tok}{ai:Array DictEntry}{bl:Nat}{ad:Array DictEntry}{bh:Nat}(n:CsR K c "Checker")(aj:zDk K c fls=true)(m:CsR K aC "Namer")(ba:zDk K aC fls=true)(bk:zCh K "int" (cl8 c aC)=true)(bX:zCh K "bool" (cl8 c aC)=true)(bm:zCh K "str" (cl8 c aC)=true)(a5:zCh K "tuple" (cl8 c aC)=true)(bW:zCh K "list" (cl8 c aC)=true)(bp:mgB K bls=true)(hn_:W.specialIn K (.builtin "object.__class__") "__get__"=some (some<|.builtin "getset_descriptor.__get__"))(ht_:W.takesIn K (.builtin "object.__class__")=some true)(d0:DnR K r0)(d1:DnR K r1)(d2:DnR K r2)(d3:DnR K r3)(d4:DnR K r4)(d5:DnR K r5)(d6:DnR K r6)(d7:DnR K r7)(d8:DnR K r8)(d9:DnR K r9)(d10:DnR K r10)(d11:DnR K r11)(d12:MdR K c r12)(d13:MdR K c r13)(d14:MdR K c r14)(d15:MdR K c r15)(d16:DnR K r16)(d17:DnR K r17)(d18:DnR K r18)(d19:DnR K r19)(d20:DnR K r20)(d21:DnR K r21)(d22:MdR K aC r22)(d23:MdR K aC r23)(d24:MdR K aC r24)(d25:MdR K aC r25)(d26:MdR K aC r26)(d27:MdR K aC r27)(d28:MdR K aC r28)(d29:MdR K aC r29)(d30:DnR K r30)(d31:DnR K r31)(d32:DnR K r32)(d33:DnR K r33)(d34:DnR K r34)(d35:DnR K r35)(d36:DnR K r36)(d37:DnR K r37)(d38:DnR K r38)(d39:DnR K r39)(d40:DnR K r40)(d41:DnR K r41)(d42:DnR K r42)(d43:DnR K r43)(d44:DnR K r44)(d45:DnR K r45)(d46:DnR K r46)(Z:DnR K r47)(Y:DnR K r48)(T:DnR K r49)(R:DnR K r50)(t:DnR K r51)(ae:W.nsIn K mainGlobals "MOST_PARTS"=some (some<|.int 300 ah))(aa:W.nsIn K mainGlobals "MOST_WITHIN"=some (some<|.int 20 af))(aZ:W.nsIn K mainGlobals "MOST_IN_ROW"=some (some<|.int 4 ab))(ac:W.nsIn K mainGlobals "LAST_PLACE"=some (some<|.int 599 ag))(au:W.nsIn K mainGlobals "LETTERS"=some (some<|.str "abcdefghijklmnopqrstuvwxyz" bH))(bn:W.nsIn K mainGlobals "OPS"=some (some<|.ref bi))(bo:TxA K bi<|(["add","sub","mul","less","same"]:C5).map V.str)(bU:W.nsIn K mainGlobals "HEADS"=some (some<|.ref aq))(bj:TxA K aq<|(["fn","call","let","set","do","if","add","sub","mul","less","same","make","match","raise","try","tell","ask"]:C5).map V.str)(bV:W.nsIn K mainGlobals "FORMS"=some (some<|.ref b))(bd:K.lookup b=some ⟨.type "dict",none,.dict ai bl,#[]⟩)(bR:PySem.W.KeysLit w.params ai.toList)(bY:(b==sysModules)=false)(bO:nsB K b cI=true)(bJ:W.nsIn K b "number"=some (some<|.ref aW))(bQ:TxA K aW<|(["number"]:C5).map V.str)(ay:W.nsIn K b "name"=some (some<|.ref aU))(bS:TxA K aU<|(["used"]:C5).map V.str)(bA:W.nsIn K b "fn"=some (some<|.ref aX))(bg:TxA K aX<|(["names","part"]:C5).map V.str)(a7:W.nsIn K b "call"=some (some<|.ref aV))(bP:TxA K aV<|(["part","parts"]:C5).map V.str)(a0:W.nsIn K b "let"=some (some<|.ref aT))(be:TxA K aT<|(["name","part","part"]:C5).map V.str)(bB:W.nsIn K b "set"=some (some<|.ref aS))(bf:TxA K aS<|(["used","part"]:C5).map V.str)(az:W.nsIn K b "do"=some (some<|.ref aP))(bb:TxA K aP<|(["part","part"]:C5).map V.str)(bF:W.nsIn K b "if"=some (some<|.ref aY))(bc:TxA K aY<|(["part","part","part"]:C5).map V.str)(a1:W.nsIn K b "math"=some (some<|.ref aR))(bZ:TxA K aR<|(["op","part","part"]:C5).map V.str)(a3:W.nsIn K b "make"=some (some<|.ref aQ))(bT:TxA K aQ<|(["word","parts"]:C5).map V.str)(ap:W.nsIn K b "match"=some (some<|.ref aI))(a8:TxA K aI<|(["part","word","names","part","part"]:C5).map V.str)(ak:W.nsIn K b "raise"=some (some<|.ref aO))(a2:TxA K aO<|(["word","part"]:C5).map V.str)(av:W.nsIn K b "try"=some (some<|.ref aH))(bG:TxA K aH<|(["part","word","name","part"]:C5).map V.str)(al:W.nsIn K b "tell"=some (some<|.ref aL))(a6:TxA K aL<|(["part"]:C5).map V.str)(aw:W.nsIn K b "ask"=some (some<|.ref aN))(a9:TxA K aN<|([]:C5).map V.str)(bC:W.nsIn K mainGlobals "SCOPES"=some (some<|.ref k))(bE:K.lookup k=some ⟨.type "dict",none,.dict ad bh,#[]⟩)(bD:PySem.W.KeysLit w.params ad.toList)(bI:(k==sysModules)=false)(bK:nsB K k du=true)(am:W.nsIn K k "fn"=some (some<|.ref aK))(bN:TxA K aK<|([2,3]:C8).map V.int)(ao:W.nsIn K k "let"=some (some<|.ref aJ))(a4:TxA K aJ<|([2,4]:C8).map V.int)(ar:W.nsIn K k "match"=some (some<|.ref aG))(bL:TxA K aG<|([4,5]:C8).map V.int)(ax:W.nsIn K k "try"=some (some<|.ref aM))(bM:TxA K aM<|([4,5]:C8).map V.int)(bq:∀ns:C8,ns.length<=63->(zA2 ups tab fw<|d+1).call 51 [.kl<|ns.map U.int] [] (λ_ _=>False) (λv _=>v=.bl true))
  :∃C:FuncData,(∀(s:B')(v:B9),BindsTo s C ⟨[v],[]⟩ [("_law_script",v)])/\∀a:Heap,K.In a->a.Ns mainGlobals mg->zBb l.prog w K mg a (CXz l.prog w) (2*(d+1)+1) fa C ["_law_script"] (zDi K 63):=by
 have L:∀a,∀p∈gls,zD1 l.prog w a (mkB K mg (cl8 c aC) [(b,cn,cI),(k,cW,du)]) ups tb rows p:=λa=>(allc (ce X G d0 (mr 0 rfl)<|bd1 rfl)
   (allc (ce X G d1 (mr 1 rfl)<|bd1 rfl)
   (allc (ce X G d2 (mr 2 rfl)<|bd1 rfl)
   (allc (ce X G d3 (mr 3 rfl)<|bd1 rfl)
   (allc (ce X G d4 (mr 4 rfl)<|bd1 rfl)
   (allc (ce X G d5 (mr 5 rfl)<|bd2 rfl)
   (allc (ce X G d6 (mr 6 rfl)<|bd1 rfl)
   (allc (ce X G d7 (mr 7 rfl)<|bd1 rfl)
   (allc (ce X G d8 (mr 8 rfl)<|bd1 rfl)
   (allc (ce X G d9 (mr 9 rfl)<|bd1 rfl)
   (allc (ce X G d10 (mr 10 rfl)<|bd1 rfl)
   (allc (ce X G d11 (mr 11 rfl)<|bd1 rfl)
   (allc (vR X G n d12 rfl (mr 12 rfl) (xAc (i:=0) rfl) (bd1 rfl) (λz=>absurd z<|by decide +kernel) λz=>absurd z<|by decide +kernel)
   (allc (ce X G d16 (mr 16 rfl)<|bd1 rfl)
   (allc (ce X G d17 (mr 17 rfl)<|bd1 rfl)
   (allc (ce X G d18 (mr 18 rfl)<|bd3 rfl)
   (allc (ce X G d19 (mr 19 rfl)<|bd1 rfl)
   (allc (ce X G d20 (mr 20 rfl)<|bd1 rfl)
   (allc (ce X G d21 (mr 21 rfl)<|bd3 rfl)
   (allc (vR X G m d22 rfl (mr 22 rfl) (xAc (i:=1) rfl) (bd2 rfl) (λz=>absurd z<|by decide +kernel) λz=>absurd z<|by decide +kernel)
   (allc (ce X G d30 (mr 30 rfl)<|bd4 rfl)
   (allc (ce X G d31 (mr 31 rfl)<|bd1 rfl)
   (allc (ce X G d32 (mr 32 rfl)<|bd2 rfl)
   (allc (ce X G d33 (mr 33 rfl)<|bd1 rfl)
   (allc (ce X G d34 (mr 34 rfl)<|bd4 rfl)
   (allc (ce X G d35 (mr 35 rfl)<|bd2 rfl)
   (allc (ce X G d36 (mr 36 rfl)<|bd1 rfl)
   (allc (ce X G d37 (mr 37 rfl)<|bd2 rfl)
   (allc (ce X G d38 (mr 38 rfl)<|bd4 rfl)
   (allc (ce X G d39 (mr 39 rfl)<|bd2 rfl)
   (allc (ce X G d40 (mr 40 rfl)<|bd4 rfl)
   (allc (ce X G d41 (mr 41 rfl)<|bd5 rfl)
   (allc (ce X G d42 (mr 42 rfl)<|bd1 rfl)
   (allc (ce X G d43 (mr 43 rfl)<|bd5 rfl)
   (allc (ce X G d44 (mr 44 rfl)<|bd4 rfl)
   (allc (ce X G d45 (mr 45 rfl)<|bd4 rfl)
   (allc (ce X G d46 (mr 46 rfl)<|bd2 rfl)
   (allc (ce X G Z (mr 47 rfl)<|bd1 rfl)
   (allc (ce X G Y (mr 48 rfl)<|bd1 rfl)
   (allc (ce X G T (mr 49 rfl)<|bd2 rfl)
   (allc (ce X G R (mr 50 rfl)<|bd1 rfl)
   (allc (ce X G t (mr 51 rfl)<|show BdC r51 from bd1 rfl)
   (allc (jf X G ae)
   (allc (jf X G aa)
   (allc (jf X G aZ)
   (allc (jf X G ac)
   (allc (yk X G au)
   (allc (vP X G bn λW=>(ktS bo) W)
   (allc (vP X G bU λW=>(ktS bj) W)
   (allc (vQ X G bV<|xAc (i:=0) rfl)
   (allc (vQ X G bC<|xAc (i:=1) rfl)
   alln)))))))))))))))))))))))))))))))))))))))))))))))))))
 have I:∀p∈mss,zIa (mkB K mg (cl8 c aC) [(b,cn,cI),(k,cW,du)]) rows p:=(allc (eQ (by kernel_rfl) n d13 (mr 13 rfl) (xAc (i:=0) rfl)<|bd4 rfl)
   (allc (eQ (by kernel_rfl) n d14 (mr 14 rfl) (xAc (i:=0) rfl)<|bd2 rfl)
   (allc (eQ (by kernel_rfl) n d15 (mr 15 rfl) (xAc (i:=0) rfl)<|bd5 rfl)
   (allc (eQ (by kernel_rfl) m d23 (mr 23 rfl) (xAc (i:=1) rfl)<|bd2 rfl)
   (allc (eQ (by kernel_rfl) m d24 (mr 24 rfl) (xAc (i:=1) rfl)<|bd4 rfl)
   (allc (eQ (by kernel_rfl) m d25 (mr 25 rfl) (xAc (i:=1) rfl)<|bd5 rfl)
   (allc (eQ (by kernel_rfl) m d26 (mr 26 rfl) (xAc (i:=1) rfl)<|bd4 rfl)
   (allc (eQ (by kernel_rfl) m d27 (mr 27 rfl) (xAc (i:=1) rfl)<|bd5 rfl)
   (allc (eQ (by kernel_rfl) m d28 (mr 28 rfl) (xAc (i:=1) rfl)<|bd5 rfl)
   (allc (eQ (by kernel_rfl) m d29 (mr 29 rfl) (xAc (i:=1) rfl)<|bd6 rfl)
   alln))))))))))
 have o:∀p∈(cl8 c aC),Cls K p.2/\W.findIn K (.ref p.2) "__class__"=some (some<|.builtin "object.__class__")/\W.mroIn K p.2 (.type "object")=some true:=(allc ⟨n.cls,n.ha,n.hm⟩
   (allc ⟨m.cls,m.ha,m.hm⟩
   alln))
 have D:∀p∈(cl8 c aC),zDk K p.2 fls=true:=(allc aj
   (allc ba
   alln))
 have J:∀q∈([(b,cn,cI),(k,cW,du)]:B7<|C3×B7 (Str×U)×C5),zJd w (mkB K mg (cl8 c aC) [(b,cn,cI),(k,cW,du)]) q:=(allc ⟨⟨_,_,bd,bR,bY⟩,(allc ⟨.ref aW,_,bJ,rfl,λW=>(ktS bQ) W⟩<|allc ⟨.ref aU,_,ay,rfl,λW=>(ktS bS) W⟩<|allc ⟨.ref aX,_,bA,rfl,λW=>(ktS bg) W⟩<|allc ⟨.ref aV,_,a7,rfl,λW=>(ktS bP) W⟩<|allc ⟨.ref aT,_,a0,rfl,λW=>(ktS be) W⟩<|allc ⟨.ref aS,_,bB,rfl,λW=>(ktS bf) W⟩<|allc ⟨.ref aP,_,az,rfl,λW=>(ktS bb) W⟩<|allc ⟨.ref aY,_,bF,rfl,λW=>(ktS bc) W⟩<|allc ⟨.ref aR,_,a1,rfl,λW=>(ktS bZ) W⟩<|allc ⟨.ref aQ,_,a3,rfl,λW=>(ktS bT) W⟩<|allc ⟨.ref aI,_,ap,rfl,λW=>(ktS a8) W⟩<|allc ⟨.ref aO,_,ak,rfl,λW=>(ktS a2) W⟩<|allc ⟨.ref aH,_,av,rfl,λW=>(ktS bG) W⟩<|allc ⟨.ref aL,_,al,rfl,λW=>(ktS a6) W⟩<|allc ⟨.ref aN,_,aw,rfl,λW=>(ktS a9) W⟩ alln),bO⟩
   (allc ⟨⟨_,_,bE,bD,bI⟩,(allc ⟨.ref aK,_,am,rfl,λW=>(ktI bN) W⟩<|allc ⟨.ref aJ,_,ao,rfl,λW=>(ktI a4) W⟩<|allc ⟨.ref aG,_,ar,rfl,λW=>(ktI bL) W⟩<|allc ⟨.ref aM,_,ax,rfl,λW=>(ktI bM) W⟩ alln),bK⟩
   alln))
 have pf:∀a,Pf l.prog w a (mkB K mg (cl8 c aC) [(b,cn,cI),(k,cW,du)]) ups tb rows:=λa=>
  zB (L a) I (λx hx=>W.mg_none_of X G<|i9<|xCx.mp bp x hx) (zFz bk) (zFz bX) (zFz bm) (zFz a5) (zFz bW) (clF (λp hp=>(o p hp).1) D) (clT o hn_ ht_) (kdF J)
 let⟨f,C,h0,F⟩:=t;have e:=O.symm.trans<|W.mg_of X G h0;cases e;refine⟨C,λs v=>?_,λa _ _=>?_⟩
 .let⟨oc,od,kV,P,pm,an,cdv,ct,osl,rfl,_⟩:=F.ex;exact .of_eq<|(show BdC r51 from bd1 rfl) kV P pm an cdv ct [v] rfl
 .exact(y6 (fw:=fw) (pf a) zHe (r:=r51) (mr 51 rfl) (Fun.fa F) d).imp λvs H Q E z=>xV (B:=mkB K mg (cl8 c aC) [(b,cn,cI),(k,cW,du)]) (zFv<|d+1) bq vs H Q E z
@[irreducible] noncomputable def Gd (fw d:Nat):D7:=zA2 ups tab fw d
def iw:Gd fw d=zA2 ups tab fw d:=by unfold Gd;rfl
section
variable{fw d i:Nat}{p:Pm}{vs:C6}{S S':So}{x:D6}{k:D5}{v:U}{a b:Unit->Prop}{de:De}
def pd(e:pr ups p vs S=.ok v S')(h:k v S'):(Gd fw d).prim p vs S x k:=by rw[iw];exact pm e h
def pv(v:U)(h:k v S)(e:pr ups p vs S=.ok v S:=by rfl):(Gd fw d).prim p vs S x k:=pd e h
def bT(h:a Unit.unit):(Gd fw d).br true a b:=by rw[iw];exact brT h
def bF(h:b Unit.unit):(Gd fw d).br false a b:=by rw[iw];exact brF h
def bI{c:C4}(h1:c=true->a Unit.unit)(h2:c=false->b Unit.unit):(Gd fw d).br c a b:=by
 cases c
 .exact bF<|h2 rfl
 .exact bT<|h1 rfl
def cd(de:De)(h:de.t (Gd fw d) (stU de.n vs) S<|zAp x k)(e:tab i=some de:=by kernel_rfl)(c:vs.length=de.np:=by rfl):(Gd fw<|d+1).call i vs S x k:=by
 rw[iw] at h⊢;exact zHx e c h
theorem fuel:(Gd fw d).fuel=fw:=by
 rw[iw];cases d <;> rfl
end
structure Sx where
 n:Int
 s:Int
 a:Int
 k:Int
 h:Int
noncomputable def Sx.kv(x:Sx):B7<|Key×U:=[(.inr "number",.int x.n),(.inr "seed",.int x.s),(.inr "parts",.int x.a),(.inr "places",.int x.k),(.inr "shift",.int x.h)]
structure Bl(x:Sx)(i:Nat)(as:C6)(lv:Nat)(v:U)(x':Sx):Prop where
 h:∀{fw d p:Nat}{S:So}{xx:D6}{K:D5},at? S p=some (.dct x.kv)->K v (set S p (.dct x'.kv))->(Gd fw (d+lv)).call i (.ref p::as) S xx K
theorem zBh{J:Type}:∀{l:B7 J}{p:Nat}{o:J},at? l p=some o->set l p o=l
 |_::_,0,_,h=>by cases h;rfl
 |_::l,p+1,o,h=>congrArg _<|zBh (l:=l) h
def Sx.ok(x:Sx):Prop:=0<=x.n/\0<=x.s/\x.s<2147483647
noncomputable def Sx.fl(x:Sx):Sx:=if x.n=0/\x.s>0 then{x with s:=x.s*48271%2147483647,n:=(x.s*48271%2147483647)*(x.s*48271%2147483647)%2147483629} else x
def Sx.fl_ok{x:Sx}(h:x.ok):x.fl.ok:=by
 let⟨c,b,a⟩:=h;unfold Sx.fl;split
 .exact⟨xBa _ ∅,xBa _ ∅,xBb _ ∅⟩
 .exact⟨c,b,a⟩
noncomputable def Sx.dg(x:Sx)(m:Int):Int:=x.fl.n%m
noncomputable def Sx.tk(x:Sx)(m:Int):Sx:={x.fl with n:=x.fl.n / m}
def Sx.tk_ok{x:Sx}{m:Int}(h:x.ok)(a:0<m):(x.tk m).ok:=by
 let⟨i,c,b⟩:=x.fl_ok h;exact⟨Int.ediv_nonneg i<|Int.le_of_lt a,c,b⟩
def sml(a:Int):Prop:=-(10^40)<a/\a<10^40
def fD{a b:Int}(c:sml a)(hb:sml b):pr ups .mul [.int a,.int b] S=.ok (.int<|a*b) S:=by
 show(match decide (a.natAbs<2^150/\b.natAbs<2^150\/b.natAbs<2^60\/a.natAbs<2^60) with|true=>Res.ok (.int<|a*b) S|false=>.stuck)=_;unfold sml at c hb;rw[xBd<|.inl ⟨(),()⟩]
def eY{a m:Int}(h:0<m/\m<=10^18):pr ups .fdiv [.int a,.int m] S=.ok (.int<|a / m) S:=by
 show(match decide (0<m/\m<=10^18) with|true=>Res.ok (.int<|a / m) S|false=>.stuck)=_;rw[xBd h]
def cD{a m:Int}(h:0<m):pr ups .mod [.int a,.int m] S=.ok (.int<|a%m) S:=by
 show(match decide (0<m) with|true=>Res.ok (.int<|a%m) S|false=>.stuck)=_;rw[xBd h]
def cz{a b:Int}:pr ups .eq [.int a,.int b] S=.ok (.bl<|decide<|a=b) S:=rfl
section
variable{fw d p:Nat}{S:So}{x:Sx}
def xX(h:at? S p=some (.dct x.kv)):pr ups .ix [.ref p,.str "number"] S=.ok (.int x.n) S:=dP h rfl
def uL(h:at? S p=some (.dct x.kv)):pr ups .ix [.ref p,.str "seed"] S=.ok (.int x.s) S:=dP h rfl
def qZ(h:at? S p=some (.dct x.kv)):pr ups .ix [.ref p,.str "parts"] S=.ok (.int x.a) S:=dP h rfl
def Ax(h:at? S p=some (.dct x.kv)):pr ups .ix [.ref p,.str "places"] S=.ok (.int x.k) S:=dP h rfl
def BD(h:at? S p=some (.dct x.kv)):pr ups .ix [.ref p,.str "shift"] S=.ok (.int x.h) S:=dP h rfl
def gM{x':Sx}{f:Str}{v:U}(h:at? S p=some (.dct x.kv))(e:putK (.inr f) v x.kv=x'.kv):pr ups .seti [.ref p,.str f,v] S=.ok .non (set S p<|.dct x'.kv):=by
 rw[<- e];exact ga h (by show 5+1<=2^24;decide)
end
def cu{x:Sx}{m:Int}(o:x.ok)(i:0<m/\m<=10 ^ 18):Bl x 35 [.int m] 1 (.int<|x.dg m)<|x.tk m:=⟨λ{fw d p S xx K} h c=>by
 erw[cd ⟨2,3,t35⟩];have fin:∀{S:So},at? S p=some (.dct x.fl.kv)->K (.int<|x.dg m) (set S p<|.dct (x.tk m).kv)->rz1 (Gd fw d) [some<|.ref p,some<|.int m,none] S (zAp xx K):=λ{S} h c=>by
  erw[pd (xX h),pd (cD i.1),pd (xX h),pd (eY i),pd (gM (x':=x.tk m) h rfl),<-c]
 erw[pd (xX h),pd cz];by_cases h0:x.n=0
 .rw[xBd h0];erw[bT,pd (uL h),pv (.bl<|decide<|0<x.s)];by_cases h1:0<x.s
  .have e:x.fl={x with s:=x.s*48271%2147483647,n:=(x.s*48271%2147483647)*(x.s*48271%2147483647)%2147483629}:=xCg ⟨h0,h1⟩;have q:=o.2.2;rw[xBd h1];erw[bT,pd (uL h),pd (fD (a:=x.s) (b:=48271) (by unfold sml;lia)<|by unfold sml;decide),pd (cD ∅)];obtain⟨l,k⟩:0<=x.s*48271%2147483647/\x.s*48271%2147483647<2147483647:=⟨xBa _ ∅,xBb _ ∅⟩
   generalize x.s*48271%2147483647=s' at e l k⊢;erw[pd (gM (x':={x with s:=s'}) h rfl)];have g:=zAc (o':=Ob.dct ({x with s:=s'}:Sx).kv) h;erw[pd (uL g),pd (uL g),pd (fD (a:=s') (b:=s') (by unfold sml;lia)<|by unfold sml;lia),pd (cD ∅),pd (gM (x':=x.fl) g<|by rw[e];rfl)];exact fin (zAc g) (by rw[zAb,zAb];exact c)
  .have e:x.fl=x:=xCf λz=>h1 z.2;rw[xCn h1];erw[bF];exact fin (by rw[e];exact h) c
 .have e:x.fl=x:=xCf λz=>h0 z.1;rw[xCn h0];refine bF ?_;refine bF ?_;exact fin (by rw[e];exact h) c⟩
noncomputable def Sx.nx(x:Sx):Sx:={x with k:=x.k+1,a:=x.a-1}
noncomputable def Sx.pl(x:Sx):Int:=(7*(x.k+1)+x.h)%600
def cb{x:Sx}(i:0<=x.k/\x.k<=10000):Bl x 36 [] 1 (.int x.pl) x.nx:=⟨λ{fw d p S xx K} h l=>by
 refine cd ⟨1,1,t36⟩ ?_;refine pd (Ax h) ?_;refine pv (.int<|x.k+1) ?_;refine pd (gM (x':={x with k:=x.k+1}) h rfl) ?_;have g:=zAc (o':=Ob.dct ({x with k:=x.k+1}:Sx).kv) h;refine pd (qZ g) ?_;refine pv (.int<|x.a-1) ?_;refine pd (gM (x':=x.nx) g rfl) ?_;have c:=zAc (o':=Ob.dct x.nx.kv) g;refine pd (Ax c) ?_;refine pd (fD (a:=7) (b:=x.k+1) (by unfold sml;decide)<|by unfold sml;lia) ?_;refine pd (BD c) ?_;refine pv (.int<|7*(x.k+1)+x.h) ?_;refine pv (.int x.pl) ?_;rw[zAb];exact l⟩
inductive Pg where
 |num (pl n:Int)|nam (pl:Int) (x:Str)|fn (pl:Int) (xs:List Str) (b:Pg)|call (pl:Int) (f:Pg) (as:List Pg)|lt (pl:Int) (x:Str) (a b:Pg)|st (pl:Int) (x:Str) (a:Pg)|dd (pl:Int) (a b:Pg)|iff (pl:Int) (a b c:Pg)
 |math (pl:Int) (o:Str) (a b:Pg)|make (pl:Int) (t:Str) (as:List Pg)|mat (pl:Int) (a:Pg) (t:Str) (xs:List Str) (b c:Pg)|rai (pl:Int) (w:Str) (a:Pg)|try_ (pl:Int) (a:Pg) (w x:Str) (b:Pg)|tell (pl:Int) (a:Pg)|ask (pl:Int)
mutual
noncomputable def Pg.u:Pg->U
 |.num pl n=>.tup [.str "number",.int pl,.int n]
 |.nam pl x=>.tup [.str "name",.int pl,.str x]
 |.fn pl xs b=>.tup [.str "fn",.int pl,.tup<|xs.map .str,b.u]
 |.call pl f i=>.tup [.str "call",.int pl,f.u,.tup<|Pg.us i]
 |.lt pl x a b=>.tup [.str "let",.int pl,.str x,a.u,b.u]
 |.st pl x a=>.tup [.str "set",.int pl,.str x,a.u]
 |.dd pl a b=>.tup [.str "do",.int pl,a.u,b.u]
 |.iff pl a b c=>.tup [.str "if",.int pl,a.u,b.u,c.u]
 |.math pl o a b=>.tup [.str "math",.int pl,.str o,a.u,b.u]
 |.make pl t i=>.tup [.str "make",.int pl,.str t,.tup<|Pg.us i]
 |.mat pl a t xs b c=>.tup [.str "match",.int pl,a.u,.str t,.tup<|xs.map .str,b.u,c.u]
 |.rai pl w a=>.tup [.str "raise",.int pl,.str w,a.u]
 |.try_ pl a w x b=>.tup [.str "try",.int pl,a.u,.str w,.str x,b.u]
 |.tell pl a=>.tup [.str "tell",.int pl,a.u]
 |.ask pl=>.tup [.str "ask",.int pl]
noncomputable def Pg.us:B7 Pg->C6
 |[]=>[]
 |a::r=>a.u::Pg.us r
end
variable{x:Sx}{sc:C5}
def scU(sc:C5):U:=.lst<|sc.map .str
def fh:pr ups .ne [scU sc,.lst []] S=.ok (.bl (!sc.isEmpty)) S:=by
 cases sc <;> rfl
def Sx.dg_lt{m:Int}(a:0<m):0<=x.dg m/\x.dg m<m:=⟨xBa _ (),xBb _ a⟩
def eW{i:Int}(h:0<=i/\i<sc.length):∃w∈sc,∀{S:So},pr ups .ix [scU sc,.int i] S=.ok (.str w) S:=by
 let⟨j,rfl⟩:=Int.eq_ofNat_of_zero_le h.1;have a:j<sc.length:=by lia
 refine⟨sc[j],List.getElem_mem a,λ{S}=>?_⟩;show opt (atI (sc.map U.str) (j:Int)) S=_;rw[dA (v:=.str sc[j])<|by rw[xAw,xAk a];rfl];rfl
def gb:pr ups .len [scU sc] S=.ok (.int sc.length) S:=by
 show Res.ok (.int ((sc.map U.str).length:Nat)) S=_;rw[xAa]
structure Sx.Le(x x':Sx):Prop where
 ok:x'.ok
 a:x'.a=x.a
 k:x'.k=x.k
 h:x'.h=x.h
def Sx.fl_le:x.fl.a=x.a/\x.fl.k=x.k/\x.fl.h=x.h:=by
 unfold Sx.fl;split <;> exact⟨rfl,rfl,rfl⟩
def Sx.tk_le{m:Int}(a:x.ok)(b:0<m):x.Le<|x.tk m:=⟨x.tk_ok a b,x.fl_le.1,x.fl_le.2.1,x.fl_le.2.2⟩
theorem Sx.Le.trans{y z:Sx}(h:x.Le y)(g:y.Le z):x.Le z:=⟨g.ok,g.a.trans h.a,g.k.trans h.k,g.h.trans h.h⟩
def At(sc:C5)(pl:Int)(P:Pg):Prop:=(∃w∈sc,P=.nam pl w)\/∃n,-(10^12)<n/\n<10^12/\P=.num pl n
def zFq{pl:Int}(c:x.ok):∃n x',-(10^12)<n/\n<10^12/\x.Le x'/\∀{fw d p:Nat}{S:So}{xx:D6}{K:D5}{a1 a3:B8 U},at? S p=some (.dct x.kv)->K (Pg.num pl n).u (set S p<|.dct x'.kv)->zIh (Gd fw<|d+1) [some<|.ref p,a1,some<|.int pl,a3] S (zAp xx K):=by
 have a:=x.tk_le (m:=10) c ∅;have t:=x.dg_lt (m:=10) ∅;by_cases h9:x.dg 10=9
 .have b:=(x.tk 10).tk_le (m:=10^12) a.ok ∅;have l:=((x.tk 10).tk<|10^12).tk_le (m:=10^12) b.ok ∅;have r:=(x.tk 10).dg_lt (m:=10^12) ∅;have q:=((x.tk 10).tk<|10^12).dg_lt (m:=10^12) ∅;refine⟨(x.tk 10).dg (10^12)-((x.tk 10).tk<|10^12).dg (10^12),_,(),(),(a.trans b).trans l,λ{fw d p S xx K a1 a3} h i=>?_⟩
  .erw[(cu c ∅).h h];have k:=zAc (o':=Ob.dct (x.tk 10).kv) h;erw[pd cz];rw[xBd h9];erw[bT,pv (.int<|10^12),(cu a.ok ∅).h k];have o:=zAc (o':=Ob.dct ((x.tk 10).tk<|10^12).kv) k;erw[pv (.int<|10^12),(cu b.ok ∅).h o,pv (.int<|(x.tk 10).dg (10^12)-((x.tk 10).tk<|10^12).dg (10^12))];rw[zAb,zAb];exact i
 .erw[<-⟨x.dg 10,x.tk 10,(),(),a,λ{fw d p S xx K a1 a3} h i=>?_⟩,(cu c ∅).h h,pd cz];rw[xCn h9];erw[bF];exact i
def Sx.nx_ok(h:x.ok):x.nx.ok:=h
theorem vt(t:x.ok)(q:0<=x.k/\x.k<=10000)(D:sc.length<=1000):∃P x',At sc x.pl P/\x.nx.Le x'/\Bl x 37 [scU sc] 2 P.u x':=by
 have o1:=x.nx_ok t;cases he:sc.isEmpty with
 |true=>
  let⟨n,x',l,i,le,N⟩:=zFq (x:=x.nx) (pl:=x.pl) o1;erw[<-⟨.num x.pl n,x',.inr ⟨n,l,i,rfl⟩,le,⟨λ{fw d p S xx K} h a=>?_⟩⟩,cd ⟨2,4,t37⟩,(cb q).h h,pv (.lst []),pd fh];rw[he];erw[bF,bF];exact N (zAc h) (by rw[zAb];exact a)
 |false=>
  have b:=x.nx.tk_le (m:=3) o1 ∅;have o:0<(sc.length:Int):=by
   cases sc with
   |nil=>cases he
   |cons _ _=>rw[xAo];lia
  by_cases hd:0<x.nx.dg 3
  .have r:=(x.nx.tk 3).tk_le (m:=sc.length) b.ok o;let⟨w,v,e⟩:=eW (sc:=sc)<|(x.nx.tk 3).dg_lt o;erw[<-⟨.nam x.pl w,_,.inl ⟨w,v,rfl⟩,b.trans r,⟨λ{fw d p S xx K} h a=>?_⟩⟩,cd ⟨2,4,t37⟩,(cb q).h h];have c:=zAc (o':=Ob.dct x.nx.kv) h;erw[pv (.lst []),pd fh];rw[he];erw[bT,(cu o1 ∅).h c];have C:=zAc (o':=Ob.dct (x.nx.tk 3).kv) c;erw[pv (.bl<|decide<|0<x.nx.dg 3)];rw[xBd hd];erw[bT,pd gb,(cu b.ok ⟨o,()⟩).h C,pd e];rw[zAb,zAb];exact a
  .let⟨n,x',l,i,le,N⟩:=zFq (x:=x.nx.tk 3) (pl:=x.pl) b.ok;erw[<-⟨.num x.pl n,x',.inr ⟨n,l,i,rfl⟩,b.trans le,⟨λ{fw d p S xx K} h a=>?_⟩⟩,cd ⟨2,4,t37⟩,(cb q).h h];have c:=zAc (o':=Ob.dct x.nx.kv) h;erw[pv (.lst []),pd fh];rw[he];erw[bT,(cu o1 ∅).h c,pv (.bl<|decide<|0<x.nx.dg 3)];rw[xCn hd];erw[bF];exact N (zAc c) (by rw[zAb,zAb];exact a)
section
variable{x:Sx}{sc ws:C5}
def wds:C5:=["kind","odd","big","a","b","ab"]
def fV(a:x.ok):∃w x',w∈wds/\x.Le x'/\Bl x 42 [] 2 (.str w) x':=by
 have b:=x.tk_le (m:=6) a ∅;let⟨w,c,e⟩:=eW (sc:=wds) (i:=x.dg 6) (x.dg_lt (m:=6) ∅);erw[<-⟨w,_,c,b,⟨λ{fw d p S xx K} h k=>?_⟩⟩,cd ⟨1,1,t42⟩,pv (scU wds),(cu a ∅).h h,pd e,<-k]
def gB{j:Int}(h:0<=j/\j<=1000):pr ups .rng1 [.int j] S=.ok (.tup<|zBx 0 j.toNat) S:=by
 delta pr;dsimp only;rw[xBd ()]
theorem zAz:∀{n:Nat}{lo:Int},(zBx lo n).length=n
 |0,_=>rfl
 |n+1,lo=>congrArg (·+1)<|zAz (n:=n)
def zDc(ws:C5)(f k:Nat):Str:=ws.getD ((f+k)%5) ""
def qJ{f k:Nat}(h:ws.length=5):zDc ws f k∈ws:=by
 unfold zDc;have a:(f+k)%5<ws.length:=by omega
 rw[xBz,xAk a];exact List.getElem_mem a
def zx{f k:Nat}(h:ws.length=5):pr ups .ix [scU ws,.int<|((f:Int)+k)%5] S=.ok (.str<|zDc ws f k) S:=by
 have a:(f+k)%5<ws.length:=by omega
 rw[show((f:Int)+k)%5=(((f+k)%5:Nat):Int) by omega];show opt (atI (ws.map U.str) (((f+k)%5:Nat):Int)) S=_;rw[dA (v:=.str<|zDc ws f k)<|by unfold zDc;rw[xAw,xAk a,xBz,xAk a];rfl];rfl
theorem vJ{f:Nat}{fw d:Nat}{S:So}{K:D5}(h:ws.length=5):∀{n lo:Nat}{ys:C6},K (.lst<|ys++(List.range' lo n).map λk=>.str<|zDc ws f k) S->lcK (Gd fw d) (lcB [1] true [none,none,some<|scU ws,some<|.int f] none (J4 J7<|J2 .mod (J2 (.add false) J8 J1)<|J6 .len J7)<|Gd fw d) (zBx (lo:Int) n) ys S K
 |0,lo,ys,a=>by
  rw[List.range'_zero,List.map_nil,xB0] at a;exact a
 |n+1,lo,ys,a=>by
  erw[pv (.int<|(f:Int)+lo),pd gb];rw[h];erw[pv (.int<|((f:Int)+lo)%5),pd (zx h),vJ h (n:=n) (lo:=lo+1) (ys:=ys++[.str<|zDc ws f lo])];rw[xAx];exact a
structure Nms(ws xs:C5):Prop where
 sub:∀y∈xs,y∈ws
 few:xs.length<=4
 nd:xs.Nodup
def xK{f n:Nat}(h:ws.length=5)(o:ws.Nodup)(p:n<=4):Nms ws<|(List.range' 0 n).map<|zDc ws f:=by
 refine⟨λy m=>?_,by rw[xAa,List.length_range'];exact p,?_⟩
 .let⟨k,_,rfl⟩:=xA2.mp m;exact qJ h
 .refine List.pairwise_map.mpr ((List.nodup_range' (step:=1)).imp_of_mem λ{a b} l hb z e=>z ?_);have l:=(List.mem_range'_1.mp l).2;have hb:=(List.mem_range'_1.mp hb).2;unfold zDc at e;have i:(f+a)%5<ws.length:=by omega
  have c:(f+b)%5<ws.length:=by omega
  rw[xBz,xBz,xAk i,xAk c] at e;have hp:=List.pairwise_iff_getElem.mp o;have e:ws[(f+a)%5]=ws[(f+b)%5]:=e;rcases Nat.lt_trichotomy ((f+a)%5) ((f+b)%5) with q|q|q
  .exact absurd e<|hp _ _ i c q
  .omega
  .exact absurd e.symm<|hp _ _ c i q
def fi(h:ws.length=5):pr ups .len [scU ws] S=.ok (.int 5) S:=by
 rw[gb,h];rfl
def ia(c:x.ok)(h:ws.length=5)(q:ws.Nodup):∃xs x',Nms ws xs/\x.Le x'/\Bl x 39 [scU ws] 2 (.tup<|xs.map .str) x':=by
 have a:=x.tk_le (m:=5) c ∅;have o:=(x.tk 5).tk_le (m:=5) a.ok ∅;let⟨C,F⟩:=x.dg_lt (m:=5) ∅;let⟨v,D⟩:=(x.tk 5).dg_lt (m:=5) ∅;let⟨f,r⟩:=Int.eq_ofNat_of_zero_le C;let⟨n,b⟩:=Int.eq_ofNat_of_zero_le v;erw[<-⟨(List.range' 0 n).map<|zDc ws f,_,xK h q (by omega),a.trans o,⟨λ{fw d p S xx K} i l=>?_⟩⟩,cd ⟨2,4,t39⟩,pd (fi h),(cu c ∅).h i];have t:=zAc (o':=Ob.dct (x.tk 5).kv) i;erw[(cu a.ok ∅).h t,pd (fi h)];rw[r,b];erw[<-pv (.int n) ?_ (by show Res.ok (.int<|if(5:Int)<n then 5 else n) _=_;rw[xCf<|by omega]),pd (gB<|by omega)];rw[xC3];refine bI (λ_=>?_) λz=>?_
 .erw[vJ (lo:=0) h];rw[xC6];erw[pv (.tup<|(List.range' 0 n).map λk=>.str<|zDc ws f k)];rw[zAb];rw[List.map_map] at l;exact l
 .rw[zAz,xDk<|show n<=sizeLine by show n<=2^24;omega] at z;cases z
end
structure Nmz(N:Str->Prop)(xs:C5):Prop where
 ok:∀y∈xs,N y
 few:xs.length<=4
 nd:xs.Nodup
def ops:C5:=["add","sub","mul","less","same"]
inductive Wf(N:Str->Prop):List Str->Nat->Pg->Prop where
 |num {sc:List Str} {d:Nat} {pl n:Int} (h1:-(10^12)<n) (h2:n<10^12):Wf N sc d (.num pl n)
 |nam {sc:List Str} {d:Nat} {pl:Int} {x:Str} (h:x∈sc):Wf N sc d (.nam pl x)
 |fn {sc xs:List Str} {d:Nat} {pl:Int} {b:Pg} (h:Nmz N xs) (hb:Wf N (sc++xs) d b):Wf N sc (d+1) (.fn pl xs b)
 |call {sc:List Str} {d:Nat} {pl:Int} {f:Pg} {as:List Pg} (hf:Wf N sc d f) (h:∀a∈as,Wf N sc d a) (h4:as.length<=4):Wf N sc (d+1) (.call pl f as)
 |lt {sc:List Str} {d:Nat} {pl:Int} {x:Str} {a b:Pg} (hx:N x) (ha:Wf N sc d a) (hb:Wf N (sc++[x]) d b):Wf N sc (d+1) (.lt pl x a b)
 |st {sc:List Str} {d:Nat} {pl:Int} {x:Str} {a:Pg} (hx:x∈sc) (ha:Wf N sc d a):Wf N sc (d+1) (.st pl x a)
 |dd {sc:List Str} {d:Nat} {pl:Int} {a b:Pg} (ha:Wf N sc d a) (hb:Wf N sc d b):Wf N sc (d+1) (.dd pl a b)
 |iff {sc:List Str} {d:Nat} {pl:Int} {a b c:Pg} (ha:Wf N sc d a) (hb:Wf N sc d b) (hc:Wf N sc d c):Wf N sc (d+1) (.iff pl a b c)
 |math {sc:List Str} {d:Nat} {pl:Int} {o:Str} {a b:Pg} (ho:o∈ops) (ha:Wf N sc d a) (hb:Wf N sc d b):Wf N sc (d+1) (.math pl o a b)
 |make {sc:List Str} {d:Nat} {pl:Int} {t:Str} {as:List Pg} (ht:t∈wds) (h:∀a∈as,Wf N sc d a) (h4:as.length<=4):Wf N sc (d+1) (.make pl t as)
 |mat {sc xs:List Str} {d:Nat} {pl:Int} {t:Str} {a b c:Pg} (ht:t∈wds) (hx:Nmz N xs) (ha:Wf N sc d a) (hb:Wf N (sc++xs) d b) (hc:Wf N sc d c):Wf N sc (d+1) (.mat pl a t xs b c)
 |rai {sc:List Str} {d:Nat} {pl:Int} {w:Str} {a:Pg} (hw:w∈wds) (ha:Wf N sc d a):Wf N sc (d+1) (.rai pl w a)
 |try_ {sc:List Str} {d:Nat} {pl:Int} {w x:Str} {a b:Pg} (hw:w∈wds) (hx:N x) (ha:Wf N sc d a) (hb:Wf N (sc++[x]) d b):Wf N sc (d+1) (.try_ pl a w x b)
 |tell {sc:List Str} {d:Nat} {pl:Int} {a:Pg} (ha:Wf N sc d a):Wf N sc (d+1) (.tell pl a)
 |ask {sc:List Str} {d:Nat} {pl:Int}:Wf N sc (d+1) (.ask pl)
theorem Wf.up{sc:C5}{P:Pg}(h:Wf N sc d P):∀{e:Nat},d<=e->Wf N sc e P:=by
 induction h with
 |num C v=>intro e _;exact .num C v
 |nam h=>intro e _;exact .nam h
 |fn h hb q=>intro e i;obtain⟨e,rfl⟩:∃b,e=b+1:=⟨e-1,()⟩;exact .fn h (q ())
 |call D h p c i2=>intro e i;obtain⟨e,rfl⟩:∃b,e=b+1:=⟨e-1,()⟩;exact .call (c ()) (λa k=>i2 a k ()) p
 |lt l k hb c i2=>intro e i;obtain⟨e,rfl⟩:∃b,e=b+1:=⟨e-1,()⟩;exact .lt l (c ()) (i2 ())
 |st l k c=>intro e i;obtain⟨e,rfl⟩:∃b,e=b+1:=⟨e-1,()⟩;exact .st l (c ())
 |dd k hb c i2=>intro e i;obtain⟨e,rfl⟩:∃b,e=b+1:=⟨e-1,()⟩;exact .dd (c ()) (i2 ())
 |iff k hb t c i2 m=>intro e i;obtain⟨e,rfl⟩:∃b,e=b+1:=⟨e-1,()⟩;exact .iff (c ()) (i2 ()) (m ())
 |math r k hb c i2=>intro e i;obtain⟨e,rfl⟩:∃b,e=b+1:=⟨e-1,()⟩;exact .math r (c ()) (i2 ())
 |make o h p i2=>intro e i;obtain⟨e,rfl⟩:∃b,e=b+1:=⟨e-1,()⟩;exact .make o (λa k=>i2 a k ()) p
 |mat o l k hb t c i2 m=>intro e i;obtain⟨e,rfl⟩:∃b,e=b+1:=⟨e-1,()⟩;exact .mat o l (c ()) (i2 ()) (m ())
 |rai n k c=>intro e i;obtain⟨e,rfl⟩:∃b,e=b+1:=⟨e-1,()⟩;exact .rai n (c ())
 |try_ n l k hb c i2=>intro e i;obtain⟨e,rfl⟩:∃b,e=b+1:=⟨e-1,()⟩;exact .try_ n l (c ()) (i2 ())
 |tell k c=>intro e i;obtain⟨e,rfl⟩:∃b,e=b+1:=⟨e-1,()⟩;exact .tell (c ())
 |ask=>intro e i;obtain⟨e,rfl⟩:∃b,e=b+1:=⟨e-1,()⟩;exact .ask
mutual
def Pg.pls:Pg->C8
 |.num pl _=>[pl]
 |.nam pl _=>[pl]
 |.fn pl _ b=>pl::b.pls
 |.call pl f i=>pl::(f.pls++Pg.plss i)
 |.lt pl _ a b=>pl::(a.pls++b.pls)
 |.st pl _ a=>pl::a.pls
 |.dd pl a b=>pl::(a.pls++b.pls)
 |.iff pl a b c=>pl::(a.pls++(b.pls++c.pls))
 |.math pl _ a b=>pl::(a.pls++b.pls)
 |.make pl _ i=>pl::Pg.plss i
 |.mat pl a _ _ b c=>pl::(a.pls++(b.pls++c.pls))
 |.rai pl _ a=>pl::a.pls
 |.try_ pl a _ _ b=>pl::(a.pls++b.pls)
 |.tell pl a=>pl::a.pls
 |.ask pl=>[pl]
def Pg.plss:B7 Pg->C8
 |[]=>[]
 |a::r=>a.pls++Pg.plss r
end
def zBo(h k:Int):Int:=(7*k+h)%600
def Ks(h lo hi:Int)(pls:C8):Prop:=∃ks:C8,pls=ks.map (zBo h)/\ks.Nodup/\∀k∈ks,lo<k/\k<=hi
def Ks.nil{h lo hi:Int}:Ks h lo hi []:=⟨[],rfl,xC7,λ_ z=>(nomatch z)⟩
def Ks.one{h lo hi k:Int}(b:lo<k)(a:k<=hi):Ks h lo hi [zBo h k]:=⟨[k],rfl,xCb.mpr ⟨⋯,xC7⟩,λq z=>by rw[xAm.mp z];exact⟨b,a⟩⟩
def Ks.app{h lo c hi:Int}{l r:C8}(a:Ks h lo c l)(b:Ks h c hi r)(C:lo<=c)(v:c<=hi):Ks h lo hi<|l++r:=by
 let⟨n,rfl,m,b1⟩:=a;let⟨o,rfl,i,b2⟩:=b;refine⟨n++o,by rw[xAi],xBq.mpr ⟨m,i,λx q y p e=>?_⟩,λk t=>?_⟩
 .have:=b1 x q;have:=b2 y p;lia
 .rcases xAj.mp t with z|z
  .have:=b1 k z;lia
  .have:=b2 k z;lia
def Ks.cons{h lo a hi k:Int}{r:C8}(l:lo<k)(c:k<=a)(b:Ks h a hi r)(i:a<=hi):Ks h lo hi<|zBo h k::r:=(Ks.one l c).app b () i
mutual
def Pg.cnt:Pg->Nat
 |.num _ _=>0
 |.nam _ _=>0
 |.fn _ _ b=>b.cnt+1
 |.call _ u i=>u.cnt+Pg.cnts i
 |.lt _ _ a b=>a.cnt+b.cnt+1
 |.st _ _ a=>a.cnt+1
 |.dd _ a b=>a.cnt+b.cnt
 |.iff _ a b c=>a.cnt+(b.cnt+c.cnt)
 |.math _ _ a b=>a.cnt+b.cnt
 |.make _ _ i=>Pg.cnts i
 |.mat _ a _ _ b c=>a.cnt+(b.cnt+c.cnt)+1
 |.rai _ _ a=>a.cnt
 |.try_ _ a _ _ b=>a.cnt+b.cnt+1
 |.tell _ a=>a.cnt
 |.ask _=>0
def Pg.cnts:B7 Pg->Nat
 |[]=>0
 |a::r=>a.cnt+Pg.cnts r
end
structure Cn(o:Int)(c dm:Nat)(k k':Int):Prop where
 z:80<=k->c=0
 b:k'<80->45*(c:Int)+o<=42*(k'-k)
 c:k<80->80<=k'->45*(c:Int)<=42*(80-k)+16*dm
def Cn.app{o o' k:Int}{c i:Nat}(a:Cn o c dm k k1)(b:Cn o' i dm k1 k2)(m:0<=o)(l:0<=o')(p:k<=k1)(n:k1<=k2):Cn o (c+i) dm k k2:=by
 have:=a.z;have:=a.b;have:=a.c;have:=b.z;have:=b.b;have:=b.c;exact⟨(),(),()⟩
def Cn.w{o o' k l:Int}{c i:Nat}(a:Cn o c dm k k')(n:o'<=o)(p:dm<=i)(e:l<=k)(m:l<80\/l=k):Cn o' c i l k':=by
 have:=a.z;have:=a.b;have:=a.c;exact⟨(),(),()⟩
def Cn.up1{k:Int}{c:Nat}(i:k<80)(a:Cn (42-3*(e:Int)) c e (k+1) k'):Cn (42-3*((e+1:Nat):Int)) (c+1) (e+1) k k':=by
 have:=a.z;have:=a.b;have:=a.c;exact⟨(),(),()⟩
def Cn.up0{o k:Int}{c:Nat}(l:k<80)(a:Cn o c e (k+1) k')(i:0<=o):Cn (42-3*((e+1:Nat):Int)) c (e+1) k k':=by
 have:=a.z;have:=a.b;have:=a.c;exact⟨(),(),()⟩
structure Iv(x:Sx):Prop where
 ok:x.ok
 a:x.a=80-x.k
 k:0<=x.k/\x.k<=10000
structure Pt(N:Str->Prop)(sc:C5)(dm:Nat)(x:Sx)(P:Pg)(x':Sx):Prop where
 wf:Wf N sc dm P
 iv:Iv x'
 h:x'.h=x.h
 ks:Ks x.h x.k x'.k P.pls
 lo:x.k<x'.k
 at80:80<=x.k->x'.k=x.k+1
 hi:x'.k<=x.k+1\/x'.k<=82+6*dm
 ct:Cn (42-3*(dm:Int)) P.cnt dm x.k x'.k
def vq{sc:C5}{x:Sx}(b:Iv x)(t:x.k<10000)(p:sc.length<=1000):∃P x',Pt N sc dm x P x'/\Bl x 37 [scU sc] 2 P.u x':=by
 let⟨P,x',m,le,B⟩:=vt (sc:=sc) b.ok b.k p;have q:x'.k=x.k+1:=le.k;have D:x'.a=x.a-1:=le.a;have C:=b.a;have v:=b.k;have o:Ks x.h x.k x'.k [x.pl]:=Ks.one (k:=x.k+1) () ();have r:P.cnt=0:=by rcases m with ⟨w,l,rfl⟩|⟨n,i,c,rfl⟩ <;> rfl
 refine⟨P,x',⟨?_,⟨le.ok,(),()⟩,le.h,?_,(),λ_=>q,.inl (),⟨λ_=>r,λ_=>(),λ_ _=>()⟩⟩,B⟩
 .rcases m with ⟨w,l,rfl⟩|⟨n,i,c,rfl⟩
  .exact .nam l
  .exact .num i c
 .rcases m with ⟨w,l,rfl⟩|⟨n,i,c,rfl⟩ <;> exact o
section
variable{N:Str->Prop}{ws sc:C5}{x x':Sx}{dm:Nat}{dp:Int}
def Bl.up{i:Nat}{as:C6}{v:U}(b:Bl x i as lv v x')(h:lv<=lv'):Bl x i as lv' v x':=⟨λ{fw d p S xx K} a c=>by
 have:=b.h (fw:=fw) (d:=d+(lv'-lv)) (xx:=xx) a c;rw[show d+(lv'-lv)+lv=d+lv' by lia] at this;exact this⟩
def PH(N:Str->Prop)(ws:C5)(dm:Nat):Prop:=∀{x:Sx}{sc:C5}{dp:Int},Iv x->x.k+40*dm<=2000->sc.length+10*dm<=500->dp<=dm->∃P x',Pt N sc dm x P x'/\Bl x 45 [scU ws,scU sc,.int dp] (3*dm+3) P.u x'
structure Pts(N:Str->Prop)(sc:C5)(dm:Nat)(x:Sx)(as:B7 Pg)(x':Sx):Prop where
 wf:∀a∈as,Wf N sc dm a
 iv:Iv x'
 h:x'.h=x.h
 ks:Ks x.h x.k x'.k (Pg.plss as)
 lo:x.k<=x'.k
 at80:80<=x.k->x'.k=x.k+as.length
 hi:x'.k<=x.k+as.length\/x'.k<=82+6*dm+as.length
 ct:dm<=14->Cn 0 (Pg.cnts as) dm x.k x'.k
theorem pP(H:PH N ws dm)(l:sc.length+10*dm<=500)(m:dp<=dm):∀{n:Nat}{x:Sx},Iv x->x.k+40*dm+10*n<=2000->n<=4->82+6*dm+40*dm<=1900->∃as x',as.length=n/\Pts N sc dm x as x'/\∀{fw d p lo:Nat}{S:So}{K:D5}{ys:C6},at? S p=some (.dct x.kv)->K (.lst<|ys++Pg.us as) (set S p<|.dct x'.kv)->lcK (Gd fw<|d+(3*dm+3)) (lcB [1] true [none,none,some<|.ref p,some<|scU sc,some<|scU ws,some<|.int dp] none (Jo 45<|Jl J7 J9 J8 Jc)<|Gd fw<|d+(3*dm+3)) (zBx (lo:Int) n) ys S K
 | 0,x,i,_,_,_=>⟨[],x,rfl,⟨λ_ z=>(nomatch z),i,rfl,.nil,xBu _,λ_=>⋯,.inl ⋯,λ_=>⟨λ_=>rfl,λ_=>by show 45 * ((0:Nat):Int)+0<=_;lia,λ_ _=>()⟩⟩,λ{fw d p lo S K ys} h c=>by
  rw[Pg.us,xB0,zBh h] at c;exact c⟩
 |n+1,x,i,c,F,hb=>by
  let⟨P,r,p1,b1⟩:=H (x:=x) (sc:=sc) (dp:=dp) i () l m;have t:=p1.lo;have C:=p1.hi;let⟨as,o,e,q,f⟩:=pP H l m (n:=n) (x:=r) p1.iv () () hb;have b:=q.lo;have v:=q.hi;have a1:=p1.at80;have D:=q.at80;refine⟨P::as,o,by rw[xAo,e],⟨λa ha=>?_,q.iv,q.h.trans p1.h,?_,(),λz=>?_,?_,λz=>(p1.ct.app (q.ct z) () () () b).w () (xAg _) (xBu _)<|.inr rfl⟩,λ{fw d p lo S K ys} h c=>?_⟩
  .rcases xAv.mp ha with rfl|ha
   .exact p1.wf
   .exact q.wf a ha
  .have k2:=q.ks;rw[p1.h] at k2;exact p1.ks.app k2 () b
  .rw[xAo];have:=a1 z;have:=D ();lia
  .rw[xAo];lia
  .erw[b1.h h,f (lo:=lo+1) (zAc h)];rw[zAb,xAx];exact c
def lL(H:PH N ws dm)(C:sc.length+10*dm<=500)(D:dp<=dm)(c:Iv x)(I:x.k+40*dm+40<=2000)(G:dm<=20):∃as x',as.length<=4/\Pts N sc dm x as x'/\Bl x 38 [scU ws,scU sc,.int dp] (3*dm+4) (.tup<|Pg.us as) x':=by
 have b:=x.tk_le (m:=5) c.ok ∅;let⟨F,J⟩:=x.dg_lt (m:=5) ∅;let⟨n,v⟩:=Int.eq_ofNat_of_zero_le F;have t:Iv<|x.tk 5:=⟨b.ok,by rw[b.a,b.k];exact c.a,by rw[b.k];exact c.k⟩
 let⟨as,r,e,q,f⟩:=pP (n:=n) H C D t (by rw[b.k];lia) () ();have l:(x.tk 5).k=x.k:=b.k;have o:(x.tk 5).h=x.h:=b.h;erw[<-⟨as,r,(),⟨q.wf,q.iv,by rw[q.h,o],by have:=q.ks;rw[l,o] at this;exact this,by have:=q.lo;lia,λz=>by have:=q.at80 ();lia,by have:=q.hi;lia,λz=>by have:=q.ct z;rw[l] at this;exact this⟩,⟨λ{fw d p S xx K} h i=>?_⟩⟩,cd ⟨4,4,t38⟩,(cu c.ok ∅).h h];rw[v];erw[pd (gB ())];rw[xC3];refine bI (λ_=>?_) λz=>?_
 .erw[f (lo:=0) (zAc h)];rw[xC6];erw[pv (.tup<|Pg.us as)];rw[zAb];exact i
 .rw[zAz,xDk<|show n<=sizeLine by show n<=2^24;lia] at z;cases z
end
section
variable{N:Str->Prop}{ws sc:C5}{x x':Sx}{e:Nat}{dp way:Int}
structure Pn(N:Str->Prop)(sc:C5)(dm:Nat)(x:Sx)(P:Pg)(x':Sx):Prop where
 wf:Wf N sc dm P
 iv:Iv x'
 h:x'.h=x.h
 ks:Ks x.h x.k x'.k P.pls
 lo:x.k<x'.k
 hi:x'.k<=82+6*dm
 ct:Cn (42-3*(dm:Int)) P.cnt dm x.k x'.k
theorem Iv.nx(h:Iv x)(b:x.k<10000):Iv x.nx:=⟨h.ok,by show x.a-1=80-(x.k+1);have:=h.a;lia,by show 0<=x.k+1/\x.k+1<=10000;have:=h.k;lia⟩
def Iv.le{y:Sx}(h:Iv x)(l:x.Le y):Iv y:=⟨l.ok,by rw[l.a,l.k];exact h.a,by rw[l.k];exact h.k⟩
def dH{P:Pg}{r:C8}(i:x.k<80)(c:P.pls=x.pl::r)(a:Wf N sc (e+1) P)(b:Iv x')(h:x'.h=x.h)(ks:Ks x.h (x.k+1) x'.k r)(lo:x.k+1<=x'.k)(hi:x'.k<=88+6*e)(ct:Cn (42-3*((e+1:Nat):Int)) P.cnt (e+1) x.k x'.k):Pn N sc (e+1) x P x':=by
 refine⟨a,b,h,?_,(),(),ct⟩;rw[c];exact Ks.cons (k:=x.k+1) () (xBu _) ks lo
def nZ(b:Iv x)(a:x.k<80):∃P x',Pn N sc (e+1) x P x'/\Bl x 43 [scU ws,scU sc,.int dp,.int 2] (3*e+5) P.u x':=by
 erw[<-⟨.ask x.pl,x.nx,dH a rfl .ask (b.nx ()) rfl .nil (xBu _) (by show x.k+1<=_;lia)<|.up0 (o:=0) a ⟨λ_=>rfl,λ_=>by show 45*((0:Nat):Int)+0<=42*(x.k+1-(x.k+1));lia,λ_ h=>absurd (show 80<=x.k+1 from h) ()⟩<|xBu _,⟨λ{fw d p S xx K} h c=>?_⟩⟩,cd (d:=d+(3*e+4)) ⟨5,9,t43⟩,((cb b.k).up ()).h h,<-pv (.bl false)<|bF<|bF ?_,<-pv (.bl false)<|bF ?_,<-pv (.bl true)<|bT ?_,<-c]
def kK(H:PH N ws e)(L:e<=14)(I:sc.length+10*e<=500)(O:dp<=e)(n:Iv x)(i:x.k<80):∃P x',Pn N sc (e+1) x P x'/\Bl x 43 [scU ws,scU sc,.int dp,.int 1] (3*e+5) P.u x':=by
 have o:=n.nx ();have T:=n.k;have k1:x.nx.k=x.k+1:=rfl;let⟨w,l,G,m,b2⟩:=fV o.ok;have i2:=o.le m;have k2:l.k=x.k+1:=m.k;let⟨C,D,F,q,R⟩:=lL H I O i2 () ();have a:=q.at80;have b:=q.hi;have c:=q.lo;have t:l.h=x.h:=m.h;erw[<-⟨.make x.pl w C,D,dH (r:=Pg.plss C) i rfl (.make G q.wf F) q.iv (by rw[q.h,t]) (by have:=q.ks;rw[t,k2] at this;exact this) () ()<|.up0 i (by have:=q.ct L;rw[k2] at this;exact this)<|xBu _,⟨λ{fw d p S xx K} h J=>?_⟩⟩,cd (d:=d+(3*e+4)) ⟨5,9,t43⟩,((cb n.k).up ()).h h];have v:=zAc (o':=Ob.dct x.nx.kv) h;erw[<-pv (.bl false)<|bF<|bF ?_,<-pv (.bl true)<|bT ?_,(b2.up ()).h v];have Q:=zAc (o':=Ob.dct l.kv) v;erw[(R.up ()).h Q];rw[zAb,zAb];exact J
end
section
variable{N:Str->Prop}{ws sc:C5}{x x':Sx}{e:Nat}{dp way:Int}
def nY(H:PH N ws e)(W:e<=14)(I:sc.length+10*e<=500)(L:dp<=e)(o:Iv x)(i:x.k<80)(v:sc.isEmpty=false):∃P x',Pn N sc (e+1) x P x'/\Bl x 43 [scU ws,scU sc,.int dp,.int 0] (3*e+5) P.u x':=by
 have n:=o.nx ();have T:=o.k;have k1:x.nx.k=x.k+1:=rfl;have t:0<(sc.length:Int):=by
  cases sc with
  |nil=>cases v
  |cons _ _=>rw[xAo];lia
 have l:=x.nx.tk_le (m:=sc.length) n.ok t;let⟨w,G,Q⟩:=eW (sc:=sc)<|x.nx.dg_lt t;have i2:=n.le l;have k2:(x.nx.tk sc.length).k=x.k+1:=l.k;have C:(x.nx.tk sc.length).h=x.h:=l.h;let⟨P,F,q,R⟩:=H (x:=x.nx.tk sc.length) (sc:=sc) (dp:=dp) i2 () I L;have a:=q.at80;have b:=q.hi;have c:=q.lo;erw[<-⟨.st x.pl w P,F,dH (r:=P.pls) i rfl (.st G q.wf) q.iv (by rw[q.h,C]) (by have:=q.ks;rw[C,k2] at this;exact this) () ()<|.up1 i (by have:=q.ct;rw[k2] at this;exact this),⟨λ{fw d p S xx K} h J=>?_⟩⟩,cd (d:=d+(3*e+4)) ⟨5,9,t43⟩,((cb o.k).up ()).h h];have D:=zAc (o':=Ob.dct x.nx.kv) h;erw[<-pv (.bl true)<|bT ?_,pv (.lst []),pd fh];rw[v];erw[bT,pd gb,((cu n.ok ⟨t,()⟩).up ()).h D];have O:=zAc (o':=Ob.dct (x.nx.tk sc.length).kv) D;erw[pd Q,(R.up ()).h O];rw[zAb,zAb];exact J
def jE(H:PH N ws e)(R:e<=14)(F:sc.length+10*e<=500)(I:dp<=e)(o:Iv x)(i:x.k<80):∃P x',Pn N sc (e+1) x P x'/\Bl x 43 [scU ws,scU sc,.int dp,.int 3] (3*e+5) P.u x':=by
 have C:=o.nx ();have Q:=o.k;have k1:x.nx.k=x.k+1:=rfl;let⟨P,m,q,b2⟩:=H (x:=x.nx) (sc:=sc) (dp:=dp) C () F I;let⟨w,l,D,n,O⟩:=fV q.iv.ok;have a:=q.at80;have b:=q.hi;have c:=q.lo;have t:l.k=m.k:=n.k;have J:l.h=m.h:=n.h;erw[<-⟨.rai x.pl w P,l,dH (r:=P.pls) i rfl (.rai D q.wf) (q.iv.le n) (by rw[J,q.h];rfl) (by have:=q.ks;rw[t];exact this) () () (.up0 i (by rw[t];exact q.ct) ()),⟨λ{fw d p S xx K} h G=>?_⟩⟩,cd (d:=d+(3*e+4)) ⟨5,9,t43⟩,((cb o.k).up ()).h h];have v:=zAc (o':=Ob.dct x.nx.kv) h;erw[<-pv (.bl false)<|bF<|bF<|pv (.bl false)<|bF<|pv (.bl false)<|bF ?_,(b2.up ()).h v];have L:=zAc (o':=Ob.dct m.kv) v;erw[<-pv (.bl true)<|bT ?_,(O.up ()).h L];rw[zAb,zAb];exact G
def kL(H:PH N ws e)(L:e<=14)(n:sc.length+10*e<=500)(o:dp<=e)(l:Iv x)(i:x.k<80):∃P x',Pn N sc (e+1) x P x'/\Bl x 43 [scU ws,scU sc,.int dp,.int 4] (3*e+5) P.u x':=by
 have I:=l.nx ();have R:=l.k;have k1:x.nx.k=x.k+1:=rfl;let⟨P,m,q,b2⟩:=H (x:=x.nx) (sc:=sc) (dp:=dp) I () n o;have a:=q.at80;have b:=q.hi;have c:=q.lo;let⟨D,F,G,r,Q⟩:=lL H n o q.iv () ();have W:=r.at80;have T:=r.hi;have C:=r.lo;have t:m.h=x.h:=q.h;erw[<-⟨.call x.pl P D,F,dH (r:=P.pls++Pg.plss D) i rfl (.call q.wf r.wf G) r.iv (by rw[r.h,t]) (by have k:=r.ks;rw[t] at k;exact Ks.app q.ks k () C) () () (Cn.up0 i (q.ct.app (r.ct L) () (xBu _) () C) ()),⟨λ{fw d p S xx K} h J=>?_⟩⟩,cd (d:=d+(3*e+4)) ⟨5,9,t43⟩,((cb l.k).up ()).h h];have v:=zAc (o':=Ob.dct x.nx.kv) h;erw[<-pv (.bl false)<|bF<|bF<|pv (.bl false)<|bF<|pv (.bl false)<|bF ?_,(b2.up ()).h v];have O:=zAc (o':=Ob.dct m.kv) v;erw[<-pv (.bl false)<|bF<|pv (.bl true)<|bT ?_,(Q.up ()).h O];rw[zAb,zAb];exact J
def kJ(H:PH N ws e)(F:e<=14)(o:sc.length+10*e<=500)(v:dp<=e)(l:Iv x)(i:x.k<80):∃P x',Pn N sc (e+1) x P x'/\Bl x 43 [scU ws,scU sc,.int dp,.int 5] (3*e+5) P.u x':=by
 have n:=l.nx ();have D:=l.k;have k1:x.nx.k=x.k+1:=rfl;let⟨P,m,q,b2⟩:=H (x:=x.nx) (sc:=sc) (dp:=dp) n () o v;have a:=q.at80;have b:=q.hi;have c:=q.lo;erw[<-⟨.tell x.pl P,m,dH (r:=P.pls) i rfl (.tell q.wf) q.iv q.h q.ks () () (.up0 i q.ct ()),⟨λ{fw d p S xx K} h t=>?_⟩⟩,cd (d:=d+(3*e+4)) ⟨5,9,t43⟩,((cb l.k).up ()).h h];have C:=zAc (o':=Ob.dct x.nx.kv) h;erw[<-pv (.bl false)<|bF<|bF<|pv (.bl false)<|bF<|pv (.bl false)<|bF ?_,(b2.up ()).h C,<-pv (.bl false)<|bF<|pv (.bl false)<|bF<|pv (.bl true)<|bT ?_];rw[zAb];exact t
def p9(H:PH N ws e)(Y:e<=14)(o:sc.length+10*e<=500)(v:dp<=e)(n:Iv x)(i:x.k<80):∃P x',Pn N sc (e+1) x P x'/\Bl x 43 [scU ws,scU sc,.int dp,.int 6] (3*e+5) P.u x':=by
 have J:=n.nx ();have X:=n.k;have k1:x.nx.k=x.k+1:=rfl;let⟨P,m,q,b2⟩:=H (x:=x.nx) (sc:=sc) (dp:=dp) J () o v;have a:=q.at80;have b:=q.hi;have c:=q.lo;let⟨Q,l,r,W⟩:=H (x:=m) (sc:=sc) (dp:=dp) q.iv () o v;have a':=r.at80;have b':=r.hi;have Z:=r.lo;let⟨R,I,t,T⟩:=H (x:=l) (sc:=sc) (dp:=dp) r.iv () o v;have a'':=t.at80;have b'':=t.hi;have c'':=t.lo;have D:m.h=x.h:=q.h;have C:l.h=x.h:=r.h.trans D;erw[<-⟨.iff x.pl P Q R,I,dH (r:=P.pls++(Q.pls++R.pls)) i rfl (.iff q.wf r.wf t.wf) t.iv (by rw[t.h,C]) (by have k:=r.ks;rw[D] at k;have k':=t.ks;rw[C] at k';exact Ks.app q.ks (k.app k' () ()) () ()) () () (Cn.up0 i (q.ct.app (r.ct.app t.ct () () () ()) () () () ()) ()),⟨λ{fw d p S xx K} h L=>?_⟩⟩,cd (d:=d+(3*e+4)) ⟨5,9,t43⟩,((cb n.k).up ()).h h];have G:=zAc (o':=Ob.dct x.nx.kv) h;erw[<-pv (.bl false)<|bF<|bF<|pv (.bl false)<|bF<|pv (.bl false)<|bF ?_,(b2.up ()).h G];have F:=zAc (o':=Ob.dct m.kv) G;erw[<-pv (.bl false)<|bF<|pv (.bl false)<|bF<|pv (.bl false)<|bF ?_,(W.up ()).h F];have O:=zAc (o':=Ob.dct l.kv) F;erw[<-pv (.bl true)<|bT ?_,(T.up ()).h O];rw[zAb,zAb,zAb];exact L
end
section
variable{N:Str->Prop}{ws sc:C5}{x x':Sx}{e:Nat}{dp way:Int}
def wc(H:PH N ws e)(he:e<=14)(O:sc.length+10*e<=500)(R:dp<=e)(L:Iv x)(n:x.k<80)(hw:way=0\/7<=way):∃P x',Pn N sc (e+1) x P x'/\∀{fw d p:Nat}{S:So}{xx:D6}{K:D5}{a6 a7 a8:B8 U},at? S p=some (.dct x.nx.kv)->K P.u (set S p<|.dct x'.kv)->zHb (Gd fw<|d+(3*e+4)) [some<|.ref p,some<|scU ws,some<|scU sc,some<|.int dp,some<|.int way,some<|.int x.pl,a6,a7,a8] S (zAp xx K):=by
 have Y:=L.nx ();have k0:=L.k;have k1:x.nx.k=x.k+1:=rfl;let⟨P,C,q,b2⟩:=H (x:=x.nx) (sc:=sc) (dp:=dp) Y () O R;have a:=q.at80;have b:=q.hi;have c:=q.lo;let⟨Q,l,r,X⟩:=H (x:=C) (sc:=sc) (dp:=dp) q.iv () O R;have a':=r.at80;have b':=r.hi;have c':=r.lo;have W:C.h=x.h:=q.h;have T:l.h=x.h:=r.h.trans W;have I:Ks x.h (x.k+1) l.k<|P.pls++Q.pls:=by
  have k:=r.ks;rw[W] at k;exact Ks.app q.ks k () ()
 have t:∀{j:Int},j=3\/j=4\/j=5\/j=6->decide (way=j)=false:=λ{j} hj=>xCn ();by_cases h9:way<9
 .have F:=l.tk_le (m:=5) r.iv.ok ∅;let⟨o,Z,eo⟩:=eW (sc:=ops) (i:=l.dg 5) (l.dg_lt (m:=5) ∅);have J:(l.tk 5).k=l.k:=F.k;have h4:(l.tk 5).h=l.h:=F.h;erw[<-⟨.math x.pl o P Q,l.tk 5,dH (r:=P.pls++Q.pls) n rfl (.math Z q.wf r.wf) (r.iv.le F) (by rw[h4,T]) (by rw[J];exact I) () () (Cn.up0 n (by rw[J];exact q.ct.app r.ct () () () ()) ()),λ{fw d p S xx K a6 a7 a8} v G=>?_⟩,(b2.up ()).h v];have D:=zAc (o':=Ob.dct C.kv) v;erw[pd cz];rw[t<|.inl rfl];refine bF<|pd cz ?_;rw[t<|.inr<|.inl rfl];refine bF<|pd cz ?_;rw[t<|.inr<|.inr<|.inl rfl];erw[bF,(X.up ()).h D];have g3:=zAc (o':=Ob.dct l.kv) D;erw[pd cz];rw[t<|.inr<|.inr<|.inr rfl];erw[bF,pv (.bl<|decide<|way<9)];rw[xBd h9];erw[bT,pv (scU ops),((cu r.iv.ok ∅).up ()).h g3,pd eo];rw[zAb,zAb];exact G
 .erw[<-⟨.dd x.pl P Q,l,dH (r:=P.pls++Q.pls) n rfl (.dd q.wf r.wf) r.iv T I () () (Cn.up0 n (q.ct.app r.ct () () () ()) ()),λ{fw d p S xx K a6 a7 a8} v G=>?_⟩,(b2.up ()).h v];have D:=zAc (o':=Ob.dct C.kv) v;erw[pd cz];rw[t<|.inl rfl];refine bF<|pd cz ?_;rw[t<|.inr<|.inl rfl];refine bF<|pd cz ?_;rw[t<|.inr<|.inr<|.inl rfl];erw[bF,(X.up ()).h D,pd cz];rw[t<|.inr<|.inr<|.inr rfl];erw[bF,pv (.bl<|decide<|way<9)];rw[xCn h9];erw[bF];rw[zAb];exact G
def qb(H:PH N ws e)(i:e<=14)(c:sc.length+10*e<=500)(l:dp<=e)(b:Iv x)(a:x.k<80)(t:0<=way/\way<12):∃P x',Pn N sc (e+1) x P x'/\Bl x 43 [scU ws,scU sc,.int dp,.int way] (3*e+5) P.u x':=by
 have m:(way=0/\sc.isEmpty=true\/7<=way)->∃P x',Pn N sc (e+1) x P x'/\Bl x 43 [scU ws,scU sc,.int dp,.int way] (3*e+5) P.u x':=λo=>by
  let⟨P,x',q,f⟩:=wc (way:=way) H i c l b a ();erw[<-⟨P,x',q,⟨λ{fw d p S xx K} h n=>?_⟩⟩,cd (d:=d+(3*e+4)) ⟨5,9,t43⟩,((cb b.k).up ()).h h];have r:=zAc (o':=Ob.dct x.nx.kv) h;erw[pd cz];have go:(sQ (Ja (Jf J9 Jg)<|J5<|Js (J3 "make") Jc (Je 42 J0)<|Jo 38<|Jl J0 J1 J7 J8)<|sQ (Ja (Jf J9 Jq)<|J5<|Jj (J3 "ask") Jc) zHb) (Gd fw<|d+(3*e+4)) [some<|.ref p,some<|scU ws,some<|scU sc,some<|.int dp,some<|.int way,some<|.int x.pl,none,none,none] (set S p<|.dct x.nx.kv)<|zAp xx K:=by
   erw[pd cz];rw[xCn ()];refine bF<|pd cz ?_;rw[xCn ()];erw[bF];exact f r (by rw[zAb];exact n)
  by_cases h0:way=0
  .rw[xBd h0];erw[bT,pv (.lst []),pd fh];rw[show sc.isEmpty=true by rcases o with z|z;exact z.2;lia];erw[bF];exact go
  .rw[xCn h0];refine bF<|bF ?_;exact go
 rcases(show way=0\/way=1\/way=2\/way=3\/way=4\/way=5\/way=6\/7<=way by lia) with h|h|h|h|h|h|h|h
 .cases hs:sc.isEmpty with
  |true=>exact m (.inl ⟨h,hs⟩)
  |false=>rw[h];exact nY H i c l b a hs
 .rw[h];exact kK H i c l b a
 .rw[h];exact nZ b a
 .rw[h];exact jE H i c l b a
 .rw[h];exact kL H i c l b a
 .rw[h];exact kJ H i c l b a
 .rw[h];exact p9 H i c l b a
 .exact m<|.inr h
end
section
variable{N:Str->Prop}{ws sc:C5}{x x':Sx}{e:Nat}{dp way:Int}
def dW{xs:C5}(h:sc.length+xs.length<=1000):pr ups (.add false) [scU sc,scU xs] S=.ok (scU<|sc++xs) S:=by
 show fits ((sc.map U.str).length+(xs.map U.str).length) (.ok (.lst<|sc.map .str++xs.map .str) S)=_;rw[zA6 (by rw[xAa,xAa];show _<=2^24;lia),<- xAi];rfl
def pZ{xs:C5}:pr ups (.lstOf false) [.tup<|xs.map .str] S=.ok (scU xs) S:=rfl
def Nms.z{xs:C5}(h:Nms ws xs)(b:∀y∈ws,N y):Nmz N xs:=⟨λy a=>b y<|h.sub y a,h.few,h.nd⟩
def gq(n:Iv x)(o:x.k<9000)(q:ws.length=5)(D:ws.Nodup):∃xs y l,Nms ws xs/\y∈ws/\x.nx.Le l/\∀{fw d p:Nat}{S:So}{xx:D6}{K:D5}{dp way:Int},at? S p=some (.dct x.kv)->rz6 (Gd fw<|d+2) [some<|.ref p,some<|scU ws,some<|scU sc,some<|.int dp,some<|.int way,some<|.int x.pl,some<|.tup<|xs.map .str,some<|.str y,none,none,none] (set S p<|.dct l.kv) (zAp xx K)->(Gd fw<|d+3).call 41 [.ref p,scU ws,scU sc,.int dp,.int way] S xx K:=by
 have v:=n.nx ();let⟨xs,a,c,b,b2⟩:=ia (ws:=ws) v.ok q D;have t:=a.tk_le (m:=5) b.ok ∅;let⟨y,C,G⟩:=eW (sc:=ws) (i:=a.dg 5) (by have:=a.dg_lt (m:=5) ∅;lia);erw[<-⟨xs,y,a.tk 5,c,C,b.trans t,λ{fw d p S xx K dp way} h o=>?_⟩,cd (d:=d+2) ⟨5,11,t41⟩,((cb n.k).up ()).h h];have r:=zAc (o':=Ob.dct x.nx.kv) h;erw[b2.h r];have F:=zAc (o':=Ob.dct a.kv) r;erw[pd (fi q),((cu b.ok ∅).up ()).h F,pd G];rw[zAb,zAb];exact o
end
section
variable{N:Str->Prop}{ws sc:C5}{x x':Sx}{e:Nat}{dp way:Int}
def bind_fn(H:PH N ws e)(O:∀y∈ws,N y)(Q:ws.length=5)(I:ws.Nodup)(he:e<=14)(Z:sc.length+10*(e+1)<=500)(L:dp<=e)(o:Iv x)(l:x.k<80):∃P x',Pn N sc (e+1) x P x'/\Bl x 41 [scU ws,scU sc,.int dp,.int 0] (3*e+5) P.u x':=by
 have G:=o.nx ();have X:=o.k;have k1:x.nx.k=x.k+1:=rfl;let⟨t,y,m,i,Y,n,f⟩:=gq (sc:=sc) o () Q I;have F:=G.le n;have v:m.k=x.k+1:=n.k;have C:m.h=x.h:=n.h;have T:=i.few;let⟨P,D,q,W⟩:=H (x:=m) (sc:=sc++t) (dp:=dp) F () (by rw[xAb];lia) L;have a:=q.at80;have b:=q.hi;have c:=q.lo;erw[<-⟨.fn x.pl t P,D,dH (r:=P.pls) l rfl (.fn (i.z O) q.wf) q.iv (by rw[q.h,C]) (by have:=q.ks;rw[C,v] at this;exact this) () ()<|.up1 l (by have:=q.ct;rw[v] at this;exact this),⟨λ{fw d p S xx K} h J=>?_⟩⟩,f (d:=d+(3*e+2)) h];have R:=zAc (o':=Ob.dct m.kv) h;erw[<-pv (.bl true)<|bT ?_,pd pZ,pd (dW ()),(W.up (lv':=3*e+4) ()).h (d:=d) R];rw[zAb];exact J
def sG(H:PH N ws e)(W:∀y∈ws,N y)(X:ws.length=5)(R:ws.Nodup)(he:e<=14)(hl:sc.length+10*(e+1)<=500)(v:dp<=e)(o:Iv x)(i:x.k<80):∃P x',Pn N sc (e+1) x P x'/\Bl x 41 [scU ws,scU sc,.int dp,.int 1] (3*e+5) P.u x':=by
 have J:=o.nx ();have k0:=o.k;have k1:x.nx.k=x.k+1:=rfl;let⟨xs,y,l,O,L,n,f⟩:=gq (sc:=sc) o () X R;have I:=J.le n;have t:l.k=x.k+1:=n.k;have D:l.h=x.h:=n.h;let⟨P,m,q,b4⟩:=H (x:=l) (sc:=sc) (dp:=dp) I () () v;have a:=q.at80;have b:=q.hi;have c:=q.lo;let⟨Q,G,r,Z⟩:=H (x:=m) (sc:=sc++[y]) (dp:=dp) q.iv () (by rw[xAb,xAt];lia) v;have a':=r.at80;have b':=r.hi;have c':=r.lo;have C:m.h=x.h:=q.h.trans D;erw[<-⟨.lt x.pl y P Q,G,dH (r:=P.pls++Q.pls) i rfl (.lt (W y L) q.wf r.wf) r.iv (by rw[r.h,C]) (by have k:=r.ks;rw[C] at k;have k':=q.ks;rw[D,t] at k';exact Ks.app k' k () ()) () ()<|Cn.up1 i (by have:=q.ct;rw[t] at this;exact this.app r.ct () () () ()),⟨λ{fw d p S xx K} h T=>?_⟩⟩,f (d:=d+(3*e+2)) h];have F:=zAc (o':=Ob.dct l.kv) h;erw[<-pv (.bl false)<|bF<|pv (.bl true)<|bT ?_,(b4.up (lv':=3*e+4) ()).h (d:=d) F];have Y:=zAc (o':=Ob.dct m.kv) F;erw[pv (scU [y]),pd (dW<|by rw[xAt];lia),(Z.up (lv':=3*e+4) ()).h (d:=d) Y];rw[zAb,zAb];exact T
def sD(H:PH N ws e)(hN:∀y∈ws,N y)(h5:ws.length=5)(hn:ws.Nodup)(he:e<=14)(hl:sc.length+10*(e+1)<=500)(G:dp<=e)(F:Iv x)(l:x.k<80):∃P x',Pn N sc (e+1) x P x'/\Bl x 41 [scU ws,scU sc,.int dp,.int 2] (3*e+5) P.u x':=by
 have i1:=F.nx ();have k0:=F.k;have k1:x.nx.k=x.k+1:=rfl;let⟨I,y,x3,i,hy,D,f⟩:=gq (sc:=sc) F () h5 hn;have few:=i.few;have L:=i1.le D;let⟨w,n,hw,C,b4⟩:=fV L.ok;have i4:=L.le C;have J:n.k=x.k+1:=C.k.trans D.k;have T:n.h=x.h:=C.h.trans D.h;let⟨P,v,q,b5⟩:=H (x:=n) (sc:=sc) (dp:=dp) i4 () () G;have a:=q.at80;have b:=q.hi;have c:=q.lo;let⟨Q,o,r,b6⟩:=H (x:=v) (sc:=sc++I) (dp:=dp) q.iv () (by rw[xAb];lia) G;have a':=r.at80;have b':=r.hi;have c':=r.lo;let⟨R,Z,t,b7⟩:=H (x:=o) (sc:=sc) (dp:=dp) r.iv () () G;have a'':=t.at80;have b'':=t.hi;have c'':=t.lo;have m:v.h=x.h:=q.h.trans T;have O:o.h=x.h:=r.h.trans m;erw[<-⟨.mat x.pl P w I Q R,Z,dH (r:=P.pls++(Q.pls++R.pls)) l rfl (.mat hw (i.z hN) q.wf r.wf t.wf) t.iv (by rw[t.h,O]) (by have k:=r.ks;rw[m] at k;have k':=t.ks;rw[O] at k';have k'':=q.ks;rw[T,J] at k'';exact Ks.app k'' (k.app k' () ()) () ()) () ()<|Cn.up1 l (by have:=q.ct;rw[J] at this;exact this.app (r.ct.app t.ct () () () ()) () () () ()),⟨λ{fw d p S xx K} h hk=>?_⟩⟩,f (d:=d+(3*e+2)) h];have Y:=zAc (o':=Ob.dct x3.kv) h;erw[<-pv (.bl false)<|bF<|pv (.bl false)<|bF ?_,(b4.up (lv':=3*e+4) ()).h (d:=d) Y];have X:=zAc (o':=Ob.dct n.kv) Y;erw[(b5.up (lv':=3*e+4) ()).h (d:=d) X];have W:=zAc (o':=Ob.dct v.kv) X;erw[<-pv (.bl true)<|bT ?_,pd pZ,pd (dW ()),(b6.up (lv':=3*e+4) ()).h (d:=d) W];have g6:=zAc (o':=Ob.dct o.kv) W;erw[(b7.up (lv':=3*e+4) ()).h (d:=d) g6];rw[zAb,zAb,zAb,zAb];exact hk
def sC(H:PH N ws e)(hN:∀y∈ws,N y)(h5:ws.length=5)(Z:ws.Nodup)(he:e<=14)(hl:sc.length+10*(e+1)<=500)(G:dp<=e)(v:Iv x)(i:x.k<80)(F:3<=way):∃P x',Pn N sc (e+1) x P x'/\Bl x 41 [scU ws,scU sc,.int dp,.int way] (3*e+5) P.u x':=by
 have W:=v.nx ();have k0:=v.k;have k1:x.nx.k=x.k+1:=rfl;let⟨xs,y,R,Y,X,t,f⟩:=gq (sc:=sc) v () h5 Z;have D:=W.le t;let⟨w,m,F,o,b4⟩:=fV D.ok;have T:=D.le o;have C:m.k=x.k+1:=o.k.trans t.k;have I:m.h=x.h:=o.h.trans t.h;let⟨P,n,q,b5⟩:=H (x:=m) (sc:=sc) (dp:=dp) T () () G;have a:=q.at80;have b:=q.hi;have c:=q.lo;let⟨Q,O,r,b6⟩:=H (x:=n) (sc:=sc++[y]) (dp:=dp) q.iv () (by rw[xAb,xAt];lia) G;have a':=r.at80;have b':=r.hi;have c':=r.lo;have l:n.h=x.h:=q.h.trans I;erw[<-⟨.try_ x.pl P w y Q,O,dH (r:=P.pls++Q.pls) i rfl (.try_ F (hN y X) q.wf r.wf) r.iv (by rw[r.h,l]) (by have k:=r.ks;rw[l] at k;have k'':=q.ks;rw[I,C] at k'';exact Ks.app k'' k () ()) () ()<|Cn.up1 i (by have:=q.ct;rw[C] at this;exact this.app r.ct () () () ()),⟨λ{fw d p S xx K} h hk=>?_⟩⟩,f (d:=d+(3*e+2)) h];have L:=zAc (o':=Ob.dct R.kv) h;erw[pd cz];rw[xCn ()];refine bF<|pd cz ?_;rw[xCn ()];erw[bF,(b4.up (lv':=3*e+4) ()).h (d:=d) L];have J:=zAc (o':=Ob.dct m.kv) L;erw[(b5.up (lv':=3*e+4) ()).h (d:=d) J];have g5:=zAc (o':=Ob.dct n.kv) J;erw[pd cz];rw[xCn ()];erw[bF,pv (scU [y]),pd (dW<|by rw[xAt];lia),(b6.up (lv':=3*e+4) ()).h (d:=d) g5];rw[zAb,zAb,zAb];exact hk
def vn(H:PH N ws e)(n:∀y∈ws,N y)(o:ws.length=5)(c:ws.Nodup)(l:e<=14)(i:sc.length+10*(e+1)<=500)(m:dp<=e)(b:Iv x)(a:x.k<80)(p:0<=way):∃P x',Pn N sc (e+1) x P x'/\Bl x 41 [scU ws,scU sc,.int dp,.int way] (3*e+5) P.u x':=by
 rcases(show way=0\/way=1\/way=2\/3<=way by lia) with h|h|h|h
 .rw[h];exact bind_fn H n o c l i m b a
 .rw[h];exact sG H n o c l i m b a
 .rw[h];exact sD H n o c l i m b a
 .exact sC H n o c l i m b a h
end
section
variable{N:Str->Prop}{ws sc:C5}{x x':Sx}{e:Nat}{dp way:Int}
def Ks.ins{h lo c hi:Int}{l m r:C8}(a:Ks h lo c<|l++r)(b:Ks h c hi m)(H:lo<=c)(G:c<=hi):Ks h lo hi<|l++(m++r):=by
 let⟨F,e,v,b1⟩:=a;let⟨C,rfl,t,b2⟩:=b;let⟨k1,k2,rfl,rfl,rfl⟩:=List.map_eq_append_iff.mp e.symm;let⟨q,p,o⟩:=xBq.mp v;refine⟨k1++(C++k2),by rw[xAi,xAi],xBq.mpr ⟨q,xBq.mpr ⟨t,p,λx i y n e=>?_⟩,λx i y n e=>?_⟩,λk D=>?_⟩
 .have:=b1 y<|xBt _ n;have:=b2 x i;lia
 .rcases xAj.mp n with z|z
  .have:=b1 x<|xBw _ i;have:=b2 y z;lia
  .exact o x i y z e
 .rcases xAj.mp D with z|z
  .have:=b1 k<|xBw _ z;lia
  .rcases xAj.mp z with z|z
   .have:=b2 k z;lia
   .have:=b1 k<|xBt _ z;lia
def dN{a b:Int}:pr ups .sub [.int a,.int b] S=.ok (.int<|a-b) S:=rfl
theorem pN{y:Str}(H:PH N ws e)(l:(sc++[y]).length+10*e<=500)(C:dp<=e+3):∀{xs:C5}{x:Sx},Iv x->x.k+40*e+10*xs.length<=2000->xs.length<=4->82+6*e+40*e<=1900->∃as x',as.length=xs.length/\Pts N (sc++[y]) e x as x'/\∀{fw d p:Nat}{S:So}{K:D5}{ys:C6},at? S p=some (.dct x.kv)->K (.lst<|ys++Pg.us as) (set S p<|.dct x'.kv)->lcK (Gd fw<|d+(3*e+4)) (lcB [1] true [none,none,some<|.ref p,some<|scU sc,some<|scU ws,some<|.str y,some<|.int dp] none (Jo 45<|Jl J7 J9 (J2 (.add false) J8<|J6 (.lst false) Jc)<|J2 .sub Jh Jr)<|Gd fw<|d+(3*e+4)) (xs.map .str) ys S K
 | [],x,i,_,_,_=>⟨[],x,rfl,⟨λ_ z=>(nomatch z),i,rfl,.nil,xBu _,λ_=>⋯,.inl ⋯,λ_=>⟨λ_=>rfl,λ_=>by show 45 * ((0:Nat):Int)+0<=_;lia,λ_ _=>()⟩⟩,λ{fw d p S K ys} h b=>by
  rw[Pg.us,xB0,zBh h] at b;exact b⟩
 |z::xs,x,i,b,r,hb=>by
  rw[xAo] at b r;let⟨P,n,p1,b1⟩:=H (x:=x) (sc:=sc++[y]) (dp:=dp-3) i () l ();have o:=p1.lo;have v:=p1.hi;let⟨as,m,D,q,f⟩:=pN H l C (xs:=xs) (x:=n) p1.iv () () hb;have c:=q.lo;have t:=q.hi;have a1:=p1.at80;have F:=q.at80;refine⟨P::as,m,by rw[xAo,xAo,D],⟨λa ha=>?_,q.iv,q.h.trans p1.h,?_,(),λz=>?_,?_,λz=>(p1.ct.app (q.ct z) () () () c).w () (xAg _) (xBu _)<|.inr rfl⟩,λ{fw d p S K ys} h b=>?_⟩
  .rcases xAv.mp ha with rfl|ha
   .exact p1.wf
   .exact q.wf a ha
  .have k2:=q.ks;rw[p1.h] at k2;exact p1.ks.app k2 () c
  .rw[xAo];have:=a1 z;have:=F ();lia
  .rw[xAo];lia
  .erw[pv (scU [y]),pd (dW<|by rw[xAb] at l;lia),pd dN,(b1.up (lv':=3*e+4) ()).h (d:=d) h,f (zAc h)];rw[zAb,xAx];exact b
end
section
variable{N:Str->Prop}{ws sc:C5}{x x':Sx}{e:Nat}{dp way:Int}
def oG(H:PH N ws e)(hN:∀y∈ws,N y)(J:ws.length=5)(hn:ws.Nodup)(he:e<=11)(hl:sc.length+10*(e+3)<=500)(hd:dp<=e+3)(T:Iv x)(h80:x.k<80):∃P x',Pn N sc (e+3) x P x'/\Bl x 44 [scU ws,scU sc,.int dp] (3*e+5) P.u x':=by
 have k0:=T.k;have l1:=x.tk_le (m:=5) T.ok ∅;let⟨y,hy,ey⟩:=eW (sc:=ws) (i:=x.dg 5) (by have:=x.dg_lt (m:=5) ∅;lia);let⟨xs,x2,O,Z,b2⟩:=ia (ws:=ws) l1.ok J hn;have l2:=l1.trans Z;have few:=O.few;have i2:=T.le l2;have k2:x2.k=x.k:=l2.k;have I:x2.h=x.h:=l2.h;have j2:=i2.nx ();have m2:x2.nx.k=x.k+1:=by show x2.k+1=_;lia
 let⟨B,x3,q,b3⟩:=H (x:=x2.nx) (sc:=sc++xs) (dp:=dp-3) j2 () (by rw[xAb];lia) ();have c:=q.lo;have u3:x3.k<=82+6*(e:Int):=by have:=q.hi;lia
 have G:x3.h=x.h:=q.h.trans I;have j3:=q.iv.nx ();have m3:x3.nx.k=x3.k+1:=rfl;let⟨n,x5,n4,r,f⟩:=pN (sc:=sc) (y:=y) (dp:=dp) (xs:=xs) (x:=x3.nx) H (by rw[xAb,xAt];lia) hd j3 () few ();have c':=r.lo;have u5:x5.k<=87+6*(e:Int):=by have:=r.hi;lia
 have F:x5.h=x.h:=r.h.trans G;have j5:=r.iv.nx ();have m5:x5.nx.k=x5.k+1:=rfl;have R:=j5.nx ();have m6:x5.nx.nx.k=x5.k+2:=by show x5.k+1+1=_;lia
 have Y:=x5.nx.nx.tk_le (m:=2) R.ok ∅;have j7:=R.le Y;have X:(x5.nx.nx.tk 2).k=x5.k+2:=Y.k.trans m6;have W:(x5.nx.nx.tk 2).h=x.h:=Y.h.trans F;have k3:Ks x.h x.k x3.k<|x2.pl::B.pls:=by
  have k:=q.ks;rw[m2,show x2.nx.h=x.h from I] at k;have:=Ks.cons (h:=x.h) (lo:=x.k) (k:=x.k+1) () (xBu _) k ();rw[show x2.pl=zBo x.h (x.k+1) by show zBo x2.h (x2.k+1)=_;rw[I,k2]];exact this
 have k4:Ks x.h x.k (x3.k+1)<|x3.pl::(x2.pl::B.pls):=by
  have o:Ks x.h x3.k (x3.k+1) [x3.pl]:=by
   rw[show x3.pl=zBo x.h (x3.k+1) by show zBo x3.h (x3.k+1)=_;rw[G]];exact Ks.one () ()
  exact Ks.ins (l:=[]) k3 o () ()
 have kC:Ks x.h (x3.k+1) (x5.k+2)<|x5.pl::x5.nx.pl::Pg.plss n:=by
  have k:=r.ks;rw[m3,show x3.nx.h=x.h from G] at k;have o:Ks x.h x5.k (x5.k+2) [x5.pl,x5.nx.pl]:=by
   rw[show x5.pl=zBo x.h (x5.k+1) by show zBo x5.h (x5.k+1)=_;rw[F],show x5.nx.pl=zBo x.h (x5.k+2) by show zBo x5.h (x5.k+1+1)=_;rw[F];exact congrArg _ ()];exact Ks.cons () (xBu _) (Ks.one () ()) ()
  exact Ks.ins (l:=[]) k o () ()
 have C:=q.ct;rw[m2] at C;have a:=r.ct ();rw[m3] at a;have wF:Wf N sc (e+2)<|.fn x2.pl xs B:=(Wf.fn (O.z hN) q.wf).up ();have wC:Wf N (sc++[y]) (e+1)<|.call x5.pl (.nam x5.nx.pl y) n:=.call (.nam ⋯) r.wf ();have L:∀{fw d p:Nat}{S:So}{xx:D6}{K:D5},at? S p=some (.dct x.kv)->(at? (set S p<|.dct x5.nx.nx.kv) p=some (.dct x5.nx.nx.kv)->rz2 (Gd fw<|d+(3*e+4)) [some<|.ref p,some<|scU ws,some<|scU sc,some<|.int dp,some<|.str y,some<|.tup<|xs.map .str,some<|Pg.u<|.fn x2.pl xs B,some<|.int x3.pl,some<|.tup<|Pg.us n,some<|Pg.u<|.call x5.pl (.nam x5.nx.pl y) n] (set S p<|.dct x5.nx.nx.kv) (zAp xx K))->(Gd fw<|d+(3*e+5)).call 44 [.ref p,scU ws,scU sc,.int dp] S xx K:=λ{fw d p S xx K} h Q=>by
  erw[cd (d:=d+(3*e+4)) ⟨4,10,t44⟩,pd (fi J),((cu T.ok ∅).up (lv':=3*e+4) ()).h (d:=d) h];have g1:=zAc (o':=Ob.dct (x.tk 5).kv) h;erw[pd ey,(b2.up (lv':=3*e+4) ()).h (d:=d) g1];have g2:=zAc (o':=Ob.dct x2.kv) g1;erw[((cb i2.k).up (lv':=3*e+4) ()).h (d:=d) g2];have g3:=zAc (o':=Ob.dct x2.nx.kv) g2;erw[pd pZ,pd (dW ()),pd dN,(b3.up (lv':=3*e+4) ()).h (d:=d) g3];have g4:=zAc (o':=Ob.dct x3.kv) g3;erw[((cb q.iv.k).up (lv':=3*e+4) ()).h (d:=d) g4];have g5:=zAc (o':=Ob.dct x3.nx.kv) g4;erw[pv (.tup<|xs.map .str),<-bI (λ_=>?_) λz=>?_]
  .erw[f g5];rw[xC6];erw[pv (.tup<|Pg.us n)];have g6:=zAc (o':=Ob.dct x5.kv) g5;erw[((cb r.iv.k).up (lv':=3*e+4) ()).h (d:=d) g6];have g7:=zAc (o':=Ob.dct x5.nx.kv) g6;erw[((cb j5.k).up (lv':=3*e+4) ()).h (d:=d) g7];rw[zAb,zAb,zAb,zAb,zAb,zAb,zAb];exact Q<|zAc h
  .rw[xAa,xDk<|show xs.length<=sizeLine by show _<=2^24;lia] at z;cases z
 by_cases hb:x5.nx.nx.dg 2=1
 .let⟨D,v,t,b10⟩:=H (x:=(x5.nx.nx.tk 2).nx) (sc:=sc++[y]) (dp:=dp-3) (j7.nx ()) (by show(x5.nx.nx.tk 2).k+1+_<=_;lia) (by rw[xAb,xAt];lia) ();have m8:(x5.nx.nx.tk 2).nx.k=x5.k+3:=by show(x5.nx.nx.tk 2).k+1=_;lia
  have c'':=t.lo;have u10:v.k<=100+6*(e:Int):=by have:=t.hi;lia
  have kD:Ks x.h (x3.k+1) v.k<|(x5.nx.nx.tk 2).pl::(x5.pl::x5.nx.pl::Pg.plss n)++D.pls:=by
   have o:Ks x.h (x5.k+2) (x5.k+3) [(x5.nx.nx.tk 2).pl]:=by
    rw[show(x5.nx.nx.tk 2).pl=zBo x.h (x5.k+3) by show zBo (x5.nx.nx.tk 2).h ((x5.nx.nx.tk 2).k+1)=_;rw[W,X];congr 1;lia];exact Ks.one () ()
   have k:=t.ks;rw[m8,show(x5.nx.nx.tk 2).nx.h=x.h from W] at k;exact Ks.app (Ks.ins (l:=[]) kC o () ()) k () ()
  have ct:Cn (42-3*((e+3:Nat):Int)) (B.cnt+1+(0+Pg.cnts n+D.cnt)+1) (e+3) x.k v.k:=by
   have ct:=t.ct;rw[m8] at ct;refine⟨λh=>absurd h (),λh=>?_,λ_ h=>?_⟩
   .have:=C.b ();have:=a.b ();have:=ct.b h;lia
   .by_cases G:x3.k<80
    .have:=C.b G;by_cases J:x5.k<80
     .have:=a.b J;by_cases h6:x5.k+3<80
      .have:=ct.c h6 h;lia
      .have:=ct.z ();lia
     .have:=ct.z ();by_cases h4:x3.k+1<80
      .have:=a.c h4 ();lia
      .have:=a.z ();lia
    .have:=a.z ();have:=ct.z ();by_cases I:x.k+1<80
     .have:=C.c I ();lia
     .have:=C.z ();lia
  erw[<-⟨.lt x3.pl y (.fn x2.pl xs B)<|.dd (x5.nx.nx.tk 2).pl (.call x5.pl (.nam x5.nx.pl y) n) D,v,⟨.lt (hN y hy) wF (.dd wC<|t.wf.up ()),t.iv,t.h.trans W,k4.app kD () (),(),(),ct⟩,⟨λ{fw d p S xx K} h Q=>?_⟩⟩,<-L h λg=>?_,((cu R.ok ∅).up (lv':=3*e+4) ()).h (d:=d) g];have g8:=zAc (o':=Ob.dct (x5.nx.nx.tk 2).kv) g;erw[pd cz];rw[xBd hb];erw[bT,((cb j7.k).up (lv':=3*e+4) ()).h (d:=d) g8];have g9:=zAc (o':=Ob.dct (x5.nx.nx.tk 2).nx.kv) g8;erw[pv (scU [y]),pd (dW<|by rw[xAt];lia),pd dN,(b10.up (lv':=3*e+4) ()).h (d:=d) g9];rw[zAb,zAb,zAb];exact Q
 .have ct:Cn (42-3*((e+3:Nat):Int)) (B.cnt+1+(0+Pg.cnts n)+1) (e+3) x.k<|x5.k+2:=by
   refine⟨λh=>absurd h (),λh=>?_,λ_ h=>?_⟩
   .have:=C.b ();have:=a.b ();lia
   .by_cases G:x3.k<80
    .have:=C.b G;by_cases J:x5.k<80
     .have:=a.b J;lia
     .by_cases h4:x3.k+1<80
      .have:=a.c h4 ();lia
      .have:=a.z ();lia
    .have:=a.z ();by_cases I:x.k+1<80
     .have:=C.c I ();lia
     .have:=C.z ();lia
  erw[<-⟨.lt x3.pl y (.fn x2.pl xs B)<|.call x5.pl (.nam x5.nx.pl y) n,x5.nx.nx.tk 2,⟨.lt (hN y hy) wF (wC.up ()),j7,W,by rw[X];exact k4.app kC () (),(),(),by rw[X];exact ct⟩,⟨λ{fw d p S xx K} h Q=>?_⟩⟩,<-L h λg=>?_,((cu R.ok ∅).up (lv':=3*e+4) ()).h (d:=d) g,pd cz];rw[xCn hb];erw[bF];rw[zAb];exact Q
end
section
variable{N:Str->Prop}{ws sc:C5}{x x':Sx}{e:Nat}{dp way:Int}
def nxs:Nat->Sx->Sx
 |0,x=>x
 |n+1,x=>nxs n x.nx
def pln:Nat->Sx->C8
 |0,_=>[]
 |n+1,x=>x.pl::pln n x.nx
theorem kQ:∀{n:Nat}{x:Sx},Iv x->x.k+n<=9000->Iv (nxs n x)/\(nxs n x).k=x.k+n/\(nxs n x).h=x.h
 |0,x,i,_=>⟨i,by show x.k=_;lia,rfl⟩
 |n+1,x,i,l=>by
  have k1:x.nx.k=x.k+1:=rfl;let⟨a,b,c⟩:=kQ (n:=n) (i.nx ()) ();exact⟨a,by show(nxs n x.nx).k=_;lia,c⟩
theorem pO:∀{n:Nat}{x:Sx}{lo fw d p:Nat}{S:So}{K:D5}{ys:C6},Iv x->x.k+n<=9000->at? S p=some (.dct x.kv)->K (.lst<|ys++(pln n x).map .int) (set S p<|.dct (nxs n x).kv)->lcK (Gd fw<|d+2) (lcB [1] true [none,none,some<|.ref p] none (Je 36 J7)<|Gd fw<|d+2) (zBx (lo:Int) n) ys S K
 |0,x,lo,fw,d,p,S,K,ys,b,_,h,a=>by
  rw[pln,List.map_nil,xB0,nxs,zBh h] at a;exact a
 |n+1,x,lo,fw,d,p,S,K,ys,b,c,h,a=>by
  have k1:x.nx.k=x.k+1:=rfl;erw[((cb b.k).up (lv':=2) ()).h (d:=d) h,pO (lo:=lo+1) (b.nx ()) () (zAc h)];rw[zAb,xAx];exact a
def zJ7{h k:Int}:Ks h k (k+14)<|[k+13,k+14,k+7,k+8,k+9,k+4,k+5,k+6,k+1,k+2,k+3,k+10,k+11,k+12].map<|zBo h:=by
 refine⟨_,rfl,?_,λj c=>?_⟩
 .have:[(13:Int),14,7,8,9,4,5,6,1,2,3,10,11,12].Nodup:=by decide
  exact List.Pairwise.map (λj=>k+j) (λa b h=>by omega) this
 .simp only[xAv,xBv,or_false] at c;omega
end
section
variable{N:Str->Prop}{ws sc:C5}{x x':Sx}{e:Nat}{dp way:Int}
def zEa(z:Sx)(y:Str)(A B:Pg)(d s m:Int):Pg:=.lt (nxs 12 z).pl y (.num (nxs 13 z).pl 0)<|.dd d (.st s y<|.fn (nxs 6 z).pl ["n"]<|.iff (nxs 7 z).pl (.nam (nxs 8 z).pl "n") (.dd (nxs 3 z).pl A<|.call (nxs 4 z).pl (.nam (nxs 5 z).pl y) [.math (nxs 0 z).pl "sub" (.nam (nxs 1 z).pl "n")<|.num (nxs 2 z).pl 1]) B)<|.call (nxs 9 z).pl (.nam (nxs 10 z).pl y) [.num (nxs 11 z).pl m]
def Aq{z:Sx}{d s m:Int}(l:N "n")(i:N y)(n:2<=e)(c:Wf N (sc++[y,"n"]) e A)(hB:Wf N (sc++[y,"n"]) e B)(p:0<=m/\m<8):Wf N sc (e+6)<|zEa z y A B d s m:=by
 have o:sc++[y,"n"]=sc++[y]++[("n":Str)]:=by simp
 rw[o] at c hB;have hq:Wf N (sc++[y]++[("n":Str)]) 2<|.call (nxs 4 z).pl (.nam (nxs 5 z).pl y) [.math (nxs 0 z).pl "sub" (.nam (nxs 1 z).pl "n")<|.num (nxs 2 z).pl 1]:=by
  refine .call (.nam ⋯) (λa b=>?_) (by rw[xAt];decide);rw[xAm.mp b];exact .math ∅ (.nam ⋯) (.num ∅ ∅)
 have k:Wf N (sc++[y]) (e+4)<|.call (nxs 9 z).pl (.nam (nxs 10 z).pl y) [.num (nxs 11 z).pl m]:=by
  refine .call (.nam ⋯) (λa b=>?_) (by rw[xAt];decide);rw[xAm.mp b];exact .num () ()
 refine .lt i (.num ∅ ∅)<|.dd (.st ⋯<|.fn ⟨λq hq=>?_,∅,⋯⟩<|.iff (.nam ⋯) (.dd c<|hq.up n)<|hB.up ()) k;rw[xAm.mp hq];exact l
def Av{z:Sx}{d s m c:Int}{h k:Int}(a:∀i:Nat,i<14->(nxs i z).pl=zBo h (k+i+1))(v:Ks h (k+14) k1 A.pls)(t:Ks h k1 k2 B.pls)(q:Ks h k2 c [d,s])(p:k+14<=k1)(o:k1<=k2)(n:k2<=c):Ks h k c (zEa z y A B d s m).pls:=by
 have b:=zJ7 (h:=h) (k:=k);have C:[k+13,k+14,k+7,k+8,k+9,k+4,k+5,k+6,k+1,k+2,k+3,k+10,k+11,k+12].map (zBo h)=[(nxs 12 z).pl,(nxs 13 z).pl,(nxs 6 z).pl,(nxs 7 z).pl,(nxs 8 z).pl,(nxs 3 z).pl,(nxs 4 z).pl,(nxs 5 z).pl,(nxs 0 z).pl,(nxs 1 z).pl,(nxs 2 z).pl,(nxs 9 z).pl,(nxs 10 z).pl,(nxs 11 z).pl]:=by
  rw[a 0 ∅,a 1 ∅,a 2 ∅,a 3 ∅,a 4 ∅,a 5 ∅,a 6 ∅,a 7 ∅,a 8 ∅,a 9 ∅,a 10 ∅,a 11 ∅,a 12 ∅,a 13 ∅];simp only[xBs,List.map_nil,Int.add_assoc];rfl
 rw[C] at b;have b1:=Ks.ins (l:=[(nxs 12 z).pl,(nxs 13 z).pl,(nxs 6 z).pl,(nxs 7 z).pl,(nxs 8 z).pl,(nxs 3 z).pl]) (r:=[(nxs 4 z).pl,(nxs 5 z).pl,(nxs 0 z).pl,(nxs 1 z).pl,(nxs 2 z).pl,(nxs 9 z).pl,(nxs 10 z).pl,(nxs 11 z).pl]) b v () p;have b2:=Ks.ins (l:=[(nxs 12 z).pl,(nxs 13 z).pl,(nxs 6 z).pl,(nxs 7 z).pl,(nxs 8 z).pl,(nxs 3 z).pl]++(A.pls++[(nxs 4 z).pl,(nxs 5 z).pl,(nxs 0 z).pl,(nxs 1 z).pl,(nxs 2 z).pl])) (r:=[(nxs 9 z).pl,(nxs 10 z).pl,(nxs 11 z).pl]) (by simpa using b1) t () o;have D:=Ks.ins (l:=[(nxs 12 z).pl,(nxs 13 z).pl]) (r:=[(nxs 6 z).pl,(nxs 7 z).pl,(nxs 8 z).pl,(nxs 3 z).pl]++(A.pls++([(nxs 4 z).pl,(nxs 5 z).pl,(nxs 0 z).pl,(nxs 1 z).pl,(nxs 2 z).pl]++(B.pls++[(nxs 9 z).pl,(nxs 10 z).pl,(nxs 11 z).pl])))) (by simpa using b2) q () n;simpa [zEa,Pg.pls,Pg.plss] using D
end
section
variable{N:Str->Prop}{ws sc:C5}{x x':Sx}{e:Nat}{dp way:Int}
structure Ixs(L:C6)(c:Nat->Int):Prop where
 h:∀{i:Nat}{S:So},i<14->pr ups .ix [.lst L,.int (i:Int)] S=.ok (.int (c i)) S
def Ar{z:Sx}{L:C6}{c:Nat->Int}{a:U}(b:Ixs L c)(l:Iv z)(F:z.k<9000){p:Nat}{K:D5}{C v:B8 U}(h:at? S p=some (.dct z.kv))(k:K (.tup [.str "let",.int<|c 12,.str y,.tup [.str "number",.int<|c 13,.int 0],.tup [.str "do",.int (z.tk 8).pl,.tup [.str "set",.int (z.tk 8).nx.pl,.str y,a],.tup [.str "call",.int<|c 9,.tup [.str "name",.int<|c 10,.str y],.tup [.tup [.str "number",.int<|c 11,.int<|z.dg 8]]]]])<|set S p<|.dct (z.tk 8).nx.nx.kv):zFf (Gd fw<|d+2) [some<|.ref p,a1,C,a3,some<|.str y,a5,some<|.lst L,a7,a8,v,a10,a11,some a,a13] S<|zAp xx K:=by
 have n:=z.tk_le (m:=8) l.ok ∅;have o:=l.le n;have D:(z.tk 8).k=z.k:=n.k;have r:=o.nx ();erw[pd (b.h (i:=9) ∅),pd (b.h (i:=10) ∅),pd (b.h (i:=11) ∅),((cu l.ok ∅).up (lv':=2) ()).h (d:=d) h];have q:=zAc (o':=Ob.dct (z.tk 8).kv) h;erw[((cb o.k).up (lv':=2) ()).h (d:=d) q];have t:=zAc (o':=Ob.dct (z.tk 8).nx.kv) q;erw[((cb r.k).up (lv':=2) ()).h (d:=d) t,pd (b.h (i:=12) ∅),pd (b.h (i:=13) ∅)];rw[zAb,zAb];exact k
end
def As{z:Sx}{L:C6}{c:Nat->Int}{n:Str}{a:U}(b:Ixs L c)(l:Iv z)(m:z.k<9000){p:Nat}{K:D5}{o:B8 U}(h:at? S p=some (.dct z.kv))(k:K (.tup [.str "let",.int<|c 12,.str y,.tup [.str "number",.int<|c 13,.int 0],.tup [.str "do",.int (z.tk 8).pl,.tup [.str "set",.int (z.tk 8).nx.pl,.str y,.tup [.str "fn",.int<|c 6,.tup [.str n],.tup [.str "if",.int<|c 7,.tup [.str "name",.int<|c 8,.str n],a,u9]]],.tup [.str "call",.int<|c 9,.tup [.str "name",.int<|c 10,.str y],.tup [.tup [.str "number",.int<|c 11,.int<|z.dg 8]]]]])<|set S p<|.dct (z.tk 8).nx.nx.kv):zFg (Gd fw<|d+2) [some<|.ref p,a1,o,a3,some<|.str y,some<|.str n,some<|.lst L,a7,a8,some u9,a10,some a,a12,a13] S<|zAp xx K:=by
 erw[pd (b.h (i:=6) ∅),pd (b.h (i:=7) ∅),pd (b.h (i:=8) ∅),<-Ar b l m h k]
def lpU(c:Nat->Int)(y n:Str)(a b l:U)(d s m:Int):U:=.tup [.str "let",.int<|c 12,.str y,.tup [.str "number",.int<|c 13,.int 0],.tup [.str "do",.int d,.tup [.str "set",.int s,.str y,.tup [.str "fn",.int<|c 6,.tup [.str n],.tup [.str "if",.int<|c 7,.tup [.str "name",.int<|c 8,.str n],.tup [.str "do",.int<|c 3,a,.tup [.str "call",.int<|c 4,.tup [.str "name",.int<|c 5,.str y],.tup [l]]],b]]],.tup [.str "call",.int<|c 9,.tup [.str "name",.int<|c 10,.str y],.tup [.tup [.str "number",.int<|c 11,.int m]]]]]
section
variable{L:C6}{c:Nat->Int}{y n:Str}{u8 u9 u10:U}{fw d p:Nat}{S:So}{E:Ee Prop}{a1 a2 a3 a7 a10 a11 a12 a13:B8 U}{t:D3}
def xR(a:Ixs L c)(k:t (Gd fw<|d+2) [some<|.ref p,a1,a2,a3,some<|.str y,some<|.str n,some<|.lst L,a7,some u8,some u9,some u10,some<|.tup [.str "do",.int<|c 3,u8,.tup [.str "call",.int<|c 4,.tup [.str "name",.int<|c 5,.str y],.tup [u10]]],a12,a13] S E):(sQ rz3 t) (Gd fw<|d+2) [some<|.ref p,a1,a2,a3,some<|.str y,some<|.str n,some<|.lst L,a7,some u8,some u9,some u10,a11,a12,a13] S E:=by
 erw[pd (a.h (i:=3) ∅),pd (a.h (i:=4) ∅),pd (a.h (i:=5) ∅),<-k]
def xS(a:Ixs L c)(k:t (Gd fw<|d+2) [some<|.ref p,a1,a2,a3,some<|.str y,some<|.str n,some<|.lst L,a7,some u8,some u9,some<|.tup [.str "math",.int<|c 0,.str "sub",.tup [.str "name",.int<|c 1,.str n],.tup [.str "number",.int<|c 2,.int 1]],a11,a12,a13] S E):(sQ rz4 t) (Gd fw<|d+2) [some<|.ref p,a1,a2,a3,some<|.str y,some<|.str n,some<|.lst L,a7,some u8,some u9,a10,a11,a12,a13] S E:=by
 erw[pd (a.h (i:=0) ∅),pd (a.h (i:=1) ∅),pd (a.h (i:=2) ∅),<-k]
end
def Au{z:Sx}{L:C6}{c:Nat->Int}{n:Str}{b:U}(a:Ixs L c)(i:Iv z)(l:z.k<9000){p:Nat}{K:D5}{m:B8 U}(h:at? S p=some (.dct z.kv))(k:K (lpU c y n b u9 (.tup [.str "math",.int<|c 0,.str "sub",.tup [.str "name",.int<|c 1,.str n],.tup [.str "number",.int<|c 2,.int 1]]) (z.tk 8).pl (z.tk 8).nx.pl<|z.dg 8)<|set S p<|.dct (z.tk 8).nx.nx.kv):zJy (Gd fw<|d+2) [some<|.ref p,a1,m,a3,some<|.str y,some<|.str n,some<|.lst L,a7,some b,some u9,a10,a11,a12,a13] S<|zAp xx K:=xS a<|xR a<|As a i l h k
section
variable{N:Str->Prop}{ws sc:C5}{x x':Sx}{e:Nat}{dp way:Int}
theorem l9:∀{n i:Nat}{x:Sx},i<n->(pln n x)[i]?=some (nxs i x).pl
 |n+1,0,x,_=>rfl
 |n+1,i+1,x,h=>l9 (n:=n) (i:=i) (x:=x.nx) ()
def wU:Ixs ((pln 14 x).map .int) λi=>(nxs i x).pl:=⟨λ{i S} h=>by
 show opt (atI ((pln 14 x).map U.int) (i:Int)) S=_;rw[dA (v:=.int (nxs i x).pl)<|by rw[xAw,l9 h];rfl];rfl⟩
def BC{z:Sx}{d s m:Int}:lpU (λi=>(nxs i z).pl) y "n" A.u B.u (.tup [.str "math",.int (nxs 0 z).pl,.str "sub",.tup [.str "name",.int (nxs 1 z).pl,.str "n"],.tup [.str "number",.int (nxs 2 z).pl,.int 1]]) d s m=(zEa z y A B d s m).u:=rfl
def lX{a b:Int}:pr ups .sub [.int a,.int b] S=.ok (.int<|a-b) S:=rfl
def uH(H:PH N ws e)(hN:∀y∈ws,N y)(I:N "n")(h5:ws.length=5)(he:2<=e/\e<=8)(hl:sc.length+10*(e+6)<=500)(hd:dp<=e+6)(v:Iv x)(h60:x.k<60):∃P x',Pn N sc (e+6) x P x'/\Bl x 40 [scU ws,scU sc,.int dp] (3*e+5) P.u x':=by
 have k0:=v.k;have o:=x.tk_le (m:=5) v.ok ∅;let⟨y,hy,ey⟩:=eW (sc:=ws) (i:=x.dg 5) (by have:=x.dg_lt (m:=5) ∅;lia);have t:=v.le o;have k1:(x.tk 5).k=x.k:=o.k;have C:(x.tk 5).h=x.h:=o.h;have tb:=(cu v.ok (m:=5) ∅)
 generalize x.tk 5=z at o t k1 C tb;let⟨i2,k2,h2⟩:=kQ (n:=14) t ();have L:=λ{fw d p:Nat} {S:So} {K:D5}=>pO (n:=14) (x:=z) (lo:=0) (fw:=fw) (d:=d) (p:=p) (S:=S) (K:=K) (ys:=[]) t ();have hz:∀i:Nat,i<14->(nxs i z).pl=zBo x.h (x.k+i+1):=λi hi=>by
  let⟨_,a,b⟩:=kQ (n:=i) t ();show zBo (nxs i z).h ((nxs i z).k+1)=_;rw[a,b,C,k1]
 generalize hw:nxs 14 z=w at i2 k2 h2 L;have ls:(sc++[y,("n":Str)]).length=sc.length+2:=by rw[xAb];rfl
 let⟨A,F,q,b3⟩:=H (x:=w) (sc:=sc++[y,"n"]) (dp:=dp-6) i2 () () ();have a:=q.at80;have b:=q.hi;have c:=q.lo;let⟨B,x4,r,b4⟩:=H (x:=F) (sc:=sc++[y,"n"]) (dp:=dp-6) q.iv () () ();have a':=r.at80;have b':=r.hi;have c':=r.lo;have W:F.h=x.h:=q.h.trans<|h2.trans C;have h4:x4.h=x.h:=r.h.trans W;have G:=x4.tk_le (m:=8) r.iv.ok ∅;have i5:=r.iv.le G;have T:(x4.tk 8).k=x4.k:=G.k;have l:(x4.tk 8).h=x.h:=G.h.trans h4;have i7:=(i5.nx ()).nx (by show(x4.tk 8).k+1<_;lia);have O:(x4.tk 8).nx.nx.k=x4.k+2:=by show(x4.tk 8).k+1+1=_;lia
 have R:=q.ks;rw[h2.trans C,k2,k1] at R;have Q:=r.ks;rw[W] at Q;have kC:Ks x.h x4.k (x4.k+2) [(x4.tk 8).pl,(x4.tk 8).nx.pl]:=by
  rw[show(x4.tk 8).pl=zBo x.h (x4.k+1) by show zBo (x4.tk 8).h ((x4.tk 8).k+1)=_;rw[l,T],show(x4.tk 8).nx.pl=zBo x.h (x4.k+2) by show zBo (x4.tk 8).h ((x4.tk 8).k+1+1)=_;rw[l,T];congr 1;lia];exact Ks.cons () (xBu _) (Ks.one () ()) ()
 have kk:=Av (z:=z) (y:=y) (A:=A) (B:=B) (m:=x4.dg 8) hz R Q kC () () ();have wf:=Aq (N:=N) (sc:=sc) (z:=z) (A:=A) (B:=B) (d:=(x4.tk 8).pl) (s:=(x4.tk 8).nx.pl) I (hN y hy) he.1 q.wf r.wf (x4.dg_lt (m:=8) ∅);have ec:(zEa z y A B (x4.tk 8).pl (x4.tk 8).nx.pl<|x4.dg 8).cnt=A.cnt+B.cnt+3:=by simp[zEa,Pg.cnt,Pg.cnts]
 have ct:Cn (42-3*((e+6:Nat):Int)) (A.cnt+B.cnt+3) (e+6) x.k<|x4.k+2:=by
  have D:=q.ct;rw[k2,k1] at D;have J:=r.ct;have q1:=D.z;have q2:=D.b;have q3:=D.c;have r1:=J.z;have r2:=J.b;have r3:=J.c;exact⟨λh=>absurd h (),(),()⟩
 erw[<-⟨zEa z y A B (x4.tk 8).pl (x4.tk 8).nx.pl<|x4.dg 8,(x4.tk 8).nx.nx,⟨wf,i7,l,by rw[O];exact kk,(),(),by rw[O,ec];exact ct⟩,⟨λ{fw d p S xx K} h hk=>?_⟩⟩,cd (d:=d+(3*e+4)) ⟨4,14,t40⟩,pd (fi h5),(tb.up (lv':=3*e+4) ()).h (d:=d) h];have Z:=zAc (o':=Ob.dct z.kv) h;erw[pd ey,pd (gB ∅)];refine bI (λ_=>?_) λz=>by cases z
 erw[L (d:=d+(3*e+2)) Z];have Y:=zAc (o':=Ob.dct w.kv) Z;erw[pv (scU [y,"n"]),pd (dW<|by show _+2<=_;lia),pd lX,(b3.up (lv':=3*e+4) ()).h (d:=d) Y];have X:=zAc (o':=Ob.dct F.kv) Y;erw[pd lX,(b4.up (lv':=3*e+4) ()).h (d:=d) X];have g4:=zAc (o':=Ob.dct x4.kv) X;erw[Au (d:=d+(3*e+2)) wU r.iv () g4];rw[BC,zAb,zAb,zAb,zAb];exact hk
end
section
variable{N:Str->Prop}{ws sc:C5}{x x':Sx}{e dm:Nat}{dp way:Int}
def wM(h:3<=way/\way<10):∃w,0<=w/\pr ups .ix [.lst [.int 1,.int 1,.int 0,.int 1,.int 2,.int 3,.int 1],.int<|way-3] S=.ok (.int w) S:=by
 rcases(show way=3\/way=4\/way=5\/way=6\/way=7\/way=8\/way=9 by lia) with h|h|h|h|h|h|h <;> rw[h]
 .exact⟨1,∅,rfl⟩
 .exact⟨1,∅,rfl⟩
 .exact⟨0,∅,rfl⟩
 .exact⟨1,∅,rfl⟩
 .exact⟨2,∅,rfl⟩
 .exact⟨3,∅,rfl⟩
 .exact⟨1,∅,rfl⟩
def RsP(N:Str->Prop)(ws sc:C5)(dm:Nat)(dp way:Int)(x:Sx)(t:D3):Prop:=∃P x',Pn N sc dm x P x'/\∀{fw d p:Nat}{S:So}{xx:D6}{K:D5},at? S p=some (.dct x.kv)->K P.u (set S p<|.dct x'.kv)->t (Gd fw<|d+(3*dm+2)) [some<|.ref p,some<|scU ws,some<|scU sc,some<|.int dp,some<|.int way] S (zAp xx K)
def Bo(v:10<=way)(o:∀y∈ws,N y)(r:ws.length=5)(c:ws.Nodup)(t:dm<=14)(IH:∀e<dm,PH N ws e)(l:Iv x)(a:x.k<80)(m:sc.length+10*dm<=500)(n:dp<=dm)(C:0<dp):RsP N ws sc dm dp way x zD6:=by
 by_cases hh:way<14/\3<dp
 .obtain⟨e,rfl⟩:∃e,dm=e+3:=⟨dm-3,()⟩
  let⟨P,x',q,b⟩:=oG (sc:=sc) (dp:=dp) (IH e ()) o r c () m n l a;erw[<-⟨P,x',q,λ{fw d p S xx K} h i=>?_⟩,pv (.bl<|decide<|way<14)];rw[xBd hh.1];erw[bT,pv (.bl<|decide<|3<dp)];rw[xBd hh.2];erw[bT];exact(b.up (lv':=3*(e+3)+2) ()).h (d:=d) h i
 .obtain⟨e,rfl⟩:∃e,dm=e+1:=⟨dm-1,()⟩
  let⟨P,x',q,b⟩:=qb (sc:=sc) (dp:=dp-1) (way:=(way-10)%12) (IH e ()) () () () l a ⟨xBa _ ∅,xBb _ ∅⟩;refine⟨P,x',q,λ{fw d p S xx K} h i=>?_⟩;have fin:(J5<|Jo 43<|Jz J0 J1 J7 (J2 .sub J8 Jg)<|J2 .mod (J2 .sub J9<|Jd 10)<|Jd 12) (Gd fw<|d+(3*(e+1)+2)) [some<|.ref p,some<|scU ws,some<|scU sc,some<|.int dp,some<|.int way] S<|zAp xx K:=by
   erw[pd dN,pd dN,pd (cD ∅)];exact(b.up (lv':=3*(e+1)+2) ()).h (d:=d) h i
  erw[pv (.bl<|decide<|way<14)];by_cases h1:way<14
  .rw[xBd h1];erw[bT,pv (.bl<|decide<|3<dp)];rw[xCn ()];exact bF fin
  .rw[xCn h1];exact bF<|bF fin
def Bp(H:3<=way)(C:∀y∈ws,N y)(r:N "n")(D:ws.length=5)(i:ws.Nodup)(F:dm<=14)(IH:∀e<dm,PH N ws e)(c:Iv x)(m:x.k<80)(t:sc.length+10*dm<=500)(G:dp<=dm)(I:0<dp):RsP N ws sc dm dp way x zIg:=by
 by_cases h10:way<10
 .obtain⟨e,rfl⟩:∃e,dm=e+1:=⟨dm-1,()⟩
  let⟨w,o,n⟩:=wM (S:=[]) ⟨H,h10⟩;let⟨P,x',q,b⟩:=vn (sc:=sc) (dp:=dp-1) (way:=w) (IH e ()) C D i () t () c m o;erw[<-⟨P,x',q,λ{fw d p S xx K} h l=>?_⟩,pv (.bl<|decide<|way<10)];rw[xBd h10];erw[bT,pd dN,pv (.lst [.int 1,.int 1,.int 0,.int 1,.int 2,.int 3,.int 1]),pd dN,<-pd (v:=.int w) (S':=S) ?_ ?_]
  .have L:∀S:So,pr ups .ix [.lst [.int 1,.int 1,.int 0,.int 1,.int 2,.int 3,.int 1],.int<|way-3] S=opt (atI [.int 1,.int 1,.int 0,.int 1,.int 2,.int 3,.int 1]<|way-3) S:=λ_=>rfl;rw[L] at n⊢;cases ho:atI ([.int 1,.int 1,.int 0,.int 1,.int 2,.int 3,.int 1]:C6) (way-3) with
   |none=>rw[ho] at n;cases n
   |some v=>rw[ho] at n;cases n;rfl
  .exact(b.up (lv':=3*(e+1)+2) ()).h (d:=d) h l
 .by_cases hh:way<12/\7<dp/\x.k<60
  .obtain⟨e,rfl⟩:∃e,dm=e+6:=⟨dm-6,()⟩
   let⟨P,x',q,b⟩:=uH (sc:=sc) (dp:=dp) (IH e ()) C r D () t G c hh.2.2;refine⟨P,x',q,λ{fw d p S xx K} h l=>?_⟩;have J:=c.a;erw[pv (.bl<|decide<|way<10)];rw[xCn h10];erw[bF,pv (.bl<|decide<|way<12)];rw[xBd hh.1];erw[bT,pv (.bl<|decide<|7<dp)];rw[xBd hh.2.1];erw[bT,pd (qZ h),pv (.bl<|decide<|20<x.a)];rw[xBd ()];erw[bT];exact(b.up (lv':=3*(e+6)+2) ()).h (d:=d) h l
  .let⟨P,x',q,b⟩:=Bo () C D i F IH c m t G I (way:=way);refine⟨P,x',q,λ{fw d p S xx K} h l=>?_⟩;have J:=c.a;have fin:zD6 (Gd fw<|d+(3*dm+2)) [some<|.ref p,some<|scU ws,some<|scU sc,some<|.int dp,some<|.int way] S<|zAp xx K:=b h l;erw[pv (.bl<|decide<|way<10)];rw[xCn h10];erw[bF,pv (.bl<|decide<|way<12)];by_cases h1:way<12
   .rw[xBd h1];erw[bT,pv (.bl<|decide<|7<dp)];by_cases h2:7<dp
    .rw[xBd h2];erw[bT,pd (qZ h),pv (.bl<|decide<|20<x.a)];rw[xCn ()];exact bF fin
    .rw[xCn h2];exact bF<|bF fin
   .rw[xCn h1];exact bF<|bF fin
def tZ(G:∀y∈ws,N y)(v:N "n")(H:ws.length=5)(t:ws.Nodup)(C:dm<=14)(IH:∀e<dm,PH N ws e):PH N ws dm:=λ{x sc dp} r o D F=>by
 have l:=x.tk_le (m:=26) r.ok ∅;have n:=r.le l;have I:=x.dg_lt (m:=26) ∅;have k1:(x.tk 26).k=x.k:=l.k;have c:(x.tk 26).h=x.h:=l.h;have a1:=n.a;have tb:=cu r.ok (m:=26) ∅;generalize x.tk 26=z at l n k1 c a1 tb;generalize x.dg 26=way at I tb;by_cases hA:way<3\/dp<=0\/z.a<=0
 .let⟨P,x',q,b⟩:=vq (N:=N) (sc:=sc) (dm:=dm) n () ();erw[<-⟨P,x',⟨q.wf,q.iv,q.h.trans c,by have:=q.ks;rw[c,k1] at this;exact this,by have:=q.lo;lia,λz=>by have:=q.at80 ();lia,by have:=q.hi;lia,by have:=q.ct;rw[k1] at this;exact this⟩,⟨λ{fw d p S xx K} h o=>?_⟩⟩,cd (d:=d+(3*dm+2)) ⟨4,5,t45⟩,(tb.up (lv':=3*dm+2) ()).h (d:=d) h];have i:=zAc (o':=Ob.dct z.kv) h;have fin:(Gd fw<|d+(3*dm+2)).call 37 [.ref p,scU sc] (set S p<|.dct z.kv) xx K:=(b.up (lv':=3*dm+2) ()).h (d:=d) i (by rw[zAb];exact o);erw[pv (.bl<|decide<|way<3)];by_cases c1:way<3
  .rw[xBd c1];exact bT<|bT fin
  .rw[xCn c1];erw[bF,pv (.bl<|decide<|dp<=0)];by_cases c2:dp<=0
   .rw[xBd c2];exact bT<|bT fin
   .rw[xCn c2];erw[bF,pd (qZ i),pv (.bl<|decide<|z.a<=0)];rw[xBd ()];exact bT fin
 .let⟨P,x',q,b⟩:=Bp () G v H t C IH n () D F () (way:=way);erw[<-⟨P,x',⟨q.wf,q.iv,q.h.trans c,by have:=q.ks;rw[c,k1] at this;exact this,by have:=q.lo;lia,λz=>(),.inr q.hi,by have:=q.ct;rw[k1] at this;exact this⟩,⟨λ{fw d p S xx K} h o=>?_⟩⟩,cd (d:=d+(3*dm+2)) ⟨4,5,t45⟩,(tb.up (lv':=3*dm+2) ()).h (d:=d) h];have i:=zAc (o':=Ob.dct z.kv) h;erw[pv (.bl<|decide<|way<3)];rw[xCn ()];erw[bF,pv (.bl<|decide<|dp<=0)];rw[xCn ()];erw[bF,pd (qZ i),pv (.bl<|decide<|z.a<=0)];rw[xCn ()];erw[bF];exact b i (by rw[zAb];exact o)
theorem qh(i:∀y∈ws,N y)(b:N "n")(k:ws.length=5)(a:ws.Nodup):∀{n dm:Nat},dm<n->dm<=14->PH N ws dm
 |n+1,dm,h,c=>tZ i b k a c λe l=>qh i b k a (n:=n) () ()
end
def ltrs:Str:="abcdefghijklmnopqrstuvwxyz"
def chs(w:Str):C6:=w.cps.toList.map λc=>.str ⟨#[c]⟩
def inL(c:U):C4:=match inU [] c (.str ltrs) with
 |some b=>b
 |none=>false
def zA5(w:Str):C4:=Nat.ble 1 w.length&&Nat.ble w.length 8&&(chs w).all inL
def zF5:C5:=["fn","call","let","set","do","if","add","sub","mul","less","same","make","match","raise","try","tell","ask"]
def zAq(w:Str):C4:=zA5 w&&!zBc (.str w) (zF5.map .str)
def zB7(is:C7):Str:=⟨(is.map (97+·)).toArray⟩
def ltU(i:Nat):U:=.str ⟨#[97+i]⟩
def gs:C7:=[6,9,15,16,21,22,23,25]
def od(w:Str):C4:=Nat.ble w.length 1||w.cps.toList.any λc=>gs.any λi=>Nat.beq c<|97+i
theorem nM{w:Str}(h:od w=true):∀{l:C5},(l.all λy=>!od y)=true->zBc (.str w) (l.map .str)=false
 |[],_=>rfl
 |y::l,g=>by
  rw[xCj,xCh] at g;show((y==w)||zBc (.str w) (l.map .str))=false;rw[nM h g.2,Bool.or_false];refine beq_eq_false_iff_ne.mpr λe=>?_;have:=g.1;rw[e,h] at this;cases this
def zKc:∀i<26,inL (ltU i)=true:=by decide +kernel
def o9:(zB7 is).length=is.length:=by
 show(is.map (97+·)).toArray.size=_;simp
def sS(l:1<=is.length)(k:is.length<=8)(h:∀i∈is,i<26):zA5 (zB7 is)=true:=by
 unfold zA5;rw[o9,xDk l,xDk k];show(chs<|zB7 is).all inL=true;refine xCx.mpr λc a=>?_;unfold chs zB7 at a;let⟨j,b,rfl⟩:=xA2.mp a;let⟨i,hi,rfl⟩:=xA2.mp (show j∈is.map (97+·) by simpa using b);exact zKc i<|h i hi
def sT(k:1<=is.length)(b:is.length<=8)(h:∀i∈is,i<26)(a:is.length=1\/∃i∈is,i∈gs):zAq (zB7 is)=true:=by
 unfold zAq;rw[sS k b h,nM (w:=zB7 is) ?_<|by decide +kernel]
 .rfl
 .unfold od;rw[o9];rcases a with e|⟨i,hi,hg⟩
  .rw[e];rfl
  .rw[show((zB7 is).cps.toList.any λc=>gs.any λi=>Nat.beq c<|97+i)=true from ?_,Bool.or_true];refine xCy.mpr ⟨97+i,?_,xCy.mpr ⟨i,hg,Nat.beq_refl _⟩⟩;show 97+i∈(is.map (97+·)).toArray.toList;simpa using hi
def y9{a b:C7}(h:a[j]?≠b[j]?):zB7 a≠zB7 b:=λe=>h (by
 have:a.map (97+·)=b.map (97+·):=by
  have:=congrArg (λw:Str=>w.cps.toList) e;simpa [zB7] using this
 have:=congrArg (·[j]?) this;simp only[xAw] at this;cases ha:a[j]? <;> cases hb:b[j]? <;> rw[ha,hb] at this <;> simp at this⊢
 lia)
def xN:zAq "n"=true:=by decide +kernel
def ie{i:Int}(h:0<=i/\i<26):pr ups .ix [.str ltrs,.int i] S=.ok (ltU i.toNat) S:=by
 let⟨j,rfl⟩:=Int.eq_ofNat_of_zero_le h.1;have a:j<26:=by lia
 have key:∀j<26,ltrs.cps.toList[j]?=some (97+j):=by decide +kernel
 show(match atI ltrs.cps.toList (j:Int) with|some c=>fits ltrs.length (.ok (.str ⟨#[c]⟩) S)|none=>.stuck)=_;rw[dA<|key j a];dsimp only;rw[zA6<|by show _<=2^24;decide +kernel];rfl
def gstr:Str:="gjpqvwxz"
def wS{i:Int}(h:0<=i/\i<8):∃g∈gs,∀{S:So},pr ups .ix [.str gstr,.int i] S=.ok (ltU g) S:=by
 let⟨j,rfl⟩:=Int.eq_ofNat_of_zero_le h.1;have b:j<8:=by lia
 have a:∀j<8,gstr.cps.toList[j]?=some (97+gs.getD j 0)/\gs.getD j 0∈gs:=by decide +kernel
 refine⟨_,(a j b).2,λ{S}=>?_⟩;show(match atI gstr.cps.toList (j:Int) with|some c=>fits gstr.length (.ok (.str ⟨#[c]⟩) S)|none=>.stuck)=_;rw[dA (a j b).1];dsimp only;rw[zA6<|by show _<=2^24;decide +kernel];rfl
theorem nk:∀{bs:C7}{acc:Array Nat},(bs.map λi=>(⟨#[97+i]⟩:Str)).foldl (λacc p=>acc++("":Str).cps++p.cps) acc=acc++(bs.map (97+·)).toArray
 |[],acc=>⋯
 |b::bs,acc=>by
  rw[xBs,List.foldl_cons,nk];have:("":Str).cps=#[]:=by decide +kernel
  rw[this];simp
theorem uQ:∀{bs:C7},Builtin.Str.glued "" (bs.map λi=>(⟨#[97+i]⟩:Str))=zB7 bs
 |[]=>by decide +kernel
 |b::bs=>by
  show(⟨(bs.map λi=>(⟨#[97+i]⟩:Str)).foldl (λa p=>a++("":Str).cps++p.cps) #[97+b]⟩:Str)=_;rw[nk];simp[zB7]
theorem zBf:∀{bs:C7},zCx (bs.map ltU)=some (bs.map λi=>(⟨#[97+i]⟩:Str))
 |[]=>rfl
 |b::bs=>by
  show(zCx<|bs.map ltU).map _=_;rw[zBf];rfl
theorem pD:∀{bs:C7},((bs.map λi=>(⟨#[97+i]⟩:Str)).map λy:Str=>y.length).sum=bs.length
 |[]=>rfl
 |b::bs=>by
  show 1+((bs.map λi=>(⟨#[97+i]⟩:Str)).map λy:Str=>y.length).sum=_;rw[pD,xAo];lia
def tP{q:Nat}{bs:C7}(h:at? S q=some (.lst<|bs.map ltU))(b:bs.length<=8):pr ups .join [.str "",.ref q] S=.ok (.str<|zB7 bs) S:=by
 show(match zFb (.str ""),lsT S (.ref q) with|some s,some xs=>(match zCx xs with|some a=>(match decide ((a.map λy:Str=>y.length).sum+a.length*s.length<=16777216) with|true=>Res.ok (.str<|Builtin.Str.glued s a) S|false=>.stuck)|none=>.stuck)|_,_=>.stuck)=_;rw[show lsT S (.ref q)=some (bs.map ltU) by show(match at? S q with|some (.lst xs)=>some xs|_=>none)=_;rw[h]];dsimp only[zFb];rw[zBf];dsimp only;rw[pD,show("":Str).length=0 by decide +kernel,xBd (),uQ]
structure Kp(S S':So):Prop where
 len:S.length<=S'.length
 ky:∀{q:Nat}{o:Ob},at? S q=some o->at? S' q=some o
section
variable{J β:Type}{l:B7 J}{p q:Nat}{o v:J}
theorem zC6:∀{l:B7 J}{p:Nat},v∈Fx.set l p o->v=o\/v∈l
 |[],_,h=>nomatch h
 |_::l,0,h=>(xAv.mp h).imp id<|xAs _
 |y::l,p+1,h=>(xAv.mp h).elim (λe=>.inr<|by rw[e];exact xAr ..) λz=>(zC6 z).imp id<|xAs _
theorem zCn:∀{l:B7 J}{p:Nat},p<l.length->(Fx.set l p o)[p]?=some o
 |_::_,0,_=>rfl
 |_::l,p+1,h=>zCn (l:=l) (by simpa using h)
theorem zC8:∀{l:B7 J}{p q:Nat},p≠q->(Fx.set l p o)[q]?=l[q]?
 |[],_,_,_=>rfl
 |_::_,0,0,h=>absurd rfl h
 |_::_,0,_+1,_=>rfl
 |_::_,_+1,0,_=>rfl
 |_::l,p+1,q+1,h=>zC8 (l:=l) ()
theorem zC7{f:J->β}:∀{l:B7 J}{p:Nat},Fx.set (l.map f) p (f o)=(Fx.set l p o).map f
 |[],_=>rfl
 |_::_,0=>rfl
 |_::l,p+1=>congrArg (_::·)<|zC7 (l:=l)
def lY{q i:Nat}{xs:C6}{v:U}(h:at? S q=some (.lst xs))(hi:i<xs.length):pr ups .seti [.ref q,.int i,v] S=.ok .non (Fx.set S q<|.lst<|Fx.set xs i v):=by
 show zBg q (.int i) v S=_;unfold zBg;rw[h];dsimp only;rw[xBd (),xC3]
end
section
variable{cell:Int}{fw d p q r a:Nat}{S:So}
def lw(cell:Int)(k:Nat):Nat:=((cell / 64 / ((k:Int)+1)+5*k)%26).toNat
def wk(cell:Int)(k:Nat):Nat:=((cell / 512+3*(k:Int))%26).toNat
theorem mS{K:D5}:∀{n lo:Nat}{ys:C6},lo+n<=100->K (.lst<|ys++(List.range' lo n).map λk=>ltU<|lw cell k) S->lcK (Gd fw d) (lcB [1] true [none,none,some<|.str ltrs,some<|.int cell] none (J4 J7<|J2 .mod (J2 (.add false) (J2 .fdiv (J2 .fdiv J8<|Jd 64)<|J2 (.add false) J1 Jg)<|J2 .mul Jv J1)<|Jd 26)  (Gd fw d)) (zBx (lo:Int) n) ys S K
 |0,lo,ys,_,c=>by
  rw[List.range'_zero,List.map_nil,xB0] at c;exact c
 |n+1,lo,ys,hb,c=>by
  erw[pd (eY ∅),pv (.int<|(lo:Int)+1),pd (eY ()),pd (fD (a:=5) (b:=lo) (by unfold sml;decide)<|by unfold sml;lia),pv (.int<|cell / 64 / ((lo:Int)+1)+5*lo),pd (cD ∅),pd (ie ⟨xBa _ ∅,xBb _ ∅⟩),mS (n:=n) (lo:=lo+1) (ys:=ys++[ltU<|lw cell lo]) ()];rw[xAx];exact c
theorem jp{b1:C7}{E:Ee Prop}{kk:Sg->So->Prop}{I:B8 U}(O:a<b1.length)(H:b1.length<=8)(c:q≠r):∀{n lo:Nat}{bs:C7}{ws:C5}{S:So}{a4:B8 U},lo+n<=100->ws.length+n<=100->at? S q=some (.lst<|bs.map ltU)->bs.length=b1.length->(∀v,Fx.set bs a v=Fx.set b1 a v)->at? S r=some (.lst<|ws.map .str) ->
  (∀S' a4,S'.length=S.length->(∀{p o},p≠q->p≠r->at? S p=some o->at? S' p=some o)->at? S' r=some (.lst<|(ws++(List.range' lo n).map λk=>zB7<|Fx.set b1 a<|wk cell k).map .str)->kk [some<|.int cell,some<|.str ltrs,I,some<|.int a,a4,some<|.ref q,some<|.ref r] S') ->
  zA4 (zBx (lo:Int) n) (λw σ1 S2 nx=>tgt [4] true (Gd fw d) w σ1 λσ2=>zJa (Gd fw d) σ2 S2<|lpE E nx) [some<|.int cell,some<|.str ltrs,I,some<|.int a,a4,some<|.ref q,some<|.ref r] S kk
 |0,lo,bs,ws,S,a4,_,_,m,L,G,l,t=>by
  erw[t S a4 rfl (λ_ _ z=>z)];rw[List.range'_zero,List.map_nil,xB0];exact l
 |n+1,lo,bs,ws,S,a4,hb,P,m,L,G,l,t=>by
  rw[zBx,zA4];erw[pd (eY ∅),pd (fD (a:=3) (b:=lo) (by unfold sml;decide)<|by unfold sml;lia),pv (.int<|cell / 512+3*(lo:Int)),pd (cD ∅),pd (ie ⟨xBa _ ∅,xBb _ ∅⟩),pd (lY m<|by rw[xAa];lia)];rw[show Fx.set (bs.map ltU) a (ltU ((cell / 512+3*(lo:Int))%26).toNat)=(Fx.set b1 a<|wk cell lo).map ltU by rw[zC7,G];rfl];have C:=zAc (o':=Ob.lst<|(Fx.set b1 a<|wk cell lo).map ltU) m;have r1:at? (Fx.set S q<|.lst<|(Fx.set b1 a<|wk cell lo).map ltU) r=some (.lst<|ws.map .str):=by rw[zDq c];exact l
  erw[pd (cE r1),pv (.str ""),pd (tP C<|by rw[zAf];exact H),pd (cH r1<|by rw[xAa];show _<=2^24;lia),<-jp O H c (n:=n) (lo:=lo+1) (bs:=Fx.set b1 a<|wk cell lo) (ws:=ws++[zB7<|Fx.set b1 a<|wk cell lo]) () (by rw[xAb,xAt];lia) (by rw[zDq<|Ne.symm c];exact C) (by rw[zAf]) (λv=>zAb) (by rw[xAi];exact zAc r1) λS' a4 J K i=>?_,t S' a4 (by rw[J,zAf,zAf]) (λ{p o} F D z=>K F D<|by rw[zDq<|Ne.symm D,zDq<|Ne.symm F];exact z)];rw[xAx] at i;exact i
def y7{k:Nat}:wk cell k<26:=by unfold wk;omega
def Ap{k:Nat}:lw cell k<26:=by
 unfold lw;generalize cell / 64 / ((k:Int)+1)+5*k=z;omega
def o8(cell:Int):∃ws:C5,ws.length=5/\ws.Nodup/\(∀y∈ws,zAq y=true)/\∀{fw d:Nat}{S:So}{x:D6}{K:D5},(∀S',Kp S S'->K (scU ws) S')->(Gd fw<|d+1).call 33 [.int cell] S x K:=by
 let⟨n,X⟩:=Int.eq_ofNat_of_zero_le (show 0<=1+cell%8 by omega);have W:1<=n/\n<=8:=by omega
 have b:(0:Int)<n:=by omega
 let⟨a,ha⟩:=Int.eq_ofNat_of_zero_le (xBa (cell / 8)<|show(n:Int)≠0 by omega);have ha1:a<n:=by have:=xBb (cell / 8) b;omega
 let⟨g,H,eg⟩:=wS (i:=cell / 8%8) (by omega);have hb:((a:Int)+1)%n=(((a+1)%n:Nat):Int):=by rw[Int.natCast_emod];rfl
 have Z:(a+1)%n<n:=Nat.mod_lt _ (by omega);have F:((List.range' 0 n).map<|lw cell).length=n:=by rw[xAa,List.length_range']
 generalize hb0:(List.range' 0 n).map (lw cell)=b0 at F;have P:(Fx.set b0 ((a+1)%n) g).length=n:=by rw[zAf,F]
 have m0:∀i∈b0,i<26:=λi hi=>by
  rw[<- hb0] at hi;let⟨k,_,rfl⟩:=xA2.mp hi;exact Ap
 have g26:g<26:=by
  have:∀g∈gs,g<26:=∅
  exact this g H
 have m1:∀i∈Fx.set b0 ((a+1)%n) g,i<26:=λi hi=>(zC6 hi).elim (λe=>by omega)<|m0 i;refine⟨(List.range' 0 5).map λk=>zB7<|Fx.set (Fx.set b0 ((a+1)%n) g) a<|wk cell k,by rw[xAa,List.length_range'],?_,λy R=>?_,λ{fw d S x K} Y=>?_⟩
 .refine List.pairwise_map.mpr ((List.nodup_range' (step:=1)).imp_of_mem λ{i j} hi G z=>y9 (j:=a) ?_);rw[zCn (by omega),zCn<|by omega];have hi:=(List.mem_range'_1.mp hi).2;have G:=(List.mem_range'_1.mp G).2;unfold wk;intro e;injection e with e;omega
 .let⟨k,_,rfl⟩:=xA2.mp R;have O:(Fx.set (Fx.set b0 ((a+1)%n) g) a<|wk cell k).length=n:=by rw[zAf,P]
  erw[sT (by omega) (by omega) (λi hi=>(zC6 hi).elim (λe=>by rw[e];exact y7)<|m1 i)];rw[O];by_cases h1:n=1
  .exact .inl h1
  .refine .inr ⟨g,?_,H⟩;have m:a≠(a+1)%n:=by
    rcases Nat.lt_or_ge (a+1) n with z|z
    .rw[Nat.mod_eq_of_lt z];omega
    .rw[show a+1=n by omega,Nat.mod_self];omega
   erw[xAc (i:=(a+1)%n)];rw[zC8 m,zCn<|by omega]
 .erw[cd ⟨1,7,t33⟩,pd (cD ∅),<-pv (.int n) ?_ (by rw[<- X];rfl),pd (eY ∅),pd (cD b)];rw[ha];erw[pd (gB<|by omega)];rw[xC3];refine bI (λ_=>?_) λz=>?_
  .erw[mS (lo:=0) (by omega)];rw[xC6];have e0:(List.range' 0 n).map (λk=>ltU<|lw cell k)=b0.map ltU:=by rw[<- hb0,List.map_map];rfl
   rw[e0];erw[pd (v:=.ref S.length) (S':=S++[.lst<|b0.map ltU]) (by rfl)];have c:at? (S++[Ob.lst<|b0.map ltU]) S.length=some (.lst<|b0.map ltU):=zAx;have k0:Kp S<|S++[Ob.lst<|b0.map ltU]:=⟨⋯,λz=>zAn z⟩
   have C:(S++[Ob.lst<|b0.map ltU]).length=S.length+1:=⋯
   generalize S++[Ob.lst<|b0.map ltU]=T at c k0 C;erw[pd (eY ∅),pd (cD ∅),pd eg,pv (.int<|(a:Int)+1),pd (cD b)];rw[hb];erw[pd (lY c<|by rw[xAa];omega)];rw[zC7];have D:=zAc (o':=Ob.lst<|(Fx.set b0 ((a+1)%n) g).map ltU) c;have k1:∀{p o},p≠S.length->at? T p=some o->at? (Fx.set T S.length<|Ob.lst<|(Fx.set b0 ((a+1)%n) g).map ltU) p=some o:=λI z=>by rw[zDq<|Ne.symm I];exact z
   have t:(Fx.set T S.length<|Ob.lst<|(Fx.set b0 ((a+1)%n) g).map ltU).length=S.length+1:=by rw[zAf,C]
   generalize Fx.set T S.length (Ob.lst<|(Fx.set b0 ((a+1)%n) g).map ltU)=T1 at D k1 t;erw[pd (v:=.ref T1.length) (S':=T1++[.lst []]) (by rfl),pd (gB ∅),<-jp (n:=5) (lo:=0) (ws:=[]) (a:=a) (q:=S.length) (r:=T1.length) (b1:=Fx.set b0 ((a+1)%n) g) (bs:=Fx.set b0 ((a+1)%n) g) (by omega) (by omega) (by omega) (by omega) ∅ (zAn D) rfl (λv=>rfl) zAx λS' a4 L Q l=>?_,<-pd (v:=.lst<|((List.range' 0 5).map λk=>zB7<|Fx.set (Fx.set b0 ((a+1)%n) g) a<|wk cell k).map .str) (S':=Fx.set S' T1.length .dead) ?_ ?_]
   .show zCu T1.length S' _=_;unfold zCu;rw[l];rfl
   .have J:S'.length=S.length+2:=by rw[L,xAb,t];rfl
    refine Y _ ⟨by rw[zAf];omega,λ{p o} z=>?_⟩;have lp:=zBi z;rw[zDq<|by omega];exact Q (by omega) (by omega)<|zAn<|k1 (by omega)<|k0.ky z
  .rw[zAz,xDk<|show n<=sizeLine by show n<=2^24;omega] at z;cases z
end
section
variable{fw d:Nat}{S:So}{x:D6}{K:D5}{xs:C8}
def dz{k:Nat}(a:K (.int<|xs.getD k 0) S):(Gd fw<|d+1).call 32 [.kl<|xs.map .int,.int k] S x K:=by
 erw[cd ⟨2,2,t32⟩,pd (v:=.int xs.length) (S':=S) (by show Res.ok (.int ((xs.map U.int).length:Nat)) S=_;rw[xAa]),pv (.bl<|decide<|(k:Int)<xs.length)];by_cases h:k<xs.length
 .rw[xBd ()];erw[bT];have e:xs.getD k 0=xs[k]:=by rw[xBz,xAk h];rfl
  erw[pd (tQ (v:=.int xs[k])<|by rw[xAw,xAk h];rfl)];rw[e] at a;exact a
 .rw[xCn ()];erw[bF];have e:xs.getD k 0=0:=by rw[xBz,List.getElem?_eq_none ()];rfl
  rw[e] at a;exact a
theorem pig:∀{m:Nat}{l:C8},l.Nodup->(∀k∈l,0<k/\k<=m)->l.length<=m
 |0,[],_,_=>xAg _
 |0,k::l,_,h=>by have:=h k<|xAr ..;omega
 |m+1,l,b,h=>by
  by_cases hm:(m+1:Int)∈l
  .have c:=pig (m:=m) (b.erase (m+1:Int)) λk a=>by
    let⟨n,i⟩:=b.mem_erase_iff.mp a;have:=h k i;omega
   rw[List.length_erase_of_mem hm] at c;omega
  .have c:=pig (m:=m) b λk a=>by
    have:=h k a;have:k≠m+1:=λe=>hm (by rw[<- e];exact a);omega
   omega
def st0(c s h:Int):Sx:=⟨if -1-c>c then -1-c else c,s%2147483646,80,0,h%600⟩
def pE{c s h:Int}(a:K (.ref S.length)<|S++[.dct (st0 c s h).kv]):(Gd fw<|d+1).call 34 [.int c,.int s,.int 80,.int h] S x K:=by
 erw[cd ⟨4,5,t34⟩,pv (.int (-1)),pv (.int (-1-c)),pv (.int<|if -1-c>c then -1-c else c),pd (cD ∅),pd (cD ∅),pd (v:=.ref S.length) (S':=S++[.dct (st0 c s h).kv]) (by rfl),<-a]
def wp{c s h:Int}:Iv<|st0 c s h:=by
 refine⟨⟨?_,xBa _ ∅,?_⟩,rfl,⟨xBu _,by show(0:Int)<=10000;decide⟩⟩
 .show 0<=(if -1-c>c then -1-c else c);split <;> lia
 .show s%2147483646<2147483647;have:=xBb s (show(0:Int)<2147483646 by decide);lia
structure zGj(P:Pg):Prop where
 wf:Wf (zAq ·=true) [] 14 P
 nd:P.pls.Nodup
 le:P.pls.length<=300
 rg:∀p∈P.pls,0<=p/\p<=599
 ct:P.cnt<=79
def tL(xs:C8):∃P,zGj P/\∀{fw d:Nat}{S:So}{x:D6}{K:D5},(∀S',Kp S S'->K P.u S')->(Gd fw<|d+50).call 46 [.kl<|xs.map .int,.int 80] S x K:=by
 let⟨ws,J,t,I,W⟩:=o8<|xs.getD 0 0;have go:∀s:Int,∃P,zGj P/\∀{fw d:Nat}{S:So}{x:D6}{K:D5},(∀S',Kp S S'->K P.u S')->rz5 (Gd fw<|d+49) [some<|.kl<|xs.map .int,some<|.int 80,some<|.int s,none] S (zAp x K):=λs=>by
  let⟨P,F,q,b⟩:=qh (N:=(zAq ·=true)) (ws:=ws) I xN J t (n:=15) (dm:=14) ∅ ∅ (x:=st0 (xs.getD 2 0) s<|xs.getD 1 0 / 2) (sc:=[]) (dp:=14) wp (by show(0:Int)+40*(14:Nat)<=2000;decide) ∅ ∅;have hi:F.k<=166:=by
   have:=q.hi;have e:(st0 (xs.getD 2 0) s<|xs.getD 1 0 / 2).k=0:=rfl;omega
  have H:P.cnt<=79:=by
   have r:=q.ct.b;have L:=q.ct.c;have e:(st0 (xs.getD 2 0) s<|xs.getD 1 0 / 2).k=0:=rfl;rw[e] at r L;omega
  let⟨G,e,v,l⟩:=q.ks;have l:∀k∈G,0<k/\k<=166:=λk i=>by have:=l k i;have e:(st0 (xs.getD 2 0) s<|xs.getD 1 0 / 2).k=0:=rfl;omega
  have O:=pig (m:=166) v l;refine⟨P,⟨q.wf,?_,by rw[e,xAa];omega,λp C=>?_,H⟩,λ{fw d S x K} i=>?_⟩
  .rw[e];refine List.pairwise_map.mpr (v.imp_of_mem λ{a b} D hb z e=>z ?_);have D:=l a D;have hb:=l b hb;unfold zBo at e;omega
  .rw[e] at C;let⟨k,_,rfl⟩:=xA2.mp C;unfold zBo;omega
  .erw[dz (k:=2),dz (k:=1),pd (eY ∅),pE,dz (k:=0),<-W λS' kp=>?_,pv (.lst [])];have g:=kp.ky (q:=S.length) zAx;erw[(b.up (lv':=49) ∅).h (d:=d) g,<-i _ ⟨by rw[zAf];have:=kp.len;rw[xAb] at this;omega,λ{p o} z=>?_⟩];have lp:=zBi z;rw[zDq<|by omega];exact kp.ky<|zAn z
 by_cases r:xs.getD 1 0%2=1
 .let⟨P,ok,g⟩:=go<|1+xs.getD 1 0%2147483645;erw[<-⟨P,ok,λ{fw d S x K} i=>?_⟩,cd (d:=d+49) ⟨2,4,t46⟩,dz (k:=1),pd (cD ∅),pd cz];rw[xBd r];erw[bT,dz (k:=1),pd (cD ∅),pv (.int<|1+xs.getD 1 0%2147483645)];exact g i
 .let⟨P,ok,g⟩:=go 0;erw[<-⟨P,ok,λ{fw d S x K} i=>?_⟩,cd (d:=d+49) ⟨2,4,t46⟩,dz (k:=1),pd (cD ∅),pd cz];rw[xCn r];erw[bF];exact g i
end
section
variable{up:B7<|Str×Str}{S T:So}{p q k:Nat}{o o1 o2 o':Ob}{v w:U}{r:C6}{a b C f:Str}{fs fs':B7<|Str×U}
def cG(h:a=b):pr up .eq [.str a,.str b] S=.ok (.bl true) S:=by
 show Res.ok (.bl<|decide<|a=b) S=_;rw[xBd h]
def cj(h:a≠b):pr up .eq [.str a,.str b] S=.ok (.bl false) S:=by
 show Res.ok (.bl<|decide<|a=b) S=_;rw[xCn h]
def cf{xs:C6}(h:xs[j]?=some v):pr up .ix [.tup xs,.int j] S=.ok v S:=by
 show opt (atI xs (j:Int)) S=_;rw[dA h];rfl
def bz:pr up .ix [.tup<|v::r,.int 0] S=.ok v S:=cf (j:=0) rfl
def eX:pr up .ix [.tup<|w::v::r,.int 1] S=.ok v S:=cf (j:=1) rfl
def atN(h:p≠q)(c:at? S q=some o2):at? (set S p o') q=some o2:=by
 rw[zDq h];exact c
def atK(i:at? S p=some o1)(c:at? S q=some o2)(h:o1≠o2):at? (set S p o') q=some o2:=atN (λe=>h<|by rw[e,c] at i;cases i;rfl) c
theorem zDp:∀{S T:So}{k:Nat},at? (S++T) (S.length+k)=at? T k
 |[],T,k=>⋯
 |_::S,T,k=>by
  rw[xAo,show S.length+1+k=(S.length+k)+1 by lia];exact zDp (S:=S)
theorem zDt:∀{S T:So}{k:Nat},set (S++T) (S.length+k) o=S++set T k o
 |[],T,k=>⋯
 |x::S,T,k=>by
  rw[xAo,show S.length+1+k=(S.length+k)+1 by lia];exact congrArg (x::·)<|zDt (S:=S)
def tR:pr up (.dct []) [] (S++T)=.ok (.ref<|S.length+T.length) (S++(T++[.dct []])):=by
 show Res.ok (.ref (S++T).length) (S++T++[.dct []])=_;rw[xAb,xAx]
def pY(k:Nat)(h:at? T k=some (.ins C fs))(e:putF f v fs=fs')(c:Nat.ble fs.length 900=true):pr up (.setf f) [.ref<|S.length+k,v] (S++T)=.ok .non (S++set T k (.ins C fs')):=by
 rw[iM (by rw[zDp];exact h) e c,zDt]
end
local macro_rules | `(tactic| walk_at "w")=>`(tactic| repeat first | refine pd (cG rfl) ?_ | refine pd (cj (by first | assumption | decide)) ?_ | refine pd (dB (by assumption) rfl) ?_ | refine bT ?_ | refine bF ?_ | refine pd (cm (by assumption) rfl) ?_ | refine pd (cE (by assumption)) ?_ | refine pd (by rfl) ?_ | refine pd bz ?_)
section
variable{fw d:Nat}{S:So}{x:D6}{K:D5}
def iT{i:Int}(a:K (.bl true) S):(Gd fw<|d+1).call 3 [.int i] S x K:=by
 erw[cd ⟨1,1,t3⟩];walk_at"w"
 exact a
end
section
variable{fw d n e:Nat}{S S1 S2 S':So}{x:D6}{K:D5}{u v P:U}{w:Str}{xs:C6}{i:Int}
def qc(h:xs.length<=1000)(a:K (.tup xs) S):(Gd fw<|d+1).call 11 [.tup xs] S x K:=by
 erw[cd ⟨1,1,t11⟩];walk_at"w"
 erw[pd (v:=.tup xs) (S':=S) (zA6<|by show 0+xs.length<=2^24;lia),<-a]
def p0(h:w.length<=1000):pr ups .join [.str "",.lst [.str w]] S=.ok (.str w) S:=by
 show(match decide (([w].map λy:Str=>y.length).sum+1*("":Str).length<=16777216) with|true=>Res.ok (.str<|Builtin.Str.glued "" [w]) S|false=>.stuck)=_;rw[xBd<|by rw[show("":Str).length=0 by decide +kernel];show w.length+0+0<=_;lia];rfl
def kN(h:w.length<=1000)(a:K (.str w) S):(Gd fw<|d+1).call 11 [.str w] S x K:=by
 erw[cd ⟨1,1,t11⟩];walk_at"w"
 erw[pd (p0 h),<-a]
def qe(a:K (.int i) S):(Gd fw<|d+2).call 11 [.int i] S x K:=by
 erw[cd ⟨1,1,t11⟩];walk_at"w"
 erw[iT];walk_at"w"
 exact a
set_option tactic.hygienic true
theorem vN:∀{cs ys:C6},(∀c∈cs,inL c=true)->K (.lst<|ys++cs.map λ_=>.bl true) S->lcK (Gd fw d) (lcB [1] true [none,none] none (cB<|tB<|J2 .inn J1<|J3 ltrs)<|Gd fw d) cs ys S K
 |[],ys,h,a=>by
  rw[List.map_nil,xB0] at a;exact a
 |c::cs,ys,h,a=>by
  have k:=h c<|xAr ..;refine pd (v:=.bl true) (S':=S) ?_ ?_
  .show obB (inU S c<|.str ltrs) id S=_;unfold inL at k;have e:inU S c (.str ltrs)=inU [] c (.str ltrs):=rfl;rw[e];split at k
   .next b hb=>rw[hb,k];rfl
   .cases k
  .erw[vN (cs:=cs) (ys:=ys++[.bl true]) (λc l=>h c<|xAs _ l)];rw[xAx];exact a
set_option tactic.hygienic false
theorem kg:∀{cs:C6},blL (cs.map λ_=>U.bl true)=some (cs.map λ_=>true)
 |[]=>rfl
 |_::cs=>by show(blL _).map _=_;rw[kg];rfl
def isw(h:zA5 w=true)(l:K (.bl true) S):(Gd fw<|d+1).call 7 [.str w] S x K:=by
 unfold zA5 at h;rw[xCh,xCh] at h;let⟨⟨k,b⟩,h3⟩:=h;have k:=xCo k;have b:=xCo b;erw[cd ⟨1,1,t7⟩];walk_at"w"
 erw[pd (v:=.int w.length) (S':=S) (zA6<|by show _<=2^24;lia),pd (v:=.bl true) (S':=S) (by show Res.ok (.bl<|decide<|(1:Int)<=w.length) S=_;rw[xBd ()]),bT,pd (v:=.bl true) (S':=S) (by show Res.ok (.bl<|decide<|(w.length:Int)<=8) S=_;rw[xBd ()]),bF,pv (.tup<|chs w)];have a:(chs w).length<=sizeLine:=by
  show _<=2^24;have:(chs w).length=w.length:=by unfold chs;rw[xAa];rfl
  lia
 erw[<-bI (c:=Nat.ble (chs w).length sizeLine) (λ_=>?_) λz=>absurd (xDk a) (by rw[z];decide),vN (cs:=chs w) (ys:=[]) (λc a=>xCx.mp h3 c a),<-pd (v:=.bl true) (S':=S) ?_ l];show(match blL ([]++(chs w).map λ_=>U.bl true) with|some bs=>Res.ok (.bl<|bs.all id) S|none=>.stuck)=_;rw[xC6,kg];simp
def isn(h:zAq w=true)(a:K (.bl true) S):(Gd fw<|d+2).call 8 [.str w] S x K:=by
 unfold zAq at h;rw[xCh] at h;erw[cd ⟨1,1,t8⟩,isw h.1,bT,<-pd (v:=.bl true) (S':=S) ?_ a];show obB (some<|zBc (.str w)<|zF5.map .str) not S=_;have:=h.2;rw[Bool.not_eq_true'] at this;rw[this];rfl
def uV(h:-(10^12)<i/\i<10^12)(a:K (.bl true) S):(Gd fw<|d+3).call 18 [.str "number",.int i,v] S x K:=by
 erw[cd ⟨3,3,t18⟩];walk_at"w"
 erw[cd ⟨1,1,t10⟩,iT,bT,pv (.int<|if i<0 then -i else i),pv (.int<|10^12),<-pd (v:=.bl true) (S':=S) ?_ a];show Res.ok (.bl<|decide<|(if i<0 then -i else i)<10^12) S=_;rw[xBd<|by split <;> lia]
def zEr(w:Str):C4:=zA5 w&&zBc (.str w) [.str "add",.str "sub",.str "mul",.str "less",.str "same"]
def yq(h:zEr w=true)(a:K (.bl true) S):(Gd fw<|d+2).call 18 [.str "op",.str w,v] S x K:=by
 unfold zEr at h;rw[xCh] at h;erw[cd ⟨3,3,t18⟩];walk_at"w"
 erw[isw h.1,bT,<-pd (v:=.bl true) (S':=S) ?_ a];show obB (some<|zBc (.str w) [.str "add",.str "sub",.str "mul",.str "less",.str "same"]) id S=_;rw[h.2];rfl
def rJ(h:zA5 w=true)(a:K (.bl true) S):(Gd fw<|d+2).call 18 [.str "word",.str w,v] S x K:=by
 erw[cd ⟨3,3,t18⟩];walk_at"w"
 exact isw h a
def rL(h:zAq w=true)(a:K (.bl true) S):(Gd fw<|d+3).call 18 [.str "name",.str w,v] S x K:=by
 erw[cd ⟨3,3,t18⟩];walk_at"w"
 exact isn h a
theorem io:∀{th:C5},(th.map U.str).all zAs=true
 |[]=>rfl
 |_::th=>by rw[xBs,xCj,io];rfl
theorem kn:∀{th:C5},w∈th->zBc (.str w) (th.map U.str)=true
 |y::th,h=>by
  show((y==w)||zBc (.str w) (th.map U.str))=true;rcases xAv.mp h with rfl|h
  .rw[show(w==w)=true by exact beq_self_eq_true w];rfl
  .rw[kn h,Bool.or_true]
def rK{th:C5}(h:zAq w=true)(a:w∈th)(b:K (.bl true) S):(Gd fw<|d+3).call 18 [.str "used",.str w,.tup<|th.map .str] S x K:=by
 erw[cd ⟨3,3,t18⟩];walk_at"w"
 erw[isn h,bT,<-pd (v:=.bl true) (S':=S) ?_ b];show obB (if(zAs (.str w)&&(th.map U.str).all zAs)=true then some (zBc (.str w)<|th.map U.str) else none) id S=_;rw[io,kn a];rfl
end
section
variable{fw d n e:Nat}{S S1 S2 S':So}{x:D6}{K:D5}{u v P:U}{w:Str}{xs:C6}{i pl:Int}{h pq kq:Nat}{ps pls:C8}{th nn:C5}
def plK(ps:C8):B7<|Key×U:=ps.map λi=>(Sum.inl i,.bl true)
structure ChS(h pq:Nat)(ps:C8)(S:So):Prop where
 ob:at? S h=some (.ins "Checker" [("places",.ref pq)])
 di:at? S pq=some (.dct (plK ps))
structure Pc(pq:Nat)(S S':So):Prop where
 len:S.length<=S'.length
 ky:∀{q o},q≠pq->at? S q=some o->at? S' q=some o
def Pc.trans(h1:Pc pq S S1)(c:Pc pq S1 S2):Pc pq S S2:=⟨xCk h1.len c.len,λa b=>c.ky a<|h1.ky a b⟩
def Pc.refl:Pc pq S S:=⟨xAg _,λ_ b=>b⟩
def Pc.app{T:So}:Pc pq S<|S++T:=⟨⋯,λ_ b=>zAn b⟩
theorem nr:∀{ps:C8},pl∉ps->zAu (.inl pl) (plK ps)=none
 |[],_=>rfl
 |a::ps,h=>by
  show(if(Sum.inl a:Key)=.inl pl then _ else zAu (.inl pl) (plK ps))=_;rw[xCf (by intro z;injection z with z;exact h (by rw[z];exact xAr ..)),nr λz=>h<|xAs _ z]
theorem sL:∀{ps:C8},pl∉ps->((plK ps).any λkv=>decide<|kv.1=.inl pl)=false
 |[],_=>rfl
 |a::ps,h=>by
  show(decide ((Sum.inl a:Key)=.inl pl)||(plK ps).any _)=_;rw[xCn (by intro z;injection z with z;exact h (by rw[z];exact xAr ..)),sL λz=>h<|xAs _ z];rfl
def tG(a:pl∉ps):putK (.inl pl) (.bl true) (plK ps)=plK (ps++[pl]):=by
 unfold Fx.putK;rw[sL a];simp[plK]
def AX(C:ChS h pq ps S)(l:0<=pl/\pl<=599)(m:pl∉ps)(q:ps.length<300)(o:∀S',ChS h pq (ps++[pl]) S'->Pc pq S S'->K .non S'):(Gd fw<|d+3).call 14 [.ref h,.int pl] S x K:=by
 erw[cd ⟨2,2,t14⟩,cd ⟨1,1,t9⟩,iT,bT,pd (v:=.bl true) (S':=S) (by show Res.ok (.bl<|decide<|(0:Int)<=pl) S=_;rw[xBd l.1]),bT,pd (v:=.bl true) (S':=S) (by show Res.ok (.bl<|decide<|pl<=(599:Int)) S=_;rw[xBd l.2]),bF];have k:=C.ob;have c:=C.di;erw[pd (dB k rfl),<-pd (v:=.bl false) (S':=S) ?_ ?_]
 .show obB (inU S (.int pl)<|.ref pq) id S=_;unfold inU;dsimp only;rw[c];show obB (some (zAu (.inl pl)<|plK ps).isSome) id S=_;rw[nr m];rfl
 erw[bF,pd (dB k rfl)];have r:(plK ps).length=ps.length:=by simp[plK]
 refine pd (v:=.non) (S':=set S pq<|.dct<|plK<|ps++[pl]) ?_ ?_
 .show zBg pq (.int pl) (.bl true) S=_;unfold zBg;rw[c];show fits _ _=_;rw[zA6 (by show _<=2^24;lia),tG m]
 have C':ChS h pq (ps++[pl])<|set S pq<|.dct<|plK<|ps++[pl]:=⟨atK c k (λz=>nomatch z),zAc c⟩
 have p:=C'.ob;erw[pd (dB p rfl),pd (tO C'.di),pd (v:=.bl false) (S':=set S pq<|.dct<|plK<|ps++[pl]) (by show Res.ok (.bl<|decide<|(300:Int)<(plK<|ps++[pl]).length) _=_;rw[xCn<|by simp[plK];lia]),bF];exact o _ C' ⟨by rw[zAf];exact xAg _,λa b=>atN (Ne.symm a) b⟩
structure TA(vs:C6)(nn:C5):Prop where
 h:∀{fw d:Nat}{S:So}{kq:Nat}{x:D6}{K:D5},at? S kq=some (.lst vs)->K (.tup (nn.map .str)) S->(Gd fw (d+1)).call 5 [.ref kq,.int vs.length] S x K
def cx{up:B7<|Str×Str}(a:at? S kq=some (.lst xs))(b:xs[j]?=some v):pr up .ix [.ref kq,.int j] S=.ok v S:=by
 show ixU (.ref kq) (.int j) S=_;unfold ixU;dsimp only;rw[a];show opt (atI xs (j:Int)) S=_;rw[dA b];rfl
def iD{k:Str}{r:C6}(l:zAv k cW=none)(c:(du.any λy=>decide<|y=k)=true):TA (.str k::r) []:=⟨λ{fw d S kq x K} a b=>by
 erw[cd ⟨2,5,t5⟩,pd (cx (j:=0) a rfl),<-pd (v:=.tup [.non,.non]) (S':=S) ?_ ?_]
 .delta pr;dsimp only[gP];rw[l,c]
 walk_at"w"
 exact b⟩
def zh{p:U}:TA [.str "fn",p] []:=⟨λ{fw d S kq x K} a b=>by
 erw[cd ⟨2,5,t5⟩,pd (cx (j:=0) a rfl)];walk_at"w"
 exact b⟩
def wm{p:U}:TA [.str "fn",p,.tup<|ns.map .str] ns:=⟨λ{fw d S kq x K} a b=>by
 erw[cd ⟨2,5,t5⟩,pd (cx (j:=0) a rfl)];walk_at"w"
 erw[pd (cx (j:=2) a rfl)];walk_at"w"
 exact b⟩
def wj{p:U}:TA [.str "let",p] []:=⟨λ{fw d S kq x K} a b=>by
 erw[cd ⟨2,5,t5⟩,pd (cx (j:=0) a rfl)];walk_at"w"
 exact b⟩
def tp{p q:U}:TA [.str "let",p,q] []:=⟨λ{fw d S kq x K} a b=>by
 erw[cd ⟨2,5,t5⟩,pd (cx (j:=0) a rfl)];walk_at"w"
 exact b⟩
def tm{p q:U}:TA [.str "let",p,.str y,q] [y]:=⟨λ{fw d S kq x K} a b=>by
 erw[cd ⟨2,5,t5⟩,pd (cx (j:=0) a rfl)];walk_at"w"
 erw[pd (cx (j:=2) a rfl)];walk_at"w"
 exact b⟩
def wg{p:U}:TA [.str "try",p] []:=⟨λ{fw d S kq x K} a b=>by
 erw[cd ⟨2,5,t5⟩,pd (cx (j:=0) a rfl)];walk_at"w"
 exact b⟩
def tj{p q:U}:TA [.str "try",p,q] []:=⟨λ{fw d S kq x K} a b=>by
 erw[cd ⟨2,5,t5⟩,pd (cx (j:=0) a rfl)];walk_at"w"
 exact b⟩
def sY{p q r:U}:TA [.str "try",p,q,r] []:=⟨λ{fw d S kq x K} a b=>by
 erw[cd ⟨2,5,t5⟩,pd (cx (j:=0) a rfl)];walk_at"w"
 exact b⟩
def sX{p q r:U}:TA [.str "try",p,q,r,.str y] [y]:=⟨λ{fw d S kq x K} a b=>by
 erw[cd ⟨2,5,t5⟩,pd (cx (j:=0) a rfl)];walk_at"w"
 erw[pd (cx (j:=4) a rfl)];walk_at"w"
 exact b⟩
def zg{p:U}:TA [.str "match",p] []:=⟨λ{fw d S kq x K} a b=>by
 erw[cd ⟨2,5,t5⟩,pd (cx (j:=0) a rfl)];walk_at"w"
 exact b⟩
def zf{p q:U}:TA [.str "match",p,q] []:=⟨λ{fw d S kq x K} a b=>by
 erw[cd ⟨2,5,t5⟩,pd (cx (j:=0) a rfl)];walk_at"w"
 exact b⟩
def ze{p q r:U}:TA [.str "match",p,q,r] []:=⟨λ{fw d S kq x K} a b=>by
 erw[cd ⟨2,5,t5⟩,pd (cx (j:=0) a rfl)];walk_at"w"
 exact b⟩
def zd{p q r:U}:TA [.str "match",p,q,r,.tup<|ns.map .str] ns:=⟨λ{fw d S kq x K} a b=>by
 erw[cd ⟨2,5,t5⟩,pd (cx (j:=0) a rfl)];walk_at"w"
 erw[pd (cx (j:=4) a rfl)];walk_at"w"
 exact b⟩
def zc{p q r s u:U}:TA [.str "match",p,q,r,s,u] []:=⟨λ{fw d S kq x K} a b=>by
 erw[cd ⟨2,5,t5⟩,pd (cx (j:=0) a rfl)];walk_at"w"
 exact b⟩
end
structure zCs(s:Str)(v:U)(pls:C8)(th:C5)(wi:Int)(D:Nat):Prop where
 h:∀{fw d h pq:Nat}{ps:C8}{S:So}{x:D6}{K:D5},D<=d->ChS h pq ps S->(ps++pls).Nodup->(ps++pls).length<=300->(∀S',ChS h pq (ps++pls) S'->Pc pq S S'->K v S')->(Gd fw d).call 15 [.ref h,.str s,v,.tup (th.map .str),.int wi] S x K
structure Chk(P:U)(pls:C8)(th:C5)(wi:Int)(D:Nat):Prop where
 h:∀{fw d h pq:Nat}{ps:C8}{S:So}{x:D6}{K:D5},D<=d->ChS h pq ps S->(ps++pls).Nodup->(ps++pls).length<=300->(∀S',ChS h pq (ps++pls) S'->Pc pq S S'->K P S')->(Gd fw d).call 13 [.ref h,P,.tup (th.map .str),.int wi] S x K
inductive Its(th:List Str)(wi:Int)(D:Nat):List U->List (Str×U)->List Int->Prop
 |nil {vs:List U}:Its th wi D vs [] []
 |cons {vs:List U} {s:Str} {v:U} {nn:List Str} {r:List (Str×U)} {pl pls:List Int} (t:TA vs nn) (c:zCs s v pl (th++nn) wi D) (hn:nn.length<=10) (i:Its th wi D (vs++[v]) r pls):Its th wi D vs ((s,v)::r) (pl++pls)
theorem yg{th:C5}{D l:Nat}(Y:D<=d+1)(T:th.length<=1000):∀{vs:C6}{items:B7<|Str×U}{pls:C8},Its th wi D vs items pls->∀{S:So}{ps:C8}{a b c:B8 U},ChS h pq ps S->l≠pq->at? S l=some (.lst vs)->(ps++pls).Nodup->(ps++pls).length<=300->vs.length+items.length<=100 ->
  (∀S' a b c,ChS h pq (ps++pls) S'->S.length<=S'.length->(∀{q o},q≠pq->q≠l->at? S q=some o->at? S' q=some o)->at? S' l=some (.lst (vs++items.map (·.2)))->kk [some<|.ref h,a1,some<|.tup<|th.map .str,some<|.int wi,a4,some<|.ref l,a6,a,b,c] S') ->
  zA4 (items.map λp=>U.tup [.str p.1,p.2]) (λw σ1 S2 nx=>tgt [7,8] false (Gd fw<|d+1) w σ1 λσ2=>zH4 (Gd fw<|d+1) σ2 S2<|lpE E nx) [some<|.ref h,a1,some<|.tup<|th.map .str,some<|.int wi,a4,some<|.ref l,a6,a,b,c] S kk:=by
 intro vs items pls X;induction X with
 |nil=>
  intro S ps a b c C G n H I hb k;refine k S a b c ?_ (xAg _) (λ_ _ z=>z) ?_
  .rw[xB0];exact C
  .rw[List.map_nil,xB0];exact n
 |@cons vs s v P r pl pls t ci W i R=>
  intro S ps a b c C G n H I hb k;have Z:=C.ob;rw[xBs,zA4];erw[pd (gc n),t.h n,<-pd (v:=.tup<|(th++P).map .str) (S':=S) ?_ ?_]
  .show fits _ _=_;rw[zA6 (by show _<=2^24;rw[xAa,xAa];lia),xAi]
  erw[pd (cE n),pd (cm Z rfl)];rw[<- xAx] at H I k;have J:(ps++pl).Nodup:=(xBq.mp H).1;refine ci.h Y C J (by rw[xAb (as:=ps++pl)] at I;lia) λS1 C1 p1=>?_;have m:=p1.ky G n;simp only[xAo] at hb;erw[pd (cH m<|by show _<=2^24;lia)];have C2:ChS h pq (ps++pl)<|set S1 l<|.lst<|vs++[v]:=⟨atK m C1.ob (λz=>nomatch z),atN G C1.di⟩
  erw[<-R C2 G (zAc m) H I (by simp;lia) λS' a b c C' O Q F=>?_,k S' a b c C' (by rw[zAf] at O;exact xCk p1.len O) (λL K z=>Q L K<|atN (Ne.symm K)<|p1.ky L z)];rw[xAx] at F;exact F
def zHv{a b:U}{r:C6}:pr ups (.sl false true false) [.tup<|a::b::r,.int 2] []=.ok (.tup r) []:=by
 show slice false (.tup<|a::b::r) (some ((2:Nat):Int)) none []=_;unfold slice;dsimp only;rw[HT.sIx_nat,show min 2 (a::b::r).length=2 by simp,xCn ()];dsimp only;congr 2;unfold zEf;rw[HT.sIx_nat,show min 2 (a::b::r).length=2 by simp,HT.sIx_none];simp
def wP{a b:U}{r:C6}:pr ups (.sl false true false) [.tup<|a::b::r,.int 2] S=.ok (.tup r) S:=by
 have e:∀S,pr ups (.sl false true false) [.tup<|a::b::r,.int 2] S=slice false (.tup<|a::b::r) (some 2) none S:=λ_=>rfl;have:=zHv (a:=a) (b:=b) (r:=r);rw[e] at this⊢;unfold slice at this⊢;dsimp only at this⊢;split at this
 .cases this
 .injection this with this _;rw[this]
theorem lI:∀{its:B7<|Str×U},zCt (its.map λp=>.str p.1) (its.map (·.2))=its.map λp=>.tup [.str p.1,p.2]
 |[]=>rfl
 |p::its=>by
  show U.tup [.str p.1,p.2]::zCt _ _=_;rw[lI];rfl
theorem gV{P:U}{k:Str}{pl wi':Int}{pls:C8}{th:C5}{D:Nat}{b:C4}(F:P=.tup (.str k::.int pl::items.map (·.2)))(hf:zAv k cn=some (.kt<|items.map λp=>.str p.1))(hw:(!zBc (.str k) [.str "number",.str "name"])=b)(n:wi'=if b then wi+1 else wi)(h20:wi'<=20)(O:k.length<=1000)(hil:items.length<=10)(I:0<=pl/\pl<=599)(H:th.length<=1000)(hD:4<=D)(hI:Its th wi' D [.str k,.int pl] items pls):Chk P (pl::pls) th wi<|D+1:=by
 refine⟨?_⟩;intro fw d h pq G S x K hd C L t X;obtain⟨d,rfl⟩:∃d',d=d'+4:=⟨d-4,()⟩
 erw[cd ⟨4,10,t13⟩];rw[F];have i:(items.map (·.2)).length=items.length:=xAa ..;erw[qc (by simp only[xAo,i];lia),pv (.bl true),bF,pd (v:=.int (items.length+2:Nat)) (S':=S) (by show Res.ok (.int ((items.map (·.2)).length+1+1:Nat)) S=_;rw[i]),pd (v:=.bl false) (S':=S) (by show Res.ok (.bl<|decide<|((items.length+2:Nat):Int)<2) S=_;rw[xCn ()]),bF,pd bz,kN O,pd eX,qe,pd (v:=.ref S.length) (S':=S++[.lst [.str k,.int pl]]) (by rfl)];have l:at? (S++[Ob.lst [.str k,.int pl]]) S.length=some (.lst [.str k,.int pl]):=zAx;have C1:ChS h pq G<|S++[.lst [.str k,.int pl]]:=⟨zAn C.ob,zAn C.di⟩
 have W:S.length≠pq:=by have:=zBi C.di;lia
 have m:S.length<=(S++[Ob.lst [.str k,.int pl]]).length:=⋯
 have ky1:∀{q o},at? S q=some o->at? (S++[Ob.lst [.str k,.int pl]]) q=some o:=λz=>zAn z;generalize S++[Ob.lst [.str k,.int pl]]=T at l C1 m ky1⊢;erw[pd (cx (j:=0) l rfl),cd ⟨1,1,t4⟩,pv (.bl true),bT,pd (v:=.kt<|items.map λp=>.str p.1) (S':=T) (by show opt (zAv k cn) T=_;rw[hf];rfl),pv (.bl false),bF,pd (v:=.int (items.length+2:Nat)) (S':=T) (by show Res.ok (.int ((items.map (·.2)).length+1+1:Nat)) T=_;rw[i]),pd (v:=.int items.length) (S':=T) (by show Res.ok (.int ((items.map λp=>U.str p.1).length:Nat)) T=_;rw[xAa]),pv (.int<|2+items.length),pd (v:=.bl false) (S':=T) (by show Res.ok (.bl (!(decide<|((items.length+2:Nat):Int)=2+items.length))) T=_;rw[xBd ()];rfl),bF];have h1:=C1.ob;erw[pd (cm h1 rfl),pd (cx (j:=1) l rfl)];rw[show G++pl::pls=G++[pl]++pls by simp] at L t X;have J:=(xBq.mp L).1;refine AX (d:=d) C1 I (λz=>(xBq.mp J).2.2 pl z pl (xAm.mpr rfl) rfl) (by rw[xAb,xAb] at t;simp at t;lia) λT2 C2 p2=>?_;have r:=p2.ky W l;erw[pd (cx (j:=0) r rfl),pd (v:=.bl b) (S':=T2) (by show obB (some<|zBc (.str k) [.str "number",.str "name"]) not T2=_;rw[<- hw];rfl)];have fin:∀{Z c2 Y:B8 U},(sQ (Ja (tB<|J2 .gt J8<|Jd 20)<|Jb sZ)<|sQ (sF (J2 .zip Jh<|J2 (.sl false true false) J9 Jq) [7,8] false zH4)<|J5<|J6 .tupOf Jc) (Gd fw<|d+3) [some<|.ref h,some P,some<|.tup<|th.map .str,some<|.int wi',some P,some<|.ref S.length,some<|.kt<|items.map λp=>.str p.1,Z,c2,Y] T2<|zAp x K:=by
  intro Z c2 Y;erw[pd (v:=.bl false) (S':=T2) (by show Res.ok (.bl<|decide<|(20:Int)<wi') T2=_;rw[xCn ()]),bF];rw[F];erw[pd wP,<-pd (v:=.tup<|items.map λp=>.tup [.str p.1,p.2]) (S':=T2) ?_ ?_]
  .show(match Nat.beq (items.map λp:Str×U=>U.str p.1).length (items.map λp:Str×U=>p.2).length with|true=>Res.ok (.tup<|zCt (items.map λp:Str×U=>U.str p.1) (items.map λp:Str×U=>p.2)) T2|false=>.stuck)=_;rw[i,xAa,show Nat.beq items.length items.length=true from Nat.beq_refl _,lI]
  erw[<-yg (d:=d+2) (D:=D) () H hI C2 W r L t (by show 2+items.length<=100;lia) λS' a b c C' ln ky Q=>?_,pd (v:=.tup (.str k::.int pl::items.map (·.2))) (S':=S') (by show zA1 (.ref S.length) S'=_;unfold zA1;dsimp only[lsU];rw[Q];rfl)];rw[<- F];exact X S' C' ⟨xCk m<|xCk p2.len ln,λR z=>ky R (by have:=zBi z;lia)<|p2.ky R<|ky1 z⟩
 rw[<- F];cases b with
 |true=>
  erw[bT,pd (v:=.int wi') (S':=T2) (by rw[n];rfl),<-fin]
 |false=>
  erw[bF];rw[show wi=wi' by rw[n];rfl];exact fin
section
variable{th:C5}{wi pl i:Int}{w y t:Str}{p q:U}{pls pls1 pls2:C8}{D dep dep':Nat}{req:C5}
def ChS.nil{ps:C8}(C:ChS h pq ps S):ChS h pq (ps++[]) S:=by rw[xB0];exact C
def yU(hi:-(10^12)<i/\i<10^12):zCs "number" (.int i) [] th wi 4:=by
 refine⟨?_⟩;intro fw d h pq c S x K m C k l a;obtain⟨d,rfl⟩:∃b,d=b+4:=⟨d-4,()⟩
 erw[cd ⟨5,6,t15⟩];walk_at"w"
 erw[qe,uV hi,bF,<-a S C.nil Pc.refl]
def jj{s:Str}(F:s≠"part")(v:s≠"parts")(r:s≠"names")(a:w.length<=1000)(c:∀{fw d:Nat}{S:So}{x:D6}{K:D5},K (.bl true) S->(Gd fw<|d+3).call 18 [.str s,.str w,.tup<|th.map .str] S x K):zCs s (.str w) [] th wi 4:=by
 refine⟨?_⟩;intro fw d h pq l S x K o C m n b;obtain⟨d,rfl⟩:∃k,d=k+4:=⟨d-4,()⟩
 erw[cd ⟨5,6,t15⟩];walk_at"w"
 erw[kN a,c,bF,<-b S C.nil Pc.refl]
def wlen(h:zA5 w=true):w.length<=1000:=by
 unfold zA5 at h;rw[xCh,xCh] at h;have:=xCo h.1.2;lia
def nword(h:zAq w=true):zA5 w=true:=by
 unfold zAq at h;rw[xCh] at h;exact h.1
def gm(h:zA5 w=true):zCs "word" (.str w) [] th wi 4:=jj ∅ ∅ ∅ (wlen h) λz=>rJ h z
def A5(h:zEr w=true):zCs "op" (.str w) [] th wi 4:=jj ∅ ∅ ∅ (wlen<|by unfold zEr at h;rw[xCh] at h;exact h.1) λz=>yq h z
def nG(h:zAq w=true):zCs "name" (.str w) [] th wi 4:=jj ∅ ∅ ∅ (wlen<|nword h) λz=>rL h z
def nF(h:zAq w=true)(a:w∈th):zCs "used" (.str w) [] th wi 4:=jj ∅ ∅ ∅ (wlen<|nword h) λz=>rK h a z
def zB8{x:D6}{K:D5}{xs:C6}(h:xs.length<=4)(a:K (.tup xs) S):(Gd fw<|d+2).call 16 [.tup xs] S x K:=by
 erw[cd ⟨1,2,t16⟩,qc (),pv (.bl true),bF,pv (.int xs.length),pd (v:=.bl false) (S':=S) (by show Res.ok (.bl<|decide<|(4:Int)<xs.length) S=_;rw[xCn ()]),bF,<-a]
theorem vK{fw d:Nat}{S:So}{K:D5}:∀{xs:C5}{ys:C6},(∀y∈xs,zAq y=true)->K (.lst<|ys++xs.map .str) S->lcK (Gd fw<|d+1) (lcB [1] true [none,none] none (Je 11 J1)<|Gd fw<|d+1) (xs.map .str) ys S K
 |[],ys,_,a=>by
  rw[List.map_nil,xB0] at a;exact a
 |y::xs,ys,h,a=>by
  erw[kN (wlen<|nword<|h y<|xAr ..),vK (xs:=xs) (λz b=>h z<|xAs _ b)];rw[xAx];exact a
theorem vM{fw d:Nat}{S:So}{K:D5}:∀{xs:C5}{ys:C6},(∀y∈xs,zAq y=true)->K (.lst<|ys++xs.map λ_=>.bl true) S->lcK (Gd fw<|d+2) (lcB [1] true [none,none] none (Je 8 J1)<|Gd fw<|d+2) (xs.map .str) ys S K
 |[],ys,_,a=>by
  rw[List.map_nil,xB0] at a;exact a
 |y::xs,ys,h,a=>by
  erw[isn (h y<|xAr ..),vM (xs:=xs) (λz b=>h z<|xAs _ b)];rw[xAx];exact a
theorem jy:∀{xs:C5},zCx (xs.map .str)=some xs
 |[]=>rfl
 |x::xs=>by
  show(zCx<|xs.map .str).map _=_;rw[jy];rfl
theorem kh:∀{xs:C5},blL (xs.map λ_=>U.bl true)=some (xs.map λ_=>true)
 |[]=>rfl
 |_::xs=>by
  show(blL<|xs.map λ_=>U.bl true).map _=_;rw[kh];rfl
def lF{n:Nat}(h:n<=1000):Nat.ble n sizeLine=true:=xDk (by show n<=2^24;lia)
def kc{xs:C5}(a:Nmz (zAq ·=true) xs):zCs "names" (.tup<|xs.map .str) [] th wi 5:=by
 refine⟨?_⟩;intro fw d h pq r S x K H C F G m;obtain⟨d,rfl⟩:∃o,d=o+5:=⟨d-5,()⟩
 have k:=a.few;have l:(xs.map U.str).length=xs.length:=xAa ..;erw[cd ⟨5,6,t15⟩];walk_at"w"
 erw[cd ⟨1,2,t17⟩,zB8 (),pv (.tup<|xs.map .str),<-bI (c:=Nat.ble (xs.map U.str).length sizeLine) (λ_=>?_) λz=>absurd (lF (n:=(xs.map U.str).length) ()) (by rw[z];decide),vK (d:=d+2) a.ok];rw[xC6];erw[pv (.tup<|xs.map .str),pv (.tup<|xs.map .str),<-bI (c:=Nat.ble (xs.map U.str).length sizeLine) (λ_=>?_) λz=>absurd (lF (n:=(xs.map U.str).length) ()) (by rw[z];decide),vM (d:=d+1) a.ok];rw[xC6];refine pd (v:=.bl true) (S':=S) ?_ ?_
 .show(match blL (xs.map λ_=>U.bl true) with|some bs=>Res.ok (.bl<|bs.all id) S|none=>.stuck)=_;rw[kh];simp
 erw[bF,<-pd (v:=.int xs.length) (S':=S) ?_ ?_]
 .show(match zCx (xs.map U.str) with|some b=>(match decide (b.length<=4/\b.Nodup) with|true=>Res.ok (.int b.length) S|false=>.stuck)|none=>.stuck)=_;rw[jy];dsimp only;rw[xBd ⟨k,a.nd⟩]
 erw[pd (v:=.int xs.length) (S':=S) (by show Res.ok (.int ((xs.map U.str).length:Nat)) S=_;rw[l]),pv (.bl<|decide<|(xs.length:Int)<xs.length)];rw[xCn ()];erw[bF];exact m S C.nil Pc.refl
def vj(c:Chk p pls th wi D):zCs "part" p pls th wi<|D+1:=by
 refine⟨?_⟩;intro fw d h pq m S x K n C a b k;obtain⟨d,rfl⟩:∃l,d=l+1:=⟨d-1,()⟩
 erw[cd ⟨5,6,t15⟩];have o:=C.ob;walk_at"w"
 exact c.h () C a b k
inductive zEy(th:List Str)(wi:Int)(D:Nat):List U->List Int->Prop
 |nil:zEy th wi D [] []
 |cons {p:U} {ps:List U} {pls1 pls2:List Int} (h:Chk p pls1 th wi D) (r:zEy th wi D ps pls2):zEy th wi D (p::ps) (pls1++pls2)
theorem qW{K:D5}(m:D<=d):∀{Ps:C6}{pls:C8},zEy th wi D Ps pls->∀{ys:C6}{ps:C8}{S:So},ChS h pq ps S->(ps++pls).Nodup->(ps++pls).length<=300->(∀S',ChS h pq (ps++pls) S'->Pc pq S S'->K (.lst<|ys++Ps) S') ->
  lcK (Gd fw d) (lcB [1] true [none,none,some<|.int wi,some<|.tup<|th.map .str,some<|.ref h] none (cM "Checker" "check_part" 13 J9 (Jw J1 J8 J7) [])<|Gd fw d) Ps ys S K:=by
 intro Ps pls c;induction c with
 |nil=>
  intro ys ps S C a b k;have:=k S C.nil Pc.refl;rw[xB0] at this;exact this
 |@cons p Ps pls1 pls2 c r l=>
  intro ys ps S C a b k;have n:=C.ob;rw[<- xAx] at a b;erw[pd (cm (C:="Checker") n rfl),<-c.h m C (xBq.mp a).1 (by rw[xAb] at b;lia) λS' C' p'=>?_,<-l C' a b λS2 C2 p2=>?_];rw[xAx] at C2⊢;exact k S2 C2<|p'.trans p2
def ka(c:zEy th wi D Ps pls)(m:Ps.length<=4)(v:4<=D):zCs "parts" (.tup Ps) pls th wi<|D+1:=by
 refine⟨?_⟩;intro fw d h pq o S x K r C b k l;obtain⟨d,rfl⟩:∃n,d=n+3:=⟨d-3,()⟩
 erw[cd ⟨5,6,t15⟩];have F:=C.ob;walk_at"w"
 erw[zB8 m];walk_at"w"
 erw[<-bI (c:=Nat.ble Ps.length sizeLine) (λ_=>?_) λz=>absurd (xDk<|show Ps.length<=2^24 by lia) (by rw[show Nat.ble Ps.length (2^24)=false from z];decide),<-qW () c (ys:=[]) C b k λS' C' a=>?_];walk_at"w"
 exact l S' C' a
def zCs.mono{s:Str}{v:U}{D':Nat}(h:zCs s v pls th wi D)(b:D<=D'):zCs s v pls th wi D':=⟨λa=>h.h<|xCk b a⟩
structure CP(P:U)(pls:C8)(dep:Nat)(req:C5):Prop where
 h:∀{th:C5}{wi:Int},(∀y∈req,y∈th)->th.length+5*dep<=1000->wi+dep<=20->Chk P pls th wi (2*dep+5)
def CP.mono(h:CP p pls dep req)(k:dep<=dep'):CP p pls dep' req:=⟨λa b c=>⟨λe=>(h.h a () ()).h ()⟩⟩
def CP.to(h:CP p pls1 dep req)(e:pls1=pls2):CP p pls2 dep req:=e▸h
def okP(pl:Int):Prop:=0<=pl/\pl<=599
def yP(a:okP pl)(hi:-(10 ^ 12)<i/\i<10 ^ 12):CP (.tup [.str "number",.int pl,.int i]) [pl] 0 []:=⟨λ{th wi} _ k c =>
 gV (items:=[("number",.int i)]) (b:=false) (wi':=wi) (D:=4) rfl (by rfl) (by rfl) rfl () ∅ (by show 1<=10;decide) a () () (.cons (pl:=[]) (iD (by rfl) ∅) (yU hi) ∅ .nil)⟩
def vf(c:okP pl)(a:zAq y=true):CP (.tup [.str "name",.int pl,.str y]) [pl] 0 [y]:=⟨λ{th wi} hr l k =>
 gV (items:=[("used",.str y)]) (b:=false) (wi':=wi) (D:=4) rfl (by rfl) (by rfl) rfl () ∅ (by show 1<=10;decide) c () () (.cons (pl:=[]) (iD (by rfl) ∅) (nF a<|xBw _<|hr y<|xAm.mpr rfl) ∅ .nil)⟩
def dM{k:Str}(o:okP pl)(v:∀{th:C5}{wi:Int},(∀y∈req,y∈th)->th.length+5 * dep+5<=1000->wi+dep<=20->Its th wi (2 * dep+6) [.str k,.int pl] items pls)(r:zAv k cn=some (.kt<|items.map λp=>.str p.1):=by rfl)(m:(!zBc (.str k) [.str "number",.str "name"])=true:=by rfl)(a:k.length<=1000:=by decide)(c:items.length<=10:=by simp):CP (.tup (.str k::.int pl::items.map (·.2))) (pl::pls) (dep+1) req:=⟨λ{th wi} n C l =>
 gV (items:=items) (b:=true) (wi':=wi+1) (D:=2*dep+6) rfl r m rfl () a c o () () (v n () ())⟩
variable{vs:C6}{nn:C5}{r:B7<|Str×U}
def itp(t:TA vs nn)(h:CP p pls1 dep req)(b:∀y∈req,y∈th++nn)(hb:th.length+5*dep+5<=1000)(a:wi+dep<=20)(i:Its th wi (2*dep+6) (vs++[p]) r pls2)(c:nn.length<=4:=by simp):Its th wi (2*dep+6) vs (("part",p)::r)<|pls1++pls2:=
 .cons t (vj<|h.h b (by rw[xAb];lia) a) () i
def its{s:Str}{v:U}(t:TA vs nn){D:Nat}(c:zCs s v [] (th++nn) wi D)(i:Its th wi (2*dep+6) (vs++[v]) r pls2)(a:nn.length<=4:=by simp)(b:D<=5:=by decide):Its th wi (2*dep+6) vs ((s,v)::r) pls2:=
 .cons (pl:=[]) t (c.mono ()) () i
def tn{k:Str}{r:C6}(b:zAv k cW=none:=by rfl)(a:(du.any λy=>decide<|y=k)=true:=by decide):TA (.str k::r) []:=iD b a
def up0{th req:C5}(a:∀y∈req,y∈th):∀y∈req,y∈th++[]:=λy z=>by rw[xB0];exact a y z
def AY(n:okP pl)(c:zAq y=true)(m:y∈req):CP (.tup [.str "name",.int pl,.str y]) [pl] 0 req:=⟨λ{th wi} a l k=>(vf n c).h (λz b=>by rw[xAm.mp b];exact a y m) l k⟩
def CP.any(h:CP p pls dep []):CP p pls dep req:=⟨λ_=>h.h λ_ z=>nomatch z⟩
def ve(k:okP pl)(h:CP p pls dep req):CP (.tup [.str "tell",.int pl,p]) (pl::pls) (dep+1) req:=
 (dM (items:=[("part",p)]) k λc a b=>itp tn h (up0 c) a b .nil).to ⋯
def vg(l:okP pl)(k:zEr w=true)(h:CP p pls1 dep req)(m:CP q pls2 dep req):CP (.tup [.str "math",.int pl,.str w,p,q]) (pl::(pls1++pls2)) (dep+1) req:=
 (dM (items:=[("op",.str w),("part",p),("part",q)]) l λc a b=>its tn (A5 k)<|itp tn h (up0 c) a b<|itp tn m (up0 c) a b .nil).to ⋯
def sj(l:okP pl)(c:zA5 w=true)(h:CP p pls dep req):CP (.tup [.str "raise",.int pl,.str w,p]) (pl::pls) (dep+1) req:=
 (dM (items:=[("word",.str w),("part",p)]) l λk a b=>its tn (gm c)<|itp tn h (up0 k) a b .nil).to ⋯
def AZ{s:U}{c:C8}(l:okP pl)(h:CP p pls1 dep req)(n:CP q pls2 dep req)(m:CP s c dep req):CP (.tup [.str "if",.int pl,p,q,s]) (pl::(pls1++(pls2++c))) (dep+1) req:=
 (dM (items:=[("part",p),("part",q),("part",s)]) l λk a b=>itp tn h (up0 k) a b<|itp tn n (up0 k) a b<|itp tn m (up0 k) a b .nil).to ⋯
inductive CPs(dep:Nat)(req:List Str):List U->List Int->Prop
 |nil:CPs dep req [] []
 |cons {p:U} {ps:List U} {pls1 pls2:List Int} (h:CP p pls1 dep req) (r:CPs dep req ps pls2):CPs dep req (p::ps) (pls1++pls2)
theorem CPs.chk(c:CPs dep req Ps pls)(l:∀y∈req,y∈th)(k:th.length+5*dep<=1000)(b:wi+dep<=20):zEy th wi (2*dep+5) Ps pls:=by
 induction c with
 |nil=>exact .nil
 |cons h r a=>exact .cons (h.h l k b) a
def vh(l:okP pl)(c:zA5 t=true)(h:CPs dep req Ps pls)(m:Ps.length<=4):CP (.tup [.str "make",.int pl,.str t,.tup Ps]) (pl::pls) (dep+1) req:=
 (dM (items:=[("word",.str t),("parts",.tup Ps)]) l λk a b=>its tn (gm c)<|.cons tn (ka (h.chk (up0 k) (by rw[xB0];lia) b) m ()) ∅ .nil).to ⋯
def vi(k:okP pl)(h:CP p pls1 dep req)(m:CPs dep req Ps pls2)(l:Ps.length<=4):CP (.tup [.str "call",.int pl,p,.tup Ps]) (pl::(pls1++pls2)) (dep+1) req:=
 (dM (items:=[("part",p),("parts",.tup Ps)]) k λc a b=>itp tn h (up0 c) a b<|.cons tn (ka (m.chk (up0 c) (by rw[xB0];lia) b) l ()) ∅ .nil).to ⋯
def yS(c:okP pl):CP (.tup [.str "ask",.int pl]) [pl] 1 req:=
 dM (items:=[]) (dep:=0) c λk a b=>.nil
end
section
variable{th:C5}{wi pl i:Int}{w y t:Str}{p q:U}{pls pls1 pls2 pls3:C8}{dep:Nat}{req xs:C5}
def upa(hr:∀z∈req,z∈th):∀z∈req++xs,z∈th++xs:=λz a=>(xAj.mp a).elim (λh=>xBw _<|hr z h)<|xBt _
def A0(l:okP pl)(c:Nmz (zAq ·=true) xs)(h:CP q pls dep<|req++xs):CP (.tup [.str "fn",.int pl,.tup<|xs.map .str,q]) (pl::pls) (dep+1) req:=
 (dM (items:=[("names",.tup<|xs.map .str),("part",q)]) l λk a b=>its zh (kc c)<|itp wm h (upa k) a b .nil c.few).to ⋯
def yR(l:okP pl)(k:zAq y=true)(h:CP p pls1 dep req)(m:CP q pls2 dep<|req++[y]):CP (.tup [.str "let",.int pl,.str y,p,q]) (pl::(pls1++pls2)) (dep+1) req:=
 (dM (items:=[("name",.str y),("part",p),("part",q)]) l λc a b=>its wj (nG k)<|itp tp h (up0 c) a b<|itp tm m (upa c) a b .nil).to ⋯
def yO(m:okP pl)(l:zAq y=true)(c:y∈req)(h:CP p pls dep req):CP (.tup [.str "set",.int pl,.str y,p]) (pl::pls) (dep+1) req:=
 (dM (items:=[("used",.str y),("part",p)]) m λk a b=>its tn (nF l<|up0 k y c)<|itp tn h (up0 k) a b .nil).to ⋯
def A3(k:okP pl)(h:CP p pls1 dep req)(l:CP q pls2 dep req):CP (.tup [.str "do",.int pl,p,q]) (pl::(pls1++pls2)) (dep+1) req:=
 (dM (items:=[("part",p),("part",q)]) k λc a b=>itp tn h (up0 c) a b<|itp tn l (up0 c) a b .nil).to ⋯
def yQ{s:U}(m:okP pl)(l:zA5 w=true)(k:Nmz (zAq ·=true) xs)(h:CP p pls1 dep req)(o:CP q pls2 dep<|req++xs)(n:CP s pls3 dep req):CP (.tup [.str "match",.int pl,p,.str w,.tup<|xs.map .str,q,s]) (pl::(pls1++(pls2++pls3))) (dep+1) req:=
 (dM (items:=[("part",p),("word",.str w),("names",.tup<|xs.map .str),("part",q),("part",s)]) m λc a b=>itp zg h (up0 c) a b<|its zf (gm l)<|its ze (kc k)<|itp zd o (upa c) a b (itp zc n (up0 c) a b .nil) k.few).to ⋯
def AW(m:okP pl)(l:zA5 w=true)(k:zAq y=true)(h:CP p pls1 dep req)(n:CP q pls2 dep<|req++[y]):CP (.tup [.str "try",.int pl,p,.str w,.str y,q]) (pl::(pls1++pls2)) (dep+1) req:=
 (dM (items:=[("part",p),("word",.str w),("name",.str y),("part",q)]) m λc a b=>itp wg h (up0 c) a b<|its tj (gm l)<|its sY (nG k)<|itp sX n (upa c) a b .nil).to ⋯
def iz:∀w∈wds,zA5 w=true:=by decide +kernel
def xr:∀w∈ops,zEr w=true:=by decide +kernel
theorem lA{sc:C5}:∀{as:B7 Pg},(∀a∈as,(∀p∈a.pls,okP p)->CP a.u a.pls dep sc)->(∀p∈Pg.plss as,okP p)->CPs dep sc (Pg.us as) (Pg.plss as)
 |[],_,_=>.nil
 |a::r,h,k=>.cons (h a (xAr ..) λp c=>k p<|xBw _ c)<|lA (λb hb=>h b<|xAs _ hb) λp c=>k p<|xBt _ c
theorem fA:∀{as:B7 Pg},(Pg.us as).length=as.length
 |[]=>rfl
 |_::r=>congrArg (·+1)<|fA (as:=r)
theorem y8{sc:C5}{P:Pg}(h:Wf (zAq ·=true) sc d P):(∀y∈sc,zAq y=true)->(∀p∈P.pls,okP p)->CP P.u P.pls d sc:=by
 have J:∀{x y:Int}{r s:C8},(∀p∈x::(r++s),okP p)->okP x/\(∀p∈r,okP p)/\∀p∈s,okP p:=λh=>⟨h _<|xAr ..,λp z=>h p<|xAs _<|xBw _ z,λp z=>h p<|xAs _<|xBt _ z⟩
 have v:∀{sc xs:C5},(∀y∈sc,zAq y=true)->(∀y∈xs,zAq y=true)->∀y∈sc++xs,zAq y=true:=λa b y z=>(xAj.mp z).elim (a y)<|b y;have h1:∀{y:Str},zAq y=true->∀z∈[y],zAq z=true:=λe z G=>by rw[xAm.mp G];exact e
 have k:∀{x:Int}{r:C8},(∀p∈x::r,okP p)->okP x/\∀p∈r,okP p:=λh=>⟨h _<|xAr ..,λp z=>h p<|xAs _ z⟩
 have m:∀{r s:C8},(∀p∈r++s,okP p)->(∀p∈r,okP p)/\∀p∈s,okP p:=λh=>⟨λp z=>h p<|xBw _ z,λp z=>h p<|xBt _ z⟩
 induction h with
 |num a b=>intro _ c;exact((yP (k c).1 ⟨a,b⟩).any).mono<|xBn _
 |nam h=>intro l c;exact(AY (k c).1 (l _ h) h).mono<|xBn _
 |fn h hb ib=>intro l c;exact A0 (k c).1 h<|ib (v l h.ok) (k c).2
 |call K h F i1 i2=>intro l c;exact vi (k c).1 (i1 l (m (k c).2).1) (lA (λa z=>i2 a z l) (m (k c).2).2) (by rw[fA];exact F)
 |lt o n hb i1 i2=>intro l c;exact yR (k c).1 o (i1 l (m (k c).2).1)<|i2 (v l<|h1 o) (m (k c).2).2
 |st o n i1=>intro l c;exact yO (k c).1 (l _ o) o<|i1 l (k c).2
 |dd n hb i1 i2=>intro l c;exact A3 (k c).1 (i1 l (m (k c).2).1)<|i2 l (m (k c).2).2
 |iff n hb I i1 i2 i3=>intro l c;exact AZ (k c).1 (i1 l (m (k c).2).1) (i2 l (m (m (k c).2).2).1)<|i3 l (m (m (k c).2).2).2
 |math H n hb i1 i2=>intro l c;exact vg (k c).1 (xr _ H) (i1 l (m (k c).2).1)<|i2 l (m (k c).2).2
 |make D h F i2=>intro l c;exact vh (k c).1 (iz _ D) (lA (λa z=>i2 a z l) (k c).2) (by rw[fA];exact F)
 |mat D o n hb I i1 i2 i3=>intro l c;exact yQ (k c).1 (iz _ D) o (i1 l (m (k c).2).1) (i2 (v l o.ok) (m (m (k c).2).2).1)<|i3 l (m (m (k c).2).2).2
 |rai C n i1=>intro l c;exact sj (k c).1 (iz _ C)<|i1 l (k c).2
 |try_ C o n hb i1 i2=>intro l c;exact AW (k c).1 (iz _ C) o (i1 l (m (k c).2).1)<|i2 (v l<|h1 o) (m (k c).2).2
 |tell n i1=>intro l c;exact ve (k c).1<|i1 l (k c).2
 |ask=>intro l c;exact(yS (k c).1).mono ()
def checked{P:Pg}(ok:zGj P){x:D6}{K:D5}(b:∀S',Kp S S'->K P.u S'):(Gd fw<|d+60).call 19 [P.u] S x K:=by
 have c:=y8 ok.wf (λ_ z=>nomatch z) ok.rg;erw[cd ⟨1,1,t19⟩,pd (v:=.ref S.length) (S':=S++[.ins "Checker" []]) (by rfl),cd ⟨1,1,t12⟩,pd tR,pd (pY 0 rfl (by rfl) rfl)];have C:ChS S.length (S.length+1) []<|S++[.ins "Checker" [("places",.ref<|S.length+1)],.dct []]:=⟨zDp (k:=0),zDp⟩
 have l:=C.ob;erw[pd (cm (C:="Checker") l rfl),<-(c.h (th:=[]) (wi:=0) (λ_ z=>nomatch z) ⋯ ()).h () C (by simpa using ok.nd) (by simpa using ok.le) λS' C' a=>?_];exact b S' ⟨by have:=a.len;rw[xAb] at this;lia,λ{q o} z=>a.ky (by have:=zBi z;lia)<|zAn z⟩
end
section
variable{κ:Type} [DecidableEq κ] {k k':κ} {v:U}
def k6:∀{kvs:B7<|κ×U},zAu k (putK k v kvs)=some v:=by
 intro kvs;unfold Fx.putK;split
 .next h=>
  induction kvs with
  |nil=>cases h
  |cons a r c=>
   let⟨g,u⟩:=a;by_cases b:g=k
   .subst b;simp[zAu]
   .have:(r.any λkv=>decide<|kv.1=k)=true:=by simpa [b] using h
    simpa [zAu,b] using c this
 .next h=>
  induction kvs with
  |nil=>simp[zAu]
  |cons a r c=>
   let⟨g,u⟩:=a;have b:g≠k:=λe=>h (by simp[e]);have:¬ (r.any λkv=>decide<|kv.1=k)=true:=λe=>h (by simp only[List.any_cons,Bool.or_eq_true];exact .inr e);simpa [zAu,b] using c this
def vS(c:k'≠k):∀{kvs:B7<|κ×U},zAu k' (putK k v kvs)=zAu k' kvs:=by
 intro kvs;unfold Fx.putK;split
 .next h=>
  clear h;induction kvs with
  |nil=>rfl
  |cons a r b=>
   let⟨g,u⟩:=a;by_cases hg:g=k
   .subst hg;simp only[xBs,if_true,zAu,xCf<|Ne.symm c];exact b
   .simp only[xBs,xCf hg,zAu];rw[b]
 .next h=>
  clear h;induction kvs with
  |nil=>simp[zAu,Ne.symm c]
  |cons a r b=>
   let⟨g,u⟩:=a;simp only[List.cons_append,zAu];rw[b]
def iO{kvs:B7<|κ×U}:(putK k v kvs).length<=kvs.length+1:=by
 unfold Fx.putK;split
 .rw[xAa];lia
 .rw[xAb,xAt];lia
end
def pus(kvs:B7<|Key×U):B7 (Str×U)->B7 (Key×U)
 |[]=>kvs
 |b::r=>pus (putK (.inr b.1) b.2 kvs) r
theorem fg:∀{bs:B7<|Str×U}{kvs:B7<|Key×U},(pus kvs bs).length<=kvs.length+bs.length
 |[],_=>xAg _
 |b::r,kvs=>by
  have:=fg (bs:=r) (kvs:=putK (.inr b.1) b.2 kvs);have:=iO (k:=(Sum.inr b.1:Key)) (v:=b.2) (kvs:=kvs);show(pus (putK (.inr b.1) b.2 kvs) r).length<=_;rw[xAo];lia
theorem gE{y:Str}:∀{bs:B7<|Str×U}{kvs:B7<|Key×U},y∉bs.map (·.1)->zAu (.inr y) (pus kvs bs)=zAu (.inr y) kvs
 |[],_,_=>rfl
 |b::r,kvs,h=>by
  rw[xBs,xAv,not_or] at h;show zAu (.inr y) (pus (putK (.inr b.1) b.2 kvs) r)=_;rw[gE h.2,vS λe=>h.1<|by injection e]
theorem iL{y:Str}{u:U}:∀{bs:B7<|Str×U}{kvs:B7<|Key×U},(bs.map (·.1)).Nodup->(y,u)∈bs->zAu (.inr y) (pus kvs bs)=some u
 |b::r,kvs,a,h=>by
  rw[xBs,xCb] at a;show zAu (.inr y) (pus (putK (.inr b.1) b.2 kvs) r)=_;rcases xAv.mp h with rfl|h
  .rw[gE a.1,k6]
  .exact iL a.2 h
section
variable{fw d:Nat}{S:So}{x:D6}{K:D5}
structure TT(vs:C6)(i:Nat)(nn:C5):Prop where
 h:∀{fw d:Nat}{S:So}{x:D6}{K:D5},K (.tup (nn.map .str)) S->(Gd fw (d+1)).call 5 [.tup vs,.int i] S x K
def cv{k:Str}{r:C6}{i:Nat}(c:zAv k cW=none:=by rfl)(b:(du.any λy=>decide<|y=k)=true:=by decide):TT (.str k::r) i []:=⟨λ{fw d S x K} a=>by
 erw[cd ⟨2,5,t5⟩,pd bz,<-pd (v:=.tup [.non,.non]) (S':=S) ?_ ?_]
 .delta pr;dsimp only[gP];rw[c,b]
 refine pv (.tup [.non,.non]) ?_;refine pv (.bl true) ?_;exact bT a⟩
def ju{k:Str}{r:C6}{i:Nat}(b:zAv k cW=some (.kt [.int na,.int sa]))(hi:i≠sa):TT (.str k::r) i []:=⟨λ{fw d S x K} a=>by
 erw[cd ⟨2,5,t5⟩,pd bz,<-pd (v:=.kt [.int na,.int sa]) (S':=S) ?_ ?_]
 .delta pr;dsimp only[gP];rw[b]
 refine pv (.tup [.int na,.int sa]) ?_;refine pd (v:=.bl true) (S':=S) (by show Res.ok (.bl (!(decide<|(i:Int)=sa))) S=_;rw[xCn ()];rfl) ?_;exact bT a⟩
def pj{k:Str}{r:C6}{nn:C5}(c:zAv k cW=some (.kt [.int na,.int sa]))(b:(.str k::r:C6)[na]?=some (.tup<|nn.map .str)):TT (.str k::r) sa nn:=⟨λ{fw d S x K} a=>by
 erw[cd ⟨2,5,t5⟩,pd bz,<-pd (v:=.kt [.int na,.int sa]) (S':=S) ?_ ?_]
 .delta pr;dsimp only[gP];rw[c]
 refine pv (.tup [.int na,.int sa]) ?_;refine pd (v:=.bl false) (S':=S) (by show Res.ok (.bl (!(decide<|(sa:Int)=sa))) S=_;rw[xBd rfl];rfl) ?_;refine bF ?_;refine pd (cf b) ?_;refine pv (.bl true) ?_;exact bT a⟩
def pA{k:Str}{r:C6}(c:zAv k cW=some (.kt [.int na,.int sa]))(b:(.str k::r:C6)[na]?=some (.str y)):TT (.str k::r) sa [y]:=⟨λ{fw d S x K} a=>by
 erw[cd ⟨2,5,t5⟩,pd bz,<-pd (v:=.kt [.int na,.int sa]) (S':=S) ?_ ?_]
 .delta pr;dsimp only[gP];rw[c]
 refine pv (.tup [.int na,.int sa]) ?_;refine pd (v:=.bl false) (S':=S) (by show Res.ok (.bl (!(decide<|(sa:Int)=sa))) S=_;rw[xBd rfl];rfl) ?_;refine bF ?_;refine pd (cf b) ?_;refine pv (.bl false) ?_;exact bF a⟩
def nw{k:Str}{v:U}(h:zAv k cn=some v)(a:K v S):(Gd fw<|d+1).call 4 [.str k] S x K:=by
 erw[cd ⟨1,1,t4⟩,pv (.bl true),bT,pd (v:=v) (S':=S) (by show opt (zAv k cn) S=_;rw[h];rfl),<-a]
end
abbrev Fd:=B7<|B7 Key×U
structure FSc(u:U)(kvs:B7 (Key×U))(f f':Fd)(lv:Nat):Prop where
 h:∀{fw d g q:Nat}{S:So}{x:D6}{K:D5},at? S g=some (.dct kvs)->at? S q=some (.dtt f)->(∀S',at? S' q=some (.dtt f')->Pc q S S'->K .non S')->(Gd fw (d+lv)).call 21 [u,.ref g,.ref q] S x K
inductive zEw(kvs:List (Key×U))(lv:Nat):List U->Fd->Fd->Prop
 |nil {f:Fd}:zEw kvs lv [] f f
 |cons {u:U} {r:List U} {f f1 f2:Fd} (h:FSc u kvs f f1 lv) (t:zEw kvs lv r f1 f2):zEw kvs lv (u::r) f f2
def zB0(nn:C5)(pl:Int):B7<|Str×U:=nn.map λy=>(y,.int pl)
inductive FIt(vs:List U)(pl:Int)(kvs:List (Key×U))(lv:Nat):Nat->List Str->Fd->Fd->Prop
 |nil {i:Nat} {f:Fd}:FIt vs pl kvs lv i [] f f
 |skip {i:Nat} {s:Str} {ss:List Str} {f f':Fd} (t:TT vs i []) (r:FIt vs pl kvs lv (i+1) ss f f') (h1:s≠"part":=by decide) (h2:s≠"parts":=by decide):FIt vs pl kvs lv i (s::ss) f f'
 |part {i:Nat} {ss nn:List Str} {u:U} {f f1 f':Fd} (v:vs[i]?=some u) (t:TT vs i nn) (hn:nn.length<=4) (c:FSc u (pus kvs (zB0 nn pl)) f f1 lv) (r:FIt vs pl kvs lv (i+1) ss f1 f'):FIt vs pl kvs lv i ("part"::ss) f f'
 |parts {i:Nat} {ss:List Str} {us:List U} {f f1 f':Fd} (v:vs[i]?=some (.tup us)) (t:TT vs i []) (c:zEw kvs lv us f f1) (r:FIt vs pl kvs lv (i+1) ss f1 f'):FIt vs pl kvs lv i ("parts"::ss) f f'
section
variable{fw d g q n lv:Nat}{vs:C6}{pl:Int}{kvs:B7<|Key×U}{E:Ee Prop}{kk:Sg->So->Prop}
theorem lJ(l:vs[1]?=some (.int pl)):∀{nn:C5}{kvs:B7<|Key×U}{S:So}{a1 a a3 a4 a6 a7:B8 U},kvs.length+nn.length<=1000->at? S n=some (.dct kvs)->(∀S' a6,at? S' n=some (.dct<|pus kvs<|zB0 nn pl)->Pc n S S'->kk [some<|.tup vs,a1,a,a3,a4,some<|.ref n,a6,a7] S')->zA4 (nn.map U.str) (λw σ1 S2 nx=>tgt [6] true (Gd fw d) w σ1 λσ2=>bdT (Gd fw d) σ2 S2<|lpE E nx) [some<|.tup vs,a1,a,a3,a4,some<|.ref n,a6,a7] S kk
 |[],kvs,S,a1,a,a3,a4,a6,a7,_,h,b=>b S a6 h Pc.refl
 |y::nn,kvs,S,a1,a,a3,a4,a6,a7,m,h,b=>by
  rw[xAo] at m;have:=iO (k:=(Sum.inr y:Key)) (v:=.int pl) (kvs:=kvs);rw[xBs,zA4];erw[pd (cf l),pd (ga h<|by show _<=2^24;lia),<-lJ l (nn:=nn) (kvs:=putK (.inr y) (.int pl) kvs) () (zAc h) λS' a6 o c=>?_];exact b S' a6 o ⟨by have:=c.len;rw[zAf] at this;exact this,λi z=>c.ky i<|atN (Ne.symm i) z⟩
theorem qw:∀{us:C6}{f f':Fd},zEw kvs lv us f f'->∀{S:So}{a7:B8 U},at? S n=some (.dct kvs)->at? S q=some (.dtt f)->(∀S' a7,at? S' q=some (.dtt f')->Pc q S S'->kk [a0,a1,some<|.ref q,a3,a4,some<|.ref n,a6,a7] S')->zA4 us (λw σ1 S2 nx=>tgt [7] true (Gd fw<|d+lv) w σ1 λσ2=>bdP (Gd fw<|d+lv) σ2 S2<|lpE E nx) [a0,a1,some<|.ref q,a3,a4,some<|.ref n,a6,a7] S kk:=by
 intro us f f' c;induction c with
 |nil=>intro S a7 a b i;exact i S a7 b Pc.refl
 |cons c t k=>
  intro S a7 a b i;rw[zA4];have ne:n≠q:=λe=>by rw[e,b] at a;cases a
  refine c.h a b λS1 m p1=>?_;exact k (p1.ky ne a) m λS2 a7 l p2=>i S2 a7 l<|p1.trans p2
theorem rF{ss:C5}{i:Nat}{f:Fd}(F:vs[1]?=some (.int pl))(O:kvs.length<=900)(I:FIt vs pl kvs (lv+1) i ss f f'):∀{S:So}{a3 a4 a5 a6 a7:B8 U},at? S g=some (.dct kvs)->at? S q=some (.dtt f)->(∀S' a3 a4 a5 a6 a7,at? S' q=some (.dtt f')->Pc q S S'->kk [some<|.tup vs,some<|.ref g,some<|.ref q,a3,a4,a5,a6,a7] S')->zA4 (zCv (i:Int)<|ss.map U.str) (λw σ1 S2 nx=>tgt [3,4] false (Gd fw<|d+(lv+1)) w σ1 λσ2=>zKj (Gd fw<|d+(lv+1)) σ2 S2<|lpE E nx) [some<|.tup vs,some<|.ref g,some<|.ref q,a3,a4,a5,a6,a7] S kk:=by
 induction I with
 |nil=>intro S a3 a4 a5 a6 a7 a b h;exact h S a3 a4 a5 a6 a7 b Pc.refl
 |@skip i s ss f f' t r H G m=>
  intro S a3 a4 a5 a6 a7 a b h;rw[xBs,zCv,zA4];have ne:g≠q:=λe=>by rw[e,b] at a;cases a
  erw[pd (dU a),t.h (d:=d+lv),pv (.tup []),pd (cj H),bF,pd (cj G),bF,<-m (zAn a) (zAn b) λS' a3 a4 a5 a6 a7 o k=>?_,<-h S' a3 a4 a5 a6 a7 o<|Pc.app.trans k]
 |@part i ss nn u f f1 f' v t L c r m=>
  intro S a3 a4 a5 a6 a7 a b h;rw[xBs,zCv,zA4];have ne:g≠q:=λe=>by rw[e,b] at a;cases a
  have J:=zBi b;erw[pd (dU a),t.h (d:=d+lv),pv (.tup<|nn.map .str),<-lJ F () (zAx (l:=S)) λS1 a6 D p1=>?_,pd (cG rfl),bT,pd (cf v),<-c.h D (p1.ky ()<|zAn b) λS2 p p2=>?_];have K:=zBi a;erw[<-m (p2.ky ne<|p1.ky ()<|zAn a) p λS' a3 a4 a5 a6 a7 o k=>?_,<-h S' a3 a4 a5 a6 a7 o ⟨?_,λC z=>k.ky C<|p2.ky C<|p1.ky (by have:=zBi z;lia)<|zAn z⟩];have:=p1.len;rw[xAb] at this;have:=p2.len;have:=k.len;lia
 |@parts i ss us f f1 f' v t c r m=>
  intro S a3 a4 a5 a6 a7 a b h;rw[xBs,zCv,zA4];have ne:g≠q:=λe=>by rw[e,b] at a;cases a
  erw[pd (dU a),t.h (d:=d+lv),pv (.tup []),pd (cj ∅),bF,pd (cG rfl),bT,pd (cf v),pv (.tup us),<-qw c (zAx (l:=S)) (zAn b) λS2 a7 p p2=>?_,<-m (p2.ky ne<|zAn a) p λS' a3 a4 a5 a6 a7 o k=>?_,<-h S' a3 a4 a5 a6 a7 o<|(Pc.app.trans p2).trans k]
def dy{k:Str}{ss:C5}{r:C6}{f:Fd}(I:FIt (.str k::.int pl::r) pl kvs (lv+1) 2 ss f f')(c:kvs.length<=900)(i:zAv k cn=some (.kt<|ss.map .str):=by rfl)(b:k≠"set":=by decide):FSc (.tup<|.str k::.int pl::r) kvs f f'<|lv+2:=⟨λ{fw d g q S x K} m l h=>by
 refine cd (d:=d+(lv+1)) ⟨3,8,t21⟩ ?_;refine pd bz ?_;refine pd (cj b) ?_;refine bF ?_;refine pd bz ?_;refine nw (d:=d+lv) i ?_;refine pv (.tup<|zCv 2<|ss.map .str) ?_;refine rF (vs:=.str k::.int pl::r) rfl c I m l λS' a3 a4 a5 a6 a7 o a=>?_;exact h S' o a⟩
def yn{u:U}{b:Int}{f:Fd}(hb:zAu (.inr y) kvs=some (.int b))(c:FSc u kvs (putK [.inl b,.inr y] (.bl true) f) f'<|lv+1)(o:kvs.length<=900)(r:f.length<=1000):FSc (.tup [.str "set",.int pl,.str y,u]) kvs f f'<|lv+2:=⟨λ{fw d g q S x K} a k h=>by
 have ne:g≠q:=λe=>by rw[e,k] at a;cases a
 erw[cd (d:=d+(lv+1)) ⟨3,8,t21⟩,pd bz,pd (cG rfl),bT,pd (cf (j:=2) rfl),pd (dP a hb),pd (cf (j:=2) rfl),<-pd (v:=.non) (S':=set S q<|.dtt<|putK [.inl b,.inr y] (.bl true) f) ?_ ?_]
 .show zBg q (.tup [.int b,.str y]) (.bl true) S=_;unfold zBg;rw[k];exact zA6 (by show _<=2^24;lia)
 refine pd bz ?_;refine nw (v:=.kt [.str "used",.str "part"]) (d:=d+lv) rfl ?_;refine pv (.tup<|zCv 2 [.str "used",.str "part"]) ?_;refine rF (ss:=["used","part"]) (i:=2) (vs:=[.str "set",.int pl,.str y,u]) (pl:=pl) rfl o (.skip cv<|.part (nn:=[]) rfl cv ∅ c .nil) (atN (Ne.symm ne) a) (zAc k) λS' a3 a4 a5 a6 a7 p l=>?_;exact h S' p ⟨by have:=l.len;rw[zAf] at this;exact this,λm z=>l.ky m<|atN (Ne.symm m) z⟩⟩
end
def up(β:Str->Int)(xs:C5)(pl:Int):Str->Int:=λy=>if y∈xs then pl else β y
mutual
def Pg.sts:Pg->(Str->Int)->B7 (Int×Str)
 |.num _ _,_=>[]
 |.nam _ _,_=>[]
 |.fn pl i b,β=>b.sts<|up β i pl
 |.call _ f k,β=>f.sts β++Pg.stss k β
 |.lt pl x a b,β=>a.sts β++b.sts (up β [x] pl)
 |.st _ x a,β=>(β x,x)::a.sts β
 |.dd _ a b,β=>a.sts β++b.sts β
 |.iff _ a b c,β=>a.sts β++(b.sts β++c.sts β)
 |.math _ _ a b,β=>a.sts β++b.sts β
 |.make _ _ k,β=>Pg.stss k β
 |.mat pl a _ i b c,β=>a.sts β++(b.sts (up β i pl)++c.sts β)
 |.rai _ _ a,β=>a.sts β
 |.try_ pl a _ x b,β=>a.sts β++b.sts (up β [x] pl)
 |.tell _ a,β=>a.sts β
 |.ask _,_=>[]
def Pg.stss:B7 Pg->(Str->Int)->B7 (Int×Str)
 |[],_=>[]
 |a::r,β=>a.sts β++Pg.stss r β
end
def Sf(β:Str->Int)(sc:C5)(kvs:B7<|Key×U):Prop:=∀y∈sc,zAu (.inr y) kvs=some (.int<|β y)
def jv{pl:Int}{xs:C5}:(zB0 xs pl).map (·.1)=xs:=by
 unfold zB0;rw[List.map_map];exact List.map_id' xs
theorem Sf.up{β:Str->Int}{sc xs:C5}{kvs:B7<|Key×U}{pl:Int}(h:Sf β sc kvs)(b:xs.Nodup):Sf (up β xs pl) (sc++xs)<|pus kvs<|zB0 xs pl:=λy a=>by
 unfold K31.up;by_cases hx:y∈xs
 .rw[xCg hx,iL (bs:=zB0 xs pl) (u:=.int pl) (by rw[jv];exact b)<|xA2.mpr ⟨y,hx,rfl⟩]
 .rw[xCf hx,gE<|by rw[jv];exact hx];exact h y<|(xAj.mp a).resolve_right hx
structure FR(l:B7 (Int×Str))(n:Nat)(f f':Fd):Prop where
 mo:∀k,(zAu k f).isSome=true->(zAu k f').isSome=true
 ins:∀b∈l,(zAu [.inl b.1,.inr b.2] f').isSome=true
 len:f'.length<=f.length+n
 ls:f'.length<=f.length+l.length
def FR.nil{n:Nat}{f:Fd}:FR [] n f f:=⟨λ_ z=>z,λ_ z=>(nomatch z),(),xAg _⟩
def FR.app{l c:B7<|Int×Str}{n:Nat}{f f2:Fd}(a:FR l n f f1)(b:FR c n' f1 f2):FR (l++c) (n+n') f f2:=
 ⟨λk z=>b.mo k<|a.mo k z,λp z=>(xAj.mp z).elim (λh=>b.mo _<|a.ins p h)<|b.ins p,by have:=a.len;have:=b.len;lia,by rw[xAb];have:=a.ls;have:=b.ls;lia⟩
def FR.up{l:B7<|Int×Str}{n:Nat}{f:Fd}(a:FR l n f f1)(h:n<=n'):FR l n' f f1:=⟨a.mo,a.ins,by have:=a.len;lia,a.ls⟩
def FP(sc:C5)(d:Nat)(P:Pg):Prop:=∀{β:Str->Int}{kvs:B7<|Key×U},Sf β sc kvs->kvs.length+5*d<=800->∀f:Fd,f.length+P.pls.length<=900->∃f',FR (P.sts β) P.pls.length f f'/\FSc P.u kvs f f' (d+2)
theorem k9{sc:C5}{d:Nat}{β:Str->Int}{kvs:B7<|Key×U}(c:Sf β sc kvs)(i:kvs.length+5*d<=800):∀{as:B7 Pg},(∀a∈as,FP sc d a)->∀f:Fd,f.length+(Pg.plss as).length<=900->∃f',FR (Pg.stss as β) (Pg.plss as).length f f'/\zEw kvs (d+2) (Pg.us as) f f'
 |[],_,f,_=>⟨f,.nil,.nil⟩
 |a::r,h,f,m=>by
  have e:(Pg.plss<|a::r).length=a.pls.length+(Pg.plss r).length:=xAb;let⟨f1,r1,l⟩:=h a (xAr ..) c i f ();have:=r1.len;let⟨k,r2,c2⟩:=k9 c i (λb hb=>h b<|xAs _ hb) f1 ();exact⟨k,by rw[e];exact r1.app r2,.cons l c2⟩
def nS{xs:C5}{pl:Int}:(zB0 xs pl).length=xs.length:=xAa ..
def iK{xs:C5}{pl:Int}{kvs:B7<|Key×U}(h:kvs.length+5*(d+1)<=800)(a:xs.length<=4):(pus kvs<|zB0 xs pl).length+5*d<=800:=by
 have:=fg (bs:=zB0 xs pl) (kvs:=kvs);rw[nS] at this;lia
theorem yo{sc:C5}{P:Pg}(h:Wf N sc d P):FP sc d P:=by
 induction h with
 |@num sc d pl n h1 h2=>intro β kvs l C f m;exact⟨f,.nil,dy (ss:=["number"]) (lv:=d) (.skip cv .nil) ()⟩
 |@nam sc d pl x h=>intro β kvs l C f m;exact⟨f,.nil,dy (ss:=["used"]) (lv:=d) (.skip cv .nil) ()⟩
 |@fn sc xs d pl b h hb Q=>
  intro β kvs l C f m;have m:f.length+(b.pls.length+1)<=900:=m;let⟨f',r,c⟩:=Q (l.up (pl:=pl) h.nd) (iK C h.few) f ();exact⟨f',r.up (by show _<=b.pls.length+1;lia),dy (ss:=["names","part"]) (lv:=d+1) (.skip (ju (na:=2) (sa:=3) rfl ∅)<|.part (nn:=xs) rfl (pj (na:=2) rfl rfl) h.few c .nil) ()⟩
 |@call sc d pl u I W h Y p i2=>
  intro β kvs l C f m;have e:(Pg.call pl u I).pls.length=u.pls.length+(Pg.plss I).length+1:=by show(u.pls++Pg.plss I).length+1=_;rw[xAb]
  let⟨f1,r1,q⟩:=p l () f ();have:=r1.len;let⟨D,r2,c2⟩:=k9 (d:=d) l () i2 f1 ();exact⟨D,(r1.app r2).up (),dy (ss:=["part","parts"]) (lv:=d+1) (.part (nn:=[]) rfl cv ∅ q<|.parts rfl cv c2 .nil) ()⟩
 |@lt sc d pl x a b H G hb p i2=>
  intro β kvs l C f m;have e:(Pg.lt pl x a b).pls.length=a.pls.length+b.pls.length+1:=by show(a.pls++b.pls).length+1=_;rw[xAb]
  let⟨f1,r1,q⟩:=p l () f ();have:=r1.len;let⟨D,r2,c2⟩:=i2 (l.up (xs:=[x]) (pl:=pl) ⋯) (iK C ⋯) f1 ();exact⟨D,(r1.app r2).up (),dy (ss:=["name","part","part"]) (lv:=d+1) (.skip (ju (na:=2) (sa:=4) rfl ∅)<|.part (nn:=[]) rfl (ju (na:=2) (sa:=4) rfl ∅) ∅ q<|.part (nn:=[x]) rfl (pA (na:=2) rfl rfl) ⋯ c2 .nil) ()⟩
 |@st sc d pl x a H G p=>
  intro β kvs l C f m;have m:f.length+(a.pls.length+1)<=900:=m;have Z:=iO (k:=([.inl<|β x,.inr x]:B7 Key)) (v:=.bl true) (kvs:=f);let⟨f1,r1,q⟩:=p l () (putK [.inl<|β x,.inr x] (.bl true) f) ();have ml:∀k,(zAu k f).isSome=true->(zAu k<|putK [.inl<|β x,.inr x] (.bl true) f).isSome=true:=λk K=>by
   by_cases hkk:k=[.inl<|β x,.inr x]
   .rw[hkk,k6];rfl
   .rw[vS hkk];exact K
  refine⟨f1,⟨λk z=>r1.mo k<|ml k z,λb hb=>?_,by have:=r1.len;show _<=f.length+(a.pls.length+1);lia,by have:=r1.ls;show _<=f.length+((a.sts β).length+1);lia⟩,yn (l x H) q () ()⟩;rcases xAv.mp hb with rfl|hb
  .exact r1.mo _ (by rw[k6];rfl)
  .exact r1.ins b hb
 |@dd sc d pl a b G hb p i2=>
  intro β kvs l C f m;have e:(Pg.dd pl a b).pls.length=a.pls.length+b.pls.length+1:=by show(a.pls++b.pls).length+1=_;rw[xAb]
  let⟨f1,r1,q⟩:=p l () f ();have:=r1.len;let⟨D,r2,c2⟩:=i2 l () f1 ();exact⟨D,(r1.app r2).up (),dy (ss:=["part","part"]) (lv:=d+1) (.part (nn:=[]) rfl cv ∅ q<|.part (nn:=[]) rfl cv ∅ c2 .nil) ()⟩
 |@iff sc d pl a b c G hb X p i2 J=>
  intro β kvs l C f m;have e:(Pg.iff pl a b c).pls.length=a.pls.length+(b.pls.length+c.pls.length)+1:=by show(a.pls++(b.pls++c.pls)).length+1=_;rw[xAb,xAb]
  let⟨f1,r1,q⟩:=p l () f ();have:=r1.len;let⟨D,r2,c2⟩:=i2 l () f1 ();have:=r2.len;let⟨L,r3,O⟩:=J l () D ();exact⟨L,(r1.app<|r2.app r3).up (),dy (ss:=["part","part","part"]) (lv:=d+1) (.part (nn:=[]) rfl cv ∅ q<|.part (nn:=[]) rfl cv ∅ c2<|.part (nn:=[]) rfl cv ∅ O .nil) ()⟩
 |@math sc d pl o a b ho G hb p i2=>
  intro β kvs l C f m;have e:(Pg.math pl o a b).pls.length=a.pls.length+b.pls.length+1:=by show(a.pls++b.pls).length+1=_;rw[xAb]
  let⟨f1,r1,q⟩:=p l () f ();have:=r1.len;let⟨D,r2,c2⟩:=i2 l () f1 ();exact⟨D,(r1.app r2).up (),dy (ss:=["op","part","part"]) (lv:=d+1) (.skip cv<|.part (nn:=[]) rfl cv ∅ q<|.part (nn:=[]) rfl cv ∅ c2 .nil) ()⟩
 |@make sc d pl t I T h Y i2=>
  intro β kvs l C f m;have m:f.length+((Pg.plss I).length+1)<=900:=m;let⟨D,r2,c2⟩:=k9 (d:=d) l () i2 f ();exact⟨D,r2.up (by show _<=(Pg.plss I).length+1;lia),dy (ss:=["word","parts"]) (lv:=d+1) (.skip cv<|.parts rfl cv c2 .nil) ()⟩
 |@mat sc xs d pl t a b c T H G hb X p i2 J=>
  intro β kvs l C f m;have e:(Pg.mat pl a t xs b c).pls.length=a.pls.length+(b.pls.length+c.pls.length)+1:=by show(a.pls++(b.pls++c.pls)).length+1=_;rw[xAb,xAb]
  let⟨f1,r1,q⟩:=p l () f ();have:=r1.len;let⟨D,r2,c2⟩:=i2 (l.up (pl:=pl) H.nd) (iK C H.few) f1 ();have:=r2.len;let⟨L,r3,O⟩:=J l () D ();have F:∀{i:Nat}{r:C6},i≠5->TT (.str "match"::r) i []:=λh=>ju (na:=4) (sa:=5) rfl h;exact⟨L,(r1.app<|r2.app r3).up (),dy (ss:=["part","word","names","part","part"]) (lv:=d+1) (.part (nn:=[]) rfl (F ∅) ∅ q<|.skip (F ∅)<|.skip (F ∅)<|.part (nn:=xs) rfl (pj (na:=4) rfl rfl) H.few c2<|.part (nn:=[]) rfl (F ∅) ∅ O .nil) ()⟩
 |@rai sc d pl w a R G p=>
  intro β kvs l C f m;have m:f.length+(a.pls.length+1)<=900:=m;let⟨f1,r1,q⟩:=p l () f ();exact⟨f1,r1.up (by show _<=a.pls.length+1;lia),dy (ss:=["word","part"]) (lv:=d+1) (.skip cv<|.part (nn:=[]) rfl cv ∅ q .nil) ()⟩
 |@try_ sc d pl w x a b R H G hb p i2=>
  intro β kvs l C f m;have e:(Pg.try_ pl a w x b).pls.length=a.pls.length+b.pls.length+1:=by show(a.pls++b.pls).length+1=_;rw[xAb]
  let⟨f1,r1,q⟩:=p l () f ();have:=r1.len;let⟨D,r2,c2⟩:=i2 (l.up (xs:=[x]) (pl:=pl) ⋯) (iK C ⋯) f1 ();have F:∀{i:Nat}{r:C6},i≠5->TT (.str "try"::r) i []:=λh=>ju (na:=4) (sa:=5) rfl h;exact⟨D,(r1.app r2).up (),dy (ss:=["part","word","name","part"]) (lv:=d+1) (.part (nn:=[]) rfl (F ∅) ∅ q<|.skip (F ∅)<|.skip (F ∅)<|.part (nn:=[x]) rfl (pA (na:=4) rfl rfl) ⋯ c2 .nil) ()⟩
 |@tell sc d pl a G p=>
  intro β kvs l C f m;have m:f.length+(a.pls.length+1)<=900:=m;let⟨f1,r1,q⟩:=p l () f ();exact⟨f1,r1.up (by show _<=a.pls.length+1;lia),dy (ss:=["part"]) (lv:=d+1) (.part (nn:=[]) rfl cv ∅ q .nil) ()⟩
 |@ask sc d pl=>intro β kvs l C f m;exact⟨f,.nil,dy (ss:=[]) (lv:=d+1) .nil ()⟩
structure zKm(P:Pg)(f:Fd):Prop where
 h:∀{fw d:Nat}{S:So}{x:D6}{K:D5},(∀S' q,Kp S S'->S.length<=q->at? S' q=some (.dtt f)->K (.ref q) S')->(Gd fw (d+20)).call 20 [P.u] S x K
def tx{P:Pg}(ok:zGj P):∃f,(∀b∈P.sts (λ_=>0),(zAu [.inl b.1,.inr b.2] f).isSome=true)/\f.length<=(P.sts λ_=>0).length/\zKm P f:=by
 have le:=ok.le;let⟨f,r,c⟩:=yo ok.wf (β:=λ_=>0) (kvs:=[]) (λ_ z=>nomatch z) ∅ [] (by show 0+_<=_;lia);erw[<-⟨f,r.ins,by have:=r.ls;rw[List.length_nil,Nat.zero_add] at this;exact this,⟨λ{fw d S x K} l=>?_⟩⟩,cd (d:=d+19) ⟨1,2,t20⟩,pd (v:=.ref S.length) (S':=S++[.dtt []]) (by rfl)];have a:at? (S++[Ob.dtt []]) S.length=some (.dtt []):=zAx;have k0:Kp S<|S++[Ob.dtt []]:=⟨⋯,λz=>zAn z⟩
 have k:(S++[Ob.dtt []]).length=S.length+1:=⋯
 generalize S++[Ob.dtt []]=T at a k0 k;erw[pd (v:=.ref T.length) (S':=T++[.dct []]) (by rfl),<-c.h (d:=d+3) (g:=T.length) zAx (zAn a) λS' m i=>?_];refine l S' S.length ⟨by have:=i.len;rw[xAb] at this;lia,λ{q o} z=>i.ky (by have:=zBi z;lia)<|zAn<|k0.ky z⟩ (xAg _) m
mutual
def Pg.bps:Pg->B7 (Int×Str)
 |.num _ _=>[]
 |.nam _ _=>[]
 |.fn pl i b=>i.map (Prod.mk pl)++b.bps
 |.call _ f k=>f.bps++Pg.bpss k
 |.lt pl x a b=>a.bps++((pl,x)::b.bps)
 |.st _ _ a=>a.bps
 |.dd _ a b=>a.bps++b.bps
 |.iff _ a b c=>a.bps++(b.bps++c.bps)
 |.math _ _ a b=>a.bps++b.bps
 |.make _ _ k=>Pg.bpss k
 |.mat pl a _ i b c=>a.bps++(i.map (Prod.mk pl)++(b.bps++c.bps))
 |.rai _ _ a=>a.bps
 |.try_ pl a _ x b=>a.bps++((pl,x)::b.bps)
 |.tell _ a=>a.bps
 |.ask _=>[]
def Pg.bpss:B7 Pg->B7 (Int×Str)
 |[]=>[]
 |a::r=>a.bps++Pg.bpss r
end
variable{N:Str->Prop}{sc:C5}{d:Nat}{P:Pg}
def Fw(P:Pg):Prop:=∀β,P.bps.length+4*(P.sts β).length<=4*P.cnt
theorem k8:∀{as:B7 Pg},(∀a∈as,Fw a)->∀β,(Pg.bpss as).length+4*(Pg.stss as β).length<=4*Pg.cnts as
 |[],_,_=>xAg _
 |a::r,h,β=>by
  have i:=h a (xAr ..) β;have c:=k8 (λb z=>h b<|xAs _ z) β;show(a.bps++Pg.bpss r).length+4*(a.sts β++Pg.stss r β).length<=4*(a.cnt+Pg.cnts r);rw[xAb,xAb];lia
theorem ym(h:Wf N sc d P):Fw P:=by
 induction h with
 |num _ _=>exact λ_=>xAg _
 |nam _=>exact λ_=>xAg _
 |@fn sc m d pl b h hb o=>
  intro β;have:=o<|up β m pl;have:=h.few;simp only[Pg.bps,Pg.sts,Pg.cnt,xAb,xAa];lia
 |call r h C i i2=>
  intro β;have:=i β;have:=k8 i2 β;simp only[Pg.bps,Pg.sts,Pg.cnt,xAb,xAa];lia
 |@lt sc d pl x a b l k hb i i2=>
  intro β;have:=i β;have:=i2<|up β [x] pl;simp only[Pg.bps,Pg.sts,Pg.cnt,xAb,xAa,xAo];lia
 |st l k i=>
  intro β;have:=i β;simp only[Pg.bps,Pg.sts,Pg.cnt,xAo];lia
 |dd k hb i i2=>
  intro β;have:=i β;have:=i2 β;simp only[Pg.bps,Pg.sts,Pg.cnt,xAb];lia
 |iff k hb v i i2 n=>
  intro β;have:=i β;have:=i2 β;have:=n β;simp only[Pg.bps,Pg.sts,Pg.cnt,xAb];lia
 |math D k hb i i2=>
  intro β;have:=i β;have:=i2 β;simp only[Pg.bps,Pg.sts,Pg.cnt,xAb];lia
 |make q h C i2=>
  intro β;have:=k8 i2 β;simp only[Pg.bps,Pg.sts,Pg.cnt];lia
 |@mat sc m d pl t a b c q l k hb v i i2 n=>
  intro β;have:=i β;have:=i2<|up β m pl;have:=n β;have:=l.few;simp only[Pg.bps,Pg.sts,Pg.cnt,xAb,xAa];lia
 |rai p k i=>exact i
 |@try_ sc d pl w x a b p l k hb i i2=>
  intro β;have:=i β;have:=i2<|up β [x] pl;simp only[Pg.bps,Pg.sts,Pg.cnt,xAb,xAo];lia
 |tell k i=>exact i
 |ask=>exact λ_=>xAg _
theorem b9(h:Wf N sc d P):∀p∈P.bps,p.1∈P.pls:=by
 induction h with
 |num _ _=>exact λ_ z=>nomatch z
 |nam _=>exact λ_ z=>nomatch z
 |@fn sc o d pl b h hb ib=>
  intro p i;rcases xAj.mp i with z|z
  .let⟨y,_,rfl⟩:=xA2.mp z;exact xAr ..
  .exact xAs _<|ib p z
 |@call sc d pl u l C h n i1 i2=>
  intro p i;erw[xAs _];rcases xAj.mp i with z|z
  .exact xBw _<|i1 p z
  .erw[xBt _];clear i i1 n h;induction l with
   |nil=>cases z
   |cons a r ih=>
    rcases xAj.mp z with z|z
    .exact xBw _<|i2 a (xAr ..) p z
    .exact xBt _<|ih (λb hb=>i2 b<|xAs _ hb) z
 |@lt sc d pl x a b m k hb i1 i2=>
  intro p i;rcases xAj.mp i with z|z
  .exact xAs _<|xBw _<|i1 p z
  .rcases xAv.mp z with rfl|z
   .exact xAr ..
   .exact xAs _<|xBt _<|i2 p z
 |st m k i1=>exact λp i=>xAs _<|i1 p i
 |dd k hb i1 i2=>exact λp i=>xAs _<|(xAj.mp i).elim (λz=>xBw _<|i1 p z) λz=>xBt _<|i2 p z
 |iff k hb D i1 i2 i3=>exact λp i=>xAs _<|(xAj.mp i).elim (λz=>xBw _<|i1 p z) λz=>xBt _<|(xAj.mp z).elim (λz=>xBw _<|i2 p z) λz=>xBt _<|i3 p z
 |math F k hb i1 i2=>exact λp i=>xAs _<|(xAj.mp i).elim (λz=>xBw _<|i1 p z) λz=>xBt _<|i2 p z
 |@make sc d pl t l v h n i2=>
  intro p i;erw[xAs _];have z:p∈Pg.bpss l:=i;clear i n h;induction l with
  |nil=>cases z
  |cons a r ih=>
   rcases xAj.mp z with z|z
   .exact xBw _<|i2 a (xAr ..) p z
   .exact xBt _<|ih (λb hb=>i2 b<|xAs _ hb) z
 |@mat sc o d pl t a b c v m k hb D i1 i2 i3=>
  intro p i;rcases xAj.mp i with z|z
  .exact xAs _<|xBw _<|i1 p z
  .rcases xAj.mp z with z|z
   .let⟨y,_,rfl⟩:=xA2.mp z;exact xAr ..
   .exact xAs _<|xBt _<|(xAj.mp z).elim (λz=>xBw _<|i2 p z) λz=>xBt _<|i3 p z
 |rai q k i1=>exact λp i=>xAs _<|i1 p i
 |@try_ sc d pl w x a b q m k hb i1 i2=>
  intro p i;rcases xAj.mp i with z|z
  .exact xAs _<|xBw _<|i1 p z
  .rcases xAv.mp z with rfl|z
   .exact xAr ..
   .exact xAs _<|xBt _<|i2 p z
 |tell k i1=>exact λp i=>xAs _<|i1 p i
 |ask=>exact λ_ z=>nomatch z
section
variable{N:Str->Prop}{sc:C5}{d:Nat}{P:Pg}
def xM{J:Type}{l r:B7 J}(a:l.Nodup)(b:r.Nodup)(h:∀x∈l,x∉r):(l++r).Nodup:=xBq.mpr ⟨a,b,λx i y c e=>h x i<|e▸c⟩
def dC{l r:C8}(h:(l++r).Nodup):l.Nodup/\r.Nodup/\∀x∈l,x∉r:=by
 let⟨a,b,c⟩:=xBq.mp h;exact⟨a,b,λx k i=>c x k x i rfl⟩
def c8{l r:B7<|Int×Str}{p q:C8}(a:l.Nodup)(b:r.Nodup)(k:∀x∈l,x.1∈p)(h2:∀x∈r,x.1∈q)(h:∀x∈p,x∉q):(l++r).Nodup:=xM a b λx i c=>h _ (k x i)<|h2 x c
def qP{pl:Int}{xs:C5}(h:xs.Nodup):(xs.map<|Prod.mk pl).Nodup:=List.pairwise_map.mpr<|h.imp λ{a b} z e=>z (Prod.mk.inj e).2
def iV{pl:Int}{xs:C5}:∀x∈xs.map (Prod.mk pl),x.1∈[pl]:=λx a=>by
 let⟨y,_,rfl⟩:=xA2.mp a;exact xAm.mpr rfl
theorem iJ:∀{as:B7 Pg},(∀a∈as,∀p∈a.bps,p.1∈a.pls)->∀p∈Pg.bpss as,p.1∈Pg.plss as
 |[],_,_,z=>nomatch z
 |a::r,h,p,z=>(xAj.mp z).elim (λz=>xBw _<|h a (xAr ..) p z) λz=>xBt _<|iJ (λb hb=>h b<|xAs _ hb) p z
theorem kG:∀{as:B7 Pg},(∀a∈as,a.pls.Nodup->a.bps.Nodup)->(∀a∈as,∀p∈a.bps,p.1∈a.pls)->(Pg.plss as).Nodup->(Pg.bpss as).Nodup
 |[],_,_,_=>xC7
 |a::r,h,m,n=>by
  let⟨k,i,c⟩:=dC n;exact c8 (h a (xAr ..) k) (kG (λb hb=>h b<|xAs _ hb) (λb hb=>m b<|xAs _ hb) i) (m a<|xAr ..) (iJ λb hb=>m b<|xAs _ hb) c
def dJ{x:Int}{r:C8}(h:(x::r).Nodup):(∀z∈[x],z∉r)/\r.Nodup:=⟨λz a=>by rw[xAm.mp a];exact(xCb.mp h).1,(xCb.mp h).2⟩
theorem yX(h:Wf N sc d P):P.pls.Nodup->P.bps.Nodup:=by
 induction h with
 |num _ _=>exact λ_=>xC7
 |nam _=>exact λ_=>xC7
 |fn h hb J=>exact λn=>c8 (qP h.nd) (J (dJ n).2) iV (b9 hb) (dJ n).1
 |call I h O k i2=>
  intro n;let⟨r,o,m⟩:=dC (dJ n).2;exact c8 (k r) (kG i2 (λa i=>b9<|h a i) o) (b9 I) (iJ λa i=>b9<|h a i) m
 |@lt sc d pl x a b C i hb k i2=>
  intro n;let⟨l,n⟩:=dJ n;let⟨r,o,m⟩:=dC n;have l:=l pl<|xAm.mpr rfl;refine c8 (q:=pl::b.pls) (k r) (xCb.mpr ⟨λz=>l<|xBt _<|b9 hb _ z,i2 o⟩) (b9 i) (λz hz=>?_) λz hz hz'=>?_
  .rcases xAv.mp hz with rfl|hz
   .exact xAr ..
   .exact xAs _<|b9 hb _ hz
  .rcases xAv.mp hz' with rfl|hz'
   .exact l<|xBw _ hz
   .exact m z hz hz'
 |st C i k=>exact λn=>k (dJ n).2
 |dd i hb k i2=>
  intro n;let⟨r,o,m⟩:=dC (dJ n).2;exact c8 (k r) (i2 o) (b9 i) (b9 hb) m
 |@iff sc d pl a b c i hb v k i2 H=>
  intro n;let⟨r,o,m⟩:=dC (dJ n).2;let⟨G,F,D⟩:=dC o;exact c8 (q:=b.pls++c.pls) (k r) (c8 (i2 G) (H F) (b9 hb) (b9 v) D) (b9 i) (λz hz=>xAj.mpr<|(xAj.mp hz).imp (b9 hb z)<|b9 v z) m
 |math R i hb k i2=>
  intro n;let⟨r,o,m⟩:=dC (dJ n).2;exact c8 (k r) (i2 o) (b9 i) (b9 hb) m
 |make L h O i2=>exact λn=>kG i2 (λa i=>b9<|h a i) (dJ n).2
 |@mat sc Q d pl t a b c L C i hb v k i2 H=>
  intro n;let⟨l,n⟩:=dJ n;have l:=l pl<|xAm.mpr rfl;let⟨r,o,m⟩:=dC n;let⟨G,F,D⟩:=dC o;have bc:∀z∈b.bps++c.bps,z.1∈b.pls++c.pls:=λz hz=>xAj.mpr<|(xAj.mp hz).imp (b9 hb z)<|b9 v z;refine c8 (q:=pl::(b.pls++c.pls)) (k r) (c8 (p:=[pl]) (qP C.nd) (c8 (i2 G) (H F) (b9 hb) (b9 v) D) iV bc λz hz=>by rw[xAm.mp hz];exact λz=>l<|xBt _ z) (b9 i) (λz hz=>?_) λz hz hz'=>?_
  .rcases xAj.mp hz with hz|hz
   .rw[xAm.mp<|iV z hz];exact xAr ..
   .exact xAs _<|bc z hz
  .rcases xAv.mp hz' with rfl|hz'
   .exact l<|xBw _ hz
   .exact m z hz hz'
 |rai K i k=>exact λn=>k (dJ n).2
 |@try_ sc d pl w x a b K C i hb k i2=>
  intro n;let⟨l,n⟩:=dJ n;let⟨r,o,m⟩:=dC n;have l:=l pl<|xAm.mpr rfl;refine c8 (q:=pl::b.pls) (k r) (xCb.mpr ⟨λz=>l<|xBt _<|b9 hb _ z,i2 o⟩) (b9 i) (λz hz=>?_) λz hz hz'=>?_
  .rcases xAv.mp hz with rfl|hz
   .exact xAr ..
   .exact xAs _<|b9 hb _ hz
  .rcases xAv.mp hz' with rfl|hz'
   .exact l<|xBw _ hz
   .exact m z hz hz'
 |tell i k=>exact λn=>k (dJ n).2
 |ask=>exact λ_=>xC7
end
def isset(f:Fd)(p:Int)(y:Str):C4:=(zAu [.inl p,.inr y] f).isSome
theorem i8{κ:Type} [DecidableEq κ]:∀{f:B7<|κ×U}{l:B7 κ},l.Nodup->(∀k∈l,(zAu k f).isSome=true)->l.length<=f.length
 |[],[],_,_=>xAg _
 |[],k::l,_,h=>by have:=h k<|xAr ..;cases this
 |(g,v)::r,l,n,h=>by
  have go:∀m:B7 κ,m.Nodup->(∀k∈m,k≠g/\(zAu k<|(g,v)::r).isSome=true)->m.length<=r.length:=λm n h=>i8 n λk c=>by
   let⟨a,b⟩:=h k c;rw[zAu,xCf<|Ne.symm a] at b;exact b
  have:=go (l.erase g) (n.erase g) λk c=>⟨λe=>by rw[e] at c;exact(List.Nodup.not_mem_erase n) c,h k<|List.mem_of_mem_erase c⟩
  have e:=List.length_erase (a:=g) (l:=l);rw[xAo];split at e <;> lia
def Pg.bs(f:Fd)(P:Pg):B7<|Int×Str:=P.bps.filter λb=>isset f b.1 b.2
def A8{sc:C5}{P:Pg}{f:Fd}(w:Wf N sc d P)(n:P.pls.Nodup)(c:P.cnt<=79)(m:f.length<=(P.sts λ_=>0).length):(P.bs f).length<=63:=by
 have p:(P.bs f).length<=P.bps.length:=List.length_filter_le ..;have o:(P.bs f).length<=f.length:=by
  have i:((P.bs f).map λb=>([.inl b.1,.inr b.2]:B7 Key)).Nodup:=List.pairwise_map.mpr (((yX w n).filter _).imp λ{a b} z e=>z<|by injection e with e1 e2;injection e2 with e2 _;injection e1 with e1;injection e2 with e2;exact Prod.ext e1 e2);have:=i8 i (f:=f) λk l=>by
   let⟨b,hb,rfl⟩:=xA2.mp l;exact(List.mem_filter.mp hb).2
  rwa[xAa] at this
 have:=ym w λ_=>0;lia
section
variable{fw d:Nat}{S:So}{x:D6}{K:D5}{th ps:C7}
structure Pd(r s:Nat)(S S':So):Prop where
 len:S.length<=S'.length
 ky:∀{q:Nat}{o:Ob},q≠r->q≠s->at? S q=some o->at? S' q=some o
def nu(l:C7):C6:=l.map λi:Nat=>.int (i:Int)
inductive AtV:U->Prop
 |num {i:Int}:AtV (.tup [.str "number",.int i])
 |nam {k:Nat}:AtV (.tup [.str "name",.int (k:Int)])
inductive Flt:Nat->U->Prop
 |int {n:Nat} {i:Int}:Flt n (.int i)
 |str {n:Nat} {x:Str}:Flt n (.str x)
 |bl {n:Nat} {b:Bool}:Flt n (.bl b)
 |tup {n:Nat} {xs:List U} (h:∀z∈xs,Flt n z):Flt (n+1) (.tup xs)
theorem gw{q:U->U->C4}:∀{xs:C6},(∀z∈xs,q z z=true)->zA7 q xs xs=true
 |[],_=>rfl
 |z::xs,h=>by
  show(q z z&&zA7 q xs xs)=true;rw[h z<|xAr ..,gw λy a=>h y<|xAs _ a];rfl
theorem pJ{n:Nat}{u:U}(h:Flt n u):same S n u u=true:=by
 induction h with
 |@int n i=>
  cases n <;> (unfold same;simp[lsT,zAs,eqS,sc,Sc.eq])
 |@str n x=>
  cases n <;> (unfold same;simp[lsT,zAs,eqS,sc,Sc.eq])
 |@bl n b=>
  cases n <;> (unfold same;simp[lsT,zAs,eqS,sc,Sc.eq])
 |tup h a=>
  unfold same;exact gw a
end
structure Nm(h q r:Nat)(f:Fd)(ps:C8)(S:So):Prop where
 ob:at? S h=some (.ins "Namer" [("set_ones",.ref q),("places",.ref r)])
 se:at? S q=some (.dtt f)
 pl:at? S r=some (.lst (ps.map .int))
section
variable{fw d lv:Nat}{h q r g s:Nat}{f:Fd}{ps np np2:C8}{S S':So}{x:D6}{K:D5}{pl:Int}{kvs:B7<|Key×U}{u a b:U}{us:C6}{last:C4}
def Nm.kp(n:Nm h q r f ps S)(k:Kp S S'):Nm h q r f ps S':=⟨k.ky n.ob,k.ky n.se,k.ky n.pl⟩
def iU(n:Nm h q r f ps S)(k:ps.length<=10000)(i:∀S',Nm h q r f (ps++[pl]) S'->Pc r S S'->K (.int ps.length) S'):(Gd fw<|d+1).call 23 [.ref h,.int pl] S x K:=by
 erw[cd ⟨2,2,t23⟩,pd (dB n.ob rfl),pd (cE n.pl),pd (cH n.pl<|by rw[xAa];show _<=2^24;lia)];have e:ps.map U.int++[.int pl]=(ps++[pl]).map U.int:=by rw[xAi];rfl
 rw[e];have c:Nm h q r f (ps++[pl])<|set S r<|.lst<|(ps++[pl]).map .int:=⟨atK n.pl n.ob (λz=>nomatch z),atK n.pl n.se (λz=>nomatch z),zAc n.pl⟩
 erw[pd (dB c.ob rfl),pd (gc c.pl),<-pd (v:=.int ps.length) (S':=set S r<|.lst<|(ps++[pl]).map .int) ?_ ?_]
 .show Res.ok (.int<|(((ps++[pl]).map U.int).length:Int)-1) _=_;rw[xAa,xAb,xAt];congr 2;lia
 exact i _ c ⟨by rw[zAf];exact xAg _,λc z=>atN (Ne.symm c) z⟩
def kI{p:Int}(c:at? S q=some (.dtt f)):pr ups .inn [.tup [.int p,.str y],.ref q] S=.ok (.bl<|isset f p y) S:=by
 show obB (inU S (.tup [.int p,.str y])<|.ref q) id S=_;unfold inU;dsimp only;rw[c];rfl
structure AtC(u:U)(kvs:B7 (Key×U))(last:C4)(f:Fd)(ps:C8)(a:U)(us:C6)(np:C8)(lv:Nat):Prop where
 h:∀{fw d h q r g s:Nat}{ss:C6}{S:So}{x:D6}{K:D5},Nm h q r f ps S->at? S g=some (.dct kvs)->at? S s=some (.lst ss)->s≠r->ss.length<=ps.length->(∀S',Nm h q r f (ps++np) S'->at? S' s=some (.lst (ss++us))->Pd r s S S'->K a S')->(Gd fw (d+lv)).call 25 [.ref h,u,.ref g,.bl last,.ref s] S x K
structure BoC(u:U)(kvs:B7 (Key×U))(last:C4)(f:Fd)(ps:C8)(b:U)(np:C8)(lv:Nat):Prop where
 h:∀{fw d h q r g:Nat}{S:So}{x:D6}{K:D5},Nm h q r f ps S->at? S g=some (.dct kvs)->(∀S',Nm h q r f (ps++np) S'->Pc r S S'->K b S')->(Gd fw (d+lv)).call 24 [.ref h,u,.ref g,.bl last] S x K
def AtC.up(c:AtC u kvs last f ps a us np lv)(l:lv<=lv'):AtC u kvs last f ps a us np lv':=⟨λ{fw d h q r g s ss S x K} a b e i j k=>by
 have:=c.h (fw:=fw) (d:=d+(lv'-lv)) (x:=x) a b e i j k;rw[show d+(lv'-lv)+lv=d+lv' by lia] at this;exact this⟩
def BoC.up(c:BoC u kvs last f ps b np lv)(i:lv<=lv'):BoC u kvs last f ps b np lv':=⟨λ{fw d h q r g S x K} a b k=>by
 have:=c.h (fw:=fw) (d:=d+(lv'-lv)) (x:=x) a b k;rw[show d+(lv'-lv)+lv=d+lv' by lia] at this;exact this⟩
def B1(c:AtC u kvs last f ps a us np lv):BoC u kvs last f ps (.tup [.tup us,a]) np<|lv+1:=⟨λ{fw d h q r g S x K} n t p=>by
 erw[cd (d:=d+lv) ⟨4,6,t24⟩,pd (v:=.ref S.length) (S':=S++[.lst []]) (by rfl)];have k0:Kp S<|S++[Ob.lst []]:=⟨⋯,λz=>zAn z⟩
 have k:=n.kp k0;erw[pd (cm k.ob rfl)];have C:=zBi n.pl;erw[<-c.h k (k0.ky t) (zAx (l:=S)) () (xBn _) λS' n' m i=>?_,<-pd (v:=.tup us) (S':=S') ?_ ?_]
 .show zA1 (.ref S.length) S'=_;unfold zA1;dsimp only[lsU];rw[m];rfl
 refine p S' n' ⟨by have:=i.len;have:=k0.len;lia,λo z=>i.ky o (by have:=zBi z;lia)<|k0.ky z⟩⟩
def bnd(f:Fd)(pl:Int):Nat->C5->B7 (Str×U)
 |_,[]=>[]
 |n,y::r=>(y,.tup [.tup [.str "name",.int (n:Int)],.bl<|isset f pl y])::bnd f pl (n+1) r
structure BbC(xs:C5)(u:U)(pl:Int)(kvs:B7 (Key×U))(last:C4)(f:Fd)(ps:C8)(v:U)(np:C8)(lv:Nat):Prop where
 h:∀{fw d h q r g:Nat}{S:So}{x:D6}{K:D5},Nm h q r f ps S->at? S g=some (.dct kvs)->(∀S',Nm h q r f (ps++np) S'->Pc r S S'->K v S')->(Gd fw (d+lv)).call 29 [.ref h,.tup (xs.map .str),u,.int pl,.ref g,.bl last] S x K
theorem jM{t i:Nat}{E:Ee Prop}{kk:Sg->So->Prop}{a1 Y a4 a5:B8 U}(m:i≠r):∀{xs:C5}{kvs:B7<|Key×U}{ps:C8}{gs:C7}{S:So}{a8 l:B8 U},Nm h q r f ps S->at? S t=some (.dct kvs)->at? S i=some (.lst<|nu gs)->ps.length+xs.length<=10000->kvs.length+xs.length<=1000->gs.length+xs.length<=1000 ->
  (∀S' a8 l,Nm h q r f (ps++List.replicate xs.length pl) S'->at? S' t=some (.dct<|pus kvs<|bnd f pl ps.length xs)->at? S' i=some (.lst<|nu<|gs++List.range' ps.length xs.length)->S.length<=S'.length->(∀{p o},p≠r->p≠t->p≠i->at? S p=some o->at? S' p=some o)->kk [some<|.ref h,a1,Y,some<|.int pl,a4,a5,some<|.ref t,some<|.ref i,a8,l] S') ->
  zA4 (xs.map U.str) (λv σ1 S2 nx=>tgt [8] true (Gd fw<|d+1) v σ1 λσ2=>zJb (Gd fw<|d+1) σ2 S2<|lpE E nx) [some<|.ref h,a1,Y,some<|.int pl,a4,a5,some<|.ref t,some<|.ref i,a8,l] S kk
 |[],kvs,ps,gs,S,a8,l,n,F,R,_,_,_,Q=>by
  refine Q S a8 l ?_ F ?_ (xAg _) λ_ _ _ z=>z
  .rw[List.length_nil,List.replicate_zero,xB0];exact n
  .rw[List.length_nil,List.range'_zero,xB0];exact R
 |y::xs,kvs,ps,gs,S,a8,l,n,F,R,l1,l2,l3,Q=>by
  rw[xAo] at l1 l2 l3;rw[xBs,zA4];erw[pd (cm n.ob rfl),<-iU (d:=d) n () λS1 O p1=>?_];have D:=p1.ky m R;have L:t≠r:=λe=>by rw[e,n.pl] at F;cases F
  have T:=p1.ky L F;erw[pd (cE D),pd (cH D<|by show _<=2^24;unfold nu;rw[xAa];lia)];have e2:nu gs++[.int (ps.length:Int)]=nu (gs++[ps.length]):=by unfold nu;rw[xAi];rfl
  rw[e2];have C:Nm h q r f (ps++[pl])<|set S1 i<|.lst<|nu<|gs++[ps.length]:=⟨atK D O.ob (λz=>nomatch z),atK D O.se (λz=>nomatch z),atN m O.pl⟩
  have c:at? (set S1 i<|.lst<|nu<|gs++[ps.length]) t=some (.dct kvs):=atK D T (λz=>nomatch z);have X:at? (set S1 i<|.lst<|nu<|gs++[ps.length]) i=some (.lst<|nu<|gs++[ps.length]):=zAc D;have p2:∀{p o},p≠r->p≠i->at? S p=some o->at? (set S1 i<|.lst<|nu<|gs++[ps.length]) p=some o:=λJ I z=>atN (Ne.symm I)<|p1.ky J z;have Z:S.length<=(set S1 i<|.lst<|nu<|gs++[ps.length]).length:=by rw[zAf];exact p1.len
  generalize set S1 i (.lst<|nu<|gs++[ps.length])=S2 at C c X p2 Z;erw[pd (dB C.ob rfl),pd (kI C.se),pd (ga c<|by show _<=2^24;lia)];have pk:=iO (k:=(Sum.inr y:Key)) (v:=.tup [.tup [.str "name",.int (ps.length:Int)],.bl<|isset f pl y]) (kvs:=kvs);erw[<-jM m (xs:=xs) (kvs:=putK (.inr y) (.tup [.tup [.str "name",.int (ps.length:Int)],.bl<|isset f pl y]) kvs) (ps:=ps++[pl]) (gs:=gs++[ps.length]) ⟨atK c C.ob (λz=>nomatch z),atK c C.se (λz=>nomatch z),atK c C.pl λz=>nomatch z⟩ (zAc c) (atK c X λz=>nomatch z) (by rw[xAb,xAt];lia) () (by rw[xAb,xAt];lia) λS' a8 l n' G H l' p'=>?_,<-Q S' a8 l ?_ ?_ ?_ (by rw[zAf] at l';lia) λJ I W z=>p' J I W<|atN (Ne.symm I)<|p2 J W z]
  .rw[xAx] at n';exact n'
  .rw[xAb,xAt] at G;exact G
  .rw[xAb,xAt,xAx] at H;exact H
def B4{xs:C5}(c:BoC u (pus kvs<|bnd f pl ps.length xs) last f (ps++List.replicate xs.length pl) b np lv)(T:xs.length<=4)(R:ps.length<=9000)(I:kvs.length<=900)(H:1<=lv):BbC xs u pl kvs last f ps (.tup [.tup<|nu<|List.range' ps.length xs.length,b]) (List.replicate xs.length pl++np)<|lv+1:=⟨λ{fw d h q r g S x K} n L J=>by
 obtain⟨l,rfl⟩:∃l,lv=l+1:=⟨lv-1,()⟩
 erw[cd (d:=d+(l+1)) ⟨6,10,t29⟩,pd (dU L),pd (v:=.ref<|S.length+1) (S':=S++[.dct kvs]++[.lst []]) (by show fits 0 (.ok (.ref (S++[Ob.dct kvs]).length)<|S++[Ob.dct kvs]++[Ob.lst []])=_;rw[zA6<|xBn _,xAb];rfl)];have k0:Kp S<|S++[Ob.dct kvs]++[Ob.lst []]:=⟨⋯,λz=>zAn<|zAn z⟩
 have F:at? (S++[Ob.dct kvs]++[Ob.lst []]) S.length=some (.dct kvs):=zAn zAx;have D:at? (S++[Ob.dct kvs]++[Ob.lst []]) (S.length+1)=some (.lst<|nu []):=by
  have:=zAx (l:=S++[Ob.dct kvs]) (o:=Ob.lst []);rw[xAb] at this;exact this
 generalize S++[Ob.dct kvs]++[Ob.lst []]=S1 at k0 F D;have G:=n.kp k0;have O:=zBi n.pl;erw[pv (.tup<|xs.map .str),<-jM () G F D () () (by show 0+xs.length<=_;lia) λS2 a8 W C i k Q p2=>?_,<-pd (v:=.tup<|nu<|List.range' ps.length xs.length) (S':=S2) ?_ ?_]
 .show zA1 (.ref<|S.length+1) S2=_;unfold zA1;dsimp only[lsU];rw[k];rfl
 refine pd (cm C.ob rfl) ?_;refine c.h (d:=d) C i λS3 t p=>?_;rw[xAx] at t;exact J S3 t ⟨by have:=k0.len;have:=p.len;lia,λm z=>p.ky m<|p2 m (by have:=zBi z;lia) (by have:=zBi z;lia)<|k0.ky z⟩⟩
end
section
variable{fw d lv:Nat}{h q r g s:Nat}{f:Fd}{ps np np1 np2:C8}{S S':So}{x:D6}{K:D5}{pl:Int}{kvs:B7<|Key×U}{u v a b a2:U}{us us2:C6}{last:C4}{y:Str}
def yZ{i:Int}:AtC (.tup [.str "number",.int pl,.int i]) kvs last f ps (.tup [.str "number",.int i]) [] []<|lv+1:=⟨λ{fw d h q r g s ss S x K} n o c l m k=>by
 refine cd (d:=d+lv) ⟨5,10,t25⟩ ?_;refine pd bz ?_;refine pd (cG rfl) ?_;refine bT ?_;refine pd (cf (j:=2) rfl) ?_;exact k S (by rw[xB0];exact n) (by rw[xB0];exact c) ⟨xAg _,λ_ _ z=>z⟩⟩
def cA{up:B7<|Str×Str}:pr up (.unp 2) [.tup [a,b]] S=.ok (.tup [a,b]) S:=rfl
def vw(e:zAu (.inr y) kvs=some (.tup [a,.bl false])):AtC (.tup [.str "name",.int pl,.str y]) kvs last f ps a [] []<|lv+2:=⟨λ{fw d h q r g s ss S x K} n k c l m i=>by
 refine cd (d:=d+(lv+1)) ⟨5,10,t25⟩ ?_;refine pd bz ?_;refine pd (cj ∅) ?_;refine bF ?_;refine pd (cG rfl) ?_;refine bT ?_;refine pd (cm n.ob rfl) ?_;refine cd (d:=d+lv) ⟨4,7,t26⟩ ?_;refine pd (cf (j:=2) rfl) ?_;refine pd (dP k e) ?_;refine pd cA ?_;refine pv (.bl false) ?_;refine bT ?_;exact i S (by rw[xB0];exact n) (by rw[xB0];exact c) ⟨xAg _,λ_ _ z=>z⟩⟩
def vv{k:Nat}(e:zAu (.inr y) kvs=some (.tup [.tup [.str "name",.int (k:Int)],.bl true]))(D:ps.length<=9000):AtC (.tup [.str "name",.int pl,.str y]) kvs last f ps (.tup [.str "name",.int (ps.length:Int)]) [.tup [.str "read",.int (ps.length:Int),.int (k:Int)]] [pl]<|lv+3:=⟨λ{fw d h q r g s ss S x K} n C p l F t=>by
 refine cd (d:=d+(lv+2)) ⟨5,10,t25⟩ ?_;refine pd bz ?_;refine pd (cj ∅) ?_;refine bF ?_;refine pd (cG rfl) ?_;refine bT ?_;refine pd (cm n.ob rfl) ?_;refine cd (d:=d+(lv+1)) ⟨4,7,t26⟩ ?_;refine pd (cf (j:=2) rfl) ?_;refine pd (dP C e) ?_;refine pd cA ?_;refine pv (.bl true) ?_;refine bF ?_;refine pd (cm n.ob rfl) ?_;refine pd eX ?_;refine iU (d:=d+lv) n () λS1 i p1=>?_;have c:=p1.ky l p;refine pd (cE c) ?_;refine pd eX ?_;refine pd (cH c<|by show _<=2^24;lia) ?_;exact t _ ⟨atK c i.ob (λz=>nomatch z),atK c i.se (λz=>nomatch z),atN l i.pl⟩ (zAc c) ⟨by rw[zAf];exact p1.len,λo m z=>atN (Ne.symm m)<|p1.ky o z⟩⟩
def Pd.trans{S1:So}(a:Pd r s S S1)(b:Pd r s S1 S2):Pd r s S S2:=⟨xCk a.len b.len,λi c z=>b.ky i c<|a.ky i c z⟩
def Bg(c:AtC u kvs false f ps a us np lv)(c2:AtC v kvs last f (ps++np) a2 us2 np2 lv)(G:us.length<=np.length):AtC (.tup [.str "do",.int pl,u,v]) kvs last f ps a2 (us++us2) (np++np2)<|lv+1:=⟨λ{fw d h q r g s ss S x K} n i p k C D=>by
 erw[cd (d:=d+lv) ⟨5,10,t25⟩,pd bz,pd (cj ∅),bF,pd (cj ∅),bF,pd (cG rfl),bT,pd (cm n.ob rfl),pd (cf (j:=2) rfl)];have gs:g≠s:=λe=>by rw[e,p] at i;cases i
 have F:g≠r:=λe=>by rw[e,n.pl] at i;cases i
 refine c.h n i p k C λS1 o t p1=>?_;refine pd (cm o.ob rfl) ?_;refine pd (cf (j:=3) rfl) ?_;refine c2.h o (p1.ky F gs i) t k (by rw[xAb,xAb];lia) λS2 m l p2=>?_;rw[xAx] at m l;exact D S2 m l (p1.trans p2)⟩
def mO{i:C4}(c2:AtC v (pus kvs [(y,.tup [a,.bl i])]) last f ps a2 us2 np2 lv)(G:kvs.length<=900)(n:Nm h q r f ps S)(I:at? S g=some (.dct kvs))(D:at? S s=some (.lst ss))(p:s≠r)(F:ss.length<=ps.length)(H:∀S',Nm h q r f (ps++np2) S'->at? S' s=some (.lst<|ss++us2)->Pd r s S S'->K a2 S'):zHa (Gd fw<|d+lv) [some<|.ref h,a1,some<|.ref g,some<|.bl last,some<|.ref s,a5,a6,some<|.str y,a8,some v,some a,some<|.bl i,a12,a13] S<|zAp x K:=by
 erw[pd (dU I),pd (ga (zAx (l:=S))<|by show _<=2^24;lia)];rw[zDu];have k2:Kp S<|S++[.dct<|putK (.inr y) (.tup [a,.bl i]) kvs]:=⟨⋯,λz=>zAn z⟩
 have k:=n.kp k2;erw[pd (cm k.ob rfl),<-c2.h k (zAx (l:=S)) (k2.ky D) p F λS3 C t c=>?_,<-H S3 C t ⟨xCk k2.len c.len,λo m z=>c.ky o m<|k2.ky z⟩]
def qV(p:∀S',Nm h q r f (ps++np) S'->at? S' s=some (.lst<|ss++us)->Pd r s S S'->zJx (Gd fw<|d+lv) [some<|.ref h,some<|.tup [.str "let",.int pl,.str y,u,v],some<|.ref g,some<|.bl last,some<|.ref s,some<|.str "let",some<|.int pl,some<|.str y,some u,some v,some a,none,none,none] S' (zAp x K))(c:AtC u kvs false f ps a us np lv)(n:Nm h q r f ps S)(t:at? S g=some (.dct kvs))(m:at? S s=some (.lst ss))(i:s≠r)(o:ss.length<=ps.length):(Gd fw<|d+(lv+2)).call 25 [.ref h,.tup [.str "let",.int pl,.str y,u,v],.ref g,.bl last,.ref s] S x K:=by
 erw[cd (d:=d+(lv+1)) ⟨5,10,t25⟩,pd bz,pd (cj ∅),bF,pd (cj ∅),bF,pd (cj ∅),bF,pd (cG rfl),bT,pd (cm n.ob rfl),cd (d:=d+lv) ⟨5,14,t27⟩,pv (.tup [.str "let",.int pl,.str y,u,v]),pd (cm n.ob rfl),<-c.h n t m i o λS1 l k p1=>?_,<-p S1 l k p1]
def vy(c:AtC u kvs false f ps a us np lv)(c2:AtC v (pus kvs [(y,.tup [a,.bl false])]) last f (ps++np) a2 us2 np2 lv)(I:us.length<=np.length)(hi:isset f pl y=false)(l:kvs.length<=900):AtC (.tup [.str "let",.int pl,.str y,u,v]) kvs last f ps a2 (us++us2) (np++np2)<|lv+2:=⟨λ{fw d h q r g s ss S x K} n i t m F G=>by
 refine qV (λS1 k C p1=>?_) c n i t m F;have gs:g≠s:=λe=>by rw[e,t] at i;cases i
 have H:g≠r:=λe=>by rw[e,n.pl] at i;cases i
 refine pd (dB k.ob rfl) ?_;refine pd (kI k.se) ?_;rw[hi];refine pv (.bl false) ?_;refine bF ?_;refine mO c2 l k (p1.ky H gs i) C m (by rw[xAb,xAb];lia) λS3 p o D=>?_;rw[xAx] at p o;exact G S3 p o (p1.trans D)⟩
def vx(c:AtC u kvs false f ps a us np lv)(c2:AtC v (pus kvs [(y,.tup [.tup [.str "name",.int ((ps.length+np.length:Nat):Int)],.bl true])]) last f (ps++np++[pl]) a2 us2 np2 lv)(Y:us.length<=np.length)(hi:isset f pl y=true)(C:kvs.length<=900)(Z:ps.length+np.length<=9000)(h1:1<=lv):AtC (.tup [.str "let",.int pl,.str y,u,v]) kvs last f ps a2 (us++(.tup [.str "start",.int ((ps.length+np.length:Nat):Int),a,.int pl]::us2)) (np++(pl::np2))<|lv+2:=⟨λ{fw d h q r g s ss S x K} n i L m T W=>by
 obtain⟨l,rfl⟩:∃l,lv=l+1:=⟨lv-1,()⟩
 refine qV (λS1 o O p1=>?_) c n i L m T;have gs:g≠s:=λe=>by rw[e,L] at i;cases i
 have X:g≠r:=λe=>by rw[e,n.pl] at i;cases i
 have R:(ps++np).length=ps.length+np.length:=xAb;erw[pd (dB o.ob rfl),pd (kI o.se)];rw[hi];erw[pv (.bl true),bT,pd (cm o.ob rfl),<-iU (d:=d+l) o () λS2 t p2=>?_];have k:=p2.ky m O;rw[R];erw[pd (cE k),pd (cH k<|by rw[xAb];show _<=2^24;lia)];have J:Nm h q r f (ps++np++[pl])<|set S2 s<|.lst<|ss++us++[.tup [.str "start",.int ((ps.length+np.length:Nat):Int),a,.int pl]]:=⟨atK k t.ob (λz=>nomatch z),atK k t.se (λz=>nomatch z),atN m t.pl⟩
 have H:at? (set S2 s<|.lst<|ss++us++[.tup [.str "start",.int ((ps.length+np.length:Nat):Int),a,.int pl]]) s=some (.lst<|ss++us++[.tup [.str "start",.int ((ps.length+np.length:Nat):Int),a,.int pl]]):=zAc k;have p:Pd r s S<|set S2 s<|.lst<|ss++us++[.tup [.str "start",.int ((ps.length+np.length:Nat):Int),a,.int pl]]:=⟨by rw[zAf];have:=p1.len;have:=p2.len;lia,λF D z=>atN (Ne.symm D)<|p2.ky F<|p1.ky F D z⟩
 generalize set S2 s (.lst<|ss++us++[.tup [.str "start",.int ((ps.length+np.length:Nat):Int),a,.int pl]])=S3 at J H p;refine mO c2 C J (p.ky X gs i) H m (by simp only[xAb,xAt];lia) λS5 I G Q=>?_;simp only[xAx,List.singleton_append] at I G;exact W S5 I G (p.trans Q)⟩
inductive ACs(kvs:List (Key×U))(f:Fd)(lv:Nat):List Int->List U->List U->List U->List Int->Prop
 |nil {ps:List Int}:ACs kvs f lv ps [] [] [] []
 |cons {ps np np2:List Int} {u a:U} {r as us us2:List U} (h:AtC u kvs false f ps a us np lv) (hl:us.length<=np.length) (t:ACs kvs f lv (ps++np) r as us2 np2):ACs kvs f lv ps (u::r) (a::as) (us++us2) (np++np2)
theorem Aw{ys as:C6}(c:ACs kvs f lv ps parts as us np):∀{ss ys:C6}{S:So},Nm h q r f ps S->at? S g=some (.dct kvs)->at? S s=some (.lst ss)->s≠r->ss.length<=ps.length->(∀S',Nm h q r f (ps++np) S'->at? S' s=some (.lst<|ss++us)->Pd r s S S'->K (.lst<|ys++as) S')->lcK (Gd fw<|d+lv) (lcB [1] true [none,none,some<|.ref s,some<|.ref h,some<|.ref g] none (cM "Namer" "atom_of" 25 J8 (Jl J1 J9 (cC<|.bl false) J7) [])<|Gd fw<|d+lv) parts ys S K:=by
 induction c with
 |nil=>
  intro ss ys S n i k l C m;have:=m S (by rw[xB0];exact n) (by rw[xB0];exact k) ⟨xAg _,λ_ _ z=>z⟩;rw[xB0] at this;exact this
 |@cons ps np np2 u a rr as us us2 c I t G=>
  intro ss ys S n i k l C m;have gs:g≠s:=λe=>by rw[e,k] at i;cases i
  have H:g≠r:=λe=>by rw[e,n.pl] at i;cases i
  erw[pd (cm n.ob rfl),<-c.h n i k l C λS1 F D p1=>?_,<-G F (p1.ky H gs i) D l (by rw[xAb,xAb];lia) λS2 p o p2=>?_];rw[xAx] at p o⊢;exact m S2 p o<|p1.trans p2
structure PaC(u:U)(parts:C6):Prop where
 h:∀{fw d:Nat}{S:So}{x:D6}{K:D5},K (.tup parts) S->(Gd fw (d+1)).call 6 [u] S x K
structure MoC(u:U)(as:C6)(kvs:B7 (Key×U))(last:C4)(f:Fd)(ps:C8)(w:Str)(more:C6)(np:C8)(lv:Nat):Prop where
 h:∀{fw d h q r g:Nat}{S:So}{x:D6}{K:D5},Nm h q r f ps S->at? S g=some (.dct kvs)->(∀S',Nm h q r f (ps++np) S'->Pc r S S'->K (.tup [.str w,.tup more]) S')->(Gd fw (d+lv)).call 28 [.ref h,u,.tup as,.ref g,.bl last] S x K
structure PlC(u:U)(as:C6)(kvs:B7 (Key×U))(last:C4)(w:Str)(more:C6):Prop where
 h:∀{fw d g:Nat}{S:So}{x:D6}{K:D5},at? S g=some (.dct kvs)->K (.tup [.str w,.tup more]) S->(Gd fw (d+1)).call 30 [u,.tup as,.ref g,.bl last] S x K
def zF7{w k:Str}{a2:B8 U}(n:Nm h q r f ps S)(p:at? S s=some (.lst ss))(l:s≠r)(F:ss.length<=9000)(C:ps.length<=9000)(D:more.length<=100)(t:∀S',Nm h q r f (ps++[pl]) S'->at? S' s=some (.lst<|ss++[.tup<|.str w::.int (ps.length:Int)::more])->Pd r s S S'->K (.tup [.str "name",.int (ps.length:Int)]) S'):zHd (Gd fw<|d+1) [some<|.ref h,some<|.tup<|.str k::.int pl::rr,a2,a3,some<|.ref s,a5,a6,some<|.str w,some<|.tup more,none] S<|zAp x K:=by
 erw[pd (cm n.ob rfl),pd eX,<-iU (d:=d) n () λS1 i p1=>?_];have c:=p1.ky l p;erw[pd (cE c),<-pd (v:=.tup<|.str w::.int (ps.length:Int)::more) (S':=S1) ?_ ?_]
 .show fits (2+more.length) _=_;exact zA6 (by show _<=2^24;lia)
 erw[pd (cH c<|by show _<=2^24;lia)];exact t _ ⟨atK c i.ob (λz=>nomatch z),atK c i.se (λz=>nomatch z),atN l i.pl⟩ (zAc c) ⟨by rw[zAf];exact p1.len,λo m z=>atN (Ne.symm m)<|p1.ky o z⟩
structure Kd(k:Str)(o:C4):Prop where
 h1:k≠"number"
 h2:k≠"name"
 h3:k≠"do"
 h4:k≠"let"
 ho:zBc (.str k) [.str "fn",.str "if",.str "match",.str "try"]=o
def v3{k:Str}{as:C6}{o:C4}(kd:Kd k o)(m:PaC (.tup<|.str k::.int pl::rr) parts)(c:ACs kvs f (lv+1) ps parts as us np)(G:parts.length<=100)(n:Nm h q r f ps S)(F:at? S g=some (.dct kvs))(t:at? S s=some (.lst ss))(i:s≠r)(C:ss.length<=ps.length)(D:∀S',Nm h q r f (ps++np) S'->at? S' s=some (.lst<|ss++us)->Pd r s S S'->zHc (Gd fw<|d+(lv+1)) [some<|.ref h,some<|.tup<|.str k::.int pl::rr,some<|.ref g,some<|.bl last,some<|.ref s,some<|.str k,some<|.tup as,none,none,none] S' (zAp x K)):(Gd fw<|d+(lv+2)).call 25 [.ref h,.tup<|.str k::.int pl::rr,.ref g,.bl last,.ref s] S x K:=by
 erw[cd (d:=d+(lv+1)) ⟨5,10,t25⟩,pd bz,pd (cj kd.h1),bF,pd (cj kd.h2),bF,pd (cj kd.h3),bF,pd (cj kd.h4),bF,m.h (d:=d+lv),pv (.tup parts),<-bI (c:=Nat.ble parts.length sizeLine) (λ_=>?_) λz=>absurd (lF (n:=parts.length) ()) (by rw[z];decide),<-Aw (ys:=[]) c n F t i C λS' n' l p=>?_];rw[xC6];erw[pv (.tup as)];exact D S' n' l p
def sJ{k w:Str}{as:C6}(kd:Kd k false)(C:PaC (.tup<|.str k::.int pl::rr) parts)(c:ACs kvs f (lv+1) ps parts as us np)(J:parts.length<=100)(m:PlC (.tup<|.str k::.int pl::rr) as kvs last w more)(O:us.length<=np.length)(Q:ps.length+np.length<=9000)(G:more.length<=100):AtC (.tup<|.str k::.int pl::rr) kvs last f ps (.tup [.str "name",.int ((ps.length+np.length:Nat):Int)]) (us++[.tup<|.str w::.int ((ps.length+np.length:Nat):Int)::more]) (np++[pl])<|lv+2:=⟨λ{fw d h q r g s ss S x K} n i p l H I=>by
 have gs:g≠s:=λe=>by rw[e,p] at i;cases i
 have L:g≠r:=λe=>by rw[e,n.pl] at i;cases i
 refine v3 kd C c J n i p l H λS1 F t p1=>?_;refine pd (v:=.bl false) (S':=S1) (by show obB (some<|zBc (.str k) [.str "fn",.str "if",.str "match",.str "try"]) id S1=_;rw[kd.ho];rfl) ?_;refine bF ?_;refine m.h (d:=d+lv) (p1.ky L gs i) ?_;refine pv (.tup [.str w,.tup more]) ?_;refine zF7 (d:=d+lv) F t l (by rw[xAb];lia) (by rw[xAb];lia) G λS' n' o D=>?_;rw[xAx,xAb] at o;rw[xAx] at n';rw[xAb];exact I S' n' o (p1.trans D)⟩
def sK{k w:Str}{as:C6}(kd:Kd k true)(F:PaC (.tup<|.str k::.int pl::rr) parts)(c:ACs kvs f (lv+1) ps parts as us np)(O:parts.length<=100)(m:MoC (.tup<|.str k::.int pl::rr) as kvs last f (ps++np) w more np2<|lv+1)(R:us.length<=np.length)(T:ps.length+np.length+np2.length<=9000)(I:more.length<=100):AtC (.tup<|.str k::.int pl::rr) kvs last f ps (.tup [.str "name",.int ((ps.length+np.length+np2.length:Nat):Int)]) (us++[.tup<|.str w::.int ((ps.length+np.length+np2.length:Nat):Int)::more]) (np++(np2++[pl]))<|lv+2:=⟨λ{fw d h q r g s ss S x K} n i t l J L=>by
 have gs:g≠s:=λe=>by rw[e,t] at i;cases i
 have Q:g≠r:=λe=>by rw[e,n.pl] at i;cases i
 refine v3 kd F c O n i t l J λS1 p D p1=>?_;refine pd (v:=.bl true) (S':=S1) (by show obB (some<|zBc (.str k) [.str "fn",.str "if",.str "match",.str "try"]) id S1=_;rw[kd.ho];rfl) ?_;refine bT ?_;refine pd (cm p.ob rfl) ?_;refine m.h p (p1.ky Q gs i) λS2 H p2=>?_;refine pv (.tup [.str w,.tup more]) ?_;refine zF7 (d:=d+lv) H (p2.ky l D) l (by rw[xAb];lia) (by rw[xAb,xAb];lia) I λS' n' o G=>?_;rw[xAx,xAb,xAb] at o;rw[xAx,xAx] at n';rw[xAb,xAb];exact L S' n' o (p1.trans<|(⟨p2.len,λC _ z=>p2.ky C z⟩:Pd r s S1 S2).trans G)⟩
end
section
variable{S:So}{a b c:U}{r:C6}{pl:Int}{kvs:B7<|Key×U}{last:C4}{y:Str}
def dq:pr ups (.sl false false true) [.tup<|a::b::r,.int 2] S=.ok (.tup [a,b]) S:=by
 show slice false (.tup<|a::b::r) none (some ((2:Nat):Int)) S=_;unfold slice;dsimp only;rw[HT.sIx_nat,HT.sIx_none];split
 .next h=>
  have:=(xBe h).2;rw[xAo,xAo] at this;have:r.length=0:=()
  rw[List.length_eq_zero_iff.mp this]
 .unfold zEf;rw[HT.sIx_nat,HT.sIx_none];simp
def wQ:pr ups (.sl false true false) [.tup<|a::r,.int 1] S=.ok (.tup r) S:=by
 show slice false (.tup<|a::r) (some ((1:Nat):Int)) none S=_;unfold slice;dsimp only;rw[HT.sIx_nat,xCn<|by rw[xAo];lia];dsimp only;unfold zEf;rw[HT.sIx_nat,HT.sIx_none,show min 1 (a::r).length=1 by simp];simp
def zJ{x y:U}:PaC (.tup [.str "fn",.int pl,x,y]) []:=⟨λ{fw d S x K} i=>by
 erw[cd ⟨1,2,t6⟩];walk_at"w"
 exact i⟩
def ui{as:C6}(k:as.length<=1000):PaC (.tup [.str "call",.int pl,a,.tup as])<|a::as:=⟨λ{fw d S x K} i=>by
 refine cd ⟨1,2,t6⟩ ?_;refine pd bz ?_;refine pd (cG rfl) ?_;refine bT ?_;refine pd (cf (j:=2) rfl) ?_;refine pd (cf (j:=3) rfl) ?_;refine pd (v:=.tup<|a::as) (S':=S) ?_ i;show fits (1+as.length) _=_;exact zA6 (by show _<=2^24;lia)⟩
def uf{o:Str}:PaC (.tup [.str "math",.int pl,.str o,a,b]) [a,b]:=⟨λ{fw d S x K} i=>by
 erw[cd ⟨1,2,t6⟩];walk_at"w"
 exact i⟩
def ug{as:C6}{t:Str}:PaC (.tup [.str "make",.int pl,.str t,.tup as]) as:=⟨λ{fw d S x K} i=>by
 erw[cd ⟨1,2,t6⟩];walk_at"w"
 exact i⟩
def xk:PaC (.tup [.str "set",.int pl,.str y,a]) [a]:=⟨λ{fw d S x K} i=>by
 erw[cd ⟨1,2,t6⟩];walk_at"w"
 exact i⟩
def qx:PaC (.tup [.str "raise",.int pl,.str y,a]) [a]:=⟨λ{fw d S x K} i=>by
 erw[cd ⟨1,2,t6⟩];walk_at"w"
 exact i⟩
def zI:PaC (.tup [.str "if",.int pl,a,b,c]) [a]:=⟨λ{fw d S x K} i=>by
 erw[cd ⟨1,2,t6⟩];walk_at"w"
 exact i⟩
def qy{x y z u:U}:PaC (.tup [.str "match",.int pl,a,x,y,z,u]) [a]:=⟨λ{fw d S x K} i=>by
 erw[cd ⟨1,2,t6⟩];walk_at"w"
 exact i⟩
def ue:PaC (.tup [.str "tell",.int pl,a]) [a]:=⟨λ{fw d S x K} i=>by
 erw[cd ⟨1,2,t6⟩];walk_at"w"
 exact i⟩
def xj{x y z u:U}:PaC (.tup [.str "try",.int pl,x,y,z,u]) []:=⟨λ{fw d S x K} i=>by
 erw[cd ⟨1,2,t6⟩];walk_at"w"
 exact i⟩
def xl:PaC (.tup [.str "ask",.int pl]) []:=⟨λ{fw d S x K} i=>by
 erw[cd ⟨1,2,t6⟩];walk_at"w"
 exact i⟩
def tW{as:C6}{x z:U}:PlC (.tup [.str "call",.int pl,x,z]) (a::as) kvs last "call" [a,.tup as,.int pl,.bl last]:=⟨λ{fw d g S x K} k i=>by
 refine cd ⟨4,6,t30⟩ ?_;refine pd dq ?_;refine pd cA ?_;refine pd (cG rfl) ?_;refine bT ?_;refine pd bz ?_;refine pd wQ ?_;exact i⟩
def tV{as:C6}{x:U}{t:Str}:PlC (.tup [.str "make",.int pl,.str t,x]) as kvs last "make" [.str t,.tup as,.int pl]:=⟨λ{fw d g S x K} k i=>by
 erw[cd ⟨4,6,t30⟩,pd dq,pd cA];walk_at"w"
 exact i⟩
def wV{x:U}{k:Nat}{i:C4}(e:zAu (.inr y) kvs=some (.tup [.tup [.str "name",.int (k:Int)],.bl i])):PlC (.tup [.str "set",.int pl,.str y,x]) [a] kvs last "set" [.int (k:Int),a,.int pl]:=⟨λ{fw d g S x K} m l=>by
 erw[cd ⟨4,6,t30⟩,pd dq,pd cA,pd (cj ∅),bF,pd (cj ∅),bF,pd (cG rfl),bT,pd (cf (j:=2) rfl),pd (dP m e)];walk_at"w"
 exact l⟩
def tU{x z:U}{o:Str}:PlC (.tup [.str "math",.int pl,.str o,x,z]) [a,b] kvs last "math" [.str o,a,b,.int pl]:=⟨λ{fw d g S x K} k i=>by
 erw[cd ⟨4,6,t30⟩,pd dq,pd cA];walk_at"w"
 exact i⟩
def qd{x:U}{o:Str}:PlC (.tup [.str "raise",.int pl,.str o,x]) [a] kvs last "raise" [.str o,a,.int pl]:=⟨λ{fw d g S x K} k i=>by
 erw[cd ⟨4,6,t30⟩,pd dq,pd cA];walk_at"w"
 exact i⟩
def tT{x:U}:PlC (.tup [.str "tell",.int pl,x]) [a] kvs last "tell" [a,.int pl]:=⟨λ{fw d g S x K} k i=>by
 erw[cd ⟨4,6,t30⟩,pd dq,pd cA];walk_at"w"
 exact i⟩
def wW:PlC (.tup [.str "ask",.int pl]) [] kvs last "ask" [.int pl]:=⟨λ{fw d g S x K} k i=>by
 erw[cd ⟨4,6,t30⟩,pd dq,pd cA];walk_at"w"
 exact i⟩
end
section
variable{lv:Nat}{f:Fd}{ps np np2:C8}{S:So}{pl:Int}{kvs:B7<|Key×U}{u v a b c n1:U}{last:C4}{y w:Str}{xs:C5}
def Ao(h:BbC xs u pl kvs true f ps (.tup [n1,b]) np lv):MoC (.tup [.str "fn",.int pl,.tup<|xs.map .str,u]) [] kvs last f ps "func" [n1,b,.int pl] np<|lv+1:=⟨λ{fw d m q r g S x K} n l k=>by
 refine cd (d:=d+lv) ⟨5,14,t28⟩ ?_;refine pd dq ?_;refine pd cA ?_;refine pd (cG rfl) ?_;refine bT ?_;refine pd (cm n.ob rfl) ?_;refine pd (cf (j:=2) rfl) ?_;refine pd (cf (j:=3) rfl) ?_;refine h.h n l λS' n' i=>?_;refine pd cA ?_;exact k S' n' i⟩
def An(h:BoC u kvs last f ps b np lv)(o:BoC v kvs last f (ps++np) c np2 lv):MoC (.tup [.str "if",.int pl,n1,u,v]) [a] kvs last f ps "if" [a,b,c,.int pl] (np++np2)<|lv+1:=⟨λ{fw d t q r g S x K} n i m=>by
 erw[cd (d:=d+lv) ⟨5,14,t28⟩,pd dq,pd cA,pd (cj ∅),bF,pd (cG rfl),bT,pv (.tup [u,v]),pv (.tup [u,v])];refine bI (λ_=>?_) λz=>by cases z
 have p:g≠r:=λe=>by rw[e,n.pl] at i;cases i
 refine pd (cm n.ob rfl) ?_;refine h.h n i λS1 l p1=>?_;refine pd (cm l.ob rfl) ?_;refine o.h l (p1.ky p i) λS2 k p2=>?_;refine pv (.tup [b,c]) ?_;refine pv (.tup [a,b,c]) ?_;refine pv (.tup [a,b,c,.int pl]) ?_;rw[xAx] at k;exact m S2 k (p1.trans p2)⟩
def qS(h:BbC xs u pl kvs last f ps (.tup [n1,b]) np lv)(o:BoC v kvs last f (ps++np) c np2 lv){z:U}:MoC (.tup [.str "match",.int pl,z,.str w,.tup<|xs.map .str,u,v]) [a] kvs last f ps "match" [a,.str w,n1,b,c,.int pl] (np++np2)<|lv+1:=⟨λ{fw d t q r g S x K} n i m=>by
 erw[cd (d:=d+lv) ⟨5,14,t28⟩,pd dq,pd cA,pd (cj ∅),bF,pd (cj ∅),bF,pd (cG rfl),bT];have p:g≠r:=λe=>by rw[e,n.pl] at i;cases i
 refine pd (cm n.ob rfl) ?_;refine pd (cf (j:=4) rfl) ?_;refine pd (cf (j:=5) rfl) ?_;refine h.h n i λS1 l p1=>?_;refine pd cA ?_;refine pd (cf (j:=3) rfl) ?_;refine pd (cm l.ob rfl) ?_;refine pd (cf (j:=6) rfl) ?_;refine o.h l (p1.ky p i) λS2 k p2=>?_;refine pv (.tup [a,.str w,n1,b,c,.int pl]) ?_;rw[xAx] at k;exact m S2 k (p1.trans p2)⟩
def xO(h:BoC u kvs false f ps b np lv)(o:BbC [y] v pl kvs last f (ps++np) (.tup [.tup [n1],c]) np2 lv):MoC (.tup [.str "try",.int pl,u,.str w,.str y,v]) [] kvs last f ps "try" [b,.str w,n1,c,.int pl] (np++np2)<|lv+1:=⟨λ{fw d t q r g S x K} n i m=>by
 erw[cd (d:=d+lv) ⟨5,14,t28⟩,pd dq,pd cA,pd (cj ∅),bF,pd (cj ∅),bF,pd (cj ∅),bF];have p:g≠r:=λe=>by rw[e,n.pl] at i;cases i
 refine pd (cm n.ob rfl) ?_;refine pd (cf (j:=2) rfl) ?_;refine h.h n i λS1 l p1=>?_;refine pd (cm l.ob rfl) ?_;refine pd (cf (j:=4) rfl) ?_;refine pd (cf (j:=5) rfl) ?_;refine o.h l (p1.ky p i) λS2 k p2=>?_;refine pd cA ?_;refine pd (cf (j:=3) rfl) ?_;refine pd bz ?_;rw[xAx] at k;exact m S2 k (p1.trans p2)⟩
end
section
variable{fw d:Nat}{S:So}{x:D6}{K:D5}
inductive Ow:Str->Nat->List U->List Nat->Prop
 |start {to:Nat} {r:List U}:Ow "start" to r [to]
 |read {to j:Nat} {r:List U}:Ow "read" to (.int (j:Int)::r) [j]
 |set {to j:Nat} {r:List U}:Ow "set" to (.int (j:Int)::r) [j]
 |none {k:Str} {to:Nat} {r:List U} (h:k="math"\/k="make"\/k="raise"\/k="call"\/k="tell"\/k="ask"):Ow k to r []
theorem Ow.ne{k:Str}{to:Nat}{r:C6}(o:Ow k to r own):k≠"func"/\k≠"if"/\k≠"match"/\k≠"try":=by
 cases o with
 |none h=>rcases h with rfl|rfl|rfl|rfl|rfl|rfl <;> decide
 |_=>decide
inductive Sh:Str->Nat->List U->List Nat->List (List Nat×U)->Prop
 |flat {k:Str} {to:Nat} {r:List U} {own:List Nat} (o:Ow k to r own):Sh k to r own []
 |func {to:Nat} {xs:List Nat} {b:U} {p:Int}:Sh "func" to [.tup (nu xs),b,.int p] [] [(xs,b)]
 |iff {to:Nat} {a b c:U} {p:Int}:Sh "if" to [a,b,c,.int p] [] [([],b),([],c)]
 |mat {to:Nat} {a b c:U} {t:Str} {xs:List Nat} {p:Int}:Sh "match" to [a,.str t,.tup (nu xs),b,c,.int p] [] [(xs,b),([],c)]
 |try_ {to j:Nat} {a b:U} {t:Str} {p:Int}:Sh "try" to [a,.str t,.int (j:Int),b,.int p] [] [([],a),([j],b)]
theorem Sh.start{to:Nat}{a:U}{p:Int}:Sh "start" to [a,.int p] [to] []:=.flat .start
theorem Sh.read{to j:Nat}:Sh "read" to [.int (j:Int)] [j] []:=.flat .read
theorem Sh.set{to j:Nat}{a:U}{p:Int}:Sh "set" to [.int (j:Int),a,.int p] [j] []:=.flat .set
def Sh.plain{k:Str}{to:Nat}{r:C6}(a:k="math"\/k="make"\/k="raise"\/k="call"\/k="tell"\/k="ask"):Sh k to r [] []:=.flat<|.none a
def bu(b:C7×U):U:=.tup [.tup<|nu b.1,b.2]
variable{k:Str}{to:Nat}{r:C6}{own:C7}{bs:B7<|C7×U}
theorem yj(h:Sh k to r own bs)(a:K (.lst<|bs.map bu) S):(Gd fw<|d+1).call 0 [.tup<|.str k::.int (to:Int)::r] S x K:=by
 erw[cd ⟨1,2,t0⟩];cases h with
 |flat o=>
  let⟨_,_,_,_⟩:=o.ne;walk_at"w"
  exact a
 |_=>walk_at"w";exact a
theorem yY(h:Sh k to r own bs)(a:K (.lst<|bs.map Prod.snd) S):(Gd fw<|d+1).call 47 [.tup<|.str k::.int (to:Int)::r] S x K:=by
 erw[cd ⟨1,2,t47⟩];cases h with
 |flat o=>
  let⟨_,_,_,_⟩:=o.ne;walk_at"w"
  exact a
 |_=>walk_at"w";exact a
end
section
variable{fw d lv f:Nat}{S S':So}{x:D6}{K:D5}{b u:U}{M M0 M1 M2 own:C7}{k:Str}{to:Nat}{r us:C6}{bs:B7<|C7×U}
structure MeB(b:U)(M:C7)(lv:Nat):Prop where
 h:∀{fw d:Nat}{S:So}{x:D6}{K:D5},(∀S' p,Kp S S'->S.length<=p->at? S' p=some (.lst (nu M))->K (.ref p) S')->(Gd fw (d+lv)).call 48 [b] S x K
inductive zDr(lv:Nat):List (List Nat×U)->List Nat->Prop
 |nil:zDr lv [] []
 |cons {xs:List Nat} {b:U} {r:List (List Nat×U)} {M M2:List Nat} (h:MeB b M lv) (t:zDr lv r M2):zDr lv ((xs,b)::r) (M++M2)
inductive zCq(lv:Nat):List U->List Nat->Prop
 |nil:zCq lv [] []
 |cons {k:Str} {to:Nat} {r us:List U} {own M1 M2:List Nat} {bs:List (List Nat×U)} (s:Sh k to r own bs) (hb:zDr lv bs M1) (ho:bs.length<=100) (t:zCq lv us M2):zCq lv (.tup (.str k::.int (to:Int)::r)::us) (own++M1++M2)
def mA:D3:=(Ja (Jf (J4 J7 Ji)<|J3 "start")<|Jb<|sE<|cBM "list" .app J1<|Jp<|J4 J7 Jg)
def mB:D3:=rz7
def vD{k:Str}:pr ups .inn [.str k,.lst [.str "read",.str "set"]] S=.ok (.bl<|zBc (.str k) [.str "read",.str "set"]) S:=rfl
def qI:nu M0++[.int (j:Int)]=nu (M0++[j]):=by unfold nu;rw[xAi];rfl
theorem xp(s:Sh k to r own bs){t:D3}(c:at? S f=some (.lst<|nu M0))(v:M0.length<=20000)(i:t (Gd fw d) [a0,some<|.ref f,some<|.tup<|.str k::.int (to:Int)::r,a3] (Fx.set S f<|.lst<|nu<|M0++own) E):(sQ mA<|sQ mB t) (Gd fw d) [a0,some<|.ref f,some<|.tup<|.str k::.int (to:Int)::r,a3] S E:=by
 have lf:(nu M0).length+1<=2^24:=by unfold nu;rw[xAa];lia
 have none:own=[]->k≠"start"->zBc (.str k) [.str "read",.str "set"]=false->(sQ mA<|sQ mB t) (Gd fw d) [a0,some<|.ref f,some<|.tup<|.str k::.int (to:Int)::r,a3] S E:=λe m l=>by
  rw[e,xB0,zBh c] at i;erw[pd bz,pd (cj m),bF,pd bz,pv (.lst [.str "read",.str "set"]),pd vD];rw[l];exact bF i
 have a:∀{j:Nat}{n:C6},own=[j]->r=.int (j:Int)::n->k≠"start"->zBc (.str k) [.str "read",.str "set"]=true->(sQ mA<|sQ mB t) (Gd fw d) [a0,some<|.ref f,some<|.tup<|.str k::.int (to:Int)::r,a3] S E:=λ{j n} e q m l=>by
  subst q;erw[pd bz,pd (cj m),bF,pd bz,pv (.lst [.str "read",.str "set"]),pd vD];rw[l];erw[bT,pd (cE c),pd (cf (j:=2) rfl),pd (cH c lf)];rw[qI,<- e];exact i
 cases s with
 |flat o=>
  cases o with
  |start=>
   erw[pd bz,pd (cG rfl),bT,pd (cE c),pd eX,pd (cH c lf)];rw[qI];erw[pd bz,pv (.lst [.str "read",.str "set"]),pv (.bl false)];exact bF i
  |read=>exact a rfl rfl ∅ (by rfl)
  |set=>exact a rfl rfl ∅ (by rfl)
  |none p=>rcases p with rfl|rfl|rfl|rfl|rfl|rfl <;> exact none rfl ∅ (by rfl)
 |func=>exact none rfl ∅ (by rfl)
 |iff=>exact none rfl ∅ (by rfl)
 |mat=>exact none rfl ∅ (by rfl)
 |try_=>exact none rfl ∅ (by rfl)
def mD:D3:=(Jb<|sE<|cBM "list" .ext J1<|Jp<|Je 48 J8)
theorem xQ{n:B8 U}(c:zDr lv bs M):∀{S:So}{M0:C7}{a3:B8 U},at? S f=some (.lst<|nu M0)->M0.length+M.length<=20000->(∀S' a3,at? S' f=some (.lst<|nu<|M0++M)->Pc f S S'->kk [a0,some<|.ref f,n,a3] S')->zA4 (bs.map Prod.snd) (λv σ1 S2 nx=>tgt [3] true (Gd fw<|d+lv) v σ1 λσ2=>mD (Gd fw<|d+lv) σ2 S2<|lpE E nx) [a0,some<|.ref f,n,a3] S kk:=by
 induction c with
 |nil=>intro S M0 a3 i _ l;exact l S a3 (by rw[xB0];exact i) Pc.refl
 |@cons G b rr M M2 h t C=>
  intro S M0 a3 i F l;rw[xAb] at F;rw[xBs,zA4];erw[pd (cE i),<-h.h λS1 p k1 lp D=>?_];have lf:=zBi i;have f1:=k1.ky i;refine pd (v:=.non) (S':=Fx.set S1 f<|.lst<|nu<|M0++M) ?_ ?_
  .delta pr;dsimp only[zCu,lsT];rw[f1];dsimp only;rw[D];dsimp only;rw[zA6<|by unfold nu;rw[xAa,xAa];show _<=2^24;lia];unfold nu;rw[xAi]
  refine C (M0:=M0++M) (zAc f1) (by rw[xAb];lia) λS' a3 f' m=>?_;refine l S' a3 (by rw[<- xAx];exact f') ⟨by have:=m.len;rw[zAf] at this;have:=k1.len;lia,λ{q o} a z=>m.ky a<|atN (Ne.symm a)<|k1.ky z⟩
theorem xP(c:zCq lv us M):∀{S:So}{M0:C7}{i a3:B8 U},at? S f=some (.lst<|nu M0)->M0.length+M.length<=20000->(∀S' i a3,at? S' f=some (.lst<|nu<|M0++M)->Pc f S S'->kk [a0,some<|.ref f,i,a3] S')->zA4 us (λv σ1 S2 nx=>tgt [2] true (Gd fw<|d+(lv+1)) v σ1 λσ2=>(sQ mA<|sQ mB<|Jb<|sF (J6 .seq<|Je 47 J7) [3] true mD) (Gd fw<|d+(lv+1)) σ2 S2<|lpE E nx) [a0,some<|.ref f,i,a3] S kk:=by
 induction c with
 |nil=>intro S M0 i a3 l _ m;exact m S i a3 (by rw[xB0];exact l) Pc.refl
 |@cons k to r us own M1 M2 bs s hb F t p=>
  intro S M0 i a3 l C m;rw[xAb,xAb] at C;rw[zA4];erw[xp s l (),yY (d:=d+lv) s,pv (.tup<|bs.map Prod.snd)];have f1:=zAc (o':=Ob.lst<|nu<|M0++own) l;have e:d+(lv+1)=(d+1)+lv:=by lia
  rw[e];refine xQ (d:=d+1) hb f1 (by rw[xAb];lia) λS2 a3 D p2=>?_;rw[e] at p;refine p D (by rw[xAb,xAb];lia) λS' i a3 f' n=>?_;refine m S' i a3 (by rw[<- xAx,<- xAx];exact f') ⟨by have:=n.len;have:=p2.len;rw[zAf] at this;lia,λ{q o} a z=>n.ky a<|p2.ky a<|atN (Ne.symm a) z⟩
def vI{a:U}(c:zCq lv us M)(n:M.length<=20000):MeB (.tup [.tup us,a]) M<|lv+2:=⟨λ{fw d S x K} m=>by
 erw[cd (d:=d+(lv+1)) ⟨1,4,t48⟩,pd (v:=.ref S.length) (S':=S++[.lst<|nu []]) (by rfl)];have k0:Kp S<|S++[Ob.lst<|nu []]:=⟨⋯,λz=>zAn z⟩
 have l:at? (S++[Ob.lst<|nu []]) S.length=some (.lst<|nu []):=zAx;generalize S++[Ob.lst<|nu []]=S1 at k0 l;refine pd bz ?_;refine pv (.tup us) ?_;refine xP c l (by show 0+_<=_;lia) λS' q a3 f' i=>?_;exact m S' S.length ⟨by have:=k0.len;have:=i.len;lia,λ{p o} z=>i.ky (by have:=zBi z;lia)<|k0.ky z⟩ (xAg _) f'⟩
end
section
variable{fw d f:Nat}{S S':So}{x:D6}{K:D5}{us:C6}{ins:B7<|C7×U}{ms:C7}
inductive SI:List U->List (List Nat×U)->List Nat->Prop
 |nil:SI [] [] []
 |cons {k:Str} {to:Nat} {r us:List U} {own ms:List Nat} {bs ins:List (List Nat×U)} (s:Sh k to r own bs) (t:SI us ins ms):SI (.tup (.str k::.int (to:Int)::r)::us) (bs++ins) (own++ms)
inductive Bf:List (List Nat×U)->List Nat->Nat->Prop
 |nil:Bf [] [] 0
 |cons {xs:List Nat} {us:List U} {a:U} {r ins:List (List Nat×U)} {ms mi mr:List Nat} {wi wr:Nat} (s:SI us ins ms) (hi:Bf ins mi wi) (hr:Bf r mr wr):Bf ((xs,.tup [.tup us,a])::r) (ms++mi++mr) (1+wi+wr)
inductive Fl:List (List Nat×U)->List Nat->Prop
 |nil:Fl [] []
 |cons {xs:List Nat} {us:List U} {a:U} {r ins:List (List Nat×U)} {ms m:List Nat} (s:SI us ins ms) (t:Fl r m):Fl ((xs,.tup [.tup us,a])::r) (ms++m)
theorem Bf.len{r:B7<|C7×U}{m:C7}{w:Nat}(h:Bf r m w):r.length<=w:=by
 induction h with
 |nil=>exact xAg _
 |cons _ _ _ _ a=>rw[xAo];lia
theorem Bf.app{r r2:B7<|C7×U}{m b:C7}{w a:Nat}(h:Bf r m w)(i:Bf r2 b a):Bf (r++r2) (m++b)<|w+a:=by
 induction h with
 |nil=>rw[Nat.zero_add];exact i
 |cons s hi _ _ c=>rw[Nat.add_assoc,xAx];exact .cons s hi c
theorem Fl.snoc{r:B7<|C7×U}{m:C7}(h:Fl r m){xs:C7}{a:U}(s:SI us ins ms):Fl (r++[(xs,.tup [.tup us,a])])<|m++ms:=by
 induction h with
 |nil=>have:=Fl.cons (xs:=xs) (a:=a) s .nil;rwa[xB0] at this
 |cons s _ b=>rw[xAx];exact .cons s b
theorem yD{m:B8 U}(c:SI us ins ms):∀{S:So}{F:B7<|C7×U}{a4:B8 U},at? S f=some (.lst<|F.map bu)->F.length+ins.length<=50000->(∀S' a4,at? S' f=some (.lst<|(F++ins).map bu)->Pc f S S'->kk [a0,some<|.ref f,m,a3,a4] S')->zA4 us (λv σ1 S2 nx=>tgt [4] true (Gd fw<|d+1) v σ1 λσ2=>(Jb<|sE<|cBM "list" .ext J1<|Jp<|Je 0 J9) (Gd fw<|d+1) σ2 S2<|lpE E nx) [a0,some<|.ref f,m,a3,a4] S kk:=by
 induction c with
 |nil=>intro S F a4 b _ i;exact i S a4 (by rw[xB0];exact b) Pc.refl
 |@cons k to r us own ms bs ins s t n=>
  intro S F a4 b p i;rw[xAb] at p;rw[zA4];erw[pd (cE b),yj s,<-pd (v:=.non) (S':=Fx.set S f<|.lst<|(F++bs).map bu) ?_ ?_]
  .delta pr;dsimp only[zCu,lsT];rw[b];dsimp only;rw[zA6 (by rw[xAa,xAa];show _<=2^24;lia),xAi]
  refine n (F:=F++bs) (zAc b) (by rw[xAb];lia) λS' a4 f' l=>?_;exact i S' a4 (by rw[<- xAx];exact f') ⟨by have:=l.len;rw[zAf] at this;lia,λ{q o} a z=>l.ky a<|atN (Ne.symm a) z⟩
def wT:TTx Prop:=tB<|J2 .lt J7<|J6 .len J1
def wB:D3:=rz8
theorem Bb:∀{w n:Nat}{S:So}{dn pn:B7<|C7×U}{l i:C7}{a3 a4:B8 U},Bf pn i w->Fl dn l->at? S f=some (.lst<|(dn++pn).map bu)->dn.length+w<=40000->w<n->(∀S' F mF t a3 a4,Fl F mF->(∀k,k∈mF↔k∈l\/k∈i)->at? S' f=some (.lst<|F.map bu)->Pc f S S'->F.length<=40000->mF.length=l.length+i.length->kk [a0,some<|.ref f,t,a3,a4] S')->whK (λσ1 S1 k=>wT (Gd fw<|d+1) σ1 S1 (λx S2=>E.x x σ1 S2) k) (λσ1 S1 nx=>wB (Gd fw<|d+1) σ1 S1<|lpE E nx) (Gd fw<|d+1).br (Gd fw<|d+1).fail n [a0,some<|.ref f,some<|.int (dn.length:Nat),a3,a4] S kk:=by
 intro w;induction w with
 |zero=>
  intro n S dn pn l i a3 a4 b fl c L I p;obtain⟨n,rfl⟩:∃m,n=m+1:=⟨n-1,()⟩
  have:pn=[]/\i=[]:=by
   generalize hw:0=w' at b;cases b with
   |nil=>exact⟨rfl,rfl⟩
   |cons=>lia
  let⟨rfl,rfl⟩:=this;rw[xB0] at c;rw[whK];erw[pd (gc c),pv (.bl<|decide<|((dn.length:Nat):Int)<(((dn.map bu).length:Nat):Int))];rw[xAa,xCn ()];erw[bF];exact p S dn l _ a3 a4 fl (λk=>⋯) c Pc.refl () rfl
 |succ w H=>
  intro n S dn pn l i a3 a4 b fl c L I p;obtain⟨n,rfl⟩:∃m,n=m+1:=⟨n-1,()⟩
  generalize hw:w+1=w' at b;cases b with
  |nil=>cases hw
  |@cons o us a r ins ms R mr wi D s hi C=>
   have T:=C.len;have W:=hi.len;rw[whK];erw[pd (gc c),pv (.bl<|decide<|((dn.length:Nat):Int)<((((dn++(o,U.tup [.tup us,a])::r).map bu).length:Nat):Int))];rw[xAa,xAb,xAo,xBd ()];erw[bT,pd (cx (v:=bu (o,.tup [.tup us,a])) c<|by rw[xAw,xCl<|xAg _,Nat.sub_self];rfl),pd eX,pd bz,pv (.tup us),<-yD s c (by rw[xAb,xAo];lia) λS1 a4 f1 p1=>?_,pv (.int<|(dn.length:Int)+1)];rw[show((dn.length:Int)+1)=(((dn++[(o,U.tup [.tup us,a])]).length:Nat):Int) by rw[xAb,xAt];lia];have e:dn++(o,U.tup [.tup us,a])::r++ins=(dn++[(o,U.tup [.tup us,a])])++(r++ins):=⋯
   rw[e] at f1;have b2:=C.app hi;rw[show D+wi=w by lia] at b2;erw[<-H b2 (fl.snoc s) f1 (by rw[xAb,xAt];lia) () λS' F mF t a3 a4 q J f' G Q O=>?_,<-p S' F mF t a3 a4 q (λk=>?_) f' (p1.trans G) Q (by rw[O];simp only[xAb];lia)];rw[J k];simp only[xAj];constructor
   .rintro((h|h)|(h|h)) <;> simp[h]
   .rintro(h|((h|h)|h)) <;> simp[h]
def Ba{us:C6}{a:U}{w:Nat}(b:Bf [([],.tup [.tup us,a])] M w)(t:w<=30000)(n:40000<=fw)(m:∀S' p F mF,Fl F mF->(∀k,k∈mF↔k∈M)->Kp S S'->S.length<=p->at? S' p=some (.lst<|F.map bu)->F.length<=40000->mF.length=M.length->K (.ref p) S'):(Gd fw<|d+2).call 1 [.tup [.tup us,a]] S x K:=by
 erw[cd (d:=d+1) ⟨1,5,t1⟩,pd (v:=.ref S.length) (S':=S++[.lst [bu ([],.tup [.tup us,a])]]) (by rfl)];have k0:Kp S<|S++[Ob.lst [bu ([],.tup [.tup us,a])]]:=⟨⋯,λz=>zAn z⟩
 have i:at? (S++[Ob.lst [bu ([],.tup [.tup us,a])]]) S.length=some (.lst<|([]++[([],U.tup [.tup us,a])]).map bu):=zAx;generalize S++[Ob.lst [bu ([],.tup [.tup us,a])]]=S1 at k0 i;show whK (λσ1 S1 k=>wT (Gd fw<|d+1) σ1 S1 _ k) (λσ1 S1 nx=>wB (Gd fw<|d+1) σ1 S1 _) (Gd fw<|d+1).br (Gd fw<|d+1).fail (Gd fw<|d+1).fuel _ S1 _;rw[fuel];refine Bb (dn:=[]) b .nil i (by show 0+_<=_;lia) () λS' F mF C a3 a4 fl l f' c r q=>?_;exact m S' S.length F mF fl (λk=>by rw[l k];simp) ⟨by have:=k0.len;have:=c.len;lia,λ{p o} z=>c.ky (by have:=zBi z;lia)<|k0.ky z⟩ (xAg _) f' r (by rw[q];show 0+_=_;lia)
end
section
variable{fw d f:Nat}{S S':So}{x:D6}{K:D5}{us:C6}{ins:B7<|C7×U}{ms D M:C7}{k j:Nat}
def dk(D:C7):B7<|Key×U:=D.map λk:Nat=>((.inl (k:Int):Key),.bl true)
def zCz(k:Nat)(D:C7):C7:=if k∈D then D else D++[k]
def zBs:C7->C7->C7
 |D,[]=>D
 |D,k::r=>zBs (zCz k D) r
def rj:j∈zCz k D↔j∈D\/j=k:=by
 unfold zCz;split
 .next h=>exact⟨.inl,λz=>z.elim id λe=>by rw[e];exact h⟩
 .simp
theorem c7:∀{l D:C7},j∈zBs D l↔j∈D\/j∈l
 |[],D=>by simp[zBs]
 |k::r,D=>by
  rw[zBs,c7,rj,xAv];constructor
  .rintro((h|h)|h) <;> simp[h]
  .rintro(h|h|h) <;> simp[h]
theorem hV:∀{l r D:C7},zBs D (l++r)=zBs (zBs D l) r
 |[],r,D=>rfl
 |k::l,r,D=>by show zBs (zCz k D) (l++r)=_;rw[hV];rfl
def uO(h:D.Nodup):(zCz k D).Nodup:=by
 unfold zCz;split
 .exact h
 .next e=>exact xBq.mpr ⟨h,⋯,λa i b hb c=>e<|by rw[xAm.mp hb] at c;rw[<- c];exact i⟩
theorem eO:∀{l D:C7},D.Nodup->(zBs D l).Nodup
 |[],_,h=>h
 |k::r,_,h=>eO (l:=r)<|uO h
def uP:(zCz k D).length<=D.length+1:=by
 unfold zCz;split
 .lia
 .rw[xAb,xAt];exact xAg _
theorem yH:((dk D).any λkv=>decide<|kv.1=(.inl (k:Int):Key))=decide (k∈D):=by
 induction D with
 |nil=>rfl
 |cons y r a=>
  show(decide ((.inl (y:Int):Key)=.inl (k:Int))||(dk r).any _)=_;rw[a];by_cases e:y=k
  .subst e;simp
  .have c:¬ ((.inl (y:Int):Key)=.inl (k:Int)):=λz=>e (by injection z with z;exact Int.ofNat.inj z);rw[xCn c,Bool.false_or];have b:¬ k=y:=λz=>e z.symm;simp[b]
def yG:putK (.inl (k:Int)) (.bl true) (dk D)=dk (zCz k D):=by
 unfold Fx.putK zCz;rw[yH];by_cases e:k∈D
 .rw[xCg<|xBd e,xCg e];unfold dk;rw[List.map_map];refine List.map_congr_left λy _=>?_;show(if _ then _ else _)=_;split <;> rfl
 .rw[xCf λz=>e<|xBe z,xCf e];unfold dk;rw[xAi];rfl
def lQ(h:at? S f=some (.dct<|dk D))(a:D.length<=20000):pr ups .seti [.ref f,.int (k:Int),.bl true] S=.ok .non (Fx.set S f<|.dct<|dk<|zCz k D):=by
 show zBg f (.int (k:Int)) (.bl true) S=_;unfold zBg;rw[h];show fits ((dk D).length+1) (.ok .non<|Fx.set S f<|.dct<|putK (.inl (k:Int)) (.bl true)<|dk D)=_;rw[yG];exact zA6 (by unfold dk;rw[xAa];show _<=2^24;lia)
def nA:D3:=rz9
theorem Ab{k:Str}{to:Nat}{r:C6}{bs:B7<|C7×U}(s:Sh k to r own bs){c:B8 U}(i:at? S f=some (.dct<|dk D))(p:D.length<=20000)(b:E.nx [a0,some<|.ref f,c,a3,some<|.tup<|.str k::.int (to:Int)::r]<|Fx.set S f<|.dct<|dk<|zBs D own):(Jb nA) (Gd fw d) [a0,some<|.ref f,c,a3,some<|.tup<|.str k::.int (to:Int)::r] S E:=by
 have none:own=[]->k≠"start"->zBc (.str k) [.str "read",.str "set"]=false->(Jb nA) (Gd fw d) [a0,some<|.ref f,c,a3,some<|.tup<|.str k::.int (to:Int)::r] S E:=λe m l=>by
  rw[e,show zBs D []=D from rfl,zBh i] at b;erw[pd bz,pd (cj m),bF,pd bz,pv (.bl<|zBc (.str k) [.str "read",.str "set"])];rw[l];exact bF b
 have a:∀{j:Nat}{n:C6},own=[j]->r=.int (j:Int)::n->k≠"start"->zBc (.str k) [.str "read",.str "set"]=true->(Jb nA) (Gd fw d) [a0,some<|.ref f,c,a3,some<|.tup<|.str k::.int (to:Int)::r] S E:=λ{j n} e t m l=>by
  subst t;rw[e] at b;erw[pd bz,pd (cj m),bF,pd bz,pv (.bl<|zBc (.str k) [.str "read",.str "set"])];rw[l];erw[bT,pd (cf (j:=2) rfl),pd (lQ i p)];exact b
 cases s with
 |flat o=>
  cases o with
  |start=>
   erw[pd bz,pd (cG rfl),bT,pd eX,pd (lQ i p),<-b]
  |read=>exact a rfl rfl ∅ (by rfl)
  |set=>exact a rfl rfl ∅ (by rfl)
  |none q=>rcases q with rfl|rfl|rfl|rfl|rfl|rfl <;> exact none rfl ∅ (by rfl)
 |func=>exact none rfl ∅ (by rfl)
 |iff=>exact none rfl ∅ (by rfl)
 |mat=>exact none rfl ∅ (by rfl)
 |try_=>exact none rfl ∅ (by rfl)
theorem jm:∀{l D:C7},(zBs D l).length<=D.length+l.length
 |[],_=>xAg _
 |k::r,D=>by
  have:=jm (l:=r) (D:=zCz k D);have:=uP (k:=k) (D:=D);rw[zBs,xAo];lia
theorem wq{n:B8 U}(c:SI us ins ms):∀{S:So}{D:C7}{a4:B8 U},at? S f=some (.dct<|dk D)->D.length+ms.length<=20000->(∀S' a4,at? S' f=some (.dct<|dk<|zBs D ms)->Pc f S S'->kk [a0,some<|.ref f,n,a3,a4] S')->zA4 us (λv σ1 S2 nx=>tgt [4] true (Gd fw d) v σ1 λσ2=>(Jb nA) (Gd fw d) σ2 S2<|lpE E nx) [a0,some<|.ref f,n,a3,a4] S kk:=by
 induction c with
 |nil=>intro S D a4 b _ i;exact i S a4 b Pc.refl
 |@cons k to r us own ms bs ins s t p=>
  intro S D a4 b C i;rw[xAb] at C;have:=jm (l:=own) (D:=D);rw[zA4];erw[Ab s b (),<-p (D:=zBs D own) (zAc b) () λS' a4 f' m=>?_];exact i S' a4 (by rw[hV];exact f') ⟨by have:=m.len;rw[zAf] at this;lia,λ{q o} a z=>m.ky a<|atN (Ne.symm a) z⟩
theorem zk{F:B7<|C7×U}{m:C7}(c:Fl F m):∀{S:So}{D:C7}{b a3 a4:B8 U},at? S f=some (.dct<|dk D)->D.length+m.length<=20000->(∀S' b a3 a4,at? S' f=some (.dct<|dk<|zBs D m)->Pc f S S'->kk [a0,some<|.ref f,b,a3,a4] S')->zA4 (F.map bu) (λv σ1 S2 nx=>tgt [2,3] false (Gd fw d) v σ1 λσ2=>(Jb<|sF (J6 .seq<|J4 J8 Ji) [4] true<|Jb nA) (Gd fw d) σ2 S2<|lpE E nx) [a0,some<|.ref f,b,a3,a4] S kk:=by
 induction c with
 |nil=>intro S D b a3 a4 n _ i;exact i S b a3 a4 n Pc.refl
 |@cons C us a r ins ms m s t p=>
  intro S D b a3 a4 n q i;rw[xAb] at q;have:=jm (l:=ms) (D:=D);rw[xBs,zA4];erw[pd bz,pv (.tup us),<-wq s n () λS1 a4 f1 p1=>?_,<-p f1 () λS' b a3 a4 f' o=>?_];exact i S' b a3 a4 (by rw[hV];exact f')<|p1.trans o
def lof(M:C7):C7:=(zCf ((zBs [] M).map λk:Nat=>(k:Int))).map Int.toNat
end
section
variable{fw d f:Nat}{S S':So}{x:D6}{K:D5}{us:C6}{D M:C7}{k:Nat}{a:U}{w:Nat}
def iE{z:Int}(h:z∈zCf (D.map λk:Nat=>(k:Int))):∃k∈D,z=(k:Int):=by
 let⟨k,b,rfl⟩:=xA2.mp<|cR.mem_iff.mp h;exact⟨k,b,rfl⟩
def iY(b:D.Nodup)(i:∀k,k∈D↔k∈M):(zCf (D.map λk:Nat=>(k:Int))).map U.int=nu (lof M):=by
 have pm:D.Perm<|zBs [] M:=(List.perm_ext_iff_of_nodup b<|eO (l:=M) xC7).mpr λk=>by rw[i k,c7];simp
 have e:zCf (D.map λk:Nat=>(k:Int))=zCf ((zBs [] M).map λk:Nat=>(k:Int)):=fY (cR.trans<|pm.map _) fX;rw[e];unfold nu lof;rw[List.map_map];refine List.map_congr_left λz c=>?_;let⟨k,_,rfl⟩:=iE c;rfl
def gh:k∈lof M↔k∈M:=by
 unfold lof;constructor
 .intro h;let⟨z,b,e⟩:=xA2.mp h;let⟨j,c,rfl⟩:=iE b;have:j=k:=e;rw[<- this];rcases c7.mp c with z|z
  .cases z
  .exact z
 .intro h;exact xA2.mpr ⟨(k:Int),cR.mem_iff.mpr<|xA2.mpr ⟨k,c7.mpr<|.inr h,rfl⟩,rfl⟩
theorem mZ:∀{D:C7},zF0 (dk D)=some (D.map λk:Nat=>(k:Int))
 |[]=>rfl
 |k::r=>by
  show(zF0<|dk r).map ((k:Int)::·)=_;rw[mZ];rfl
def wN(h:at? S f=some (.dct<|dk D))(b:D.length<64):pr ups (.srt true) [.ref f] S=.ok (.ref S.length) (S++[.lst<|(zCf (D.map λk:Nat=>(k:Int))).map .int]):=by
 have e:zFd S (.ref f)=some (D.map λk:Nat=>(k:Int)):=by
  unfold zFd;dsimp only[lsT];rw[h];exact mZ
 show(match zFd S (.ref f) with|some ns=>(match decide (ns.length<64) with|true=>mkL true ((zCf ns).map .int) S|false=>.stuck)|none=>.stuck)=_;rw[e];dsimp only;rw[xBd<|by rw[xAa];exact b];rfl
def zj(b:Bf [([],.tup [.tup us,a])] M w)(G:w<=30000)(O:M.length<=20000)(m:∀D:C7,D.Nodup->(∀k∈D,k∈M)->D.length<=63)(i:40000<=fw)(J:∀S' q,Kp S S'->S.length<=q->at? S' q=some (.lst<|nu<|lof M)->K (.ref q) S'):(Gd fw<|d+3).call 2 [.tup [.tup us,a]] S x K:=by
 erw[cd (d:=d+2) ⟨1,5,t2⟩,pd (v:=.ref S.length) (S':=S++[.dct<|dk []]) (by rfl)];have k0:Kp S<|S++[Ob.dct<|dk []]:=⟨⋯,λz=>zAn z⟩
 have r:at? (S++[Ob.dct<|dk []]) S.length=some (.dct<|dk []):=zAx;have C:(S++[Ob.dct<|dk []]).length=S.length+1:=⋯
 generalize S++[Ob.dct<|dk []]=S1 at k0 r C;erw[<-Ba (d:=d) b G i λS2 p F mF fl I k2 lp H R Q=>?_,<-pd (v:=.tup<|F.map bu) (S':=Fx.set S2 p .dead) ?_ ?_]
 .show zFe .tup (.ref p) S2=_;unfold zFe;dsimp only;rw[H]
 have L:=atN (o':=Ob.dead) (show p≠S.length by lia)<|k2.ky r;refine zk fl L (by show 0+_<=_;lia) λS' T a3 a4 f' p'=>?_;have n:=eO (l:=mF) (D:=[]) xC7;have c:∀k,k∈zBs [] mF↔k∈M:=λk=>by rw[c7,<- I k];simp
 erw[pd (wN f' (by have:=m _ n λk z=>(c k).mp z;lia))];rw[iY n c];have t:S.length<=S'.length:=by have:=k0.len;have:=k2.len;have:=p'.len;rw[zAf] at this;lia
 exact J _ S'.length ⟨by rw[xAb];lia,λ{q o} z=>zAn<|p'.ky (by have:=zBi z;lia)<|atN (by have:=zBi z;lia)<|k2.ky<|k0.ky z⟩ t zAx
end
section
variable{M M2:C7}{lv lv' lo mi hi:Nat}{b:U}{us vs:C6}{bs:B7<|C7×U}
def MeB.up(s:MeB b M lv)(h:lv<=lv'):MeB b M lv':=⟨λ{fw d S x K} k=>by
 have:=s.h (fw:=fw) (d:=d+(lv'-lv)) (x:=x) k;rw[show d+(lv'-lv)+lv=d+lv' by lia] at this;exact this⟩
theorem zDr.up(s:zDr lv bs M)(h:lv<=lv'):zDr lv' bs M:=by
 induction s with
 |nil=>exact .nil
 |cons a _ c=>exact .cons (a.up h) c
theorem zCq.up(s:zCq lv us M)(h:lv<=lv'):zCq lv' us M:=by
 induction s with
 |nil=>exact .nil
 |cons s hb c _ a=>exact .cons s (hb.up h) c a
theorem zCq.app(a:zCq lv us M)(b:zCq lv vs M2):zCq lv (us++vs)<|M++M2:=by
 induction a with
 |nil=>exact b
 |cons s hb i _ c=>rw[xAx];exact .cons s hb i c
theorem SI.app{ins c:B7<|C7×U}{ms i:C7}(a:SI us ins ms)(b:SI vs c i):SI (us++vs) (ins++c)<|ms++i:=by
 induction a with
 |nil=>exact b
 |cons s _ k=>rw[xAx,xAx];exact .cons s k
structure zB3(lo hi:Nat)(us:C6)(M:C7)(lv:Nat):Prop where
 me:zCq lv us M
 bf:∃ins ms mi wi,SI us ins ms/\Bf ins mi wi/\(∀k,k∈M↔k∈ms++mi)/\(ms++mi).length=M.length/\wi<=2*(hi-lo)
 le:lo<=hi
theorem zB3.nil:zB3 lo lo [] [] lv:=⟨.nil,⟨[],[],[],0,.nil,.nil,λk=>⋯,rfl,xBn _⟩,xAg _⟩
theorem zB3.app(a:zB3 lo mi us M lv)(b:zB3 mi hi vs M2 lv):zB3 lo hi (us++vs) (M++M2) lv:=by
 have D:=a.le;have C:=b.le;refine⟨a.me.app b.me,?_,()⟩;let⟨H,v,G,r,i,f1,p,m,I⟩:=a.bf;let⟨i2,t,F,q,c,n,o,l,c2⟩:=b.bf;refine⟨_,_,_,_,i.app c,f1.app n,λk=>?_,?_,()⟩
 .rw[xAj,p k,o k];simp only[xAj];constructor
  .rintro((h|h)|(h|h)) <;> simp[h]
  .rintro((h|h)|(h|h)) <;> simp[h]
 .simp only[xAb] at m l⊢;lia
def zB3.wide{lo' hi':Nat}(a:zB3 lo hi us M lv)(h:hi-lo<=hi'-lo')(l:lo'<=hi'):zB3 lo' hi' us M lv:=by
 let⟨ins,c,mi,wi,s,f,e,i,k⟩:=a.bf;exact⟨a.me,⟨ins,c,mi,wi,s,f,e,i,()⟩,l⟩
theorem zB3.up(a:zB3 lo hi us M lv)(h:lv<=lv'):zB3 lo hi us M lv':=⟨a.me.up h,a.bf,a.le⟩
structure BsP(lo hi:Nat)(bs:B7 (C7×U))(M:C7)(lv:Nat):Prop where
 me:zDr lv bs M
 bf:∃mb w,Bf bs mb w/\(∀k,k∈M↔k∈mb)/\mb.length=M.length/\w<=2*(hi-lo)+bs.length
 le:lo<=hi
theorem BsP.nil:BsP lo lo [] [] lv:=⟨.nil,⟨[],0,.nil,λk=>⋯,rfl,xBn _⟩,xAg _⟩
variable{M1 xs own:C7}{to j:Nat}{k:Str}{r:C6}{a:U}
theorem BsP.cons(s:zB3 (lo+j) mi us M1 lv)(b:BsP mi hi bs M2<|lv+2)(n:M1.length<=20000):BsP lo hi ((xs,.tup [.tup us,a])::bs) (M1++M2)<|lv+2:=by
 have F:=s.le;have D:=b.le;refine⟨.cons (vI s.me n) b.me,?_,()⟩;let⟨ins,l,c,wi,s,f,e,m,v⟩:=s.bf;let⟨C,t,o,p,i,q⟩:=b.bf;refine⟨_,_,.cons s f o,λk=>?_,?_,by rw[xAo];lia⟩
 .rw[xAj,e k,p k,xAj (s:=l++c)]
 .rw[xAb,m,i,xAb]
def zB3.one{i:Nat}(s:Sh k i r own bs)(c:BsP lo to bs M lv)(hb:bs.length<=2):zB3 lo (to+1) [.tup<|.str k::.int (i:Int)::r] (own++M) lv:=by
 have o:=c.le;refine⟨by have:=zCq.cons (lv:=lv) s c.me () .nil;rwa[xB0] at this,?_,()⟩;let⟨n,w,f,e,l,m⟩:=c.bf;refine⟨_,_,_,_,.cons s .nil,by rw[xB0];exact f,λk=>?_,?_,()⟩
 .rw[xB0,xAj,xAj,e k]
 .rw[xB0,xAb,xAb,l]
end
def En(f:Fd)(β:Str->Int)(sc:C5)(Z:C7)(kvs:B7<|Key×U):Prop:=∀y∈sc,∃a,zAu (.inr y) kvs=some (.tup [a,.bl<|isset f (β y) y])/\AtV a/\(isset f (β y) y=true->∃k∈Z,a=.tup [.str "name",.int ((k:Nat):Int)])
section
variable{f:Fd}{β:Str->Int}{sc xs:C5}{Z Z' Kl Kl2 M M2 own:C7}{kvs:B7<|Key×U}{pl:Int}{n d lv c c2:Nat}{y w:Str}{a:U}{as as2 us us2 more:C6}{ps np np2:C8}{bs:B7<|C7×U}
def En.sub(h:En f β sc Z kvs)(s:∀k∈Z,k∈Z'):En f β sc Z' kvs:=λy b=>by
 let⟨a,e,m,l⟩:=h y b;exact⟨a,e,m,λz=>by let⟨k,i,e⟩:=l z;exact⟨k,s k i,e⟩⟩
def En.up1(h:En f β sc Z kvs)(i:AtV a)(hi:isset f pl y=true->∃k∈Z,a=.tup [.str "name",.int ((k:Nat):Int)]):En f (up β [y] pl) (sc++[y]) Z<|pus kvs [(y,.tup [a,.bl<|isset f pl y])]:=λz b=>by
 unfold K31.up;by_cases hx:z∈[y]
 .rw[xCg hx];have:=xAm.mp hx;subst this;exact⟨a,iL (bs:=[(z,.tup [a,.bl<|isset f pl z])]) ⋯<|xAm.mpr rfl,i,hi⟩
 .rw[xCf hx,gE<|by simpa using hx];exact h z<|(xAj.mp b).resolve_right hx
theorem gn:∀{xs:C5}{n:Nat},(bnd f pl n xs).map (·.1)=xs
 |[],_=>rfl
 |y::r,n=>by show y::(bnd f pl (n+1) r).map (·.1)=_;rw[gn]
def vm{xs:C5}{n:Nat}:(bnd f pl n xs).length=xs.length:=by
 rw[<- xAa (f:=λb:Str×U=>b.1),gn]
def kls(f:Fd)(pl:Int):Nat->C5->C7
 |_,[]=>[]
 |n,y::r=>if isset f pl y then n::kls f pl (n+1) r else kls f pl (n+1) r
theorem fk:∀{xs:C5}{n:Nat},(kls f pl n xs).length=((xs.map<|Prod.mk pl).filter λb=>isset f b.1 b.2).length
 |[],_=>rfl
 |y::r,n=>by
  rw[kls,xBs,List.filter_cons];cases e:isset f pl y with
  |true=>rw[xCg rfl,xCg rfl,xAo,xAo,fk]
  |false=>rw[xCf ∅,xCf ∅,fk]
theorem gN{k:Nat}:∀{xs:C5}{n:Nat},k∈kls f pl n xs->k<n+xs.length
 |y::r,n,h=>by
  rw[kls] at h;rw[xAo];split at h
  .rcases xAv.mp h with rfl|h
   .lia
   .have:=gN h;lia
  .have:=gN h;lia
theorem nI:∀{xs:C5}{n:Nat},y∈xs->∃k,(isset f pl y=true->k∈kls f pl n xs)/\(y,U.tup [.tup [.str "name",.int ((k:Nat):Int)],.bl<|isset f pl y])∈bnd f pl n xs
 |z::r,n,h=>by
  by_cases hz:y=z
  .subst hz;exact⟨n,λe=>by rw[kls,xCg e];exact xAr ..,xAr ..⟩
  .let⟨k,h1,b⟩:=nI (n:=n+1)<|(xAv.mp h).resolve_left hz;refine⟨k,λe=>?_,xAs _ b⟩;rw[kls];split
   .exact xAs _<|h1 e
   .exact h1 e
def En.upn(h:En f β sc Z kvs)(i:xs.Nodup):En f (up β xs pl) (sc++xs) (Z++kls f pl n xs)<|pus kvs<|bnd f pl n xs:=λz b=>by
 unfold K31.up;by_cases hx:z∈xs
 .rw[xCg hx];let⟨k,h1,m⟩:=nI (f:=f) (pl:=pl) (n:=n) hx;exact⟨_,iL (by rw[gn];exact i) m,.nam,λe=>⟨k,xBt _<|h1 e,rfl⟩⟩
 .rw[xCf hx,gE<|by rw[gn];exact hx];let⟨a,e,p,o⟩:=h z<|(xAj.mp b).resolve_right hx;exact⟨a,e,p,λz=>by let⟨k,l,e⟩:=o z;exact⟨k,xBw _ l,e⟩⟩
structure RF(Z:C7)(lv:Nat)(ps:C8)(c:Nat)(as us:C6)(np:C8)(M Kl:C7):Prop where
 sr:zB3 ps.length (ps.length+np.length) us M lv
 ar:∀a∈as,AtV a
 lu:us.length<=np.length
 ln:np.length<=6*c
 lm:M.length<=np.length
 ids:∀k∈M,k∈Z\/k∈Kl
 kb:∀k∈Kl,k<ps.length+np.length
theorem RF.nil:RF Z lv ps 0 [] [] [] [] []:=⟨.nil,λ_ z=>(nomatch z),xAg _,xBn _,xAg _,λ_ z=>(nomatch z),λ_ z=>(nomatch z)⟩
theorem RF.app(a:RF Z lv ps c as us np M Kl)(b:RF Z' lv (ps++np) c2 as2 us2 np2 M2 Kl2)(i:∀k∈Z',k∈Z\/k∈Kl):RF Z lv ps (c+c2) (as++as2) (us++us2) (np++np2) (M++M2)<|Kl++Kl2:=by
 have e:(ps++np).length=ps.length+np.length:=xAb;refine⟨?_,λz i=>(xAj.mp i).elim (a.ar z)<|b.ar z,?_,?_,?_,λk hk=>?_,λk hk=>?_⟩
 .have q:=b.sr;rw[e] at q;rw[xAb,<- Nat.add_assoc];exact a.sr.app q
 .rw[xAb,xAb];have:=a.lu;have:=b.lu;lia
 .rw[xAb];have:=a.ln;have:=b.ln;lia
 .rw[xAb,xAb];have:=a.lm;have:=b.lm;lia
 .rcases xAj.mp hk with hk|hk
  .exact(a.ids k hk).imp_right λz=>xBw _ z
  .rcases b.ids k hk with h|h
   .exact(i k h).imp_right λz=>xBw _ z
   .exact .inr<|xBt _ h
 .rw[xAb];rcases xAj.mp hk with hk|hk
  .have:=a.kb k hk;lia
  .have:=b.kb k hk;lia
theorem RF.up{lv':Nat}(a:RF Z lv ps c as us np M Kl)(h:lv<=lv')(b:c<=c2):RF Z lv' ps c2 as us np M Kl:=⟨a.sr.up h,a.ar,a.lu,by have:=a.ln;lia,a.lm,a.ids,a.kb⟩
structure BF(Z:C7)(lv lo:Nat)(np:C8)(bs:B7 (C7×U))(M Kl:C7):Prop where
 br:BsP lo (lo+np.length) bs M lv
 lm:M.length<=np.length
 ids:∀k∈M,k∈Z\/k∈Kl
 kb:∀k∈Kl,k<lo+np.length
theorem BF.nil{lo:Nat}:BF Z lv lo [] [] [] []:=⟨.nil,xAg _,λ_ z=>(nomatch z),λ_ z=>(nomatch z)⟩
def f8{M3 Kl3:C7}(R:RF Z lv ps c as us np M Kl)(B:BF Z lv' (ps.length+np.length) np2 bs M3 Kl3)(s:Sh w (ps.length+np.length+np2.length) more own bs)(hb:bs.length<=2)(b:lv<=lv')(m:np2.length+1<=6*c2)(o:own.length<=1)(hi:∀k∈own,k∈Z\/k∈Kl2)(l:∀k∈Kl2,k<=ps.length+np.length+np2.length):RF Z lv' ps (c+c2) [.tup [.str "name",.int ((ps.length+np.length+np2.length:Nat):Int)]] (us++[.tup<|.str w::.int ((ps.length+np.length+np2.length:Nat):Int)::more]) (np++(np2++[pl])) (M++(own++M3))<|Kl++(Kl2++Kl3):=by
 refine⟨?_,λz i=>?_,?_,?_,?_,λk hk=>?_,λk hk=>?_⟩
 .simp only[xAb,xAt];rw[show ps.length+(np.length+(np2.length+1))=ps.length+np.length+np2.length+1 by lia];exact(R.sr.up b).app<|.one s B.br hb
 .rw[xAm.mp i];exact .nam
 .simp only[xAb,xAt];have:=R.lu;lia
 .simp only[xAb,xAt];have:=R.ln;lia
 .simp only[xAb,xAt];have:=R.lm;have:=B.lm;lia
 .rcases xAj.mp hk with hk|hk
  .exact(R.ids k hk).imp_right λz=>xBw _ z
  .rcases xAj.mp hk with hk|hk
   .exact(hi k hk).imp_right λz=>xBt _<|xBw _ z
   .exact(B.ids k hk).imp_right λz=>xBt _<|xBt _ z
 .simp only[xAb,xAt];rcases xAj.mp hk with hk|hk
  .have:=R.kb k hk;lia
  .rcases xAj.mp hk with hk|hk
   .have:=l k hk;lia
   .have:=B.kb k hk;lia
end
section
variable{f:Fd}{β:Str->Int}{sc xs:C5}{Z Z' Z1 Kl Kl2 kl0 M M2 own:C7}{kvs:B7<|Key×U}{pl:Int}{n d lv c c2 lo j:Nat}{y w:Str}{a:U}{as as2 us us2 more:C6}{ps np np2 rep:C8}{bs:B7<|C7×U}{P:Pg}
theorem BF.cons(R:RF Z1 lv ps c [a] us np M Kl)(o:ps.length=lo+j)(t:rep.length=j)(B:BF Z (lv+2) (lo+(j+np.length)) np2 bs M2 Kl2)(r:np.length<=9000)(l:∀k∈Z1,k∈Z\/k∈kl0)(m:∀k∈kl0,k<lo+j):BF Z (lv+2) lo (rep++np++np2) ((List.range' lo j,.tup [.tup us,a])::bs) (M++M2)<|kl0++Kl++Kl2:=by
 have p:=R.lm;have i:=B.lm;refine⟨?_,by simp only[xAb];lia,λk hk=>?_,λk hk=>?_⟩
 .simp only[xAb];have q:=R.sr;have b:=B.br;rw[o] at q;rw[show lo+(j+np.length)=lo+j+np.length by lia] at b;rw[show lo+(rep.length+np.length+np2.length)=lo+j+np.length+np2.length by lia];exact .cons q b ()
 .rcases xAj.mp hk with hk|hk
  .rcases R.ids k hk with h|h
   .exact(l k h).imp_right λz=>xBw _<|xBw _ z
   .exact .inr<|xBw _<|xBt _ h
  .exact(B.ids k hk).imp_right λz=>xBt _ z
 .simp only[xAb];rcases xAj.mp hk with hk|hk
  .rcases xAj.mp hk with hk|hk
   .have:=m k hk;lia
   .have:=R.kb k hk;lia
  .have:=B.kb k hk;lia
def NPr(f:Fd)(sc:C5)(d:Nat)(P:Pg):Prop:=∀{β:Str->Int}{kvs:B7<|Key×U}{Z:C7},En f β sc Z kvs->(∀b∈P.sts β,isset f b.1 b.2=true)->kvs.length+5*d<=800->∀(last:C4)(ps:C8),ps.length+6*P.pls.length<=5000->∃a us np M Kl,AtC P.u kvs last f ps a us np (4*d+3)/\RF Z (2*d) ps P.pls.length [a] us np M Kl/\Kl.length<=(P.bs f).length
def bsl(f:Fd)(as:B7 Pg):B7<|Int×Str:=(Pg.bpss as).filter λb=>isset f b.1 b.2
def cX{l r:B7<|Int×Str}:((l++r).filter λb=>isset f b.1 b.2).length=(l.filter λb=>isset f b.1 b.2).length+(r.filter λb=>isset f b.1 b.2).length:=by rw[List.filter_append,xAb]
theorem kS(m:kvs.length+5*d<=800):∀{as:B7 Pg}(ps:C8),(∀a∈as,NPr f sc d a)->En f β sc Z kvs->(∀b∈Pg.stss as β,isset f b.1 b.2=true)->ps.length+6*(Pg.plss as).length<=5000->∃i us np M Kl,i.length=as.length/\ACs kvs f (4*d+3) ps (Pg.us as) i us np/\RF Z (2*d) ps (Pg.plss as).length i us np M Kl/\Kl.length<=(bsl f as).length
 |[],ps,_,_,_,_=>⟨[],[],[],[],[],rfl,.nil,.nil,xBn _⟩
 |a::r,ps,h,o,l,hb=>by
  have e:(Pg.plss<|a::r).length=a.pls.length+(Pg.plss r).length:=xAb;let⟨z,us,np,M,Kl,q,r1,k1⟩:=h a (xAr ..) o (λb hb=>l b<|xBw _ hb) m false ps ();have:=r1.ln;have t:(ps++np).length=ps.length+np.length:=xAb;let⟨i,us2,np2,M2,Kl2,p,c2,r2,k2⟩:=kS m (ps++np) (λb z=>h b<|xAs _ z) o (λb hb=>l b<|xBt _ hb) ();refine⟨z::i,us++us2,np++np2,M++M2,Kl++Kl2,by rw[xAo,xAo,p],.cons q r1.lu c2,by rw[e];exact r1.app r2 λk z=>.inl z,?_⟩;show _<=((a.bps++Pg.bpss r).filter _).length;rw[cX,xAb];exact Nat.add_le_add k1 k2
end
section
variable{f:Fd}{β:Str->Int}{sc xs:C5}{Z Kl Kl2 Kl3 M M3 own:C7}{kvs:B7<|Key×U}{pl:Int}{n d lv:Nat}{y w:Str}{a u v b:U}{us us2 more:C6}{ps np np2:C8}{P:Pg}{last:C4}{bs:B7<|C7×U}
theorem ACs.up{lv':Nat}{parts as:C6}(c:ACs kvs f lv ps parts as us np)(h:lv<=lv'):ACs kvs f lv' ps parts as us np:=by
 induction c with
 |nil=>exact .nil
 |cons c k t i=>exact .cons (c.up h) k i
def ACs.one(c:AtC u kvs false f ps a us np lv)(i:us.length<=np.length):ACs kvs f lv ps [u] [a] us np:=by
 have:=ACs.cons c i .nil
 rwa[xB0,xB0] at this
def eF(h:NPr f sc d P)(m:En f β sc Z kvs)(i:∀b∈P.sts β,isset f b.1 b.2=true)(l:kvs.length+5*d<=800)(last:C4)(ps:C8)(hb:ps.length+6*P.pls.length<=5000):∃a us np M Kl,BoC P.u kvs last f ps (.tup [.tup us,a]) np (4*d+4)/\RF Z (2*d) ps P.pls.length [a] us np M Kl/\Kl.length<=(P.bs f).length:=by
 let⟨a,us,np,M,Kl,c,r,k⟩:=h m i l last ps hb;exact⟨a,us,np,M,Kl,B1 c,r,k⟩
def gI(h:NPr f (sc++xs) d P)(p:En f β sc Z kvs)(m:xs.Nodup)(l:xs.length<=4)(o:∀b∈P.sts (up β xs pl),isset f b.1 b.2=true)(q:kvs.length+5*(d+1)<=800)(last:C4)(ps:C8)(hb:ps.length+6*P.pls.length+4<=5000):∃a us np M Kl,BbC xs P.u pl kvs last f ps (.tup [.tup<|nu<|List.range' ps.length xs.length,.tup [.tup us,a]]) (List.replicate xs.length pl++np) (4*d+5)/\RF (Z++kls f pl ps.length xs) (2*d) (ps++List.replicate xs.length pl) P.pls.length [a] us np M Kl/\Kl.length<=(P.bs f).length:=by
 have i:=fg (bs:=bnd f pl ps.length xs) (kvs:=kvs);rw[vm] at i;have e:(ps++List.replicate xs.length pl).length=ps.length+xs.length:=by rw[xAb,xCu]
 let⟨a,us,np,M,Kl,c,r,k⟩:=eF h (p.upn (pl:=pl) (n:=ps.length) m) o () last (ps++List.replicate xs.length pl) (by rw[e];lia);exact⟨a,us,np,M,Kl,B4 c l () () (),r,k⟩
def RF.one{c:Nat}(r:RF Z lv ps c [a] us np M Kl):AtV a:=r.ar a<|xAm.mpr rfl
def gH{k:Str}{as:C6}{c:Nat}(kd:Kd k false)(i:PaC (.tup<|.str k::.int pl::rr) parts)(A:ACs kvs f (4*d+3) ps parts as us np)(q:parts.length<=100)(m:PlC (.tup<|.str k::.int pl::rr) as kvs last w more)(R:RF Z (2*d) ps c as us np M Kl)(s:Sh w (ps.length+np.length) more own [])(l:own.length<=1)(hi:∀k∈own,k∈Z)(o:more.length<=100)(hb:ps.length+np.length<=9000)(p:c+1<=c2):∃a us np M' Kl',AtC (.tup<|.str k::.int pl::rr) kvs last f ps a us np (4*(d+1)+3)/\RF Z (2*(d+1)) ps c2 [a] us np M' Kl'/\Kl'=Kl++([]++[]):=
 ⟨_,_,_,_,_,sJ (lv:=4*(d+1)+1) kd i (A.up ()) q m R.lu hb o,(f8 (np2:=[]) (c2:=1) (Kl2:=[]) R (.nil (lv:=2*(d+1))) s ∅ () ∅ l (λk z=>.inl<|hi k z) λ_ z=>nomatch z).up () p,rfl⟩
def mE{k:Str}{as:C6}{c c3:Nat}(kd:Kd k true)(i:PaC (.tup<|.str k::.int pl::rr) parts)(A:ACs kvs f (4*d+3) ps parts as us np)(q:parts.length<=100)(m:MoC (.tup<|.str k::.int pl::rr) as kvs last f (ps++np) w more np2<|4*d+6)(R:RF Z (2*d) ps c as us np M Kl)(B:BF Z (2*d+2) (ps.length+np.length) np2 bs M3 Kl3)(s:Sh w (ps.length+np.length+np2.length) more [] bs)(r:bs.length<=2)(o:more.length<=100)(hb:ps.length+np.length+np2.length<=9000)(l:np2.length+1<=6*c3)(p:c+c3<=c2):∃a us np M' Kl',AtC (.tup<|.str k::.int pl::rr) kvs last f ps a us np (4*(d+1)+3)/\RF Z (2*(d+1)) ps c2 [a] us np M' Kl'/\Kl'=Kl++([]++Kl3):=
 ⟨_,_,_,_,_,(sK (lv:=4*d+5) kd i (A.up ()) q m R.lu hb o).up (),(f8 (c2:=c3) (Kl2:=[]) R B s r () l ∅ (λk z=>nomatch z) λ_ z=>nomatch z).up () p,rfl⟩
end
section
variable{f:Fd}{sc:C5}{d:Nat}{pl:Int}{a b:Pg}{as:B7 Pg}{y w o:Str}
def kdF{k:Str}(n:k≠"number":=by decide)(m:k≠"name":=by decide)(l:k≠"do":=by decide)(i:k≠"let":=by decide)(c:zBc (.str k) [.str "fn",.str "if",.str "match",.str "try"]=false:=by rfl):Kd k false:=⟨n,m,l,i,c⟩
def kdT{k:Str}(n:k≠"number":=by decide)(m:k≠"name":=by decide)(l:k≠"do":=by decide)(i:k≠"let":=by decide)(c:zBc (.str k) [.str "fn",.str "if",.str "match",.str "try"]=true:=by rfl):Kd k true:=⟨n,m,l,i,c⟩
def qK(m:NPr f sc d a):NPr f sc (d+1)<|.tell pl a:=by
 intro β l Z p n v last i hb;have hb:i.length+6*(a.pls.length+1)<=5000:=hb;let⟨z,us,t,M,Kl,q,r1,k1⟩:=m p n () false i ();have:=r1.ln;let⟨_,_,_,_,_,c,r,e⟩:=gH (c2:=a.pls.length+1) (last:=last) kdF ue (.one q r1.lu) (by show 1<=100;decide) tT r1 (.plain<|.inr<|.inr<|.inr<|.inr<|.inl rfl) ∅ (λk z=>nomatch z) (by show 2<=100;decide) ()<|xAg _;exact⟨_,_,_,_,_,c,r,by rw[e,xB0,xB0];exact k1⟩
def uz(m:NPr f sc d a):NPr f sc (d+1)<|.rai pl w a:=by
 intro β l Z p n v last i hb;have hb:i.length+6*(a.pls.length+1)<=5000:=hb;let⟨z,us,t,M,Kl,q,r1,k1⟩:=m p n () false i ();have:=r1.ln;let⟨_,_,_,_,_,c,r,e⟩:=gH (c2:=a.pls.length+1) (last:=last) kdF qx (.one q r1.lu) (by show 1<=100;decide) qd r1 (.plain<|.inr<|.inr<|.inl rfl) ∅ (λk z=>nomatch z) (by show 3<=100;decide) ()<|xAg _;exact⟨_,_,_,_,_,c,r,by rw[e,xB0,xB0];exact k1⟩
def uE:NPr f sc (d+1)<|.ask pl:=by
 intro β l Z p m n last i hb;have hb:i.length+6*1<=5000:=hb;let⟨_,_,_,_,_,c,r,e⟩:=gH (d:=d) (c:=0) (np:=[]) (c2:=1) (last:=last) kdF xl .nil ∅ wW (.nil (Z:=Z)) (.plain<|.inr<|.inr<|.inr<|.inr<|.inr rfl) ∅ (λk z=>nomatch z) (by show 1<=100;decide) (by show i.length+0<=_;lia)<|xAg _;exact⟨_,_,_,_,_,c,r,by rw[e];exact xBn _⟩
def xE(q:y∈sc)(p:NPr f sc d a):NPr f sc (d+1)<|.st pl y a:=by
 intro β n Z m hs D last l hb;have hb:l.length+6*(a.pls.length+1)<=5000:=hb;let⟨z,us,C,M,Kl,v,r1,k1⟩:=p m (λb z=>hs b<|xAs _ z) () false l ();have:=r1.ln;let⟨F,e,t,hi⟩:=m y q;let⟨k,i,rfl⟩:=hi<|hs (β y,y)<|xAr ..;let⟨_,_,_,_,_,c,r,e⟩:=gH (c2:=a.pls.length+1) (last:=last) kdF xk (.one v r1.lu) (by show 1<=100;decide) (wV e) r1 .set (by show 1<=1;decide) (λj z=>by rw[xAm.mp z];exact i) (by show 3<=100;decide) ()<|xAg _;exact⟨_,_,_,_,_,c,r,by rw[e,xB0,xB0];exact k1⟩
def xH(t:NPr f sc d a)(i2:NPr f sc d b):NPr f sc (d+1)<|.dd pl a b:=by
 intro β r Z m l F last c hb;have e:(Pg.dd pl a b).pls.length=a.pls.length+b.pls.length+1:=by show(a.pls++b.pls).length+1=_;rw[xAb]
 let⟨z,us,i,M,Kl,C,r1,k1⟩:=t m (λb z=>l b<|xBw _ z) () false c ();have:=r1.ln;have G:(c++i).length=c.length+i.length:=xAb;let⟨D,n,p,M2,Kl2,c2,r2,k2⟩:=i2 m (λb z=>l b<|xBt _ z) () last (c++i) ();have R:=r1.app r2 λk z=>.inl z;refine⟨_,_,_,_,_,(Bg C c2 r1.lu).up (),(⟨R.sr,λq v=>R.ar q<|xBt _ v,R.lu,R.ln,R.lm,R.ids,R.kb⟩:RF _ _ _ _ _ _ _ _ _).up () (),?_⟩;show _<=((a.bps++b.bps).filter _).length;rw[cX,xAb];exact Nat.add_le_add k1 k2
end
section
variable{f:Fd}{sc:C5}{d:Nat}{pl n:Int}{a b:Pg}{as:B7 Pg}{y w o:Str}
def qL(C:NPr f sc d a)(i2:NPr f sc d b):NPr f sc (d+1)<|.math pl o a b:=by
 intro β v Z p m H last i hb;have e:(Pg.math pl o a b).pls.length=a.pls.length+b.pls.length+1:=by show(a.pls++b.pls).length+1=_;rw[xAb]
 let⟨z,us,l,M,Kl,F,r1,k1⟩:=C p (λb z=>m b<|xBw _ z) () false i ();have:=r1.ln;have I:(i++l).length=i.length+l.length:=xAb;let⟨G,q,t,M2,Kl2,c2,r2,k2⟩:=i2 p (λb z=>m b<|xBt _ z) () false (i++l) ();have:=r2.ln;have R:=r1.app r2 λk z=>.inl z;let⟨_,_,_,_,_,c,r,D⟩:=gH (c2:=(Pg.math pl o a b).pls.length) (last:=last) kdF uf (.cons F r1.lu<|.one c2 r2.lu) (by show 2<=100;decide) tU R (.plain<|.inl rfl) ∅ (λk z=>nomatch z) (by show 4<=100;decide) (by rw[xAb];lia) ();refine⟨_,_,_,_,_,c,r,?_⟩;rw[D,xB0,xB0,xAb];show _<=((a.bps++b.bps).filter _).length;rw[cX];exact Nat.add_le_add k1 k2
def qM(F:as.length<=4)(i2:∀a∈as,NPr f sc d a):NPr f sc (d+1)<|.make pl w as:=by
 intro β p Z t q D last i hb;have hb:i.length+6*((Pg.plss as).length+1)<=5000:=hb;let⟨C,l,m,M,Kl,G,c2,r2,k2⟩:=kS () i i2 t q ();have:=r2.ln;let⟨_,_,_,_,_,c,r,v⟩:=gH (c2:=(Pg.plss as).length+1) (last:=last) kdF ug c2 (by rw[fA];lia) tV r2 (.plain<|.inr<|.inl rfl) ∅ (λk z=>nomatch z) (by show 3<=100;decide) ()<|xAg _;exact⟨_,_,_,_,_,c,r,by rw[v,xB0,xB0];exact k2⟩
def qN(I:as.length<=4)(C:NPr f sc d a)(i2:∀a∈as,NPr f sc d a):NPr f sc (d+1)<|.call pl a as:=by
 intro β v Z p m H last i hb;have e:(Pg.call pl a as).pls.length=a.pls.length+(Pg.plss as).length+1:=by show(a.pls++Pg.plss as).length+1=_;rw[xAb]
 let⟨z,us,l,M,Kl,F,r1,k1⟩:=C p (λb z=>m b<|xBw _ z) () false i ();have:=r1.ln;have J:(i++l).length=i.length+l.length:=xAb;let⟨G,q,t,M2,Kl2,K,c2,r2,k2⟩:=kS () (i++l) i2 p (λb z=>m b<|xBt _ z) ();have:=r2.ln;have R:=r1.app r2 λk z=>.inl z;let⟨_,_,_,_,_,c,r,D⟩:=gH (c2:=(Pg.call pl a as).pls.length) (last:=last) kdF (ui<|by rw[fA];lia) (.cons F r1.lu c2) (by rw[xAo,fA];lia) tW R (.plain<|.inr<|.inr<|.inr<|.inl rfl) ∅ (λk z=>nomatch z) (by show 4<=100;decide) (by rw[xAb];lia) ();refine⟨_,_,_,_,_,c,r,?_⟩;rw[D,xB0,xB0,xAb];show _<=((a.bps++Pg.bpss as).filter _).length;rw[cX];exact Nat.add_le_add k1 k2
def uA:NPr f sc d<|.num pl n:=by
 intro β c Z p l m last k hb;exact⟨_,_,_,[],[],yZ (lv:=4*d+2),⟨.nil,λz i=>by rw[xAm.mp i];exact .num,xAg _,xBn _,xAg _,λ_ z=>(nomatch z),λ_ z=>(nomatch z)⟩,xBn _⟩
theorem uB(h:y∈sc):NPr f sc d<|.nam pl y:=by
 intro β m Z r t i last l hb;have hb:l.length+6*1<=5000:=hb;let⟨a,e,q,hi⟩:=r y h;cases hb':isset f (β y) y with
 |false=>
  rw[hb'] at e;exact⟨_,_,_,[],[],vw (lv:=4*d+1) e,⟨.nil,λz p=>by rw[xAm.mp p];exact q,xAg _,xBn _,xAg _,λ_ z=>(nomatch z),λ_ z=>(nomatch z)⟩,xBn _⟩
 |true=>
  rw[hb'] at e;let⟨k,i,rfl⟩:=hi hb';exact⟨_,_,_,_,_,vv (lv:=4*d) e (),f8 (lv:=2*d) (np:=[]) (np2:=[]) (c:=0) (c2:=1) (Kl2:=[]) .nil (.nil (lv:=2*d)) .read ∅ () ∅ (by show 1<=1;decide) (λj z=>by rw[xAm.mp z];exact .inl i) (λ_ z=>nomatch z),xBn _⟩
end
section
variable{f:Fd}{sc xs:C5}{d:Nat}{pl n:Int}{a b c:Pg}{y w:Str}
def xG(q:xs.Nodup)(l:xs.length<=4)(o:NPr f (sc++xs) d b):NPr f sc (d+1)<|.fn pl xs b:=by
 intro β m Z v p t last i hb;have hb:i.length+6*(b.pls.length+1)<=5000:=hb;let⟨z,us,np,M,Kl,C,r1,k1⟩:=gI (pl:=pl) o v q l p t true i ();have:=r1.ln;have B:=BF.cons (Z:=Z) (kl0:=kls f pl i.length xs) (lo:=i.length) (j:=xs.length) (rep:=List.replicate xs.length pl) r1 (by rw[xAb,xCu]) xCu (.nil (Z:=Z)) () (λk z=>xAj.mp z) (λk z=>gN z);rw[xB0,xB0,xB0] at B;let⟨_,_,_,_,_,c,r,e⟩:=mE (c:=0) (c2:=b.pls.length+1) (c3:=b.pls.length+1) (np:=[]) (last:=last) kdT zJ .nil ∅ (by rw[xB0];exact Ao C) (.nil (Z:=Z)) B .func (by show 1<=2;decide) (by show 3<=100;decide) (by rw[xAb,xCu];show i.length+0+_<=_;lia) (by rw[xAb,xCu];lia) ();refine⟨_,_,_,_,_,c,r,?_⟩;rw[e,xC6,xC6,xAb,fk];show _<=((xs.map (Prod.mk pl)++b.bps).filter _).length;rw[cX];exact Nat.add_le_add (xAg _) k1
end
section
variable{f:Fd}{sc xs:C5}{d lv lo c:Nat}{pl n:Int}{a b:Pg}{y w:Str}{Z Kl Kl2 M M2:C7}{z:U}{us:C6}{ps np np2:C8}{bs:B7<|C7×U}
def BF.cons0(R:RF Z lv ps c [z] us np M Kl)(l:ps.length=lo)(B:BF Z (lv+2) (lo+np.length) np2 bs M2 Kl2)(i:np.length<=9000):BF Z (lv+2) lo (np++np2) (([],.tup [.tup us,z])::bs) (M++M2)<|Kl++Kl2:=by
 have:=BF.cons (Z:=Z) (kl0:=[]) (lo:=lo) (j:=0) (rep:=[]) R l rfl (by rw[Nat.zero_add];exact B) i (λk z=>.inl z) (λ_ z=>nomatch z);rw[xC6,xC6] at this;exact this
def uD{c:Pg}(D:NPr f sc d a)(i2:NPr f sc d b)(C:NPr f sc d c):NPr f sc (d+1)<|.iff pl a b c:=by
 intro β t Z k i J last ps hb;have e:(Pg.iff pl a b c).pls.length=a.pls.length+(b.pls.length+c.pls.length)+1:=by show(a.pls++(b.pls++c.pls)).length+1=_;rw[xAb,xAb]
 let⟨z,us,np,M,Kl,G,r1,k1⟩:=D k (λb z=>i b<|xBw _ z) () false ps ();have:=r1.ln;have m:(ps++np).length=ps.length+np.length:=xAb;let⟨I,p,np2,M2,Kl2,c2,r2,k2⟩:=eF i2 k (λb z=>i b<|xBt _<|xBw _ z) () last (ps++np) ();have:=r2.ln;have l:(ps++np++np2).length=ps.length+np.length+np2.length:=by rw[xAb,m]
 let⟨H,o,q,M3,Kl3,c3,r3,v⟩:=eF C k (λb z=>i b<|xBt _<|xBt _ z) () last (ps++np++np2) ();have:=r3.ln;have B3:=BF.cons0 (lo:=ps.length+np.length+np2.length) r3 l (.nil (Z:=Z)) ();rw[xB0,xB0,xB0] at B3;have B2:=BF.cons0 (lo:=ps.length+np.length) r2 m B3 ();let⟨_,_,_,_,_,c,r,F⟩:=mE (c2:=(Pg.iff pl a b c).pls.length) (c3:=b.pls.length+c.pls.length+1) (last:=last) kdT zI (.one G r1.lu) (by show 1<=100;decide) (An (c2.up (lv':=4*d+5) ())<|c3.up ()) r1 B2 .iff (by show 2<=2;decide) (by show 4<=100;decide) (by rw[xAb];lia) (by rw[xAb];lia) ();refine⟨_,_,_,_,_,c,r,?_⟩;rw[F,xC6,xAb,xAb];show _<=((a.bps++(b.bps++_)).filter _).length;rw[cX,cX];exact Nat.add_le_add k1<|Nat.add_le_add k2 v
end
section
variable{f:Fd}{sc xs:C5}{d:Nat}{pl:Int}{a b c:Pg}{y w:Str}
def uy(F:NPr f sc d a)(i2:NPr f (sc++[y]) d b):NPr f sc (d+1)<|.try_ pl a w y b:=by
 intro β C Z p o G last l hb;have e:(Pg.try_ pl a w y b).pls.length=a.pls.length+b.pls.length+1:=by show(a.pls++b.pls).length+1=_;rw[xAb]
 let⟨J,v,i,M2,Kl2,c2,r2,k2⟩:=eF F p (λb z=>o b<|xBw _ z) () false l ();have:=r2.ln;have n:(l++i).length=l.length+i.length:=xAb;let⟨I,q,m,M3,Kl3,c3,r3,D⟩:=gI (xs:=[y]) (pl:=pl) i2 p ⋯ ⋯ (λb z=>o b<|xBt _ z) G last (l++i) ();have:=r3.ln;have B3:=BF.cons (Z:=Z) (kl0:=kls f pl (l++i).length [y]) (lo:=l.length+i.length) (j:=1) (rep:=List.replicate 1 pl) r3 (by rw[xAb,n];rfl) rfl (.nil (Z:=Z)) () (λk z=>xAj.mp z) (λk z=>by have:=gN z;rw[n] at this;exact this);rw[xB0,xB0,xB0] at B3;have B2:=BF.cons0 (lo:=l.length) r2 rfl B3 ();rw[n] at c3;let⟨_,_,_,_,_,c,r,H⟩:=mE (c:=0) (np:=[]) (c2:=(Pg.try_ pl a w y b).pls.length) (c3:=a.pls.length+b.pls.length+1) (last:=last) kdT xj .nil ∅ (by rw[xB0];exact xO (w:=w) (c2.up (lv':=4*d+5) ()) c3) (.nil (Z:=Z)) B2 (.try_ (t:=w)) (by show 2<=2;decide) (by show 5<=100;decide) (by rw[xAb,xAb];show l.length+0+(i.length+(1+m.length))<=_;lia) (by rw[xAb,xAb];show i.length+(1+m.length)+1<=_;lia) ();refine⟨_,_,_,_,_,c,r,?_⟩;rw[H,xC6,xC6,xAb,xAb,fk];show _<=((a.bps++([y].map (Prod.mk pl)++b.bps)).filter _).length;rw[cX,cX];exact Nat.add_le_add k2<|Nat.add_le_add (xAg _) D
def uC(K:xs.Nodup)(p:xs.length<=4)(J:NPr f sc d a)(i2:NPr f (sc++xs) d b)(I:NPr f sc d c):NPr f sc (d+1)<|.mat pl a w xs b c:=by
 intro β G Z o n L last i hb;have e:(Pg.mat pl a w xs b c).pls.length=a.pls.length+(b.pls.length+c.pls.length)+1:=by show(a.pls++(b.pls++c.pls)).length+1=_;rw[xAb,xAb]
 let⟨z,us,m,M,Kl,Q,r1,k1⟩:=J o (λb z=>n b<|xBw _ z) () false i ();have:=r1.ln;have v:(i++m).length=i.length+m.length:=xAb;let⟨T,D,l,M2,Kl2,c2,r2,k2⟩:=gI (pl:=pl) i2 o K p (λb z=>n b<|xBt _<|xBw _ z) L last (i++m) ();have:=r2.ln;have q:(i++m++(List.replicate xs.length pl++l)).length=i.length+m.length+(xs.length+l.length):=by simp only[xAb,xCu]
 let⟨R,C,F,M3,Kl3,c3,r3,H⟩:=eF I o (λb z=>n b<|xBt _<|xBt _ z) () last (i++m++(List.replicate xs.length pl++l)) ();have:=r3.ln;have B3:=BF.cons0 (lo:=i.length+m.length+(xs.length+l.length)) r3 q (.nil (Z:=Z)) ();rw[xB0,xB0,xB0] at B3;have B2:=BF.cons (Z:=Z) (kl0:=kls f pl (i++m).length xs) (lo:=i.length+m.length) (j:=xs.length) (rep:=List.replicate xs.length pl) r2 (by rw[xAb,xCu,v]) xCu B3 () (λk z=>xAj.mp z) (λk z=>by have:=gN z;rw[v] at this;exact this);rw[v] at c2;let⟨_,_,_,_,_,c,r,O⟩:=mE (c2:=(Pg.mat pl a w xs b c).pls.length) (c3:=b.pls.length+c.pls.length+1) (last:=last) kdT qy (.one Q r1.lu) (by show 1<=100;decide) (qS (w:=w) c2<|c3.up ()) r1 B2 (.mat (t:=w)) (by show 2<=2;decide) (by show 6<=100;decide) (by rw[xAb,xAb,xCu];lia) (by rw[xAb,xAb,xCu];lia) ();refine⟨_,_,_,_,_,c,r,?_⟩;rw[O,xC6,xAb,xAb,xAb,fk];show _<=((a.bps++(xs.map (Prod.mk pl)++(b.bps++_))).filter _).length;rw[cX,cX,cX,Nat.add_assoc (List.length _) Kl2.length];exact Nat.add_le_add k1<|Nat.add_le_add (xAg _)<|Nat.add_le_add k2 H
end
section
variable{f:Fd}{sc xs:C5}{d:Nat}{pl:Int}{a b c:Pg}{y w:Str}
theorem xF(F:NPr f sc d a)(i2:NPr f (sc++[y]) d b):NPr f sc (d+1)<|.lt pl y a b:=by
 intro β kvs Z v r H last i hb;have e:(Pg.lt pl y a b).pls.length=a.pls.length+b.pls.length+1:=by show(a.pls++b.pls).length+1=_;rw[xAb]
 let⟨z,us,l,M,Kl,D,r1,k1⟩:=F v (λb z=>r b<|xBw _ z) () false i ();have:=r1.ln;have I:(i++l).length=i.length+l.length:=xAb;have k1:Kl.length<=(a.bps.filter λb=>isset f b.1 b.2).length:=k1;have m:((Pg.lt pl y a b).bs f).length=(a.bps.filter λb=>isset f b.1 b.2).length+(((pl,y)::b.bps).filter λb=>isset f b.1 b.2).length:=cX;rw[List.filter_cons] at m;cases hi:isset f pl y with
 |false=>
  have E2:=v.up1 (pl:=pl) (y:=y) r1.one (λz=>by rw[hi] at z;cases z);rw[hi] at E2;have n:=fg (bs:=[(y,U.tup [z,.bl false])]) (kvs:=kvs);let⟨C,o,np2,M2,Kl2,c2,r2,k2⟩:=i2 E2 (λb z=>r b<|xBt _ z) (by rw[xAt] at n;lia) last (i++l) ();have R:=r1.app r2 λk z=>.inl z;refine⟨_,_,_,_,_,(vy D c2 r1.lu hi ()).up (),(⟨R.sr,λq t=>R.ar q<|xBt _ t,R.lu,R.ln,R.lm,R.ids,R.kb⟩:RF _ _ _ _ _ _ _ _ _).up () (),?_⟩;rw[xCf<|by show ¬ isset f pl y=true;rw[hi];decide] at m;have k2:Kl2.length<=(b.bps.filter λb=>isset f b.1 b.2).length:=k2;rw[xAb,m];exact Nat.add_le_add k1 k2
 |true=>
  have R:=f8 (lv':=2*d) (np2:=[]) (c2:=1) (Kl2:=[i.length+l.length]) (pl:=pl) r1 (.nil (Z:=Z)) (.start (a:=z) (p:=pl)) ∅ () ∅ (by show 1<=1;decide) (λk z=>.inr z) (λk z=>by rw[xAm.mp z];show _<=_+0;lia);have E2:=(v.sub (Z':=Z++[i.length+l.length]) λk z=>xBw _ z).up1 (pl:=pl) (y:=y) R.one (λ_=>⟨i.length+l.length,xBt _<|xAm.mpr rfl,rfl⟩);rw[hi] at E2;have n:=fg (bs:=[(y,U.tup [.tup [.str "name",.int ((i.length+l.length:Nat):Int)],.bl true])]) (kvs:=kvs);have G:(i++(l++[pl])).length=i.length+l.length+1:=by simp only[xAb,xAt];lia
  let⟨C,o,np2,M2,Kl2,c2,r2,k2⟩:=i2 E2 (λb z=>r b<|xBt _ z) (by rw[xAt] at n;exact xCk (Nat.add_le_add_right n _) ()) last (i++(l++[pl])) ();have R2:=R.app r2 λk z=>by
   rcases xAj.mp z with z|z
   .exact .inl z
   .exact .inr<|xBt _<|xBw _ z
  have R2:RF _ _ _ _ [C] _ _ _ _:=⟨R2.sr,λq t=>R2.ar q<|xBt _ t,R2.lu,R2.ln,R2.lm,R2.ids,R2.kb⟩
  simp only[xAx,List.singleton_append,xC6] at R2;refine⟨_,_,_,_,_,(vx D (by rw[xAx];exact c2) r1.lu hi () () ()).up (),R2.up () (),?_⟩;rw[xCg<|show isset f pl y=true from hi] at m;have k2:Kl2.length<=(b.bps.filter λb=>isset f b.1 b.2).length:=k2;rw[m,xAo];simp only[xAb,xAo];lia
end
section
variable{f:Fd}{N:Str->Prop}{sc:C5}{d:Nat}{P:Pg}
theorem xI(h:Wf N sc d P):NPr f sc d P:=by
 induction h with
 |num _ _=>exact uA
 |nam h=>exact uB h
 |fn h hb l=>exact xG h.nd h.few l
 |call q h k a i2=>exact qN k a i2
 |lt c b hb a i2=>exact xF a i2
 |st c b a=>exact xE c a
 |dd b hb a i2=>exact xH a i2
 |iff b hb o a i2 i=>exact uD a i2 i
 |math p b hb a i2=>exact qL a i2
 |make n h k i2=>exact qM k i2
 |mat n c b hb o a i2 i=>exact uC c.nd c.few a i2 i
 |rai m b a=>exact uz a
 |try_ m c b hb a i2=>exact uy a i2
 |tell b a=>exact qK a
 |ask=>exact uE
end
section
variable{P:Pg}
def qR(ok:zGj P):∃(a:U) (us:C6) (np:C8) (M Kl:C7),RF [] 28 [] P.pls.length [a] us np M Kl/\Kl.length<=63/\∀{fw d:Nat}{S:So}{x:D6}{K:D5},(∀S',Kp S S'->K (.tup [.tup [.tup us,a],.tup<|np.map .int]) S')->(Gd fw<|d+70).call 31 [P.u] S x K:=by
 let⟨f,C,D,G⟩:=tx ok;have le:=ok.le;let⟨a,us,np,M,Kl,m,I,kl⟩:=eF (f:=f) (β:=λ_=>0) (kvs:=[]) (Z:=[]) (xI ok.wf) (λ_ z=>nomatch z) C ∅ true [] (by show 0+6*_<=_;lia);have m:BoC _ _ _ _ _ _ _ 60:=m;erw[<-⟨a,us,np,M,Kl,I,xCk kl<|A8 ok.wf ok.nd ok.ct D,λ{fw d S x K} F=>?_⟩,cd (d:=d+69) ⟨1,4,t31⟩,<-checked (d:=d+9) ok λS1 k1=>?_,pd (v:=.ref S1.length) (S':=S1++[.ins "Namer" []]) (by rfl),cd (d:=d+68) ⟨2,2,t22⟩,<-G.h (d:=d+48) λS2 q k2 J H=>?_];have k:=k2.ky<|zAx (l:=S1) (o:=Ob.ins "Namer" []);erw[pd (iM (fs':=[("set_ones",.ref q)]) k rfl rfl)];have i:=zAc (o':=Ob.ins "Namer" [("set_ones",.ref q)]) k;have n:at? (set S2 S1.length<|Ob.ins "Namer" [("set_ones",.ref q)]) q=some (.dtt f):=atK k H (λz=>nomatch z);have k3:Kp S1<|set S2 S1.length<|Ob.ins "Namer" [("set_ones",.ref q)]:=⟨by rw[zAf];have:=k2.len;rw[xAb] at this;lia,λz=>atN (by have:=zBi z;lia)<|k2.ky<|zAn z⟩
 generalize set S2 S1.length (Ob.ins "Namer" [("set_ones",.ref q)])=S3 at i n k3;erw[pd (v:=.ref S3.length) (S':=S3++[.lst []]) (by rfl)];have c:at? (S3++[Ob.lst []]) S1.length=some (.ins "Namer" [("set_ones",.ref q)]):=zAn i;erw[pd (iM (fs':=[("set_ones",.ref q),("places",.ref S3.length)]) c rfl rfl)];have L:=zBi i;have b:Nm S1.length q S3.length f []<|set (S3++[Ob.lst []]) S1.length<|.ins "Namer" [("set_ones",.ref q),("places",.ref S3.length)]:=⟨zAc c,atK c (zAn n) (λz=>nomatch z),atN ()<|zAx (l:=S3)⟩
 have k4:Kp S1<|set (S3++[Ob.lst []]) S1.length<|.ins "Namer" [("set_ones",.ref q),("places",.ref S3.length)]:=⟨by rw[zAf,xAb];have:=k3.len;lia,λz=>atN (by have:=zBi z;lia)<|zAn<|k3.ky z⟩
 have t:S1.length<=S3.length:=k3.len;generalize set (S3++[Ob.lst []]) S1.length (Ob.ins "Namer" [("set_ones",.ref q),("places",.ref S3.length)])=S4 at b k4;erw[pd (cm b.ob rfl),pd (v:=.ref S4.length) (S':=S4++[.dct []]) (by rfl)];have k5:Kp S4<|S4++[Ob.dct []]:=⟨⋯,λz=>zAn z⟩
 erw[<-m.h (d:=d+9) (b.kp k5) (zAx (l:=S4)) λS6 r p=>?_,pd (dB r.ob rfl),<-pd (v:=.tup<|np.map .int) (S':=S6) ?_ ?_]
 .show zA1 (.ref S3.length) S6=_;unfold zA1;dsimp only[lsU];rw[r.pl];rfl
 refine F S6 ⟨?_,λz=>p.ky ?_<|k5.ky<|k4.ky<|k1.ky z⟩
 .have:=k1.len;have:=k4.len;have:=k5.len;have:=p.len;lia
 .have:=zBi<|k1.ky z;lia
theorem rC{k:Nat}:∀{l:C7},k∈l->(zAu k<|l.map λj=>(j,U.non)).isSome=true
 |j::r,h=>by
  rw[xBs,zAu];split
  .rfl
  .next e=>exact rC ((xAv.mp h).resolve_left λz=>e z.symm)
def zDd{D Kl:C7}(a:D.Nodup)(h:∀k∈D,k∈Kl):D.length<=Kl.length:=by
 have:=i8 (f:=Kl.map λj=>(j,U.non)) a λk b=>rC<|h k b
 rwa[xAa] at this
end
section
variable{fw d p s:Nat}{S S':So}{x x':Sx}{xx:D6}{K:D5}{us:C6}{c j k lv:Nat}
structure Hs(p s:Nat)(x:Sx)(us:C6)(S:So):Prop where
 st:at? S p=some (.dct x.kv)
 ls:at? S s=some (.lst us)
 ne:p≠s
 ok:x.ok
def tkH{m:Int}(h:Hs p s x us S)(b:0<m/\m<=10^18)(i:∀(j:Nat)(x':Sx)(S':So),(j:Int)<m->Hs p s x' us S'->Pd p s S S'->K (.int (j:Int)) S'):(Gd fw<|d+1).call 35 [.ref p,.int m] S xx K:=by
 erw[(cu h.ok b).h h.st];have l:=x.dg_lt b.1;let⟨j,e⟩:=Int.eq_ofNat_of_zero_le l.1;rw[e] at l⊢;exact i j (x.tk m) _ l.2 ⟨zAc h.st,atN h.ne h.ls,h.ne,x.tk_ok h.ok b.1⟩ ⟨by rw[zAf];exact xAg _,λa _ z=>atN (Ne.symm a) z⟩
structure HS(c j lv:Nat)(us:C6):Prop where
 l:us.length<=j
 m:∃M,zB3 0 (c*j) us M lv/\M.length<=c*j/\∀k∈M,k<50
def HS.skip(h:HS c j lv us):HS c (j+1) lv us:=by
 let⟨M,a,b,e⟩:=h.m;have:c*j<=c*(j+1):=Nat.mul_le_mul_left _<|Nat.le_succ _;exact⟨Nat.le_succ_of_le h.l,M,a.wide ()<|xBn _,(),e⟩
def HS.add{w:Str}{to:Nat}{r:C6}{bs:B7<|C7×U}(h:HS c j lv us)(s:Sh w to r own bs)(b:BsP 0 hi bs M lv)(hb:bs.length<=2)(o:hi+1<=c)(n:own.length+M.length<=c)(i:∀k∈own,k<50)(hM:∀k∈M,k<50):HS c (j+1) lv<|us++[.tup<|.str w::.int (to:Int)::r]:=by
 let⟨M0,a,l,e⟩:=h.m;have q:c*(j+1)=c*j+c:=Nat.mul_succ c j;refine⟨by rw[xAb,xAt];have:=h.l;lia,M0++(own++M),a.app ((zB3.one s b hb).wide () ()),?_,λk hk=>?_⟩
 .rw[xAb,xAb];lia
 .rcases xAj.mp hk with hk|hk
  .exact e k hk
  .exact(xAj.mp hk).elim (i k)<|hM k
def cc:Nat->Nat
 |0=>1
 |k+1=>2*(6*cc k)+1
def hb(us:C6):U:=.tup [.tup us,.tup [.str "name",.int 57]]
structure HdC(k:Nat):Prop where
 h:∀{fw d p:Nat}{S:So}{x:Sx}{xx:D6}{K:D5},x.ok->at? S p=some (.dct x.kv)->(∀(us:C6)(x':Sx)(S':So),x'.ok->HS (cc k) 6 (2*k) us->at? S' p=some (.dct x'.kv)->Pc p S S'->K (hb us) S')->(Gd fw (d+(k+2))).call 49 [.ref p,.int (k:Int)] S xx K
def hdH(m:HdC k)(h:Hs p s x us S)(l:∀(b:C6)(x':Sx)(S':So),HS (cc k) 6 (2*k) b->Hs p s x' us S'->Pd p s S S'->K (hb b) S'):(Gd fw<|d+(k+2)).call 49 [.ref p,.int (k:Int)] S xx K:=
 m.h h.ok h.st λb x' S' ok q g i=>l b x' S' q ⟨g,i.ky (Ne.symm h.ne) h.ls,h.ne,ok⟩ ⟨i.len,λa _ z=>i.ky a z⟩
def Pd.app{v:U}{r q:Nat}(h:Pd r q S S'):Pd r q S<|Fx.set S' q<|.lst<|us++[v]:=⟨by rw[zAf];exact h.len,λa b z=>atN (Ne.symm b)<|h.ky a b z⟩
def Hs.app{v:U}(h:Hs p s x us S):Hs p s x (us++[v])<|Fx.set S s<|.lst<|us++[v]:=⟨atN (Ne.symm h.ne) h.st,zAc h.ls,h.ne,h.ok⟩
def b1{xs:C7}{i:C6}(h:HS (cc k) 6 (2*k) i)(n:k<=2):∃M,BsP 0 (6*cc k) [(xs,hb i)] M (2*(k+1))/\M.length<=6*cc k/\∀z∈M,z<50:=by
 let⟨M,a,b,e⟩:=h.m;rw[Nat.mul_comm] at a b;have l:6*cc k<=1000:=by match k,n with|0,_=>decide|1,_=>decide|2,_=>decide
 have q:=BsP.cons (j:=0) (xs:=xs) (a:=.tup [.str "name",.int 57]) a .nil ();rw[xB0] at q;exact⟨M,q,b,e⟩
theorem b2{xs ys:C7}{n i:C6}(h:HS (cc k) 6 (2*k) n)(C:HS (cc k) 6 (2*k) i)(v:k<=2):∃M,BsP 0 (2*(6*cc k)) [(xs,hb n),(ys,hb i)] M (2*(k+1))/\M.length<=2*(6*cc k)/\∀z∈M,z<50:=by
 let⟨M,a,b,e⟩:=h.m;let⟨M2,r,b2,e2⟩:=C.m;rw[Nat.mul_comm] at a b r b2;have l:6*cc k<=1000:=by match k,v with|0,_=>decide|1,_=>decide|2,_=>decide
 have q:=BsP.cons (lo:=6*cc k) (j:=0) (xs:=ys) (a:=.tup [.str "name",.int 57]) (r.wide (lo':=6*cc k+0) (hi':=2*(6*cc k)) () ()) .nil ();have o:=BsP.cons (j:=0) (xs:=xs) (a:=.tup [.str "name",.int 57]) a q ();rw[xB0] at o;exact⟨M++M2,o,by rw[xAb];lia,λz t=>(xAj.mp t).elim (e z)<|e2 z⟩
end
def wR{k:Nat}:pr ups .gt [.int ((k+1:Nat):Int),.int 0] S=.ok (.bl true) S:=by
 show Res.ok (.bl<|decide<|(0:Int)<((k+1:Nat):Int)) S=_;rw[xBd ()]
def tN{S:So}{k:Nat}:pr ups .sub [.int ((k+1:Nat):Int),.int 1] S=.ok (.int (k:Int)) S:=by
 show Res.ok (.int<|((k+1:Nat):Int)-1) S=_;rw[show(((k+1:Nat):Int)-1)=(k:Int) by lia]
local macro_rules | `(tactic| walk_at "w")=>`(tactic| repeat first | refine bT ?_ | refine bF ?_ | refine pd wR ?_ | refine pd tN ?_ | refine pd (cE (by assumption)) ?_ | refine pd (by rfl) ?_)
section
variable{fw d p s:Nat}{S S':So}{x x':Sx}{us:C6}{j k lv:Nat}{E:Ee Prop}{a4 a5 a6:B8 U}
def Nx(E:Ee Prop)(p s k j:Nat)(us:C6)(S:So):Prop:=∀a x' S' a4 a5 a6,Hs p s x' a S'->HS (cc k) (j+1) (2*k) a->Pd p s S S'->E.nx [some<|.ref p,some<|.int (k:Int),some<|.ref s,some<|.int (j:Int),a4,a5,a6] S'
def fin{a:Sx}{w:Str}{to:Nat}{r:C6}{bs:B7<|C7×U}(o:Nx E p s k j us S)(q:HS (cc k) j (2*k) us)(t:Hs p s a us S2)(p2:Pd p s S S2)(c:Sh w to r own bs)(b:BsP 0 hi bs M<|2*k)(hb:bs.length<=2)(m:hi+1<=cc k)(l:own.length+M.length<=cc k)(i:∀k∈own,k<50)(n:∀k∈M,k<50):E.nx [some<|.ref p,some<|.int (k:Int),some<|.ref s,some<|.int (j:Int),a4,a5,a6]<|Fx.set S2 s<|.lst<|us++[.tup<|.str w::.int (to:Int)::r]:=
 o _ _ _ _ _ _ t.app (q.add c b hb m l i n) p2.app
def cc1:1<=cc k:=by cases k <;> (unfold cc;lia)
theorem turn(T:∀m,k=m+1->HdC m)(Z:k<=3)(h:Hs p s x us S)(q:HS (cc k) j (2*k) us)(hj:j<=6)(r:Nx E p s k j us S):bdH (Gd fw<|d+(k+1)) [some<|.ref p,some<|.int (k:Int),some<|.ref s,some<|.int (j:Int),a4,a5,a6] S E:=by
 have F:us.length+1<=sizeLine:=by have:=q.l;show _<=2^24;lia
 erw[pd (fD (a:=100) (b:=k) (by unfold sml;decide)<|by unfold sml;lia),pv (.int<|100*(k:Int)+j)];rw[show(100*(k:Int)+j)=((100*k+j:Nat):Int) by lia];refine tkH (d:=d+k) h ∅ λw W S1 O o p1=>?_;have O:w<7:=by lia
 have Y:=o.ls;have H:=cc1 (k:=k);match w,O with
 |0,_=>
  walk_at"w"
  erw[<-tkH (d:=d+k) o ∅ λi G S2 hi c p2=>?_,pd (cH c.ls F)];exact fin r q c (p1.trans p2) (.start (a:=.tup [.str "number",.int 1]) (p:=3)) .nil ∅ H H (λz L=>by rw[xAm.mp L];lia) λ_ z=>nomatch z
 |1,_=>
  walk_at"w"
  erw[<-tkH (d:=d+k) o ∅ λi G S2 hi c p2=>?_,pd (cH c.ls F)];exact fin r q c (p1.trans p2) .read .nil ∅ H H (λz L=>by rw[xAm.mp L];lia) λ_ z=>nomatch z
 |2,_=>
  walk_at"w"
  erw[<-tkH (d:=d+k) o ∅ λi G S2 hi c p2=>?_,pd (cH c.ls F)];exact fin r q c (p1.trans p2) (.set (a:=.tup [.str "name",.int 51]) (p:=4)) .nil ∅ H H (λz L=>by rw[xAm.mp L];lia) λ_ z=>nomatch z
 |w+3,O=>
  cases k with
  |zero=>match w,O with
   |0,_=>walk_at"w";exact r _ _ _ _ _ _ o q.skip p1
   |1,_=>walk_at"w";exact r _ _ _ _ _ _ o q.skip p1
   |2,_=>walk_at"w";exact r _ _ _ _ _ _ o q.skip p1
   |3,_=>walk_at"w";exact r _ _ _ _ _ _ o q.skip p1
  |succ k=>
   have n:=T k rfl;have e2:cc (k+1)=2*(6*cc k)+1:=rfl;match w,O with
   |0,_=>
    walk_at"w"
    refine hdH (d:=d) n o λC G S2 D c p2=>?_;walk_at"w"
    refine hdH (d:=d) n c λI R S3 J v K=>?_;let⟨M,b,Q,eM⟩:=b2 (xs:=[]) (ys:=[]) D J ();erw[pd (cH v.ls F)];exact fin r q v (p1.trans<|p2.trans K) (.iff (a:=.tup [.str "name",.int 52]) (p:=5)) b (by show 2<=2;decide) () (by show 0+M.length<=_;lia) (λ_ z=>nomatch z) eM
   |1,_=>
    walk_at"w"
    refine hdH (d:=d) n o λC G S2 D c p2=>?_;let⟨M,b,Q,eM⟩:=b1 (xs:=[53]) D ();erw[pd (cH c.ls F)];exact fin r q c (p1.trans p2) (.func (xs:=[53]) (p:=6)) b (by show 1<=2;decide) () (by show 0+M.length<=_;lia) (λ_ z=>nomatch z) eM
   |2,_=>
    walk_at"w"
    refine hdH (d:=d) n o λC G S2 D c p2=>?_;walk_at"w"
    refine hdH (d:=d) n c λI R S3 J v K=>?_;let⟨M,b,Q,eM⟩:=b2 (xs:=[]) (ys:=[54]) D J ();erw[pd (cH v.ls F)];exact fin r q v (p1.trans<|p2.trans K) (.try_ (t:="a") (j:=54) (p:=7)) b (by show 2<=2;decide) () (by show 0+M.length<=_;lia) (λ_ z=>nomatch z) eM
   |3,_=>
    walk_at"w"
    refine hdH (d:=d) n o λC G S2 D c p2=>?_;have X:=c.ls;walk_at"w"
    refine hdH (d:=d) n c λI R S3 J v K=>?_;let⟨M,b,Q,eM⟩:=b2 (xs:=[55,56]) (ys:=[]) D J ();erw[pd (cH v.ls F)];exact fin r q v (p1.trans<|p2.trans K) (.mat (a:=.tup [.str "number",.int 0]) (t:="b") (xs:=[55,56]) (p:=8)) b (by show 2<=2;decide) () (by show 0+M.length<=_;lia) (λ_ z=>nomatch z) eM
end
section
variable{fw d p s:Nat}{S S':So}{x:Sx}{us:C6}{k:Nat}{E:Ee Prop}
def tM{g:Nat}{a:C6}(h:at? S g=some (.lst a)):pr ups .tupOf [.ref g] S=.ok (.tup a) S:=by
 show zA1 (.ref g) S=_;unfold zA1;dsimp only[lsU];rw[h]
theorem vO{kk:Sg->So->Prop}(l:∀m,k=m+1->HdC m)(i:k<=3):∀{n j:Nat}{S:So}{x:Sx}{us:C6}{a3 a4 a5 a6:B8 U},j+n<=6->Hs p s x us S->HS (cc k) j (2*k) us->(∀a x' S' a3 a4 a5 a6,Hs p s x' a S'->HS (cc k) (j+n) (2*k) a->Pd p s S S'->kk [some<|.ref p,some<|.int (k:Int),some<|.ref s,a3,a4,a5,a6] S')->zA4 (zBx (j:Int) n) (λv σ1 S2 nx=>tgt [3] true (Gd fw<|d+(k+1)) v σ1 λσ2=>bdH (Gd fw<|d+(k+1)) σ2 S2<|lpE E nx) [some<|.ref p,some<|.int (k:Int),some<|.ref s,a3,a4,a5,a6] S kk
 |0,j,S,x,us,a3,a4,a5,a6,_,h,q,c=>c us x S a3 a4 a5 a6 h q ⟨xAg _,λ_ _ z=>z⟩
 |n+1,j,S,x,us,a3,a4,a5,a6,H,h,q,c=>by
  rw[zBx,zA4];erw[<-turn l i h q () λr G S1 a4 a5 a6 F C p1=>?_,<-vO l i (n:=n) (j:=j+1) () F C λb o S2 a3 a4 a5 a6 D t p2=>?_];exact c b o S2 a3 a4 a5 a6 D (by rw[show j+(n+1)=j+1+n by lia];exact t)<|p1.trans p2
def HS.up{c i:Nat}(h:HS c j lv us)(l:j<=i):HS c i lv us:=by
 let⟨M,a,b,e⟩:=h.m;have:=Nat.mul_le_mul_left c l;exact⟨xCk h.l l,M,a.wide ()<|xBn _,(),e⟩
def jd(F:∀m,k=m+1->HdC m)(D:k<=3):HdC k:=⟨λ{fw d p S x xx K} ok l G=>by
 erw[cd (d:=d+(k+1)) ⟨2,7,t49⟩,pd (v:=.ref S.length) (S':=S++[.lst []]) (by rfl)];have lp:=zBi l;have r:Hs p S.length x []<|S++[.lst []]:=⟨zAn l,zAx,(),ok⟩
 have k0:Pc p S<|S++[Ob.lst []]:=⟨⋯,λ_ z=>zAn z⟩
 generalize S++[Ob.lst []]=S0 at r k0;refine tkH (d:=d+k) r ∅ λn I S1 J H p1=>?_;refine pd (gB ()) ?_;rw[xC3];refine vO (d:=d) F D (n:=n) (j:=0) () H ⟨xAg _,[],.nil,xAg _,λ_ z=>nomatch z⟩ λb t S2 a3 a4 a5 a6 c C p2=>?_;refine pd (tM c.ls) ?_;have i:=p1.trans p2;exact G b t S2 c.ok (C.up ()) c.st ⟨xCk k0.len i.len,λ{q o} a z=>i.ky a (by have:=zBi z;lia)<|k0.ky a z⟩⟩
def hd3:HdC 3:=by
 have c:HdC 0:=jd (λm e=>()) ∅;have b:HdC 1:=jd (λm e=>by cases e;exact c) ∅;have a:HdC 2:=jd (λm e=>by cases e;exact b) ∅;exact jd (λm e=>by cases e;exact a) ∅
end
section
variable{fw d lv:Nat}{S:So}{x:D6}{K:D5}{us:C6}{M MB L:C7}{a:U}{w q m:Nat}{E:Ee Prop}
theorem jT:∀{l:C7},zCa (nu l)=some (l.map λi:Nat=>(i:Int))
 |[]=>rfl
 |a::l=>by
  show(zCa<|nu l).map _=_;rw[jT];rfl
def iX:(lof MB).Nodup:=by
 unfold lof;have e:(zCf ((zBs [] MB).map λk:Nat=>(k:Int))).Nodup:=cR.nodup_iff.mpr (List.pairwise_map.mpr<|(eO (l:=MB) xC7).imp λh z=>h<|Int.ofNat.inj z);refine List.pairwise_map.mpr (e.imp_of_mem λ{x y} c b h z=>h ?_);let⟨i,_,rfl⟩:=iE c;let⟨j,_,rfl⟩:=iE b;exact congrArg _ z
def wO(h:at? S m=some (.lst<|nu M))(c:∀k,k∈MB↔k∈M)(p:∀k∈M,k<4000)(o:(lof MB).length<=63):pr ups .srs [.ref m] S=.ok (.lst<|nu<|lof MB) S:=by
 have e:(lsT S<|.ref m).bind zCa=some (M.map λi:Nat=>(i:Int)):=by
  rw[show lsT S (.ref m)=some (nu M) by show(match at? S m with|some (.lst xs)=>some xs|_=>none)=_;rw[h]];exact jT
 have pm:(unq (M.map λi:Nat=>(i:Int))).Perm ((zBs [] MB).map λk:Nat=>(k:Int)):=by
  refine(List.perm_ext_iff_of_nodup iB<|List.pairwise_map.mpr<|(eO (l:=MB) xC7).imp λh z=>h<|Int.ofNat.inj z).mpr λz=>?_;rw[fe,xA2,xA2];constructor
  .rintro⟨k,b,rfl⟩
   exact⟨k,c7.mpr<|.inr<|(c k).mpr b,rfl⟩
  .rintro⟨k,b,rfl⟩
   exact⟨k,(c k).mp ((c7.mp b).resolve_left λz=>nomatch z),rfl⟩
 have r:(lof MB).length=(unq (M.map λi:Nat=>(i:Int))).length:=by
  unfold lof;rw[xAa,cR.length_eq,<- pm.length_eq]
 show(match(lsT S<|.ref m).bind zCa with|some ns=>(match decide ((∀z∈ns,0<=z/\z<4000)/\(unq ns).length<64) with|true=>Res.ok (.lst<|(zCf<|unq ns).map .int) S|false=>.stuck)|none=>.stuck)=_;rw[e];dsimp only;rw[xBd ⟨λz n=>by let⟨k,b,rfl⟩:=xA2.mp n;have:=p k b;lia,()⟩];dsimp only;rw[<- iY (D:=zBs [] MB) (M:=MB) (eO xC7) (λk=>by rw[c7];simp),fY (cR.trans pm) fX]
def Ak(h:at? S q=some (.lst<|nu L)):pr ups .ne [.ref q,.lst<|nu L] S=.ok (.bl false) S:=by
 show Fx.neU (.ref q) (.lst<|nu L) S=_;unfold Fx.neU;have e:lsT S (.ref q)=some (nu L):=by show(match at? S q with|some (.lst xs)=>some xs|_=>none)=_;rw[h]
 rw[show eqS (.ref q) (.lst<|nu L)=none from rfl];dsimp only;rw[e,show zE0 (some<|nu L) (lsT S<|.lst<|nu L)=false by show(!Nat.beq (nu L).length (nu L).length)=false;rw[Nat.beq_refl];rfl];dsimp only;rw[show same S 80 (.ref q) (.lst<|nu L)=true by
  show(match lsT S (.ref q),lsT S (.lst<|nu L) with|some xs,some ys=>zA7 (same S 79) xs ys|_,_=>_)=true;rw[e];refine gw λz b=>?_;unfold nu at b;let⟨i,_,rfl⟩:=xA2.mp b;exact pJ .int]
theorem mJ{a0 a1 l:B8 U}{kk:Sg->So->Prop}(h:at? S q=some (.lst<|nu L))(k:∀a4,kk [a0,a1,l,some<|.ref q,a4] S):∀{n i:Nat}{a4:B8 U},i<=L.length->L.length<n+i->zBm q (λv σ1 S2 nx=>tgt [4] true (Gd fw d) v σ1 λσ2=>bdL (Gd fw d) σ2 S2<|lpE E nx) (Gd fw d).fail n i [a0,a1,l,some<|.ref q,a4] S kk
 |0,i,a4,b,c=>absurd c ()
 |n+1,i,a4,b,c=>by
  rw[zBm,h];dsimp only;by_cases hi:i<L.length
  .rw[show(nu L)[i]?=some (.int ((L[i]:Nat):Int)) by unfold nu;rw[xAw,xAk hi];rfl];dsimp only;erw[pv (.bl false),bF,pv (.bl true),bF,<-mJ h k (n:=n) (i:=i+1) () ()]
  .rw[show(nu L)[i]?=none by unfold nu;rw[xAw,List.getElem?_eq_none ()];rfl];exact k a4
end
section
variable{fw d lv:Nat}{S:So}{x:D6}{K:D5}{us:C6}{M MB L:C7}{a:U}{w q m:Nat}{E:Ee Prop}
structure BdO(us:C6)(a:U)(M:C7)(lv:Nat):Prop where
 me:MeB (.tup [.tup us,a]) M lv
 b:∃MB w,Bf [([],.tup [.tup us,a])] MB w/\w<=30000/\MB.length<=20000/\(∀k,k∈MB↔k∈M)
 h4:∀k∈M,k<4000
 h63:∀D:C7,D.Nodup->(∀k∈D,k∈M)->D.length<=63
def bdo(s:zB3 0 m us M lv)(r:m<=14000)(t:M.length<=m)(i:∀k∈M,k<4000)(b:∀D:C7,D.Nodup->(∀k∈D,k∈M)->D.length<=63):BdO us a M<|lv+2:=by
 let⟨ins,o,p,wi,c,l,e,v,n⟩:=s.bf;have B:=Bf.cons (xs:=[]) (a:=a) c l .nil;rw[xB0] at B;exact⟨vI s.me (),⟨_,_,B,(),(),λk=>(e k).symm⟩,i,b⟩
def zE1{p:B8 U}(l:40000<=fw)(o:BdO us a M lv)(H:a0=some (.tup [.tup us,a]))(n:∀k,k∈MB↔k∈M)(C:∀S' a3 a4,Kp S S'->E.nx [a0,some<|.lst<|nu<|lof MB,p,a3,a4] S'):bdR (Gd fw<|d+3) [a0,some<|.lst<|nu<|lof MB,p,a3,a4] S E:=by
 let⟨MB2,w,B,t,F,i⟩:=o.b;subst H;have J:=o.h63 (lof MB) iX λk z=>(n k).mp<|gh.mp z;have G:lof MB2=lof MB:=by
  have h:=(iY (D:=lof MB) (M:=MB) iX λk=>gh).symm.trans (iY (D:=lof MB) (M:=MB2) iX λk=>by rw[gh,n k,i k]);have inj:∀{a b:C7},nu a=nu b->a=b:=λ{a b} h=>by
   unfold nu at h;exact(List.map_inj_right λx y z=>by injection z with z;exact Int.ofNat.inj z).mp h
  exact(inj h).symm
 refine zj (d:=d) B t F (λD r h=>o.h63 D r λk z=>(i k).mp<|h k z) l λS1 q k1 I c=>?_;rw[G] at c;refine pd (v:=.bl true) (S':=S1) ?_ ?_
 .delta pr;dsimp only[tyU];rw[c];rfl
 erw[bF,pd (Ak c),bF];show zBm q (λv σ1 S2 nx=>tgt [4] true (Gd fw<|d+3) v σ1 λσ2=>bdL (Gd fw<|d+3) σ2 S2 _) (Gd fw<|d+3).fail (Gd fw<|d+3).fuel 0 _ S1 _;rw[fuel];erw[<-mJ c (λa4=>?_) (xBn _) (),pd (cE c),pd (cH c<|by unfold nu;rw[xAa];show _<=2^24;lia)];exact C _ _ _ ⟨by rw[zAf];exact k1.len,λz=>atN (by have:=zBi z;lia)<|k1.ky z⟩
def gD(c:40000<=fw)(o:BdO us a M<|lv+3)(n:∀S',K (.bl true) S'):(Gd fw<|d+(lv+4)).call 50 [.tup [.tup us,a]] S x K:=by
 let⟨MB,w,B,t,v,i⟩:=o.b;erw[cd (d:=d+(lv+3)) ⟨1,5,t50⟩,<-o.me.h (d:=d) λS1 m k1 p l=>?_,pd (wO l i o.h4<|o.h63 (lof MB) iX λk z=>(i k).mp<|gh.mp z),pd (gB ∅),<-zE1 (d:=d+lv) c o rfl i λS2 a3 a4 k2=>?_,<-zE1 (d:=d+lv) c o rfl i λS3 a3 a4 r=>?_,<-n S3]
def zFc{c s:Int}(i:∀b:Sx,b.ok->K (.ref S.length) (S++[.dct b.kv])):(Gd fw<|d+1).call 34 [.int c,.int s,.int 1,.int 0] S x K:=by
 erw[cd ⟨4,5,t34⟩,pv (.int (-1)),pv (.int (-1-c)),pv (.int<|if -1-c>c then -1-c else c),pd (cD ∅),pd (cD ∅),pd (v:=.ref S.length) (S':=S++[.dct (⟨if -1-c>c then -1-c else c,s%2147483646,1,0,0%600⟩:Sx).kv]) (by rfl),<-i _ ⟨?_,xBa _ ∅,?_⟩]
 .show 0<=(if -1-c>c then -1-c else c);split <;> lia
 .show s%2147483646<2147483647;have:=xBb s (show(0:Int)<2147483646 by decide);lia
def xW(xs:C8)(b:40000<=fw){x:D6}:(Gd fw<|d+71).call 51 [.kl<|xs.map .int] S x λv _=>v=.bl true:=by
 let⟨P,ok,B⟩:=tL xs;let⟨a,us,o,M,Kl,R,C,N⟩:=qR ok;have H:=R.ln;have le:=ok.le;have b1:=R.kb;rw[List.length_nil] at b1;have o1:BdO us a M<|27+3:=bdo R.sr (m:=0+o.length) () (by have:=R.lm;lia) (λk c=>by have:=b1 k<|(R.ids k c).resolve_left λz=>nomatch z;lia) λD i h=>xCk (zDd i λk z=>(R.ids k<|h k z).resolve_left λz=>nomatch z) C;have o3:BdO [] (.tup [.str "number",.int 3]) []<|27+3:=bdo (m:=0) (lv:=28) .nil ∅ ∅ (λ_ z=>nomatch z) λD i h=>by
  cases D with
  |nil=>decide
  |cons k r=>exact nomatch h k (xAr ..)
 erw[cd (d:=d+70) ⟨1,4,t51⟩,<-B (d:=d+20) λS1 k1=>?_,<-N (d:=d) λS2 k2=>?_,pd bz,dz (k:=3) (d:=d+69),dz (k:=4) (d:=d+69),pd (cD ∅),pv (.int<|1+xs.getD 4 0%2147483645),<-zFc (d:=d+69) λG l=>?_,<-hd3.h (d:=d+65) l zAx λt F S3 _ q _ _=>?_];let⟨M2,n,p,e2⟩:=q.m;have o2:BdO t (.tup [.str "name",.int 57]) M2<|5+3:=bdo (m:=cc 3*6) (lv:=6) n ∅ p (λk c=>by have:=e2 k c;lia) λD i h=>by
  have:=zDd (Kl:=List.range 50) i λk c=>List.mem_range.mpr<|e2 k<|h k c;rw[List.length_range] at this;lia
 erw[<-gD (d:=d+61) b o2 λS4=>?_,bT,<-gD (d:=d+39) b o1 λS5=>?_,bT,<-gD (d:=d+39) b o3 λS6=>?_];rfl
def math:∀ns:C8,ns.length<=63->(zA2 ups tab 1000000<|80+1).call 51 [.kl<|ns.map U.int] [] (λ_ _=>False) (λv _=>v=.bl true):=λns _=>by
 have:=xW ns (fw:=1000000) (d:=10) ∅ (S:=[]) (x:=λ_ _=>False);rw[iw] at this;exact this
end
def walk{l:PySem.W.OpenLaw}{q:Program}{c:C5}{XP:(Str->B8 B9)->Heap->Prop}{YP:World->Heap->Prop}{d:DefRec}{K:Params->xFr}(o:l.most=some 63)(i:d.params.defaults=[])(r:∀(w:World)(h:Heap),YP w h->(K w.params).In h)(F:∀(w:World)(mg:Str->B8 B9)(fa:C3)(h:Heap),(K w.params).In h->h.Ns mainGlobals mg->mg d.name=some (.ref fa) ->
   ∃m:FuncData,(∀(s:B')(u:B9),BindsTo s m ⟨[u],[]⟩ [("_law_script",u)])/\∀b:Heap,(K w.params).In b->b.Ns mainGlobals mg->zBb l.prog w (K w.params) mg b (CXz l.prog w) (2*(80+1)+1) fa m ["_law_script"] (zDi (K w.params) 63)) :
  PySem.W.WalkO q c XP YP l.row.toRowW d [] (λf vs=>PySem.call f vs):=
 L2.walk_of (n:=63) (k:=2*(80+1)+1) (x:="_law_script") (CX:=λw=>CXz l.prog w) (sp:=λw=>zDi (K w.params) 63) o ∅ i ⟨rfl,∅,∅,rfl⟩ r F (λ_ _ a ns p _ t=>⟨a,ns,rfl,p,t,λ_=>rfl⟩) λ_ _ _ _ _ z=>z
end K31
end
namespace PySem.W.Fast
noncomputable abbrev tw12792777231840341894:PySem.Program:=PySem.Challenge.pw_spacewright_k31_names_that_are_set
theorem te12792777231840341894:PySem.Challenge.pw_spacewright_k31_names_that_are_set=tw12792777231840341894:=rfl
theorem te13052408679150730464:True:=⟨⟩
theorem te2469009164876924479:True:=⟨⟩
theorem te16555476440528808052:True:=⟨⟩
theorem te4868988410673395695:True:=⟨⟩
theorem te5452508617037859911:True:=⟨⟩
end PySem.W.Fast
open Fx in
set_option maxHeartbeats 0 in
open PySem PySem.W PyProof.Rows in
theorem PySem.Challenge.cw_spacewright_k31_names_that_are_set_holds : PySem.Challenge.rw_spacewright_k31_names_that_are_set.Holds := by
  w_on;o_law;k_head;(case hw=>w_witness2);k_fill
  refine K31.walk (l := PySem.Challenge.rw_spacewright_k31_names_that_are_set) rfl rfl (fun w h Y=>PySem.W.kIn_of Y) ?F;case F =>
    intro w mg fa h KX G hmg;refine' K31.all_mk KX G hmg (K31.csr ..) ?_ (K31.csr ..) ?_ ?_ ?_ ?_ ?_ ?_ ?_ ?_ ?_ (dnr ..) (dnr ..) (dnr ..) (dnr ..) (dnr ..) (dnr ..) (dnr ..) (dnr ..) (dnr ..) (dnr ..) (dnr ..) (dnr ..) (mdr ..) (mdr ..) (mdr ..) (mdr ..) (dnr ..) (dnr ..) (dnr ..) (dnr ..) (dnr ..) (dnr ..) (mdr ..) (mdr ..) (mdr ..) (mdr ..) (mdr ..) (mdr ..) (mdr ..) (mdr ..) (dnr ..) (dnr ..) (dnr ..) (dnr ..) (dnr ..) (dnr ..) (dnr ..) (dnr ..) (dnr ..) (dnr ..) (dnr ..) (dnr ..) (dnr ..) (dnr ..) (dnr ..) (dnr ..) (dnr ..) (dnr ..) (dnr ..) (dnr ..) (dnr ..) (dnr ..) ?_ ?_ ?_ ?_ ?_ ?_ (K31.tup_is ?_ ?_ ?_) ?_ (K31.tup_is ?_ ?_ ?_) ?_ ?_ ?gkFORMS ?goFORMS ?_ ?_ (K31.tup_is ?_ ?_ ?_) ?_ (K31.tup_is ?_ ?_ ?_) ?_ (K31.tup_is ?_ ?_ ?_) ?_ (K31.tup_is ?_ ?_ ?_) ?_ (K31.tup_is ?_ ?_ ?_) ?_ (K31.tup_is ?_ ?_ ?_) ?_ (K31.tup_is ?_ ?_ ?_) ?_ (K31.tup_is ?_ ?_ ?_) ?_ (K31.tup_is ?_ ?_ ?_) ?_ (K31.tup_is ?_ ?_ ?_) ?_ (K31.tup_is ?_ ?_ ?_) ?_ (K31.tup_is ?_ ?_ ?_) ?_ (K31.tup_is ?_ ?_ ?_) ?_ (K31.tup_is ?_ ?_ ?_) ?_ (K31.tup_is ?_ ?_ ?_) ?_ ?_ ?gkSCOPES ?goSCOPES ?_ ?_ (K31.tup_is ?_ ?_ ?_) ?_ (K31.tup_is ?_ ?_ ?_) ?_ (K31.tup_is ?_ ?_ ?_) ?_ (K31.tup_is ?_ ?_ ?_) K31.math;any_goals k_is
    (case gkFORMS=>exact ⟨⟨_,_,rfl,rfl⟩,⟨_,_,rfl,rfl⟩,⟨_,_,rfl,rfl⟩,⟨_,_,rfl,rfl⟩,⟨_,_,rfl,rfl⟩,⟨_,_,rfl,rfl⟩,⟨_,_,rfl,rfl⟩,⟨_,_,rfl,rfl⟩,⟨_,_,rfl,rfl⟩,⟨_,_,rfl,rfl⟩,⟨_,_,rfl,rfl⟩,⟨_,_,rfl,rfl⟩,⟨_,_,rfl,rfl⟩,⟨_,_,rfl,rfl⟩,⟨_,_,rfl,rfl⟩,True.intro⟩)
    (case goFORMS=>rfl)
    (case gkSCOPES=>exact ⟨⟨_,_,rfl,rfl⟩,⟨_,_,rfl,rfl⟩,⟨_,_,rfl,rfl⟩,⟨_,_,rfl,rfl⟩,True.intro⟩)
    (case goSCOPES=>rfl)
    all_goals first | kernel_rfl | decide | (repeat' first | exact .nil | refine .cons ⟨_, rfl⟩ ?_)
