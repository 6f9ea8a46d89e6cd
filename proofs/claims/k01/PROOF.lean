import PyProof.Rows.All
import Wide.All
import OpenK.AllK
import Wide.FinOn
import PyProof.EqAt
import PyProof.EqKinds
import PyProof.NeKinds
import PyProof.TupleCall
import PyProof.SetKind
import PyProof.DictKinds
import PyProof.MeetsSeq2
import PyProof.SetRoads
import PyProof.SetNew
import PyProof.Rows.SetFrom
import KE.KDictList
import PyProof.Rows.SortWalk
import KE.KDictSum
import PyProof.EnumFor
import PyProof.EnumStmt
import PyProof.EnumMake
import KE.KRevIter
import PyProof.Draws
import PyProof.CollectIter
import PyProof.TupleOfGen
import PyProof.TupleOps
import KE.KEqDict
import PyProof.WalkInts
import PyProof.PureStr
import PyProof.Rows.StrJoin2
import PyProof.StrCalls2
import PyProof.ConsumeWalk
import KE.KIntText
import PyProof.DictUpdate
import PyProof.FString
import PyProof.StrOps2
import PyProof.SliceStr2
import PyProof.StrBlockI
import PyProof.StrWalks
import OpenK.KTop
import PyProof.ZipIter
import PyProof.StrLawsTight
import PyProof.StrLawsRepr
import KE.KSortTup
import PySem.Challenge.RW_spacewright_k01_what_is_a_program
set_option tactic.hygienic false
set_option compiler.extract_closed false
set_option genInjectivity false
set_option genSizeOf false
set_option bootstrap.genMatcherCode false
set_option Elab.async false
set_option linter.all false
set_option maxRecDepth 100000
set_option maxHeartbeats 4000000
local macro_rules|`(())=>`(by lia)
local macro_rules|`(∅)=>`(by decide)
local macro_rules|`(⋯)=>`(by simp)
def zzP:Nat->Lean.Term->Lean.MacroM (Lean.TSyntax `rcasesPat)
 |0,_=>Lean.Macro.throwUnsupported
 |n+1,t=>do
  match t with
  |`(⟨$xs,*⟩)=>
   let ys<-xs.getElems.mapM (zzP n)
   `(rcasesPat|⟨$[$ys:rcasesPat],*⟩)
  |`(_)=>`(rcasesPat|_)
  |`($x:ident)=>`(rcasesPat|$x:ident)
  |_=>Lean.Macro.throwUnsupported
local macro_rules|`(tactic|let ⟨$xs,*⟩:=$e)=>do
 let p<-zzP 9 (<-`(⟨$xs,*⟩))
 `(tactic|obtain $p:rcasesPat:=$e)
noncomputable section
abbrev A0.{u}:Type u->Type u:=List
abbrev A3.{u}:Type u->Type u:=Option
abbrev A4:=PySem.Value
abbrev A5:=PySem.Shared
abbrev A6:=PySem.Expr
abbrev A7:=PySem.Addr
abbrev A8:=Bool
abbrev A9:=A0 PySem.Str
abbrev B1:=A0 Nat
abbrev B2:=A0 Int
abbrev B4:=A0 A4
local macro_rules|`(tactic|erw[$f $xs*])=>`(tactic|refine $f $xs* ?_)|`(tactic|erw[$e:term])=>`(tactic|refine $e ?_)|`(tactic|erw[<-$e:term])=>`(tactic|refine $e)|`(tactic|erw[$r,$rs,*])=>`(tactic|(erw[$r];erw[$rs,*]))
abbrev xFr:=PySem.W.Frag
def xAa:type_of%@List.length_map:=@List.length_map
def xAb:type_of%@List.length_append:=@List.length_append
def xAc:type_of%@List.mem_of_getElem?:=@List.mem_of_getElem?
def xAd:type_of%@PySem.wpAny_bind:=@PySem.wpAny_bind
def xAe:type_of%@PySem.wpAny_pure:=@PySem.wpAny_pure
def xAf:type_of%@PySem.Heap.get?_push_of_some:=@PySem.Heap.get?_push_of_some
def xAg:type_of%@Nat.le_refl:=@Nat.le_refl
def xAh:type_of%@Array.length_toList:=@Array.length_toList
def xAi:type_of%@List.map_append:=@List.map_append
def xAj:type_of%@List.mem_append:=@List.mem_append
def xAk:type_of%@List.getElem?_eq_getElem:=@List.getElem?_eq_getElem
def xAl:type_of%@PySem.Heap.get?_push_size:=@PySem.Heap.get?_push_size
def xAm:type_of%@List.mem_singleton:=@List.mem_singleton
def xAn:type_of%@List.length_take:=@List.length_take
def xAo:type_of%@List.length_cons:=@List.length_cons
def xAp:type_of%@List.size_toArray:=@List.size_toArray
def xAq:type_of%@List.getElem?_eq_some_iff:=@List.getElem?_eq_some_iff
def xAr:type_of%@List.mem_cons_self:=@List.mem_cons_self
def xAs:type_of%@List.mem_cons_of_mem:=@List.mem_cons_of_mem
def xAt:type_of%@List.length_singleton:=@List.length_singleton
def xAv:type_of%@List.mem_cons:=@List.mem_cons
def xAw:type_of%@List.getElem?_map:=@List.getElem?_map
def xAx:type_of%@List.append_assoc:=@List.append_assoc
def xAy:type_of%@Bool.false_ne_true:=@Bool.false_ne_true
def xAz:type_of%@Bool.false_eq_true:=@Bool.false_eq_true
def xA0:type_of%@Nat.ne_of_lt:=@Nat.ne_of_lt
def xA1:type_of%@PySem.Heap.lt_size:=@PySem.Heap.lt_size
def xA2:type_of%@List.mem_map:=@List.mem_map
def xA6:type_of%@PySem.Heap.get?_update_other:=@PySem.Heap.get?_update_other
def xA7:type_of%@PySem.Heap.get?_update_self:=@PySem.Heap.get?_update_self
def xBa:type_of%@Int.emod_nonneg:=@Int.emod_nonneg
def xBb:type_of%@Int.emod_lt_of_pos:=@Int.emod_lt_of_pos
def xBc:type_of%@Nat.lt_of_lt_of_le:=@Nat.lt_of_lt_of_le
def xBd:type_of%@decide_eq_true:=@decide_eq_true
def xBe:type_of%@of_decide_eq_true:=@of_decide_eq_true
def xBl:type_of%@PySem.wpAny_newObj_type:=@PySem.wpAny_newObj_type
def xBn:type_of%@Nat.zero_le:=@Nat.zero_le
def xBo:type_of%@Nat.lt_irrefl:=@Nat.lt_irrefl
def xBq:type_of%@List.nodup_append:=@List.nodup_append
def xBs:type_of%@List.map_cons:=@List.map_cons
def xBt:type_of%@List.mem_append_right:=@List.mem_append_right
def xBv:type_of%@List.not_mem_nil:=@List.not_mem_nil
def xBw:type_of%@List.mem_append_left:=@List.mem_append_left
def xBz:type_of%@List.getD_eq_getElem?_getD:=@List.getD_eq_getElem?_getD
def xB0:type_of%@List.append_nil:=@List.append_nil
def xB2:type_of%@List.drop_eq_getElem_cons:=@List.drop_eq_getElem_cons
def xB3:type_of%@Option.some.inj:=@Option.some.inj
def xB7:type_of%@Array.getElem?_eq_some_iff:=@Array.getElem?_eq_some_iff
def xCb:type_of%@List.nodup_cons:=@List.nodup_cons
def xCf:type_of%@if_neg:=@if_neg
def xCg:type_of%@if_pos:=@if_pos
def xCh:type_of%@Bool.and_eq_true:=@Bool.and_eq_true
def xCi:type_of%@Option.bind_eq_some_iff:=@Option.bind_eq_some_iff
def xCj:type_of%@List.all_cons:=@List.all_cons
def xCk:type_of%@Nat.le_trans:=@Nat.le_trans
def xCl:type_of%@List.getElem?_append_right:=@List.getElem?_append_right
def xCn:type_of%@decide_eq_false:=@decide_eq_false
def xCo:type_of%@Nat.le_of_ble_eq_true:=@Nat.le_of_ble_eq_true
def xCu:type_of%@List.length_replicate:=@List.length_replicate
def xCx:type_of%@List.all_eq_true:=@List.all_eq_true
def xCy:type_of%@List.any_eq_true:=@List.any_eq_true
def xC3:type_of%@Int.toNat_natCast:=@Int.toNat_natCast
def xC6:type_of%@List.nil_append:=@List.nil_append
def xC7:type_of%@List.nodup_nil:=@List.nodup_nil
def xDa:type_of%@PySem.wpAny_field:=@PySem.wpAny_field
def xDc:type_of%@PySem.wpAny_holding:=@PySem.wpAny_holding
def xDk:type_of%@Nat.ble_eq_true_of_le:=@Nat.ble_eq_true_of_le
namespace L2
open PySem PySem.Spec PyProof.Rows
variable{H:Hp}{h base:Heap}{g':Array GenState}{t' i j k n:Nat}{d':Drawn}{ch fp:A0 A7}{N ps:A9}{M:Model}{A:Around}{X:Cx}{s:A5}{pos p:Pos}{Z:A0<|A7×Obj}{Q:A4->A5->Prop}{y:V}{K:xFr}{es:A0 A6}{tg:A6}{te:TE}{op op':CmpOp}{r':R2}{dx C:A7}{kw:A0<|Str×A4}{mg:Str->A3 A4}{CX:CXT}{fd:FuncData}{outer:A0 Env}{vs:A0 V}{qual:Str}{scope:Scope}
noncomputable abbrev Key:=Sum Int Str
noncomputable def zC2:Key->A4->A8
 |.inl k,v=>Value.isInt k v
 |.inr x,v=>Value.isStrOf x v
noncomputable def zJz(w:World):Key->Int
 |.inl k=>hashInt k
 |.inr x=>hashStr w x
theorem cH:∀{k:Key}{v:A4},zC2 k v=true->(∃i t,k=Sum.inl i/\v=Value.int i t)\/(∃x t,k=Sum.inr x/\v=Value.str x t)
 |.inl i,v,h=>by
  let⟨t,e⟩:=Value.isInt_shape (k:=i) (v:=v) h;exact .inl ⟨i,t,rfl,e⟩
 |.inr x,v,h=>by
  let⟨t,e⟩:=Value.isStrOf_shape (x:=x) (v:=v) h;exact .inr ⟨x,t,rfl,e⟩
def oh(i:Int)(t:Tok):zC2 (.inl i) (.int i t)=true:=by simp[zC2,Value.isInt]
def og(x:Str)(t:Tok):zC2 (.inr x) (.str x t)=true:=by simp[zC2,Value.isStrOf]
def xF(a b:Int):decide ((Sum.inl a:Key)=Sum.inl b)=(a==b):=by
 by_cases e:a=b
 .subst e;simp
 .have h:¬ (Sum.inl a:Key)=Sum.inl b:=λq=>e<|Sum.inl.inj q;rw[xCn h];exact(beq_eq_false_iff_ne.mpr e).symm
def xC(a b:Str):decide ((Sum.inr a:Key)=Sum.inr b)=decide (a=b):=by
 by_cases e:a=b
 .subst e;simp
 .have h:¬ (Sum.inr a:Key)=Sum.inr b:=λq=>e<|Sum.inr.inj q;rw[xCn h,xCn e]
def xE(a:Int)(b:Str):decide ((Sum.inl a:Key)=Sum.inr b)=false:=xCn λq=>nomatch q
def xD(a:Str)(b:Int):decide ((Sum.inr a:Key)=Sum.inl b)=false:=xCn λq=>nomatch q
def zAm(prog:Program)(w:World):PySem.KeyKind prog w Key where
 is:=zC2
 hash:=zJz w
 inj:=λv a b m d=>by
  rcases cH m with ⟨i,t,rfl,rfl⟩|⟨x,t,rfl,rfl⟩
  .rcases cH d with ⟨j,u,rfl,e⟩|⟨y,u,rfl,e⟩
   .injection e with e1 _;rw[e1]
   .exact nomatch e
  .rcases cH d with ⟨j,u,rfl,e⟩|⟨y,u,rfl,e⟩
   .exact nomatch e
   .injection e with e1 _;rw[e1]
 byValue:=λk v h=>by
  rcases cH h with ⟨i,t,rfl,rfl⟩|⟨x,t,rfl,rfl⟩ <;> rfl
 pyHash:=λc h=>by
  rcases cH c with ⟨i,t,rfl,rfl⟩|⟨x,t,rfl,rfl⟩
  .exact wpAny_pyHash_int h
  .exact wpAny_pyHash_str h
 eqBool:=λl c h=>by
  rcases cH l with ⟨i,t,rfl,rfl⟩|⟨x,t,rfl,rfl⟩
  .rcases cH c with ⟨j,u,rfl,rfl⟩|⟨y,u,rfl,rfl⟩
   .rw[xF] at h;exact wpAny_eqBool_int h
   .rw[xE] at h;exact SeqAt.EqAt.int_str i t y u _ _ _ _ h
  .rcases cH c with ⟨j,u,rfl,rfl⟩|⟨y,u,rfl,rfl⟩
   .rw[xD] at h;exact SeqAt.EqAt.str_int x t j u _ _ _ _ h
   .rw[xC] at h;exact wpAny_eqBool_str h
 «strs»:=λk x t v h=>by
  rcases cH h with ⟨i,u,rfl,e⟩|⟨y,u,rfl,e⟩
  .exact nomatch e
  .injection e with e1 _;subst e1;cases v <;> rfl
def jJ(prog:Program)(w:World)(i:Int)(t:Tok):(zAm prog w).is (.inl i) (.int i t)=true:=oh i t
def jI(prog:Program)(w:World)(x:Str)(t:Tok):(zAm prog w).is (.inr x) (.str x t)=true:=og x t
set_option genInjectivity true in
inductive V where
 |non|bl (b:Bool)|int (i:Int)|str (x:Str)|byt (b:Array UInt8)|flt (b:UInt64)|ref (a:Addr)|ty (n:String)
 deriving DecidableEq
abbrev B3:=A0 V
def zAi:V->A4->Prop
 |.non,u=>u=Value.none
 |.bl b,u=>u=Value.bool b
 |.int i,u=>∃t,u=Value.int i t
 |.str x,u=>∃t,u=Value.str x t
 |.byt b,u=>∃t,u=Value.bytes b t
 |.flt b,u=>∃t,u=Value.float b t
 |.ref a,u=>u=Value.ref a
 |.ty n,u=>u=Value.type n
noncomputable abbrev zAk:B3->B4->Prop:=Paired zAi
theorem zAk.length{xs:B3}{us:B4}(r:zAk xs us):xs.length=us.length:=Paired.length r
theorem zAk.get:∀{xs:B3}{us:B4}{i:Nat}{x:V},zAk xs us->xs[i]?=some x->∃u,us[i]?=some u/\zAi x u
 |_,_,_,_,.nil,e=>by simp at e
 |_,_,0,_,.cons r _,e=>by simp at e;subst e;exact⟨_,rfl,r⟩
 |_,_,i+1,x,.cons _ t,e=>by
  let⟨u,b,a⟩:=zAk.get (i:=i) (x:=x) t (by simpa using e);exact⟨u,by simpa using b,a⟩
theorem zAk.set{x:V}{u:A4}(r:zAi x u):∀{xs:B3}{us:B4}(i:Nat),zAk xs us->zAk (xs.set i x) (us.set i u)
 |_,_,_,.nil=>.nil
 |_,_,0,.cons _ t=>.cons r t
 |_,_,i+1,.cons q t=>.cons q<|zAk.set r i t
theorem zAk.append:∀{xs ys:B3}{us ws:B4},zAk xs us->zAk ys ws->zAk (xs++ys) (us++ws)
 |_,_,_,_,.nil,s=>s
 |_,_,_,_,.cons r t,s=>.cons r<|zAk.append t s
theorem zAk.take:∀{xs:B3}{us:B4}(n:Nat),zAk xs us->zAk (xs.take n) (us.take n)
 |_,_,0,_=>.nil
 |_,_,_+1,.nil=>.nil
 |_,_,n+1,.cons r t=>.cons r<|zAk.take n t
theorem zAk.drop:∀{xs:B3}{us:B4}(n:Nat),zAk xs us->zAk (xs.drop n) (us.drop n)
 |_,_,0,r=>r
 |_,_,_+1,.nil=>.nil
 |_,_,n+1,.cons _ t=>zAk.drop n t
def zB6:A3 V->A3 A4->Prop
 |some v,some u=>zAi v u
 |none,none=>True
 |_,_=>False
def KV{κ:Type}:A0 (κ×V)->A0 (κ×A4)->Prop:=Paired λ(p:κ×V) (q:κ×A4)=>p.1=q.1/\zAi p.2 q.2
noncomputable def kV:Key->V
 |.inl i=>.int i
 |.inr x=>.str x
inductive HO where
 
 |lst (xs:List V)
 
 |tup (xs:List V)
 
 |dK (kvs:List (Key×V))|dT (kvs:List (List Key×V))
 
 |set (S:Int->Bool) (n:Nat)
 
 |ins (C dx:Addr) (fs:List (Str×V))
 
 |own (x:Addr)
 
 |xd (fs:List (Str×V))
 
 |met (f x:Addr)
 
 |rng (lo hi:Int)
 
 |frz (o:Obj) (u:HO)
 
 |tbl (ps:Array Value)
 
 |ext (φ:Heap->Prop)
noncomputable abbrev Hp:=A7->A3 HO
noncomputable def upd(H:Hp)(a:A7)(o:HO):Hp:=λb=>if b=a then some o else H b
def bz{a:A7}{o:HO}:upd H a o a=some o:=by unfold upd;rw[xCg rfl]
def bx{a b:A7}{o:HO}(h:b≠a):upd H a o b=H b:=by unfold upd;rw[xCf h]
def f9{a:A7}{o u:HO}:upd (upd H a o) a u=upd H a u:=by
 funext b;unfold upd;split <;> rfl
def gw{a b:A7}{o u:HO}(h:H a=some o)(h':H b=some u)(d:o≠u):a≠b:=by
 intro e;subst e;rw[h] at h';exact d (xB3 h')
def cD{a b:A7}{o:HO}(h:H a=some o)(h':H b=none):a≠b:=by
 intro e;subst e;rw[h] at h';cases h'
section
variable(P:Program)(w:World)
def zAg(H:Hp)(h:Heap)(a:A7):HO->Prop
 |.lst d=>d.length<=sizeLine/\∃(c:B4) (n:Nat),zAk d c/\h.get? a=some {cls:=.type "list",data:=.seq c.toArray n}
 |.tup d=>d.length<=sizeLine/\∃c:B4,zAk d c/\IsTup h a c.toArray
 |.dK b=>b.length<=sizeLine/\(a==sysModules)=false/\∃vs,KV b vs/\h.DictOf (zAm P w) a vs
 |.dT b=>b.length<=sizeLine/\(a==sysModules)=false/\∃d:A0<|A0 Key×A7×A4,
   Paired (λ(p:A0 Key×V) (q:A0 Key×A7×A4)=>p.1=q.1/\H q.2.1=some (.tup<|p.1.map kV)/\zAi p.2 q.2.2) b d /\
   ∃o es B,h.get? a=some o/\o.ExactDict/\o.data=.dict es B/\es.toList=d.map (entryOfKey<|tupleKind<|zAm P w)/\(d.map (·.1)).Nodup
 |.set S n=>h.SetOf (intKind P w) a S n
 |.ins C dx fs=>H dx=some (.own a)/\fs.length<=1000/\dx≠a/\h.get? a=some (W.instObj C dx) /\
   ∃mA,h.Ns1 dx mA/\(∀f,zB6 (fs.lookup f)<|mA f)/\PySem.Within mA (fs.map (·.1))
 |.own _=>∃o,h.get? a=some o
 |.xd fs=>∃mA,h.Ns1 a mA/\∀f,zB6 (fs.lookup f)<|mA f
 |.rng m r=>∃t u v,h.get? a=some {cls:=.type "range",data:=.fields #[.int m t,.int r u,.int 1 v]}
 |.frz o u=>h.get? a=some o/\zAg H h a u
 |.tbl ps=>h.get? a=some {cls:=.none,data:=.fields ps}
 |.met f x=>h.get? a=some (W.methodObj (.ref f)<|.ref x)
 |.ext φ=>φ h/\(∃o,h.get? a=some o)/\∀l e:Heap,φ l->(∀o,l.get? a=some o->e.get? a=some o)->φ e
def HOk(H:Hp)(h:Heap):Prop:=∀a o,H a=some o->zAg P w H h a o
end
section
variable{P:Program}{w:World}{H H':Hp}{h h':Heap}{a:A7}{o:HO}
theorem zAg.lt(x:zAg P w H h a o):a<h.objs.size:=by
 cases o with
 |lst c=>let⟨_,_,_,_,e⟩:=x;exact xA1 e
 |tup c=>let⟨_,_,_,p⟩:=x;exact p.lt
 |dK b=>let⟨_,_,_,_,o,_,_,e,_⟩:=x;exact xA1 e
 |dT b=>let⟨_,_,_,_,o,_,_,e,_⟩:=x;exact xA1 e
 |set S n=>let⟨o,_,_,_,e,_⟩:=x;exact xA1 e
 |ins C dx fs=>let⟨_,_,_,e,_⟩:=x;exact xA1 e
 |own y=>let⟨_,e⟩:=x;exact xA1 e
 |xd fs=>let⟨_,⟨_,_,_,e,_⟩,_⟩:=x;exact xA1 e
 |rng l m=>let⟨_,_,_,e⟩:=x;exact xA1 e
 |frz d u=>let⟨e,_⟩:=x;exact xA1 e
 |tbl ps=>exact xA1 (show h.get? a=some _ from x)
 |met f y=>exact xA1 (show h.get? a=some _ from x)
 |ext φ=>let⟨_,⟨_,e⟩,_⟩:=x;exact xA1 e
theorem Paired.mapP{J β:Type}{F G:J->β->Prop}:∀{l₁:A0 J}{l₂:A0 β},Paired F l₁ l₂->(∀a b,F a b->G a b)->Paired G l₁ l₂
 |_,_,.nil,_=>.nil
 |_,_,.cons r t,f=>.cons (f _ _ r)<|Paired.mapP t f
theorem zAg.stay(x:zAg P w H h a o)(k:∀b u,(b=a\/H b=some (.own a))->h.get? b=some u->h'.get? b=some u)(I:∀b,H b=some (.own a)->H' b=some (.own a))(G:∀b xs,H b=some (.tup xs)->H' b=some (.tup xs)):zAg P w H' h' a o:=by
 induction o with
 |lst xs=>let⟨z,B,n,r,e⟩:=x;exact⟨z,B,n,r,k _ _ (.inl rfl) e⟩
 |tup xs=>let⟨z,B,r,l,e,c⟩:=x;exact⟨z,B,r,l,k _ _ (.inl rfl) e,c⟩
 |dK E=>let⟨z,y,vs,r,l,es,m,e,c⟩:=x;exact⟨z,y,vs,r,l,es,m,k _ _ (.inl rfl) e,c⟩
 |dT E=>
  let⟨z,y,xs,r,l,es,m,e,c⟩:=x;exact⟨z,y,xs,Paired.mapP r λp q z=>⟨z.1,G _ _ z.2.1,z.2.2⟩,l,es,m,k _ _ (.inl rfl) e,c⟩
 |set S n=>let⟨l,es,m,t,e,c⟩:=x;exact⟨l,es,m,t,k _ _ (.inl rfl) e,c⟩
 |ins C dx fs=>
  let⟨d,z,ne,e,mA,⟨D,es,m,J,c⟩,r⟩:=x;exact⟨I _ d,z,ne,k _ _ (.inl rfl) e,mA,⟨D,es,m,k _ _ (.inr d) J,c⟩,r⟩
 |own y=>let⟨l,e⟩:=x;exact⟨l,k _ _ (.inl rfl) e⟩
 |xd fs=>let⟨mA,⟨D,es,m,e,c⟩,r⟩:=x;exact⟨mA,⟨D,es,m,k _ _ (.inl rfl) e,c⟩,r⟩
 |rng L O=>let⟨t,u,v,e⟩:=x;exact⟨t,u,v,k _ _ (.inl rfl) e⟩
 |frz l u F=>let⟨e,q⟩:=x;exact⟨k _ _ (.inl rfl) e,F q⟩
 |tbl ps=>
  have e:h.get? a=some {cls:=.none,data:=.fields ps}:=x;show h'.get? a=some {cls:=.none,data:=.fields ps};exact k a _ (.inl rfl) e
 |met f y=>
  have e:h.get? a=some (W.methodObj (.ref f)<|.ref y):=x;show h'.get? a=some (W.methodObj (.ref f)<|.ref y);exact k a _ (.inl rfl) e
 |ext φ=>let⟨p,⟨o,e⟩,st⟩:=x;exact⟨st _ _ p λo q=>k _ _ (.inl rfl) q,⟨o,k _ _ (.inl rfl) e⟩,st⟩
theorem HOk.lt(x:HOk P w H h)(e:H a=some o):a<h.objs.size:=(x a o e).lt
theorem HOk.fresh(x:HOk P w H h)(e:h.objs.size<=a):H a=none:=by
 cases q:H a with
 |none=>rfl
 |some u=>exact absurd (xBc (x.lt q) e) (xBo _)
def HOk.kept(x:HOk P w H h)(k:∀b u,h.get? b=some u->h'.get? b=some u):HOk P w H h':=λa o e=>
 (x a o e).stay (λb u _ q=>k b u q) (λ_ q=>q) λ_ _ q=>q
def HOk.laid(x:HOk P w H h)(k:∀b u,h.get? b=some u->h'.get? b=some u)(l:h.objs.size<=a)(new:zAg P w (upd H a o) h' a o):HOk P w (upd H a o) h':=λb u e=>by
 have d:=x.fresh l;by_cases hb:b=a
 .subst hb;rw[bz] at e;cases e;exact new
 .rw[bx hb] at e;exact(x b u e).stay (λc v _ q=>k c v q) (λc q=>by rw[bx<|cD q d];exact q) λc m q=>by rw[bx<|cD q d];exact q
end
def Rd(H:Hp)(a:A7)(u:HO):Prop:=H a=some u\/∃o,H a=some (.frz o u)
def Rd.ok{P:Program}{w:World}{a:A7}{u:HO}(r:Rd H a u)(x:HOk P w H h):zAg P w H h a u:=by
 rcases r with r|⟨o,r⟩
 .exact x a u r
 .let⟨_,q⟩:=x a _ r;exact q
def Mut:A3 HO->Prop
 |some (.lst _)=>True
 |some (.dK _)=>True
 |some (.dT _)=>True
 |some (.set _ _)=>True
 |some (.ins _ _ _)=>True
 |some (.ext _)=>True
 |_=>False
section
variable{P:Program}{w:World}{H:Hp}{h h':Heap}{x e:A7}{o':HO}
def HOk.write(ok:HOk P w H h)(d:Mut<|H x)(o:e=x\/H e=some (.own x))(k:∀b u,b≠e->h.get? b=some u->h'.get? b=some u)(l:∃u,h'.get? e=some u)(new:zAg P w (upd H x o') h' x o'):HOk P w (upd H x o') h':=λb u q=>by
 have nown:∀c y,H c=some (.own y)->c≠x:=λc y r z=>by subst z;rw[r] at d;exact d
 have ntup:∀c a,H c=some (.tup a)->c≠x:=λc a r z=>by subst z;rw[r] at d;exact d
 by_cases hb:b=x
 .subst hb;rw[bz] at q;cases q;exact new
 .rw[bx hb] at q;by_cases hbe:b=e
  .have m:H b=some (.own x):=by
    rcases o with z|z
    .exact absurd (hbe.trans z) hb
    .rw[hbe];exact z
   rw[q] at m;cases m;let⟨v,t⟩:=l;exact⟨v,by rw[hbe];exact t⟩
  .refine(ok b u q).stay (λc v hc r=>k c v ?_ r) (λc r=>by rw[bx<|nown c b r];exact r) λc a r=>by rw[bx<|ntup c a r];exact r
   rcases hc with rfl|hc
   .exact hbe
   .rintro rfl
    rcases o with z|z
    .exact nown c b hc z
    .rw[hc] at z;cases z;exact hb rfl
end
structure Un(fs ex:A0 A7)(H H':Hp)(h h':Heap):Prop where
 keep:∀b o,h.get? b=some o->H b=none->b∉fs->b∉ex->h'.get? b=some o
 slot:∀b o,h.get? b=some o->H b=none->b∈fs->b∉ex->∃sl,h'.get? b=some {o with slots:=sl}
 free:∀b o,h.get? b=some o->H b=none->b∉ex->H' b=none
 there:∀b o,h.get? b=some o->b∉ex->∃o',h'.get? b=some o'
 tups:∀b xs,H b=some (.tup xs)->H' b=some (.tup xs)
 frzs:∀b o u,H b=some (.frz o u)->H' b=some (.frz o u)
 tbls:∀b ps,H b=some (.tbl ps)->∃more,H' b=some (.tbl (ps++more))
section
variable{fs fs' ex ex':A0 A7}{H H1 H2:Hp}{h h1 h2 h':Heap}{a x e:A7}{o:HO}
def Un.any(u:Un fs ex H H1 h h1){b:A7}{c:Obj}(q:h.get? b=some c)(n:H b=none)(d:b∉ex):∃l,h1.get? b=some {c with slots:=l}:=by
 by_cases hb:b∈fs
 .exact u.slot b c q n hb d
 .exact⟨c.slots,u.keep b c q n hb d⟩
def Un.trans(a:Un fs ex H H1 h h1)(b:Un fs ex H1 H2 h1 h2):Un fs ex H H2 h h2 where
 keep:=λc d q n t l=>b.keep c d (a.keep c d q n t l) (a.free c d q n l) t l
 slot:=λc d q n t l=>by
  let⟨F,m⟩:=a.slot c d q n t l;let⟨v,B⟩:=b.slot c _ m (a.free c d q n l) t l;exact⟨v,B⟩
 free:=λc d q n l=>by
  let⟨w,m⟩:=a.there c d q l;exact b.free c w m (a.free c d q n l) l
 there:=λc d q l=>by
  let⟨w,m⟩:=a.there c d q l;exact b.there c w m l
 tups:=λc r q=>b.tups c r<|a.tups c r q
 frzs:=λc d r q=>b.frzs c d r<|a.frzs c d r q
 tbls:=λc ps q=>by
  let⟨E,m⟩:=a.tbls c ps q;let⟨D,B⟩:=b.tbls c _ m;exact⟨E++D,by rw[B,Array.append_assoc]⟩
def Un.kept(k:∀b u,h.get? b=some u->h'.get? b=some u):Un fs ex H H h h':=
 ⟨λb c q _ _ _=>k b c q,λb c q _ _ _=>⟨c.slots,k b c q⟩,λ_ _ _ n _=>n,λb c q _=>⟨c,k b c q⟩,λ_ _ q=>q,λ_ _ _ q=>q,λ_ ps q=>⟨#[],by rw[q];simp⟩⟩
def Un.refl:Un fs ex H H h h:=Un.kept λ_ _ q=>q
def Un.laid(k:∀b u,h.get? b=some u->h'.get? b=some u)(l:h.objs.size<=a)(c:H a=none):Un fs ex H (upd H a o) h h' where
 keep:=λb u q _ _ _=>k b u q
 slot:=λb u q _ _ _=>⟨u.slots,k b u q⟩
 free:=λb u q n _=>by rw[bx<|xA0<|xBc (xA1 q) l];exact n
 there:=λb u q _=>⟨u,k b u q⟩
 tups:=λb d q=>by rw[bx<|cD q c];exact q
 frzs:=λb u d q=>by rw[bx<|cD q c];exact q
 tbls:=λb ps q=>⟨#[],by rw[bx<|cD q c,q];simp⟩
def Un.write(c:Mut<|H x)(t:e=x\/H e=some (.own x))(k:∀b u,b≠e->h.get? b=some u->h'.get? b=some u)(d:∃u,h'.get? e=some u):Un fs ex H (upd H x o) h h':=by
 have hx:∀b,H b=none->b≠x:=λb n z=>by subst z;rw[n] at c;exact c
 have l:∀b,H b=none->b≠e:=λb n z=>by
  subst z;rcases t with r|r
  .exact hx b n r
  .rw[n] at r;cases r
 have hm:∀b u,H b=some u->¬ Mut (some u)->b≠x:=λb u q nm z=>by subst z;rw[q] at c;exact nm c
 refine⟨λb u q n _ _=>k b u (l b n) q,λb u q n _ _=>⟨u.slots,k b u (l b n) q⟩,λb u q n _=>by rw[bx<|hx b n];exact n,λb u q _=>?_,
  λb m q=>by rw[bx<|hm b _ q λz=>z];exact q,λb u m q=>by rw[bx<|hm b _ q λz=>z];exact q,λb ps q=>⟨#[],by rw[bx<|hm b _ q λz=>z,q];simp⟩⟩
 by_cases hbe:b=e
 .subst hbe;exact d
 .exact⟨u,k b u hbe q⟩
def Un.mono(u:Un fs ex H H1 h h1)(hs:∀b∈fs,b∈fs')(hx:∀b∈ex,b∈ex'):Un fs' ex' H H1 h h1:=
 ⟨λb d q n l c=>u.keep b d q n (λz=>l<|hs b z) λz=>c<|hx b z,λ_ _ q n _ c=>u.any q n λz=>c<|hx _ z,λb d q n c=>u.free b d q n λz=>c<|hx b z,λb d q c=>u.there b d q λz=>c<|hx b z,u.tups,u.frzs,u.tbls⟩
end
noncomputable def trk(h:Heap)(H:Hp):A0 A7:=(List.range h.objs.size).filter λa=>(H a).isSome
def zDs(h:Heap)(H:Hp):Heap:=W.hideAll h<|trk h H
def om(h:Heap)(H:Hp):(zDs h H).objs.size=h.objs.size:=W.hideAll_size _ _
def qU{b:A7}{o:Obj}(e:h.get? b=some o)(n:H b=none):(zDs h H).get? b=some o:=
 W.hideAll_get _ e λa=>by
  have q:(H b).isSome=true:=(List.mem_filter.mp a).2;rw[n] at q;simp at q
theorem tR{b:A7}{o:Obj}(e:(zDs h H).get? b=some o):h.get? b=some o/\H b=none:=by
 have a:h.get? b=some o:=W.of_hideAll (trk h H) e;refine⟨a,?_⟩;cases q:H b with
 |none=>rfl
 |some x=>
  have c:b∈trk h H:=List.mem_filter.mpr ⟨List.mem_range.mpr<|xA1 a,by simp[q]⟩;have z:(zDs h H).get? b=none:=W.hideAll_none (trk h H) c;rw[z] at e;cases e
structure Mod(K:xFr)(mg:Str->A3 A4)(base:Heap):Prop where
 kin:K.In base
 glob:base.Ns mainGlobals mg
 blt:∃mb,base.Ns builtinsNs mb/\∀x:Str,x≠"__name__"->mb x=bootBuiltins x
 nolimit:base.NoLimit
structure Cx where
 prog:Program
 w:World
 K:xFr
 mg:Str->A3 A4
 base:Heap
 A:Around
 N:A9
 s₀:A5
 H₀:Hp
 env:Env
 outer:A0 Env
 stack:A0 Env
 ex:A0 A7
 fn:Str->A8
 calm:A8
 pn:A0 (A7×Obj)
 xe:A4->A5->Prop
noncomputable def frs(l:A0 Env):A0 A7:=l.filterMap (·.frame)
noncomputable abbrev Cx.fs(X:Cx):A0 A7:=frs X.outer
def Vis(sc:Scope)(x:Str):Prop:=sc.names.lookup x=some .local\/sc.names.lookup x=some .cell\/sc.names.lookup x=some .free
def Loc(sc:Scope)(x:Str):Prop:=sc.names.lookup x=some .local\/sc.names.lookup x=some .cell
def zJ5(env:Env)(h:Heap)(m:Str->A3 A4)(x:Str)(u:A4):Prop:=
 (env.kindOf x=some .local/\m x=some u)\/((env.kindOf x=some .cell\/env.kindOf x=some .free)/\∃c,env.cells.lookup x=some c/\h.IsCell c (some u))
structure Cx.Ok(X:Cx):Prop where
 mod:Mod X.K X.mg X.base
 kind:X.env.scope.kind=.function
 glob:X.env.globals=mainGlobals
 blt:X.env.builtins=builtinsNs
 above:X.s₀.heap.objs.size<=X.env.locals
 inj:∀x y c,X.env.cells.lookup x=some c->X.env.cells.lookup y=some c->x=y
 has:∀x,(X.env.kindOf x=some .cell\/X.env.kindOf x=some .free)->∃c,X.env.cells.lookup x=some c
 cab:∀x c,X.fn x=true->X.env.cells.lookup x=some c->X.s₀.heap.objs.size<=c
 hd:X.calm=true->X.A.handled=none
 frames:X.A.frames=some X.stack
 stk:X.stack=X.outer\/(X.stack=X.env::X.outer/\X.env.frame=some X.env.locals)
 exf:∀b∈X.ex,b≠X.env.locals/\∀x c,X.env.cells.lookup x=some c->c≠b
 bs:∀b o,X.base.get? b=some o->X.s₀.heap.get? b=some o/\X.H₀ b=none
 bsz:X.base.objs.size<=X.s₀.heap.objs.size
 noex:∀b o,X.base.get? b=some o->b∉X.ex
 exfs:∀b∈X.ex,b∉X.fs
 funs:X.s₀.heap.FunFrames X.base X.outer
 frf:∀b∈X.fs,X.H₀ b=none
structure Inv(X:Cx)(Z:A0 (A7×Obj))(O:A0 (A3 V))(H:Hp)(s:A5):Prop where
 ok:X.Ok
 os:s.os=X.s₀.os
 bare:AllBare s.gens
 base:Un X.fs X.ex X.H₀ H X.s₀.heap s.heap
 loc:∃m,s.heap.Ns X.env.locals m/\∀(i:Nat)(x:Str)(v:V),X.N[i]?=some x->O[i]?=some (some v)->Vis X.env.scope x->∃u,zAi v u/\zJ5 X.env s.heap m x u
 cell:∀x c,X.env.cells.lookup x=some c->∃v,s.heap.IsCell c v
 free:H X.env.locals=none
 freeC:∀x c,X.env.cells.lookup x=some c->H c=none
 pin:∀p∈X.pn++Z,s.heap.get? p.1=some p.2/\H p.1=none/\p.1≠X.env.locals/\p.1∉X.fs/\∀v,p.2.data≠.cell v
 hok:HOk X.prog X.w H s.heap
 len:O.length=X.N.length
section
variable{X:Cx}{Z:A0<|A7×Obj}{O:A0<|A3 V}{H H':Hp}{s:A5}{h':Heap}
def Cx.Ok.nofr(ok:X.Ok){b:A7}{o:Obj}(e:X.base.get? b=some o):b∉X.fs:=λa=>by
 have:=(ok.funs.mem a).1;rw[e] at this;cases this
theorem Inv.bs(I:Inv X Z O H s):∀b o,X.base.get? b=some o->s.heap.get? b=some o/\H b=none:=λb o e=>
 ⟨I.base.keep b o (I.ok.bs b o e).1 (I.ok.bs b o e).2 (I.ok.nofr e)<|I.ok.noex b o e,I.base.free b o (I.ok.bs b o e).1 (I.ok.bs b o e).2<|I.ok.noex b o e⟩
def Inv.bk(I:Inv X Z O H s):∀b o,X.base.get? b=some o->s.heap.get? b=some o:=λb o e=>(I.bs b o e).1
theorem Inv.mod(I:Inv X Z O H s):Mod X.K X.mg X.base:=I.ok.mod
def Inv.kIn(I:Inv X Z O H s):X.K.In s.heap:=I.ok.mod.kin.keeps I.bk
theorem Inv.lt(I:Inv X Z O H s):X.env.locals<s.heap.objs.size:=let ⟨_,a,_⟩:=I.loc;a.lt
def Inv.sz(I:Inv X Z O H s):X.s₀.heap.objs.size<=s.heap.objs.size:=xCk I.ok.above<|Nat.le_of_lt I.lt
def Inv.nofs(I:Inv X Z O H s){a:A7}(h:s.heap.objs.size<=a):a∉X.fs:=λc=>by
 let⟨_,o,b,_⟩:=I.ok.funs.mem c;exact absurd (xBc (xA1 b)<|xCk I.sz h)<|xBo _
def Inv.cne(I:Inv X Z O H s):∀x c,X.env.cells.lookup x=some c->c≠X.env.locals:=λx c e z=>by
 let⟨v,o,d,hd⟩:=I.cell x c e;let⟨m,⟨l,es,q,a,b,_⟩,_⟩:=I.loc;rw[z,a] at d;cases d;rw[b] at hd;cases hd
theorem Inv.funs(I:Inv X Z O H s):s.heap.FunFrames X.base X.outer:=by
 have all:∀(l:A0 Env),(∀b∈frs l,b∈X.fs)->X.s₀.heap.FunFrames X.base l->s.heap.FunFrames X.base l:=by
  intro l;induction l with
  |nil=>intro _ _;trivial
  |cons x r m=>
   intro d v;let⟨w,⟨L,o,a,t,q,hd⟩,hr⟩:=v;have hL:L∈X.fs:=d L (by unfold frs;rw[List.filterMap_cons,a];exact xAr);let⟨B,e⟩:=I.base.slot L o q (I.ok.frf L hL) hL λz=>I.ok.exfs L z hL;exact⟨w,⟨L,_,a,t,e,hd⟩,m (λb c=>d b<|by unfold frs;rw[List.filterMap_cons,a];exact xAs _ c) hr⟩
 exact all X.outer (λ_ c=>c) I.ok.funs
theorem Inv.stack(I:Inv X Z O H s):s.heap.FunFrames X.base X.stack:=by
 rcases I.ok.stk with e|⟨e,hf⟩
 .rw[e];exact I.funs
 .rw[e];let⟨m,a,_⟩:=I.loc;refine .cons (by rw[I.ok.kind];decide) hf a ?_ I.funs;exact Heap.get?_none_of_le<|xCk I.ok.bsz I.ok.above
def Inv.stkSub(I:Inv X Z O H s):∀b∈frs X.stack,b∈X.env.locals::X.fs:=λb a=>by
 rcases I.ok.stk with e|⟨e,hf⟩
 .rw[e] at a;exact xAs _ a
 .rw[e] at a;unfold frs at a;rw[List.filterMap_cons,hf] at a;exact a
def Inv.stkFree(I:Inv X Z O H s):∀b∈frs X.stack,H b=none:=λb hb=>by
 rcases xAv.mp (I.stkSub b hb) with e|hb
 .rw[e];exact I.free
 .let⟨_,o,a,_⟩:=I.ok.funs.mem hb;exact I.base.free b o a (I.ok.frf b hb) λz=>I.ok.exfs b z hb
def Inv.step(I:Inv X Z O H s)(E:∀b∈ch,(b∈X.ex\/X.s₀.heap.objs.size<=b)/\b≠X.env.locals/\(∀x c,X.env.cells.lookup x=some c->c≠b)/\∀p∈X.pn++Z,p.1≠b)(D:∀b o,b≠X.env.locals->b∉X.fs->b∉ch->s.heap.get? b=some o->H b=none->h'.get? b=some o)(L:∀b o,b≠X.env.locals->b∈X.fs->b∉ch->s.heap.get? b=some o->H b=none->∃sl,h'.get? b=some {o with slots:=sl})(t:∀b o,b∉ch->s.heap.get? b=some o->H b=none->H' b=none)(there:∀b o,b∉ch->s.heap.get? b=some o->∃o',h'.get? b=some o')(S:∀b xs,H b=some (.tup xs)->H' b=some (.tup xs))(frzs:∀b o u,H b=some (.frz o u)->H' b=some (.frz o u))(T:∀b ps,H b=some (.tbl ps)->∃Y,H' b=some (.tbl<|ps++Y))(ns:∀m,s.heap.Ns X.env.locals m->h'.Ns X.env.locals m)(hok:HOk X.prog X.w H' h')(hg:AllBare g') :
  Inv X Z O H' {s with heap:=h',gens:=g',drawn:=d',toks:=t'}:=by
 have W:∀b o,X.s₀.heap.get? b=some o->b≠X.env.locals:=λb o e=>xA0<|xBc (xA1 e) I.ok.above;have G:∀b o,X.s₀.heap.get? b=some o->b∉X.ex->b∉ch:=λb o e a P=>by
  rcases(E b P).1 with z|z
  .exact a z
  .exact absurd (xBc (xA1 e) z)<|xBo _
 have F:∀x c,X.env.cells.lookup x=some c->∀v,s.heap.IsCell c v->h'.IsCell c v:=λx c e v ⟨o,R,hd⟩=>by
  have B:c∉ch:=λz=>(E c z).2.2.1 x c e rfl;by_cases hc:c∈X.fs
  .let⟨sl,q⟩:=L c o (I.cne x c e) hc B R<|I.freeC x c e;exact⟨_,q,hd⟩
  .exact⟨o,D c o (I.cne x c e) hc B R<|I.freeC x c e,hd⟩
 refine⟨I.ok,I.os,hg,⟨λb o e n P a=>?_,λb o e n P a=>?_,λb o e n a=>?_,λb o e a=>?_,λb xs e=>S b xs<|I.base.tups b xs e,λb o xs e=>frzs b o xs<|I.base.frzs b o xs e,λb ps e=>?_⟩,?_,λx c e=>?_,?_,λx c e=>?_,λp hp=>?_,hok,I.len⟩
 .exact D b o (W b o e) P (G b o e a) (I.base.keep b o e n P a)<|I.base.free b o e n a
 .let⟨sl,J⟩:=I.base.slot b o e n P a;let⟨sl',e2⟩:=L b _ (W b o e) P (G b o e a) J<|I.base.free b o e n a;exact⟨sl',e2⟩
 .let⟨o',J⟩:=I.base.there b o e a;exact t b o' (G b o e a) J<|I.base.free b o e n a
 .let⟨o',J⟩:=I.base.there b o e a;exact there b o' (G b o e a) J
 .let⟨m1,J⟩:=I.base.tbls b ps e;let⟨m2,e2⟩:=T b _ J;exact⟨m1++m2,by rw[e2,Array.append_assoc]⟩
 .let⟨m,hn,hl⟩:=I.loc;refine⟨m,ns m hn,λi x v J e2 e3=>?_⟩;let⟨u,r,l⟩:=hl i x v J e2 e3;refine⟨u,r,?_⟩;rcases l with l|⟨k,c,e,z⟩
  .exact .inl l
  .exact .inr ⟨k,c,e,F x c e _ z⟩
 .let⟨v,z⟩:=I.cell x c e;exact⟨v,F x c e v z⟩
 .let⟨m,⟨o,_,_,R,_⟩,_⟩:=I.loc;exact t _ o (λz=>(E _ z).2.1 rfl) R I.free
 .let⟨v,o,R,hd⟩:=I.cell x c e;exact t c o (λz=>(E c z).2.2.1 x c e rfl) R<|I.freeC x c e
 .let⟨e,n,ne,nf,d⟩:=I.pin p hp;have B:p.1∉ch:=λz=>(E p.1 z).2.2.2 p hp rfl;exact⟨D p.1 p.2 ne nf B e n,t p.1 p.2 B e n,ne,nf,d⟩
def Inv.un(I:Inv X Z O H s)(u:Un X.fs [] H H' s.heap h')(c:HOk X.prog X.w H' h'):Inv X Z O H' {s with heap:=h',toks:=t'}:=by
 let⟨m,⟨o,es,E,t,r⟩,_⟩:=id I.loc;let⟨x,hL⟩:=u.any t I.free ⋯;exact I.step (g':=s.gens) (d':=s.drawn) (ch:=[]) (λ_ z=>nomatch z) (λb o _ d _ e n=>u.keep b o e n d ⋯) (λb o _ d _ e n=>u.slot b o e n d ⋯) (λb o _ e n=>u.free b o e n ⋯) (λb o _ e=>u.there b o e ⋯) u.tups u.frzs u.tbls (λD v=>by
  let⟨B,l,q,a,r'⟩:=v;rw[t] at a;cases a;exact⟨_,l,q,hL,r'⟩) c I.bare
def Inv.call(I:Inv X Z O H s)(u:Un (frs X.stack) ch H H' s.heap h')(q:HOk X.prog X.w H' h')(E:AllBare g')(l:∀b∈ch,(b∈X.ex\/X.s₀.heap.objs.size<=b)/\b≠X.env.locals/\(∀x c,X.env.cells.lookup x=some c->c≠b)/\∀p∈X.pn++Z,p.1≠b) :
  Inv X Z O H' {s with heap:=h',gens:=g',drawn:=d',toks:=t'}:=by
 let⟨m,⟨o,es,P,B,r⟩,_⟩:=id I.loc;let⟨G,hL⟩:=u.any B I.free λz=>(l _ z).2.1 rfl;exact I.step (ch:=ch) l (λb o hL F a e n=>u.keep b o e n (λz=>(xAv.mp<|I.stkSub b z).elim hL F) a) (λb o _ _ a e n=>u.any e n a) (λb o a e n=>u.free b o e n a) (λb o a e=>u.there b o e a) u.tups u.frzs u.tbls (λL D=>by
  let⟨J,t,v,d,r'⟩:=D;rw[B] at d;cases d;exact⟨_,t,v,hL,r'⟩) q E
def Inv.turned{it:A7}(I:Inv X Z O H s)(k:∀b o,b≠it->s.heap.get? b=some o->h'.get? b=some o)(t:H it=none)(hL:it≠X.env.locals)(F:it∈X.ex\/X.s₀.heap.objs.size<=it)(E:∀x c,X.env.cells.lookup x=some c->c≠it)(D:∀p∈X.pn++Z,p.1≠it):Inv X Z O H {s with heap:=h',toks:=t'}:=by
 have d:∀b u,H b=some u->b≠it:=λb u e z=>by rw[z,t] at e;cases e
 refine I.step (g':=s.gens) (d':=s.drawn) (ch:=[it]) (λb B=>?_) (λb o _ _ a e _=>k b o (λz=>a<|by simp[z]) e) (λb o _ _ a e _=>⟨o.slots,k b o (λz=>a<|by simp[z]) e⟩) (λ_ _ _ _ n=>n)
  (λb o a e=>⟨o,k b o (λz=>a<|by simp[z]) e⟩) (λ_ _ e=>e) (λ_ _ _ e=>e) (λb ps e=>⟨#[],by rw[e];simp⟩) (λm w=>?_) (λb u e=>?_) I.bare
 .have e:b=it:=by simpa using B
  subst e;exact⟨F,hL,E,D⟩
 .let⟨o,es,G,l,r⟩:=w;exact⟨o,es,G,k _ o (Ne.symm hL) l,r⟩
 .refine(I.hok b u e).stay (λc v a q=>k c v ?_ q) (λ_ q=>q) λ_ _ q=>q;rcases a with z|z
  .rw[z];exact d b u e
  .exact d c _ z
def Inv.tok(I:Inv X Z O H s)(t:Nat):Inv X Z O H {s with toks:=t}:=I.un (h':=s.heap) (t':=t) Un.refl I.hok
theorem Inv.kept{t':Nat}(I:Inv X Z O H s)(k:∀b u,s.heap.get? b=some u->h'.get? b=some u):Inv X Z O H {s with heap:=h',toks:=t'}:=I.un (Un.kept k)<|I.hok.kept k
theorem Inv.laid{a:A7}{o:HO}{t':Nat}(I:Inv X Z O H s)(k:∀b u,s.heap.get? b=some u->h'.get? b=some u)(c:s.heap.objs.size<=a)(new:zAg X.prog X.w (upd H a o) h' a o) :
  Inv X Z O (upd H a o) {s with heap:=h',toks:=t'}:=I.un (Un.laid k c<|I.hok.fresh c)<|I.hok.laid k c new
theorem Inv.write{x e:A7}{o:HO}{t':Nat}(I:Inv X Z O H s)(c:Mut<|H x)(d:e=x\/H e=some (.own x))(k:∀b u,b≠e->s.heap.get? b=some u->h'.get? b=some u)(a:∃u,h'.get? e=some u)(new:zAg X.prog X.w (upd H x o) h' x o):Inv X Z O (upd H x o) {s with heap:=h',toks:=t'}:=I.un (Un.write c d k a)<|I.hok.write c d k a new
def Inv.pins_of{a:A0<|A7×Obj}(I:Inv X Z O H s)(h:∀p∈a,s.heap.get? p.1=some p.2/\H p.1=none/\p.1≠X.env.locals/\p.1∉X.fs/\∀v,p.2.data≠.cell v):Inv X a O H s:=
 ⟨I.ok,I.os,I.bare,I.base,I.loc,I.cell,I.free,I.freeC,λp b=>(xAj.mp b).elim (λz=>I.pin p<|xBw _ z)<|h p,I.hok,I.len⟩
def jF(c:N.Nodup){x:Str}(a:N[i]?=some x)(b:N[j]?=some x):i=j:=by
 let⟨l,e1⟩:=xAq.mp a;let⟨e,d⟩:=xAq.mp b;exact(List.getElem_inj c).mp<|e1.trans d.symm
def gY{E:A4->A5->Prop}{x:Str}{v:V}{u:A4}{Q:Unit->A5->Prop}(I:Inv X Z O H s)(hN:X.N.Nodup)(hi:X.N[i]?=some x)(B:Loc X.env.scope x)(r:zAi v u)(h:∀s',Inv X Z (O.set i<|some v) H s'->(∃a,Heap.SameBut a s.heap s'.heap/\(a=X.env.locals\/X.env.cells.lookup x=some a))->Q Unit.unit s')(hf:X.fn x=true\/X.env.scope.names.lookup x=some .local:=by first|exact .inl rfl|exact .inr rfl|assumption):wpAny M A (storeName X.env x u) Q E s:=by
 let⟨m,hn,hl⟩:=id I.loc;have R:(X.env.scope.kind == .class||(X.env.scope.kind == .module&&X.env.locals != X.env.globals))=false:=by rw[I.ok.kind];rfl
 have hiσ:i<O.length:=by rw[I.len];exact(xAq.mp hi).1
 have cne:=I.cne;have tracked:∀{a:A7}{h':Heap},(∃o,s.heap.get? a=some o/\H a=none)->Heap.SameBut a s.heap h'->HOk X.prog X.w H h':=λ{a h'} ha l b ob e=>by
  let⟨_,_,D⟩:=ha;refine(I.hok b ob e).stay (λc T hc q=>(l.2 c ?_).trans q) (λ_ q=>q) λ_ _ q=>q;rintro rfl
  rcases hc with rfl|hc
  .rw[D] at e;cases e
  .rw[D] at hc;cases hc
 rcases B with hk|hk
 .refine wpAny_storeName_local hk hn (λh' hn' l=>?_) R;let⟨oL,_,_,hoL,_⟩:=id hn;refine h _ ⟨I.ok,I.os,I.bare,⟨λb o e n J B=>?_,λb o e n J B=>?_,I.base.free,λb o e B=>?_,I.base.tups,I.base.frzs,I.base.tbls⟩,⟨_,hn',λj y Y t F e3=>?_⟩,λy c e=>?_,I.free,I.freeC,λp hp=>?_,tracked ⟨oL,hoL,I.free⟩ l,by simpa using I.len⟩ ⟨_,l,.inl rfl⟩
  .exact(l.2 b<|xA0<|xBc (xA1 e) I.ok.above).trans<|I.base.keep b o e n J B
  .let⟨sl,t⟩:=I.base.slot b o e n J B;exact⟨sl,(l.2 b<|xA0<|xBc (xA1 e) I.ok.above).trans t⟩
  .let⟨o',t⟩:=I.base.there b o e B;exact⟨o',(l.2 b<|xA0<|xBc (xA1 e) I.ok.above).trans t⟩
  .by_cases hj:j=i
   .subst hj;rw[hi] at t;cases t;rw[List.getElem?_set_self hiσ] at F;cases F;exact⟨u,r,.inl ⟨hk,⋯⟩⟩
   .rw[List.getElem?_set_ne<|Ne.symm hj] at F;let⟨u',r',q⟩:=hl j y Y t F e3;refine⟨u',r',?_⟩;rcases q with ⟨k,e⟩|⟨k,c,e,z⟩
    .refine .inl ⟨k,?_⟩;have:y≠x:=λe=>hj<|jF hN t<|e▸hi;simp[this,e]
    .exact .inr ⟨k,c,e,z.sameBut l<|cne y c e⟩
  .let⟨T,z⟩:=I.cell y c e;exact⟨T,z.sameBut l<|cne y c e⟩
  .let⟨e,n,ne,nf,d⟩:=I.pin p hp;exact⟨(l.2 p.1 ne).trans e,n,ne,nf,d⟩
 .have G:X.fn x=true:=by
   rcases hf with z|z
   .exact z
   .rw[z] at hk;cases hk
  let⟨c,hc⟩:=I.ok.has x<|.inl hk;let⟨T,z⟩:=I.cell x c hc;refine wpAny_storeName_cell I.ok.kind hk hc z (λh' S l=>?_);let⟨oc,P,L⟩:=id z;refine h {s with heap:=h'} ⟨I.ok,I.os,I.bare,⟨λb o e n J B=>?_,λb o e n J B=>?_,I.base.free,λb o e B=>?_,I.base.tups,I.base.frzs,I.base.tbls⟩,⟨m,hn.sameBut l<|Ne.symm<|cne x c hc,λj y Y t F e3=>?_⟩,λy W e=>?_,I.free,I.freeC,λp hp=>?_,tracked ⟨oc,P,I.freeC x c hc⟩ l,by simpa using I.len⟩ ⟨c,l,.inr hc⟩
  .exact(l.2 b<|xA0<|xBc (xA1 e)<|I.ok.cab x c G hc).trans<|I.base.keep b o e n J B
  .let⟨sl,t⟩:=I.base.slot b o e n J B;exact⟨sl,(l.2 b<|xA0<|xBc (xA1 e)<|I.ok.cab x c G hc).trans t⟩
  .let⟨o',t⟩:=I.base.there b o e B;exact⟨o',(l.2 b<|xA0<|xBc (xA1 e)<|I.ok.cab x c G hc).trans t⟩
  .by_cases hj:j=i
   .subst hj;rw[hi] at t;cases t;rw[List.getElem?_set_self hiσ] at F;cases F;exact⟨u,r,.inr ⟨.inl hk,c,hc,S⟩⟩
   .rw[List.getElem?_set_ne<|Ne.symm hj] at F;let⟨u',r',q⟩:=hl j y Y t F e3;refine⟨u',r',?_⟩;rcases q with q|⟨k,W,e,z'⟩
    .exact .inl q
    .refine .inr ⟨k,W,e,z'.sameBut l ?_⟩;rintro rfl
     exact hj<|jF hN t<|I.ok.inj _ _ _ e hc▸hi
  .by_cases hcc:W=c
   .subst hcc;exact⟨_,S⟩
   .let⟨w2,z2⟩:=I.cell y W e;exact⟨w2,z2.sameBut l hcc⟩
  .let⟨e,n,ne,nf,d⟩:=I.pin p hp;refine⟨(l.2 p.1 ?_).trans e,n,ne,nf,d⟩;intro q;rw[q,P] at e;have q':oc=p.2:=xB3 e;exact d T (by rw[<- q'];exact L)
def fB{E:A4->A5->Prop}{x:Str}{v:V}{u:A4}{Q:Unit->A5->Prop}(I:Inv X Z O H s)(d:X.N.Nodup)(hi:X.N[i]?=some x)(b:Loc X.env.scope x)(r:zAi v u)(h:∀a,Inv X Z (O.set i<|some v) H a->Q Unit.unit a)(c:X.fn x=true\/X.env.scope.names.lookup x=some .local:=by first|exact .inl rfl|exact .inr rfl|assumption):wpAny M A (storeName X.env x u) Q E s:=
 gY I d hi b r (λa I' _=>h a I') c
def Inv.call'{a:A5}(I:Inv X Z O H s)(o:a.os=s.os)(u:Un (frs X.stack) ch H H' s.heap a.heap)(d:HOk X.prog X.w H' a.heap)(q:AllBare a.gens)(l:∀b∈ch,(b∈X.ex\/X.s₀.heap.objs.size<=b)/\b≠X.env.locals/\(∀x c,X.env.cells.lookup x=some c->c≠b)/\∀p∈X.pn++Z,p.1≠b):Inv X Z O H' a:=by
 let⟨h',g',d',t',m⟩:=a;have e:m=s.os:=o;subst e;exact I.call (g':=g') (t':=t') (d':=d') u d q l
end
noncomputable abbrev XK:=A4->A3 A7->Hp->Prop
noncomputable abbrev St:=A0<|A3 V
noncomputable abbrev VK:=V->Hp->Prop
noncomputable abbrev TE:=St->Hp->VK->Prop
noncomputable abbrev TT:=St->Hp->(A8->Hp->Prop)->Prop
noncomputable abbrev TA:=St->Hp->(B3->Hp->Prop)->Prop
structure zDw where
 nx:St->Hp->Prop
 rt:VK
 bk:St->Hp->Prop:=λ_ _=>False
 ct:St->Hp->Prop:=λ_ _=>False
noncomputable abbrev TS:=zDw->St->Hp->Prop
def EP(X:Cx)(Z:A0<|A7×Obj)(O:St)(Q:VK)(u:A4)(a:A5):Prop:=∃v H',Inv X Z O H' a/\zAi v u/\Q v H'
def TP(X:Cx)(Z:A0<|A7×Obj)(O:St)(Q:A8->Hp->Prop)(b:A8)(a:A5):Prop:=∃H',Inv X Z O H' a/\Q b H'
def AP(X:Cx)(Z:A0<|A7×Obj)(O:St)(Q:B3->Hp->Prop)(us:B4)(a:A5):Prop:=∃vs H',Inv X Z O H' a/\zAk vs us/\Q vs H'
def SP(X:Cx)(Z:A0<|A7×Obj)(D:zDw)(f:Flow)(a:A5):Prop:=
 match f with
 |.next=>∃O' H',Inv X Z O' H' a/\D.nx O' H'
 |.brk=>∃O' H',Inv X Z O' H' a/\D.bk O' H'
 |.cont=>∃O' H',Inv X Z O' H' a/\D.ct O' H'
 |.ret u=>∃v O' H',Inv X Z O' H' a/\zAi v u/\D.rt v H'
def PE(X:Cx)(e:A6)(t:TE):Prop:=
 ∀(Z:A0<|A7×Obj)(s:A5)(O:St)(H:Hp)(Q:VK),Inv X Z O H s->t O H Q->wpAny (model X.prog X.w) X.A (eval e X.env) (EP X Z O Q) X.xe s
def PT(X:Cx)(e:A6)(t:TT):Prop:=
 ∀(Z:A0<|A7×Obj)(s:A5)(O:St)(H:Hp)(Q:A8->Hp->Prop),Inv X Z O H s->t O H Q->wpAny (model X.prog X.w) X.A (isTrue e X.env<|eval e X.env) (TP X Z O Q) X.xe s
def PW(X:Cx)(e:A6)(t:TT):Prop:=
 ∀(a:Sem A4)(Z:A0<|A7×Obj)(s:A5)(O:St)(H:Hp)(Q:A8->Hp->Prop),Inv X Z O H s->t O H Q->wpAny (model X.prog X.w) X.A (isTrue e X.env a) (TP X Z O Q) X.xe s
def PW.pt{e:A6}{t:TT}(h:PW X e t):PT X e t:=h _
def PA(X:Cx)(es:A0 A6)(t:TA):Prop:=
 ∀(pos:Pos)(Z:A0<|A7×Obj)(s:A5)(O:St)(H:Hp)(Q:B3->Hp->Prop),Inv X Z O H s->t O H Q->wpAny (model X.prog X.w) X.A (spliced<|backTo pos<|starEach es X.env) (AP X Z O Q) X.xe s
def PS(X:Cx)(a:Stmt)(t:TS):Prop:=
 ∀(Z:A0<|A7×Obj)(s:A5)(O:St)(H:Hp)(D:zDw),Inv X Z O H s->t D O H->wpAny (model X.prog X.w) X.A (exec a X.env) (SP X Z D) X.xe s
def PSs(X:Cx)(a:A0 Stmt)(t:TS):Prop:=
 ∀(Z:A0<|A7×Obj)(s:A5)(O:St)(H:Hp)(D:zDw),Inv X Z O H s->t D O H->wpAny (model X.prog X.w) X.A (execs a X.env) (SP X Z D) X.xe s
def thn{J:Type}{t:Sem J}{Q Q':J->A5->Prop}{E:A4->A5->Prop}(h:wpAny M A t Q E s)(b:∀a s,Q a s->Q' a s):wpAny M A t Q' E s:=wpAny_mono h b λ_ _ x=>x
section
variable{X:Cx}
def zI8(i:Nat):TE:=λO H Q=>∃v,O[i]?=some (some v)/\Q v H
def tC(v:V):TE:=λ_ H Q=>Q v H
def wE{x:Str}(D:X.N[i]?=some x)(q:Vis X.env.scope x)(hd:(x==("__debug__":Str))=false:=by decide)(d:(x==("__classdict__":Str))=false:=by decide):PE X (.Name x pos)<|zI8 i:=by
 intro Z s O H Q I h;let⟨v,e,h⟩:=h;let⟨m,t,B⟩:=I.loc;let⟨u,r,l⟩:=B i x v D e q;have b:EP X Z O Q u s:=⟨v,H,I,r,h⟩
 rcases l with ⟨hk,w⟩|⟨hk,c,o,a⟩
 .exact wpAny_Name (wpAny_loadName_local I.ok.kind hk t w b) hd
 .rcases hk with hk|hk
  .exact wpAny_Name (wpAny_loadName_cell I.ok.kind hk o a b) hd
  .exact wpAny_Name (wpAny_loadName_free I.ok.kind hk o a b d) hd
def wK{i j pos}:PE X (.Constant (.int i) j pos)<|tC<|.int i:=λ_ _ _ H _ I h=>wpAny_Constant_int ⟨.int i,H,I.tok _,⟨_,rfl⟩,h⟩
def u0{b j pos}:PE X (.Constant (.bool b) j pos)<|tC<|.bl b:=λ_ _ _ H _ I h=>Constant_bool ⟨.bl b,H,I,rfl,h⟩
def kK{j pos}:PE X (.Constant .none j pos)<|tC .non:=λ_ _ _ H _ I h=>Constant_none ⟨.non,H,I,rfl,h⟩
def qf{x j pos}:PE X (.Constant (.str x) j pos)<|tC<|.str x:=λ_ _ _ H _ I h=>Calls.Constant_str ⟨.str x,H,I.tok _,⟨_,rfl⟩,h⟩
def Gl(X:Cx)(x:Str):Prop:=X.env.kindOf x=some .globalImplicit
def eG{E:A4->A5->Prop}{O:St}{x:Str}{u:A4}(I:Inv X Z O H s)(b:Gl X x)(a:X.mg x=some u)(h:Q u s)(hd:(x==("__debug__":Str))=false:=by decide):wpAny (model X.prog X.w) X.A (eval (.Name x pos) X.env) Q E s:=
 Calls.Name_function_global I.ok.kind b (Calls.loadGlobal_global (by rw[I.ok.glob];exact I.mod.glob.keeps I.bk) a h) hd
def fg{E:A4->A5->Prop}{O:St}{x:Str}{u:A4}(I:Inv X Z O H s)(d:Gl X x)(c:X.mg x=none)(a:bootBuiltins x=some u)(h:Q u s)(b:x≠"__name__":=by decide)(hd:(x==("__debug__":Str))=false:=by decide):wpAny (model X.prog X.w) X.A (eval (.Name x pos) X.env) Q E s:=by
 let⟨m,l,e⟩:=I.mod.blt;exact Calls.Name_function_global I.ok.kind d (Calls.loadGlobal_builtin (by rw[I.ok.glob];exact I.mod.glob.keeps I.bk) c (by rw[I.ok.blt];exact l.keeps I.bk) ((e x b).trans a) h) hd
def iH{x:Str}{v:V}{u:A4}(b:Gl X x)(a:X.mg x=some u)(r:zAi v u)(hd:(x==("__debug__":Str))=false:=by decide):PE X (.Name x pos)<|tC v:=
 λ_ _ _ H _ I h=>eG I b a ⟨v,H,I,r,h⟩ hd
def tF{x:Str}{v:V}{u:A4}(d:Gl X x)(c:X.mg x=none)(a:bootBuiltins x=some u)(r:zAi v u)(b:x≠"__name__":=by decide)(hd:(x==("__debug__":Str))=false:=by decide):PE X (.Name x pos)<|tC v:=
 λ_ _ _ H _ I h=>fg I d c a ⟨v,H,I,r,h⟩ b hd
variable{a b:A6}{ta tb:TE}{pos:Pos}
def tB(t:TE):TT:=λO H Q=>t O H λx H1=>∃c,x=.bl c/\Q c H1
def v7{e:A6}{t:TE}(h:PE X e t)(o:∀c,isTrue e X.env c=(do let v <- c;standAt e.pos;holding [v] (truthy v)):=by intro _;rfl):PT X e<|tB t:=by
 intro Z s O H Q I m;refine isTrue_plain (thn (h Z s O H _ I m) λv r ⟨x,H1,I1,r1,l⟩=>?_) (o _);let⟨d,rfl,q⟩:=l;cases r1;exact wpAny_truthy_bool ⟨H1,I1,q⟩
variable{tA tB':TT}{rest:A0 A6}
def zJk(t u:TT):TT:=λO H Q=>t O H λc H1=>if c=true then u O H1 Q else Q false H1
def tOr(t u:TT):TT:=λO H Q=>t O H λc H1=>if c=true then Q true H1 else u O H1 Q
def zJf(t:TT):TT:=λO H Q=>t O H λc H1=>Q (!c) H1
theorem sC(d:PT X a tA):PW X (.BoolOp .And [a] pos) tA:=by
 intro l Z s O H Q I h;refine isTrue_and (thn (d Z s O H Q I h) λc m e=>?_);cases c with
 |true=>exact isTrue_and_nil e
 |false=>exact e
theorem v3(d:PT X a tA):PW X (.BoolOp .Or [a] pos) tA:=by
 intro l Z s O H Q I h;refine isTrue_or (thn (d Z s O H Q I h) λc m e=>?_);cases c with
 |false=>exact isTrue_or_nil e
 |true=>exact e
theorem v4(o:PT X a tA)(m:PW X (.BoolOp .And (b::rest) pos) tB'):PW X (.BoolOp .And (a::b::rest) pos)<|zJk tA tB':=by
 intro e Z s O H Q I h;refine isTrue_and (thn (o Z s O H _ I h) λc l ⟨H1,I1,d⟩=>?_);cases c with
 |true=>exact m e Z l O H1 Q I1 d
 |false=>exact⟨H1,I1,d⟩
theorem yG(o:PT X a tA)(m:PW X (.BoolOp .Or (b::rest) pos) tB'):PW X (.BoolOp .Or (a::b::rest) pos)<|tOr tA tB':=by
 intro e Z s O H Q I h;refine isTrue_or (thn (o Z s O H _ I h) λc l ⟨H1,I1,d⟩=>?_);cases c with
 |true=>exact⟨H1,I1,d⟩
 |false=>exact m e Z l O H1 Q I1 d
def wa(d:PT X a tA):PT X (.UnaryOp .Not a pos)<|zJf tA:=by
 intro Z s O H Q I h;exact isTrue_not (d Z s O H (λc H1=>Q (!c) H1) I h)
def zGs(ta tb:TE):TE:=λO H Q=>ta O H λx H1=>∃c,x=.bl c/\if c=true then tb O H1 Q else Q (.bl false) H1
def zJe(ta tb:TE):TE:=λO H Q=>ta O H λx H1=>∃c,x=.bl c/\if c=true then Q (.bl true) H1 else tb O H1 Q
def zGo(ta:TE):TE:=λO H Q=>ta O H λx H1=>∃c,x=.bl c/\Q (.bl (!c)) H1
def wH{op}{t:TE}(h:PE X a t):PE X (.BoolOp op [a] pos) t:=λZ s O H Q I c=>BoolOp_one<|h Z s O H Q I c
theorem wN(o:PE X a ta)(m:PE X (.BoolOp .And (b::rest) pos) tb):PE X (.BoolOp .And (a::b::rest) pos)<|zGs ta tb:=by
 intro Z s O H Q I h;refine BoolOp_and (thn (o Z s O H _ I h) λv l e=>?_);let⟨x,H1,I1,r1,d⟩:=e;let⟨c,rfl,d⟩:=d;cases r1;erw[wpAny_truthy_bool];cases c with
 |true=>exact m Z l O H1 Q I1 d
 |false=>exact⟨.bl false,H1,I1,rfl,d⟩
theorem yO(o:PE X a ta)(m:PE X (.BoolOp .Or (b::rest) pos) tb):PE X (.BoolOp .Or (a::b::rest) pos)<|zJe ta tb:=by
 intro Z s O H Q I h;refine BoolOp_or (thn (o Z s O H _ I h) λv l e=>?_);let⟨x,H1,I1,r1,d⟩:=e;let⟨c,rfl,d⟩:=d;cases r1;erw[wpAny_truthy_bool];cases c with
 |false=>exact m Z l O H1 Q I1 d
 |true=>exact⟨.bl true,H1,I1,rfl,d⟩
def wI(l:PE X a ta):PE X (.UnaryOp .Not a pos)<|zGo ta:=by
 intro Z s O H Q I h;refine UnaryOp_ (thn (l Z s O H _ I h) λv m e=>?_);let⟨x,H1,I1,r1,d⟩:=e;let⟨c,rfl,d⟩:=d;cases r1;exact not_of<|wpAny_truthy_bool ⟨.bl (!c),H1,I1,rfl,d⟩
def tIf(t:TT)(ta tb:TE):TE:=λO H Q=>t O H λc H1=>if c=true then ta O H1 Q else tb O H1 Q
theorem qi{c:A6}(m:PT X c tA)(q:PE X a ta)(o:PE X b tb):PE X (.IfExp c a b pos)<|tIf tA ta tb:=by
 intro Z s O H Q I h;refine wpAny_IfExp (thn (m Z s O H _ I h) λd e ⟨H1,I1,l⟩=>?_);cases d with
 |true=>exact q Z e O H1 Q I1 l
 |false=>exact o Z e O H1 Q I1 l
end
def SqL(K:xFr)(H:Hp)(a:A7)(xs:B3):Prop:=
 Rd H a (.lst xs) \/
  ∃(o:Obj) (b:Array A4) (n:Nat),K.lookup a=some o/\o.cls=.type "list"/\o.dict=none/\o.data=.seq b n/\b.size<=sizeLine/\zAk xs b.toList
def SqT(K:xFr)(H:Hp)(a:A7)(xs:B3):Prop:=
 Rd H a (.tup xs) \/
  ∃(o:Obj) (b:Array A4) (n:Nat),K.lookup a=some o/\o.cls=.type "tuple"/\o.data=.seq b n/\b.size<=sizeLine/\zAk xs b.toList
noncomputable def zJ4:A4->A3 V
 |.none=>some .non
 |.bool b=>some<|.bl b
 |.int i _=>some<|.int i
 |.str x _=>some<|.str x
 |.bytes b _=>some<|.byt b
 |.float b _=>some<|.flt b
 |.ref a=>some<|.ref a
 |.type n=>some<|.ty n
 |_=>none
theorem zAi.abs{x:V}{u:A4}(r:zAi x u):zJ4 u=some x:=by
 cases x with
 |non=>cases r;rfl
 |bl _=>cases r;rfl
 |int _=>let⟨t,rfl⟩:=r;rfl
 |str _=>let⟨t,rfl⟩:=r;rfl
 |byt _=>let⟨t,rfl⟩:=r;rfl
 |flt _=>let⟨t,rfl⟩:=r;rfl
 |ref _=>cases r;rfl
 |ty _=>cases r;rfl
def zAi.inj{x:V}{u:A4}(r:zAi x u)(q:zAi y u):x=y:=xB3<|r.abs.symm.trans q.abs
theorem zAk.inj:∀{xs ys:B3}{us:B4},zAk xs us->zAk ys us->xs=ys
 |_,_,_,.nil,.nil=>rfl
 |_,_,_,.cons r t,.cons r' t'=>by rw[r.inj r',zAk.inj t t']
section
variable{X:Cx}{Z:A0<|A7×Obj}{O:St}{H:Hp}{s:A5}{a:A7}{xs ys:B3}
def SqL.of(h:H a=some (.lst xs)):SqL K H a xs:=.inl<|.inl h
def SqT.of(h:H a=some (.tup xs)):SqT K H a xs:=.inl<|.inl h
def Inv.list(I:Inv X Z O H s)(h:SqL X.K H a xs):∃b:B4,zAk xs b/\PlainL s.heap a b.toArray/\xs.length<=sizeLine:=by
 rcases h with h|⟨o,b,n,hk,hc,hd,hs,hz,r⟩
 .let⟨z,b,n,r,e⟩:=h.ok I.hok;exact⟨b,r,⟨_,n,e,rfl,rfl,rfl⟩,z⟩
 .refine⟨b.toList,r,⟨o,n,I.kIn a o hk,hc,hd,by simpa using hs⟩,?_⟩;have e:=r.length;simp only[xAh] at e;lia
def Inv.tuple(I:Inv X Z O H s)(h:SqT X.K H a xs):∃b:B4,zAk xs b/\IsTup s.heap a b.toArray/\xs.length<=sizeLine:=by
 rcases h with h|⟨o,b,n,hk,hc,hs,hz,r⟩
 .let⟨z,b,r,p⟩:=h.ok I.hok;exact⟨b,r,p,z⟩
 .refine⟨b.toList,r,⟨o,I.kIn a o hk,hc,n,by simpa using hs⟩,?_⟩;have e:=r.length;simp only[xAh] at e;lia
def Inv.list_inj(I:Inv X Z O H s)(h:SqL X.K H a xs)(h':SqL X.K H a ys):xs=ys:=by
 let⟨c,r,⟨o,n,e,_,_,d⟩,_⟩:=I.list h;let⟨b,r',⟨m,q,l,_,_,d'⟩,_⟩:=I.list h';rw[e] at l;cases l;rw[d] at d';injection d' with d1 _;have:c=b:=by simpa using congrArg Array.toList d1
 subst this;exact r.inj r'
def Inv.tuple_inj(I:Inv X Z O H s)(h:SqT X.K H a xs)(h':SqT X.K H a ys):xs=ys:=by
 let⟨c,r,⟨o,e,_,n,d⟩,_⟩:=I.tuple h;let⟨b,r',⟨m,l,_,q,d'⟩,_⟩:=I.tuple h';rw[e] at l;cases l;rw[d] at d';injection d' with d1 _;have:c=b:=by simpa using congrArg Array.toList d1
 subst this;exact r.inj r'
end
noncomputable abbrev Cx.wish(X:Cx)(E:A4->A5->Prop):Cx:={X with xe:=E}
theorem Cx.Ok.wish{X:Cx}(ok:X.Ok)(E:A4->A5->Prop):(X.wish E).Ok:=
 ⟨ok.mod,ok.kind,ok.glob,ok.blt,ok.above,ok.inj,ok.has,ok.cab,ok.hd,ok.frames,ok.stk,ok.exf,ok.bs,ok.bsz,ok.noex,ok.exfs,ok.funs,ok.frf⟩
def Cx.Ok.unwish{E:A4->A5->Prop}(ok:(X.wish E).Ok):X.Ok:=
 ⟨ok.mod,ok.kind,ok.glob,ok.blt,ok.above,ok.inj,ok.has,ok.cab,ok.hd,ok.frames,ok.stk,ok.exf,ok.bs,ok.bsz,ok.noex,ok.exfs,ok.funs,ok.frf⟩
section
variable{X:Cx}{Z:A0<|A7×Obj}{O:St}{H:Hp}{s:A5}{E:A4->A5->Prop}
theorem Inv.wish(I:Inv X Z O H s)(E:A4->A5->Prop):Inv (X.wish E) Z O H s:=⟨I.ok.wish E,I.os,I.bare,I.base,I.loc,I.cell,I.free,I.freeC,I.pin,I.hok,I.len⟩
theorem Inv.unwish(I:Inv (X.wish E) Z O H s):Inv X Z O H s:=⟨I.ok.unwish,I.os,I.bare,I.base,I.loc,I.cell,I.free,I.freeC,I.pin,I.hok,I.len⟩
end
section
variable{X:Cx}{st:Stmt}{rest:A0 Stmt}{t u:TS}{e:A6}{te:TE}{pos:Pos}
def zEz:TS:=λD O H=>D.nx O H
def zJb(t u:TS):TS:=λD O H=>t {D with nx:=u D} O H
def sM:PSs X [] zEz:=λ_ _ O H _ I h=>wpAny_execs_nil ⟨O,H,I,h⟩
theorem pN(c:PS X st t)(b:PSs X rest u):PSs X (st::rest)<|zJb t u:=by
 intro Z s O H D I h;refine wpAny_execs_cons (thn (c Z s O H {D with nx:=u D} I h) λf a q=>?_);cases f with
 |next=>
  let⟨O',H',I',q⟩:=q;exact b Z a O' H' D I' q
 |ret v=>exact q
 |brk=>exact q
 |cont=>exact q
theorem sL(a:PS X st t):PSs X [st] t:=by
 intro Z s O H D I h;refine wpAny_execs_cons (thn (a Z s O H D I h) λf b q=>?_);cases f with
 |next=>exact wpAny_execs_nil q
 |ret v=>exact q
 |brk=>exact q
 |cont=>exact q
def sO:PS X (.Pass pos) zEz:=λ_ _ O H _ I h=>wpAny_Pass ⟨O,H,I,h⟩
def Inv.quiet{O:St}(I:Inv X Z O H s):interactive X.env=false:=by simp[interactive,I.ok.kind]
def zE1(te:TE):TS:=λD O H=>te O H λ_ H1=>D.nx O H1
def sT(c:PE X e te)(b:swapsWith e none pos.line X.env=pure false:=by rfl):PS X (.Expr e pos)<|zE1 te:=by
 intro Z s O H D I h;exact wpAny_Expr_any (thn (c Z s O H _ I h) λv d ⟨x,H1,I1,r1,a⟩=>⟨O,H1,I1,a⟩) I.quiet b
def zJc(te:TE):TS:=λD O H=>te O H D.rt
def wm(b:PE X e te):PS X (.Return (some e) pos)<|zJc te:=by
 intro Z s O H D I h;exact wpAny_Return_some (thn (b Z s O H _ I h) λv c ⟨x,H1,I1,r1,a⟩=>⟨x,O,H1,I1,r1,a⟩)
def zJh(c:TT)(t u:TS):TS:=λD O H=>c O H λb H1=>if b=true then t D O H1 else u D O H1
theorem yH{c:A6}{a b:A0 Stmt}{l:TT}(q:PT X c l)(v:PSs X a t)(r:PSs X b u):PS X (.If c a b pos)<|zJh l t u:=by
 intro Z s O H D I h;refine wpAny_If (thn (q Z s O H _ I h) λd m ⟨H1,I1,o⟩=>?_);cases d with
 |true=>exact v Z m O H1 D I1 o
 |false=>exact r Z m O H1 D I1 o
end
noncomputable abbrev TG:=V->St->Hp->(St->Hp->Prop)->Prop
noncomputable abbrev TGs:=B3->St->Hp->(St->Hp->Prop)->Prop
def PG(X:Cx)(target:A6)(t:TG):Prop:=
 ∀(Z:A0<|A7×Obj)(s:A5)(O:St)(H:Hp)(v:V)(u:A4)(Q:St->Hp->Prop),Inv X Z O H s->zAi v u->t v O H Q ->
  wpAny (model X.prog X.w) X.A (assign target X.env u) (λ_ a=>∃O' H',Inv X Z O' H' a/\Q O' H') X.xe s
def PGs(X:Cx)(ts:A0 A6)(t:TGs):Prop:=
 ∀(Z:A0<|A7×Obj)(s:A5)(O:St)(H:Hp)(vs:B3)(us:B4)(Q:St->Hp->Prop),Inv X Z O H s->zAk vs us->t vs O H Q ->
  wpAny (model X.prog X.w) X.A (assignInOrder ((assignEach ts X.env).map (·.2)) us) (λ_ a=>∃O' H',Inv X Z O' H' a/\Q O' H') X.xe s
noncomputable abbrev zGh:=V->V->V->Hp->(Hp->Prop)->Prop
def zHn(X:Cx)(t:zGh):Prop:=
 ∀(Z:A0<|A7×Obj)(s:A5)(O:St)(H:Hp)(o i v:V)(a b u:A4)(Q:Hp->Prop),Inv X Z O H s->zAi o a->zAi i b->zAi v u->t o i v H Q ->
  wpAny (model X.prog X.w) X.A (setItem a b u) (λ_ c=>∃H',Inv X Z O H' c/\Q H') X.xe s
section
variable{X:Cx}{pos:Pos}
def zDg(i:Nat):TG:=λv O H Q=>Q (O.set i<|some v) H
def l9{x:Str}(c:X.N.Nodup)(hi:X.N[i]?=some x)(a:Loc X.env.scope x)(b:X.fn x=true\/X.env.scope.names.lookup x=some .local:=by first|exact .inl rfl|exact .inr rfl|assumption):PG X (.Name x pos)<|zDg i:=by
 intro Z s O H v u Q I r h;exact wpAny_assign_Name (fB I c hi a r (λd I'=>⟨_,H,I',h⟩) b)
def zIs:TGs:=λvs O H Q=>vs=[]/\Q O H
def zFu(t:TG)(u:TGs):TGs:=λvs O H Q=>∃v r,vs=v::r/\t v O H λO' H'=>u r O' H' Q
def tw:PGs X [] zIs:=by
 intro Z s O H vs us Q I r h;let⟨e,h⟩:=h;subst e;cases r;exact assignInOrder_nil ⟨O,H,I,h⟩
theorem qd{e:A6}{t:TG}{u:TGs}(o:PG X e t)(m:PGs X es u)(l:(assignEach (e::es) X.env).map (·.2)=assign e X.env::(assignEach es X.env).map (·.2):=by rfl):PGs X (e::es)<|zFu t u:=by
 intro Z s O H vs us Q I r h;let⟨v,w,q,h⟩:=h;subst q;cases r with
 |cons r c=>
  rw[l];refine assignInOrder_cons (thn (o Z s O H _ _ _ I r h) λ_ b a=>?_);let⟨σ1,H1,I1,d⟩:=a;exact m Z b σ1 H1 _ _ Q I1 c d
def zHd(K:xFr)(n:Nat)(t:TGs):TG:=λv O H Q=>∃a b,v=.ref a/\SqT K H a b/\b.length=n/\t b O H Q
def qe{t:TGs}(F:X.calm=true)(h:PGs X es t)(D:(assignEach es X.env).length=n:=by rfl)(d:(assignEach es X.env).findIdx? (·.1)=none:=by rfl):PG X (.Tuple es k pos)<|zHd X.K n t:=by
 intro Z s O H v u Q I r c;let⟨a,m,J,B,E,c⟩:=c;subst J;cases r;let⟨q,l,x,L⟩:=I.tuple B;refine assign_Tuple_tuple (I.ok.hd F) x (by simp[D,<- E,l.length]) d λG w=>?_;have I1:Inv X Z O H {s with heap:=G}:=I.kept (t':=s.toks) λb o e=>w b o (xA0<|xA1 e) e;exact h Z _ O H m _ Q I1 (by simpa using l) c
def zJ1(to a:TE)(t:zGh):TG:=λv O H Q=>to O H λo H1=>a O H1 λi H2=>t o i v H2 λH3=>Q O H3
def wB{o i:A6}{to d:TE}{t:zGh}(D:PE X o to)(hi:PE X i d)(B:zHn X t)(E:∀v,assign (.Subscript o i pos) X.env v=(do
   let a <- holding [v] (eval o X.env)
   let b <- holding [v,a] (eval i X.env)
   standAt pos
   holding [v,a,b] (setItem a b v)
   release [v,a,b] []):=by intro _;rfl):PG X (.Subscript o i pos)<|zJ1 to d t:=by
 intro Z s O H v u Q I r h;rw[E];refine xAd (xDc<|thn (D Z s O H _ I h) λa l c=>?_);let⟨x,H1,I1,r1,w⟩:=c;refine xAd (xDc<|thn (hi Z l O H1 _ I1 w) λb e c=>?_);let⟨y,H2,I2,r2,q⟩:=c;refine xAd (wpAny_standAt<|xAd<|xDc<|thn (B Z e O H2 x y v a b u _ I2 r1 r2 r q) λ_ F ⟨H3,I3,m⟩=>?_);exact wpAny_release ⟨O,H3,I3,m⟩
def zF8(te:TE)(g:TG):TS:=λD O H=>te O H λx H1=>g x O H1 D.nx
def pO{e:A6}{g:TG}(m:PE X e te)(l:PG X tg g)(d:swapsWithSole [tg] e pos.line X.env=pure false:=by rfl)(c:swappedStores [tg] e X.env=pure none:=by rfl)(o:(assignEach [tg] X.env).map (·.2)=[assign tg X.env]:=by rfl):PS X (.Assign [tg] e pos)<|zF8 te g:=by
 intro Z s O H D I h;refine wpAny_Assign_stores (thn (m Z s O H _ I h) λv a ⟨x,H1,I1,r1,b⟩=>?_) d c;rw[o];exact thn (l Z a O H1 x v _ I1 r1 b) λ_ r q=>q
def wj{x:Str}{e:A6}{a:Pos}(o:X.N.Nodup)(hi:X.N[i]?=some x)(c:Loc X.env.scope x)(m:PE X e te)(d:swapsWith e (some<|.Name x a) pos.line X.env=pure false:=by rfl)(l:X.fn x=true\/X.env.scope.names.lookup x=some .local:=by first|exact .inl rfl|exact .inr rfl|assumption) :
  PS X (.Assign [.Name x a] e pos) (zF8 te<|zDg i):=by
 intro Z s O H D I h;refine wpAny_Assign_Name (thn (m Z s O H _ I h) λv r ⟨y,H1,I1,r1,b⟩=>?_) d;exact fB I1 o hi c r1 (λq I2=>⟨_,H1,I2,b⟩) l
def zJd(i j:Nat)(a:TA):TS:=λD O H=>a O H λvs H1=>∃v w,vs=[v,w]/\D.nx ((O.set i<|some v).set j<|some w) H1
def wn{x y:Str}{a b:A6}{F:TA}{t r pt:Pos}{kt k2 pt2}(hc:X.calm=true)(L:X.N.Nodup)(hi:X.N[i]?=some x)(Y:X.N[j]?=some y)(E:i≠j)(J:X.env.scope.names.lookup x=some .local)(G:X.env.scope.names.lookup y=some .local)(ha:PA X [a,b] F)(T:swappedStores [.Tuple [.Name x t,.Name y r] kt pt] (.Tuple [a,b] k2 pt2) X.env=pure (some [x,y]))(W:swapsWithSole [.Tuple [.Name x t,.Name y r] kt pt] (.Tuple [a,b] k2 pt2) pos.line X.env=pure false:=by rfl) :
  PS X (.Assign [.Tuple [.Name x t,.Name y r] kt pt] (.Tuple [a,b] k2 pt2) pos) (zJd i j F):=by
 intro Z s O H D I h;rw[exec_Assign_arm];refine xAd (wpAny_standAt ?_);rw[W];refine xAd (xAe ?_);rw[xCf ∅];refine xAd (Tuple_<|thn (ha _ Z s O H _ I h) λus l P=>?_);let⟨vs,H1,I1,r1,m⟩:=P;let⟨v,w,e1,m⟩:=m;subst e1;obtain⟨d,c,rfl,rv,rw'⟩:∃d c,us=[d,c]/\zAi v d/\zAi w c:=by
  cases r1 with
  |cons p q=>
   cases q with
   |cons S R=>
    cases R;exact⟨_,_,rfl,p,S⟩
 refine xBl ?_ (by show 2<=sizeLine;decide);have I2:Inv X Z O H1 {l with heap:=l.heap.push {cls:=.type "tuple",data:=.seq [d,c].toArray} }:=I1.kept (t':=l.toks) λb o e=>xAf _ e;rw[T];refine xAd<|xAe ?_;show wpAny (model X.prog X.w) X.A (do rule "assign.swapped-stores";let items <- unpackItems (.ref l.heap.objs.size) 2 none;assignInOrder [λv=>bindName X.env y v,λv=>bindName X.env x v] items.reverse;pure Flow.next) _ _ _;refine xAd (wpAny_rule<|xAd<|unpackItems_tuple (items:=#[d,c]) (I.ok.hd hc) (IsTup.new l.heap _) λh' B=>?_);have I3:=I2.kept (h':=h') (t':=l.toks) λb o e=>B b o (xA0<|xA1 e) e;show wpAny _ _ (assignInOrder [λv=>bindName X.env y v,λv=>bindName X.env x v] [c,d]>>=λ_=>pure Flow.next) _ _ _;erw[<-xAd<|assignInOrder_cons<|wpAny_bindName<|fB I3 L Y (.inl G) rw' (λs2 I4=>?_)<|.inr G,<-assignInOrder_cons<|wpAny_bindName<|fB I4 L hi (.inl J) rv (λs3 I5=>assignInOrder_nil<|xAe ?_)<|.inr J];rw[List.set_comm _ _<|Ne.symm E] at I5;exact⟨_,H1,I5,m⟩
end
structure It where
 go:Nat->Hp->Prop
 yld:Nat->Hp->V->Hp->Prop
 stop:Nat->Hp->Prop
def zCy(X:Cx)(Z:A0<|A7×Obj)(H:Hp)(b:A7):Prop:=
 H b=none/\b≠X.env.locals/\b∉X.fs/\(b∈X.ex\/X.s₀.heap.objs.size<=b)/\(∀x c,X.env.cells.lookup x=some c->c≠b)/\∀p∈X.pn++Z,p.1≠b
def Inv.fpOk{O:St}{H':Hp}{b:A7}(I:Inv X Z O H s)(a:s.heap.objs.size<=b)(l:H' b=none):zCy X Z H' b:=by
 refine⟨l,Nat.ne_of_gt<|xBc I.lt a,I.nofs a,.inr<|xCk I.sz a,λx c e z=>?_,λp d z=>?_⟩
 .let⟨v,q⟩:=I.cell x c e;exact absurd (xBc q.lt<|by rw[z];exact a)<|xBo _
 .exact absurd (xBc (xA1 (I.pin p d).1)<|by rw[z];exact a)<|xBo _
structure zEl(P:Program)(w:World)(K:xFr)(tg:A6)(m0J:It)(fp:A0 A7)(it:A7)(tn:Nat->Heap->Prop):Prop where
 mem:it∈fp
 obj:∀i h,tn i h->∀b∈fp,∃o,h.get? b=some o/\∀v,o.data≠.cell v
 keep:∀i h h',tn i h->(∀b∈fp,∀o,h.get? b=some o->h'.get? b=some o)->tn i h'
 item:∀(X:Cx),X.prog=P->X.w=w->X.K=K->X.calm=true->∀(i:Nat)(Z:A0 (A7×Obj))(s:A5)(O:St)(H:Hp)(E:A4->A5->Prop),Inv X Z O H s->(∀b∈fp,zCy X Z H b)->tn i s.heap->m0J.go i H ->
  wpAny (model P w) X.A (pyNext (.ref it)) (λr s1=>∃u,r=some u /\
   wpAny (model P w) X.A (letOwnedTupleGo tg (.ref it) u) (λ_ s2=>∃x H',Inv X Z O H' s2/\zAi x u/\m0J.yld i H x H'/\tn (i+1) s2.heap/\∀b∈fp,H' b=none) E s1) E s
 done:∀(X:Cx),X.prog=P->X.w=w->X.K=K->X.calm=true->∀(i:Nat)(Z:A0 (A7×Obj))(s:A5)(O:St)(H:Hp)(E:A4->A5->Prop),Inv X Z O H s->(∀b∈fp,zCy X Z H b)->tn i s.heap->m0J.stop i H ->
  wpAny (model P w) X.A (pyNext (.ref it)) (λr s1=>r=none/\Inv X Z O H s1) E s
 self:∀(A:Around)(i:Nat)(s:A5)(Q:A4->A5->Prop)(E:A4->A5->Prop),tn i s.heap->Q (.ref it) s->wpAny (model P w) A (pyIter (.ref it)) Q E s
noncomputable abbrev TI:=St->Hp->(It->Hp->Prop)->Prop
def PIE(X:Cx)(Z:A0<|A7×Obj)(O:St)(tg:A6)(R:It->Hp->Prop)(c:A4)(d:A5):Prop:=
 ∃(it:A7) (fp:A0 A7) (tn:Nat->Heap->Prop) (a:It) (H':Hp),c=.ref it/\Inv X Z O H' d/\zEl X.prog X.w X.K tg a fp it tn/\tn 0 d.heap/\(∀b∈fp,zCy X Z H' b)/\R a H'
def PI(X:Cx)(tg a:A6)(wi:TI):Prop:=
 ∀(Z:A0<|A7×Obj)(s:A5)(O:St)(H:Hp)(R:It->Hp->Prop),Inv X Z O H s->wi O H R ->
  wpAny (model X.prog X.w) X.A (eval a X.env) (λv b=>wpAny (model X.prog X.w) X.A (pyIter v) (PIE X Z O tg R) X.xe b) X.xe s
def mW{E:A4->A5->Prop}{it:A7}{u:A4}{o:Obj}{n:String}{vs:Array A4}{Q:Unit->A5->Prop}(b:s.heap.get? it=some o)(d:o.cls=.type n)(hd:o.data=.fields vs)(c:["enumerate","zip","dict_itemiterator","dict_reverseitemiterator","odict_iterator","itertools.zip_longest","itertools.pairwise"].contains n=false)(a:Q Unit.unit s):wpAny M A (letOwnedTupleGo tg (.ref it) u) Q E s:=by
 unfold letOwnedTupleGo;cases tg <;> first
  |exact xAe a
  | (cases u <;> first
    |exact xAe a
    | (refine xAd (wpAny_load b ?_)
       rw[d,hd];show wpAny M A (if(["enumerate","zip","dict_itemiterator","dict_reverseitemiterator","odict_iterator","itertools.zip_longest","itertools.pairwise"].contains n&&vs[0]?==some (rawInt _))=true then _ else _) Q E s;rw[xCf<|by intro h;rw[c,Bool.false_and] at h;cases h];exact xAe a))
noncomputable def Itl(K:xFr)(a:A7):It:=
 ⟨λi H=>∃b x,SqL K H a b/\b[i]?=some x,λi H x H'=>H'=H/\∀b,SqL K H a b->b[i]?=some x,λi H=>∃b,SqL K H a b/\b.length<=i⟩
noncomputable def Itt(K:xFr)(a:A7):It:=
 ⟨λi H=>∃b x,SqT K H a b/\b[i]?=some x,λi H x H'=>H'=H/\∀b,SqT K H a b->b[i]?=some x,λi H=>∃b,SqT K H a b/\b.length<=i⟩
noncomputable def Itr(lo:Int)(n:Nat):It:=⟨λi _=>i<n,λi H x H'=>H'=H/\x=.int (lo+i),λi _=>n<=i⟩
def nF{P:Program}{w:World}(a it:A7):zEl P w K tg (Itl K a) [it] it (λi h=>h.IsListIter it a i) where
 mem:=by simp
 obj:=λi h l b m=>by
  have e:b=it:=by simpa using m
  subst e;let⟨o,e,c,d⟩:=l;exact⟨o,e,λv z=>by rw[d] at z;cases z⟩
 keep:=λi h B l k=>l.at λo e=>k it ⋯ o e
 item:=by
  intro X R J S hc i Z s O H E I t l L;subst R J S;let⟨xs,x,r,G⟩:=L;let⟨F,D,p,hz⟩:=I.list r;let⟨u,hu,ru⟩:=D.get G;let⟨f0,f1,f2,Y,W,T⟩:=t it ⋯;refine wpAny_pyNext_list_item l p.isList (x:=u) (by simpa using hu) λB q sb=>?_;have I1:Inv X Z O H {s with heap:=B}:=I.turned (t':=s.toks) (λb o m e=>(sb.2 b m).trans e) f0 f1 Y W T;let⟨o,e,c,d⟩:=id q;exact⟨u,rfl,mW (s:={s with heap:=B}) e c d ∅ ⟨x,H,I1,ru,⟨rfl,λys hy=>by rw[I.list_inj hy r];exact G⟩,q,λb m=>(t b m).1⟩⟩
 done:=by
  intro X R J S hc i Z s O H E I t l L;subst R J S;let⟨xs,r,G⟩:=L;let⟨F,D,p,hz⟩:=I.list r;let⟨f0,f1,f2,Y,W,T⟩:=t it ⋯;have hl:=D.length;exact wpAny_pyNext_list_end (I.ok.hd hc) l p.isList (by simp;lia) λB eb=>⟨rfl,I.turned (t':=s.toks) (λb o m e=>eb b o m e) f0 f1 Y W T⟩
 self:=λ_ _ _ _ _ l h=>wpAny_pyIter_listiter l h
def kh{P:Program}{w:World}(a it:A7):zEl P w K tg (Itt K a) [it] it (λi h=>h.IsTupleIter it a i) where
 mem:=by simp
 obj:=λi h l b q=>by
  have e:b=it:=by simpa using q
  subst e;let⟨o,e,c,d⟩:=l;exact⟨o,e,λv z=>by rw[d] at z;cases z⟩
 keep:=λi h D l k=>l.at λo e=>k it ⋯ o e
 item:=by
  intro X R J S hc i Z s O H E I B l L;subst R J S;let⟨xs,x,t,G⟩:=L;let⟨m,F,p,hz⟩:=I.tuple t;let⟨u,hu,ru⟩:=F.get G;let⟨f0,f1,f2,Y,W,T⟩:=B it ⋯;refine wpAny_pyNext_tuple_item l (show s.heap.IsTuple a m.toArray from p) (x:=u) (by simpa using hu) λD r sb=>?_;have I1:Inv X Z O H {s with heap:=D}:=I.turned (t':=s.toks) (λb o q e=>(sb.2 b q).trans e) f0 f1 Y W T;let⟨o,e,c,d⟩:=id r;exact⟨u,rfl,mW (s:={s with heap:=D}) e c d ∅ ⟨x,H,I1,ru,⟨rfl,λys hy=>by rw[I.tuple_inj hy t];exact G⟩,r,λb q=>(B b q).1⟩⟩
 done:=by
  intro X R J S hc i Z s O H E I B l L;subst R J S;let⟨xs,t,G⟩:=L;let⟨m,F,p,hz⟩:=I.tuple t;let⟨f0,f1,f2,Y,W,T⟩:=B it ⋯;have hl:=F.length;exact wpAny_pyNext_tuple_end (I.ok.hd hc) l (show s.heap.IsTuple a m.toArray from p) (by simp;lia) λD eb=>⟨rfl,I.turned (t':=s.toks) (λb o q e=>eb b o q e) f0 f1 Y W T⟩
 self:=λ_ _ _ _ _ l h=>wpAny_pyIter_tupleiter l h
def ki{P:Program}{w:World}(it:A7)(lo:Int)(n:Nat):zEl P w K tg (Itr lo n) [it] it (λi h=>IsRangeIter h it (lo+(i:Nat)*1) ((n:Int)-(i:Nat)) 1) where
 mem:=by simp
 obj:=λi h a b c=>by
  have e:b=it:=by simpa using c
  subst e;exact⟨_,a,λv z=>by
   have S:Data.fields _=Data.cell v:=z;cases S⟩
 keep:=λi h m a k=>k it ⋯ _ a
 item:=by
  intro X B q D x i Z s O H E I l a r;subst B q D;let⟨R,L,f2,J,G,F⟩:=l it ⋯;have W:=Walks.range (prog:=X.prog) (w:=X.w) (I.ok.hd x) it lo 1 n;refine W.item i s _ _ r a λv m tk Y d T=>?_;let⟨t,rfl⟩:=Y;have I1:Inv X Z O H {s with heap:=m,toks:=tk}:=I.turned (λb o c e=>T b o (by simpa using c) e) R L J G F;refine⟨_,rfl,mW (s:={s with heap:=m,toks:=tk}) (n:="range_iterator") d rfl rfl ∅ ⟨.int<|lo+i,H,I1,⟨t,?_⟩,⟨rfl,rfl⟩,d,λb c=>(l b c).1⟩⟩;rw[Int.mul_one]
 done:=by
  intro X B q D x i Z s O H E I l a r;subst B q D;let⟨R,L,f2,J,G,F⟩:=l it ⋯;exact wpAny_pyNext_range_end (I.ok.hd x) a (by have:n<=i:=r;lia) λm eb=>⟨rfl,I.turned (t':=s.toks) (λb o c e=>eb b o c e) R L J G F⟩
 self:=λ_ _ _ _ _ a h=>wpAny_pyIter_rangeiter a h
section
variable{X:Cx}{tg:A6}
def jt{O:St}{R:It->Hp->Prop}{E:A4->A5->Prop}{lo hi:Int}{t u v:Tok}{tk:Nat}(I:Inv X Z O H s)(m:-(2^62)<=lo)(l:lo<2^62)(d:-(2^62)<=hi)(c:hi<2^62)(q:R (Itr lo (hi-lo).toNat) H):wpAny (model X.prog X.w) X.A (pyIter<|.ref s.heap.objs.size) (PIE X Z O tg R) E {s with heap:=s.heap.push {cls:=.type "range",data:=.fields #[.int lo t,.int hi u,.int 1 v]},toks:=tk}:=by
 refine wpAny_pyIter_range (IsRange.new ..) (small_one m l d c) ?_;have I1:Inv X Z O H { s with heap:=s.heap.push { cls:=.type "range",data:=.fields #[.int lo t,.int hi u,.int 1 v] },toks:=tk }:=I.kept λb o e=>xAf _ e;refine⟨(s.heap.push { cls:=.type "range",data:=.fields #[.int lo t,.int hi u,.int 1 v] }).objs.size,[(s.heap.push { cls:=.type "range",data:=.fields #[.int lo t,.int hi u,.int 1 v] }).objs.size],_,_,H,rfl,
  I1.kept (t':=tk) λb o e=>xAf _ e,ki _ lo (hi-lo).toNat,?_,λb a=>?_,q⟩
 .have x:lo+((0:Nat):Int)*1=lo:=by simp
  have r:(((hi-lo).toNat:Nat):Int)-((0:Nat):Int)=Builtin.Range.rangeSize lo hi 1:=by rw[rangeSize_one];split <;> lia
  show IsRangeIter _ _ (lo+((0:Nat):Int)*1) ((((hi-lo).toNat:Nat):Int)-((0:Nat):Int)) 1;rw[x,r];exact xAl _ rfl
 .have e:b=(s.heap.push {cls:=.type "range",data:=.fields #[.int lo t,.int hi u,.int 1 v]}).objs.size:=by simpa using a
  subst e;exact I1.fpOk (xAg _)<|I1.hok.fresh<|xAg _
def zFs(a:TA):TI:=λO H R=>a O H λvs H1=>∃j:Int,vs=[.int j]/\-(2^62)<=j/\j<2^62/\R (Itr 0 j.toNat) H1
def zHb(a:TA):TI:=λO H R=>a O H λvs H1=>∃i j:Int,vs=[.int i,.int j]/\(-(2^62)<=i/\i<2^62/\-(2^62)<=j/\j<2^62)/\R (Itr i (j-i).toNat) H1
theorem nP{a:A6}{c:TA}(v:Gl X "range")(o:X.mg "range"=none)(w:PA X [a] c)(m:starEach [a] X.env=[(false,eval a X.env)]:=by rfl):PI X tg (.Call (.Name "range" p) [a] [] pos)<|zFs c:=by
 intro Z s O H R I h;refine Call_ (fg I v o boot_range<|PyProof.Rows.callWith_type1 (thn (w pos Z s O H _ I h) λus x ⟨vs,H1,I1,r1,b⟩=>?_) m rfl);let⟨j,e,b,l,q⟩:=b;subst e;cases r1 with
 |cons r d=>
  cases d;let⟨t,rfl⟩:=r;exact call_range_1 (jt I1 () () b l<|by simpa using q)
theorem nO{a b:A6}{m:TA}(D:Gl X "range")(B:X.mg "range"=none)(E:PA X [a,b] m)(x:starEach [a,b] X.env=[(false,eval a X.env),(false,eval b X.env)]:=by rfl)(c:starEach [b] X.env=[(false,eval b X.env)]:=by rfl) :
  PI X tg (.Call (.Name "range" p) [a,b] [] pos) (zHb m):=by
 intro Z s O H R I h;refine Call_ (fg I D B boot_range<|PyProof.Rows.callWith_type1 (thn (E pos Z s O H _ I h) λus F ⟨vs,H1,I1,r1,l⟩=>?_) (by rw[x,c])<|by rw[c];rfl);let⟨i,j,e,⟨l,w,v,o⟩,q⟩:=l;subst e;cases r1 with
 |cons r d=>
  cases d with
  |cons r' d=>
   cases d;let⟨t,rfl⟩:=r;let⟨t',rfl⟩:=r';exact call_range_2<|jt I1 l w v o q
def zJi(wi:TI)(g:TG)(tb:TS):TS:=λD O H=>wi O H λa H1=>∃W:Nat->Nat->St->Hp->Prop,(∃m,W 0 m O H1)/\∀i m O H,W i m O H ->
 (a.stop i H/\D.nx O H)\/(a.go i H/\∃N:St->Hp->Prop,(∀O' H',N O' H'->∃b,b<m/\W (i+1) b O' H')/\∀x H',a.yld i H x H'->g x O H' λσ2 H2=>tb {D with nx:=N,ct:=N,bk:=D.nx} σ2 H2)
noncomputable def zCa(fp:A0 A7)(h:Heap):A0<|A7×Obj:=fp.filterMap λb=>(h.get? b).map λo=>(b,o)
def eD{b:A7}{o:Obj}(a:b∈fp)(e:h.get? b=some o):(b,o)∈zCa fp h:=List.mem_filterMap.mpr ⟨b,a,by rw[e];rfl⟩
theorem nY{p:A7×Obj}(a:p∈zCa fp h):p.1∈fp/\h.get? p.1=some p.2:=by
 let⟨b,c,e⟩:=List.mem_filterMap.mp a;cases q:h.get? b with
 |none=>rw[q] at e;cases e
 |some o=>
  rw[q] at e;have d:(b,o)=p:=xB3 e;subst d;exact⟨c,q⟩
def Inv.pinned{O:St}(I:Inv X Z O H s)(q:∀b∈fp,zCy X Z H b)(m:∀b∈fp,∃o,s.heap.get? b=some o/\∀v,o.data≠.cell v):Inv X (Z++zCa fp s.heap) O H s:=
 I.pins_of λp l=>(xAj.mp l).elim (λz=>I.pin p<|xBt _ z) λz=>by
  let⟨a,e⟩:=nY z;let⟨w,t,r,_⟩:=q p.1 a;let⟨o,c,d⟩:=m p.1 a;rw[e] at c;cases c;exact⟨e,w,t,r,d⟩
def Inv.unpinned{pl:A0<|A7×Obj}{O:St}(I:Inv X (Z++pl) O H s):Inv X Z O H s:=I.pins_of λp a=>I.pin p<|xBt _<|xBw _ a
end
noncomputable abbrev R2:=V->V->Hp->VK->Prop
def OpR(X:Cx)(f:A4->A4->Sem A4)(r:R2):Prop:=
 ∀(Z:A0<|A7×Obj)(s:A5)(O:St)(H:Hp)(x y:V)(v u:A4)(Q:VK),Inv X Z O H s->zAi x v->zAi y u->r x y H Q ->
  wpAny (model X.prog X.w) X.A (f v u) (EP X Z O Q) X.xe s
def UnR(X:Cx)(f:A4->Sem A4)(r:V->Hp->VK->Prop):Prop:=
 ∀(Z:A0<|A7×Obj)(s:A5)(O:St)(H:Hp)(x:V)(v:A4)(Q:VK),Inv X Z O H s->zAi x v->r x H Q ->
  wpAny (model X.prog X.w) X.A (f v) (EP X Z O Q) X.xe s
def zAp(X:Cx)(f:A4)(r:B3->Hp->VK->Prop):Prop:=
 ∀(Z:A0<|A7×Obj)(s:A5)(O:St)(H:Hp)(xs:B3)(us:B4)(Q:VK),Inv X Z O H s->zAk xs us->r xs H Q ->
  wpAny (model X.prog X.w) X.A (call f us) (EP X Z O Q) X.xe s
def tOp(r:R2)(a tb:TE):TE:=λO H Q=>a O H λx H1=>tb O H1 λy H2=>r x y H2 Q
def tUn(r:V->Hp->VK->Prop)(a:TE):TE:=λO H Q=>a O H λx H1=>r x H1 Q
def rI(C:Int->Int->Prop)(g:Int->Int->V):R2:=λx y H Q=>∃i j,x=.int i/\y=.int j/\C i j/\Q (g i j) H
def rI0(g:Int->Int->V):R2:=λx y H Q=>∃i j,x=.int i/\y=.int j/\Q (g i j) H
def rU(g:Int->V):V->Hp->VK->Prop:=λx H Q=>∃i,x=.int i/\Q (g i) H
section
variable{X:Cx}{a b c:A6}{ta tb tc:TE}{pos:Pos}
def zHj(t:PE X a ta)(r:PE X b tb){O:St}{R:V->V->Hp->Prop}(I:Inv X Z O H s)(h:ta O H λx H1=>tb O H1 λy H2=>R x y H2){f:A4->A4->Sem A4}(q:∀v u d x y H2,Inv X Z O H2 d->zAi x v->zAi y u->R x y H2->wpAny (model X.prog X.w) X.A (f v u) Q X.xe d) :
  wpAny (model X.prog X.w) X.A (eval a X.env) (λv s₁=>wpAny (model X.prog X.w) X.A (eval b X.env) (λu s₂=>wpAny (model X.prog X.w) X.A (f v u) Q X.xe s₂) X.xe s₁) X.xe s:=by
 refine thn (t Z s O H _ I h) λv l e=>?_;let⟨x,H1,I1,r1,o⟩:=e;refine thn (r Z l O H1 _ I1 o) λu d e=>?_;let⟨y,H2,I2,r2,m⟩:=e;exact q v u d x y H2 I2 r1 r2 m
def yP{op:Operator}{r:R2}(m:OpR X (binaryOp op) r)(t:PE X a ta)(o:PE X b tb):PE X (.BinOp a op b pos)<|tOp r ta tb:=by
 intro Z s O H Q I h;exact wpAny_BinOp (zHj t o I h λv u d x y H2 I2 l e q=>m Z d O H2 x y v u Q I2 l e q)
def yN{op:UnaryOp}{r:V->Hp->VK->Prop}(l:UnR X (unaryOp op) r)(m:PE X a ta):PE X (.UnaryOp op a pos)<|tUn r ta:=by
 intro Z s O H Q I h;exact UnaryOp_ (thn (m Z s O H _ I h) λv d ⟨x,H1,I1,r1,e⟩=>l Z d O H1 x v Q I1 r1 e)
def opI{f:A4->A4->Sem A4}{C:Int->Int->Prop}{g:Int->Int->Int}(d:∀(i j:Int)(t u:Tok)(s:A5)(Q:A4->A5->Prop)(E:A4->A5->Prop),C i j->Q (.int (g i j) s.toks) {s with toks:=s.toks+1}->wpAny (model X.prog X.w) X.A (f (.int i t)<|.int j u) Q E s) :
  OpR X f (rI C λi j=>.int<|g i j):=by
 intro Z s O H x y v u Q I l e h;let⟨i,j,rfl,rfl,m,q⟩:=h;let⟨t,rfl⟩:=l;let⟨t',rfl⟩:=e;exact d i j t t' s _ _ m ⟨.int<|g i j,H,I.tok _,⟨_,rfl⟩,q⟩
def zIj{f:A4->A4->Sem A4}{g:Int->Int->Int}(d:∀(i j:Int)(t u:Tok)(s:A5)(Q:A4->A5->Prop)(E:A4->A5->Prop),Q (.int (g i j) s.toks) {s with toks:=s.toks+1}->wpAny (model X.prog X.w) X.A (f (.int i t)<|.int j u) Q E s) :
  OpR X f (rI0 λi j=>.int<|g i j):=by
 intro Z s O H x y v u Q I l e h;let⟨i,j,rfl,rfl,q⟩:=h;let⟨t,rfl⟩:=l;let⟨t',rfl⟩:=e;exact d i j t t' s _ _ ⟨.int<|g i j,H,I.tok _,⟨_,rfl⟩,q⟩
def zG7{f:A4->A4->Sem A4}{g:Int->Int->A8}(d:∀(i j:Int)(t u:Tok)(s:A5)(Q:A4->A5->Prop)(E:A4->A5->Prop),Q (.bool<|g i j) s->wpAny (model X.prog X.w) X.A (f (.int i t)<|.int j u) Q E s) :
  OpR X f (rI0 λi j=>.bl<|g i j):=by
 intro Z s O H x y v u Q I l e h;let⟨i,j,rfl,rfl,q⟩:=h;let⟨t,rfl⟩:=l;let⟨t',rfl⟩:=e;exact d i j t t' s _ _ ⟨.bl<|g i j,H,I,rfl,q⟩
def zI4(i j:Int):Prop:=0<=j/\j<=1000000/\i.natAbs<2^64
def xb:OpR X (binaryOp .Add)<|rI0 λi j=>.int<|i+j:=zIj λ_ _ _ _ _ _ _ q=>add_int q
def wW:OpR X (binaryOp .Sub)<|rI0 λi j=>.int<|i-j:=zIj λ_ _ _ _ _ _ _ q=>sub_int q
def wZ:OpR X (binaryOp .Mod)<|rI (λ_ j=>0<j) λi j=>.int<|i%j:=opI λi j _ _ _ _ _ d q=>by
 have e:(0:Int)<j:=d;exact mod_int' () (by rw[Int.fmod_eq_emod_of_nonneg i ()];exact q)
def wX:OpR X (binaryOp .Pow)<|rI zI4 λi j=>.int<|i^j.toNat:=opI λ_ _ _ _ _ _ _ d q=>pow_int_small d.1 d.2.1 d.2.2 q
def unI{f:A4->Sem A4}{g:Int->Int}(d:∀(i:Int)(t:Tok)(s:A5)(Q:A4->A5->Prop)(E:A4->A5->Prop),Q (.int (g i) s.toks) {s with toks:=s.toks+1}->wpAny (model X.prog X.w) X.A (f<|.int i t) Q E s) :
  UnR X f (rU λi=>.int<|g i):=by
 intro Z s O H x v Q I e h;let⟨i,rfl,q⟩:=h;let⟨t,rfl⟩:=e;exact d i t s _ _ ⟨.int<|g i,H,I.tok _,⟨_,rfl⟩,q⟩
def vJ:UnR X (unaryOp .USub)<|rU λi=>.int (-i):=unI λ_ _ _ _ _ q=>neg_int q
end
noncomputable def scal:V->V->A8
 |.non,.non=>true|.non,.int _=>true|.int _,.non=>true|.non,.bl _=>true|.bl _,.non=>true|.non,.str _=>true|.str _,.non=>true
 |.int _,.int _=>true|.bl _,.bl _=>true|.str _,.str _=>true|.byt _,.byt _=>true
 |.int _,.str _=>true|.str _,.int _=>true|.bl _,.str _=>true|.str _,.bl _=>true
 |_,_=>false
def rEq:R2:=λx y H Q=>scal x y=true/\Q (.bl<|decide<|x=y) H
def rNe:R2:=λx y H Q=>scal x y=true/\Q (.bl (!decide (x=y))) H
def nj{i j:Int}:decide (V.int i=V.int j)=(i==j):=by
 rw[Bool.eq_iff_iff];simp
def rF{i j:A8}:decide (V.bl i=V.bl j)=(i==j):=by
 rw[Bool.eq_iff_iff];simp
def ng{i j:Str}:decide (V.str i=V.str j)=(i==j):=by
 rw[Bool.eq_iff_iff];simp
def nk{i j:Array UInt8}:decide (V.byt i=V.byt j)=(i.toList==j.toList):=by
 rw[Bool.eq_iff_iff];cases i;cases j;simp
section
variable{X:Cx}{a b c:A6}{ta tb tc:TE}{pos:Pos}
def ce{O:St}{Q:VK}{k d:A8}(I:Inv X Z O H s)(q:Q (.bl k) H)(e:k=d):EP X Z O Q (.bool d) s:=by
 subst e;exact⟨.bl k,H,I,rfl,q⟩
theorem zd:OpR X (compareOp .Eq) rEq:=by
 intro Z s O H x y v u Q I l d h;let⟨e,q⟩:=h;cases x with
 |non=>
  cases l;cases y with
  |non=>cases d;exact PySem.EqNone.eq_none_none (ce I q ⋯)
  |bl j=>cases d;exact PySem.EqNone.eq_none_bool (ce I q ⋯)
  |int j=>let⟨t',rfl⟩:=d;exact PySem.EqNone.eq_none_int (ce I q ⋯)
  |str j=>let⟨t',rfl⟩:=d;exact PySem.EqNone.eq_none_str (ce I q ⋯)
  |_=>exact absurd (show false=true from e) xAy
 |bl i=>
  cases l;cases y with
  |non=>cases d;exact PySem.EqNone.eq_bool_none (ce I q ⋯)
  |bl j=>cases d;exact eq_bool<|ce I q rF
  |str j=>let⟨t',rfl⟩:=d;exact PySem.EqMixed.eq_bool_str (ce I q ⋯)
  |_=>exact absurd (show false=true from e) xAy
 |int i=>
  let⟨t,rfl⟩:=l;cases y with
  |non=>cases d;exact PySem.EqNone.eq_int_none (ce I q ⋯)
  |int j=>let⟨t',rfl⟩:=d;exact eq_int<|ce I q nj
  |str j=>let⟨t',rfl⟩:=d;exact PySem.EqMixed.eq_int_str (ce I q ⋯)
  |_=>exact absurd (show false=true from e) xAy
 |str i=>
  let⟨t,rfl⟩:=l;cases y with
  |non=>cases d;exact PySem.EqNone.eq_str_none (ce I q ⋯)
  |bl j=>cases d;exact PySem.EqMixed.eq_str_bool (ce I q ⋯)
  |int j=>let⟨t',rfl⟩:=d;exact PySem.EqMixed.eq_str_int (ce I q ⋯)
  |str j=>let⟨t',rfl⟩:=d;exact eq_str<|ce I q ng
  |_=>exact absurd (show false=true from e) xAy
 |byt i=>
  let⟨t,rfl⟩:=l;cases y with
  |byt j=>let⟨t',rfl⟩:=d;exact W.eq_bytes<|ce I q nk
  |_=>exact absurd (show false=true from e) xAy
 |_=>cases y <;> exact absurd (show false=true from e) xAy
theorem zc:OpR X (compareOp .NotEq) rNe:=by
 intro Z s O H x y v u Q I l d h;let⟨e,q⟩:=h;cases x with
 |non=>
  cases l;cases y with
  |non=>cases d;exact PySem.EqNone.ne_none_none (ce I q ⋯)
  |bl j=>cases d;exact PySem.EqNone.ne_none_bool (ce I q ⋯)
  |int j=>let⟨t',rfl⟩:=d;exact PySem.EqNone.ne_none_int (ce I q ⋯)
  |str j=>let⟨t',rfl⟩:=d;exact PySem.EqNone.ne_none_str (ce I q ⋯)
  |_=>exact absurd (show false=true from e) xAy
 |bl i=>
  cases l;cases y with
  |non=>cases d;exact PySem.EqNone.ne_bool_none (ce I q ⋯)
  |bl j=>cases d;exact ne_bool<|ce I q<|congrArg not rF
  |str j=>let⟨t',rfl⟩:=d;exact PySem.EqMixed.ne_bool_str (ce I q ⋯)
  |_=>exact absurd (show false=true from e) xAy
 |int i=>
  let⟨t,rfl⟩:=l;cases y with
  |non=>cases d;exact PySem.EqNone.ne_int_none (ce I q ⋯)
  |int j=>let⟨t',rfl⟩:=d;exact ne_int<|ce I q<|congrArg not nj
  |str j=>let⟨t',rfl⟩:=d;exact PySem.EqMixed.ne_int_str (ce I q ⋯)
  |_=>exact absurd (show false=true from e) xAy
 |str i=>
  let⟨t,rfl⟩:=l;cases y with
  |non=>cases d;exact PySem.EqNone.ne_str_none (ce I q ⋯)
  |bl j=>cases d;exact PySem.EqMixed.ne_str_bool (ce I q ⋯)
  |int j=>let⟨t',rfl⟩:=d;exact PySem.EqMixed.ne_str_int (ce I q ⋯)
  |str j=>let⟨t',rfl⟩:=d;exact ne_str<|ce I q<|congrArg not ng
  |_=>exact absurd (show false=true from e) xAy
 |byt i=>
  let⟨t,rfl⟩:=l;cases y with
  |byt j=>let⟨t',rfl⟩:=d;exact W.ne_bytes<|ce I q<|congrArg not nk
  |_=>exact absurd (show false=true from e) xAy
 |_=>cases y <;> exact absurd (show false=true from e) xAy
def u6:OpR X (compareOp .Lt)<|rI0 λi j=>.bl<|decide<|i<j:=zG7 λ_ _ _ _ _ _ _ q=>lt_int q
def u7:OpR X (compareOp .LtE)<|rI0 λi j=>.bl<|decide<|i<=j:=zG7 λ_ _ _ _ _ _ _ q=>le_int q
def va:OpR X (compareOp .Gt)<|rI0 λi j=>.bl<|decide<|j<i:=zG7 λ_ _ _ _ _ _ _ q=>gt_int q
def nW:OpR X (compareOp .In) λx y H Q=>∃i j,x=.str i/\y=.str j/\Q (.bl (!(Builtin.Str.occurrences j i 0 j.length 1).isEmpty)) H:=by
 intro Z s O H x y v u Q I e d h;let⟨i,j,rfl,rfl,q⟩:=h;let⟨t,rfl⟩:=e;let⟨t',rfl⟩:=d;exact in_str<|ce I q rfl
def w4:OpR X (compareOp .Is) λx y H Q=>y=.non/\Q (.bl<|decide<|x=.non) H:=by
 intro Z s O H x y v u Q I d e h;let⟨rfl,q⟩:=h;cases e;refine is_none_gen<|ce I q ?_;cases x <;> first
  |(cases d;rfl)
  |(let⟨t,rfl⟩:=d;rfl)
def iK:OpR X (compareOp .NotIn) λx y H Q=>∃i j,x=.str i/\y=.str j/\Q (.bl (!(!(Builtin.Str.occurrences j i 0 j.length 1).isEmpty))) H:=by
 intro Z s O H x y v u Q I e d h;let⟨i,j,rfl,rfl,q⟩:=h;let⟨t,rfl⟩:=e;let⟨t',rfl⟩:=d;exact notIn_str<|ce I q rfl
def md{r:R2}(m:OpR X (compareOp op) r)(w:PE X a ta)(t:PE X b tb)(o:behindInMarks op b=false):PE X (.Compare a [op] [b] pos)<|tOp r ta tb:=by
 intro Z s O H Q I h;exact wpAny_Compare1 (zHj w t I h λv u d x y H2 I2 l e q=>m Z d O H2 x y v u Q I2 l e q) o
def zEx(t:TE):TT:=λO H Q=>t O H λx H'=>∃k,x=.bl k/\Q k H'
def lP{r:R2}(t:OpR X (compareOp op) r)(D:PE X a ta)(B:PE X b tb)(w:behindInMarks op b=false):PT X (.Compare a [op] [b] pos)<|zEx<|tOp r ta tb:=by
 intro Z s O H Q I h;refine wpAny_isTrue_Compare1 (thn (D Z s O H _ I h) λv l ⟨x,H1,I1,r1,q⟩=>thn (B Z l O H1 _ I1 q) λu d ⟨y,H2,I2,r2,o⟩ =>
  thn (t Z d O H2 x y v u _ I2 r1 r2 o) λc E ⟨z,H3,I3,r3,k,e,m⟩=>?_) w
 subst e;cases r3;exact wpAny_truthy_bool ⟨H3,I3,m⟩
def zC9(r r':R2)(ta tb tc:TE):TE:=λO H Q=>ta O H λx H1=>tb O H1 λy H2=>r x y H2 λz H3=>∃k,z=.bl k /\
 (if k=true then tc O H3 λd H4=>r' y d H4 Q else Q (.bl false) H3)
theorem ql{r:R2}(J:OpR X (compareOp op) r)(l:OpR X (compareOp op') r')(S:PE X a ta)(R:PE X b tb)(P:PE X c tc)(L:lastMarks [op,op'] [b,c]=false:=by with_unfolding_all rfl):PE X (.Compare a [op,op'] [b,c] pos)<|zC9 r r' ta tb tc:=by
 intro Z s O H Q I h;refine Compare_chain (thn (S Z s O H _ I h) λv D ⟨x,H1,I1,r1,G⟩=>chain_link (thn (R Z D O H1 _ I1 G) λu B ⟨y,H2,I2,r2,F⟩ =>
  thn (J Z B O H2 x y v u _ I2 r1 r2 F) λd w ⟨z,H3,I3,r3,k,e,m⟩=>?_)) L
 subst e;cases r3;erw[wpAny_truthy_bool];cases k with
 |false=>exact ite_ff ⟨.bl false,H3,I3,rfl,m⟩
 |true=>exact ite_tt (chain_last<|thn (P Z w O H3 _ I3 m) λq t ⟨o,H4,I4,r4,E⟩=>l Z t O H4 y o u q Q I4 r2 r4 E)
theorem pM{r:R2}(R:OpR X (compareOp op) r)(l:OpR X (compareOp op') r')(Y:PE X a ta)(W:PE X b tb)(T:PE X c tc)(S:lastMarks [op,op'] [b,c]=false:=by with_unfolding_all rfl):PT X (.Compare a [op,op'] [b,c] pos)<|zEx<|zC9 r r' ta tb tc:=by
 intro Z s O H Q I h;refine isTrue_chain (thn (Y Z s O H _ I h) λv E ⟨x,H1,I1,r1,L⟩=>test_link (thn (W Z E O H1 _ I1 L) λu D ⟨y,H2,I2,r2,J⟩ =>
  thn (R Z D O H2 x y v u _ I2 r1 r2 J) λd B ⟨z,H3,I3,r3,k,e,m⟩=>?_)) S
 subst e;cases r3;erw[wpAny_truthy_bool];cases k with
 |false=>
  let⟨k',e',P⟩:=m;cases e';exact ite_ff ⟨H3,I3,P⟩
 |true=>
  refine ite_tt (test_last<|thn (T Z B O H3 _ I3 m) λt w ⟨q,H4,I4,r4,G⟩=>thn (l Z w O H4 y q u t _ I4 r2 r4 G) λd' s5 o=>?_);let⟨z2,H5,I5,r5,k2,e2,F⟩:=o;subst e2;cases r5;exact wpAny_truthy_bool ⟨H5,I5,F⟩
def zCb:(sizeLine:Nat)<2^63:=by rw[sizeLine_eq];decide
def kL:OpR X (binaryOp .Add) λx y H Q=>∃i j,x=.str i/\y=.str j/\i.length+j.length<=sizeLine/\Q (.str<|i++j) H:=by
 intro Z s O H x y v u Q I e d h;let⟨i,j,rfl,rfl,l,q⟩:=h;let⟨t,rfl⟩:=e;let⟨t',rfl⟩:=d;exact add_str (λt' tk=>⟨.str<|i++j,H,I.tok _,⟨_,rfl⟩,q⟩) l
theorem zBx{x:V}{us:B4}(r:zAk [x] us):∃u,us=[u]/\zAi x u:=by
 cases r with
 |cons r1 r2=>cases r2;exact⟨_,rfl,r1⟩
theorem zDm{x:V}{us:B4}(r:zAk [x,y] us):∃u d,us=[u,d]/\zAi x u/\zAi y d:=by
 cases r with
 |cons r1 r2=>
  cases r2 with
  |cons r3 r4=>cases r4;exact⟨_,_,rfl,r1,r3⟩
def rP:zAp X (.builtin "abs") λxs H Q=>∃i,xs=[.int i]/\Q (.int<|if i<0 then -i else i) H:=by
 intro Z s O H xs us Q I r h;let⟨i,rfl,q⟩:=h;let⟨u,rfl,t,rfl⟩:=zBx r;exact call_abs_int λu tk=>⟨.int<|if i<0 then -i else i,H,I.tok _,⟨_,rfl⟩,q⟩
def oG(d:X.calm=true):zAp X (.builtin "max") λxs H Q=>∃i j,xs=[.int i,.int j]/\Q (.int<|if j>i then j else i) H:=by
 intro Z s O H xs us Q I r h;let⟨i,j,rfl,q⟩:=h;let⟨u,e,rfl,⟨t,rfl⟩,⟨t',rfl⟩⟩:=zDm r;refine max_two_ints (I.ok.hd d) λl tk k=>⟨_,H,I.kept k,?_,q⟩
 by_cases hj:j>i
 .rw[xCg hj,xCg hj];exact⟨_,rfl⟩
 .rw[xCf hj,xCf hj];exact⟨_,rfl⟩
def oF(d:X.calm=true):zAp X (.builtin "min") λxs H Q=>∃i j,xs=[.int i,.int j]/\Q (.int<|if j<i then j else i) H:=by
 intro Z s O H xs us Q I r h;let⟨i,j,rfl,q⟩:=h;let⟨u,e,rfl,⟨t,rfl⟩,⟨t',rfl⟩⟩:=zDm r;refine min_two_ints (I.ok.hd d) λl tk k=>⟨_,H,I.kept k,?_,q⟩
 by_cases hj:j<i
 .rw[xCg hj,xCg hj];exact⟨_,rfl⟩
 .rw[xCf hj,xCf hj];exact⟨_,rfl⟩
def oJ:zAp X (.type "int") λxs H Q=>(∃i,xs=[.int i]/\Q (.int i) H)\/∃k,xs=[.bl k]/\Q (.int<|if k then 1 else 0) H:=by
 intro Z s O H xs us Q I r h;rcases h with ⟨i,rfl,q⟩|⟨k,rfl,q⟩
 .let⟨u,rfl,t,rfl⟩:=zBx r;exact call_int_int ⟨.int i,H,I,⟨_,rfl⟩,q⟩
 .let⟨u,rfl,r1⟩:=zBx r;cases r1;exact call_int_bool ⟨.int<|if k then 1 else 0,H,I.tok _,⟨_,rfl⟩,q⟩
def zI1(K:xFr)(x:V)(H:Hp)(n:Nat):Prop:=
 match x with
 |.str y=>y.length<=sizeLine/\n=y.length
 |.byt y=>y.size<=sizeLine/\n=y.size
 |.ref p=>(∃xs,SqL K H p xs/\n=xs.length)\/∃xs,SqT K H p xs/\n=xs.length
 |_=>False
theorem rO:zAp X (.builtin "len") λxs H Q=>∃x n,xs=[x]/\zI1 X.K x H n/\Q (.int n) H:=by
 intro Z s O H xs us Q I r h;let⟨x,n,rfl,e,q⟩:=h;let⟨u,rfl,m⟩:=zBx r;have D:=zCb;have B:sizeLine=16777216:=sizeLine_eq;cases x with
 |str y=>
  let⟨t,rfl⟩:=m;obtain⟨hy,l⟩:y.length<=sizeLine/\n=y.length:=e;subst l;exact len_str () ⟨.int _,H,I.tok _,⟨_,rfl⟩,q⟩
 |byt y=>
  let⟨t,rfl⟩:=m;obtain⟨hy,l⟩:y.size<=sizeLine/\n=y.size:=e;subst l;exact W.len_bytes () ⟨.int _,H,I.tok _,⟨_,rfl⟩,q⟩
 |ref p=>
  cases m;have l:(∃xs,SqL X.K H p xs/\n=xs.length)\/∃xs,SqT X.K H p xs/\n=xs.length:=e;rcases l with ⟨xs,v,l⟩|⟨xs,v,l⟩
  .subst l;let⟨o,r',pl,w⟩:=I.list v;have d:=r'.length;exact Calls.call_len_list pl.isList (by simp only[xAp];lia) ⟨.int xs.length,H,I.tok _,⟨_,by simp only[xAp];rw[d]⟩,q⟩
  .subst l;let⟨o,r',pl,w⟩:=I.tuple v;have d:=r'.length;exact len_tuple pl (by simp only[xAp];lia) ⟨.int xs.length,H,I.tok _,⟨_,by simp only[xAp];rw[d]⟩,q⟩
 |_=>exact(show False from e).elim
end
structure zEn(h:Heap)(x dx C:A7)(mA:Str->A3 A4):Prop where
 obj:h.get? x=some (W.instObj C dx)
 ns:h.Ns1 dx mA
 ne:dx≠x
set_option tactic.hygienic true
def oa{mA:Str->A3 A4}(n:h.Ns1 dx mA):∃c,h.get? dx=some c/\∀name,W.lookIn name c=some (mA name):=by
 let⟨o,es,w,l,hd,r,_,m⟩:=n;refine⟨o,l,λname=>?_⟩;have e:=m name;unfold nsFind findBy at e;rw[<- Array.find?_toList] at e;unfold W.lookIn;rw[hd];dsimp only;split
 .rename_i y q
  rw[q] at e;exact congrArg some e
 .rename_i q
  rw[q] at e;have a:es.toList.any (·.refKey)=false:=by
   rw[List.any_eq_false];intro y d;let⟨z,t,b⟩:=r y<|Array.mem_toList_iff.mp d;simp[DictEntry.refKey,b]
  have v:¬ es.toList.any (·.refKey)=true:=by rw[a];exact xAy
  rw[xCf v];exact congrArg some e
set_option tactic.hygienic false
def zEn.look{x:A7}{mA:Str->A3 A4}(I:zEn h x dx C mA):∃a,PySem.W.InstAt h x (W.instObj C dx) C (some a)/\∀name,W.lookIn name a=some (mA name):=
 let ⟨a,b,c⟩:=oa I.ns
 ⟨a,⟨I.obj,rfl,rfl,b⟩,c⟩
section
variable{prog:Program}{w:World}{A:Around}{E:A4->A5->Prop}{s:A5}{K:xFr}{x dx C f:A7}{mA:Str->A3 A4}{name:Str}{v:A4}
def uj{a:A8}(X:K.In s.heap)(I:zEn s.heap x dx C mA)(m:W.plainGet K C name=true)(l:W.hasDictIn K C=true)(o:W.findIn K (.ref C) name=some none)(d:mA name=some v)(c:W.handedIn v=true)(h:Q v {s with toks:=s.toks+1}) :
  wpAny (model prog w) A (getAttr (.ref x) name a) Q E s:=by
 let⟨q,b,e⟩:=I.look;exact W.get_value X b (W.plainGet_of m).1 (W.findObj_own l o rfl<|by rw[e,d]) c h
def qW{pl:Sem A8}{Q:A4×B4->A5->Prop}(X:K.In s.heap)(I:zEn s.heap x dx C mA)(b:W.plainGet K C name=true)(m:W.findIn K (.ref C) name=some (some<|.ref f))(e:W.isFn K (.ref f)=true)(d:mA name=none)(h:Q (.ref f,[.ref x]) s) :
  wpAny (model prog w) A (getMethod (.ref x) name pl) Q E s:=by
 let⟨c,a,l⟩:=I.look;exact W.method_fn X a (W.plainGet_of b).1 (W.plainGet_of b).2 m (beq_iff_eq.mp e) (by show(W.lookIn name c).map (·.isSome)=some false;rw[l,d];rfl) h
def sy{ns:A9}{Q:Unit->A5->Prop}(X:K.In s.heap)(I:zEn s.heap x dx C mA)(F:W.findIn K (.ref C) "__setattr__"=some (some<|.builtin "object.__setattr__"))(G:W.plainOver K C=true)(D:W.takerIn K C name=some none)(J:W.hasDictIn K C=true)(B:PySem.Within mA ns)(hsz:ns.length<=sizeLine)(h:∀h',zEn h' x dx C (λy=>if y=name then some v else mA y)->Heap.SameBut dx s.heap h'->Q Unit.unit {s with heap:=h',toks:=s.toks+2}) :
  wpAny (model prog w) A (setAttr (.ref x) name v) Q E s:=by
 let⟨R,c,T⟩:=I.look;refine W.set_plain X c F (W.osa_open (s:={s with toks:=s.toks+1}) (r:=none) X c G D λb=>?_);let⟨cd,L,o⟩:=W.any_some J;have t:s.heap.get? x=some ⟨.ref C,some dx,.plain,#[]⟩:=I.obj;refine xAd<|xAe<|xAd<|xAd<|wpAny_loadPart t<|xAd<|PySem.W.Looks.here (s:={s with toks:=s.toks+1}) (W.looks_clsIn X L) ?_;rw[o];erw[<-xAe (a:=some dx)<|xAd<|xAe<|xAd ?_,<-wpAny_nsSet1 (s:={s with toks:=s.toks+1}) I.ns λh' e d=>?_];let⟨S,O,P,l,m,q⟩:=e.count<|PySem.Within.cons name v B;refine xAd<|wpAny_lookBehind l (by rw[m];exact pastItsLine_dict (xCk q<|by rw[xAo];lia)) ?_;exact xAe<|h _ ⟨(d.2 _<|Ne.symm I.ne).trans I.obj,e,I.ne⟩ d
def qI{R:Result->A5->Prop}{vs:B4}(X:K.In s.heap)(b:W.makesIn K C=true)(hi:W.findIn K (.ref C) "__init__"=some (some<|.ref f))(c:W.typeIn K (.ref f)=some (.type "function"))(h:codeAny (model prog w) (A.under<|.builtin "type.__call__" ⟨.ref C::vs,kw⟩) (.call (.ref f) ⟨.ref (s.heap.objs.size+1)::vs,kw⟩) (PySem.W.InitBack (s.heap.objs.size+1) R)
   {s with heap:=(s.heap.push W.emptyDict).push<|W.instObj C s.heap.objs.size}) :
  codeAny (model prog w) A (.call (.ref C) ⟨vs,kw⟩) R s:=by
 let⟨l,g,d,t,e⟩:=s;exact W.make_core (W.makes_of X b) (W.looks_findIn X hi) (λa=>W.bind_fn X a c) (.inl rfl) h
end
noncomputable def putF(f:Str)(v:V):A0 (Str×V)->A0 (Str×V)
 |[]=>[(f,v)]
 |(g,x)::r=>if g=f then(g,v)::r else(g,x)::putF f v r
theorem fV(f g:Str)(v:V):∀fs:A0<|Str×V,(putF f v fs).lookup g=if g=f then some v else fs.lookup g
 |[]=>by
  show List.lookup g [(f,v)]=_;by_cases h:g=f
  .have a:(g==f)=true:=beq_iff_eq.mpr h;simp only[List.lookup,a,xCg h]
  .have a:(g==f)=false:=beq_eq_false_iff_ne.mpr h;simp only[List.lookup,a,xCf h]
 |(k,x)::r=>by
  have b:=fV f g v r;rw[show putF f v ((k,x)::r)=(if k=f then(k,v)::r else(k,x)::putF f v r) from rfl];by_cases hk:k=f
  .rw[xCg hk];by_cases h:g=k
   .have a:(g==k)=true:=beq_iff_eq.mpr h;simp only[List.lookup,a,xCg<|h.trans hk]
   .have a:(g==k)=false:=beq_eq_false_iff_ne.mpr h;simp only[List.lookup,a,xCf λe:g=f=>h<|e.trans hk.symm]
  .rw[xCf hk];by_cases h:g=k
   .have a:(g==k)=true:=beq_iff_eq.mpr h;simp only[List.lookup,a,xCf λe:g=f=>hk<|h.symm.trans e]
   .have a:(g==k)=false:=beq_eq_false_iff_ne.mpr h;simp only[List.lookup,a];exact b
theorem fP(f:Str)(v:V):∀fs:A0<|Str×V,f∈(putF f v fs).map (·.1)/\∀g,g∈fs.map (·.1)->g∈(putF f v fs).map (·.1)
 |[]=>⟨by simp[putF],λg h=>by simp at h⟩
 |(k,x)::r=>by
  let⟨i1,i2⟩:=fP f v r;rw[show putF f v ((k,x)::r)=(if k=f then(k,v)::r else(k,x)::putF f v r) from rfl];by_cases hk:k=f
  .rw[xCg hk];subst hk;exact⟨⋯,λg h=>by simpa using h⟩
  .rw[xCf hk];refine⟨?_,λg h=>?_⟩
   .rw[xBs];exact xAs _ i1
   .rw[xBs] at h⊢;rcases xAv.mp h with e|e
    .exact xAv.mpr<|.inl e
    .exact xAs _<|i2 g e
theorem fW(f:Str)(v:V):∀fs:A0<|Str×V,(putF f v fs).length<=fs.length+1
 |[]=>by simp[putF]
 |(k,x)::r=>by
  have a:=fW f v r;rw[show putF f v ((k,x)::r)=(if k=f then(k,v)::r else(k,x)::putF f v r) from rfl];by_cases hk:k=f
  .rw[xCg hk,xAo,xAo];lia
  .rw[xCf hk,xAo,xAo];lia
theorem zB6.some_of{v:V}{o:A3 A4}(r:zB6 (some v) o):∃u,o=some u/\zAi v u:=by
 cases o with
 |none=>exact(show False from r).elim
 |some u=>exact⟨u,rfl,r⟩
theorem zB6.none_of{o:A3 A4}(r:zB6 none o):o=none:=by
 cases o with
 |none=>rfl
 |some u=>exact(show False from r).elim
theorem ot{v:V}{u:A4}(r:zAi v u):W.handedIn u=true:=by
 cases v with
 |non=>cases (show u=Value.none from r);rfl
 |bl b=>cases (show u=Value.bool b from r);rfl
 |int i=>let⟨t,e⟩:=(show ∃t,u=Value.int i t from r);cases e;rfl
 |str x=>let⟨t,e⟩:=(show ∃t,u=Value.str x t from r);cases e;rfl
 |byt b=>let⟨t,e⟩:=(show ∃t,u=Value.bytes b t from r);cases e;rfl
 |flt b=>let⟨t,e⟩:=(show ∃t,u=Value.float b t from r);cases e;rfl
 |ref a=>cases (show u=Value.ref a from r);rfl
 |ty n=>cases (show u=Value.type n from r);rfl
section
variable{P:Program}{w:World}{H H':Hp}{h h':Heap}{a C dx:A7}{fs fs':A0<|Str×V}
def gi(b:HOk P w H h)(e:H a=some (.ins C dx fs)):∃mA,zEn h a dx C mA/\(∀f,zB6 (fs.lookup f)<|mA f)/\PySem.Within mA (fs.map (·.1))/\fs.length<=1000/\H dx=some (.own a):=by
 let⟨d,z,ne,c,mA,n,r,q⟩:=(show zAg P w H h a (.ins C dx fs) from b a _ e)
 exact⟨mA,⟨c,n,ne⟩,r,q,z,d⟩
end
structure Cls(K:xFr)(C:A7):Prop where
 pg:W.plainGet K C Str.empty=true
 hd:W.hasDictIn K C=true
 po:W.plainOver K C=true
 sa:W.findIn K (.ref C) "__setattr__"=some (some (.builtin "object.__setattr__"))
def Cls.get(c:Cls K C)(f:Str):W.plainGet K C f=true:=c.pg
def zBv(K:xFr)(C:A7)(f:Str):Prop:=W.findIn K (.ref C) f=some none
def zBv.taker{f:Str}(n:zBv K C f):W.takerIn K C f=some none:=by
 unfold W.takerIn;rw[show W.findIn K (.ref C) f=some none from n];rfl
structure zEp(K:xFr)(C:A7)(m:Str)(f:A7):Prop where
 at_:W.findIn K (.ref C) m=some (some (.ref f))
 fn:W.isFn K (.ref f)=true
 kp:W.keepIn K (.ref f)=true
section
variable{X:Cx}{Z:A0<|A7×Obj}{O:St}{H:Hp}{s:A5}{a C dx:A7}{fs:A0<|Str×V}{f:Str}{v:V}{A:Around}{E:A4->A5->Prop}
def kS{b:A8}(I:Inv X Z O H s)(e:H a=some (.ins C dx fs))(c:Cls X.K C)(n:zBv X.K C f)(l:fs.lookup f=some v)(h:∀u m,Inv X Z O H m->zAi v u->Q u m):wpAny (model X.prog X.w) A (getAttr (.ref a) f b) Q E s:=by
 let⟨mA,d,r,_,_,_⟩:=gi I.hok e;let⟨u,t,q⟩:=zB6.some_of (v:=v) (o:=mA f) (by rw[<- l];exact r f);exact uj I.kIn d (c.get f) c.hd n t (ot q)<|h u _ (I.tok _) q
def gF{m:Str}{g:A7}{pl:Sem A8}{Q:A4×B4->A5->Prop}(I:Inv X Z O H s)(e:H a=some (.ins C dx fs))(c:Cls X.K C)(k:zEp X.K C m g)(l:fs.lookup m=none)(h:Q (.ref g,[.ref a]) s):wpAny (model X.prog X.w) A (getMethod (.ref a) m pl) Q E s:=by
 let⟨mA,b,r,_,_,_⟩:=gi I.hok e;have d:mA m=none:=zB6.none_of (by rw[<- l];exact r m);exact qW I.kIn b (c.get m) k.at_ k.fn d h
def kn{u:A4}{Q:Unit->A5->Prop}(I:Inv X Z O H s)(e:H a=some (.ins C dx fs))(c:Cls X.K C)(n:zBv X.K C f)(S:fs.length<1000)(F:zAi y u)(h:∀t,Inv X Z O (upd H a<|.ins C dx<|putF f y fs) t->Q Unit.unit t):wpAny (model X.prog X.w) A (setAttr (.ref a) f u) Q E s:=by
 let⟨mA,l,r,m,_,B⟩:=gi I.hok e;have G:(fs.map (·.1)).length<=sizeLine:=by rw[xAa,sizeLine_eq];lia
 refine sy I.kIn l c.sa c.po n.taker c.hd m G λP d D=>h _ ?_;have hd:∃o,P.get? dx=some o:=let ⟨o,_,_,R,_⟩:=d.ns;⟨o,R⟩;erw[I.write (x:=a) (e:=dx) (by rw[e];exact True.intro) (.inr B) (λb q L z=>(D.2 b L).trans z) hd,<-⟨by rw[bx l.ne];exact B,?_,l.ne,d.obj,_,d.ns,λg=>?_,λg J=>?_⟩]
 .have:=fW f y fs;lia
 .show zB6 ((putF f y fs).lookup g)<|if g=f then some u else mA g;rw[fV];by_cases q:g=f
  .rw[xCg q,xCg q];exact F
  .rw[xCf q,xCf q];exact r g
 .by_cases q:g=f
  .rw[q];exact(fP f y fs).1
  .refine(fP f y fs).2 g (m g λz=>J ?_);show(if g=f then some u else mA g)=none;rw[xCf q];exact z
def Inv.made(I:Inv X Z O H s):Inv X Z O (upd (upd H s.heap.objs.size<|.own<|s.heap.objs.size+1) (s.heap.objs.size+1)<|.ins C s.heap.objs.size [])
  {s with heap:=(s.heap.push W.emptyDict).push<|W.instObj C s.heap.objs.size}:=by
 have c:(s.heap.push W.emptyDict).get? s.heap.objs.size=some W.emptyDict:=xAl s.heap rfl;have r:((s.heap.push W.emptyDict).push<|W.instObj C s.heap.objs.size).get? (s.heap.objs.size+1)=some (W.instObj C s.heap.objs.size):=by
  have:=xAl (s.heap.push W.emptyDict) (o:=W.instObj C s.heap.objs.size) rfl
  rwa[Heap.size_push] at this
 have m:(s.heap.push W.emptyDict).Ns s.heap.objs.size λ_=>none:=⟨W.emptyDict,#[],_,c,rfl,(λe l=>absurd l ⋯),λ_=>rfl⟩
 have I1:=I.laid (a:=s.heap.objs.size) (o:=.own<|s.heap.objs.size+1) (h':=s.heap.push W.emptyDict) (t':=s.toks) (λb u q=>xAf _ q) (xAg _) ⟨_,c⟩;erw[I1.laid (a:=s.heap.objs.size+1) (o:=.ins C s.heap.objs.size []) (t':=s.toks) (λb u q=>xAf _ q) (Nat.le_of_eq<|Heap.size_push _ _)];have ne:s.heap.objs.size≠s.heap.objs.size+1:=xA0<|Nat.lt_succ_self _;refine⟨by rw[bx ne,bz],xBn _,ne,r,λ_=>none,(Heap.Ns1.of_empty m).at λo q=>xAf _ q,λ_=>True.intro,λy d=>absurd rfl d⟩
def uH{prog:Program}{w:World}{env:Env}{e:A6}{f:Str}(b:attributeBase e f env (eval e env)=eval e env)(h:wpAny (model prog w) A (eval e env) (λo s₁=>wpAny (model prog w) A (getAttr o f true) Q E s₁) E s):wpAny (model prog w) A (eval (.Attribute e f pos) env) Q E s:=
 Attribute_any_ h (by rw[arm_eval_Attribute,b])
end
def zJj(K:xFr)(b:TE)(f:Str):TE:=λO H Q=>b O H λx H1=>∃a C dx fs v,x=.ref a/\H1 a=some (.ins C dx fs)/\Cls K C/\zBv K C f/\fs.lookup f=some v/\Q v H1
def zJo(K:xFr)(c b:TE)(f:Str):TS:=λD O H=>b O H λy H1=>c O H1 λx H2=>∃a C dx fs,x=.ref a/\H2 a=some (.ins C dx fs)/\Cls K C/\zBv K C f/\fs.length<1000 /\
 D.nx O (upd H2 a<|.ins C dx<|putF f y fs)
section
variable{X:Cx}{o e value:A6}{f:Str}{pos pos' tpos:Pos}{ta tv:TE}
def wM(r:PE X e ta)(t:attributeBase e f X.env (eval e X.env)=eval e X.env):PE X (.Attribute e f pos)<|zJj X.K ta f:=by
 intro Z s O H Q I h;refine uH t (thn (r Z s O H _ I h) λu F b=>?_);let⟨x,H1,I1,d,a,C,dx,fs,v,w,B,c,n,l,q⟩:=b;subst w;obtain rfl:u=Value.ref a:=d;exact kS I1 B c n l λD E I2 m=>⟨v,H1,I2,m,q⟩
def wp(B:PE X o ta)(v:PE X value tv)(w:swapsWith value (some<|.Attribute o f pos') pos.line X.env=pure false):PS X (.Assign [.Attribute o f pos'] value pos)<|zJo X.K ta tv f:=by
 intro Z s O H D I h;refine plainObj_wpAny_Assign_Attribute (thn (v Z s O H _ I h) λu b ⟨y,H1,I1,d,q⟩=>thn (B Z b O H1 _ I1 q) λt J ⟨x,H2,I2,m,a,C,dx,fs,E,F,c,n,l,r⟩=>?_) w;subst E;obtain rfl:t=Value.ref a:=m;exact kn I2 F c n l d λG I3=>⟨O,_,I3,r⟩
end
section
variable{X:Cx}{Z:A0<|A7×Obj}{O:St}{H:Hp}{s:A5}{A:Around}{E:A4->A5->Prop}{Q:A4->A5->Prop}{c:A4}{b:A8}
inductive zCd(K:xFr)(H:Hp):V->Value->Prop where
 |non:zCd K H .non (.type "NoneType")
 |bl (x:Bool):zCd K H (.bl x) (.type "bool")
 |int (i:Int):zCd K H (.int i) (.type "int")
 |str (x:Str):zCd K H (.str x) (.type "str")
 |flt (x:UInt64):zCd K H (.flt x) (.type "float")
 |lst {a:Addr} {xs:List V} (e:H a=some (.lst xs)):zCd K H (.ref a) (.type "list")
 |frz {a:Addr} {o:Obj} {xs:List V} (e:H a=some (.frz o (.lst xs))):zCd K H (.ref a) (.type "list")
 |tup {a:Addr} {xs:List V} (e:H a=some (.tup xs)):zCd K H (.ref a) (.type "tuple")
 |dK {a:Addr} {kvs:List (Key×V)} (e:H a=some (.dK kvs)):zCd K H (.ref a) (.type "dict")
 |dT {a:Addr} {kvs:List (List Key×V)} (e:H a=some (.dT kvs)):zCd K H (.ref a) (.type "dict")
 |ins {a C dx:Addr} {fs:List (Str×V)} (e:H a=some (.ins C dx fs)) (cl:Cls K C) (ha:W.findIn K (.ref C) "__class__"=some (some (.builtin "object.__class__")))
   (hn:W.specialIn K (.builtin "object.__class__") "__get__"=some (some (.builtin "getset_descriptor.__get__"))) (htk:W.takesIn K (.builtin "object.__class__")=some true)
   (hm:W.mroIn K C (.type "object")=some true):zCd K H (.ref a) (.ref C)
theorem oi{x:V}{u t:A4}(I:Inv X Z O H s)(d:zAi x u)(ty:zCd X.K H x t)(e:W.kitOne X.K t c=some b)(h:∀tk,Q (.bool b) {s with toks:=tk}) :
  wpAny (model X.prog X.w) A (call (.builtin "isinstance") [u,c]) Q E s:=by
 cases ty with
 |non=>cases (show u=Value.none from d);exact W.kia_one W.kitx_none I.kIn True.intro e (λz=>nomatch z) h
 |bl y=>cases (show u=Value.bool y from d);exact W.kia_one W.kitx_bool I.kIn True.intro e (λz=>nomatch z) h
 |int i=>let⟨t,q⟩:=(show ∃t,u=Value.int i t from d);cases q;exact W.kia_one W.kitx_int I.kIn True.intro e (λz=>nomatch z) h
 |str y=>let⟨t,q⟩:=(show ∃t,u=Value.str y t from d);cases q;exact W.kia_one W.kitx_str I.kIn True.intro e (λz=>nomatch z) h
 |flt y=>let⟨t,q⟩:=(show ∃t,u=Value.float y t from d);cases q;exact W.kia_one W.kitx_float I.kIn True.intro e (λz=>nomatch z) h
 |@lst a v l=>
  cases (show u=Value.ref a from d);let⟨_,_,n,_,m⟩:=(show zAg X.prog X.w H s.heap a (.lst v) from I.hok a _ l)
  exact W.kia_one W.kitx_list I.kIn ⟨_,m,rfl⟩ e (λz=>nomatch z) h
 |@frz a J v l=>
  cases (show u=Value.ref a from d);let⟨_,_,_,n,_,m⟩:=(show zAg X.prog X.w H s.heap a (.frz J<|.lst v) from I.hok a _ l)
  exact W.kia_one W.kitx_list I.kIn ⟨_,m,rfl⟩ e (λz=>nomatch z) h
 |@tup a v l=>
  cases (show u=Value.ref a from d);let⟨_,_,_,p⟩:=(show zAg X.prog X.w H s.heap a (.tup v) from I.hok a _ l)
  let⟨o,m,B,_⟩:=p;exact W.kia_one W.kitx_tuple I.kIn ⟨o,m,B⟩ e (λz=>nomatch z) h
 |@dK a r l=>
  cases (show u=Value.ref a from d);let⟨_,_,vs,_,p⟩:=(show zAg X.prog X.w H s.heap a (.dK r) from I.hok a _ l)
  let⟨o,es,S,m,B,_⟩:=p;exact W.kia_one W.kitx_dict I.kIn ⟨o,m,B.1⟩ e (λz=>nomatch z) h
 |@dT a r l=>
  cases (show u=Value.ref a from d);let⟨_,_,v,_,o,es,S,m,B,_⟩:=(show zAg X.prog X.w H s.heap a (.dT r) from I.hok a _ l)
  exact W.kia_one W.kitx_dict I.kIn ⟨o,m,B.1⟩ e (λz=>nomatch z) h
 |@ins a C dx fs l cl R L G P=>
  cases (show u=Value.ref a from d);let⟨mA,D,_⟩:=gi I.hok l;let⟨T,F,_⟩:=D.look;exact W.kia_one (W.kitx_own (cl.get _) cl.hd R L G P) I.kIn F e (λz=>nomatch z) h
end
structure zBc(k:Nat)(A:Around):Prop where
 hd:A.handled=none
 dp:A.depth+3*k+5<recursionLimit
 un:A.units+16*k+200<cLine
 gd:A.guards=some []
def zBc.mono(r:zBc k A)(h:j<=k):zBc j A:=⟨r.hd,by have:=r.dp;lia,by have:=r.un;lia,r.gd⟩
theorem zBc.deeper{k:Nat}{A:Around}(r:zBc (k+1) A)(env:Env):zBc k<|A.deeper env:=
 ⟨r.hd,by have:=r.dp;show A.depth+1+3*k+5<_;lia,by have:=r.un;show A.units+3+16*k+200<_;lia,r.gd⟩
def kQ{us:B4}:(A.under<|.builtin "type.__call__" ⟨.ref C::us,kw⟩).depth=A.depth+1:=by
 first|rfl|simp[Around.under,Code.weight,Code.isCreation,Code.isGuard,Code.isCaller,Code.frames,Code.isFrame,guardIds]
def kP{us:B4}:(A.under<|.builtin "type.__call__" ⟨.ref C::us,kw⟩).units=A.units+1:=by
 first|rfl|simp[Around.under,Code.cUnits,Code.frames,Code.isFrame]
def jL{us:B4}:(A.under<|.builtin "type.__call__" ⟨.ref C::us,kw⟩).guards=A.guards:=by
 first|rfl|simp[Around.under,Code.weight,Code.isCreation,Code.isGuard,Code.isCaller,Code.frames,Code.isFrame,guardIds]
def zBc.make(r:zBc (k+1) A)(C:A7)(us:B4)(kw:A0<|Str×A4):zBc k<|A.under<|.builtin "type.__call__" ⟨.ref C::us,kw⟩:=
 ⟨r.hd,by have:=r.dp;rw[kQ];lia,by have:=r.un;rw[kP];lia,jL.trans r.gd⟩
theorem zBc.depth{k:Nat}{A:Around}(r:zBc k A):A.depth<recursionLimit:=by have:=r.dp;lia
def zF7:TA:=λ_ H Q=>Q [] H
def zE3(b:TE)(tr:TA):TA:=λO H Q=>b O H λx H1=>tr O H1 λa H2=>Q (x::a) H2
section
variable{X:Cx}{e:A6}{es:A0 A6}{te:TE}{t:TA}{pos:Pos}
def iI:PA X [] zF7:=λ_ _ _ _ H Q I h=>Calls.spliced_nil ⟨[],H,I,.nil,h⟩
def tG(q:PE X e te)(o:PA X es t)(m:starEach (e::es) X.env=(false,eval e X.env)::starEach es X.env:=by rfl):PA X (e::es)<|zE3 te t:=by
 intro pos Z s O H Q I h;rw[m];show wpAny _ _ (spliced<|(false,eval e X.env)::backTo pos (starEach es X.env)) _ _ s;refine Calls.spliced_cons (thn (q Z s O H _ I h) λu c a=>?_);let⟨x,H1,I1,r1,l⟩:=a;exact thn (o pos Z c O H1 _ I1 l) λus r ⟨b,H2,I2,r2,d⟩=>⟨x::b,H2,I2,.cons r1 r2,d⟩
def zI9(t:TA):TE:=λO H Q=>t O H λa H1=>a.length<=sizeLine/\∀p,H1 p=none->Q (.ref p) (upd H1 p<|.tup a)
def zJg(t:TA):TE:=λO H Q=>t O H λa H1=>a.length<=sizeLine/\∀p,H1 p=none->Q (.ref p) (upd H1 p<|.lst a)
def wG{x1}(h:PA X es t):PE X (.Tuple es x1 pos)<|zI9 t:=by
 intro Z s O H Q I d;refine wpAny_Tuple_spliced (thn (h pos Z s O H _ I d) λus a ⟨c,H1,I1,r,z,q⟩=>⟨by rw[<- r.length];exact z,?_⟩);have l:H1 a.heap.objs.size=none:=I1.hok.fresh<|xAg _;refine⟨.ref a.heap.objs.size,upd H1 a.heap.objs.size<|.tup c,I1.laid (t':=a.toks) (λb u e=>xAf _ e) (xAg _) ?_,rfl,q _ l⟩;exact⟨z,us,r,⟨_,xAl _ rfl,rfl,_,rfl⟩⟩
def wJ(h:PA X es t):PE X (.List es pos)<|zJg t:=by
 intro Z s O H Q I d;refine wpAny_List_spliced (thn (h pos Z s O H _ I d) λus a ⟨c,H1,I1,r,z,q⟩=>⟨by rw[<- r.length];exact z,?_⟩);have l:H1 a.heap.objs.size=none:=I1.hok.fresh<|xAg _;refine⟨.ref a.heap.objs.size,upd H1 a.heap.objs.size<|.lst c,I1.laid (t':=a.toks) (λb u e=>xAf _ e) (xAg _) ?_,rfl,q _ l⟩;exact⟨z,us,0,r,xAl _ rfl⟩
end
noncomputable abbrev Sp:=B3->Hp->VK->XK->Prop
noncomputable abbrev CXT:=A0 Env->Hp->A5->XK->A4->A5->Prop
structure zEq(P:Program)(w:World)(K:xFr)(mg:Str->A3 A4)(base:Heap)(A:Around)(outer:A0 Env)(s:A5)(H:Hp):Prop where
 frames:A.frames=some outer
 mod:Mod K mg base
 bs:∀b o,base.get? b=some o->s.heap.get? b=some o/\H b=none
 bsz:base.objs.size<=s.heap.objs.size
 funs:s.heap.FunFrames base outer
 frf:∀b∈frs outer,H b=none
 hok:HOk P w H s.heap
 bare:AllBare s.gens
def CE(outer:A0 Env)(P:Program)(w:World)(H:Hp)(s:A5)(Q:VK)(u:A4)(a:A5):Prop:=
 ∃v H',a.os=s.os/\AllBare a.gens/\Un (frs outer) [] H H' s.heap a.heap/\HOk P w H' a.heap/\zAi v u/\Q v H'
def CR(CX:CXT)(outer:A0 Env)(P:Program)(w:World)(H:Hp)(s:A5)(Q:VK)(E:XK)(r:Result)(a:A5):Prop:=
 match r with
 |.ok (.ret u)=>CE outer P w H s Q u a
 |.ok _=>False
 |.error e=>CX outer H s E e a
structure zA9(P:Program)(w:World)(K:xFr)(mg:Str->A3 A4)(base:Heap)(CX:CXT)(k:Nat)(f:A7)(fd:FuncData)(ps:A9)(sp:Sp):Prop where
 len:∀vs H Q E,sp vs H Q E->vs.length=ps.length
 run:∀(A:Around)(outer:A0 Env)(s:A5)(H:Hp)(args:Args)(us:B4)(vs:B3)(Q:VK)(E:XK),zBc k A->zEq P w K mg base A outer s H->BindsTo s fd args (ps.zip us)->zAk vs us->sp vs H Q E ->
  codeAny (model P w) A (.call (.ref f) args) (CR CX outer P w H s Q E) s
def zA9.imp{P:Program}{w:World}{f:A7}{sp a:Sp}(F:zA9 P w K mg base CX k f fd ps sp)(h:∀vs H Q E,a vs H Q E->sp vs H Q E):zA9 P w K mg base CX k f fd ps a:=
 ⟨λvs H Q E q=>F.len vs H Q E<|h _ _ _ _ q,λA outer s H b us vs Q E e l m c d=>F.run A outer s H b us vs Q E e l m c<|h _ _ _ _ d⟩
def zEq.make{P:Program}{w:World}(e:zEq P w K mg base A outer s H)(C:A7)(us:B4)(kw:A0<|Str×A4) :
  zEq P w K mg base (A.under<|.builtin "type.__call__" ⟨.ref C::us,kw⟩) outer s H:=⟨by first|exact e.frames|(simpa [Around.under,Code.envs,Code.isFrame,pushEnvs] using e.frames),e.mod,e.bs,e.bsz,e.funs,e.frf,e.hok,e.bare⟩
section
variable{X:Cx}{Z:A0<|A7×Obj}{O:St}{H:Hp}{s s':A5}
def Inv.env0(I:Inv X Z O H s):zEq X.prog X.w X.K X.mg X.base X.A X.stack s H:=
 ⟨I.ok.frames,I.ok.mod,I.bs,xCk I.ok.bsz I.sz,I.stack,I.stkFree,I.hok,I.bare⟩
def Inv.after{Q:VK}{u:A4}(I:Inv X Z O H s)(h:CE X.stack X.prog X.w H s Q u s'):EP X Z O Q u s':=by
 let⟨v,H',l,a,un,e,r,q⟩:=h;let⟨m,g,d,t,c⟩:=s';obtain rfl:c=s.os:=l;exact⟨v,H',I.call (h':=m) (g':=g) (d':=d) (t':=t) (ch:=[]) un e a (λb z=>absurd z ⋯),r,q⟩
end
def zD9(C:A7)(sp:Sp)(a:B3)(E:XK)(t:TA):TE:=λO H Q=>t O H λvs H1=>∀x dx,H1 x=none->H1 dx=none->dx≠x ->
 sp (.ref x::(vs++a)) (upd (upd H1 dx<|.own x) x<|.ins C dx []) (λv H2=>v=.non/\Q (.ref x) H2) E
def zAy(K:xFr)(fd:FuncData)(ps:A9)(a:B4):Prop:=
 ∀(s:A5)(us:B4),K.In s.heap->(us++a).length=ps.length->BindsTo s fd ⟨us,[]⟩ (ps.zip<|us++a)
def zAy.all(h:∀us:B4,us.length=ps.length->bindArgs fd ⟨us,[]⟩=pure (ps.zip us)):zAy K fd ps []:=λs us _ a=>by
 rw[xB0] at a⊢;exact .of_eq<|h us a
def zCv(CX:CXT)(X:Cx)(E:XK):Prop:=∀(Z:A0<|A7×Obj)(O:St)(H:Hp)(s:A5)(e:A4)(a:A5),Inv X Z O H s->CX X.stack H s E e a->X.xe e a
section
variable{X:Cx}{CX:CXT}{k:Nat}{f C:A7}{fd:FuncData}{ps:A9}{sp:Sp}{dvs:B3}{ds:B4}{E:XK}{x m:Str}{p pos apos:Pos}{e o:A6}{es:A0 A6}{ta:TE}{t:TA}
structure Mk(K:xFr)(C f:A7):Prop where
 makes:W.makesIn K C=true
 init:W.findIn K (.ref C) "__init__"=some (some (.ref f))
 fn:W.isFn K (.ref f)=true
 kp:W.keepIn K (.ref C)=true
theorem jp{O:St}{Q:VK}{us:B4}(M:Mk X.K C f)(F:zA9 X.prog X.w X.K X.mg X.base CX k f fd ps sp)(B:zBc (k+1) X.A)(G:zAy X.K fd ps ds)(hd:zAk dvs ds)(q:zCv CX X E)(I:Inv X Z O H s)(r:zAk vs us)(h:∀x dx,H x=none->H dx=none->dx≠x->sp (.ref x::(vs++dvs)) (upd (upd H dx<|.own x) x<|.ins C dx []) (λv H2=>v=.non/\Q (.ref x) H2) E) :
  wpAny (model X.prog X.w) X.A (call (.ref C) us) (EP X Z O Q) X.xe s:=by
 have b:=h (s.heap.objs.size+1) s.heap.objs.size (I.hok.fresh<|Nat.le_succ _) (I.hok.fresh<|xAg _)<|xA0<|Nat.lt_succ_self _;have I2:=Inv.made (C:=C) I;have r2:zAk (V.ref (s.heap.objs.size+1)::(vs++dvs))<|Value.ref (s.heap.objs.size+1)::(us++ds):=.cons rfl<|r.append hd;have D:(Value.ref (s.heap.objs.size+1)::us++ds).length=ps.length:=by
  have e:=r2.length;rw[F.len _ _ _ _ b] at e;exact e.symm
 refine wpAny_call<|qI (f:=f) I.kIn M.makes M.init (beq_iff_eq.mp M.fn)<|codeAny_mono (F.run _ X.stack _ _ ⟨Value.ref (s.heap.objs.size+1)::us,[]⟩ (Value.ref (s.heap.objs.size+1)::(us++ds)) _ _ E (B.make C us [])
  (I2.env0.make C us []) (G _ (Value.ref (s.heap.objs.size+1)::us) I2.kIn D) r2 b) λr c a=>?_
 cases r with
 |error e=>exact q Z O _ _ e c I2 a
 |ok fl=>
  cases fl with
  |ret u=>
   let⟨v,H',I3,d,J,l⟩:=I2.after a;subst J;exact⟨d,⟨V.ref<|s.heap.objs.size+1,H',I3,rfl,l⟩⟩
  |next=>exact False.elim a
  |brk=>exact False.elim a
  |cont=>exact False.elim a
def tx(M:Mk X.K C f)(F:zA9 X.prog X.w X.K X.mg X.base CX k f fd ps sp)(d:zBc (k+1) X.A)(v:Gl X x)(l:X.mg x=some (.ref C))(D:zAy X.K fd ps ds)(hd:zAk dvs ds)(c:zCv CX X E)(G:PA X (e::es) t)(b:(x==("__debug__":Str))=false:=by decide)(B:starEach (e::es) X.env=(false,eval e X.env)::starEach es X.env:=by rfl)(a:(backTo pos<|starEach es X.env).any (·.1)=false:=by rfl) :
  PE X (.Call (.Name x p) (e::es) [] pos) (zD9 C sp dvs E t):=by
 intro Z s O H Q I h;erw[<-wpAny_Call_Name_kw (eG I v l ?_ b),<-W.callWith_K (h₀:=X.base) I.ok.mod.kin M.kp (thn (G pos Z s O H _ I h) λus J ⟨vs,H1,I1,r,q⟩=>⟨I1.kIn,?_⟩) B a,<-jp M F d D hd c I1 r q]
def qh(M:Mk X.K C f)(F:zA9 X.prog X.w X.K X.mg X.base CX k f fd ps sp)(c:zBc (k+1) X.A)(l:Gl X x)(d:X.mg x=some (.ref C))(q:zAy X.K fd ps ds)(hd:zAk dvs ds)(b:zCv CX X E)(a:(x==("__debug__":Str))=false:=by decide):PE X (.Call (.Name x p) [] [] pos)<|zD9 C sp dvs E zF7:=by
 intro Z s O H Q I h;refine wpAny_Call_Name_kw (eG I l d ?_ a);exact W.callWith_K0 I.kIn M.kp (jp (us:=[]) M F c q hd b I .nil h)
end
structure zBf(N P:A9)(sc:Scope):Prop where
 kind:sc.kind=.function
 co:sc.isCoroutine=false
 gen:sc.isGenerator=false
 nd:N.Nodup
 pre:N.take P.length=P
 par:∀x∈P,sc.names.lookup x=some .local\/sc.names.lookup x=some .cell
 nofree:∀y∈sc.names,y.2≠.free
theorem il{kindOf:Str->A3 NameKind}{x:Str}:∀{binds:A0<|Str×A4}{m:Str->A3 A4},(∀v,(x,v)∉binds)->bindL kindOf binds m x=m x
 |[],_,_=>rfl
 |(n,v)::r,m,h=>by
  unfold bindL;rw[il λw a=>h w<|xAs _ a];split
  .have:x≠n:=by rintro rfl;exact h v xAr
   simp[this]
  .rfl
theorem io{kindOf:Str->A3 NameKind}{x:Str}:∀{binds:A0<|Str×A4}{m:Str->A3 A4},(∀v,(x,v)∉binds)->bindC kindOf binds m x=m x
 |[],_,_=>rfl
 |(n,v)::r,m,h=>by
  unfold bindC;rw[io λw a=>h w<|xAs _ a];split
  .rfl
  .have:x≠n:=by rintro rfl;exact h v xAr
   simp[this]
theorem im{kindOf:Str->A3 NameKind}{x:Str}{v:A4}:∀{P:A9}{vs:B4}{i:Nat}{m:Str->A3 A4},P.Nodup->P[i]?=some x->vs[i]?=some v->kindOf x=some .local ->
  bindL kindOf (P.zip vs) m x=some v
 |[],_,_,_,_,h,_,_=>by simp at h
 |_::_,[],_,_,_,_,h,_=>by simp at h
 |p::P,w::vs,0,m,c,b,a,d=>by
  simp at b a;subst b;subst a;show bindL kindOf ((p,w)::P.zip vs) m p=_;unfold bindL;rw[il λv e=>(xCb.mp c).1 (List.of_mem_zip e).1,xCg d];simp
 |p::P,w::vs,i+1,m,c,b,a,d=>by
  show bindL kindOf ((p,w)::P.zip vs) m x=_;unfold bindL;exact im (i:=i) (xCb.mp c).2 (by simpa using b) (by simpa using a) d
theorem ip{kindOf:Str->A3 NameKind}{x:Str}{v:A4}:∀{P:A9}{vs:B4}{i:Nat}{m:Str->A3 A4},P.Nodup->P[i]?=some x->vs[i]?=some v->kindOf x≠some .local ->
  bindC kindOf (P.zip vs) m x=some v
 |[],_,_,_,_,h,_,_=>by simp at h
 |_::_,[],_,_,_,_,h,_=>by simp at h
 |p::P,w::vs,0,m,c,b,a,d=>by
  simp at b a;subst b;subst a;show bindC kindOf ((p,w)::P.zip vs) m p=_;unfold bindC;rw[io λv e=>(xCb.mp c).1 (List.of_mem_zip e).1,xCf d];simp
 |p::P,w::vs,i+1,m,c,b,a,d=>by
  show bindC kindOf ((p,w)::P.zip vs) m x=_;unfold bindC;exact ip (i:=i) (xCb.mp c).2 (by simpa using b) (by simpa using a) d
noncomputable def start(N:A9)(vs:B3):St:=vs.map some++List.replicate (N.length-vs.length) none
noncomputable def zD2(CX:CXT)(P:Program)(w:World)(K:xFr)(mg:Str->A3 A4)(base:Heap)(N:A9)(qual:Str)(scope:Scope)(f:A7)(cd:A4)(A:Around)(outer:A0 Env)(s:A5)(H:Hp)(E:XK):Cx where
 prog:=P
 w:=w
 K:=K
 mg:=mg
 base:=base
 A:=A.deeper<|envOfC qual scope s.heap.objs.size f cd
 N:=N
 s₀:=s
 H₀:=H
 env:=envOfC qual scope s.heap.objs.size f cd
 outer:=outer
 stack:=envOfC qual scope s.heap.objs.size f cd::outer
 ex:=[]
 calm:=true
 fn:=λ_=>true
 pn:=[]
 xe:=λe a=>wpAny (model P w) (A.deeper<|envOfC qual scope s.heap.objs.size f cd) (leaving (envOfC qual scope s.heap.objs.size f cd) e) (λ_ s''=>CX outer H s E e s'') (λb s''=>CX outer H s E b s'') a
def gM{sc:Scope}{x:Str}(h:sc.names.lookup x=some .cell):∃c,(cellsFrom n sc.names []).lookup x=some c:=by
 have q:=W.cellsFrom_some sc.names n []<|.inl h;exact Option.isSome_iff_exists.mp q
def oj{P:Program}{w:World}{f:A7}{cd:A4}{D:A5}{E:XK}{us:B4}(S:zBf N ps scope)(hd:A.handled=none)(l:zEq P w K mg base A outer s H)(O:vs.length=ps.length)(r:zAk vs us)(x:InCallC s s.heap.objs.size (bindL (envOfC qual scope s.heap.objs.size f cd).kindOf (ps.zip us) λ_=>none) (cellsFrom (s.heap.objs.size+1) scope.names []) (bindC (envOfC qual scope s.heap.objs.size f cd).kindOf (ps.zip us) λ_=>none) D) :
  Inv (zD2 CX P w K mg base N qual scope f cd A outer s H E) [] (start N vs) H D:=by
 have J:ps.length<=N.length:=by have:=congrArg List.length S.pre;rw[xAn] at this;lia
 let⟨B,tk,rfl,G⟩:=x.done;have noA:∀b:A7,b ∉ (zD2 CX P w K mg base N qual scope f cd A outer s H E).ex:=λb z=>absurd (show b∈([]:A0 A7) from z) ⋯;refine⟨⟨l.mod,S.kind,rfl,rfl,xAg _,λy z c B d=>?_,λy hy=>?_,λy c _ h=>?_,λ_=>hd,Around.frames_deeper l.frames,.inr ⟨rfl,rfl⟩,λb z=>absurd z<|noA b,l.bs,l.bsz,λb _ _=>noA b,λb z=>absurd z<|noA b,l.funs,l.frf⟩,
  rfl,l.bare,Un.kept G,⟨_,x.toInCall.ns,λi y v B d R=>?_⟩,λy c h=>⟨_,x.cell y c h⟩,l.hok.fresh<|xAg _,λy c h=>?_,λp o=>absurd (show p∈([]:A0<|A7×Obj) from o) ⋯,l.hok.kept G,?_⟩
 .exact name_of_addr x.apart (PySem.mem_of_lookup B)<|PySem.mem_of_lookup d
 .have hy:scope.names.lookup y=some .cell\/scope.names.lookup y=some .free:=hy;rcases hy with hy|hy
  .exact gM hy
  .exact absurd rfl<|S.nofree _<|PySem.mem_of_lookup hy
 .exact Nat.le_of_lt<|x.above y c<|PySem.mem_of_lookup h
 .have t:i<vs.length:=by
   unfold start at d;by_cases t:i<vs.length
   .exact t
   .rw[xCl<|by simpa using t] at d;rw[List.getElem?_replicate] at d;split at d <;> cases d
  have L:vs[i]?=some v:=by
   unfold start at d;rw[List.getElem?_append_left (by simpa using t),xAw] at d;cases e:vs[i]? with
   |none=>rw[e] at d;cases d
   |some a=>rw[e] at d;cases d;rfl
  let⟨u,F,I⟩:=r.get L;have o:ps[i]?=some y:=by
   rw[<- S.pre,List.getElem?_take_of_lt ()];exact B
  have m:ps.Nodup:=by rw[<- S.pre];exact S.nd.sublist<|List.take_sublist _ _
  refine⟨u,I,?_⟩;rcases S.par y (xAc o) with k|k
  .exact .inl ⟨k,im m o F k⟩
  .let⟨c,e⟩:=gM (n:=s.heap.objs.size+1) k;refine .inr ⟨.inl k,c,e,?_⟩;have q:=x.cell y c e;rw[ip m o F<|by show scope.names.lookup y≠_;rw[k];decide] at q;exact q
 .exact l.hok.fresh<|Nat.le_of_lt<|x.above y c<|PySem.mem_of_lookup h
 .unfold start;show _=N.length;rw[xAb,xAa,xCu];lia
theorem zA{P:Program}{w:World}{f:A7}{name:Str}{params:Arguments}{d:A0 Stmt}{dV kV J pm c ct oc:A4}{an od:A3 A7}{R:Array<|A3 A4}{sp:Sp}(lk:K.lookup f=some ⟨oc,od,.func<|W.fnOf name qual params d scope dV kV J pm an c ct,R⟩)(hcd:W.codeIn K c qual=true)(S:zBf N ps scope)(len:∀vs H Q E,sp vs H Q E->vs.length=ps.length)(m:∀(A:Around)(outer:A0 Env)(s:A5)(H:Hp)(vs:B3)(Q:VK)(E:XK),zBc k (A.deeper<|envOfC qual scope s.heap.objs.size f c)->sp vs H Q E ->
   ∃t,PSs (zD2 CX P w K mg base N qual scope f c A outer s H E) d t/\t {nx:=λ_ H'=>Q .non H',rt:=Q} (start N vs) H) :
  zA9 P w K mg base CX (k+1) f (W.fnOf name qual params d scope dV kV J pm an c ct) ps sp:=by
 refine⟨len,λA outer s H args us vs Q E Y G hb r D=>?_⟩;have hl:=len _ _ _ _ D;have KX:K.In s.heap:=G.mod.kin.keeps λb o e=>(G.bs b o e).1;have T:s.heap.NoLimit:=G.mod.nolimit.keeps λb o e=>(G.bs b o e).1;have l:∀y∈ps.zip us,scope.names.lookup y.1=some .local\/(scope.names.lookup y.1=some .cell/\((cellsFrom (s.heap.objs.size+1) scope.names []).lookup y.1).isSome=true):=λ⟨n,v⟩ hy=>by
  rcases S.par n (List.of_mem_zip hy).1 with q|q
  .exact .inl q
  .exact .inr ⟨q,W.cellsFrom_some _ _ _<|.inl q⟩
 erw[<-codeAny_call_function Y.depth (KX _ _ lk) rfl S.co S.gen rfl (W.codeRec_of KX hcd)<|hb _ _ _ _ ?_,<-wpAny_newFunctionEnv_cells S.kind l λenv he s1 x=>?_];subst he;refine⟨T.keeps x.toInCall.keep,codeAny_func ?_⟩;let⟨t,ht,hq⟩:=m A outer s H vs Q E (Y.deeper _) D;have I:Inv (zD2 CX P w K mg base N qual scope f c A outer s H E) [] (start N vs) H s1:=oj S Y.hd G hl r x;refine wpAny_mono (ht [] s1 (start N vs) H _ I hq) (λfl L B=>?_) λe L B=>B;have F:∀{O':St}{H':Hp}{v:V}{u:A4},Inv (zD2 CX P w K mg base N qual scope f c A outer s H E) [] O' H' L->zAi v u->Q v H'->CE outer P w H s Q u L:=
  λ{O' H' v u} a O q=>⟨v,H',a.os,a.bare,a.base,a.hok,O,q⟩
 cases fl with
 |ret u=>
  let⟨v,O',H',a,O,q⟩:=B;exact F a O q
 |next=>
  let⟨O',H',a,q⟩:=B;exact F (v:=V.non) (u:=Value.none) a rfl q
 |brk=>
  let⟨_,_,_,q⟩:=B;exact False.elim q
 |cont=>
  let⟨_,_,_,q⟩:=B;exact False.elim q
section
variable{X:Cx}{x:Str}{p pos:Pos}{e:A6}{es:A0 A6}{t:TA}{id T:String}{r:B3->Hp->VK->Prop}
def tCB(r:B3->Hp->VK->Prop)(t:TA):TE:=λO H Q=>t O H λvs H1=>r vs H1 Q
def qp(w:zAp X (.builtin id) r)(q:Gl X x)(o:X.mg x=none)(l:bootBuiltins x=some (.builtin id))(B:PA X (e::es) t)(m:x≠"__name__":=by decide)(b:(x==("__debug__":Str))=false:=by decide)(v:starEach (e::es) X.env=(false,eval e X.env)::starEach es X.env:=by rfl)(a:(backTo pos<|starEach es X.env).any (·.1)=false:=by rfl):PE X (.Call (.Name x p) (e::es) [] pos)<|tCB r t:=by
 intro Z s O H Q I h;refine wpAny_Call_Name_kw (fg I q o l ?_ m b);exact PyProof.Rows.callWith_builtin1 (thn (B pos Z s O H _ I h) λus c ⟨vs,H1,I1,r1,d⟩=>w Z c O H1 vs us Q I1 r1 d) v a
def nU(w:zAp X (.type T) r)(q:Gl X x)(o:X.mg x=none)(l:bootBuiltins x=some (.type T))(B:PA X (e::es) t)(m:x≠"__name__":=by decide)(b:(x==("__debug__":Str))=false:=by decide)(v:starEach (e::es) X.env=(false,eval e X.env)::starEach es X.env:=by rfl)(a:(backTo pos<|starEach es X.env).any (·.1)=false:=by rfl):PE X (.Call (.Name x p) (e::es) [] pos)<|tCB r t:=by
 intro Z s O H Q I h;refine wpAny_Call_Name_kw (fg I q o l ?_ m b);exact PyProof.Rows.callWith_type1 (thn (B pos Z s O H _ I h) λus c ⟨vs,H1,I1,r1,d⟩=>w Z c O H1 vs us Q I1 r1 d) v a
end
end L2
namespace HT
open PySem PyProof.Rows
variable{t sl:A7}{Q:A4->A5->Prop}{vl vu:A4}{lo hi:A3 Int}
section
open PySem.SeqAt
open PySem.AutoSeq1 (wpAny_loadPart')
open PySem.MeetsSeq PySem.MeetsSeq2 PySem.MeetsSeq3
end
section
variable{prog:Program}{w:World}{A:Around}{E:A4->A5->Prop}{s:A5}
def cat_tup{b:A7}{vs ws:B4}(k:IsTup s.heap t vs.toArray)(l:IsTup s.heap b ws.toArray)(h:vs≠[])(o:ws=[]->Q (.ref t) s)(m:ws≠[]->Q (.ref s.heap.objs.size) {s with heap:=s.heap.push {cls:=.type "tuple",data:=.seq (vs++ws).toArray} })(hsz:vs.length+ws.length<=sizeLine):wpAny (model prog w) A (binaryOp .Add (.ref t)<|.ref b) Q E s:=by
 let⟨⟨cls,i,data,sl⟩,ho,hc,n,hd⟩:=id k;let⟨⟨j,c,d,a⟩,ho2,hc2,n2,hd2⟩:=id l;simp only at hc hd hc2 hd2;subst hc hd hc2 hd2;have e:vs.toArray++ws.toArray=(vs++ws).toArray:=by simp
 by_cases hw:ws=[]
 .exact concat_meets ⟨_,ho,rfl⟩ ⟨_,ho2,rfl⟩ noFill_tuple_add seq_tuple_add PySem.F.slot_tuple_add PySem.F.entry_tuple_add (PySem.F.args_tuple_add_2 _ _)
   (tuple_addW1 t b vs.toArray ws.toArray n n2 i c sl a (by simpa using h)<|by simp[hw]) ⟨ho,ho2,o hw⟩
 .refine concat_meets ⟨_,ho,rfl⟩ ⟨_,ho2,rfl⟩ noFill_tuple_add seq_tuple_add PySem.F.slot_tuple_add PySem.F.entry_tuple_add (PySem.F.args_tuple_add_2 _ _)
   (tuple_addW2 t b vs.toArray ws.toArray n n2 i c sl a (by simpa using h) (by simpa using hw)<|by rw[xAp,xAp];exact hsz) ⟨ho,ho2,?_⟩
  rw[e];exact m hw
noncomputable def sIx(n d:Nat):A3 Int->Nat
 |none=>d
 |some v=>if v<0 then(v+(n:Int)).toNat else min v.toNat n
def sIx_none(n d:Nat):sIx n d none=d:=rfl
def sIx_nat(n d k:Nat):sIx n d (some (k:Int))=min k n:=by
 show(if(k:Int)<0 then((k:Int)+(n:Int)).toNat else min (k:Int).toNat n)=min k n;rw[xCf (),xC3]
theorem pE(n d:Nat)(hd:d<=n)(o:A3 Int):sIx n d o<=n:=by
 cases o with
 |none=>exact hd
 |some v=>
  show(if v<0 then(v+(n:Int)).toNat else min v.toNat n)<=n;by_cases hv:v<0
  .rw[xCg hv];lia
  .rw[xCf hv];exact Nat.min_le_right _ _
def nu(v:Int)(n d:Nat):(if v<0 then max (v+(n:Int)) 0 else min v (n:Int))=((sIx n d<|some v:Nat):Int):=by
 show(if v<0 then max (v+(n:Int)) 0 else min v (n:Int))=(((if v<0 then(v+(n:Int)).toNat else min v.toNat n):Nat):Int);by_cases hv:v<0
 .simp only[xCg hv];lia
 .simp only[xCf hv];lia
def lj(lo hi:A3 Int)(n:Nat):Builtin.Slice.sliceAdjust lo hi 1 (n:Int)=(((sIx n 0 lo:Nat):Int),((sIx n n hi:Nat):Int)):=by
 have a:¬ ((1:Int)<0):=()
 unfold Builtin.Slice.sliceAdjust;simp only[a,if_false];refine Prod.ext ?_ ?_
 .cases lo with
  |none=>rfl
  |some v=>exact nu v n 0
 .cases hi with
  |none=>rfl
  |some v=>exact nu v n n
def kJ(i j:Nat):Builtin.Slice.slicePlaces (i:Int) (j:Int) 1=j-i:=by
 unfold Builtin.Slice.slicePlaces;have a:(1:Int)>0:=by lia
 simp only[a,if_true,Int.ediv_one];split <;> lia
theorem gq{v:A4}{o:A3 Int}{Q:A3 Int->A5->Prop}(p:IsPart v o)(h:Q o s):wpAny (model prog w) A (Builtin.Slice.slicePartIndex v) Q E s:=by
 cases p with
 |none=>exact slicePart_none h
 |int i t=>exact slicePart_int h
def dW{n:Nat}{Q:Int×Int×Nat->A5->Prop}(d:s.heap.IsSliceOf sl vl vu .none)(pl:IsPart vl lo)(c:IsPart vu hi)(h:Q (((sIx n 0 lo:Nat):Int),1,sIx n n hi-sIx n 0 lo) s):wpAny (model prog w) A (Builtin.Slice.sliceApplied (.ref sl)<|pure (n:Int)) Q E s:=by
 let⟨i,a,e,b⟩:=id d;unfold Builtin.Slice.sliceApplied Builtin.Slice.sliceFields;erw[<-xAd<|xAd<|xDa a b (x:=vl) rfl<|xAd<|xDa a b (x:=vu) rfl<|xAd<|xDa a b (x:=.none) rfl<|xAe ?_,<-xAd<|slicePart_none ?_];show wpAny _ _ (if((1:Int)==0)=true then _ else _) _ _ s;rw[xCf ∅];refine xAd<|gq pl<|xAd<|gq c<|xAd<|xAe ?_;show wpAny _ _ (match Builtin.Slice.sliceAdjust lo hi 1 (n:Int) with|(lo,hi)=>pure (lo,(1:Int),Builtin.Slice.slicePlaces lo hi 1)) _ _ s;rw[lj lo hi n];show wpAny _ _ (pure (((sIx n 0 lo:Nat):Int),(1:Int),Builtin.Slice.slicePlaces ((sIx n 0 lo:Nat):Int) ((sIx n n hi:Nat):Int) 1)) _ _ s;rw[kJ];exact xAe h
def qb(xs:Array A4)(i k:Nat):((List.range k).filterMap λ(m:Nat)=>xs[((i:Int)+(m:Int)*1).toNat]?).toArray=((xs.toList.drop i).take k).toArray:=by
 have e:(λ(m:Nat)=>xs[((i:Int)+(m:Int)*1).toNat]?)=λm=>xs[i+m]?:=by
  funext m
  have:((i:Int)+(m:Int)*1).toNat=i+m:=()
  rw[this]
 rw[e];have:=pick_run xs i k;rw[List.filterMap_map] at this;have a:((λx=>xs[x]?) ∘ λx=>i+x)=λm=>xs[i+m]?:=rfl;rw[a] at this;rw[this]
def getItem_tuple_cut{items:Array A4}(b:IsTup s.heap t items)(j:s.heap.IsSliceOf sl vl vu .none)(pl:IsPart vl lo)(k:IsPart vu hi)(n:¬ (sIx items.size 0 lo=0/\sIx items.size items.size hi=items.size))(h:Q (.ref s.heap.objs.size) {s with heap:=s.heap.push {cls:=.type "tuple",data:=.seq ((items.toList.drop<|sIx items.size 0 lo).take<|sIx items.size items.size hi-sIx items.size 0 lo).toArray} })(hsz:items.size<=sizeLine):wpAny (model prog w) A (getItem (.ref t)<|.ref sl) Q E s:=by
 have a:sizeOk<|.seq ((items.toList.drop<|sIx items.size 0 lo).take<|sIx items.size items.size hi-sIx items.size 0 lo).toArray:=by
  show((items.toList.drop<|sIx items.size 0 lo).take<|sIx items.size items.size hi-sIx items.size 0 lo).toArray.size<=sizeLine;rw[xAp,xAn,List.length_drop,xAh];omega
 have v:sIx items.size items.size hi<=items.size:=pE _ _ (xAg _) hi;let⟨l,c,e,o⟩:=id j;have i:s.TypeIs (.ref sl) "slice":=⟨l,c,e⟩
 unfold getItem;try with_reducible refine xDc ?_
 first|refine xAd (xAe ?_)|skip
 refine xAd<|wpAny_sequenceKey b.typeIs ∅ ?_;refine xAd (wpAny_callSpecial?_slot (name:=Str.ofString "__getitem__") b.typeIs PyProof.Rows.slot_tuple_getitem
  (wpAny_call_entry PyProof.Rows.slot_tuple_getitem b.typeIs entry_tuple_getitem ?_<|args_tuple_getitem _ _))
 show wpAny _ _ (Builtin.Tuple.tupleItemsOf (.ref t)>>=_) _ _ s;erw[<-xAd<|tupleItemsOf_ b ?_,<-xAd<|wpAny_typeOf i ?_];rw[xCg ∅];refine xAd<|dW j pl k ?_;have d:¬ ((((sIx items.size 0 lo:Nat):Int)==0&&(1:Int)==1&&(sIx items.size items.size hi-sIx items.size 0 lo)==items.size)=true):=by
  intro q;rw[xCh,xCh] at q;have r:((sIx items.size 0 lo:Nat):Int)=0:=eq_of_beq q.1.1;have p:sIx items.size items.size hi-sIx items.size 0 lo=items.size:=eq_of_beq q.2;exact n ⟨by omega,by omega⟩
 show wpAny _ _ (if(((sIx items.size 0 lo:Nat):Int)==0&&(1:Int)==1&&(sIx items.size items.size hi-sIx items.size 0 lo)==items.size)=true then _ else _) _ _ s;rw[xCf d,qb];first
  |exact xAd (m:=Builtin.Tuple.tupleExact _) (xBl (xAe ⟨_,rfl,xAe h⟩) a)
  |exact xAd (m:=Builtin.Tuple.tupleExact _) (xBl (xAd<|xAe<|xAe ⟨_,rfl,xAe h⟩) a)
  |exact xAd (xAd (m:=Builtin.Tuple.tupleExact _)<|xBl (xAe<|xAe ⟨_,rfl,xAe h⟩) a)
  |exact xAd (xAd (m:=Builtin.Tuple.tupleExact _)<|xBl (xAe ⟨_,rfl,xAe h⟩) a)
end
end HT
namespace L2
open PySem PySem.Spec PyProof.Rows
variable{xs:B3}{n j t':Nat}{i:Int}{J:Type}{Z:A0<|A7×Obj}{O:St}{H H':Hp}{s:A5}{its its':B4}{y x:V}{P:Program}{w:World}{kvs:A0<|Key×V}{Q:A4->A5->Prop}{h':Heap}{X:Cx}{pos:Pos}
noncomputable abbrev TO:=St->Hp->(A3 Int->Hp->Prop)->Prop
def PO(X:Cx)(e:A3 A6)(t:TO):Prop:=
 ∀(Z:A0<|A7×Obj)(s:A5)(O:St)(H:Hp)(Q:A3 Int->Hp->Prop),Inv X Z O H s->t O H Q ->
  wpAny (model X.prog X.w) X.A (evalPart e X.env) (λu a=>∃o H',Inv X Z O H' a/\IsPart u o/\Q o H') X.xe s
def zD7:TO:=λ_ H Q=>Q none H
def zGn(t:TE):TO:=λO H Q=>t O H λx H1=>∃i,x=.int i/\Q (some i) H1
section
variable{X:Cx}{e:A6}{te:TE}{lo hi:A3 A6}{tl th:TO}{pos p2:Pos}
def lX:PO X none zD7:=by
 intro Z s O H Q I h;rw[evalPart_none];exact xAe ⟨none,H,I,.none,h⟩
def lW(h:PE X e te):PO X (some e)<|zGn te:=by
 intro Z s O H Q I c;rw[evalPart_some];refine thn (h Z s O H _ I c) λu d a=>?_;let⟨x,H1,I1,r1,b⟩:=a;let⟨i,rfl,q⟩:=b;let⟨t,rfl⟩:=r1;exact⟨some i,H1,I1,.int i t,q⟩
def SlR(X:Cx)(r:V->A3 Int->A3 Int->Hp->VK->Prop):Prop:=
 ∀(Z:A0<|A7×Obj)(s:A5)(O:St)(H:Hp)(x:V)(v b a:A4)(lo hi:A3 Int)(c:A7)(Q:VK),Inv X Z O H s->zAi x v->s.heap.IsSliceOf c b a .none->IsPart b lo->IsPart a hi->r x lo hi H Q ->
  ∃T id,typeLookup (.type T) "__getitem__"=pure (some<|.builtin id)/\s.TypeIs v T/\wpAny (model X.prog X.w) X.A (getItem v<|.ref c) (EP X Z O Q) X.xe s
def tSl(r:V->A3 Int->A3 Int->Hp->VK->Prop)(te:TE)(tl th:TO):TE:=λO H Q=>te O H λx H1=>tl O H1 λl H2=>th O H2 λu H3=>r x l u H3 Q
def jz{r:V->A3 Int->A3 Int->Hp->VK->Prop}(F:SlR X r)(L:PE X e te)(G:PO X lo tl)(D:PO X hi th):PE X (.Subscript e (.Slice lo hi none p2) pos)<|tSl r te tl th:=by
 intro Z s O H Q I h;refine Subscript_ (thn (L Z s O H _ I h) λv o k=>?_);let⟨x,H1,I1,r1,B⟩:=k;refine wpAny_Slice (thn (G Z o O H1 _ I1 B) λd m ⟨l,H2,I2,pl,t⟩=>thn (D Z m O H2 _ I2 t) λc a k=>?_);let⟨u,H3,I3,C,p⟩:=k;rw[evalPart_none];erw[xAe];have I4:Inv X Z O H3 {a with heap:=a.heap.push {cls:=.type "slice",data:=.fields #[d,c,.none]} }:=I3.kept (t':=a.toks) λb N q=>xAf _ q;let⟨T,id,M,E,K⟩:=F Z {a with heap:=a.heap.push {cls:=.type "slice",data:=.fields #[d,c,.none]} } O H3 x v d c l u a.heap.objs.size Q I4 r1 (Heap.IsSliceOf.new ..) pl C p;show wpAny (model X.prog X.w) X.A (subscriptTail e (.Slice lo hi none p2) v<|.ref a.heap.objs.size) (EP X Z O Q) X.xe {a with heap:=a.heap.push {cls:=.type "slice",data:=.fields #[d,c,.none]} };exact tail_any (ops:=[.ref a.heap.objs.size,v]) E M K (by with_unfolding_all rfl)
def zD3(xs:B3)(lo hi:A3 Int):B3:=(xs.drop<|HT.sIx xs.length 0 lo).take<|HT.sIx xs.length xs.length hi-HT.sIx xs.length 0 lo
def fX(xs:B3)(lo hi:A3 Int):(zD3 xs lo hi).length<=xs.length:=by
 unfold zD3;rw[xAn,List.length_drop];lia
def zH6(K:xFr):V->A3 Int->A3 Int->Hp->VK->Prop:=λx lo hi H Q=>∃a xs,x=.ref a/\SqT K H a xs /\
 ¬ (HT.sIx xs.length 0 lo=0/\HT.sIx xs.length xs.length hi=xs.length)/\∀p,H p=none->Q (.ref p) (upd H p<|.tup<|zD3 xs lo hi)
def pw:SlR X<|zH6 X.K:=by
 intro Z s O H x v C B lo hi D Q I l A pl m h;let⟨a,xs,rfl,p,t,q⟩:=h;cases l;let⟨its,r,k,d⟩:=I.tuple p;have c:its.toArray.size=xs.length:=by rw[xAp];exact r.length.symm
 erw[<-⟨"tuple",_,PyProof.Rows.slot_tuple_getitem.lookup,k.typeIs,?_⟩,<-HT.getItem_tuple_cut k A pl m (by rw[c];exact t) ?_ (by rw[c];exact d)];rw[c];refine⟨.ref s.heap.objs.size,_,I.laid (t':=s.toks) (o:=.tup<|zD3 xs lo hi) (λb E q=>xAf _ q) (xAg _) ?_,rfl,q _<|I.hok.fresh<|xAg _⟩;exact⟨xCk (fX xs lo hi) d,_,(r.drop<|HT.sIx xs.length 0 lo).take<|HT.sIx xs.length xs.length hi-HT.sIx xs.length 0 lo,IsTup.new _ _⟩
def zG3(K:xFr):R2:=λx y H Q=>∃a b xs c,x=.ref a/\y=.ref b/\SqT K H a xs/\SqT K H b c/\xs≠[]/\xs.length+c.length<=sizeLine /\
 (c=[]->Q (.ref a) H)/\(c≠[]->∀p,H p=none->Q (.ref p) (upd H p<|.tup<|xs++c))
theorem zAk.nil_iff{us:B4}(r:zAk xs us):us=[]↔xs=[]:=by
 cases r with
 |nil=>simp
 |cons _ _=>simp
def tQ:OpR X (binaryOp .Add)<|zG3 X.K:=by
 intro Z s O H x y v u Q I m l h;let⟨a,b,xs,k,rfl,rfl,B,A,t,d,r,p⟩:=h;cases m;cases l;let⟨its,r1,p1,_⟩:=I.tuple B;let⟨c,r2,p2,_⟩:=I.tuple A;erw[<-HT.cat_tup p1 p2 (λz=>t<|r1.nil_iff.mp z) (λz=>⟨.ref a,H,I,rfl,r<|r2.nil_iff.mp z⟩) (λz=>?_) (by rw[<- r1.length,<- r2.length];exact d),<-⟨.ref s.heap.objs.size,_,I.laid (t':=s.toks) (o:=.tup<|xs++k) (λb C q=>xAf _ q) (xAg _) ?_,rfl,p (λw=>z<|r2.nil_iff.mpr w) _<|I.hok.fresh<|xAg _⟩];exact⟨by rw[xAb];exact d,_,r1.append r2,IsTup.new _ _⟩
end
noncomputable def ixN(n:Nat)(i:Int):A3 Nat:=if 0<=i then(if i<n then some i.toNat else none) else if -(n:Int)<=i then some (i+n).toNat else none
def atI{J:Type}(xs:A0 J)(i:Int):A3 J:=(ixN xs.length i).bind λj=>xs[j]?
def mE(h:ixN n i=some j):seqIndex? i n=some j/\j<n/\-(n:Int)<=i/\i<n:=by
 unfold ixN at h;by_cases h0:0<=i
 .rw[xCg h0] at h;by_cases h1:i<n
  .rw[xCg h1] at h;have e:i.toNat=j:=xB3 h;exact⟨by rw[seqIndex_of h0 h1,e],(),(),h1⟩
  .rw[xCf h1] at h;cases h
 .rw[xCf h0] at h;by_cases h1:-(n:Int)<=i
  .rw[xCg h1] at h;have e:(i+n).toNat=j:=xB3 h;exact⟨by rw[seqIndex_neg () h1,e],(),h1,()⟩
  .rw[xCf h1] at h;cases h
theorem jg{xs:A0 J}{v:J}(h:atI xs i=some v):∃j,seqIndex? i xs.length=some j/\xs[j]?=some v/\j<xs.length/\-(xs.length:Int)<=i/\i<xs.length:=by
 unfold atI at h;cases e:ixN xs.length i with
 |none=>rw[e] at h;cases h
 |some j=>
  rw[e] at h;let⟨d,c,b,a⟩:=mE e;exact⟨j,d,h,c,b,a⟩
def dh{xs:A0 J}{v:J}(h:xs[j]?=some v):atI xs (j:Int)=some v:=by
 have a:j<xs.length:=(xAq.mp h).1;have e:ixN xs.length (j:Int)=some j:=by
  unfold ixN;rw[xCg (),xCg ()];simp
 unfold atI;rw[e];exact h
def sd(xs:A0 J)(v:J):atI (xs++[v]) (-1)=some v:=by
 have a:(xs++[v]).length=xs.length+1:=⋯
 have e:ixN (xs++[v]).length (-1)=some xs.length:=by
  unfold ixN;rw[a,xCf ∅,xCg ()];congr 1;lia
 unfold atI;rw[e];show(xs++[v])[xs.length]?=some v;simp
def zCl(b:A6):Prop:=∀o i,subscripted b false o i=operate [o,i] (getItem o i)
def IxR(X:Cx)(r:R2):Prop:=
 ∀(a slice:A6)(Z:A0<|A7×Obj)(s:A5)(O:St)(H:Hp)(x y:V)(v u:A4)(Q:VK),Inv X Z O H s->zAi x v->zAi y u->r x y H Q ->
  subscripted slice false v u=operate [v,u] (getItem v u)->wpAny (model X.prog X.w) X.A (subscriptTail a slice v u) (EP X Z O Q) X.xe s
def MtR(X:Cx)(id:String)(r:V->B3->Hp->VK->Prop):Prop:=
 ∀(Z:A0<|A7×Obj)(s:A5)(O:St)(H:Hp)(x:V)(xs:B3)(v:A4)(us:B4)(Q:VK),Inv X Z O H s->zAi x v->zAk xs us->r x xs H Q ->
  wpAny (model X.prog X.w) X.A (call (.builtin id)<|v::us) (EP X Z O Q) X.xe s
section
variable{X:Cx}{a b:A6}{ta tb:TE}{pos:Pos}
def IxR.or{r k:R2}(h:IxR X r)(h':IxR X k):IxR X λx y H Q=>r x y H Q\/k x y H Q:=by
 intro c slice Z s O H x y v u Q I e d q l;rcases q with q|q
 .exact h c slice Z s O H x y v u Q I e d q l
 .exact h' c slice Z s O H x y v u Q I e d q l
def yQ{r:R2}(k:IxR X r)(m:PE X a ta)(l:PE X b tb)(hs:zCl b):PE X (.Subscript a b pos)<|tOp r ta tb:=by
 intro Z s O H Q I h;exact Subscript_ (zHj m l I h λv u c x y H2 I2 e d q=>k a b Z c O H2 x y v u Q I2 e d q<|hs _ _)
def zId(K:xFr):R2:=λx y H Q=>∃p xs i v,x=.ref p/\y=.int i/\SqL K H p xs/\atI xs i=some v/\Q v H
def zIb(K:xFr):R2:=λx y H Q=>∃p xs i v,x=.ref p/\y=.int i/\SqT K H p xs/\atI xs i=some v/\Q v H
def zIc:R2:=λx y H Q=>∃z i c,x=.str z/\y=.int i/\z.length<=sizeLine/\atI z.cps.toList i=some c/\Q (.str ⟨#[c]⟩) H
def ud:IxR X<|zId X.K:=by
 intro e slice Z s O H x y v u Q I C B h m;let⟨p,xs,i,z,rfl,rfl,D,F,q⟩:=h;cases C;let⟨t,rfl⟩:=B;let⟨its,r,pl,N⟩:=I.list D;let⟨j,d,M,S,L,G⟩:=jg F;let⟨w,o,k⟩:=r.get M;have E:=r.length;have R:=zCb;have c:EP X Z O Q w s:=⟨z,H,I,k,q⟩
 by_cases h0:0<=i
 .have l:i.toNat=j:=by
   rw[seqIndex_of h0 G] at d;exact xB3 d
  exact item_listR pl.isList h0 () (by rw[l];simpa using o) c m
 .have l:(i+(its.toArray.size:Int)).toNat=j:=by
   rw[seqIndex_neg () L] at d;rw[xAp,<- E];exact xB3 d
  exact subscriptTail_builtinR (x:=w) pl.isList.typeIs slot_list_getitem.lookup
   (wpAny_getItem_list_neg (Q:=λr A=>r=w/\EP X Z O Q r A) pl.isList () (by rw[xAp] <;> lia) () (by rw[l];simpa using o) ⟨rfl,c⟩) m
def xH:IxR X<|zIb X.K:=by
 intro c slice Z s O H x y v u Q I m l h o;let⟨p,xs,i,z,rfl,rfl,A,C,q⟩:=h;cases m;let⟨t,rfl⟩:=l;let⟨its,r,pl,G⟩:=I.tuple A;let⟨j,E,D,R,N,M⟩:=jg C;let⟨w,F,d⟩:=r.get D;have B:=r.length;have L:=zCb;have e:EP X Z O Q w s:=⟨z,H,I,d,q⟩
 exact subscriptTail_builtinR (x:=w) pl.typeIs slot_tuple_getitem.lookup
  (getItem_tuple (j:=j) (Q:=λr k=>r=w/\EP X Z O Q r k) pl () () (by rw[xAp,<- B];exact E) (by simpa using F) ⟨rfl,e⟩) o
def xI:IxR X zIc:=by
 intro d slice Z s O H x y v u Q I l k h m;let⟨z,i,c,rfl,rfl,E,p,q⟩:=h;let⟨t,rfl⟩:=l;let⟨t',rfl⟩:=k;let⟨j,e,B,G,A,r⟩:=jg p;have o:z.cps.toList.length=z.length:=by simp[Str.length]
 rw[o] at e A r;have F:=zCb;exact tail_any (typeIs_str s z t) slot_str_getitem.lookup (getItem_str (c:=c) (by
  have D:decide (i < -(2^63:Int))=false:=xCn ();have C:decide (i >= 2^63)=false:=xCn ();rw[D,C,Bool.or_false]) (by rw[e];simpa using B) ⟨.str ⟨#[c]⟩,H,I.tok _,⟨_,rfl⟩,q⟩) m
def rIx(K:xFr):R2:=λx y H Q=>zId K x y H Q\/zIb K x y H Q\/zIc x y H Q
def xJ:IxR X<|rIx X.K:=ud.or<|xH.or xI
def kO(its:B4)(n j:Nat)(u:A4):Obj.mapSeq (·.setIfInBounds j u) {cls:=.type "list",data:=.seq its.toArray n}={cls:=.type "list",data:=.seq (its.set j u).toArray n}:=by
 simp[Obj.mapSeq]
theorem Inv.lst{Z:A0<|A7×Obj}{O:St}{H:Hp}{s:A5}{p:A7}{xs:B3}(I:Inv X Z O H s)(h:H p=some (.lst xs)) :
  ∃(its:B4) (n:Nat),zAk xs its/\s.heap.get? p=some {cls:=.type "list",data:=.seq its.toArray n}/\xs.length<=sizeLine:=by
 let⟨z,its,n,r,e⟩:=I.hok p _ h;exact⟨its,n,r,e,z⟩
def Inv.lstUpd{p:A7}{ys:B3}{c:Nat}{f:Obj->Obj}(I:Inv X Z O H s)(h:H p=some (.lst xs))(l:s.heap.get? p=some {cls:=.type "list",data:=.seq its.toArray n})(d:f {cls:=.type "list",data:=.seq its.toArray n}={cls:=.type "list",data:=.seq its'.toArray c})(r:zAk ys its')(k:ys.length<=sizeLine)(t:Nat) :
  Inv X Z O (upd H p<|.lst ys) {s with heap:=s.heap.update p f,toks:=t}:=by
 have e:(s.heap.update p f).get? p=some {cls:=.type "list",data:=.seq its'.toArray c}:=by
  rw[xA7 f l (by rw[d] <;> rfl),d]
 erw[I.write (x:=p) (e:=p) (by rw[h];trivial) (.inl rfl) (λb u m q=>(xA6 _ _<|Ne.symm m).trans q) ⟨_,e⟩,<-⟨k,its',c,r,e⟩]
def zFa:V->V->V->Hp->(Hp->Prop)->Prop:=λo i v H Q=>∃p xs k j,o=.ref p/\i=.int k/\H p=some (.lst xs)/\ixN xs.length k=some j/\Q (upd H p<|.lst<|xs.set j v)
def pB:zHn X zFa:=by
 intro Z s O H o i v K L u Q I D E C h;let⟨p,xs,k,j,rfl,rfl,m,G,q⟩:=h;cases D;let⟨t,rfl⟩:=E;let⟨its,n,r,d,F⟩:=I.lst m;let⟨c,N,B,A⟩:=mE G;have e:=r.length;have M:=zCb;have I':Inv X Z O (upd H p<|.lst<|xs.set j v) {s with heap:=s.heap.update p (Obj.mapSeq (·.setIfInBounds j u))}:=
  I.lstUpd m d (kO its n j u) (r.set C j) (by rw[List.length_set];exact F) s.toks
 by_cases h0:0<=k
 .have l:k.toNat=j:=by
   rw[seqIndex_of h0 A] at c;exact xB3 c
  exact W.ki_setAt d h0 () (by rw[xAp,<- e];exact A) (by rw[l];exact⟨_,I',q⟩)
 .have l:(k+(its.toArray.size:Int)).toNat=j:=by
   rw[seqIndex_neg () B] at c;rw[xAp,<- e];exact xB3 c
  exact W.ki_setBack d () (by rw[xAp,<- e];exact B) () (by rw[l];exact⟨_,I',q⟩)
def iz(lo hi:A3 Int)(n:Nat):(sliceBounds lo hi none n).1=((HT.sIx n 0 lo:Nat):Int)/\(sliceBounds lo hi none n).2.1=((HT.sIx n n hi:Nat):Int)/\(sliceBounds lo hi none n).2.2=1:=by
 refine⟨?_,?_,rfl⟩
 .cases lo with
  |none=>simp[sliceBounds,HT.sIx]
  |some i=>
   simp only[sliceBounds,HT.sIx,Option.getD_none,show(1:Int)>0 by decide,if_true];by_cases h:i<0
   .simp only[h,if_true] <;> lia
   .simp only[h,if_false] <;> lia
 .cases hi with
  |none=>simp[sliceBounds,HT.sIx]
  |some i=>
   simp only[sliceBounds,HT.sIx,Option.getD_none,show(1:Int)>0 by decide,if_true];by_cases h:i<0
   .simp only[h,if_true] <;> lia
   .simp only[h,if_false] <;> lia
def gS(its:B4)(lo hi:A3 Int):slicePick its.toArray lo hi none=((its.drop<|HT.sIx its.length 0 lo).take<|HT.sIx its.length its.length hi-HT.sIx its.length 0 lo).toArray:=by
 let⟨e,d,c⟩:=iz lo hi its.toArray.size;unfold slicePick;rw[e,d,c];simp only[sliceRange_one,pick_run,xAp] <;> rfl
def zH7(K:xFr):V->A3 Int->A3 Int->Hp->VK->Prop:=λx c d H Q=>∃a xs,x=.ref a/\SqL K H a xs/\∀p,H p=none->Q (.ref p) (upd H p<|.lst<|zD3 xs c d)
def lK:SlR X<|zH7 X.K:=by
 intro Z s O H x v C B d e D Q I l A pl m h;let⟨a,xs,rfl,t,q⟩:=h;cases l;let⟨its,r,k,p⟩:=I.list t;have c:=r.length;erw[<-⟨"list",_,slot_list_getitem.lookup,k.isList.typeIs,?_⟩,<-wpAny_getItem_list_slice k.isList A pl m .none ⋯ ?_ (by rw[xAp] <;> lia)];rw[gS,<- c];refine⟨.ref s.heap.objs.size,_,I.laid (t':=s.toks) (o:=.lst<|zD3 xs d e) (λb E q=>xAf _ q) (xAg _) ?_,rfl,q _<|I.hok.fresh<|xAg _⟩;exact⟨xCk (fX xs d e) p,_,0,(r.drop<|HT.sIx xs.length 0 d).take<|HT.sIx xs.length xs.length e-HT.sIx xs.length 0 d,xAl _ rfl⟩
noncomputable def zBl:V->A8
 |.non=>true
 |.bl _=>true
 |.int _=>true
 |.str _=>true
 |_=>false
noncomputable def eqV:V->V->A8
 |.non,.non=>true
 |.bl a,.bl b=>a==b
 |.bl a,.int b=>(if a then 1 else 0)==b
 |.int a,.bl b=>a==(if b then 1 else 0)
 |.int a,.int b=>a==b
 |.str a,.str b=>a==b
 |_,_=>false
theorem rC{A:Around}{u v:A4}(d:zAi y u)(c:zAi x v)(h:zBl y=true)(e:zBl x=true):SeqAt.EqAt A s u v<|eqV y x:=by
 cases y with
 |non=>
  cases d;cases x with
  |non=>cases c;exact SeqAt.EqAt.same _
  |bl b=>cases c;exact SeqAt.EqAt.none_bool b
  |int b=>let⟨t,rfl⟩:=c;exact SeqAt.EqAt.none_int b t
  |str b=>let⟨t,rfl⟩:=c;exact SeqAt.EqAt.none_str b t
  |_=>exact absurd (show false=true from e) xAy
 |bl a=>
  cases d;cases x with
  |non=>cases c;exact SeqAt.EqAt.bool_none a
  |bl b=>cases c;exact SeqAt.EqAt.bool_bool a b
  |int b=>let⟨t,rfl⟩:=c;exact SeqAt.EqAt.bool_int a b t
  |str b=>let⟨t,rfl⟩:=c;exact SeqAt.EqAt.bool_str a b t
  |_=>exact absurd (show false=true from e) xAy
 |int a=>
  let⟨t',rfl⟩:=d;cases x with
  |non=>cases c;exact SeqAt.EqAt.int_none a t'
  |bl b=>cases c;exact SeqAt.EqAt.int_bool a t' b
  |int b=>let⟨t,rfl⟩:=c;exact SeqAt.EqAt.int_int a t' b t
  |str b=>let⟨t,rfl⟩:=c;exact SeqAt.EqAt.int_str a t' b t
  |_=>exact absurd (show false=true from e) xAy
 |str a=>
  let⟨t',rfl⟩:=d;cases x with
  |non=>cases c;exact SeqAt.EqAt.str_none a t'
  |bl b=>cases c;exact SeqAt.EqAt.str_bool a t' b
  |int b=>let⟨t,rfl⟩:=c;exact SeqAt.EqAt.str_int a t' b t
  |str b=>let⟨t,rfl⟩:=c;exact SeqAt.EqAt.str_str a t' b t
  |_=>exact absurd (show false=true from e) xAy
 |_=>exact absurd (show false=true from h) xAy
def eqU(x:V)(u:A4):A8:=match u with
 |.none=>eqV .non x
 |.bool b=>eqV (.bl b) x
 |.int i _=>eqV (.int i) x
 |.str z _=>eqV (.str z) x
 |_=>false
theorem rq{u:A4}(r:zAi y u)(f:zBl y=true):eqU x u=eqV y x:=by
 cases y with
 |non=>cases r;rfl
 |bl b=>cases r;rfl
 |int i=>let⟨t,rfl⟩:=r;rfl
 |str z=>let⟨t,rfl⟩:=r;rfl
 |_=>exact absurd (show false=true from f) xAy
theorem fJ{x:V}:∀{xs:B3}{us:B4},zAk xs us->xs.all zBl=true->us.any (eqU x)=xs.any λy=>eqV y x
 |_,_,.nil,_=>rfl
 |y::xs,u::us,.cons r t,f=>by
  rw[xCj,xCh] at f;rw[List.any_cons,List.any_cons,rq r f.1,fJ t f.2]
theorem eQ{A:Around}{s:A5}{x:V}{v:A4}(c:zAi x v)(d:zBl x=true):∀{xs:B3}{us:B4},zAk xs us->xs.all zBl=true->∀u∈us,SeqAt.EqAt A s u v (eqU x u)
 |_,_,.nil,_=>λu hu=>by cases hu
 |y::xs,u::us,.cons r t,f=>λe hu=>by
  rw[xCj,xCh] at f;rcases xAv.mp hu with rfl|hu
  .rw[rq r f.1];exact rC r c f.1 d
  .exact eQ c d t f.2 e hu
def inV(x:V)(xs:B3):A8:=xs.any λy=>eqV y x
def rIn(K:xFr)(neg:A8):R2:=λx y H Q=>∃p xs,y=.ref p/\(SqL K H p xs\/SqT K H p xs)/\zBl x=true/\xs.all zBl=true/\Q (.bl<|if neg then !inV x xs else inV x xs) H
def nX:OpR X (compareOp .In)<|rIn X.K false:=by
 intro Z s O H x y v u Q I d k h;let⟨p,xs,rfl,hq,e,fs,q⟩:=h;cases k;rcases hq with hq|hq
 .let⟨its,r,pl,l⟩:=I.list hq;refine SeqAt.in_listAt (eqU x) pl.isList (λw c=>eQ d e r fs w<|by simpa using c) ⟨.bl _,H,I,rfl,?_⟩;rw[show its.toArray.any (eqU x)=its.any (eqU x) by simp,fJ r fs];exact q
 .let⟨its,r,pl,l⟩:=I.tuple hq;refine SeqAt.in_tupleAt (eqU x) pl (λw c=>eQ d e r fs w<|by simpa using c) ⟨.bl _,H,I,rfl,?_⟩;rw[show its.toArray.any (eqU x)=its.any (eqU x) by simp,fJ r fs];exact q
def iL:OpR X (compareOp .NotIn)<|rIn X.K true:=by
 intro Z s O H x y v u Q I d k h;let⟨p,xs,rfl,hq,e,fs,q⟩:=h;cases k;rcases hq with hq|hq
 .let⟨its,r,pl,l⟩:=I.list hq;refine SeqAt.notIn_listAt (eqU x) pl.isList (λw c=>eQ d e r fs w<|by simpa using c) ⟨.bl _,H,I,rfl,?_⟩;rw[show its.toArray.any (eqU x)=its.any (eqU x) by simp,fJ r fs];exact q
 .let⟨its,r,pl,l⟩:=I.tuple hq;refine SeqAt.notIn_tupleAt (eqU x) pl (λw c=>eQ d e r fs w<|by simpa using c) ⟨.bl _,H,I,rfl,?_⟩;rw[show its.toArray.any (eqU x)=its.any (eqU x) by simp,fJ r fs];exact q
def jd:zAp X (.type "list") λxs H Q=>∃p ys,xs=[.ref p]/\(SqL X.K H p ys\/SqT X.K H p ys)/\∀l,H l=none->Q (.ref l) (upd H l<|.lst ys):=by
 intro Z s O H xs us Q I r h;let⟨p,ys,rfl,hq,q⟩:=h;let⟨u,rfl,D⟩:=zBx r;cases D;have v:∀(its:B4),zAk ys its->ys.length<=sizeLine->∀(h':Heap)(d:Nat),(∀b C,s.heap.get? b=some C->h'.get? b=some C) ->
   h'.get? s.heap.objs.size=some {cls:=.type "list",dict:=none,data:=.seq its.toArray d,slots:=#[]}->EP X Z O Q (.ref s.heap.objs.size) {s with heap:=h'}:=λits c m h' d k e=>
  ⟨.ref s.heap.objs.size,_,I.laid (t':=s.toks) k (xAg _)<|show zAg X.prog X.w _ h' _ (.lst ys) from⟨m,its,d,c,e⟩,rfl,q _<|I.hok.fresh<|xAg _⟩
 rcases hq with hq|hq
 .let⟨its,c,pl,m⟩:=I.list hq;have t:=c.length;let⟨o,A,B,n,hd⟩:=pl.isList;exact call_list_seq p (.inl rfl) A B hd (λh' d k e=>v its c m h' d k e) (by simp only[xAp] <;> lia)
 .let⟨its,c,pl,m⟩:=I.tuple hq;have t:=c.length;let⟨o,A,B,n,hd⟩:=pl;exact call_list_seq p (.inr rfl) A B hd (λh' d k e=>v its c m h' d k e) (by simp only[xAp] <;> lia)
def gU:zAp X (.type "tuple") λxs H Q=>∃p ys,xs=[.ref p]/\((SqL X.K H p ys/\∀l,H l=none->Q (.ref l) (upd H l<|.tup ys))\/(SqT X.K H p ys/\Q (.ref p) H)):=by
 intro Z s O H xs us Q I r h;let⟨p,ys,rfl,h⟩:=h;let⟨u,rfl,t⟩:=zBx r;cases t;rcases h with ⟨d,q⟩|⟨d,q⟩
 .let⟨its,c,pl,k⟩:=I.list d;have m:=c.length;refine call_tuple_list pl.isList (λh' v=>?_) (by simp only[xAp] <;> lia);have I1:Inv X Z O H {s with heap:=h'}:=I.kept (t':=s.toks) v;have I2:Inv X Z O (upd H h'.objs.size<|.tup ys) {s with heap:=h'.push {cls:=.type "tuple",data:=.seq its.toArray} }:=
   I1.laid (t':=s.toks) (λb o e=>xAf _ e) (xAg _) (show zAg X.prog X.w _ _ _ (.tup ys) from⟨k,its,c,IsTup.new _ _⟩)
  exact⟨.ref h'.objs.size,_,I2,rfl,q _<|I1.hok.fresh<|xAg _⟩
 .let⟨its,c,pl,k⟩:=I.tuple d;exact call_tuple_same pl ⟨.ref p,H,I,rfl,q⟩
def tyV(K:xFr)(T:String)(x:V)(H:Hp):Prop:=match x with
 |.str _=>T="str"
 |.int _=>T="int"
 |.ref p=>(T="list"/\∃xs,SqL K H p xs)\/(T="tuple"/\∃o,K.lookup p=some o/\o.cls=.type "tuple"/\o.dict=none) \/
   (T="dict"/\((∃kvs,H p=some (.dK kvs))\/∃kvs,H p=some (.dT kvs)))\/(T="set"/\∃S n,H p=some (.set S n))
 |_=>False
theorem vK{T:String}{v:A4}(I:Inv X Z O H s)(r:zAi x v)(ty:tyV X.K T x H) :
  s.TypeIs v T/\∀a,v=.ref a->∃l,s.heap.get? a=some l/\l.dict=none:=by
 cases x with
 |str z=>
  let⟨t,rfl⟩:=r;cases (show T="str" from ty);exact⟨typeIs_str s z t,λ_ e=>nomatch e⟩
 |int i=>
  let⟨t,rfl⟩:=r;cases (show T="int" from ty);exact⟨typeIs_int s i t,λ_ e=>nomatch e⟩
 |ref p=>
  cases r;rcases ty with ⟨rfl,xs,m⟩|⟨rfl,o,d,q,hd⟩|⟨rfl,d⟩|⟨rfl,S,n,d⟩
  .let⟨its,_,pl,_⟩:=I.list m;refine⟨pl.isList.typeIs,λa e=>?_⟩;cases e;let⟨o,n,e,c,hd,_⟩:=pl;exact⟨o,e,hd⟩
  .refine⟨⟨o,I.kIn p o d,q⟩,λa e=>?_⟩;cases e;exact⟨o,I.kIn _ o d,hd⟩
  .have z:∃o,s.heap.get? p=some o/\o.ExactDict:=by
    rcases d with ⟨kvs,d⟩|⟨kvs,d⟩
    .let⟨_,_,_,_,o,_,_,e,h,_⟩:=I.hok p _ d;exact⟨o,e,h⟩
    .let⟨_,_,_,_,o,_,_,e,h,_⟩:=I.hok p _ d;exact⟨o,e,h⟩
   let⟨o,e,h⟩:=z;refine⟨⟨o,e,h.1⟩,λa k=>?_⟩;cases k;exact⟨o,e,h.2.1⟩
  .let⟨o,_,_,_,e,h,_⟩:=I.hok p _ d;refine⟨⟨o,e,h.1⟩,λa k=>?_⟩;cases k;exact⟨o,e,h.2.1⟩
 |_=>exact False.elim ty
def tBM(K:xFr)(T:String)(r:V->B3->Hp->VK->Prop)(to:TE)(t:TA):TE:=λO H Q=>to O H λx H1=>tyV K T x H1/\t O H1 λxs H2=>r x xs H2 Q
variable{o e:A6}{es:A0 A6}{to:TE}{t:TA}{name:Str}{apos cpos:Pos}{T id:String}{r:V->B3->Hp->VK->Prop}
def uZ(F:PlainAttrs T)(k:Slot T name id)(m:typeOf (.builtin id)=pure (.type "method_descriptor"))(M:MtR X id r)(L:PE X o to)(N:PA X (e::es) t)(d:attributeBase o name X.env (eval o X.env)=eval o X.env:=by rfl)(l:((backTo cpos<|starEach (e::es) X.env).all (λx=>!x.1) && (backToKw cpos<|keywordEach [] X.env).all (λx=>x.1.isSome)
   && decide ((e::es).length+([]:A0 Keyword).length+(if([]:A0 Keyword).isEmpty then 0 else 1)<30))=true:=by rfl)(c:(apos.endLine==cpos.line)=true:=by rfl)(G:starEach (e::es) X.env=(false,eval e X.env)::starEach es X.env:=by rfl)(hplain:(backTo cpos<|starEach es X.env).any (·.1)=false:=by rfl) :
  PE X (.Call (.Attribute o name apos) (e::es) [] cpos) (tBM X.K T r to t):=by
 intro Z s O H Q I h;refine wpAny_Call_method_late d l c rfl (thn (L Z s O H _ I h) λv C q=>?_);let⟨x,H1,I1,r1,ty,E⟩:=q;let⟨S,R⟩:=vK I1 r1 ty;refine⟨T,id,F,k,m,S,R,?_⟩;have p:=N cpos Z C O H1 _ I1 E;rw[G] at p⊢;refine Calls.callWith_builtin (by show(false||(backTo cpos<|starEach es X.env).any (·.1))=false;rw[hplain] <;> rfl)<|Calls.evalArgs_plain ?_;exact thn p λus B ⟨A,H2,I2,r2,D⟩=>M Z B O H2 x A v us Q I2 r1 r2 D
end
def MtM(X:Cx)(id:String)(r:V->B3->Hp->VK->Prop):Prop:=
 ∀(Z:A0<|A7×Obj)(s:A5)(O:St)(H:Hp)(x:V)(xs:B3)(v:A4)(us:B4)(Q:VK),Inv X Z O H s->zAi x v->zAk xs us->r x xs H Q ->
  wpAny (model X.prog X.w) X.A (call (.builtin id)<|v::us) (EP X Z O Q) X.xe s
theorem zAk.one:∀{x:V}{us:B4},zAk [x] us->∃u,us=[u]/\zAi x u
 |_,_,.cons r .nil=>⟨_,rfl,r⟩
section
variable{X:Cx}{Z:A0<|A7×Obj}{O:St}{H:Hp}{s:A5}{l b:A7}{xs ys zs:B3}
def Inv.lset{f:Array A4->Array A4}(I:Inv X Z O H s)(m:H l=some (.lst xs))(e:s.heap.get? l=some {cls:=.type "list",data:=.seq its.toArray n})(h:f its.toArray=its'.toArray)(c:zAk ys its')(a:ys.length<=sizeLine) :
  Inv X Z O (upd H l<|.lst ys) {s with heap:=s.heap.update l<|Obj.mapSeq f,toks:=t'}:=by
 have q:=PySem.IsL.update e f;rw[h] at q;erw[I.write (x:=l) (e:=l) (by rw[m];exact trivial) (.inl rfl) (λo u k d=>(xA6 s.heap (Obj.mapSeq f)<|Ne.symm k).trans d) ⟨_,q⟩,<-⟨a,its',_,c,q⟩]
def Inv.lnew(I:Inv X Z O H s)(c:zAk ys its)(a:ys.length<=sizeLine) :
  Inv X Z O (upd H s.heap.objs.size<|.lst ys) {s with heap:=s.heap.push {cls:=.type "list",data:=.seq its.toArray},toks:=t'}:=
 I.laid (λ_ _ q=>xAf _ q) (xAg _) ⟨a,its,0,c,xAl _ rfl⟩
theorem Inv.fresh(I:Inv X Z O H s):H s.heap.objs.size=none:=I.hok.fresh<|xAg _
def Inv.lstM(I:Inv X Z O H s)(a:H l=some (.lst xs)):xs.length<=sizeLine/\∃(its:B4) (n:Nat),zAk xs its/\xs.length=its.length/\s.heap.get? l=some {cls:=.type "list",data:=.seq its.toArray n}:=by
 let⟨z,its,n,r,e⟩:=I.hok l _ a;exact⟨z,its,n,r,r.length,e⟩
def zDo(h:n<=sizeLine):Builtin.List.listTooLong n=false:=by
 unfold Builtin.List.listTooLong;exact xCn ()
end
section
variable{X:Cx}
def zDd:V->B3->Hp->VK->Prop:=λx a H Q=>∃l xs y,x=.ref l/\a=[y]/\H l=some (.lst xs)/\xs.length<sizeLine/\Q .non (upd H l<|.lst<|xs++[y])
def hX:MtM X "list.append" zDd:=by
 intro Z s O H x k v us Q I b c h;let⟨l,xs,y,rfl,rfl,a,m,q⟩:=h;cases b;let⟨u,rfl,d⟩:=c.one;let⟨z,its,n,r,o,e⟩:=I.lstM a;erw[<-call_meets F.slot_list_append ⟨_,e,rfl⟩ F.entry_list_append (F.args_list_append_2 _ _) (PySem.list_append l its.toArray n u<|by rw[xAp];lia) ⟨e,?_⟩,<-⟨.non,_,I.lset (its':=its++[u]) a e ⋯ (r.append<|.cons d .nil) ?_,rfl,q⟩];rw[xAb,xAt];lia
def zDc:V->B3->Hp->VK->Prop:=λx c H Q=>∃l b xs a,x=.ref l/\c=[.ref b]/\H l=some (.lst xs)/\H b=some (.lst a)/\xs.length+a.length<=sizeLine/\Q .non (upd H l<|.lst<|xs++a)
def n9:MtM X "list.extend" zDc:=by
 intro Z s O H x G v us Q I m o h;let⟨l,b,xs,D,rfl,rfl,k,B,K,q⟩:=h;cases m;let⟨u,rfl,p⟩:=o.one;cases p;let⟨z,its,n,r,L,e⟩:=I.lstM k;let⟨E,a,t,r2,A,C⟩:=I.lstM B;have d:its.toArray.size+a.toArray.size<=sizeLine:=by rw[xAp,xAp];lia
 have c:¬ (!its.toArray.isEmpty&&Builtin.List.listTooLong (its.toArray.size+a.toArray.size))=true:=by
  rw[zDo d,Bool.and_false];exact xAy
 refine call_meets F.slot_list_extend ⟨_,e,rfl⟩ F.entry_list_extend (F.args_list_extend_2 _ _)
  (AutoSeq1.list_extend_list_list_0 l its.toArray n b a.toArray t c (by rw[xAp];lia) ()) ⟨e,C,?_⟩
 refine⟨.non,_,I.lset (its':=its++a) k e ⋯ (r.append r2) ?_,rfl,q⟩;rw[xAb];lia
def zIh:R2:=λx y H Q=>∃l b xs a,x=.ref l/\y=.ref b/\H l=some (.lst xs)/\H b=some (.lst a)/\xs.length+a.length<=sizeLine/\∀p,H p=none->Q (.ref p) (upd H p<|.lst<|xs++a)
def w6:OpR X (binaryOp .Add) zIh:=by
 intro Z s O H x y v u Q I d c h;let⟨l,b,xs,A,rfl,rfl,m,o,D,q⟩:=h;cases d;cases c;let⟨z,its,n,r,E,e⟩:=I.lstM m;let⟨B,a,C,r2,k,t⟩:=I.lstM o;refine PySem.P.add_list e t ?_ (by rw[xAp,xAp];lia);have p:its.toArray++a.toArray=(its++a).toArray:=by simp
 rw[p];exact⟨.ref _,_,I.lnew (t':=s.toks) (r.append r2) (by rw[xAb];lia),rfl,q _ I.fresh⟩
end
section
variable{prog:Program}{w:World}{A:Around}{E:A4->A5->Prop}{s:A5}
set_option maxRecDepth 100000 in
end
section
variable{κ:Type} [DecidableEq κ]
noncomputable def zCh(kvs:A0<|κ×V)(k:κ):A3 V:=(kvs.find? λkv=>decide<|kv.1=k).map (·.2)
noncomputable def putK(kvs:A0<|κ×V)(k:κ)(v:V):A0<|κ×V:=
 if(kvs.any λkv=>decide<|kv.1=k)=true then kvs.map (λkv=>if kv.1=k then(kv.1,v) else kv) else kvs++[(k,v)]
def fo{p:κ×V}{r:A0<|κ×V}{k:κ}(e:p.1=k):zCh (p::r) k=some p.2:=by simp[zCh,List.find?_cons,e]
def fq{p:κ×V}{r:A0<|κ×V}{k:κ}(e:¬ p.1=k):zCh (p::r) k=zCh r k:=by simp[zCh,List.find?_cons,e]
theorem jj(k:κ):∀kvs:A0<|κ×V,(kvs.any λkv=>decide<|kv.1=k)=(zCh kvs k).isSome
 |[]=>rfl
 |p::r=>by
  rw[List.any_cons];by_cases e:p.1=k
  .simp only[fo e,xBd e,Bool.true_or,Option.isSome_some]
  .rw[fq e,xCn e,Bool.false_or];exact jj k r
def eR(kvs:A0<|κ×V)(k:κ)(v:V):(putK kvs k v).length<=kvs.length+1:=by
 unfold putK;split
 .rw[xAa];lia
 .rw[xAb,xAo,List.length_nil];lia
theorem zB6.isSome_eq{o:A3 V}{u:A3 A4}(r:zB6 o u):o.isSome=u.isSome:=by
 cases o with
 |none=>cases u with
  |none=>rfl
  |some _=>exact(show False from r).elim
 |some _=>cases u with
  |none=>exact(show False from r).elim
  |some _=>rfl
theorem zB6.getD{o:A3 V}{u:A3 A4}{d:V}{d':A4}(r:zB6 o u)(a:zAi d d'):zAi (o.getD d)<|u.getD d':=by
 cases o with
 |none=>cases u with
  |none=>exact a
  |some _=>exact(show False from r).elim
 |some _=>cases u with
  |none=>exact(show False from r).elim
  |some _=>exact r
theorem KV.val{kvs:A0<|κ×V}{vs:A0<|κ×A4}(r:KV kvs vs)(k:κ):zB6 (zCh kvs k)<|valueAt vs k:=by
 unfold KV at r;induction r with
 |nil=>exact True.intro
 |@cons p q m a h t d=>
  let⟨h1,l⟩:=h;by_cases e:p.1=k
  .have c:q.1=k:=h1.symm.trans e;have b:valueAt (q::a) k=some q.2:=by simp[valueAt,List.find?_cons,c]
   rw[fo e,b];exact l
  .have c:¬ q.1=k:=λz=>e<|h1.trans z;have b:valueAt (q::a) k=valueAt a k:=by simp[valueAt,List.find?_cons,c]
   rw[fq e,b];exact d
theorem KV.any{kvs:A0<|κ×V}{vs:A0<|κ×A4}(r:KV kvs vs)(k:κ):(kvs.any λkv=>decide<|kv.1=k)=vs.any λkv=>decide<|kv.1=k:=by
 unfold KV at r;induction r with
 |nil=>rfl
 |cons h t a=>rw[List.any_cons,List.any_cons,a,h.1]
theorem KV.repl{kvs:A0<|κ×V}{vs:A0<|κ×A4}(r:KV kvs vs)(k:κ){u:A4}(a:zAi y u) :
  KV (kvs.map λkv=>if kv.1=k then(kv.1,y) else kv) (vs.map λkv=>if kv.1=k then(kv.1,u) else kv):=by
 unfold KV at r⊢;induction r with
 |nil=>exact .nil
 |@cons p q l d h t b=>
  rw[xBs,xBs];refine .cons ?_ b;let⟨h1,c⟩:=h;by_cases e:p.1=k
  .rw[xCg e,xCg<|h1.symm.trans e];exact⟨h1,a⟩
  .rw[xCf e,xCf λz=>e<|h1.trans z];exact⟨h1,c⟩
def KV.put{kvs:A0<|κ×V}{vs:A0<|κ×A4}(r:KV kvs vs)(k:κ){u:A4}(a:zAi y u):KV (putK kvs k y)<|stored vs k u:=by
 unfold putK stored;rw[r.any k];by_cases e:(vs.any λkv=>decide<|kv.1=k)=true
 .rw[xCg e,xCg e];exact r.repl k a
 .rw[xCf e,xCf e];exact Paired.snoc r ⟨rfl,a⟩
theorem KV.length{kvs:A0<|κ×V}{vs:A0<|κ×A4}(r:KV kvs vs):kvs.length=vs.length:=Paired.length r
end
theorem gB{k:Key}{u:A4}(r:zAi (kV k) u):(zAm P w).is k u=true:=by
 cases k with
 |inl i=>let⟨t,e⟩:=(show ∃t,u=Value.int i t from r);subst e;exact jJ P w i t
 |inr x=>let⟨t,e⟩:=(show ∃t,u=Value.str x t from r);subst e;exact jI P w x t
theorem ic{P:Program}{w:World}:∀{ks:A0 Key}{us:B4},zAk (ks.map kV) us->ItemsAre (zAm P w) ks us
 |[],_,r=>by rw[List.map_nil] at r;cases r;exact .nil
 |k::ks,_,r=>by
  rw[xBs] at r;cases r with
  |cons h t=>exact .cons (gB h) (ic t)
noncomputable abbrev KT(H:Hp):A0 (A0 Key×V)->A0 (A0 Key×A7×A4)->Prop:=Paired λp q=>p.1=q.1/\H q.2.1=some (.tup<|p.1.map kV)/\zAi p.2 q.2.2
theorem KT.val{kvs:A0<|A0 Key×V}{xs:A0<|A0 Key×A7×A4}(r:KT H kvs xs)(k:A0 Key):zB6 (zCh kvs k) ((atKey xs k).map (·.2)):=by
 induction r with
 |nil=>exact True.intro
 |@cons p q m a h t d=>
  let⟨h1,_,l⟩:=h;by_cases e:p.1=k
  .have c:q.1=k:=h1.symm.trans e;have b:atKey (q::a) k=some q.2:=by simp[atKey,List.find?_cons,c]
   rw[fo e,b];exact l
  .have c:¬ q.1=k:=λz=>e<|h1.trans z;have b:atKey (q::a) k=atKey a k:=by simp[atKey,List.find?_cons,c]
   rw[fq e,b];exact d
theorem KT.repl{kvs:A0<|A0 Key×V}{xs:A0<|A0 Key×A7×A4}(r:KT H kvs xs)(k:A0 Key){u:A4}(b:zAi y u) :
  KT H (kvs.map λkv=>if kv.1=k then(kv.1,y) else kv) (xs.map<|putAt k u):=by
 induction r with
 |nil=>exact .nil
 |@cons p q m l h t c=>
  rw[xBs,xBs];refine .cons ?_ c;let⟨h1,a,d⟩:=h;unfold putAt;by_cases e:p.1=k
  .rw[xCg e,xCg<|h1.symm.trans e];exact⟨h1,a,b⟩
  .rw[xCf e,xCf λz=>e<|h1.trans z];exact⟨h1,a,d⟩
def KT.put{kvs:A0<|A0 Key×V}{xs:A0<|A0 Key×A7×A4}(r:KT H kvs xs)(k:A0 Key){b:A7}{u:A4}(c:H b=some (.tup<|k.map kV))(a:zAi y u) :
  KT H (putK kvs k y) (storedH xs k b u):=by
 have e:(kvs.any λkv=>decide<|kv.1=k)=(atKey xs k).isSome:=by
  rw[jj,(r.val k).isSome_eq,Option.isSome_map]
 unfold putK storedH;rw[e];by_cases q:(atKey xs k).isSome=true
 .rw[xCg q,xCg q];exact r.repl k a
 .rw[xCf q,xCf q];exact Paired.snoc r ⟨rfl,c,a⟩
def KT.keeps{kvs:A0<|A0 Key×V}{xs:A0<|A0 Key×A7×A4}(r:KT H kvs xs)(a:∀b ys,H b=some (.tup ys)->H' b=some (.tup ys)):KT H' kvs xs:=
 Paired.mapP r λ_ _ z=>⟨z.1,a _ _ z.2.1,z.2.2⟩
section
variable{P:Program}{w:World}{H:Hp}{h:Heap}{a:A7}
def uX{u:HO}(ok:HOk P w H h)(e:Rd H a u):zAg P w H h a u:=e.ok ok
def gK(ok:HOk P w H h)(e:Rd H a<|.dK kvs):kvs.length<=sizeLine/\(a==sysModules)=false/\∃vs,KV kvs vs/\h.DictOf (zAm P w) a vs:=
 show zAg P w H h a (.dK kvs) from uX ok e
def vC(ok:HOk P w H h)(e:H a=some (.dK kvs)):kvs.length<=sizeLine/\(a==sysModules)=false/\∃vs,KV kvs vs/\h.DictOf (zAm P w) a vs:=gK ok<|.inl e
def fQ{ks:A0 Key}(ok:HOk P w H h)(e:H a=some (.tup<|ks.map kV)):(tupleKind<|zAm P w).is h ks a:=by
 let⟨_,its,r,o,d,c,n,b⟩:=(show zAg P w H h a (.tup<|ks.map kV) from ok a _ e)
 exact⟨o,its.toArray,n,d,c,b,by simpa using ic r⟩
def ij{kvs:A0<|A0 Key×V}(ok:HOk P w H h)(e:Rd H a<|.dT kvs):kvs.length<=sizeLine/\(a==sysModules)=false /\
  ∃xs,KT H kvs xs/\h.DictOfH (tupleKind<|zAm P w) a xs:=by
 let⟨z,y,xs,r,o,C,D,B,A,v,k,d⟩:=(show zAg P w H h a (.dT kvs) from uX ok e)
 refine⟨z,y,xs,r,o,C,D,B,A,v,k,λx hx=>?_,d⟩;have all:∀{l:A0<|A0 Key×V}{m:A0<|A0 Key×A7×A4},KT H l m->∀x∈m,(tupleKind<|zAm P w).is h x.1 x.2.1:=by
  intro l m q;induction q with
  |nil=>intro x hx;exact nomatch hx
  |@cons p q F E b t c=>
   intro x hx;rcases xAv.mp hx with e|hx
   .subst e;exact fQ ok (by rw[<- b.1];exact b.2.1)
   .exact c x hx
 exact all r x hx
def zR{kvs:A0<|A0 Key×V}(ok:HOk P w H h)(e:H a=some (.dT kvs)):kvs.length<=sizeLine/\(a==sysModules)=false /\
  ∃xs,KT H kvs xs/\h.DictOfH (tupleKind<|zAm P w) a xs:=ij ok<|.inl e
end
def zD6(H:Hp)(a:A7)(y:V)(r:A3 V):Prop:=
 (∃kvs k,Rd H a (.dK kvs)/\y=kV k/\r=zCh kvs k)\/∃kvs k b,Rd H a (.dT kvs)/\y=.ref b/\H b=some (.tup<|k.map kV)/\r=zCh kvs k
def zI3(H:Hp)(a:A7)(y v:V)(H':Hp):Prop:=
 (∃kvs k,H a=some (.dK kvs)/\y=kV k/\kvs.length<sizeLine/\H'=upd H a (.dK<|putK kvs k v)) \/
 ∃kvs k b,H a=some (.dT kvs)/\y=.ref b/\H b=some (.tup<|k.map kV)/\kvs.length<sizeLine/\H'=upd H a (.dT<|putK kvs k v)
section
variable{X:Cx}{Z:A0<|A7×Obj}{O:St}{H:Hp}{s:A5}{a:A7}{y v:V}{u r:A4}{o:A3 V}{A:Around}{E:A4->A5->Prop}
def Inv.big(I:Inv X Z O H s):sysModules<s.heap.objs.size:=by
 have h:mainGlobals<s.heap.objs.size:=(I.mod.glob.keeps I.bk).lt;exact Nat.lt_trans ∅ h
def oB(K:A.units+1<cLine)(I:Inv X Z O H s)(g:zD6 H a y<|some v)(F:zAi y u)(h:∀m D,Inv X Z O H D->zAi v m->Q m D) :
  wpAny (model X.prog X.w) A (getItem (.ref a) u) Q E s:=by
 rcases g with ⟨kvs,k,e,B,l⟩|⟨kvs,k,b,e,B,M,l⟩
 .subst B;let⟨z,hd,G,d,C⟩:=gK I.hok e;let⟨m,q,c⟩:=zB6.some_of (v:=v) (o:=valueAt G k) (by rw[l];exact d.val k);exact wpAny_getItem_of (gB F) C.mapOf q<|h m _ (I.tok _) c
 .subst B;cases (show u=Value.ref b from F);let⟨z,hd,xs,d,C⟩:=ij I.hok e;let⟨m,q,c⟩:=zB6.some_of (v:=v) (o:=(atKey xs k).map (·.2)) (by rw[l];exact d.val k);let⟨p,L,t⟩:=Option.map_eq_some_iff.mp q;erw[wpAny_getItem_heap (tupleKind_room_in1 K) (fQ I.hok M) C L];rw[t];exact h m _ (I.tok _) c
def AV(B:A.units+1<cLine)(I:Inv X Z O H s)(g:zD6 H a y o)(t:zAi y u)(h:∀p,Inv X Z O H p->Q (.bool o.isSome) p) :
  wpAny (model X.prog X.w) A (compareOp .In u<|.ref a) Q E s:=by
 rcases g with ⟨kvs,k,e,d,l⟩|⟨kvs,k,b,e,d,C,l⟩
 .subst d;let⟨z,hd,D,c,m⟩:=gK I.hok e;erw[wpAny_in_of (gB t) hd m.mapOf];rw[<- (c.val k).isSome_eq,<- l];exact h _<|I.tok _
 .subst d;cases (show u=Value.ref b from t);let⟨z,hd,xs,c,m⟩:=ij I.hok e;erw[wpAny_in_heap (tupleKind_room_in1 B) (fQ I.hok C) hd m];have q:=(c.val k).isSome_eq;rw[Option.isSome_map] at q;rw[<- q,<- l];exact h _<|I.tok _
def ut(B:A.units+1<cLine)(I:Inv X Z O H s)(g:zD6 H a y o)(t:zAi y u)(h:∀p,Inv X Z O H p->Q (.bool (!o.isSome)) p) :
  wpAny (model X.prog X.w) A (compareOp .NotIn u<|.ref a) Q E s:=by
 rcases g with ⟨kvs,k,e,d,l⟩|⟨kvs,k,b,e,d,C,l⟩
 .subst d;let⟨z,hd,D,c,m⟩:=gK I.hok e;erw[wpAny_notIn_of (gB t) hd m.mapOf];rw[<- (c.val k).isSome_eq,<- l];exact h _<|I.tok _
 .subst d;cases (show u=Value.ref b from t);let⟨z,hd,xs,c,m⟩:=ij I.hok e;erw[wpAny_notIn_heap (tupleKind_room_in1 B) (fQ I.hok C) hd m];have q:=(c.val k).isSome_eq;rw[Option.isSome_map] at q;rw[<- q,<- l];exact h _<|I.tok _
def i9{c:HO}(I:Inv X Z O H s)(d:Mut<|H a)(h:Heap.SameBut a s.heap h')(k:∃q,h'.get? a=some q)(new:zAg X.prog X.w (upd H a c) h' a c) :
  Inv X Z O (upd H a c) {s with heap:=h',toks:=t'}:=
 I.write (x:=a) (e:=a) d (.inl rfl) (λb q l z=>(h.2 b l).trans z) k new
def rE{vs:A0<|Key×A4}(z:kvs.length<=sizeLine)(hd:(a==sysModules)=false)(b:KV kvs vs)(c:h'.DictOf (zAm P w) a vs) :
  zAg P w H' h' a (.dK kvs):=⟨z,hd,vs,b,c⟩
def oA{Q:Unit->A5->Prop}(T:A.units+1<cLine)(I:Inv X Z O H s)(g:zI3 H a y v H')(L:zAi y u)(M:zAi v r)(h:∀K,Inv X Z O H' K->Q Unit.unit K) :
  wpAny (model X.prog X.w) A (setItem (.ref a) u r) Q E s:=by
 rcases g with ⟨kvs,k,e,D,l,F⟩|⟨kvs,k,b,e,D,R,l,F⟩
 .subst D F;let⟨z,hd,S,d,G⟩:=vC I.hok e;have t:S.length<=sizeLine:=by rw[<- d.length];exact z
  have C:(putK kvs k v).length<=sizeLine:=by have:=eR kvs k v;lia
  refine wpAny_setItem_pairs (hsz:=t) (gB L) G λh' m B=>h _ ?_;have W:∃q,h'.get? a=some q:=let ⟨q,_,_,p,_⟩:=m;⟨q,p⟩;exact i9 I (by rw[e];exact True.intro) B W<|rE C hd (d.put k M) m
 .subst D F;cases (show u=Value.ref b from L);let⟨z,hd,xs,d,G⟩:=zR I.hok e;have t:xs.length<=sizeLine:=by rw[<- Paired.length d];exact z
  have C:(putK kvs k v).length<=sizeLine:=by have:=eR kvs k v;lia
  refine wpAny_setItem_heap (hsz:=t) (tupleKind_room_in1 T) (fQ I.hok R) G λh' m B=>h _ ?_;let⟨q,es,ep,p,h2,h3,h4,_,Y⟩:=m;refine i9 I (by rw[e];exact True.intro) B ⟨q,p⟩ ⟨C,hd,_,(d.put k R M).keeps λc ys N=>?_,q,es,ep,p,h2,h3,h4,Y⟩;rw[bx<|gw N e λz=>nomatch z];exact N
end
section
variable{X:Cx}{Z:A0<|A7×Obj}{O:St}{H:Hp}{s:A5}{a:A7}{kvs:A0<|Key×V}{k:Key}{u:A4}{A:Around}{E:A4->A5->Prop}
def zS(I:Inv X Z O H s)(e:Rd H a<|.dK kvs)(h:∀t c,Inv X Z O H c->Q (.int kvs.length t) c):wpAny (model X.prog X.w) A (call (.builtin "len") [.ref a]) Q E s:=by
 let⟨z,hd,l,b,d⟩:=gK I.hok e;erw[call_len_dict hd d (by rw[<- b.length];rw[sizeLine_eq] at z;lia)];rw[<- b.length];exact h _ _<|I.tok _
end
def jW{a:A7}{o:A3 V}(I:Inv X Z O H s)(g:zD6 H a y o):s.TypeIs (.ref a) "dict":=by
 rcases g with ⟨kvs,k,e,_,_⟩|⟨kvs,k,b,e,_,_,_⟩
 .let⟨_,_,d,_,c⟩:=gK I.hok e;exact c.typeIs
 .let⟨_,_,xs,_,c⟩:=ij I.hok e;exact c.typeIs
def jV(h:Heap)(a:sysModules<h.objs.size):zAg P w H (h.push {cls:=.type "dict",data:=.dict #[]}) h.objs.size<|.dK []:=
 ⟨xBn _,beq_eq_false_iff_ne.mpr<|Ne.symm<|xA0 a,[],.nil,Heap.DictOf.new h⟩
def zE2:TE:=λ_ H Q=>∀p,H p=none->Q (.ref p) (upd H p<|.dK [])
section
variable{X:Cx}{pos:Pos}
def qk:PE X (.Dict [] [] pos) zE2:=λZ s O H Q I h=>
 wpAny_Dict_empty ⟨.ref s.heap.objs.size,_,I.laid (a:=s.heap.objs.size) (o:=.dK []) (t':=s.toks) (λ_ _ q=>xAf _ q) (xAg _)<|jV s.heap I.big,rfl,h _<|I.hok.fresh<|xAg _⟩
end
def zCn:A0 (TE×TE)->St->Hp->(A0 (V×V)->Hp->Prop)->Prop
 |[],_,H,Q=>Q [] H
 |(tk,a)::r,O,H,Q=>tk O H λx H1=>a O H1 λy H2=>zCn r O H2 λb H3=>Q ((x,y)::b) H3
noncomputable abbrev VV:A0 (V×V)->A0 (A4×A4)->Prop:=Paired λp q=>zAi p.1 q.1/\zAi p.2 q.2
def PPs(X:Cx)(pos:Pos)(a:A0<|A3 A6)(values:A0 A6)(trs:A0<|TE×TE):Prop:=
 ∀(Z:A0<|A7×Obj)(s:A5)(O:St)(H:Hp)(Q:A0 (V×V)->Hp->Prop),Inv X Z O H s->zCn trs O H Q ->
  wpAny (model X.prog X.w) X.A (evalPairs<|pairTrees a values X.env pos) (λvs c=>∃b H',Inv X Z O H' c/\VV b vs/\Q b H') X.xe s
def tp:PPs X pos [] [] []:=λZ s O H Q I h=>pairTrees_nil_walk ⟨[],H,I,.nil,h⟩
def pW{k v:A6}{ks:A0<|A3 A6}{vs:A0 A6}{tk b:TE}{trs:A0<|TE×TE}(A:PE X k tk)(r:PE X v b)(t:PPs X pos ks vs trs) :
  PPs X pos (some k::ks) (v::vs) ((tk,b)::trs):=λZ s O H Q I h=>
 pairTrees_cons_walk (thn (A Z s O H _ I h) λu d ⟨x,H1,I1,l,p⟩=>thn (r Z d O H1 _ I1 p) λC c ⟨y,H2,I2,e,o⟩ =>
  thn (t Z c O H2 _ I2 o) λB D ⟨q,H3,I3,a,m⟩=>⟨(x,y)::q,H3,I3,.cons ⟨l,e⟩ a,m⟩)
def zBh(kvs a:A0<|Key×V):A0<|Key×V:=a.foldl (λb kv=>putK b kv.1 kv.2) kvs
theorem KV.merge:∀{a:A0<|Key×V}{b:A0<|Key×A4}{kvs:A0<|Key×V}{vs:A0<|Key×A4},KV a b->KV kvs vs->KV (zBh kvs a) (merged vs b):=by
 intro a b kvs vs r;unfold KV at r;induction r generalizing kvs vs with
 |nil=>intro q;exact q
 |@cons p q k d h t c=>
  intro r0;have e:KV (putK kvs p.1 p.2) (stored vs q.1 q.2):=by
   have:=r0.put p.1 h.2;rw[<- h.1];exact this
  exact c e
theorem e9:∀(a kvs:A0<|Key×V),(zBh kvs a).length<=kvs.length+a.length
 |[],kvs=>by show kvs.length<=kvs.length+0;lia
 |p::r,kvs=>by
  have c:=e9 r<|putK kvs p.1 p.2;have b:=eR kvs p.1 p.2;show(zBh (putK kvs p.1 p.2) r).length<=_;rw[xAo];lia
theorem gO{P:Program}{w:World}:∀{kvs:A0<|Key×V}{ws:A0<|A4×A4},VV (kvs.map λkv=>(kV kv.1,kv.2)) ws->∃d,Carries (zAm P w) ws d/\KV kvs d
 |[],_,r=>by rw[List.map_nil] at r;cases r;exact⟨[],True.intro,.nil⟩
 |p::kvs,_,r=>by
  rw[xBs] at r;cases r with
  |@cons a b l bs h t=>
   let⟨d,c,q⟩:=gO (P:=P) (w:=w) t;let⟨k,e⟩:=b;exact⟨(p.1,e)::d,⟨gB h.1,rfl,c⟩,.cons ⟨rfl,h.2⟩ q⟩
def zGr(trs:A0<|TE×TE):TE:=λO H Q=>∀p,H p=none->zCn trs O (upd H p<|.dK []) λa H2=>H2 p=some (.dK [])/\∃kvs:A0<|Key×V,a=kvs.map (λkv=>(kV kv.1,kv.2))/\kvs.length<=15/\Q (.ref p) (upd H2 p<|.dK<|zBh [] kvs)
def tE{b:A0<|A3 A6}{values:A0 A6}{trs:A0<|TE×TE}(h:PPs X pos b values trs)(d:b.all (·.isSome)=true)(F:b.length=values.length)(L:b≠[])(m:b.length<=15):PE X (.Dict b values pos)<|zGr trs:=by
 intro Z s O H Q I q;have E:=I.hok.fresh<|xAg s.heap.objs.size;have I1:=I.laid (a:=s.heap.objs.size) (o:=.dK []) (h':=s.heap.push {cls:=.type "dict",data:=.dict #[]}) (t':=s.toks) (λ_ _ q=>xAf _ q) (xAg _)<|jV s.heap I.big;refine wpAny_Dict_walk (knd:=zAm X.prog X.w) d F L m (thn (h Z _ O _ _ I1<|q _ E) λR S p=>?_);let⟨T,H2,I2,l,e,kvs,M,W,A⟩:=p;subst M;let⟨t,c,v⟩:=gO (P:=X.prog) (w:=X.w) l;let⟨z,hd,r,r0,N⟩:=vC I2.hok e;cases r0;refine⟨t,c,N,λh' k C=>⟨.ref s.heap.objs.size,_,?_,rfl,A⟩⟩;have B:(zBh [] kvs).length<=sizeLine:=by
  have K:=e9 kvs [];rw[List.length_nil] at K;rw[sizeLine_eq];lia
 have G:∃q,h'.get? s.heap.objs.size=some q:=let ⟨q,_,_,D,_⟩:=k;⟨q,D⟩;exact i9 I2 (by rw[e];exact True.intro) C G<|rE B hd (v.merge .nil) k
structure M1(X:Cx)(o:A6)(m:Str)(apos:Pos)(e:A6)(cpos:Pos):Prop where
 base:attributeBase o m X.env (eval o X.env)=eval o X.env
 few:((backTo cpos (starEach [e] X.env)).all (λx=>!x.1) && (backToKw cpos (keywordEach [] X.env)).all (λx=>x.1.isSome)
  && decide (([e]:A0 A6).length+([]:A0 Keyword).length+(if([]:A0 Keyword).isEmpty then 0 else 1)<30))=true
 line:(apos.endLine==cpos.line)=true
 trees:backTo cpos (starEach [e] X.env)=[(false,eval e X.env)]
structure M2(X:Cx)(o:A6)(m:Str)(apos:Pos)(e f:A6)(cpos:Pos):Prop where
 base:attributeBase o m X.env (eval o X.env)=eval o X.env
 few:((backTo cpos (starEach [e,f] X.env)).all (λx=>!x.1) && (backToKw cpos (keywordEach [] X.env)).all (λx=>x.1.isSome)
  && decide (([e,f]:A0 A6).length+([]:A0 Keyword).length+(if([]:A0 Keyword).isEmpty then 0 else 1)<30))=true
 line:(apos.endLine==cpos.line)=true
 trees:backTo cpos (starEach [e,f] X.env)=[(false,eval e X.env),(false,eval f X.env)]
section
variable{X:Cx}{Z:A0<|A7×Obj}{O:St}{H:Hp}{s:A5}{a:A7}{y d:V}{u r:A4}{o:A3 V}{A:Around}{E:A4->A5->Prop}
def yb(C:A.units+1<cLine)(I:Inv X Z O H s)(g:zD6 H a y o)(v:zAi y u)(B:zAi d r)(h:∀q t,Inv X Z O H t->zAi (o.getD d) q->Q q t) :
  wpAny (model X.prog X.w) A (call (.builtin "dict.get") [.ref a,u,r]) Q E s:=by
 rcases g with ⟨kvs,k,e,p,l⟩|⟨kvs,k,b,e,p,D,l⟩
 .subst p;let⟨z,hd,G,c,m⟩:=gK I.hok e;refine call_meetsIn PySem.F.slot_dict_get m.typeIs PySem.F.entry_dict_get (PySem.F.args_dict_get_3 _ _ _) (meets_dict_get_default (zAm X.prog X.w) a (gB v) hd r) ⟨_,m.mapOf,h _ _ (I.tok _) ?_⟩;rw[l];exact(c.val k).getD B
 .subst p;cases (show u=Value.ref b from v);let⟨z,hd,xs,c,m⟩:=ij I.hok e;refine call_meetsIn PySem.F.slot_dict_get m.typeIs PySem.F.entry_dict_get (PySem.F.args_dict_get_3 _ _ _) (meetsH_dict_get_default (tupleKind<|zAm X.prog X.w) a b hd r) ⟨tupleKind_room_in1 C,k,xs,fQ I.hok D,m,h _ _ (I.tok _) ?_⟩;rw[l];exact(c.val k).getD B
end
end L2
namespace Att
open PySem PySem.W PySem.Calls PyProof.Rows
variable{P:Params}{h:Heap}{l:OpenLaw}{n:Nat}
theorem fZ:∀(ns:B2)(vs:B4),WellAll P h vs (ns.map WData.int)->IntsAre vs ns:=by
 intro ns;induction ns with
 |nil=>
  intro vs w;rw[List.map_nil] at w;cases w;exact .nil
 |cons n ns ih=>
  intro vs w;rw[xBs] at w;cases w with
  |cons a b=>
   cases a;exact .cons _ _<|ih _ b
theorem nG(y:l.most=some n){args:A0 WData}{b:B4}(c:l.row.toRowW.claim.pre args=true)(m:WellAll P h b args) :
  ∃a vs ns,b=[Value.ref a]/\args=[WData.list<|ns.map WData.int]/\h.get? a=some {cls:=.type "list",data:=.seq vs.toArray}/\IntsAre vs ns/\ns.length<=n:=by
 have o:WShape.hasAll [] args [.list .int]=true:=(pre_splitW c).1;have p:l.pre.holds [] {args:=args}=true:=(pre_splitW c).2;let⟨d,r,rfl,C,B⟩:=hasAllW_cons o;obtain rfl:=hasAllW_nil B;let⟨D,rfl,A⟩:=hasW_list C;let⟨ns,rfl⟩:=items_int A;have e:ns.length<=n:=by
  unfold OpenLaw.pre at p;have k:(WTm.not<|.lt (.lit<|.int (n:Int))<|.len<|.arg 0).holds [] {args:=[.list<|ns.map .int]}=true:=by
   have k:=(holds_andW p).1;rw[y] at k;exact k
  have j:=condW_of k<|w_not<|w_lt w_lit<|w_len_list<|w_arg rfl;rw[xAa] at j;refine Nat.le_of_not_lt λq=>?_;have w:(n:Int)<((ns.length:Nat):Int):=()
  first
   |(rw[xBd w] at j;exact absurd j ∅)
   |(simp at j;lia)
 cases m with
 |cons v t=>
  cases t;cases v with
  |list x i=>exact⟨_,_,ns,rfl,rfl,x,fZ ns _ i,e⟩
def nL(l:OpenLaw)(args:A0 WData):l.row.toRowW.claim.post args (.bool true) args=true:=
 postW_of (r:=l.row.toRowW) (X:=(true==true))
  (show WShape.has [] (.bool true) .bool=true by first|rfl|decide|simp[WShape.has,WShape.arms,WShape.armsAll])
  (show(WTm.eq .res<|.lit<|.bool true).value [] {args:=args,res:=some<|.bool true,after:=args}=some (.bool<|true==true) from w_eq_bool (w_res rfl) w_lit) rfl
def attach_call{q:Program}{b:A9}{XP:(Str->A3 A4)->Heap->Prop}{YP:World->Heap->Prop}{d:DefRec}(J:l.most=some n)(y:d.params.defaults=[])(call:∀(w:World)(s₀ s₁:A5)(p t:Str->A3 A4)(fa:A7)(o:Obj)(pm cd e:A4)(a:A7)(vs:B4)(ns:B2),
   Ground q b [] XP w s₀ p t s₁.heap->YP w s₁.heap ->
   s₁.heap.get? fa=some o->o.data=.func (docDef d.name d.params d.body d.scope pm cd e)->s₁.heap.CodeRec cd d.name->p d.name=some (.ref fa) ->
   s₁.heap.get? a=some {cls:=.type "list",data:=.seq vs.toArray}->IntsAre vs ns->ns.length<=n->s₁.gens=#[] ->
   codeAny (model l.prog w) callerA (.call (.ref fa) ⟨[.ref a],[]⟩) (λr m=>r=.ok (.ret<|.bool true)/\OldK s₁.heap m.heap/\m.os=s₁.os/\AllBare m.gens) s₁) :
  WalkO q b XP YP l.row.toRowW d [] (λf vs=>PySem.call f vs):=by
 intro w s₀ s₁ p t G Y fa o pm cd e R kV I hd A D x M E B S i C F v L;obtain rfl:R=.none:=Dflts.none D y;obtain rfl:kV=.none:=Dflts.noKw D;let⟨a,vs,ns,rfl,rfl,j,c,k⟩:=nG J i v;refine enter_call (codeAny_mono (call w s₀ s₁ p t fa o pm cd e a vs ns G Y I (fd_plain hd) A x j c k M) λr m H=>?_);let⟨rfl,Q,O,N⟩:=H;exact⟨.inl ⟨.bool true,.bool true,[],rfl,λ_=>rfl,.bool true,nL l _,λ_=>⟨List.Pairwise.nil,λ_ K=>(nomatch K)⟩⟩,Q,O,N⟩
end Att
namespace L2
open PySem PySem.Spec PyProof.Rows
variable{P:Program}{w:World}{k n:Nat}{fd:FuncData}{x qual y:Str}{st:Stmt}{env:Env}{scope:Scope}{H:Hp}
theorem gW:∀{vs:B4}{ns:B2},IntsAre vs ns->zAk (ns.map V.int) vs
 |_,_,.nil=>.nil
 |_,_,.cons n t h=>.cons ⟨t,rfl⟩<|gW h
def zHo(H:Hp):Prop:=∀b,H b=none\/∃o xs,H b=some (.frz o<|.lst xs)
theorem qL{K:xFr}{A O:Str->A3 A4}{CX:CXT}{fa a:A7}{sp:Sp}{s₁:A5}{vs:B4}{ns:B2}(KX:K.In s₁.heap)(E:s₁.heap.Ns mainGlobals A)(c:s₁.heap.Ns builtinsNs O)(Q:∀x:Str,x≠"__name__"->O x=bootBuiltins x)(G:s₁.heap.NoLimit)(hg:s₁.gens=#[])(N:s₁.heap.get? a=some {cls:=.type "list",data:=.seq vs.toArray})(hi:IntsAre vs ns)(W:ns.length<=sizeLine)(hr:zBc k callerA)(F:∀j:Heap,K.In j->j.Ns mainGlobals A->zA9 P w K A j CX k fa fd [x] sp)(p:∀(s:A5)(u:A4),BindsTo s fd ⟨[u],[]⟩ [(x,u)])(hsp:∀H:Hp,zHo H->SqL K H a (ns.map V.int)->sp [.ref a] H (λv _=>v=.bl true) λ_ _ _=>False)(R:∀H e i,CX [] H s₁ (λ_ _ _=>False) e i->False) :
  codeAny (model P w) callerA (.call (.ref fa) ⟨[.ref a],[]⟩) (λr i=>r=.ok (.ret<|.bool true)/\OldK s₁.heap i.heap/\i.os=s₁.os/\AllBare i.gens) s₁:=by
 have T:=gW hi;have B:=hi.length
 -- from an abstract heap in which nothing but the script may be tracked
 have l:∀H:Hp,zHo H->SqL K H a (ns.map V.int)->HOk P w H s₁.heap->(∀b,H b≠none->b=a)->(H a≠none->K.lookup a=none) ->
   codeAny (model P w) callerA (.call (.ref fa) ⟨[.ref a],[]⟩) (λr i=>r=.ok (.ret<|.bool true)/\OldK s₁.heap i.heap/\i.os=s₁.os/\AllBare i.gens) s₁:=by
  intro H X hS D Y hK;have base_of:∀{b:A7}{o:Obj},s₁.heap.get? b=some o->H b=none->(zDs s₁.heap H).get? b=some o:=λe n=>qU e n;have noA:∀{b:A7}{o:Obj}{J:Array DictEntry}{L:Nat},s₁.heap.get? b=some o->o.data=.dict J L->H b=none:=λ{b o J L} e d=>by
   cases q:H b with
   |none=>rfl
   |some u=>
    have S:b=a:=Y b (by rw[q];simp);subst S;rw[N] at e;cases e;have d':Data.seq vs.toArray _=Data.dict J L:=d;cases d'
  have nsK:∀{b:A7}{m:Str->A3 A4},s₁.heap.Ns b m->(zDs s₁.heap H).Ns b m:=λ{b m} ⟨o,J,L,e,d,r⟩=>⟨o,J,L,base_of e<|noA e d,d,r⟩
  have I:K.In<|zDs s₁.heap H:=λb o e=>base_of (KX b o e) (by
   cases q:H b with
   |none=>rfl
   |some u=>
    have S:b=a:=Y b (by rw[q];simp);subst S;rw[hK<|by rw[q];simp] at e;cases e)
  have hM:Mod K A<|zDs s₁.heap H:=⟨I,nsK E,⟨O,nsK c,Q⟩,let ⟨mc,h1,h2⟩:=G;⟨mc,nsK h1,h2⟩⟩
  have e0:zEq P w K A (zDs s₁.heap H) callerA [] s₁ H:=⟨rfl,hM,λb o e=>tR e,Nat.le_of_eq<|om _ _,trivial,λb c=>absurd (show b∈([]:A0 A7) from c) ⋯,D,.of_eq hg⟩
  refine codeAny_mono ((F _ I<|nsK E).run callerA [] s₁ H ⟨[.ref a],[]⟩ [.ref a] [.ref a] _ _ hr e0 (p s₁<|.ref a) (.cons rfl .nil)<|hsp H X hS) λr i h=>?_;cases r with
  |error e=>exact(R H e i h).elim
  |ok fl=>
   cases fl with
   |next=>exact False.elim h
   |brk=>exact False.elim h
   |cont=>exact False.elim h
   |ret u=>
    let⟨v,H',os,M,un,C,r',q⟩:=h;have q':v=.bl true:=q;subst q';obtain rfl:u=Value.bool true:=r';refine⟨rfl,OldK.of_keep λb o e=>?_,os,M⟩;cases q:H b with
    |none=>exact un.keep b o e q (by intro z;exact absurd (show b∈([]:A0 A7) from z) ⋯) ⋯
    |some u=>
     rcases X b with z|⟨ob,xs,z⟩
     .rw[q] at z;cases z
     .have z2:=un.frzs b ob _ z;let⟨Z,_⟩:=D b _ z;let⟨e2,_⟩:=C b _ z2;rw[e] at Z;cases Z;exact e2
 cases hk:K.lookup a with
 |some o=>
  -- the script is one of the module's own objects
  have e:=KX a o hk;rw[N] at e;cases e;refine l (λ_=>none) (λ_=>.inl rfl) (.inr ⟨_,vs.toArray,_,hk,rfl,rfl,rfl,by rw[xAp,B];exact W,by simpa using T⟩) (λb u z=>by have t:(none:A3 HO)=some u:=z;cases t) (λb z=>absurd rfl z) λz=>absurd rfl z
 |none=>
  refine l (λb=>if b=a then some (.frz {cls:=.type "list",data:=.seq vs.toArray}<|.lst<|ns.map V.int) else none) (λb=>?_) (.inl<|.inr ⟨{cls:=.type "list",data:=.seq vs.toArray},xCg rfl⟩) (λb u z=>?_) (λb z=>?_) λ_=>hk
  .by_cases c:b=a
   .exact .inr ⟨_,_,xCg c⟩
   .exact .inl<|xCf c
  .by_cases c:b=a
   .have t:=(xCg c).symm.trans z;cases t;subst c;exact⟨N,by rw[xAa];exact W,vs,_,T,N⟩
   .have t:=(xCf c).symm.trans z;cases t
  .by_cases c:b=a
   .exact c
   .exact absurd (xCf c) z
def walk_of{l:PySem.W.OpenLaw}{q:Program}{j:A9}{XP:(Str->A3 A4)->Heap->Prop}{YP:World->Heap->Prop}{d:DefRec}{K:Params->xFr}{CX:World->CXT}{sp:World->Sp}(J:l.most=some n)(B:n<=sizeLine)(D:d.params.defaults=[])(I:zBc k callerA)(O:∀(w:World)(h:Heap),YP w h->(K w.params).In h)(F:∀(w:World)(p:Str->A3 A4)(fa:A7)(h:Heap),(K w.params).In h->h.Ns mainGlobals p->p d.name=some (.ref fa) ->
   ∃fd:FuncData,(∀(s:A5)(u:A4),BindsTo s fd ⟨[u],[]⟩ [(x,u)]) /\
    ∀c:Heap,(K w.params).In c->c.Ns mainGlobals p->zA9 l.prog w (K w.params) p c (CX w) k fa fd [x] (sp w))(A:∀(w:World)(H:Hp)(a:A7)(ns:B2),ns.length<=n->zHo H->SqL (K w.params) H a (ns.map V.int)->sp w [.ref a] H (λv _=>v=.bl true) λ_ _ _=>False)(E:∀(w:World)(H:Hp)(s:A5)(e:A4)(t:A5),CX w [] H s (λ_ _ _=>False) e t->False) :
  PySem.W.WalkO q j XP YP l.row.toRowW d [] (λf vs=>PySem.call f vs):=by
 refine Att.attach_call J D λw s₀ s₁ p Z fa o pm cd X a vs ns G Y ho hd M C r m i L=>?_;have KX:=O w _ Y;let⟨fd,N,S⟩:=F w p fa _ KX G.T.g C;exact qL KX G.T.g G.T.b G.T.builtins G.T.nolimit L r m (xCk i B) I S N (λH R Q=>A w H a ns i R Q) λH e t=>E w H s₁ e t
noncomputable def zB2(s:Stmt)(j:Nat):Stmt:=match s with
 |.ClassDef _ _ _ a _ _ _ _ _ _ _=>a.getD j<|.Pass ⟨0,0,0,0⟩
 |_=>.Pass ⟨0,0,0,0⟩
noncomputable def zAq(s:Stmt):Arguments:=match s with
 |.FunctionDef _ a _ _ _ _ _ _ _ _=>a
 |_=>{posonlyargs:=[],args:=[],vararg:=none,kwonlyargs:=[],kw_defaults:=[],kwarg:=none,defaults:=[]}
noncomputable def zAl(s:Stmt):A0 Stmt:=match s with
 |.FunctionDef _ _ b _ _ _ _ _ _ _=>b
 |_=>[]
noncomputable def zAe(s:Stmt):Scope:=match s with
 |.FunctionDef _ _ _ _ _ _ sc _ _ _=>sc
 |_=>{kind:=.function,names:=[],isGenerator:=false,isCoroutine:=false}
structure Fun(K:xFr)(x qual:Str)(st:Stmt)(f:A7)(fd:FuncData):Prop where
 ex:∃(oc:A4) (od:A3 A7) (kV doc pm:A4) (an:A3 A7) (cdv ct:A4) (osl:Array (A3 A4)),
  fd=W.fnOf x qual (zAq st) (zAl st) (zAe st) .none kV doc pm an cdv ct/\K.lookup f=some ⟨oc,od,.func fd,osl⟩/\W.codeIn K cdv qual=true
 kp:W.keepIn K (.ref f)=true
section
variable{P:Program}{w:World}{K:xFr}{mg:Str->A3 A4}{base:Heap}
def Fun.binds{f:A7}{c:A9}(F:Fun K x qual st f fd)(h:∀(kV a pm:A4)(an:A3 A7)(b ct:A4)(us:B4),us.length=c.length->bindArgs (W.fnOf x qual (zAq st) (zAl st) (zAe st) .none kV a pm an b ct) ⟨us,[]⟩=pure (c.zip us)):zAy K fd c []:=by
 let⟨j,i,kV,a,pm,an,b,ct,d,rfl,l,e⟩:=F.ex;exact .all<|h kV a pm an b ct
def qX{f:A7}{h:A4}{e an:A3 A7}{d:Array<|A3 A4}{kV b pm a ct:A4}(l:K.lookup f=some ⟨h,e,.func<|W.fnOf x qual (zAq st) (zAl st) (zAe st) .none kV b pm an a ct,d⟩)(c:W.codeIn K a qual=true)(k:W.keepIn K (.ref f)=true):Fun K x qual st f<|W.fnOf x qual (zAq st) (zAl st) (zAe st) .none kV b pm an a ct:=⟨⟨h,e,kV,b,pm,an,a,ct,d,rfl,l,c⟩,k⟩
end
def zDb(h:n<=1000):n<sizeLine:=Nat.lt_of_le_of_lt h ∅
def zF4(H H':Hp):Prop:=∀b o,H b=some o->H' b=some o
def zF4.refl(H:Hp):zF4 H H:=λ_ _ h=>h
section
variable{X:Cx}
def oH:zAp X (.builtin "len") λxs H Q=>∃a b,xs=[V.ref a]/\H a=some (.dK b)/\Q (.int b.length) H:=by
 intro Z s O H xs us Q I r h;let⟨a,b,rfl,d,q⟩:=h;let⟨u,rfl,c⟩:=zBx r;cases c;exact zS I (.inl d) λt e I'=>⟨.int b.length,H,I',⟨t,rfl⟩,q⟩
end
noncomputable def zCs(X:Cx)(N:A9)(scope:Scope)(cl:A0<|Str×A7)(C:A7)(s:A5)(H:Hp)(fp:A0 A7):Cx where
 prog:=X.prog
 w:=X.w
 K:=X.K
 mg:=X.mg
 base:=X.base
 A:=X.A
 N:=N
 s₀:=s
 H₀:=H
 env:=compEnvC scope cl C X.env
 outer:=X.stack
 stack:=X.stack
 ex:=fp
 fn:=λ_=>false
 calm:=X.calm
 pn:=[]
 xe:=λ_ _=>False
theorem fU{k:NameKind}(h:(relabel scope env).names.lookup y=some k):∃b,(y,b)∈scope.names/\(k=b\/(b=.free/\k=.cell)):=by
 unfold relabel at h;dsimp only at h;revert h;generalize scope.names=l;intro h;induction l with
 |nil=>simp at h
 |cons a r i=>
  let⟨n,c⟩:=a;rw[xBs] at h;by_cases hc:(c==NameKind.free&&env.scope.kind == .function&&env.kindOf n==some .cell)=true
  .dsimp only at h;rw[xCg hc] at h;rw[List.lookup_cons] at h;by_cases e:y==n
   .rw[e] at h;have d:y=n:=eq_of_beq e;subst d;have j:c=.free:=by
     rw[xCh,xCh] at hc;exact eq_of_beq hc.1.1
    subst j;exact⟨.free,xAr,.inr ⟨rfl,(xB3 h).symm⟩⟩
   .rw[Bool.eq_false_iff.mpr e] at h;let⟨b,m,z⟩:=i h;exact⟨b,xAs _ m,z⟩
  .dsimp only at h;rw[xCf hc] at h;rw[List.lookup_cons] at h;by_cases e:y==n
   .rw[e] at h;have d:y=n:=eq_of_beq e;subst d;exact⟨c,xAr,.inl (xB3 h).symm⟩
   .rw[Bool.eq_false_iff.mpr e] at h;let⟨b,m,z⟩:=i h;exact⟨b,xAs _ m,z⟩
theorem dn(h:scope.names.lookup y=some .free):(relabel scope env).names.lookup y=some .cell\/(relabel scope env).names.lookup y=some .free:=by
 unfold relabel;dsimp only;revert h;generalize scope.names=l;intro h;induction l with
 |nil=>simp at h
 |cons a r b=>
  let⟨n,c⟩:=a;rw[xBs];rw[List.lookup_cons] at h;by_cases hc:(c==NameKind.free&&env.scope.kind == .function&&env.kindOf n==some .cell)=true
  .dsimp only;rw[xCg hc];rw[List.lookup_cons];by_cases e:y==n
   .rw[e];exact .inl rfl
   .rw[Bool.eq_false_iff.mpr e] at h⊢;exact b h
  .dsimp only;rw[xCf hc];rw[List.lookup_cons];by_cases e:y==n
   .rw[e] at h⊢;exact .inr h
   .rw[Bool.eq_false_iff.mpr e] at h⊢;exact b h
noncomputable def zC7(O:St)(fr:B1):St:=fr.map λk=>(O[k]?).join
section
variable{X:Cx}
def oI:zAp X (.builtin "isinstance") λxs H Q=>∃x n t b,xs=[x,V.ty n]/\zCd X.K H x t/\W.kitOne X.K t (.type n)=some b/\Q (.bl b) H:=by
 intro Z s O H xs us Q I r h;let⟨x,n,t,b,rfl,ty,e,q⟩:=h;let⟨u,c,rfl,d,a⟩:=zDm r;cases (show c=Value.type n from a);exact oi I d ty e λtk=>⟨.bl b,H,I.tok tk,rfl,q⟩
def tO:OpR X (binaryOp .Mult)<|rI (λi j=>IntMulOk i j) λi j=>.int<|i*j:=opI λ_ _ _ _ _ _ _ a q=>mul_int q a
def qw:OpR X (binaryOp .FloorDiv)<|rI (λi j=>j≠0/\Builtin.divisionGoesByPylong i j=false) λi j=>.int<|i.fdiv j:=opI λ_ _ _ _ _ _ _ a q=>floordiv_int a.1 q<|.inl a.2
def rl{x:V}(h:zBl x=true):eqV x x=true:=by
 cases x <;> first|rfl|(exact absurd (show false=true from h) ∅)|(simp[eqV])
end
def small(h:n<=1000):n<=sizeLine:=Nat.le_of_lt<|zDb h
def dB{p:A7}(h:H p=none)(o:HO):zF4 H<|upd H p o:=λb u q=>by rw[bx<|cD q h];exact q
def cQ{xs:B3}{us:B4}(r:zAk xs us){j:Nat}(b:j<us.toArray.size):∃x,xs[j]?=some x/\zAi x us.toArray[j]:=by
 rw[xAp] at b;have a:j<xs.length:=by rw[r.length];exact b
 let⟨u,e,q⟩:=r.get<|xAk a;refine⟨xs[j],xAk a,?_⟩;rw[List.getElem_toArray];have:us[j]=u:=(xAq.mp e).2;rw[this];exact q
noncomputable abbrev bmV:B4:=[.type "ValueError",.type "Exception",.type "BaseException",.type "object"]
noncomputable abbrev zDi(C t:A7)(dx:A3 A7):Obj:={cls:=.ref C,dict:=dx,data:=.fields #[.ref t,.none,.none,.none,.bool false,.none]}
noncomputable def XO(C:A7)(a:A3 A7)(e:A7):HO:=.ext λh=>∃t,h.get? e=some (zDi C t a)
def XO.ok{h:Heap}{C e t:A7}{a:A3 A7}(g:h.get? e=some (zDi C t a)):zAg P w H h e<|XO C a e:=
 ⟨⟨t,g⟩,⟨_,g⟩,λ_ _ ⟨b,c⟩ k=>⟨b,k _ c⟩⟩
end L2
namespace L2
open PySem PySem.Spec PyProof.Rows PySem.Builtin PySem.Builtin.ObjectAttr
variable{P:Program}{w:World}{H H':Hp}{h h':Heap}{a T C D:A7}{Q:Unit->A5->Prop}{dx dd:A3 A7}{oe:Obj}{Z:A0<|A7×Obj}{O:St}{s:A5}{M:Model}{A:Around}{q:Str}{hdct ab:A8}{sn:A9}{sub:B4}{col:A3 A8}{k0 k1 k2 k3 k5:A3 A4}{newId:String}
def zC3(K:xFr)(C:A7):A8:=match K.lookup C with
 | some ⟨.type "type",_,.cls cd,b⟩=>(match cd.mro,b.toList with
  |.ref C'::bm,[_,_,_,_,some<|.builtin n,_]=>C'==C&&n == "ValueError.__new__" && !cd.hasDel&&W.tailIn K bmV bm
  |_,_=>false)
 |_=>false
section
variable{K:xFr}{C:A7}
set_option tactic.hygienic true
def fI(q:zC3 K C=true):∃nm b N bs bm hdct sn sub ab col dd k0 k1 k2 k3 k5,K.lookup C=some (excClassObj nm b C N bs bm hdct sn sub ab col dd k0 k1 k2 k3 k5 "ValueError.__new__")/\W.tailIn K bmV bm=true:=by
 unfold zC3 at q;split at q
 .rename_i dd cd sl ho
  split at q
  .rename_i C' bm k0 k1 k2 k3 n k5 hm hs
   simp only[xCh,beq_iff_eq,Bool.not_eq_true'] at q;let⟨⟨⟨rfl,rfl⟩,hdel⟩,ht⟩:=q;let⟨nm,bs,d,c,b,hd,sn,sub,ab,col,del⟩:=cd;dsimp only at hm hdel;subst hm hdel;let⟨l⟩:=sl;simp only at hs;subst hs;exact⟨nm,b,c,bs,bm,hd,sn,sub,ab,col,dd,k0,k1,k2,k3,k5,ho,ht⟩
  .cases q
 .cases q
def oz(q:W.excIn K C bmV "ValueError.__new__"=true):∃nm b N bs bm hdct sn sub ab col dd k0 k1 k2 k3 k5,K.lookup C=some (excClassObj nm b C N bs bm hdct sn sub ab col dd k0 k1 k2 k3 k5 "ValueError.__new__")/\W.tailIn K bmV bm=true /\
  W.nsOkIn K N=true/\W.nsIn K N "__init__"=some none:=by
 unfold W.excIn at q;split at q
 .rename_i dd cd sl ho
  split at q
  .rename_i C' bm k0 k1 k2 k3 n k5 hm hs
   simp only[xCh,beq_iff_eq,Bool.not_eq_true'] at q;let⟨⟨⟨⟨⟨rfl,rfl⟩,hdel⟩,ht⟩,hok⟩,hni⟩:=q;let⟨nm,bs,d,c,b,hd,sn,sub,ab,col,del⟩:=cd;dsimp only at hm hdel hok hni;subst hm hdel;let⟨l⟩:=sl;simp only at hs;subst hs;exact⟨nm,b,c,bs,bm,hd,sn,sub,ab,col,dd,k0,k1,k2,k3,k5,ho,ht,hok,hni⟩
  .cases q
 .cases q
set_option tactic.hygienic false
end
theorem zAg.there{o:HO}(x:zAg P w H h a o):∃u,h.get? a=some u:=by
 cases o with
 |lst c=>let⟨_,_,_,_,e⟩:=x;exact⟨_,e⟩
 |tup c=>let⟨_,_,_,d,e,_⟩:=x;exact⟨_,e⟩
 |dK b=>let⟨_,_,_,_,o,_,_,e,_⟩:=x;exact⟨_,e⟩
 |dT b=>let⟨_,_,_,_,o,_,_,e,_⟩:=x;exact⟨_,e⟩
 |set S n=>let⟨o,_,_,_,e,_⟩:=x;exact⟨_,e⟩
 |ins C dx fs=>let⟨_,_,_,e,_⟩:=x;exact⟨_,e⟩
 |own y=>let⟨_,e⟩:=x;exact⟨_,e⟩
 |xd fs=>let⟨_,⟨_,_,_,e,_⟩,_⟩:=x;exact⟨_,e⟩
 |rng j k=>let⟨_,_,_,e⟩:=x;exact⟨_,e⟩
 |frz d u=>let⟨e,_⟩:=x;exact⟨_,e⟩
 |tbl i=>exact⟨_,(show h.get? a=some _ from x)⟩
 |met f y=>exact⟨_,(show h.get? a=some _ from x)⟩
 |ext φ=>let⟨_,e,_⟩:=x;exact e
section
variable{X:Cx}{Z:A0<|A7×Obj}{O:St}{H:Hp}{s:A5}{h':Heap}
def Inv.laidN{o:HO}{t':Nat}(I:Inv X Z O H s)(k:∀b u,s.heap.get? b=some u->h'.get? b=some u)(j:s.heap.get? a=none)(new:zAg X.prog X.w (upd H a o) h' a o) :
  H a=none/\Inv X Z O (upd H a o) {s with heap:=h',toks:=t'}:=by
 have d:H a=none:=by
  cases q:H a with
  |none=>rfl
  |some u=>
   let⟨v,e⟩:=(I.hok a u q).there;rw[j] at e;cases e
 refine⟨d,I.un ⟨λb u q _ _ _=>k b u q,λb u q _ _ _=>⟨u.slots,k b u q⟩,λb u q n _=>?_,λb u q _=>⟨u,k b u q⟩,λb i q=>?_,λb u i q=>?_,λb l q=>⟨#[],?_⟩⟩ λb u e=>?_⟩
 .rw[bx λz=>by rw[z,j] at q;cases q];exact n
 .rw[bx<|cD q d];exact q
 .rw[bx<|cD q d];exact q
 .rw[bx<|cD q d,q,Array.append_empty]
 .by_cases hb:b=a
  .subst hb;rw[bz] at e;cases e;exact new
  .rw[bx hb] at e;exact(I.hok b u e).stay (λc v _ q=>k c v q) (λc q=>by rw[bx<|cD q d];exact q) λc i q=>by rw[bx<|cD q d];exact q
end
def zD8(C:A7):TE:=λ_ H Q=>∀e,H e=none->Q (.ref e) (upd H e<|XO C none e)
section
variable{X:Cx}{C:A7}{x:Str}{p pos:Pos}
def nS(M:W.excIn X.K C bmV "ValueError.__new__"=true)(l:W.keepIn X.K (.ref C)=true)(r:Gl X x)(n:X.mg x=some (.ref C))(c:(x==("__debug__":Str))=false:=by decide) :
  PE X (.Call (.Name x p) [] [] pos) (zD8 C):=by
 intro Z s O H Q I h;erw[<-wpAny_Call_Name_kw (eG I r n ?_ c),W.callWith_K0 I.kIn l];let⟨nm,q,N,bs,bm,hdct,sn,sub,ab,col,dd,k0,k1,k2,k3,k5,k,i,ok,j⟩:=oz M;have KX:X.K.In s.heap:=I.kIn;let⟨y,g,d,tk,v⟩:=s;refine wpAny_call_exc_subT (rest:=[]) PySem.F.excBase_ValueError (W.tail_of_in KX i) (KX _ _ k) (.of_isNs<|W.isNs_of_in KX ok) (W.nsMap_none_of_in KX ok j) (λh' e b=>?_)<|xBn _;let⟨t,ge,_⟩:=b.there;let⟨m,I2⟩:=Inv.laidN (a:=e) (o:=XO C none e) (t':=tk) I b.keeps b.new<|XO.ok ge;exact⟨.ref e,_,I2,rfl,h e m⟩
end
section
variable{M:Model}{A:Around}{E:A4->A5->Prop}{s:A5}{base:Heap}{env:Env}{outer:A0 Env}{L e:A7}{oe:Obj}{vs:Array A4}
structure zBe(h h':Heap)(fs no:A0 A7)(e T:A7)(fl:A4)(oe:Obj):Prop where
 new:h.objs.size<=T
 ent:∃oT ts,h'.get? T=some oT/\oT.data=.fields ts/\ts[3]?=some fl
 exc:h'.get? e=some (Obj.mapFields (·.setIfInBounds 1 (.ref T)) oe)
 keep:∀b o,b≠e->b∉fs->b∉no->h.get? b=some o->h'.get? b=some o
 frs:∀b o,b∈fs->h.get? b=some o->∃sl,h'.get? b=some {o with slots:=sl}
def gH{head:A4}{y:A8}(j:A.frames=some (env::outer))(m:s.heap.FunFrames base<|env::outer)(F:env.frame=some L)(n:s.heap.get? e=some oe)(hd:oe.data=.fields vs)(hsz:1<vs.size)(h:∀h' T,zBe s.heap h' (frs<|env::outer) [] e T (rawInt L) oe->Q Unit.unit {s with heap:=h'}) :
  wpAny M A (do let a <- frameOf env;let pl <- entryPlaceOf L y;let b <- EntryCells.newEntry head a .none (rawInt L) .none pl;setField (.ref e) 1 b) Q E s:=by
 have d:e∉frs (env::outer):=λB=>by
  let⟨_,o,x,i⟩:=m.mem B;cases n.symm.trans x;exact i vs hd
 refine xAd (wpAny_frameOf_fun j m F λc so=>xAd<|wpAny_entryPlaceOf λpl hpl=>?_);unfold EntryCells.newEntry newFields;refine xAd<|xBl ?_<|hpl.sizeOk5 _ _ _ _ _;dsimp only;generalize hO:({cls:=.type "traceback",dict:=none,data:=.fields ([head,Value.ref L,Value.none,rawInt L,Value.none]++(if pl.isEmpty then List.replicate 6 Value.none else pl)).toArray}:Obj)=ob;have r:c.get? e=some oe:=(so.2.1 e d).trans n;have p:(c.push ob).get? e=some oe:=xAf ob r;have v:c.objs.size≠e:=Nat.ne_of_gt<|xA1 r;have k:ob.isFreed=false:=by rw[<- hO];rfl
 have G:(c.push ob).get? c.objs.size=some ob:=Heap.get?_push_at rfl k;refine wpAny_setField p hd hsz<|h _ c.objs.size ⟨by rw[so.1];exact xAg _,⟨ob,_,(xA6 _ _<|Ne.symm v).trans G,by rw[<- hO],?_⟩,xA7 _ p<|Obj.isFreed_of_fields<|Obj.data_mapFields hd _,λb o I l _ q=>?_,λb o l q=>?_⟩
 .rcases hpl with rfl|⟨_,_,_,_,_,_,_,rfl⟩ <;> simp
 .exact(xA6 _ _<|Ne.symm I).trans<|xAf ob<|(so.2.1 b l).trans q
 .let⟨t,z⟩:=so.2.2 b o q;exact⟨t,(xA6 _ _ λ(w:e=b)=>d<|by rw[w];exact l).trans<|xAf ob z⟩
def jD(b:A.frames=some (env::outer))(j:s.heap.FunFrames base<|env::outer)(c:env.frame=some L)(d:s.heap.get? e=some oe)(hd:oe.data=.fields vs)(i:vs[1]?=some .none)(h:∀h' T,zBe s.heap h' (frs<|env::outer) [] e T (rawInt L) oe->Q Unit.unit {s with heap:=h'}):wpAny M A (noteFrame (.ref e) env) Q E s:=by
 unfold noteFrame;rw[c];refine xAd<|xDa d hd i ?_;rw[xCf ∅];exact gH b j c d hd (xB7.mp i).1 h
def gv{T0:A7}{r:Obj}{t0:Array A4}(p:A.frames=some (env::outer))(v:s.heap.FunFrames base<|env::outer)(x:env.frame=some L)(y:s.heap.get? e=some oe)(hd:oe.data=.fields vs)(F:vs[1]?=some (.ref T0))(j:s.heap.get? T0=some r)(d:r.data=.fields t0)(B:t0[3]?=some .none)(l:T0≠e)(h:∀h' T,zBe s.heap h' (frs<|env::outer) [T0] e T (rawInt L) oe->T0≠T->Q Unit.unit {s with heap:=h'}):wpAny M A (noteFrame (.ref e) env) Q E s:=by
 have c:∀b,b≠T0->(s.heap.update T0 (Obj.mapFields (·.setIfInBounds 3 Value.none))).get? b=s.heap.get? b:=λb I=>xA6 _ _<|Ne.symm I;have plain:∀b o,s.heap.get? b=some o->(∀G,o.data≠.fields G)->b≠T0:=λb o q i z=>by
  rw[z] at q;cases j.symm.trans q;exact i t0 d
 have m:(s.heap.update T0 (Obj.mapFields (·.setIfInBounds 3 Value.none))).FunFrames base<|env::outer:=v.of_keeps λb o q i=>⟨o,(c b<|plain b o q i).trans q,rfl⟩
 unfold noteFrame;rw[x];refine xAd<|xDa y hd F ?_;rw[xCg<|show(Value.ref T0 != Value.none)=true by simp];refine xAd<|xDa j d B ?_;rw[xCf<|show ¬ (Value.none==rawInt L)=true by simp[rawInt]];erw[<-xAd<|wpAny_setField j d (xB7.mp B).1 ?_,<-gH (s:={s with heap:=s.heap.update T0 (Obj.mapFields (·.setIfInBounds 3 Value.none))}) p m x ((c e<|Ne.symm l).trans y) hd (xB7.mp F).1 λh' T n=>?_];have sz:(s.heap.update T0 (Obj.mapFields (·.setIfInBounds 3 Value.none))).objs.size=s.heap.objs.size:=by simp
 have t:s.heap.objs.size<=T:=sz▸n.new;refine h h' T ⟨t,n.ent,n.exc,λb o K k J q=>n.keep b o K k ⋯<|(c b<|by simpa using J).trans q,λb o k q=>?_⟩<|xA0<|xBc (xA1 j) t;let⟨_,N,go,i⟩:=v.mem k;cases q.symm.trans go;exact n.frs b o k<|(c b<|plain b o q i).trans q
def ig{fs no:A0 A7}{fl:A4}(n:zBe h s.heap fs no e T fl oe)(hd:oe.data=.fields vs)(hsz:1<vs.size)(F:∀b o,b∈fs->h.get? b=some o->b<h.objs.size)(r:T≠e)(k:∀h',zBe h h' fs no e T .none oe->Q Unit.unit {s with heap:=h'}):wpAny M A (setFlight (.ref e) none) Q E s:=by
 let⟨B,m,l,d,t⟩:=n.ent;have c:=Obj.data_mapFields hd (·.setIfInBounds 1 (Value.ref T));unfold setFlight;refine xAd<|xDa n.exc c (x:=.ref T) (by simp[hsz]) ?_;rw[xCg<|show(Value.ref T != Value.none)=true by simp];have j:3<m.size:=(xB7.mp t).1;have lo:∀b o,h.get? b=some o->T≠b:=λb o q=>Nat.ne_of_gt<|xBc (xA1 q) n.new;refine wpAny_setField l d j<|k _ ⟨n.new,⟨_,_,xA7 _ l<|Obj.isFreed_of_fields<|Obj.data_mapFields d _,Obj.data_mapFields d _,?_⟩,(xA6 _ _ r).trans n.exc,λb o y i v q=>(xA6 _ _<|lo b o q).trans<|n.keep b o y i v q,λb o i q=>?_⟩
 .simp[j]
 .let⟨p,z⟩:=n.frs b o i q;exact⟨p,(xA6 _ _<|lo b o q).trans z⟩
end
noncomputable abbrev zGe(C t T:A7)(dx:A3 A7):Obj:={cls:=.ref C,dict:=dx,data:=.fields #[.ref t,.ref T,.none,.none,.bool false,.none]}
noncomputable def XF(C:A7)(dx:A3 A7)(e T:A7):HO:=.ext λh=>∃t,h.get? e=some (zGe C t T dx)
def XF.ok{e t:A7}(g:h.get? e=some (zGe C t T dx)):zAg P w H h e<|XF C dx e T:=
 ⟨⟨t,g⟩,⟨_,g⟩,λ_ _ ⟨b,c⟩ k=>⟨b,k _ c⟩⟩
noncomputable def del(H:Hp)(e:A7):Hp:=λb=>if b=e then none else H b
def gL{e:A7}:del H e e=none:=xCg rfl
def i8{e b:A7}(h:b≠e):del H e b=H b:=xCf h
def lr{e:A7}{o:HO}:upd (del H e) e o=upd H e o:=by
 funext b
 by_cases z:b=e
 .rw[z,bz,bz]
 .rw[bx z,bx z,i8 z]
structure TB(T:A7)(h0 h:Heap)(H:Hp):Prop where
 ent:∃oT ts,h.get? T=some oT/\oT.data=.fields ts/\ts[3]?=some .none
 old:h0.get? T=none
 un:H T=none
def CXo(P:Program)(w:World):CXT:=λb H s E d c=>∃(e C T:A7) (dx:A3 A7) (H':Hp),d=.ref e/\H' e=none/\T≠e/\TB T s.heap c.heap H'/\c.os=s.os/\AllBare c.gens /\
 Un (frs b) [] H (upd H' e<|XF C dx e T) s.heap c.heap/\HOk P w (upd H' e<|XF C dx e T) c.heap/\E (.ref C) dx H'
def dY{fs no:A0 A7}{e:A7}{fl:A4}{φ:Heap->Prop}{o:HO}(k:HOk P w H h)(m:∀b∈fs,H b=none)(l:∀b∈no,H b=none)(d:H e=some (.ext φ))(n:zBe h h' fs no e T fl oe)(x:zAg P w (upd H e o) h' e o):Un fs no H (upd H e o) h h'/\HOk P w (upd H e o) h':=by
 have ne:∀b,H b=none->b≠e:=λb z y=>by rw[y,d] at z;cases z
 have i:∀b u,H b=some u->b∉fs/\b∉no:=λb u q=>⟨(λz=>by rw[m b z] at q;cases q),(λz=>by rw[l b z] at q;cases q)⟩
 refine⟨⟨λb u q z r p=>n.keep b u (ne b z) r p q,λb u q z r _=>n.frs b u r q,λb u q z _=>by rw[bx<|ne b z];exact z,λb u q p=>?_,λb t q=>?_,λb u v q=>?_,λb F q=>⟨#[],?_⟩⟩,λb u q=>?_⟩
 .by_cases be:b=e
  .rw[be];exact⟨_,n.exc⟩
  .by_cases bf:b∈fs
   .let⟨E,z⟩:=n.frs b u bf q;exact⟨_,z⟩
   .exact⟨u,n.keep b u be bf p q⟩
 .rw[bx<|gw q d<|by intro z;cases z];exact q
 .rw[bx<|gw q d<|by intro z;cases z];exact q
 .rw[bx (gw q d<|by intro z;cases z),q,Array.append_empty]
 .by_cases be:b=e
  .subst be;rw[bz] at q;cases q;exact x
  .rw[bx be] at q;refine(k b u q).stay (λc v B j=>?_) (λc z=>?_) λc t z=>?_
   .rcases B with z|z
    .rw[z] at j⊢;exact n.keep b v be (i b u q).1 (i b u q).2 j
    .exact n.keep c v (gw z d<|by intro y;cases y) (i c _ z).1 (i c _ z).2 j
   .rw[bx<|gw z d<|by intro y;cases y];exact z
   .rw[bx<|gw z d<|by intro y;cases y];exact z
def Un.strip{fs:A0 A7}(u:Un fs [T] H H' h h')(z:h.get? T=none):Un fs [] H H' h h':=by
 have ne:∀b o,h.get? b=some o->b∉[T]:=λb o q y=>by
  have d:b=T:=by simpa using y
  rw[d,z] at q;cases q
 exact⟨λb o q n c _=>u.keep b o q n c<|ne b o q,λb o q n c _=>u.slot b o q n c<|ne b o q,λb o q n _=>u.free b o q n<|ne b o q,λb o q _=>u.there b o q<|ne b o q,u.tups,u.frzs,u.tbls⟩
def Un.wide{fs:A0 A7}(u:Un fs [] H H' h h'):Un fs [T] H H' h h':=
 ⟨λb o q n c _=>u.keep b o q n c ⋯,λb o q n c _=>u.slot b o q n c ⋯,λb o q n _=>u.free b o q n ⋯,λb o q _=>u.there b o q ⋯,u.tups,u.frzs,u.tbls⟩
section
variable{X:Cx}{Z:A0<|A7×Obj}{O:St}{H:Hp}{s s1:A5}{E':A4->A5->Prop}{Q:Unit->A5->Prop}
def rise{e:A7}(I:Inv X Z O H s)(d:X.stack=X.env::X.outer)(y:X.env.frame=some X.env.locals)(m:H e=some (XO C dx e))(k:∀i T,Inv X Z O (upd H e<|XF C dx e T) i->T≠e->TB T X.s₀.heap i.heap (del H e)->Q Unit.unit i) :
  wpAny (model X.prog X.w) X.A (noteFrame (.ref e) X.env) (λ_ v=>wpAny (model X.prog X.w) X.A (setFlight (.ref e) none) Q E' v) E' s:=by
 let⟨⟨t,ge⟩,_,_⟩:=(show zAg X.prog X.w H s.heap e (XO C dx e) from I.hok e _ m)
 have j:X.A.frames=some (X.env::X.outer):=d▸I.ok.frames;have x:s.heap.FunFrames X.base<|X.env::X.outer:=d▸I.stack;refine jD j x y ge rfl rfl λE T n=>?_;have Te:T≠e:=Nat.ne_of_gt<|xBc (xA1 ge) n.new;refine ig (s:={s with heap:=E}) n rfl ⋯ (λb o _ q=>xA1 q) Te λp c=>?_;have l:∀b∈frs (X.env::X.outer),H b=none:=λb B=>I.stkFree b (by rw[d];exact B);let⟨u,ok⟩:=dY (o:=XF C dx e T) I.hok l (λb z=>absurd z ⋯) m c<|XF.ok (t:=t) c.exc;have r:Un (frs X.stack) [] H (upd H e<|XF C dx e T) s.heap p:=by rw[d];exact u
 refine k {s with heap:=p} T (I.call (g':=s.gens) (t':=s.toks) (d':=s.drawn) (ch:=[]) r ok I.bare λb z=>absurd z ⋯) Te ⟨c.ent,Heap.get?_none_of_le<|xCk I.sz c.new,?_⟩;rw[i8 Te];exact I.hok.fresh c.new
def land{Ex:XK}{v:A4}(I:Inv X Z O H s)(r:X.stack=X.env::X.outer)(hf:X.env.frame=some X.env.locals)(F:CXo X.prog X.w X.stack H s Ex v s1)(k:∀x (e C T:A7) (dx:A3 A7) (H':Hp),v=.ref e->H' e=none->Inv X Z O (upd H' e<|XF C dx e T) x->T≠e->TB T X.s₀.heap x.heap H'->Ex (.ref C) dx H'->Q Unit.unit x) :
  wpAny (model X.prog X.w) X.A (noteFrame v X.env) (λ_ W=>wpAny (model X.prog X.w) X.A (setFlight v none) Q E' W) E' s1:=by
 let⟨e,C,T0,dx,H',rfl,hn,Te0,tb,Y,i,un,d,q⟩:=F;let⟨c,m,p,t1,y⟩:=s1;obtain rfl:y=s.os:=Y;have I1:Inv X Z O (upd H' e<|XF C dx e T0) {s with heap:=c,gens:=m,drawn:=p,toks:=t1}:=I.call (ch:=[]) un d i (λb z=>absurd z ⋯);have l:upd H' e (XF C dx e T0) e=some (XF C dx e T0):=bz;let⟨⟨t,ge⟩,_,_⟩:=(show zAg X.prog X.w (upd H' e<|XF C dx e T0) c e (XF C dx e T0) from d e _ l)
 let⟨oT,ts,N,L,K⟩:=tb.ent;have E:X.A.frames=some (X.env::X.outer):=r▸I.ok.frames;have hl:c.FunFrames X.base<|X.env::X.outer:=r▸I1.stack;refine gv (s:={s with heap:=c,gens:=m,drawn:=p,toks:=t1}) E hl hf ge rfl rfl N L K Te0 λh1 T n nT=>?_;have Te:T≠e:=Nat.ne_of_gt<|xBc (xA1 ge) n.new;refine ig (s:={s with heap:=h1,gens:=m,drawn:=p,toks:=t1}) n rfl ⋯ (λb o _ q=>xA1 q) Te λG j=>?_;have J:∀b∈frs (X.env::X.outer),upd H' e (XF C dx e T0) b=none:=λb i=>I1.stkFree b (by rw[r];exact i);have B:∀b∈[T0],upd H' e (XF C dx e T0) b=none:=λb i=>by
  have:b=T0:=by simpa using i
  rw[this,bx Te0];exact tb.un
 let⟨u,ok⟩:=dY (o:=XF C dx e T) d J B l j<|XF.ok (t:=t) j.exc;rw[f9] at u ok;have S:Un (frs X.stack) [T0] (upd H' e<|XF C dx e T0) (upd H' e<|XF C dx e T) c G:=by rw[r];exact u
 have R:Un (frs X.stack) [] H (upd H' e<|XF C dx e T) s.heap G:=(un.wide.trans S).strip tb.old;refine k {s with heap:=G,gens:=m,drawn:=p,toks:=t1} e C T dx H' rfl hn (I.call (g':=m) (t':=t1) (d':=p) (ch:=[]) R ok i λb z=>absurd z ⋯) Te ⟨j.ent,Heap.get?_none_of_le<|xCk I1.sz j.new,?_⟩ q;have:=d.fresh j.new;rw[bx Te] at this;exact this
end
def Xe(X:Cx)(Lk:A4->A5->Prop):Prop:=∀(b:A4)(c:A5),(∀E':A4->A5->Prop,wpAny (model X.prog X.w) X.A (noteFrame b X.env) (λ_ e=>wpAny (model X.prog X.w) X.A (setFlight b none) (λ_ d=>Lk b d) E' e) E' c)->X.xe b c
def zHq(X:Cx)(Lk:A4->A5->Prop)(Ex:St->XK):Prop:=∀(Z:A0<|A7×Obj)(O:St)(e C T:A7)(dx:A3 A7)(H':Hp)(b:A5),Inv X Z O (upd H' e<|XF C dx e T) b->H' e=none->T≠e->TB T X.s₀.heap b.heap H'->Ex O (.ref C) dx H'->Lk (.ref e) b
structure zAo(X:Cx)(Ex:St->XK):Prop where
 hs:X.stack=X.env::X.outer
 hf:X.env.frame=some X.env.locals
 ex:∃Lk,Xe X Lk/\zHq X Lk Ex
def zA3(CX:CXT)(X:Cx)(Ex:St->XK):Prop:=∀(Z:A0<|A7×Obj)(O:St)(H:Hp)(s:A5)(c:A4)(b:A5),Inv X Z O H s->CX X.stack H s (Ex O) c b->X.xe c b
section
variable{X:Cx}{Ex:St->XK}
def zAo.pass(c:zAo X Ex):zA3 (CXo X.prog X.w) X Ex:=by
 let⟨Lk,b,j⟩:=c.ex;intro Z O H s l i I F;refine b l i λE'=>land I c.hs c.hf F λd e C T dx H' m k I2 Te tb q=>?_;subst m;exact j Z O e C T dx H' d I2 k Te tb q
def zAo.rises(c:zAo X Ex){e:A7}(I:Inv X Z O H s)(j:H e=some (XO C dx e))(q:Ex O (.ref C) dx<|del H e):X.xe (.ref e) s:=by
 let⟨Lk,b,i⟩:=c.ex;exact b _ s λE'=>rise I c.hs c.hf j λd T I2 Te tb=>i Z O e C T dx (del H e) d (by rw[lr];exact I2) gL Te tb q
end
section
variable{P:Program}{w:World}{K:xFr}{mg:Str->A3 A4}{base:Heap}{N:A9}{qual:Str}{scope:Scope}{f:A7}{cd:A4}{A:Around}{outer:A0 Env}{s:A5}{H:Hp}{E:XK}
def gN:zAo (zD2 (CXo P w) P w K mg base N qual scope f cd A outer s H E) (λ_=>E) where
 hs:=rfl
 hf:=rfl
 ex:=by
  refine⟨λb c=>CXo P w outer H s E b c,λb d h=>?_,λZ O e C T dx H' j I i Te tb q=>⟨e,C,T,dx,H',rfl,i,Te,tb,I.os,I.bare,I.base,I.hok,q⟩⟩;change wpAny _ _ (leaving _ b) _ _ d;unfold leaving;exact xAd<|h _
end
def zCu(e:A7)(h:Heap):Prop:=∃nm q C N bs bm hdct sn sub ab col dd k0 k1 k2 k3 k5 newId t dx,h.get? C=some (excClassObj nm q C N bs bm hdct sn sub ab col dd k0 k1 k2 k3 k5 newId)/\bm.contains (.type "BaseException")=true/\h.get? e=some (zDi C t dx)
def kr{E:A4->A5->Prop}{env:Env}{x:Sem A4}{Q:Flow->A5->Prop}(i:A.handled=none)(h:wpAny M A x (λv b=>∃e,v=.ref e/\zCu e b.heap/\E (.ref e) b) E s) :
  wpAny M A (raiseStmt env (some x) none) Q E s:=by
 unfold raiseStmt;refine xAd (wpAny_mono h (λv b z=>?_) λ_ _ y=>y);let⟨e,rfl,⟨nm,q,C,N,bs,bm,hdct,sn,sub,ab,col,dd,k0,k1,k2,k3,k5,newId,t,dx,c,k,ge⟩,hE⟩:=z;have j:(Value.ref C::bm).contains (.type "BaseException")=true:=by rw[List.contains_cons,k,Bool.or_true]
 let⟨m,g,d,tk,l⟩:=b;repeat (first|with_reducible refine wpAny_loadPart_at ge ?_|with_reducible refine wpAny_loadPart_at c ?_|(with_reducible refine wpAny_isSubtype_exc c ?_;rw[j])|wp_step)
 exact wpAny_raiseNew_none i hE
theorem fK{K:xFr}:∀{l:B4},W.tailIn K bmV l=true->l.contains (.type "BaseException")=true
 |[],e=>by cases e
 |v::r,e=>by
  unfold W.tailIn at e;rcases Bool.or_eq_true_iff.mp e with q|q
  .rw[beq_iff_eq.mp q];rfl
  .split at q
   .split at q
    .simp only[xCh] at q;rw[List.contains_cons,fK q.2,Bool.or_true]
    .cases q
   .cases q
def zEy(K:xFr)(te:TE)(Ex:St->XK):TS:=λ_ O H=>te O H λv H1=>∃e C dx,v=.ref e/\H1 e=some (XO C dx e)/\zC3 K C=true/\Ex O (.ref C) dx (del H1 e)
def zDa(sp:Sp)(b:B3)(Ex:St->XK)(t:TA):TE:=λO H Q=>t O H λc H1=>sp (c++b) H1 Q<|Ex O
def zC8(C:A7)(m:Str)(sp:Sp)(b:B3)(Ex:St->XK)(d:TE)(t:TA):TE:=λO H Q=>d O H λx H1=>∃a dx fs,x=.ref a/\H1 a=some (.ins C dx fs)/\fs.lookup m=none /\
 t O H1 λc H2=>sp (x::(c++b)) H2 Q<|Ex O
section
variable{X:Cx}{CX:CXT}{k:Nat}{f C:A7}{fd:FuncData}{ps:A9}{sp:Sp}{dvs:B3}{ds:B4}{Ex:St->XK}{x m:Str}{p pos apos:Pos}{e o:A6}{es:A0 A6}{ta:TE}{t:TA}
theorem gc{Q:VK}{us:B4}{vs:B3}(F:zA9 X.prog X.w X.K X.mg X.base CX k f fd ps sp)(i:zBc k X.A)(l:zAy X.K fd ps ds)(hd:zAk dvs ds)(d:zA3 CX X Ex)(I:Inv X Z O H s)(r:zAk vs us)(h:sp (vs++dvs) H Q<|Ex O):wpAny (model X.prog X.w) X.A (call (.ref f) us) (EP X Z O Q) X.xe s:=by
 have r2:zAk (vs++dvs)<|us++ds:=r.append hd;have j:(us++ds).length=ps.length:=by rw[<- r2.length];exact F.len _ _ _ _ h
 refine wpAny_call (codeAny_mono (F.run X.A X.stack s H ⟨us,[]⟩ (us++ds) (vs++dvs) Q (Ex O) i I.env0 (l s us I.kIn j) r2 h) λr c b=>?_);cases r with
 |error e=>exact d Z O H s e c I b
 |ok fl=>
  cases fl with
  |ret u=>exact I.after b
  |next=>exact False.elim b
  |brk=>exact False.elim b
  |cont=>exact False.elim b
def qo(F:zA9 X.prog X.w X.K X.mg X.base CX k f fd ps sp)(i:zBc k X.A)(n:Gl X x)(j:X.mg x=some (.ref f))(l:W.keepIn X.K (.ref f)=true)(y:zAy X.K fd ps ds)(hd:zAk dvs ds)(d:zA3 CX X Ex)(B:PA X (e::es) t)(c:(x==("__debug__":Str))=false:=by decide)(v:starEach (e::es) X.env=(false,eval e X.env)::starEach es X.env:=by rfl)(b:(backTo pos<|starEach es X.env).any (·.1)=false:=by rfl) :
  PE X (.Call (.Name x p) (e::es) [] pos) (zDa sp dvs Ex t):=by
 intro Z s O H Q I h;erw[<-wpAny_Call_Name_kw (eG I n j ?_ c),<-W.callWith_K (h₀:=X.base) I.ok.mod.kin l (thn (B pos Z s O H _ I h) λus G ⟨E,H1,I1,r,q⟩=>⟨I1.kIn,?_⟩) v b,<-gc F i y hd d I1 r q]
def nV(F:zA9 X.prog X.w X.K X.mg X.base CX k f fd ps sp)(d:zBc k X.A)(l:Gl X x)(i:X.mg x=some (.ref f))(j:W.keepIn X.K (.ref f)=true)(n:zAy X.K fd ps ds)(hd:zAk dvs ds)(c:zA3 CX X Ex)(b:(x==("__debug__":Str))=false:=by decide):PE X (.Call (.Name x p) [] [] pos)<|zDa sp dvs Ex zF7:=by
 intro Z s O H Q I h;refine wpAny_Call_Name_kw (eG I l i ?_ b);exact W.callWith_K0 I.kIn j (gc (us:=[]) F d n hd c I .nil h)
def qg{pl:Sem A8}(G:PE X o ta)(c:Cls X.K C)(i:zEp X.K C m f)(F:zA9 X.prog X.w X.K X.mg X.base CX k f fd ps sp)(E:zBc k X.A)(J:zAy X.K fd ps ds)(hd:zAk dvs ds)(y:zA3 CX X Ex)(L:PA X (e::es) t)(b:starEach (e::es) X.env=(false,eval e X.env)::starEach es X.env:=by rfl)(d:(backTo pos<|starEach es X.env).any (·.1)=false:=by rfl)(B:eval (.Call (.Attribute o m apos) (e::es) [] pos) X.env=(do
   let ov <- eval o X.env
   standAt apos.atName
   let (f,first) <- holding [ov] (getMethod ov m pl)
   callWith pos f first (backTo pos<|starEach (e::es) X.env) (backToKw pos<|keywordEach [] X.env)):=by rfl) :
  PE X (.Call (.Attribute o m apos) (e::es) [] pos) (zC8 C m sp dvs Ex ta t):=by
 intro Z s O H Q I h;refine W.methodCall_KW (pl:=pl) (thn (G Z s O H _ I h) λu j ⟨x,H1,I1,n,a,dx,fs,N,R,l,q⟩=>?_) B;subst N;obtain rfl:u=Value.ref a:=n;erw[gF I1 R c i l,<-W.callWith_K (first:=[.ref a]) (h₀:=X.base) I.ok.mod.kin i.kp (thn (L pos Z j O H1 _ I1 q) λus S ⟨vs,H2,I2,r,v⟩=>⟨I2.kIn,?_⟩) b d,<-gc (us:=.ref a::us) (vs:=.ref a::vs) F E J hd y I2 (.cons rfl r) v]
def nR{pl:Sem A8}(r:PE X o ta)(c:Cls X.K C)(b:zEp X.K C m f)(F:zA9 X.prog X.w X.K X.mg X.base CX k f fd ps sp)(n:zBc k X.A)(v:zAy X.K fd ps ds)(hd:zAk dvs ds)(i:zA3 CX X Ex)(j:eval (.Call (.Attribute o m apos) [] [] pos) X.env=(do
   let ov <- eval o X.env
   standAt apos.atName
   let (f,first) <- holding [ov] (getMethod ov m pl)
   callWith pos f first (backTo pos<|starEach [] X.env) (backToKw pos<|keywordEach [] X.env)):=by rfl) :
  PE X (.Call (.Attribute o m apos) [] [] pos) (zC8 C m sp dvs Ex ta zF7):=by
 intro Z s O H Q I h;refine W.methodCall_KW (pl:=pl) (thn (r Z s O H _ I h) λu E ⟨x,H1,I1,d,a,dx,fs,y,B,l,q⟩=>?_) j;subst y;obtain rfl:u=Value.ref a:=d;erw[gF I1 B c b l,<-W.callWith_K0 (first:=[.ref a]) I1.kIn b.kp<|gc (us:=[.ref a]) (vs:=[.ref a]) F n v hd i I1 (.cons rfl .nil) q]
end
noncomputable def Cx.trial(X:Cx)(Z:A0<|A7×Obj)(E:A4->A5->Prop):Cx:={X with xe:=E,pn:=X.pn++Z}
noncomputable def Cx.suite(X:Cx)(e:A7):Cx:={X with A:=X.A.mark<|some<|.ref e,calm:=false,xe:=λ_ _=>False}
section
variable{X:Cx}{Z pins':A0<|A7×Obj}{O:St}{H:Hp}{s:A5}{E:A4->A5->Prop}{e:A7}
theorem Cx.Ok.trial(ok:X.Ok):(X.trial Z E).Ok:=⟨ok.mod,ok.kind,ok.glob,ok.blt,ok.above,ok.inj,ok.has,ok.cab,ok.hd,ok.frames,ok.stk,ok.exf,ok.bs,ok.bsz,ok.noex,ok.exfs,ok.funs,ok.frf⟩
theorem Cx.Ok.suite(ok:X.Ok):(X.suite e).Ok:=⟨ok.mod,ok.kind,ok.glob,ok.blt,ok.above,ok.inj,ok.has,ok.cab,(λz=>nomatch z),ok.frames,ok.stk,ok.exf,ok.bs,ok.bsz,ok.noex,ok.exfs,ok.funs,ok.frf⟩
theorem Inv.trial(I:Inv X Z O H s):Inv (X.trial Z E) [] O H s:=⟨I.ok.trial,I.os,I.bare,I.base,I.loc,I.cell,I.free,I.freeC,λp b=>I.pin p (by rw[xB0] at b;exact b),I.hok,I.len⟩
def Inv.untrial(ok:X.Ok)(I:Inv (X.trial Z E) pins' O H s):Inv X Z O H s:=⟨ok,I.os,I.bare,I.base,I.loc,I.cell,I.free,I.freeC,λp b=>I.pin p<|xBw _ b,I.hok,I.len⟩
theorem Inv.suite(I:Inv X Z O H s):Inv (X.suite e) Z O H s:=⟨I.ok.suite,I.os,I.bare,I.base,I.loc,I.cell,I.free,I.freeC,I.pin,I.hok,I.len⟩
def Inv.unsuite(ok:X.Ok)(I:Inv (X.suite e) Z O H s):Inv X Z O H s:=⟨ok,I.os,I.bare,I.base,I.loc,I.cell,I.free,I.freeC,I.pin,I.hok,I.len⟩
theorem SP.untrial{D:zDw}{f:Flow}(ok:X.Ok)(h:SP (X.trial Z E) pins' D f s):SP X Z D f s:=by
 cases f with
 |next=>let⟨O',H',I,q⟩:=h;exact⟨O',H',I.untrial ok,q⟩
 |brk=>let⟨O',H',I,q⟩:=h;exact⟨O',H',I.untrial ok,q⟩
 |cont=>let⟨O',H',I,q⟩:=h;exact⟨O',H',I.untrial ok,q⟩
 |ret u=>let⟨v,O',H',I,r,q⟩:=h;exact⟨v,O',H',I.untrial ok,r,q⟩
end
def oy{E:A4->A5->Prop}{g:Array GenState}{d:Drawn}{t:Nat}{v:OsState}{e:A7}{Q:A8->A5->Prop}{nm:Str}{N:A7}{bs bm:B4}{n B:Str}{N':A7}{p i:B4}{c:A8}{m:A9}{j:B4}{r:A8}{l:A3 A8}{o:A3 A7}{K J I G F:A3 A4}{newId':String}(W:h.get? C=some (excClassObj nm q C N bs bm hdct sn sub ab col dd k0 k1 k2 k3 k5 newId))(y:h.get? D=some (excClassObj n B D N' p i c m j r l o K J I G F newId'))(ge:h.get? e=some oe)(k:oe.cls=.ref C)(R:i.contains (.type "BaseException")=true){b:A8}(L:(Value.ref C::bm).contains (.ref D)=b)(x:Q b ⟨h,g,d,t,v⟩):wpAny M A (excMatches (.ref e)<|.ref D) Q E ⟨h,g,d,t,v⟩:=by
 have S:(Value.ref D::i).contains (.type "BaseException")=true:=by rw[List.contains_cons,R,Bool.or_true]
 have f:=tc_notTuple;cases b <;> (unfold excMatches;repeat (first|(with_reducible refine wpAny_loadPart_at ge ?_;rw[k])|with_reducible refine wpAny_loadPart_at y ?_|(with_reducible refine wpAny_isSubtype_exc y ?_;rw[S])|(with_reducible refine wpAny_isSubtype_exc W ?_;rw[L])|wp_step))
 .exact x
 .exact x
def jS{E:A4->A5->Prop}{e t:A7}{v:Heap}(ge:s.heap.get? e=some (zGe C t T dx))(tb:TB T v s.heap H)(k:∀h',(∀b o,s.heap.get? b=some o->h'.get? b=some o)->Q Unit.unit {s with heap:=h'}):wpAny M A (setFlight (.ref e) none) Q E s:=by
 let⟨d,ts,l,j,n⟩:=tb.ent;have m:3<ts.size:=(xB7.mp n).1;unfold setFlight;refine xAd<|xDa ge rfl (x:=.ref T) rfl ?_;rw[xCg<|show(Value.ref T != Value.none)=true by simp];refine wpAny_setField l j m (k _ λb o q=>?_);by_cases bt:b=T
 .subst bt;cases l.symm.trans q;have r:ts.setIfInBounds 3 Value.none=ts:=by
   apply Array.ext_getElem?;intro i;rw[Array.getElem?_setIfInBounds];by_cases hi:3=i
   .subst hi;rw[xCg rfl,xCg m,n]
   .rw[xCf hi]
  have:Obj.mapFields (·.setIfInBounds 3 Value.none) d=d:=by
   let⟨c,dd,B,p⟩:=d;dsimp only at j;subst j;show({cls:=c,dict:=dd,data:=.fields<|ts.setIfInBounds 3 Value.none,slots:=p}:Obj)=_;rw[r]
  have y:d.isFreed=false:=Obj.isFreed_of_fields j;erw[(xA7 (Obj.mapFields (·.setIfInBounds 3 Value.none)) l<|by rw[this];exact y).trans];rw[this]
 .exact(xA6 _ _<|Ne.symm bt).trans q
def zB5(K:xFr)(C D:A7):Prop:=zC3 K C=true/\zC3 K D=true/\W.mroIn K C (.ref D)=some true
def zJa(K:xFr)(Dc:A7)(tb:(St->XK)->TS)(ts:TS):TS:=λD O H=>
 tb (λσ1 b dx H'=>∃C,b=.ref C/\zB5 K C Dc/\∀e T,H' e=none->ts D σ1 (upd H' e<|XF C dx e T)) D O H
section
variable{X:Cx}{Dc:A7}{i:Nat}{tb:(St->XK)->TS}{ts:TS}{body suite:A0 Stmt}{b0:Stmt}{x n:Str}{np hpos pos:Pos}
def tY{K:xFr}{nm:Str}{N:A7}{bs bm:B4}(b:K.lookup C=some (excClassObj nm q C N bs bm hdct sn sub ab col dd k0 k1 k2 k3 k5 newId))(h:W.mroIn K C (.ref D)=some true):(Value.ref C::bm).contains (.ref D)=true:=by
 unfold W.mroIn W.clsIn at h;rw[b] at h;simpa using h
def lh{e:A7}{R:Result->A5->Prop}(I:Inv X Z O H s)(F:H e=some (XF C dx e T))(bl:zB5 X.K C Dc)(E:Gl X x)(B:X.mg x=some (.ref Dc))(l:(x==("__debug__":Str))=false)(k:R (.ok .brk) s):codeAny (model X.prog X.w) (X.A.mark<|some<|.ref e) (.handlers (.ref e) [.ExceptHandler (some<|.Name x np) none [] hpos] X.env) R s:=by
 refine codeAny_handlers_test<|eG (X:=X.suite e) I.suite E B ?_ l;let⟨L,J,G⟩:=bl;let⟨nm,qn,N,bs,bm,hdct,sn,sub,ab,col,dd,k0,k1,k2,k3,k5,o,tl⟩:=fI L;let⟨y,v,N',W,Y,j,r,m,ab',p,S,j0,j1,j2,j3,j5,c,b⟩:=fI J;let⟨⟨t,ge⟩,_,_⟩:=(show zAg X.prog X.w H s.heap e (XF C dx e T) from I.hok e _ F)
 have KX:=I.kIn;let⟨hp,g,d,tk,os⟩:=s;exact oy (KX _ _ o) (KX _ _ c) ge rfl (fK b) (tY o G) k
def wg(R:∀(Z:A0<|A7×Obj)(E':A4->A5->Prop)(Ex:St->XK),zAo (X.trial Z E') Ex->PSs (X.trial Z E') body (tb Ex))(F:∀e,PSs (X.suite e) (b0::suite) ts)(L:Gl X x)(J:X.mg x=some (.ref Dc))(o:X.stack=X.env::X.outer)(N:X.env.frame=some X.env.locals)(p:(x==("__debug__":Str))=false:=by decide) :
  PS X (.Try body [.ExceptHandler (some<|.Name x np) none (b0::suite) hpos] [] [] pos) (zJa X.K Dc tb ts):=by
 intro Z s O H D I h;refine wpAny_Try_except ?_;refine wpAny_mono (R Z (λc b=>wpAny (model X.prog X.w) X.A (noteFrame c X.env) (λ_ B=>wpAny (model X.prog X.w) X.A (setFlight c none) (λ_ l=>wpAny (model X.prog X.w) X.A (handleBy c X.env [.ExceptHandler (some<|.Name x np) none (b0::suite) hpos]) (SP X Z D) X.xe l) X.xe B) X.xe b) _
  ⟨o,N,λc l=>wpAny (model X.prog X.w) X.A (handleBy c X.env [.ExceptHandler (some<|.Name x np) none (b0::suite) hpos]) (SP X Z D) X.xe l,λc b z=>z X.xe,?_⟩ [] s O H D I.trial h) (λf b q=>?_) λc b z=>z
 .intro m σ1 e C T dx H' b I1 G Te k hx;let⟨C',S,bl,hx⟩:=hx;cases S;have I2:Inv X Z σ1 (upd H' e<|XF C dx e T) b:=I1.untrial I.ok;have y:upd H' e (XF C dx e T) e=some (XF C dx e T):=bz;let⟨⟨t,ge⟩,_,_⟩:=(show zAg X.prog X.w (upd H' e<|XF C dx e T) b.heap e (XF C dx e T) from I2.hok e _ y)
  erw[<-wpAny_handleBy_cons (lh I2 y bl L J p ?_) (by intro z;cases z),<-codeAny_handlers_suite (jS ge k λh' E=>?_)];have I3:Inv X Z σ1 (upd H' e<|XF C dx e T) {b with heap:=h'}:=I2.kept (t':=b.toks) E;refine wpAny_mono (F e Z _ _ _ D I3.suite<|hx e T G) (λf W d=>?_) λ_ _ z=>False.elim z;cases f with
  |next=>let⟨O',H5,I5,q⟩:=d;exact⟨_,H5,I5.unsuite I.ok,q⟩
  |brk=>let⟨O',H5,I5,q⟩:=d;exact⟨_,H5,I5.unsuite I.ok,q⟩
  |cont=>let⟨O',H5,I5,q⟩:=d;exact⟨_,H5,I5.unsuite I.ok,q⟩
  |ret u=>let⟨v,O',H5,I5,r,q⟩:=d;exact⟨v,_,H5,I5.unsuite I.ok,r,q⟩
 .have j:=SP.untrial I.ok q;cases f with
  |next=>exact wpAny_execs_nil j
  |brk=>exact j
  |cont=>exact j
  |ret u=>exact j
end
end L2
namespace L2
open PySem PySem.Spec PyProof.Rows
inductive Al(H:Hp):Nat->V->V->Prop where
 |flat {n:Nat} {x:V}:zBl x=true->Al H n x x
 |same {n:Nat} {a:Addr}:Al H n (.ref a) (.ref a)
 |tup {n:Nat} {a b:Addr} {xs ys:List V}:H a=some (.tup xs)->H b=some (.tup ys)->xs.length=ys.length->(∀(j:Nat)(x y:V),xs[j]?=some x->ys[j]?=some y->Al H n x y)->Al H (n+1) (.ref a) (.ref b)
 |lst {n:Nat} {a b:Addr} {xs ys:List V}:H a=some (.lst xs)->H b=some (.lst ys)->xs.length=ys.length->(∀(j:Nat)(x y:V),xs[j]?=some x->ys[j]?=some y->Al H n x y)->Al H (n+1) (.ref a) (.ref b)
theorem gm{P:Program}{w:World}{H:Hp}{s:A5}(i:HOk P w H s.heap){n:Nat}{x y:V}(h:Al H n x y):∀{A:Around}{u v:A4},zAi x u->zAi y v->A.units+n<cLine->SeqAt.EqAt A s u v true:=by
 induction h with
 |@flat n x f=>
  intro A u v r1 r2 _;have:=rC (A:=A) (s:=s) r1 r2 f f;rw[rl f] at this;exact this
 |@same n a=>
  intro A u v r1 r2 _;cases (show u=Value.ref a from r1);cases (show v=Value.ref a from r2);exact SeqAt.EqAt.same _
 |@tup n a b p m J I G _ B=>
  intro A u v r1 r2 M;cases (show u=Value.ref a from r1);cases (show v=Value.ref b from r2);by_cases hab:a=b
  .subst hab;exact SeqAt.EqAt.same _
  .let⟨_,d,l,t1⟩:=(show zAg P w H s.heap a (.tup p) from i a _ J)
   let⟨_,c,k,t2⟩:=(show zAg P w H s.heap b (.tup m) from i b _ I)
   have C:∀j (O:j<d.toArray.size) (N:j<c.toArray.size),SeqAt.EqAt A.in1 s d.toArray[j] c.toArray[j]<|(λ_=>true) j:=λj t r=>by
    let⟨q,L,E⟩:=cQ l t;let⟨o,K,D⟩:=cQ k r;exact B j q o L K E D (by show A.units+1+n<cLine;lia)
   erw[SeqAt.EqAt.of_refs hab];have:=SeqAt.RcAt.tuples (e:=λ_=>true) t1 t2 () C;have F:((List.range<|min d.toArray.size c.toArray.size).all (λ_=>true)&&d.toArray.size==c.toArray.size)=true:=by
    rw[xAp,xAp,<- l.length,<- k.length,G];simp
   rw[F] at this;exact this
 |@lst n a b p m J I G _ B=>
  intro A u v r1 r2 M;cases (show u=Value.ref a from r1);cases (show v=Value.ref b from r2);by_cases hab:a=b
  .subst hab;exact SeqAt.EqAt.same _
  .let⟨_,d,S,l,t1⟩:=(show zAg P w H s.heap a (.lst p) from i a _ J)
   let⟨_,c,R,k,t2⟩:=(show zAg P w H s.heap b (.lst m) from i b _ I)
   have C:∀j (O:j<d.toArray.size) (N:j<c.toArray.size),SeqAt.EqAt A.in1 s d.toArray[j] c.toArray[j]<|(λ_=>true) j:=λj t r=>by
    let⟨q,L,E⟩:=cQ l t;let⟨o,K,D⟩:=cQ k r;exact B j q o L K E D (by show A.units+1+n<cLine;lia)
   erw[SeqAt.EqAt.of_refs hab];have Q:d.toArray.size=c.toArray.size:=by rw[xAp,xAp,<- l.length,<- k.length,G]
   have:=SeqAt.RcAt.lists (e:=λ_=>true) ⟨_,t1,rfl,_,rfl⟩ ⟨_,t2,rfl,_,rfl⟩ Q () C;have F:(List.range d.toArray.size).all (λ_=>true)=true:=xCx.mpr λ_ _=>rfl;rw[F] at this;exact this
section
variable{X:Cx}
def rAl(b:A8):R2:=λx y H Q=>∃p q c a n,x=.ref p/\y=.ref q/\H p=some (.tup c)/\H q=some (.tup a)/\c.length=a.length/\n<=90/\(∀(j:Nat)(x y:V),c[j]?=some x->a[j]?=some y->Al H n x y)/\Q (.bl b) H
def tM(P:X.A.units+100<cLine):OpR X (compareOp .NotEq)<|rAl false:=by
 intro Z s O H x y v u Q I t r h;let⟨a,b,o,l,n,rfl,rfl,K,J,G,R,N,q⟩:=h;cases (show v=Value.ref a from t);cases (show u=Value.ref b from r);let⟨_,d,k,t1⟩:=(show zAg X.prog X.w H s.heap a (.tup o) from I.hok a _ K)
 let⟨_,c,i,t2⟩:=(show zAg X.prog X.w H s.heap b (.tup l) from I.hok b _ J)
 have D:∀j (T:j<d.toArray.size) (S:j<c.toArray.size),SeqAt.EqAt X.A.in1 s d.toArray[j] c.toArray[j]<|(λ_=>true) j:=λj C B=>by
  let⟨p,M,F⟩:=cQ k C;let⟨m,L,E⟩:=cQ i B;exact gm I.hok (N j p m M L) F E (by show X.A.units+1+n<cLine;lia)
 erw[(SeqAt.RcNeAt.tuples (e:=λ_=>true) t1 t2 () D) X.prog X.w X.xe _,ce I q];rw[xAp,xAp,<- k.length,<- i.length,G];simp
def tP(P:X.A.units+100<cLine):OpR X (compareOp .Eq)<|rAl true:=by
 intro Z s O H x y v u Q I t r h;let⟨a,b,o,l,n,rfl,rfl,K,J,G,R,N,q⟩:=h;cases (show v=Value.ref a from t);cases (show u=Value.ref b from r);let⟨_,d,k,t1⟩:=(show zAg X.prog X.w H s.heap a (.tup o) from I.hok a _ K)
 let⟨_,c,i,t2⟩:=(show zAg X.prog X.w H s.heap b (.tup l) from I.hok b _ J)
 have D:∀j (T:j<d.toArray.size) (S:j<c.toArray.size),SeqAt.EqAt X.A.in1 s d.toArray[j] c.toArray[j]<|(λ_=>true) j:=λj C B=>by
  let⟨p,M,F⟩:=cQ k C;let⟨m,L,E⟩:=cQ i B;exact gm I.hok (N j p m M L) F E (by show X.A.units+1+n<cLine;lia)
 erw[SeqAt.eq_tupleAt (e:=λ_=>true) t1 t2 () D,ce I q];rw[xAp,xAp,<- k.length,<- i.length,G];simp
end
end L2
namespace HT
open PySem PyProof.Rows
section
open PySem.SeqAt
open PySem.AutoSeq1 (wpAny_loadPart')
open PySem.MeetsSeq PySem.MeetsSeq2 PySem.MeetsSeq3
section
variable{prog:Program}{w:World}{A:Around}{E:A4->A5->Prop}{s:A5}
def getItem_tuple_all{t b:A7}{items:Array A4}{j i:A4}{lo hi:A3 Int}{Q:A4->A5->Prop}(a:IsTup s.heap t items)(l:s.heap.IsSliceOf b j i .none)(pl:IsPart j lo)(m:IsPart i hi)(k:sIx items.size 0 lo=0/\sIx items.size items.size hi=items.size)(h:Q (.ref t) s):wpAny (model prog w) A (getItem (.ref t)<|.ref b) Q E s:=by
 have p:sIx items.size items.size hi<=items.size:=pE _ _ (xAg _) hi;let⟨n,c,d,o⟩:=id l;have e:s.TypeIs (.ref b) "slice":=⟨n,c,d⟩
 unfold getItem;try with_reducible refine xDc ?_
 first|refine xAd (xAe ?_)|skip
 refine xAd<|wpAny_sequenceKey a.typeIs ∅ ?_;refine xAd (wpAny_callSpecial?_slot (name:=Str.ofString "__getitem__") a.typeIs PyProof.Rows.slot_tuple_getitem
  (wpAny_call_entry PyProof.Rows.slot_tuple_getitem a.typeIs entry_tuple_getitem ?_<|args_tuple_getitem _ _))
 show wpAny _ _ (Builtin.Tuple.tupleItemsOf (.ref t)>>=_) _ _ s;erw[<-xAd<|tupleItemsOf_ a ?_,<-xAd<|wpAny_typeOf e ?_];rw[xCg ∅];refine xAd<|dW l pl m ?_;show wpAny _ _ (if(((sIx items.size 0 lo:Nat):Int)==0&&(1:Int)==1&&(sIx items.size items.size hi-sIx items.size 0 lo)==items.size)=true then _ else _) _ _ s;rw[xCg<|by rw[k.1,k.2];simp];erw[xAd];unfold Builtin.Tuple.tupleIsExact;refine xAd<|wpAny_typeOf a.typeIs<|xAe ?_;rw[xCg ∅];refine xAd<|wpAny_rule ?_;exact xAe ⟨_,rfl,xAe h⟩
end
end
end HT
namespace L2
open PySem PySem.Spec PyProof.Rows
def zH8(K:xFr):V->A3 Int->A3 Int->Hp->VK->Prop:=λx c d H Q=>∃a b,x=.ref a/\SqT K H a b/\(HT.sIx b.length 0 c=0/\HT.sIx b.length b.length d=b.length)/\Q (.ref a) H
def lJ{X:Cx}:SlR X<|zH8 X.K:=by
 intro Z s O H x v o n t y p Q I i m pl j h;let⟨a,e,rfl,k,l,q⟩:=h;cases i;let⟨c,r,d,w⟩:=I.tuple k;have b:c.toArray.size=e.length:=by rw[xAp];exact r.length.symm
 refine⟨"tuple",_,PyProof.Rows.slot_tuple_getitem.lookup,d.typeIs,?_⟩;exact HT.getItem_tuple_all d m pl j (by rw[b];exact l) ⟨.ref a,H,I,rfl,q⟩
end L2
namespace SetA
open PySem PySem.SetTable
variable{k i j:Nat}{xs:Array Nat}{t:SetTable}
noncomputable def g:Nat->Nat
 |0=>0
 |n+1=>5*g n+1
theorem vt(n:Nat):5^n=4*g n+1:=by
 induction n with
 |zero=>rfl
 |succ n a=>rw[Nat.pow_succ,a];simp only[g];lia
def u(n x:Nat):Nat:=5^n*x+g n
def oS(n x:Nat):u (n+1) x=5*u n x+1:=by
 unfold u;rw[Nat.pow_succ];simp only[g];rw[Nat.mul_add,<- Nat.mul_assoc,Nat.mul_comm (5^n) 5];lia
theorem uM(m n x:Nat):u (n+m) x=5^m*u n x+g m:=by
 induction m with
 |zero=>simp[g]
 |succ m a=>
  rw[<- Nat.add_assoc,oS,a,Nat.pow_succ];simp only[g];rw[Nat.mul_add,<- Nat.mul_assoc,Nat.mul_comm (5^m) 5];lia
theorem zy(k:Nat):∃c,g (2^k)=2^k*(2*c+1):=by
 induction k with
 |zero=>exact⟨0,rfl⟩
 |succ k a=>
  let⟨c,b⟩:=a;have d:g (2^(k+1))=5^(2^k)*g (2^k)+g (2^k):=by
   have e:=uM (2^k) (2^k) 0;rw[<- Nat.two_mul,Nat.mul_comm 2,<- Nat.pow_succ] at e;simpa [u] using e
  rw[d,vt,b,Nat.pow_succ];generalize 2^k=P;refine⟨2*c*(P*(2*c+1))+P*(2*c+1)+c,?_⟩
  grind
theorem met(k:Nat):∀x j:Nat,∃n,n<2^k/\u n x%2^k=j%2^k:=by
 induction k with
 |zero=>exact λx j=>⟨0,∅,by simp[Nat.mod_one]⟩
 |succ k b=>
  intro x j;let⟨n,r,e⟩:=b x j;let⟨c,d⟩:=zy k;have v:0<2^k:=Nat.two_pow_pos k;have l:u (n+2^k) x=u n x+2^k+2*2^k*(2*(2*c+1)*u n x+c):=by
   rw[uM,vt,d];generalize 2^k=P;generalize u n x=y
   grind
  rw[Nat.pow_succ,Nat.mul_comm];generalize 2^k=P at *;by_cases h:u n x%(2*P)=j%(2*P)
  .exact⟨n,(),h⟩
  .refine⟨n+P,(),?_⟩;rw[l,Nat.add_mul_mod_self_left];generalize u n x=y at *;have B:y%(2*P)%P=y%P:=Nat.mod_mul_left_mod y 2 P;have A:j%(2*P)%P=j%P:=Nat.mod_mul_left_mod j 2 P;have w:(y+P)%(2*P)%P=y%P:=by rw[Nat.mod_mul_left_mod,Nat.add_mod_right]
   have p:y%(2*P)<2*P:=Nat.mod_lt _ ();have o:j%(2*P)<2*P:=Nat.mod_lt _ ();have m:(y+P)%(2*P)=(y%(2*P)+P)%(2*P):=by rw[Nat.add_mod,Nat.mod_eq_of_lt<|show P<2*P by lia]
   rw[m];generalize y%(2*P)=y1 at *;generalize j%(2*P)=j1 at *;have a:y1%P=j1%P:=by lia
   have f:∀z,z<2*P->z%P=if z<P then z else z-P:=by
    intro z q;split
    .exact Nat.mod_eq_of_lt ‹_›
    .rw[Nat.mod_eq_sub_mod (),Nat.mod_eq_of_lt ()]
   rw[f y1 p,f j1 o] at a;split at a <;> split at a
   .lia
   .rw[Nat.mod_eq_of_lt ()];lia
   .rw[Nat.mod_eq_sub_mod (),Nat.mod_eq_of_lt ()];lia
   .lia
noncomputable def nth(a:Nat):Nat->Nat×Nat->Nat×Nat
 |0,p=>p
 |n+1,p=>nth a n<|leap a p.1 p.2
theorem mn(c:Nat):∀(a b:Nat)(p:Nat×Nat),nth c (a+b) p=nth c b (nth c a p):=by
 intro a;induction a with
 |zero=>intro b p;rw[Nat.zero_add];rfl
 |succ a d=>intro b p;rw[Nat.succ_add];exact d b _
theorem xg(a:Nat):∀(n:Nat)(p:Nat×Nat),p.1<=a->(nth a n p).1<=a:=by
 intro n;induction n with
 |zero=>exact λp h=>h
 |succ n b=>
  intro p _;erw[b _];have:=Nat.mod_lt (p.1*5+1+p.2 / 32)<|Nat.succ_pos a;exact Nat.le_of_lt_succ this
theorem zj(a:Nat):∀(n:Nat)(p:Nat×Nat),(nth a n p).2=p.2 / 32^n:=by
 intro n;induction n with
 |zero=>intro p;simp[nth]
 |succ n b=>
  intro p;simp only[nth,b,leap];rw[Nat.div_div_eq_div_mul,Nat.pow_succ,Nat.mul_comm]
theorem zi(a:Nat):∀(n x:Nat),x<=a->nth a n (x,0)=(u n x%(a+1),0):=by
 intro n;induction n with
 |zero=>
  intro x h;simp[nth,u,g,Nat.mod_eq_of_lt<|Nat.lt_succ_of_le h]
 |succ n b=>
  intro x h;have e:=mn a n 1 (x,0);rw[e,b x h];simp only[nth,leap,Nat.zero_div,Nat.add_zero];rw[oS,Nat.mul_comm 5];congr 1;rw[Nat.add_mod,Nat.mul_mod,Nat.mod_mod,<- Nat.mul_mod,<- Nat.add_mod]
def lands{a:Nat}(c:a+1=2^k){p:Nat}(hi:i<=a)(b:p<2^64)(o:j<=a):∃n,n<turns a/\(nth a n (i,p)).1=j:=by
 have d:(nth a 13 (i,p)).2=0:=by
  rw[zj];exact Nat.div_eq_of_lt (xBc b ∅)
 have h:=xg a 13 (i,p) hi;let⟨n,m,e⟩:=met k (nth a 13 (i,p)).1 j;refine⟨13+n,by unfold turns;lia,?_⟩;have l:nth a 13 (i,p)=((nth a 13 (i,p)).1,0):=Prod.ext rfl d;rw[mn,l,zi a n _ h];rw[c];rw[e];exact Nat.mod_eq_of_lt ()
def Ris(xs:Array Nat):Prop:=∀i j (hi:i<xs.size) (a:j<xs.size),i<j->xs[i]<xs[j]
theorem rX(hr:Ris xs)(j:Nat):∀(c lo hi:Nat),lo<=hi->hi<=xs.size->hi-lo<=c ->
  (∀i (h:i<xs.size),i<lo->xs[i]<j)->(∀i (h:i<xs.size),hi<=i->j<=xs[i]) ->
  ∃p,below.go xs j c lo hi=p/\p<=xs.size/\(∀i (h:i<xs.size),i<p->xs[i]<j)/\(∀i (h:i<xs.size),p<=i->j<=xs[i]):=by
 intro c;induction c with
 |zero=>
  intro lo hi r d o a b;have:lo=hi:=by lia
  subst this;exact⟨lo,rfl,d,a,b⟩
 |succ c n=>
  intro lo hi r d o a b;unfold below.go;by_cases hlt:lo<hi
  .rw[xCg hlt];dsimp only;have l:(lo+hi) / 2<xs.size:=by lia
   have e:xs.getD ((lo+hi) / 2) j=xs[(lo+hi) / 2]:=by simp[Array.getD,l]
   rw[e];split
   .rename_i hc
    refine n _ _ () d () (λi h m=>?_) b;by_cases q:i=(lo+hi) / 2
    .subst q;exact hc
    .exact Nat.lt_trans (hr _ _ h l ()) hc
   .rename_i hc
    refine n _ _ () () () a (λi h m=>?_);by_cases q:i=(lo+hi) / 2
    .subst q;lia
    .exact xCk (Nat.le_of_not_lt hc) (Nat.le_of_lt<|hr _ _ l h ())
  .rw[xCf hlt];have:lo=hi:=by lia
   subst this;exact⟨lo,rfl,d,a,b⟩
def gP(b:Ris xs)(j:Nat):below xs j<=xs.size/\(∀i (h:i<xs.size),i<below xs j->xs[i]<j)/\(∀i (h:i<xs.size),below xs j<=i->j<=xs[i]):=by
 let⟨p,e,r⟩:=rX b j xs.size 0 xs.size (xBn _) (xAg _) () (λi h a=>absurd a<|Nat.not_lt_zero _) (λi h a=>absurd h ());have c:below xs j=p:=e;rw[c];exact r
def rY(d:Ris xs)(hi:i<=xs.size)(a:∀h:0<i,∀c:i-1<xs.size,xs[i-1]<j)(b:∀h:i<xs.size,j<=xs[i]):below xs j=i:=by
 let⟨l,c,e⟩:=gP d j;by_cases q:below xs j<i
 .have:=a () ();have:=e (i-1) () ();lia
 .by_cases q2:i<below xs j
  .have:=b ();have:=c i () q2;lia
  .lia
def xj(a:Ris xs)(h:xs[below xs j]?≠some j):∀i (hi:i<xs.size),xs[i]≠j:=by
 intro i hi e;let⟨m,l,d⟩:=gP a j;have b:below xs j=i:=by
  refine rY a (Nat.le_of_lt hi) (λn c=>?_) (λ_=>());have:=a (i-1) i c hi ();lia
 exact h (by rw[b,Array.getElem?_eq_getElem hi,e])
def jr:Ris xs↔xs.toList.Pairwise (·<·):=by
 rw[List.pairwise_iff_getElem];constructor
 .intro h i j c b a;simpa using h i j (by simpa using c) (by simpa using b) a
 .intro h i j c b a;have:=h i j (by simpa using c) (by simpa using b) a
  rwa[Array.getElem_toList,Array.getElem_toList] at this
def ko(l:Ris xs)(h:xs[below xs j]?≠some j):Ris<|insertAt xs (below xs j) j:=by
 let⟨q,p,n⟩:=gP l j;have o:=xj l h;rw[jr,toList_insertAt];have m:=jr.mp l;rw[List.pairwise_append];refine⟨m.sublist<|List.take_sublist _ _,?_,?_⟩
 .rw[List.pairwise_cons];refine⟨λx d=>?_,m.sublist<|List.drop_sublist _ _⟩;let⟨i,b,e⟩:=List.getElem_of_mem d;rw[List.getElem_drop] at e;rw[List.length_drop,xAh] at b;have a:below xs j+i<xs.size:=by lia
  have:=n (below xs j+i) a ();have:=o _ a;rw[Array.getElem_toList] at e;lia
 .intro x d y hy;let⟨i,b,e⟩:=List.getElem_of_mem d;rw[List.getElem_take] at e;rw[xAn,xAh] at b;have c:x<j:=by
   have:=p i () ();rw[Array.getElem_toList] at e;lia
  rcases xAv.mp hy with rfl|hy
  .exact c
  .let⟨i,b,e⟩:=List.getElem_of_mem hy;rw[List.getElem_drop] at e;rw[List.length_drop,xAh] at b;have:=n (below xs j+i) () ();rw[Array.getElem_toList] at e;lia
def dM{J:Type}(xs:Array J)(p:Nat)(x:J):(insertAt xs p x).size=xs.size+1:=by
 rw[<- xAh,toList_insertAt];simp only[xAb,xAn,xAo,List.length_drop,xAh];lia
theorem gap:∀(n:Nat)(l:B1),l.length<n->∃j,j<n/\j∉l:=by
 intro n;induction n with
 |zero=>intro l h;exact absurd h<|Nat.not_lt_zero _
 |succ n a=>
  intro l h;by_cases q:n∈l
  .have b:(l.erase n).length<n:=by
    rw[List.length_erase_of_mem q];have:=List.length_pos_of_mem q;lia
   let⟨j,e,d⟩:=a (l.erase n) b;refine⟨j,(),λc=>d ?_⟩;exact(List.mem_erase_of_ne ()).mpr c
  .exact⟨n,(),q⟩
def dA(t:SetTable)(j:Nat):(t.slot j=.empty/\t.place[below t.place j]?≠some j/\has t.dummies j=false)\/(t.slot j=.dummy/\t.place[below t.place j]?≠some j/\has t.dummies j=true)\/(∃i,t.slot j=.live i/\t.place[below t.place j]?=some j):=by
 unfold SetTable.slot;dsimp only;by_cases h:t.place[below t.place j]?=some j
 .refine .inr<|.inr ⟨below t.place j,?_,h⟩;rw[xCg<|by rw[h];exact beq_self_eq_true _]
 .have e:¬ (t.place[below t.place j]?==some j)=true:=λq=>h<|beq_iff_eq.mp q;rw[xCf e];cases hd:has t.dummies j with
  |true=>exact .inr (.inl ⟨rfl,h,rfl⟩)
  |false=>exact .inl ⟨rfl,h,rfl⟩
def ui(h:has xs j=true):below xs j<xs.size/\j∈xs.toList:=by
 have e:xs[below xs j]?=some j:=beq_iff_eq.mp h;let⟨b,a⟩:=xB7.mp e;refine⟨b,?_⟩;rw[<- a];simp
def km(h:t.fill<=t.mask):∃j,j<=t.mask/\t.slot j=.empty:=by
 let⟨j,d,a⟩:=gap (t.mask+1) (t.place.toList++t.dummies.toList) (by
  rw[xAb,xAh,xAh];exact Nat.lt_succ_of_le h)
 refine⟨j,(),?_⟩;rcases dA t j with q|q|⟨i,q1,q2⟩
 .exact q.1
 .exact absurd (xBt _ (ui q.2.2).2) a
 .let⟨c,b⟩:=xB7.mp q2;refine absurd (xBw _ ?_) a;rw[<- b];simp
def zC4(t:SetTable)(d:A3 Nat):Prop:=∀j,d=some j->t.slot j=.dummy
theorem nJ(t:SetTable)(h:Int)(L:Nat)(i b:Nat)(next:∀d,zC4 t d->∃j d',probe.go t (λ_=>h+1) h L ⟨(leap t.mask i b).1,runEnd t.mask (leap t.mask i b).1-(leap t.mask i b).1,(leap t.mask i b).1,(leap t.mask i b).2,d⟩=some (.empty j d')/\t.slot j=.empty/\zC4 t d') :
  ∀(a j:Nat)(d:A3 Nat),zC4 t d->∃l d',probe.go t (λ_=>h+1) h (L+(a+1)) ⟨j,a,i,b,d⟩=some (.empty l d')/\t.slot l=.empty/\zC4 t d':=by
 intro a;induction a with
 |zero=>
  intro j d hd;rw[show L+(0+1)=L+1 from rfl];unfold probe.go;dsimp only;rcases dA t j with q|q|⟨i',q1,q2⟩
  .rw[q.1];exact⟨j,d,rfl,q.1,hd⟩
  .rw[q.1];dsimp only;have:=next (some j) (λl e=>by cases e;exact q.1);simpa [advance] using this
  .rw[q1];dsimp only;have c:¬ (h+1==h)=true:=by
    intro m;have:=beq_iff_eq.mp m;lia
   rw[xCf c];have:=next d hd;simpa [advance] using this
 |succ a n=>
  intro j d hd;rw[show L+(a+1+1)=(L+(a+1))+1 from rfl];unfold probe.go;dsimp only;rcases dA t j with q|q|⟨i',q1,q2⟩
  .rw[q.1];exact⟨j,d,rfl,q.1,hd⟩
  .rw[q.1];dsimp only;have:=n (j+1) (some j) (λl e=>by cases e;exact q.1);simpa [advance] using this
  .rw[q1];dsimp only;have c:¬ (h+1==h)=true:=by
    intro m;have:=beq_iff_eq.mp m;lia
   rw[xCf c];have:=n (j+1) d hd;simpa [advance] using this
set_option tactic.hygienic true
theorem mX(t:SetTable)(f:Nat->Int)(h:Int):∀(a b:Nat)(p:Probe)(m:Met),a<=b->probe.go t f h a p=some m->probe.go t f h b p=some m:=by
 intro a;induction a with
 |zero=>intro b p m _ e;cases e
 |succ a d=>
  intro b p m l e;obtain⟨b,rfl⟩:∃c,b=c+1:=⟨b-1,()⟩
  unfold probe.go at e⊢;split
  .rename_i q;rw[q] at e;exact e
  .rename_i q;rw[q] at e;exact d b _ m () e
  .rename_i i q
   rw[q] at e;dsimp only at e⊢;split
   .rename_i c;rw[xCg c] at e;exact e
   .rename_i c;rw[xCf c] at e;exact d b _ m () e
set_option tactic.hygienic false
theorem jv(t:SetTable)(h:Int):∀(n i a:Nat)(d:A3 Nat),zC4 t d->t.slot (nth t.mask n (i,a)).1=.empty ->
  ∃j d',probe.go t (λ_=>h+1) h (10*(n+1)) ⟨i,runEnd t.mask i-i,i,a,d⟩=some (.empty j d')/\t.slot j=.empty/\zC4 t d':=by
 intro n;induction n with
 |zero=>
  intro i a d hd b;refine⟨i,d,?_,b,hd⟩;rw[show 10*(0+1)=9+1 from rfl];unfold probe.go;have c:t.slot i=.empty:=b;dsimp only;rw[c]
 |succ n m=>
  intro i a d hd b;have p:runEnd t.mask i-i<=9:=by
   unfold runEnd;split <;> lia
  let⟨j,d',e,r⟩:=nJ t h (10*(n+1)) i a (λo l=>m _ _ o l b) (runEnd t.mask i-i) i d hd;exact⟨j,d',mX _ _ _ _ _ _ _ () e,r⟩
def uC(h:Int):bits h<2^64:=by
 unfold bits;have b:h%(2^64:Int)<2^64:=xBb _ ∅;have a:0<=h%(2^64:Int):=xBa _ ∅;lia
theorem ul(c:t.mask+1=2^k)(l:t.fill<=t.mask)(h:Int) :
  ∃j b,t.freeSlot h=some (j,b)/\t.place[below t.place j]?≠some j/\(b=true->has t.dummies j=true):=by
 let⟨x,a,m⟩:=km l;let⟨n,y,e⟩:=lands c (i:=bits h%(t.mask+1)) (p:=bits h) (Nat.le_of_lt_succ<|Nat.mod_lt _<|Nat.succ_pos _) (uC h) a;let⟨j,d,w,v,r⟩:=jv t h n (bits h%(t.mask+1)) (bits h) none (λj q=>by cases q) (by rw[e];exact m);have o:t.probe (λ_=>h+1) h (t.probeStart h)=some (.empty j d):=mX _ _ _ _ _ _ _ () w;unfold freeSlot;rw[o];cases d with
 |none=>
  refine⟨j,false,rfl,?_,λq=>by cases q⟩;rcases dA t j with q|q|⟨i,q1,_⟩
  .exact q.2.1
  .exact q.2.1
  .rw[v] at q1;cases q1
 |some d=>
  have hd:=r d rfl;rcases dA t d with q|q|⟨i,q1,_⟩
  .rw[hd] at q;cases q.1
  .exact⟨d,true,rfl,q.2.1,λ_=>q.2.2⟩
  .rw[hd] at q1;cases q1
noncomputable def zA6(es:Array<|Int×A4)(a:Nat)(t:SetTable):Obj:={cls:=.type "set",dict:=none,data:=.set es a t,slots:=#[]}
end SetA
namespace SetA
open PySem PySem.Spec PySem.SetTable PyProof.Rows
section
variable{prog:Program}{w:World}{A:Around}{E:A4->A5->Prop}{s:A5}
def ua(x:A4){Q₁:A4->A5->Prop}(h:∀a:A8,(a=true\/w.params.followText "set-order"=true)->Q₁ (.ref s.heap.objs.size) {s with heap:=s.heap.push<|zA6 #[] 0 (.fresh 0 0 a)}) :
  codeAny (model prog w) A (.call (.builtin "set.__new__") ⟨[.type "set",x],[]⟩) (wants Q₁ E) s:=by
 erw[codeAny_of_tree];change wpAny _ A.in1 (do checkBuiltinCall "set.__new__" ⟨[.type "set",x],[]⟩;again (.builtin "set.__new__" ⟨[.type "set",x],[]⟩)) _ _ s;refine xAd<|wpAny_of_eq (PySem.F.newCall_set_1 x)<|xAe ⟨plainId_quiet PySem.F.plain_set_new _,codeAny_builtin PySem.F.entry_set_new ?_⟩;rw[Around.under_plainId PySem.F.plain_set_new _];unfold Builtin.«set.__new__» Builtin.Frozenset.newClass;have b:=sub_set_self;let⟨e,i,j,c,d⟩:=s;dsimp only;wp_walk
 refine wpAny_askSetting<|xAe ?_;dsimp only;simp only[newObj];refine xAd<|wpAny_alloc<|xAe<|xAe<|h _ ?_;change(!(w.params.followText "set-order"))=true\/w.params.followText "set-order"=true;cases w.params.followText "set-order" <;> simp
end
end SetA
namespace L2
open PySem PySem.Spec PyProof.Rows
variable{s:A5}{scope:Scope}{env:Env}{X:Cx}{Z:A0<|A7×Obj}{O:St}{H:Hp}{fp:A0 A7}{es:A0 A6}{n:Nat}{e:A6}
structure zB4(X:Cx)(scope:Scope)(cl:A0 (Str×A7))(ls N:A9)(fr:B1):Prop where
 clos:closureFor scope X.env=pure cl
 cell:∀y∈scope.names,y.2≠.cell
 kind:scope.kind=.function
 names:∀y∈scope.names,y.2=.local->scope.names.lookup y.1=some .local
 sub:∀y c,cl.lookup y=some c->X.env.cells.lookup y=some c
 has:∀y∈scope.names,y.2=.free->∃c,cl.lookup y.1=some c
 caps:∀(j:Nat)(y:Str),N[j]?=some y->∃k c,fr[j]?=some k/\X.N[k]?=some y/\Vis X.env.scope y/\X.env.kindOf y≠some .local/\cl.lookup y=some c/\(scope.names.lookup y=some .free)
 len:N.length=fr.length
theorem kW{prog:Program}{w:World}{A:Around}{R:Result->A5->Prop}{j target d:A6}{i:A0 A6}{pos:Pos}{it acc:A4}(b:Nat->A5->Prop)(go:∀n s,b n s->wpAny (model prog w) A (pyNext it) (λr l=>match r with
   |none=>R (.ok .next) l
   | some v=>wpAny (model prog w) A (letOwnedTupleGo target it v) (λ_ t=>wpAny (model prog w) A (assign target env v) (λ_ q =>
     wpAny (model prog w) A (forIn i true λc r=>if r=true then do let ok <- isTrue c env (eval c env);pure (ForInStep.yield ok) else pure (ForInStep.yield r)) (λok k =>
      if ok=true then wpAny (model prog w) A (eval j env) (λx p=>wpAny (model prog w) A (call (.builtin "list.append") [acc,x]) (λ_ o=>∃m,m<n/\b m o) (notedBy (model prog w) A env λe a=>R (.error e) a) p) (notedBy (model prog w) A env λe a=>R (.error e) a) k
      else ∃m,m<n/\b m k) (notedBy (model prog w) A env λe a=>R (.error e) a) q) (notedBy (model prog w) A env λe a=>R (.error e) a) t) (notedBy (model prog w) A env λe a=>R (.error e) a) l) (notedBy (model prog w) A env λe a=>R (.error e) a) s)(n:Nat)(h:b n s):codeAny (model prog w) A (.compLoop (.ListComp j [⟨target,d,i,0⟩] scope pos) 0 it acc env) R s:=by
 refine codeAny_loop rfl b (λn s C=>?_) n h;change wpAny _ A ((compTurn (.ListComp j [⟨target,d,i,0⟩] scope pos) 0 it acc env).onRaise λx=>do noteFrame x env;theTreesLotGoes x) _ _ s;erw[wpAny_noted];rw[compTurn_list];refine xAd (wpAny_standAt<|xAd<|wpAny_mono (go n s C) (λr l B=>?_) λ_ _ z=>z);cases r with
 |none=>exact xAe B
 |some v=>
  erw[<-xAd (wpAny_mono B (λ_ t G=>?_) λ_ _ z=>z),<-xAd (wpAny_mono G (λ_ q F=>xAd<|wpAny_mono F (λok k y=>?_) λ_ _ z=>z) λ_ _ z=>z)];cases ok with
  |false=>exact xAe ⟨rfl,y⟩
  |true=>exact xAd (xAd<|wpAny_mono y (λx p E=>xAd<|wpAny_mono E (λ_ o D=>xAe<|xAe ⟨rfl,D⟩) λ_ _ z=>z) λ_ _ z=>z)
def PTs(X:Cx)(a:A0 A6)(t:TT):Prop:=
 ∀(Z:A0<|A7×Obj)(s:A5)(O:St)(H:Hp)(Q:A8->Hp->Prop),Inv X Z O H s->t O H Q ->
  wpAny (model X.prog X.w) X.A (forIn a true λc r=>if r=true then do let ok <- isTrue c X.env (eval c X.env);pure (ForInStep.yield ok) else pure (ForInStep.yield r)) (TP X Z O Q) X.xe s
def zHz:TT:=λ_ H Q=>Q true H
def sK:PTs X [] zHz:=λ_ _ _ H _ I h=>wpAny_tests_nil ⟨H,I,h⟩
def sJ{c:A6}{t:TT}(h:PT X c t):PTs X [c] t:=λZ s O H Q I q=>wpAny_tests_one<|h Z s O H Q I q
def zH0(wi:TI)(m:Nat)(fr:B1)(g:TG)(h:TT)(te:TE):TE:=λO H Q=>wi O H λa H1=>∀D,H1 D=none->∃W:Nat->Nat->B3->Hp->Prop,(∃k,W 0 k []<|upd H1 D<|.lst [])/\∀i k ys H,W i k ys H->H D=some (.lst ys) /\
 ((a.stop i H/\Q (.ref D) H)\/(a.go i H/\ys.length<sizeLine/\∃N:B3->Hp->Prop,(∀c H',N c H'->∃d,d<k/\W (i+1) d c H') /\
  ∀x H',a.yld i H x H'->g x (List.replicate m none++zC7 O fr) H' λσ2 H2=>σ2.drop m=zC7 O fr/\σ2.length=m+fr.length /\
   h σ2 H2 λb H3=>H3 D=some (.lst ys)/\if b=true then te σ2 H3 λv H4=>H4 D=some (.lst ys)/\N (ys++[v]) (upd H4 D<|.lst<|ys++[v]) else N ys H3))
def Inv.forget{O':St}(I:Inv X Z O H s)(a:O'.length=O.length)(h:∀(i:Nat)(v:V),O'[i]?=some (some v)->O[i]?=some (some v)):Inv X Z O' H s:=
 ⟨I.ok,I.os,I.bare,I.base,let ⟨m,c,b⟩:=I.loc;⟨m,c,λi x v k j d=>b i x v k (h i v j) d⟩,I.cell,I.free,I.freeC,I.pin,I.hok,a.trans I.len⟩
def jE{m:Nat}{cs:St}{i:Nat}{v:V}(h:(List.replicate m none++cs)[i]?=some (some v)):m<=i/\cs[i-m]?=some (some v):=by
 by_cases hi:i<m
 .rw[List.getElem?_append_left (by simpa using hi),List.getElem?_replicate,xCg hi] at h;cases h
 .rw[xCl (by simp;lia),xCu] at h;exact⟨(),h⟩
section
variable{X:Cx}{elt tg iter:A6}{ifs:A0 A6}{pos:Pos}{scope:Scope}{cl:A0<|Str×A7}{ls N:A9}{fr:B1}{wi:TI}{g:TG}{tc:TT}{te:TE}
def rJ{C:A7}(cp:zB4 X scope cl ls N fr)(I:Inv X Z O H s)(i:s.heap.objs.size<=C)(d:∀b∈fp,zCy X Z H b)(k:∀b∈fp,b<s.heap.objs.size) :
  (zCs X (ls++N) scope cl C s H fp).Ok where
 mod:=I.ok.mod
 kind:=cp.kind
 glob:=I.ok.glob
 blt:=I.ok.blt
 above:=i
 inj:=λy z c p l=>I.ok.inj y z c (cp.sub y c p)<|cp.sub z c l
 has:=λy h=>by
  have h':(relabel scope X.env).names.lookup y=some .cell\/(relabel scope X.env).names.lookup y=some .free:=h;rcases h' with h'|h'
  .obtain⟨j,m,z|⟨z,_⟩⟩:=fU h'
   .subst z;exact absurd rfl<|cp.cell _ m
   .subst z;exact cp.has _ m rfl
  .obtain⟨j,m,z|⟨_,z⟩⟩:=fU h'
   .subst z;exact cp.has _ m rfl
   .cases z
 cab:=λ_ _ e=>absurd e xAy
 hd:=I.ok.hd
 frames:=I.ok.frames
 stk:=.inl rfl
 exf:=λb a=>⟨xA0<|xBc (k b a) i,λy c e z=>(d b a).2.2.2.2.1 y c (cp.sub y c e) z⟩
 bs:=I.bs
 bsz:=xCk I.ok.bsz I.sz
 noex:=λb o e a=>by
  have q:=d b a;rcases q.2.2.2.1 with z|z
  .exact I.ok.noex b o e z
  .have:=xA1 (I.ok.bs b o e).1;exact absurd (xBc this z)<|xBo _
 exfs:=λb a z=>by
  have q:=d b a;rcases xAv.mp (I.stkSub b z) with z'|z'
  .exact q.2.1 z'
  .exact q.2.2.1 z'
 funs:=I.stack
 frf:=I.stkFree
end
structure zCe(X:Cx)(scope:Scope)(cl:A0 (Str×A7))(y:Str)(k:Nat):Prop where
 ex:∃c,cl.lookup y=some c/\X.env.cells.lookup y=some c
 at':X.N[k]?=some y
 cell:X.env.scope.names.lookup y=some .cell
 free:scope.names.lookup y=some .free
theorem c9{J:Type}{y:Str}{c:J}:∀{l:A0<|Str×J},l.lookup y=some c->(y,c)∈l
 |[],h=>by simp at h
 |(z,d)::r,h=>by
  rw[List.lookup_cons] at h;by_cases e:y==z
  .rw[e] at h;cases xB3 h;rw[eq_of_beq e];exact xAr
  .rw[Bool.eq_false_iff.mpr e] at h;exact xAs _<|c9 h
def zB4.mk'{cl:A0<|Str×A7}{t N:A9}{fr:B1}(m:closureFor scope X.env=pure cl)(cell:∀y∈scope.names,y.2≠.cell)(i:scope.kind=.function)(a:∀y∈scope.names,y.2=.local->scope.names.lookup y.1=some .local)(h:Paired (zCe X scope cl) N fr)(has:∀y∈scope.names,y.2=.free->y.1∈N)(w:cl.map (·.1)=N):zB4 X scope cl t N fr:=by
 have get:∀{N:A9}{fr:B1},Paired (zCe X scope cl) N fr->∀(j:Nat)(y:Str),N[j]?=some y->∃k,fr[j]?=some k/\zCe X scope cl y k:=by
  intro N fr h;induction h with
  |nil=>intro j y e;simp at e
  |cons hd x v=>
   intro j y e;cases j with
   |zero=>simp at e;subst e;exact⟨_,rfl,hd⟩
   |succ j=>exact v j y (by simpa using e)
 have d:∀y∈N,∃k,zCe X scope cl y k:=λy l=>by
  let⟨j,e⟩:=List.mem_iff_getElem?.mp l;let⟨k,_,c⟩:=get h j y e;exact⟨k,c⟩
 refine⟨m,cell,i,a,λy c e=>?_,λy l e=>?_,λj y e=>?_,h.length⟩
 .have l:y∈N:=by
   rw[<- w];have:=c9 e;exact xA2.mpr ⟨_,this,rfl⟩
  let⟨k,⟨r,b,o⟩,_⟩:=d y l;rw[e] at b;cases b;exact o
 .let⟨k,⟨r,b,o⟩,_⟩:=d _<|has y l e;exact⟨r,b⟩
 .let⟨k,b,⟨c,o,A⟩,g1,g2,g3⟩:=get h j y e;refine⟨k,c,b,g1,.inr<|.inl g2,λq=>?_,o,g3⟩;have p:X.env.scope.names.lookup y=some .local:=q;rw[g2] at p;cases p
section
variable{X:Cx}
def zEu(b:A8):R2:=λx y H Q=>∃p q c a n,x=.ref p/\y=.ref q/\H p=some (.lst c)/\H q=some (.lst a)/\c.length=a.length/\n<=90/\(∀(j:Nat)(x y:V),c[j]?=some x->a[j]?=some y->Al H n x y)/\Q (.bl b) H
def qu(S:X.A.units+100<cLine):OpR X (compareOp .NotEq)<|zEu false:=by
 intro Z s O H x y v u Q I t r h;let⟨a,b,o,l,n,rfl,rfl,K,J,G,T,N,q⟩:=h;cases (show v=Value.ref a from t);cases (show u=Value.ref b from r);let⟨_,d,R,k,t1⟩:=(show zAg X.prog X.w H s.heap a (.lst o) from I.hok a _ K)
 let⟨_,c,P,i,t2⟩:=(show zAg X.prog X.w H s.heap b (.lst l) from I.hok b _ J)
 have D:∀j (Y:j<d.toArray.size) (W:j<c.toArray.size),SeqAt.EqAt X.A.in1 s d.toArray[j] c.toArray[j]<|(λ_=>true) j:=λj C B=>by
  let⟨p,M,F⟩:=cQ k C;let⟨m,L,E⟩:=cQ i B;exact gm I.hok (N j p m M L) F E (by show X.A.units+1+n<cLine;lia)
 have es:d.toArray.size=c.toArray.size:=by rw[xAp,xAp,<- k.length,<- i.length,G]
 erw[(SeqAt.RcNeAt.lists (e:=λ_=>true) ⟨_,t1,rfl,_,rfl⟩ ⟨_,t2,rfl,_,rfl⟩ es () D) X.prog X.w X.xe _,ce I q];simp
def qx(S:X.A.units+100<cLine):OpR X (compareOp .Eq)<|zEu true:=by
 intro Z s O H x y v u Q I t r h;let⟨a,b,o,l,n,rfl,rfl,K,J,G,T,N,q⟩:=h;cases (show v=Value.ref a from t);cases (show u=Value.ref b from r);let⟨_,d,R,k,t1⟩:=(show zAg X.prog X.w H s.heap a (.lst o) from I.hok a _ K)
 let⟨_,c,P,i,t2⟩:=(show zAg X.prog X.w H s.heap b (.lst l) from I.hok b _ J)
 have D:∀j (Y:j<d.toArray.size) (W:j<c.toArray.size),SeqAt.EqAt X.A.in1 s d.toArray[j] c.toArray[j]<|(λ_=>true) j:=λj C B=>by
  let⟨p,M,F⟩:=cQ k C;let⟨m,L,E⟩:=cQ i B;exact gm I.hok (N j p m M L) F E (by show X.A.units+1+n<cLine;lia)
 have es:d.toArray.size=c.toArray.size:=by rw[xAp,xAp,<- k.length,<- i.length,G]
 erw[SeqAt.eq_listAt (e:=λ_=>true) ⟨_,t1,rfl,_,rfl⟩ ⟨_,t2,rfl,_,rfl⟩ es () D,ce I q];simp
end
def zIx(K:xFr):B3->Hp->VK->Prop:=λa H Q=>∃x n,a=[x]/\zI1 K x H n/\Q (.int n) H
def zF0:B3->Hp->VK->Prop:=λc H Q=>∃a b,c=[V.ref a]/\H a=some (.dK b)/\Q (.int b.length) H
def zFz(K:xFr):B3->Hp->VK->Prop:=λb H Q=>∃p a,b=[.ref p]/\(SqL K H p a\/SqT K H p a)/\∀l,H l=none->Q (.ref l) (upd H l<|.lst a)
def zD4(K:xFr):B3->Hp->VK->Prop:=λb H Q=>∃p a,b=[.ref p]/\((SqL K H p a/\∀l,H l=none->Q (.ref l) (upd H l<|.tup a))\/(SqT K H p a/\Q (.ref p) H))
def zJ3(K:xFr):B3->Hp->VK->Prop:=λa H Q=>∃x n t b,a=[x,V.ty n]/\zCd K H x t/\W.kitOne K t (.type n)=some b/\Q (.bl b) H
def zF1:B3->Hp->VK->Prop:=λa H Q=>(∃i,a=[.int i]/\Q (.int i) H)\/∃k,a=[.bl k]/\Q (.int<|if k then 1 else 0) H
section
variable{X:Cx}
def yc:zAp X (.builtin "len")<|zIx X.K:=rO
def uy:zAp X (.builtin "len") zF0:=oH
def uw:zAp X (.type "list")<|zFz X.K:=jd
def rH:zAp X (.type "tuple")<|zD4 X.K:=gU
def yd:zAp X (.builtin "isinstance")<|zJ3 X.K:=oI
def uz:zAp X (.type "int") zF1:=oJ
end
def zJu:R2:=λx y H Q=>y=.non/\Q (.bl<|decide<|x=.non) H
def wU:OpR X (compareOp .Is) zJu:=w4
section
variable{m0J:It}{P:Hp->Prop}{n:Nat}{Y:Nat->Hp->V->Hp->Prop}{g:TG}{tb:TS}{Dn:zDw}{O:St}{H:Hp}
variable{K:xFr}{tl:TE}{tas:TA}{R:It->Hp->Prop}{a:A7}{xs:B3}
def zFj(K:xFr)(x:V)(H:Hp)(R:It->Hp->Prop):Prop:=∃a,x=.ref a/\(∃xs,SqL K H a xs)/\R (Itl K a) H
def zFi(K:xFr)(x:V)(H:Hp)(R:It->Hp->Prop):Prop:=∃a,x=.ref a/\(∃xs,SqT K H a xs)/\R (Itt K a) H
end
section
variable{prog:Program}{w:World}{A:Around}{E:A4->A5->Prop}{s:A5}
theorem gJ{it l:A7}{items:Array A4}(b:l≠it):∀(n i:Nat)(s:A5)(Q:B4->A5->Prop),s.heap.IsListIter it l i->s.heap.IsList l items->i+n<=items.size ->
  (∀h',h'.IsListIter it l (i+n)->Heap.SameBut it s.heap h'->Q ((items.toList.drop i).take n) {s with heap:=h'})->wpAny (model prog w) A (draw (.ref it) n) Q E s
 |0,i,s,Q,a,_,_,j=>by
  change wpAny _ _ (pure []) Q E s;exact xAe (by simpa using j s.heap a (Heap.SameBut.refl ..))
 |n+1,i,s,Q,a,k,m,j=>by
  have lt:i<items.size:=()
  change wpAny _ _ (pyNext (.ref it)>>=_) Q E s;erw[<-xAd (wpAny_pyNext_list_item a k (x:=items[i]) (by simp[lt]) λq h sb1=>?_),<-xAd (xDc<|gJ b n (i+1) _ _ h (k.at λo e=>(sb1.2 l b).trans e) () λp d c=>xAe ?_)];have hd:items.toList.drop i=items[i]::items.toList.drop (i+1):=by simp[xB2,lt]
  have:=j p (by rw[show i+(n+1)=i+1+n by lia];exact d)<|sb1.trans c;rw[hd,List.take_succ_cons] at this;exact this
def iu{l:A7}{items:Array A4}{targets:A0<|A8×(A4->Sem Unit)}{Q:Unit->A5->Prop}(q:A.handled=none)(c:s.heap.IsList l items)(p:targets.length=items.size)(a:targets.findIdx? (·.1)=none)(h:∀h',Heap.ExtBut s.heap.objs.size s.heap h'->wpAny (model prog w) A (assignInOrder (targets.map (·.2)) items.toList) Q E {s with heap:=h'}) :
  wpAny (model prog w) A (unpack (.ref l) targets) Q E s:=by
 unfold unpack;rw[p,a];refine xAd<|xDc ?_;have lt:l≠s.heap.objs.size:=by let⟨o,m,_⟩:=c;exact xA0<|xA1 m
 unfold unpackItems;erw[xAd];unfold notIterableAtAll;erw[<-xAd<|wpAny_specialOf c.typeIs PySem.F.slot_list_iter.lookup ?_,xAe];simp only[xAz,if_false];erw[<-xAd<|xDc<|wpAny_pyIter_list c ?_,<-xAd (xDc<|gJ lt items.size 0 _ _ ⟨_,xAl _ rfl,rfl,rfl⟩ (c.push _) () λt i sb1=>?_)];have d:List.take items.size (List.drop 0 items.toList)=items.toList:=by
  rw[List.drop_zero];exact List.take_of_length_le ⋯
 rw[d,xCf ⋯];have j:t.IsList l items:=(c.push _).at λo e=>(sb1.2 l lt).trans e;refine xAd (xDc<|wpAny_pyNext_list_end q i j ⋯ λr v=>?_);simp only[Option.isSome_none,xAz,if_false];exact xAe<|h r λb o k e=>v b o k<|sb1.extBut b o k<|xAf _ e
end
section
variable{X:Cx}{pos:Pos}
def zJ2(K:xFr)(n:Nat)(t:TGs):TG:=λv O H Q=>∃a b,v=.ref a/\SqL K H a b/\b.length=n/\t b O H Q
def wD{k:Nat}{t:TGs}(y:X.calm=true)(h:PGs X es t)(w:(assignEach es X.env).length=n:=by rfl)(d:(assignEach es X.env).findIdx? (·.1)=none:=by rfl):PG X (.Tuple es k pos)<|zJ2 X.K n t:=by
 intro Z s O H v u Q I r c;let⟨a,j,B,q,x,c⟩:=c;subst B;cases r;let⟨l,i,p,C⟩:=I.list q;rw[assign_Tuple];refine xAd (wpAny_standAt<|iu (I.ok.hd y) p.isList (by simp[w,<- x,i.length]) d λA m=>?_);have I1:Inv X Z O H {s with heap:=A}:=I.kept (t':=s.toks) λb o e=>m b o (xA0<|xA1 e) e;exact h Z _ O H j _ Q I1 (by simpa using i) c
end
section
variable{X:Cx}
def zFf(K:xFr):R2:=λx y H Q=>∃a b xs c,x=.ref a/\y=.ref b/\H a=some (.tup xs)/\H b=some (.tup c)/\xs.length+c.length<=sizeLine/\∀p H2,zF4 H H2->H2 p=some (.tup<|xs++c)->Q (.ref p) H2
def tK:OpR X (binaryOp .Add)<|zFf X.K:=by
 intro Z s O H x y v u Q I t r h;let⟨a,b,o,B,rfl,rfl,k,j,D,q⟩:=h;by_cases hx:o=[]
 .cases (show v=Value.ref a from t);cases (show u=Value.ref b from r);subst hx;let⟨i,r1,p1,_⟩:=I.tuple<|SqT.of k;let⟨c,r2,p2,_⟩:=I.tuple<|SqT.of j;have G:i=[]:=r1.nil_iff.mpr rfl;subst G;let⟨⟨L,J,w,C⟩,ho,hc,n,hd⟩:=id p1;let⟨⟨A,l,m,d⟩,ho2,hc2,n2,hd2⟩:=id p2;simp only at hc hd hc2 hd2;subst hc hd hc2 hd2;refine concat_meets ⟨_,ho,rfl⟩ ⟨_,ho2,rfl⟩ noFill_tuple_add seq_tuple_add PySem.F.slot_tuple_add PySem.F.entry_tuple_add (PySem.F.args_tuple_add_2 _ _)
   (tuple_addW0 a b ([]:B4).toArray c.toArray n n2 J l C d ⋯) ⟨ho,ho2,?_⟩
  exact⟨.ref b,H,I,rfl,q b H (.refl _) j⟩
 .refine tQ Z s O H _ _ v u Q I t r ⟨a,b,o,B,rfl,rfl,.of k,.of j,hx,D,λe=>?_,λ_ p E=>q p _ (dB E _) bz⟩;subst e;exact q a H (.refl _) (by rw[xB0];exact k)
end
noncomputable def zAb:A6->A8
 |.Starred _ _=>false
 |_=>true
def b9(h:zAb e=true):starEach (e::es) env=(false,eval e env)::starEach es env:=by
 cases e <;> first|rfl|cases h
theorem dU{pos:Pos}{env:Env}:∀{es:A0 A6},es.all zAb=true->(backTo pos<|starEach es env).any (·.1)=false
 |[],_=>rfl
 |e::es,h=>by
  rw[xCj,xCh] at h;rw[b9 h.1];change(false||(backTo pos<|starEach es env).any (·.1))=false;rw[dU h.2];rfl
theorem jm{pos:Pos}{env:Env}:∀{es:A0 A6},es.all zAb=true->(backTo pos<|starEach es env).all (λx=>!x.1)=true
 |[],_=>rfl
 |e::es,h=>by
  rw[xCj,xCh] at h;rw[b9 h.1];change(true&&(backTo pos<|starEach es env).all (λx=>!x.1))=true;rw[jm h.2];rfl
noncomputable def zA0:A6->A8
 |.ListComp ..=>false
 |.SetComp ..=>false
 |.DictComp ..=>false
 |_=>true
def fG{t:A3 A6}{l:Nat}(h:zA0 e=true):swapsWith e t l env=pure false:=by
 cases e <;> first|rfl|cases h
noncomputable def zBr:A6->A8
 |.Call ..=>false
 |_=>true
def fH{o:A6}{f:Str}{x:Sem A4}(h:zBr o=true):attributeBase o f env x=x:=by
 cases o <;> first|rfl|cases h
section
variable{X:Cx}{e o:A6}{es:A0 A6}{te to:TE}{t:TA}{pos p apos cpos:Pos}{x name:Str}{id T:String}{i:Nat}{r:B3->Hp->VK->Prop}
def qr(b:PE X e te)(a:PA X es t)(h:zAb e=true:=by rfl):PA X (e::es)<|zE3 te t:=tG b a<|b9 h
def qq(k:zAp X (.builtin id) r)(j:Gl X x)(d:X.mg x=none)(b:bootBuiltins x=some (.builtin id))(l:PA X (e::es) t)(h:(e::es).all zAb=true:=by rfl)(c:x≠"__name__":=by decide)(a:(x==("__debug__":Str))=false:=by decide):PE X (.Call (.Name x p) (e::es) [] pos)<|tCB r t:=by
 rw[xCj,xCh] at h;exact qp k j d b l c a (b9 h.1)<|dU h.2
def uY(k:zAp X (.type T) r)(j:Gl X x)(d:X.mg x=none)(b:bootBuiltins x=some (.type T))(l:PA X (e::es) t)(h:(e::es).all zAb=true:=by rfl)(c:x≠"__name__":=by decide)(a:(x==("__debug__":Str))=false:=by decide):PE X (.Call (.Name x p) (e::es) [] pos)<|tCB r t:=by
 rw[xCj,xCh] at h;exact nU k j d b l c a (b9 h.1)<|dU h.2
variable{k k':Nat}{ps:A9}{sp:Sp}
def yI(a:PE X e te)(h:zA0 e=true:=by rfl):PS X (.Expr e pos)<|zE1 te:=sT a<|fG h
variable{rm:V->B3->Hp->VK->Prop}
def As(j:PlainAttrs T)(b:Slot T name id)(c:typeOf (.builtin id)=pure (.type "method_descriptor"))(m:MtR X id rm)(l:PE X o to)(q:PA X [e] t)(h:zBr o=true:=by rfl)(d:zAb e=true:=by rfl)(a:(apos.endLine==cpos.line)=true:=by rfl) :
  PE X (.Call (.Attribute o name apos) [e] [] cpos) (tBM X.K T rm to t):=
 uZ j b c m l q (fH h) (by rw[b9 d];rfl) a (b9 d) rfl
def yL{b:A6}{a:TA}(d:Gl X "range")(c:X.mg "range"=none)(j:PA X [e] a)(h:zAb e=true:=by rfl):PI X b (.Call (.Name "range" p) [e] [] pos)<|zFs a:=nP d c j<|b9 h
end
section
variable{X:Cx}{e a b c o:A6}{es:A0 A6}{te ta tb tc to:TE}{t u:TA}{pos p p2 apos cpos px:Pos}{x y name:Str}{id T:String}{i j k:Nat}{st:Stmt}{sts:A0 Stmt}{ts us:TS}{tt tt':TT}
noncomputable def zB1:A6->A8
 |.Slice ..=>false
 |_=>true
def pX(h:zB1 b=true):zCl b:=λo i=>by cases b <;> first|rfl|cases h
variable{r:B3->Hp->VK->Prop}{rm:V->B3->Hp->VK->Prop}{ps:A9}{sp:Sp}{k':Nat}
variable{tg iter elt:A6}{g:TG}{gs:TGs}{wi:TI}{tas:TA}
def uK(h:zAb e=true):assignEach (e::es) env=(false,assign e env)::assignEach es env:=by
 cases e <;> first|rfl|cases h
theorem eO{env:Env}:∀{es:A0 A6},es.all zAb=true->(assignEach es env).length=es.length/\(assignEach es env).findIdx? (·.1)=none
 |[],_=>⟨rfl,rfl⟩
 |e::es,h=>by
  rw[xCj,xCh] at h;let⟨l,d⟩:=eO (env:=env) h.2;rw[uK h.1];refine⟨by rw[xAo,l,xAo],?_⟩;rw[List.findIdx?_cons,d];rfl
variable{scope:Scope}{cl:A0<|Str×A7}{ls N:A9}{fr:B1}{ifs:A0 A6}
variable{body orelse:A0 Stmt}
end
def zG8(h:n<=16000000):n<sizeLine:=by rw[sizeLine_eq];lia
def zFo(h:n<=16000000):n<=sizeLine:=Nat.le_of_lt<|zG8 h
def zF5(i j:Int):Prop:=0<j/\j<=10^18
def qv:OpR X (binaryOp .FloorDiv)<|rI zF5 λi j=>.int<|i / j:=by
 intro Z s O H x y v u Q I b a h;let⟨i,j,rfl,rfl,⟨l,d⟩,q⟩:=h;have c:j.natAbs.log2<9000:=by
  have k:j.natAbs<2^60:=by
   have:(2:Int)^60=1152921504606846976:=∅
   have:(10:Int)^18=1000000000000000000:=∅
   have:(2:Nat)^60=1152921504606846976:=∅
   lia
  have:=(Nat.log2_lt (n:=j.natAbs) ()).mpr k;lia
 refine qw Z s O H _ _ v u Q I b a ⟨i,j,rfl,rfl,⟨(),PyProof.noPylong_of_log2 c⟩,?_⟩;have e:i.fdiv j=i / j:=Int.fdiv_eq_ediv_of_nonneg _ ();change Q (.int<|i.fdiv j) H;rw[e];exact q
section
variable{X:Cx}{Z:A0<|A7×Obj}{O:St}{H:Hp}{s:A5}{h':Heap}
def Inv.turnedL{t':Nat}(I:Inv X Z O H s)(k:∀b o,b∉fp->s.heap.get? b=some o->h'.get? b=some o)(h:∀b∈fp,zCy X Z H b):Inv X Z O H {s with heap:=h',toks:=t'}:=by
 have d:∀b u,H b=some u->b∉fp:=λb u e z=>by rw[(h b z).1] at e;cases e
 refine I.step (g':=s.gens) (d':=s.drawn) (ch:=fp) (λb l=>?_) (λb o _ _ a e _=>k b o a e) (λb o _ _ a e _=>⟨o.slots,k b o a e⟩) (λ_ _ _ _ n=>n)
  (λb o a e=>⟨o,k b o a e⟩) (λ_ _ e=>e) (λ_ _ _ e=>e) (λb A e=>⟨#[],by rw[e];simp⟩) (λm j=>?_) (λb u e=>?_) I.bare
 .let⟨C,x,B,w,t,p⟩:=h b l;exact⟨w,x,t,p⟩
 .let⟨o,es,y,i,r⟩:=j;exact⟨o,es,y,k _ o (λz=>(h _ z).2.1 rfl) i,r⟩
 .refine(I.hok b u e).stay (λc v a q=>k c v ?_ q) (λ_ q=>q) λ_ _ q=>q;rcases a with z|z
  .rw[z];exact d b u e
  .exact d c _ z
end
def oK:bootBuiltins "enumerate"=some (.type "enumerate"):=by decide +kernel
end L2
namespace RevA
open PySem PySem.Spec PyProof.Rows
open AutoSeq1 (wpAny_loadPart')
variable{t:A7}{i:Nat}{xs:Array A4}{Q:A4->A5->Prop}
noncomputable def zGl(t:A7):Obj:={cls:=.type "tuple_iterator",data:=.fields #[.ref t,.int 0 0]}
section
variable{prog:Program}{w:World}{A:Around}{E:A4->A5->Prop}{s:A5}
def kN{it:A7}{x:A4}(a:s.heap.IsTupleIter it t i)(h:s.heap.IsTuple t xs)(e:xs[i]?=some x)(q:∀h',h'.IsTupleIter it t (i+1)->Heap.SameBut it s.heap h'->Q x {s with heap:=h'}):wpAny (model prog w) A (Builtin.SmallTypes.nextOf<|.ref it) Q E s:=by
 let⟨o,b,j,hd⟩:=id a;let⟨k,c,_,l,d⟩:=h;unfold Builtin.SmallTypes.nextOf;refine xAd<|wpAny_callSpecial?_slot (name:=Str.ofString "__next__") a.typeIs PySem.F.slot_tuple_iterator_next<|wpAny_call_entry PySem.F.slot_tuple_iterator_next a.typeIs PySem.F.entry_tuple_iterator_next ?_<|PySem.F.args_tuple_iterator_next_1 _;change wpAny _ _ (field (.ref it) 0>>=_) _ _ s;refine xAd<|xDa b hd (x:=.ref t) rfl ?_;change wpAny _ _ (if(Value.ref t==Value.none)=true then _ else _) _ _ s;rw[xCf<|show ¬ ((Value.ref t==Value.none)=true) from xAy];change wpAny _ _ (field (.ref it) 1>>=_) _ _ s;refine xAd<|xDa b hd (x:=.int i 0) rfl ?_;change wpAny _ _ (seqItems? (.ref t)>>=_) _ _ s;refine xAd<|wpAny_seqItems c d ?_;simp only[xC3,e];refine xAd<|wpAny_setField b hd ⋯<|xAe ⟨x,rfl,xAe<|q _ ?_<|Heap.SameBut.update ..⟩;exact⟨_,xA7 _ b<|Obj.isFreed_of_fields<|Obj.data_mapFields hd _,(Obj.cls_mapFields ..).trans j,by rw[Obj.data_mapFields hd];simp[rawInt]⟩
def n0{it:A7}(j:A.handled=none)(b:s.heap.IsTupleIter it t i)(l:s.heap.IsTuple t xs)(k:xs[i]?=none)(q:∀h' e,Heap.ExtBut it s.heap h'->(∃o,h'.get? e=some o/\o.cls=.type "StopIteration")->E (.ref e) {s with heap:=h'}):wpAny (model prog w) A (Builtin.SmallTypes.nextOf<|.ref it) Q E s:=by
 let⟨o,d,r,hd⟩:=id b;let⟨n,c,_,p,h⟩:=l;unfold Builtin.SmallTypes.nextOf;refine xAd<|wpAny_callSpecial?_slot (name:=Str.ofString "__next__") b.typeIs PySem.F.slot_tuple_iterator_next<|wpAny_call_entry PySem.F.slot_tuple_iterator_next b.typeIs PySem.F.entry_tuple_iterator_next ?_<|PySem.F.args_tuple_iterator_next_1 _;change wpAny _ _ (field (.ref it) 0>>=_) _ _ s;refine xAd<|xDa d hd (x:=.ref t) rfl ?_;change wpAny _ _ (if(Value.ref t==Value.none)=true then _ else _) _ _ s;rw[xCf<|show ¬ ((Value.ref t==Value.none)=true) from xAy];change wpAny _ _ (field (.ref it) 1>>=_) _ _ s;refine xAd<|xDa d hd (x:=.int i 0) rfl ?_;change wpAny _ _ (seqItems? (.ref t)>>=_) _ _ s;refine xAd<|wpAny_seqItems c h ?_;simp only[xC3,k];refine xAd<|wpAny_rule<|xAd<|wpAny_setField d hd ⋯ ?_;change wpAny _ _ (newExc (.type "StopIteration") []>>=_) _ _ _;erw[xAd];simp only[newExc,newTuple];erw[<-xAd (xBl ?_<|by size_fits),<-xAd (m:=firstArgMember _ _)<|wpAny_of_eq (a:=Value.none) (by first|rfl|(simp only[firstArgMember];rfl)) ?_,<-xBl ?_ (by size_fits)];simp only[raiseNew];refine xAd<|wpAny_handled ?_;first|rw[show A.in1.handled=none from j]|rw[j]
 refine xAd<|xAe<|wpAny_throw ?_;exact q _ _ (((Heap.SameBut.update ..).extBut.push _).push _) ⟨_,xAl _ rfl,rfl⟩
end
def zFv{prog:Program}{w:World}{A:Around}(n:A.handled=none)(it l:A7)(d:l≠it)(xs:Array A4) :
  Draws prog w A it [it,l] xs.size (λi v=>xs[i]?=some v) (λi h=>h.IsTupleIter it l i/\h.IsTuple l xs) where
 live:=λ_ _ a=>let ⟨o,m,_⟩:=a.1;⟨o,m⟩
 frame:=λ_ _ _ a j=>⟨a.1.at λo e=>j it ⋯ o e,a.2.at λo e=>j l ⋯ o e⟩
 item:=λi s Q E k a p=>by
  refine kN a.1 a.2 (x:=xs[i]) (by simp[k]) λr c b=>?_;exact p _ r s.toks (by simp[k]) ⟨c,a.2.extBut b.extBut d⟩ b
 done:=λs Q E a q=>n0 n a.1 a.2 ⋯ q
end RevA
namespace L2
open PySem PySem.Spec PyProof.Rows
variable{J:Type}
theorem zBd{us:A0 J}(h:us.length=1):∃c,us=[c]:=by
 cases us with
 |nil=>cases h
 |cons a r=>
  cases r with
  |nil=>exact⟨a,rfl⟩
  |cons b r=>cases h
theorem zIp{us:A0 J}(h:us.length=2):∃c b,us=[c,b]:=by
 cases us with
 |nil=>cases h
 |cons a r=>
  let⟨b,rfl⟩:=zBd<|Nat.succ.inj h;exact⟨a,b,rfl⟩
theorem zIo{us:A0 J}(h:us.length=3):∃d c b,us=[d,c,b]:=by
 cases us with
 |nil=>cases h
 |cons a r=>
  let⟨c,b,rfl⟩:=zIp<|Nat.succ.inj h;exact⟨a,c,b,rfl⟩
theorem zIn{us:A0 J}(h:us.length=4):∃e d c b,us=[e,d,c,b]:=by
 cases us with
 |nil=>cases h
 |cons a r=>
  let⟨d,c,b,rfl⟩:=zIo<|Nat.succ.inj h;exact⟨a,d,c,b,rfl⟩
theorem zJw{us:A0 J}(h:us.length=5):∃i e d c b,us=[i,e,d,c,b]:=by
 cases us with
 |nil=>cases h
 |cons a r=>
  let⟨e,d,c,b,rfl⟩:=zIn<|Nat.succ.inj h;exact⟨a,e,d,c,b,rfl⟩
end L2
namespace Fx
open PySem L2
set_option genInjectivity true in
inductive U where
 |non|bl (b:Bool)|int (i:Int)|str (x:Str)|tup (xs:List U)|lst (xs:List U)|kt (xs:List U)|kl (xs:List U)|kd (kvs:List (Str×U)) (no:List Str)|ref (a:Nat)|ty (n:String)|gl (x:Str)
instance:Inhabited U:=⟨.non⟩
abbrev B0:=A0 U
inductive Ob where
 |lst (xs:List U)|dct (kvs:List (Key×U))|ins (C:Str) (fs:List (Str×U))|dead
instance:Inhabited Ob:=⟨.dead⟩
noncomputable abbrev So:=A0 Ob
structure Xc where
 cls:Str
 fs:A0 (Str×U)
set_option genInjectivity true in
inductive Res where
 |ok (v:U) (S:So)|stuck
inductive Pm where
 |add (m:Bool)|sub|mul|fdiv|mod|pow|neg
 |eq|ne|lt|le|gt|isN|inn|nin
 |ix|sl (m a b:Bool)|len|isT (n:String)|abs|max|min|int1
 |lst (m:Bool)|dct (ks:List Str)|tupOf|lstOf (m:Bool)|lenset|all
 |app|ext|get1|get2|join
 |typ (T:String)|fld (f:Str)|setf (f:Str)|seti|cls (C m:Str)|unp (n:Nat)|new (C:Str)
 |rng1|rng2|zip|enm|seq|frz|dget
noncomputable def nth:A0 (A3 U)->Nat->A3 U
 |[],_=>none
 |v::_,0=>v
 |_::r,i+1=>nth r i
noncomputable def put:A0 (A3 U)->Nat->U->A0 (A3 U)
 |[],_,_=>[]
 |_::r,0,v=>some v::r
 |o::r,i+1,v=>o::put r i v
def puts:A0 (A3 U)->B1->B0->A0 (A3 U)
 |O,i::b,v::a=>puts (put O i v) b a
 |O,_,_=>O
noncomputable def at?{J:Type}:A0 J->Nat->A3 J
 |[],_=>none
 |v::_,0=>some v
 |_::r,i+1=>at? r i
noncomputable def set{J:Type}:A0 J->Nat->J->A0 J
 |[],_,_=>[]
 |_::r,0,v=>v::r
 |o::r,i+1,v=>o::set r i v
def lsU(S:So):U->A3 (B0)
 |.lst b=>some b
 |.kl b=>some b
 |.ref a=>match at? S a with
  |some (.lst b)=>some b
  |_=>none
 |_=>none
def lsT(S:So):U->A3 (B0)
 |.lst b=>some b
 |.ref a=>match at? S a with
  |some (.lst b)=>some b
  |_=>none
 |_=>none
def sqU(S:So):U->A3 (B0)
 |.tup a=>some a
 |.kt a=>some a
 |u=>lsU S u
noncomputable def sqF:U->A3 (B0)
 |.tup a=>some a
 |.kt a=>some a
 |.lst a=>some a
 |.kl a=>some a
 |_=>none
noncomputable def mkL(m:A8)(xs:B0)(S:So):Res:=match m with
 |true=>.ok (.ref S.length)<|S++[.lst xs]
 |false=>.ok (.lst xs) S
noncomputable def fits(n:Nat)(r:Res):Res:=match Nat.ble n sizeLine with
 |true=>r
 |false=>.stuck
noncomputable def zAt{J:Type}(f:Str):A0 (Str×J)->A3 J
 |[]=>none
 |(g,v)::r=>if f=g then some v else zAt f r
noncomputable def putF(f:Str)(v:U):A0 (Str×U)->A0 (Str×U)
 |[]=>[(f,v)]
 |(g,u)::r=>if g=f then(g,v)::r else(g,u)::putF f v r
noncomputable def zBz{κ:Type} [DecidableEq κ] (k:κ):A0 (κ×U)->A3 U
 |[]=>none
 |(g,v)::r=>if g=k then some v else zBz k r
noncomputable def putK{κ:Type} [DecidableEq κ] (k:κ) (v:U) (a:A0<|κ×U):A0<|κ×U:=if(a.any λkv=>decide<|kv.1=k)=true then a.map (λkv=>if kv.1=k then(kv.1,v) else kv) else a++[(k,v)]
noncomputable def zEh:U->A3 Key
 |.int i=>some<|.inl i
 |.str x=>some<|.inr x
 |_=>none
def zIk(S:So)(a:U):A3 A8:=(lsU S a).map (·.isEmpty)
noncomputable def zFr:U->A8
 |.lst []=>true
 |_=>false
inductive Sc where
 |non|int (i:Int)|bl (b:Bool)|str (x:Str)
noncomputable def Sc.u:Sc->U
 |.non=>.non
 |.int i=>.int i
 |.bl b=>.bl b
 |.str x=>.str x
noncomputable def sc:U->A3 Sc
 |.non=>some .non
 |.int i=>some<|.int i
 |.bl b=>some<|.bl b
 |.str x=>some<|.str x
 |_=>none
def yx{u:U}{a:Sc}(h:sc u=some a):u=a.u:=by unfold sc at h;split at h <;> cases h <;> rfl
noncomputable def Sc.eq:Sc->Sc->A3 A8
 |.non,b=>match b with
  |.non=>some true
  |_=>some false
 |.int i,b=>match b with
  |.int j=>some<|decide<|i=j
  |.bl _=>none
  |_=>some false
 |.bl i,b=>match b with
  |.bl j=>some<|decide<|i=j
  |.int _=>none
  |_=>some false
 |.str i,b=>match b with
  |.str j=>some<|decide<|i=j
  |_=>some false
def eqS(x y:U):A3 A8:=(sc x).bind λa=>(sc y).bind λb=>a.eq b
noncomputable def zAr:U->A8
 |.non=>true
 |.bl _=>true
 |.int _=>true
 |.str _=>true
 |_=>false
noncomputable def eqF:U->U->A8
 |.non,.non=>true
 |.bl a,.bl b=>a==b
 |.bl a,.int b=>(if a then 1 else 0)==b
 |.int a,.bl b=>a==(if b then 1 else 0)
 |.int a,.int b=>a==b
 |.str a,.str b=>a==b
 |_,_=>false
noncomputable def zBp{J:Type}(f:J->J->A8):A0 J->A0 J->A8
 |[],[]=>true
 |x::b,y::a=>f x y&&zBp f b a
 |_,_=>false
def same(S:So):Nat->U->U->A8
 |0,x,y=>zAr x&&zAr y&&eqS x y==some true
 |n+1,x,y=>match x,y with
  |.tup b,.tup a=>zBp (same S n) b a
  |x,y=>match lsT S x,lsT S y with
   |some b,some a=>zBp (same S n) b a
   |_,_=>zAr x&&zAr y&&eqS x y==some true
def zA1(x:U):B0->A8
 |[]=>false
 |y::a=>eqF y x||zA1 x a
def inU(S:So)(x y:U):A3 A8:=match y with
 |.str j=>match x with
  |.str i=>some (!(Builtin.Str.occurrences j i 0 j.length 1).isEmpty)
  |_=>none
 |.ref a=>match at? S a with
  |some (.dct c)=>(zEh x).map λk=>(zBz k c).isSome
  |some (.lst b)=>if zAr x&&b.all zAr then some (zA1 x b) else none
  |_=>none
 |y=>match sqU S y with
  |some b=>if zAr x&&b.all zAr then some (zA1 x b) else none
  |none=>none
noncomputable def obB(o:A3 A8)(f:A8->A8)(S:So):Res:=match o with
 |some b=>.ok (.bl<|f b) S
 |none=>.stuck
noncomputable def i2(f:Int->Int->U)(S:So):B0->Res
 |[.int i,.int j]=>.ok (f i j) S
 |_=>.stuck
def zCt(xs:B0)(lo hi:A3 Int):B0:=(xs.drop<|HT.sIx xs.length 0 lo).take<|HT.sIx xs.length xs.length hi-HT.sIx xs.length 0 lo
def slice(m:A8)(x:U)(lo hi:A3 Int)(S:So):Res:=match x with
 |.tup a=>match decide (HT.sIx a.length 0 lo=0/\HT.sIx a.length a.length hi=a.length) with
  |true=>.ok (.tup a) S
  |false=>.ok (.tup<|zCt a lo hi) S
 |x=>match lsU S x with
  |some a=>mkL m (zCt a lo hi) S
  |none=>.stuck
def tyU(S:So):U->A3 String
 |.non=>some "NoneType"
 |.bl _=>some "bool"
 |.int _=>some "int"
 |.str _=>some "str"
 |.tup _=>some "tuple"
 |.lst _=>some "list"
 |.ref a=>match at? S a with
  |some (.lst _)=>some "list"
  |some (.dct _)=>some "dict"
  |some (.ins _ _)=>some "object"
  |_=>none
 |_=>none
noncomputable def zEi(t n:String):A8:=(t==n)||(t == "bool" && n == "int")
noncomputable def zC5:B0->A3 (A9)
 |[]=>some []
 |.str x::r=>(zC5 r).map (x::·)
 |_=>none
noncomputable def blL:B0->A3 (A0 A8)
 |[]=>some []
 |.bl x::r=>(blL r).map (x::·)
 |_=>none
noncomputable def zBi(lo:Int):Nat->B0
 |0=>[]
 |n+1=>.int lo::zBi (lo+1) n
noncomputable def zCz:B0->B0->B0
 |x::b,y::a=>.tup [x,y]::zCz b a
 |_,_=>[]
noncomputable def zGf:A9->B0->A0 (Key×U)
 |k::b,v::a=>(.inr k,v)::zGf b a
 |_,_=>[]
def zHl(m:A8)(a b:U)(S:So):Res:=match a,b with
 |.int i,.int j=>.ok (.int<|i+j) S
 |.str x,.str y=>fits (x.length+y.length)<|.ok (.str<|x++y) S
 |.tup xs,.tup c=>fits (xs.length+c.length)<|.ok (.tup<|xs++c) S
 |a,b=>match lsT S a,lsT S b with
  |some xs,some c=>fits (xs.length+c.length)<|mkL m (xs++c) S
  |_,_=>.stuck
noncomputable def zHx:A3 (B0)->A3 (B0)->A8
 |some b,some a=>!Nat.beq b.length a.length
 |_,_=>false
def neU(a b:U)(S:So):Res:=match eqS a b with
 |some c=>.ok (.bl<|not c) S
 |none=>match zHx (lsT S a) (lsT S b) with
  |true=>.ok (.bl true) S
  |false=>match same S 80 a b with
   |true=>.ok (.bl false) S
   |false=>.stuck
def eqU(f:A8->A8)(a b:U)(S:So):Res:=match eqS a b with
 |some c=>.ok (.bl<|f c) S
 |none=>match zFr b,zIk S a with
  |true,some c=>.ok (.bl<|f c) S
  |_,_=>match same S 80 a b with
   |true=>.ok (.bl<|f true) S
   |false=>.stuck
noncomputable def opt(o:A3 U)(S:So):Res:=match o with
 |some v=>.ok v S
 |none=>.stuck
def ixU(a b:U)(S:So):Res:=match a with
 |.kd d _=>match b with
  |.str x=>opt (zAt x d) S
  |_=>.stuck
 |.str z=>match b with
  |.int i=>match atI z.cps.toList i with
   |some c=>fits z.length<|.ok (.str ⟨#[c]⟩) S
   |none=>.stuck
  |_=>.stuck
 |.ref p=>match at? S p with
  |some (.dct d)=>match zEh b with
   |some k=>opt (zBz k d) S
   |none=>.stuck
  |some (.lst e)=>match b with
   |.int i=>opt (atI e i) S
   |_=>.stuck
  |_=>.stuck
 |a=>match sqU S a with
  |some e=>match b with
   |.int i=>opt (atI e i) S
   |_=>.stuck
  |none=>.stuck
def zEg(a:U)(S:So):Res:=match a with
 |.str x=>fits x.length<|.ok (.int x.length) S
 |.ref p=>match at? S p with
  |some (.lst b)=>.ok (.int b.length) S
  |some (.dct c)=>.ok (.int c.length) S
  |_=>.stuck
 |a=>match sqU S a with
  |some b=>.ok (.int b.length) S
  |none=>.stuck
def zB8(a:U)(S:So):Res:=match a with
 |.tup b=>.ok (.tup b) S
 |a=>match lsU S a with
  |some b=>.ok (.tup b) S
  |none=>.stuck
def zCi(p:Nat)(k v:U)(S:So):Res:=match at? S p with
 |some (.dct a)=>match zEh k with
  |some k=>fits (a.length+1)<|.ok .non<|set S p<|.dct<|putK k v a
  |none=>.stuck
 |some (.lst b)=>match k with
  |.int i=>match decide (0<=i/\i<b.length) with
   |true=>.ok .non<|set S p<|.lst<|set b i.toNat v
   |false=>.stuck
  |_=>.stuck
 |_=>.stuck
def zGv(f:B0->U)(a:U)(S:So):Res:=match a with
 |.str x=>.ok (f<|x.cps.toList.map λc=>.str ⟨#[c]⟩) S
 |.ref p=>match at? S p with
  |some (.lst b)=>.ok (f b)<|set S p .dead
  |_=>.stuck
 |a=>match sqU S a with
  |some b=>.ok (f b) S
  |none=>.stuck
def zC6(p:Nat)(S:So)(f:Str->A0 (Str×U)->Res):Res:=match at? S p with
 |some (.ins C fs)=>f C fs
 |_=>.stuck
def zC0(p:Nat)(S:So)(f:B0->Res):Res:=match at? S p with
 |some (.lst a)=>f a
 |_=>.stuck
noncomputable def zGt:U->A3 Str
 |.str x=>some x
 |_=>none
def vQ{u:U}{x:Str}(h:zGt u=some x):u=.str x:=by unfold zGt at h;split at h <;> cases h;rfl
noncomputable def zDu(i:Int):B0->B0
 |[]=>[]
 |x::a=>.tup [.int i,x]::zDu (i+1) a
noncomputable def dedup:A9->A9
 |[]=>[]
 |x::r=>if r.any λy=>decide (y=x) then dedup r else x::dedup r
def pr(_:A0<|Str×Str):Pm->B0->So->Res
 |.add m,e,S=>match e with
  |[a,b]=>zHl m a b S
  |_=>.stuck
 |.sub,e,S=>i2 (λi j=>.int<|i-j) S e
 |.mul,e,S=>match e with
  |[.int i,.int j]=>match decide (i.natAbs<2^150/\j.natAbs<2^150\/j.natAbs<2^60\/i.natAbs<2^60) with
   |true=>.ok (.int<|i*j) S
   |false=>.stuck
  |[.str x,.int j]=>match decide (0<=j/\j<=1) with
   |true=>fits x.length<|.ok (.str<|if j=1 then x else Str.empty) S
   |false=>.stuck
  |_=>.stuck
 |.fdiv,e,S=>match e with
  |[.int i,.int j]=>match decide (0<j/\j<=10^18) with
   |true=>.ok (.int<|i / j) S
   |false=>.stuck
  |_=>.stuck
 |.mod,e,S=>match e with
  |[.int i,.int j]=>match decide (0<j) with
   |true=>.ok (.int<|i%j) S
   |false=>.stuck
  |_=>.stuck
 |.pow,e,S=>match e with
  |[.int i,.int j]=>match decide (0<=j/\j<=1000/\i.natAbs<2^60) with
   |true=>.ok (.int<|i^j.toNat) S
   |false=>.stuck
  |_=>.stuck
 |.neg,e,S=>match e with
  |[.int i]=>.ok (.int (-i)) S
  |_=>.stuck
 |.eq,e,S=>match e with
  |[a,b]=>eqU id a b S
  |_=>.stuck
 |.ne,e,S=>match e with
  |[a,b]=>neU a b S
  |_=>.stuck
 |.lt,e,S=>i2 (λi j=>.bl<|decide<|i<j) S e
 |.le,e,S=>i2 (λi j=>.bl<|decide<|i<=j) S e
 |.gt,e,S=>i2 (λi j=>.bl<|decide<|j<i) S e
 |.isN,e,S=>match e with
  |[a]=>.ok (.bl<|match a with|.non=>true|_=>false) S
  |_=>.stuck
 |.inn,e,S=>match e with
  |[a,b]=>obB (inU S a b) id S
  |_=>.stuck
 |.nin,e,S=>match e with
  |[a,b]=>obB (inU S a b) not S
  |_=>.stuck
 |.ix,e,S=>match e with
  |[a,b]=>ixU a b S
  |_=>.stuck
 |.sl m l h,e,S=>match l,h,e with
  |true,false,[x,.int i]=>slice m x (some i) none S
  |false,true,[x,.int j]=>slice m x none (some j) S
  |_,_,_=>.stuck
 |.len,e,S=>match e with
  |[a]=>zEg a S
  |_=>.stuck
 |.isT n,e,S=>match e with
  |[a]=>match tyU S a with
   |some t=>.ok (.bl<|zEi t n) S
   |none=>.stuck
  |_=>.stuck
 |.abs,e,S=>match e with
  |[.int i]=>.ok (.int<|if i<0 then -i else i) S
  |_=>.stuck
 |.max,e,S=>i2 (λi j=>.int<|if j>i then j else i) S e
 |.min,e,S=>i2 (λi j=>.int<|if j<i then j else i) S e
 |.int1,e,S=>match e with
  |[a]=>match a with
   |.int i=>.ok (.int i) S
   |.bl b=>.ok (.int<|if b then 1 else 0) S
   |_=>.stuck
  |_=>.stuck
 |.lst m,e,S=>fits e.length<|mkL m e S
 |.dct w,e,S=>match Nat.beq w.length e.length with
  |true=>.ok (.ref S.length)<|S++[.dct<|zGf w e]
  |false=>.stuck
 |.tupOf,e,S=>match e with
  |[a]=>zB8 a S
  |_=>.stuck
 |.lstOf m,e,S=>match e with
  |[a]=>match sqU S a with
   |some xs=>mkL m xs S
   |none=>.stuck
  |_=>.stuck
 |.lenset,e,S=>match e with
  |[.tup xs]=>match zC5 xs with
   |some q=>match Nat.ble q.length 4 with
    |true=>.ok (.int (dedup q).length) S
    |false=>.stuck
   |none=>.stuck
  |_=>.stuck
 |.all,e,S=>match e with
  |[.lst xs]=>match blL xs with
   |some bs=>.ok (.bl<|bs.all id) S
   |none=>.stuck
  |_=>.stuck
 |.app,e,S=>match e with
  |[.ref p,v]=>zC0 p S λxs=>fits (xs.length+1)<|.ok .non<|set S p<|.lst<|xs++[v]
  |_=>.stuck
 |.get1,e,S=>match e with
  |[.kd o no,.str x]=>match zAt x o with
   |some v=>.ok v S
   |none=>match no.any λy=>decide (y=x) with
    |true=>.ok .non S
    |false=>.stuck
  |_=>.stuck
 |.dget,e,S=>match e with
  |[.ref p,k,d]=>match at? S p,zEh k with
   |some (.dct o),some k=>match zBz k o with
    |some v=>.ok v S
    |none=>.ok d S
   |_,_=>.stuck
  |_=>.stuck
 |.get2,e,S=>match e with
  |[.kd o no,.str x,d]=>match zAt x o with
   |some v=>.ok v S
   |none=>match no.any λy=>decide (y=x) with
    |true=>.ok d S
    |false=>.stuck
  |_=>.stuck
 |.join,e,S=>match e with
  |[a,b]=>match zGt a,lsT S b with
   |some s,some xs=>match zC5 xs with
    |some q=>match decide ((q.map (·.length)).sum+q.length*s.length<=16777216) with
     |true=>.ok (.str<|Builtin.Str.glued s q) S
     |false=>.stuck
    |none=>.stuck
   |_,_=>.stuck
  |_=>.stuck
 |.ext,e,S=>match e with
  |[.ref p,b]=>zC0 p S λxs=>match lsT S b with
   |some r=>fits (xs.length+r.length)<|.ok .non<|set S p<|.lst<|xs++r
   |none=>.stuck
  |_=>.stuck
 |.fld f,e,S=>match e with
  |[.ref p]=>zC6 p S λ_ fs=>opt (zAt f fs) S
  |_=>.stuck
 |.setf f,e,S=>match e with
  |[.ref p,v]=>zC6 p S λC fs=>match Nat.ble fs.length 900 with
   |true=>.ok .non<|set S p<|.ins C<|putF f v fs
   |false=>.stuck
  |_=>.stuck
 |.typ T,e,S=>match e with
  |[a]=>match tyU S a with
   |some t=>match t==T with
    |true=>.ok a S
    |false=>.stuck
   |none=>.stuck
  |_=>.stuck
 |.seti,e,S=>match e with
  |[.ref p,k,v]=>zCi p k v S
  |_=>.stuck
 |.cls C m,e,S=>match e with
  |[.ref p]=>zC6 p S λD fs=>match decide (C=D) with
   |true=>match zAt m fs with
    |none=>.ok (.ref p) S
    |some _=>.stuck
   |false=>.stuck
  |_=>.stuck
 |.unp n,e,S=>match e with
  |[a]=>match sqU S a with
   |some xs=>match Nat.beq xs.length n with
    |true=>.ok (.tup xs) S
    |false=>.stuck
   |none=>.stuck
  |_=>.stuck
 |.new C,e,S=>match e with
  |[]=>.ok (.ref S.length)<|S++[.ins C []]
  |_=>.stuck
 |.rng1,e,S=>match e with
  |[.int j]=>match decide (-(2^62)<=j/\j<2^62) with
   |true=>.ok (.tup<|zBi 0 j.toNat) S
   |false=>.stuck
  |_=>.stuck
 |.rng2,e,S=>match e with
  |[.int i,.int j]=>match decide (-(2^62)<=i/\i<2^62/\-(2^62)<=j/\j<2^62) with
   |true=>.ok (.tup<|zBi i (j-i).toNat) S
   |false=>.stuck
  |_=>.stuck
 |.enm,e,S=>match e with
  |[.str x]=>.ok (.tup<|zDu 0<|x.cps.toList.map λc=>.str ⟨#[c]⟩) S
  |_=>.stuck
 |.zip,e,S=>match e with
  |[a,b]=>match sqF a,sqF b with
   |some xs,some r=>match Nat.beq xs.length r.length with
    |true=>.ok (.tup<|zCz xs r) S
    |false=>.stuck
   |_,_=>.stuck
  |_=>.stuck
 |.seq,e,S=>match e with
  |[a]=>zGv .tup a S
  |_=>.stuck
 |.frz,e,S=>match e with
  |[.ref p]=>zC0 p S λxs=>.ok (.lst xs)<|set S p .dead
  |_=>.stuck
noncomputable abbrev Sg:=A0<|A3 U
noncomputable abbrev Kx(J:Type):=Xc->So->J
abbrev B8:=Kx Prop
noncomputable abbrev Kv(J:Type):=U->So->J
abbrev B7:=Kv Prop
structure Gx(J:Type) where
 fail:J
 fuel:Nat
 prim:Pm->B0->So->Kx J->Kv J->J
 call:Nat->B0->So->Kx J->Kv J->J
 br:A8->(Unit->J)->(Unit->J)->J
abbrev B9:=Gx Prop
structure Ee(J:Type) where
 nx:Sg->So->J
 rt:Kv J
 bk:Sg->So->J
 ct:Sg->So->J
 x:Xc->Sg->So->J
noncomputable abbrev TEx(J:Type):=Gx J->Sg->So->Kx J->Kv J->J
abbrev B6:=TEx Prop
noncomputable abbrev TTx(J:Type):=Gx J->Sg->So->Kx J->(A8->So->J)->J
noncomputable abbrev TAx(J:Type):=Gx J->Sg->So->Kx J->(B0->So->J)->J
abbrev B':=TAx Prop
noncomputable abbrev TSx(J:Type):=Gx J->Sg->So->Ee J->J
abbrev B5:=TSx Prop
section
variable{J:Type}
noncomputable def cV(i:Nat):TEx J:=λG O S _ k=>match nth O i with
 |some v=>k v S
 |none=>G.fail
noncomputable def cC(u:U):TEx J:=λ_ _ S _ k=>k u S
noncomputable def aN:TAx J:=λ_ _ S _ k=>k [] S
noncomputable def aC(e:TEx J)(r:TAx J):TAx J:=λG O S x k=>e G O S x λv S1=>r G O S1 x λa S2=>k (v::a) S2
noncomputable def cP(p:Pm)(as:TAx J):TEx J:=λG O S x k=>as G O S x λa S1=>G.prim p a S1 x k
noncomputable def cT(as:TAx J):TEx J:=λG O S x k=>as G O S x λa S1=>k (.tup a) S1
noncomputable def cF(i:Nat)(as:TAx J)(b:B0):TEx J:=λG O S x k=>as G O S x λa S1=>G.call i (a++b) S1 x k
noncomputable def cM(C m:Str)(i:Nat)(o:TEx J)(as:TAx J)(b:B0):TEx J:=λG O S x k=>o G O S x λv S1=>G.prim (.cls C m) [v] S1 x λw S2=>as G O S2 x λa S3=>G.call i (w::(a++b)) S3 x k
noncomputable def cK(C:Str)(i:Nat)(as:TAx J)(b:B0):TEx J:=λG O S x k=>as G O S x λa S1=>G.prim (.new C) [] S1 x λw S2=>G.call i (w::(a++b)) S2 (λ_ _=>G.fail) λr S3=>match r with
 |.non=>k w S3
 |_=>G.fail
noncomputable def cBM(T:String)(p:Pm)(o:TEx J)(as:TAx J):TEx J:=λG O S x k=>o G O S x λv S1=>G.prim (.typ T) [v] S1 x λw S2=>as G O S2 x λa S3=>G.prim p (w::a) S3 x k
noncomputable def tB(e:TEx J):TTx J:=λG O S x k=>e G O S x λv S1=>match v with
 |.bl b=>k b S1
 |_=>G.fail
noncomputable def tNt(t:TTx J):TTx J:=λG O S x k=>t G O S x λb S1=>k (!b) S1
noncomputable def tAn(t u:TTx J):TTx J:=λG O S x k=>t G O S x λb S1=>G.br b (λ_=>u G O S1 x k) λ_=>k false S1
noncomputable def tOr'(t u:TTx J):TTx J:=λG O S x k=>t G O S x λb S1=>G.br b (λ_=>k true S1) λ_=>u G O S1 x k
noncomputable def cB(t:TTx J):TEx J:=λG O S x k=>t G O S x λb S1=>k (.bl b) S1
noncomputable def cIf(t:TTx J)(a b:TEx J):TEx J:=λG O S x k=>t G O S x λc S1=>G.br c (λ_=>a G O S1 x k) λ_=>b G O S1 x k
noncomputable def tCh(p q:Pm)(a b c:TEx J):TTx J:=λG O S x k=>a G O S x λv S1=>b G O S1 x λw S2=>G.prim p [v,w] S2 x λr S3=>match r with
 | .bl d=>G.br d (λ_=>c G O S3 x λz S4=>G.prim q [w,z] S4 x λr2 S5=>match r2 with
  |.bl e=>k e S5
  |_=>G.fail) λ_=>k false S3
 |_=>G.fail
noncomputable def zB3:B0->(U->Sg->So->(Sg->So->J)->J)->Sg->So->(Sg->So->J)->J
 |[],_,O,S,k=>k O S
 |v::a,b,O,S,k=>b v O S λσ1 S1=>zB3 a b σ1 S1 k
def tgt(is:B1)(one:A8)(G:Gx J)(v:U)(O:Sg)(k:Sg->J):J:=match one with
 |true=>k<|puts O is [v]
 |false=>match v with
  |.tup a=>match Nat.beq a.length is.length with
   |true=>k<|puts O is a
   |false=>G.fail
  |_=>G.fail
noncomputable def lcK(G:Gx J)(b:U->So->(A3 U->So->J)->J):B0->B0->So->Kv J->J
 |[],a,S,k=>k (.lst a) S
 |v::c,a,S,k=>b v S λo S1=>match o with
  |some u=>lcK G b c (a++[u]) S1 k
  |none=>lcK G b c a S1 k
def lcB(is:B1)(one:A8)(O:Sg)(t:A3<|TTx J)(e:TEx J)(G:Gx J)(x:Kx J):U->So->(A3 U->So->J)->J:=λw S2 nx=>tgt is one G w O λσ1=>match t with
 |none=>e G σ1 S2 x λu S3=>nx (some u) S3
 |some t=>t G σ1 S2 (λ_ _=>G.fail) λb S3=>G.br b (λ_=>e G σ1 S3 x λu S4=>nx (some u) S4) λ_=>nx none S3
def cLx(it:TEx J)(is:B1)(one:A8)(n:Nat)(cs:B1)(t:A3<|TTx J)(e:TEx J):TEx J:=λG O S x k=>it G O S x λv S1=>match v with
 |.tup a=>G.br (Nat.ble a.length sizeLine) (λ_=>lcK G (lcB is one (List.replicate n none++cs.map (nth O)) t e G x) a [] S1 k) λ_=>G.fail
 |_=>G.fail
noncomputable def sN:TSx J:=λ_ O S E=>E.nx O S
noncomputable abbrev sqE(E:Ee J)(nx:Sg->So->J):Ee J:={E with nx:=nx}
noncomputable abbrev lpE(E:Ee J)(nx:Sg->So->J):Ee J:={E with nx:=nx,ct:=nx,bk:=E.nx}
noncomputable abbrev xcE(E:Ee J)(x:Xc->Sg->So->J):Ee J:={E with x:=x}
def sQ(t u:TSx J):TSx J:=λG O S E=>t G O S<|sqE E λσ1 S1=>u G σ1 S1 E
def sA(i:Nat)(e:TEx J):TSx J:=λG O S E=>e G O S (λx S1=>E.x x O S1) λv S1=>E.nx (put O i v) S1
def sU(is:B1)(e:TEx J):TSx J:=λG O S E=>e G O S (λx S1=>E.x x O S1) λv S1=>G.prim (.unp is.length) [v] S1 (λx S1=>E.x x O S1) λw S2=>match w with
 |.tup a=>E.nx (puts O is a) S2
 |_=>G.fail
def sPr(i j:Nat)(a b:TEx J):TSx J:=λG O S E=>a G O S (λx S1=>E.x x O S1) λv S1=>b G O S1 (λx S1=>E.x x O S1) λw S2=>E.nx (put (put O i v) j w) S2
noncomputable def sE(e:TEx J):TSx J:=λG O S E=>e G O S (λx S1=>E.x x O S1) λ_ S1=>E.nx O S1
noncomputable def sR(e:TEx J):TSx J:=λG O S E=>e G O S (λx S1=>E.x x O S1) E.rt
noncomputable def sI(t:TTx J)(a b:TSx J):TSx J:=λG O S E=>t G O S (λx S1=>E.x x O S1) λc S1=>G.br c (λ_=>a G O S1 E) λ_=>b G O S1 E
noncomputable def sP(p:Pm)(e:TEx J)(b:TAx J):TSx J:=λG O S E=>e G O S (λx S1=>E.x x O S1) λv S1=>b G O S1 (λx S1=>E.x x O S1) λa S2=>G.prim p (a++[v]) S2 (λx S1=>E.x x O S1) λ_ S3=>E.nx O S3
def sF(it:TEx J)(is:B1)(one:A8)(b:TSx J):TSx J:=λG O S E=>it G O S (λx S1=>E.x x O S1) λv S1=>match v with
 |.tup a=>zB3 a (λw σ1 S2 nx=>tgt is one G w σ1 λσ2=>b G σ2 S2<|lpE E nx) O S1 E.nx
 |_=>G.fail
noncomputable def zHt:A9->B0->A0 (Str×U)
 |f::fs,v::a=>(f,v)::zHt fs a
 |_,_=>[]
noncomputable def sX(C:Str)(fs:A9)(as:TAx J):TSx J:=λG O S E=>as G O S (λx S1=>E.x x O S1) λa S1=>E.x ⟨C,zHt fs a⟩ O S1
noncomputable def hdr(C:Str)(u:U)(G:Gx J)(E:Ee J):Xc->Sg->So->J:=λx _ S1=>match decide (x.cls=C) with
 |true=>E.rt u S1
 |false=>G.fail
def sTr(C:Str)(u:U)(b:TSx J):TSx J:=λG O S E=>b G O S<|xcE E<|hdr C u G E
end
noncomputable def zAv{J:Type}(a b:TEx J):TAx J:=aC a<|aC b aN
noncomputable def zA7:A9->A8
 |[]=>true
 |x::r=>!(r.any λy=>decide<|y=x)&&zA7 r
end Fx
namespace Fx
open PySem PySem.Spec L2
variable{W':Wd}{vs:A0 V}{v:V}{o h:HO}{a i n:Nat}{l:A0<|A7×HO}{S:So}{x:B8}{k:B7}{b:A8}{q:Unit->Prop}{e:B6}{as:B'}{ds:B0}{C:Str}{t:TTx Prop}{E E':Ee Prop}{nx':Sg->So->Prop}{is:B1}
structure Bs where
 K:xFr
 mg:Str->A3 A4
 kd:A7->A0 (Str×U)->A9->Prop
 cl:Str->A7->Prop
structure Wd where
 F:Hp
 μ:A0 A7
 pr:A0 (A7×HO)
structure Wd.Lf(W W':Wd):Prop where
 f:∀p o,W.F p=some o->W'.F p=some o
 m:∀a p,at? W.μ a=some p->at? W'.μ a=some p
structure Wd.Le(W W':Wd):Prop where
 f:∀p o,W.F p=some o->W'.F p=some o
 m:∀a p,at? W.μ a=some p->at? W'.μ a=some p
 r:W'.pr=W.pr
theorem Wd.Lf.pr{W:Wd}{l:A0<|A7×HO}:W.Lf {W with pr:=l}:=⟨λ_ _ h=>h,λ_ _ h=>h⟩
def Wd.Le.lf{W:Wd}(h:W.Le W'):W.Lf W':=⟨h.f,h.m⟩
def Wd.Le.refl{W:Wd}:W.Le W:=⟨λ_ _ h=>h,λ_ _ h=>h,rfl⟩
theorem Wd.Le.trans{W W1 W2:Wd}(a:W.Le W1)(b:W1.Le W2):W.Le W2:=⟨λp o h=>b.f p o<|a.f p o h,λi p h=>b.m i p<|a.m i p h,b.r.trans a.r⟩
variable(B:Bs)
mutual
def Rv(W:Wd):U->V->Prop
 |.non,v=>v=.non
 |.bl b,v=>v=.bl b
 |.int i,v=>v=.int i
 |.str x,v=>v=.str x
 |.tup c,v=>∃p vs,v=.ref p/\W.F p=some (.tup vs)/\Rvs W c vs
 |.lst c,v=>∃p vs,v=.ref p/\W.F p=some (.lst vs)/\Rvs W c vs
 |.kt c,v=>∃p vs,v=.ref p/\(∀H,SqT B.K H p vs)/\Rvs W c vs
 |.kl c,v=>∃p vs,v=.ref p/\SqL B.K W.F p vs/\Rvs W c vs
 |.kd d no,v=>∃p,v=.ref p/\B.kd p d no
 |.ref a,v=>∃p,v=.ref p/\at? W.μ a=some p
 |.ty n,v=>v=.ty n
 |.gl x,v=>∃p,v=.ref p/\B.mg x=some (.ref p)
def Rvs(W:Wd):B0->A0 V->Prop
 |[],vs=>vs=[]
 |x::c,vs=>∃v r,vs=v::r/\Rv W x v/\Rvs W c r
end
variable{B:Bs}
def fb{K:xFr}{F F':Hp}{p:A7}(le:∀p o,F p=some o->F' p=some o)(h:SqL K F p vs):SqL K F' p vs:=by
 rcases h with (h|⟨o,h⟩)|h
 .exact .inl<|.inl<|le _ _ h
 .exact .inl<|.inr ⟨o,le _ _ h⟩
 .exact .inr h
mutual
theorem Rv.lf{W W':Wd}(le:W.Lf W'):∀{u:U}{v:V},Rv B W u v->Rv B W' u v
 |.non,_,h=>h
 |.bl _,_,h=>h
 |.int _,_,h=>h
 |.str _,_,h=>h
 |.tup _,_,h=>let ⟨p,vs,e,f,r⟩:=h;⟨p,vs,e,le.f _ _ f,Rvs.lf le r⟩
 |.lst _,_,h=>let ⟨p,vs,e,f,r⟩:=h;⟨p,vs,e,le.f _ _ f,Rvs.lf le r⟩
 |.kt _,_,h=>let ⟨p,vs,e,f,r⟩:=h;⟨p,vs,e,f,Rvs.lf le r⟩
 |.kl _,_,h=>let ⟨p,vs,e,f,r⟩:=h;⟨p,vs,e,fb le.f f,Rvs.lf le r⟩
 |.kd _ _,_,h=>h
 |.ref _,_,h=>let ⟨p,e,f⟩:=h;⟨p,e,le.m _ _ f⟩
 |.ty _,_,h=>h
 |.gl _,_,h=>h
theorem Rvs.lf{W W':Wd}(le:W.Lf W'):∀{us:B0}{vs:A0 V},Rvs B W us vs->Rvs B W' us vs
 |[],_,h=>h
 |_::_,_,h=>let ⟨v,r,e,d,c⟩:=h;⟨v,r,e,Rv.lf le d,Rvs.lf le c⟩
end
def Rv.mono{W:Wd}(le:W.Le W'){u:U}(h:Rv B W u v):Rv B W' u v:=h.lf le.lf
def Rvs.mono{W:Wd}(le:W.Le W'){u:B0}{v:A0 V}(h:Rvs B W u v):Rvs B W' u v:=h.lf le.lf
theorem Rvs.length{W:Wd}:∀{us:B0}{vs:A0 V},Rvs B W us vs->vs.length=us.length
 |[],_,h=>by rw[show _=[] from h];rfl
 |_::_,_,h=>by let⟨v,r,rfl,_,c⟩:=h;simp[Rvs.length c]
theorem Rvs.app{W:Wd}:∀{us ws:B0}{vs c:A0 V},Rvs B W us vs->Rvs B W ws c->Rvs B W (us++ws) (vs++c)
 |[],_,_,_,h,g=>by rw[show _=[] from h];exact g
 |_::_,_,_,_,h,g=>by let⟨v,r,rfl,j,d⟩:=h;exact⟨v,r++_,rfl,j,Rvs.app d g⟩
def Rvs.one{W:Wd}{u:U}(h:Rv B W u v):Rvs B W [u] [v]:=⟨v,[],rfl,h,rfl⟩
theorem Rvs.get{W:Wd}:∀{us:B0}{vs:A0 V},Rvs B W us vs->∀{i:Nat}{u:U},us[i]?=some u->∃v,vs[i]?=some v/\Rv B W u v
 |[],_,_,_,_,e=>by simp at e
 |_::_,_,h,0,_,e=>by let⟨v,r,rfl,d,c⟩:=h;simp at e;subst e;exact⟨v,rfl,d⟩
 |_::_,_,h,i+1,_,e=>by let⟨v,r,rfl,d,c⟩:=h;exact Rvs.get c (by simpa using e)
theorem Rvs.drop{W:Wd}:∀(n:Nat){us:B0}{vs:A0 V},Rvs B W us vs->Rvs B W (us.drop n) (vs.drop n)
 |0,_,_,h=>h
 |_+1,[],_,h=>by rw[show _=[] from h];rfl
 |n+1,_::_,_,h=>by let⟨v,r,rfl,d,c⟩:=h;exact Rvs.drop n c
theorem Rvs.take{W:Wd}:∀(n:Nat){us:B0}{vs:A0 V},Rvs B W us vs->Rvs B W (us.take n) (vs.take n)
 |0,_,_,_=>rfl
 |_+1,[],_,h=>by rw[show _=[] from h];rfl
 |n+1,_::_,_,h=>by let⟨v,r,rfl,d,c⟩:=h;exact⟨v,r.take n,rfl,d,Rvs.take n c⟩
theorem Rvs.set{W:Wd}{u:U}{v:V}(g:Rv B W u v):∀{us:B0}{vs:A0 V}(i:Nat),Rvs B W us vs->Rvs B W (Fx.set us i u) (vs.set i v)
 |[],_,_,h=>by rw[show _=[] from h];rfl
 |_::_,_,0,h=>by let⟨d,r,rfl,j,c⟩:=h;exact⟨v,r,rfl,g,c⟩
 |_::_,_,i+1,h=>by let⟨d,r,rfl,j,c⟩:=h;exact⟨d,_,rfl,j,Rvs.set g i c⟩
def Rn{κ:Type}(B:Bs)(W:Wd):A0 (κ×U)->A0 (κ×V)->Prop
 |[],vs=>vs=[]
 |x::c,vs=>∃v r,vs=(x.1,v)::r/\Rv B W x.2 v/\Rn B W c r
theorem Rn.lf{κ:Type}{W W':Wd}(le:W.Lf W'):∀{us:A0<|κ×U}{vs:A0<|κ×V},Rn B W us vs->Rn B W' us vs
 |[],_,h=>h
 |_::_,_,h=>let ⟨v,r,e,d,c⟩:=h;⟨v,r,e,d.lf le,Rn.lf le c⟩
theorem Rn.length{κ:Type}{W:Wd}:∀{us:A0<|κ×U}{vs:A0<|κ×V},Rn B W us vs->vs.length=us.length
 |[],_,h=>by rw[show _=[] from h];rfl
 |_::_,_,h=>by let⟨v,r,rfl,_,c⟩:=h;simp[Rn.length c]
def Ro(B:Bs)(W:Wd):Ob->HO->Prop
 |.lst j,o=>∃vs,o=.lst vs/\Rvs B W j vs
 |.dct d,o=>∃vs,o=.dK vs/\Rn B W d vs
 |.ins C fs,o=>∃c m vs,B.cl C c/\o=.ins c m vs/\Rn B W fs vs
 |.dead,o=>∃vs,o=.lst vs
theorem Ro.lf{W W':Wd}(le:W.Lf W'):∀{o:Ob}{h:HO},Ro B W o h->Ro B W' o h
 |.lst _,_,h=>let ⟨vs,e,r⟩:=h;⟨vs,e,r.lf le⟩
 |.dct _,_,h=>let ⟨vs,e,r⟩:=h;⟨vs,e,r.lf le⟩
 |.ins _ _,_,h=>let ⟨c,d,vs,m,e,r⟩:=h;⟨c,d,vs,m,e,r.lf le⟩
 |.dead,_,h=>h
def Ro.mono{W:Wd}(le:W.Le W'){o:Ob}(r:Ro B W o h):Ro B W' o h:=r.lf le.lf
structure RS(B:Bs)(W:Wd)(S:So)(H:Hp):Prop where
 fz:∀p o,W.F p=some o->H p=some o
 len:W.μ.length=S.length
 nd:∀a b p,at? W.μ a=some p->at? W.μ b=some p->a=b
 ob:∀a p,at? W.μ a=some p->∃o h,at? S a=some o/\H p=some h/\Ro B W o h/\(o=.dead\/W.F p=none)
 pf:∀q∈W.pr,H q.1=some q.2/\W.F q.1=none/\(∀a,at? W.μ a≠some q.1)/\∀vs,q.2≠.tup vs
section
variable{J:Type}
theorem nz:∀{l:A0 J}{i:Nat}{v:J},at? l i=some v->i<l.length
 |_::_,0,_,_=>⋯
 |_::r,i+1,v,h=>by have:=nz (l:=r) (i:=i) h;simp;lia
theorem ka:∀{l:A0 J}{i:Nat},i<l.length->∃v,at? l i=some v
 |v::_,0,_=>⟨v,rfl⟩
 |_::r,i+1,h=>ka (l:=r) (i:=i) (by simpa using h)
theorem dR:∀{l r:A0 J}{i:Nat}{v:J},at? l i=some v->at? (l++r) i=some v
 |_::_,_,0,_,h=>h
 |_::l,r,i+1,v,h=>dR (l:=l) (r:=r) (i:=i) h
theorem gR:∀{l:A0 J}{v:J},at? (l++[v]) l.length=some v
 |[],_=>rfl
 |_::l,v=>gR (l:=l) (v:=v)
theorem du:∀{l:A0 J}{v w:J}{i:Nat},at? (l++[v]) i=some w->at? l i=some w\/(i=l.length/\w=v)
 |[],v,w,0,h=>.inr ⟨rfl,(xB3 h).symm⟩
 |[],_,_,_+1,h=>by cases h
 |_::_,_,_,0,h=>.inl h
 |_::l,v,w,i+1,h=>by
  rcases du (l:=l) (v:=v) (w:=w) (i:=i) h with z|⟨z,e⟩
  .exact .inl z
  .exact .inr ⟨by simp[z],e⟩
theorem iB:∀{l:A0 J}{i:Nat}{v:J},(set l i v).length=l.length
 |[],_,_=>rfl
 |_::_,0,_=>rfl
 |_::r,i+1,v=>by show(set r i v).length+1=r.length+1;rw[iB]
theorem li:∀{l:A0 J}{i:Nat}{v:J},i<l.length->at? (set l i v) i=some v
 |_::_,0,_,_=>rfl
 |_::r,i+1,v,h=>li (l:=r) (i:=i) (by simpa using h)
theorem fT:∀{l:A0 J}{i j:Nat}{v:J},i≠j->at? (set l i v) j=at? l j
 |[],_,_,_,_=>rfl
 |_::_,0,0,_,h=>absurd rfl h
 |_::_,0,_+1,_,_=>rfl
 |_::_,_+1,0,_,_=>rfl
 |_::r,i+1,j+1,v,h=>fT (l:=r) (i:=i) (j:=j) ()
end
section
variable{W:Wd}{S:So}{H H':Hp}{p:A7}
def RS.here(r:RS B W S H){o:Ob}(e:at? S a=some o):∃p h,at? W.μ a=some p/\H p=some h/\Ro B W o h/\(o=.dead\/W.F p=none):=by
 have m:=nz e;let⟨p,c⟩:=ka (l:=W.μ) (i:=a) (by rw[r.len];exact m);let⟨y,h,d,w,j,q⟩:=r.ob a p c;rw[e] at d;cases d;exact⟨p,h,c,w,j,q⟩
def RS.same(r:RS B W S H)(s:zF4 H H'):RS B W S H':=
 ⟨λp o h=>s _ _<|r.fz p o h,r.len,r.nd,λa p h=>let ⟨o,g,e,j,d,q⟩:=r.ob a p h;⟨o,g,e,s _ _ j,d,q⟩,λq c=>⟨s _ _ (r.pf q c).1,(r.pf q c).2⟩⟩
def RS.add(r:RS B W S H)(e:H p=some o)(w:∀a,at? W.μ a≠some p)(hp:∀q∈W.pr,q.1≠p):W.Le {W with F:=upd W.F p o}/\RS B {W with F:=upd W.F p o} S H:=by
 have le:W.Le { W with F:=upd W.F p o }:=⟨λb c h=>by
  by_cases z:b=p
  .subst z;rw[r.fz _ _ h] at e;cases e;exact bz
  .show upd W.F p o b=_;rw[bx z];exact h,λ_ _ h=>h,rfl⟩
 refine⟨le,⟨λb c h=>?_,r.len,r.nd,λa b h=>?_,λq d=>?_⟩⟩
 .by_cases z:b=p
  .subst z;have:some o=some c:=by rw[<- h];exact bz.symm
   cases this;exact e
  .exact r.fz b c (by rw[<- h];exact(bx z).symm)
 .let⟨c,g,I,y,m,q⟩:=r.ob a b h;refine⟨c,g,I,y,m.mono le,q.imp id λz=>?_⟩;show upd W.F p o b=none;rw[bx λj=>w a<|by rw[<- j];exact h];exact z
 .let⟨G,D,A⟩:=r.pf q d;exact⟨G,by show upd W.F p o q.1=none;rw[bx<|hp q d];exact D,A⟩
def RS.addT(r:RS B W S H)(e:H p=some (.tup vs)):W.Le {W with F:=upd W.F p<|.tup vs}/\RS B {W with F:=upd W.F p<|.tup vs} S H:=by
 by_cases z:W.F p=some (.tup vs)
 .have:upd W.F p (.tup vs)=W.F:=by
   funext b
   by_cases y:b=p
   .rw[y,bz,z]
   .rw[bx y]
  rw[this];exact⟨.refl,r⟩
 .refine r.add e (λa h=>?_) λq d z=>?_
  .let⟨o,g,m,j,c,q⟩:=r.ob a p h;rw[e] at j;cases j;cases o with
   |lst _=>let⟨_,z,_⟩:=c;cases z
   |dct _=>let⟨_,z,_⟩:=c;cases z
   |ins _ _=>let⟨_,_,_,_,z,_⟩:=c;cases z
   |dead=>let⟨_,z⟩:=c;cases z
  .rw[<- z,(r.pf q d).1] at e;exact(r.pf q d).2.2.2 vs<|xB3 e
def RS.fresh(r:RS B W S H)(e:H p=none):W.Le {W with F:=upd W.F p o}/\RS B {W with F:=upd W.F p o} S (upd H p o):=by
 refine(r.same<|dB e o).add bz (λa h=>?_) λq d z=>?_
 .let⟨_,g,_,c,_⟩:=r.ob a p h;rw[e] at c;cases c
 .rw[<- z,(r.pf q d).1] at e;cases e
def RS.push{o:Ob}(r:RS B W S H)(e:H p=none)(D:Ro B {W with μ:=W.μ++[p]} o h):W.Le {W with μ:=W.μ++[p]}/\RS B {W with μ:=W.μ++[p]} (S++[o]) (upd H p h)/\at? (W.μ++[p]) S.length=some p:=by
 have le:W.Le {W with μ:=W.μ++[p]}:=⟨λ_ _ h=>h,λa b h=>dR h,rfl⟩
 have nm:∀a,at? W.μ a≠some p:=λa z=>by
  let⟨_,g,_,j,_⟩:=r.ob a p z;rw[e] at j;cases j
 have J:W.F p=none:=by
  cases z:W.F p with
  |none=>rfl
  |some d=>rw[r.fz _ _ z] at e;cases e
 have m:=dB e h;refine⟨le,⟨λb d z=>m _ _<|r.fz b d z,by simp[r.len],λa b q c y=>?_,λa q c=>?_,λq I=>?_⟩,by rw[<- r.len];exact gR⟩
 .rcases du c with z1|⟨z1,e1⟩ <;> rcases du y with z2|⟨z2,e2⟩
  .exact r.nd a b q z1 z2
  .exact absurd (e2▸z1)<|nm a
  .exact absurd (e1▸z2)<|nm b
  .rw[z1,z2]
 .rcases du c with z1|⟨z1,e1⟩
  .let⟨d,g,K,j,w,G⟩:=r.ob a q z1;exact⟨d,g,dR K,m _ _ j,w.mono le,G⟩
  .subst e1;exact⟨o,h,by rw[z1,r.len];exact gR,bz,D,.inr J⟩
 .let⟨c,y,A⟩:=r.pf q I;refine⟨m _ _ c,y,λa z=>?_,A.2⟩;rcases du z with z1|⟨_,e1⟩
  .exact A.1 a z1
  .rw[e1,e] at c;cases c
def RS.mut{o o':Ob}(r:RS B W S H)(d:at? W.μ a=some p)(e:at? S a=some o)(I:o≠.dead)(D:Ro B W o' h):RS B W (set S a o')<|upd H p h:=by
 have w:W.F p=none:=by
  let⟨o2,g,j,_,_,q⟩:=r.ob a p d;rw[e] at j;cases j;exact q.resolve_left I
 refine⟨λb o2 z=>?_,by rw[iB];exact r.len,r.nd,λb q c=>?_,λq J=>?_⟩
 .rw[bx λy=>by rw[y,w] at z;cases z];exact r.fz b o2 z
 .by_cases y:a=b
  .subst y;rw[d] at c;cases c;exact⟨o',h,li<|nz e,bz,D,.inr w⟩
  .let⟨o2,g,j,K,m,G⟩:=r.ob b q c;exact⟨o2,g,by rw[fT y];exact j,by rw[bx λz=>y<|r.nd a b p d<|by rw[<- z];exact c];exact K,m,G⟩
 .let⟨c,L,A⟩:=r.pf q J;exact⟨by rw[bx λz=>A.1 a<|by rw[z];exact d];exact c,L,A⟩
def RS.freeze{xs:B0}(r:RS B W S H)(e:at? S a=some (.lst xs))(d:at? W.μ a=some p):∃W',W.Le W'/\RS B W' (set S a .dead) H/\Rv B W' (.lst xs) (.ref p):=by
 let⟨o,g,j,G,J,q⟩:=r.ob a p d;rw[e] at j;cases j;let⟨vs,rfl,m⟩:=J;have M:W.F p=none:=q.resolve_left (by intro z;cases z);have le:W.Le { W with F:=upd W.F p (.lst vs) }:=⟨λb A h=>by
  show upd W.F p _ b=_;rw[bx λy=>by rw[y,M] at h;cases h];exact h,λ_ _ h=>h,rfl⟩
 refine⟨_,le,⟨λb A h=>?_,by rw[iB];exact r.len,r.nd,λb q c=>?_,λq L=>?_⟩,p,vs,rfl,bz,m.mono le⟩
 .by_cases z:b=p
  .subst z;have:some (HO.lst vs)=some A:=by rw[<- h];exact bz.symm
   cases this;exact G
  .exact r.fz b A (by rw[<- h];exact(bx z).symm)
 .by_cases y:a=b
  .subst y;rw[d] at c;cases c;exact⟨.dead,_,li<|nz e,G,⟨vs,rfl⟩,.inl rfl⟩
  .let⟨o2,g,j,D,w,K⟩:=r.ob b q c;refine⟨o2,g,by rw[fT y];exact j,D,w.mono le,K.imp id λz=>?_⟩;show upd W.F p _ q=none;rw[bx λz=>y<|r.nd a b p d<|by rw[<- z];exact c];exact z
 .let⟨c,N,I⟩:=r.pf q L;refine⟨c,?_,I⟩;show upd W.F p _ q.1=none;rw[bx λz=>I.1 a<|by rw[z];exact d];exact N
def RS.hold(r:RS B W S H)(e:H p=none)(A:∀vs,o≠.tup vs):RS B {W with pr:=(p,o)::W.pr} S<|upd H p o:=by
 have m:=dB e o;have c:=r.same m;refine⟨c.fz,c.len,c.nd,λa q h=>let ⟨j,g,D,d,w,y⟩:=c.ob a q h;⟨j,g,D,d,w.lf<|Wd.Lf.pr,y⟩,λq hq=>?_⟩;rcases xAv.mp hq with rfl|hq
 .refine⟨bz,?_,λa z=>?_,A⟩
  .cases z:W.F p with
   |none=>rfl
   |some j=>rw[r.fz _ _ z] at e;cases e
  .let⟨_,g,_,d,_⟩:=r.ob a p z;rw[e] at d;cases d
 .exact c.pf q hq
def RS.held{o':HO}(r:RS B W S H)(c:W.pr=(p,o)::l)(F:∀vs,o'≠.tup vs)(hl:∀q∈l,q.1≠p):RS B {W with pr:=(p,o')::l} S<|upd H p o':=by
 let⟨J,j,d,_⟩:=r.pf (p,o) (by rw[c];exact xAr);refine⟨λb u z=>?_,r.len,r.nd,λa q h=>?_,λq hq=>?_⟩
 .rw[bx λy=>by rw[y,j] at z;cases z];exact r.fz b u z
 .let⟨o2,g,I,G,m,w⟩:=r.ob a q h;exact⟨o2,g,I,by rw[bx λy=>d a<|by rw[<- y];exact h];exact G,m.lf<|Wd.Lf.pr,w⟩
 .rcases xAv.mp hq with rfl|hq
  .exact⟨bz,j,d,F⟩
  .let⟨D,A⟩:=r.pf q (by rw[c];exact xAs _ hq);exact⟨by rw[bx<|hl q hq];exact D,A⟩
def RS.heldF(r:RS B W S H)(c:W.pr=(p,o)::l)(hl:∀q∈l,q.1≠p):RS B {W with pr:=l,F:=upd W.F p o} S H:=by
 let⟨K,J,I,_⟩:=r.pf (p,o) (by rw[c];exact xAr);have lf:W.Lf {W with pr:=l,F:=upd W.F p o}:=⟨λb u z=>by show upd W.F p o b=_;rw[bx λy=>by rw[y,J] at z;cases z];exact z,λ_ _ h=>h⟩
 refine⟨λb u z=>?_,r.len,r.nd,λa q h=>?_,λq d=>?_⟩
 .by_cases y:b=p
  .subst y;have:some o=some u:=by rw[<- z];exact bz.symm
   cases this;exact K
  .exact r.fz b u (by rw[<- z];exact(bx y).symm)
 .let⟨o2,g,L,G,j,m⟩:=r.ob a q h;exact⟨o2,g,L,G,j.lf lf,m.imp id λz=>by show upd W.F p o q=none;rw[bx λy=>I a<|by rw[<- y];exact h];exact z⟩
 .let⟨D,A,w⟩:=r.pf q (by rw[c];exact xAs _ d);exact⟨D,by show upd W.F p o q.1=none;rw[bx<|hl q d];exact A,w⟩
def RS.heldS{b:Ob}(r:RS B W S H)(w:W.pr=(p,o)::l)(hl:∀q∈l,q.1≠p)(F:Ro B {W with pr:=l,μ:=W.μ++[p]} b h):RS B {W with pr:=l,μ:=W.μ++[p]} (S++[b]) (upd H p h)/\at? (W.μ++[p]) S.length=some p:=by
 let⟨P,A,h3,_⟩:=r.pf (p,o) (by rw[w];exact xAr);have lf:W.Lf {W with pr:=l,μ:=W.μ++[p]}:=⟨λ_ _ h=>h,λ_ _ h=>dR h⟩
 refine⟨⟨λc u z=>?_,by simp[r.len],λa c q d D=>?_,λa q d=>?_,λq m=>?_⟩,by rw[<- r.len];exact gR⟩
 .rw[bx λy=>by rw[y,A] at z;cases z];exact r.fz c u z
 .rcases du d with z1|⟨z1,e1⟩ <;> rcases du D with z2|⟨z2,e2⟩
  .exact r.nd a c q z1 z2
  .exact absurd (e2▸z1)<|h3 a
  .exact absurd (e1▸z2)<|h3 c
  .rw[z1,z2]
 .rcases du d with z1|⟨z1,e1⟩
  .let⟨I,g,O,N,j,G⟩:=r.ob a q z1;exact⟨I,g,dR O,by rw[bx λy=>h3 a<|by rw[<- y];exact z1];exact N,j.lf lf,G⟩
  .subst e1;exact⟨b,h,by rw[z1,r.len];exact gR,bz,F,.inr A⟩
 .let⟨M,L,K,J⟩:=r.pf q (by rw[w];exact xAs _ m);refine⟨by rw[bx<|hl q m];exact M,L,λa z=>?_,J⟩;rcases du z with z1|⟨_,e1⟩
  .exact K a z1
  .exact hl q m e1
end
structure Rg(B:Bs)(W:Wd)(O:Sg)(τ:St):Prop where
 l:τ.length=O.length
 v:∀i v,nth O i=some v->∃u,τ[i]?=some (some u)/\Rv B W v u
theorem Rg.mono{W W':Wd}{O:Sg}{τ:St}(r:Rg B W O τ)(le:W.Le W'):Rg B W' O τ:=⟨r.l,λi v h=>let ⟨u,e,q⟩:=r.v i v h;⟨u,e,q.mono le⟩⟩
theorem gf:∀{O:Sg}{i:Nat}{v:U},(put O i v).length=O.length
 |[],_,_=>rfl
 |_::_,0,_=>rfl
 |_::r,i+1,v=>by show(put r i v).length+1=r.length+1;rw[gf]
theorem mh:∀{O:Sg}{i j:Nat}{v w:U},nth (put O i v) j=some w->(i=j/\w=v/\i<O.length)\/(i≠j/\nth O j=some w)
 |[],_,_,_,_,h=>by cases h
 |_::_,0,0,_,_,h=>.inl ⟨rfl,(xB3 h).symm,⋯⟩
 |_::_,0,_+1,_,_,h=>.inr ⟨(),h⟩
 |_::_,_+1,0,_,_,h=>.inr ⟨(),h⟩
 |_::r,i+1,j+1,v,w,h=>by
  rcases mh (O:=r) (i:=i) (j:=j) h with ⟨a,b,c⟩|⟨a,b⟩
  .exact .inl ⟨(),b,by simp;lia⟩
  .exact .inr ⟨(),b⟩
theorem Rg.put{W:Wd}{O:Sg}{τ:St}{i:Nat}{v:U}{u:V}(r:Rg B W O τ)(q:Rv B W v u):Rg B W (put O i v)<|τ.set i<|some u:=by
 refine⟨by rw[List.length_set,gf];exact r.l,λj w h=>?_⟩;rcases mh h with ⟨rfl,rfl,m⟩|⟨a,b⟩
 .exact⟨u,by rw[List.getElem?_set_self<|by rw[r.l];exact m],q⟩
 .let⟨c,e,d⟩:=r.v j w b;exact⟨c,by rw[List.getElem?_set_ne a];exact e,d⟩
structure RX(B:Bs)(W:Wd)(x:Xc)(S:So)(C:A4)(dx:A3 A7)(H:Hp):Prop where
 s:RS B W S H
 c:∃c,B.mg x.cls=some (.ref c)/\C=.ref c
 f:(x.fs=[]/\dx=none)\/∃d vs,dx=some d/\H d=some (.xd vs)/\Rn B W x.fs vs
def XL(B:Bs)(W:Wd)(E:XK):B8:=λx S=>∀W' C c H,W.Le W'->RX B W' x S C c H->E C c H
def XL.up{W W':Wd}{E:XK}{x:Xc}{S:So}(le:W.Le W')(h:XL B W E x S):XL B W' E x S:=λW2 C d H c=>h W2 C d H<|le.trans c
def VL(B:Bs)(W:Wd)(Q:VK):B7:=λv S=>∀W' u H,W.Le W'->RS B W' S H->Rv B W' v u->Q u H
def AL(B:Bs)(W:Wd)(Q:A0 V->Hp->Prop):B0->So->Prop:=λv S=>∀W' u H,W.Le W'->RS B W' S H->Rvs B W' v u->Q u H
def BL(B:Bs)(W:Wd)(Q:A8->Hp->Prop):A8->So->Prop:=λb S=>∀W' H,W.Le W'->RS B W' S H->Q b H
def NL(B:Bs)(W:Wd)(Q:St->Hp->Prop):Sg->So->Prop:=λO S=>∀W' τ H,W.Le W'->RS B W' S H->Rg B W' O τ->Q τ H
section
variable(B)(G:B9)(Ex:St->XK)
def LE(c:B6):TE:=λτ H Q=>∃W O S,RS B W S H/\Rg B W O τ/\c G O S (XL B W<|Ex τ) (VL B W Q)
def LA(c:B'):TA:=λτ H Q=>∃W O S,RS B W S H/\Rg B W O τ/\c G O S (XL B W<|Ex τ) (AL B W Q)
def LT(c:TTx Prop):TT:=λτ H Q=>∃W O S,RS B W S H/\Rg B W O τ/\c G O S (XL B W<|Ex τ) (BL B W Q)
def LEe(W:Wd)(D:zDw):Ee Prop where
 nx:=NL B W D.nx
 rt:=VL B W D.rt
 bk:=NL B W D.bk
 ct:=NL B W D.ct
 x:=λx O S=>∀W' τ C dx H,W.Le W'->RX B W' x S C dx H->Rg B W' O τ->Ex τ C dx H
def LS(c:B5):TS:=λD τ H=>∃W O S,RS B W S H/\Rg B W O τ/\c G O S (LEe B Ex W D)
end
structure zAz(G:B9)(c:B6):Prop where
 m:∀{O S}{x x':B8}{k k':B7},(∀e S,x e S->x' e S)->(∀v S,k v S->k' v S)->c G O S x k->c G O S x' k'
structure zCg(G:B9)(c:B')(n:Nat):Prop where
 m:∀{O S}{x x':B8}{k k':B0->So->Prop},(∀e S,x e S->x' e S)->(∀v S,v.length=n->k v S->k' v S)->c G O S x k->c G O S x' k'
structure zBo(G:B9)(c:TTx Prop):Prop where
 m:∀{O S}{x x':B8}{k k':A8->So->Prop},(∀e S,x e S->x' e S)->(∀v S,k v S->k' v S)->c G O S x k->c G O S x' k'
structure zDl(E E':Ee Prop):Prop where
 nx:∀O S,E.nx O S->E'.nx O S
 rt:∀v S,E.rt v S->E'.rt v S
 bk:∀O S,E.bk O S->E'.bk O S
 ct:∀O S,E.ct O S->E'.ct O S
 x:∀e O S,E.x e O S->E'.x e O S
structure zB0(G:B9)(c:B5):Prop where
 m:∀{O S}{E E':Ee Prop},zDl E E'->c G O S E->c G O S E'
structure Box(p:Prop):Prop where
 h:p
def prP(up:A0<|Str×Str)(p:Pm)(vs:B0)(S:So)(k:B7):Prop:=match pr up p vs S with
 |.ok v S1=>k v S1
 |.stuck=>False
structure zBw(up:A0 (Str×Str))(G:B9):Prop where
 fail:G.fail=False
 prim:∀p vs S x k,G.prim p vs S x k=Box (prP up p vs S k)
 br:∀b p q,G.br b p q=Box (if b=true then p Unit.unit else q Unit.unit)
 call:∀{i vs S}{x x':B8}{k k':B7},(∀e S,x e S->x' e S)->(∀v S,k v S->k' v S)->G.call i vs S x k->G.call i vs S x' k'
section
variable{up:A0<|Str×Str}{G:B9}(g:zBw up G)
include g
theorem zBw.pm{p:Pm}{vs:B0}{x':B8}{c:B7}(d:∀v S,k v S->c v S)(h:G.prim p vs S x k):G.prim p vs S x' c:=by
 rw[g.prim] at h⊢;let⟨h⟩:=h;refine⟨?_⟩;unfold prP at h⊢;cases e:pr up p vs S with
 |ok v S1=>rw[e] at h;exact d _ _ h
 |stuck=>rw[e] at h;exact h
theorem zBw.pok{p:Pm}{vs:B0}(h:G.prim p vs S x k):∃v S1,pr up p vs S=.ok v S1/\k v S1:=by
 rw[g.prim] at h;let⟨h⟩:=h;unfold prP at h;cases e:pr up p vs S with
 |ok v S1=>rw[e] at h;exact⟨v,S1,rfl,h⟩
 |stuck=>rw[e] at h;exact h.elim
theorem zBw.bm{p d c:Unit->Prop}(m:p Unit.unit->d Unit.unit)(j:q Unit.unit->c Unit.unit)(h:G.br b p q):G.br b d c:=by
 rw[g.br] at h⊢;let⟨h⟩:=h;refine⟨?_⟩;cases b
 .exact j h
 .exact m h
theorem zBw.bk{p:Unit->Prop}(h:G.br b p q):if b=true then p Unit.unit else q Unit.unit:=by
 rw[g.br] at h;exact h.h
theorem zBw.no(h:G.fail):False:=by rw[g.fail] at h;exact h
theorem mV:zAz G<|cV i:=⟨λd c h=>by
 unfold cV at h⊢;split at h
 .exact c _ _ h
 .exact h⟩
theorem mC{u:U}:zAz G<|cC u:=⟨λd c h=>c _ _ h⟩
theorem mAN:zCg G aN 0:=⟨λd c h=>c _ _ rfl h⟩
theorem mAC{r:B'}(a:zAz G e)(b:zCg G r n):zCg G (aC e r)<|n+1:=⟨λc j h=>a.m c (λv S1=>b.m c λvs S2 d=>j _ _<|by simp[d]) h⟩
theorem mP{p:Pm}(a:zCg G as n):zAz G<|cP p as:=⟨λc d h=>a.m c (λvs S1 _ j=>g.pm d j) h⟩
theorem mT(a:zCg G as n):zAz G<|cT as:=⟨λc d h=>a.m c (λvs S1 _ j=>d _ _ j) h⟩
theorem mF(a:zCg G as n):zAz G<|cF i as ds:=⟨λc d h=>a.m c (λvs S1 _ j=>g.call c d j) h⟩
theorem mM{m:Str}{o:B6}(b:zAz G o)(a:zCg G as n):zAz G<|cM C m i o as ds:=⟨λc d h=>b.m c (λv S1 r=>g.pm (λw S2 p=>a.m c (λvs S3 _ j=>g.call c d j) p) r) h⟩
theorem mK(a:zCg G as n):zAz G<|cK C i as ds:=⟨λd j h=>a.m d (λvs S1 _ y=>g.pm (λw S2 p=>g.call (λ_ _ h=>h) (λr S3 c=>by cases r <;> first|exact j _ _ c|exact c) p) y) h⟩
theorem mBM{T:String}{p:Pm}{o:B6}(b:zAz G o)(a:zCg G as n):zAz G<|cBM T p o as:=⟨λc d h=>b.m c (λv S1 y=>g.pm (λw S2 r=>a.m c (λvs S3 _ j=>g.pm d j) r) y) h⟩
theorem mB(a:zAz G e):zBo G<|tB e:=⟨λd j h=>a.m d (λv S1 c=>by cases v <;> first|exact j _ _ c|exact c) h⟩
theorem mNt(a:zBo G t):zBo G<|tNt t:=⟨λc d h=>a.m c (λv S1 j=>d _ _ j) h⟩
theorem mAn{u:TTx Prop}(a:zBo G t)(b:zBo G u):zBo G<|tAn t u:=⟨λc d h=>a.m c (λv S1 j=>g.bm (b.m c d) (d _ _) j) h⟩
theorem mOr{u:TTx Prop}(a:zBo G t)(b:zBo G u):zBo G<|tOr' t u:=⟨λc d h=>a.m c (λv S1 j=>g.bm (d _ _) (b.m c d) j) h⟩
theorem mCB(a:zBo G t):zAz G<|cB t:=⟨λc d h=>a.m c (λv S1 j=>d _ _ j) h⟩
theorem mIf{f:B6}(a:zBo G t)(b:zAz G e)(c:zAz G f):zAz G<|cIf t e f:=⟨λd j h=>a.m d (λv S1 p=>g.bm (b.m d j) (c.m d j) p) h⟩
theorem mCh{p q:Pm}{a b c:B6}(H:zAz G a)(F:zAz G b)(D:zAz G c):zBo G<|tCh p q a b c:=⟨λd j h=>H.m d (λv S1=>F.m d λw S2=>g.pm λr S3 A=>by
 cases r <;> first|exact A|exact g.bm (D.m d λz S4=>g.pm λr2 S5 y=>by cases r2 <;> first|exact j _ _ y|exact y) (j _ _) A) h⟩
theorem mN:zB0 G sN:=⟨λl h=>l.nx _ _ h⟩
omit g in
theorem zDl.sq{nx:Sg->So->Prop}(l:zDl E E')(h:∀O S,nx O S->nx' O S):zDl (sqE E nx)<|sqE E' nx':=⟨h,l.rt,l.bk,l.ct,l.x⟩
omit g in
theorem zDl.lp{nx:Sg->So->Prop}(l:zDl E E')(h:∀O S,nx O S->nx' O S):zDl (lpE E nx)<|lpE E' nx':=⟨h,l.rt,l.nx,h,l.x⟩
omit g in
theorem zDl.xc{x x':Xc->Sg->So->Prop}(l:zDl E E')(h:∀e O S,x e O S->x' e O S):zDl (xcE E x)<|xcE E' x':=⟨l.nx,l.rt,l.bk,l.ct,h⟩
theorem mQ{t u:B5}(a:zB0 G t)(b:zB0 G u):zB0 G<|sQ t u:=⟨λl h=>a.m (l.sq λ_ _=>b.m l) h⟩
theorem mA(a:zAz G e):zB0 G<|sA i e:=⟨λl h=>a.m (λ_ _=>l.x _ _ _) (λ_ _=>l.nx _ _) h⟩
theorem mU(a:zAz G e):zB0 G<|sU is e:=⟨λl h=>a.m (λ_ _=>l.x _ _ _) (λ_ _=>g.pm λw S h=>by cases w <;> first|exact l.nx _ _ h|exact h) h⟩
theorem mSE(a:zAz G e):zB0 G<|sE e:=⟨λl h=>a.m (λ_ _=>l.x _ _ _) (λ_ _=>l.nx _ _) h⟩
theorem mR(a:zAz G e):zB0 G<|sR e:=⟨λl h=>a.m (λ_ _=>l.x _ _ _) (λ_ _=>l.rt _ _) h⟩
theorem mI{u v:B5}(a:zBo G t)(b:zB0 G u)(c:zB0 G v):zB0 G<|sI t u v:=⟨λl h=>a.m (λ_ _=>l.x _ _ _) (λ_ _=>g.bm (b.m l)<|c.m l) h⟩
theorem mSP{p:Pm}{c:B'}(a:zAz G e)(b:zCg G c n):zB0 G<|sP p e c:=⟨λl h=>a.m (λ_ _=>l.x _ _ _) (λ_ _=>b.m (λ_ _=>l.x _ _ _) λ_ _ _=>g.pm λ_ _=>l.nx _ _) h⟩
theorem zIl{one:A8}{v:U}{O:Sg}{k c:Sg->Prop}(d:∀O,k O->c O)(h:tgt is one G v O k):tgt is one G v O c:=by
 unfold tgt at h⊢;cases one with
 |true=>exact d _ h
 |false=>cases v with
  |tup vs=>
   dsimp only at h⊢;cases e:Nat.beq vs.length is.length with
   |true=>rw[e] at h;exact d _ h
   |false=>rw[e] at h;exact(g.no h).elim
  |_=>exact(g.no h).elim
omit g in
theorem zIm{b m:U->Sg->So->(Sg->So->Prop)->Prop}(j:∀v O S k c,(∀O S,k O S->c O S)->b v O S k->m v O S c):∀{vs:B0}{O:Sg}{S:So}{k c:Sg->So->Prop},(∀O S,k O S->c O S)->zB3 vs b O S k->zB3 vs m O S c
 |[],_,_,_,_,d,h=>d _ _ h
 |v::vs,_,_,_,_,d,h=>j _ _ _ _ _ (λ_ _ z=>zIm j d z) h
theorem mSF{it:B6}{one:A8}{b:B5}(a:zAz G it)(j:zB0 G b):zB0 G<|sF it is one b:=⟨λl h=>a.m (λ_ _=>l.x _ _ _) (λv S1 c=>by
 cases v <;> first|exact c|(dsimp only at c⊢;refine zIm ?_ l.nx c;exact λ_ _ _ _ _ d=>zIl g λ_=>j.m<|l.lp d)) h⟩
theorem mSX{fs:A9}(a:zCg G as n):zB0 G<|sX C fs as:=⟨λl h=>a.m (λ_ _=>l.x _ _ _) (λ_ _ _=>l.x _ _ _) h⟩
omit g in
theorem mLc{b p:U->So->(A3 U->So->Prop)->Prop}(m:∀v S k c,(∀o S,k o S->c o S)->b v S k->p v S c):∀{vs ys:B0}{S:So}{k c:B7},(∀v S,k v S->c v S)->lcK G b vs ys S k->lcK G p vs ys S c
 |[],_,_,_,_,j,h=>j _ _ h
 | v::vs,_,_,_,_,j,h=>m _ _ _ _ (λo S d=>match o,d with
  |some _,d=>mLc m j d
  |none,d=>mLc m j d) h
theorem mL{it:B6}{one:A8}{cs:B1}{t:A3<|TTx Prop}(a:zAz G it)(w:∀u,t=some u->zBo G u)(p:zAz G e):zAz G<|cLx it is one n cs t e:=⟨λj r h=>a.m j (λv S1 d=>by
 cases v with
 |tup vs=>
  erw[<-g.bm (λd=>?_) (λd=>d) d,<-mLc ?_ r d,<-λ_ _ _ _ ho=>zIl g ?_];intro O z;cases t with
  |none=>exact p.m j (λ_ _=>ho _ _) z
  |some u=>exact(w u rfl).m (λ_ _ h=>h) (λc S3=>g.bm (p.m j λ_ _=>ho _ _)<|ho _ _) z
 |_=>exact d) h⟩
theorem zJv{u:U}{b:B5}(c:zB0 G b):zB0 G<|sTr C u b:=⟨λl d=>c.m (l.xc λe O S z=>by
 unfold hdr at z⊢;cases e1:decide (e.cls=C) with
 |false=>rw[e1] at z;exact z
 |true=>rw[e1] at z;exact l.rt _ _ z) d⟩
end
end Fx
namespace L2
open PySem PySem.Spec PyProof.Rows
section
variable{X:Cx}
theorem lH:∀{ws:A9}{us:B4},zAk (ws.map V.str) us->StrsAre us ws
 |[],_,h=>by cases h;exact .nil
 |w::ws,_,h=>by
  cases h with
  |cons a b=>
   let⟨t,rfl⟩:=a;exact .cons w t<|lH b
def zFc(K:xFr):V->B3->Hp->VK->Prop:=λx b H Q=>∃(sep:Str) (l:A7) (a:A9),x=.str sep/\b=[.ref l]/\SqL K H l (a.map V.str)/\(a.map (·.length)).sum+a.length*sep.length<=16777216/\Q (.str<|Txt.join sep a) H
def tW:MtR X "str.join"<|zFc X.K:=by
 intro Z s O H x n v us Q I b c h;let⟨sep,l,a,rfl,rfl,j,i,q⟩:=h;let⟨t,rfl⟩:=b;let⟨u,rfl,d⟩:=c.one;obtain rfl:u=Value.ref l:=d;let⟨e,r1,t1,m⟩:=I.list j;refine join_list t1.isList (ys:=a) (by simpa using lH r1) i λo k=>?_;exact⟨.str _,H,I.tok _,⟨_,rfl⟩,q⟩
def zIy(K:xFr):B3->Hp->VK->Prop:=λa H Q=>∃(p:A7) (bs:A0 A8),a=[.ref p]/\SqL K H p (bs.map V.bl)/\∀b:A8,b=bs.all id->Q (.bl b) H
def oM(bs:A0 A8):(List.range bs.length).all (λi=>bs.getD i true)=bs.all id:=by
 rw[Bool.eq_iff_iff,xCx,xCx];constructor
 .intro h b c;let⟨i,a,rfl⟩:=List.getElem_of_mem c;have:=h i<|List.mem_range.mpr a;rw[xBz,xAk a] at this;exact this
 .intro h i a;have a:=List.mem_range.mp a;rw[xBz,xAk a];exact h _<|List.getElem_mem a
def ye(w:X.calm=true):zAp X (.builtin "all")<|zIy X.K:=by
 intro Z s O H E us Q I r h;let⟨p,bs,rfl,y,q⟩:=h;let⟨u,rfl,d⟩:=zBx r;obtain rfl:u=Value.ref p:=d;let⟨a,r1,t1,D⟩:=I.list y;have k:=r1.length;rw[xAa] at k;have j:p<s.heap.objs.size:=by
  let⟨o,_,e,_⟩:=t1;exact xA1 e
 have c:∀(i:Nat)(v:A4),a.toArray[i]?=some v->v=Value.bool (bs.getD i true):=λi v e=>by
  have n:a[i]?=some v:=by simpa using e
  have m:i<bs.length:=by rw[k];exact(xAq.mp n).1
  let⟨u,l,d⟩:=r1.get (i:=i) (x:=.bl bs[i]) (by rw[xAw,xAk m];rfl);rw[n] at l;cases l;rw[xBz,xAk m];exact d
 erw[<-call_all_walk<|wpAny_pyIter_list t1.isList ?_,<-⟨s.heap.objs.size,[s.heap.objs.size,p],[s.heap.objs.size],_,_,_,λi=>bs.getD i true,rfl,Walks.list (A:=X.A.in1) (I.ok.hd w) s.heap.objs.size p (xA0 j) a.toArray,⟨⟨_,xAl _ rfl,rfl,rfl⟩,t1.isList.push _⟩,λi v F Q' E' C B=>?_,λG tk t=>?_⟩]
 .rw[c i v C];exact wpAny_truthy_bool B
 .refine⟨.bl _,H,I.kept (t':=tk) λb o e=>t b o ?_<|xAf _ e,rfl,q _ ?_⟩
  .rw[xAm];exact xA0<|xA1 e
  .rw[xAp,<- k];exact oM bs
end
noncomputable def Its(z:Str):It:=⟨λi _=>i<z.cps.size,λi H x H'=>H'=H/\∃c,z.cps[i]?=some c/\x=.str ⟨#[c]⟩,λi _=>i=z.cps.size⟩
def jk{P:Program}{w:World}{K:xFr}{R:A6}(it:A7)(z:Str)(t:Tok)(ty:String)(y:["enumerate","zip","dict_itemiterator","dict_reverseitemiterator","odict_iterator","itertools.zip_longest","itertools.pairwise"].contains ty=false)(W:∀A':Around,A'.handled=none->Walks P w A' it [it] [it] z.cps.size (SignAt z) (λi h=>h.IsStrIter it ty z t i))(j:∀(A:Around)(i:Nat)(s:A5)(Q:A4->A5->Prop)(E:A4->A5->Prop),s.heap.IsStrIter it ty z t i->Q (.ref it) s->wpAny (model P w) A (pyIter<|.ref it) Q E s) :
  zEl P w K R (Its z) [it] it (λi h=>h.IsStrIter it ty z t i) where
 mem:=by simp
 obj:=λi h a b l=>by
  have e:b=it:=by simpa using l
  subst e;let⟨o,e,c,d⟩:=a;exact⟨o,e,λv z=>by rw[d] at z;cases z⟩
 keep:=λi h q a k=>by
  let⟨o,e,r⟩:=a;exact⟨o,k it ⋯ o e,r⟩
 item:=by
  intro X D x F C i Z s O H E I p a n;subst D x F;let⟨N,M,Y,L,J,G⟩:=p it ⋯;refine(W X.A<|I.ok.hd C).item i s _ _ n a λv q tk T m S=>?_;let⟨c,u,B,rfl⟩:=T;have I1:Inv X Z O H {s with heap:=q,toks:=tk}:=I.turned (λb o l e=>S b o (by simpa using l) e) N M L J G;let⟨o,e,c',d⟩:=id m;exact⟨_,rfl,mW (s:={s with heap:=q,toks:=tk}) e c' d y ⟨.str ⟨#[c]⟩,H,I1,⟨u,rfl⟩,⟨rfl,c,B,rfl⟩,m,λb l=>(p b l).1⟩⟩
 done:=by
  intro X D x F C i Z s O H E I p a n;subst D x F;let⟨N,M,Y,L,J,G⟩:=p it ⋯;have n:i=z.cps.size:=n;subst n;exact(W X.A<|I.ok.hd C).done s _ _ a λq tk eb=>⟨rfl,I.turned (t':=tk) (λb o l e=>eb b o (by simpa using l) e) N M L J G⟩
 self:=j
def zDp(x:V)(H:Hp)(R:It->Hp->Prop):Prop:=∃z:Str,x=.str z/\R (Its z) H
def rR:bootBuiltins "zip"=some (.type "zip"):=by decide +kernel
def zFb:R2:=λx y H Q=>∃(z:Str) (b:A8),x=.str z/\y=.int (if b then 1 else 0)/\Q (.str<|if b then z else Str.empty) H
section
variable{X:Cx}
def tN:OpR X (binaryOp .Mult) zFb:=by
 intro Z s O H x y v u Q I c a h;let⟨z,b,rfl,rfl,q⟩:=h;let⟨t,rfl⟩:=c;let⟨t2,rfl⟩:=a;cases b
 .exact PySem.P.mul_str_none ∅ ∅ ⟨.str _,H,I.tok _,⟨_,rfl⟩,q⟩
 .exact PySem.P.mul_str ∅ (λ_ z=>by simp at z) (λ_ z=>by simp at z) ⟨.str _,H,I,⟨_,rfl⟩,q⟩
end
def KD(w:World)(K:xFr)(a:A7):Prop:=∃es n,K.lookup a=some ⟨.type "dict",none,.dict es n,#[]⟩/\PySem.W.KeysLit w.params es.toList/\(a==sysModules)=false
end L2
namespace RevA
open PySem PySem.Spec PyProof.Rows
variable{Q E:A4->A5->Prop}{prog:Program}{w:World}{A:Around}{s:A5}
structure ZAp(z TI TO i1 i2:A7)(f1 f2:A0 A7):Prop where
 q1:TI≠z
 q2:TO≠z
 q3:i1≠z
 q4:i2≠z
 q5:TI≠TO
 q6:TI≠i1
 q7:TI≠i2
 q8:TO≠i1
 q9:TO≠i2
 qa:i1≠i2
 n1:z∉f1
 n2:z∉f2
 n3:TO∉f1
 n4:TO∉f2
 n5:i1∉f2
 n6:i2∉f1
section
variable{prog:Program}{w:World}{A:Around}{E:A4->A5->Prop}{s:A5}{z TI TO i1 i2:A7}{f1 f2:A0 A7}{n1 n2 k:Nat}{P1 P2:Nat->A4->Prop}{S1 S2:Nat->Heap->Prop}{a b:A4}
def oO(D1:Draws prog w A i1 f1 n1 P1 S1)(D2:Draws prog w A i2 f2 n2 P2 S2)(D:ZAp z TI TO i1 i2 f1 f2)(C:IsZip s.heap z TI TO .none)(W:IsPair s.heap TI (.ref i1)<|.ref i2)(T:IsPair s.heap TO a b)(R:S1 k s.heap)(P:S2 k s.heap)(l1:k<n1)(l2:k<n2)(q:∀x y h' tk,P1 k x->P2 k y->IsZip h' z TI TO (rawInt s.heap.objs.size)->IsPair h' TO x y->S1 (k+1) h'->S2 (k+1) h'->IsPair h' s.heap.objs.size x y->(∀c o,c≠z->c≠TO->c≠i1->c≠i2->s.heap.get? c=some o->h'.get? c=some o) ->
   Q (.ref s.heap.objs.size) {s with heap:=h',toks:=tk}):wpAny (model prog w) A (Builtin.«zip.__next__» ⟨[.ref z],[]⟩) (λY s'=>∃v,Y=.done (.ret v)/\Q v s') E s:=by
 let⟨S,g,d,O,m⟩:=s;change wpAny _ _ (field (.ref z) 2>>=_) _ _ _;refine xAd<|xDa C rfl (x:=.bool false) rfl ?_;change wpAny _ _ (field (.ref z) 3>>=_) _ _ _;refine xAd<|xDa C rfl (x:=.ref TI) rfl<|xAd<|wpAny_seqItems W rfl ?_;change wpAny _ _ (Builtin.SmallTypes.ownedTupleIsFree (.ref z)>>=_) _ _ _;erw[xAd];unfold Builtin.SmallTypes.ownedTupleIsFree;refine xAd<|xDa C rfl (x:=.none) rfl<|xAe ?_;simp only[if_true];erw[<-xAd<|wpAny_rule<|xAd<|xDa C rfl (x:=.ref TO) rfl ?_,<-xAd<|wpAny_setField_rec C ⋯ λH N b1=>?_]
 replace N:IsZip H z TI TO .ellipsis:=N
 replace b1:Heap.SameBut z S H:=b1
 erw[xAd];simp only[List.zipIdx_cons,List.zipIdx_nil,List.forIn_cons,List.forIn_nil];refine xAd<|xAd<|wpAny_onRaise ?_;change wpAny _ _ (Builtin.SmallTypes.nextOf (.ref i1)>>=_) _ _ _;have t1:S1 k H:=D1.frame _ _ _ R λc h o e=>b1.extBut c o (λy=>D.n1<|y▸h) e;refine xAd<|D1.item k ⟨H,g,d,O,m⟩ _ _ l1 t1 λx G l px t2 b2=>xAe ?_
 replace b2:Heap.SameBut i1 H G:=b2
 have o2:IsPair G TO a b:=b2.extBut _ _ D.q8<|b1.extBut _ _ D.q2 T;erw[<-xAd<|wpAny_seqItems (s:=⟨G,g,d,l,m⟩) o2 rfl ?_,<-xAd<|wpAny_updateSeq_pair (s:=⟨G,g,d,l,m⟩) o2 λt o3 b3=>?_]
 replace o3:IsPair t TO x b:=o3
 replace b3:Heap.SameBut TO G t:=b3
 erw[<-xAd<|wpAny_letGo<|xAe ?_,<-xAd<|xAd<|wpAny_onRaise ?_];change wpAny _ _ (Builtin.SmallTypes.nextOf (.ref i2)>>=_) _ _ _;have u3:S2 k t:=D2.frame _ _ _ P λc h o e=>b3.extBut c o (λy=>D.n4<|y▸h)<|b2.extBut c o (λy=>D.n5<|y▸h)<|b1.extBut c o (λy=>D.n2<|y▸h) e;have t3:S1 (k+1) t:=D1.frame _ _ _ t2 λc h o e=>b3.extBut c o (λy=>D.n3<|y▸h) e;refine xAd<|D2.item k ⟨t,g,d,l,m⟩ _ _ l2 u3 λy r j py u4 b4=>xAe ?_
 replace b4:Heap.SameBut i2 t r:=b4
 have o4:IsPair r TO x b:=b4.extBut _ _ D.q9 o3;have t4:S1 (k+1) r:=D1.frame _ _ _ t3 λc h o e=>b4.extBut c o (λy=>D.n6<|y▸h) e;erw[<-xAd<|wpAny_seqItems (s:=⟨r,g,d,j,m⟩) o4 rfl ?_,<-xAd<|wpAny_updateSeq_pair (s:=⟨r,g,d,j,m⟩) o4 λi J p=>?_]
 replace J:IsPair i TO x y:=J
 replace p:Heap.SameBut TO r i:=p
 refine xAd<|wpAny_letGo<|xAe<|xAe ?_;have t5:S1 (k+1) i:=D1.frame _ _ _ t4 λc h o e=>p.extBut c o (λy=>D.n3<|y▸h) e;have u5:S2 (k+1) i:=D2.frame _ _ _ u4 λc h o e=>p.extBut c o (λy=>D.n4<|y▸h) e;erw[<-xAd<|wpAny_seqItems (s:=⟨i,g,d,j,m⟩) J rfl ?_,<-xAd<|wpAny_newTuple ?_];have sz:i.objs.size=S.objs.size:=by rw[p.1,b4.1,b3.1,b2.1,b1.1]
 have z5:IsZip i z TI TO .ellipsis:=p.extBut _ _ D.q2.symm<|b4.extBut _ _ D.q4.symm<|b3.extBut _ _ D.q2.symm<|b2.extBut _ _ D.q3.symm N;have kk:∀c o,c≠z->c≠TO->c≠i1->c≠i2->S.get? c=some o->i.get? c=some o:=λc o n K c3 Z e=>p.extBut _ _ K<|b4.extBut _ _ Z<|b3.extBut _ _ K<|b2.extBut _ _ c3<|b1.extBut _ _ n e;have B:z<i.objs.size:=xA1 z5;change wpAny _ _ (Builtin.SmallTypes.ownedTupleHandOut (.ref z) (.ref i.objs.size)>>=_) _ _ _;erw[xAd];unfold Builtin.SmallTypes.ownedTupleHandOut;have z6:IsZip (i.push {cls:=.type "tuple",data:=.seq #[x,y]}) z TI TO .ellipsis:=xAf _ z5;refine xAd<|wpAny_setField_rec z6 ⋯ λX M b7=>?_
 replace M:IsZip X z TI TO<|rawInt i.objs.size:=M
 refine wpAny_setField_rec M ⋯ λF I L=>?_
 replace I:IsZip F z TI TO<|rawInt i.objs.size:=I
 replace b7:Heap.SameBut z (i.push {cls:=.type "tuple",data:=.seq #[x,y]}) X:=b7
 replace L:Heap.SameBut z X F:=L
 have up:∀c o,c≠z->i.get? c=some o->F.get? c=some o:=λc o n e=>L.extBut _ _ n<|b7.extBut _ _ n<|xAf _ e;have T8:IsPair F i.objs.size x y:=L.extBut _ _ (Nat.ne_of_gt B)<|b7.extBut _ _ (Nat.ne_of_gt B)<|xAl _ rfl;rw[sz] at I T8;refine xAe ⟨_,rfl,?_⟩;change Q (.ref i.objs.size) _;rw[sz];exact q x y F j px py I (up _ _ D.q2 J) (D1.frame _ _ _ t5 λc h o e=>up c o (λy=>D.n1<|y▸h) e) (D2.frame _ _ _ u5 λc h o e=>up c o (λy=>D.n2<|y▸h) e) T8 λc o n K c3 Z e=>up c o n<|kk c o n K c3 Z e
def oP{Q:Fin->A5->Prop}(D1:Draws prog w A i1 f1 n1 P1 S1)(D:ZAp z TI TO i1 i2 f1 f2)(h:IsZip s.heap z TI TO .none)(n:IsPair s.heap TI (.ref i1)<|.ref i2)(l:S1 n1 s.heap)(q:∀h' e,(∀c o,c≠z->c≠TO->c≠i1->c≠i2->s.heap.get? c=some o->h'.get? c=some o)->(∃o,h'.get? e=some o/\o.cls=.type "StopIteration")->E (.ref e) {s with heap:=h'}) :
  wpAny (model prog w) A (Builtin.«zip.__next__» ⟨[.ref z],[]⟩) Q E s:=by
 change wpAny _ _ (field (.ref z) 2>>=_) _ _ _;refine xAd<|xDa h rfl (x:=.bool false) rfl ?_;change wpAny _ _ (field (.ref z) 3>>=_) _ _ _;refine xAd<|xDa h rfl (x:=.ref TI) rfl<|xAd<|wpAny_seqItems n rfl ?_;change wpAny _ _ (Builtin.SmallTypes.ownedTupleIsFree (.ref z)>>=_) _ _ _;erw[xAd];unfold Builtin.SmallTypes.ownedTupleIsFree;refine xAd<|xDa h rfl (x:=.none) rfl<|xAe ?_;simp only[if_true];erw[<-xAd<|wpAny_rule<|xAd<|xDa h rfl (x:=.ref TO) rfl ?_,<-xAd<|wpAny_setField_rec h ⋯ λp j b1=>?_]
 replace j:IsZip p z TI TO .ellipsis:=j
 erw[xAd];simp only[List.zipIdx_cons,List.zipIdx_nil,List.forIn_cons,List.forIn_nil];refine xAd<|xAd<|wpAny_onRaise ?_;change wpAny _ _ (Builtin.SmallTypes.nextOf (.ref i1)>>=_) _ _ _;have t1:S1 n1 p:=D1.frame _ _ _ l λc F o e=>b1.extBut c o (λy=>D.n1<|y▸F) e;refine xAd (D1.done {s with heap:=p} _ _ t1 λH e b2 C=>?_);let⟨B,d,i⟩:=C;have r:IsZip H z TI TO .ellipsis:=b2 _ _ D.q3.symm j;have m:e≠z:=λx=>by subst x;rw[r] at d;cases d;simp at i
 exact wpAny_setField_rec r ⋯ λG _ v=>q G e (λc o t _ I _ x=>v.extBut _ _ t<|b2 _ _ I<|b1.extBut _ _ t x) ⟨B,v.extBut _ _ m d,i⟩
def nC{Q:A3 A4->A5->Prop}(D1:Draws prog w A.in1 i1 f1 n1 P1 S1)(D2:Draws prog w A.in1 i2 f2 n2 P2 S2)(D:ZAp z TI TO i1 i2 f1 f2)(j:IsZip s.heap z TI TO .none)(i:IsPair s.heap TI (.ref i1)<|.ref i2)(h:IsPair s.heap TO a b)(e:S1 k s.heap)(d:S2 k s.heap)(n:k<n1)(m:k<n2)(q:∀x y h' tk,P1 k x->P2 k y->IsZip h' z TI TO (rawInt s.heap.objs.size)->IsPair h' TO x y->S1 (k+1) h'->S2 (k+1) h'->IsPair h' s.heap.objs.size x y->(∀c o,c≠z->c≠TO->c≠i1->c≠i2->s.heap.get? c=some o->h'.get? c=some o) ->
   Q (some<|.ref s.heap.objs.size) {s with heap:=h',toks:=tk}):wpAny (model prog w) A (pyNext<|.ref z) Q E s:=by
 have l:s.TypeIs (.ref z) "zip":=⟨_,j,rfl⟩
 unfold pyNext;exact xAd<|wpAny_attempt<|wpAny_callSpecial?_slot (name:=Str.ofString "__next__") l PySem.F.slot_zip_next (wpAny_call_entry PySem.F.slot_zip_next l PySem.F.entry_zip_next
  (oO D1 D2 D j i h e d n m λx y h' tk r1 r2 r3 r4 r5 r6 r7 r8=>xAe<|q x y h' tk r1 r2 r3 r4 r5 r6 r7 r8) (PySem.F.args_zip_next_1 _))
def nD{Q:A3 A4->A5->Prop}(D1:Draws prog w A.in1 i1 f1 n1 P1 S1)(D:ZAp z TI TO i1 i2 f1 f2)(i:IsZip s.heap z TI TO .none)(h:IsPair s.heap TI (.ref i1)<|.ref i2)(d:S1 n1 s.heap)(q:∀h',(∀c o,c≠z->c≠TO->c≠i1->c≠i2->s.heap.get? c=some o->h'.get? c=some o)->Q none {s with heap:=h'}):wpAny (model prog w) A (pyNext<|.ref z) Q E s:=by
 have j:s.TypeIs (.ref z) "zip":=⟨_,i,rfl⟩
 unfold pyNext;refine xAd<|wpAny_attempt<|wpAny_callSpecial?_slot (name:=Str.ofString "__next__") j PySem.F.slot_zip_next<|wpAny_call_entry PySem.F.slot_zip_next j PySem.F.entry_zip_next (oP D1 D i h d λh' e m n=>?_)<|PySem.F.args_zip_next_1 _;let⟨o,l,p⟩:=n;exact xAd<|wpAny_isInstance (T:="StopIteration") (b:=true) ⟨o,l,p⟩ isSubtype_stop<|xAe<|q _ m
end
def zBj(v:A4)(o:Obj)(h:Heap):Prop:=∀(prog:Program)(w:World)(A:Around)(E:A4->A5->Prop)(s:A5)(Q:A4->A5->Prop),s.heap=h->Q (.ref s.heap.objs.size) {s with heap:=s.heap.push o}->wpAny (model prog w) A (pyIter v) Q E s
def mG{v:A4}{o:Obj}(i:zBj v o s.heap)(h:Q (.ref s.heap.objs.size) {s with heap:=s.heap.push o}):wpAny (model prog w) A (pyIter v) Q E s:=i _ _ _ _ _ _ rfl h
noncomputable abbrev zh3(h:Heap)(o1 o2:Obj):Heap:=((h.push o1).push o2).push {cls:=.type "tuple",data:=.seq #[.ref h.objs.size,.ref (h.push o1).objs.size]}
noncomputable abbrev zh4(h:Heap)(o1 o2:Obj):Heap:=(zh3 h o1 o2).push {cls:=.type "tuple",data:=.seq #[.none,.none]}
noncomputable abbrev zh5(h:Heap)(o1 o2:Obj):Heap:=(zh4 h o1 o2).push {cls:=.type "zip",data:=.fields #[.none,.bool false,.bool false,.ref ((h.push o1).push o2).objs.size,.ref (zh3 h o1 o2).objs.size]}
def sf(b a:A4)(o1 o2:Obj):Meets (Builtin.«zip.__new__» ⟨[.type "zip",b,a],[]⟩) λ_ R s=>zBj b o1 s.heap/\zBj a o2 (s.heap.push o1)/\R (.ok<|.ret<|.ref (zh4 s.heap o1 o2).objs.size) {s with heap:=zh5 s.heap o1 o2}:=
 .of_wp λprog w A R s h=>by
  let⟨k,g,d,tk,i⟩:=s;let⟨e,c,h⟩:=h;have j:=sub_zip;have m:zBj b o1<|Shared.heap ⟨k,g,d,tk,i⟩:=e;have l:zBj a o2<|Shared.heap ⟨k.push o1,g,d,tk,i⟩:=c;wp_walk using mG m,mG l
  exact⟨_,rfl,h⟩
def oQ{b a:A4}{o1 o2:Obj}(r:zBj b o1 s.heap)(p:zBj a o2<|s.heap.push o1)(q:∀h',IsZip h' (s.heap.objs.size+4) (s.heap.objs.size+2) (s.heap.objs.size+3) .none->IsPair h' (s.heap.objs.size+2) (.ref s.heap.objs.size) (.ref<|s.heap.objs.size+1)->IsPair h' (s.heap.objs.size+3) .none .none ->
   (o1.isFreed=false->h'.get? s.heap.objs.size=some o1)->(o2.isFreed=false->h'.get? (s.heap.objs.size+1)=some o2)->(∀c o,s.heap.get? c=some o->h'.get? c=some o)->Q (.ref<|s.heap.objs.size+4) {s with heap:=h'}) :
  wpAny (model prog w) A (call (.type "zip") [b,a]) Q E s:=by
 refine callType_new PySem.F.called_zip ∅ (PySem.F.typeCall_zip_2 _ _) (PySem.F.newCall_zip_2 _ _) (λd=>PySem.F.args_object_init_3 d _ _) PySem.F.entry_zip_new (sf b a o1 o2) ⟨r,p,?_⟩;have j:(s.heap.push o1).objs.size=s.heap.objs.size+1:=Heap.size_push ..;have i:((s.heap.push o1).push o2).objs.size=s.heap.objs.size+2:=by rw[Heap.size_push,j]
 have h:(zh3 s.heap o1 o2).objs.size=s.heap.objs.size+3:=by rw[Heap.size_push,i]
 have n:(zh4 s.heap o1 o2).objs.size=s.heap.objs.size+4:=by rw[Heap.size_push,h]
 have e:(zh5 s.heap o1 o2).get? (zh4 s.heap o1 o2).objs.size=some _:=xAl _ rfl;have k:(zh5 s.heap o1 o2).get? (zh3 s.heap o1 o2).objs.size=some _:=xAf _<|xAl _ rfl;have l:(zh5 s.heap o1 o2).get? ((s.heap.push o1).push o2).objs.size=some _:=xAf _<|xAf _<|xAl _ rfl;have m:o2.isFreed=false->(zh5 s.heap o1 o2).get? (s.heap.push o1).objs.size=some o2:=λf=>xAf _<|xAf _<|xAf _<|xAl _ f;have t:o1.isFreed=false->(zh5 s.heap o1 o2).get? s.heap.objs.size=some o1:=λf=>xAf _<|xAf _<|xAf _<|xAf _<|xAl _ f;change _/\_;rw[i,h,n] at e;rw[j,i] at l;rw[h] at k;rw[j] at m;rw[n];exact⟨⟨_,e,rfl⟩,q _ e l k t m λc o x=>xAf _<|xAf _<|xAf _<|xAf _<|xAf _ x⟩
end RevA
namespace L2
open PySem PySem.Spec PyProof.Rows RevA
def oR{n:Nat}{f1 f2:A0 A7}(m1:∀b∈f1,b=n\/b<n)(i:∀b∈f2,b=n+1\/b<n):ZAp (n+4) (n+2) (n+3) n (n+1) f1 f2:=by
 have h:∀c:Nat,n<c->c∉f1:=λc a z=>by
  rcases m1 c z with e|e
  .exact Nat.ne_of_gt a e
  .exact Nat.not_lt_of_lt a e
 have d:∀c:Nat,n<=c->c≠n+1->c∉f2:=λc a j z=>by
  rcases i c z with e|e
  .exact j e
  .exact Nat.not_lt_of_le a e
 exact⟨⋯,⋯,by simp[xA0],⋯,⋯,⋯,⋯,⋯,⋯,⋯,h _ (),d _ () ⋯,h _ (),d _ () ⋯,d _ (xAg _) ⋯,h _ ()⟩
end L2
namespace Prg
open PySem PySem.NumText PySem.StrLaws PyProof.Rows L2
section
variable{n:Nat}{sc:A9}{pl:Int}{P:A9->D->Prop}{kind:Str}{ds:A0 D}{i:Nat}{s:Ps}{x:D}
variable(h:0<=pl/\pl<=599)
include h
end
end Prg
namespace L2
open PySem PySem.Spec PyProof.Rows
def zD0(K:xFr)(a:A7)(y d:V)(H:Hp)(Q:VK):Prop:=∃x v r,y=.str x/\PySem.W.nsIn K a x=some r/\(∀u,r=some u->zAi v u)/\(r=none->v=d)/\Q v H
def zE0(K:xFr)(a:A7)(te b:TE):TE:=λO H Q=>te O H λy H2=>b O H2 λd H3=>zD0 K a y d H3 Q
section
variable{X:Cx}{o e f:A6}{te tf:TE}{a:A7}{apos cpos:Pos}
theorem qj(d:KD X.w X.K a)(M:PE X o<|tC<|.ref a)(R:PE X e te)(P:PE X f tf)(m:M2 X o "get" apos e f cpos):PE X (.Call (.Attribute o "get" apos) [e,f] [] cpos)<|zE0 X.K a te tf:=by
 let⟨es,n,c,k,L⟩:=d;intro Z s O H Q I h;refine wpAny_Call_method m.base m.few m.line PySem.F.plainAttrs_dict PySem.F.slot_dict_get PySem.F.type_dict_get (thn (M Z s O H (λx H1=>x = .ref a/\te O H1 λy H2=>tf O H2 λd H3=>zD0 X.K a y d H3 Q) I ⟨rfl,h⟩) λu A l=>?_);let⟨x,H1,I1,D,T,J⟩:=l;subst T;obtain rfl:u=Value.ref a:=D;have i:=PySem.W.mapOf_K (prog:=X.prog) (w:=X.w) (λb o e=>I1.kIn b o e) c k;refine⟨i.typeIs,λb e=>⟨_,by cases e;exact I1.kIn a _ c,rfl⟩,?_⟩;rw[m.trees];refine Calls.callWith_builtin rfl<|Calls.evalArgs_plain<|Calls.spliced_cons (thn (R Z A O H1 _ I1 J) λiv p ⟨y,H2,I2,C,G⟩ =>
  Calls.spliced_cons (thn (P Z p O H2 _ I2 G) λS Y ⟨z,H3,I3,B,E⟩=>Calls.spliced_nil ?_))
 let⟨x,v,r,rfl,N,r1,r2,q⟩:=E;let⟨t,rfl⟩:=C;have j:=PySem.W.mapOf_K (prog:=X.prog) (w:=X.w) (λb o e=>I3.kIn b o e) c k;refine call_meetsIn PySem.F.slot_dict_get j.typeIs PySem.F.entry_dict_get (PySem.F.args_dict_get_3 _ _ _) (meets_dict_get_default (strKind X.prog X.w) a (strKind_is X.prog X.w x t) L S) ⟨_,j,?_⟩;rw[PySem.W.find_K c N];cases r with
 |none=>cases r2 rfl;exact⟨_,H3,I3.tok _,B,q⟩
 |some u=>exact⟨v,H3,I3.tok _,r1 u rfl,q⟩
end
end L2
namespace SetA
open PySem PySem.Spec PySem.SetTable PyProof.Rows
variable{t:SetTable}{n:Nat}{l:A0<|Int×A4}
structure UOk(t:SetTable)(n:Nat):Prop where
 msk:t.mask=7
 sz:t.place.size=n
 ris:Ris t.place
 dm:t.dummies=#[]
 few:n<=4
theorem UOk.fits{t:SetTable}{n:Nat}(h:UOk t n):t.fits n=true:=by
 unfold SetTable.fits SetTable.fill;rw[h.sz,h.msk,h.dm];have:=h.few;simp only[beq_self_eq_true,Bool.true_and,decide_eq_true_eq,xAp,List.length_nil];lia
def UOk.full(h:UOk t n):t.tooFull=false:=by
 unfold SetTable.tooFull SetTable.fill;rw[h.sz,h.msk,h.dm];have:=h.few;simp only[decide_eq_false_iff_not,xAp,List.length_nil,ge_iff_le];lia
theorem UOk.fresh(f m:Nat)(a:A8):UOk (SetTable.fresh f m a) 0:=⟨rfl,rfl,λi j b=>absurd b<|Nat.not_lt_zero _,rfl,∅⟩
theorem UOk.plain{t:SetTable}{n:Nat}(h:UOk t n)(b:A8):UOk {t with plain:=b} n:=⟨h.msk,h.sz,h.ris,h.dm,h.few⟩
def UOk.new(H:UOk t n)(es:Array<|Int×A4)(k:es.size=n)(q:n<4)(h:Int)(x:A4) :
  ∃p t' c,layNew t es h x=(insertAt es p (h,x),t',c,false)/\t'.led=t.led/\UOk t' (n+1):=by
 have m:t.mask+1=2^3:=by rw[H.msk]
 have o:t.fill<=t.mask:=by unfold SetTable.fill;rw[H.sz,H.msk,H.dm];simp only[xAp,List.length_nil];lia
 let⟨j,c,e,v,w⟩:=ul m o h;have d:(t.put j).1.place.size=n+1:=by
  show(insertAt t.place (below t.place j) j).size=n+1;rw[dM,H.sz]
 have b:has t.dummies j=false:=by rw[H.dm];rfl
 have i:(t.put j).1.dummies=#[]:=by
  show(if has t.dummies j then eraseAt t.dummies (below t.dummies j) else t.dummies)=#[];rw[b];exact H.dm
 have U:UOk (t.put j).1<|n+1:=⟨H.msk,d,ko H.ris v,i,q⟩
 refine⟨below t.place j,(t.put j).1,c,?_,rfl,U⟩;have a:(t.put j).1.fits (insertAt es (below t.place j) (h,x)).size=true:=by rw[dM,k];exact U.fits
 unfold layNew;rw[e];dsimp only;have r:(t.put j).2=below t.place j:=rfl;rw[r,a];unfold SetTable.orStandIn;rw[a];rfl
noncomputable def zDx(e:Int×A4):Str:=match e.2 with|.str k _=>k|_=>Str.empty
def ZOk(w:World)(l:A0<|Int×A4):Prop:=∀e∈l,∃k t,e=(hashStr w k,Value.str k t)
structure ZIn(w:World)(h:Heap)(a:A7)(es:Array (Int×A4))(ep:Nat)(t:SetTable)(ks:A9):Prop where
 ob:h.get? a=some (zA6 es ep t)
 el:ZOk w es.toList
 ky:es.toList.map zDx=ks
 nd:ks.Nodup
 tb:UOk t es.size
 ld:t.led=true\/w.params.followText "set-order"=true
def zBb(w:World)(h:Heap)(a:A7)(ks:A9):Prop:=∃es b t,ZIn w h a es b t ks
def ZIn.at'{w:World}{h h':Heap}{a:A7}{es ep t ks}(S:ZIn w h a es ep t ks)(e:∀o,h.get? a=some o->h'.get? a=some o):ZIn w h' a es ep t ks:={S with ob:=e _ S.ob}
theorem zBb.at'{w:World}{h h':Heap}{a:A7}{ks}(S:zBb w h a ks)(e:∀o,h.get? a=some o->h'.get? a=some o):zBb w h' a ks:=let ⟨b,c,t,q⟩:=S;⟨b,c,t,q.at' e⟩
theorem ZIn.size{w:World}{h:Heap}{a:A7}{es ep t ks}(S:ZIn w h a es ep t ks):es.size=ks.length:=by
 rw[<- S.ky,xAa,xAh]
section
variable{prog:Program}{w:World}{A:Around}{E:A4->A5->Prop}{s:A5}{a:A7}{es:Array<|Int×A4}{ep:Nat}{t:SetTable}{ks:A9}
def ZOk.elems(h:ZOk w l):ElemsOf (PySem.strKind prog w) l:=by
 intro e b;let⟨k,t,rfl⟩:=h e b;exact⟨⟨k,by simp[PySem.strKind,Value.isStrOf],rfl⟩,rfl⟩
def ZIn.state(S:ZIn w s.heap a es ep t ks){Q:(Array (Int×A4)×Nat×SetTable)->A5->Prop}(h:Q (es,ep,t) s):wpAny (model prog w) A (setState a) Q E s:=
 wpAny_setState_of S.ob rfl S.tb.fits h
def uq(h:ZOk w l)(k:Str):(∀i,l.findIdx? (λe=>(PySem.strKind prog w).is k e.2)=some i->(l.map zDx)[i]?=some k)/\(l.findIdx? (λe=>(PySem.strKind prog w).is k e.2)=none->k∉l.map zDx):=by
 have b:∀e∈l,(PySem.strKind prog w).is k e.2=true↔zDx e=k:=by
  intro e c;let⟨x,t,rfl⟩:=h e c;simp[PySem.strKind,Value.isStrOf,zDx]
 constructor
 .intro i r;let⟨d,m,_⟩:=List.findIdx?_eq_some_iff_getElem.mp r;rw[xAw,xAk d];have:=(b _<|List.getElem_mem d).mp m;simp[this]
 .intro o p;let⟨e,c,q⟩:=xA2.mp p;have j:=List.findIdx?_eq_none_iff.mp o e c;have v:=(b e c).mpr q;rw[v] at j;cases j
def ZIn.stored(S:ZIn w s.heap a es ep t ks){b:Array<|Int×A4}{t':SetTable}{c:A9}(j:ZOk w b.toList)(i:b.toList.map zDx=c)(h:c.Nodup)(e:UOk t' b.size)(d:t'.led=true\/w.params.followText "set-order"=true) :
  ZIn w (s.heap.update a<|Obj.putSet b t') a b (ep+1) t' c:=by
 refine⟨?_,j,i,h,e,d⟩;have:=xA7 (Obj.putSet b t') S.ob (by rw[putSet_of b t' rfl];rfl);rw[putSet_of b t' rfl] at this;exact this
def ZOk.perm{b:A0<|Int×A4}(h:ZOk w l)(p:b.Perm l):ZOk w b:=λe c=>h e<|p.mem_iff.mp c
theorem ZIn.add(S:ZIn w s.heap a es ep t ks)(M:ks.length<4){k:Str}{tk:Tok}{Q:A8->A5->Prop}(h:∀(h':Heap)(c:A9),Heap.SameBut a s.heap h'->zBb w h' a c->(∀x,x∈c↔x=k\/x∈ks)->c.length<=ks.length+1->Q (!decide (k∈ks)) {s with heap:=h'}) :
  wpAny (model prog w) A (setAddHashed a (.str k tk)<|hashStr w k) Q E s:=by
 have L:scanBound=4096:=rfl;have y:(PySem.strKind prog w).is k (.str k tk)=true:=by simp[PySem.strKind,Value.isStrOf]
 have C:ElemsOf (PySem.strKind prog w) es.toList:=S.el.elems;unfold setAddHashed setAddHashedIn;refine xDc<|xAd<|S.state ?_;dsimp only;rw[byScan_of (x:=.str k tk) rfl (by rw[S.size];lia) C];simp only[↓reduceIte];unfold setAddByScan;refine xAd<|xAd<|wpAny_rule ?_;let⟨f1,H⟩:=uq (prog:=prog) (w:=w) S.el k;rw[S.ky] at f1 H;refine xAd<|wpAny_setScan_of (knd:=PySem.strKind prog w) y S.ob rfl S.tb.fits C ?_;cases hr:es.toList.findIdx? (λe=>(PySem.strKind prog w).is k e.2) with
 |some j=>
  dsimp only;have r:k∈ks:=xAc<|f1 j hr;refine xAe<|xAe ?_;have q:=h s.heap ks (Heap.SameBut.refl a s.heap) ⟨es,ep,t,S⟩ (λx=>⟨.inr,λz=>z.elim (λe=>e▸r) id⟩) ();rw[xBd r] at q;cases s;exact q
 |none=>
  dsimp only;have r:k∉ks:=H hr;let⟨p,m,T,e,K,l2⟩:=S.tb.new es rfl (by rw[S.size];exact M) (hashStr w k)<|.str k tk;rw[e];dsimp only;refine xAd<|xAe ?_;have i:=insertAt_perm es p (hashStr w k,Value.str k tk);rw[Array.toList_push] at i;have o:(insertAt es p (hashStr w k,Value.str k tk)).size=es.size+1:=dM _ _ _;have B:ZOk w (insertAt es p (hashStr w k,Value.str k tk)).toList:=by
   refine ZOk.perm (λx hx=>?_) i;rcases xAj.mp hx with hx|hx
   .exact S.el x hx
   .rw[xAm] at hx;exact⟨k,tk,hx⟩
  have v:((insertAt es p (hashStr w k,Value.str k tk)).toList.map zDx).Perm<|k::ks:=by
   erw[(i.map zDx).trans];rw[xAi,S.ky];exact List.perm_append_singleton _ _
  have D:(k::ks).Nodup:=xCb.mpr ⟨r,S.nd⟩;have d:(insertAt es p (hashStr w k,Value.str k tk)).size<=sizeLine:=fits_of_scanBound (by rw[o,S.size];lia);have F:∀(h':Heap)(c:A9),Heap.SameBut a s.heap h'->zBb w h' a c->c.Perm (k::ks)->Q true {s with heap:=h'}:=by
   intro h' c R P J;have q:=h h' c R P (λx=>by rw[J.mem_iff,xAv]) (by rw[J.length_eq,xAo];exact xAg _);rw[xCn r] at q;exact q
  have done:∀t2:SetTable,t2.led=m.led->UOk t2 (es.size+1)->Q true {s with heap:=s.heap.update a<|Obj.putSet (insertAt es p (hashStr w k,Value.str k tk)) t2}:=λt2 O N=>
   F _ _ (Heap.SameBut.update s.heap a<|Obj.putSet (insertAt es p (hashStr w k,Value.str k tk)) t2) ⟨_,_,_,S.stored B rfl (v.nodup_iff.mpr D) (by rw[o];exact N)<|by rw[O,K];exact S.ld⟩ v
  have I:=l2.full;have G:∀b:A8,({m with plain:=b}:SetTable).tooFull=false:=λb=>(l2.plain b).full;cases hp:m.plain with
  |true=>
   simp only[↓reduceIte];erw[xAd];rw[hashByValue_scannable 8 rfl];erw[xAe];cases plainKind (Value.str k tk) with
   |true=>
    simp only[↓reduceIte];refine xAd<|wpAny_storeSet_of S.ob rfl ?_ d;rw[I,Bool.and_false];simp only[xAz,↓reduceIte];exact xAe<|xAe<|done m rfl l2
   |false=>
    simp only[xAz,↓reduceIte];refine xAd<|wpAny_storeSet_of S.ob rfl ?_ d;rw[G,Bool.and_false];simp only[xAz,↓reduceIte];exact xAe<|xAe<|done _ rfl<|l2.plain _
  |false=>
   simp only[xAz,↓reduceIte];refine xAd<|xAe ?_;simp only[↓reduceIte];refine xAd<|wpAny_storeSet_of S.ob rfl ?_ d;rw[I,Bool.and_false];simp only[xAz,↓reduceIte];exact xAe<|xAe<|done m rfl l2
def ou(b:A8)(c:b=true\/w.params.followText "set-order"=true)(h:Heap):ZIn w (h.push<|zA6 #[] 0 (.fresh 0 0 b)) h.objs.size #[] 0 (.fresh 0 0 b) []:=
 ⟨xAl _ rfl,λe d=>absurd d ⋯,rfl,xC7,UOk.fresh 0 0 b,c⟩
end
section
variable{prog:Program}{w:World}{A:Around}{R:Result->A5->Prop}{I:A7}{fp wr:A0 A7}{G:Array GenState->Array GenState->Prop}{n:Nat}{P:Nat->A4->Prop}{St:Nat->A5->Prop}
theorem kT(W:WalksS prog w A.in1 I fp wr G n P St)(S:A7)(E:S∉fp)(val:Nat->Str)(q:∀i v,P i v->∃t,v=.str (val i) t)(hn:n<=4) :
  ∀(k i:Nat)(s:A5)(ks:A9),n-i=k->i<=n->St i s->zBb w s.heap S ks->ks.length<=i->(∀x,x∈ks↔∃j,j<i/\val j=x) ->
   (∀a c,Moved (S::wr) G s a->zBb w a.heap S c->(∀x,x∈c↔∃j,j<n/\val j=x)->R (.ok<|.ret .none) a) ->
   codeAny (model prog w) A (.builtin "set.update.loop" ⟨[.ref S,.ref I],[]⟩) R s:=by
 have D:S∉wr:=λh=>E<|W.sub _ h;have r:∀b∈wr,b∈S::wr:=λb C=>xAs _ C;intro k;induction k with
 |zero=>
  intro i s ks T X d L Q K hR;obtain rfl:i=n:=by lia
  erw[codeAny_builtin PyProof.Rows.F.entry_set_update_loop];rw[Around.under_plainId PyProof.Rows.F.plain_set_update_loop _];change wpAny _ A.in1 (pyNext (.ref I)>>=_) _ _ s;refine xAd (W.done s _ _ d λa p=>?_);change wpAny _ A.in1 (ret Value.none) _ _ a;exact xAe<|hR a ks (p.mono r) (L.at' λo e=>p.heap S _ D e) K
 |succ k O=>
  intro i s ks T X d L Q K hR;have B:i<n:=by lia
  erw[codeAny_builtin PyProof.Rows.F.entry_set_update_loop];rw[Around.under_plainId PyProof.Rows.F.plain_set_update_loop _];change wpAny _ A.in1 (pyNext (.ref I)>>=_) _ _ s;refine xAd (W.item i s _ _ B d λv a Y y p=>?_);let⟨t,rfl⟩:=q i v Y;have m:zBb w a.heap S ks:=L.at' λo e=>p.heap S _ D e;change wpAny _ A.in1 (holding [Value.str (val i) t] (setAdd S<|.str (val i) t)>>=_) _ _ a;refine xAd<|xDc ?_;unfold setAdd;erw[xDc,<-xAd<|(PySem.strKind prog w).pyHash (k:=val i) (PySem.strKind_is _ _ _ _) ?_];let⟨es,ep,tb,m⟩:=m;erw[<-ZIn.add (s:={a with toks:=a.toks+1}) m () λh' c M c2 c3 c4=>?_,<-xAe ⟨plainId_quiet PyProof.Rows.F.plain_set_update_loop _,O (i+1) _ c () B (W.frame _ a _ _ y (Nat.le_succ _) λb C o e=>?_) c2 () (λx=>?_) λs'' ks'' J d1 Z=>?_⟩]
  .rw[M.2 b λh:b=S=>E<|by rw[<- h];exact C];exact e
  .rw[c3,K];constructor
   .rintro(rfl|⟨j,N,H⟩)
    .exact⟨i,(),rfl⟩
    .exact⟨j,(),H⟩
   .rintro⟨j,N,H⟩
    by_cases e:j=i
    .subst e;exact .inl H.symm
    .exact .inr ⟨j,(),H⟩
  .refine hR s'' ks'' (Moved.trans W.gtrans ((p.mono r).then_heap (Nat.le_succ _) λb o C e=>?_) J) d1 Z;rw[M.2 b λh:b=S=>C<|by rw[h];exact xAr];exact e
end
section
variable{prog:Program}{w:World}{A:Around}{E:A4->A5->Prop}{s:A5}
theorem set_tupleZ{l:A7}{items:Array A4}{ns:A9}{Q:A4->A5->Prop}(hh:A.handled=none)(hl:s.heap.IsTuple l items)(hlen:items.size=ns.length)(hi:∀(i:Nat)(v:A4),items[i]?=some v->∃t,v = .str (ns.getD i Str.empty) t)(hb:ns.length<=4)(h:∀(h':Heap)(tk:Nat)(ks:A9),zBb w h' s.heap.objs.size ks->(∀x,x∈ks↔x∈ns) ->
   (∀b o,s.heap.get? b=some o->h'.get? b=some o)->s.toks<=tk->Q (.ref s.heap.objs.size) {s with heap:=h',toks:=tk}) :
  wpAny (model prog w) A (call (.type "set") [.ref l]) Q E s:=by
 let⟨c,tl,hmro⟩:=PySem.F.called_set.mro;have T:=PySem.F.called_set.made;have hsub:=PySem.F.called_set.sub;refine wpAny_call<|codeAny_of_tree ?_;change wpAny _ _ (callAny (.type "set") _) _ _ _;refine xAe ⟨Code.quiet_builtin _ (by decide +kernel),codeAny_builtin PySem.F.entry_type_call ?_⟩;rw[Around.under_plain (weight_type_call_type "set" [.ref l] []) rfl];have q1:=PySem.F.called_set.notType;have q2:=PySem.F.called_set.canCreate;have q3:=PySem.F.typeCall_set_1<|.ref l;repeat (any_goals (first|assumption|wp_step))
 refine codeAny_mono (ua (.ref l) (E:=E) (Q₁:=λy s₁=>∃a:A8,(a=true\/w.params.followText "set-order"=true)/\y=.ref s.heap.objs.size/\s₁={s with heap:=s.heap.push<|zA6 #[] 0 (.fresh 0 0 a)}) λa m=>⟨a,m,rfl,rfl⟩) λr s₁ k=>?_;cases r with
 |error e=>exact k
 |ok fl=>
  cases fl with
  |ret y=>
   let⟨a,m,rfl,rfl⟩:=k;have P0:=ou (w:=w) a m s.heap;have hT:Shared.TypeIs {s with heap:=s.heap.push<|zA6 #[] 0 (.fresh 0 0 a)} (.ref s.heap.objs.size) "set":=⟨_,P0.ob,rfl⟩
   have hli:=PySem.F.called_set.init.lookup;have hbi:=PySem.F.called_set.init.bind<|.ref s.heap.objs.size;repeat (any_goals (first|assumption|wp_step))
   refine codeAny_mono (codeAny_call_builtin (R:=wants (λr s₂=>r = .none/\∃h' tk ks,s₂={ s with heap:=h',toks:=tk }/\zBb w h' s.heap.objs.size ks/\(∀x,x∈ks↔x∈ns) /\
     (∀b o,s.heap.get? b=some o->h'.get? b=some o)/\s.toks<=tk) E) PySem.F.called_set.init.plain PySem.F.entry_set_init<|check_set_init_1 hT ?_) λr₂ s₂ k₂=>?_
   .let⟨ol,G,L,nl,K⟩:=hl;let⟨ocls,d,P,oslots⟩:=ol;simp only at L K;subst L;subst K;have D:(s.heap.push<|zA6 #[] 0 (.fresh 0 0 a)).get? l=some {cls:=.type "tuple",dict:=d,data:=.seq items nl,slots:=oslots}:=xAf _ G;have q4:=PySem.F.sub_tuple_set;have q5:=PySem.F.sub_tuple_frozenset;have q6:(Value.type "tuple" == Value.type "dict")=false:=by decide
    have J:(s.heap.push<|zA6 #[] 0 (.fresh 0 0 a)).IsTuple l items:=⟨_,D,rfl,nl,rfl⟩
    unfold Builtin.«set.__init__» noKeywords Builtin.Frozenset.updateFrom;generalize hPI:pyIter=PI;wp_walk
    subst hPI;erw[wpAny_pyIter_tuple J,<-xAd<|wpAny_runValue ?_];have I:l<s.heap.objs.size:=xA1 G;have W:A.in1.in1.in1.handled=none:=by simp[hh]
    have H:l≠(s.heap.push<|zA6 #[] 0 (.fresh 0 0 a)).objs.size:=by
     rw[Heap.size_push];exact xA0<|Nat.lt_succ_of_lt I
    have Z:s.heap.objs.size∉[(s.heap.push<|zA6 #[] 0 (.fresh 0 0 a)).objs.size,l]:=by
     rw[Heap.size_push];simp only[xAv,xBv,or_false,not_or];exact⟨xA0<|Nat.lt_succ_self _,Nat.ne_of_gt I⟩
    have C:∀(i:Nat)(v:A4),items[i]?=some v->∃t,v=.str ((λi=>ns.getD i Str.empty) i) t:=λi v hv=>hi i v hv;refine kT ((Walks.tuple W _ l H items).toS) s.heap.objs.size Z (λi=>ns.getD i Str.empty) C () (items.size-0) 0 _ [] () (xBn _)
     ⟨⟨_,xAl _ rfl,rfl,rfl⟩,(J.push _)⟩ ⟨_,_,_,P0.at' λo e=>xAf _ e⟩ (xBn _) (λx=>⋯) ?hR
    case hR=>
     intro s' S B d1 d2;let⟨h',g',d',q,O⟩:=s';have eg:g'=s.gens:=B.gens;have ed:d'=s.drawn:=B.drawn;have eo:O=s.os:=B.os;have et:s.toks<=q:=B.toks;subst eg;subst ed;subst eo;change wpAny _ _ _ _ _ _;erw[xAe];change wpAny _ _ (ret Value.none) _ _ _;refine xAe ⟨rfl,h',q,S,rfl,d1,λx=>?_,λb o e=>?_,et⟩
     .rw[d2,List.mem_iff_getElem];constructor
      .rintro⟨j,N,p⟩
       refine⟨j,(),?_⟩;rw[<- p,xBz,xAk ()];rfl
      .rintro⟨j,N,p⟩
       refine⟨j,(),?_⟩;rw[<- p,xBz,xAk ()];rfl
     .have M:=xA1 e;have Y:b≠s.heap.objs.size:=xA0 M;have X:b≠(s.heap.push<|zA6 #[] 0 (.fresh 0 0 a)).objs.size:=by
       rw[Heap.size_push];exact xA0<|Nat.lt_succ_of_lt M
      exact B.heap b o (by simp only[xAv,xBv,or_false,not_or];exact⟨Y,X⟩)<|xAf _<|xAf _ e
   .cases r₂ with
    |error e=>exact k₂
    |ok fl₂ =>
     cases fl₂ with
     |ret r=>
      let⟨rfl,h',tk,ks,rfl,N,p,z4,z5⟩:=k₂;repeat (any_goals (first|assumption|wp_step))
      exact h _ _ _ N p z4 z5
     |_=>exact k₂.elim
  |_=>exact k.elim
end
end SetA
namespace L2
open PySem PySem.Spec PyProof.Rows SetA
variable{P:Program}{w:World}{H:Hp}{h:Heap}{p:A7}{ks:A9}
noncomputable def zF3(w:World)(p:A7)(ks:A9):HO:=HO.ext λh=>zBb w h p ks
def vE(S:zBb w h p ks):zAg P w H h p<|zF3 w p ks:=
 ⟨S,let ⟨_,_,_,q⟩:=S;⟨_,q.ob⟩,λb a q k=>q.at' k⟩
def vF{a:World}(ok:HOk P a H h)(e:H p=some (zF3 w p ks)):zBb w h p ks:=(ok p _ e).1
def zHg(w:World):B3->Hp->VK->Prop:=λa H Q=>∃(p:A7) (ns:A9),a=[.ref p]/\H p=some (.tup<|ns.map V.str)/\ns.length<=4 /\
  ∀(l:A7)(ks:A9),H l=none->ks.Nodup->(∀z,z∈ks↔z∈ns)->Q (.ref l) (upd H l<|zF3 w l ks)
def zHh(w:World):B3->Hp->VK->Prop:=λa H Q=>∃p ks,a=[V.ref p]/\H p=some (zF3 w p ks)/\ks.length<=100000/\Q (.int ks.length) H
section
variable{X:Cx}
def sh{s:A5}{Z:A0<|A7×Obj}{O:St}{h':Heap}{tk:Nat}{Q:VK}(I:Inv X Z O H s)(k:∀b o,s.heap.get? b=some o->h'.get? b=some o)(S:zBb X.w h' s.heap.objs.size ks)(q:H s.heap.objs.size=none->Q (.ref s.heap.objs.size) (upd H s.heap.objs.size<|zF3 X.w s.heap.objs.size ks)):EP X Z O Q (.ref s.heap.objs.size) {s with heap:=h',toks:=tk}:=by
 have c:s.heap.get? s.heap.objs.size=none:=by
  cases z:s.heap.get? s.heap.objs.size with
  |none=>rfl
  |some o=>exact absurd (xA1 z) (xBo _)
 let⟨a,I2⟩:=Inv.laidN (t':=tk) I k c<|vE S;exact⟨.ref s.heap.objs.size,_,I2,rfl,q a⟩
def uv(n:X.calm=true):zAp X (.type "set")<|zHg X.w:=by
 intro Z s O H A us Q I r h;let⟨p,ns,rfl,o,l,h⟩:=h;let⟨u,rfl,c⟩:=zBx r;obtain rfl:u=Value.ref p:=c;let⟨k,r1,t1,y⟩:=I.tuple<|SqT.of o;have a:=r1.length;rw[xAa] at a;refine SetA.set_tupleZ (ns:=ns) (I.ok.hd n) t1 (by simpa using a.symm) (λi v d=>?_) l λB tk ks j t q C=>?_
 .have b:i<ns.length:=by
   have:=(xB7.mp d).1;simp only[xAp] at this;lia
  let⟨u,e,c⟩:=r1.get (i:=i) (x:=.str<|ns.getD i Str.empty) (by rw[xAw,xAk b,xBz,xAk b];rfl);rw[List.getElem?_toArray,e] at d;cases d;exact c
 .exact sh (tk:=tk) I q j λm=>h _ ks m (let ⟨_,_,_,z⟩:=j;z.nd) t
def ux:zAp X (.builtin "len")<|zHh X.w:=by
 intro Z s O H i us Q I r h;let⟨p,ks,rfl,e,c,q⟩:=h;let⟨u,rfl,b⟩:=zBx r;obtain rfl:u=Value.ref p:=b;let⟨j,k,t,S⟩:=vF I.hok e;have a:=S.size;have d:=S.tb.fits;erw[call_len_set S.ob ⟨rfl,rfl,rfl⟩ rfl d (by rw[a];have:=c;lia)];rw[a];exact⟨.int ks.length,H,I.tok _,⟨_,rfl⟩,q⟩
end
end L2
namespace Fx
open PySem PySem.Spec L2
variable{X:Cx}{xs:B0}{n:Nat}{ys:A0 V}
def OpR.or{f:A4->A4->Sem A4}{r c:R2}(h:OpR X f r)(h':OpR X f c):OpR X f λx y H Q=>r x y H Q\/c x y H Q:=by
 intro Z s O H x y v u Q I b a q;rcases q with q|q
 .exact h Z s O H x y v u Q I b a q
 .exact h' Z s O H x y v u Q I b a q
def zAp.or{f:A4}{r b:A0 V->Hp->VK->Prop}(h:zAp X f r)(h':zAp X f b):zAp X f λxs H Q=>r xs H Q\/b xs H Q:=by
 intro Z s O H xs us Q I a q;rcases q with q|q
 .exact h Z s O H xs us Q I a q
 .exact h' Z s O H xs us Q I a q
def SlR.or{r j:V->A3 Int->A3 Int->Hp->VK->Prop}(h:SlR X r)(h':SlR X j):SlR X λx a b H Q=>r x a b H Q\/j x a b H Q:=by
 intro Z s O H x v d c l o e Q I i m pl k q;rcases q with q|q
 .exact h Z s O H x v d c l o e Q I i m pl k q
 .exact h' Z s O H x v d c l o e Q I i m pl k q
section
variable{B:Bs}{W:Wd}{S S':So}{H:Hp}{v w z:U}{u u1 u2:V}{vs:B0}{us:A0 V}{Q:VK}
theorem c8(c:RS B W S H)(b:Rv B W v u)(h:lsT S v=some xs):∃p ys,u=.ref p/\H p=some (.lst ys)/\Rvs B W xs ys:=by
 cases v with
 |lst _=>cases h;let⟨p,ys,e,f,r⟩:=b;exact⟨p,ys,e,c.fz _ _ f,r⟩
 |ref a=>
  unfold lsT at h;dsimp only at h;let⟨p,rfl,j⟩:=b;cases e:at? S a with
  |none=>rw[e] at h;cases h
  |some o=>
   rw[e] at h;cases o <;> cases h
   let⟨l,g,d,k,i,_⟩:=c.here e;rw[j] at d;cases d;let⟨ys,rfl,r⟩:=i;exact⟨p,ys,rfl,k,r⟩
 |_=>cases h
theorem fN(c:RS B W S H)(b:Rv B W v u)(h:lsU S v=some xs):∃p ys,u=.ref p/\SqL B.K H p ys/\Rvs B W xs ys:=by
 cases v with
 |kl _=>cases h;let⟨p,ys,e,f,r⟩:=b;exact⟨p,ys,e,fb c.fz f,r⟩
 |lst _=>let⟨p,ys,e,f,r⟩:=c8 (S:=S) c b (xs:=xs) h;exact⟨p,ys,e,.of f,r⟩
 |ref a=>let⟨p,ys,e,f,r⟩:=c8 (S:=S) c b (xs:=xs) h;exact⟨p,ys,e,.of f,r⟩
 |_=>cases h
theorem gp(rs:RS B W S H)(b:Rv B W v u)(h:sqU S v=some xs):∃p ys,u=.ref p/\(SqL B.K H p ys\/SqT B.K H p ys)/\Rvs B W xs ys:=by
 cases v with
 |tup _=>cases h;let⟨p,ys,e,f,r⟩:=b;exact⟨p,ys,e,.inr<|.of<|rs.fz _ _ f,r⟩
 |kt _=>cases h;let⟨p,ys,e,f,r⟩:=b;exact⟨p,ys,e,.inr<|f H,r⟩
 |kl _=>let⟨p,ys,e,f,r⟩:=fN (S:=S) rs b (xs:=xs) h;exact⟨p,ys,e,.inl f,r⟩
 |lst _=>let⟨p,ys,e,f,r⟩:=fN (S:=S) rs b (xs:=xs) h;exact⟨p,ys,e,.inl f,r⟩
 |ref a=>let⟨p,ys,e,f,r⟩:=fN (S:=S) rs b (xs:=xs) h;exact⟨p,ys,e,.inl f,r⟩
 |_=>cases h
def VL.here(h:VL B W Q z S)(b:RS B W S H)(a:Rv B W z u):Q u H:=h W u H .refl b a
theorem VL.tup(h:VL B W Q (.tup vs) S)(c:RS B W S H)(b:Rvs B W vs us){p:A7}(e:H p=none):Q (.ref p)<|upd H p<|.tup us:=by
 let⟨le,a⟩:=c.fresh (o:=.tup us) e;exact h _ _ _ le a ⟨p,us,rfl,bz,b.mono le⟩
theorem iQ{m:A8}(e:mkL m vs S=.ok z S')(h:VL B W Q z S')(c:RS B W S H)(b:Rvs B W vs us){p:A7}(d:H p=none):Q (.ref p)<|upd H p<|.lst us:=by
 cases m with
 |true=>
  cases e;have le:W.Le {W with μ:=W.μ++[p]}:=⟨λ_ _ h=>h,λ_ _ h=>dR h,rfl⟩
  let⟨_,a,i⟩:=c.push (o:=.lst vs) (h:=.lst us) d ⟨us,rfl,b.mono le⟩;exact h _ _ _ le a ⟨p,rfl,i⟩
 |false=>
  cases e;let⟨le,a⟩:=c.fresh (o:=.lst us) d;exact h _ _ _ le a ⟨p,us,rfl,bz,b.mono le⟩
set_option tactic.hygienic true
def zAu{r:Res}(h:fits n r=.ok z S'):n<=sizeLine/\r=.ok z S':=by
 unfold fits at h;split at h
 .next e=>exact⟨xCo e,h⟩
 .cases h
set_option tactic.hygienic false
def nr(r:Rvs B W xs ys)(lo hi:A3 Int):Rvs B W (zCt xs lo hi)<|zD3 ys lo hi:=by
 unfold zCt zD3;rw[r.length];exact(r.drop _).take _
def i0(f:zAr v=true)(r:Rv B W v u):zBl u=true:=by
 cases v <;> first|(cases f;done)|(rw[show u=_ from r];rfl)
theorem jT:∀{vs:B0}{us:A0 V},vs.all zAr=true->Rvs B W vs us->us.all zBl=true
 |[],_,_,r=>by rw[show _=[] from r];rfl
 |x::xs,_,f,r=>by
  let⟨v,t,rfl,b,a⟩:=r;rw[xCj,xCh] at f;rw[xCj,i0 f.1 b,jT f.2 a];rfl
def ya(a:zAr v=true)(fw:zAr w=true)(r1:Rv B W v u1)(r2:Rv B W w u2):eqV u1 u2=eqF v w:=by
 cases v <;> first|(cases a;done)|(cases w <;> first|(cases fw;done)|(rw[show u1=_ from r1,show u2=_ from r2];rfl))
theorem nB(f:zAr v=true)(r:Rv B W v u):∀{vs:B0}{us:A0 V},vs.all zAr=true->Rvs B W vs us->inV u us=zA1 v vs
 |[],_,_,q=>by rw[show _=[] from q];rfl
 |x::xs,_,g,q=>by
  let⟨y,t,rfl,b,a⟩:=q;rw[xCj,xCh] at g;show(eqV y u||inV u t)=_;rw[nB f r g.2 a,ya g.1 f b r];rfl
theorem yk(r:Rvs B W xs ys){i:Int}(h:atI xs i=some v):∃y,atI ys i=some y/\Rv B W v y:=by
 unfold atI at h⊢;rw[r.length];cases e:ixN xs.length i with
 |none=>rw[e] at h;cases h
 |some j=>rw[e] at h;exact r.get h
theorem f8{κ:Type} [DecidableEq κ] {k:κ}:∀{a:A0<|κ×U}{vs:A0<|κ×V},Rn B W a vs->(∀v,zBz k a=some v->∃u,zCh vs k=some u/\Rv B W v u)/\(zBz k a=none->zCh vs k=none)
 |[],_,r=>by rw[show _=[] from r];exact⟨(λv h=>nomatch h),λ_=>rfl⟩
 |(j,x)::t,_,r=>by
  let⟨v,q,rfl,c,b⟩:=r;by_cases e:j=k
  .subst e;rw[fo rfl];unfold zBz;rw[xCg rfl];exact⟨λd h=>by cases h;exact⟨v,rfl,c⟩,(λh=>nomatch h)⟩
  .rw[fq e];unfold zBz;rw[xCf e];exact f8 b
def gh{k:Key}(h:zEh v=some k)(r:Rv B W v u):u=kV k:=by
 cases v <;> first|(cases h;exact r)|(cases h;done)
theorem dS{f:U->U->A8}{R:V->V->Prop}(e:∀x y a b,f x y=true->Rv B W x a->Rv B W y b->R a b):∀{xs ys:B0}{as bs:A0 V},zBp f xs ys=true->Rvs B W xs as->Rvs B W ys bs->as.length=bs.length/\∀(j:Nat)(x y:V),as[j]?=some x->bs[j]?=some y->R x y
 |[],[],_,_,_,r,q=>by rw[show _=[] from r,show _=[] from q];exact⟨rfl,λj x y h=>by simp at h⟩
 |[],_::_,_,_,h,_,_=>by cases h
 |_::_,[],_,_,h,_,_=>by cases h
 |x::xs,y::ys,_,_,h,r,q=>by
  let⟨a,t,rfl,r1,r2⟩:=r;let⟨b,p,rfl,o,m⟩:=q;unfold zBp at h;rw[xCh] at h;let⟨l,z⟩:=dS e h.2 r2 m;refine⟨by simp[l],λj k i d c=>?_⟩;cases j with
  |zero=>simp at d c;subst d c;exact e _ _ _ _ h.1 r1 o
  |succ j=>exact z j k i (by simpa using d) (by simpa using c)
def kU{c:A8}(h:eqS v w=some c)(r1:Rv B W v u1)(r2:Rv B W w u2):scal u1 u2=true/\decide (u1=u2)=c:=by
 let⟨a,e,h⟩:=xCi.mp h;let⟨b,d,h⟩:=xCi.mp h;rw[yx e] at r1;rw[yx d] at r2;cases a <;> cases b <;> first|(rw[show u1=_ from r1,show u2=_ from r2];refine⟨rfl,?_⟩;cases h;first|rfl|simp)|(cases h;done)
def fM(h:(zAr v&&zAr w&&eqS v w==some true)=true)(r1:Rv B W v u1)(r2:Rv B W w u2):Al H n u1 u2:=by
 simp only[xCh,beq_iff_eq] at h;let⟨⟨a,b⟩,e⟩:=h;have:u1=u2:=xBe (kU e r1 r2).2;subst this;exact .flat<|i0 a r1
theorem ga(c:RS B W S H):∀{n:Nat}{v w:U}{u1 u2:V},same S n v w=true->Rv B W v u1->Rv B W w u2->Al H n u1 u2
 |0,v,w,u1,u2,h,r1,r2=>fM (by unfold same at h;exact h) r1 r2
 |n+1,v,w,u1,u2,h,r1,r2=>by
  have d:(match lsT S v,lsT S w with
   |some xs,some ys=>zBp (same S n) xs ys
   |_,_=>zAr v&&zAr w&&eqS v w==some true)=true->Al H (n+1) u1 u2:=λh=>by
   cases e1:lsT S v with
   |none=>rw[e1] at h;exact fM h r1 r2
   |some xs=>
    cases e2:lsT S w with
    |none=>rw[e1,e2] at h;exact fM h r1 r2
    |some ys=>
     rw[e1,e2] at h;let⟨p,C,rfl,r,k⟩:=c8 c r1 e1;let⟨q,bs,rfl,o,j⟩:=c8 c r2 e2;let⟨l,z⟩:=dS (λx y a b m i e=>ga c m i e) h k j;exact .lst r o l z
  unfold same at h;cases v <;> first | exact d h | (cases w <;> first | exact d h | (
   let⟨p,C,rfl,A,k⟩:=r1;let⟨q,bs,rfl,t,j⟩:=r2;let⟨l,z⟩:=dS (λx y a b m i e=>ga c m i e) h k j;exact .tup (c.fz _ _ A) (c.fz _ _ t) l z))
end
end Fx
namespace Fx
open PySem PySem.Spec L2 PyProof.Rows
variable{X:Cx}{S:So}{H:Hp}{v w:U}{u1 u2:V}{b:A8}{Q:VK}
def Pr2(B:Bs)(up:A0<|Str×Str)(p:Pm)(r:R2):Prop:=∀{W:Wd}{S:So}{H:Hp}{v w:U}{u1 u2:V}{z:U}{S':So}{Q:VK},RS B W S H->Rv B W v u1->Rv B W w u2->pr up p [v,w] S=.ok z S'->VL B W Q z S'->r u1 u2 H Q
def Pr1(B:Bs)(up:A0<|Str×Str)(p:Pm)(r:V->Hp->VK->Prop):Prop:=∀{W:Wd}{S:So}{H:Hp}{v:U}{u1:V}{z:U}{S':So}{Q:VK},RS B W S H->Rv B W v u1->pr up p [v] S=.ok z S'->VL B W Q z S'->r u1 H Q
def PrN(B:Bs)(up:A0<|Str×Str)(p:Pm)(r:A0 V->Hp->VK->Prop):Prop:=∀{W:Wd}{S:So}{H:Hp}{vs:B0}{us:A0 V}{z:U}{S':So}{Q:VK},RS B W S H->Rvs B W vs us->pr up p vs S=.ok z S'->VL B W Q z S'->r us H Q
section
variable{B:Bs}{up:A0<|Str×Str}
def rOr(r a:R2):R2:=λx y H Q=>r x y H Q\/a x y H Q
def zG4:R2:=λx y H Q=>∃i j,x=.str i/\y=.str j/\i.length+j.length<=sizeLine/\Q (.str<|i++j) H
def zIi(K:xFr):R2:=rOr (rI0 λi j=>.int<|i+j)<|rOr zG4<|rOr (zFf K) zIh
def za{m:A8}:Pr2 B up (.add m)<|zIi B.K:=by
 intro W S H v w u1 u2 z S' Q a r1 r2 h q;change zHl m v w S=_ at h;unfold zHl at h;split at h
 .cases h;exact .inl ⟨_,_,r1,r2,q.here a rfl⟩
 .let⟨i,e⟩:=zAu h;cases e;exact .inr<|.inl ⟨_,_,r1,r2,i,q.here a rfl⟩
 .let⟨i,e⟩:=zAu h;cases e;let⟨p,k,rfl,t,d⟩:=r1;let⟨n,j,rfl,r,c⟩:=r2;refine .inr<|.inr<|.inl ⟨p,n,k,j,rfl,rfl,a.fz _ _ t,a.fz _ _ r,by rw[d.length,c.length];exact i,λp2 H2 x o=>?_⟩;let⟨le,l⟩:=(a.same x).addT o;exact q _ _ _ le l ⟨p2,_,rfl,bz,(d.app c).mono le⟩
 .split at h
  .next A y=>
   let⟨i,e⟩:=zAu h;let⟨p,k,rfl,t,d⟩:=c8 a r1 A;let⟨n,j,rfl,r,c⟩:=c8 a r2 y;exact .inr<|.inr<|.inr ⟨p,n,k,j,rfl,rfl,t,r,by rw[d.length,c.length];exact i,λp2 o=>iQ e q a (d.app c) o⟩
  .cases h
def zf:OpR X (binaryOp .Add)<|zIi X.K:=OpR.or xb<|OpR.or kL<|OpR.or tK w6
def mS{f:Int->Int->U}{vs:B0}{z:U}{S':So}(h:i2 f S vs=.ok z S'):∃i j,vs=[.int i,.int j]/\z=f i j/\S'=S:=by
 unfold i2 at h;split at h
 .cases h;exact⟨_,_,rfl,rfl,rfl⟩
 .cases h
def tJ{p:Pm}{f:Int->Int->U}{g:Int->Int->V}(c:∀vs S,pr up p vs S=i2 f S vs)(hf:∀W i j,Rv B W (f i j)<|g i j):Pr2 B up p<|rI0 g:=by
 intro W S H v w u1 u2 z S' Q a r1 r2 h q;rw[c] at h;let⟨i,j,e,rfl,rfl⟩:=mS h;cases e;exact⟨i,j,r1,r2,q.here a<|hf _ _ _⟩
def yR:Pr2 B up .sub<|rI0 λi j=>.int<|i-j:=tJ (f:=λi j=>.int<|i-j) (λ_ _=>rfl) λ_ _ _=>rfl
def yZ:Pr2 B up .lt<|rI0 λi j=>.bl<|decide<|i<j:=tJ (f:=λi j=>.bl<|decide<|i<j) (λ_ _=>rfl) λ_ _ _=>rfl
def y4:Pr2 B up .le<|rI0 λi j=>.bl<|decide<|i<=j:=tJ (f:=λi j=>.bl<|decide<|i<=j) (λ_ _=>rfl) λ_ _ _=>rfl
def y6:Pr2 B up .gt<|rI0 λi j=>.bl<|decide<|j<i:=tJ (f:=λi j=>.bl<|decide<|j<i) (λ_ _=>rfl) λ_ _ _=>rfl
def kZ{C:Int->Int->Prop} [∀i j,Decidable<|C i j] {f:Int->Int->U} {S:So} {vs:B0} {z:U} {S':So} (h:(match vs with
  |[.int i,.int j]=>match decide (C i j) with
   |true=>Res.ok (f i j) S
   |false=>.stuck
  |_=>.stuck)=.ok z S'):∃i j,vs=[.int i,.int j]/\C i j/\z=f i j/\S'=S:=by
 split at h
 .split at h
  .next e=>cases h;exact⟨_,_,rfl,xBe e,rfl,rfl⟩
  .cases h
 .cases h
def eK{i:Int}{n:Nat}(h:i.natAbs<2^n):Builtin.Int.intBits i<=n:=by
 unfold Builtin.Int.intBits;by_cases e:i=0
 .subst e;simp
 .have a:i.natAbs≠0:=by lia
  have:=(Nat.log2_lt a).mpr h;split <;> lia
set_option tactic.hygienic true
def yV:Pr2 B up .mul<|rOr (rI (λi j=>IntMulOk i j) λi j=>.int<|i*j) zFb:=by
 intro W S H v w u1 u2 z S' Q d r1 r2 h q;cases v <;> try (cases h;done)
 .cases w <;> try (cases h;done)
  next i j=>
  delta pr at h;dsimp only at h;split at h
  .next c=>
   cases h;have c:=xBe c;refine .inl ⟨i,j,r1,r2,?_,q.here d rfl⟩;rcases c with ⟨h1,h2⟩|h1|h1
   .have a:=eK h1;have b:=eK h2;unfold IntMulOk;have:Builtin.Int.intTooBig (Builtin.Int.intBits i+Builtin.Int.intBits j)=false:=by
     unfold Builtin.Int.intTooBig bitsLine;exact xCn ()
    rw[this];simp
   .exact .of_right (xCk (eK h1) ())
   .exact .of_left (xCk (eK h1) ())
  .cases h
 .cases w <;> try (cases h;done)
  next x j=>
  delta pr at h;dsimp only at h;split at h
  .next c=>
   let⟨l,h1⟩:=xBe c;let⟨k,e⟩:=zAu h;cases e;rcases(by lia:j=0\/j=1) with rfl|rfl
   .exact .inr ⟨x,false,r1,r2,q.here d rfl⟩
   .exact .inr ⟨x,true,r1,r2,q.here d rfl⟩
  .cases h
set_option tactic.hygienic false
def wR:Pr2 B up .fdiv<|rI zF5 λi j=>.int<|i / j:=by
 intro W S H v w u1 u2 z S' Q a r1 r2 h q;let⟨i,j,e,c,rfl,rfl⟩:=kZ (C:=λi j=>0<j/\j<=10^18) (f:=λi j=>.int<|i / j) h;cases e;exact⟨i,j,r1,r2,c,q.here a rfl⟩
def yW:Pr2 B up .mod<|rI (λ_ j=>0<j) λi j=>.int<|i%j:=by
 intro W S H v w u1 u2 z S' Q a r1 r2 h q;let⟨i,j,e,c,rfl,rfl⟩:=kZ (C:=λi j=>0<j) (f:=λi j=>.int<|i%j) h;cases e;exact⟨i,j,r1,r2,c,q.here a rfl⟩
def yS:Pr2 B up .pow<|rI zI4 λi j=>.int<|i^j.toNat:=by
 intro W S H v w u1 u2 z S' Q c r1 r2 h q;let⟨i,j,e,a,rfl,rfl⟩:=kZ (C:=λi j=>0<=j/\j<=1000/\i.natAbs<2^60) (f:=λi j=>.int<|i^j.toNat) h;cases e;exact⟨i,j,r1,r2,⟨a.1,(),Nat.lt_trans a.2.2 ∅⟩,q.here c rfl⟩
def zH9(K:xFr):R2:=λx y H Q=>∃a b c,x=.ref a/\y=.ref b/\SqL K H a c/\H b=some (.lst [])/\Q (.bl c.isEmpty) H
theorem wY(l:X.A.units<cLine):OpR X (compareOp .Eq)<|zH9 X.K:=by
 intro Z s O H x y v u Q I n m h;let⟨a,b,i,rfl,rfl,t,r,q⟩:=h;cases (show v=Value.ref a from n);cases (show u=Value.ref b from m);let⟨d,r1,t1,F⟩:=I.list t;let⟨c,r2,t2,E⟩:=I.list<|SqL.of r;have k:=r1.length;have o:=r2.length;have C:c=[]:=List.length_eq_zero_iff.mp o.symm;subst C;cases i with
 |nil=>
  have D:d=[]:=List.length_eq_zero_iff.mp k.symm;subst D;erw[SeqAt.eq_listAt (e:=λ_=>true) t1.isList t2.isList rfl l (λj p _=>absurd p<|Nat.not_lt_zero _),<-ce I q rfl]
 |cons x i=>
  erw[(SeqAt.RcAt.lists_lengths t1.isList t2.isList (by rw[xAp,xAp];exact bne_iff_ne.mpr (by rw[<- k];exact nofun)) l) X.prog X.w X.xe _,<-ce I q rfl]
def zIg(K:xFr):R2:=rOr rEq<|rOr (zH9 K)<|rOr (rAl true)<|zEu true
def zH5:R2:=λx y H Q=>∃a b d c,x=.ref a/\y=.ref b/\H a=some (.lst d)/\H b=some (.lst c)/\d.length≠c.length/\Q (.bl true) H
def wV(j:X.A.units<cLine):OpR X (compareOp .NotEq) zH5:=by
 intro Z s O H x y v u Q I e d h;let⟨a,b,r,p,rfl,rfl,m,l,k,q⟩:=h;cases (show v=Value.ref a from e);cases (show u=Value.ref b from d);let⟨i,r1,t1,o⟩:=I.list<|SqL.of m;let⟨c,r2,t2,n⟩:=I.list<|SqL.of l;have C:=r1.length;have t:=r2.length;erw[(SeqAt.RcNeAt.lists_lengths t1.isList t2.isList (by rw[xAp,xAp];exact bne_iff_ne.mpr ()) j) X.prog X.w X.xe _,<-ce I q rfl]
def zIa:R2:=rOr rNe<|rOr zH5<|rOr (rAl false)<|zEu false
def jo{W:Wd}(c:RS B W S H)(r1:Rv B W v u1)(r2:Rv B W w u2)(C:eqS v w=none)(h:same S 80 v w=true)(q:Q (.bl b) H):rOr (rAl b) (zEu b) u1 u2 H Q:=by
 have d:(match lsT S v,lsT S w with
   |some A,some t=>zBp (same S 79) A t
   |_,_=>zAr v&&zAr w&&eqS v w==some true)=true->rOr (rAl b) (zEu b) u1 u2 H Q:=λh=>by
  cases e1:lsT S v with
  |none=>rw[e1,C] at h;simp at h
  |some A=>
   cases e2:lsT S w with
   |none=>rw[e1,e2,C] at h;simp at h
   |some t=>
    rw[e1,e2] at h;let⟨p,r,rfl,D,k⟩:=c8 c r1 e1;let⟨m,bs,rfl,o,j⟩:=c8 c r2 e2;let⟨l,z⟩:=dS (λx y a b n i e=>ga c n i e) h k j;exact .inr ⟨p,m,r,bs,79,rfl,rfl,D,o,l,∅,z,q⟩
 unfold same at h;cases v <;> first | exact d h | (cases w <;> first | exact d h | (
  let⟨p,r,rfl,F,k⟩:=r1;let⟨m,bs,rfl,E,j⟩:=r2;let⟨l,z⟩:=dS (λx y a b n i e=>ga c n i e) h k j;exact .inl ⟨p,m,r,bs,79,rfl,rfl,c.fz _ _ F,c.fz _ _ E,l,∅,z,q⟩))
set_option tactic.hygienic true
def Ax:Pr2 B up .eq<|zIg B.K:=by
 intro W S H v w u1 u2 z S' Q d r1 r2 h q;change Fx.eqU id v w S=_ at h;unfold Fx.eqU at h;split at h
 .next c e=>
  cases h;let⟨a,b⟩:=kU e r1 r2;exact .inl ⟨a,by rw[b];exact q.here d rfl⟩
 .next e=>
  split at h
  .next y j i=>
   cases h;unfold zFr at j;split at j
   .let⟨r,bs,rfl,n,r2⟩:=r2;rw[show bs=[] from r2] at n;unfold zIk at i;let⟨m,x,rfl⟩:=Option.map_eq_some_iff.mp i;let⟨p,k,rfl,t,o⟩:=fN d r1 x;refine .inr<|.inl ⟨p,r,k,rfl,rfl,t,d.fz _ _ n,?_⟩;have:k.isEmpty=m.isEmpty:=by
     have l:=o.length;cases k <;> cases m <;> first|rfl|(simp at l)
    rw[this];exact q.here d rfl
   .cases j
  .split at h
   .next i=>cases h;exact .inr<|.inr<|jo d r1 r2 e i<|q.here d rfl
   .cases h
def Au:Pr2 B up .ne zIa:=by
 intro W S H v w u1 u2 z S' Q i r1 r2 h q;change neU v w S=_ at h;unfold neU at h;split at h
 .next c e=>
  cases h;let⟨a,b⟩:=kU e r1 r2;exact .inl ⟨a,by rw[b];exact q.here i rfl⟩
 .next e=>
  split at h
  .next d=>
   cases h;unfold zHx at d;split at d
   .next y x r o=>
    let⟨p,t,rfl,n,l⟩:=c8 i r1 r;let⟨m,bs,rfl,j,k⟩:=c8 i r2 o;refine .inr<|.inl ⟨p,m,t,bs,rfl,rfl,n,j,λz=>?_,q.here i rfl⟩;rw[l.length,k.length] at z;rw[z,Nat.beq_refl] at d;cases d
   .cases d
  .split at h
   .next d=>cases h;exact .inr<|.inr<|jo i r1 r2 e d<|q.here i rfl
   .cases h
set_option tactic.hygienic false
def yU:Pr1 B up .neg<|rU λi=>.int (-i):=by
 intro W S H v u1 z S' Q a r1 h q;cases v <;> first|(cases h;done)|(cases h;exact⟨_,r1,q.here a rfl⟩)
def AA(a:X.A.units+100<cLine):OpR X (compareOp .Eq)<|zIg X.K:=OpR.or zd<|OpR.or (wY ())<|OpR.or (tP a)<|qx a
def Ay(a:X.A.units+100<cLine):OpR X (compareOp .NotEq) zIa:=OpR.or zc<|OpR.or (wV ())<|OpR.or (tM a)<|qu a
def zJs(n:A8):R2:=λx y H Q=>∃i j,x=.str i/\y=.str j/\Q (.bl<|if n then !(!(Builtin.Str.occurrences j i 0 j.length 1).isEmpty) else !(Builtin.Str.occurrences j i 0 j.length 1).isEmpty) H
def zG2(n:A8):R2:=λy x H Q=>∃a o,x=.ref a/\zD6 H a y o/\Q (.bl<|if n then !o.isSome else o.isSome) H
def zEt(K:xFr)(n:A8):R2:=rOr (rIn K n)<|rOr (zJs n)<|zG2 n
set_option tactic.hygienic true
def qS{W:Wd}{n:A8}(o:RS B W S H)(r1:Rv B W v u1)(r2:Rv B W w u2)(h:inU S v w=some b)(q:Q (.bl<|if n then !b else b) H):zEt B.K n u1 u2 H Q:=by
 have d:∀c,sqU S w=some c->(if zAr v&&c.all zAr then some (zA1 v c) else none)=some b->zEt B.K n u1 u2 H Q:=λc e h=>by
  split at h
  .next l=>
   rw[xCh] at l;cases h;let⟨p,t,rfl,sq,r⟩:=gp o r2 e;refine .inl ⟨p,t,rfl,sq,i0 l.1 r1,jT l.2 r,?_⟩;rw[nB l.1 r1 l.2 r];exact q
  .cases h
 unfold inU at h;split at h
 .split at h
  .cases h;exact .inr<|.inl ⟨_,_,r1,r2,q⟩
  .cases h
 .next a=>
  split at h
  .next i e=>
   let⟨p,g,C,D,x,_⟩:=o.here e;let⟨M,J,j⟩:=r2;rw[C] at j;cases j;let⟨m,rfl,A⟩:=x;cases ek:zEh v with
   |none=>rw[ek] at h;cases h
   |some k=>
    rw[ek] at h;have E:(zBz k i).isSome=b:=xB3 h;refine .inr<|.inr ⟨p,zCh m k,J,.inl ⟨m,k,.inl D,gh ek r1,rfl⟩,?_⟩;have:(zCh m k).isSome=b:=by
     let⟨G,F⟩:=f8 (k:=k) A;rw[<- E];cases z:zBz k i with
     |none=>rw[F z];rfl
     |some y=>let⟨L,I,_⟩:=G y z;rw[I];rfl
    rw[this];exact q
  .next c e=>exact d c (by show lsU S (.ref a)=_;unfold lsU;dsimp only;rw[e]) h
  .cases h
 .split at h
  .next c e=>exact d c e h
  .cases h
def Aw:Pr2 B up .inn<|zEt B.K false:=by
 intro W S H v w u1 u2 z S' Q a r1 r2 h q;change obB (inU S v w) id S=_ at h;unfold obB at h;split at h
 .next b e=>cases h;exact qS a r1 r2 e<|q.here a rfl
 .cases h
def yT:Pr2 B up .nin<|zEt B.K true:=by
 intro W S H v w u1 u2 z S' Q a r1 r2 h q;change obB (inU S v w) not S=_ at h;unfold obB at h;split at h
 .next b e=>cases h;exact qS a r1 r2 e<|q.here a rfl
 .cases h
set_option tactic.hygienic false
def w5(h:X.A.units+1<cLine):OpR X (compareOp .In)<|zG2 false:=by
 intro Z s O H x y v u Q I d c ⟨a,o,e,g,q⟩;subst e;obtain rfl:u=Value.ref a:=c;exact AV h I g d λi I3=>⟨.bl o.isSome,H,I3,rfl,q⟩
def tL(h:X.A.units+1<cLine):OpR X (compareOp .NotIn)<|zG2 true:=by
 intro Z s O H x y v u Q I d c ⟨a,o,e,g,q⟩;subst e;obtain rfl:u=Value.ref a:=c;exact ut h I g d λi I3=>⟨.bl (!o.isSome),H,I3,rfl,q⟩
def Az(a:X.A.units+1<cLine):OpR X (compareOp .In)<|zEt X.K false:=OpR.or nX<|OpR.or nW<|w5 a
def ze(a:X.A.units+1<cLine):OpR X (compareOp .NotIn)<|zEt X.K true:=OpR.or iL<|OpR.or iK<|tL a
def zIf:R2:=λx y H Q=>∃a v,x=.ref a/\zD6 H a y (some v)/\Q v H
def ue(l:X.A.units+1<cLine):IxR X zIf:=by
 intro c slice Z s O H x y v u Q I k j ⟨a,w,e,g,q⟩ hs;subst e;obtain rfl:v=Value.ref a:=k;have i:=jW I g;unfold subscriptTail;erw[xAd];rw[getitemInPython_of_ne i.not_modules];refine xAd<|wpAny_specialOf i PySem.F.slot_dict_getitem.lookup ?_;have d:wpAny (model X.prog X.w) X.A (subscripted slice false (.ref a) u) (λr s₃=>wpAny (model X.prog X.w) X.A (letTemporaryGo c (.ref a) r>>=λ_=>pure r) (EP X Z O Q) X.xe s₃) X.xe s:=by
  rw[hs];exact wpAny_operating<|oB l I g j λm n I3 h=>xAd<|wpAny_letTemporaryGo<|xAe ⟨w,H,I3,h,q⟩
 first
  |exact xAe (xAd d)
  |exact xAd (xAe<|xAd d)
  |exact xAd d
def zIe(w:World)(K:xFr):R2:=λx y H Q=>∃a z v u,x=.ref a/\KD w K a/\y=.str z/\PySem.W.nsIn K a z=some (some u)/\zAi v u/\Q v H
def zu:IxR X<|zIe X.w X.K:=by
 intro c slice Z s O H x y v u Q I k j ⟨a,z,w,uu,e,⟨es,n,hl,hk,lo⟩,e2,hn,rw',q⟩ hs;subst e e2;obtain rfl:v=Value.ref a:=k;let⟨t,rfl⟩:=j;have h:=PySem.W.mapOf_K (prog:=X.prog) (w:=X.w) (λb o e=>I.kIn b o e) hl hk;have i:=h.typeIs;unfold subscriptTail;erw[xAd];rw[getitemInPython_of_ne i.not_modules];refine xAd<|wpAny_specialOf i PySem.F.slot_dict_getitem.lookup ?_;have d:wpAny (model X.prog X.w) X.A (subscripted slice false (.ref a)<|.str z t) (λr s₃=>wpAny (model X.prog X.w) X.A (letTemporaryGo c (.ref a) r>>=λ_=>pure r) (EP X Z O Q) X.xe s₃) X.xe s:=by
  rw[hs];exact wpAny_operating<|wpAny_getItem_of (strKind_is X.prog X.w z t) h (PySem.W.find_K hl hn)<|xAd<|wpAny_letTemporaryGo<|xAe ⟨w,H,I.tok _,rw',q⟩
 first
  |exact xAe (xAd d)
  |exact xAd (xAe<|xAd d)
  |exact xAd d
def zFd(w:World)(K:xFr):R2:=λx y H Q=>(rIx K x y H Q\/zIf x y H Q)\/zIe w K x y H Q
def Ae(a:X.A.units+1<cLine):IxR X<|zFd X.w X.K:=(xJ.or<|ue a).or zu
end
end Fx
namespace Fx
open PySem PySem.Spec L2
open PyProof.Rows hiding St
variable{t':TT}{v:U}{S:So}{O:Sg}{τ:St}{H:Hp}{op op':CmpOp}{p q:Pm}{r':R2}
structure FE(X:Cx)(B:Bs)(G:B9)(Ex:St->XK)(e:A6)(c:B6):Prop where
 p:PE X e (LE B G Ex c)
 m:zAz G c
structure FA(X:Cx)(B:Bs)(G:B9)(Ex:St->XK)(es:A0 A6)(c:B'):Prop where
 p:PA X es (LA B G Ex c)
 m:zCg G c es.length
structure FT(X:Cx)(B:Bs)(G:B9)(Ex:St->XK)(e:A6)(c:TTx Prop):Prop where
 p:PT X e (LT B G Ex c)
 m:zBo G c
structure FS(X:Cx)(B:Bs)(G:B9)(Ex:St->XK)(s:Stmt)(c:B5):Prop where
 p:PS X s (LS B G Ex c)
 m:zB0 G c
structure FSs(X:Cx)(B:Bs)(G:B9)(Ex:St->XK)(s:A0 Stmt)(c:B5):Prop where
 p:PSs X s (LS B G Ex c)
 m:zB0 G c
section
variable{X:Cx}{e:A6}{es:A0 A6}{st:Stmt}{sts:A0 Stmt}
def wkE{t t':TE}(h:PE X e t)(w:∀O H Q,t' O H Q->t O H Q):PE X e t':=λZ s O H Q I q=>h Z s O H Q I<|w _ _ _ q
def wkA{t t':TA}(h:PA X es t)(w:∀O H Q,t' O H Q->t O H Q):PA X es t':=λpos Z s O H Q I q=>h pos Z s O H Q I<|w _ _ _ q
def wkT{t:TT}(h:PT X e t)(w:∀O H Q,t' O H Q->t O H Q):PT X e t':=λZ s O H Q I q=>h Z s O H Q I<|w _ _ _ q
def wkS{t t':TS}(h:PS X st t)(w:∀D O H,t' D O H->t D O H):PS X st t':=λZ s O H D I q=>h Z s O H D I<|w _ _ _ q
def zHw{t t':TS}(h:PSs X sts t)(w:∀D O H,t' D O H->t D O H):PSs X sts t':=λZ s O H D I q=>h Z s O H D I<|w _ _ _ q
end
section
variable{B:Bs}{up:A0<|Str×Str}{G:B9}{Ex:St->XK}{τ:St}{H:Hp}{Q:VK}{W W':Wd}{c a b:B6}{as:B'}{n:Nat}{p:Pm}
def VL.inc(le:W.Le W')(h:VL B W Q v S):VL B W' Q v S:=λW2 u H d=>h W2 u H<|le.trans d
def NL.inc{Q:St->Hp->Prop}{v:Sg}(le:W.Le W')(h:NL B W Q v S):NL B W' Q v S:=λW2 u H d=>h W2 u H<|le.trans d
theorem LEe.inc{D:zDw}(le:W.Le W'):zDl (LEe B Ex W D)<|LEe B Ex W' D:=⟨λ_ _=>NL.inc le,λ_ _=>VL.inc le,λ_ _=>NL.inc le,λ_ _=>NL.inc le,λ_ _ _ h W2 τ C e H d=>h W2 τ C e H<|le.trans d⟩
def LE.go{k:B7}(m:zAz G c)(j:RS B W S H)(e:Rg B W O τ)(h:c G O S (XL B W<|Ex τ) k)(l:∀v S' W' u H',W.Le W'->RS B W' S' H'->Rv B W' v u->Rg B W' O τ->k v S'->Q u H'):LE B G Ex c τ H Q:=
 ⟨W,O,S,j,e,m.m (λ_ _ h=>h) (λv S' o W' u H' le d i=>l v S' W' u H' le d i (e.mono le) o) h⟩
def LA.go{k:B0->So->Prop}{Q:A0 V->Hp->Prop}(m:zCg G as n)(j:RS B W S H)(e:Rg B W O τ)(h:as G O S (XL B W<|Ex τ) k)(o:∀v S' W' u H',v.length=n->W.Le W'->RS B W' S' H'->Rvs B W' v u->Rg B W' O τ->k v S'->Q u H'):LA B G Ex as τ H Q:=
 ⟨W,O,S,j,e,m.m (λ_ _ h=>h) (λv S' l r W' u H' le d i=>o v S' W' u H' l le d i (e.mono le) r) h⟩
def LT.go{t:TTx Prop}{k:A8->So->Prop}{Q:A8->Hp->Prop}(m:zBo G t)(i:RS B W S H)(e:Rg B W O τ)(h:t G O S (XL B W<|Ex τ) k)(j:∀v S' W' H',W.Le W'->RS B W' S' H'->Rg B W' O τ->k v S'->Q v H'):LT B G Ex t τ H Q:=
 ⟨W,O,S,i,e,m.m (λ_ _ h=>h) (λv S' l W' H' le d=>j v S' W' H' le d (e.mono le) l) h⟩
def XL.upf(le:W.Le W')(E:XK):∀e S,XL B W E e S->XL B W' E e S:=λ_ _=>XL.up le
def K1(B:Bs)(up:A0<|Str×Str)(p:Pm)(Q:VK):VK:=λu H=>∃W S v z S',RS B W S H/\Rv B W v u/\pr up p [v] S=.ok z S'/\VL B W Q z S'
def K2(B:Bs)(up:A0<|Str×Str)(p:Pm)(Q:VK):V->V->Hp->Prop:=λe d H=>∃W S v w z S',RS B W S H/\Rv B W v e/\Rv B W w d/\pr up p [v,w] S=.ok z S'/\VL B W Q z S'
def KN(B:Bs)(up:A0<|Str×Str)(p:Pm)(Q:VK):A0 V->Hp->Prop:=λus H=>∃W S d z S',RS B W S H/\Rvs B W d us/\pr up p d S=.ok z S'/\VL B W Q z S'
variable(g:zBw up G)
include g
theorem LE.p1(m:zAz G a)(h:LE B G Ex (cP p<|aC a aN) τ H Q):LE B G Ex a τ H<|K1 B up p Q:=by
 let⟨W,O,S,j,l,h⟩:=h;refine LE.go m j l h λv S' W' u H' le d i k o=>?_;let⟨z,S2,e,q⟩:=g.pok o;exact⟨W',S',v,z,S2,d,i,e,q.inc le⟩
theorem LE.p2(C:zAz G a)(o:zAz G b)(h:LE B G Ex (cP p<|zAv a b) τ H Q):LE B G Ex a τ H λx H1=>LE B G Ex b τ H1 λy H2=>K2 B up p Q x y H2:=by
 let⟨W,O,S,t,A,h⟩:=h;erw[<-LE.go C t A h λv S' W' u H' le k r l E=>?_,<-LE.go o k l (o.m (XL.upf le _) (λ_ _ h=>h) E) λw S2 W2 F H2 d j i _ D=>?_];let⟨z,S3,e,q⟩:=g.pok D;exact⟨W2,S2,v,w,z,S3,j,r.mono d,i,e,q.inc<|le.trans d⟩
theorem LE.pn(m:zCg G as n)(h:LE B G Ex (cP p as) τ H Q):LA B G Ex as τ H<|KN B up p Q:=by
 let⟨W,O,S,j,l,h⟩:=h;refine LA.go m j l h λv S' W' u H' _ le d i k o=>?_;let⟨z,S2,e,q⟩:=g.pok o;exact⟨W',S',v,z,S2,d,i,e,q.inc le⟩
end
section
variable{B:Bs}{up:A0<|Str×Str}{G:B9}{Ex:St->XK}{c a b:B6}{as:B'}{t u:TTx Prop}
def LE.imp{Q Q':VK}(m:zAz G c)(h:LE B G Ex c τ H Q)(j:∀u H,Q u H->Q' u H):LE B G Ex c τ H Q':=by
 let⟨W,O,S,d,i,h⟩:=h;exact⟨W,O,S,d,i,m.m (λ_ _ h=>h) (λv S h W' u H le d e=>j _ _<|h W' u H le d e) h⟩
def LA.imp{n:Nat}{Q Q':A0 V->Hp->Prop}(m:zCg G as n)(h:LA B G Ex as τ H Q)(j:∀u H,Q u H->Q' u H):LA B G Ex as τ H Q':=by
 let⟨W,O,S,d,i,h⟩:=h;exact⟨W,O,S,d,i,m.m (λ_ _ h=>h) (λv S _ h W' u H le d e=>j _ _<|h W' u H le d e) h⟩
variable{X:Cx}{e ea eb ec ed:A6}{es:A0 A6}{pos p1 p2:Pos}{x:Str}{i:Nat}{pm:Pm}(g:zBw up G)
include g
theorem f_v(o:X.N[i]?=some x)(n:Vis X.env.scope x)(hd:(x==("__debug__":Str))=false)(d:(x==("__classdict__":Str))=false):FE X B G Ex (.Name x pos)<|cV i:=
 ⟨wkE (wE o n hd d) λτ H Q j=>by
  let⟨W,O,S,l,m,h⟩:=j;unfold cV at h;cases e:nth O i with
  |none=>rw[e] at h;exact(g.no h).elim
  |some v=>rw[e] at h;let⟨u,r,k⟩:=m.v i v e;exact⟨u,r,h W u H .refl l k⟩,mV g⟩
omit g in
theorem f_c{v:V}{u:U}(h:PE X e<|tC v)(r:∀W,Rv B W u v):FE X B G Ex e<|cC u:=⟨wkE h λτ H Q ⟨W,O,S,d,k,h⟩=>h W v H .refl d<|r W,⟨λl j h=>j _ _ h⟩⟩
theorem ox{op:Operator}{r:R2}(n:OpR X (binaryOp op) r)(l:Pr2 B up pm r)(j:FE X B G Ex ea a)(d:FE X B G Ex eb b):FE X B G Ex (.BinOp ea op eb pos)<|cP pm<|zAv a b:=
 ⟨wkE (yP n j.p d.p) λτ H Q h=>(LE.p2 g j.m d.m h).imp j.m λx H1 o=>o.imp d.m λy H2 ⟨W,S,v,w,z,S',k,r1,r2,e,q⟩=>l k r1 r2 e q,mP g<|mAC g j.m<|mAC g d.m<|mAN g⟩
theorem AG{op:UnaryOp}{r:V->Hp->VK->Prop}(l:UnR X (unaryOp op) r)(k:Pr1 B up pm r)(d:FE X B G Ex ea a):FE X B G Ex (.UnaryOp op ea pos)<|cP pm<|aC a aN:=
 ⟨wkE (yN l d.p) λτ H Q h=>(LE.p1 g d.m h).imp d.m λx H1 ⟨W,S,v,z,S',j,r1,e,q⟩=>k j r1 e q,mP g<|mAC g d.m<|mAN g⟩
theorem AK{r:R2}(n:IxR X r)(o:Pr2 B up pm r)(j:FE X B G Ex ea a)(d:FE X B G Ex eb b)(l:zCl eb):FE X B G Ex (.Subscript ea eb pos)<|cP pm<|zAv a b:=
 ⟨wkE (yQ n j.p d.p l) λτ H Q h=>(LE.p2 g j.m d.m h).imp j.m λx H1 A=>A.imp d.m λy H2 ⟨W,S,v,w,z,S',k,r1,r2,e,q⟩=>o k r1 r2 e q,mP g<|mAC g j.m<|mAC g d.m<|mAN g⟩
theorem gG:FA X B G Ex [] aN:=⟨wkA iI λτ H Q ⟨W,O,S,d,j,h⟩=>h W [] H .refl d rfl,mAN g⟩
theorem eY(w:FE X B G Ex e a)(j:FA X B G Ex es as)(r:zAb e=true):FA X B G Ex (e::es)<|aC a as:=
 ⟨wkA (qr w.p j.p r) λτ H Q ⟨W,O,S,A,C,h⟩=>LE.go w.m A C h λv S' W' u H' le n y o E =>
  LA.go j.m n o (j.m.m (XL.upf le _) (λ_ _ _ h=>h) E) λF S2 W2 us H2 _ d l k _ D=>D W2 (u::us) H2 (le.trans d) l ⟨u,us,rfl,y.mono d,k⟩,mAC g w.m j.m⟩
theorem zF{k:Nat}(l:FA X B G Ex es as)(y:es.length<=1000):FE X B G Ex (.Tuple es k pos)<|cT as:=
 ⟨wkE (wG l.p) λτ H Q ⟨W,O,S,n,o,h⟩=>LA.go l.m n o h λC S' W' us H' w le j d _ A=>⟨by rw[d.length,w];exact small y,λp r=>VL.tup (VL.inc le A) j d r⟩,mT g l.m⟩
theorem zJ{m:A8}(d:FA X B G Ex es as):FE X B G Ex (.List es pos)<|cP (.lst m) as:=
 ⟨wkE (wJ d.p) λτ H Q h=>(LE.pn g d.m h).imp d.m λus H1 l=>by
  let⟨W,S,j,z,S',n,k,e,q⟩:=l;let⟨r,e⟩:=zAu<|show fits j.length (mkL m j S)=_ from e;exact⟨by rw[k.length];exact r,λp o=>iQ e q n k o⟩,mP g d.m⟩
theorem zO{r:R2}(I:OpR X (compareOp op) r)(F:Pr2 B up pm r)(L:∀v w S z S',pr up pm [v,w] S=.ok z S'->∃c,z=.bl c)(j:FE X B G Ex ea a)(d:FE X B G Ex eb b)(J:behindInMarks op eb=false):FT X B G Ex (.Compare ea [op] [eb] pos)<|tB<|cP pm<|zAv a b:=by
 have A:=mP g (p:=pm)<|mAC g j.m<|mAC g d.m<|mAN g;refine⟨wkT (lP I j.p d.p J) λτ H Q h=>?_,mB g A⟩;have l:LE B G Ex (cP pm<|zAv a b) τ H λx H'=>∃k,x=.bl k/\Q k H':=by
  let⟨W,O,S,o,E,h⟩:=h;refine LE.go A o E h λv S' W' u H' le n C D l=>?_;cases v <;> first|(exact(g.no l).elim)|exact⟨_,C,l W' H' le n⟩
 exact(LE.p2 g j.m d.m l).imp j.m λx H1 K=>K.imp d.m λy H2 ⟨W,S,v,w,z,S',o,r1,r2,e,q⟩=>F o r1 r2 e q
theorem zE(h:FE X B G Ex e c)(w:∀d,isTrue e X.env d=(do let v <- d;standAt e.pos;holding [v] (truthy v))):FT X B G Ex e<|tB c:=
 ⟨wkT (v7 h.p w) λτ H Q ⟨W,O,S,n,r,y⟩=>LE.go h.m n r y λv S' W' u H' le j l o k=>by
  cases v <;> first|(exact(g.no k).elim)|exact⟨_,l,k W' H' le j⟩,mB g h.m⟩
theorem AJ(h:FT X B G Ex ea t):FT X B G Ex (.UnaryOp .Not ea pos)<|tNt t:=
 ⟨wkT (wa h.p) λτ H Q ⟨W,O,S,j,l,n⟩=>LT.go h.m j l n λv S' W' H' le d k o=>o W' H' le d,mNt g h.m⟩
end
structure FW(X:Cx)(B:Bs)(G:B9)(Ex:St->XK)(e:A6)(c:TTx Prop):Prop where
 p:PW X e (LT B G Ex c)
 m:zBo G c
def spF(B:Bs)(G:B9)(i b:Nat):Sp:=λa H Q E=>a.length=b/\∃W us S,RS B W S H/\Rvs B W us a/\G.call i us S (XL B W E) (VL B W Q)
section
variable{B:Bs}{up:A0<|Str×Str}{G:B9}{Ex:St->XK}{c a b d:B6}{as:B'}{t u:TTx Prop}
variable{X:Cx}{e ea eb ec ed:A6}{es rest:A0 A6}{pos p1 p2 apos:Pos}{x m:Str}{i:Nat}{pm:Pm}(g:zBw up G)
def wkW{t:TT}(h:PW X e t)(w:∀O H Q,t' O H Q->t O H Q):PW X e t':=λj Z s O H Q I q=>h j Z s O H Q I<|w _ _ _ q
omit g in
def vx(h:FT X B G Ex ea t):FW X B G Ex (.BoolOp .And [ea] pos) t:=⟨sC h.p,h.m⟩
def vw(h:FT X B G Ex ea t):FW X B G Ex (.BoolOp .Or [ea] pos) t:=⟨v3 h.p,h.m⟩
def FW.ft(h:FW X B G Ex e t):FT X B G Ex e t:=⟨h.p.pt,h.m⟩
include g
theorem zD(h:FT X B G Ex ea t)(k:FW X B G Ex (.BoolOp .And (eb::rest) pos) u):FW X B G Ex (.BoolOp .And (ea::eb::rest) pos)<|tAn t u:=
 ⟨wkW (v4 h.p k.p) λτ H Q ⟨W,O,S,y,A,C⟩=>LT.go h.m y A C λv S' W' H' le j o l=>by
  have l:=g.bk l;cases v with
  |true=>exact LT.go k.m j o (k.m.m (XL.upf le _) (λ_ _ h=>h) l) λw S2 W2 H2 r n _ D=>D W2 H2 (le.trans r) n
  |false=>exact l W' H' le j,mAn g h.m k.m⟩
theorem zC(h:FT X B G Ex ea t)(k:FW X B G Ex (.BoolOp .Or (eb::rest) pos) u):FW X B G Ex (.BoolOp .Or (ea::eb::rest) pos)<|tOr' t u:=
 ⟨wkW (yG h.p k.p) λτ H Q ⟨W,O,S,y,A,C⟩=>LT.go h.m y A C λv S' W' H' le j o l=>by
  have l:=g.bk l;cases v with
  |false=>exact LT.go k.m j o (k.m.m (XL.upf le _) (λ_ _ h=>h) l) λw S2 W2 H2 r n _ D=>D W2 H2 (le.trans r) n
  |true=>exact l W' H' le j,mOr g h.m k.m⟩
theorem xX(h:FE X B G Ex e c):FE X B G Ex e<|cB<|tB c:=
 ⟨wkE h.p λτ H Q ⟨W,O,S,n,r,w⟩=>LE.go h.m n r w λv S' W' u H' le j l o k=>by
  cases v <;> first|(exact(g.no k).elim)|exact k W' u H' le j l,mCB g<|mB g h.m⟩
theorem xW{r:R2}(o:OpR X (compareOp op) r)(n:Pr2 B up pm r)(k:FE X B G Ex ea a)(j:FE X B G Ex eb b)(A:behindInMarks op eb=false):FE X B G Ex (.Compare ea [op] [eb] pos)<|cP pm<|zAv a b:=
 ⟨wkE (md o k.p j.p A) λτ H Q h=>(LE.p2 g k.m j.m h).imp k.m λx H1 C=>C.imp j.m λy H2 ⟨W,S,v,w,z,S',l,r1,r2,e,q⟩=>n l r1 r2 e q,mP g<|mAC g k.m<|mAC g j.m<|mAN g⟩
theorem q0(h:FE X B G Ex ea<|cB t)(k:zBo G t):FE X B G Ex (.UnaryOp .Not ea pos)<|cB<|tNt t:=
 ⟨wkE (wI h.p) λτ H Q ⟨W,O,S,n,o,r⟩=>⟨W,O,S,n,o,k.m (λ_ _ h=>h) (λv S' w W' u H' le j l=>⟨v,l,w W' (.bl (!v)) H' le j rfl⟩) r⟩,mCB g<|mNt g k⟩
theorem x8(h:FE X B G Ex ea<|cB t)(C:zBo G t)(J:FE X B G Ex (.BoolOp .And (eb::rest) pos)<|cB u)(A:zBo G u):FE X B G Ex (.BoolOp .And (ea::eb::rest) pos)<|cB<|tAn t u:=
 ⟨wkE (wN h.p J.p) λτ H Q ⟨W,O,S,E,r,F⟩=>⟨W,O,S,E,r,C.m (λ_ _ h=>h) (λv S' k W' w H' le j D=>⟨v,D,by
  have k:=g.bk k;cases v with
  |true=>exact⟨W',O,S',j,r.mono le,A.m (XL.upf le _) (λz S2 I W2 y H2 o n l=>I W2 y H2 (le.trans o) n l) k⟩
  |false=>exact k W' _ H' le j rfl⟩) F⟩,mCB g<|mAn g C A⟩
theorem zI(h:FE X B G Ex ea<|cB t)(C:zBo G t)(J:FE X B G Ex (.BoolOp .Or (eb::rest) pos)<|cB u)(A:zBo G u):FE X B G Ex (.BoolOp .Or (ea::eb::rest) pos)<|cB<|tOr' t u:=
 ⟨wkE (yO h.p J.p) λτ H Q ⟨W,O,S,E,r,F⟩=>⟨W,O,S,E,r,C.m (λ_ _ h=>h) (λv S' k W' w H' le j D=>⟨v,D,by
  have k:=g.bk k;cases v with
  |false=>exact⟨W',O,S',j,r.mono le,A.m (XL.upf le _) (λz S2 I W2 y H2 o n l=>I W2 y H2 (le.trans o) n l) k⟩
  |true=>exact k W' _ H' le j rfl⟩) F⟩,mCB g<|mOr g C A⟩
omit g in
theorem vz{op:BoolOp}(h:FE X B G Ex ea c):FE X B G Ex (.BoolOp op [ea] pos) c:=⟨wH h.p,h.m⟩
theorem AM(h:FT X B G Ex ec t)(y:FE X B G Ex ea a)(r:FE X B G Ex eb b):FE X B G Ex (.IfExp ec ea eb pos)<|cIf t a b:=
 ⟨wkE (qi h.p y.p r.p) λτ H Q ⟨W,O,S,E,F,I⟩=>LT.go h.m E F I λv S' W' H' le n o A=>by
  have A:=g.bk A;cases v with
  |true=>exact LE.go y.m n o (y.m.m (XL.upf le _) (λ_ _ h=>h) A) λw S2 W2 C H2 l k j _ D=>D W2 C H2 (le.trans l) k j
  |false=>exact LE.go r.m n o (r.m.m (XL.upf le _) (λ_ _ h=>h) A) λw S2 W2 C H2 l k j _ D=>D W2 C H2 (le.trans l) k j,mIf g h.m y.m r.m⟩
theorem nv{r:R2}(hp:Pr2 B up p r)(hq:Pr2 B up q r')(ma:zAz G a)(Y:zAz G b)(T:zAz G c){Q:A8->Hp->Prop}(h:LT B G Ex (tCh p q a b c) τ H Q) :
  zC9 r r' (LE B G Ex a) (LE B G Ex b) (LE B G Ex c) τ H (λx H'=>∃k,x=V.bl k/\Q k H'):=by
 let⟨W,O,S,rs,rg,hh⟩:=h;erw[<-LE.go ma rs rg hh λv S1 W1 u1 H1 j K E M h1=>?_,<-LE.go Y K M (Y.m (XL.upf j _) (λ_ _ h=>h) h1) λw S2 W2 u2 H2 le2 J n L h2=>?_];let⟨z,S3,e,l⟩:=g.pok h2;refine hp J (E.mono le2) n e λW3 u3 H3 le3 o D=>?_;cases z <;> first|(exact(g.no l).elim)|skip
 refine⟨_,D,?_⟩;have l:=g.bk l;split
 .next P=>
  rw[xCg P] at l;refine LE.go T o ((L.mono le3)) (T.m (XL.upf (j.trans<|le2.trans le3) _) (λ_ _ h=>h) l) λy S4 W4 u4 H4 le4 I C _ h4=>?_;let⟨Z,S5,e2,R⟩:=g.pok h4;refine hq I ((n.mono le3).mono le4) C e2 λW5 u5 H5 N F A=>?_;cases Z <;> first|(exact(g.no R).elim)|exact⟨_,A,R W5 H5 (j.trans<|le2.trans<|le3.trans<|le4.trans N) F⟩
 .next P=>
  rw[xCf P] at l;exact⟨false,rfl,l W3 H3 (j.trans<|le2.trans le3) o⟩
theorem AR{r:R2}(y:OpR X (compareOp op) r)(j:OpR X (compareOp op') r')(w:Pr2 B up p r)(o:Pr2 B up q r')(n:FE X B G Ex ea a)(l:FE X B G Ex eb b)(k:FE X B G Ex ec c)(A:lastMarks [op,op'] [eb,ec]=false):FT X B G Ex (.Compare ea [op,op'] [eb,ec] pos)<|tCh p q a b c:=
 ⟨wkT (pM y j n.p l.p k.p A) λτ H Q h=>nv g w o n.m l.m k.m h,mCh g n.m l.m k.m⟩
theorem zP{r:R2}(T:OpR X (compareOp op) r)(E:OpR X (compareOp op') r')(R:Pr2 B up p r)(P:Pr2 B up q r')(n:FE X B G Ex ea a)(l:FE X B G Ex eb b)(j:FE X B G Ex ec c)(Y:lastMarks [op,op'] [eb,ec]=false)(hi:∀x y H Q,r x y H Q->r x y H Q)(M:∀{x y H}{Q Q':VK},(∀v H,Q v H->Q' v H)->r x y H Q->r x y H Q')(D:∀{x y H}{Q Q':VK},(∀v H,Q v H->Q' v H)->r' x y H Q->r' x y H Q'):FE X B G Ex (.Compare ea [op,op'] [eb,ec] pos)<|cB<|tCh p q a b c:=
 ⟨wkE (ql T E n.p l.p j.p Y) λτ H Q J=>by
  let⟨W,O,S,K,L,Z⟩:=J;have h0:LT B G Ex (tCh p q a b c) τ H λk H'=>Q (.bl k) H':=⟨W,O,S,K,L,(mCh g n.m l.m j.m).m (λ_ _ h=>h) (λv S' h' W' H' le A=>h' W' (.bl v) H' le A rfl) Z⟩
  have h1:=nv g R P n.m l.m j.m h0;refine LE.imp n.m h1 λx H1 h2=>LE.imp l.m h2 λy H2 h3=>M (λz H3 ⟨k,e,o⟩=>⟨k,e,?_⟩) h3;split
  .next F=>rw[xCg F] at o;exact LE.imp j.m o λw H4 h5=>D (λz5 H5 ⟨N,I,C⟩=>by rw[I];exact C) h5
  .next F=>rw[xCf F] at o;let⟨N,I,C⟩:=o;cases I;exact C,mCB g<|mCh g n.m l.m j.m⟩
variable{k:Nat}{f:A7}{fd:FuncData}{ps:A9}{np:Nat}{ds:B4}{dvs:A0 V}{dus:B0}
theorem xY(F:zA9 X.prog X.w X.K X.mg X.base (CXo X.prog X.w) k f fd ps<|spF B G i np)(J:zBc k X.A)(N:Gl X x)(L:X.mg x=some (.ref f))(M:PySem.W.keepIn X.K (.ref f)=true)(P:zAy X.K fd ps ds)(hd:zAk dvs ds)(hdu:∀W,Rvs B W dus dvs)(I:zA3 (CXo X.prog X.w) X Ex)(n:(x==("__debug__":Str))=false)(y:FA X B G Ex es as)(Z:es=[]->as=aN)(T:es.length+dus.length=np)(l:es.all zAb=true):FE X B G Ex (.Call (.Name x p1) es [] pos)<|cF i as dus:=by
 refine⟨?_,mF g y.m⟩;have j:∀τ H Q,LE B G Ex (cF i as dus) τ H Q->zDa (spF B G i np) dvs Ex (LA B G Ex as) τ H Q:=λτ H Q ⟨W,O,S,r,E,C⟩=>LA.go y.m r E C λv S' W' u H' Y le o D R h'=>
  ⟨by rw[xAb,D.length,(hdu W').length,Y];exact T,W',v++dus,S',o,D.app<|hdu W',g.call (XL.upf le _) (λ_ _=>VL.inc le) h'⟩
 cases es with
 |nil=>
  rw[Z rfl] at j⊢;refine wkE (nV F J N L M P hd I n) λτ H Q h=>?_;let⟨W,O,S,r,E,C⟩:=j τ H Q h;exact C W [] H .refl r rfl
 |cons e es=>
  rw[xCj,xCh] at l;exact wkE (qo F J N L M P hd I y.p n (b9 l.1)<|dU l.2) j
end
section
variable{B:Bs}{up:A0<|Str×Str}
def Rvs.inv1{W:Wd}{us:A0 V}(r:Rvs B W [v] us):∃u,us=[u]/\Rv B W v u:=by let⟨u,t,rfl,h,a⟩:=r;rw[show t=[] from a];exact⟨u,rfl,h⟩
def Rvs.inv2{W:Wd}{w:U}{us:A0 V}(r:Rvs B W [v,w] us):∃b a,us=[b,a]/\Rv B W v b/\Rv B W w a:=by
 let⟨u,t,rfl,h,d⟩:=r;let⟨a,rfl,c⟩:=Rvs.inv1 d;exact⟨u,a,rfl,h,c⟩
set_option tactic.hygienic true
def Av{t:World}(P:∀{W:Wd}{p:A7}{b:A0<|Str×U}{no:A9}{x:Str}{v:U}{H:Hp}{Q:VK},B.kd p b no->zAt x b=some v->(∀u,Rv B W v u->Q u H)->zFd t B.K (.ref p) (.str x) H Q):Pr2 B up .ix<|zFd t B.K:=by
 intro W S H v w E D z S' Q j r1 r2 h q;change ixU v w S=_ at h;have l:∀d,sqU S v=some d->(match w with
   |.int i=>opt (atI d i) S
   |_=>Res.stuck)=.ok z S'->zFd t B.K E D H Q:=λd e h=>by
  split at h
  .unfold opt at h;split at h
   .next i C n=>
    cases h;let⟨p,A,rfl,sq,G⟩:=gp j r1 e;let⟨y,r,o⟩:=yk G n;rcases sq with sq|sq
    .exact .inl<|.inl<|.inl ⟨p,A,_,y,rfl,r2,sq,r,q.here j o⟩
    .exact .inl<|.inl<|.inr<|.inl ⟨p,A,_,y,rfl,r2,sq,r,q.here j o⟩
   .cases h
  .cases h
 unfold ixU at h;split at h
 .next b=>
  split at h
  .next x=>
   unfold opt at h;split at h
   .next C e=>
    cases h;let⟨p,rfl,hd⟩:=r1;rw[show D=.str x from r2];exact P (W:=W) hd e λu F=>q.here j F
   .cases h
  .cases h
 .split at h
  .split at h
   .next Y i c e=>
    let⟨N,n⟩:=zAu h;cases n;exact .inl<|.inl<|.inr<|.inr ⟨_,_,_,r1,r2,N,e,q.here j rfl⟩
   .cases h
  .cases h
 .next p=>
  split at h
  .next b e=>
   split at h
   .next k X=>
    unfold opt at h;split at h
    .next C r=>
     cases h;let⟨a,g,M,R,I,_⟩:=j.here e;let⟨Z,n,m⟩:=r1;rw[M] at m;cases m;let⟨L,rfl,J⟩:=I;let⟨y,T,o⟩:=(f8 (k:=k) J).1 _ r;exact .inl<|.inr ⟨a,y,n,.inl ⟨L,k,.inl R,gh X r2,T.symm⟩,q.here j o⟩
    .cases h
   .cases h
  .next d e=>exact l d (by show lsU S (.ref p)=_;unfold lsU;dsimp only;rw[e]) h
  .cases h
 .split at h
  .next d e=>exact l d e h
  .cases h
set_option tactic.hygienic false
def zEk(K:xFr):A0 V->Hp->VK->Prop:=λa H Q=>zIx K a H Q\/zF0 a H Q
def yF{X:Cx}:zAp X (.builtin "len")<|zEk X.K:=zAp.or yc uy
set_option tactic.hygienic true
theorem y3:PrN B up .len<|zEk B.K:=by
 intro W S H m us z S' Q d n h q;cases m with
 |nil=>cases h
 |cons v t=>cases t with
  |cons _ _=>cases h
  |nil=>
   let⟨u,rfl,r1⟩:=n.inv1;change zEg v S=_ at h;have c:∀b,sqU S v=some b->z=.int b.length->S'=S->zEk B.K [u] H Q:=λb e y A=>by
    subst y A;let⟨p,l,rfl,sq,o⟩:=gp d r1 e;have:=q.here d (u:=.int b.length) rfl;rw[<- o.length] at this;rcases sq with sq|sq
    .exact .inl ⟨_,_,rfl,.inl ⟨l,sq,rfl⟩,this⟩
    .exact .inl ⟨_,_,rfl,.inr ⟨l,sq,rfl⟩,this⟩
   unfold zEg at h;split at h
   .let⟨D,k⟩:=zAu h;cases k;rw[show u=.str _ from r1];exact .inl ⟨_,_,rfl,⟨D,rfl⟩,q.here d rfl⟩
   .next p=>
    split at h
    .next b e=>cases h;exact c b (by show lsU S (.ref p)=_;unfold lsU;dsimp only;rw[e]) rfl rfl
    .next j e=>
     cases h;let⟨a,g,C,E,r,_⟩:=d.here e;let⟨F,k,i⟩:=r1;rw[C] at i;cases i;let⟨x,rfl,w⟩:=r;have:=q.here d (u:=.int j.length) rfl;rw[<- w.length] at this;subst k;exact .inr ⟨a,x,rfl,E,this⟩
    .cases h
   .split at h
    .next b e=>cases h;exact c b e rfl rfl
    .cases h
set_option tactic.hygienic false
theorem vs1{vs:B0}{z:U}{S':So}(h:pr up p vs S=.ok z S')(d:pr up p [] S=.stuck)(c:∀a b r,pr up p (a::b::r) S=.stuck):∃v,vs=[v]:=by
 cases vs with
 |nil=>rw[d] at h;cases h
 |cons v t=>cases t with
  |nil=>exact⟨v,rfl⟩
  |cons _ _=>rw[c] at h;cases h
def zb:PrN B up .abs λxs H Q=>∃i,xs=[.int i]/\Q (.int<|if i<0 then -i else i) H:=by
 intro W S H e us z S' Q d c h q;let⟨v,rfl⟩:=vs1 h rfl λa b r=>by cases a <;> rfl
 let⟨u,rfl,r1⟩:=c.inv1;cases v <;> first|(cases h;done)|(cases h;exact⟨_,by rw[show u=_ from r1],q.here d rfl⟩)
def yY:PrN B up .max λxs H Q=>∃i j,xs=[.int i,.int j]/\Q (.int<|if j>i then j else i) H:=by
 intro W S H e us z S' Q d c h q;let⟨i,j,rfl,rfl,rfl⟩:=mS (f:=λi j=>.int<|if j>i then j else i) h;let⟨b,a,rfl,r1,r2⟩:=c.inv2;exact⟨i,j,by rw[show b=_ from r1,show a=_ from r2],q.here d rfl⟩
def yX:PrN B up .min λxs H Q=>∃i j,xs=[.int i,.int j]/\Q (.int<|if j<i then j else i) H:=by
 intro W S H e us z S' Q d c h q;let⟨i,j,rfl,rfl,rfl⟩:=mS (f:=λi j=>.int<|if j<i then j else i) h;let⟨b,a,rfl,r1,r2⟩:=c.inv2;exact⟨i,j,by rw[show b=_ from r1,show a=_ from r2],q.here d rfl⟩
def wQ:PrN B up .int1 zF1:=by
 intro W S H e us z S' Q c d h q;let⟨v,rfl⟩:=vs1 h rfl λa b r=>by cases a <;> rfl
 let⟨u,rfl,r1⟩:=d.inv1;cases v <;> first|(cases h;done)|(cases h;rw[show u=_ from r1];first|exact .inl ⟨_,rfl,q.here c rfl⟩|exact .inr ⟨_,rfl,q.here c rfl⟩)
set_option tactic.hygienic true
def tH:PrN B up .tupOf<|zD4 B.K:=by
 intro W S H m us z S' Q rs i h q;let⟨v,rfl⟩:=vs1 h rfl λa b r=>by cases a <;> rfl
 let⟨u,rfl,r1⟩:=i.inv1;change zB8 v S=_ at h;unfold zB8 at h;split at h
 .cases h;let⟨p,c,rfl,f,d⟩:=r1;exact⟨p,c,rfl,.inr ⟨.of<|rs.fz _ _ f,q.here rs ⟨p,c,rfl,f,d⟩⟩⟩
 .split at h
  .next k e=>
   cases h;let⟨p,c,rfl,sq,d⟩:=fN rs r1 e;exact⟨p,c,rfl,.inl ⟨sq,λl j=>q.tup rs d j⟩⟩
  .cases h
def tI{m:A8}:PrN B up (.lstOf m)<|zFz B.K:=by
 intro W S H o us z S' Q c i h q;let⟨v,rfl⟩:=vs1 h rfl λa b r=>by cases a <;> rfl
 let⟨u,rfl,r1⟩:=i.inv1;delta pr at h;dsimp only at h;split at h
 .next n e=>
  let⟨p,d,rfl,sq,j⟩:=gp c r1 e;exact⟨p,d,rfl,sq,λl k=>iQ h q c j k⟩
 .cases h
set_option tactic.hygienic false
theorem rS{W:Wd}:∀{vs:B0}{us:A0 V}{bs:A0 A8},blL vs=some bs->Rvs B W vs us->us=bs.map V.bl
 |[],_,_,h,r=>by cases h;exact r
 |x::t,_,_,h,r=>by
  let⟨u,s,rfl,b,a⟩:=r;cases x <;> try (cases h;done)
  simp only[blL] at h;cases e:blL t with
  |none=>rw[e] at h;cases h
  |some bs=>
   rw[e] at h;cases h;rw[rS e a,show u=_ from b];rfl
theorem iy{W:Wd}:∀{vs:B0}{us:A0 V}{bs:A9},zC5 vs=some bs->Rvs B W vs us->us=bs.map V.str
 |[],_,_,h,r=>by cases h;exact r
 |x::t,_,_,h,r=>by
  let⟨u,s,rfl,b,a⟩:=r;cases x <;> try (cases h;done)
  simp only[zC5] at h;cases e:zC5 t with
  |none=>rw[e] at h;cases h
  |some bs=>
   rw[e] at h;cases h;rw[iy e a,show u=_ from b];rfl
set_option tactic.hygienic true
def y9:PrN B up .all<|zIy B.K:=by
 intro W S H l us z S' Q c d h q;let⟨v,rfl⟩:=vs1 h rfl λa b r=>by cases a <;> rfl
 let⟨u,rfl,r1⟩:=d.inv1;cases v <;> try (cases h;done)
 delta pr at h;dsimp only at h;split at h
 .next bs e=>
  cases h;let⟨p,k,rfl,f,i⟩:=r1;refine⟨p,bs,rfl,.of (by rw[<- rS e i];exact c.fz _ _ f),λb j=>?_⟩;subst j;exact q.here c rfl
 .cases h
set_option tactic.hygienic false
end
section
variable{B:Bs}{up:A0<|Str×Str}{G:B9}{Ex:St->XK}{c a b d:B6}{as:B'}
variable{X:Cx}{e ea eb:A6}{es:A0 A6}{pos p1 p2 apos:Pos}{x:Str}{id T:String}{pm:Pm}{r:A0 V->Hp->VK->Prop}(g:zBw up G)
include g
theorem rh(A:zAp X (.builtin id) r)(o:PrN B up pm r)(y:Gl X x)(w:X.mg x=none)(n:bootBuiltins x=some (.builtin id))(i:FA X B G Ex (e::es) as)(h:(e::es).all zAb=true)(t:x≠"__name__")(j:(x==("__debug__":Str))=false):FE X B G Ex (.Call (.Name x p1) (e::es) [] pos)<|cP pm as:=
 ⟨wkE (qq A y w n i.p h t j) λτ H Q h=>(LE.pn g i.m h).imp i.m λus H1 ⟨W,S,C,z,S',l,k,e,q⟩=>o l k e q,mP g i.m⟩
theorem xZ(A:zAp X (.type T) r)(o:PrN B up pm r)(y:Gl X x)(w:X.mg x=none)(n:bootBuiltins x=some (.type T))(i:FA X B G Ex (e::es) as)(h:(e::es).all zAb=true)(t:x≠"__name__")(j:(x==("__debug__":Str))=false):FE X B G Ex (.Call (.Name x p1) (e::es) [] pos)<|cP pm as:=
 ⟨wkE (uY A y w n i.p h t j) λτ H Q h=>(LE.pn g i.m h).imp i.m λus H1 ⟨W,S,C,z,S',l,k,e,q⟩=>o l k e q,mP g i.m⟩
end
end Fx
namespace L2
open PySem PySem.Spec PyProof.Rows
def zFl(K:xFr)(a:A7)(y:V)(H:Hp)(Q:VK):Prop:=∃x v r,y=.str x/\PySem.W.nsIn K a x=some r/\(∀u,r=some u->zAi v u)/\(r=none->v=.non)/\Q v H
def zGq(K:xFr)(a:A7)(te:TE):TE:=λO H Q=>te O H λy H2=>zFl K a y H2 Q
section
variable{X:Cx}{o e:A6}{te:TE}{a:A7}{apos cpos:Pos}
theorem tD(d:KD X.w X.K a)(G:PE X o<|tC<|.ref a)(L:PE X e te)(m:M1 X o "get" apos e cpos):PE X (.Call (.Attribute o "get" apos) [e] [] cpos)<|zGq X.K a te:=by
 let⟨R,n,c,k,E⟩:=d;intro Z s O H Q I h;refine wpAny_Call_method m.base m.few m.line PySem.F.plainAttrs_dict PySem.F.slot_dict_get PySem.F.type_dict_get (thn (G Z s O H (λx H1=>x=.ref a/\te O H1 λy H2=>zFl X.K a y H2 Q) I ⟨rfl,h⟩) λu p l=>?_);let⟨x,H1,I1,B,M,D⟩:=l;subst M;obtain rfl:u=Value.ref a:=B;have i:=PySem.W.mapOf_K (prog:=X.prog) (w:=X.w) (λb o e=>I1.kIn b o e) c k;refine⟨i.typeIs,λb e=>⟨_,by cases e;exact I1.kIn a _ c,rfl⟩,?_⟩;rw[m.trees];refine Calls.callWith_builtin rfl (Calls.evalArgs_plain<|Calls.spliced_cons<|thn (L Z p O H1 _ I1 D) λP N ⟨y,H2,I2,A,C⟩=>Calls.spliced_nil ?_);let⟨z,v,r,rfl,J,r1,r2,q⟩:=C;let⟨t,rfl⟩:=A;have j:=PySem.W.mapOf_K (prog:=X.prog) (w:=X.w) (λb o e=>I2.kIn b o e) c k;refine call_meetsIn PySem.F.slot_dict_get j.typeIs PySem.F.entry_dict_get (PySem.F.args_dict_get_2 _ _) (meets_dict_get (strKind X.prog X.w) a (strKind_is X.prog X.w z t) E) ⟨_,j,?_⟩;rw[PySem.W.find_K c J];cases r with
 |none=>cases r2 rfl;exact⟨.non,H2,I2.tok _,rfl,q⟩
 |some u=>exact⟨v,H2,I2.tok _,r1 u rfl,q⟩
def zFe:V->B3->Hp->VK->Prop:=λx b H Q=>∃a y z o,x=.ref a/\b=[y,z]/\zD6 H a y o/\Q (o.getD z) H
def tX(j:X.A.units+1<cLine):MtR X "dict.get" zFe:=by
 intro Z s O H x l v us Q I c i h;let⟨a,y,z,o,rfl,rfl,d,q⟩:=h;cases (show v=Value.ref a from c);let⟨u,r,rfl,r1,r2⟩:=zDm i;exact yb j I d r1 r2 λk m I' b=>⟨_,H,I',b,q⟩
end
end L2
namespace Fx
open PySem PySem.Spec L2
open PyProof.Rows hiding St
variable{p k np:Nat}{f' c':A7}{fd:FuncData}{ps ks:A9}{ds:B4}{dvs:A0 V}{dus:B0}{v:U}{kx:A0<|A3 A6}{r:V->A0 V->Hp->VK->Prop}{name:Str}{kvs:A0<|Str×U}
section
variable{B:Bs}{W:Wd}{S S':So}{H:Hp}
theorem fO{f:Str}:∀{fs:A0<|Str×U}{vs:A0<|Str×V},Rn B W fs vs->(∀v,zAt f fs=some v->∃u,vs.lookup f=some u/\Rv B W v u)/\(zAt f fs=none->vs.lookup f=none)
 |[],_,r=>by rw[show _=[] from r];exact⟨(λv h=>nomatch h),λ_=>rfl⟩
 |(j,x)::t,_,r=>by
  let⟨v,q,rfl,c,b⟩:=r;by_cases e:f=j
  .subst e;unfold zAt;rw[xCg rfl];refine⟨λd h=>?_,(λh=>nomatch h)⟩;cases h;exact⟨v,by simp[List.lookup],c⟩
  .have a:(f==j)=false:=beq_eq_false_iff_ne.mpr e;unfold zAt;rw[xCf e];simp only[List.lookup,a];exact fO b
theorem lO{f:Str}{x:U}{y:V}(g:Rv B W x y):∀{fs:A0<|Str×U}{vs:A0<|Str×V},Rn B W fs vs->Rn B W (putF f x fs) (L2.putF f y vs)
 |[],_,r=>by rw[show _=[] from r];exact⟨y,[],rfl,g,rfl⟩
 |(j,z)::t,_,r=>by
  let⟨v,q,rfl,b,a⟩:=r;unfold putF L2.putF;by_cases e:j=f
  .rw[xCg e,xCg e];exact⟨y,q,rfl,g,a⟩
  .rw[xCf e,xCf e];exact⟨v,_,rfl,b,lO g a⟩
theorem Rn.app{κ:Type}:∀{us ws:A0<|κ×U}{vs a:A0<|κ×V},Rn B W us vs->Rn B W ws a->Rn B W (us++ws) (vs++a)
 |[],_,_,_,h,g=>by rw[show _=[] from h];exact g
 |_::_,_,_,_,h,g=>by let⟨v,r,rfl,c,b⟩:=h;exact⟨v,r++_,rfl,c,Rn.app b g⟩
def sG{κ:Type} [DecidableEq κ] {k:κ} {x:U} {y:V} (g:Rv B W x y) {fs:A0<|κ×U} {vs:A0<|κ×V} (r:Rn B W fs vs):Rn B W (putK k x fs)<|L2.putK vs k y:=by
 have an:(vs.any λkv=>decide<|kv.1=k)=(fs.any λkv=>decide<|kv.1=k):=by
  clear g;induction fs generalizing vs with
  |nil=>rw[show vs=[] from r];rfl
  |cons p t a=>let⟨v,q,rfl,c,b⟩:=r;rw[List.any_cons,List.any_cons,a b]
 unfold putK L2.putK;rw[an];split
 .next d=>
  clear d an;induction fs generalizing vs with
  |nil=>rw[show vs=[] from r];rfl
  |cons p t a=>
   let⟨v,q,rfl,c,b⟩:=r;rw[xBs,xBs];by_cases e:p.1=k
   .rw[xCg e,xCg e];exact⟨y,_,rfl,g,a b⟩
   .rw[xCf e,xCf e];exact⟨v,_,rfl,c,a b⟩
 .exact r.app ⟨y,[],rfl,g,rfl⟩
set_option tactic.hygienic true
def iW{f:Str->A0 (Str×U)->Res}{z:U}{u:V}(j:RS B W S H)(r1:Rv B W (.ref p) u)(h:zC6 p S f=.ok z S'):∃C fs a c d vs,at? S p=some (.ins C fs)/\f C fs=.ok z S'/\u=.ref a/\at? W.μ p=some a/\B.cl C c/\H a=some (.ins c d vs)/\Rn B W fs vs:=by
 unfold zC6 at h;split at h
 .next C fs e=>
  let⟨a,g,i,n,l,_⟩:=j.here e;let⟨t,q,b⟩:=r1;rw[i] at b;cases b;let⟨c,d,vs,o,rfl,m⟩:=l;exact⟨C,fs,a,c,d,vs,e,h,q,i,o,n,m⟩
 .cases h
def mD{f:B0->Res}{z:U}{u:V}(d:RS B W S H)(r1:Rv B W (.ref p) u)(h:zC0 p S f=.ok z S'):∃xs a vs,at? S p=some (.lst xs)/\f xs=.ok z S'/\u=.ref a/\at? W.μ p=some a/\H a=some (.lst vs)/\Rvs B W xs vs:=by
 unfold zC0 at h;split at h
 .next xs e=>
  let⟨a,g,c,l,i,_⟩:=d.here e;let⟨n,m,b⟩:=r1;rw[c] at b;cases b;let⟨vs,rfl,j⟩:=i;exact⟨xs,a,vs,e,h,m,c,l,j⟩
 .cases h
set_option tactic.hygienic false
end
section
variable{B:Bs}{up:A0<|Str×Str}{G:B9}{Ex:St->XK}{c a b d:B6}{as:B'}
variable{X:Cx}{e ea eb o value:A6}{es:A0 A6}{pos p1 p2 apos cpos pos':Pos}{x f m C:Str}{id T:String}{pm:Pm}{i:Nat}(g:zBw up G)
structure ClF(B:Bs)(flds:A9):Prop where
 c:∀{C c},B.cl C c->Cls B.K c
 n:∀{C c f},B.cl C c->f∈flds->zBv B.K c f
variable{fl:A9}
include g
theorem zL(A:X.K=B.K)(F:ClF B fl)(M:f∈fl)(j:FE X B G Ex o a)(h:zBr o=true):FE X B G Ex (.Attribute o f pos)<|cP (.fld f)<|aC a aN:=
 ⟨wkE (wM j.p<|fH h) λτ H Q h=>(LE.p1 g j.m h).imp j.m λu H1 D=>by
  let⟨W,S,v,z,S',t,r1,e,q⟩:=D;cases v <;> try (cases e;done)
  let⟨C,fs,a,c,R,E,_,l,P,_,w,L,J⟩:=iW t r1 e;unfold opt at l;split at l
  .next Y O=>
   cases l;let⟨y,N,I⟩:=(fO (f:=f) J).1 _ O;exact⟨a,c,R,E,y,P,L,by rw[A];exact F.c w,by rw[A];exact F.n w M,N,q.here t I⟩
  ·(cases l),mP g<|mAC g j.m<|mAN g⟩
theorem xS(Z:∀c,B.cl C c->c=c')(cc:Cls X.K c')(hm:zEp X.K c' m f')(F:zA9 X.prog X.w X.K X.mg X.base (CXo X.prog X.w) k f' fd ps<|spF B G i np)(hr:zBc k X.A)(hb:zAy X.K fd ps ds)(hd:zAk dvs ds)(hdu:∀W,Rvs B W dus dvs)(hx:zA3 (CXo X.prog X.w) X Ex)(I:FE X B G Ex o a)(L:FA X B G Ex es as)(h0:es=[]->as=aN)(hn:es.length+1+dus.length=np)(n:es.all zAb=true)(J:∃pl,eval (.Call (.Attribute o m apos) es [] pos) X.env=(do
   let ov <- eval o X.env
   standAt apos.atName
   let (f,first) <- holding [ov] (getMethod ov m pl)
   callWith pos f first (backTo pos<|starEach es X.env) (backToKw pos<|keywordEach [] X.env))):FE X B G Ex (.Call (.Attribute o m apos) es [] pos)<|cM C m i a as dus:=by
 refine⟨?_,mM g I.m L.m⟩;have j:∀τ H Q,LE B G Ex (cM C m i a as dus) τ H Q->zC8 c' m (spF B G i np) dvs Ex (LE B G Ex a) (LA B G Ex as) τ H Q:=λτ H Q ⟨W,O,S,N,rg,Y⟩=>LE.go I.m N rg Y λv S1 W1 u1 H1 le1 E y P h1=>by
  let⟨w,S2,e,h2⟩:=g.pok h1;cases v <;> try (cases e;done)
  let⟨D,fs,aa,c,dx,vs,_,q,e3,hμ,hc,R,rn⟩:=iW E y e;split at q
  .next hD=>
   have hD:=xBe hD;subst hD;split at q
   .next hf=>
    cases q;obtain rfl:=Z c hc;erw[<-⟨aa,dx,vs,e3,R,(fO (f:=m) rn).2 hf,?_⟩,<-LA.go L.m E P (L.m.m (XL.upf le1 _) (λ_ _ _ h=>h) h2) λws S3 W3 us H3 hl l M t _ h3=>?_];exact⟨by rw[xAo,xAb,t.length,(hdu W3).length,hl,<- hn];lia,W3,.ref _::(ws++dus),S3,M,⟨u1,_,rfl,y.mono l,t.app<|hdu W3⟩,g.call (XL.upf (le1.trans l) _) (λ_ _=>VL.inc<|le1.trans l) h3⟩
   .cases q
  .cases q
 let⟨pl,J⟩:=J;cases es with
 |nil=>
  rw[h0 rfl] at j⊢;erw[<-wkE (nR (pl:=pl) I.p cc hm F hr hb hd hx J) λτ H Q h=>?_,<-(j τ H Q h).imp I.m λu H1 ⟨a',dx,fs,e1,q,e3,h4⟩=>⟨a',dx,fs,e1,q,e3,?_⟩]
  let⟨W,O,S,N,rg,Y⟩:=h4;exact Y W [] H1 .refl N rfl
 |cons e es=>
  rw[xCj,xCh] at n;exact wkE (qg (pl:=pl) I.p cc hm F hr hb hd hx L.p (b9 n.1) (dU n.2) J) j
omit g in
theorem zFg:zCv (CXo X.prog X.w) X λ_ _ _=>False:=λZ O H s l j I z=>by let⟨_,_,_,_,_,_,_,_,_,_,_,_,_,h⟩:=z;exact h.elim
theorem xT(hcl:B.cl x c')(M:Mk X.K c' f')(F:zA9 X.prog X.w X.K X.mg X.base (CXo X.prog X.w) k f' fd ps<|spF B G i np)(hr:zBc (k+1) X.A)(hg:Gl X x)(hm:X.mg x=some (.ref c'))(hb:zAy X.K fd ps ds)(hd:zAk dvs ds)(hdu:∀W,Rvs B W dus dvs)(D:(x==("__debug__":Str))=false)(Y:FA X B G Ex es as)(h0:es=[]->as=aN)(hn:es.length+1+dus.length=np)(n:es.all zAb=true):FE X B G Ex (.Call (.Name x p1) es [] pos)<|cK x i as dus:=by
 refine⟨?_,mK g Y.m⟩;have j:∀τ H Q,LE B G Ex (cK x i as dus) τ H Q->zD9 c' (spF B G i np) dvs (λ_ _ _=>False) (LA B G Ex as) τ H Q:=λτ H Q ⟨W,O,S,N,rg,hh⟩=>LA.go Y.m N rg hh λws S1 W1 us H1 hl P L q _ h1=>by
  intro l dx R hdx Z;let⟨w,S2,e,h2⟩:=g.pok h1;cases e;have sm:=dB hdx<|.own l;have y:upd H1 dx (.own l) l=none:=by rw[bx<|Ne.symm Z];exact R
  have le2:W1.Le {W1 with μ:=W1.μ++[l]}:=⟨λ_ _ h=>h,λ_ _ h=>dR h,rfl⟩
  let⟨_,J,ha⟩:=(L.same sm).push (o:=.ins x []) (h:=.ins c' dx []) y ⟨c',dx,[],hcl,rfl,rfl⟩;refine⟨by rw[xAo,xAb,q.length,(hdu W1).length,hl,<- hn];lia,_,.ref S1.length::(ws++dus),_,J,⟨_,_,rfl,⟨l,rfl,ha⟩,(q.mono le2).app<|hdu _⟩,g.call (λ_ _ h=>(g.no h).elim) (λr S3 h3 W3 u3 H3 t I E=>?_) h2⟩;cases r <;> first|(exact(g.no h3).elim)|exact⟨E,h3 W3 (.ref l) H3 (P.trans<|le2.trans t) I ⟨l,rfl,t.m _ _ ha⟩⟩
 cases es with
 |nil=>
  rw[h0 rfl] at j⊢;refine wkE (qh M F hr hg hm hb hd zFg D) λτ H Q h=>?_;let⟨W,O,S,N,rg,hh⟩:=j τ H Q h;exact hh W [] H .refl N rfl
 |cons e es=>
  rw[xCj,xCh] at n;exact wkE (tx M F hr hg hm hb hd zFg Y.p D (b9 n.1)<|dU n.2) j
end
section
variable{B:Bs}{W:Wd}{S S':So}{H:Hp}
theorem Rg.lf{W W':Wd}{O:Sg}{τ:St}(r:Rg B W O τ)(le:W.Lf W'):Rg B W' O τ:=⟨r.l,λi v h=>let ⟨u,e,q⟩:=r.v i v h;⟨u,e,q.lf le⟩⟩
def RS.drop(r:RS B W S H){l:A0<|A7×HO}(h:∀q∈l,q∈W.pr):RS B {W with pr:=l} S H:=
 ⟨r.fz,r.len,r.nd,λa p z=>let ⟨o,g,e,d,b,q⟩:=r.ob a p z;⟨o,g,e,d,b.lf .pr,q⟩,λq c=>r.pf q<|h q c⟩
def XL.hold{E:XK}{x:Xc}{pp:A7×HO}(h:XL B W E x S):XL B {W with pr:=pp::W.pr} E x S:=λW' C n H le a=>
 h {W' with pr:=W.pr} C n H ⟨le.f,le.m,rfl⟩ ⟨a.s.drop λq e=>by rw[le.r];exact xAs _ e,a.c,a.f.imp id λ⟨d,b,l,j,i⟩=>⟨d,b,l,j,i.lf .pr⟩⟩
def zJr(K:xFr):V->A3 Int->A3 Int->Hp->VK->Prop:=λx a b H Q=>zH6 K x a b H Q\/zH7 K x a b H Q\/zH8 K x a b H Q
set_option tactic.hygienic true
def lL{m:A8}{z:U}{u:V}{lo hi:A3 Int}{Q:VK}(rs:RS B W S H)(r1:Rv B W v u)(h:slice m v lo hi S=.ok z S')(q:VL B W Q z S'):zJr B.K u lo hi H Q:=by
 unfold slice at h;split at h
 .next d=>
  split at h
  .next hd=>
   cases h;let⟨p,b,rfl,f,a⟩:=r1;exact .inr<|.inr ⟨p,b,rfl,.of<|rs.fz _ _ f,by rw[a.length];exact xBe hd,q.here rs ⟨p,b,rfl,f,a⟩⟩
  .next hd=>
   cases h;let⟨p,b,rfl,f,a⟩:=r1;have j:=a.length;refine .inl ⟨p,b,rfl,.of<|rs.fz _ _ f,by rw[j];exact of_decide_eq_false hd,λi c=>q.tup rs (nr a lo hi) c⟩
 .split at h
  .next d e=>
   let⟨p,b,rfl,sq,a⟩:=fN rs r1 e;exact .inr<|.inl ⟨p,b,rfl,sq,λi c=>iQ h q rs (nr a lo hi) c⟩
  .cases h
set_option tactic.hygienic false
end
section
variable{B:Bs}{up:A0<|Str×Str}{G:B9}{Ex:St->XK}{c a b d:B6}{as:B'}
variable{X:Cx}{e ea eb ec o:A6}{es:A0 A6}{pos p1 p2 p3 apos cpos:Pos}{x f m C:Str}{id T:String}{pm:Pm}{i:Nat}(g:zBw up G)
include g
theorem zG{m:A8}(A:X.K=B.K)(l:FE X B G Ex ea a)(j:FE X B G Ex eb b):FE X B G Ex (.Subscript ea (.Slice (some eb) none none p2) pos)<|cP (.sl m true false)<|zAv a b:=
 ⟨wkE (jz (SlR.or pw<|SlR.or lK lJ) l.p (lW j.p) lX) λτ H Q h=>(LE.p2 g l.m j.m h).imp l.m λx H1 D=>D.imp j.m λy H2 n=>by
  let⟨W,S,v,w,z,S',t,r1,r2,e,q⟩:=n;cases w <;> try (cases e;done)
  have:=lL (lo:=some _) (hi:=none) t r1 e q;rw[<- A] at this;exact⟨_,r2,this⟩,mP g<|mAC g l.m<|mAC g j.m<|mAN g⟩
theorem zH{m:A8}(A:X.K=B.K)(l:FE X B G Ex ea a)(j:FE X B G Ex eb b):FE X B G Ex (.Subscript ea (.Slice none (some eb) none p2) pos)<|cP (.sl m false true)<|zAv a b:=
 ⟨wkE (jz (SlR.or pw<|SlR.or lK lJ) l.p lX<|lW j.p) λτ H Q h=>(LE.p2 g l.m j.m h).imp l.m λx H1 D=>D.imp j.m λy H2 n=>by
  let⟨W,S,v,w,z,S',t,r1,r2,e,q⟩:=n;cases w <;> try (cases e;done)
  have:=lL (lo:=none) (hi:=some _) t r1 e q;rw[<- A] at this;exact⟨_,r2,this⟩,mP g<|mAC g l.m<|mAC g j.m<|mAN g⟩
omit g in
structure FP(X:Cx)(B:Bs)(G:B9)(Ex:St->XK)(pos:Pos)(kx:A0 (A3 A6))(ks:A9)(es:A0 A6)(as:B'):Prop where
 ex:∃trs,PPs X pos kx es trs/\∀τ H Q,LA B G Ex as τ H (λus H'=>Q ((ks.zip us).map λp=>(V.str p.1,p.2)) H')->zCn trs τ H Q
 m:zCg G as es.length
theorem AH:FP X B G Ex pos [] [] [] aN:=⟨⟨[],tp,λτ H Q ⟨W,O,S,j,l,h⟩=>h W [] H .refl j rfl⟩,mAN g⟩
theorem AI{k:Str}{j:Nat}(E:FE X B G Ex e a)(q:FP X B G Ex pos kx ks es as):FP X B G Ex pos (some (.Constant (.str k) j p2)::kx) (k::ks) (e::es)<|aC a as:=by
 let⟨trs,L,K⟩:=q.ex;erw[<-⟨⟨_,pW qf E.p L,λτ H Q ⟨W,O,S,I,J,h⟩=>?_⟩,mAC g E.m q.m⟩,<-LE.go E.m I J h λv S1 W1 F H1 n A w D N=>K τ H1 _ ?_,<-LA.go q.m A D (q.m.m (XL.upf n _) (λ_ _ _ h=>h) N) λP S2 W2 us H2 _ l y t _ M=>M W2 (F::us) H2 (n.trans l) y ⟨F,us,rfl,w.mono l,t⟩]
omit g in
theorem nq{W:Wd}:∀{ks:A9}{vs:B0}{us:A0 V},Rvs B W vs us->Rn B W (zGf ks vs) ((ks.zip us).map λp=>((Sum.inr p.1:Key),p.2))
 |[],vs,us,r=>by cases vs <;> rfl
 |k::ks,[],us,r=>by rw[show us=[] from r];rfl
 |k::ks,v::vs,us,r=>by
  let⟨u,t,rfl,j,h⟩:=r;exact⟨u,_,rfl,j,nq h⟩
omit g in
theorem dZ:∀{ks:A9},zA7 ks=true->ks.Nodup
 |[],_=>xC7
 |k::ks,h=>by
  simp only[zA7,xCh,Bool.not_eq_true'] at h;refine xCb.mpr ⟨λj=>?_,dZ h.2⟩;have:(ks.any λy=>decide<|y=k)=true:=xCy.mpr ⟨k,j,⋯⟩;rw[h.1] at this;cases this
omit g in
theorem pL{acc:A0<|Key×V}{k:Key}{v:V}(h:k∉acc.map (·.1)):L2.putK acc k v=acc++[(k,v)]:=by
 unfold L2.putK;rw[xCf];intro z;let⟨p,j,e⟩:=xCy.mp z;exact h<|xA2.mpr ⟨p,j,xBe e⟩
omit g in
theorem hZ:∀{j acc:A0<|Key×V},(acc.map (·.1)++j.map (·.1)).Nodup->zBh acc j=acc++j
 |[],acc,_=>by simp[zBh]
 |p::t,acc,h=>by
  have l:p.1∉acc.map (·.1):=λz=>by
   have:=(xBq.mp h).2.2 p.1 z p.1 ⋯;exact this rfl
  show zBh (L2.putK acc p.1 p.2) t=_;rw[pL l,hZ<|by simpa [xAx] using h];simp
omit g in
theorem jh:∀{ks:A9}{us:A0 V},ks.length=us.length->(ks.zip us).map ((λx=>x.1) ∘ λp=>((Sum.inr p.1:Key),p.2))=ks.map λk=>(Sum.inr k:Key)
 |[],_,_=>rfl
 |k::t,[],h=>by cases h
 |k::t,u::r,h=>by rw[List.zip_cons_cons,xBs,xBs,jh<|by simpa using h];rfl
theorem zN(y:FP X B G Ex pos kx ks es as)(M:zA7 ks=true)(hl:ks.length=es.length)(N:kx.length=es.length)(w:kx.all (·.isSome)=true)(h0:kx≠[])(Z:ks.length<=15):FE X B G Ex (.Dict kx es pos)<|cP (.dct ks) as:=by
 let⟨trs,h1,Y⟩:=y.ex;refine⟨wkE (tE h1 w N h0 ()) λτ H Q ⟨W,O,S,F,J,h⟩=>?_,mP g y.m⟩;intro p j;erw[Y τ _ _,<-LA.go y.m (F.hold (o:=.dK []) j λ_=>nofun) (J.lf .pr) (y.m.m (λ_ _=>XL.hold) (λ_ _ _ h=>h) h) λI S1 W1 us H1 K le1 n l _ R=>?_];let⟨z,S2,e,q⟩:=g.pok R;delta pr at e;dsimp only at e;split at e
 .cases e;have hu:=l.length;have t:W1.pr=(p,.dK [])::W.pr:=le1.r;refine⟨(n.pf _<|by rw[t];exact xAr).1,(ks.zip us).map λp=>((Sum.inr p.1:Key),p.2),by rw[List.map_map];rfl,by rw[xAa,List.length_zip];lia,?_⟩;have E:(((ks.zip us).map λp=>((Sum.inr p.1:Key),p.2)).map (·.1)).Nodup:=by
   rw[List.map_map];have:=jh (ks:=ks) (us:=us) ();rw[this];exact List.Pairwise.map _ (λa b h z=>h<|Sum.inr.inj z)<|dZ M
  rw[hZ (acc:=[])<|by simpa using E];have D:∀q∈W.pr,q.1≠p:=λq L z=>by rw[<- z,(F.pf q L).1] at j;cases j
  have lf:W1.Lf {W1 with pr:=W.pr,μ:=W1.μ++[p]}:=⟨λ_ _ h=>h,λ_ _ h=>dR h⟩
  let⟨A,P⟩:=n.heldS (b:=.dct<|zGf ks I) (h:=.dK<|[]++(ks.zip us).map λp=>((Sum.inr p.1:Key),p.2)) t D ⟨_,rfl,by rw[xC6];exact(nq l).lf lf⟩;exact q {W1 with pr:=W.pr,μ:=W1.μ++[p]} _ _ ⟨λb o z=>le1.f b o z,λa b z=>dR<|le1.m a b z,rfl⟩ A ⟨p,rfl,P⟩
 .cases e
theorem AQ:FE X B G Ex (.Dict [] [] pos)<|cP (.dct []) aN:=
 ⟨wkE qk λτ H Q l=>by
  let⟨W,O,S,n,y,h⟩:=l;let⟨z,S2,e,q⟩:=g.pok h;cases e;intro p t;have le:W.Le {W with μ:=W.μ++[p]}:=⟨λ_ _ h=>h,λ_ _ h=>dR h,rfl⟩
  let⟨_,j,w⟩:=n.push (o:=.dct []) (h:=.dK []) t ⟨[],rfl,rfl⟩;exact q _ _ _ le j ⟨p,rfl,w⟩,mP g<|mAN g⟩
end
def Ad:bootBuiltins "isinstance"=some (.builtin "isinstance"):=by decide +kernel
noncomputable def tys:A0 String:=["NoneType","bool","int","str","tuple","list","dict"]
structure ClT(B:Bs):Prop where
 ty:∀{C c H a dx fs},B.cl C c->H a=some (.ins c dx fs)->zCd B.K H (.ref a) (.ref c)
structure zCw(B:Bs)(n:String):Prop where
 t:∀t∈tys,PySem.W.kitOne B.K (.type t) (.type n)=some (zEi t n)
 o:∀{C c},B.cl C c->PySem.W.kitOne B.K (.ref c) (.type n)=some (zEi "object" n)
section
variable{B:Bs}{W:Wd}{S S':So}{H:Hp}
theorem vL{u:V}{t:String}(T:ClT B)(rs:RS B W S H)(r:Rv B W v u)(h:tyU S v=some t):(t∈tys/\zCd B.K H u (.type t))\/(t="object"/\∃p C fs c,v=.ref p/\at? S p=some (.ins C fs)/\B.cl C c/\zCd B.K H u (.ref c)):=by
 cases v with
 |non=>cases h;rw[show u=_ from r];exact .inl ⟨∅,.non⟩
 |bl b=>cases h;rw[show u=_ from r];exact .inl ⟨∅,.bl b⟩
 |int i=>cases h;rw[show u=_ from r];exact .inl ⟨∅,.int i⟩
 |str x=>cases h;rw[show u=_ from r];exact .inl ⟨∅,.str x⟩
 |tup n=>cases h;let⟨p,j,rfl,f,_⟩:=r;exact .inl ⟨∅,.tup<|rs.fz _ _ f⟩
 |lst n=>cases h;let⟨p,j,rfl,f,_⟩:=r;exact .inl ⟨∅,.lst<|rs.fz _ _ f⟩
 |ref p=>
  unfold tyU at h;dsimp only at h;let⟨a,rfl,w⟩:=r;cases e:at? S p with
  |none=>rw[e] at h;cases h
  |some o=>
   let⟨A,g,d,m,l,_⟩:=rs.here e;rw[w] at d;cases d;rw[e] at h;cases o with
   |lst n=>cases h;let⟨j,rfl,_⟩:=l;exact .inl ⟨∅,.lst m⟩
   |dct kvs=>cases h;let⟨j,rfl,_⟩:=l;exact .inl ⟨∅,.dK m⟩
   |ins C fs=>cases h;let⟨c,y,j,q,rfl,_⟩:=l;exact .inr ⟨rfl,p,C,fs,c,rfl,e,q,T.ty q m⟩
   |dead=>cases h
 |_=>cases h
set_option tactic.hygienic true
def oV{z:U}{u:V}{T:String}{up:A0<|Str×Str}(rs:RS B W S H)(r:Rv B W v u)(h:pr up (.typ T) [v] S=.ok z S')(m:T="list"\/T="str"\/T="dict"):z=v/\S'=S/\tyV B.K T u H:=by
 delta pr at h;dsimp only at h;split at h
 .next t e=>
  split at h
  .next i=>
   cases h;refine⟨rfl,rfl,?_⟩;have i:t=T:=beq_iff_eq.mp i;subst i;rcases m with rfl|rfl|rfl
   .cases v with
    |lst xs=>let⟨p,b,rfl,f,_⟩:=r;exact .inl ⟨rfl,b,.of<|rs.fz _ _ f⟩
    |ref p=>
     unfold tyU at e;dsimp only at e;cases e2:at? S p with
     |none=>rw[e2] at e;cases e
     |some o=>
      rw[e2] at e;cases o <;> try (simp at e;done)
      let⟨q,b,n,d,_⟩:=c8 rs r (xs:=_) (by unfold lsT;dsimp only;rw[e2]);subst n;exact .inl ⟨rfl,b,.of d⟩
    |_=>simp[tyU] at e
   .cases v with
    |str x=>rw[show u=_ from r];rfl
    |ref p=>
     unfold tyU at e;dsimp only at e;split at e <;> simp at e
    |_=>simp[tyU] at e
   .cases v with
    |ref p=>
     unfold tyU at e;dsimp only at e;cases e2:at? S p with
     |none=>rw[e2] at e;cases e
     |some o=>
      rw[e2] at e;cases o <;> try (simp at e;done)
      let⟨a,rfl,l⟩:=r;let⟨q,g,c,d,j,_⟩:=rs.here e2;rw[l] at c;cases c;let⟨b,rfl,_⟩:=j;exact .inr<|.inr<|.inl ⟨rfl,.inl ⟨b,d⟩⟩
    |_=>simp[tyU] at e
  .cases h
 .cases h
set_option tactic.hygienic false
end
section
variable{B:Bs}{up:A0<|Str×Str}{G:B9}{Ex:St->XK}{c a b d:B6}{as:B'}
variable{X:Cx}{e ea eb ec o:A6}{es:A0 A6}{pos p1 p2 p3 apos cpos:Pos}{x y f m C:Str}{id T:String}{pm:Pm}{i:Nat}(g:zBw up G)
include g
set_option tactic.hygienic true
theorem m9(n:X.K=B.K)(ct:ClT B)(kt:zCw B T)(N:Gl X "isinstance")(M:X.mg "isinstance"=none)(F:Gl X y)(E:X.mg y=none)(A:bootBuiltins y=some (.type T))(D:y≠"__name__")(I:(y==("__debug__":Str))=false)(l:FE X B G Ex ea a)(j:zAb ea=true):FE X B G Ex (.Call (.Name "isinstance" p1) [ea,.Name y p2] [] pos)<|cP (.isT T)<|aC a aN:=
 ⟨wkE (qq yd N M Ad (qr l.p (qr (tF F E A (v:=.ty T) rfl D I) iI rfl) j)<|by rw[xCj,j];rfl) λτ H Q h=>(LE.p1 g l.m h).imp l.m λu H1 J=>by
  let⟨W,S,v,z,S',w,r1,e,q⟩:=J;delta pr at e;dsimp only at e;split at e
  .next t P=>
   cases e;rcases vL ct w r1 P with ⟨L,ty⟩|⟨rfl,p,C,fs,c,_,_,O,ty⟩
   .exact⟨u,T,_,_,rfl,by rw[n];exact ty,by rw[n];exact kt.t _ L,q.here w rfl⟩
   .exact⟨u,T,_,_,rfl,by rw[n];exact ty,by rw[n];exact kt.o O,q.here w rfl⟩
  ·(cases e),mP g<|mAC g l.m<|mAN g⟩
set_option tactic.hygienic false
omit g in
def PrM(B:Bs)(up:A0<|Str×Str)(p:Pm)(r:V->A0 V->Hp->VK->Prop):Prop:=∀{W:Wd}{S:So}{H:Hp}{v:U}{u:V}{vs:B0}{us:A0 V}{z:U}{S':So}{Q:VK},RS B W S H->Rv B W v u->Rvs B W vs us->pr up p (v::vs) S=.ok z S'->VL B W Q z S'->r u us H Q
theorem rj(hK:X.K=B.K)(P:PlainAttrs T)(j:Slot T name id)(F:typeOf (.builtin id)=pure (.type "method_descriptor"))(Y:MtR X id r)(R:PrM B up pm r)(hT:T="list"\/T="str"\/T="dict")(I:FE X B G Ex o a)(J:FE X B G Ex e b)(h:zBr o=true)(w:zAb e=true)(L:(apos.endLine==cpos.line)=true):FE X B G Ex (.Call (.Attribute o name apos) [e] [] cpos)<|cBM T pm a<|aC b aN:=
 ⟨wkE (As P j F Y I.p (eY g J (gG g) w).p h w L) λτ H Q ⟨W,O,S,M,N,Z⟩=>LE.go I.m M N Z λv S1 W1 u1 H1 le1 n l E h1=>by
  let⟨z,S2,e2,w⟩:=g.pok h1;let⟨rfl,rfl,ty⟩:=oV n l e2 hT;have fa:FA X B G Ex [e]<|aC b aN:=eY g J (gG g) ‹_›;refine⟨by rw[hK];exact ty,LA.go fa.m n E (fa.m.m (XL.upf le1 _) (λ_ _ _ h=>h) w) λws S3 W3 us H3 L t D A _ h3=>?_⟩;let⟨z3,S4,e4,q⟩:=g.pok h3;exact R D (l.mono t) A e4 (q.inc<|le1.trans t),mBM g I.m<|mAC g J.m<|mAN g⟩
theorem zQ(hK:X.K=B.K)(Z:PlainAttrs T)(l:Slot T name id)(J:typeOf (.builtin id)=pure (.type "method_descriptor"))(hm:MtR X id r)(hp:PrM B up pm r)(hT:T="list"\/T="str"\/T="dict")(L:FE X B G Ex o a)(he:FE X B G Ex e b){j:A6}{N:B6}(M:FE X B G Ex j N)(h:zBr o=true)(D:zAb e=true)(A:zAb j=true)(P:(apos.endLine==cpos.line)=true):FE X B G Ex (.Call (.Attribute o name apos) [e,j] [] cpos)<|cBM T pm a<|zAv b N:=by
 have fa:FA X B G Ex [e,j]<|zAv b N:=eY g he (eY g M (gG g) A) D;exact⟨wkE (uZ Z l J hm L.p fa.p (fH h) (by rw[b9 D,b9 A];rfl) P (b9 D)<|by rw[b9 A];rfl) λτ H Q ⟨W,O,S,R,Y,hh⟩=>LE.go L.m R Y hh λv S1 W1 u1 H1 le1 t n I h1=>by
  let⟨z,S2,j,D⟩:=g.pok h1;let⟨rfl,rfl,ty⟩:=oV t n j hT;refine⟨by rw[hK];exact ty,LA.go fa.m t I (fa.m.m (XL.upf le1 _) (λ_ _ _ h=>h) D) λws S3 W3 us H3 P w F E _ A=>?_⟩;let⟨z3,S4,e4,q⟩:=g.pok A;exact hp F (n.mono w) E e4 (q.inc<|le1.trans w),mBM g L.m fa.m⟩
set_option tactic.hygienic true
omit g in
theorem wS:PrM B up .dget zFe:=by
 intro W S H v u Z us z S' Q n F l h q;delta pr at h;dsimp only at h;split at h
 .next p k d Y=>
  cases Y;split at h
  .next kvs t R P=>
   let⟨a,rfl,K⟩:=F;let⟨a',g1,j,L,I,_⟩:=n.here R;rw[K] at j;cases j;let⟨ks,rfl,J⟩:=I;let⟨y,A,rfl,E,D⟩:=l.inv2;let⟨N,M⟩:=f8 (k:=t) J;refine⟨a,y,A,zCh ks t,rfl,rfl,.inl ⟨ks,t,.inl L,gh P E,rfl⟩,?_⟩;split at h
   .next v' w=>
    cases h;let⟨u',O,r5⟩:=N _ w;rw[O];exact q.here n r5
   .next w=>
    cases h;rw[M w];exact q.here n D
  .cases h
 .cases h
set_option tactic.hygienic false
omit g in
theorem y8:PrM B up .app zDd:=by
 intro W S H v u D us z S' Q l F j h q;cases D with
 |nil=>cases v <;> cases h
 |cons w t=>cases t with
  |cons _ _=>cases v <;> cases h
  |nil=>
   cases v <;> try (cases h;done)
   let⟨P,O,A,N,K,M,I,J,n⟩:=mD l F h;let⟨R,L⟩:=zAu K;cases L;let⟨E,rfl,r2⟩:=j.inv1;exact⟨O,A,E,M,rfl,J,by rw[n.length];lia,q.here (l.mut I N (by nofun) ⟨_,rfl,n.app<|.one r2⟩) rfl⟩
set_option tactic.hygienic true
omit g in
omit g in
theorem y7:PrM B up .ext zDc:=by
 intro W S H v u I us z S' Q n J l h q;cases I with
 |nil=>cases v <;> cases h
 |cons w t=>cases t with
  |cons _ _=>cases v <;> cases h
  |nil=>
   cases v <;> try (cases h;done)
   let⟨xs,aa,E,Y,A,R,K,M,D⟩:=mD n J h;split at A
   .next zs O=>
    let⟨L,P⟩:=zAu A;cases P;let⟨u2,rfl,r2⟩:=l.inv1;let⟨Z,F,rfl,N,j⟩:=c8 n r2 O;exact⟨aa,Z,E,F,R,rfl,M,N,by rw[D.length,j.length];exact L,q.here (n.mut K Y (by nofun) ⟨_,rfl,D.app j⟩) rfl⟩
   .cases A
omit g in
theorem wP:PrM B up .join<|zFc B.K:=by
 intro W S H v u A us z S' Q n D j h q;cases A with
 |nil=>cases h
 |cons b t=>cases t with
  |cons _ _=>cases h
  |nil=>
   delta pr at h;dsimp only at h;split at h
   .next s N es J=>
    split at h
    .next w L=>
     split at h
     .next F=>
      cases h;let⟨O,rfl,r2⟩:=j.inv1;let⟨l,M,rfl,I,E⟩:=c8 n r2 J;have e:=iy L E;subst e;have:=vQ es;subst this;exact⟨s,l,w,D,rfl,.of I,xBe F,q.here n rfl⟩
     .cases h
    .cases h
   .cases h
set_option tactic.hygienic false
omit g in
structure KdF(wo:World)(B:Bs):Prop where
 d:∀{p kvs no},B.kd p kvs no->KD wo B.K p
 y:∀{p kvs no x v},B.kd p kvs no->zAt x kvs=some v->∃u val,PySem.W.nsIn B.K p x=some (some val)/\zAi u val/\∀W,Rv B W v u
 n:∀{p kvs no x},B.kd p kvs no->x∈no->PySem.W.nsIn B.K p x=some none
theorem xV{no:A9}{p:A7}(E:X.K=B.K)(F:KdF X.w B)(hd:B.kd p kvs no)(hg:Gl X x)(Y:X.mg x=some (.ref p))(D:(x==("__debug__":Str))=false)(A:FE X B G Ex e b)(J:zAb e=true)(Z:(apos.endLine==cpos.line)=true):FE X B G Ex (.Call (.Attribute (.Name x p1) "get" apos) [e] [] cpos)<|cP .get1<|aC (cC<|.kd kvs no)<|aC b aN:=
 ⟨wkE (tD (by rw[E];exact F.d hd) (iH hg Y (v:=.ref p) rfl D) A.p ⟨fH rfl,by rw[b9 J];rfl,Z,by rw[b9 J];rfl⟩) λτ H Q ⟨W,O,S,L,N,hh⟩=>LE.go A.m L N hh λv S1 W1 u1 H1 t l j M h1=>by
  let⟨z,S2,h,q⟩:=g.pok h1;cases v <;> try (cases h;done)
  delta pr at h;dsimp only at h;split at h
  .next v' ev=>
   cases h;let⟨u,val,e3,r3,r4⟩:=F.y hd ev;exact⟨_,u,some val,j,by rw[E];exact e3,λ_ z=>by cases z;exact r3,nofun,(q.inc t).here l<|r4 _⟩
  .split at h
   .next R=>
    cases h;let⟨y,P,I⟩:=xCy.mp R;have I:=xBe I;subst I;exact⟨_,.non,none,j,by rw[E];exact F.n hd P,nofun,λ_=>rfl,(q.inc t).here l rfl⟩
   ·(cases h),mP g<|mAC g (mC g)<|mAC g A.m<|mAN g⟩
theorem xU{no:A9}{p:A7}(P:X.K=B.K)(F:KdF X.w B)(hd:B.kd p kvs no)(hg:Gl X x)(hm:X.mg x=some (.ref p))(N:(x==("__debug__":Str))=false)(M:FE X B G Ex e b)(D:FE X B G Ex ec c)(E:zAb e=true)(Y:zAb ec=true)(hl:(apos.endLine==cpos.line)=true):FE X B G Ex (.Call (.Attribute (.Name x p1) "get" apos) [e,ec] [] cpos)<|cP .get2<|aC (cC<|.kd kvs no)<|zAv b c:=
 ⟨wkE (qj (by rw[P];exact F.d hd) (iH hg hm (v:=.ref p) rfl N) M.p D.p ⟨fH rfl,by rw[b9 E,b9 Y];rfl,hl,by rw[b9 E,b9 Y];rfl⟩) λτ H Q ⟨W,O,S,rs,rg,hh⟩=>LE.go M.m rs rg hh λv S1 W1 u1 H1 le1 J l L h1 =>
  LE.go D.m J L (D.m.m (XL.upf le1 _) (λ_ _ h=>h) h1) λw S2 W2 Z H2 A t I _ E=>by
   let⟨z,S3,j,q⟩:=g.pok E;cases v <;> try (cases j;done)
   delta pr at j;dsimp only at j;split at j
   .next v' ev=>
    cases j;let⟨u,val,e3,r3,r4⟩:=F.y hd ev;exact⟨_,u,some val,l,by rw[P];exact e3,λ_ z=>by cases z;exact r3,nofun,(q.inc<|le1.trans A).here t<|r4 _⟩
   .split at j
    .next hn=>
     cases j;let⟨y,hy,R⟩:=xCy.mp hn;have R:=xBe R;subst R;exact⟨_,Z,none,l,by rw[P];exact F.n hd hy,nofun,λ_=>rfl,(q.inc<|le1.trans A).here t I⟩
    ·(cases j),mP g<|mAC g (mC g)<|mAC g M.m<|mAC g D.m<|mAN g⟩
end
end Fx
namespace L2
open PySem PySem.Spec PyProof.Rows
variable{w:World}{elts:A0 A6}{k:Nat}{pos:Pos}
def zD1{prog:Program}{A:Around}(a:A.handled=none)(it:A7)(x:Str)(t:Tok):Draws prog w A it [it] x.cps.size (λi v=>∃c u,x.cps[i]?=some c/\v=.str ⟨#[c]⟩ u) λi h=>h.IsStrIter it (strIterType x) x t i:=by
 unfold strIterType;split
 .exact Draws.strAscii a it x t
 .exact Draws.strWide a it x t
noncomputable def zHs(z:Str):It:=
 ⟨λi _=>i<z.cps.size,λi H x H'=>∃(p:A7) (c:Nat),x=.ref p/\H p=none/\H'=upd H p (.tup [.int i,.str ⟨#[c]⟩])/\z.cps[i]?=some c,λi _=>i=z.cps.size⟩
def jl{P:Program}{K:xFr}(z:Str)(t:Tok)(it e:A7)(n:e≠it):zEl P w K (.Tuple elts k pos) (zHs z) [e,it] e (λi h=>(∃a,IsEnum h e it (i:Nat) a)/\h.IsStrIter it (strIterType z) z t i) where
 mem:=by simp
 obj:=λi h l b j=>by
  let⟨⟨a,q1⟩,o,q2,c,d⟩:=l;simp only[xAv,xBv,or_false] at j;rcases j with rfl|rfl
  .exact⟨_,q1,λv z=>by cases z⟩
  .exact⟨o,q2,λv z=>by rw[d] at z;cases z⟩
 keep:=λi h h' l k=>⟨let ⟨a,q⟩:=l.1;⟨a,k e ⋯ _ q⟩,(let ⟨o,x,r⟩:=l.2;⟨o,k it ⋯ o x,r⟩)⟩
 item:=by
  intro X C L hK Y i Z s O H E I R l Q;subst C L hK;let⟨⟨a,p⟩,hit⟩:=l;have D:=zD1 (prog:=X.prog) (w:=X.w) (A:=X.A.in1) (by simpa using I.ok.hd Y) it z t;have B:i<z.cps.size:=Q;refine wpAny_pyNext_enum_itemD D p hit B n (by simp[n]) λx1 h1 tk C x J hT hsz hk=>?_;let⟨c,u,W,rfl⟩:=C;have S:e<s.heap.objs.size:=xA1 p;have N:it<s.heap.objs.size:=by let⟨_,z,_⟩:=hit;exact xA1 z
  have h0:H s.heap.objs.size=none:=I.hok.fresh<|xAg _;have I1:Inv X Z O (upd H s.heap.objs.size<|.tup [.int i,.str ⟨#[c]⟩]) {s with heap:=s.heap.push {cls:=.type "tuple",data:=.seq #[.int i tk,.str ⟨#[c]⟩ u]},toks:=tk+1}:=by
   refine I.laid (λb o e=>xAf _ e) (xAg _) ⟨by simp[sizeLine_eq],[.int i tk,.str ⟨#[c]⟩ u],.cons ⟨_,rfl⟩<|.cons ⟨_,rfl⟩ .nil,_,xAl _ rfl,rfl,_,rfl⟩
  refine⟨_,rfl,wpAny_letOwnedTupleGo_enum (s:={s with heap:=h1,toks:=tk+1}) x λh2 T M=>?_⟩;have m:Heap.SameBut e h1 h2:=M;have F:∀b∈[e,it],zCy X Z (upd H s.heap.objs.size<|.tup [.int i,.str ⟨#[c]⟩]) b:=λb j=>by
   let⟨f0,f⟩:=R b j;refine⟨?_,f⟩;rw[bx]
   .exact f0
   .simp only[xAv,xBv,or_false] at j;rcases j with rfl|rfl
    .exact xA0 S
    .exact xA0 N
  have I2:=Inv.turnedL (t':=tk+1) (h':=h2) (fp:=[e,it]) I1 (λb o j G=>?_) F
  .refine⟨.ref s.heap.objs.size,_,I2,rfl,⟨_,c,rfl,h0,rfl,W⟩,⟨⟨_,by simpa using T⟩,(let ⟨o,x,r⟩:=J;⟨o,(m.2 it n.symm).trans x,r⟩)⟩,λb j=>(F b j).1⟩
  .simp only[xAv,xBv,or_false,not_or] at j;rw[m.2 b j.1];by_cases z:b=s.heap.objs.size
   .subst z;rw[hT];rw[<- G];exact(xAl _ rfl).symm
   .erw[hk b o j.1 j.2];exact(Heap.get?_push_cases G).elim (λy=>absurd y.1 z) id
 done:=by
  intro X C L hK Y i Z s O H E I R l Q;subst C L hK;let⟨f0,f1,f2,f3,f4,f5⟩:=R it ⋯;let⟨⟨a,p⟩,hit⟩:=l;have D:=zD1 (prog:=X.prog) (w:=X.w) (A:=X.A.in1) (by simpa using I.ok.hd Y) it z t;have e1:i=z.cps.size:=Q;exact wpAny_pyNext_enum_endD D p (by rw[<- e1];exact hit) λh' G=>⟨rfl,I.turned (t':=s.toks) (λb o j e=>G b o j e) f0 f1 f3 f4 f5⟩
 self:=λ_ _ _ _ _ l h=>let ⟨⟨a,p⟩,_⟩:=l;wpAny_pyIter_enum p h
def zEf(vs:B3)(H:Hp)(R:It->Hp->Prop):Prop:=∃z:Str,vs=[.str z]/\R (zHs z) H
def zEj(b:TA):TI:=λO H R=>b O H λa H1=>zEf a H1 R
section
variable{X:Cx}
theorem nQ{a:A6}{j:TA}{p pt:Pos}(A:Gl X "enumerate")(x:X.mg "enumerate"=none)(B:PA X [a] j)(v:starEach [a] X.env=[(false,eval a X.env)]:=by rfl):PI X (.Tuple elts k pt) (.Call (.Name "enumerate" p) [a] [] pos)<|zEj j:=by
 intro Z s O H R I h;refine Call_ (fg I A x oK<|PyProof.Rows.callWith_type1 (thn (B pos Z s O H _ I h) λus c ⟨D,H1,I1,r1,o⟩=>?_) v rfl);let⟨z,e,q⟩:=o;subst e;cases r1 with
 |cons r n=>
  cases n;let⟨t,rfl⟩:=r;erw[<-call_enumerate_str λC l i _ y=>?_,wpAny_pyIter_enum l];have I2:Inv X Z O H1 {c with heap:=C}:=I1.kept (t':=c.toks) y;refine⟨c.heap.objs.size+1,[c.heap.objs.size+1,c.heap.objs.size],_,_,H1,rfl,I2,jl z t _ _<|Nat.succ_ne_self _,⟨⟨_,l⟩,i⟩,λb m=>?_,q⟩;have d:c.heap.objs.size<=b:=by
   simp only[xAv,xBv,or_false] at m;rcases m with rfl|rfl
   .exact Nat.le_succ _
   .exact xAg _
  exact I1.fpOk d<|I1.hok.fresh d
end
end L2
namespace L2
open PySem PySem.Spec PyProof.Rows RevA
variable{P:Program}{w:World}{K:xFr}{lim k:Nat}{a:A7}{elts:A0 A6}{pos:Pos}{x:V}{kx:A8}
def sqB(k:A8)(K:xFr)(H:Hp)(a:A7)(xs:B3):Prop:=match k with
 |true=>SqT K H a xs
 |false=>SqL K H a xs
def sqK(k:A8)(K:xFr)(H:Hp)(x:V)(xs:B3):Prop:=∃a,x=.ref a/\sqB k K H a xs
structure SrW(k:A8)(P:Program)(w:World)(K:xFr)(lim:Nat)(x:V)(it:A7)(tn:Nat->Heap->Prop):Prop where
 obj:∀i h,tn i h->∃o,h.get? it=some o/\∀v,o.data≠.cell v
 keep:∀i h h',tn i h->(∀o,h.get? it=some o->h'.get? it=some o)->tn i h'
 dr:∀(X:Cx),X.prog=P->X.w=w->X.K=K->X.calm=true->∀(Z:A0 (A7×Obj))(O:St)(H:Hp)(s:A5),Inv X Z O H s->∀xs,sqK k K H x xs->∃(f:A0 A7) (Pv:Nat->A4->Prop) (S:Nat->Heap->Prop),
  (∀b∈f,b=it\/b<lim)/\Draws P w X.A.in1 it f xs.length Pv S/\(∀i,tn i s.heap->S i s.heap)/\(∀i h,S i h->tn i h)/\(∀i v,Pv i v->∃u,xs[i]?=some u/\zAi u v)/\∀ys,sqK k K H x ys->ys=xs
def sv{it:A7}(B:a<lim)(hi:lim<=it):SrW true P w K lim (.ref a) it (λi h=>h.IsTupleIter it a i) where
 obj:=λi h ⟨o,e,_,d⟩=>⟨o,e,λv z=>by rw[d] at z;cases z⟩
 keep:=λi h Q c k=>c.at λo e=>k o e
 dr:=by
  intro X J F L G Z O H s I C l;subst J F L;let⟨b,e,l⟩:=l
  .cases e;let⟨j,q,p,N⟩:=I.tuple l;have t:=q.length;have D:=zFv (prog:=X.prog) (w:=X.w) (A:=X.A.in1) (by simpa using I.ok.hd G) it a (xA0<|xBc B hi) j.toArray;rw[xAp,<- t] at D;refine⟨_,_,_,λb y=>?_,D,λi c=>⟨c,p⟩,λi h c=>c.1,λi v m=>?_,λM n=>?_⟩
   .simp only[xAv,xBv,or_false] at y;rcases y with rfl|rfl
    .exact .inl rfl
    .exact .inr B
   .have m:j[i]?=some v:=by simpa using m
    have hi:i<C.length:=by rw[t];exact(xAq.mp m).1
    let⟨u,r,E⟩:=q.get<|xAk hi;rw[m] at r;cases r;exact⟨_,xAk hi,E⟩
   .let⟨b,e,n⟩:=n;cases e;exact I.tuple_inj n l
def sw{it:A7}(B:a<lim)(hi:lim<=it):SrW false P w K lim (.ref a) it (λi h=>h.IsListIter it a i) where
 obj:=λi h ⟨o,e,_,d⟩=>⟨o,e,λv z=>by rw[d] at z;cases z⟩
 keep:=λi h Q c k=>c.at λo e=>k o e
 dr:=by
  intro X J F L G Z O H s I C l;subst J F L;let⟨b,e,l⟩:=l
  .cases e;let⟨j,q,p,N⟩:=I.list l;have t:=q.length;have D:=Draws.list (prog:=X.prog) (w:=X.w) (A:=X.A.in1) (by simpa using I.ok.hd G) it a (xA0<|xBc B hi) j.toArray;rw[xAp,<- t] at D;refine⟨_,_,_,λb y=>?_,D,λi c=>⟨c,p.isList⟩,λi h c=>c.1,λi v m=>?_,λM n=>?_⟩
   .simp only[xAv,xBv,or_false] at y;rcases y with rfl|rfl
    .exact .inl rfl
    .exact .inr B
   .have m:j[i]?=some v:=by simpa using m
    have hi:i<C.length:=by rw[t];exact(xAq.mp m).1
    let⟨u,r,E⟩:=q.get<|xAk hi;rw[m] at r;cases r;exact⟨_,xAk hi,E⟩
   .let⟨b,e,n⟩:=n;cases e;exact I.list_inj n l
noncomputable def zHr(kx d:A8)(K:xFr)(x y:V):It:=
 ⟨λi H=>∃b c u v,sqK kx K H x b/\sqK d K H y c/\b[i]?=some u/\c[i]?=some v,
  λi H p H'=>∃(q:A7) (u v:V),p=.ref q/\H q=none/\H'=upd H q (.tup [u,v])/\(∀b,sqK kx K H x b->b[i]?=some u)/\∀c,sqK d K H y c->c[i]?=some v,
  λi H=>∃b,sqK kx K H x b/\b.length=i⟩
def nE{y:V}{n:Nat}{t1 t2:Nat->Heap->Prop}{ky:A8}(t:SrW kx P w K n x n t1)(G:SrW ky P w K n y (n+1) t2) :
  zEl P w K (.Tuple elts k pos) (zHr kx ky K x y) [n+4,n+2,n+3,n,n+1] (n+4) (λi h=>IsZip h (n+4) (n+2) (n+3) .none/\IsPair h (n+2) (.ref n) (.ref<|n+1)/\(∃x y,IsPair h (n+3) x y)/\t1 i h/\t2 i h) where
 mem:=by simp
 obj:=λi h l c q=>by
  let⟨p,m,⟨x,y,r⟩,q4,q5⟩:=l;simp only[xAv,xBv,or_false] at q;rcases q with rfl|rfl|rfl|rfl|rfl
  .exact⟨_,p,λv z=>by cases z⟩
  .exact⟨_,m,λv z=>by cases z⟩
  .exact⟨_,r,λv z=>by cases z⟩
  .exact t.obj i h q4
  .exact G.obj i h q5
 keep:=λi h h' l k=>by
  let⟨p,m,⟨x,y,r⟩,q4,q5⟩:=l;exact⟨k _ ⋯ _ p,k _ ⋯ _ m,⟨x,y,k _ ⋯ _ r⟩,t.keep i h h' q4 λo e=>k _ ⋯ o e,G.keep i h h' q5 λo e=>k _ ⋯ o e⟩
 item:=by
  intro X hP T hK q i Z s O H E I hf l hg;subst hP T hK;let⟨M,ys,u,v,Y,hr,S,R⟩:=hg;let⟨p,m,⟨x0,y0,r⟩,q4,q5⟩:=l;let⟨f1,P1,S1,N,D1,a1,c1,r1,j1⟩:=t.dr X rfl rfl rfl q Z O H s I M Y;let⟨f2,P2,S2,m2,D2,a2,c2,r2,j2⟩:=G.dr X rfl rfl rfl q Z O H s I ys hr;have AP:=oR (f1:=f1) (f2:=f2) N m2;have lz:n+4<s.heap.objs.size:=xA1 p;have h0:H s.heap.objs.size=none:=I.hok.fresh<|xAg _;refine nC D1 D2 AP p m r (a1 i q4) (a2 i q5) (xAq.mp S).1 (xAq.mp R).1 λF D h1 tk p1 p2 b1 b2 b3 b4 b5 hk=>?_;let⟨u',B,ru⟩:=r1 i F p1;rw[S] at B;cases B;let⟨v',A,rv⟩:=r2 i D p2;rw[R] at A;cases A;have I1:Inv X Z O (upd H s.heap.objs.size<|.tup [u,v]) {s with heap:=s.heap.push {cls:=.type "tuple",data:=.seq #[F,D]},toks:=tk}:=by
   refine I.laid (λb o e=>xAf _ e) (xAg _) ⟨by simp[sizeLine_eq],[F,D],.cons ru<|.cons rv .nil,_,xAl _ rfl,rfl,_,rfl⟩
  refine⟨_,rfl,wpAny_letOwnedTupleGo_zip (s:={s with heap:=h1,toks:=tk}) b1 λh2 e1 W=>?_⟩;have j:Heap.SameBut (n+4) h1 h2:=W;have C:∀b∈[n+4,n+2,n+3,n,n+1],zCy X Z (upd H s.heap.objs.size<|.tup [u,v]) b:=λb d=>by
   let⟨f0,f⟩:=hf b d;refine⟨?_,f⟩;rw[bx]
   .exact f0
   .simp only[xAv,xBv,or_false] at d;rcases d with rfl|rfl|rfl|rfl|rfl <;> exact xA0 ()
  have I2:=Inv.turnedL (t':=tk) (h':=h2) (fp:=[n+4,n+2,n+3,n,n+1]) I1 (λb o d J=>?_) C
  .refine⟨.ref s.heap.objs.size,_,I2,rfl,⟨_,u,v,rfl,h0,rfl,λL Q=>by rw[j1 L Q];exact S,λL Q=>by rw[j2 L Q];exact R⟩,⟨e1,?_,⟨F,D,?_⟩,?_,?_⟩,λb d=>(C b d).1⟩
   .exact(j.2 _ AP.q1).trans<|hk _ _ AP.q1 AP.q5 AP.q6 AP.q7 m
   .exact(j.2 _ AP.q2).trans b2
   .exact t.keep _ _ _ (c1 _ _ b3) λo e=>(j.2 _ AP.q3).trans e
   .exact G.keep _ _ _ (c2 _ _ b4) λo e=>(j.2 _ AP.q4).trans e
  .simp only[xAv,xBv,or_false,not_or] at d;rw[j.2 b d.1];by_cases zz:b=s.heap.objs.size
   .subst zz;rw[show h1.get? s.heap.objs.size=_ from b5];rw[<- J];exact(xAl _ rfl).symm
   .erw[hk b o d.1 d.2.2.1 d.2.2.2.1 d.2.2.2.2];exact(Heap.get?_push_cases J).elim (λy=>absurd y.1 zz) id
 done:=by
  intro X hP T hK q i Z s O H E I hf l hg;subst hP T hK;let⟨M,Y,rfl⟩:=hg;let⟨p,m,⟨x0,y0,r⟩,q4,q5⟩:=l;let⟨f1,P1,S1,N,D1,a1,c1,r1,j1⟩:=t.dr X rfl rfl rfl q Z O H s I M Y;have AP:=oR (f1:=f1) (f2:=[]) N λb d=>nomatch d;refine nD D1 AP p m (a1 _ q4) λh' J=>⟨rfl,Inv.turnedL (t':=s.toks) (fp:=[n+4,n+2,n+3,n,n+1]) I (λb o d e=>?_) hf⟩
  simp only[xAv,xBv,or_false,not_or] at d;exact J b o d.1 d.2.2.1 d.2.2.2.1 d.2.2.2.2 e
 self:=λ_ _ _ _ _ l h=>wpAny_pyIter_zip l.1 h
def zEe(K:xFr)(vs:B3)(H:Hp)(R:It->Hp->Prop):Prop:=∃x y kx b,vs=[x,y]/\(∃xs,sqK kx K H x xs)/\(∃ys,sqK b K H y ys)/\R (zHr kx b K x y) H
def zHa(K:xFr)(c:TA):TI:=λO H R=>c O H λb H1=>zEe K b H1 R
section
variable{X:Cx}
theorem o9{Z:A0<|A7×Obj}{O:St}{H:Hp}{s:A5}{v:A4}(I:Inv X Z O H s)(r:zAi x v){xs:B3}(h:sqK kx X.K H x xs)(lim it:Nat)(l:s.heap.objs.size<=lim)(hi:lim<=it) :
  ∃(o:Obj) (tn:Nat->Heap->Prop),(∀h',(∀c o,s.heap.get? c=some o->h'.get? c=some o)->zBj v o h')/\o.isFreed=false/\SrW kx X.prog X.w X.K lim x it tn/\∀h',h'.get? it=some o->tn 0 h':=by
 let⟨a,rfl,j⟩:=h;obtain rfl:v=Value.ref a:=r;cases kx with
 |true=>
  let⟨d,t,p,y⟩:=I.tuple j;have i:a<s.heap.objs.size:=by let⟨o,e,_⟩:=p;exact xA1 e
  refine⟨zGl a,_,λh' k=>?_,rfl,sv (xBc i l) hi,λh' e=>⟨_,e,rfl,rfl⟩⟩;intro b w A E m Q e q;subst e;let⟨o,e,r⟩:=p;exact wpAny_pyIter_tuple (items:=d.toArray) ⟨o,k _ _ e,r⟩ q
 |false=>
  let⟨d,t,p,y⟩:=I.list j;have i:a<s.heap.objs.size:=by let⟨o,n,e,_⟩:=p;exact xA1 e
  refine⟨{cls:=.type "list_iterator",data:=.fields #[.ref a,.int 0 0]},_,λh' k=>?_,rfl,sw (xBc i l) hi,λh' e=>⟨_,e,rfl,rfl⟩⟩;intro b w A E m Q e q;subst e;let⟨o,n,e,r⟩:=p;exact wpAny_pyIter_list (PlainL.isList ⟨o,n,k _ _ e,r⟩) q
theorem tq{a b:A6}{n:TA}{p pt:Pos}(L:Gl X "zip")(G:X.mg "zip"=none)(M:PA X [a,b] n)(E:starEach [a,b] X.env=(false,eval a X.env)::starEach [b] X.env)(j:starEach [b] X.env=[(false,eval b X.env)]) :
  PI X (.Tuple elts k pt) (.Call (.Name "zip" p) [a,b] [] pos) (zHa X.K n):=by
 intro Z s O H R I h;refine Call_ (fg I L G rR<|PyProof.Rows.callWith_type1 (thn (M pos Z s O H _ I h) λus c ⟨W,H1,I1,r1,B⟩=>?_) E<|by rw[j];rfl);let⟨x,y,kx,Y,e,⟨T,F⟩,⟨ys,hr⟩,q⟩:=B;subst e;cases r1 with
 |cons r i=>
  cases i with
  |cons r2 i=>
   cases i;let⟨o1,t1,D,m,S1,A⟩:=o9 I1 r F c.heap.objs.size c.heap.objs.size (xAg _)<|xAg _;let⟨o2,t2,C,l,S2,v⟩:=o9 I1 r2 hr c.heap.objs.size (c.heap.objs.size+1) (xAg _)<|Nat.le_succ _;erw[<-oQ (D _ λ_ _ e=>e) (C _ λ_ _ e=>xAf _ e) λN t S Q a4 a5 J=>?_,wpAny_pyIter_zip t];have I2:Inv X Z O H1 {c with heap:=N}:=I1.kept (t':=c.toks) J;refine⟨c.heap.objs.size+4,[c.heap.objs.size+4,c.heap.objs.size+2,c.heap.objs.size+3,c.heap.objs.size,c.heap.objs.size+1],_,_,H1,rfl,I2,nE S1 S2,⟨t,S,⟨_,_,Q⟩,A _<|a4 m,v _<|a5 l⟩,λb o=>?_,q⟩;have d:c.heap.objs.size<=b:=by
    simp only[xAv,xBv,or_false] at o;rcases o with rfl|rfl|rfl|rfl|rfl <;> lia
   exact I1.fpOk d<|I1.hok.fresh d
end
end L2
namespace L2
open PySem PySem.Spec PyProof.Rows PySem.Builtin PySem.Builtin.ObjectAttr
variable{e C T:A7}{dx:A3 A7}{H':Hp}{X:Cx}{Ex:St->XK}
structure TBf(fl:A4)(T:A7)(X:Cx)(Z:A0 (A7×Obj))(h:Heap)(H:Hp):Prop where
 ent:∃oT ts,h.get? T=some oT/\oT.data=.fields ts/\ts[3]?=some fl
 new:X.s₀.heap.objs.size<=T
 pn:∀p∈X.pn++Z,p.1≠T
 un:H T=none
section
variable{X:Cx}{Z:A0<|A7×Obj}{O:St}{H:Hp}{s s1:A5}{E':A4->A5->Prop}{Q:Unit->A5->Prop}
def zG0(I:Inv X Z O H s)(c:X.stack=X.env::X.outer)(r:X.env.frame=some X.env.locals)(j:H e=some (XO C dx e))(k:∀d T,Inv X Z O (upd H e<|XF C dx e T) d->T≠e->TBf (rawInt X.env.locals) T X Z d.heap (del H e)->Q Unit.unit d) :
  wpAny (model X.prog X.w) X.A (noteFrame (.ref e) X.env) Q E' s:=by
 let⟨⟨t,ge⟩,_,_⟩:=(show zAg X.prog X.w H s.heap e (XO C dx e) from I.hok e _ j)
 have h:X.A.frames=some (X.env::X.outer):=c▸I.ok.frames;have q:s.heap.FunFrames X.base<|X.env::X.outer:=c▸I.stack;refine jD h q r ge rfl rfl λl T a=>?_;have Te:T≠e:=Nat.ne_of_gt<|xBc (xA1 ge) a.new;have i:∀b∈frs (X.env::X.outer),H b=none:=λb v=>I.stkFree b (by rw[c];exact v);let⟨u,ok⟩:=dY (o:=XF C dx e T) I.hok i (λb z=>absurd z ⋯) j a<|XF.ok (t:=t) a.exc;have m:Un (frs X.stack) [] H (upd H e<|XF C dx e T) s.heap l:=by rw[c];exact u
 refine k {s with heap:=l} T (I.call (g':=s.gens) (t':=s.toks) (d':=s.drawn) (ch:=[]) m ok I.bare λb z=>absurd z ⋯) Te ⟨a.ent,xCk I.sz a.new,λp n z=>absurd (xA1 (I.pin p n).1) (by rw[z];exact Nat.not_lt.mpr a.new),?_⟩;rw[i8 Te];exact I.hok.fresh a.new
def zG9{Ex:XK}{D:A4}(I:Inv X Z O H s)(j:X.stack=X.env::X.outer)(S:X.env.frame=some X.env.locals)(F:CXo X.prog X.w X.stack H s Ex D s1)(k:∀n (e C T:A7) (dx:A3 A7) (H':Hp),D=.ref e->H' e=none->Inv X Z O (upd H' e<|XF C dx e T) n->T≠e->TBf (rawInt X.env.locals) T X Z n.heap H'->Ex (.ref C) dx H'->Q Unit.unit n) :
  wpAny (model X.prog X.w) X.A (noteFrame D X.env) Q E' s1:=by
 let⟨e,C,T0,dx,H',rfl,P,Te0,tb,N,h,un,c,q⟩:=F;let⟨a,l,m,t1,r⟩:=s1;obtain rfl:r=s.os:=N;have I1:Inv X Z O (upd H' e<|XF C dx e T0) {s with heap:=a,gens:=l,drawn:=m,toks:=t1}:=I.call (ch:=[]) un c h (λb z=>absurd z ⋯);have i:upd H' e (XF C dx e T0) e=some (XF C dx e T0):=bz;let⟨⟨t,ge⟩,_,_⟩:=(show zAg X.prog X.w (upd H' e<|XF C dx e T0) a e (XF C dx e T0) from c e _ i)
 let⟨Y,W,J,G,E⟩:=tb.ent;have x:X.A.frames=some (X.env::X.outer):=j▸I.ok.frames;have R:a.FunFrames X.base<|X.env::X.outer:=j▸I1.stack;refine gv (s:={s with heap:=a,gens:=l,drawn:=m,toks:=t1}) x R S ge rfl rfl J G E Te0 λy T d nT=>?_;have Te:T≠e:=Nat.ne_of_gt<|xBc (xA1 ge) d.new;have B:∀b∈frs (X.env::X.outer),upd H' e (XF C dx e T0) b=none:=λb h=>I1.stkFree b (by rw[j];exact h);have v:∀b∈[T0],upd H' e (XF C dx e T0) b=none:=λb h=>by
  have:b=T0:=by simpa using h
  rw[this,bx Te0];exact tb.un
 let⟨u,ok⟩:=dY (o:=XF C dx e T) c B v i d<|XF.ok (t:=t) d.exc;rw[f9] at u ok;have L:Un (frs X.stack) [T0] (upd H' e<|XF C dx e T0) (upd H' e<|XF C dx e T) a y:=by rw[j];exact u
 have K:Un (frs X.stack) [] H (upd H' e<|XF C dx e T) s.heap y:=(un.wide.trans L).strip tb.old;refine k {s with heap:=y,gens:=l,drawn:=m,toks:=t1} e C T dx H' rfl P (I.call (g':=l) (t':=t1) (d':=m) (ch:=[]) K ok h λb z=>absurd z ⋯) Te ⟨d.ent,xCk I1.sz d.new,λp M z=>absurd (xA1 (I1.pin p M).1) (by rw[z];exact Nat.not_lt.mpr d.new),?_⟩ q;have:=c.fresh d.new;rw[bx Te] at this;exact this
def zCo(I:Inv X Z O (upd H' e<|XF C dx e T) s)(a:X.env.frame=some X.env.locals)(tb:TBf (rawInt X.env.locals) T X Z s.heap H')(k:Q Unit.unit s):wpAny (model X.prog X.w) X.A (noteFrame (.ref e) X.env) Q E' s:=by
 let⟨⟨t,ge⟩,_,_⟩:=(show zAg X.prog X.w (upd H' e<|XF C dx e T) s.heap e (XF C dx e T) from I.hok e _ bz)
 let⟨i,h,d,c,b⟩:=tb.ent;unfold noteFrame;rw[a];refine xAd<|xDa ge rfl (x:=.ref T) rfl ?_;rw[xCg<|show(Value.ref T != Value.none)=true by simp];refine xAd<|xDa d c b ?_;rw[xCg<|show(rawInt X.env.locals==rawInt X.env.locals)=true by simp];exact xAe k
def zDh{fr:A3 A7}{fl:A4}(I:Inv X Z O (upd H' e<|XF C dx e T) s)(Te:T≠e)(tb:TBf fl T X Z s.heap H')(k:∀j,Inv X Z O (upd H' e<|XF C dx e T) j->TBf (fr.elim .none λf=>rawInt f) T X Z j.heap H'->Q Unit.unit j):wpAny (model X.prog X.w) X.A (setFlight (.ref e) fr) Q E' s:=by
 let⟨⟨t,ge⟩,_,_⟩:=(show zAg X.prog X.w (upd H' e<|XF C dx e T) s.heap e (XF C dx e T) from I.hok e _ bz)
 let⟨E,r,i,h,D⟩:=tb.ent;have p:3<r.size:=(xB7.mp D).1;unfold setFlight;refine xAd<|xDa ge rfl (x:=.ref T) rfl ?_;rw[xCg<|show(Value.ref T != Value.none)=true by simp];erw[wpAny_setField i h p];have l:upd H' e (XF C dx e T) T=none:=by rw[bx Te];exact tb.un
 have n:(s.heap.update T (Obj.mapFields (·.setIfInBounds 3 (fr.elim Value.none λf=>rawInt f)))).get? T=some _:=xA7 _ i<|Obj.isFreed_of_fields<|Obj.data_mapFields h _;refine k _ (Inv.turned (t':=s.toks) (it:=T) I (λb o B q=>(xA6 _ _<|Ne.symm B).trans q) l ?_ (.inr tb.new) ?_ tb.pn) ⟨⟨_,_,n,Obj.data_mapFields h _,by simp[p]⟩,tb.new,tb.pn,tb.un⟩
 .intro z;let⟨m,⟨y,F,G,a,d,_⟩,_⟩:=I.loc;rw[<- z,i] at a;cases a;rw[h] at d;cases d
 .intro x c e z;let⟨v,y,a,d⟩:=I.cell x c e;rw[z,i] at a;cases a;rw[h] at d;cases d
end
structure Cat(X:Cx)(Ex:St->XK):Prop where
 hs:X.stack=X.env::X.outer
 hf:X.env.frame=some X.env.locals
 own:∀{Z:A0 (A7×Obj)}{O:St}{e C T:A7}{dx:A3 A7}{H':Hp}{s':A5},Inv X Z O (upd H' e (XF C dx e T)) s'->H' e=none->T≠e->TBf (rawInt X.env.locals) T X Z s'.heap H'->Ex O (.ref C) dx H'->X.xe (.ref e) s'
 rises:∀{Z:A0 (A7×Obj)}{O:St}{H:Hp}{s:A5}{e C:A7}{dx:A3 A7},Inv X Z O H s->H e=some (XO C dx e)->Ex O (.ref C) dx (del H e)->X.xe (.ref e) s
 pass:zA3 (CXo X.prog X.w) X Ex
def zAo.cat(c:zAo X Ex):Cat X Ex where
 hs:=c.hs
 hf:=c.hf
 own:=λ{Z O e C T dx H' k} I i Te tb q=>by
  let⟨Lk,b,h⟩:=c.ex;refine b _ _ λE'=>zCo I c.hf tb<|zDh I Te tb λd I2 a=>h Z O e C T dx H' d I2 i Te ⟨a.ent,Heap.get?_none_of_le a.new,a.un⟩ q
 rises:=λI j q=>c.rises I j q
 pass:=c.pass
noncomputable abbrev Cx.lp(X:Cx):Cx:=X.wish<|notedBy (model X.prog X.w) X.A X.env<|cameBackBy (model X.prog X.w) X.A X.env X.xe
def came(c:Cat X Ex){Z:A0<|A7×Obj}{O:St}{a:A5}(I:Inv X Z O (upd H' e<|XF C dx e T) a)(d:H' e=none)(Te:T≠e)(tb:TBf (rawInt X.env.locals) T X Z a.heap H')(q:Ex O (.ref C) dx H'):cameBackBy (model X.prog X.w) X.A X.env X.xe (.ref e) a:=by
 let⟨⟨t,ge⟩,_,_⟩:=(show zAg X.prog X.w (upd H' e<|XF C dx e T) a.heap e (XF C dx e T) from I.hok e _ bz)
 unfold cameBackBy;refine xAd<|xDa ge rfl (x:=.ref T) rfl ?_;rw[xCf<|show ¬ (Value.ref T==Value.none)=true by simp];rw[c.hf];exact zDh (fr:=some X.env.locals) I Te tb λh I2 b=>c.own I2 d Te b q
theorem Cat.lp{X:Cx}{Ex:St->XK}(c:Cat X Ex):Cat X.lp Ex where
 hs:=c.hs
 hf:=c.hf
 own:=λI a Te tb q=>zCo (X:=X) I.unwish c.hf ⟨tb.ent,tb.new,tb.pn,tb.un⟩<|came c I.unwish a Te ⟨tb.ent,tb.new,tb.pn,tb.un⟩ q
 rises:=λ{Z O H s e C dx} I d q=>zG0 (X:=X) I.unwish c.hs c.hf d λb T I2 Te tb=>came c (H':=del H e) (by rw[lr];exact I2) gL Te tb q
 pass:=λZ O H s j i I F=>zG9 (X:=X) I.unwish c.hs c.hf F λb e C T dx H' h a I2 Te tb q=>by subst h;exact came c I2 a Te tb q
section
variable{X:Cx}{pos:Pos}
def sS{B c:A6}{p:A0 Stmt}{wi:TI}{g:TG}{tb:TS}(M:X.calm=true)(hi:PI X B c wi)(hg:PG X.lp B g)(j:PSs X.lp p tb)(hs:∀x,foldedSetIterable c X.env x=pure x):PS X (.For B c p [] pos)<|zJi wi g tb:=by
 intro Z s O H D I h;refine wpAny_For (thn (hi Z s O H _ I h) λv s1 h1=>thn h1 λitv s2 h2=>?_) hs;let⟨it,y,tn,m0J,H2,e,I2,T,E,P,W,⟨m0,Y⟩,turn⟩:=h2;subst e;have a:∀{H':Hp},(∀b∈y,H' b=none)->∀b∈y,zCy X Z H' b:=λhn b j=>⟨hn b j,(P b j).2⟩
 refine codeAny_forLoop_any (λn L=>∃i O' H',Inv X Z O' H' L/\tn i L.heap/\(∀b∈y,H' b=none)/\W i n O' H') ?_ m0 ⟨0,O,H2,I2,E,λb j=>(P b j).1,Y⟩;rintro n s3 ⟨i,σ3,H3,I3,st3,fr3,w3⟩
 rcases turn i n σ3 H3 w3 with ⟨t,qn⟩|⟨go,N,hN,step⟩
 .refine thn (T.done X rfl rfl rfl M i Z s3 σ3 H3 _ I3 (a fr3) st3 t) λr s4 ⟨G,I4⟩=>?_;subst G;exact wpAny_execs_nil ⟨σ3,H3,I4,qn⟩
 .refine thn (T.item X rfl rfl rfl M i Z s3 σ3 H3 _ I3 (a fr3) st3 go) λr s4 ⟨u,G,h4⟩=>?_;subst G;refine thn h4 λ_ K A=>?_;let⟨x,H5,I5,r5,Q,q,J⟩:=A;have I5':=I5.pinned (a J)<|T.obj _ _ q;refine thn (hg _ K σ3 H5 x u _ (I5'.wish _) r5<|step x H5 Q) λ_ s6 A=>?_;let⟨σ6,H6,I6,q6⟩:=A;refine thn (j _ s6 σ6 H6 _ I6 q6) λf F l=>?_;have k:∀{σ7:St}{H7:Hp},Inv X (Z++zCa y K.heap) σ7 H7 F->N σ7 H7->∃m,m<n/\∃i O' H',Inv X Z O' H' F/\tn i F.heap/\(∀b∈y,H' b=none)/\W i m O' H':=λ{σ7 H7} I7 w=>by
   let⟨m',hm,S⟩:=hN σ7 H7 w;refine⟨m',hm,i+1,σ7,H7,I7.unpinned,T.keep _ _ _ q λb j o e=>(I7.pin (b,o)<|xBt _<|xBt _<|eD j e).1,λb j=>?_,S⟩;let⟨o,e,d⟩:=T.obj _ _ q b j;exact(I7.pin (b,o)<|xBt _<|xBt _<|eD j e).2.1
  cases f with
  |next=>let⟨σ7,H7,I7,w⟩:=l;exact k I7.unwish w
  |cont=>let⟨σ7,H7,I7,w⟩:=l;exact k I7.unwish w
  |brk=>let⟨σ7,H7,I7,l⟩:=l;exact⟨σ7,H7,I7.unwish.unpinned,l⟩
  |ret v=>let⟨R,σ7,H7,I7,r7,l⟩:=l;exact⟨R,σ7,H7,I7.unwish.unpinned,r7,l⟩
end
end L2
namespace Fx
open PySem PySem.Spec L2
open PyProof.Rows hiding St
variable{ys:A0 V}{xs:B0}{ts:A0 A6}{k:Nat}{is:B1}{S:So}{H:Hp}{O:Sg}{τ:St}{D:zDw}{o:A6}
structure Wku(B:Bs)(m0J:It)(W:Wd)(vs:B0):Prop where
 go:∀{i:Nat}{H:Hp}{W':Wd}{S:So},W.Lf W'->RS B W' S H->i<vs.length->m0J.go i H
 yld:∀{i:Nat}{H H':Hp}{x:V}{v:U}{W':Wd}{S:So},W.Lf W'->RS B W' S H->vs[i]?=some v->m0J.yld i H x H'->∃W2,W'.Le W2/\RS B W2 S H'/\Rv B W2 v x
 stop:∀{H:Hp}{W':Wd}{S:So},W.Lf W'->RS B W' S H->m0J.stop vs.length H
def IL(B:Bs)(W:Wd)(R:It->Hp->Prop):B7:=λv S=>∀W' a H b,W.Le W'->RS B W' S H->v=.tup b->Wku B a W' b->R a H
def LI(B:Bs)(G:B9)(Ex:St->XK)(c:B6):TI:=λτ H R=>∃W O S,RS B W S H/\Rg B W O τ/\c G O S (XL B W<|Ex τ) (IL B W R)
structure FI(X:Cx)(B:Bs)(G:B9)(Ex:St->XK)(tg it:A6)(c:B6):Prop where
 p:PI X tg it (LI B G Ex c)
 m:zAz G c
def wkI{X:Cx}{a e:A6}{t t':TI}(h:PI X a e t)(w:∀O H R,t' O H R->t O H R):PI X a e t':=λZ s O H R I q=>h Z s O H R I<|w _ _ _ q
section
variable{B:Bs}{W:Wd}{vs:B0}
def zGi{a:A7}(h:SqL B.K W.F a ys)(r:Rvs B W vs ys):Wku B (Itl B.K a) W vs where
 go:=λ{i H W' S} le b j=>⟨ys,ys[i]'(by rw[r.length];exact j),fb (λp o z=>b.fz p o<|le.f p o z) h,⋯⟩
 yld:=λ{i H H' x v W' S} le b d ⟨e,y⟩=>by
  subst e;let⟨u,l,c⟩:=r.get d;have:=y ys<|fb (λp o z=>b.fz p o<|le.f p o z) h;rw[l] at this;cases this;exact⟨W',.refl,b,c.lf le⟩
 stop:=λle b=>⟨ys,fb (λp o z=>b.fz p o<|le.f p o z) h,by rw[r.length];exact xAg _⟩
def zHu{a:A7}(h:∀H:Hp,(∀p o,W.F p=some o->H p=some o)->SqT B.K H a ys)(r:Rvs B W vs ys):Wku B (Itt B.K a) W vs where
 go:=λ{i H W' S} le b j=>⟨ys,ys[i]'(by rw[r.length];exact j),h _ λp o z=>b.fz p o<|le.f p o z,⋯⟩
 yld:=λ{i H H' x v W' S} le b d ⟨e,y⟩=>by
  subst e;let⟨u,l,c⟩:=r.get d;have:=y ys (h _ λp o z=>b.fz p o<|le.f p o z);rw[l] at this;cases this;exact⟨W',.refl,b,c.lf le⟩
 stop:=λle b=>⟨ys,h _ λp o z=>b.fz p o<|le.f p o z,by rw[r.length];exact xAg _⟩
theorem jN:∀{n:Nat}{lo:Int}{i:Nat},(zBi lo n)[i]?=if i<n then some (.int<|lo+i) else none
 |0,_,_=>by simp[zBi]
 |n+1,lo,0=>by simp[zBi]
 |n+1,lo,i+1=>by
  show(zBi (lo+1) n)[i]?=_;rw[jN];by_cases h:i<n
  .rw[xCg h,xCg ()];congr 2;lia
  .rw[xCf h,xCf ()]
theorem zAw:∀{n:Nat}{lo:Int},(zBi lo n).length=n
 |0,_=>rfl
 |n+1,lo=>by show(zBi (lo+1) n).length+1=_;rw[zAw]
def zHv{lo:Int}{n:Nat}:Wku B (Itr lo n) W (zBi lo n) where
 go:=λle b c=>by rw[zAw] at c;exact c
 yld:=λ{i H H' x v W' S} le b a ⟨e,y⟩=>by
  subst e y;rw[jN] at a;split at a
  .cases a;exact⟨W',.refl,b,rfl⟩
  .cases a
 stop:=λle b=>by rw[zAw];exact xAg _
def zI6{z:Str}:Wku B (Its z) W (z.cps.toList.map λc=>.str ⟨#[c]⟩) where
 go:=λle a d=>by show _<z.cps.size;simpa using d
 yld:=λ{i H H' x v W' S} le a b y=>by
  let⟨e,c,h,j⟩:=y;subst e j;rw[xAw] at b;have:z.cps.toList[i]?=some c:=by simpa using h
  rw[this] at b;cases b;exact⟨W',.refl,a,rfl⟩
 stop:=λle a=>by show _=z.cps.size;simp
theorem ji:∀{xs ys:B0}{i:Nat}{v:U},(zCz xs ys)[i]?=some v->∃x y,xs[i]?=some x/\ys[i]?=some y/\v=.tup [x,y]
 |[],_,_,_,h=>by simp[zCz] at h
 |_::_,[],_,_,h=>by simp[zCz] at h
 |x::xs,y::ys,0,_,h=>by simp[zCz] at h;exact⟨x,y,rfl,rfl,h.symm⟩
 |x::xs,y::ys,i+1,_,h=>by simpa using ji (xs:=xs) (ys:=ys) (i:=i) (by simpa [zCz] using h)
theorem gn:∀{xs ys:B0},xs.length=ys.length->(zCz xs ys).length=xs.length
 |[],_,_=>rfl
 |x::xs,[],h=>by cases h
 |x::xs,y::ys,h=>by simp[zCz,gn (xs:=xs) (ys:=ys)<|by simpa using h]
def zI5{r n:A8}{x y:V}{as bs:A0 V}{ys:B0}(m:∀H:Hp,(∀p o,W.F p=some o->H p=some o)->sqK r B.K H x as)(t:∀H:Hp,(∀p o,W.F p=some o->H p=some o)->sqK n B.K H y bs)(r1:Rvs B W xs as)(r2:Rvs B W ys bs)(j:xs.length=ys.length):Wku B (zHr r n B.K x y) W (zCz xs ys) where
 go:=λ{i H W' S} le c l=>by
  rw[gn j] at l;exact⟨as,bs,as[i]'(by rw[r1.length];exact l),bs[i]'(by rw[r2.length,<- j];exact l),m _ λp o z=>c.fz p o<|le.f p o z,t _ λp o z=>c.fz p o<|le.f p o z,⋯,⋯⟩
 yld:=λ{i H H' T v W' S} le c E ⟨q,u,w,R,Q,P,N,M⟩=>by
  subst R P;let⟨a,b,I,G,rfl⟩:=ji E;let⟨A,L,C⟩:=r1.get I;have:=N as (m _ λp o z=>c.fz p o<|le.f p o z);rw[L] at this;cases this;let⟨A,J,e⟩:=r2.get G;have:=M bs (t _ λp o z=>c.fz p o<|le.f p o z);rw[J] at this;cases this;let⟨d,h⟩:=c.fresh (o:=.tup [u,w]) Q;exact⟨_,d,h,q,_,rfl,bz,⟨_,_,rfl,(C.lf le).mono d,⟨_,_,rfl,(e.lf le).mono d,rfl⟩⟩⟩
 stop:=λle c=>⟨as,m _ λp o z=>c.fz p o<|le.f p o z,by rw[gn j];exact r1.length⟩
end
section
variable{B:Bs}{W:Wd}{vs:B0}
theorem gI:∀{xs:B0}{lo:Int},(zDu lo xs).length=xs.length
 |[],_=>rfl
 |_::xs,lo=>by show(zDu (lo+1) xs).length+1=_;rw[gI];rfl
theorem jU:∀{xs:B0}{lo:Int}{i:Nat}{v:U},(zDu lo xs)[i]?=some v->∃x,xs[i]?=some x/\v=.tup [.int<|lo+i,x]
 |[],_,_,_,h=>by cases h
 |x::xs,lo,0,v,h=>by cases h;exact⟨x,rfl,by congr 3;lia⟩
 |x::xs,lo,i+1,v,h=>by
  let⟨y,a,rfl⟩:=jU (xs:=xs) (lo:=lo+1) (i:=i) h;exact⟨y,a,by congr 3;lia⟩
def zGj{z:Str}:Wku B (zHs z) W (zDu 0<|z.cps.toList.map λc=>.str ⟨#[c]⟩) where
 go:=λle d h=>by rw[gI] at h;show _<z.cps.size;simpa using h
 yld:=λ{i H H' x v W' S} le d j ⟨q,c,p,n,m,l⟩=>by
  subst p m;let⟨r,a,rfl⟩:=jU j;rw[xAw] at a;have:z.cps.toList[i]?=some c:=by simpa using l
  rw[this] at a;cases a;let⟨e,b⟩:=d.fresh (o:=.tup [.int (i:Int),.str ⟨#[c]⟩]) n;exact⟨_,e,b,q,_,rfl,bz,⟨_,_,rfl,(by show V.int _=V.int _;congr 1;lia),⟨_,_,rfl,rfl,rfl⟩⟩⟩
 stop:=λle d=>by show _=z.cps.size;rw[gI];simp
end
def zFk(K:xFr)(x:V)(H:Hp)(R:It->Hp->Prop):Prop:=zFj K x H R\/zFi K x H R\/zDp x H R
def iA(K:xFr)(te:TE):TI:=λO H R=>te O H λx H1=>zFk K x H1 R
section
variable{X:Cx}{e tg:A6}{te:TE}
def Ar(A:PE X e te):PI X tg e<|iA X.K te:=by
 intro Z s O H R I h;refine thn (A Z s O H _ I h) λv c n=>?_;let⟨x,H1,I1,r1,w⟩:=n;rcases w with ⟨a,e,⟨xs,l⟩,q⟩|⟨a,e,⟨xs,l⟩,q⟩|q
 .subst e;cases r1;let⟨i,r,p,y⟩:=I1.list l;erw[wpAny_pyIter_list p.isList,<-⟨c.heap.objs.size,[c.heap.objs.size],_,_,H1,rfl,I1.kept (t':=c.toks) λb o e=>xAf _ e,nF a _,⟨_,xAl _ rfl,rfl,rfl⟩,λb d=>?_,q⟩];have e:b=c.heap.objs.size:=by simpa using d
  subst e;exact I1.fpOk (xAg _)<|I1.hok.fresh<|xAg _
 .subst e;cases r1;let⟨i,r,p,y⟩:=I1.tuple l;erw[wpAny_pyIter_tuple (show c.heap.IsTuple a i.toArray from p),<-⟨c.heap.objs.size,[c.heap.objs.size],_,_,H1,rfl,I1.kept (t':=c.toks) λb o e=>xAf _ e,kh a _,⟨_,xAl _ rfl,rfl,rfl⟩,λb d=>?_,q⟩];have e:b=c.heap.objs.size:=by simpa using d
  subst e;exact I1.fpOk (xAg _)<|I1.hok.fresh<|xAg _
 .let⟨z,rfl,q⟩:=q;let⟨t,rfl⟩:=r1;cases ha:z.cps.all (·<128)
  .refine wpAny_pyIter_wide ha ⟨c.heap.objs.size,[c.heap.objs.size],_,_,H1,rfl,I1.kept (t':=c.toks) λb o e=>xAf _ e,jk _ z t "str_iterator" ∅ (λA' m=>Walks.strWide m _ z t) λ_ _ _ _ _ j h=>wpAny_pyIter_striter_wide j h,⟨_,xAl _ rfl,rfl,rfl⟩,λb d=>?_,q⟩;have e:b=c.heap.objs.size:=by simpa using d
   subst e;exact I1.fpOk (xAg _)<|I1.hok.fresh<|xAg _
  .refine wpAny_pyIter_ascii ha ⟨c.heap.objs.size,[c.heap.objs.size],_,_,H1,rfl,I1.kept (t':=c.toks) λb o e=>xAf _ e,jk _ z t "str_ascii_iterator" ∅ (λA' m=>Walks.strAscii m _ z t) λ_ _ _ _ _ j h=>wpAny_pyIter_striter_ascii j h,⟨_,xAl _ rfl,rfl,rfl⟩,λb d=>?_,q⟩;have e:b=c.heap.objs.size:=by simpa using d
   subst e;exact I1.fpOk (xAg _)<|I1.hok.fresh<|xAg _
end
section
variable{B:Bs}{up:A0<|Str×Str}{G:B9}{Ex:St->XK}{c a b d:B6}{as:B'}
variable{X:Cx}{e ea eb tg:A6}{es:A0 A6}{pos p1 p2:Pos}{x:Str}(g:zBw up G)
include g
set_option tactic.hygienic true
theorem vy(L:X.K=B.K)(h:FE X B G Ex e a):FI X B G Ex tg e<|cP .seq<|aC a aN:=
 ⟨wkI (Ar h.p) λτ H R ⟨W,O,S,A,E,J⟩=>LE.go h.m A E J λv S1 W1 Q H1 j rs1 i C M=>by
  let⟨z,S2,l,q⟩:=g.pok M;change zGv .tup v S1=_ at l;unfold zGv at l;rw[L];split at l
  .next y=>
   cases l;exact .inr (.inr ⟨y,i,q W1 _ H1 _ j rs1 rfl zI6⟩)
  .next p=>
   split at l
   .next xs n=>
    cases l;let⟨P,rfl,I⟩:=i;let⟨W2,t,rs2,T,ys,N,w,r3⟩:=rs1.freeze n I;cases N;exact .inl ⟨P,rfl,⟨ys,.of<|rs2.fz _ _ w⟩,q W2 _ H1 xs (j.trans t) rs2 rfl<|zGi (.of w) r3⟩
   .cases l
  .next Y F=>
   split at l
   .next xs n=>
    cases l;cases v with
    |tup _=>cases n;let⟨p,ys,rfl,f,r⟩:=i;exact .inr (.inl ⟨p,rfl,⟨ys,.of<|rs1.fz _ _ f⟩,q W1 _ H1 xs j rs1 rfl<|zHu (λH hF=>.of<|hF _ _ f) r⟩)
    |kt _=>cases n;let⟨p,ys,rfl,f,r⟩:=i;exact .inr (.inl ⟨p,rfl,⟨ys,f H1⟩,q W1 _ H1 xs j rs1 rfl<|zHu (λH _=>f H) r⟩)
    |lst _=>cases n;let⟨p,ys,rfl,f,r⟩:=i;exact .inl ⟨p,rfl,⟨ys,.of<|rs1.fz _ _ f⟩,q W1 _ H1 xs j rs1 rfl<|zGi (.of f) r⟩
    |kl _=>cases n;let⟨p,ys,rfl,f,r⟩:=i;exact .inl ⟨p,rfl,⟨ys,fb rs1.fz f⟩,q W1 _ H1 xs j rs1 rfl<|zGi f r⟩
    |ref p=>exact(F p rfl).elim
    |_=>cases n
   ·(cases l),mP g<|mAC g h.m<|mAN g⟩
set_option tactic.hygienic false
theorem xR(J:Gl X "range")(F:X.mg "range"=none)(h:FE X B G Ex e a)(l:zAb e=true):FI X B G Ex tg (.Call (.Name "range" p1) [e] [] pos)<|cP .rng1<|aC a aN:=
 ⟨wkI (yL J F (eY g h (gG g) l).p l) λτ H R ⟨W,O,S,A,E,I⟩=>LA.go (mAC g h.m<|mAN g) A E I λL S1 W1 us H1 M w t n C y=>by
  let⟨z,S2,i,q⟩:=g.pok y;let⟨v,rfl⟩:=vs1 i rfl λa b r=>by cases a <;> rfl
  let⟨u,rfl,r1⟩:=n.inv1;cases v <;> try (cases i;done)
  delta pr at i;dsimp only at i;split at i
  .next j hd=>
   cases i;let⟨y,K⟩:=xBe hd;exact⟨_,by rw[show u=_ from r1],y,K,q W1 _ H1 _ w t rfl zHv⟩
  ·(cases i),mP g<|mAC g h.m<|mAN g⟩
theorem xQ(L:Gl X "range")(I:X.mg "range"=none)(h:FE X B G Ex ea a)(M:FE X B G Ex eb b)(l:zAb ea=true)(i:zAb eb=true):FI X B G Ex tg (.Call (.Name "range" p1) [ea,eb] [] pos)<|cP .rng2<|zAv a b:=by
 have fa:FA X B G Ex [ea,eb]<|zAv a b:=eY g h (eY g M (gG g) i) l;refine⟨wkI (nO L I fa.p (by rw[b9 l,b9 i];rfl)<|by rw[b9 i];rfl) λτ H R ⟨W,O,S,C,F,K⟩=>LA.go fa.m C F K λy S1 W1 us H1 J t r n E N=>?_,mP g fa.m⟩;let⟨z,S2,j,q⟩:=g.pok N;match y,J with
 |[v,w],_=>
  let⟨u,A,rfl,r1,r2⟩:=n.inv2;cases v <;> try (cases j;done)
  cases w <;> try (cases j;done)
  delta pr at j;dsimp only at j;split at j
  .next hd=>
   cases j;exact⟨_,_,by rw[show u=_ from r1,show A=_ from r2],xBe hd,q W1 _ H1 _ t r rfl zHv⟩
  .cases j
theorem zM{pt:Pos}(F:Gl X "enumerate")(C:X.mg "enumerate"=none)(h:FE X B G Ex e a)(i:zAb e=true):FI X B G Ex (.Tuple ts k pt) (.Call (.Name "enumerate" p1) [e] [] pos)<|cP .enm<|aC a aN:=
 ⟨wkI (nQ F C (eY g h (gG g) i).p<|by rw[b9 i];rfl) λτ H R ⟨W,O,S,w,A,E⟩=>LA.go (mAC g h.m<|mAN g) w A E λJ S1 W1 us H1 K n l j y I=>by
  let⟨z,S2,t,q⟩:=g.pok I;let⟨v,rfl⟩:=vs1 t rfl λa b r=>by cases a <;> rfl
  let⟨u,rfl,r1⟩:=j.inv1;cases v <;> try (cases t;done)
  cases t;exact⟨_,by rw[show u=_ from r1],q W1 _ H1 _ n l rfl zGj⟩,mP g<|mAC g h.m<|mAN g⟩
omit g in
theorem pb{W:Wd}{v:U}{u:V}(r:Rv B W v u)(h:sqF v=some xs):∃k ys,(∀H:Hp,(∀p o,W.F p=some o->H p=some o)->sqK k B.K H u ys)/\Rvs B W xs ys:=by
 cases v with
 |tup _=>cases h;let⟨p,ys,rfl,f,r⟩:=r;exact⟨true,ys,λH hF=>⟨p,rfl,.of<|hF _ _ f⟩,r⟩
 |kt _=>cases h;let⟨p,ys,rfl,f,r⟩:=r;exact⟨true,ys,λH _=>⟨p,rfl,f H⟩,r⟩
 |lst _=>cases h;let⟨p,ys,rfl,f,r⟩:=r;exact⟨false,ys,λH hF=>⟨p,rfl,.of<|hF _ _ f⟩,r⟩
 |kl _=>cases h;let⟨p,ys,rfl,f,r⟩:=r;exact⟨false,ys,λH hF=>⟨p,rfl,fb hF f⟩,r⟩
 |_=>cases h
theorem zB(hK:X.K=B.K)(hg:Gl X "zip")(T:X.mg "zip"=none)(h:FE X B G Ex ea a)(h2:FE X B G Ex eb b)(n:zAb ea=true)(i:zAb eb=true):FI X B G Ex (.Tuple ts k p2) (.Call (.Name "zip" p1) [ea,eb] [] pos)<|cP .zip<|zAv a b:=by
 have fa:FA X B G Ex [ea,eb]<|zAv a b:=eY g h (eY g h2 (gG g) i) n;refine⟨wkI (tq hg T fa.p (b9 n)<|by rw[b9 i];rfl) λτ H R ⟨W,O,S,J,M,Z⟩=>LA.go fa.m J M Z λF S1 W1 us H1 Y A j r L h1=>?_,mP g fa.m⟩;let⟨z,S2,l,q⟩:=g.pok h1;match F,Y with
 |[v,w],_=>
  let⟨u,I,rfl,r1,r2⟩:=r.inv2;delta pr at l;dsimp only at l;split at l
  .next xs ys ex ey=>
   split at l
   .next Q=>
    cases l;let⟨P,as,E,y⟩:=pb r1 ex;let⟨N,bs,C,t⟩:=pb r2 ey;rw[hK];exact⟨u,I,P,N,rfl,⟨as,E _ j.fz⟩,⟨bs,C _ j.fz⟩,q W1 _ H1 _ A j rfl<|zI5 E C y t<|Nat.eq_of_beq_eq_true Q⟩
   .cases l
  .cases l
end
def zFt:B1->TGs
 |[]=>zIs
 |i::is=>zFu (zDg i)<|zFt is
def zIr(K:xFr)(is:B1)(one:A8):TG:=match one with
 |true=>zDg<|is.headD 0
 |false=>zHd K is.length<|zFt is
structure FG(X:Cx)(B:Bs)(G:B9)(tg:A6)(is:B1)(one:A8):Prop where
 p:PG X tg (zIr B.K is one)
section
variable{B:Bs}{up:A0<|Str×Str}{G:B9}{Ex:St->XK}{c a b d:B6}{as:B'}{t:TTx Prop}{u v:B5}
variable{X:Cx}{e ea eb tg iter:A6}{es:A0 A6}{st:Stmt}{sts body orelse:A0 Stmt}{pos p1 p2:Pos}{x y:Str}{i:Nat}(g:zBw up G)
def AO(l:X.N.Nodup)(hi:X.N[i]?=some x)(h:Loc X.env.scope x)(j:X.fn x=true\/X.env.scope.names.lookup x=some .local):FG X B G (.Name x pos) [i] true:=⟨l9 l hi h j⟩
theorem gE(m:X.N.Nodup):∀{es:A0 A6}{is:B1},(∀(j:Nat)(e:A6),es[j]?=some e->∃x p i,e=.Name x p/\is[j]?=some i/\X.N[i]?=some x/\Loc X.env.scope x/\(X.fn x=true\/X.env.scope.names.lookup x=some .local))->es.length=is.length->PGs X es (zFt is)/\es.all zAb=true
 |[],[],_,_=>⟨tw,rfl⟩
 |e::es,[],_,l=>by cases l
 |[],i::is,_,l=>by cases l
 |e::es,i::is,h,l=>by
  let⟨x,p,F,rfl,w,E,C,A⟩:=h 0 e rfl;cases w;let⟨q,n⟩:=gE m (es:=es) (is:=is) (λj e r=>h (j+1) e r) (by simpa using l);exact⟨qd (l9 m E C A) q rfl,by rw[xCj,n];rfl⟩
theorem qV:∀{is:B1}{W:Wd}{S:So}{H:Hp}{O:Sg}{τ:St}{vs:B0}{us:A0 V}{QS:St->Hp->Prop},RS B W S H->Rg B W O τ->Rvs B W vs us->vs.length=is.length->(∀τ',Rg B W (puts O is vs) τ'->(∀j,j∉is->τ'[j]?=τ[j]?)->QS τ' H)->zFt is us τ H QS
 |[],W,S,H,O,τ,vs,us,QS,p,n,l,h,q=>by
  match vs,h with
  |[],_=>rw[show us=[] from l];exact⟨rfl,q τ n λ_ _=>rfl⟩
 |i::is,W,S,H,O,τ,vs,us,QS,p,n,l,h,q=>by
  match vs,h with
  |v::vs,h=>
   let⟨u,us,rfl,r1,r2⟩:=l;exact⟨u,us,rfl,qV p (n.put r1) r2 (by simpa using h) λτ' m w=>q τ' m λj r=>by
    rw[w j λz=>r<|xAs _ z,List.getElem?_set_ne λz=>r<|by simp[z]]⟩
theorem ju:∀{is:B1}{O:Sg}{vs:B0},(puts O is vs).length=O.length
 |[],_,_=>by cases ‹B0› <;> rfl
 |i::is,O,[]=>rfl
 |i::is,O,v::vs=>by show(puts (put O i v) is vs).length=_;rw[ju,gf]
include g
theorem vq{one:A8}{W:Wd}{v:U}{x:V}{k:Sg->Prop}{QS:St->Hp->Prop}(C:one=true->is.length=1)(rs:RS B W S H)(A:Rg B W O τ)(w:Rv B W v x)(h:tgt is one G v O k)(q:∀O' τ',k O'->Rg B W O' τ'->O'.length=O.length->(∀j,j∉is->τ'[j]?=τ[j]?)->QS τ' H):zIr B.K is one x τ H QS:=by
 cases one with
 |true=>
  match is,C rfl with
  |[i],_=>exact q (put O i v) _ h (A.put w) gf λj n=>by rw[List.getElem?_set_ne λz=>n<|by rw[<- z];simp]
 |false=>
  unfold tgt at h;dsimp only at h;cases v <;> try (exact(g.no h).elim)
  dsimp only at h;split at h
  .next l=>
   have l:=Nat.eq_of_beq_eq_true l;let⟨p,ys,rfl,f,r⟩:=w;exact⟨p,ys,rfl,.of<|rs.fz _ _ f,by rw[r.length,l],qV rs A r l λτ' m n=>q _ τ' h m ju n⟩
  .exact(g.no h).elim
omit g in
theorem AN(w:X.K=B.K)(q:X.calm=true)(r:X.N.Nodup)(h:∀(j:Nat)(e:A6),es[j]?=some e->∃x p i,e=.Name x p/\is[j]?=some i/\X.N[i]?=some x/\Loc X.env.scope x/\(X.fn x=true\/X.env.scope.names.lookup x=some .local))(m:es.length=is.length):FG X B G (.Tuple es k pos) is false:=by
 let⟨n,l⟩:=gE r h m;refine⟨?_⟩;show PG X _<|zHd B.K is.length<|zFt is;rw[<- w];exact qe q n ((eO l).1.trans m) (eO l).2
theorem vW:FS X B G Ex (.Pass pos) sN:=⟨wkS sO λD τ H ⟨W,O,S,j,l,h⟩=>h W τ H .refl j l,mN g⟩
theorem yA:FSs X B G Ex [] sN:=⟨zHw sM λD τ H ⟨W,O,S,j,l,h⟩=>h W τ H .refl j l,mN g⟩
theorem vY(r:FS X B G Ex st u)(q:FSs X B G Ex sts v):FSs X B G Ex (st::sts)<|sQ u v:=
 ⟨zHw (pN r.p q.p) λD τ H ⟨W,O,S,w,A,h⟩=>⟨W,O,S,w,A,r.m.m (E:=sqE (LEe B Ex W D) λσ1 S1=>v G σ1 S1<|LEe B Ex W D) (E':=LEe B Ex W {D with nx:=LS B G Ex v D}) ⟨λσ1 S1 C W1 τ1 H1 n j l=>⟨W1,σ1,S1,j,l,q.m.m (LEe.inc n) C⟩,λ_ _ z=>z,λ_ _ z=>z,λ_ _ z=>z,λ_ _ _ z=>z⟩ h⟩,mQ g r.m q.m⟩
omit g in
theorem xle{W:Wd}(rg:Rg B W O τ):∀x S,(LEe B Ex W D).x x O S->XL B W (Ex τ) x S:=λx S h W' C l H le j=>h W' τ C l H le j<|rg.mono le
omit g in
theorem LE.stm{W:Wd}{Q:VK}{k:B7}(m:zAz G c)(l:RS B W S H)(j:Rg B W O τ)(h:c G O S (λx S1=>(LEe B Ex W D).x x O S1) k)(n:∀v S' W' u H',W.Le W'->RS B W' S' H'->Rv B W' v u->Rg B W' O τ->k v S'->Q u H'):LE B G Ex c τ H Q:=
 LE.go m l j (m.m (λx S=>xle j x S) (λ_ _ h=>h) h) n
theorem uV(n:FE X B G Ex e c)(E:X.N.Nodup)(hi:X.N[i]?=some x)(A:Loc X.env.scope x)(l:swapsWith e (some<|.Name x p1) pos.line X.env=pure false)(C:X.fn x=true\/X.env.scope.names.lookup x=some .local):FS X B G Ex (.Assign [.Name x p1] e pos)<|sA i c:=
 ⟨wkS (wj E hi A n.p l C) λD τ H ⟨W,O,S,r,w,h⟩=>LE.stm n.m r w h λv S' W' u H' le j q rg' F=>F W' _ H' le j<|rg'.put q,mA g n.m⟩
theorem Ao(n:FE X B G Ex e c)(w:zA0 e=true):FS X B G Ex (.Expr e pos)<|sE c:=
 ⟨wkS (yI n.p w) λD τ H ⟨W,O,S,q,r,h⟩=>LE.stm n.m q r h λv S' W' u H' le j C l A=>A W' τ H' le j l,mSE g n.m⟩
theorem pC(l:FE X B G Ex e c):FS X B G Ex (.Return (some e) pos)<|sR c:=
 ⟨wkS (wm l.p) λD τ H ⟨W,O,S,q,w,h⟩=>LE.stm l.m q w h λv S' W' u H' le j n r A=>A W' u H' le j n,mR g l.m⟩
theorem An(n:FT X B G Ex e t)(w:FSs X B G Ex body u)(r:FSs X B G Ex orelse v):FS X B G Ex (.If e body orelse pos)<|sI t u v:=
 ⟨wkS (yH n.p w.p r.p) λD τ H ⟨W,O,S,C,A,h⟩=>LT.go n.m C A (n.m.m (λx S=>xle A x S) (λ_ _ h=>h) h) λc S' W' H' le j l q=>by
  have q:=g.bk q;cases c with
  |true=>exact⟨W',O,S',j,l,w.m.m (LEe.inc le) q⟩
  |false=>exact⟨W',O,S',j,l,r.m.m (LEe.inc le) q⟩,mI g n.m w.m r.m⟩
omit g in
theorem PG.or'{t1 t2:TG}(h:PG X tg t1)(h2:PG X tg t2):PG X tg λv O H Q=>t1 v O H Q\/t2 v O H Q:=λZ s O H v u Q I r q=>q.elim (h Z s O H v u Q I r)<|h2 Z s O H v u Q I r
theorem yz{pt:Pos}(hK:X.K=B.K)(M:X.calm=true)(Z:X.N.Nodup)(J:FE X B G Ex e c)(h:∀(j:Nat)(e:A6),es[j]?=some e->∃x p i,e=.Name x p/\is[j]?=some i/\X.N[i]?=some x/\Loc X.env.scope x/\(X.fn x=true\/X.env.scope.names.lookup x=some .local))(I:es.length=is.length)(Y:swapsWithSole [.Tuple es k pt] e pos.line X.env=pure false)(T:swappedStores [.Tuple es k pt] e X.env=pure none):FS X B G Ex (.Assign [.Tuple es k pt] e pos)<|sU is c:=by
 let⟨L,A⟩:=gE Z h I;refine⟨wkS (pO J.p (PG.or' (qe (k:=k) (pos:=pt) M L (eO A).1 (eO A).2)<|wD (k:=k) (pos:=pt) M L (eO A).1 (eO A).2) Y T) λD τ H ⟨W,O,S,Q,R,h⟩=>LE.stm J.m Q R h λv S' W' u H' le l P F h'=>?_,mU g J.m⟩;let⟨z,S2,n,q⟩:=g.pok h';delta pr at n;dsimp only at n;split at n
 .next xs ex=>
  split at n
  .next r=>
   cases n;have r:=Nat.eq_of_beq_eq_true r;let⟨p,ys,rfl,sq,C⟩:=gp l P ex;have w:=qV l F C r λτ' E _=>q W' τ' H' le l E;rw[hK];rcases sq with sq|sq
   .exact .inr ⟨p,ys,rfl,sq,by rw[C.length,r,I],w⟩
   .exact .inl ⟨p,ys,rfl,sq,by rw[C.length,r,I],w⟩
  .cases n
 .cases n
theorem yC{fl:A9}{f:Str}(Z:X.K=B.K)(F:ClF B fl)(hf:f∈fl)(E:FE X B G Ex o a)(P:FE X B G Ex e c)(hc:zA0 e=true):FS X B G Ex (.Assign [.Attribute o f p1] e pos)<|sP (.setf f) c<|aC a aN:=
 ⟨wkS (wp E.p P.p<|fG hc) λD τ H ⟨W,O,S,rs,T,h⟩=>LE.stm P.m rs T h λv S1 W1 u1 H1 A L J N h1=>by
  refine LE.go E.m L N (E.m.m (λx S z=>XL.up A<|xle T x S z) (λ_ _ z=>z) h1) λw S2 W2 u2 H2 r l I M h2=>?_;let⟨z,S3,e3,q⟩:=g.pok h2;cases w <;> try (cases e3;done)
  let⟨C,fs,aa,cc,dx,vs,e4,Q,e6,hm,j,hh,R⟩:=iW l I<|show zC6 _ _ _=_ from e3;split at Q
  .next Y=>
   cases Q;have Y:=xCo Y;exact⟨aa,cc,dx,vs,e6,hh,by rw[Z];exact F.c j,by rw[Z];exact F.n j hf,by rw[R.length];lia,q W2 τ _ (A.trans r) (l.mut hm e4 (by nofun) ⟨cc,dx,_,j,rfl,lO (J.mono r) R⟩) M⟩
  ·(cases Q),mSP g P.m<|mAC g E.m<|mAN g⟩
omit g in
def zG1:zGh:=λo i v H Q=>zFa o i v H Q\/∃a H4,o=.ref a/\zI3 H a i v H4/\Q H4
omit g in
theorem yw(r:X.A.units+1<cLine):zHn X zG1:=by
 intro Z s O H o i v n p u Q I l m j h;rcases h with h|⟨a,H4,rfl,d,q⟩
 .exact pB Z s O H o i v n p u Q I l m j h
 .obtain rfl:n=Value.ref a:=l;exact oA r I d m j λw I4=>⟨H4,I4,q⟩
set_option tactic.hygienic true
theorem vX{I:A6}(hu:X.A.units+1<cLine)(P:FE X B G Ex o a)(hi:FE X B G Ex I b)(he:FE X B G Ex e c)(hs:zB1 I=true)(hc:zA0 e=true):FS X B G Ex (.Assign [.Subscript o I p1] e pos)<|sP .seti c<|zAv a b:=by
 erw[<-⟨wkS (pO he.p (wB P.p hi.p (yw hu)<|by intro _;cases I <;> first|rfl|cases hs) (by rw[show swapsWithSole [Expr.Subscript o I p1] e pos.line X.env=swapsWith e (some<|.Subscript o I p1) pos.line X.env from rfl];exact fG hc) rfl rfl) λD τ H ⟨W,O,S,rs,rg,h⟩=>LE.stm he.m rs rg h λv S1 W1 u1 H1 F R r Z h1=>?_,mSP g he.m<|mAC g P.m<|mAC g hi.m<|mAN g⟩,<-LE.go P.m R Z (P.m.m (λx S z=>XL.up F<|xle rg x S z) (λ_ _ z=>z) h1) λw S2 W2 u2 H2 le2 Q n Y h2=>?_,<-LE.go hi.m Q Y (hi.m.m (λx S z=>XL.up (F.trans le2)<|xle rg x S z) (λ_ _ z=>z) h2) λw3 S3 W3 u3 H3 E C J K h3=>?_];let⟨z,S4,j,q⟩:=g.pok h3;have n:=n.mono E;have r:=(r.mono le2).mono E;have L:=F.trans<|le2.trans E;cases w <;> try (cases j;done)
 change zCi _ w3 v S3=_ at j;unfold zCi at j;split at j
 .next kvs N=>
  split at j
  .next kk ekk=>
   let⟨hl,e5⟩:=zAu j;cases e5;let⟨aa,hh,M,hH,T,_⟩:=C.here N;let⟨aa',e6,l⟩:=n;rw[M] at l;cases l;let⟨ks,rfl,rn⟩:=T;exact .inr ⟨aa,_,e6,.inl ⟨ks,kk,hH,gh ekk J,by rw[rn.length];lia,rfl⟩,q W3 τ _ L (C.mut M N (by nofun) ⟨_,rfl,sG r rn⟩) K⟩
  .cases j
 .next xs N=>
  split at j
  .next ii=>
   split at j
   .next hd=>
    cases j;let⟨h0,h1⟩:=xBe hd;let⟨aa,hh,M,hH,T,_⟩:=C.here N;let⟨aa',e6,l⟩:=n;rw[M] at l;cases l;let⟨ys,rfl,rr⟩:=T;refine .inl ⟨aa,ys,ii,ii.toNat,e6,J,hH,?_,q W3 τ _ L (C.mut M N (by nofun) ⟨_,rfl,rr.set r _⟩) K⟩;unfold ixN;rw[xCg h0,xCg<|by rw[rr.length];exact h1]
   .cases j
  .cases j
 .cases j
set_option tactic.hygienic false
theorem yB{one:A8}(Y:one=true->is.length=1)(hc:X.calm=true)(hi:FI X B G Ex tg iter c)(Z:FG X.lp B G tg is one)(L:FSs X.lp B G Ex body u)(T:∀x,foldedSetIterable iter X.env x=pure x):FS X B G Ex (.For tg iter body [] pos)<|sF c is one u:=by
 erw[<-⟨wkS (sS hc hi.p Z.p L.p T) λD τ H ⟨W,O,S,P,K,h⟩=>?_,mSF g hi.m L.m⟩,<-⟨W,O,S,P,K,hi.m.m (λx S z=>xle K x S z) (λv S1 N W1 Q H1 j A I ev E=>?_) h⟩];subst ev;dsimp only at N;refine⟨λi m τ' H'=>i<=j.length/\m=j.length-i/\∃W' O' S',W1.Le W'/\RS B W' S' H'/\Rg B W' O' τ'/\zB3 (j.drop i) (λw σ1 S2 nx=>tgt is one G w σ1 λσ2=>u G σ2 S2<|lpE (LEe B Ex W D) nx) O' S' (LEe B Ex W D).nx,⟨j.length,xBn _,rfl,W1,O,S1,.refl,I,K.mono A,N⟩,?_⟩;rintro i m τ' H' ⟨hi',rfl,W',O',S',le',rs',rg',hh⟩
 by_cases hlt:i<j.length
 .refine .inr ⟨E.go le'.lf rs' hlt,λτ2 H2=>∃W2 σ2 S2,W1.Le W2/\RS B W2 S2 H2/\Rg B W2 σ2 τ2/\zB3 (j.drop<|i+1) (λw σ1 S2 nx=>tgt is one G w σ1 λσ2=>u G σ2 S2<|lpE (LEe B Ex W D) nx) σ2 S2 (LEe B Ex W D).nx,λτ2 H2 ⟨W2,σ2,S2,R,r2,g2,f2⟩=>⟨j.length-(i+1),(),hlt,rfl,W2,σ2,S2,R,r2,g2,f2⟩,λx H2 y=>?_⟩;rw[xB2 hlt] at hh;let⟨W2,le2,C,F⟩:=E.yld le'.lf rs' (xAk hlt) y;refine vq g Y (k:=λσ2=>u G σ2 S'<|lpE (LEe B Ex W D) λσ1 S1=>zB3 (j.drop<|i+1) (λw σ1 S2 nx=>tgt is one G w σ1 λσ2=>u G σ2 S2<|lpE (LEe B Ex W D) nx) σ1 S1 (LEe B Ex W D).nx) C (rg'.mono le2) F hh λσ3 τ3 h3 J _ _=>⟨W2,σ3,S',C,J,L.m.m ?_ h3⟩
  have q:W.Le W2:=A.trans<|le'.trans le2;exact⟨λσ4 S4 M W4 τ4 H4 r l n=>⟨W4,σ4,S4,le'.trans<|le2.trans r,l,n,M⟩,λ_ _=>VL.inc q,λ_ _=>NL.inc q,λσ4 S4 M W4 τ4 H4 r l n=>⟨W4,σ4,S4,le'.trans<|le2.trans r,l,n,M⟩,(LEe.inc q).x⟩
 .have e:i=j.length:=by lia
  subst e;rw[List.drop_length] at hh;exact .inl ⟨E.stop le'.lf rs',hh W' τ' H' (A.trans le') rs' rg'⟩
end
section
variable{X:Cx}{Ex:St->XK}{ex:A6}{te:TE}{pos:Pos}
def nI(c:Cat X Ex)(M:X.A.handled=none)(P:PE X ex te):PS X (.Raise (some ex) none pos)<|zEy X.K te Ex:=by
 intro Z s O H D I h;rw[arm_exec_Raise];refine xAd (wpAny_standAt ?_);have b:wpAny (model X.prog X.w) X.A (eval ex X.env) (λv a=>∃e,v=.ref e/\zCu e a.heap/\X.xe (.ref e) a) X.xe s:=by
  refine thn (P Z s O H _ I h) λu a m=>?_;let⟨v,H1,I1,r,e,C,l,R,j,Q,q⟩:=m;subst R;obtain rfl:u=Value.ref e:=r;let⟨nm,x,N,bs,bm,d,p,sub,W,i,T,L,J,G,F,E,B,n⟩:=fI Q;let⟨⟨t,ge⟩,_,_⟩:=(show zAg X.prog X.w H1 a.heap e (XO C l e) from I1.hok e _ j)
  exact⟨e,rfl,⟨nm,x,C,N,bs,bm,d,p,sub,W,i,T,L,J,G,F,E,_,t,l,I1.kIn _ _ B,fK n,ge⟩,c.rises I1 j q⟩
 change wpAny _ _ (raiseStmt X.env (some<|do let v <- eval ex X.env;standAt pos;pure v) none) _ _ _;exact kr M<|xAd<|wpAny_mono b (λv a z=>xAd<|wpAny_standAt<|xAe z) λ_ _ y=>y
end
section
variable{B:Bs}{up:A0<|Str×Str}{G:B9}{Ex:St->XK}{c a b d:B6}{as:B'}{t:TTx Prop}{u v:B5}
variable{X:Cx}{e ea eb:A6}{es:A0 A6}{st:Stmt}{sts body suite:A0 Stmt}{pos p1 p2 p3 np hpos:Pos}{x y:Str}{i:Nat}{cc:A7}(g:zBw up G)
include g
theorem pD(I:Cat X Ex)(C:X.A.handled=none)(M:PySem.W.excIn X.K cc bmV "ValueError.__new__"=true)(F:zC3 X.K cc=true)(r:PySem.W.keepIn X.K (.ref cc)=true)(E:Gl X x)(w:X.mg x=some (.ref cc))(l:B.mg x=some (.ref cc))(n:(x==("__debug__":Str))=false):FS X B G Ex (.Raise (some<|.Call (.Name x p1) [] [] p2) none pos)<|sX x [] aN:=
 ⟨wkS (nI I C<|nS M r E w n) λD τ H ⟨W,O,S,p,q,h⟩=>λj m=>⟨j,cc,none,rfl,bz,F,by
  have hd:del (upd H j<|XO cc none j) j=H:=by
   funext b
   by_cases z:b=j
   .rw[z,gL,m]
   .rw[i8 z,bx z]
  rw[hd];exact h W τ _ none H .refl ⟨p,⟨cc,l,rfl⟩,.inl ⟨rfl,rfl⟩⟩ q⟩,mSX g<|mAN g⟩
end
end Fx
namespace L2
open PySem PySem.Spec PyProof.Rows PySem.Builtin PySem.Builtin.ObjectAttr
variable{h:Heap}{T T0 C:A7}{Q:Unit->A5->Prop}{o0:Obj}
section
variable{M:Model}{A:Around}{E:A4->A5->Prop}{s:A5}{base:Heap}{env:Env}{outer:A0 Env}{L e:A7}{oe:Obj}{vs:Array A4}
def fk{fs no:A0 A7}{fl:A4}{fr:A3 A7}(n:zBe h s.heap fs no e T fl oe)(hd:oe.data=.fields vs)(hsz:1<vs.size)(p:T≠e)(k:∀h',zBe h h' fs no e T (fr.elim .none λf=>rawInt f) oe->Q Unit.unit {s with heap:=h'}):wpAny M A (setFlight (.ref e) fr) Q E s:=by
 let⟨w,l,j,c,r⟩:=n.ent;have a:=Obj.data_mapFields hd (·.setIfInBounds 1 (Value.ref T));unfold setFlight;refine xAd<|xDa n.exc a (x:=.ref T) (by simp[hsz]) ?_;rw[xCg<|show(Value.ref T != Value.none)=true by simp];have i:3<l.size:=(xB7.mp r).1;have lo:∀b o,h.get? b=some o->T≠b:=λb o q=>Nat.ne_of_gt<|xBc (xA1 q) n.new;refine wpAny_setField j c i<|k _ ⟨n.new,⟨_,_,xA7 _ j<|Obj.isFreed_of_fields<|Obj.data_mapFields c _,Obj.data_mapFields c _,?_⟩,(xA6 _ _ p).trans n.exc,λb o v d t q=>(xA6 _ _<|lo b o q).trans<|n.keep b o v d t q,λb o d q=>?_⟩
 .simp[i]
 .let⟨m,z⟩:=n.frs b o d q;exact⟨m,(xA6 _ _<|lo b o q).trans z⟩
def nZ{t0:Array A4}(b:env.frame=some L)(c:s.heap.get? e=some oe)(hd:oe.data=.fields vs)(j:vs[1]?=some (.ref T0))(d:s.heap.get? T0=some o0)(a:o0.data=.fields t0)(i:t0[3]?=some (rawInt L))(h:Q Unit.unit s):wpAny M A (noteFrame (.ref e) env) Q E s:=by
 unfold noteFrame;rw[b];refine xAd<|xDa c hd j ?_;rw[xCg<|show(Value.ref T0 != Value.none)=true by simp];refine xAd<|xDa d a i ?_;rw[xCg<|show(rawInt L==rawInt L)=true by simp];exact xAe h
def qE{t0:Array A4}{fl:A4}(m:A.frames=some (env::outer))(t:s.heap.FunFrames base<|env::outer)(v:env.frame=some L)(w:s.heap.get? e=some oe)(hd:oe.data=.fields vs)(y:vs[1]?=some (.ref T0))(i:s.heap.get? T0=some o0)(c:o0.data=.fields t0)(x:t0[3]?=some fl)(p:(fl==rawInt L)=false)(k:T0≠e)(h:∀h' T,zBe s.heap h' (frs<|env::outer) [T0] e T (rawInt L) oe->T0≠T->Q Unit.unit {s with heap:=h'}):wpAny M A (noteFrame (.ref e) env) Q E s:=by
 have a:∀b,b≠T0->(s.heap.update T0 (Obj.mapFields (·.setIfInBounds 3 Value.none))).get? b=s.heap.get? b:=λb D=>xA6 _ _<|Ne.symm D;have plain:∀b o,s.heap.get? b=some o->(∀B,o.data≠.fields B)->b≠T0:=λb o q d z=>by
  rw[z] at q;cases i.symm.trans q;exact d t0 c
 have l:(s.heap.update T0 (Obj.mapFields (·.setIfInBounds 3 Value.none))).FunFrames base<|env::outer:=t.of_keeps λb o q d=>⟨o,(a b<|plain b o q d).trans q,rfl⟩
 unfold noteFrame;rw[v];refine xAd<|xDa w hd y ?_;rw[xCg<|show(Value.ref T0 != Value.none)=true by simp];refine xAd<|xDa i c x ?_;rw[xCf<|show ¬ (fl==rawInt L)=true by rw[p];exact xAy];erw[<-xAd<|wpAny_setField i c (xB7.mp x).1 ?_,<-gH (s:={s with heap:=s.heap.update T0 (Obj.mapFields (·.setIfInBounds 3 Value.none))}) m l v ((a e<|Ne.symm k).trans w) hd (xB7.mp y).1 λh' T n=>?_];have sz:(s.heap.update T0 (Obj.mapFields (·.setIfInBounds 3 Value.none))).objs.size=s.heap.objs.size:=by simp
 have r:s.heap.objs.size<=T:=sz▸n.new;refine h h' T ⟨r,n.ent,n.exc,λb o G j F q=>n.keep b o G j ⋯<|(a b<|by simpa using F).trans q,λb o j q=>?_⟩<|xA0<|xBc (xA1 i) r;let⟨_,H,go,d⟩:=t.mem j;cases q.symm.trans go;exact n.frs b o j<|(a b<|plain b o q d).trans q
def zBe.but{m l:Heap}{fs no:A0 A7}{fl:A4}(n:zBe h m fs no e T fl oe)(d:Heap.SameBut C m l)(w:C∉fs)(j:C≠e)(k:C≠T):zBe h l fs (C::no) e T fl oe where
 new:=n.new
 ent:=let ⟨v,r,a,b,c⟩:=n.ent;⟨v,r,d.extBut _ _ (Ne.symm k) a,b,c⟩
 exc:=d.extBut _ _ (Ne.symm j) n.exc
 keep:=λb o x i p q=>d.extBut _ _ (λz=>p<|by simp[z])<|n.keep b o x i (λz=>p<|xAs _ z) q
 frs:=λb o i q=>let ⟨t,z⟩:=n.frs b o i q;⟨t,d.extBut _ _ (λy=>w<|y▸i) z⟩
end
def Un.strip'{fs c ex':A0 A7}{H H':Hp}{h':Heap}(u:Un fs c H H' h h')(z:∀b∈c,b∉ex'->h.get? b=none):Un fs ex' H H' h h':=by
 have ne:∀b o,h.get? b=some o->b∉ex'->b∉c:=λb o q n y=>by rw[z b y n] at q;cases q
 exact⟨λb o q n d a=>u.keep b o q n d<|ne b o q a,λb o q n d a=>u.slot b o q n d<|ne b o q a,λb o q n a=>u.free b o q n<|ne b o q a,λb o q a=>u.there b o q<|ne b o q a,u.tups,u.frzs,u.tbls⟩
def zAd(E:A4->A5->Prop)(X:Cx)(N:A9)(scope:Scope)(cl:A0<|Str×A7)(C:A7)(s:A5)(H:Hp)(fp:A0 A7):Cx:={zCs X N scope cl C s H fp with xe:=E}
def xeC(X:Cx)(use:A3<|A4->Sem Unit)(QQ:A4->A5->Prop)(acc:A4)(C:A7):A4->A5->Prop:=
 notedBy (model X.prog X.w) X.A X.env λe a=>compPost (model X.prog X.w) X.A X.xe use QQ acc C (.error e) a
section
variable{X:Cx}{Ex:St->XK}{scope:Scope}{cl:A0<|Str×A7}{N:A9}
def oC{Z:A0<|A7×Obj}{O:St}{H2:Hp}{k:A5}{fp:A0 A7}{use:A3<|A4->Sem Unit}{QQ:A4->A5->Prop}{acc:A4}(c:zAo X Ex)(I2:Inv X Z O H2 k)(hC:k.heap.objs.size<=C)(f2:∀b∈fp,zCy X Z H2 b) :
  zA3 (CXo X.prog X.w) (zAd (xeC X use QQ acc C) X N scope cl C k H2 fp) (λ_=>Ex O):=by
 let⟨Lk,xe,la⟩:=c.ex;intro E σY H s ev s' IY F;let⟨e,C',T0,d,H',rfl,hn,Te0,tb,ho,hb,un,j,q⟩:=F;let⟨a,r,v,t1,os1⟩:=s';obtain rfl:os1=s.os:=ho;have un:Un (frs X.stack) [] H (upd H' e<|XF C' d e T0) s.heap a:=un;have j:HOk X.prog X.w (upd H' e<|XF C' d e T0) a:=j;have J:upd H' e (XF C' d e T0) e=some (XF C' d e T0):=bz;let⟨⟨t,ge⟩,_,_⟩:=(show zAg X.prog X.w (upd H' e<|XF C' d e T0) a e (XF C' d e T0) from j e _ J)
 let⟨oT,ts,M,K,z3⟩:=tb.ent;have I1:Inv (zAd (xeC X use QQ acc C) X N scope cl C k H2 fp) E σY (upd H' e<|XF C' d e T0) {s with heap:=a,gens:=r,drawn:=v,toks:=t1}:=IY.call (ch:=[]) un j hb (λb z=>absurd z ⋯);have W:X.A.frames=some (X.env::X.outer):=c.hs▸I2.ok.frames;have hl:a.FunFrames X.base<|X.env::X.outer:=by
  have:a.FunFrames X.base X.stack:=I1.stack;rw[c.hs] at this;exact this
 have I1C:upd H' e (XF C' d e T0) C=none:=I1.free;have CfO:zCy X Z (upd H' e<|XF C' d e T0) C:=I2.fpOk hC I1C;have Ce:C≠e:=λz=>by rw[z,J] at I1C;cases I1C
 let⟨mY,I,_⟩:=IY.loc;have I:s.heap.Ns C mY:=I;let⟨m1,B,_⟩:=I1.loc;have B:a.Ns C m1:=B;have CT0:C≠T0:=λz=>by
  let⟨o,es,ep,ho,_⟩:=I;rw[z,tb.old] at ho;cases ho
 have frC:C∉frs (X.env::X.outer):=λz=>by
  have:C∈X.env.locals::X.fs:=by
   have z':C∈(X.env::X.outer).filterMap (·.frame):=z;rw[List.filterMap_cons,c.hf] at z';exact z'
  rcases xAv.mp this with y|y
  .exact CfO.2.1 y
  .exact CfO.2.2.1 y
 have frf:∀b∈frs (X.env::X.outer),upd H' e (XF C' d e T0) b=none:=λb i=>I1.stkFree b (by show b∈frs X.stack;rw[c.hs];exact i);have Y:upd H' e (XF C' d e T0) T0=none:=by rw[bx Te0];exact tb.un
 have hno:∀b∈[C,T0],upd H' e (XF C' d e T0) b=none:=λb i=>by
  rcases xAv.mp i with y|y
  .rw[y];exact I1C
  .rw[xAm.mp y];exact Y
 have UA:Un (frs X.stack) fp H2 (upd H' e<|XF C' d e T0) k.heap a:=Un.trans (show Un (frs X.stack) fp H2 H k.heap s.heap from IY.base) (un.mono (λ_ z=>z) λb z=>absurd z ⋯);have P:T0∉fp->k.heap.get? T0=none:=λm=>by
  cases z:k.heap.get? T0 with
  |none=>rfl
  |some o=>
   let⟨o',y⟩:=(show Un (frs X.stack) fp H2 H k.heap s.heap from IY.base).there T0 o z m;rw[tb.old] at y;cases y
 have l:∀{m:Heap}{T:A7}{fl:A4},zBe a m (frs<|X.env::X.outer) [C,T0] e T fl (zGe C' t T0 d)->Un (frs X.stack) (C::fp) H2 (upd H' e<|XF C' d e T) k.heap m/\HOk X.prog X.w (upd H' e<|XF C' d e T) m:=λ{m T fl} n=>by
  let⟨u,ok⟩:=dY (o:=XF C' d e T) j frf hno J n<|XF.ok (t:=t) n.exc;rw[f9] at u ok;rw[<- c.hs] at u;refine⟨Un.strip' (Un.trans (UA.mono (ex':=T0::C::fp) (λ_ z=>z) λb z=>by simp[z])<|u.mono (λ_ z=>z) λb z=>?_) λb M K=>?_,ok⟩
  .rcases xAv.mp z with y|y
   .simp[y]
   .simp[xAm.mp y]
  .rcases xAv.mp M with y|y
   .rw[y];exact P λq=>K (by rw[y];exact xAs _ q)
   .exact absurd y K
 have hch:∀b∈C::fp,(b∈X.ex\/X.s₀.heap.objs.size<=b)/\b≠X.env.locals/\(∀x c,X.env.cells.lookup x=some c->c≠b)/\∀p∈X.pn++Z,p.1≠b:=λb i=>by
  rcases xAv.mp i with y|y
  .rw[y];exact⟨CfO.2.2.2.1,CfO.2.1,CfO.2.2.2.2.1,CfO.2.2.2.2.2⟩
  .have f:=f2 b y;exact⟨f.2.2.2.1,f.2.1,f.2.2.2.2.1,f.2.2.2.2.2⟩
 have os2:s.os=k.os:=IY.os;have R:∀{m:Heap}{T:A7},Un (frs X.stack) (C::fp) H2 (upd H' e<|XF C' d e T) k.heap m->HOk X.prog X.w (upd H' e<|XF C' d e T) m->Inv X Z O (upd H' e<|XF C' d e T) {s with heap:=m,gens:=r,drawn:=v,toks:=t1}:=λu ok=>
  Inv.call' (s:=k) (H:=H2) (ch:=C::fp) I2 os2 u ok hb hch
 have hsz:X.s₀.heap.objs.size<=a.objs.size:=xCk I2.sz I1.sz;change wpAny (model X.prog X.w) X.A (noteFrame (.ref e) X.env) (λ_ s''=>compPost (model X.prog X.w) X.A X.xe use QQ acc C (.error<|.ref e) s'') _ _;refine gv (s:={s with heap:=a,gens:=r,drawn:=v,toks:=t1}) W hl c.hf ge rfl rfl M K z3 Te0 λh1 T n nT=>?_;have CT:C≠T:=λz=>by
  let⟨o,es,ep,ho',_⟩:=B;exact absurd (xA1 ho')<|Nat.not_lt_of_le<|z▸n.new
 refine⟨m1,B.at' λo y=>n.keep C o Ce frC (by simpa using CT0) y,λh2 sb cenv hcl=>?_⟩;have n2:=n.but sb frC Ce CT;have Te:T≠e:=Nat.ne_of_gt<|xBc (xA1 ge) n.new;unfold PySem.passOn;refine xAd<|xDa (s:={s with heap:=h2,gens:=r,drawn:=v,toks:=t1}) n2.exc (vs:=#[.ref t,.ref T,.none,.none,.bool false,.none]) rfl (x:=.ref T) rfl ?_;rw[xCf<|show ¬ (Value.ref T==Value.none)=true by simp];erw[<-xAd (fk (s:={s with heap:=h2,gens:=r,drawn:=v,toks:=t1}) n2 rfl ⋯ Te λh3 G=>wpAny_throw ?_),<-xe _ _ λE'=>?_];have D:∀{L:Heap}{T4:A7}{fl:A4},Un (frs X.stack) (C::fp) H2 (upd H' e<|XF C' d e T4) k.heap L->HOk X.prog X.w (upd H' e<|XF C' d e T4) L->T4≠e->a.objs.size<=T4->(∃oT ts,L.get? T4=some oT/\oT.data=.fields ts/\ts[3]?=some .none)->Lk (.ref e) {s with heap:=L,gens:=r,drawn:=v,toks:=t1}:=λ{L T4 fl} u ok ne le en=>by
  refine la Z O e C' T4 d H' _ (R u ok) hn ne ⟨en,Heap.get?_none_of_le<|xCk hsz le,?_⟩ q;have:=j.fresh le;rw[bx ne] at this;exact this
 let⟨oT3,ts3,w1,w2,w3⟩:=G.ent;by_cases hfl:((cenv.frame.elim Value.none λf=>rawInt f)==rawInt X.env.locals)=true
 .rw[beq_iff_eq.mp hfl] at w3;erw[nZ (s:={s with heap:=h3,gens:=r,drawn:=v,toks:=t1}) c.hf G.exc (vs:=#[.ref t,.ref T,.none,.none,.bool false,.none]) rfl rfl w1 w2 w3,<-fk (s:={s with heap:=h3,gens:=r,drawn:=v,toks:=t1}) (fr:=none) G rfl ⋯ Te λL n4=>?_];let⟨u4,ok4⟩:=l n4;exact D (fl:=.none) u4 ok4 Te n4.new n4.ent
 .let⟨u3,S⟩:=l G;have I3:=R u3 S;have hl3:h3.FunFrames X.base<|X.env::X.outer:=by
   have:h3.FunFrames X.base X.stack:=I3.stack;rw[c.hs] at this;exact this
  refine qE (s:={s with heap:=h3,gens:=r,drawn:=v,toks:=t1}) W hl3 c.hf G.exc (vs:=#[.ref t,.ref T,.none,.none,.bool false,.none]) rfl rfl w1 w2 w3 (Bool.eq_false_iff.mpr hfl) Te λh5 T2 n5 nT2=>?_;have Te2:T2≠e:=Nat.ne_of_gt<|xBc (xA1 G.exc) n5.new;refine fk (s:={s with heap:=h5,gens:=r,drawn:=v,toks:=t1}) (fr:=none) n5 rfl ⋯ Te2 λh6 n6=>?_;have frf3:∀b∈frs (X.env::X.outer),upd H' e (XF C' d e T) b=none:=λb i=>I3.stkFree b (by rw[c.hs];exact i);have hT3:upd H' e (XF C' d e T) T=none:=by
   have:=j.fresh n.new;rw[bx Te] at this⊢;exact this
  let⟨u,ok⟩:=dY (o:=XF C' d e T2) S frf3 (λb i=>by rw[xAm.mp i];exact hT3) bz n6<|XF.ok (t:=t) n6.exc;rw[f9] at u ok;rw[<- c.hs] at u;have hle:a.objs.size<=T2:=xCk G.new<|xCk (Nat.le_of_lt<|xA1 w1) n5.new;refine D (fl:=.none) (Un.strip' (Un.trans (u3.mono (ex':=T::C::fp) (λ_ z=>z) λb z=>xAs _ z)<|u.mono (λ_ z=>z) λb z=>by simp[xAm.mp z]) λb M K=>?_) ok Te2 hle n6.ent;rcases xAv.mp M with y|y
  .rw[y];exact Heap.get?_none_of_le<|xCk I1.sz n.new
  .exact absurd y K
end
end L2
namespace L2
open PySem PySem.Spec PyProof.Rows
def okE{E:A4->A5->Prop}{X:Cx}{N:A9}{scope:Scope}{cl:A0<|Str×A7}{C:A7}{s:A5}{H:Hp}{fp:A0 A7}(k:(zCs X N scope cl C s H fp).Ok):(zAd E X N scope cl C s H fp).Ok:=
 ⟨k.mod,k.kind,k.glob,k.blt,k.above,k.inj,k.has,k.cab,k.hd,k.frames,k.stk,k.exf,k.bs,k.bsz,k.noex,k.exfs,k.funs,k.frf⟩
def zGp(wi:TI)(m:Nat)(fr:B1)(g:TG)(a:TT)(te:St->TE):TE:=λO H Q=>zH0 wi m fr g a (te O) O H Q
section
variable{X:Cx}{Ex:St->XK}{elt tg iter:A6}{ifs:A0 A6}{pos:Pos}{scope:Scope}{cl:A0<|Str×A7}{ls N:A9}{fr:B1}{wi:TI}{g:TG}{tc:TT}
def ik{te:TE}{pos':Pos}{Z:A0<|A7×Obj}{s:A5}{O:St}{H:Hp}{Q:VK}{use:A3<|A4->Sem Unit}{QQ:A4->A5->Prop}(hc:X.calm=true)(ca:zAo X Ex)(cp:zB4 X scope cl ls N fr)(hi:PI X tg iter wi)(hg:∀C s H fp E,PG (zAd E X (ls++N) scope cl C s H fp) tg g)(ht:∀C s H fp E,PTs (zAd E X (ls++N) scope cl C s H fp) ifs tc)(he:∀C s H fp E,zA3 (CXo X.prog X.w) (zAd E X (ls++N) scope cl C s H fp) (λ_=>Ex O)->PE (zAd E X (ls++N) scope cl C s H fp) elt te)(hs:∀v,foldedSetIterable iter X.env v=pure v)(I:Inv X Z O H s)(h:zH0 wi ls.length fr g tc te O H Q)(fin:∀(B C:A7)(H':Hp)(L:A5)(m:Str->A3 A4),Inv X Z O H' L->zCy X Z H' C->L.heap.Ns C m->Q (.ref B) H'->compPost (model X.prog X.w) X.A X.xe use QQ (.ref B) C (.ok .next) L) :
  wpAny (model X.prog X.w) X.A (comprehension (.ListComp elt [⟨tg,iter,ifs,0⟩] scope pos) scope X.env pos' (newList []) false (eval iter X.env) use) QQ X.xe s:=by
 refine wpAny_comprehension_free (use:=use) rfl hs cp.clos cp.kind cp.names (thn (hi Z s O H _ I h) λv s1 h1=>thn h1 λitv a h2=>?_);let⟨it,fp,tn,m0J,H2,e,I2,T,K,P,R⟩:=h2;subst e;have hfl:∀b∈fp,b<a.heap.objs.size:=λb l=>let ⟨o,e,_⟩:=T.obj _ _ K b l;xA1 e;refine xBl<|wpAny_newFunctionEnv cp.cell (by intro y hy;simp at hy) (λh1 G x=>?_) cp.kind;dsimp only at G x⊢;generalize hG:a.heap.push {cls:=.type "list",dict:=none,data:=.seq ([]:B4).toArray}=G2 at G x⊢;have hCs:G2.objs.size=a.heap.objs.size+1:=by rw[<- hG,Heap.size_push]
 have hDC:a.heap.objs.size≠G2.objs.size:=by rw[hCs];exact xA0<|Nat.lt_succ_self _
 have t:a.heap.objs.size<=G2.objs.size:=by rw[hCs];exact Nat.le_succ _
 have D:∀b o,a.heap.get? b=some o->h1.get? b=some o:=λb o e=>x.extBut b o (xA0<|xBc (xA1 e) t)<|xAf _<|hG▸xAf _ e;have hacc:h1.get? a.heap.objs.size=some {cls:=.type "list",dict:=none,data:=.seq ([]:B4).toArray}:=x.extBut _ _ hDC<|xAf _<|hG▸xAl _ rfl;have hDn:H2 a.heap.objs.size=none:=I2.hok.fresh<|xAg _;have hCn:H2 G2.objs.size=none:=I2.hok.fresh t;let⟨W,⟨m0,w0⟩,turn⟩:=R a.heap.objs.size hDn
 let EE:=xeC X use QQ (.ref a.heap.objs.size) G2.objs.size
 have M:(zAd EE X (ls++N) scope cl G2.objs.size a H2 fp).Ok:=okE<|rJ (C:=G2.objs.size) cp I2 t P hfl;have hps:zA3 (CXo X.prog X.w) (zAd EE X (ls++N) scope cl G2.objs.size a H2 fp) λ_=>Ex O:=oC ca I2 t P;have I3:Inv (zAd EE X (ls++N) scope cl G2.objs.size a H2 fp) [] (List.replicate ls.length none++zC7 O fr) (upd H2 a.heap.objs.size<|.lst []) {a with heap:=h1,toks:=a.toks+([]:A0<|Str×A4).length}:=by
  refine⟨M,rfl,I2.bare,Un.laid D (xAg _) hDn,⟨_,G,λi y v e1 e2 e3=>?_⟩,λy c e=>?_,?_,λy c e=>?_,(λp hp=>nomatch hp),I2.hok.laid D (xAg _) ⟨xBn _,[],0,.nil,hacc⟩,?_⟩
  .let⟨hm,S⟩:=jE e2;have e1':N[i-ls.length]?=some y:=by
    have e1'':(ls++N)[i]?=some y:=e1;rw[xCl hm] at e1'';exact e1''
   let⟨k,c,g1,g2,g3,g4,g5,g6⟩:=cp.caps _ y e1';have e4:O[k]?=some (some v):=by
    unfold zC7 at S;rw[xAw,g1] at S;have e5:(O[k]?).join=some v:=xB3 S;cases z:O[k]? with
    |none=>rw[z] at e5;cases e5
    |some o=>rw[z] at e5;exact congrArg some e5
   let⟨m2,_,hl2⟩:=I2.loc;let⟨u,r,lk⟩:=hl2 k y v g2 e4 g3;refine⟨u,r,.inr ⟨dn g6,c,g5,?_⟩⟩;rcases lk with ⟨lk,_⟩|⟨_,c',lk1,o,lk2,lk3⟩
   .exact absurd lk g4
   .have:=cp.sub y c g5;rw[lk1] at this;cases this;exact⟨o,D _ _ lk2,lk3⟩
  .let⟨v,o,e1,e2⟩:=I2.cell y c<|cp.sub y c e;exact⟨v,o,D _ _ e1,e2⟩
  .show upd H2 a.heap.objs.size (.lst []) G2.objs.size=none;rw[bx<|Ne.symm hDC];exact hCn
  .let⟨v,o,e1,e2⟩:=I2.cell y c<|cp.sub y c e;rw[bx<|xA0<|xA1 e1];exact I2.freeC y c<|cp.sub y c e
  .change(List.replicate ls.length none++zC7 O fr).length=(ls++N).length;unfold zC7;rw[xAb,xAb,xCu,xAa,cp.len]
 have F:∀{H':Hp},(∀b∈fp,H' b=none)->∀b∈fp,zCy (zAd EE X (ls++N) scope cl G2.objs.size a H2 fp) [] H' b:=λhn b l=>
  ⟨hn b l,xA0<|xBc (hfl b l) t,M.exfs b l,.inl l,(M.exf b l).2,λp hp=>nomatch hp⟩
 have loop:∀s3:A5,s3={a with heap:=h1,toks:=a.toks+([]:A0<|Str×A4).length} ->
   codeAny (model X.prog X.w) X.A (.compLoop (.ListComp elt [⟨tg,iter,ifs,0⟩] scope pos) 0 (.ref it) (.ref a.heap.objs.size)<|compEnvC scope cl G2.objs.size X.env)
    (compPost (model X.prog X.w) X.A X.xe use QQ (.ref a.heap.objs.size) G2.objs.size) s3:=by
  rintro s3 rfl
  refine kW (λn s'=>∃i ys H',Inv (zAd EE X (ls++N) scope cl G2.objs.size a H2 fp) [] (List.replicate ls.length none++zC7 O fr) H' s'/\tn i s'.heap/\(∀b∈fp,H' b=none)/\W i n ys H') ?_ m0
   ⟨0,[],_,I3,T.keep _ _ _ K λb l o e=>D b o e,λb l=>by rw[bx<|xA0<|hfl b l];exact(P b l).1,w0⟩
  rintro n s' ⟨i,ys,H',IY,st,frn,w'⟩
  let⟨hD,hh⟩:=turn i n ys H' w';rcases hh with ⟨stop,q⟩|⟨go,hz,Nx,hN,step⟩
  .refine wpAny_mono (T.done (zAd EE X (ls++N) scope cl G2.objs.size a H2 fp) rfl rfl rfl hc i [] s' _ H' (λ_ _=>False) IY (F frn) st stop) (λr L h4=>?_) (λ_ _ z=>z.elim);let⟨hr,I4⟩:=h4;subst hr;let⟨mY,hnY,_⟩:=I4.loc;have I5:Inv X Z O H' L:=Inv.call' (s:=a) (H:=H2) (ch:=fp) I2 I4.os I4.base I4.hok I4.bare (λb l=>⟨(P b l).2.2.2.1,(P b l).2.1,(P b l).2.2.2.2.1,(P b l).2.2.2.2.2⟩);exact fin _ _ H' L mY I5 (I2.fpOk t I4.free) hnY q
  .refine wpAny_mono (T.item (zAd EE X (ls++N) scope cl G2.objs.size a H2 fp) rfl rfl rfl hc i [] s' _ H' (λ_ _=>False) IY (F frn) st go) (λr L h4=>?_) (λ_ _ z=>z.elim);let⟨u,hr,h4⟩:=h4;subst hr;refine wpAny_mono h4 (λ_ s5 h5=>?_) (λ_ _ z=>z.elim);let⟨xv,H5,I5,r5,y5,J,fr5⟩:=h5;have I5':=I5.pinned (F fr5)<|T.obj _ _ J;refine wpAny_mono (hg G2.objs.size a H2 fp EE _ s5 _ H5 xv u _ I5' r5<|step xv H5 y5) (λ_ s6 h6=>?_) (λ_ _ z=>z);let⟨σ6,H6,I6,c6,l6,t6⟩:=h6;have back:∀{H7:Hp}{Y:A5},Inv (zAd EE X (ls++N) scope cl G2.objs.size a H2 fp) ([]++zCa fp s5.heap) σ6 H7 Y->Inv (zAd EE X (ls++N) scope cl G2.objs.size a H2 fp) [] (List.replicate ls.length none++zC7 O fr) H7 Y/\tn (i+1) Y.heap/\∀b∈fp,H7 b=none:=λ{H7 Y} I7=>by
    refine⟨I7.unpinned.forget ?_ λj v e=>?_,T.keep _ _ _ J λb l o e=>(I7.pin (b,o)<|xBt _<|xBt _<|eD l e).1,λb l=>?_⟩
    .rw[l6,xAb,xCu];unfold zC7;rw[xAa]
    .let⟨hm,e'⟩:=jE e;rw[<- c6,List.getElem?_drop] at e';rw[show j=ls.length+(j-ls.length) by lia];exact e'
    .let⟨o,e,d⟩:=T.obj _ _ J b l;exact(I7.pin (b,o)<|xBt _<|xBt _<|eD l e).2.1
   refine wpAny_mono (ht G2.objs.size a H2 fp EE _ s6 _ H6 _ I6 t6) (λok Y h7=>?_) (λ_ _ z=>z);let⟨H7,I7,hD7,h7⟩:=h7;cases ok with
   |false=>
    rw[xCf xAy] at h7⊢;let⟨k',hk,w8⟩:=hN _ _ h7;let⟨b1,b2,b3⟩:=back I7;exact⟨k',hk,i+1,ys,H7,b1,b2,b3,w8⟩
   |true=>
    rw[xCg rfl] at h7⊢;refine wpAny_mono (he G2.objs.size a H2 fp EE hps _ Y _ H7 _ I7 h7) (λxv' s8 h8=>?_) (λ_ _ z=>z);let⟨v8,H8,I8,r8,hD8,n8⟩:=h8;refine wpAny_mono (hX (X:=zAd EE X (ls++N) scope cl G2.objs.size a H2 fp) _ s8 _ H8 (.ref a.heap.objs.size) [v8] (.ref a.heap.objs.size) [xv'] (λv' H9=>H9=upd H8 a.heap.objs.size (.lst<|ys++[v8])) I8 rfl (.cons r8 .nil) ⟨a.heap.objs.size,ys,v8,rfl,rfl,hD8,hz,rfl⟩) (λ_ s9 h9=>?_) (λ_ _ z=>z);let⟨v9,H9,I9,_,rfl⟩:=h9;let⟨k',hk,w9⟩:=hN _ _ n8;let⟨b1,b2,b3⟩:=back I9;exact⟨k',hk,i+1,ys++[v8],_,b1,b2,b3,w9⟩
 exact codeAny_compStart_list (loop _ rfl)<|T.self _ 0 _ _ _ (T.keep _ _ _ K λb l o e=>D b o e)<|loop _ rfl
def tz{te:St->TE}(q:X.calm=true)(x:zAo X Ex)(t:zB4 X scope cl ls N fr)(hi:PI X tg iter wi)(n:∀C s H fp E,PG (zAd E X (ls++N) scope cl C s H fp) tg g)(k:∀C s H fp E,PTs (zAd E X (ls++N) scope cl C s H fp) ifs tc)(p:∀O C s H fp E,zA3 (CXo X.prog X.w) (zAd E X (ls++N) scope cl C s H fp) (λ_=>Ex O)->PE (zAd E X (ls++N) scope cl C s H fp) elt (te O))(l:∀v,foldedSetIterable iter X.env v=pure v:=by intro _;rfl):PE X (.ListComp elt [⟨tg,iter,ifs,0⟩] scope pos)<|zGp wi ls.length fr g tc te:=by
 intro Z s O H Q I h;rw[eval_ListComp];refine ik (use:=none) (QQ:=EP X Z O Q) q x t hi n k (p O) l I h λB C H' d m I4 a j i=>⟨m,j,λy c=>?_⟩
 exact⟨.ref B,H',I4.turned (t':=d.toks) (λb o r e=>c.extBut b o r e) a.1 a.2.1 a.2.2.2.1 a.2.2.2.2.1 a.2.2.2.2.2,rfl,i⟩
def nH{te:St->TE}{i:Nat}{y:Str}{j c:Pos}(Q:X.N.Nodup)(n:X.N[i]?=some y)(q:X.env.scope.names.lookup y=some .local)(M:X.calm=true)(S:zAo X Ex)(R:zB4 X scope cl ls N fr)(hi:PI X tg iter wi)(K:∀C s H fp E,PG (zAd E X (ls++N) scope cl C s H fp) tg g)(G:∀C s H fp E,PTs (zAd E X (ls++N) scope cl C s H fp) ifs tc)(L:∀O C s H fp E,zA3 (CXo X.prog X.w) (zAd E X (ls++N) scope cl C s H fp) (λ_=>Ex O)->PE (zAd E X (ls++N) scope cl C s H fp) elt (te O))(J:∀v,foldedSetIterable iter X.env v=pure v:=by intro _;rfl)(l:swapsWith (.ListComp elt [⟨tg,iter,ifs,0⟩] scope pos) (some<|.Name y j) c.line X.env=pure true:=by rfl) :
  PS X (.Assign [.Name y j] (.ListComp elt [⟨tg,iter,ifs,0⟩] scope pos) c) (zF8 (zGp wi ls.length fr g tc te)<|zDg i):=by
 intro Z s O H D I h;delta zF8 zGp at h;rw[exec_Assign_Name_used _ _ _ _ l];refine xAd (wpAny_standAt<|xAd ?_);change wpAny _ X.A (do let _ <- comprehension (.ListComp elt [⟨tg,iter,ifs,0⟩] scope pos) scope X.env _ (newList []) false (eval iter X.env) (some<|assign (.Name y j) X.env)) _ _ s;refine xAd (wpAny_mono (ik (use:=some<|assign (.Name y j) X.env) (QQ:=λ_ p=>SP X Z D .next p) M S R hi K G (L O) J I h λB C H' T m I4 d F x=>?_) (λ_ p z=>xAe<|xAe z) λ_ _ z=>z);change wpAny _ X.A (assign (.Name y j) X.env<|.ref B) _ _ _;refine wpAny_assign_Name (gY I4 Q n (.inl q) (v:=.ref B) rfl (λt I5 ⟨a,k,ha⟩=>?_)<|.inr q);have aC:C≠a:=by
  rcases ha with ha|ha
  .rw[ha];exact d.2.1
  .exact λz=>d.2.2.2.2.1 _ _ ha z.symm
 refine⟨m,F.sameBut k aC,λW r=>⟨_,H',?_,x⟩⟩;exact I5.turned (t':=t.toks) (λb o P e=>r.extBut b o P e) d.1 d.2.1 d.2.2.2.1 d.2.2.2.2.1 d.2.2.2.2.2
end
end L2
namespace Fx
open PySem PySem.Spec L2
open PyProof.Rows hiding St
section
variable{B:Bs}{up:A0<|Str×Str}{G:B9}{Ex:St->XK}{c a b d:B6}{as:B'}{t:TTx Prop}{u v:B5}
variable{X:Cx}{e ea eb tg iter elt:A6}{es:A0 A6}{st:Stmt}{sts body:A0 Stmt}{pos p1 p2 p3 p4 np hpos:Pos}{x y n f:Str}{i j:Nat}{cc:A7}(g:zBw up G)
include g
omit g in
theorem dz:∀{ws:A9}{z:Str},z∈dedup ws↔z∈ws
 |[],z=>Iff.rfl
 |w::r,z=>by
  unfold dedup;split
  .next h=>
   let⟨y,k,e⟩:=xCy.mp h;have e:=xBe e;subst e;rw[dz];exact⟨λh=>xAs _ h,λh=>by rcases xAv.mp h with rfl|h;exact k;exact h⟩
  .rw[xAv,xAv,dz]
omit g in
theorem dF:∀{ws:A9},(dedup ws).Nodup
 |[]=>xC7
 |w::r=>by
  unfold dedup;split
  .exact dF
  .next h=>
   refine xCb.mpr ⟨λz=>h ?_,dF⟩;exact xCy.mpr ⟨w,dz.mp z,⋯⟩
omit g in
theorem gx:∀{l m:A9},l.Nodup->m.Nodup->(∀z,z∈l->z∈m)->l.length<=m.length
 |[],_,_,_,_=>xBn _
 |x::l,m,w,r,o=>by
  let⟨q,p⟩:=xCb.mp w;have k:x∈m:=o x ⋯;have:=gx (l:=l) (m:=m.erase x) p (r.erase x) λz h=>by
   rw[List.mem_erase_of_ne λ(e:z=x)=>q<|by rw[<- e];exact h];exact o z<|xAs _ h
  rw[List.length_erase_of_mem k] at this;have:=List.length_pos_of_mem k;simp only[xAo];lia
set_option tactic.hygienic true
theorem rf(T:X.calm=true)(R:Gl X "len")(O:X.mg "len"=none)(K:Gl X "set")(J:X.mg "set"=none)(D:FE X B G Ex ea a)(C:zAb ea=true):FE X B G Ex (.Call (.Name "len" p1) [.Call (.Name "set" p2) [ea] [] p3] [] pos)<|cP .lenset<|aC a aN:=
 ⟨wkE (qq ux R O (by decide +kernel) (qr (uY (uv T) K J (by decide +kernel) (qr D.p iI C)<|by rw[xCj,C];rfl) iI rfl) rfl) λτ H Q h=>(LE.p1 g D.m h).imp D.m λw H1 N=>by
  let⟨W,S,v,z,S',E,r1,e,q⟩:=N;cases v <;> try (cases e;done)
  delta pr at e;dsimp only at e;split at e
  .next ws M=>
   split at e
   .next L=>
    cases e;let⟨p,Z,rfl,f,r⟩:=r1;have I:=iy M r;subst I;refine⟨p,ws,rfl,E.fz _ _ f,xCo L,λl F P o k=>⟨l,F,rfl,bz,?_,?_⟩⟩
    .have:F.length<=ws.length:=xCk (gx o (dF (ws:=ws)) λz A=>dz.mpr<|(k z).mp A) ?_
     .have:=xCo L;lia
     .exact xCk (gx (dF (ws:=ws)) (dF (ws:=ws)) λz A=>A) (by
       clear q E r f k o L M;induction ws with
       |nil=>exact xAg _
       |cons w r ih=>unfold dedup;split <;> simp only[xAo] <;> lia)
    .have Y:F.length=(dedup ws).length:=Nat.le_antisymm (gx o dF λz A=>dz.mpr<|(k z).mp A)<|gx dF o λz A=>(k z).mpr<|dz.mp A;rw[Y];exact q W _ _ .refl (E.same<|dB P _) rfl
   .cases e
  ·(cases e),mP g<|mAC g D.m<|mAN g⟩
set_option tactic.hygienic false
theorem Ak{r:B6}{i j:Nat}{x y:Str}{P M pt o k:Pos}{kt Q:Nat}(hc:X.calm=true)(hN:X.N.Nodup)(hi:X.N[i]?=some x)(hj:X.N[j]?=some y)(K:i≠j)(hx:X.env.scope.names.lookup x=some .local)(hy:X.env.scope.names.lookup y=some .local)(T:FE X B G Ex ea a)(R:FE X B G Ex eb r)(J:zAb ea=true)(q:zAb eb=true)(hw:swappedStores [.Tuple [.Name x P,.Name y M] kt pt] (.Tuple [ea,eb] Q o) X.env=pure (some [x,y])):FS X B G Ex (.Assign [.Tuple [.Name x P,.Name y M] kt pt] (.Tuple [ea,eb] Q o) k)<|sPr i j a r:=by
 have fa:FA X B G Ex [ea,eb]<|aC a<|aC r aN:=eY g T (eY g R (gG g) q) J;refine⟨wkS (wn hc hN hi hj K hx hy fa.p hw) λD τ H ⟨W,O,S,Z,L,h⟩=>?_,⟨λl h=>T.m.m (λ_ _=>l.x _ _ _) (λ_ _ h=>R.m.m (λ_ _=>l.x _ _ _) (λ_ _=>l.nx _ _) h) h⟩⟩;have h2:(aC a<|aC r aN) G O S (λx S1=>(LEe B Ex W D).x x O S1) λA S2=>match A with|[v,w]=>(LEe B Ex W D).nx (put (put O i v) j w) S2|_=>G.fail:=h;refine LA.go fa.m Z L (fa.m.m (λx S z=>xle L x S z) (λ_ _ _ z=>z) h2) λA S1 W1 us H1 hl I E C F h1=>?_;match A,hl with
 |[v,w],_=>
  let⟨u,Y,rfl,r1,r2⟩:=C.inv2;exact⟨u,Y,rfl,h1 W1 _ H1 I E<|(F.put r1).put r2⟩
set_option tactic.hygienic true
theorem zK(k:FE X B G Ex ea a):FE X B G Ex ea<|cP .frz<|aC a aN:=
 ⟨wkE k.p λτ H Q h=>(LE.p1 g k.m h).imp k.m λw H1 r=>by
  let⟨W,S,v,z,S',A,r1,e,q⟩:=r;cases v <;> try (cases e;done)
  next p=>
  change zC0 p S _=_ at e;unfold zC0 at e;split at e
  .next E D=>
   cases e;let⟨F,rfl,C⟩:=r1;let⟨W2,o,l,r3⟩:=A.freeze D C;exact q W2 _ H1 o l r3
  ·(cases e),mP g<|mAC g k.m<|mAN g⟩
set_option tactic.hygienic false
omit g in
theorem ml:∀{n:Nat}{l:A0<|A3 U}{k:Nat}{v:U},nth (List.replicate n none++l) k=some v->n<=k/\nth l (k-n)=some v
 |0,l,k,v,h=>⟨xBn _,by simpa using h⟩
 |n+1,l,0,v,h=>by cases h
 |n+1,l,k+1,v,h=>by
  have h:nth (List.replicate n none++l) k=some v:=by simpa [List.replicate_succ,nth] using h
  let⟨a,b⟩:=ml h;exact⟨(),by rw[show k+1-(n+1)=k-n by lia];exact b⟩
omit g in
theorem mj{O:Sg}:∀{cs:B1}{k:Nat}{v:U},nth (cs.map<|nth O) k=some v->∃c,cs[k]?=some c/\nth O c=some v
 |[],_,_,h=>by cases h
 |c::cs,0,v,h=>⟨c,rfl,h⟩
 |c::cs,k+1,v,h=>by simpa using mj (cs:=cs) (k:=k) (by simpa [nth] using h)
omit g in
theorem yh{W:Wd}{O:Sg}{τ:St}{m:Nat}{cs:B1}(l:Rg B W O τ):Rg B W (List.replicate m none++cs.map (nth O))<|List.replicate m none++zC7 τ cs:=by
 refine⟨by simp[zC7],λk v h=>?_⟩;let⟨w,q⟩:=ml h;let⟨c,p,o⟩:=mj q;let⟨u,e,r⟩:=l.v c v o;refine⟨u,?_,r⟩;rw[xCl (by simpa using w),xCu];unfold zC7;rw[xAw,p];simp[e]
theorem vA{scope:Scope}{cl:A0<|Str×A7}{M N:A9}{cs is:B1}{one:A8}{P:A0 A6}{to:A3<|TTx Prop}(ho:one=true->is.length=1)(his:∀k∈is,k<M.length)(hc:X.calm=true)(ca:zAo X Ex)(cp:zB4 X scope cl M N cs)(hi:FI X B G Ex tg iter c)(hg:∀C s H fp E,FG (zAd E X (M++N) scope cl C s H fp) B G tg is one)(he:∀O C s H fp E,zA3 (CXo X.prog X.w) (zAd E X (M++N) scope cl C s H fp) (λ_=>Ex O)->FE (zAd E X (M++N) scope cl C s H fp) B G (λ_=>Ex O) elt a)(ht:(P=[]/\to=none)\/∃ec t,P=[ec]/\to=some t/\zBo G t/\∀C s H fp E,FT (zAd E X (M++N) scope cl C s H fp) B G (λ_ _ _ _=>False) ec t)(hs:∀v,foldedSetIterable iter X.env v=pure v)(me:zAz G a):FE X B G Ex (.ListComp elt [⟨tg,iter,P,0⟩] scope pos) (cLx c is one M.length cs to a)/\∀{i:Nat}{y:Str}{py T:Pos},X.N.Nodup->X.N[i]?=some y->X.env.scope.names.lookup y=some .local->swapsWith (.ListComp elt [⟨tg,iter,P,0⟩] scope pos) (some<|.Name y py) T.line X.env=pure true->FS X B G Ex (.Assign [.Name y py] (.ListComp elt [⟨tg,iter,P,0⟩] scope pos) T) (sA i<|cLx c is one M.length cs to a):=by
 have mt:∀u,to=some u->zBo G u:=λu hu=>by
  rcases ht with ⟨_,h⟩|⟨_,t,_,h,mt,_⟩
  .rw[h] at hu;cases hu
  .rw[h] at hu;cases hu;exact mt
 let tc:TT:=(to.map λt=>LT B G (λ_ _ _ _=>False) t).getD zHz
 have htc:∀C s H fp E,PTs (zAd E X (M++N) scope cl C s H fp) P tc:=λC s H fp E=>by
  rcases ht with ⟨R,h2⟩|⟨ec,t,R,h2,_,h3⟩
  .subst R h2;exact sK
  .subst R h2;exact sJ (h3 C s H fp E).p
 refine⟨⟨wkE (tz (te:=λO=>LE B G (λ_=>Ex O) a) hc ca cp hi.p (λC s H fp E=>(hg C s H fp E).p) htc (λO C s H fp E z=>(he O C s H fp E z).p) hs) ?core,mL g hi.m mt me⟩,λ{i y py T} hN hiy hy hsw=>⟨wkS (nH (te:=λO=>LE B G (λ_=>Ex O) a) hN hiy hy hc ca cp hi.p (λC s H fp E=>(hg C s H fp E).p) htc (λO C s H fp E z=>(he O C s H fp E z).p) hs hsw) λD τ H ⟨W,O,S,rs,rg,h⟩=>?core τ H _<|LE.stm (mL g hi.m mt me) rs rg h λv S' W' u H' le rs' rv rg' h'=>h' W' _ H' le rs'<|rg'.put rv,mA g<|mL g hi.m mt me⟩⟩;case core=>
 rintro τ H Q ⟨W,O,S,rs,rg,h⟩
 obtain⟨Kf,h,fin⟩:∃Kf:B7,cLx c is one M.length cs to a G O S (XL B W<|Ex τ) Kf/\∀{W1 W2:Wd}{S2:So}{us:B0}{ys:A0 V}{H2:Hp}{D:A7},W.Le W1->W1.Lf W2->W2.pr=(D,.lst ys)::W1.pr->(∀q∈W1.pr,q.1≠D)->RS B W2 S2 H2->Rvs B W2 us ys->Kf (.lst us) S2->Q (.ref D) H2:=by
  refine⟨VL B W Q,h,λ{W1 W2 S2 us ys H2 D} le1 lf2 A hne J Y hh=>?_⟩;have L:=J.heldF A hne;have lf4:W2.Lf {W2 with pr:=W1.pr,F:=upd W2.F D<|.lst ys}:=by
   have hF:=(J.pf (D,.lst ys)<|by rw[A];exact xAr).2.1;exact⟨λp o z=>by show upd W2.F D _ p=_;rw[bx λy=>by rw[y,hF] at z;cases z];exact z,λ_ _ z=>z⟩
  exact hh {W2 with pr:=W1.pr,F:=upd W2.F D<|.lst ys} (.ref D) H2 ⟨λp o z=>lf4.f p o<|lf2.f p o<|le1.f p o z,λp o z=>lf4.m p o<|lf2.m p o<|le1.m p o z,le1.r⟩ L ⟨D,ys,rfl,bz,Y.lf lf4⟩
 refine⟨W,O,S,rs,rg,hi.m.m (λ_ _ z=>z) (λv S1 R W1 m0J H1 I le1 rs1 ev wk=>?_) h⟩;subst ev;have R:=g.bk R;split at R
 .next hsz=>
  have hsz:=xCo hsz;intro D hD;generalize hbody:lcB is one (List.replicate M.length none++cs.map (nth O)) to a G (XL B W<|Ex τ)=bd at R;have hne:∀q∈W1.pr,q.1≠D:=λq hq z=>by rw[<- z,(rs1.pf q hq).1] at hD;cases hD
  let Wi:Nat->Nat->A0 V->Hp->Prop:=λi k ys H'=>i<=I.length/\k=I.length-i/\ys.length<=i/\∃W' S' us,W1.Lf W'/\W'.pr=(D,.lst ys)::W1.pr/\RS B W' S' H'/\Rvs B W' us ys/\lcK G bd (I.drop i) us S' Kf
  have again:∀{i:Nat}{ys:A0 V}{W':Wd}{S':So}{H':Hp}{us:B0},i<I.length->ys.length<=i+1->W1.Lf W'->W'.pr=(D,.lst ys)::W1.pr->RS B W' S' H'->Rvs B W' us ys->lcK G bd (I.drop<|i+1) us S' Kf->Wi (i+1) (I.length-(i+1)) ys H':=λhi hy l1 l2 l3 l4 l5=>⟨hi,rfl,hy,_,_,_,l1,l2,l3,l4,l5⟩
  refine⟨Wi,⟨I.length,xBn _,rfl,xAg _,_,S1,[],Wd.Lf.pr,rfl,rs1.hold (o:=.lst []) hD λ_=>nofun,rfl,R⟩,?_⟩;rintro i k ys H2 ⟨hi',rfl,hy,W2,S2,us,lf2,A,J,Y,hh⟩
  refine⟨(J.pf _<|by rw[A];exact xAr).1,?_⟩;by_cases hlt:i<I.length
  .refine .inr ⟨wk.go lf2 J hlt,Nat.lt_of_le_of_lt hy<|xBc hlt hsz,λys' H'=>Wi (i+1) (I.length-(i+1)) ys' H',λys' H' z=>⟨_,(),z⟩,λx H3 yy=>?_⟩;rw[xB2 hlt] at hh;let⟨W3,le3,L,rv3⟩:=wk.yld lf2 J (xAk hlt) yy;have hh:lcB is one (List.replicate M.length none++cs.map (nth O)) to a G (XL B W<|Ex τ) I[i] S2 λo S1=>match o with
    |some u=>lcK G bd (I.drop<|i+1) (us++[u]) S1 Kf
    |none=>lcK G bd (I.drop<|i+1) us S1 Kf:=by rw[hbody];exact hh
   have lf3:W1.Lf W3:=⟨λp o z=>le3.f p o<|lf2.f p o z,λp o z=>le3.m p o<|lf2.m p o z⟩
   have K:W3.pr=(D,.lst ys)::W1.pr:=le3.r.trans A;refine vq g ho L (yh<|(rg.mono le1).lf lf3) rv3 hh λσ4 τ4 h4 rg4 hl4 hj4=>⟨?_,?_,?_⟩
   .have hl:τ4.length=M.length+cs.length:=by rw[rg4.l,hl4];simp
    apply List.ext_getElem?;intro q;rw[List.getElem?_drop,hj4 _ (λz=>absurd (his _ z) ()),xCl ⋯,xCu];congr 1;lia
   .rw[rg4.l,hl4];simp
   ·-- the element
    have xlw:∀{xx:Xc}{S6:So},XL B W (Ex τ) xx S6->XL B W3 (Ex τ) xx S6:=λ{xx S6} z W' C dx H' le' rx=>by
     have hpr':W'.pr=(D,.lst ys)::W1.pr:=le'.r.trans K;have rs':=rx.s.heldF hpr' hne;have lf':W'.Lf {W' with pr:=W1.pr,F:=upd W'.F D<|.lst ys}:=by
      have hF:=(rx.s.pf (D,.lst ys)<|by rw[hpr'];exact xAr).2.1;exact⟨λp o z=>by show upd W'.F D _ p=_;rw[bx λy=>by rw[y,hF] at z;cases z];exact z,λ_ _ z=>z⟩
     refine z {W' with pr:=W1.pr,F:=upd W'.F D<|.lst ys} C dx H' ⟨λp o z=>lf'.f p o<|le'.f p o<|lf3.f p o<|le1.f p o z,λp o z=>lf'.m p o<|le'.m p o<|lf3.m p o<|le1.m p o z,le1.r⟩ ⟨rs',rx.c,?_⟩;rcases rx.f with h|⟨d,I,R,h2,h3⟩
     .exact .inl h
     .exact .inr ⟨d,I,R,h2,h3.lf lf'⟩
    have elem:∀{W5:Wd}{S5:So}{H5:Hp},W3.Le W5->RS B W5 S5 H5->a G σ4 S5 (XL B W<|Ex τ) (λu S6=>lcK G bd (I.drop<|i+1) (us++[u]) S6 Kf)->LE B G (λ_=>Ex τ) a τ4 H5 λv H6=>H6 D=some (.lst ys)/\Wi (i+1) (I.length-(i+1)) (ys++[v]) (upd H6 D<|.lst<|ys++[v]):=λ{W5 S5 H5} le5 Z h5=>
     LE.go me Z (rg4.mono le5) (me.m (λ_ _ z=>XL.up le5<|xlw z) (λ_ _ z=>z) h5) λu S6 W6 uu H6 le6 rs6 ru _ h6=>by
      have hpr6:W6.pr=(D,.lst ys)::W1.pr:=(le5.trans le6).r.trans K;refine⟨(rs6.pf _<|by rw[hpr6];exact xAr).1,again hlt (by simp;lia) (W':={W6 with pr:=(D,.lst<|ys++[uu])::W1.pr}) ?_ rfl (rs6.held hpr6 (λ_=>nofun) hne) ?_ h6⟩
      .exact⟨λp o z=>(le5.trans le6).f p o<|lf3.f p o z,λp o z=>(le5.trans le6).m p o<|lf3.m p o z⟩
      .exact(((Y.mono le3).mono<|le5.trans le6).app<|.one ru).lf .pr
    cases to with
    |none=>exact⟨(L.pf _<|by rw[K];exact xAr).1,by rw[xCg rfl];exact elem .refl L h4⟩
    |some t=>
     show LT B G (λ_ _ _ _=>False) t τ4 H3 _;refine LT.go (mt t rfl) L rg4 ((mt t rfl).m (λ_ _ z=>(g.no z).elim) (λ_ _ z=>z) h4) λbb S5 W5 H5 le5 Z rg5 h5=>?_;have h5:=g.bk h5;have hpr5:W5.pr=(D,.lst ys)::W1.pr:=le5.r.trans K;refine⟨(Z.pf _<|by rw[hpr5];exact xAr).1,?_⟩;cases bb with
     |true=>rw[xCg rfl] at h5⊢;exact elem le5 Z h5
     |false=>
      rw[xCf xAy] at h5⊢;exact again hlt () ⟨λp o z=>le5.f p o<|lf3.f p o z,λp o z=>le5.m p o<|lf3.m p o z⟩ hpr5 Z ((Y.mono le3).mono le5) h5
  .have e:i=I.length:=by lia
   subst e;rw[List.drop_length] at hh;refine .inl ⟨wk.stop lf2 J,?_⟩;exact fin le1 lf2 A hne J Y hh
 .exact(g.no R).elim
omit g in
theorem jf{K:xFr}{C:A7}(h:zC3 K C=true):zB5 K C C:=by
 refine⟨h,h,?_⟩;let⟨nm,p,N,bs,bm,k,o,sub,F,m,E,D,A,w,r,q,l,_⟩:=fI h;unfold PySem.W.mroIn PySem.W.clsIn;rw[l];simp
theorem vV{b:A8}{k:Nat}(N:zB0 G u)(hx:∀(Z:A0<|A7×Obj)(E':A4->A5->Prop)(Ex':St->XK),Cat (X.trial Z E') Ex'->FSs (X.trial Z E') B G Ex' body u)(hg:Gl X x)(P:X.mg x=some (.ref cc))(A:∀z,B.mg z=X.mg z)(J:(x==("__debug__":Str))=false)(hF:zB5 X.K cc cc)(w:X.stack=X.env::X.outer)(F:X.env.frame=some X.env.locals) :
  FS X B G Ex (.Try body [.ExceptHandler (some<|.Name x np) none [.Return (some<|.Constant (.bool b) k p1) p2] hpos] [] [] pos) (sTr x (.bl b) u):=by
 erw[<-⟨?_,zJv g N⟩,<-wkS (wg (Dc:=cc) (tb:=λEx'=>LS B G Ex' u) (ts:=LS B G (λ_ _ _ _=>False)<|sR<|cC<|.bl b) (λZ E' Ex' c=>(hx Z E' Ex' c.cat).p) (λe=>sL (pC (X:=X.suite e) g<|f_c (v:=.bl b) (u:=.bl b) u0 λ_=>rfl).p) hg P w F J) λD τ H Q=>?_];let⟨W,O,S,R,Y,h⟩:=Q;refine⟨W,O,S,R,Y,N.m (E:=xcE (LEe B Ex W D)<|hdr x (.bl b) G<|LEe B Ex W D) ⟨λ_ _ z=>z,λ_ _ z=>z,λ_ _ z=>z,λ_ _ z=>z,λL σ1 S1 z W' τ1 C dx H' le M q=>?_⟩ h⟩;have z:hdr x (.bl b) G (LEe B Ex W D) L σ1 S1:=z;unfold hdr at z;cases o:decide (L.cls=x) with
 |false=>rw[o] at z;exact(g.no z).elim
 |true=>
  rw[o] at z;dsimp only at z;have o:=xBe o;let⟨c',l,rfl⟩:=M.c;rw[o,A,P] at l;cases l;exact⟨cc,rfl,hF,λee T I=>⟨W',σ1,S1,M.s.same<|dB I _,q,λW2 v H2 r=>z W2 v H2<|le.trans r⟩⟩
end
end Fx
namespace Fx
open PySem L2
inductive Gd where
 |fn (i np:Nat) (df:List U) (mp:List Bool)|cl (i np:Nat) (df:List U)|xc (fs:List Str)|con (u:U)
structure Ct where
 N:A9
 sc:A0 (Str×NameKind)
 gl:A0 (Str×Gd)
 ms:A0 (Str×Str×Nat×Nat)
 mu:A9
 fl:A9
 bl:A9
 ini:A9
 isc:A9
 inC:A8
 top:A8
noncomputable def Ct.nt(c:Ct):Ct:={c with top:=false}
noncomputable def idx(x:Str):A9->Nat->A3 Nat
 |[],_=>none
 |y::r,i=>if x=y then some i else idx x r (i+1)
noncomputable def okN(x:Str):A8:=!(x==("__debug__":Str))&&!(x==("__classdict__":Str))&&!(x==("__name__":Str))
noncomputable def isV(c:Ct)(x:Str):A8:=match zAt x c.sc with
 |some .local=>true
 |some .cell=>true
 |some .free=>true
 |_=>false
noncomputable def isL(c:Ct)(x:Str):A8:=match zAt x c.sc with
 |some .local=>true
 |some .cell=>true
 |_=>false
def isG(c:Ct)(x:Str):A8:=(match zAt x c.sc with
 |some .globalImplicit=>true
 |_=>false)&&okN x
def vIx(c:Ct)(x:Str):A3 Nat:=if isV c x&&okN x then idx x c.N 0 else none
def lIx(c:Ct)(x:Str):A3 Nat:=if isL c x then idx x c.N 0 else none
def glo(c:Ct)(x:Str):A3 Gd:=if isG c x then zAt x c.gl else none
def isB(c:Ct)(x:Str):A8:=isG c x&&c.bl.any λy=>decide<|y=x
noncomputable def o1{J β:Type}(f:J->β):A3 J->A3 β
 |some a=>some<|f a
 |none=>none
noncomputable def o2{J β γ:Type}(f:J->β->γ):A3 J->A3 β->A3 γ
 |some a,some b=>some<|f a b
 |_,_=>none
noncomputable def o3{J β γ δ:Type}(f:J->β->γ->δ):A3 J->A3 β->A3 γ->A3 δ
 |some a,some b,some c=>some<|f a b c
 |_,_,_=>none
noncomputable def gd{J:Type}(b:A8)(o:A3 J):A3 J:=match b with
 |true=>o
 |false=>none
noncomputable def zJt(m:A8):Operator->A3 Pm
 |.Add=>some (.add m)|.Sub=>some .sub|.Mult=>some .mul|.FloorDiv=>some .fdiv|.Mod=>some .mod|.Pow=>some .pow|_=>none
noncomputable def zFy:CmpOp->A3 Pm
 |.Eq=>some .eq|.NotEq=>some .ne|.Lt=>some .lt|.LtE=>some .le|.Gt=>some .gt|.In=>some .inn|.NotIn=>some .nin|_=>none
noncomputable def zDe:CmpOp->A3 Pm
 |.Lt=>some .lt|.LtE=>some .le|.Gt=>some .gt|_=>none
noncomputable def zBg:A6->A8
 |.Set ..=>false
 |_=>true
noncomputable def zHy(x:Str):A3 String:=if x="int" then some "int" else if x="bool" then some "bool" else if x="str" then some "str" else if x="tuple" then some "tuple" else none
noncomputable def zGg(m:A8)(x:Str):A3 Pm:=if x="len" then some .len else if x="abs" then some .abs else if x="int" then some .int1 else if x="tuple" then some .tupOf else if x="list" then some (.lstOf m) else if x="all" then some .all else none
noncomputable def zHi(x:Str):A3 Pm:=if x="max" then some .max else if x="min" then some .min else none
noncomputable def zIw:Const->A3 Str
 |.str x=>some x
 |_=>none
def zIv:A6->A3 (Str×Nat×Pos)
 |.Constant k j p=>o1 (λx=>(x,j,p))<|zIw k
 |_=>none
def zBu:A0 (A3 A6)->A3 (A9)
 |[]=>some []
 |e::r=>o2 (λx a=>x.1::a) (e.bind zIv)<|zBu r
def zBt(c:Ct):A0 A6->A3 (B1)
 |[]=>some []
 |.Name x _::r=>o2 (λi a=>i::a) (lIx c x)<|zBt c r
 |_=>none
def zF6(c:Ct):A6->A3 (B1×A8)
 |.Name x _=>o1 (λi=>([i],true))<|lIx c x
 |.Tuple b _ _=>o1 (λa=>(a,false))<|zBt c b
 |_=>none
noncomputable def locs:A0 (Str×NameKind)->A9
 |[]=>[]
 |(x,.local)::r=>x::locs r
 |_::r=>locs r
noncomputable def frees:A0 (Str×NameKind)->A9
 |[]=>[]
 |(x,.free)::r=>frees r++[x]
 |_::r=>frees r
def zCk(c:Ct):A9->A3 (B1)
 |[]=>some []
 |x::r=>match zAt x c.sc with
  |some .cell=>o2 (λi a=>i::a) (idx x c.N 0)<|zCk c r
  |_=>none
def zEv(sc:Scope):A8:=decide (sc.kind = .function) && sc.names.all (λp=>match p.2 with
 |.local=>true
 |.free=>true
 |.globalImplicit=>true
 |_=>false)&&zA7 (sc.names.map (·.1))
noncomputable def dflt(a n:Nat)(df:B0):A3<|B0:=if n<=a/\a-n<=df.length then some (df.drop<|df.length-(a-n)) else none
noncomputable def zDz:A6->A8
 |.Call (.Name y _) _ _ _=>y != ("super":Str)
 |.Call ..=>false
 |_=>true
noncomputable def tg1:A6->A8
 |.Tuple ..=>false
 |_=>true
noncomputable def zFp:A6->A8
 |.Tuple ..=>true
 |_=>false
noncomputable def nmE:A6->A3 (Str×Pos)
 |.Name x p=>some (x,p)
 |_=>none
noncomputable def clE:A6->A3 (A6×A0 A6×A0 Keyword×Pos)
 |.Call f b a p=>some (f,b,a,p)
 |_=>none
noncomputable def sole{J:Type}:A0 J->A3 J
 |[x]=>some x
 |_=>none
noncomputable def xcF:A3 Gd->A3 (A9)
 |some (.xc fs)=>some fs
 |_=>none
def vc{e:A6}{r}(h:nmE e=some r):e=.Name r.1 r.2:=by unfold nmE at h;split at h <;> cases h;rfl
def zV{e:A6}{r}(h:clE e=some r):e=.Call r.1 r.2.1 r.2.2.1 r.2.2.2:=by unfold clE at h;split at h <;> cases h;rfl
def pj{J:Type}{l:A0 J}{r}(h:sole l=some r):l=[r]:=by unfold sole at h;split at h <;> cases h;rfl
def uL{g:A3 Gd}{r}(h:xcF g=some r):g=some (.xc r):=by unfold xcF at h;split at h <;> cases h;rfl
structure Hr where
 x:Str
 px:Pos
 b:A8
 k:Nat
 pk:Pos
 pr:Pos
 ph:Pos
noncomputable def cnE:A6->A3 (A8×Nat×Pos)
 |.Constant (.bool b) k p=>some (b,k,p)
 |_=>none
noncomputable def rtS:Stmt->A3 (A6×Pos)
 |.Return (some e) p=>some (e,p)
 |_=>none
def hrE:ExceptHandler->A3 Hr
 |.ExceptHandler ty nm c e=>ty.bind λt=>(nmE t).bind λd=>match nm with
  |none=>(sole c).bind λb=>(rtS b).bind λa=>(cnE a.1).bind λz=>some ⟨d.1,d.2,z.1,z.2.1,z.2.2,a.2,e⟩
  |some _=>none
def zHc(a:A0 ExceptHandler):A3 Hr:=(sole a).bind hrE
def zU{e:A6}{r}(h:cnE e=some r):e=.Constant (.bool r.1) r.2.1 r.2.2:=by unfold cnE at h;split at h <;> cases h;rfl
def yD{e:Stmt}{r}(h:rtS e=some r):e=.Return (some r.1) r.2:=by unfold rtS at h;split at h <;> cases h;rfl
theorem xN{e:A0 ExceptHandler}{k:Hr}(h:zHc e=some k):e=[.ExceptHandler (some<|.Name k.x k.px) none [.Return (some<|.Constant (.bool k.b) k.k k.pk) k.pr] k.ph]:=by
 unfold zHc at h;let⟨⟨ty,nm,c,i⟩,h0,h⟩:=xCi.mp h;rw[pj h0]
 replace h:(ty.bind λt=>(nmE t).bind λd=>match nm with
  |none=>(sole c).bind λb=>(rtS b).bind λa=>(cnE a.1).bind λz=>some (⟨d.1,d.2,z.1,z.2.1,z.2.2,a.2,i⟩:Hr)
  |some _=>none)=some k:=h
 let⟨t,j,h⟩:=xCi.mp h;let⟨d,o,h⟩:=xCi.mp h;cases nm with
 |some _=>cases h
 |none=>
  let⟨b,n,h⟩:=xCi.mp h;let⟨a,m,h⟩:=xCi.mp h;let⟨z,l,h⟩:=xCi.mp h;cases h;rw[j,vc o,pj n,yD m,zU l]
noncomputable def zGd:A3 NameKind->A8
 |some .local=>true
 |_=>false
noncomputable def o3'{J β γ δ:Type}(f:J->β->γ->A3 δ)(a:A3 J)(b:A3 β)(c:A3 γ):A3 δ:=a.bind λx=>b.bind λy=>c.bind λz=>f x y z
def zh{J β γ δ:Type}{f:J->β->γ->A3 δ}{a:A3 J}{b:A3 β}{c:A3 γ}{r:δ}(h:o3' f a b c=some r):∃x y z,a=some x/\b=some y/\c=some z/\f x y z=some r:=by
 unfold o3' at h;let⟨x,i,h⟩:=xCi.mp h;let⟨y,e,h⟩:=xCi.mp h;let⟨z,d,h⟩:=xCi.mp h;exact⟨x,y,z,i,e,d,h⟩
structure Rs where
 x:Str
 px:Pos
 as:A0 A6
 q:Pos
def zGx(e a:A3 A6):A3 Rs:=e.bind λe=>(clE e).bind λc=>(nmE c.1).bind λn=>gd (c.2.2.1.isEmpty&&a.isNone)<|some ⟨n.1,n.2,c.2.1,c.2.2.2⟩
def vZ{e a:A3 A6}{r:Rs}(h:zGx e a=some r):e=some (.Call (.Name r.x r.px) r.as [] r.q)/\a=none:=by
 unfold zGx at h;let⟨i,b,h⟩:=xCi.mp h;let⟨⟨f,j,d,p⟩,h1,h⟩:=xCi.mp h;let⟨n,c,h⟩:=xCi.mp h;unfold gd at h;split at h
 .next z=>
  rw[xCh] at z;cases h;rw[b,zV h1,vc c,List.isEmpty_iff.mp z.1];exact⟨rfl,Option.isNone_iff_eq_none.mp z.2⟩
 .cases h
section
variable{J:Type}
structure Cps(J:Type) where
 E:Ct->A8->A6->A3 (TEx J)
 C:Ct->A8->A6->A0 A6->Pos->A3 (TEx J)
 M:Ct->A6->Str->A0 A6->A3 (TEx J)
 A:Ct->A0 A8->A0 A6->A3 (TAx J)
 T:Ct->A8->A6->A3 (TTx J)
 I:Ct->A8->A6->A3 (TEx J)
def eE(r:Cps J)(c:Ct)(m:A8)(e:A6):A3<|TEx J:=match e with
  |.Name x _=>match vIx c x with
   |some i=>some<|cV i
   |none=>match glo c x with
    |some (.con u)=>some<|cC u
    |_=>none
  |.Constant k _ _=>match k with
   |.int i=>some<|cC<|.int i
   |.str x=>some<|cC<|.str x
   |.bool b=>some<|cC<|.bl b
   |.none=>some<|cC .non
   |_=>none
  |.BinOp a j b _=>o3 (λp x y=>cP p<|zAv x y) (zJt m j) (r.E c false a)<|r.E c false b
  |.UnaryOp j a _=>match j with
   |.Not=>o1 (λt=>cB<|tNt t)<|r.T c true a
   |.USub=>o1 (λx=>cP .neg<|aC x aN)<|r.E c false a
   |_=>none
  |.BoolOp j d p=>o1 cB<|r.T c true<|.BoolOp j d p
  |.Compare a ops bs p=>o1 cB<|r.T c true<|.Compare a ops bs p
  |.IfExp t a b _=>o3 cIf (r.T c false t) (r.E c m a)<|r.E c m b
  |.Tuple v _ _=>gd (Nat.ble v.length 1000)<|o1 cT<|r.A c [] v
  |.List v _=>o1 (cP<|.lst m)<|r.A c [] v
  |.Dict ks d _=>match ks,d with
   |[],[]=>some<|cP (.dct []) aN
   |ks,d=>match zBu ks with
    |some q=>gd (zA7 q&&Nat.ble q.length 15&&Nat.beq q.length d.length)<|o1 (cP<|.dct q)<|r.A c (d.map λ_=>true) d
    |none=>none
  |.Subscript a b _=>match b with
   |.Slice O P none _=>match O,P with
    |some l,none=>o2 (λx y=>cP (.sl m true false)<|zAv x y) (r.E c false a)<|r.E c false l
    |none,some h=>o2 (λx y=>cP (.sl m false true)<|zAv x y) (r.E c false a)<|r.E c false h
    |_,_=>none
   |b=>gd (zB1 b)<|o2 (λx y=>cP .ix<|zAv x y) (r.E c false a)<|r.E c false b
  |.Attribute o f _=>gd (zBr o&&c.fl.any λg=>decide<|g=f)<|o1 (λx=>cP (.fld f)<|aC x aN)<|r.E c false o
  | .ListComp F n sc _=>gd (!m) (match n with
   |[⟨H,it,D,0⟩]=>match zCk c (frees sc.names),zF6 {c with N:=locs sc.names++frees sc.names,sc:=sc.names,inC:=true,top:=false} H,r.I c (tg1 H) it,r.E {c with N:=locs sc.names++frees sc.names,sc:=sc.names,inC:=true,top:=false} false F with
    | some L,some (B,one),some G,some K=>gd (c.top && !c.inC && zEv sc && zBg it && B.all (λk=>Nat.blt k (locs sc.names).length)) (match D with
     |[]=>some (cLx G B one (locs sc.names).length L none K)
     |[t]=>o1 (λt=>cLx G B one (locs sc.names).length L (some t) K) (r.T {c with N:=locs sc.names++frees sc.names,sc:=sc.names,inC:=true,top:=false} false t)
     |_=>none)
    |_,_,_,_=>none
   |_=>none)
  |.Call f M w pos=>match w with
   |[]=>gd (M.all zAb)<|r.C c m f M pos
   |_=>none
  |_=>none
def eC(r:Cps J)(c:Ct)(m:A8)(f:A6)(as:A0 A6)(pos:Pos):A3<|TEx J:=match f with
  |.Name x _=>match glo c x with
   |some (.fn i h l n)=>o2 (λa d=>cF i a d) (r.A c n as)<|dflt h as.length l
   |some (.cl i h l)=>gd (!c.inC)<|o2 (λa d=>cK x i a d) (r.A c [] as)<|dflt h (as.length+1) l
   |some _=>none
   | none=>gd (isB c x) (match as with
    |[a]=>match a with
     |.Call (.Name y _) [b] [] _=>match decide (x="len"),decide (y="set") with
      |true,true=>gd (isB c y&&zAb b) (o1 (λz=>cP .lenset<|aC z aN)<|r.E c false b)
      |_,_=>o2 (λp z=>cP p<|aC z aN) (zGg m x) (r.E c false a)
     |a=>o2 (λp z=>cP p<|aC z aN) (zGg m x) (r.E c false a)
    |[a,b]=>match decide (x="isinstance") with
     |true=>match b with
      |.Name y _=>match zHy y with
       |some t=>gd (isB c y) (o1 (λz=>cP (.isT t)<|aC z aN)<|r.E c false a)
       |none=>none
      |_=>none
     |false=>o3 (λp z w=>cP p<|zAv z w) (zHi x) (r.E c false a) (r.E c false b)
    |_=>none)
  | .Attribute o a k=>gd (k.endLine == pos.line && Nat.blt as.length 29) (match zAt a c.ms with
   |some (C,i,h)=>gd (zDz o) (o3 (λz w d=>cM C a i z w d) (r.E c false o) (r.A c [] as)<|dflt h (as.length+1) [])
   |none=>match o with
    |.Name y _=>match glo c y with
     | some (.con<|.kd j no)=>gd (decide<|a="get") (match as with
      |[e]=>o1 (λz=>cP .get1<|aC (cC<|.kd j no)<|aC z aN) (r.E c false e)
      |[e,d]=>o2 (λz w=>cP .get2<|aC (cC<|.kd j no)<|zAv z w) (r.E c false e) (r.E c false d)
      |_=>none)
     |_=>r.M c o a as
    |o=>r.M c o a as)
  |_=>none
def eM(r:Cps J)(c:Ct)(o:A6)(a:Str)(as:A0 A6):A3<|TEx J:=gd (zBr o) (match as with
  |[e]=>if a="append" then o2 (λz w=>cBM "list" .app z<|aC w aN) (r.E c false o) (r.E c false e)
   else if a="extend" then o2 (λz w=>cBM "list" .ext z<|aC w aN) (r.E c false o) (r.E c false e)
   else if a="join" then o2 (λz w=>cBM "str" .join z<|aC w aN) (r.E c false o) (r.E c false e)
   else none
  |[e,d]=>gd (decide<|a="get") (o3 (λz w v=>cBM "dict" .dget z<|zAv w v) (r.E c false o) (r.E c false e)<|r.E c false d)
  |_=>none)
def eA(r:Cps J)(c:Ct)(m:A0 A8)(es:A0 A6):A3<|TAx J:=match es with
 |[]=>some aN
 |e::q=>gd (zAb e)<|o2 aC (r.E c (m.headD false) e)<|r.A c m.tail q
def eT(r:Cps J)(c:Ct)(h:A8)(e:A6):A3<|TTx J:=match e with
  |.UnaryOp op a _=>match op with
   |.Not=>o1 tNt<|r.T c h a
   |_=>none
  |.BoolOp op j p=>match j with
   |[]=>none
   |[a]=>r.T c h a
   |a::b::q=>match op with
    |.And=>o2 tAn (r.T c h a)<|r.T c h<|.BoolOp .And (b::q) p
    |.Or=>o2 tOr' (r.T c h a)<|r.T c h<|.BoolOp .Or (b::q) p
  |.Compare a ops bs _=>match ops,bs with
   |[op],[b]=>match op,b with
    |.Is,.Constant .none _ _=>o1 (λx=>tB<|cP .isN<|aC x aN)<|r.E c false a
    |op,b=>gd (zBg b)<|o3 (λp x y=>tB<|cP p<|zAv x y) (zFy op) (r.E c false a)<|r.E c false b
   | [p,q],[b,d]=>gd (zBg b && zBg d) (match zDe p,zDe q with
    |some p,some q=>o3 (λx y z=>tCh p q x y z) (r.E c false a) (r.E c false b) (r.E c false d)
    |_,_=>none)
   |_,_=>none
  |.Call f k i p=>o1 tB<|r.E c false<|.Call f k i p
  |_=>none
def eI(r:Cps J)(c:Ct)(one:A8)(e:A6):A3<|TEx J:=match e with
  |.Call (.Name x p) d [] q=>match isB c x&&decide (x="range") with
   |true=>match d with
    |[a]=>gd (zAb a)<|o1 (λz=>cP .rng1<|aC z aN)<|r.E c false a
    |[a,b]=>gd (zAb a&&zAb b)<|o2 (λz w=>cP .rng2<|zAv z w) (r.E c false a)<|r.E c false b
    |_=>none
   |false=>match isB c x&&decide (x="zip") with
    |true=>match d with
     |[a,b]=>gd (!one&&zAb a&&zAb b)<|o2 (λz w=>cP .zip<|zAv z w) (r.E c false a)<|r.E c false b
     |_=>none
    |false=>match isB c x&&decide (x="enumerate") with
      |true=>match d with
       |[a]=>gd (!one&&zAb a)<|o1 (λz=>cP .enm<|aC z aN)<|r.E c false a
       |_=>none
      |false=>o1 (λz=>cP .seq<|aC z aN)<|r.E c false<|.Call (.Name x p) d [] q
  |e=>o1 (λz=>cP .seq<|aC z aN)<|r.E c false e
def cps:Nat->Cps J
 |0=>⟨λ_ _ _=>none,λ_ _ _ _ _=>none,λ_ _ _ _=>none,λ_ _ _=>none,λ_ _ _=>none,λ_ _ _=>none⟩
 |n+1=>⟨eE<|cps n,eC<|cps n,eM<|cps n,eA<|cps n,eT<|cps n,eI<|cps n⟩
def cpE(c:Ct)(n:Nat)(m:A8)(e:A6):A3<|TEx J:=(cps n).E c m e
def cpC(c:Ct)(n:Nat)(m:A8)(f:A6)(as:A0 A6)(pos:Pos):A3<|TEx J:=(cps n).C c m f as pos
def cpM(c:Ct)(n:Nat)(o:A6)(a:Str)(as:A0 A6):A3<|TEx J:=(cps n).M c o a as
def cpA(c:Ct)(n:Nat)(m:A0 A8)(es:A0 A6):A3<|TAx J:=(cps n).A c m es
def cpT(c:Ct)(n:Nat)(a:A8)(e:A6):A3<|TTx J:=(cps n).T c a e
def cpI(c:Ct)(n:Nat)(one:A8)(e:A6):A3<|TEx J:=(cps n).I c one e
noncomputable def sZ:TSx J:=λG _ _ _=>G.fail
def zIt(c:Ct):A6->A3 Nat
 |.Name x _=>if(c.mu.any λy=>decide<|y="!"++x)=true then vIx c x else none
 |_=>none
def zG6(c:Ct)(x y:Str)(e d:Pos)(a b:A6):A8:=!c.inC&&!decide (x=y)&&zGd (zAt x c.sc)&&zGd (zAt y c.sc)&&(d.line==e.line)&&zAb a&&zAb b&&!(foldedForSure 8 a&&foldedForSure 8 b)&&!(constantsAlone 8 a&&constantsAlone 8 b)
noncomputable def zGc:A6->A8
 |.Name ..=>true
 |_=>false
structure Cpt(J:Type) where
 S:Ct->Stmt->A3 (TSx J)
 L:Ct->A0 Stmt->A3 (TSx J)
def eS(n:Nat)(r:Cpt J)(c:Ct)(s:Stmt):A3<|TSx J:=match s with
  |.Pass _=>some sN
  |.Expr e _=>gd (zA0 e)<|o1 sE<|cpE c n false e
  |.Return e _=>match e with
   |some e=>match zIt c e with
    |some i=>some<|sR<|cP .frz<|aC (cV i) aN
    |none=>o1 sR<|cpE c n false e
   |none=>none
  |.If t a b _=>o3 sI (cpT c n false t) (r.L c a)<|r.L c b
  |.For d it b orelse _=>match orelse with
   |[]=>match zF6 c d with
    |some (A,one)=>gd (zBg it&&(one||zFp d))<|o2 (λz w=>sF z A one w) (cpI c n (tg1 d) it)<|r.L c.nt b
    |none=>none
   |_=>none
  |.Assign k e _=>match k with
   | [d]=>gd (zA0 e || zGc d) (match d with
    |.Name x _=>o2 sA (lIx c x) (cpE c n (c.mu.any λy=>decide<|x=y) e)
    |.Tuple m _ _=>match zFp e with
     |false=>o2 sU (zBt c m) (cpE c n false e)
     |true=>match m,e with
      |[.Name x q,.Name y p],.Tuple [a,b] _ _=>gd (zG6 c x y q p a b) (o3' (λi j a=>o1 (λb=>sPr i j a b)<|cpE c n false b) (lIx c x) (lIx c y)<|cpE c n false a)
      |_,_=>none
    |.Attribute o f _=>gd (c.fl.any λg=>decide<|g=f) (o2 (λz w=>sP (.setf f) w<|aC z aN) (cpE c n false o)<|cpE c n true e)
    |.Subscript o i _=>gd (zB1 i) (o3 (λz w v=>sP .seti v<|zAv z w) (cpE c n false o) (cpE c n false i)<|cpE c n true e)
    |_=>none)
   |_=>none
  |.Raise e C _=>(zGx e C).bind λu=>(xcF<|glo c u.x).bind λfs=>match fs with
   |[]=>gd u.as.isEmpty<|some<|sX u.x [] aN
   |_=>none
  |.Try b B orelse l _=>match zHc B with
   |some h=>gd (orelse.isEmpty&&l.isEmpty)<|(xcF<|glo c h.x).bind λfs=>gd fs.isEmpty<|o1 (λt=>sTr h.x (.bl h.b) t)<|r.L c.nt b
   |none=>none
  |_=>none
def eL(r:Cpt J)(c:Ct)(a:A0 Stmt):A3<|TSx J:=match a with
 |[]=>some sN
 |s::q=>o2 sQ (some<|(r.S c s).getD sZ)<|r.L c q
def cpt:Nat->Cpt J
 |0=>⟨λ_ _=>none,λ_ _=>none⟩
 |n+1=>⟨eS n<|cpt n,eL<|cpt n⟩
def cpS(c:Ct)(n:Nat)(s:Stmt):A3<|TSx J:=(cpt n).S c s
def zFx(c:Ct)(n:Nat)(a:A0 Stmt):A3<|TSx J:=(cpt n).L c a
end
end Fx
namespace Fx
open PySem PySem.Spec L2
open PyProof.Rows hiding St
variable{J β γ:Type}{o tg e:A6}{apos pos py spos:Pos}{env:Env}{x y:Str}{is:B1}{s:A5}{H:Hp}{fp:A0 A7}{vs:B0}{S S':So}{v:U}{op:CmpOp}{p:Pm}{n fw:Nat}{kk:A9}{as:A0 A6}{st:Stmt}{t:B5}{r:Row}{fd:FuncData}{B:Bs}
def c7{f:J->β}{o:A3 J}{b:β}(h:o1 f o=some b):∃a,o=some a/\b=f a:=by cases o <;> cases h;exact⟨_,rfl,rfl⟩
def dj{f:J->β->γ}{o:A3 J}{p:A3 β}{b:γ}(h:o2 f o p=some b):∃x y,o=some x/\p=some y/\b=f x y:=by cases o <;> cases p <;> cases h;exact⟨_,_,rfl,rfl,rfl⟩
def iP{δ:Type}{f:J->β->γ->δ}{o:A3 J}{p:A3 β}{q:A3 γ}{b:δ}(h:o3 f o p q=some b):∃x y z,o=some x/\p=some y/\q=some z/\b=f x y z:=by cases o <;> cases p <;> cases q <;> cases h;exact⟨_,_,_,rfl,rfl,rfl,rfl⟩
theorem cO{b:A8}{o:A3 J}{x:J}(h:gd b o=some x):b=true/\o=some x:=by
 cases b with
 |true=>exact⟨rfl,h⟩
 |false=>cases h
theorem iX{x:Str}:∀{l:A9}{i j:Nat},idx x l i=some j->i<=j/\l[j-i]?=some x
 |[],_,_,h=>by cases h
 |y::r,i,j,h=>by
  unfold idx at h;split at h
  .next e=>cases h;exact⟨xAg _,by rw[Nat.sub_self,e];rfl⟩
  .let⟨b,a⟩:=iX h;exact⟨(),by rw[show j-i=(j-(i+1))+1 by lia];simpa using a⟩
def tZ{m:Str}{es:A0 A6}(d:attributeBase o m env (eval o env)=eval o env)(a:es.all zAb=true)(h:es.length<29)(b:(apos.endLine == pos.line)=true):∃pl,eval (.Call (.Attribute o m apos) es [] pos) env=(do
   let ov <- eval o env
   standAt apos.atName
   let (f,first) <- holding [ov] (getMethod ov m pl)
   callWith pos f first (backTo pos<|starEach es env) (backToKw pos<|keywordEach [] env)):=by
 have c:methodCallForm (es.length+([]:A0 Keyword).length) (backTo pos<|starEach es env) (backToKw pos<|keywordEach [] env)=true:=by
  unfold methodCallForm;rw[jm a];simp[keywordEach,backToKw];lia
 refine⟨do return (<- importBound o env).getD true,?_⟩;rw[show eval (.Call (.Attribute o m apos) es [] pos) env=(do
  let ov <- attributeBase o m env (eval o env)
  standAt apos.atName
  methodCall o m apos pos env ov (es.length+([]:A0 Keyword).length) (backTo pos<|starEach es env) (backToKw pos<|keywordEach [] env)) from rfl,d]
 unfold methodCall methodCallPos calleeOf;rw[c,b];rfl
set_option tactic.hygienic true
def uF{m:Str}{x:Sem A4}(h:zDz o=true):attributeBase o m env x=x:=by
 cases o <;> try rfl
 rename_i f as ks p
 cases f <;> try (cases h;done)
 rename_i y q
 have a:(y != ("super":Str))=true:=h;cases as <;> cases ks <;> try rfl
 unfold attributeBase;dsimp only;rw[xCg<|by rw[a];rfl]
set_option tactic.hygienic false
structure Fc(P:Program)(w:World)(base:Heap)(B:Bs)(up:A0 (Str×Str))(G:B9)(lv:Nat)(c:Ct):Prop where
 g:zBw up G
 fn:∀{x i np df mp},zAt x c.gl=some (.fn i np df mp)->∃f fd ps,B.mg x=some (.ref f)/\PySem.W.keepIn B.K (.ref f)=true/\zA9 P w B.K B.mg base (CXo P w) lv f fd ps (spF B G i np)/\(∀{n ds},dflt np n df=some ds->n+ds.length=np/\∃dvs dv,zAy B.K fd ps dv/\zAk dvs dv/\∀W,Rvs B W ds dvs)
 cl:∀{x i np df},zAt x c.gl=some (.cl i np df)->∃cc f fd ps,B.cl x cc/\B.mg x=some (.ref cc)/\Mk B.K cc f/\zA9 P w B.K B.mg base (CXo P w) lv f fd ps (spF B G i np)/\(∀{n ds},dflt np n df=some ds->n+ds.length=np/\∃dvs dv,zAy B.K fd ps dv/\zAk dvs dv/\∀W,Rvs B W ds dvs)
 ms:∀{m C i np},zAt m c.ms=some (C,i,np)->∃cc f fd ps,(∀c',B.cl C c'->c'=cc)/\Cls B.K cc/\zEp B.K cc m f/\zA9 P w B.K B.mg base (CXo P w) lv f fd ps (spF B G i np)/\zAy B.K fd ps []
 con:∀{x u},zAt x c.gl=some (.con u)->∃v val,B.mg x=some val/\zAi v val/\∀W,Rv B W u v
 x0:∀{x},zAt x c.gl=some (.xc [])->∃cc,B.mg x=some (.ref cc)/\PySem.W.excIn B.K cc bmV "ValueError.__new__"=true/\zC3 B.K cc=true/\PySem.W.keepIn B.K (.ref cc)=true
 bl:∀{x},x∈c.bl->B.mg x=none
 k1:zCw B "int"
 k2:zCw B "bool"
 k3:zCw B "str"
 k4:zCw B "tuple"
 clf:ClF B c.fl
 clt:ClT B
 kdf:KdF w B
structure Cok(P:Program)(w:World)(base:Heap)(B:Bs)(lv:Nat)(c:Ct)(X:Cx):Prop where
 hP:X.prog=P
 hw:X.w=w
 hK:X.K=B.K
 hM:X.mg=B.mg
 hb:X.base=base
 N:X.N=c.N
 nd:X.N.Nodup
 vis:∀{x},isV c x=true->Vis X.env.scope x
 loc:∀{x},isL c x=true->Loc X.env.scope x/\(X.fn x=true\/X.env.scope.names.lookup x=some .local)
 lc:∀{x},zAt x c.sc=some .local->X.env.kindOf x=some .local
 gl:∀{x},isG c x=true->Gl X x
 calm:X.calm=true
 hr:zBc (lv+1) X.A
 bk:c.inC=false->X.env.blockKind=.function
 cap:c.inC=false->∀{x},zAt x c.sc=some .cell->X.env.scope.names.lookup x=some .cell/\∃a,X.env.cells.lookup x=some a
section
variable{P:Program}{w:World}{base:Heap}{B:Bs}{up:A0<|Str×Str}{G:B9}{lv:Nat}{c:Ct}{X:Cx}{Ex:St->XK}
theorem Cok.f{k:Nat}{f:A7}{fd:FuncData}{b:A9}{sp:Sp}(a:Cok P w base B lv c X)(F:zA9 P w B.K B.mg base (CXo P w) k f fd b sp):zA9 X.prog X.w X.K X.mg X.base (CXo X.prog X.w) k f fd b sp:=by
 rw[a.hP,a.hw,a.hK,a.hM,a.hb];exact F
def dQ(h:isG c x=true):okN x=true:=by unfold isG at h;rw[xCh] at h;exact h.2
def dD(h:okN x=true):(x==("__debug__":Str))=false/\(x==("__classdict__":Str))=false/\x≠"__name__":=by
 simp only[okN,xCh,Bool.not_eq_true'] at h;exact⟨h.1.1,h.1.2,λz=>by have:=h.2;rw[z] at this;simp at this⟩
def fR{d:Gd}(h:glo c x=some d):isG c x=true/\zAt x c.gl=some d:=by
 unfold glo at h;split at h
 .next e=>exact⟨e,h⟩
 .cases h
def fj(h:isB c x=true):isG c x=true/\x∈c.bl:=by
 unfold isB at h;rw[xCh] at h;let⟨y,a,e⟩:=xCy.mp h.2;exact⟨h.1,by rw[<- xBe e];exact a⟩
def vI{i:Nat}(k:Cok P w base B lv c X)(h:vIx c x=some i):X.N[i]?=some x/\Vis X.env.scope x/\okN x=true:=by
 unfold vIx at h;split at h
 .next e=>
  rw[xCh] at e;let⟨_,a⟩:=iX h;exact⟨by rw[k.N];simpa using a,k.vis e.1,e.2⟩
 .cases h
def gz{i:Nat}(k:Cok P w base B lv c X)(h:lIx c x=some i):X.N[i]?=some x/\Loc X.env.scope x/\(X.fn x=true\/X.env.scope.names.lookup x=some .local):=by
 unfold lIx at h;split at h
 .next e=>
  let⟨_,a⟩:=iX h;exact⟨by rw[k.N];simpa using a,k.loc e⟩
 .cases h
set_option tactic.hygienic true
theorem zBa(k:Cok P w base B lv c X):∀{es:A0 A6}{is:B1},zBt c es=some is->es.length=is.length/\∀(j:Nat)(e:A6),es[j]?=some e->∃x p i,e=.Name x p/\is[j]?=some i/\X.N[i]?=some x/\Loc X.env.scope x/\(X.fn x=true\/X.env.scope.names.lookup x=some .local)
 |[],is,h=>by cases h;exact⟨rfl,λj e z=>by simp at z⟩
 |e::es,is,h=>by
  cases e <;> try (cases h;done)
  rename_i x p
  let⟨i,a,d,b,rfl⟩:=dj<|show o2 _ (lIx c x) (zBt c es)=_ from h;let⟨l,q⟩:=zBa k b;refine⟨by simp[l],λj e z=>?_⟩;cases j with
  |zero=>simp at z;subst z;exact⟨x,p,i,rfl,rfl,gz k d⟩
  |succ j=>simpa using q j e (by simpa using z)
set_option tactic.hygienic false
def oX{one:A8}(k:Cok P w base B lv c X)(h:zF6 c tg=some (is,one)):FG X B G tg is one/\(one=true->is.length=1):=by
 cases tg <;> try (cases h;done)
 .let⟨i,j,e⟩:=c7<|show o1 _ _=_ from h;cases e;let⟨a,b,d⟩:=gz k j;exact⟨AO k.nd a b d,λ_=>rfl⟩
 .let⟨i,j,e⟩:=c7<|show o1 _ _=_ from h;cases e;let⟨l,q⟩:=zBa k j;exact⟨AN k.hK k.calm k.nd q l,nofun⟩
theorem cq{J:Type}{x:Str}:∀{l:A0<|Str×J},zAt x l=l.lookup x
 |[]=>rfl
 |(y,v)::r=>by
  unfold zAt;rw[List.lookup_cons];by_cases e:x=y
  .rw[xCg e,e];simp
  .rw[xCf e,beq_false_of_ne e];exact cq
theorem dl{env:Env}:∀{a:A0<|Str×NameKind}{x:Str},a.lookup x=some .globalImplicit ->
  (a.map λ(n,k)=>if(k==NameKind.free&&env.scope.kind == .function&&env.kindOf n==some .cell) then(n,NameKind.cell) else(n,k)).lookup x=some .globalImplicit
 |[],_,h=>by simp at h
 |(n,k)::r,x,h=>by
  have b:=@dl env r x;show List.lookup x ((if(k==NameKind.free&&env.scope.kind == .function&&env.kindOf n==some .cell)=true then(n,NameKind.cell) else(n,k))::_)=_;cases hx:x==n with
  |true=>
   simp only[List.lookup_cons,hx] at h;cases h;simp[hx,List.lookup_cons]
  |false=>
   simp only[List.lookup_cons,hx] at h;split <;> simp only[List.lookup_cons,hx] <;> exact b h
theorem kY{env:Env}:∀{l:A0<|Str×NameKind},(∀y,(y,NameKind.free)∈l->∃a,env.cells.lookup y=some a)->∀acc:A0<|Str×A7,∃cl,(forIn l acc λ(p:Str×NameKind) (cs:A0<|Str×A7)=>(do
   if(p.2==NameKind.free)=true then do
    let a <- cellOf env p.1
    pure (ForInStep.yield<|(p.1,a)::cs)
   else pure (ForInStep.yield cs):Sem<|ForInStep<|A0<|Str×A7))=pure (cl++acc)/\cl.map (·.1)=frees l/\∀q∈cl,env.cells.lookup q.1=some q.2
 |[],_,acc=>⟨[],rfl,rfl,λ_ h=>nomatch h⟩
 |(y,k)::r,h,acc=>by
  by_cases e:k=.free
  .subst e;let⟨a,m⟩:=h y xAr;let⟨cl,j,i,d⟩:=kY (l:=r) (λz b=>h z<|xAs _ b)<|(y,a)::acc;refine⟨cl++[(y,a)],?_,by rw[xAi,i];rfl,λq hq=>?_⟩
   .rw[List.forIn_cons,xAx,show[(y,a)]++acc=(y,a)::acc from rfl,<- j];simp only[cellOf,m];rfl
   .rcases xAj.mp hq with hq|hq
    .exact d q hq
    .rw[xAm.mp hq];exact m
  .let⟨cl,j,i,d⟩:=kY (l:=r) (λz b=>h z<|xAs _ b) acc;refine⟨cl,?_,by rw[i];cases k <;> first|rfl|exact absurd rfl e,d⟩;rw[List.forIn_cons,<- j];simp only[show(k==NameKind.free)=false from beq_false_of_ne e];rfl
def kX{scope:Scope}(h:∀y,(y,NameKind.free)∈scope.names->∃a,env.cells.lookup y=some a):∃cl,closureFor scope env=pure cl/\cl.map (·.1)=frees scope.names/\∀q∈cl,env.cells.lookup q.1=some q.2:=by
 let⟨cl,b,i,d⟩:=kY h [];refine⟨cl,?_,i,d⟩;rw[xB0] at b;have:=congrArg (λz:Sem<|A0<|Str×A7=>z>>=λr=>pure r) b;exact this
theorem jK{x:Str}:∀{l:A0<|Str×NameKind},x∈locs l↔(x,NameKind.local)∈l
 |[]=>by simp[locs]
 |(y,k)::r=>by cases k <;> simp[locs,jK (l:=r)]
theorem ej{x:Str}:∀{l:A0<|Str×NameKind},x∈frees l↔(x,NameKind.free)∈l
 |[]=>by simp[frees]
 |(y,k)::r=>by cases k <;> simp[frees,ej (l:=r),or_comm]
theorem iR{y:Str}{k:NameKind}:∀{l:A0<|Str×NameKind},(l.map (·.1)).Nodup->(y,k)∈l->l.lookup y=some k
 |[],_,h=>nomatch h
 |(z,b)::r,a,h=>by
  rw[xBs,xCb] at a;rw[List.lookup_cons];rcases xAv.mp h with e|h
  .cases e;simp
  .have:y≠z:=λe=>a.1 (by rw[<- e];exact xA2.mpr ⟨_,h,rfl⟩);rw[beq_false_of_ne this];exact iR a.2 h
theorem jG:∀{l:A0<|Str×NameKind},(l.map (·.1)).Nodup->(locs l++frees l).Nodup
 |[],_=>xC7
 |(z,k)::r,d=>by
  rw[xBs,xCb] at d;have i:=jG d.2;have m:z∉locs r:=λh=>d.1<|xA2.mpr ⟨_,jK.mp h,rfl⟩;have j:z∉frees r:=λh=>d.1<|xA2.mpr ⟨_,ej.mp h,rfl⟩;cases k <;> try exact i
  .show(z::(locs r++frees r)).Nodup;exact xCb.mpr ⟨λh=>(xAj.mp h).elim m j,i⟩
  .show(locs r++(frees r++[z])).Nodup;rw[<- xAx];refine xBq.mpr ⟨i,⋯,λa A b q=>?_⟩;rw[xAm.mp q];rintro rfl
   exact(xAj.mp A).elim m j
theorem rN(k:Cok P w base B lv c X)(l:c.inC=false){scope:Scope}{cl:A0<|Str×A7}(d:∀q∈cl,X.env.cells.lookup q.1=some q.2)(b:∀y,(y,NameKind.free)∈scope.names->scope.names.lookup y=some .free) :
  ∀{fs:A9}{cs:B1},(∀y∈fs,(y,NameKind.free)∈scope.names/\∃a,cl.lookup y=some a)->zCk c fs=some cs->Paired (zCe X scope cl) fs cs
 |[],cs,_,h=>by cases h;exact .nil
 |y::fs,cs,j,h=>by
  unfold zCk at h;split at h <;> try (cases h;done)
  next e=>
   let⟨i,is,F,E,rfl⟩:=dj h;let⟨D,a,m⟩:=j y xAr;let⟨_,C⟩:=iX F;exact .cons ⟨⟨a,m,d _<|c9 m⟩,by rw[k.N];simpa using C,(k.cap l e).1,b y D⟩<|rN k l d b (λz A=>j z<|xAs _ A) E
theorem j8:∀{fs:A9}{cs:B1},zCk c fs=some cs->∀y∈fs,zAt y c.sc=some .cell
 |[],cs,_,y,hy=>nomatch hy
 |z::fs,cs,h,y,hy=>by
  unfold zCk at h;split at h <;> try (cases h;done)
  next e=>
   let⟨i,is,b,a,rfl⟩:=dj h;rcases xAv.mp hy with rfl|hy
   .exact e
   .exact j8 a y hy
noncomputable def cty(c:Ct)(sc:Scope):Ct:={c with N:=locs sc.names++frees sc.names,sc:=sc.names,inC:=true,top:=false}
def Fc.re{sc:Scope}(F:Fc P w base B up G lv c):Fc P w base B up G lv<|cty c sc:=⟨F.g,F.fn,F.cl,F.ms,F.con,F.x0,F.bl,F.k1,F.k2,F.k3,F.k4,F.clf,F.clt,F.kdf⟩
def zG5{X:Cx}:zA3 (CXo X.prog X.w) X λ_ _ _ _=>False:=λZ O H s b a I z=>by let⟨_,_,_,_,_,_,_,_,_,_,_,_,_,h⟩:=z;exact h.elim
structure Pz(c:Ct)(X:Cx)(Ex:St->XK):Prop where
 pass:zA3 (CXo X.prog X.w) X Ex
 cat:c.top=true->zAo X Ex
structure Cz(c:Ct)(X:Cx)(Ex:St->XK):Prop where
 ca:Cat X Ex
 t:c.top=true->zAo X Ex
def Cz.pz(h:Cz c X Ex):Pz c X Ex:=⟨h.ca.pass,h.t⟩
def pzF{sc:Scope}:Pz (cty c sc) X λ_ _ _ _=>False:=⟨zG5,nofun⟩
theorem Fc.nt(F:Fc P w base B up G lv c):Fc P w base B up G lv c.nt:=⟨F.g,F.fn,F.cl,F.ms,F.con,F.x0,F.bl,F.k1,F.k2,F.k3,F.k4,F.clf,F.clt,F.kdf⟩
theorem Cok.nt(k:Cok P w base B lv c X):Cok P w base B lv c.nt X:=⟨k.hP,k.hw,k.hK,k.hM,k.hb,k.N,k.nd,k.vis,k.loc,k.lc,k.gl,k.calm,k.hr,k.bk,k.cap⟩
def mf{sc:Scope}(h:zEv sc=true):sc.kind=.function/\(sc.names.map (·.1)).Nodup/\∀y k,(y,k)∈sc.names->k=.local\/k=.free\/k=.globalImplicit:=by
 simp only[zEv,xCh,xCx] at h;refine⟨xBe h.1.1,dZ h.2,λy k a=>?_⟩;have:=h.1.2 _ a;cases k <;> simp_all
def rK{sc:Scope}{cl:A0<|Str×A7}{C:A7}(k:Cok P w base B lv c X)(h:zEv sc=true):Cok P w base B lv (cty c sc)<|zCs X (locs sc.names++frees sc.names) sc cl C s H fp:=by
 let⟨j,i,d⟩:=mf h;refine⟨k.hP,k.hw,k.hK,k.hM,k.hb,rfl,jG i,λ{x} a=>?_,λ{x} a=>?_,λ{x} a=>lookup_relabel_local (by rw[<- cq];exact a),λ{x} a=>?_,k.calm,k.hr,nofun,nofun⟩
 .unfold isV at a;rw[cq] at a;split at a <;> try (cases a;done)
  .next e=>exact .inl (lookup_relabel_local e)
  .next e=>rcases d _ _ (c9 e) with z|z|z <;> cases z
  .next e=>exact .inr (dn e)
 .unfold isL at a;rw[cq] at a;split at a <;> try (cases a;done)
  .next e=>exact⟨.inl<|lookup_relabel_local e,.inr<|lookup_relabel_local e⟩
  .next e=>rcases d _ _ (c9 e) with z|z|z <;> cases z
 .unfold isG at a;rw[xCh,cq] at a;have b:=a.1;split at b
  .next e=>exact dl e
  .cases b
def oE{sc:Scope}{cl:A0<|Str×A7}{C:A7}{E:A4->A5->Prop}(k:Cok P w base B lv c X)(h:zEv sc=true):Cok P w base B lv (cty c sc)<|zAd E X (locs sc.names++frees sc.names) sc cl C s H fp:=by
 have a:=rK (cl:=cl) (C:=C) (s:=s) (H:=H) (fp:=fp) k h;exact⟨a.hP,a.hw,a.hK,a.hM,a.hb,a.N,a.nd,a.vis,a.loc,a.lc,a.gl,a.calm,a.hr,a.bk,a.cap⟩
def uB{sc:Scope}{cs:B1}(k:Cok P w base B lv c X)(j:c.inC=false)(h:zEv sc=true)(d:zCk c (frees sc.names)=some cs):∃cl,zB4 X sc cl (locs sc.names) (frees sc.names) cs:=by
 let⟨F,l,E⟩:=mf h;let⟨cl,A,i,m⟩:=kX (scope:=sc) (env:=X.env) λy b=>(k.cap j<|j8 d y<|ej.mpr b).2;have D:∀y∈frees sc.names,∃a,cl.lookup y=some a:=λy b=>by
  rw[<- i] at b;let⟨q,hq,rfl⟩:=xA2.mp b;clear A i m b;induction cl with
  |nil=>cases hq
  |cons p r C=>
   rw[List.lookup_cons];by_cases e:q.1==p.1
   .rw[e];exact⟨_,rfl⟩
   .rw[Bool.eq_false_iff.mpr e];rcases xAv.mp hq with rfl|hq
    .simp at e
    .exact C hq
 exact⟨cl,zB4.mk' A (λy b e=>by rcases E y.1 y.2 b with z|z|z <;> rw[e] at z <;> cases z) F (λy b e=>iR l<|by rw[<- e];exact b) (rN k j m (λy b=>iR l b) (λy b=>⟨ej.mp b,D y b⟩) d) (λy b e=>ej.mpr<|by rw[<- e];exact b) i⟩
end
section
variable{B:Bs}{up:A0<|Str×Str}{G:B9}{Ex:St->XK}{a b d:B6}{X:Cx}{e ea eb ec:A6}{pos p1:Pos}{j:Nat}(g:zBw up G)
def qT{f:Int->Int->A8}{z:U}(h:i2 (λi j=>.bl<|f i j) S vs=.ok z S'):∃c,z=.bl c:=by
 let⟨i,j,_,rfl,_⟩:=mS h;exact⟨_,rfl⟩
def x9{f:A8->A8}{w:U}{z:U}(h:Fx.eqU f v w S=.ok z S'):∃c,z=.bl c:=by
 unfold Fx.eqU at h;split at h
 .cases h;exact⟨_,rfl⟩
 .split at h
  .cases h;exact⟨_,rfl⟩
  .split at h
   .cases h;exact⟨_,rfl⟩
   .cases h
def xo{w:U}{z:U}(h:Fx.neU v w S=.ok z S'):∃c,z=.bl c:=by
 unfold Fx.neU at h;split at h
 .cases h;exact⟨_,rfl⟩
 .split at h
  .cases h;exact⟨_,rfl⟩
  .split at h
   .cases h;exact⟨_,rfl⟩
   .cases h
def qy{f:A8->A8}{o:A3 A8}{z:U}(h:obB o f S=.ok z S'):∃c,z=.bl c:=by
 unfold obB at h;split at h
 .cases h;exact⟨_,rfl⟩
 .cases h
def unmarked(h:zBg eb=true):behindInMarks op eb=false:=by cases eb <;> first|rfl|cases h
include g
theorem yg(l:X.K=B.K)(m:X.A.units+100<cLine)(h:zFy op=some p)(q:zBg eb=true)(F:FE X B G Ex ea a)(E:FE X B G Ex eb b) :
  FT X B G Ex (.Compare ea [op] [eb] pos) (tB<|cP p<|zAv a b)/\FE X B G Ex (.Compare ea [op] [eb] pos) (cB<|tB<|cP p<|zAv a b):=by
 have i:∀{r:R2},OpR X (compareOp op) r->Pr2 B up p r->(∀v w S z S',pr up p [v,w] S=.ok z S'->∃c,z=.bl c)->FT X B G Ex (.Compare ea [op] [eb] pos) (tB<|cP p<|zAv a b)/\FE X B G Ex (.Compare ea [op] [eb] pos) (cB<|tB<|cP p<|zAv a b):=λD C I=>
  ⟨zO g D C I F E<|unmarked q,xX g<|xW g D C F E<|unmarked q⟩
 have k:X.A.units+1<cLine:=()
 cases op <;> cases h
 .exact i (AA m) (by rw[l];exact Ax) λ_ _ _ _ _=>x9
 .exact i (Ay m) Au λ_ _ _ _ _=>xo
 .exact i u6 yZ λ_ _ _ _ _=>qT
 .exact i u7 y4 λ_ _ _ _ _=>qT
 .exact i va y6 λ_ _ _ _ _=>qT
 .exact i (Az k) (by rw[l];exact Aw) λ_ _ _ _ _=>qy
 .exact i (ze k) (by rw[l];exact yT) λ_ _ _ _ _=>qy
omit g in
theorem pK{f:Int->Int->V}{x y:V}{Q Q':VK}(h:∀v H,Q v H->Q' v H)(q:rI0 f x y H Q):rI0 f x y H Q':=by
 let⟨i,j,k,c,q⟩:=q;exact⟨i,j,k,c,h _ _ q⟩
omit g in
theorem qt(h:zDe op=some p):∃f,OpR X (compareOp op) (rI0 f)/\Pr2 B up p (rI0 f):=by
 cases op <;> cases h
 .exact⟨_,u6,yZ⟩
 .exact⟨_,u7,y4⟩
 .exact⟨_,va,y6⟩
theorem zW{c:CmpOp}{q:Pm}(h:zDe op=some p)(h':zDe c=some q)(C:zBg ec=true)(A:FE X B G Ex ea a)(w:FE X B G Ex eb b)(m:FE X B G Ex ec d) :
  FT X B G Ex (.Compare ea [op,c] [eb,ec] pos) (tCh p q a b d)/\FE X B G Ex (.Compare ea [op,c] [eb,ec] pos) (cB<|tCh p q a b d):=by
 let⟨f,o1,k⟩:=qt (X:=X) (B:=B) (up:=up) h;let⟨D,o2,i⟩:=qt (X:=X) (B:=B) (up:=up) h';have l:lastMarks [op,c] [eb,ec]=false:=unmarked (op:=c) C;exact⟨AR g o1 o2 k i A w m l,zP g o1 o2 k i A w m l (λ_ _ _ _ h=>h) pK pK⟩
theorem qQ{f:A8->A8}(R:∀v S,pr up p [v] S=.ok (.bl<|f<|match v with|.non=>true|_=>false) S)(F:OpR X (compareOp op) λx y H Q=>y=.non/\Q (.bl<|f<|decide<|x=.non) H)(Z:op≠.In)(T:op≠.NotIn)(l:FE X B G Ex ea a) :
  FT X B G Ex (.Compare ea [op] [.Constant .none j p1] pos) (tB<|cP p<|aC a aN)/\FE X B G Ex (.Compare ea [op] [.Constant .none j p1] pos) (cB<|tB<|cP p<|aC a aN):=by
 have I:behindInMarks op (.Constant .none j p1)=false:=rfl;have E:=mP g (p:=p)<|mAC g l.m<|mAN g;have one:∀{W:Wd}{v:U}{u:V},Rv B W v u->(match v with|.non=>true|_=>false)=decide (u=.non):=λ{W v u} r=>by
  cases v with
  |non=>rw[show u=.non from r];rfl
  |bl b=>rw[show u=.bl b from r];rfl
  |int i=>rw[show u=.int i from r];rfl
  |str i=>rw[show u=.str i from r];rfl
  |ty i=>rw[show u=.ty i from r];rfl
  |tup A=>let⟨p,vs,rfl,_⟩:=r;rfl
  |lst A=>let⟨p,vs,rfl,_⟩:=r;rfl
  |kt A=>let⟨p,vs,rfl,_⟩:=r;rfl
  |kl A=>let⟨p,vs,rfl,_⟩:=r;rfl
  |kd P no=>let⟨p,rfl,_⟩:=r;rfl
  |ref a=>let⟨p,rfl,_⟩:=r;rfl
  |gl x=>let⟨p,rfl,_⟩:=r;rfl
 have c:∀{τ:St}{H:Hp}{Q:VK},LE B G Ex (cP p<|aC a aN) τ H Q->LE B G Ex a τ H (λx H1=>Q (.bl<|f<|decide<|x=.non) H1):=λh=>(LE.p1 g l.m h).imp l.m λu H1 K=>by
  let⟨W,S,v,z,S',D,r1,e,q⟩:=K;rw[R] at e;cases e;rw[<- one r1];exact q.here D rfl
 have Y:FE X B G Ex (.Compare ea [op] [.Constant .none j p1] pos)<|cP p<|aC a aN:=⟨wkE (md F l.p kK I) λτ H Q h=>(c h).imp l.m λu H1 q=>⟨rfl,q⟩,E⟩
 refine⟨⟨wkT (lP F l.p kK I) λτ H Q h=>?_,mB g E⟩,xX g Y⟩;have w:LE B G Ex (cP p<|aC a aN) τ H λx H'=>∃k,x=.bl k/\Q k H':=by
  let⟨W,O,S,D,N,h⟩:=h;refine LE.go E D N h λv S' W' u H' le C L M w=>?_;cases v <;> first|(exact(g.no w).elim)|exact⟨_,L,w W' H' le C⟩
 exact(c w).imp l.m λu H1 q=>⟨rfl,q⟩
end
section
variable{P:Program}{w:World}{base:Heap}{B:Bs}{up:A0<|Str×Str}{G:B9}{lv:Nat}{c:Ct}{X:Cx}{Ex:St->XK}{a b:B6}{ea eb:A6}{p1 pos:Pos}{x:Str}{m:A8}{p:Pm}
def rQ(F:Fc P w base B up G lv c)(k:Cok P w base B lv c X)(h:zGg m x=some p)(E:isB c x=true)(A:zAb ea=true)(I:FE X B G Ex ea a):FE X B G Ex (.Call (.Name x p1) [ea] [] pos)<|cP p<|aC a aN:=by
 have g:=F.g;let⟨D,K⟩:=fj E;let⟨i,_,d⟩:=dD<|dQ D;have q:=k.gl D;have l:X.mg x=none:=by rw[k.hM];exact F.bl K
 have fa:FA X B G Ex [ea]<|aC a aN:=eY g I (gG g) A;have j:[ea].all zAb=true:=by rw[xCj,A];rfl
 have C:=k.hK;unfold zGg at h;split at h
 .next e=>subst e;cases h;exact rh g yF (by rw[C];exact y3) q l (by decide +kernel) fa j d i
 split at h
 .next e=>subst e;cases h;exact rh g rP zb q l (by decide +kernel) fa j d i
 split at h
 .next e=>subst e;cases h;exact xZ g uz wQ q l (by decide +kernel) fa j d i
 split at h
 .next e=>subst e;cases h;exact xZ g rH (by rw[C];exact tH) q l (by decide +kernel) fa j d i
 split at h
 .next e=>subst e;cases h;exact xZ g uw (by rw[C];exact tI) q l (by decide +kernel) fa j d i
 split at h
 .next e=>subst e;cases h;exact rh g (ye k.calm) (by rw[C];exact y9) q l (by decide +kernel) fa j d i
 .cases h
def yi(F:Fc P w base B up G lv c)(k:Cok P w base B lv c X)(h:zHi x=some p)(I:isB c x=true)(i:zAb ea=true)(d:zAb eb=true)(K:FE X B G Ex ea a)(j:FE X B G Ex eb b):FE X B G Ex (.Call (.Name x p1) [ea,eb] [] pos)<|cP p<|zAv a b:=by
 have g:=F.g;let⟨E,L⟩:=fj I;let⟨q,_,l⟩:=dD<|dQ E;have D:=k.gl E;have C:X.mg x=none:=by rw[k.hM];exact F.bl L
 have fa:FA X B G Ex [ea,eb]<|zAv a b:=eY g K (eY g j (gG g) d) i;have A:[ea,eb].all zAb=true:=by rw[xCj,xCj,i,d];rfl
 unfold zHi at h;split at h
 .next e=>subst e;cases h;exact rh g (oG k.calm) yY D C (by decide +kernel) fa A l q
 .split at h
  .next e=>subst e;cases h;exact rh g (oF k.calm) yX D C (by decide +kernel) fa A l q
  .cases h
def xG(F:KdF w B):Pr2 B up .ix<|zFd w B.K:=Av λ{W q h no x v H Q} hd i q=>by
 let⟨u,val,k,j,e3⟩:=F.y hd i;exact .inr ⟨_,_,u,val,rfl,F.d hd,rfl,k,j,q u<|e3 W⟩
def zFw{d:Nat}{i:B0}(h:dflt d n []=some i):i=[]/\n=d:=by
 unfold dflt at h;split at h
 .next e=>cases h;exact⟨⋯,by have:=e.1;have:=e.2;simp at this;lia⟩
 .cases h
end
structure Snd(P:Program)(w:World)(base:Heap)(B:Bs)(up:A0 (Str×Str))(G:B9)(lv n:Nat):Prop where
 E:∀{c X Ex m e t},Fc P w base B up G lv c->Cok P w base B lv c X->Pz c X Ex->cpE c n m e=some t->FE X B G Ex e t
 C:∀{c X Ex m f as pos t},Fc P w base B up G lv c->Cok P w base B lv c X->Pz c X Ex->as.all zAb=true->cpC c n m f as pos=some t->FE X B G Ex (.Call f as [] pos) t
 M:∀{c X Ex o a as apos pos t},Fc P w base B up G lv c->Cok P w base B lv c X->Pz c X Ex->as.all zAb=true->(apos.endLine==pos.line)=true->cpM c n o a as=some t->FE X B G Ex (.Call (.Attribute o a apos) as [] pos) t
 A:∀{c X Ex m es t},Fc P w base B up G lv c->Cok P w base B lv c X->Pz c X Ex->cpA c n m es=some t->FA X B G Ex es t/\(es=[]->t=aN)/\es.all zAb=true
 D:∀{c X Ex m es t ks kk pos},Fc P w base B up G lv c->Cok P w base B lv c X->Pz c X Ex->cpA c n m es=some t->zBu ks=some kk->kk.length=es.length->FP X B G Ex pos ks kk es t
 T:∀{c X Ex vl e t},Fc P w base B up G lv c->Cok P w base B lv c X->Pz c X Ex->cpT c n vl e=some t->FT X B G Ex e t/\(vl=true->FE X B G Ex e (cB t))/\∀op vs p,e=Expr.BoolOp op vs p->FW X B G Ex e t
 I:∀{c X Ex one tg e t},Fc P w base B up G lv c->Cok P w base B lv c X->Pz c X Ex->(one=false->∃ts k p,tg=Expr.Tuple ts k p)->cpI c n one e=some t->FI X B G Ex tg e t
section
variable{P:Program}{w:World}{base:Heap}{B:Bs}{up:A0<|Str×Str}{G:B9}{lv n:Nat}{c:Ct}{X:Cx}{Ex:St->XK}
def zCj{t:J}{p:Prop}(h:(none:A3 J)=some t):p:=by cases h
def zJn:Snd P w base B up G lv 0:=
 ⟨λ_ _ _ h=>zCj h,λ_ _ _ _ h=>zCj h,λ_ _ _ _ _ h=>zCj h,λ_ _ _ h=>zCj h,λ_ _ _ h _ _=>zCj h,λ_ _ _ h=>zCj h,λ_ _ _ _ h=>zCj h⟩
theorem AX{m:A0 A8}{es:A0 A6}{t:B'}(s:Snd P w base B up G lv n)(F:Fc P w base B up G lv c)(k:Cok P w base B lv c X)(a:Pz c X Ex)(h:cpA c (n+1) m es=some t):FA X B G Ex es t/\(es=[]->t=aN)/\es.all zAb=true:=by
 cases es with
 |nil=>cases h;exact⟨gG F.g,λ_=>rfl,rfl⟩
 |cons e r=>
  let⟨b,q⟩:=cO<|show gd (zAb e) (o2 aC (cpE c n (m.headD false) e)<|cpA c n m.tail r)=_ from h;let⟨x,y,l,j,rfl⟩:=dj q;let⟨i,_,d⟩:=s.A F k a j;exact⟨eY F.g (s.E F k a l) i b,nofun,by rw[xCj,b,d];rfl⟩
def qN{a:A3 A6}{r:A0<|A3 A6}(h:zBu (a::r)=some kk):∃z j p b,a=some (.Constant (.str z) j p)/\zBu r=some b/\kk=z::b:=by
 let⟨x,k,m,l,rfl⟩:=dj h;let⟨e,rfl,i⟩:=xCi.mp m;unfold zIv at i;split at i
 .let⟨y,d,rfl⟩:=c7 i;unfold zIw at d;split at d
  .cases d;exact⟨_,_,_,k,rfl,l,rfl⟩
  .cases d
 .cases i
theorem iU:∀{ks:A0<|A3 A6}{kk:A9},zBu ks=some kk->ks.length=kk.length/\ks.all (·.isSome)=true
 |[],kk,h=>by cases h;exact⟨rfl,rfl⟩
 |a::r,kk,h=>by
  let⟨z,j,p,b,rfl,d,rfl⟩:=qN h;let⟨k,i⟩:=iU d;exact⟨by simp[k],by rw[xCj,i];rfl⟩
theorem AU{m:A0 A8}{es:A0 A6}{t:B'}{ks:A0<|A3 A6}(s:Snd P w base B up G lv n)(F:Fc P w base B up G lv c)(k:Cok P w base B lv c X)(i:Pz c X Ex)(h:cpA c (n+1) m es=some t)(d:zBu ks=some kk)(b:kk.length=es.length):FP X B G Ex pos ks kk es t:=by
 cases es with
 |nil=>
  cases h;cases kk with
  |cons _ _=>cases b
  |nil=>
   have:=(iU d).1;cases ks with
   |nil=>exact AH F.g
   |cons a r=>simp at this
 |cons e r=>
  let⟨L,K⟩:=cO<|show gd (zAb e) (o2 aC (cpE c n (m.headD false) e)<|cpA c n m.tail r)=_ from h;let⟨x,y,I,C,rfl⟩:=dj K;cases ks with
  |nil=>cases d;cases b
  |cons a l=>
   let⟨z,j,p,q,rfl,A,rfl⟩:=qN d;exact AI F.g (s.E F k i I) (s.D F k i C A<|by simpa using b)
end
section
variable{P:Program}{w:World}{base:Heap}{B:Bs}{up:A0<|Str×Str}{G:B9}{lv n:Nat}{c:Ct}{X:Cx}{Ex:St->XK}
def AB{a:Str}{t:B6}(s:Snd P w base B up G lv n)(F:Fc P w base B up G lv c)(k:Cok P w base B lv c X)(d:Pz c X Ex)(b:as.all zAb=true)(q:(apos.endLine==pos.line)=true)(h:cpM c (n+1) o a as=some t):FE X B G Ex (.Call (.Attribute o a apos) as [] pos) t:=by
 have g:=F.g;change eM (cps n) _ _ _ _=_ at h;unfold eM at h;let⟨m,h⟩:=cO h;split at h
 .next e=>
  rw[xCj,xCh] at b;split at h
  .next l=>
   subst l;let⟨z,v,j,i,rfl⟩:=dj h;exact rj g k.hK PySem.F.plainAttrs_list PySem.F.slot_list_append PySem.F.type_list_append hX y8 (.inl rfl) (s.E F k d j) (s.E F k d i) m b.1 q
  split at h
  .next l=>
   subst l;let⟨z,v,j,i,rfl⟩:=dj h;exact rj g k.hK PySem.F.plainAttrs_list PySem.F.slot_list_extend PySem.F.type_list_extend n9 y7 (.inl rfl) (s.E F k d j) (s.E F k d i) m b.1 q
  split at h
  .next l=>
   subst l;let⟨z,v,j,i,rfl⟩:=dj h;exact rj g k.hK PySem.F.plainAttrs_str PySem.F.slot_str_join PySem.F.type_str_join tW (by rw[k.hK];exact wP) (.inr<|.inl rfl) (s.E F k d j) (s.E F k d i) m b.1 q
  .cases h
 .let⟨D,C⟩:=cO h;cases xBe D;let⟨z,v,y,j,i,A,rfl⟩:=iP C;rw[xCj,xCh,xCj,xCh] at b;exact zQ g k.hK PySem.F.plainAttrs_dict PySem.F.slot_dict_get PySem.F.type_dict_get (tX (by have:=k.hr.un;lia)) wS (.inr<|.inr rfl) (s.E F k d j) (s.E F k d i) (s.E F k d A) m b.1 b.2.1 q
 .cases h
set_option tactic.hygienic true
def Ah{O:A8}{t:TTx Prop}(s:Snd P w base B up G lv n)(F:Fc P w base B up G lv c)(k:Cok P w base B lv c X)(C:Pz c X Ex)(h:cpT c (n+1) O e=some t):FT X B G Ex e t/\(O=true->FE X B G Ex e (cB t))/\∀op vs p,e=Expr.BoolOp op vs p->FW X B G Ex e t:=by
 have g:=F.g;have R:X.A.units+100<cLine:=by have:=k.hr.un;lia
 change eT (cps n) _ _ _=_ at h;unfold eT at h;cases e <;> dsimp only at h <;> try (cases h;done)
 case UnaryOp op a p=>
  cases op <;> dsimp only at h <;> try (cases h;done)
  let⟨x,l,rfl⟩:=c7 h;let⟨i,q2,_⟩:=s.T F k C l;exact⟨AJ g i,λv=>q0 g (q2 v) i.m,nofun⟩
 case BoolOp op vs p=>
  match vs,h with
  |[],h=>cases h
  |[a],h=>
   let⟨i,q2,_⟩:=s.T F k C h;cases op with
   |And=>exact⟨(vx i).ft,λv=>vz<|q2 v,λ_ _ _ _=>vx i⟩
   |Or=>exact⟨(vw i).ft,λv=>vz<|q2 v,λ_ _ _ _=>vw i⟩
  |a::b::r,h=>
   cases op with
   |And=>
    let⟨x,y,l,D,rfl⟩:=dj h;let⟨i,q2,_⟩:=s.T F k C l;let⟨K,I,q5⟩:=s.T F k C D;exact⟨(zD g i<|q5 _ _ _ rfl).ft,λv=>x8 g (q2 v) i.m (I v) K.m,λ_ _ _ _=>zD g i<|q5 _ _ _ rfl⟩
   |Or=>
    let⟨x,y,l,D,rfl⟩:=dj h;let⟨i,q2,_⟩:=s.T F k C l;let⟨K,I,q5⟩:=s.T F k C D;exact⟨(zC g i<|q5 _ _ _ rfl).ft,λv=>zI g (q2 v) i.m (I v) K.m,λ_ _ _ _=>zC g i<|q5 _ _ _ rfl⟩
 case Compare a ops bs p=>
  match ops,bs,h with
  |[],_,h=>cases h
  |[op],[],h=>cases h
  |[op],[b],h=>
   dsimp only at h;split at h
   .next j q=>
    let⟨x,l,rfl⟩:=c7 h;let⟨i,q2⟩:=qQ g (p:=.isN) (f:=id) (j:=j) (p1:=q) (pos:=p) (λv S=>by cases v <;> rfl) wU nofun nofun<|s.E F k C l;exact⟨i,λ_=>q2,nofun⟩
   .let⟨l,D⟩:=cO h;let⟨pm,x,y,N,M,L,rfl⟩:=iP D;let⟨i,q2⟩:=yg g (pos:=p) k.hK R N l (s.E F k C M)<|s.E F k C L;exact⟨i,λ_=>q2,nofun⟩
  |[op],_::_::_,h=>cases h
  |[p1,p2],[b,d],h=>
   dsimp only at h;let⟨l,D⟩:=cO h;rw[xCh] at l;split at D
   .next pm Z Y W=>
    let⟨x,y,z,N,M,L,rfl⟩:=iP D;let⟨i,q2⟩:=zW g (pos:=p) Y W l.2 (s.E F k C N) (s.E F k C M)<|s.E F k C L;exact⟨i,λ_=>q2,nofun⟩
   .cases D
  |[_,_],[],h=>cases h
  |[_,_],[_],h=>cases h
  |[_,_],_::_::_::_,h=>cases h
  |_::_::_::_,_,h=>cases h
 case Call f as Q p=>
  let⟨x,l,rfl⟩:=c7 h;have q:=s.E F k C l;exact⟨zE g q λ_=>rfl,λ_=>xX g q,nofun⟩
set_option tactic.hygienic false
end
section
variable{P:Program}{w:World}{base:Heap}{B:Bs}{up:A0<|Str×Str}{G:B9}{lv n:Nat}{c:Ct}{X:Cx}{Ex:St->XK}
set_option tactic.hygienic true
def AE{one:A8}{t:B6}(s:Snd P w base B up G lv n)(F:Fc P w base B up G lv c)(k:Cok P w base B lv c X)(i:Pz c X Ex)(C:one=false->∃ts k p,tg=Expr.Tuple ts k p)(h:cpI c (n+1) one e=some t):FI X B G Ex tg e t:=by
 have g:=F.g;have bl:∀{x y:Str},(isB c x&&decide (x=y))=true->x=y/\Gl X y/\X.mg y=none:=λ{x y} h=>by
  rw[xCh] at h;cases xBe h.2;let⟨a,d⟩:=fj h.1;exact⟨rfl,k.gl a,by rw[k.hM];exact F.bl d⟩
 change eI (cps n) _ _ _=_ at h;unfold eI at h;split at h
 .next x p as q=>
  split at h
  .next m=>
   let⟨rfl,l,j⟩:=bl m;split at h
   .let⟨a,d⟩:=cO h;let⟨z,b,rfl⟩:=c7 d;exact xR g l j (s.E F k i b) a
   .let⟨a,d⟩:=cO h;rw[xCh] at a;let⟨z,v,b,A,rfl⟩:=dj d;exact xQ g l j (s.E F k i b) (s.E F k i A) a.1 a.2
   .cases h
  split at h
  .next m=>
   let⟨rfl,l,j⟩:=bl m;split at h
   .let⟨a,d⟩:=cO h;rw[xCh,xCh] at a;let⟨z,v,b,A,rfl⟩:=dj d;let⟨ts,kk,D,rfl⟩:=C (by simpa using a.1.1);exact zB g k.hK l j (s.E F k i b) (s.E F k i A) a.1.2 a.2
   .cases h
  split at h
  .next m=>
   let⟨rfl,l,j⟩:=bl m;split at h
   .let⟨a,d⟩:=cO h;rw[xCh] at a;let⟨z,b,rfl⟩:=c7 d;let⟨ts,kk,D,rfl⟩:=C (by simpa using a.1);exact zM g l j (s.E F k i b) a.2
   .cases h
  .let⟨z,b,rfl⟩:=c7 h;exact vy g k.hK<|s.E F k i b
 .let⟨z,b,rfl⟩:=c7 h;exact vy g k.hK<|s.E F k i b
set_option tactic.hygienic false
def oW(h:tg1 tg=false):∃ts k p,tg=Expr.Tuple ts k p:=by
 cases tg <;> first|exact⟨_,_,_,rfl⟩|cases h
set_option tactic.hygienic true
def vh{m:A8}{d:A6}{a:A0 Comprehension}{sc:Scope}{p:Pos}{t:B6}(s:Snd P w base B up G lv n)(F:Fc P w base B up G lv c)(k:Cok P w base B lv c X)(A:Pz c X Ex)(h:eE (cps n) c m (.ListComp d a sc p)=some t):FE X B G Ex (.ListComp d a sc p) t/\∀{i:Nat}{y:Str}{py spos:Pos},X.N.Nodup->X.N[i]?=some y->X.env.scope.names.lookup y=some .local->swapsWith (.ListComp d a sc p) (some<|.Name y py) spos.line X.env=pure true->FS X B G Ex (.Assign [.Name y py] (.ListComp d a sc p) spos) (sA i t):=by
 have g:=F.g;unfold eE at h;dsimp only at h
 replace h:=(cO h).2
 split at h
 .next tg it ifs=>
  split at h
  .next cs is one ti te e1 e2 e3 e4=>
   let⟨M,l⟩:=cO h;simp only[xCh,Bool.not_eq_true'] at M;let⟨⟨⟨⟨j,hc⟩,hok⟩,hns⟩,his⟩:=M;let⟨cl,cp⟩:=uB k hc hok e1;have ck:∀C b H fp E,Cok P w base B lv (cty c sc)<|zAd E X (locs sc.names++frees sc.names) sc cl C b H fp:=λ_ _ _ _ _=>oE k hok;have Y:=λO C b H fp E z=>s.E (Ex:=λ_=>Ex O) F.re (ck C b H fp E) ⟨z,nofun⟩ e4;have R:=λC b H fp E=>oX (G:=G) (ck C b H fp E) e2;have D:=ck 0 X.s₀ X.H₀ [] λ_ _=>False;have K:=(s.E F.re D pzF e4).m;have h1:=(oX (G:=G) D e2).2;have L:∀kk∈is,kk<(locs sc.names).length:=λkk hk=>xCo<|xCx.mp his kk hk;have Q:∀v,foldedSetIterable it X.env v=pure v:=λv=>by cases it <;> first|rfl|cases hns
   have W:FI X B G Ex tg it ti:=s.I F k A (λz=>oW z) e3;split at l
   .cases l;exact vA g h1 L k.calm (A.cat j) cp W (λC b H fp E=>(R C b H fp E).1) Y (.inl ⟨rfl,rfl⟩) Q K
   .next q=>
    let⟨tt,Z,rfl⟩:=c7 l;exact vA g h1 L k.calm (A.cat j) cp W (λC b H fp E=>(R C b H fp E).1) Y (.inr ⟨q,tt,rfl,rfl,(s.T F.re D pzF Z).1.m,λC b H fp E=>(s.T F.re (ck C b H fp E) pzF Z).1⟩) Q K
   .cases l
  .cases h
 .cases h
def AS{m:A8}{t:B6}(s:Snd P w base B up G lv n)(F:Fc P w base B up G lv c)(k:Cok P w base B lv c X)(I:Pz c X Ex)(h:cpE c (n+1) m e=some t):FE X B G Ex e t:=by
 have g:=F.g;have O:=k.hK;have hu:X.A.units+1<cLine:=by have:=k.hr.un;lia
 change eE (cps n) _ _ _=_ at h;unfold eE at h;cases e <;> dsimp only at h <;> try (cases h;done)
 case Name x p=>
  split at h
  .next i hi=>
   cases h;let⟨a,b,d⟩:=vI k hi;let⟨d1,d2,_⟩:=dD d;exact f_v g a b d1 d2
  .split at h
   .next u hq=>
    cases h;let⟨R,Y⟩:=fR hq;let⟨v,val,m1,r1,r2⟩:=F.con Y;exact f_c (iH (k.gl R) (by rw[k.hM];exact m1) r1 (dD<|dQ R).1) r2
   .cases h
 case Constant kk j p=>
  split at h <;> try (cases h;done)
  .cases h;exact f_c wK λ_=>rfl
  .cases h;exact f_c qf λ_=>rfl
  .cases h;exact f_c u0 λ_=>rfl
  .cases h;exact f_c kK λ_=>rfl
 case BinOp a op b p=>
  let⟨pm,x,y,l,K,L,rfl⟩:=iP h;have N:=s.E F k I K;have M:=s.E F k I L;cases op <;> cases l
  .exact ox g zf (by rw[O];exact za) N M
  .exact ox g wW yR N M
  .exact ox g (OpR.or tO tN) yV N M
  .exact ox g wZ yW N M
  .exact ox g wX yS N M
  .exact ox g qv wR N M
 case UnaryOp op a p=>
  cases op <;> dsimp only at h <;> try (cases h;done)
  .let⟨x,l,rfl⟩:=c7 h;let⟨R,Y,_⟩:=s.T F k I l;exact q0 g (Y rfl) R.m
  .let⟨x,l,rfl⟩:=c7 h;exact AG g vJ yU<|s.E F k I l
 case BoolOp op vs p=>
  let⟨x,l,rfl⟩:=c7 h;exact(s.T F k I l).2.1 rfl
 case Compare a ops bs p=>
  let⟨x,l,rfl⟩:=c7 h;exact(s.T F k I l).2.1 rfl
 case IfExp q a b p=>
  let⟨x,y,z,l,K,L,rfl⟩:=iP h;exact AM g (s.T F k I l).1 (s.E F k I K)<|s.E F k I L
 case Tuple es kk p=>
  let⟨l,K⟩:=cO h;let⟨x,L,rfl⟩:=c7 K;exact zF g (s.A F k I L).1<|xCo l
 case List es p=>
  let⟨x,L,rfl⟩:=c7 h;exact zJ g (s.A F k I L).1
 case Dict ks vs p=>
  split at h
  .cases h;exact AQ g
  .next Z=>
   split at h
   .next kk hk=>
    let⟨l,K⟩:=cO h;let⟨x,L,rfl⟩:=c7 K;rw[xCh,xCh] at l;have W:=Nat.eq_of_beq_eq_true l.2;let⟨k1,k2⟩:=iU hk;refine zN g (s.D F k I L hk W) l.1.1 W (k1.trans W) k2 (λz=>?_)<|xCo l.1.2;subst z;have:vs=[]:=by
     have:=k1.trans W;exact List.eq_nil_of_length_eq_zero (by simpa using this.symm)
    exact Z rfl this
   .cases h
 case Subscript a b p=>
  split at h
  .split at h
   .let⟨x,y,l,K,rfl⟩:=dj h;exact zG g O (s.E F k I l)<|s.E F k I K
   .let⟨x,y,l,K,rfl⟩:=dj h;exact zH g O (s.E F k I l)<|s.E F k I K
   .cases h
  .let⟨l,K⟩:=cO h;let⟨x,y,L,h4,rfl⟩:=dj K;exact AK g (Ae hu) (by rw[O,k.hw];exact xG F.kdf) (s.E F k I L) (s.E F k I h4)<|pX l
 case Attribute o f p=>
  let⟨l,K⟩:=cO h;let⟨x,L,rfl⟩:=c7 K;rw[xCh] at l;let⟨y,hy,e⟩:=xCy.mp l.2;cases xBe e;exact zL g O F.clf hy (s.E F k I L) l.1
 case Call f as kws p=>
  split at h
  .let⟨l,K⟩:=cO h;exact s.C F k I l K
  .cases h
 case ListComp elt Q sc p=>exact(vh s F k I<|show eE (cps n) c m (.ListComp elt Q sc p)=some t from h).1
def AW{m:A8}{f:A6}{t:B6}(s:Snd P w base B up G lv n)(F:Fc P w base B up G lv c)(k:Cok P w base B lv c X)(q:Pz c X Ex)(j:as.all zAb=true)(h:cpC c (n+1) m f as pos=some t):FE X B G Ex (.Call f as [] pos) t:=by
 have g:=F.g;have K:=k.hK;have hr:zBc lv X.A:=k.hr.mono<|Nat.le_succ _;change eC (cps n) _ _ _ _ _=_ at h;unfold eC at h;cases f <;> dsimp only at h <;> try (cases h;done)
 case Name x p=>
  split at h
  .next i np df mp e=>
   let⟨O,Y⟩:=fR e;let⟨a,d,l,D,rfl⟩:=dj h;let⟨f,fd,ps,R,kp,FO,hd⟩:=F.fn Y;let⟨L,dvs,dv,N,T,b3⟩:=hd D;let⟨A1,A2,_⟩:=s.A F k q l;exact xY g (k.f FO) hr (k.gl O) (by rw[k.hM];exact R) (by rw[K];exact kp) (by rw[K];exact N) T b3 q.pass (dD<|dQ O).1 A1 A2 L j
  .next i np df e=>
   let⟨O,Y⟩:=fR e;let⟨_,h⟩:=cO h;let⟨a,d,l,D,rfl⟩:=dj h;let⟨cc,f,fd,ps,c1,R,mk,FO,hd⟩:=F.cl Y;let⟨L,dvs,dv,N,T,b3⟩:=hd D;let⟨A1,A2,_⟩:=s.A F k q l;exact xT g c1 (by rw[K];exact mk) (k.f FO) k.hr (k.gl O) (by rw[k.hM];exact R) (by rw[K];exact N) T b3 (dD<|dQ O).1 A1 A2 L j
  .cases h
  .let⟨hb,h⟩:=cO h;split at h
   .next a=>
    rw[xCj,xCh] at j;split at h
    .next y _ b _=>
     split at h
     .next L e2=>
      cases xBe L;cases xBe e2;let⟨l,D⟩:=cO h;rw[xCh] at l;let⟨z,I,rfl⟩:=c7 D;let⟨W,a2⟩:=fj hb;let⟨N,T⟩:=fj l.1;exact rf g k.calm (k.gl W) (by rw[k.hM];exact F.bl a2) (k.gl N) (by rw[k.hM];exact F.bl T) (s.E F k q I) l.2
     .let⟨pm,z,l,D,rfl⟩:=dj h;exact rQ F k l hb j.1<|s.E F k q D
    .let⟨pm,z,l,D,rfl⟩:=dj h;exact rQ F k l hb j.1<|s.E F k q D
   .next a b=>
    rw[xCj,xCh,xCj,xCh] at j;split at h
    .next L=>
     cases xBe L;let⟨W,a2⟩:=fj hb;have z1:X.mg "isinstance"=none:=by rw[k.hM];exact F.bl a2
     split at h
     .next y py=>
      split at h
      .next ty Q=>
       let⟨l,D⟩:=cO h;let⟨z,I,rfl⟩:=c7 D;let⟨N,T⟩:=fj l;have z2:X.mg y=none:=by rw[k.hM];exact F.bl T
       let⟨n1,_,n2⟩:=dD<|dQ N;unfold zHy at Q;split at Q
       .next e=>subst e;cases Q;exact m9 g K F.clt F.k1 (k.gl W) z1 (k.gl N) z2 (by decide +kernel) n2 n1 (s.E F k q I) j.1
       split at Q
       .next e=>subst e;cases Q;exact m9 g K F.clt F.k2 (k.gl W) z1 (k.gl N) z2 (by decide +kernel) n2 n1 (s.E F k q I) j.1
       split at Q
       .next e=>subst e;cases Q;exact m9 g K F.clt F.k3 (k.gl W) z1 (k.gl N) z2 (by decide +kernel) n2 n1 (s.E F k q I) j.1
       split at Q
       .next e=>subst e;cases Q;exact m9 g K F.clt F.k4 (k.gl W) z1 (k.gl N) z2 (by decide +kernel) n2 n1 (s.E F k q I) j.1
       .cases Q
      .cases h
     .cases h
    .let⟨pm,z,v,l,D,I,rfl⟩:=iP h;exact yi F k l hb j.1 j.2.1 (s.E F k q D)<|s.E F k q I
   .cases h
 case Attribute o a apos=>
  let⟨l,h⟩:=cO h;rw[xCh] at l;have h29:as.length<29:=xCo l.2;split at h
  .next C i np e=>
   let⟨D,h⟩:=cO h;let⟨z,v,d,I,h4,h5,rfl⟩:=iP h;let⟨rfl,L⟩:=zFw h5;let⟨cc,f,fd,ps,u1,cls,Z,FO,bd⟩:=F.ms e;let⟨A1,A2,_⟩:=s.A F k q h4;exact xS g u1 (by rw[K];exact cls) (by rw[K];exact Z) (k.f FO) hr (by rw[K];exact bd) .nil (λ_=>rfl) q.pass (s.E F k q I) A1 A2 L j<|tZ (uF D) j h29 l.1
  .split at h
   .next y py=>
    split at h
    .next kvs no e=>
     let⟨D,h⟩:=cO h;cases xBe D;let⟨O,Y⟩:=fR e;let⟨v,val,R,r1,r2⟩:=F.con Y;let⟨pp,rfl,hd⟩:=r2 ⟨λ_=>none,[],[]⟩;rw[show val=.ref pp from r1] at R;have kf:KdF X.w B:=by rw[k.hw];exact F.kdf
     split at h
     .next L=>
      rw[xCj,xCh] at j;let⟨z,I,rfl⟩:=c7 h;exact xV g K kf hd (k.gl O) (by rw[k.hM];exact R) (dD<|dQ O).1 (s.E F k q I) j.1 l.1
     .next L e2=>
      rw[xCj,xCh,xCj,xCh] at j;let⟨z,v,I,h4,rfl⟩:=dj h;exact xU g K kf hd (k.gl O) (by rw[k.hM];exact R) (dD<|dQ O).1 (s.E F k q I) (s.E F k q h4) j.1 j.2.1 l.1
     .cases h
    .exact s.M F k q j l.1 h
   .exact s.M F k q j l.1 h
set_option tactic.hygienic false
theorem snd:∀n,Snd P w base B up G lv n
 |0=>zJn
 |n+1=>⟨AS<|snd n,AW<|snd n,AB<|snd n,AX<|snd n,AU<|snd n,Ah<|snd n,AE<|snd n⟩
end
structure zHm(P:Program)(w:World)(base:Heap)(B:Bs)(up:A0 (Str×Str))(G:B9)(lv n:Nat):Prop where
 S:∀{c X Ex s t},Fc P w base B up G lv c->Cok P w base B lv c X->Cz c X Ex->cpS c n s=some t->FS X B G Ex s t
 L:∀{c X Ex s t},Fc P w base B up G lv c->Cok P w base B lv c X->Cz c X Ex->zFx c n s=some t->FSs X B G Ex s t
section
variable{P:Program}{w:World}{base:Heap}{B:Bs}{up:A0<|Str×Str}{G:B9}{lv n:Nat}{c:Ct}{X:Cx}{Ex:St->XK}
theorem Cok.lp(k:Cok P w base B lv c X):Cok P w base B lv c X.lp:=⟨k.hP,k.hw,k.hK,k.hM,k.hb,k.N,k.nd,k.vis,k.loc,k.lc,k.gl,k.calm,k.hr,k.bk,k.cap⟩
theorem Cok.trial{Z:A0<|A7×Obj}{E:A4->A5->Prop}(k:Cok P w base B lv c X):Cok P w base B lv c<|X.trial Z E:=⟨k.hP,k.hw,k.hK,k.hM,k.hb,k.N,k.nd,k.vis,k.loc,k.lc,k.gl,k.calm,k.hr,k.bk,k.cap⟩
def vO{one:A8}(h:zF6 c tg=some (is,one)):one=true->is.length=1:=by
 cases tg <;> try (cases h;done)
 .let⟨i,a,e⟩:=c7<|show o1 _ _=_ from h;cases e;exact λ_=>rfl
 .let⟨i,a,e⟩:=c7<|show o1 _ _=_ from h;cases e;exact nofun
def sB(g:zBw up G):FS X B G Ex st sZ:=⟨λ_ _ _ _ _ _ ⟨_,_,_,_,_,h⟩=>(g.no h).elim,⟨λ_ h=>(g.no h).elim⟩⟩
set_option tactic.hygienic true
def uk{i:Nat}(h:zIt c e=some i):∃x p,e=.Name x p/\vIx c x=some i:=by
 cases e <;> try (cases h;done)
 next x p=>
 change(if _ then vIx c x else none)=_ at h;split at h
 .exact⟨x,p,rfl,h⟩
 .cases h
set_option tactic.hygienic false
def Ag{p:Pos}{i:Nat}(F:Fc P w base B up G lv c)(k:Cok P w base B lv c X)(h:vIx c x=some i)(a:Pz c X Ex):FE X B G Ex (.Name x p)<|cV i:=(snd 1).E (m:=false) F k a (by show(match vIx c x with|some i=>some (cV i)|none=>_)=_;rw[h])
set_option tactic.hygienic true
theorem xu{m:A8}{t:B6}{i:Nat}(F:Fc P w base B up G lv c)(k:Cok P w base B lv c X)(C:Pz c X Ex)(D:zA0 e=false)(h:cpE c n m e=some t)(j:X.N[i]?=some y)(I:Loc X.env.scope y)(E:X.fn y=true\/X.env.scope.names.lookup y=some .local):FS X B G Ex (.Assign [.Name y py] e spos)<|sA i t:=by
 cases n with
 |zero=>cases h
 |succ n=>
  cases e <;> try (cases D;done)
  .next b a sc p=>
   let⟨A,l⟩:=vh (snd n) F k C<|show eE (cps n) c m (.ListComp b a sc p)=some t from h;have d:swapsWith (.ListComp b a sc p) (some<|.Name y py) spos.line X.env=pure (X.env.blockKind==ScopeKind.function&&X.env.kindOf y==some NameKind.local&&py.line==p.line&&!sc.names.any λq=>q.1==y&&(q.2==NameKind.local||q.2==NameKind.cell)):=rfl;cases hb:(X.env.blockKind==ScopeKind.function&&X.env.kindOf y==some NameKind.local&&py.line==p.line&&!sc.names.any λq=>q.1==y&&(q.2==NameKind.local||q.2==NameKind.cell)) with
   |false=>exact uV F.g A k.nd j I (d.trans<|by rw[hb]) E
   |true=>
    refine l k.nd j ?_ (d.trans<|by rw[hb]);simp only[xCh] at hb;exact eq_of_beq hb.1.1.2
  .cases h
  .cases h
set_option tactic.hygienic false
def qR{o:A3 NameKind}(h:zGd o=true):o=some .local:=by
 unfold zGd at h;split at h
 .rfl
 .cases h
def wO{m pt pp:Pos}{l d:A6}{i j kt kk:Nat}{a b:B6}(g:zBw up G)(F:Fc P w base B up G lv c)(k:Cok P w base B lv c X)(h:zG6 c x y m py l d=true)(e1:lIx c x=some i)(Z:lIx c y=some j)(M:FE X B G Ex l a)(L:FE X B G Ex d b):FS X B G Ex (.Assign [.Tuple [.Name x m,.Name y py] kt pt] (.Tuple [l,d] kk pp) spos)<|sPr i j a b:=by
 unfold zG6 at h;simp only[xCh] at h;let⟨⟨⟨⟨⟨⟨⟨⟨Y,W⟩,h3⟩,h4⟩,h5⟩,h6⟩,h7⟩,h8⟩,h9⟩:=h;have q:x≠y:=by simpa using W
 have K:=k.lc<|qR h3;have I:=k.lc<|qR h4;let⟨E,a2,_⟩:=gz k e1;let⟨N,b2,_⟩:=gz k Z;erw[Ak g k.calm k.nd E N (λz=>q<|by rw[z,N] at E;cases E;rfl) K I M L h6 h7];have R:py.line=m.line:=eq_of_beq h5;have T:([x,y]:A9).eraseDups.length=2:=by
  have:(y==x)=false:=beq_eq_false_iff_ne.mpr<|Ne.symm q;simp[List.eraseDups,List.eraseDupsBy,List.eraseDupsBy.loop,this]
 have C:(foldedForSure 8 l&&foldedForSure 8 d)=false:=by rw[Bool.not_eq_true'] at h8;exact h8
 have A:(constantsAlone 8 l&&constantsAlone 8 d)=false:=by rw[Bool.not_eq_true'] at h9;exact h9
 unfold swappedStores;dsimp only;have D:=k.bk (by simpa using Y);rw[xCf<|by rw[D];simp];rw[xCf (λhh=>by
  simp only[List.any_cons,List.any_nil,Bool.or_false,Bool.or_eq_true] at hh;rcases hh with hh|hh
  .clear C A h8 h9 M;cases l <;> first|(cases h6;done)|(cases hh;done)
  .clear C A h8 h9 L;cases d <;> first|(cases h7;done)|(cases hh;done))]
 have Q:(Expr.Name x m).pos=m:=rfl;have O:(Expr.Name y py).pos=py:=rfl;simp only[List.filterMap_cons,List.filterMap_nil,List.head?_cons,Option.map_some,Option.getD_some,Q,O,K,I,R,beq_self_eq_true,Bool.and_self,if_true,xCg];rw[xCf (by rw[T];simp),xCf (by rw[xCj,xCj,List.all_nil,Bool.and_true,C];decide),xCf<|by rw[xCj,xCj,List.all_nil,Bool.and_true,A];decide]
set_option tactic.hygienic true
def Am(s:zHm P w base B up G lv n)(F:Fc P w base B up G lv c)(k:Cok P w base B lv c X)(cz:Cz c X Ex)(h:cpS c (n+1) st=some t):FS X B G Ex st t:=by
 have g:=F.g;have R:=k.hK;have O:=cz.ca;have C:=cz.pz;have hu:X.A.units+1<cLine:=by have:=k.hr.un;lia
 have hh:X.A.handled=none:=k.hr.hd;change eS n (cpt n) _ _=_ at h;unfold eS at h;cases st <;> dsimp only at h <;> try (cases h;done)
 case Pass p=>cases h;exact vW g
 case Expr e p=>
  let⟨d,h⟩:=cO h;let⟨x,l,rfl⟩:=c7 h;exact Ao g ((snd n).E F k C l) d
 case Return e p=>
  split at h
  .split at h
   .next i hi=>
    cases h;let⟨x,q,rfl,hv⟩:=uk hi;exact pC g<|zK g<|Ag F k hv C
   .let⟨x,l,rfl⟩:=c7 h;exact pC g<|(snd n).E F k C l
  .cases h
 case If q a b p=>
  let⟨x,y,z,d,l,K,rfl⟩:=iP h;exact An g ((snd n).T F k C d).1 (s.L F k cz l)<|s.L F k cz K
 case For tg it b orelse p=>
  split at h
  .split at h
   .next is one e=>
    let⟨d,h⟩:=cO h;rw[xCh] at d;let⟨x,y,l,K,rfl⟩:=dj h;exact yB g (vO e) k.calm ((snd n).I F k C (λz=>oW z) l) (oX k.lp e).1 (s.L F.nt k.lp.nt ⟨O.lp,nofun⟩ K) (λv=>by cases it <;> first|rfl|cases d.1)
   .cases h
  .cases h
 case Assign tgs e p=>
  split at h
  .let⟨D,h⟩:=cO h;split at h
   .next x px=>
    let⟨i,y,d,l,rfl⟩:=dj h;let⟨a1,a2,a3⟩:=gz k d;cases hn:zA0 e with
    |true=>exact uV g ((snd n).E F k C l) k.nd a1 a2 (fG hn) a3
    |false=>exact xu F k C hn l a1 a2 a3
   .next es j pt=>
    have D:zA0 e=true:=by simpa [zGc] using D
    split at h
    .next d=>
     let⟨is,y,l,K,rfl⟩:=dj h;let⟨a1,a2⟩:=zBa k l;exact yz g R k.calm k.nd ((snd n).E F k C K) a2 a1 (by unfold swapsWithSole;exact fG D) (by cases e <;> first|rfl|cases d)
    .split at h
     .next x px y py a b kk pp=>
      let⟨d,h⟩:=cO h;let⟨i1,j1,ta,M,e2,Y,h⟩:=zh h;let⟨tb,e4,rfl⟩:=c7 h;exact wO g F k d M e2 ((snd n).E F k C Y)<|(snd n).E F k C e4
     .cases h
   .next o f po=>
    have D:zA0 e=true:=by simpa [zGc] using D
    let⟨d,h⟩:=cO h;let⟨x,y,l,K,rfl⟩:=dj h;let⟨f',hy,ee⟩:=xCy.mp d;cases xBe ee;exact yC g R F.clf hy ((snd n).E F k C l) ((snd n).E F k C K) D
   .next o i po=>
    have D:zA0 e=true:=by simpa [zGc] using D
    let⟨d,h⟩:=cO h;let⟨x,y,z,l,K,h4,rfl⟩:=iP h;exact vX g hu ((snd n).E F k C l) ((snd n).E F k C K) ((snd n).E F k C h4) d D
   .cases h
  .cases h
 case Raise e cau p=>
  let⟨⟨x,px,as,q⟩,h0,hA⟩:=xCi.mp h;clear h;let⟨fs,e,W⟩:=xCi.mp hA;clear hA;let⟨rfl,rfl⟩:=vZ h0;let⟨N,q2⟩:=fR<|uL e;cases fs with
  |nil=>
   let⟨d,hC⟩:=cO W;cases List.isEmpty_iff.mp d;cases hC;let⟨cc,Q,M,e2,Y⟩:=F.x0 q2;rw[<- R] at M e2 Y;exact pD g O hh M e2 Y (k.gl N) (by rw[k.hM];exact Q) Q (dD<|dQ N).1
  |cons f fr=>cases W
 case Try b hs orelse fin p=>
  split at h
  .next hr h0=>
   let⟨hg,W⟩:=cO h;let⟨fs,M,hC⟩:=xCi.mp W;let⟨d,hD⟩:=cO hC;cases List.isEmpty_iff.mp d;let⟨tt,i3,rfl⟩:=c7 hD;rw[xCh] at hg;cases List.isEmpty_iff.mp hg.1;cases List.isEmpty_iff.mp hg.2;let⟨N,q2⟩:=fR<|uL M;let⟨cc,Q,x1,x2,x3⟩:=F.x0 q2;rw[<- R] at x2;rw[xN h0];exact vV g (s.L F.nt k.nt ⟨O,nofun⟩ i3).m (λZ E' Ex' ca'=>s.L F.nt k.trial.nt ⟨ca',nofun⟩ i3) (k.gl N) (by rw[k.hM];exact Q) (λz=>by rw[k.hM]) (dD<|dQ N).1 (jf x2) O.hs O.hf
  .cases h
def yt{st:A0 Stmt}(s:zHm P w base B up G lv n)(F:Fc P w base B up G lv c)(k:Cok P w base B lv c X)(b:Cz c X Ex)(h:zFx c (n+1) st=some t):FSs X B G Ex st t:=by
 change eL (cpt n) _ _=_ at h;unfold eL at h;split at h
 .cases h;exact yA F.g
 .next a r=>
  let⟨x,y,i,d,rfl⟩:=dj h;cases i;refine vY F.g ?_<|s.L F k b d;cases e:(cpt n).S c a with
  |none=>exact sB F.g
  |some z=>exact s.S F k b e
set_option tactic.hygienic false
theorem zGu:∀n,zHm P w base B up G lv n
 |0=>⟨(λ_ _ _ h=>nomatch (show none=some _ from h)),(λ_ _ _ h=>nomatch (show none=some _ from h))⟩
 |n+1=>⟨Am<|zGu n,yt<|zGu n⟩
end
structure De where
 np:Nat
 n:Nat
 t:B5
noncomputable def zAn(x:B8)(k:B7):Ee Prop:={nx:=λ_ S=>k .non S,rt:=k,bk:=λ_ _=>False,ct:=λ_ _=>False,x:=λe _ S=>x e S}
noncomputable def stU(n:Nat)(vs:B0):Sg:=vs.map some++List.replicate (n-vs.length) none
noncomputable def zF2(up:A0<|Str×Str)(fw:Nat)(call:Nat->B0->So->B8->B7->Prop):B9:={fail:=False,fuel:=fw,prim:=λp vs S x k=>Box<|prP up p vs S k,call:=call,br:=λb p q=>Box<|if b=true then p Unit.unit else q Unit.unit}
structure zEs(tab:Nat->A3 De)(G:B9)(i:Nat)(vs:B0)(S:So)(x:B8)(k:B7):Prop where
 ex:∃(x':B8) (k':B7) (de:De),(∀e S,x' e S->x e S)/\(∀v S,k' v S->k v S)/\tab i=some de/\vs.length=de.np/\de.t G (stU de.n vs) S (zAn x' k')
noncomputable def zAx(up:A0<|Str×Str)(tab:Nat->A3 De)(fw:Nat):Nat->B9
 |0=>zF2 up fw λ_ _ _ _ _=>False
 |d+1=>zF2 up fw<|zEs tab<|zAx up tab fw d
theorem zFm{up:A0<|Str×Str}{tab:Nat->A3 De}:∀d,zBw up (zAx up tab fw d)
 |0=>⟨rfl,λ_ _ _ _ _=>rfl,λ_ _ _=>rfl,λ_ _ h=>h⟩
 |d+1=>⟨rfl,λ_ _ _ _ _=>rfl,λ_ _ _=>rfl,λc i ⟨a,b,k,h1,h2,j⟩=>⟨a,b,k,λe S z=>c e S<|h1 e S z,λv S z=>i v S<|h2 v S z,j⟩⟩
def zHf{up:A0<|Str×Str}{tab:Nat->A3 De}{d i:Nat}{x:B8}{k:B7}{a:De}(e:tab i=some a)(b:vs.length=a.np)(h:a.t (zAx up tab fw d) (stU a.n vs) S<|zAn x k):(zAx up tab fw<|d+1).call i vs S x k:=
 zEs.mk ⟨x,k,a,λ_ _ z=>z,λ_ _ z=>z,e,b,h⟩
structure zCx(K:xFr)(x qual:Str)(st:Stmt)(f:A7)(fd:FuncData):Prop where
 ex:∃(oc:A4) (od:A3 A7) (dv kV doc pm:A4) (an:A3 A7) (cdv ct:A4) (osl:Array (A3 A4)),
  fd=PySem.W.fnOf x qual (zAq st) (zAl st) (zAe st) dv kV doc pm an cdv ct/\K.lookup f=some ⟨oc,od,.func fd,osl⟩/\PySem.W.codeIn K cdv qual=true
section
variable{P:Program}{w:World}{B:Bs}{base:Heap}{up:A0<|Str×Str}{tab:Nat->A3 De}{fw d i fu:Nat}{c:Ct}{x qual:Str}{st:Stmt}{f:A7}{fd:FuncData}{N ps:A9}{de:De}
def zCx.okX{K:xFr}{m:Str->A3 A4}{k:Nat}{sp:Sp}(F:zCx K x qual st f fd)(S:zBf N ps<|zAe st)(len:∀vs H Q E,sp vs H Q E->vs.length=ps.length)(h:∀(b:A4)(A:Around)(a:A0 Env)(s:A5)(H:Hp)(vs:A0 V)(Q:VK)(E:XK),zBc k (A.deeper<|envOfC qual (zAe st) s.heap.objs.size f b)->sp vs H Q E ->
   ∃t,PSs (zD2 (CXo P w) P w K m base N qual (zAe st) f b A a s H E) (zAl st) t/\t {nx:=λ_ H'=>Q .non H',rt:=Q} (start N vs) H):zA9 P w K m base (CXo P w) (k+1) f fd ps sp:=by
 let⟨L,I,M,kV,G,pm,an,b,ct,q,rfl,C,l⟩:=F.ex;exact zA C l S len λA a s H vs Q E D j=>h b A a s H vs Q E D j
theorem jB:∀{l:B0}{n i:Nat}{v:U},nth (l.map some++List.replicate n none) i=some v->l[i]?=some v
 |[],n,i,v,h=>by
  exfalso;rw[List.map_nil,xC6] at h;revert h;induction n generalizing i with
  |zero=>intro h;cases h
  |succ n a=>
   cases i with
   |zero=>intro h;cases h
   |succ i=>exact a (i:=i)
 |u::l,n,0,v,h=>h
 |u::l,n,i+1,v,h=>by simpa using jB (l:=l) (n:=n) (i:=i) h
def o8{W:Wd}{us:B0}{vs:A0 V}(r:Rvs B W us vs):Rg B W (stU N.length us)<|start N vs:=by
 have b:=r.length;refine⟨?_,λi v h=>?_⟩
 .unfold stU L2.start;rw[xAb,xAb,xAa,xAa,xCu,xCu,b]
 .let⟨u,e,a⟩:=r.get<|jB h;refine⟨u,?_,a⟩;unfold L2.start;have j:i<vs.length:=(xAq.mp e).1;rw[List.getElem?_append_left (by simpa using j),xAw,e];rfl
def um(F:zCx B.K x qual st f fd)(S:zBf N ps<|zAe st)(hN:c.N=N)(a:c.sc=(zAe st).names)(ht:tab i=some de)(D:de.np=ps.length)(hn:de.n=N.length)(cp:zFx c fu (zAl st)=some de.t)(FC:Fc P w base B up (zAx up tab fw d) (2*d+1) c) :
  zA9 P w B.K B.mg base (CXo P w) (2*(d+1)+1) f fd ps (spF B (zAx up tab fw<|d+1) i de.np):=by
 refine zCx.okX (k:=2*d+2) F S (λvs H Q E h=>by rw[h.1,D]) λG A j s H vs Q E hr q=>?_;let⟨hl,W,us,S0,Y,X,hc⟩:=q;let⟨R,k',de',hx,I,e,hl',b⟩:=zEs.ex hc;rw[ht] at e;cases e;have ck:Cok P w base B (2*d+1) c<|zD2 (CXo P w) P w B.K B.mg base N qual (zAe st) f G A j s H E:=by
  refine⟨rfl,rfl,rfl,rfl,rfl,hN.symm,S.nd,λ{x} h=>?_,λ{x} h=>?_,λ{x} h=>?_,λ{x} h=>?_,rfl,hr,λ_=>(by show(if(zAe st).kind.isAnnotationScope then ScopeKind.function else(zAe st).kind)=_;rw[S.kind];rfl),λ_ {x} h=>?_⟩
  .unfold isV at h;rw[cq,a] at h;split at h <;> first|cases h;done|skip
   .next e=>exact .inl e
   .next e=>exact .inr (.inl e)
   .next e=>exact .inr (.inr e)
  .unfold isL at h;rw[cq,a] at h;split at h <;> first|cases h;done|skip
   .next e=>exact⟨.inl e,.inl rfl⟩
   .next e=>exact⟨.inr e,.inl rfl⟩
  .rw[cq,a] at h;exact h
  .unfold isG at h;rw[xCh,cq,a] at h;have M:=h.1;split at M
   .next e=>exact e
   .cases M
  .rw[cq,a] at h;exact⟨h,gM h⟩
 have fs:=(zGu fu).L FC ck ⟨gN.cat,λ_=>gN⟩ cp;refine⟨_,fs.p,W,stU N.length us,S0,Y,o8 X,?_⟩;rw[hn] at b;refine fs.m.m (E:=zAn R k') ⟨λO S1 z=>?_,λv S1 z=>I v S1 z,λ_ _ z=>False.elim z,λ_ _ z=>False.elim z,λe O S1 z=>?_⟩ b
 .exact λW' τ H' le l Z=>I _ _ z W' .non H' le l rfl
 .exact λW' τ C dx H' le T Z=>hx _ _ z W' C dx H' le T
end
structure Row where
 x:Str
 qual:Str
 i:Nat
 st:Stmt
 ps:A9
 N:A9
 mu:A9
 t:B5
structure Tb where
 gl:A0 (Str×Gd)
 ms:A0 (Str×Str×Nat×Nat)
 fl:A9
 bl:A9
 ini:A9
 isc:A9
def Tb.ct(b:Tb)(N a:A9)(st:Stmt):Ct:=⟨N,(zAe st).names,b.gl,b.ms,a,b.fl,b.bl,b.ini,b.isc,false,true⟩
noncomputable def zE9:A0 Row->Nat->A3 De
 |[],_=>none
 |r::l,i=>match Nat.beq r.i i with
  |true=>some ⟨r.ps.length,r.N.length,r.t⟩
  |false=>zE9 l i
structure zEw(b:Tb)(tab:Nat->A3 De)(r:Row):Prop where
 S:zBf r.N r.ps (zAe r.st)
 cp:∃fu,zFx (b.ct r.N r.mu r.st) fu (zAl r.st)=some r.t
 ta:tab r.i=some ⟨r.ps.length,r.N.length,r.t⟩
def Dfl(B:Bs)(fd:FuncData)(d:A9)(b:Nat)(h:B0):Prop:=∀{n ds},dflt b n h=some ds->n+ds.length=b/\∃a c,zAy B.K fd d c/\zAk a c/\∀W,Rvs B W ds a
structure Pf(P:Program)(w:World)(base:Heap)(B:Bs)(up:A0 (Str×Str))(b:Tb)(rows:A0 Row):Prop where
 fn:∀{x i np df mp},zAt x b.gl=some (.fn i np df mp)->∃r f fd,r∈rows/\r.i=i/\r.ps.length=np/\B.mg x=some (.ref f)/\PySem.W.keepIn B.K (.ref f)=true/\zCx B.K r.x r.qual r.st f fd/\Dfl B fd r.ps np df
 cl:∀{x i np df},zAt x b.gl=some (.cl i np df)->∃r cc f fd,r∈rows/\r.i=i/\r.ps.length=np/\B.cl x cc/\B.mg x=some (.ref cc)/\Mk B.K cc f/\zCx B.K r.x r.qual r.st f fd/\Dfl B fd r.ps np df
 ms:∀{m C i np},zAt m b.ms=some (C,i,np)->∃r cc f fd,r∈rows/\r.i=i/\r.ps.length=np/\(∀c',B.cl C c'->c'=cc)/\Cls B.K cc/\zEp B.K cc m f/\zCx B.K r.x r.qual r.st f fd/\zAy B.K fd r.ps []
 con:∀{x u},zAt x b.gl=some (.con u)->∃v val,B.mg x=some val/\zAi v val/\∀W,Rv B W u v
 x0:∀{x},zAt x b.gl=some (.xc [])->∃cc,B.mg x=some (.ref cc)/\PySem.W.excIn B.K cc bmV "ValueError.__new__"=true/\zC3 B.K cc=true/\PySem.W.keepIn B.K (.ref cc)=true
 bl:∀{x},x∈b.bl->B.mg x=none
 k1:zCw B "int"
 k2:zCw B "bool"
 k3:zCw B "str"
 k4:zCw B "tuple"
 clf:ClF B b.fl
 clt:ClT B
 kdf:KdF w B
section
variable{P:Program}{w:World}{base:Heap}{B:Bs}{up:A0<|Str×Str}{b:Tb}{rows:A0 Row}{tab:Nat->A3 De}{fw:Nat}
def zB9(a:∀r∈rows,zEw b tab r)(k:r∈rows){f:A7}(F:zCx B.K r.x r.qual r.st f fd):∀d,(∀N j st,Fc P w base B up (zAx up tab fw d) (2*d+1)<|b.ct N j st)->zA9 P w B.K B.mg base (CXo P w) (2*(d+1)+1) f fd r.ps (spF B (zAx up tab fw<|d+1) r.i r.ps.length):=λd h=>
 let ⟨S,⟨_,l⟩,ta⟩:=a r k
 um (c:=b.ct r.N r.mu r.st) F S rfl rfl ta rfl rfl l (h _ _ _)
def yE{f:A7}:zA9 P w B.K B.mg base (CXo P w) (2*0+1) f fd r.ps<|spF B (zAx up tab fw 0) r.i r.ps.length:=
 ⟨λ_ _ _ _ h=>h.1,λ_ _ _ _ _ _ _ _ _ _ _ _ _ h=>by let⟨_,_,_,_,_,_,h⟩:=h;exact False.elim h⟩
def vv(p:Pf P w base B up b rows)(q:∀r∈rows,zEw b tab r)(d:Nat)(ok:∀{r:Row}{f:A7}{fd:FuncData},r∈rows->zCx B.K r.x r.qual r.st f fd->zA9 P w B.K B.mg base (CXo P w) (2*d+1) f fd r.ps (spF B (zAx up tab fw d) r.i r.ps.length))(N m:A9)(st:Stmt):Fc P w base B up (zAx up tab fw d) (2*d+1) (b.ct N m st) where
 g:=zFm d
 fn:=λh=>by
  let⟨r,f,fd,a,rfl,rfl,j,c,F,hd⟩:=p.fn h;exact⟨f,fd,r.ps,j,c,ok a F,hd⟩
 cl:=λh=>by
  let⟨r,l,f,fd,a,rfl,rfl,j,c,k,F,hd⟩:=p.cl h;exact⟨l,f,fd,r.ps,j,c,k,ok a F,hd⟩
 ms:=λh=>by
  let⟨r,l,f,fd,a,rfl,rfl,j,c,k,F,hd⟩:=p.ms h;exact⟨l,f,fd,r.ps,j,c,k,ok a F,hd⟩
 con:=p.con
 x0:=p.x0
 bl:=p.bl
 k1:=p.k1
 k2:=p.k2
 k3:=p.k3
 k4:=p.k4
 clf:=p.clf
 clt:=p.clt
 kdf:=p.kdf
theorem qZ(p:Pf P w base B up b rows)(a:∀r∈rows,zEw b tab r):∀(d:Nat)(N c:A9)(st:Stmt),Fc P w base B up (zAx up tab fw d) (2*d+1) (b.ct N c st)
 |0=>vv p a 0 λ_ _=>yE
 |d+1=>vv p a (d+1) λh F=>zB9 a h F d<|qZ p a d
def ym(p:Pf P w base B up b rows)(a:∀r∈rows,zEw b tab r)(c:r∈rows){f:A7}(F:zCx B.K r.x r.qual r.st f fd)(d:Nat):zA9 P w B.K B.mg base (CXo P w) (2*(d+1)+1) f fd r.ps<|spF B (zAx up tab fw<|d+1) r.i r.ps.length:=zB9 a c F d<|qZ p a d
end
noncomputable def zIq:A3 NameKind->A8
 |some .local=>true
 |some .cell=>true
 |_=>false
noncomputable def zEc:NameKind->A8
 |.free=>false
 |_=>true
noncomputable def eqL:A9->A9->A8
 |[],[]=>true
 |x::r,y::s=>decide (x=y)&&eqL r s
 |_,_=>false
theorem rB:∀{a b:A9},eqL a b=true->a=b
 |[],[],_=>rfl
 |[],_::_,h=>by cases h
 |_::_,[],h=>by cases h
 |x::r,y::s,h=>by
  simp only[eqL,xCh,decide_eq_true_eq] at h;rw[h.1,rB h.2]
def scB(N a:A9)(sc:Scope):A8:=decide (sc.kind=.function)&&(!sc.isCoroutine&&(!sc.isGenerator&&(zA7 N&&(eqL (N.take a.length) a&&(a.all (λx=>zIq<|zAt x sc.names)&&sc.names.all λy=>zEc y.2)))))
def vU{N a:A9}{sc:Scope}(h:scB N a sc=true):zBf N a sc:=by
 simp only[scB,xCh,Bool.not_eq_true'] at h;let⟨q,m,l,k,j,i,d⟩:=h;refine⟨xBe q,m,l,dZ k,rB j,λx c=>?_,λy b e=>?_⟩
 .have:=xCx.mp i x c;rw[cq] at this;unfold zIq at this;split at this
  .next e=>exact .inl e
  .next e=>exact .inr e
  .cases this
 .have:=xCx.mp d y b;rw[e] at this;cases this
def zJq{b:Tb}{tab:Nat->A3 De}(d:scB r.N r.ps (zAe r.st)=true)(c:zFx (b.ct r.N r.mu r.st) 100 (zAl r.st)=some r.t)(a:tab r.i=some ⟨r.ps.length,r.N.length,r.t⟩):zEw b tab r:=⟨vU d,⟨_,c⟩,a⟩
def alln{p:J->Prop}:∀x∈([]:A0 J),p x:=λ_ h=>nomatch h
def allc{p:J->Prop}{a:J}{l:A0 J}(h:p a)(r:∀x∈l,p x):∀x∈a::l,p x:=List.forall_mem_cons.mpr ⟨h,r⟩
def em{v:J}{l:A0<|Str×J}(h:zAt x l=some v):(x,v)∈l:=c9 (by rw[<- cq];exact h)
noncomputable def mkB(K:xFr)(h:Str->A3 A4)(d:A0<|Str×A7)(b:A0<|A7×A0 (Str×U)×A9):Bs:=⟨K,h,λp a no=>(p,a,no)∈b,λC c=>(C,c)∈d⟩
noncomputable def zFq{J:Type}:A3 (A3 J)->A8
 |some none=>true
 |_=>false
def iV{o:A3<|A3 J}(h:zFq o=true):o=some none:=by
 unfold zFq at h;split at h
 .rfl
 .cases h
def zEd(K:xFr)(C:A7)(fl:A9):A8:=fl.all λf=>zFq<|PySem.W.findIn K (.ref C) f
def mgB(K:xFr)(l:A9):A8:=l.all λx=>zFq<|PySem.W.nsIn K mainGlobals x
def nsB(K:xFr)(p:A7)(l:A9):A8:=l.all λx=>zFq<|PySem.W.nsIn K p x
noncomputable def eqO:A3 A8->A8->A8
 |some true,true=>true
 |some false,false=>true
 |_,_=>false
def rA{o:A3 A8}{b:A8}(h:eqO o b=true):o=some b:=by
 unfold eqO at h;split at h <;> first|rfl|cases h
def zC1(K:xFr)(n:String)(a:A0<|Str×A7):A8:=(tys.all λt=>eqO (PySem.W.kitOne K (.type t)<|.type n)<|zEi t n)&&a.all λc=>eqO (PySem.W.kitOne K (.ref c.2)<|.type n)<|zEi "object" n
section
variable{K:xFr}{mg:Str->A3 A4}{cls:A0<|Str×A7}{kds:A0<|A7×A0 (Str×U)×A9}{up:A0<|Str×Str}
def zGb{n:String}(h:zC1 K n cls=true):zCw (mkB K mg cls kds) n:=by
 simp only[zC1,xCh,xCx] at h;exact⟨λt a=>rA<|h.1 t a,λ{C c} b=>rA<|h.2 (C,c) b⟩
def clF{fl:A9}(h:∀p∈cls,Cls K p.2)(d:∀p∈cls,zEd K p.2 fl=true):ClF (mkB K mg cls kds) fl:=⟨λ{C c} a=>h (C,c) a,λ{C c f} a b=>iV<|xCx.mp (d (C,c) a) f b⟩
variable{x qual:Str}{st:Stmt}{f:A7}{fd:FuncData}{ps:A9}{ds es:B4}
def Fun.fa(F:Fun K x qual st f fd):zCx K x qual st f fd:=by
 let⟨i,h,kV,c,pm,an,d,ct,a,e,j,b⟩:=F.ex;exact⟨i,h,_,kV,c,pm,an,d,ct,a,e,j,b⟩
def BdC(r:Row):Prop:=∀(kV a pm:A4)(an:A3 A7)(b ct:A4)(us:B4),us.length=r.ps.length->bindArgs (PySem.W.fnOf r.x r.qual (zAq r.st) (zAl r.st) (zAe r.st) .none kV a pm an b ct) ⟨us,[]⟩=pure (r.ps.zip us)
def zIu(F:Fun K r.x r.qual r.st f fd)(b:BdC r):Dfl (mkB K mg cls kds) fd r.ps r.ps.length []:=λ{n ds} h=>by
 let⟨rfl,e⟩:=zFw h;exact⟨by simpa using e,[],[],F.binds b,.nil,λ_=>rfl⟩
end
def zDv(P:Program)(w:World)(h:Heap)(B:Bs)(up:A0<|Str×Str)(b:Tb)(rows:A0 Row):Str×Gd->Prop
 |(x,.fn i c d _)=>∃r f fd,r∈rows/\r.i=i/\r.ps.length=c/\B.mg x=some (.ref f)/\PySem.W.keepIn B.K (.ref f)=true/\zCx B.K r.x r.qual r.st f fd/\Dfl B fd r.ps c d
 |(x,.cl i c d)=>∃r a f fd,r∈rows/\r.i=i/\r.ps.length=c/\B.cl x a/\B.mg x=some (.ref a)/\Mk B.K a f/\zCx B.K r.x r.qual r.st f fd/\Dfl B fd r.ps c d
 |(x,.xc [])=>∃a,B.mg x=some (.ref a)/\PySem.W.excIn B.K a bmV "ValueError.__new__"=true/\zC3 B.K a=true/\PySem.W.keepIn B.K (.ref a)=true
 |(_,.xc _)=>True
 |(x,.con u)=>∃v val,B.mg x=some val/\zAi v val/\∀W,Rv B W u v
def zHp(B:Bs)(rows:A0 Row)(p:Str×Str×Nat×Nat):Prop:=∃r a f fd,r∈rows/\r.i=p.2.2.1/\r.ps.length=p.2.2.2/\(∀b,B.cl p.2.1 b->b=a)/\Cls B.K a/\zEp B.K a p.1 f/\zCx B.K r.x r.qual r.st f fd/\zAy B.K fd r.ps []
def yM{P:Program}{w:World}{a:Heap}{up:A0<|Str×Str}{b:Tb}{rows:A0 Row}(c:∀p∈b.gl,zDv P w a B up b rows p)(i:∀p∈b.ms,zHp B rows p)(d:∀x∈b.bl,B.mg x=none)(k1:zCw B "int")(k2:zCw B "bool")(k3:zCw B "str")(k4:zCw B "tuple")(clf:ClF B b.fl)(clt:ClT B)(kdf:KdF w B):Pf P w a B up b rows where
 fn:=λh=>c _<|em h
 cl:=λh=>c _<|em h
 ms:=λh=>i _<|em h
 con:=λh=>c _<|em h
 x0:=λh=>c _<|em h
 bl:=λh=>d _ h
 k1:=k1
 k2:=k2
 k3:=k3
 k4:=k4
 clf:=clf
 clt:=clt
 kdf:=kdf
def DnR(K:xFr)(r:Row):Prop:=∃(f:A7) (fd:FuncData),PySem.W.nsIn K mainGlobals r.x=some (some<|.ref f)/\Fun K r.x r.qual r.st f fd
def MdR(K:xFr)(C:A7)(r:Row):Prop:=∃(f:A7) (fd:FuncData),PySem.W.findIn K (.ref C) r.x=some (some<|.ref f)/\PySem.W.isFn K (.ref f)=true/\PySem.W.keepIn K (.ref f)=true/\Fun K r.x r.qual r.st f fd
section
variable{K:xFr}{f T C:A7}{oc kV dc pm cd ct:A4}{od an:A3 A7}{sl:Array<|A3 A4}{nm q:Str}{st:Stmt}{m:Str}{i:Nat}{ps N mu:A9}{t:B5}{d:A4}{oT:Obj}{n:Nat}
def dnr(h:PySem.W.nsIn K mainGlobals nm=some (some<|.ref f))(c:K.lookup f=some ⟨oc,od,.func<|PySem.W.fnOf nm q (zAq st) (zAl st) (zAe st) .none kV dc pm an cd ct,sl⟩)(b:PySem.W.codeIn K cd q=true)(a:PySem.W.keepIn K (.ref f)=true):DnR K ⟨nm,q,i,st,ps,N,mu,t⟩:=⟨f,_,h,qX c b a⟩
def mdr(j:PySem.W.findIn K (.ref C) m=some (some<|.ref f))(b:PySem.W.isFn K (.ref f)=true)(h:K.lookup f=some ⟨oc,od,.func<|PySem.W.fnOf m q (zAq st) (zAl st) (zAe st) .none kV dc pm an cd ct,sl⟩)(c:PySem.W.codeIn K cd q=true)(a:PySem.W.keepIn K (.ref f)=true):MdR K C ⟨m,q,i,st,ps,N,mu,t⟩:=⟨f,_,j,b,a,qX h c a⟩
end
section
variable{P:Program}{w:World}{base h:Heap}{K:xFr}{mg:Str->A3 A4}{cls:A0<|Str×A7}{kds:A0<|A7×A0 (Str×U)×A9}{up:A0<|Str×Str}{b:Tb}{rows:A0 Row}{r:Row}{mp:A0 A8}{x C:Str}{cc a:A7}{i:Int}{tk:Tok}
def cn(X:K.In h)(G:h.Ns mainGlobals mg)(d:DnR K r)(c:r∈rows)(k:BdC r):zDv P w base (mkB K mg cls kds) up b rows (r.x,.fn r.i r.ps.length [] mp):=
 let ⟨f,fd,j,F⟩:=d
 ⟨r,f,fd,c,rfl,rfl,PySem.W.mg_of X G j,F.kp,Fun.fa F,zIu F k⟩
structure CsR(K:xFr)(C:A7)(n:Str):Prop where
 at_:PySem.W.nsIn K mainGlobals n=some (some (.ref C))
 cls:Cls K C
 mks:PySem.W.makesIn K C=true
 kp:PySem.W.keepIn K (.ref C)=true
 ha:PySem.W.findIn K (.ref C) "__class__"=some (some (.builtin "object.__class__"))
 hm:PySem.W.mroIn K C (.type "object")=some true
def zx(X:K.In h)(G:h.Ns mainGlobals mg)(c:CsR K cc C)(d:MdR K cc r)(k:r.x="__init__")(l:r∈rows)(m:(C,cc)∈cls)(D:BdC r):zDv P w base (mkB K mg cls kds) up b rows (C,.cl r.i r.ps.length []):=by
 let⟨f,fd,A,q,E,F⟩:=d;have j:PySem.W.findIn K (.ref cc) "__init__"=some (some<|.ref f):=by rw[<- k];exact A
 refine⟨r,cc,f,fd,l,rfl,rfl,m,PySem.W.mg_of X G c.at_,⟨c.mks,j,q,c.kp⟩,Fun.fa F,zIu F D⟩
theorem uniq:∀{cls:A0<|Str×A7}{C:Str}{c j:A7},zA7 (cls.map (·.1))=true->(C,c)∈cls->(C,j)∈cls->j=c:=λ{cls C c j} d h1 h2=>by
 have d:=dZ d;clear ‹zA7 _=true›;induction cls with
 |nil=>cases h1
 |cons p r k=>
  rw[xBs,xCb] at d;rcases xAv.mp h1 with e1|h1 <;> rcases xAv.mp h2 with e2|h2
  .rw[<- e1] at e2;cases e2;rfl
  .exact absurd (xA2.mpr ⟨_,h2,by rw[<- e1]⟩) d.1
  .exact absurd (xA2.mpr ⟨_,h1,by rw[<- e2]⟩) d.1
  .exact k h1 h2 d.2
def qH(j:zA7 (cls.map (·.1))=true)(c:CsR K cc C)(d:MdR K cc r)(l:r∈rows)(m:(C,cc)∈cls)(D:BdC r):zHp (mkB K mg cls kds) rows (r.x,C,r.i,r.ps.length):=
 let ⟨f,fd,A,q,k,F⟩:=d
 ⟨r,cc,f,fd,l,rfl,rfl,λE h=>uniq j m h,c.cls,⟨A,q,k⟩,Fun.fa F,F.binds D⟩
def iZ(X:K.In h)(G:h.Ns mainGlobals mg)(e:PySem.W.nsIn K mainGlobals x=some (some<|.int i tk)):zDv P w base (mkB K mg cls kds) up b rows (x,.con<|.int i):=⟨.int i,_,PySem.W.mg_of X G e,⟨_,rfl⟩,λ_=>rfl⟩
def xO{z:Str}(X:K.In h)(G:h.Ns mainGlobals mg)(e:PySem.W.nsIn K mainGlobals x=some (some<|.str z tk)):zDv P w base (mkB K mg cls kds) up b rows (x,.con<|.str z):=⟨.str z,_,PySem.W.mg_of X G e,⟨_,rfl⟩,λ_=>rfl⟩
theorem gb{B:Bs}{W:Wd}{β:Type}{f:β->U}{g:β->V}(h:∀x,Rv B W (f x)<|g x):∀(l:A0 β),Rvs B W (l.map f) (l.map g)
 |[]=>rfl
 |x::l=>⟨g x,l.map g,rfl,h x,gb h l⟩
def xA{l:A9}(h:∀H,SqT B.K H a<|l.map .str)(W:Wd):Rv B W (.kt<|l.map .str)<|.ref a:=⟨a,_,rfl,h,gb (f:=U.str) (g:=V.str) (λ_=>rfl) l⟩
def xB{l:B2}(h:∀H,SqT B.K H a<|l.map .int)(W:Wd):Rv B W (.kt<|l.map .int)<|.ref a:=⟨a,_,rfl,h,gb (f:=U.int) (g:=V.int) (λ_=>rfl) l⟩
def vo{u:U}(X:K.In h)(G:h.Ns mainGlobals mg)(e:PySem.W.nsIn K mainGlobals x=some (some<|.ref a))(r:∀W,Rv (mkB K mg cls kds) W u<|.ref a):zDv P w base (mkB K mg cls kds) up b rows (x,.con u):=⟨.ref a,_,PySem.W.mg_of X G e,rfl,r⟩
def vp{c:A0<|Str×U}{no:A9}(X:K.In h)(G:h.Ns mainGlobals mg)(e:PySem.W.nsIn K mainGlobals x=some (some<|.ref a))(hd:(a,c,no)∈kds):zDv P w base (mkB K mg cls kds) up b rows (x,.con<|.kd c no):=⟨.ref a,_,PySem.W.mg_of X G e,rfl,λ_=>⟨a,rfl,hd⟩⟩
structure zI2(w:World)(B:Bs)(q:A7×A0 (Str×U)×A9):Prop where
 d:KD w B.K q.1
 y:∀e∈q.2.1,∃u val,PySem.W.nsIn B.K q.1 e.1=some (some val)/\zAi u val/\∀W,Rv B W e.2 u
 n:nsB B.K q.1 q.2.2=true
def kdF(j:∀q∈kds,zI2 w (mkB K mg cls kds) q):KdF w<|mkB K mg cls kds:=
 ⟨λ{p c no} hd=>(j _ hd).d,λ{p c no x v} hd k=>(j _ hd).y _<|em k,λ{p c no x} hd l=>iV<|xCx.mp (j _ hd).n x l⟩
def clT(l:∀p∈cls,Cls K p.2/\PySem.W.findIn K (.ref p.2) "__class__"=some (some<|.builtin "object.__class__")/\PySem.W.mroIn K p.2 (.type "object")=some true)(j:PySem.W.specialIn K (.builtin "object.__class__") "__get__"=some (some<|.builtin "getset_descriptor.__get__"))(d:PySem.W.takesIn K (.builtin "object.__class__")=some true):ClT<|mkB K mg cls kds:=
 ⟨λ{C c H a D fs} k e=>let ⟨A,q,m⟩:=l (C,c) k;.ins e A q j d m⟩
def vn(X:K.In h)(G:h.Ns mainGlobals mg)(e:PySem.W.nsIn K mainGlobals x=some (some<|.ref a))(j:PySem.W.excIn K a bmV "ValueError.__new__"=true)(d:zC3 K a=true)(c:PySem.W.keepIn K (.ref a)=true):zDv P w base (mkB K mg cls kds) up b rows (x,.xc []):=⟨a,PySem.W.mg_of X G e,j,d,c⟩
def zDn(K:xFr)(n:Nat):Sp:=λvs H Q _=>∃(a:A7) (c:B2),vs=[.ref a]/\c.length<=n/\SqL K H a (c.map V.int)/\∀H',Q (.bl true) H'
def xw{G:B9}{i:Nat}(g:zBw up G)(math:∀ns:B2,ns.length<=n->G.call i [.kl<|ns.map U.int] [] (λ_ _=>False) (λv _=>v=.bl true)):∀vs H Q E,zDn B.K n vs H Q E->spF B G i 1 vs H Q E:=λvs H Q E c=>by
 let⟨a,ns,e,k,j,q⟩:=c;subst e;erw[<-⟨rfl,⟨H,[],[]⟩,[.kl<|ns.map U.int],[],⟨λ_ _ h=>h,rfl,λ_ _ _ h=>(by cases h),λ_ _ h=>(by cases h),λ_ h=>(by cases h)⟩,⟨.ref a,[],rfl,⟨a,ns.map V.int,rfl,j,gb (f:=U.int) (g:=V.int) (λ_=>rfl) ns⟩,rfl⟩,?_⟩,<-g.call (λ_ _ z=>z.elim) (λv S z=>?_)<|math ns k];subst z;exact λW' u H' le l d=>by rw[show u=.bl true from d];exact q H'
end
end Fx
namespace Fx
open PySem L2
variable{kvs:A0<|Key×U}
section
variable{up:A0<|Str×Str}{tab:Nat->A3 De}{fw d:Nat}{p:Pm}{vs:B0}{S S':So}{x:B8}{k:B7}{v:U}{a b:Unit->Prop}
def pm(e:pr up p vs S=.ok v S')(h:k v S'):(zAx up tab fw d).prim p vs S x k:=by
 rw[(zFm (up:=up) (tab:=tab) (fw:=fw) d).prim];exact⟨by unfold prP;rw[e];exact h⟩
def brT(h:a Unit.unit):(zAx up tab fw d).br true a b:=by
 rw[(zFm (up:=up) (tab:=tab) (fw:=fw) d).br];exact⟨by rw[xCg rfl];exact h⟩
def brF(h:b Unit.unit):(zAx up tab fw d).br false a b:=by
 rw[(zFm (up:=up) (tab:=tab) (fw:=fw) d).br];exact⟨by rw[xCf ∅];exact h⟩
def td{xs:B0}{j:Nat}(h:xs[j]?=some v):pr up .ix [.kl xs,.int j] S=.ok v S:=by
 show opt (atI xs (j:Int)) S=_;rw[dh h];rfl
end
section
variable{up:A0<|Str×Str}{S S':So}{p q:Nat}{o o':Ob}{C f m:Str}{fs fs':A0<|Str×U}{v u:U}{xs ys:B0}
theorem zD5{J:Type}:∀{l:A0 J}{p:Nat}{o:J},at? l p=some o->p<l.length
 |_::_,0,_,_=>⋯
 |_::l,p+1,_,h=>by have:=zD5 (l:=l) h;simp;lia
theorem zAc{J:Type}:∀{l:A0 J}{p:Nat}{o o':J},at? l p=some o->at? (set l p o') p=some o'
 |_::_,0,_,_,_=>rfl
 |_::l,p+1,_,_,h=>zAc (l:=l) h
theorem zHk{J:Type}:∀{l:A0 J}{p q:Nat}{o:J},p≠q->at? (set l p o) q=at? l q
 |[],_,_,_,_=>rfl
 |_::_,0,0,_,h=>absurd rfl h
 |_::_,0,_+1,_,_=>rfl
 |_::_,_+1,0,_,_=>rfl
 |_::l,p+1,q+1,_,h=>zHk (l:=l) ()
theorem zA8{J:Type}:∀{l:A0 J}{p:Nat}{o:J},(set l p o).length=l.length
 |[],_,_=>rfl
 |_::_,0,_=>rfl
 |_::l,p+1,_=>congrArg (·+1)<|zA8 (l:=l)
theorem zBy{J:Type}:∀{l t:A0 J}{p:Nat}{o:J},at? l p=some o->at? (l++t) p=some o
 |_::_,_,0,_,h=>h
 |_::l,_,p+1,_,h=>zBy (l:=l) h
theorem zBm{J:Type}:∀{l:A0 J}{o:J},at? (l++[o]) l.length=some o
 |[],_=>rfl
 |_::l,_=>zBm (l:=l)
theorem zAa{J:Type}:∀{l:A0 J}{p:Nat}{o o':J},set (set l p o) p o'=set l p o'
 |[],_,_,_=>rfl
 |_::_,0,_,_=>rfl
 |x::l,p+1,_,_=>congrArg (x::·)<|zAa (l:=l)
def iD(h:at? S p=some (.ins C fs))(e:zAt f fs=some v):pr up (.fld f) [.ref p] S=.ok v S:=by
 show zC6 p S _=_;unfold zC6;rw[h];show opt (zAt f fs) S=_;rw[e];rfl
def sV(h:at? S p=some (.ins C fs))(e:putF f v fs=fs')(a:Nat.ble fs.length 900=true):pr up (.setf f) [.ref p,v] S=.ok .non (set S p<|.ins C fs'):=by
 show zC6 p S _=_;unfold zC6;rw[h];dsimp only;rw[a,e]
def zA2{n:Nat}{r:Res}(h:n<=sizeLine):fits n r=r:=by
 unfold fits;rw[xDk h]
def kE(h:at? S p=some (.lst xs))(a:xs.length+1<=sizeLine):pr up .app [.ref p,v] S=.ok .non (set S p<|.lst<|xs++[v]):=by
 show zC0 p S _=_;unfold zC0;rw[h];exact zA2 a
def eW(h:at? S p=some (.lst xs)):pr up (.typ "list") [.ref p] S=.ok (.ref p) S:=by
 delta pr;dsimp only[tyU];rw[h];rfl
def eB(h:at? S p=some (.ins C fs))(e:zAt m fs=none):pr up (.cls C m) [.ref p] S=.ok (.ref p) S:=by
 show zC6 p S _=_;unfold zC6;rw[h];dsimp only;rw[xBd rfl,e]
def lR(h:at? S p=some (.lst xs)):pr up .len [.ref p] S=.ok (.int xs.length) S:=by
 show zEg (.ref p) S=_;unfold zEg;dsimp only;rw[h]
def sW(h:at? S p=some (.dct kvs)):pr up .len [.ref p] S=.ok (.int kvs.length) S:=by
 show zEg (.ref p) S=_;unfold zEg;dsimp only;rw[h]
def iC{x:Str}(h:at? S p=some (.dct kvs))(a:kvs.length+1<=sizeLine):pr up .seti [.ref p,.str x,v] S=.ok .non (set S p<|.dct<|putK (.inr x) v kvs):=by
 show zCi p (.str x) v S=_;unfold zCi;rw[h];exact zA2 a
def dN{x:Str}(h:at? S p=some (.dct kvs))(e:zBz (.inr x) kvs=some v):pr up .ix [.ref p,.str x] S=.ok v S:=by
 show ixU (.ref p) (.str x) S=_;unfold ixU;dsimp only;rw[h];show opt (zBz (.inr x) kvs) S=_;rw[e];rfl
end
end Fx
namespace K01
open PySem L2 Fx
variable{J:Type}{mg:Str->A3 A4}{cls:A0<|Str×A7}{kds:A0<|A7×A0 (Str×U)×A9}{l:A0 Spt}{fw d lv lv' D h pq:Nat}{S T:So}{v u9 v0:U}{j lo hi mi pp wi:Int}{y s:Str}{L r vs A:B0}{c:Nat->Int}{xx:B8}{a1 a2 a3 a7 a8 a10 a11 a13 a12:A3 U}{is ph cs:B1}{th ns:A9}{items:A0<|Str×U}{as:A0 Pg}{ps:B2}
noncomputable def top(i:Nat):Stmt:=PySem.Challenge.pw_spacewright_k01_what_is_a_program.main.body.getD i<|.Pass ⟨0,0,0,0⟩
noncomputable def cm:A0<|Str×U:=[("number",(.kt [(.str "number")])),("name",(.kt [(.str "used")])),("fn",(.kt [(.str "names"),(.str "part")])),("call",(.kt [(.str "part"),(.str "parts")])),("let",(.kt [(.str "name"),(.str "part"),(.str "part")])),("set",(.kt [(.str "used"),(.str "part")])),("do",(.kt [(.str "part"),(.str "part")])),("if",(.kt [(.str "part"),(.str "part"),(.str "part")])),("math",(.kt [(.str "op"),(.str "part"),(.str "part")])),("make",(.kt [(.str "word"),(.str "parts")])),("match",(.kt [(.str "part"),(.str "word"),(.str "names"),(.str "part"),(.str "part")])),("raise",(.kt [(.str "word"),(.str "part")])),("try",(.kt [(.str "part"),(.str "word"),(.str "name"),(.str "part")])),("tell",(.kt [(.str "part")])),("ask",(.kt []))]
noncomputable def cI:A9:=["numbers","","Fn"]
noncomputable def dy:U:=.kd cm cI
noncomputable def dP:A0<|Str×U:=[("fn",(.kt [(.int<|2),(.int<|3)])),("let",(.kt [(.int<|2),(.int<|4)])),("match",(.kt [(.int<|4),(.int<|5)])),("try",(.kt [(.int<|4),(.int<|5)]))]
noncomputable def dE:A9:=["number","name","call","set","do","if","math","make","raise","tell","ask"]
def qO:U:=.kd dP dE
noncomputable def Tl(x:Str)(i n:Nat):Str×Gd:=(x,.cl i n [])
noncomputable def Y6(x:Str)(i n:Nat)(m:A0 A8):Str×Gd:=(x,.fn i n [] m)
noncomputable def Jj(x:Str)(i n:Nat):Str×Gd:=Y6 x i n []
noncomputable def Tc(x:Str)(u:U):Str×Gd:=(x,.con u)
noncomputable def gls:A0<|Str×Gd:=[Jj "is_number" 0 1,Jj "form_of" 1 1,Jj "told_anew" 2 2,Jj "is_word" 3 1,Jj "is_name" 4 1,Jj "is_place" 5 1,Jj "is_written_number" 6 1,Jj "plain" 7 1,Tl "Checker" 8 1,Jj "checked_row" 12 1,Jj "checked_names" 13 1,Jj "fits" 14 3,Jj "checked_program" 15 1,Jj "is_program" 16 1,Jj "_law_cell" 17 2,Jj "_law_heads" 18 0,Jj "_law_names" 19 2,Jj "_law_drawn" 20 3,Jj "_law_state" 21 4,Y6 "_law_take" 22 2 [true,false],Y6 "_law_place" 23 1 [true],Jj "_law_atom" 24 2,Jj "_law_some" 25 4,Jj "_law_unlike" 26 2,Jj "_law_loop" 27 4,Jj "_law_bind" 28 5,Jj "_law_word" 29 1,Jj "_law_plain" 30 5,Jj "_law_helper" 31 4,Jj "_law_part" 32 4,Jj "_law_sorts" 33 1,Jj "_law_new" 34 2,Jj "_law_spots" 35 3,Jj "_law_put" 36 3,Jj "_law_bad" 37 5,Jj "_law_faulty" 38 5,Jj "_law_nested" 39 2,Y6 "_law_wide" 40 2 [false,true],Jj "_law_told" 41 2,Jj "law" 42 1,(("SpaceError"),.xc []),(("NoPart"),.xc []),Tc "MOST_PARTS"<|.int<|300,Tc "MOST_WITHIN"<|.int<|20,Tc "MOST_IN_ROW"<|.int<|4,Tc "LAST_PLACE"<|.int<|599,Tc "LETTERS"<|.str "abcdefghijklmnopqrstuvwxyz",Tc "OPS"<|.kt [(.str "add"),(.str "sub"),(.str "mul"),(.str "less"),(.str "same")],Tc "HEADS"<|.kt [(.str "fn"),(.str "call"),(.str "let"),(.str "set"),(.str "do"),(.str "if"),(.str "add"),(.str "sub"),(.str "mul"),(.str "less"),(.str "same"),(.str "make"),(.str "match"),(.str "raise"),(.str "try"),(.str "tell"),(.str "ask")],Tc "FORMS" dy,Tc "SCOPES" qO]
noncomputable def mss:A0<|Str×Str×Nat×Nat:=[("check_part","Checker",9,4),("check_place","Checker",10,2),("check_thing","Checker",11,5)]
noncomputable def fls:A9:=["tag","fields","place","params","body","scope","inside","part","last","height","calls","places","inputs","taken","most","log","deeds","deepest","world","jobs","pile","set_ones"]
noncomputable def bls:A9:=["len","isinstance","abs","int","tuple","list","dict","all","any","max","min","range","zip","reversed","set","str","bool","sorted","enumerate"]
noncomputable def ups:A0<|Str×Str:=[("SpaceError","ValueError"),("NoPart","SpaceError")]
noncomputable def tb:Tb:=⟨gls,mss,fls,bls,["Function"],["Block","Function"]⟩
def J2:B6:=cV 0
def J3:B6:=cV 1
def J8:B6:=cV 2
def Jb:B6:=cV 3
def J7:B6:=cV 4
def Je:B6:=cV 5
def Jl:B6:=cV 6
def Jr:B6:=cV 7
def Ju:B6:=cV 8
def Jz:B6:=cV 9
def Y7:B6:=cV 10
def Ya:B6:=cV 11
def Yb:B6:=cV 12
def Y9:B6:=cV 13
def Yc:B6:=cV 14
def Jk:B6:=cC<|.int 0
def Jc:B6:=cC<|.int 1
def Jn:B6:=cC<|.int 2
def Jw:B6:=cC<|.int 3
def Jy:B6:=cC<|.int 4
def Jq:B6:=cC<|.int 5
def Y0:B6:=cC<|.int 6
def Y5:B6:=cC<|.int 7
def J9(i:Int):B6:=cC<|.int i
def J1(x:Str):B6:=cC<|.str x
def J5(a b:B6):B6:=cP .ix<|zAv a b
def Y8(x:Str)(a:B6):B6:=cP (.fld x)<|aC a aN
def J4(p:Pm)(a:B6):B6:=cP p<|aC a aN
def J0(p:Pm)(a b:B6):B6:=cP p<|zAv a b
def Jd(a b:B6):TTx Prop:=tB<|cP .eq<|zAv a b
def Jh(i:Nat)(a:B'):B6:=cF i a []
def Jf(i:Nat)(a:B6):B6:=cF i (aC a aN) []
def Jg(i:Nat)(a b:B6):B6:=cF i (aC a<|aC b aN) []
def Y1(a:B6):B':=(aC a aN)
def Js(a:B6):B6:=cT<|aC a aN
def Y2(a b:B6):B6:=cT<|aC a<|aC b aN
def Jx(a b c:B6):B':=(aC a<|aC b<|aC c aN)
def Jv(a b c:B6):B6:=cT<|aC a<|aC b<|aC c aN
def Jo(a b c d:B6):B':=(aC a<|aC b<|aC c<|aC d aN)
def Jt(a b c d:B6):B6:=cT<|aC a<|aC b<|aC c<|aC d aN
def Jp(a b c d e:B6):B':=(aC a<|aC b<|aC c<|aC d<|aC e aN)
def Y3(a b c d e:B6):B6:=cT<|aC a<|aC b<|aC c<|aC d<|aC e aN
def J6(a:B6):B5:=sQ (sR a) sN
def Jm(a:B5):B5:=sQ a sN
def Ja(t:TTx Prop)(a:B5):B5:=sI t a sN
def zE5:B5:=(sQ (Ja (Jd J2<|J1 "n")<|J6<|J5 (cP (.lst false)<|aC (J0 (.add false) (J0 .pow (J9 10)<|J9 12) J7)<|Jp (J0 .sub (J4 .neg<|J0 .pow (J9 10)<|J9 12) J7) (cC<|.bl true) (J1 "1") (cC .non)<|Js Jc)<|J0 .mod J7 Y0)<|sQ (Ja (Jd J2<|J1 "u")<|J6<|J5 (J0 (.add false) Je<|cP (.lst false)<|Jo (J1 "") (J1 "A") Jq<|cC .non)<|J0 .mod J7<|J0 (.add false) (J4 .len Je) Jy)<|sQ (Ja (Jd J2<|J1 "x")<|J6<|J5 (J0 (.add false) (Jh 18 aN)<|cP (.lst false)<|aC (J1 "")<|aC (J1 "A")<|Jp (J1 "a1") (J1 "abcdefghi") Jq (cC .non)<|Js<|J1 "a")<|J0 .mod J7<|J9 24)<|sQ (Ja (Jd J2<|J1 "w")<|J6<|J5 (cP (.lst false)<|aC (J1 "")<|aC (J1 "A")<|aC (J1 "a1")<|Jp (J1 "abcdefghi") Jq (cC .non) (Js<|J1 "a")<|J1 "-")<|J0 .mod J7<|J9 8)<|sQ (Ja (Jd J2<|J1 "o")<|J6<|J5 (cP (.lst false)<|aC (J1 "div")<|aC (J1 "math")<|Jp (J1 "fn") (J1 "") Jq (cC .non)<|J1 "ADD")<|J0 .mod J7 Y5)<|sQ (Ja (Jd J2<|J1 "N")<|sQ (sA 6<|J4 .tupOf<|J0 (.sl false false true) (J0 (.add false) J8<|cP (.lst false)<|Jp (J1 "va") (J1 "vb") (J1 "vc") (J1 "vd")<|J1 "ve") Jq)<|J6<|J5 (cP (.lst false)<|aC (J4 (.lstOf false) J3)<|aC (cC .non)<|aC Jl<|Jp (Y2 (J1 "qa")<|J1 "qa") (Js<|J1 "fn") (Js Jq) (J1 "ab")<|Y2 (J1 "a")<|J1 "")<|J0 .mod J7<|J9 8)<|sQ (Ja (Jd J2<|J1 "S")<|J6<|J5 (cP (.lst false)<|aC (J4 (.lstOf false) J3)<|Jp (cC .non) (Js Jq) (Js<|J1 "a") (J1 "ab") Jq)<|J0 .mod J7 Y0)<|J6<|J5 (cP (.lst false)<|aC (cC .non)<|aC Jq<|aC (cT aN)<|Jp (J1 "a") (J4 (.lstOf false) J3) (J0 (.sl false false true) J3<|J4 .neg Jc) (J0 (.add false) J3<|Js Jc)<|Js J3)<|J0 .mod J7<|J9 8)
def bd9:B5:=sQ (sA 9<|J0 (.add false) J8<|Jg 2 Je<|J4 .len Je)<|Jm<|sE<|cBM "list" .app Je<|Y1<|cM "Checker" "check_thing" 11 J2 (Jo Jr Ju Jz Jb) []
def zIz:B5:=(sQ (sA 10<|Jg 17 J2 Jz)<|sQ (sU [5,6,7]<|J5 J7<|J0 .mod Y7<|J4 .len J7)<|sQ (sA 11<|Jh 38<|Jp Jl Ju J8 Jr<|J0 .mod (J0 .fdiv Y7<|J4 .len J7)<|J0 .pow (J9 10)<|J9 9)<|Jm<|Ja (tNt<|tB<|Jg 41 (Jh 36<|Jx Jb Je Ya)<|cC<|.bl false)<|J6<|cC<|.bl false)
def zE6:B5:=(sQ (sA 13<|Jt (J1 "call") (J5 Jl<|J9 9) (Jv (J1 "name") (J5 Jl<|J9 10) J7)<|Js<|Jv (J1 "number") (J5 Jl<|J9 11)<|Jg 22 J2<|J9 8)<|sQ (sA 11<|Jt (J1 "do") (Jf 23 J2) (Jt (J1 "set") (Jf 23 J2) J7 Yb) Y9)<|J6<|Y3 (J1 "let") (J5 Jl<|J9 12) J7 (Jv (J1 "number") (J5 Jl<|J9 13) Jk) Ya)
def zE7:B5:=(sQ (sA 12<|Jt (J1 "fn") (J5 Jl Y0) (Js Je)<|Y3 (J1 "if") (J5 Jl Y5) (Jv (J1 "name") (J5 Jl<|J9 8) Je) Ya Jz) zE6)
def rz3:B5:=(sA 11<|Jt (J1 "do") (J5 Jl Jw) Ju<|Jt (J1 "call") (J5 Jl Jy) (Jv (J1 "name") (J5 Jl Jq) J7)<|Js Y7)
def zE8:B5:=(sQ rz3 zE7)
def rz4:B5:=(sA 10<|Y3 (J1 "math") (J5 Jl Jk) (J1 "sub") (Jv (J1 "name") (J5 Jl Jc) Je)<|Jv (J1 "number") (J5 Jl Jn) Jc)
def zJp:B5:=(sQ rz4 zE8)
def zEa:B5:=(sQ (Ja (tAn (tB<|J0 .lt J7<|J9 14)<|tB<|J0 .gt Jb Jw)<|J6<|Jh 31<|Jo J2 J3 J8 Jb)<|J6<|Jh 30<|Jp J2 J3 J8 (J0 .sub Jb Jc)<|J0 .mod (J0 .sub J7<|J9 10)<|J9 12)
def zH3:B5:=(sQ (Ja (tB<|J0 .lt J7<|J9 10)<|J6<|Jh 28<|Jp J2 J3 J8 (J0 .sub Jb Jc)<|J5 (cP (.lst false)<|aC Jc<|aC Jc<|Jp Jk Jc Jn Jw Jc)<|J0 .sub J7 Jw)<|sQ (Ja (tAn (tB<|J0 .lt J7<|J9 12)<|tAn (tB<|J0 .gt Jb Y5)<|tB<|J0 .gt (J5 J2<|J1 "parts")<|J9 20)<|J6<|Jh 27<|Jo J2 J3 J8 Jb) zEa)
def zH4:B5:=(sQ (sA 3<|Jg 22 J2<|J9 10)<|sQ (Ja (Jd Jb<|J9 9)<|Jm<|sA 3<|J0 .sub (Jg 22 J2<|J0 .pow (J9 10)<|J9 12)<|Jg 22 J2<|J0 .pow (J9 10)<|J9 12)<|J6<|Jv (J1 "number") J8 Jb)
def zGy:B5:=(sQ (sA 7<|Jh 32<|Jo J2 J3 J8 Jb)<|sQ (Ja (Jd J7 Jw)<|J6<|Jt (J1 "raise") Je (Jf 29 J2) Jr)<|sQ (Ja (Jd J7 Jy)<|J6<|Jt (J1 "call") Je Jr<|Jh 25<|Jo J2 J3 J8 Jb)<|sQ (Ja (Jd J7 Jq)<|J6<|Jv (J1 "tell") Je Jr)<|sQ (sA 8<|Jh 32<|Jo J2 J3 J8 Jb)<|sQ (Ja (Jd J7 Y0)<|J6<|Y3 (J1 "if") Je Jr Ju<|Jh 32<|Jo J2 J3 J8 Jb)<|sQ (Ja (tB<|J0 .lt J7<|J9 9)<|J6<|Y3 (J1 "math") Je (J5 (cP (.lst false)<|Jp (J1 "add") (J1 "sub") (J1 "mul") (J1 "less")<|J1 "same")<|Jg 22 J2 Jq) Jr Ju)<|J6<|Jt (J1 "do") Je Jr Ju)
def zGw:B5:=(Jm<|sE<|cBM "list" .ext Jb<|Y1<|Jh 35<|Jx (J5 (J5 J2<|J0 (.add false) Jn J7) Jl) J3<|J0 (.add false) J8<|J0 (.lst false) (J0 (.add false) Jn J7) Jl)
def zI0:B5:=(sQ (Ja (Jd Je<|J1 "E")<|Jm<|sE<|cBM "list" .ext Jb<|Y1<|Jh 35<|Jx (J5 J2<|J0 (.add false) Jn J7) (J0 (.add false) J3<|Jg 34 J2<|J0 (.add false) Jn J7)<|J0 (.add false) J8<|J4 (.lst false)<|J0 (.add false) Jn J7)<|Jm<|Ja (Jd Je<|J1 "S")<|Jm<|sF (J4 .rng1<|J4 .len<|J5 J2<|J0 (.add false) Jn J7) [6] true zGw)
def inb:B5:=(sQ (sA 9<|J0 (.add false) (J0 .fdiv J2<|J9 64)<|J0 .mul Ju<|J0 .fdiv J2<|J9 1664)<|sQ (Ja (Jd Ju J7)<|Jm<|sA 9<|J0 (.add false) Jz Jl)<|Jm<|sA 7<|J0 (.add false) Jr<|J5 J8<|J0 .mod Jz<|J9 26)
def oub:B5:=(sQ (sA 7<|J1 "")<|sQ (sF (J4 .rng1 Jb) [8] true inb)<|Jm<|sE<|cBM "list" .app Je<|Y1<|J0 (.add false) Jr<|J0 .mul (J1 "z")<|J4 .int1<|cB<|tB<|J0 .inn Jr<|Jh 18 aN)
def rz1:B5:=(sQ (sA 2<|J0 .mod (J5 J2<|J1 "number") J3)<|sQ (sP .seti (J0 .fdiv (J5 J2<|J1 "number") J3)<|zAv J2<|J1 "number")<|J6 J8)
def rz2:B5:=(sQ (Ja (Jd (Jg 22 J2 Jn) Jc)<|Jm<|sA 9<|Jt (J1 "do") (Jf 23 J2) Jz<|Jh 32<|Jo J2 J3 (J0 (.add false) J8<|J4 (.lst false) J7)<|J0 .sub Jb Jw)<|J6<|Y3 (J1 "let") Jr J7 Jl Jz)
def rz5:B5:=(sQ (Ja (Jd J7 Jk)<|J6<|Jt (J1 "fn") Je Jl<|Jh 32<|Jo J2 J3 (J0 (.add false) J8<|J4 (.lstOf false) Jl) Jb)<|sQ (Ja (Jd J7 Jc)<|sQ (sA 8<|Jh 32<|Jo J2 J3 J8 Jb)<|J6<|Y3 (J1 "let") Je Jr Ju<|Jh 32<|Jo J2 J3 (J0 (.add false) J8<|J4 (.lst false) Jr) Jb)<|sQ (sA 9<|Jf 29 J2)<|sQ (sA 8<|Jh 32<|Jo J2 J3 J8 Jb)<|sQ (Ja (Jd J7 Jn)<|sQ (sA 10<|Jh 32<|Jo J2 J3 (J0 (.add false) J8<|J4 (.lstOf false) Jl) Jb)<|J6<|cT<|aC (J1 "match")<|aC Je<|Jp Ju Jz Jl Y7<|Jh 32<|Jo J2 J3 J8 Jb)<|J6<|cT<|aC (J1 "try")<|Jp Je Ju Jz Jr<|Jh 32<|Jo J2 J3 (J0 (.add false) J8<|J4 (.lst false) Jr) Jb)
def t0:B5:=(J6<|cB<|tAn (tB<|J4 (.isT "int") J2)<|tNt<|tB<|J4 (.isT "bool") J2)
noncomputable def Y4(x q:Str)(i:Nat)(s:Stmt)(ps b a:A9)(t:B5):Fx.Row:=⟨x,q,i,s,ps,ps++b,a,t⟩
noncomputable def Ji(x:Str):Nat->Stmt->A9->A9->A9->B5->Fx.Row:=Y4 x x
noncomputable def r0:Fx.Row:=Ji "is_number" 0 (top 4) ["thing"] [] [] t0
def t1:B5:=(J6<|cIf (tB<|J4 (.isT "str") J2) (J0 .get1 (cC dy) J2)<|cC .non)
noncomputable def r1:Fx.Row:=Ji "form_of" 1 (top 15) ["kind"] [] [] t1
def t2:B5:=(sQ (sU [2,3]<|cP .get2<|Jx (cC qO) (J5 J2 Jk)<|Y2 (cC .non)<|cC .non)<|sQ (Ja (tB<|J0 .ne J3 Jb)<|J6<|cT aN)<|sQ (sA 4<|J5 J2 J8)<|J6<|cIf (tB<|J4 (.isT "tuple") J7) J7<|Js J7)
noncomputable def r2:Fx.Row:=Ji "told_anew" 2 (top 16) ["part","index"] ["names_at","scope_at","names"] [] t2
def t3:B5:=(sQ (Ja (tOr' (tNt<|tB<|J4 (.isT "str") J2)<|tNt<|tCh .le .le Jc (J4 .len J2)<|J9 8)<|J6<|cC<|.bl false)<|J6<|J4 .all<|cLx (J4 .seq J2) [1] true 2 [] none<|cB<|tB<|J0 .inn J3<|J1 "abcdefghijklmnopqrstuvwxyz")
noncomputable def r3:Fx.Row:=Ji "is_word" 3 (top 17) ["thing"] [] [] t3
def t4:B5:=(J6<|cB<|tAn (tB<|Jf 3 J2)<|tB<|J0 .nin J2<|cC<|.kt [(.str "fn"),(.str "call"),(.str "let"),(.str "set"),(.str "do"),(.str "if"),(.str "add"),(.str "sub"),(.str "mul"),(.str "less"),(.str "same"),(.str "make"),(.str "match"),(.str "raise"),(.str "try"),(.str "tell"),(.str "ask")])
noncomputable def r4:Fx.Row:=Ji "is_name" 4 (top 18) ["thing"] [] [] t4
def t5:B5:=(J6<|cB<|tAn (tB<|Jf 0 J2)<|tCh .le .le Jk J2<|J9 599)
noncomputable def r5:Fx.Row:=Ji "is_place" 5 (top 19) ["thing"] [] [] t5
def t6:B5:=(J6<|cB<|tAn (tB<|Jf 0 J2)<|tB<|J0 .lt (J4 .abs J2)<|J0 .pow (J9 10)<|J9 12)
noncomputable def r6:Fx.Row:=Ji "is_written_number" 6 (top 20) ["thing"] [] [] t6
def t7:B5:=(sQ (Ja (tB<|J4 (.isT "tuple") J2)<|J6<|J0 (.add false) (cT aN) J2)<|sQ (Ja (tB<|J4 (.isT "str") J2)<|J6<|cBM "str" .join (J1 "")<|Y1<|J4 (.lst false) J2)<|sQ (Ja (tB<|Jf 0 J2)<|J6<|J4 .int1 J2)<|J6 J2)
noncomputable def r7:Fx.Row:=Ji "plain" 7 (top 21) ["thing"] [] [] t7
def t8:B5:=(Jm<|sP (.setf "places") (cP (.dct []) aN)<|Y1 J2)
def r8:Fx.Row:=Y4 "__init__" "Checker.__init__" 8 (zB2 (top 22) 0) ["self"] [] [] t8
def t9:B5:=(sQ (sA 4<|Jf 7 J3)<|sQ (Ja (tOr' (tNt<|tB<|J4 (.isT "tuple") J7)<|tB<|J0 .lt (J4 .len J7) Jn)<|Jm<|sX "NoPart" [] aN)<|sQ (sA 5<|J0 (.lst true) (Jf 7<|J5 J7 Jk)<|Jf 7<|J5 J7 Jc)<|sQ (sA 6<|Jf 1<|J5 Je Jk)<|sQ (Ja (tOr' (tB<|J4 .isN Jl)<|tB<|J0 .ne (J4 .len J7)<|J0 (.add false) Jn<|J4 .len Jl)<|Jm<|sX "NoPart" [] aN)<|sQ (sE<|cM "Checker" "check_place" 10 J2 (Y1<|J5 Je Jc) [])<|sQ (Ja (tB<|J0 .nin (J5 Je Jk)<|Y2 (J1 "number")<|J1 "name")<|Jm<|sA 3<|J0 (.add false) Jb Jc)<|sQ (Ja (tB<|J0 .gt Jb<|J9 20)<|Jm<|sX "NoPart" [] aN)<|sQ (sF (J0 .zip Jl<|J0 (.sl false true false) J7 Jn) [7,8] false<|bd9)<|J6<|J4 .tupOf Je)
def r9:Fx.Row:=Y4 "check_part" "Checker.check_part" 9 (zB2 (top 22) 1) ["self","thing","there","within"] ["part","known","form","sort","inner","scope"] ["known"] t9
def t10:B5:=(sQ (Ja (tOr' (tNt<|tB<|Jf 5 J3)<|tB<|J0 .inn J3<|Y8 "places" J2)<|Jm<|sX "NoPart" [] aN)<|sQ (sP .seti (cC<|.bl true)<|zAv (Y8 "places" J2) J3)<|Jm<|Ja (tB<|J0 .gt (J4 .len<|Y8 "places" J2)<|J9 300)<|Jm<|sX "NoPart" [] aN)
def r10:Fx.Row:=Y4 "check_place" "Checker.check_place" 10 (zB2 (top 22) 2) ["self","place"] [] [] t10
def t11:B5:=(sQ (Ja (Jd J3<|J1 "part")<|J6<|cM "Checker" "check_part" 9 J2 (Jx J8 Jb J7) [])<|sQ (Ja (Jd J3<|J1 "parts")<|J6<|J4 .tupOf<|cLx (J4 .seq<|Jf 12 J8) [1] true 2 [4,3,0] none<|cM "Checker" "check_part" 9 J7 (Jx J3 Jb J8) [])<|sQ (Ja (Jd J3<|J1 "names")<|J6<|Jf 13 J8)<|sQ (sA 5<|Jf 7 J8)<|sQ (Ja (tNt<|tB<|Jh 14<|Jx J3 Je Jb)<|Jm<|sX "NoPart" [] aN)<|J6 Je)
def r11:Fx.Row:=Y4 "check_thing" "Checker.check_thing" 11 (zB2 (top 22) 3) ["self","sort","thing","there","within"] ["single"] [] t11
def t12:B5:=(sQ (sA 1<|Jf 7 J2)<|sQ (Ja (tOr' (tNt<|tB<|J4 (.isT "tuple") J3)<|tB<|J0 .gt (J4 .len J3) Jy)<|Jm<|sX "NoPart" [] aN)<|J6 J3)
noncomputable def r12:Fx.Row:=Ji "checked_row" 12 (top 23) ["thing"] ["row"] [] t12
def t13:B5:=(sQ (sA 1<|J4 .tupOf<|cLx (J4 .seq<|Jf 12 J2) [1] true 2 [] none<|Jf 7 J3)<|sQ (Ja (tOr' (tNt<|tB<|J4 .all<|cLx (J4 .seq J3) [1] true 2 [] none<|Jf 4 J3)<|tB<|J0 .lt (J4 .lenset J3)<|J4 .len J3)<|Jm<|sX "NoPart" [] aN)<|J6 J3)
noncomputable def r13:Fx.Row:=Ji "checked_names" 13 (top 24) ["thing"] ["names"] [] t13
def t14:B5:=(sQ (Ja (Jd J2<|J1 "number")<|J6<|Jf 6 J3)<|sQ (Ja (Jd J2<|J1 "op")<|J6<|cB<|tAn (tB<|Jf 3 J3)<|tB<|J0 .inn J3<|cC<|.kt [(.str "add"),(.str "sub"),(.str "mul"),(.str "less"),(.str "same")])<|sQ (Ja (Jd J2<|J1 "word")<|J6<|Jf 3 J3)<|sQ (Ja (Jd J2<|J1 "used")<|J6<|cB<|tAn (tB<|Jf 4 J3)<|tB<|J0 .inn J3 J8)<|J6<|Jf 4 J3)
noncomputable def r14:Fx.Row:=Ji "fits" 14 (top 25) ["sort","thing","there"] [] [] t14
def t15:B5:=(J6<|cM "Checker" "check_part" 9 (cK "Checker" 8 aN []) (Jx J2 (cT aN) Jk) [])
noncomputable def r15:Fx.Row:=Ji "checked_program" 15 (top 26) ["thing"] [] [] t15
def t16:B5:=(sQ (sTr "NoPart" (.bl false)<|Jm<|sE<|Jf 15 J2)<|J6<|cC<|.bl true)
noncomputable def r16:Fx.Row:=Ji "is_program" 16 (top 27) ["thing"] [] [] t16
def t17:B5:=(sQ (Ja (tB<|J0 .lt J3<|J4 .len J2)<|J6<|J5 J2 J3)<|sQ (Ja (Jd J2<|cP (.lst false) aN)<|J6<|J0 .mod (J0 .mul J3<|J9 48271)<|J9 65537)<|J6<|J0 (.add false) (J0 .mod (J0 .mul (J5 J2<|J0 .mod J3<|J4 .len J2)<|J9 48271)<|J9 2147483647)<|J0 .mul (J9 7919) J3)
noncomputable def r17:Fx.Row:=Ji "_law_cell" 17 (top 29) ["_law_script","_law_k"] [] [] t17
def t18:B5:=(sQ (sA 0<|cP (.lst false)<|aC (J1 "fn")<|aC (J1 "call")<|aC (J1 "let")<|aC (J1 "set")<|Jp (J1 "do") (J1 "if") (J1 "add") (J1 "sub")<|J1 "mul")<|J6<|J0 (.add false) J2<|cP (.lst false)<|aC (J1 "less")<|aC (J1 "same")<|aC (J1 "make")<|Jp (J1 "match") (J1 "raise") (J1 "try") (J1 "tell")<|J1 "ask")
noncomputable def r18:Fx.Row:=Ji "_law_heads" 18 (top 30) [] ["_law_some_here"] [] t18
def t19:B5:=(sQ (sA 2<|J1 "abcdefghijklmnopqrstuvwxyz")<|sQ (sA 3<|J0 (.add false) Jc<|J0 .mod J2<|J9 8)<|sQ (sA 4<|J0 .mod (J0 .fdiv J2<|J9 8) Jb)<|sQ (sA 5<|cP (.lst true) aN)<|sQ (sF (J4 .rng1 J3) [6] true oub)<|J6<|J4 .frz Je)
noncomputable def r19:Fx.Row:=Ji "_law_names" 19 (top 31) ["_law_cell_here","_law_many"] ["_law_letters","_law_size","_law_at","_law_found","_law_k","_law_word_here","_law_j","_law_step"] ["_law_found","!_law_found"] t19
def t20:B5:=(sQ (sA 3<|J0 .mul (Jg 17 J2 Jn)<|J4 .int1<|cB<|Jd (J0 .mod (Jg 17 J2 Jc) Jn) Jk)<|sQ (sA 4<|J0 (.add false) Jc<|J0 .mod (J0 .fdiv (Jg 17 J2 Jc) Jn)<|J9 60)<|sQ (sA 5<|Jh 21<|Jo (Jg 17 J2 Jw) Jb J7<|J0 .fdiv (Jg 17 J2 Jc)<|J9 120)<|J6<|Jh 32<|Jo Je J3 J8<|J0 (.add false) Jc<|J0 .mod (J0 .fdiv (Jg 17 J2 Jk) Y5)<|J9 14)
noncomputable def r20:Fx.Row:=Ji "_law_drawn" 20 (top 32) ["_law_script","_law_names_here","_law_scope"] ["_law_seed","_law_parts","_law_state_here"] [] t20
def t21:B5:=(sQ (sA 4<|J0 .max J2<|J0 .sub (J4 .neg Jc) J2)<|J6<|cP (.dct ["number","seed","parts","places","shift"])<|Jp J7 (J0 .mod J3<|J9 2147483646) J8 Jk<|J0 .mod Jb<|J9 600)
noncomputable def r21:Fx.Row:=Ji "_law_state" 21 (top 33) ["_law_cell_here","_law_seed","_law_parts","_law_shift"] ["_law_number"] [] t21
def t22:B5:=(sQ (Ja (tAn (Jd (J5 J2<|J1 "number") Jk)<|tB<|J0 .gt (J5 J2<|J1 "seed") Jk)<|sQ (sP .seti (J0 .mod (J0 .mul (J5 J2<|J1 "seed")<|J9 48271)<|J9 2147483647)<|zAv J2<|J1 "seed")<|Jm<|sP .seti (J0 .mod (J0 .mul (J5 J2<|J1 "seed")<|J5 J2<|J1 "seed")<|J9 2147483629)<|zAv J2<|J1 "number") rz1)
noncomputable def r22:Fx.Row:=Ji "_law_take" 22 (top 34) ["_law_state_here","_law_many"] ["_law_digit"] ["_law_state_here"] t22
def t23:B5:=(sQ (sP .seti (J0 (.add true) (J5 J2<|J1 "places") Jc)<|zAv J2<|J1 "places")<|sQ (sP .seti (J0 .sub (J5 J2<|J1 "parts") Jc)<|zAv J2<|J1 "parts")<|J6<|J0 .mod (J0 (.add false) (J0 .mul Y5<|J5 J2<|J1 "places")<|J5 J2<|J1 "shift")<|J9 600)
noncomputable def r23:Fx.Row:=Ji "_law_place" 23 (top 35) ["_law_state_here"] [] ["_law_state_here"] t23
def t24:B5:=(sQ (sA 2<|Jf 23 J2)<|sQ (Ja (tAn (tB<|J0 .ne J3<|cP (.lst false) aN)<|tB<|J0 .gt (Jg 22 J2 Jw) Jk)<|J6<|Jv (J1 "name") J8<|J5 J3<|Jg 22 J2<|J4 .len J3) zH4)
noncomputable def r24:Fx.Row:=Ji "_law_atom" 24 (top 36) ["_law_state_here","_law_scope"] ["_law_place_here","_law_number"] [] t24
def t25:B5:=(J6<|J4 .tupOf<|cLx (J4 .rng1<|Jg 22 J2 Jq) [1] true 2 [0,2,1,3] none<|Jh 32<|Jo J8 J7 Jb Je)
noncomputable def r25:Fx.Row:=Ji "_law_some" 25 (top 37) ["_law_state_here","_law_names_here","_law_scope","_law_deep"] [] [] t25
def t26:B5:=(sQ (sA 2<|Jg 22 J2<|J4 .len J3)<|sQ (sA 3<|J0 .min (Jg 22 J2 Jq)<|J4 .len J3)<|J6<|J4 .tupOf<|cLx (J4 .rng1 Jb) [1] true 2 [1,2] none<|J5 J8<|J0 .mod (J0 (.add false) Jb J3)<|J4 .len J8)
noncomputable def r26:Fx.Row:=Ji "_law_unlike" 26 (top 38) ["_law_state_here","_law_names_here"] ["_law_first","_law_many"] [] t26
def t27:B5:=(sQ (sPr 4 5 (J5 J3<|Jg 22 J2<|J4 .len J3)<|J1 "n")<|sQ (sA 6<|cLx (J4 .rng1<|J9 14) [1] true 2 [0] none<|Jf 23 J8)<|sQ (sA 7<|J0 (.add false) J8<|J0 (.lst false) J7 Je)<|sQ (sA 8<|Jh 32<|Jo J2 J3 Jr<|J0 .sub Jb Y0)<|sQ (sA 9<|Jh 32<|Jo J2 J3 Jr<|J0 .sub Jb Y0)<|sQ rz4 zE8)
noncomputable def r27:Fx.Row:=Ji "_law_loop" 27 (top 39) ["_law_state_here","_law_names_here","_law_scope","_law_deep"] ["_law_f","_law_n","_law_p","_law_wide_here","_law_body","_law_end","_law_less","_law_again","_law_step","_law_start"] [] t27
def t28:B5:=(sQ (sA 5<|Jf 23 J2)<|sQ (sA 6<|Jg 26 J2 J3)<|sQ (sA 7<|J5 J3<|Jg 22 J2<|J4 .len J3) rz5)
noncomputable def r28:Fx.Row:=Ji "_law_bind" 28 (top 40) ["_law_state_here","_law_names_here","_law_scope","_law_deep","_law_way"] ["_law_place_here","_law_some_here","_law_one","_law_begin","_law_tag","_law_yes"] [] t28
def t29:B5:=(J6<|J5 (cP (.lst false)<|aC (J1 "kind")<|Jp (J1 "odd") (J1 "big") (J1 "a") (J1 "b")<|J1 "ab")<|Jg 22 J2 Y0)
noncomputable def r29:Fx.Row:=Ji "_law_word" 29 (top 41) ["_law_state_here"] [] [] t29
def t30:B5:=(sQ (sA 5<|Jf 23 J2)<|sQ (Ja (tAn (Jd J7 Jk)<|tB<|J0 .ne J8<|cP (.lst false) aN)<|sQ (sA 6<|J5 J8<|Jg 22 J2<|J4 .len J8)<|J6<|Jt (J1 "set") Je Jl<|Jh 32<|Jo J2 J3 J8 Jb)<|sQ (Ja (Jd J7 Jc)<|J6<|Jt (J1 "make") Je (Jf 29 J2)<|Jh 25<|Jo J2 J3 J8 Jb)<|sQ (Ja (Jd J7 Jn)<|J6<|Y2 (J1 "ask") Je) zGy)
noncomputable def r30:Fx.Row:=Ji "_law_plain" 30 (top 42) ["_law_state_here","_law_names_here","_law_scope","_law_deep","_law_way"] ["_law_place_here","_law_one","_law_first","_law_other"] [] t30
def t31:B5:=(sQ (sA 4<|J5 J3<|Jg 22 J2<|J4 .len J3)<|sQ (sA 5<|Jg 26 J2 J3)<|sQ (sA 6<|Jt (J1 "fn") (Jf 23 J2) Je<|Jh 32<|Jo J2 J3 (J0 (.add false) J8<|J4 (.lstOf false) Je)<|J0 .sub Jb Jw)<|sQ (sA 7<|Jf 23 J2)<|sQ (sA 8<|J4 .tupOf<|cLx (J4 .seq Je) [1] true 2 [0,2,1,4,3] none<|Jh 32<|Jo J8 J7 (J0 (.add false) Jb<|J4 (.lst false) Je)<|J0 .sub Jl Jw)<|sQ (sA 9<|Jt (J1 "call") (Jf 23 J2) (Jv (J1 "name") (Jf 23 J2) J7) Ju) rz2)
noncomputable def r31:Fx.Row:=Ji "_law_helper" 31 (top 43) ["_law_state_here","_law_names_here","_law_scope","_law_deep"] ["_law_f","_law_some_here","_law_wide_here","_law_place_here","_law_args","_law_call"] [] t31
def t32:B5:=(sQ (sA 4<|Jg 22 J2<|J9 26)<|sQ (Ja (tOr' (tB<|J0 .lt J7 Jw)<|tOr' (tB<|J0 .le Jb Jk)<|tB<|J0 .le (J5 J2<|J1 "parts") Jk)<|J6<|Jg 24 J2 J8) zH3)
noncomputable def r32:Fx.Row:=Ji "_law_part" 32 (top 44) ["_law_state_here","_law_names_here","_law_scope","_law_deep"] ["_law_way"] [] t32
def t33:B5:=(sQ (Ja (tB<|J0 .inn J2<|cT<|aC (J1 "number")<|aC (J1 "name")<|aC (J1 "ask")<|Jp (J1 "tell") (J1 "do") (J1 "if") (J1 "fn")<|J1 "call")<|sQ (sA 1<|cP (.dct ["number","name","ask","tell","do","if"])<|aC (J1 "n")<|Jp (J1 "u") (J1 "") (J1 "E") (J1 "EE")<|J1 "EEE")<|J6<|cBM "dict" .dget J3<|zAv J2<|J5 (J0 (.lst false) (J1 "NE")<|J1 "ES")<|J4 .int1<|cB<|Jd J2<|J1 "call")<|sQ (sA 2<|cP (.dct ["let","set","math","make","match","raise","try"])<|aC (J1 "xEE")<|aC (J1 "uE")<|Jp (J1 "oEE") (J1 "wS") (J1 "EwNEE") (J1 "wE")<|J1 "EwxE")<|J6<|J5 J8 J2)
noncomputable def r33:Fx.Row:=Ji "_law_sorts" 33 (top 45) ["_law_kind"] ["_law_plain_here","_law_found"] [] t33
def t34:B5:=(sQ (Ja (Jd (J5 J2 Jk)<|J1 "fn")<|J6<|J4 (.lstOf false)<|J5 J2 Jn)<|sQ (Ja (tAn (Jd (J5 J2 Jk)<|J1 "let")<|Jd J3 Jy)<|J6<|J4 (.lst false)<|J5 J2 Jn)<|sQ (Ja (tAn (Jd (J5 J2 Jk)<|J1 "match")<|Jd J3 Jq)<|J6<|J4 (.lstOf false)<|J5 J2 Jy)<|sQ (Ja (tAn (Jd (J5 J2 Jk)<|J1 "try")<|Jd J3 Jq)<|J6<|J4 (.lst false)<|J5 J2 Jy)<|J6<|cP (.lst false) aN)
noncomputable def r34:Fx.Row:=Ji "_law_new" 34 (top 46) ["_law_part_here","_law_at"] [] [] t34
def t35:B5:=(sQ (sA 3<|J4 (.lst true)<|Jv J8 J2 J3)<|sQ (sF (J4 .enm<|Jf 33<|J5 J2 Jk) [4,5] false<|sQ (Ja (Jd Je<|J1 "E")<|Jm<|sE<|cBM "list" .ext Jb<|Y1<|Jh 35<|Jx (J5 J2<|J0 (.add false) Jn J7) (J0 (.add false) J3<|Jg 34 J2<|J0 (.add false) Jn J7)<|J0 (.add false) J8<|J4 (.lst false)<|J0 (.add false) Jn J7)<|Jm<|Ja (Jd Je<|J1 "S")<|Jm<|sF (J4 .rng1<|J4 .len<|J5 J2<|J0 (.add false) Jn J7) [6] true zGw)<|J6<|J4 .frz Jb)
noncomputable def r35:Fx.Row:=Ji "_law_spots" 35 (top 47) ["_law_part_here","_law_scope","_law_path"] ["_law_found","_law_k","_law_sort","_law_j"] ["_law_found","!_law_found"] t35
def t36:B5:=(sQ (Ja (Jd J3<|cP (.lst false) aN)<|J6 J8)<|J6<|J0 (.add false) (J0 (.add false) (J0 (.sl false false true) J2<|J5 J3 Jk)<|Js<|Jh 36<|Jx (J5 J2<|J5 J3 Jk) (J0 (.sl false true false) J3 Jc) J8)<|J0 (.sl false true false) J2<|J0 (.add false) (J5 J3 Jk) Jc)
noncomputable def r36:Fx.Row:=Ji "_law_put" 36 (top 48) ["_law_thing","_law_path","_law_new_here"] [] [] t36
def t37:B5:=(sQ (sA 5<|cLx (J4 .seq<|J0 (.add false) J8<|J0 (.lst false) (J1 "a")<|J1 "nowhere") [1] true 2 [3] (some<|tB<|J0 .nin J3 J8) J3) zE5)
noncomputable def r37:Fx.Row:=Ji "_law_bad" 37 (top 49) ["_law_sort","_law_field","_law_names_here","_law_scope","_law_cell_here"] ["_law_away","_law_five"] [] t37
def t38:B5:=(sQ (sA 5<|J0 .mod J7 Jq)<|sQ (Ja (Jd Je Jk)<|J6<|J0 (.add false) (J0 (.sl false false true) (J0 (.sl false true false) (cT<|aC (J1 "numbers")<|Jp (J1 "") Jq (cC .non) (J1 "Fn")<|Js<|J1 "fn")<|J0 .mod (J0 .fdiv J7 Jq) Y0) Jc)<|J0 (.sl false true false) J2 Jc)<|sQ (Ja (Jd Je Jc)<|sQ (sA 6<|cLx (J4 .seq J3) [1] true 2 [0] (some<|tB<|J0 .ne J3<|J5 J8 Jc) J3)<|sQ (sA 7<|J5 (J0 (.add false) (cP (.lst false)<|Jp (J0 .sub (J4 .neg Jc) J7) (J0 (.add false) (J9 600) J7) (cC<|.bl true) (cC .non)<|J1 "1") Jl)<|J0 .mod (J0 .fdiv J7 Jq)<|J0 (.add false) Jq<|J4 .len Jl)<|J6<|J0 (.add false) (J0 (.add false) (J0 (.sl false false true) J2 Jc)<|Js Jr)<|J0 (.sl false true false) J2 Jn)<|sQ (Ja (tOr' (Jd Je Jn)<|Jd (Jf 33<|J5 J2 Jk)<|J1 "")<|J6<|J5 (cP (.lst false)<|Jo (J0 (.add false) J2<|Js<|J5 J2<|J4 .neg Jc) (J0 (.sl false false true) J2<|J4 .neg Jc) (J4 (.lstOf false) J2)<|J0 (.sl false false true) J2 Jc)<|J0 .mod (J0 .fdiv J7 Jq) Jy)<|sQ (sA 8<|J0 .mod (J0 .fdiv J7 Jq)<|J4 .len<|Jf 33<|J5 J2 Jk)<|sQ (sA 7<|Jh 37<|Jp (J5 (Jf 33<|J5 J2 Jk) Ju) (J5 J2<|J0 (.add false) Jn Ju) J8 Jb<|J0 .fdiv J7<|J9 100)<|J6<|J0 (.add false) (J0 (.add false) (J0 (.sl false false true) J2<|J0 (.add false) Jn Ju)<|Js Jr)<|J0 (.sl false true false) J2<|J0 (.add false) Jw Ju)
noncomputable def r38:Fx.Row:=Ji "_law_faulty" 38 (top 50) ["_law_part_here","_law_places","_law_names_here","_law_scope","_law_cell_here"] ["_law_way","_law_others","_law_bad_here","_law_at"] [] t38
def t39:B5:=(sQ (sA 2<|Y2 (J1 "ask") J3)<|sQ (sF (J0 .rng2 Jc J2) [3] true<|Jm<|sA 2<|Jv (J1 "tell") (J0 .mod (J0 (.add false) J3 Jb)<|J9 600) J8)<|J6 J8)
noncomputable def r39:Fx.Row:=Ji "_law_nested" 39 (top 51) ["_law_many","_law_place_here"] ["_law_found","_law_k"] [] t39
def t40:B5:=(sQ (sP .seti (J0 .mod (J0 (.add false) (J5 J3<|J1 "place") Jc)<|J9 600)<|zAv J3<|J1 "place")<|sQ (sA 2<|J5 J3<|J1 "place")<|sQ (Ja (Jd J2 Jc)<|J6<|Jv (J1 "number") J8 J2)<|sQ (sA 3<|J0 .min Jy<|J0 .sub J2 Jc)<|sQ (sA 4<|cLx (J4 .rng1 Jb) [1] true 2 [3,0] none<|J0 (.add false) (J0 .fdiv (J0 .sub Jb Jc) J8)<|J4 .int1<|cB<|tB<|J0 .lt J3<|J0 .mod (J0 .sub Jb Jc) J8)<|J6<|Jt (J1 "make") J8 (J1 "tag")<|J4 .tupOf<|cLx (J4 .seq J7) [1] true 2 [1] none<|Jg 40 J3 J8)
noncomputable def r40:Fx.Row:=Ji "_law_wide" 40 (top 52) ["_law_many","_law_state_here"] ["_law_place_here","_law_some_here","_law_sizes"] ["_law_state_here"] t40
def t41:B5:=(sQ (sA 2<|Jf 16 J2)<|J6<|cB<|tAn (tB<|J4 (.isT "bool") J8)<|Jd J8 J3)
noncomputable def r41:Fx.Row:=Ji "_law_told" 41 (top 53) ["_law_thing","_law_due"] ["_law_found"] [] t41
def t42:B5:=(sQ (sA 1<|Jg 17 J2 Jk)<|sQ (sA 2<|Jg 19 (J0 .fdiv J3<|J9 100)<|J0 (.add false) Jw<|J0 .mod J3 Jy)<|sQ (sA 3<|Jh 20<|Jx J2 J8<|cP (.lst false) aN)<|sQ (sA 4<|Jh 35<|Jx Jb (cP (.lst false) aN)<|cP (.lst false) aN)<|sQ (sA 8<|cLx (J4 .seq J7) [1,2,3] false 4 [] none<|J5 J8 Jc)<|sQ (Ja (tNt<|tB<|Jg 41 Jb<|cC<|.bl true)<|J6<|cC<|.bl false)<|sQ (sF (J0 .rng2 Jy<|J0 .max Y0<|J0 .min (J4 .len J2)<|J9 24) [9] true zIz)<|sQ (sA 12<|J0 (.add false) (J9 14)<|J0 .mod (J0 .fdiv J3 Jw)<|J9 13)<|sQ (sA 13<|J0 (.add false) (J9 290)<|J0 .mod (J0 .fdiv J3 Jq)<|J9 21)<|sQ (Ja (tOr' (tNt<|tB<|Jg 41 (Jg 39 Yb<|J0 .mod J3<|J9 600)<|cB<|tB<|J0 .le Yb<|J9 20)<|tNt<|tB<|Jg 41 (Jg 39 (J9 1500) Jk)<|cC<|.bl false)<|J6<|cC<|.bl false)<|sQ (Ja (tNt<|tB<|Jg 41 (Jg 40 Y9<|J4 (.dct ["place"])<|J0 .mod J3<|J9 600)<|cB<|tB<|J0 .le Y9<|J9 300)<|J6<|cC<|.bl false)<|sQ (sA 14<|cP (.lst false)<|aC (cC .non)<|aC Jq<|aC (cC<|.bl true)<|aC (J1 "x")<|aC (cP (.lst false) aN)<|aC (cT aN)<|Jp (cP (.dct []) aN) (J4 (.lstOf false) Jb) (Js Jb) (Js<|J1 "ask")<|Jv (J1 "ask") Jc Jc)<|J6<|cB<|tAn (tB<|J4 .all<|cLx (J4 .seq Yc) [1] true 2 [] none<|Jg 41 J3<|cC<|.bl false)<|tB<|Jg 41 Jb<|cC<|.bl true)
noncomputable def r42:Fx.Row:=Ji "law" 42 (top 54) ["_law_script"] ["_law_cell_here","_law_names_here","_law_program","_law_spots_here","_law_path","_law_part_here","_law_scope","_law_places","_law_k","_law_number","_law_faulty_here","_law_many","_law_wide_here","_law_others"] [] t42
def rows:A0 Fx.Row:=[r0,r1,r2,r3,r4,r5,r6,r7,r8,r9,r10,r11,r12,r13,r14,r15,r16,r17,r18,r19,r20,r21,r22,r23,r24,r25,r26,r27,r28,r29,r30,r31,r32,r33,r34,r35,r36,r37,r38,r39,r40,r41,r42]
def tab:Nat->A3 De:=zE9 rows
def zGz:∀r∈rows,zEw tb tab r:=by
 repeat' first|exact alln|refine allc (zJq (by kernel_rfl) (by kernel_rfl)<|by kernel_rfl) ?_
def zJx{l:A0 J}(h:l.length=0):l=[]:=List.eq_nil_of_length_eq_zero h
def bd0{r:Fx.Row}(e:r.ps.length=0)(h:∀(kV a pm:A4)(an:A3 A7)(b ct :A4),bindArgs (PySem.W.fnOf r.x r.qual (zAq r.st) (zAl r.st) (zAe r.st) .none kV a pm an b ct) ⟨[],[]⟩=pure (r.ps.zip []):=by intros;rfl):BdC r:=λ_ _ _ _ _ _ us hl=>by
 obtain rfl:=zJx<|hl.trans e;exact h ..
def bd1{r:Fx.Row}(i:r.ps.length=1)(h:∀(kV a pm:A4)(an:A3 A7)(b ct e:A4),bindArgs (PySem.W.fnOf r.x r.qual (zAq r.st) (zAl r.st) (zAe r.st) .none kV a pm an b ct) ⟨[e],[]⟩=pure (r.ps.zip [e]):=by intros;rfl):BdC r:=λ_ _ _ _ _ _ us hl=>by
 let⟨_,rfl⟩:=zBd<|hl.trans i;exact h ..
def bd2{r:Fx.Row}(k:r.ps.length=2)(h:∀(kV a pm:A4)(an:A3 A7)(b ct i e:A4),bindArgs (PySem.W.fnOf r.x r.qual (zAq r.st) (zAl r.st) (zAe r.st) .none kV a pm an b ct) ⟨[i,e],[]⟩=pure (r.ps.zip [i,e]):=by intros;rfl):BdC r:=λ_ _ _ _ _ _ us hl=>by
 let⟨_,_,rfl⟩:=zIp<|hl.trans k;exact h ..
def bd3{r:Fx.Row}(m:r.ps.length=3)(h:∀(kV a pm:A4)(an:A3 A7)(b ct k i e:A4),bindArgs (PySem.W.fnOf r.x r.qual (zAq r.st) (zAl r.st) (zAe r.st) .none kV a pm an b ct) ⟨[k,i,e],[]⟩=pure (r.ps.zip [k,i,e]):=by intros;rfl):BdC r:=λ_ _ _ _ _ _ us hl=>by
 let⟨_,_,_,rfl⟩:=zIo<|hl.trans m;exact h ..
def bd4{r:Fx.Row}(n:r.ps.length=4)(h:∀(kV a pm:A4)(an:A3 A7)(b ct m k i e:A4),bindArgs (PySem.W.fnOf r.x r.qual (zAq r.st) (zAl r.st) (zAe r.st) .none kV a pm an b ct) ⟨[m,k,i,e],[]⟩=pure (r.ps.zip [m,k,i,e]):=by intros;rfl):BdC r:=λ_ _ _ _ _ _ us hl=>by
 let⟨_,_,_,_,rfl⟩:=zIn<|hl.trans n;exact h ..
def bd5{r:Fx.Row}(o:r.ps.length=5)(h:∀(kV a pm:A4)(an:A3 A7)(b ct n m k i e:A4),bindArgs (PySem.W.fnOf r.x r.qual (zAq r.st) (zAl r.st) (zAe r.st) .none kV a pm an b ct) ⟨[n,m,k,i,e],[]⟩=pure (r.ps.zip [n,m,k,i,e]):=by intros;rfl):BdC r:=λ_ _ _ _ _ _ us hl=>by
 let⟨_,_,_,_,_,rfl⟩:=zJw<|hl.trans o;exact h ..
section
variable{K:xFr}{f C:A7}{oc kV dc pm cd ct mc:A4}{od an:A3 A7}{sl:Array<|A3 A4}{nm q:Str}{st:Stmt}
def csr(p:PySem.W.nsIn K mainGlobals nm=some (some<|.ref C))(o:PySem.W.plainGet K C Str.empty=true)(n:PySem.W.hasDictIn K C=true)(m:PySem.W.plainOver K C=true)(k:PySem.W.findIn K (.ref C) "__setattr__"=some (some<|.builtin "object.__setattr__"))(i:PySem.W.makesIn K C=true)(e:PySem.W.keepIn K (.ref C)=true)(b:PySem.W.findIn K (.ref C) "__class__"=some (some<|.builtin "object.__class__"))(a:PySem.W.mroIn K C (.type "object")=some true):CsR K C nm:=⟨p,⟨o,n,m,k⟩,i,e,b,a⟩
def TxA(K:xFr)(t:A7)(xs:A0 V):Prop:=∀H,SqT K H t xs
def tup_is{t:A7}{d:A3 A7}{a:Array A4}{n:Nat}{sl:Array<|A3 A4}{xs:A0 V}(h:K.lookup t=some ⟨.type "tuple",d,.seq a n,sl⟩)(e:a.size<=1000)(b:zAk xs a.toList):TxA K t xs:=λH=>.inr ⟨_,a,n,h,rfl,rfl,zFo (),b⟩
def ktS{l:A9}(h:TxA K C<|l.map V.str)(W:Wd):Rv (mkB K mg cls kds) W (.kt<|l.map U.str)<|.ref C:=xA (B:=mkB K mg cls kds) h W
def ktI{l:B2}(h:TxA K C<|l.map V.int)(W:Wd):Rv (mkB K mg cls kds) W (.kt<|l.map U.int)<|.ref C:=xB (B:=mkB K mg cls kds) h W
end
noncomputable def cl8(cChecker:A7):A0<|Str×A7:=[("Checker",cChecker)]
def mr{r:Fx.Row}(i:Nat)(h:rows[i]?=some r):r∈rows:=xAc h
def all_mk{l:PySem.W.OpenLaw}{w:World}{K:xFr}{h:Heap}{fa k I C bo av b aV aP aW aU aQ aR aY aS aT aX aG aM aN aK aH aC aO aJ aI aL:A7}(X:K.In h)(G:h.Ns mainGlobals mg)(R:mg "law"=some (.ref fa)){al:Tok}{ab:Tok}{af:Tok}{ak:Tok}{bP:Tok}{am:Array DictEntry}{br:Nat}{ai:Array DictEntry}{bl:Nat}(m:CsR K k "Checker")(aw:zEd K k fls=true)(bp:zC1 K "int" (cl8 k)=true)(bY:zC1 K "bool" (cl8 k)=true)(bs:zC1 K "str" (cl8 k)=true)(bC:zC1 K "tuple" (cl8 k)=true)(bw:mgB K bls=true)(hn_:W.specialIn K (.builtin "object.__class__") "__get__"=some (some<|.builtin "getset_descriptor.__get__"))(ht_:W.takesIn K (.builtin "object.__class__")=some true)(d0:DnR K r0)(d1:DnR K r1)(d2:DnR K r2)(d3:DnR K r3)(d4:DnR K r4)(d5:DnR K r5)(d6:DnR K r6)(d7:DnR K r7)(d8:MdR K k r8)(d9:MdR K k r9)(d10:MdR K k r10)(d11:MdR K k r11)(d12:DnR K r12)(d13:DnR K r13)(d14:DnR K r14)(d15:DnR K r15)(d16:DnR K r16)(d17:DnR K r17)(d18:DnR K r18)(d19:DnR K r19)(d20:DnR K r20)(d21:DnR K r21)(d22:DnR K r22)(d23:DnR K r23)(d24:DnR K r24)(d25:DnR K r25)(d26:DnR K r26)(d27:DnR K r27)(d28:DnR K r28)(d29:DnR K r29)(d30:DnR K r30)(d31:DnR K r31)(d32:DnR K r32)(d33:DnR K r33)(d34:DnR K r34)(d35:DnR K r35)(d36:DnR K r36)(d37:DnR K r37)(d38:DnR K r38)(d39:DnR K r39)(d40:DnR K r40)(Z:DnR K r41)(o:DnR K r42)(aj:W.nsIn K mainGlobals "SpaceError"=some (some<|.ref I))(ad:W.excIn K I bmV "ValueError.__new__"=true)(ag:zC3 K I=true)(ah:W.keepIn K (.ref I)=true)(bS:W.nsIn K mainGlobals "NoPart"=some (some<|.ref C))(bI:W.excIn K C bmV "ValueError.__new__"=true)(a4:zC3 K C=true)(a2:W.keepIn K (.ref C)=true)(ac:W.nsIn K mainGlobals "MOST_PARTS"=some (some<|.int 300 al))(aZ:W.nsIn K mainGlobals "MOST_WITHIN"=some (some<|.int 20 ab))(aa:W.nsIn K mainGlobals "MOST_IN_ROW"=some (some<|.int 4 af))(ae:W.nsIn K mainGlobals "LAST_PLACE"=some (some<|.int 599 ak))(ax:W.nsIn K mainGlobals "LETTERS"=some (some<|.str "abcdefghijklmnopqrstuvwxyz" bP))(bt:W.nsIn K mainGlobals "OPS"=some (some<|.ref bo))(bv:TxA K bo<|(["add","sub","mul","less","same"]:A9).map V.str)(ba:W.nsIn K mainGlobals "HEADS"=some (some<|.ref av))(bq:TxA K av<|(["fn","call","let","set","do","if","add","sub","mul","less","same","make","match","raise","try","tell","ask"]:A9).map V.str)(bZ:W.nsIn K mainGlobals "FORMS"=some (some<|.ref b))(bj:K.lookup b=some ⟨.type "dict",none,.dict am br,#[]⟩)(bg:PySem.W.KeysLit w.params am.toList)(bh:(b==sysModules)=false)(bc:nsB K b cI=true)(bG:W.nsIn K b "number"=some (some<|.ref aV))(bf:TxA K aV<|(["number"]:A9).map V.str)(bM:W.nsIn K b "name"=some (some<|.ref aP))(bk:TxA K aP<|(["used"]:A9).map V.str)(bK:W.nsIn K b "fn"=some (some<|.ref aW))(bW:TxA K aW<|(["names","part"]:A9).map V.str)(bJ:W.nsIn K b "call"=some (some<|.ref aU))(bn:TxA K aU<|(["part","parts"]:A9).map V.str)(bT:W.nsIn K b "let"=some (some<|.ref aQ))(bb:TxA K aQ<|(["name","part","part"]:A9).map V.str)(bD:W.nsIn K b "set"=some (some<|.ref aR))(bm:TxA K aR<|(["used","part"]:A9).map V.str)(bH:W.nsIn K b "do"=some (some<|.ref aY))(bd:TxA K aY<|(["part","part"]:A9).map V.str)(bB:W.nsIn K b "if"=some (some<|.ref aS))(be:TxA K aS<|(["part","part","part"]:A9).map V.str)(a9:W.nsIn K b "math"=some (some<|.ref aT))(bi:TxA K aT<|(["op","part","part"]:A9).map V.str)(bQ:W.nsIn K b "make"=some (some<|.ref aX))(bX:TxA K aX<|(["word","parts"]:A9).map V.str)(ar:W.nsIn K b "match"=some (some<|.ref aG))(bU:TxA K aG<|(["part","word","names","part","part"]:A9).map V.str)(aq:W.nsIn K b "raise"=some (some<|.ref aM))(a8:TxA K aM<|(["word","part"]:A9).map V.str)(ao:W.nsIn K b "try"=some (some<|.ref aN))(bF:TxA K aN<|(["part","word","name","part"]:A9).map V.str)(az:W.nsIn K b "tell"=some (some<|.ref aK))(a6:TxA K aK<|(["part"]:A9).map V.str)(a0:W.nsIn K b "ask"=some (some<|.ref aH))(a7:TxA K aH<|([]:A9).map V.str)(bN:W.nsIn K mainGlobals "SCOPES"=some (some<|.ref aC))(a5:K.lookup aC=some ⟨.type "dict",none,.dict ai bl,#[]⟩)(bE:PySem.W.KeysLit w.params ai.toList)(bL:(aC==sysModules)=false)(bV:nsB K aC dE=true)(a1:W.nsIn K aC "fn"=some (some<|.ref aO))(a3:TxA K aO<|([2,3]:B2).map V.int)(ap:W.nsIn K aC "let"=some (some<|.ref aJ))(bA:TxA K aJ<|([2,4]:B2).map V.int)(ay:W.nsIn K aC "match"=some (some<|.ref aI))(bO:TxA K aI<|([4,5]:B2).map V.int)(au:W.nsIn K aC "try"=some (some<|.ref aL))(bR:TxA K aL<|([4,5]:B2).map V.int)(bu:∀ns:B2,ns.length<=63->(zAx ups tab fw<|d+1).call 42 [.kl<|ns.map U.int] [] (λ_ _=>False) (λv _=>v=.bl true))
  :∃t:FuncData,(∀(s:A5)(v:A4),BindsTo s t ⟨[v],[]⟩ [("_law_script",v)])/\∀a:Heap,K.In a->a.Ns mainGlobals mg->zA9 l.prog w K mg a (CXo l.prog w) (2*(d+1)+1) fa t ["_law_script"] (zDn K 63):=by
 have P:∀a,∀p∈gls,zDv l.prog w a (mkB K mg (cl8 k) [(b,cm,cI),(aC,dP,dE)]) ups tb rows p:=λa=>(allc (cn X G d0 (mr 0 rfl)<|bd1 rfl)
   (allc (cn X G d1 (mr 1 rfl)<|bd1 rfl)
   (allc (cn X G d2 (mr 2 rfl)<|bd2 rfl)
   (allc (cn X G d3 (mr 3 rfl)<|bd1 rfl)
   (allc (cn X G d4 (mr 4 rfl)<|bd1 rfl)
   (allc (cn X G d5 (mr 5 rfl)<|bd1 rfl)
   (allc (cn X G d6 (mr 6 rfl)<|bd1 rfl)
   (allc (cn X G d7 (mr 7 rfl)<|bd1 rfl)
   (allc (zx X G m d8 rfl (mr 8 rfl) (xAc (i:=0) rfl)<|bd1 rfl)
   (allc (cn X G d12 (mr 12 rfl)<|bd1 rfl)
   (allc (cn X G d13 (mr 13 rfl)<|bd1 rfl)
   (allc (cn X G d14 (mr 14 rfl)<|bd3 rfl)
   (allc (cn X G d15 (mr 15 rfl)<|bd1 rfl)
   (allc (cn X G d16 (mr 16 rfl)<|bd1 rfl)
   (allc (cn X G d17 (mr 17 rfl)<|bd2 rfl)
   (allc (cn X G d18 (mr 18 rfl)<|bd0 rfl)
   (allc (cn X G d19 (mr 19 rfl)<|bd2 rfl)
   (allc (cn X G d20 (mr 20 rfl)<|bd3 rfl)
   (allc (cn X G d21 (mr 21 rfl)<|bd4 rfl)
   (allc (cn X G d22 (mr 22 rfl)<|bd2 rfl)
   (allc (cn X G d23 (mr 23 rfl)<|bd1 rfl)
   (allc (cn X G d24 (mr 24 rfl)<|bd2 rfl)
   (allc (cn X G d25 (mr 25 rfl)<|bd4 rfl)
   (allc (cn X G d26 (mr 26 rfl)<|bd2 rfl)
   (allc (cn X G d27 (mr 27 rfl)<|bd4 rfl)
   (allc (cn X G d28 (mr 28 rfl)<|bd5 rfl)
   (allc (cn X G d29 (mr 29 rfl)<|bd1 rfl)
   (allc (cn X G d30 (mr 30 rfl)<|bd5 rfl)
   (allc (cn X G d31 (mr 31 rfl)<|bd4 rfl)
   (allc (cn X G d32 (mr 32 rfl)<|bd4 rfl)
   (allc (cn X G d33 (mr 33 rfl)<|bd1 rfl)
   (allc (cn X G d34 (mr 34 rfl)<|bd2 rfl)
   (allc (cn X G d35 (mr 35 rfl)<|bd3 rfl)
   (allc (cn X G d36 (mr 36 rfl)<|bd3 rfl)
   (allc (cn X G d37 (mr 37 rfl)<|bd5 rfl)
   (allc (cn X G d38 (mr 38 rfl)<|bd5 rfl)
   (allc (cn X G d39 (mr 39 rfl)<|bd2 rfl)
   (allc (cn X G d40 (mr 40 rfl)<|bd2 rfl)
   (allc (cn X G Z (mr 41 rfl)<|bd2 rfl)
   (allc (cn X G o (mr 42 rfl)<|show BdC r42 from bd1 rfl)
   (allc (vn X G aj ad ag ah)
   (allc (vn X G bS bI a4 a2)
   (allc (iZ X G ac)
   (allc (iZ X G aZ)
   (allc (iZ X G aa)
   (allc (iZ X G ae)
   (allc (xO X G ax)
   (allc (vo X G bt λW=>(ktS bv) W)
   (allc (vo X G ba λW=>(ktS bq) W)
   (allc (vp X G bZ<|xAc (i:=0) rfl)
   (allc (vp X G bN<|xAc (i:=1) rfl)
   alln)))))))))))))))))))))))))))))))))))))))))))))))))))
 have N:∀p∈mss,zHp (mkB K mg (cl8 k) [(b,cm,cI),(aC,dP,dE)]) rows p:=(allc (qH (by kernel_rfl) m d9 (mr 9 rfl) (xAc (i:=0) rfl)<|bd4 rfl)
   (allc (qH (by kernel_rfl) m d10 (mr 10 rfl) (xAc (i:=0) rfl)<|bd2 rfl)
   (allc (qH (by kernel_rfl) m d11 (mr 11 rfl) (xAc (i:=0) rfl)<|bd5 rfl)
   alln)))
 have n:∀p∈(cl8 k),Cls K p.2/\W.findIn K (.ref p.2) "__class__"=some (some<|.builtin "object.__class__")/\W.mroIn K p.2 (.type "object")=some true:=(allc ⟨m.cls,m.ha,m.hm⟩
   alln)
 have M:∀p∈(cl8 k),zEd K p.2 fls=true:=(allc aw
   alln)
 have O:∀q∈([(b,cm,cI),(aC,dP,dE)]:A0<|A7×A0 (Str×U)×A9),zI2 w (mkB K mg (cl8 k) [(b,cm,cI),(aC,dP,dE)]) q:=(allc ⟨⟨_,_,bj,bg,bh⟩,(allc ⟨.ref aV,_,bG,rfl,λW=>(ktS bf) W⟩<|allc ⟨.ref aP,_,bM,rfl,λW=>(ktS bk) W⟩<|allc ⟨.ref aW,_,bK,rfl,λW=>(ktS bW) W⟩<|allc ⟨.ref aU,_,bJ,rfl,λW=>(ktS bn) W⟩<|allc ⟨.ref aQ,_,bT,rfl,λW=>(ktS bb) W⟩<|allc ⟨.ref aR,_,bD,rfl,λW=>(ktS bm) W⟩<|allc ⟨.ref aY,_,bH,rfl,λW=>(ktS bd) W⟩<|allc ⟨.ref aS,_,bB,rfl,λW=>(ktS be) W⟩<|allc ⟨.ref aT,_,a9,rfl,λW=>(ktS bi) W⟩<|allc ⟨.ref aX,_,bQ,rfl,λW=>(ktS bX) W⟩<|allc ⟨.ref aG,_,ar,rfl,λW=>(ktS bU) W⟩<|allc ⟨.ref aM,_,aq,rfl,λW=>(ktS a8) W⟩<|allc ⟨.ref aN,_,ao,rfl,λW=>(ktS bF) W⟩<|allc ⟨.ref aK,_,az,rfl,λW=>(ktS a6) W⟩<|allc ⟨.ref aH,_,a0,rfl,λW=>(ktS a7) W⟩ alln),bc⟩
   (allc ⟨⟨_,_,a5,bE,bL⟩,(allc ⟨.ref aO,_,a1,rfl,λW=>(ktI a3) W⟩<|allc ⟨.ref aJ,_,ap,rfl,λW=>(ktI bA) W⟩<|allc ⟨.ref aI,_,ay,rfl,λW=>(ktI bO) W⟩<|allc ⟨.ref aL,_,au,rfl,λW=>(ktI bR) W⟩ alln),bV⟩
   alln))
 have pf:∀a,Pf l.prog w a (mkB K mg (cl8 k) [(b,cm,cI),(aC,dP,dE)]) ups tb rows:=λa=>
  yM (P a) N (λx hx=>W.mg_none_of X G<|iV<|xCx.mp bw x hx) (zGb bp) (zGb bY) (zGb bs) (zGb bC) (clF (λp hp=>(n p hp).1) M) (clT n hn_ ht_) (kdF O)
 let⟨f,t,h0,F⟩:=o;have e:=R.symm.trans<|W.mg_of X G h0;cases e;refine⟨t,λs v=>?_,λa _ _=>?_⟩
 .let⟨oc,od,kV,Y,pm,an,cdv,ct,osl,rfl,_⟩:=F.ex;exact .of_eq<|(show BdC r42 from bd1 rfl) kV Y pm an cdv ct [v] rfl
 .exact(ym (fw:=fw) (pf a) zGz (r:=r42) (mr 42 rfl) (Fun.fa F) d).imp λvs H Q E z=>xw (B:=mkB K mg (cl8 k) [(b,cm,cI),(aC,dP,dE)]) (zFm<|d+1) bu vs H Q E z
@[irreducible] noncomputable def Gd (fw d:Nat):B9:=zAx ups tab fw d
def kc:Gd fw d=zAx ups tab fw d:=by unfold Gd;rfl
section
variable{fw d i:Nat}{p:Pm}{vs:B0}{S S':So}{x:B8}{k:B7}{v:U}{a b:Unit->Prop}{de:De}
def pd(e:pr ups p vs S=.ok v S')(h:k v S'):(Gd fw d).prim p vs S x k:=by rw[kc];exact pm e h
def pv(v:U)(h:k v S)(e:pr ups p vs S=.ok v S:=by rfl):(Gd fw d).prim p vs S x k:=pd e h
def bT(h:a Unit.unit):(Gd fw d).br true a b:=by rw[kc];exact brT h
def bF(h:b Unit.unit):(Gd fw d).br false a b:=by rw[kc];exact brF h
def bI{c:A8}(h1:c=true->a Unit.unit)(h2:c=false->b Unit.unit):(Gd fw d).br c a b:=by
 cases c
 .exact bF<|h2 rfl
 .exact bT<|h1 rfl
def cd(de:De)(h:de.t (Gd fw d) (stU de.n vs) S<|zAn x k)(e:tab i=some de:=by kernel_rfl)(m:vs.length=de.np:=by rfl):(Gd fw<|d+1).call i vs S x k:=by
 rw[kc] at h⊢;exact zHf e m h
end
structure Sx where
 n:Int
 s:Int
 a:Int
 k:Int
 h:Int
noncomputable def Sx.kv(x:Sx):A0<|Key×U:=[(.inr "number",.int x.n),(.inr "seed",.int x.s),(.inr "parts",.int x.a),(.inr "places",.int x.k),(.inr "shift",.int x.h)]
structure Bl(x:Sx)(i:Nat)(as:B0)(lv:Nat)(v:U)(x':Sx):Prop where
 h:∀{fw d p:Nat}{S:So}{xx:B8}{K:B7},at? S p=some (.dct x.kv)->K v (set S p (.dct x'.kv))->(Gd fw (d+lv)).call i (.ref p::as) S xx K
theorem zBq{J:Type}:∀{l:A0 J}{p:Nat}{o:J},at? l p=some o->set l p o=l
 |_::_,0,_,h=>by cases h;rfl
 |_::l,p+1,o,h=>congrArg _<|zBq (l:=l) h
def Sx.ok(x:Sx):Prop:=0<=x.n/\0<=x.s/\x.s<2147483647
noncomputable def Sx.fl(x:Sx):Sx:=if x.n=0/\x.s>0 then{x with s:=x.s*48271%2147483647,n:=(x.s*48271%2147483647)*(x.s*48271%2147483647)%2147483629} else x
def Sx.fl_ok{x:Sx}(h:x.ok):x.fl.ok:=by
 let⟨e,b,a⟩:=h;unfold Sx.fl;split
 .exact⟨xBa _ ∅,xBa _ ∅,xBb _ ∅⟩
 .exact⟨e,b,a⟩
noncomputable def Sx.dg(x:Sx)(m:Int):Int:=x.fl.n%m
noncomputable def Sx.tk(x:Sx)(m:Int):Sx:={x.fl with n:=x.fl.n / m}
def Sx.tk_ok{x:Sx}{m:Int}(h:x.ok)(a:0<m):(x.tk m).ok:=by
 let⟨i,e,b⟩:=x.fl_ok h;exact⟨Int.ediv_nonneg i<|Int.le_of_lt a,e,b⟩
def sml(a:Int):Prop:=-(10^40)<a/\a<10^40
def kz{a b:Int}(i:sml a)(e:sml b):pr ups .mul [.int a,.int b] S=.ok (.int<|a*b) S:=by
 show(match decide (a.natAbs<2^150/\b.natAbs<2^150\/b.natAbs<2^60\/a.natAbs<2^60) with|true=>Res.ok (.int<|a*b) S|false=>.stuck)=_;unfold sml at i e;rw[xBd<|.inl ⟨(),()⟩]
def cN{a m:Int}(h:0<m/\m<=10^18):pr ups .fdiv [.int a,.int m] S=.ok (.int<|a / m) S:=by
 show(match decide (0<m/\m<=10^18) with|true=>Res.ok (.int<|a / m) S|false=>.stuck)=_;rw[xBd h]
def cb{a m:Int}(h:0<m):pr ups .mod [.int a,.int m] S=.ok (.int<|a%m) S:=by
 show(match decide (0<m) with|true=>Res.ok (.int<|a%m) S|false=>.stuck)=_;rw[xBd h]
def cj{a b:Int}:pr ups .eq [.int a,.int b] S=.ok (.bl<|decide<|a=b) S:=rfl
section
variable{fw d p:Nat}{S:So}{x:Sx}
def xz(h:at? S p=some (.dct x.kv)):pr ups .ix [.ref p,.str "number"] S=.ok (.int x.n) S:=dN h rfl
def uc(h:at? S p=some (.dct x.kv)):pr ups .ix [.ref p,.str "seed"] S=.ok (.int x.s) S:=dN h rfl
def qM(h:at? S p=some (.dct x.kv)):pr ups .ix [.ref p,.str "parts"] S=.ok (.int x.a) S:=dN h rfl
def zt(h:at? S p=some (.dct x.kv)):pr ups .ix [.ref p,.str "places"] S=.ok (.int x.k) S:=dN h rfl
def AD(h:at? S p=some (.dct x.kv)):pr ups .ix [.ref p,.str "shift"] S=.ok (.int x.h) S:=dN h rfl
def gA{x':Sx}{f:Str}(h:at? S p=some (.dct x.kv))(e:putK (.inr f) v x.kv=x'.kv):pr ups .seti [.ref p,.str f,v] S=.ok .non (set S p<|.dct x'.kv):=by
 rw[<- e];exact iC h (by show 5+1<=2^24;decide)
end
def cw{x:Sx}{m:Int}(w:x.ok)(o:0<m/\m<=10 ^ 18):Bl x 22 [.int m] 1 (.int<|x.dg m)<|x.tk m:=⟨λ{fw d p S xx K} h k=>by
 erw[cd ⟨2,3,t22⟩];have i:∀{S:So},at? S p=some (.dct x.fl.kv)->K (.int<|x.dg m) (set S p<|.dct (x.tk m).kv)->rz1 (Gd fw d) [some<|.ref p,some<|.int m,none] S (zAn xx K):=λ{S} h k=>by
  erw[pd (xz h),pd (cb o.1),pd (xz h),pd (cN o),pd (gA (x':=x.tk m) h rfl),<-k]
 erw[pd (xz h),pd cj];by_cases h0:x.n=0
 .rw[xBd h0];erw[bT,pd (uc h),pv (.bl<|decide<|0<x.s)];by_cases h1:0<x.s
  .have e:x.fl={x with s:=x.s*48271%2147483647,n:=(x.s*48271%2147483647)*(x.s*48271%2147483647)%2147483629}:=xCg ⟨h0,h1⟩;have B:=w.2.2;rw[xBd h1];erw[bT,pd (uc h),pd (kz (a:=x.s) (b:=48271) (by unfold sml;lia)<|by unfold sml;decide),pd (cb ∅)];obtain⟨t,q⟩:0<=x.s*48271%2147483647/\x.s*48271%2147483647<2147483647:=⟨xBa _ ∅,xBb _ ∅⟩
   generalize x.s*48271%2147483647=s' at e t q⊢;erw[pd (gA (x':={x with s:=s'}) h rfl)];have g:=zAc (o':=Ob.dct ({x with s:=s'}:Sx).kv) h;erw[pd (uc g),pd (uc g),pd (kz (a:=s') (b:=s') (by unfold sml;lia)<|by unfold sml;lia),pd (cb ∅),pd (gA (x':=x.fl) g<|by rw[e];rfl)];exact i (zAc g) (by rw[zAa,zAa];exact k)
  .have e:x.fl=x:=xCf λz=>h1 z.2;rw[xCn h1];erw[bF];exact i (by rw[e];exact h) k
 .have e:x.fl=x:=xCf λz=>h0 z.1;rw[xCn h0];refine bF ?_;refine bF ?_;exact i (by rw[e];exact h) k⟩
noncomputable def Sx.nx(x:Sx):Sx:={x with k:=x.k+1,a:=x.a-1}
noncomputable def Sx.pl(x:Sx):Int:=(7*(x.k+1)+x.h)%600
def cf{x:Sx}(i:0<=x.k/\x.k<=10000):Bl x 23 [] 1 (.int x.pl) x.nx:=⟨λ{fw d p S xx K} h m=>by
 refine cd ⟨1,1,t23⟩ ?_;refine pd (zt h) ?_;refine pv (.int<|x.k+1) ?_;refine pd (gA (x':={x with k:=x.k+1}) h rfl) ?_;have g:=zAc (o':=Ob.dct ({x with k:=x.k+1}:Sx).kv) h;refine pd (qM g) ?_;refine pv (.int<|x.a-1) ?_;refine pd (gA (x':=x.nx) g rfl) ?_;have e:=zAc (o':=Ob.dct x.nx.kv) g;refine pd (zt e) ?_;refine pd (kz (a:=7) (b:=x.k+1) (by unfold sml;decide)<|by unfold sml;lia) ?_;refine pd (AD e) ?_;refine pv (.int<|7*(x.k+1)+x.h) ?_;refine pv (.int x.pl) ?_;rw[zAa];exact m⟩
inductive Pg where
 |num (pl n:Int)|nam (pl:Int) (x:Str)|fn (pl:Int) (xs:List Str) (b:Pg)|call (pl:Int) (f:Pg) (as:List Pg)|lt (pl:Int) (x:Str) (a b:Pg)|st (pl:Int) (x:Str) (a:Pg)|dd (pl:Int) (a b:Pg)|iff (pl:Int) (a b c:Pg)
 |math (pl:Int) (o:Str) (a b:Pg)|make (pl:Int) (t:Str) (as:List Pg)|mat (pl:Int) (a:Pg) (t:Str) (xs:List Str) (b c:Pg)|rai (pl:Int) (w:Str) (a:Pg)|try_ (pl:Int) (a:Pg) (w x:Str) (b:Pg)|tell (pl:Int) (a:Pg)|ask (pl:Int)|bad (v:U)
mutual
noncomputable def Pg.u:Pg->U
 |.num pl n=>.tup [.str "number",.int pl,.int n]
 |.nam pl x=>.tup [.str "name",.int pl,.str x]
 |.fn pl xs b=>.tup [.str "fn",.int pl,.tup<|xs.map .str,b.u]
 |.call pl f as=>.tup [.str "call",.int pl,f.u,.tup<|Pg.us as]
 |.lt pl x a b=>.tup [.str "let",.int pl,.str x,a.u,b.u]
 |.st pl x a=>.tup [.str "set",.int pl,.str x,a.u]
 |.dd pl a b=>.tup [.str "do",.int pl,a.u,b.u]
 |.iff pl a b c=>.tup [.str "if",.int pl,a.u,b.u,c.u]
 |.math pl o a b=>.tup [.str "math",.int pl,.str o,a.u,b.u]
 |.make pl t as=>.tup [.str "make",.int pl,.str t,.tup<|Pg.us as]
 |.mat pl a t xs b c=>.tup [.str "match",.int pl,a.u,.str t,.tup<|xs.map .str,b.u,c.u]
 |.rai pl w a=>.tup [.str "raise",.int pl,.str w,a.u]
 |.try_ pl a w x b=>.tup [.str "try",.int pl,a.u,.str w,.str x,b.u]
 |.tell pl a=>.tup [.str "tell",.int pl,a.u]
 |.ask pl=>.tup [.str "ask",.int pl]
 |.bad v=>v
noncomputable def Pg.us:A0 Pg->B0
 |[]=>[]
 |a::r=>a.u::Pg.us r
end
variable{x:Sx}{sc:A9}
def scU(sc:A9):U:=.lst<|sc.map .str
def fD:pr ups .ne [scU sc,.lst []] S=.ok (.bl (!sc.isEmpty)) S:=by
 cases sc <;> rfl
def Sx.dg_lt{m:Int}(a:0<m):0<=x.dg m/\x.dg m<m:=⟨xBa _ (),xBb _ a⟩
def fe{i:Int}(h:0<=i/\i<sc.length):∃w∈sc,∀{S:So},pr ups .ix [scU sc,.int i] S=.ok (.str w) S:=by
 let⟨j,rfl⟩:=Int.eq_ofNat_of_zero_le h.1;have a:j<sc.length:=by lia
 refine⟨sc[j],List.getElem_mem a,λ{S}=>?_⟩;show opt (atI (sc.map U.str) (j:Int)) S=_;rw[dh (v:=.str sc[j])<|by rw[xAw,xAk a];rfl];rfl
def dH:pr ups .len [scU sc] S=.ok (.int sc.length) S:=by
 show Res.ok (.int ((sc.map U.str).length:Nat)) S=_;rw[xAa]
structure Sx.Le(x x':Sx):Prop where
 ok:x'.ok
 a:x'.a=x.a
 k:x'.k=x.k
 h:x'.h=x.h
def Sx.fl_le:x.fl.a=x.a/\x.fl.k=x.k/\x.fl.h=x.h:=by
 unfold Sx.fl;split <;> exact⟨rfl,rfl,rfl⟩
def Sx.tk_le{m:Int}(a:x.ok)(b:0<m):x.Le<|x.tk m:=⟨x.tk_ok a b,x.fl_le.1,x.fl_le.2.1,x.fl_le.2.2⟩
theorem Sx.Le.trans{y z:Sx}(h:x.Le y)(g:y.Le z):x.Le z:=⟨g.ok,g.a.trans h.a,g.k.trans h.k,g.h.trans h.h⟩
def At(sc:A9)(pl:Int)(P:Pg):Prop:=(∃w∈sc,P=.nam pl w)\/∃n,-(10^12)<n/\n<10^12/\P=.num pl n
def zFh{pl:Int}(e:x.ok):∃n x',-(10^12)<n/\n<10^12/\x.Le x'/\∀{fw d p:Nat}{S:So}{xx:B8}{K:B7}{a1 a3:A3 U},at? S p=some (.dct x.kv)->K (Pg.num pl n).u (set S p<|.dct x'.kv)->zH4 (Gd fw<|d+1) [some<|.ref p,a1,some<|.int pl,a3] S (zAn xx K):=by
 have a:=x.tk_le (m:=10) e ∅;have B:=x.dg_lt (m:=10) ∅;by_cases h9:x.dg 10=9
 .have b:=(x.tk 10).tk_le (m:=10^12) a.ok ∅;have o:=((x.tk 10).tk<|10^12).tk_le (m:=10^12) b.ok ∅;have w:=(x.tk 10).dg_lt (m:=10^12) ∅;have t:=((x.tk 10).tk<|10^12).dg_lt (m:=10^12) ∅;refine⟨(x.tk 10).dg (10^12)-((x.tk 10).tk<|10^12).dg (10^12),_,(),(),(a.trans b).trans o,λ{fw d p S xx K a1 a3} h i=>?_⟩
  .erw[(cw e ∅).h h];have k:=zAc (o':=Ob.dct (x.tk 10).kv) h;erw[pd cj];rw[xBd h9];erw[bT,pv (.int<|10^12),(cw a.ok ∅).h k];have q:=zAc (o':=Ob.dct ((x.tk 10).tk<|10^12).kv) k;erw[pv (.int<|10^12),(cw b.ok ∅).h q,pv (.int<|(x.tk 10).dg (10^12)-((x.tk 10).tk<|10^12).dg (10^12))];rw[zAa,zAa];exact i
 .erw[<-⟨x.dg 10,x.tk 10,(),(),a,λ{fw d p S xx K a1 a3} h i=>?_⟩,(cw e ∅).h h,pd cj];rw[xCn h9];erw[bF];exact i
def Sx.nx_ok(h:x.ok):x.nx.ok:=h
theorem uJ(E:x.ok)(B:0<=x.k/\x.k<=10000)(H:sc.length<=1000):∃P x',At sc x.pl P/\x.nx.Le x'/\Bl x 24 [scU sc] 2 P.u x':=by
 have o1:=x.nx_ok E;cases he:sc.isEmpty with
 |true=>
  let⟨n,x',q,o,le,N⟩:=zFh (x:=x.nx) (pl:=x.pl) o1;erw[<-⟨.num x.pl n,x',.inr ⟨n,q,o,rfl⟩,le,⟨λ{fw d p S xx K} h a=>?_⟩⟩,cd ⟨2,4,t24⟩,(cf B).h h,pv (.lst []),pd fD];rw[he];erw[bF,bF];exact N (zAc h) (by rw[zAa];exact a)
 |false=>
  have b:=x.nx.tk_le (m:=3) o1 ∅;have t:0<(sc.length:Int):=by
   cases sc with
   |nil=>cases he
   |cons _ _=>rw[xAo];lia
  by_cases hd:0<x.nx.dg 3
  .have C:=(x.nx.tk 3).tk_le (m:=sc.length) b.ok t;let⟨w,F,e⟩:=fe (sc:=sc)<|(x.nx.tk 3).dg_lt t;erw[<-⟨.nam x.pl w,_,.inl ⟨w,F,rfl⟩,b.trans C,⟨λ{fw d p S xx K} h a=>?_⟩⟩,cd ⟨2,4,t24⟩,(cf B).h h];have i:=zAc (o':=Ob.dct x.nx.kv) h;erw[pv (.lst []),pd fD];rw[he];erw[bT,(cw o1 ∅).h i];have G:=zAc (o':=Ob.dct (x.nx.tk 3).kv) i;erw[pv (.bl<|decide<|0<x.nx.dg 3)];rw[xBd hd];erw[bT,pd dH,(cw b.ok ⟨t,()⟩).h G,pd e];rw[zAa,zAa];exact a
  .let⟨n,x',q,o,le,N⟩:=zFh (x:=x.nx.tk 3) (pl:=x.pl) b.ok;erw[<-⟨.num x.pl n,x',.inr ⟨n,q,o,rfl⟩,b.trans le,⟨λ{fw d p S xx K} h a=>?_⟩⟩,cd ⟨2,4,t24⟩,(cf B).h h];have i:=zAc (o':=Ob.dct x.nx.kv) h;erw[pv (.lst []),pd fD];rw[he];erw[bT,(cw o1 ∅).h i,pv (.bl<|decide<|0<x.nx.dg 3)];rw[xCn hd];erw[bF];exact N (zAc i) (by rw[zAa,zAa];exact a)
section
variable{x:Sx}{sc ws:A9}
def wds:A9:=["kind","odd","big","a","b","ab"]
def f6(a:x.ok):∃w x',w∈wds/\x.Le x'/\Bl x 29 [] 2 (.str w) x':=by
 have b:=x.tk_le (m:=6) a ∅;let⟨w,k,e⟩:=fe (sc:=wds) (i:=x.dg 6) (x.dg_lt (m:=6) ∅);erw[<-⟨w,_,k,b,⟨λ{fw d p S xx K} h n=>?_⟩⟩,cd ⟨1,1,t29⟩,pv (scU wds),(cw a ∅).h h,pd e,<-n]
def gr(h:0<=j/\j<=1000):pr ups .rng1 [.int j] S=.ok (.tup<|zBi 0 j.toNat) S:=by
 delta pr;dsimp only;rw[xBd ()]
theorem zAw:∀{n:Nat}{lo:Int},(zBi lo n).length=n
 |0,_=>rfl
 |n+1,lo=>congrArg (·+1)<|zAw (n:=n)
def zDf(ws:A9)(f k:Nat):Str:=ws.getD ((f+k)%ws.length) ""
def qz{f k:Nat}(h:3<=ws.length/\ws.length<=6):zDf ws f k∈ws:=by
 unfold zDf;have a:(f+k)%ws.length<ws.length:=Nat.mod_lt _ (by omega);rw[xBz,xAk a];exact List.getElem_mem a
def yK{f k:Nat}(h:3<=ws.length/\ws.length<=6):pr ups .ix [scU ws,.int<|((f:Int)+k)%ws.length] S=.ok (.str<|zDf ws f k) S:=by
 have a:(f+k)%ws.length<ws.length:=Nat.mod_lt _ (by omega);rw[show((f:Int)+k)%ws.length=(((f+k)%ws.length:Nat):Int) by rw[Int.natCast_emod];rfl];show opt (atI (ws.map U.str) (((f+k)%ws.length:Nat):Int)) S=_;rw[dh (v:=.str<|zDf ws f k)<|by unfold zDf;rw[xAw,xAk a,xBz,xAk a];rfl];rfl
theorem vd{f:Nat}{fw d:Nat}{S:So}{K:B7}{xc:B8}(h:3<=ws.length/\ws.length<=6):∀{n lo:Nat}{ys:B0},K (.lst<|ys++(List.range' lo n).map λk=>.str<|zDf ws f k) S->lcK (Gd fw d) (lcB [1] true [none,none,some<|scU ws,some<|.int f] none (J5 J8<|J0 .mod (J0 (.add false) Jb J3)<|J4 .len J8) (Gd fw d) xc) (zBi (lo:Int) n) ys S K
 |0,lo,ys,a=>by
  rw[List.range'_zero,List.map_nil,xB0] at a;exact a
 |n+1,lo,ys,a=>by
  erw[pv (.int<|(f:Int)+lo),pd dH,pd (cb (m:=ws.length) ()),pd (yK h),vd h (n:=n) (lo:=lo+1) (ys:=ys++[.str<|zDf ws f lo])];rw[xAx];exact a
def xq{L f a b:Nat}(m:a<L)(k:b<L)(q:(f+a)%L=(f+b)%L):a=b:=by
 have e:=Nat.div_add_mod (f+a) L;have i:=Nat.div_add_mod (f+b) L;rw[q] at e;generalize (f+a) / L=u at e;generalize (f+b) / L=v at i;generalize (f+b)%L=r at e i;rcases Nat.lt_trichotomy u v with y|y|y
 .obtain⟨t,rfl⟩:∃t,v=u+1+t:=⟨v-(u+1),()⟩
  rw[Nat.mul_add,Nat.mul_add] at i;have:=xBn<|L*t;lia
 .subst y;lia
 .obtain⟨t,rfl⟩:∃t,u=v+1+t:=⟨u-(v+1),()⟩
  rw[Nat.mul_add,Nat.mul_add] at e;have:=xBn<|L*t;lia
structure Nms(ws xs:A9):Prop where
 sub:∀y∈xs,y∈ws
 few:xs.length<=4
 nd:xs.Nodup
def xk{f n:Nat}(h:3<=ws.length/\ws.length<=6)(w:ws.Nodup)(B:n<=4)(C:n<=ws.length):Nms ws<|(List.range' 0 n).map<|zDf ws f:=by
 refine⟨λy t=>?_,by rw[xAa,List.length_range'];exact B,?_⟩
 .let⟨k,_,rfl⟩:=xA2.mp t;exact qz h
 .refine List.pairwise_map.mpr ((List.nodup_range' (step:=1)).imp_of_mem λ{a b} p o z e=>z ?_);have p:=(List.mem_range'_1.mp p).2;have o:=(List.mem_range'_1.mp o).2;unfold zDf at e;have m:(f+a)%ws.length<ws.length:=Nat.mod_lt _ (by omega);have i:(f+b)%ws.length<ws.length:=Nat.mod_lt _ (by omega);rw[xBz,xBz,xAk m,xAk i] at e;have hp:=List.pairwise_iff_getElem.mp w;have e:ws[(f+a)%ws.length]=ws[(f+b)%ws.length]:=e;rcases Nat.lt_trichotomy ((f+a)%ws.length) ((f+b)%ws.length) with q|q|q
  .exact absurd e<|hp _ _ m i q
  .exact xq (by omega) (by omega) q
  .exact absurd e.symm<|hp _ _ i m q
def gX(o:x.ok)(h:3<=ws.length/\ws.length<=6)(B:ws.Nodup):∃xs x',Nms ws xs/\x.Le x'/\Bl x 26 [scU ws] 2 (.tup<|xs.map .str) x':=by
 have a:=x.tk_le (m:=ws.length) o (by omega);have w:=(x.tk ws.length).tk_le (m:=5) a.ok ∅;let⟨G,I⟩:=x.dg_lt (m:=ws.length) (by omega);let⟨F,H⟩:=(x.tk ws.length).dg_lt (m:=5) ∅;let⟨f,C⟩:=Int.eq_ofNat_of_zero_le G;let⟨n,b⟩:=Int.eq_ofNat_of_zero_le F;have e:n-(n-ws.length)<=4/\n-(n-ws.length)<=ws.length:=by omega
 refine⟨(List.range' 0<|n - (n - ws.length)).map<|zDf ws f,_,xk h B e.1 e.2,a.trans w,⟨λ{fw d p S xx K} t i=>?_⟩⟩;refine cd ⟨2,4,t26⟩ ?_;refine pd dH ?_;refine(cw o ⟨by omega,by omega⟩).h t ?_;have E:=zAc (o':=Ob.dct (x.tk ws.length).kv) t;refine(cw a.ok ∅).h E ?_;refine pd dH ?_;rw[C,b];refine pv (.int ((n - (n - ws.length):Nat):Int)) ?_ (by
  show Res.ok (.int<|if(ws.length:Int)<n then(ws.length:Int) else n) _=_;by_cases q:(ws.length:Int)<n
  .rw[xCg q];congr 2;omega
  .rw[xCf q];congr 2;omega)
 erw[pd (gr<|by omega)];rw[xC3];generalize n-(n-ws.length)=n at e i⊢;refine bI (λ_=>?_) λz=>?_
 .erw[vd (lo:=0) h];rw[xC6];erw[pv (.tup<|(List.range' 0 n).map λk=>.str<|zDf ws f k)];rw[zAa];rw[List.map_map] at i;exact i
 .rw[zAw,xDk<|show n<=sizeLine by show n<=2^24;omega] at z;cases z
end
structure Nmz(N:Str->Prop)(xs:A9):Prop where
 ok:∀y∈xs,N y
 few:xs.length<=4
 nd:xs.Nodup
def ops:A9:=["add","sub","mul","less","same"]
inductive Wf(N:Str->Prop):List Str->Nat->Pg->Prop where
 |num {sc:List Str} {d:Nat} {pl n:Int} (h1:-(10^12)<n) (h2:n<10^12):Wf N sc d (.num pl n)
 |nam {sc:List Str} {d:Nat} {pl:Int} {x:Str} (h:x∈sc):Wf N sc d (.nam pl x)
 |fn {sc xs:List Str} {d:Nat} {pl:Int} {b:Pg} (h:Nmz N xs) (hb:Wf N (sc++xs) d b):Wf N sc (d+1) (.fn pl xs b)
 |call {sc:List Str} {d:Nat} {pl:Int} {f:Pg} {as:List Pg} (hf:Wf N sc d f) (h:∀a∈as,Wf N sc d a) (h4:as.length<=4):Wf N sc (d+1) (.call pl f as)
 |lt {sc:List Str} {d:Nat} {pl:Int} {x:Str} {a b:Pg} (hx:N x) (ha:Wf N sc d a) (hb:Wf N (sc++[x]) d b):Wf N sc (d+1) (.lt pl x a b)
 |st {sc:List Str} {d:Nat} {pl:Int} {x:Str} {a:Pg} (hx:x∈sc) (ha:Wf N sc d a):Wf N sc (d+1) (.st pl x a)
 |dd {sc:List Str} {d:Nat} {pl:Int} {a b:Pg} (ha:Wf N sc d a) (hb:Wf N sc d b):Wf N sc (d+1) (.dd pl a b)
 |iff {sc:List Str} {d:Nat} {pl:Int} {a b c:Pg} (ha:Wf N sc d a) (hb:Wf N sc d b) (hc:Wf N sc d c):Wf N sc (d+1) (.iff pl a b c)
 |math {sc:List Str} {d:Nat} {pl:Int} {o:Str} {a b:Pg} (ho:o∈ops) (ha:Wf N sc d a) (hb:Wf N sc d b):Wf N sc (d+1) (.math pl o a b)
 |make {sc:List Str} {d:Nat} {pl:Int} {t:Str} {as:List Pg} (ht:t∈wds) (h:∀a∈as,Wf N sc d a) (h4:as.length<=4):Wf N sc (d+1) (.make pl t as)
 |mat {sc xs:List Str} {d:Nat} {pl:Int} {t:Str} {a b c:Pg} (ht:t∈wds) (hx:Nmz N xs) (ha:Wf N sc d a) (hb:Wf N (sc++xs) d b) (hc:Wf N sc d c):Wf N sc (d+1) (.mat pl a t xs b c)
 |rai {sc:List Str} {d:Nat} {pl:Int} {w:Str} {a:Pg} (hw:w∈wds) (ha:Wf N sc d a):Wf N sc (d+1) (.rai pl w a)
 |try_ {sc:List Str} {d:Nat} {pl:Int} {w x:Str} {a b:Pg} (hw:w∈wds) (hx:N x) (ha:Wf N sc d a) (hb:Wf N (sc++[x]) d b):Wf N sc (d+1) (.try_ pl a w x b)
 |tell {sc:List Str} {d:Nat} {pl:Int} {a:Pg} (ha:Wf N sc d a):Wf N sc (d+1) (.tell pl a)
 |ask {sc:List Str} {d:Nat} {pl:Int}:Wf N sc (d+1) (.ask pl)
theorem Wf.up{N:Str->Prop}{sc:A9}{P:Pg}(h:Wf N sc d P):∀{e:Nat},d<=e->Wf N sc e P:=by
 induction h with
 |num F E=>intro e _;exact .num F E
 |nam h=>intro e _;exact .nam h
 |fn h n w=>intro e i;obtain⟨e,rfl⟩:∃b,e=b+1:=⟨e-1,()⟩;exact .fn h (w ())
 |call G h t i1 i2=>intro e i;obtain⟨e,rfl⟩:∃b,e=b+1:=⟨e-1,()⟩;exact .call (i1 ()) (λa k=>i2 a k ()) t
 |lt m k n i1 i2=>intro e i;obtain⟨e,rfl⟩:∃b,e=b+1:=⟨e-1,()⟩;exact .lt m (i1 ()) (i2 ())
 |st m k i1=>intro e i;obtain⟨e,rfl⟩:∃b,e=b+1:=⟨e-1,()⟩;exact .st m (i1 ())
 |dd k n i1 i2=>intro e i;obtain⟨e,rfl⟩:∃b,e=b+1:=⟨e-1,()⟩;exact .dd (i1 ()) (i2 ())
 |iff k n C i1 i2 o=>intro e i;obtain⟨e,rfl⟩:∃b,e=b+1:=⟨e-1,()⟩;exact .iff (i1 ()) (i2 ()) (o ())
 |math B k n i1 i2=>intro e i;obtain⟨e,rfl⟩:∃b,e=b+1:=⟨e-1,()⟩;exact .math B (i1 ()) (i2 ())
 |make q h t i2=>intro e i;obtain⟨e,rfl⟩:∃b,e=b+1:=⟨e-1,()⟩;exact .make q (λa k=>i2 a k ()) t
 |mat q m k n C i1 i2 o=>intro e i;obtain⟨e,rfl⟩:∃b,e=b+1:=⟨e-1,()⟩;exact .mat q m (i1 ()) (i2 ()) (o ())
 |rai p k i1=>intro e i;obtain⟨e,rfl⟩:∃b,e=b+1:=⟨e-1,()⟩;exact .rai p (i1 ())
 |try_ p m k n i1 i2=>intro e i;obtain⟨e,rfl⟩:∃b,e=b+1:=⟨e-1,()⟩;exact .try_ p m (i1 ()) (i2 ())
 |tell k i1=>intro e i;obtain⟨e,rfl⟩:∃b,e=b+1:=⟨e-1,()⟩;exact .tell (i1 ())
 |ask=>intro e i;obtain⟨e,rfl⟩:∃b,e=b+1:=⟨e-1,()⟩;exact .ask
mutual
def Pg.pls:Pg->B2
 |.num pl _=>[pl]
 |.nam pl _=>[pl]
 |.fn pl _ b=>pl::b.pls
 |.call pl f as=>pl::(f.pls++Pg.plss as)
 |.lt pl _ a b=>pl::(a.pls++b.pls)
 |.st pl _ a=>pl::a.pls
 |.dd pl a b=>pl::(a.pls++b.pls)
 |.iff pl a b c=>pl::(a.pls++(b.pls++c.pls))
 |.math pl _ a b=>pl::(a.pls++b.pls)
 |.make pl _ as=>pl::Pg.plss as
 |.mat pl a _ _ b c=>pl::(a.pls++(b.pls++c.pls))
 |.rai pl _ a=>pl::a.pls
 |.try_ pl a _ _ b=>pl::(a.pls++b.pls)
 |.tell pl a=>pl::a.pls
 |.ask pl=>[pl]
 |.bad _=>[]
def Pg.plss:A0 Pg->B2
 |[]=>[]
 |a::r=>a.pls++Pg.plss r
end
def zBn(h k:Int):Int:=(7*k+h)%600
def Ks(h lo hi:Int)(pls:B2):Prop:=∃ks:B2,pls=ks.map (zBn h)/\ks.Nodup/\∀k∈ks,lo<k/\k<=hi
def Ks.nil{h:Int}:Ks h lo hi []:=⟨[],rfl,xC7,λ_ z=>(nomatch z)⟩
def Ks.one{h k:Int}(b:lo<k)(a:k<=hi):Ks h lo hi [zBn h k]:=⟨[k],rfl,xCb.mpr ⟨⋯,xC7⟩,λq z=>by rw[xAm.mp z];exact⟨b,a⟩⟩
def Ks.app{h:Int}{l r:B2}(a:Ks h lo mi l)(b:Ks h mi hi r)(E:lo<=mi)(C:mi<=hi):Ks h lo hi<|l++r:=by
 let⟨p,rfl,o,m⟩:=a;let⟨q,rfl,n,i⟩:=b;refine⟨p++q,by rw[xAi],xBq.mpr ⟨o,n,λx w y t e=>?_⟩,λk B=>?_⟩
 .have:=m x w;have:=i y t;lia
 .rcases xAj.mp B with z|z
  .have:=m k z;lia
  .have:=i k z;lia
def Ks.cons{h k:Int}{r:B2}(i:lo<k)(a:k<=mi)(b:Ks h mi hi r)(e:mi<=hi):Ks h lo hi<|zBn h k::r:=(Ks.one i a).app b () e
structure Iv(pp:Int)(x:Sx):Prop where
 ok:x.ok
 a:x.a=pp-x.k/\0<=pp/\pp<=80
 k:0<=x.k/\x.k<=10000
structure Pt(pp:Int)(N:Str->Prop)(sc:A9)(dm:Nat)(x:Sx)(P:Pg)(x':Sx):Prop where
 wf:Wf N sc dm P
 iv:Iv pp x'
 h:x'.h=x.h
 ks:Ks x.h x.k x'.k P.pls
 lo:x.k<x'.k
 at80:pp<=x.k->x'.k=x.k+1
 hi:x'.k<=x.k+1\/x'.k<=pp+2+6*dm
def uI{N:Str->Prop}{sc:A9}{x:Sx}{dm:Nat}(b:Iv pp x)(C:x.k<10000)(q:sc.length<=1000):∃P x',Pt pp N sc dm x P x'/\Bl x 24 [scU sc] 2 P.u x':=by
 let⟨P,x',o,le,B⟩:=uJ (sc:=sc) b.ok b.k q;have t:x'.k=x.k+1:=le.k;have G:x'.a=x.a-1:=le.a;have F:=b.a;have E:=b.k;have p:Ks x.h x.k x'.k [x.pl]:=Ks.one (k:=x.k+1) () ();refine⟨P,x',⟨?_,⟨le.ok,(),()⟩,le.h,?_,(),λ_=>t,.inl ()⟩,B⟩
 .rcases o with ⟨w,m,rfl⟩|⟨n,i,e,rfl⟩
  .exact .nam m
  .exact .num i e
 .rcases o with ⟨w,m,rfl⟩|⟨n,i,e,rfl⟩ <;> exact p
section
variable{pp:Int}{N:Str->Prop}{ws sc:A9}{x x':Sx}{dm:Nat}{dp:Int}
def Bl.up{i:Nat}{as:B0}(b:Bl x i as lv v x')(h:lv<=lv'):Bl x i as lv' v x':=⟨λ{fw d p S xx K} a e=>by
 have:=b.h (fw:=fw) (d:=d+(lv'-lv)) (xx:=xx) a e;rw[show d+(lv'-lv)+lv=d+lv' by lia] at this;exact this⟩
def PH(pp:Int)(N:Str->Prop)(ws:A9)(dm:Nat):Prop:=∀{x:Sx}{sc:A9}{dp:Int},Iv pp x->x.k+40*dm<=2000->sc.length+10*dm<=500->dp<=dm->∃P x',Pt pp N sc dm x P x'/\Bl x 32 [scU ws,scU sc,.int dp] (3*dm+3) P.u x'
structure Pts(pp:Int)(N:Str->Prop)(sc:A9)(dm:Nat)(x:Sx)(as:A0 Pg)(x':Sx):Prop where
 wf:∀a∈as,Wf N sc dm a
 iv:Iv pp x'
 h:x'.h=x.h
 ks:Ks x.h x.k x'.k (Pg.plss as)
 lo:x.k<=x'.k
 at80:pp<=x.k->x'.k=x.k+as.length
 hi:x'.k<=x.k+as.length\/x'.k<=pp+2+6*dm+as.length
theorem pJ(H:PH pp N ws dm)(t:sc.length+10*dm<=500)(hd:dp<=dm):∀{n:Nat}{x:Sx},Iv pp x->x.k+40*dm+10*n<=2000->n<=4->pp+2+6*dm+40*dm<=1900->∃as x',as.length=n/\Pts pp N sc dm x as x'/\∀{fw d p lo:Nat}{S:So}{K:B7}{xc:B8}{ys:B0},at? S p=some (.dct x.kv)->K (.lst<|ys++Pg.us as) (set S p<|.dct x'.kv)->lcK (Gd fw<|d+(3*dm+3)) (lcB [1] true [none,none,some<|.ref p,some<|scU sc,some<|scU ws,some<|.int dp] none (Jh 32<|Jo J8 J7 Jb Je) (Gd fw<|d+(3*dm+3)) xc) (zBi (lo:Int) n) ys S K
 | 0,x,m,_,_,_=>⟨[],x,rfl,⟨λ_ z=>(nomatch z),m,rfl,.nil,Int.le_refl _,λ_=>⋯,.inl ⋯⟩,λ{fw d p lo S K xc ys} h b=>by
  rw[Pg.us,xB0,zBq h] at b;exact b⟩
 |n+1,x,m,b,M,G=>by
  let⟨P,B,p1,I⟩:=H (x:=x) (sc:=sc) (dp:=dp) m () t hd;have C:=p1.lo;have F:=p1.hi;let⟨as,w,e,q,f⟩:=pJ H t hd (n:=n) (x:=B) p1.iv () () G;have i:=q.lo;have E:=q.hi;have a1:=p1.at80;have a2:=q.at80;refine⟨P::as,w,by rw[xAo,e],⟨λa ha=>?_,q.iv,q.h.trans p1.h,?_,(),λz=>?_,?_⟩,λ{fw d p lo S K xc ys} h b=>?_⟩
  .rcases xAv.mp ha with rfl|ha
   .exact p1.wf
   .exact q.wf a ha
  .have o:=q.ks;rw[p1.h] at o;exact p1.ks.app o () i
  .rw[xAo];have:=a1 z;have:=a2 ();lia
  .rw[xAo];lia
  .erw[I.h h,f (lo:=lo+1) (zAc h)];rw[zAa,xAx];exact b
def lI(H:PH pp N ws dm)(C:sc.length+10*dm<=500)(hd:dp<=dm)(i:Iv pp x)(M:x.k+40*dm+40<=2000)(I:dm<=20):∃as x',as.length<=4/\Pts pp N sc dm x as x'/\Bl x 25 [scU ws,scU sc,.int dp] (3*dm+4) (.tup<|Pg.us as) x':=by
 have G:=i.a;have b:=x.tk_le (m:=5) i.ok ∅;let⟨F,O⟩:=x.dg_lt (m:=5) ∅;let⟨n,B⟩:=Int.eq_ofNat_of_zero_le F;have i1:Iv pp<|x.tk 5:=⟨b.ok,by rw[b.a,b.k];exact i.a,by rw[b.k];exact i.k⟩
 let⟨as,w,e,q,f⟩:=pJ (n:=n) H C hd i1 (by rw[b.k];lia) () ();have E:(x.tk 5).k=x.k:=b.k;have t:(x.tk 5).h=x.h:=b.h;erw[<-⟨as,w,(),⟨q.wf,q.iv,by rw[q.h,t],by have:=q.ks;rw[E,t] at this;exact this,by have:=q.lo;lia,λz=>by have:=q.at80 ();lia,by have:=q.hi;lia⟩,⟨λ{fw d p S xx K} h o=>?_⟩⟩,cd ⟨4,4,t25⟩,(cw i.ok ∅).h h];rw[B];erw[pd (gr ())];rw[xC3];refine bI (λ_=>?_) λz=>?_
 .erw[f (lo:=0) (zAc h)];rw[xC6];erw[pv (.tup<|Pg.us as)];rw[zAa];exact o
 .rw[zAw,xDk<|show n<=sizeLine by show n<=2^24;lia] at z;cases z
end
section
variable{pp:Int}{N:Str->Prop}{ws sc:A9}{x x':Sx}{e:Nat}{dp way:Int}
structure Pn(pp:Int)(N:Str->Prop)(sc:A9)(dm:Nat)(x:Sx)(P:Pg)(x':Sx):Prop where
 wf:Wf N sc dm P
 iv:Iv pp x'
 h:x'.h=x.h
 ks:Ks x.h x.k x'.k P.pls
 lo:x.k<x'.k
 hi:x'.k<=pp+2+6*dm
theorem Iv.nx(h:Iv pp x)(b:x.k<10000):Iv pp x.nx:=⟨h.ok,by show x.a-1=pp-(x.k+1)/\0<=pp/\pp<=80;have:=h.a;lia,by show 0<=x.k+1/\x.k+1<=10000;have:=h.k;lia⟩
def Iv.le{y:Sx}(h:Iv pp x)(l:x.Le y):Iv pp y:=⟨l.ok,by rw[l.a,l.k];exact h.a,by rw[l.k];exact h.k⟩
def dX{P:Pg}{r:B2}(m:x.k<pp)(i:P.pls=x.pl::r)(a:Wf N sc (e+1) P)(b:Iv pp x')(h:x'.h=x.h)(ks:Ks x.h (x.k+1) x'.k r)(lo:x.k+1<=x'.k)(hi:x'.k<=pp+8+6*e):Pn pp N sc (e+1) x P x':=by
 refine⟨a,b,h,?_,(),()⟩;rw[i];exact Ks.cons (k:=x.k+1) () (Int.le_refl _) ks lo
def nN(b:Iv pp x)(i:x.k<pp):∃P x',Pn pp N sc (e+1) x P x'/\Bl x 30 [scU ws,scU sc,.int dp,.int 2] (3*e+5) P.u x':=by
 have n:=b.a;erw[<-⟨.ask x.pl,x.nx,dX i rfl .ask (b.nx ()) rfl .nil (Int.le_refl _) (by show x.k+1<=_;lia),⟨λ{fw d p S xx K} h m=>?_⟩⟩,cd (d:=d+(3*e+4)) ⟨5,9,t30⟩,((cf b.k).up ()).h h,<-pv (.bl false)<|bF<|bF ?_,<-pv (.bl false)<|bF ?_,<-pv (.bl true)<|bT ?_,<-m]
def kH(H:PH pp N ws e)(Z:e<=14)(M:sc.length+10*e<=500)(hd:dp<=e)(i:Iv pp x)(o:x.k<pp):∃P x',Pn pp N sc (e+1) x P x'/\Bl x 30 [scU ws,scU sc,.int dp,.int 1] (3*e+5) P.u x':=by
 have E:=i.a;have i1:=i.nx ();have Y:=i.k;have E:=i.a;have X:x.nx.k=x.k+1:=rfl;let⟨w,m,I,n,W⟩:=f6 i1.ok;have i2:=i1.le n;have G:m.k=x.k+1:=n.k;let⟨as,C,F,q,R⟩:=lI H M hd i2 () ();have a:=q.at80;have b:=q.hi;have c:=q.lo;have t:m.h=x.h:=n.h;erw[<-⟨.make x.pl w as,C,dX (r:=Pg.plss as) o rfl (.make I q.wf F) q.iv (by rw[q.h,t]) (by have:=q.ks;rw[t,G] at this;exact this) () (),⟨λ{fw d p S xx K} h O=>?_⟩⟩,cd (d:=d+(3*e+4)) ⟨5,9,t30⟩,((cf i.k).up ()).h h];have B:=zAc (o':=Ob.dct x.nx.kv) h;erw[<-pv (.bl false)<|bF<|bF ?_,<-pv (.bl true)<|bT ?_,(W.up ()).h B];have Q:=zAc (o':=Ob.dct m.kv) B;erw[(R.up ()).h Q];rw[zAa,zAa];exact O
end
section
variable{pp:Int}{N:Str->Prop}{ws sc:A9}{x x':Sx}{e:Nat}{dp way:Int}
def nM(H:PH pp N ws e)(he:e<=14)(O:sc.length+10*e<=500)(hd:dp<=e)(i:Iv pp x)(t:x.k<pp)(B:sc.isEmpty=false):∃P x',Pn pp N sc (e+1) x P x'/\Bl x 30 [scU ws,scU sc,.int dp,.int 0] (3*e+5) P.u x':=by
 have G:=i.a;have i1:=i.nx ();have Z:=i.k;have G:=i.a;have Y:x.nx.k=x.k+1:=rfl;have o:0<(sc.length:Int):=by
  cases sc with
  |nil=>cases B
  |cons _ _=>rw[xAo];lia
 have n:=x.nx.tk_le (m:=sc.length) i1.ok o;let⟨w,M,W⟩:=fe (sc:=sc)<|x.nx.dg_lt o;have i2:=i1.le n;have I:(x.nx.tk sc.length).k=x.k+1:=n.k;have C:(x.nx.tk sc.length).h=x.h:=n.h;let⟨P,F,q,X⟩:=H (x:=x.nx.tk sc.length) (sc:=sc) (dp:=dp) i2 () O hd;have a:=q.at80;have b:=q.hi;have c:=q.lo;erw[<-⟨.st x.pl w P,F,dX (r:=P.pls) t rfl (.st M q.wf) q.iv (by rw[q.h,C]) (by have:=q.ks;rw[C,I] at this;exact this) () (),⟨λ{fw d p S xx K} h Q=>?_⟩⟩,cd (d:=d+(3*e+4)) ⟨5,9,t30⟩,((cf i.k).up ()).h h];have E:=zAc (o':=Ob.dct x.nx.kv) h;erw[<-pv (.bl true)<|bT ?_,pv (.lst []),pd fD];rw[B];erw[bT,pd dH,((cw i1.ok ⟨o,()⟩).up ()).h E];have R:=zAc (o':=Ob.dct (x.nx.tk sc.length).kv) E;erw[pd W,(X.up ()).h R];rw[zAa,zAa];exact Q
def jy(H:PH pp N ws e)(Y:e<=14)(G:sc.length+10*e<=500)(hd:dp<=e)(i:Iv pp x)(t:x.k<pp):∃P x',Pn pp N sc (e+1) x P x'/\Bl x 30 [scU ws,scU sc,.int dp,.int 3] (3*e+5) P.u x':=by
 have C:=i.a;have i1:=i.nx ();have X:=i.k;have C:=i.a;have W:x.nx.k=x.k+1:=rfl;let⟨P,n,q,R⟩:=H (x:=x.nx) (sc:=sc) (dp:=dp) i1 () G hd;let⟨w,m,F,o,Q⟩:=f6 q.iv.ok;have a:=q.at80;have b:=q.hi;have c:=q.lo;have E:m.k=n.k:=o.k;have M:m.h=n.h:=o.h;erw[<-⟨.rai x.pl w P,m,dX (r:=P.pls) t rfl (.rai F q.wf) (q.iv.le o) (by rw[M,q.h];rfl) (by have:=q.ks;rw[E];exact this) () (),⟨λ{fw d p S xx K} h I=>?_⟩⟩,cd (d:=d+(3*e+4)) ⟨5,9,t30⟩,((cf i.k).up ()).h h];have B:=zAc (o':=Ob.dct x.nx.kv) h;erw[<-pv (.bl false)<|bF<|bF<|pv (.bl false)<|bF<|pv (.bl false)<|bF ?_,(R.up ()).h B];have O:=zAc (o':=Ob.dct n.kv) B;erw[<-pv (.bl true)<|bT ?_,(Q.up ()).h O];rw[zAa,zAa];exact I
def kI(H:PH pp N ws e)(W:e<=14)(o:sc.length+10*e<=500)(hd:dp<=e)(i:Iv pp x)(m:x.k<pp):∃P x',Pn pp N sc (e+1) x P x'/\Bl x 30 [scU ws,scU sc,.int dp,.int 4] (3*e+5) P.u x':=by
 have C:=i.a;have i1:=i.nx ();have R:=i.k;have C:=i.a;have Q:x.nx.k=x.k+1:=rfl;let⟨P,n,q,O⟩:=H (x:=x.nx) (sc:=sc) (dp:=dp) i1 () o hd;have a:=q.at80;have b:=q.hi;have c:=q.lo;let⟨as,B,E,r,M⟩:=lI H o hd q.iv () ();have Y:=r.at80;have X:=r.hi;have I:=r.lo;have t:n.h=x.h:=q.h;erw[<-⟨.call x.pl P as,B,dX (r:=P.pls++Pg.plss as) m rfl (.call q.wf r.wf E) r.iv (by rw[r.h,t]) (by have k:=r.ks;rw[t] at k;exact Ks.app q.ks k () I) () (),⟨λ{fw d p S xx K} h F=>?_⟩⟩,cd (d:=d+(3*e+4)) ⟨5,9,t30⟩,((cf i.k).up ()).h h];have w:=zAc (o':=Ob.dct x.nx.kv) h;erw[<-pv (.bl false)<|bF<|bF<|pv (.bl false)<|bF<|pv (.bl false)<|bF ?_,(O.up ()).h w];have G:=zAc (o':=Ob.dct n.kv) w;erw[<-pv (.bl false)<|bF<|pv (.bl true)<|bT ?_,(M.up ()).h G];rw[zAa,zAa];exact F
def kG(H:PH pp N ws e)(G:e<=14)(t:sc.length+10*e<=500)(hd:dp<=e)(i:Iv pp x)(m:x.k<pp):∃P x',Pn pp N sc (e+1) x P x'/\Bl x 30 [scU ws,scU sc,.int dp,.int 5] (3*e+5) P.u x':=by
 have o:=i.a;have i1:=i.nx ();have F:=i.k;have o:=i.a;have E:x.nx.k=x.k+1:=rfl;let⟨P,n,q,C⟩:=H (x:=x.nx) (sc:=sc) (dp:=dp) i1 () t hd;have a:=q.at80;have b:=q.hi;have c:=q.lo;erw[<-⟨.tell x.pl P,n,dX (r:=P.pls) m rfl (.tell q.wf) q.iv q.h q.ks () (),⟨λ{fw d p S xx K} h w=>?_⟩⟩,cd (d:=d+(3*e+4)) ⟨5,9,t30⟩,((cf i.k).up ()).h h];have B:=zAc (o':=Ob.dct x.nx.kv) h;erw[<-pv (.bl false)<|bF<|bF<|pv (.bl false)<|bF<|pv (.bl false)<|bF ?_,(C.up ()).h B,<-pv (.bl false)<|bF<|pv (.bl false)<|bF<|pv (.bl true)<|bT ?_];rw[zAa];exact w
def pY(H:PH pp N ws e)(he:e<=14)(o:sc.length+10*e<=500)(hd:dp<=e)(i:Iv pp x)(w:x.k<pp):∃P x',Pn pp N sc (e+1) x P x'/\Bl x 30 [scU ws,scU sc,.int dp,.int 6] (3*e+5) P.u x':=by
 have M:=i.a;have i1:=i.nx ();have k0:=i.k;have M:=i.a;have k1:x.nx.k=x.k+1:=rfl;let⟨P,n,q,Z⟩:=H (x:=x.nx) (sc:=sc) (dp:=dp) i1 () o hd;have a:=q.at80;have b:=q.hi;have c:=q.lo;let⟨Q,m,r,Y⟩:=H (x:=n) (sc:=sc) (dp:=dp) q.iv () o hd;have a':=r.at80;have b':=r.hi;have c':=r.lo;let⟨R,I,t,X⟩:=H (x:=m) (sc:=sc) (dp:=dp) r.iv () o hd;have a'':=t.at80;have b'':=t.hi;have c'':=t.lo;have E:n.h=x.h:=q.h;have C:m.h=x.h:=r.h.trans E;erw[<-⟨.iff x.pl P Q R,I,dX (r:=P.pls++(Q.pls++R.pls)) w rfl (.iff q.wf r.wf t.wf) t.iv (by rw[t.h,C]) (by have k:=r.ks;rw[E] at k;have B:=t.ks;rw[C] at B;exact Ks.app q.ks (k.app B () ()) () ()) () (),⟨λ{fw d p S xx K} h O=>?_⟩⟩,cd (d:=d+(3*e+4)) ⟨5,9,t30⟩,((cf i.k).up ()).h h];have G:=zAc (o':=Ob.dct x.nx.kv) h;erw[<-pv (.bl false)<|bF<|bF<|pv (.bl false)<|bF<|pv (.bl false)<|bF ?_,(Z.up ()).h G];have F:=zAc (o':=Ob.dct n.kv) G;erw[<-pv (.bl false)<|bF<|pv (.bl false)<|bF<|pv (.bl false)<|bF ?_,(Y.up ()).h F];have W:=zAc (o':=Ob.dct m.kv) F;erw[<-pv (.bl true)<|bT ?_,(X.up ()).h W];rw[zAa,zAa,zAa];exact O
end
section
variable{pp:Int}{N:Str->Prop}{ws sc:A9}{x x':Sx}{e:Nat}{dp way:Int}
def vM(H:PH pp N ws e)(he:e<=14)(R:sc.length+10*e<=500)(hd:dp<=e)(E:Iv pp x)(w:x.k<pp)(hw:way=0\/7<=way):∃P x',Pn pp N sc (e+1) x P x'/\∀{fw d p:Nat}{S:So}{xx:B8}{K:B7}{M a7 a8:A3 U},at? S p=some (.dct x.nx.kv)->K P.u (set S p<|.dct x'.kv)->zGy (Gd fw<|d+(3*e+4)) [some<|.ref p,some<|scU ws,some<|scU sc,some<|.int dp,some<|.int way,some<|.int x.pl,M,a7,a8] S (zAn xx K):=by
 have pa:=E.a;have i1:=E.nx ();have k0:=E.k;have pa:=E.a;have k1:x.nx.k=x.k+1:=rfl;let⟨P,C,q,Z⟩:=H (x:=x.nx) (sc:=sc) (dp:=dp) i1 () R hd;have a:=q.at80;have b:=q.hi;have c:=q.lo;let⟨Q,n,r,Y⟩:=H (x:=C) (sc:=sc) (dp:=dp) q.iv () R hd;have a':=r.at80;have b':=r.hi;have c':=r.lo;have X:C.h=x.h:=q.h;have W:n.h=x.h:=r.h.trans X;have O:Ks x.h (x.k+1) n.k<|P.pls++Q.pls:=by
  have k:=r.ks;rw[X] at k;exact Ks.app q.ks k () ()
 have t:∀{j:Int},j=3\/j=4\/j=5\/j=6->decide (way=j)=false:=λ{j} hj=>xCn ();by_cases h9:way<9
 .have G:=n.tk_le (m:=5) r.iv.ok ∅;let⟨o,ho,eo⟩:=fe (sc:=ops) (i:=n.dg 5) (n.dg_lt (m:=5) ∅);have k4:(n.tk 5).k=n.k:=G.k;have h4:(n.tk 5).h=n.h:=G.h;erw[<-⟨.math x.pl o P Q,n.tk 5,dX (r:=P.pls++Q.pls) w rfl (.math ho q.wf r.wf) (r.iv.le G) (by rw[h4,W]) (by rw[k4];exact O) () (),λ{fw d p S xx K M a7 a8} B I=>?_⟩,(Z.up ()).h B];have F:=zAc (o':=Ob.dct C.kv) B;erw[pd cj];rw[t<|.inl rfl];refine bF<|pd cj ?_;rw[t<|.inr<|.inl rfl];refine bF<|pd cj ?_;rw[t<|.inr<|.inr<|.inl rfl];erw[bF,(Y.up ()).h F];have g3:=zAc (o':=Ob.dct n.kv) F;erw[pd cj];rw[t<|.inr<|.inr<|.inr rfl];erw[bF,pv (.bl<|decide<|way<9)];rw[xBd h9];erw[bT,pv (scU ops),((cw r.iv.ok ∅).up ()).h g3,pd eo];rw[zAa,zAa];exact I
 .erw[<-⟨.dd x.pl P Q,n,dX (r:=P.pls++Q.pls) w rfl (.dd q.wf r.wf) r.iv W O () (),λ{fw d p S xx K M a7 a8} B I=>?_⟩,(Z.up ()).h B];have F:=zAc (o':=Ob.dct C.kv) B;erw[pd cj];rw[t<|.inl rfl];refine bF<|pd cj ?_;rw[t<|.inr<|.inl rfl];refine bF<|pd cj ?_;rw[t<|.inr<|.inr<|.inl rfl];erw[bF,(Y.up ()).h F,pd cj];rw[t<|.inr<|.inr<|.inr rfl];erw[bF,pv (.bl<|decide<|way<9)];rw[xCn h9];erw[bF];rw[zAa];exact I
def pZ(H:PH pp N ws e)(m:e<=14)(i:sc.length+10*e<=500)(hd:dp<=e)(b:Iv pp x)(a:x.k<pp)(B:0<=way/\way<12):∃P x',Pn pp N sc (e+1) x P x'/\Bl x 30 [scU ws,scU sc,.int dp,.int way] (3*e+5) P.u x':=by
 have n:(way=0/\sc.isEmpty=true\/7<=way)->∃P x',Pn pp N sc (e+1) x P x'/\Bl x 30 [scU ws,scU sc,.int dp,.int way] (3*e+5) P.u x':=λt=>by
  let⟨P,x',q,f⟩:=vM (way:=way) H m i hd b a ();erw[<-⟨P,x',q,⟨λ{fw d p S xx K} h o=>?_⟩⟩,cd (d:=d+(3*e+4)) ⟨5,9,t30⟩,((cf b.k).up ()).h h];have w:=zAc (o':=Ob.dct x.nx.kv) h;erw[pd cj];have go:(sQ (Ja (Jd J7 Jc)<|J6<|Jt (J1 "make") Je (Jf 29 J2)<|Jh 25<|Jo J2 J3 J8 Jb)<|sQ (Ja (Jd J7 Jn)<|J6<|Y2 (J1 "ask") Je) zGy) (Gd fw<|d+(3*e+4)) [some<|.ref p,some<|scU ws,some<|scU sc,some<|.int dp,some<|.int way,some<|.int x.pl,none,none,none] (set S p<|.dct x.nx.kv)<|zAn xx K:=by
   erw[pd cj];rw[xCn ()];refine bF<|pd cj ?_;rw[xCn ()];erw[bF];exact f w (by rw[zAa];exact o)
  by_cases h0:way=0
  .rw[xBd h0];erw[bT,pv (.lst []),pd fD];rw[show sc.isEmpty=true by rcases t with z|z;exact z.2;lia];erw[bF];exact go
  .rw[xCn h0];refine bF<|bF ?_;exact go
 rcases(show way=0\/way=1\/way=2\/way=3\/way=4\/way=5\/way=6\/7<=way by lia) with h|h|h|h|h|h|h|h
 .cases hs:sc.isEmpty with
  |true=>exact n (.inl ⟨h,hs⟩)
  |false=>rw[h];exact nM H m i hd b a hs
 .rw[h];exact kH H m i hd b a
 .rw[h];exact nN b a
 .rw[h];exact jy H m i hd b a
 .rw[h];exact kI H m i hd b a
 .rw[h];exact kG H m i hd b a
 .rw[h];exact pY H m i hd b a
 .exact n<|.inr h
end
section
variable{pp:Int}{N:Str->Prop}{ws sc:A9}{x x':Sx}{e:Nat}{dp way:Int}
def dC{xs:A9}(h:sc.length+xs.length<=1000):pr ups (.add false) [scU sc,scU xs] S=.ok (scU<|sc++xs) S:=by
 show fits ((sc.map U.str).length+(xs.map U.str).length) (.ok (.lst<|sc.map .str++xs.map .str) S)=_;rw[zA2 (by rw[xAa,xAa];show _<=2^24;lia),<- xAi];rfl
def pQ{xs:A9}:pr ups (.lstOf false) [.tup<|xs.map .str] S=.ok (scU xs) S:=rfl
def Nms.z{xs:A9}(h:Nms ws xs)(b:∀y∈ws,N y):Nmz N xs:=⟨λy a=>b y<|h.sub y a,h.few,h.nd⟩
def gk(q:Iv pp x)(w:x.k<9000)(G:3<=ws.length/\ws.length<=6)(F:ws.Nodup):∃xs y t,Nms ws xs/\y∈ws/\x.nx.Le t/\∀{fw d p:Nat}{S:So}{xx:B8}{K:B7}{dp way:Int},at? S p=some (.dct x.kv)->rz5 (Gd fw<|d+2) [some<|.ref p,some<|scU ws,some<|scU sc,some<|.int dp,some<|.int way,some<|.int x.pl,some<|.tup<|xs.map .str,some<|.str y,none,none,none] (set S p<|.dct t.kv) (zAn xx K)->(Gd fw<|d+3).call 28 [.ref p,scU ws,scU sc,.int dp,.int way] S xx K:=by
 have O:=q.a;have i1:=q.nx ();let⟨xs,b,o,n,M⟩:=gX (ws:=ws) i1.ok G F;have C:=b.tk_le (m:=ws.length) n.ok ();let⟨y,E,I⟩:=fe (sc:=ws) (i:=b.dg ws.length) (b.dg_lt (m:=ws.length) ());erw[<-⟨xs,y,b.tk ws.length,o,E,n.trans C,λ{fw d p S xx K dp way} h w=>?_⟩,cd (d:=d+2) ⟨5,11,t28⟩,((cf q.k).up ()).h h];have B:=zAc (o':=Ob.dct x.nx.kv) h;erw[M.h B];have H:=zAc (o':=Ob.dct b.kv) B;erw[pd dH,((cw n.ok ⟨(),()⟩).up ()).h H,pd I];rw[zAa,zAa];exact w
end
section
variable{pp:Int}{N:Str->Prop}{ws sc:A9}{x x':Sx}{e:Nat}{dp way:Int}
def bind_fn(H:PH pp N ws e)(O:∀y∈ws,N y)(Q:3<=ws.length/\ws.length<=6)(I:ws.Nodup)(he:e<=14)(hl:sc.length+10*(e+1)<=500)(hd:dp<=e)(m:Iv pp x)(t:x.k<pp):∃P x',Pn pp N sc (e+1) x P x'/\Bl x 28 [scU ws,scU sc,.int dp,.int 0] (3*e+5) P.u x':=by
 have E:=m.a;have i1:=m.nx ();have Z:=m.k;have E:=m.a;have Y:x.nx.k=x.k+1:=rfl;let⟨w,y,n,i,hy,o,f⟩:=gk (sc:=sc) m () Q I;have G:=i1.le o;have F:n.k=x.k+1:=o.k;have B:n.h=x.h:=o.h;have W:=i.few;let⟨P,C,q,X⟩:=H (x:=n) (sc:=sc++w) (dp:=dp) G () (by rw[xAb];lia) hd;have a:=q.at80;have b:=q.hi;have c:=q.lo;erw[<-⟨.fn x.pl w P,C,dX (r:=P.pls) t rfl (.fn (i.z O) q.wf) q.iv (by rw[q.h,B]) (by have:=q.ks;rw[B,F] at this;exact this) () (),⟨λ{fw d p S xx K} h M=>?_⟩⟩,f (d:=d+(3*e+2)) h];have R:=zAc (o':=Ob.dct n.kv) h;erw[<-pv (.bl true)<|bT ?_,pd pQ,pd (dC ()),(X.up (lv':=3*e+4) ()).h (d:=d) R];rw[zAa];exact M
def rW(H:PH pp N ws e)(Y:∀y∈ws,N y)(Z:3<=ws.length/\ws.length<=6)(W:ws.Nodup)(he:e<=14)(hl:sc.length+10*(e+1)<=500)(hd:dp<=e)(i:Iv pp x)(t:x.k<pp):∃P x',Pn pp N sc (e+1) x P x'/\Bl x 28 [scU ws,scU sc,.int dp,.int 1] (3*e+5) P.u x':=by
 have G:=i.a;have i1:=i.nx ();have k0:=i.k;have G:=i.a;have k1:x.nx.k=x.k+1:=rfl;let⟨xs,y,m,R,O,o,f⟩:=gk (sc:=sc) i () Z W;have M:=i1.le o;have I:m.k=x.k+1:=o.k;have C:m.h=x.h:=o.h;let⟨P,n,q,b4⟩:=H (x:=m) (sc:=sc) (dp:=dp) M () () hd;have a:=q.at80;have b:=q.hi;have c:=q.lo;let⟨Q,F,r,b5⟩:=H (x:=n) (sc:=sc++[y]) (dp:=dp) q.iv () (by rw[xAb,xAt];lia) hd;have a':=r.at80;have b':=r.hi;have c':=r.lo;have B:n.h=x.h:=q.h.trans C;erw[<-⟨.lt x.pl y P Q,F,dX (r:=P.pls++Q.pls) t rfl (.lt (Y y O) q.wf r.wf) r.iv (by rw[r.h,B]) (by have k:=r.ks;rw[B] at k;have w:=q.ks;rw[C,I] at w;exact Ks.app w k () ()) () (),⟨λ{fw d p S xx K} h X=>?_⟩⟩,f (d:=d+(3*e+2)) h];have E:=zAc (o':=Ob.dct m.kv) h;erw[<-pv (.bl false)<|bF<|pv (.bl true)<|bT ?_,(b4.up (lv':=3*e+4) ()).h (d:=d) E];have g4:=zAc (o':=Ob.dct n.kv) E;erw[pv (scU [y]),pd (dC<|by rw[xAt];lia),(b5.up (lv':=3*e+4) ()).h (d:=d) g4];rw[zAa,zAa];exact X
def rV(H:PH pp N ws e)(hN:∀y∈ws,N y)(h5:3<=ws.length/\ws.length<=6)(hn:ws.Nodup)(he:e<=14)(hl:sc.length+10*(e+1)<=500)(hd:dp<=e)(m:Iv pp x)(G:x.k<pp):∃P x',Pn pp N sc (e+1) x P x'/\Bl x 28 [scU ws,scU sc,.int dp,.int 2] (3*e+5) P.u x':=by
 have pa:=m.a;have i1:=m.nx ();have k0:=m.k;have pa:=m.a;have k1:x.nx.k=x.k+1:=rfl;let⟨I,y,x3,i,hy,F,f⟩:=gk (sc:=sc) m () h5 hn;have few:=i.few;have O:=i1.le F;let⟨w,o,hw,E,b4⟩:=f6 O.ok;have i4:=O.le E;have k4:o.k=x.k+1:=E.k.trans F.k;have X:o.h=x.h:=E.h.trans F.h;let⟨P,C,q,b5⟩:=H (x:=o) (sc:=sc) (dp:=dp) i4 () () hd;have a:=q.at80;have b:=q.hi;have c:=q.lo;let⟨Q,B,r,b6⟩:=H (x:=C) (sc:=sc++I) (dp:=dp) q.iv () (by rw[xAb];lia) hd;have a':=r.at80;have b':=r.hi;have c':=r.lo;let⟨R,x7,t,b7⟩:=H (x:=B) (sc:=sc) (dp:=dp) r.iv () () hd;have a'':=t.at80;have b'':=t.hi;have c'':=t.lo;have n:C.h=x.h:=q.h.trans X;have W:B.h=x.h:=r.h.trans n;erw[<-⟨.mat x.pl P w I Q R,x7,dX (r:=P.pls++(Q.pls++R.pls)) G rfl (.mat hw (i.z hN) q.wf r.wf t.wf) t.iv (by rw[t.h,W]) (by have k:=r.ks;rw[n] at k;have M:=t.ks;rw[W] at M;have k'':=q.ks;rw[X,k4] at k'';exact Ks.app k'' (k.app M () ()) () ()) () (),⟨λ{fw d p S xx K} h hk=>?_⟩⟩,f (d:=d+(3*e+2)) h];have g3:=zAc (o':=Ob.dct x3.kv) h;erw[<-pv (.bl false)<|bF<|pv (.bl false)<|bF ?_,(b4.up (lv':=3*e+4) ()).h (d:=d) g3];have Z:=zAc (o':=Ob.dct o.kv) g3;erw[(b5.up (lv':=3*e+4) ()).h (d:=d) Z];have Y:=zAc (o':=Ob.dct C.kv) Z;erw[<-pv (.bl true)<|bT ?_,pd pQ,pd (dC ()),(b6.up (lv':=3*e+4) ()).h (d:=d) Y];have g6:=zAc (o':=Ob.dct B.kv) Y;erw[(b7.up (lv':=3*e+4) ()).h (d:=d) g6];rw[zAa,zAa,zAa,zAa];exact hk
def rT(H:PH pp N ws e)(hN:∀y∈ws,N y)(h5:3<=ws.length/\ws.length<=6)(hn:ws.Nodup)(he:e<=14)(hl:sc.length+10*(e+1)<=500)(hd:dp<=e)(i:Iv pp x)(C:x.k<pp)(F:3<=way):∃P x',Pn pp N sc (e+1) x P x'/\Bl x 28 [scU ws,scU sc,.int dp,.int way] (3*e+5) P.u x':=by
 have W:=i.a;have i1:=i.nx ();have k0:=i.k;have W:=i.a;have k1:x.nx.k=x.k+1:=rfl;let⟨xs,y,R,hxs,Z,B,f⟩:=gk (sc:=sc) i () h5 hn;have E:=i1.le B;let⟨w,n,F,t,b4⟩:=f6 E.ok;have Y:=E.le t;have X:n.k=x.k+1:=t.k.trans B.k;have G:n.h=x.h:=t.h.trans B.h;let⟨P,o,q,b5⟩:=H (x:=n) (sc:=sc) (dp:=dp) Y () () hd;have a:=q.at80;have b:=q.hi;have c:=q.lo;let⟨Q,O,r,b6⟩:=H (x:=o) (sc:=sc++[y]) (dp:=dp) q.iv () (by rw[xAb,xAt];lia) hd;have a':=r.at80;have b':=r.hi;have c':=r.lo;have m:o.h=x.h:=q.h.trans G;erw[<-⟨.try_ x.pl P w y Q,O,dX (r:=P.pls++Q.pls) C rfl (.try_ F (hN y Z) q.wf r.wf) r.iv (by rw[r.h,m]) (by have k:=r.ks;rw[m] at k;have k'':=q.ks;rw[G,X] at k'';exact Ks.app k'' k () ()) () (),⟨λ{fw d p S xx K} h hk=>?_⟩⟩,f (d:=d+(3*e+2)) h];have M:=zAc (o':=Ob.dct R.kv) h;erw[pd cj];rw[xCn ()];refine bF<|pd cj ?_;rw[xCn ()];erw[bF,(b4.up (lv':=3*e+4) ()).h (d:=d) M];have I:=zAc (o':=Ob.dct n.kv) M;erw[(b5.up (lv':=3*e+4) ()).h (d:=d) I];have g5:=zAc (o':=Ob.dct o.kv) I;erw[pd cj];rw[xCn ()];erw[bF,pv (scU [y]),pd (dC<|by rw[xAt];lia),(b6.up (lv':=3*e+4) ()).h (d:=d) g5];rw[zAa,zAa,zAa];exact hk
def uE(H:PH pp N ws e)(o:∀y∈ws,N y)(p:3<=ws.length/\ws.length<=6)(i:ws.Nodup)(n:e<=14)(m:sc.length+10*(e+1)<=500)(hd:dp<=e)(b:Iv pp x)(a:x.k<pp)(q:0<=way):∃P x',Pn pp N sc (e+1) x P x'/\Bl x 28 [scU ws,scU sc,.int dp,.int way] (3*e+5) P.u x':=by
 rcases(show way=0\/way=1\/way=2\/3<=way by lia) with h|h|h|h
 .rw[h];exact bind_fn H o p i n m hd b a
 .rw[h];exact rW H o p i n m hd b a
 .rw[h];exact rV H o p i n m hd b a
 .exact rT H o p i n m hd b a h
end
section
variable{pp:Int}{N:Str->Prop}{ws sc:A9}{x x':Sx}{e:Nat}{dp way:Int}
def Ks.ins{h:Int}{l m r:B2}(a:Ks h lo mi<|l++r)(b:Ks h mi hi m)(M:lo<=mi)(K:mi<=hi):Ks h lo hi<|l++(m++r):=by
 let⟨I,e,C,n⟩:=a;let⟨G,rfl,B,p⟩:=b;let⟨F,E,rfl,rfl,rfl⟩:=List.map_eq_append_iff.mp e.symm;let⟨w,t,q⟩:=xBq.mp C;refine⟨F++(G++E),by rw[xAi,xAi],xBq.mpr ⟨w,xBq.mpr ⟨B,t,λx i y o e=>?_⟩,λx i y o e=>?_⟩,λk H=>?_⟩
 .have:=n y<|xBt _ o;have:=p x i;lia
 .rcases xAj.mp o with z|z
  .have:=n x<|xBw _ i;have:=p y z;lia
  .exact q x i y z e
 .rcases xAj.mp H with z|z
  .have:=n k<|xBw _ z;lia
  .rcases xAj.mp z with z|z
   .have:=p k z;lia
   .have:=n k<|xBt _ z;lia
def eu{a b:Int}:pr ups .sub [.int a,.int b] S=.ok (.int<|a-b) S:=rfl
theorem pG{y:Str}(H:PH pp N ws e)(n:(sc++[y]).length+10*e<=500)(hd:dp<=e+3):∀{xs:A9}{x:Sx},Iv pp x->x.k+40*e+10*xs.length<=2000->xs.length<=4->pp+2+6*e+40*e<=1900->∃as x',as.length=xs.length/\Pts pp N (sc++[y]) e x as x'/\∀{fw d p:Nat}{S:So}{K:B7}{xc:B8}{ys:B0},at? S p=some (.dct x.kv)->K (.lst<|ys++Pg.us as) (set S p<|.dct x'.kv)->lcK (Gd fw<|d+(3*e+4)) (lcB [1] true [none,none,some<|.ref p,some<|scU sc,some<|scU ws,some<|.str y,some<|.int dp] none (Jh 32<|Jo J8 J7 (J0 (.add false) Jb<|J4 (.lst false) Je)<|J0 .sub Jl Jw) (Gd fw<|d+(3*e+4)) xc) (xs.map .str) ys S K
 | [],x,m,_,_,_=>⟨[],x,rfl,⟨λ_ z=>(nomatch z),m,rfl,.nil,Int.le_refl _,λ_=>⋯,.inl ⋯⟩,λ{fw d p S K xc ys} h b=>by
  rw[Pg.us,xB0,zBq h] at b;exact b⟩
 |z::xs,x,m,b,C,G=>by
  rw[xAo] at b C;let⟨P,w,p1,M⟩:=H (x:=x) (sc:=sc++[y]) (dp:=dp-3) m () n ();have B:=p1.lo;have F:=p1.hi;let⟨as,t,I,q,f⟩:=pG H n hd (xs:=xs) (x:=w) p1.iv () () G;have i:=q.lo;have E:=q.hi;have a1:=p1.at80;have a2:=q.at80;refine⟨P::as,t,by rw[xAo,xAo,I],⟨λa ha=>?_,q.iv,q.h.trans p1.h,?_,(),λz=>?_,?_⟩,λ{fw d p S K xc ys} h b=>?_⟩
  .rcases xAv.mp ha with rfl|ha
   .exact p1.wf
   .exact q.wf a ha
  .have o:=q.ks;rw[p1.h] at o;exact p1.ks.app o () i
  .rw[xAo];have:=a1 z;have:=a2 ();lia
  .rw[xAo];lia
  .erw[pv (scU [y]),pd (dC<|by rw[xAb] at n;lia),pd eu,(M.up (lv':=3*e+4) ()).h (d:=d) h,f (zAc h)];rw[zAa,xAx];exact b
end
section
variable{pp:Int}{N:Str->Prop}{ws sc:A9}{x x':Sx}{e:Nat}{dp way:Int}
def oq(H:PH pp N ws e)(X:∀y∈ws,N y)(h5:3<=ws.length/\ws.length<=6)(hn:ws.Nodup)(he:e<=11)(hl:sc.length+10*(e+3)<=500)(hd:dp<=e+3)(F:Iv pp x)(h80:x.k<pp):∃P x',Pn pp N sc (e+3) x P x'/\Bl x 31 [scU ws,scU sc,.int dp] (3*e+5) P.u x':=by
 have k0:=F.k;have pa:=F.a;have l1:=x.tk_le (m:=ws.length) F.ok ();let⟨y,hy,ey⟩:=fe (sc:=ws) (i:=x.dg ws.length) (x.dg_lt (m:=ws.length) ());let⟨xs,x2,E,Q,b2⟩:=gX (ws:=ws) l1.ok h5 hn;have R:=l1.trans Q;have few:=E.few;have i2:=F.le R;have k2:x2.k=x.k:=R.k;have Z:x2.h=x.h:=R.h;have j2:=i2.nx ();have m2:x2.nx.k=x.k+1:=by show x2.k+1=_;lia
 let⟨B,x3,q,b3⟩:=H (x:=x2.nx) (sc:=sc++xs) (dp:=dp-3) j2 () (by rw[xAb];lia) ();have a:=q.at80;have b:=q.hi;have c:=q.lo;have Y:x3.h=x.h:=q.h.trans Z;have j3:=q.iv.nx ();have m3:x3.nx.k=x3.k+1:=rfl;let⟨as,x5,n4,r,f⟩:=pG (sc:=sc) (y:=y) (dp:=dp) (xs:=xs) (x:=x3.nx) H (by rw[xAb,xAt];lia) hd j3 () few ();have a':=r.at80;have b':=r.hi;have c':=r.lo;have n:x5.h=x.h:=r.h.trans Y;have j5:=r.iv.nx ();have m5:x5.nx.k=x5.k+1:=rfl;have I:=j5.nx ();have m6:x5.nx.nx.k=x5.k+2:=by show x5.k+1+1=_;lia
 have O:=x5.nx.nx.tk_le (m:=2) I.ok ∅;have W:=I.le O;have m7:(x5.nx.nx.tk 2).k=x5.k+2:=O.k.trans m6;have M:(x5.nx.nx.tk 2).h=x.h:=O.h.trans n;have k3:Ks x.h x.k x3.k<|x2.pl::B.pls:=by
  have k:=q.ks;rw[m2,show x2.nx.h=x.h from Z] at k;have:=Ks.cons (h:=x.h) (lo:=x.k) (k:=x.k+1) () (Int.le_refl _) k ();rw[show x2.pl=zBn x.h (x.k+1) by show zBn x2.h (x2.k+1)=_;rw[Z,k2]];exact this
 have k4:Ks x.h x.k (x3.k+1)<|x3.pl::(x2.pl::B.pls):=by
  have o:Ks x.h x3.k (x3.k+1) [x3.pl]:=by
   rw[show x3.pl=zBn x.h (x3.k+1) by show zBn x3.h (x3.k+1)=_;rw[Y]];exact Ks.one () ()
  exact Ks.ins (l:=[]) k3 o () ()
 have kC:Ks x.h (x3.k+1) (x5.k+2)<|x5.pl::x5.nx.pl::Pg.plss as:=by
  have k:=r.ks;rw[m3,show x3.nx.h=x.h from Y] at k;have o:Ks x.h x5.k (x5.k+2) [x5.pl,x5.nx.pl]:=by
   rw[show x5.pl=zBn x.h (x5.k+1) by show zBn x5.h (x5.k+1)=_;rw[n],show x5.nx.pl=zBn x.h (x5.k+2) by show zBn x5.h (x5.k+1+1)=_;rw[n];exact congrArg _ ()];exact Ks.cons () (Int.le_refl _) (Ks.one () ()) ()
  exact Ks.ins (l:=[]) k o () ()
 have wF:Wf N sc (e+2)<|.fn x2.pl xs B:=(Wf.fn (E.z X) q.wf).up ();have wC:Wf N (sc++[y]) (e+1)<|.call x5.pl (.nam x5.nx.pl y) as:=.call (.nam ⋯) r.wf ();have C:∀{fw d p:Nat}{S:So}{xx:B8}{K:B7},at? S p=some (.dct x.kv)->(at? (set S p<|.dct x5.nx.nx.kv) p=some (.dct x5.nx.nx.kv)->rz2 (Gd fw<|d+(3*e+4)) [some<|.ref p,some<|scU ws,some<|scU sc,some<|.int dp,some<|.str y,some<|.tup<|xs.map .str,some<|Pg.u<|.fn x2.pl xs B,some<|.int x3.pl,some<|.tup<|Pg.us as,some<|Pg.u<|.call x5.pl (.nam x5.nx.pl y) as] (set S p<|.dct x5.nx.nx.kv) (zAn xx K))->(Gd fw<|d+(3*e+5)).call 31 [.ref p,scU ws,scU sc,.int dp] S xx K:=λ{fw d p S xx K} h G=>by
  erw[cd (d:=d+(3*e+4)) ⟨4,10,t31⟩,pd dH,((cw F.ok ⟨(),()⟩).up (lv':=3*e+4) ()).h (d:=d) h];have g1:=zAc (o':=Ob.dct (x.tk ws.length).kv) h;erw[pd ey,(b2.up (lv':=3*e+4) ()).h (d:=d) g1];have g2:=zAc (o':=Ob.dct x2.kv) g1;erw[((cf i2.k).up (lv':=3*e+4) ()).h (d:=d) g2];have g3:=zAc (o':=Ob.dct x2.nx.kv) g2;erw[pd pQ,pd (dC ()),pd eu,(b3.up (lv':=3*e+4) ()).h (d:=d) g3];have g4:=zAc (o':=Ob.dct x3.kv) g3;erw[((cf q.iv.k).up (lv':=3*e+4) ()).h (d:=d) g4];have g5:=zAc (o':=Ob.dct x3.nx.kv) g4;erw[pv (.tup<|xs.map .str),<-bI (λ_=>?_) λz=>?_]
  .erw[f g5];rw[xC6];erw[pv (.tup<|Pg.us as)];have g6:=zAc (o':=Ob.dct x5.kv) g5;erw[((cf r.iv.k).up (lv':=3*e+4) ()).h (d:=d) g6];have g7:=zAc (o':=Ob.dct x5.nx.kv) g6;erw[((cf j5.k).up (lv':=3*e+4) ()).h (d:=d) g7];rw[zAa,zAa,zAa,zAa,zAa,zAa,zAa];exact G<|zAc h
  .rw[xAa,xDk<|show xs.length<=sizeLine by show _<=2^24;lia] at z;cases z
 by_cases hb:x5.nx.nx.dg 2=1
 .let⟨D,w,t,b10⟩:=H (x:=(x5.nx.nx.tk 2).nx) (sc:=sc++[y]) (dp:=dp-3) (W.nx ()) (by show(x5.nx.nx.tk 2).k+1+_<=_;lia) (by rw[xAb,xAt];lia) ();have m8:(x5.nx.nx.tk 2).nx.k=x5.k+3:=by show(x5.nx.nx.tk 2).k+1=_;lia
  have a'':=t.at80;have b'':=t.hi;have c'':=t.lo;have kD:Ks x.h (x3.k+1) w.k<|(x5.nx.nx.tk 2).pl::(x5.pl::x5.nx.pl::Pg.plss as)++D.pls:=by
   have o:Ks x.h (x5.k+2) (x5.k+3) [(x5.nx.nx.tk 2).pl]:=by
    rw[show(x5.nx.nx.tk 2).pl=zBn x.h (x5.k+3) by show zBn (x5.nx.nx.tk 2).h ((x5.nx.nx.tk 2).k+1)=_;rw[M,m7];congr 1;lia];exact Ks.one () ()
   have k:=t.ks;rw[m8,show(x5.nx.nx.tk 2).nx.h=x.h from M] at k;exact Ks.app (Ks.ins (l:=[]) kC o () ()) k () ()
  erw[<-⟨.lt x3.pl y (.fn x2.pl xs B)<|.dd (x5.nx.nx.tk 2).pl (.call x5.pl (.nam x5.nx.pl y) as) D,w,⟨.lt (X y hy) wF (.dd wC<|t.wf.up ()),t.iv,t.h.trans M,k4.app kD () (),(),()⟩,⟨λ{fw d p S xx K} h G=>?_⟩⟩,<-C h λg=>?_,((cw I.ok ∅).up (lv':=3*e+4) ()).h (d:=d) g];have g8:=zAc (o':=Ob.dct (x5.nx.nx.tk 2).kv) g;erw[pd cj];rw[xBd hb];erw[bT,((cf W.k).up (lv':=3*e+4) ()).h (d:=d) g8];have g9:=zAc (o':=Ob.dct (x5.nx.nx.tk 2).nx.kv) g8;erw[pv (scU [y]),pd (dC<|by rw[xAt];lia),pd eu,(b10.up (lv':=3*e+4) ()).h (d:=d) g9];rw[zAa,zAa,zAa];exact G
 .erw[<-⟨.lt x3.pl y (.fn x2.pl xs B)<|.call x5.pl (.nam x5.nx.pl y) as,x5.nx.nx.tk 2,⟨.lt (X y hy) wF (wC.up ()),W,M,by rw[m7];exact k4.app kC () (),(),()⟩,⟨λ{fw d p S xx K} h G=>?_⟩⟩,<-C h λg=>?_,((cw I.ok ∅).up (lv':=3*e+4) ()).h (d:=d) g,pd cj];rw[xCn hb];erw[bF];rw[zAa];exact G
end
section
variable{pp:Int}{N:Str->Prop}{ws sc:A9}{x x':Sx}{e:Nat}{dp way:Int}
def nxs:Nat->Sx->Sx
 |0,x=>x
 |n+1,x=>nxs n x.nx
def pln:Nat->Sx->B2
 |0,_=>[]
 |n+1,x=>x.pl::pln n x.nx
theorem kM:∀{n:Nat}{x:Sx},Iv pp x->x.k+n<=9000->Iv pp (nxs n x)/\(nxs n x).k=x.k+n/\(nxs n x).h=x.h
 |0,x,i,_=>⟨i,by show x.k=_;lia,rfl⟩
 |n+1,x,i,o=>by
  have m:x.nx.k=x.k+1:=rfl;let⟨a,b,c⟩:=kM (n:=n) (i.nx ()) ();exact⟨a,by show(nxs n x.nx).k=_;lia,c⟩
theorem pH:∀{n:Nat}{x:Sx}{lo fw d p:Nat}{S:So}{K:B7}{xc:B8}{ys:B0},Iv pp x->x.k+n<=9000->at? S p=some (.dct x.kv)->K (.lst<|ys++(pln n x).map .int) (set S p<|.dct (nxs n x).kv)->lcK (Gd fw<|d+2) (lcB [1] true [none,none,some<|.ref p] none (Jf 23 J8) (Gd fw<|d+2) xc) (zBi (lo:Int) n) ys S K
 |0,x,lo,fw,d,p,S,K,xc,ys,b,_,h,a=>by
  rw[pln,List.map_nil,xB0,nxs,zBq h] at a;exact a
 |n+1,x,lo,fw,d,p,S,K,xc,ys,b,m,h,a=>by
  have i:x.nx.k=x.k+1:=rfl;erw[((cf b.k).up (lv':=2) ()).h (d:=d) h,pH (lo:=lo+1) (b.nx ()) () (zAc h)];rw[zAa,xAx];exact a
def zJy{h k:Int}:Ks h k (k+14)<|[k+13,k+14,k+7,k+8,k+9,k+4,k+5,k+6,k+1,k+2,k+3,k+10,k+11,k+12].map<|zBn h:=by
 refine⟨_,rfl,?_,λj i=>?_⟩
 .have:[(13:Int),14,7,8,9,4,5,6,1,2,3,10,11,12].Nodup:=by decide
  exact List.Pairwise.map (λj=>k+j) (λa b h=>by omega) this
 .simp only[xAv,xBv,or_false] at i;omega
end
section
variable{pp:Int}{N:Str->Prop}{ws sc:A9}{x x':Sx}{e:Nat}{dp way:Int}
def zFn(z:Sx)(y:Str)(A B:Pg)(d s m:Int):Pg:=.lt (nxs 12 z).pl y (.num (nxs 13 z).pl 0)<|.dd d (.st s y<|.fn (nxs 6 z).pl ["n"]<|.iff (nxs 7 z).pl (.nam (nxs 8 z).pl "n") (.dd (nxs 3 z).pl A<|.call (nxs 4 z).pl (.nam (nxs 5 z).pl y) [.math (nxs 0 z).pl "sub" (.nam (nxs 1 z).pl "n")<|.num (nxs 2 z).pl 1]) B)<|.call (nxs 9 z).pl (.nam (nxs 10 z).pl y) [.num (nxs 11 z).pl m]
def zn{z:Sx}{A B:Pg}{d s m:Int}(o:N "n")(k:N y)(p:2<=e)(i:Wf N (sc++[y,"n"]) e A)(hB:Wf N (sc++[y,"n"]) e B)(w:0<=m/\m<8):Wf N sc (e+6)<|zFn z y A B d s m:=by
 have t:sc++[y,"n"]=sc++[y]++[("n":Str)]:=by simp
 rw[t] at i hB;have hq:Wf N (sc++[y]++[("n":Str)]) 2<|.call (nxs 4 z).pl (.nam (nxs 5 z).pl y) [.math (nxs 0 z).pl "sub" (.nam (nxs 1 z).pl "n")<|.num (nxs 2 z).pl 1]:=by
  refine .call (.nam ⋯) (λa b=>?_) (by rw[xAt];decide);rw[xAm.mp b];exact .math ∅ (.nam ⋯) (.num ∅ ∅)
 have n:Wf N (sc++[y]) (e+4)<|.call (nxs 9 z).pl (.nam (nxs 10 z).pl y) [.num (nxs 11 z).pl m]:=by
  refine .call (.nam ⋯) (λa b=>?_) (by rw[xAt];decide);rw[xAm.mp b];exact .num () ()
 refine .lt k (.num ∅ ∅)<|.dd (.st ⋯<|.fn ⟨λq hq=>?_,∅,⋯⟩<|.iff (.nam ⋯) (.dd i<|hq.up p)<|hB.up ()) n;rw[xAm.mp hq];exact o
def zr{z:Sx}{A B:Pg}{d s m t q w:Int}{h k:Int}(o:∀i:Nat,i<14->(nxs i z).pl=zBn h (k+i+1))(W:Ks h (k+14) t A.pls)(R:Ks h t q B.pls)(Q:Ks h q w [d,s])(P:k+14<=t)(O:t<=q)(M:q<=w):Ks h k w (zFn z y A B d s m).pls:=by
 have b:=zJy (h:=h) (k:=k);have X:[k+13,k+14,k+7,k+8,k+9,k+4,k+5,k+6,k+1,k+2,k+3,k+10,k+11,k+12].map (zBn h)=[(nxs 12 z).pl,(nxs 13 z).pl,(nxs 6 z).pl,(nxs 7 z).pl,(nxs 8 z).pl,(nxs 3 z).pl,(nxs 4 z).pl,(nxs 5 z).pl,(nxs 0 z).pl,(nxs 1 z).pl,(nxs 2 z).pl,(nxs 9 z).pl,(nxs 10 z).pl,(nxs 11 z).pl]:=by
  rw[o 0 ∅,o 1 ∅,o 2 ∅,o 3 ∅,o 4 ∅,o 5 ∅,o 6 ∅,o 7 ∅,o 8 ∅,o 9 ∅,o 10 ∅,o 11 ∅,o 12 ∅,o 13 ∅];simp only[xBs,List.map_nil,Int.add_assoc];rfl
 rw[X] at b;have b1:=Ks.ins (l:=[(nxs 12 z).pl,(nxs 13 z).pl,(nxs 6 z).pl,(nxs 7 z).pl,(nxs 8 z).pl,(nxs 3 z).pl]) (r:=[(nxs 4 z).pl,(nxs 5 z).pl,(nxs 0 z).pl,(nxs 1 z).pl,(nxs 2 z).pl,(nxs 9 z).pl,(nxs 10 z).pl,(nxs 11 z).pl]) b W () P;have Z:=Ks.ins (l:=[(nxs 12 z).pl,(nxs 13 z).pl,(nxs 6 z).pl,(nxs 7 z).pl,(nxs 8 z).pl,(nxs 3 z).pl]++(A.pls++[(nxs 4 z).pl,(nxs 5 z).pl,(nxs 0 z).pl,(nxs 1 z).pl,(nxs 2 z).pl])) (r:=[(nxs 9 z).pl,(nxs 10 z).pl,(nxs 11 z).pl]) (by simpa using b1) R () O;have Y:=Ks.ins (l:=[(nxs 12 z).pl,(nxs 13 z).pl]) (r:=[(nxs 6 z).pl,(nxs 7 z).pl,(nxs 8 z).pl,(nxs 3 z).pl]++(A.pls++([(nxs 4 z).pl,(nxs 5 z).pl,(nxs 0 z).pl,(nxs 1 z).pl,(nxs 2 z).pl]++(B.pls++[(nxs 9 z).pl,(nxs 10 z).pl,(nxs 11 z).pl])))) (by simpa using Z) Q () M;have p1:∀p n,(Pg.num p n).pls=[p]:=λ_ _=>rfl;have p2:∀p x,(Pg.nam p x).pls=[p]:=λ_ _=>rfl;have K:∀p x b,(Pg.fn p x b).pls=p::b.pls:=λ_ _ _=>rfl;have I:∀p a b,(Pg.call p a [b]).pls=p::(a.pls++(b.pls++[])):=λ_ _ _=>rfl;have H:∀p x a b,(Pg.lt p x a b).pls=p::(a.pls++b.pls):=λ_ _ _ _=>rfl;have G:∀p x a,(Pg.st p x a).pls=p::a.pls:=λ_ _ _=>rfl;have F:∀p a b,(Pg.dd p a b).pls=p::(a.pls++b.pls):=λ_ _ _=>rfl;have E:∀p a b c,(Pg.iff p a b c).pls=p::(a.pls++(b.pls++c.pls)):=λ_ _ _ _=>rfl;have C:∀p x a b,(Pg.math p x a b).pls=p::(a.pls++b.pls):=λ_ _ _ _=>rfl;simpa [zFn,p1,p2,K,I,H,G,F,E,C] using Y
end
section
variable{pp:Int}{N:Str->Prop}{ws sc:A9}{x x':Sx}{e:Nat}{dp way:Int}
structure Ixs(L:B0)(c:Nat->Int):Prop where
 h:∀{i:Nat}{S:So},i<14->pr ups .ix [.lst L,.int (i:Int)] S=.ok (.int (c i)) S
def zo{z:Sx}{a:U}(hL:Ixs L c)(b:Iv pp z)(F:z.k<9000){p:Nat}{K:B7}{C B:A3 U}(h:at? S p=some (.dct z.kv))(k:K (.tup [.str "let",.int<|c 12,.str y,.tup [.str "number",.int<|c 13,.int 0],.tup [.str "do",.int (z.tk 8).pl,.tup [.str "set",.int (z.tk 8).nx.pl,.str y,a],.tup [.str "call",.int<|c 9,.tup [.str "name",.int<|c 10,.str y],.tup [.tup [.str "number",.int<|c 11,.int<|z.dg 8]]]]])<|set S p<|.dct (z.tk 8).nx.nx.kv):zE6 (Gd fw<|d+2) [some<|.ref p,a1,a2,a3,some<|.str y,C,some<|.lst L,a7,a8,B,a10,a11,some a,a13] S<|zAn xx K:=by
 have n:=z.tk_le (m:=8) b.ok ∅;have o:=b.le n;have E:(z.tk 8).k=z.k:=n.k;have t:=o.nx ();erw[pd (hL.h (i:=9) ∅),pd (hL.h (i:=10) ∅),pd (hL.h (i:=11) ∅),((cw b.ok ∅).up (lv':=2) ()).h (d:=d) h];have q:=zAc (o':=Ob.dct (z.tk 8).kv) h;erw[((cf o.k).up (lv':=2) ()).h (d:=d) q];have w:=zAc (o':=Ob.dct (z.tk 8).nx.kv) q;erw[((cf t.k).up (lv':=2) ()).h (d:=d) w,pd (hL.h (i:=12) ∅),pd (hL.h (i:=13) ∅)];rw[zAa,zAa];exact k
end
def zp{z:Sx}{n:Str}{a:U}(hL:Ixs L c)(b:Iv pp z)(e:z.k<9000){p:Nat}{K:B7}(h:at? S p=some (.dct z.kv))(k:K (.tup [.str "let",.int<|c 12,.str y,.tup [.str "number",.int<|c 13,.int 0],.tup [.str "do",.int (z.tk 8).pl,.tup [.str "set",.int (z.tk 8).nx.pl,.str y,.tup [.str "fn",.int<|c 6,.tup [.str n],.tup [.str "if",.int<|c 7,.tup [.str "name",.int<|c 8,.str n],a,u9]]],.tup [.str "call",.int<|c 9,.tup [.str "name",.int<|c 10,.str y],.tup [.tup [.str "number",.int<|c 11,.int<|z.dg 8]]]]])<|set S p<|.dct (z.tk 8).nx.nx.kv):zE7 (Gd fw<|d+2) [some<|.ref p,a1,a2,a3,some<|.str y,some<|.str n,some<|.lst L,a7,a8,some u9,a10,some a,a12,a13] S<|zAn xx K:=by
 erw[pd (hL.h (i:=6) ∅),pd (hL.h (i:=7) ∅),pd (hL.h (i:=8) ∅),<-zo hL b e h k]
def lpU(c:Nat->Int)(y n:Str)(a b l:U)(d s m:Int):U:=.tup [.str "let",.int<|c 12,.str y,.tup [.str "number",.int<|c 13,.int 0],.tup [.str "do",.int d,.tup [.str "set",.int s,.str y,.tup [.str "fn",.int<|c 6,.tup [.str n],.tup [.str "if",.int<|c 7,.tup [.str "name",.int<|c 8,.str n],.tup [.str "do",.int<|c 3,a,.tup [.str "call",.int<|c 4,.tup [.str "name",.int<|c 5,.str y],.tup [l]]],b]]],.tup [.str "call",.int<|c 9,.tup [.str "name",.int<|c 10,.str y],.tup [.tup [.str "number",.int<|c 11,.int m]]]]]
section
variable{L:B0}{c:Nat->Int}{y n:Str}{u8 u9 u10:U}{fw d p:Nat}{S:So}{E:Ee Prop}{a1 a2 a3 a7 a10 a11 a12 a13:A3 U}{t:B5}
def xr(hL:Ixs L c)(k:t (Gd fw<|d+2) [some<|.ref p,a1,a2,a3,some<|.str y,some<|.str n,some<|.lst L,a7,some u8,some u9,some u10,some<|.tup [.str "do",.int<|c 3,u8,.tup [.str "call",.int<|c 4,.tup [.str "name",.int<|c 5,.str y],.tup [u10]]],a12,a13] S E):(sQ rz3 t) (Gd fw<|d+2) [some<|.ref p,a1,a2,a3,some<|.str y,some<|.str n,some<|.lst L,a7,some u8,some u9,some u10,a11,a12,a13] S E:=by
 erw[pd (hL.h (i:=3) ∅),pd (hL.h (i:=4) ∅),pd (hL.h (i:=5) ∅),<-k]
def xt(hL:Ixs L c)(k:t (Gd fw<|d+2) [some<|.ref p,a1,a2,a3,some<|.str y,some<|.str n,some<|.lst L,a7,some u8,some u9,some<|.tup [.str "math",.int<|c 0,.str "sub",.tup [.str "name",.int<|c 1,.str n],.tup [.str "number",.int<|c 2,.int 1]],a11,a12,a13] S E):(sQ rz4 t) (Gd fw<|d+2) [some<|.ref p,a1,a2,a3,some<|.str y,some<|.str n,some<|.lst L,a7,some u8,some u9,a10,a11,a12,a13] S E:=by
 erw[pd (hL.h (i:=0) ∅),pd (hL.h (i:=1) ∅),pd (hL.h (i:=2) ∅),<-k]
end
def zq{z:Sx}{n:Str}{a:U}(hL:Ixs L c)(b:Iv pp z)(e:z.k<9000){p:Nat}{K:B7}(h:at? S p=some (.dct z.kv))(k:K (lpU c y n a u9 (.tup [.str "math",.int<|c 0,.str "sub",.tup [.str "name",.int<|c 1,.str n],.tup [.str "number",.int<|c 2,.int 1]]) (z.tk 8).pl (z.tk 8).nx.pl<|z.dg 8)<|set S p<|.dct (z.tk 8).nx.nx.kv):zJp (Gd fw<|d+2) [some<|.ref p,a1,a2,a3,some<|.str y,some<|.str n,some<|.lst L,a7,some a,some u9,a10,a11,a12,a13] S<|zAn xx K:=xt hL<|xr hL<|zp hL b e h k
section
variable{pp:Int}{N:Str->Prop}{ws sc:A9}{x x':Sx}{e:Nat}{dp way:Int}
theorem l8:∀{n i:Nat}{x:Sx},i<n->(pln n x)[i]?=some (nxs i x).pl
 |n+1,0,x,_=>rfl
 |n+1,i+1,x,h=>l8 (n:=n) (i:=i) (x:=x.nx) ()
def wy:Ixs ((pln 14 x).map .int) λi=>(nxs i x).pl:=⟨λ{i S} h=>by
 show opt (atI ((pln 14 x).map U.int) (i:Int)) S=_;rw[dh (v:=.int (nxs i x).pl)<|by rw[xAw,l8 h];rfl];rfl⟩
def AC{z:Sx}{A B:Pg}{d s m:Int}:lpU (λi=>(nxs i z).pl) y "n" A.u B.u (.tup [.str "math",.int (nxs 0 z).pl,.str "sub",.tup [.str "name",.int (nxs 1 z).pl,.str "n"],.tup [.str "number",.int (nxs 2 z).pl,.int 1]]) d s m=(zFn z y A B d s m).u:=rfl
def lQ{a b:Int}:pr ups .sub [.int a,.int b] S=.ok (.int<|a-b) S:=rfl
def ub(H:PH pp N ws e)(hN:∀y∈ws,N y)(M:N "n")(h5:3<=ws.length/\ws.length<=6)(he:2<=e/\e<=8)(hl:sc.length+10*(e+6)<=500)(hd:dp<=e+6)(t:Iv pp x)(h60:x.k<pp-20):∃P x',Pn pp N sc (e+6) x P x'/\Bl x 27 [scU ws,scU sc,.int dp] (3*e+5) P.u x':=by
 have k0:=t.k;have pa:=t.a;have C:=x.tk_le (m:=ws.length) t.ok ();let⟨y,hy,ey⟩:=fe (sc:=ws) (i:=x.dg ws.length) (x.dg_lt (m:=ws.length) ());have i1:=t.le C;have I:(x.tk ws.length).k=x.k:=C.k;have E:(x.tk ws.length).h=x.h:=C.h;have tb:=(cw t.ok (m:=ws.length) ⟨(),()⟩)
 generalize x.tk ws.length=z at C i1 I E tb;let⟨i2,X,h2⟩:=kM (n:=14) i1 ();have O:=λ{fw d p:Nat} {S:So} {K:B7} {xc:B8}=>pH (n:=14) (x:=z) (lo:=0) (fw:=fw) (d:=d) (p:=p) (S:=S) (K:=K) (xc:=xc) (ys:=[]) i1 ();have hz:∀i:Nat,i<14->(nxs i z).pl=zBn x.h (x.k+i+1):=λi hi=>by
  let⟨_,a,b⟩:=kM (n:=i) i1 ();show zBn (nxs i z).h ((nxs i z).k+1)=_;rw[a,b,E,I]
 generalize hw:nxs 14 z=w at i2 X h2 O;have ls:(sc++[y,("n":Str)]).length=sc.length+2:=by rw[xAb];rfl
 let⟨A,F,q,b3⟩:=H (x:=w) (sc:=sc++[y,"n"]) (dp:=dp-6) i2 () () ();have a:=q.at80;have b:=q.hi;have c:=q.lo;let⟨B,x4,r,b4⟩:=H (x:=F) (sc:=sc++[y,"n"]) (dp:=dp-6) q.iv () () ();have a':=r.at80;have b':=r.hi;have c':=r.lo;have Y:F.h=x.h:=q.h.trans<|h2.trans E;have h4:x4.h=x.h:=r.h.trans Y;have G:=x4.tk_le (m:=8) r.iv.ok ∅;have i5:=r.iv.le G;have W:(x4.tk 8).k=x4.k:=G.k;have o:(x4.tk 8).h=x.h:=G.h.trans h4;have i7:=(i5.nx ()).nx (by show(x4.tk 8).k+1<_;lia);have kx:(x4.tk 8).nx.nx.k=x4.k+2:=by show(x4.tk 8).k+1+1=_;lia
 have R:=q.ks;rw[h2.trans E,X,I] at R;have Q:=r.ks;rw[Y] at Q;have kC:Ks x.h x4.k (x4.k+2) [(x4.tk 8).pl,(x4.tk 8).nx.pl]:=by
  rw[show(x4.tk 8).pl=zBn x.h (x4.k+1) by show zBn (x4.tk 8).h ((x4.tk 8).k+1)=_;rw[o,W],show(x4.tk 8).nx.pl=zBn x.h (x4.k+2) by show zBn (x4.tk 8).h ((x4.tk 8).k+1+1)=_;rw[o,W];congr 1;lia];exact Ks.cons () (Int.le_refl _) (Ks.one () ()) ()
 have kk:=zr (z:=z) (y:=y) (A:=A) (B:=B) (m:=x4.dg 8) hz R Q kC () () ();have wf:=zn (N:=N) (sc:=sc) (z:=z) (A:=A) (B:=B) (d:=(x4.tk 8).pl) (s:=(x4.tk 8).nx.pl) M (hN y hy) he.1 q.wf r.wf (x4.dg_lt (m:=8) ∅);erw[<-⟨zFn z y A B (x4.tk 8).pl (x4.tk 8).nx.pl<|x4.dg 8,(x4.tk 8).nx.nx,⟨wf,i7,o,by rw[kx];exact kk,(),()⟩,⟨λ{fw d p S xx K} h hk=>?_⟩⟩,cd (d:=d+(3*e+4)) ⟨4,14,t27⟩,pd dH,(tb.up (lv':=3*e+4) ()).h (d:=d) h];have g1:=zAc (o':=Ob.dct z.kv) h;erw[pd ey,pd (gr ∅)];refine bI (λ_=>?_) λz=>by cases z
 erw[O (d:=d+(3*e+2)) g1];have g2:=zAc (o':=Ob.dct w.kv) g1;erw[pv (scU [y,"n"]),pd (dC<|by show _+2<=_;lia),pd lQ,(b3.up (lv':=3*e+4) ()).h (d:=d) g2];have Z:=zAc (o':=Ob.dct F.kv) g2;erw[pd lQ,(b4.up (lv':=3*e+4) ()).h (d:=d) Z];have g4:=zAc (o':=Ob.dct x4.kv) Z;erw[zq (d:=d+(3*e+2)) wy r.iv () g4];rw[AC,zAa,zAa,zAa,zAa];exact hk
end
section
variable{pp:Int}{N:Str->Prop}{ws sc:A9}{x x':Sx}{e dm:Nat}{dp way:Int}
def wq(h:3<=way/\way<10):∃w,0<=w/\pr ups .ix [.lst [.int 1,.int 1,.int 0,.int 1,.int 2,.int 3,.int 1],.int<|way-3] S=.ok (.int w) S:=by
 rcases(show way=3\/way=4\/way=5\/way=6\/way=7\/way=8\/way=9 by lia) with h|h|h|h|h|h|h <;> rw[h]
 .exact⟨1,∅,rfl⟩
 .exact⟨1,∅,rfl⟩
 .exact⟨0,∅,rfl⟩
 .exact⟨1,∅,rfl⟩
 .exact⟨2,∅,rfl⟩
 .exact⟨3,∅,rfl⟩
 .exact⟨1,∅,rfl⟩
def RsP(pp:Int)(N:Str->Prop)(ws sc:A9)(dm:Nat)(dp way:Int)(x:Sx)(t:B5):Prop:=∃P x',Pn pp N sc dm x P x'/\∀{fw d p:Nat}{S:So}{xx:B8}{K:B7},at? S p=some (.dct x.kv)->K P.u (set S p<|.dct x'.kv)->t (Gd fw<|d+(3*dm+2)) [some<|.ref p,some<|scU ws,some<|scU sc,some<|.int dp,some<|.int way] S (zAn xx K)
def Ap(E:10<=way)(w:∀y∈ws,N y)(B:3<=ws.length/\ws.length<=6)(m:ws.Nodup)(C:dm<=14)(IH:∀e<dm,PH pp N ws e)(o:Iv pp x)(a:x.k<pp)(t:sc.length+10*dm<=500)(hd:dp<=dm)(F:0<dp):RsP pp N ws sc dm dp way x zEa:=by
 by_cases hh:way<14/\3<dp
 .obtain⟨e,rfl⟩:∃e,dm=e+3:=⟨dm-3,()⟩
  let⟨P,x',q,b⟩:=oq (sc:=sc) (dp:=dp) (IH e ()) w B m () t hd o a;erw[<-⟨P,x',q,λ{fw d p S xx K} h n=>?_⟩,pv (.bl<|decide<|way<14)];rw[xBd hh.1];erw[bT,pv (.bl<|decide<|3<dp)];rw[xBd hh.2];erw[bT];exact(b.up (lv':=3*(e+3)+2) ()).h (d:=d) h n
 .obtain⟨e,rfl⟩:∃e,dm=e+1:=⟨dm-1,()⟩
  let⟨P,x',q,b⟩:=pZ (sc:=sc) (dp:=dp-1) (way:=(way-10)%12) (IH e ()) () () () o a ⟨xBa _ ∅,xBb _ ∅⟩;refine⟨P,x',q,λ{fw d p S xx K} h n=>?_⟩;have i:(J6<|Jh 30<|Jp J2 J3 J8 (J0 .sub Jb Jc)<|J0 .mod (J0 .sub J7<|J9 10)<|J9 12) (Gd fw<|d+(3*(e+1)+2)) [some<|.ref p,some<|scU ws,some<|scU sc,some<|.int dp,some<|.int way] S<|zAn xx K:=by
   erw[pd eu,pd eu,pd (cb ∅)];exact(b.up (lv':=3*(e+1)+2) ()).h (d:=d) h n
  erw[pv (.bl<|decide<|way<14)];by_cases h1:way<14
  .rw[xBd h1];erw[bT,pv (.bl<|decide<|3<dp)];rw[xCn ()];exact bF i
  .rw[xCn h1];exact bF<|bF i
def Aq(M:3<=way)(G:∀y∈ws,N y)(E:N "n")(H:3<=ws.length/\ws.length<=6)(n:ws.Nodup)(I:dm<=14)(IH:∀e<dm,PH pp N ws e)(m:Iv pp x)(t:x.k<pp)(F:sc.length+10*dm<=500)(hd:dp<=dm)(O:0<dp):RsP pp N ws sc dm dp way x zH3:=by
 by_cases h10:way<10
 .obtain⟨e,rfl⟩:∃e,dm=e+1:=⟨dm-1,()⟩
  let⟨w,C,B⟩:=wq (S:=[]) ⟨M,h10⟩;let⟨P,x',q,b⟩:=uE (sc:=sc) (dp:=dp-1) (way:=w) (IH e ()) G H n () F () m t C;erw[<-⟨P,x',q,λ{fw d p S xx K} h o=>?_⟩,pv (.bl<|decide<|way<10)];rw[xBd h10];erw[bT,pd eu,pv (.lst [.int 1,.int 1,.int 0,.int 1,.int 2,.int 3,.int 1]),pd eu,<-pd (v:=.int w) (S':=S) ?_ ?_]
  .have R:∀S:So,pr ups .ix [.lst [.int 1,.int 1,.int 0,.int 1,.int 2,.int 3,.int 1],.int<|way-3] S=opt (atI [.int 1,.int 1,.int 0,.int 1,.int 2,.int 3,.int 1]<|way-3) S:=λ_=>rfl;rw[R] at B⊢;cases ho:atI ([.int 1,.int 1,.int 0,.int 1,.int 2,.int 3,.int 1]:B0) (way-3) with
   |none=>rw[ho] at B;cases B
   |some v=>rw[ho] at B;cases B;rfl
  .exact(b.up (lv':=3*(e+1)+2) ()).h (d:=d) h o
 .by_cases hh:way<12/\7<dp/\x.k<pp-20
  .obtain⟨e,rfl⟩:∃e,dm=e+6:=⟨dm-6,()⟩
   let⟨P,x',q,b⟩:=ub (sc:=sc) (dp:=dp) (IH e ()) G E H () F hd m hh.2.2;refine⟨P,x',q,λ{fw d p S xx K} h o=>?_⟩;have Q:=m.a;erw[pv (.bl<|decide<|way<10)];rw[xCn h10];erw[bF,pv (.bl<|decide<|way<12)];rw[xBd hh.1];erw[bT,pv (.bl<|decide<|7<dp)];rw[xBd hh.2.1];erw[bT,pd (qM h),pv (.bl<|decide<|20<x.a)];rw[xBd ()];erw[bT];exact(b.up (lv':=3*(e+6)+2) ()).h (d:=d) h o
  .let⟨P,x',q,b⟩:=Ap () G H n I IH m t F hd O (way:=way);refine⟨P,x',q,λ{fw d p S xx K} h o=>?_⟩;have Q:=m.a;have i:zEa (Gd fw<|d+(3*dm+2)) [some<|.ref p,some<|scU ws,some<|scU sc,some<|.int dp,some<|.int way] S<|zAn xx K:=b h o;erw[pv (.bl<|decide<|way<10)];rw[xCn h10];erw[bF,pv (.bl<|decide<|way<12)];by_cases h1:way<12
   .rw[xBd h1];erw[bT,pv (.bl<|decide<|7<dp)];by_cases h2:7<dp
    .rw[xBd h2];erw[bT,pd (qM h),pv (.bl<|decide<|20<x.a)];rw[xCn ()];exact bF i
    .rw[xCn h2];exact bF<|bF i
   .rw[xCn h1];exact bF<|bF i
def tu(I:∀y∈ws,N y)(F:N "n")(M:3<=ws.length/\ws.length<=6)(E:ws.Nodup)(G:dm<=14)(IH:∀e<dm,PH pp N ws e):PH pp N ws dm:=λ{x sc dp} C w H hd=>by
 have t:=x.tk_le (m:=26) C.ok ∅;have i1:=C.le t;have O:=x.dg_lt (m:=26) ∅;have B:(x.tk 26).k=x.k:=t.k;have n:(x.tk 26).h=x.h:=t.h;have a1:=i1.a;have tb:=cw C.ok (m:=26) ∅;generalize x.tk 26=z at t i1 B n a1 tb;generalize x.dg 26=way at O tb;by_cases hA:way<3\/dp<=0\/z.a<=0
 .let⟨P,x',q,b⟩:=uI (N:=N) (sc:=sc) (dm:=dm) i1 () ();erw[<-⟨P,x',⟨q.wf,q.iv,q.h.trans n,by have:=q.ks;rw[n,B] at this;exact this,by have:=q.lo;lia,λz=>by have:=q.at80 ();lia,by have:=q.hi;lia⟩,⟨λ{fw d p S xx K} h w=>?_⟩⟩,cd (d:=d+(3*dm+2)) ⟨4,5,t32⟩,(tb.up (lv':=3*dm+2) ()).h (d:=d) h];have o:=zAc (o':=Ob.dct z.kv) h;have i:(Gd fw<|d+(3*dm+2)).call 24 [.ref p,scU sc] (set S p<|.dct z.kv) xx K:=(b.up (lv':=3*dm+2) ()).h (d:=d) o (by rw[zAa];exact w);erw[pv (.bl<|decide<|way<3)];by_cases c1:way<3
  .rw[xBd c1];exact bT<|bT i
  .rw[xCn c1];erw[bF,pv (.bl<|decide<|dp<=0)];by_cases c2:dp<=0
   .rw[xBd c2];exact bT<|bT i
   .rw[xCn c2];erw[bF,pd (qM o),pv (.bl<|decide<|z.a<=0)];rw[xBd ()];exact bT i
 .let⟨P,x',q,b⟩:=Aq () I F M E G IH i1 () H hd () (way:=way);erw[<-⟨P,x',⟨q.wf,q.iv,q.h.trans n,by have:=q.ks;rw[n,B] at this;exact this,by have:=q.lo;lia,λz=>(),.inr q.hi⟩,⟨λ{fw d p S xx K} h w=>?_⟩⟩,cd (d:=d+(3*dm+2)) ⟨4,5,t32⟩,(tb.up (lv':=3*dm+2) ()).h (d:=d) h];have o:=zAc (o':=Ob.dct z.kv) h;erw[pv (.bl<|decide<|way<3)];rw[xCn ()];erw[bF,pv (.bl<|decide<|dp<=0)];rw[xCn ()];erw[bF,pd (qM o),pv (.bl<|decide<|z.a<=0)];rw[xCn ()];erw[bF];exact b o (by rw[zAa];exact w)
theorem qc(k:∀y∈ws,N y)(b:N "n")(m:3<=ws.length/\ws.length<=6)(a:ws.Nodup):∀{n dm:Nat},dm<n->dm<=14->PH pp N ws dm
 |n+1,dm,h,i=>tu k b m a i λe o=>qc k b m a (n:=n) () ()
end
def ltrs:Str:="abcdefghijklmnopqrstuvwxyz"
def chs(w:Str):B0:=w.cps.toList.map λc=>.str ⟨#[c]⟩
def inL(c:U):A8:=match inU [] c (.str ltrs) with
 |some b=>b
 |none=>false
def zAs(w:Str):A8:=Nat.ble 1 w.length&&Nat.ble w.length 8&&(chs w).all inL
def zBk:A9:=["fn","call","let","set","do","if","add","sub","mul","less","same","make","match","raise","try","tell","ask"]
def zAf(w:Str):A8:=zAs w&&!zA1 (.str w) (zBk.map .str)
def zA4(is:B1):Str:=⟨(is.map (97+·)).toArray⟩
def ltU(i:Nat):U:=.str ⟨#[97+i]⟩
def zJ0:∀i<26,inL (ltU i)=true:=by decide +kernel
def ir:(zA4 is).length=is.length:=by
 show(is.map (97+·)).toArray.size=_;simp
def sk(k:1<=is.length)(e:is.length<=8)(h:∀i∈is,i<26):zAs (zA4 is)=true:=by
 unfold zAs;rw[ir,xDk k,xDk e];show(chs<|zA4 is).all inL=true;refine xCx.mpr λc a=>?_;unfold chs zA4 at a;let⟨j,b,rfl⟩:=xA2.mp a;let⟨i,hi,rfl⟩:=xA2.mp (show j∈is.map (97+·) by simpa using b);exact zJ0 i<|h i hi
def yp{a b:B1}{j:Nat}(h:a[j]?≠b[j]?):zA4 a≠zA4 b:=λe=>h (by
 have:a.map (97+·)=b.map (97+·):=by
  have:=congrArg (λw:Str=>w.cps.toList) e;simpa [zA4] using this
 have:=congrArg (·[j]?) this;simp only[xAw] at this;cases ha:a[j]? <;> cases hb:b[j]? <;> rw[ha,hb] at this <;> simp at this⊢
 lia)
def xp:zAf "n"=true:=by decide +kernel
def nK{i:Int}(h:0<=i/\i<26):pr ups .ix [.str ltrs,.int i] S=.ok (ltU i.toNat) S:=by
 let⟨j,rfl⟩:=Int.eq_ofNat_of_zero_le h.1;have a:j<26:=by lia
 have key:∀j<26,ltrs.cps.toList[j]?=some (97+j):=by decide +kernel
 show(match atI ltrs.cps.toList (j:Int) with|some c=>fits ltrs.length (.ok (.str ⟨#[c]⟩) S)|none=>.stuck)=_;rw[dh<|key j a];dsimp only;rw[zA2<|by show _<=2^24;decide +kernel];rfl
section
variable{up:A0<|Str×Str}{S T:So}{p q k:Nat}{o o1 o2 o':Ob}{v w:U}{r:B0}{a b C f:Str}{fs fs':A0<|Str×U}
def cW(h:a=b):pr up .eq [.str a,.str b] S=.ok (.bl true) S:=by
 show Res.ok (.bl<|decide<|a=b) S=_;rw[xBd h]
def cJ(h:a≠b):pr up .eq [.str a,.str b] S=.ok (.bl false) S:=by
 show Res.ok (.bl<|decide<|a=b) S=_;rw[xCn h]
def ff{xs:B0}{j:Nat}(h:xs[j]?=some v):pr up .ix [.tup xs,.int j] S=.ok v S:=by
 show opt (atI xs (j:Int)) S=_;rw[dh h];rfl
def gu:pr up .ix [.tup<|v::r,.int 0] S=.ok v S:=ff (j:=0) rfl
def pS:pr up .ix [.tup<|w::v::r,.int 1] S=.ok v S:=ff (j:=1) rfl
def atN(h:p≠q)(e:at? S q=some o2):at? (set S p o') q=some o2:=by
 rw[zHk h];exact e
def atK(m:at? S p=some o1)(i:at? S q=some o2)(h:o1≠o2):at? (set S p o') q=some o2:=atN (λe=>h<|by rw[e,i] at m;cases m;rfl) i
theorem zDj:∀{S T:So}{k:Nat},at? (S++T) (S.length+k)=at? T k
 |[],T,k=>⋯
 |_::S,T,k=>by
  rw[xAo,show S.length+1+k=(S.length+k)+1 by lia];exact zDj (S:=S)
theorem zDy:∀{S T:So}{k:Nat},set (S++T) (S.length+k) o=S++set T k o
 |[],T,k=>⋯
 |x::S,T,k=>by
  rw[xAo,show S.length+1+k=(S.length+k)+1 by lia];exact congrArg (x::·)<|zDy (S:=S)
def lU:pr up (.dct []) [] (S++T)=.ok (.ref<|S.length+T.length) (S++(T++[.dct []])):=by
 show Res.ok (.ref (S++T).length) (S++T++[.dct []])=_;rw[xAb,xAx]
def jw(k:Nat)(h:at? T k=some (.ins C fs))(e:putF f v fs=fs')(i:Nat.ble fs.length 900=true):pr up (.setf f) [.ref<|S.length+k,v] (S++T)=.ok .non (S++set T k (.ins C fs')):=by
 rw[sV (by rw[zDj];exact h) e i,zDy]
end
local macro_rules | `(tactic| walk_at "w")=>`(tactic| repeat first | refine pd (cW rfl) ?_ | refine pd (cJ (by first | assumption | decide)) ?_ | refine pd (iD (by assumption) rfl) ?_ | refine bT ?_ | refine bF ?_ | refine pd (eB (by assumption) rfl) ?_ | refine pd (eW (by assumption)) ?_ | refine pd (by rfl) ?_ | refine pd gu ?_)
section
variable{fw d n e:Nat}{S S1 S2 S':So}{x xc:B8}{K:B7}{u v P:U}{w:Str}{xs:B0}{i:Int}
def pvB:U->A8
 |.non=>true
 |.bl _=>true
 |.int _=>true
 |.str w=>Nat.ble w.length 1000
 |.tup xs=>Nat.ble xs.length 1000
 |.lst _=>true
 |_=>false
def zGa:U->A8
 |.int _=>true
 |_=>false
def fh(a:pvB v=true)(b:K (.bl<|zGa v) S):(Gd fw<|d+1).call 0 [v] S x K:=by
 erw[cd ⟨1,1,t0⟩];cases v <;> try (cases a;done)
 all_goals
  walk_at"w"
  exact b
theorem dk(k:pvB v=true)(a:K v S):(Gd fw<|d+2).call 7 [v] S x K:=by
 erw[cd ⟨1,1,t7⟩];cases v with
 |tup xs=>
  walk_at"w"
  have h:=xCo k;erw[pd (v:=.tup xs) (S':=S) (zA2<|by show 0+xs.length<=2^24;lia),<-a]
 |str w=>
  have h:=xCo k;walk_at"w"
  refine pd (v:=.str w) (S':=S) ?_ a;show(match decide (([w].map λy:Str=>y.length).sum+1*("":Str).length<=16777216) with|true=>Res.ok (.str<|Builtin.Str.glued "" [w]) S|false=>.stuck)=_;rw[xBd<|by rw[show("":Str).length=0 by decide +kernel];show w.length+0+0<=_;lia];rfl
 |non=>walk_at"w";erw[fh rfl];walk_at"w";exact a
 |bl b=>walk_at"w";erw[fh rfl];walk_at"w";exact a
 |int i=>walk_at"w";erw[fh rfl];walk_at"w";exact a
 |lst xs=>walk_at"w";erw[fh rfl];walk_at"w";exact a
 |_=>cases k
def uh{c:Nat}:inU S (.str ⟨#[c]⟩) (.str ltrs)=some (inL<|.str ⟨#[c]⟩):=rfl
set_option tactic.hygienic true
theorem vj:∀{cs:B1}{ys:B0},K (.lst<|ys++cs.map λc=>.bl<|inL<|.str ⟨#[c]⟩) S->lcK (Gd fw d) (lcB [1] true [none,none] none (cB<|tB<|J0 .inn J3<|J1 ltrs) (Gd fw d) xc) (cs.map λc=>.str ⟨#[c]⟩) ys S K
 |[],ys,a=>by
  rw[List.map_nil,xB0] at a;exact a
 |c::cs,ys,a=>by
  refine pd (v:=.bl<|inL<|.str ⟨#[c]⟩) (S':=S) ?_ ?_
  .show obB (inU S (.str ⟨#[c]⟩)<|.str ltrs) id S=_;rw[uh];rfl
  .erw[vj (cs:=cs) (ys:=ys++[.bl<|inL<|.str ⟨#[c]⟩])];rw[xAx];exact a
set_option tactic.hygienic false
theorem je{J:Type}{f:J->A8}:∀{cs:A0 J},blL (cs.map λc=>U.bl<|f c)=some (cs.map f)
 |[]=>rfl
 |_::cs=>by show(blL _).map _=_;rw[je];rfl
def zB7:U->A8
 |.str w=>zAs w
 |_=>false
def ug(k:w.length<=1000)(a:K (.bl<|zAs w) S):(Gd fw<|d+1).call 3 [.str w] S x K:=by
 unfold zAs at a;erw[cd ⟨1,1,t3⟩];walk_at"w"
 erw[pd (v:=.int w.length) (S':=S) (zA2<|by show _<=2^24;lia),pd (v:=.bl<|decide<|(1:Int)<=w.length) (S':=S) rfl];by_cases h1:1<=w.length
 .rw[xBd ()];erw[bT,pd (v:=.bl<|decide<|(w.length:Int)<=8) (S':=S) rfl];by_cases h2:w.length<=8
  .rw[xBd ()];erw[bF,pv (.tup<|w.cps.toList.map λc=>.str ⟨#[c]⟩)];have b:(w.cps.toList.map λc=>U.str ⟨#[c]⟩).length<=sizeLine:=by
    show _<=2^24;have:(w.cps.toList.map λc=>U.str ⟨#[c]⟩).length=w.length:=by rw[xAa];rfl
    lia
   erw[<-bI (λ_=>?_) λz=>absurd (xDk b) (by rw[z];decide),vj (ys:=[]),<-pd (v:=.bl<|(w.cps.toList.map λc=>inL<|.str ⟨#[c]⟩).all id) (S':=S) ?_ ?_]
   .show(match blL ([]++w.cps.toList.map λc=>U.bl<|inL<|.str ⟨#[c]⟩) with|some bs=>Res.ok (.bl<|bs.all id) S|none=>.stuck)=_;rw[xC6,je]
   .rw[xDk h1,xDk h2] at a;have:(w.cps.toList.map λc=>inL<|.str ⟨#[c]⟩).all id=(chs w).all inL:=by
     unfold chs;rw[List.all_map,List.all_map];rfl
    rw[this];exact a
  .rw[xCn ()];erw[bT];rw[Bool.eq_false_iff.mpr λz=>h2<|xCo z,Bool.and_false,Bool.false_and] at a;exact a
 .rw[xCn ()];erw[bF,bT];rw[Bool.eq_false_iff.mpr λz=>h1<|xCo z,Bool.false_and,Bool.false_and] at a;exact a
theorem isw(k:pvB v=true)(a:K (.bl<|zB7 v) S):(Gd fw<|d+1).call 3 [v] S x K:=by
 cases v with
 |str w=>exact ug (xCo k) a
 |non=>refine cd ⟨1,1,t3⟩ ?_;walk_at"w";exact a
 |bl b=>refine cd ⟨1,1,t3⟩ ?_;walk_at"w";exact a
 |int i=>refine cd ⟨1,1,t3⟩ ?_;walk_at"w";exact a
 |tup xs=>refine cd ⟨1,1,t3⟩ ?_;walk_at"w";exact a
 |lst xs=>refine cd ⟨1,1,t3⟩ ?_;walk_at"w";exact a
 |_=>cases k
def zA5:U->A8
 |.str w=>zAf w
 |_=>false
def gV(h:zB7 v=true):∃w,v=.str w/\zAs w=true:=by
 cases v <;> try (cases h;done)
 exact⟨_,rfl,h⟩
def hV(h:zA5 v=true):∃w,v=.str w/\zAf w=true:=by
 cases v <;> try (cases h;done)
 exact⟨_,rfl,h⟩
def qG:zA5 v=(zB7 v&&match v with|.str w=>!zA1 (.str w) (zBk.map .str)|_=>false):=by
 cases v <;> rfl
theorem isn(b:pvB v=true)(a:K (.bl<|zA5 v) S):(Gd fw<|d+2).call 4 [v] S x K:=by
 rw[qG] at a;erw[cd ⟨1,1,t4⟩,isw b];cases hw:zB7 v with
 |false=>
  rw[hw] at a;exact bF a
 |true=>
  let⟨w,rfl,_⟩:=gV hw;rw[hw] at a;erw[bT,<-pd (v:=.bl (!zA1 (.str w) (zBk.map .str))) (S':=S) rfl a]
def opV:U->A8
 |.str w=>zAs w&&zA1 (.str w) [.str "add",.str "sub",.str "mul",.str "less",.str "same"]
 |_=>false
theorem fS:∀{th:A9},(th.map U.str).all zAr=true
 |[]=>rfl
 |_::th=>by rw[xBs,xCj,fS];rfl
def zDt(s:Str)(v:U)(th:A9):A8:=
 if s="number" then(match v with|.int i=>decide (-(10^12)<i/\i<10^12)|_=>false)
 else if s="op" then opV v
 else if s="word" then zB7 v
 else if s="used" then zA5 v&&(match v with|.str w=>zA1 (.str w) (th.map .str)|_=>false)
 else zA5 v
set_option tactic.hygienic true
def zAu(b:pvB v=true)(a:K (.bl<|zDt s v th) S):(Gd fw<|d+3).call 14 [.str s,v,.tup<|th.map .str] S x K:=by
 unfold zDt at a;erw[cd ⟨3,3,t14⟩];by_cases h1:s="number"
 .subst h1;rw[xCg rfl] at a;walk_at"w"
  erw[cd ⟨1,1,t6⟩,fh b];cases v with
  |int i=>
   erw[bT,pv (.int<|if i<0 then -i else i),pv (.int<|10^12),<-pd (v:=.bl<|decide (-(10^12)<i/\i<10^12)) (S':=S) ?_ a];show Res.ok (.bl<|decide<|(if i<0 then -i else i)<10^12) S=_;congr 2;erw[decide_eq_decide.mpr];split <;> lia
  |_=>exact bF a
 rw[xCf h1] at a;erw[pd (cJ h1),bF];by_cases h2:s="op"
 .subst h2;rw[xCg rfl] at a;erw[pd (cW rfl),bT,isw b];cases hw:zB7 v with
  |false=>
   erw[bF];have:opV v=false:=by
    cases v <;> try rfl
    next w=>show(zAs w&&_)=false;rw[show zAs w=false from hw];rfl
   rw[this] at a;exact a
  |true=>
   let⟨w,rfl,k⟩:=gV hw;erw[bT,pd (v:=.bl<|zA1 (.str w) [.str "add",.str "sub",.str "mul",.str "less",.str "same"]) (S':=S) rfl];rw[show opV (.str w)=(zAs w&&zA1 (.str w) [.str "add",.str "sub",.str "mul",.str "less",.str "same"]) from rfl,k] at a;exact a
 rw[xCf h2] at a;erw[pd (cJ h2),bF];by_cases h3:s="word"
 .subst h3;rw[xCg rfl] at a;erw[pd (cW rfl),bT,<-isw b a]
 rw[xCf h3] at a;erw[pd (cJ h3),bF];by_cases h4:s="used"
 .subst h4;rw[xCg rfl] at a;erw[pd (cW rfl),bT,isn b];cases hw:zA5 v with
  |false=>
   rw[hw] at a;exact bF a
  |true=>
   let⟨w,rfl,k⟩:=hV hw;rw[hw] at a;erw[bT,<-pd (v:=.bl<|zA1 (.str w)<|th.map .str) (S':=S) ?_ a];show obB (if(zAr (.str w)&&(th.map U.str).all zAr)=true then some (zA1 (.str w)<|th.map U.str) else none) id S=_;rw[fS];rfl
 rw[xCf h4] at a;erw[pd (cJ h4),bF,<-isn b a]
set_option tactic.hygienic false
end
section
variable{fw d n e:Nat}{S S1 S2 S':So}{x:B8}{K:B7}{u v P:U}{w:Str}{xs:B0}{i pl:Int}{h pq kq:Nat}{ps pls:B2}{th nn:A9}
def plK(ps:B2):A0<|Key×U:=ps.map λi=>(Sum.inl i,.bl true)
structure ChS(h pq:Nat)(ps:B2)(S:So):Prop where
 ob:at? S h=some (.ins "Checker" [("places",.ref pq)])
 di:at? S pq=some (.dct (plK ps))
 le:ps.length<=300
structure Pc(pq:Nat)(S S':So):Prop where
 len:S.length<=S'.length
 ky:∀{q o},q≠pq->at? S q=some o->at? S' q=some o
def Pc.trans(h1:Pc pq S S1)(k:Pc pq S1 S2):Pc pq S S2:=⟨xCk h1.len k.len,λa b=>k.ky a<|h1.ky a b⟩
def Pc.refl:Pc pq S S:=⟨xAg _,λ_ b=>b⟩
def Pc.app:Pc pq S<|S++T:=⟨⋯,λ_ b=>zBy b⟩
theorem mZ:∀{ps:B2},pl∉ps->zBz (.inl pl) (plK ps)=none
 |[],_=>rfl
 |a::ps,h=>by
  show(if(Sum.inl a:Key)=.inl pl then _ else zBz (.inl pl) (plK ps))=_;rw[xCf (by intro z;injection z with z;exact h (by rw[z];exact xAr ..)),mZ λz=>h<|xAs _ z]
theorem se:∀{ps:B2},pl∉ps->((plK ps).any λkv=>decide<|kv.1=.inl pl)=false
 |[],_=>rfl
 |a::ps,h=>by
  show(decide ((Sum.inl a:Key)=.inl pl)||(plK ps).any _)=_;rw[xCn (by intro z;injection z with z;exact h (by rw[z];exact xAr ..)),se λz=>h<|xAs _ z];rfl
def sH(a:pl∉ps):putK (.inl pl) (.bl true) (plK ps)=plK (ps++[pl]):=by
 unfold Fx.putK;rw[se a];simp[plK]
def NP:Xc:=⟨"NoPart",[]⟩
def plA(pl:Int)(ps:B2):A3<|B2:=if 0<=pl/\pl<=599/\pl∉ps/\ps.length<300 then some (ps++[pl]) else none
def atD{p q:Nat}{C:Str}{fs:A0<|Str×U}{kv:A0<|Key×U}(a:at? S p=some (.ins C fs))(b:at? S q=some (.dct kv)):p≠q:=λe=>by rw[e,b] at a;cases a
theorem jR:∀{ps:B2},pl∈ps->(zBz (.inl pl)<|plK ps).isSome=true
 |a::ps,h=>by
  show((if(Sum.inl a:Key)=.inl pl then _ else zBz (.inl pl) (plK ps)):A3 U).isSome=_;by_cases e:a=pl
  .rw[xCg<|by rw[e]];rfl
  .rw[xCf<|by intro z;injection z with z;exact e z];exact jR<|(xAv.mp h).resolve_left λz=>e z.symm
def zT(C:ChS h pq ps S)(q:∀m,plA pl ps=some m->∀S',ChS h pq m S'->Pc pq S S'->K .non S')(p:plA pl ps=none->∀S',Pc pq S S'->x NP S'):(Gd fw<|d+3).call 10 [.ref h,.int pl] S x K:=by
 erw[cd ⟨2,2,t10⟩,cd ⟨1,1,t5⟩,fh rfl,bT,pd (v:=.bl<|decide<|(0:Int)<=pl) (S':=S) rfl];by_cases g1:0<=pl
 case neg=>
  rw[xCn g1];erw[bF,bT,bT,<-p (xCf λz=>g1 z.1) S Pc.refl]
 rw[xBd g1];erw[bT,pd (v:=.bl<|decide<|pl<=(599:Int)) (S':=S) rfl];by_cases g2:pl<=599
 case neg=>
  rw[xCn g2];erw[bT,bT,<-p (xCf λz=>g2 z.2.1) S Pc.refl]
 rw[xBd g2];erw[bF];have o:=C.ob;have k:=C.di;erw[pd (iD o rfl),<-pd (v:=.bl (zBz (.inl pl)<|plK ps).isSome) (S':=S) ?_ ?_]
 .show obB (inU S (.int pl)<|.ref pq) id S=_;unfold inU;dsimp only;rw[k];rfl
 by_cases g3:pl∈ps
 case pos=>
  rw[jR g3];erw[bT,<-p (xCf λz=>z.2.2.1 g3) S Pc.refl]
 rw[mZ g3];erw[bF,pd (iD o rfl)];have hL:(plK ps).length=ps.length:=by simp[plK]
 have B:=C.le;refine pd (v:=.non) (S':=set S pq<|.dct<|plK<|ps++[pl]) ?_ ?_
 .show zCi pq (.int pl) (.bl true) S=_;unfold zCi;rw[k];show fits _ _=_;rw[zA2 (by show _<=2^24;lia),sH g3]
 have C':ps.length<300->ChS h pq (ps++[pl]) (set S pq<|.dct<|plK<|ps++[pl]):=λg=>⟨atK k o (λz=>nomatch z),zAc k,by rw[xAb];show ps.length+1<=300;lia⟩
 have C1:at? (set S pq<|.dct<|plK<|ps++[pl]) pq=some (.dct<|plK<|ps++[pl]):=zAc k;have P':Pc pq S<|set S pq<|.dct<|plK<|ps++[pl]:=⟨by rw[zA8];exact xAg _,λa b=>atN (Ne.symm a) b⟩
 have t:=P'.ky (atD o k) o;erw[pd (iD t rfl),pd (sW C1),pd (v:=.bl<|decide<|(300:Int)<(plK<|ps++[pl]).length) (S':=set S pq<|.dct<|plK<|ps++[pl]) rfl];by_cases g4:ps.length<300
 .rw[xCn<|by simp[plK];lia];erw[bF,<-q _ (xCg ⟨g1,g2,g3,g4⟩) _ (C' g4) P']
 .rw[xBd<|by simp[plK];lia];erw[bT,<-p (xCf λz=>g4 z.2.2.2) _ P']
def yf(b:pvB v=true)(k:zGa v=false)(a:x NP S):(Gd fw<|d+3).call 10 [.ref h,v] S x K:=by
 erw[cd ⟨2,2,t10⟩,cd ⟨1,1,t5⟩,fh b];rw[k];erw[bF,bT,bT];exact a
structure TA(vs:B0)(nn:A9):Prop where
 h:∀{fw d:Nat}{S:So}{kq:Nat}{x:B8}{K:B7},at? S kq=some (.lst vs)->K (.tup (nn.map .str)) S->(Gd fw (d+1)).call 2 [.ref kq,.int vs.length] S x K
def cv{up:A0<|Str×Str}{j:Nat}(a:at? S kq=some (.lst xs))(b:xs[j]?=some v):pr up .ix [.ref kq,.int j] S=.ok v S:=by
 show ixU (.ref kq) (.int j) S=_;unfold ixU;dsimp only;rw[a];show opt (atI xs (j:Int)) S=_;rw[dh b];rfl
def lD{k:Str}(o:zAt k dP=none)(m:(dE.any λy=>decide<|y=k)=true):TA (.str k::r) []:=⟨λ{fw d S kq x K} a b=>by
 erw[cd ⟨2,5,t2⟩,pd (cv (j:=0) a rfl),<-pd (v:=.tup [.non,.non]) (S':=S) ?_ ?_]
 .delta pr;dsimp only[qO];rw[o,m]
 walk_at"w"
 exact b⟩
def uS{p:U}:TA [.str "fn",p] []:=⟨λ{fw d S kq x K} a b=>by
 erw[cd ⟨2,5,t2⟩,pd (cv (j:=0) a rfl)];walk_at"w"
 exact b⟩
def o6{p:U}:TA [.str "fn",p,.tup<|ns.map .str] ns:=⟨λ{fw d S kq x K} a b=>by
 erw[cd ⟨2,5,t2⟩,pd (cv (j:=0) a rfl)];walk_at"w"
 erw[pd (cv (j:=2) a rfl)];walk_at"w"
 exact b⟩
def oZ{p:U}:TA [.str "let",p] []:=⟨λ{fw d S kq x K} a b=>by
 erw[cd ⟨2,5,t2⟩,pd (cv (j:=0) a rfl)];walk_at"w"
 exact b⟩
def lG{p q:U}:TA [.str "let",p,q] []:=⟨λ{fw d S kq x K} a b=>by
 erw[cd ⟨2,5,t2⟩,pd (cv (j:=0) a rfl)];walk_at"w"
 exact b⟩
def lE{p q:U}:TA [.str "let",p,.str y,q] [y]:=⟨λ{fw d S kq x K} a b=>by
 erw[cd ⟨2,5,t2⟩,pd (cv (j:=0) a rfl)];walk_at"w"
 erw[pd (cv (j:=2) a rfl)];walk_at"w"
 exact b⟩
def oY{p:U}:TA [.str "try",p] []:=⟨λ{fw d S kq x K} a b=>by
 erw[cd ⟨2,5,t2⟩,pd (cv (j:=0) a rfl)];walk_at"w"
 exact b⟩
def lC{p q:U}:TA [.str "try",p,q] []:=⟨λ{fw d S kq x K} a b=>by
 erw[cd ⟨2,5,t2⟩,pd (cv (j:=0) a rfl)];walk_at"w"
 exact b⟩
def lB{p q r:U}:TA [.str "try",p,q,r] []:=⟨λ{fw d S kq x K} a b=>by
 erw[cd ⟨2,5,t2⟩,pd (cv (j:=0) a rfl)];walk_at"w"
 exact b⟩
def lu{p q r:U}:TA [.str "try",p,q,r,.str y] [y]:=⟨λ{fw d S kq x K} a b=>by
 erw[cd ⟨2,5,t2⟩,pd (cv (j:=0) a rfl)];walk_at"w"
 erw[pd (cv (j:=4) a rfl)];walk_at"w"
 exact b⟩
def uR{p:U}:TA [.str "match",p] []:=⟨λ{fw d S kq x K} a b=>by
 erw[cd ⟨2,5,t2⟩,pd (cv (j:=0) a rfl)];walk_at"w"
 exact b⟩
def uQ{p q:U}:TA [.str "match",p,q] []:=⟨λ{fw d S kq x K} a b=>by
 erw[cd ⟨2,5,t2⟩,pd (cv (j:=0) a rfl)];walk_at"w"
 exact b⟩
def uP{p q r:U}:TA [.str "match",p,q,r] []:=⟨λ{fw d S kq x K} a b=>by
 erw[cd ⟨2,5,t2⟩,pd (cv (j:=0) a rfl)];walk_at"w"
 exact b⟩
def uO{p q r:U}:TA [.str "match",p,q,r,.tup<|ns.map .str] ns:=⟨λ{fw d S kq x K} a b=>by
 erw[cd ⟨2,5,t2⟩,pd (cv (j:=0) a rfl)];walk_at"w"
 erw[pd (cv (j:=4) a rfl)];walk_at"w"
 exact b⟩
def uN{p q r s u:U}:TA [.str "match",p,q,r,s,u] []:=⟨λ{fw d S kq x K} a b=>by
 erw[cd ⟨2,5,t2⟩,pd (cv (j:=0) a rfl)];walk_at"w"
 exact b⟩
def zF9:U->A8
 |.tup xs=>Nat.ble xs.length 4
 |_=>false
theorem pI(k:pvB v=true)(h:zF9 v=false)(a:x NP S):(Gd fw<|d+3).call 12 [v] S x K:=by
 erw[cd ⟨1,2,t12⟩,dk k];cases v with
 |tup xs=>
  erw[pv (.bl true),bF,pv (.int xs.length),pd (v:=.bl<|decide<|(4:Int)<xs.length) (S':=S) rfl];rw[xBd (by have:¬ xs.length<=4:=λz=>(by have h:Nat.ble xs.length 4=false:=h;rw[xDk z] at h;cases h);lia)];exact bT a
 |non=>walk_at"w";exact a
 |bl b=>walk_at"w";exact a
 |int i=>walk_at"w";exact a
 |str w=>walk_at"w";exact a
 |lst xs=>walk_at"w";exact a
 |_=>cases k
def zB9(h:xs.length<=4)(a:K (.tup xs) S):(Gd fw<|d+3).call 12 [.tup xs] S x K:=by
 erw[cd ⟨1,2,t12⟩,dk (xDk<|show xs.length<=1000 by lia),pv (.bl true),bF,pv (.int xs.length),pd (v:=.bl<|decide<|(4:Int)<xs.length) (S':=S) rfl];rw[xCn ()];erw[bF];exact a
theorem vg:∀{xs ys:B0},(∀y∈xs,pvB y=true)->K (.lst<|ys++xs) S->lcK (Gd fw<|d+2) (lcB [1] true [none,none] none (Jf 7 J3) (Gd fw<|d+2) x) xs ys S K
 |[],ys,_,a=>by
  rw[xB0] at a;exact a
 |y::xs,ys,h,a=>by
  erw[dk (h y<|xAr ..),vg (xs:=xs) (λz b=>h z<|xAs _ b)];rw[xAx];exact a
theorem vi:∀{xs ys:B0},(∀y∈xs,pvB y=true)->K (.lst<|ys++xs.map λv=>.bl<|zA5 v) S->lcK (Gd fw<|d+2) (lcB [1] true [none,none] none (Jf 4 J3) (Gd fw<|d+2) x) xs ys S K
 |[],ys,_,a=>by
  rw[List.map_nil,xB0] at a;exact a
 |y::xs,ys,h,a=>by
  erw[isn (h y<|xAr ..),vi (xs:=xs) (λz b=>h z<|xAs _ b)];rw[xAx];exact a
theorem fA:∀{xs:A9},zC5 (xs.map .str)=some xs
 |[]=>rfl
 |x::xs=>by
  show(zC5<|xs.map .str).map _=_;rw[fA];rfl
theorem hU:∀{xs:B0},xs.all zA5=true->∃ns:A9,xs=ns.map .str/\∀y∈ns,zAf y=true
 |[],_=>⟨[],rfl,λ_ z=>nomatch z⟩
 |v::xs,h=>by
  rw[xCj,xCh] at h;let⟨w,rfl,b⟩:=hV h.1;let⟨ns,rfl,hn⟩:=hU h.2;exact⟨w::ns,rfl,λy a=>(xAv.mp a).elim (λe=>by rw[e];exact b)<|hn y⟩
def zBs:U->A8
 | .tup xs=>Nat.ble xs.length 4 && (xs.all zA5 && match zC5 xs with
  |some a=>Nat.ble a.length (dedup a).length
  |none=>false)
 |_=>false
def zEb:U->A8
 |.tup xs=>xs.all pvB
 |_=>true
def eJ{n:Nat}(h:n<=1000):Nat.ble n sizeLine=true:=xDk (by show n<=2^24;lia)
set_option tactic.hygienic true
theorem xl(p:pvB v=true)(q:zEb v=true)(t:zBs v=true->K v S)(m:zBs v=false->x NP S):(Gd fw<|d+4).call 13 [v] S x K:=by
 erw[cd ⟨1,2,t13⟩];cases hrow:zF9 v with
 |false=>
  erw[pI (d:=d) p hrow,m];cases v <;> try rfl
  next xs=>show(Nat.ble xs.length 4&&_)=false;rw[show Nat.ble xs.length 4=false from hrow];rfl
 |true=>
  cases v <;> try (cases hrow;done)
  next xs=>
  have k:=xCo<|show Nat.ble xs.length 4=true from hrow;have o:=xCx.mp<|show xs.all pvB=true from q;erw[zB9 (d:=d) k,pv (.tup xs),<-bI (c:=Nat.ble xs.length sizeLine) (λ_=>?_) λz=>absurd (eJ (n:=xs.length) ()) (by rw[z];decide),vg (d:=d+1) o];rw[xC6];erw[pv (.tup xs),pv (.tup xs),<-bI (c:=Nat.ble xs.length sizeLine) (λ_=>?_) λz=>absurd (eJ (n:=xs.length) ()) (by rw[z];decide),vi (d:=d+1) o];rw[xC6];refine pd (v:=.bl<|xs.all zA5) (S':=S) ?_ ?_
  .show(match blL (xs.map λv=>U.bl<|zA5 v) with|some bs=>Res.ok (.bl<|bs.all id) S|none=>.stuck)=_;rw[je];dsimp only;rw[List.all_map];rfl
  have a:zBs (.tup xs)=(xs.all zA5&&match zC5 xs with|some b=>Nat.ble b.length (dedup b).length|none=>false):=by
   show(Nat.ble xs.length 4&&_)=_;rw[show Nat.ble xs.length 4=true from hrow];rfl
  cases ha:xs.all zA5 with
  |false=>
   erw[bT,bT];exact m (by rw[a,ha];rfl)
  |true=>
   let⟨ns,rfl,B⟩:=hU ha;rw[ha,fA] at a;have a:zBs (.tup<|ns.map .str)=Nat.ble ns.length (dedup ns).length:=a;have k:ns.length<=4:=by rw[xAa] at k;exact k
   erw[bF,<-pd (v:=.int (dedup ns).length) (S':=S) ?_ ?_]
   .show(match zC5 (ns.map U.str) with|some b=>(match Nat.ble b.length 4 with|true=>Res.ok (.int (dedup b).length) S|false=>.stuck)|none=>.stuck)=_;rw[fA];dsimp only;rw[xDk k]
   erw[pd (v:=.int ns.length) (S':=S) (by show Res.ok (.int ((ns.map U.str).length:Nat)) S=_;rw[xAa]),pd (v:=.bl<|decide<|((dedup ns).length:Int)<ns.length) (S':=S) rfl];by_cases g:ns.length<=(dedup ns).length
   .rw[xCn ()];erw[bF];exact t (by rw[a];exact xDk g)
   .rw[xBd ()];erw[bT];exact m (by rw[a];exact Bool.eq_false_iff.mpr λz=>g<|xCo z)
set_option tactic.hygienic false
end
structure zCm(s:Str)(v:U)(f:B2->A3 (B2))(th:A9)(wi:Int)(D:Nat):Prop where
 h:∀{fw d h pq:Nat}{ps:B2}{S:So}{x:B8}{K:B7},D<=d->ChS h pq ps S->(∀ps',f ps=some ps'->∀S',ChS h pq ps' S'->Pc pq S S'->K v S')->(f ps=none->∀S',Pc pq S S'->x NP S')->(Gd fw d).call 11 [.ref h,.str s,v,.tup (th.map .str),.int wi] S x K
structure Chk(v:U)(f:B2->A3 (B2))(th:A9)(wi:Int)(D:Nat):Prop where
 h:∀{fw d h pq:Nat}{ps:B2}{S:So}{x:B8}{K:B7},D<=d->ChS h pq ps S->(∀ps',f ps=some ps'->∀S',ChS h pq ps' S'->Pc pq S S'->K v S')->(f ps=none->∀S',Pc pq S S'->x NP S')->(Gd fw d).call 9 [.ref h,v,.tup (th.map .str),.int wi] S x K
def noF:B2->A3 (B2):=λ_=>none
inductive Its(th:List Str)(wi:Int)(D:Nat):List U->List (Str×U)->(List Int->Option (List Int))->Prop
 |nil {vs:List U}:Its th wi D vs [] some
 |cons {vs:List U} {s:Str} {v:U} {nn:List Str} {r:List (Str×U)} {f g:List Int->Option (List Int)} (t:TA vs nn) (c:zCm s v f (th++nn) wi D) (hn:nn.length<=10) (i:Its th wi D (vs++[v]) r g):Its th wi D vs ((s,v)::r) λps=>(f ps).bind g
 |bad {vs:List U} {s:Str} {v:U} {nn:List Str} {r:List (Str×U)} (t:TA vs nn) (c:zCm s v noF (th++nn) wi D) (hn:nn.length<=10):Its th wi D vs ((s,v)::r) noF
theorem xK{B:Nat}{E:Ee Prop}{kk:Sg->So->Prop}{a4 a6:A3 U}(hD:D<=d+1)(hth:th.length<=1000):∀{vs:B0}{items:A0<|Str×U}{f:B2->A3 (B2)},Its th wi D vs items f->∀{S:So}{ps:B2}{a b c:A3 U},ChS h pq ps S->B≠pq->at? S B=some (.lst vs)->vs.length+items.length<=100 ->
  (∀k,f ps=some k->∀S' a b c,ChS h pq k S'->S.length<=S'.length->(∀{q o},q≠pq->q≠B->at? S q=some o->at? S' q=some o)->at? S' B=some (.lst (vs++items.map (·.2)))->kk [some<|.ref h,a1,some<|.tup<|th.map .str,some<|.int wi,a4,some<|.ref B,a6,a,b,c] S') ->
  (f ps=none->∀O' S',S.length<=S'.length->(∀{q o},q≠pq->q≠B->at? S q=some o->at? S' q=some o)->E.x NP O' S') ->
  zB3 (items.map λp=>U.tup [.str p.1,p.2]) (λw σ1 S2 nx=>tgt [7,8] false (Gd fw<|d+1) w σ1 λσ2=>bd9 (Gd fw<|d+1) σ2 S2<|lpE E nx) [some<|.ref h,a1,some<|.tup<|th.map .str,some<|.int wi,a4,some<|.ref B,a6,a,b,c] S kk:=by
 intro vs items f hI;induction hI with
 |nil=>
  intro S ps a b c C N e W n M;erw[n ps rfl S a b c C (xAg _) (λ_ _ z=>z)];rw[List.map_nil,xB0];exact e
 |@cons vs s v P r f g t Z R i ih=>
  intro S ps a b c C N e W n M;have X:=C.ob;rw[xBs,zB3];erw[pd (lR e),t.h e,<-pd (v:=.tup<|(th++P).map .str) (S':=S) ?_ ?_]
  .show fits _ _=_;rw[zA2 (by show _<=2^24;rw[xAa,xAa];lia),xAi]
  erw[pd (eW e),pd (eB X rfl),<-Z.h hD C (λH G S1 C1 p1=>?_) λG S1 p1=>M (by show(f ps).bind g=none;rw[G];rfl) _ S1 p1.len λm _ z=>p1.ky m z];have F:=p1.ky N e;simp only[xAo] at W;erw[pd (kE F<|by show _<=2^24;lia)];have C2:ChS h pq H<|set S1 B<|.lst<|vs++[v]:=⟨atK F C1.ob (λz=>nomatch z),atN N C1.di,C1.le⟩
  refine ih C2 N (zAc F) (by simp;lia) (λk Y S' a b c C' K Q O=>?_) λY O' S' K Q=>?_
  .erw[n k (by show(f ps).bind g=_;rw[G];exact Y) S' a b c C' (by rw[zA8] at K;exact xCk p1.len K) (λm I z=>Q m I<|atN (Ne.symm I)<|p1.ky m z)];rw[xAx] at O;exact O
  .exact M (by show(f ps).bind g=_;rw[G];exact Y) O' S' (by rw[zA8] at K;exact xCk p1.len K) λm I z=>Q m I<|atN (Ne.symm I)<|p1.ky m z
 |@bad vs s v P r t Z R=>
  intro S ps a b c C N e W n M;have X:=C.ob;rw[xBs,zB3];erw[pd (lR e),t.h e,<-pd (v:=.tup<|(th++P).map .str) (S':=S) ?_ ?_]
  .show fits _ _=_;rw[zA2 (by show _<=2^24;rw[xAa,xAa];lia),xAi]
  erw[pd (eW e),pd (eB X rfl),<-Z.h hD C (λH G=>nomatch G) λG S1 p1=>M rfl _ S1 p1.len λm _ z=>p1.ky m z]
def zHe{a b:U}:pr ups (.sl false true false) [.tup<|a::b::r,.int 2] []=.ok (.tup r) []:=by
 show slice false (.tup<|a::b::r) (some ((2:Nat):Int)) none []=_;unfold slice;dsimp only;rw[HT.sIx_nat,show min 2 (a::b::r).length=2 by simp,xCn ()];dsimp only;congr 2;unfold zCt;rw[HT.sIx_nat,show min 2 (a::b::r).length=2 by simp,HT.sIx_none];simp
def wu{a b:U}:pr ups (.sl false true false) [.tup<|a::b::r,.int 2] S=.ok (.tup r) S:=by
 have e:∀S,pr ups (.sl false true false) [.tup<|a::b::r,.int 2] S=slice false (.tup<|a::b::r) (some 2) none S:=λ_=>rfl;have:=zHe (a:=a) (b:=b) (r:=r);rw[e] at this⊢;unfold slice at this⊢;dsimp only at this⊢;split at this
 .cases this
 .injection this with this _;rw[this]
theorem lm:∀{a:A0<|Str×U},zCz (a.map λp=>.str p.1) (a.map (·.2))=a.map λp=>.tup [.str p.1,p.2]
 |[]=>rfl
 |p::a=>by
  show U.tup [.str p.1,p.2]::zCz _ _=_;rw[lm];rfl
def ndF(wi pl:Int)(g:B2->A3 (B2))(ps:B2):A3<|B2:=(plA pl ps).bind λq=>if wi<=20 then g q else none
theorem dG{P:U}{k:Str}{pl wi':Int}{g:B2->A3 (B2)}{b:A8}(E:P=.tup (.str k::.int pl::items.map (·.2)))(hf:zAt k cm=some (.kt<|items.map λp=>.str p.1))(hw:(!zA1 (.str k) [.str "number",.str "name"])=b)(t:wi'=if b then wi+1 else wi)(Q:k.length<=1000)(hil:items.length<=10)(O:th.length<=1000)(hD:4<=D)(hI:wi'<=20->Its th wi' D [.str k,.int pl] items g):Chk P (ndF wi' pl g) th wi<|D+1:=by
 refine⟨?_⟩;intro fw d h pq ps S x K hd C hk N;obtain⟨d,rfl⟩:∃d',d=d'+4:=⟨d-4,()⟩
 erw[cd ⟨4,10,t9⟩];rw[E];have m:(items.map (·.2)).length=items.length:=xAa ..;erw[dk (xDk<|by simp only[xAo,m];lia),pv (.bl true),bF,pd (v:=.int (items.length+2:Nat)) (S':=S) (by show Res.ok (.int ((items.map (·.2)).length+1+1:Nat)) S=_;rw[m]),pd (v:=.bl false) (S':=S) (by show Res.ok (.bl<|decide<|((items.length+2:Nat):Int)<2) S=_;rw[xCn ()]),bF,pd gu,dk (xDk Q),pd pS,dk rfl,pd (v:=.ref S.length) (S':=S++[.lst [.str k,.int pl]]) (by rfl)];have n:at? (S++[Ob.lst [.str k,.int pl]]) S.length=some (.lst [.str k,.int pl]):=zBm;have C1:ChS h pq ps<|S++[.lst [.str k,.int pl]]:=⟨zBy C.ob,zBy C.di,C.le⟩
 have Z:S.length≠pq:=by have:=zD5 C.di;lia
 have e:S.length<=(S++[Ob.lst [.str k,.int pl]]).length:=⋯
 have ky1:∀{q o},at? S q=some o->at? (S++[Ob.lst [.str k,.int pl]]) q=some o:=λz=>zBy z;generalize S++[Ob.lst [.str k,.int pl]]=T at n C1 e ky1⊢;erw[pd (cv (j:=0) n rfl),cd ⟨1,1,t1⟩,pv (.bl true),bT,pd (v:=.kt<|items.map λp=>.str p.1) (S':=T) (by delta pr;dsimp only[dy];rw[hf]),pv (.bl false),bF,pd (v:=.int (items.length+2:Nat)) (S':=T) (by show Res.ok (.int ((items.map (·.2)).length+1+1:Nat)) T=_;rw[m]),pd (v:=.int items.length) (S':=T) (by show Res.ok (.int ((items.map λp=>U.str p.1).length:Nat)) T=_;rw[xAa]),pv (.int<|2+items.length),pd (v:=.bl false) (S':=T) (by show Res.ok (.bl (!(decide<|((items.length+2:Nat):Int)=2+items.length))) T=_;rw[xBd ()];rfl),bF];have h1:=C1.ob;erw[pd (eB h1 rfl),pd (cv (j:=1) n rfl),<-zT (d:=d) C1 (λG X T2 C2 p2=>?_) λX S' Y=>N (by unfold ndF;rw[X];rfl) S' ⟨xCk e Y.len,λi z=>Y.ky i<|ky1 z⟩];have w:=p2.ky Z n;erw[pd (cv (j:=0) w rfl),pd (v:=.bl b) (S':=T2) (by show obB (some<|zA1 (.str k) [.str "number",.str "name"]) not T2=_;rw[<- hw];rfl)];have P2:Pc pq S T2:=⟨xCk e p2.len,λi z=>p2.ky i<|ky1 z⟩
 have F:ndF wi' pl g ps=if wi'<=20 then g G else none:=by unfold ndF;rw[X];rfl
 have B:∀{c1 c2 c3:A3 U},(sQ (Ja (tB<|J0 .gt Jb<|J9 20)<|Jm<|sX "NoPart" [] aN)<|sQ (sF (J0 .zip Jl<|J0 (.sl false true false) J7 Jn) [7,8] false bd9)<|J6<|J4 .tupOf Je) (Gd fw<|d+3) [some<|.ref h,some P,some<|.tup<|th.map .str,some<|.int wi',some P,some<|.ref S.length,some<|.kt<|items.map λp=>.str p.1,c1,c2,c3] T2<|zAn x K:=by
  intro c1 c2 c3;erw[pd (v:=.bl<|decide<|(20:Int)<wi') (S':=T2) rfl];by_cases h20:wi'<=20
  case neg=>
   rw[xBd ()];erw[bT,<-N (by rw[F,xCf h20]) T2 P2]
  rw[xCn ()];rw[xCg h20] at F;erw[bF];rw[E];erw[pd wu,<-pd (v:=.tup<|items.map λp=>.tup [.str p.1,p.2]) (S':=T2) ?_ ?_]
  .show(match Nat.beq (items.map λp:Str×U=>U.str p.1).length (items.map λp:Str×U=>p.2).length with|true=>Res.ok (.tup<|zCz (items.map λp:Str×U=>U.str p.1) (items.map λp:Str×U=>p.2)) T2|false=>.stuck)=_;rw[m,xAa,show Nat.beq items.length items.length=true from Nat.beq_refl _,lm]
  refine xK (d:=d+2) (D:=D) () O (hI h20) C2 Z w (by show 2+items.length<=100;lia) (λH W S' a b c C' I M R=>?_) λW O' S' I M=>?_
  .erw[pd (v:=.tup (.str k::.int pl::items.map (·.2))) (S':=S') (by show zB8 (.ref S.length) S'=_;unfold zB8;dsimp only[lsU];rw[R];rfl)];rw[<- E];exact hk H (by rw[F,W]) S' C' ⟨xCk e<|xCk p2.len I,λi z=>M i (by have:=zD5 z;lia)<|p2.ky i<|ky1 z⟩
  .exact N (by rw[F,W]) S' ⟨xCk e<|xCk p2.len I,λi z=>M i (by have:=zD5 z;lia)<|p2.ky i<|ky1 z⟩
 rw[<- E];cases b with
 |true=>
  erw[bT,pd (v:=.int wi') (S':=T2) (by rw[t];rfl),<-B]
 |false=>
  erw[bF];rw[show wi=wi' by rw[t];rfl];exact B
section
variable{th:A9}{wi pl i:Int}{w y t k:Str}{p q v a b:U}{r xs:B0}{D D':Nat}{f g:B2->A3 (B2)}{s:Str}
def Chk.mono(h:Chk v f th wi D)(e:D<=D'):Chk v f th wi D':=⟨λa=>h.h<|xCk e a⟩
def zCm.mono(h:zCm s v f th wi D)(e:D<=D'):zCm s v f th wi D':=⟨λa=>h.h<|xCk e a⟩
def zI7:U->A8
 |.tup _=>true
 |_=>false
theorem db(m:pvB v=true)(n:zI7 v=false):Chk v noF th wi 3:=⟨λ{fw d h pq ps S x K} hd C B e=>by
 obtain⟨d,rfl⟩:∃o,d=o+3:=⟨d-3,()⟩
 erw[cd ⟨4,10,t9⟩,dk m];have e:=e rfl S Pc.refl;cases v with
 |tup xs=>cases n
 |non=>walk_at"w";exact e
 |bl b=>walk_at"w";exact e
 |int i=>walk_at"w";exact e
 |str w=>walk_at"w";exact e
 |lst xs=>walk_at"w";exact e
 |_=>cases m⟩
def cX(n:xs.length<2):Chk (.tup xs) noF th wi 3:=⟨λ{fw d h pq ps S x K} hd C o e=>by
 obtain⟨d,rfl⟩:∃m,d=m+3:=⟨d-3,()⟩
 refine cd ⟨4,10,t9⟩ ?_;refine dk (xDk ()) ?_;refine pv (.bl true) ?_;refine bF ?_;refine pv (.int xs.length) ?_;refine pd (v:=.bl<|decide<|(xs.length:Int)<2) (S':=S) rfl ?_;rw[xBd ()];refine bT ?_;exact e rfl S Pc.refl⟩
def zCp:U->A8
 |.str w=>(zAt w cm).isNone&&cI.any λy=>decide<|y=w
 |_=>true
def jb{t:B5}{x:B8}{K:B7}{th:U}{wi:U}(o:r.length<=100)(n:pvB a=true)(m:pvB b=true)(e:t (Gd fw<|d+2) [some<|.ref h,some<|.tup<|a::b::r,some th,some wi,some<|.tup<|a::b::r,some<|.ref S.length,none,none,none,none] (S++[.lst [a,b]])<|zAn x K) :
  (sQ (sA 4<|Jf 7 J3)<|sQ (Ja (tOr' (tNt<|tB<|J4 (.isT "tuple") J7)<|tB<|J0 .lt (J4 .len J7) Jn)<|Jm<|sX "NoPart" [] aN)<|sQ (sA 5<|J0 (.lst true) (Jf 7<|J5 J7 Jk)<|Jf 7<|J5 J7 Jc) t) (Gd fw<|d+2) [some<|.ref h,some<|.tup<|a::b::r,some th,some wi,none,none,none,none,none,none] S (zAn x K):=by
 erw[dk (d:=d) (xDk<|by simp only[xAo];lia),pv (.bl true),bF,pv (.int (r.length+1+1:Nat)),pd (v:=.bl false) (S':=S) (by show Res.ok (.bl<|decide<|((r.length+1+1:Nat):Int)<2) S=_;rw[xCn ()]),bF,pd gu,dk (d:=d) n,pd pS,dk (d:=d) m,pd (v:=.ref S.length) (S':=S++[.lst [a,b]]) (by rfl),<-e]
theorem rM(B:r.length<=100)(o:pvB a=true)(E:pvB b=true)(n:zCp a=true):Chk (.tup<|a::b::r) noF th wi 3:=⟨λ{fw d h pq ps S x K} hd C G e=>by
 obtain⟨d,rfl⟩:∃F,d=F+3:=⟨d-3,()⟩
 erw[cd ⟨4,10,t9⟩,jb B o E];have m:at? (S++[Ob.lst [a,b]]) S.length=some (.lst [a,b]):=zBm;have P1:Pc pq S<|S++[Ob.lst [a,b]]:=Pc.app;generalize S++[Ob.lst [a,b]]=T at m P1⊢;have e:=e rfl T P1;erw[pd (cv (j:=0) m rfl),cd ⟨1,1,t1⟩];cases a with
 |str w=>
  erw[pv (.bl true),bT];rw[show zCp (.str w)=((zAt w cm).isNone&&cI.any λy=>decide<|y=w) from rfl,xCh] at n;refine pd (v:=.non) (S':=T) ?_ ?_
  .delta pr;dsimp only[dy];rw[Option.isNone_iff_eq_none.mp n.1];dsimp only;rw[n.2]
  erw[pv (.bl true),bT,bT,<-e]
 |non=>walk_at"w";exact e
 |bl b=>walk_at"w";exact e
 |int i=>walk_at"w";exact e
 |tup xs=>walk_at"w";exact e
 |lst xs=>walk_at"w";exact e
 |_=>cases o⟩
def jc{fs:B0}(B:r.length<=100)(n:k.length<=1000)(F:pvB b=true)(E:zAt k cm=some (.kt fs))(o:fs.length≠r.length):Chk (.tup<|.str k::b::r) noF th wi 3:=⟨λ{fw d h pq ps S x K} hd C H m=>by
 obtain⟨d,rfl⟩:∃G,d=G+3:=⟨d-3,()⟩
 refine cd ⟨4,10,t9⟩ ?_;refine jb B (xDk n) F ?_;have e:at? (S++[Ob.lst [.str k,b]]) S.length=some (.lst [.str k,b]):=zBm;have P1:Pc pq S<|S++[Ob.lst [.str k,b]]:=Pc.app;generalize S++[Ob.lst [.str k,b]]=T at e P1⊢;have m:=m rfl T P1;refine pd (cv (j:=0) e rfl) ?_;refine cd ⟨1,1,t1⟩ ?_;refine pv (.bl true) ?_;refine bT ?_;refine pd (v:=.kt fs) (S':=T) (by delta pr;dsimp only[dy];rw[E]) ?_;refine pv (.bl false) ?_;refine bF ?_;refine pv (.int (r.length+1+1:Nat)) ?_;refine pv (.int fs.length) ?_;refine pv (.int<|2+fs.length) ?_;refine pd (v:=.bl true) (S':=T) (by show Res.ok (.bl (!(decide<|((r.length+1+1:Nat):Int)=2+fs.length))) T=_;rw[xCn ()];rfl) ?_;refine bT ?_;exact m⟩
def uA{fs:B0}(G:r.length<=100)(n:k.length<=1000)(o:pvB b=true)(F:zGa b=false)(H:zAt k cm=some (.kt fs))(E:fs.length=r.length):Chk (.tup<|.str k::b::r) noF th wi 4:=⟨λ{fw d h pq ps S x K} hd C M m=>by
 obtain⟨d,rfl⟩:∃I,d=I+4:=⟨d-4,()⟩
 refine cd ⟨4,10,t9⟩ ?_;refine jb (d:=d+1) G (xDk n) o ?_;have e:at? (S++[Ob.lst [.str k,b]]) S.length=some (.lst [.str k,b]):=zBm;have B:at? (S++[Ob.lst [.str k,b]]) h=_:=zBy C.ob;have P1:Pc pq S<|S++[Ob.lst [.str k,b]]:=Pc.app;generalize S++[Ob.lst [.str k,b]]=T at e P1 B⊢;have m:=m rfl T P1;refine pd (cv (j:=0) e rfl) ?_;refine cd ⟨1,1,t1⟩ ?_;refine pv (.bl true) ?_;refine bT ?_;refine pd (v:=.kt fs) (S':=T) (by delta pr;dsimp only[dy];rw[H]) ?_;refine pv (.bl false) ?_;refine bF ?_;refine pv (.int (r.length+1+1:Nat)) ?_;refine pv (.int fs.length) ?_;refine pv (.int<|2+fs.length) ?_;refine pd (v:=.bl false) (S':=T) (by show Res.ok (.bl (!(decide<|((r.length+1+1:Nat):Int)=2+fs.length))) T=_;rw[xBd ()];rfl) ?_;refine bF ?_;refine pd (eB B rfl) ?_;refine pd (cv (j:=1) e rfl) ?_;exact yf (d:=d) o F m⟩
def ifF(b:A8)(ps:B2):A3<|B2:=if b=true then some ps else none
theorem vD(F:s≠"part")(E:s≠"parts")(B:s≠"names")(m:pvB v=true):zCm s v (ifF<|zDt s v th) th wi 4:=⟨λ{fw d h pq ps S x K} hd C n e=>by
 obtain⟨d,rfl⟩:∃o,d=o+4:=⟨d-4,()⟩
 erw[cd ⟨5,6,t11⟩];walk_at"w"
 erw[dk m,zAu m];cases hb:zDt s v th with
 |true=>
  rw[hb] at n;erw[bF,<-n ps rfl S C Pc.refl]
 |false=>
  rw[hb] at e;refine bT ?_;exact e rfl S Pc.refl⟩
def j4(o:pvB v=true)(B:zEb v=true):zCm "names" v (ifF<|zBs v) th wi 5:=⟨λ{fw d h pq ps S x K} hd C n m=>by
 obtain⟨d,rfl⟩:∃E,d=E+5:=⟨d-5,()⟩
 erw[cd ⟨5,6,t11⟩];walk_at"w"
 refine xl (d:=d) o B (λe=>?_) λe=>?_
 .rw[e] at n;exact n ps rfl S C Pc.refl
 .rw[e] at m;exact m rfl S Pc.refl⟩
def ja(c:Chk p f th wi D):zCm "part" p f th wi<|D+1:=⟨λ{fw d h pq ps S x K} hd C m e=>by
 obtain⟨d,rfl⟩:∃n,d=n+1:=⟨d-1,()⟩
 erw[cd ⟨5,6,t11⟩];have o:=C.ob;walk_at"w"
 exact c.h () C m e⟩
def rL(m:pvB v=true)(n:zF9 v=false):zCm "parts" v noF th wi 4:=⟨λ{fw d h pq ps S x K} hd C B e=>by
 obtain⟨d,rfl⟩:∃o,d=o+4:=⟨d-4,()⟩
 erw[cd ⟨5,6,t11⟩];walk_at"w"
 exact pI (d:=d) m n (e rfl S Pc.refl)⟩
inductive zEr(th:List Str)(wi:Int)(D:Nat):List U->(List Int->Option (List Int))->Prop
 |nil:zEr th wi D [] some
 |cons {p:U} {r:List U} {f g:List Int->Option (List Int)} (h:Chk p f th wi D) (i:zEr th wi D r g):zEr th wi D (p::r) λps=>(f ps).bind g
 |bad {p:U} {r:List U} (h:Chk p noF th wi D):zEr th wi D (p::r) noF
theorem qK{x:B8}{K:B7}(hd:D<=d):∀{Ps:B0}{f:B2->A3 (B2)},zEr th wi D Ps f->∀{ys:B0}{ps:B2}{S:So},ChS h pq ps S->(∀m,f ps=some m->∀S',ChS h pq m S'->Pc pq S S'->K (.lst<|ys++Ps) S')->(f ps=none->∀S',Pc pq S S'->x NP S') ->
  lcK (Gd fw d) (lcB [1] true [none,none,some<|.int wi,some<|.tup<|th.map .str,some<|.ref h] none (cM "Checker" "check_part" 9 J7 (Jx J3 Jb J8) []) (Gd fw d) x) Ps ys S K:=by
 intro Ps f c;induction c with
 |nil=>
  intro ys ps S C o n;have:=o ps rfl S C Pc.refl;rw[xB0] at this;exact this
 |@cons p r f g c i G=>
  intro ys ps S C o n;erw[pd (eB (C:="Checker") C.ob rfl),<-c.h hd C (λE e S1 C1 p1=>?_) λe=>n (by show(f ps).bind g=_;rw[e];rfl),<-G C1 (λB F S2 C2 p2=>?_) λF S2 p2=>n (by show(f ps).bind g=_;rw[e];exact F) S2 (p1.trans p2)];have:=o B (by show(f ps).bind g=_;rw[e];exact F) S2 C2<|p1.trans p2;rw[xAx];exact this
 |@bad p r c=>
  intro ys ps S C o n;erw[pd (eB (C:="Checker") C.ob rfl),<-c.h hd C (λE e=>nomatch e) λe=>n rfl]
def jZ{Ps:B0}(c:zEr th wi D Ps f)(F:Ps.length<=4)(H:4<=D):zCm "parts" (.tup Ps) f th wi<|D+1:=⟨λ{fw d h pq ps S x K} hd C E B=>by
 obtain⟨d,rfl⟩:∃G,d=G+4:=⟨d-4,()⟩
 erw[cd ⟨5,6,t11⟩];have I:=C.ob;walk_at"w"
 erw[zB9 (d:=d) F];walk_at"w"
 erw[<-bI (c:=Nat.ble Ps.length sizeLine) (λ_=>?_) λz=>absurd (eJ (n:=Ps.length) ()) (by rw[z];decide),<-qK () c (ys:=[]) C (λm e S' C' o=>?_) B];walk_at"w"
 exact E m e S' C' o⟩
end
section
variable{th sc:A9}{wi pl i:Int}{w y t k:Str}{p q v a b:U}{r xs:B0}{D D' d:Nat}{f g:B2->A3 (B2)}{s:Str}
def Chk.to(h:Chk v f th wi D)(e:f=g):Chk v g th wi D:=e▸h
inductive Tr where
 |nd (pl:Int) (up:Bool) (cs:List Tr)|bad
mutual
def Tr.ck:Tr->Int->B2->A3 (B2)
 |.nd pl up cs,wi=>ndF (if up then wi+1 else wi) pl<|Tr.cks cs<|if up then wi+1 else wi
 |.bad,_=>noF
def Tr.cks:A0 Tr->Int->B2->A3 (B2)
 |[],_=>some
 |c::r,wi=>λps=>(c.ck wi ps).bind<|Tr.cks r wi
end
mutual
def Pg.tr:Pg->Tr
 |.num pl _=>.nd pl false []
 |.nam pl _=>.nd pl false []
 |.fn pl _ b=>.nd pl true [b.tr]
 |.call pl f as=>.nd pl true<|f.tr::Pg.trs as
 |.lt pl _ a b=>.nd pl true [a.tr,b.tr]
 |.st pl _ a=>.nd pl true [a.tr]
 |.dd pl a b=>.nd pl true [a.tr,b.tr]
 |.iff pl a b c=>.nd pl true [a.tr,b.tr,c.tr]
 |.math pl _ a b=>.nd pl true [a.tr,b.tr]
 |.make pl _ as=>.nd pl true<|Pg.trs as
 |.mat pl a _ _ b c=>.nd pl true [a.tr,b.tr,c.tr]
 |.rai pl _ a=>.nd pl true [a.tr]
 |.try_ pl a _ _ b=>.nd pl true [a.tr,b.tr]
 |.tell pl a=>.nd pl true [a.tr]
 |.ask pl=>.nd pl true []
 |.bad _=>.bad
def Pg.trs:A0 Pg->A0 Tr
 |[]=>[]
 |a::r=>a.tr::Pg.trs r
end
inductive Wb:List Str->Nat->Pg->Prop where
 |num {sc:List Str} {d:Nat} {pl n:Int} (h1:-(10^12)<n) (h2:n<10^12):Wb sc d (.num pl n)
 |nam {sc:List Str} {d:Nat} {pl:Int} {x:Str} (h:x∈sc):Wb sc d (.nam pl x)
 |fn {sc xs:List Str} {d:Nat} {pl:Int} {b:Pg} (h:Nmz (zAf ·=true) xs) (hb:Wb (sc++xs) d b):Wb sc (d+1) (.fn pl xs b)
 |call {sc:List Str} {d:Nat} {pl:Int} {f:Pg} {as:List Pg} (hf:Wb sc d f) (h:∀a∈as,Wb sc d a) (h4:as.length<=4):Wb sc (d+1) (.call pl f as)
 |lt {sc:List Str} {d:Nat} {pl:Int} {x:Str} {a b:Pg} (hx:zAf x=true) (ha:Wb sc d a) (hb:Wb (sc++[x]) d b):Wb sc (d+1) (.lt pl x a b)
 |st {sc:List Str} {d:Nat} {pl:Int} {x:Str} {a:Pg} (hx:x∈sc) (ha:Wb sc d a):Wb sc (d+1) (.st pl x a)
 |dd {sc:List Str} {d:Nat} {pl:Int} {a b:Pg} (ha:Wb sc d a) (hb:Wb sc d b):Wb sc (d+1) (.dd pl a b)
 |iff {sc:List Str} {d:Nat} {pl:Int} {a b c:Pg} (ha:Wb sc d a) (hb:Wb sc d b) (hc:Wb sc d c):Wb sc (d+1) (.iff pl a b c)
 |math {sc:List Str} {d:Nat} {pl:Int} {o:Str} {a b:Pg} (ho:opV (.str o)=true) (ha:Wb sc d a) (hb:Wb sc d b):Wb sc (d+1) (.math pl o a b)
 |make {sc:List Str} {d:Nat} {pl:Int} {t:Str} {as:List Pg} (ht:zAs t=true) (h:∀a∈as,Wb sc d a) (h4:as.length<=4):Wb sc (d+1) (.make pl t as)
 |mat {sc xs:List Str} {d:Nat} {pl:Int} {t:Str} {a b c:Pg} (ht:zAs t=true) (hx:Nmz (zAf ·=true) xs) (ha:Wb sc d a) (hb:Wb (sc++xs) d b) (hc:Wb sc d c):Wb sc (d+1) (.mat pl a t xs b c)
 |rai {sc:List Str} {d:Nat} {pl:Int} {w:Str} {a:Pg} (hw:zAs w=true) (ha:Wb sc d a):Wb sc (d+1) (.rai pl w a)
 |try_ {sc:List Str} {d:Nat} {pl:Int} {w x:Str} {a b:Pg} (hw:zAs w=true) (hx:zAf x=true) (ha:Wb sc d a) (hb:Wb (sc++[x]) d b):Wb sc (d+1) (.try_ pl a w x b)
 |tell {sc:List Str} {d:Nat} {pl:Int} {a:Pg} (ha:Wb sc d a):Wb sc (d+1) (.tell pl a)
 |ask {sc:List Str} {d:Nat} {pl:Int}:Wb sc (d+1) (.ask pl)
 |bad {sc:List Str} {d:Nat} {v:U} (h:∀wi,Chk v noF sc wi (2*d+9)):Wb sc d (.bad v)
def ny:(λps=>(f ps).bind some)=f:=funext λps=>by cases f ps <;> rfl
def ifT{b:A8}(h:b=true):(λps=>(ifF b ps).bind f)=f:=by rw[h];rfl
theorem kb:∀{th:A9},w∈th->zA1 (.str w) (th.map U.str)=true
 |y::th,h=>by
  show((y==w)||zA1 (.str w) (th.map U.str))=true;rcases xAv.mp h with rfl|h
  .rw[show(w==w)=true by exact beq_self_eq_true w];rfl
  .rw[kb h,Bool.or_true]
def wlen(h:zAs w=true):w.length<=1000:=by
 unfold zAs at h;rw[xCh,xCh] at h;have:=xCo h.1.2;lia
def nword(h:zAf w=true):zAs w=true:=by
 unfold zAf at h;rw[xCh] at h;exact h.1
def oword(h:opV (.str w)=true):zAs w=true:=by
 have h:(zAs w&&_)=true:=h;rw[xCh] at h;exact h.1
variable{vs:B0}{nn:A9}{it:A0<|Str×U}
def Its.to(h:Its th wi D vs it f)(e:f=g):Its th wi D vs it g:=e▸h
def i1(t:TA vs nn)(C:s≠"part")(B:s≠"parts")(o:s≠"names")(e:pvB v=true)(n:zDt s v (th++nn)=true)(i:Its th wi D (vs++[v]) it f)(m:nn.length<=10:=by simp)(E:5<=D:=by lia):Its th wi D vs ((s,v)::it) f:=
 (Its.cons t ((vD C B o e).mono ()) m i).to (ifT n)
def pvS(h:zAs w=true):pvB (.str w)=true:=xDk<|wlen h
def zCc(t:TA vs nn)(h:zAs w=true)(i:Its th wi D (vs++[.str w]) it f)(e:nn.length<=10:=by simp)(m:5<=D:=by lia):Its th wi D vs (("word",.str w)::it) f:=i1 t ∅ ∅ ∅ (pvS h) h i e m
def iOp(t:TA vs nn)(h:opV (.str w)=true)(i:Its th wi D (vs++[.str w]) it f)(e:nn.length<=10:=by simp)(m:5<=D:=by lia):Its th wi D vs (("op",.str w)::it) f:=i1 t ∅ ∅ ∅ (pvS<|oword h) h i e m
def zDr(t:TA vs nn)(h:zAf w=true)(i:Its th wi D (vs++[.str w]) it f)(e:nn.length<=10:=by simp)(m:5<=D:=by lia):Its th wi D vs (("name",.str w)::it) f:=i1 t ∅ ∅ ∅ (pvS<|nword h) h i e m
def zDq(t:TA vs nn)(h:zAf w=true)(m:w∈th)(i:Its th wi D (vs++[.str w]) it f)(e:nn.length<=10:=by simp)(n:5<=D:=by lia):Its th wi D vs (("used",.str w)::it) f:=
 i1 t ∅ ∅ ∅ (pvS<|nword h) (by show(zAf w&&zA1 (.str w) ((th++nn).map .str))=true;rw[h,kb<|xBw _ m];rfl) i e n
theorem jX:∀{ws:A9},ws.Nodup->dedup ws=ws
 |[],_=>rfl
 |x::r,h=>by
  let⟨o,n⟩:=xCb.mp h;unfold dedup;rw[xCf,jX n];intro z;let⟨y,m,e⟩:=xCy.mp z;rw[xBe e] at m;exact o m
def zl{xs:A9}(h:Nmz (zAf ·=true) xs):zBs (.tup<|xs.map .str)=true:=by
 show(Nat.ble (xs.map U.str).length 4&&((xs.map U.str).all zA5&&match zC5 (xs.map U.str) with|some e=>Nat.ble e.length (dedup e).length|none=>false))=true;rw[fA,xAa,xDk h.few];dsimp only;rw[jX h.nd,xDk<|xAg _,List.all_map,Bool.true_and,Bool.and_true];exact xCx.mpr λy m=>h.ok y m
def zCr{xs:A9}(t:TA vs nn)(h:Nmz (zAf ·=true) xs)(i:Its th wi D (vs++[.tup<|xs.map .str]) it f)(m:nn.length<=10:=by simp)(n:5<=D:=by lia):Its th wi D vs (("names",.tup<|xs.map .str)::it) f:=
 (Its.cons t ((j4 (v:=.tup<|xs.map .str) (show Nat.ble (xs.map U.str).length 1000=true from xDk (by rw[xAa];have:=h.few;lia)) (by
  show(xs.map U.str).all pvB=true;rw[List.all_map];exact xCx.mpr λy e=>pvS<|nword<|h.ok y e)).mono n) m i).to (ifT<|zl h)
def zAj(t:TA vs nn)(c:Chk p f (th++nn) wi<|2*d+9)(i:Its th wi (2*d+10) (vs++[p]) it g)(e:nn.length<=10:=by simp):Its th wi (2*d+10) vs (("part",p)::it) λps=>(f ps).bind g:=.cons t (ja c) e i
def ap0(c:Chk p f th wi D):Chk p f (th++[]) wi D:=by rw[xB0];exact c
def tn{k:Str}(m:zAt k dP=none:=by rfl)(e:(dE.any λy=>decide<|y=k)=true:=by decide):TA (.str k::r) []:=lD m e
theorem dL:∀{as:A0 Pg},(Pg.us as).length=as.length
 |[]=>rfl
 |_::r=>congrArg (·+1)<|dL (as:=r)
theorem lN{wi:Int}:∀{as:A0 Pg},(∀a∈as,Chk a.u (a.tr.ck wi) th wi D)->zEr th wi D (Pg.us as) (Tr.cks (Pg.trs as) wi)
 |[],_=>.nil
 |a::r,h=>.cons (h a<|xAr ..)<|lN λb e=>h b<|xAs _ e
def zCq(t:TA vs [])(h:∀a∈as,Chk a.u (a.tr.ck wi) th wi<|2*d+9)(e:as.length<=4)(i:Its th wi (2*d+10) (vs++[.tup<|Pg.us as]) it g):Its th wi (2*d+10) vs (("parts",.tup<|Pg.us as)::it) λps=>(Tr.cks (Pg.trs as) wi ps).bind g:=
 .cons t (jZ (by rw[xB0];exact lN h) (by rw[dL];exact e) ()) ⋯ i
def kd{k:Str}(e:th.length<=1000)(C:Its th (wi+1) (2*d+10) [.str k,.int pl] items g)(B:zAt k cm=some (.kt<|items.map λp=>.str p.1):=by rfl)(o:(!zA1 (.str k) [.str "number",.str "name"])=true:=by rfl)(m:k.length<=1000:=by decide)(n:items.length<=10:=by simp):Chk (.tup (.str k::.int pl::items.map (·.2))) (ndF (wi+1) pl g) th wi<|2*(d+1)+9:=
 dG (b:=true) (wi':=wi+1) (D:=2*d+10) rfl B o rfl m n e () λ_=>C
def cG{sc xs:A9}(a:∀y∈sc,zAf y=true)(b:∀y∈xs,zAf y=true):∀y∈sc++xs,zAf y=true:=λy z=>(xAj.mp z).elim (a y)<|b y
def dw(e:zAf y=true):∀z∈[y],zAf z=true:=λz m=>by rw[xAm.mp m];exact e
theorem cy{P:Pg}(h:Wb sc d P):(∀y∈sc,zAf y=true)->sc.length+5*d<=1000->∀wi,Chk P.u (P.tr.ck wi) sc wi<|2*d+9:=by
 induction h with
 |@num sc d pl n a b=>
  intro e m wi;exact((dG (items:=[("number",.int n)]) (b:=false) (wi':=wi) (D:=5) rfl (by rfl) (by rfl) rfl ∅ ⋯ () () λ_=>i1 tn ∅ ∅ ∅ rfl (by show decide _=true;exact xBd ⟨a,b⟩) .nil).mono ()).to rfl
 |@nam sc d pl x h=>
  intro e m wi;exact((dG (items:=[("used",.str x)]) (b:=false) (wi':=wi) (D:=5) rfl (by rfl) (by rfl) rfl ∅ ⋯ () () λ_=>zDq tn (e x h) h .nil).mono ()).to rfl
 |@fn sc xs d pl b h E K=>
  intro e m wi;have I:=h.few;exact(kd (items:=[("names",.tup<|xs.map .str),("part",b.u)]) ()<|zCr uS h<|zAj o6 (K (cG e h.ok) (by rw[xAb];lia)<|wi+1) .nil ()).to rfl
 |@call sc d pl f as O h H i1 i2=>
  intro e m wi;exact(kd (items:=[("part",f.u),("parts",.tup<|Pg.us as)]) ()<|zAj tn (ap0<|i1 e ()<|wi+1)<|zCq tn (λa C=>i2 a C e ()<|wi+1) H .nil).to (by rw[ny];rfl)
 |@lt sc d pl x a b B C E i1 i2=>
  intro e m wi;exact(kd (items:=[("name",.str x),("part",a.u),("part",b.u)]) ()<|zDr oZ B<|zAj lG (ap0<|i1 e ()<|wi+1)<|zAj lE (i2 (cG e<|dw B) (by rw[xAb];simp;lia)<|wi+1) .nil).to rfl
 |@st sc d pl x a B C i1=>
  intro e m wi;exact(kd (items:=[("used",.str x),("part",a.u)]) ()<|zDq tn (e x B) B<|zAj tn (ap0<|i1 e ()<|wi+1) .nil).to rfl
 |@dd sc d pl a b C E i1 i2=>
  intro e m wi;exact(kd (items:=[("part",a.u),("part",b.u)]) ()<|zAj tn (ap0<|i1 e ()<|wi+1)<|zAj tn (ap0<|i2 e ()<|wi+1) .nil).to rfl
 |@iff sc d pl a b c C E N i1 i2 i3=>
  intro e m wi;exact(kd (items:=[("part",a.u),("part",b.u),("part",c.u)]) ()<|zAj tn (ap0<|i1 e ()<|wi+1)<|zAj tn (ap0<|i2 e ()<|wi+1)<|zAj tn (ap0<|i3 e ()<|wi+1) .nil).to rfl
 |@math sc d pl o a b M C E i1 i2=>
  intro e m wi;exact(kd (items:=[("op",.str o),("part",a.u),("part",b.u)]) ()<|iOp tn M<|zAj tn (ap0<|i1 e ()<|wi+1)<|zAj tn (ap0<|i2 e ()<|wi+1) .nil).to rfl
 |@make sc d pl t as G h H i2=>
  intro e m wi;exact(kd (items:=[("word",.str t),("parts",.tup<|Pg.us as)]) ()<|zCc tn G<|zCq tn (λa C=>i2 a C e ()<|wi+1) H .nil).to (by rw[ny];rfl)
 |@mat sc xs d pl t a b c G B C E N i1 i2 i3=>
  intro e m wi;have I:=B.few;exact(kd (items:=[("part",a.u),("word",.str t),("names",.tup<|xs.map .str),("part",b.u),("part",c.u)]) ()<|zAj uR (ap0<|i1 e ()<|wi+1)<|zCc uQ G<|zCr uP B<|zAj uO (i2 (cG e B.ok) (by rw[xAb];lia)<|wi+1) (zAj uN (ap0<|i3 e ()<|wi+1) .nil) ()).to rfl
 |@rai sc d pl w a F C i1=>
  intro e m wi;exact(kd (items:=[("word",.str w),("part",a.u)]) ()<|zCc tn F<|zAj tn (ap0<|i1 e ()<|wi+1) .nil).to rfl
 |@try_ sc d pl w x a b F B C E i1 i2=>
  intro e m wi;exact(kd (items:=[("part",a.u),("word",.str w),("name",.str x),("part",b.u)]) ()<|zAj oY (ap0<|i1 e ()<|wi+1)<|zCc lC F<|zDr lB B<|zAj lu (i2 (cG e<|dw B) (by rw[xAb];simp;lia)<|wi+1) .nil).to rfl
 |@tell sc d pl a C i1=>
  intro e m wi;exact(kd (items:=[("part",a.u)]) ()<|zAj tn (ap0<|i1 e ()<|wi+1) .nil).to rfl
 |@ask sc d pl=>
  intro e m wi;exact(kd (items:=[]) () .nil).to rfl
 |@bad sc d v h=>
  intro e m wi;exact(h wi).to rfl
end
def okP(pl:Int):Prop:=0<=pl/\pl<=599
mutual
def Tr.pls:Tr->B2
 |.nd pl _ cs=>pl::Tr.plss cs
 |.bad=>[]
def Tr.plss:A0 Tr->B2
 |[]=>[]
 |c::r=>c.pls++Tr.plss r
end
mutual
def Tr.ok:Tr->Int->Prop
 |.nd pl up cs,wi=>okP pl/\(if up then wi+1 else wi)<=20/\Tr.oks cs (if up then wi+1 else wi)
 |.bad,_=>False
def Tr.oks:A0 Tr->Int->Prop
 |[],_=>True
 |c::r,wi=>c.ok wi/\Tr.oks r wi
end
def p0{pl:Int}{a:B2}(h:plA pl ps=some a):okP pl/\pl∉ps/\ps.length<300/\a=ps++[pl]:=by
 unfold plA at h;split at h
 .next q=>cases h;exact⟨⟨q.1,q.2.1⟩,q.2.2.1,q.2.2.2,rfl⟩
 .cases h
def wA{pl:Int}(a:okP pl)(e:pl∉ps)(b:ps.length<300):plA pl ps=some (ps++[pl]):=xCg ⟨a.1,a.2,e,b⟩
mutual
theorem Tr.ck_some:∀{T:Tr}{wi:Int}{ps a:B2},T.ck wi ps=some a->T.ok wi/\a=ps++T.pls/\(ps.Nodup->a.Nodup)/\(ps.length<=300->a.length<=300)
 |.nd pl up cs,wi,ps,a,h=>by
  have h:(plA pl ps).bind (λq=>if(if up then wi+1 else wi)<=20 then Tr.cks cs (if up then wi+1 else wi) q else none)=some a:=h;let⟨q,k,h⟩:=xCi.mp h;let⟨a1,a2,a3,rfl⟩:=p0 k;by_cases hw:(if up then wi+1 else wi)<=20
  .rw[xCg hw] at h;let⟨o,rfl,n,m⟩:=Tr.cks_some h;refine⟨⟨a1,hw,o⟩,?_,λz=>n<|xBq.mpr ⟨z,xCb.mpr ⟨⋯,xC7⟩,λx i y b e=>a2<|by rw[<- xAm.mp b,<- e];exact i⟩,λ_=>m<|by rw[xAb];show ps.length+1<=300;lia⟩;show ps++[pl]++Tr.plss cs=ps++pl::Tr.plss cs;simp
  .rw[xCf hw] at h;cases h
 |.bad,_,_,_,h=>nomatch h
theorem Tr.cks_some:∀{cs:A0 Tr}{wi:Int}{ps a:B2},Tr.cks cs wi ps=some a->Tr.oks cs wi/\a=ps++Tr.plss cs/\(ps.Nodup->a.Nodup)/\(ps.length<=300->a.length<=300)
 |[],_,ps,a,h=>by
  have h:some ps=some a:=h;cases h;exact⟨trivial,(xB0 _).symm,id,id⟩
 |c::r,wi,ps,a,h=>by
  have h:(c.ck wi ps).bind (Tr.cks r wi)=some a:=h;let⟨q,b,h⟩:=xCi.mp h;let⟨a1,rfl,a3,a4⟩:=Tr.ck_some b;let⟨k,rfl,i,e⟩:=Tr.cks_some h;exact⟨⟨a1,k⟩,xAx ..,λz=>i<|a3 z,λz=>e<|a4 z⟩
end
mutual
theorem Tr.ck_good:∀{T:Tr}{wi:Int}{ps:B2},T.ok wi->(ps++T.pls).Nodup->(ps++T.pls).length<=300->T.ck wi ps=some (ps++T.pls)
 |.nd pl up cs,wi,ps,⟨n,m,k⟩,b,a=>by
  have e:ps++(pl::Tr.plss cs)=ps++[pl]++Tr.plss cs:=⋯
  have b:(ps++(pl::Tr.plss cs)).Nodup:=b;have a:(ps++(pl::Tr.plss cs)).length<=300:=a;show(plA pl ps).bind (λq=>if(if up then wi+1 else wi)<=20 then Tr.cks cs (if up then wi+1 else wi) q else none)=some (ps++(pl::Tr.plss cs));rw[e] at b a⊢;have i:=(xBq.mp b).1;rw[wA n (λz=>(xBq.mp i).2.2 pl z pl (xAm.mpr rfl) rfl)<|by rw[xAb,xAb] at a;simp at a;lia];show(if(if up then wi+1 else wi)<=20 then Tr.cks cs (if up then wi+1 else wi) (ps++[pl]) else none)=_;rw[xCg m];exact Tr.cks_good k b a
theorem Tr.cks_good:∀{cs:A0 Tr}{wi:Int}{ps:B2},Tr.oks cs wi->(ps++Tr.plss cs).Nodup->(ps++Tr.plss cs).length<=300->Tr.cks cs wi ps=some (ps++Tr.plss cs)
 |[],_,ps,_,_,_=>by show some ps=some (ps++[]);rw[xB0]
 |c::r,wi,ps,⟨k,i⟩,a,b=>by
  have e:ps++(c.pls++Tr.plss r)=ps++c.pls++Tr.plss r:=(xAx ..).symm;have a:(ps++(c.pls++Tr.plss r)).Nodup:=a;have b:(ps++(c.pls++Tr.plss r)).length<=300:=b;show(c.ck wi ps).bind (Tr.cks r wi)=some (ps++(c.pls++Tr.plss r));rw[e] at a b⊢;rw[Tr.ck_good k (xBq.mp a).1<|by rw[xAb] at b;lia];exact Tr.cks_good i a b
end
structure Kp(S S':So):Prop where
 len:S.length<=S'.length
 ky:∀{q:Nat}{o:Ob},at? S q=some o->at? S' q=some o
def Kp.trans{S1 S2:So}(h1:Kp S S1)(b:Kp S1 S2):Kp S S2:=⟨xCk h1.len b.len,λa=>b.ky<|h1.ky a⟩
def Kp.refl:Kp S S:=⟨xAg _,λz=>z⟩
def Kp.app:Kp S<|S++T:=⟨⋯,λb=>zBy b⟩
variable{f:B2->A3 (B2)}{v:U}{D fw d:Nat}{S:So}{x:B8}{K:B7}
def checked(c:Chk v f [] 0 D)(hd:D<=d+1)(m:(f []).isSome=true->∀S',Kp S S'->K v S')(i:(f []).isSome=false->∀S',Kp S S'->x NP S'):(Gd fw<|d+2).call 15 [v] S x K:=by
 erw[cd ⟨1,1,t15⟩,pd (v:=.ref S.length) (S':=S++[.ins "Checker" []]) (by rfl),cd ⟨1,1,t8⟩,pd lU,pd (jw 0 rfl (by rfl) rfl)];have C:ChS S.length (S.length+1) []<|S++[.ins "Checker" [("places",.ref<|S.length+1)],.dct []]:=⟨zDj (k:=0),zDj,xBn _⟩
 have n:=C.ob;have kp:∀{S'},Pc (S.length+1) (S++[.ins "Checker" [("places",.ref<|S.length+1)],.dct []]) S'->Kp S S':=λ{S'} p=>⟨by have:=p.len;rw[xAb] at this;lia,λ{q o} z=>p.ky (by have:=zD5 z;lia)<|zBy z⟩
 erw[pd (eB (C:="Checker") n rfl)];refine c.h () C (λb e S' C' a=>m (by rw[e];rfl) S'<|kp a) λe S' a=>i (by rw[e];rfl) S'<|kp a
def xM(c:Chk v f [] 0 D)(hd:D<=d+1)(a:∀S',Kp S S'->K (.bl (f []).isSome) S'):(Gd fw<|d+3).call 16 [v] S x K:=by
 erw[cd ⟨1,1,t16⟩,<-checked c hd (λe S' p=>?_) λe S' p=>?_]
 .rw[e] at a;exact a S' p
 .rw[e] at a;exact a S' p
def su{b:A8}(c:Chk v f [] 0 D)(hd:D<=d+1)(hk:∀S',Kp S S'->K (.bl<|decide<|(f []).isSome=b) S'):(Gd fw<|d+4).call 41 [v,.bl b] S x K:=by
 erw[cd ⟨2,3,t41⟩,<-xM c hd λS' p=>?_,pv (.bl true),bT,<-pd (v:=.bl<|decide<|(f []).isSome=b) (S':=S') rfl<|hk S' p]
def er{b:A8}(c:Chk v f [] 0 D)(hd:D<=d+1)(e:(f []).isSome=b)(a:∀S',Kp S S'->K (.bl true) S'):(Gd fw<|d+4).call 41 [v,.bl b] S x K:=
 su c hd λS' p=>by rw[xBd e];exact a S' p
def cU:∀w∈wds,zAs w=true:=by decide +kernel
def iJ:∀w∈ops,opV (.str w)=true:=by decide +kernel
theorem Wf.wb{sc:A9}{P:Pg}(h:Wf (zAf ·=true) sc d P):Wb sc d P:=by
 induction h with
 |num a b=>exact .num a b
 |nam h=>exact .nam h
 |fn h k q=>exact .fn h q
 |call B h p i1 i2=>exact .call i1 i2 p
 |lt i e k i1 i2=>exact .lt i i1 i2
 |st i e i1=>exact .st i i1
 |dd e k i1 i2=>exact .dd i1 i2
 |iff e k w i1 i2 m=>exact .iff i1 i2 m
 |math t e k i1 i2=>exact .math (iJ _ t) i1 i2
 |make o h p i2=>exact .make (cU _ o) i2 p
 |mat o i e k w i1 i2 m=>exact .mat (cU _ o) i i1 i2 m
 |rai n e i1=>exact .rai (cU _ n) i1
 |try_ n i e k i1 i2=>exact .try_ (cU _ n) i i1 i2
 |tell e i1=>exact .tell i1
 |ask=>exact .ask
theorem iM{wi:Int}:∀{as:A0 Pg},(∀a∈as,a.tr.ok wi)->Tr.oks (Pg.trs as) wi
 |[],_=>trivial
 |a::r,h=>⟨h a<|xAr ..,iM λb e=>h b<|xAs _ e⟩
mutual
theorem cr:∀{P:Pg},P.tr.pls=P.pls
 |.num ..=>rfl
 |.nam ..=>rfl
 |.fn pl _ b=>by show pl::(b.tr.pls++[])=pl::b.pls;rw[cr,xB0]
 |.call pl f as=>by show pl::(f.tr.pls++Tr.plss (Pg.trs as))=pl::(f.pls++Pg.plss as);rw[cr,iG]
 |.lt pl _ a b=>by show pl::(a.tr.pls++(b.tr.pls++[]))=pl::(a.pls++b.pls);rw[cr,cr,xB0]
 |.st pl _ a=>by show pl::(a.tr.pls++[])=pl::a.pls;rw[cr,xB0]
 |.dd pl a b=>by show pl::(a.tr.pls++(b.tr.pls++[]))=pl::(a.pls++b.pls);rw[cr,cr,xB0]
 |.iff pl a b c=>by show pl::(a.tr.pls++(b.tr.pls++(c.tr.pls++[])))=pl::(a.pls++(b.pls++c.pls));rw[cr,cr,cr,xB0]
 |.math pl _ a b=>by show pl::(a.tr.pls++(b.tr.pls++[]))=pl::(a.pls++b.pls);rw[cr,cr,xB0]
 |.make pl _ as=>by show pl::Tr.plss (Pg.trs as)=pl::Pg.plss as;rw[iG]
 |.mat pl a _ _ b c=>by show pl::(a.tr.pls++(b.tr.pls++(c.tr.pls++[])))=pl::(a.pls++(b.pls++c.pls));rw[cr,cr,cr,xB0]
 |.rai pl _ a=>by show pl::(a.tr.pls++[])=pl::a.pls;rw[cr,xB0]
 |.try_ pl a _ _ b=>by show pl::(a.tr.pls++(b.tr.pls++[]))=pl::(a.pls++b.pls);rw[cr,cr,xB0]
 |.tell pl a=>by show pl::(a.tr.pls++[])=pl::a.pls;rw[cr,xB0]
 |.ask ..=>rfl
 |.bad _=>rfl
theorem iG:∀{as:A0 Pg},Tr.plss (Pg.trs as)=Pg.plss as
 |[]=>rfl
 |a::r=>by show a.tr.pls++Tr.plss (Pg.trs r)=a.pls++Pg.plss r;rw[cr,iG]
end
theorem yo{sc:A9}{P:Pg}(h:Wf (zAf ·=true) sc d P):∀{wi:Int},wi+d<=20->(∀p∈P.pls,okP p)->P.tr.ok wi:=by
 have i:∀{x:Int}{r:B2},(∀p∈x::r,okP p)->okP x/\∀p∈r,okP p:=λh=>⟨h _<|xAr ..,λp z=>h p<|xAs _ z⟩
 have k:∀{r s:B2},(∀p∈r++s,okP p)->(∀p∈r,okP p)/\∀p∈s,okP p:=λh=>⟨λp z=>h p<|xBw _ z,λp z=>h p<|xBt _ z⟩
 have l3:∀{as:A0 Pg}{a:Pg},(∀p∈Pg.plss as,okP p)->a∈as->∀p∈a.pls,okP p:=λ{as a} h ha=>by
  induction as with
  |nil=>cases ha
  |cons b r w=>
   rcases xAv.mp ha with rfl|ha
   .exact(k h).1
   .exact w (k h).2 ha
 induction h with
 |num a b=>intro wi m e;exact⟨(i e).1,by show wi<=20;lia,trivial⟩
 |nam h=>intro wi m e;exact⟨(i e).1,by show wi<=20;lia,trivial⟩
 |fn h n B=>intro wi m e;exact⟨(i e).1,by show wi+1<=20;lia,B () (i e).2,trivial⟩
 |call H h F i1 i2=>intro wi m e;exact⟨(i e).1,by show wi+1<=20;lia,i1 () (k (i e).2).1,iM λa ha=>i2 a ha ()<|l3 (k (i e).2).2 ha⟩
 |lt q ha n i1 i2=>intro wi m e;exact⟨(i e).1,by show wi+1<=20;lia,i1 () (k (i e).2).1,i2 () (k (i e).2).2,trivial⟩
 |st q ha i1=>intro wi m e;exact⟨(i e).1,by show wi+1<=20;lia,i1 () (i e).2,trivial⟩
 |dd ha n i1 i2=>intro wi m e;exact⟨(i e).1,by show wi+1<=20;lia,i1 () (k (i e).2).1,i2 () (k (i e).2).2,trivial⟩
 |iff ha n E i1 i2 o=>intro wi m e;exact⟨(i e).1,by show wi+1<=20;lia,i1 () (k (i e).2).1,i2 () (k (k (i e).2).2).1,o () (k (k (i e).2).2).2,trivial⟩
 |math G ha n i1 i2=>intro wi m e;exact⟨(i e).1,by show wi+1<=20;lia,i1 () (k (i e).2).1,i2 () (k (i e).2).2,trivial⟩
 |make C h F i2=>intro wi m e;exact⟨(i e).1,by show wi+1<=20;lia,iM λa ha=>i2 a ha ()<|l3 (i e).2 ha⟩
 |mat C q ha n E i1 i2 o=>intro wi m e;exact⟨(i e).1,by show wi+1<=20;lia,i1 () (k (i e).2).1,i2 () (k (k (i e).2).2).1,o () (k (k (i e).2).2).2,trivial⟩
 |rai t ha i1=>intro wi m e;exact⟨(i e).1,by show wi+1<=20;lia,i1 () (i e).2,trivial⟩
 |try_ t q ha n i1 i2=>intro wi m e;exact⟨(i e).1,by show wi+1<=20;lia,i1 () (k (i e).2).1,i2 () (k (i e).2).2,trivial⟩
 |tell ha i1=>intro wi m e;exact⟨(i e).1,by show wi+1<=20;lia,i1 () (i e).2,trivial⟩
 |ask=>intro wi m e;exact⟨(i e).1,by show wi+1<=20;lia,trivial⟩
section
variable{fw d lv:Nat}{S:So}{x:B8}{K:B7}{A B xs:B0}{u v w new:U}{m:A8}
def fL{lo hi:A3 Int}:slice m (.tup xs) lo hi S=.ok (.tup<|zCt xs lo hi) S:=by
 unfold slice;dsimp only;by_cases h:HT.sIx xs.length 0 lo=0/\HT.sIx xs.length xs.length hi=xs.length
 .rw[xBd h];dsimp only;unfold zCt;rw[h.1,h.2];simp
 .rw[xCn h]
def rG:zCt (A++B) none (some ((A.length:Nat):Int))=A:=by
 unfold zCt;rw[HT.sIx_none,HT.sIx_nat,show min A.length (A++B).length=A.length by rw[xAb];lia];simp
def jY:zCt (A++B) (some ((A.length:Nat):Int)) none=B:=by
 unfold zCt;rw[HT.sIx_none,HT.sIx_nat,show min A.length (A++B).length=A.length by rw[xAb];lia];simp
def pP(h:j=(A.length:Nat)):pr ups (.sl m false true) [.tup<|A++B,.int j] S=.ok (.tup A) S:=by
 show slice m (.tup<|A++B) none (some j) S=_;rw[fL,h,rG]
def fF(h:j=(A.length:Nat)):pr ups (.sl m true false) [.tup<|A++B,.int j] S=.ok (.tup B) S:=by
 show slice m (.tup<|A++B) (some j) none S=_;rw[fL,h,jY]
def pT(h:j=(A.length:Nat)):pr ups (.sl false true false) [.lst<|A++B,.int j] S=.ok (.lst B) S:=by
 show mkL false (zCt (A++B) (some j) none) S=_;rw[h,jY];rfl
def wt(h:j=(A.length:Nat)):pr ups (.sl false false true) [.lst<|A++B,.int j] S=.ok (.lst A) S:=by
 show mkL false (zCt (A++B) none<|some j) S=_;rw[h,rG];rfl
def pV:pr ups (.sl m false true) [.tup<|A++[u],.int (-1)] S=.ok (.tup A) S:=by
 show slice m (.tup<|A++[u]) none (some (-1)) S=_;rw[fL];unfold zCt;rw[HT.sIx_none,show HT.sIx (A++[u]).length (A++[u]).length (some (-1))=A.length by show(if(-1:Int)<0 then((-1:Int)+((A++[u]).length:Int)).toNat else min (-1:Int).toNat (A++[u]).length)=_;rw[xCg ∅,xAb];simp;lia];simp
def dt(h:A.length+B.length<=10000):pr ups (.add false) [.tup A,.tup B] S=.ok (.tup<|A++B) S:=zA2 (by show _<=2^24;lia)
def pR(h:j=(A.length:Nat)):pr ups .ix [.tup<|A++u::B,.int j] S=.ok u S:=by
 rw[h];exact ff ⋯
def phU(p:B1):U:=.lst<|p.map λn=>.int (n:Nat)
def ku{n:Nat}{p:B1}:pr ups .ix [phU<|n::p,.int 0] S=.ok (.int (n:Nat)) S:=by
 show opt (atI (U.int (n:Nat)::p.map λn=>U.int (n:Nat)) ((0:Nat):Int)) S=_;rw[dh rfl];rfl
def wv{n:Nat}{p:B1}:pr ups (.sl false true false) [phU<|n::p,.int 1] S=.ok (phU p) S:=pT (A:=[.int (n:Nat)]) (B:=p.map λn=>.int (n:Nat)) rfl
structure zEm(t:U)(p:B1)(new y:U)(lv:Nat):Prop where
 h:∀{fw d:Nat}{S:So}{x:B8}{K:B7},lv<=d->K y S->(Gd fw d).call 36 [t,phU p,new] S x K
def sD:zEm u [] new new 1:=⟨λ{fw d S x K} hd a=>by
 obtain⟨d,rfl⟩:∃b,d=b+1:=⟨d-1,()⟩
 refine cd ⟨3,3,t36⟩ ?_;refine pv (.lst []) ?_;refine pv (.bl true) ?_;refine bT ?_;exact a⟩
def cA{p:B1}{n:Nat}(a:n=A.length)(i:A.length+B.length<=1000)(h:zEm u p new v lv):zEm (.tup<|A++u::B) (n::p) new (.tup<|A++v::B)<|lv+1:=⟨λ{fw d S x K} hd b=>by
 subst a;obtain⟨d,rfl⟩:∃e,d=e+1:=⟨d-1,()⟩
 erw[cd ⟨3,3,t36⟩,pv (.lst []),pv (.bl false),bF,pd ku,pd (pP (A:=A) (B:=u::B) rfl),pd ku,pd (pR rfl),pd wv,h.h (),pd (dt (A:=A) (B:=[v])<|by simp;lia),pd ku,pv (.int<|(A.length:Nat)+1),<-pd (v:=.tup B) (S':=S) ?_ ?_]
 .have:=fF (m:=false) (S:=S) (A:=A++[u]) (B:=B) (j:=(A.length:Nat)+1) ⋯;rw[xAx] at this;exact this
 refine pd (dt (A:=A++[v]) (B:=B)<|by simp;lia) ?_;rw[xAx];exact b⟩
inductive Sp:Pg->List Str->List Nat->Pg->List Str->(Pg->Pg)->Prop
 |here {P:Pg} {sc:List Str}:Sp P sc [] P sc id
 |fn {pl:Int} {xs sc scq:List Str} {b Q:Pg} {p:List Nat} {F:Pg->Pg} (h:Sp b (sc++xs) p Q scq F):Sp (.fn pl xs b) sc (3::p) Q scq λN=>.fn pl xs (F N)
 |call {pl:Int} {sc scq:List Str} {f Q:Pg} {as:List Pg} {p:List Nat} {F:Pg->Pg} (h:Sp f sc p Q scq F):Sp (.call pl f as) sc (2::p) Q scq λN=>.call pl (F N) as
 |arg {pl:Int} {sc scq:List Str} {f a Q:Pg} {l r:List Pg} {p:List Nat} {F:Pg->Pg} (h:Sp a sc p Q scq F):Sp (.call pl f (l++a::r)) sc (3::l.length::p) Q scq λN=>.call pl f (l++F N::r)
 |lt1 {pl:Int} {x:Str} {sc scq:List Str} {a b Q:Pg} {p:List Nat} {F:Pg->Pg} (h:Sp a sc p Q scq F):Sp (.lt pl x a b) sc (3::p) Q scq λN=>.lt pl x (F N) b
 |lt2 {pl:Int} {x:Str} {sc scq:List Str} {a b Q:Pg} {p:List Nat} {F:Pg->Pg} (h:Sp b (sc++[x]) p Q scq F):Sp (.lt pl x a b) sc (4::p) Q scq λN=>.lt pl x a (F N)
 |st {pl:Int} {x:Str} {sc scq:List Str} {a Q:Pg} {p:List Nat} {F:Pg->Pg} (h:Sp a sc p Q scq F):Sp (.st pl x a) sc (3::p) Q scq λN=>.st pl x (F N)
 |dd1 {pl:Int} {sc scq:List Str} {a b Q:Pg} {p:List Nat} {F:Pg->Pg} (h:Sp a sc p Q scq F):Sp (.dd pl a b) sc (2::p) Q scq λN=>.dd pl (F N) b
 |dd2 {pl:Int} {sc scq:List Str} {a b Q:Pg} {p:List Nat} {F:Pg->Pg} (h:Sp b sc p Q scq F):Sp (.dd pl a b) sc (3::p) Q scq λN=>.dd pl a (F N)
 |if1 {pl:Int} {sc scq:List Str} {a b c Q:Pg} {p:List Nat} {F:Pg->Pg} (h:Sp a sc p Q scq F):Sp (.iff pl a b c) sc (2::p) Q scq λN=>.iff pl (F N) b c
 |if2 {pl:Int} {sc scq:List Str} {a b c Q:Pg} {p:List Nat} {F:Pg->Pg} (h:Sp b sc p Q scq F):Sp (.iff pl a b c) sc (3::p) Q scq λN=>.iff pl a (F N) c
 |if3 {pl:Int} {sc scq:List Str} {a b c Q:Pg} {p:List Nat} {F:Pg->Pg} (h:Sp c sc p Q scq F):Sp (.iff pl a b c) sc (4::p) Q scq λN=>.iff pl a b (F N)
 |math1 {pl:Int} {o:Str} {sc scq:List Str} {a b Q:Pg} {p:List Nat} {F:Pg->Pg} (h:Sp a sc p Q scq F):Sp (.math pl o a b) sc (3::p) Q scq λN=>.math pl o (F N) b
 |math2 {pl:Int} {o:Str} {sc scq:List Str} {a b Q:Pg} {p:List Nat} {F:Pg->Pg} (h:Sp b sc p Q scq F):Sp (.math pl o a b) sc (4::p) Q scq λN=>.math pl o a (F N)
 |make {pl:Int} {t:Str} {sc scq:List Str} {a Q:Pg} {l r:List Pg} {p:List Nat} {F:Pg->Pg} (h:Sp a sc p Q scq F):Sp (.make pl t (l++a::r)) sc (3::l.length::p) Q scq λN=>.make pl t (l++F N::r)
 |mat1 {pl:Int} {t:Str} {xs sc scq:List Str} {a b c Q:Pg} {p:List Nat} {F:Pg->Pg} (h:Sp a sc p Q scq F):Sp (.mat pl a t xs b c) sc (2::p) Q scq λN=>.mat pl (F N) t xs b c
 |mat2 {pl:Int} {t:Str} {xs sc scq:List Str} {a b c Q:Pg} {p:List Nat} {F:Pg->Pg} (h:Sp b (sc++xs) p Q scq F):Sp (.mat pl a t xs b c) sc (5::p) Q scq λN=>.mat pl a t xs (F N) c
 |mat3 {pl:Int} {t:Str} {xs sc scq:List Str} {a b c Q:Pg} {p:List Nat} {F:Pg->Pg} (h:Sp c sc p Q scq F):Sp (.mat pl a t xs b c) sc (6::p) Q scq λN=>.mat pl a t xs b (F N)
 |rai {pl:Int} {w:Str} {sc scq:List Str} {a Q:Pg} {p:List Nat} {F:Pg->Pg} (h:Sp a sc p Q scq F):Sp (.rai pl w a) sc (3::p) Q scq λN=>.rai pl w (F N)
 |try1 {pl:Int} {w x:Str} {sc scq:List Str} {a b Q:Pg} {p:List Nat} {F:Pg->Pg} (h:Sp a sc p Q scq F):Sp (.try_ pl a w x b) sc (2::p) Q scq λN=>.try_ pl (F N) w x b
 |try2 {pl:Int} {w x:Str} {sc scq:List Str} {a b Q:Pg} {p:List Nat} {F:Pg->Pg} (h:Sp b (sc++[x]) p Q scq F):Sp (.try_ pl a w x b) sc (5::p) Q scq λN=>.try_ pl a w x (F N)
 |tell {pl:Int} {sc scq:List Str} {a Q:Pg} {p:List Nat} {F:Pg->Pg} (h:Sp a sc p Q scq F):Sp (.tell pl a) sc (2::p) Q scq λN=>.tell pl (F N)
theorem ke:∀{l r:A0 Pg},Pg.us (l++r)=Pg.us l++Pg.us r
 |[],_=>rfl
 |a::l,r=>congrArg (a.u::·)<|ke (l:=l)
def zEm.up{t y:U}{p:B1}(h:zEm t p new y lv)(e:lv<=lv'):zEm t p new y lv':=⟨λa b=>h.h () b⟩
variable{P Q N:Pg}{sc scq:A9}{p:B1}{F:Pg->Pg}{dm:Nat}
theorem v6(h:Sp P sc p Q scq F):Wb sc dm P->zEm P.u p N.u (F N).u (2*dm+1):=by
 have G:∀{dm lv:Nat},lv=2*dm+1->lv+1<=2*(dm+1)+1:=λh=>()
 induction h generalizing dm with
 |here=>intro _;exact sD.up ()
 |@fn pl xs sc scq b Q p F h ih=>intro i;cases i with|fn _ n=>exact(cA (A:=[_,_,_]) (B:=[]) rfl ⋯<|ih n).up ()
 |@call pl sc scq f Q as p F h ih=>intro i;cases i with|call E _ _=>exact(cA (A:=[_,_]) (B:=[_]) rfl ⋯<|ih E).up ()
 |@arg pl sc scq f a Q l r p F h ih=>
  intro i;cases i with
  |call E hs C=>
   have e:∀z:Pg,(Pg.call pl f<|l++z::r).u=.tup ([.str "call",.int pl,f.u]++.tup (Pg.us l++z.u::Pg.us r)::[]):=λz=>by show U.tup [_,_,_,.tup<|Pg.us<|l++z::r]=_;rw[ke];rfl
   rw[e,e];rw[xAb,xAo] at C;exact(cA rfl ⋯<|cA (by rw[dL]) (by rw[dL,dL];lia)<|ih<|hs a ⋯).up ()
 |@lt1 pl x sc scq a b Q p F h ih=>intro i;cases i with|lt _ k _=>exact(cA (A:=[_,_,_]) (B:=[_]) rfl ⋯<|ih k).up ()
 |@lt2 pl x sc scq a b Q p F h ih=>intro i;cases i with|lt _ _ n=>exact(cA (A:=[_,_,_,_]) (B:=[]) rfl ⋯<|ih n).up ()
 |@st pl x sc scq a Q p F h ih=>intro i;cases i with|st _ k=>exact(cA (A:=[_,_,_]) (B:=[]) rfl ⋯<|ih k).up ()
 |@dd1 pl sc scq a b Q p F h ih=>intro i;cases i with|dd k _=>exact(cA (A:=[_,_]) (B:=[_]) rfl ⋯<|ih k).up ()
 |@dd2 pl sc scq a b Q p F h ih=>intro i;cases i with|dd _ n=>exact(cA (A:=[_,_,_]) (B:=[]) rfl ⋯<|ih n).up ()
 |@if1 pl sc scq a b c Q p F h ih=>intro i;cases i with|iff k _ _=>exact(cA (A:=[_,_]) (B:=[_,_]) rfl ⋯<|ih k).up ()
 |@if2 pl sc scq a b c Q p F h ih=>intro i;cases i with|iff _ n _=>exact(cA (A:=[_,_,_]) (B:=[_]) rfl ⋯<|ih n).up ()
 |@if3 pl sc scq a b c Q p F h ih=>intro i;cases i with|iff _ _ q=>exact(cA (A:=[_,_,_,_]) (B:=[]) rfl ⋯<|ih q).up ()
 |@math1 pl o sc scq a b Q p F h ih=>intro i;cases i with|math _ k _=>exact(cA (A:=[_,_,_]) (B:=[_]) rfl ⋯<|ih k).up ()
 |@math2 pl o sc scq a b Q p F h ih=>intro i;cases i with|math _ _ n=>exact(cA (A:=[_,_,_,_]) (B:=[]) rfl ⋯<|ih n).up ()
 |@make pl t sc scq a Q l r p F h ih=>
  intro i;cases i with
  |make _ hs C=>
   have e:∀z:Pg,(Pg.make pl t<|l++z::r).u=.tup ([.str "make",.int pl,.str t]++.tup (Pg.us l++z.u::Pg.us r)::[]):=λz=>by show U.tup [_,_,_,.tup<|Pg.us<|l++z::r]=_;rw[ke];rfl
   rw[e,e];rw[xAb,xAo] at C;exact(cA rfl ⋯<|cA (by rw[dL]) (by rw[dL,dL];lia)<|ih<|hs a ⋯).up ()
 |@mat1 pl t xs sc scq a b c Q p F h ih=>intro i;cases i with|mat _ _ k _ _=>exact(cA (A:=[_,_]) (B:=[_,_,_,_]) rfl ⋯<|ih k).up ()
 |@mat2 pl t xs sc scq a b c Q p F h ih=>intro i;cases i with|mat _ _ _ n _=>exact(cA (A:=[_,_,_,_,_]) (B:=[_]) rfl ⋯<|ih n).up ()
 |@mat3 pl t xs sc scq a b c Q p F h ih=>intro i;cases i with|mat _ _ _ _ q=>exact(cA (A:=[_,_,_,_,_,_]) (B:=[]) rfl ⋯<|ih q).up ()
 |@rai pl w sc scq a Q p F h ih=>intro i;cases i with|rai _ k=>exact(cA (A:=[_,_,_]) (B:=[]) rfl ⋯<|ih k).up ()
 |@try1 pl w x sc scq a b Q p F h ih=>intro i;cases i with|try_ _ _ k _=>exact(cA (A:=[_,_]) (B:=[_,_,_]) rfl ⋯<|ih k).up ()
 |@try2 pl w x sc scq a b Q p F h ih=>intro i;cases i with|try_ _ _ _ n=>exact(cA (A:=[_,_,_,_,_]) (B:=[]) rfl ⋯<|ih n).up ()
 |@tell pl sc scq a Q p F h ih=>intro i;cases i with|tell k=>exact(cA (A:=[_,_]) (B:=[]) rfl ⋯<|ih k).up ()
end
section
variable{P Q N:Pg}{sc scq:A9}{p:B1}{F:Pg->Pg}{dm:Nat}{wi:Int}
structure Fil(sc:A9)(d:Nat)(Q:Pg)(scq:A9)(dq:Nat)(F:Pg->Pg):Prop where
 wf:Wf (zAf ·=true) scq dq Q
 nm:(∀y∈sc,zAf y=true)->∀y∈scq,zAf y=true
 le:scq.length+5*dq<=sc.length+5*d
 G:∀N,Wb scq dq N->Wb sc d (F N)
def zBd{l:A0 J}{x:J}:(l++[x]).length=l.length+1:=⋯
theorem fil(h:Sp P sc p Q scq F):∀{d:Nat},Wf (zAf ·=true) sc d P->∃k,k<=d/\Fil sc d Q scq k F:=by
 induction h with
 |here=>intro d i;exact⟨d,xAg _,i,id,xAg _,λ_ z=>z⟩
 |@fn pl R sc scq b Q p F h n=>
  intro d i;cases i with
  |fn Y C=>
   let⟨k,l,m,nm,le,G⟩:=n C;exact⟨k,(),m,λz=>nm<|cG z (Y).ok,by rw[xAb] at le;have:=(Y).few;lia,λN q=>.fn Y<|G N q⟩
 |@call pl sc scq f Q as p F h n=>
  intro d i;cases i with
  |call X I O=>
   let⟨k,l,m,nm,le,G⟩:=n X;exact⟨k,(),m,nm,(),λN q=>.call (G N q) (λa z=>(I a z).wb) O⟩
 |@lt1 pl x sc scq a b Q p F h n=>
  intro d i;cases i with
  |lt E B C=>
   let⟨k,l,m,nm,le,G⟩:=n B;exact⟨k,(),m,nm,(),λN q=>.lt E (G N q) C.wb⟩
 |@lt2 pl x sc scq a b Q p F h n=>
  intro d i;cases i with
  |lt E B C=>
   let⟨k,l,m,nm,le,G⟩:=n C;exact⟨k,(),m,λz=>nm<|cG z<|dw E,by rw[zBd] at le;lia,λN q=>.lt E B.wb<|G N q⟩
 |@st pl x sc scq a Q p F h n=>
  intro d i;cases i with
  |st E B=>
   let⟨k,l,m,nm,le,G⟩:=n B;exact⟨k,(),m,nm,(),λN q=>.st E<|G N q⟩
 |@dd1 pl sc scq a b Q p F h n=>
  intro d i;cases i with
  |dd B C=>
   let⟨k,l,m,nm,le,G⟩:=n B;exact⟨k,(),m,nm,(),λN q=>.dd (G N q) C.wb⟩
 |@dd2 pl sc scq a b Q p F h n=>
  intro d i;cases i with
  |dd B C=>
   let⟨k,l,m,nm,le,G⟩:=n C;exact⟨k,(),m,nm,(),λN q=>.dd B.wb<|G N q⟩
 |@if1 pl sc scq a b c Q p F h n=>
  intro d i;cases i with
  |iff B C H=>
   let⟨k,l,m,nm,le,G⟩:=n B;exact⟨k,(),m,nm,(),λN q=>.iff (G N q) C.wb H.wb⟩
 |@if2 pl sc scq a b c Q p F h n=>
  intro d i;cases i with
  |iff B C H=>
   let⟨k,l,m,nm,le,G⟩:=n C;exact⟨k,(),m,nm,(),λN q=>.iff B.wb (G N q) H.wb⟩
 |@if3 pl sc scq a b c Q p F h n=>
  intro d i;cases i with
  |iff B C H=>
   let⟨k,l,m,nm,le,G⟩:=n H;exact⟨k,(),m,nm,(),λN q=>.iff B.wb C.wb<|G N q⟩
 |@math1 pl o sc scq a b Q p F h n=>
  intro d i;cases i with
  |math W B C=>
   let⟨k,l,m,nm,le,G⟩:=n B;exact⟨k,(),m,nm,(),λN q=>.math (iJ _ W) (G N q) C.wb⟩
 |@math2 pl o sc scq a b Q p F h n=>
  intro d i;cases i with
  |math W B C=>
   let⟨k,l,m,nm,le,G⟩:=n C;exact⟨k,(),m,nm,(),λN q=>.math (iJ _ W) B.wb<|G N q⟩
 |@mat1 pl t R sc scq a b c Q p F h n=>
  intro d i;cases i with
  |mat M E B C H=>
   let⟨k,l,m,nm,le,G⟩:=n B;exact⟨k,(),m,nm,(),λN q=>.mat (cU _ M) E (G N q) C.wb H.wb⟩
 |@mat2 pl t R sc scq a b c Q p F h n=>
  intro d i;cases i with
  |mat M E B C H=>
   let⟨k,l,m,nm,le,G⟩:=n C;exact⟨k,(),m,λz=>nm<|cG z (E).ok,by rw[xAb] at le;have:=(E).few;lia,λN q=>.mat (cU _ M) E B.wb (G N q) H.wb⟩
 |@mat3 pl t R sc scq a b c Q p F h n=>
  intro d i;cases i with
  |mat M E B C H=>
   let⟨k,l,m,nm,le,G⟩:=n H;exact⟨k,(),m,nm,(),λN q=>.mat (cU _ M) E B.wb C.wb<|G N q⟩
 |@rai pl w sc scq a Q p F h n=>
  intro d i;cases i with
  |rai i B=>
   let⟨k,l,m,nm,le,G⟩:=n B;exact⟨k,(),m,nm,(),λN q=>.rai (cU _ i)<|G N q⟩
 |@try1 pl w x sc scq a b Q p F h n=>
  intro d i;cases i with
  |try_ i E B C=>
   let⟨k,l,m,nm,le,G⟩:=n B;exact⟨k,(),m,nm,(),λN q=>.try_ (cU _ i) E (G N q) C.wb⟩
 |@try2 pl w x sc scq a b Q p F h n=>
  intro d i;cases i with
  |try_ i E B C=>
   let⟨k,l,m,nm,le,G⟩:=n C;exact⟨k,(),m,λz=>nm<|cG z<|dw E,by rw[zBd] at le;lia,λN q=>.try_ (cU _ i) E B.wb<|G N q⟩
 |@tell pl sc scq a Q p F h n=>
  intro d i;cases i with
  |tell B=>
   let⟨k,l,m,nm,le,G⟩:=n B;exact⟨k,(),m,nm,(),λN q=>.tell<|G N q⟩
 |@arg pl sc scq f a Q l r p F h n=>
  intro d i;cases i with
  |call X I O=>
   let⟨k,e,m,nm,le,G⟩:=n (I a ⋯);refine⟨k,(),m,nm,(),λN q=>.call X.wb (λz hz=>?_)<|by simpa using O⟩;rcases xAj.mp hz with hz|hz
   .exact(I z<|by simp[hz]).wb
   .rcases xAv.mp hz with rfl|hz
    .exact G N q
    .exact(I z<|by simp[hz]).wb
 |@make pl t sc scq a Q l r p F h n=>
  intro d i;cases i with
  |make M I O=>
   let⟨k,e,m,nm,le,G⟩:=n (I a ⋯);refine⟨k,(),m,nm,(),λN q=>.make (cU _ M) (λz hz=>?_)<|by simpa using O⟩;rcases xAj.mp hz with hz|hz
   .exact(I z<|by simp[hz]).wb
   .rcases xAv.mp hz with rfl|hz
    .exact G N q
    .exact(I z<|by simp[hz]).wb
theorem iw:∀{l r:A0 Pg},Pg.trs (l++r)=Pg.trs l++Pg.trs r
 |[],_=>rfl
 |a::l,r=>congrArg (a.tr::·)<|iw (l:=l)
theorem iO:∀{l r:A0 Tr},Tr.oks (l++r) wi->Tr.oks r wi
 |[],_,h=>h
 |_::l,_,h=>iO (l:=l) h.2
theorem eP:∀{l r:A0 Pg},Pg.plss (l++r)=Pg.plss l++Pg.plss r
 |[],_=>rfl
 |a::l,r=>by show a.pls++Pg.plss (l++r)=a.pls++Pg.plss l++Pg.plss r;rw[eP,xAx]
theorem xf(h:Sp P sc p Q scq F):∀{wi:Int},(F N).tr.ok wi->∃wi',N.tr.ok wi':=by
 induction h with
 |here=>intro wi h;exact⟨wi,h⟩
 |@fn pl m sc scq b Q p F i e=>intro wi h;exact e h.2.2.1
 |@call pl sc scq f Q as p F i e=>intro wi h;exact e h.2.2.1
 |@lt1 pl x sc scq a b Q p F i e=>intro wi h;exact e h.2.2.1
 |@lt2 pl x sc scq a b Q p F i e=>intro wi h;exact e h.2.2.2.1
 |@st pl x sc scq a Q p F i e=>intro wi h;exact e h.2.2.1
 |@dd1 pl sc scq a b Q p F i e=>intro wi h;exact e h.2.2.1
 |@dd2 pl sc scq a b Q p F i e=>intro wi h;exact e h.2.2.2.1
 |@if1 pl sc scq a b c Q p F i e=>intro wi h;exact e h.2.2.1
 |@if2 pl sc scq a b c Q p F i e=>intro wi h;exact e h.2.2.2.1
 |@if3 pl sc scq a b c Q p F i e=>intro wi h;exact e h.2.2.2.2.1
 |@math1 pl o sc scq a b Q p F i e=>intro wi h;exact e h.2.2.1
 |@math2 pl o sc scq a b Q p F i e=>intro wi h;exact e h.2.2.2.1
 |@mat1 pl t m sc scq a b c Q p F i e=>intro wi h;exact e h.2.2.1
 |@mat2 pl t m sc scq a b c Q p F i e=>intro wi h;exact e h.2.2.2.1
 |@mat3 pl t m sc scq a b c Q p F i e=>intro wi h;exact e h.2.2.2.2.1
 |@rai pl w sc scq a Q p F i e=>intro wi h;exact e h.2.2.1
 |@try1 pl w x sc scq a b Q p F i e=>intro wi h;exact e h.2.2.1
 |@try2 pl w x sc scq a b Q p F i e=>intro wi h;exact e h.2.2.2.1
 |@tell pl sc scq a Q p F i e=>intro wi h;exact e h.2.2.1
 |@arg pl sc scq f a Q l r p F i e=>
  intro wi h;have k:Tr.oks (Pg.trs<|l++F N::r) (wi+1):=h.2.2.2;rw[iw] at k;exact e (iO k).1
 |@make pl t sc scq a Q l r p F i e=>
  intro wi h;have k:Tr.oks (Pg.trs<|l++F N::r) (wi+1):=h.2.2;rw[iw] at k;exact e (iO k).1
theorem lY(h:Sp P sc p Q scq F):∃A B:B2,P.pls=A++(Q.pls++B)/\∀N,(F N).pls=A++(N.pls++B):=by
 induction h with
 |here=>exact⟨[],[],⋯,λN=>⋯⟩
 |@fn pl m sc scq b Q p F h e=>
  let⟨A,B,k,i⟩:=e;exact⟨([pl])++A,B++([]),by simp[Pg.pls,Pg.plss,k,xAx],λN=>by simp[Pg.pls,Pg.plss,i,xAx]⟩
 |@call pl sc scq f Q as p F h e=>
  let⟨A,B,k,i⟩:=e;exact⟨([pl])++A,B++(Pg.plss as),by simp[Pg.pls,Pg.plss,k,xAx],λN=>by simp[Pg.pls,Pg.plss,i,xAx]⟩
 |@lt1 pl x sc scq a b Q p F h e=>
  let⟨A,B,k,i⟩:=e;exact⟨([pl])++A,B++(b.pls),by simp[Pg.pls,Pg.plss,k,xAx],λN=>by simp[Pg.pls,Pg.plss,i,xAx]⟩
 |@lt2 pl x sc scq a b Q p F h e=>
  let⟨A,B,k,i⟩:=e;exact⟨(pl::a.pls)++A,B++([]),by simp[Pg.pls,Pg.plss,k,xAx],λN=>by simp[Pg.pls,Pg.plss,i,xAx]⟩
 |@st pl x sc scq a Q p F h e=>
  let⟨A,B,k,i⟩:=e;exact⟨([pl])++A,B++([]),by simp[Pg.pls,Pg.plss,k,xAx],λN=>by simp[Pg.pls,Pg.plss,i,xAx]⟩
 |@dd1 pl sc scq a b Q p F h e=>
  let⟨A,B,k,i⟩:=e;exact⟨([pl])++A,B++(b.pls),by simp[Pg.pls,Pg.plss,k,xAx],λN=>by simp[Pg.pls,Pg.plss,i,xAx]⟩
 |@dd2 pl sc scq a b Q p F h e=>
  let⟨A,B,k,i⟩:=e;exact⟨(pl::a.pls)++A,B++([]),by simp[Pg.pls,Pg.plss,k,xAx],λN=>by simp[Pg.pls,Pg.plss,i,xAx]⟩
 |@if1 pl sc scq a b c Q p F h e=>
  let⟨A,B,k,i⟩:=e;exact⟨([pl])++A,B++(b.pls++c.pls),by simp[Pg.pls,Pg.plss,k,xAx],λN=>by simp[Pg.pls,Pg.plss,i,xAx]⟩
 |@if2 pl sc scq a b c Q p F h e=>
  let⟨A,B,k,i⟩:=e;exact⟨(pl::a.pls)++A,B++(c.pls),by simp[Pg.pls,Pg.plss,k,xAx],λN=>by simp[Pg.pls,Pg.plss,i,xAx]⟩
 |@if3 pl sc scq a b c Q p F h e=>
  let⟨A,B,k,i⟩:=e;exact⟨(pl::(a.pls++b.pls))++A,B++([]),by simp[Pg.pls,Pg.plss,k,xAx],λN=>by simp[Pg.pls,Pg.plss,i,xAx]⟩
 |@math1 pl o sc scq a b Q p F h e=>
  let⟨A,B,k,i⟩:=e;exact⟨([pl])++A,B++(b.pls),by simp[Pg.pls,Pg.plss,k,xAx],λN=>by simp[Pg.pls,Pg.plss,i,xAx]⟩
 |@math2 pl o sc scq a b Q p F h e=>
  let⟨A,B,k,i⟩:=e;exact⟨(pl::a.pls)++A,B++([]),by simp[Pg.pls,Pg.plss,k,xAx],λN=>by simp[Pg.pls,Pg.plss,i,xAx]⟩
 |@mat1 pl t m sc scq a b c Q p F h e=>
  let⟨A,B,k,i⟩:=e;exact⟨([pl])++A,B++(b.pls++c.pls),by simp[Pg.pls,Pg.plss,k,xAx],λN=>by simp[Pg.pls,Pg.plss,i,xAx]⟩
 |@mat2 pl t m sc scq a b c Q p F h e=>
  let⟨A,B,k,i⟩:=e;exact⟨(pl::a.pls)++A,B++(c.pls),by simp[Pg.pls,Pg.plss,k,xAx],λN=>by simp[Pg.pls,Pg.plss,i,xAx]⟩
 |@mat3 pl t m sc scq a b c Q p F h e=>
  let⟨A,B,k,i⟩:=e;exact⟨(pl::(a.pls++b.pls))++A,B++([]),by simp[Pg.pls,Pg.plss,k,xAx],λN=>by simp[Pg.pls,Pg.plss,i,xAx]⟩
 |@rai pl w sc scq a Q p F h e=>
  let⟨A,B,k,i⟩:=e;exact⟨([pl])++A,B++([]),by simp[Pg.pls,Pg.plss,k,xAx],λN=>by simp[Pg.pls,Pg.plss,i,xAx]⟩
 |@try1 pl w x sc scq a b Q p F h e=>
  let⟨A,B,k,i⟩:=e;exact⟨([pl])++A,B++(b.pls),by simp[Pg.pls,Pg.plss,k,xAx],λN=>by simp[Pg.pls,Pg.plss,i,xAx]⟩
 |@try2 pl w x sc scq a b Q p F h e=>
  let⟨A,B,k,i⟩:=e;exact⟨(pl::a.pls)++A,B++([]),by simp[Pg.pls,Pg.plss,k,xAx],λN=>by simp[Pg.pls,Pg.plss,i,xAx]⟩
 |@tell pl sc scq a Q p F h e=>
  let⟨A,B,k,i⟩:=e;exact⟨([pl])++A,B++([]),by simp[Pg.pls,Pg.plss,k,xAx],λN=>by simp[Pg.pls,Pg.plss,i,xAx]⟩
 |@arg pl sc scq f a Q l r p F h e=>
  let⟨A,B,k,i⟩:=e;exact⟨(pl::(f.pls++Pg.plss l))++A,B++Pg.plss r,by simp[Pg.pls,Pg.plss,eP,k,xAx],λN=>by simp[Pg.pls,Pg.plss,eP,i,xAx]⟩
 |@make pl t sc scq a Q l r p F h e=>
  let⟨A,B,k,i⟩:=e;exact⟨(pl::Pg.plss l)++A,B++Pg.plss r,by simp[Pg.pls,Pg.plss,eP,k,xAx],λN=>by simp[Pg.pls,Pg.plss,eP,i,xAx]⟩
def ur{a:Nat}(f:Fil sc d Q scq a F)(b:∀y∈sc,zAf y=true)(i:sc.length+5*d<=1000)(e:Wb scq a N)(wi:Int):Chk (F N).u ((F N).tr.ck wi) sc wi<|2*d+9:=cy (f.G N e) b i wi
theorem vb{T:Tr}(h:¬ T.ok wi):T.ck wi ps=none:=by
 cases e:T.ck wi ps with
 |none=>rfl
 |some q=>exact absurd (T.ck_some e).1 h
theorem zk{T:Tr}(h:¬ T.pls.Nodup):T.ck wi []=none:=by
 cases e:T.ck wi [] with
 |none=>rfl
 |some q=>
  let⟨_,rfl,b,_⟩:=T.ck_some e;exact absurd (b xC7) h
end
section
variable{fw d lv:Nat}{S:So}{x:B8}{K:B7}
def hs1:A9:=["number","name","ask","tell","do","if","fn","call"]
def dc1:A0<|Key×U:=[(.inr "number",.str "n"),(.inr "name",.str "u"),(.inr "ask",.str ""),(.inr "tell",.str "E"),(.inr "do",.str "EE"),(.inr "if",.str "EEE")]
def dc2:A0<|Key×U:=[(.inr "let",.str "xEE"),(.inr "set",.str "uE"),(.inr "math",.str "oEE"),(.inr "make",.str "wS"),(.inr "match",.str "EwNEE"),(.inr "raise",.str "wE"),(.inr "try",.str "EwxE")]
def zJm{k:Str}(h:zA1 (.str k) (hs1.map .str)=true)(e:(match zBz (.inr k) dc1 with|some v=>v|none=>.str<|if k="call" then "ES" else "NE")=v)(hk:∀S',Kp S S'->K v S'):(Gd fw<|d+1).call 33 [.str k] S x K:=by
 refine cd ⟨1,3,t33⟩ ?_;refine pd (v:=.bl true) (S':=S) (by show obB (some<|zA1 (.str k)<|hs1.map .str) id S=_;rw[h];rfl) ?_;refine bT ?_;refine pd (v:=.ref S.length) (S':=S++[.dct dc1]) rfl ?_;have a:at? (S++[Ob.dct dc1]) S.length=some (.dct dc1):=zBm;have b:Kp S<|S++[Ob.dct dc1]:=Kp.app;generalize S++[Ob.dct dc1]=T at a b ⊢;refine pd (v:=.ref S.length) (S':=T) (by
  show(match tyU T (.ref S.length) with|some t=>(match t == "dict" with|true=>Res.ok (.ref S.length) T|false=>.stuck)|none=>.stuck)=_;unfold tyU;dsimp only;rw[a];rfl) ?_
 erw[pv (.lst [.str "NE",.str "ES"]),pd (v:=.bl<|decide<|k="call") (S':=T) rfl,pv (.int<|if decide (k="call") then 1 else 0),pd (v:=.str<|if k="call" then "ES" else "NE") (S':=T) (by by_cases g:k="call" <;> simp only[g,decide_true,decide_false,if_true,if_false] <;> rfl),<-pd (v:=v) (S':=T) ?_<|hk T b];delta pr;dsimp only[zEh];rw[a];dsimp only;rw[<- e];cases zBz (Sum.inr k) dc1 <;> rfl
def zJl{k:Str}(h:zA1 (.str k) (hs1.map .str)=false)(e:zBz (.inr k) dc2=some v)(hk:∀S',Kp S S'->K v S'):(Gd fw<|d+1).call 33 [.str k] S x K:=by
 erw[cd ⟨1,3,t33⟩,pd (v:=.bl false) (S':=S) (by show obB (some<|zA1 (.str k)<|hs1.map .str) id S=_;rw[h];rfl),bF,pd (v:=.ref S.length) (S':=S++[.dct dc2]) rfl];have b:at? (S++[Ob.dct dc2]) S.length=some (.dct dc2):=zBm;have a:Kp S<|S++[Ob.dct dc2]:=Kp.app;generalize S++[Ob.dct dc2]=T at b a⊢;refine pd (dN b ?_)<|hk T a;exact e
def Pg.hd:Pg->Str
 |.num ..=>"number" |.nam ..=>"name" |.fn ..=>"fn" |.call ..=>"call" |.lt ..=>"let" |.st ..=>"set" |.dd ..=>"do" |.iff ..=>"if" |.math ..=>"math" |.make ..=>"make" |.mat ..=>"match" |.rai ..=>"raise" |.try_ ..=>"try" |.tell ..=>"tell" |.ask ..=>"ask" |.bad ..=>""
def Pg.so:Pg->Str
 |.num ..=>"n" |.nam ..=>"u" |.fn ..=>"NE" |.call ..=>"ES" |.lt ..=>"xEE" |.st ..=>"uE" |.dd ..=>"EE" |.iff ..=>"EEE" |.math ..=>"oEE" |.make ..=>"wS" |.mat ..=>"EwNEE" |.rai ..=>"wE" |.try_ ..=>"EwxE" |.tell ..=>"E" |.ask ..=>"" |.bad ..=>""
def zAh:Pg->A8
 |.bad _=>false
 |_=>true
theorem jn{P:Pg}(b:zAh P=true)(a:∀S',Kp S S'->K (.str P.so) S'):(Gd fw<|d+1).call 33 [.str P.hd] S x K:=by
 cases P with
 |bad _=>cases b
 |num|nam|fn|call|dd|iff|tell|ask=>exact zJm (by kernel_rfl) (by kernel_rfl) a
 |lt|st|math|make|mat|rai|try_=>exact zJl (by kernel_rfl) (by kernel_rfl) a
def Pg.it:Pg->B0
 |.num pl n=>[.str "number",.int pl,.int n]
 |.nam pl x=>[.str "name",.int pl,.str x]
 |.fn pl xs b=>[.str "fn",.int pl,.tup<|xs.map .str,b.u]
 |.call pl f as=>[.str "call",.int pl,f.u,.tup<|Pg.us as]
 |.lt pl x a b=>[.str "let",.int pl,.str x,a.u,b.u]
 |.st pl x a=>[.str "set",.int pl,.str x,a.u]
 |.dd pl a b=>[.str "do",.int pl,a.u,b.u]
 |.iff pl a b c=>[.str "if",.int pl,a.u,b.u,c.u]
 |.math pl o a b=>[.str "math",.int pl,.str o,a.u,b.u]
 |.make pl t as=>[.str "make",.int pl,.str t,.tup<|Pg.us as]
 |.mat pl a t xs b c=>[.str "match",.int pl,a.u,.str t,.tup<|xs.map .str,b.u,c.u]
 |.rai pl w a=>[.str "raise",.int pl,.str w,a.u]
 |.try_ pl a w x b=>[.str "try",.int pl,a.u,.str w,.str x,b.u]
 |.tell pl a=>[.str "tell",.int pl,a.u]
 |.ask pl=>[.str "ask",.int pl]
 |.bad _=>[]
def oU{P:Pg}(h:zAh P=true):P.u=.tup P.it:=by cases P <;> first|rfl|cases h
def jQ{P:Pg}(h:zAh P=true):pr ups .ix [P.u,.int 0] S=.ok (.str P.hd) S:=by cases P <;> first|rfl|cases h
structure zEo(t:U)(j:Nat)(nn:A9):Prop where
 h:∀{fw d:Nat}{S:So}{x:B8}{K:B7},K (scU nn) S->(Gd fw (d+1)).call 34 [t,.int (j:Nat)] S x K
def xn{pl:U}{xs:A9}{b:U}{j:Nat}:zEo (.tup [.str "fn",pl,.tup<|xs.map .str,b]) j xs:=⟨λ{fw d S x K} a=>by
 refine cd ⟨2,2,t34⟩ ?_;refine pv (.str "fn") ?_;refine pd (cW rfl) ?_;refine bT ?_;refine pv (.tup<|xs.map .str) ?_;exact pv (scU xs) a⟩
local macro_rules | `(tactic| walk_at "n")=>`(tactic| repeat first | refine pd (cW rfl) ?_ | refine pd (cJ ∅) ?_ | refine bT ?_ | refine bF ?_ | refine pd (by rfl) ?_)
def xm{k:Str}{j:Nat}(B:k≠"fn")(t:k≠"let"\/j≠4)(q:k≠"match"\/j≠5)(p:k≠"try"\/j≠5):zEo (.tup<|.str k::r) j []:=⟨λ{fw d S x K} m=>by
 erw[cd ⟨2,2,t34⟩];have e:∀{w:Str}{n:Nat}{a b:B5}{E:Ee Prop},(k≠w\/j≠n)->b (Gd fw d) [some<|.tup<|.str k::r,some<|.int (j:Nat)] S E->sI (tAn (tB<|J0 .eq (J5 J2 Jk)<|J1 w)<|tB<|cP .eq<|zAv (cV 1)<|cC<|.int (n:Nat)) a b (Gd fw d) [some<|.tup<|.str k::r,some<|.int (j:Nat)] S E:=λ{w n a b E} o i=>by
  erw[pd gu];by_cases g:k=w
  .erw[pd (cW g),bT,pd (v:=.bl false) (S':=S) (by show Res.ok (.bl<|decide<|(j:Int)=n) S=_;rw[xCn (by have:=o.resolve_left λz=>z g;lia)]),<-bF i]
  .erw[pd (cJ g),<-bF (bF i)]
 refine pd gu ?_;refine pd (cJ B) ?_;refine bF ?_;refine e (n:=4) t ?_;refine e (n:=5) q ?_;refine e (n:=5) p ?_;exact pv (.lst []) m⟩
def tV{pl a b:U}:zEo (.tup [.str "let",pl,.str y,a,b]) 4 [y]:=⟨λ{fw d S x K} e=>by
 refine cd ⟨2,2,t34⟩ ?_;refine pv (.str "let") ?_;refine pd (cJ ∅) ?_;refine bF ?_;refine pv (.str "let") ?_;refine pd (cW rfl) ?_;refine bT ?_;refine pv (.bl true) ?_;refine bT ?_;refine pv (.str y) ?_;exact pv (scU [y]) e⟩
def tU{pl a t b c:U}{xs:A9}:zEo (.tup [.str "match",pl,a,t,.tup<|xs.map .str,b,c]) 5 xs:=⟨λ{fw d S x K} e=>by
 refine cd ⟨2,2,t34⟩ ?_;refine pv (.str "match") ?_;refine pd (cJ ∅) ?_;refine bF ?_;refine pv (.str "match") ?_;refine pd (cJ ∅) ?_;refine bF ?_;refine bF ?_;refine pv (.str "match") ?_;refine pd (cW rfl) ?_;refine bT ?_;refine pv (.bl true) ?_;refine bT ?_;refine pv (.tup<|xs.map .str) ?_;exact pv (scU xs) e⟩
def tT{pl a w b:U}:zEo (.tup [.str "try",pl,a,w,.str y,b]) 5 [y]:=⟨λ{fw d S x K} e=>by
 refine cd ⟨2,2,t34⟩ ?_;refine pv (.str "try") ?_;refine pd (cJ ∅) ?_;refine bF ?_;refine pv (.str "try") ?_;refine pd (cJ ∅) ?_;refine bF ?_;refine bF ?_;refine pv (.str "try") ?_;refine pd (cJ ∅) ?_;refine bF ?_;refine bF ?_;refine pv (.str "try") ?_;refine pd (cW rfl) ?_;refine bT ?_;refine pv (.bl true) ?_;refine bT ?_;refine pv (.str y) ?_;exact pv (scU [y]) e⟩
end
abbrev Spt:=B1×Pg×A9
def pre(k:B1)(l:A0 Spt):A0 Spt:=l.map λt=>(k++t.1,t.2)
mutual
def Pg.sps:Pg->A9->A0 Spt
 |.num pl n,sc=>[([],.num pl n,sc)]
 |.nam pl x,sc=>[([],.nam pl x,sc)]
 |.fn pl e b,sc=>([],.fn pl e b,sc)::pre [3] (b.sps<|sc++e)
 |.call pl f as,sc=>([],.call pl f as,sc)::(pre [2] (f.sps sc)++Pg.spss 0 as sc)
 |.lt pl x a b,sc=>([],.lt pl x a b,sc)::(pre [3] (a.sps sc)++pre [4] (b.sps<|sc++[x]))
 |.st pl x a,sc=>([],.st pl x a,sc)::pre [3] (a.sps sc)
 |.dd pl a b,sc=>([],.dd pl a b,sc)::(pre [2] (a.sps sc)++pre [3] (b.sps sc))
 |.iff pl a b c,sc=>([],.iff pl a b c,sc)::(pre [2] (a.sps sc)++(pre [3] (b.sps sc)++pre [4] (c.sps sc)))
 |.math pl o a b,sc=>([],.math pl o a b,sc)::(pre [3] (a.sps sc)++pre [4] (b.sps sc))
 |.make pl t as,sc=>([],.make pl t as,sc)::Pg.spss 0 as sc
 |.mat pl a t e b c,sc=>([],.mat pl a t e b c,sc)::(pre [2] (a.sps sc)++(pre [5] (b.sps<|sc++e)++pre [6] (c.sps sc)))
 |.rai pl w a,sc=>([],.rai pl w a,sc)::pre [3] (a.sps sc)
 |.try_ pl a w x b,sc=>([],.try_ pl a w x b,sc)::(pre [2] (a.sps sc)++pre [5] (b.sps<|sc++[x]))
 |.tell pl a,sc=>([],.tell pl a,sc)::pre [2] (a.sps sc)
 |.ask pl,sc=>[([],.ask pl,sc)]
 |.bad v,sc=>[([],.bad v,sc)]
def Pg.spss:Nat->A0 Pg->A9->A0 Spt
 |_,[],_=>[]
 |j,a::r,sc=>pre [3,j] (a.sps sc)++Pg.spss (j+1) r sc
end
def enc(ph:B1)(l:A0 Spt):B0:=l.map λt=>.tup [phU<|ph++t.1,t.2.1.u,scU t.2.2]
def cR{k:B1}:enc ph (pre k l)=enc (ph++k) l:=by
 unfold enc pre;rw[List.map_map];refine List.map_congr_left λt _=>?_;show U.tup [phU<|ph++(k++t.1),_,_]=_;rw[<- xAx]
def cS{r:A0 Spt}:enc ph (l++r)=enc ph l++enc ph r:=xAi
structure SpR(t:U)(sc:A9)(ph:B1)(out:B0)(lv:Nat):Prop where
 h:∀{fw d:Nat}{S:So}{x:B8}{K:B7},lv<=d->(∀S',Kp S S'->K (.lst out) S')->(Gd fw d).call 35 [t,scU sc,phU ph] S x K
structure Kq(q:Nat)(S S':So):Prop where
 len:S.length<=S'.length
 ky:∀{a:Nat}{o:Ob},a≠q->at? S a=some o->at? S' a=some o
variable{q q2:Nat}{S S1 S2 S':So}{fw d lv:Nat}{sc:A9}{ph:B1}{E:Ee Prop}{kk:Sg->So->Prop}
def Kq.trans(a:Kq q S S1)(b:Kq q S1 S2):Kq q S S2:=⟨xCk a.len b.len,λn z=>b.ky n<|a.ky n z⟩
inductive Fds(T:List U)(sc:List Str)(ph:List Nat)(lv:Nat):Nat->List Nat->List U->Prop
 |nil {k:Nat}:Fds T sc ph lv k [] []
 |skip {k c:Nat} {cs:List Nat} {m:List U} (h1:c≠69) (h2:c≠83) (i:Fds T sc ph lv (k+1) cs m):Fds T sc ph lv k (c::cs) m
 |part {k:Nat} {cs:List Nat} {t:U} {nn:List Str} {m1 m:List U} (ht:T[2+k]?=some t) (hn:zEo (.tup T) (2+k) nn) (hl:sc.length+nn.length<=1000) (hm:m1.length<=2000) (h:SpR t (sc++nn) (ph++[2+k]) m1 lv) (i:Fds T sc ph lv (k+1) cs m):Fds T sc ph lv k (69::cs) (m1++m)
 |row {k:Nat} {cs:List Nat} {ts:List U} {ms:List (List U)} {m:List U} (ht:T[2+k]?=some (.tup ts)) (h4:ts.length<=4) (hl:ms.length=ts.length) (h:∀j t o,ts[j]?=some t->ms[j]?=some o->o.length<=2000/\SpR t sc (ph++[2+k,j]) o lv) (i:Fds T sc ph lv (k+1) cs m):Fds T sc ph lv k (83::cs) (ms.flatten++m)
def dI{k:Nat}:pr ups (.add false) [.int 2,.int (k:Nat)] S=.ok (.int ((2+k:Nat):Int)) S:=by
 show Res.ok (.int<|(2:Int)+k) S=_;congr 2
def tj{n:Nat}(h:ph.length<=1000):pr ups (.add false) [phU ph,.lst [.int (n:Nat)]] S=.ok (phU<|ph++[n]) S:=by
 show fits ((ph.map λn=>U.int (n:Nat)).length+1) (.ok (.lst<|(ph.map λn=>U.int (n:Nat))++[.int (n:Nat)]) S)=_;rw[zA2<|by rw[xAa];show _<=2^24;lia];unfold phU;rw[xAi];rfl
def pU{n j:Nat}(h:ph.length<=1000):pr ups (.add false) [phU ph,.lst [.int (n:Nat),.int (j:Nat)]] S=.ok (phU<|ph++[n,j]) S:=by
 show fits ((ph.map λn=>U.int (n:Nat)).length+2) (.ok (.lst<|(ph.map λn=>U.int (n:Nat))++[.int (n:Nat),.int (j:Nat)]) S)=_;rw[zA2<|by rw[xAa];show _<=2^24;lia];unfold phU;rw[xAi];rfl
def lT{xs ys:B0}(h:at? S q=some (.lst xs))(a:xs.length+ys.length<=100000):pr ups .ext [.ref q,.lst ys] S=.ok .non (set S q<|.lst<|xs++ys):=by
 show zC0 q S _=_;unfold zC0;rw[h];exact zA2 (by show _<=2^24;lia)
def zH2:(⟨#[69]⟩:Str)="E":=by decide +kernel
def zH1:(⟨#[83]⟩:Str)="S":=by decide +kernel
def pA{c n:Nat}{w:Str}(e:(⟨#[n]⟩:Str)=w)(h:c≠n):(⟨#[c]⟩:Str)≠w:=λz=>h (by rw[<- e] at z;injection z with z;injection z with z;injection z)
def enN:Nat->B1->B0
 |_,[]=>[]
 |k,c::cs=>.tup [.int (k:Nat),.str ⟨#[c]⟩]::enN (k+1) cs
theorem vB:∀{cs:B1}{k:Nat},zDu (k:Nat) (cs.map λc=>.str ⟨#[c]⟩)=enN k cs
 |[],_=>rfl
 |c::cs,k=>by
  show U.tup [.int k,.str ⟨#[c]⟩]::zDu ((k:Int)+1) _=U.tup [.int (k:Nat),.str ⟨#[c]⟩]::enN (k+1) cs;rw[show((k:Int)+1)=((k+1:Nat):Int) by lia,vB]
theorem jq{T:B0}{lv k:Nat}{ts:B0}(B:lv<=d)(I:ph.length<=900)(O:T[2+k]?=some (.tup ts)):∀{n j:Nat}{ms:A0<|B0}{S:So}{found:B0}{H G:A3 U},j+n=ts.length->ms.length=n->(∀i t o,ts[j+i]?=some t->ms[i]?=some o->o.length<=2000/\SpR t sc (ph++[2+k,j+i]) o lv)->at? S q=some (.lst found)->found.length+2000*n<=100000 ->
  (∀S' a,Kq q S S'->at? S' q=some (.lst<|found++ms.flatten)->kk [some<|.tup T,some<|scU sc,some<|phU ph,some<|.ref q,some<|.int (k:Nat),H,a] S') ->
  zB3 (zBi (j:Nat) n) (λw σ1 S2 nx=>tgt [6] true (Gd fw d) w σ1 λσ2=>zGw (Gd fw d) σ2 S2<|lpE E nx) [some<|.tup T,some<|scU sc,some<|phU ph,some<|.ref q,some<|.int (k:Nat),H,G] S kk
 |0,j,ms,S,found,H,G,_,p,_,F,_,M=>by
  cases List.length_eq_zero_iff.mp p;exact M S G ⟨xAg _,λ_ z=>z⟩ (by rw[List.flatten_nil,xB0];exact F)
 |n+1,j,ms,S,found,H,G,W,p,h,F,X,M=>by
  match ms,p with
  |m::ms,p=>
  have C:j<ts.length:=()
  let⟨P,sp⟩:=h 0 ts[j] m (by rw[Nat.add_zero];exact xAk C) rfl;erw[pd (eW F),pd dI,pd (ff O),pd (ff<|xAk C),pd dI,pv (.lst [.int ((2+k:Nat):Int),.int (j:Nat)]),pd (pU ()),<-sp.h B λS1 k1=>?_];have b:=k1.ky F;erw[pd (lT b ()),<-jq B I O (n:=n) (j:=j+1) (ms:=ms) () (by simpa using p) (λi t o R Q=>?_) (zAc b) (by rw[xAb];lia) λS' a N e=>?_]
  .have:=h (i+1) t o (by rw[show j+(i+1)=j+1+i by lia];exact R) Q;rw[show j+1+i=j+(i+1) by lia];exact this
  .erw[M S' a ⟨xCk k1.len (by have:=N.len;rw[zA8] at this;exact this),λn z=>N.ky n<|atN (Ne.symm n)<|k1.ky z⟩];rw[xAx] at e;exact e
theorem xP{T:B0}(hlv:lv+1<=d)(P:ph.length<=900):∀{k:Nat}{cs:B1}{m:B0},Fds T sc ph lv k cs m->∀{S:So}{found:B0}{p e b:A3 U},at? S q=some (.lst found)->found.length+8000*cs.length<=80000->sc.length<=1000 ->
  (∀S' p e b,Kq q S S'->at? S' q=some (.lst<|found++m)->kk [some<|.tup T,some<|scU sc,some<|phU ph,some<|.ref q,p,e,b] S') ->
  zB3 (enN k cs) (λw σ1 S2 nx=>tgt [4,5] false (Gd fw d) w σ1 λσ2=>zI0 (Gd fw d) σ2 S2<|lpE E nx) [some<|.tup T,some<|scU sc,some<|phU ph,some<|.ref q,p,e,b] S kk:=by
 obtain⟨d,rfl⟩:∃d',d=d'+1:=⟨d-1,()⟩
 intro k cs m hF;induction hF with
 |nil=>
  intro S found p e b F _ _ H;exact H S p e b ⟨xAg _,λ_ z=>z⟩ (by rw[xB0];exact F)
 |@skip k c cs m h1 h2 i G=>
  intro S found p e b F M I H;rw[xAo] at M;erw[pd (cJ<|pA zH2 h1),bF,pd (cJ<|pA zH1 h2),bF,<-G F () I H]
 |@part k cs t nn m1 m O Z R hm h i G=>
  intro S found p e b F M I H;rw[xAo] at M;erw[pd (cW zH2),bT,pd (eW F),pd dI,pd (ff O),pd dI,Z.h,pd (dC R),pd dI,pv (.lst [.int ((2+k:Nat):Int)]),pd (tj ()),<-h.h () λS1 k1=>?_];have C:=k1.ky F;erw[pd (lT C ()),pd (cJ<|by decide +kernel),bF,<-G (zAc C) (by rw[xAb];lia) I λS' p e b N B=>?_,H S' p e b ⟨xCk k1.len (by have:=N.len;rw[zA8] at this;exact this),λn z=>N.ky n<|atN (Ne.symm n)<|k1.ky z⟩];rw[xAx] at B;exact B
 |@row k cs W ms m O h4 R h i G=>
  intro S found p e b F M I H;rw[xAo] at M;erw[pd (cJ<|by decide +kernel),bF,pd (cW zH1),bT,pd dI,pd (ff O),pv (.int W.length),pd (gr ())];rw[xC3];have hfl:ms.flatten.length<=8000:=by
   have:∀{l:A0<|B0},(∀o∈l,o.length<=2000)->l.flatten.length<=2000*l.length:=λ{l} X=>by
    induction l with
    |nil=>simp
    |cons a r G=>rw[List.flatten_cons,xAb,xAo];have:=X a<|xAr ..;have:=G λo Q=>X o<|xAs _ Q;lia
   have:=this (l:=ms) λo Q=>by
    let⟨j,hj,rfl⟩:=List.mem_iff_getElem.mp Q;exact(h j _ _ (xAk ())<|xAk hj).1
   lia
  erw[<-jq (d:=d+1) (lv:=lv) () P O (n:=W.length) (j:=0) (ms:=ms) () R (λi t o Y e2=>by rw[Nat.zero_add] at Y⊢;exact h i t o Y e2) F () λS1 a k1 C=>?_,<-G C (by rw[xAb];lia) I λS' p e b N B=>?_,H S' p e b (k1.trans N)];rw[xAx] at B;exact B
section
variable{q:Nat}{S S1 S2 S':So}{fw d lv:Nat}{sc:A9}{ph:B1}{P:Pg}
def lS{xs:B0}(h:at? S q=some (.lst xs)):pr ups .frz [.ref q] S=.ok (.lst xs) (set S q .dead):=by
 show zC0 q S _=_;unfold zC0;rw[h]
def SpR.to{t:U}{b a:B0}(h:SpR t sc ph b lv)(e:b=a):SpR t sc ph a lv:=e▸h
def cL{m:B0}(p:zAh P=true)(n:P.so.cps.toList=cs)(M:cs.length<=5)(k:ph.length<=900)(F:sc.length<=1000)(H:Fds P.it sc ph lv 0 cs m):SpR P.u sc ph (.tup [phU ph,P.u,scU sc]::m)<|lv+2:=⟨λ{fw d S x K} hd G=>by
 obtain⟨d,rfl⟩:∃I,d=I+2:=⟨d-2,()⟩
 refine cd ⟨3,7,t35⟩ ?_;refine pd (v:=.ref S.length) (S':=S++[.lst [.tup [phU ph,P.u,scU sc]]]) rfl ?_;have B:at? (S++[Ob.lst [.tup [phU ph,P.u,scU sc]]]) S.length=some (.lst [.tup [phU ph,P.u,scU sc]]):=zBm;have kp:Kp S<|S++[Ob.lst [.tup [phU ph,P.u,scU sc]]]:=Kp.app;generalize S++[Ob.lst [.tup [phU ph,P.u,scU sc]]]=T at B kp ⊢;refine pd (jQ p) ?_;refine jn p λS1 k1=>?_;refine pd (v:=.tup<|enN 0 cs) (S':=S1) (by
  show Res.ok (.tup<|zDu 0<|P.so.cps.toList.map λc=>.str ⟨#[c]⟩) S1=_;rw[n,show(0:Int)=((0:Nat):Int) from rfl,vB]) ?_
 have C:=oU p;have go:∀{v:U},v=.tup P.it->zB3 (enN 0 cs) (λw σ1 S2 nx=>tgt [4,5] false (Gd fw<|d+1) w σ1 λσ2=>zI0 (Gd fw<|d+1) σ2 S2<|lpE (zAn x K) nx) [some v,some<|scU sc,some<|phU ph,some<|.ref S.length,none,none,none] S1 (λσ1 S1=>(J6<|J4 .frz Jb) (Gd fw<|d+1) σ1 S1<|zAn x K):=λ{v} e=>by
  subst e;erw[<-xP (lv:=lv) () k H (k1.ky B) (by simp;lia) F λS' Q O N t i=>?_,pd (lS i),<-G _ ⟨xCk kp.len (xCk k1.len<|by rw[zA8];exact t.len),λ{a o} z=>?_⟩];have b:a≠S.length:=by have:=zD5 z;lia
  exact atN (Ne.symm b) (t.ky b<|k1.ky<|kp.ky z)
 exact go C⟩
def cE{X:A0 Spt}:enc ph (([],P,sc)::X)=.tup [phU ph,P.u,scU sc]::enc ph X:=by
 show U.tup [phU<|ph++[],P.u,scU sc]::_=_;rw[xB0];rfl
def cu:(enc ph l).length=l.length:=xAa ..
def cg{k:B1}:(pre k l).length=l.length:=xAa ..
def msR(ph:B1)(sc:A9):Nat->A0 Pg->A0 (B0)
 |_,[]=>[]
 |j,a::r=>enc (ph++[3,j]) (a.sps sc)::msR ph sc (j+1) r
theorem my:∀{as:A0 Pg}{j:Nat},(msR ph sc j as).length=as.length
 |[],_=>rfl
 |_::r,j=>congrArg (·+1)<|my (as:=r)
theorem jH:∀{as:A0 Pg}{j:Nat},(msR ph sc j as).flatten=enc ph (Pg.spss j as sc)
 |[],_=>rfl
 |a::r,j=>by
  show enc (ph++[3,j]) (a.sps sc)++(msR ph sc (j+1) r).flatten=enc ph (pre [3,j] (a.sps sc)++Pg.spss (j+1) r sc);rw[jH,cS,cR]
theorem mz:∀{as:A0 Pg}{j i:Nat}{t:U}{o:B0},(Pg.us as)[i]?=some t->(msR ph sc j as)[i]?=some o->∃a∈as,t=a.u/\o=enc (ph++[3,j+i]) (a.sps sc)
 |[],_,_,_,_,h,_=>by cases h
 |a::r,j,0,t,o,k,e=>by
  cases k;cases e;exact⟨a,xAr ..,rfl,rfl⟩
 |a::r,j,i+1,t,o,k,e=>by
  let⟨b,m,p,n⟩:=mz (as:=r) (j:=j+1) (i:=i) k e;exact⟨b,xAs _ m,p,by rw[n,show j+1+i=j+(i+1) by lia]⟩
theorem fC:∀{as:A0 Pg}{j:Nat}{a:Pg},a∈as->(a.sps sc).length<=(Pg.spss j as sc).length
 |b::r,j,a,h=>by
  show _<=(pre [3,j] (b.sps sc)++Pg.spss (j+1) r sc).length;rw[xAb,cg];rcases xAv.mp h with rfl|h
  .lia
  .have:=fC (j:=j+1) h;lia
def lM{T:B0}{m:B0}(e:T[3]?=some (.tup<|Pg.us as))(k:as.length<=4)(w:(Pg.spss 0 as sc).length<=2000)(h:∀a∈as,∀j,(a.sps sc).length<=2000->SpR a.u sc (ph++[3,j]) (enc (ph++[3,j])<|a.sps sc) lv)(i:Fds T sc ph lv 2 cs m):Fds T sc ph lv 1 (83::cs)<|enc ph (Pg.spss 0 as sc)++m:=by
 rw[<- jH];refine .row e (by rw[dL];exact k) (by rw[my,dL]) (λj t o p n=>?_) i;let⟨a,b,rfl,rfl⟩:=mz p n;have:=fC (sc:=sc) (j:=0) b;rw[cu,Nat.zero_add];exact⟨(),h a b j ()⟩
def jM{a b:Nat}:(ph++[a,b]).length=ph.length+2:=⋯
set_option tactic.hygienic true
theorem pe(h:Wf (zAf ·=true) sc d P):∀{ph:B1},sc.length+5*d<=1000->ph.length+2*d<=900->(P.sps sc).length<=2000->SpR P.u sc ph (enc ph<|P.sps sc) (2*d+3):=by
 have nn:∀{k:Str}{r:B0}{j:Nat},k≠"fn"->(k≠"let"\/j≠4)->(k≠"match"\/j≠5)->(k≠"try"\/j≠5)->zEo (.tup<|.str k::r) j []:=λa b c d=>xm a b c d;induction h with
 |@num sc d pl n a b=>
  intro ph C B i;refine⟨λ{fw X S xx K} hd M=>(cL (P:=.num pl n) (lv:=1) (cs:=[110]) rfl (by kernel_rfl) ⋯ () ()<|.skip ∅ ∅ .nil).h () λS' k=>?_⟩;have:=M S' k;rw[show enc ph ((Pg.num pl n).sps sc)=_ from cE] at this;exact this
 |@nam sc d pl x h=>
  intro ph C B i;refine⟨λ{fw X S xx K} hd M=>(cL (P:=.nam pl x) (lv:=1) (cs:=[117]) rfl (by kernel_rfl) ⋯ () ()<|.skip ∅ ∅ .nil).h () λS' k=>?_⟩;have:=M S' k;rw[show enc ph ((Pg.nam pl x).sps sc)=_ from cE] at this;exact this
 |@fn sc p d pl b h i O=>
  intro ph C B i;have m:=i;have m:(b.sps<|sc++p).length<=2000:=by
   have:((Pg.fn pl p b).sps sc).length=1+((b.sps<|sc++p).length):=by change List.length (_::_)=_;simp only[xAo,xAb,cg];lia
   lia
  have G:=h;exact((cL (P:=.fn pl p b) (lv:=2*d+3) (cs:=[78,69]) rfl (by kernel_rfl) ⋯ () ()<|.skip ∅ ∅<|.part (nn:=p) (m1:=enc (ph++[3])<|b.sps<|sc++p) rfl xn (by have:=G.few;lia) (by rw[cu];lia) (O (ph:=ph++[3]) (by rw[xAb];have:=G.few;lia) (by rw[zBd];lia) ())<|.nil).to<|by rw[show enc ph ((Pg.fn pl p b).sps sc)=_ from cE];simp only[cS,cR,xB0])
 |@lt sc d pl x a b H F i i1 i2=>
  intro ph C B i;have m:=i;have m:(a.sps<|sc).length+(b.sps<|sc++[x]).length<=2000:=by
   have:((Pg.lt pl x a b).sps sc).length=1+((a.sps<|sc).length+(b.sps<|sc++[x]).length):=by change List.length (_::_)=_;simp only[xAo,xAb,cg];lia
   lia
  exact((cL (P:=.lt pl x a b) (lv:=2*d+3) (cs:=[120,69,69]) rfl (by kernel_rfl) ⋯ () ()<|.skip ∅ ∅<|.part (nn:=[]) (m1:=enc (ph++[3])<|a.sps<|sc) rfl (nn ∅ ∅ ∅ ∅) (by simp;lia) (by rw[cu];lia) (by rw[xB0];exact(i1 (ph:=ph++[3]) () (by rw[zBd];lia) ()))<|.part (nn:=[x]) (m1:=enc (ph++[4])<|b.sps<|sc++[x]) rfl tV (by simp;lia) (by rw[cu];lia) (i2 (ph:=ph++[4]) (by rw[zBd];lia) (by rw[zBd];lia) ())<|.nil).to<|by rw[show enc ph ((Pg.lt pl x a b).sps sc)=_ from cE];simp only[cS,cR,xB0])
 |@st sc d pl x a H F i1=>
  intro ph C B i;have m:=i;have m:(a.sps<|sc).length<=2000:=by
   have:((Pg.st pl x a).sps sc).length=1+((a.sps<|sc).length):=by change List.length (_::_)=_;simp only[xAo,xAb,cg];lia
   lia
  exact((cL (P:=.st pl x a) (lv:=2*d+3) (cs:=[117,69]) rfl (by kernel_rfl) ⋯ () ()<|.skip ∅ ∅<|.part (nn:=[]) (m1:=enc (ph++[3])<|a.sps<|sc) rfl (nn ∅ ∅ ∅ ∅) (by simp;lia) (by rw[cu];lia) (by rw[xB0];exact(i1 (ph:=ph++[3]) () (by rw[zBd];lia) ()))<|.nil).to<|by rw[show enc ph ((Pg.st pl x a).sps sc)=_ from cE];simp only[cS,cR,xB0])
 |@dd sc d pl a b F i i1 i2=>
  intro ph C B i;have m:=i;have m:(a.sps<|sc).length+(b.sps<|sc).length<=2000:=by
   have:((Pg.dd pl a b).sps sc).length=1+((a.sps<|sc).length+(b.sps<|sc).length):=by change List.length (_::_)=_;simp only[xAo,xAb,cg];lia
   lia
  exact((cL (P:=.dd pl a b) (lv:=2*d+3) (cs:=[69,69]) rfl (by kernel_rfl) ⋯ () ()<|.part (nn:=[]) (m1:=enc (ph++[2])<|a.sps<|sc) rfl (nn ∅ ∅ ∅ ∅) (by simp;lia) (by rw[cu];lia) (by rw[xB0];exact(i1 (ph:=ph++[2]) () (by rw[zBd];lia) ()))<|.part (nn:=[]) (m1:=enc (ph++[3])<|b.sps<|sc) rfl (nn ∅ ∅ ∅ ∅) (by simp;lia) (by rw[cu];lia) (by rw[xB0];exact(i2 (ph:=ph++[3]) () (by rw[zBd];lia) ()))<|.nil).to<|by rw[show enc ph ((Pg.dd pl a b).sps sc)=_ from cE];simp only[cS,cR,xB0])
 |@iff sc d pl a b c F i W i1 i2 I=>
  intro ph C B i;have m:=i;have m:(a.sps<|sc).length+(b.sps<|sc).length+(c.sps<|sc).length<=2000:=by
   have:((Pg.iff pl a b c).sps sc).length=1+((a.sps<|sc).length+(b.sps<|sc).length+(c.sps<|sc).length):=by change List.length (_::_)=_;simp only[xAo,xAb,cg];lia
   lia
  exact((cL (P:=.iff pl a b c) (lv:=2*d+3) (cs:=[69,69,69]) rfl (by kernel_rfl) ⋯ () ()<|.part (nn:=[]) (m1:=enc (ph++[2])<|a.sps<|sc) rfl (nn ∅ ∅ ∅ ∅) (by simp;lia) (by rw[cu];lia) (by rw[xB0];exact(i1 (ph:=ph++[2]) () (by rw[zBd];lia) ()))<|.part (nn:=[]) (m1:=enc (ph++[3])<|b.sps<|sc) rfl (nn ∅ ∅ ∅ ∅) (by simp;lia) (by rw[cu];lia) (by rw[xB0];exact(i2 (ph:=ph++[3]) () (by rw[zBd];lia) ()))<|.part (nn:=[]) (m1:=enc (ph++[4])<|c.sps<|sc) rfl (nn ∅ ∅ ∅ ∅) (by simp;lia) (by rw[cu];lia) (by rw[xB0];exact(I (ph:=ph++[4]) () (by rw[zBd];lia) ()))<|.nil).to<|by rw[show enc ph ((Pg.iff pl a b c).sps sc)=_ from cE];simp only[cS,cR,xB0])
 |@math sc d pl o a b Y F i i1 i2=>
  intro ph C B i;have m:=i;have m:(a.sps<|sc).length+(b.sps<|sc).length<=2000:=by
   have:((Pg.math pl o a b).sps sc).length=1+((a.sps<|sc).length+(b.sps<|sc).length):=by change List.length (_::_)=_;simp only[xAo,xAb,cg];lia
   lia
  exact((cL (P:=.math pl o a b) (lv:=2*d+3) (cs:=[111,69,69]) rfl (by kernel_rfl) ⋯ () ()<|.skip ∅ ∅<|.part (nn:=[]) (m1:=enc (ph++[3])<|a.sps<|sc) rfl (nn ∅ ∅ ∅ ∅) (by simp;lia) (by rw[cu];lia) (by rw[xB0];exact(i1 (ph:=ph++[3]) () (by rw[zBd];lia) ()))<|.part (nn:=[]) (m1:=enc (ph++[4])<|b.sps<|sc) rfl (nn ∅ ∅ ∅ ∅) (by simp;lia) (by rw[cu];lia) (by rw[xB0];exact(i2 (ph:=ph++[4]) () (by rw[zBd];lia) ()))<|.nil).to<|by rw[show enc ph ((Pg.math pl o a b).sps sc)=_ from cE];simp only[cS,cR,xB0])
 |@mat sc p d pl t a b c R H F i W i1 i2 I=>
  intro ph C B i;have m:=i;have m:(a.sps<|sc).length+(b.sps<|sc++p).length+(c.sps<|sc).length<=2000:=by
   have:((Pg.mat pl a t p b c).sps sc).length=1+((a.sps<|sc).length+(b.sps<|sc++p).length+(c.sps<|sc).length):=by change List.length (_::_)=_;simp only[xAo,xAb,cg];lia
   lia
  have G:=H;exact((cL (P:=.mat pl a t p b c) (lv:=2*d+3) (cs:=[69,119,78,69,69]) rfl (by kernel_rfl) ⋯ () ()<|.part (nn:=[]) (m1:=enc (ph++[2])<|a.sps<|sc) rfl (nn ∅ ∅ ∅ ∅) (by simp;lia) (by rw[cu];lia) (by rw[xB0];exact(i1 (ph:=ph++[2]) () (by rw[zBd];lia) ()))<|.skip ∅ ∅<|.skip ∅ ∅<|.part (nn:=p) (m1:=enc (ph++[5])<|b.sps<|sc++p) rfl tU (by have:=G.few;lia) (by rw[cu];lia) (i2 (ph:=ph++[5]) (by rw[xAb];have:=G.few;lia) (by rw[zBd];lia) ())<|.part (nn:=[]) (m1:=enc (ph++[6])<|c.sps<|sc) rfl (nn ∅ ∅ ∅ ∅) (by simp;lia) (by rw[cu];lia) (by rw[xB0];exact(I (ph:=ph++[6]) () (by rw[zBd];lia) ()))<|.nil).to<|by rw[show enc ph ((Pg.mat pl a t p b c).sps sc)=_ from cE];simp only[cS,cR,xB0])
 |@rai sc d pl w a Q F i1=>
  intro ph C B i;have m:=i;have m:(a.sps<|sc).length<=2000:=by
   have:((Pg.rai pl w a).sps sc).length=1+((a.sps<|sc).length):=by change List.length (_::_)=_;simp only[xAo,xAb,cg];lia
   lia
  exact((cL (P:=.rai pl w a) (lv:=2*d+3) (cs:=[119,69]) rfl (by kernel_rfl) ⋯ () ()<|.skip ∅ ∅<|.part (nn:=[]) (m1:=enc (ph++[3])<|a.sps<|sc) rfl (nn ∅ ∅ ∅ ∅) (by simp;lia) (by rw[cu];lia) (by rw[xB0];exact(i1 (ph:=ph++[3]) () (by rw[zBd];lia) ()))<|.nil).to<|by rw[show enc ph ((Pg.rai pl w a).sps sc)=_ from cE];simp only[cS,cR,xB0])
 |@try_ sc d pl w x a b Q H F i i1 i2=>
  intro ph C B i;have m:=i;have m:(a.sps<|sc).length+(b.sps<|sc++[x]).length<=2000:=by
   have:((Pg.try_ pl a w x b).sps sc).length=1+((a.sps<|sc).length+(b.sps<|sc++[x]).length):=by change List.length (_::_)=_;simp only[xAo,xAb,cg];lia
   lia
  exact((cL (P:=.try_ pl a w x b) (lv:=2*d+3) (cs:=[69,119,120,69]) rfl (by kernel_rfl) ⋯ () ()<|.part (nn:=[]) (m1:=enc (ph++[2])<|a.sps<|sc) rfl (nn ∅ ∅ ∅ ∅) (by simp;lia) (by rw[cu];lia) (by rw[xB0];exact(i1 (ph:=ph++[2]) () (by rw[zBd];lia) ()))<|.skip ∅ ∅<|.skip ∅ ∅<|.part (nn:=[x]) (m1:=enc (ph++[5])<|b.sps<|sc++[x]) rfl tT (by simp;lia) (by rw[cu];lia) (i2 (ph:=ph++[5]) (by rw[zBd];lia) (by rw[zBd];lia) ())<|.nil).to<|by rw[show enc ph ((Pg.try_ pl a w x b).sps sc)=_ from cE];simp only[cS,cR,xB0])
 |@tell sc d pl a F i1=>
  intro ph C B i;have m:=i;have m:(a.sps<|sc).length<=2000:=by
   have:((Pg.tell pl a).sps sc).length=1+((a.sps<|sc).length):=by change List.length (_::_)=_;simp only[xAo,xAb,cg];lia
   lia
  exact((cL (P:=.tell pl a) (lv:=2*d+3) (cs:=[69]) rfl (by kernel_rfl) ⋯ () ()<|.part (nn:=[]) (m1:=enc (ph++[2])<|a.sps<|sc) rfl (nn ∅ ∅ ∅ ∅) (by simp;lia) (by rw[cu];lia) (by rw[xB0];exact(i1 (ph:=ph++[2]) () (by rw[zBd];lia) ()))<|.nil).to<|by rw[show enc ph ((Pg.tell pl a).sps sc)=_ from cE];simp only[cS,cR,xB0])
 |@ask sc d pl  =>
  intro ph C B i;exact((cL (P:=.ask pl) (lv:=2*d+3) (cs:=[]) rfl (by kernel_rfl) ⋯ () () .nil).to<|by rw[show enc ph ((Pg.ask pl).sps sc)=_ from cE];rfl)
 |@call sc d pl f as Z h N i1 i2=>
  intro ph C B i;have m:(f.sps sc).length+(Pg.spss 0 as sc).length<=2000:=by
   have:((Pg.call pl f as).sps sc).length=1+((f.sps sc).length+(Pg.spss 0 as sc).length):=by change List.length (_::_)=_;simp only[xAo,xAb,cg];lia
   lia
  exact((cL (P:=.call pl f as) (lv:=2*d+3) (cs:=[69,83]) rfl (by kernel_rfl) ⋯ () ()<|.part (nn:=[]) (m1:=enc (ph++[2])<|f.sps sc) rfl (nn ∅ ∅ ∅ ∅) (by simp;lia) (by rw[cu];lia) (by rw[xB0];exact i1 (ph:=ph++[2]) () (by rw[zBd];lia) ())<|lM rfl N () (λa F j e=>i2 a F () (by rw[jM];lia) e) .nil).to<|by rw[show enc ph ((Pg.call pl f as).sps sc)=_ from cE];simp only[cS,cR,xB0])
 |@make sc d pl t as R h N i2=>
  intro ph C B i;have m:(Pg.spss 0 as sc).length<=2000:=by
   have:((Pg.make pl t as).sps sc).length=1+(Pg.spss 0 as sc).length:=by change List.length (_::_)=_;simp only[xAo];lia
   lia
  exact((cL (P:=.make pl t as) (lv:=2*d+3) (cs:=[119,83]) rfl (by kernel_rfl) ⋯ () ()<|.skip ∅ ∅<|lM rfl N () (λa F j e=>i2 a F () (by rw[jM];lia) e) .nil).to<|by rw[show enc ph ((Pg.make pl t as).sps sc)=_ from cE];simp only[xB0])
set_option tactic.hygienic false
def cx{k:B1}{t:Spt}(h:t∈pre k l):∃u∈l,t=(k++u.1,u.2):=by
 let⟨u,a,e⟩:=xA2.mp h;exact⟨u,a,e.symm⟩
theorem gy{t:Spt}:∀{as:A0 Pg}{j:Nat},t∈Pg.spss j as sc->∃l a r,as=l++a::r/\∃u∈a.sps sc,t=(3::(j+l.length)::u.1,u.2)
 |[],_,h=>by cases h
 |a::r,j,h=>by
  have h:t∈pre [3,j] (a.sps sc)++Pg.spss (j+1) r sc:=h;rcases xAj.mp h with h|h
  .let⟨u,i,e⟩:=cx h;exact⟨[],a,r,rfl,u,i,e⟩
  .let⟨l,b,k,e,u,i,m⟩:=gy h;exact⟨a::l,b,k,by rw[e];rfl,u,i,by rw[m,xAo,show j+1+l.length=j+(l.length+1) by lia]⟩
theorem kj{N:Str->Prop}(h:Wf N sc d P):∀{t:Spt},t∈P.sps sc->∃F,Sp P sc t.1 t.2.1 t.2.2 F:=by
 have one:∀{P:Pg}{sc:A9}{t:Spt}{X:A0 Spt},t∈([],P,sc)::X->(∃F,Sp P sc t.1 t.2.1 t.2.2 F)\/t∈X:=λ{P sc t X} h=>by
  rcases xAv.mp h with rfl|h
  .exact .inl ⟨id,.here⟩
  .exact .inr h
 induction h with
 |@num sc d pl n a b=>
  intro t e;rcases one e with z|z
  .exact z
  .cases z
 |@nam sc d pl x h=>
  intro t e;rcases one e with z|z
  .exact z
  .cases z
 |@fn sc G d pl b h m H=>
  intro t e;rcases one e with z|z
  .exact z
  .let⟨u,i,rfl⟩:=cx z;let⟨F,h⟩:=H i;exact⟨_,.fn h⟩
 |@lt sc d pl x a b B k m i1 i2=>
  intro t e;rcases one e with z|z
  .exact z
  .rcases xAj.mp z with z|z
   .let⟨u,i,rfl⟩:=cx z;let⟨F,h⟩:=i1 i;exact⟨_,.lt1 h⟩
   .let⟨u,i,rfl⟩:=cx z;let⟨F,h⟩:=i2 i;exact⟨_,.lt2 h⟩
 |@st sc d pl x a B k i1=>
  intro t e;rcases one e with z|z
  .exact z
  .let⟨u,i,rfl⟩:=cx z;let⟨F,h⟩:=i1 i;exact⟨_,.st h⟩
 |@dd sc d pl a b k m i1 i2=>
  intro t e;rcases one e with z|z
  .exact z
  .rcases xAj.mp z with z|z
   .let⟨u,i,rfl⟩:=cx z;let⟨F,h⟩:=i1 i;exact⟨_,.dd1 h⟩
   .let⟨u,i,rfl⟩:=cx z;let⟨F,h⟩:=i2 i;exact⟨_,.dd2 h⟩
 |@iff sc d pl a b c k m I i1 i2 p=>
  intro t e;rcases one e with z|z
  .exact z
  .rcases xAj.mp z with z|z
   .let⟨u,i,rfl⟩:=cx z;let⟨F,h⟩:=i1 i;exact⟨_,.if1 h⟩
   .rcases xAj.mp z with z|z
    .let⟨u,i,rfl⟩:=cx z;let⟨F,h⟩:=i2 i;exact⟨_,.if2 h⟩
    .let⟨u,i,rfl⟩:=cx z;let⟨F,h⟩:=p i;exact⟨_,.if3 h⟩
 |@math sc d pl o a b Q k m i1 i2=>
  intro t e;rcases one e with z|z
  .exact z
  .rcases xAj.mp z with z|z
   .let⟨u,i,rfl⟩:=cx z;let⟨F,h⟩:=i1 i;exact⟨_,.math1 h⟩
   .let⟨u,i,rfl⟩:=cx z;let⟨F,h⟩:=i2 i;exact⟨_,.math2 h⟩
 |@mat sc G d pl t a b c O B k m I i1 i2 p=>
  intro t e;rcases one e with z|z
  .exact z
  .rcases xAj.mp z with z|z
   .let⟨u,i,rfl⟩:=cx z;let⟨F,h⟩:=i1 i;exact⟨_,.mat1 h⟩
   .rcases xAj.mp z with z|z
    .let⟨u,i,rfl⟩:=cx z;let⟨F,h⟩:=i2 i;exact⟨_,.mat2 h⟩
    .let⟨u,i,rfl⟩:=cx z;let⟨F,h⟩:=p i;exact⟨_,.mat3 h⟩
 |@rai sc d pl w a C k i1=>
  intro t e;rcases one e with z|z
  .exact z
  .let⟨u,i,rfl⟩:=cx z;let⟨F,h⟩:=i1 i;exact⟨_,.rai h⟩
 |@try_ sc d pl w x a b C B k m i1 i2=>
  intro t e;rcases one e with z|z
  .exact z
  .rcases xAj.mp z with z|z
   .let⟨u,i,rfl⟩:=cx z;let⟨F,h⟩:=i1 i;exact⟨_,.try1 h⟩
   .let⟨u,i,rfl⟩:=cx z;let⟨F,h⟩:=i2 i;exact⟨_,.try2 h⟩
 |@tell sc d pl a k i1=>
  intro t e;rcases one e with z|z
  .exact z
  .let⟨u,i,rfl⟩:=cx z;let⟨F,h⟩:=i1 i;exact⟨_,.tell h⟩
 |@ask sc d pl  =>
  intro t e;rcases one e with z|z
  .exact z
  .cases z
 |@call sc d pl f as R h M i1 i2=>
  intro t e;rcases one e with z|z
  .exact z
  .rcases xAj.mp z with z|z
   .let⟨u,i,rfl⟩:=cx z;let⟨F,h⟩:=i1 i;exact⟨_,.call h⟩
   .let⟨l,a,r,rfl,u,i,rfl⟩:=gy z;let⟨F,h⟩:=i2 a ⋯ i;rw[Nat.zero_add];exact⟨_,.arg h⟩
 |@make sc d pl w as C h M i2=>
  intro t e;rcases one e with z|z
  .exact z
  .let⟨l,a,r,rfl,u,i,rfl⟩:=gy z;let⟨F,h⟩:=i2 a ⋯ i;rw[Nat.zero_add];exact⟨_,.make h⟩
theorem iq{N:Str->Prop}(h:Wf N sc d P):(P.sps sc).length=P.pls.length:=by
 have e:∀{as:A0 Pg}{sc:A9}{j:Nat},(∀a∈as,(a.sps sc).length=a.pls.length)->(Pg.spss j as sc).length=(Pg.plss as).length:=λ{as sc}=>by
  induction as with
  |nil=>intro j _;rfl
  |cons a r k=>
   intro j h;show(pre [3,j] (a.sps sc)++Pg.spss (j+1) r sc).length=(a.pls++Pg.plss r).length;rw[xAb,xAb,cg,h a<|xAr ..,k λb m=>h b<|xAs _ m]
 induction h with
 |num|nam|ask=>rfl
 |fn _ _ i1=>change List.length (_::_)=List.length (_::_);simp only[xAo,xAb,cg,i1]
 |call _ _ _ i1 i2=>change List.length (_::_)=List.length (_::_);simp only[xAo,xAb,cg,i1,e i2]
 |lt _ _ _ i1 i2=>change List.length (_::_)=List.length (_::_);simp only[xAo,xAb,cg,i1,i2]
 |st _ _ i1=>change List.length (_::_)=List.length (_::_);simp only[xAo,xAb,cg,i1]
 |dd _ _ i1 i2=>change List.length (_::_)=List.length (_::_);simp only[xAo,xAb,cg,i1,i2]
 |iff _ _ _ i1 i2 i=>change List.length (_::_)=List.length (_::_);simp only[xAo,xAb,cg,i1,i2,i]
 |math _ _ _ i1 i2=>change List.length (_::_)=List.length (_::_);simp only[xAo,xAb,cg,i1,i2]
 |make _ _ _ i2=>change List.length (_::_)=List.length (_::_);simp only[xAo,xAb,e i2]
 |mat _ _ _ _ _ i1 i2 i=>change List.length (_::_)=List.length (_::_);simp only[xAo,xAb,cg,i1,i2,i]
 |rai _ _ i1=>change List.length (_::_)=List.length (_::_);simp only[xAo,xAb,cg,i1]
 |try_ _ _ _ _ i1 i2=>change List.length (_::_)=List.length (_::_);simp only[xAo,xAb,cg,i1,i2]
 |tell _ i1=>change List.length (_::_)=List.length (_::_);simp only[xAo,xAb,cg,i1]
end
section
variable{th sc:A9}{wi:Int}{P Q:Pg}{v:U}{D dm d:Nat}
def Pg.pl:Pg->Int
 |.num pl ..=>pl|.nam pl ..=>pl|.fn pl ..=>pl|.call pl ..=>pl|.lt pl ..=>pl|.st pl ..=>pl|.dd pl ..=>pl|.iff pl ..=>pl|.math pl ..=>pl|.make pl ..=>pl|.mat pl ..=>pl|.rai pl ..=>pl|.try_ pl ..=>pl|.tell pl ..=>pl|.ask pl=>pl|.bad _=>0
def Pg.fi:Pg->A0 (Str×U)
 |.num _ n=>[("number",.int n)]
 |.nam _ x=>[("used",.str x)]
 |.fn _ xs b=>[("names",.tup<|xs.map .str),("part",b.u)]
 |.call _ f as=>[("part",f.u),("parts",.tup<|Pg.us as)]
 |.lt _ x a b=>[("name",.str x),("part",a.u),("part",b.u)]
 |.st _ x a=>[("used",.str x),("part",a.u)]
 |.dd _ a b=>[("part",a.u),("part",b.u)]
 |.iff _ a b c=>[("part",a.u),("part",b.u),("part",c.u)]
 |.math _ o a b=>[("op",.str o),("part",a.u),("part",b.u)]
 |.make _ t as=>[("word",.str t),("parts",.tup<|Pg.us as)]
 |.mat _ a t xs b c=>[("part",a.u),("word",.str t),("names",.tup<|xs.map .str),("part",b.u),("part",c.u)]
 |.rai _ w a=>[("word",.str w),("part",a.u)]
 |.try_ _ a w x b=>[("part",a.u),("word",.str w),("name",.str x),("part",b.u)]
 |.tell _ a=>[("part",a.u)]
 |.ask _=>[]
 |.bad _=>[]
def Pg.lf:Pg->A8
 |.num ..=>true
 |.nam ..=>true
 |_=>false
def ie(h:zAh P=true):P.it=.str P.hd::.int P.pl::P.fi.map (·.2):=by cases P <;> first|rfl|cases h
def m4(h:zAh P=true):zAt P.hd cm=some (.kt<|P.fi.map λp=>.str p.1):=by cases P <;> first|(cases h;done)|kernel_rfl
def zv(h:zAh P=true):(!zA1 (.str P.hd) [.str "number",.str "name"])=!P.lf:=by cases P <;> first|(cases h;done)|kernel_rfl
def iY(h:zAh P=true):P.hd.length<=1000:=by
 have:P.hd.length<=10:=by cases P <;> first|(cases h;done)|exact xCo (by kernel_rfl)
 lia
def fm(h:zAh P=true):P.fi.length<=5:=by cases P <;> first|exact xCo rfl|cases h
def Wf.nh{N:Str->Prop}(h:Wf N sc d P):zAh P=true:=by cases h <;> rfl
def tm{k:Str}(b:zAt k dP=none:=by kernel_rfl)(a:(dE.any λy=>decide<|y=k)=true:=by kernel_rfl):TA (.str k::r) []:=lD b a
theorem vH(h:Wf (zAf ·=true) sc dm P)(e:∀y∈sc,zAf y=true)(N:sc.length+5*dm<=1000):∃D,8<=D/\D+1<=2*dm+9/\∀wi,∃f,Its sc wi D [.str P.hd,.int P.pl] P.fi f:=by
 cases h with
 |@num sc d pl n a b=>exact⟨8,(),(),λwi=>⟨_,i1 tm ∅ ∅ ∅ rfl (by show decide _=true;exact xBd ⟨a,b⟩) .nil⟩⟩
 |@nam sc d pl x h=>exact⟨8,(),(),λwi=>⟨_,zDq tm (e x h) h .nil⟩⟩
 |@fn sc H d pl b h k=>
  have G:=h.few;exact⟨2*d+10,(),(),λwi=>⟨_,zCr uS h<|zAj o6 (cy k.wb (cG e h.ok) (by rw[xAb];lia) wi) .nil ()⟩⟩
 |@call sc d pl f as M h F=>exact⟨2*d+10,(),(),λwi=>⟨_,zAj tm (ap0<|cy M.wb e () wi)<|zCq tm (λa i=>cy (h a i).wb e () wi) F .nil⟩⟩
 |@lt sc d pl x a b m i k=>exact⟨2*d+10,(),(),λwi=>⟨_,zDr oZ m<|zAj lG (ap0<|cy i.wb e () wi)<|zAj lE (cy k.wb (cG e<|dw m) (by rw[zBd];lia) wi) .nil⟩⟩
 |@st sc d pl x a m i=>exact⟨2*d+10,(),(),λwi=>⟨_,zDq tm (e x m) m<|zAj tm (ap0<|cy i.wb e () wi) .nil⟩⟩
 |@dd sc d pl a b i k=>exact⟨2*d+10,(),(),λwi=>⟨_,zAj tm (ap0<|cy i.wb e () wi)<|zAj tm (ap0<|cy k.wb e () wi) .nil⟩⟩
 |@iff sc d pl a b c i k C=>exact⟨2*d+10,(),(),λwi=>⟨_,zAj tm (ap0<|cy i.wb e () wi)<|zAj tm (ap0<|cy k.wb e () wi)<|zAj tm (ap0<|cy C.wb e () wi) .nil⟩⟩
 |@math sc d pl o a b I i k=>exact⟨2*d+10,(),(),λwi=>⟨_,iOp tm (iJ _ I)<|zAj tm (ap0<|cy i.wb e () wi)<|zAj tm (ap0<|cy k.wb e () wi) .nil⟩⟩
 |@make sc d pl t as B h F=>exact⟨2*d+10,(),(),λwi=>⟨_,zCc tm (cU _ B)<|zCq tm (λa i=>cy (h a i).wb e () wi) F .nil⟩⟩
 |@mat sc H d pl t a b c B m i k C=>
  have G:=m.few;exact⟨2*d+10,(),(),λwi=>⟨_,zAj uR (ap0<|cy i.wb e () wi)<|zCc uQ (cU _ B)<|zCr uP m<|zAj uO (cy k.wb (cG e m.ok) (by rw[xAb];lia) wi) (zAj uN (ap0<|cy C.wb e () wi) .nil) ()⟩⟩
 |@rai sc d pl w a p i=>exact⟨2*d+10,(),(),λwi=>⟨_,zCc tm (cU _ p)<|zAj tm (ap0<|cy i.wb e () wi) .nil⟩⟩
 |@try_ sc d pl w x a b p m i k=>exact⟨2*d+10,(),(),λwi=>⟨_,zAj oY (ap0<|cy i.wb e () wi)<|zCc lC (cU _ p)<|zDr lB m<|zAj lu (cy k.wb (cG e<|dw m) (by rw[zBd];lia) wi) .nil⟩⟩
 |@tell sc d pl a i=>exact⟨2*d+10,(),(),λwi=>⟨_,zAj tm (ap0<|cy i.wb e () wi) .nil⟩⟩
 |@ask sc d pl=>exact⟨8,(),(),λwi=>⟨_,.nil⟩⟩
def uD{f:B2->A3 (B2)}:(λps=>(f ps).bind noF)=noF:=funext λps=>by cases f ps <;> rfl
theorem qF{pl:Int}:ndF wi pl noF=noF:=funext λps=>by
 unfold ndF;cases plA pl ps with
 |none=>rfl
 |some q=>show(if wi<=20 then noF q else none)=none;split <;> rfl
theorem uf{it:A0<|Str×U}{f:B2->A3 (B2)}(h:Its th wi D vs it f):∀{i:Nat}{s:Str}{v0:U},it[i]?=some (s,v0)->(∀nn,(i=0->nn=[]\/s≠"used")->(0<i->s≠"used")->(s="used"->nn=[])->zCm s v noF (th++nn) wi D)->(s="used"->i=0/\TA vs [])->Its th wi D vs (it.set i (s,v)) noF:=by
 induction h with
 |nil=>intro i s v0 e;cases e
 |@cons vs n o nn r f g t c k w ih=>
  intro i s v0 e b m;cases i with
  |zero=>
   cases e;by_cases a:n="used"
   .exact .bad (m a).2 (b [] (λ_=>.inl rfl) (λz=>absurd z<|xBo 0) λ_=>rfl) ⋯
   .exact .bad t (b nn (λ_=>.inr a) (λz=>absurd z<|xBo 0) λz=>absurd z a) k
  |succ i=>
   have a:s≠"used":=λz=>by have:=(m z).1;lia
   exact(Its.cons t c k<|ih (i:=i) e (λnn _ _ p=>b nn (λz=>()) (λ_=>a) p) λz=>absurd z a).to uD
 |@bad vs n o nn r t c k=>
  intro i s v0 e b m;cases i with
  |zero=>
   cases e;by_cases a:n="used"
   .exact .bad (m a).2 (b [] (λ_=>.inl rfl) (λz=>absurd z<|xBo 0) λ_=>rfl) ⋯
   .exact .bad t (b nn (λ_=>.inr a) (λz=>absurd z<|xBo 0) λz=>absurd z a) k
  |succ i=>exact .bad t c k
def zCf(s:Str)(sc:A9)(v:U):Prop:=∀nn,(s="used"->nn=[])->∀wi,zCm s v noF (sc++nn) wi 8
theorem zGk(h:zAh P=true){i:Nat}(e:P.fi[i]?=some (("used":Str),v0)):i=0/\TA [.str P.hd,.int P.pl] []:=by
 have no:∀{s:Str},s≠"used"->∀{x:U},some (s,x)≠some (("used":Str),v0):=λb x z=>b (by cases z;rfl);cases P with
 |bad _=>cases h
 |nam pl x=>
  refine⟨?_,tm⟩;cases i with
  |zero=>rfl
  |succ i=>cases e
 |st pl x a=>
  refine⟨?_,tm⟩;cases i with
  |zero=>rfl
  |succ i=>
   cases i with
   |zero=>exact absurd e (no ∅)
   |succ i=>cases e
 |_=>
  exfalso
  repeat' first|(cases e;done)|exact no ∅ e|(cases i with|zero=>exact no ∅ e|succ i=>?_)
def uo(h:Wf (zAf ·=true) sc dm P)(o:∀y∈sc,zAf y=true)(t:sc.length+5*dm<=1000){i:Nat}(e:P.fi[i]?=some (s,v0))(B:zCf s sc v)(wi:Int):Chk (.tup (.str P.hd::.int P.pl::(P.fi.set i (s,v)).map (·.2))) noF sc wi<|2*dm+9:=by
 let⟨D,F,C,H⟩:=vH h o t;have nh:=h.nh;have w:∀{l:A0<|Str×U}{i:Nat},l[i]?=some (s,v0)->(l.set i (s,v)).map (λp=>U.str p.1)=l.map λp=>U.str p.1:=λ{l}=>by
  induction l with
  |nil=>intro i e;cases e
  |cons a r n=>
   intro i e;cases i with
   |zero=>cases e;rfl
   |succ i=>show U.str a.1::_=U.str a.1::_;rw[n e]
 have fl:=fm nh;have:=dG (P:=.tup (.str P.hd::.int P.pl::(P.fi.set i (s,v)).map (·.2))) (k:=P.hd) (pl:=P.pl) (wi:=wi) (items:=P.fi.set i (s,v)) (g:=noF) (th:=sc) (D:=D) (b:=!P.lf) rfl (by rw[w e];exact m4 nh) (zv nh) rfl (iY nh) (by rw[List.length_set];lia) () () λ_=>by
  let⟨f,I⟩:=H<|if(!P.lf)=true then wi+1 else wi;exact uf I e (λm _ _ G=>(B m G _).mono F) λz=>by subst z;exact zGk nh e
 exact(this.to qF).mono C
end
section
variable{th sc ws:A9}{wi:Int}{P Q:Pg}{v:U}{D dm d fw:Nat}{s:Str}{S:So}{x:B8}{K:B7}{cell:Int}
def zCm.no{f:B2->A3 (B2)}(h:zCm s v f th wi D)(e:f=noF):zCm s v noF th wi D:=e▸h
def gQ(m:s≠"part")(k:s≠"parts")(i:s≠"names")(a:pvB v=true)(e:∀nn,(s="used"->nn=[])->zDt s v (sc++nn)=false):zCf s sc v:=λnn b wi=>((vD m k i a).mono ∅).no (by rw[e nn b];rfl)
def cY(a:pvB v=true)(b:zEb v=true)(e:zBs v=false):zCf "names" sc v:=λi _ wi=>((j4 a b).mono ∅).no (by rw[e];rfl)
def rZ(c:∀th wi,Chk v noF th wi 7):zCf "part" sc v:=λa _ wi=>ja<|c _ _
def eX(a:pvB v=true)(b:zF9 v=false):zCf "parts" sc v:=λe _ wi=>(rL a b).mono ∅
def j9{p:U}(c:∀th wi,Chk p noF th wi 7):zCf "parts" sc<|.tup [p]:=λa _ wi=>jZ (.bad<|c _ _) ⋯ ∅
def cZ{i:Int}(h:0<=i/\i<L.length):∃v∈L,∀{S:So},pr ups .ix [.lst L,.int i] S=.ok v S:=by
 let⟨j,rfl⟩:=Int.eq_ofNat_of_zero_le h.1;have a:j<L.length:=by lia
 refine⟨L[j],List.getElem_mem a,λ{S}=>?_⟩;show opt (atI L (j:Int)) S=_;rw[dh<|xAk a];rfl
def an:A9:=["a","nowhere"]
def v5:A9:=["va","vb","vc","vd","ve"]
def awy(sc ws:A9):A9:=ws.filter λw=>!zA1 (.str w) (sc.map .str)
def ww{w:Str}:pr ups .nin [.str w,scU sc] S=.ok (.bl (!zA1 (.str w) (sc.map .str))) S:=by
 show obB (if(zAr (.str w)&&(sc.map U.str).all zAr)=true then some (zA1 (.str w)<|sc.map U.str) else none) not S=_;rw[fS];rfl
theorem iT{xc:B8}:∀{ws:A9}{ys:B0},K (.lst<|ys++(awy sc ws).map .str) S->lcK (Gd fw d) (lcB [1] true [none,none,some<|scU sc] (some<|tB<|J0 .nin J3 J8) (cV 1) (Gd fw d) xc) (ws.map .str) ys S K
 |[],ys,a=>by
  rw[show(awy sc []).map U.str=[] from rfl,xB0] at a;exact a
 |w::ws,ys,a=>by
  erw[pd ww];unfold awy at a;cases hb:zA1 (.str w) (sc.map .str) with
  |true=>
   rw[List.filter_cons_of_neg<|by rw[hb];decide] at a;erw[bF,<-iT (ws:=ws) a]
  |false=>
   rw[List.filter_cons_of_pos<|by rw[hb];rfl] at a;erw[bT,iT (ws:=ws)];rw[xAx];exact a
def yj{w:Str}(h:w∈awy sc ws):zA1 (.str w) (sc.map .str)=false:=by
 have:=(List.mem_filter.mp h).2
 rwa[Bool.not_eq_true'] at this
def fY{c f:U}(b:ws.length<=100)(a:zE5 (Gd fw d) [some c,some f,some<|scU ws,some<|scU sc,some<|.int cell,some<|scU<|awy sc<|ws++an,none] S<|zAn x K):(Gd fw<|d+1).call 37 [c,f,scU ws,scU sc,.int cell] S x K:=by
 erw[cd ⟨5,7,t37⟩,pv (scU an),pd (dC<|by simp[an,v5];lia),pv (.tup<|(ws++an).map .str),<-bI (λ_=>?_) λz=>absurd (eJ (n:=((ws++an).map U.str).length)<|by simp[an,v5];lia) (by rw[z];decide),iT (ys:=[])];rw[xC6];exact a
structure BdC(c:Str)(f:U)(ws sc:A9)(cell:Int)(v:U):Prop where
 h:∀{fw d:Nat}{S:So}{x:B8}{K:B7},K v S->(Gd fw (d+3)).call 37 [.str c,f,scU ws,scU sc,.int cell] S x K
variable{f:U}
def z9(n:ws.length<=100)(t:0<=cell):∃v,zCf "number" sc v/\BdC "n" f ws sc cell v:=by
 let⟨v,m,e⟩:=cZ (L:=[.int<|10^12+cell,.int (-(10^12)-cell),.bl true,.str "1",.non,.tup [.int 1]]) (i:=cell%6) (by show 0<=cell%6/\cell%6<6;lia);refine⟨v,?_,⟨λ{fw d S x K} o=>fY n ?_⟩⟩
 .have k:pvB v=true->(∀th,zDt "number" v th=false)->zCf "number" sc v:=λa b=>gQ ∅ ∅ ∅ a λp _=>b _;simp only[xAv,xBv,or_false] at m;rcases m with rfl|rfl|rfl|rfl|rfl|rfl
  .exact k rfl λth=>xCn ()
  .exact k rfl λth=>xCn ()
  all_goals exact k rfl λth=>rfl
 .erw[pd (cW rfl),bT,pv (.int<|10^12),pv (.int<|10^12+cell),pv (.int<|10^12),pv (.int (-(10^12))),pv (.int (-(10^12)-cell)),pv (.lst [.int<|10^12+cell,.int (-(10^12)-cell),.bl true,.str "1",.non,.tup [.int 1]]),pd (cb ∅),<-pd e o]
local macro_rules | `(tactic| walk_at "c")=>`(tactic| repeat first | refine pd (cW rfl) ?_ | refine pd (cJ ∅) ?_ | refine bT ?_ | refine bF ?_)
def lV{B:B0}(h:A.length+B.length<=10000):pr ups (.add false) [.lst A,.lst B] S=.ok (.lst<|A++B) S:=by
 show fits (A.length+B.length) (.ok (.lst<|A++B) S)=_;exact zA2 (by show _<=2^24;lia)
def lq{w:Str}(h:zAf w=false):zDt "used" (.str w) sc=false:=by show(zAf w&&zA1 (.str w) (sc.map .str))=false;rw[h];rfl
def sY{l:A9}:pr ups .len [scU l] S=.ok (.int l.length) S:=by
 show Res.ok (.int ((l.map U.str).length:Nat)) S=_;rw[xAa]
def zZ(t:ws.length<=100)(I:0<=cell)(n:∀y∈ws,zAf y=true):∃v,zCf "used" sc v/\BdC "u" f ws sc cell v:=by
 have F:(awy sc<|ws++an).length<=102:=xCk (List.length_filter_le ..) (by simp[an,v5];lia);have p:0<=cell%((awy sc<|ws++an).length+4:Int)/\cell%((awy sc<|ws++an).length+4:Int)<(awy sc<|ws++an).length+4:=⟨xBa _ (),xBb _ ()⟩
 let⟨v,hv,e⟩:=cZ (L:=(awy sc<|ws++an).map .str++[.str "",.str "A",.int 5,.non]) (i:=cell%((awy sc<|ws++an).length+4:Int)) ⟨p.1,by rw[xAb,xAa];exact p.2⟩;refine⟨v,?_,⟨λ{fw d S x K} G=>fY t ?_⟩⟩
 .have k:pvB v=true->zDt "used" v sc=false->zCf "used" sc v:=λa b=>gQ ∅ ∅ ∅ a λH C=>by rw[C rfl,xB0];exact b
  rcases xAj.mp hv with hv|hv
  .let⟨w,m,rfl⟩:=xA2.mp hv;have o:zAf w=true:=by
    rcases xAj.mp (List.mem_filter.mp m).1 with z|z
    .exact n w z
    .simp only[an,xAv,xBv,or_false] at z;rcases z with rfl|rfl <;> decide +kernel
   erw[k (pvS<|nword o)];show(zAf w&&zA1 (.str w) (sc.map .str))=false;rw[yj m,Bool.and_false]
  .simp only[xAv,xBv,or_false] at hv;rcases hv with rfl|rfl|rfl|rfl
   .exact k rfl (lq<|by decide +kernel)
   .exact k rfl (lq<|by decide +kernel)
   .exact k rfl rfl
   .exact k rfl rfl
 .walk_at"c"
  erw[pv (.lst [.str "",.str "A",.int 5,.non]),pd (lV (A:=(awy sc<|ws++an).map .str) (B:=[.str "",.str "A",.int 5,.non])<|by rw[xAa];simp;lia),pd sY,pv (.int ((awy sc<|ws++an).length+4:Int)),pd (cb ()),<-pd e G]
def jP(a:K (scU zBk) S):(Gd fw<|d+1).call 18 [] S x K:=by
 erw[cd ⟨0,1,t18⟩,pv (scU ["fn","call","let","set","do","if","add","sub","mul"]),pv (scU ["less","same","make","match","raise","try","tell","ask"]),<-pv (scU zBk) a]
def xL:B0:=zBk.map .str++[.str "",.str "A",.str "a1",.str "abcdefghi",.int 5,.non,.tup [.str "a"]]
def yn:∀v∈xL,pvB v=true/\zA5 v=false:=by
 have:xL.all (λv=>pvB v&&!zA5 v)=true:=by decide +kernel
 intro v a;have:=xCx.mp this v a;rw[xCh,Bool.not_eq_true'] at this;exact this
def zX(k:ws.length<=100):∃v,zCf "name" sc v/\BdC "x" f ws sc cell v:=by
 let⟨v,m,e⟩:=cZ (L:=xL) (i:=cell%24) (by show 0<=cell%24/\cell%24<24;lia);refine⟨v,?_,⟨λ{fw d S x K} n=>fY k ?_⟩⟩
 .let⟨a,b⟩:=yn v m;exact gQ ∅ ∅ ∅ a λo _=>b
 .walk_at"c"
  erw[jP,pv (.lst [.str "",.str "A",.str "a1",.str "abcdefghi",.int 5,.non,.tup [.str "a"]]),pd (v:=.lst xL) (S':=S) (by rfl),pd (cb ∅),<-pd e n]
def wL:B0:=[.str "",.str "A",.str "a1",.str "abcdefghi",.int 5,.non,.tup [.str "a"],.str "-"]
def yq:∀v∈wL,pvB v=true/\zB7 v=false:=by
 have:wL.all (λv=>pvB v&&!zB7 v)=true:=by decide +kernel
 intro v a;have:=xCx.mp this v a;rw[xCh,Bool.not_eq_true'] at this;exact this
def zY(k:ws.length<=100):∃v,zCf "word" sc v/\BdC "w" f ws sc cell v:=by
 let⟨v,m,e⟩:=cZ (L:=wL) (i:=cell%8) (by show 0<=cell%8/\cell%8<8;lia);refine⟨v,?_,⟨λ{fw d S x K} n=>fY k ?_⟩⟩
 .let⟨a,b⟩:=yq v m;exact gQ ∅ ∅ ∅ a λo _=>b
 .walk_at"c"
  erw[pv (.lst wL),pd (cb ∅),<-pd e n]
def oL:B0:=[.str "div",.str "math",.str "fn",.str "",.int 5,.non,.str "ADD"]
def zg:∀v∈oL,pvB v=true/\opV v=false:=by
 have:oL.all (λv=>pvB v&&!opV v)=true:=by decide +kernel
 intro v a;have:=xCx.mp this v a;rw[xCh,Bool.not_eq_true'] at this;exact this
def z0(k:ws.length<=100):∃v,zCf "op" sc v/\BdC "o" f ws sc cell v:=by
 let⟨v,m,e⟩:=cZ (L:=oL) (i:=cell%7) (by show 0<=cell%7/\cell%7<7;lia);refine⟨v,?_,⟨λ{fw d S x K} n=>fY k ?_⟩⟩
 .let⟨a,b⟩:=zg v m;exact gQ ∅ ∅ ∅ a λo _=>b
 .walk_at"c"
  erw[pv (.lst oL),pd (cb ∅),<-pd e n]
def zGm(h:3<=ws.length/\ws.length<=100):∃A B:A9,ws++v5=A++B/\A.length=5:=⟨_,_,(List.take_append_drop 5 _).symm,by rw[xAn,xAb];simp[v5]⟩
def Ab{T:B0}(k:3<=ws.length/\ws.length<=100)(b:∀y∈ws,zAf y=true):∃v,zCf "names" sc v/\BdC "N" (.tup T) ws sc cell v:=by
 let⟨A,B,eA,a⟩:=zGm k;let⟨v,m,e⟩:=cZ (L:=[.lst T,.non,.tup<|A.map .str,.tup [.str "qa",.str "qa"],.tup [.str "fn"],.tup [.int 5],.str "ab",.tup [.str "a",.str ""]]) (i:=cell%8) (by show 0<=cell%8/\cell%8<8;lia);refine⟨v,?_,⟨λ{fw d S x K} o=>fY k.2 ?_⟩⟩
 .simp only[xAv,xBv,or_false] at m;rcases m with rfl|rfl|rfl|rfl|rfl|rfl|rfl|rfl
  .exact cY rfl rfl rfl
  .exact cY rfl rfl rfl
  .refine cY (by show Nat.ble (A.map U.str).length 1000=true;rw[xAa,a];rfl) ?_ (by show(Nat.ble (A.map U.str).length 4&&_)=false;rw[xAa,a];rfl);show(A.map U.str).all pvB=true;rw[List.all_map];refine xCx.mpr λy n=>pvS<|nword ?_;rcases xAj.mp (show y∈ws++v5 by rw[eA];exact xBw _ n) with z|z
   .exact b y z
   .have:v5.all zAf=true:=by decide +kernel
    exact xCx.mp this y z
  .exact cY rfl rfl (by decide +kernel)
  .exact cY rfl rfl (by decide +kernel)
  .exact cY rfl rfl rfl
  .exact cY rfl rfl rfl
  .exact cY rfl rfl (by decide +kernel)
 .walk_at"c"
  erw[pv (scU v5),pd (dC<|by simp[an,v5];lia)];rw[eA];erw[pd (v:=scU A) (S':=S) (by unfold scU;rw[xAi];exact wt (by rw[xAa,a];rfl)),pv (.tup<|A.map .str),pv (.lst T),pv (.lst [.lst T,.non,.tup<|A.map .str,.tup [.str "qa",.str "qa"],.tup [.str "fn"],.tup [.int 5],.str "ab",.tup [.str "a",.str ""]]),pd (cb ∅)];exact pd e o
def Aa{T:B0}(b:ws.length<=100):∃v,zCf "parts" sc v/\BdC "S" (.tup T) ws sc cell v:=by
 let⟨v,a,e⟩:=cZ (L:=[.lst T,.non,.tup [.int 5],.tup [.str "a"],.str "ab",.int 5]) (i:=cell%6) (by show 0<=cell%6/\cell%6<6;lia);refine⟨v,?_,⟨λ{fw d S x K} k=>fY b ?_⟩⟩
 .simp only[xAv,xBv,or_false] at a;rcases a with rfl|rfl|rfl|rfl|rfl|rfl
  .exact eX rfl rfl
  .exact eX rfl rfl
  .exact j9 λth wi=>(db rfl rfl).mono ∅
  .exact j9 λth wi=>(db rfl rfl).mono ∅
  .exact eX rfl rfl
  .exact eX rfl rfl
 .walk_at"c"
  erw[pv (.lst T),pv (.lst [.lst T,.non,.tup [.int 5],.tup [.str "a"],.str "ab",.int 5]),pd (cb ∅),<-pd e k]
def mH(h:zAh Q=true):Chk (.tup<|Q.it++[v]) noF th wi 3:=by
 rw[ie h];have fl:=fm h;exact jc (k:=Q.hd) (b:=.int Q.pl) (r:=Q.fi.map (·.2)++[v]) (by rw[xAb,xAa];simp;lia) (iY h) rfl (m4 h) (by rw[xAb,xAa,xAa];simp)
theorem mJ{u:U}(h:zAh Q=true)(e:Q.it=A++[u]):Chk (.tup A) noF th wi 3:=by
 rw[ie h] at e;have fl:=fm h;match A,e with
 |[],e=>exact cX ⋯
 |[a],e=>exact cX ⋯
 |a::b::r,e=>
  injection e with e1 e;injection e with e2 e;subst e1 e2;have i:=congrArg List.length e;have i:(Q.fi.map (·.2)).length=(r++[u]).length:=i;rw[xAa,xAb] at i;have i:Q.fi.length=r.length+1:=i;exact jc () (iY h) rfl (m4 h) (by rw[xAa];lia)
def mO(h:zAh Q=true):∃A u,Q.it=A++[u]:=by
 rw[ie h];exact⟨_,_,(List.dropLast_concat_getLast<|List.cons_ne_nil _ _).symm⟩
def qP(h:zAh Q=true):Q.it.length<=7:=by
 rw[ie h];have:=fm h;simp only[xAo,xAa];lia
def Ac(b:ws.length<=100)(h:zAh Q=true):∃v,zCf "part" sc v/\BdC "E" Q.u ws sc cell v:=by
 let⟨A,u,eA⟩:=mO h;have m:=qP h;rw[oU h];let⟨v,a,e⟩:=cZ (L:=[.non,.int 5,.tup [],.str "a",.lst Q.it,.tup A,.tup<|Q.it++[.int 1],.tup [.tup Q.it]]) (i:=cell%8) (by show 0<=cell%8/\cell%8<8;lia);refine⟨v,rZ λth wi=>?_,⟨λ{fw d S x K} k=>fY b ?_⟩⟩
 .simp only[xAv,xBv,or_false] at a;rcases a with rfl|rfl|rfl|rfl|rfl|rfl|rfl|rfl
  .exact(db rfl rfl).mono ∅
  .exact(db rfl rfl).mono ∅
  .exact(cX ⋯).mono ∅
  .exact(db rfl rfl).mono ∅
  .exact(db rfl rfl).mono ∅
  .exact(mJ h eA).mono ∅
  .exact(mH h).mono ∅
  .exact(cX ⋯).mono ∅
 .walk_at"c"
  erw[pv (.lst Q.it),pv (.int (-1)),pd (v:=.tup A) (S':=S) (by rw[eA];exact pV),pd (dt (A:=Q.it) (B:=[.int 1])<|by simp;lia),pv (.lst [.non,.int 5,.tup [],.str "a",.lst Q.it,.tup A,.tup<|Q.it++[.int 1],.tup [.tup Q.it]]),pd (cb ∅),<-pd e k]
end
section
variable{th sc ws:A9}{wi:Int}{P Q:Pg}{v:U}{D dm d fw:Nat}{s:Str}{S:So}{x:B8}{K:B7}{cell:Int}{pls:B2}
def Pg.sp(n:Int):Pg->Pg
 |.num _ a=>.num n a|.nam _ a=>.nam n a|.fn _ a b=>.fn n a b|.call _ a b=>.call n a b|.lt _ a b c=>.lt n a b c|.st _ a b=>.st n a b|.dd _ a b=>.dd n a b|.iff _ a b c=>.iff n a b c|.math _ a b c=>.math n a b c|.make _ a b=>.make n a b|.mat _ a b c e f=>.mat n a b c e f|.rai _ a b=>.rai n a b|.try_ _ a b c e=>.try_ n a b c e|.tell _ a=>.tell n a|.ask _=>.ask n|.bad v=>.bad v
theorem uT{N:Str->Prop}{n:Int}(h:Wf N sc d P):Wf N sc d<|P.sp n:=by
 cases h with
 |num a b=>exact .num a b
 |nam h=>exact .nam h
 |fn h i=>exact .fn h i
 |call B h t=>exact .call B h t
 |lt k e i=>exact .lt k e i
 |st k e=>exact .st k e
 |dd e i=>exact .dd e i
 |iff e i p=>exact .iff e i p
 |math w e i=>exact .math w e i
 |make o h t=>exact .make o h t
 |mat o k e i p=>exact .mat o k e i p
 |rai m e=>exact .rai m e
 |try_ m k e i=>exact .try_ m k e i
 |tell e=>exact .tell e
 |ask=>exact .ask
def yu{n:Int}(h:zAh P=true):(P.sp n).u=.tup (.str P.hd::.int n::P.fi.map (·.2)):=by cases P <;> first|rfl|cases h
def yv{n:Int}(h:zAh P=true)(a:¬ okP n):∀wi,¬ (P.sp n).tr.ok wi:=by cases P <;> first|(cases h;done)|exact λwi z=>a z.1
def vS{n:Int}(h:zAh P=true):(P.sp n).pls=n::P.pls.tail:=by cases P <;> first|rfl|cases h
def kF(h:zAh P=true):P.pls=P.pl::P.pls.tail:=by cases P <;> first|rfl|cases h
def vk(h:zAh P=true):pr ups .ix [P.u,.int 1] S=.ok (.int P.pl) S:=by cases P <;> first|rfl|cases h
structure Fty(Q:Pg)(sc:A9)(dm:Nat)(pls:B2)(N:Pg):Prop where
 wb:Wb sc dm N
 no:(∀wi,¬ N.tr.ok wi)\/∃o∈pls,o≠Q.pl/\N.pls=o::Q.pls.tail
def gj(c:∀wi,Chk v noF sc wi<|2*dm+9):Fty Q sc dm pls<|.bad v:=⟨.bad c,.inl λ_=>id⟩
structure FtC(Q:Pg)(pls:B2)(ws sc:A9)(cell:Int)(v:U):Prop where
 h:∀{fw d:Nat}{S:So}{x:B8}{K:B7},(∀S',Kp S S'->K v S')->(Gd fw (d+4)).call 38 [Q.u,.lst (pls.map .int),scU ws,scU sc,.int cell] S x K
def hL:B0:=[.str "numbers",.str "",.int 5,.non,.str "Fn",.tup [.str "fn"]]
def zw:∀v∈hL,pvB v=true/\zCp v=true:=by
 have:hL.all (λv=>pvB v&&zCp v)=true:=by decide +kernel
 intro v a;have:=xCx.mp this v a;rw[xCh] at this;exact this
def pi{i:Int}(h:0<=i/\i<L.length):∃A u B,L=A++u::B/\i=(A.length:Nat):=by
 let⟨j,rfl⟩:=Int.eq_ofNat_of_zero_le h.1;have a:j<L.length:=by lia
 refine⟨L.take j,L[j],L.drop<|j+1,by rw[<- xB2 a,List.take_append_drop],?_⟩;rw[xAn,Nat.min_eq_left ()]
def othr(pl:Int)(pls:B2):B2:=pls.filter λp=>!decide (p=pl)
theorem kR{xc:B8}(h:zAh Q=true):∀{pls:B2}{ys:B0},K (.lst<|ys++(othr Q.pl pls).map .int) S->lcK (Gd fw d) (lcB [1] true [none,none,some Q.u] (some<|tB<|J0 .ne J3<|J5 J8 Jc) (cV 1) (Gd fw d) xc) (pls.map .int) ys S K
 |[],ys,a=>by
  rw[show(othr Q.pl []).map U.int=[] from rfl,xB0] at a;exact a
 |p::pls,ys,a=>by
  erw[pd (vk h),pd (v:=.bl (!decide (p=Q.pl))) (S':=S) rfl];unfold othr at a;cases hb:decide (p=Q.pl) with
  |true=>
   rw[List.filter_cons_of_neg<|by rw[hb];decide] at a;erw[bF,<-kR h (pls:=pls) a]
  |false=>
   rw[List.filter_cons_of_pos<|by rw[hb];rfl] at a;erw[bT,kR h (pls:=pls)];rw[xAx];exact a
def kg(h:zAh Q=true):Q.u=.tup (.str Q.hd::.int Q.pl::Q.fi.map (·.2)):=by rw[oU h,ie h]
def qY(h:zAh Q=true):(Q.fi.map (·.2)).length<=100:=by rw[xAa];have:=fm h;lia
def Aj{a:U}:pr ups (.sl false true false) [.tup<|a::r,.int 1] S=.ok (.tup r) S:=fF (A:=[a]) rfl
def Ai{a b:U}:pr ups (.sl false true false) [.tup<|a::b::r,.int 2] S=.ok (.tup r) S:=fF (A:=[a,b]) rfl
def vT{a:U}:pr ups (.sl false false true) [.tup<|a::r,.int 1] S=.ok (.tup [a]) S:=pP (A:=[a]) rfl
def ft0(h:zAh Q=true)(b:cell%5=0)(m:0<=cell):∃N,Fty Q sc dm pls N/\FtC Q pls ws sc cell N.u:=by
 let⟨A,u,B,e,k⟩:=pi (L:=hL) (i:=cell / 5%6) (by show 0<=cell / 5%6/\cell / 5%6<6;lia);let⟨p1,p2⟩:=zw u (by rw[e];simp);erw[<-⟨.bad (.tup (u::.int Q.pl::Q.fi.map (·.2))),gj λwi=>(rM (qY h) p1 rfl p2).mono (),⟨λ{fw d S x K} a=>?_⟩⟩,cd ⟨5,9,t38⟩,pd (cb ∅),pd cj];rw[xBd b];erw[bT,pd (cN ∅),pd (cb ∅),pd (v:=.tup<|u::B) (S':=S) (by rw[show U.tup [.str "numbers",.str "",.int 5,.non,.str "Fn",.tup [.str "fn"]]=.tup (A++u::B) from congrArg U.tup e];exact fF k),pd vT];rw[kg h];erw[pd Aj,pd (dt (A:=[u]) (by have:=qY h;simp only[xAo,List.length_nil];lia))];exact a S Kp.refl
def ft1(t:Wf (zAf ·=true) sc dm Q)(H:cell%5=1)(O:0<=cell)(w:pls.length<=1000):∃N,Fty Q sc dm pls N/\FtC Q pls ws sc cell N.u:=by
 have h:=t.nh;have fl:=fm h;have M:(othr Q.pl pls).length<=1000:=xCk (List.length_filter_le ..) w;have C:0<=cell / 5%(5+(othr Q.pl pls).length:Int)/\cell / 5%(5+(othr Q.pl pls).length:Int)<5+(othr Q.pl pls).length:=⟨xBa _ (),xBb _ ()⟩
 let⟨u,hu,e⟩:=cZ (L:=[.int (-1 - cell),.int<|600+cell,.bl true,.non,.str "1"]++(othr Q.pl pls).map .int) (i:=cell / 5 % (5+(othr Q.pl pls).length:Int)) ⟨C.1,by rw[xAb,xAa];have:=C.2;show _<((5+(othr Q.pl pls).length:Nat):Int);lia⟩;have m:∀{N:Pg},N.u = .tup (.str Q.hd::u::Q.fi.map (·.2))->FtC Q pls ws sc cell N.u:=λ{N} I=>⟨λ{fw d S x K} F=>by
  rw[I] at F;refine cd ⟨5,9,t38⟩ ?_;refine pd (cb ∅) ?_;refine pd cj ?_;rw[xCn ()];refine bF ?_;refine pd cj ?_;rw[xBd H];refine bT ?_;refine pv (.tup<|pls.map .int) ?_;refine bI (λ_=>?_) λz=>absurd (eJ (n:=(pls.map U.int).length)<|by rw[xAa];exact w) (by rw[z];decide);refine kR h (ys:=[]) ?_;rw[xC6];refine pv (.int (-1)) ?_;refine pv (.int (-1-cell)) ?_;refine pv (.int<|600+cell) ?_;refine pv (.lst [.int (-1-cell),.int<|600+cell,.bl true,.non,.str "1"]) ?_;refine pd (lV<|by rw[xAa];simp;lia) ?_;refine pd (cN ∅) ?_;refine pd (v:=.int (othr Q.pl pls).length) (S':=S) (by show Res.ok (.int (((othr Q.pl pls).map U.int).length:Nat)) S=_;rw[xAa]) ?_;refine pv (.int (5+(othr Q.pl pls).length:Int)) ?_;refine pd (cb ()) ?_;refine pd e ?_;rw[kg h];refine pd vT ?_;refine pd (dt (A:=[.str Q.hd]) (B:=[u]) ⋯) ?_;refine pd Ai ?_;refine pd (dt (A:=[.str Q.hd,u])<|by rw[xAa];simp;lia) ?_;exact F S Kp.refl⟩
 have k:pvB u=true->zGa u=false->∃N,Fty Q sc dm pls N/\FtC Q pls ws sc cell N.u:=λa b=>⟨.bad (.tup (.str Q.hd::u::Q.fi.map (·.2))),gj λwi=>(uA (qY h) (iY h) a b (m4 h)<|by rw[xAa,xAa]).mono (),m rfl⟩
 have p:∀{n:Int},u=.int n->¬ okP n->∃N,Fty Q sc dm pls N/\FtC Q pls ws sc cell N.u:=λ{n} a b=>⟨Q.sp n,⟨(uT t).wb,.inl<|yv h b⟩,m<|by rw[yu h,a]⟩
 rcases xAj.mp hu with hu|hu
 .simp only[xAv,xBv,or_false] at hu;rcases hu with rfl|rfl|rfl|rfl|rfl
  .exact p rfl λz=>by have:=z.1;lia
  .exact p rfl λz=>by have:=z.2;lia
  .exact k rfl rfl
  .exact k rfl rfl
  .exact k rfl rfl
 .let⟨o,G,rfl⟩:=xA2.mp hu;let⟨o1,o2⟩:=List.mem_filter.mp G;have o2:o≠Q.pl:=by simpa using o2
  exact⟨Q.sp o,⟨(uT t).wb,.inr ⟨o,o1,o2,vS h⟩⟩,m<|yu h⟩
def ft2(h:zAh Q=true)(t:cell%5=2\/Q.so=""/\cell%5≠0/\cell%5≠1)(G:0<=cell):∃N,Fty Q sc dm pls N/\FtC Q pls ws sc cell N.u:=by
 let⟨A,w,eA⟩:=mO h;have F:=qP h;have C:=ie h;let⟨u,k,e⟩:=cZ (L:=[.tup<|Q.it++[w],.tup A,.lst Q.it,.tup [.str Q.hd]]) (i:=cell / 5%4) (by show 0<=cell / 5%4/\cell / 5%4<4;lia);refine⟨.bad u,gj λwi=>?_,⟨λ{fw d S x K} p=>?_⟩⟩
 .simp only[xAv,xBv,or_false] at k;rcases k with rfl|rfl|rfl|rfl
  .exact(mH h).mono ()
  .exact(mJ h eA).mono ()
  .exact(db rfl rfl).mono ()
  .exact(cX ⋯).mono ()
 .have a:∀{T:So}{m a7 a8:A3 U},Kp S T->(sR<|J5 (cP (.lst false)<|Jo (J0 (.add false) J2<|Js<|J5 J2<|J4 .neg Jc) (J0 (.sl false false true) J2<|J4 .neg Jc) (J4 (.lstOf false) J2)<|J0 (.sl false false true) J2 Jc)<|J0 .mod (J0 .fdiv J7 Jq) Jy) (Gd fw<|d+3) [some Q.u,some<|.lst<|pls.map .int,some<|scU ws,some<|scU sc,some<|.int cell,some<|.int<|cell%5,m,a7,a8] T (zAn x K):=λ{T m a7 a8} n=>by
   rw[oU h];erw[pv (.int (-1)),pd (v:=w) (S':=T) (by show opt (atI Q.it (-1)) T=_;rw[eA,sd];rfl),pd (dt (A:=Q.it) (B:=[w])<|by simp;lia),pv (.int (-1)),pd (v:=.tup A) (S':=T) (by rw[eA];exact pV),pv (.lst Q.it),pd (v:=.tup [.str Q.hd]) (S':=T) (by rw[C];exact vT),pv (.lst [.tup<|Q.it++[w],.tup A,.lst Q.it,.tup [.str Q.hd]]),pd (cN ∅),pd (cb ∅),pd e,<-p T n]
  erw[cd ⟨5,9,t38⟩,pd (cb ∅),pd cj];rw[xCn ()];erw[bF,pd cj];rw[xCn ()];erw[bF,pd cj];by_cases g:cell%5=2
  .rw[xBd g];erw[bT,bT,<-a Kp.refl]
  .rw[xCn g];erw[bF,pd (jQ h),<-jn h λS1 o=>?_];have b:Q.so="":=(t.resolve_left g).1;erw[pd (cW b),bT];exact a o
end
section
variable{th sc ws:A9}{wi:Int}{P Q:Pg}{v:U}{D dm d fw:Nat}{s:Str}{S:So}{x:B8}{K:B7}{cell:Int}{pls:B2}
def ltr(s:Str):Nat:=if s="number" then 110 else if s="used" then 117 else if s="names" then 78 else if s="part" then 69 else if s="parts" then 83 else if s="name" then 120 else if s="op" then 111 else 119
def uU(h:zAh P=true):P.so.cps.toList=P.fi.map λp=>ltr p.1:=by cases P <;> first|(cases h;done)|kernel_rfl
def FiK(p:Str×U):Prop:=p.1="number"\/p.1="used"\/p.1="name"\/p.1="word"\/p.1="op"\/(p.1="names"/\∃T,p.2=.tup T)\/(p.1="parts"/\∃T,p.2=.tup T)\/(p.1="part"/\∃Q:Pg,zAh Q=true/\p.2=Q.u)
theorem AF{N:Str->Prop}(h:Wf N sc d P):∀p∈P.fi,FiK p:=by
 have pt:∀{sc:A9}{d:Nat}{a:Pg},Wf N sc d a->FiK ("part",a.u):=λi=>.inr<|.inr<|.inr<|.inr<|.inr<|.inr<|.inr ⟨rfl,_,i.nh,rfl⟩;have nm:∀{T:B0},FiK ("names",.tup T):=.inr<|.inr<|.inr<|.inr<|.inr<|.inl ⟨rfl,_,rfl⟩;have ps:∀{T:B0},FiK ("parts",.tup T):=.inr<|.inr<|.inr<|.inr<|.inr<|.inr<|.inl ⟨rfl,_,rfl⟩;have n:∀{u:U},FiK ("word",u):=.inr<|.inr<|.inr<|.inl rfl;have w:∀{u:U},FiK ("name",u):=.inr<|.inr<|.inl rfl;have us:∀{u:U},FiK ("used",u):=.inr<|.inl rfl;have B:∀{u:U},FiK ("op",u):=.inr<|.inr<|.inr<|.inr<|.inl rfl;have k:∀p∈([]:A0<|Str×U),FiK p:=λ_ z=>nomatch z;have c1:∀{a:Str×U}{l:A0<|Str×U},FiK a->(∀p∈l,FiK p)->∀p∈a::l,FiK p:=λI h2 p z=>(xAv.mp z).elim (λe=>e▸I)<|h2 p;cases h with
 |num a b=>exact c1 (.inl rfl) k
 |nam h=>exact c1 us k
 |fn h m=>exact c1 nm (c1 (pt m) k)
 |call G h H=>exact c1 (pt G) (c1 ps k)
 |lt o i m=>exact c1 w (c1 (pt i)<|c1 (pt m) k)
 |st o i=>exact c1 us (c1 (pt i) k)
 |dd i m=>exact c1 (pt i) (c1 (pt m) k)
 |iff i m t=>exact c1 (pt i) (c1 (pt m)<|c1 (pt t) k)
 |math M i m=>exact c1 B (c1 (pt i)<|c1 (pt m) k)
 |make F h H=>exact c1 n (c1 ps k)
 |mat F o i m t=>exact c1 (pt i) (c1 n<|c1 nm<|c1 (pt m)<|c1 (pt t) k)
 |rai C i=>exact c1 n (c1 (pt i) k)
 |try_ C o i m=>exact c1 (pt i) (c1 n<|c1 w<|c1 (pt m) k)
 |tell i=>exact c1 (pt i) k
 |ask=>exact k
def uG{p:Str×U}(h:FiK p)(a:3<=ws.length/\ws.length<=100)(b:∀y∈ws,zAf y=true)(e:0<=cell):∃v,zCf p.1 sc v/\BdC ⟨#[ltr p.1]⟩ p.2 ws sc cell v:=by
 let⟨s,f⟩:=p;have B:(⟨#[110]⟩:Str)="n":=by decide +kernel
 have w:(⟨#[117]⟩:Str)="u":=by decide +kernel
 have t:(⟨#[78]⟩:Str)="N":=by decide +kernel
 have o:(⟨#[69]⟩:Str)="E":=by decide +kernel
 have n:(⟨#[83]⟩:Str)="S":=by decide +kernel
 have m:(⟨#[120]⟩:Str)="x":=by decide +kernel
 have k:(⟨#[111]⟩:Str)="o":=by decide +kernel
 have i:(⟨#[119]⟩:Str)="w":=by decide +kernel
 rcases h with h|h|h|h|h|⟨h,T,hT⟩|⟨h,T,hT⟩|⟨h,Q,hQ,hT⟩ <;> dsimp only at h <;> subst h
 .rw[show ltr "number"=110 from rfl,B];exact z9 a.2 e
 .rw[show ltr "used"=117 by decide +kernel,w];exact zZ a.2 e b
 .rw[show ltr "name"=120 by decide +kernel,m];exact zX a.2
 .rw[show ltr "word"=119 by decide +kernel,i];exact zY a.2
 .rw[show ltr "op"=111 by decide +kernel,k];exact z0 a.2
 .rw[show ltr "names"=78 by decide +kernel,t];dsimp only at hT;rw[hT];exact Ab a b
 .rw[show ltr "parts"=83 by decide +kernel,n];dsimp only at hT;rw[hT];exact Aa a.2
 .rw[show ltr "part"=69 by decide +kernel,o];dsimp only at hT;rw[hT];exact Ac a.2 hQ
def zE4{i:Int}{L:A0<|Str×U}(h:0<=i/\i<L.length):∃A p B,L=A++p::B/\i=(A.length:Nat):=by
 let⟨j,rfl⟩:=Int.eq_ofNat_of_zero_le h.1;have a:j<L.length:=by lia
 refine⟨L.take j,L[j],L.drop<|j+1,by rw[<- xB2 a,List.take_append_drop],?_⟩;rw[xAn,Nat.min_eq_left ()]
theorem sx{A B:A0 J}{p q:J}:(A++p::B).set A.length q=A++q::B:=by
 induction A with
 |nil=>rfl
 |cons a A b=>show a::(A++p::B).set A.length q=_;rw[b];rfl
def ft3(w:Wf (zAf ·=true) sc dm Q)(I:∀y∈sc,zAf y=true)(M:sc.length+5*dm<=1000)(o:Q.fi≠[])(C:cell%5≠0/\cell%5≠1/\cell%5≠2)(Z:0<=cell)(H:3<=ws.length/\ws.length<=100)(n:∀y∈ws,zAf y=true):∃N,Fty Q sc dm pls N/\FtC Q pls ws sc cell N.u:=by
 have h:=w.nh;have fl:=fm h;have a:0<(Q.fi.length:Int):=by have:=List.length_pos_iff.mpr o;lia
 let⟨A,p,B,e,O⟩:=zE4 (L:=Q.fi) (i:=cell / 5%Q.fi.length) ⟨xBa _ (),xBb _ a⟩;have Y:A.length+B.length+1=Q.fi.length:=by rw[e,xAb,xAo];lia
 let⟨v,W,X⟩:=uG (ws:=ws) (sc:=sc) (cell:=cell / 100) (AF w p<|by rw[e];simp) H n ();have k:Q.so.length=Q.fi.length:=by
  show Q.so.cps.size=_;rw[<- xAh,uU h,xAa]
 have F:Q.u=.tup ((.str Q.hd::.int Q.pl::A.map (·.2))++p.2::B.map (·.2)):=by rw[kg h,e,xAi];rfl
 refine⟨.bad (.tup (.str Q.hd::.int Q.pl::(Q.fi.set A.length (p.1,v)).map (·.2))),gj λwi=>uo w I M (i:=A.length) (s:=p.1) (v0:=p.2) (by rw[e];simp) W wi,⟨λ{fw d S x K} t=>?_⟩⟩;have R:(Pg.bad (.tup (.str Q.hd::.int Q.pl::(Q.fi.set A.length (p.1,v)).map (·.2)))).u=.tup (((.str Q.hd::.int Q.pl::A.map (·.2))++[v])++B.map (·.2)):=by
  show U.tup (.str Q.hd::.int Q.pl::(Q.fi.set A.length (p.1,v)).map (·.2))=_;rw[e,sx,xAi,xAx];rfl
 rw[R] at t;have b:(U.str Q.hd::U.int Q.pl::A.map (·.2)).length=2+A.length:=by simp;lia
 generalize hA:(U.str Q.hd::U.int Q.pl::A.map (·.2))=A2 at F t b;refine cd ⟨5,9,t38⟩ ?_;refine pd (cb ∅) ?_;refine pd cj ?_;rw[xCn C.1];refine bF ?_;refine pd cj ?_;rw[xCn C.2.1];refine bF ?_;refine pd cj ?_;rw[xCn C.2.2];refine bF ?_;refine pd (jQ h) ?_;refine jn h λS1 k1=>?_;refine pd (cJ λz=>by rw[z] at k;have e0:(("":Str)).length=0:=(by decide +kernel);lia) ?_;refine bF ?_;refine pd (cN ∅) ?_;refine pd (jQ h) ?_;refine jn h λS2 k2=>?_;refine pd (v:=.int Q.fi.length) (S':=S2) (by show fits Q.so.length (.ok (.int (Q.so.length:Nat)) S2)=_;rw[k];exact zA2 (by show _<=2 ^ 24;lia)) ?_;refine pd (cb a) ?_;rw[O];refine pd (jQ h) ?_;refine jn h λS3 G=>?_;refine pd (v:=.str ⟨#[ltr p.1]⟩) (S':=S3) (by
  show(match atI Q.so.cps.toList ((A.length:Nat):Int) with|some c=>fits Q.so.length (.ok (.str ⟨#[c]⟩) S3)|none=>.stuck)=_;rw[dh (v:=ltr p.1)<|by rw[uU h,e];simp];dsimp only;rw[zA2<|by rw[k];show _<=2^24;lia]) ?_
 erw[pd (v:=.int ((2+A.length:Nat):Int)) (S':=S3) dI];rw[F];erw[pd (pR<|by rw[b]),pd (cN ∅),X.h,pd (v:=.int ((2+A.length:Nat):Int)) (S':=S3) dI,pd (pP (m:=false)<|by rw[b]),pd (dt (A:=A2) (B:=[v])<|by rw[b];simp;lia),pd (v:=.int<|3+(A.length:Nat)) (S':=S3) rfl,<-pd (v:=.tup (B.map (·.2))) (S':=S3) ?_ ?_]
 .have:=fF (m:=false) (S:=S3) (A:=A2++[p.2]) (B:=B.map (·.2)) (j:=3+(A.length:Nat)) (by rw[xAb,b];simp;lia);rw[xAx] at this;exact this
 erw[pd (dt (A:=A2++[v]) (B:=B.map (·.2))<|by rw[xAb,b,xAa];simp;lia),<-t S3<|k1.trans<|k2.trans G]
def ow(a:Wf (zAf ·=true) sc dm Q)(k:∀y∈sc,zAf y=true)(n:sc.length+5*dm<=1000)(b:0<=cell)(i:3<=ws.length/\ws.length<=100)(e:∀y∈ws,zAf y=true)(m:pls.length<=1000):∃N,Fty Q sc dm pls N/\FtC Q pls ws sc cell N.u:=by
 by_cases h0:cell%5=0
 .exact ft0 a.nh h0 b
 by_cases h1:cell%5=1
 .exact ft1 a h1 b m
 by_cases h2:cell%5=2
 .exact ft2 a.nh (.inl h2) b
 by_cases h3:Q.fi=[]
 .exact ft2 a.nh (.inr ⟨(by cases a <;> first|rfl|(cases h3;done)),h0,h1⟩) b
 .exact ft3 a k n h3 ⟨h0,h1,h2⟩ b i e
end
section
variable{fw d:Nat}{S:So}{x:B8}{K:B7}{xs:B2}
def fE{a b:Int}(h:a.natAbs<2^60\/b.natAbs<2^60):pr ups .mul [.int a,.int b] S=.ok (.int<|a*b) S:=by
 show(match decide (a.natAbs<2^150/\b.natAbs<2^150\/b.natAbs<2^60\/a.natAbs<2^60) with|true=>Res.ok (.int<|a*b) S|false=>.stuck)=_;rw[xBd<|.inr h.symm]
def cl(xs:B2)(k:Nat):Int:=if k<xs.length then xs.getD k 0 else if xs=[] then(k:Int)*48271%65537 else xs.getD (k%xs.length) 0*48271%2147483647+7919*k
def vm{j:Nat}(h:j<xs.length):pr ups .ix [.kl<|xs.map .int,.int (j:Nat)] S=.ok (.int<|xs.getD j 0) S:=by
 have e:xs.getD j 0=xs[j]:=by rw[xBz,xAk h];rfl
 rw[e];exact td (v:=.int xs[j]) (by rw[xAw,xAk h];rfl)
def dJ{k:Nat}(e:k<=1000)(a:K (.int<|cl xs k) S):(Gd fw<|d+1).call 17 [.kl<|xs.map .int,.int (k:Nat)] S x K:=by
 unfold cl at a;erw[cd ⟨2,2,t17⟩,pd (v:=.int xs.length) (S':=S) (by show Res.ok (.int ((xs.map U.int).length:Nat)) S=_;rw[xAa]),pv (.bl<|decide<|(k:Int)<xs.length)];by_cases h:k<xs.length
 .rw[xBd ()];rw[xCg h] at a;erw[bT,<-pd (vm h) a]
 rw[xCn ()];rw[xCf h] at a;erw[bF,pv (.lst []),pd (v:=.bl (xs.map U.int).isEmpty) (S':=S) rfl];by_cases h0:xs=[]
 .rw[xCg h0] at a;rw[h0];erw[bT,pd (fE<|.inr ∅),<-pd (cb ∅) a]
 rw[xCf h0] at a;have b:0<xs.length:=List.length_pos_iff.mpr h0;rw[show(xs.map U.int).isEmpty=false by rw[List.isEmpty_eq_false_iff];simpa using h0];erw[bF,pd (v:=.int xs.length) (S':=S) (by show Res.ok (.int ((xs.map U.int).length:Nat)) S=_;rw[xAa]),pd (v:=.int ((k%xs.length:Nat):Int)) (S':=S) (by rw[Int.natCast_emod];exact cb ()),pd (vm<|Nat.mod_lt _ b),pd (fE<|.inr ∅),pd (cb ∅),pd (fE<|.inl ∅),<-pv (.int<|xs.getD (k%xs.length) 0*48271%2147483647+7919*k) a]
def lg(c:Int)(a k j:Nat):Nat:=((c / 64+(j:Int)*(c / 1664)+(if j=a then(k:Int) else 0))%26).toNat
def cds(c:Int)(a k sz:Nat):B1:=(List.range sz).map<|lg c a k
def nmz(w:Str):Str:=if zA1 (.str w) (zBk.map .str)=true then w++"z" else w
def nm(c:Int)(a k sz:Nat):Str:=nmz<|zA4<|cds c a k sz
def sr{i:Nat}:zA4 is++(⟨#[97+i]⟩:Str)=zA4 (is++[i]):=by
 show(⟨(is.map (97+·)).toArray++#[97+i]⟩:Str)=⟨((is++[i]).map (97+·)).toArray⟩;simp
def iE{a b:Str}(h:a.length+b.length<=10000):pr ups (.add false) [.str a,.str b] S=.ok (.str<|a++b) S:=zA2 (by show _<=2^24;lia)
theorem jO{c:Int}{a k:Nat}{E:Ee Prop}{kk:Sg->So->Prop}{a1 a3 o:A3 U}:∀{n j:Nat}{is:B1}{a8 b:A3 U},is.length+n<=100->j+n<=100->(∀a8 b,kk [some<|.int c,a1,some<|.str ltrs,a3,some<|.int (a:Nat),o,some<|.int (k:Nat),some<|.str<|zA4<|is++(List.range' j n).map (lg c a k),a8,b] S) ->
  zB3 (zBi (j:Nat) n) (λw σ1 S2 nx=>tgt [8] true (Gd fw d) w σ1 λσ2=>inb (Gd fw d) σ2 S2<|lpE E nx) [some<|.int c,a1,some<|.str ltrs,a3,some<|.int (a:Nat),o,some<|.int (k:Nat),some<|.str<|zA4 is,a8,b] S kk
 |0,j,is,a8,b,_,_,m=>by
  have:=m a8 b;rw[List.range'_zero,List.map_nil,xB0] at this;exact this
 |n+1,j,is,a8,b,t,p,m=>by
  erw[pd (cN ∅),pd (cN ∅),pd (fE<|.inl ()),pv (.int<|c / 64+(j:Int)*(c / 1664)),pd cj];have i:∀{v:Int},v=c / 64+(j:Int)*(c / 1664)+(if j=a then(k:Int) else 0)->(Jm<|sA 7<|J0 (.add false) Jr<|J5 J8<|J0 .mod Jz<|J9 26) (Gd fw d) [some<|.int c,a1,some<|.str ltrs,a3,some<|.int (a:Nat),o,some<|.int (k:Nat),some<|.str<|zA4 is,some<|.int (j:Nat),some<|.int v] S (lpE E λσ1 S1=>zB3 (zBi ((j:Nat)+1) n) (λw σ1 S2 nx=>tgt [8] true (Gd fw d) w σ1 λσ2=>inb (Gd fw d) σ2 S2<|lpE E nx) σ1 S1 kk):=λ{v} e=>by
   erw[pd (cb ∅),pd (nK ⟨xBa _ ∅,xBb _ ∅⟩)];rw[show(v%26).toNat=lg c a k j by rw[e];rfl];erw[pd (v:=.str<|zA4<|is++[lg c a k j]) (S':=S) (by rw[<- sr];exact iE (by rw[ir];show _+1<=_;lia)),<-jO (n:=n) (j:=j+1) (is:=is++[lg c a k j]) (by simp;lia) () λa8 b=>?_];have:=m a8 b;rw[xAx];exact this
  by_cases g:j=a
  .rw[xBd ()];erw[bT,pv (.int<|c / 64+(j:Int)*(c / 1664)+k),<-i (by rw[xCg g])]
  .rw[xCn ()];erw[bF,<-i (by rw[xCf g,Int.add_zero])]
def yJ(h:j=0\/j=1):pr ups .mul [.str "z",.int j] S=.ok (.str<|if j=1 then "z" else Str.empty) S:=by
 show(match decide (0<=j/\j<=1) with|true=>fits ("z":Str).length (.ok (.str<|if j=1 then "z" else Str.empty) S)|false=>.stuck)=_;rw[xBd ()];exact zA2 (by rw[show("z":Str).length=1 by decide +kernel];show 1<=2^24;decide)
theorem jA{c:Int}{sz a q:Nat}{E:Ee Prop}{kk:Sg->So->Prop}{a1:A3 U}(I:sz<=8):∀{n k:Nat}{ws:A9}{S:So}{m a7 a8 i:A3 U},ws.length+n<=100->k+n<=100->at? S q=some (.lst<|ws.map .str) ->
  (∀S' m a7 a8 i,S'.length=S.length->(∀{p o},p≠q->at? S p=some o->at? S' p=some o)->at? S' q=some (.lst<|(ws++(List.range' k n).map λk=>nm c a k sz).map .str)->kk [some<|.int c,a1,some<|.str ltrs,some<|.int (sz:Nat),some<|.int (a:Nat),some<|.ref q,m,a7,a8,i] S') ->
  zB3 (zBi (k:Nat) n) (λw σ1 S2 nx=>tgt [6] true (Gd fw<|d+1) w σ1 λσ2=>oub (Gd fw<|d+1) σ2 S2<|lpE E nx) [some<|.int c,a1,some<|.str ltrs,some<|.int (sz:Nat),some<|.int (a:Nat),some<|.ref q,m,a7,a8,i] S kk
 |0,k,ws,S,m,a7,a8,i,_,_,t,B=>B S m a7 a8 i rfl (λ_ z=>z) (by rw[List.range'_zero,List.map_nil,xB0];exact t)
 |n+1,k,ws,S,m,a7,a8,i,P,O,t,B=>by
  erw[pd (gr ())];rw[xC3];refine jO (n:=sz) (j:=0) (is:=[]) (by simp;lia) () λa8 i=>?_;rw[xC6,show(List.range' 0 sz).map (lg c a k)=cds c a k sz by unfold cds;rw[List.range_eq_range']];erw[pd (eW t),jP,pd (v:=.bl<|zA1 (.str<|zA4<|cds c a k sz)<|zBk.map .str) (S':=S) rfl];have F:(zA4<|cds c a k sz).length=sz:=by rw[ir];unfold cds;rw[xAa,List.length_range]
  have H:(("z":Str)).length=1:=by decide +kernel
  have C:∀{w:Str},w=nm c a k sz->at? (set S q<|.lst<|ws.map .str++[.str w]) q=some (.lst<|(ws++[nm c a k sz]).map .str):=λ{w} e=>by
   rw[e,zAc t,xAi];rfl
  have go:∀{w:Str}{i:A3 U},w=nm c a k sz->zB3 (zBi ((k:Nat)+1) n) (λw σ1 S2 nx=>tgt [6] true (Gd fw<|d+1) w σ1 λσ2=>oub (Gd fw<|d+1) σ2 S2<|lpE E nx) [some<|.int c,a1,some<|.str ltrs,some<|.int (sz:Nat),some<|.int (a:Nat),some<|.ref q,some<|.int (k:Nat),some<|.str<|zA4<|cds c a k sz,a8,i] (set S q<|.lst<|ws.map .str++[.str w]) kk:=λ{w i} e=>by
   erw[<-jA I (n:=n) (k:=k+1) (ws:=ws++[nm c a k sz]) (by simp;lia) () (C e) λS' m a7 a8 i N M G=>?_,B S' m a7 a8 i (by rw[N,zA8]) (λn z=>M n<|atN (Ne.symm n) z)];rw[xAx] at G;exact G
  cases hb2:zA1 (.str<|zA4<|cds c a k sz) (zBk.map .str) with
  |true=>
   erw[pv (.int 1),pd (v:=.str "z") (S':=S) (yJ<|.inr rfl),pd (iE<|by rw[F,H];lia),pd (kE t<|by rw[xAa];show _<=2^24;lia)];exact go (by unfold nm nmz;rw[xCg hb2])
  |false=>
   refine pv (.int 0) ?_;refine pd (v:=.str Str.empty) (S':=S) (yJ<|.inl rfl) ?_;refine pd (v:=.str<|zA4<|cds c a k sz) (S':=S) (by
    have:zA4 (cds c a k sz)++Str.empty=zA4 (cds c a k sz):=by show(⟨_++#[]⟩:Str)=_;rw[Array.append_empty]
    have h:=iE (S:=S) (a:=zA4<|cds c a k sz) (b:=Str.empty) (by rw[F];show sz+0<=_;lia)
    rwa[this] at h) ?_
   erw[pd (kE t<|by rw[xAa];show _<=2^24;lia)];exact go (by unfold nm nmz;rw[xCf<|by rw[hb2];decide])
def si:∀w∈zBk,zAf (w++"z")=true/\w.length<=7:=by
 have:zBk.all (λw=>zAf (w++"z")&&Nat.ble w.length 7)=true:=by decide +kernel
 intro w a;have:=xCx.mp this w a;rw[xCh] at this;exact⟨this.1,xCo this.2⟩
theorem nA{w:Str}:∀{l:A9},zA1 (.str w) (l.map .str)=true->w∈l
 |y::l,h=>by
  have h:((y==w)||zA1 (.str w) (l.map .str))=true:=h;rw[Bool.or_eq_true] at h;rcases h with h|h
  .rw[eq_of_beq h];exact xAr ..
  .exact xAs _<|nA h
theorem tS{c:Int}{a k sz:Nat}(h:1<=sz/\sz<=8):zAf (nm c a k sz)=true:=by
 have b:zAs (zA4<|cds c a k sz)=true:=sk (by unfold cds;simp;lia) (by unfold cds;simp;lia) λi hi=>by
  unfold cds at hi;let⟨j,_,rfl⟩:=xA2.mp hi;unfold lg;have:=xBa (c / 64+(j:Int)*(c / 1664)+(if j=a then(k:Int) else 0)) (show(26:Int)≠0 by decide);have:=xBb (c / 64+(j:Int)*(c / 1664)+(if j=a then(k:Int) else 0)) (show(0:Int)<26 by decide);lia
 unfold nm nmz;cases hb:zA1 (.str<|zA4<|cds c a k sz) (zBk.map .str) with
 |true=>
  rw[xCg rfl];exact(si _<|nA hb).1
 |false=>
  rw[xCf ∅];unfold zAf;rw[b,hb];rfl
def zm{c:Int}{a k b sz:Nat}(w:a<sz)(G:k<20)(t:b<20)(h:k≠b):nm c a k sz≠nm c a b sz:=by
 have i:zA4 (cds c a k sz)≠zA4 (cds c a b sz):=yp (j:=a) (by
  unfold cds;rw[xAw,xAw,xAk<|by simpa using w];intro e;have e:some (lg c a k a)=some (lg c a b a):=by simpa using e
  injection e with e;unfold lg at e;rw[xCg rfl,xCg rfl] at e;lia)
 have m:∀{k:Nat},(zA4<|cds c a k sz).length=sz:=λ{k}=>by rw[ir];unfold cds;rw[xAa,List.length_range]
 have n:(("z":Str)).length=1:=by decide +kernel
 have o:∀{u v:Str},(u++v).length=u.length+v.length:=λ{u v}=>by show(u.cps++v.cps).size=_;rw[Array.size_append];rfl
 unfold nm nmz;intro e;split at e <;> split at e
 .exact i (by
   have F:(zA4<|cds c a k sz).cps++("z":Str).cps=(zA4<|cds c a b sz).cps++("z":Str).cps:=congrArg Str.cps e;have p:=congrArg Array.toList F;rw[Array.toList_append,Array.toList_append] at p;have C:=List.append_cancel_right p;have B:(zA4<|cds c a k sz).cps=(zA4<|cds c a b sz).cps:=Array.toList_inj.mp C;show(⟨(zA4<|cds c a k sz).cps⟩:Str)=⟨(zA4<|cds c a b sz).cps⟩;rw[B])
 .have:=congrArg Str.length e;rw[o,m,m,n] at this;lia
 .have:=congrArg Str.length e;rw[o,m,m,n] at this;lia
 .exact i e
set_option tactic.hygienic true
def zBa{c:Int}{n:Nat}(F:3<=n/\n<=6):∃ws:A9,(3<=ws.length/\ws.length<=6)/\ws.Nodup/\(∀y∈ws,zAf y=true)/\∀{fw d:Nat}{S:So}{x:B8}{K:B7},(∀S',Kp S S'->K (scU ws) S')->(Gd fw<|d+2).call 19 [.int c,.int (n:Nat)] S x K:=by
 let⟨b,C⟩:=Int.eq_ofNat_of_zero_le (xBa c<|show(8:Int)≠0 by decide);have B:=xBb c (show(0:Int)<8 by decide);have e:0<((1+b:Nat):Int):=by lia
 let⟨a,M⟩:=Int.eq_ofNat_of_zero_le (xBa (c / 8)<|show((1+b:Nat):Int)≠0 by lia);have I:=xBb (c / 8) e;refine⟨(List.range' 0 n).map λk=>nm c a k<|1+b,by rw[xAa,List.length_range'];exact F,?_,λy w=>?_,λ{fw d S x K} G=>?_⟩
 .refine List.pairwise_map.mpr ((List.nodup_range' (step:=1)).imp_of_mem λ{i j} hi H z=>zm () ?_ ?_ z)
  .have:=(List.mem_range'_1.mp hi).2;lia
  .have:=(List.mem_range'_1.mp H).2;lia
 .let⟨k,_,rfl⟩:=xA2.mp w;exact tS ()
 .erw[cd (d:=d+1) ⟨2,10,t19⟩,pd (cb ∅)];rw[C];erw[pd (v:=.int ((1+b:Nat):Int)) (S':=S) (by show Res.ok (.int<|(1:Int)+b) S=_;congr 2),pd (cN ∅),pd (cb e)];rw[M];erw[pd (v:=.ref S.length) (S':=S++[.lst []]) rfl];have t:at? (S++[Ob.lst []]) S.length=some (.lst<|([]:A9).map .str):=zBm;have kp:Kp S<|S++[Ob.lst []]:=Kp.app;generalize S++[Ob.lst []]=T at t kp⊢;erw[pd (gr ())];rw[xC3];erw[<-jA (sz:=1+b) () (n:=n) (k:=0) (ws:=[]) (by simp;lia) () t λS' Q a7 a8 P O e2 N=>?_,pd (lS N),<-G _ ⟨by rw[zA8,O];exact kp.len,λ{p o} z=>?_⟩];have m:p≠S.length:=by have:=zD5 z;lia
  exact atN (Ne.symm m)<|e2 m<|kp.ky z
set_option tactic.hygienic false
end
section
variable{fw d:Nat}{S:So}{x:B8}{K:B7}{xs:B2}{ws:A9}
theorem pig:∀{m:Nat}{l:B2},l.Nodup->(∀k∈l,0<k/\k<=m)->l.length<=m
 |0,[],_,_=>xAg _
 |0,k::l,_,h=>by have:=h k<|xAr ..;omega
 |m+1,l,b,h=>by
  by_cases hm:(m+1:Int)∈l
  .have i:=pig (m:=m) (b.erase (m+1:Int)) λk a=>by
    let⟨o,n⟩:=b.mem_erase_iff.mp a;have:=h k n;omega
   rw[List.length_erase_of_mem hm] at i;omega
  .have i:=pig (m:=m) b λk a=>by
    have:=h k a;have:k≠m+1:=λe=>hm (by rw[<- e];exact a);omega
   omega
def st0(pp c s h:Int):Sx:=⟨if -1-c>c then -1-c else c,s%2147483646,pp,0,h%600⟩
def o7{c s h:Int}(a:K (.ref S.length)<|S++[.dct (st0 pp c s h).kv]):(Gd fw<|d+1).call 21 [.int c,.int s,.int pp,.int h] S x K:=by
 erw[cd ⟨4,5,t21⟩,pv (.int (-1)),pv (.int (-1-c)),pv (.int<|if -1-c>c then -1-c else c),pd (cb ∅),pd (cb ∅),pd (v:=.ref S.length) (S':=S++[.dct (st0 pp c s h).kv]) (by rfl),<-a]
def vR{c s h:Int}(a:0<=pp/\pp<=80):Iv pp<|st0 pp c s h:=by
 refine⟨⟨?_,xBa _ ∅,?_⟩,⟨(by show pp=pp-0;lia),a⟩,⟨Int.le_refl _,by show(0:Int)<=10000;decide⟩⟩
 .show 0<=(if -1-c>c then -1-c else c);split <;> lia
 .show s%2147483646<2147483647;have:=xBb s (show(0:Int)<2147483646 by decide);lia
structure zDk(P:Pg):Prop where
 wf:Wf (zAf ·=true) [] 14 P
 nd:P.pls.Nodup
 le:P.pls.length<=300
 rg:∀p∈P.pls,okP p
def rD(xs:B2)(F:3<=ws.length/\ws.length<=6)(t:ws.Nodup)(O:∀y∈ws,zAf y=true):∃P,zDk P/\∀{fw d:Nat}{S:So}{x:B8}{K:B7},(∀S',Kp S S'->K P.u S')->(Gd fw<|d+60).call 20 [.kl<|xs.map .int,scU ws,.lst []] S x K:=by
 have Q:0<=1+cl xs 1 / 2%60/\1+cl xs 1 / 2%60<=80:=()
 have R:0<=cl xs 0 / 7%14/\cl xs 0 / 7%14<14:=()
 generalize hs:cl xs 2*(if decide (cl xs 1%2=0)=true then(1:Int) else 0)=s;let⟨P,I,q,b⟩:=qc (pp:=1+cl xs 1 / 2%60) (N:=(zAf ·=true)) (ws:=ws) O xp F t (n:=15) (dm:=14) ∅ ∅ (x:=st0 (1+cl xs 1 / 2%60) (cl xs 3) s<|cl xs 1 / 120) (sc:=[]) (dp:=1+cl xs 0 / 7%14) (vR Q) (by show(0:Int)+40*(14:Nat)<=2000;decide) ∅ ();have hi:I.k<=166:=by
  have:=q.hi;have e:(st0 (1+cl xs 1 / 2%60) (cl xs 3) s<|cl xs 1 / 120).k=0:=rfl;lia
 let⟨M,e,B,i⟩:=q.ks;have i:∀k∈M,0<k/\k<=166:=λk w=>by have:=i k w;have e:(st0 (1+cl xs 1 / 2%60) (cl xs 3) s<|cl xs 1 / 120).k=0:=rfl;lia
 have F:=pig (m:=166) B i;refine⟨P,⟨q.wf,?_,by rw[e,xAa];lia,λp C=>?_⟩,λ{fw d S x K} w=>?_⟩
 .rw[e];refine List.pairwise_map.mpr (B.imp_of_mem λ{a b} H G z e=>z ?_);have H:=i a H;have G:=i b G;unfold zBn at e;lia
 .rw[e] at C;let⟨k,_,rfl⟩:=xA2.mp C;unfold zBn okP;lia
 .erw[cd (d:=d+59) ⟨3,6,t20⟩,dJ (d:=d+58) (k:=2) ∅,dJ (d:=d+58) (k:=1) ∅,pd (cb ∅),pd cj,pv (.int<|if decide (cl xs 1%2=0)=true then 1 else 0),pd (fE<|.inr<|by split <;> decide)];rw[hs];erw[dJ (d:=d+58) (k:=1) ∅,pd (cN ∅),pd (cb ∅),pv (.int<|1+cl xs 1 / 2%60),dJ (d:=d+58) (k:=3) ∅,dJ (d:=d+58) (k:=1) ∅,pd (cN ∅),o7 (d:=d+58),dJ (d:=d+58) (k:=0) ∅,pd (cN ∅),pd (cb ∅),pv (.int<|1+cl xs 0 / 7%14),(b.up (lv':=59) ∅).h (d:=d) zBm,<-w _ ⟨by rw[zA8,xAb];lia,λ{p o} z=>?_⟩];have lp:=zD5 z;rw[zHk ()];exact zBy z
def zDk.chk{P:Pg}(h:zDk P):Chk P.u (P.tr.ck 0) [] 0 37:=cy h.wf.wb (λ_ z=>nomatch z) ∅ 0
def zDk.yes{P:Pg}(h:zDk P):(P.tr.ck 0 []).isSome=true:=by
 rw[Tr.ck_good (yo h.wf ∅ h.rg) (by rw[cr];exact h.nd)<|by rw[cr];exact h.le];rfl
theorem zDk.no{P Q N:Pg}{p:B1}{a:A9}{F:Pg->Pg}(h:zDk P)(sp:Sp P [] p Q a F){pls:B2}(n:∀o∈pls,o∈P.pls){k:Nat}(fl:Fil [] 14 Q a k F)(ft:Fty Q a k pls N):Chk (F N).u ((F N).tr.ck 0) [] 0 37/\((F N).tr.ck 0 []).isSome=false:=by
 refine⟨ur fl (λ_ z=>nomatch z) ∅ ft.wb 0,?_⟩;rcases ft.no with hn|⟨o,e,hne,hpl⟩
 .rw[vb λz=>?_]
  .rfl
  .let⟨wi,z⟩:=xf sp z;exact hn wi z
 .let⟨A,B,w,t⟩:=lY sp;rw[zk ?_]
  .rfl
  rw[cr,t,hpl];have e:=n o e;rw[w,kF fl.wf.nh] at e;intro m;have b:=xBq.mp m;have i:=xCb.mp<|show(o::(Q.pls.tail++B)).Nodup from b.2.1;rcases xAj.mp e with z|z
  .exact b.2.2 o z o ⋯ rfl
  .rcases xAv.mp (show o∈Q.pl::(Q.pls.tail++B) from z) with z|z
   .exact hne z
   .exact i.1 z
end
section
variable{fw d:Nat}{S:So}{x:B8}{K:B7}
def nst(pl:Int):Nat->Pg
 |0=>.ask pl
 |k+1=>.tell ((pl+((k+1:Nat):Int))%600)<|nst pl k
theorem g0{pl:Int}{E:Ee Prop}{kk:Sg->So->Prop}{b:A3 U}:∀{n k:Nat}{a3:A3 U},(∀a3,kk [b,some<|.int pl,some (nst pl<|k+n).u,a3] S) ->
  zB3 (zBi ((k+1:Nat):Int) n) (λw σ1 S2 nx=>tgt [3] true (Gd fw d) w σ1 λσ2=>(Jm<|sA 2<|Jv (J1 "tell") (J0 .mod (J0 (.add false) J3 Jb)<|J9 600) J8) (Gd fw d) σ2 S2<|lpE E nx) [b,some<|.int pl,some (nst pl k).u,a3] S kk
 |0,k,a3,a=>a a3
 |n+1,k,a3,a=>by
  erw[pv (.int<|pl+((k+1:Nat):Int)),pd (cb ∅),<-g0 (n:=n) (k:=k+1) λa3=>?_];have:=a a3;rw[show k+(n+1)=k+1+n by lia] at this;exact this
def uW{i:Int}(h:0<=i/\i<=1000)(a:0<=j/\j<=100000):pr ups .rng2 [.int i,.int j] S=.ok (.tup<|zBi i (j-i).toNat) S:=by
 delta pr;dsimp only;rw[xBd ()]
def qC{pl:Int}{n:Nat}(b:n<=10000)(a:K (nst pl n).u S):(Gd fw<|d+1).call 39 [.int ((n+1:Nat):Int),.int pl] S x K:=by
 erw[cd ⟨2,4,t39⟩,pd (uW (i:=1) (j:=((n+1:Nat):Int)) () ())];rw[show(((n+1:Nat):Int)-1).toNat=n by lia];refine g0 (n:=n) (k:=0) λa3=>?_;rw[Nat.zero_add];exact a
theorem qA{pl:Int}:∀{n:Nat},Wb [] (n+1) (nst pl n)
 |0=>.ask
 |n+1=>.tell qA
theorem mq{pl:Int}:∀{n:Nat},(nst pl n).pls.length=n+1
 |0=>rfl
 |n+1=>congrArg (·+1) mq
theorem mw{pl:Int}(a:0<=pl/\pl<600):∀{n:Nat}{o:Int},o∈(nst pl n).pls->∃k:Nat,k<=n/\o=(pl+k)%600
 |0,o,h=>⟨0,xAg _,by rw[xAm.mp<|show o∈[pl] from h];lia⟩
 |n+1,o,h=>by
  rcases xAv.mp (show o∈_::(nst pl n).pls from h) with z|z
  .exact⟨n+1,xAg _,z⟩
  .let⟨k,e,b⟩:=mw a z;exact⟨k,(),b⟩
theorem qD{pl:Int}(a:0<=pl/\pl<600):∀{n:Nat},n<600->(nst pl n).pls.Nodup
 |0,_=>xCb.mpr ⟨⋯,xC7⟩
 |n+1,h=>by
  refine xCb.mpr ⟨λz=>?_,qD a ()⟩;let⟨k,e,b⟩:=mw a z;lia
theorem qB{pl:Int}(a:0<=pl/\pl<600):∀{n:Nat}{wi:Int},wi+(n+1:Nat)<=20->(nst pl n).tr.ok wi
 |0,wi,h=>⟨⟨a.1,()⟩,by show wi+1<=20;lia,trivial⟩
 |n+1,wi,h=>⟨by unfold okP;lia,by show wi+1<=20;lia,qB a (),trivial⟩
theorem jC{pl:Int}:∀{n:Nat}{wi:Int},(nst pl n).tr.ok wi->wi+(n+1:Nat)<=20
 |0,wi,h=>by have a:wi+1<=20:=h.2.1;lia
 |n+1,wi,h=>by
  have:=jC (n:=n) (wi:=wi+1) h.2.2.1;lia
def xi{pl:Int}(a:0<=pl/\pl<600){n:Nat}(b:n<=100):Chk (nst pl n).u ((nst pl n).tr.ck 0) [] 0 (2*(n+1)+9)/\((nst pl n).tr.ck 0 []).isSome=decide (((n+1:Nat):Int)<=20):=by
 refine⟨cy qA (λ_ z=>nomatch z) (by simp;lia) 0,?_⟩;by_cases h:((n+1:Nat):Int)<=20
 .rw[xBd h,Tr.ck_good (qB a ()) (by rw[cr];exact qD a ())<|by rw[cr,xC6,mq];lia];rfl
 .rw[xCn h,vb λz=>h (by have:=jC z;lia)];rfl
theorem mx{pl:Int}:∀{j n:Nat}{wi:Int},wi=20-j->20<wi+(n+1:Nat)->Chk (nst pl n).u noF [] wi (2*j+11)
 |0,n,wi,a,i=>by
  have e:∀{q:Int}{g:B2->A3 (B2)},ndF (wi+1) q g=noF:=λ{q g}=>funext λps=>by
   unfold ndF;cases plA q ps with
   |none=>rfl
   |some r=>exact xCf ()
  cases n with
  |zero=>exact((dG (items:=[]) (b:=true) (wi':=wi+1) (D:=10) (g:=some) rfl (by rfl) (by rfl) rfl ∅ ⋯ ⋯ ∅ λz=>absurd z ()).to e)
  |succ n=>exact((dG (items:=[("part",(nst pl n).u)]) (b:=true) (wi':=wi+1) (D:=10) (g:=some) rfl (by rfl) (by rfl) rfl ∅ ⋯ ⋯ ∅ λz=>absurd z ()).to e)
 |j+1,n,wi,a,i=>by
  cases n with
  |zero=>exfalso;lia
  |succ n=>
   have c:=mx (pl:=pl) (j:=j) (n:=n) (wi:=wi+1) () ();exact((dG (items:=[("part",(nst pl n).u)]) (b:=true) (wi':=wi+1) (D:=2*(j+1)+10) (g:=noF) rfl (by rfl) (by rfl) rfl ∅ ⋯ ⋯ () λ_=>Its.bad tn (ja<|ap0<|c.mono (by lia:2*j+11<=2*(j+1)+9)) ⋯).to qF)
def plr(p n:Nat):B2:=(List.range' (p+1) n).map λk=>((k%600:Nat):Int)
def l0{p a b:Nat}:plr p (a+b)=plr p a++plr (p+a) b:=by
 unfold plr;rw[<- xAi,show p+a+1=p+1+a by lia,List.range'_append_1]
end
section
variable{fw d:Nat}{S:So}{x xc:B8}{K:B7}
def plD(p:Nat):A0<|Key×U:=[(.inr "place",.int ((p%600:Nat):Int))]
structure Wi(m D p:Nat)(P:Pg):Prop where
 wb:Wb [] D P
 ok:∀wi,wi+(D:Int)<=20->P.tr.ok wi
 pl:P.pls=plr p m
 h:∀{fw d q:Nat}{S:So}{x:B8}{K:B7},at? S q=some (.dct (plD p))->K P.u (set S q (.dct (plD (p+m))))->(Gd fw (d+D+1)).call 40 [.int (m:Nat),.ref q] S x K
def WiH(B D:Nat):Prop:=∀m p,1<=m->m<=B->∃P,Wi m D p P
theorem pF{B D:Nat}(H:WiH B D):∀{l:B1}{p:Nat},(∀m∈l,1<=m/\m<=B)->∃as:A0 Pg,as.length=l.length/\(∀a∈as,Wb [] D a)/\(∀wi,wi+(D:Int)<=20->∀a∈as,a.tr.ok wi)/\Pg.plss as=plr p l.sum/\∀{fw d q:Nat}{S:So}{x:B8}{K:B7}{ys:B0},at? S q=some (.dct<|plD p)->K (.lst<|ys++Pg.us as) (set S q<|.dct<|plD<|p+l.sum)->lcK (Gd fw<|d+D+1) (lcB [1] true [none,none,some<|.ref q] none (Jg 40 J3 J8) (Gd fw<|d+D+1) x) (l.map λm=>.int ((m:Nat):Int)) ys S K
 | [],p,_=>⟨[],rfl,(λ_ z=>nomatch z),(λ_ _ _ z=>nomatch z),rfl,λ{fw d q S x K ys} h b=>by
  rw[Pg.us,xB0,show p+([]:B1).sum=p from rfl,zBq h] at b;exact b⟩
 |m::l,p,e=>by
  let⟨P,W⟩:=H m p (e m<|xAr ..).1 (e m<|xAr ..).2;let⟨as,o,k,o1,p1,f⟩:=pF H (l:=l) (p:=p+m) λz n=>e z<|xAs _ n;refine⟨P::as,congrArg (·+1) o,λa ha=>?_,λwi i a ha=>?_,?_,λ{fw d q S x K ys} h b=>?_⟩
  .rcases xAv.mp ha with rfl|ha
   .exact W.wb
   .exact k a ha
  .rcases xAv.mp ha with rfl|ha
   .exact W.ok wi i
   .exact o1 wi i a ha
  .show P.pls++Pg.plss as=_;rw[W.pl,p1,List.sum_cons,l0]
  .erw[W.h h,f (zAc h)];rw[zAa,xAx];rw[List.sum_cons,<- Nat.add_assoc] at b;exact b
def sz(m s k:Nat):Nat:=m / s+(if k<m%s then 1 else 0)
theorem vf{m s:Nat}(b:1<=s/\s<=4)(e:m<=1000):∀{n j:Nat}{ys:B0},j+n<=10->K (.lst<|ys++(List.range' j n).map λk=>.int ((sz m s k:Nat):Int)) S->lcK (Gd fw d) (lcB [1] true [none,none,some<|.int (s:Nat),some<|.int ((m+1:Nat):Int)] none (J0 (.add false) (J0 .fdiv (J0 .sub Jb Jc) J8)<|J4 .int1<|cB<|tB<|J0 .lt J3<|J0 .mod (J0 .sub Jb Jc) J8) (Gd fw d) xc) (zBi (j:Nat) n) ys S K
 |0,j,ys,_,a=>by
  rw[List.range'_zero,List.map_nil,xB0] at a;exact a
 |n+1,j,ys,i,a=>by
  refine pd (v:=.int (m:Nat)) (S':=S) (by show Res.ok (.int<|((m+1:Nat):Int) - 1) S=_;congr 2;lia) ?_;refine pd (v:=.int ((m / s:Nat):Int)) (S':=S) (by rw[Int.natCast_ediv];exact cN ()) ?_;refine pd (v:=.int (m:Nat)) (S':=S) (by show Res.ok (.int<|((m+1:Nat):Int) - 1) S=_;congr 2;lia) ?_;refine pd (v:=.int ((m % s:Nat):Int)) (S':=S) (by rw[Int.natCast_emod];exact cb ()) ?_;refine pd (v:=.bl<|decide<|(j:Int)<((m % s:Nat):Int)) (S':=S) rfl ?_;refine pd (v:=.int<|if decide ((j:Int)<((m % s:Nat):Int))=true then 1 else 0) (S':=S) rfl ?_;refine pd (v:=.int ((sz m s j:Nat):Int)) (S':=S) (by
   show Res.ok (.int<|((m / s:Nat):Int)+(if decide ((j:Int)<((m%s:Nat):Int))=true then 1 else 0)) S=_;unfold sz;by_cases g:j<m%s
   .rw[xBd (),xCg rfl,xCg g];rfl
   .rw[xCn (),xCf ∅,xCf g];rfl) ?_
  erw[vf b e (n:=n) (j:=j+1) (ys:=ys++[.int ((sz m s j:Nat):Int)]) ()];rw[xAx];exact a
def vP{m s:Nat}(o:1<=s/\s<=4)(h:s<=m):(((List.range' 0 s).map<|sz m s).sum=m)/\∀k∈(List.range' 0 s).map (sz m s),1<=k/\k<=(m+s-1) / s:=by
 have e:s=1\/s=2\/s=3\/s=4:=()
 have a:∀{P:Nat->Prop},(∀k<s,P<|sz m s k)->∀k∈(List.range' 0 s).map (sz m s),P k:=λi k b=>by
  let⟨j,n,rfl⟩:=xA2.mp b;exact i j (by have:=(List.mem_range'_1.mp n).2;lia)
 refine⟨?_,a λk b=>?_⟩
 .rcases e with rfl|rfl|rfl|rfl;all_goals
   simp only[List.range',xBs,List.map_nil,List.sum_cons,List.sum_nil,sz]
   repeat' split
   all_goals lia
 .unfold sz;rcases e with rfl|rfl|rfl|rfl;all_goals
   split
   all_goals lia
def yr:zAs "tag"=true:=by decide +kernel
def gZ{p:Nat}:pr ups .mod [.int<|((p%600:Nat):Int)+1,.int 600] S=.ok (.int (((p+1)%600:Nat):Int)) S:=by
 rw[cb ∅];congr 2;lia
def f7{B:Nat}(H:WiH B D)(N:B<=200):WiH (4*B+1)<|D+1:=by
 intro m p R Q;have first:∀{q:Nat}{S:So}{y:U}{E:Ee Prop}{t:B5}{fw d:Nat},at? S q=some (.dct<|plD p)->t (Gd fw d) [some y,some<|.ref q,some<|.int (((p+1)%600:Nat):Int),none,none] (set S q<|.dct<|plD<|p+1) E->(sQ (sP .seti (J0 .mod (J0 (.add false) (J5 J3<|J1 "place") Jc)<|J9 600)<|zAv J3<|J1 "place")<|sQ (sA 2<|J5 J3<|J1 "place") t) (Gd fw d) [some y,some<|.ref q,none,none,none] S E:=λ{q S y E t fw d} h k=>by
  erw[pd (dN h rfl),pv (.int<|((p%600:Nat):Int)+1),pd gZ,pd (iC h<|by show 1+1<=2^24;decide),pd (dN (zAc h) rfl),<-k]
 by_cases hm:m=1
 .subst hm;erw[<-⟨.num (((p+1)%600:Nat):Int) 1,⟨.num ∅ ∅,λwi I=>⟨by unfold okP;lia,by show wi<=20;lia,trivial⟩,rfl,λ{fw d q S x K} h i=>?_⟩⟩,cd (d:=d+(D+1)) ⟨2,5,t40⟩,first h,pv (.bl true),bT,<-i]
 .obtain⟨b,rfl⟩:∃b,m=b+1:=⟨m-1,()⟩
  obtain⟨s,P⟩:∃s,s=min 4 b:=⟨_,rfl⟩
  have e:1<=s/\s<=4:=()
  let⟨o,w⟩:=vP (m:=b) (s:=s) e ();have C:b<=900:=by lia
  let⟨as,O,F,o1,p1,f⟩:=pF H (l:=(List.range' 0 s).map<|sz b s) (p:=p+1) λk i=>⟨(w k i).1,xCk (w k i).2 (by
   rcases(show s=1\/s=2\/s=3\/s=4 by lia) with g|g|g|g <;> subst g <;> lia)⟩
  have G:as.length<=4:=by rw[O,xAa,List.length_range'];exact e.2
  rw[o] at p1;refine⟨.make (((p+1)%600:Nat):Int) "tag" as,⟨.make yr F G,λwi I=>⟨by unfold okP;lia,by show wi+1<=20;lia,iM λa M=>o1 (wi+1) () a M⟩,?_,λ{fw d q S x K} h i=>?_⟩⟩
  .show(((p+1)%600:Nat):Int)::Pg.plss as=_;rw[p1,show b+1=1+b by lia,l0];rfl
  .erw[cd (d:=d+(D+1)) ⟨2,5,t40⟩,first h,pd (v:=.bl false) (S':=_) (by show Res.ok (.bl<|decide<|((b+1:Nat):Int)=1) _=_;rw[xCn ()]),bF,pd (v:=.int (b:Nat)) (S':=_) (by show Res.ok (.int<|((b+1:Nat):Int)-1) _=_;congr 2;lia),pd (v:=.int (s:Nat)) (S':=_) (by show Res.ok (.int<|if((b:Nat):Int)<4 then((b:Nat):Int) else 4) _=_;congr 2;split <;> lia),pd (gr ())];rw[xC3];erw[<-bI (λ_=>?_) λz=>absurd (eJ (n:=(zBi ((0:Nat):Int) s).length)<|by rw[zAw];lia) (by rw[show Nat.ble (zBi ((0:Nat):Int) s).length sizeLine=false from z];decide),vf e () (n:=s) (j:=0) (ys:=[]) ()];rw[xC6];erw[pv (.tup<|(List.range' 0 s).map λk=>.int ((sz b s k:Nat):Int)),<-bI (λ_=>?_) λz=>absurd (eJ (n:=((List.range' 0 s).map λk=>U.int ((sz b s k:Nat):Int)).length)<|by rw[xAa,List.length_range'];lia) (by rw[z];decide)];rw[show((List.range' 0 s).map λk=>U.int ((sz b s k:Nat):Int))=((List.range' 0 s).map<|sz b s).map λm=>U.int ((m:Nat):Int) by rw[List.map_map];rfl];erw[f (fw:=fw) (d:=d) (ys:=[]) (zAc h)];rw[xC6,o,zAa];erw[pv (.tup<|Pg.us as)];rw[show p+1+b=p+(b+1) by lia];exact i
def Af:WiH 1 0:=by
 intro m p i e;obtain rfl:m=1:=by lia
 erw[<-⟨.num (((p+1)%600:Nat):Int) 1,⟨.num ∅ ∅,λwi b=>⟨by unfold okP;lia,by show wi<=20;lia,trivial⟩,rfl,λ{fw d q S x K} h a=>?_⟩⟩,cd (d:=d+0) ⟨2,5,t40⟩,pd (dN h rfl),pv (.int<|((p%600:Nat):Int)+1),pd gZ,pd (iC h<|by show 1+1<=2^24;decide),pd (dN (zAc h) rfl),pv (.bl true),bT,<-a]
def vG:WiH 341 4:=f7 (f7 (f7 (f7 Af ∅) ∅) ∅) ∅
def lZ{p n:Nat}:(plr p n).length=n:=by unfold plr;rw[xAa,List.length_range']
def wx{p n:Nat}(h:n<=600):(plr p n).Nodup:=by
 unfold plr;refine List.pairwise_map.mpr ((List.nodup_range' (step:=1)).imp_of_mem λ{a b} k i z e=>z ?_);have k:=List.mem_range'_1.mp k;have i:=List.mem_range'_1.mp i;lia
def sj{m p:Nat}{P:Pg}(W:Wi m 4 p P)(a:m<=341):Chk P.u (P.tr.ck 0) [] 0 17/\(P.tr.ck 0 []).isSome=decide ((m:Int)<=300):=by
 refine⟨cy W.wb (λ_ z=>nomatch z) ∅ 0,?_⟩;by_cases h:m<=300
 .rw[xBd (),Tr.ck_good (W.ok 0 ∅) (by rw[cr,W.pl];exact wx ())<|by rw[cr,W.pl,xC6,lZ];exact h];rfl
 .rw[xCn ()];cases e:P.tr.ck 0 [] with
  |none=>rfl
  |some q=>
   let⟨_,rfl,_,b⟩:=Tr.ck_some e;have:=b<|xBn _;rw[cr,W.pl,xC6,lZ] at this;exact absurd this h
end
section
variable{fw d q:Nat}{S:So}{x xc:B8}{K:B7}{P:Pg}{v:U}{D:Nat}
def TN(q:Nat)(v:U):Prop:=∀{fw d:Nat}{S:So}{x:B8}{K:B7},at? S q=some (.dct [])->(∀S',Kp S S'->K (.bl true) S')->(Gd fw<|d+70).call 41 [v,.bl false] S x K
def eZ(c:Chk v noF [] 0 D)(b:D<=60):TN q v:=λ{fw d S x K} _ a=>er (d:=d+66) (c.mono b) () rfl a
def xh{th wi:U}(b:at? S q=some (.dct []))(a:x NP S):(Gd fw<|d+3).call 9 [.ref h,.ref q,th,wi] S x K:=by
 have ty:∀{n:String},(zEi "dict" n)=false->pr ups (.isT n) [.ref q] S=.ok (.bl false) S:=λ{n} e=>by
  show(match tyU S (.ref q) with|some t=>Res.ok (.bl<|zEi t n) S|none=>.stuck)=_;unfold tyU;dsimp only;rw[b];dsimp only;rw[e]
 erw[cd (d:=d+2) ⟨4,10,t9⟩,cd (d:=d+1) ⟨1,1,t7⟩,pd (ty rfl),bF,pd (ty rfl),bF,cd (d:=d) ⟨1,1,t0⟩,pd (ty rfl),bF,bF,pd (ty rfl),bT,bT,<-a]
def vN:TN q<|.ref q:=λ{fw d S x K} h hk=>by
 erw[cd (d:=d+69) ⟨2,3,t41⟩,cd (d:=d+68) ⟨1,1,t16⟩,cd (d:=d+67) ⟨1,1,t15⟩,pd (v:=.ref S.length) (S':=S++[.ins "Checker" []]) (by rfl),cd (d:=d+66) ⟨1,1,t8⟩,pd lU,pd (jw 0 rfl (by rfl) rfl)];have C:at? (S++[.ins "Checker" [("places",.ref<|S.length+1)],.dct []]) S.length=some (.ins "Checker" [("places",.ref<|S.length+1)]):=zDj (k:=0);have b:at? (S++[.ins "Checker" [("places",.ref<|S.length+1)],.dct []]) q=some (.dct []):=zBy h;have a:Kp S<|S++[.ins "Checker" [("places",.ref<|S.length+1)],.dct []]:=Kp.app;erw[pd (eB (C:="Checker") C rfl),xh (d:=d+64) b,pv (.bl true),bT];exact pv (.bl true)<|hk _ a
theorem ve:∀{vs ys:B0}{S:So},(∀v∈vs,TN q v)->at? S q=some (.dct [])->(∀S',Kp S S'->K (.lst<|ys++vs.map λ_=>.bl true) S')->lcK (Gd fw<|d+70) (lcB [1] true [none,none] none (Jg 41 J3<|cC<|.bl false) (Gd fw<|d+70) xc) vs ys S K
 |[],ys,S,_,_,a=>by
  have:=a S Kp.refl;rw[List.map_nil,xB0] at this;exact this
 |v::vs,ys,S,h,b,a=>by
  erw[<-h v (xAr ..) b λS1 k1=>?_,<-ve (vs:=vs) (λw i=>h w<|xAs _ i) (k1.ky b) λS2 e=>?_];have:=a S2<|k1.trans e;rw[xAx];exact this
def pll(P:Pg):B2:=(P.sps []).map λt=>t.2.1.pl
theorem qJ:∀{l:A0 Spt}{ys:B0},(∀t∈l,zAh t.2.1=true)->K (.lst<|ys++l.map λt=>.int t.2.1.pl) S->lcK (Gd fw d) (lcB [1,2,3] false [none,none,none,none] none (J5 J8 Jc) (Gd fw d) xc) (enc [] l) ys S K
 |[],ys,_,a=>by
  rw[List.map_nil,xB0] at a;exact a
 |t::l,ys,h,a=>by
  erw[pd (vk<|h t<|xAr ..),qJ (l:=l) (λu b=>h u<|xAs _ b)];rw[xAx];exact a
def pc(h:zDk P){t:Spt}(a:t∈P.sps []):zAh t.2.1=true:=by
 let⟨F,sp⟩:=kj h.wf a;let⟨b,_,f⟩:=fil sp h.wf;exact f.wf.nh
def wz(h:zDk P){o:Int}(b:o∈pll P):o∈P.pls:=by
 let⟨t,a,rfl⟩:=xA2.mp b;let⟨F,sp⟩:=kj h.wf a;let⟨A,B,e,_⟩:=lY sp;rw[e,kF<|pc h a];simp
def yl(h:zDk P){ws:A9}(k:3<=ws.length/\ws.length<=6)(p:∀y∈ws,zAf y=true){t:Spt}(m:t∈P.sps []){cell:Int}(n:0<=cell):∃i:U,(∀{fw d:Nat}{S:So}{x:B8}{K:B7},(∀S',Kp S S'->K i S')->(Gd fw<|d+70).call 38 [t.2.1.u,.lst<|(pll P).map .int,scU ws,scU t.2.2,.int cell] S x K)/\∃a:U,(∀{fw d:Nat}{S:So}{x:B8}{K:B7},K a S->(Gd fw<|d+70).call 36 [P.u,phU t.1,i] S x K)/\∀{fw d:Nat}{S:So}{x:B8}{K:B7},(∀S',Kp S S'->K (.bl true) S')->(Gd fw<|d+70).call 41 [a,.bl false] S x K:=by
 let⟨F,sp⟩:=kj h.wf m;let⟨B,hd,f⟩:=fil sp h.wf;have le:=f.le;have le:t.2.2.length+5*B<=70:=le;have pl:(pll P).length<=1000:=by
  unfold pll;rw[xAa,iq h.wf];exact xCk h.le ∅
 let⟨N,ft,w⟩:=ow (pls:=pll P) (ws:=ws) (cell:=cell) f.wf (f.nm λ_ z=>nomatch z) () n ⟨k.1,()⟩ p pl;let⟨c,e⟩:=h.no sp (λo=>wz h) f ft;exact⟨N.u,λ{fw d S x K} b=>w.h (d:=d+66) b,(F N).u,λ{fw d S x K} b=>(v6 sp h.wf.wb).h () b,λ{fw d S x K} b=>er (d:=d+66) c () e b⟩
theorem ia(h:zDk P){ws:A9}(B:3<=ws.length/\ws.length<=6)(C:∀y∈ws,zAf y=true){xs:B2}{E:Ee Prop}{kk:Sg->So->Prop}{a1:A3 U}:∀{n k:Nat}{S:So}{o m a7 b a10 a11 a12 a13 a:A3 U},k+n<=100 ->
  (∀S' o m a7 b a10 a11,Kp S S'->kk [some<|.kl<|xs.map .int,a1,some<|scU ws,some P.u,some<|.lst<|enc []<|P.sps [],o,m,a7,some<|.lst<|(pll P).map .int,b,a10,a11,a12,a13,a] S') ->
  zB3 (zBi (k:Nat) n) (λw σ1 S2 nx=>tgt [9] true (Gd fw<|d+70) w σ1 λσ2=>zIz (Gd fw<|d+70) σ2 S2<|lpE E nx) [some<|.kl<|xs.map .int,a1,some<|scU ws,some P.u,some<|.lst<|enc []<|P.sps [],o,m,a7,some<|.lst<|(pll P).map .int,b,a10,a11,a12,a13,a] S kk
 |0,k,S,o,m,a7,b,a10,a11,a12,a13,a,_,p=>p S o m a7 b a10 a11 Kp.refl
 |n+1,k,S,o,m,a7,b,a10,a11,a12,a13,a,Y,p=>by
  erw[dJ (d:=d+69) (k:=k) ()];have hL:(enc []<|P.sps []).length=(P.sps []).length:=cu;have O:0<(P.sps []).length:=by
   rw[iq h.wf,kF h.wf.nh];simp
  have N:(P.sps []).length<=300:=by rw[iq h.wf];exact h.le
  generalize cl xs k=num;have H:0<=num%((P.sps []).length:Int)/\num%((P.sps []).length:Int)<(P.sps []).length:=⟨xBa _ (),xBb _ ()⟩
  let⟨v,I,e⟩:=cZ (L:=enc []<|P.sps []) (i:=num%((P.sps []).length:Int)) (by rw[hL];exact H);let⟨t,M,rfl⟩:=xA2.mp I;have Q:0<=num / ((P.sps []).length:Int)%1000000000:=xBa _ ∅;let⟨Z,X,F,W,R⟩:=yl h B C M (cell:=num / ((P.sps []).length:Int)%1000000000) Q;erw[pd (v:=.int (P.sps []).length) (S':=S) (by show Res.ok (.int ((enc []<|P.sps []).length:Nat)) S=_;rw[hL]),pd (cb ()),pd e,pv (.tup [phU<|[]++t.1,t.2.1.u,scU t.2.2]),pd (v:=.int (P.sps []).length) (S':=S) (by show Res.ok (.int ((enc []<|P.sps []).length:Nat)) S=_;rw[hL]),pd (cN ⟨(),()⟩),pv (.int 1000000000),pd (cb ∅),<-X λS1 k1=>?_,W,<-R λS2 k2=>?_,bF,<-ia h B C (n:=n) (k:=k+1) () λS' o m a7 b a10 a11 G=>p S' o m a7 b a10 a11<|k1.trans<|k2.trans G]
end
section
variable{fw d q:Nat}{S:So}{x xc:B8}{K:B7}{P:Pg}{v:U}{D:Nat}
def oth(q:Nat)(P:Pg):B0:=[.non,.int 5,.bl true,.str "x",.lst [],.tup [],.ref q,.lst P.it,.tup [P.u],.tup [.str "ask"],.tup [.str "ask",.int 1,.int 1]]
def wT:∀v∈oth q P,TN q v:=by
 intro v a;simp only[oth,xAv,xBv,or_false] at a;rcases a with rfl|rfl|rfl|rfl|rfl|rfl|rfl|rfl|rfl|rfl|rfl
 .exact eZ (db rfl rfl) ∅
 .exact eZ (db rfl rfl) ∅
 .exact eZ (db rfl rfl) ∅
 .exact eZ (db rfl rfl) ∅
 .exact eZ (db rfl rfl) ∅
 .exact eZ (cX ⋯) ∅
 .exact vN
 .exact eZ (db rfl rfl) ∅
 .exact eZ (cX ⋯) ∅
 .exact eZ (cX ⋯) ∅
 .exact eZ (jc (k:="ask") (b:=.int 1) (r:=[.int 1]) (fs:=[]) ∅ ∅ rfl (by rfl) ⋯) ∅
def xy(xs:B2)(hx:xs.length<=63)(Y:∀S,K (.bl true) S):(Gd fw<|d+80).call 42 [.kl<|xs.map .int] S x K:=by
 let⟨n,X⟩:=Int.eq_ofNat_of_zero_le (xBa (cl xs 0)<|show(4:Int)≠0 by decide);have R:=xBb (cl xs 0) (show(0:Int)<4 by decide);let⟨ws,C,o,G,W⟩:=zBa (c:=cl xs 0 / 100) (n:=3+n) ();let⟨P,ok,dr⟩:=rD xs C o G;have wl:=iq ok.wf;have pl:=ok.le;have sp:=pe ok.wf (ph:=[]) ∅ ∅ ();erw[cd (d:=d+79) ⟨1,15,t42⟩,dJ (d:=d+78) (k:=0) ∅];generalize hc0:cl xs 0=c0 at *;erw[pd (cN ∅),pd (cb ∅)];rw[X];erw[pd (v:=.int ((3+n:Nat):Int)) (S':=S) (by show Res.ok (.int<|(3:Int)+n) S=_;congr 2),<-W (d:=d+77) λS1 k1=>?_,pv (.lst []),<-dr (d:=d+19) λS2 k2=>?_,pv (.lst []),pv (.lst []),<-sp.h () λS3 k3=>?_,pv (.tup<|enc []<|P.sps []),<-bI (λ_=>?_) λz=>absurd (eJ (n:=(enc []<|P.sps []).length)<|by rw[cu];lia) (by rw[z];decide),qJ (λt O=>pc ok O)];rw[xC6,show((P.sps []).map λt=>U.int t.2.1.pl)=(pll P).map .int by unfold pll;rw[List.map_map];rfl];erw[<-er (d:=d+75) ok.chk () ok.yes λS4 k4=>?_,bF];obtain⟨m,hm,hm2⟩:∃m:Nat,(if(if(24:Int)<xs.length then(24:Int) else xs.length)>6 then(if(24:Int)<xs.length then(24:Int) else xs.length) else 6)=(m:Int)/\m<=30:=⟨(if(if(24:Int)<xs.length then(24:Int) else xs.length)>6 then(if(24:Int)<xs.length then(24:Int) else xs.length) else 6).toNat,by split <;> split <;> lia,by split <;> split <;> lia⟩
 refine pd (v:=.int xs.length) (S':=S4) (by show Res.ok (.int ((xs.map U.int).length:Nat)) S4=_;rw[xAa]) ?_;refine pv (.int<|if(24:Int)<xs.length then(24:Int) else xs.length) ?_;refine pv (.int<|if(if(24:Int)<xs.length then(24:Int) else xs.length) > 6 then(if(24:Int)<xs.length then(24:Int) else xs.length) else 6) ?_;rw[hm];refine pd (uW (i:=4) (j:=(m:Int)) () ()) ?_;refine ia (d:=d+9) ok C G (n:=((m:Int) - 4).toNat) (k:=4) () λS5 a5 a6 a7 a9 a10 a11 k5=>?_;refine pd (cN ∅) ?_;refine pd (cb ∅) ?_;refine pv (.int<|14+c0 / 3 % 13) ?_;refine pd (cN ∅) ?_;refine pd (cb ∅) ?_;refine pv (.int<|290+c0 / 5 % 21) ?_;let⟨a,ha⟩:=Int.eq_ofNat_of_zero_le (xBa (c0 / 3)<|show(13:Int)≠0 by decide);have B:=xBb (c0 / 3) (show(0:Int)<13 by decide);let⟨b,Z⟩:=Int.eq_ofNat_of_zero_le (xBa (c0 / 5)<|show(21:Int)≠0 by decide);have w:=xBb (c0 / 5) (show(0:Int)<21 by decide);rw[ha] at B ⊢;rw[Z] at w ⊢;rw[show(14+(a:Int))=((13+a+1:Nat):Int) by lia,show(290+(b:Int))=((290+b:Nat):Int) by lia];let⟨p,hp⟩:=Int.eq_ofNat_of_zero_le (xBa c0<|show(600:Int)≠0 by decide);have e:=xBb c0 (show(0:Int)<600 by decide);let⟨M,ne⟩:=xi (pl:=c0 % 600) ⟨xBa _ ∅,e⟩ (n:=13+a) ();refine pd (cb ∅) ?_;refine qC (d:=d+78) (n:=13+a) () ?_;refine pv (.bl<|decide<|((13+a+1:Nat):Int)<=20) ?_;refine er (d:=d+75) M () ne λS6 k6=>?_;refine bF ?_;refine qC (d:=d+78) (n:=1499) (pl:=0) ∅ ?_;refine er (d:=d+75) (mx (pl:=0) (j:=20) (n:=1499) (wi:=0) rfl ∅) () rfl λS7 k7=>?_;refine bF ?_;let⟨Q,WQ⟩:=vG (290+b) p () ();let⟨I,H⟩:=sj WQ ();refine pd (cb ∅) ?_;refine pd (v:=.ref S7.length) (S':=S7++[.dct<|plD p]) (by
  unfold plD;rw[show((p%600:Nat):Int)=c0%600 by lia];rfl) ?_
 erw[WQ.h (d:=d+74) (q:=S7.length) zBm,pv (.bl<|decide<|((290+b:Nat):Int)<=300),<-er (d:=d+75) I () H λS8 k8=>?_,bF,pv (.lst []),pd (v:=.ref S8.length) (S':=S8++[.dct []]) rfl];have F:at? (S8++[Ob.dct []]) S8.length=some (.dct []):=zBm;generalize S8++[Ob.dct []]=T at F⊢;erw[pd (v:=.lst P.it) (S':=T) (by rw[oU ok.wf.nh];rfl),pd (v:=.lst<|oth S8.length P) (S':=T) rfl,pv (.tup<|oth S8.length P),<-bI (λ_=>?_) λz=>absurd (eJ (n:=(oth S8.length P).length)<|by show 11<=1000;decide) (by rw[z];decide),<-ve (d:=d+9) (ys:=[]) wT F λS9 k9=>?_,pv (.bl true),bT,<-er (d:=d+75) ok.chk () ok.yes λS10 N=>?_];exact Y S10
def math:∀ns:B2,ns.length<=63->(zAx ups tab 1000000<|80+1).call 42 [.kl<|ns.map U.int] [] (λ_ _=>False) (λv _=>v=.bl true):=λns a=>by
 have:=xy ns a (fw:=1000000) (d:=1) (S:=[]) (x:=λ_ _=>False) (K:=λv _=>v=.bl true) λ_=>rfl;rw[kc] at this;exact this
end
def walk{l:PySem.W.OpenLaw}{q:Program}{e:A9}{XP:(Str->A3 A4)->Heap->Prop}{YP:World->Heap->Prop}{d:DefRec}{K:Params->xFr}(o:l.most=some 63)(i:d.params.defaults=[])(t:∀(w:World)(h:Heap),YP w h->(K w.params).In h)(F:∀(w:World)(mg:Str->A3 A4)(fa:A7)(h:Heap),(K w.params).In h->h.Ns mainGlobals mg->mg d.name=some (.ref fa) ->
   ∃m:FuncData,(∀(s:A5)(u:A4),BindsTo s m ⟨[u],[]⟩ [("_law_script",u)])/\∀b:Heap,(K w.params).In b->b.Ns mainGlobals mg->zA9 l.prog w (K w.params) mg b (CXo l.prog w) (2*(80+1)+1) fa m ["_law_script"] (zDn (K w.params) 63)) :
  PySem.W.WalkO q e XP YP l.row.toRowW d [] (λf vs=>PySem.call f vs):=
 L2.walk_of (n:=63) (k:=2*(80+1)+1) (x:="_law_script") (CX:=λw=>CXo l.prog w) (sp:=λw=>zDn (K w.params) 63) o ∅ i ⟨rfl,∅,∅,rfl⟩ t F (λ_ _ a ns p _ B=>⟨a,ns,rfl,p,B,λ_=>rfl⟩) λ_ _ _ _ _ ⟨_,_,_,_,_,_,_,_,_,_,_,_,_,z⟩=>z
end K01
end
namespace PySem.W.Fast
noncomputable abbrev tw16079494720202927694:PySem.Program:=PySem.Challenge.pw_spacewright_k01_what_is_a_program
theorem te16079494720202927694:PySem.Challenge.pw_spacewright_k01_what_is_a_program=tw16079494720202927694:=rfl
theorem te13052408679150730464:True:=⟨⟩
theorem te2469009164876924479:True:=⟨⟩
theorem te16555476440528808052:True:=⟨⟩
theorem te4868988410673395695:True:=⟨⟩
theorem te5452508617037859911:True:=⟨⟩
end PySem.W.Fast
open Fx in
set_option maxHeartbeats 0 in
open PySem PySem.W PyProof.Rows in
theorem PySem.Challenge.cw_spacewright_k01_what_is_a_program_holds : PySem.Challenge.rw_spacewright_k01_what_is_a_program.Holds := by
  w_on;o_law;k_head;(case hw=>w_witness2);k_fill
  refine K01.walk (l := PySem.Challenge.rw_spacewright_k01_what_is_a_program) rfl rfl (fun w h Y=>PySem.W.kIn_of Y) ?F;case F =>
    intro w mg fa h KX G hmg;refine' K01.all_mk KX G hmg (K01.csr ..) ?_ ?_ ?_ ?_ ?_ ?_ ?_ ?_ (dnr ..) (dnr ..) (dnr ..) (dnr ..) (dnr ..) (dnr ..) (dnr ..) (dnr ..) (mdr ..) (mdr ..) (mdr ..) (mdr ..) (dnr ..) (dnr ..) (dnr ..) (dnr ..) (dnr ..) (dnr ..) (dnr ..) (dnr ..) (dnr ..) (dnr ..) (dnr ..) (dnr ..) (dnr ..) (dnr ..) (dnr ..) (dnr ..) (dnr ..) (dnr ..) (dnr ..) (dnr ..) (dnr ..) (dnr ..) (dnr ..) (dnr ..) (dnr ..) (dnr ..) (dnr ..) (dnr ..) (dnr ..) (dnr ..) (dnr ..) ?_ ?_ ?_ ?_ ?_ ?_ ?_ ?_ ?_ ?_ ?_ ?_ ?_ ?_ (K01.tup_is ?_ ?_ ?_) ?_ (K01.tup_is ?_ ?_ ?_) ?_ ?_ ?gkFORMS ?goFORMS ?_ ?_ (K01.tup_is ?_ ?_ ?_) ?_ (K01.tup_is ?_ ?_ ?_) ?_ (K01.tup_is ?_ ?_ ?_) ?_ (K01.tup_is ?_ ?_ ?_) ?_ (K01.tup_is ?_ ?_ ?_) ?_ (K01.tup_is ?_ ?_ ?_) ?_ (K01.tup_is ?_ ?_ ?_) ?_ (K01.tup_is ?_ ?_ ?_) ?_ (K01.tup_is ?_ ?_ ?_) ?_ (K01.tup_is ?_ ?_ ?_) ?_ (K01.tup_is ?_ ?_ ?_) ?_ (K01.tup_is ?_ ?_ ?_) ?_ (K01.tup_is ?_ ?_ ?_) ?_ (K01.tup_is ?_ ?_ ?_) ?_ (K01.tup_is ?_ ?_ ?_) ?_ ?_ ?gkSCOPES ?goSCOPES ?_ ?_ (K01.tup_is ?_ ?_ ?_) ?_ (K01.tup_is ?_ ?_ ?_) ?_ (K01.tup_is ?_ ?_ ?_) ?_ (K01.tup_is ?_ ?_ ?_) K01.math;any_goals k_is
    (case gkFORMS=>exact ⟨⟨_,_,rfl,rfl⟩,⟨_,_,rfl,rfl⟩,⟨_,_,rfl,rfl⟩,⟨_,_,rfl,rfl⟩,⟨_,_,rfl,rfl⟩,⟨_,_,rfl,rfl⟩,⟨_,_,rfl,rfl⟩,⟨_,_,rfl,rfl⟩,⟨_,_,rfl,rfl⟩,⟨_,_,rfl,rfl⟩,⟨_,_,rfl,rfl⟩,⟨_,_,rfl,rfl⟩,⟨_,_,rfl,rfl⟩,⟨_,_,rfl,rfl⟩,⟨_,_,rfl,rfl⟩,True.intro⟩)
    (case goFORMS=>rfl)
    (case gkSCOPES=>exact ⟨⟨_,_,rfl,rfl⟩,⟨_,_,rfl,rfl⟩,⟨_,_,rfl,rfl⟩,⟨_,_,rfl,rfl⟩,True.intro⟩)
    (case goSCOPES=>rfl)
    all_goals first | kernel_rfl | decide | (repeat' first | exact .nil | refine .cons ⟨_, rfl⟩ ?_)
