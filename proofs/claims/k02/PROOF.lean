import PyProof.Rows.All
import Wide.All
import OpenK.AllK
import Wide.FinOn
import PyProof.EqAt
import PyProof.EqKinds
import PyProof.NeKinds
import PyProof.TupleCall
import PyProof.SetKind
import PyProof.DictKinds
import PyProof.MeetsSeq2
import PyProof.SetRoads
import PyProof.SetNew
import PyProof.Rows.SetFrom
import KE.KDictList
import PyProof.Rows.SortWalk
import KE.KDictSum
import PyProof.EnumFor
import PyProof.EnumStmt
import PyProof.EnumMake
import KE.KRevIter
import PyProof.Draws
import PyProof.CollectIter
import PyProof.TupleOfGen
import PyProof.TupleOps
import KE.KEqDict
import PyProof.WalkInts
import PyProof.PureStr
import PyProof.Rows.StrJoin2
import PyProof.StrCalls2
import PyProof.ConsumeWalk
import KE.KIntText
import PyProof.DictUpdate
import PyProof.FString
import PyProof.StrOps2
import PyProof.SliceStr2
import PyProof.StrBlockI
import PyProof.StrWalks
import OpenK.KTop
import PyProof.ZipIter
import PyProof.StrLawsTight
import PyProof.StrLawsRepr
import KE.KSortTup
import PySem.Challenge.RW_spacewright_k02_programs_written
set_option tactic.hygienic false
set_option compiler.extract_closed false
set_option genInjectivity false
set_option genSizeOf false
set_option bootstrap.genMatcherCode false
set_option Elab.async false
set_option linter.all false
set_option maxRecDepth 100000
set_option maxHeartbeats 4000000
local macro_rules|`(())=>`(by lia)
local macro_rules|`(∅)=>`(by decide)
local macro_rules|`(⋯)=>`(by simp)
def zzP:Nat->Lean.Term->Lean.MacroM (Lean.TSyntax `rcasesPat)
 |0,_=>Lean.Macro.throwUnsupported
 |n+1,t=>do
  match t with
  |`(⟨$xs,*⟩)=>
   let ys<-xs.getElems.mapM (zzP n)
   `(rcasesPat|⟨$[$ys:rcasesPat],*⟩)
  |`(_)=>`(rcasesPat|_)
  |`($x:ident)=>`(rcasesPat|$x:ident)
  |_=>Lean.Macro.throwUnsupported
local macro_rules|`(tactic|let ⟨$xs,*⟩:=$e)=>do
 let p<-zzP 9 (<-`(⟨$xs,*⟩))
 `(tactic|obtain $p:rcasesPat:=$e)
noncomputable section
abbrev B0.{u}:Type u->Type u:=List
abbrev B1.{u}:Type u->Type u:=Option
abbrev B2:=PySem.Value
abbrev B3:=PySem.Shared
abbrev B4:=PySem.Expr
abbrev B5:=PySem.Addr
abbrev B6:=Bool
abbrev B7:=B0 PySem.Str
abbrev B9:=B0 Nat
abbrev B':=B0 Int
abbrev C3:=B0 B2
local macro_rules|`(tactic|erw[$f $xs*])=>`(tactic|refine $f $xs* ?_)|`(tactic|erw[$e:term])=>`(tactic|refine $e ?_)|`(tactic|erw[<-$e:term])=>`(tactic|refine $e)|`(tactic|erw[$r,$rs,*])=>`(tactic|(erw[$r];erw[$rs,*]))
abbrev xFr:=PySem.W.Frag
def xAa:type_of%@List.length_map:=@List.length_map
def xAb:type_of%@List.length_append:=@List.length_append
def xAc:type_of%@List.mem_of_getElem?:=@List.mem_of_getElem?
def xAd:type_of%@PySem.wpAny_bind:=@PySem.wpAny_bind
def xAe:type_of%@PySem.wpAny_pure:=@PySem.wpAny_pure
def xAf:type_of%@PySem.Heap.get?_push_of_some:=@PySem.Heap.get?_push_of_some
def xAg:type_of%@Nat.le_refl:=@Nat.le_refl
def xAi:type_of%@List.map_append:=@List.map_append
def xAj:type_of%@List.mem_append:=@List.mem_append
def xAk:type_of%@List.getElem?_eq_getElem:=@List.getElem?_eq_getElem
def xAl:type_of%@PySem.Heap.get?_push_size:=@PySem.Heap.get?_push_size
def xAm:type_of%@List.mem_singleton:=@List.mem_singleton
def xAo:type_of%@List.length_cons:=@List.length_cons
def xAp:type_of%@List.size_toArray:=@List.size_toArray
def xAq:type_of%@List.getElem?_eq_some_iff:=@List.getElem?_eq_some_iff
def xAr:type_of%@List.mem_cons_self:=@List.mem_cons_self
def xAs:type_of%@List.mem_cons_of_mem:=@List.mem_cons_of_mem
def xAt:type_of%@List.length_singleton:=@List.length_singleton
def xAv:type_of%@List.mem_cons:=@List.mem_cons
def xAw:type_of%@List.getElem?_map:=@List.getElem?_map
def xAx:type_of%@List.append_assoc:=@List.append_assoc
def xAy:type_of%@Bool.false_ne_true:=@Bool.false_ne_true
def xAz:type_of%@Bool.false_eq_true:=@Bool.false_eq_true
def xA0:type_of%@Nat.ne_of_lt:=@Nat.ne_of_lt
def xA1:type_of%@PySem.Heap.lt_size:=@PySem.Heap.lt_size
def xA2:type_of%@List.mem_map:=@List.mem_map
def xA6:type_of%@PySem.Heap.get?_update_other:=@PySem.Heap.get?_update_other
def xA7:type_of%@PySem.Heap.get?_update_self:=@PySem.Heap.get?_update_self
def xBa:type_of%@Int.emod_nonneg:=@Int.emod_nonneg
def xBb:type_of%@Int.emod_lt_of_pos:=@Int.emod_lt_of_pos
def xBc:type_of%@Nat.lt_of_lt_of_le:=@Nat.lt_of_lt_of_le
def xBd:type_of%@decide_eq_true:=@decide_eq_true
def xBe:type_of%@of_decide_eq_true:=@of_decide_eq_true
def xBl:type_of%@PySem.wpAny_newObj_type:=@PySem.wpAny_newObj_type
def xBn:type_of%@Nat.zero_le:=@Nat.zero_le
def xBo:type_of%@Nat.lt_irrefl:=@Nat.lt_irrefl
def xBq:type_of%@List.nodup_append:=@List.nodup_append
def xBs:type_of%@List.map_cons:=@List.map_cons
def xBt:type_of%@List.mem_append_right:=@List.mem_append_right
def xBv:type_of%@List.not_mem_nil:=@List.not_mem_nil
def xBw:type_of%@List.mem_append_left:=@List.mem_append_left
def xBz:type_of%@List.getD_eq_getElem?_getD:=@List.getD_eq_getElem?_getD
def xB0:type_of%@List.append_nil:=@List.append_nil
def xB3:type_of%@Option.some.inj:=@Option.some.inj
def xB7:type_of%@Array.getElem?_eq_some_iff:=@Array.getElem?_eq_some_iff
def xCb:type_of%@List.nodup_cons:=@List.nodup_cons
def xCf:type_of%@if_neg:=@if_neg
def xCg:type_of%@if_pos:=@if_pos
def xCh:type_of%@Bool.and_eq_true:=@Bool.and_eq_true
def xCi:type_of%@Option.bind_eq_some_iff:=@Option.bind_eq_some_iff
def xCj:type_of%@List.all_cons:=@List.all_cons
def xCk:type_of%@Nat.le_trans:=@Nat.le_trans
def xCl:type_of%@List.getElem?_append_right:=@List.getElem?_append_right
def xCn:type_of%@decide_eq_false:=@decide_eq_false
def xCo:type_of%@Nat.le_of_ble_eq_true:=@Nat.le_of_ble_eq_true
def xCu:type_of%@List.length_replicate:=@List.length_replicate
def xCx:type_of%@List.all_eq_true:=@List.all_eq_true
def xCy:type_of%@List.any_eq_true:=@List.any_eq_true
def xC1:type_of%@List.getElem?_set_ne:=@List.getElem?_set_ne
def xC3:type_of%@Int.toNat_natCast:=@Int.toNat_natCast
def xC6:type_of%@List.nil_append:=@List.nil_append
def xDa:type_of%@PySem.wpAny_field:=@PySem.wpAny_field
def xDc:type_of%@PySem.wpAny_holding:=@PySem.wpAny_holding
def xDe:type_of%@Bool.and_false:=@Bool.and_false
def xDk:type_of%@Nat.ble_eq_true_of_le:=@Nat.ble_eq_true_of_le
namespace L2
open PySem PySem.Spec PyProof.Rows
variable{H:Hp}{h base:Heap}{g':Array GenState}{t' i j k n:Nat}{d':Drawn}{it dx C:B5}{N ps:B7}{M:Model}{A:Around}{X:Cx}{s:B3}{pos p:Pos}{Z:B0<|B5×Obj}{Q:B2->B3->Prop}{y:V}{K:xFr}{es:B0 B4}{tg:B4}{te:TE}{fp:B0 B5}{g:Int->Int->Int}{op op':CmpOp}{r':R2}{mg:Str->B1 B2}{CX:CXT}{fd:FuncData}{sp:Sp}{outer:B0 Env}{vs:B0 V}{qual:Str}{scope:Scope}
noncomputable abbrev Key:=Sum Int Str
noncomputable def zCz:Key->B2->B6
 |.inl k,v=>Value.isInt k v
 |.inr x,v=>Value.isStrOf x v
noncomputable def zKg(w:World):Key->Int
 |.inl k=>hashInt k
 |.inr x=>hashStr w x
theorem cQ:∀{k:Key}{v:B2},zCz k v=true->(∃i t,k=Sum.inl i/\v=Value.int i t)\/(∃x t,k=Sum.inr x/\v=Value.str x t)
 |.inl i,v,h=>by
  let⟨t,e⟩:=Value.isInt_shape (k:=i) (v:=v) h;exact .inl ⟨i,t,rfl,e⟩
 |.inr x,v,h=>by
  let⟨t,e⟩:=Value.isStrOf_shape (x:=x) (v:=v) h;exact .inr ⟨x,t,rfl,e⟩
def oF(i:Int)(t:Tok):zCz (.inl i) (.int i t)=true:=by simp[zCz,Value.isInt]
def oE(x:Str)(t:Tok):zCz (.inr x) (.str x t)=true:=by simp[zCz,Value.isStrOf]
def yj(a b:Int):decide ((Sum.inl a:Key)=Sum.inl b)=(a==b):=by
 by_cases e:a=b
 .subst e;simp
 .have h:¬ (Sum.inl a:Key)=Sum.inl b:=λq=>e<|Sum.inl.inj q;rw[xCn h];exact(beq_eq_false_iff_ne.mpr e).symm
def yg(a b:Str):decide ((Sum.inr a:Key)=Sum.inr b)=decide (a=b):=by
 by_cases e:a=b
 .subst e;simp
 .have h:¬ (Sum.inr a:Key)=Sum.inr b:=λq=>e<|Sum.inr.inj q;rw[xCn h,xCn e]
def yi(a:Int)(b:Str):decide ((Sum.inl a:Key)=Sum.inr b)=false:=xCn λq=>nomatch q
def yh(a:Str)(b:Int):decide ((Sum.inr a:Key)=Sum.inl b)=false:=xCn λq=>nomatch q
def zAl(prog:Program)(w:World):PySem.KeyKind prog w Key where
 is:=zCz
 hash:=zKg w
 inj:=λv a b m d=>by
  rcases cQ m with ⟨i,t,rfl,rfl⟩|⟨x,t,rfl,rfl⟩
  .rcases cQ d with ⟨j,u,rfl,e⟩|⟨y,u,rfl,e⟩
   .injection e with e1 _;rw[e1]
   .exact nomatch e
  .rcases cQ d with ⟨j,u,rfl,e⟩|⟨y,u,rfl,e⟩
   .exact nomatch e
   .injection e with e1 _;rw[e1]
 byValue:=λk v h=>by
  rcases cQ h with ⟨i,t,rfl,rfl⟩|⟨x,t,rfl,rfl⟩ <;> rfl
 pyHash:=λc h=>by
  rcases cQ c with ⟨i,t,rfl,rfl⟩|⟨x,t,rfl,rfl⟩
  .exact wpAny_pyHash_int h
  .exact wpAny_pyHash_str h
 eqBool:=λl c h=>by
  rcases cQ l with ⟨i,t,rfl,rfl⟩|⟨x,t,rfl,rfl⟩
  .rcases cQ c with ⟨j,u,rfl,rfl⟩|⟨y,u,rfl,rfl⟩
   .rw[yj] at h;exact wpAny_eqBool_int h
   .rw[yi] at h;exact SeqAt.EqAt.int_str i t y u _ _ _ _ h
  .rcases cQ c with ⟨j,u,rfl,rfl⟩|⟨y,u,rfl,rfl⟩
   .rw[yh] at h;exact SeqAt.EqAt.str_int x t j u _ _ _ _ h
   .rw[yg] at h;exact wpAny_eqBool_str h
 «strs»:=λk x t v h=>by
  rcases cQ h with ⟨i,u,rfl,e⟩|⟨y,u,rfl,e⟩
  .exact nomatch e
  .injection e with e1 _;subst e1;cases v <;> rfl
def km(prog:Program)(w:World)(i:Int)(t:Tok):(zAl prog w).is (.inl i) (.int i t)=true:=oF i t
def kj(prog:Program)(w:World)(x:Str)(t:Tok):(zAl prog w).is (.inr x) (.str x t)=true:=oE x t
set_option genInjectivity true in
inductive V where
 |non|bl (b:Bool)|int (i:Int)|str (x:Str)|byt (b:Array UInt8)|flt (b:UInt64)|ref (a:Addr)|ty (n:String)
 deriving DecidableEq
abbrev C0:=B0 V
def zAj:V->B2->Prop
 |.non,u=>u=Value.none
 |.bl b,u=>u=Value.bool b
 |.int i,u=>∃t,u=Value.int i t
 |.str x,u=>∃t,u=Value.str x t
 |.byt b,u=>∃t,u=Value.bytes b t
 |.flt b,u=>∃t,u=Value.float b t
 |.ref a,u=>u=Value.ref a
 |.ty n,u=>u=Value.type n
noncomputable abbrev zAi:C0->C3->Prop:=Paired zAj
theorem zAi.length{xs:C0}{us:C3}(r:zAi xs us):xs.length=us.length:=Paired.length r
theorem zAi.get:∀{xs:C0}{us:C3}{i:Nat}{x:V},zAi xs us->xs[i]?=some x->∃u,us[i]?=some u/\zAj x u
 |_,_,_,_,.nil,e=>by simp at e
 |_,_,0,_,.cons r _,e=>by simp at e;subst e;exact⟨_,rfl,r⟩
 |_,_,i+1,x,.cons _ t,e=>by
  let⟨u,b,a⟩:=zAi.get (i:=i) (x:=x) t (by simpa using e);exact⟨u,by simpa using b,a⟩
theorem zAi.set{x:V}{u:B2}(r:zAj x u):∀{xs:C0}{us:C3}(i:Nat),zAi xs us->zAi (xs.set i x) (us.set i u)
 |_,_,_,.nil=>.nil
 |_,_,0,.cons _ t=>.cons r t
 |_,_,i+1,.cons q t=>.cons q<|zAi.set r i t
theorem zAi.append:∀{xs ys:C0}{us ws:C3},zAi xs us->zAi ys ws->zAi (xs++ys) (us++ws)
 |_,_,_,_,.nil,s=>s
 |_,_,_,_,.cons r t,s=>.cons r<|zAi.append t s
theorem zAi.take:∀{xs:C0}{us:C3}(n:Nat),zAi xs us->zAi (xs.take n) (us.take n)
 |_,_,0,_=>.nil
 |_,_,_+1,.nil=>.nil
 |_,_,n+1,.cons r t=>.cons r<|zAi.take n t
theorem zAi.drop:∀{xs:C0}{us:C3}(n:Nat),zAi xs us->zAi (xs.drop n) (us.drop n)
 |_,_,0,r=>r
 |_,_,_+1,.nil=>.nil
 |_,_,n+1,.cons _ t=>zAi.drop n t
def zCa:B1 V->B1 B2->Prop
 |some v,some u=>zAj v u
 |none,none=>True
 |_,_=>False
def KV{κ:Type}:B0 (κ×V)->B0 (κ×B2)->Prop:=Paired λ(p:κ×V) (q:κ×B2)=>p.1=q.1/\zAj p.2 q.2
noncomputable def kV:Key->V
 |.inl i=>.int i
 |.inr x=>.str x
inductive HO where
 
 |lst (xs:List V)
 
 |tup (xs:List V)
 
 |dK (kvs:List (Key×V))|dT (kvs:List (List Key×V))
 
 |set (S:Int->Bool) (n:Nat)
 
 |ins (C dx:Addr) (fs:List (Str×V))
 
 |own (x:Addr)
 
 |xd (fs:List (Str×V))
 
 |met (f x:Addr)
 
 |rng (lo hi:Int)
 
 |frz (o:Obj) (u:HO)
 
 |tbl (ps:Array Value)
 
 |ext (φ:Heap->Prop)
noncomputable abbrev Hp:=B5->B1 HO
noncomputable def upd(H:Hp)(a:B5)(o:HO):Hp:=λb=>if b=a then some o else H b
def ce{a:B5}{o:HO}:upd H a o a=some o:=by unfold upd;rw[xCg rfl]
def cb{a b:B5}{o:HO}(h:b≠a):upd H a o b=H b:=by unfold upd;rw[xCf h]
def lX{a:B5}{o u:HO}:upd (upd H a o) a u=upd H a u:=by
 funext b;unfold upd;split <;> rfl
def ej{a b:B5}{o u:HO}(h:H a=some o)(h':H b=some u)(d:o≠u):a≠b:=by
 intro e;subst e;rw[h] at h';exact d (xB3 h')
def cg{a b:B5}{o:HO}(h:H a=some o)(h':H b=none):a≠b:=by
 intro e;subst e;rw[h] at h';cases h'
section
variable(P:Program)(w:World)
def zAe(H:Hp)(h:Heap)(a:B5):HO->Prop
 |.lst d=>d.length<=sizeLine/\∃(c:C3) (n:Nat),zAi d c/\h.get? a=some {cls:=.type "list",data:=.seq c.toArray n}
 |.tup d=>d.length<=sizeLine/\∃c:C3,zAi d c/\IsTup h a c.toArray
 |.dK b=>b.length<=sizeLine/\(a==sysModules)=false/\∃vs,KV b vs/\h.DictOf (zAl P w) a vs
 |.dT b=>b.length<=sizeLine/\(a==sysModules)=false/\∃d:B0<|B0 Key×B5×B2,
   Paired (λ(p:B0 Key×V) (q:B0 Key×B5×B2)=>p.1=q.1/\H q.2.1=some (.tup<|p.1.map kV)/\zAj p.2 q.2.2) b d /\
   ∃o es B,h.get? a=some o/\o.ExactDict/\o.data=.dict es B/\es.toList=d.map (entryOfKey<|tupleKind<|zAl P w)/\(d.map (·.1)).Nodup
 |.set S n=>h.SetOf (intKind P w) a S n
 |.ins C dx fs=>H dx=some (.own a)/\fs.length<=1000/\dx≠a/\h.get? a=some (W.instObj C dx) /\
   ∃mA,h.Ns1 dx mA/\(∀f,zCa (fs.lookup f)<|mA f)/\PySem.Within mA (fs.map (·.1))
 |.own _=>∃o,h.get? a=some o
 |.xd fs=>∃mA,h.Ns1 a mA/\∀f,zCa (fs.lookup f)<|mA f
 |.rng m r=>∃t u v,h.get? a=some {cls:=.type "range",data:=.fields #[.int m t,.int r u,.int 1 v]}
 |.frz o u=>h.get? a=some o/\zAe H h a u
 |.tbl ps=>h.get? a=some {cls:=.none,data:=.fields ps}
 |.met f x=>h.get? a=some (W.methodObj (.ref f)<|.ref x)
 |.ext φ=>φ h/\(∃o,h.get? a=some o)/\∀l e:Heap,φ l->(∀o,l.get? a=some o->e.get? a=some o)->φ e
def HOk(H:Hp)(h:Heap):Prop:=∀a o,H a=some o->zAe P w H h a o
end
section
variable{P:Program}{w:World}{H H':Hp}{h h':Heap}{a:B5}{o:HO}
theorem zAe.lt(x:zAe P w H h a o):a<h.objs.size:=by
 cases o with
 |lst c=>let⟨_,_,_,_,e⟩:=x;exact xA1 e
 |tup c=>let⟨_,_,_,p⟩:=x;exact p.lt
 |dK b=>let⟨_,_,_,_,o,_,_,e,_⟩:=x;exact xA1 e
 |dT b=>let⟨_,_,_,_,o,_,_,e,_⟩:=x;exact xA1 e
 |set S n=>let⟨o,_,_,_,e,_⟩:=x;exact xA1 e
 |ins C dx fs=>let⟨_,_,_,e,_⟩:=x;exact xA1 e
 |own y=>let⟨_,e⟩:=x;exact xA1 e
 |xd fs=>let⟨_,⟨_,_,_,e,_⟩,_⟩:=x;exact xA1 e
 |rng l m=>let⟨_,_,_,e⟩:=x;exact xA1 e
 |frz d u=>let⟨e,_⟩:=x;exact xA1 e
 |tbl ps=>exact xA1 (show h.get? a=some _ from x)
 |met f y=>exact xA1 (show h.get? a=some _ from x)
 |ext φ=>let⟨_,⟨_,e⟩,_⟩:=x;exact xA1 e
theorem Paired.mapP{J β:Type}{F G:J->β->Prop}:∀{l₁:B0 J}{l₂:B0 β},Paired F l₁ l₂->(∀a b,F a b->G a b)->Paired G l₁ l₂
 |_,_,.nil,_=>.nil
 |_,_,.cons r t,f=>.cons (f _ _ r)<|Paired.mapP t f
theorem zAe.stay(x:zAe P w H h a o)(k:∀b u,(b=a\/H b=some (.own a))->h.get? b=some u->h'.get? b=some u)(I:∀b,H b=some (.own a)->H' b=some (.own a))(G:∀b xs,H b=some (.tup xs)->H' b=some (.tup xs)):zAe P w H' h' a o:=by
 induction o with
 |lst xs=>let⟨z,B,n,r,e⟩:=x;exact⟨z,B,n,r,k _ _ (.inl rfl) e⟩
 |tup xs=>let⟨z,B,r,l,e,c⟩:=x;exact⟨z,B,r,l,k _ _ (.inl rfl) e,c⟩
 |dK E=>let⟨z,y,vs,r,l,es,m,e,c⟩:=x;exact⟨z,y,vs,r,l,es,m,k _ _ (.inl rfl) e,c⟩
 |dT E=>
  let⟨z,y,xs,r,l,es,m,e,c⟩:=x;exact⟨z,y,xs,Paired.mapP r λp q z=>⟨z.1,G _ _ z.2.1,z.2.2⟩,l,es,m,k _ _ (.inl rfl) e,c⟩
 |set S n=>let⟨l,es,m,t,e,c⟩:=x;exact⟨l,es,m,t,k _ _ (.inl rfl) e,c⟩
 |ins C dx fs=>
  let⟨d,z,ne,e,mA,⟨D,es,m,J,c⟩,r⟩:=x;exact⟨I _ d,z,ne,k _ _ (.inl rfl) e,mA,⟨D,es,m,k _ _ (.inr d) J,c⟩,r⟩
 |own y=>let⟨l,e⟩:=x;exact⟨l,k _ _ (.inl rfl) e⟩
 |xd fs=>let⟨mA,⟨D,es,m,e,c⟩,r⟩:=x;exact⟨mA,⟨D,es,m,k _ _ (.inl rfl) e,c⟩,r⟩
 |rng L O=>let⟨t,u,v,e⟩:=x;exact⟨t,u,v,k _ _ (.inl rfl) e⟩
 |frz l u F=>let⟨e,q⟩:=x;exact⟨k _ _ (.inl rfl) e,F q⟩
 |tbl ps=>
  have e:h.get? a=some {cls:=.none,data:=.fields ps}:=x;show h'.get? a=some {cls:=.none,data:=.fields ps};exact k a _ (.inl rfl) e
 |met f y=>
  have e:h.get? a=some (W.methodObj (.ref f)<|.ref y):=x;show h'.get? a=some (W.methodObj (.ref f)<|.ref y);exact k a _ (.inl rfl) e
 |ext φ=>let⟨p,⟨o,e⟩,st⟩:=x;exact⟨st _ _ p λo q=>k _ _ (.inl rfl) q,⟨o,k _ _ (.inl rfl) e⟩,st⟩
theorem HOk.lt(x:HOk P w H h)(e:H a=some o):a<h.objs.size:=(x a o e).lt
theorem HOk.fresh(x:HOk P w H h)(e:h.objs.size<=a):H a=none:=by
 cases q:H a with
 |none=>rfl
 |some u=>exact absurd (xBc (x.lt q) e) (xBo _)
def HOk.kept(x:HOk P w H h)(k:∀b u,h.get? b=some u->h'.get? b=some u):HOk P w H h':=λa o e=>
 (x a o e).stay (λb u _ q=>k b u q) (λ_ q=>q) λ_ _ q=>q
def HOk.laid(x:HOk P w H h)(k:∀b u,h.get? b=some u->h'.get? b=some u)(l:h.objs.size<=a)(new:zAe P w (upd H a o) h' a o):HOk P w (upd H a o) h':=λb u e=>by
 have d:=x.fresh l;by_cases hb:b=a
 .subst hb;rw[ce] at e;cases e;exact new
 .rw[cb hb] at e;exact(x b u e).stay (λc v _ q=>k c v q) (λc q=>by rw[cb<|cg q d];exact q) λc m q=>by rw[cb<|cg q d];exact q
end
def Rd(H:Hp)(a:B5)(u:HO):Prop:=H a=some u\/∃o,H a=some (.frz o u)
def Rd.ok{P:Program}{w:World}{a:B5}{u:HO}(r:Rd H a u)(x:HOk P w H h):zAe P w H h a u:=by
 rcases r with r|⟨o,r⟩
 .exact x a u r
 .let⟨_,q⟩:=x a _ r;exact q
def Mut:B1 HO->Prop
 |some (.lst _)=>True
 |some (.dK _)=>True
 |some (.dT _)=>True
 |some (.set _ _)=>True
 |some (.ins _ _ _)=>True
 |some (.ext _)=>True
 |_=>False
section
variable{P:Program}{w:World}{H:Hp}{h h':Heap}{x e:B5}{o':HO}
def HOk.write(ok:HOk P w H h)(d:Mut<|H x)(o:e=x\/H e=some (.own x))(k:∀b u,b≠e->h.get? b=some u->h'.get? b=some u)(l:∃u,h'.get? e=some u)(new:zAe P w (upd H x o') h' x o'):HOk P w (upd H x o') h':=λb u q=>by
 have nown:∀c y,H c=some (.own y)->c≠x:=λc y r z=>by subst z;rw[r] at d;exact d
 have ntup:∀c a,H c=some (.tup a)->c≠x:=λc a r z=>by subst z;rw[r] at d;exact d
 by_cases hb:b=x
 .subst hb;rw[ce] at q;cases q;exact new
 .rw[cb hb] at q;by_cases hbe:b=e
  .have m:H b=some (.own x):=by
    rcases o with z|z
    .exact absurd (hbe.trans z) hb
    .rw[hbe];exact z
   rw[q] at m;cases m;let⟨v,B⟩:=l;exact⟨v,by rw[hbe];exact B⟩
  .refine(ok b u q).stay (λc v hc r=>k c v ?_ r) (λc r=>by rw[cb<|nown c b r];exact r) λc a r=>by rw[cb<|ntup c a r];exact r
   rcases hc with rfl|hc
   .exact hbe
   .rintro rfl
    rcases o with z|z
    .exact nown c b hc z
    .rw[hc] at z;cases z;exact hb rfl
end
structure Un(fs ex:B0 B5)(H H':Hp)(h h':Heap):Prop where
 keep:∀b o,h.get? b=some o->H b=none->b∉fs->b∉ex->h'.get? b=some o
 slot:∀b o,h.get? b=some o->H b=none->b∈fs->b∉ex->∃sl,h'.get? b=some {o with slots:=sl}
 free:∀b o,h.get? b=some o->H b=none->b∉ex->H' b=none
 there:∀b o,h.get? b=some o->b∉ex->∃o',h'.get? b=some o'
 tups:∀b xs,H b=some (.tup xs)->H' b=some (.tup xs)
 frzs:∀b o u,H b=some (.frz o u)->H' b=some (.frz o u)
 tbls:∀b ps,H b=some (.tbl ps)->∃more,H' b=some (.tbl (ps++more))
section
variable{fs fs' ex ex':B0 B5}{H H1 H2:Hp}{h h1 h2 h':Heap}{a x e:B5}{o:HO}
def Un.any(u:Un fs ex H H1 h h1){b:B5}{c:Obj}(q:h.get? b=some c)(n:H b=none)(d:b∉ex):∃l,h1.get? b=some {c with slots:=l}:=by
 by_cases hb:b∈fs
 .exact u.slot b c q n hb d
 .exact⟨c.slots,u.keep b c q n hb d⟩
def Un.trans(a:Un fs ex H H1 h h1)(b:Un fs ex H1 H2 h1 h2):Un fs ex H H2 h h2 where
 keep:=λc d q n v l=>b.keep c d (a.keep c d q n v l) (a.free c d q n l) v l
 slot:=λc d q n v l=>by
  let⟨F,m⟩:=a.slot c d q n v l;let⟨w,D⟩:=b.slot c _ m (a.free c d q n l) v l;exact⟨w,D⟩
 free:=λc d q n l=>by
  let⟨B,m⟩:=a.there c d q l;exact b.free c B m (a.free c d q n l) l
 there:=λc d q l=>by
  let⟨B,m⟩:=a.there c d q l;exact b.there c B m l
 tups:=λc r q=>b.tups c r<|a.tups c r q
 frzs:=λc d r q=>b.frzs c d r<|a.frzs c d r q
 tbls:=λc ps q=>by
  let⟨m1,m⟩:=a.tbls c ps q;let⟨E,D⟩:=b.tbls c _ m;exact⟨m1++E,by rw[D,Array.append_assoc]⟩
def Un.kept(k:∀b u,h.get? b=some u->h'.get? b=some u):Un fs ex H H h h':=
 ⟨λb c q _ _ _=>k b c q,λb c q _ _ _=>⟨c.slots,k b c q⟩,λ_ _ _ n _=>n,λb c q _=>⟨c,k b c q⟩,λ_ _ q=>q,λ_ _ _ q=>q,λ_ ps q=>⟨#[],by rw[q];simp⟩⟩
def Un.refl:Un fs ex H H h h:=Un.kept λ_ _ q=>q
def Un.laid(k:∀b u,h.get? b=some u->h'.get? b=some u)(l:h.objs.size<=a)(c:H a=none):Un fs ex H (upd H a o) h h' where
 keep:=λb u q _ _ _=>k b u q
 slot:=λb u q _ _ _=>⟨u.slots,k b u q⟩
 free:=λb u q n _=>by rw[cb<|xA0<|xBc (xA1 q) l];exact n
 there:=λb u q _=>⟨u,k b u q⟩
 tups:=λb d q=>by rw[cb<|cg q c];exact q
 frzs:=λb u d q=>by rw[cb<|cg q c];exact q
 tbls:=λb ps q=>⟨#[],by rw[cb<|cg q c,q];simp⟩
def Un.write(c:Mut<|H x)(v:e=x\/H e=some (.own x))(k:∀b u,b≠e->h.get? b=some u->h'.get? b=some u)(d:∃u,h'.get? e=some u):Un fs ex H (upd H x o) h h':=by
 have hx:∀b,H b=none->b≠x:=λb n z=>by subst z;rw[n] at c;exact c
 have l:∀b,H b=none->b≠e:=λb n z=>by
  subst z;rcases v with r|r
  .exact hx b n r
  .rw[n] at r;cases r
 have hm:∀b u,H b=some u->¬ Mut (some u)->b≠x:=λb u q nm z=>by subst z;rw[q] at c;exact nm c
 refine⟨λb u q n _ _=>k b u (l b n) q,λb u q n _ _=>⟨u.slots,k b u (l b n) q⟩,λb u q n _=>by rw[cb<|hx b n];exact n,λb u q _=>?_,
  λb m q=>by rw[cb<|hm b _ q λz=>z];exact q,λb u m q=>by rw[cb<|hm b _ q λz=>z];exact q,λb ps q=>⟨#[],by rw[cb<|hm b _ q λz=>z,q];simp⟩⟩
 by_cases hbe:b=e
 .subst hbe;exact d
 .exact⟨u,k b u hbe q⟩
end
noncomputable def trk(h:Heap)(H:Hp):B0 B5:=(List.range h.objs.size).filter λa=>(H a).isSome
def zDp(h:Heap)(H:Hp):Heap:=W.hideAll h<|trk h H
def oI(h:Heap)(H:Hp):(zDp h H).objs.size=h.objs.size:=W.hideAll_size _ _
def rL{b:B5}{o:Obj}(e:h.get? b=some o)(n:H b=none):(zDp h H).get? b=some o:=
 W.hideAll_get _ e λa=>by
  have q:(H b).isSome=true:=(List.mem_filter.mp a).2;rw[n] at q;simp at q
theorem uB{b:B5}{o:Obj}(e:(zDp h H).get? b=some o):h.get? b=some o/\H b=none:=by
 have a:h.get? b=some o:=W.of_hideAll (trk h H) e;refine⟨a,?_⟩;cases q:H b with
 |none=>rfl
 |some x=>
  have c:b∈trk h H:=List.mem_filter.mpr ⟨List.mem_range.mpr<|xA1 a,by simp[q]⟩;have z:(zDp h H).get? b=none:=W.hideAll_none (trk h H) c;rw[z] at e;cases e
structure Mod(K:xFr)(mg:Str->B1 B2)(base:Heap):Prop where
 kin:K.In base
 glob:base.Ns mainGlobals mg
 blt:∃mb,base.Ns builtinsNs mb/\∀x:Str,x≠"__name__"->mb x=bootBuiltins x
 nolimit:base.NoLimit
structure Cx where
 prog:Program
 w:World
 K:xFr
 mg:Str->B1 B2
 base:Heap
 A:Around
 N:B7
 s₀:B3
 H₀:Hp
 env:Env
 outer:B0 Env
 stack:B0 Env
 ex:B0 B5
 fn:Str->B6
 calm:B6
 pn:B0 (B5×Obj)
 xe:B2->B3->Prop
noncomputable def frs(l:B0 Env):B0 B5:=l.filterMap (·.frame)
noncomputable abbrev Cx.fs(X:Cx):B0 B5:=frs X.outer
def Vis(sc:Scope)(x:Str):Prop:=sc.names.lookup x=some .local\/sc.names.lookup x=some .cell\/sc.names.lookup x=some .free
def Loc(sc:Scope)(x:Str):Prop:=sc.names.lookup x=some .local\/sc.names.lookup x=some .cell
def zKn(env:Env)(h:Heap)(m:Str->B1 B2)(x:Str)(u:B2):Prop:=
 (env.kindOf x=some .local/\m x=some u)\/((env.kindOf x=some .cell\/env.kindOf x=some .free)/\∃c,env.cells.lookup x=some c/\h.IsCell c (some u))
structure Cx.Ok(X:Cx):Prop where
 mod:Mod X.K X.mg X.base
 kind:X.env.scope.kind=.function
 glob:X.env.globals=mainGlobals
 blt:X.env.builtins=builtinsNs
 above:X.s₀.heap.objs.size<=X.env.locals
 inj:∀x y c,X.env.cells.lookup x=some c->X.env.cells.lookup y=some c->x=y
 has:∀x,(X.env.kindOf x=some .cell\/X.env.kindOf x=some .free)->∃c,X.env.cells.lookup x=some c
 cab:∀x c,X.fn x=true->X.env.cells.lookup x=some c->X.s₀.heap.objs.size<=c
 hd:X.calm=true->X.A.handled=none
 frames:X.A.frames=some X.stack
 stk:X.stack=X.outer\/(X.stack=X.env::X.outer/\X.env.frame=some X.env.locals)
 exf:∀b∈X.ex,b≠X.env.locals/\∀x c,X.env.cells.lookup x=some c->c≠b
 bs:∀b o,X.base.get? b=some o->X.s₀.heap.get? b=some o/\X.H₀ b=none
 bsz:X.base.objs.size<=X.s₀.heap.objs.size
 noex:∀b o,X.base.get? b=some o->b∉X.ex
 exfs:∀b∈X.ex,b∉X.fs
 funs:X.s₀.heap.FunFrames X.base X.outer
 frf:∀b∈X.fs,X.H₀ b=none
structure Inv(X:Cx)(Z:B0 (B5×Obj))(O:B0 (B1 V))(H:Hp)(s:B3):Prop where
 ok:X.Ok
 os:s.os=X.s₀.os
 bare:AllBare s.gens
 base:Un X.fs X.ex X.H₀ H X.s₀.heap s.heap
 loc:∃m,s.heap.Ns X.env.locals m/\∀(i:Nat)(x:Str)(v:V),X.N[i]?=some x->O[i]?=some (some v)->Vis X.env.scope x->∃u,zAj v u/\zKn X.env s.heap m x u
 cell:∀x c,X.env.cells.lookup x=some c->∃v,s.heap.IsCell c v
 free:H X.env.locals=none
 freeC:∀x c,X.env.cells.lookup x=some c->H c=none
 pin:∀p∈X.pn++Z,s.heap.get? p.1=some p.2/\H p.1=none/\p.1≠X.env.locals/\p.1∉X.fs/\∀v,p.2.data≠.cell v
 hok:HOk X.prog X.w H s.heap
 len:O.length=X.N.length
section
variable{X:Cx}{Z:B0<|B5×Obj}{O:B0<|B1 V}{H H':Hp}{s:B3}{h':Heap}
def Cx.Ok.nofr(ok:X.Ok){b:B5}{o:Obj}(e:X.base.get? b=some o):b∉X.fs:=λa=>by
 have:=(ok.funs.mem a).1;rw[e] at this;cases this
theorem Inv.bs(I:Inv X Z O H s):∀b o,X.base.get? b=some o->s.heap.get? b=some o/\H b=none:=λb o e=>
 ⟨I.base.keep b o (I.ok.bs b o e).1 (I.ok.bs b o e).2 (I.ok.nofr e)<|I.ok.noex b o e,I.base.free b o (I.ok.bs b o e).1 (I.ok.bs b o e).2<|I.ok.noex b o e⟩
def Inv.bk(I:Inv X Z O H s):∀b o,X.base.get? b=some o->s.heap.get? b=some o:=λb o e=>(I.bs b o e).1
theorem Inv.mod(I:Inv X Z O H s):Mod X.K X.mg X.base:=I.ok.mod
def Inv.kIn(I:Inv X Z O H s):X.K.In s.heap:=I.ok.mod.kin.keeps I.bk
theorem Inv.lt(I:Inv X Z O H s):X.env.locals<s.heap.objs.size:=let ⟨_,a,_⟩:=I.loc;a.lt
def Inv.sz(I:Inv X Z O H s):X.s₀.heap.objs.size<=s.heap.objs.size:=xCk I.ok.above<|Nat.le_of_lt I.lt
def Inv.nofs(I:Inv X Z O H s){a:B5}(h:s.heap.objs.size<=a):a∉X.fs:=λc=>by
 let⟨_,o,b,_⟩:=I.ok.funs.mem c;exact absurd (xBc (xA1 b)<|xCk I.sz h)<|xBo _
def Inv.cne(I:Inv X Z O H s):∀x c,X.env.cells.lookup x=some c->c≠X.env.locals:=λx c e z=>by
 let⟨v,o,d,l⟩:=I.cell x c e;let⟨m,⟨q,es,r,a,b,_⟩,_⟩:=I.loc;rw[z,a] at d;cases d;rw[b] at l;cases l
theorem Inv.funs(I:Inv X Z O H s):s.heap.FunFrames X.base X.outer:=by
 have all:∀(l:B0 Env),(∀b∈frs l,b∈X.fs)->X.s₀.heap.FunFrames X.base l->s.heap.FunFrames X.base l:=by
  intro l;induction l with
  |nil=>intro _ _;trivial
  |cons D r q=>
   intro m x;let⟨hk,⟨L,o,a,w,v,B⟩,hr⟩:=x;have d:L∈X.fs:=m L (by unfold frs;rw[List.filterMap_cons,a];exact xAr);let⟨E,e⟩:=I.base.slot L o v (I.ok.frf L d) d λz=>I.ok.exfs L z d;exact⟨hk,⟨L,_,a,w,e,B⟩,q (λb c=>m b<|by unfold frs;rw[List.filterMap_cons,a];exact xAs _ c) hr⟩
 exact all X.outer (λ_ c=>c) I.ok.funs
theorem Inv.stack(I:Inv X Z O H s):s.heap.FunFrames X.base X.stack:=by
 rcases I.ok.stk with e|⟨e,hf⟩
 .rw[e];exact I.funs
 .rw[e];let⟨m,a,_⟩:=I.loc;refine .cons (by rw[I.ok.kind];decide) hf a ?_ I.funs;exact Heap.get?_none_of_le<|xCk I.ok.bsz I.ok.above
def Inv.stkSub(I:Inv X Z O H s):∀b∈frs X.stack,b∈X.env.locals::X.fs:=λb a=>by
 rcases I.ok.stk with e|⟨e,hf⟩
 .rw[e] at a;exact xAs _ a
 .rw[e] at a;unfold frs at a;rw[List.filterMap_cons,hf] at a;exact a
def Inv.stkFree(I:Inv X Z O H s):∀b∈frs X.stack,H b=none:=λb hb=>by
 rcases xAv.mp (I.stkSub b hb) with e|hb
 .rw[e];exact I.free
 .let⟨_,o,a,_⟩:=I.ok.funs.mem hb;exact I.base.free b o a (I.ok.frf b hb) λz=>I.ok.exfs b z hb
def Inv.step{ch:B0 B5}(I:Inv X Z O H s)(F:∀b∈ch,(b∈X.ex\/X.s₀.heap.objs.size<=b)/\b≠X.env.locals/\(∀x c,X.env.cells.lookup x=some c->c≠b)/\∀p∈X.pn++Z,p.1≠b)(E:∀b o,b≠X.env.locals->b∉X.fs->b∉ch->s.heap.get? b=some o->H b=none->h'.get? b=some o)(P:∀b o,b≠X.env.locals->b∈X.fs->b∉ch->s.heap.get? b=some o->H b=none->∃sl,h'.get? b=some {o with slots:=sl})(B:∀b o,b∉ch->s.heap.get? b=some o->H b=none->H' b=none)(there:∀b o,b∉ch->s.heap.get? b=some o->∃o',h'.get? b=some o')(T:∀b xs,H b=some (.tup xs)->H' b=some (.tup xs))(frzs:∀b o u,H b=some (.frz o u)->H' b=some (.frz o u))(W:∀b ps,H b=some (.tbl ps)->∃more,H' b=some (.tbl<|ps++more))(ns:∀m,s.heap.Ns X.env.locals m->h'.Ns X.env.locals m)(hok:HOk X.prog X.w H' h')(hg:AllBare g') :
  Inv X Z O H' {s with heap:=h',gens:=g',drawn:=d',toks:=t'}:=by
 have Y:∀b o,X.s₀.heap.get? b=some o->b≠X.env.locals:=λb o e=>xA0<|xBc (xA1 e) I.ok.above;have J:∀b o,X.s₀.heap.get? b=some o->b∉X.ex->b∉ch:=λb o e a R=>by
  rcases(F b R).1 with z|z
  .exact a z
  .exact absurd (xBc (xA1 e) z)<|xBo _
 have G:∀x c,X.env.cells.lookup x=some c->∀v,s.heap.IsCell c v->h'.IsCell c v:=λx c e v ⟨o,S,hd⟩=>by
  have D:c∉ch:=λz=>(F c z).2.2.1 x c e rfl;by_cases hc:c∈X.fs
  .let⟨sl,q⟩:=P c o (I.cne x c e) hc D S<|I.freeC x c e;exact⟨_,q,hd⟩
  .exact⟨o,E c o (I.cne x c e) hc D S<|I.freeC x c e,hd⟩
 refine⟨I.ok,I.os,hg,⟨λb o e n R a=>?_,λb o e n R a=>?_,λb o e n a=>?_,λb o e a=>?_,λb xs e=>T b xs<|I.base.tups b xs e,λb o xs e=>frzs b o xs<|I.base.frzs b o xs e,λb ps e=>?_⟩,?_,λx c e=>?_,?_,λx c e=>?_,λp hp=>?_,hok,I.len⟩
 .exact E b o (Y b o e) R (J b o e a) (I.base.keep b o e n R a)<|I.base.free b o e n a
 .let⟨sl,L⟩:=I.base.slot b o e n R a;let⟨sl',e2⟩:=P b _ (Y b o e) R (J b o e a) L<|I.base.free b o e n a;exact⟨sl',e2⟩
 .let⟨o',L⟩:=I.base.there b o e a;exact B b o' (J b o e a) L<|I.base.free b o e n a
 .let⟨o',L⟩:=I.base.there b o e a;exact there b o' (J b o e a) L
 .let⟨m1,L⟩:=I.base.tbls b ps e;let⟨m2,e2⟩:=W b _ L;exact⟨m1++m2,by rw[e2,Array.append_assoc]⟩
 .let⟨m,hn,hl⟩:=I.loc;refine⟨m,ns m hn,λi x v L e2 e3=>?_⟩;let⟨u,r,l⟩:=hl i x v L e2 e3;refine⟨u,r,?_⟩;rcases l with l|⟨k,c,e,z⟩
  .exact .inl l
  .exact .inr ⟨k,c,e,G x c e _ z⟩
 .let⟨v,z⟩:=I.cell x c e;exact⟨v,G x c e v z⟩
 .let⟨m,⟨o,_,_,S,_⟩,_⟩:=I.loc;exact B _ o (λz=>(F _ z).2.1 rfl) S I.free
 .let⟨v,o,S,hd⟩:=I.cell x c e;exact B c o (λz=>(F c z).2.2.1 x c e rfl) S<|I.freeC x c e
 .let⟨e,n,ne,nf,d⟩:=I.pin p hp;have D:p.1∉ch:=λz=>(F p.1 z).2.2.2 p hp rfl;exact⟨E p.1 p.2 ne nf D e n,B p.1 p.2 D e n,ne,nf,d⟩
def Inv.un(I:Inv X Z O H s)(u:Un X.fs [] H H' s.heap h')(c:HOk X.prog X.w H' h'):Inv X Z O H' {s with heap:=h',toks:=t'}:=by
 let⟨m,⟨o,es,G,v,r⟩,_⟩:=id I.loc;let⟨D,B⟩:=u.any v I.free ⋯;exact I.step (g':=s.gens) (d':=s.drawn) (ch:=[]) (λ_ z=>nomatch z) (λb o _ d _ e n=>u.keep b o e n d ⋯) (λb o _ d _ e n=>u.slot b o e n d ⋯) (λb o _ e n=>u.free b o e n ⋯) (λb o _ e=>u.there b o e ⋯) u.tups u.frzs u.tbls (λF x=>by
  let⟨E,l,q,a,r'⟩:=x;rw[v] at a;cases a;exact⟨_,l,q,B,r'⟩) c I.bare
def Inv.call{ch:B0 B5}(I:Inv X Z O H s)(u:Un (frs X.stack) ch H H' s.heap h')(q:HOk X.prog X.w H' h')(G:AllBare g')(l:∀b∈ch,(b∈X.ex\/X.s₀.heap.objs.size<=b)/\b≠X.env.locals/\(∀x c,X.env.cells.lookup x=some c->c≠b)/\∀p∈X.pn++Z,p.1≠b) :
  Inv X Z O H' {s with heap:=h',gens:=g',drawn:=d',toks:=t'}:=by
 let⟨m,⟨o,es,S,E,r⟩,_⟩:=id I.loc;let⟨L,v⟩:=u.any E I.free λz=>(l _ z).2.1 rfl;exact I.step (ch:=ch) l (λb o v J a e n=>u.keep b o e n (λz=>(xAv.mp<|I.stkSub b z).elim v J) a) (λb o _ _ a e n=>u.any e n a) (λb o a e n=>u.free b o e n a) (λb o a e=>u.there b o e a) u.tups u.frzs u.tbls (λR F=>by
  let⟨P,B,D,d,r'⟩:=F;rw[E] at d;cases d;exact⟨_,B,D,v,r'⟩) q G
def Inv.turned(I:Inv X Z O H s)(k:∀b o,b≠it->s.heap.get? b=some o->h'.get? b=some o)(B:H it=none)(l:it≠X.env.locals)(J:it∈X.ex\/X.s₀.heap.objs.size<=it)(G:∀x c,X.env.cells.lookup x=some c->c≠it)(F:∀p∈X.pn++Z,p.1≠it):Inv X Z O H {s with heap:=h',toks:=t'}:=by
 have d:∀b u,H b=some u->b≠it:=λb u e z=>by rw[z,B] at e;cases e
 refine I.step (g':=s.gens) (d':=s.drawn) (ch:=[it]) (λb E=>?_) (λb o _ _ a e _=>k b o (λz=>a<|by simp[z]) e) (λb o _ _ a e _=>⟨o.slots,k b o (λz=>a<|by simp[z]) e⟩) (λ_ _ _ _ n=>n)
  (λb o a e=>⟨o,k b o (λz=>a<|by simp[z]) e⟩) (λ_ _ e=>e) (λ_ _ _ e=>e) (λb ps e=>⟨#[],by rw[e];simp⟩) (λm D=>?_) (λb u e=>?_) I.bare
 .have e:b=it:=by simpa using E
  subst e;exact⟨J,l,G,F⟩
 .let⟨o,es,L,w,r⟩:=D;exact⟨o,es,L,k _ o (Ne.symm l) w,r⟩
 .refine(I.hok b u e).stay (λc v a q=>k c v ?_ q) (λ_ q=>q) λ_ _ q=>q;rcases a with z|z
  .rw[z];exact d b u e
  .exact d c _ z
def Inv.tok(I:Inv X Z O H s)(t:Nat):Inv X Z O H {s with toks:=t}:=I.un (h':=s.heap) (t':=t) Un.refl I.hok
theorem Inv.kept{t':Nat}(I:Inv X Z O H s)(k:∀b u,s.heap.get? b=some u->h'.get? b=some u):Inv X Z O H {s with heap:=h',toks:=t'}:=I.un (Un.kept k)<|I.hok.kept k
theorem Inv.laid{a:B5}{o:HO}{t':Nat}(I:Inv X Z O H s)(k:∀b u,s.heap.get? b=some u->h'.get? b=some u)(c:s.heap.objs.size<=a)(new:zAe X.prog X.w (upd H a o) h' a o) :
  Inv X Z O (upd H a o) {s with heap:=h',toks:=t'}:=I.un (Un.laid k c<|I.hok.fresh c)<|I.hok.laid k c new
theorem Inv.write{x e:B5}{o:HO}{t':Nat}(I:Inv X Z O H s)(c:Mut<|H x)(d:e=x\/H e=some (.own x))(k:∀b u,b≠e->s.heap.get? b=some u->h'.get? b=some u)(a:∃u,h'.get? e=some u)(new:zAe X.prog X.w (upd H x o) h' x o):Inv X Z O (upd H x o) {s with heap:=h',toks:=t'}:=I.un (Un.write c d k a)<|I.hok.write c d k a new
def Inv.pins_of{a:B0<|B5×Obj}(I:Inv X Z O H s)(h:∀p∈a,s.heap.get? p.1=some p.2/\H p.1=none/\p.1≠X.env.locals/\p.1∉X.fs/\∀v,p.2.data≠.cell v):Inv X a O H s:=
 ⟨I.ok,I.os,I.bare,I.base,I.loc,I.cell,I.free,I.freeC,λp b=>(xAj.mp b).elim (λz=>I.pin p<|xBw _ z)<|h p,I.hok,I.len⟩
def ke(c:N.Nodup){x:Str}(a:N[i]?=some x)(b:N[j]?=some x):i=j:=by
 let⟨l,e1⟩:=xAq.mp a;let⟨e,d⟩:=xAq.mp b;exact(List.getElem_inj c).mp<|e1.trans d.symm
def iy{E:B2->B3->Prop}{x:Str}{v:V}{u:B2}{Q:Unit->B3->Prop}(I:Inv X Z O H s)(hN:X.N.Nodup)(hi:X.N[i]?=some x)(D:Loc X.env.scope x)(r:zAj v u)(h:∀s',Inv X Z (O.set i<|some v) H s'->(∃a,Heap.SameBut a s.heap s'.heap/\(a=X.env.locals\/X.env.cells.lookup x=some a))->Q Unit.unit s')(hf:X.fn x=true\/X.env.scope.names.lookup x=some .local:=by first|exact .inl rfl|exact .inr rfl|assumption):wpAny M A (storeName X.env x u) Q E s:=by
 let⟨m,hn,hl⟩:=id I.loc;have S:(X.env.scope.kind == .class||(X.env.scope.kind == .module&&X.env.locals != X.env.globals))=false:=by rw[I.ok.kind];rfl
 have hiσ:i<O.length:=by rw[I.len];exact(xAq.mp hi).1
 have cne:=I.cne;have tracked:∀{a:B5}{h':Heap},(∃o,s.heap.get? a=some o/\H a=none)->Heap.SameBut a s.heap h'->HOk X.prog X.w H h':=λ{a h'} ha l b ob e=>by
  let⟨_,_,F⟩:=ha;refine(I.hok b ob e).stay (λc W hc q=>(l.2 c ?_).trans q) (λ_ q=>q) λ_ _ q=>q;rintro rfl
  rcases hc with rfl|hc
  .rw[F] at e;cases e
  .rw[F] at hc;cases hc
 rcases D with hk|hk
 .refine wpAny_storeName_local hk hn (λh' hn' l=>?_) S;let⟨oL,_,_,hoL,_⟩:=id hn;refine h _ ⟨I.ok,I.os,I.bare,⟨λb o e n L D=>?_,λb o e n L D=>?_,I.base.free,λb o e D=>?_,I.base.tups,I.base.frzs,I.base.tbls⟩,⟨_,hn',λj y v' B G e3=>?_⟩,λy c e=>?_,I.free,I.freeC,λp hp=>?_,tracked ⟨oL,hoL,I.free⟩ l,by simpa using I.len⟩ ⟨_,l,.inl rfl⟩
  .exact(l.2 b<|xA0<|xBc (xA1 e) I.ok.above).trans<|I.base.keep b o e n L D
  .let⟨sl,B⟩:=I.base.slot b o e n L D;exact⟨sl,(l.2 b<|xA0<|xBc (xA1 e) I.ok.above).trans B⟩
  .let⟨o',B⟩:=I.base.there b o e D;exact⟨o',(l.2 b<|xA0<|xBc (xA1 e) I.ok.above).trans B⟩
  .by_cases hj:j=i
   .subst hj;rw[hi] at B;cases B;rw[List.getElem?_set_self hiσ] at G;cases G;exact⟨u,r,.inl ⟨hk,⋯⟩⟩
   .rw[xC1<|Ne.symm hj] at G;let⟨u',r',q⟩:=hl j y v' B G e3;refine⟨u',r',?_⟩;rcases q with ⟨k,e⟩|⟨k,c,e,z⟩
    .refine .inl ⟨k,?_⟩;have:y≠x:=λe=>hj<|ke hN B<|e▸hi;simp[this,e]
    .exact .inr ⟨k,c,e,z.sameBut l<|cne y c e⟩
  .let⟨W,z⟩:=I.cell y c e;exact⟨W,z.sameBut l<|cne y c e⟩
  .let⟨e,n,ne,nf,d⟩:=I.pin p hp;exact⟨(l.2 p.1 ne).trans e,n,ne,nf,d⟩
 .have J:X.fn x=true:=by
   rcases hf with z|z
   .exact z
   .rw[z] at hk;cases hk
  let⟨c,hc⟩:=I.ok.has x<|.inl hk;let⟨W,z⟩:=I.cell x c hc;refine wpAny_storeName_cell I.ok.kind hk hc z (λh' T l=>?_);let⟨oc,R,P⟩:=id z;refine h {s with heap:=h'} ⟨I.ok,I.os,I.bare,⟨λb o e n L D=>?_,λb o e n L D=>?_,I.base.free,λb o e D=>?_,I.base.tups,I.base.frzs,I.base.tbls⟩,⟨m,hn.sameBut l<|Ne.symm<|cne x c hc,λj y v' B G e3=>?_⟩,λy Y e=>?_,I.free,I.freeC,λp hp=>?_,tracked ⟨oc,R,I.freeC x c hc⟩ l,by simpa using I.len⟩ ⟨c,l,.inr hc⟩
  .exact(l.2 b<|xA0<|xBc (xA1 e)<|I.ok.cab x c J hc).trans<|I.base.keep b o e n L D
  .let⟨sl,B⟩:=I.base.slot b o e n L D;exact⟨sl,(l.2 b<|xA0<|xBc (xA1 e)<|I.ok.cab x c J hc).trans B⟩
  .let⟨o',B⟩:=I.base.there b o e D;exact⟨o',(l.2 b<|xA0<|xBc (xA1 e)<|I.ok.cab x c J hc).trans B⟩
  .by_cases hj:j=i
   .subst hj;rw[hi] at B;cases B;rw[List.getElem?_set_self hiσ] at G;cases G;exact⟨u,r,.inr ⟨.inl hk,c,hc,T⟩⟩
   .rw[xC1<|Ne.symm hj] at G;let⟨u',r',q⟩:=hl j y v' B G e3;refine⟨u',r',?_⟩;rcases q with q|⟨k,Y,e,z'⟩
    .exact .inl q
    .refine .inr ⟨k,Y,e,z'.sameBut l ?_⟩;rintro rfl
     exact hj<|ke hN B<|I.ok.inj _ _ _ e hc▸hi
  .by_cases hcc:Y=c
   .subst hcc;exact⟨_,T⟩
   .let⟨w2,z2⟩:=I.cell y Y e;exact⟨w2,z2.sameBut l hcc⟩
  .let⟨e,n,ne,nf,d⟩:=I.pin p hp;refine⟨(l.2 p.1 ?_).trans e,n,ne,nf,d⟩;intro q;rw[q,R] at e;have q':oc=p.2:=xB3 e;exact d W (by rw[<- q'];exact P)
def eY{E:B2->B3->Prop}{x:Str}{v:V}{u:B2}{Q:Unit->B3->Prop}(I:Inv X Z O H s)(d:X.N.Nodup)(hi:X.N[i]?=some x)(b:Loc X.env.scope x)(r:zAj v u)(h:∀a,Inv X Z (O.set i<|some v) H a->Q Unit.unit a)(c:X.fn x=true\/X.env.scope.names.lookup x=some .local:=by first|exact .inl rfl|exact .inr rfl|assumption):wpAny M A (storeName X.env x u) Q E s:=
 iy I d hi b r (λa I' _=>h a I') c
def Inv.call'{a:B3}{ch:B0 B5}(I:Inv X Z O H s)(o:a.os=s.os)(u:Un (frs X.stack) ch H H' s.heap a.heap)(d:HOk X.prog X.w H' a.heap)(q:AllBare a.gens)(l:∀b∈ch,(b∈X.ex\/X.s₀.heap.objs.size<=b)/\b≠X.env.locals/\(∀x c,X.env.cells.lookup x=some c->c≠b)/\∀p∈X.pn++Z,p.1≠b):Inv X Z O H' a:=by
 let⟨h',g',d',t',m⟩:=a;have e:m=s.os:=o;subst e;exact I.call (g':=g') (t':=t') (d':=d') u d q l
end
noncomputable abbrev XK:=B2->B1 B5->Hp->Prop
noncomputable abbrev St:=B0<|B1 V
noncomputable abbrev VK:=V->Hp->Prop
noncomputable abbrev TE:=St->Hp->VK->Prop
noncomputable abbrev TT:=St->Hp->(B6->Hp->Prop)->Prop
noncomputable abbrev TA:=St->Hp->(C0->Hp->Prop)->Prop
structure zDi where
 nx:St->Hp->Prop
 rt:VK
 bk:St->Hp->Prop:=λ_ _=>False
 ct:St->Hp->Prop:=λ_ _=>False
noncomputable abbrev TS:=zDi->St->Hp->Prop
def EP(X:Cx)(Z:B0<|B5×Obj)(O:St)(Q:VK)(u:B2)(a:B3):Prop:=∃v H',Inv X Z O H' a/\zAj v u/\Q v H'
def TP(X:Cx)(Z:B0<|B5×Obj)(O:St)(Q:B6->Hp->Prop)(b:B6)(a:B3):Prop:=∃H',Inv X Z O H' a/\Q b H'
def AP(X:Cx)(Z:B0<|B5×Obj)(O:St)(Q:C0->Hp->Prop)(us:C3)(a:B3):Prop:=∃vs H',Inv X Z O H' a/\zAi vs us/\Q vs H'
def SP(X:Cx)(Z:B0<|B5×Obj)(D:zDi)(f:Flow)(a:B3):Prop:=
 match f with
 |.next=>∃O' H',Inv X Z O' H' a/\D.nx O' H'
 |.brk=>∃O' H',Inv X Z O' H' a/\D.bk O' H'
 |.cont=>∃O' H',Inv X Z O' H' a/\D.ct O' H'
 |.ret u=>∃v O' H',Inv X Z O' H' a/\zAj v u/\D.rt v H'
def PE(X:Cx)(e:B4)(t:TE):Prop:=
 ∀(Z:B0<|B5×Obj)(s:B3)(O:St)(H:Hp)(Q:VK),Inv X Z O H s->t O H Q->wpAny (model X.prog X.w) X.A (eval e X.env) (EP X Z O Q) X.xe s
def PT(X:Cx)(e:B4)(t:TT):Prop:=
 ∀(Z:B0<|B5×Obj)(s:B3)(O:St)(H:Hp)(Q:B6->Hp->Prop),Inv X Z O H s->t O H Q->wpAny (model X.prog X.w) X.A (isTrue e X.env<|eval e X.env) (TP X Z O Q) X.xe s
def PW(X:Cx)(e:B4)(t:TT):Prop:=
 ∀(a:Sem B2)(Z:B0<|B5×Obj)(s:B3)(O:St)(H:Hp)(Q:B6->Hp->Prop),Inv X Z O H s->t O H Q->wpAny (model X.prog X.w) X.A (isTrue e X.env a) (TP X Z O Q) X.xe s
def PW.pt{e:B4}{t:TT}(h:PW X e t):PT X e t:=h _
def PA(X:Cx)(es:B0 B4)(t:TA):Prop:=
 ∀(pos:Pos)(Z:B0<|B5×Obj)(s:B3)(O:St)(H:Hp)(Q:C0->Hp->Prop),Inv X Z O H s->t O H Q->wpAny (model X.prog X.w) X.A (spliced<|backTo pos<|starEach es X.env) (AP X Z O Q) X.xe s
def PS(X:Cx)(st:Stmt)(t:TS):Prop:=
 ∀(Z:B0<|B5×Obj)(s:B3)(O:St)(H:Hp)(D:zDi),Inv X Z O H s->t D O H->wpAny (model X.prog X.w) X.A (exec st X.env) (SP X Z D) X.xe s
def PSs(X:Cx)(st:B0 Stmt)(t:TS):Prop:=
 ∀(Z:B0<|B5×Obj)(s:B3)(O:St)(H:Hp)(D:zDi),Inv X Z O H s->t D O H->wpAny (model X.prog X.w) X.A (execs st X.env) (SP X Z D) X.xe s
def thn{J:Type}{t:Sem J}{Q Q':J->B3->Prop}{E:B2->B3->Prop}(h:wpAny M A t Q E s)(b:∀a s,Q a s->Q' a s):wpAny M A t Q' E s:=wpAny_mono h b λ_ _ x=>x
section
variable{X:Cx}
def zIa(i:Nat):TE:=λO H Q=>∃v,O[i]?=some (some v)/\Q v H
def tC(v:V):TE:=λ_ H Q=>Q v H
def je{x:Str}(F:X.N[i]?=some x)(w:Vis X.env.scope x)(d:(x==("__debug__":Str))=false:=by decide)(o:(x==("__classdict__":Str))=false:=by decide):PE X (.Name x pos)<|zIa i:=by
 intro Z s O H Q I h;let⟨v,e,h⟩:=h;let⟨m,B,E⟩:=I.loc;let⟨u,r,l⟩:=E i x v F e w;have b:EP X Z O Q u s:=⟨v,H,I,r,h⟩
 rcases l with ⟨hk,D⟩|⟨hk,c,q,a⟩
 .exact wpAny_Name (wpAny_loadName_local I.ok.kind hk B D b) d
 .rcases hk with hk|hk
  .exact wpAny_Name (wpAny_loadName_cell I.ok.kind hk q a b) d
  .exact wpAny_Name (wpAny_loadName_free I.ok.kind hk q a b o) d
def xo{i j pos}:PE X (.Constant (.int i) j pos)<|tC<|.int i:=λ_ _ _ H _ I h=>wpAny_Constant_int ⟨.int i,H,I.tok _,⟨_,rfl⟩,h⟩
def vL{b j pos}:PE X (.Constant (.bool b) j pos)<|tC<|.bl b:=λ_ _ _ H _ I h=>Constant_bool ⟨.bl b,H,I,rfl,h⟩
def lr{j pos}:PE X (.Constant .none j pos)<|tC .non:=λ_ _ _ H _ I h=>Constant_none ⟨.non,H,I,rfl,h⟩
def qz{x j pos}:PE X (.Constant (.str x) j pos)<|tC<|.str x:=λ_ _ _ H _ I h=>Calls.Constant_str ⟨.str x,H,I.tok _,⟨_,rfl⟩,h⟩
def Gl(X:Cx)(x:Str):Prop:=X.env.kindOf x=some .globalImplicit
def dP{E:B2->B3->Prop}{O:St}{x:Str}{u:B2}(I:Inv X Z O H s)(b:Gl X x)(a:X.mg x=some u)(h:Q u s)(c:(x==("__debug__":Str))=false:=by decide):wpAny (model X.prog X.w) X.A (eval (.Name x pos) X.env) Q E s:=
 Calls.Name_function_global I.ok.kind b (Calls.loadGlobal_global (by rw[I.ok.glob];exact I.mod.glob.keeps I.bk) a h) c
def fD{E:B2->B3->Prop}{O:St}{x:Str}{u:B2}(I:Inv X Z O H s)(d:Gl X x)(c:X.mg x=none)(a:bootBuiltins x=some u)(h:Q u s)(b:x≠"__name__":=by decide)(e:(x==("__debug__":Str))=false:=by decide):wpAny (model X.prog X.w) X.A (eval (.Name x pos) X.env) Q E s:=by
 let⟨o,m,l⟩:=I.mod.blt;exact Calls.Name_function_global I.ok.kind d (Calls.loadGlobal_builtin (by rw[I.ok.glob];exact I.mod.glob.keeps I.bk) c (by rw[I.ok.blt];exact m.keeps I.bk) ((l x b).trans a) h) e
def jf{x:Str}{v:V}{u:B2}(b:Gl X x)(a:X.mg x=some u)(r:zAj v u)(c:(x==("__debug__":Str))=false:=by decide):PE X (.Name x pos)<|tC v:=
 λ_ _ _ H _ I h=>dP I b a ⟨v,H,I,r,h⟩ c
def ul{x:Str}{v:V}{u:B2}(d:Gl X x)(c:X.mg x=none)(a:bootBuiltins x=some u)(r:zAj v u)(b:x≠"__name__":=by decide)(e:(x==("__debug__":Str))=false:=by decide):PE X (.Name x pos)<|tC v:=
 λ_ _ _ H _ I h=>fD I d c a ⟨v,H,I,r,h⟩ b e
variable{a b:B4}{ta tb:TE}{pos:Pos}
def tB(t:TE):TT:=λO H Q=>t O H λx H1=>∃c,x=.bl c/\Q c H1
def wW{e:B4}{t:TE}(h:PE X e t)(r:∀c,isTrue e X.env c=(do let v <- c;standAt e.pos;holding [v] (truthy v)):=by intro _;rfl):PT X e<|tB t:=by
 intro Z s O H Q I o;refine isTrue_plain (thn (h Z s O H _ I o) λv w ⟨x,H1,I1,l,m⟩=>?_) (r _);let⟨d,rfl,q⟩:=m;cases l;exact wpAny_truthy_bool ⟨H1,I1,q⟩
variable{tA tB':TT}{rest:B0 B4}
def zJ0(t u:TT):TT:=λO H Q=>t O H λc H1=>if c=true then u O H1 Q else Q false H1
def tOr(t u:TT):TT:=λO H Q=>t O H λc H1=>if c=true then Q true H1 else u O H1 Q
def zJv(t:TT):TT:=λO H Q=>t O H λc H1=>Q (!c) H1
theorem tK(d:PT X a tA):PW X (.BoolOp .And [a] pos) tA:=by
 intro l Z s O H Q I h;refine isTrue_and (thn (d Z s O H Q I h) λc m e=>?_);cases c with
 |true=>exact isTrue_and_nil e
 |false=>exact e
theorem wU(d:PT X a tA):PW X (.BoolOp .Or [a] pos) tA:=by
 intro l Z s O H Q I h;refine isTrue_or (thn (d Z s O H Q I h) λc m e=>?_);cases c with
 |false=>exact isTrue_or_nil e
 |true=>exact e
theorem wV(o:PT X a tA)(m:PW X (.BoolOp .And (b::rest) pos) tB'):PW X (.BoolOp .And (a::b::rest) pos)<|zJ0 tA tB':=by
 intro e Z s O H Q I h;refine isTrue_and (thn (o Z s O H _ I h) λc l ⟨H1,I1,d⟩=>?_);cases c with
 |true=>exact m e Z l O H1 Q I1 d
 |false=>exact⟨H1,I1,d⟩
theorem zj(o:PT X a tA)(m:PW X (.BoolOp .Or (b::rest) pos) tB'):PW X (.BoolOp .Or (a::b::rest) pos)<|tOr tA tB':=by
 intro e Z s O H Q I h;refine isTrue_or (thn (o Z s O H _ I h) λc l ⟨H1,I1,d⟩=>?_);cases c with
 |true=>exact⟨H1,I1,d⟩
 |false=>exact m e Z l O H1 Q I1 d
def wX(d:PT X a tA):PT X (.UnaryOp .Not a pos)<|zJv tA:=by
 intro Z s O H Q I h;exact isTrue_not (d Z s O H (λc H1=>Q (!c) H1) I h)
def zG0(ta tb:TE):TE:=λO H Q=>ta O H λx H1=>∃c,x=.bl c/\if c=true then tb O H1 Q else Q (.bl false) H1
def zJu(ta tb:TE):TE:=λO H Q=>ta O H λx H1=>∃c,x=.bl c/\if c=true then Q (.bl true) H1 else tb O H1 Q
def zGw(ta:TE):TE:=λO H Q=>ta O H λx H1=>∃c,x=.bl c/\Q (.bl (!c)) H1
def xk{op}{t:TE}(h:PE X a t):PE X (.BoolOp op [a] pos) t:=λZ s O H Q I c=>BoolOp_one<|h Z s O H Q I c
theorem xr(q:PE X a ta)(o:PE X (.BoolOp .And (b::rest) pos) tb):PE X (.BoolOp .And (a::b::rest) pos)<|zG0 ta tb:=by
 intro Z s O H Q I h;refine BoolOp_and (thn (q Z s O H _ I h) λv l e=>?_);let⟨x,H1,I1,m,d⟩:=e;let⟨c,rfl,d⟩:=d;cases m;erw[wpAny_truthy_bool];cases c with
 |true=>exact o Z l O H1 Q I1 d
 |false=>exact⟨.bl false,H1,I1,rfl,d⟩
theorem zv(q:PE X a ta)(o:PE X (.BoolOp .Or (b::rest) pos) tb):PE X (.BoolOp .Or (a::b::rest) pos)<|zJu ta tb:=by
 intro Z s O H Q I h;refine BoolOp_or (thn (q Z s O H _ I h) λv l e=>?_);let⟨x,H1,I1,m,d⟩:=e;let⟨c,rfl,d⟩:=d;cases m;erw[wpAny_truthy_bool];cases c with
 |false=>exact o Z l O H1 Q I1 d
 |true=>exact⟨.bl true,H1,I1,rfl,d⟩
def xl(m:PE X a ta):PE X (.UnaryOp .Not a pos)<|zGw ta:=by
 intro Z s O H Q I h;refine UnaryOp_ (thn (m Z s O H _ I h) λv o e=>?_);let⟨x,H1,I1,l,d⟩:=e;let⟨c,rfl,d⟩:=d;cases l;exact not_of<|wpAny_truthy_bool ⟨.bl (!c),H1,I1,rfl,d⟩
def tIf(t:TT)(ta tb:TE):TE:=λO H Q=>t O H λc H1=>if c=true then ta O H1 Q else tb O H1 Q
theorem qD{c:B4}(m:PT X c tA)(q:PE X a ta)(o:PE X b tb):PE X (.IfExp c a b pos)<|tIf tA ta tb:=by
 intro Z s O H Q I h;refine wpAny_IfExp (thn (m Z s O H _ I h) λd e ⟨H1,I1,l⟩=>?_);cases d with
 |true=>exact q Z e O H1 Q I1 l
 |false=>exact o Z e O H1 Q I1 l
end
def SqL(K:xFr)(H:Hp)(a:B5)(xs:C0):Prop:=
 Rd H a (.lst xs) \/
  ∃(o:Obj) (b:Array B2) (n:Nat),K.lookup a=some o/\o.cls=.type "list"/\o.dict=none/\o.data=.seq b n/\b.size<=sizeLine/\zAi xs b.toList
def SqT(K:xFr)(H:Hp)(a:B5)(xs:C0):Prop:=
 Rd H a (.tup xs) \/
  ∃(o:Obj) (b:Array B2) (n:Nat),K.lookup a=some o/\o.cls=.type "tuple"/\o.data=.seq b n/\b.size<=sizeLine/\zAi xs b.toList
noncomputable def zKl:B2->B1 V
 |.none=>some .non
 |.bool b=>some<|.bl b
 |.int i _=>some<|.int i
 |.str x _=>some<|.str x
 |.bytes b _=>some<|.byt b
 |.float b _=>some<|.flt b
 |.ref a=>some<|.ref a
 |.type n=>some<|.ty n
 |_=>none
theorem zAj.abs{x:V}{u:B2}(r:zAj x u):zKl u=some x:=by
 cases x with
 |non=>cases r;rfl
 |bl _=>cases r;rfl
 |int _=>let⟨t,rfl⟩:=r;rfl
 |str _=>let⟨t,rfl⟩:=r;rfl
 |byt _=>let⟨t,rfl⟩:=r;rfl
 |flt _=>let⟨t,rfl⟩:=r;rfl
 |ref _=>cases r;rfl
 |ty _=>cases r;rfl
def zAj.inj{x:V}{u:B2}(r:zAj x u)(q:zAj y u):x=y:=xB3<|r.abs.symm.trans q.abs
theorem zAi.inj:∀{xs ys:C0}{us:C3},zAi xs us->zAi ys us->xs=ys
 |_,_,_,.nil,.nil=>rfl
 |_,_,_,.cons r t,.cons r' t'=>by rw[r.inj r',zAi.inj t t']
section
variable{X:Cx}{Z:B0<|B5×Obj}{O:St}{H:Hp}{s:B3}{a:B5}{xs ys:C0}
def SqL.of(h:H a=some (.lst xs)):SqL K H a xs:=.inl<|.inl h
def SqT.of(h:H a=some (.tup xs)):SqT K H a xs:=.inl<|.inl h
def Inv.list(I:Inv X Z O H s)(h:SqL X.K H a xs):∃b:C3,zAi xs b/\PlainL s.heap a b.toArray/\xs.length<=sizeLine:=by
 rcases h with h|⟨o,b,n,hk,hc,hd,hs,hz,r⟩
 .let⟨z,b,n,r,e⟩:=h.ok I.hok;exact⟨b,r,⟨_,n,e,rfl,rfl,rfl⟩,z⟩
 .refine⟨b.toList,r,⟨o,n,I.kIn a o hk,hc,hd,by simpa using hs⟩,?_⟩;have e:=r.length;simp only[Array.length_toList] at e;lia
def Inv.tuple(I:Inv X Z O H s)(h:SqT X.K H a xs):∃b:C3,zAi xs b/\IsTup s.heap a b.toArray/\xs.length<=sizeLine:=by
 rcases h with h|⟨o,b,n,hk,hc,hs,hz,r⟩
 .let⟨z,b,r,p⟩:=h.ok I.hok;exact⟨b,r,p,z⟩
 .refine⟨b.toList,r,⟨o,I.kIn a o hk,hc,n,by simpa using hs⟩,?_⟩;have e:=r.length;simp only[Array.length_toList] at e;lia
def Inv.list_inj(I:Inv X Z O H s)(h:SqL X.K H a xs)(h':SqL X.K H a ys):xs=ys:=by
 let⟨c,r,⟨o,n,e,_,_,d⟩,_⟩:=I.list h;let⟨b,r',⟨m,q,l,_,_,d'⟩,_⟩:=I.list h';rw[e] at l;cases l;rw[d] at d';injection d' with d1 _;have:c=b:=by simpa using congrArg Array.toList d1
 subst this;exact r.inj r'
def Inv.tuple_inj(I:Inv X Z O H s)(h:SqT X.K H a xs)(h':SqT X.K H a ys):xs=ys:=by
 let⟨c,r,⟨o,e,_,n,d⟩,_⟩:=I.tuple h;let⟨b,r',⟨m,l,_,q,d'⟩,_⟩:=I.tuple h';rw[e] at l;cases l;rw[d] at d';injection d' with d1 _;have:c=b:=by simpa using congrArg Array.toList d1
 subst this;exact r.inj r'
end
noncomputable abbrev Cx.wish(X:Cx)(E:B2->B3->Prop):Cx:={X with xe:=E}
theorem Cx.Ok.wish{X:Cx}(ok:X.Ok)(E:B2->B3->Prop):(X.wish E).Ok:=
 ⟨ok.mod,ok.kind,ok.glob,ok.blt,ok.above,ok.inj,ok.has,ok.cab,ok.hd,ok.frames,ok.stk,ok.exf,ok.bs,ok.bsz,ok.noex,ok.exfs,ok.funs,ok.frf⟩
def Cx.Ok.unwish{E:B2->B3->Prop}(ok:(X.wish E).Ok):X.Ok:=
 ⟨ok.mod,ok.kind,ok.glob,ok.blt,ok.above,ok.inj,ok.has,ok.cab,ok.hd,ok.frames,ok.stk,ok.exf,ok.bs,ok.bsz,ok.noex,ok.exfs,ok.funs,ok.frf⟩
section
variable{X:Cx}{Z:B0<|B5×Obj}{O:St}{H:Hp}{s:B3}{E:B2->B3->Prop}
theorem Inv.wish(I:Inv X Z O H s)(E:B2->B3->Prop):Inv (X.wish E) Z O H s:=⟨I.ok.wish E,I.os,I.bare,I.base,I.loc,I.cell,I.free,I.freeC,I.pin,I.hok,I.len⟩
theorem Inv.unwish(I:Inv (X.wish E) Z O H s):Inv X Z O H s:=⟨I.ok.unwish,I.os,I.bare,I.base,I.loc,I.cell,I.free,I.freeC,I.pin,I.hok,I.len⟩
theorem SP.unwish{D:zDi}{f:Flow}{a:B3}(h:SP (X.wish E) Z D f a):SP X Z D f a:=by
 cases f with
 |next=>let⟨O',H',I,q⟩:=h;exact⟨O',H',I.unwish,q⟩
 |brk=>let⟨O',H',I,q⟩:=h;exact⟨O',H',I.unwish,q⟩
 |cont=>let⟨O',H',I,q⟩:=h;exact⟨O',H',I.unwish,q⟩
 |ret u=>let⟨v,O',H',I,r,q⟩:=h;exact⟨v,O',H',I.unwish,r,q⟩
end
section
variable{X:Cx}{st:Stmt}{rest:B0 Stmt}{t u:TS}{e:B4}{te:TE}{pos:Pos}
def zE3:TS:=λD O H=>D.nx O H
def zJr(t u:TS):TS:=λD O H=>t {D with nx:=u D} O H
def tN:PSs X [] zE3:=λ_ _ O H _ I h=>wpAny_execs_nil ⟨O,H,I,h⟩
theorem qb(c:PS X st t)(b:PSs X rest u):PSs X (st::rest)<|zJr t u:=by
 intro Z s O H D I h;refine wpAny_execs_cons (thn (c Z s O H {D with nx:=u D} I h) λf a q=>?_);cases f with
 |next=>
  let⟨O',H',I',q⟩:=q;exact b Z a O' H' D I' q
 |ret v=>exact q
 |brk=>exact q
 |cont=>exact q
theorem i8(a:PS X st t):PSs X [st] t:=by
 intro Z s O H D I h;refine wpAny_execs_cons (thn (a Z s O H D I h) λf b q=>?_);cases f with
 |next=>exact wpAny_execs_nil q
 |ret v=>exact q
 |brk=>exact q
 |cont=>exact q
def tO:PS X (.Pass pos) zE3:=λ_ _ O H _ I h=>wpAny_Pass ⟨O,H,I,h⟩
def Inv.quiet{O:St}(I:Inv X Z O H s):interactive X.env=false:=by simp[interactive,I.ok.kind]
def zE6(te:TE):TS:=λD O H=>te O H λ_ H1=>D.nx O H1
def tR(c:PE X e te)(b:swapsWith e none pos.line X.env=pure false:=by rfl):PS X (.Expr e pos)<|zE6 te:=by
 intro Z s O H D I h;exact wpAny_Expr_any (thn (c Z s O H _ I h) λv d ⟨x,H1,I1,l,a⟩=>⟨O,H1,I1,a⟩) I.quiet b
def zJs(te:TE):TS:=λD O H=>te O H D.rt
def wZ(c:PE X e te):PS X (.Return (some e) pos)<|zJs te:=by
 intro Z s O H D I h;exact wpAny_Return_some (thn (c Z s O H _ I h) λv d ⟨x,H1,I1,a,b⟩=>⟨x,O,H1,I1,a,b⟩)
def zJx(c:TT)(t u:TS):TS:=λD O H=>c O H λb H1=>if b=true then t D O H1 else u D O H1
theorem zk{c:B4}{a b:B0 Stmt}{l:TT}(q:PT X c l)(v:PSs X a t)(r:PSs X b u):PS X (.If c a b pos)<|zJx l t u:=by
 intro Z s O H D I h;refine wpAny_If (thn (q Z s O H _ I h) λd m ⟨H1,I1,o⟩=>?_);cases d with
 |true=>exact v Z m O H1 D I1 o
 |false=>exact r Z m O H1 D I1 o
end
noncomputable abbrev TG:=V->St->Hp->(St->Hp->Prop)->Prop
noncomputable abbrev TGs:=C0->St->Hp->(St->Hp->Prop)->Prop
def PG(X:Cx)(target:B4)(t:TG):Prop:=
 ∀(Z:B0<|B5×Obj)(s:B3)(O:St)(H:Hp)(v:V)(u:B2)(Q:St->Hp->Prop),Inv X Z O H s->zAj v u->t v O H Q ->
  wpAny (model X.prog X.w) X.A (assign target X.env u) (λ_ a=>∃O' H',Inv X Z O' H' a/\Q O' H') X.xe s
def PGs(X:Cx)(ts:B0 B4)(t:TGs):Prop:=
 ∀(Z:B0<|B5×Obj)(s:B3)(O:St)(H:Hp)(vs:C0)(us:C3)(Q:St->Hp->Prop),Inv X Z O H s->zAi vs us->t vs O H Q ->
  wpAny (model X.prog X.w) X.A (assignInOrder ((assignEach ts X.env).map (·.2)) us) (λ_ a=>∃O' H',Inv X Z O' H' a/\Q O' H') X.xe s
noncomputable abbrev zGr:=V->V->V->Hp->(Hp->Prop)->Prop
def zHz(X:Cx)(t:zGr):Prop:=
 ∀(Z:B0<|B5×Obj)(s:B3)(O:St)(H:Hp)(o i v:V)(a b u:B2)(Q:Hp->Prop),Inv X Z O H s->zAj o a->zAj i b->zAj v u->t o i v H Q ->
  wpAny (model X.prog X.w) X.A (setItem a b u) (λ_ c=>∃H',Inv X Z O H' c/\Q H') X.xe s
section
variable{X:Cx}{pos:Pos}
def zC0(i:Nat):TG:=λv O H Q=>Q (O.set i<|some v) H
def m4{x:Str}(c:X.N.Nodup)(hi:X.N[i]?=some x)(a:Loc X.env.scope x)(b:X.fn x=true\/X.env.scope.names.lookup x=some .local:=by first|exact .inl rfl|exact .inr rfl|assumption):PG X (.Name x pos)<|zC0 i:=by
 intro Z s O H v u Q I r h;exact wpAny_assign_Name (eY I c hi a r (λd I'=>⟨_,H,I',h⟩) b)
def zI4:TGs:=λvs O H Q=>vs=[]/\Q O H
def zF1(t:TG)(u:TGs):TGs:=λvs O H Q=>∃v r,vs=v::r/\t v O H λO' H'=>u r O' H' Q
def uf:PGs X [] zI4:=by
 intro Z s O H vs us Q I r h;let⟨e,h⟩:=h;subst e;cases r;exact assignInOrder_nil ⟨O,H,I,h⟩
theorem qx{e:B4}{t:TG}{u:TGs}(o:PG X e t)(m:PGs X es u)(l:(assignEach (e::es) X.env).map (·.2)=assign e X.env::(assignEach es X.env).map (·.2):=by rfl):PGs X (e::es)<|zF1 t u:=by
 intro Z s O H vs us Q I r h;let⟨v,w,q,h⟩:=h;subst q;cases r with
 |cons r c=>
  rw[l];refine assignInOrder_cons (thn (o Z s O H _ _ _ I r h) λ_ b a=>?_);let⟨σ1,H1,I1,d⟩:=a;exact m Z b σ1 H1 _ _ Q I1 c d
def zHl(K:xFr)(n:Nat)(t:TGs):TG:=λv O H Q=>∃a b,v=.ref a/\SqT K H a b/\b.length=n/\t b O H Q
def qy{t:TGs}(F:X.calm=true)(h:PGs X es t)(D:(assignEach es X.env).length=n:=by rfl)(d:(assignEach es X.env).findIdx? (·.1)=none:=by rfl):PG X (.Tuple es k pos)<|zHl X.K n t:=by
 intro Z s O H v u Q I r c;let⟨a,m,J,B,E,c⟩:=c;subst J;cases r;let⟨q,l,x,L⟩:=I.tuple B;refine assign_Tuple_tuple (I.ok.hd F) x (by simp[D,<- E,l.length]) d λG w=>?_;have I1:Inv X Z O H {s with heap:=G}:=I.kept (t':=s.toks) λb o e=>w b o (xA0<|xA1 e) e;exact h Z _ O H m _ Q I1 (by simpa using l) c
def zKi(to a:TE)(t:zGr):TG:=λv O H Q=>to O H λo H1=>a O H1 λi H2=>t o i v H2 λH3=>Q O H3
def xh{o i:B4}{to d:TE}{t:zGr}(E:PE X o to)(hi:PE X i d)(D:zHz X t)(F:∀v,assign (.Subscript o i pos) X.env v=(do
   let a <- holding [v] (eval o X.env)
   let b <- holding [v,a] (eval i X.env)
   standAt pos
   holding [v,a,b] (setItem a b v)
   release [v,a,b] []):=by intro _;rfl):PG X (.Subscript o i pos)<|zKi to d t:=by
 intro Z s O H v u Q I r h;rw[F];refine xAd (xDc<|thn (E Z s O H _ I h) λa l c=>?_);let⟨x,H1,I1,m,B⟩:=c;refine xAd (xDc<|thn (hi Z l O H1 _ I1 B) λb e c=>?_);let⟨y,H2,I2,r2,w⟩:=c;refine xAd (wpAny_standAt<|xAd<|xDc<|thn (D Z e O H2 x y v a b u _ I2 m r2 r w) λ_ G ⟨H3,I3,q⟩=>?_);exact wpAny_release ⟨O,H3,I3,q⟩
def zGl(te:TE)(g:TG):TS:=λD O H=>te O H λx H1=>g x O H1 D.nx
def qf{e:B4}{g:TG}(o:PE X e te)(m:PG X tg g)(l:swapsWithSole [tg] e pos.line X.env=pure false:=by rfl)(d:swappedStores [tg] e X.env=pure none:=by rfl)(r:(assignEach [tg] X.env).map (·.2)=[assign tg X.env]:=by rfl):PS X (.Assign [tg] e pos)<|zGl te g:=by
 intro Z s O H D I h;refine wpAny_Assign_stores (thn (o Z s O H _ I h) λv a ⟨x,H1,I1,b,c⟩=>?_) l d;rw[r];exact thn (m Z a O H1 x v _ I1 b c) λ_ w q=>q
def qe{x:Str}{e:B4}{a:Pos}(q:X.N.Nodup)(hi:X.N[i]?=some x)(d:Loc X.env.scope x)(o:PE X e te)(l:swapsWith e (some<|.Name x a) pos.line X.env=pure false:=by rfl)(m:X.fn x=true\/X.env.scope.names.lookup x=some .local:=by first|exact .inl rfl|exact .inr rfl|assumption) :
  PS X (.Assign [.Name x a] e pos) (zGl te<|zC0 i):=by
 intro Z s O H D I h;refine wpAny_Assign_Name (thn (o Z s O H _ I h) λv w ⟨y,H1,I1,b,c⟩=>?_) l;exact eY I1 q hi d b (λr I2=>⟨_,H1,I2,c⟩) m
def zJt(i j:Nat)(a:TA):TS:=λD O H=>a O H λvs H1=>∃v w,vs=[v,w]/\D.nx ((O.set i<|some v).set j<|some w) H1
def w4{x y:Str}{a b:B4}{G:TA}{B r pt:Pos}{kt k2 pt2}(hc:X.calm=true)(P:X.N.Nodup)(hi:X.N[i]?=some x)(hj:X.N[j]?=some y)(F:i≠j)(L:X.env.scope.names.lookup x=some .local)(J:X.env.scope.names.lookup y=some .local)(ha:PA X [a,b] G)(Y:swappedStores [.Tuple [.Name x B,.Name y r] kt pt] (.Tuple [a,b] k2 pt2) X.env=pure (some [x,y]))(hs:swapsWithSole [.Tuple [.Name x B,.Name y r] kt pt] (.Tuple [a,b] k2 pt2) pos.line X.env=pure false:=by rfl) :
  PS X (.Assign [.Tuple [.Name x B,.Name y r] kt pt] (.Tuple [a,b] k2 pt2) pos) (zJt i j G):=by
 intro Z s O H D I h;rw[exec_Assign_arm];refine xAd (wpAny_standAt ?_);rw[hs];refine xAd (xAe ?_);rw[xCf ∅];refine xAd (Tuple_<|thn (ha _ Z s O H _ I h) λus l R=>?_);let⟨vs,H1,I1,S,m⟩:=R;let⟨v,w,e1,m⟩:=m;subst e1;obtain⟨d,c,rfl,rv,rw'⟩:∃d c,us=[d,c]/\zAj v d/\zAj w c:=by
  cases S with
  |cons p q=>
   cases q with
   |cons W T=>
    cases T;exact⟨_,_,rfl,p,W⟩
 refine xBl ?_ (by show 2<=sizeLine;decide);have I2:Inv X Z O H1 {l with heap:=l.heap.push {cls:=.type "tuple",data:=.seq [d,c].toArray} }:=I1.kept (t':=l.toks) λb o e=>xAf _ e;rw[Y];refine xAd<|xAe ?_;show wpAny (model X.prog X.w) X.A (do rule "assign.swapped-stores";let items <- unpackItems (.ref l.heap.objs.size) 2 none;assignInOrder [λv=>bindName X.env y v,λv=>bindName X.env x v] items.reverse;pure Flow.next) _ _ _;refine xAd (wpAny_rule<|xAd<|unpackItems_tuple (items:=#[d,c]) (I.ok.hd hc) (IsTup.new l.heap _) λh' E=>?_);have I3:=I2.kept (h':=h') (t':=l.toks) λb o e=>E b o (xA0<|xA1 e) e;show wpAny _ _ (assignInOrder [λv=>bindName X.env y v,λv=>bindName X.env x v] [c,d]>>=λ_=>pure Flow.next) _ _ _;erw[<-xAd<|assignInOrder_cons<|wpAny_bindName<|eY I3 P hj (.inl J) rw' (λs2 I4=>?_)<|.inr J,<-assignInOrder_cons<|wpAny_bindName<|eY I4 P hi (.inl L) rv (λs3 I5=>assignInOrder_nil<|xAe ?_)<|.inr L];rw[List.set_comm _ _<|Ne.symm F] at I5;exact⟨_,H1,I5,m⟩
end
section
variable{X:Cx}{pos:Pos}
def zEz(c:TT)(tb:TS):TS:=λD O H=>∃W:Nat->St->Hp->Prop,(∃m,W m O H)/\∀m O H,W m O H ->
 c O H λb H1=>if b=true then ∃N:St->Hp->Prop,(∀O' H',N O' H'->∃a,a<m/\W a O' H')/\tb {D with nx:=N,ct:=N,bk:=D.nx} O H1 else D.nx O H1
end
structure It where
 go:Nat->Hp->Prop
 yld:Nat->Hp->V->Hp->Prop
 stop:Nat->Hp->Prop
def zC4(X:Cx)(Z:B0<|B5×Obj)(H:Hp)(b:B5):Prop:=
 H b=none/\b≠X.env.locals/\b∉X.fs/\(b∈X.ex\/X.s₀.heap.objs.size<=b)/\(∀x c,X.env.cells.lookup x=some c->c≠b)/\∀p∈X.pn++Z,p.1≠b
def Inv.fpOk{O:St}{H':Hp}{b:B5}(I:Inv X Z O H s)(a:s.heap.objs.size<=b)(l:H' b=none):zC4 X Z H' b:=by
 refine⟨l,Nat.ne_of_gt<|xBc I.lt a,I.nofs a,.inr<|xCk I.sz a,λx c e z=>?_,λp d z=>?_⟩
 .let⟨v,q⟩:=I.cell x c e;exact absurd (xBc q.lt<|by rw[z];exact a)<|xBo _
 .exact absurd (xBc (xA1 (I.pin p d).1)<|by rw[z];exact a)<|xBo _
structure zEl(P:Program)(w:World)(K:xFr)(tg:B4)(m0J:It)(fp:B0 B5)(it:B5)(tn:Nat->Heap->Prop):Prop where
 mem:it∈fp
 obj:∀i h,tn i h->∀b∈fp,∃o,h.get? b=some o/\∀v,o.data≠.cell v
 keep:∀i h h',tn i h->(∀b∈fp,∀o,h.get? b=some o->h'.get? b=some o)->tn i h'
 item:∀(X:Cx),X.prog=P->X.w=w->X.K=K->X.calm=true->∀(i:Nat)(Z:B0 (B5×Obj))(s:B3)(O:St)(H:Hp)(E:B2->B3->Prop),Inv X Z O H s->(∀b∈fp,zC4 X Z H b)->tn i s.heap->m0J.go i H ->
  wpAny (model P w) X.A (pyNext (.ref it)) (λr s1=>∃u,r=some u /\
   wpAny (model P w) X.A (letOwnedTupleGo tg (.ref it) u) (λ_ s2=>∃x H',Inv X Z O H' s2/\zAj x u/\m0J.yld i H x H'/\tn (i+1) s2.heap/\∀b∈fp,H' b=none) E s1) E s
 done:∀(X:Cx),X.prog=P->X.w=w->X.K=K->X.calm=true->∀(i:Nat)(Z:B0 (B5×Obj))(s:B3)(O:St)(H:Hp)(E:B2->B3->Prop),Inv X Z O H s->(∀b∈fp,zC4 X Z H b)->tn i s.heap->m0J.stop i H ->
  wpAny (model P w) X.A (pyNext (.ref it)) (λr s1=>r=none/\Inv X Z O H s1) E s
 self:∀(A:Around)(i:Nat)(s:B3)(Q:B2->B3->Prop)(E:B2->B3->Prop),tn i s.heap->Q (.ref it) s->wpAny (model P w) A (pyIter (.ref it)) Q E s
noncomputable abbrev TI:=St->Hp->(It->Hp->Prop)->Prop
def PIE(X:Cx)(Z:B0<|B5×Obj)(O:St)(tg:B4)(R:It->Hp->Prop)(c:B2)(d:B3):Prop:=
 ∃(it:B5) (fp:B0 B5) (tn:Nat->Heap->Prop) (a:It) (H':Hp),c=.ref it/\Inv X Z O H' d/\zEl X.prog X.w X.K tg a fp it tn/\tn 0 d.heap/\(∀b∈fp,zC4 X Z H' b)/\R a H'
def PI(X:Cx)(tg a:B4)(wi:TI):Prop:=
 ∀(Z:B0<|B5×Obj)(s:B3)(O:St)(H:Hp)(R:It->Hp->Prop),Inv X Z O H s->wi O H R ->
  wpAny (model X.prog X.w) X.A (eval a X.env) (λv b=>wpAny (model X.prog X.w) X.A (pyIter v) (PIE X Z O tg R) X.xe b) X.xe s
def nv{E:B2->B3->Prop}{u:B2}{o:Obj}{n:String}{vs:Array B2}{Q:Unit->B3->Prop}(b:s.heap.get? it=some o)(e:o.cls=.type n)(d:o.data=.fields vs)(c:["enumerate","zip","dict_itemiterator","dict_reverseitemiterator","odict_iterator","itertools.zip_longest","itertools.pairwise"].contains n=false)(a:Q Unit.unit s):wpAny M A (letOwnedTupleGo tg (.ref it) u) Q E s:=by
 unfold letOwnedTupleGo;cases tg <;> first
  |exact xAe a
  | (cases u <;> first
    |exact xAe a
    | (refine xAd (wpAny_load b ?_)
       rw[e,d];show wpAny M A (if(["enumerate","zip","dict_itemiterator","dict_reverseitemiterator","odict_iterator","itertools.zip_longest","itertools.pairwise"].contains n&&vs[0]?==some (rawInt _))=true then _ else _) Q E s;rw[xCf<|by intro h;rw[c,Bool.false_and] at h;cases h];exact xAe a))
noncomputable def Itl(K:xFr)(a:B5):It:=
 ⟨λi H=>∃b x,SqL K H a b/\b[i]?=some x,λi H x H'=>H'=H/\∀b,SqL K H a b->b[i]?=some x,λi H=>∃b,SqL K H a b/\b.length<=i⟩
noncomputable def Itt(K:xFr)(a:B5):It:=
 ⟨λi H=>∃b x,SqT K H a b/\b[i]?=some x,λi H x H'=>H'=H/\∀b,SqT K H a b->b[i]?=some x,λi H=>∃b,SqT K H a b/\b.length<=i⟩
noncomputable def Itr(lo:Int)(n:Nat):It:=⟨λi _=>i<n,λi H x H'=>H'=H/\x=.int (lo+i),λi _=>n<=i⟩
def nV{P:Program}{w:World}(a it:B5):zEl P w K tg (Itl K a) [it] it (λi h=>h.IsListIter it a i) where
 mem:=by simp
 obj:=λi h st b l=>by
  have e:b=it:=by simpa using l
  subst e;let⟨o,e,c,d⟩:=st;exact⟨o,e,λv z=>by rw[d] at z;cases z⟩
 keep:=λi h B st k=>st.at λo e=>k it ⋯ o e
 item:=by
  intro X R J S hc i Z s O H E I r st L;subst R J S;let⟨xs,x,q,G⟩:=L;let⟨F,D,p,hz⟩:=I.list q;let⟨u,hu,ru⟩:=D.get G;let⟨f0,f1,f2,Y,W,T⟩:=r it ⋯;refine wpAny_pyNext_list_item st p.isList (x:=u) (by simpa using hu) λB m sb=>?_;have I1:Inv X Z O H {s with heap:=B}:=I.turned (t':=s.toks) (λb o l e=>(sb.2 b l).trans e) f0 f1 Y W T;let⟨o,e,c,d⟩:=id m;exact⟨u,rfl,nv (s:={s with heap:=B}) e c d ∅ ⟨x,H,I1,ru,⟨rfl,λys hy=>by rw[I.list_inj hy q];exact G⟩,m,λb l=>(r b l).1⟩⟩
 done:=by
  intro X R J S hc i Z s O H E I r st L;subst R J S;let⟨xs,q,G⟩:=L;let⟨F,D,p,hz⟩:=I.list q;let⟨f0,f1,f2,Y,W,T⟩:=r it ⋯;have hl:=D.length;exact wpAny_pyNext_list_end (I.ok.hd hc) st p.isList (by simp;lia) λB eb=>⟨rfl,I.turned (t':=s.toks) (λb o l e=>eb b o l e) f0 f1 Y W T⟩
 self:=λ_ _ _ _ _ st h=>wpAny_pyIter_listiter st h
def kR{P:Program}{w:World}(a it:B5):zEl P w K tg (Itt K a) [it] it (λi h=>h.IsTupleIter it a i) where
 mem:=by simp
 obj:=λi h st b m=>by
  have e:b=it:=by simpa using m
  subst e;let⟨o,e,c,d⟩:=st;exact⟨o,e,λv z=>by rw[d] at z;cases z⟩
 keep:=λi h D st k=>st.at λo e=>k it ⋯ o e
 item:=by
  intro X R J S hc i Z s O H E I B st L;subst R J S;let⟨xs,x,r,G⟩:=L;let⟨l,F,p,hz⟩:=I.tuple r;let⟨u,hu,ru⟩:=F.get G;let⟨f0,f1,f2,Y,W,T⟩:=B it ⋯;refine wpAny_pyNext_tuple_item st (show s.heap.IsTuple a l.toArray from p) (x:=u) (by simpa using hu) λD q sb=>?_;have I1:Inv X Z O H {s with heap:=D}:=I.turned (t':=s.toks) (λb o m e=>(sb.2 b m).trans e) f0 f1 Y W T;let⟨o,e,c,d⟩:=id q;exact⟨u,rfl,nv (s:={s with heap:=D}) e c d ∅ ⟨x,H,I1,ru,⟨rfl,λys hy=>by rw[I.tuple_inj hy r];exact G⟩,q,λb m=>(B b m).1⟩⟩
 done:=by
  intro X R J S hc i Z s O H E I B st L;subst R J S;let⟨xs,r,G⟩:=L;let⟨l,F,p,hz⟩:=I.tuple r;let⟨f0,f1,f2,Y,W,T⟩:=B it ⋯;have hl:=F.length;exact wpAny_pyNext_tuple_end (I.ok.hd hc) st (show s.heap.IsTuple a l.toArray from p) (by simp;lia) λD eb=>⟨rfl,I.turned (t':=s.toks) (λb o m e=>eb b o m e) f0 f1 Y W T⟩
 self:=λ_ _ _ _ _ st h=>wpAny_pyIter_tupleiter st h
def kS{P:Program}{w:World}(it:B5)(lo:Int)(n:Nat):zEl P w K tg (Itr lo n) [it] it (λi h=>IsRangeIter h it (lo+(i:Nat)*1) ((n:Int)-(i:Nat)) 1) where
 mem:=by simp
 obj:=λi h st b a=>by
  have e:b=it:=by simpa using a
  subst e;exact⟨_,st,λv z=>by
   have R:Data.fields _=Data.cell v:=z;cases R⟩
 keep:=λi h l st k=>k it ⋯ _ st
 item:=by
  intro X x m B r i Z s O H E I d st q;subst x m B;let⟨L,J,Y,G,F,D⟩:=d it ⋯;have W:=Walks.range (prog:=X.prog) (w:=X.w) (I.ok.hd r) it lo 1 n;refine W.item i s _ _ q st λv l tk T c S=>?_;let⟨t,rfl⟩:=T;have I1:Inv X Z O H {s with heap:=l,toks:=tk}:=I.turned (λb o a e=>S b o (by simpa using a) e) L J G F D;refine⟨_,rfl,nv (s:={s with heap:=l,toks:=tk}) (n:="range_iterator") c rfl rfl ∅ ⟨.int<|lo+i,H,I1,⟨t,?_⟩,⟨rfl,rfl⟩,c,λb a=>(d b a).1⟩⟩;rw[Int.mul_one]
 done:=by
  intro X x m B r i Z s O H E I d st q;subst x m B;let⟨L,J,Y,G,F,D⟩:=d it ⋯;exact wpAny_pyNext_range_end (I.ok.hd r) st (by have:n<=i:=q;lia) λl eb=>⟨rfl,I.turned (t':=s.toks) (λb o a e=>eb b o a e) L J G F D⟩
 self:=λ_ _ _ _ _ st h=>wpAny_pyIter_rangeiter st h
section
variable{X:Cx}{tg:B4}
def jW{O:St}{R:It->Hp->Prop}{E:B2->B3->Prop}{lo hi:Int}{t u v:Tok}{tk:Nat}(I:Inv X Z O H s)(m:-(2^62)<=lo)(l:lo<2^62)(d:-(2^62)<=hi)(c:hi<2^62)(q:R (Itr lo (hi-lo).toNat) H):wpAny (model X.prog X.w) X.A (pyIter<|.ref s.heap.objs.size) (PIE X Z O tg R) E {s with heap:=s.heap.push {cls:=.type "range",data:=.fields #[.int lo t,.int hi u,.int 1 v]},toks:=tk}:=by
 refine wpAny_pyIter_range (IsRange.new ..) (small_one m l d c) ?_;have I1:Inv X Z O H { s with heap:=s.heap.push { cls:=.type "range",data:=.fields #[.int lo t,.int hi u,.int 1 v] },toks:=tk }:=I.kept λb o e=>xAf _ e;refine⟨(s.heap.push { cls:=.type "range",data:=.fields #[.int lo t,.int hi u,.int 1 v] }).objs.size,[(s.heap.push { cls:=.type "range",data:=.fields #[.int lo t,.int hi u,.int 1 v] }).objs.size],_,_,H,rfl,
  I1.kept (t':=tk) λb o e=>xAf _ e,kS _ lo (hi-lo).toNat,?_,λb a=>?_,q⟩
 .have x:lo+((0:Nat):Int)*1=lo:=by simp
  have r:(((hi-lo).toNat:Nat):Int)-((0:Nat):Int)=Builtin.Range.rangeSize lo hi 1:=by rw[rangeSize_one];split <;> lia
  show IsRangeIter _ _ (lo+((0:Nat):Int)*1) ((((hi-lo).toNat:Nat):Int)-((0:Nat):Int)) 1;rw[x,r];exact xAl _ rfl
 .have e:b=(s.heap.push {cls:=.type "range",data:=.fields #[.int lo t,.int hi u,.int 1 v]}).objs.size:=by simpa using a
  subst e;exact I1.fpOk (xAg _)<|I1.hok.fresh<|xAg _
def zFy(a:TA):TI:=λO H R=>a O H λvs H1=>∃j:Int,vs=[.int j]/\-(2^62)<=j/\j<2^62/\R (Itr 0 j.toNat) H1
def zHi(a:TA):TI:=λO H R=>a O H λvs H1=>∃i j:Int,vs=[.int i,.int j]/\(-(2^62)<=i/\i<2^62/\-(2^62)<=j/\j<2^62)/\R (Itr i (j-i).toNat) H1
theorem oi{a:B4}{c:TA}(w:Gl X "range")(v:X.mg "range"=none)(x:PA X [a] c)(o:starEach [a] X.env=[(false,eval a X.env)]:=by rfl):PI X tg (.Call (.Name "range" p) [a] [] pos)<|zFy c:=by
 intro Z s O H R I h;refine Call_ (fD I w v boot_range<|PyProof.Rows.callWith_type1 (thn (x pos Z s O H _ I h) λus B ⟨vs,H1,I1,l,b⟩=>?_) o rfl);let⟨j,e,b,m,q⟩:=b;subst e;cases l with
 |cons r d=>
  cases d;let⟨t,rfl⟩:=r;exact call_range_1 (jW I1 () () b m<|by simpa using q)
theorem oh{a b:B4}{m:TA}(E:Gl X "range")(D:X.mg "range"=none)(F:PA X [a,b] m)(B:starEach [a,b] X.env=[(false,eval a X.env),(false,eval b X.env)]:=by rfl)(c:starEach [b] X.env=[(false,eval b X.env)]:=by rfl) :
  PI X tg (.Call (.Name "range" p) [a,b] [] pos) (zHi m):=by
 intro Z s O H R I h;refine Call_ (fD I E D boot_range<|PyProof.Rows.callWith_type1 (thn (F pos Z s O H _ I h) λus G ⟨vs,H1,I1,o,l⟩=>?_) (by rw[B,c])<|by rw[c];rfl);let⟨i,j,e,⟨l,x,w,v⟩,q⟩:=l;subst e;cases o with
 |cons r d=>
  cases d with
  |cons r' d=>
   cases d;let⟨t,rfl⟩:=r;let⟨t',rfl⟩:=r';exact call_range_2<|jW I1 l x w v q
def zJy(wi:TI)(g:TG)(tb:TS):TS:=λD O H=>wi O H λa H1=>∃W:Nat->Nat->St->Hp->Prop,(∃m,W 0 m O H1)/\∀i m O H,W i m O H ->
 (a.stop i H/\D.nx O H)\/(a.go i H/\∃N:St->Hp->Prop,(∀O' H',N O' H'->∃b,b<m/\W (i+1) b O' H')/\∀x H',a.yld i H x H'->g x O H' λσ2 H2=>tb {D with nx:=N,ct:=N,bk:=D.nx} σ2 H2)
noncomputable def zCf(fp:B0 B5)(h:Heap):B0<|B5×Obj:=fp.filterMap λb=>(h.get? b).map λo=>(b,o)
def eP{b:B5}{o:Obj}(a:b∈fp)(e:h.get? b=some o):(b,o)∈zCf fp h:=List.mem_filterMap.mpr ⟨b,a,by rw[e];rfl⟩
theorem oy{p:B5×Obj}(a:p∈zCf fp h):p.1∈fp/\h.get? p.1=some p.2:=by
 let⟨b,c,e⟩:=List.mem_filterMap.mp a;cases q:h.get? b with
 |none=>rw[q] at e;cases e
 |some o=>
  rw[q] at e;have d:(b,o)=p:=xB3 e;subst d;exact⟨c,q⟩
def Inv.pinned{O:St}(I:Inv X Z O H s)(q:∀b∈fp,zC4 X Z H b)(m:∀b∈fp,∃o,s.heap.get? b=some o/\∀v,o.data≠.cell v):Inv X (Z++zCf fp s.heap) O H s:=
 I.pins_of λp l=>(xAj.mp l).elim (λz=>I.pin p<|xBt _ z) λz=>by
  let⟨a,e⟩:=oy z;let⟨x,w,r,_⟩:=q p.1 a;let⟨o,c,d⟩:=m p.1 a;rw[e] at c;cases c;exact⟨e,x,w,r,d⟩
def Inv.unpinned{pl:B0<|B5×Obj}{O:St}(I:Inv X (Z++pl) O H s):Inv X Z O H s:=I.pins_of λp a=>I.pin p<|xBt _<|xBw _ a
end
noncomputable abbrev R2:=V->V->Hp->VK->Prop
def OpR(X:Cx)(f:B2->B2->Sem B2)(r:R2):Prop:=
 ∀(Z:B0<|B5×Obj)(s:B3)(O:St)(H:Hp)(x y:V)(v u:B2)(Q:VK),Inv X Z O H s->zAj x v->zAj y u->r x y H Q ->
  wpAny (model X.prog X.w) X.A (f v u) (EP X Z O Q) X.xe s
def UnR(X:Cx)(f:B2->Sem B2)(r:V->Hp->VK->Prop):Prop:=
 ∀(Z:B0<|B5×Obj)(s:B3)(O:St)(H:Hp)(x:V)(v:B2)(Q:VK),Inv X Z O H s->zAj x v->r x H Q ->
  wpAny (model X.prog X.w) X.A (f v) (EP X Z O Q) X.xe s
def zAm(X:Cx)(f:B2)(r:C0->Hp->VK->Prop):Prop:=
 ∀(Z:B0<|B5×Obj)(s:B3)(O:St)(H:Hp)(xs:C0)(us:C3)(Q:VK),Inv X Z O H s->zAi xs us->r xs H Q ->
  wpAny (model X.prog X.w) X.A (call f us) (EP X Z O Q) X.xe s
def zKm(X:Cx)(r:V->Hp->(B6->Hp->Prop)->Prop):Prop:=
 ∀(Z:B0<|B5×Obj)(s:B3)(O:St)(H:Hp)(x:V)(v:B2)(Q:B6->Hp->Prop),Inv X Z O H s->zAj x v->r x H Q ->
  wpAny (model X.prog X.w) X.A (truthy v) (TP X Z O Q) X.xe s
def tOp(r:R2)(a tb:TE):TE:=λO H Q=>a O H λx H1=>tb O H1 λy H2=>r x y H2 Q
def tUn(r:V->Hp->VK->Prop)(a:TE):TE:=λO H Q=>a O H λx H1=>r x H1 Q
def rI(C:Int->Int->Prop)(g:Int->Int->V):R2:=λx y H Q=>∃i j,x=.int i/\y=.int j/\C i j/\Q (g i j) H
def rI0(g:Int->Int->V):R2:=λx y H Q=>∃i j,x=.int i/\y=.int j/\Q (g i j) H
def rU(g:Int->V):V->Hp->VK->Prop:=λx H Q=>∃i,x=.int i/\Q (g i) H
section
variable{X:Cx}{a b c:B4}{ta tb tc:TE}{pos:Pos}
def zHr(D:PE X a ta)(B:PE X b tb){O:St}{R:V->V->Hp->Prop}(I:Inv X Z O H s)(h:ta O H λx H1=>tb O H1 λy H2=>R x y H2){f:B2->B2->Sem B2}(r:∀v u d x y H2,Inv X Z O H2 d->zAj x v->zAj y u->R x y H2->wpAny (model X.prog X.w) X.A (f v u) Q X.xe d) :
  wpAny (model X.prog X.w) X.A (eval a X.env) (λv s₁=>wpAny (model X.prog X.w) X.A (eval b X.env) (λu s₂=>wpAny (model X.prog X.w) X.A (f v u) Q X.xe s₂) X.xe s₁) X.xe s:=by
 refine thn (D Z s O H _ I h) λv l e=>?_;let⟨x,H1,I1,m,q⟩:=e;refine thn (B Z l O H1 _ I1 q) λu d e=>?_;let⟨y,H2,I2,r2,o⟩:=e;exact r v u d x y H2 I2 m r2 o
def zw{op:Operator}{r:R2}(m:OpR X (binaryOp op) r)(w:PE X a ta)(o:PE X b tb):PE X (.BinOp a op b pos)<|tOp r ta tb:=by
 intro Z s O H Q I h;exact wpAny_BinOp (zHr w o I h λv u d x y H2 I2 l e q=>m Z d O H2 x y v u Q I2 l e q)
def zu{op:UnaryOp}{r:V->Hp->VK->Prop}(m:UnR X (unaryOp op) r)(o:PE X a ta):PE X (.UnaryOp op a pos)<|tUn r ta:=by
 intro Z s O H Q I h;exact UnaryOp_ (thn (o Z s O H _ I h) λv d ⟨x,H1,I1,e,l⟩=>m Z d O H1 x v Q I1 e l)
def opI{f:B2->B2->Sem B2}{C:Int->Int->Prop}(d:∀(i j:Int)(t u:Tok)(s:B3)(Q:B2->B3->Prop)(E:B2->B3->Prop),C i j->Q (.int (g i j) s.toks) {s with toks:=s.toks+1}->wpAny (model X.prog X.w) X.A (f (.int i t)<|.int j u) Q E s) :
  OpR X f (rI C λi j=>.int<|g i j):=by
 intro Z s O H x y v u Q I l e h;let⟨i,j,rfl,rfl,m,q⟩:=h;let⟨t,rfl⟩:=l;let⟨t',rfl⟩:=e;exact d i j t t' s _ _ m ⟨.int<|g i j,H,I.tok _,⟨_,rfl⟩,q⟩
def zIv{f:B2->B2->Sem B2}(d:∀(i j:Int)(t u:Tok)(s:B3)(Q:B2->B3->Prop)(E:B2->B3->Prop),Q (.int (g i j) s.toks) {s with toks:=s.toks+1}->wpAny (model X.prog X.w) X.A (f (.int i t)<|.int j u) Q E s) :
  OpR X f (rI0 λi j=>.int<|g i j):=by
 intro Z s O H x y v u Q I l e h;let⟨i,j,rfl,rfl,q⟩:=h;let⟨t,rfl⟩:=l;let⟨t',rfl⟩:=e;exact d i j t t' s _ _ ⟨.int<|g i j,H,I.tok _,⟨_,rfl⟩,q⟩
def zHe{f:B2->B2->Sem B2}{g:Int->Int->B6}(d:∀(i j:Int)(t u:Tok)(s:B3)(Q:B2->B3->Prop)(E:B2->B3->Prop),Q (.bool<|g i j) s->wpAny (model X.prog X.w) X.A (f (.int i t)<|.int j u) Q E s) :
  OpR X f (rI0 λi j=>.bl<|g i j):=by
 intro Z s O H x y v u Q I l e h;let⟨i,j,rfl,rfl,q⟩:=h;let⟨t,rfl⟩:=l;let⟨t',rfl⟩:=e;exact d i j t t' s _ _ ⟨.bl<|g i j,H,I,rfl,q⟩
def zJk(i j:Int):Prop:=0<=j/\j<=1000000/\i.natAbs<2^64
def xP:OpR X (binaryOp .Add)<|rI0 λi j=>.int<|i+j:=zIv λ_ _ _ _ _ _ _ q=>add_int q
def xH:OpR X (binaryOp .Sub)<|rI0 λi j=>.int<|i-j:=zIv λ_ _ _ _ _ _ _ q=>sub_int q
def xL:OpR X (binaryOp .Mod)<|rI (λ_ j=>0<j) λi j=>.int<|i%j:=opI λi j _ _ _ _ _ d q=>by
 have e:(0:Int)<j:=d;exact mod_int' () (by rw[Int.fmod_eq_emod_of_nonneg i ()];exact q)
def xJ:OpR X (binaryOp .Pow)<|rI zJk λi j=>.int<|i^j.toNat:=opI λ_ _ _ _ _ _ _ d q=>pow_int_small d.1 d.2.1 d.2.2 q
def unI{f:B2->Sem B2}{g:Int->Int}(d:∀(i:Int)(t:Tok)(s:B3)(Q:B2->B3->Prop)(E:B2->B3->Prop),Q (.int (g i) s.toks) {s with toks:=s.toks+1}->wpAny (model X.prog X.w) X.A (f<|.int i t) Q E s) :
  UnR X f (rU λi=>.int<|g i):=by
 intro Z s O H x v Q I e h;let⟨i,rfl,q⟩:=h;let⟨t,rfl⟩:=e;exact d i t s _ _ ⟨.int<|g i,H,I.tok _,⟨_,rfl⟩,q⟩
def wz:UnR X (unaryOp .USub)<|rU λi=>.int (-i):=unI λ_ _ _ _ _ q=>neg_int q
end
noncomputable def scal:V->V->B6
 |.non,.non=>true|.non,.int _=>true|.int _,.non=>true|.non,.bl _=>true|.bl _,.non=>true|.non,.str _=>true|.str _,.non=>true
 |.int _,.int _=>true|.bl _,.bl _=>true|.str _,.str _=>true|.byt _,.byt _=>true
 |.int _,.str _=>true|.str _,.int _=>true|.bl _,.str _=>true|.str _,.bl _=>true
 |_,_=>false
def rEq:R2:=λx y H Q=>scal x y=true/\Q (.bl<|decide<|x=y) H
def rNe:R2:=λx y H Q=>scal x y=true/\Q (.bl (!decide (x=y))) H
def nE{i j:Int}:decide (V.int i=V.int j)=(i==j):=by
 rw[Bool.eq_iff_iff];simp
def sB{i j:B6}:decide (V.bl i=V.bl j)=(i==j):=by
 rw[Bool.eq_iff_iff];simp
def nD{i j:Str}:decide (V.str i=V.str j)=(i==j):=by
 rw[Bool.eq_iff_iff];simp
def nF{i j:Array UInt8}:decide (V.byt i=V.byt j)=(i.toList==j.toList):=by
 rw[Bool.eq_iff_iff];cases i;cases j;simp
section
variable{X:Cx}{a b c:B4}{ta tb tc:TE}{pos:Pos}
def cj{O:St}{Q:VK}{k d:B6}(I:Inv X Z O H s)(q:Q (.bl k) H)(e:k=d):EP X Z O Q (.bool d) s:=by
 subst e;exact⟨.bl k,H,I,rfl,q⟩
theorem zT:OpR X (compareOp .Eq) rEq:=by
 intro Z s O H x y v u Q I l d h;let⟨e,q⟩:=h;cases x with
 |non=>
  cases l;cases y with
  |non=>cases d;exact PySem.EqNone.eq_none_none (cj I q ⋯)
  |bl j=>cases d;exact PySem.EqNone.eq_none_bool (cj I q ⋯)
  |int j=>let⟨t',rfl⟩:=d;exact PySem.EqNone.eq_none_int (cj I q ⋯)
  |str j=>let⟨t',rfl⟩:=d;exact PySem.EqNone.eq_none_str (cj I q ⋯)
  |_=>exact absurd (show false=true from e) xAy
 |bl i=>
  cases l;cases y with
  |non=>cases d;exact PySem.EqNone.eq_bool_none (cj I q ⋯)
  |bl j=>cases d;exact eq_bool<|cj I q sB
  |str j=>let⟨t',rfl⟩:=d;exact PySem.EqMixed.eq_bool_str (cj I q ⋯)
  |_=>exact absurd (show false=true from e) xAy
 |int i=>
  let⟨t,rfl⟩:=l;cases y with
  |non=>cases d;exact PySem.EqNone.eq_int_none (cj I q ⋯)
  |int j=>let⟨t',rfl⟩:=d;exact eq_int<|cj I q nE
  |str j=>let⟨t',rfl⟩:=d;exact PySem.EqMixed.eq_int_str (cj I q ⋯)
  |_=>exact absurd (show false=true from e) xAy
 |str i=>
  let⟨t,rfl⟩:=l;cases y with
  |non=>cases d;exact PySem.EqNone.eq_str_none (cj I q ⋯)
  |bl j=>cases d;exact PySem.EqMixed.eq_str_bool (cj I q ⋯)
  |int j=>let⟨t',rfl⟩:=d;exact PySem.EqMixed.eq_str_int (cj I q ⋯)
  |str j=>let⟨t',rfl⟩:=d;exact eq_str<|cj I q nD
  |_=>exact absurd (show false=true from e) xAy
 |byt i=>
  let⟨t,rfl⟩:=l;cases y with
  |byt j=>let⟨t',rfl⟩:=d;exact W.eq_bytes<|cj I q nF
  |_=>exact absurd (show false=true from e) xAy
 |_=>cases y <;> exact absurd (show false=true from e) xAy
theorem zS:OpR X (compareOp .NotEq) rNe:=by
 intro Z s O H x y v u Q I l d h;let⟨e,q⟩:=h;cases x with
 |non=>
  cases l;cases y with
  |non=>cases d;exact PySem.EqNone.ne_none_none (cj I q ⋯)
  |bl j=>cases d;exact PySem.EqNone.ne_none_bool (cj I q ⋯)
  |int j=>let⟨t',rfl⟩:=d;exact PySem.EqNone.ne_none_int (cj I q ⋯)
  |str j=>let⟨t',rfl⟩:=d;exact PySem.EqNone.ne_none_str (cj I q ⋯)
  |_=>exact absurd (show false=true from e) xAy
 |bl i=>
  cases l;cases y with
  |non=>cases d;exact PySem.EqNone.ne_bool_none (cj I q ⋯)
  |bl j=>cases d;exact ne_bool<|cj I q<|congrArg not sB
  |str j=>let⟨t',rfl⟩:=d;exact PySem.EqMixed.ne_bool_str (cj I q ⋯)
  |_=>exact absurd (show false=true from e) xAy
 |int i=>
  let⟨t,rfl⟩:=l;cases y with
  |non=>cases d;exact PySem.EqNone.ne_int_none (cj I q ⋯)
  |int j=>let⟨t',rfl⟩:=d;exact ne_int<|cj I q<|congrArg not nE
  |str j=>let⟨t',rfl⟩:=d;exact PySem.EqMixed.ne_int_str (cj I q ⋯)
  |_=>exact absurd (show false=true from e) xAy
 |str i=>
  let⟨t,rfl⟩:=l;cases y with
  |non=>cases d;exact PySem.EqNone.ne_str_none (cj I q ⋯)
  |bl j=>cases d;exact PySem.EqMixed.ne_str_bool (cj I q ⋯)
  |int j=>let⟨t',rfl⟩:=d;exact PySem.EqMixed.ne_str_int (cj I q ⋯)
  |str j=>let⟨t',rfl⟩:=d;exact ne_str<|cj I q<|congrArg not nD
  |_=>exact absurd (show false=true from e) xAy
 |byt i=>
  let⟨t,rfl⟩:=l;cases y with
  |byt j=>let⟨t',rfl⟩:=d;exact W.ne_bytes<|cj I q<|congrArg not nF
  |_=>exact absurd (show false=true from e) xAy
 |_=>cases y <;> exact absurd (show false=true from e) xAy
def vO:OpR X (compareOp .Lt)<|rI0 λi j=>.bl<|decide<|i<j:=zHe λ_ _ _ _ _ _ _ q=>lt_int q
def vP:OpR X (compareOp .LtE)<|rI0 λi j=>.bl<|decide<|i<=j:=zHe λ_ _ _ _ _ _ _ q=>le_int q
def vQ:OpR X (compareOp .Gt)<|rI0 λi j=>.bl<|decide<|j<i:=zHe λ_ _ _ _ _ _ _ q=>gt_int q
def ow:OpR X (compareOp .In) λx y H Q=>∃i j,x=.str i/\y=.str j/\Q (.bl (!(Builtin.Str.occurrences j i 0 j.length 1).isEmpty)) H:=by
 intro Z s O H x y v u Q I e d h;let⟨i,j,rfl,rfl,q⟩:=h;let⟨t,rfl⟩:=e;let⟨t',rfl⟩:=d;exact in_str<|cj I q rfl
def xM:OpR X (compareOp .Is) λx y H Q=>y=.non/\Q (.bl<|decide<|x=.non) H:=by
 intro Z s O H x y v u Q I d e h;let⟨rfl,q⟩:=h;cases e;refine is_none_gen<|cj I q ?_;cases x <;> first
  |(cases d;rfl)
  |(let⟨t,rfl⟩:=d;rfl)
def jh:OpR X (compareOp .NotIn) λx y H Q=>∃i j,x=.str i/\y=.str j/\Q (.bl (!(!(Builtin.Str.occurrences j i 0 j.length 1).isEmpty))) H:=by
 intro Z s O H x y v u Q I e d h;let⟨i,j,rfl,rfl,q⟩:=h;let⟨t,rfl⟩:=e;let⟨t',rfl⟩:=d;exact notIn_str<|cj I q rfl
def m9{r:R2}(m:OpR X (compareOp op) r)(B:PE X a ta)(w:PE X b tb)(o:behindInMarks op b=false):PE X (.Compare a [op] [b] pos)<|tOp r ta tb:=by
 intro Z s O H Q I h;exact wpAny_Compare1 (zHr B w I h λv u d x y H2 I2 l e q=>m Z d O H2 x y v u Q I2 l e q) o
def zE1(t:TE):TT:=λO H Q=>t O H λx H'=>∃k,x=.bl k/\Q k H'
def mJ{r:R2}(B:OpR X (compareOp op) r)(F:PE X a ta)(E:PE X b tb)(D:behindInMarks op b=false):PT X (.Compare a [op] [b] pos)<|zE1<|tOp r ta tb:=by
 intro Z s O H Q I h;refine wpAny_isTrue_Compare1 (thn (F Z s O H _ I h) λv l ⟨x,H1,I1,m,w⟩=>thn (E Z l O H1 _ I1 w) λu d ⟨y,H2,I2,r2,q⟩ =>
  thn (B Z d O H2 x y v u _ I2 m r2 q) λc G ⟨z,H3,I3,r3,k,e,o⟩=>?_) D
 subst e;cases r3;exact wpAny_truthy_bool ⟨H3,I3,o⟩
def zC6(r r':R2)(ta tb tc:TE):TE:=λO H Q=>ta O H λx H1=>tb O H1 λy H2=>r x y H2 λz H3=>∃k,z=.bl k /\
 (if k=true then tc O H3 λd H4=>r' y d H4 Q else Q (.bl false) H3)
theorem qH{r:R2}(P:OpR X (compareOp op) r)(l:OpR X (compareOp op') r')(W:PE X a ta)(T:PE X b tb)(S:PE X c tc)(R:lastMarks [op,op'] [b,c]=false:=by with_unfolding_all rfl):PE X (.Compare a [op,op'] [b,c] pos)<|zC6 r r' ta tb tc:=by
 intro Z s O H Q I h;refine Compare_chain (thn (W Z s O H _ I h) λv E ⟨x,H1,I1,F,L⟩=>chain_link (thn (T Z E O H1 _ I1 L) λu D ⟨y,H2,I2,r2,J⟩ =>
  thn (P Z D O H2 x y v u _ I2 F r2 J) λd B ⟨z,H3,I3,r3,k,e,m⟩=>?_)) R
 subst e;cases r3;erw[wpAny_truthy_bool];cases k with
 |false=>exact ite_ff ⟨.bl false,H3,I3,rfl,m⟩
 |true=>exact ite_tt (chain_last<|thn (S Z B O H3 _ I3 m) λq w ⟨o,H4,I4,r4,G⟩=>l Z w O H4 y o u q Q I4 r2 r4 G)
theorem p0{r:R2}(T:OpR X (compareOp op) r)(l:OpR X (compareOp op') r')(ha:PE X a ta)(hb:PE X b tb)(Y:PE X c tc)(W:lastMarks [op,op'] [b,c]=false:=by with_unfolding_all rfl):PT X (.Compare a [op,op'] [b,c] pos)<|zE1<|zC6 r r' ta tb tc:=by
 intro Z s O H Q I h;refine isTrue_chain (thn (ha Z s O H _ I h) λv F ⟨x,H1,I1,G,R⟩=>test_link (thn (hb Z F O H1 _ I1 R) λu E ⟨y,H2,I2,r2,P⟩ =>
  thn (T Z E O H2 x y v u _ I2 G r2 P) λd D ⟨z,H3,I3,r3,k,e,m⟩=>?_)) W
 subst e;cases r3;erw[wpAny_truthy_bool];cases k with
 |false=>
  let⟨k',e',S⟩:=m;cases e';exact ite_ff ⟨H3,I3,S⟩
 |true=>
  refine ite_tt (test_last<|thn (Y Z D O H3 _ I3 m) λw B ⟨q,H4,I4,r4,L⟩=>thn (l Z B O H4 y q u w _ I4 r2 r4 L) λd' s5 o=>?_);let⟨z2,H5,I5,r5,k2,e2,J⟩:=o;subst e2;cases r5;exact wpAny_truthy_bool ⟨H5,I5,J⟩
def zHx(K:xFr)(x:V)(H:Hp)(k:B6):Prop:=
 match x with
 |.non=>k=false
 |.bl b=>k=b
 |.int i=>k=(i != 0)
 |.str y=>y.length<=sizeLine/\k=((y.length:Int) != 0)
 |.byt y=>y.size<=sizeLine/\k=((y.size:Int) != 0)
 |.ref p=>(∃xs,SqL K H p xs/\k=!xs.isEmpty)\/(∃xs,SqT K H p xs/\k=!xs.isEmpty)\/∃d,H p=some (.dK d)/\k=!d.isEmpty
 |_=>False
def lH{κ:Type}{d:B0<|κ×V}{vs:B0<|κ×B2}(r:KV d vs):(!vs.isEmpty)=!d.isEmpty:=by
 cases r <;> rfl
def gY{xs:C0}{d:C3}(r:zAi xs d):(!d.toArray.isEmpty)=!xs.isEmpty:=by
 cases r <;> simp
def zB3:(sizeLine:Nat)<2^63:=by rw[sizeLine_eq];decide
theorem wE:zKm X λx H Q=>∃k,zHx X.K x H k/\Q k H:=by
 intro Z s O H x v Q I D h;let⟨k,e,q⟩:=h;have L:=zB3;have J:sizeLine=16777216:=sizeLine_eq;cases x with
 |non=>
  cases D;have d:k=false:=e;subst d;exact truthy_none ⟨H,I,q⟩
 |bl b=>
  cases D;have d:k=b:=e;subst d;exact wpAny_truthy_bool ⟨H,I,q⟩
 |int i=>
  let⟨t,rfl⟩:=D;have d:k=(i != 0):=e;subst d;exact PySem.P.truthy_int ⟨H,I,q⟩
 |str y=>
  let⟨t,rfl⟩:=D;obtain⟨hy,d⟩:y.length<=sizeLine/\k=((y.length:Int) != 0):=e;subst d;exact PySem.P.truthy_str () ⟨H,I.tok _,q⟩
 |byt y=>
  let⟨t,rfl⟩:=D;obtain⟨hy,d⟩:y.size<=sizeLine/\k=((y.size:Int) != 0):=e;subst d;exact W.truthy_bytes () ⟨H,I.tok _,q⟩
 |ref p=>
  cases D;have d:(∃B,SqL X.K H p B/\k=!B.isEmpty)\/(∃B,SqT X.K H p B/\k=!B.isEmpty)\/∃l,H p=some (.dK l)/\k=!l.isEmpty:=e;rcases d with ⟨B,E,d⟩|⟨B,E,d⟩|⟨l,E,d⟩
  .subst d;let⟨F,r,pl,G⟩:=I.list E;have o:=r.length;exact wpAny_truthy_list pl.isList (by simp only[xAp];lia) ⟨H,I.tok _,by rw[gY r];exact q⟩
  .subst d;let⟨F,r,pl,G⟩:=I.tuple E;have o:=r.length;exact truthy_tuple pl (by simp only[xAp];lia) ⟨H,I.tok _,by rw[gY r];exact q⟩
  .subst d;obtain⟨G,hS,vs,r,m⟩:l.length<=sizeLine/\(p==sysModules)=false/\∃vs,KV l vs/\s.heap.DictOf (zAl X.prog X.w) p vs:=I.hok p _ E;have o:l.length=vs.length:=Paired.length r;exact wpAny_truthy_dict hS m () ⟨H,I.tok _,by rw[lH r];exact q⟩
 |_=>exact(show False from e).elim
def pZ(q:PE X a ta)(o:∀d,isTrue a X.env d=(do let v <- d;standAt a.pos;holding [v] (truthy v))) :
  PT X a (λO H Q=>ta O H λx H'=>∃k,zHx X.K x H' k/\Q k H'):=by
 intro Z s O H Q I h;exact isTrue_plain (thn (q Z s O H _ I h) λv e ⟨x,H1,I1,l,m⟩=>wE Z e O H1 x v Q I1 l m) (o _)
def lu:OpR X (binaryOp .Add) λx y H Q=>∃i j,x=.str i/\y=.str j/\i.length+j.length<=sizeLine/\Q (.str<|i++j) H:=by
 intro Z s O H x y v u Q I e d h;let⟨i,j,rfl,rfl,l,q⟩:=h;let⟨t,rfl⟩:=e;let⟨t',rfl⟩:=d;exact add_str (λt' tk=>⟨.str<|i++j,H,I.tok _,⟨_,rfl⟩,q⟩) l
theorem zBl{x:V}{us:C3}(r:zAi [x] us):∃u,us=[u]/\zAj x u:=by
 cases r with
 |cons d r2=>cases r2;exact⟨_,rfl,d⟩
theorem zDj{x:V}{us:C3}(r:zAi [x,y] us):∃u d,us=[u,d]/\zAj x u/\zAj y d:=by
 cases r with
 |cons e r2=>
  cases r2 with
  |cons r3 r4=>cases r4;exact⟨_,_,rfl,e,r3⟩
def sM:zAm X (.builtin "abs") λxs H Q=>∃i,xs=[.int i]/\Q (.int<|if i<0 then -i else i) H:=by
 intro Z s O H xs us Q I r h;let⟨i,rfl,q⟩:=h;let⟨u,rfl,t,rfl⟩:=zBl r;exact call_abs_int λu tk=>⟨.int<|if i<0 then -i else i,H,I.tok _,⟨_,rfl⟩,q⟩
def oV(d:X.calm=true):zAm X (.builtin "max") λxs H Q=>∃i j,xs=[.int i,.int j]/\Q (.int<|if j>i then j else i) H:=by
 intro Z s O H xs us Q I r h;let⟨i,j,rfl,q⟩:=h;let⟨u,e,rfl,⟨t,rfl⟩,⟨t',rfl⟩⟩:=zDj r;refine max_two_ints (I.ok.hd d) λl tk k=>⟨_,H,I.kept k,?_,q⟩
 by_cases hj:j>i
 .rw[xCg hj,xCg hj];exact⟨_,rfl⟩
 .rw[xCf hj,xCf hj];exact⟨_,rfl⟩
def oU(d:X.calm=true):zAm X (.builtin "min") λxs H Q=>∃i j,xs=[.int i,.int j]/\Q (.int<|if j<i then j else i) H:=by
 intro Z s O H xs us Q I r h;let⟨i,j,rfl,q⟩:=h;let⟨u,e,rfl,⟨t,rfl⟩,⟨t',rfl⟩⟩:=zDj r;refine min_two_ints (I.ok.hd d) λl tk k=>⟨_,H,I.kept k,?_,q⟩
 by_cases hj:j<i
 .rw[xCg hj,xCg hj];exact⟨_,rfl⟩
 .rw[xCf hj,xCf hj];exact⟨_,rfl⟩
def oY:zAm X (.type "int") λxs H Q=>(∃i,xs=[.int i]/\Q (.int i) H)\/∃k,xs=[.bl k]/\Q (.int<|if k then 1 else 0) H:=by
 intro Z s O H xs us Q I r h;rcases h with ⟨i,rfl,q⟩|⟨k,rfl,q⟩
 .let⟨u,rfl,t,rfl⟩:=zBl r;exact call_int_int ⟨.int i,H,I,⟨_,rfl⟩,q⟩
 .let⟨u,rfl,d⟩:=zBl r;cases d;exact call_int_bool ⟨.int<|if k then 1 else 0,H,I.tok _,⟨_,rfl⟩,q⟩
def zJh(K:xFr)(x:V)(H:Hp)(n:Nat):Prop:=
 match x with
 |.str y=>y.length<=sizeLine/\n=y.length
 |.byt y=>y.size<=sizeLine/\n=y.size
 |.ref p=>(∃xs,SqL K H p xs/\n=xs.length)\/∃xs,SqT K H p xs/\n=xs.length
 |_=>False
theorem sL:zAm X (.builtin "len") λxs H Q=>∃x n,xs=[x]/\zJh X.K x H n/\Q (.int n) H:=by
 intro Z s O H xs us Q I r h;let⟨x,n,rfl,e,q⟩:=h;let⟨u,rfl,m⟩:=zBl r;have D:=zB3;have B:sizeLine=16777216:=sizeLine_eq;cases x with
 |str y=>
  let⟨t,rfl⟩:=m;obtain⟨hy,l⟩:y.length<=sizeLine/\n=y.length:=e;subst l;exact len_str () ⟨.int _,H,I.tok _,⟨_,rfl⟩,q⟩
 |byt y=>
  let⟨t,rfl⟩:=m;obtain⟨hy,l⟩:y.size<=sizeLine/\n=y.size:=e;subst l;exact W.len_bytes () ⟨.int _,H,I.tok _,⟨_,rfl⟩,q⟩
 |ref p=>
  cases m;have l:(∃xs,SqL X.K H p xs/\n=xs.length)\/∃xs,SqT X.K H p xs/\n=xs.length:=e;rcases l with ⟨xs,v,l⟩|⟨xs,v,l⟩
  .subst l;let⟨o,r',pl,w⟩:=I.list v;have d:=r'.length;exact Calls.call_len_list pl.isList (by simp only[xAp];lia) ⟨.int xs.length,H,I.tok _,⟨_,by simp only[xAp];rw[d]⟩,q⟩
  .subst l;let⟨o,r',pl,w⟩:=I.tuple v;have d:=r'.length;exact len_tuple pl (by simp only[xAp];lia) ⟨.int xs.length,H,I.tok _,⟨_,by simp only[xAp];rw[d]⟩,q⟩
 |_=>exact(show False from e).elim
end
structure zEm(h:Heap)(x dx C:B5)(mA:Str->B1 B2):Prop where
 obj:h.get? x=some (W.instObj C dx)
 ns:h.Ns1 dx mA
 ne:dx≠x
set_option tactic.hygienic true
def iE{mA:Str->B1 B2}(n:h.Ns1 dx mA):∃c,h.get? dx=some c/\∀name,W.lookIn name c=some (mA name):=by
 let⟨o,es,w,l,r,hk,_,m⟩:=n;refine⟨o,l,λname=>?_⟩;have e:=m name;unfold nsFind findBy at e;rw[<- Array.find?_toList] at e;unfold W.lookIn;rw[r];dsimp only;split
 .rename_i y q
  rw[q] at e;exact congrArg some e
 .rename_i q
  rw[q] at e;have a:es.toList.any (·.refKey)=false:=by
   rw[List.any_eq_false];intro y d;let⟨z,t,b⟩:=hk y<|Array.mem_toList_iff.mp d;simp[DictEntry.refKey,b]
  have v:¬ es.toList.any (·.refKey)=true:=by rw[a];exact xAy
  rw[xCf v];exact congrArg some e
set_option tactic.hygienic false
def zEm.look{x:B5}{mA:Str->B1 B2}(I:zEm h x dx C mA):∃a,PySem.W.InstAt h x (W.instObj C dx) C (some a)/\∀name,W.lookIn name a=some (mA name):=
 let ⟨a,b,c⟩:=iE I.ns
 ⟨a,⟨I.obj,rfl,rfl,b⟩,c⟩
section
variable{prog:Program}{w:World}{A:Around}{E:B2->B3->Prop}{s:B3}{K:xFr}{x dx C f:B5}{mA:Str->B1 B2}{name:Str}{v:B2}
def uT{a:B6}(X:K.In s.heap)(I:zEm s.heap x dx C mA)(m:W.plainGet K C name=true)(l:W.hasDictIn K C=true)(o:W.findIn K (.ref C) name=some none)(d:mA name=some v)(c:W.handedIn v=true)(h:Q v {s with toks:=s.toks+1}) :
  wpAny (model prog w) A (getAttr (.ref x) name a) Q E s:=by
 let⟨q,b,e⟩:=I.look;exact W.get_value X b (W.plainGet_of m).1 (W.findObj_own l o rfl<|by rw[e,d]) c h
def rR{pl:Sem B6}{Q:B2×C3->B3->Prop}(X:K.In s.heap)(I:zEm s.heap x dx C mA)(b:W.plainGet K C name=true)(m:W.findIn K (.ref C) name=some (some<|.ref f))(e:W.isFn K (.ref f)=true)(d:mA name=none)(h:Q (.ref f,[.ref x]) s) :
  wpAny (model prog w) A (getMethod (.ref x) name pl) Q E s:=by
 let⟨c,a,l⟩:=I.look;exact W.method_fn X a (W.plainGet_of b).1 (W.plainGet_of b).2 m (beq_iff_eq.mp e) (by show(W.lookIn name c).map (·.isSome)=some false;rw[l,d];rfl) h
def tF{B:B7}{Q:Unit->B3->Prop}(X:K.In s.heap)(I:zEm s.heap x dx C mA)(J:W.findIn K (.ref C) "__setattr__"=some (some<|.builtin "object.__setattr__"))(L:W.plainOver K C=true)(G:W.takerIn K C name=some none)(O:W.hasDictIn K C=true)(F:PySem.Within mA B)(hsz:B.length<=sizeLine)(h:∀h',zEm h' x dx C (λy=>if y=name then some v else mA y)->Heap.SameBut dx s.heap h'->Q Unit.unit {s with heap:=h',toks:=s.toks+2}) :
  wpAny (model prog w) A (setAttr (.ref x) name v) Q E s:=by
 let⟨T,c,hl⟩:=I.look;refine W.set_plain X c J (W.osa_open (s:={s with toks:=s.toks+1}) (r:=none) X c L G λb=>?_);let⟨cd,P,o⟩:=W.any_some O;have D:s.heap.get? x=some ⟨.ref C,some dx,.plain,#[]⟩:=I.obj;refine xAd<|xAe<|xAd<|xAd<|wpAny_loadPart D<|xAd<|PySem.W.Looks.here (s:={s with toks:=s.toks+1}) (W.looks_clsIn X P) ?_;rw[o];erw[<-xAe (a:=some dx)<|xAd<|xAe<|xAd ?_,<-wpAny_nsSet1 (s:={s with toks:=s.toks+1}) I.ns λh' e d=>?_];let⟨Y,R,S,l,m,q⟩:=e.count<|PySem.Within.cons name v F;refine xAd<|wpAny_lookBehind l (by rw[m];exact pastItsLine_dict (xCk q<|by rw[xAo];lia)) ?_;exact xAe<|h _ ⟨(d.2 _<|Ne.symm I.ne).trans I.obj,e,I.ne⟩ d
def rf{R:Result->B3->Prop}{vs:C3}{kw:B0<|Str×B2}(X:K.In s.heap)(b:W.makesIn K C=true)(hi:W.findIn K (.ref C) "__init__"=some (some<|.ref f))(c:W.typeIn K (.ref f)=some (.type "function"))(h:codeAny (model prog w) (A.under<|.builtin "type.__call__" ⟨.ref C::vs,kw⟩) (.call (.ref f) ⟨.ref (s.heap.objs.size+1)::vs,kw⟩) (PySem.W.InitBack (s.heap.objs.size+1) R)
   {s with heap:=(s.heap.push W.emptyDict).push<|W.instObj C s.heap.objs.size}) :
  codeAny (model prog w) A (.call (.ref C) ⟨vs,kw⟩) R s:=by
 let⟨l,g,d,t,e⟩:=s;exact W.make_core (W.makes_of X b) (W.looks_findIn X hi) (λa=>W.bind_fn X a c) (.inl rfl) h
end
noncomputable def putF(f:Str)(v:V):B0 (Str×V)->B0 (Str×V)
 |[]=>[(f,v)]
 |(g,x)::r=>if g=f then(g,v)::r else(g,x)::putF f v r
theorem gn(f g:Str)(v:V):∀fs:B0<|Str×V,(putF f v fs).lookup g=if g=f then some v else fs.lookup g
 |[]=>by
  show List.lookup g [(f,v)]=_;by_cases h:g=f
  .have a:(g==f)=true:=beq_iff_eq.mpr h;simp only[List.lookup,a,xCg h]
  .have a:(g==f)=false:=beq_eq_false_iff_ne.mpr h;simp only[List.lookup,a,xCf h]
 |(k,x)::r=>by
  have b:=gn f g v r;rw[show putF f v ((k,x)::r)=(if k=f then(k,v)::r else(k,x)::putF f v r) from rfl];by_cases hk:k=f
  .rw[xCg hk];by_cases h:g=k
   .have a:(g==k)=true:=beq_iff_eq.mpr h;simp only[List.lookup,a,xCg<|h.trans hk]
   .have a:(g==k)=false:=beq_eq_false_iff_ne.mpr h;simp only[List.lookup,a,xCf λe:g=f=>h<|e.trans hk.symm]
  .rw[xCf hk];by_cases h:g=k
   .have a:(g==k)=true:=beq_iff_eq.mpr h;simp only[List.lookup,a,xCf λe:g=f=>hk<|h.symm.trans e]
   .have a:(g==k)=false:=beq_eq_false_iff_ne.mpr h;simp only[List.lookup,a];exact b
theorem fZ(f:Str)(v:V):∀fs:B0<|Str×V,f∈(putF f v fs).map (·.1)/\∀g,g∈fs.map (·.1)->g∈(putF f v fs).map (·.1)
 |[]=>⟨by simp[putF],λg h=>by simp at h⟩
 |(k,x)::r=>by
  let⟨i1,i2⟩:=fZ f v r;rw[show putF f v ((k,x)::r)=(if k=f then(k,v)::r else(k,x)::putF f v r) from rfl];by_cases hk:k=f
  .rw[xCg hk];subst hk;exact⟨⋯,λg h=>by simpa using h⟩
  .rw[xCf hk];refine⟨?_,λg h=>?_⟩
   .rw[xBs];exact xAs _ i1
   .rw[xBs] at h⊢;rcases xAv.mp h with e|e
    .exact xAv.mpr<|.inl e
    .exact xAs _<|i2 g e
theorem gp(f:Str)(v:V):∀fs:B0<|Str×V,(putF f v fs).length<=fs.length+1
 |[]=>by simp[putF]
 |(k,x)::r=>by
  have a:=gp f v r;rw[show putF f v ((k,x)::r)=(if k=f then(k,v)::r else(k,x)::putF f v r) from rfl];by_cases hk:k=f
  .rw[xCg hk,xAo,xAo];lia
  .rw[xCf hk,xAo,xAo];lia
theorem zCa.some_of{v:V}{o:B1 B2}(r:zCa (some v) o):∃u,o=some u/\zAj v u:=by
 cases o with
 |none=>exact(show False from r).elim
 |some u=>exact⟨u,rfl,r⟩
theorem zCa.none_of{o:B1 B2}(r:zCa none o):o=none:=by
 cases o with
 |none=>rfl
 |some u=>exact(show False from r).elim
theorem iH{v:V}{u:B2}(r:zAj v u):W.handedIn u=true:=by
 cases v with
 |non=>cases (show u=Value.none from r);rfl
 |bl b=>cases (show u=Value.bool b from r);rfl
 |int i=>let⟨t,e⟩:=(show ∃t,u=Value.int i t from r);cases e;rfl
 |str x=>let⟨t,e⟩:=(show ∃t,u=Value.str x t from r);cases e;rfl
 |byt b=>let⟨t,e⟩:=(show ∃t,u=Value.bytes b t from r);cases e;rfl
 |flt b=>let⟨t,e⟩:=(show ∃t,u=Value.float b t from r);cases e;rfl
 |ref a=>cases (show u=Value.ref a from r);rfl
 |ty n=>cases (show u=Value.type n from r);rfl
section
variable{P:Program}{w:World}{H H':Hp}{h h':Heap}{a C dx:B5}{fs fs':B0<|Str×V}
def gH(b:HOk P w H h)(e:H a=some (.ins C dx fs)):∃mA,zEm h a dx C mA/\(∀f,zCa (fs.lookup f)<|mA f)/\PySem.Within mA (fs.map (·.1))/\fs.length<=1000/\H dx=some (.own a):=by
 let⟨d,z,ne,c,mA,n,r,q⟩:=(show zAe P w H h a (.ins C dx fs) from b a _ e)
 exact⟨mA,⟨c,n,ne⟩,r,q,z,d⟩
end
structure Cls(K:xFr)(C:B5):Prop where
 pg:W.plainGet K C Str.empty=true
 hd:W.hasDictIn K C=true
 po:W.plainOver K C=true
 sa:W.findIn K (.ref C) "__setattr__"=some (some (.builtin "object.__setattr__"))
def Cls.get(c:Cls K C)(f:Str):W.plainGet K C f=true:=c.pg
def zAw(K:xFr)(C:B5)(f:Str):Prop:=W.findIn K (.ref C) f=some none
def zAw.taker{f:Str}(n:zAw K C f):W.takerIn K C f=some none:=by
 unfold W.takerIn;rw[show W.findIn K (.ref C) f=some none from n];rfl
structure zEn(K:xFr)(C:B5)(m:Str)(f:B5):Prop where
 at_:W.findIn K (.ref C) m=some (some (.ref f))
 fn:W.isFn K (.ref f)=true
 kp:W.keepIn K (.ref f)=true
section
variable{X:Cx}{Z:B0<|B5×Obj}{O:St}{H:Hp}{s:B3}{a C dx:B5}{fs:B0<|Str×V}{f:Str}{v:V}{A:Around}{E:B2->B3->Prop}
def lI{b:B6}(I:Inv X Z O H s)(e:H a=some (.ins C dx fs))(c:Cls X.K C)(n:zAw X.K C f)(l:fs.lookup f=some v)(h:∀u m,Inv X Z O H m->zAj v u->Q u m):wpAny (model X.prog X.w) A (getAttr (.ref a) f b) Q E s:=by
 let⟨mA,d,r,_,_,_⟩:=gH I.hok e;let⟨u,x,q⟩:=zCa.some_of (v:=v) (o:=mA f) (by rw[<- l];exact r f);exact uT I.kIn d (c.get f) c.hd n x (iH q)<|h u _ (I.tok _) q
def g0{m:Str}{g:B5}{pl:Sem B6}{Q:B2×C3->B3->Prop}(I:Inv X Z O H s)(e:H a=some (.ins C dx fs))(c:Cls X.K C)(k:zEn X.K C m g)(l:fs.lookup m=none)(h:Q (.ref g,[.ref a]) s):wpAny (model X.prog X.w) A (getMethod (.ref a) m pl) Q E s:=by
 let⟨mA,b,r,_,_,_⟩:=gH I.hok e;have d:mA m=none:=zCa.none_of (by rw[<- l];exact r m);exact rR I.kIn b (c.get m) k.at_ k.fn d h
def kU{u:B2}{Q:Unit->B3->Prop}(I:Inv X Z O H s)(e:H a=some (.ins C dx fs))(c:Cls X.K C)(n:zAw X.K C f)(W:fs.length<1000)(G:zAj y u)(h:∀B,Inv X Z O (upd H a<|.ins C dx<|putF f y fs) B->Q Unit.unit B):wpAny (model X.prog X.w) A (setAttr (.ref a) f u) Q E s:=by
 let⟨mA,l,r,m,_,D⟩:=gH I.hok e;have J:(fs.map (·.1)).length<=sizeLine:=by rw[xAa,sizeLine_eq];lia
 refine tF I.kIn l c.sa c.po n.taker c.hd m J λS d F=>h _ ?_;have P:∃o,S.get? dx=some o:=let ⟨o,_,_,T,_⟩:=d.ns;⟨o,T⟩;erw[I.write (x:=a) (e:=dx) (by rw[e];exact True.intro) (.inr D) (λb q R z=>(F.2 b R).trans z) P,<-⟨by rw[cb l.ne];exact D,?_,l.ne,d.obj,_,d.ns,λg=>?_,λg L=>?_⟩]
 .have:=gp f y fs;lia
 .show zCa ((putF f y fs).lookup g)<|if g=f then some u else mA g;rw[gn];by_cases q:g=f
  .rw[xCg q,xCg q];exact G
  .rw[xCf q,xCf q];exact r g
 .by_cases q:g=f
  .rw[q];exact(fZ f y fs).1
  .refine(fZ f y fs).2 g (m g λz=>L ?_);show(if g=f then some u else mA g)=none;rw[xCf q];exact z
def Inv.made(I:Inv X Z O H s):Inv X Z O (upd (upd H s.heap.objs.size<|.own<|s.heap.objs.size+1) (s.heap.objs.size+1)<|.ins C s.heap.objs.size [])
  {s with heap:=(s.heap.push W.emptyDict).push<|W.instObj C s.heap.objs.size}:=by
 have c:(s.heap.push W.emptyDict).get? s.heap.objs.size=some W.emptyDict:=xAl s.heap rfl;have r:((s.heap.push W.emptyDict).push<|W.instObj C s.heap.objs.size).get? (s.heap.objs.size+1)=some (W.instObj C s.heap.objs.size):=by
  have:=xAl (s.heap.push W.emptyDict) (o:=W.instObj C s.heap.objs.size) rfl
  rwa[Heap.size_push] at this
 have m:(s.heap.push W.emptyDict).Ns s.heap.objs.size λ_=>none:=⟨W.emptyDict,#[],_,c,rfl,(λe l=>absurd l ⋯),λ_=>rfl⟩
 have I1:=I.laid (a:=s.heap.objs.size) (o:=.own<|s.heap.objs.size+1) (h':=s.heap.push W.emptyDict) (t':=s.toks) (λb u q=>xAf _ q) (xAg _) ⟨_,c⟩;erw[I1.laid (a:=s.heap.objs.size+1) (o:=.ins C s.heap.objs.size []) (t':=s.toks) (λb u q=>xAf _ q) (Nat.le_of_eq<|Heap.size_push _ _)];have ne:s.heap.objs.size≠s.heap.objs.size+1:=xA0<|Nat.lt_succ_self _;refine⟨by rw[cb ne,ce],xBn _,ne,r,λ_=>none,(Heap.Ns1.of_empty m).at λo q=>xAf _ q,λ_=>True.intro,λy d=>absurd rfl d⟩
def nN{prog:Program}{w:World}{env:Env}{e:B4}{f:Str}(b:attributeBase e f env (eval e env)=eval e env)(h:wpAny (model prog w) A (eval e env) (λo s₁=>wpAny (model prog w) A (getAttr o f true) Q E s₁) E s):wpAny (model prog w) A (eval (.Attribute e f pos) env) Q E s:=
 Attribute_any_ h (by rw[arm_eval_Attribute,b])
end
def zJz(K:xFr)(b:TE)(f:Str):TE:=λO H Q=>b O H λx H1=>∃a C dx fs v,x=.ref a/\H1 a=some (.ins C dx fs)/\Cls K C/\zAw K C f/\fs.lookup f=some v/\Q v H1
def zJ4(K:xFr)(c b:TE)(f:Str):TS:=λD O H=>b O H λy H1=>c O H1 λx H2=>∃a C dx fs,x=.ref a/\H2 a=some (.ins C dx fs)/\Cls K C/\zAw K C f/\fs.length<1000 /\
 D.nx O (upd H2 a<|.ins C dx<|putF f y fs)
section
variable{X:Cx}{o e value:B4}{f:Str}{pos pos' tpos:Pos}{ta tv:TE}
def xp(r:PE X e ta)(w:attributeBase e f X.env (eval e X.env)=eval e X.env):PE X (.Attribute e f pos)<|zJz X.K ta f:=by
 intro Z s O H Q I h;refine nN w (thn (r Z s O H _ I h) λu G b=>?_);let⟨x,H1,I1,d,a,C,dx,fs,v,B,D,c,n,l,q⟩:=b;subst B;obtain rfl:u=Value.ref a:=d;exact lI I1 D c n l λE F I2 m=>⟨v,H1,I2,m,q⟩
def w5(E:PE X o ta)(w:PE X value tv)(B:swapsWith value (some<|.Attribute o f pos') pos.line X.env=pure false):PS X (.Assign [.Attribute o f pos'] value pos)<|zJ4 X.K ta tv f:=by
 intro Z s O H D I h;refine plainObj_wpAny_Assign_Attribute (thn (w Z s O H _ I h) λu b ⟨y,H1,I1,d,q⟩=>thn (E Z b O H1 _ I1 q) λv L ⟨x,H2,I2,m,a,C,dx,fs,F,G,c,n,l,r⟩=>?_) B;subst F;obtain rfl:v=Value.ref a:=m;exact kU I2 G c n l d λJ I3=>⟨O,_,I3,r⟩
end
section
variable{X:Cx}{Z:B0<|B5×Obj}{O:St}{H:Hp}{s:B3}{A:Around}{E:B2->B3->Prop}{Q:B2->B3->Prop}{c:B2}{b:B6}
inductive zCg(K:xFr)(H:Hp):V->Value->Prop where
 |non:zCg K H .non (.type "NoneType")
 |bl (x:Bool):zCg K H (.bl x) (.type "bool")
 |int (i:Int):zCg K H (.int i) (.type "int")
 |str (x:Str):zCg K H (.str x) (.type "str")
 |flt (x:UInt64):zCg K H (.flt x) (.type "float")
 |lst {a:Addr} {xs:List V} (e:H a=some (.lst xs)):zCg K H (.ref a) (.type "list")
 |frz {a:Addr} {o:Obj} {xs:List V} (e:H a=some (.frz o (.lst xs))):zCg K H (.ref a) (.type "list")
 |tup {a:Addr} {xs:List V} (e:H a=some (.tup xs)):zCg K H (.ref a) (.type "tuple")
 |dK {a:Addr} {kvs:List (Key×V)} (e:H a=some (.dK kvs)):zCg K H (.ref a) (.type "dict")
 |dT {a:Addr} {kvs:List (List Key×V)} (e:H a=some (.dT kvs)):zCg K H (.ref a) (.type "dict")
 |ins {a C dx:Addr} {fs:List (Str×V)} (e:H a=some (.ins C dx fs)) (cl:Cls K C) (ha:W.findIn K (.ref C) "__class__"=some (some (.builtin "object.__class__")))
   (hn:W.specialIn K (.builtin "object.__class__") "__get__"=some (some (.builtin "getset_descriptor.__get__"))) (htk:W.takesIn K (.builtin "object.__class__")=some true)
   (hm:W.mroIn K C (.type "object")=some true):zCg K H (.ref a) (.ref C)
theorem oG{x:V}{u t:B2}(I:Inv X Z O H s)(d:zAj x u)(ty:zCg X.K H x t)(e:W.kitOne X.K t c=some b)(h:∀tk,Q (.bool b) {s with toks:=tk}) :
  wpAny (model X.prog X.w) A (call (.builtin "isinstance") [u,c]) Q E s:=by
 cases ty with
 |non=>cases (show u=Value.none from d);exact W.kia_one W.kitx_none I.kIn True.intro e (λz=>nomatch z) h
 |bl y=>cases (show u=Value.bool y from d);exact W.kia_one W.kitx_bool I.kIn True.intro e (λz=>nomatch z) h
 |int i=>let⟨t,q⟩:=(show ∃t,u=Value.int i t from d);cases q;exact W.kia_one W.kitx_int I.kIn True.intro e (λz=>nomatch z) h
 |str y=>let⟨t,q⟩:=(show ∃t,u=Value.str y t from d);cases q;exact W.kia_one W.kitx_str I.kIn True.intro e (λz=>nomatch z) h
 |flt y=>let⟨t,q⟩:=(show ∃t,u=Value.float y t from d);cases q;exact W.kia_one W.kitx_float I.kIn True.intro e (λz=>nomatch z) h
 |@lst a v l=>
  cases (show u=Value.ref a from d);let⟨_,_,n,_,m⟩:=(show zAe X.prog X.w H s.heap a (.lst v) from I.hok a _ l)
  exact W.kia_one W.kitx_list I.kIn ⟨_,m,rfl⟩ e (λz=>nomatch z) h
 |@frz a J v l=>
  cases (show u=Value.ref a from d);let⟨_,_,_,n,_,m⟩:=(show zAe X.prog X.w H s.heap a (.frz J<|.lst v) from I.hok a _ l)
  exact W.kia_one W.kitx_list I.kIn ⟨_,m,rfl⟩ e (λz=>nomatch z) h
 |@tup a v l=>
  cases (show u=Value.ref a from d);let⟨_,_,_,p⟩:=(show zAe X.prog X.w H s.heap a (.tup v) from I.hok a _ l)
  let⟨o,m,B,_⟩:=p;exact W.kia_one W.kitx_tuple I.kIn ⟨o,m,B⟩ e (λz=>nomatch z) h
 |@dK a r l=>
  cases (show u=Value.ref a from d);let⟨_,_,vs,_,p⟩:=(show zAe X.prog X.w H s.heap a (.dK r) from I.hok a _ l)
  let⟨o,es,S,m,B,_⟩:=p;exact W.kia_one W.kitx_dict I.kIn ⟨o,m,B.1⟩ e (λz=>nomatch z) h
 |@dT a r l=>
  cases (show u=Value.ref a from d);let⟨_,_,v,_,o,es,S,m,B,_⟩:=(show zAe X.prog X.w H s.heap a (.dT r) from I.hok a _ l)
  exact W.kia_one W.kitx_dict I.kIn ⟨o,m,B.1⟩ e (λz=>nomatch z) h
 |@ins a C dx fs l cl R L G P=>
  cases (show u=Value.ref a from d);let⟨mA,D,_⟩:=gH I.hok l;let⟨T,F,_⟩:=D.look;exact W.kia_one (W.kitx_own (cl.get _) cl.hd R L G P) I.kIn F e (λz=>nomatch z) h
end
structure zBe(k:Nat)(A:Around):Prop where
 hd:A.handled=none
 dp:A.depth+3*k+5<recursionLimit
 un:A.units+16*k+200<cLine
 gd:A.guards=some []
def zBe.mono(r:zBe k A)(h:j<=k):zBe j A:=⟨r.hd,by have:=r.dp;lia,by have:=r.un;lia,r.gd⟩
theorem zBe.deeper{k:Nat}{A:Around}(r:zBe (k+1) A)(env:Env):zBe k<|A.deeper env:=
 ⟨r.hd,by have:=r.dp;show A.depth+1+3*k+5<_;lia,by have:=r.un;show A.units+3+16*k+200<_;lia,r.gd⟩
def lF{us:C3}{kw:B0<|Str×B2}:(A.under<|.builtin "type.__call__" ⟨.ref C::us,kw⟩).depth=A.depth+1:=by
 first|rfl|simp[Around.under,Code.weight,Code.isCreation,Code.isGuard,Code.isCaller,Code.frames,Code.isFrame,guardIds]
def lE{us:C3}{kw:B0<|Str×B2}:(A.under<|.builtin "type.__call__" ⟨.ref C::us,kw⟩).units=A.units+1:=by
 first|rfl|simp[Around.under,Code.cUnits,Code.frames,Code.isFrame]
def ko{us:C3}{kw:B0<|Str×B2}:(A.under<|.builtin "type.__call__" ⟨.ref C::us,kw⟩).guards=A.guards:=by
 first|rfl|simp[Around.under,Code.weight,Code.isCreation,Code.isGuard,Code.isCaller,Code.frames,Code.isFrame,guardIds]
def zBe.make(r:zBe (k+1) A)(C:B5)(us:C3)(kw:B0<|Str×B2):zBe k<|A.under<|.builtin "type.__call__" ⟨.ref C::us,kw⟩:=
 ⟨r.hd,by have:=r.dp;rw[lF];lia,by have:=r.un;rw[lE];lia,ko.trans r.gd⟩
theorem zBe.depth{k:Nat}{A:Around}(r:zBe k A):A.depth<recursionLimit:=by have:=r.dp;lia
theorem zBe.units{k:Nat}{A:Around}(r:zBe k A):A.units+64<cLine:=by have:=r.un;lia
def zGk:TA:=λ_ H Q=>Q [] H
def zE8(b:TE)(tr:TA):TA:=λO H Q=>b O H λx H1=>tr O H1 λa H2=>Q (x::a) H2
section
variable{X:Cx}{e:B4}{es:B0 B4}{te:TE}{t:TA}{pos:Pos}
def jg:PA X [] zGk:=λ_ _ _ _ H Q I h=>Calls.spliced_nil ⟨[],H,I,.nil,h⟩
def um(q:PE X e te)(hr:PA X es t)(o:starEach (e::es) X.env=(false,eval e X.env)::starEach es X.env:=by rfl):PA X (e::es)<|zE8 te t:=by
 intro pos Z s O H Q I h;rw[o];show wpAny _ _ (spliced<|(false,eval e X.env)::backTo pos (starEach es X.env)) _ _ s;refine Calls.spliced_cons (thn (q Z s O H _ I h) λu c a=>?_);let⟨x,H1,I1,d,m⟩:=a;exact thn (hr pos Z c O H1 _ I1 m) λus r ⟨b,H2,I2,r2,l⟩=>⟨x::b,H2,I2,.cons d r2,l⟩
def zJp(t:TA):TE:=λO H Q=>t O H λa H1=>a.length<=sizeLine/\∀p,H1 p=none->Q (.ref p) (upd H1 p<|.tup a)
def zJw(t:TA):TE:=λO H Q=>t O H λa H1=>a.length<=sizeLine/\∀p,H1 p=none->Q (.ref p) (upd H1 p<|.lst a)
def xj{x1}(h:PA X es t):PE X (.Tuple es x1 pos)<|zJp t:=by
 intro Z s O H Q I d;refine wpAny_Tuple_spliced (thn (h pos Z s O H _ I d) λus a ⟨c,H1,I1,r,z,q⟩=>⟨by rw[<- r.length];exact z,?_⟩);have l:H1 a.heap.objs.size=none:=I1.hok.fresh<|xAg _;refine⟨.ref a.heap.objs.size,upd H1 a.heap.objs.size<|.tup c,I1.laid (t':=a.toks) (λb u e=>xAf _ e) (xAg _) ?_,rfl,q _ l⟩;exact⟨z,us,r,⟨_,xAl _ rfl,rfl,_,rfl⟩⟩
def xm(h:PA X es t):PE X (.List es pos)<|zJw t:=by
 intro Z s O H Q I d;refine wpAny_List_spliced (thn (h pos Z s O H _ I d) λus a ⟨c,H1,I1,r,z,q⟩=>⟨by rw[<- r.length];exact z,?_⟩);have l:H1 a.heap.objs.size=none:=I1.hok.fresh<|xAg _;refine⟨.ref a.heap.objs.size,upd H1 a.heap.objs.size<|.lst c,I1.laid (t':=a.toks) (λb u e=>xAf _ e) (xAg _) ?_,rfl,q _ l⟩;exact⟨z,us,0,r,xAl _ rfl⟩
end
noncomputable abbrev Sp:=C0->Hp->VK->XK->Prop
noncomputable abbrev CXT:=B0 Env->Hp->B3->XK->B2->B3->Prop
structure zEo(P:Program)(w:World)(K:xFr)(mg:Str->B1 B2)(base:Heap)(A:Around)(outer:B0 Env)(s:B3)(H:Hp):Prop where
 frames:A.frames=some outer
 mod:Mod K mg base
 bs:∀b o,base.get? b=some o->s.heap.get? b=some o/\H b=none
 bsz:base.objs.size<=s.heap.objs.size
 funs:s.heap.FunFrames base outer
 frf:∀b∈frs outer,H b=none
 hok:HOk P w H s.heap
 bare:AllBare s.gens
def CE(outer:B0 Env)(P:Program)(w:World)(H:Hp)(s:B3)(Q:VK)(u:B2)(a:B3):Prop:=
 ∃v H',a.os=s.os/\AllBare a.gens/\Un (frs outer) [] H H' s.heap a.heap/\HOk P w H' a.heap/\zAj v u/\Q v H'
def CR(CX:CXT)(outer:B0 Env)(P:Program)(w:World)(H:Hp)(s:B3)(Q:VK)(E:XK)(r:Result)(a:B3):Prop:=
 match r with
 |.ok (.ret u)=>CE outer P w H s Q u a
 |.ok _=>False
 |.error e=>CX outer H s E e a
structure zA5(P:Program)(w:World)(K:xFr)(mg:Str->B1 B2)(base:Heap)(CX:CXT)(k:Nat)(f:B5)(fd:FuncData)(ps:B7)(sp:Sp):Prop where
 len:∀vs H Q E,sp vs H Q E->vs.length=ps.length
 run:∀(A:Around)(outer:B0 Env)(s:B3)(H:Hp)(args:Args)(us:C3)(vs:C0)(Q:VK)(E:XK),zBe k A->zEo P w K mg base A outer s H->BindsTo s fd args (ps.zip us)->zAi vs us->sp vs H Q E ->
  codeAny (model P w) A (.call (.ref f) args) (CR CX outer P w H s Q E) s
theorem zA5.mono{P:Program}{w:World}{K:xFr}{mg:Str->B1 B2}{base:Heap}{CX:CXT}{j k:Nat}{f:B5}{fd:FuncData}{ps:B7}{sp:Sp}(F:zA5 P w K mg base CX j f fd ps sp)(h:j<=k) :
  zA5 P w K mg base CX k f fd ps sp:=⟨F.len,λA outer s H a us vs Q E hr=>F.run A outer s H a us vs Q E<|hr.mono h⟩
def zA5.imp{P:Program}{w:World}{f:B5}{a:Sp}(F:zA5 P w K mg base CX k f fd ps sp)(h:∀vs H Q E,a vs H Q E->sp vs H Q E):zA5 P w K mg base CX k f fd ps a:=
 ⟨λvs H Q E q=>F.len vs H Q E<|h _ _ _ _ q,λA outer s H b us vs Q E hr e l c d=>F.run A outer s H b us vs Q E hr e l c<|h _ _ _ _ d⟩
def zEo.make{P:Program}{w:World}(e:zEo P w K mg base A outer s H)(C:B5)(us:C3)(kw:B0<|Str×B2) :
  zEo P w K mg base (A.under<|.builtin "type.__call__" ⟨.ref C::us,kw⟩) outer s H:=⟨by first|exact e.frames|(simpa [Around.under,Code.envs,Code.isFrame,pushEnvs] using e.frames),e.mod,e.bs,e.bsz,e.funs,e.frf,e.hok,e.bare⟩
section
variable{X:Cx}{Z:B0<|B5×Obj}{O:St}{H:Hp}{s s':B3}
def Inv.env0(I:Inv X Z O H s):zEo X.prog X.w X.K X.mg X.base X.A X.stack s H:=
 ⟨I.ok.frames,I.ok.mod,I.bs,xCk I.ok.bsz I.sz,I.stack,I.stkFree,I.hok,I.bare⟩
def Inv.after{Q:VK}{u:B2}(I:Inv X Z O H s)(h:CE X.stack X.prog X.w H s Q u s'):EP X Z O Q u s':=by
 let⟨v,H',l,a,un,e,r,q⟩:=h;let⟨m,g,d,t,c⟩:=s';obtain rfl:c=s.os:=l;exact⟨v,H',I.call (h':=m) (g':=g) (d':=d) (t':=t) (ch:=[]) un e a (λb z=>absurd z ⋯),r,q⟩
end
def zD9(C:B5)(sp:Sp)(a:C0)(E:XK)(t:TA):TE:=λO H Q=>t O H λvs H1=>∀x dx,H1 x=none->H1 dx=none->dx≠x ->
 sp (.ref x::(vs++a)) (upd (upd H1 dx<|.own x) x<|.ins C dx []) (λv H2=>v=.non/\Q (.ref x) H2) E
def zAv(K:xFr)(fd:FuncData)(ps:B7)(a:C3):Prop:=
 ∀(s:B3)(us:C3),K.In s.heap->(us++a).length=ps.length->BindsTo s fd ⟨us,[]⟩ (ps.zip<|us++a)
def zAv.all(h:∀us:C3,us.length=ps.length->bindArgs fd ⟨us,[]⟩=pure (ps.zip us)):zAv K fd ps []:=λs us _ a=>by
 rw[xB0] at a⊢;exact .of_eq<|h us a
def zB4(CX:CXT)(X:Cx)(E:XK):Prop:=∀(Z:B0<|B5×Obj)(O:St)(H:Hp)(s:B3)(e:B2)(a:B3),Inv X Z O H s->CX X.stack H s E e a->X.xe e a
section
variable{X:Cx}{CX:CXT}{k:Nat}{f C:B5}{fd:FuncData}{ps:B7}{sp:Sp}{dvs:C0}{ds:C3}{E:XK}{x m:Str}{p pos apos:Pos}{e o:B4}{es:B0 B4}{ta:TE}{t:TA}
structure Mk(K:xFr)(C f:B5):Prop where
 makes:W.makesIn K C=true
 init:W.findIn K (.ref C) "__init__"=some (some (.ref f))
 fn:W.isFn K (.ref f)=true
 kp:W.keepIn K (.ref C)=true
theorem jU{O:St}{Q:VK}{us:C3}(M:Mk X.K C f)(F:zA5 X.prog X.w X.K X.mg X.base CX k f fd ps sp)(hr:zBe (k+1) X.A)(G:zAv X.K fd ps ds)(D:zAi dvs ds)(q:zB4 CX X E)(I:Inv X Z O H s)(r:zAi vs us)(h:∀x dx,H x=none->H dx=none->dx≠x->sp (.ref x::(vs++dvs)) (upd (upd H dx<|.own x) x<|.ins C dx []) (λv H2=>v=.non/\Q (.ref x) H2) E) :
  wpAny (model X.prog X.w) X.A (call (.ref C) us) (EP X Z O Q) X.xe s:=by
 have b:=h (s.heap.objs.size+1) s.heap.objs.size (I.hok.fresh<|Nat.le_succ _) (I.hok.fresh<|xAg _)<|xA0<|Nat.lt_succ_self _;have I2:=Inv.made (C:=C) I;have r2:zAi (V.ref (s.heap.objs.size+1)::(vs++dvs))<|Value.ref (s.heap.objs.size+1)::(us++ds):=.cons rfl<|r.append D;have B:(Value.ref (s.heap.objs.size+1)::us++ds).length=ps.length:=by
  have e:=r2.length;rw[F.len _ _ _ _ b] at e;exact e.symm
 refine wpAny_call<|rf (f:=f) I.kIn M.makes M.init (beq_iff_eq.mp M.fn)<|codeAny_mono (F.run _ X.stack _ _ ⟨Value.ref (s.heap.objs.size+1)::us,[]⟩ (Value.ref (s.heap.objs.size+1)::(us++ds)) _ _ E (hr.make C us [])
  (I2.env0.make C us []) (G _ (Value.ref (s.heap.objs.size+1)::us) I2.kIn B) r2 b) λr c a=>?_
 cases r with
 |error e=>exact q Z O _ _ e c I2 a
 |ok fl=>
  cases fl with
  |ret u=>
   let⟨v,H',I3,d,J,l⟩:=I2.after a;subst J;exact⟨d,⟨V.ref<|s.heap.objs.size+1,H',I3,rfl,l⟩⟩
  |next=>exact False.elim a
  |brk=>exact False.elim a
  |cont=>exact False.elim a
def ug(M:Mk X.K C f)(F:zA5 X.prog X.w X.K X.mg X.base CX k f fd ps sp)(hr:zBe (k+1) X.A)(l:Gl X x)(d:X.mg x=some (.ref C))(D:zAv X.K fd ps ds)(B:zAi dvs ds)(c:zB4 CX X E)(G:PA X (e::es) t)(b:(x==("__debug__":Str))=false:=by decide)(v:starEach (e::es) X.env=(false,eval e X.env)::starEach es X.env:=by rfl)(a:(backTo pos<|starEach es X.env).any (·.1)=false:=by rfl) :
  PE X (.Call (.Name x p) (e::es) [] pos) (zD9 C sp dvs E t):=by
 intro Z s O H Q I h;erw[<-wpAny_Call_Name_kw (dP I l d ?_ b),<-W.callWith_K (h₀:=X.base) I.ok.mod.kin M.kp (thn (G pos Z s O H _ I h) λus J ⟨vs,H1,I1,r,q⟩=>⟨I1.kIn,?_⟩) v a,<-jU M F hr D B c I1 r q]
def qC(M:Mk X.K C f)(F:zA5 X.prog X.w X.K X.mg X.base CX k f fd ps sp)(hr:zBe (k+1) X.A)(d:Gl X x)(c:X.mg x=some (.ref C))(q:zAv X.K fd ps ds)(l:zAi dvs ds)(b:zB4 CX X E)(a:(x==("__debug__":Str))=false:=by decide):PE X (.Call (.Name x p) [] [] pos)<|zD9 C sp dvs E zGk:=by
 intro Z s O H Q I h;refine wpAny_Call_Name_kw (dP I d c ?_ a);exact W.callWith_K0 I.kIn M.kp (jU (us:=[]) M F hr q l b I .nil h)
end
structure zBf(N P:B7)(sc:Scope):Prop where
 kind:sc.kind=.function
 co:sc.isCoroutine=false
 gen:sc.isGenerator=false
 nd:N.Nodup
 pre:N.take P.length=P
 par:∀x∈P,sc.names.lookup x=some .local\/sc.names.lookup x=some .cell
 nofree:∀y∈sc.names,y.2≠.free
theorem iL{kindOf:Str->B1 NameKind}{x:Str}:∀{binds:B0<|Str×B2}{m:Str->B1 B2},(∀v,(x,v)∉binds)->bindL kindOf binds m x=m x
 |[],_,_=>rfl
 |(n,v)::r,m,h=>by
  unfold bindL;rw[iL λw a=>h w<|xAs _ a];split
  .have:x≠n:=by rintro rfl;exact h v xAr
   simp[this]
  .rfl
theorem iO{kindOf:Str->B1 NameKind}{x:Str}:∀{binds:B0<|Str×B2}{m:Str->B1 B2},(∀v,(x,v)∉binds)->bindC kindOf binds m x=m x
 |[],_,_=>rfl
 |(n,v)::r,m,h=>by
  unfold bindC;rw[iO λw a=>h w<|xAs _ a];split
  .rfl
  .have:x≠n:=by rintro rfl;exact h v xAr
   simp[this]
theorem iM{kindOf:Str->B1 NameKind}{x:Str}{v:B2}:∀{P:B7}{vs:C3}{i:Nat}{m:Str->B1 B2},P.Nodup->P[i]?=some x->vs[i]?=some v->kindOf x=some .local ->
  bindL kindOf (P.zip vs) m x=some v
 |[],_,_,_,_,h,_,_=>by simp at h
 |_::_,[],_,_,_,_,h,_=>by simp at h
 |p::P,w::vs,0,m,c,b,a,hk=>by
  simp at b a;subst b;subst a;show bindL kindOf ((p,w)::P.zip vs) m p=_;unfold bindL;rw[iL λv d=>(xCb.mp c).1 (List.of_mem_zip d).1,xCg hk];simp
 |p::P,w::vs,i+1,m,c,b,a,hk=>by
  show bindL kindOf ((p,w)::P.zip vs) m x=_;unfold bindL;exact iM (i:=i) (xCb.mp c).2 (by simpa using b) (by simpa using a) hk
theorem iP{kindOf:Str->B1 NameKind}{x:Str}{v:B2}:∀{P:B7}{vs:C3}{i:Nat}{m:Str->B1 B2},P.Nodup->P[i]?=some x->vs[i]?=some v->kindOf x≠some .local ->
  bindC kindOf (P.zip vs) m x=some v
 |[],_,_,_,_,h,_,_=>by simp at h
 |_::_,[],_,_,_,_,h,_=>by simp at h
 |p::P,w::vs,0,m,c,b,a,hk=>by
  simp at b a;subst b;subst a;show bindC kindOf ((p,w)::P.zip vs) m p=_;unfold bindC;rw[iO λv d=>(xCb.mp c).1 (List.of_mem_zip d).1,xCf hk];simp
 |p::P,w::vs,i+1,m,c,b,a,hk=>by
  show bindC kindOf ((p,w)::P.zip vs) m x=_;unfold bindC;exact iP (i:=i) (xCb.mp c).2 (by simpa using b) (by simpa using a) hk
noncomputable def start(N:B7)(vs:C0):St:=vs.map some++List.replicate (N.length-vs.length) none
noncomputable def zD1(CX:CXT)(P:Program)(w:World)(K:xFr)(mg:Str->B1 B2)(base:Heap)(N:B7)(qual:Str)(scope:Scope)(f:B5)(cd:B2)(A:Around)(outer:B0 Env)(s:B3)(H:Hp)(E:XK):Cx where
 prog:=P
 w:=w
 K:=K
 mg:=mg
 base:=base
 A:=A.deeper<|envOfC qual scope s.heap.objs.size f cd
 N:=N
 s₀:=s
 H₀:=H
 env:=envOfC qual scope s.heap.objs.size f cd
 outer:=outer
 stack:=envOfC qual scope s.heap.objs.size f cd::outer
 ex:=[]
 calm:=true
 fn:=λ_=>true
 pn:=[]
 xe:=λe a=>wpAny (model P w) (A.deeper<|envOfC qual scope s.heap.objs.size f cd) (leaving (envOfC qual scope s.heap.objs.size f cd) e) (λ_ s''=>CX outer H s E e s'') (λb s''=>CX outer H s E b s'') a
def ie{sc:Scope}{x:Str}(h:sc.names.lookup x=some .cell):∃c,(cellsFrom n sc.names []).lookup x=some c:=by
 have q:=W.cellsFrom_some sc.names n []<|.inl h;exact Option.isSome_iff_exists.mp q
def oH{P:Program}{w:World}{f:B5}{cd:B2}{F:B3}{E:XK}{us:C3}(S:zBf N ps scope)(L:A.handled=none)(l:zEo P w K mg base A outer s H)(R:vs.length=ps.length)(r:zAi vs us)(x:InCallC s s.heap.objs.size (bindL (envOfC qual scope s.heap.objs.size f cd).kindOf (ps.zip us) λ_=>none) (cellsFrom (s.heap.objs.size+1) scope.names []) (bindC (envOfC qual scope s.heap.objs.size f cd).kindOf (ps.zip us) λ_=>none) F) :
  Inv (zD1 CX P w K mg base N qual scope f cd A outer s H E) [] (start N vs) H F:=by
 have J:ps.length<=N.length:=by have:=congrArg List.length S.pre;rw[List.length_take] at this;lia
 let⟨D,tk,rfl,hk⟩:=x.done;have noA:∀b:B5,b ∉ (zD1 CX P w K mg base N qual scope f cd A outer s H E).ex:=λb z=>absurd (show b∈([]:B0 B5) from z) ⋯;refine⟨⟨l.mod,S.kind,rfl,rfl,xAg _,λy z c D d=>?_,λy hy=>?_,λy c _ h=>?_,λ_=>L,Around.frames_deeper l.frames,.inr ⟨rfl,rfl⟩,λb z=>absurd z<|noA b,l.bs,l.bsz,λb _ _=>noA b,λb z=>absurd z<|noA b,l.funs,l.frf⟩,
  rfl,l.bare,Un.kept hk,⟨_,x.toInCall.ns,λi y v D d T=>?_⟩,λy c h=>⟨_,x.cell y c h⟩,l.hok.fresh<|xAg _,λy c h=>?_,λp o=>absurd (show p∈([]:B0<|B5×Obj) from o) ⋯,l.hok.kept hk,?_⟩
 .exact name_of_addr x.apart (PySem.mem_of_lookup D)<|PySem.mem_of_lookup d
 .have hy:scope.names.lookup y=some .cell\/scope.names.lookup y=some .free:=hy;rcases hy with hy|hy
  .exact ie hy
  .exact absurd rfl<|S.nofree _<|PySem.mem_of_lookup hy
 .exact Nat.le_of_lt<|x.above y c<|PySem.mem_of_lookup h
 .have B:i<vs.length:=by
   unfold start at d;by_cases B:i<vs.length
   .exact B
   .rw[xCl<|by simpa using B] at d;rw[List.getElem?_replicate] at d;split at d <;> cases d
  have O:vs[i]?=some v:=by
   unfold start at d;rw[List.getElem?_append_left (by simpa using B),xAw] at d;cases e:vs[i]? with
   |none=>rw[e] at d;cases d
   |some a=>rw[e] at d;cases d;rfl
  let⟨u,G,I⟩:=r.get O;have o:ps[i]?=some y:=by
   rw[<- S.pre,List.getElem?_take_of_lt ()];exact D
  have m:ps.Nodup:=by rw[<- S.pre];exact S.nd.sublist<|List.take_sublist _ _
  refine⟨u,I,?_⟩;rcases S.par y (xAc o) with k|k
  .exact .inl ⟨k,iM m o G k⟩
  .let⟨c,e⟩:=ie (n:=s.heap.objs.size+1) k;refine .inr ⟨.inl k,c,e,?_⟩;have q:=x.cell y c e;rw[iP m o G<|by show scope.names.lookup y≠_;rw[k];decide] at q;exact q
 .exact l.hok.fresh<|Nat.le_of_lt<|x.above y c<|PySem.mem_of_lookup h
 .unfold start;show _=N.length;rw[xAb,xAa,xCu];lia
theorem Af{P:Program}{w:World}{f:B5}{name:Str}{params:Arguments}{d:B0 Stmt}{dV kV J pm c ct oc:B2}{an od:B1 B5}{R:Array<|B1 B2}(lk:K.lookup f=some ⟨oc,od,.func<|W.fnOf name qual params d scope dV kV J pm an c ct,R⟩)(Y:W.codeIn K c qual=true)(S:zBf N ps scope)(len:∀vs H Q E,sp vs H Q E->vs.length=ps.length)(m:∀(A:Around)(outer:B0 Env)(s:B3)(H:Hp)(vs:C0)(Q:VK)(E:XK),zBe k (A.deeper<|envOfC qual scope s.heap.objs.size f c)->sp vs H Q E ->
   ∃t,PSs (zD1 CX P w K mg base N qual scope f c A outer s H E) d t/\t {nx:=λ_ H'=>Q .non H',rt:=Q} (start N vs) H) :
  zA5 P w K mg base CX (k+1) f (W.fnOf name qual params d scope dV kV J pm an c ct) ps sp:=by
 refine⟨len,λA outer s H args us vs Q E hr G hb r D=>?_⟩;have hl:=len _ _ _ _ D;have KX:K.In s.heap:=G.mod.kin.keeps λb o e=>(G.bs b o e).1;have T:s.heap.NoLimit:=G.mod.nolimit.keeps λb o e=>(G.bs b o e).1;have l:∀y∈ps.zip us,scope.names.lookup y.1=some .local\/(scope.names.lookup y.1=some .cell/\((cellsFrom (s.heap.objs.size+1) scope.names []).lookup y.1).isSome=true):=λ⟨n,v⟩ hy=>by
  rcases S.par n (List.of_mem_zip hy).1 with q|q
  .exact .inl q
  .exact .inr ⟨q,W.cellsFrom_some _ _ _<|.inl q⟩
 erw[<-codeAny_call_function hr.depth (KX _ _ lk) rfl S.co S.gen rfl (W.codeRec_of KX Y)<|hb _ _ _ _ ?_,<-wpAny_newFunctionEnv_cells S.kind l λenv he s1 x=>?_];subst he;refine⟨T.keeps x.toInCall.keep,codeAny_func ?_⟩;let⟨t,ht,hq⟩:=m A outer s H vs Q E (hr.deeper _) D;have I:Inv (zD1 CX P w K mg base N qual scope f c A outer s H E) [] (start N vs) H s1:=oH S hr.hd G hl r x;refine wpAny_mono (ht [] s1 (start N vs) H _ I hq) (λfl L B=>?_) λe L B=>B;have F:∀{O':St}{H':Hp}{v:V}{u:B2},Inv (zD1 CX P w K mg base N qual scope f c A outer s H E) [] O' H' L->zAj v u->Q v H'->CE outer P w H s Q u L:=
  λ{O' H' v u} a O q=>⟨v,H',a.os,a.bare,a.base,a.hok,O,q⟩
 cases fl with
 |ret u=>
  let⟨v,O',H',a,O,q⟩:=B;exact F a O q
 |next=>
  let⟨O',H',a,q⟩:=B;exact F (v:=V.non) (u:=Value.none) a rfl q
 |brk=>
  let⟨_,_,_,q⟩:=B;exact False.elim q
 |cont=>
  let⟨_,_,_,q⟩:=B;exact False.elim q
section
variable{X:Cx}{x:Str}{p pos:Pos}{e:B4}{es:B0 B4}{t:TA}{id T:String}{r:C0->Hp->VK->Prop}
def tCB(r:C0->Hp->VK->Prop)(t:TA):TE:=λO H Q=>t O H λvs H1=>r vs H1 Q
def qJ(B:zAm X (.builtin id) r)(v:Gl X x)(q:X.mg x=none)(m:bootBuiltins x=some (.builtin id))(D:PA X (e::es) t)(o:x≠"__name__":=by decide)(b:(x==("__debug__":Str))=false:=by decide)(w:starEach (e::es) X.env=(false,eval e X.env)::starEach es X.env:=by rfl)(a:(backTo pos<|starEach es X.env).any (·.1)=false:=by rfl):PE X (.Call (.Name x p) (e::es) [] pos)<|tCB r t:=by
 intro Z s O H Q I h;refine wpAny_Call_Name_kw (fD I v q m ?_ o b);exact PyProof.Rows.callWith_builtin1 (thn (D pos Z s O H _ I h) λus c ⟨vs,H1,I1,d,l⟩=>B Z c O H1 vs us Q I1 d l) w a
def ot(B:zAm X (.type T) r)(v:Gl X x)(q:X.mg x=none)(m:bootBuiltins x=some (.type T))(D:PA X (e::es) t)(o:x≠"__name__":=by decide)(b:(x==("__debug__":Str))=false:=by decide)(w:starEach (e::es) X.env=(false,eval e X.env)::starEach es X.env:=by rfl)(a:(backTo pos<|starEach es X.env).any (·.1)=false:=by rfl):PE X (.Call (.Name x p) (e::es) [] pos)<|tCB r t:=by
 intro Z s O H Q I h;refine wpAny_Call_Name_kw (fD I v q m ?_ o b);exact PyProof.Rows.callWith_type1 (thn (D pos Z s O H _ I h) λus c ⟨vs,H1,I1,d,l⟩=>B Z c O H1 vs us Q I1 d l) w a
end
end L2
namespace HT
open PySem PyProof.Rows
variable{Q:B2->B3->Prop}{sl:B5}{vl vu:B2}{lo hi:B1 Int}
section
open PySem.SeqAt
open PySem.AutoSeq1 (wpAny_loadPart')
open PySem.MeetsSeq PySem.MeetsSeq2 PySem.MeetsSeq3
end
section
variable{prog:Program}{w:World}{A:Around}{E:B2->B3->Prop}{s:B3}
def cat_tup{t b:B5}{vs ws:C3}(j:IsTup s.heap t vs.toArray)(k:IsTup s.heap b ws.toArray)(g:vs≠[])(m:ws=[]->Q (.ref t) s)(l:ws≠[]->Q (.ref s.heap.objs.size) {s with heap:=s.heap.push {cls:=.type "tuple",data:=.seq (vs++ws).toArray} })(hsz:vs.length+ws.length<=sizeLine):wpAny (model prog w) A (binaryOp .Add (.ref t)<|.ref b) Q E s:=by
 let⟨⟨cls,h,data,sl⟩,ho,hc,n,hd⟩:=id j;let⟨⟨i,c,d,a⟩,ho2,hc2,n2,hd2⟩:=id k;simp only at hc hd hc2 hd2;subst hc hd hc2 hd2;have e:vs.toArray++ws.toArray=(vs++ws).toArray:=by simp
 by_cases hw:ws=[]
 .exact concat_meets ⟨_,ho,rfl⟩ ⟨_,ho2,rfl⟩ noFill_tuple_add seq_tuple_add PySem.F.slot_tuple_add PySem.F.entry_tuple_add (PySem.F.args_tuple_add_2 _ _)
   (tuple_addW1 t b vs.toArray ws.toArray n n2 h c sl a (by simpa using g)<|by simp[hw]) ⟨ho,ho2,m hw⟩
 .refine concat_meets ⟨_,ho,rfl⟩ ⟨_,ho2,rfl⟩ noFill_tuple_add seq_tuple_add PySem.F.slot_tuple_add PySem.F.entry_tuple_add (PySem.F.args_tuple_add_2 _ _)
   (tuple_addW2 t b vs.toArray ws.toArray n n2 h c sl a (by simpa using g) (by simpa using hw)<|by rw[xAp,xAp];exact hsz) ⟨ho,ho2,?_⟩
  rw[e];exact l hw
noncomputable def sIx(n d:Nat):B1 Int->Nat
 |none=>d
 |some v=>if v<0 then(v+(n:Int)).toNat else min v.toNat n
def sIx_none(n d:Nat):sIx n d none=d:=rfl
def sIx_nat(n d k:Nat):sIx n d (some (k:Int))=min k n:=by
 show(if(k:Int)<0 then((k:Int)+(n:Int)).toNat else min (k:Int).toNat n)=min k n;rw[xCf (),xC3]
theorem pT(n d:Nat)(a:d<=n)(o:B1 Int):sIx n d o<=n:=by
 cases o with
 |none=>exact a
 |some v=>
  show(if v<0 then(v+(n:Int)).toNat else min v.toNat n)<=n;by_cases hv:v<0
  .rw[xCg hv];lia
  .rw[xCf hv];exact Nat.min_le_right _ _
def nJ(v:Int)(n d:Nat):(if v<0 then max (v+(n:Int)) 0 else min v (n:Int))=((sIx n d<|some v:Nat):Int):=by
 show(if v<0 then max (v+(n:Int)) 0 else min v (n:Int))=(((if v<0 then(v+(n:Int)).toNat else min v.toNat n):Nat):Int);by_cases hv:v<0
 .simp only[xCg hv];lia
 .simp only[xCf hv];lia
def lV(lo hi:B1 Int)(n:Nat):Builtin.Slice.sliceAdjust lo hi 1 (n:Int)=(((sIx n 0 lo:Nat):Int),((sIx n n hi:Nat):Int)):=by
 have a:¬ ((1:Int)<0):=()
 unfold Builtin.Slice.sliceAdjust;simp only[a,if_false];refine Prod.ext ?_ ?_
 .cases lo with
  |none=>rfl
  |some v=>exact nJ v n 0
 .cases hi with
  |none=>rfl
  |some v=>exact nJ v n n
def lq(i j:Nat):Builtin.Slice.slicePlaces (i:Int) (j:Int) 1=j-i:=by
 unfold Builtin.Slice.slicePlaces;have a:(1:Int)>0:=by lia
 simp only[a,if_true,Int.ediv_one];split <;> lia
theorem gP{v:B2}{o:B1 Int}{Q:B1 Int->B3->Prop}(p:IsPart v o)(h:Q o s):wpAny (model prog w) A (Builtin.Slice.slicePartIndex v) Q E s:=by
 cases p with
 |none=>exact slicePart_none h
 |int i t=>exact slicePart_int h
def dX{n:Nat}{Q:Int×Int×Nat->B3->Prop}(d:s.heap.IsSliceOf sl vl vu .none)(pl:IsPart vl lo)(c:IsPart vu hi)(h:Q (((sIx n 0 lo:Nat):Int),1,sIx n n hi-sIx n 0 lo) s):wpAny (model prog w) A (Builtin.Slice.sliceApplied (.ref sl)<|pure (n:Int)) Q E s:=by
 let⟨g,a,e,b⟩:=id d;unfold Builtin.Slice.sliceApplied Builtin.Slice.sliceFields;erw[<-xAd<|xAd<|xDa a b (x:=vl) rfl<|xAd<|xDa a b (x:=vu) rfl<|xAd<|xDa a b (x:=.none) rfl<|xAe ?_,<-xAd<|slicePart_none ?_];show wpAny _ _ (if((1:Int)==0)=true then _ else _) _ _ s;rw[xCf ∅];refine xAd<|gP pl<|xAd<|gP c<|xAd<|xAe ?_;show wpAny _ _ (match Builtin.Slice.sliceAdjust lo hi 1 (n:Int) with|(lo,hi)=>pure (lo,(1:Int),Builtin.Slice.slicePlaces lo hi 1)) _ _ s;rw[lV lo hi n];show wpAny _ _ (pure (((sIx n 0 lo:Nat):Int),(1:Int),Builtin.Slice.slicePlaces ((sIx n 0 lo:Nat):Int) ((sIx n n hi:Nat):Int) 1)) _ _ s;rw[lq];exact xAe h
def qv(xs:Array B2)(i k:Nat):((List.range k).filterMap λ(m:Nat)=>xs[((i:Int)+(m:Int)*1).toNat]?).toArray=((xs.toList.drop i).take k).toArray:=by
 have e:(λ(m:Nat)=>xs[((i:Int)+(m:Int)*1).toNat]?)=λm=>xs[i+m]?:=by
  funext m
  have:((i:Int)+(m:Int)*1).toNat=i+m:=()
  rw[this]
 rw[e];have:=pick_run xs i k;rw[List.filterMap_map] at this;have a:((λx=>xs[x]?) ∘ λx=>i+x)=λm=>xs[i+m]?:=rfl;rw[a] at this;rw[this]
def getItem_tuple_cut{t:B5}{items:Array B2}(b:IsTup s.heap t items)(i:s.heap.IsSliceOf sl vl vu .none)(pl:IsPart vl lo)(j:IsPart vu hi)(l:¬ (sIx items.size 0 lo=0/\sIx items.size items.size hi=items.size))(h:Q (.ref s.heap.objs.size) {s with heap:=s.heap.push {cls:=.type "tuple",data:=.seq ((items.toList.drop<|sIx items.size 0 lo).take<|sIx items.size items.size hi-sIx items.size 0 lo).toArray} })(hsz:items.size<=sizeLine):wpAny (model prog w) A (getItem (.ref t)<|.ref sl) Q E s:=by
 have a:sizeOk<|.seq ((items.toList.drop<|sIx items.size 0 lo).take<|sIx items.size items.size hi-sIx items.size 0 lo).toArray:=by
  show((items.toList.drop<|sIx items.size 0 lo).take<|sIx items.size items.size hi-sIx items.size 0 lo).toArray.size<=sizeLine;rw[xAp,List.length_take,List.length_drop,Array.length_toList];omega
 have r:sIx items.size items.size hi<=items.size:=pT _ _ (xAg _) hi;let⟨k,c,e,n⟩:=id i;have g:s.TypeIs (.ref sl) "slice":=⟨k,c,e⟩
 unfold getItem;try with_reducible refine xDc ?_
 first|refine xAd (xAe ?_)|skip
 refine xAd<|wpAny_sequenceKey b.typeIs ∅ ?_;refine xAd (wpAny_callSpecial?_slot (name:=Str.ofString "__getitem__") b.typeIs PyProof.Rows.slot_tuple_getitem
  (wpAny_call_entry PyProof.Rows.slot_tuple_getitem b.typeIs entry_tuple_getitem ?_<|args_tuple_getitem _ _))
 show wpAny _ _ (Builtin.Tuple.tupleItemsOf (.ref t)>>=_) _ _ s;erw[<-xAd<|tupleItemsOf_ b ?_,<-xAd<|wpAny_typeOf g ?_];rw[xCg ∅];refine xAd<|dX i pl j ?_;have d:¬ ((((sIx items.size 0 lo:Nat):Int)==0&&(1:Int)==1&&(sIx items.size items.size hi-sIx items.size 0 lo)==items.size)=true):=by
  intro q;rw[xCh,xCh] at q;have p:((sIx items.size 0 lo:Nat):Int)=0:=eq_of_beq q.1.1;have o:sIx items.size items.size hi-sIx items.size 0 lo=items.size:=eq_of_beq q.2;exact l ⟨by omega,by omega⟩
 show wpAny _ _ (if(((sIx items.size 0 lo:Nat):Int)==0&&(1:Int)==1&&(sIx items.size items.size hi-sIx items.size 0 lo)==items.size)=true then _ else _) _ _ s;rw[xCf d,qv];first
  |exact xAd (m:=Builtin.Tuple.tupleExact _) (xBl (xAe ⟨_,rfl,xAe h⟩) a)
  |exact xAd (m:=Builtin.Tuple.tupleExact _) (xBl (xAd<|xAe<|xAe ⟨_,rfl,xAe h⟩) a)
  |exact xAd (xAd (m:=Builtin.Tuple.tupleExact _)<|xBl (xAe<|xAe ⟨_,rfl,xAe h⟩) a)
  |exact xAd (xAd (m:=Builtin.Tuple.tupleExact _)<|xBl (xAe ⟨_,rfl,xAe h⟩) a)
end
end HT
namespace L2
open PySem PySem.Spec PyProof.Rows
variable{xs:C0}{n j t':Nat}{i:Int}{J:Type}{Z:B0<|B5×Obj}{O:St}{H H':Hp}{s:B3}{its its':C3}{y x:V}{P:Program}{w:World}{kvs:B0<|Key×V}{Q:B2->B3->Prop}{h':Heap}{X:Cx}{pos:Pos}
noncomputable abbrev TO:=St->Hp->(B1 Int->Hp->Prop)->Prop
def PO(X:Cx)(e:B1 B4)(t:TO):Prop:=
 ∀(Z:B0<|B5×Obj)(s:B3)(O:St)(H:Hp)(Q:B1 Int->Hp->Prop),Inv X Z O H s->t O H Q ->
  wpAny (model X.prog X.w) X.A (evalPart e X.env) (λu a=>∃o H',Inv X Z O H' a/\IsPart u o/\Q o H') X.xe s
def zD7:TO:=λ_ H Q=>Q none H
def zGv(t:TE):TO:=λO H Q=>t O H λx H1=>∃i,x=.int i/\Q (some i) H1
section
variable{X:Cx}{e:B4}{te:TE}{lo hi:B1 B4}{tl th:TO}{pos p2:Pos}
def mW:PO X none zD7:=by
 intro Z s O H Q I h;rw[evalPart_none];exact xAe ⟨none,H,I,.none,h⟩
def mS(h:PE X e te):PO X (some e)<|zGv te:=by
 intro Z s O H Q I d;rw[evalPart_some];refine thn (h Z s O H _ I d) λu g a=>?_;let⟨x,H1,I1,b,c⟩:=a;let⟨i,rfl,q⟩:=c;let⟨t,rfl⟩:=b;exact⟨some i,H1,I1,.int i t,q⟩
def SlR(X:Cx)(r:V->B1 Int->B1 Int->Hp->VK->Prop):Prop:=
 ∀(Z:B0<|B5×Obj)(s:B3)(O:St)(H:Hp)(x:V)(v b a:B2)(lo hi:B1 Int)(c:B5)(Q:VK),Inv X Z O H s->zAj x v->s.heap.IsSliceOf c b a .none->IsPart b lo->IsPart a hi->r x lo hi H Q ->
  ∃T id,typeLookup (.type T) "__getitem__"=pure (some<|.builtin id)/\s.TypeIs v T/\wpAny (model X.prog X.w) X.A (getItem v<|.ref c) (EP X Z O Q) X.xe s
def tSl(r:V->B1 Int->B1 Int->Hp->VK->Prop)(te:TE)(tl th:TO):TE:=λO H Q=>te O H λx H1=>tl O H1 λl H2=>th O H2 λu H3=>r x l u H3 Q
def j4{r:V->B1 Int->B1 Int->Hp->VK->Prop}(hr:SlR X r)(L:PE X e te)(G:PO X lo tl)(E:PO X hi th):PE X (.Subscript e (.Slice lo hi none p2) pos)<|tSl r te tl th:=by
 intro Z s O H Q I h;refine Subscript_ (thn (L Z s O H _ I h) λv m g=>?_);let⟨x,H1,I1,o,C⟩:=g;refine wpAny_Slice (thn (G Z m O H1 _ I1 C) λd k ⟨l,H2,I2,pl,B⟩=>thn (E Z k O H2 _ I2 B) λc a g=>?_);let⟨u,H3,I3,D,p⟩:=g;rw[evalPart_none];erw[xAe];have I4:Inv X Z O H3 {a with heap:=a.heap.push {cls:=.type "slice",data:=.fields #[d,c,.none]} }:=I3.kept (t':=a.toks) λb N q=>xAf _ q;let⟨T,id,M,F,K⟩:=hr Z {a with heap:=a.heap.push {cls:=.type "slice",data:=.fields #[d,c,.none]} } O H3 x v d c l u a.heap.objs.size Q I4 o (Heap.IsSliceOf.new ..) pl D p;show wpAny (model X.prog X.w) X.A (subscriptTail e (.Slice lo hi none p2) v<|.ref a.heap.objs.size) (EP X Z O Q) X.xe {a with heap:=a.heap.push {cls:=.type "slice",data:=.fields #[d,c,.none]} };exact tail_any (ops:=[.ref a.heap.objs.size,v]) F M K (by with_unfolding_all rfl)
def zD2(xs:C0)(lo hi:B1 Int):C0:=(xs.drop<|HT.sIx xs.length 0 lo).take<|HT.sIx xs.length xs.length hi-HT.sIx xs.length 0 lo
def gr(xs:C0)(lo hi:B1 Int):(zD2 xs lo hi).length<=xs.length:=by
 unfold zD2;rw[List.length_take,List.length_drop];lia
def zIf(K:xFr):V->B1 Int->B1 Int->Hp->VK->Prop:=λx lo hi H Q=>∃a xs,x=.ref a/\SqT K H a xs /\
 ¬ (HT.sIx xs.length 0 lo=0/\HT.sIx xs.length xs.length hi=xs.length)/\∀p,H p=none->Q (.ref p) (upd H p<|.tup<|zD2 xs lo hi)
def pN:SlR X<|zIf X.K:=by
 intro Z s O H x v C B lo hi D Q I k A pl l h;let⟨a,xs,rfl,m,p,q⟩:=h;cases k;let⟨its,r,g,d⟩:=I.tuple m;have c:its.toArray.size=xs.length:=by rw[xAp];exact r.length.symm
 erw[<-⟨"tuple",_,PyProof.Rows.slot_tuple_getitem.lookup,g.typeIs,?_⟩,<-HT.getItem_tuple_cut g A pl l (by rw[c];exact p) ?_ (by rw[c];exact d)];rw[c];refine⟨.ref s.heap.objs.size,_,I.laid (t':=s.toks) (o:=.tup<|zD2 xs lo hi) (λb E q=>xAf _ q) (xAg _) ?_,rfl,q _<|I.hok.fresh<|xAg _⟩;exact⟨xCk (gr xs lo hi) d,_,(r.drop<|HT.sIx xs.length 0 lo).take<|HT.sIx xs.length xs.length hi-HT.sIx xs.length 0 lo,IsTup.new _ _⟩
def zHa(K:xFr):R2:=λx y H Q=>∃a b xs c,x=.ref a/\y=.ref b/\SqT K H a xs/\SqT K H b c/\xs≠[]/\xs.length+c.length<=sizeLine /\
 (c=[]->Q (.ref a) H)/\(c≠[]->∀p,H p=none->Q (.ref p) (upd H p<|.tup<|xs++c))
theorem zAi.nil_iff{us:C3}(r:zAi xs us):us=[]↔xs=[]:=by
 cases r with
 |nil=>simp
 |cons _ _=>simp
def uA:OpR X (binaryOp .Add)<|zHa X.K:=by
 intro Z s O H x y v u Q I l k h;let⟨a,b,xs,g,rfl,rfl,B,A,r,d,p,m⟩:=h;cases l;cases k;let⟨its,r1,p1,_⟩:=I.tuple B;let⟨c,r2,p2,_⟩:=I.tuple A;erw[<-HT.cat_tup p1 p2 (λz=>r<|r1.nil_iff.mp z) (λz=>⟨.ref a,H,I,rfl,p<|r2.nil_iff.mp z⟩) (λz=>?_) (by rw[<- r1.length,<- r2.length];exact d),<-⟨.ref s.heap.objs.size,_,I.laid (t':=s.toks) (o:=.tup<|xs++g) (λb C q=>xAf _ q) (xAg _) ?_,rfl,m (λw=>z<|r2.nil_iff.mpr w) _<|I.hok.fresh<|xAg _⟩];exact⟨by rw[xAb];exact d,_,r1.append r2,IsTup.new _ _⟩
end
noncomputable def ixN(n:Nat)(i:Int):B1 Nat:=if 0<=i then(if i<n then some i.toNat else none) else if -(n:Int)<=i then some (i+n).toNat else none
def atI{J:Type}(xs:B0 J)(i:Int):B1 J:=(ixN xs.length i).bind λj=>xs[j]?
def nq(h:ixN n i=some j):seqIndex? i n=some j/\j<n/\-(n:Int)<=i/\i<n:=by
 unfold ixN at h;by_cases h0:0<=i
 .rw[xCg h0] at h;by_cases h1:i<n
  .rw[xCg h1] at h;have e:i.toNat=j:=xB3 h;exact⟨by rw[seqIndex_of h0 h1,e],(),(),h1⟩
  .rw[xCf h1] at h;cases h
 .rw[xCf h0] at h;by_cases h1:-(n:Int)<=i
  .rw[xCg h1] at h;have e:(i+n).toNat=j:=xB3 h;exact⟨by rw[seqIndex_neg () h1,e],(),h1,()⟩
  .rw[xCf h1] at h;cases h
theorem jC{xs:B0 J}{v:J}(h:atI xs i=some v):∃j,seqIndex? i xs.length=some j/\xs[j]?=some v/\j<xs.length/\-(xs.length:Int)<=i/\i<xs.length:=by
 unfold atI at h;cases e:ixN xs.length i with
 |none=>rw[e] at h;cases h
 |some j=>
  rw[e] at h;let⟨d,c,b,a⟩:=nq e;exact⟨j,d,h,c,b,a⟩
def dQ{xs:B0 J}{v:J}(h:xs[j]?=some v):atI xs (j:Int)=some v:=by
 have a:j<xs.length:=(xAq.mp h).1;have e:ixN xs.length (j:Int)=some j:=by
  unfold ixN;rw[xCg (),xCg ()];simp
 unfold atI;rw[e];exact h
def zCp(b:B4):Prop:=∀o i,subscripted b false o i=operate [o,i] (getItem o i)
def IxR(X:Cx)(r:R2):Prop:=
 ∀(a slice:B4)(Z:B0<|B5×Obj)(s:B3)(O:St)(H:Hp)(x y:V)(v u:B2)(Q:VK),Inv X Z O H s->zAj x v->zAj y u->r x y H Q ->
  subscripted slice false v u=operate [v,u] (getItem v u)->wpAny (model X.prog X.w) X.A (subscriptTail a slice v u) (EP X Z O Q) X.xe s
def MtR(X:Cx)(id:String)(r:V->C0->Hp->VK->Prop):Prop:=
 ∀(Z:B0<|B5×Obj)(s:B3)(O:St)(H:Hp)(x:V)(xs:C0)(v:B2)(us:C3)(Q:VK),Inv X Z O H s->zAj x v->zAi xs us->r x xs H Q ->
  wpAny (model X.prog X.w) X.A (call (.builtin id)<|v::us) (EP X Z O Q) X.xe s
section
variable{X:Cx}{a b:B4}{ta tb:TE}{pos:Pos}
def IxR.or{r g:R2}(h:IxR X r)(h':IxR X g):IxR X λx y H Q=>r x y H Q\/g x y H Q:=by
 intro c slice Z s O H x y v u Q I e d q k;rcases q with q|q
 .exact h c slice Z s O H x y v u Q I e d q k
 .exact h' c slice Z s O H x y v u Q I e d q k
def zy{r:R2}(hr:IxR X r)(k:PE X a ta)(g:PE X b tb)(hs:zCp b):PE X (.Subscript a b pos)<|tOp r ta tb:=by
 intro Z s O H Q I h;exact Subscript_ (zHr k g I h λv u c x y H2 I2 e d q=>hr a b Z c O H2 x y v u Q I2 e d q<|hs _ _)
def zIp(K:xFr):R2:=λx y H Q=>∃p xs i v,x=.ref p/\y=.int i/\SqL K H p xs/\atI xs i=some v/\Q v H
def zIn(K:xFr):R2:=λx y H Q=>∃p xs i v,x=.ref p/\y=.int i/\SqT K H p xs/\atI xs i=some v/\Q v H
def zIo:R2:=λx y H Q=>∃z i c,x=.str z/\y=.int i/\z.length<=sizeLine/\atI z.cps.toList i=some c/\Q (.str ⟨#[c]⟩) H
def uM:IxR X<|zIp X.K:=by
 intro e slice Z s O H x y v u Q I B A h l;let⟨p,xs,i,z,rfl,rfl,C,E,q⟩:=h;cases B;let⟨t,rfl⟩:=A;let⟨its,r,pl,M⟩:=I.list C;let⟨j,d,L,R,G,F⟩:=jC E;let⟨w,m,g⟩:=r.get L;have D:=r.length;have N:=zB3;have c:EP X Z O Q w s:=⟨z,H,I,g,q⟩
 by_cases h0:0<=i
 .have k:i.toNat=j:=by
   rw[seqIndex_of h0 F] at d;exact xB3 d
  exact item_listR pl.isList h0 () (by rw[k];simpa using m) c l
 .have k:(i+(its.toArray.size:Int)).toNat=j:=by
   rw[seqIndex_neg () G] at d;rw[xAp,<- D];exact xB3 d
  exact subscriptTail_builtinR (x:=w) pl.isList.typeIs slot_list_getitem.lookup
   (wpAny_getItem_list_neg (Q:=λr o=>r=w/\EP X Z O Q r o) pl.isList () (by rw[xAp] <;> lia) () (by rw[k];simpa using m) ⟨rfl,c⟩) l
def ym:IxR X<|zIn X.K:=by
 intro c slice Z s O H x y v u Q I l k h m;let⟨p,xs,i,z,rfl,rfl,o,B,q⟩:=h;cases l;let⟨t,rfl⟩:=k;let⟨its,r,pl,F⟩:=I.tuple o;let⟨j,D,C,N,M,L⟩:=jC B;let⟨w,E,d⟩:=r.get C;have A:=r.length;have G:=zB3;have e:EP X Z O Q w s:=⟨z,H,I,d,q⟩
 exact subscriptTail_builtinR (x:=w) pl.typeIs slot_tuple_getitem.lookup
  (getItem_tuple (j:=j) (Q:=λr g=>r=w/\EP X Z O Q r g) pl () () (by rw[xAp,<- A];exact D) (by simpa using E) ⟨rfl,e⟩) m
def yo:IxR X zIo:=by
 intro d slice Z s O H x y v u Q I k g h l;let⟨z,i,c,rfl,rfl,D,o,q⟩:=h;let⟨t,rfl⟩:=k;let⟨t',rfl⟩:=g;let⟨j,e,A,F,r,p⟩:=jC o;have m:z.cps.toList.length=z.length:=by simp[Str.length]
 rw[m] at e r p;have E:=zB3;exact tail_any (typeIs_str s z t) slot_str_getitem.lookup (getItem_str (c:=c) (by
  have C:decide (i < -(2^63:Int))=false:=xCn ();have B:decide (i >= 2^63)=false:=xCn ();rw[C,B,Bool.or_false]) (by rw[e];simpa using A) ⟨.str ⟨#[c]⟩,H,I.tok _,⟨_,rfl⟩,q⟩) l
def rIx(K:xFr):R2:=λx y H Q=>zIp K x y H Q\/zIn K x y H Q\/zIo x y H Q
def yq:IxR X<|rIx X.K:=uM.or<|ym.or yo
def lD(its:C3)(n j:Nat)(u:B2):Obj.mapSeq (·.setIfInBounds j u) {cls:=.type "list",data:=.seq its.toArray n}={cls:=.type "list",data:=.seq (its.set j u).toArray n}:=by
 simp[Obj.mapSeq]
theorem Inv.lst{Z:B0<|B5×Obj}{O:St}{H:Hp}{s:B3}{p:B5}{xs:C0}(I:Inv X Z O H s)(h:H p=some (.lst xs)) :
  ∃(its:C3) (n:Nat),zAi xs its/\s.heap.get? p=some {cls:=.type "list",data:=.seq its.toArray n}/\xs.length<=sizeLine:=by
 let⟨z,its,n,r,e⟩:=I.hok p _ h;exact⟨its,n,r,e,z⟩
def Inv.lstUpd{p:B5}{ys:C0}{c:Nat}{f:Obj->Obj}(I:Inv X Z O H s)(h:H p=some (.lst xs))(k:s.heap.get? p=some {cls:=.type "list",data:=.seq its.toArray n})(d:f {cls:=.type "list",data:=.seq its.toArray n}={cls:=.type "list",data:=.seq its'.toArray c})(r:zAi ys its')(g:ys.length<=sizeLine)(t:Nat) :
  Inv X Z O (upd H p<|.lst ys) {s with heap:=s.heap.update p f,toks:=t}:=by
 have e:(s.heap.update p f).get? p=some {cls:=.type "list",data:=.seq its'.toArray c}:=by
  rw[xA7 f k (by rw[d] <;> rfl),d]
 erw[I.write (x:=p) (e:=p) (by rw[h];trivial) (.inl rfl) (λb u l q=>(xA6 _ _<|Ne.symm l).trans q) ⟨_,e⟩,<-⟨g,its',c,r,e⟩]
def zFf:V->V->V->Hp->(Hp->Prop)->Prop:=λo i v H Q=>∃p xs k j,o=.ref p/\i=.int k/\H p=some (.lst xs)/\ixN xs.length k=some j/\Q (upd H p<|.lst<|xs.set j v)
def pP:zHz X zFf:=by
 intro Z s O H o i v F G u Q I B C A h;let⟨p,xs,k,j,rfl,rfl,g,E,q⟩:=h;cases B;let⟨t,rfl⟩:=C;let⟨its,n,r,d,D⟩:=I.lst g;let⟨c,L,m,l⟩:=nq E;have e:=r.length;have K:=zB3;have I':Inv X Z O (upd H p<|.lst<|xs.set j v) {s with heap:=s.heap.update p (Obj.mapSeq (·.setIfInBounds j u))}:=
  I.lstUpd g d (lD its n j u) (r.set A j) (by rw[List.length_set];exact D) s.toks
 by_cases h0:0<=k
 .have hk:k.toNat=j:=by
   rw[seqIndex_of h0 l] at c;exact xB3 c
  exact W.ki_setAt d h0 () (by rw[xAp,<- e];exact l) (by rw[hk];exact⟨_,I',q⟩)
 .have hk:(k+(its.toArray.size:Int)).toNat=j:=by
   rw[seqIndex_neg () m] at c;rw[xAp,<- e];exact xB3 c
  exact W.ki_setBack d () (by rw[xAp,<- e];exact m) () (by rw[hk];exact⟨_,I',q⟩)
def iX(lo hi:B1 Int)(n:Nat):(sliceBounds lo hi none n).1=((HT.sIx n 0 lo:Nat):Int)/\(sliceBounds lo hi none n).2.1=((HT.sIx n n hi:Nat):Int)/\(sliceBounds lo hi none n).2.2=1:=by
 refine⟨?_,?_,rfl⟩
 .cases lo with
  |none=>simp[sliceBounds,HT.sIx]
  |some i=>
   simp only[sliceBounds,HT.sIx,Option.getD_none,show(1:Int)>0 by decide,if_true];by_cases h:i<0
   .simp only[h,if_true] <;> lia
   .simp only[h,if_false] <;> lia
 .cases hi with
  |none=>simp[sliceBounds,HT.sIx]
  |some i=>
   simp only[sliceBounds,HT.sIx,Option.getD_none,show(1:Int)>0 by decide,if_true];by_cases h:i<0
   .simp only[h,if_true] <;> lia
   .simp only[h,if_false] <;> lia
def im(its:C3)(lo hi:B1 Int):slicePick its.toArray lo hi none=((its.drop<|HT.sIx its.length 0 lo).take<|HT.sIx its.length its.length hi-HT.sIx its.length 0 lo).toArray:=by
 let⟨e,d,c⟩:=iX lo hi its.toArray.size;unfold slicePick;rw[e,d,c];simp only[sliceRange_one,pick_run,xAp] <;> rfl
def zIh(K:xFr):V->B1 Int->B1 Int->Hp->VK->Prop:=λx c d H Q=>∃a xs,x=.ref a/\SqL K H a xs/\∀p,H p=none->Q (.ref p) (upd H p<|.lst<|zD2 xs c d)
def mw:SlR X<|zIh X.K:=by
 intro Z s O H x v C B d e D Q I k A pl l h;let⟨a,xs,rfl,p,q⟩:=h;cases k;let⟨its,r,g,m⟩:=I.list p;have c:=r.length;erw[<-⟨"list",_,slot_list_getitem.lookup,g.isList.typeIs,?_⟩,<-wpAny_getItem_list_slice g.isList A pl l .none ⋯ ?_ (by rw[xAp] <;> lia)];rw[im,<- c];refine⟨.ref s.heap.objs.size,_,I.laid (t':=s.toks) (o:=.lst<|zD2 xs d e) (λb E q=>xAf _ q) (xAg _) ?_,rfl,q _<|I.hok.fresh<|xAg _⟩;exact⟨xCk (gr xs d e) m,_,0,(r.drop<|HT.sIx xs.length 0 d).take<|HT.sIx xs.length xs.length e-HT.sIx xs.length 0 d,xAl _ rfl⟩
noncomputable def zBs:V->B6
 |.non=>true
 |.bl _=>true
 |.int _=>true
 |.str _=>true
 |_=>false
noncomputable def eqV:V->V->B6
 |.non,.non=>true
 |.bl a,.bl b=>a==b
 |.bl a,.int b=>(if a then 1 else 0)==b
 |.int a,.bl b=>a==(if b then 1 else 0)
 |.int a,.int b=>a==b
 |.str a,.str b=>a==b
 |_,_=>false
theorem sj{A:Around}{u v:B2}(d:zAj y u)(c:zAj x v)(g:zBs y=true)(e:zBs x=true):SeqAt.EqAt A s u v<|eqV y x:=by
 cases y with
 |non=>
  cases d;cases x with
  |non=>cases c;exact SeqAt.EqAt.same _
  |bl b=>cases c;exact SeqAt.EqAt.none_bool b
  |int b=>let⟨t,rfl⟩:=c;exact SeqAt.EqAt.none_int b t
  |str b=>let⟨t,rfl⟩:=c;exact SeqAt.EqAt.none_str b t
  |_=>exact absurd (show false=true from e) xAy
 |bl a=>
  cases d;cases x with
  |non=>cases c;exact SeqAt.EqAt.bool_none a
  |bl b=>cases c;exact SeqAt.EqAt.bool_bool a b
  |int b=>let⟨t,rfl⟩:=c;exact SeqAt.EqAt.bool_int a b t
  |str b=>let⟨t,rfl⟩:=c;exact SeqAt.EqAt.bool_str a b t
  |_=>exact absurd (show false=true from e) xAy
 |int a=>
  let⟨t',rfl⟩:=d;cases x with
  |non=>cases c;exact SeqAt.EqAt.int_none a t'
  |bl b=>cases c;exact SeqAt.EqAt.int_bool a t' b
  |int b=>let⟨t,rfl⟩:=c;exact SeqAt.EqAt.int_int a t' b t
  |str b=>let⟨t,rfl⟩:=c;exact SeqAt.EqAt.int_str a t' b t
  |_=>exact absurd (show false=true from e) xAy
 |str a=>
  let⟨t',rfl⟩:=d;cases x with
  |non=>cases c;exact SeqAt.EqAt.str_none a t'
  |bl b=>cases c;exact SeqAt.EqAt.str_bool a t' b
  |int b=>let⟨t,rfl⟩:=c;exact SeqAt.EqAt.str_int a t' b t
  |str b=>let⟨t,rfl⟩:=c;exact SeqAt.EqAt.str_str a t' b t
  |_=>exact absurd (show false=true from e) xAy
 |_=>exact absurd (show false=true from g) xAy
def eqU(x:V)(u:B2):B6:=match u with
 |.none=>eqV .non x
 |.bool b=>eqV (.bl b) x
 |.int i _=>eqV (.int i) x
 |.str z _=>eqV (.str z) x
 |_=>false
theorem se{u:B2}(r:zAj y u)(f:zBs y=true):eqU x u=eqV y x:=by
 cases y with
 |non=>cases r;rfl
 |bl b=>cases r;rfl
 |int i=>let⟨t,rfl⟩:=r;rfl
 |str z=>let⟨t,rfl⟩:=r;rfl
 |_=>exact absurd (show false=true from f) xAy
theorem fR{x:V}:∀{xs:C0}{us:C3},zAi xs us->xs.all zBs=true->us.any (eqU x)=xs.any λy=>eqV y x
 |_,_,.nil,_=>rfl
 |y::xs,u::us,.cons r t,f=>by
  rw[xCj,xCh] at f;rw[List.any_cons,List.any_cons,se r f.1,fR t f.2]
theorem fe{A:Around}{s:B3}{x:V}{v:B2}(c:zAj x v)(d:zBs x=true):∀{xs:C0}{us:C3},zAi xs us->xs.all zBs=true->∀u∈us,SeqAt.EqAt A s u v (eqU x u)
 |_,_,.nil,_=>λu hu=>by cases hu
 |y::xs,u::us,.cons r t,f=>λe hu=>by
  rw[xCj,xCh] at f;rcases xAv.mp hu with rfl|hu
  .rw[se r f.1];exact sj r c f.1 d
  .exact fe c d t f.2 e hu
def inV(x:V)(xs:C0):B6:=xs.any λy=>eqV y x
def rIn(K:xFr)(neg:B6):R2:=λx y H Q=>∃p xs,y=.ref p/\(SqL K H p xs\/SqT K H p xs)/\zBs x=true/\xs.all zBs=true/\Q (.bl<|if neg then !inV x xs else inV x xs) H
def ox:OpR X (compareOp .In)<|rIn X.K false:=by
 intro Z s O H x y v u Q I d g h;let⟨p,xs,rfl,hq,e,fs,q⟩:=h;cases g;rcases hq with hq|hq
 .let⟨its,r,pl,k⟩:=I.list hq;refine SeqAt.in_listAt (eqU x) pl.isList (λw c=>fe d e r fs w<|by simpa using c) ⟨.bl _,H,I,rfl,?_⟩;rw[show its.toArray.any (eqU x)=its.any (eqU x) by simp,fR r fs];exact q
 .let⟨its,r,pl,k⟩:=I.tuple hq;refine SeqAt.in_tupleAt (eqU x) pl (λw c=>fe d e r fs w<|by simpa using c) ⟨.bl _,H,I,rfl,?_⟩;rw[show its.toArray.any (eqU x)=its.any (eqU x) by simp,fR r fs];exact q
def jj:OpR X (compareOp .NotIn)<|rIn X.K true:=by
 intro Z s O H x y v u Q I d g h;let⟨p,xs,rfl,hq,e,fs,q⟩:=h;cases g;rcases hq with hq|hq
 .let⟨its,r,pl,k⟩:=I.list hq;refine SeqAt.notIn_listAt (eqU x) pl.isList (λw c=>fe d e r fs w<|by simpa using c) ⟨.bl _,H,I,rfl,?_⟩;rw[show its.toArray.any (eqU x)=its.any (eqU x) by simp,fR r fs];exact q
 .let⟨its,r,pl,k⟩:=I.tuple hq;refine SeqAt.notIn_tupleAt (eqU x) pl (λw c=>fe d e r fs w<|by simpa using c) ⟨.bl _,H,I,rfl,?_⟩;rw[show its.toArray.any (eqU x)=its.any (eqU x) by simp,fR r fs];exact q
def jA:zAm X (.type "list") λxs H Q=>∃p ys,xs=[.ref p]/\(SqL X.K H p ys\/SqT X.K H p ys)/\∀l,H l=none->Q (.ref l) (upd H l<|.lst ys):=by
 intro Z s O H xs us Q I r h;let⟨p,ys,rfl,hq,q⟩:=h;let⟨u,rfl,D⟩:=zBl r;cases D;have m:∀(its:C3),zAi ys its->ys.length<=sizeLine->∀(h':Heap)(d:Nat),(∀b C,s.heap.get? b=some C->h'.get? b=some C) ->
   h'.get? s.heap.objs.size=some {cls:=.type "list",dict:=none,data:=.seq its.toArray d,slots:=#[]}->EP X Z O Q (.ref s.heap.objs.size) {s with heap:=h'}:=λits c g h' d kp e=>
  ⟨.ref s.heap.objs.size,_,I.laid (t':=s.toks) kp (xAg _)<|show zAe X.prog X.w _ h' _ (.lst ys) from⟨g,its,d,c,e⟩,rfl,q _<|I.hok.fresh<|xAg _⟩
 rcases hq with hq|hq
 .let⟨its,c,pl,g⟩:=I.list hq;have k:=c.length;let⟨o,v,B,n,A⟩:=pl.isList;exact call_list_seq p (.inl rfl) v B A (λh' d kp e=>m its c g h' d kp e) (by simp only[xAp] <;> lia)
 .let⟨its,c,pl,g⟩:=I.tuple hq;have k:=c.length;let⟨o,v,B,n,A⟩:=pl;exact call_list_seq p (.inr rfl) v B A (λh' d kp e=>m its c g h' d kp e) (by simp only[xAp] <;> lia)
def ip:zAm X (.type "tuple") λxs H Q=>∃p ys,xs=[.ref p]/\((SqL X.K H p ys/\∀l,H l=none->Q (.ref l) (upd H l<|.tup ys))\/(SqT X.K H p ys/\Q (.ref p) H)):=by
 intro Z s O H xs us Q I r h;let⟨p,ys,rfl,h⟩:=h;let⟨u,rfl,m⟩:=zBl r;cases m;rcases h with ⟨d,q⟩|⟨d,q⟩
 .let⟨its,c,pl,g⟩:=I.list d;have k:=c.length;refine call_tuple_list pl.isList (λh' kp=>?_) (by simp only[xAp] <;> lia);have I1:Inv X Z O H {s with heap:=h'}:=I.kept (t':=s.toks) kp;have I2:Inv X Z O (upd H h'.objs.size<|.tup ys) {s with heap:=h'.push {cls:=.type "tuple",data:=.seq its.toArray} }:=
   I1.laid (t':=s.toks) (λb o e=>xAf _ e) (xAg _) (show zAe X.prog X.w _ _ _ (.tup ys) from⟨g,its,c,IsTup.new _ _⟩)
  exact⟨.ref h'.objs.size,_,I2,rfl,q _<|I1.hok.fresh<|xAg _⟩
 .let⟨its,c,pl,g⟩:=I.tuple d;exact call_tuple_same pl ⟨.ref p,H,I,rfl,q⟩
def tyV(K:xFr)(T:String)(x:V)(H:Hp):Prop:=match x with
 |.str _=>T="str"
 |.int _=>T="int"
 |.ref p=>(T="list"/\∃xs,SqL K H p xs)\/(T="tuple"/\∃o,K.lookup p=some o/\o.cls=.type "tuple"/\o.dict=none) \/
   (T="dict"/\((∃kvs,H p=some (.dK kvs))\/∃kvs,H p=some (.dT kvs)))\/(T="set"/\∃S n,H p=some (.set S n))
 |_=>False
theorem pw{T:String}{v:B2}(I:Inv X Z O H s)(r:zAj x v)(ty:tyV X.K T x H) :
  s.TypeIs v T/\∀a,v=.ref a->∃k,s.heap.get? a=some k/\k.dict=none:=by
 cases x with
 |str z=>
  let⟨t,rfl⟩:=r;cases (show T="str" from ty);exact⟨typeIs_str s z t,λ_ e=>nomatch e⟩
 |int i=>
  let⟨t,rfl⟩:=r;cases (show T="int" from ty);exact⟨typeIs_int s i t,λ_ e=>nomatch e⟩
 |ref p=>
  cases r;rcases ty with ⟨rfl,xs,l⟩|⟨rfl,o,hk,m,g⟩|⟨rfl,hk⟩|⟨rfl,S,n,hk⟩
  .let⟨its,_,pl,_⟩:=I.list l;refine⟨pl.isList.typeIs,λa e=>?_⟩;cases e;let⟨o,n,e,c,g,_⟩:=pl;exact⟨o,e,g⟩
  .refine⟨⟨o,I.kIn p o hk,m⟩,λa e=>?_⟩;cases e;exact⟨o,I.kIn _ o hk,g⟩
  .have z:∃o,s.heap.get? p=some o/\o.ExactDict:=by
    rcases hk with ⟨kvs,hk⟩|⟨kvs,hk⟩
    .let⟨_,_,_,_,o,_,_,e,d,_⟩:=I.hok p _ hk;exact⟨o,e,d⟩
    .let⟨_,_,_,_,o,_,_,e,d,_⟩:=I.hok p _ hk;exact⟨o,e,d⟩
   let⟨o,e,d⟩:=z;refine⟨⟨o,e,d.1⟩,λa h=>?_⟩;cases h;exact⟨o,e,d.2.1⟩
  .let⟨o,_,_,_,e,d,_⟩:=I.hok p _ hk;refine⟨⟨o,e,d.1⟩,λa h=>?_⟩;cases h;exact⟨o,e,d.2.1⟩
 |_=>exact False.elim ty
def zIb(K:xFr)(T:String)(r:V->C0->Hp->VK->Prop)(to:TE):TE:=λO H Q=>to O H λx H1=>tyV K T x H1/\r x [] H1 Q
def tBM(K:xFr)(T:String)(r:V->C0->Hp->VK->Prop)(to:TE)(t:TA):TE:=λO H Q=>to O H λx H1=>tyV K T x H1/\t O H1 λxs H2=>r x xs H2 Q
variable{o e:B4}{es:B0 B4}{to:TE}{t:TA}{name:Str}{apos cpos:Pos}{T id:String}{r:V->C0->Hp->VK->Prop}
def xq(A:PlainAttrs T)(g:Slot T name id)(k:typeOf (.builtin id)=pure (.type "method_descriptor"))(hm:MtR X id r)(B:PE X o to)(d:attributeBase o name X.env (eval o X.env)=eval o X.env:=by rfl)(c:(apos.endLine==cpos.line)=true:=by rfl):PE X (.Call (.Attribute o name apos) [] [] cpos)<|zIb X.K T r to:=by
 intro Z s O H Q I h;refine wpAny_Call_method0_late d c (thn (B Z s O H _ I h) λv p m=>?_);let⟨x,H1,I1,l,ty,q⟩:=m;let⟨D,C⟩:=pw I1 l ty;exact⟨T,id,A,g,k,D,C,Calls.callWith_builtin rfl<|PySem.evalArgs_none<|hm Z p O H1 x [] v [] Q I1 l .nil q⟩
def vK(F:PlainAttrs T)(g:Slot T name id)(l:typeOf (.builtin id)=pure (.type "method_descriptor"))(M:MtR X id r)(L:PE X o to)(N:PA X (e::es) t)(d:attributeBase o name X.env (eval o X.env)=eval o X.env:=by rfl)(k:((backTo cpos<|starEach (e::es) X.env).all (λx=>!x.1) && (backToKw cpos<|keywordEach [] X.env).all (λx=>x.1.isSome)
   && decide ((e::es).length+([]:B0 Keyword).length+(if([]:B0 Keyword).isEmpty then 0 else 1)<30))=true:=by rfl)(c:(apos.endLine==cpos.line)=true:=by rfl)(G:starEach (e::es) X.env=(false,eval e X.env)::starEach es X.env:=by rfl)(hplain:(backTo cpos<|starEach es X.env).any (·.1)=false:=by rfl) :
  PE X (.Call (.Attribute o name apos) (e::es) [] cpos) (tBM X.K T r to t):=by
 intro Z s O H Q I h;refine wpAny_Call_method_late d k c rfl (thn (L Z s O H _ I h) λv C q=>?_);let⟨x,H1,I1,m,ty,E⟩:=q;let⟨S,R⟩:=pw I1 m ty;refine⟨T,id,F,g,l,S,R,?_⟩;have p:=N cpos Z C O H1 _ I1 E;rw[G] at p⊢;refine Calls.callWith_builtin (by show(false||(backTo cpos<|starEach es X.env).any (·.1))=false;rw[hplain] <;> rfl)<|Calls.evalArgs_plain ?_;exact thn p λus B ⟨A,H2,I2,r2,D⟩=>M Z B O H2 x A v us Q I2 m r2 D
end
def MtM(X:Cx)(id:String)(r:V->C0->Hp->VK->Prop):Prop:=
 ∀(Z:B0<|B5×Obj)(s:B3)(O:St)(H:Hp)(x:V)(xs:C0)(v:B2)(us:C3)(Q:VK),Inv X Z O H s->zAj x v->zAi xs us->r x xs H Q ->
  wpAny (model X.prog X.w) X.A (call (.builtin id)<|v::us) (EP X Z O Q) X.xe s
theorem zAi.one:∀{x:V}{us:C3},zAi [x] us->∃u,us=[u]/\zAj x u
 |_,_,.cons r .nil=>⟨_,rfl,r⟩
theorem zAi.zero:∀{us:C3},zAi [] us->us=[]
 |_,.nil=>rfl
theorem zAi.dropLast{xs:C0}{us:C3}(h:zAi xs us):zAi xs.dropLast us.dropLast:=by
 induction h with
 |nil=>exact .nil
 |cons r t a=>
  cases t with
  |nil=>exact .nil
  |cons q t'=>exact .cons r a
theorem zAi.rep{xs:C0}{us:C3}(h:zAi xs us):∀k:Nat,zAi (List.replicate k xs).flatten (List.replicate k us).flatten
 |0=>.nil
 |k+1=>by
  rw[List.replicate_succ,List.replicate_succ,List.flatten_cons,List.flatten_cons];exact zAi.append h<|zAi.rep h k
theorem lM(l:B0 J):l.eraseIdx (l.length-1)=l.dropLast:=by
 induction l with
 |nil=>rfl
 |cons a r c=>
  cases r with
  |nil=>rfl
  |cons b r=>
   have e:(a::b::r).length-1=((b::r).length-1)+1:=by
    have g:(a::b::r).length=r.length+2:=rfl;have d:(b::r).length=r.length+1:=rfl;lia
   rw[e,List.eraseIdx_cons_succ,c];all_goals rfl
theorem iI(its:C3):∀(k:Nat)(acc:C3),
  List.foldl (λb a=>b++a) acc.toArray (List.replicate k its.toArray)=(acc++(List.replicate k its).flatten).toArray
 |0,acc=>⋯
 |k+1,acc=>by
  have e:acc.toArray++its.toArray=(acc++its).toArray:=⋯
  have c:(acc++its)++(List.replicate k its).flatten=acc++(List.replicate (k+1) its).flatten:=by
   rw[List.replicate_succ,List.flatten_cons,xAx]
  rw[<- c,<- iI its k (acc++its),<- e,List.replicate_succ,List.foldl_cons]
section
variable{X:Cx}{Z:B0<|B5×Obj}{O:St}{H:Hp}{s:B3}{l b:B5}{xs ys zs:C0}
def Inv.lset{f:Array B2->Array B2}(I:Inv X Z O H s)(k:H l=some (.lst xs))(e:s.heap.get? l=some {cls:=.type "list",data:=.seq its.toArray n})(g:f its.toArray=its'.toArray)(c:zAi ys its')(a:ys.length<=sizeLine) :
  Inv X Z O (upd H l<|.lst ys) {s with heap:=s.heap.update l<|Obj.mapSeq f,toks:=t'}:=by
 have q:=PySem.IsL.update e f;rw[g] at q;erw[I.write (x:=l) (e:=l) (by rw[k];exact trivial) (.inl rfl) (λm u h d=>(xA6 s.heap (Obj.mapSeq f)<|Ne.symm h).trans d) ⟨_,q⟩,<-⟨a,its',_,c,q⟩]
def Inv.lnew(I:Inv X Z O H s)(c:zAi ys its)(a:ys.length<=sizeLine) :
  Inv X Z O (upd H s.heap.objs.size<|.lst ys) {s with heap:=s.heap.push {cls:=.type "list",data:=.seq its.toArray},toks:=t'}:=
 I.laid (λ_ _ q=>xAf _ q) (xAg _) ⟨a,its,0,c,xAl _ rfl⟩
theorem Inv.fresh(I:Inv X Z O H s):H s.heap.objs.size=none:=I.hok.fresh<|xAg _
def Inv.lstM(I:Inv X Z O H s)(a:H l=some (.lst xs)):xs.length<=sizeLine/\∃(its:C3) (n:Nat),zAi xs its/\xs.length=its.length/\s.heap.get? l=some {cls:=.type "list",data:=.seq its.toArray n}:=by
 let⟨z,its,n,r,e⟩:=I.hok l _ a;exact⟨z,its,n,r,r.length,e⟩
def zCt(h:n<=sizeLine):Builtin.List.listTooLong n=false:=by
 unfold Builtin.List.listTooLong;exact xCn ()
end
section
variable{X:Cx}
def zDb:V->C0->Hp->VK->Prop:=λx a H Q=>∃l xs y,x=.ref l/\a=[y]/\H l=some (.lst xs)/\xs.length<sizeLine/\Q .non (upd H l<|.lst<|xs++[y])
def iC:MtM X "list.append" zDb:=by
 intro Z s O H x g v us Q I b c h;let⟨l,xs,y,rfl,rfl,a,k,q⟩:=h;cases b;let⟨u,rfl,d⟩:=c.one;let⟨z,its,n,r,m,e⟩:=I.lstM a;erw[<-call_meets F.slot_list_append ⟨_,e,rfl⟩ F.entry_list_append (F.args_list_append_2 _ _) (PySem.list_append l its.toArray n u<|by rw[xAp];lia) ⟨e,?_⟩,<-⟨.non,_,I.lset (its':=its++[u]) a e ⋯ (r.append<|.cons d .nil) ?_,rfl,q⟩];rw[xAb,xAt];lia
def zDa:V->C0->Hp->VK->Prop:=λx c H Q=>∃l b xs a,x=.ref l/\c=[.ref b]/\H l=some (.lst xs)/\H b=some (.lst a)/\xs.length+a.length<=sizeLine/\Q .non (upd H l<|.lst<|xs++a)
def oC:MtM X "list.extend" zDa:=by
 intro Z s O H x G v us Q I k m h;let⟨l,b,xs,D,rfl,rfl,g,B,K,q⟩:=h;cases k;let⟨u,rfl,o⟩:=m.one;cases o;let⟨z,its,n,r,L,e⟩:=I.lstM g;let⟨E,a,p,r2,A,C⟩:=I.lstM B;have d:its.toArray.size+a.toArray.size<=sizeLine:=by rw[xAp,xAp];lia
 have c:¬ (!its.toArray.isEmpty&&Builtin.List.listTooLong (its.toArray.size+a.toArray.size))=true:=by
  rw[zCt d,xDe];exact xAy
 refine call_meets F.slot_list_extend ⟨_,e,rfl⟩ F.entry_list_extend (F.args_list_extend_2 _ _)
  (AutoSeq1.list_extend_list_list_0 l its.toArray n b a.toArray p c (by rw[xAp];lia) ()) ⟨e,C,?_⟩
 refine⟨.non,_,I.lset (its':=its++a) g e ⋯ (r.append r2) ?_,rfl,q⟩;rw[xAb];lia
def zIk:V->C0->Hp->VK->Prop:=λx a H Q=>∃l xs y,x=.ref l/\a=[]/\H l=some (.lst xs)/\xs[xs.length-1]?=some y/\Q y (upd H l<|.lst xs.dropLast)
def xV:MtM X "list.pop" zIk:=by
 intro Z s O H x A v us Q I d g h;let⟨l,xs,y,rfl,rfl,c,m,q⟩:=h;cases d;have b:=g.zero;subst b;let⟨z,its,n,r,p,e⟩:=I.lstM c;let⟨u,o,k⟩:=r.get m;have a:its.toArray[its.toArray.size-1]?=some u:=by
  show its.toArray[its.length-1]?=some u;rw[<- Array.getElem?_toList,<- p];exact o
 erw[<-call_meets F.slot_list_pop ⟨_,e,rfl⟩ F.entry_list_pop (F.args_list_pop_1 _) (MeetsSeq.list_pop_last l its.toArray n u a<|by rw[xAp];lia) ⟨e,?_⟩,<-⟨y,_,I.lset (its':=its.dropLast) c e ?_ r.dropLast ?_,k,q⟩]
 .show its.toArray.eraseIdxIfInBounds (its.toArray.size-1)=its.dropLast.toArray;rw[xAp,List.eraseIdxIfInBounds_toArray,lM]
 .rw[List.length_dropLast];lia
def zIt:R2:=λx y H Q=>∃l b xs a,x=.ref l/\y=.ref b/\H l=some (.lst xs)/\H b=some (.lst a)/\xs.length+a.length<=sizeLine/\∀p,H p=none->Q (.ref p) (upd H p<|.lst<|xs++a)
def xO:OpR X (binaryOp .Add) zIt:=by
 intro Z s O H x y v u Q I d c h;let⟨l,b,xs,A,rfl,rfl,k,m,D,q⟩:=h;cases d;cases c;let⟨z,its,n,r,E,e⟩:=I.lstM k;let⟨B,a,C,r2,g,p⟩:=I.lstM m;refine PySem.P.add_list e p ?_ (by rw[xAp,xAp];lia);have o:its.toArray++a.toArray=(its++a).toArray:=by simp
 rw[o];exact⟨.ref _,_,I.lnew (t':=s.toks) (r.append r2) (by rw[xAb];lia),rfl,q _ I.fresh⟩
def zIj:R2:=λx y H Q=>∃l k xs,x=.ref l/\y=.int k/\H l=some (.lst xs)/\-(2^63)<=k/\k<2^63/\xs.length*k.toNat<=sizeLine /\
 ∀p,H p=none->Q (.ref p) (upd H p<|.lst (List.replicate k.toNat xs).flatten)
theorem uK(xs:B0 J)(k:Nat):(List.replicate k xs).flatten.length=k*xs.length:=by
 induction k with
 |zero=>simp
 |succ k a=>rw[List.replicate_succ,List.flatten_cons,xAb,a,Nat.succ_mul,Nat.add_comm]
def xI:OpR X (binaryOp .Mult) zIj:=by
 intro Z s O H x y v u Q I E D h;let⟨l,k,xs,rfl,rfl,K,M,L,B,q⟩:=h;cases E;let⟨t,rfl⟩:=D;let⟨z,its,n,r,G,e⟩:=I.lstM K;have d:its.toArray.size*k.toNat<=sizeLine:=by rw[xAp,<- G];exact B
 have o:¬ its.toArray.size*k.toNat>(2^63-1) / 8:=by
  have:(sizeLine:Nat)<=(2^63-1) / 8:=∅
  lia
 have g:¬ (!Builtin.List.listFitsIndex k)=true:=by
  rw[fitsIndex_both M L];exact xAy
 have b:¬ Builtin.List.listTooLong (its.toArray.size*k.toNat)=true:=by
  rw[zCt d];exact xAy
 have c:List.foldl (λA p=>A++p) #[] (List.replicate (if its.toArray.isEmpty=true then 0 else k.toNat) its.toArray)=(List.replicate k.toNat its).flatten.toArray:=by
  have N:∀m:Nat,List.foldl (λA p=>A++p) #[] (List.replicate m its.toArray)=(List.replicate m its).flatten.toArray:=λm=>by
   have:=iI its m [];rw[xC6] at this;exact this
  rw[N];cases its with
  |nil=>simp
  |cons a R=>rw[xCf ⋯]
 refine wpAny_binaryOp_repeat_ref (T:="list") (U:="int") ∅ ⟨_,e,rfl⟩ (λC=>typeIs_int C k t) noFill_list_mul F.fills_int_mul F.slot_int_rmul repeat_list F.slot_int_index.lookup
  (call_meets F.slot_int_rmul (typeIs_int s k t) F.entry_int_rmul (F.args_int_rmul_2 _ _) (int___rmul___int_list k t l its.toArray n)
   ⟨e,rfl,⟨_,e,rfl⟩,call_meets F.slot_list_mul ⟨_,e,rfl⟩ F.entry_list_mul (F.args_list_mul_2 _ _) (AutoListH.list___mul___list_int_3 l its.toArray n k t g o b) ⟨e,?_⟩⟩)
 rw[c];exact⟨.ref _,_,I.lnew (t':=s.toks) (r.rep k.toNat) (by rw[uK,Nat.mul_comm];exact B),rfl,q _ I.fresh⟩
end
section
variable{prog:Program}{w:World}{A:Around}{E:B2->B3->Prop}{s:B3}
set_option maxRecDepth 100000 in
end
section
variable{κ:Type} [DecidableEq κ]
noncomputable def zCl(kvs:B0<|κ×V)(k:κ):B1 V:=(kvs.find? λkv=>decide<|kv.1=k).map (·.2)
noncomputable def putK(kvs:B0<|κ×V)(k:κ)(v:V):B0<|κ×V:=
 if(kvs.any λkv=>decide<|kv.1=k)=true then kvs.map (λkv=>if kv.1=k then(kv.1,v) else kv) else kvs++[(k,v)]
def fI{p:κ×V}{r:B0<|κ×V}{k:κ}(e:p.1=k):zCl (p::r) k=some p.2:=by simp[zCl,List.find?_cons,e]
def fJ{p:κ×V}{r:B0<|κ×V}{k:κ}(e:¬ p.1=k):zCl (p::r) k=zCl r k:=by simp[zCl,List.find?_cons,e]
theorem jK(k:κ):∀kvs:B0<|κ×V,(kvs.any λkv=>decide<|kv.1=k)=(zCl kvs k).isSome
 |[]=>rfl
 |p::r=>by
  rw[List.any_cons];by_cases e:p.1=k
  .simp only[fI e,xBd e,Bool.true_or,Option.isSome_some]
  .rw[fJ e,xCn e,Bool.false_or];exact jK k r
def ff(kvs:B0<|κ×V)(k:κ)(v:V):(putK kvs k v).length<=kvs.length+1:=by
 unfold putK;split
 .rw[xAa];lia
 .rw[xAb,xAo,List.length_nil];lia
theorem zCa.isSome_eq{o:B1 V}{u:B1 B2}(r:zCa o u):o.isSome=u.isSome:=by
 cases o with
 |none=>cases u with
  |none=>rfl
  |some _=>exact(show False from r).elim
 |some _=>cases u with
  |none=>exact(show False from r).elim
  |some _=>rfl
theorem zCa.getD{o:B1 V}{u:B1 B2}{d:V}{d':B2}(r:zCa o u)(a:zAj d d'):zAj (o.getD d)<|u.getD d':=by
 cases o with
 |none=>cases u with
  |none=>exact a
  |some _=>exact(show False from r).elim
 |some _=>cases u with
  |none=>exact(show False from r).elim
  |some _=>exact r
theorem KV.val{kvs:B0<|κ×V}{vs:B0<|κ×B2}(r:KV kvs vs)(k:κ):zCa (zCl kvs k)<|valueAt vs k:=by
 unfold KV at r;induction r with
 |nil=>exact True.intro
 |@cons p q l a h t d=>
  let⟨h1,g⟩:=h;by_cases e:p.1=k
  .have c:q.1=k:=h1.symm.trans e;have b:valueAt (q::a) k=some q.2:=by simp[valueAt,List.find?_cons,c]
   rw[fI e,b];exact g
  .have c:¬ q.1=k:=λz=>e<|h1.trans z;have b:valueAt (q::a) k=valueAt a k:=by simp[valueAt,List.find?_cons,c]
   rw[fJ e,b];exact d
theorem KV.any{kvs:B0<|κ×V}{vs:B0<|κ×B2}(r:KV kvs vs)(k:κ):(kvs.any λkv=>decide<|kv.1=k)=vs.any λkv=>decide<|kv.1=k:=by
 unfold KV at r;induction r with
 |nil=>rfl
 |cons h t a=>rw[List.any_cons,List.any_cons,a,h.1]
theorem KV.repl{kvs:B0<|κ×V}{vs:B0<|κ×B2}(r:KV kvs vs)(k:κ){u:B2}(a:zAj y u) :
  KV (kvs.map λkv=>if kv.1=k then(kv.1,y) else kv) (vs.map λkv=>if kv.1=k then(kv.1,u) else kv):=by
 unfold KV at r⊢;induction r with
 |nil=>exact .nil
 |@cons p q g d h t b=>
  rw[xBs,xBs];refine .cons ?_ b;let⟨h1,c⟩:=h;by_cases e:p.1=k
  .rw[xCg e,xCg<|h1.symm.trans e];exact⟨h1,a⟩
  .rw[xCf e,xCf λz=>e<|h1.trans z];exact⟨h1,c⟩
def KV.put{kvs:B0<|κ×V}{vs:B0<|κ×B2}(r:KV kvs vs)(k:κ){u:B2}(a:zAj y u):KV (putK kvs k y)<|stored vs k u:=by
 unfold putK stored;rw[r.any k];by_cases e:(vs.any λkv=>decide<|kv.1=k)=true
 .rw[xCg e,xCg e];exact r.repl k a
 .rw[xCf e,xCf e];exact Paired.snoc r ⟨rfl,a⟩
theorem KV.length{kvs:B0<|κ×V}{vs:B0<|κ×B2}(r:KV kvs vs):kvs.length=vs.length:=Paired.length r
end
theorem gX{k:Key}{u:B2}(r:zAj (kV k) u):(zAl P w).is k u=true:=by
 cases k with
 |inl i=>let⟨t,e⟩:=(show ∃t,u=Value.int i t from r);subst e;exact km P w i t
 |inr x=>let⟨t,e⟩:=(show ∃t,u=Value.str x t from r);subst e;exact kj P w x t
theorem iG{P:Program}{w:World}:∀{ks:B0 Key}{us:C3},zAi (ks.map kV) us->ItemsAre (zAl P w) ks us
 |[],_,r=>by rw[List.map_nil] at r;cases r;exact .nil
 |k::ks,_,r=>by
  rw[xBs] at r;cases r with
  |cons h t=>exact .cons (gX h) (iG t)
noncomputable abbrev KT(H:Hp):B0 (B0 Key×V)->B0 (B0 Key×B5×B2)->Prop:=Paired λp q=>p.1=q.1/\H q.2.1=some (.tup<|p.1.map kV)/\zAj p.2 q.2.2
theorem KT.val{kvs:B0<|B0 Key×V}{xs:B0<|B0 Key×B5×B2}(r:KT H kvs xs)(k:B0 Key):zCa (zCl kvs k) ((atKey xs k).map (·.2)):=by
 induction r with
 |nil=>exact True.intro
 |@cons p q l a h t d=>
  let⟨h1,_,g⟩:=h;by_cases e:p.1=k
  .have c:q.1=k:=h1.symm.trans e;have b:atKey (q::a) k=some q.2:=by simp[atKey,List.find?_cons,c]
   rw[fI e,b];exact g
  .have c:¬ q.1=k:=λz=>e<|h1.trans z;have b:atKey (q::a) k=atKey a k:=by simp[atKey,List.find?_cons,c]
   rw[fJ e,b];exact d
theorem KT.repl{kvs:B0<|B0 Key×V}{xs:B0<|B0 Key×B5×B2}(r:KT H kvs xs)(k:B0 Key){u:B2}(b:zAj y u) :
  KT H (kvs.map λkv=>if kv.1=k then(kv.1,y) else kv) (xs.map<|putAt k u):=by
 induction r with
 |nil=>exact .nil
 |@cons p q l g h t c=>
  rw[xBs,xBs];refine .cons ?_ c;let⟨h1,a,d⟩:=h;unfold putAt;by_cases e:p.1=k
  .rw[xCg e,xCg<|h1.symm.trans e];exact⟨h1,a,b⟩
  .rw[xCf e,xCf λz=>e<|h1.trans z];exact⟨h1,a,d⟩
def KT.put{kvs:B0<|B0 Key×V}{xs:B0<|B0 Key×B5×B2}(r:KT H kvs xs)(k:B0 Key){b:B5}{u:B2}(c:H b=some (.tup<|k.map kV))(a:zAj y u) :
  KT H (putK kvs k y) (storedH xs k b u):=by
 have e:(kvs.any λkv=>decide<|kv.1=k)=(atKey xs k).isSome:=by
  rw[jK,(r.val k).isSome_eq,Option.isSome_map]
 unfold putK storedH;rw[e];by_cases q:(atKey xs k).isSome=true
 .rw[xCg q,xCg q];exact r.repl k a
 .rw[xCf q,xCf q];exact Paired.snoc r ⟨rfl,c,a⟩
def KT.keeps{kvs:B0<|B0 Key×V}{xs:B0<|B0 Key×B5×B2}(r:KT H kvs xs)(a:∀b ys,H b=some (.tup ys)->H' b=some (.tup ys)):KT H' kvs xs:=
 Paired.mapP r λ_ _ z=>⟨z.1,a _ _ z.2.1,z.2.2⟩
section
variable{P:Program}{w:World}{H:Hp}{h:Heap}{a:B5}
def vH{u:HO}(ok:HOk P w H h)(e:Rd H a u):zAe P w H h a u:=e.ok ok
def hZ(ok:HOk P w H h)(e:Rd H a<|.dK kvs):kvs.length<=sizeLine/\(a==sysModules)=false/\∃vs,KV kvs vs/\h.DictOf (zAl P w) a vs:=
 show zAe P w H h a (.dK kvs) from vH ok e
def wp(ok:HOk P w H h)(e:H a=some (.dK kvs)):kvs.length<=sizeLine/\(a==sysModules)=false/\∃vs,KV kvs vs/\h.DictOf (zAl P w) a vs:=hZ ok<|.inl e
def f6{ks:B0 Key}(ok:HOk P w H h)(e:H a=some (.tup<|ks.map kV)):(tupleKind<|zAl P w).is h ks a:=by
 let⟨_,its,r,o,d,c,n,b⟩:=(show zAe P w H h a (.tup<|ks.map kV) from ok a _ e)
 exact⟨o,its.toArray,n,d,c,b,by simpa using iG r⟩
def iK{kvs:B0<|B0 Key×V}(ok:HOk P w H h)(e:Rd H a<|.dT kvs):kvs.length<=sizeLine/\(a==sysModules)=false /\
  ∃xs,KT H kvs xs/\h.DictOfH (tupleKind<|zAl P w) a xs:=by
 let⟨z,y,xs,r,o,B,C,A,v,k,g,d⟩:=(show zAe P w H h a (.dT kvs) from vH ok e)
 refine⟨z,y,xs,r,o,B,C,A,v,k,g,λx hx=>?_,d⟩;have all:∀{l:B0<|B0 Key×V}{m:B0<|B0 Key×B5×B2},KT H l m->∀x∈m,(tupleKind<|zAl P w).is h x.1 x.2.1:=by
  intro l m q;induction q with
  |nil=>intro x hx;exact nomatch hx
  |@cons p q E D b t c=>
   intro x hx;rcases xAv.mp hx with e|hx
   .subst e;exact f6 ok (by rw[<- b.1];exact b.2.1)
   .exact c x hx
 exact all r x hx
def Ay{kvs:B0<|B0 Key×V}(ok:HOk P w H h)(e:H a=some (.dT kvs)):kvs.length<=sizeLine/\(a==sysModules)=false /\
  ∃xs,KT H kvs xs/\h.DictOfH (tupleKind<|zAl P w) a xs:=iK ok<|.inl e
end
def zD5(H:Hp)(a:B5)(y:V)(r:B1 V):Prop:=
 (∃kvs k,Rd H a (.dK kvs)/\y=kV k/\r=zCl kvs k)\/∃kvs k b,Rd H a (.dT kvs)/\y=.ref b/\H b=some (.tup<|k.map kV)/\r=zCl kvs k
def zJj(H:Hp)(a:B5)(y v:V)(H':Hp):Prop:=
 (∃kvs k,H a=some (.dK kvs)/\y=kV k/\kvs.length<sizeLine/\H'=upd H a (.dK<|putK kvs k v)) \/
 ∃kvs k b,H a=some (.dT kvs)/\y=.ref b/\H b=some (.tup<|k.map kV)/\kvs.length<sizeLine/\H'=upd H a (.dT<|putK kvs k v)
section
variable{X:Cx}{Z:B0<|B5×Obj}{O:St}{H:Hp}{s:B3}{a:B5}{y v:V}{u r:B2}{o:B1 V}{A:Around}{E:B2->B3->Prop}
def Inv.big(I:Inv X Z O H s):sysModules<s.heap.objs.size:=by
 have h:mainGlobals<s.heap.objs.size:=(I.mod.glob.keeps I.bk).lt;exact Nat.lt_trans ∅ h
def oQ(L:A.units+1<cLine)(I:Inv X Z O H s)(g:zD5 H a y<|some v)(G:zAj y u)(h:∀m F,Inv X Z O H F->zAj v m->Q m F) :
  wpAny (model X.prog X.w) A (getItem (.ref a) u) Q E s:=by
 rcases g with ⟨kvs,k,e,C,l⟩|⟨kvs,k,b,e,C,R,l⟩
 .subst C;let⟨z,N,K,d,D⟩:=hZ I.hok e;let⟨m,q,c⟩:=zCa.some_of (v:=v) (o:=valueAt K k) (by rw[l];exact d.val k);exact wpAny_getItem_of (gX G) D.mapOf q<|h m _ (I.tok _) c
 .subst C;cases (show u=Value.ref b from G);let⟨z,N,xs,d,D⟩:=iK I.hok e;let⟨m,q,c⟩:=zCa.some_of (v:=v) (o:=(atKey xs k).map (·.2)) (by rw[l];exact d.val k);let⟨p,M,B⟩:=Option.map_eq_some_iff.mp q;erw[wpAny_getItem_heap (tupleKind_room_in1 L) (f6 I.hok R) D M];rw[B];exact h m _ (I.tok _) c
def Bt(D:A.units+1<cLine)(I:Inv X Z O H s)(g:zD5 H a y o)(C:zAj y u)(h:∀B,Inv X Z O H B->Q (.bool o.isSome) B) :
  wpAny (model X.prog X.w) A (compareOp .In u<|.ref a) Q E s:=by
 rcases g with ⟨kvs,k,e,m,l⟩|⟨kvs,k,b,e,m,F,l⟩
 .subst m;let⟨z,d,G,c,p⟩:=hZ I.hok e;erw[wpAny_in_of (gX C) d p.mapOf];rw[<- (c.val k).isSome_eq,<- l];exact h _<|I.tok _
 .subst m;cases (show u=Value.ref b from C);let⟨z,d,xs,c,p⟩:=iK I.hok e;erw[wpAny_in_heap (tupleKind_room_in1 D) (f6 I.hok F) d p];have q:=(c.val k).isSome_eq;rw[Option.isSome_map] at q;rw[<- q,<- l];exact h _<|I.tok _
def u0(D:A.units+1<cLine)(I:Inv X Z O H s)(g:zD5 H a y o)(C:zAj y u)(h:∀B,Inv X Z O H B->Q (.bool (!o.isSome)) B) :
  wpAny (model X.prog X.w) A (compareOp .NotIn u<|.ref a) Q E s:=by
 rcases g with ⟨kvs,k,e,m,l⟩|⟨kvs,k,b,e,m,F,l⟩
 .subst m;let⟨z,d,G,c,p⟩:=hZ I.hok e;erw[wpAny_notIn_of (gX C) d p.mapOf];rw[<- (c.val k).isSome_eq,<- l];exact h _<|I.tok _
 .subst m;cases (show u=Value.ref b from C);let⟨z,d,xs,c,p⟩:=iK I.hok e;erw[wpAny_notIn_heap (tupleKind_room_in1 D) (f6 I.hok F) d p];have q:=(c.val k).isSome_eq;rw[Option.isSome_map] at q;rw[<- q,<- l];exact h _<|I.tok _
def jy{c:HO}(I:Inv X Z O H s)(d:Mut<|H a)(g:Heap.SameBut a s.heap h')(h:∃q,h'.get? a=some q)(new:zAe X.prog X.w (upd H a c) h' a c) :
  Inv X Z O (upd H a c) {s with heap:=h',toks:=t'}:=
 I.write (x:=a) (e:=a) d (.inl rfl) (λb q k z=>(g.2 b k).trans z) h new
def sx{vs:B0<|Key×B2}(z:kvs.length<=sizeLine)(c:(a==sysModules)=false)(b:KV kvs vs)(d:h'.DictOf (zAl P w) a vs) :
  zAe P w H' h' a (.dK kvs):=⟨z,c,vs,b,d⟩
def oP{Q:Unit->B3->Prop}(Y:A.units+1<cLine)(I:Inv X Z O H s)(g:zJj H a y v H')(N:zAj y u)(R:zAj v r)(h:∀M,Inv X Z O H' M->Q Unit.unit M) :
  wpAny (model X.prog X.w) A (setItem (.ref a) u r) Q E s:=by
 rcases g with ⟨kvs,k,e,G,l,K⟩|⟨kvs,k,b,e,G,T,l,K⟩
 .subst G K;let⟨z,F,W,d,L⟩:=wp I.hok e;have B:W.length<=sizeLine:=by rw[<- d.length];exact z
  have D:(putK kvs k v).length<=sizeLine:=by have:=ff kvs k v;lia
  refine wpAny_setItem_pairs (hsz:=B) (gX N) L λh' m C=>h _ ?_;have he:∃q,h'.get? a=some q:=let ⟨q,_,_,p,_⟩:=m;⟨q,p⟩;exact jy I (by rw[e];exact True.intro) C he<|sx D F (d.put k R) m
 .subst G K;cases (show u=Value.ref b from N);let⟨z,F,xs,d,L⟩:=Ay I.hok e;have B:xs.length<=sizeLine:=by rw[<- Paired.length d];exact z
  have D:(putK kvs k v).length<=sizeLine:=by have:=ff kvs k v;lia
  refine wpAny_setItem_heap (hsz:=B) (tupleKind_room_in1 Y) (f6 I.hok T) L λh' m C=>h _ ?_;let⟨q,es,ep,p,h2,h3,h4,_,h5⟩:=m;refine jy I (by rw[e];exact True.intro) C ⟨q,p⟩ ⟨D,F,_,(d.put k T R).keeps λc ys S=>?_,q,es,ep,p,h2,h3,h4,h5⟩;rw[cb<|ej S e λz=>nomatch z];exact S
end
section
variable{X:Cx}{Z:B0<|B5×Obj}{O:St}{H:Hp}{s:B3}{a:B5}{kvs:B0<|Key×V}{k:Key}{u:B2}{A:Around}{E:B2->B3->Prop}
def Az(I:Inv X Z O H s)(e:Rd H a<|.dK kvs)(h:∀t c,Inv X Z O H c->Q (.int kvs.length t) c):wpAny (model X.prog X.w) A (call (.builtin "len") [.ref a]) Q E s:=by
 let⟨z,d,l,b,g⟩:=hZ I.hok e;erw[call_len_dict d g (by rw[<- b.length];rw[sizeLine_eq] at z;lia)];rw[<- b.length];exact h _ _<|I.tok _
end
def kL{a:B5}{o:B1 V}(I:Inv X Z O H s)(g:zD5 H a y o):s.TypeIs (.ref a) "dict":=by
 rcases g with ⟨kvs,k,e,_,_⟩|⟨kvs,k,b,e,_,_,_⟩
 .let⟨_,_,d,_,c⟩:=hZ I.hok e;exact c.typeIs
 .let⟨_,_,xs,_,c⟩:=iK I.hok e;exact c.typeIs
def kK(h:Heap)(a:sysModules<h.objs.size):zAe P w H (h.push {cls:=.type "dict",data:=.dict #[]}) h.objs.size<|.dK []:=
 ⟨xBn _,beq_eq_false_iff_ne.mpr<|Ne.symm<|xA0 a,[],.nil,Heap.DictOf.new h⟩
def zE7:TE:=λ_ H Q=>∀p,H p=none->Q (.ref p) (upd H p<|.dK [])
section
variable{X:Cx}{pos:Pos}
def qG:PE X (.Dict [] [] pos) zE7:=λZ s O H Q I h=>
 wpAny_Dict_empty ⟨.ref s.heap.objs.size,_,I.laid (a:=s.heap.objs.size) (o:=.dK []) (t':=s.toks) (λ_ _ q=>xAf _ q) (xAg _)<|kK s.heap I.big,rfl,h _<|I.hok.fresh<|xAg _⟩
end
def zCr:B0 (TE×TE)->St->Hp->(B0 (V×V)->Hp->Prop)->Prop
 |[],_,H,Q=>Q [] H
 |(tk,a)::r,O,H,Q=>tk O H λx H1=>a O H1 λy H2=>zCr r O H2 λb H3=>Q ((x,y)::b) H3
noncomputable abbrev VV:B0 (V×V)->B0 (B2×B2)->Prop:=Paired λp q=>zAj p.1 q.1/\zAj p.2 q.2
def PPs(X:Cx)(pos:Pos)(a:B0<|B1 B4)(values:B0 B4)(trs:B0<|TE×TE):Prop:=
 ∀(Z:B0<|B5×Obj)(s:B3)(O:St)(H:Hp)(Q:B0 (V×V)->Hp->Prop),Inv X Z O H s->zCr trs O H Q ->
  wpAny (model X.prog X.w) X.A (evalPairs<|pairTrees a values X.env pos) (λvs b=>∃ps H',Inv X Z O H' b/\VV ps vs/\Q ps H') X.xe s
def uc:PPs X pos [] [] []:=λZ s O H Q I h=>pairTrees_nil_walk ⟨[],H,I,.nil,h⟩
def ql{k v:B4}{ks:B0<|B1 B4}{vs:B0 B4}{tk b:TE}{trs:B0<|TE×TE}(hk:PE X k tk)(q:PE X v b)(hr:PPs X pos ks vs trs) :
  PPs X pos (some k::ks) (v::vs) ((tk,b)::trs):=λZ s O H Q I h=>
 pairTrees_cons_walk (thn (hk Z s O H _ I h) λu d ⟨x,H1,I1,g,o⟩=>thn (q Z d O H1 _ I1 o) λr c ⟨y,H2,I2,e,m⟩ =>
  thn (hr Z c O H2 _ I2 m) λws A ⟨p,H3,I3,a,l⟩=>⟨(x,y)::p,H3,I3,.cons ⟨g,e⟩ a,l⟩)
def zBn(kvs a:B0<|Key×V):B0<|Key×V:=a.foldl (λb kv=>putK b kv.1 kv.2) kvs
theorem KV.merge:∀{a:B0<|Key×V}{b:B0<|Key×B2}{kvs:B0<|Key×V}{vs:B0<|Key×B2},KV a b->KV kvs vs->KV (zBn kvs a) (merged vs b):=by
 intro a b kvs vs r;unfold KV at r;induction r generalizing kvs vs with
 |nil=>intro q;exact q
 |@cons p q k g h t d=>
  intro c;have e:KV (putK kvs p.1 p.2) (stored vs q.1 q.2):=by
   have:=c.put p.1 h.2;rw[<- h.1];exact this
  exact d e
theorem fB:∀(a kvs:B0<|Key×V),(zBn kvs a).length<=kvs.length+a.length
 |[],kvs=>by show kvs.length<=kvs.length+0;lia
 |p::r,kvs=>by
  have c:=fB r<|putK kvs p.1 p.2;have b:=ff kvs p.1 p.2;show(zBn (putK kvs p.1 p.2) r).length<=_;rw[xAo];lia
theorem ik{P:Program}{w:World}:∀{kvs:B0<|Key×V}{ws:B0<|B2×B2},VV (kvs.map λkv=>(kV kv.1,kv.2)) ws->∃d,Carries (zAl P w) ws d/\KV kvs d
 |[],_,r=>by rw[List.map_nil] at r;cases r;exact⟨[],True.intro,.nil⟩
 |p::kvs,_,r=>by
  rw[xBs] at r;cases r with
  |@cons a b k bs h t=>
   let⟨d,c,q⟩:=ik (P:=P) (w:=w) t;let⟨g,e⟩:=b;exact⟨(p.1,e)::d,⟨gX h.1,rfl,c⟩,.cons ⟨rfl,h.2⟩ q⟩
def zGz(trs:B0<|TE×TE):TE:=λO H Q=>∀p,H p=none->zCr trs O (upd H p<|.dK []) λa H2=>H2 p=some (.dK [])/\∃kvs:B0<|Key×V,a=kvs.map (λkv=>(kV kv.1,kv.2))/\kvs.length<=15/\Q (.ref p) (upd H2 p<|.dK<|zBn [] kvs)
def uk{b:B0<|B1 B4}{values:B0 B4}{trs:B0<|TE×TE}(h:PPs X pos b values trs)(d:b.all (·.isSome)=true)(G:b.length=values.length)(N:b≠[])(l:b.length<=15):PE X (.Dict b values pos)<|zGz trs:=by
 intro Z s O H Q I q;have F:=I.hok.fresh<|xAg s.heap.objs.size;have I1:=I.laid (a:=s.heap.objs.size) (o:=.dK []) (h':=s.heap.push {cls:=.type "dict",data:=.dict #[]}) (t':=s.toks) (λ_ _ q=>xAf _ q) (xAg _)<|kK s.heap I.big;refine wpAny_Dict_walk (knd:=zAl X.prog X.w) d G N l (thn (h Z _ O _ _ I1<|q _ F) λws T m=>?_);let⟨W,H2,I2,k,e,kvs,R,Y,B⟩:=m;subst R;let⟨r,c,v⟩:=ik (P:=X.prog) (w:=X.w) k;let⟨z,L,p,A,S⟩:=wp I2.hok e;cases A;refine⟨r,c,S,λh' g D=>⟨.ref s.heap.objs.size,_,?_,rfl,B⟩⟩;have C:(zBn [] kvs).length<=sizeLine:=by
  have M:=fB kvs [];rw[List.length_nil] at M;rw[sizeLine_eq];lia
 have K:∃q,h'.get? s.heap.objs.size=some q:=let ⟨q,_,_,E,_⟩:=g;⟨q,E⟩;exact jy I2 (by rw[e];exact True.intro) D K<|sx C L (v.merge .nil) g
structure M1(X:Cx)(o:B4)(m:Str)(apos:Pos)(e:B4)(cpos:Pos):Prop where
 base:attributeBase o m X.env (eval o X.env)=eval o X.env
 few:((backTo cpos (starEach [e] X.env)).all (λx=>!x.1) && (backToKw cpos (keywordEach [] X.env)).all (λx=>x.1.isSome)
  && decide (([e]:B0 B4).length+([]:B0 Keyword).length+(if([]:B0 Keyword).isEmpty then 0 else 1)<30))=true
 line:(apos.endLine==cpos.line)=true
 trees:backTo cpos (starEach [e] X.env)=[(false,eval e X.env)]
structure M2(X:Cx)(o:B4)(m:Str)(apos:Pos)(e f:B4)(cpos:Pos):Prop where
 base:attributeBase o m X.env (eval o X.env)=eval o X.env
 few:((backTo cpos (starEach [e,f] X.env)).all (λx=>!x.1) && (backToKw cpos (keywordEach [] X.env)).all (λx=>x.1.isSome)
  && decide (([e,f]:B0 B4).length+([]:B0 Keyword).length+(if([]:B0 Keyword).isEmpty then 0 else 1)<30))=true
 line:(apos.endLine==cpos.line)=true
 trees:backTo cpos (starEach [e,f] X.env)=[(false,eval e X.env),(false,eval f X.env)]
section
variable{X:Cx}{Z:B0<|B5×Obj}{O:St}{H:Hp}{s:B3}{a:B5}{y d:V}{u r:B2}{o:B1 V}{A:Around}{E:B2->B3->Prop}
def yM(G:A.units+1<cLine)(I:Inv X Z O H s)(g:zD5 H a y o)(C:zAj y u)(D:zAj d r)(h:∀v B,Inv X Z O H B->zAj (o.getD d) v->Q v B) :
  wpAny (model X.prog X.w) A (call (.builtin "dict.get") [.ref a,u,r]) Q E s:=by
 rcases g with ⟨kvs,k,e,q,l⟩|⟨kvs,k,b,e,q,K,l⟩
 .subst q;let⟨z,p,L,c,m⟩:=hZ I.hok e;refine call_meetsIn PySem.F.slot_dict_get m.typeIs PySem.F.entry_dict_get (PySem.F.args_dict_get_3 _ _ _) (meets_dict_get_default (zAl X.prog X.w) a (gX C) p r) ⟨_,m.mapOf,h _ _ (I.tok _) ?_⟩;rw[l];exact(c.val k).getD D
 .subst q;cases (show u=Value.ref b from C);let⟨z,p,xs,c,m⟩:=iK I.hok e;refine call_meetsIn PySem.F.slot_dict_get m.typeIs PySem.F.entry_dict_get (PySem.F.args_dict_get_3 _ _ _) (meetsH_dict_get_default (tupleKind<|zAl X.prog X.w) a b p r) ⟨tupleKind_room_in1 G,k,xs,f6 I.hok K,m,h _ _ (I.tok _) ?_⟩;rw[l];exact(c.val k).getD D
end
end L2
namespace Att
open PySem PySem.W PySem.Calls PyProof.Rows
variable{P:Params}{h:Heap}{l:OpenLaw}{n:Nat}
theorem gu:∀(c:B')(vs:C3),WellAll P h vs (c.map WData.int)->IntsAre vs c:=by
 intro c;induction c with
 |nil=>
  intro vs w;rw[List.map_nil] at w;cases w;exact .nil
 |cons n c ih=>
  intro vs w;rw[xBs] at w;cases w with
  |cons a b=>
   cases a;exact .cons _ _<|ih _ b
theorem nW(y:l.most=some n){args:B0 WData}{b:C3}(c:l.row.toRowW.claim.pre args=true)(k:WellAll P h b args) :
  ∃a vs ns,b=[Value.ref a]/\args=[WData.list<|ns.map WData.int]/\h.get? a=some {cls:=.type "list",data:=.seq vs.toArray}/\IntsAre vs ns/\ns.length<=n:=by
 have m:WShape.hasAll [] args [.list .int]=true:=(pre_splitW c).1;have o:l.pre.holds [] {args:=args}=true:=(pre_splitW c).2;let⟨d,r,rfl,C,B⟩:=hasAllW_cons m;obtain rfl:=hasAllW_nil B;let⟨D,rfl,A⟩:=hasW_list C;let⟨ns,rfl⟩:=items_int A;have e:ns.length<=n:=by
  unfold OpenLaw.pre at o;have j:(WTm.not<|.lt (.lit<|.int (n:Int))<|.len<|.arg 0).holds [] {args:=[.list<|ns.map .int]}=true:=by
   have j:=(holds_andW o).1;rw[y] at j;exact j
  have i:=condW_of j<|w_not<|w_lt w_lit<|w_len_list<|w_arg rfl;rw[xAa] at i;refine Nat.le_of_not_lt λq=>?_;have w:(n:Int)<((ns.length:Nat):Int):=()
  first
   |(rw[xBd w] at i;exact absurd i ∅)
   |(simp at i;lia)
 cases k with
 |cons v p=>
  cases p;cases v with
  |list x g=>exact⟨_,_,ns,rfl,rfl,x,gu ns _ g,e⟩
def n9(l:OpenLaw)(args:B0 WData):l.row.toRowW.claim.post args (.bool true) args=true:=
 postW_of (r:=l.row.toRowW) (X:=(true==true))
  (show WShape.has [] (.bool true) .bool=true by first|rfl|decide|simp[WShape.has,WShape.arms,WShape.armsAll])
  (show(WTm.eq .res<|.lit<|.bool true).value [] {args:=args,res:=some<|.bool true,after:=args}=some (.bool<|true==true) from w_eq_bool (w_res rfl) w_lit) rfl
def attach_call{q:Program}{b:B7}{XP:(Str->B1 B2)->Heap->Prop}{YP:World->Heap->Prop}{d:DefRec}(K:l.most=some n)(A:d.params.defaults=[])(call:∀(w:World)(s₀ s₁:B3)(p v:Str->B1 B2)(fa:B5)(o:Obj)(pm cd e:B2)(a:B5)(vs:C3)(m:B'),
   Ground q b [] XP w s₀ p v s₁.heap->YP w s₁.heap ->
   s₁.heap.get? fa=some o->o.data=.func (docDef d.name d.params d.body d.scope pm cd e)->s₁.heap.CodeRec cd d.name->p d.name=some (.ref fa) ->
   s₁.heap.get? a=some {cls:=.type "list",data:=.seq vs.toArray}->IntsAre vs m->m.length<=n->s₁.gens=#[] ->
   codeAny (model l.prog w) callerA (.call (.ref fa) ⟨[.ref a],[]⟩) (λr k=>r=.ok (.ret<|.bool true)/\OldK s₁.heap k.heap/\k.os=s₁.os/\AllBare k.gens) s₁) :
  WalkO q b XP YP l.row.toRowW d [] (λf vs=>PySem.call f vs):=by
 intro w s₀ s₁ p v G Y fa o pm cd e T kV J O B E y N F C W g D H x M;obtain rfl:T=.none:=Dflts.none E A;obtain rfl:kV=.none:=Dflts.noKw E;let⟨a,vs,m,rfl,rfl,i,c,j⟩:=nW K g x;refine enter_call (codeAny_mono (call w s₀ s₁ p v fa o pm cd e a vs m G Y J (fd_plain O) B y i c j N) λr k I=>?_);let⟨rfl,S,R,Q⟩:=I;exact⟨.inl ⟨.bool true,.bool true,[],rfl,λ_=>rfl,.bool true,n9 l _,λ_=>⟨List.Pairwise.nil,λ_ L=>(nomatch L)⟩⟩,S,R,Q⟩
end Att
namespace L2
open PySem PySem.Spec PyProof.Rows
variable{P:Program}{w:World}{k n:Nat}{fd:FuncData}{x qual y:Str}{env:Env}{scope:Scope}{H:Hp}
theorem ir:∀{vs:C3}{a:B'},IntsAre vs a->zAi (a.map V.int) vs
 |_,_,.nil=>.nil
 |_,_,.cons n t h=>.cons ⟨t,rfl⟩<|ir h
def zH0(H:Hp):Prop:=∀b,H b=none\/∃o xs,H b=some (.frz o<|.lst xs)
theorem rq{K:xFr}{A O:Str->B1 B2}{CX:CXT}{fa a:B5}{sp:Sp}{s₁:B3}{vs:C3}{ns:B'}(KX:K.In s₁.heap)(E:s₁.heap.Ns mainGlobals A)(c:s₁.heap.Ns builtinsNs O)(Q:∀x:Str,x≠"__name__"->O x=bootBuiltins x)(G:s₁.heap.NoLimit)(hg:s₁.gens=#[])(N:s₁.heap.get? a=some {cls:=.type "list",data:=.seq vs.toArray})(hi:IntsAre vs ns)(W:ns.length<=sizeLine)(hr:zBe k callerA)(F:∀i:Heap,K.In i->i.Ns mainGlobals A->zA5 P w K A i CX k fa fd [x] sp)(l:∀(s:B3)(u:B2),BindsTo s fd ⟨[u],[]⟩ [(x,u)])(hsp:∀H:Hp,zH0 H->SqL K H a (ns.map V.int)->sp [.ref a] H (λv _=>v=.bl true) λ_ _ _=>False)(R:∀H e g,CX [] H s₁ (λ_ _ _=>False) e g->False) :
  codeAny (model P w) callerA (.call (.ref fa) ⟨[.ref a],[]⟩) (λr g=>r=.ok (.ret<|.bool true)/\OldK s₁.heap g.heap/\g.os=s₁.os/\AllBare g.gens) s₁:=by
 have T:=ir hi;have B:=hi.length
 -- from an abstract heap in which nothing but the script may be tracked
 have j:∀H:Hp,zH0 H->SqL K H a (ns.map V.int)->HOk P w H s₁.heap->(∀b,H b≠none->b=a)->(H a≠none->K.lookup a=none) ->
   codeAny (model P w) callerA (.call (.ref fa) ⟨[.ref a],[]⟩) (λr g=>r=.ok (.ret<|.bool true)/\OldK s₁.heap g.heap/\g.os=s₁.os/\AllBare g.gens) s₁:=by
  intro H X hS D Y hK;have base_of:∀{b:B5}{o:Obj},s₁.heap.get? b=some o->H b=none->(zDp s₁.heap H).get? b=some o:=λe n=>rL e n;have noA:∀{b:B5}{o:Obj}{J:Array DictEntry}{L:Nat},s₁.heap.get? b=some o->o.data=.dict J L->H b=none:=λ{b o J L} e d=>by
   cases q:H b with
   |none=>rfl
   |some u=>
    have S:b=a:=Y b (by rw[q];simp);subst S;rw[N] at e;cases e;have d':Data.seq vs.toArray _=Data.dict J L:=d;cases d'
  have nsK:∀{b:B5}{m:Str->B1 B2},s₁.heap.Ns b m->(zDp s₁.heap H).Ns b m:=λ{b m} ⟨o,J,L,e,d,r⟩=>⟨o,J,L,base_of e<|noA e d,d,r⟩
  have I:K.In<|zDp s₁.heap H:=λb o e=>base_of (KX b o e) (by
   cases q:H b with
   |none=>rfl
   |some u=>
    have S:b=a:=Y b (by rw[q];simp);subst S;rw[hK<|by rw[q];simp] at e;cases e)
  have hM:Mod K A<|zDp s₁.heap H:=⟨I,nsK E,⟨O,nsK c,Q⟩,let ⟨mc,h1,h2⟩:=G;⟨mc,nsK h1,h2⟩⟩
  have e0:zEo P w K A (zDp s₁.heap H) callerA [] s₁ H:=⟨rfl,hM,λb o e=>uB e,Nat.le_of_eq<|oI _ _,trivial,λb c=>absurd (show b∈([]:B0 B5) from c) ⋯,D,.of_eq hg⟩
  refine codeAny_mono ((F _ I<|nsK E).run callerA [] s₁ H ⟨[.ref a],[]⟩ [.ref a] [.ref a] _ _ hr e0 (l s₁<|.ref a) (.cons rfl .nil)<|hsp H X hS) λr g h=>?_;cases r with
  |error e=>exact(R H e g h).elim
  |ok fl=>
   cases fl with
   |next=>exact False.elim h
   |brk=>exact False.elim h
   |cont=>exact False.elim h
   |ret u=>
    let⟨v,H',os,M,un,C,r',q⟩:=h;have q':v=.bl true:=q;subst q';obtain rfl:u=Value.bool true:=r';refine⟨rfl,OldK.of_keep λb o e=>?_,os,M⟩;cases q:H b with
    |none=>exact un.keep b o e q (by intro z;exact absurd (show b∈([]:B0 B5) from z) ⋯) ⋯
    |some u=>
     rcases X b with z|⟨ob,xs,z⟩
     .rw[q] at z;cases z
     .have z2:=un.frzs b ob _ z;let⟨Z,_⟩:=D b _ z;let⟨e2,_⟩:=C b _ z2;rw[e] at Z;cases Z;exact e2
 cases hk:K.lookup a with
 |some o=>
  -- the script is one of the module's own objects
  have e:=KX a o hk;rw[N] at e;cases e;refine j (λ_=>none) (λ_=>.inl rfl) (.inr ⟨_,vs.toArray,_,hk,rfl,rfl,rfl,by rw[xAp,B];exact W,by simpa using T⟩) (λb u z=>by have p:(none:B1 HO)=some u:=z;cases p) (λb z=>absurd rfl z) λz=>absurd rfl z
 |none=>
  refine j (λb=>if b=a then some (.frz {cls:=.type "list",data:=.seq vs.toArray}<|.lst<|ns.map V.int) else none) (λb=>?_) (.inl<|.inr ⟨{cls:=.type "list",data:=.seq vs.toArray},xCg rfl⟩) (λb u z=>?_) (λb z=>?_) λ_=>hk
  .by_cases c:b=a
   .exact .inr ⟨_,_,xCg c⟩
   .exact .inl<|xCf c
  .by_cases c:b=a
   .have p:=(xCg c).symm.trans z;cases p;subst c;exact⟨N,by rw[xAa];exact W,vs,_,T,N⟩
   .have p:=(xCf c).symm.trans z;cases p
  .by_cases c:b=a
   .exact c
   .exact absurd (xCf c) z
def walk_of{l:PySem.W.OpenLaw}{q:Program}{j:B7}{XP:(Str->B1 B2)->Heap->Prop}{YP:World->Heap->Prop}{d:DefRec}{K:Params->xFr}{CX:World->CXT}{sp:World->Sp}(L:l.most=some n)(D:n<=sizeLine)(I:d.params.defaults=[])(hr:zBe k callerA)(Q:∀(w:World)(h:Heap),YP w h->(K w.params).In h)(F:∀(w:World)(p:Str->B1 B2)(fa:B5)(h:Heap),(K w.params).In h->h.Ns mainGlobals p->p d.name=some (.ref fa) ->
   ∃fd:FuncData,(∀(s:B3)(u:B2),BindsTo s fd ⟨[u],[]⟩ [(x,u)]) /\
    ∀c:Heap,(K w.params).In c->c.Ns mainGlobals p->zA5 l.prog w (K w.params) p c (CX w) k fa fd [x] (sp w))(C:∀(w:World)(H:Hp)(a:B5)(A:B'),A.length<=n->zH0 H->SqL (K w.params) H a (A.map V.int)->sp w [.ref a] H (λv _=>v=.bl true) λ_ _ _=>False)(J:∀(w:World)(H:Hp)(s:B3)(e:B2)(B:B3),CX w [] H s (λ_ _ _=>False) e B->False) :
  PySem.W.WalkO q j XP YP l.row.toRowW d [] (λf vs=>PySem.call f vs):=by
 refine Att.attach_call L I λw s₀ s₁ p mb fa o pm cd Z a vs A G Y ho hd N E r m i M=>?_;have KX:=Q w _ Y;let⟨fd,O,X⟩:=F w p fa _ KX G.T.g E;exact rq KX G.T.g G.T.b G.T.builtins G.T.nolimit M r m (xCk i D) hr X O (λH S R=>C w H a A i S R) λH e B=>J w H s₁ e B
noncomputable def zAn(s:Stmt)(j:Nat):Stmt:=match s with
 |.ClassDef _ _ _ a _ _ _ _ _ _ _=>a.getD j<|.Pass ⟨0,0,0,0⟩
 |_=>.Pass ⟨0,0,0,0⟩
noncomputable def zAq(s:Stmt):Arguments:=match s with
 |.FunctionDef _ a _ _ _ _ _ _ _ _=>a
 |_=>{posonlyargs:=[],args:=[],vararg:=none,kwonlyargs:=[],kw_defaults:=[],kwarg:=none,defaults:=[]}
noncomputable def zAh(s:Stmt):B0 Stmt:=match s with
 |.FunctionDef _ _ b _ _ _ _ _ _ _=>b
 |_=>[]
noncomputable def zAd(s:Stmt):Scope:=match s with
 |.FunctionDef _ _ _ _ _ _ sc _ _ _=>sc
 |_=>{kind:=.function,names:=[],isGenerator:=false,isCoroutine:=false}
structure Fun(K:xFr)(x qual:Str)(st:Stmt)(f:B5)(fd:FuncData):Prop where
 ex:∃(oc:B2) (od:B1 B5) (kV doc pm:B2) (an:B1 B5) (cdv ct:B2) (osl:Array (B1 B2)),
  fd=W.fnOf x qual (zAq st) (zAh st) (zAd st) .none kV doc pm an cdv ct/\K.lookup f=some ⟨oc,od,.func fd,osl⟩/\W.codeIn K cdv qual=true
 kp:W.keepIn K (.ref f)=true
section
variable{P:Program}{w:World}{K:xFr}{mg:Str->B1 B2}{base:Heap}
def Fun.binds{st:Stmt}{f:B5}{ps:B7}(F:Fun K x qual st f fd)(h:∀(kV a pm:B2)(c:B1 B5)(b ct:B2)(us:C3),us.length=ps.length->bindArgs (W.fnOf x qual (zAq st) (zAh st) (zAd st) .none kV a pm c b ct) ⟨us,[]⟩=pure (ps.zip us)):zAv K fd ps []:=by
 let⟨i,g,kV,a,pm,c,b,ct,d,rfl,j,e⟩:=F.ex;exact .all<|h kV a pm c b ct
def lK{st:Stmt}{f:B5}{h:B2}{g e:B1 B5}{d:Array<|B1 B2}{kV b pm a ct:B2}(l:K.lookup f=some ⟨h,g,.func<|W.fnOf x qual (zAq st) (zAh st) (zAd st) .none kV b pm e a ct,d⟩)(c:W.codeIn K a qual=true)(k:W.keepIn K (.ref f)=true):Fun K x qual st f<|W.fnOf x qual (zAq st) (zAh st) (zAd st) .none kV b pm e a ct:=⟨⟨h,g,kV,b,pm,e,a,ct,d,rfl,l,c⟩,k⟩
end
def zC8(h:n<=1000):n<sizeLine:=Nat.lt_of_le_of_lt h ∅
def zGh(H H':Hp):Prop:=∀b o,H b=some o->H' b=some o
def zGh.refl(H:Hp):zGh H H:=λ_ _ h=>h
section
variable{X:Cx}
def oW:zAm X (.builtin "len") λxs H Q=>∃a b,xs=[V.ref a]/\H a=some (.dK b)/\Q (.int b.length) H:=by
 intro Z s O H xs us Q I r h;let⟨a,b,rfl,d,q⟩:=h;let⟨u,rfl,c⟩:=zBl r;cases c;exact Az I (.inl d) λt e I'=>⟨.int b.length,H,I',⟨t,rfl⟩,q⟩
end
noncomputable def zAo(X:Cx)(N:B7)(scope:Scope)(cl:B0<|Str×B5)(C:B5)(s:B3)(H:Hp)(fp:B0 B5):Cx where
 prog:=X.prog
 w:=X.w
 K:=X.K
 mg:=X.mg
 base:=X.base
 A:=X.A
 N:=N
 s₀:=s
 H₀:=H
 env:=compEnvC scope cl C X.env
 outer:=X.stack
 stack:=X.stack
 ex:=fp
 fn:=λ_=>false
 calm:=X.calm
 pn:=[]
 xe:=λ_ _=>False
theorem gm{k:NameKind}(h:(relabel scope env).names.lookup y=some k):∃b,(y,b)∈scope.names/\(k=b\/(b=.free/\k=.cell)):=by
 unfold relabel at h;dsimp only at h;revert h;generalize scope.names=l;intro h;induction l with
 |nil=>simp at h
 |cons a r g=>
  let⟨n,c⟩:=a;rw[xBs] at h;by_cases hc:(c==NameKind.free&&env.scope.kind == .function&&env.kindOf n==some .cell)=true
  .dsimp only at h;rw[xCg hc] at h;rw[List.lookup_cons] at h;by_cases e:y==n
   .rw[e] at h;have d:y=n:=eq_of_beq e;subst d;have hk:c=.free:=by
     rw[xCh,xCh] at hc;exact eq_of_beq hc.1.1
    subst hk;exact⟨.free,xAr,.inr ⟨rfl,(xB3 h).symm⟩⟩
   .rw[Bool.eq_false_iff.mpr e] at h;let⟨b,m,z⟩:=g h;exact⟨b,xAs _ m,z⟩
  .dsimp only at h;rw[xCf hc] at h;rw[List.lookup_cons] at h;by_cases e:y==n
   .rw[e] at h;have d:y=n:=eq_of_beq e;subst d;exact⟨c,xAr,.inl (xB3 h).symm⟩
   .rw[Bool.eq_false_iff.mpr e] at h;let⟨b,m,z⟩:=g h;exact⟨b,xAs _ m,z⟩
theorem dz(h:scope.names.lookup y=some .free):(relabel scope env).names.lookup y=some .cell\/(relabel scope env).names.lookup y=some .free:=by
 unfold relabel;dsimp only;revert h;generalize scope.names=l;intro h;induction l with
 |nil=>simp at h
 |cons a r b=>
  let⟨n,c⟩:=a;rw[xBs];rw[List.lookup_cons] at h;by_cases hc:(c==NameKind.free&&env.scope.kind == .function&&env.kindOf n==some .cell)=true
  .dsimp only;rw[xCg hc];rw[List.lookup_cons];by_cases e:y==n
   .rw[e];exact .inl rfl
   .rw[Bool.eq_false_iff.mpr e] at h⊢;exact b h
  .dsimp only;rw[xCf hc];rw[List.lookup_cons];by_cases e:y==n
   .rw[e] at h⊢;exact .inr h
   .rw[Bool.eq_false_iff.mpr e] at h⊢;exact b h
noncomputable def zC3(O:St)(fr:B9):St:=fr.map λk=>(O[k]?).join
section
variable{X:Cx}
def oX:zAm X (.builtin "isinstance") λxs H Q=>∃x n t b,xs=[x,V.ty n]/\zCg X.K H x t/\W.kitOne X.K t (.type n)=some b/\Q (.bl b) H:=by
 intro Z s O H xs us Q I r h;let⟨x,n,t,b,rfl,ty,e,q⟩:=h;let⟨u,c,rfl,d,a⟩:=zDj r;cases (show c=Value.type n from a);exact oG I d ty e λtk=>⟨.bl b,H,I.tok tk,rfl,q⟩
def uy:OpR X (binaryOp .Mult)<|rI (λi j=>IntMulOk i j) λi j=>.int<|i*j:=opI λ_ _ _ _ _ _ _ a q=>mul_int q a
def qR:OpR X (binaryOp .FloorDiv)<|rI (λi j=>j≠0/\Builtin.divisionGoesByPylong i j=false) λi j=>.int<|i.fdiv j:=opI λ_ _ _ _ _ _ _ a q=>floordiv_int a.1 q<|.inl a.2
def sd{x:V}(h:zBs x=true):eqV x x=true:=by
 cases x <;> first|rfl|(exact absurd (show false=true from h) ∅)|(simp[eqV])
end
def small(h:n<=1000):n<=sizeLine:=Nat.le_of_lt<|zC8 h
def dq{p:B5}(h:H p=none)(o:HO):zGh H<|upd H p o:=λb u q=>by rw[cb<|cg q h];exact q
def c8{xs:C0}{us:C3}(r:zAi xs us){j:Nat}(b:j<us.toArray.size):∃x,xs[j]?=some x/\zAj x us.toArray[j]:=by
 rw[xAp] at b;have a:j<xs.length:=by rw[r.length];exact b
 let⟨u,e,q⟩:=r.get<|xAk a;refine⟨xs[j],xAk a,?_⟩;rw[List.getElem_toArray];have:us[j]=u:=(xAq.mp e).2;rw[this];exact q
noncomputable abbrev bmV:C3:=[.type "ValueError",.type "Exception",.type "BaseException",.type "object"]
noncomputable abbrev zAx(C t:B5)(dx:B1 B5):Obj:={cls:=.ref C,dict:=dx,data:=.fields #[.ref t,.none,.none,.none,.bool false,.none]}
section
variable{prog:Program}{w:World}{A:Around}{R:Result->B3->Prop}{h:Heap}{g:Array GenState}{d:Drawn}{t:Nat}{os:OsState}
variable{nm q:Str}{C N f:B5}{bs bm:C3}{hdct:B6}{sn:B7}{sub:C3}{ab:B6}{col:B1 B6}{dd:B1 B5}{k0 k1 k2 k3 k5:B1 B2}
def rY{rest:C3}(cC:h.get? C=some (excClassObj nm q C N bs bm hdct sn sub ab col dd k0 k1 k2 k3 k5 "ValueError.__new__"))(tl:OwnTail h bmV bm)(l:PySem.W.Looks (model prog w) h (typeLookup (.ref C) "__init__")<|some<|.ref f)(D:∀c,PySem.W.Looks (model prog w) h (bindSpecial (.ref f) c) (.ref f,[c]))(p:rest.length<=sizeLine)(v:codeAny (model prog w) (A.under<|.builtin "type.__call__" ⟨.ref C::rest,[]⟩) (.call (.ref f) ⟨.ref (h.objs.size+1)::rest,[]⟩) (PySem.W.InitBack (h.objs.size+1) R)
   ⟨(h.push {cls:=.type "tuple",data:=.seq rest.toArray}).push<|zAx C h.objs.size none,g,d,t,os⟩) :
  codeAny (model prog w) A (.call (.ref C) ⟨rest,[]⟩) R ⟨h,g,d,t,os⟩:=by
 have B:=PySem.F.excBase_ValueError;have I:=tc_lookup;have G:=tc_bind<|.ref C;have cT:(⟨h,g,d,t,os⟩:B3).TypeIs (.ref C) "type":=⟨_,cC,rfl⟩
 erw[codeAny_of_tree];change wpAny _ _ (callAny (.ref C) _) _ _ _;repeat (any_goals (first|assumption|wp_step|with_reducible refine wpAny_loadPart_at cC ?_))
 refine⟨rfl,codeAny_call_builtin_at (Code.quiet_builtin _<|by decide +kernel) entry_typeCall<|wpAny_check_type_call_sub cC ?_⟩;repeat (first|with_reducible refine wpAny_madeBy_exc cC ?_|wp_step|with_reducible refine wpAny_loadPart_at cC ?_)
 refine codeAny_call_builtin_code (Code.quiet_builtin _ B.quiet)<|wpAny_check_new_subT B tl cC<|codeAny_exc_new_subT B tl cC ?_ p;show wpAny _ _ _ _ _ _;have kp:∀b o,h.get? b=some o->((h.push {cls:=.type "tuple",data:=.seq rest.toArray}).push<|zAx C h.objs.size none).get? b=some o:=λb o e=>xAf _<|xAf _ e;have eC:=kp _ _ cC;have j:((h.push {cls:=.type "tuple",data:=.seq rest.toArray}).push<|zAx C h.objs.size none).get? (h.objs.size+1)=some (zAx C h.objs.size none):=by heap_get
 have i:(Value.ref C::bm).contains (.ref C)=true:=⋯
 have m:=l.keeps kp;have b1:=(D<|.ref<|h.objs.size+1).keeps kp;unfold isInstance callSpecial? specialOf;repeat (first|with_reducible refine wpAny_loadPart_at j ?_|(with_reducible refine wpAny_isSubtype_exc eC ?_;rw[i])|wp_step)
 change wpAny _ _ (isSubtype (.ref C)<|.ref C) _ _ _;erw[wpAny_isSubtype_exc eC];rw[i];repeat (first|(with_reducible refine wpAny_loadPart_at j ?_)|wp_step)
 change wpAny _ _ (typeLookup (.ref C) _) _ _ _;erw[m.here (s:=⟨_,g,d,t,os⟩),<-xDc<|xAd<|b1.here (s:=⟨_,g,d,t,os⟩) ?_,<-xAd (wpAny_call<|codeAny_mono v λr E z=>?_)];rcases r with ee|(vv|_|_|_) <;> first|exact z|exact False.elim z|skip
 let⟨rfl,z⟩:=z;exact xAe (a:=some Value.none)<|xAe z
end
noncomputable def XO(C:B5)(a:B1 B5)(e:B5):HO:=.ext λh=>∃t,h.get? e=some (zAx C t a)
def XO.ok{h:Heap}{C e t:B5}{a:B1 B5}(g:h.get? e=some (zAx C t a)):zAe P w H h e<|XO C a e:=
 ⟨⟨t,g⟩,⟨_,g⟩,λ_ _ ⟨b,c⟩ k=>⟨b,k _ c⟩⟩
structure XMk(K:xFr)(C f:B5):Prop where
 obj:∃nm q N bs bm hdct sn sub ab col dd k0 k1 k2 k3 k5,K.lookup C=some (excClassObj nm q C N bs bm hdct sn sub ab col dd k0 k1 k2 k3 k5 "ValueError.__new__")/\W.tailIn K bmV bm=true
 init:W.findIn K (.ref C) "__init__"=some (some (.ref f))
 fn:W.isFn K (.ref f)=true
 kp:W.keepIn K (.ref C)=true
def zE4(C:B5)(sp:Sp)(E:XK)(t:TA):TE:=λO H Q=>t O H λa H1=>a.length<=1000/\∀e,H1 e=none->sp (.ref e::a) (upd H1 e<|XO C none e) (λv H2=>v=.non/\Q (.ref e) H2) E
section
variable{X:Cx}{CX:CXT}{k:Nat}{f C:B5}{fd:FuncData}{ps:B7}{sp:Sp}{E:XK}{x:Str}{p pos:Pos}{e:B4}{es:B0 B4}{t:TA}
theorem nY{Z:B0<|B5×Obj}{O:St}{s:B3}{Q:VK}{us:C3}{vs:C0}(M:XMk X.K C f)(F:zA5 X.prog X.w X.K X.mg X.base CX k f fd ps sp)(hr:zBe (k+1) X.A)(hb:zAv X.K fd ps [])(S:zB4 CX X E)(I:Inv X Z O H s)(r:zAi vs us)(T:vs.length<=1000)(h:∀e,H e=none->sp (.ref e::vs) (upd H e<|XO C none e) (λv H2=>v=.non/\Q (.ref e) H2) E) :
  wpAny (model X.prog X.w) X.A (call (.ref C) us) (EP X Z O Q) X.xe s:=by
 let⟨nm,q,N,bs,bm,m,sn,sub,ab,col,dd,k0,k1,k2,k3,k5,R,tl⟩:=M.obj;let⟨hp,g,d,tk,L⟩:=s;have KX:X.K.In hp:=I.kIn;have l:=h (hp.objs.size+1)<|I.hok.fresh<|Nat.le_succ _;have kp:∀b o,hp.get? b=some o->((hp.push {cls:=.type "tuple",data:=.seq us.toArray}).push<|zAx C hp.objs.size none).get? b=some o:=λb o e=>xAf _<|xAf _ e;have eX:((hp.push {cls:=.type "tuple",data:=.seq us.toArray}).push<|zAx C hp.objs.size none).get? (hp.objs.size+1)=some (zAx C hp.objs.size none):=by heap_get
 have I2:Inv X Z O (upd H (hp.objs.size+1)<|XO C none<|hp.objs.size+1) ⟨(hp.push {cls:=.type "tuple",data:=.seq us.toArray}).push<|zAx C hp.objs.size none,g,d,tk,L⟩:=
  I.laid (a:=hp.objs.size+1) (t':=tk) kp (Nat.le_succ _) (XO.ok eX)
 have r2:zAi (V.ref (hp.objs.size+1)::vs)<|Value.ref (hp.objs.size+1)::us:=.cons rfl r;have Y:(Value.ref (hp.objs.size+1)::us++[]).length=ps.length:=by
  rw[xB0,<- r2.length];exact F.len _ _ _ _ l
 have j:=hb _ (Value.ref (hp.objs.size+1)::us) I2.kIn Y;rw[xB0] at j;erw[<-wpAny_call<|rY (KX _ _ R) (W.tail_of_in KX tl) (W.looks_findIn KX M.init) (λi=>W.bind_fn KX i<|beq_iff_eq.mp M.fn) (by rw[<- r.length];exact small T) ?_,<-codeAny_mono (F.run _ X.stack _ _ ⟨Value.ref (hp.objs.size+1)::us,[]⟩ (Value.ref (hp.objs.size+1)::us) _ _ E (hr.make C us []) (I2.env0.make C us []) j r2 l) λG B c=>?_];cases G with
 |error er=>exact S Z O _ _ er B I2 c
 |ok fl=>
  cases fl with
  |ret u=>
   let⟨v,H',I3,D,ev,J⟩:=I2.after c;subst ev;exact⟨D,⟨V.ref<|hp.objs.size+1,H',I3,rfl,J⟩⟩
  |next=>exact False.elim c
  |brk=>exact False.elim c
  |cont=>exact False.elim c
def qB(M:XMk X.K C f)(F:zA5 X.prog X.w X.K X.mg X.base CX k f fd ps sp)(hr:zBe (k+1) X.A)(g:Gl X x)(d:X.mg x=some (.ref C))(j:zAv X.K fd ps [])(c:zB4 CX X E)(l:PA X (e::es) t)(b:(x==("__debug__":Str))=false:=by decide)(i:starEach (e::es) X.env=(false,eval e X.env)::starEach es X.env:=by rfl)(a:(backTo pos<|starEach es X.env).any (·.1)=false:=by rfl) :
  PE X (.Call (.Name x p) (e::es) [] pos) (zE4 C sp E t):=by
 intro Z s O H Q I h;erw[<-wpAny_Call_Name_kw (dP I g d ?_ b),<-W.callWith_K (h₀:=X.base) I.ok.mod.kin M.kp (thn (l pos Z s O H _ I h) λus o ⟨m,H1,I1,r,z,q⟩=>⟨I1.kIn,?_⟩) i a,<-nY M F hr j c I1 r z q]
end
end L2
namespace L2
open PySem PySem.Spec PyProof.Rows PySem.Builtin PySem.Builtin.ObjectAttr
variable{Q:Unit->B3->Prop}{C a T D:B5}{P:Program}{w:World}{H H':Hp}{h h':Heap}{oe:Obj}{Z:B0<|B5×Obj}{O:St}{s:B3}{M:Model}{A:Around}{q:Str}{hdct ab:B6}{sn:B7}{sub:C3}{col:B1 B6}{dd:B1 B5}{k0 k1 k2 k3 k5:B1 B2}{newId:String}
section
variable{prog:Program}{w:World}{A:Around}{K:xFr}{h:Heap}{g:Array GenState}{d:Drawn}{tk:Nat}{os:OsState}{E:B2->B3->Prop}{e C t0:B5}{cd:ClassData}{name:Str}{v:B2}
structure XSt(K:xFr)(C:B5):Prop where
 cls:∃cd,W.clsIn K C=some cd/\cd.hasDict=true/\cd.mro.isEmpty=false/\cd.mro.contains (.type "object")=true/\∀self,refuseLoop self "__setattr__" cd.mro=pure Unit.unit
 sa:W.findIn K (.ref C) "__setattr__"=some (some (.builtin "object.__setattr__"))
def uZ(KX:K.In h)(S:XSt K C)(G:W.findIn K (.ref C) name=some none)(ge:h.get? e=some (zAx C t0 none))(hq:∀h' t',h'.get? e=some (zAx C t0<|some h.objs.size)->h'.Ns1 h.objs.size (λy=>if y=name then some v else none)->(∀b o,b≠e->h.get? b=some o->h'.get? b=some o)->Q Unit.unit ⟨h',g,d,t',os⟩) :
  wpAny (model prog w) A (setAttr (.ref e) name v) Q E ⟨h,g,d,tk,os⟩:=by
 let⟨cd,m,J,l,k,j⟩:=S.cls;have m0J:PySem.W.InstAt h e (zAx C t0 none) C none:=⟨ge,rfl,rfl,trivial⟩
 erw[W.set_plain (s:=⟨h,g,d,tk,os⟩) KX m0J S.sa];have SO:=PySem.F.store_object;have i:PySem.W.Looks (model prog w) h (isInstance (.ref e)<|.type "object") true:=m0J.type.andThen (W.looks_mroIn KX<|by unfold W.mroIn;rw[m,Option.bind_some,xCf (by rw[l];decide),k]);have lm:PySem.W.Looks (model prog w) h (mroOf<|.ref C) cd.mro:=(W.looks_clsIn KX m).andThen .now;have la:=W.looks_findIn (M:=model prog w) KX G;refine codeAny_call_builtin SO.slot.plain SO.entry<|@PySem.W.check_slot (model prog w) _ _ ⟨h,g,d,tk+1,os⟩ "object.__setattr__" "object" "__setattr__" (.ref e) [.str name tk,v] [] _ SO.kind SO.split i (SO.args (.ref e) (.str name tk) v) ?_;rw[W.osa_eq,refuse_eq];refine xAd<|xAd<|m0J.type.here (s:=⟨h,g,d,tk+1,os⟩)<|xAd<|lm.here (s:=⟨h,g,d,tk+1,os⟩) ?_;rw[j];erw[<-xAe<|xAd<|m0J.type.here (s:=⟨h,g,d,tk+1,os⟩)<|xAd<|la.here (s:=⟨h,g,d,tk+1,os⟩)<|xAd ?_,xAe (a:=(none:B1 B2))];show wpAny _ _ (storeInOwnDict (.ref e) (.ref C) (.str name tk) name v _) _ _ _;unfold storeInOwnDict;refine xAd<|xAe ?_;dsimp only;rw[xCf<|show ¬ (Value.ref C==Value.type "module")=true by simp];erw[xAd];unfold ownDictForStores instanceDict;refine xAd<|wpAny_loadPart ge ?_;dsimp only;refine xAd<|(W.looks_clsIn KX m).here (s:=⟨h,g,d,tk+1,os⟩) ?_;rw[J];rw[xCf ∅,xCf<|by show ¬ (!true||!true)=true;decide];have c:(h.push {cls:=.type "dict",data:=.dict #[]}).get? e=some (zAx C t0 none):=xAf _ ge;have r:e≠h.objs.size:=xA0<|xA1 ge;erw[<-xAd<|wpAny_alloc (s:=⟨h,g,d,tk+1,os⟩)<|xAd<|wpAny_update c ?_,xAe (a:=some h.objs.size)];show wpAny _ _ (storeInDict h.objs.size (.str name tk) name v) _ _ ⟨(h.push {cls:=.type "dict",data:=.dict #[]}).update e λo=>{cls:=o.cls,dict:=some h.objs.size,data:=o.data,slots:=o.slots},g,d,tk+1,os⟩;have gd:((h.push {cls:=.type "dict",data:=.dict #[]}).update e λo=>{cls:=o.cls,dict:=some h.objs.size,data:=o.data,slots:=o.slots}).get? h.objs.size=some {cls:=.type "dict",data:=.dict #[]}:=
  (Heap.get?_update_ne _ _ _ _ r.symm).trans (Heap.get?_push_at rfl rfl)
 have B:((h.push {cls:=.type "dict",data:=.dict #[]}).update e λo=>{cls:=o.cls,dict:=some h.objs.size,data:=o.data,slots:=o.slots}).Ns h.objs.size λ_=>none:=⟨_,#[],_,gd,rfl,λz I=>absurd I ⋯,λ_=>rfl⟩
 unfold storeInDict newKeyGuard;refine xAd (xAe<|xAd<|wpAny_nsSet1 (Heap.Ns1.of_empty B) λN p n=>?_);let⟨oD,eD,pD,R,X,Y⟩:=p.count<|Within.cons name v Within.nil;erw[<-xAd<|wpAny_lookBehind R (by rw[X];exact pastItsLine_dict (xCk Y<|by rw[xAo,List.length_nil,sizeLine_eq];lia)) ?_,<-xAe<|hq N _ ?_ p λb o L x=>?_]
 .exact(n.2 e r).trans<|xA7 _ c rfl
 .exact(n.2 b<|xA0<|xA1 x).trans<|(Heap.get?_update_ne _ _ _ _ L).trans<|xAf _ x
end
section
variable{X:Cx}{Z:B0<|B5×Obj}{O:St}{H:Hp}{s:B3}
def zEg(f g:Str)(y:V):([(f,y)]:B0<|Str×V).lookup g=if g=f then some y else none:=by
 rw[List.lookup_cons];by_cases z:g=f
 .rw[xCg z,show(g==f)=true from beq_iff_eq.mpr z]
 .rw[xCf z,show(g==f)=false from beq_eq_false_iff_ne.mpr z];rfl
def tG{e:B5}{f:Str}{y:V}{u:B2}(I:Inv X Z O H s)(j:H e=some (XO C none e))(S:XSt X.K C)(n:zAw X.K C f)(E:zAj y u)(h:∀p r,H p=none->Inv X Z O (upd (upd H p<|.xd [(f,y)]) e<|XO C (some p) e) r->Q Unit.unit r):wpAny (model X.prog X.w) X.A (setAttr (.ref e) f u) Q X.xe s:=by
 let⟨i,g,d,tk,W⟩:=s;let⟨⟨N,ge⟩,_,_⟩:=(show zAe X.prog X.w H i e (XO C none e) from I.hok e _ j)
 refine uZ I.kIn S n ge λh' t' x J kp=>?_;have k:H i.objs.size=none:=I.hok.fresh<|xAg _;have Y:e≠i.objs.size:=cg j k;erw[h i.objs.size _ k];have hE:∀b,H b=none->b≠e:=λb z w=>by rw[w,j] at z;cases z
 have nx:∀b o,i.get? b=some o->b≠i.objs.size:=λb o q=>xA0<|xA1 q;have un:Un X.fs [] H (upd (upd H i.objs.size<|.xd [(f,y)]) e<|XO C (some i.objs.size) e) i h':=by
  refine⟨λb o q z _ _=>kp b o (hE b z) q,λb o q z _ _=>⟨o.slots,kp b o (hE b z) q⟩,λb o q z _=>?_,λb o q _=>?_,λb B q=>?_,λb o u q=>?_,λb R q=>⟨#[],?_⟩⟩
  .rw[cb<|hE b z,cb<|nx b o q];exact z
  .by_cases be:b=e
   .exact⟨_,by rw[be];exact x⟩
   .exact⟨o,kp b o be q⟩
  .rw[cb (ej q j<|by intro z;cases z),cb<|cg q k];exact q
  .rw[cb (ej q j<|by intro z;cases z),cb<|cg q k];exact q
  .rw[cb (ej q j<|by intro z;cases z),cb<|cg q k,q,Array.append_empty]
 have m:HOk X.prog X.w (upd (upd H i.objs.size<|.xd [(f,y)]) e<|XO C (some i.objs.size) e) h':=λb o q=>by
  by_cases be:b=e
  .subst be;rw[ce] at q;cases q;exact XO.ok x
  .rw[cb be] at q;by_cases bd:b=i.objs.size
   .subst bd;rw[ce] at q;cases q;refine⟨_,J,λL=>?_⟩;rw[zEg];by_cases z:L=f
    .rw[xCg z,xCg z];exact E
    .rw[xCf z,xCf z];exact trivial
   .rw[cb bd] at q;refine(I.hok b o q).stay (λc v G F=>kp c v ?_ F) (λc z=>?_) λc B z=>?_
    .rcases G with z|z
     .rw[z];exact be
     .exact ej z j (by intro l;cases l)
    .rw[cb (ej z j<|by intro l;cases l),cb<|cg z k];exact z
    .rw[cb (ej z j<|by intro l;cases l),cb<|cg z k];exact z
 exact I.un (t':=t') un m
end
def zG3(K:xFr)(d c:TE)(f:Str):TS:=λD O H=>c O H λy H1=>d O H1 λx H2=>∃e C,x=.ref e/\H2 e=some (XO C none e)/\XSt K C/\zAw K C f /\
 ∀b,H2 b=none->D.nx O (upd (upd H2 b<|.xd [(f,y)]) e<|XO C (some b) e)
section
variable{X:Cx}{o value:B4}{f:Str}{pos pos':Pos}{ta tv:TE}
def tQ(m:PE X o ta)(j:PE X value tv)(k:swapsWith value (some<|.Attribute o f pos') pos.line X.env=pure false):PS X (.Assign [.Attribute o f pos'] value pos)<|zG3 X.K ta tv f:=by
 intro Z s O H D I h;refine plainObj_wpAny_Assign_Attribute (thn (j Z s O H _ I h) λr b ⟨y,H1,I1,c,i⟩=>thn (m Z b O H1 _ I1 i) λu F ⟨x,H2,I2,d,e,C,v,l,S,n,g⟩=>?_) k;subst v;obtain rfl:u=Value.ref e:=d;exact tG I2 l S n c λB E p I3=>⟨O,_,I3,g B p⟩
end
structure XGt(K:xFr)(C:B5):Prop where
 hd:W.hasDictIn K C=true
 ga:W.findIn K (.ref C) "__getattribute__"=some (some (.builtin "BaseException.__getattribute__"))
 ng:W.findIn K (.ref C) "__getattr__"=some none
 mb:W.mroIn K C (.type "BaseException")=some true
def zCd(K:xFr)(C:B5):B6:=match K.lookup C with
 | some ⟨.type "type",_,.cls cd,b⟩=>(match cd.mro,b.toList with
  |.ref C'::bm,[_,_,_,_,some<|.builtin n,_]=>C'==C&&n == "ValueError.__new__" && !cd.hasDel&&W.tailIn K bmV bm
  |_,_=>false)
 |_=>false
section
variable{K:xFr}{C:B5}
set_option tactic.hygienic true
def eF(q:zCd K C=true):∃nm b N bs bm hdct sn sub ab col dd k0 k1 k2 k3 k5,K.lookup C=some (excClassObj nm b C N bs bm hdct sn sub ab col dd k0 k1 k2 k3 k5 "ValueError.__new__")/\W.tailIn K bmV bm=true:=by
 unfold zCd at q;split at q
 .rename_i dd cd sl ho
  split at q
  .rename_i C' bm k0 k1 k2 k3 n k5 hm hs
   simp only[xCh,beq_iff_eq,Bool.not_eq_true'] at q;let⟨⟨⟨rfl,rfl⟩,hdel⟩,ht⟩:=q;let⟨nm,bs,d,c,b,e,sn,sub,ab,col,del⟩:=cd;dsimp only at hm hdel;subst hm hdel;let⟨l⟩:=sl;simp only at hs;subst hs;exact⟨nm,b,c,bs,bm,e,sn,sub,ab,col,dd,k0,k1,k2,k3,k5,ho,ht⟩
  .cases q
 .cases q
set_option tactic.hygienic false
def kZ(b:B2):refuseLoop b "__setattr__" bmV=pure Unit.unit:=by kernel_rfl
theorem gk(b:B2):∀{l:C3},W.tailIn K bmV l=true->refuseLoop b "__setattr__" l=pure Unit.unit
 |[],e=>by cases e
 |v::r,e=>by
  unfold W.tailIn at e;rcases Bool.or_eq_true_iff.mp e with q|q
  .rw[beq_iff_eq.mp q];exact kZ b
  .split at q
   .split at q
    .simp only[xCh] at q;rw[refuseLoop_ref];exact gk b q.2
    .cases q
   .cases q
theorem kE:∀{l:C3},W.tailIn K bmV l=true->l.contains (.type "object")=true
 |[],e=>by cases e
 |v::r,e=>by
  unfold W.tailIn at e;rcases Bool.or_eq_true_iff.mp e with q|q
  .rw[beq_iff_eq.mp q];rfl
  .split at q
   .split at q
    .simp only[xCh] at q;rw[List.contains_cons,kE q.2,Bool.or_true]
    .cases q
   .cases q
structure XC(K:xFr)(C:B5):Prop where
 f:zCd K C=true
 hd:W.hasDictIn K C=true
 sa:W.findIn K (.ref C) "__setattr__"=some (some (.builtin "object.__setattr__"))
 ga:W.findIn K (.ref C) "__getattribute__"=some (some (.builtin "BaseException.__getattribute__"))
 ng:W.findIn K (.ref C) "__getattr__"=some none
 mb:W.mroIn K C (.type "BaseException")=some true
 ha:W.findIn K (.ref C) "__class__"=some (some (.builtin "object.__class__"))
 hm:W.mroIn K C (.type "object")=some true
 kp:W.keepIn K (.ref C)=true
def XC.st(x:XC K C):XSt K C:=by
 let⟨nm,d,N,bs,bm,hdct,sn,sub,ab,col,dd,k0,k1,k2,k3,k5,c,tl⟩:=eF x.f;refine⟨⟨_,by unfold W.clsIn;rw[c],?_,rfl,?_,λb=>?_⟩,x.sa⟩
 .have h:=x.hd;unfold W.hasDictIn W.clsIn at h;rw[c] at h;simpa using h
 .show(Value.ref C::bm).contains _=true;rw[List.contains_cons,kE tl,Bool.or_true]
 .show refuseLoop b "__setattr__" (Value.ref C::bm)=pure Unit.unit;rw[refuseLoop_ref];exact gk b tl
def XC.gt(x:XC K C):XGt K C:=⟨x.hd,x.ga,x.ng,x.mb⟩
def XC.mkx(x:XC K C){f:B5}(i:W.findIn K (.ref C) "__init__"=some (some<|.ref f))(b:W.isFn K (.ref f)=true):XMk K C f:=⟨eF x.f,i,b,x.kp⟩
set_option tactic.hygienic true
def oO(q:W.excIn K C bmV "ValueError.__new__"=true):∃nm b N bs bm hdct sn sub ab col dd k0 k1 k2 k3 k5,K.lookup C=some (excClassObj nm b C N bs bm hdct sn sub ab col dd k0 k1 k2 k3 k5 "ValueError.__new__")/\W.tailIn K bmV bm=true /\
  W.nsOkIn K N=true/\W.nsIn K N "__init__"=some none:=by
 unfold W.excIn at q;split at q
 .rename_i dd cd sl ho
  split at q
  .rename_i C' bm k0 k1 k2 k3 n k5 hm hs
   simp only[xCh,beq_iff_eq,Bool.not_eq_true'] at q;let⟨⟨⟨⟨⟨rfl,rfl⟩,hdel⟩,ht⟩,hok⟩,hni⟩:=q;let⟨nm,bs,d,c,b,e,sn,sub,ab,col,del⟩:=cd;dsimp only at hm hdel hok hni;subst hm hdel;let⟨l⟩:=sl;simp only at hs;subst hs;exact⟨nm,b,c,bs,bm,e,sn,sub,ab,col,dd,k0,k1,k2,k3,k5,ho,ht,hok,hni⟩
  .cases q
 .cases q
set_option tactic.hygienic false
end
theorem zAe.there{o:HO}(x:zAe P w H h a o):∃u,h.get? a=some u:=by
 cases o with
 |lst c=>let⟨_,_,_,_,e⟩:=x;exact⟨_,e⟩
 |tup c=>let⟨_,_,_,d,e,_⟩:=x;exact⟨_,e⟩
 |dK b=>let⟨_,_,_,_,o,_,_,e,_⟩:=x;exact⟨_,e⟩
 |dT b=>let⟨_,_,_,_,o,_,_,e,_⟩:=x;exact⟨_,e⟩
 |set S n=>let⟨o,_,_,_,e,_⟩:=x;exact⟨_,e⟩
 |ins C k fs=>let⟨_,_,_,e,_⟩:=x;exact⟨_,e⟩
 |own y=>let⟨_,e⟩:=x;exact⟨_,e⟩
 |xd fs=>let⟨_,⟨_,_,_,e,_⟩,_⟩:=x;exact⟨_,e⟩
 |rng i j=>let⟨_,_,_,e⟩:=x;exact⟨_,e⟩
 |frz d u=>let⟨e,_⟩:=x;exact⟨_,e⟩
 |tbl g=>exact⟨_,(show h.get? a=some _ from x)⟩
 |met f y=>exact⟨_,(show h.get? a=some _ from x)⟩
 |ext φ=>let⟨_,e,_⟩:=x;exact e
section
variable{X:Cx}{Z:B0<|B5×Obj}{O:St}{H:Hp}{s:B3}{h':Heap}
def Inv.laidN{o:HO}{t':Nat}(I:Inv X Z O H s)(k:∀b u,s.heap.get? b=some u->h'.get? b=some u)(i:s.heap.get? a=none)(new:zAe X.prog X.w (upd H a o) h' a o) :
  H a=none/\Inv X Z O (upd H a o) {s with heap:=h',toks:=t'}:=by
 have d:H a=none:=by
  cases q:H a with
  |none=>rfl
  |some u=>
   let⟨v,e⟩:=(I.hok a u q).there;rw[i] at e;cases e
 refine⟨d,I.un ⟨λb u q _ _ _=>k b u q,λb u q _ _ _=>⟨u.slots,k b u q⟩,λb u q n _=>?_,λb u q _=>⟨u,k b u q⟩,λb g q=>?_,λb u g q=>?_,λb j q=>⟨#[],?_⟩⟩ λb u e=>?_⟩
 .rw[cb λz=>by rw[z,i] at q;cases q];exact n
 .rw[cb<|cg q d];exact q
 .rw[cb<|cg q d];exact q
 .rw[cb<|cg q d,q,Array.append_empty]
 .by_cases hb:b=a
  .subst hb;rw[ce] at e;cases e;exact new
  .rw[cb hb] at e;exact(I.hok b u e).stay (λc v _ q=>k c v q) (λc q=>by rw[cb<|cg q d];exact q) λc g q=>by rw[cb<|cg q d];exact q
end
def zD8(C:B5):TE:=λ_ H Q=>∀e,H e=none->Q (.ref e) (upd H e<|XO C none e)
section
variable{X:Cx}{C:B5}{x:Str}{p pos:Pos}
def oq(M:W.excIn X.K C bmV "ValueError.__new__"=true)(kp:W.keepIn X.K (.ref C)=true)(m:Gl X x)(l:X.mg x=some (.ref C))(c:(x==("__debug__":Str))=false:=by decide) :
  PE X (.Call (.Name x p) [] [] pos) (zD8 C):=by
 intro Z s O H Q I h;erw[<-wpAny_Call_Name_kw (dP I m l ?_ c),W.callWith_K0 I.kIn kp];let⟨nm,q,N,bs,bm,hdct,sn,sub,ab,col,dd,k0,k1,k2,k3,k5,j,tl,ok,i⟩:=oO M;have KX:X.K.In s.heap:=I.kIn;let⟨r,g,d,tk,n⟩:=s;refine wpAny_call_exc_subT (rest:=[]) PySem.F.excBase_ValueError (W.tail_of_in KX tl) (KX _ _ j) (.of_isNs<|W.isNs_of_in KX ok) (W.nsMap_none_of_in KX ok i) (λh' e b=>?_)<|xBn _;let⟨t,ge,_⟩:=b.there;let⟨k,I2⟩:=Inv.laidN (a:=e) (o:=XO C none e) (t':=tk) I b.keeps b.new<|XO.ok ge;exact⟨.ref e,_,I2,rfl,h e k⟩
end
mutual
inductive Rep(H:Hp):V->PyData->Prop
 |non:Rep H .non .none
 |bl (b:Bool):Rep H (.bl b) (.bool b)
 |int (i:Int):Rep H (.int i) (.int i)
 |str (x:Str):Rep H (.str x) (.str x)
 |lst {a:Addr} {xs:List V} {ds:List PyData}:H a=some (.lst xs)->zDf H xs ds->Rep H (.ref a) (.list ds)
 |tup {a:Addr} {xs:List V} {ds:List PyData}:H a=some (.tup xs)->zDf H xs ds->Rep H (.ref a) (.tuple ds)
inductive zDf(H:Hp):List V->List PyData->Prop
 |nil:zDf H [] []
 |cons {x:V} {xs:List V} {d:PyData} {ds:List PyData}:Rep H x d->zDf H xs ds->zDf H (x::xs) (d::ds)
end
mutual
theorem Rep.reads{P:Program}{w:World}{H:Hp}{h:Heap}(j:HOk P w H h):∀{v:V}{d:PyData}{u:B2},Rep H v d->zAj v u->∃as,Reads h u d as
 |_,_,_,.non,r=>by cases r;exact⟨_,.none⟩
 |_,_,_,.bl b,r=>by cases r;exact⟨_,.bool b⟩
 |_,_,_,.int i,r=>by let⟨t,rfl⟩:=r;exact⟨_,.int i t⟩
 |_,_,_,.str x,r=>by let⟨t,rfl⟩:=r;exact⟨_,.str x t⟩
 |_,_,_,.lst (a:=a) (xs:=xs) e q,r=>by
  cases r;let⟨_,l,n,k,g⟩:=(show zAe P w H h a (.lst xs) from j a _ e)
  let⟨as,z⟩:=zDf.reads j q k;exact⟨_,.list g rfl rfl z⟩
 |_,_,_,.tup (a:=a) (xs:=xs) e q,r=>by
  cases r;let⟨_,l,k,m,g,c,n,dd⟩:=(show zAe P w H h a (.tup xs) from j a _ e)
  let⟨as,z⟩:=zDf.reads j q k;exact⟨_,.tuple g c dd z⟩
theorem zDf.reads{P:Program}{w:World}{H:Hp}{h:Heap}(c:HOk P w H h):∀{vs:C0}{d:B0 PyData}{us:C3},zDf H vs d->zAi vs us->∃as,ReadsAll h us d as
 |_,_,_,.nil,.nil=>⟨_,.nil⟩
 |_,_,_,.cons a b,.cons r t=>by
  let⟨as,z⟩:=Rep.reads c a r;let⟨bs,y⟩:=zDf.reads c b t;exact⟨_,.cons z y⟩
end
section
variable{X:Cx}
set_option tactic.hygienic true
theorem oS{k:Nat}(hr:zBe k X.A):zAm X (.builtin "repr") λxs H Q=>∃a d,xs=[.ref a]/\Rep H (.ref a) d/\d.showable=true/\d.hasDict=false/\d.depth<=60/\d.shown.length<=sizeLine/\Q (.str d.shown) H:=by
 intro Z s O H xs us Q I r h;let⟨a,d,rfl,c,j,l,dp,i,q⟩:=h;cases r with
 |cons r b=>
  cases b;rename_i u
  obtain rfl:u=Value.ref a:=r;let⟨m,g⟩:=c.reads I.hok<|show zAj (.ref a) (.ref a) from rfl;exact repr_of_reads' g j (PyData.noDict_hsm l) hr.gd (by have:=hr.units;lia) (λ_ _ e=>e) (λh' u tk hk=>⟨.str d.shown,H,I.kept (t':=tk) hk,⟨u,rfl⟩,q⟩) i
set_option tactic.hygienic false
end
section
variable{M:Model}{A:Around}{E:B2->B3->Prop}{s:B3}{base:Heap}{env:Env}{outer:B0 Env}{L e:B5}{oe:Obj}{vs:Array B2}
structure zC1(h h':Heap)(fs no:B0 B5)(e T:B5)(fl:B2)(oe:Obj):Prop where
 new:h.objs.size<=T
 ent:∃oT ts,h'.get? T=some oT/\oT.data=.fields ts/\ts[3]?=some fl
 exc:h'.get? e=some (Obj.mapFields (·.setIfInBounds 1 (.ref T)) oe)
 keep:∀b o,b≠e->b∉fs->b∉no->h.get? b=some o->h'.get? b=some o
 frs:∀b o,b∈fs->h.get? b=some o->∃sl,h'.get? b=some {o with slots:=sl}
def kH{head:B2}{F:B6}(j:A.frames=some (env::outer))(n:s.heap.FunFrames base<|env::outer)(I:env.frame=some L)(p:s.heap.get? e=some oe)(l:oe.data=.fields vs)(hsz:1<vs.size)(h:∀h' T,zC1 s.heap h' (frs<|env::outer) [] e T (rawInt L) oe->Q Unit.unit {s with heap:=h'}) :
  wpAny M A (do let a <- frameOf env;let pl <- entryPlaceOf L F;let b <- EntryCells.newEntry head a .none (rawInt L) .none pl;setField (.ref e) 1 b) Q E s:=by
 have d:e∉frs (env::outer):=λG=>by
  let⟨_,o,B,i⟩:=n.mem G;cases p.symm.trans B;exact i vs l
 refine xAd (wpAny_frameOf_fun j n I λc g=>xAd<|wpAny_entryPlaceOf λpl hpl=>?_);unfold EntryCells.newEntry newFields;refine xAd<|xBl ?_<|hpl.sizeOk5 _ _ _ _ _;dsimp only;generalize hO:({cls:=.type "traceback",dict:=none,data:=.fields ([head,Value.ref L,Value.none,rawInt L,Value.none]++(if pl.isEmpty then List.replicate 6 Value.none else pl)).toArray}:Obj)=ob;have v:c.get? e=some oe:=(g.2.1 e d).trans p;have r:(c.push ob).get? e=some oe:=xAf ob v;have y:c.objs.size≠e:=Nat.ne_of_gt<|xA1 v;have k:ob.isFreed=false:=by rw[<- hO];rfl
 have J:(c.push ob).get? c.objs.size=some ob:=Heap.get?_push_at rfl k;refine wpAny_setField r l hsz<|h _ c.objs.size ⟨by rw[g.1];exact xAg _,⟨ob,_,(xA6 _ _<|Ne.symm y).trans J,by rw[<- hO],?_⟩,xA7 _ r<|Obj.isFreed_of_fields<|Obj.data_mapFields l _,λb o K m _ q=>?_,λb o m q=>?_⟩
 .rcases hpl with rfl|⟨_,_,_,_,_,_,_,rfl⟩ <;> simp
 .exact(xA6 _ _<|Ne.symm K).trans<|xAf ob<|(g.2.1 b m).trans q
 .let⟨x,z⟩:=g.2.2 b o q;exact⟨x,(xA6 _ _ λ(w:e=b)=>d<|by rw[w];exact m).trans<|xAf ob z⟩
def kb(b:A.frames=some (env::outer))(j:s.heap.FunFrames base<|env::outer)(c:env.frame=some L)(d:s.heap.get? e=some oe)(g:oe.data=.fields vs)(i:vs[1]?=some .none)(h:∀h' T,zC1 s.heap h' (frs<|env::outer) [] e T (rawInt L) oe->Q Unit.unit {s with heap:=h'}):wpAny M A (noteFrame (.ref e) env) Q E s:=by
 unfold noteFrame;rw[c];refine xAd<|xDa d g i ?_;rw[xCf ∅];exact kH b j c d g (xB7.mp i).1 h
def ka{T0:B5}{r:Obj}{k:Array B2}(p:A.frames=some (env::outer))(x:s.heap.FunFrames base<|env::outer)(y:env.frame=some L)(B:s.heap.get? e=some oe)(F:oe.data=.fields vs)(I:vs[1]?=some (.ref T0))(i:s.heap.get? T0=some r)(d:r.data=.fields k)(G:k[3]?=some .none)(l:T0≠e)(h:∀h' T,zC1 s.heap h' (frs<|env::outer) [T0] e T (rawInt L) oe->T0≠T->Q Unit.unit {s with heap:=h'}):wpAny M A (noteFrame (.ref e) env) Q E s:=by
 have c:∀b,b≠T0->(s.heap.update T0 (Obj.mapFields (·.setIfInBounds 3 Value.none))).get? b=s.heap.get? b:=λb K=>xA6 _ _<|Ne.symm K;have plain:∀b o,s.heap.get? b=some o->(∀J,o.data≠.fields J)->b≠T0:=λb o q g z=>by
  rw[z] at q;cases i.symm.trans q;exact g k d
 have m:(s.heap.update T0 (Obj.mapFields (·.setIfInBounds 3 Value.none))).FunFrames base<|env::outer:=x.of_keeps λb o q g=>⟨o,(c b<|plain b o q g).trans q,rfl⟩
 unfold noteFrame;rw[y];refine xAd<|xDa B F I ?_;rw[xCg<|show(Value.ref T0 != Value.none)=true by simp];refine xAd<|xDa i d G ?_;rw[xCf<|show ¬ (Value.none==rawInt L)=true by simp[rawInt]];erw[<-xAd<|wpAny_setField i d (xB7.mp G).1 ?_,<-kH (s:={s with heap:=s.heap.update T0 (Obj.mapFields (·.setIfInBounds 3 Value.none))}) p m y ((c e<|Ne.symm l).trans B) F (xB7.mp I).1 λh' T n=>?_];have sz:(s.heap.update T0 (Obj.mapFields (·.setIfInBounds 3 Value.none))).objs.size=s.heap.objs.size:=by simp
 have v:s.heap.objs.size<=T:=sz▸n.new;refine h h' T ⟨v,n.ent,n.exc,λb o R j N q=>n.keep b o R j ⋯<|(c b<|by simpa using N).trans q,λb o j q=>?_⟩<|xA0<|xBc (xA1 i) v;let⟨_,S,go,g⟩:=x.mem j;cases q.symm.trans go;exact n.frs b o j<|(c b<|plain b o q g).trans q
def iJ{fs no:B0 B5}{fl:B2}(n:zC1 h s.heap fs no e T fl oe)(m:oe.data=.fields vs)(hsz:1<vs.size)(F:∀b o,b∈fs->h.get? b=some o->b<h.objs.size)(p:T≠e)(k:∀h',zC1 h h' fs no e T .none oe->Q Unit.unit {s with heap:=h'}):wpAny M A (setFlight (.ref e) none) Q E s:=by
 let⟨B,ts,j,d,r⟩:=n.ent;have c:=Obj.data_mapFields m (·.setIfInBounds 1 (Value.ref T));unfold setFlight;refine xAd<|xDa n.exc c (x:=.ref T) (by simp[hsz]) ?_;rw[xCg<|show(Value.ref T != Value.none)=true by simp];have i:3<ts.size:=(xB7.mp r).1;have lo:∀b o,h.get? b=some o->T≠b:=λb o q=>Nat.ne_of_gt<|xBc (xA1 q) n.new;refine wpAny_setField j d i<|k _ ⟨n.new,⟨_,_,xA7 _ j<|Obj.isFreed_of_fields<|Obj.data_mapFields d _,Obj.data_mapFields d _,?_⟩,(xA6 _ _ p).trans n.exc,λb o y g v q=>(xA6 _ _<|lo b o q).trans<|n.keep b o y g v q,λb o g q=>?_⟩
 .simp[i]
 .let⟨l,z⟩:=n.frs b o g q;exact⟨l,(xA6 _ _<|lo b o q).trans z⟩
end
noncomputable abbrev zF3(C t T:B5)(dx:B1 B5):Obj:={cls:=.ref C,dict:=dx,data:=.fields #[.ref t,.ref T,.none,.none,.bool false,.none]}
noncomputable def XF(C:B5)(b:B1 B5)(e T:B5):HO:=.ext λh=>∃t,h.get? e=some (zF3 C t T b)
def XF.ok{e t:B5}{b:B1 B5}(g:h.get? e=some (zF3 C t T b)):zAe P w H h e<|XF C b e T:=
 ⟨⟨t,g⟩,⟨_,g⟩,λ_ _ ⟨c,d⟩ k=>⟨c,k _ d⟩⟩
noncomputable def del(H:Hp)(e:B5):Hp:=λb=>if b=e then none else H b
def ia{e:B5}:del H e e=none:=xCg rfl
def gh{e b:B5}(h:b≠e):del H e b=H b:=xCf h
def lY{e:B5}{o:HO}:upd (del H e) e o=upd H e o:=by
 funext b
 by_cases z:b=e
 .rw[z,ce,ce]
 .rw[cb z,cb z,gh z]
structure TB(T:B5)(h0 h:Heap)(H:Hp):Prop where
 ent:∃oT ts,h.get? T=some oT/\oT.data=.fields ts/\ts[3]?=some .none
 old:h0.get? T=none
 un:H T=none
def CXo(P:Program)(w:World):CXT:=λb H s E g c=>∃(e C T:B5) (d:B1 B5) (H':Hp),g=.ref e/\H' e=none/\T≠e/\TB T s.heap c.heap H'/\c.os=s.os/\AllBare c.gens /\
 Un (frs b) [] H (upd H' e<|XF C d e T) s.heap c.heap/\HOk P w (upd H' e<|XF C d e T) c.heap/\E (.ref C) d H'
def fP{fs no:B0 B5}{e:B5}{fl:B2}{φ:Heap->Prop}{o:HO}(j:HOk P w H h)(l:∀b∈fs,H b=none)(k:∀b∈no,H b=none)(d:H e=some (.ext φ))(n:zC1 h h' fs no e T fl oe)(x:zAe P w (upd H e o) h' e o):Un fs no H (upd H e o) h h'/\HOk P w (upd H e o) h':=by
 have ne:∀b,H b=none->b≠e:=λb z y=>by rw[y,d] at z;cases z
 have g:∀b u,H b=some u->b∉fs/\b∉no:=λb u q=>⟨(λz=>by rw[l b z] at q;cases q),(λz=>by rw[k b z] at q;cases q)⟩
 refine⟨⟨λb u q z p m=>n.keep b u (ne b z) p m q,λb u q z p _=>n.frs b u p q,λb u q z _=>by rw[cb<|ne b z];exact z,λb u q m=>?_,λb r q=>?_,λb u v q=>?_,λb F q=>⟨#[],?_⟩⟩,λb u q=>?_⟩
 .by_cases be:b=e
  .rw[be];exact⟨_,n.exc⟩
  .by_cases bf:b∈fs
   .let⟨E,z⟩:=n.frs b u bf q;exact⟨_,z⟩
   .exact⟨u,n.keep b u be bf m q⟩
 .rw[cb<|ej q d<|by intro z;cases z];exact q
 .rw[cb<|ej q d<|by intro z;cases z];exact q
 .rw[cb (ej q d<|by intro z;cases z),q,Array.append_empty]
 .by_cases be:b=e
  .subst be;rw[ce] at q;cases q;exact x
  .rw[cb be] at q;refine(j b u q).stay (λc v B i=>?_) (λc z=>?_) λc r z=>?_
   .rcases B with z|z
    .rw[z] at i⊢;exact n.keep b v be (g b u q).1 (g b u q).2 i
    .exact n.keep c v (ej z d<|by intro y;cases y) (g c _ z).1 (g c _ z).2 i
   .rw[cb<|ej z d<|by intro y;cases y];exact z
   .rw[cb<|ej z d<|by intro y;cases y];exact z
def Un.strip{fs:B0 B5}(u:Un fs [T] H H' h h')(z:h.get? T=none):Un fs [] H H' h h':=by
 have ne:∀b o,h.get? b=some o->b∉[T]:=λb o q y=>by
  have d:b=T:=by simpa using y
  rw[d,z] at q;cases q
 exact⟨λb o q n c _=>u.keep b o q n c<|ne b o q,λb o q n c _=>u.slot b o q n c<|ne b o q,λb o q n _=>u.free b o q n<|ne b o q,λb o q _=>u.there b o q<|ne b o q,u.tups,u.frzs,u.tbls⟩
def Un.wide{fs:B0 B5}(u:Un fs [] H H' h h'):Un fs [T] H H' h h':=
 ⟨λb o q n c _=>u.keep b o q n c ⋯,λb o q n c _=>u.slot b o q n c ⋯,λb o q n _=>u.free b o q n ⋯,λb o q _=>u.there b o q ⋯,u.tups,u.frzs,u.tbls⟩
section
variable{X:Cx}{Z:B0<|B5×Obj}{O:St}{H:Hp}{s s1:B3}{E':B2->B3->Prop}{Q:Unit->B3->Prop}
def rise{e:B5}{d:B1 B5}(I:Inv X Z O H s)(g:X.stack=X.env::X.outer)(y:X.env.frame=some X.env.locals)(m:H e=some (XO C d e))(k:∀i T,Inv X Z O (upd H e<|XF C d e T) i->T≠e->TB T X.s₀.heap i.heap (del H e)->Q Unit.unit i) :
  wpAny (model X.prog X.w) X.A (noteFrame (.ref e) X.env) (λ_ v=>wpAny (model X.prog X.w) X.A (setFlight (.ref e) none) Q E' v) E' s:=by
 let⟨⟨t,ge⟩,_,_⟩:=(show zAe X.prog X.w H s.heap e (XO C d e) from I.hok e _ m)
 have j:X.A.frames=some (X.env::X.outer):=g▸I.ok.frames;have x:s.heap.FunFrames X.base<|X.env::X.outer:=g▸I.stack;refine kb j x y ge rfl rfl λE T n=>?_;have Te:T≠e:=Nat.ne_of_gt<|xBc (xA1 ge) n.new;refine iJ (s:={s with heap:=E}) n rfl ⋯ (λb o _ q=>xA1 q) Te λp c=>?_;have l:∀b∈frs (X.env::X.outer),H b=none:=λb B=>I.stkFree b (by rw[g];exact B);let⟨u,ok⟩:=fP (o:=XF C d e T) I.hok l (λb z=>absurd z ⋯) m c<|XF.ok (t:=t) c.exc;have r:Un (frs X.stack) [] H (upd H e<|XF C d e T) s.heap p:=by rw[g];exact u
 refine k {s with heap:=p} T (I.call (g':=s.gens) (t':=s.toks) (d':=s.drawn) (ch:=[]) r ok I.bare λb z=>absurd z ⋯) Te ⟨c.ent,Heap.get?_none_of_le<|xCk I.sz c.new,?_⟩;rw[gh Te];exact I.hok.fresh c.new
def land{Ex:XK}{x:B2}(I:Inv X Z O H s)(v:X.stack=X.env::X.outer)(hf:X.env.frame=some X.env.locals)(F:CXo X.prog X.w X.stack H s Ex x s1)(k:∀y (e C T:B5) (c:B1 B5) (H':Hp),x=.ref e->H' e=none->Inv X Z O (upd H' e<|XF C c e T) y->T≠e->TB T X.s₀.heap y.heap H'->Ex (.ref C) c H'->Q Unit.unit y) :
  wpAny (model X.prog X.w) X.A (noteFrame x X.env) (λ_ Y=>wpAny (model X.prog X.w) X.A (setFlight x none) Q E' Y) E' s1:=by
 let⟨e,C,T0,c,H',rfl,hn,Te0,tb,ho,i,un,g,q⟩:=F;let⟨d,p,r,j,B⟩:=s1;obtain rfl:B=s.os:=ho;have I1:Inv X Z O (upd H' e<|XF C c e T0) {s with heap:=d,gens:=p,drawn:=r,toks:=j}:=I.call (ch:=[]) un g i (λb z=>absurd z ⋯);have m:upd H' e (XF C c e T0) e=some (XF C c e T0):=ce;let⟨⟨t,ge⟩,_,_⟩:=(show zAe X.prog X.w (upd H' e<|XF C c e T0) d e (XF C c e T0) from g e _ m)
 let⟨oT,ts,R,N,L⟩:=tb.ent;have G:X.A.frames=some (X.env::X.outer):=v▸I.ok.frames;have hl:d.FunFrames X.base<|X.env::X.outer:=v▸I1.stack;refine ka (s:={s with heap:=d,gens:=p,drawn:=r,toks:=j}) G hl hf ge rfl rfl R N L Te0 λh1 T n nT=>?_;have Te:T≠e:=Nat.ne_of_gt<|xBc (xA1 ge) n.new;refine iJ (s:={s with heap:=h1,gens:=p,drawn:=r,toks:=j}) n rfl ⋯ (λb o _ q=>xA1 q) Te λJ l=>?_;have K:∀b∈frs (X.env::X.outer),upd H' e (XF C c e T0) b=none:=λb i=>I1.stkFree b (by rw[v];exact i);have E:∀b∈[T0],upd H' e (XF C c e T0) b=none:=λb i=>by
  have:b=T0:=by simpa using i
  rw[this,cb Te0];exact tb.un
 let⟨u,ok⟩:=fP (o:=XF C c e T) g K E m l<|XF.ok (t:=t) l.exc;rw[lX] at u ok;have W:Un (frs X.stack) [T0] (upd H' e<|XF C c e T0) (upd H' e<|XF C c e T) d J:=by rw[v];exact u
 have S:Un (frs X.stack) [] H (upd H' e<|XF C c e T) s.heap J:=(un.wide.trans W).strip tb.old;refine k {s with heap:=J,gens:=p,drawn:=r,toks:=j} e C T c H' rfl hn (I.call (g':=p) (t':=j) (d':=r) (ch:=[]) S ok i λb z=>absurd z ⋯) Te ⟨l.ent,Heap.get?_none_of_le<|xCk I1.sz l.new,?_⟩ q;have:=g.fresh l.new;rw[cb Te] at this;exact this
end
def Xe(X:Cx)(Lk:B2->B3->Prop):Prop:=∀(b:B2)(c:B3),(∀E':B2->B3->Prop,wpAny (model X.prog X.w) X.A (noteFrame b X.env) (λ_ e=>wpAny (model X.prog X.w) X.A (setFlight b none) (λ_ d=>Lk b d) E' e) E' c)->X.xe b c
def zH2(X:Cx)(Lk:B2->B3->Prop)(Ex:St->XK):Prop:=∀(Z:B0<|B5×Obj)(O:St)(e C T:B5)(c:B1 B5)(H':Hp)(b:B3),Inv X Z O (upd H' e<|XF C c e T) b->H' e=none->T≠e->TB T X.s₀.heap b.heap H'->Ex O (.ref C) c H'->Lk (.ref e) b
structure zAy(X:Cx)(Ex:St->XK):Prop where
 hs:X.stack=X.env::X.outer
 hf:X.env.frame=some X.env.locals
 ex:∃Lk,Xe X Lk/\zH2 X Lk Ex
def zB0(CX:CXT)(X:Cx)(Ex:St->XK):Prop:=∀(Z:B0<|B5×Obj)(O:St)(H:Hp)(s:B3)(c:B2)(b:B3),Inv X Z O H s->CX X.stack H s (Ex O) c b->X.xe c b
section
variable{X:Cx}{Ex:St->XK}
def zAy.pass(c:zAy X Ex):zB0 (CXo X.prog X.w) X Ex:=by
 let⟨Lk,b,i⟩:=c.ex;intro Z O H s k g I F;refine b k g λE'=>land I c.hs c.hf F λd e C T m H' l j I2 Te tb q=>?_;subst l;exact i Z O e C T m H' d I2 j Te tb q
def zAy.rises(c:zAy X Ex){e:B5}{b:B1 B5}(I:Inv X Z O H s)(j:H e=some (XO C b e))(q:Ex O (.ref C) b<|del H e):X.xe (.ref e) s:=by
 let⟨Lk,d,i⟩:=c.ex;exact d _ s λE'=>rise I c.hs c.hf j λg T I2 Te tb=>i Z O e C T b (del H e) g (by rw[lY];exact I2) ia Te tb q
end
section
variable{P:Program}{w:World}{K:xFr}{mg:Str->B1 B2}{base:Heap}{N:B7}{qual:Str}{scope:Scope}{f:B5}{cd:B2}{A:Around}{outer:B0 Env}{s:B3}{H:Hp}{E:XK}
def ig:zAy (zD1 (CXo P w) P w K mg base N qual scope f cd A outer s H E) (λ_=>E) where
 hs:=rfl
 hf:=rfl
 ex:=by
  refine⟨λb c=>CXo P w outer H s E b c,λb d h=>?_,λZ O e C T i H' j I g Te tb q=>⟨e,C,T,i,H',rfl,g,Te,tb,I.os,I.bare,I.base,I.hok,q⟩⟩;change wpAny _ _ (leaving _ b) _ _ d;unfold leaving;exact xAd<|h _
end
def zCv(e:B5)(h:Heap):Prop:=∃nm q C N bs bm hdct sn sub ab col dd k0 k1 k2 k3 k5 newId t b,h.get? C=some (excClassObj nm q C N bs bm hdct sn sub ab col dd k0 k1 k2 k3 k5 newId)/\bm.contains (.type "BaseException")=true/\h.get? e=some (zAx C t b)
def k9{E:B2->B3->Prop}{env:Env}{x:Sem B2}{Q:Flow->B3->Prop}(i:A.handled=none)(h:wpAny M A x (λv b=>∃e,v=.ref e/\zCv e b.heap/\E (.ref e) b) E s) :
  wpAny M A (raiseStmt env (some x) none) Q E s:=by
 unfold raiseStmt;refine xAd (wpAny_mono h (λv b z=>?_) λ_ _ y=>y);let⟨e,rfl,⟨nm,q,C,N,bs,bm,hdct,sn,sub,ab,col,dd,k0,k1,k2,k3,k5,newId,t,n,c,k,ge⟩,hE⟩:=z;have j:(Value.ref C::bm).contains (.type "BaseException")=true:=by rw[List.contains_cons,k,Bool.or_true]
 let⟨m,g,d,tk,l⟩:=b;repeat (first|with_reducible refine wpAny_loadPart_at ge ?_|with_reducible refine wpAny_loadPart_at c ?_|(with_reducible refine wpAny_isSubtype_exc c ?_;rw[j])|wp_step)
 exact wpAny_raiseNew_none i hE
theorem fS{K:xFr}:∀{l:C3},W.tailIn K bmV l=true->l.contains (.type "BaseException")=true
 |[],e=>by cases e
 |v::r,e=>by
  unfold W.tailIn at e;rcases Bool.or_eq_true_iff.mp e with q|q
  .rw[beq_iff_eq.mp q];rfl
  .split at q
   .split at q
    .simp only[xCh] at q;rw[List.contains_cons,fS q.2,Bool.or_true]
    .cases q
   .cases q
def zE2(K:xFr)(c:TE)(Ex:St->XK):TS:=λ_ O H=>c O H λv H1=>∃e C b,v=.ref e/\H1 e=some (XO C b e)/\zCd K C=true/\Ex O (.ref C) b (del H1 e)
def zC7(sp:Sp)(b:C0)(Ex:St->XK)(t:TA):TE:=λO H Q=>t O H λc H1=>sp (c++b) H1 Q<|Ex O
def zC5(C:B5)(m:Str)(sp:Sp)(b:C0)(Ex:St->XK)(d:TE)(t:TA):TE:=λO H Q=>d O H λx H1=>∃a e fs,x=.ref a/\H1 a=some (.ins C e fs)/\fs.lookup m=none /\
 t O H1 λc H2=>sp (x::(c++b)) H2 Q<|Ex O
section
variable{X:Cx}{CX:CXT}{k:Nat}{f C:B5}{fd:FuncData}{ps:B7}{sp:Sp}{dvs:C0}{ds:C3}{Ex:St->XK}{x m:Str}{p pos apos:Pos}{e o:B4}{es:B0 B4}{ta:TE}{t:TA}
theorem gF{Q:VK}{us:C3}{vs:C0}(F:zA5 X.prog X.w X.K X.mg X.base CX k f fd ps sp)(hr:zBe k X.A)(j:zAv X.K fd ps ds)(i:zAi dvs ds)(d:zB0 CX X Ex)(I:Inv X Z O H s)(r:zAi vs us)(h:sp (vs++dvs) H Q<|Ex O):wpAny (model X.prog X.w) X.A (call (.ref f) us) (EP X Z O Q) X.xe s:=by
 have r2:zAi (vs++dvs)<|us++ds:=r.append i;have g:(us++ds).length=ps.length:=by rw[<- r2.length];exact F.len _ _ _ _ h
 refine wpAny_call (codeAny_mono (F.run X.A X.stack s H ⟨us,[]⟩ (us++ds) (vs++dvs) Q (Ex O) hr I.env0 (j s us I.kIn g) r2 h) λr c b=>?_);cases r with
 |error e=>exact d Z O H s e c I b
 |ok fl=>
  cases fl with
  |ret u=>exact I.after b
  |next=>exact False.elim b
  |brk=>exact False.elim b
  |cont=>exact False.elim b
def qI(F:zA5 X.prog X.w X.K X.mg X.base CX k f fd ps sp)(hr:zBe k X.A)(i:Gl X x)(g:X.mg x=some (.ref f))(hk:W.keepIn X.K (.ref f)=true)(n:zAv X.K fd ps ds)(l:zAi dvs ds)(d:zB0 CX X Ex)(v:PA X (e::es) t)(c:(x==("__debug__":Str))=false:=by decide)(j:starEach (e::es) X.env=(false,eval e X.env)::starEach es X.env:=by rfl)(b:(backTo pos<|starEach es X.env).any (·.1)=false:=by rfl) :
  PE X (.Call (.Name x p) (e::es) [] pos) (zC7 sp dvs Ex t):=by
 intro Z s O H Q I h;erw[<-wpAny_Call_Name_kw (dP I i g ?_ c),<-W.callWith_K (h₀:=X.base) I.ok.mod.kin hk (thn (v pos Z s O H _ I h) λus B ⟨y,H1,I1,r,q⟩=>⟨I1.kIn,?_⟩) j b,<-gF F hr n l d I1 r q]
def ou(F:zA5 X.prog X.w X.K X.mg X.base CX k f fd ps sp)(hr:zBe k X.A)(g:Gl X x)(d:X.mg x=some (.ref f))(hk:W.keepIn X.K (.ref f)=true)(j:zAv X.K fd ps ds)(i:zAi dvs ds)(c:zB0 CX X Ex)(b:(x==("__debug__":Str))=false:=by decide):PE X (.Call (.Name x p) [] [] pos)<|zC7 sp dvs Ex zGk:=by
 intro Z s O H Q I h;refine wpAny_Call_Name_kw (dP I g d ?_ b);exact W.callWith_K0 I.kIn hk (gF (us:=[]) F hr j i c I .nil h)
def qA{pl:Sem B6}(B:PE X o ta)(c:Cls X.K C)(g:zEn X.K C m f)(F:zA5 X.prog X.w X.K X.mg X.base CX k f fd ps sp)(hr:zBe k X.A)(G:zAv X.K fd ps ds)(E:zAi dvs ds)(v:zB0 CX X Ex)(J:PA X (e::es) t)(b:starEach (e::es) X.env=(false,eval e X.env)::starEach es X.env:=by rfl)(d:(backTo pos<|starEach es X.env).any (·.1)=false:=by rfl)(y:eval (.Call (.Attribute o m apos) (e::es) [] pos) X.env=(do
   let ov <- eval o X.env
   standAt apos.atName
   let (f,first) <- holding [ov] (getMethod ov m pl)
   callWith pos f first (backTo pos<|starEach (e::es) X.env) (backToKw pos<|keywordEach [] X.env)):=by rfl) :
  PE X (.Call (.Attribute o m apos) (e::es) [] pos) (zC5 C m sp dvs Ex ta t):=by
 intro Z s O H Q I h;refine W.methodCall_KW (pl:=pl) (thn (B Z s O H _ I h) λu i ⟨x,H1,I1,j,a,S,fs,L,N,l,q⟩=>?_) y;subst L;obtain rfl:u=Value.ref a:=j;erw[g0 I1 N c g l,<-W.callWith_K (first:=[.ref a]) (h₀:=X.base) I.ok.mod.kin g.kp (thn (J pos Z i O H1 _ I1 q) λus R ⟨vs,H2,I2,r,n⟩=>⟨I2.kIn,?_⟩) b d,<-gF (us:=.ref a::us) (vs:=.ref a::vs) F hr G E v I2 (.cons rfl r) n]
def om{pl:Sem B6}(j:PE X o ta)(c:Cls X.K C)(b:zEn X.K C m f)(F:zA5 X.prog X.w X.K X.mg X.base CX k f fd ps sp)(hr:zBe k X.A)(r:zAv X.K fd ps ds)(n:zAi dvs ds)(g:zB0 CX X Ex)(i:eval (.Call (.Attribute o m apos) [] [] pos) X.env=(do
   let ov <- eval o X.env
   standAt apos.atName
   let (f,first) <- holding [ov] (getMethod ov m pl)
   callWith pos f first (backTo pos<|starEach [] X.env) (backToKw pos<|keywordEach [] X.env)):=by rfl) :
  PE X (.Call (.Attribute o m apos) [] [] pos) (zC5 C m sp dvs Ex ta zGk):=by
 intro Z s O H Q I h;refine W.methodCall_KW (pl:=pl) (thn (j Z s O H _ I h) λu B ⟨x,H1,I1,d,a,E,fs,v,y,l,q⟩=>?_) i;subst v;obtain rfl:u=Value.ref a:=d;erw[g0 I1 y c b l,<-W.callWith_K0 (first:=[.ref a]) I1.kIn b.kp<|gF (us:=[.ref a]) (vs:=[.ref a]) F hr r n g I1 (.cons rfl .nil) q]
end
section
variable{X:Cx}{Z:B0<|B5×Obj}{O:St}{H:Hp}{s:B3}
def gI{E:B2->B3->Prop}{i:Nat}{n:Str}{pos:Pos}(I:Inv X Z O H s)(hN:X.N.Nodup)(hi:X.N[i]?=some n)(hl:X.env.kindOf n=some .local)(h:∀R,Inv X Z (O.set i none) H R->Q Unit.unit R):wpAny M A (do bindName X.env n .none;unbindBehindTheSuite X.env n pos) Q E s:=by
 let⟨m,hn,g⟩:=id I.loc;have k:(X.env.scope.kind == .class||(X.env.scope.kind == .module&&X.env.locals != X.env.globals))=false:=by rw[I.ok.kind];rfl
 refine wpAny_nameGoes_keeps hl hn k λh' v K d=>h _ ?_;have old:∀b o,X.s₀.heap.get? b=some o->b≠X.env.locals:=λb o e=>xA0<|xBc (xA1 e) I.ok.above;have trk:∀b o,H b=some o->b≠X.env.locals:=λb o q=>cg q I.free;refine⟨I.ok,I.os,I.bare,⟨λb o q n L B=>(d.2 b<|old b o q).trans<|I.base.keep b o q n L B,λb o q n L B=>?_,I.base.free,λb o q B=>?_,I.base.tups,I.base.frzs,I.base.tbls⟩,⟨_,K,λj y G Y l F=>?_⟩,λx c e=>?_,I.free,I.freeC,λp hp=>?_,λb o q=>?_,?_⟩
 .let⟨sl,z⟩:=I.base.slot b o q n L B;exact⟨sl,(d.2 b<|old b o q).trans z⟩
 .let⟨o',z⟩:=I.base.there b o q B;exact⟨o',(d.2 b<|old b o q).trans z⟩
 .have W:i≠j:=λz=>by
   subst z;rw[List.getElem?_set_self' ] at l;cases hh:O[i]? <;> rw[hh] at l <;> cases l
  rw[xC1 W] at l;have yn:y≠n:=λz=>by
   subst z;let⟨l1,_⟩:=xAq.mp hi;exact W<|(List.getElem?_inj l1 hN).mp<|hi.trans Y.symm
  let⟨u,r,lk⟩:=g j y G Y l F;refine⟨u,r,?_⟩;rcases lk with ⟨k1,k2⟩|⟨k1,c,k2,o,k3,J⟩
  .exact .inl ⟨k1,(xCf yn).trans k2⟩
  .exact .inr ⟨k1,c,k2,o,(d.2 c<|I.cne y c k2).trans k3,J⟩
 .let⟨G,o,k3,J⟩:=I.cell x c e;exact⟨G,o,(d.2 c<|I.cne x c e).trans k3,J⟩
 .let⟨p1,p2,S,p4⟩:=I.pin p hp;exact⟨(d.2 p.1 S).trans p1,p2,S,p4⟩
 .refine(I.hok b o q).stay (λc w' hc q2=>(d.2 c ?_).trans q2) (λ_ z=>z) λ_ _ z=>z;rcases hc with z|z
  .rw[z];exact trk b o q
  .exact trk c _ z
 .rw[List.length_set];exact I.len
end
noncomputable def Cx.trial(X:Cx)(Z:B0<|B5×Obj)(E:B2->B3->Prop):Cx:={X with xe:=E,pn:=X.pn++Z}
noncomputable def Cx.suite(X:Cx)(e:B5):Cx:={X with A:=X.A.mark<|some<|.ref e,calm:=false,xe:=λ_ _=>False}
section
variable{X:Cx}{Z pins':B0<|B5×Obj}{O:St}{H:Hp}{s:B3}{E:B2->B3->Prop}{e:B5}
theorem Cx.Ok.trial(ok:X.Ok):(X.trial Z E).Ok:=⟨ok.mod,ok.kind,ok.glob,ok.blt,ok.above,ok.inj,ok.has,ok.cab,ok.hd,ok.frames,ok.stk,ok.exf,ok.bs,ok.bsz,ok.noex,ok.exfs,ok.funs,ok.frf⟩
theorem Cx.Ok.suite(ok:X.Ok):(X.suite e).Ok:=⟨ok.mod,ok.kind,ok.glob,ok.blt,ok.above,ok.inj,ok.has,ok.cab,(λz=>nomatch z),ok.frames,ok.stk,ok.exf,ok.bs,ok.bsz,ok.noex,ok.exfs,ok.funs,ok.frf⟩
theorem Inv.trial(I:Inv X Z O H s):Inv (X.trial Z E) [] O H s:=⟨I.ok.trial,I.os,I.bare,I.base,I.loc,I.cell,I.free,I.freeC,λp b=>I.pin p (by rw[xB0] at b;exact b),I.hok,I.len⟩
def Inv.untrial(ok:X.Ok)(I:Inv (X.trial Z E) pins' O H s):Inv X Z O H s:=⟨ok,I.os,I.bare,I.base,I.loc,I.cell,I.free,I.freeC,λp b=>I.pin p<|xBw _ b,I.hok,I.len⟩
theorem Inv.suite(I:Inv X Z O H s):Inv (X.suite e) Z O H s:=⟨I.ok.suite,I.os,I.bare,I.base,I.loc,I.cell,I.free,I.freeC,I.pin,I.hok,I.len⟩
def Inv.unsuite(ok:X.Ok)(I:Inv (X.suite e) Z O H s):Inv X Z O H s:=⟨ok,I.os,I.bare,I.base,I.loc,I.cell,I.free,I.freeC,I.pin,I.hok,I.len⟩
theorem SP.untrial{D:zDi}{f:Flow}(ok:X.Ok)(h:SP (X.trial Z E) pins' D f s):SP X Z D f s:=by
 cases f with
 |next=>let⟨O',H',I,q⟩:=h;exact⟨O',H',I.untrial ok,q⟩
 |brk=>let⟨O',H',I,q⟩:=h;exact⟨O',H',I.untrial ok,q⟩
 |cont=>let⟨O',H',I,q⟩:=h;exact⟨O',H',I.untrial ok,q⟩
 |ret u=>let⟨v,O',H',I,r,q⟩:=h;exact⟨v,O',H',I.untrial ok,r,q⟩
end
def oM{E:B2->B3->Prop}{g:Array GenState}{d:Drawn}{t:Nat}{v:OsState}{e:B5}{Q:B6->B3->Prop}{nm:Str}{N:B5}{bs bm:C3}{n B:Str}{N':B5}{p i:C3}{c:B6}{m:B7}{j:C3}{r:B6}{l:B1 B6}{o:B1 B5}{K J I G F:B1 B2}{newId':String}(W:h.get? C=some (excClassObj nm q C N bs bm hdct sn sub ab col dd k0 k1 k2 k3 k5 newId))(y:h.get? D=some (excClassObj n B D N' p i c m j r l o K J I G F newId'))(ge:h.get? e=some oe)(k:oe.cls=.ref C)(R:i.contains (.type "BaseException")=true){b:B6}(L:(Value.ref C::bm).contains (.ref D)=b)(x:Q b ⟨h,g,d,t,v⟩):wpAny M A (excMatches (.ref e)<|.ref D) Q E ⟨h,g,d,t,v⟩:=by
 have S:(Value.ref D::i).contains (.type "BaseException")=true:=by rw[List.contains_cons,R,Bool.or_true]
 have f:=tc_notTuple;cases b <;> (unfold excMatches;repeat (first|(with_reducible refine wpAny_loadPart_at ge ?_;rw[k])|with_reducible refine wpAny_loadPart_at y ?_|(with_reducible refine wpAny_isSubtype_exc y ?_;rw[S])|(with_reducible refine wpAny_isSubtype_exc W ?_;rw[L])|wp_step))
 .exact x
 .exact x
def gq{E:B2->B3->Prop}{e t:B5}{y:B1 B5}{r:Heap}(ge:s.heap.get? e=some (zF3 C t T y))(tb:TB T r s.heap H)(k:∀h',(∀b o,s.heap.get? b=some o->h'.get? b=some o)->Q Unit.unit {s with heap:=h'}):wpAny M A (setFlight (.ref e) none) Q E s:=by
 let⟨d,ts,j,g,m⟩:=tb.ent;have l:3<ts.size:=(xB7.mp m).1;unfold setFlight;refine xAd<|xDa ge rfl (x:=.ref T) rfl ?_;rw[xCg<|show(Value.ref T != Value.none)=true by simp];refine wpAny_setField j g l (k _ λb o q=>?_);by_cases bt:b=T
 .subst bt;cases j.symm.trans q;have p:ts.setIfInBounds 3 Value.none=ts:=by
   apply Array.ext_getElem?;intro i;rw[Array.getElem?_setIfInBounds];by_cases hi:3=i
   .subst hi;rw[xCg rfl,xCg l,m]
   .rw[xCf hi]
  have:Obj.mapFields (·.setIfInBounds 3 Value.none) d=d:=by
   let⟨c,dd,B,n⟩:=d;dsimp only at g;subst g;show({cls:=c,dict:=dd,data:=.fields<|ts.setIfInBounds 3 Value.none,slots:=n}:Obj)=_;rw[p]
  have v:d.isFreed=false:=Obj.isFreed_of_fields g;erw[(xA7 (Obj.mapFields (·.setIfInBounds 3 Value.none)) j<|by rw[this];exact v).trans];rw[this]
 .exact(xA6 _ _<|Ne.symm bt).trans q
def zA8(K:xFr)(C D:B5):Prop:=zCd K C=true/\zCd K D=true/\W.mroIn K C (.ref D)=some true
def zE0(K:xFr)(Dc:B5)(i:Nat)(tb:(St->XK)->TS)(ts:TS):TS:=λD O H=>
 tb (λσ1 b c H'=>∃C,b=.ref C/\zA8 K C Dc/\∀e T,H' e=none->ts {nx:=λσ2 H2=>D.nx (σ2.set i none) H2,rt:=D.rt,bk:=λσ2 H2=>D.bk (σ2.set i none) H2,ct:=λσ2 H2=>D.ct (σ2.set i none) H2} (σ1.set i<|some<|.ref e) (upd H' e<|XF C c e T)) D O H
def zJq(K:xFr)(Dc:B5)(tb:(St->XK)->TS)(ts:TS):TS:=λD O H=>
 tb (λσ1 b c H'=>∃C,b=.ref C/\zA8 K C Dc/\∀e T,H' e=none->ts D σ1 (upd H' e<|XF C c e T)) D O H
section
variable{X:Cx}{Dc:B5}{i:Nat}{tb:(St->XK)->TS}{ts:TS}{body suite:B0 Stmt}{b0:Stmt}{x n:Str}{np hpos pos:Pos}
def uF{K:xFr}{nm:Str}{N:B5}{bs bm:C3}(b:K.lookup C=some (excClassObj nm q C N bs bm hdct sn sub ab col dd k0 k1 k2 k3 k5 newId))(h:W.mroIn K C (.ref D)=some true):(Value.ref C::bm).contains (.ref D)=true:=by
 unfold W.mroIn W.clsIn at h;rw[b] at h;simpa using h
def ij{e:B5}{p:B1 B5}{R:Result->B3->Prop}(I:Inv X Z O H s)(G:H e=some (XF C p e T))(bl:zA8 X.K C Dc)(F:Gl X x)(E:X.mg x=some (.ref Dc))(l:(x==("__debug__":Str))=false)(k:R (.ok .brk) s):codeAny (model X.prog X.w) (X.A.mark<|some<|.ref e) (.handlers (.ref e) [.ExceptHandler (some<|.Name x np) none [] hpos] X.env) R s:=by
 refine codeAny_handlers_test<|dP (X:=X.suite e) I.suite F E ?_ l;let⟨S,L,J⟩:=bl;let⟨nm,qn,N,bs,bm,hdct,sn,sub,ab,col,dd,k0,k1,k2,k3,k5,o,tl⟩:=eF S;let⟨B,y,N',Y,bm',j,v,m,ab',r,W,j0,j1,j2,j3,j5,c,b⟩:=eF L;let⟨⟨t,ge⟩,_,_⟩:=(show zAe X.prog X.w H s.heap e (XF C p e T) from I.hok e _ G)
 have KX:=I.kIn;let⟨hp,g,d,tk,os⟩:=s;exact oM (KX _ _ o) (KX _ _ c) ge rfl (fS b) (uF o J) k
def qc(hb:∀(Z:B0<|B5×Obj)(E':B2->B3->Prop)(Ex:St->XK),zAy (X.trial Z E') Ex->PSs (X.trial Z E') body (tb Ex))(R:∀e,PSs (X.suite e) (b0::suite) ts)(k:X.N.Nodup)(hi:X.N[i]?=some n)(d:X.env.kindOf n=some .local)(Y:Gl X x)(W:X.mg x=some (.ref Dc))(E:X.stack=X.env::X.outer)(hf:X.env.frame=some X.env.locals)(F:(x==("__debug__":Str))=false:=by decide) :
  PS X (.Try body [.ExceptHandler (some<|.Name x np) (some n) (b0::suite) hpos] [] [] pos) (zE0 X.K Dc i tb ts):=by
 intro Z s O H D I h;have j:Loc X.env.scope n:=.inl d;refine wpAny_Try_except ?_;refine wpAny_mono (hb Z (λc b=>wpAny (model X.prog X.w) X.A (noteFrame c X.env) (λ_ L=>wpAny (model X.prog X.w) X.A (setFlight c none) (λ_ y=>wpAny (model X.prog X.w) X.A (handleBy c X.env [.ExceptHandler (some<|.Name x np) (some n) (b0::suite) hpos]) (SP X Z D) X.xe y) X.xe L) X.xe b) _
  ⟨E,hf,λc y=>wpAny (model X.prog X.w) X.A (handleBy c X.env [.ExceptHandler (some<|.Name x np) (some n) (b0::suite) hpos]) (SP X Z D) X.xe y,λc b z=>z X.xe,?_⟩ [] s O H D I.trial h) (λf b q=>?_) λc b z=>z
 .intro B σ1 e C T g H' b I1 S Te o hx;let⟨C',ec,bl,hx⟩:=hx;cases ec;have I2:Inv X Z σ1 (upd H' e<|XF C g e T) b:=I1.untrial I.ok;have G:upd H' e (XF C g e T) e=some (XF C g e T):=ce;let⟨⟨t,ge⟩,_,_⟩:=(show zAe X.prog X.w (upd H' e<|XF C g e T) b.heap e (XF C g e T) from I2.hok e _ G)
  erw[<-wpAny_handleBy_cons (ij I2 G bl Y W F ?_) (by intro z;cases z),<-codeAny_handlers_suite_as (gq ge o λh' kp=>?_)];have I3:Inv X Z σ1 (upd H' e<|XF C g e T) {b with heap:=h'}:=I2.kept (t':=b.toks) kp;erw[<-eY (X:=X.suite e) (v:=.ref e) I3.suite k hi j rfl (λJ I4=>?_)<|.inr d,<-wpAny_mono (R e Z J _ _ _ I4<|hx e T S) (λf s5 l=>?_) λ_ _ z=>False.elim z];cases f with
  |next=>let⟨O',H5,I5,q⟩:=l;exact gI (I5.unsuite I.ok) k hi d λp I6=>⟨_,H5,I6,q⟩
  |brk=>let⟨O',H5,I5,q⟩:=l;exact gI (I5.unsuite I.ok) k hi d λp I6=>⟨_,H5,I6,q⟩
  |cont=>let⟨O',H5,I5,q⟩:=l;exact gI (I5.unsuite I.ok) k hi d λp I6=>⟨_,H5,I6,q⟩
  |ret u=>let⟨v,O',H5,I5,r,q⟩:=l;exact gI (I5.unsuite I.ok) k hi d λp I6=>⟨v,_,H5,I6,r,q⟩
 .have m:=SP.untrial I.ok q;cases f with
  |next=>exact wpAny_execs_nil m
  |brk=>exact m
  |cont=>exact m
  |ret u=>exact m
def wY(N:∀(Z:B0<|B5×Obj)(E':B2->B3->Prop)(Ex:St->XK),zAy (X.trial Z E') Ex->PSs (X.trial Z E') body (tb Ex))(E:∀e,PSs (X.suite e) (b0::suite) ts)(J:Gl X x)(G:X.mg x=some (.ref Dc))(o:X.stack=X.env::X.outer)(L:X.env.frame=some X.env.locals)(p:(x==("__debug__":Str))=false:=by decide) :
  PS X (.Try body [.ExceptHandler (some<|.Name x np) none (b0::suite) hpos] [] [] pos) (zJq X.K Dc tb ts):=by
 intro Z s O H D I h;refine wpAny_Try_except ?_;refine wpAny_mono (N Z (λc b=>wpAny (model X.prog X.w) X.A (noteFrame c X.env) (λ_ B=>wpAny (model X.prog X.w) X.A (setFlight c none) (λ_ l=>wpAny (model X.prog X.w) X.A (handleBy c X.env [.ExceptHandler (some<|.Name x np) none (b0::suite) hpos]) (SP X Z D) X.xe l) X.xe B) X.xe b) _
  ⟨o,L,λc l=>wpAny (model X.prog X.w) X.A (handleBy c X.env [.ExceptHandler (some<|.Name x np) none (b0::suite) hpos]) (SP X Z D) X.xe l,λc b z=>z X.xe,?_⟩ [] s O H D I.trial h) (λf b q=>?_) λc b z=>z
 .intro m σ1 e C T d H' b I1 F Te k hx;let⟨C',R,bl,hx⟩:=hx;cases R;have I2:Inv X Z σ1 (upd H' e<|XF C d e T) b:=I1.untrial I.ok;have y:upd H' e (XF C d e T) e=some (XF C d e T):=ce;let⟨⟨t,ge⟩,_,_⟩:=(show zAe X.prog X.w (upd H' e<|XF C d e T) b.heap e (XF C d e T) from I2.hok e _ y)
  erw[<-wpAny_handleBy_cons (ij I2 y bl J G p ?_) (by intro z;cases z),<-codeAny_handlers_suite (gq ge k λh' kp=>?_)];have I3:Inv X Z σ1 (upd H' e<|XF C d e T) {b with heap:=h'}:=I2.kept (t':=b.toks) kp;refine wpAny_mono (E e Z _ _ _ D I3.suite<|hx e T F) (λf S g=>?_) λ_ _ z=>False.elim z;cases f with
  |next=>let⟨O',H5,I5,q⟩:=g;exact⟨_,H5,I5.unsuite I.ok,q⟩
  |brk=>let⟨O',H5,I5,q⟩:=g;exact⟨_,H5,I5.unsuite I.ok,q⟩
  |cont=>let⟨O',H5,I5,q⟩:=g;exact⟨_,H5,I5.unsuite I.ok,q⟩
  |ret u=>let⟨v,O',H5,I5,r,q⟩:=g;exact⟨v,_,H5,I5.unsuite I.ok,r,q⟩
 .have j:=SP.untrial I.ok q;cases f with
  |next=>exact wpAny_execs_nil j
  |brk=>exact j
  |cont=>exact j
  |ret u=>exact j
end
section
variable{prog:Program}{w:World}{A:Around}{K:xFr}{h:Heap}{g:Array GenState}{d:Drawn}{tk:Nat}{os:OsState}{E:B2->B3->Prop}{e C t0 T0 dx:B5}{name:Str}{v:B2}{mA:Str->B1 B2}
def rZ{b:B6}{Q:B2->B3->Prop}(KX:K.In h)(S:XGt K C)(n:W.findIn K (.ref C) name=some none)(ge:h.get? e=some (zF3 C t0 T0<|some dx))(m:h.Ns1 dx mA)(o:mA name=some v)(x:W.handedIn v=true)(p:Q v ⟨h,g,d,tk+1,os⟩):wpAny (model prog w) A (getAttr (.ref e) name b) Q E ⟨h,g,d,tk,os⟩:=by
 let⟨l,go,r⟩:=iE m;have m0J:PySem.W.InstAt h e (zF3 C t0 T0<|some dx) C<|some l:=⟨ge,rfl,rfl,go⟩
 have lf:=W.looks_find (M:=model prog w) KX m0J (W.findObj_own S.hd n rfl<|by rw[r,o]);have lg:=W.looks_findIn (M:=model prog w) KX S.ga;have ln:=W.looks_findIn (M:=model prog w) KX S.ng;have isB:PySem.W.Looks (model prog w) h (isInstance (.ref e)<|.type "BaseException") true:=m0J.type.andThen<|W.looks_mroIn KX S.mb;have y:=PySem.F.attr_ValueError.ga.bind<|.ref e;have j:(b&&onTheHeap (Value.builtin "BaseException.__getattribute__"))=false:=by cases b <;> rfl
 have c:(Value.builtin "BaseException.__getattribute__" == Value.builtin "object.__getattribute__")=false:=by decide +kernel
 have i:(onTheHeap (Value.ref C)&&Value.builtin "BaseException.__getattribute__" == Value.builtin "object.__getattribute__")=false:=by rw[c];rfl
 unfold getAttr getAttrBy;refine xAd<|wpAny_mkText<|xDc<|xAd<|m0J.type.here (s:=⟨h,g,d,tk+1,os⟩)<|xAd<|lg.here (s:=⟨h,g,d,tk+1,os⟩) ?_;dsimp only;rw[xCf<|by rw[i];decide];unfold getAttrByItsOwn hookBefore;rw[xCg<|show onTheHeap (Value.ref C)=true from rfl];refine xAd<|ln.here (s:=⟨h,g,d,tk+1,os⟩)<|xAd<|wpAny_attempt<|xDc ?_;unfold callGetattribute;rw[xCf<|by rw[j];decide];unfold boundAndCalled;rw[y];refine xAd<|xAe ?_;have kd:builtinKind "BaseException.__getattribute__"=some .slot:=by decide +kernel
 have k:splitId "BaseException.__getattribute__"=some ("BaseException","__getattribute__"):=by decide +kernel
 refine wpAny_call<|codeAny_call_builtin PySem.F.attr_ValueError.ga.plain PySem.F.entry_bexc_ga<|@PySem.W.check_slot (model prog w) _ _ ⟨h,g,d,tk+1,os⟩ "BaseException.__getattribute__" "BaseException" "__getattribute__" (.ref e) [.str name tk] [] _ kd k isB (PySem.F.args_bexc_ga (.ref e)<|.str name tk) ?_;unfold Builtin.«object.__getattribute__»;erw[<-xAd<|xAe<|xAd<|xAe<|xAd<|m0J.type.here (s:=⟨h,g,d,tk+1,os⟩)<|xAd<|lf.here (s:=⟨h,g,d,tk+1,os⟩) ?_,xAe];show wpAny _ _ (handedOut v) _ _ _;rw[W.handedOut_of x];exact xAe p
end
def zDt(K:xFr)(c:TE)(f:Str):TE:=λO H Q=>c O H λx H1=>∃e C b T fs v,x=.ref e/\H1 e=some (XF C (some b) e T)/\H1 b=some (.xd fs)/\XGt K C/\zAw K C f/\fs.lookup f=some v/\Q v H1
section
variable{X:Cx}{o:B4}{f:Str}{pos:Pos}{ta:TE}
def qF(B:PE X o ta)(E:attributeBase o f X.env (eval o X.env)=eval o X.env):PE X (.Attribute o f pos)<|zDt X.K ta f:=by
 intro Z s O H Q I h;refine nN E (thn (B Z s O H _ I h) λu m k=>?_);let⟨x,H1,I1,p,e,C,c,T,fs,v,F,J,G,S,n,l,q⟩:=k;subst F;obtain rfl:u=Value.ref e:=p;let⟨j,g,d,tk,R⟩:=m;let⟨⟨N,ge⟩,_,_⟩:=(show zAe X.prog X.w H1 j e (XF C (some c) e T) from I1.hok e _ J)
 let⟨mA,r,b⟩:=(show zAe X.prog X.w H1 j c (.xd fs) from I1.hok c _ G)
 let⟨L,y,i⟩:=zCa.some_of (v:=v) (o:=mA f) (by rw[<- l];exact b f);exact rZ I1.kIn S n ge r y (iH i) ⟨v,H1,I1.tok _,i,q⟩
end
end L2
namespace L2
open PySem PySem.Spec PyProof.Rows
inductive Al(H:Hp):Nat->V->V->Prop where
 |flat {n:Nat} {x:V}:zBs x=true->Al H n x x
 |same {n:Nat} {a:Addr}:Al H n (.ref a) (.ref a)
 |tup {n:Nat} {a b:Addr} {xs ys:List V}:H a=some (.tup xs)->H b=some (.tup ys)->xs.length=ys.length->(∀(j:Nat)(x y:V),xs[j]?=some x->ys[j]?=some y->Al H n x y)->Al H (n+1) (.ref a) (.ref b)
 |lst {n:Nat} {a b:Addr} {xs ys:List V}:H a=some (.lst xs)->H b=some (.lst ys)->xs.length=ys.length->(∀(j:Nat)(x y:V),xs[j]?=some x->ys[j]?=some y->Al H n x y)->Al H (n+1) (.ref a) (.ref b)
theorem gL{P:Program}{w:World}{H:Hp}{s:B3}(g:HOk P w H s.heap){n:Nat}{x y:V}(h:Al H n x y):∀{A:Around}{u v:B2},zAj x u->zAj y v->A.units+n<cLine->SeqAt.EqAt A s u v true:=by
 induction h with
 |@flat n x f=>
  intro A u v i r2 _;have:=sj (A:=A) (s:=s) i r2 f f;rw[sd f] at this;exact this
 |@same n a=>
  intro A u v i r2 _;cases (show u=Value.ref a from i);cases (show v=Value.ref a from r2);exact SeqAt.EqAt.same _
 |@tup n a b p m L K J _ D=>
  intro A u v i r2 O;cases (show u=Value.ref a from i);cases (show v=Value.ref b from r2);by_cases hab:a=b
  .subst hab;exact SeqAt.EqAt.same _
  .let⟨_,d,l,r⟩:=(show zAe P w H s.heap a (.tup p) from g a _ L)
   let⟨_,c,k,t2⟩:=(show zAe P w H s.heap b (.tup m) from g b _ K)
   have E:∀j (R:j<d.toArray.size) (Q:j<c.toArray.size),SeqAt.EqAt A.in1 s d.toArray[j] c.toArray[j]<|(λ_=>true) j:=λj C B=>by
    let⟨q,N,G⟩:=c8 l C;let⟨o,M,F⟩:=c8 k B;exact D j q o N M G F (by show A.units+1+n<cLine;lia)
   erw[SeqAt.EqAt.of_refs hab];have:=SeqAt.RcAt.tuples (e:=λ_=>true) r t2 () E;have I:((List.range<|min d.toArray.size c.toArray.size).all (λ_=>true)&&d.toArray.size==c.toArray.size)=true:=by
    rw[xAp,xAp,<- l.length,<- k.length,J];simp
   rw[I] at this;exact this
 |@lst n a b p m L K J _ D=>
  intro A u v i r2 O;cases (show u=Value.ref a from i);cases (show v=Value.ref b from r2);by_cases hab:a=b
  .subst hab;exact SeqAt.EqAt.same _
  .let⟨_,d,W,l,r⟩:=(show zAe P w H s.heap a (.lst p) from g a _ L)
   let⟨_,c,T,k,t2⟩:=(show zAe P w H s.heap b (.lst m) from g b _ K)
   have E:∀j (R:j<d.toArray.size) (Q:j<c.toArray.size),SeqAt.EqAt A.in1 s d.toArray[j] c.toArray[j]<|(λ_=>true) j:=λj C B=>by
    let⟨q,N,G⟩:=c8 l C;let⟨o,M,F⟩:=c8 k B;exact D j q o N M G F (by show A.units+1+n<cLine;lia)
   erw[SeqAt.EqAt.of_refs hab];have S:d.toArray.size=c.toArray.size:=by rw[xAp,xAp,<- l.length,<- k.length,J]
   have:=SeqAt.RcAt.lists (e:=λ_=>true) ⟨_,r,rfl,_,rfl⟩ ⟨_,t2,rfl,_,rfl⟩ S () E;have I:(List.range d.toArray.size).all (λ_=>true)=true:=xCx.mpr λ_ _=>rfl;rw[I] at this;exact this
section
variable{X:Cx}
def rAl(b:B6):R2:=λx y H Q=>∃p q c a n,x=.ref p/\y=.ref q/\H p=some (.tup c)/\H q=some (.tup a)/\c.length=a.length/\n<=90/\(∀(j:Nat)(x y:V),c[j]?=some x->a[j]?=some y->Al H n x y)/\Q (.bl b) H
def uw(R:X.A.units+100<cLine):OpR X (compareOp .NotEq)<|rAl false:=by
 intro Z s O H x y v u Q I B r h;let⟨a,b,m,k,n,rfl,rfl,L,K,J,S,P,q⟩:=h;cases (show v=Value.ref a from B);cases (show u=Value.ref b from r);let⟨_,d,i,p⟩:=(show zAe X.prog X.w H s.heap a (.tup m) from I.hok a _ L)
 let⟨_,c,g,t2⟩:=(show zAe X.prog X.w H s.heap b (.tup k) from I.hok b _ K)
 have E:∀j (W:j<d.toArray.size) (T:j<c.toArray.size),SeqAt.EqAt X.A.in1 s d.toArray[j] c.toArray[j]<|(λ_=>true) j:=λj D C=>by
  let⟨o,N,G⟩:=c8 i D;let⟨l,M,F⟩:=c8 g C;exact gL I.hok (P j o l N M) G F (by show X.A.units+1+n<cLine;lia)
 erw[(SeqAt.RcNeAt.tuples (e:=λ_=>true) p t2 () E) X.prog X.w X.xe _,cj I q];rw[xAp,xAp,<- i.length,<- g.length,J];simp
def uz(R:X.A.units+100<cLine):OpR X (compareOp .Eq)<|rAl true:=by
 intro Z s O H x y v u Q I B r h;let⟨a,b,m,k,n,rfl,rfl,L,K,J,S,P,q⟩:=h;cases (show v=Value.ref a from B);cases (show u=Value.ref b from r);let⟨_,d,i,p⟩:=(show zAe X.prog X.w H s.heap a (.tup m) from I.hok a _ L)
 let⟨_,c,g,t2⟩:=(show zAe X.prog X.w H s.heap b (.tup k) from I.hok b _ K)
 have E:∀j (W:j<d.toArray.size) (T:j<c.toArray.size),SeqAt.EqAt X.A.in1 s d.toArray[j] c.toArray[j]<|(λ_=>true) j:=λj D C=>by
  let⟨o,N,G⟩:=c8 i D;let⟨l,M,F⟩:=c8 g C;exact gL I.hok (P j o l N M) G F (by show X.A.units+1+n<cLine;lia)
 erw[SeqAt.eq_tupleAt (e:=λ_=>true) p t2 () E,cj I q];rw[xAp,xAp,<- i.length,<- g.length,J];simp
end
end L2
namespace HT
open PySem PyProof.Rows
section
open PySem.SeqAt
open PySem.AutoSeq1 (wpAny_loadPart')
open PySem.MeetsSeq PySem.MeetsSeq2 PySem.MeetsSeq3
section
variable{prog:Program}{w:World}{A:Around}{E:B2->B3->Prop}{s:B3}
def getItem_tuple_all{t b:B5}{items:Array B2}{i g:B2}{lo hi:B1 Int}{Q:B2->B3->Prop}(a:IsTup s.heap t items)(k:s.heap.IsSliceOf b i g .none)(pl:IsPart i lo)(l:IsPart g hi)(j:sIx items.size 0 lo=0/\sIx items.size items.size hi=items.size)(h:Q (.ref t) s):wpAny (model prog w) A (getItem (.ref t)<|.ref b) Q E s:=by
 have o:sIx items.size items.size hi<=items.size:=pT _ _ (xAg _) hi;let⟨m,c,d,n⟩:=id k;have e:s.TypeIs (.ref b) "slice":=⟨m,c,d⟩
 unfold getItem;try with_reducible refine xDc ?_
 first|refine xAd (xAe ?_)|skip
 refine xAd<|wpAny_sequenceKey a.typeIs ∅ ?_;refine xAd (wpAny_callSpecial?_slot (name:=Str.ofString "__getitem__") a.typeIs PyProof.Rows.slot_tuple_getitem
  (wpAny_call_entry PyProof.Rows.slot_tuple_getitem a.typeIs entry_tuple_getitem ?_<|args_tuple_getitem _ _))
 show wpAny _ _ (Builtin.Tuple.tupleItemsOf (.ref t)>>=_) _ _ s;erw[<-xAd<|tupleItemsOf_ a ?_,<-xAd<|wpAny_typeOf e ?_];rw[xCg ∅];refine xAd<|dX k pl l ?_;show wpAny _ _ (if(((sIx items.size 0 lo:Nat):Int)==0&&(1:Int)==1&&(sIx items.size items.size hi-sIx items.size 0 lo)==items.size)=true then _ else _) _ _ s;rw[xCg<|by rw[j.1,j.2];simp];erw[xAd];unfold Builtin.Tuple.tupleIsExact;refine xAd<|wpAny_typeOf a.typeIs<|xAe ?_;rw[xCg ∅];refine xAd<|wpAny_rule ?_;exact xAe ⟨_,rfl,xAe h⟩
end
end
end HT
namespace L2
open PySem PySem.Spec PyProof.Rows
def zIi(K:xFr):V->B1 Int->B1 Int->Hp->VK->Prop:=λx c d H Q=>∃a b,x=.ref a/\SqT K H a b/\(HT.sIx b.length 0 c=0/\HT.sIx b.length b.length d=b.length)/\Q (.ref a) H
def mn{X:Cx}:SlR X<|zIi X.K:=by
 intro Z s O H x v n m p y o Q I g l pl i h;let⟨a,e,rfl,j,k,q⟩:=h;cases g;let⟨c,r,d,w⟩:=I.tuple j;have b:c.toArray.size=e.length:=by rw[xAp];exact r.length.symm
 refine⟨"tuple",_,PyProof.Rows.slot_tuple_getitem.lookup,d.typeIs,?_⟩;exact HT.getItem_tuple_all d l pl i (by rw[b];exact k) ⟨.ref a,H,I,rfl,q⟩
end L2
namespace SetA
open PySem PySem.SetTable
def fA{J:Type}(xs:Array J)(p:Nat)(x:J):(insertAt xs p x).size=xs.size+1:=by
 rw[<- Array.length_toList,toList_insertAt];simp only[xAb,List.length_take,xAo,List.length_drop,Array.length_toList];lia
noncomputable def zA9(es:Array<|Int×B2)(a:Nat)(t:SetTable):Obj:={cls:=.type "set",dict:=none,data:=.set es a t,slots:=#[]}
end SetA
namespace SetA
open PySem PySem.Spec PySem.SetTable PyProof.Rows
section
variable{prog:Program}{w:World}{A:Around}{E:B2->B3->Prop}{s:B3}
def uH(x:B2){Q₁:B2->B3->Prop}(h:∀a:B6,(a=true\/w.params.followText "set-order"=true)->Q₁ (.ref s.heap.objs.size) {s with heap:=s.heap.push<|zA9 #[] 0 (.fresh 0 0 a)}) :
  codeAny (model prog w) A (.call (.builtin "set.__new__") ⟨[.type "set",x],[]⟩) (wants Q₁ E) s:=by
 erw[codeAny_of_tree];change wpAny _ A.in1 (do checkBuiltinCall "set.__new__" ⟨[.type "set",x],[]⟩;again (.builtin "set.__new__" ⟨[.type "set",x],[]⟩)) _ _ s;refine xAd<|wpAny_of_eq (PySem.F.newCall_set_1 x)<|xAe ⟨plainId_quiet PySem.F.plain_set_new _,codeAny_builtin PySem.F.entry_set_new ?_⟩;rw[Around.under_plainId PySem.F.plain_set_new _];unfold Builtin.«set.__new__» Builtin.Frozenset.newClass;have b:=sub_set_self;let⟨e,g,i,c,d⟩:=s;dsimp only;wp_walk
 refine wpAny_askSetting<|xAe ?_;dsimp only;simp only[newObj];refine xAd<|wpAny_alloc<|xAe<|xAe<|h _ ?_;change(!(w.params.followText "set-order"))=true\/w.params.followText "set-order"=true;cases w.params.followText "set-order" <;> simp
end
end SetA
namespace L2
open PySem PySem.Spec PyProof.Rows
variable{s:B3}{scope:Scope}{env:Env}{X:Cx}{Z:B0<|B5×Obj}{O:St}{H:Hp}{i n:Nat}{fp:B0 B5}{es:B0 B4}{e:B4}
structure zCb(X:Cx)(scope:Scope)(cl:B0 (Str×B5))(ls N:B7)(fr:B9):Prop where
 clos:closureFor scope X.env=pure cl
 cell:∀y∈scope.names,y.2≠.cell
 kind:scope.kind=.function
 names:∀y∈scope.names,y.2=.local->scope.names.lookup y.1=some .local
 sub:∀y c,cl.lookup y=some c->X.env.cells.lookup y=some c
 has:∀y∈scope.names,y.2=.free->∃c,cl.lookup y.1=some c
 caps:∀(j:Nat)(y:Str),N[j]?=some y->∃k c,fr[j]?=some k/\X.N[k]?=some y/\Vis X.env.scope y/\X.env.kindOf y≠some .local/\cl.lookup y=some c/\(scope.names.lookup y=some .free)
 len:N.length=fr.length
theorem lO{prog:Program}{w:World}{A:Around}{R:Result->B3->Prop}{j target d:B4}{g:B0 B4}{pos:Pos}{it acc:B2}(b:Nat->B3->Prop)(go:∀n s,b n s->wpAny (model prog w) A (pyNext it) (λr l=>match r with
   |none=>R (.ok .next) l
   | some v=>wpAny (model prog w) A (letOwnedTupleGo target it v) (λ_ y=>wpAny (model prog w) A (assign target env v) (λ_ q =>
     wpAny (model prog w) A (forIn g true λc r=>if r=true then do let ok <- isTrue c env (eval c env);pure (ForInStep.yield ok) else pure (ForInStep.yield r)) (λok k =>
      if ok=true then wpAny (model prog w) A (eval j env) (λx p=>wpAny (model prog w) A (call (.builtin "list.append") [acc,x]) (λ_ o=>∃m,m<n/\b m o) (notedBy (model prog w) A env λe a=>R (.error e) a) p) (notedBy (model prog w) A env λe a=>R (.error e) a) k
      else ∃m,m<n/\b m k) (notedBy (model prog w) A env λe a=>R (.error e) a) q) (notedBy (model prog w) A env λe a=>R (.error e) a) y) (notedBy (model prog w) A env λe a=>R (.error e) a) l) (notedBy (model prog w) A env λe a=>R (.error e) a) s)(n:Nat)(h:b n s):codeAny (model prog w) A (.compLoop (.ListComp j [⟨target,d,g,0⟩] scope pos) 0 it acc env) R s:=by
 refine codeAny_loop rfl b (λn s D=>?_) n h;change wpAny _ A ((compTurn (.ListComp j [⟨target,d,g,0⟩] scope pos) 0 it acc env).onRaise λx=>do noteFrame x env;theTreesLotGoes x) _ _ s;erw[wpAny_noted];rw[compTurn_list];refine xAd (wpAny_standAt<|xAd<|wpAny_mono (go n s D) (λr l C=>?_) λ_ _ z=>z);cases r with
 |none=>exact xAe C
 |some v=>
  erw[<-xAd (wpAny_mono C (λ_ y I=>?_) λ_ _ z=>z),<-xAd (wpAny_mono I (λ_ q G=>xAd<|wpAny_mono G (λok k B=>?_) λ_ _ z=>z) λ_ _ z=>z)];cases ok with
  |false=>exact xAe ⟨rfl,B⟩
  |true=>exact xAd (xAd<|wpAny_mono B (λx p F=>xAd<|wpAny_mono F (λ_ o E=>xAe<|xAe ⟨rfl,E⟩) λ_ _ z=>z) λ_ _ z=>z)
def PTs(X:Cx)(a:B0 B4)(t:TT):Prop:=
 ∀(Z:B0<|B5×Obj)(s:B3)(O:St)(H:Hp)(Q:B6->Hp->Prop),Inv X Z O H s->t O H Q ->
  wpAny (model X.prog X.w) X.A (forIn a true λc r=>if r=true then do let ok <- isTrue c X.env (eval c X.env);pure (ForInStep.yield ok) else pure (ForInStep.yield r)) (TP X Z O Q) X.xe s
def zJo:TT:=λ_ H Q=>Q true H
def mH:PTs X [] zJo:=λ_ _ _ H _ I h=>wpAny_tests_nil ⟨H,I,h⟩
def zGx(wi:TI)(m:Nat)(fr:B9)(g:TG)(j:TT)(h:TE):TE:=λO H Q=>wi O H λa H1=>∀D,H1 D=none->∃W:Nat->Nat->C0->Hp->Prop,(∃k,W 0 k []<|upd H1 D<|.lst [])/\∀i k ys H,W i k ys H->H D=some (.lst ys) /\
 ((a.stop i H/\Q (.ref D) H)\/(a.go i H/\ys.length<sizeLine/\∃N:C0->Hp->Prop,(∀c H',N c H'->∃d,d<k/\W (i+1) d c H') /\
  ∀x H',a.yld i H x H'->g x (List.replicate m none++zC3 O fr) H' λσ2 H2=>σ2.drop m=zC3 O fr/\σ2.length=m+fr.length /\
   j σ2 H2 λb H3=>H3 D=some (.lst ys)/\if b=true then h σ2 H3 λv H4=>H4 D=some (.lst ys)/\N (ys++[v]) (upd H4 D<|.lst<|ys++[v]) else N ys H3))
def Inv.forget{O':St}(I:Inv X Z O H s)(a:O'.length=O.length)(h:∀(i:Nat)(v:V),O'[i]?=some (some v)->O[i]?=some (some v)):Inv X Z O' H s:=
 ⟨I.ok,I.os,I.bare,I.base,let ⟨m,c,b⟩:=I.loc;⟨m,c,λi x v j g d=>b i x v j (h i v g) d⟩,I.cell,I.free,I.freeC,I.pin,I.hok,a.trans I.len⟩
def kc{m:Nat}{cs:St}{v:V}(h:(List.replicate m none++cs)[i]?=some (some v)):m<=i/\cs[i-m]?=some (some v):=by
 by_cases hi:i<m
 .rw[List.getElem?_append_left (by simpa using hi),List.getElem?_replicate,xCg hi] at h;cases h
 .rw[xCl (by simp;lia),xCu] at h;exact⟨(),h⟩
section
variable{X:Cx}{elt tg iter:B4}{ifs:B0 B4}{pos:Pos}{scope:Scope}{cl:B0<|Str×B5}{ls N:B7}{fr:B9}{wi:TI}{g:TG}{tc:TT}{te:TE}
def sD{C:B5}(cp:zCb X scope cl ls N fr)(I:Inv X Z O H s)(j:s.heap.objs.size<=C)(d:∀b∈fp,zC4 X Z H b)(l:∀b∈fp,b<s.heap.objs.size) :
  (zAo X (ls++N) scope cl C s H fp).Ok where
 mod:=I.ok.mod
 kind:=cp.kind
 glob:=I.ok.glob
 blt:=I.ok.blt
 above:=j
 inj:=λy z c r p=>I.ok.inj y z c (cp.sub y c r)<|cp.sub z c p
 has:=λy h=>by
  have h':(relabel scope X.env).names.lookup y=some .cell\/(relabel scope X.env).names.lookup y=some .free:=h;rcases h' with h'|h'
  .obtain⟨k,m,z|⟨z,_⟩⟩:=gm h'
   .subst z;exact absurd rfl<|cp.cell _ m
   .subst z;exact cp.has _ m rfl
  .obtain⟨k,m,z|⟨_,z⟩⟩:=gm h'
   .subst z;exact cp.has _ m rfl
   .cases z
 cab:=λ_ _ e=>absurd e xAy
 hd:=I.ok.hd
 frames:=I.ok.frames
 stk:=.inl rfl
 exf:=λb a=>⟨xA0<|xBc (l b a) j,λy c e z=>(d b a).2.2.2.2.1 y c (cp.sub y c e) z⟩
 bs:=I.bs
 bsz:=xCk I.ok.bsz I.sz
 noex:=λb o e a=>by
  have q:=d b a;rcases q.2.2.2.1 with z|z
  .exact I.ok.noex b o e z
  .have:=xA1 (I.ok.bs b o e).1;exact absurd (xBc this z)<|xBo _
 exfs:=λb a z=>by
  have q:=d b a;rcases xAv.mp (I.stkSub b z) with z'|z'
  .exact q.2.1 z'
  .exact q.2.2.1 z'
 funs:=I.stack
 frf:=I.stkFree
def kN{pos':Pos}{Q:VK}{use:B1<|B2->Sem Unit}{QQ:B2->B3->Prop}(hc:X.calm=true)(cp:zCb X scope cl ls N fr)(hi:PI X tg iter wi)(hg:∀C s H fp,PG (zAo X (ls++N) scope cl C s H fp) tg g)(ht:∀C s H fp,PTs (zAo X (ls++N) scope cl C s H fp) ifs tc)(he:∀C s H fp,PE (zAo X (ls++N) scope cl C s H fp) elt te)(hs:∀v,foldedSetIterable iter X.env v=pure v)(I:Inv X Z O H s)(h:zGx wi ls.length fr g tc te O H Q)(fin:∀(B C:B5)(H':Hp)(L:B3)(m:Str->B1 B2),Inv X Z O H' L->zC4 X Z H' C->L.heap.Ns C m->Q (.ref B) H'->compPost (model X.prog X.w) X.A X.xe use QQ (.ref B) C (.ok .next) L) :
  wpAny (model X.prog X.w) X.A (comprehension (.ListComp elt [⟨tg,iter,ifs,0⟩] scope pos) scope X.env pos' (newList []) false (eval iter X.env) use) QQ X.xe s:=by
 refine wpAny_comprehension_free (use:=use) rfl hs cp.clos cp.kind cp.names (thn (hi Z s O H _ I h) λv s1 h1=>thn h1 λitv a h2=>?_);let⟨it,fp,tn,m0J,H2,e,I2,T,K,f2,R⟩:=h2;subst e;have hfl:∀b∈fp,b<a.heap.objs.size:=λb l=>let ⟨o,e,_⟩:=T.obj _ _ K b l;xA1 e;refine xBl<|wpAny_newFunctionEnv cp.cell (by intro y hy;simp at hy) (λh1 G D=>?_) cp.kind;dsimp only at G D⊢;generalize hG:a.heap.push {cls:=.type "list",dict:=none,data:=.seq ([]:C3).toArray}=G2 at G D⊢;have hCs:G2.objs.size=a.heap.objs.size+1:=by rw[<- hG,Heap.size_push]
 have hDC:a.heap.objs.size≠G2.objs.size:=by rw[hCs];exact xA0<|Nat.lt_succ_self _
 have x:a.heap.objs.size<=G2.objs.size:=by rw[hCs];exact Nat.le_succ _
 have E:∀b o,a.heap.get? b=some o->h1.get? b=some o:=λb o e=>D.extBut b o (xA0<|xBc (xA1 e) x)<|xAf _<|hG▸xAf _ e;have hacc:h1.get? a.heap.objs.size=some {cls:=.type "list",dict:=none,data:=.seq ([]:C3).toArray}:=D.extBut _ _ hDC<|xAf _<|hG▸xAl _ rfl;have hDn:H2 a.heap.objs.size=none:=I2.hok.fresh<|xAg _;have hCn:H2 G2.objs.size=none:=I2.hok.fresh x;let⟨W,⟨m0,w0⟩,turn⟩:=R a.heap.objs.size hDn;have M:=sD (C:=G2.objs.size) cp I2 x f2 hfl;have I3:Inv (zAo X (ls++N) scope cl G2.objs.size a H2 fp) [] (List.replicate ls.length none++zC3 O fr) (upd H2 a.heap.objs.size<|.lst []) {a with heap:=h1,toks:=a.toks+([]:B0<|Str×B2).length}:=by
  refine⟨M,rfl,I2.bare,Un.laid E (xAg _) hDn,⟨_,G,λi y v e1 e2 e3=>?_⟩,λy c e=>?_,?_,λy c e=>?_,(λp hp=>nomatch hp),I2.hok.laid E (xAg _) ⟨xBn _,[],0,.nil,hacc⟩,?_⟩
  .let⟨hm,P⟩:=kc e2;have e1':N[i-ls.length]?=some y:=by
    have e1'':(ls++N)[i]?=some y:=e1;rw[xCl hm] at e1'';exact e1''
   let⟨k,c,g1,g2,g3,g4,g5,g6⟩:=cp.caps _ y e1';have e4:O[k]?=some (some v):=by
    unfold zC3 at P;rw[xAw,g1] at P;have e5:(O[k]?).join=some v:=xB3 P;cases z:O[k]? with
    |none=>rw[z] at e5;cases e5
    |some o=>rw[z] at e5;exact congrArg some e5
   let⟨m2,_,hl2⟩:=I2.loc;let⟨u,r,lk⟩:=hl2 k y v g2 e4 g3;refine⟨u,r,.inr ⟨dz g6,c,g5,?_⟩⟩;rcases lk with ⟨lk,_⟩|⟨_,c',lk1,o,lk2,lk3⟩
   .exact absurd lk g4
   .have:=cp.sub y c g5;rw[lk1] at this;cases this;exact⟨o,E _ _ lk2,lk3⟩
  .let⟨v,o,e1,e2⟩:=I2.cell y c<|cp.sub y c e;exact⟨v,o,E _ _ e1,e2⟩
  .show upd H2 a.heap.objs.size (.lst []) G2.objs.size=none;rw[cb<|Ne.symm hDC];exact hCn
  .let⟨v,o,e1,e2⟩:=I2.cell y c<|cp.sub y c e;rw[cb<|xA0<|xA1 e1];exact I2.freeC y c<|cp.sub y c e
  .change(List.replicate ls.length none++zC3 O fr).length=(ls++N).length;unfold zC3;rw[xAb,xAb,xCu,xAa,cp.len]
 have F:∀{H':Hp},(∀b∈fp,H' b=none)->∀b∈fp,zC4 (zAo X (ls++N) scope cl G2.objs.size a H2 fp) [] H' b:=λhn b l=>
  ⟨hn b l,xA0<|xBc (hfl b l) x,M.exfs b l,.inl l,(M.exf b l).2,λp hp=>nomatch hp⟩
 have loop:∀s3:B3,s3={a with heap:=h1,toks:=a.toks+([]:B0<|Str×B2).length} ->
   codeAny (model X.prog X.w) X.A (.compLoop (.ListComp elt [⟨tg,iter,ifs,0⟩] scope pos) 0 (.ref it) (.ref a.heap.objs.size)<|compEnvC scope cl G2.objs.size X.env)
    (compPost (model X.prog X.w) X.A X.xe use QQ (.ref a.heap.objs.size) G2.objs.size) s3:=by
  rintro s3 rfl
  refine lO (λn s'=>∃i ys H',Inv (zAo X (ls++N) scope cl G2.objs.size a H2 fp) [] (List.replicate ls.length none++zC3 O fr) H' s'/\tn i s'.heap/\(∀b∈fp,H' b=none)/\W i n ys H') ?_ m0
   ⟨0,[],_,I3,T.keep _ _ _ K λb l o e=>E b o e,λb l=>by rw[cb<|xA0<|hfl b l];exact(f2 b l).1,w0⟩
  rintro n s' ⟨i,ys,H',IY,st,frn,w'⟩
  let⟨hD,hh⟩:=turn i n ys H' w';rcases hh with ⟨stop,q⟩|⟨go,hz,Nx,hN,step⟩
  .refine wpAny_mono (T.done (zAo X (ls++N) scope cl G2.objs.size a H2 fp) rfl rfl rfl hc i [] s' _ H' (λ_ _=>False) IY (F frn) st stop) (λr L h4=>?_) (λ_ _ z=>z.elim);let⟨hr,I4⟩:=h4;subst hr;let⟨mY,hnY,_⟩:=I4.loc;have I5:Inv X Z O H' L:=Inv.call' (s:=a) (H:=H2) (ch:=fp) I2 I4.os I4.base I4.hok I4.bare (λb l=>⟨(f2 b l).2.2.2.1,(f2 b l).2.1,(f2 b l).2.2.2.2.1,(f2 b l).2.2.2.2.2⟩);exact fin _ _ H' L mY I5 (I2.fpOk x I4.free) hnY q
  .refine wpAny_mono (T.item (zAo X (ls++N) scope cl G2.objs.size a H2 fp) rfl rfl rfl hc i [] s' _ H' (λ_ _=>False) IY (F frn) st go) (λr L h4=>?_) (λ_ _ z=>z.elim);let⟨u,hr,h4⟩:=h4;subst hr;refine wpAny_mono h4 (λ_ s5 h5=>?_) (λ_ _ z=>z.elim);let⟨xv,H5,I5,r5,y5,J,fr5⟩:=h5;have I5':=I5.pinned (F fr5)<|T.obj _ _ J;refine wpAny_mono (hg G2.objs.size a H2 fp _ s5 _ H5 xv u _ I5' r5<|step xv H5 y5) (λ_ s6 h6=>?_) (λ_ _ z=>z.elim);let⟨σ6,H6,I6,c6,l6,t6⟩:=h6;have back:∀{H7:Hp}{S:B3},Inv (zAo X (ls++N) scope cl G2.objs.size a H2 fp) ([]++zCf fp s5.heap) σ6 H7 S->Inv (zAo X (ls++N) scope cl G2.objs.size a H2 fp) [] (List.replicate ls.length none++zC3 O fr) H7 S/\tn (i+1) S.heap/\∀b∈fp,H7 b=none:=λ{H7 S} I7=>by
    refine⟨I7.unpinned.forget ?_ λj v e=>?_,T.keep _ _ _ J λb l o e=>(I7.pin (b,o)<|xBt _<|xBt _<|eP l e).1,λb l=>?_⟩
    .rw[l6,xAb,xCu];unfold zC3;rw[xAa]
    .let⟨hm,e'⟩:=kc e;rw[<- c6,List.getElem?_drop] at e';rw[show j=ls.length+(j-ls.length) by lia];exact e'
    .let⟨o,e,d⟩:=T.obj _ _ J b l;exact(I7.pin (b,o)<|xBt _<|xBt _<|eP l e).2.1
   refine wpAny_mono (ht G2.objs.size a H2 fp _ s6 _ H6 _ I6 t6) (λok S Y=>?_) (λ_ _ z=>z.elim);let⟨H7,I7,hD7,Y⟩:=Y;cases ok with
   |false=>
    rw[xCf xAy] at Y⊢;let⟨k',hk,w8⟩:=hN _ _ Y;let⟨b1,b2,b3⟩:=back I7;exact⟨k',hk,i+1,ys,H7,b1,b2,b3,w8⟩
   |true=>
    rw[xCg rfl] at Y⊢;refine wpAny_mono (he G2.objs.size a H2 fp _ S _ H7 _ I7 Y) (λxv' s8 h8=>?_) (λ_ _ z=>z.elim);let⟨v8,H8,I8,r8,hD8,n8⟩:=h8;refine wpAny_mono (iC (X:=zAo X (ls++N) scope cl G2.objs.size a H2 fp) _ s8 _ H8 (.ref a.heap.objs.size) [v8] (.ref a.heap.objs.size) [xv'] (λv' H9=>H9=upd H8 a.heap.objs.size (.lst<|ys++[v8])) I8 rfl (.cons r8 .nil) ⟨a.heap.objs.size,ys,v8,rfl,rfl,hD8,hz,rfl⟩) (λ_ s9 h9=>?_) (λ_ _ z=>z.elim);let⟨v9,H9,I9,_,rfl⟩:=h9;let⟨k',hk,w9⟩:=hN _ _ n8;let⟨b1,b2,b3⟩:=back I9;exact⟨k',hk,i+1,ys++[v8],_,b1,b2,b3,w9⟩
 exact codeAny_compStart_list (loop _ rfl)<|T.self _ 0 _ _ _ (T.keep _ _ _ K λb l o e=>E b o e)<|loop _ rfl
def xn(w:X.calm=true)(y:zCb X scope cl ls N fr)(hi:PI X tg iter wi)(q:∀C s H fp,PG (zAo X (ls++N) scope cl C s H fp) tg g)(l:∀C s H fp,PTs (zAo X (ls++N) scope cl C s H fp) ifs tc)(r:∀C s H fp,PE (zAo X (ls++N) scope cl C s H fp) elt te)(p:∀v,foldedSetIterable iter X.env v=pure v:=by intro _;rfl):PE X (.ListComp elt [⟨tg,iter,ifs,0⟩] scope pos)<|zGx wi ls.length fr g tc te:=by
 intro Z s O H Q I h;rw[eval_ListComp];refine kN (use:=none) (QQ:=EP X Z O Q) w y hi q l r p I h λB C H' d m I4 a k j=>⟨m,k,λA c=>?_⟩
 exact⟨.ref B,H',I4.turned (t':=d.toks) (λb o x e=>c.extBut b o x e) a.1 a.2.1 a.2.2.2.1 a.2.2.2.2.1 a.2.2.2.2.2,rfl,j⟩
def qd{y:Str}{j c:Pos}(Q:X.N.Nodup)(p:X.N[i]?=some y)(r:X.env.scope.names.lookup y=some .local)(M:X.calm=true)(R:zCb X scope cl ls N fr)(hi:PI X tg iter wi)(K:∀C s H fp,PG (zAo X (ls++N) scope cl C s H fp) tg g)(G:∀C s H fp,PTs (zAo X (ls++N) scope cl C s H fp) ifs tc)(L:∀C s H fp,PE (zAo X (ls++N) scope cl C s H fp) elt te)(J:∀v,foldedSetIterable iter X.env v=pure v:=by intro _;rfl)(l:swapsWith (.ListComp elt [⟨tg,iter,ifs,0⟩] scope pos) (some<|.Name y j) c.line X.env=pure true:=by rfl) :
  PS X (.Assign [.Name y j] (.ListComp elt [⟨tg,iter,ifs,0⟩] scope pos) c) (zGl (zGx wi ls.length fr g tc te)<|zC0 i):=by
 intro Z s O H D I h;rw[exec_Assign_Name_used _ _ _ _ l];refine xAd (wpAny_standAt<|xAd ?_);change wpAny _ X.A (do let _ <- comprehension (.ListComp elt [⟨tg,iter,ifs,0⟩] scope pos) scope X.env _ (newList []) false (eval iter X.env) (some<|assign (.Name y j) X.env)) _ _ s;refine xAd (wpAny_mono (kN (use:=some<|assign (.Name y j) X.env) (QQ:=λ_ q=>SP X Z D .next q) M R hi K G L J I h λB C H' S m I4 d F E=>?_) (λ_ q z=>xAe<|xAe z) λ_ _ z=>z);change wpAny _ X.A (assign (.Name y j) X.env<|.ref B) _ _ _;refine wpAny_assign_Name (iy I4 Q p (.inl r) (v:=.ref B) rfl (λx I5 ⟨a,k,ha⟩=>?_)<|.inr r);have aC:C≠a:=by
  rcases ha with ha|ha
  .rw[ha];exact d.2.1
  .exact λz=>d.2.2.2.2.1 _ _ ha z.symm
 refine⟨m,F.sameBut k aC,λT w=>⟨_,H',?_,E⟩⟩;exact I5.turned (t':=x.toks) (λb o P e=>w.extBut b o P e) d.1 d.2.1 d.2.2.2.1 d.2.2.2.2.1 d.2.2.2.2.2
end
structure zCh(X:Cx)(scope:Scope)(cl:B0 (Str×B5))(y:Str)(k:Nat):Prop where
 ex:∃c,cl.lookup y=some c/\X.env.cells.lookup y=some c
 at':X.N[k]?=some y
 cell:X.env.scope.names.lookup y=some .cell
 free:scope.names.lookup y=some .free
theorem dn{J:Type}{y:Str}{c:J}:∀{l:B0<|Str×J},l.lookup y=some c->(y,c)∈l
 |[],h=>by simp at h
 |(z,d)::r,h=>by
  rw[List.lookup_cons] at h;by_cases e:y==z
  .rw[e] at h;cases xB3 h;rw[eq_of_beq e];exact xAr
  .rw[Bool.eq_false_iff.mpr e] at h;exact xAs _<|dn h
def zCb.mk'{cl:B0<|Str×B5}{ls N:B7}{fr:B9}(m:closureFor scope X.env=pure cl)(o:∀y∈scope.names,y.2≠.cell)(g:scope.kind=.function)(a:∀y∈scope.names,y.2=.local->scope.names.lookup y.1=some .local)(h:Paired (zCh X scope cl) N fr)(has:∀y∈scope.names,y.2=.free->y.1∈N)(hk:cl.map (·.1)=N):zCb X scope cl ls N fr:=by
 have get:∀{N:B7}{fr:B9},Paired (zCh X scope cl) N fr->∀(j:Nat)(y:Str),N[j]?=some y->∃k,fr[j]?=some k/\zCh X scope cl y k:=by
  intro N fr h;induction h with
  |nil=>intro j y e;simp at e
  |cons x tl w=>
   intro j y e;cases j with
   |zero=>simp at e;subst e;exact⟨_,rfl,x⟩
   |succ j=>exact w j y (by simpa using e)
 have d:∀y∈N,∃k,zCh X scope cl y k:=λy l=>by
  let⟨j,e⟩:=List.mem_iff_getElem?.mp l;let⟨k,_,c⟩:=get h j y e;exact⟨k,c⟩
 refine⟨m,o,g,a,λy c e=>?_,λy l e=>?_,λj y e=>?_,h.length⟩
 .have l:y∈N:=by
   rw[<- hk];have:=dn e;exact xA2.mpr ⟨_,this,rfl⟩
  let⟨k,⟨v,b,p⟩,_⟩:=d y l;rw[e] at b;cases b;exact p
 .let⟨k,⟨v,b,p⟩,_⟩:=d _<|has y l e;exact⟨v,b⟩
 .let⟨k,b,⟨c,p,A⟩,g1,g2,g3⟩:=get h j y e;refine⟨k,c,b,g1,.inr<|.inl g2,λq=>?_,p,g3⟩;have r:X.env.scope.names.lookup y=some .local:=q;rw[g2] at r;cases r
section
variable{X:Cx}
def zEs(b:B6):R2:=λx y H Q=>∃p q c a n,x=.ref p/\y=.ref q/\H p=some (.lst c)/\H q=some (.lst a)/\c.length=a.length/\n<=90/\(∀(j:Nat)(x y:V),c[j]?=some x->a[j]?=some y->Al H n x y)/\Q (.bl b) H
def qP(W:X.A.units+100<cLine):OpR X (compareOp .NotEq)<|zEs false:=by
 intro Z s O H x y v u Q I C B h;let⟨a,b,o,l,n,rfl,rfl,M,L,K,Y,R,q⟩:=h;cases (show v=Value.ref a from C);cases (show u=Value.ref b from B);let⟨_,d,T,k,r⟩:=(show zAe X.prog X.w H s.heap a (.lst o) from I.hok a _ M)
 let⟨_,c,S,g,t2⟩:=(show zAe X.prog X.w H s.heap b (.lst l) from I.hok b _ L)
 have F:∀j (h1:j<d.toArray.size) (h2:j<c.toArray.size),SeqAt.EqAt X.A.in1 s d.toArray[j] c.toArray[j]<|(λ_=>true) j:=λj E D=>by
  let⟨p,P,J⟩:=c8 k E;let⟨m,N,G⟩:=c8 g D;exact gL I.hok (R j p m P N) J G (by show X.A.units+1+n<cLine;lia)
 have es:d.toArray.size=c.toArray.size:=by rw[xAp,xAp,<- k.length,<- g.length,K]
 erw[(SeqAt.RcNeAt.lists (e:=λ_=>true) ⟨_,r,rfl,_,rfl⟩ ⟨_,t2,rfl,_,rfl⟩ es () F) X.prog X.w X.xe _,cj I q];simp
def qS(W:X.A.units+100<cLine):OpR X (compareOp .Eq)<|zEs true:=by
 intro Z s O H x y v u Q I C B h;let⟨a,b,o,l,n,rfl,rfl,M,L,K,Y,R,q⟩:=h;cases (show v=Value.ref a from C);cases (show u=Value.ref b from B);let⟨_,d,T,k,r⟩:=(show zAe X.prog X.w H s.heap a (.lst o) from I.hok a _ M)
 let⟨_,c,S,g,t2⟩:=(show zAe X.prog X.w H s.heap b (.lst l) from I.hok b _ L)
 have F:∀j (h1:j<d.toArray.size) (h2:j<c.toArray.size),SeqAt.EqAt X.A.in1 s d.toArray[j] c.toArray[j]<|(λ_=>true) j:=λj E D=>by
  let⟨p,P,J⟩:=c8 k E;let⟨m,N,G⟩:=c8 g D;exact gL I.hok (R j p m P N) J G (by show X.A.units+1+n<cLine;lia)
 have es:d.toArray.size=c.toArray.size:=by rw[xAp,xAp,<- k.length,<- g.length,K]
 erw[SeqAt.eq_listAt (e:=λ_=>true) ⟨_,r,rfl,_,rfl⟩ ⟨_,t2,rfl,_,rfl⟩ es () F,cj I q];simp
end
def zJa(K:xFr):C0->Hp->VK->Prop:=λa H Q=>∃x n,a=[x]/\zJh K x H n/\Q (.int n) H
def zGb:C0->Hp->VK->Prop:=λc H Q=>∃a b,c=[V.ref a]/\H a=some (.dK b)/\Q (.int b.length) H
def zGa(K:xFr):C0->Hp->VK->Prop:=λb H Q=>∃p a,b=[.ref p]/\(SqL K H p a\/SqT K H p a)/\∀l,H l=none->Q (.ref l) (upd H l<|.lst a)
def zD3(K:xFr):C0->Hp->VK->Prop:=λb H Q=>∃p a,b=[.ref p]/\((SqL K H p a/\∀l,H l=none->Q (.ref l) (upd H l<|.tup a))\/(SqT K H p a/\Q (.ref p) H))
def zKk(K:xFr):C0->Hp->VK->Prop:=λa H Q=>∃x n t b,a=[x,V.ty n]/\zCg K H x t/\W.kitOne K t (.type n)=some b/\Q (.bl b) H
def zGe:C0->Hp->VK->Prop:=λa H Q=>(∃i,a=[.int i]/\Q (.int i) H)\/∃k,a=[.bl k]/\Q (.int<|if k then 1 else 0) H
section
variable{X:Cx}
def yO:zAm X (.builtin "len")<|zJa X.K:=sL
def vc:zAm X (.builtin "len") zGb:=oW
def va:zAm X (.type "list")<|zGa X.K:=jA
def sC:zAm X (.type "tuple")<|zD3 X.K:=ip
def yP:zAm X (.builtin "isinstance")<|zKk X.K:=oX
def vf:zAm X (.type "int") zGe:=oY
end
def zKb:R2:=λx y H Q=>y=.non/\Q (.bl<|decide<|x=.non) H
def xD:OpR X (compareOp .Is) zKb:=xM
section
variable{m0J:It}{P:Hp->Prop}{n:Nat}{Y:Nat->Hp->V->Hp->Prop}{g:TG}{tb:TS}{Dn:zDi}{O:St}{H:Hp}
variable{K:xFr}{tl:TE}{tas:TA}{R:It->Hp->Prop}{a:B5}{xs:C0}
def zFn(K:xFr)(x:V)(H:Hp)(R:It->Hp->Prop):Prop:=∃a,x=.ref a/\(∃xs,SqL K H a xs)/\R (Itl K a) H
def zFm(K:xFr)(x:V)(H:Hp)(R:It->Hp->Prop):Prop:=∃a,x=.ref a/\(∃xs,SqT K H a xs)/\R (Itt K a) H
end
section
variable{prog:Program}{w:World}{A:Around}{E:B2->B3->Prop}{s:B3}
theorem hX{it l:B5}{items:Array B2}(b:l≠it):∀(n i:Nat)(s:B3)(Q:C3->B3->Prop),s.heap.IsListIter it l i->s.heap.IsList l items->i+n<=items.size ->
  (∀h',h'.IsListIter it l (i+n)->Heap.SameBut it s.heap h'->Q ((items.toList.drop i).take n) {s with heap:=h'})->wpAny (model prog w) A (draw (.ref it) n) Q E s
 |0,i,s,Q,a,_,_,h=>by
  change wpAny _ _ (pure []) Q E s;exact xAe (by simpa using h s.heap a (Heap.SameBut.refl ..))
 |n+1,i,s,Q,a,j,k,h=>by
  have lt:i<items.size:=()
  change wpAny _ _ (pyNext (.ref it)>>=_) Q E s;erw[<-xAd (wpAny_pyNext_list_item a j (x:=items[i]) (by simp[lt]) λq g sb1=>?_),<-xAd (xDc<|hX b n (i+1) _ _ g (j.at λo e=>(sb1.2 l b).trans e) () λp d c=>xAe ?_)];have m:items.toList.drop i=items[i]::items.toList.drop (i+1):=by simp[List.drop_eq_getElem_cons,lt]
  have:=h p (by rw[show i+(n+1)=i+1+n by lia];exact d)<|sb1.trans c;rw[m,List.take_succ_cons] at this;exact this
def iT{l:B5}{items:Array B2}{targets:B0<|B6×(B2->Sem Unit)}{Q:Unit->B3->Prop}(q:A.handled=none)(c:s.heap.IsList l items)(p:targets.length=items.size)(a:targets.findIdx? (·.1)=none)(h:∀h',Heap.ExtBut s.heap.objs.size s.heap h'->wpAny (model prog w) A (assignInOrder (targets.map (·.2)) items.toList) Q E {s with heap:=h'}) :
  wpAny (model prog w) A (unpack (.ref l) targets) Q E s:=by
 unfold unpack;rw[p,a];refine xAd<|xDc ?_;have lt:l≠s.heap.objs.size:=by let⟨o,m,_⟩:=c;exact xA0<|xA1 m
 unfold unpackItems;erw[xAd];unfold notIterableAtAll;erw[<-xAd<|wpAny_specialOf c.typeIs PySem.F.slot_list_iter.lookup ?_,xAe];simp only[xAz,if_false];erw[<-xAd<|xDc<|wpAny_pyIter_list c ?_,<-xAd (xDc<|hX lt items.size 0 _ _ ⟨_,xAl _ rfl,rfl,rfl⟩ (c.push _) () λv g sb1=>?_)];have d:List.take items.size (List.drop 0 items.toList)=items.toList:=by
  rw[List.drop_zero];exact List.take_of_length_le ⋯
 rw[d,xCf ⋯];have j:v.IsList l items:=(c.push _).at λo e=>(sb1.2 l lt).trans e;refine xAd (xDc<|wpAny_pyNext_list_end q g j ⋯ λr x=>?_);simp only[Option.isSome_none,xAz,if_false];exact xAe<|h r λb o k e=>x b o k<|sb1.extBut b o k<|xAf _ e
end
section
variable{X:Cx}{pos:Pos}
def zKj(K:xFr)(n:Nat)(t:TGs):TG:=λv O H Q=>∃a b,v=.ref a/\SqL K H a b/\b.length=n/\t b O H Q
def xi{k:Nat}{t:TGs}(y:X.calm=true)(h:PGs X es t)(w:(assignEach es X.env).length=n:=by rfl)(d:(assignEach es X.env).findIdx? (·.1)=none:=by rfl):PG X (.Tuple es k pos)<|zKj X.K n t:=by
 intro Z s O H v u Q I r c;let⟨a,j,B,q,x,c⟩:=c;subst B;cases r;let⟨l,g,p,C⟩:=I.list q;rw[assign_Tuple];refine xAd (wpAny_standAt<|iT (I.ok.hd y) p.isList (by simp[w,<- x,g.length]) d λA m=>?_);have I1:Inv X Z O H {s with heap:=A}:=I.kept (t':=s.toks) λb o e=>m b o (xA0<|xA1 e) e;exact h Z _ O H j _ Q I1 (by simpa using g) c
end
section
variable{X:Cx}
def zFj(K:xFr):R2:=λx y H Q=>∃a b xs c,x=.ref a/\y=.ref b/\H a=some (.tup xs)/\H b=some (.tup c)/\xs.length+c.length<=sizeLine/\∀p H2,zGh H H2->H2 p=some (.tup<|xs++c)->Q (.ref p) H2
def ut:OpR X (binaryOp .Add)<|zFj X.K:=by
 intro Z s O H x y v u Q I w r h;let⟨a,b,o,C,rfl,rfl,k,j,G,q⟩:=h;by_cases hx:o=[]
 .cases (show v=Value.ref a from w);cases (show u=Value.ref b from r);subst hx;let⟨g,E,p1,_⟩:=I.tuple<|SqT.of k;let⟨c,r2,p2,_⟩:=I.tuple<|SqT.of j;have L:g=[]:=E.nil_iff.mpr rfl;subst L;let⟨⟨N,M,A,D⟩,ho,hc,n,hd⟩:=id p1;let⟨⟨B,l,m,d⟩,ho2,hc2,n2,hd2⟩:=id p2;simp only at hc hd hc2 hd2;subst hc hd hc2 hd2;refine concat_meets ⟨_,ho,rfl⟩ ⟨_,ho2,rfl⟩ noFill_tuple_add seq_tuple_add PySem.F.slot_tuple_add PySem.F.entry_tuple_add (PySem.F.args_tuple_add_2 _ _)
   (tuple_addW0 a b ([]:C3).toArray c.toArray n n2 M l D d ⋯) ⟨ho,ho2,?_⟩
  exact⟨.ref b,H,I,rfl,q b H (.refl _) j⟩
 .refine uA Z s O H _ _ v u Q I w r ⟨a,b,o,C,rfl,rfl,.of k,.of j,hx,G,λe=>?_,λ_ p J=>q p _ (dq J _) ce⟩;subst e;exact q a H (.refl _) (by rw[xB0];exact k)
end
noncomputable def zAb:B4->B6
 |.Starred _ _=>false
 |_=>true
def cf(h:zAb e=true):starEach (e::es) env=(false,eval e env)::starEach es env:=by
 cases e <;> first|rfl|cases h
theorem dW{pos:Pos}{env:Env}:∀{es:B0 B4},es.all zAb=true->(backTo pos<|starEach es env).any (·.1)=false
 |[],_=>rfl
 |e::es,h=>by
  rw[xCj,xCh] at h;rw[cf h.1];change(false||(backTo pos<|starEach es env).any (·.1))=false;rw[dW h.2];rfl
theorem jP{pos:Pos}{env:Env}:∀{es:B0 B4},es.all zAb=true->(backTo pos<|starEach es env).all (λx=>!x.1)=true
 |[],_=>rfl
 |e::es,h=>by
  rw[xCj,xCh] at h;rw[cf h.1];change(true&&(backTo pos<|starEach es env).all (λx=>!x.1))=true;rw[jP h.2];rfl
noncomputable def zBa:B4->B6
 |.ListComp ..=>false
 |.SetComp ..=>false
 |.DictComp ..=>false
 |_=>true
def fj{t:B1 B4}{l:Nat}(h:zBa e=true):swapsWith e t l env=pure false:=by
 cases e <;> first|rfl|cases h
noncomputable def zBj:B4->B6
 |.Call ..=>false
 |_=>true
def eN{o:B4}{f:Str}{x:Sem B2}(h:zBj o=true):attributeBase o f env x=x:=by
 cases o <;> first|rfl|cases h
section
variable{X:Cx}{e o:B4}{es:B0 B4}{te to:TE}{t:TA}{pos p apos cpos:Pos}{x name:Str}{id T:String}{i:Nat}{r:C0->Hp->VK->Prop}
def qM(a:PE X e te)(hr:PA X es t)(h:zAb e=true:=by rfl):PA X (e::es)<|zE8 te t:=um a hr<|cf h
def qK(j:zAm X (.builtin id) r)(g:Gl X x)(d:X.mg x=none)(b:bootBuiltins x=some (.builtin id))(k:PA X (e::es) t)(h:(e::es).all zAb=true:=by rfl)(c:x≠"__name__":=by decide)(a:(x==("__debug__":Str))=false:=by decide):PE X (.Call (.Name x p) (e::es) [] pos)<|tCB r t:=by
 rw[xCj,xCh] at h;exact qJ j g d b k c a (cf h.1)<|dW h.2
def vJ(j:zAm X (.type T) r)(g:Gl X x)(d:X.mg x=none)(b:bootBuiltins x=some (.type T))(k:PA X (e::es) t)(h:(e::es).all zAb=true:=by rfl)(c:x≠"__name__":=by decide)(a:(x==("__debug__":Str))=false:=by decide):PE X (.Call (.Name x p) (e::es) [] pos)<|tCB r t:=by
 rw[xCj,xCh] at h;exact ot j g d b k c a (cf h.1)<|dW h.2
variable{k k':Nat}{ps:B7}{sp:Sp}
def zm(a:PE X e te)(h:zBa e=true:=by rfl):PS X (.Expr e pos)<|zE6 te:=tR a<|fj h
variable{rm:V->C0->Hp->VK->Prop}
def AW(g:PlainAttrs T)(b:Slot T name id)(c:typeOf (.builtin id)=pure (.type "method_descriptor"))(l:MtR X id rm)(j:PE X o to)(m:PA X [e] t)(h:zBj o=true:=by rfl)(d:zAb e=true:=by rfl)(a:(apos.endLine==cpos.line)=true:=by rfl) :
  PE X (.Call (.Attribute o name apos) [e] [] cpos) (tBM X.K T rm to t):=
 vK g b c l j m (eN h) (by rw[cf d];rfl) a (cf d) rfl
def zx(d:PlainAttrs T)(b:Slot T name id)(c:typeOf (.builtin id)=pure (.type "method_descriptor"))(j:MtR X id rm)(g:PE X o to)(h:zBj o=true:=by rfl)(a:(apos.endLine==cpos.line)=true:=by rfl) :
  PE X (.Call (.Attribute o name apos) [] [] cpos) (zIb X.K T rm to):=xq d b c j g (eN h) a
def zr{b:B4}{a:TA}(d:Gl X "range")(c:X.mg "range"=none)(g:PA X [e] a)(h:zAb e=true:=by rfl):PI X b (.Call (.Name "range" p) [e] [] pos)<|zFy a:=oi d c g<|cf h
end
section
variable{X:Cx}{e a b c o:B4}{es:B0 B4}{te ta tb tc to:TE}{t u:TA}{pos p p2 apos cpos px:Pos}{x y name:Str}{id T:String}{i j k:Nat}{st:Stmt}{sts:B0 Stmt}{ts us:TS}{tt tt':TT}
noncomputable def zB7:B4->B6
 |.Slice ..=>false
 |_=>true
def qo(h:zB7 b=true):zCp b:=λo i=>by cases b <;> first|rfl|cases h
variable{r:C0->Hp->VK->Prop}{rm:V->C0->Hp->VK->Prop}{ps:B7}{sp:Sp}{k':Nat}
variable{tg iter elt:B4}{g:TG}{gs:TGs}{wi:TI}{tas:TA}
def vq(h:zAb e=true):assignEach (e::es) env=(false,assign e env)::assignEach es env:=by
 cases e <;> first|rfl|cases h
theorem eW{env:Env}:∀{es:B0 B4},es.all zAb=true->(assignEach es env).length=es.length/\(assignEach es env).findIdx? (·.1)=none
 |[],_=>⟨rfl,rfl⟩
 |e::es,h=>by
  rw[xCj,xCh] at h;let⟨l,d⟩:=eW (env:=env) h.2;rw[vq h.1];refine⟨by rw[xAo,l,xAo],?_⟩;rw[List.findIdx?_cons,d];rfl
variable{scope:Scope}{cl:B0<|Str×B5}{ls N:B7}{fr:B9}{ifs:B0 B4}
variable{body orelse:B0 Stmt}
end
def zHf(h:n<=16000000):n<sizeLine:=by rw[sizeLine_eq];lia
def zFs(h:n<=16000000):n<=sizeLine:=Nat.le_of_lt<|zHf h
def zGi(i j:Int):Prop:=0<j/\j<=10^18
def qQ:OpR X (binaryOp .FloorDiv)<|rI zGi λi j=>.int<|i / j:=by
 intro Z s O H x y v u Q I b a h;let⟨i,j,rfl,rfl,⟨k,d⟩,q⟩:=h;have c:j.natAbs.log2<9000:=by
  have g:j.natAbs<2^60:=by
   have:(2:Int)^60=1152921504606846976:=∅
   have:(10:Int)^18=1000000000000000000:=∅
   have:(2:Nat)^60=1152921504606846976:=∅
   lia
  have:=(Nat.log2_lt (n:=j.natAbs) ()).mpr g;lia
 refine qR Z s O H _ _ v u Q I b a ⟨i,j,rfl,rfl,⟨(),PyProof.noPylong_of_log2 c⟩,?_⟩;have e:i.fdiv j=i / j:=Int.fdiv_eq_ediv_of_nonneg _ ();change Q (.int<|i.fdiv j) H;rw[e];exact q
section
variable{X:Cx}{Z:B0<|B5×Obj}{O:St}{H:Hp}{s:B3}{h':Heap}
def Inv.turnedL{t':Nat}(I:Inv X Z O H s)(k:∀b o,b∉fp->s.heap.get? b=some o->h'.get? b=some o)(g:∀b∈fp,zC4 X Z H b):Inv X Z O H {s with heap:=h',toks:=t'}:=by
 have d:∀b u,H b=some u->b∉fp:=λb u e z=>by rw[(g b z).1] at e;cases e
 refine I.step (g':=s.gens) (d':=s.drawn) (ch:=fp) (λb l=>?_) (λb o _ _ a e _=>k b o a e) (λb o _ _ a e _=>⟨o.slots,k b o a e⟩) (λ_ _ _ _ n=>n)
  (λb o a e=>⟨o,k b o a e⟩) (λ_ _ e=>e) (λ_ _ _ e=>e) (λb B e=>⟨#[],by rw[e];simp⟩) (λm j=>?_) (λb u e=>?_) I.bare
 .let⟨D,y,C,x,w,p⟩:=g b l;exact⟨x,y,w,p⟩
 .let⟨o,es,A,h,r⟩:=j;exact⟨o,es,A,k _ o (λz=>(g _ z).2.1 rfl) h,r⟩
 .refine(I.hok b u e).stay (λc v a q=>k c v ?_ q) (λ_ q=>q) λ_ _ q=>q;rcases a with z|z
  .rw[z];exact d b u e
  .exact d c _ z
end
def oZ:bootBuiltins "enumerate"=some (.type "enumerate"):=by decide +kernel
end L2
namespace RevA
open PySem PySem.Spec PyProof.Rows
open AutoSeq1 (wpAny_loadPart')
variable{it:B5}{i:Nat}{xs:Array B2}{Q:B2->B3->Prop}
noncomputable def zGu(t:B5):Obj:={cls:=.type "tuple_iterator",data:=.fields #[.ref t,.int 0 0]}
section
variable{prog:Program}{w:World}{A:Around}{E:B2->B3->Prop}{s:B3}
def lC{t:B5}{x:B2}(a:s.heap.IsTupleIter it t i)(g:s.heap.IsTuple t xs)(e:xs[i]?=some x)(q:∀h',h'.IsTupleIter it t (i+1)->Heap.SameBut it s.heap h'->Q x {s with heap:=h'}):wpAny (model prog w) A (Builtin.SmallTypes.nextOf<|.ref it) Q E s:=by
 let⟨o,c,h,b⟩:=id a;let⟨j,d,_,k,hdl⟩:=g;unfold Builtin.SmallTypes.nextOf;refine xAd<|wpAny_callSpecial?_slot (name:=Str.ofString "__next__") a.typeIs PySem.F.slot_tuple_iterator_next<|wpAny_call_entry PySem.F.slot_tuple_iterator_next a.typeIs PySem.F.entry_tuple_iterator_next ?_<|PySem.F.args_tuple_iterator_next_1 _;change wpAny _ _ (field (.ref it) 0>>=_) _ _ s;refine xAd<|xDa c b (x:=.ref t) rfl ?_;change wpAny _ _ (if(Value.ref t==Value.none)=true then _ else _) _ _ s;rw[xCf<|show ¬ ((Value.ref t==Value.none)=true) from xAy];change wpAny _ _ (field (.ref it) 1>>=_) _ _ s;refine xAd<|xDa c b (x:=.int i 0) rfl ?_;change wpAny _ _ (seqItems? (.ref t)>>=_) _ _ s;refine xAd<|wpAny_seqItems d hdl ?_;simp only[xC3,e];refine xAd<|wpAny_setField c b ⋯<|xAe ⟨x,rfl,xAe<|q _ ?_<|Heap.SameBut.update ..⟩;exact⟨_,xA7 _ c<|Obj.isFreed_of_fields<|Obj.data_mapFields b _,(Obj.cls_mapFields ..).trans h,by rw[Obj.data_mapFields b];simp[rawInt]⟩
def oz{t:B5}(h:A.handled=none)(b:s.heap.IsTupleIter it t i)(k:s.heap.IsTuple t xs)(j:xs[i]?=none)(q:∀h' e,Heap.ExtBut it s.heap h'->(∃o,h'.get? e=some o/\o.cls=.type "StopIteration")->E (.ref e) {s with heap:=h'}):wpAny (model prog w) A (Builtin.SmallTypes.nextOf<|.ref it) Q E s:=by
 let⟨o,d,p,g⟩:=id b;let⟨l,c,_,n,hdl⟩:=k;unfold Builtin.SmallTypes.nextOf;refine xAd<|wpAny_callSpecial?_slot (name:=Str.ofString "__next__") b.typeIs PySem.F.slot_tuple_iterator_next<|wpAny_call_entry PySem.F.slot_tuple_iterator_next b.typeIs PySem.F.entry_tuple_iterator_next ?_<|PySem.F.args_tuple_iterator_next_1 _;change wpAny _ _ (field (.ref it) 0>>=_) _ _ s;refine xAd<|xDa d g (x:=.ref t) rfl ?_;change wpAny _ _ (if(Value.ref t==Value.none)=true then _ else _) _ _ s;rw[xCf<|show ¬ ((Value.ref t==Value.none)=true) from xAy];change wpAny _ _ (field (.ref it) 1>>=_) _ _ s;refine xAd<|xDa d g (x:=.int i 0) rfl ?_;change wpAny _ _ (seqItems? (.ref t)>>=_) _ _ s;refine xAd<|wpAny_seqItems c hdl ?_;simp only[xC3,j];refine xAd<|wpAny_rule<|xAd<|wpAny_setField d g ⋯ ?_;change wpAny _ _ (newExc (.type "StopIteration") []>>=_) _ _ _;erw[xAd];simp only[newExc,newTuple];erw[<-xAd (xBl ?_<|by size_fits),<-xAd (m:=firstArgMember _ _)<|wpAny_of_eq (a:=Value.none) (by first|rfl|(simp only[firstArgMember];rfl)) ?_,<-xBl ?_ (by size_fits)];simp only[raiseNew];refine xAd<|wpAny_handled ?_;first|rw[show A.in1.handled=none from h]|rw[h]
 refine xAd<|xAe<|wpAny_throw ?_;exact q _ _ (((Heap.SameBut.update ..).extBut.push _).push _) ⟨_,xAl _ rfl,rfl⟩
end
def zF4{prog:Program}{w:World}{A:Around}(j:A.handled=none)(it l:B5)(c:l≠it)(xs:Array B2) :
  Draws prog w A it [it,l] xs.size (λi v=>xs[i]?=some v) (λi h=>h.IsTupleIter it l i/\h.IsTuple l xs) where
 live:=λ_ _ st=>let ⟨o,g,_⟩:=st.1;⟨o,g⟩
 frame:=λ_ _ _ st hk=>⟨st.1.at λo e=>hk it ⋯ o e,st.2.at λo e=>hk l ⋯ o e⟩
 item:=λi s Q E d st k=>by
  refine lC st.1 st.2 (x:=xs[i]) (by simp[d]) λn b a=>?_;exact k _ n s.toks (by simp[d]) ⟨b,st.2.extBut a.extBut c⟩ a
 done:=λs Q E st m=>oz j st.1 st.2 ⋯ m
end RevA
namespace L2
open PySem PySem.Spec PyProof.Rows
variable{J:Type}
theorem zI1{us:B0 J}(h:us.length=1):∃c,us=[c]:=by
 cases us with
 |nil=>cases h
 |cons a r=>
  cases r with
  |nil=>exact⟨a,rfl⟩
  |cons b r=>cases h
theorem zGm{us:B0 J}(h:us.length=2):∃c b,us=[c,b]:=by
 cases us with
 |nil=>cases h
 |cons a r=>
  let⟨b,rfl⟩:=zI1<|Nat.succ.inj h;exact⟨a,b,rfl⟩
theorem zI0{us:B0 J}(h:us.length=3):∃d c b,us=[d,c,b]:=by
 cases us with
 |nil=>cases h
 |cons a r=>
  let⟨c,b,rfl⟩:=zGm<|Nat.succ.inj h;exact⟨a,c,b,rfl⟩
theorem zIz{us:B0 J}(h:us.length=4):∃e d c b,us=[e,d,c,b]:=by
 cases us with
 |nil=>cases h
 |cons a r=>
  let⟨d,c,b,rfl⟩:=zI0<|Nat.succ.inj h;exact⟨a,d,c,b,rfl⟩
theorem zKd{us:B0 J}(h:us.length=5):∃g e d c b,us=[g,e,d,c,b]:=by
 cases us with
 |nil=>cases h
 |cons a r=>
  let⟨e,d,c,b,rfl⟩:=zIz<|Nat.succ.inj h;exact⟨a,e,d,c,b,rfl⟩
end L2
namespace Fx
open PySem L2
set_option genInjectivity true in
inductive U where
 |non|bl (b:Bool)|int (i:Int)|str (x:Str)|tup (xs:List U)|lst (xs:List U)|kt (xs:List U)|kl (xs:List U)|kd (kvs:List (Str×U)) (no:List Str)|ref (a:Nat)|ty (n:String)|gl (x:Str)
instance:Inhabited U:=⟨.non⟩
abbrev B8:=B0 U
inductive Ob where
 |lst (xs:List U)|dct (kvs:List (Key×U))|ins (C:Str) (fs:List (Str×U))|dead
instance:Inhabited Ob:=⟨.dead⟩
noncomputable abbrev So:=B0 Ob
structure Xc where
 cls:Str
 fs:B0 (Str×U)
set_option genInjectivity true in
inductive Res where
 |ok (v:U) (S:So)|stuck
inductive Pm where
 |add (m:Bool)|sub|mul|fdiv|mod|pow|neg
 |eq|ne|lt|le|gt|isN|inn|nin
 |ix|sl (m a b:Bool)|tru|len|isT (n:String)|abs|max|min|int1|str1
 |lst (m:Bool)|dct (ks:List Str)|tupOf|lstOf (m:Bool)|lenset|all
 |app|pop|ext|get1|get2|join
 |typ (T:String)|fld (f:Str)|setf (f:Str)|seti|cls (C m:Str)|unp (n:Nat)|new (C:Str)
 |rng1|rng2|zip|enm|seq|frz|thw|dget|starts|repr|mulT
noncomputable def nth:B0 (B1 U)->Nat->B1 U
 |[],_=>none
 |v::_,0=>v
 |_::r,i+1=>nth r i
noncomputable def put:B0 (B1 U)->Nat->U->B0 (B1 U)
 |[],_,_=>[]
 |_::r,0,v=>some v::r
 |o::r,i+1,v=>o::put r i v
def puts:B0 (B1 U)->B9->B8->B0 (B1 U)
 |O,i::b,v::a=>puts (put O i v) b a
 |O,_,_=>O
noncomputable def at?{J:Type}:B0 J->Nat->B1 J
 |[],_=>none
 |v::_,0=>some v
 |_::r,i+1=>at? r i
noncomputable def set{J:Type}:B0 J->Nat->J->B0 J
 |[],_,_=>[]
 |_::r,0,v=>v::r
 |o::r,i+1,v=>o::set r i v
def lsU(S:So):U->B1 (B8)
 |.lst b=>some b
 |.kl b=>some b
 |.ref a=>match at? S a with
  |some (.lst b)=>some b
  |_=>none
 |_=>none
def lsT(S:So):U->B1 (B8)
 |.lst b=>some b
 |.ref a=>match at? S a with
  |some (.lst b)=>some b
  |_=>none
 |_=>none
def sqU(S:So):U->B1 (B8)
 |.tup a=>some a
 |.kt a=>some a
 |u=>lsU S u
noncomputable def mkL(m:B6)(xs:B8)(S:So):Res:=match m with
 |true=>.ok (.ref S.length)<|S++[.lst xs]
 |false=>.ok (.lst xs) S
noncomputable def fits(n:Nat)(r:Res):Res:=match Nat.ble n sizeLine with
 |true=>r
 |false=>.stuck
noncomputable def zAt{J:Type}(f:Str):B0 (Str×J)->B1 J
 |[]=>none
 |(g,v)::r=>if f=g then some v else zAt f r
noncomputable def putF(f:Str)(v:U):B0 (Str×U)->B0 (Str×U)
 |[]=>[(f,v)]
 |(g,u)::r=>if g=f then(g,v)::r else(g,u)::putF f v r
noncomputable def zCc{κ:Type} [DecidableEq κ] (k:κ):B0 (κ×U)->B1 U
 |[]=>none
 |(g,v)::r=>if g=k then some v else zCc k r
noncomputable def putK{κ:Type} [DecidableEq κ] (k:κ) (v:U) (a:B0<|κ×U):B0<|κ×U:=if(a.any λkv=>decide<|kv.1=k)=true then a.map (λkv=>if kv.1=k then(kv.1,v) else kv) else a++[(k,v)]
noncomputable def zEh:U->B1 Key
 |.int i=>some<|.inl i
 |.str x=>some<|.inr x
 |_=>none
def zIw(S:So)(a:U):B1 B6:=(lsU S a).map (·.isEmpty)
noncomputable def zFw:U->B6
 |.lst []=>true
 |_=>false
inductive Sc where
 |non|int (i:Int)|bl (b:Bool)|str (x:Str)
noncomputable def Sc.u:Sc->U
 |.non=>.non
 |.int i=>.int i
 |.bl b=>.bl b
 |.str x=>.str x
noncomputable def sc:U->B1 Sc
 |.non=>some .non
 |.int i=>some<|.int i
 |.bl b=>some<|.bl b
 |.str x=>some<|.str x
 |_=>none
def y7{u:U}{a:Sc}(h:sc u=some a):u=a.u:=by unfold sc at h;split at h <;> cases h <;> rfl
noncomputable def Sc.eq:Sc->Sc->B1 B6
 |.non,b=>match b with
  |.non=>some true
  |_=>some false
 |.int i,b=>match b with
  |.int j=>some<|decide<|i=j
  |.bl _=>none
  |_=>some false
 |.bl i,b=>match b with
  |.bl j=>some<|decide<|i=j
  |.int _=>none
  |_=>some false
 |.str i,b=>match b with
  |.str j=>some<|decide<|i=j
  |_=>some false
def eqS(x y:U):B1 B6:=(sc x).bind λa=>(sc y).bind λb=>a.eq b
noncomputable def zAr:U->B6
 |.non=>true
 |.bl _=>true
 |.int _=>true
 |.str _=>true
 |_=>false
noncomputable def eqF:U->U->B6
 |.non,.non=>true
 |.bl a,.bl b=>a==b
 |.bl a,.int b=>(if a then 1 else 0)==b
 |.int a,.bl b=>a==(if b then 1 else 0)
 |.int a,.int b=>a==b
 |.str a,.str b=>a==b
 |_,_=>false
noncomputable def zBx{J:Type}(f:J->J->B6):B0 J->B0 J->B6
 |[],[]=>true
 |x::b,y::a=>f x y&&zBx f b a
 |_,_=>false
def same(S:So):Nat->U->U->B6
 |0,x,y=>zAr x&&zAr y&&eqS x y==some true
 |n+1,x,y=>match x,y with
  |.tup b,.tup a=>zBx (same S n) b a
  |x,y=>match lsT S x,lsT S y with
   |some b,some a=>zBx (same S n) b a
   |_,_=>zAr x&&zAr y&&eqS x y==some true
def zBc(x:U):B8->B6
 |[]=>false
 |y::a=>eqF y x||zBc x a
def inU(S:So)(x y:U):B1 B6:=match y with
 |.str j=>match x with
  |.str i=>some (!(Builtin.Str.occurrences j i 0 j.length 1).isEmpty)
  |_=>none
 |.ref a=>match at? S a with
  |some (.dct c)=>(zEh x).map λk=>(zCc k c).isSome
  |some (.lst b)=>if zAr x&&b.all zAr then some (zBc x b) else none
  |_=>none
 |y=>match sqU S y with
  |some b=>if zAr x&&b.all zAr then some (zBc x b) else none
  |none=>none
noncomputable def obB(o:B1 B6)(f:B6->B6)(S:So):Res:=match o with
 |some b=>.ok (.bl<|f b) S
 |none=>.stuck
noncomputable def i2(f:Int->Int->U)(S:So):B8->Res
 |[.int i,.int j]=>.ok (f i j) S
 |_=>.stuck
def zF6(xs:B8)(lo hi:B1 Int):B8:=(xs.drop<|HT.sIx xs.length 0 lo).take<|HT.sIx xs.length xs.length hi-HT.sIx xs.length 0 lo
def slice(m:B6)(x:U)(lo hi:B1 Int)(S:So):Res:=match x with
 |.str z=>match Nat.ble z.length sizeLine with
  |true=>.ok (.str<|Txt.slice z lo hi) S
  |false=>.stuck
 |.tup a=>match decide (HT.sIx a.length 0 lo=0/\HT.sIx a.length a.length hi=a.length) with
  |true=>.ok (.tup a) S
  |false=>.ok (.tup<|zF6 a lo hi) S
 |x=>match lsU S x with
  |some a=>mkL m (zF6 a lo hi) S
  |none=>.stuck
def zEy(S:So):U->B1 B6
 |.bl b=>some b
 |.ref a=>match at? S a with
  |some (.lst c)=>some (!c.isEmpty)
  |_=>none
 |_=>none
def tyU(S:So):U->B1 String
 |.non=>some "NoneType"
 |.bl _=>some "bool"
 |.int _=>some "int"
 |.str _=>some "str"
 |.tup _=>some "tuple"
 |.lst _=>some "list"
 |.ref a=>match at? S a with
  |some (.lst _)=>some "list"
  |some (.dct _)=>some "dict"
  |some (.ins _ _)=>some "object"
  |_=>none
 |_=>none
noncomputable def zFu(t n:String):B6:=(t==n)||(t == "bool" && n == "int")
noncomputable def zCx:B8->B1 (B7)
 |[]=>some []
 |.str x::r=>(zCx r).map (x::·)
 |_=>none
noncomputable def blL:B8->B1 (B0 B6)
 |[]=>some []
 |.bl x::r=>(blL r).map (x::·)
 |_=>none
noncomputable def zB8(lo:Int):Nat->B8
 |0=>[]
 |n+1=>.int lo::zB8 (lo+1) n
noncomputable def sqZ:U->B1 (B8)
 |.tup a=>some a
 |.kt a=>some a
 |.str z=>some<|z.cps.toList.map λc=>.str ⟨#[c]⟩
 |_=>none
mutual
noncomputable def zCn:U->B1 PyData
 |.non=>some .none
 |.bl b=>some<|.bool b
 |.int i=>some<|.int i
 |.str x=>some<|.str x
 |.tup a=>(zAu a).map .tuple
 |_=>none
noncomputable def zAu:B8->B1 (B0 PyData)
 |[]=>some []
 |x::r=>(zCn x).bind λd=>(zAu r).map (d::·)
end
def lsJ(S:So):U->B1 (B8)
 |.tup a=>some a
 |.kt a=>some a
 |u=>lsT S u
noncomputable def zBq:B8->B8->B8
 |x::b,y::a=>.tup [x,y]::zBq b a
 |_,_=>[]
noncomputable def zGp:B7->B8->B0 (Key×U)
 |k::b,v::a=>(.inr k,v)::zGp b a
 |_,_=>[]
def zGg(m:B6)(a b:U)(S:So):Res:=match a,b with
 |.int i,.int j=>.ok (.int<|i+j) S
 |.str x,.str y=>fits (x.length+y.length)<|.ok (.str<|x++y) S
 |.tup xs,.tup c=>fits (xs.length+c.length)<|.ok (.tup<|xs++c) S
 |a,b=>match lsT S a,lsT S b with
  |some xs,some c=>fits (xs.length+c.length)<|mkL m (xs++c) S
  |_,_=>.stuck
noncomputable def zH8:B1 (B8)->B1 (B8)->B6
 |some b,some a=>!Nat.beq b.length a.length
 |_,_=>false
def neU(a b:U)(S:So):Res:=match eqS a b with
 |some c=>.ok (.bl<|not c) S
 |none=>match zH8 (lsT S a) (lsT S b) with
  |true=>.ok (.bl true) S
  |false=>match same S 80 a b with
   |true=>.ok (.bl false) S
   |false=>.stuck
def eqU(f:B6->B6)(a b:U)(S:So):Res:=match eqS a b with
 |some c=>.ok (.bl<|f c) S
 |none=>match zFw b,zIw S a with
  |true,some c=>.ok (.bl<|f c) S
  |_,_=>match same S 80 a b with
   |true=>.ok (.bl<|f true) S
   |false=>.stuck
noncomputable def opt(o:B1 U)(S:So):Res:=match o with
 |some v=>.ok v S
 |none=>.stuck
def ixU(a b:U)(S:So):Res:=match a with
 |.kd d _=>match b with
  |.str x=>opt (zAt x d) S
  |_=>.stuck
 |.str z=>match b with
  |.int i=>match atI z.cps.toList i with
   |some c=>fits z.length<|.ok (.str ⟨#[c]⟩) S
   |none=>.stuck
  |_=>.stuck
 |.ref p=>match at? S p with
  |some (.dct d)=>match zEh b with
   |some k=>opt (zCc k d) S
   |none=>.stuck
  |some (.lst e)=>match b with
   |.int i=>opt (atI e i) S
   |_=>.stuck
  |_=>.stuck
 |a=>match sqU S a with
  |some e=>match b with
   |.int i=>opt (atI e i) S
   |_=>.stuck
  |none=>.stuck
def zDn(a:U)(S:So):Res:=match a with
 |.str x=>fits x.length<|.ok (.int x.length) S
 |.ref p=>match at? S p with
  |some (.lst b)=>.ok (.int b.length) S
  |some (.dct c)=>.ok (.int c.length) S
  |_=>.stuck
 |a=>match sqU S a with
  |some b=>.ok (.int b.length) S
  |none=>.stuck
def zA1(a:U)(S:So):Res:=match a with
 |.tup b=>.ok (.tup b) S
 |a=>match lsU S a with
  |some b=>.ok (.tup b) S
  |none=>.stuck
def zB5(p:Nat)(k v:U)(S:So):Res:=match at? S p with
 |some (.dct a)=>match zEh k with
  |some k=>fits (a.length+1)<|.ok .non<|set S p<|.dct<|putK k v a
  |none=>.stuck
 |some (.lst b)=>match k with
  |.int i=>match ixN b.length i with
   |some j=>.ok .non<|set S p<|.lst<|set b j v
   |none=>.stuck
  |_=>.stuck
 |_=>.stuck
def zG2(f:B8->U)(a:U)(S:So):Res:=match a with
 |.str x=>.ok (f<|x.cps.toList.map λc=>.str ⟨#[c]⟩) S
 |.ref p=>match at? S p with
  |some (.lst b)=>.ok (f b)<|set S p .dead
  |_=>.stuck
 |a=>match sqU S a with
  |some b=>.ok (f b) S
  |none=>.stuck
def zC2(p:Nat)(S:So)(f:Str->B0 (Str×U)->Res):Res:=match at? S p with
 |some (.ins C fs)=>f C fs
 |_=>.stuck
def zCi(p:Nat)(S:So)(f:B8->Res):Res:=match at? S p with
 |some (.lst a)=>f a
 |_=>.stuck
noncomputable def zE9:U->B1 Str
 |.str x=>some x
 |_=>none
def wK{u:U}{x:Str}(h:zE9 u=some x):u=.str x:=by unfold zE9 at h;split at h <;> cases h;rfl
noncomputable def zDq(i:Int):B8->B8
 |[]=>[]
 |x::a=>.tup [.int i,x]::zDq (i+1) a
def pr(_:B0<|Str×Str):Pm->B8->So->Res
 |.add m,e,S=>match e with
  |[a,b]=>zGg m a b S
  |_=>.stuck
 |.sub,e,S=>i2 (λi j=>.int<|i-j) S e
 |.mul,e,S=>match e with
  |[.int i,.int j]=>match decide (i.natAbs<2^150/\j.natAbs<2^150\/j.natAbs<2^60\/i.natAbs<2^60) with
   |true=>.ok (.int<|i*j) S
   |false=>.stuck
  |[.str x,.int j]=>match decide (0<=j/\j<=1) with
   |true=>fits x.length<|.ok (.str<|if j=1 then x else Str.empty) S
   |false=>.stuck
  |_=>.stuck
 |.fdiv,e,S=>match e with
  |[.int i,.int j]=>match decide (0<j/\j<=10^18) with
   |true=>.ok (.int<|i / j) S
   |false=>.stuck
  |_=>.stuck
 |.mod,e,S=>match e with
  |[.int i,.int j]=>match decide (0<j) with
   |true=>.ok (.int<|i%j) S
   |false=>.stuck
  |_=>.stuck
 |.pow,e,S=>match e with
  |[.int i,.int j]=>match decide (0<=j/\j<=1000/\i.natAbs<2^60) with
   |true=>.ok (.int<|i^j.toNat) S
   |false=>.stuck
  |_=>.stuck
 |.neg,e,S=>match e with
  |[.int i]=>.ok (.int (-i)) S
  |_=>.stuck
 |.eq,e,S=>match e with
  |[a,b]=>eqU id a b S
  |_=>.stuck
 |.ne,e,S=>match e with
  |[a,b]=>neU a b S
  |_=>.stuck
 |.lt,e,S=>i2 (λi j=>.bl<|decide<|i<j) S e
 |.le,e,S=>i2 (λi j=>.bl<|decide<|i<=j) S e
 |.gt,e,S=>i2 (λi j=>.bl<|decide<|j<i) S e
 |.isN,e,S=>match e with
  |[a]=>.ok (.bl<|match a with|.non=>true|_=>false) S
  |_=>.stuck
 |.inn,e,S=>match e with
  |[a,b]=>obB (inU S a b) id S
  |_=>.stuck
 |.nin,e,S=>match e with
  |[a,b]=>obB (inU S a b) not S
  |_=>.stuck
 |.ix,e,S=>match e with
  |[a,b]=>ixU a b S
  |_=>.stuck
 |.sl m l h,e,S=>match l,h,e with
  |true,false,[x,.int i]=>slice m x (some i) none S
  |false,true,[x,.int j]=>slice m x none (some j) S
  |_,_,_=>.stuck
 |.tru,e,S=>match e with
  |[a]=>obB (zEy S a) id S
  |_=>.stuck
 |.len,e,S=>match e with
  |[a]=>zDn a S
  |_=>.stuck
 |.isT n,e,S=>match e with
  |[a]=>match tyU S a with
   |some t=>.ok (.bl<|zFu t n) S
   |none=>.stuck
  |_=>.stuck
 |.abs,e,S=>match e with
  |[.int i]=>.ok (.int<|if i<0 then -i else i) S
  |_=>.stuck
 |.max,e,S=>i2 (λi j=>.int<|if j>i then j else i) S e
 |.min,e,S=>i2 (λi j=>.int<|if j<i then j else i) S e
 |.int1,e,S=>match e with
  |[a]=>match a with
   |.int i=>.ok (.int i) S
   |.bl b=>.ok (.int<|if b then 1 else 0) S
   |.str x=>match PySem.intText? x with
    |some n=>match Nat.ble x.length 640 with
     |true=>.ok (.int n) S
     |false=>.stuck
    |none=>.stuck
   |_=>.stuck
  |_=>.stuck
 |.lst m,e,S=>fits e.length<|mkL m e S
 |.dct r,e,S=>match Nat.beq r.length e.length with
  |true=>.ok (.ref S.length)<|S++[.dct<|zGp r e]
  |false=>.stuck
 |.tupOf,e,S=>match e with
  |[a]=>zA1 a S
  |_=>.stuck
 |.lstOf m,e,S=>match e with
  |[a]=>match sqU S a with
   |some xs=>mkL m xs S
   |none=>.stuck
  |_=>.stuck
 |.lenset,e,S=>match e with
  |[.tup xs]=>match zCx xs with
   |some ws=>match decide (ws.length<=4/\ws.Nodup) with
    |true=>.ok (.int ws.length) S
    |false=>.stuck
   |none=>.stuck
  |_=>.stuck
 |.all,e,S=>match e with
  |[.lst xs]=>match blL xs with
   |some bs=>.ok (.bl<|bs.all id) S
   |none=>.stuck
  |_=>.stuck
 |.app,e,S=>match e with
  |[.ref p,v]=>zCi p S λxs=>fits (xs.length+1)<|.ok .non<|set S p<|.lst<|xs++[v]
  |_=>.stuck
 |.pop,e,S=>match e with
  |[.ref p]=>zCi p S λxs=>match xs.getLast? with
   |some v=>.ok v<|set S p<|.lst xs.dropLast
   |none=>.stuck
  |_=>.stuck
 |.get1,e,S=>match e with
  |[.kd g no,.str x]=>match zAt x g with
   |some v=>.ok v S
   |none=>match no.any λy=>decide (y=x) with
    |true=>.ok .non S
    |false=>.stuck
  |_=>.stuck
 |.dget,e,S=>match e with
  |[.ref p,k,d]=>match at? S p,zEh k with
   |some (.dct g),some k=>match zCc k g with
    |some v=>.ok v S
    |none=>.ok d S
   |_,_=>.stuck
  |_=>.stuck
 |.get2,e,S=>match e with
  |[.kd g no,.str x,d]=>match zAt x g with
   |some v=>.ok v S
   |none=>match no.any λy=>decide (y=x) with
    |true=>.ok d S
    |false=>.stuck
  |_=>.stuck
 |.join,e,S=>match e with
  |[a,b]=>match zE9 a,lsJ S b with
   |some s,some xs=>match zCx xs with
    |some ws=>match decide ((ws.map (·.length)).sum+ws.length*s.length<=16777216) with
     |true=>.ok (.str<|Builtin.Str.glued s ws) S
     |false=>.stuck
    |none=>.stuck
   |_,_=>.stuck
  |_=>.stuck
 |.ext,e,S=>match e with
  |[.ref p,b]=>zCi p S λxs=>match lsT S b with
   |some o=>fits (xs.length+o.length)<|.ok .non<|set S p<|.lst<|xs++o
   |none=>.stuck
  |_=>.stuck
 |.mulT,e,S=>match e with
  |[.lst xs,.int j]=>match decide (0<=j/\j<=1000) with
   |true=>fits (xs.length*j.toNat)<|mkL true (List.replicate j.toNat xs).flatten S
   |false=>.stuck
  |_=>.stuck
 |.starts,e,S=>match e with
  |[.str i,.str j]=>.ok (.bl<|decide (0+j.length<=i.length)&&Builtin.Str.subAt i j 0) S
  |_=>.stuck
 |.str1,e,S=>match e with
  |[a]=>match a with
   |.int i=>match decide (i.natAbs.log2<1920) with
    |true=>.ok (.str<|PySem.Str.ofString<|toString i) S
    |false=>.stuck
   |.str x=>.ok (.str x) S
   |_=>.stuck
  |_=>.stuck
 |.repr,e,S=>match e with
  |[a]=>match a with
   |.int i=>match decide (i.natAbs.log2<1920) with
    |true=>.ok (.str<|PySem.Str.ofString<|toString i) S
    |false=>.stuck
   |.tup xs=>match zAu xs with
    |some q=>match(PyData.tuple q).showable&&!(PyData.tuple q).hasDict&&Nat.ble (PyData.tuple q).depth 60&&Nat.ble (PyData.tuple q).shown.length sizeLine with
     |true=>.ok (.str (PyData.tuple q).shown) S
     |false=>.stuck
    |none=>.stuck
   |_=>.stuck
  |_=>.stuck
 |.thw,e,S=>match e with
  |[.lst xs]=>.ok (.ref S.length)<|S++[.lst xs]
  |_=>.stuck
 |.fld f,e,S=>match e with
  |[.ref p]=>zC2 p S λ_ fs=>opt (zAt f fs) S
  |_=>.stuck
 |.setf f,e,S=>match e with
  |[.ref p,v]=>zC2 p S λC fs=>match Nat.ble fs.length 900 with
   |true=>.ok .non<|set S p<|.ins C<|putF f v fs
   |false=>.stuck
  |_=>.stuck
 |.typ T,e,S=>match e with
  |[a]=>match tyU S a with
   |some t=>match t==T with
    |true=>.ok a S
    |false=>.stuck
   |none=>.stuck
  |_=>.stuck
 |.seti,e,S=>match e with
  |[.ref p,k,v]=>zB5 p k v S
  |_=>.stuck
 |.cls C m,e,S=>match e with
  |[.ref p]=>zC2 p S λD fs=>match decide (C=D) with
   |true=>match zAt m fs with
    |none=>.ok (.ref p) S
    |some _=>.stuck
   |false=>.stuck
  |_=>.stuck
 |.unp n,e,S=>match e with
  |[a]=>match sqU S a with
   |some xs=>match Nat.beq xs.length n with
    |true=>.ok (.tup xs) S
    |false=>.stuck
   |none=>.stuck
  |_=>.stuck
 |.new C,e,S=>match e with
  |[]=>.ok (.ref S.length)<|S++[.ins C []]
  |_=>.stuck
 |.rng1,e,S=>match e with
  |[.int j]=>match decide (-(2^62)<=j/\j<2^62) with
   |true=>.ok (.tup<|zB8 0 j.toNat) S
   |false=>.stuck
  |_=>.stuck
 |.rng2,e,S=>match e with
  |[.int i,.int j]=>match decide (-(2^62)<=i/\i<2^62/\-(2^62)<=j/\j<2^62) with
   |true=>.ok (.tup<|zB8 i (j-i).toNat) S
   |false=>.stuck
  |_=>.stuck
 |.enm,e,S=>match e with
  |[.str x]=>.ok (.tup<|zDq 0<|x.cps.toList.map λc=>.str ⟨#[c]⟩) S
  |_=>.stuck
 |.zip,e,S=>match e with
  |[a,b]=>match sqZ a,sqZ b with
   |some xs,some o=>match Nat.beq xs.length o.length with
    |true=>.ok (.tup<|zBq xs o) S
    |false=>.stuck
   |_,_=>.stuck
  |_=>.stuck
 |.seq,e,S=>match e with
  |[a]=>zG2 .tup a S
  |_=>.stuck
 |.frz,e,S=>match e with
  |[.ref p]=>zCi p S λxs=>.ok (.lst xs)<|set S p .dead
  |_=>.stuck
noncomputable abbrev Sg:=B0<|B1 U
noncomputable abbrev Kx(J:Type):=Xc->So->J
abbrev C7:=Kx Prop
noncomputable abbrev Kv(J:Type):=U->So->J
abbrev C6:=Kv Prop
structure Gx(J:Type) where
 fail:J
 fuel:Nat
 prim:Pm->B8->So->Kx J->Kv J->J
 call:Nat->B8->So->Kx J->Kv J->J
 br:B6->(Unit->J)->(Unit->J)->J
abbrev C8:=Gx Prop
structure Ee(J:Type) where
 nx:Sg->So->J
 rt:Kv J
 bk:Sg->So->J
 ct:Sg->So->J
 x:Xc->Sg->So->J
noncomputable abbrev TEx(J:Type):=Gx J->Sg->So->Kx J->Kv J->J
abbrev C5:=TEx Prop
noncomputable abbrev TTx(J:Type):=Gx J->Sg->So->Kx J->(B6->So->J)->J
noncomputable abbrev TAx(J:Type):=Gx J->Sg->So->Kx J->(B8->So->J)->J
abbrev C9:=TAx Prop
noncomputable abbrev TSx(J:Type):=Gx J->Sg->So->Ee J->J
abbrev C4:=TSx Prop
section
variable{J:Type}
def cV(i:Nat):TEx J:=λG O S _ k=>match nth O i with
 |some v=>k v S
 |none=>G.fail
noncomputable def cC(u:U):TEx J:=λ_ _ S _ k=>k u S
noncomputable def aN:TAx J:=λ_ _ S _ k=>k [] S
noncomputable def aC(e:TEx J)(r:TAx J):TAx J:=λG O S x k=>e G O S x λv S1=>r G O S1 x λa S2=>k (v::a) S2
noncomputable def cP(p:Pm)(as:TAx J):TEx J:=λG O S x k=>as G O S x λa S1=>G.prim p a S1 x k
noncomputable def cT(as:TAx J):TEx J:=λG O S x k=>as G O S x λa S1=>k (.tup a) S1
noncomputable def cF(i:Nat)(as:TAx J)(b:B8):TEx J:=λG O S x k=>as G O S x λa S1=>G.call i (a++b) S1 x k
noncomputable def cM(C m:Str)(i:Nat)(o:TEx J)(as:TAx J)(b:B8):TEx J:=λG O S x k=>o G O S x λv S1=>G.prim (.cls C m) [v] S1 x λw S2=>as G O S2 x λa S3=>G.call i (w::(a++b)) S3 x k
noncomputable def cK(C:Str)(i:Nat)(as:TAx J)(b:B8):TEx J:=λG O S x k=>as G O S x λa S1=>G.prim (.new C) [] S1 x λw S2=>G.call i (w::(a++b)) S2 (λ_ _=>G.fail) λr S3=>match r with
 |.non=>k w S3
 |_=>G.fail
noncomputable def cBM(T:String)(p:Pm)(o:TEx J)(as:TAx J):TEx J:=λG O S x k=>o G O S x λv S1=>G.prim (.typ T) [v] S1 x λw S2=>as G O S2 x λa S3=>G.prim p (w::a) S3 x k
noncomputable def tB(e:TEx J):TTx J:=λG O S x k=>e G O S x λv S1=>match v with
 |.bl b=>k b S1
 |_=>G.fail
noncomputable def tNt(t:TTx J):TTx J:=λG O S x k=>t G O S x λb S1=>k (!b) S1
noncomputable def tAn(t u:TTx J):TTx J:=λG O S x k=>t G O S x λb S1=>G.br b (λ_=>u G O S1 x k) λ_=>k false S1
noncomputable def tOr'(t u:TTx J):TTx J:=λG O S x k=>t G O S x λb S1=>G.br b (λ_=>k true S1) λ_=>u G O S1 x k
noncomputable def cB(t:TTx J):TEx J:=λG O S x k=>t G O S x λb S1=>k (.bl b) S1
noncomputable def cIf(t:TTx J)(a b:TEx J):TEx J:=λG O S x k=>t G O S x λc S1=>G.br c (λ_=>a G O S1 x k) λ_=>b G O S1 x k
noncomputable def tIi(t a b:TTx J):TTx J:=λG O S x k=>t G O S x λc S1=>G.br c (λ_=>a G O S1 x k) λ_=>b G O S1 x k
noncomputable def tCh(p q:Pm)(a b c:TEx J):TTx J:=λG O S x k=>a G O S x λv S1=>b G O S1 x λw S2=>G.prim p [v,w] S2 x λr S3=>match r with
 | .bl d=>G.br d (λ_=>c G O S3 x λz S4=>G.prim q [w,z] S4 x λr2 S5=>match r2 with
  |.bl e=>k e S5
  |_=>G.fail) λ_=>k false S3
 |_=>G.fail
noncomputable def zB2:B8->(U->Sg->So->(Sg->So->J)->J)->Sg->So->(Sg->So->J)->J
 |[],_,O,S,k=>k O S
 |v::a,b,O,S,k=>b v O S λσ1 S1=>zB2 a b σ1 S1 k
noncomputable def whK(t:Sg->So->(B6->So->J)->J)(b:Sg->So->(Sg->So->J)->J)(br:B6->(Unit->J)->(Unit->J)->J)(a:J):Nat->Sg->So->(Sg->So->J)->J
 |0,_,_,_=>a
 |n+1,O,S,k=>t O S λc S1=>br c (λ_=>b O S1 λσ2 S2=>whK t b br a n σ2 S2 k) λ_=>k O S1
def tgt(is:B9)(one:B6)(G:Gx J)(v:U)(O:Sg)(k:Sg->J):J:=match one with
 |true=>k<|puts O is [v]
 |false=>match v with
  |.tup a=>match Nat.beq a.length is.length with
   |true=>k<|puts O is a
   |false=>G.fail
  |_=>G.fail
noncomputable def lcK(G:Gx J)(b:U->So->(B1 U->So->J)->J):B8->B8->So->Kv J->J
 |[],a,S,k=>k (.lst a) S
 |v::c,a,S,k=>b v S λo S1=>match o with
  |some u=>lcK G b c (a++[u]) S1 k
  |none=>lcK G b c a S1 k
def zCu(is:B9)(one:B6)(O:Sg)(e:TEx J)(G:Gx J):U->So->(B1 U->So->J)->J:=λw S2 nx=>tgt is one G w O λσ1=>e G σ1 S2 (λ_ _=>G.fail) λu S3=>nx (some u) S3
def cLx(it:TEx J)(is:B9)(one:B6)(n:Nat)(cs:B9)(e:TEx J):TEx J:=λG O S x k=>it G O S x λv S1=>match v with
 |.tup a=>G.br (Nat.ble a.length sizeLine) (λ_=>lcK G (zCu is one (List.replicate n none++cs.map (nth O)) e G) a [] S1 k) λ_=>G.fail
 |_=>G.fail
noncomputable def sN:TSx J:=λ_ O S E=>E.nx O S
noncomputable abbrev sqE(E:Ee J)(nx:Sg->So->J):Ee J:={E with nx:=nx}
noncomputable abbrev lpE(E:Ee J)(nx:Sg->So->J):Ee J:={E with nx:=nx,ct:=nx,bk:=E.nx}
noncomputable abbrev xcE(E:Ee J)(x:Xc->Sg->So->J):Ee J:={E with x:=x}
def sQ(t u:TSx J):TSx J:=λG O S E=>t G O S<|sqE E λσ1 S1=>u G σ1 S1 E
def sA(i:Nat)(e:TEx J):TSx J:=λG O S E=>e G O S (λx S1=>E.x x O S1) λv S1=>E.nx (put O i v) S1
def sU(is:B9)(e:TEx J):TSx J:=λG O S E=>e G O S (λx S1=>E.x x O S1) λv S1=>G.prim (.unp is.length) [v] S1 (λx S1=>E.x x O S1) λw S2=>match w with
 |.tup a=>E.nx (puts O is a) S2
 |_=>G.fail
def sPr(i j:Nat)(a b:TEx J):TSx J:=λG O S E=>a G O S (λx S1=>E.x x O S1) λv S1=>b G O S1 (λx S1=>E.x x O S1) λw S2=>E.nx (put (put O i v) j w) S2
noncomputable def sE(e:TEx J):TSx J:=λG O S E=>e G O S (λx S1=>E.x x O S1) λ_ S1=>E.nx O S1
noncomputable def sR(e:TEx J):TSx J:=λG O S E=>e G O S (λx S1=>E.x x O S1) E.rt
noncomputable def sI(t:TTx J)(a b:TSx J):TSx J:=λG O S E=>t G O S (λx S1=>E.x x O S1) λc S1=>G.br c (λ_=>a G O S1 E) λ_=>b G O S1 E
noncomputable def sP(p:Pm)(e:TEx J)(a:TAx J):TSx J:=λG O S E=>e G O S (λx S1=>E.x x O S1) λv S1=>a G O S1 (λx S1=>E.x x O S1) λws S2=>G.prim p (ws++[v]) S2 (λx S1=>E.x x O S1) λ_ S3=>E.nx O S3
def sF(it:TEx J)(is:B9)(one:B6)(b:TSx J):TSx J:=λG O S E=>it G O S (λx S1=>E.x x O S1) λv S1=>match v with
 |.tup a=>zB2 a (λw σ1 S2 nx=>tgt is one G w σ1 λσ2=>b G σ2 S2<|lpE E nx) O S1 E.nx
 |_=>G.fail
def sW(t:TTx J)(b:TSx J):TSx J:=λG O S E=>whK (λσ1 S1 k=>t G σ1 S1 (λx S2=>E.x x σ1 S2) k) (λσ1 S1 nx=>b G σ1 S1<|lpE E nx) G.br G.fail G.fuel O S E.nx
noncomputable def zH4:B7->B8->B0 (Str×U)
 |f::fs,v::a=>(f,v)::zH4 fs a
 |_,_=>[]
noncomputable def sX(C:Str)(fs:B7)(as:TAx J):TSx J:=λG O S E=>as G O S (λx S1=>E.x x O S1) λa S1=>E.x ⟨C,zH4 fs a⟩ O S1
noncomputable def clr:B0 (B1 U)->Nat->B0 (B1 U)
 |[],_=>[]
 |_::r,0=>none::r
 |o::r,i+1=>o::clr r i
def hdl(C:Str)(i j:Nat)(f:Str)(G:Gx J)(E:Ee J):Xc->Sg->So->J:=λx σ1 S1=>match decide (x.cls=C) with
 |true=>match zAt f x.fs with
  |some v=>match Nat.blt i σ1.length with
   |true=>E.nx (put (clr σ1 i) j v) S1
   |false=>G.fail
  |none=>G.fail
 |false=>G.fail
def sT(C:Str)(i j:Nat)(f:Str)(b:TSx J):TSx J:=λG O S E=>b G O S<|xcE E<|hdl C i j f G E
def hda(C:Str)(i:Nat)(u:U)(G:Gx J)(E:Ee J):Xc->Sg->So->J:=λx σ1 S1=>match decide (x.cls=C) with
 |true=>E.nx (put σ1 i u) S1
 |false=>G.fail
def sTa(C:Str)(i:Nat)(u:U)(b:TSx J):TSx J:=λG O S E=>b G O S<|xcE E<|hda C i u G E
end
noncomputable def zAz{J:Type}(a b:TEx J):TAx J:=aC a<|aC b aN
noncomputable def zBi:B7->B6
 |[]=>true
 |x::r=>!(r.any λy=>decide<|y=x)&&zBi r
end Fx
namespace Fx
open PySem PySem.Spec L2
variable{W':Wd}{vs:B0 V}{v:V}{o h:HO}{a i n:Nat}{l:B0<|B5×HO}{S:So}{x:C7}{k:C6}{b:C4}{q:Unit->Prop}{e it:C5}{as:C9}{ds:B8}{C:Str}{E E':Ee Prop}{nx':Sg->So->Prop}{is:B9}
structure Bs where
 K:xFr
 mg:Str->B1 B2
 kd:B5->B0 (Str×U)->B7->Prop
 cl:Str->B5->Prop
structure Wd where
 F:Hp
 μ:B0 B5
 pr:B0 (B5×HO)
structure Wd.Lf(W W':Wd):Prop where
 f:∀p o,W.F p=some o->W'.F p=some o
 m:∀a p,at? W.μ a=some p->at? W'.μ a=some p
structure Wd.Le(W W':Wd):Prop where
 f:∀p o,W.F p=some o->W'.F p=some o
 m:∀a p,at? W.μ a=some p->at? W'.μ a=some p
 r:W'.pr=W.pr
theorem Wd.Lf.pr{W:Wd}{l:B0<|B5×HO}:W.Lf {W with pr:=l}:=⟨λ_ _ h=>h,λ_ _ h=>h⟩
def Wd.Le.lf{W:Wd}(h:W.Le W'):W.Lf W':=⟨h.f,h.m⟩
def Wd.Le.refl{W:Wd}:W.Le W:=⟨λ_ _ h=>h,λ_ _ h=>h,rfl⟩
theorem Wd.Le.trans{W W1 W2:Wd}(a:W.Le W1)(b:W1.Le W2):W.Le W2:=⟨λp o h=>b.f p o<|a.f p o h,λi p h=>b.m i p<|a.m i p h,b.r.trans a.r⟩
variable(B:Bs)
mutual
def Rv(W:Wd):U->V->Prop
 |.non,v=>v=.non
 |.bl b,v=>v=.bl b
 |.int i,v=>v=.int i
 |.str x,v=>v=.str x
 |.tup c,v=>∃p vs,v=.ref p/\W.F p=some (.tup vs)/\Rvs W c vs
 |.lst c,v=>∃p vs,v=.ref p/\W.F p=some (.lst vs)/\Rvs W c vs
 |.kt c,v=>∃p vs,v=.ref p/\(∀H,SqT B.K H p vs)/\Rvs W c vs
 |.kl c,v=>∃p vs,v=.ref p/\SqL B.K W.F p vs/\Rvs W c vs
 |.kd d no,v=>∃p,v=.ref p/\B.kd p d no
 |.ref a,v=>∃p,v=.ref p/\at? W.μ a=some p
 |.ty n,v=>v=.ty n
 |.gl x,v=>∃p,v=.ref p/\B.mg x=some (.ref p)
def Rvs(W:Wd):B8->B0 V->Prop
 |[],vs=>vs=[]
 |x::c,vs=>∃v r,vs=v::r/\Rv W x v/\Rvs W c r
end
variable{B:Bs}
def fV{K:xFr}{F F':Hp}{p:B5}(le:∀p o,F p=some o->F' p=some o)(h:SqL K F p vs):SqL K F' p vs:=by
 rcases h with (h|⟨o,h⟩)|h
 .exact .inl<|.inl<|le _ _ h
 .exact .inl<|.inr ⟨o,le _ _ h⟩
 .exact .inr h
mutual
theorem Rv.lf{W W':Wd}(le:W.Lf W'):∀{u:U}{v:V},Rv B W u v->Rv B W' u v
 |.non,_,h=>h
 |.bl _,_,h=>h
 |.int _,_,h=>h
 |.str _,_,h=>h
 |.tup _,_,h=>let ⟨p,vs,e,f,r⟩:=h;⟨p,vs,e,le.f _ _ f,Rvs.lf le r⟩
 |.lst _,_,h=>let ⟨p,vs,e,f,r⟩:=h;⟨p,vs,e,le.f _ _ f,Rvs.lf le r⟩
 |.kt _,_,h=>let ⟨p,vs,e,f,r⟩:=h;⟨p,vs,e,f,Rvs.lf le r⟩
 |.kl _,_,h=>let ⟨p,vs,e,f,r⟩:=h;⟨p,vs,e,fV le.f f,Rvs.lf le r⟩
 |.kd _ _,_,h=>h
 |.ref _,_,h=>let ⟨p,e,f⟩:=h;⟨p,e,le.m _ _ f⟩
 |.ty _,_,h=>h
 |.gl _,_,h=>h
theorem Rvs.lf{W W':Wd}(le:W.Lf W'):∀{us:B8}{vs:B0 V},Rvs B W us vs->Rvs B W' us vs
 |[],_,h=>h
 |_::_,_,h=>let ⟨v,r,e,d,c⟩:=h;⟨v,r,e,Rv.lf le d,Rvs.lf le c⟩
end
def Rv.mono{W:Wd}(le:W.Le W'){u:U}(h:Rv B W u v):Rv B W' u v:=h.lf le.lf
def Rvs.mono{W:Wd}(le:W.Le W'){u:B8}{v:B0 V}(h:Rvs B W u v):Rvs B W' u v:=h.lf le.lf
theorem Rvs.length{W:Wd}:∀{us:B8}{vs:B0 V},Rvs B W us vs->vs.length=us.length
 |[],_,h=>by rw[show _=[] from h];rfl
 |_::_,_,h=>by let⟨v,r,rfl,_,c⟩:=h;simp[Rvs.length c]
theorem Rvs.app{W:Wd}:∀{us ws:B8}{vs c:B0 V},Rvs B W us vs->Rvs B W ws c->Rvs B W (us++ws) (vs++c)
 |[],_,_,_,h,g=>by rw[show _=[] from h];exact g
 |_::_,_,_,_,h,g=>by let⟨v,r,rfl,j,d⟩:=h;exact⟨v,r++_,rfl,j,Rvs.app d g⟩
def Rvs.one{W:Wd}{u:U}(h:Rv B W u v):Rvs B W [u] [v]:=⟨v,[],rfl,h,rfl⟩
theorem Rvs.get{W:Wd}:∀{us:B8}{vs:B0 V},Rvs B W us vs->∀{i:Nat}{u:U},us[i]?=some u->∃v,vs[i]?=some v/\Rv B W u v
 |[],_,_,_,_,e=>by simp at e
 |_::_,_,h,0,_,e=>by let⟨v,r,rfl,d,c⟩:=h;simp at e;subst e;exact⟨v,rfl,d⟩
 |_::_,_,h,i+1,_,e=>by let⟨v,r,rfl,d,c⟩:=h;exact Rvs.get c (by simpa using e)
theorem Rvs.drop{W:Wd}:∀(n:Nat){us:B8}{vs:B0 V},Rvs B W us vs->Rvs B W (us.drop n) (vs.drop n)
 |0,_,_,h=>h
 |_+1,[],_,h=>by rw[show _=[] from h];rfl
 |n+1,_::_,_,h=>by let⟨v,r,rfl,d,c⟩:=h;exact Rvs.drop n c
theorem Rvs.take{W:Wd}:∀(n:Nat){us:B8}{vs:B0 V},Rvs B W us vs->Rvs B W (us.take n) (vs.take n)
 |0,_,_,_=>rfl
 |_+1,[],_,h=>by rw[show _=[] from h];rfl
 |n+1,_::_,_,h=>by let⟨v,r,rfl,d,c⟩:=h;exact⟨v,r.take n,rfl,d,Rvs.take n c⟩
theorem Rvs.set{W:Wd}{u:U}{v:V}(g:Rv B W u v):∀{us:B8}{vs:B0 V}(i:Nat),Rvs B W us vs->Rvs B W (Fx.set us i u) (vs.set i v)
 |[],_,_,h=>by rw[show _=[] from h];rfl
 |_::_,_,0,h=>by let⟨d,r,rfl,j,c⟩:=h;exact⟨v,r,rfl,g,c⟩
 |_::_,_,i+1,h=>by let⟨d,r,rfl,j,c⟩:=h;exact⟨d,_,rfl,j,Rvs.set g i c⟩
def Rn{κ:Type}(B:Bs)(W:Wd):B0 (κ×U)->B0 (κ×V)->Prop
 |[],vs=>vs=[]
 |x::c,vs=>∃v r,vs=(x.1,v)::r/\Rv B W x.2 v/\Rn B W c r
theorem Rn.lf{κ:Type}{W W':Wd}(le:W.Lf W'):∀{us:B0<|κ×U}{vs:B0<|κ×V},Rn B W us vs->Rn B W' us vs
 |[],_,h=>h
 |_::_,_,h=>let ⟨v,r,e,d,c⟩:=h;⟨v,r,e,d.lf le,Rn.lf le c⟩
theorem Rn.length{κ:Type}{W:Wd}:∀{us:B0<|κ×U}{vs:B0<|κ×V},Rn B W us vs->vs.length=us.length
 |[],_,h=>by rw[show _=[] from h];rfl
 |_::_,_,h=>by let⟨v,r,rfl,_,c⟩:=h;simp[Rn.length c]
def Ro(B:Bs)(W:Wd):Ob->HO->Prop
 |.lst g,o=>∃vs,o=.lst vs/\Rvs B W g vs
 |.dct d,o=>∃vs,o=.dK vs/\Rn B W d vs
 |.ins C fs,o=>∃c j vs,B.cl C c/\o=.ins c j vs/\Rn B W fs vs
 |.dead,o=>∃vs,o=.lst vs
theorem Ro.lf{W W':Wd}(le:W.Lf W'):∀{o:Ob}{h:HO},Ro B W o h->Ro B W' o h
 |.lst _,_,h=>let ⟨vs,e,r⟩:=h;⟨vs,e,r.lf le⟩
 |.dct _,_,h=>let ⟨vs,e,r⟩:=h;⟨vs,e,r.lf le⟩
 |.ins _ _,_,h=>let ⟨c,d,vs,m,e,r⟩:=h;⟨c,d,vs,m,e,r.lf le⟩
 |.dead,_,h=>h
def Ro.mono{W:Wd}(le:W.Le W'){o:Ob}(r:Ro B W o h):Ro B W' o h:=r.lf le.lf
structure RS(B:Bs)(W:Wd)(S:So)(H:Hp):Prop where
 fz:∀p o,W.F p=some o->H p=some o
 len:W.μ.length=S.length
 nd:∀a b p,at? W.μ a=some p->at? W.μ b=some p->a=b
 ob:∀a p,at? W.μ a=some p->∃o h,at? S a=some o/\H p=some h/\Ro B W o h/\(o=.dead\/W.F p=none)
 pf:∀q∈W.pr,H q.1=some q.2/\W.F q.1=none/\(∀a,at? W.μ a≠some q.1)/\∀vs,q.2≠.tup vs
section
variable{J:Type}
theorem nO:∀{l:B0 J}{i:Nat}{v:J},at? l i=some v->i<l.length
 |_::_,0,_,_=>⋯
 |_::r,i+1,v,h=>by have:=nO (l:=r) (i:=i) h;simp;lia
theorem kP:∀{l:B0 J}{i:Nat},i<l.length->∃v,at? l i=some v
 |v::_,0,_=>⟨v,rfl⟩
 |_::r,i+1,h=>kP (l:=r) (i:=i) (by simpa using h)
theorem dS:∀{l r:B0 J}{i:Nat}{v:J},at? l i=some v->at? (l++r) i=some v
 |_::_,_,0,_,h=>h
 |_::l,r,i+1,v,h=>dS (l:=l) (r:=r) (i:=i) h
theorem il:∀{l:B0 J}{v:J},at? (l++[v]) l.length=some v
 |[],_=>rfl
 |_::l,v=>il (l:=l) (v:=v)
theorem dB:∀{l:B0 J}{v w:J}{i:Nat},at? (l++[v]) i=some w->at? l i=some w\/(i=l.length/\w=v)
 |[],v,w,0,h=>.inr ⟨rfl,(xB3 h).symm⟩
 |[],_,_,_+1,h=>by cases h
 |_::_,_,_,0,h=>.inl h
 |_::l,v,w,i+1,h=>by
  rcases dB (l:=l) (v:=v) (w:=w) (i:=i) h with z|⟨z,e⟩
  .exact .inl z
  .exact .inr ⟨by simp[z],e⟩
theorem iY:∀{l:B0 J}{i:Nat}{v:J},(set l i v).length=l.length
 |[],_,_=>rfl
 |_::_,0,_=>rfl
 |_::r,i+1,v=>by show(set r i v).length+1=r.length+1;rw[iY]
theorem lU:∀{l:B0 J}{i:Nat}{v:J},i<l.length->at? (set l i v) i=some v
 |_::_,0,_,_=>rfl
 |_::r,i+1,v,h=>lU (l:=r) (i:=i) (by simpa using h)
theorem gj:∀{l:B0 J}{i j:Nat}{v:J},i≠j->at? (set l i v) j=at? l j
 |[],_,_,_,_=>rfl
 |_::_,0,0,_,h=>absurd rfl h
 |_::_,0,_+1,_,_=>rfl
 |_::_,_+1,0,_,_=>rfl
 |_::r,i+1,j+1,v,h=>gj (l:=r) (i:=i) (j:=j) ()
end
section
variable{W:Wd}{S:So}{H H':Hp}{p:B5}
def RS.here(r:RS B W S H){o:Ob}(e:at? S a=some o):∃p h,at? W.μ a=some p/\H p=some h/\Ro B W o h/\(o=.dead\/W.F p=none):=by
 have j:=nO e;let⟨p,c⟩:=kP (l:=W.μ) (i:=a) (by rw[r.len];exact j);let⟨w,h,d,m,g,q⟩:=r.ob a p c;rw[e] at d;cases d;exact⟨p,h,c,m,g,q⟩
def RS.same(r:RS B W S H)(s:zGh H H'):RS B W S H':=
 ⟨λp o h=>s _ _<|r.fz p o h,r.len,r.nd,λa p h=>let ⟨o,g,e,j,d,q⟩:=r.ob a p h;⟨o,g,e,s _ _ j,d,q⟩,λq c=>⟨s _ _ (r.pf q c).1,(r.pf q c).2⟩⟩
def RS.add(r:RS B W S H)(e:H p=some o)(w:∀a,at? W.μ a≠some p)(hp:∀q∈W.pr,q.1≠p):W.Le {W with F:=upd W.F p o}/\RS B {W with F:=upd W.F p o} S H:=by
 have le:W.Le { W with F:=upd W.F p o }:=⟨λb c h=>by
  by_cases z:b=p
  .subst z;rw[r.fz _ _ h] at e;cases e;exact ce
  .show upd W.F p o b=_;rw[cb z];exact h,λ_ _ h=>h,rfl⟩
 refine⟨le,⟨λb c h=>?_,r.len,r.nd,λa b h=>?_,λq d=>?_⟩⟩
 .by_cases z:b=p
  .subst z;have:some o=some c:=by rw[<- h];exact ce.symm
   cases this;exact e
  .exact r.fz b c (by rw[<- h];exact(cb z).symm)
 .let⟨c,g,I,y,m,q⟩:=r.ob a b h;refine⟨c,g,I,y,m.mono le,q.imp id λz=>?_⟩;show upd W.F p o b=none;rw[cb λj=>w a<|by rw[<- j];exact h];exact z
 .let⟨G,D,A⟩:=r.pf q d;exact⟨G,by show upd W.F p o q.1=none;rw[cb<|hp q d];exact D,A⟩
def RS.addT(r:RS B W S H)(e:H p=some (.tup vs)):W.Le {W with F:=upd W.F p<|.tup vs}/\RS B {W with F:=upd W.F p<|.tup vs} S H:=by
 by_cases z:W.F p=some (.tup vs)
 .have:upd W.F p (.tup vs)=W.F:=by
   funext b
   by_cases y:b=p
   .rw[y,ce,z]
   .rw[cb y]
  rw[this];exact⟨.refl,r⟩
 .refine r.add e (λa h=>?_) λq d z=>?_
  .let⟨o,g,m,j,c,q⟩:=r.ob a p h;rw[e] at j;cases j;cases o with
   |lst _=>let⟨_,z,_⟩:=c;cases z
   |dct _=>let⟨_,z,_⟩:=c;cases z
   |ins _ _=>let⟨_,_,_,_,z,_⟩:=c;cases z
   |dead=>let⟨_,z⟩:=c;cases z
  .rw[<- z,(r.pf q d).1] at e;exact(r.pf q d).2.2.2 vs<|xB3 e
def RS.fresh(r:RS B W S H)(e:H p=none):W.Le {W with F:=upd W.F p o}/\RS B {W with F:=upd W.F p o} S (upd H p o):=by
 refine(r.same<|dq e o).add ce (λa h=>?_) λq d z=>?_
 .let⟨_,g,_,c,_⟩:=r.ob a p h;rw[e] at c;cases c
 .rw[<- z,(r.pf q d).1] at e;cases e
def RS.push{o:Ob}(r:RS B W S H)(e:H p=none)(D:Ro B {W with μ:=W.μ++[p]} o h):W.Le {W with μ:=W.μ++[p]}/\RS B {W with μ:=W.μ++[p]} (S++[o]) (upd H p h)/\at? (W.μ++[p]) S.length=some p:=by
 have le:W.Le {W with μ:=W.μ++[p]}:=⟨λ_ _ h=>h,λa b h=>dS h,rfl⟩
 have nm:∀a,at? W.μ a≠some p:=λa z=>by
  let⟨_,g,_,j,_⟩:=r.ob a p z;rw[e] at j;cases j
 have J:W.F p=none:=by
  cases z:W.F p with
  |none=>rfl
  |some d=>rw[r.fz _ _ z] at e;cases e
 have m:=dq e h;refine⟨le,⟨λb d z=>m _ _<|r.fz b d z,by simp[r.len],λa b q c y=>?_,λa q c=>?_,λq I=>?_⟩,by rw[<- r.len];exact il⟩
 .rcases dB c with z1|⟨z1,e1⟩ <;> rcases dB y with z2|⟨z2,e2⟩
  .exact r.nd a b q z1 z2
  .exact absurd (e2▸z1)<|nm a
  .exact absurd (e1▸z2)<|nm b
  .rw[z1,z2]
 .rcases dB c with z1|⟨z1,e1⟩
  .let⟨d,g,K,j,w,G⟩:=r.ob a q z1;exact⟨d,g,dS K,m _ _ j,w.mono le,G⟩
  .subst e1;exact⟨o,h,by rw[z1,r.len];exact il,ce,D,.inr J⟩
 .let⟨c,y,A⟩:=r.pf q I;refine⟨m _ _ c,y,λa z=>?_,A.2⟩;rcases dB z with z1|⟨_,e1⟩
  .exact A.1 a z1
  .rw[e1,e] at c;cases c
def RS.mut{o o':Ob}(r:RS B W S H)(d:at? W.μ a=some p)(e:at? S a=some o)(I:o≠.dead)(D:Ro B W o' h):RS B W (set S a o')<|upd H p h:=by
 have w:W.F p=none:=by
  let⟨o2,g,j,_,_,q⟩:=r.ob a p d;rw[e] at j;cases j;exact q.resolve_left I
 refine⟨λb o2 z=>?_,by rw[iY];exact r.len,r.nd,λb q c=>?_,λq J=>?_⟩
 .rw[cb λy=>by rw[y,w] at z;cases z];exact r.fz b o2 z
 .by_cases y:a=b
  .subst y;rw[d] at c;cases c;exact⟨o',h,lU<|nO e,ce,D,.inr w⟩
  .let⟨o2,g,j,K,m,G⟩:=r.ob b q c;exact⟨o2,g,by rw[gj y];exact j,by rw[cb λz=>y<|r.nd a b p d<|by rw[<- z];exact c];exact K,m,G⟩
 .let⟨c,L,A⟩:=r.pf q J;exact⟨by rw[cb λz=>A.1 a<|by rw[z];exact d];exact c,L,A⟩
def RS.freeze{xs:B8}(r:RS B W S H)(e:at? S a=some (.lst xs))(d:at? W.μ a=some p):∃W',W.Le W'/\RS B W' (set S a .dead) H/\Rv B W' (.lst xs) (.ref p):=by
 let⟨o,g,j,G,J,q⟩:=r.ob a p d;rw[e] at j;cases j;let⟨vs,rfl,m⟩:=J;have M:W.F p=none:=q.resolve_left (by intro z;cases z);have le:W.Le { W with F:=upd W.F p (.lst vs) }:=⟨λb A h=>by
  show upd W.F p _ b=_;rw[cb λy=>by rw[y,M] at h;cases h];exact h,λ_ _ h=>h,rfl⟩
 refine⟨_,le,⟨λb A h=>?_,by rw[iY];exact r.len,r.nd,λb q c=>?_,λq L=>?_⟩,p,vs,rfl,ce,m.mono le⟩
 .by_cases z:b=p
  .subst z;have:some (HO.lst vs)=some A:=by rw[<- h];exact ce.symm
   cases this;exact G
  .exact r.fz b A (by rw[<- h];exact(cb z).symm)
 .by_cases y:a=b
  .subst y;rw[d] at c;cases c;exact⟨.dead,_,lU<|nO e,G,⟨vs,rfl⟩,.inl rfl⟩
  .let⟨o2,g,j,D,w,K⟩:=r.ob b q c;refine⟨o2,g,by rw[gj y];exact j,D,w.mono le,K.imp id λz=>?_⟩;show upd W.F p _ q=none;rw[cb λz=>y<|r.nd a b p d<|by rw[<- z];exact c];exact z
 .let⟨c,N,I⟩:=r.pf q L;refine⟨c,?_,I⟩;show upd W.F p _ q.1=none;rw[cb λz=>I.1 a<|by rw[z];exact d];exact N
def RS.hold(r:RS B W S H)(e:H p=none)(A:∀vs,o≠.tup vs):RS B {W with pr:=(p,o)::W.pr} S<|upd H p o:=by
 have m:=dq e o;have c:=r.same m;refine⟨c.fz,c.len,c.nd,λa q h=>let ⟨j,g,D,d,w,y⟩:=c.ob a q h;⟨j,g,D,d,w.lf<|Wd.Lf.pr,y⟩,λq hq=>?_⟩;rcases xAv.mp hq with rfl|hq
 .refine⟨ce,?_,λa z=>?_,A⟩
  .cases z:W.F p with
   |none=>rfl
   |some j=>rw[r.fz _ _ z] at e;cases e
  .let⟨_,g,_,d,_⟩:=r.ob a p z;rw[e] at d;cases d
 .exact c.pf q hq
def RS.held{o':HO}(r:RS B W S H)(c:W.pr=(p,o)::l)(F:∀vs,o'≠.tup vs)(hl:∀q∈l,q.1≠p):RS B {W with pr:=(p,o')::l} S<|upd H p o':=by
 let⟨J,j,d,_⟩:=r.pf (p,o) (by rw[c];exact xAr);refine⟨λb u z=>?_,r.len,r.nd,λa q h=>?_,λq hq=>?_⟩
 .rw[cb λy=>by rw[y,j] at z;cases z];exact r.fz b u z
 .let⟨o2,g,I,G,m,w⟩:=r.ob a q h;exact⟨o2,g,I,by rw[cb λy=>d a<|by rw[<- y];exact h];exact G,m.lf<|Wd.Lf.pr,w⟩
 .rcases xAv.mp hq with rfl|hq
  .exact⟨ce,j,d,F⟩
  .let⟨D,A⟩:=r.pf q (by rw[c];exact xAs _ hq);exact⟨by rw[cb<|hl q hq];exact D,A⟩
def RS.heldF(r:RS B W S H)(c:W.pr=(p,o)::l)(hl:∀q∈l,q.1≠p):RS B {W with pr:=l,F:=upd W.F p o} S H:=by
 let⟨K,J,I,_⟩:=r.pf (p,o) (by rw[c];exact xAr);have lf:W.Lf {W with pr:=l,F:=upd W.F p o}:=⟨λb u z=>by show upd W.F p o b=_;rw[cb λy=>by rw[y,J] at z;cases z];exact z,λ_ _ h=>h⟩
 refine⟨λb u z=>?_,r.len,r.nd,λa q h=>?_,λq d=>?_⟩
 .by_cases y:b=p
  .subst y;have:some o=some u:=by rw[<- z];exact ce.symm
   cases this;exact K
  .exact r.fz b u (by rw[<- z];exact(cb y).symm)
 .let⟨o2,g,L,G,j,m⟩:=r.ob a q h;exact⟨o2,g,L,G,j.lf lf,m.imp id λz=>by show upd W.F p o q=none;rw[cb λy=>I a<|by rw[<- y];exact h];exact z⟩
 .let⟨D,A,w⟩:=r.pf q (by rw[c];exact xAs _ d);exact⟨D,by show upd W.F p o q.1=none;rw[cb<|hl q d];exact A,w⟩
def RS.heldS{b:Ob}(r:RS B W S H)(w:W.pr=(p,o)::l)(hl:∀q∈l,q.1≠p)(F:Ro B {W with pr:=l,μ:=W.μ++[p]} b h):RS B {W with pr:=l,μ:=W.μ++[p]} (S++[b]) (upd H p h)/\at? (W.μ++[p]) S.length=some p:=by
 let⟨P,A,h3,_⟩:=r.pf (p,o) (by rw[w];exact xAr);have lf:W.Lf {W with pr:=l,μ:=W.μ++[p]}:=⟨λ_ _ h=>h,λ_ _ h=>dS h⟩
 refine⟨⟨λc u z=>?_,by simp[r.len],λa c q d D=>?_,λa q d=>?_,λq m=>?_⟩,by rw[<- r.len];exact il⟩
 .rw[cb λy=>by rw[y,A] at z;cases z];exact r.fz c u z
 .rcases dB d with z1|⟨z1,e1⟩ <;> rcases dB D with z2|⟨z2,e2⟩
  .exact r.nd a c q z1 z2
  .exact absurd (e2▸z1)<|h3 a
  .exact absurd (e1▸z2)<|h3 c
  .rw[z1,z2]
 .rcases dB d with z1|⟨z1,e1⟩
  .let⟨I,g,O,N,j,G⟩:=r.ob a q z1;exact⟨I,g,dS O,by rw[cb λy=>h3 a<|by rw[<- y];exact z1];exact N,j.lf lf,G⟩
  .subst e1;exact⟨b,h,by rw[z1,r.len];exact il,ce,F,.inr A⟩
 .let⟨M,L,K,J⟩:=r.pf q (by rw[w];exact xAs _ m);refine⟨by rw[cb<|hl q m];exact M,L,λa z=>?_,J⟩;rcases dB z with z1|⟨_,e1⟩
  .exact K a z1
  .exact hl q m e1
end
structure Rg(B:Bs)(W:Wd)(O:Sg)(τ:St):Prop where
 l:τ.length=O.length
 v:∀i v,nth O i=some v->∃u,τ[i]?=some (some u)/\Rv B W v u
theorem Rg.mono{W W':Wd}{O:Sg}{τ:St}(r:Rg B W O τ)(le:W.Le W'):Rg B W' O τ:=⟨r.l,λi v h=>let ⟨u,e,q⟩:=r.v i v h;⟨u,e,q.mono le⟩⟩
theorem fL:∀{O:Sg}{i:Nat}{v:U},(put O i v).length=O.length
 |[],_,_=>rfl
 |_::_,0,_=>rfl
 |_::r,i+1,v=>by show(put r i v).length+1=r.length+1;rw[fL]
theorem jk:∀{O:Sg}{i j:Nat}{v w:U},nth (put O i v) j=some w->(i=j/\w=v/\i<O.length)\/(i≠j/\nth O j=some w)
 |[],_,_,_,_,h=>by cases h
 |_::_,0,0,_,_,h=>.inl ⟨rfl,(xB3 h).symm,⋯⟩
 |_::_,0,_+1,_,_,h=>.inr ⟨(),h⟩
 |_::_,_+1,0,_,_,h=>.inr ⟨(),h⟩
 |_::r,i+1,j+1,v,w,h=>by
  rcases jk (O:=r) (i:=i) (j:=j) h with ⟨a,b,c⟩|⟨a,b⟩
  .exact .inl ⟨(),b,by simp;lia⟩
  .exact .inr ⟨(),b⟩
theorem Rg.put{W:Wd}{O:Sg}{τ:St}{i:Nat}{v:U}{u:V}(r:Rg B W O τ)(q:Rv B W v u):Rg B W (put O i v)<|τ.set i<|some u:=by
 refine⟨by rw[List.length_set,fL];exact r.l,λj w h=>?_⟩;rcases jk h with ⟨rfl,rfl,g⟩|⟨a,b⟩
 .exact⟨u,by rw[List.getElem?_set_self<|by rw[r.l];exact g],q⟩
 .let⟨c,e,d⟩:=r.v j w b;exact⟨c,by rw[xC1 a];exact e,d⟩
structure RX(B:Bs)(W:Wd)(x:Xc)(S:So)(C:B2)(dx:B1 B5)(H:Hp):Prop where
 s:RS B W S H
 c:∃c,B.mg x.cls=some (.ref c)/\C=.ref c
 f:(x.fs=[]/\dx=none)\/∃d vs,dx=some d/\H d=some (.xd vs)/\Rn B W x.fs vs
def XL(B:Bs)(W:Wd)(E:XK):C7:=λx S=>∀W' C c H,W.Le W'->RX B W' x S C c H->E C c H
def XL.up{W W':Wd}{E:XK}{x:Xc}{S:So}(le:W.Le W')(h:XL B W E x S):XL B W' E x S:=λW2 C d H c=>h W2 C d H<|le.trans c
def VL(B:Bs)(W:Wd)(Q:VK):C6:=λv S=>∀W' u H,W.Le W'->RS B W' S H->Rv B W' v u->Q u H
def AL(B:Bs)(W:Wd)(Q:B0 V->Hp->Prop):B8->So->Prop:=λv S=>∀W' u H,W.Le W'->RS B W' S H->Rvs B W' v u->Q u H
def BL(B:Bs)(W:Wd)(Q:B6->Hp->Prop):B6->So->Prop:=λb S=>∀W' H,W.Le W'->RS B W' S H->Q b H
def NL(B:Bs)(W:Wd)(Q:St->Hp->Prop):Sg->So->Prop:=λO S=>∀W' τ H,W.Le W'->RS B W' S H->Rg B W' O τ->Q τ H
section
variable(B)(G:C8)(Ex:St->XK)
def LE(c:C5):TE:=λτ H Q=>∃W O S,RS B W S H/\Rg B W O τ/\c G O S (XL B W<|Ex τ) (VL B W Q)
def LA(c:C9):TA:=λτ H Q=>∃W O S,RS B W S H/\Rg B W O τ/\c G O S (XL B W<|Ex τ) (AL B W Q)
def LT(c:TTx Prop):TT:=λτ H Q=>∃W O S,RS B W S H/\Rg B W O τ/\c G O S (XL B W<|Ex τ) (BL B W Q)
noncomputable def LEe(W:Wd)(D:zDi):Ee Prop where
 nx:=NL B W D.nx
 rt:=VL B W D.rt
 bk:=NL B W D.bk
 ct:=NL B W D.ct
 x:=λx O S=>∀W' τ C dx H,W.Le W'->RX B W' x S C dx H->Rg B W' O τ->Ex τ C dx H
def LS(c:C4):TS:=λD τ H=>∃W O S,RS B W S H/\Rg B W O τ/\c G O S (LEe B Ex W D)
end
structure zA4(G:C8)(c:C5):Prop where
 m:∀{O S}{x x':C7}{k k':C6},(∀e S,x e S->x' e S)->(∀v S,k v S->k' v S)->c G O S x k->c G O S x' k'
structure zCj(G:C8)(c:C9)(n:Nat):Prop where
 m:∀{O S}{x x':C7}{k k':B8->So->Prop},(∀e S,x e S->x' e S)->(∀v S,v.length=n->k v S->k' v S)->c G O S x k->c G O S x' k'
structure zBo(G:C8)(c:TTx Prop):Prop where
 m:∀{O S}{x x':C7}{k k':B6->So->Prop},(∀e S,x e S->x' e S)->(∀v S,k v S->k' v S)->c G O S x k->c G O S x' k'
structure zDg(E E':Ee Prop):Prop where
 nx:∀O S,E.nx O S->E'.nx O S
 rt:∀v S,E.rt v S->E'.rt v S
 bk:∀O S,E.bk O S->E'.bk O S
 ct:∀O S,E.ct O S->E'.ct O S
 x:∀e O S,E.x e O S->E'.x e O S
structure zBv(G:C8)(c:C4):Prop where
 m:∀{O S}{E E':Ee Prop},zDg E E'->c G O S E->c G O S E'
structure Box(p:Prop):Prop where
 h:p
def prP(up:B0<|Str×Str)(p:Pm)(vs:B8)(S:So)(k:C6):Prop:=match pr up p vs S with
 |.ok v S1=>k v S1
 |.stuck=>False
structure zB1(up:B0 (Str×Str))(G:C8):Prop where
 fail:G.fail=False
 prim:∀p vs S x k,G.prim p vs S x k=Box (prP up p vs S k)
 br:∀b p q,G.br b p q=Box (if b=true then p Unit.unit else q Unit.unit)
 call:∀{i vs S}{x x':C7}{k k':C6},(∀e S,x e S->x' e S)->(∀v S,k v S->k' v S)->G.call i vs S x k->G.call i vs S x' k'
section
variable{up:B0<|Str×Str}{G:C8}(g:zB1 up G)
include g
theorem zB1.pm{p:Pm}{vs:B8}{x':C7}{c:C6}(hk:∀v S,k v S->c v S)(h:G.prim p vs S x k):G.prim p vs S x' c:=by
 rw[g.prim] at h⊢;let⟨h⟩:=h;refine⟨?_⟩;unfold prP at h⊢;cases e:pr up p vs S with
 |ok v S1=>rw[e] at h;exact hk _ _ h
 |stuck=>rw[e] at h;exact h
theorem zB1.pok{p:Pm}{vs:B8}(h:G.prim p vs S x k):∃v S1,pr up p vs S=.ok v S1/\k v S1:=by
 rw[g.prim] at h;let⟨h⟩:=h;unfold prP at h;cases e:pr up p vs S with
 |ok v S1=>rw[e] at h;exact⟨v,S1,rfl,h⟩
 |stuck=>rw[e] at h;exact h.elim
theorem zB1.bm{b:B6}{p d c:Unit->Prop}(m:p Unit.unit->d Unit.unit)(j:q Unit.unit->c Unit.unit)(h:G.br b p q):G.br b d c:=by
 rw[g.br] at h⊢;let⟨h⟩:=h;refine⟨?_⟩;cases b
 .exact j h
 .exact m h
theorem zB1.bk{b:B6}{p:Unit->Prop}(h:G.br b p q):if b=true then p Unit.unit else q Unit.unit:=by
 rw[g.br] at h;exact h.h
theorem zB1.no(h:G.fail):False:=by rw[g.fail] at h;exact h
theorem mV:zA4 G<|cV i:=⟨λc hk h=>by
 unfold cV at h⊢;split at h
 .exact hk _ _ h
 .exact h⟩
theorem mC{u:U}:zA4 G<|cC u:=⟨λc hk h=>hk _ _ h⟩
theorem mAN:zCj G aN 0:=⟨λc hk h=>hk _ _ rfl h⟩
theorem mAC{r:C9}(a:zA4 G e)(b:zCj G r n):zCj G (aC e r)<|n+1:=⟨λc hk h=>a.m c (λv S1=>b.m c λvs S2 d=>hk _ _<|by simp[d]) h⟩
theorem mP{p:Pm}(a:zCj G as n):zA4 G<|cP p as:=⟨λc hk h=>a.m c (λvs S1 _ d=>g.pm hk d) h⟩
theorem mT(a:zCj G as n):zA4 G<|cT as:=⟨λc hk h=>a.m c (λvs S1 _ d=>hk _ _ d) h⟩
theorem mF(a:zCj G as n):zA4 G<|cF i as ds:=⟨λc hk h=>a.m c (λvs S1 _ d=>g.call c hk d) h⟩
theorem mM{m:Str}{o:C5}(b:zA4 G o)(a:zCj G as n):zA4 G<|cM C m i o as ds:=⟨λc hk h=>b.m c (λv S1 p=>g.pm (λw S2 j=>a.m c (λvs S3 _ d=>g.call c hk d) j) p) h⟩
theorem mK(a:zCj G as n):zA4 G<|cK C i as ds:=⟨λd hk h=>a.m d (λvs S1 _ p=>g.pm (λw S2 j=>g.call (λ_ _ h=>h) (λr S3 c=>by cases r <;> first|exact hk _ _ c|exact c) j) p) h⟩
theorem mBM{T:String}{p:Pm}{o:C5}(b:zA4 G o)(a:zCj G as n):zA4 G<|cBM T p o as:=⟨λc hk h=>b.m c (λv S1 r=>g.pm (λw S2 j=>a.m c (λvs S3 _ d=>g.pm hk d) j) r) h⟩
theorem mB(a:zA4 G e):zBo G<|tB e:=⟨λd hk h=>a.m d (λv S1 c=>by cases v <;> first|exact hk _ _ c|exact c) h⟩
theorem mNt{t:TTx Prop}(a:zBo G t):zBo G<|tNt t:=⟨λc hk h=>a.m c (λv S1 d=>hk _ _ d) h⟩
theorem mIi{t u v:TTx Prop}(a:zBo G t)(b:zBo G u)(c:zBo G v):zBo G<|tIi t u v:=⟨λd hk h=>a.m d (λv S1 j=>g.bm (b.m d hk) (c.m d hk) j) h⟩
theorem mAn{t u:TTx Prop}(a:zBo G t)(b:zBo G u):zBo G<|tAn t u:=⟨λc hk h=>a.m c (λv S1 d=>g.bm (b.m c hk) (hk _ _) d) h⟩
theorem mOr{t u:TTx Prop}(a:zBo G t)(b:zBo G u):zBo G<|tOr' t u:=⟨λc hk h=>a.m c (λv S1 d=>g.bm (hk _ _) (b.m c hk) d) h⟩
theorem mCB{t:TTx Prop}(a:zBo G t):zA4 G<|cB t:=⟨λc hk h=>a.m c (λv S1 d=>hk _ _ d) h⟩
theorem mIf{t:TTx Prop}{f:C5}(a:zBo G t)(b:zA4 G e)(c:zA4 G f):zA4 G<|cIf t e f:=⟨λd hk h=>a.m d (λv S1 j=>g.bm (b.m d hk) (c.m d hk) j) h⟩
theorem mCh{p q:Pm}{a b c:C5}(F:zA4 G a)(D:zA4 G b)(A:zA4 G c):zBo G<|tCh p q a b c:=⟨λd hk h=>F.m d (λv S1=>D.m d λw S2=>g.pm λr S3 y=>by
 cases r <;> first|exact y|exact g.bm (A.m d λz S4=>g.pm λr2 S5 j=>by cases r2 <;> first|exact hk _ _ j|exact j) (hk _ _) y) h⟩
theorem mN:zBv G sN:=⟨λl h=>l.nx _ _ h⟩
omit g in
theorem zDg.sq{nx:Sg->So->Prop}(l:zDg E E')(h:∀O S,nx O S->nx' O S):zDg (sqE E nx)<|sqE E' nx':=⟨h,l.rt,l.bk,l.ct,l.x⟩
omit g in
theorem zDg.lp{nx:Sg->So->Prop}(l:zDg E E')(h:∀O S,nx O S->nx' O S):zDg (lpE E nx)<|lpE E' nx':=⟨h,l.rt,l.nx,h,l.x⟩
omit g in
theorem zDg.xc{x x':Xc->Sg->So->Prop}(l:zDg E E')(h:∀e O S,x e O S->x' e O S):zDg (xcE E x)<|xcE E' x':=⟨l.nx,l.rt,l.bk,l.ct,h⟩
theorem mQ{t u:C4}(a:zBv G t)(b:zBv G u):zBv G<|sQ t u:=⟨λl h=>a.m (l.sq λ_ _=>b.m l) h⟩
theorem mA(a:zA4 G e):zBv G<|sA i e:=⟨λl h=>a.m (λ_ _=>l.x _ _ _) (λ_ _=>l.nx _ _) h⟩
theorem mU(a:zA4 G e):zBv G<|sU is e:=⟨λl h=>a.m (λ_ _=>l.x _ _ _) (λ_ _=>g.pm λw S h=>by cases w <;> first|exact l.nx _ _ h|exact h) h⟩
theorem mSE(a:zA4 G e):zBv G<|sE e:=⟨λl h=>a.m (λ_ _=>l.x _ _ _) (λ_ _=>l.nx _ _) h⟩
theorem mR(a:zA4 G e):zBv G<|sR e:=⟨λl h=>a.m (λ_ _=>l.x _ _ _) (λ_ _=>l.rt _ _) h⟩
theorem mI{t:TTx Prop}{u v:C4}(a:zBo G t)(b:zBv G u)(c:zBv G v):zBv G<|sI t u v:=⟨λl h=>a.m (λ_ _=>l.x _ _ _) (λ_ _=>g.bm (b.m l)<|c.m l) h⟩
theorem mSP{p:Pm}{c:C9}(a:zA4 G e)(b:zCj G c n):zBv G<|sP p e c:=⟨λl h=>a.m (λ_ _=>l.x _ _ _) (λ_ _=>b.m (λ_ _=>l.x _ _ _) λ_ _ _=>g.pm λ_ _=>l.nx _ _) h⟩
theorem zIx{one:B6}{v:U}{O:Sg}{k c:Sg->Prop}(hk:∀O,k O->c O)(h:tgt is one G v O k):tgt is one G v O c:=by
 unfold tgt at h⊢;cases one with
 |true=>exact hk _ h
 |false=>cases v with
  |tup vs=>
   dsimp only at h⊢;cases e:Nat.beq vs.length is.length with
   |true=>rw[e] at h;exact hk _ h
   |false=>rw[e] at h;exact(g.no h).elim
  |_=>exact(g.no h).elim
omit g in
theorem zIy{b j:U->Sg->So->(Sg->So->Prop)->Prop}(d:∀v O S k c,(∀O S,k O S->c O S)->b v O S k->j v O S c):∀{vs:B8}{O:Sg}{S:So}{k c:Sg->So->Prop},(∀O S,k O S->c O S)->zB2 vs b O S k->zB2 vs j O S c
 |[],_,_,_,_,hk,h=>hk _ _ h
 |v::vs,_,_,_,_,hk,h=>d _ _ _ _ _ (λ_ _ z=>zIy d hk z) h
theorem mSF{one:B6}(a:zA4 G it)(d:zBv G b):zBv G<|sF it is one b:=⟨λl h=>a.m (λ_ _=>l.x _ _ _) (λv S1 c=>by
 cases v <;> first|exact c|(dsimp only at c⊢;refine zIy ?_ l.nx c;exact λ_ _ _ _ _ hk=>zIx g λ_=>d.m<|l.lp hk)) h⟩
theorem mSW{t:TTx Prop}(a:zBo G t)(j:zBv G b):zBv G<|sW t b:=⟨λ{O S E E'} l h=>by
 unfold sW at h⊢;generalize G.fuel=n at h⊢;induction n generalizing O S with
 |zero=>exact h
 |succ n d=>exact a.m (λ_ _=>l.x _ _ _) (λc S1=>g.bm (j.m<|l.lp λ_ _=>d)<|l.nx _ _) h⟩
theorem mSX{fs:B7}(a:zCj G as n):zBv G<|sX C fs as:=⟨λl h=>a.m (λ_ _=>l.x _ _ _) (λ_ _ _=>l.x _ _ _) h⟩
theorem mST{f:Str}{j:Nat}(c:zBv G b):zBv G<|sT C i j f b:=⟨λl d=>c.m (l.xc λe O S z=>by
 unfold hdl at z⊢;cases e1:decide (e.cls=C) with
 |false=>rw[e1] at z;exact z
 |true=>
  rw[e1] at z;dsimp only at z⊢;cases e2:zAt f e.fs with
  |none=>rw[e2] at z;exact z
  |some v=>
   rw[e2] at z;dsimp only at z⊢;cases e3:Nat.blt i O.length with
   |true=>rw[e3] at z;exact l.nx _ _ z
   |false=>rw[e3] at z;exact z) d⟩
omit g in
theorem mLc{b m:U->So->(B1 U->So->Prop)->Prop}(j:∀v S k c,(∀o S,k o S->c o S)->b v S k->m v S c):∀{vs ys:B8}{S:So}{k c:C6},(∀v S,k v S->c v S)->lcK G b vs ys S k->lcK G m vs ys S c
 |[],_,_,_,_,hk,h=>hk _ _ h
 | v::vs,_,_,_,_,hk,h=>j _ _ _ _ (λo S d=>match o,d with
  |some _,d=>mLc j hk d
  |none,d=>mLc j hk d) h
theorem mLx{one:B6}{cs:B9}(a:zA4 G it)(p:zA4 G e):zA4 G<|cLx it is one n cs e:=⟨λd hk h=>a.m d (λv S1 c=>by
 cases v with
 |tup vs=>
  erw[<-g.bm (λc=>?_) (λc=>c) c,<-mLc ?_ hk c,<-λ_ _ _ _ j=>zIx g λO z=>p.m (λ_ _ z=>z) (λ_ _=>j _ _) z]
 |_=>exact c) h⟩
theorem zKc{u:U}(c:zBv G b):zBv G<|sTa C i u b:=⟨λl d=>c.m (l.xc λe O S z=>by
 unfold hda at z⊢;cases e1:decide (e.cls=C) with
 |false=>rw[e1] at z;exact z
 |true=>rw[e1] at z;exact l.nx _ _ z) d⟩
end
end Fx
namespace L2
open PySem PySem.Spec PyProof.Rows
def zC9:V->C0->Hp->VK->Prop:=λx a H Q=>∃i j:Str,x=.str i/\a=[.str j]/\Q (.bl<|decide (0+j.length<=i.length)&&Builtin.Str.subAt i j 0) H
section
variable{X:Cx}
def oB:MtR X "str.startswith" zC9:=by
 intro Z s O H x c v us Q I a b h;let⟨i,j,rfl,rfl,q⟩:=h;let⟨t,rfl⟩:=a;let⟨u,rfl,w,rfl⟩:=b.one;erw[call_meets PySem.F.slot_str_startswith (typeIs_str _ _ _) PySem.F.entry_str_startswith (PySem.F.args_str_startswith_2 _ _) (gives_str_startswith i j t w).meets,<-⟨.bl _,H,I,rfl,q⟩]
theorem iV:∀{ws:B7}{us:C3},zAi (ws.map V.str) us->StrsAre us ws
 |[],_,h=>by cases h;exact .nil
 |w::ws,_,h=>by
  cases h with
  |cons a b=>
   let⟨t,rfl⟩:=a;exact .cons w t<|iV b
def zJb(K:xFr):C0->Hp->VK->Prop:=λa H Q=>∃(p:B5) (bs:B0 B6),a=[.ref p]/\SqL K H p (bs.map V.bl)/\∀b:B6,b=bs.all id->Q (.bl b) H
def o6(bs:B0 B6):(List.range bs.length).all (λi=>bs.getD i true)=bs.all id:=by
 rw[Bool.eq_iff_iff,xCx,xCx];constructor
 .intro h b c;let⟨i,a,rfl⟩:=List.getElem_of_mem c;have:=h i<|List.mem_range.mpr a;rw[xBz,xAk a] at this;exact this
 .intro h i a;have a:=List.mem_range.mp a;rw[xBz,xAk a];exact h _<|List.getElem_mem a
def yQ(y:X.calm=true):zAm X (.builtin "all")<|zJb X.K:=by
 intro Z s O H F us Q I r h;let⟨p,bs,rfl,B,q⟩:=h;let⟨u,rfl,g⟩:=zBl r;obtain rfl:u=Value.ref p:=g;let⟨a,l,d,E⟩:=I.list B;have k:=l.length;rw[xAa] at k;have j:p<s.heap.objs.size:=by
  let⟨o,_,e,_⟩:=d;exact xA1 e
 have c:∀(i:Nat)(v:B2),a.toArray[i]?=some v->v=Value.bool (bs.getD i true):=λi v e=>by
  have w:a[i]?=some v:=by simpa using e
  have n:i<bs.length:=by rw[k];exact(xAq.mp w).1
  let⟨u,m,g⟩:=l.get (i:=i) (x:=.bl bs[i]) (by rw[xAw,xAk n];rfl);rw[w] at m;cases m;rw[xBz,xAk n];exact g
 erw[<-call_all_walk<|wpAny_pyIter_list d.isList ?_,<-⟨s.heap.objs.size,[s.heap.objs.size,p],[s.heap.objs.size],_,_,_,λi=>bs.getD i true,rfl,Walks.list (A:=X.A.in1) (I.ok.hd y) s.heap.objs.size p (xA0 j) a.toArray,⟨⟨_,xAl _ rfl,rfl,rfl⟩,d.isList.push _⟩,λi v G Q' E' D C=>?_,λJ tk hk=>?_⟩]
 .rw[c i v D];exact wpAny_truthy_bool C
 .refine⟨.bl _,H,I.kept (t':=tk) λb o e=>hk b o ?_<|xAf _ e,rfl,q _ ?_⟩
  .rw[xAm];exact xA0<|xA1 e
  .rw[xAp,<- k];exact o6 bs
def zGc:C0->Hp->VK->Prop:=λa H Q=>∃(x:Str) (n:Int),a=[.str x]/\PySem.intText? x=some n/\x.length<=640/\Q (.int n) H
def vd:zAm X (.type "int") zGc:=by
 intro Z s O H c us Q I r h;let⟨x,n,rfl,a,b,q⟩:=h;let⟨u,rfl,t,rfl⟩:=zBl r;exact PySem.W.KIN.call_text a b ⟨.int n,H,I.tok _,⟨_,rfl⟩,q⟩
end
def zIg:V->B1 Int->B1 Int->Hp->VK->Prop:=λx a b H Q=>∃z:Str,x=.str z/\z.length<=sizeLine/\Q (.str<|Txt.slice z a b) H
section
variable{X:Cx}
theorem pO:SlR X zIg:=by
 intro Z s O H x v o n r w p Q I m b pl g h;let⟨z,rfl,a,q⟩:=h;let⟨t,rfl⟩:=m;refine⟨"str",_,PySem.F.slot_str_getitem.lookup,typeIs_str _ _ _,?_⟩;cases pl with
 |none=>cases g with
  |none=>exact wpAny_getItem_str_slice (l:=none) (u:=none) (st:=none) b rfl (post_val_or_str ⟨xCk (Txt.slice_le z _ _) a,λd k=>⟨.str _,H,I.tok k,⟨_,rfl⟩,q⟩⟩)
  |int j c=>exact wpAny_getItem_str_slice (l:=none) (u:=some (j,c)) (st:=none) b rfl (post_val_or_str ⟨xCk (Txt.slice_le z _ _) a,λd k=>⟨.str _,H,I.tok k,⟨_,rfl⟩,q⟩⟩)
 |int i e=>cases g with
  |none=>exact wpAny_getItem_str_slice (l:=some (i,e)) (u:=none) (st:=none) b rfl (post_val_or_str ⟨xCk (Txt.slice_le z _ _) a,λd k=>⟨.str _,H,I.tok k,⟨_,rfl⟩,q⟩⟩)
  |int j c=>exact wpAny_getItem_str_slice (l:=some (i,e)) (u:=some (j,c)) (st:=none) b rfl (post_val_or_str ⟨xCk (Txt.slice_le z _ _) a,λd k=>⟨.str _,H,I.tok k,⟨_,rfl⟩,q⟩⟩)
end
noncomputable def Its(z:Str):It:=⟨λi _=>i<z.cps.size,λi H x H'=>H'=H/\∃c,z.cps[i]?=some c/\x=.str ⟨#[c]⟩,λi _=>i=z.cps.size⟩
def jL{P:Program}{w:World}{K:xFr}{M:B4}(it:B5)(z:Str)(t:Tok)(ty:String)(q:["enumerate","zip","dict_itemiterator","dict_reverseitemiterator","odict_iterator","itertools.zip_longest","itertools.pairwise"].contains ty=false)(W:∀A':Around,A'.handled=none->Walks P w A' it [it] [it] z.cps.size (SignAt z) (λi h=>h.IsStrIter it ty z t i))(a:∀(A:Around)(i:Nat)(s:B3)(Q:B2->B3->Prop)(E:B2->B3->Prop),s.heap.IsStrIter it ty z t i->Q (.ref it) s->wpAny (model P w) A (pyIter<|.ref it) Q E s) :
  zEl P w K M (Its z) [it] it (λi h=>h.IsStrIter it ty z t i) where
 mem:=by simp
 obj:=λi h st b g=>by
  have e:b=it:=by simpa using g
  subst e;let⟨o,e,c,d⟩:=st;exact⟨o,e,λv z=>by rw[d] at z;cases z⟩
 keep:=λi h n st k=>by
  let⟨o,e,r⟩:=st;exact⟨o,k it ⋯ o e,r⟩
 item:=by
  intro X B p C y i Z s O H E I m st l;subst B p C;let⟨L,J,S,G,F,D⟩:=m it ⋯;refine(W X.A<|I.ok.hd y).item i s _ _ l st λv n tk R j N=>?_;let⟨c,u,x,rfl⟩:=R;have I1:Inv X Z O H {s with heap:=n,toks:=tk}:=I.turned (λb o g e=>N b o (by simpa using g) e) L J G F D;let⟨o,e,Y,d⟩:=id j;exact⟨_,rfl,nv (s:={s with heap:=n,toks:=tk}) e Y d q ⟨.str ⟨#[c]⟩,H,I1,⟨u,rfl⟩,⟨rfl,c,x,rfl⟩,j,λb g=>(m b g).1⟩⟩
 done:=by
  intro X B p C y i Z s O H E I m st l;subst B p C;let⟨L,J,S,G,F,D⟩:=m it ⋯;have l:i=z.cps.size:=l;subst l;exact(W X.A<|I.ok.hd y).done s _ _ st λn tk T=>⟨rfl,I.turned (t':=tk) (λb o g e=>T b o (by simpa using g) e) L J G F D⟩
 self:=a
def zDm(x:V)(H:Hp)(R:It->Hp->Prop):Prop:=∃z:Str,x=.str z/\R (Its z) H
def sS:bootBuiltins "zip"=some (.type "zip"):=by decide +kernel
def zI9:C0->Hp->VK->Prop:=λa H Q=>(∃i,a=[.int i]/\i.natAbs.log2<1920/\Q (.str<|PySem.Str.ofString<|toString i) H)\/∃z,a=[.str z]/\Q (.str z) H
def zFg:R2:=λx y H Q=>∃(z:Str) (b:B6),x=.str z/\y=.int (if b then 1 else 0)/\Q (.str<|if b then z else Str.empty) H
section
variable{X:Cx}
def yN:zAm X (.type "str") zI9:=by
 intro Z s O H b us Q I r h;rcases h with ⟨i,rfl,a,q⟩|⟨z,rfl,q⟩
 .let⟨u,rfl,t,rfl⟩:=zBl r;exact PySem.P.str_of_int a ⟨.str _,H,I.tok _,⟨_,rfl⟩,q⟩
 .let⟨u,rfl,t,rfl⟩:=zBl r;exact PySem.P.str_of_str ⟨.str _,H,I,⟨_,rfl⟩,q⟩
def ux:OpR X (binaryOp .Mult) zFg:=by
 intro Z s O H x y v u Q I c a h;let⟨z,b,rfl,rfl,q⟩:=h;let⟨t,rfl⟩:=c;let⟨t2,rfl⟩:=a;cases b
 .exact PySem.P.mul_str_none ∅ ∅ ⟨.str _,H,I.tok _,⟨_,rfl⟩,q⟩
 .exact PySem.P.mul_str ∅ (λ_ z=>by simp at z) (λ_ z=>by simp at z) ⟨.str _,H,I,⟨_,rfl⟩,q⟩
end
def KD(w:World)(K:xFr)(a:B5):Prop:=∃es n,K.lookup a=some ⟨.type "dict",none,.dict es n,#[]⟩/\PySem.W.KeysLit w.params es.toList/\(a==sysModules)=false
end L2
namespace RevA
open PySem PySem.Spec PyProof.Rows
variable{Q E:B2->B3->Prop}{prog:Program}{w:World}{A:Around}{s:B3}
structure ZAp(z TI TO i1 i2:B5)(f1 f2:B0 B5):Prop where
 q1:TI≠z
 q2:TO≠z
 q3:i1≠z
 q4:i2≠z
 q5:TI≠TO
 q6:TI≠i1
 q7:TI≠i2
 q8:TO≠i1
 q9:TO≠i2
 qa:i1≠i2
 n1:z∉f1
 n2:z∉f2
 n3:TO∉f1
 n4:TO∉f2
 n5:i1∉f2
 n6:i2∉f1
section
variable{prog:Program}{w:World}{A:Around}{E:B2->B3->Prop}{s:B3}{z TI TO i1 i2:B5}{f1 f2:B0 B5}{n1 n2 k:Nat}{P1 P2:Nat->B2->Prop}{S1 S2:Nat->Heap->Prop}{a b:B2}
def o8(D1:Draws prog w A i1 f1 n1 P1 S1)(D2:Draws prog w A i2 f2 n2 P2 S2)(D:ZAp z TI TO i1 i2 f1 f2)(F:IsZip s.heap z TI TO .none)(W:IsPair s.heap TI (.ref i1)<|.ref i2)(T:IsPair s.heap TO a b)(st1:S1 k s.heap)(R:S2 k s.heap)(l1:k<n1)(l2:k<n2)(q:∀x y h' tk,P1 k x->P2 k y->IsZip h' z TI TO (rawInt s.heap.objs.size)->IsPair h' TO x y->S1 (k+1) h'->S2 (k+1) h'->IsPair h' s.heap.objs.size x y->(∀c o,c≠z->c≠TO->c≠i1->c≠i2->s.heap.get? c=some o->h'.get? c=some o) ->
   Q (.ref s.heap.objs.size) {s with heap:=h',toks:=tk}):wpAny (model prog w) A (Builtin.«zip.__next__» ⟨[.ref z],[]⟩) (λY s'=>∃v,Y=.done (.ret v)/\Q v s') E s:=by
 let⟨S,g,d,P,m⟩:=s;change wpAny _ _ (field (.ref z) 2>>=_) _ _ _;refine xAd<|xDa F rfl (x:=.bool false) rfl ?_;change wpAny _ _ (field (.ref z) 3>>=_) _ _ _;refine xAd<|xDa F rfl (x:=.ref TI) rfl<|xAd<|wpAny_seqItems W rfl ?_;change wpAny _ _ (Builtin.SmallTypes.ownedTupleIsFree (.ref z)>>=_) _ _ _;erw[xAd];unfold Builtin.SmallTypes.ownedTupleIsFree;refine xAd<|xDa F rfl (x:=.none) rfl<|xAe ?_;simp only[if_true];erw[<-xAd<|wpAny_rule<|xAd<|xDa F rfl (x:=.ref TO) rfl ?_,<-xAd<|wpAny_setField_rec F ⋯ λI O b1=>?_]
 replace O:IsZip I z TI TO .ellipsis:=O
 replace b1:Heap.SameBut z S I:=b1
 erw[xAd];simp only[List.zipIdx_cons,List.zipIdx_nil,List.forIn_cons,List.forIn_nil];refine xAd<|xAd<|wpAny_onRaise ?_;change wpAny _ _ (Builtin.SmallTypes.nextOf (.ref i1)>>=_) _ _ _;have t1:S1 k I:=D1.frame _ _ _ st1 λc h o e=>b1.extBut c o (λy=>D.n1<|y▸h) e;refine xAd<|D1.item k ⟨I,g,d,P,m⟩ _ _ l1 t1 λx H l px t2 b2=>xAe ?_
 replace b2:Heap.SameBut i1 I H:=b2
 have o2:IsPair H TO a b:=b2.extBut _ _ D.q8<|b1.extBut _ _ D.q2 T;erw[<-xAd<|wpAny_seqItems (s:=⟨H,g,d,l,m⟩) o2 rfl ?_,<-xAd<|wpAny_updateSeq_pair (s:=⟨H,g,d,l,m⟩) o2 λB o3 b3=>?_]
 replace o3:IsPair B TO x b:=o3
 replace b3:Heap.SameBut TO H B:=b3
 erw[<-xAd<|wpAny_letGo<|xAe ?_,<-xAd<|xAd<|wpAny_onRaise ?_];change wpAny _ _ (Builtin.SmallTypes.nextOf (.ref i2)>>=_) _ _ _;have u3:S2 k B:=D2.frame _ _ _ R λc h o e=>b3.extBut c o (λy=>D.n4<|y▸h)<|b2.extBut c o (λy=>D.n5<|y▸h)<|b1.extBut c o (λy=>D.n2<|y▸h) e;have t3:S1 (k+1) B:=D1.frame _ _ _ t2 λc h o e=>b3.extBut c o (λy=>D.n3<|y▸h) e;refine xAd<|D2.item k ⟨B,g,d,l,m⟩ _ _ l2 u3 λy r j py u4 b4=>xAe ?_
 replace b4:Heap.SameBut i2 B r:=b4
 have o4:IsPair r TO x b:=b4.extBut _ _ D.q9 o3;have t4:S1 (k+1) r:=D1.frame _ _ _ t3 λc h o e=>b4.extBut c o (λy=>D.n6<|y▸h) e;erw[<-xAd<|wpAny_seqItems (s:=⟨r,g,d,j,m⟩) o4 rfl ?_,<-xAd<|wpAny_updateSeq_pair (s:=⟨r,g,d,j,m⟩) o4 λi K p=>?_]
 replace K:IsPair i TO x y:=K
 replace p:Heap.SameBut TO r i:=p
 refine xAd<|wpAny_letGo<|xAe<|xAe ?_;have t5:S1 (k+1) i:=D1.frame _ _ _ t4 λc h o e=>p.extBut c o (λy=>D.n3<|y▸h) e;have u5:S2 (k+1) i:=D2.frame _ _ _ u4 λc h o e=>p.extBut c o (λy=>D.n4<|y▸h) e;erw[<-xAd<|wpAny_seqItems (s:=⟨i,g,d,j,m⟩) K rfl ?_,<-xAd<|wpAny_newTuple ?_];have sz:i.objs.size=S.objs.size:=by rw[p.1,b4.1,b3.1,b2.1,b1.1]
 have z5:IsZip i z TI TO .ellipsis:=p.extBut _ _ D.q2.symm<|b4.extBut _ _ D.q4.symm<|b3.extBut _ _ D.q2.symm<|b2.extBut _ _ D.q3.symm O;have kk:∀c o,c≠z->c≠TO->c≠i1->c≠i2->S.get? c=some o->i.get? c=some o:=λc o n L c3 Z e=>p.extBut _ _ L<|b4.extBut _ _ Z<|b3.extBut _ _ L<|b2.extBut _ _ c3<|b1.extBut _ _ n e;have C:z<i.objs.size:=xA1 z5;change wpAny _ _ (Builtin.SmallTypes.ownedTupleHandOut (.ref z) (.ref i.objs.size)>>=_) _ _ _;erw[xAd];unfold Builtin.SmallTypes.ownedTupleHandOut;have z6:IsZip (i.push {cls:=.type "tuple",data:=.seq #[x,y]}) z TI TO .ellipsis:=xAf _ z5;refine xAd<|wpAny_setField_rec z6 ⋯ λX N b7=>?_
 replace N:IsZip X z TI TO<|rawInt i.objs.size:=N
 refine wpAny_setField_rec N ⋯ λG J M=>?_
 replace J:IsZip G z TI TO<|rawInt i.objs.size:=J
 replace b7:Heap.SameBut z (i.push {cls:=.type "tuple",data:=.seq #[x,y]}) X:=b7
 replace M:Heap.SameBut z X G:=M
 have up:∀c o,c≠z->i.get? c=some o->G.get? c=some o:=λc o n e=>M.extBut _ _ n<|b7.extBut _ _ n<|xAf _ e;have T8:IsPair G i.objs.size x y:=M.extBut _ _ (Nat.ne_of_gt C)<|b7.extBut _ _ (Nat.ne_of_gt C)<|xAl _ rfl;rw[sz] at J T8;refine xAe ⟨_,rfl,?_⟩;change Q (.ref i.objs.size) _;rw[sz];exact q x y G j px py J (up _ _ D.q2 K) (D1.frame _ _ _ t5 λc h o e=>up c o (λy=>D.n1<|y▸h) e) (D2.frame _ _ _ u5 λc h o e=>up c o (λy=>D.n2<|y▸h) e) T8 λc o n L c3 Z e=>up c o n<|kk c o n L c3 Z e
def o9{Q:Fin->B3->Prop}(D1:Draws prog w A i1 f1 n1 P1 S1)(D:ZAp z TI TO i1 i2 f1 f2)(g:IsZip s.heap z TI TO .none)(l:IsPair s.heap TI (.ref i1)<|.ref i2)(st1:S1 n1 s.heap)(q:∀h' e,(∀c o,c≠z->c≠TO->c≠i1->c≠i2->s.heap.get? c=some o->h'.get? c=some o)->(∃o,h'.get? e=some o/\o.cls=.type "StopIteration")->E (.ref e) {s with heap:=h'}) :
  wpAny (model prog w) A (Builtin.«zip.__next__» ⟨[.ref z],[]⟩) Q E s:=by
 change wpAny _ _ (field (.ref z) 2>>=_) _ _ _;refine xAd<|xDa g rfl (x:=.bool false) rfl ?_;change wpAny _ _ (field (.ref z) 3>>=_) _ _ _;refine xAd<|xDa g rfl (x:=.ref TI) rfl<|xAd<|wpAny_seqItems l rfl ?_;change wpAny _ _ (Builtin.SmallTypes.ownedTupleIsFree (.ref z)>>=_) _ _ _;erw[xAd];unfold Builtin.SmallTypes.ownedTupleIsFree;refine xAd<|xDa g rfl (x:=.none) rfl<|xAe ?_;simp only[if_true];erw[<-xAd<|wpAny_rule<|xAd<|xDa g rfl (x:=.ref TO) rfl ?_,<-xAd<|wpAny_setField_rec g ⋯ λm i b1=>?_]
 replace i:IsZip m z TI TO .ellipsis:=i
 erw[xAd];simp only[List.zipIdx_cons,List.zipIdx_nil,List.forIn_cons,List.forIn_nil];refine xAd<|xAd<|wpAny_onRaise ?_;change wpAny _ _ (Builtin.SmallTypes.nextOf (.ref i1)>>=_) _ _ _;have v:S1 n1 m:=D1.frame _ _ _ st1 λc F o e=>b1.extBut c o (λy=>D.n1<|y▸F) e;refine xAd (D1.done {s with heap:=m} _ _ v λH e b2 C=>?_);let⟨B,d,h⟩:=C;have n:IsZip H z TI TO .ellipsis:=b2 _ _ D.q3.symm i;have j:e≠z:=λx=>by subst x;rw[n] at d;cases d;simp at h
 exact wpAny_setField_rec n ⋯ λG _ r=>q G e (λc o p _ I _ x=>r.extBut _ _ p<|b2 _ _ I<|b1.extBut _ _ p x) ⟨B,r.extBut _ _ j d,h⟩
def nR{Q:B1 B2->B3->Prop}(D1:Draws prog w A.in1 i1 f1 n1 P1 S1)(D2:Draws prog w A.in1 i2 f2 n2 P2 S2)(D:ZAp z TI TO i1 i2 f1 f2)(h:IsZip s.heap z TI TO .none)(g:IsPair s.heap TI (.ref i1)<|.ref i2)(e:IsPair s.heap TO a b)(st1:S1 k s.heap)(d:S2 k s.heap)(m:k<n1)(l:k<n2)(q:∀x y h' tk,P1 k x->P2 k y->IsZip h' z TI TO (rawInt s.heap.objs.size)->IsPair h' TO x y->S1 (k+1) h'->S2 (k+1) h'->IsPair h' s.heap.objs.size x y->(∀c o,c≠z->c≠TO->c≠i1->c≠i2->s.heap.get? c=some o->h'.get? c=some o) ->
   Q (some<|.ref s.heap.objs.size) {s with heap:=h',toks:=tk}):wpAny (model prog w) A (pyNext<|.ref z) Q E s:=by
 have i:s.TypeIs (.ref z) "zip":=⟨_,h,rfl⟩
 unfold pyNext;exact xAd<|wpAny_attempt<|wpAny_callSpecial?_slot (name:=Str.ofString "__next__") i PySem.F.slot_zip_next (wpAny_call_entry PySem.F.slot_zip_next i PySem.F.entry_zip_next
  (o8 D1 D2 D h g e st1 d m l λx y h' tk j r2 r3 r4 r5 r6 r7 r8=>xAe<|q x y h' tk j r2 r3 r4 r5 r6 r7 r8) (PySem.F.args_zip_next_1 _))
def nS{Q:B1 B2->B3->Prop}(D1:Draws prog w A.in1 i1 f1 n1 P1 S1)(D:ZAp z TI TO i1 i2 f1 f2)(g:IsZip s.heap z TI TO .none)(d:IsPair s.heap TI (.ref i1)<|.ref i2)(st1:S1 n1 s.heap)(q:∀h',(∀c o,c≠z->c≠TO->c≠i1->c≠i2->s.heap.get? c=some o->h'.get? c=some o)->Q none {s with heap:=h'}):wpAny (model prog w) A (pyNext<|.ref z) Q E s:=by
 have h:s.TypeIs (.ref z) "zip":=⟨_,g,rfl⟩
 unfold pyNext;refine xAd<|wpAny_attempt<|wpAny_callSpecial?_slot (name:=Str.ofString "__next__") h PySem.F.slot_zip_next<|wpAny_call_entry PySem.F.slot_zip_next h PySem.F.entry_zip_next (o9 D1 D g d st1 λh' e hk j=>?_)<|PySem.F.args_zip_next_1 _;let⟨o,i,l⟩:=j;exact xAd<|wpAny_isInstance (T:="StopIteration") (b:=true) ⟨o,i,l⟩ isSubtype_stop<|xAe<|q _ hk
end
def zBp(v:B2)(o:Obj)(h:Heap):Prop:=∀(prog:Program)(w:World)(A:Around)(E:B2->B3->Prop)(s:B3)(Q:B2->B3->Prop),s.heap=h->Q (.ref s.heap.objs.size) {s with heap:=s.heap.push o}->wpAny (model prog w) A (pyIter v) Q E s
def nr{v:B2}{o:Obj}(i:zBp v o s.heap)(h:Q (.ref s.heap.objs.size) {s with heap:=s.heap.push o}):wpAny (model prog w) A (pyIter v) Q E s:=i _ _ _ _ _ _ rfl h
noncomputable abbrev zh3(h:Heap)(o1 o2:Obj):Heap:=((h.push o1).push o2).push {cls:=.type "tuple",data:=.seq #[.ref h.objs.size,.ref (h.push o1).objs.size]}
noncomputable abbrev zh4(h:Heap)(o1 o2:Obj):Heap:=(zh3 h o1 o2).push {cls:=.type "tuple",data:=.seq #[.none,.none]}
noncomputable abbrev zh5(h:Heap)(o1 o2:Obj):Heap:=(zh4 h o1 o2).push {cls:=.type "zip",data:=.fields #[.none,.bool false,.bool false,.ref ((h.push o1).push o2).objs.size,.ref (zh3 h o1 o2).objs.size]}
def tp(b a:B2)(o1 o2:Obj):Meets (Builtin.«zip.__new__» ⟨[.type "zip",b,a],[]⟩) λ_ R s=>zBp b o1 s.heap/\zBp a o2 (s.heap.push o1)/\R (.ok<|.ret<|.ref (zh4 s.heap o1 o2).objs.size) {s with heap:=zh5 s.heap o1 o2}:=
 .of_wp λprog w A R s h=>by
  let⟨k,g,d,tk,i⟩:=s;let⟨e,c,h⟩:=h;have j:=sub_zip;have m:zBp b o1<|Shared.heap ⟨k,g,d,tk,i⟩:=e;have l:zBp a o2<|Shared.heap ⟨k.push o1,g,d,tk,i⟩:=c;wp_walk using nr m,nr l
  exact⟨_,rfl,h⟩
def pb{b a:B2}{o1 o2:Obj}(p:zBp b o1 s.heap)(n:zBp a o2<|s.heap.push o1)(q:∀h',IsZip h' (s.heap.objs.size+4) (s.heap.objs.size+2) (s.heap.objs.size+3) .none->IsPair h' (s.heap.objs.size+2) (.ref s.heap.objs.size) (.ref<|s.heap.objs.size+1)->IsPair h' (s.heap.objs.size+3) .none .none ->
   (o1.isFreed=false->h'.get? s.heap.objs.size=some o1)->(o2.isFreed=false->h'.get? (s.heap.objs.size+1)=some o2)->(∀c o,s.heap.get? c=some o->h'.get? c=some o)->Q (.ref<|s.heap.objs.size+4) {s with heap:=h'}) :
  wpAny (model prog w) A (call (.type "zip") [b,a]) Q E s:=by
 refine callType_new PySem.F.called_zip ∅ (PySem.F.typeCall_zip_2 _ _) (PySem.F.newCall_zip_2 _ _) (λd=>PySem.F.args_object_init_3 d _ _) PySem.F.entry_zip_new (tp b a o1 o2) ⟨p,n,?_⟩;have i:(s.heap.push o1).objs.size=s.heap.objs.size+1:=Heap.size_push ..;have h:((s.heap.push o1).push o2).objs.size=s.heap.objs.size+2:=by rw[Heap.size_push,i]
 have g:(zh3 s.heap o1 o2).objs.size=s.heap.objs.size+3:=by rw[Heap.size_push,h]
 have m:(zh4 s.heap o1 o2).objs.size=s.heap.objs.size+4:=by rw[Heap.size_push,g]
 have e:(zh5 s.heap o1 o2).get? (zh4 s.heap o1 o2).objs.size=some _:=xAl _ rfl;have j:(zh5 s.heap o1 o2).get? (zh3 s.heap o1 o2).objs.size=some _:=xAf _<|xAl _ rfl;have k:(zh5 s.heap o1 o2).get? ((s.heap.push o1).push o2).objs.size=some _:=xAf _<|xAf _<|xAl _ rfl;have l:o2.isFreed=false->(zh5 s.heap o1 o2).get? (s.heap.push o1).objs.size=some o2:=λf=>xAf _<|xAf _<|xAf _<|xAl _ f;have r:o1.isFreed=false->(zh5 s.heap o1 o2).get? s.heap.objs.size=some o1:=λf=>xAf _<|xAf _<|xAf _<|xAf _<|xAl _ f;change _/\_;rw[h,g,m] at e;rw[i,h] at k;rw[g] at j;rw[i] at l;rw[m];exact⟨⟨_,e,rfl⟩,q _ e k j r l λc o x=>xAf _<|xAf _<|xAf _<|xAf _<|xAf _ x⟩
end RevA
namespace L2
open PySem PySem.Spec PyProof.Rows RevA
variable{P:Program}{w:World}{K:xFr}{lim n k:Nat}{it:B5}{elts:B0 B4}{pos:Pos}{x:V}
noncomputable def sgs(z:Str):C0:=z.cps.toList.map λc=>.str ⟨#[c]⟩
def sqV(K:xFr)(H:Hp)(x:V)(xs:C0):Prop:=(∃a,x=.ref a/\SqT K H a xs)\/∃z,x=.str z/\xs=sgs z
structure Src(P:Program)(w:World)(K:xFr)(lim:Nat)(x:V)(it:B5)(tn:Nat->Heap->Prop):Prop where
 obj:∀i h,tn i h->∃o,h.get? it=some o/\∀v,o.data≠.cell v
 keep:∀i h h',tn i h->(∀o,h.get? it=some o->h'.get? it=some o)->tn i h'
 dr:∀(X:Cx),X.prog=P->X.w=w->X.K=K->X.calm=true->∀(Z:B0 (B5×Obj))(O:St)(H:Hp)(s:B3),Inv X Z O H s->∀xs,sqV K H x xs->∃(f:B0 B5) (Pv:Nat->B2->Prop) (S:Nat->Heap->Prop),
  (∀b∈f,b=it\/b<lim)/\Draws P w X.A.in1 it f xs.length Pv S/\(∀i,tn i s.heap->S i s.heap)/\(∀i h,S i h->tn i h)/\(∀i v,Pv i v->∃u,xs[i]?=some u/\zAj u v)/\∀ys,sqV K H x ys->ys=xs
def tE{a:B5}(B:a<lim)(hi:lim<=it):Src P w K lim (.ref a) it (λi h=>h.IsTupleIter it a i) where
 obj:=λi h ⟨o,e,_,d⟩=>⟨o,e,λv z=>by rw[d] at z;cases z⟩
 keep:=λi h Q st k=>st.at λo e=>k o e
 dr:=by
  intro X J F L G Z O H s I C g;subst J F L;rcases g with ⟨b,e,g⟩|⟨z,e,_⟩
  .cases e;let⟨c,m,p,N⟩:=I.tuple g;have r:=m.length;have D:=zF4 (prog:=X.prog) (w:=X.w) (A:=X.A.in1) (by simpa using I.ok.hd G) it a (xA0<|xBc B hi) c.toArray;rw[xAp,<- r] at D;refine⟨_,_,_,λb y=>?_,D,λi st=>⟨st,p⟩,λi h st=>st.1,λi v j=>?_,λM l=>?_⟩
   .simp only[xAv,xBv,or_false] at y;rcases y with rfl|rfl
    .exact .inl rfl
    .exact .inr B
   .have j:c[i]?=some v:=by simpa using j
    have hi:i<C.length:=by rw[r];exact(xAq.mp j).1
    let⟨u,q,E⟩:=m.get<|xAk hi;rw[j] at q;cases q;exact⟨_,xAk hi,E⟩
   .rcases l with ⟨b,e,l⟩|⟨z,e,_⟩
    .cases e;exact I.tuple_inj l g
    .cases e
  .cases e
def mj{z:Str}{t:Tok}{ty:String}(B:∀A':Around,A'.handled=none->Draws P w A' it [it] z.cps.size (λi v=>∃c u,z.cps[i]?=some c/\v=.str ⟨#[c]⟩ u) (λi h=>h.IsStrIter it ty z t i)) :
  Src P w K lim (.str z) it (λi h=>h.IsStrIter it ty z t i) where
 obj:=λi h ⟨o,e,_,d⟩=>⟨o,e,λv z=>by rw[d] at z;cases z⟩
 keep:=λi h F ⟨o,e,r⟩ k=>⟨o,k o e,r⟩
 dr:=by
  intro X q m y a Z O H s I E j;subst q m y;rcases j with ⟨b,e,j⟩|⟨l,e,rfl⟩
  .cases e
  .cases e;have D:=B X.A.in1 (by simpa using I.ok.hd a);rw[show z.cps.size=(sgs z).length by simp[sgs]] at D;refine⟨_,_,_,λb p=>.inl (by simpa using p),D,λi st=>st,λi h st=>st,λi v ⟨c,u,a,e⟩=>⟨.str ⟨#[c]⟩,?_,u,e⟩,λC g=>?_⟩
   .simp[sgs,a]
   .rcases g with ⟨b,e,g⟩|⟨l,e,rfl⟩
    .cases e
    .cases e;rfl
noncomputable def Itg(K:xFr)(x y:V):It:=
 ⟨λi H=>∃a b u v,sqV K H x a/\sqV K H y b/\a[i]?=some u/\b[i]?=some v,
  λi H p H'=>∃(q:B5) (u v:V),p=.ref q/\H q=none/\H'=upd H q (.tup [u,v])/\(∀a,sqV K H x a->a[i]?=some u)/\∀b,sqV K H y b->b[i]?=some v,
  λi H=>∃a,sqV K H x a/\a.length=i⟩
def pc{f1 f2:B0 B5}(m1:∀b∈f1,b=n\/b<n)(h:∀b∈f2,b=n+1\/b<n):ZAp (n+4) (n+2) (n+3) n (n+1) f1 f2:=by
 have g:∀c:Nat,n<c->c∉f1:=λc a z=>by
  rcases m1 c z with e|e
  .exact Nat.ne_of_gt a e
  .exact Nat.not_lt_of_lt a e
 have d:∀c:Nat,n<=c->c≠n+1->c∉f2:=λc a i z=>by
  rcases h c z with e|e
  .exact i e
  .exact Nat.not_lt_of_le a e
 exact⟨⋯,⋯,by simp[xA0],⋯,⋯,⋯,⋯,⋯,⋯,⋯,g _ (),d _ () ⋯,g _ (),d _ () ⋯,d _ (xAg _) ⋯,g _ ()⟩
def nU{y:V}{t1 t2:Nat->Heap->Prop}(p:Src P w K n x n t1)(D:Src P w K n y (n+1) t2) :
  zEl P w K (.Tuple elts k pos) (Itg K x y) [n+4,n+2,n+3,n,n+1] (n+4) (λi h=>IsZip h (n+4) (n+2) (n+3) .none/\IsPair h (n+2) (.ref n) (.ref<|n+1)/\(∃x y,IsPair h (n+3) x y)/\t1 i h/\t2 i h) where
 mem:=by simp
 obj:=λi h st c l=>by
  let⟨j,g,⟨x,y,m⟩,q4,q5⟩:=st;simp only[xAv,xBv,or_false] at l;rcases l with rfl|rfl|rfl|rfl|rfl
  .exact⟨_,j,λv z=>by cases z⟩
  .exact⟨_,g,λv z=>by cases z⟩
  .exact⟨_,m,λv z=>by cases z⟩
  .exact p.obj i h q4
  .exact D.obj i h q5
 keep:=λi h h' st k=>by
  let⟨j,g,⟨x,y,m⟩,q4,q5⟩:=st;exact⟨k _ ⋯ _ j,k _ ⋯ _ g,⟨x,y,k _ ⋯ _ m⟩,p.keep i h h' q4 λo e=>k _ ⋯ o e,D.keep i h h' q5 λo e=>k _ ⋯ o e⟩
 item:=by
  intro X Y Q hK l i Z s O H E I W st T;subst Y Q hK;let⟨J,ys,u,v,S,hr,N,M⟩:=T;let⟨j,g,⟨x0,y0,m⟩,q4,q5⟩:=st;let⟨f1,P1,S1,m1,D1,a1,c1,r1,j1⟩:=p.dr X rfl rfl rfl l Z O H s I J S;let⟨f2,P2,S2,m2,D2,a2,c2,r2,j2⟩:=D.dr X rfl rfl rfl l Z O H s I ys hr;have AP:=pc (f1:=f1) (f2:=f2) m1 m2;have lz:n+4<s.heap.objs.size:=xA1 j;have h0:H s.heap.objs.size=none:=I.hok.fresh<|xAg _;refine nR D1 D2 AP j g m (a1 i q4) (a2 i q5) (xAq.mp N).1 (xAq.mp M).1 λC B h1 tk p1 p2 b1 b2 b3 b4 b5 hk=>?_;let⟨u',r,ru⟩:=r1 i C p1;rw[N] at r;cases r;let⟨v',q,rv⟩:=r2 i B p2;rw[M] at q;cases q;have I1:Inv X Z O (upd H s.heap.objs.size<|.tup [u,v]) {s with heap:=s.heap.push {cls:=.type "tuple",data:=.seq #[C,B]},toks:=tk}:=by
   refine I.laid (λb o e=>xAf _ e) (xAg _) ⟨by simp[sizeLine_eq],[C,B],.cons ru<|.cons rv .nil,_,xAl _ rfl,rfl,_,rfl⟩
  refine⟨_,rfl,wpAny_letOwnedTupleGo_zip (s:={s with heap:=h1,toks:=tk}) b1 λh2 e1 R=>?_⟩;have d:Heap.SameBut (n+4) h1 h2:=R;have A:∀b∈[n+4,n+2,n+3,n,n+1],zC4 X Z (upd H s.heap.objs.size<|.tup [u,v]) b:=λb a=>by
   let⟨f0,f⟩:=W b a;refine⟨?_,f⟩;rw[cb]
   .exact f0
   .simp only[xAv,xBv,or_false] at a;rcases a with rfl|rfl|rfl|rfl|rfl <;> exact xA0 ()
  have I2:=Inv.turnedL (t':=tk) (h':=h2) (fp:=[n+4,n+2,n+3,n,n+1]) I1 (λb o a F=>?_) A
  .refine⟨.ref s.heap.objs.size,_,I2,rfl,⟨_,u,v,rfl,h0,rfl,λG L=>by rw[j1 G L];exact N,λG L=>by rw[j2 G L];exact M⟩,⟨e1,?_,⟨C,B,?_⟩,?_,?_⟩,λb a=>(A b a).1⟩
   .exact(d.2 _ AP.q1).trans<|hk _ _ AP.q1 AP.q5 AP.q6 AP.q7 g
   .exact(d.2 _ AP.q2).trans b2
   .exact p.keep _ _ _ (c1 _ _ b3) λo e=>(d.2 _ AP.q3).trans e
   .exact D.keep _ _ _ (c2 _ _ b4) λo e=>(d.2 _ AP.q4).trans e
  .simp only[xAv,xBv,or_false,not_or] at a;rw[d.2 b a.1];by_cases zz:b=s.heap.objs.size
   .subst zz;rw[show h1.get? s.heap.objs.size=_ from b5];rw[<- F];exact(xAl _ rfl).symm
   .erw[hk b o a.1 a.2.2.1 a.2.2.2.1 a.2.2.2.2];exact(Heap.get?_push_cases F).elim (λy=>absurd y.1 zz) id
 done:=by
  intro X Y Q hK l i Z s O H E I W st T;subst Y Q hK;let⟨J,S,rfl⟩:=T;let⟨j,g,⟨x0,y0,m⟩,q4,q5⟩:=st;let⟨f1,P1,S1,m1,D1,a1,c1,r1,j1⟩:=p.dr X rfl rfl rfl l Z O H s I J S;have AP:=pc (f1:=f1) (f2:=[]) m1 λb a=>nomatch a;refine nS D1 AP j g (a1 _ q4) λh' F=>⟨rfl,Inv.turnedL (t':=s.toks) (fp:=[n+4,n+2,n+3,n,n+1]) I (λb o a e=>?_) W⟩
  simp only[xAv,xBv,or_false,not_or] at a;exact F b o a.1 a.2.2.1 a.2.2.2.1 a.2.2.2.2 e
 self:=λ_ _ _ _ _ st h=>wpAny_pyIter_zip st.1 h
def zEe(K:xFr)(vs:C0)(H:Hp)(R:It->Hp->Prop):Prop:=∃x y,vs=[x,y]/\(∃xs,sqV K H x xs)/\(∃ys,sqV K H y ys)/\R (Itg K x y) H
def zHh(K:xFr)(b:TA):TI:=λO H R=>b O H λa H1=>zEe K a H1 R
section
variable{X:Cx}
def pK{Z:B0<|B5×Obj}{O:St}{H:Hp}{s:B3}{v:B2}(I:Inv X Z O H s)(r:zAj x v){xs:C0}(h:sqV X.K H x xs)(lim it:Nat)(m:s.heap.objs.size<=lim)(hi:lim<=it) :
  ∃(o:Obj) (tn:Nat->Heap->Prop),(∀h',(∀c o,s.heap.get? c=some o->h'.get? c=some o)->zBp v o h')/\o.isFreed=false/\Src X.prog X.w X.K lim x it tn/\∀h',h'.get? it=some o->tn 0 h':=by
 rcases h with ⟨a,rfl,l⟩|⟨z,rfl,rfl⟩
 .obtain rfl:v=Value.ref a:=r;let⟨g,y,p,B⟩:=I.tuple l;have d:a<s.heap.objs.size:=by let⟨o,e,_⟩:=p;exact xA1 e
  refine⟨zGu a,_,λh' k=>?_,rfl,tE (xBc d m) hi,λh' e=>⟨_,e,rfl,rfl⟩⟩;intro b w A E j Q e q;subst e;let⟨o,e,r⟩:=p;exact wpAny_pyIter_tuple (items:=g.toArray) ⟨o,k _ _ e,r⟩ q
 .let⟨t,rfl⟩:=r;cases d:z.cps.all (·<128)
  .refine⟨{cls:=.type "str_iterator",data:=.fields #[.str z t,.int 0 0]},_,λh' k=>?_,rfl,mj (ty:="str_iterator") (t:=t) λA' i=>Draws.strWide i it z t,λh' e=>⟨_,e,rfl,rfl⟩⟩;intro b w A E j Q e q;exact wpAny_pyIter_wide d q
  .refine⟨{cls:=.type "str_ascii_iterator",data:=.fields #[.str z t,.int 0 0]},_,λh' k=>?_,rfl,mj (ty:="str_ascii_iterator") (t:=t) λA' i=>Draws.strAscii i it z t,λh' e=>⟨_,e,rfl,rfl⟩⟩;intro b w A E j Q e q;exact wpAny_pyIter_ascii d q
theorem ud{a b:B4}{m:TA}{p pt:Pos}(M:Gl X "zip")(L:X.mg "zip"=none)(N:PA X [a,b] m)(G:starEach [a,b] X.env=(false,eval a X.env)::starEach [b] X.env)(i:starEach [b] X.env=[(false,eval b X.env)]) :
  PI X (.Tuple elts k pt) (.Call (.Name "zip" p) [a,b] [] pos) (zHh X.K m):=by
 intro Z s O H R I h;refine Call_ (fD I M L sS<|PyProof.Rows.callWith_type1 (thn (N pos Z s O H _ I h) λus c ⟨Y,H1,I1,C,D⟩=>?_) G<|by rw[i];rfl);let⟨x,y,e,⟨W,J⟩,⟨ys,hr⟩,q⟩:=D;subst e;cases C with
 |cons r g=>
  cases g with
  |cons r2 g=>
   cases g;let⟨o1,t1,F,l,S1,B⟩:=pK I1 r J c.heap.objs.size c.heap.objs.size (xAg _)<|xAg _;let⟨o2,t2,E,j,S2,A⟩:=pK I1 r2 hr c.heap.objs.size (c.heap.objs.size+1) (xAg _)<|Nat.le_succ _;erw[<-pb (F _ λ_ _ e=>e) (E _ λ_ _ e=>xAf _ e) λQ v T S a4 a5 hk=>?_,wpAny_pyIter_zip v];have I2:Inv X Z O H1 {c with heap:=Q}:=I1.kept (t':=c.toks) hk;refine⟨c.heap.objs.size+4,[c.heap.objs.size+4,c.heap.objs.size+2,c.heap.objs.size+3,c.heap.objs.size,c.heap.objs.size+1],_,_,H1,rfl,I2,nU S1 S2,⟨v,T,⟨_,_,S⟩,B _<|a4 l,A _<|a5 j⟩,λb o=>?_,q⟩;have d:c.heap.objs.size<=b:=by
    simp only[xAv,xBv,or_false] at o;rcases o with rfl|rfl|rfl|rfl|rfl <;> lia
   exact I1.fpOk d<|I1.hok.fresh d
end
end L2
namespace Row
open PySem PySem.NumText PySem.StrLaws PyProof.Rows L2
variable{x:Str}{m:Nat}{n:Int}
noncomputable abbrev tl(x:Str):B9:=x.cps.toList
def ext{y:Str}(h:tl x=tl y):x=y:=Str.ext'<|Array.toList_inj.mp h
def tl_app(x y:Str):tl (x++y)=tl x++tl y:=by show(x.cps++y.cps).toList=_;rw[Array.toList_append]
def zAf(x:Str):(tl x).length=x.length:=by simp[tl,Str.length]
noncomputable abbrev one(c:Nat):Str:=⟨#[c]⟩
def wG(c:Nat):tl (one c)=[c]:=rfl
theorem starts_eq(x:Str)(c:Nat):(decide (0+(one c).length<=x.length)&&Builtin.Str.subAt x (one c) 0)=decide ((tl x).head?=some c):=by
 rw[subAt_eq];let⟨⟨l⟩⟩:=x;cases l with
 |nil=>rfl
 |cons a l=>
  show(decide (0+1<=(a::l).length)&&(([a]:B9)==[c]))=_;by_cases e:a=c
  .subst e;simp[tl]
  .simp[e,tl]
theorem pick{l:B9}:∀(m a:Nat),a+m<=l.length->((List.range m).map λi=>(a+i:Nat)).filterMap (λi=>l[i]?)=(l.drop a).take m
 |0,_,_=>⋯
 |m+1,a,h=>by
  have c:=pick (l:=l) m (a+1) (by omega);rw[List.range_succ_eq_map,xBs,List.map_map];have e:(List.range m).map ((λi=>(a+i:Nat)) ∘ Nat.succ)=(List.range m).map λi=>(a+1+i:Nat):=List.map_congr_left λi _=>by show a+(i+1)=a+1+i;omega
  rw[e,List.filterMap_cons_some (b:=l[a]'(by omega)) ⋯,c];rw[List.drop_eq_getElem_cons (l:=l) (i:=a) (by omega),List.take_succ_cons]
def pM{lo hi:B1 Int}(h:Builtin.Str.strSliceIndices lo hi 1 x.length=(List.range m).map λi=>(1+i:Nat))(a:1+m<=x.length):Txt.slice x lo hi=⟨(((tl x).drop 1).take m).toArray⟩:=by
 unfold Txt.slice;rw[h,xCf (by simp;lia),<- pick m 1 (by rw[zAf];exact a)];congr 2;simp
def sr(m:Nat):sliceRange 1 ((m:Int)+1) 1=(List.range m).map λi=>(1+i:Nat):=by
 unfold sliceRange;have e:(if(1:Int)>0 then(if(1:Int)<(m:Int)+1 then((m:Int)+1-1+1-1) / 1 else 0) else(if(1:Int)>(m:Int)+1 then(1-((m:Int)+1)-1-1) / (-1) else 0)).toNat=m:=by
  rw[xCg ∅];split <;> lia
 simp only[e];exact List.map_congr_left λi _=>()
def slice_tail(h:0<x.length):Txt.slice x (some 1) none=⟨((tl x).drop 1).toArray⟩:=by
 rw[pM (m:=x.length-1) ?_ (),List.take_of_length_le<|by rw[List.length_drop,zAf];lia];rw[<- sr];unfold Builtin.Str.strSliceIndices;simp only[show(1:Int)>0 by decide,if_true,show ¬ ((1:Int)<0) by decide,if_false];congr 1 <;> lia
noncomputable abbrev tx(n:Int):Str:=PySem.Str.ofString<|toString n
structure Fig(z:Str):Prop where
 dig:AllDigits (tl z)
 pos:0<z.length
 few:z.length<=12
 lead:z=one 48\/(tl z).head?≠some 48
theorem dlen:∀(k:Nat){m:Nat},m<10^(k+1)->(Nat.toDigits 10 m).length<=k+1
 |0,m,h=>by rw[Nat.toDigits_of_lt_base ()];simp
 |k+1,m,h=>by
  by_cases hm:m<10
  .rw[Nat.toDigits_of_lt_base hm];simp
  .have hr:m%10<10:=Nat.mod_lt m ∅;have t:Nat.toDigits 10 (m / 10)++Nat.toDigits 10 (m%10)=Nat.toDigits 10 (10*(m / 10)+m%10):=Nat.toDigits_append_toDigits ∅ () hr;rw[Nat.div_add_mod] at t;rw[<- t,xAb,Nat.toDigits_of_lt_base hr];have:=dlen k (m:=m / 10) (by rw[Nat.pow_succ] at h;lia);simp;lia
theorem dhead(m:Nat)(c:0<m):((Nat.toDigits 10 m).map Char.toNat).head?≠some 48/\(Nat.toDigits 10 m)≠[]:=by
 induction m using Nat.strongRecOn with
 |_ m b=>
  by_cases hm:m<10
  .rw[Nat.toDigits_of_lt_base hm];have:∀d:Nat,d<10->0<d->(Nat.digitChar d).toNat≠48:=by decide
   exact⟨by simpa using this m hm c,⋯⟩
  .have hr:m%10<10:=Nat.mod_lt m ∅;have t:Nat.toDigits 10 (m / 10)++Nat.toDigits 10 (m%10)=Nat.toDigits 10 (10*(m / 10)+m%10):=Nat.toDigits_append_toDigits ∅ () hr;rw[Nat.div_add_mod] at t;let⟨i1,i2⟩:=b (m / 10) () ();rw[<- t];cases e:Nat.toDigits 10 (m / 10) with
   |nil=>exact(i2 e).elim
   |cons a r=>
    rw[e] at i1;exact⟨by simpa using i1,⋯⟩
def nA(h:m<10^12):Fig (tx (m:Int))/\(0<m->(tl<|tx (m:Int)).head?≠some 48)/\intText? (tx (m:Int))=some (m:Int):=by
 have e:tl (tx (m:Int))=(Nat.toDigits 10 m).map Char.toNat:=W.KIN.signs_num m;have i:AllDigits<|tl<|tx (m:Int):=by
  intro c j;rw[e] at j;let⟨ch,b,e⟩:=xA2.mp j;rw[<- e];exact digit_range<|Nat.isDigit_of_mem_toDigits ∅ ∅ b
 have l:(tx (m:Int)).length<=12:=by
  rw[<- zAf,e,xAa];exact dlen 11 h
 have d:tl (tx (m:Int))≠[]:=by
  rw[e];by_cases a:m=0
  .subst a;decide
  .intro z;exact(dhead m ()).2<|List.map_eq_nil_iff.mp z
 have k:0<(tx (m:Int)).length:=by
  rw[<- zAf];exact List.length_pos_iff.mpr d
 have g:0<m->(tl<|tx (m:Int)).head?≠some 48:=λa=>by rw[e];exact(dhead m a).1
 refine⟨⟨i,k,l,?_⟩,g,?_⟩
 .by_cases a:m=0
  .subst a;exact .inl (ext<|by rw[e];rfl)
  .exact .inr (g ())
 .have:=intText_digits i d ();rw[this];show some ((digitsVal<|tl<|tx (m:Int):Nat):Int)=_;rw[e,W.KIN.val_back]
def wB(h:0<m):tx (-(m:Int))=one 45++tx (m:Int):=by
 obtain⟨k,rfl⟩:∃k,m=k+1:=⟨m-1,()⟩
 apply ext;rw[tl_app,wG];show tl (PySem.Str.ofString<|toString (-((k+1:Nat):Int)))=45::tl (PySem.Str.ofString<|toString ((k+1:Nat):Int));have e:toString (-((k+1:Nat):Int))="-"++toString ((k+1:Nat):Int):=rfl;rw[Str.ofString_eq_toList,Str.ofString_eq_toList,e,String.toList_append,xAi];rfl
def uW(d:0<=n)(h:n<10^12):Fig (tx n)/\(0<n->(tl<|tx n).head?≠some 48)/\intText? (tx n)=some n:=by
 let⟨m,rfl⟩:=Int.eq_ofNat_of_zero_le d;let⟨a,b,c⟩:=nA (m:=m) ();exact⟨a,λz=>b (),c⟩
def num_int(h:n.natAbs<10^12):(∃y,Fig y/\(tx n=y\/(tx n=one 45++y/\(tl y).head?≠some 48)))/\intText? (tx n)=some n/\(tx n).length<=13:=by
 by_cases h0:0<=n
 .let⟨a,b,c⟩:=uW h0 ();exact⟨⟨_,a,.inl rfl⟩,c,by have:=a.few;lia⟩
 .obtain⟨m,rfl⟩:∃m:Nat,n = -(m:Int):=⟨n.natAbs,()⟩
  let⟨a,b,c⟩:=nA (m:=m) ();have e:=wB (m:=m) ();have d:(tx (-(m:Int))).length<=13:=by
   rw[e,strLen_append];have:=a.few;have:(one 45).length=1:=rfl;lia
  refine⟨⟨_,a,.inr ⟨e,b ()⟩⟩,?_,d⟩;have:=intText_neg (x:=tx (-(m:Int))) (cs:=tl<|tx (m:Int)) (by rw[e];exact tl_app _ _) a.dig (by
   intro z;have:=a.pos;rw[<- zAf,z] at this;exact xBo _ this) ()
  rw[this];have g:tl (tx (m:Int))=(Nat.toDigits 10 m).map Char.toNat:=W.KIN.signs_num m;show some (-((digitsVal<|tl<|tx (m:Int):Nat):Int))=_;rw[g,W.KIN.val_back]
def log_small(h:n.natAbs<10^12):n.natAbs.log2<1920:=by
 by_cases h0:n.natAbs=0
 .rw[h0];decide
 .rw[Nat.log2_lt h0];exact Nat.lt_trans h (by decide +kernel)
end Row
namespace Prg
open PySem PySem.NumText PySem.StrLaws PyProof.Rows L2 _root_.Row
section
variable{n:Nat}{sc:B7}{pl:Int}{P:B7->D->Prop}{kind:Str}{ds:B0 D}{i:Nat}{s:Ps}{x:D}
variable(h:0<=pl/\pl<=599)
include h
end
end Prg
namespace L2
open PySem PySem.Spec PyProof.Rows
def zDx(K:xFr)(a:B5)(y d:V)(H:Hp)(Q:VK):Prop:=∃x v r,y=.str x/\PySem.W.nsIn K a x=some r/\(∀u,r=some u->zAj v u)/\(r=none->v=d)/\Q v H
def zE5(K:xFr)(a:B5)(c b:TE):TE:=λO H Q=>c O H λy H2=>b O H2 λd H3=>zDx K a y d H3 Q
section
variable{X:Cx}{o e f:B4}{te tf:TE}{a:B5}{apos cpos:Pos}
theorem qE(d:KD X.w X.K a)(L:PE X o<|tC<|.ref a)(P:PE X e te)(N:PE X f tf)(m:M2 X o "get" apos e f cpos):PE X (.Call (.Attribute o "get" apos) [e,f] [] cpos)<|zE5 X.K a te tf:=by
 let⟨es,n,c,hk,J⟩:=d;intro Z s O H Q I h;refine wpAny_Call_method m.base m.few m.line PySem.F.plainAttrs_dict PySem.F.slot_dict_get PySem.F.type_dict_get (thn (L Z s O H (λx H1=>x = .ref a/\te O H1 λy H2=>tf O H2 λd H3=>zDx X.K a y d H3 Q) I ⟨rfl,h⟩) λu l j=>?_);let⟨x,H1,I1,B,S,G⟩:=j;subst S;obtain rfl:u=Value.ref a:=B;have g:=PySem.W.mapOf_K (prog:=X.prog) (w:=X.w) (λb o e=>I1.kIn b o e) c hk;refine⟨g.typeIs,λb e=>⟨_,by cases e;exact I1.kIn a _ c,rfl⟩,?_⟩;rw[m.trees];refine Calls.callWith_builtin rfl<|Calls.evalArgs_plain<|Calls.spliced_cons (thn (P Z l O H1 _ I1 G) λY k ⟨y,H2,I2,A,E⟩ =>
  Calls.spliced_cons (thn (N Z k O H2 _ I2 E) λR T ⟨z,H3,I3,p,D⟩=>Calls.spliced_nil ?_))
 let⟨x,v,r,rfl,M,C,r2,q⟩:=D;let⟨t,rfl⟩:=A;have i:=PySem.W.mapOf_K (prog:=X.prog) (w:=X.w) (λb o e=>I3.kIn b o e) c hk;refine call_meetsIn PySem.F.slot_dict_get i.typeIs PySem.F.entry_dict_get (PySem.F.args_dict_get_3 _ _ _) (meets_dict_get_default (strKind X.prog X.w) a (strKind_is X.prog X.w x t) J R) ⟨_,i,?_⟩;rw[PySem.W.find_K c M];cases r with
 |none=>cases r2 rfl;exact⟨_,H3,I3.tok _,p,q⟩
 |some u=>exact⟨v,H3,I3.tok _,C u rfl,q⟩
end
end L2
namespace SetA
open PySem PySem.Spec PySem.SetTable PyProof.Rows
variable{h h':Heap}{a:B5}{n:Nat}
def zB9(h:Heap)(a:B5)(n:Nat):Prop:=∃es b t,h.get? a=some (zA9 es b t)/\es.size=n/\t.fits n=true
def zB9.at'(S:zB9 h a n)(e:∀o,h.get? a=some o->h'.get? a=some o):zB9 h' a n:=by
 let⟨b,c,t,q,r⟩:=S;exact⟨b,c,t,e _ q,r⟩
structure Ju(t:SetTable)(n:Nat):Prop where
 msk:7<=t.mask
 sz:t.place.size=n
 dm:t.dummies=#[]
theorem Ju.fits{t:SetTable}{n:Nat}(h:Ju t n)(b:n<=4):t.fits n=true:=by
 unfold SetTable.fits SetTable.fill;rw[h.sz,h.dm];have:=h.msk;simp only[beq_self_eq_true,Bool.true_and,decide_eq_true_eq,xAp,List.length_nil];lia
def Ju.full{t:SetTable}(h:Ju t n)(b:n<=4):t.tooFull=false:=by
 unfold SetTable.tooFull SetTable.fill;rw[h.sz,h.dm];have:=h.msk;simp only[decide_eq_false_iff_not,xAp,List.length_nil,ge_iff_le];lia
theorem Ju.new{t:SetTable}(T:Ju t n)(es:Array<|Int×B2)(d:es.size=n)(k:n<4)(h:Int)(x:B2) :
  ∃b t' g l,layNew t es h x=(b,t',g,l)/\b.size=n+1/\Ju t' (n+1)/\∀e∈b.toList,e∈es.toList\/e=(h,x):=by
 have i:∀p,∀e∈(insertAt es p (h,x)).toList,e∈es.toList\/e=(h,x):=λp e c=>by
  have:=(insertAt_perm es p (h,x)).mem_iff.mp c;rw[Array.toList_push] at this;rcases xAj.mp this with z|z
  .exact .inl z
  .exact .inr<|xAm.mp z
 unfold layNew;cases t.freeSlot h with
 |none=>
  refine⟨_,_,_,_,rfl,by rw[Array.size_push,d],⟨by show 7<=4*(es.size+1)+4;lia,by show(Array.range<|es.size+1).size=_;rw[Array.size_range,d],rfl⟩,λe c=>?_⟩;rw[Array.toList_push] at c;rcases xAj.mp c with z|z
  .exact .inl z
  .exact .inr<|xAm.mp z
 |some r=>
  let⟨j,g⟩:=r;have T':Ju (t.put j).1<|n+1:=⟨T.msk,by show(insertAt t.place (below t.place j) j).size=n+1;rw[fA,T.sz],by show(if has t.dummies j then eraseAt t.dummies (below t.dummies j) else t.dummies)=#[];rw[T.dm];rfl⟩
  have e:(insertAt es (t.put j).2 (h,x)).size=n+1:=by rw[fA,d]
  refine⟨_,_,_,_,rfl,e,?_,i _⟩;show Ju ((t.put j).1.orStandIn (insertAt es (t.put j).2 (h,x)).size)<|n+1;unfold SetTable.orStandIn;rw[e,T'.fits k];exact T'
def ZOk(w:World)(ks:B7)(l:B0<|Int×B2):Prop:=∀e∈l,∃k t,k∈ks/\e=(hashStr w k,Value.str k t)
def ZIn(w:World)(h:Heap)(a:B5)(n:Nat)(ks:B7):Prop:=∃es b t,h.get? a=some (zA9 es b t)/\es.size=n/\Ju t n/\ZOk w ks es.toList
def ZIn.at'{w:World}{ks:B7}(S:ZIn w h a n ks)(e:∀o,h.get? a=some o->h'.get? a=some o):ZIn w h' a n ks:=by
 let⟨b,c,t,q,r⟩:=S;exact⟨b,c,t,e _ q,r⟩
section
variable{prog:Program}{w:World}{A:Around}{E:B2->B3->Prop}{s:B3}{a:B5}{n:Nat}{ks:B7}
def ZIn.add(S:ZIn w s.heap a n ks)(q:n<4){k:Str}(J:k∉ks){tk:Tok}{Q:B6->B3->Prop}(h:∀h':Heap,Heap.SameBut a s.heap h'->ZIn w h' a (n+1) (k::ks)->Q true {s with heap:=h'}):wpAny (model prog w) A (setAddHashed a (.str k tk)<|hashStr w k) Q E s:=by
 let⟨v,M,t,j,C,T,y⟩:=S;have G:t.fits v.size=true:=by rw[C];exact T.fits<|Nat.le_of_lt q
 have m:(PySem.strKind prog w).is k (.str k tk)=true:=by simp[PySem.strKind,Value.isStrOf]
 have o:ElemsOf (PySem.strKind prog w) v.toList:=λe p=>by
  let⟨l,i,_,rfl⟩:=y e p;exact⟨⟨l,by simp[PySem.strKind,Value.isStrOf],rfl⟩,rfl⟩
 unfold setAddHashed setAddHashedIn;refine xDc<|xAd<|wpAny_setState_of j rfl G ?_;dsimp only;rw[byScan_of (x:=.str k tk) rfl (by rw[C];have:scanBound=4096:=rfl;lia) o];simp only[↓reduceIte];unfold setAddByScan;erw[<-xAd<|xAd<|wpAny_rule ?_,<-xAd<|wpAny_setScan_of (knd:=PySem.strKind prog w) m j rfl G o ?_];have B:v.toList.findIdx? (λe=>(PySem.strKind prog w).is k e.2)=none:=List.findIdx?_eq_none_iff.mpr λe p=>by
  let⟨l,i,D,rfl⟩:=y e p;have:l≠k:=λz=>J<|z▸D;simp[PySem.strKind,Value.isStrOf,this]
 rw[B];dsimp only;let⟨c,i,N,L,e,F,d,I⟩:=T.new v C q (hashStr w k)<|.str k tk;rw[e];dsimp only;have done:∀t2:SetTable,Ju t2 (n+1)->Q true { s with heap:=s.heap.update a (Obj.putSet c t2) }:=λt2 T2=>h _ (Heap.SameBut.update s.heap a<|Obj.putSet c t2) ⟨c,M+1,t2,by
  have:=xA7 (Obj.putSet c t2) j (by rw[putSet_of c t2 rfl];rfl);rw[putSet_of c t2 rfl] at this;exact this,F,T2,λe p=>by
  rcases I e p with z|z
  .let⟨l,i,D,K⟩:=y e z;exact⟨l,i,xAs _ D,K⟩
  .exact⟨k,tk,xAr,z⟩⟩
 have g:c.size<=sizeLine:=fits_of_scanBound (by rw[F];have:scanBound=4096:=rfl;lia);have H:∀b:B6,({i with plain:=b}:SetTable).tooFull=false:=λb=>Ju.full ⟨d.msk,d.sz,d.dm⟩ q;have r:=d.full q;cases L
 .refine xAd<|xAe ?_;cases hp:i.plain with
  |true=>
   simp only[↓reduceIte];erw[xAd];rw[hashByValue_scannable 8 rfl];erw[xAe];cases plainKind (Value.str k tk) with
   |true=>
    simp only[↓reduceIte];refine xAd<|wpAny_storeSet_of j rfl ?_ g;rw[r,xDe];simp only[xAz,↓reduceIte];exact xAe<|xAe<|done i d
   |false=>
    simp only[xAz,↓reduceIte];refine xAd<|wpAny_storeSet_of j rfl ?_ g;rw[H,xDe];simp only[xAz,↓reduceIte];exact xAe<|xAe<|done _ ⟨d.msk,d.sz,d.dm⟩
  |false=>
   simp only[xAz,↓reduceIte];refine xAd<|xAe ?_;simp only[↓reduceIte];refine xAd<|wpAny_storeSet_of j rfl ?_ g;rw[r,xDe];simp only[xAz,↓reduceIte];exact xAe<|xAe<|done i d
 .refine xAd<|wpAny_rule ?_;cases hp:i.plain with
  |true=>
   simp only[↓reduceIte];erw[xAd];rw[hashByValue_scannable 8 rfl];erw[xAe];cases plainKind (Value.str k tk) with
   |true=>
    simp only[↓reduceIte];refine xAd<|wpAny_storeSet_of j rfl ?_ g;rw[r,xDe];simp only[xAz,↓reduceIte];exact xAe<|xAe<|done i d
   |false=>
    simp only[xAz,↓reduceIte];refine xAd<|wpAny_storeSet_of j rfl ?_ g;rw[H,xDe];simp only[xAz,↓reduceIte];exact xAe<|xAe<|done _ ⟨d.msk,d.sz,d.dm⟩
  |false=>
   simp only[xAz,↓reduceIte];refine xAd<|xAe ?_;simp only[↓reduceIte];refine xAd<|wpAny_storeSet_of j rfl ?_ g;rw[r,xDe];simp only[xAz,↓reduceIte];exact xAe<|xAe<|done i d
end
section
variable{prog:Program}{w:World}{A:Around}{R:Result->B3->Prop}{I S:B5}{fp wr:B0 B5}{G:Array GenState->Array GenState->Prop}{n:Nat}{P:Nat->B2->Prop}{St:Nat->B3->Prop}
theorem fill(W:WalksS prog w A.in1 I fp wr G n P St)(C:S∉fp){val:Nat->Str}(g:∀i v,P i v->∃t,v=.str (val i) t)(J:∀i j,i<j->j<n->val i≠val j)(O:n<=4):∀(k i:Nat)(s:B3)(ks:B7),i+k=n->St i s->ZIn w s.heap S i ks->(∀x∈ks,∃j,j<i/\val j=x)->(∀c,Moved (S::wr) G s c->zB9 c.heap S n->R (.ok<|.ret .none) c)->codeAny (model prog w) A (.builtin "set.update.loop" ⟨[.ref S,.ref I],[]⟩) R s:=by
 have B:S∉wr:=λh=>C<|W.sub _ h;have l:∀b∈wr,b∈S::wr:=λb y=>xAs _ y;intro k;induction k with
 |zero=>
  intro i s ks hk d K H hR;obtain rfl:i=n:=hk;erw[codeAny_builtin PyProof.Rows.F.entry_set_update_loop];rw[Around.under_plainId PyProof.Rows.F.plain_set_update_loop _];change wpAny _ A.in1 (pyNext (.ref I)>>=_) _ _ s;refine xAd (W.done s _ _ d λc mv=>?_);change wpAny _ A.in1 (ret Value.none) _ _ c;let⟨X,Y,t,q,r,T,_⟩:=K;exact xAe<|hR c (mv.mono l) ⟨X,Y,t,mv.heap S _ B q,r,T.fits O⟩
 |succ k N=>
  intro i s ks hk d K H hR;have p:i<n:=by lia
  erw[codeAny_builtin PyProof.Rows.F.entry_set_update_loop];rw[Around.under_plainId PyProof.Rows.F.plain_set_update_loop _];change wpAny _ A.in1 (pyNext (.ref I)>>=_) _ _ s;refine xAd (W.item i s _ _ p d λv c Q m mv=>?_);let⟨t,rfl⟩:=g i v Q;change wpAny _ A.in1 (holding [Value.str (val i) t] (setAdd S<|.str (val i) t)>>=_) _ _ c;refine xAd<|xDc ?_;unfold setAdd;erw[xDc,<-xAd<|(PySem.strKind prog w).pyHash (k:=val i) (PySem.strKind_is _ _ _ _) ?_,<-ZIn.add (s:={c with toks:=c.toks+1}) (K.at' λo e=>mv.heap S _ B e) () (λz=>by let⟨j,L,D⟩:=H _ z;exact J j i L p D) λh' M c2=>?_,<-xAe ⟨plainId_quiet PyProof.Rows.F.plain_set_update_loop _,N (i+1) _ _ () (W.frame _ c _ _ m (Nat.le_succ _) λb y o e=>?_) c2 (λx hx=>?_) λs'' E Z=>?_⟩]
  .rw[M.2 b λh:b=S=>C<|by rw[<- h];exact y];exact e
  .rcases xAv.mp hx with rfl|hx
   .exact⟨i,(),rfl⟩
   .let⟨j,L,D⟩:=H x hx;exact⟨j,(),D⟩
  .refine hR s'' (Moved.trans W.gtrans ((mv.mono l).then_heap (Nat.le_succ _) λb o y e=>?_) E) Z;rw[M.2 b λh:b=S=>y<|by rw[h];exact xAr];exact e
end
section
variable{prog:Program}{w:World}{A:Around}{E:B2->B3->Prop}{s:B3}
theorem set_tupleZ{l:B5}{items:Array B2}{Q:B2->B3->Prop}(hh:A.handled=none)(hl:s.heap.IsTuple l items){val:Nat->Str}(hi:∀(i:Nat)(v:B2),items[i]?=some v->∃t,v=.str (val i) t)(K:∀i j,i<j->j<items.size->val i≠val j)(hb:items.size<=4)(h:∀(h':Heap)(tk:Nat),zB9 h' s.heap.objs.size items.size->(∀b o,s.heap.get? b=some o->h'.get? b=some o)->s.toks<=tk->Q (.ref s.heap.objs.size) {s with heap:=h',toks:=tk}) :
  wpAny (model prog w) A (call (.type "set") [.ref l]) Q E s:=by
 let⟨c,tl,W⟩:=PySem.F.called_set.mro;have J:=PySem.F.called_set.made;have T:=PySem.F.called_set.sub;refine wpAny_call<|codeAny_of_tree ?_;change wpAny _ _ (callAny (.type "set") _) _ _ _;refine xAe ⟨Code.quiet_builtin _ (by decide +kernel),codeAny_builtin PySem.F.entry_type_call ?_⟩;rw[Around.under_plain (weight_type_call_type "set" [.ref l] []) rfl];have q1:=PySem.F.called_set.notType;have q2:=PySem.F.called_set.canCreate;have q3:=PySem.F.typeCall_set_1<|.ref l;repeat (any_goals (first|assumption|wp_step))
 refine codeAny_mono (uH (.ref l) (E:=E) (Q₁:=λm s₁=>∃d:B6,(d=true\/w.params.followText "set-order"=true)/\m=.ref s.heap.objs.size/\s₁={s with heap:=s.heap.push<|zA9 #[] 0 (.fresh 0 0 d)}) λd y=>⟨d,y,rfl,rfl⟩) λr s₁ hr=>?_;cases r with
 |error e=>exact hr
 |ok fl=>
  cases fl with
  |ret m=>
   let⟨d,y,rfl,rfl⟩:=hr;have P0:(s.heap.push<|zA9 #[] 0 (.fresh 0 0 d)).get? s.heap.objs.size=some (zA9 #[] 0 (.fresh 0 0 d)):=xAl _ rfl;have hT:Shared.TypeIs {s with heap:=s.heap.push<|zA9 #[] 0 (.fresh 0 0 d)} (.ref s.heap.objs.size) "set":=⟨_,P0,rfl⟩
   have hli:=PySem.F.called_set.init.lookup;have hbi:=PySem.F.called_set.init.bind<|.ref s.heap.objs.size;repeat (any_goals (first|assumption|wp_step))
   refine codeAny_mono (codeAny_call_builtin (R:=wants (λr s₂=>r = .none/\∃h' tk,s₂={ s with heap:=h',toks:=tk }/\zB9 h' s.heap.objs.size items.size /\
     (∀b o,s.heap.get? b=some o->h'.get? b=some o)/\s.toks<=tk) E) PySem.F.called_set.init.plain PySem.F.entry_set_init<|check_set_init_1 hT ?_) λr₂ s₂ hr₂=>?_
   .let⟨ol,q,D,S,hdl⟩:=hl;let⟨P,g,I,oslots⟩:=ol;simp only at D hdl;subst D;subst hdl;have p:(s.heap.push<|zA9 #[] 0 (.fresh 0 0 d)).get? l=some {cls:=.type "tuple",dict:=g,data:=.seq items S,slots:=oslots}:=xAf _ q;have q4:=PySem.F.sub_tuple_set;have q5:=PySem.F.sub_tuple_frozenset;have q6:(Value.type "tuple" == Value.type "dict")=false:=by decide
    have C:(s.heap.push<|zA9 #[] 0 (.fresh 0 0 d)).IsTuple l items:=⟨_,p,rfl,S,rfl⟩
    unfold Builtin.«set.__init__» noKeywords Builtin.Frozenset.updateFrom;generalize hPI:pyIter=PI;wp_walk
    subst hPI;erw[wpAny_pyIter_tuple C,<-xAd<|wpAny_runValue ?_];have B:l<s.heap.objs.size:=xA1 q;have L:A.in1.in1.in1.handled=none:=by simp[hh]
    have x:l≠(s.heap.push<|zA9 #[] 0 (.fresh 0 0 d)).objs.size:=by
     rw[Heap.size_push];exact xA0<|Nat.lt_succ_of_lt B
    have O:s.heap.objs.size∉[(s.heap.push<|zA9 #[] 0 (.fresh 0 0 d)).objs.size,l]:=by
     rw[Heap.size_push];simp only[xAv,xBv,or_false,not_or];exact⟨xA0<|Nat.lt_succ_self _,Nat.ne_of_gt B⟩
    refine fill ((Walks.tuple L _ l x items).toS) O hi K hb items.size 0 _ [] (Nat.zero_add _)
     ⟨⟨_,xAl _ rfl,rfl,rfl⟩,(C.push _)⟩ ⟨#[],0,_,xAf _ P0,rfl,⟨xAg _,rfl,rfl⟩,λe he=>absurd he ⋯⟩ (λ_ z=>absurd z ⋯) ?hR
    case hR=>
     intro s' mv d1;let⟨h',g',d',k,H⟩:=s';have eg:g'=s.gens:=mv.gens;have ed:d'=s.drawn:=mv.drawn;have eo:H=s.os:=mv.os;have et:s.toks<=k:=mv.toks;subst eg;subst ed;subst eo;change wpAny _ _ _ _ _ _;erw[xAe];change wpAny _ _ (ret Value.none) _ _ _;refine xAe ⟨rfl,h',k,rfl,d1,λb o e=>?_,et⟩
     .have G:=xA1 e;have N:b≠s.heap.objs.size:=xA0 G;have M:b≠(s.heap.push<|zA9 #[] 0 (.fresh 0 0 d)).objs.size:=by
       rw[Heap.size_push];exact xA0<|Nat.lt_succ_of_lt G
      exact mv.heap b o (by simp only[xAv,xBv,or_false,not_or];exact⟨N,M⟩)<|xAf _<|xAf _ e
   .cases r₂ with
    |error e=>exact hr₂
    |ok fl₂ =>
     cases fl₂ with
     |ret r=>
      let⟨rfl,h',tk,rfl,Z,Y,X⟩:=hr₂;repeat (any_goals (first|assumption|wp_step))
      exact h _ _ Z Y X
     |_=>exact hr₂.elim
  |_=>exact hr.elim
end
end SetA
namespace L2
open PySem PySem.Spec PyProof.Rows SetA
noncomputable def zHw(p:B5)(n:Nat):HO:=HO.ext λh=>zB9 h p n
def ww{P:Program}{w:World}{H:Hp}{h:Heap}{p:B5}{n:Nat}(S:zB9 h p n):zAe P w H h p<|zHw p n:=
 ⟨S,let ⟨_,_,_,q,_⟩:=S;⟨_,q⟩,λb a q k=>q.at' k⟩
def zHo:C0->Hp->VK->Prop:=λa H Q=>∃(p:B5) (ns:B7),a=[.ref p]/\H p=some (.tup<|ns.map V.str)/\ns.length<=4/\ns.Nodup/\∀l:B5,H l=none->Q (.ref l) (upd H l<|zHw l ns.length)
def zHp:C0->Hp->VK->Prop:=λa H Q=>∃p n,a=[V.ref p]/\H p=some (zHw p n)/\n<=100000/\Q (.int n) H
section
variable{X:Cx}
def u6(C:X.calm=true):zAm X (.type "set") zHo:=by
 intro Z s O H J us Q I r h;let⟨p,b,rfl,D,K,n,h⟩:=h;let⟨u,rfl,k⟩:=zBl r;obtain rfl:u=Value.ref p:=k;let⟨l,y,B,G⟩:=I.tuple<|SqT.of D;have c:=y.length;rw[xAa] at c;refine SetA.set_tupleZ (val:=λi=>b.getD i Str.empty) (I.ok.hd C) B (λi v m=>?_) (λi j w E=>?_) (by simp only[xAp];lia) λL tk A F M=>?_
 .have d:i<b.length:=by
   have:=(xB7.mp m).1;simp only[xAp] at this;lia
  let⟨u,e,t,k⟩:=y.get (i:=i) (x:=.str b[i]) (by rw[xAw,xAk d];rfl);rw[List.getElem?_toArray,e] at m;cases m;refine⟨t,?_⟩;rw[xBz,xAk d];exact k
 .have g:j<b.length:=by
   simp only[xAp] at E;lia
  rw[xBz,xBz,xAk g,xAk<|Nat.lt_trans w g];exact List.pairwise_iff_getElem.mp n i j (Nat.lt_trans w g) g w
 .rw[show l.toArray.size=b.length by rw[xAp];lia] at A;have q:s.heap.get? s.heap.objs.size=none:=by
   cases z:s.heap.get? s.heap.objs.size with
   |none=>rfl
   |some o=>exact absurd (xA1 z) (xBo _)
  let⟨a,I2⟩:=Inv.laidN (t':=tk) I F q<|ww A;exact⟨.ref s.heap.objs.size,_,I2,rfl,h _ a⟩
def vb:zAm X (.builtin "len") zHp:=by
 intro Z s O H c us Q I r h;let⟨p,n,rfl,b,d,q⟩:=h;let⟨u,rfl,a⟩:=zBl r;obtain rfl:u=Value.ref p:=a;obtain⟨es,ep,t,S,rfl,hb⟩:zB9 s.heap p n:=(I.hok p _ b).1;exact call_len_set S ⟨rfl,rfl,rfl⟩ rfl hb () ⟨.int es.size,H,I.tok _,⟨_,rfl⟩,q⟩
end
end L2
namespace Fx
open PySem PySem.Spec L2
variable{X:Cx}{xs:B8}{n:Nat}{ys:B0 V}
def OpR.or{f:B2->B2->Sem B2}{r c:R2}(h:OpR X f r)(h':OpR X f c):OpR X f λx y H Q=>r x y H Q\/c x y H Q:=by
 intro Z s O H x y v u Q I b a q;rcases q with q|q
 .exact h Z s O H x y v u Q I b a q
 .exact h' Z s O H x y v u Q I b a q
def zAm.or{f:B2}{r b:B0 V->Hp->VK->Prop}(h:zAm X f r)(h':zAm X f b):zAm X f λxs H Q=>r xs H Q\/b xs H Q:=by
 intro Z s O H xs us Q I a q;rcases q with q|q
 .exact h Z s O H xs us Q I a q
 .exact h' Z s O H xs us Q I a q
def SlR.or{r i:V->B1 Int->B1 Int->Hp->VK->Prop}(h:SlR X r)(h':SlR X i):SlR X λx a b H Q=>r x a b H Q\/i x a b H Q:=by
 intro Z s O H x v d c k m e Q I g l pl j q;rcases q with q|q
 .exact h Z s O H x v d c k m e Q I g l pl j q
 .exact h' Z s O H x v d c k m e Q I g l pl j q
section
variable{B:Bs}{W:Wd}{S S':So}{H:Hp}{v w z:U}{u u1 u2:V}{vs:B8}{us:B0 V}{Q:VK}
theorem dk(c:RS B W S H)(b:Rv B W v u)(h:lsT S v=some xs):∃p ys,u=.ref p/\H p=some (.lst ys)/\Rvs B W xs ys:=by
 cases v with
 |lst _=>cases h;let⟨p,ys,e,f,r⟩:=b;exact⟨p,ys,e,c.fz _ _ f,r⟩
 |ref a=>
  unfold lsT at h;dsimp only at h;let⟨p,rfl,j⟩:=b;cases e:at? S a with
  |none=>rw[e] at h;cases h
  |some o=>
   rw[e] at h;cases o <;> cases h
   let⟨l,g,d,k,i,_⟩:=c.here e;rw[j] at d;cases d;let⟨ys,rfl,r⟩:=i;exact⟨p,ys,rfl,k,r⟩
 |_=>cases h
theorem fY(c:RS B W S H)(b:Rv B W v u)(h:lsU S v=some xs):∃p ys,u=.ref p/\SqL B.K H p ys/\Rvs B W xs ys:=by
 cases v with
 |kl _=>cases h;let⟨p,ys,e,f,r⟩:=b;exact⟨p,ys,e,fV c.fz f,r⟩
 |lst _=>let⟨p,ys,e,f,r⟩:=dk (S:=S) c b (xs:=xs) h;exact⟨p,ys,e,.of f,r⟩
 |ref a=>let⟨p,ys,e,f,r⟩:=dk (S:=S) c b (xs:=xs) h;exact⟨p,ys,e,.of f,r⟩
 |_=>cases h
theorem fU(rs:RS B W S H)(b:Rv B W v u)(h:sqU S v=some xs):∃p ys,u=.ref p/\(SqL B.K H p ys\/SqT B.K H p ys)/\Rvs B W xs ys:=by
 cases v with
 |tup _=>cases h;let⟨p,ys,e,f,r⟩:=b;exact⟨p,ys,e,.inr<|.of<|rs.fz _ _ f,r⟩
 |kt _=>cases h;let⟨p,ys,e,f,r⟩:=b;exact⟨p,ys,e,.inr<|f H,r⟩
 |kl _=>let⟨p,ys,e,f,r⟩:=fY (S:=S) rs b (xs:=xs) h;exact⟨p,ys,e,.inl f,r⟩
 |lst _=>let⟨p,ys,e,f,r⟩:=fY (S:=S) rs b (xs:=xs) h;exact⟨p,ys,e,.inl f,r⟩
 |ref a=>let⟨p,ys,e,f,r⟩:=fY (S:=S) rs b (xs:=xs) h;exact⟨p,ys,e,.inl f,r⟩
 |_=>cases h
def VL.here(h:VL B W Q z S)(b:RS B W S H)(a:Rv B W z u):Q u H:=h W u H .refl b a
theorem VL.tup(h:VL B W Q (.tup vs) S)(c:RS B W S H)(b:Rvs B W vs us){p:B5}(e:H p=none):Q (.ref p)<|upd H p<|.tup us:=by
 let⟨le,a⟩:=c.fresh (o:=.tup us) e;exact h _ _ _ le a ⟨p,us,rfl,ce,b.mono le⟩
theorem gS{m:B6}(e:mkL m vs S=.ok z S')(h:VL B W Q z S')(c:RS B W S H)(b:Rvs B W vs us){p:B5}(d:H p=none):Q (.ref p)<|upd H p<|.lst us:=by
 cases m with
 |true=>
  cases e;have le:W.Le {W with μ:=W.μ++[p]}:=⟨λ_ _ h=>h,λ_ _ h=>dS h,rfl⟩
  let⟨_,a,g⟩:=c.push (o:=.lst vs) (h:=.lst us) d ⟨us,rfl,b.mono le⟩;exact h _ _ _ le a ⟨p,rfl,g⟩
 |false=>
  cases e;let⟨le,a⟩:=c.fresh (o:=.lst us) d;exact h _ _ _ le a ⟨p,us,rfl,ce,b.mono le⟩
set_option tactic.hygienic true
def zAs{r:Res}(h:fits n r=.ok z S'):n<=sizeLine/\r=.ok z S':=by
 unfold fits at h;split at h
 .next e=>exact⟨xCo e,h⟩
 .cases h
set_option tactic.hygienic false
def nI(r:Rvs B W xs ys)(lo hi:B1 Int):Rvs B W (zF6 xs lo hi)<|zD2 ys lo hi:=by
 unfold zF6 zD2;rw[r.length];exact(r.drop _).take _
def jv(f:zAr v=true)(r:Rv B W v u):zBs u=true:=by
 cases v <;> first|(cases f;done)|(rw[show u=_ from r];rfl)
theorem kG:∀{vs:B8}{us:B0 V},vs.all zAr=true->Rvs B W vs us->us.all zBs=true
 |[],_,_,r=>by rw[show _=[] from r];rfl
 |x::xs,_,f,r=>by
  let⟨v,t,rfl,b,a⟩:=r;rw[xCj,xCh] at f;rw[xCj,jv f.1 b,kG f.2 a];rfl
def yK(b:zAr v=true)(fw:zAr w=true)(a:Rv B W v u1)(r2:Rv B W w u2):eqV u1 u2=eqF v w:=by
 cases v <;> first|(cases b;done)|(cases w <;> first|(cases fw;done)|(rw[show u1=_ from a,show u2=_ from r2];rfl))
theorem nQ(f:zAr v=true)(r:Rv B W v u):∀{vs:B8}{us:B0 V},vs.all zAr=true->Rvs B W vs us->inV u us=zBc v vs
 |[],_,_,q=>by rw[show _=[] from q];rfl
 |x::xs,_,g,q=>by
  let⟨y,t,rfl,b,a⟩:=q;rw[xCj,xCh] at g;show(eqV y u||inV u t)=_;rw[nQ f r g.2 a,yK g.1 f b r];rfl
theorem yU(r:Rvs B W xs ys){i:Int}(h:atI xs i=some v):∃y,atI ys i=some y/\Rv B W v y:=by
 unfold atI at h⊢;rw[r.length];cases e:ixN xs.length i with
 |none=>rw[e] at h;cases h
 |some j=>rw[e] at h;exact r.get h
theorem gz{κ:Type} [DecidableEq κ] {k:κ}:∀{a:B0<|κ×U}{vs:B0<|κ×V},Rn B W a vs->(∀v,zCc k a=some v->∃u,zCl vs k=some u/\Rv B W v u)/\(zCc k a=none->zCl vs k=none)
 |[],_,r=>by rw[show _=[] from r];exact⟨(λv h=>nomatch h),λ_=>rfl⟩
 |(j,x)::t,_,r=>by
  let⟨v,q,rfl,c,b⟩:=r;by_cases e:j=k
  .subst e;rw[fI rfl];unfold zCc;rw[xCg rfl];exact⟨λd h=>by cases h;exact⟨v,rfl,c⟩,(λh=>nomatch h)⟩
  .rw[fJ e];unfold zCc;rw[xCf e];exact gz b
def gG{k:Key}(h:zEh v=some k)(r:Rv B W v u):u=kV k:=by
 cases v <;> first|(cases h;exact r)|(cases h;done)
theorem dU{f:U->U->B6}{R:V->V->Prop}(e:∀x y a b,f x y=true->Rv B W x a->Rv B W y b->R a b):∀{xs ys:B8}{as bs:B0 V},zBx f xs ys=true->Rvs B W xs as->Rvs B W ys bs->as.length=bs.length/\∀(j:Nat)(x y:V),as[j]?=some x->bs[j]?=some y->R x y
 |[],[],_,_,_,r,q=>by rw[show _=[] from r,show _=[] from q];exact⟨rfl,λj x y h=>by simp at h⟩
 |[],_::_,_,_,h,_,_=>by cases h
 |_::_,[],_,_,h,_,_=>by cases h
 |x::xs,y::ys,_,_,h,r,q=>by
  let⟨a,t,rfl,k,r2⟩:=r;let⟨b,p,rfl,o,m⟩:=q;unfold zBx at h;rw[xCh] at h;let⟨l,z⟩:=dU e h.2 r2 m;refine⟨by simp[l],λj i g d c=>?_⟩;cases j with
  |zero=>simp at d c;subst d c;exact e _ _ _ _ h.1 k o
  |succ j=>exact z j i g (by simpa using d) (by simpa using c)
def lN{c:B6}(h:eqS v w=some c)(d:Rv B W v u1)(r2:Rv B W w u2):scal u1 u2=true/\decide (u1=u2)=c:=by
 let⟨a,g,h⟩:=xCi.mp h;let⟨b,e,h⟩:=xCi.mp h;rw[y7 g] at d;rw[y7 e] at r2;cases a <;> cases b <;> first|(rw[show u1=_ from d,show u2=_ from r2];refine⟨rfl,?_⟩;cases h;first|rfl|simp)|(cases h;done)
def fW(h:(zAr v&&zAr w&&eqS v w==some true)=true)(a:Rv B W v u1)(r2:Rv B W w u2):Al H n u1 u2:=by
 simp only[xCh,beq_iff_eq] at h;let⟨⟨b,c⟩,e⟩:=h;have:u1=u2:=xBe (lN e a r2).2;subst this;exact .flat<|jv b a
theorem gB(c:RS B W S H):∀{n:Nat}{v w:U}{u1 u2:V},same S n v w=true->Rv B W v u1->Rv B W w u2->Al H n u1 u2
 |0,v,w,u1,u2,h,d,r2=>fW (by unfold same at h;exact h) d r2
 |n+1,v,w,u1,u2,h,d,r2=>by
  have e:(match lsT S v,lsT S w with
   |some xs,some ys=>zBx (same S n) xs ys
   |_,_=>zAr v&&zAr w&&eqS v w==some true)=true->Al H (n+1) u1 u2:=λh=>by
   cases e1:lsT S v with
   |none=>rw[e1] at h;exact fW h d r2
   |some xs=>
    cases e2:lsT S w with
    |none=>rw[e1,e2] at h;exact fW h d r2
    |some ys=>
     rw[e1,e2] at h;let⟨p,D,rfl,r,k⟩:=dk c d e1;let⟨q,bs,rfl,o,j⟩:=dk c r2 e2;let⟨l,z⟩:=dU (λx y a b m i g=>gB c m i g) h k j;exact .lst r o l z
  unfold same at h;cases v <;> first | exact e h | (cases w <;> first | exact e h | (
   let⟨p,D,rfl,C,k⟩:=d;let⟨q,bs,rfl,A,j⟩:=r2;let⟨l,z⟩:=dU (λx y a b m i g=>gB c m i g) h k j;exact .tup (c.fz _ _ C) (c.fz _ _ A) l z))
end
end Fx
namespace Fx
open PySem PySem.Spec L2 PyProof.Rows
variable{X:Cx}{S:So}{H:Hp}{v w:U}{u1 u2:V}{b:B6}{Q:VK}
def Pr2(B:Bs)(up:B0<|Str×Str)(p:Pm)(r:R2):Prop:=∀{W:Wd}{S:So}{H:Hp}{v w:U}{u1 u2:V}{z:U}{S':So}{Q:VK},RS B W S H->Rv B W v u1->Rv B W w u2->pr up p [v,w] S=.ok z S'->VL B W Q z S'->r u1 u2 H Q
def Pr1(B:Bs)(up:B0<|Str×Str)(p:Pm)(r:V->Hp->VK->Prop):Prop:=∀{W:Wd}{S:So}{H:Hp}{v:U}{u1:V}{z:U}{S':So}{Q:VK},RS B W S H->Rv B W v u1->pr up p [v] S=.ok z S'->VL B W Q z S'->r u1 H Q
def PrN(B:Bs)(up:B0<|Str×Str)(p:Pm)(r:B0 V->Hp->VK->Prop):Prop:=∀{W:Wd}{S:So}{H:Hp}{vs:B8}{us:B0 V}{z:U}{S':So}{Q:VK},RS B W S H->Rvs B W vs us->pr up p vs S=.ok z S'->VL B W Q z S'->r us H Q
section
variable{B:Bs}{up:B0<|Str×Str}
def rOr(r a:R2):R2:=λx y H Q=>r x y H Q\/a x y H Q
def zHb:R2:=λx y H Q=>∃i j,x=.str i/\y=.str j/\i.length+j.length<=sizeLine/\Q (.str<|i++j) H
def zIu(K:xFr):R2:=rOr (rI0 λi j=>.int<|i+j)<|rOr zHb<|rOr (zFj K) zIt
def zQ{m:B6}:Pr2 B up (.add m)<|zIu B.K:=by
 intro W S H v w u1 u2 z S' Q a i r2 h q;change zGg m v w S=_ at h;unfold zGg at h;split at h
 .cases h;exact .inl ⟨_,_,i,r2,q.here a rfl⟩
 .let⟨g,e⟩:=zAs h;cases e;exact .inr<|.inl ⟨_,_,i,r2,g,q.here a rfl⟩
 .let⟨g,e⟩:=zAs h;cases e;let⟨p,k,rfl,x,d⟩:=i;let⟨n,j,rfl,r,c⟩:=r2;refine .inr<|.inr<|.inl ⟨p,n,k,j,rfl,rfl,a.fz _ _ x,a.fz _ _ r,by rw[d.length,c.length];exact g,λp2 H2 y o=>?_⟩;let⟨le,l⟩:=(a.same y).addT o;exact q _ _ _ le l ⟨p2,_,rfl,ce,(d.app c).mono le⟩
 .split at h
  .next C A=>
   let⟨g,e⟩:=zAs h;let⟨p,k,rfl,x,d⟩:=dk a i C;let⟨n,j,rfl,r,c⟩:=dk a r2 A;exact .inr<|.inr<|.inr ⟨p,n,k,j,rfl,rfl,x,r,by rw[d.length,c.length];exact g,λp2 o=>gS e q a (d.app c) o⟩
  .cases h
def zV:OpR X (binaryOp .Add)<|zIu X.K:=OpR.or xP<|OpR.or lu<|OpR.or ut xO
def nu{f:Int->Int->U}{vs:B8}{z:U}{S':So}(h:i2 f S vs=.ok z S'):∃i j,vs=[.int i,.int j]/\z=f i j/\S'=S:=by
 unfold i2 at h;split at h
 .cases h;exact⟨_,_,rfl,rfl,rfl⟩
 .cases h
def ur{p:Pm}{f:Int->Int->U}{g:Int->Int->V}(d:∀vs S,pr up p vs S=i2 f S vs)(hf:∀W i j,Rv B W (f i j)<|g i j):Pr2 B up p<|rI0 g:=by
 intro W S H v w u1 u2 z S' Q a c r2 h q;rw[d] at h;let⟨i,j,e,rfl,rfl⟩:=nu h;cases e;exact⟨i,j,c,r2,q.here a<|hf _ _ _⟩
def zA:Pr2 B up .sub<|rI0 λi j=>.int<|i-j:=ur (f:=λi j=>.int<|i-j) (λ_ _=>rfl) λ_ _ _=>rfl
def zJ:Pr2 B up .lt<|rI0 λi j=>.bl<|decide<|i<j:=ur (f:=λi j=>.bl<|decide<|i<j) (λ_ _=>rfl) λ_ _ _=>rfl
def zL:Pr2 B up .le<|rI0 λi j=>.bl<|decide<|i<=j:=ur (f:=λi j=>.bl<|decide<|i<=j) (λ_ _=>rfl) λ_ _ _=>rfl
def zM:Pr2 B up .gt<|rI0 λi j=>.bl<|decide<|j<i:=ur (f:=λi j=>.bl<|decide<|j<i) (λ_ _=>rfl) λ_ _ _=>rfl
def lR{C:Int->Int->Prop} [∀i j,Decidable<|C i j] {f:Int->Int->U} {S:So} {vs:B8} {z:U} {S':So} (h:(match vs with
  |[.int i,.int j]=>match decide (C i j) with
   |true=>Res.ok (f i j) S
   |false=>.stuck
  |_=>.stuck)=.ok z S'):∃i j,vs=[.int i,.int j]/\C i j/\z=f i j/\S'=S:=by
 split at h
 .split at h
  .next e=>cases h;exact⟨_,_,rfl,xBe e,rfl,rfl⟩
  .cases h
 .cases h
def eV{i:Int}{n:Nat}(h:i.natAbs<2^n):Builtin.Int.intBits i<=n:=by
 unfold Builtin.Int.intBits;by_cases e:i=0
 .subst e;simp
 .have a:i.natAbs≠0:=by lia
  have:=(Nat.log2_lt a).mpr h;split <;> lia
theorem Rvs.reps{W:Wd}{xs:B8}{ys:B0 V}(r:Rvs B W xs ys):∀n:Nat,Rvs B W (List.replicate n xs).flatten (List.replicate n ys).flatten
 |0=>rfl
 |n+1=>by rw[List.replicate_succ,List.replicate_succ,List.flatten_cons,List.flatten_cons];exact r.app<|r.reps n
set_option tactic.hygienic true
def zF:Pr2 B up .mul<|rOr (rI (λi j=>IntMulOk i j) λi j=>.int<|i*j) zFg:=by
 intro W S H v w u1 u2 z S' Q d g r2 h q;cases v <;> try (cases h;done)
 .cases w <;> try (cases h;done)
  next i j=>
  delta pr at h;dsimp only at h;split at h
  .next c=>
   cases h;have c:=xBe c;refine .inl ⟨i,j,g,r2,?_,q.here d rfl⟩;rcases c with ⟨h1,h2⟩|h1|h1
   .have a:=eV h1;have b:=eV h2;unfold IntMulOk;have:Builtin.Int.intTooBig (Builtin.Int.intBits i+Builtin.Int.intBits j)=false:=by
     unfold Builtin.Int.intTooBig bitsLine;exact xCn ()
    rw[this];simp
   .exact .of_right (xCk (eV h1) ())
   .exact .of_left (xCk (eV h1) ())
  .cases h
 .cases w <;> try (cases h;done)
  next x j=>
  delta pr at h;dsimp only at h;split at h
  .next c=>
   let⟨l,h1⟩:=xBe c;let⟨k,e⟩:=zAs h;cases e;rcases(by lia:j=0\/j=1) with rfl|rfl
   .exact .inr ⟨x,false,g,r2,q.here d rfl⟩
   .exact .inr ⟨x,true,g,r2,q.here d rfl⟩
  .cases h
def xy:Pr2 B up .mulT zIj:=by
 intro W S H v w u1 u2 z S' Q c g r2 h q;cases v <;> try (cases h;done)
 cases w <;> try (cases h;done)
 next a j=>
 delta pr at h;dsimp only at h;split at h
 .next l=>
  let⟨o,n⟩:=xBe l;let⟨k,e⟩:=zAs h;let⟨p,d,rfl,f,r⟩:=dk c g<|show lsT S (.lst a)=some a from rfl;exact⟨p,j,d,rfl,r2,f,(),(),by rw[r.length];exact k,λp2 i=>gS (m:=true) e q c (r.reps j.toNat) i⟩
 .cases h
set_option tactic.hygienic false
def xB:Pr2 B up .fdiv<|rI zGi λi j=>.int<|i / j:=by
 intro W S H v w u1 u2 z S' Q a c r2 h q;let⟨i,j,e,d,rfl,rfl⟩:=lR (C:=λi j=>0<j/\j<=10^18) (f:=λi j=>.int<|i / j) h;cases e;exact⟨i,j,c,r2,d,q.here a rfl⟩
def zG:Pr2 B up .mod<|rI (λ_ j=>0<j) λi j=>.int<|i%j:=by
 intro W S H v w u1 u2 z S' Q a c r2 h q;let⟨i,j,e,d,rfl,rfl⟩:=lR (C:=λi j=>0<j) (f:=λi j=>.int<|i%j) h;cases e;exact⟨i,j,c,r2,d,q.here a rfl⟩
def zB:Pr2 B up .pow<|rI zJk λi j=>.int<|i^j.toNat:=by
 intro W S H v w u1 u2 z S' Q c d r2 h q;let⟨i,j,e,a,rfl,rfl⟩:=lR (C:=λi j=>0<=j/\j<=1000/\i.natAbs<2^60) (f:=λi j=>.int<|i^j.toNat) h;cases e;exact⟨i,j,d,r2,⟨a.1,(),Nat.lt_trans a.2.2 ∅⟩,q.here c rfl⟩
def zIl(K:xFr):R2:=λx y H Q=>∃a b c,x=.ref a/\y=.ref b/\SqL K H a c/\H b=some (.lst [])/\Q (.bl c.isEmpty) H
theorem xK(l:X.A.units<cLine):OpR X (compareOp .Eq)<|zIl X.K:=by
 intro Z s O H x y v u Q I n m h;let⟨a,b,g,rfl,rfl,D,C,q⟩:=h;cases (show v=Value.ref a from n);cases (show u=Value.ref b from m);let⟨d,o,i,J⟩:=I.list D;let⟨c,r2,t2,G⟩:=I.list<|SqL.of C;have k:=o.length;have p:=r2.length;have E:c=[]:=List.length_eq_zero_iff.mp p.symm;subst E;cases g with
 |nil=>
  have F:d=[]:=List.length_eq_zero_iff.mp k.symm;subst F;erw[SeqAt.eq_listAt (e:=λ_=>true) i.isList t2.isList rfl l (λj r _=>absurd r<|Nat.not_lt_zero _),<-cj I q rfl]
 |cons x g=>
  erw[(SeqAt.RcAt.lists_lengths i.isList t2.isList (by rw[xAp,xAp];exact bne_iff_ne.mpr (by rw[<- k];exact nofun)) l) X.prog X.w X.xe _,<-cj I q rfl]
def zIs(K:xFr):R2:=rOr rEq<|rOr (zIl K)<|rOr (rAl true)<|zEs true
def zIe:R2:=λx y H Q=>∃a b d c,x=.ref a/\y=.ref b/\H a=some (.lst d)/\H b=some (.lst c)/\d.length≠c.length/\Q (.bl true) H
def xG(k:X.A.units<cLine):OpR X (compareOp .NotEq) zIe:=by
 intro Z s O H x y v u Q I g e h;let⟨a,b,C,r,rfl,rfl,n,m,l,q⟩:=h;cases (show v=Value.ref a from g);cases (show u=Value.ref b from e);let⟨j,i,d,p⟩:=I.list<|SqL.of n;let⟨c,r2,t2,o⟩:=I.list<|SqL.of m;have E:=i.length;have D:=r2.length;erw[(SeqAt.RcNeAt.lists_lengths d.isList t2.isList (by rw[xAp,xAp];exact bne_iff_ne.mpr ()) k) X.prog X.w X.xe _,<-cj I q rfl]
def zIm:R2:=rOr rNe<|rOr zIe<|rOr (rAl false)<|zEs false
def jT{W:Wd}(c:RS B W S H)(C:Rv B W v u1)(r2:Rv B W w u2)(D:eqS v w=none)(h:same S 80 v w=true)(q:Q (.bl b) H):rOr (rAl b) (zEs b) u1 u2 H Q:=by
 have d:(match lsT S v,lsT S w with
   |some A,some r=>zBx (same S 79) A r
   |_,_=>zAr v&&zAr w&&eqS v w==some true)=true->rOr (rAl b) (zEs b) u1 u2 H Q:=λh=>by
  cases e1:lsT S v with
  |none=>rw[e1,D] at h;simp at h
  |some A=>
   cases e2:lsT S w with
   |none=>rw[e1,e2,D] at h;simp at h
   |some r=>
    rw[e1,e2] at h;let⟨p,o,rfl,E,j⟩:=dk c C e1;let⟨k,bs,rfl,n,i⟩:=dk c r2 e2;let⟨l,z⟩:=dU (λx y a b m g e=>gB c m g e) h j i;exact .inr ⟨p,k,o,bs,79,rfl,rfl,E,n,l,∅,z,q⟩
 unfold same at h;cases v <;> first | exact d h | (cases w <;> first | exact d h | (
  let⟨p,o,rfl,G,j⟩:=C;let⟨k,bs,rfl,F,i⟩:=r2;let⟨l,z⟩:=dU (λx y a b m g e=>gB c m g e) h j i;exact .inl ⟨p,k,o,bs,79,rfl,rfl,c.fz _ _ G,c.fz _ _ F,l,∅,z,q⟩))
set_option tactic.hygienic true
def A0:Pr2 B up .eq<|zIs B.K:=by
 intro W S H v w u1 u2 z S' Q d i r2 h q;change Fx.eqU id v w S=_ at h;unfold Fx.eqU at h;split at h
 .next c e=>
  cases h;let⟨a,b⟩:=lN e i r2;exact .inl ⟨a,by rw[b];exact q.here d rfl⟩
 .next e=>
  split at h
  .next A j g=>
   cases h;unfold zFw at j;split at j
   .let⟨r,bs,rfl,n,r2⟩:=r2;rw[show bs=[] from r2] at n;unfold zIw at g;let⟨m,y,rfl⟩:=Option.map_eq_some_iff.mp g;let⟨p,k,rfl,x,o⟩:=fY d i y;refine .inr<|.inl ⟨p,r,k,rfl,rfl,x,d.fz _ _ n,?_⟩;have:k.isEmpty=m.isEmpty:=by
     have l:=o.length;cases k <;> cases m <;> first|rfl|(simp at l)
    rw[this];exact q.here d rfl
   .cases j
  .split at h
   .next g=>cases h;exact .inr<|.inr<|jT d i r2 e g<|q.here d rfl
   .cases h
def AX:Pr2 B up .ne zIm:=by
 intro W S H v w u1 u2 z S' Q g i r2 h q;change neU v w S=_ at h;unfold neU at h;split at h
 .next c e=>
  cases h;let⟨a,b⟩:=lN e i r2;exact .inl ⟨a,by rw[b];exact q.here g rfl⟩
 .next e=>
  split at h
  .next d=>
   cases h;unfold zH8 at d;split at d
   .next A y r o=>
    let⟨p,x,rfl,n,l⟩:=dk g i r;let⟨m,bs,rfl,j,k⟩:=dk g r2 o;refine .inr<|.inl ⟨p,m,x,bs,rfl,rfl,n,j,λz=>?_,q.here g rfl⟩;rw[l.length,k.length] at z;rw[z,Nat.beq_refl] at d;cases d
   .cases d
  .split at h
   .next d=>cases h;exact .inr<|.inr<|jT g i r2 e d<|q.here g rfl
   .cases h
set_option tactic.hygienic false
def zE:Pr1 B up .neg<|rU λi=>.int (-i):=by
 intro W S H v u1 z S' Q a c h q;cases v <;> first|(cases h;done)|(cases h;exact⟨_,c,q.here a rfl⟩)
def A5(a:X.A.units+100<cLine):OpR X (compareOp .Eq)<|zIs X.K:=OpR.or zT<|OpR.or (xK ())<|OpR.or (uz a)<|qS a
def A3(a:X.A.units+100<cLine):OpR X (compareOp .NotEq) zIm:=OpR.or zS<|OpR.or (xG ())<|OpR.or (uw a)<|qP a
def zJ8(n:B6):R2:=λx y H Q=>∃i j,x=.str i/\y=.str j/\Q (.bl<|if n then !(!(Builtin.Str.occurrences j i 0 j.length 1).isEmpty) else !(Builtin.Str.occurrences j i 0 j.length 1).isEmpty) H
def zG9(n:B6):R2:=λy x H Q=>∃a o,x=.ref a/\zD5 H a y o/\Q (.bl<|if n then !o.isSome else o.isSome) H
def zEr(K:xFr)(n:B6):R2:=rOr (rIn K n)<|rOr (zJ8 n)<|zG9 n
set_option tactic.hygienic true
def rH{W:Wd}{n:B6}(r:RS B W S H)(m:Rv B W v u1)(r2:Rv B W w u2)(h:inU S v w=some b)(q:Q (.bl<|if n then !b else b) H):zEr B.K n u1 u2 H Q:=by
 have d:∀c,sqU S w=some c->(if zAr v&&c.all zAr then some (zBc v c) else none)=some b->zEr B.K n u1 u2 H Q:=λc e h=>by
  split at h
  .next l=>
   rw[xCh] at l;cases h;let⟨p,A,rfl,sq,x⟩:=fU r r2 e;refine .inl ⟨p,A,rfl,sq,jv l.1 m,kG l.2 x,?_⟩;rw[nQ l.1 m l.2 x];exact q
  .cases h
 unfold inU at h;split at h
 .split at h
  .cases h;exact .inr<|.inl ⟨_,_,m,r2,q⟩
  .cases h
 .next a=>
  split at h
  .next i e=>
   let⟨p,g,E,F,C,_⟩:=r.here e;let⟨O,M,j⟩:=r2;rw[E] at j;cases j;let⟨o,rfl,D⟩:=C;cases ek:zEh v with
   |none=>rw[ek] at h;cases h
   |some k=>
    rw[ek] at h;have G:(zCc k i).isSome=b:=xB3 h;refine .inr<|.inr ⟨p,zCl o k,M,.inl ⟨o,k,.inl F,gG ek m,rfl⟩,?_⟩;have:(zCl o k).isSome=b:=by
     let⟨J,I⟩:=gz (k:=k) D;rw[<- G];cases z:zCc k i with
     |none=>rw[I z];rfl
     |some y=>let⟨N,L,_⟩:=J y z;rw[L];rfl
    rw[this];exact q
  .next c e=>exact d c (by show lsU S (.ref a)=_;unfold lsU;dsimp only;rw[e]) h
  .cases h
 .split at h
  .next c e=>exact d c e h
  .cases h
def AZ:Pr2 B up .inn<|zEr B.K false:=by
 intro W S H v w u1 u2 z S' Q a c r2 h q;change obB (inU S v w) id S=_ at h;unfold obB at h;split at h
 .next b e=>cases h;exact rH a c r2 e<|q.here a rfl
 .cases h
def zD:Pr2 B up .nin<|zEr B.K true:=by
 intro W S H v w u1 u2 z S' Q a c r2 h q;change obB (inU S v w) not S=_ at h;unfold obB at h;split at h
 .next b e=>cases h;exact rH a c r2 e<|q.here a rfl
 .cases h
set_option tactic.hygienic false
def xN(h:X.A.units+1<cLine):OpR X (compareOp .In)<|zG9 false:=by
 intro Z s O H x y v u Q I d c ⟨a,o,e,g,q⟩;subst e;obtain rfl:u=Value.ref a:=c;exact Bt h I g d λi I3=>⟨.bl o.isSome,H,I3,rfl,q⟩
def uv(h:X.A.units+1<cLine):OpR X (compareOp .NotIn)<|zG9 true:=by
 intro Z s O H x y v u Q I d c ⟨a,o,e,g,q⟩;subst e;obtain rfl:u=Value.ref a:=c;exact u0 h I g d λi I3=>⟨.bl (!o.isSome),H,I3,rfl,q⟩
def A4(a:X.A.units+1<cLine):OpR X (compareOp .In)<|zEr X.K false:=OpR.or ox<|OpR.or ow<|xN a
def zU(a:X.A.units+1<cLine):OpR X (compareOp .NotIn)<|zEr X.K true:=OpR.or jj<|OpR.or jh<|uv a
def zIr:R2:=λx y H Q=>∃a v,x=.ref a/\zD5 H a y (some v)/\Q v H
def uN(l:X.A.units+1<cLine):IxR X zIr:=by
 intro c slice Z s O H x y v u Q I k j ⟨a,w,e,g,q⟩ hs;subst e;obtain rfl:v=Value.ref a:=k;have i:=kL I g;unfold subscriptTail;erw[xAd];rw[getitemInPython_of_ne i.not_modules];refine xAd<|wpAny_specialOf i PySem.F.slot_dict_getitem.lookup ?_;have d:wpAny (model X.prog X.w) X.A (subscripted slice false (.ref a) u) (λr s₃=>wpAny (model X.prog X.w) X.A (letTemporaryGo c (.ref a) r>>=λ_=>pure r) (EP X Z O Q) X.xe s₃) X.xe s:=by
  rw[hs];exact wpAny_operating<|oQ l I g j λm n I3 h=>xAd<|wpAny_letTemporaryGo<|xAe ⟨w,H,I3,h,q⟩
 first
  |exact xAe (xAd d)
  |exact xAd (xAe<|xAd d)
  |exact xAd d
def zIq(w:World)(K:xFr):R2:=λx y H Q=>∃a z v u,x=.ref a/\KD w K a/\y=.str z/\PySem.W.nsIn K a z=some (some u)/\zAj v u/\Q v H
def Ae:IxR X<|zIq X.w X.K:=by
 intro c slice Z s O H x y v u Q I j i ⟨a,z,w,uu,e,⟨es,n,hl,hk,lo⟩,e2,hn,rw',q⟩ hs;subst e e2;obtain rfl:v=Value.ref a:=j;let⟨t,rfl⟩:=i;have g:=PySem.W.mapOf_K (prog:=X.prog) (w:=X.w) (λb o e=>I.kIn b o e) hl hk;have h:=g.typeIs;unfold subscriptTail;erw[xAd];rw[getitemInPython_of_ne h.not_modules];refine xAd<|wpAny_specialOf h PySem.F.slot_dict_getitem.lookup ?_;have d:wpAny (model X.prog X.w) X.A (subscripted slice false (.ref a)<|.str z t) (λr s₃=>wpAny (model X.prog X.w) X.A (letTemporaryGo c (.ref a) r>>=λ_=>pure r) (EP X Z O Q) X.xe s₃) X.xe s:=by
  rw[hs];exact wpAny_operating<|wpAny_getItem_of (strKind_is X.prog X.w z t) g (PySem.W.find_K hl hn)<|xAd<|wpAny_letTemporaryGo<|xAe ⟨w,H,I.tok _,rw',q⟩
 first
  |exact xAe (xAd d)
  |exact xAd (xAe<|xAd d)
  |exact xAd d
def zFh(w:World)(K:xFr):R2:=λx y H Q=>(rIx K x y H Q\/zIr x y H Q)\/zIq w K x y H Q
def AG(a:X.A.units+1<cLine):IxR X<|zFh X.w X.K:=(yq.or<|uN a).or Ae
end
end Fx
namespace Fx
open PySem PySem.Spec L2
open PyProof.Rows hiding St
variable{t':TT}{S:So}{O:Sg}{τ:St}{H:Hp}{r r':R2}{op op':CmpOp}{p q:Pm}
structure FE(X:Cx)(B:Bs)(G:C8)(Ex:St->XK)(e:B4)(c:C5):Prop where
 p:PE X e (LE B G Ex c)
 m:zA4 G c
structure FA(X:Cx)(B:Bs)(G:C8)(Ex:St->XK)(es:B0 B4)(c:C9):Prop where
 p:PA X es (LA B G Ex c)
 m:zCj G c es.length
structure FT(X:Cx)(B:Bs)(G:C8)(Ex:St->XK)(e:B4)(c:TTx Prop):Prop where
 p:PT X e (LT B G Ex c)
 m:zBo G c
structure FS(X:Cx)(B:Bs)(G:C8)(Ex:St->XK)(s:Stmt)(c:C4):Prop where
 p:PS X s (LS B G Ex c)
 m:zBv G c
structure FSs(X:Cx)(B:Bs)(G:C8)(Ex:St->XK)(s:B0 Stmt)(c:C4):Prop where
 p:PSs X s (LS B G Ex c)
 m:zBv G c
section
variable{X:Cx}{e:B4}{es:B0 B4}{st:Stmt}{sts:B0 Stmt}
def wkE{t t':TE}(h:PE X e t)(w:∀O H Q,t' O H Q->t O H Q):PE X e t':=λZ s O H Q I q=>h Z s O H Q I<|w _ _ _ q
def wkA{t t':TA}(h:PA X es t)(w:∀O H Q,t' O H Q->t O H Q):PA X es t':=λpos Z s O H Q I q=>h pos Z s O H Q I<|w _ _ _ q
def wkT{t:TT}(h:PT X e t)(w:∀O H Q,t' O H Q->t O H Q):PT X e t':=λZ s O H Q I q=>h Z s O H Q I<|w _ _ _ q
def wkS{t t':TS}(h:PS X st t)(w:∀D O H,t' D O H->t D O H):PS X st t':=λZ s O H D I q=>h Z s O H D I<|w _ _ _ q
def zH7{t t':TS}(h:PSs X sts t)(w:∀D O H,t' D O H->t D O H):PSs X sts t':=λZ s O H D I q=>h Z s O H D I<|w _ _ _ q
end
section
variable{B:Bs}{up:B0<|Str×Str}{G:C8}{Ex:St->XK}{τ:St}{H:Hp}{Q:VK}{W W':Wd}{c a b:C5}{as:C9}{n:Nat}{p:Pm}
def VL.inc{v:U}(le:W.Le W')(h:VL B W Q v S):VL B W' Q v S:=λW2 u H d=>h W2 u H<|le.trans d
def NL.inc{Q:St->Hp->Prop}{v:Sg}(le:W.Le W')(h:NL B W Q v S):NL B W' Q v S:=λW2 u H d=>h W2 u H<|le.trans d
theorem LEe.inc{D:zDi}(le:W.Le W'):zDg (LEe B Ex W D)<|LEe B Ex W' D:=⟨λ_ _=>NL.inc le,λ_ _=>VL.inc le,λ_ _=>NL.inc le,λ_ _=>NL.inc le,λ_ _ _ h W2 τ C e H d=>h W2 τ C e H<|le.trans d⟩
def LE.go{k:C6}(m:zA4 G c)(i:RS B W S H)(e:Rg B W O τ)(h:c G O S (XL B W<|Ex τ) k)(hk:∀v S' W' u H',W.Le W'->RS B W' S' H'->Rv B W' v u->Rg B W' O τ->k v S'->Q u H'):LE B G Ex c τ H Q:=
 ⟨W,O,S,i,e,m.m (λ_ _ h=>h) (λv S' j W' u H' le d g=>hk v S' W' u H' le d g (e.mono le) j) h⟩
def LA.go{k:B8->So->Prop}{Q:B0 V->Hp->Prop}(m:zCj G as n)(i:RS B W S H)(e:Rg B W O τ)(h:as G O S (XL B W<|Ex τ) k)(hk:∀v S' W' u H',v.length=n->W.Le W'->RS B W' S' H'->Rvs B W' v u->Rg B W' O τ->k v S'->Q u H'):LA B G Ex as τ H Q:=
 ⟨W,O,S,i,e,m.m (λ_ _ h=>h) (λv S' j l W' u H' le d g=>hk v S' W' u H' j le d g (e.mono le) l) h⟩
def LT.go{t:TTx Prop}{k:B6->So->Prop}{Q:B6->Hp->Prop}(m:zBo G t)(g:RS B W S H)(e:Rg B W O τ)(h:t G O S (XL B W<|Ex τ) k)(hk:∀v S' W' H',W.Le W'->RS B W' S' H'->Rg B W' O τ->k v S'->Q v H'):LT B G Ex t τ H Q:=
 ⟨W,O,S,g,e,m.m (λ_ _ h=>h) (λv S' i W' H' le d=>hk v S' W' H' le d (e.mono le) i) h⟩
def XL.upf(le:W.Le W')(E:XK):∀e S,XL B W E e S->XL B W' E e S:=λ_ _=>XL.up le
def K1(B:Bs)(up:B0<|Str×Str)(p:Pm)(Q:VK):VK:=λu H=>∃W S v z S',RS B W S H/\Rv B W v u/\pr up p [v] S=.ok z S'/\VL B W Q z S'
def K2(B:Bs)(up:B0<|Str×Str)(p:Pm)(Q:VK):V->V->Hp->Prop:=λe d H=>∃W S v w z S',RS B W S H/\Rv B W v e/\Rv B W w d/\pr up p [v,w] S=.ok z S'/\VL B W Q z S'
def KN(B:Bs)(up:B0<|Str×Str)(p:Pm)(Q:VK):B0 V->Hp->Prop:=λus H=>∃W S d z S',RS B W S H/\Rvs B W d us/\pr up p d S=.ok z S'/\VL B W Q z S'
variable(g:zB1 up G)
include g
theorem LE.p1(m:zA4 G a)(h:LE B G Ex (cP p<|aC a aN) τ H Q):LE B G Ex a τ H<|K1 B up p Q:=by
 let⟨W,O,S,j,l,h⟩:=h;refine LE.go m j l h λv S' W' u H' le d i k o=>?_;let⟨z,S2,e,q⟩:=g.pok o;exact⟨W',S',v,z,S2,d,i,e,q.inc le⟩
theorem LE.p2(E:zA4 G a)(o:zA4 G b)(h:LE B G Ex (cP p<|zAz a b) τ H Q):LE B G Ex a τ H λx H1=>LE B G Ex b τ H1 λy H2=>K2 B up p Q x y H2:=by
 let⟨W,O,S,C,D,h⟩:=h;erw[<-LE.go E C D h λv S' W' u H' le k A l I=>?_,<-LE.go o k l (o.m (XL.upf le _) (λ_ _ h=>h) I) λw S2 W2 J H2 d j i _ F=>?_];let⟨z,S3,e,q⟩:=g.pok F;exact⟨W2,S2,v,w,z,S3,j,A.mono d,i,e,q.inc<|le.trans d⟩
theorem LE.pn(m:zCj G as n)(h:LE B G Ex (cP p as) τ H Q):LA B G Ex as τ H<|KN B up p Q:=by
 let⟨W,O,S,j,l,h⟩:=h;refine LA.go m j l h λv S' W' u H' _ le d i k o=>?_;let⟨z,S2,e,q⟩:=g.pok o;exact⟨W',S',v,z,S2,d,i,e,q.inc le⟩
end
section
variable{B:Bs}{up:B0<|Str×Str}{G:C8}{Ex:St->XK}{c a b:C5}{as:C9}{t u:TTx Prop}
def LE.imp{Q Q':VK}(m:zA4 G c)(h:LE B G Ex c τ H Q)(i:∀u H,Q u H->Q' u H):LE B G Ex c τ H Q':=by
 let⟨W,O,S,d,g,h⟩:=h;exact⟨W,O,S,d,g,m.m (λ_ _ h=>h) (λv S h W' u H le d e=>i _ _<|h W' u H le d e) h⟩
def LA.imp{n:Nat}{Q Q':B0 V->Hp->Prop}(m:zCj G as n)(h:LA B G Ex as τ H Q)(i:∀u H,Q u H->Q' u H):LA B G Ex as τ H Q':=by
 let⟨W,O,S,d,g,h⟩:=h;exact⟨W,O,S,d,g,m.m (λ_ _ h=>h) (λv S _ h W' u H le d e=>i _ _<|h W' u H le d e) h⟩
variable{X:Cx}{e ea eb ec ed:B4}{es:B0 B4}{pos p1 p2:Pos}{x:Str}{i:Nat}{pm:Pm}(g:zB1 up G)
include g
theorem f_v(w:X.N[i]?=some x)(n:Vis X.env.scope x)(o:(x==("__debug__":Str))=false)(d:(x==("__classdict__":Str))=false):FE X B G Ex (.Name x pos)<|cV i:=
 ⟨wkE (je w n o d) λτ H Q j=>by
  let⟨W,O,S,l,m,h⟩:=j;unfold cV at h;cases e:nth O i with
  |none=>rw[e] at h;exact(g.no h).elim
  |some v=>rw[e] at h;let⟨u,y,k⟩:=m.v i v e;exact⟨u,y,h W u H .refl l k⟩,mV g⟩
omit g in
theorem f_c{v:V}{u:U}(h:PE X e<|tC v)(r:∀W,Rv B W u v):FE X B G Ex e<|cC u:=⟨wkE h λτ H Q ⟨W,O,S,d,j,h⟩=>h W v H .refl d<|r W,⟨λk hk h=>hk _ _ h⟩⟩
theorem lL{op:Operator}(o:OpR X (binaryOp op) r)(n:Pr2 B up pm r)(j:FE X B G Ex ea a)(d:FE X B G Ex eb b):FE X B G Ex (.BinOp ea op eb pos)<|cP pm<|zAz a b:=
 ⟨wkE (zw o j.p d.p) λτ H Q h=>(LE.p2 g j.m d.m h).imp j.m λx H1 A=>A.imp d.m λy H2 ⟨W,S,v,w,z,S',k,l,r2,e,q⟩=>n k l r2 e q,mP g<|mAC g j.m<|mAC g d.m<|mAN g⟩
theorem Bd{op:UnaryOp}{r:V->Hp->VK->Prop}(n:UnR X (unaryOp op) r)(l:Pr1 B up pm r)(d:FE X B G Ex ea a):FE X B G Ex (.UnaryOp op ea pos)<|cP pm<|aC a aN:=
 ⟨wkE (zu n d.p) λτ H Q h=>(LE.p1 g d.m h).imp d.m λx H1 ⟨W,S,v,z,S',j,k,e,q⟩=>l j k e q,mP g<|mAC g d.m<|mAN g⟩
theorem Bi(hr:IxR X r)(o:Pr2 B up pm r)(j:FE X B G Ex ea a)(d:FE X B G Ex eb b)(n:zCp eb):FE X B G Ex (.Subscript ea eb pos)<|cP pm<|zAz a b:=
 ⟨wkE (zy hr j.p d.p n) λτ H Q h=>(LE.p2 g j.m d.m h).imp j.m λx H1 A=>A.imp d.m λy H2 ⟨W,S,v,w,z,S',k,l,r2,e,q⟩=>o k l r2 e q,mP g<|mAC g j.m<|mAC g d.m<|mAN g⟩
theorem gw:FA X B G Ex [] aN:=⟨wkA jg λτ H Q ⟨W,O,S,d,j,h⟩=>h W [] H .refl d rfl,mAN g⟩
theorem fi(y:FE X B G Ex e a)(j:FA X B G Ex es as)(w:zAb e=true):FA X B G Ex (e::es)<|aC a as:=
 ⟨wkA (qM y.p j.p w) λτ H Q ⟨W,O,S,C,D,h⟩=>LE.go y.m C D h λv S' W' u H' le n A o F =>
  LA.go j.m n o (j.m.m (XL.upf le _) (λ_ _ _ h=>h) F) λI S2 W2 us H2 _ d l k _ E=>E W2 (u::us) H2 (le.trans d) l ⟨u,us,rfl,A.mono d,k⟩,mAC g y.m j.m⟩
theorem Aj{k:Nat}(l:FA X B G Ex es as)(y:es.length<=1000):FE X B G Ex (.Tuple es k pos)<|cT as:=
 ⟨wkE (xj l.p) λτ H Q ⟨W,O,S,n,o,h⟩=>LA.go l.m n o h λC S' W' us H' w le j d _ A=>⟨by rw[d.length,w];exact small y,λp v=>VL.tup (VL.inc le A) j d v⟩,mT g l.m⟩
theorem Ao{m:B6}(d:FA X B G Ex es as):FE X B G Ex (.List es pos)<|cP (.lst m) as:=
 ⟨wkE (xm d.p) λτ H Q h=>(LE.pn g d.m h).imp d.m λus H1 l=>by
  let⟨W,S,j,z,S',n,k,e,q⟩:=l;let⟨v,e⟩:=zAs<|show fits j.length (mkL m j S)=_ from e;exact⟨by rw[k.length];exact v,λp o=>gS e q n k o⟩,mP g d.m⟩
theorem Au(J:OpR X (compareOp op) r)(I:Pr2 B up pm r)(M:∀v w S z S',pr up pm [v,w] S=.ok z S'->∃c,z=.bl c)(j:FE X B G Ex ea a)(d:FE X B G Ex eb b)(K:behindInMarks op eb=false):FT X B G Ex (.Compare ea [op] [eb] pos)<|tB<|cP pm<|zAz a b:=by
 have A:=mP g (p:=pm)<|mAC g j.m<|mAC g d.m<|mAN g;refine⟨wkT (mJ J j.p d.p K) λτ H Q h=>?_,mB g A⟩;have l:LE B G Ex (cP pm<|zAz a b) τ H λx H'=>∃k,x=.bl k/\Q k H':=by
  let⟨W,O,S,o,E,h⟩:=h;refine LE.go A o E h λv S' W' u H' le n C D l=>?_;cases v <;> first|(exact(g.no l).elim)|exact⟨_,C,l W' H' le n⟩
 exact(LE.p2 g j.m d.m l).imp j.m λx H1 L=>L.imp d.m λy H2 ⟨W,S,v,w,z,S',o,F,r2,e,q⟩=>I o F r2 e q
theorem wj(h:FE X B G Ex e c)(y:∀d,isTrue e X.env d=(do let v <- d;standAt e.pos;holding [v] (truthy v))):FT X B G Ex e<|tB c:=
 ⟨wkT (wW h.p y) λτ H Q ⟨W,O,S,n,w,A⟩=>LE.go h.m n w A λv S' W' u H' le j l o k=>by
  cases v <;> first|(exact(g.no k).elim)|exact⟨_,l,k W' H' le j⟩,mB g h.m⟩
theorem Bg(h:FT X B G Ex ea t):FT X B G Ex (.UnaryOp .Not ea pos)<|tNt t:=
 ⟨wkT (wX h.p) λτ H Q ⟨W,O,S,j,l,n⟩=>LT.go h.m j l n λv S' W' H' le d k o=>o W' H' le d,mNt g h.m⟩
end
structure FW(X:Cx)(B:Bs)(G:C8)(Ex:St->XK)(e:B4)(c:TTx Prop):Prop where
 p:PW X e (LT B G Ex c)
 m:zBo G c
def spF(B:Bs)(G:C8)(i b:Nat):Sp:=λa H Q E=>a.length=b/\∃W us S,RS B W S H/\Rvs B W us a/\G.call i us S (XL B W E) (VL B W Q)
section
variable{B:Bs}{up:B0<|Str×Str}{G:C8}{Ex:St->XK}{c a b d:C5}{as:C9}{t u v:TTx Prop}
variable{X:Cx}{e ea eb ec ed:B4}{es rest:B0 B4}{pos p1 p2 apos:Pos}{x m:Str}{i:Nat}{pm:Pm}(g:zB1 up G)
def wkW{t:TT}(h:PW X e t)(w:∀O H Q,t' O H Q->t O H Q):PW X e t':=λj Z s O H Q I q=>h j Z s O H Q I<|w _ _ _ q
omit g in
def wg(h:FT X B G Ex ea t):FW X B G Ex (.BoolOp .And [ea] pos) t:=⟨tK h.p,h.m⟩
def we(h:FT X B G Ex ea t):FW X B G Ex (.BoolOp .Or [ea] pos) t:=⟨wU h.p,h.m⟩
def FW.ft(h:FW X B G Ex e t):FT X B G Ex e t:=⟨h.p.pt,h.m⟩
include g
theorem Ai(h:FT X B G Ex ea t)(k:FW X B G Ex (.BoolOp .And (eb::rest) pos) u):FW X B G Ex (.BoolOp .And (ea::eb::rest) pos)<|tAn t u:=
 ⟨wkW (wV h.p k.p) λτ H Q ⟨W,O,S,A,C,D⟩=>LT.go h.m A C D λv S' W' H' le j o l=>by
  have l:=g.bk l;cases v with
  |true=>exact LT.go k.m j o (k.m.m (XL.upf le _) (λ_ _ h=>h) l) λw S2 W2 H2 y n _ E=>E W2 H2 (le.trans y) n
  |false=>exact l W' H' le j,mAn g h.m k.m⟩
theorem Ah(h:FT X B G Ex ea t)(k:FW X B G Ex (.BoolOp .Or (eb::rest) pos) u):FW X B G Ex (.BoolOp .Or (ea::eb::rest) pos)<|tOr' t u:=
 ⟨wkW (zj h.p k.p) λτ H Q ⟨W,O,S,A,C,D⟩=>LT.go h.m A C D λv S' W' H' le j o l=>by
  have l:=g.bk l;cases v with
  |false=>exact LT.go k.m j o (k.m.m (XL.upf le _) (λ_ _ h=>h) l) λw S2 W2 H2 y n _ E=>E W2 H2 (le.trans y) n
  |true=>exact l W' H' le j,mOr g h.m k.m⟩
theorem uX(h:FE X B G Ex e c):FE X B G Ex e<|cB<|tB c:=
 ⟨wkE h.p λτ H Q ⟨W,O,S,n,w,y⟩=>LE.go h.m n w y λv S' W' u H' le j l o k=>by
  cases v <;> first|(exact(g.no k).elim)|exact k W' u H' le j l,mCB g<|mB g h.m⟩
theorem yG(A:OpR X (compareOp op) r)(o:Pr2 B up pm r)(k:FE X B G Ex ea a)(j:FE X B G Ex eb b)(C:behindInMarks op eb=false):FE X B G Ex (.Compare ea [op] [eb] pos)<|cP pm<|zAz a b:=
 ⟨wkE (m9 A k.p j.p C) λτ H Q h=>(LE.p2 g k.m j.m h).imp k.m λx H1 D=>D.imp j.m λy H2 ⟨W,S,v,w,z,S',l,n,r2,e,q⟩=>o l n r2 e q,mP g<|mAC g k.m<|mAC g j.m<|mAN g⟩
theorem rV(h:FE X B G Ex ea<|cB t)(k:zBo G t):FE X B G Ex (.UnaryOp .Not ea pos)<|cB<|tNt t:=
 ⟨wkE (xl h.p) λτ H Q ⟨W,O,S,n,o,w⟩=>⟨W,O,S,n,o,k.m (λ_ _ h=>h) (λv S' y W' u H' le j l=>⟨v,l,y W' (.bl (!v)) H' le j rfl⟩) w⟩,mCB g<|mNt g k⟩
theorem yI(h:FE X B G Ex ea<|cB t)(D:zBo G t)(K:FE X B G Ex (.BoolOp .And (eb::rest) pos)<|cB u)(C:zBo G u):FE X B G Ex (.BoolOp .And (ea::eb::rest) pos)<|cB<|tAn t u:=
 ⟨wkE (xr h.p K.p) λτ H Q ⟨W,O,S,F,A,I⟩=>⟨W,O,S,F,A,D.m (λ_ _ h=>h) (λv S' k W' w H' le j E=>⟨v,E,by
  have k:=g.bk k;cases v with
  |true=>exact⟨W',O,S',j,A.mono le,C.m (XL.upf le _) (λz S2 J W2 y H2 o n l=>J W2 y H2 (le.trans o) n l) k⟩
  |false=>exact k W' _ H' le j rfl⟩) I⟩,mCB g<|mAn g D C⟩
theorem An(h:FE X B G Ex ea<|cB t)(D:zBo G t)(K:FE X B G Ex (.BoolOp .Or (eb::rest) pos)<|cB u)(C:zBo G u):FE X B G Ex (.BoolOp .Or (ea::eb::rest) pos)<|cB<|tOr' t u:=
 ⟨wkE (zv h.p K.p) λτ H Q ⟨W,O,S,F,A,I⟩=>⟨W,O,S,F,A,D.m (λ_ _ h=>h) (λv S' k W' w H' le j E=>⟨v,E,by
  have k:=g.bk k;cases v with
  |false=>exact⟨W',O,S',j,A.mono le,C.m (XL.upf le _) (λz S2 J W2 y H2 o n l=>J W2 y H2 (le.trans o) n l) k⟩
  |true=>exact k W' _ H' le j rfl⟩) I⟩,mCB g<|mOr g D C⟩
omit g in
theorem wn{op:BoolOp}(h:FE X B G Ex ea c):FE X B G Ex (.BoolOp op [ea] pos) c:=⟨xk h.p,h.m⟩
theorem Bk(h:FT X B G Ex ec t)(A:FE X B G Ex ea a)(y:FE X B G Ex eb b):FE X B G Ex (.IfExp ec ea eb pos)<|cIf t a b:=
 ⟨wkE (qD h.p A.p y.p) λτ H Q ⟨W,O,S,F,I,J⟩=>LT.go h.m F I J λv S' W' H' le n o C=>by
  have C:=g.bk C;cases v with
  |true=>exact LE.go A.m n o (A.m.m (XL.upf le _) (λ_ _ h=>h) C) λw S2 W2 D H2 l k j _ E=>E W2 D H2 (le.trans l) k j
  |false=>exact LE.go y.m n o (y.m.m (XL.upf le _) (λ_ _ h=>h) C) λw S2 W2 D H2 l k j _ E=>E W2 D H2 (le.trans l) k j,mIf g h.m A.m y.m⟩
theorem Bj(h:FT X B G Ex ec t)(A:FT X B G Ex ea u)(y:FT X B G Ex eb v):FT X B G Ex (.IfExp ec ea eb pos)<|tIi t u v:=by
 refine⟨λZ s O H Q I q=>isTrue_IfExp<|thn (h.p Z s O H (λd H1=>if d=true then LT B G Ex u O H1 Q else LT B G Ex v O H1 Q) I ?_) λd D ⟨H1,I1,E⟩=>?_,mIi g h.m A.m y.m⟩
 .let⟨W,τ,S,F,J,K⟩:=q;refine LT.go h.m F J K λd S' W' H' le n o l=>?_;have l:=g.bk l;cases d with
  |true=>rw[xCg rfl] at l⊢;exact⟨W',τ,S',n,o,A.m.m (XL.upf le _) (λw S2 C W2 H2 k j=>C W2 H2 (le.trans k) j) l⟩
  |false=>rw[xCf xAy] at l⊢;exact⟨W',τ,S',n,o,y.m.m (XL.upf le _) (λw S2 C W2 H2 k j=>C W2 H2 (le.trans k) j) l⟩
 .cases d with
  |true=>exact A.p Z D O H1 Q I1 E
  |false=>exact y.p Z D O H1 Q I1 E
theorem nL(hp:Pr2 B up p r)(hq:Pr2 B up q r')(ma:zA4 G a)(Y:zA4 G b)(T:zA4 G c){Q:B6->Hp->Prop}(h:LT B G Ex (tCh p q a b c) τ H Q) :
  zC6 r r' (LE B G Ex a) (LE B G Ex b) (LE B G Ex c) τ H (λx H'=>∃k,x=V.bl k/\Q k H'):=by
 let⟨W,O,S,rs,rg,hh⟩:=h;erw[<-LE.go ma rs rg hh λv S1 W1 u1 H1 j K E M h1=>?_,<-LE.go Y K M (Y.m (XL.upf j _) (λ_ _ h=>h) h1) λw S2 W2 u2 H2 le2 J n L h2=>?_];let⟨z,S3,e,l⟩:=g.pok h2;refine hp J (E.mono le2) n e λW3 u3 H3 le3 o D=>?_;cases z <;> first|(exact(g.no l).elim)|skip
 refine⟨_,D,?_⟩;have l:=g.bk l;split
 .next P=>
  rw[xCg P] at l;refine LE.go T o ((L.mono le3)) (T.m (XL.upf (j.trans<|le2.trans le3) _) (λ_ _ h=>h) l) λy S4 W4 u4 H4 le4 I C _ h4=>?_;let⟨Z,S5,e2,R⟩:=g.pok h4;refine hq I ((n.mono le3).mono le4) C e2 λW5 u5 H5 N F A=>?_;cases Z <;> first|(exact(g.no R).elim)|exact⟨_,A,R W5 H5 (j.trans<|le2.trans<|le3.trans<|le4.trans N) F⟩
 .next P=>
  rw[xCf P] at l;exact⟨false,rfl,l W3 H3 (j.trans<|le2.trans le3) o⟩
theorem Bp(y:OpR X (compareOp op) r)(j:OpR X (compareOp op') r')(w:Pr2 B up p r)(o:Pr2 B up q r')(n:FE X B G Ex ea a)(l:FE X B G Ex eb b)(k:FE X B G Ex ec c)(A:lastMarks [op,op'] [eb,ec]=false):FT X B G Ex (.Compare ea [op,op'] [eb,ec] pos)<|tCh p q a b c:=
 ⟨wkT (p0 y j n.p l.p k.p A) λτ H Q h=>nL g w o n.m l.m k.m h,mCh g n.m l.m k.m⟩
theorem Av(R:OpR X (compareOp op) r)(E:OpR X (compareOp op') r')(P:Pr2 B up p r)(N:Pr2 B up q r')(n:FE X B G Ex ea a)(l:FE X B G Ex eb b)(j:FE X B G Ex ec c)(T:lastMarks [op,op'] [eb,ec]=false)(hi:∀x y H Q,r x y H Q->r x y H Q)(L:∀{x y H}{Q Q':VK},(∀v H,Q v H->Q' v H)->r x y H Q->r x y H Q')(D:∀{x y H}{Q Q':VK},(∀v H,Q v H->Q' v H)->r' x y H Q->r' x y H Q'):FE X B G Ex (.Compare ea [op,op'] [eb,ec] pos)<|cB<|tCh p q a b c:=
 ⟨wkE (qH R E n.p l.p j.p T) λτ H Q I=>by
  let⟨W,O,S,J,K,Y⟩:=I;have h0:LT B G Ex (tCh p q a b c) τ H λk H'=>Q (.bl k) H':=⟨W,O,S,J,K,(mCh g n.m l.m j.m).m (λ_ _ h=>h) (λv S' h' W' H' le A=>h' W' (.bl v) H' le A rfl) Y⟩
  have h1:=nL g P N n.m l.m j.m h0;refine LE.imp n.m h1 λx H1 h2=>LE.imp l.m h2 λy H2 h3=>L (λz H3 ⟨k,e,o⟩=>⟨k,e,?_⟩) h3;split
  .next hk=>rw[xCg hk] at o;exact LE.imp j.m o λw H4 Z=>D (λz5 H5 ⟨M,F,C⟩=>by rw[F];exact C) Z
  .next hk=>rw[xCf hk] at o;let⟨M,F,C⟩:=o;cases F;exact C,mCB g<|mCh g n.m l.m j.m⟩
variable{k:Nat}{f:B5}{fd:FuncData}{ps:B7}{np:Nat}{ds:C3}{dvs:B0 V}{dus:B8}
theorem yH(F:zA5 X.prog X.w X.K X.mg X.base (CXo X.prog X.w) k f fd ps<|spF B G i np)(hr:zBe k X.A)(M:Gl X x)(L:X.mg x=some (.ref f))(hk:PySem.W.keepIn X.K (.ref f)=true)(P:zAv X.K fd ps ds)(N:zAi dvs ds)(hdu:∀W,Rvs B W dus dvs)(J:zB0 (CXo X.prog X.w) X Ex)(n:(x==("__debug__":Str))=false)(C:FA X B G Ex es as)(Z:es=[]->as=aN)(T:es.length+dus.length=np)(l:es.all zAb=true):FE X B G Ex (.Call (.Name x p1) es [] pos)<|cF i as dus:=by
 refine⟨?_,mF g C.m⟩;have j:∀τ H Q,LE B G Ex (cF i as dus) τ H Q->zC7 (spF B G i np) dvs Ex (LA B G Ex as) τ H Q:=λτ H Q ⟨W,O,S,y,I,D⟩=>LA.go C.m y I D λv S' W' u H' Y le o E R h'=>
  ⟨by rw[xAb,E.length,(hdu W').length,Y];exact T,W',v++dus,S',o,E.app<|hdu W',g.call (XL.upf le _) (λ_ _=>VL.inc le) h'⟩
 cases es with
 |nil=>
  rw[Z rfl] at j⊢;refine wkE (ou F hr M L hk P N J n) λτ H Q h=>?_;let⟨W,O,S,y,I,D⟩:=j τ H Q h;exact D W [] H .refl y rfl
 |cons e es=>
  rw[xCj,xCh] at l;exact wkE (qI F hr M L hk P N J C.p n (cf l.1)<|dW l.2) j
end
end Fx
namespace L2
open PySem PySem.Spec PyProof.Rows
def zF9:C0->Hp->VK->Prop:=λb H Q=>(∃i,b=[.int i]/\i.natAbs.log2<1920/\Q (.str<|PySem.Str.ofString<|toString i) H)\/∃a d,b=[.ref a]/\Rep H (.ref a) d/\d.showable=true/\d.hasDict=false/\d.depth<=60/\d.shown.length<=sizeLine/\Q (.str d.shown) H
def u7{X:Cx}{k:Nat}(hr:zBe k X.A):zAm X (.builtin "repr") zF9:=by
 intro Z s O H a us Q I r h;rcases h with ⟨i,rfl,hz,q⟩|h
 .let⟨u,rfl,t,rfl⟩:=r.one;exact PySem.P.repr_of_int hz ⟨.str _,H,I.tok _,⟨_,rfl⟩,q⟩
 .exact oS hr Z s O H a us Q I r h
section
variable{X:Cx}
def zDv(K:xFr):V->C0->Hp->VK->Prop:=λx a H Q=>∃(sep:Str) (l:B5) (ws:B7),x=.str sep/\a=[.ref l]/\(SqL K H l (ws.map V.str)\/SqT K H l (ws.map V.str))/\(ws.map (·.length)).sum+ws.length*sep.length<=16777216/\Q (.str<|Txt.join sep ws) H
def q0:MtR X "str.join"<|zDv X.K:=by
 intro Z s O H x n v us Q I i j h;let⟨sep,l,ws,rfl,rfl,hS,d,q⟩:=h;let⟨t,rfl⟩:=i;let⟨u,rfl,m⟩:=j.one;obtain rfl:u=Value.ref l:=m;rcases hS with hS|hS
 .let⟨c,b,a,e⟩:=I.list hS;exact join_list a.isList (ys:=ws) (by simpa using iV b) d λg k=>⟨.str _,H,I.tok _,⟨_,rfl⟩,q⟩
 .let⟨c,b,a,e⟩:=I.tuple hS;exact join_tuple a (ys:=ws) (by simpa using iV b) d λg k=>⟨.str _,H,I.tok _,⟨_,rfl⟩,q⟩
end
end L2
namespace Fx
open PySem PySem.Spec L2
open PyProof.Rows hiding St
section
variable{B:Bs}{up:B0<|Str×Str}
def Rvs.inv1{W:Wd}{v:U}{us:B0 V}(r:Rvs B W [v] us):∃u,us=[u]/\Rv B W v u:=by let⟨u,t,rfl,h,a⟩:=r;rw[show t=[] from a];exact⟨u,rfl,h⟩
def Rvs.inv2{W:Wd}{v w:U}{us:B0 V}(r:Rvs B W [v,w] us):∃b a,us=[b,a]/\Rv B W v b/\Rv B W w a:=by
 let⟨u,t,rfl,h,d⟩:=r;let⟨a,rfl,c⟩:=Rvs.inv1 d;exact⟨u,a,rfl,h,c⟩
set_option tactic.hygienic true
def AY{C:World}(hk:∀{W:Wd}{p:B5}{b:B0<|Str×U}{no:B7}{x:Str}{v:U}{H:Hp}{Q:VK},B.kd p b no->zAt x b=some v->(∀u,Rv B W v u->Q u H)->zFh C B.K (.ref p) (.str x) H Q):Pr2 B up .ix<|zFh C B.K:=by
 intro W S H v w G F z S' Q j r r2 h q;change ixU v w S=_ at h;have l:∀d,sqU S v=some d->(match w with
   |.int i=>opt (atI d i) S
   |_=>Res.stuck)=.ok z S'->zFh C B.K G F H Q:=λd e h=>by
  split at h
  .unfold opt at h;split at h
   .next i E n=>
    cases h;let⟨p,D,rfl,sq,J⟩:=fU j r e;let⟨y,A,o⟩:=yU J n;rcases sq with sq|sq
    .exact .inl<|.inl<|.inl ⟨p,D,_,y,rfl,r2,sq,A,q.here j o⟩
    .exact .inl<|.inl<|.inr<|.inl ⟨p,D,_,y,rfl,r2,sq,A,q.here j o⟩
   .cases h
  .cases h
 unfold ixU at h;split at h
 .next b=>
  split at h
  .next x=>
   unfold opt at h;split at h
   .next E e=>
    cases h;let⟨p,rfl,T⟩:=r;rw[show F=.str x from r2];exact hk (W:=W) T e λu I=>q.here j I
   .cases h
  .cases h
 .split at h
  .split at h
   .next Z i c e=>
    let⟨P,n⟩:=zAs h;cases n;exact .inl<|.inl<|.inr<|.inr ⟨_,_,_,r,r2,P,e,q.here j rfl⟩
   .cases h
  .cases h
 .next p=>
  split at h
  .next b e=>
   split at h
   .next k Y=>
    unfold opt at h;split at h
    .next E A=>
     cases h;let⟨a,g,O,R,L,_⟩:=j.here e;let⟨a',n,m⟩:=r;rw[O] at m;cases m;let⟨N,rfl,M⟩:=L;let⟨y,X,o⟩:=(gz (k:=k) M).1 _ A;exact .inl<|.inr ⟨a,y,n,.inl ⟨N,k,.inl R,gG Y r2,X.symm⟩,q.here j o⟩
    .cases h
   .cases h
  .next d e=>exact l d (by show lsU S (.ref p)=_;unfold lsU;dsimp only;rw[e]) h
  .cases h
 .split at h
  .next d e=>exact l d e h
  .cases h
set_option tactic.hygienic false
def zEj(K:xFr):B0 V->Hp->VK->Prop:=λa H Q=>zJa K a H Q\/zGb a H Q
def zi{X:Cx}:zAm X (.builtin "len")<|zEj X.K:=zAm.or yO vc
set_option tactic.hygienic true
theorem zK:PrN B up .len<|zEj B.K:=by
 intro W S H n us z S' Q d o h q;cases n with
 |nil=>cases h
 |cons v t=>cases t with
  |cons _ _=>cases h
  |nil=>
   let⟨u,rfl,j⟩:=o.inv1;change zDn v S=_ at h;have c:∀b,sqU S v=some b->z=.int b.length->S'=S->zEj B.K [u] H Q:=λb e A C=>by
    subst A C;let⟨p,m,rfl,sq,r⟩:=fU d j e;have:=q.here d (u:=.int b.length) rfl;rw[<- r.length] at this;rcases sq with sq|sq
    .exact .inl ⟨_,_,rfl,.inl ⟨m,sq,rfl⟩,this⟩
    .exact .inl ⟨_,_,rfl,.inr ⟨m,sq,rfl⟩,this⟩
   unfold zDn at h;split at h
   .let⟨E,l⟩:=zAs h;cases l;rw[show u=.str _ from j];exact .inl ⟨_,_,rfl,⟨E,rfl⟩,q.here d rfl⟩
   .next p=>
    split at h
    .next b e=>cases h;exact c b (by show lsU S (.ref p)=_;unfold lsU;dsimp only;rw[e]) rfl rfl
    .next k e=>
     cases h;let⟨a,g,D,F,w,_⟩:=d.here e;let⟨G,l,i⟩:=j;rw[D] at i;cases i;let⟨y,rfl,x⟩:=w;have:=q.here d (u:=.int k.length) rfl;rw[<- x.length] at this;subst l;exact .inr ⟨a,y,rfl,F,this⟩
    .cases h
   .split at h
    .next b e=>cases h;exact c b e rfl rfl
    .cases h
set_option tactic.hygienic false
theorem vs1{vs:B8}{p:Pm}{S:So}{z:U}{S':So}(h:pr up p vs S=.ok z S')(d:pr up p [] S=.stuck)(c:∀a b r,pr up p (a::b::r) S=.stuck):∃v,vs=[v]:=by
 cases vs with
 |nil=>rw[d] at h;cases h
 |cons v t=>cases t with
  |nil=>exact⟨v,rfl⟩
  |cons _ _=>rw[c] at h;cases h
def zR:PrN B up .abs λxs H Q=>∃i,xs=[.int i]/\Q (.int<|if i<0 then -i else i) H:=by
 intro W S H g us z S' Q d c h q;let⟨v,rfl⟩:=vs1 h rfl λa b r=>by cases a <;> rfl
 let⟨u,rfl,e⟩:=c.inv1;cases v <;> first|(cases h;done)|(cases h;exact⟨_,by rw[show u=_ from e],q.here d rfl⟩)
def zI:PrN B up .max λxs H Q=>∃i j,xs=[.int i,.int j]/\Q (.int<|if j>i then j else i) H:=by
 intro W S H g us z S' Q d c h q;let⟨i,j,rfl,rfl,rfl⟩:=nu (f:=λi j=>.int<|if j>i then j else i) h;let⟨b,a,rfl,e,r2⟩:=c.inv2;exact⟨i,j,by rw[show b=_ from e,show a=_ from r2],q.here d rfl⟩
def zH:PrN B up .min λxs H Q=>∃i j,xs=[.int i,.int j]/\Q (.int<|if j<i then j else i) H:=by
 intro W S H g us z S' Q d c h q;let⟨i,j,rfl,rfl,rfl⟩:=nu (f:=λi j=>.int<|if j<i then j else i) h;let⟨b,a,rfl,e,r2⟩:=c.inv2;exact⟨i,j,by rw[show b=_ from e,show a=_ from r2],q.here d rfl⟩
def zGd:B0 V->Hp->VK->Prop:=λa H Q=>zGe a H Q\/zGc a H Q
def ve{X:Cx}:zAm X (.type "int") zGd:=zAm.or vf vd
set_option tactic.hygienic true
def xA:PrN B up .int1 zGd:=by
 intro W S H j us z S' Q c g h q;let⟨v,rfl⟩:=vs1 h rfl λa b r=>by cases a <;> rfl
 let⟨u,rfl,d⟩:=g.inv1;cases v <;> try (cases h;done)
 .cases h;rw[show u=_ from d];exact .inl<|.inr ⟨_,rfl,q.here c rfl⟩
 .cases h;rw[show u=_ from d];exact .inl<|.inl ⟨_,rfl,q.here c rfl⟩
 .delta pr at h;dsimp only at h;split at h
  .next n e=>
   split at h
   .next i=>
    cases h;exact .inr ⟨_,n,by rw[show u=_ from d],e,xCo i,q.here c rfl⟩
   .cases h
  .cases h
set_option tactic.hygienic false
def xu:PrN B up .str1 zI9:=by
 intro W S H i us z S' Q c g h q;let⟨v,rfl⟩:=vs1 h rfl λa b r=>by cases a <;> rfl
 let⟨u,rfl,d⟩:=g.inv1;cases v <;> try (cases h;done)
 .delta pr at h;dsimp only at h;split at h
  .next e=>cases h;rw[show u=_ from d];exact .inl ⟨_,rfl,xBe e,q.here c rfl⟩
  .cases h
 .cases h;rw[show u=_ from d];exact .inr ⟨_,rfl,q.here c rfl⟩
mutual
theorem nH{W:Wd}{S:So}{H:Hp}(a:RS B W S H):∀{v:U}{d:PyData}{u:V},zCn v=some d->Rv B W v u->Rep H u d
 |.non,_,_,h,r=>by cases h;rw[show _=_ from r];exact .non
 |.bl b,_,_,h,r=>by cases h;rw[show _=_ from r];exact .bl b
 |.int i,_,_,h,r=>by cases h;rw[show _=_ from r];exact .int i
 |.str x,_,_,h,r=>by cases h;rw[show _=_ from r];exact .str x
 |.tup c,d,u,h,r=>by
  let⟨k,e,rfl⟩:=Option.map_eq_some_iff.mp<|show(zAu c).map PyData.tuple=some d from h;let⟨p,j,rfl,f,g⟩:=r;exact .tup (a.fz _ _ f)<|kM a e g
 |.lst _,_,_,h,_=>by cases h
 |.kt _,_,_,h,_=>by cases h
 |.kl _,_,_,h,_=>by cases h
 |.kd _ _,_,_,h,_=>by cases h
 |.ref _,_,_,h,_=>by cases h
 |.ty _,_,_,h,_=>by cases h
 |.gl _,_,_,h,_=>by cases h
theorem kM{W:Wd}{S:So}{H:Hp}(b:RS B W S H):∀{xs:B8}{a:B0 PyData}{ys:B0 V},zAu xs=some a->Rvs B W xs ys->zDf H ys a
 |[],_,_,h,r=>by cases h;rw[show _=[] from r];exact .nil
 |x::xs,a,_,h,r=>by
  let⟨y,ys,rfl,c,r2⟩:=r;let⟨d,g,h⟩:=xCi.mp (show(zCn x).bind (λd=>(zAu xs).map (d::·))=some a from h);let⟨i,e,rfl⟩:=Option.map_eq_some_iff.mp h;exact .cons (nH b g c)<|kM b e r2
end
set_option tactic.hygienic true
def xw:PrN B up .repr zF9:=by
 intro W S H w us z S' Q c j h q;let⟨v,rfl⟩:=vs1 h rfl λa b r=>by cases a <;> rfl
 let⟨u,rfl,d⟩:=j.inv1;cases v <;> try (cases h;done)
 .delta pr at h;dsimp only at h;split at h
  .next e=>cases h;rw[show u=_ from d];exact .inl ⟨_,rfl,xBe e,q.here c rfl⟩
  .cases h
 .next g=>
  delta pr at h;dsimp only at h;split at h
  .next n e=>
   split at h
   .next i=>
    cases h;simp only[xCh,Bool.not_eq_true'] at i;let⟨⟨⟨m,l⟩,h3⟩,h4⟩:=i;have k:=nH c (show zCn (.tup g)=some (PyData.tuple n) by show(zAu g).map _=_;rw[e];rfl) d;let⟨p,o,rfl,_⟩:=d;exact .inr ⟨p,_,rfl,k,m,l,xCo h3,xCo h4,q.here c rfl⟩
   .cases h
  .cases h
def uo:PrN B up .tupOf<|zD3 B.K:=by
 intro W S H m us z S' Q rs i h q;let⟨v,rfl⟩:=vs1 h rfl λa b r=>by cases a <;> rfl
 let⟨u,rfl,g⟩:=i.inv1;change zA1 v S=_ at h;unfold zA1 at h;split at h
 .cases h;let⟨p,c,rfl,f,d⟩:=g;exact⟨p,c,rfl,.inr ⟨.of<|rs.fz _ _ f,q.here rs ⟨p,c,rfl,f,d⟩⟩⟩
 .split at h
  .next k e=>
   cases h;let⟨p,c,rfl,sq,d⟩:=fY rs g e;exact⟨p,c,rfl,.inl ⟨sq,λl j=>q.tup rs d j⟩⟩
  .cases h
def uq{m:B6}:PrN B up (.lstOf m)<|zGa B.K:=by
 intro W S H o us z S' Q c g h q;let⟨v,rfl⟩:=vs1 h rfl λa b r=>by cases a <;> rfl
 let⟨u,rfl,j⟩:=g.inv1;delta pr at h;dsimp only at h;split at h
 .next n e=>
  let⟨p,d,rfl,sq,i⟩:=fU c j e;exact⟨p,d,rfl,sq,λl k=>gS h q c i k⟩
 .cases h
set_option tactic.hygienic false
theorem sV{W:Wd}:∀{vs:B8}{us:B0 V}{bs:B0 B6},blL vs=some bs->Rvs B W vs us->us=bs.map V.bl
 |[],_,_,h,r=>by cases h;exact r
 |x::t,_,_,h,r=>by
  let⟨u,s,rfl,b,a⟩:=r;cases x <;> try (cases h;done)
  simp only[blL] at h;cases e:blL t with
  |none=>rw[e] at h;cases h
  |some bs=>
   rw[e] at h;cases h;rw[sV e a,show u=_ from b];rfl
theorem iW{W:Wd}:∀{vs:B8}{us:B0 V}{bs:B7},zCx vs=some bs->Rvs B W vs us->us=bs.map V.str
 |[],_,_,h,r=>by cases h;exact r
 |x::t,_,_,h,r=>by
  let⟨u,s,rfl,b,a⟩:=r;cases x <;> try (cases h;done)
  simp only[zCx] at h;cases e:zCx t with
  |none=>rw[e] at h;cases h
  |some bs=>
   rw[e] at h;cases h;rw[iW e a,show u=_ from b];rfl
set_option tactic.hygienic true
def zP:PrN B up .all<|zJb B.K:=by
 intro W S H l us z S' Q c d h q;let⟨v,rfl⟩:=vs1 h rfl λa b r=>by cases a <;> rfl
 let⟨u,rfl,i⟩:=d.inv1;cases v <;> try (cases h;done)
 delta pr at h;dsimp only at h;split at h
 .next bs e=>
  cases h;let⟨p,k,rfl,f,g⟩:=i;refine⟨p,bs,rfl,.of (by rw[<- sV e g];exact c.fz _ _ f),λb j=>?_⟩;subst j;exact q.here c rfl
 .cases h
set_option tactic.hygienic false
end
section
variable{B:Bs}{up:B0<|Str×Str}{G:C8}{Ex:St->XK}{c a b d:C5}{as:C9}
variable{X:Cx}{e ea eb:B4}{es:B0 B4}{pos p1 p2 apos:Pos}{x:Str}{id T:String}{pm:Pm}{r:B0 V->Hp->VK->Prop}(g:zB1 up G)
include g
theorem oK(A:zAm X (.builtin id) r)(o:PrN B up pm r)(y:Gl X x)(w:X.mg x=none)(n:bootBuiltins x=some (.builtin id))(i:FA X B G Ex (e::es) as)(h:(e::es).all zAb=true)(v:x≠"__name__")(j:(x==("__debug__":Str))=false):FE X B G Ex (.Call (.Name x p1) (e::es) [] pos)<|cP pm as:=
 ⟨wkE (qK A y w n i.p h v j) λτ H Q h=>(LE.pn g i.m h).imp i.m λus H1 ⟨W,S,C,z,S',l,k,e,q⟩=>o l k e q,mP g i.m⟩
theorem uY(A:zAm X (.type T) r)(o:PrN B up pm r)(y:Gl X x)(w:X.mg x=none)(n:bootBuiltins x=some (.type T))(i:FA X B G Ex (e::es) as)(h:(e::es).all zAb=true)(v:x≠"__name__")(j:(x==("__debug__":Str))=false):FE X B G Ex (.Call (.Name x p1) (e::es) [] pos)<|cP pm as:=
 ⟨wkE (vJ A y w n i.p h v j) λτ H Q h=>(LE.pn g i.m h).imp i.m λus H1 ⟨W,S,C,z,S',l,k,e,q⟩=>o l k e q,mP g i.m⟩
end
end Fx
namespace L2
open PySem PySem.Spec PyProof.Rows
def zFp(K:xFr)(a:B5)(y:V)(H:Hp)(Q:VK):Prop:=∃x v r,y=.str x/\PySem.W.nsIn K a x=some r/\(∀u,r=some u->zAj v u)/\(r=none->v=.non)/\Q v H
def zGy(K:xFr)(a:B5)(b:TE):TE:=λO H Q=>b O H λy H2=>zFp K a y H2 Q
section
variable{X:Cx}{o e:B4}{te:TE}{a:B5}{apos cpos:Pos}
theorem uh(d:KD X.w X.K a)(E:PE X o<|tC<|.ref a)(J:PE X e te)(m:M1 X o "get" apos e cpos):PE X (.Call (.Attribute o "get" apos) [e] [] cpos)<|zGy X.K a te:=by
 let⟨P,n,c,hk,D⟩:=d;intro Z s O H Q I h;refine wpAny_Call_method m.base m.few m.line PySem.F.plainAttrs_dict PySem.F.slot_dict_get PySem.F.type_dict_get (thn (E Z s O H (λx H1=>x=.ref a/\te O H1 λy H2=>zFp X.K a y H2 Q) I ⟨rfl,h⟩) λu k j=>?_);let⟨x,H1,I1,p,L,C⟩:=j;subst L;obtain rfl:u=Value.ref a:=p;have g:=PySem.W.mapOf_K (prog:=X.prog) (w:=X.w) (λb o e=>I1.kIn b o e) c hk;refine⟨g.typeIs,λb e=>⟨_,by cases e;exact I1.kIn a _ c,rfl⟩,?_⟩;rw[m.trees];refine Calls.callWith_builtin rfl (Calls.evalArgs_plain<|Calls.spliced_cons<|thn (J Z k O H1 _ I1 C) λN M ⟨y,H2,I2,l,B⟩=>Calls.spliced_nil ?_);let⟨z,v,r,rfl,G,A,r2,q⟩:=B;let⟨t,rfl⟩:=l;have i:=PySem.W.mapOf_K (prog:=X.prog) (w:=X.w) (λb o e=>I2.kIn b o e) c hk;refine call_meetsIn PySem.F.slot_dict_get i.typeIs PySem.F.entry_dict_get (PySem.F.args_dict_get_2 _ _) (meets_dict_get (strKind X.prog X.w) a (strKind_is X.prog X.w z t) D) ⟨_,i,?_⟩;rw[PySem.W.find_K c G];cases r with
 |none=>cases r2 rfl;exact⟨.non,H2,I2.tok _,rfl,q⟩
 |some u=>exact⟨v,H2,I2.tok _,A u rfl,q⟩
def zFi:V->C0->Hp->VK->Prop:=λx b H Q=>∃a y z o,x=.ref a/\b=[y,z]/\zD5 H a y o/\Q (o.getD z) H
def uE(j:X.A.units+1<cLine):MtR X "dict.get" zFi:=by
 intro Z s O H x l v us Q I c g h;let⟨a,y,z,o,rfl,rfl,d,q⟩:=h;cases (show v=Value.ref a from c);let⟨u,r,rfl,i,r2⟩:=zDj g;exact yM j I d i r2 λk m I' b=>⟨_,H,I',b,q⟩
end
end L2
namespace Fx
open PySem PySem.Spec L2
open PyProof.Rows hiding St
variable{p k np:Nat}{f' c':B5}{fd:FuncData}{ps ks:B7}{ds:C3}{dvs ys:B0 V}{dus xs:B8}{v:U}{kx:B0<|B1 B4}{r:V->B0 V->Hp->VK->Prop}{name:Str}{kvs:B0<|Str×U}
section
variable{B:Bs}{W:Wd}{S S':So}{H:Hp}
theorem fk{f:Str}:∀{fs:B0<|Str×U}{vs:B0<|Str×V},Rn B W fs vs->(∀v,zAt f fs=some v->∃u,vs.lookup f=some u/\Rv B W v u)/\(zAt f fs=none->vs.lookup f=none)
 |[],_,r=>by rw[show _=[] from r];exact⟨(λv h=>nomatch h),λ_=>rfl⟩
 |(j,x)::t,_,r=>by
  let⟨v,q,rfl,c,b⟩:=r;by_cases e:f=j
  .subst e;unfold zAt;rw[xCg rfl];refine⟨λd h=>?_,(λh=>nomatch h)⟩;cases h;exact⟨v,by simp[List.lookup],c⟩
  .have a:(f==j)=false:=beq_eq_false_iff_ne.mpr e;unfold zAt;rw[xCf e];simp only[List.lookup,a];exact fk b
theorem mG{f:Str}{x:U}{y:V}(g:Rv B W x y):∀{fs:B0<|Str×U}{vs:B0<|Str×V},Rn B W fs vs->Rn B W (putF f x fs) (L2.putF f y vs)
 |[],_,r=>by rw[show _=[] from r];exact⟨y,[],rfl,g,rfl⟩
 |(j,z)::t,_,r=>by
  let⟨v,q,rfl,b,a⟩:=r;unfold putF L2.putF;by_cases e:j=f
  .rw[xCg e,xCg e];exact⟨y,q,rfl,g,a⟩
  .rw[xCf e,xCf e];exact⟨v,_,rfl,b,mG g a⟩
theorem Rn.app{κ:Type}:∀{us ws:B0<|κ×U}{vs a:B0<|κ×V},Rn B W us vs->Rn B W ws a->Rn B W (us++ws) (vs++a)
 |[],_,_,_,h,g=>by rw[show _=[] from h];exact g
 |_::_,_,_,_,h,g=>by let⟨v,r,rfl,c,b⟩:=h;exact⟨v,r++_,rfl,c,Rn.app b g⟩
def tL{κ:Type} [DecidableEq κ] {k:κ} {x:U} {y:V} (g:Rv B W x y) {fs:B0<|κ×U} {vs:B0<|κ×V} (r:Rn B W fs vs):Rn B W (putK k x fs)<|L2.putK vs k y:=by
 have d:(vs.any λkv=>decide<|kv.1=k)=(fs.any λkv=>decide<|kv.1=k):=by
  clear g;induction fs generalizing vs with
  |nil=>rw[show vs=[] from r];rfl
  |cons p t a=>let⟨v,q,rfl,c,b⟩:=r;rw[List.any_cons,List.any_cons,a b]
 unfold putK L2.putK;rw[d];split
 .next h=>
  clear h d;induction fs generalizing vs with
  |nil=>rw[show vs=[] from r];rfl
  |cons p t a=>
   let⟨v,q,rfl,c,b⟩:=r;rw[xBs,xBs];by_cases e:p.1=k
   .rw[xCg e,xCg e];exact⟨y,_,rfl,g,a b⟩
   .rw[xCf e,xCf e];exact⟨v,_,rfl,c,a b⟩
 .exact r.app ⟨y,[],rfl,g,rfl⟩
set_option tactic.hygienic true
def jt{f:Str->B0 (Str×U)->Res}{z:U}{u:V}(j:RS B W S H)(n:Rv B W (.ref p) u)(h:zC2 p S f=.ok z S'):∃C fs a c d vs,at? S p=some (.ins C fs)/\f C fs=.ok z S'/\u=.ref a/\at? W.μ p=some a/\B.cl C c/\H a=some (.ins c d vs)/\Rn B W fs vs:=by
 unfold zC2 at h;split at h
 .next C fs e=>
  let⟨a,g,i,o,l,_⟩:=j.here e;let⟨x,w,b⟩:=n;rw[i] at b;cases b;let⟨c,d,vs,q,rfl,m⟩:=l;exact⟨C,fs,a,c,d,vs,e,h,w,i,q,o,m⟩
 .cases h
def jo{f:B8->Res}{z:U}{u:V}(d:RS B W S H)(l:Rv B W (.ref p) u)(h:zCi p S f=.ok z S'):∃xs a vs,at? S p=some (.lst xs)/\f xs=.ok z S'/\u=.ref a/\at? W.μ p=some a/\H a=some (.lst vs)/\Rvs B W xs vs:=by
 unfold zCi at h;split at h
 .next xs e=>
  let⟨a,g,c,m,i,_⟩:=d.here e;let⟨o,n,b⟩:=l;rw[c] at b;cases b;let⟨vs,rfl,j⟩:=i;exact⟨xs,a,vs,e,h,n,c,m,j⟩
 .cases h
set_option tactic.hygienic false
end
section
variable{B:Bs}{up:B0<|Str×Str}{G:C8}{Ex:St->XK}{c a b d:C5}{as:C9}
variable{X:Cx}{e ea eb o value:B4}{es:B0 B4}{pos p1 p2 apos cpos pos':Pos}{x f m C:Str}{id T:String}{pm:Pm}{i:Nat}(g:zB1 up G)
structure ClF(B:Bs)(flds:B7):Prop where
 c:∀{C c},B.cl C c->Cls B.K c
 n:∀{C c f},B.cl C c->f∈flds->zAw B.K c f
variable{fl:B7}
include g
theorem Aq(D:X.K=B.K)(F:ClF B fl)(O:f∈fl)(j:FE X B G Ex o a)(h:zBj o=true):FE X B G Ex (.Attribute o f pos)<|cP (.fld f)<|aC a aN:=
 ⟨wkE (xp j.p<|eN h) λτ H Q h=>(LE.p1 g j.m h).imp j.m λu H1 E=>by
  let⟨W,S,v,z,S',w,M,e,q⟩:=E;cases v <;> try (cases e;done)
  let⟨C,fs,a,c,Z,I,_,l,Y,_,A,N,L⟩:=jt w M e;unfold opt at l;split at l
  .next v' R=>
   cases l;let⟨y,P,J⟩:=(fk (f:=f) L).1 _ R;exact⟨a,c,Z,I,y,Y,N,by rw[D];exact F.c A,by rw[D];exact F.n A O,P,q.here w J⟩
  ·(cases l),mP g<|mAC g j.m<|mAN g⟩
theorem yC(hcl:∀c,B.cl C c->c=c')(cc:Cls X.K c')(hm:zEn X.K c' m f')(F:zA5 X.prog X.w X.K X.mg X.base (CXo X.prog X.w) k f' fd ps<|spF B G i np)(hr:zBe k X.A)(hb:zAv X.K fd ps ds)(hd:zAi dvs ds)(hdu:∀W,Rvs B W dus dvs)(hx:zB0 (CXo X.prog X.w) X Ex)(J:FE X B G Ex o a)(M:FA X B G Ex es as)(h0:es=[]->as=aN)(hn:es.length+1+dus.length=np)(n:es.all zAb=true)(L:∃pl,eval (.Call (.Attribute o m apos) es [] pos) X.env=(do
   let ov <- eval o X.env
   standAt apos.atName
   let (f,first) <- holding [ov] (getMethod ov m pl)
   callWith pos f first (backTo pos<|starEach es X.env) (backToKw pos<|keywordEach [] X.env))):FE X B G Ex (.Call (.Attribute o m apos) es [] pos)<|cM C m i a as dus:=by
 refine⟨?_,mM g J.m M.m⟩;have j:∀τ H Q,LE B G Ex (cM C m i a as dus) τ H Q->zC5 c' m (spF B G i np) dvs Ex (LE B G Ex a) (LA B G Ex as) τ H Q:=λτ H Q ⟨W,O,S,P,rg,Z⟩=>LE.go J.m P rg Z λv S1 W1 u1 H1 le1 I E R h1=>by
  let⟨w,S2,e,h2⟩:=g.pok h1;cases v <;> try (cases e;done)
  let⟨D,fs,aa,c,dx,vs,_,q,e3,hμ,hc,Y,rn⟩:=jt I E e;split at q
  .next hD=>
   have hD:=xBe hD;subst hD;split at q
   .next hf=>
    cases q;obtain rfl:=hcl c hc;erw[<-⟨aa,dx,vs,e3,Y,(fk (f:=m) rn).2 hf,?_⟩,<-LA.go M.m I R (M.m.m (XL.upf le1 _) (λ_ _ _ h=>h) h2) λws S3 W3 us H3 hl l N y _ h3=>?_];exact⟨by rw[xAo,xAb,y.length,(hdu W3).length,hl,<- hn];lia,W3,.ref _::(ws++dus),S3,N,⟨u1,_,rfl,E.mono l,y.app<|hdu W3⟩,g.call (XL.upf (le1.trans l) _) (λ_ _=>VL.inc<|le1.trans l) h3⟩
   .cases q
  .cases q
 let⟨pl,L⟩:=L;cases es with
 |nil=>
  rw[h0 rfl] at j⊢;erw[<-wkE (om (pl:=pl) J.p cc hm F hr hb hd hx L) λτ H Q h=>?_,<-(j τ H Q h).imp J.m λu H1 ⟨a',dx,fs,e1,q,e3,h4⟩=>⟨a',dx,fs,e1,q,e3,?_⟩]
  let⟨W,O,S,P,rg,Z⟩:=h4;exact Z W [] H1 .refl P rfl
 |cons e es=>
  rw[xCj,xCh] at n;exact wkE (qA (pl:=pl) J.p cc hm F hr hb hd hx M.p (cf n.1) (dW n.2) L) j
omit g in
theorem zEc:zB4 (CXo X.prog X.w) X λ_ _ _=>False:=λZ O H s l j I z=>by let⟨_,_,_,_,_,_,_,_,_,_,_,_,_,h⟩:=z;exact h.elim
theorem yD(hcl:B.cl x c')(M:Mk X.K c' f')(F:zA5 X.prog X.w X.K X.mg X.base (CXo X.prog X.w) k f' fd ps<|spF B G i np)(hr:zBe (k+1) X.A)(hg:Gl X x)(hm:X.mg x=some (.ref c'))(hb:zAv X.K fd ps ds)(hd:zAi dvs ds)(hdu:∀W,Rvs B W dus dvs)(E:(x==("__debug__":Str))=false)(Z:FA X B G Ex es as)(h0:es=[]->as=aN)(hn:es.length+1+dus.length=np)(n:es.all zAb=true):FE X B G Ex (.Call (.Name x p1) es [] pos)<|cK x i as dus:=by
 refine⟨?_,mK g Z.m⟩;have j:∀τ H Q,LE B G Ex (cK x i as dus) τ H Q->zD9 c' (spF B G i np) dvs (λ_ _ _=>False) (LA B G Ex as) τ H Q:=λτ H Q ⟨W,O,S,P,rg,hh⟩=>LA.go Z.m P rg hh λws S1 W1 us H1 hl R N q _ h1=>by
  intro l dx Y hdx hne;let⟨w,S2,e,h2⟩:=g.pok h1;cases e;have sm:=dq hdx<|.own l;have D:upd H1 dx (.own l) l=none:=by rw[cb<|Ne.symm hne];exact Y
  have le2:W1.Le {W1 with μ:=W1.μ++[l]}:=⟨λ_ _ h=>h,λ_ _ h=>dS h,rfl⟩
  let⟨_,L,ha⟩:=(N.same sm).push (o:=.ins x []) (h:=.ins c' dx []) D ⟨c',dx,[],hcl,rfl,rfl⟩;refine⟨by rw[xAo,xAb,q.length,(hdu W1).length,hl,<- hn];lia,_,.ref S1.length::(ws++dus),_,L,⟨_,_,rfl,⟨l,rfl,ha⟩,(q.mono le2).app<|hdu _⟩,g.call (λ_ _ h=>(g.no h).elim) (λr S3 h3 W3 u3 H3 y J I=>?_) h2⟩;cases r <;> first|(exact(g.no h3).elim)|exact⟨I,h3 W3 (.ref l) H3 (R.trans<|le2.trans y) J ⟨l,rfl,y.m _ _ ha⟩⟩
 cases es with
 |nil=>
  rw[h0 rfl] at j⊢;refine wkE (qC M F hr hg hm hb hd zEc E) λτ H Q h=>?_;let⟨W,O,S,P,rg,hh⟩:=j τ H Q h;exact hh W [] H .refl P rfl
 |cons e es=>
  rw[xCj,xCh] at n;exact wkE (ug M F hr hg hm hb hd zEc Z.p E (cf n.1)<|dW n.2) j
end
section
variable{B:Bs}{W:Wd}{S S':So}{H:Hp}
theorem Rg.lf{W W':Wd}{O:Sg}{τ:St}(r:Rg B W O τ)(le:W.Lf W'):Rg B W' O τ:=⟨r.l,λi v h=>let ⟨u,e,q⟩:=r.v i v h;⟨u,e,q.lf le⟩⟩
def RS.drop(r:RS B W S H){l:B0<|B5×HO}(h:∀q∈l,q∈W.pr):RS B {W with pr:=l} S H:=
 ⟨r.fz,r.len,r.nd,λa p z=>let ⟨o,g,e,d,b,q⟩:=r.ob a p z;⟨o,g,e,d,b.lf .pr,q⟩,λq c=>r.pf q<|h q c⟩
def XL.hold{E:XK}{x:Xc}{pp:B5×HO}(h:XL B W E x S):XL B {W with pr:=pp::W.pr} E x S:=λW' C l H le a=>
 h {W' with pr:=W.pr} C l H ⟨le.f,le.m,rfl⟩ ⟨a.s.drop λq e=>by rw[le.r];exact xAs _ e,a.c,a.f.imp id λ⟨d,b,j,i,g⟩=>⟨d,b,j,i,g.lf .pr⟩⟩
def zJ7(K:xFr):V->B1 Int->B1 Int->Hp->VK->Prop:=λx a b H Q=>zIf K x a b H Q\/zIh K x a b H Q\/zIi K x a b H Q\/zIg x a b H Q
set_option tactic.hygienic true
def mx{m:B6}{z:U}{u:V}{lo hi:B1 Int}{Q:VK}(rs:RS B W S H)(c:Rv B W v u)(h:slice m v lo hi S=.ok z S')(q:VL B W Q z S'):zJ7 B.K u lo hi H Q:=by
 unfold slice at h;split at h
 .next t=>
  split at h
  .next b=>
   cases h;exact .inr<|.inr<|.inr ⟨t,c,xCo b,q.here rs rfl⟩
  .cases h
 .next xs=>
  split at h
  .next b=>
   cases h;let⟨p,ys,rfl,f,a⟩:=c;exact .inr<|.inr<|.inl ⟨p,ys,rfl,.of<|rs.fz _ _ f,by rw[a.length];exact xBe b,q.here rs ⟨p,ys,rfl,f,a⟩⟩
  .next b=>
   cases h;let⟨p,ys,rfl,f,a⟩:=c;have i:=a.length;refine .inl ⟨p,ys,rfl,.of<|rs.fz _ _ f,by rw[i];exact of_decide_eq_false b,λg d=>q.tup rs (nI a lo hi) d⟩
 .split at h
  .next xs e=>
   let⟨p,ys,rfl,sq,a⟩:=fY rs c e;exact .inr<|.inl ⟨p,ys,rfl,sq,λg d=>gS h q rs (nI a lo hi) d⟩
  .cases h
set_option tactic.hygienic false
end
section
variable{B:Bs}{up:B0<|Str×Str}{G:C8}{Ex:St->XK}{c a b d:C5}{as:C9}
variable{X:Cx}{e ea eb ec o:B4}{es:B0 B4}{pos p1 p2 p3 apos cpos:Pos}{x f m C:Str}{id T:String}{pm:Pm}{i:Nat}(g:zB1 up G)
include g
theorem Ak{m:B6}(E:X.K=B.K)(l:FE X B G Ex ea a)(j:FE X B G Ex eb b):FE X B G Ex (.Subscript ea (.Slice (some eb) none none p2) pos)<|cP (.sl m true false)<|zAz a b:=
 ⟨wkE (j4 (SlR.or pN<|SlR.or mw<|SlR.or mn pO) l.p (mS j.p) mW) λτ H Q h=>(LE.p2 g l.m j.m h).imp l.m λx H1 F=>F.imp j.m λy H2 n=>by
  let⟨W,S,v,w,z,S',A,D,r2,e,q⟩:=n;cases w <;> try (cases e;done)
  have:=mx (lo:=some _) (hi:=none) A D e q;rw[<- E] at this;exact⟨_,r2,this⟩,mP g<|mAC g l.m<|mAC g j.m<|mAN g⟩
theorem Am{m:B6}(E:X.K=B.K)(l:FE X B G Ex ea a)(j:FE X B G Ex eb b):FE X B G Ex (.Subscript ea (.Slice none (some eb) none p2) pos)<|cP (.sl m false true)<|zAz a b:=
 ⟨wkE (j4 (SlR.or pN<|SlR.or mw<|SlR.or mn pO) l.p mW<|mS j.p) λτ H Q h=>(LE.p2 g l.m j.m h).imp l.m λx H1 F=>F.imp j.m λy H2 n=>by
  let⟨W,S,v,w,z,S',A,D,r2,e,q⟩:=n;cases w <;> try (cases e;done)
  have:=mx (lo:=none) (hi:=some _) A D e q;rw[<- E] at this;exact⟨_,r2,this⟩,mP g<|mAC g l.m<|mAC g j.m<|mAN g⟩
omit g in
structure FP(X:Cx)(B:Bs)(G:C8)(Ex:St->XK)(pos:Pos)(kx:B0 (B1 B4))(ks:B7)(es:B0 B4)(as:C9):Prop where
 ex:∃trs,PPs X pos kx es trs/\∀τ H Q,LA B G Ex as τ H (λus H'=>Q ((ks.zip us).map λp=>(V.str p.1,p.2)) H')->zCr trs τ H Q
 m:zCj G as es.length
theorem Be:FP X B G Ex pos [] [] [] aN:=⟨⟨[],uc,λτ H Q ⟨W,O,S,j,l,h⟩=>h W [] H .refl j rfl⟩,mAN g⟩
theorem Bf{k:Str}{j:Nat}(F:FE X B G Ex e a)(q:FP X B G Ex pos kx ks es as):FP X B G Ex pos (some (.Constant (.str k) j p2)::kx) (k::ks) (e::es)<|aC a as:=by
 let⟨trs,M,L⟩:=q.ex;erw[<-⟨⟨_,ql qz F.p M,λτ H Q ⟨W,O,S,J,K,h⟩=>?_⟩,mAC g F.m q.m⟩,<-LE.go F.m J K h λv S1 W1 I H1 n D y E P=>L τ H1 _ ?_,<-LA.go q.m D E (q.m.m (XL.upf n _) (λ_ _ _ h=>h) P) λR S2 W2 us H2 _ l A w _ N=>N W2 (I::us) H2 (n.trans l) A ⟨I,us,rfl,y.mono l,w⟩]
omit g in
theorem nG{W:Wd}:∀{ks:B7}{vs:B8}{us:B0 V},Rvs B W vs us->Rn B W (zGp ks vs) ((ks.zip us).map λp=>((Sum.inr p.1:Key),p.2))
 |[],vs,us,r=>by cases vs <;> rfl
 |k::ks,[],us,r=>by rw[show us=[] from r];rfl
 |k::ks,v::vs,us,r=>by
  let⟨u,t,rfl,j,h⟩:=r;exact⟨u,_,rfl,j,nG h⟩
omit g in
theorem d0:∀{ks:B7},zBi ks=true->ks.Nodup
 |[],_=>List.nodup_nil
 |k::ks,h=>by
  simp only[zBi,xCh,Bool.not_eq_true'] at h;refine xCb.mpr ⟨λj=>?_,d0 h.2⟩;have:(ks.any λy=>decide<|y=k)=true:=xCy.mpr ⟨k,j,⋯⟩;rw[h.1] at this;cases this
omit g in
theorem pY{acc:B0<|Key×V}{k:Key}{v:V}(h:k∉acc.map (·.1)):L2.putK acc k v=acc++[(k,v)]:=by
 unfold L2.putK;rw[xCf];intro z;let⟨p,j,e⟩:=xCy.mp z;exact h<|xA2.mpr ⟨p,j,xBe e⟩
omit g in
theorem iD:∀{j acc:B0<|Key×V},(acc.map (·.1)++j.map (·.1)).Nodup->zBn acc j=acc++j
 |[],acc,_=>by simp[zBn]
 |p::t,acc,h=>by
  have l:p.1∉acc.map (·.1):=λz=>by
   have:=(xBq.mp h).2.2 p.1 z p.1 ⋯;exact this rfl
  show zBn (L2.putK acc p.1 p.2) t=_;rw[pY l,iD<|by simpa [xAx] using h];simp
omit g in
theorem jG:∀{ks:B7}{us:B0 V},ks.length=us.length->(ks.zip us).map ((λx=>x.1) ∘ λp=>((Sum.inr p.1:Key),p.2))=ks.map λk=>(Sum.inr k:Key)
 |[],_,_=>rfl
 |k::t,[],h=>by cases h
 |k::t,u::r,h=>by rw[List.zip_cons_cons,xBs,xBs,jG<|by simpa using h];rfl
theorem As(A:FP X B G Ex pos kx ks es as)(N:zBi ks=true)(hl:ks.length=es.length)(hk:kx.length=es.length)(y:kx.all (·.isSome)=true)(h0:kx≠[])(Z:ks.length<=15):FE X B G Ex (.Dict kx es pos)<|cP (.dct ks) as:=by
 let⟨trs,h1,Y⟩:=A.ex;refine⟨wkE (uk h1 y hk h0 ()) λτ H Q ⟨W,O,S,I,K,h⟩=>?_,mP g A.m⟩;intro p j;erw[Y τ _ _,<-LA.go A.m (I.hold (o:=.dK []) j λ_=>nofun) (K.lf .pr) (A.m.m (λ_ _=>XL.hold) (λ_ _ _ h=>h) h) λJ S1 W1 us H1 L le1 n l _ R=>?_];let⟨z,S2,e,q⟩:=g.pok R;delta pr at e;dsimp only at e;split at e
 .cases e;have hu:=l.length;have w:W1.pr=(p,.dK [])::W.pr:=le1.r;refine⟨(n.pf _<|by rw[w];exact xAr).1,(ks.zip us).map λp=>((Sum.inr p.1:Key),p.2),by rw[List.map_map];rfl,by rw[xAa,List.length_zip];lia,?_⟩;have F:(((ks.zip us).map λp=>((Sum.inr p.1:Key),p.2)).map (·.1)).Nodup:=by
   rw[List.map_map];have:=jG (ks:=ks) (us:=us) ();rw[this];exact List.Pairwise.map _ (λa b h z=>h<|Sum.inr.inj z)<|d0 N
  rw[iD (acc:=[])<|by simpa using F];have E:∀q∈W.pr,q.1≠p:=λq M z=>by rw[<- z,(I.pf q M).1] at j;cases j
  have lf:W1.Lf {W1 with pr:=W.pr,μ:=W1.μ++[p]}:=⟨λ_ _ h=>h,λ_ _ h=>dS h⟩
  let⟨D,P⟩:=n.heldS (b:=.dct<|zGp ks J) (h:=.dK<|[]++(ks.zip us).map λp=>((Sum.inr p.1:Key),p.2)) w E ⟨_,rfl,by rw[xC6];exact(nG l).lf lf⟩;exact q {W1 with pr:=W.pr,μ:=W1.μ++[p]} _ _ ⟨λb o z=>le1.f b o z,λa b z=>dS<|le1.m a b z,rfl⟩ D ⟨p,rfl,P⟩
 .cases e
theorem Bo:FE X B G Ex (.Dict [] [] pos)<|cP (.dct []) aN:=
 ⟨wkE qG λτ H Q l=>by
  let⟨W,O,S,n,A,h⟩:=l;let⟨z,S2,e,q⟩:=g.pok h;cases e;intro p w;have le:W.Le {W with μ:=W.μ++[p]}:=⟨λ_ _ h=>h,λ_ _ h=>dS h,rfl⟩
  let⟨_,j,y⟩:=n.push (o:=.dct []) (h:=.dK []) w ⟨[],rfl,rfl⟩;exact q _ _ _ le j ⟨p,rfl,y⟩,mP g<|mAN g⟩
end
def AE:bootBuiltins "isinstance"=some (.builtin "isinstance"):=by decide +kernel
noncomputable def tys:B0 String:=["NoneType","bool","int","str","tuple","list","dict"]
structure ClT(B:Bs):Prop where
 ty:∀{C c H a dx fs},B.cl C c->H a=some (.ins c dx fs)->zCg B.K H (.ref a) (.ref c)
structure zCw(B:Bs)(n:String):Prop where
 t:∀t∈tys,PySem.W.kitOne B.K (.type t) (.type n)=some (zFu t n)
 o:∀{C c},B.cl C c->PySem.W.kitOne B.K (.ref c) (.type n)=some (zFu "object" n)
section
variable{B:Bs}{W:Wd}{S S':So}{H:Hp}
theorem wA{u:V}{t:String}(T:ClT B)(rs:RS B W S H)(r:Rv B W v u)(h:tyU S v=some t):(t∈tys/\zCg B.K H u (.type t))\/(t="object"/\∃p C fs c,v=.ref p/\at? S p=some (.ins C fs)/\B.cl C c/\zCg B.K H u (.ref c)):=by
 cases v with
 |non=>cases h;rw[show u=_ from r];exact .inl ⟨∅,.non⟩
 |bl b=>cases h;rw[show u=_ from r];exact .inl ⟨∅,.bl b⟩
 |int i=>cases h;rw[show u=_ from r];exact .inl ⟨∅,.int i⟩
 |str x=>cases h;rw[show u=_ from r];exact .inl ⟨∅,.str x⟩
 |tup xs=>cases h;let⟨p,j,rfl,f,_⟩:=r;exact .inl ⟨∅,.tup<|rs.fz _ _ f⟩
 |lst xs=>cases h;let⟨p,j,rfl,f,_⟩:=r;exact .inl ⟨∅,.lst<|rs.fz _ _ f⟩
 |ref p=>
  unfold tyU at h;dsimp only at h;let⟨a,rfl,q⟩:=r;cases e:at? S p with
  |none=>rw[e] at h;cases h
  |some o=>
   let⟨y,g,d,m,l,_⟩:=rs.here e;rw[q] at d;cases d;rw[e] at h;cases o with
   |lst xs=>cases h;let⟨j,rfl,_⟩:=l;exact .inl ⟨∅,.lst m⟩
   |dct kvs=>cases h;let⟨j,rfl,_⟩:=l;exact .inl ⟨∅,.dK m⟩
   |ins C fs=>cases h;let⟨c,w,j,n,rfl,_⟩:=l;exact .inr ⟨rfl,p,C,fs,c,rfl,e,n,T.ty n m⟩
   |dead=>cases h
 |_=>cases h
set_option tactic.hygienic true
def kQ{z:U}{u:V}{T:String}{up:B0<|Str×Str}(rs:RS B W S H)(r:Rv B W v u)(h:pr up (.typ T) [v] S=.ok z S')(m:T="list"\/T="str"\/T="dict"):z=v/\S'=S/\tyV B.K T u H:=by
 delta pr at h;dsimp only at h;split at h
 .next t e=>
  split at h
  .next i=>
   cases h;refine⟨rfl,rfl,?_⟩;have i:t=T:=beq_iff_eq.mp i;subst i;rcases m with rfl|rfl|rfl
   .cases v with
    |lst xs=>let⟨p,b,rfl,f,_⟩:=r;exact .inl ⟨rfl,b,.of<|rs.fz _ _ f⟩
    |ref p=>
     unfold tyU at e;dsimp only at e;cases e2:at? S p with
     |none=>rw[e2] at e;cases e
     |some o=>
      rw[e2] at e;cases o <;> try (simp at e;done)
      let⟨q,b,n,d,_⟩:=dk rs r (xs:=_) (by unfold lsT;dsimp only;rw[e2]);subst n;exact .inl ⟨rfl,b,.of d⟩
    |_=>simp[tyU] at e
   .cases v with
    |str x=>rw[show u=_ from r];rfl
    |ref p=>
     unfold tyU at e;dsimp only at e;split at e <;> simp at e
    |_=>simp[tyU] at e
   .cases v with
    |ref p=>
     unfold tyU at e;dsimp only at e;cases e2:at? S p with
     |none=>rw[e2] at e;cases e
     |some o=>
      rw[e2] at e;cases o <;> try (simp at e;done)
      let⟨a,rfl,l⟩:=r;let⟨q,g,c,d,j,_⟩:=rs.here e2;rw[l] at c;cases c;let⟨b,rfl,_⟩:=j;exact .inr<|.inr<|.inl ⟨rfl,.inl ⟨b,d⟩⟩
    |_=>simp[tyU] at e
  .cases h
 .cases h
set_option tactic.hygienic false
end
section
variable{B:Bs}{up:B0<|Str×Str}{G:C8}{Ex:St->XK}{c a b d:C5}{as:C9}
variable{X:Cx}{e ea eb ec o:B4}{es:B0 B4}{pos p1 p2 p3 apos cpos:Pos}{x y f m C:Str}{id T:String}{pm:Pm}{i:Nat}(g:zB1 up G)
include g
set_option tactic.hygienic true
theorem nB(n:X.K=B.K)(ct:ClT B)(kt:zCw B T)(O:Gl X "isinstance")(N:X.mg "isinstance"=none)(F:Gl X y)(E:X.mg y=none)(A:bootBuiltins y=some (.type T))(D:y≠"__name__")(I:(y==("__debug__":Str))=false)(l:FE X B G Ex ea a)(j:zAb ea=true):FE X B G Ex (.Call (.Name "isinstance" p1) [ea,.Name y p2] [] pos)<|cP (.isT T)<|aC a aN:=
 ⟨wkE (qK yP O N AE (qM l.p (qM (ul F E A (v:=.ty T) rfl D I) jg rfl) j)<|by rw[xCj,j];rfl) λτ H Q h=>(LE.p1 g l.m h).imp l.m λu H1 J=>by
  let⟨W,S,v,z,S',w,L,e,q⟩:=J;delta pr at e;dsimp only at e;split at e
  .next t R=>
   cases e;rcases wA ct w L R with ⟨M,ty⟩|⟨rfl,p,C,fs,c,_,_,P,ty⟩
   .exact⟨u,T,_,_,rfl,by rw[n];exact ty,by rw[n];exact kt.t _ M,q.here w rfl⟩
   .exact⟨u,T,_,_,rfl,by rw[n];exact ty,by rw[n];exact kt.o P,q.here w rfl⟩
  ·(cases e),mP g<|mAC g l.m<|mAN g⟩
set_option tactic.hygienic false
omit g in
def PrM(B:Bs)(up:B0<|Str×Str)(p:Pm)(r:V->B0 V->Hp->VK->Prop):Prop:=∀{W:Wd}{S:So}{H:Hp}{v:U}{u:V}{vs:B8}{us:B0 V}{z:U}{S':So}{Q:VK},RS B W S H->Rv B W v u->Rvs B W vs us->pr up p (v::vs) S=.ok z S'->VL B W Q z S'->r u us H Q
theorem nC(hK:X.K=B.K)(R:PlainAttrs T)(j:Slot T name id)(I:typeOf (.builtin id)=pure (.type "method_descriptor"))(Z:MtR X id r)(Y:PrM B up pm r)(hT:T="list"\/T="str"\/T="dict")(J:FE X B G Ex o a)(L:FE X B G Ex e b)(h:zBj o=true)(A:zAb e=true)(M:(apos.endLine==cpos.line)=true):FE X B G Ex (.Call (.Attribute o name apos) [e] [] cpos)<|cBM T pm a<|aC b aN:=
 ⟨wkE (AW R j I Z J.p (fi g L (gw g) A).p h A M) λτ H Q ⟨W,O,S,N,P,hh⟩=>LE.go J.m N P hh λv S1 W1 u1 H1 le1 n l F h1=>by
  let⟨z,S2,e2,A⟩:=g.pok h1;let⟨rfl,rfl,ty⟩:=kQ n l e2 hT;have fa:FA X B G Ex [e]<|aC b aN:=fi g L (gw g) ‹_›;refine⟨by rw[hK];exact ty,LA.go fa.m n F (fa.m.m (XL.upf le1 _) (λ_ _ _ h=>h) A) λws S3 W3 us H3 M w E D _ h3=>?_⟩;let⟨z3,S4,e4,q⟩:=g.pok h3;exact Y E (l.mono w) D e4 (q.inc<|le1.trans w),mBM g J.m<|mAC g L.m<|mAN g⟩
theorem Ax(Y:X.K=B.K)(J:PlainAttrs T)(j:Slot T name id)(A:typeOf (.builtin id)=pure (.type "method_descriptor"))(M:MtR X id r)(L:PrM B up pm r)(R:T="list"\/T="str"\/T="dict")(D:FE X B G Ex o a)(h:zBj o=true)(N:(apos.endLine==cpos.line)=true):FE X B G Ex (.Call (.Attribute o name apos) [] [] cpos)<|cBM T pm a aN:=
 ⟨wkE (zx J j A M D.p h N) λτ H Q ⟨W,O,S,E,I,P⟩=>LE.go D.m E I P λv S1 W1 u1 H1 w n l F h1=>by
  let⟨z,S2,e2,Z⟩:=g.pok h1;let⟨rfl,rfl,ty⟩:=kQ n l e2 R;let⟨z3,S4,e4,q⟩:=g.pok Z;exact⟨by rw[Y];exact ty,L (vs:=[]) n l rfl e4<|q.inc w⟩,mBM g D.m<|mAN g⟩
theorem Aw(hK:X.K=B.K)(pa:PlainAttrs T)(l:Slot T name id)(L:typeOf (.builtin id)=pure (.type "method_descriptor"))(hm:MtR X id r)(hp:PrM B up pm r)(hT:T="list"\/T="str"\/T="dict")(M:FE X B G Ex o a)(he:FE X B G Ex e b){j:B4}{P:C5}(N:FE X B G Ex j P)(h:zBj o=true)(E:zAb e=true)(D:zAb j=true)(R:(apos.endLine==cpos.line)=true):FE X B G Ex (.Call (.Attribute o name apos) [e,j] [] cpos)<|cBM T pm a<|zAz b P:=by
 have fa:FA X B G Ex [e,j]<|zAz b P:=fi g he (fi g N (gw g) D) E;exact⟨wkE (vK pa l L hm M.p fa.p (eN h) (by rw[cf E,cf D];rfl) R (cf E)<|by rw[cf D];rfl) λτ H Q ⟨W,O,S,Y,Z,hh⟩=>LE.go M.m Y Z hh λv S1 W1 u1 H1 le1 w n J h1=>by
  let⟨z,S2,j,E⟩:=g.pok h1;let⟨rfl,rfl,ty⟩:=kQ w n j hT;refine⟨by rw[hK];exact ty,LA.go fa.m w J (fa.m.m (XL.upf le1 _) (λ_ _ _ h=>h) E) λws S3 W3 us H3 R A I F _ D=>?_⟩;let⟨z3,S4,e4,q⟩:=g.pok D;exact hp I (n.mono A) F e4 (q.inc<|le1.trans A),mBM g M.m fa.m⟩
set_option tactic.hygienic true
omit g in
theorem xC:PrM B up .dget zFi:=by
 intro W S H v u vs us z S' Q n I l h q;delta pr at h;dsimp only at h;split at h
 .next p k d Z=>
  cases Z;split at h
  .next kvs w Y R=>
   let⟨a,rfl,L⟩:=I;let⟨a',g1,j,M,J,_⟩:=n.here Y;rw[L] at j;cases j;let⟨ks,rfl,K⟩:=J;let⟨y,D,rfl,F,E⟩:=l.inv2;let⟨O,N⟩:=gz (k:=w) K;refine⟨a,y,D,zCl ks w,rfl,rfl,.inl ⟨ks,w,.inl M,gG R F,rfl⟩,?_⟩;split at h
   .next v' A=>
    cases h;let⟨u',P,r5⟩:=O _ A;rw[P];exact q.here n r5
   .next A=>
    cases h;rw[N A];exact q.here n E
  .cases h
 .cases h
set_option tactic.hygienic false
omit g in
theorem zO:PrM B up .app zDb:=by
 intro W S H v u A us z S' Q l E j h q;cases A with
 |nil=>cases v <;> cases h
 |cons w t=>cases t with
  |cons _ _=>cases v <;> cases h
  |nil=>
   cases v <;> try (cases h;done)
   let⟨xs,N,ys,M,J,L,F,I,n⟩:=jo l E h;let⟨O,K⟩:=zAs J;cases K;let⟨D,rfl,r2⟩:=j.inv1;exact⟨N,ys,D,L,rfl,I,by rw[n.length];lia,q.here (l.mut F M (by nofun) ⟨_,rfl,n.app<|.one r2⟩) rfl⟩
omit g in
theorem lJ{W:Wd}(j:Rvs B W xs ys)(h:xs.getLast?=some v):∃y,ys[ys.length-1]?=some y/\Rv B W v y:=by
 rw[List.getLast?_eq_getElem?] at h;rw[j.length];exact j.get h
omit g in
theorem kJ{W:Wd}(h:Rvs B W xs ys):Rvs B W xs.dropLast ys.dropLast:=by
 rw[List.dropLast_eq_take,List.dropLast_eq_take,h.length];exact h.take _
set_option tactic.hygienic true
omit g in
theorem zC:PrM B up .pop zIk:=by
 intro W S H v u D us z S' Q n F j h q;cases D with
 |cons w t=>cases v <;> cases h
 |nil=>
  cases v <;> try (cases h;done)
  let⟨xs,O,ys,N,l,M,J,K,A⟩:=jo n F h;split at l
  .next w I=>
   cases l;let⟨y,L,E⟩:=lJ A I;exact⟨O,ys,y,M,j,K,L,q.here (n.mut J N (by nofun) ⟨_,rfl,kJ A⟩) E⟩
  .cases l
omit g in
omit g in
theorem zN:PrM B up .ext zDa:=by
 intro W S H v u E us z S' Q n F l h q;cases E with
 |nil=>cases v <;> cases h
 |cons w t=>cases t with
  |cons _ _=>cases v <;> cases h
  |nil=>
   cases v <;> try (cases h;done)
   let⟨xs,Y,ys,P,A,O,I,K,D⟩:=jo n F h;split at A
   .next Z M=>
    let⟨J,N⟩:=zAs A;cases N;let⟨u2,rfl,r2⟩:=l.inv1;let⟨R,ws,rfl,L,j⟩:=dk n r2 M;exact⟨Y,R,ys,ws,O,rfl,K,L,by rw[D.length,j.length];exact J,q.here (n.mut I P (by nofun) ⟨_,rfl,D.app j⟩) rfl⟩
   .cases A
set_option tactic.hygienic false
omit g in
theorem qN:PrM B up .starts zC9:=by
 intro W S H v u l us z S' Q A w j h q;cases l with
 |nil=>cases v <;> cases h
 |cons b t=>cases t with
  |cons _ _=>cases v <;> cases b <;> cases h
  |nil=>
   cases v <;> try (cases h;done)
   cases b <;> try (cases h;done)
   cases h;let⟨n,rfl,r2⟩:=j.inv1;exact⟨_,_,w,by rw[show n=_ from r2],q.here A rfl⟩
omit g in
theorem xZ{W:Wd}{S:So}{H:Hp}(rs:RS B W S H){u:V}(r:Rv B W v u)(h:lsJ S v=some xs):∃l ys,u=.ref l/\(SqL B.K H l ys\/SqT B.K H l ys)/\Rvs B W xs ys:=by
 cases v with
 |tup _=>cases h;let⟨p,ys,rfl,f,j⟩:=r;exact⟨p,ys,rfl,.inr<|.of<|rs.fz _ _ f,j⟩
 |kt _=>cases h;let⟨p,ys,rfl,f,j⟩:=r;exact⟨p,ys,rfl,.inr<|f H,j⟩
 |_=>let⟨l,ys,rfl,n,j⟩:=dk rs r h;exact⟨l,ys,rfl,.inl<|.of n,j⟩
set_option tactic.hygienic true
omit g in
theorem xz:PrM B up .join<|zDv B.K:=by
 intro W S H v u w us z S' Q n A j h q;cases w with
 |nil=>cases h
 |cons b t=>cases t with
  |cons _ _=>cases h
  |nil=>
   delta pr at h;dsimp only at h;split at h
   .next s xs es I=>
    split at h
    .next ws J=>
     split at h
     .next E=>
      cases h;let⟨L,rfl,r2⟩:=j.inv1;let⟨l,ys,rfl,F,D⟩:=xZ n r2 I;have e:=iW J D;subst e;have:=wK es;subst this;exact⟨s,l,ws,A,rfl,F,xBe E,q.here n rfl⟩
     .cases h
    .cases h
   .cases h
theorem wl(hK:X.K=B.K)(h:FE X B G Ex e c)(Y:∀j,isTrue e X.env j=(do let v <- j;standAt e.pos;holding [v] (truthy v))):FT X B G Ex e<|tB<|cP .tru<|aC c aN:=by
 have I:=mP g (p:=.tru)<|mAC g h.m<|mAN g;refine⟨wkT (pZ h.p Y) λτ H Q E=>?_,mB g I⟩;have w:LE B G Ex (cP .tru<|aC c aN) τ H λx H'=>∃k,x=.bl k/\Q k H':=by
  let⟨W,O,S,n,P,E⟩:=E;refine LE.go I n P E λv S' W' u H' le D L N w=>?_;cases v <;> first|(exact(g.no w).elim)|exact⟨_,L,w W' H' le D⟩
 refine(LE.p1 g h.m w).imp h.m λu H1 J=>?_;let⟨W,S,v,z,S',n,F,e,q⟩:=J;change obB (zEy S v) id S=_ at e;unfold obB at e;split at e
 .next b eb=>
  cases e;let⟨k,ek,R⟩:=q.here n (u:=.bl b) rfl;cases ek;refine⟨b,?_,R⟩;have A:∀xs,sqU S v=some xs->b=!xs.isEmpty->zHx X.K u H1 b:=λxs ex Z=>by
   let⟨p,ys,rfl,sq,M⟩:=fU n F ex;have l:b=!ys.isEmpty:=by rw[Z];cases xs <;> cases ys <;> first|rfl|(have:=M.length;simp at this)
   rw[hK];rcases sq with sq|sq
   .exact .inl ⟨ys,sq,l⟩
   .exact .inr<|.inl ⟨ys,sq,l⟩
  unfold zEy at eb;split at eb
  .cases eb;rw[show u=_ from F];rfl
  .next p=>
   split at eb
   .next xs e2=>exact A xs (by show lsU S (.ref p)=_;unfold lsU;dsimp only;rw[e2]) (xB3 eb).symm
   .cases eb
  .cases eb
 .cases e
set_option tactic.hygienic false
omit g in
structure KdF(wo:World)(B:Bs):Prop where
 d:∀{p kvs no},B.kd p kvs no->KD wo B.K p
 y:∀{p kvs no x v},B.kd p kvs no->zAt x kvs=some v->∃u val,PySem.W.nsIn B.K p x=some (some val)/\zAj u val/\∀W,Rv B W v u
 n:∀{p kvs no x},B.kd p kvs no->x∈no->PySem.W.nsIn B.K p x=some none
theorem yF{no:B7}{p:B5}(J:X.K=B.K)(F:KdF X.w B)(I:B.kd p kvs no)(hg:Gl X x)(hm:X.mg x=some (.ref p))(E:(x==("__debug__":Str))=false)(D:FE X B G Ex e b)(M:zAb e=true)(hl:(apos.endLine==cpos.line)=true):FE X B G Ex (.Call (.Attribute (.Name x p1) "get" apos) [e] [] cpos)<|cP .get1<|aC (cC<|.kd kvs no)<|aC b aN:=
 ⟨wkE (uh (by rw[J];exact F.d I) (jf hg hm (v:=.ref p) rfl E) D.p ⟨eN rfl,by rw[cf M];rfl,hl,by rw[cf M];rfl⟩) λτ H Q ⟨W,O,S,N,R,hh⟩=>LE.go D.m N R hh λv S1 W1 u1 H1 A l j P h1=>by
  let⟨z,S2,h,q⟩:=g.pok h1;cases v <;> try (cases h;done)
  delta pr at h;dsimp only at h;split at h
  .next v' ev=>
   cases h;let⟨u,val,e3,r3,r4⟩:=F.y I ev;exact⟨_,u,some val,j,by rw[J];exact e3,λ_ z=>by cases z;exact r3,nofun,(q.inc A).here l<|r4 _⟩
  .split at h
   .next Z=>
    cases h;let⟨y,Y,L⟩:=xCy.mp Z;have L:=xBe L;subst L;exact⟨_,.non,none,j,by rw[J];exact F.n I Y,nofun,λ_=>rfl,(q.inc A).here l rfl⟩
   ·(cases h),mP g<|mAC g (mC g)<|mAC g D.m<|mAN g⟩
theorem yE{no:B7}{p:B5}(Y:X.K=B.K)(F:KdF X.w B)(R:B.kd p kvs no)(hg:Gl X x)(hm:X.mg x=some (.ref p))(P:(x==("__debug__":Str))=false)(N:FE X B G Ex e b)(E:FE X B G Ex ec c)(I:zAb e=true)(h3:zAb ec=true)(hl:(apos.endLine==cpos.line)=true):FE X B G Ex (.Call (.Attribute (.Name x p1) "get" apos) [e,ec] [] cpos)<|cP .get2<|aC (cC<|.kd kvs no)<|zAz b c:=
 ⟨wkE (qE (by rw[Y];exact F.d R) (jf hg hm (v:=.ref p) rfl P) N.p E.p ⟨eN rfl,by rw[cf I,cf h3];rfl,hl,by rw[cf I,cf h3];rfl⟩) λτ H Q ⟨W,O,S,rs,rg,hh⟩=>LE.go N.m rs rg hh λv S1 W1 u1 H1 le1 L l M h1 =>
  LE.go E.m L M (E.m.m (XL.upf le1 _) (λ_ _ h=>h) h1) λw S2 W2 u2 H2 D A J _ I=>by
   let⟨z,S3,j,q⟩:=g.pok I;cases v <;> try (cases j;done)
   delta pr at j;dsimp only at j;split at j
   .next v' ev=>
    cases j;let⟨u,val,e3,r3,r4⟩:=F.y R ev;exact⟨_,u,some val,l,by rw[Y];exact e3,λ_ z=>by cases z;exact r3,nofun,(q.inc<|le1.trans D).here A<|r4 _⟩
   .split at j
    .next hn=>
     cases j;let⟨y,hy,Z⟩:=xCy.mp hn;have Z:=xBe Z;subst Z;exact⟨_,u2,none,l,by rw[Y];exact F.n R hy,nofun,λ_=>rfl,(q.inc<|le1.trans D).here A J⟩
    ·(cases j),mP g<|mAC g (mC g)<|mAC g N.m<|mAC g E.m<|mAN g⟩
end
end Fx
namespace L2
open PySem PySem.Spec PyProof.Rows
variable{w:World}{elts:B0 B4}{k:Nat}{pos:Pos}
def zD0{prog:Program}{A:Around}(a:A.handled=none)(it:B5)(x:Str)(t:Tok):Draws prog w A it [it] x.cps.size (λi v=>∃c u,x.cps[i]?=some c/\v=.str ⟨#[c]⟩ u) λi h=>h.IsStrIter it (strIterType x) x t i:=by
 unfold strIterType;split
 .exact Draws.strAscii a it x t
 .exact Draws.strWide a it x t
noncomputable def zH3(z:Str):It:=
 ⟨λi _=>i<z.cps.size,λi H x H'=>∃(p:B5) (c:Nat),x=.ref p/\H p=none/\H'=upd H p (.tup [.int i,.str ⟨#[c]⟩])/\z.cps[i]?=some c,λi _=>i=z.cps.size⟩
def jM{P:Program}{K:xFr}(z:Str)(t:Tok)(it e:B5)(l:e≠it):zEl P w K (.Tuple elts k pos) (zH3 z) [e,it] e (λi h=>(∃a,IsEnum h e it (i:Nat) a)/\h.IsStrIter it (strIterType z) z t i) where
 mem:=by simp
 obj:=λi h st b g=>by
  let⟨⟨a,q1⟩,o,q2,c,d⟩:=st;simp only[xAv,xBv,or_false] at g;rcases g with rfl|rfl
  .exact⟨_,q1,λv z=>by cases z⟩
  .exact⟨o,q2,λv z=>by rw[d] at z;cases z⟩
 keep:=λi h h' st k=>⟨let ⟨a,q⟩:=st.1;⟨a,k e ⋯ _ q⟩,(let ⟨o,n,r⟩:=st.2;⟨o,k it ⋯ o n,r⟩)⟩
 item:=by
  intro X x F T S i Z s O H E I M st L;subst x F T;let⟨⟨a,m⟩,hit⟩:=st;have D:=zD0 (prog:=X.prog) (w:=X.w) (A:=X.A.in1) (by simpa using I.ok.hd S) it z t;have p:i<z.cps.size:=L;refine wpAny_pyNext_enum_itemD D m hit p l (by simp[l]) λx1 h1 tk x n st1 hT hsz hk=>?_;let⟨c,u,R,rfl⟩:=x;have N:e<s.heap.objs.size:=xA1 m;have J:it<s.heap.objs.size:=by let⟨_,z,_⟩:=hit;exact xA1 z
  have h0:H s.heap.objs.size=none:=I.hok.fresh<|xAg _;have I1:Inv X Z O (upd H s.heap.objs.size<|.tup [.int i,.str ⟨#[c]⟩]) {s with heap:=s.heap.push {cls:=.type "tuple",data:=.seq #[.int i tk,.str ⟨#[c]⟩ u]},toks:=tk+1}:=by
   refine I.laid (λb o e=>xAf _ e) (xAg _) ⟨by simp[sizeLine_eq],[.int i tk,.str ⟨#[c]⟩ u],.cons ⟨_,rfl⟩<|.cons ⟨_,rfl⟩ .nil,_,xAl _ rfl,rfl,_,rfl⟩
  refine⟨_,rfl,wpAny_letOwnedTupleGo_enum (s:={s with heap:=h1,toks:=tk+1}) n λY Q G=>?_⟩;have j:Heap.SameBut e h1 Y:=G;have B:∀b∈[e,it],zC4 X Z (upd H s.heap.objs.size<|.tup [.int i,.str ⟨#[c]⟩]) b:=λb g=>by
   let⟨W,f⟩:=M b g;refine⟨?_,f⟩;rw[cb]
   .exact W
   .simp only[xAv,xBv,or_false] at g;rcases g with rfl|rfl
    .exact xA0 N
    .exact xA0 J
  have I2:=Inv.turnedL (t':=tk+1) (h':=Y) (fp:=[e,it]) I1 (λb o g C=>?_) B
  .refine⟨.ref s.heap.objs.size,_,I2,rfl,⟨_,c,rfl,h0,rfl,R⟩,⟨⟨_,by simpa using Q⟩,(let ⟨o,n,r⟩:=st1;⟨o,(j.2 it l.symm).trans n,r⟩)⟩,λb g=>(B b g).1⟩
  .simp only[xAv,xBv,or_false,not_or] at g;rw[j.2 b g.1];by_cases z:b=s.heap.objs.size
   .subst z;rw[hT];rw[<- C];exact(xAl _ rfl).symm
   .erw[hk b o g.1 g.2];exact(Heap.get?_push_cases C).elim (λy=>absurd y.1 z) id
 done:=by
  intro X x F T S i Z s O H E I M st L;subst x F T;let⟨W,f1,f2,f3,f4,f5⟩:=M it ⋯;let⟨⟨a,m⟩,hit⟩:=st;have D:=zD0 (prog:=X.prog) (w:=X.w) (A:=X.A.in1) (by simpa using I.ok.hd S) it z t;have e1:i=z.cps.size:=L;exact wpAny_pyNext_enum_endD D m (by rw[<- e1];exact hit) λh' C=>⟨rfl,I.turned (t':=s.toks) (λb o g e=>C b o g e) W f1 f3 f4 f5⟩
 self:=λ_ _ _ _ _ st h=>let ⟨⟨a,m⟩,_⟩:=st;wpAny_pyIter_enum m h
def zEf(vs:C0)(H:Hp)(R:It->Hp->Prop):Prop:=∃z:Str,vs=[.str z]/\R (zH3 z) H
def zEi(b:TA):TI:=λO H R=>b O H λa H1=>zEf a H1 R
section
variable{X:Cx}
theorem oj{a:B4}{i:TA}{p pt:Pos}(y:Gl X "enumerate")(x:X.mg "enumerate"=none)(A:PA X [a] i)(v:starEach [a] X.env=[(false,eval a X.env)]:=by rfl):PI X (.Tuple elts k pt) (.Call (.Name "enumerate" p) [a] [] pos)<|zEi i:=by
 intro Z s O H R I h;refine Call_ (fD I y x oZ<|PyProof.Rows.callWith_type1 (thn (A pos Z s O H _ I h) λus c ⟨C,H1,I1,n,o⟩=>?_) v rfl);let⟨z,e,q⟩:=o;subst e;cases n with
 |cons r m=>
  cases m;let⟨t,rfl⟩:=r;erw[<-call_enumerate_str λB j g _ hk=>?_,wpAny_pyIter_enum j];have I2:Inv X Z O H1 {c with heap:=B}:=I1.kept (t':=c.toks) hk;refine⟨c.heap.objs.size+1,[c.heap.objs.size+1,c.heap.objs.size],_,_,H1,rfl,I2,jM z t _ _<|Nat.succ_ne_self _,⟨⟨_,j⟩,g⟩,λb l=>?_,q⟩;have d:c.heap.objs.size<=b:=by
   simp only[xAv,xBv,or_false] at l;rcases l with rfl|rfl
   .exact Nat.le_succ _
   .exact xAg _
  exact I1.fpOk d<|I1.hok.fresh d
end
end L2
namespace L2
open PySem PySem.Spec PyProof.Rows PySem.Builtin PySem.Builtin.ObjectAttr
variable{e C T:B5}{dx:B1 B5}{H':Hp}{X:Cx}{Ex:St->XK}{body:B0 Stmt}
structure TBf(fl:B2)(T:B5)(X:Cx)(Z:B0 (B5×Obj))(h:Heap)(H:Hp):Prop where
 ent:∃oT ts,h.get? T=some oT/\oT.data=.fields ts/\ts[3]?=some fl
 new:X.s₀.heap.objs.size<=T
 pn:∀p∈X.pn++Z,p.1≠T
 un:H T=none
section
variable{X:Cx}{Z:B0<|B5×Obj}{O:St}{H:Hp}{s s1:B3}{E':B2->B3->Prop}{Q:Unit->B3->Prop}
def zG7(I:Inv X Z O H s)(c:X.stack=X.env::X.outer)(q:X.env.frame=some X.env.locals)(i:H e=some (XO C dx e))(k:∀d T,Inv X Z O (upd H e<|XF C dx e T) d->T≠e->TBf (rawInt X.env.locals) T X Z d.heap (del H e)->Q Unit.unit d) :
  wpAny (model X.prog X.w) X.A (noteFrame (.ref e) X.env) Q E' s:=by
 let⟨⟨t,ge⟩,_,_⟩:=(show zAe X.prog X.w H s.heap e (XO C dx e) from I.hok e _ i)
 have g:X.A.frames=some (X.env::X.outer):=c▸I.ok.frames;have n:s.heap.FunFrames X.base<|X.env::X.outer:=c▸I.stack;refine kb g n q ge rfl rfl λj T a=>?_;have Te:T≠e:=Nat.ne_of_gt<|xBc (xA1 ge) a.new;have h:∀b∈frs (X.env::X.outer),H b=none:=λb r=>I.stkFree b (by rw[c];exact r);let⟨u,ok⟩:=fP (o:=XF C dx e T) I.hok h (λb z=>absurd z ⋯) i a<|XF.ok (t:=t) a.exc;have l:Un (frs X.stack) [] H (upd H e<|XF C dx e T) s.heap j:=by rw[c];exact u
 refine k {s with heap:=j} T (I.call (g':=s.gens) (t':=s.toks) (d':=s.drawn) (ch:=[]) l ok I.bare λb z=>absurd z ⋯) Te ⟨a.ent,xCk I.sz a.new,λp m z=>absurd (xA1 (I.pin p m).1) (by rw[z];exact Nat.not_lt.mpr a.new),?_⟩;rw[gh Te];exact I.hok.fresh a.new
def zHg{Ex:XK}{D:B2}(I:Inv X Z O H s)(j:X.stack=X.env::X.outer)(S:X.env.frame=some X.env.locals)(F:CXo X.prog X.w X.stack H s Ex D s1)(k:∀n (e C T:B5) (dx:B1 B5) (H':Hp),D=.ref e->H' e=none->Inv X Z O (upd H' e<|XF C dx e T) n->T≠e->TBf (rawInt X.env.locals) T X Z n.heap H'->Ex (.ref C) dx H'->Q Unit.unit n) :
  wpAny (model X.prog X.w) X.A (noteFrame D X.env) Q E' s1:=by
 let⟨e,C,T0,dx,H',rfl,P,Te0,tb,N,g,un,c,q⟩:=F;let⟨a,l,m,i,r⟩:=s1;obtain rfl:r=s.os:=N;have I1:Inv X Z O (upd H' e<|XF C dx e T0) {s with heap:=a,gens:=l,drawn:=m,toks:=i}:=I.call (ch:=[]) un c g (λb z=>absurd z ⋯);have h:upd H' e (XF C dx e T0) e=some (XF C dx e T0):=ce;let⟨⟨t,ge⟩,_,_⟩:=(show zAe X.prog X.w (upd H' e<|XF C dx e T0) a e (XF C dx e T0) from c e _ h)
 let⟨W,ts,J,G,E⟩:=tb.ent;have x:X.A.frames=some (X.env::X.outer):=j▸I.ok.frames;have R:a.FunFrames X.base<|X.env::X.outer:=j▸I1.stack;refine ka (s:={s with heap:=a,gens:=l,drawn:=m,toks:=i}) x R S ge rfl rfl J G E Te0 λy T d Y=>?_;have Te:T≠e:=Nat.ne_of_gt<|xBc (xA1 ge) d.new;have B:∀b∈frs (X.env::X.outer),upd H' e (XF C dx e T0) b=none:=λb g=>I1.stkFree b (by rw[j];exact g);have v:∀b∈[T0],upd H' e (XF C dx e T0) b=none:=λb g=>by
  have:b=T0:=by simpa using g
  rw[this,cb Te0];exact tb.un
 let⟨u,ok⟩:=fP (o:=XF C dx e T) c B v h d<|XF.ok (t:=t) d.exc;rw[lX] at u ok;have L:Un (frs X.stack) [T0] (upd H' e<|XF C dx e T0) (upd H' e<|XF C dx e T) a y:=by rw[j];exact u
 have K:Un (frs X.stack) [] H (upd H' e<|XF C dx e T) s.heap y:=(un.wide.trans L).strip tb.old;refine k {s with heap:=y,gens:=l,drawn:=m,toks:=i} e C T dx H' rfl P (I.call (g':=l) (t':=i) (d':=m) (ch:=[]) K ok g λb z=>absurd z ⋯) Te ⟨d.ent,xCk I1.sz d.new,λp M z=>absurd (xA1 (I1.pin p M).1) (by rw[z];exact Nat.not_lt.mpr d.new),?_⟩ q;have:=c.fresh d.new;rw[cb Te] at this;exact this
def zCs(I:Inv X Z O (upd H' e<|XF C dx e T) s)(a:X.env.frame=some X.env.locals)(tb:TBf (rawInt X.env.locals) T X Z s.heap H')(k:Q Unit.unit s):wpAny (model X.prog X.w) X.A (noteFrame (.ref e) X.env) Q E' s:=by
 let⟨⟨t,ge⟩,_,_⟩:=(show zAe X.prog X.w (upd H' e<|XF C dx e T) s.heap e (XF C dx e T) from I.hok e _ ce)
 let⟨g,ts,d,c,b⟩:=tb.ent;unfold noteFrame;rw[a];refine xAd<|xDa ge rfl (x:=.ref T) rfl ?_;rw[xCg<|show(Value.ref T != Value.none)=true by simp];refine xAd<|xDa d c b ?_;rw[xCg<|show(rawInt X.env.locals==rawInt X.env.locals)=true by simp];exact xAe k
def zDe{fr:B1 B5}{fl:B2}(I:Inv X Z O (upd H' e<|XF C dx e T) s)(Te:T≠e)(tb:TBf fl T X Z s.heap H')(k:∀i,Inv X Z O (upd H' e<|XF C dx e T) i->TBf (fr.elim .none λf=>rawInt f) T X Z i.heap H'->Q Unit.unit i):wpAny (model X.prog X.w) X.A (setFlight (.ref e) fr) Q E' s:=by
 let⟨⟨t,ge⟩,_,_⟩:=(show zAe X.prog X.w (upd H' e<|XF C dx e T) s.heap e (XF C dx e T) from I.hok e _ ce)
 let⟨B,ts,h,g,y⟩:=tb.ent;have n:3<ts.size:=(xB7.mp y).1;unfold setFlight;refine xAd<|xDa ge rfl (x:=.ref T) rfl ?_;rw[xCg<|show(Value.ref T != Value.none)=true by simp];erw[wpAny_setField h g n];have j:upd H' e (XF C dx e T) T=none:=by rw[cb Te];exact tb.un
 have l:(s.heap.update T (Obj.mapFields (·.setIfInBounds 3 (fr.elim Value.none λf=>rawInt f)))).get? T=some _:=xA7 _ h<|Obj.isFreed_of_fields<|Obj.data_mapFields g _;refine k _ (Inv.turned (t':=s.toks) (it:=T) I (λb o r q=>(xA6 _ _<|Ne.symm r).trans q) j ?_ (.inr tb.new) ?_ tb.pn) ⟨⟨_,_,l,Obj.data_mapFields g _,by simp[n]⟩,tb.new,tb.pn,tb.un⟩
 .intro z;let⟨m,⟨p,D,E,a,d,_⟩,_⟩:=I.loc;rw[<- z,h] at a;cases a;rw[g] at d;cases d
 .intro x c e z;let⟨v,p,a,d⟩:=I.cell x c e;rw[z,h] at a;cases a;rw[g] at d;cases d
end
structure Cat(X:Cx)(Ex:St->XK):Prop where
 hs:X.stack=X.env::X.outer
 hf:X.env.frame=some X.env.locals
 own:∀{Z:B0 (B5×Obj)}{O:St}{e C T:B5}{dx:B1 B5}{H':Hp}{s':B3},Inv X Z O (upd H' e (XF C dx e T)) s'->H' e=none->T≠e->TBf (rawInt X.env.locals) T X Z s'.heap H'->Ex O (.ref C) dx H'->X.xe (.ref e) s'
 rises:∀{Z:B0 (B5×Obj)}{O:St}{H:Hp}{s:B3}{e C:B5}{dx:B1 B5},Inv X Z O H s->H e=some (XO C dx e)->Ex O (.ref C) dx (del H e)->X.xe (.ref e) s
 pass:zB0 (CXo X.prog X.w) X Ex
def zAy.cat(c:zAy X Ex):Cat X Ex where
 hs:=c.hs
 hf:=c.hf
 own:=λ{Z O e C T dx H' j} I h Te tb q=>by
  let⟨Lk,b,g⟩:=c.ex;refine b _ _ λE'=>zCs I c.hf tb<|zDe I Te tb λd I2 a=>g Z O e C T dx H' d I2 h Te ⟨a.ent,Heap.get?_none_of_le a.new,a.un⟩ q
 rises:=λI i q=>c.rises I i q
 pass:=c.pass
noncomputable abbrev Cx.lp(X:Cx):Cx:=X.wish<|notedBy (model X.prog X.w) X.A X.env<|cameBackBy (model X.prog X.w) X.A X.env X.xe
def came(c:Cat X Ex){Z:B0<|B5×Obj}{O:St}{a:B3}(I:Inv X Z O (upd H' e<|XF C dx e T) a)(d:H' e=none)(Te:T≠e)(tb:TBf (rawInt X.env.locals) T X Z a.heap H')(q:Ex O (.ref C) dx H'):cameBackBy (model X.prog X.w) X.A X.env X.xe (.ref e) a:=by
 let⟨⟨t,ge⟩,_,_⟩:=(show zAe X.prog X.w (upd H' e<|XF C dx e T) a.heap e (XF C dx e T) from I.hok e _ ce)
 unfold cameBackBy;refine xAd<|xDa ge rfl (x:=.ref T) rfl ?_;rw[xCf<|show ¬ (Value.ref T==Value.none)=true by simp];rw[c.hf];exact zDe (fr:=some X.env.locals) I Te tb λg I2 b=>c.own I2 d Te b q
theorem Cat.lp{X:Cx}{Ex:St->XK}(c:Cat X Ex):Cat X.lp Ex where
 hs:=c.hs
 hf:=c.hf
 own:=λI a Te tb q=>zCs (X:=X) I.unwish c.hf ⟨tb.ent,tb.new,tb.pn,tb.un⟩<|came c I.unwish a Te ⟨tb.ent,tb.new,tb.pn,tb.un⟩ q
 rises:=λ{Z O H s e C dx} I d q=>zG7 (X:=X) I.unwish c.hs c.hf d λb T I2 Te tb=>came c (H':=del H e) (by rw[lY];exact I2) ia Te tb q
 pass:=λZ O H s i h I F=>zHg (X:=X) I.unwish c.hs c.hf F λb e C T dx H' g a I2 Te tb q=>by subst g;exact came c I2 a Te tb q
section
variable{X:Cx}{pos:Pos}
theorem nZ{c:B4}{l:TT}{tb:TS}(w:PT X.lp c l)(x:PSs X.lp body tb):PS X (.While c body [] pos)<|zEz l tb:=by
 intro Z s O H D I h;let⟨W,⟨r,o⟩,turn⟩:=h;refine wpAny_While<|codeAny_whileLoop (λn q=>∃O' H',Inv X Z O' H' q/\W n O' H') ?_ r ⟨O,H,I,o⟩;rintro n s1 ⟨σ1,H1,I1,w1⟩
 refine thn (w Z s1 σ1 H1 _ (I1.wish _)<|turn n σ1 H1 w1) λb p ⟨H2,I2,d⟩=>?_;cases b with
 |true=>
  let⟨N,m,d⟩:=d;rw[xCg rfl];refine thn (x Z p σ1 H2 _ I2 d) λf y a=>?_;cases f with
  |next=>
   let⟨σ3,H3,I3,i⟩:=a;let⟨j,k,g⟩:=m σ3 H3 i;exact⟨j,k,σ3,H3,I3.unwish,g⟩
  |cont=>
   let⟨σ3,H3,I3,i⟩:=a;let⟨j,k,g⟩:=m σ3 H3 i;exact⟨j,k,σ3,H3,I3.unwish,g⟩
  |brk=>exact SP.unwish (f:=.next) a
  |ret v=>exact SP.unwish (f:=.ret v) a
 |false=>
  rw[xCf xAy];exact wpAny_execs_nil ⟨σ1,H2,I2.unwish,d⟩
def tP{B c:B4}{wi:TI}{g:TG}{tb:TS}(L:X.calm=true)(hi:PI X B c wi)(hg:PG X.lp B g)(j:PSs X.lp body tb)(hs:∀x,foldedSetIterable c X.env x=pure x):PS X (.For B c body [] pos)<|zJy wi g tb:=by
 intro Z s O H D I h;refine wpAny_For (thn (hi Z s O H _ I h) λv s1 h1=>thn h1 λitv s2 h2=>?_) hs;let⟨it,y,tn,m0J,H2,e,I2,T,E,M,W,⟨m0,S⟩,turn⟩:=h2;subst e;have a:∀{H':Hp},(∀b∈y,H' b=none)->∀b∈y,zC4 X Z H' b:=λhn b j=>⟨hn b j,(M b j).2⟩
 refine codeAny_forLoop_any (λn K=>∃i O' H',Inv X Z O' H' K/\tn i K.heap/\(∀b∈y,H' b=none)/\W i n O' H') ?_ m0 ⟨0,O,H2,I2,E,λb j=>(M b j).1,S⟩;rintro n s3 ⟨i,σ3,H3,I3,st3,fr3,w3⟩
 rcases turn i n σ3 H3 w3 with ⟨q,qn⟩|⟨go,N,hN,step⟩
 .refine thn (T.done X rfl rfl rfl L i Z s3 σ3 H3 _ I3 (a fr3) st3 q) λr s4 ⟨hr,I4⟩=>?_;subst hr;exact wpAny_execs_nil ⟨σ3,H3,I4,qn⟩
 .refine thn (T.item X rfl rfl rfl L i Z s3 σ3 H3 _ I3 (a fr3) st3 go) λr s4 ⟨u,hr,h4⟩=>?_;subst hr;refine thn h4 λ_ J A=>?_;let⟨x,H5,I5,r5,P,p,G⟩:=A;have I5':=I5.pinned (a G)<|T.obj _ _ p;refine thn (hg _ J σ3 H5 x u _ (I5'.wish _) r5<|step x H5 P) λ_ Y A=>?_;let⟨σ6,H6,I6,q6⟩:=A;refine thn (j _ Y σ6 H6 _ I6 q6) λf F l=>?_;have k:∀{σ7:St}{H7:Hp},Inv X (Z++zCf y J.heap) σ7 H7 F->N σ7 H7->∃m,m<n/\∃i O' H',Inv X Z O' H' F/\tn i F.heap/\(∀b∈y,H' b=none)/\W i m O' H':=λ{σ7 H7} I7 w=>by
   let⟨m',hm,R⟩:=hN σ7 H7 w;refine⟨m',hm,i+1,σ7,H7,I7.unpinned,T.keep _ _ _ p λb j o e=>(I7.pin (b,o)<|xBt _<|xBt _<|eP j e).1,λb j=>?_,R⟩;let⟨o,e,d⟩:=T.obj _ _ p b j;exact(I7.pin (b,o)<|xBt _<|xBt _<|eP j e).2.1
  cases f with
  |next=>let⟨σ7,H7,I7,w⟩:=l;exact k I7.unwish w
  |cont=>let⟨σ7,H7,I7,w⟩:=l;exact k I7.unwish w
  |brk=>let⟨σ7,H7,I7,l⟩:=l;exact⟨σ7,H7,I7.unwish.unpinned,l⟩
  |ret v=>let⟨Q,σ7,H7,I7,r7,l⟩:=l;exact⟨Q,σ7,H7,I7.unwish.unpinned,r7,l⟩
end
end L2
namespace Fx
open PySem PySem.Spec L2
open PyProof.Rows hiding St
variable{ys:B0 V}{xs:B8}{k:Nat}{is cs:B9}{S:So}{H:Hp}{O:Sg}{τ:St}{D:zDi}{o:B4}
structure Wku(B:Bs)(m0J:It)(W:Wd)(vs:B8):Prop where
 go:∀{i:Nat}{H:Hp}{W':Wd}{S:So},W.Lf W'->RS B W' S H->i<vs.length->m0J.go i H
 yld:∀{i:Nat}{H H':Hp}{x:V}{v:U}{W':Wd}{S:So},W.Lf W'->RS B W' S H->vs[i]?=some v->m0J.yld i H x H'->∃W2,W'.Le W2/\RS B W2 S H'/\Rv B W2 v x
 stop:∀{H:Hp}{W':Wd}{S:So},W.Lf W'->RS B W' S H->m0J.stop vs.length H
def IL(B:Bs)(W:Wd)(R:It->Hp->Prop):C6:=λv S=>∀W' a H b,W.Le W'->RS B W' S H->v=.tup b->Wku B a W' b->R a H
def LI(B:Bs)(G:C8)(Ex:St->XK)(c:C5):TI:=λτ H R=>∃W O S,RS B W S H/\Rg B W O τ/\c G O S (XL B W<|Ex τ) (IL B W R)
structure FI(X:Cx)(B:Bs)(G:C8)(Ex:St->XK)(tg it:B4)(c:C5):Prop where
 p:PI X tg it (LI B G Ex c)
 m:zA4 G c
def wkI{X:Cx}{a e:B4}{t t':TI}(h:PI X a e t)(w:∀O H R,t' O H R->t O H R):PI X a e t':=λZ s O H R I q=>h Z s O H R I<|w _ _ _ q
section
variable{B:Bs}{W:Wd}{vs:B8}
def zGs{a:B5}(h:SqL B.K W.F a ys)(r:Rvs B W vs ys):Wku B (Itl B.K a) W vs where
 go:=λ{i H W' S} le b g=>⟨ys,ys[i]'(by rw[r.length];exact g),fV (λp o z=>b.fz p o<|le.f p o z) h,⋯⟩
 yld:=λ{i H H' x v W' S} le b d ⟨e,y⟩=>by
  subst e;let⟨u,j,c⟩:=r.get d;have:=y ys<|fV (λp o z=>b.fz p o<|le.f p o z) h;rw[j] at this;cases this;exact⟨W',.refl,b,c.lf le⟩
 stop:=λle b=>⟨ys,fV (λp o z=>b.fz p o<|le.f p o z) h,by rw[r.length];exact xAg _⟩
def zH5{a:B5}(h:∀H:Hp,(∀p o,W.F p=some o->H p=some o)->SqT B.K H a ys)(r:Rvs B W vs ys):Wku B (Itt B.K a) W vs where
 go:=λ{i H W' S} le b g=>⟨ys,ys[i]'(by rw[r.length];exact g),h _ λp o z=>b.fz p o<|le.f p o z,⋯⟩
 yld:=λ{i H H' x v W' S} le b d ⟨e,y⟩=>by
  subst e;let⟨u,j,c⟩:=r.get d;have:=y ys (h _ λp o z=>b.fz p o<|le.f p o z);rw[j] at this;cases this;exact⟨W',.refl,b,c.lf le⟩
 stop:=λle b=>⟨ys,h _ λp o z=>b.fz p o<|le.f p o z,by rw[r.length];exact xAg _⟩
theorem ku:∀{n:Nat}{lo:Int}{i:Nat},(zB8 lo n)[i]?=if i<n then some (.int<|lo+i) else none
 |0,_,_=>by simp[zB8]
 |n+1,lo,0=>by simp[zB8]
 |n+1,lo,i+1=>by
  show(zB8 (lo+1) n)[i]?=_;rw[ku];by_cases h:i<n
  .rw[xCg h,xCg ()];congr 2;lia
  .rw[xCf h,xCf ()]
theorem zA6:∀{n:Nat}{lo:Int},(zB8 lo n).length=n
 |0,_=>rfl
 |n+1,lo=>by show(zB8 (lo+1) n).length+1=_;rw[zA6]
def zH6{lo:Int}{n:Nat}:Wku B (Itr lo n) W (zB8 lo n) where
 go:=λle b c=>by rw[zA6] at c;exact c
 yld:=λ{i H H' x v W' S} le b a ⟨e,y⟩=>by
  subst e y;rw[ku] at a;split at a
  .cases a;exact⟨W',.refl,b,rfl⟩
  .cases a
 stop:=λle b=>by rw[zA6];exact xAg _
def zJm{z:Str}:Wku B (Its z) W (z.cps.toList.map λc=>.str ⟨#[c]⟩) where
 go:=λle a d=>by show _<z.cps.size;simpa using d
 yld:=λ{i H H' x v W' S} le a b y=>by
  let⟨e,c,g,h⟩:=y;subst e h;rw[xAw] at b;have:z.cps.toList[i]?=some c:=by simpa using g
  rw[this] at b;cases b;exact⟨W',.refl,a,rfl⟩
 stop:=λle a=>by show _=z.cps.size;simp
theorem jH:∀{xs ys:B8}{i:Nat}{v:U},(zBq xs ys)[i]?=some v->∃x y,xs[i]?=some x/\ys[i]?=some y/\v=.tup [x,y]
 |[],_,_,_,h=>by simp[zBq] at h
 |_::_,[],_,_,h=>by simp[zBq] at h
 |x::xs,y::ys,0,_,h=>by simp[zBq] at h;exact⟨x,y,rfl,rfl,h.symm⟩
 |x::xs,y::ys,i+1,_,h=>by simpa using jH (xs:=xs) (ys:=ys) (i:=i) (by simpa [zBq] using h)
theorem gM:∀{xs ys:B8},xs.length=ys.length->(zBq xs ys).length=xs.length
 |[],_,_=>rfl
 |x::xs,[],h=>by cases h
 |x::xs,y::ys,h=>by simp[zBq,gM (xs:=xs) (ys:=ys)<|by simpa using h]
def zJl{x y:V}{as bs:B0 V}{ys:B8}(m:∀H:Hp,(∀p o,W.F p=some o->H p=some o)->sqV B.K H x as)(n:∀H:Hp,(∀p o,W.F p=some o->H p=some o)->sqV B.K H y bs)(h:Rvs B W xs as)(r2:Rvs B W ys bs)(j:xs.length=ys.length):Wku B (Itg B.K x y) W (zBq xs ys) where
 go:=λ{i H W' S} le c l=>by
  rw[gM j] at l;exact⟨as,bs,as[i]'(by rw[h.length];exact l),bs[i]'(by rw[r2.length,<- j];exact l),m _ λp o z=>c.fz p o<|le.f p o z,n _ λp o z=>c.fz p o<|le.f p o z,⋯,⋯⟩
 yld:=λ{i H H' R v W' S} le c C ⟨q,u,r,Q,P,N,M,L⟩=>by
  subst Q N;let⟨a,b,G,E,rfl⟩:=jH C;let⟨w,J,A⟩:=h.get G;have:=M as (m _ λp o z=>c.fz p o<|le.f p o z);rw[J] at this;cases this;let⟨w,I,e⟩:=r2.get E;have:=L bs (n _ λp o z=>c.fz p o<|le.f p o z);rw[I] at this;cases this;let⟨d,g⟩:=c.fresh (o:=.tup [u,r]) P;exact⟨_,d,g,q,_,rfl,ce,⟨_,_,rfl,(A.lf le).mono d,⟨_,_,rfl,(e.lf le).mono d,rfl⟩⟩⟩
 stop:=λle c=>⟨as,m _ λp o z=>c.fz p o<|le.f p o z,by rw[gM j];exact h.length⟩
end
section
variable{B:Bs}{W:Wd}{vs:B8}
theorem hU:∀{xs:B8}{lo:Int},(zDq lo xs).length=xs.length
 |[],_=>rfl
 |_::xs,lo=>by show(zDq (lo+1) xs).length+1=_;rw[hU];rfl
theorem kI:∀{xs:B8}{lo:Int}{i:Nat}{v:U},(zDq lo xs)[i]?=some v->∃x,xs[i]?=some x/\v=.tup [.int<|lo+i,x]
 |[],_,_,_,h=>by cases h
 |x::xs,lo,0,v,h=>by cases h;exact⟨x,rfl,by congr 3;lia⟩
 |x::xs,lo,i+1,v,h=>by
  let⟨y,a,rfl⟩:=kI (xs:=xs) (lo:=lo+1) (i:=i) h;exact⟨y,a,by congr 3;lia⟩
def zGt{z:Str}:Wku B (zH3 z) W (zDq 0<|z.cps.toList.map λc=>.str ⟨#[c]⟩) where
 go:=λle d g=>by rw[hU] at g;show _<z.cps.size;simpa using g
 yld:=λ{i H H' x v W' S} le d h ⟨q,c,n,m,l,j⟩=>by
  subst n l;let⟨p,a,rfl⟩:=kI h;rw[xAw] at a;have:z.cps.toList[i]?=some c:=by simpa using j
  rw[this] at a;cases a;let⟨e,b⟩:=d.fresh (o:=.tup [.int (i:Int),.str ⟨#[c]⟩]) m;exact⟨_,e,b,q,_,rfl,ce,⟨_,_,rfl,(by show V.int _=V.int _;congr 1;lia),⟨_,_,rfl,rfl,rfl⟩⟩⟩
 stop:=λle d=>by show _=z.cps.size;rw[hU];simp
end
def zFo(K:xFr)(x:V)(H:Hp)(R:It->Hp->Prop):Prop:=zFn K x H R\/zFm K x H R\/zDm x H R
def iA(K:xFr)(a:TE):TI:=λO H R=>a O H λx H1=>zFo K x H1 R
section
variable{X:Cx}{e tg:B4}{te:TE}
def AV(y:PE X e te):PI X tg e<|iA X.K te:=by
 intro Z s O H R I h;refine thn (y Z s O H _ I h) λv c m=>?_;let⟨x,H1,I1,i,r⟩:=m;rcases r with ⟨a,e,⟨xs,j⟩,q⟩|⟨a,e,⟨xs,j⟩,q⟩|q
 .subst e;cases i;let⟨g,n,p,w⟩:=I1.list j;erw[wpAny_pyIter_list p.isList,<-⟨c.heap.objs.size,[c.heap.objs.size],_,_,H1,rfl,I1.kept (t':=c.toks) λb o e=>xAf _ e,nV a _,⟨_,xAl _ rfl,rfl,rfl⟩,λb d=>?_,q⟩];have e:b=c.heap.objs.size:=by simpa using d
  subst e;exact I1.fpOk (xAg _)<|I1.hok.fresh<|xAg _
 .subst e;cases i;let⟨g,n,p,w⟩:=I1.tuple j;erw[wpAny_pyIter_tuple (show c.heap.IsTuple a g.toArray from p),<-⟨c.heap.objs.size,[c.heap.objs.size],_,_,H1,rfl,I1.kept (t':=c.toks) λb o e=>xAf _ e,kR a _,⟨_,xAl _ rfl,rfl,rfl⟩,λb d=>?_,q⟩];have e:b=c.heap.objs.size:=by simpa using d
  subst e;exact I1.fpOk (xAg _)<|I1.hok.fresh<|xAg _
 .let⟨z,rfl,q⟩:=q;let⟨t,rfl⟩:=i;cases ha:z.cps.all (·<128)
  .refine wpAny_pyIter_wide ha ⟨c.heap.objs.size,[c.heap.objs.size],_,_,H1,rfl,I1.kept (t':=c.toks) λb o e=>xAf _ e,jL _ z t "str_iterator" ∅ (λA' l=>Walks.strWide l _ z t) λ_ _ _ _ _ st h=>wpAny_pyIter_striter_wide st h,⟨_,xAl _ rfl,rfl,rfl⟩,λb d=>?_,q⟩;have e:b=c.heap.objs.size:=by simpa using d
   subst e;exact I1.fpOk (xAg _)<|I1.hok.fresh<|xAg _
  .refine wpAny_pyIter_ascii ha ⟨c.heap.objs.size,[c.heap.objs.size],_,_,H1,rfl,I1.kept (t':=c.toks) λb o e=>xAf _ e,jL _ z t "str_ascii_iterator" ∅ (λA' l=>Walks.strAscii l _ z t) λ_ _ _ _ _ st h=>wpAny_pyIter_striter_ascii st h,⟨_,xAl _ rfl,rfl,rfl⟩,λb d=>?_,q⟩;have e:b=c.heap.objs.size:=by simpa using d
   subst e;exact I1.fpOk (xAg _)<|I1.hok.fresh<|xAg _
end
section
variable{B:Bs}{up:B0<|Str×Str}{G:C8}{Ex:St->XK}{c a b d:C5}{as:C9}
variable{X:Cx}{e ea eb tg:B4}{es:B0 B4}{pos p1 p2:Pos}{x:Str}(g:zB1 up G)
include g
set_option tactic.hygienic true
theorem wm(L:X.K=B.K)(h:FE X B G Ex e a):FI X B G Ex tg e<|cP .seq<|aC a aN:=
 ⟨wkI (AV h.p) λτ H R ⟨W,O,S,C,F,J⟩=>LE.go h.m C F J λv S1 W1 Q H1 j rs1 i E M=>by
  let⟨z,S2,l,q⟩:=g.pok M;change zG2 .tup v S1=_ at l;unfold zG2 at l;rw[L];split at l
  .next A=>
   cases l;exact .inr (.inr ⟨A,i,q W1 _ H1 _ j rs1 rfl zJm⟩)
  .next p=>
   split at l
   .next xs n=>
    cases l;let⟨P,rfl,I⟩:=i;let⟨W2,w,rs2,T,ys,N,y,r3⟩:=rs1.freeze n I;cases N;exact .inl ⟨P,rfl,⟨ys,.of<|rs2.fz _ _ y⟩,q W2 _ H1 xs (j.trans w) rs2 rfl<|zGs (.of y) r3⟩
   .cases l
  .next Y hr=>
   split at l
   .next xs n=>
    cases l;cases v with
    |tup _=>cases n;let⟨p,ys,rfl,f,r⟩:=i;exact .inr (.inl ⟨p,rfl,⟨ys,.of<|rs1.fz _ _ f⟩,q W1 _ H1 xs j rs1 rfl<|zH5 (λH hF=>.of<|hF _ _ f) r⟩)
    |kt _=>cases n;let⟨p,ys,rfl,f,r⟩:=i;exact .inr (.inl ⟨p,rfl,⟨ys,f H1⟩,q W1 _ H1 xs j rs1 rfl<|zH5 (λH _=>f H) r⟩)
    |lst _=>cases n;let⟨p,ys,rfl,f,r⟩:=i;exact .inl ⟨p,rfl,⟨ys,.of<|rs1.fz _ _ f⟩,q W1 _ H1 xs j rs1 rfl<|zGs (.of f) r⟩
    |kl _=>cases n;let⟨p,ys,rfl,f,r⟩:=i;exact .inl ⟨p,rfl,⟨ys,fV rs1.fz f⟩,q W1 _ H1 xs j rs1 rfl<|zGs f r⟩
    |ref p=>exact(hr p rfl).elim
    |_=>cases n
   ·(cases l),mP g<|mAC g h.m<|mAN g⟩
set_option tactic.hygienic false
theorem yB(L:Gl X "range")(J:X.mg "range"=none)(h:FE X B G Ex e a)(l:zAb e=true):FI X B G Ex tg (.Call (.Name "range" p1) [e] [] pos)<|cP .rng1<|aC a aN:=
 ⟨wkI (zr L J (fi g h (gw g) l).p l) λτ H R ⟨W,O,S,C,F,K⟩=>LA.go (mAC g h.m<|mAN g) C F K λP S1 W1 us H1 Q y w n E A=>by
  let⟨z,S2,i,q⟩:=g.pok A;let⟨v,rfl⟩:=vs1 i rfl λa b r=>by cases a <;> rfl
  let⟨u,rfl,I⟩:=n.inv1;cases v <;> try (cases i;done)
  delta pr at i;dsimp only at i;split at i
  .next j M=>
   cases i;let⟨A,N⟩:=xBe M;exact⟨_,by rw[show u=_ from I],A,N,q W1 _ H1 _ y w rfl zH6⟩
  ·(cases i),mP g<|mAC g h.m<|mAN g⟩
theorem yA(N:Gl X "range")(K:X.mg "range"=none)(h:FE X B G Ex ea a)(Q:FE X B G Ex eb b)(l:zAb ea=true)(i:zAb eb=true):FI X B G Ex tg (.Call (.Name "range" p1) [ea,eb] [] pos)<|cP .rng2<|zAz a b:=by
 have fa:FA X B G Ex [ea,eb]<|zAz a b:=fi g h (fi g Q (gw g) i) l;refine⟨wkI (oh N K fa.p (by rw[cf l,cf i];rfl)<|by rw[cf i];rfl) λτ H R ⟨W,O,S,E,I,M⟩=>LA.go fa.m E I M λA S1 W1 us H1 L y r n F T=>?_,mP g fa.m⟩;let⟨z,S2,j,q⟩:=g.pok T;match A,L with
 |[v,w],_=>
  let⟨u,C,rfl,J,r2⟩:=n.inv2;cases v <;> try (cases j;done)
  cases w <;> try (cases j;done)
  delta pr at j;dsimp only at j;split at j
  .next P=>
   cases j;exact⟨_,_,by rw[show u=_ from J,show C=_ from r2],xBe P,q W1 _ H1 _ y r rfl zH6⟩
  .cases j
theorem Ar{ts:B0 B4}{pt:Pos}(J:Gl X "enumerate")(F:X.mg "enumerate"=none)(h:FE X B G Ex e a)(i:zAb e=true):FI X B G Ex (.Tuple ts k pt) (.Call (.Name "enumerate" p1) [e] [] pos)<|cP .enm<|aC a aN:=
 ⟨wkI (oj J F (fi g h (gw g) i).p<|by rw[cf i];rfl) λτ H R ⟨W,O,S,y,C,I⟩=>LA.go (mAC g h.m<|mAN g) y C I λL S1 W1 us H1 M n l j A K=>by
  let⟨z,S2,w,q⟩:=g.pok K;let⟨v,rfl⟩:=vs1 w rfl λa b r=>by cases a <;> rfl
  let⟨u,rfl,E⟩:=j.inv1;cases v <;> try (cases w;done)
  cases w;exact⟨_,by rw[show u=_ from E],q W1 _ H1 _ n l rfl zGt⟩,mP g<|mAC g h.m<|mAN g⟩
omit g in
theorem jQ{W:Wd}:∀{cs:B9},Rvs B W (cs.map λc=>.str ⟨#[c]⟩) (cs.map λc=>.str ⟨#[c]⟩)
 |[]=>rfl
 |_::_=>⟨_,_,rfl,rfl,jQ⟩
omit g in
theorem pL{W:Wd}{v:U}{u:V}(r:Rv B W v u)(h:sqZ v=some xs):∃ys,(∀H:Hp,(∀p o,W.F p=some o->H p=some o)->sqV B.K H u ys)/\Rvs B W xs ys:=by
 cases v with
 |tup _=>cases h;let⟨p,ys,rfl,f,r⟩:=r;exact⟨ys,λH hF=>.inl ⟨p,rfl,.of<|hF _ _ f⟩,r⟩
 |kt _=>cases h;let⟨p,ys,rfl,f,r⟩:=r;exact⟨ys,λH _=>.inl ⟨p,rfl,f H⟩,r⟩
 |str z=>cases h;rw[show u=_ from r];exact⟨sgs z,λH _=>.inr ⟨z,rfl,rfl⟩,jQ⟩
 |_=>cases h
theorem Ag{ts:B0 B4}(hK:X.K=B.K)(hg:Gl X "zip")(T:X.mg "zip"=none)(h:FE X B G Ex ea a)(h2:FE X B G Ex eb b)(n:zAb ea=true)(i:zAb eb=true):FI X B G Ex (.Tuple ts k p2) (.Call (.Name "zip" p1) [ea,eb] [] pos)<|cP .zip<|zAz a b:=by
 have fa:FA X B G Ex [ea,eb]<|zAz a b:=fi g h (fi g h2 (gw g) i) n;refine⟨wkI (ud hg T fa.p (cf n)<|by rw[cf i];rfl) λτ H R ⟨W,O,S,L,N,Z⟩=>LA.go fa.m L N Z λI S1 W1 us H1 Y C j r M h1=>?_,mP g fa.m⟩;let⟨z,S2,l,q⟩:=g.pok h1;match I,Y with
 |[v,w],_=>
  let⟨u,J,rfl,P,r2⟩:=r.inv2;delta pr at l;dsimp only at l;split at l
  .next xs ys ex ey=>
   split at l
   .next Q=>
    cases l;let⟨as,F,A⟩:=pL P ex;let⟨bs,E,y⟩:=pL r2 ey;rw[hK];exact⟨u,J,rfl,⟨as,F _ j.fz⟩,⟨bs,E _ j.fz⟩,q W1 _ H1 _ C j rfl<|zJl F E A y<|Nat.eq_of_beq_eq_true Q⟩
   .cases l
  .cases l
end
def zF0:B9->TGs
 |[]=>zI4
 |i::is=>zF1 (zC0 i)<|zF0 is
def zI3(K:xFr)(is:B9)(one:B6):TG:=match one with
 |true=>zC0<|is.headD 0
 |false=>zHl K is.length<|zF0 is
structure FG(X:Cx)(B:Bs)(G:C8)(tg:B4)(is:B9)(one:B6):Prop where
 p:PG X tg (zI3 B.K is one)
section
variable{B:Bs}{up:B0<|Str×Str}{G:C8}{Ex:St->XK}{c a b d:C5}{as:C9}{t:TTx Prop}{u v:C4}
variable{X:Cx}{e ea eb tg iter:B4}{es:B0 B4}{st:Stmt}{sts body orelse:B0 Stmt}{pos p1 p2:Pos}{x y:Str}{i:Nat}(g:zB1 up G)
def Bn(l:X.N.Nodup)(hi:X.N[i]?=some x)(h:Loc X.env.scope x)(j:X.fn x=true\/X.env.scope.names.lookup x=some .local):FG X B G (.Name x pos) [i] true:=⟨m4 l hi h j⟩
theorem gZ(m:X.N.Nodup):∀{es:B0 B4}{is:B9},(∀(j:Nat)(e:B4),es[j]?=some e->∃x p i,e=.Name x p/\is[j]?=some i/\X.N[i]?=some x/\Loc X.env.scope x/\(X.fn x=true\/X.env.scope.names.lookup x=some .local))->es.length=is.length->PGs X es (zF0 is)/\es.all zAb=true
 |[],[],_,_=>⟨uf,rfl⟩
 |e::es,[],_,l=>by cases l
 |[],i::is,_,l=>by cases l
 |e::es,i::is,h,l=>by
  let⟨x,p,F,rfl,w,E,C,A⟩:=h 0 e rfl;cases w;let⟨q,n⟩:=gZ m (es:=es) (is:=is) (λj e r=>h (j+1) e r) (by simpa using l);exact⟨qx (m4 m E C A) q rfl,by rw[xCj,n];rfl⟩
theorem rP:∀{is:B9}{W:Wd}{S:So}{H:Hp}{O:Sg}{τ:St}{vs:B8}{us:B0 V}{QS:St->Hp->Prop},RS B W S H->Rg B W O τ->Rvs B W vs us->vs.length=is.length->(∀τ',Rg B W (puts O is vs) τ'->(∀j,j∉is->τ'[j]?=τ[j]?)->QS τ' H)->zF0 is us τ H QS
 |[],W,S,H,O,τ,vs,us,QS,p,n,l,h,q=>by
  match vs,h with
  |[],_=>rw[show us=[] from l];exact⟨rfl,q τ n λ_ _=>rfl⟩
 |i::is,W,S,H,O,τ,vs,us,QS,p,n,l,h,q=>by
  match vs,h with
  |v::vs,h=>
   let⟨u,us,rfl,w,r2⟩:=l;exact⟨u,us,rfl,rP p (n.put w) r2 (by simpa using h) λτ' m A=>q τ' m λj r=>by
    rw[A j λz=>r<|xAs _ z,xC1 λz=>r<|by simp[z]]⟩
theorem jX:∀{is:B9}{O:Sg}{vs:B8},(puts O is vs).length=O.length
 |[],_,_=>by cases ‹B8› <;> rfl
 |i::is,O,[]=>rfl
 |i::is,O,v::vs=>by show(puts (put O i v) is vs).length=_;rw[jX,fL]
include g
theorem wb{one:B6}{W:Wd}{v:U}{x:V}{k:Sg->Prop}{QS:St->Hp->Prop}(C:one=true->is.length=1)(rs:RS B W S H)(A:Rg B W O τ)(w:Rv B W v x)(h:tgt is one G v O k)(q:∀O' τ',k O'->Rg B W O' τ'->O'.length=O.length->(∀j,j∉is->τ'[j]?=τ[j]?)->QS τ' H):zI3 B.K is one x τ H QS:=by
 cases one with
 |true=>
  match is,C rfl with
  |[i],_=>exact q (put O i v) _ h (A.put w) fL λj n=>by rw[xC1 λz=>n<|by rw[<- z];simp]
 |false=>
  unfold tgt at h;dsimp only at h;cases v <;> try (exact(g.no h).elim)
  dsimp only at h;split at h
  .next l=>
   have l:=Nat.eq_of_beq_eq_true l;let⟨p,ys,rfl,f,r⟩:=w;exact⟨p,ys,rfl,.of<|rs.fz _ _ f,by rw[r.length,l],rP rs A r l λτ' m n=>q _ τ' h m jX n⟩
  .exact(g.no h).elim
omit g in
theorem Bm(w:X.K=B.K)(q:X.calm=true)(r:X.N.Nodup)(h:∀(j:Nat)(e:B4),es[j]?=some e->∃x p i,e=.Name x p/\is[j]?=some i/\X.N[i]?=some x/\Loc X.env.scope x/\(X.fn x=true\/X.env.scope.names.lookup x=some .local))(m:es.length=is.length):FG X B G (.Tuple es k pos) is false:=by
 let⟨n,l⟩:=gZ r h m;refine⟨?_⟩;show PG X _<|zHl B.K is.length<|zF0 is;rw[<- w];exact qy q n ((eW l).1.trans m) (eW l).2
theorem wM:FS X B G Ex (.Pass pos) sN:=⟨wkS tO λD τ H ⟨W,O,S,j,l,h⟩=>h W τ H .refl j l,mN g⟩
theorem za:FSs X B G Ex [] sN:=⟨zH7 tN λD τ H ⟨W,O,S,j,l,h⟩=>h W τ H .refl j l,mN g⟩
theorem wO(r:FS X B G Ex st u)(q:FSs X B G Ex sts v):FSs X B G Ex (st::sts)<|sQ u v:=
 ⟨zH7 (qb r.p q.p) λD τ H ⟨W,O,S,w,A,h⟩=>⟨W,O,S,w,A,r.m.m (E:=sqE (LEe B Ex W D) λσ1 S1=>v G σ1 S1<|LEe B Ex W D) (E':=LEe B Ex W {D with nx:=LS B G Ex v D}) ⟨λσ1 S1 C W1 τ1 H1 n j l=>⟨W1,σ1,S1,j,l,q.m.m (LEe.inc n) C⟩,λ_ _ z=>z,λ_ _ z=>z,λ_ _ z=>z,λ_ _ _ z=>z⟩ h⟩,mQ g r.m q.m⟩
omit g in
theorem xle{W:Wd}(rg:Rg B W O τ):∀x S,(LEe B Ex W D).x x O S->XL B W (Ex τ) x S:=λx S h W' C l H le j=>h W' τ C l H le j<|rg.mono le
omit g in
theorem LE.stm{W:Wd}{Q:VK}{k:C6}(m:zA4 G c)(l:RS B W S H)(j:Rg B W O τ)(h:c G O S (λx S1=>(LEe B Ex W D).x x O S1) k)(hk:∀v S' W' u H',W.Le W'->RS B W' S' H'->Rv B W' v u->Rg B W' O τ->k v S'->Q u H'):LE B G Ex c τ H Q:=
 LE.go m l j (m.m (λx S=>xle j x S) (λ_ _ h=>h) h) hk
theorem pS(n:FE X B G Ex e c)(E:X.N.Nodup)(hi:X.N[i]?=some x)(A:Loc X.env.scope x)(l:swapsWith e (some<|.Name x p1) pos.line X.env=pure false)(C:X.fn x=true\/X.env.scope.names.lookup x=some .local):FS X B G Ex (.Assign [.Name x p1] e pos)<|sA i c:=
 ⟨wkS (qe E hi A n.p l C) λD τ H ⟨W,O,S,r,w,h⟩=>LE.stm n.m r w h λv S' W' u H' le j q rg' F=>F W' _ H' le j<|rg'.put q,mA g n.m⟩
theorem AR(n:FE X B G Ex e c)(w:zBa e=true):FS X B G Ex (.Expr e pos)<|sE c:=
 ⟨wkS (zm n.p w) λD τ H ⟨W,O,S,q,r,h⟩=>LE.stm n.m q r h λv S' W' u H' le j C l A=>A W' τ H' le j l,mSE g n.m⟩
theorem vF(l:FE X B G Ex e c):FS X B G Ex (.Return (some e) pos)<|sR c:=
 ⟨wkS (wZ l.p) λD τ H ⟨W,O,S,q,w,h⟩=>LE.stm l.m q w h λv S' W' u H' le j n r A=>A W' u H' le j n,mR g l.m⟩
theorem AO(n:FT X B G Ex e t)(w:FSs X B G Ex body u)(r:FSs X B G Ex orelse v):FS X B G Ex (.If e body orelse pos)<|sI t u v:=
 ⟨wkS (zk n.p w.p r.p) λD τ H ⟨W,O,S,C,A,h⟩=>LT.go n.m C A (n.m.m (λx S=>xle A x S) (λ_ _ h=>h) h) λc S' W' H' le j l q=>by
  have q:=g.bk q;cases c with
  |true=>exact⟨W',O,S',j,l,w.m.m (LEe.inc le) q⟩
  |false=>exact⟨W',O,S',j,l,r.m.m (LEe.inc le) q⟩,mI g n.m w.m r.m⟩
omit g in
theorem PG.or'{h t2:TG}(j:PG X tg h)(h2:PG X tg t2):PG X tg λv O H Q=>h v O H Q\/t2 v O H Q:=λZ s O H v u Q I r q=>q.elim (j Z s O H v u Q I r)<|h2 Z s O H v u Q I r
theorem y8{pt:Pos}(hK:X.K=B.K)(M:X.calm=true)(Z:X.N.Nodup)(J:FE X B G Ex e c)(h:∀(j:Nat)(e:B4),es[j]?=some e->∃x p i,e=.Name x p/\is[j]?=some i/\X.N[i]?=some x/\Loc X.env.scope x/\(X.fn x=true\/X.env.scope.names.lookup x=some .local))(I:es.length=is.length)(Y:swapsWithSole [.Tuple es k pt] e pos.line X.env=pure false)(T:swappedStores [.Tuple es k pt] e X.env=pure none):FS X B G Ex (.Assign [.Tuple es k pt] e pos)<|sU is c:=by
 let⟨L,A⟩:=gZ Z h I;refine⟨wkS (qf J.p (PG.or' (qy (k:=k) (pos:=pt) M L (eW A).1 (eW A).2)<|xi (k:=k) (pos:=pt) M L (eW A).1 (eW A).2) Y T) λD τ H ⟨W,O,S,Q,R,h⟩=>LE.stm J.m Q R h λv S' W' u H' le l P F h'=>?_,mU g J.m⟩;let⟨z,S2,n,q⟩:=g.pok h';delta pr at n;dsimp only at n;split at n
 .next xs ex=>
  split at n
  .next r=>
   cases n;have r:=Nat.eq_of_beq_eq_true r;let⟨p,ys,rfl,sq,C⟩:=fU l P ex;have w:=rP l F C r λτ' E _=>q W' τ' H' le l E;rw[hK];rcases sq with sq|sq
   .exact .inr ⟨p,ys,rfl,sq,by rw[C.length,r,I],w⟩
   .exact .inl ⟨p,ys,rfl,sq,by rw[C.length,r,I],w⟩
  .cases n
 .cases n
theorem zc{fl:B7}{f:Str}(Z:X.K=B.K)(F:ClF B fl)(hf:f∈fl)(E:FE X B G Ex o a)(P:FE X B G Ex e c)(hc:zBa e=true):FS X B G Ex (.Assign [.Attribute o f p1] e pos)<|sP (.setf f) c<|aC a aN:=
 ⟨wkS (w5 E.p P.p<|fj hc) λD τ H ⟨W,O,S,rs,T,h⟩=>LE.stm P.m rs T h λv S1 W1 u1 H1 A L J N h1=>by
  refine LE.go E.m L N (E.m.m (λx S z=>XL.up A<|xle T x S z) (λ_ _ z=>z) h1) λw S2 W2 u2 H2 r l I M h2=>?_;let⟨z,S3,e3,q⟩:=g.pok h2;cases w <;> try (cases e3;done)
  let⟨C,fs,aa,cc,dx,vs,e4,Q,e6,hm,j,hh,R⟩:=jt l I<|show zC2 _ _ _=_ from e3;split at Q
  .next Y=>
   cases Q;have Y:=xCo Y;exact⟨aa,cc,dx,vs,e6,hh,by rw[Z];exact F.c j,by rw[Z];exact F.n j hf,by rw[R.length];lia,q W2 τ _ (A.trans r) (l.mut hm e4 (by nofun) ⟨cc,dx,_,j,rfl,mG (J.mono r) R⟩) M⟩
  ·(cases Q),mSP g P.m<|mAC g E.m<|mAN g⟩
omit g in
def zG8:zGr:=λo i v H Q=>zFf o i v H Q\/∃a H4,o=.ref a/\zJj H a i v H4/\Q H4
omit g in
theorem y6(r:X.A.units+1<cLine):zHz X zG8:=by
 intro Z s O H o i v n p u Q I l m j h;rcases h with h|⟨a,H4,rfl,d,q⟩
 .exact pP Z s O H o i v n p u Q I l m j h
 .obtain rfl:n=Value.ref a:=l;exact oP r I d m j λw I4=>⟨H4,I4,q⟩
set_option tactic.hygienic true
theorem wN{J:B4}(hu:X.A.units+1<cLine)(Q:FE X B G Ex o a)(hi:FE X B G Ex J b)(he:FE X B G Ex e c)(hs:zB7 J=true)(hc:zBa e=true):FS X B G Ex (.Assign [.Subscript o J p1] e pos)<|sP .seti c<|zAz a b:=by
 erw[<-⟨wkS (qf he.p (xh Q.p hi.p (y6 hu)<|by intro _;cases J <;> first|rfl|cases hs) (by rw[show swapsWithSole [Expr.Subscript o J p1] e pos.line X.env=swapsWith e (some<|.Subscript o J p1) pos.line X.env from rfl];exact fj hc) rfl rfl) λD τ H ⟨W,O,S,rs,rg,h⟩=>LE.stm he.m rs rg h λv S1 W1 u1 H1 I T C rg1 h1=>?_,mSP g he.m<|mAC g Q.m<|mAC g hi.m<|mAN g⟩,<-LE.go Q.m T rg1 (Q.m.m (λx S z=>XL.up I<|xle rg x S z) (λ_ _ z=>z) h1) λw S2 W2 u2 H2 le2 R r Z h2=>?_,<-LE.go hi.m R Z (hi.m.m (λx S z=>XL.up (I.trans le2)<|xle rg x S z) (λ_ _ z=>z) h2) λw3 S3 W3 u3 H3 F E K L h3=>?_];let⟨z,S4,l,q⟩:=g.pok h3;have r:=r.mono F;have C:=(C.mono le2).mono F;have M:=I.trans<|le2.trans F;cases w <;> try (cases l;done)
 change zB5 _ w3 v S3=_ at l;unfold zB5 at l;split at l
 .next kvs P=>
  split at l
  .next kk ekk=>
   let⟨hl,e5⟩:=zAs l;cases e5;let⟨aa,hh,N,hH,Y,_⟩:=E.here P;let⟨aa',e6,n⟩:=r;rw[N] at n;cases n;let⟨ks,rfl,rn⟩:=Y;exact .inr ⟨aa,_,e6,.inl ⟨ks,kk,hH,gG ekk K,by rw[rn.length];lia,rfl⟩,q W3 τ _ M (E.mut N P (by nofun) ⟨_,rfl,tL C rn⟩) L⟩
  .cases l
 .next xs P=>
  split at l
  .next ii=>
   split at l
   .next j hd=>
    cases l;let⟨aa,hh,N,hH,Y,_⟩:=E.here P;let⟨aa',e6,n⟩:=r;rw[N] at n;cases n;let⟨ys,rfl,rr⟩:=Y;exact .inl ⟨aa,ys,ii,j,e6,K,hH,by rw[rr.length];exact hd,q W3 τ _ M (E.mut N P (by nofun) ⟨_,rfl,rr.set C _⟩) L⟩
   .cases l
  .cases l
 .cases l
set_option tactic.hygienic false
theorem zb{one:B6}(Y:one=true->is.length=1)(hc:X.calm=true)(hi:FI X B G Ex tg iter c)(Z:FG X.lp B G tg is one)(L:FSs X.lp B G Ex body u)(T:∀x,foldedSetIterable iter X.env x=pure x):FS X B G Ex (.For tg iter body [] pos)<|sF c is one u:=by
 erw[<-⟨wkS (tP hc hi.p Z.p L.p T) λD τ H ⟨W,O,S,P,K,h⟩=>?_,mSF g hi.m L.m⟩,<-⟨W,O,S,P,K,hi.m.m (λx S z=>xle K x S z) (λv S1 N W1 Q H1 j A I ev E=>?_) h⟩];subst ev;dsimp only at N;refine⟨λi m τ' H'=>i<=j.length/\m=j.length-i/\∃W' O' S',W1.Le W'/\RS B W' S' H'/\Rg B W' O' τ'/\zB2 (j.drop i) (λw σ1 S2 nx=>tgt is one G w σ1 λσ2=>u G σ2 S2<|lpE (LEe B Ex W D) nx) O' S' (LEe B Ex W D).nx,⟨j.length,xBn _,rfl,W1,O,S1,.refl,I,K.mono A,N⟩,?_⟩;rintro i m τ' H' ⟨hi',rfl,W',O',S',le',rs',rg',hh⟩
 by_cases hlt:i<j.length
 .refine .inr ⟨E.go le'.lf rs' hlt,λτ2 H2=>∃W2 σ2 S2,W1.Le W2/\RS B W2 S2 H2/\Rg B W2 σ2 τ2/\zB2 (j.drop<|i+1) (λw σ1 S2 nx=>tgt is one G w σ1 λσ2=>u G σ2 S2<|lpE (LEe B Ex W D) nx) σ2 S2 (LEe B Ex W D).nx,λτ2 H2 ⟨W2,σ2,S2,R,r2,g2,f2⟩=>⟨j.length-(i+1),(),hlt,rfl,W2,σ2,S2,R,r2,g2,f2⟩,λx H2 y=>?_⟩;rw[List.drop_eq_getElem_cons hlt] at hh;let⟨W2,le2,C,F⟩:=E.yld le'.lf rs' (xAk hlt) y;refine wb g Y (k:=λσ2=>u G σ2 S'<|lpE (LEe B Ex W D) λσ1 S1=>zB2 (j.drop<|i+1) (λw σ1 S2 nx=>tgt is one G w σ1 λσ2=>u G σ2 S2<|lpE (LEe B Ex W D) nx) σ1 S1 (LEe B Ex W D).nx) C (rg'.mono le2) F hh λσ3 τ3 h3 J _ _=>⟨W2,σ3,S',C,J,L.m.m ?_ h3⟩
  have q:W.Le W2:=A.trans<|le'.trans le2;exact⟨λσ4 S4 M W4 τ4 H4 r l n=>⟨W4,σ4,S4,le'.trans<|le2.trans r,l,n,M⟩,λ_ _=>VL.inc q,λ_ _=>NL.inc q,λσ4 S4 M W4 τ4 H4 r l n=>⟨W4,σ4,S4,le'.trans<|le2.trans r,l,n,M⟩,(LEe.inc q).x⟩
 .have e:i=j.length:=by lia
  subst e;rw[List.drop_length] at hh;exact .inl ⟨E.stop le'.lf rs',hh W' τ' H' (A.trans le') rs' rg'⟩
theorem tH(F:FT X.lp B G Ex e t)(I:FSs X.lp B G Ex body u):FS X B G Ex (.While e body [] pos)<|sW t u:=by
 erw[<-⟨wkS (nZ F.p I.p) λD τ H ⟨W,O,S,L,M,h⟩=>?_,mSW g F.m I.m⟩,<-⟨λm τ' H'=>∃W' O' S',W.Le W'/\RS B W' S' H'/\Rg B W' O' τ'/\whK (λσ1 S1 k=>t G σ1 S1 (λx S2=>(LEe B Ex W D).x x σ1 S2) k) (λσ1 S1 nx=>u G σ1 S1<|lpE (LEe B Ex W D) nx) G.br G.fail m O' S' (LEe B Ex W D).nx,⟨G.fuel,W,O,S,.refl,L,M,h⟩,?_⟩];rintro m τ' H' ⟨W',O',S',le',rs',rg',hh⟩
 cases m with
 |zero=>exact(g.no hh).elim
 |succ m=>
  refine LT.go F.m rs' rg' (F.m.m (λx S z=>λW2 C N H l K=>z W2 τ' C N H (le'.trans l) K<|rg'.mono l) (λ_ _ z=>z) hh) λP S2 W2 H2 l A E w=>?_;have w:=g.bk w;have j:W.Le W2:=le'.trans l;cases P with
  |true=>
   rw[xCg rfl] at w⊢;refine⟨λτ3 H3=>∃W3 σ3 S3,W.Le W3/\RS B W3 S3 H3/\Rg B W3 σ3 τ3/\whK (λσ1 S1 k=>t G σ1 S1 (λx S2=>(LEe B Ex W D).x x σ1 S2) k) (λσ1 S1 nx=>u G σ1 S1<|lpE (LEe B Ex W D) nx) G.br G.fail m σ3 S3 (LEe B Ex W D).nx,λτ3 H3 z=>⟨m,Nat.lt_succ_self _,z⟩,W2,O',S2,A,E,I.m.m ?_ w⟩;exact⟨λσ4 S4 J W4 τ4 H4 r n q=>⟨W4,σ4,S4,j.trans r,n,q,J⟩,λ_ _=>VL.inc j,λ_ _=>NL.inc j,λσ4 S4 J W4 τ4 H4 r n q=>⟨W4,σ4,S4,j.trans r,n,q,J⟩,(LEe.inc j).x⟩
  |false=>
   rw[xCf xAy] at w⊢;exact w W2 τ' H2 j A E
end
section
variable{X:Cx}{Ex:St->XK}{ex:B4}{te:TE}{pos:Pos}
def iz(c:Cat X Ex)(J:X.A.handled=none)(L:PE X ex te):PS X (.Raise (some ex) none pos)<|zE2 X.K te Ex:=by
 intro Z s O H D I h;rw[arm_exec_Raise];refine xAd (wpAny_standAt ?_);have b:wpAny (model X.prog X.w) X.A (eval ex X.env) (λv a=>∃e,v=.ref e/\zCv e a.heap/\X.xe (.ref e) a) X.xe s:=by
  refine thn (L Z s O H _ I h) λu a l=>?_;let⟨v,H1,I1,r,e,C,j,P,i,M,q⟩:=l;subst P;obtain rfl:u=Value.ref e:=r;let⟨nm,n,N,bs,bm,d,m,sub,R,g,Q,G,F,E,B,x,p,tl⟩:=eF M;let⟨⟨t,ge⟩,_,_⟩:=(show zAe X.prog X.w H1 a.heap e (XO C j e) from I1.hok e _ i)
  exact⟨e,rfl,⟨nm,n,C,N,bs,bm,d,m,sub,R,g,Q,G,F,E,B,x,_,t,j,I1.kIn _ _ p,fS tl,ge⟩,c.rises I1 i q⟩
 change wpAny _ _ (raiseStmt X.env (some<|do let v <- eval ex X.env;standAt pos;pure v) none) _ _ _;exact k9 J<|xAd<|wpAny_mono b (λv a z=>xAd<|wpAny_standAt<|xAe z) λ_ _ y=>y
end
def zFa(K:xFr)(f:Str):Sp:=λb H Q _=>∃(e C:B5) (v:V),b=[.ref e,v]/\H e=some (XO C none e)/\XSt K C/\zAw K C f/\∀a,H a=none->Q .non (upd (upd H a<|.xd [(f,v)]) e<|XO C (some a) e)
section
variable{B:Bs}{up:B0<|Str×Str}{G:C8}{Ex:St->XK}{c a b d:C5}{as:C9}{t:TTx Prop}{u v:C4}
variable{X:Cx}{e ea eb:B4}{es:B0 B4}{st:Stmt}{sts body suite:B0 Stmt}{pos p1 p2 p3 np hpos:Pos}{x y:Str}{i:Nat}{cc:B5}(g:zB1 up G)
include g
theorem pR(I:Cat X Ex)(w:X.A.handled=none)(M:PySem.W.excIn X.K cc bmV "ValueError.__new__"=true)(F:zCd X.K cc=true)(kp:PySem.W.keepIn X.K (.ref cc)=true)(C:Gl X x)(r:X.mg x=some (.ref cc))(l:B.mg x=some (.ref cc))(n:(x==("__debug__":Str))=false):FS X B G Ex (.Raise (some<|.Call (.Name x p1) [] [] p2) none pos)<|sX x [] aN:=
 ⟨wkS (iz I w<|oq M kp C r n) λD τ H ⟨W,O,S,p,q,h⟩=>λj m=>⟨j,cc,none,rfl,ce,F,by
  have E:del (upd H j<|XO cc none j) j=H:=by
   funext b
   by_cases z:b=j
   .rw[z,ia,m]
   .rw[gh z,cb z]
  rw[E];exact h W τ _ none H .refl ⟨p,⟨cc,l,rfl⟩,.inl ⟨rfl,rfl⟩⟩ q⟩,mSX g<|mAN g⟩
theorem pQ{f':B5}{fd:FuncData}{j s0:Str}(ca:Cat X Ex)(hh:X.A.handled=none)(M:XMk X.K cc f')(F:zA5 X.prog X.w X.K X.mg X.base (CXo X.prog X.w) k f' fd [s0,j]<|zFa X.K j)(hr:zBe (k+1) X.A)(r:zAv X.K fd [s0,j] [])(I:XSt X.K cc)(na:zAw X.K cc j)(hF:zCd X.K cc=true)(hg:Gl X x)(hm:X.mg x=some (.ref cc))(Q:B.mg x=some (.ref cc))(T:(x==("__debug__":Str))=false)(he:FE X B G Ex e a)(n:zAb e=true):FS X B G Ex (.Raise (some<|.Call (.Name x p1) [e] [] p2) none pos)<|sX x [j]<|aC a aN:=by
 have fa:FA X B G Ex [e]<|aC a aN:=fi g he (gw g) n;erw[<-⟨wkS (iz ca hh<|qB M F hr hg hm r zEc fa.p T (cf n) rfl) λD τ H ⟨W,O,S,rs,rg,h⟩=>?_,mSX g fa.m⟩,<-LA.go fa.m rs rg (fa.m.m (λx S=>xle rg x S) (λ_ _ _ z=>z) h) λvs S1 W1 us H1 hl P L J N h1=>?_];match vs,hl with
 |[v],_=>
  let⟨u,rfl,r1⟩:=J.inv1;refine⟨⋯,λE R=>⟨E,cc,u,rfl,ce,I,na,λC l=>⟨rfl,E,cc,some C,rfl,ce,hF,?_⟩⟩⟩;have Y:C≠E:=λz=>by rw[z,ce] at l;cases l
  have q:H1 C=none:=by rw[cb Y] at l;exact l
  refine h1 W1 τ _ (some C) _ P ⟨L.same λb o r=>?_,⟨cc,Q,rfl⟩,.inr ⟨C,[(j,u)],rfl,?_,⟨u,[],rfl,r1,rfl⟩⟩⟩ N
  .have Z:b≠E:=cg r R;rw[gh Z,cb Z,cb<|cg r q,cb Z];exact r
  .rw[gh Y,cb Y,ce]
end
section
variable{B:Bs}{up:B0<|Str×Str}{G:C8}{Ex:St->XK}{c a b d:C5}{as:C9}{t:TTx Prop}{u v:C4}
variable{X:Cx}{e ea eb tg iter elt:B4}{es:B0 B4}{st:Stmt}{sts body:B0 Stmt}{pos p1 p2 p3 p4 np hpos:Pos}{x y n f:Str}{i j:Nat}{cc:B5}(g:zB1 up G)
theorem jz:∀{O:Sg}{i:Nat},(clr O i).length=O.length
 |[],_=>rfl
 |_::_,0=>rfl
 |_::r,i+1=>by show(clr r i).length+1=r.length+1;rw[jz]
theorem nj:∀{O:Sg}{i j:Nat}{w:U},nth (clr O i) j=some w->i≠j/\nth O j=some w
 |[],_,_,_,h=>by cases h
 |_::_,0,0,_,h=>by cases h
 |_::_,0,_+1,_,h=>⟨(),h⟩
 |_::_,_+1,0,_,h=>⟨(),h⟩
 |_::r,i+1,j+1,w,h=>by let⟨a,b⟩:=nj (O:=r) (i:=i) (j:=j) h;exact⟨(),b⟩
include g
theorem y9(mu:zBv G u)(hx:∀(Z:B0<|B5×Obj)(E':B2->B3->Prop)(Ex':St->XK),Cat (X.trial Z E') Ex'->FSs (X.trial Z E') B G Ex' body u)(hN:X.N.Nodup)(hi:X.N[i]?=some n)(hl:X.env.kindOf n=some .local)(hj:X.N[j]?=some y)(Y:Loc X.env.scope y)(hfy:X.fn y=true\/X.env.scope.names.lookup y=some .local)(hij:i≠j)(hg:Gl X x)(hm:X.mg x=some (.ref cc))(R:∀z,B.mg z=X.mg z)(hdb:(x==("__debug__":Str))=false)(hF:zA8 X.K cc cc)(na:XGt X.K cc)(M:zAw X.K cc f)(P:X.stack=X.env::X.outer)(hfr:X.env.frame=some X.env.locals)(hdn:(n==("__debug__":Str))=false)(hcn:(n==("__classdict__":Str))=false) :
  FS X B G Ex (.Try body [.ExceptHandler (some<|.Name x np) (some n) [.Assign [.Name y p1] (.Attribute (.Name n p2) f p3) p4] hpos] [] [] pos) (sT x i j f u):=by
 erw[<-⟨?_,mST g mu⟩,<-wkS (qc (Dc:=cc) (i:=i) (tb:=λEx'=>LS B G Ex' u) (ts:=zGl (zDt X.K (zIa i) f)<|zC0 j) (λZ E' Ex' c=>(hx Z E' Ex' c.cat).p) (λe=>?_) hN hi hl hg hm P hfr hdb) λD τ H ⟨W,O,S,rs,rg,h⟩=>?_]
 .exact i8<|qe (X:=X.suite e) hN hj Y (qF (X:=X.suite e) (je (X:=X.suite e) hi (.inl hl) hdn hcn)<|eN rfl) rfl hfy
 .refine⟨W,O,S,rs,rg,mu.m (E:=xcE (LEe B Ex W D)<|hdl x i j f G<|LEe B Ex W D) ⟨λ_ _ z=>z,λ_ _ z=>z,λ_ _ z=>z,λ_ _ z=>z,λJ σ1 S1 z W' τ1 C dx H' le L q=>?_⟩ h⟩;have z:hdl x i j f G (LEe B Ex W D) J σ1 S1:=z;unfold hdl at z;cases I:decide (J.cls=x) with
  |false=>rw[I] at z;exact(g.no z).elim
  |true=>
   rw[I] at z;dsimp only at z;have I:=xBe I;cases e2:zAt f J.fs with
   |none=>rw[e2] at z;exact(g.no z).elim
   |some w=>
    rw[e2] at z;dsimp only at z;cases e5:Nat.blt i σ1.length with
    |false=>rw[e5] at z;exact(g.no z).elim
    |true=>
    rw[e5] at z;dsimp only at z;have hil:i<σ1.length:=xCo e5;let⟨c',F,rfl⟩:=L.c;rw[I,R,hm] at F;cases F;refine⟨cc,rfl,hF,λee T A=>?_⟩;rcases L.f with ⟨hf,_⟩|⟨dd,vs,rfl,hd,rn⟩
    .rw[hf] at e2;cases e2
    .let⟨uu,e3,ru⟩:=(fk (f:=f) rn).1 _ e2;erw[<-⟨.ref ee,by rw[List.getElem?_set_self<|by rw[q.l];exact hil],ee,cc,dd,T,vs,uu,rfl,ce,by rw[cb<|cg hd A];exact hd,na,M,e3,?_⟩,<-z W' _ _ le (L.s.same<|dq A _) ⟨by simp only[List.length_set];rw[fL,jz];exact q.l,λk w' hk=>?_⟩];rcases jk hk with ⟨rfl,rfl,hlt⟩|⟨Q,hk⟩
     .refine⟨uu,?_,ru⟩;rw[xC1 hij,List.getElem?_set_self];rw[List.length_set,q.l];rwa[jz] at hlt
     .let⟨r,hk⟩:=nj hk;let⟨u',e4,r4⟩:=q.v k w' hk;exact⟨u',by rw[xC1 r,xC1 Q,xC1 r];exact e4,r4⟩
set_option tactic.hygienic true
theorem rX(R:X.calm=true)(P:Gl X "len")(M:X.mg "len"=none)(I:Gl X "set")(F:X.mg "set"=none)(C:FE X B G Ex ea a)(A:zAb ea=true):FE X B G Ex (.Call (.Name "len" p1) [.Call (.Name "set" p2) [ea] [] p3] [] pos)<|cP .lenset<|aC a aN:=
 ⟨wkE (qK vb P M (by decide +kernel) (qM (vJ (u6 R) I F (by decide +kernel) (qM C.p jg A)<|by rw[xCj,A];rfl) jg rfl) rfl) λτ H Q h=>(LE.p1 g C.m h).imp C.m λw H1 K=>by
  let⟨W,S,v,z,S',J,L,e,q⟩:=K;cases v <;> try (cases e;done)
  delta pr at e;dsimp only at e;split at e
  .next ws ew=>
   split at e
   .next T=>
    cases e;let⟨p,ys,rfl,f,r⟩:=L;have E:=iW ew r;subst E;let⟨Z,Y⟩:=xBe T;exact⟨p,ws,rfl,J.fz _ _ f,Z,Y,λl N=>⟨l,_,rfl,ce,(),q W _ _ .refl (J.same<|dq N _) rfl⟩⟩
   .cases e
  ·(cases e),mP g<|mAC g C.m<|mAN g⟩
set_option tactic.hygienic false
theorem AJ{C:C5}{i j:Nat}{x y:Str}{R Q pt r q:Pos}{kt T:Nat}(hc:X.calm=true)(hN:X.N.Nodup)(hi:X.N[i]?=some x)(hj:X.N[j]?=some y)(M:i≠j)(hx:X.env.scope.names.lookup x=some .local)(hy:X.env.scope.names.lookup y=some .local)(Z:FE X B G Ex ea a)(Y:FE X B G Ex eb C)(L:zAb ea=true)(A:zAb eb=true)(hw:swappedStores [.Tuple [.Name x R,.Name y Q] kt pt] (.Tuple [ea,eb] T r) X.env=pure (some [x,y])):FS X B G Ex (.Assign [.Tuple [.Name x R,.Name y Q] kt pt] (.Tuple [ea,eb] T r) q)<|sPr i j a C:=by
 have fa:FA X B G Ex [ea,eb]<|aC a<|aC C aN:=fi g Z (fi g Y (gw g) A) L;refine⟨wkS (w4 hc hN hi hj M hx hy fa.p hw) λD τ H ⟨W,O,S,rs,P,h⟩=>?_,⟨λl h=>Z.m.m (λ_ _=>l.x _ _ _) (λ_ _ h=>Y.m.m (λ_ _=>l.x _ _ _) (λ_ _=>l.nx _ _) h) h⟩⟩;have h2:(aC a<|aC C aN) G O S (λx S1=>(LEe B Ex W D).x x O S1) λE S2=>match E with|[v,w]=>(LEe B Ex W D).nx (put (put O i v) j w) S2|_=>G.fail:=h;refine LA.go fa.m rs P (fa.m.m (λx S z=>xle P x S z) (λ_ _ _ z=>z) h2) λE S1 W1 us H1 hl K I F J h1=>?_;match E,hl with
 |[v,w],_=>
  let⟨u,u2,rfl,r1,r2⟩:=F.inv2;exact⟨u,u2,rfl,h1 W1 _ H1 K I<|(J.put r1).put r2⟩
set_option tactic.hygienic true
theorem Ap(l:FE X B G Ex ea a):FE X B G Ex ea<|cP .frz<|aC a aN:=
 ⟨wkE l.p λτ H Q h=>(LE.p1 g l.m h).imp l.m λw H1 C=>by
  let⟨W,S,v,z,S',E,F,e,q⟩:=C;cases v <;> try (cases e;done)
  next p=>
  change zCi p S _=_ at e;unfold zCi at e;split at e
  .next xs J=>
   cases e;let⟨K,rfl,I⟩:=F;let⟨W2,A,r,r3⟩:=E.freeze J I;exact q W2 _ H1 A r r3
  ·(cases e),mP g<|mAC g l.m<|mAN g⟩
set_option tactic.hygienic false
omit g in
theorem nk:∀{n:Nat}{l:B0<|B1 U}{k:Nat}{v:U},nth (List.replicate n none++l) k=some v->n<=k/\nth l (k-n)=some v
 |0,l,k,v,h=>⟨xBn _,by simpa using h⟩
 |n+1,l,0,v,h=>by cases h
 |n+1,l,k+1,v,h=>by
  have h:nth (List.replicate n none++l) k=some v:=by simpa [List.replicate_succ,nth] using h
  let⟨a,b⟩:=nk h;exact⟨(),by rw[show k+1-(n+1)=k-n by lia];exact b⟩
omit g in
theorem nh{O:Sg}:∀{cs:B9}{k:Nat}{v:U},nth (cs.map<|nth O) k=some v->∃c,cs[k]?=some c/\nth O c=some v
 |[],_,_,h=>by cases h
 |c::cs,0,v,h=>⟨c,rfl,h⟩
 |c::cs,k+1,v,h=>by simpa using nh (cs:=cs) (k:=k) (by simpa [nth] using h)
omit g in
theorem yS{W:Wd}{m:Nat}(l:Rg B W O τ):Rg B W (List.replicate m none++cs.map (nth O))<|List.replicate m none++zC3 τ cs:=by
 refine⟨by simp[zC3],λk v h=>?_⟩;let⟨A,w⟩:=nk h;let⟨c,q,p⟩:=nh w;let⟨u,e,r⟩:=l.v c v p;refine⟨u,?_,r⟩;rw[xCl (by simpa using A),xCu];unfold zC3;rw[xAw,q];simp[e]
theorem Bh{scope:Scope}{cl:B0<|Str×B5}{ls N:B7}{one:B6}(ho:one=true->is.length=1)(his:∀k∈is,k<ls.length)(hc:X.calm=true)(cp:zCb X scope cl ls N cs)(hi:FI X B G Ex tg iter c)(hg:∀C s H fp,FG (zAo X (ls++N) scope cl C s H fp) B G tg is one)(he:∀C s H fp,FE (zAo X (ls++N) scope cl C s H fp) B G (λ_ _ _ _=>False) elt a)(hs:∀v,foldedSetIterable iter X.env v=pure v)(me:zA4 G a):FE X B G Ex (.ListComp elt [⟨tg,iter,[],0⟩] scope pos) (cLx c is one ls.length cs a)/\∀{i:Nat}{y:Str}{py I:Pos},X.N.Nodup->X.N[i]?=some y->X.env.scope.names.lookup y=some .local->swapsWith (.ListComp elt [⟨tg,iter,[],0⟩] scope pos) (some<|.Name y py) I.line X.env=pure true->FS X B G Ex (.Assign [.Name y py] (.ListComp elt [⟨tg,iter,[],0⟩] scope pos) I) (sA i<|cLx c is one ls.length cs a):=by
 refine⟨⟨wkE (xn hc cp hi.p (λC s H fp=>(hg C s H fp).p) (λ_ _ _ _=>mH) (λC s H fp=>(he C s H fp).p) hs) ?core,mLx g hi.m me⟩,λ{i y py I} hN hiy hy hsw=>⟨wkS (qd hN hiy hy hc cp hi.p (λC s H fp=>(hg C s H fp).p) (λ_ _ _ _=>mH) (λC s H fp=>(he C s H fp).p) hs hsw) λD τ H ⟨W,O,S,rs,rg,h⟩=>?core τ H _<|LE.stm (mLx g hi.m me) rs rg h λv S' W' u H' le rs' rv rg' h'=>h' W' _ H' le rs'<|rg'.put rv,mA g<|mLx g hi.m me⟩⟩;case core=>
 rintro τ H Q ⟨W,O,S,rs,rg,h⟩
 obtain⟨Kf,h,fin⟩:∃Kf:C6,cLx c is one ls.length cs a G O S (XL B W<|Ex τ) Kf/\∀{W1 W2:Wd}{S2:So}{us:B8}{ys:B0 V}{H2:Hp}{D:B5},W.Le W1->W1.Lf W2->W2.pr=(D,.lst ys)::W1.pr->(∀q∈W1.pr,q.1≠D)->RS B W2 S2 H2->Rvs B W2 us ys->Kf (.lst us) S2->Q (.ref D) H2:=by
  refine⟨VL B W Q,h,λ{W1 W2 S2 us ys H2 D} le1 lf2 w P A K Y=>?_⟩;have J:=A.heldF w P;have lf4:W2.Lf {W2 with pr:=W1.pr,F:=upd W2.F D<|.lst ys}:=by
   have hF:=(A.pf (D,.lst ys)<|by rw[w];exact xAr).2.1;exact⟨λp o z=>by show upd W2.F D _ p=_;rw[cb λy=>by rw[y,hF] at z;cases z];exact z,λ_ _ z=>z⟩
  exact Y {W2 with pr:=W1.pr,F:=upd W2.F D<|.lst ys} (.ref D) H2 ⟨λp o z=>lf4.f p o<|lf2.f p o<|le1.f p o z,λp o z=>lf4.m p o<|lf2.m p o<|le1.m p o z,le1.r⟩ J ⟨D,ys,rfl,ce,K.lf lf4⟩
 refine⟨W,O,S,rs,rg,hi.m.m (λ_ _ z=>z) (λv S1 h1 W1 m0J H1 E le1 rs1 ev wk=>?_) h⟩;subst ev;have h1:=g.bk h1;split at h1
 .next hsz=>
  have hsz:=xCo hsz;intro D hD;generalize hbody:zCu is one (List.replicate ls.length none++cs.map (nth O)) a G=bd at h1;have P:∀q∈W1.pr,q.1≠D:=λq hq z=>by rw[<- z,(rs1.pf q hq).1] at hD;cases hD
  let Wi:Nat->Nat->B0 V->Hp->Prop:=λi k ys H'=>i<=E.length/\k=E.length-i/\ys.length<=i/\∃W' S' us,W1.Lf W'/\W'.pr=(D,.lst ys)::W1.pr/\RS B W' S' H'/\Rvs B W' us ys/\lcK G bd (E.drop i) us S' Kf
  have again:∀{i:Nat}{ys:B0 V}{W':Wd}{S':So}{H':Hp}{us:B8},i<E.length->ys.length<=i+1->W1.Lf W'->W'.pr=(D,.lst ys)::W1.pr->RS B W' S' H'->Rvs B W' us ys->lcK G bd (E.drop<|i+1) us S' Kf->Wi (i+1) (E.length-(i+1)) ys H':=λhi hy l1 l2 l3 l4 l5=>⟨hi,rfl,hy,_,_,_,l1,l2,l3,l4,l5⟩
  refine⟨Wi,⟨E.length,xBn _,rfl,xAg _,_,S1,[],Wd.Lf.pr,rfl,rs1.hold (o:=.lst []) hD λ_=>nofun,rfl,h1⟩,?_⟩;rintro i k ys H2 ⟨hi',rfl,hy,W2,S2,us,lf2,w,A,K,Y⟩
  refine⟨(A.pf _<|by rw[w];exact xAr).1,?_⟩;by_cases hlt:i<E.length
  .refine .inr ⟨wk.go lf2 A hlt,Nat.lt_of_le_of_lt hy<|xBc hlt hsz,λys' H'=>Wi (i+1) (E.length-(i+1)) ys' H',λys' H' z=>⟨_,(),z⟩,λx H3 yy=>?_⟩;rw[List.drop_eq_getElem_cons hlt] at Y;let⟨W3,M,J,rv3⟩:=wk.yld lf2 A (xAk hlt) yy;have Y:zCu is one (List.replicate ls.length none++cs.map (nth O)) a G E[i] S2 λo S1=>match o with
    |some u=>lcK G bd (E.drop<|i+1) (us++[u]) S1 Kf
    |none=>lcK G bd (E.drop<|i+1) us S1 Kf:=by rw[hbody];exact Y
   have lf3:W1.Lf W3:=⟨λp o z=>M.f p o<|lf2.f p o z,λp o z=>M.m p o<|lf2.m p o z⟩
   have T:W3.pr=(D,.lst ys)::W1.pr:=M.r.trans w;refine wb g ho J (yS<|(rg.mono le1).lf lf3) rv3 Y λσ4 τ4 h4 Z hl4 hj4=>⟨?_,?_,?_⟩
   .have hl:τ4.length=ls.length+cs.length:=by rw[Z.l,hl4];simp
    apply List.ext_getElem?;intro q;rw[List.getElem?_drop,hj4 _ (λz=>absurd (his _ z) ()),xCl ⋯,xCu];congr 1;lia
   .rw[Z.l,hl4];simp
   ·-- the element
    refine⟨(J.pf _<|by rw[T];exact xAr).1,?_⟩;rw[xCg rfl];show LE B G (λ_ _ _ _=>False) a τ4 H3 λv H6=>H6 D=some (.lst ys)/\Wi (i+1) (E.length-(i+1)) (ys++[v]) (upd H6 D<|.lst<|ys++[v]);exact LE.go me J Z (me.m (λ_ _ z=>(g.no z).elim) (λ_ _ z=>z) h4) λu S6 W6 uu H6 L rs6 ru _ h6=>by
     have R:W6.pr=(D,.lst ys)::W1.pr:=L.r.trans T;refine⟨(rs6.pf _<|by rw[R];exact xAr).1,again hlt (by simp;lia) (W':={W6 with pr:=(D,.lst<|ys++[uu])::W1.pr}) ?_ rfl (rs6.held R (λ_=>nofun) P) ?_ h6⟩
     .exact⟨λp o z=>L.f p o<|lf3.f p o z,λp o z=>L.m p o<|lf3.m p o z⟩
     .exact(((K.mono M).mono L).app<|.one ru).lf .pr
  .have e:i=E.length:=by lia
   subst e;rw[List.drop_length] at Y;refine .inl ⟨wk.stop lf2 A,?_⟩;exact fin le1 lf2 w P A K Y
 .exact(g.no h1).elim
omit g in
theorem jB{K:xFr}{C:B5}(h:zCd K C=true):zA8 K C C:=by
 refine⟨h,h,?_⟩;let⟨nm,r,N,bs,bm,l,q,sub,L,p,J,I,F,E,A,w,m,_⟩:=eF h;unfold PySem.W.mroIn PySem.W.clsIn;rw[m];simp
theorem wL{b:B6}(hN:X.N.Nodup)(hi:X.N[i]?=some y)(hy:Loc X.env.scope y)(hf:X.fn y=true\/X.env.scope.names.lookup y=some .local)(P:zBv G u)(hx:∀(Z:B0<|B5×Obj)(E':B2->B3->Prop)(Ex':St->XK),Cat (X.trial Z E') Ex'->FSs (X.trial Z E') B G Ex' body u)(hg:Gl X x)(Q:X.mg x=some (.ref cc))(A:∀z,B.mg z=X.mg z)(J:(x==("__debug__":Str))=false)(hF:zA8 X.K cc cc)(w:X.stack=X.env::X.outer)(F:X.env.frame=some X.env.locals) :
  FS X B G Ex (.Try body [.ExceptHandler (some<|.Name x np) none [.Assign [.Name y p3] (.Constant (.bool b) k p1) p2] hpos] [] [] pos) (sTa x i (.bl b) u):=by
 erw[<-⟨?_,zKc g P⟩,<-wkS (wY (Dc:=cc) (tb:=λEx'=>LS B G Ex' u) (ts:=LS B G (λ_ _ _ _=>False)<|sA i<|cC<|.bl b) (λZ E' Ex' c=>(hx Z E' Ex' c.cat).p) (λe=>i8 (pS (X:=X.suite e) g (f_c (v:=.bl b) (u:=.bl b) vL λ_=>rfl) hN hi hy (fj rfl) hf).p) hg Q w F J) λD τ H R=>?_];let⟨W,O,S,Y,rg,h⟩:=R;refine⟨W,O,S,Y,rg,P.m (E:=xcE (LEe B Ex W D)<|hda x i (.bl b) G<|LEe B Ex W D) ⟨λ_ _ z=>z,λ_ _ z=>z,λ_ _ z=>z,λ_ _ z=>z,λL σ1 S1 z W' τ1 C dx H' le M r=>?_⟩ h⟩;have z:hda x i (.bl b) G (LEe B Ex W D) L σ1 S1:=z;unfold hda at z;cases q:decide (L.cls=x) with
 |false=>rw[q] at z;exact(g.no z).elim
 |true=>
  rw[q] at z;dsimp only at z;have q:=xBe q;let⟨c',l,rfl⟩:=M.c;rw[q,A,Q] at l;cases l;exact⟨cc,rfl,hF,λee T I=>⟨W',σ1,S1,M.s.same<|dq I _,r,NL.inc le z⟩⟩
end
end Fx
namespace Fx
open PySem L2
variable{e:B4}{J:Type}{hs:B0 ExceptHandler}
inductive Gd where
 |fn (i np:Nat) (df:List U) (mp:List Bool)|cl (i np:Nat) (df:List U)|xc (fs:List Str)|con (u:U)
structure Ct where
 N:B7
 sc:B0 (Str×NameKind)
 gl:B0 (Str×Gd)
 ms:B0 (Str×Str×Nat×Nat)
 mu:B7
 fl:B7
 bl:B7
 ini:B7
 isc:B7
 inC:B6
 top:B6
noncomputable def Ct.nt(c:Ct):Ct:={c with top:=false}
noncomputable def idx(x:Str):B7->Nat->B1 Nat
 |[],_=>none
 |y::r,i=>if x=y then some i else idx x r (i+1)
noncomputable def okN(x:Str):B6:=!(x==("__debug__":Str))&&!(x==("__classdict__":Str))&&!(x==("__name__":Str))
def isV(c:Ct)(x:Str):B6:=match zAt x c.sc with
 |some .local=>true
 |some .cell=>true
 |some .free=>true
 |_=>false
def isL(c:Ct)(x:Str):B6:=match zAt x c.sc with
 |some .local=>true
 |some .cell=>true
 |_=>false
def isG(c:Ct)(x:Str):B6:=(match zAt x c.sc with
 |some .globalImplicit=>true
 |_=>false)&&okN x
def vIx(c:Ct)(x:Str):B1 Nat:=if isV c x&&okN x then idx x c.N 0 else none
def lIx(c:Ct)(x:Str):B1 Nat:=if isL c x then idx x c.N 0 else none
def glo(c:Ct)(x:Str):B1 Gd:=if isG c x then zAt x c.gl else none
def isB(c:Ct)(x:Str):B6:=isG c x&&c.bl.any λy=>decide<|y=x
noncomputable def o1{J β:Type}(f:J->β):B1 J->B1 β
 |some a=>some<|f a
 |none=>none
noncomputable def o2{J β γ:Type}(f:J->β->γ):B1 J->B1 β->B1 γ
 |some a,some b=>some<|f a b
 |_,_=>none
noncomputable def o3{J β γ δ:Type}(f:J->β->γ->δ):B1 J->B1 β->B1 γ->B1 δ
 |some a,some b,some c=>some<|f a b c
 |_,_,_=>none
noncomputable def gd{J:Type}(b:B6)(o:B1 J):B1 J:=match b with
 |true=>o
 |false=>none
noncomputable def zJ9(m:B6):Operator->B1 Pm
 |.Add=>some (.add m)|.Sub=>some .sub|.Mult=>some (match m with|true=>.mulT|false=>.mul)|.FloorDiv=>some .fdiv|.Mod=>some .mod|.Pow=>some .pow|_=>none
noncomputable def zF8:CmpOp->B1 Pm
 |.Eq=>some .eq|.NotEq=>some .ne|.Lt=>some .lt|.LtE=>some .le|.Gt=>some .gt|.In=>some .inn|.NotIn=>some .nin|_=>none
noncomputable def zDc:CmpOp->B1 Pm
 |.Lt=>some .lt|.LtE=>some .le|.Gt=>some .gt|_=>none
noncomputable def zBm:B4->B6
 |.Set ..=>false
 |_=>true
noncomputable def zH9(x:Str):B1 String:=if x="int" then some "int" else if x="bool" then some "bool" else if x="str" then some "str" else if x="tuple" then some "tuple" else none
noncomputable def zGq(m:B6)(x:Str):B1 Pm:=if x="len" then some .len else if x="abs" then some .abs else if x="int" then some .int1 else if x="tuple" then some .tupOf else if x="list" then some (.lstOf m) else if x="all" then some .all else if x="str" then some .str1 else if x="repr" then some .repr else none
noncomputable def zHq(x:Str):B1 Pm:=if x="max" then some .max else if x="min" then some .min else none
noncomputable def zI8:Const->B1 Str
 |.str x=>some x
 |_=>none
def zI7:B4->B1 (Str×Nat×Pos)
 |.Constant k j p=>o1 (λx=>(x,j,p))<|zI8 k
 |_=>none
def zBz:B0 (B1 B4)->B1 (B7)
 |[]=>some []
 |e::r=>o2 (λx a=>x.1::a) (e.bind zI7)<|zBz r
def zBy(c:Ct):B0 B4->B1 (B9)
 |[]=>some []
 |.Name x _::r=>o2 (λi a=>i::a) (lIx c x)<|zBy c r
 |_=>none
def zGj(c:Ct):B4->B1 (B9×B6)
 |.Name x _=>o1 (λi=>([i],true))<|lIx c x
 |.Tuple b _ _=>o1 (λa=>(a,false))<|zBy c b
 |_=>none
noncomputable def locs:B0 (Str×NameKind)->B7
 |[]=>[]
 |(x,.local)::r=>x::locs r
 |_::r=>locs r
noncomputable def frees:B0 (Str×NameKind)->B7
 |[]=>[]
 |(x,.free)::r=>frees r++[x]
 |_::r=>frees r
def zCo(c:Ct):B7->B1 (B9)
 |[]=>some []
 |x::r=>match zAt x c.sc with
  |some .cell=>o2 (λi a=>i::a) (idx x c.N 0)<|zCo c r
  |_=>none
def zFk(sc:Scope):B6:=decide (sc.kind = .function) && sc.names.all (λp=>match p.2 with
 |.local=>true
 |.free=>true
 |.globalImplicit=>true
 |_=>false)&&zBi (sc.names.map (·.1))
noncomputable def dflt(a n:Nat)(df:B8):B1<|B8:=if n<=a/\a-n<=df.length then some (df.drop<|df.length-(a-n)) else none
noncomputable def zDw:B4->B6
 |.Call (.Name y _) _ _ _=>y != ("super":Str)
 |.Call ..=>false
 |_=>true
noncomputable def tg1:B4->B6
 |.Tuple ..=>false
 |_=>true
noncomputable def zFt:B4->B6
 |.Tuple ..=>true
 |_=>false
noncomputable def nmE:B4->B1 (Str×Pos)
 |.Name x p=>some (x,p)
 |_=>none
noncomputable def atE:B4->B1 (B4×Str×Pos)
 |.Attribute o f p=>some (o,f,p)
 |_=>none
noncomputable def clE:B4->B1 (B4×B0 B4×B0 Keyword×Pos)
 |.Call f b a p=>some (f,b,a,p)
 |_=>none
noncomputable def asS:Stmt->B1 (B0 B4×B4×Pos)
 |.Assign ts e p=>some (ts,e,p)
 |_=>none
noncomputable def sole{J:Type}:B0 J->B1 J
 |[x]=>some x
 |_=>none
noncomputable def xcF:B1 Gd->B1 (B7)
 |some (.xc fs)=>some fs
 |_=>none
def iB{r}(h:nmE e=some r):e=.Name r.1 r.2:=by unfold nmE at h;split at h <;> cases h;rfl
def AF{r}(h:atE e=some r):e=.Attribute r.1 r.2.1 r.2.2:=by unfold atE at h;split at h <;> cases h;rfl
def AB{r}(h:clE e=some r):e=.Call r.1 r.2.1 r.2.2.1 r.2.2.2:=by unfold clE at h;split at h <;> cases h;rfl
def wv{e:Stmt}{r}(h:asS e=some r):e=.Assign r.1 r.2.1 r.2.2:=by unfold asS at h;split at h <;> cases h;rfl
def eZ{l:B0 J}{r}(h:sole l=some r):l=[r]:=by unfold sole at h;split at h <;> cases h;rfl
def pe{g:B1 Gd}{r}(h:xcF g=some r):g=some (.xc r):=by unfold xcF at h;split at h <;> cases h;rfl
structure Hd where
 x:Str
 px:Pos
 e:Str
 y:Str
 py:Pos
 z:Str
 pz:Pos
 f:Str
 pf:Pos
 pa:Pos
 ph:Pos
def hdE:ExceptHandler->B1 Hd
 |.ExceptHandler ty nm c j=>ty.bind λt=>(nmE t).bind λi=>nm.bind λe=>(sole c).bind λb=>(asS b).bind λa=>(sole a.1).bind λg=>(nmE g).bind λh=>(atE a.2.1).bind λo=>(nmE o.1).bind λd=>some ⟨i.1,i.2,e,h.1,h.2,d.1,d.2,o.2.1,o.2.2,a.2.2,j⟩
def zHj(hs:B0 ExceptHandler):B1 Hd:=(sole hs).bind hdE
def yw{k:Hd}(h:zHj hs=some k):hs=[.ExceptHandler (some<|.Name k.x k.px) (some k.e) [.Assign [.Name k.y k.py] (.Attribute (.Name k.z k.pz) k.f k.pf) k.pa] k.ph]:=by
 unfold zHj at h;let⟨⟨ty,nm,c,l⟩,h0,h⟩:=xCi.mp h;rw[eZ h0]
 replace h:(ty.bind λt=>(nmE t).bind λj=>nm.bind λe=>(sole c).bind λb=>(asS b).bind λa=>(sole a.1).bind λg=>(nmE g).bind λi=>(atE a.2.1).bind λo=>(nmE o.1).bind λd=>some (⟨j.1,j.2,e,i.1,i.2,d.1,d.2,o.2.1,o.2.2,a.2.2,l⟩:Hd))=some k:=h
 let⟨t,m,h⟩:=xCi.mp h;let⟨j,B,h⟩:=xCi.mp h;let⟨e,n,h⟩:=xCi.mp h;let⟨b,A,h⟩:=xCi.mp h;let⟨a,w,h⟩:=xCi.mp h;let⟨g,v,h⟩:=xCi.mp h;let⟨i,r,h⟩:=xCi.mp h;let⟨o,q,h⟩:=xCi.mp h;let⟨d,p,h⟩:=xCi.mp h;cases h;rw[m,n,iB B,eZ A,wv w,eZ v,iB r,AF q,iB p]
noncomputable def cnE:B4->B1 (B6×Nat×Pos)
 |.Constant (.bool b) k p=>some (b,k,p)
 |_=>none
def AA{r}(h:cnE e=some r):e=.Constant (.bool r.1) r.2.1 r.2.2:=by unfold cnE at h;split at h <;> cases h;rfl
structure Ha where
 x:Str
 px:Pos
 y:Str
 py:Pos
 b:B6
 k:Nat
 pk:Pos
 pa:Pos
 ph:Pos
def haE:ExceptHandler->B1 Ha
 |.ExceptHandler ty nm c i=>ty.bind λt=>(nmE t).bind λh=>match nm with
  |none=>(sole c).bind λb=>(asS b).bind λa=>(sole a.1).bind λg=>(nmE g).bind λd=>(cnE a.2.1).bind λz=>some ⟨h.1,h.2,d.1,d.2,z.1,z.2.1,z.2.2,a.2.2,i⟩
  |some _=>none
def zHk(hs:B0 ExceptHandler):B1 Ha:=(sole hs).bind haE
theorem yx{k:Ha}(h:zHk hs=some k):hs=[.ExceptHandler (some<|.Name k.x k.px) none [.Assign [.Name k.y k.py] (.Constant (.bool k.b) k.k k.pk) k.pa] k.ph]:=by
 unfold zHk at h;let⟨⟨ty,nm,c,j⟩,h0,h⟩:=xCi.mp h;rw[eZ h0]
 replace h:(ty.bind λt=>(nmE t).bind λi=>match nm with
  |none=>(sole c).bind λb=>(asS b).bind λa=>(sole a.1).bind λg=>(nmE g).bind λd=>(cnE a.2.1).bind λz=>some (⟨i.1,i.2,d.1,d.2,z.1,z.2.1,z.2.2,a.2.2,j⟩:Ha)
  |some _=>none)=some k:=h
 let⟨t,l,h⟩:=xCi.mp h;let⟨i,r,h⟩:=xCi.mp h;cases nm with
 |some _=>cases h
 |none=>
  let⟨b,q,h⟩:=xCi.mp h;let⟨a,p,h⟩:=xCi.mp h;let⟨g,o,h⟩:=xCi.mp h;let⟨d,n,h⟩:=xCi.mp h;let⟨z,m,h⟩:=xCi.mp h;cases h;rw[l,iB r,eZ q,wv p,eZ o,iB n,AA m]
noncomputable def zEu:B1 NameKind->B6
 |some .local=>true
 |_=>false
noncomputable def o3'{J β γ δ:Type}(f:J->β->γ->B1 δ)(a:B1 J)(b:B1 β)(c:B1 γ):B1 δ:=a.bind λx=>b.bind λy=>c.bind λz=>f x y z
def vR{β γ δ:Type}{f:J->β->γ->B1 δ}{a:B1 J}{b:B1 β}{c:B1 γ}{r:δ}(h:o3' f a b c=some r):∃x y z,a=some x/\b=some y/\c=some z/\f x y z=some r:=by
 unfold o3' at h;let⟨x,i,h⟩:=xCi.mp h;let⟨y,g,h⟩:=xCi.mp h;let⟨z,d,h⟩:=xCi.mp h;exact⟨x,y,z,i,g,d,h⟩
structure Rs where
 x:Str
 px:Pos
 as:B0 B4
 q:Pos
def zG4(e a:B1 B4):B1 Rs:=e.bind λe=>(clE e).bind λc=>(nmE c.1).bind λn=>gd (c.2.2.1.isEmpty&&a.isNone)<|some ⟨n.1,n.2,c.2.1,c.2.2.2⟩
def wQ{e a:B1 B4}{r:Rs}(h:zG4 e a=some r):e=some (.Call (.Name r.x r.px) r.as [] r.q)/\a=none:=by
 unfold zG4 at h;let⟨g,b,h⟩:=xCi.mp h;let⟨⟨f,i,d,p⟩,h1,h⟩:=xCi.mp h;let⟨n,c,h⟩:=xCi.mp h;unfold gd at h;split at h
 .next z=>
  rw[xCh] at z;cases h;rw[b,AB h1,iB c,List.isEmpty_iff.mp z.1];exact⟨rfl,Option.isNone_iff_eq_none.mp z.2⟩
 .cases h
section
variable{J:Type}
structure Cps(J:Type) where
 E:Ct->B6->B4->B1 (TEx J)
 C:Ct->B6->B4->B0 B4->Pos->B1 (TEx J)
 M:Ct->B4->Str->B0 B4->B1 (TEx J)
 A:Ct->B0 B6->B0 B4->B1 (TAx J)
 T:Ct->B6->B4->B1 (TTx J)
 I:Ct->B6->B4->B1 (TEx J)
def eE(r:Cps J)(c:Ct)(m:B6)(e:B4):B1<|TEx J:=match e with
  |.Name x _=>match vIx c x with
   |some i=>some<|cV i
   |none=>match glo c x with
    |some (.con u)=>some<|cC u
    |_=>none
  |.Constant k _ _=>match k with
   |.int i=>some<|cC<|.int i
   |.str x=>some<|cC<|.str x
   |.bool b=>some<|cC<|.bl b
   |.none=>some<|cC .non
   |_=>none
  |.BinOp a j b _=>o3 (λp x y=>cP p<|zAz x y) (zJ9 m j) (r.E c false a)<|r.E c false b
  |.UnaryOp j a _=>match j with
   |.Not=>o1 (λt=>cB<|tNt t)<|r.T c true a
   |.USub=>o1 (λx=>cP .neg<|aC x aN)<|r.E c false a
   |_=>none
  |.BoolOp j d p=>o1 cB<|r.T c true<|.BoolOp j d p
  |.Compare a ops bs p=>o1 cB<|r.T c true<|.Compare a ops bs p
  |.IfExp t a b _=>o3 cIf (r.T c false t) (r.E c m a)<|r.E c m b
  |.Tuple v _ _=>gd (Nat.ble v.length 1000)<|o1 cT<|r.A c [] v
  |.List v _=>o1 (cP<|.lst m)<|r.A c [] v
  |.Dict ks d _=>match ks,d with
   |[],[]=>some<|cP (.dct []) aN
   |ks,d=>match zBz ks with
    |some q=>gd (zBi q&&Nat.ble q.length 15&&Nat.beq q.length d.length)<|o1 (cP<|.dct q)<|r.A c (d.map λ_=>true) d
    |none=>none
  |.Subscript a b _=>match b with
   |.Slice O P none _=>match O,P with
    |some l,none=>o2 (λx y=>cP (.sl m true false)<|zAz x y) (r.E c false a)<|r.E c false l
    |none,some h=>o2 (λx y=>cP (.sl m false true)<|zAz x y) (r.E c false a)<|r.E c false h
    |_,_=>none
   |b=>gd (zB7 b)<|o2 (λx y=>cP .ix<|zAz x y) (r.E c false a)<|r.E c false b
  |.Attribute o f _=>gd (zBj o&&c.fl.any λg=>decide<|g=f)<|o1 (λx=>cP (.fld f)<|aC x aN)<|r.E c false o
  | .ListComp D n sc _=>gd (!m) (match n with
   |[⟨F,G,B,0⟩]=>match zCo c (frees sc.names),zGj {c with N:=locs sc.names++frees sc.names,sc:=sc.names,inC:=true,top:=false} F,r.I c (tg1 F) G,r.E {c with N:=locs sc.names++frees sc.names,sc:=sc.names,inC:=true,top:=false} false D with
    | some Q,some (H,one),some L,some M=>gd (!c.inC && zFk sc && zBm G && H.all (λk=>Nat.blt k (locs sc.names).length)) (match B with
     |[]=>some (cLx L H one (locs sc.names).length Q M)
     |_=>none)
    |_,_,_,_=>none
   |_=>none)
  |.Call f K w pos=>match w with
   |[]=>gd (K.all zAb)<|r.C c m f K pos
   |_=>none
  |_=>none
def eC(r:Cps J)(c:Ct)(m:B6)(f:B4)(as:B0 B4)(pos:Pos):B1<|TEx J:=match f with
  |.Name x _=>match glo c x with
   |some (.fn i g k l)=>o2 (λa d=>cF i a d) (r.A c l as)<|dflt g as.length k
   |some (.cl i g k)=>gd (!c.inC)<|o2 (λa d=>cK x i a d) (r.A c [] as)<|dflt g (as.length+1) k
   |some _=>none
   | none=>gd (isB c x) (match as with
    |[a]=>match a with
     |.Call (.Name y _) [b] [] _=>match decide (x="len"),decide (y="set") with
      |true,true=>gd (isB c y&&zAb b) (o1 (λz=>cP .lenset<|aC z aN)<|r.E c false b)
      |_,_=>o2 (λp z=>cP p<|aC z aN) (zGq m x) (r.E c false a)
     |a=>o2 (λp z=>cP p<|aC z aN) (zGq m x) (r.E c false a)
    |[a,b]=>match decide (x="isinstance") with
     |true=>match b with
      |.Name y _=>match zH9 y with
       |some t=>gd (isB c y) (o1 (λz=>cP (.isT t)<|aC z aN)<|r.E c false a)
       |none=>none
      |_=>none
     |false=>o3 (λp z w=>cP p<|zAz z w) (zHq x) (r.E c false a) (r.E c false b)
    |_=>none)
  | .Attribute o a j=>gd (j.endLine == pos.line && Nat.blt as.length 29) (match zAt a c.ms with
   |some (C,i,g)=>gd (zDw o) (o3 (λz w d=>cM C a i z w d) (r.E c false o) (r.A c [] as)<|dflt g (as.length+1) [])
   |none=>match o with
    |.Name y _=>match glo c y with
     | some (.con<|.kd h no)=>gd (decide<|a="get") (match as with
      |[e]=>o1 (λz=>cP .get1<|aC (cC<|.kd h no)<|aC z aN) (r.E c false e)
      |[e,d]=>o2 (λz w=>cP .get2<|aC (cC<|.kd h no)<|zAz z w) (r.E c false e) (r.E c false d)
      |_=>none)
     |_=>r.M c o a as
    |o=>r.M c o a as)
  |_=>none
def eM(r:Cps J)(c:Ct)(o:B4)(a:Str)(as:B0 B4):B1<|TEx J:=gd (zBj o) (match as with
  |[]=>gd (decide<|a="pop") (o1 (λz=>cBM "list" .pop z aN)<|r.E c false o)
  |[e]=>if a="append" then o2 (λz w=>cBM "list" .app z<|aC w aN) (r.E c false o) (r.E c false e)
   else if a="extend" then o2 (λz w=>cBM "list" .ext z<|aC w aN) (r.E c false o) (r.E c false e)
   else if a="startswith" then o2 (λz w=>cBM "str" .starts z<|aC w aN) (r.E c false o) (r.E c false e)
   else if a="join" then o2 (λz w=>cBM "str" .join z<|aC w aN) (r.E c false o) (r.E c false e)
   else none
  |[e,d]=>gd (decide<|a="get") (o3 (λz w v=>cBM "dict" .dget z<|zAz w v) (r.E c false o) (r.E c false e)<|r.E c false d)
  |_=>none)
def eA(r:Cps J)(c:Ct)(m:B0 B6)(es:B0 B4):B1<|TAx J:=match es with
 |[]=>some aN
 |e::q=>gd (zAb e)<|o2 aC (r.E c (m.headD false) e)<|r.A c m.tail q
def eT(r:Cps J)(c:Ct)(g:B6)(e:B4):B1<|TTx J:=match e with
  |.UnaryOp op a _=>match op with
   |.Not=>o1 tNt<|r.T c g a
   |_=>none
  |.BoolOp op i p=>match i with
   |[]=>none
   |[a]=>r.T c g a
   |a::b::q=>match op with
    |.And=>o2 tAn (r.T c g a)<|r.T c g<|.BoolOp .And (b::q) p
    |.Or=>o2 tOr' (r.T c g a)<|r.T c g<|.BoolOp .Or (b::q) p
  |.Compare a ops bs _=>match ops,bs with
   |[op],[b]=>match op,b with
    |.Is,.Constant .none _ _=>o1 (λx=>tB<|cP .isN<|aC x aN)<|r.E c false a
    |op,b=>gd (zBm b)<|o3 (λp x y=>tB<|cP p<|zAz x y) (zF8 op) (r.E c false a)<|r.E c false b
   | [p,q],[b,d]=>gd (zBm b && zBm d) (match zDc p,zDc q with
    |some p,some q=>o3 (λx y z=>tCh p q x y z) (r.E c false a) (r.E c false b) (r.E c false d)
    |_,_=>none)
   |_,_=>none
  |.Call f j h p=>o1 tB<|r.E c false<|.Call f j h p
  |.IfExp q a b _=>gd (!g)<|o3 tIi (r.T c false q) (r.T c false a)<|r.T c false b
  |.Attribute o f p=>gd (!g)<|o1 (λx=>tB<|cP .tru<|aC x aN)<|r.E c false<|.Attribute o f p
  |.Name x p=>match g with
   |true=>o1 tB<|r.E c false<|.Name x p
   |false=>o1 (λy=>tB<|cP .tru<|aC y aN)<|r.E c false<|.Name x p
  |_=>none
def eI(r:Cps J)(c:Ct)(one:B6)(e:B4):B1<|TEx J:=match e with
  |.Call (.Name x p) d [] q=>match isB c x&&decide (x="range") with
   |true=>match d with
    |[a]=>gd (zAb a)<|o1 (λz=>cP .rng1<|aC z aN)<|r.E c false a
    |[a,b]=>gd (zAb a&&zAb b)<|o2 (λz w=>cP .rng2<|zAz z w) (r.E c false a)<|r.E c false b
    |_=>none
   |false=>match isB c x&&decide (x="zip") with
    |true=>match d with
     |[a,b]=>gd (!one&&zAb a&&zAb b)<|o2 (λz w=>cP .zip<|zAz z w) (r.E c false a)<|r.E c false b
     |_=>none
    |false=>match isB c x&&decide (x="enumerate") with
      |true=>match d with
       |[a]=>gd (!one&&zAb a)<|o1 (λz=>cP .enm<|aC z aN)<|r.E c false a
       |_=>none
      |false=>o1 (λz=>cP .seq<|aC z aN)<|r.E c false<|.Call (.Name x p) d [] q
  |e=>o1 (λz=>cP .seq<|aC z aN)<|r.E c false e
def cps:Nat->Cps J
 |0=>⟨λ_ _ _=>none,λ_ _ _ _ _=>none,λ_ _ _ _=>none,λ_ _ _=>none,λ_ _ _=>none,λ_ _ _=>none⟩
 |n+1=>⟨eE<|cps n,eC<|cps n,eM<|cps n,eA<|cps n,eT<|cps n,eI<|cps n⟩
def cpE(c:Ct)(n:Nat)(m:B6)(e:B4):B1<|TEx J:=(cps n).E c m e
def cpC(c:Ct)(n:Nat)(m:B6)(f:B4)(as:B0 B4)(pos:Pos):B1<|TEx J:=(cps n).C c m f as pos
def cpM(c:Ct)(n:Nat)(o:B4)(a:Str)(as:B0 B4):B1<|TEx J:=(cps n).M c o a as
def cpA(c:Ct)(n:Nat)(m:B0 B6)(es:B0 B4):B1<|TAx J:=(cps n).A c m es
def cpT(c:Ct)(n:Nat)(a:B6)(e:B4):B1<|TTx J:=(cps n).T c a e
def cpI(c:Ct)(n:Nat)(one:B6)(e:B4):B1<|TEx J:=(cps n).I c one e
noncomputable def sZ:TSx J:=λG _ _ _=>G.fail
def zI5(c:Ct):B4->B1 Nat
 |.Name x _=>if(c.mu.any λy=>decide<|y="!"++x)=true then vIx c x else none
 |_=>none
def zHd(c:Ct)(x y:Str)(g d:Pos)(a b:B4):B6:=!c.inC&&!decide (x=y)&&zEu (zAt x c.sc)&&zEu (zAt y c.sc)&&(d.line==g.line)&&zAb a&&zAb b&&!(foldedForSure 8 a&&foldedForSure 8 b)&&!(constantsAlone 8 a&&constantsAlone 8 b)
noncomputable def zGo:B4->B6
 |.Name ..=>true
 |_=>false
structure Cpt(J:Type) where
 S:Ct->Stmt->B1 (TSx J)
 L:Ct->B0 Stmt->B1 (TSx J)
def eS(n:Nat)(r:Cpt J)(c:Ct)(s:Stmt):B1<|TSx J:=match s with
  |.Pass _=>some sN
  |.Expr e _=>gd (zBa e)<|o1 sE<|cpE c n false e
  |.Return e _=>match e with
   |some e=>match zI5 c e with
    |some i=>some<|sR<|cP .frz<|aC (cV i) aN
    |none=>o1 sR<|cpE c n false e
   |none=>none
  |.If t a b _=>o3 sI (cpT c n false t) (r.L c a)<|r.L c b
  |.While t b orelse _=>match orelse with
   |[]=>o2 sW (cpT c.nt n false t)<|r.L c.nt b
   |_=>none
  |.For d m b orelse _=>match orelse with
   |[]=>match zGj c d with
    |some (B,one)=>gd (zBm m&&(one||zFt d))<|o2 (λz w=>sF z B one w) (cpI c n (tg1 d) m)<|r.L c.nt b
    |none=>none
   |_=>none
  |.Assign l e _=>match l with
   | [d]=>gd (zBa e || zGo d) (match d with
    |.Name x _=>o2 sA (lIx c x) (cpE c n (c.mu.any λy=>decide<|x=y) e)
    |.Tuple p _ _=>match zFt e with
     |false=>o2 sU (zBy c p) (cpE c n false e)
     |true=>match p,e with
      |[.Name x A,.Name y q],.Tuple [a,b] _ _=>gd (zHd c x y A q a b) (o3' (λi j a=>o1 (λb=>sPr i j a b)<|cpE c n false b) (lIx c x) (lIx c y)<|cpE c n false a)
      |_,_=>none
    |.Attribute o f _=>gd (c.fl.any λg=>decide<|g=f) (o2 (λz w=>sP (.setf f) w<|aC z aN) (cpE c n false o)<|cpE c n true e)
    |.Subscript o i _=>gd (zB7 i) (o3 (λz w v=>sP .seti v<|zAz z w) (cpE c n false o) (cpE c n false i)<|cpE c n true e)
    |_=>none)
   |_=>none
  |.Raise e D _=>(zG4 e D).bind λu=>(xcF<|glo c u.x).bind λfs=>match fs with
   |[]=>gd u.as.isEmpty<|some<|sX u.x [] aN
   |f::C=>gd C.isEmpty<|(sole u.as).bind λa=>gd (zAb a)<|o1 (λz=>sX u.x [f]<|aC z aN)<|cpE c n false a
  |.Try b hs orelse k _=>match zHk hs with
    |some h=>gd (orelse.isEmpty&&k.isEmpty)<|(xcF<|glo c h.x).bind λfs=>gd fs.isEmpty<|o2 (λi t=>sTa h.x i (.bl h.b) t) (lIx c h.y)<|r.L c.nt b
    |none=>(zHj hs).bind λh=>gd (orelse.isEmpty&&k.isEmpty)<|(xcF<|glo c h.x).bind λfs=>(sole fs).bind λg=>gd (decide (h.z=h.e)&&decide (g=h.f)&&zEu (zAt h.e c.sc)&&okN h.e)<|o3' (λi j t=>gd (!Nat.beq i j)<|some<|sT h.x i j h.f t) (lIx c h.e) (lIx c h.y)<|r.L c.nt b
  |_=>none
def eL(r:Cpt J)(c:Ct)(ss:B0 Stmt):B1<|TSx J:=match ss with
 |[]=>some sN
 |s::q=>o2 sQ (some<|(r.S c s).getD sZ)<|r.L c q
def cpt:Nat->Cpt J
 |0=>⟨λ_ _=>none,λ_ _=>none⟩
 |n+1=>⟨eS n<|cpt n,eL<|cpt n⟩
def cpS(c:Ct)(n:Nat)(s:Stmt):B1<|TSx J:=(cpt n).S c s
def zF7(c:Ct)(n:Nat)(ss:B0 Stmt):B1<|TSx J:=(cpt n).L c ss
end
end Fx
namespace Fx
open PySem PySem.Spec L2
open PyProof.Rows hiding St
variable{J β γ:Type}{o tg e:B4}{apos pos py spos p3 p4:Pos}{env:Env}{x y:Str}{is:B9}{H:Hp}{vs:B8}{S S':So}{v:U}{op:CmpOp}{p:Pm}{n fw:Nat}{kk:B7}{as:B0 B4}{r:Row}{fd:FuncData}{B:Bs}
def dh{f:J->β}{o:B1 J}{b:β}(h:o1 f o=some b):∃a,o=some a/\b=f a:=by cases o <;> cases h;exact⟨_,rfl,rfl⟩
def dj{f:J->β->γ}{o:B1 J}{p:B1 β}{b:γ}(h:o2 f o p=some b):∃x y,o=some x/\p=some y/\b=f x y:=by cases o <;> cases p <;> cases h;exact⟨_,_,rfl,rfl,rfl⟩
def io{δ:Type}{f:J->β->γ->δ}{o:B1 J}{p:B1 β}{q:B1 γ}{b:δ}(h:o3 f o p q=some b):∃x y z,o=some x/\p=some y/\q=some z/\b=f x y z:=by cases o <;> cases p <;> cases q <;> cases h;exact⟨_,_,_,rfl,rfl,rfl,rfl⟩
theorem cS{b:B6}{o:B1 J}{x:J}(h:gd b o=some x):b=true/\o=some x:=by
 cases b with
 |true=>exact⟨rfl,h⟩
 |false=>cases h
theorem ju{x:Str}:∀{l:B7}{i j:Nat},idx x l i=some j->i<=j/\l[j-i]?=some x
 |[],_,_,h=>by cases h
 |y::r,i,j,h=>by
  unfold idx at h;split at h
  .next e=>cases h;exact⟨xAg _,by rw[Nat.sub_self,e];rfl⟩
  .let⟨b,a⟩:=ju h;exact⟨(),by rw[show j-i=(j-(i+1))+1 by lia];simpa using a⟩
def uG{m:Str}{es:B0 B4}(d:attributeBase o m env (eval o env)=eval o env)(a:es.all zAb=true)(g:es.length<29)(b:(apos.endLine == pos.line)=true):∃pl,eval (.Call (.Attribute o m apos) es [] pos) env=(do
   let ov <- eval o env
   standAt apos.atName
   let (f,first) <- holding [ov] (getMethod ov m pl)
   callWith pos f first (backTo pos<|starEach es env) (backToKw pos<|keywordEach [] env)):=by
 have c:methodCallForm (es.length+([]:B0 Keyword).length) (backTo pos<|starEach es env) (backToKw pos<|keywordEach [] env)=true:=by
  unfold methodCallForm;rw[jP a];simp[keywordEach,backToKw];lia
 refine⟨do return (<- importBound o env).getD true,?_⟩;rw[show eval (.Call (.Attribute o m apos) es [] pos) env=(do
  let ov <- attributeBase o m env (eval o env)
  standAt apos.atName
  methodCall o m apos pos env ov (es.length+([]:B0 Keyword).length) (backTo pos<|starEach es env) (backToKw pos<|keywordEach [] env)) from rfl,d]
 unfold methodCall methodCallPos calleeOf;rw[c,b];rfl
set_option tactic.hygienic true
def vn{m:Str}{x:Sem B2}(h:zDw o=true):attributeBase o m env x=x:=by
 cases o <;> try rfl
 rename_i f as ks p
 cases f <;> try (cases h;done)
 rename_i y q
 have a:(y != ("super":Str))=true:=h;cases as <;> cases ks <;> try rfl
 unfold attributeBase;dsimp only;rw[xCg<|by rw[a];rfl]
set_option tactic.hygienic false
structure Fc(P:Program)(w:World)(base:Heap)(B:Bs)(up:B0 (Str×Str))(G:C8)(lv:Nat)(c:Ct):Prop where
 g:zB1 up G
 fn:∀{x i np df mp},zAt x c.gl=some (.fn i np df mp)->∃f fd ps,B.mg x=some (.ref f)/\PySem.W.keepIn B.K (.ref f)=true/\zA5 P w B.K B.mg base (CXo P w) lv f fd ps (spF B G i np)/\(∀{n ds},dflt np n df=some ds->n+ds.length=np/\∃dvs dv,zAv B.K fd ps dv/\zAi dvs dv/\∀W,Rvs B W ds dvs)
 cl:∀{x i np df},zAt x c.gl=some (.cl i np df)->∃cc f fd ps,B.cl x cc/\B.mg x=some (.ref cc)/\Mk B.K cc f/\zA5 P w B.K B.mg base (CXo P w) lv f fd ps (spF B G i np)/\(∀{n ds},dflt np n df=some ds->n+ds.length=np/\∃dvs dv,zAv B.K fd ps dv/\zAi dvs dv/\∀W,Rvs B W ds dvs)
 ms:∀{m C i np},zAt m c.ms=some (C,i,np)->∃cc f fd ps,(∀c',B.cl C c'->c'=cc)/\Cls B.K cc/\zEn B.K cc m f/\zA5 P w B.K B.mg base (CXo P w) lv f fd ps (spF B G i np)/\zAv B.K fd ps []
 con:∀{x u},zAt x c.gl=some (.con u)->∃v val,B.mg x=some val/\zAj v val/\∀W,Rv B W u v
 x0:∀{x},zAt x c.gl=some (.xc [])->∃cc,B.mg x=some (.ref cc)/\PySem.W.excIn B.K cc bmV "ValueError.__new__"=true/\zCd B.K cc=true/\PySem.W.keepIn B.K (.ref cc)=true
 x1:∀{x f},zAt x c.gl=some (.xc [f])->∃cc f' fd s0,B.mg x=some (.ref cc)/\XMk B.K cc f'/\zA5 P w B.K B.mg base (CXo P w) lv f' fd [s0,f] (zFa B.K f)/\zAv B.K fd [s0,f] []/\XSt B.K cc/\zAw B.K cc f/\zCd B.K cc=true/\zA8 B.K cc cc/\XGt B.K cc
 bl:∀{x},x∈c.bl->B.mg x=none
 k1:zCw B "int"
 k2:zCw B "bool"
 k3:zCw B "str"
 k4:zCw B "tuple"
 clf:ClF B c.fl
 clt:ClT B
 kdf:KdF w B
structure Cok(P:Program)(w:World)(base:Heap)(B:Bs)(lv:Nat)(c:Ct)(X:Cx):Prop where
 hP:X.prog=P
 hw:X.w=w
 hK:X.K=B.K
 hM:X.mg=B.mg
 hb:X.base=base
 N:X.N=c.N
 nd:X.N.Nodup
 vis:∀{x},isV c x=true->Vis X.env.scope x
 loc:∀{x},isL c x=true->Loc X.env.scope x/\(X.fn x=true\/X.env.scope.names.lookup x=some .local)
 lc:∀{x},zAt x c.sc=some .local->X.env.kindOf x=some .local
 gl:∀{x},isG c x=true->Gl X x
 calm:X.calm=true
 hr:zBe (lv+1) X.A
 bk:c.inC=false->X.env.blockKind=.function
 cap:c.inC=false->∀{x},zAt x c.sc=some .cell->X.env.scope.names.lookup x=some .cell/\∃a,X.env.cells.lookup x=some a
section
variable{P:Program}{w:World}{base:Heap}{B:Bs}{up:B0<|Str×Str}{G:C8}{lv:Nat}{c:Ct}{X:Cx}{Ex:St->XK}
theorem Cok.f{k:Nat}{f:B5}{fd:FuncData}{ps:B7}{sp:Sp}(a:Cok P w base B lv c X)(F:zA5 P w B.K B.mg base (CXo P w) k f fd ps sp):zA5 X.prog X.w X.K X.mg X.base (CXo X.prog X.w) k f fd ps sp:=by
 rw[a.hP,a.hw,a.hK,a.hM,a.hb];exact F
def dw(h:isG c x=true):okN x=true:=by unfold isG at h;rw[xCh] at h;exact h.2
def c7(h:okN x=true):(x==("__debug__":Str))=false/\(x==("__classdict__":Str))=false/\x≠"__name__":=by
 simp only[okN,xCh,Bool.not_eq_true'] at h;exact⟨h.1.1,h.1.2,λz=>by have:=h.2;rw[z] at this;simp at this⟩
def fF{d:Gd}(h:glo c x=some d):isG c x=true/\zAt x c.gl=some d:=by
 unfold glo at h;split at h
 .next e=>exact⟨e,h⟩
 .cases h
def fE(h:isB c x=true):isG c x=true/\x∈c.bl:=by
 unfold isB at h;rw[xCh] at h;let⟨y,a,e⟩:=xCy.mp h.2;exact⟨h.1,by rw[<- xBe e];exact a⟩
def wy{i:Nat}(k:Cok P w base B lv c X)(h:vIx c x=some i):X.N[i]?=some x/\Vis X.env.scope x/\okN x=true:=by
 unfold vIx at h;split at h
 .next e=>
  rw[xCh] at e;let⟨_,a⟩:=ju h;exact⟨by rw[k.N];simpa using a,k.vis e.1,e.2⟩
 .cases h
def fg{i:Nat}(k:Cok P w base B lv c X)(h:lIx c x=some i):X.N[i]?=some x/\Loc X.env.scope x/\(X.fn x=true\/X.env.scope.names.lookup x=some .local):=by
 unfold lIx at h;split at h
 .next e=>
  let⟨_,a⟩:=ju h;exact⟨by rw[k.N];simpa using a,k.loc e⟩
 .cases h
set_option tactic.hygienic true
theorem zBk(k:Cok P w base B lv c X):∀{es:B0 B4}{is:B9},zBy c es=some is->es.length=is.length/\∀(j:Nat)(e:B4),es[j]?=some e->∃x p i,e=.Name x p/\is[j]?=some i/\X.N[i]?=some x/\Loc X.env.scope x/\(X.fn x=true\/X.env.scope.names.lookup x=some .local)
 |[],is,h=>by cases h;exact⟨rfl,λj e z=>by simp at z⟩
 |e::es,is,h=>by
  cases e <;> try (cases h;done)
  rename_i x p
  let⟨i,a,d,b,rfl⟩:=dj<|show o2 _ (lIx c x) (zBy c es)=_ from h;let⟨l,q⟩:=zBk k b;refine⟨by simp[l],λj e z=>?_⟩;cases j with
  |zero=>simp at z;subst z;exact⟨x,p,i,rfl,rfl,fg k d⟩
  |succ j=>simpa using q j e (by simpa using z)
set_option tactic.hygienic false
def vy{one:B6}(k:Cok P w base B lv c X)(h:zGj c tg=some (is,one)):FG X B G tg is one/\(one=true->is.length=1):=by
 cases tg <;> try (cases h;done)
 .let⟨i,g,e⟩:=dh<|show o1 _ _=_ from h;cases e;let⟨a,b,d⟩:=fg k g;exact⟨Bn k.nd a b d,λ_=>rfl⟩
 .let⟨i,g,e⟩:=dh<|show o1 _ _=_ from h;cases e;let⟨l,q⟩:=zBk k g;exact⟨Bm k.hK k.calm k.nd q l,nofun⟩
theorem cw{J:Type}{x:Str}:∀{l:B0<|Str×J},zAt x l=l.lookup x
 |[]=>rfl
 |(y,v)::r=>by
  unfold zAt;rw[List.lookup_cons];by_cases e:x=y
  .rw[xCg e,e];simp
  .rw[xCf e,beq_false_of_ne e];exact cw
theorem dy{env:Env}:∀{a:B0<|Str×NameKind}{x:Str},a.lookup x=some .globalImplicit ->
  (a.map λ(n,k)=>if(k==NameKind.free&&env.scope.kind == .function&&env.kindOf n==some .cell) then(n,NameKind.cell) else(n,k)).lookup x=some .globalImplicit
 |[],_,h=>by simp at h
 |(n,k)::r,x,h=>by
  have b:=@dy env r x;show List.lookup x ((if(k==NameKind.free&&env.scope.kind == .function&&env.kindOf n==some .cell)=true then(n,NameKind.cell) else(n,k))::_)=_;cases hx:x==n with
  |true=>
   simp only[List.lookup_cons,hx] at h;cases h;simp[hx,List.lookup_cons]
  |false=>
   simp only[List.lookup_cons,hx] at h;split <;> simp only[List.lookup_cons,hx] <;> exact b h
theorem lQ{env:Env}:∀{l:B0<|Str×NameKind},(∀y,(y,NameKind.free)∈l->∃a,env.cells.lookup y=some a)->∀acc:B0<|Str×B5,∃cl,(forIn l acc λ(p:Str×NameKind) (cs:B0<|Str×B5)=>(do
   if(p.2==NameKind.free)=true then do
    let a <- cellOf env p.1
    pure (ForInStep.yield<|(p.1,a)::cs)
   else pure (ForInStep.yield cs):Sem<|ForInStep<|B0<|Str×B5))=pure (cl++acc)/\cl.map (·.1)=frees l/\∀q∈cl,env.cells.lookup q.1=some q.2
 |[],_,acc=>⟨[],rfl,rfl,λ_ h=>nomatch h⟩
 |(y,k)::r,h,acc=>by
  by_cases e:k=.free
  .subst e;let⟨a,j⟩:=h y xAr;let⟨cl,i,g,d⟩:=lQ (l:=r) (λz b=>h z<|xAs _ b)<|(y,a)::acc;refine⟨cl++[(y,a)],?_,by rw[xAi,g];rfl,λq hq=>?_⟩
   .rw[List.forIn_cons,xAx,show[(y,a)]++acc=(y,a)::acc from rfl,<- i];simp only[cellOf,j];rfl
   .rcases xAj.mp hq with hq|hq
    .exact d q hq
    .rw[xAm.mp hq];exact j
  .let⟨cl,i,g,d⟩:=lQ (l:=r) (λz b=>h z<|xAs _ b) acc;refine⟨cl,?_,by rw[g];cases k <;> first|rfl|exact absurd rfl e,d⟩;rw[List.forIn_cons,<- i];simp only[show(k==NameKind.free)=false from beq_false_of_ne e];rfl
def lP{scope:Scope}(h:∀y,(y,NameKind.free)∈scope.names->∃a,env.cells.lookup y=some a):∃cl,closureFor scope env=pure cl/\cl.map (·.1)=frees scope.names/\∀q∈cl,env.cells.lookup q.1=some q.2:=by
 let⟨cl,b,g,d⟩:=lQ h [];refine⟨cl,?_,g,d⟩;rw[xB0] at b;have:=congrArg (λz:Sem<|B0<|Str×B5=>z>>=λr=>pure r) b;exact this
theorem kn{x:Str}:∀{l:B0<|Str×NameKind},x∈locs l↔(x,NameKind.local)∈l
 |[]=>by simp[locs]
 |(y,k)::r=>by cases k <;> simp[locs,kn (l:=r)]
theorem eB{x:Str}:∀{l:B0<|Str×NameKind},x∈frees l↔(x,NameKind.free)∈l
 |[]=>by simp[frees]
 |(y,k)::r=>by cases k <;> simp[frees,eB (l:=r),or_comm]
theorem jp{y:Str}{k:NameKind}:∀{l:B0<|Str×NameKind},(l.map (·.1)).Nodup->(y,k)∈l->l.lookup y=some k
 |[],_,h=>nomatch h
 |(z,b)::r,a,h=>by
  rw[xBs,xCb] at a;rw[List.lookup_cons];rcases xAv.mp h with e|h
  .cases e;simp
  .have:y≠z:=λe=>a.1 (by rw[<- e];exact xA2.mpr ⟨_,h,rfl⟩);rw[beq_false_of_ne this];exact jp a.2 h
theorem kg:∀{l:B0<|Str×NameKind},(l.map (·.1)).Nodup->(locs l++frees l).Nodup
 |[],_=>List.nodup_nil
 |(z,k)::r,d=>by
  rw[xBs,xCb] at d;have g:=kg d.2;have j:z∉locs r:=λh=>d.1<|xA2.mpr ⟨_,kn.mp h,rfl⟩;have i:z∉frees r:=λh=>d.1<|xA2.mpr ⟨_,eB.mp h,rfl⟩;cases k <;> try exact g
  .show(z::(locs r++frees r)).Nodup;exact xCb.mpr ⟨λh=>(xAj.mp h).elim j i,g⟩
  .show(locs r++(frees r++[z])).Nodup;rw[<- xAx];refine xBq.mpr ⟨g,⋯,λa q b m=>?_⟩;rw[xAm.mp m];rintro rfl
   exact(xAj.mp q).elim j i
theorem sK(k:Cok P w base B lv c X)(j:c.inC=false){scope:Scope}{cl:B0<|Str×B5}(d:∀q∈cl,X.env.cells.lookup q.1=some q.2)(b:∀y,(y,NameKind.free)∈scope.names->scope.names.lookup y=some .free) :
  ∀{fs:B7}{cs:B9},(∀y∈fs,(y,NameKind.free)∈scope.names/\∃a,cl.lookup y=some a)->zCo c fs=some cs->Paired (zCh X scope cl) fs cs
 |[],cs,_,h=>by cases h;exact .nil
 |y::fs,cs,g,h=>by
  unfold zCo at h;split at h <;> try (cases h;done)
  next e=>
   let⟨i,is,E,D,rfl⟩:=dj h;let⟨C,a,l⟩:=g y xAr;let⟨_,A⟩:=ju E;exact .cons ⟨⟨a,l,d _<|dn l⟩,by rw[k.N];simpa using A,(k.cap j e).1,b y C⟩<|sK k j d b (λz m=>g z<|xAs _ m) D
theorem kO:∀{fs:B7}{cs:B9},zCo c fs=some cs->∀y∈fs,zAt y c.sc=some .cell
 |[],cs,_,y,hy=>nomatch hy
 |z::fs,cs,h,y,hy=>by
  unfold zCo at h;split at h <;> try (cases h;done)
  next e=>
   let⟨i,is,b,a,rfl⟩:=dj h;rcases xAv.mp hy with rfl|hy
   .exact e
   .exact kO a y hy
noncomputable def cty(c:Ct)(sc:Scope):Ct:={c with N:=locs sc.names++frees sc.names,sc:=sc.names,inC:=true,top:=false}
def Fc.re{sc:Scope}(F:Fc P w base B up G lv c):Fc P w base B up G lv<|cty c sc:=⟨F.g,F.fn,F.cl,F.ms,F.con,F.x0,F.x1,F.bl,F.k1,F.k2,F.k3,F.k4,F.clf,F.clt,F.kdf⟩
def zHc{X:Cx}:zB0 (CXo X.prog X.w) X λ_ _ _ _=>False:=λZ O H s b a I z=>by let⟨_,_,_,_,_,_,_,_,_,_,_,_,_,h⟩:=z;exact h.elim
structure Pz(c:Ct)(X:Cx)(Ex:St->XK):Prop where
 pass:zB0 (CXo X.prog X.w) X Ex
 cat:c.top=true->zAy X Ex
structure Cz(c:Ct)(X:Cx)(Ex:St->XK):Prop where
 ca:Cat X Ex
 t:c.top=true->zAy X Ex
def Cz.pz(h:Cz c X Ex):Pz c X Ex:=⟨h.ca.pass,h.t⟩
def pzF{sc:Scope}:Pz (cty c sc) X λ_ _ _ _=>False:=⟨zHc,nofun⟩
theorem Fc.nt(F:Fc P w base B up G lv c):Fc P w base B up G lv c.nt:=⟨F.g,F.fn,F.cl,F.ms,F.con,F.x0,F.x1,F.bl,F.k1,F.k2,F.k3,F.k4,F.clf,F.clt,F.kdf⟩
theorem Cok.nt(k:Cok P w base B lv c X):Cok P w base B lv c.nt X:=⟨k.hP,k.hw,k.hK,k.hM,k.hb,k.N,k.nd,k.vis,k.loc,k.lc,k.gl,k.calm,k.hr,k.bk,k.cap⟩
def nc{sc:Scope}(h:zFk sc=true):sc.kind=.function/\(sc.names.map (·.1)).Nodup/\∀y k,(y,k)∈sc.names->k=.local\/k=.free\/k=.globalImplicit:=by
 simp only[zFk,xCh,xCx] at h;refine⟨xBe h.1.1,d0 h.2,λy k a=>?_⟩;have:=h.1.2 _ a;cases k <;> simp_all
def sG{sc:Scope}{cl:B0<|Str×B5}{C:B5}{s:B3}{fp:B0 B5}(k:Cok P w base B lv c X)(h:zFk sc=true):Cok P w base B lv (cty c sc)<|zAo X (locs sc.names++frees sc.names) sc cl C s H fp:=by
 let⟨i,g,d⟩:=nc h;refine⟨k.hP,k.hw,k.hK,k.hM,k.hb,rfl,kg g,λ{x} a=>?_,λ{x} a=>?_,λ{x} a=>lookup_relabel_local (by rw[<- cw];exact a),λ{x} a=>?_,k.calm,k.hr,nofun,nofun⟩
 .unfold isV at a;rw[cw] at a;split at a <;> try (cases a;done)
  .next e=>exact .inl (lookup_relabel_local e)
  .next e=>rcases d _ _ (dn e) with z|z|z <;> cases z
  .next e=>exact .inr (dz e)
 .unfold isL at a;rw[cw] at a;split at a <;> try (cases a;done)
  .next e=>exact⟨.inl<|lookup_relabel_local e,.inr<|lookup_relabel_local e⟩
  .next e=>rcases d _ _ (dn e) with z|z|z <;> cases z
 .unfold isG at a;rw[xCh,cw] at a;have b:=a.1;split at b
  .next e=>exact dy e
  .cases b
def vk{sc:Scope}{cs:B9}(k:Cok P w base B lv c X)(i:c.inC=false)(h:zFk sc=true)(d:zCo c (frees sc.names)=some cs):∃cl,zCb X sc cl (locs sc.names) (frees sc.names) cs:=by
 let⟨E,j,D⟩:=nc h;let⟨cl,m,g,l⟩:=lP (scope:=sc) (env:=X.env) λy b=>(k.cap i<|kO d y<|eB.mpr b).2;have C:∀y∈frees sc.names,∃a,cl.lookup y=some a:=λy b=>by
  rw[<- g] at b;let⟨q,hq,rfl⟩:=xA2.mp b;clear m g l b;induction cl with
  |nil=>cases hq
  |cons p r A=>
   rw[List.lookup_cons];by_cases e:q.1==p.1
   .rw[e];exact⟨_,rfl⟩
   .rw[Bool.eq_false_iff.mpr e];rcases xAv.mp hq with rfl|hq
    .simp at e
    .exact A hq
 exact⟨cl,zCb.mk' m (λy b e=>by rcases D y.1 y.2 b with z|z|z <;> rw[e] at z <;> cases z) E (λy b e=>jp j<|by rw[<- e];exact b) (sK k i l (λy b=>jp j b) (λy b=>⟨eB.mp b,C y b⟩) d) (λy b e=>eB.mpr<|by rw[<- e];exact b) g⟩
end
section
variable{B:Bs}{up:B0<|Str×Str}{G:C8}{Ex:St->XK}{a b d:C5}{X:Cx}{e ea eb ec:B4}{pos p1:Pos}{j:Nat}(g:zB1 up G)
def rJ{f:Int->Int->B6}{z:U}(h:i2 (λi j=>.bl<|f i j) S vs=.ok z S'):∃c,z=.bl c:=by
 let⟨i,j,_,rfl,_⟩:=nu h;exact⟨_,rfl⟩
def yJ{f:B6->B6}{w:U}{z:U}(h:Fx.eqU f v w S=.ok z S'):∃c,z=.bl c:=by
 unfold Fx.eqU at h;split at h
 .cases h;exact⟨_,rfl⟩
 .split at h
  .cases h;exact⟨_,rfl⟩
  .split at h
   .cases h;exact⟨_,rfl⟩
   .cases h
def xT{w:U}{z:U}(h:Fx.neU v w S=.ok z S'):∃c,z=.bl c:=by
 unfold Fx.neU at h;split at h
 .cases h;exact⟨_,rfl⟩
 .split at h
  .cases h;exact⟨_,rfl⟩
  .split at h
   .cases h;exact⟨_,rfl⟩
   .cases h
def qT{f:B6->B6}{o:B1 B6}{z:U}(h:obB o f S=.ok z S'):∃c,z=.bl c:=by
 unfold obB at h;split at h
 .cases h;exact⟨_,rfl⟩
 .cases h
def unmarked(h:zBm eb=true):behindInMarks op eb=false:=by cases eb <;> first|rfl|cases h
include g
theorem yR(l:X.K=B.K)(m:X.A.units+100<cLine)(h:zF8 op=some p)(q:zBm eb=true)(F:FE X B G Ex ea a)(E:FE X B G Ex eb b) :
  FT X B G Ex (.Compare ea [op] [eb] pos) (tB<|cP p<|zAz a b)/\FE X B G Ex (.Compare ea [op] [eb] pos) (cB<|tB<|cP p<|zAz a b):=by
 have i:∀{r:R2},OpR X (compareOp op) r->Pr2 B up p r->(∀v w S z S',pr up p [v,w] S=.ok z S'->∃c,z=.bl c)->FT X B G Ex (.Compare ea [op] [eb] pos) (tB<|cP p<|zAz a b)/\FE X B G Ex (.Compare ea [op] [eb] pos) (cB<|tB<|cP p<|zAz a b):=λD C I=>
  ⟨Au g D C I F E<|unmarked q,uX g<|yG g D C F E<|unmarked q⟩
 have k:X.A.units+1<cLine:=()
 cases op <;> cases h
 .exact i (A5 m) (by rw[l];exact A0) λ_ _ _ _ _=>yJ
 .exact i (A3 m) AX λ_ _ _ _ _=>xT
 .exact i vO zJ λ_ _ _ _ _=>rJ
 .exact i vP zL λ_ _ _ _ _=>rJ
 .exact i vQ zM λ_ _ _ _ _=>rJ
 .exact i (A4 k) (by rw[l];exact AZ) λ_ _ _ _ _=>qT
 .exact i (zU k) (by rw[l];exact zD) λ_ _ _ _ _=>qT
omit g in
theorem pX{f:Int->Int->V}{x y:V}{Q Q':VK}(h:∀v H,Q v H->Q' v H)(q:rI0 f x y H Q):rI0 f x y H Q':=by
 let⟨i,j,k,c,q⟩:=q;exact⟨i,j,k,c,h _ _ q⟩
omit g in
theorem qO(h:zDc op=some p):∃f,OpR X (compareOp op) (rI0 f)/\Pr2 B up p (rI0 f):=by
 cases op <;> cases h
 .exact⟨_,vO,zJ⟩
 .exact⟨_,vP,zL⟩
 .exact⟨_,vQ,zM⟩
theorem AD{c:CmpOp}{q:Pm}(h:zDc op=some p)(h':zDc c=some q)(C:zBm ec=true)(A:FE X B G Ex ea a)(w:FE X B G Ex eb b)(m:FE X B G Ex ec d) :
  FT X B G Ex (.Compare ea [op,c] [eb,ec] pos) (tCh p q a b d)/\FE X B G Ex (.Compare ea [op,c] [eb,ec] pos) (cB<|tCh p q a b d):=by
 let⟨f,o1,k⟩:=qO (X:=X) (B:=B) (up:=up) h;let⟨D,o2,i⟩:=qO (X:=X) (B:=B) (up:=up) h';have l:lastMarks [op,c] [eb,ec]=false:=unmarked (op:=c) C;exact⟨Bp g o1 o2 k i A w m l,Av g o1 o2 k i A w m l (λ_ _ _ _ h=>h) pX pX⟩
theorem rD{f:B6->B6}(T:∀v S,pr up p [v] S=.ok (.bl<|f<|match v with|.non=>true|_=>false) S)(F:OpR X (compareOp op) λx y H Q=>y=.non/\Q (.bl<|f<|decide<|x=.non) H)(hn:op≠.In)(Y:op≠.NotIn)(l:FE X B G Ex ea a) :
  FT X B G Ex (.Compare ea [op] [.Constant .none j p1] pos) (tB<|cP p<|aC a aN)/\FE X B G Ex (.Compare ea [op] [.Constant .none j p1] pos) (cB<|tB<|cP p<|aC a aN):=by
 have I:behindInMarks op (.Constant .none j p1)=false:=rfl;have E:=mP g (p:=p)<|mAC g l.m<|mAN g;have one:∀{W:Wd}{v:U}{u:V},Rv B W v u->(match v with|.non=>true|_=>false)=decide (u=.non):=λ{W v u} r=>by
  cases v with
  |non=>rw[show u=.non from r];rfl
  |bl b=>rw[show u=.bl b from r];rfl
  |int i=>rw[show u=.int i from r];rfl
  |str i=>rw[show u=.str i from r];rfl
  |ty i=>rw[show u=.ty i from r];rfl
  |tup A=>let⟨p,vs,rfl,_⟩:=r;rfl
  |lst A=>let⟨p,vs,rfl,_⟩:=r;rfl
  |kt A=>let⟨p,vs,rfl,_⟩:=r;rfl
  |kl A=>let⟨p,vs,rfl,_⟩:=r;rfl
  |kd R no=>let⟨p,rfl,_⟩:=r;rfl
  |ref a=>let⟨p,rfl,_⟩:=r;rfl
  |gl x=>let⟨p,rfl,_⟩:=r;rfl
 have c:∀{τ:St}{H:Hp}{Q:VK},LE B G Ex (cP p<|aC a aN) τ H Q->LE B G Ex a τ H (λx H1=>Q (.bl<|f<|decide<|x=.non) H1):=λh=>(LE.p1 g l.m h).imp l.m λu H1 K=>by
  let⟨W,S,v,z,S',D,P,e,q⟩:=K;rw[T] at e;cases e;rw[<- one P];exact q.here D rfl
 have Z:FE X B G Ex (.Compare ea [op] [.Constant .none j p1] pos)<|cP p<|aC a aN:=⟨wkE (m9 F l.p lr I) λτ H Q h=>(c h).imp l.m λu H1 q=>⟨rfl,q⟩,E⟩
 refine⟨⟨wkT (mJ F l.p lr I) λτ H Q h=>?_,mB g E⟩,uX g Z⟩;have w:LE B G Ex (cP p<|aC a aN) τ H λx H'=>∃k,x=.bl k/\Q k H':=by
  let⟨W,O,S,D,N,h⟩:=h;refine LE.go E D N h λv S' W' u H' le C L M w=>?_;cases v <;> first|(exact(g.no w).elim)|exact⟨_,L,w W' H' le C⟩
 exact(c w).imp l.m λu H1 q=>⟨rfl,q⟩
end
section
variable{P:Program}{w:World}{base:Heap}{B:Bs}{up:B0<|Str×Str}{G:C8}{lv:Nat}{c:Ct}{X:Cx}{Ex:St->XK}{a b:C5}{ea eb:B4}{p1 pos:Pos}{x:Str}{m:B6}{p:Pm}
def sO(F:Fc P w base B up G lv c)(k:Cok P w base B lv c X)(h:zGq m x=some p)(E:isB c x=true)(A:zAb ea=true)(I:FE X B G Ex ea a):FE X B G Ex (.Call (.Name x p1) [ea] [] pos)<|cP p<|aC a aN:=by
 have g:=F.g;let⟨D,K⟩:=fE E;let⟨i,_,d⟩:=c7<|dw D;have q:=k.gl D;have l:X.mg x=none:=by rw[k.hM];exact F.bl K
 have fa:FA X B G Ex [ea]<|aC a aN:=fi g I (gw g) A;have j:[ea].all zAb=true:=by rw[xCj,A];rfl
 have C:=k.hK;unfold zGq at h;split at h
 .next e=>subst e;cases h;exact oK g zi (by rw[C];exact zK) q l (by decide +kernel) fa j d i
 split at h
 .next e=>subst e;cases h;exact oK g sM zR q l (by decide +kernel) fa j d i
 split at h
 .next e=>subst e;cases h;exact uY g ve xA q l (by decide +kernel) fa j d i
 split at h
 .next e=>subst e;cases h;exact uY g sC (by rw[C];exact uo) q l (by decide +kernel) fa j d i
 split at h
 .next e=>subst e;cases h;exact uY g va (by rw[C];exact uq) q l (by decide +kernel) fa j d i
 split at h
 .next e=>subst e;cases h;exact oK g (yQ k.calm) (by rw[C];exact zP) q l (by decide +kernel) fa j d i
 split at h
 .next e=>subst e;cases h;exact uY g yN xu q l (by decide +kernel) fa j d i
 split at h
 .next e=>subst e;cases h;exact oK g (u7 k.hr) xw q l (by decide +kernel) fa j d i
 .cases h
def yT(F:Fc P w base B up G lv c)(k:Cok P w base B lv c X)(h:zHq x=some p)(I:isB c x=true)(i:zAb ea=true)(d:zAb eb=true)(K:FE X B G Ex ea a)(j:FE X B G Ex eb b):FE X B G Ex (.Call (.Name x p1) [ea,eb] [] pos)<|cP p<|zAz a b:=by
 have g:=F.g;let⟨E,L⟩:=fE I;let⟨q,_,l⟩:=c7<|dw E;have D:=k.gl E;have C:X.mg x=none:=by rw[k.hM];exact F.bl L
 have fa:FA X B G Ex [ea,eb]<|zAz a b:=fi g K (fi g j (gw g) d) i;have A:[ea,eb].all zAb=true:=by rw[xCj,xCj,i,d];rfl
 unfold zHq at h;split at h
 .next e=>subst e;cases h;exact oK g (oV k.calm) zI D C (by decide +kernel) fa A l q
 .split at h
  .next e=>subst e;cases h;exact oK g (oU k.calm) zH D C (by decide +kernel) fa A l q
  .cases h
def yk(F:KdF w B):Pr2 B up .ix<|zFh w B.K:=AY λ{W q h no x v H Q} g i q=>by
 let⟨u,val,k,j,e3⟩:=F.y g i;exact .inr ⟨_,_,u,val,rfl,F.d g,rfl,k,j,q u<|e3 W⟩
def zF5{d:Nat}{g:B8}(h:dflt d n []=some g):g=[]/\n=d:=by
 unfold dflt at h;split at h
 .next e=>cases h;exact⟨⋯,by have:=e.1;have:=e.2;simp at this;lia⟩
 .cases h
end
structure Snd(P:Program)(w:World)(base:Heap)(B:Bs)(up:B0 (Str×Str))(G:C8)(lv n:Nat):Prop where
 E:∀{c X Ex m e t},Fc P w base B up G lv c->Cok P w base B lv c X->Pz c X Ex->cpE c n m e=some t->FE X B G Ex e t
 C:∀{c X Ex m f as pos t},Fc P w base B up G lv c->Cok P w base B lv c X->Pz c X Ex->as.all zAb=true->cpC c n m f as pos=some t->FE X B G Ex (.Call f as [] pos) t
 M:∀{c X Ex o a as apos pos t},Fc P w base B up G lv c->Cok P w base B lv c X->Pz c X Ex->as.all zAb=true->(apos.endLine==pos.line)=true->cpM c n o a as=some t->FE X B G Ex (.Call (.Attribute o a apos) as [] pos) t
 A:∀{c X Ex m es t},Fc P w base B up G lv c->Cok P w base B lv c X->Pz c X Ex->cpA c n m es=some t->FA X B G Ex es t/\(es=[]->t=aN)/\es.all zAb=true
 D:∀{c X Ex m es t ks kk pos},Fc P w base B up G lv c->Cok P w base B lv c X->Pz c X Ex->cpA c n m es=some t->zBz ks=some kk->kk.length=es.length->FP X B G Ex pos ks kk es t
 T:∀{c X Ex vl e t},Fc P w base B up G lv c->Cok P w base B lv c X->Pz c X Ex->cpT c n vl e=some t->FT X B G Ex e t/\(vl=true->FE X B G Ex e (cB t))/\∀op vs p,e=Expr.BoolOp op vs p->FW X B G Ex e t
 I:∀{c X Ex one tg e t},Fc P w base B up G lv c->Cok P w base B lv c X->Pz c X Ex->(one=false->∃ts k p,tg=Expr.Tuple ts k p)->cpI c n one e=some t->FI X B G Ex tg e t
section
variable{P:Program}{w:World}{base:Heap}{B:Bs}{up:B0<|Str×Str}{G:C8}{lv n:Nat}{c:Ct}{X:Cx}{Ex:St->XK}
def zCm{t:J}{p:Prop}(h:(none:B1 J)=some t):p:=by cases h
def zJ3:Snd P w base B up G lv 0:=
 ⟨λ_ _ _ h=>zCm h,λ_ _ _ _ h=>zCm h,λ_ _ _ _ _ h=>zCm h,λ_ _ _ h=>zCm h,λ_ _ _ h _ _=>zCm h,λ_ _ _ h=>zCm h,λ_ _ _ _ h=>zCm h⟩
theorem Bv{m:B0 B6}{es:B0 B4}{t:C9}(s:Snd P w base B up G lv n)(F:Fc P w base B up G lv c)(k:Cok P w base B lv c X)(a:Pz c X Ex)(h:cpA c (n+1) m es=some t):FA X B G Ex es t/\(es=[]->t=aN)/\es.all zAb=true:=by
 cases es with
 |nil=>cases h;exact⟨gw F.g,λ_=>rfl,rfl⟩
 |cons e r=>
  let⟨b,q⟩:=cS<|show gd (zAb e) (o2 aC (cpE c n (m.headD false) e)<|cpA c n m.tail r)=_ from h;let⟨x,y,l,j,rfl⟩:=dj q;let⟨i,_,d⟩:=s.A F k a j;exact⟨fi F.g (s.E F k a l) i b,nofun,by rw[xCj,b,d];rfl⟩
def rB{a:B1 B4}{r:B0<|B1 B4}(h:zBz (a::r)=some kk):∃z j p b,a=some (.Constant (.str z) j p)/\zBz r=some b/\kk=z::b:=by
 let⟨x,i,l,k,rfl⟩:=dj h;let⟨e,rfl,g⟩:=xCi.mp l;unfold zI7 at g;split at g
 .let⟨y,d,rfl⟩:=dh g;unfold zI8 at d;split at d
  .cases d;exact⟨_,_,_,i,rfl,k,rfl⟩
  .cases d
 .cases g
theorem jq:∀{ks:B0<|B1 B4}{kk:B7},zBz ks=some kk->ks.length=kk.length/\ks.all (·.isSome)=true
 |[],kk,h=>by cases h;exact⟨rfl,rfl⟩
 |a::r,kk,h=>by
  let⟨z,j,p,b,rfl,d,rfl⟩:=rB h;let⟨i,g⟩:=jq d;exact⟨by simp[i],by rw[xCj,g];rfl⟩
theorem Br{m:B0 B6}{es:B0 B4}{t:C9}{ks:B0<|B1 B4}(s:Snd P w base B up G lv n)(F:Fc P w base B up G lv c)(k:Cok P w base B lv c X)(d:Pz c X Ex)(h:cpA c (n+1) m es=some t)(hk:zBz ks=some kk)(b:kk.length=es.length):FP X B G Ex pos ks kk es t:=by
 cases es with
 |nil=>
  cases h;cases kk with
  |cons _ _=>cases b
  |nil=>
   have:=(jq hk).1;cases ks with
   |nil=>exact Be F.g
   |cons a r=>simp at this
 |cons e r=>
  let⟨K,I⟩:=cS<|show gd (zAb e) (o2 aC (cpE c n (m.headD false) e)<|cpA c n m.tail r)=_ from h;let⟨x,y,C,A,rfl⟩:=dj I;cases ks with
  |nil=>cases hk;cases b
  |cons a i=>
   let⟨z,j,p,l,rfl,q,rfl⟩:=rB hk;exact Bf F.g (s.E F k d C) (s.D F k d A q<|by simpa using b)
end
section
variable{P:Program}{w:World}{base:Heap}{B:Bs}{up:B0<|Str×Str}{G:C8}{lv n:Nat}{c:Ct}{X:Cx}{Ex:St->XK}
def A6{a:Str}{t:C5}(s:Snd P w base B up G lv n)(F:Fc P w base B up G lv c)(k:Cok P w base B lv c X)(d:Pz c X Ex)(b:as.all zAb=true)(q:(apos.endLine==pos.line)=true)(h:cpM c (n+1) o a as=some t):FE X B G Ex (.Call (.Attribute o a apos) as [] pos) t:=by
 have g:=F.g;change eM (cps n) _ _ _ _=_ at h;unfold eM at h;let⟨m,h⟩:=cS h;split at h
 .let⟨C,A⟩:=cS h;let⟨z,i,rfl⟩:=dh A;cases xBe C;exact Ax g k.hK PySem.F.plainAttrs_list PySem.F.slot_list_pop PySem.F.type_list_pop xV zC (.inl rfl) (s.E F k d i) m q
 .next e=>
  rw[xCj,xCh] at b;split at h
  .next l=>
   subst l;let⟨z,v,i,j,rfl⟩:=dj h;exact nC g k.hK PySem.F.plainAttrs_list PySem.F.slot_list_append PySem.F.type_list_append iC zO (.inl rfl) (s.E F k d i) (s.E F k d j) m b.1 q
  split at h
  .next l=>
   subst l;let⟨z,v,i,j,rfl⟩:=dj h;exact nC g k.hK PySem.F.plainAttrs_list PySem.F.slot_list_extend PySem.F.type_list_extend oC zN (.inl rfl) (s.E F k d i) (s.E F k d j) m b.1 q
  split at h
  .next l=>
   subst l;let⟨z,v,i,j,rfl⟩:=dj h;exact nC g k.hK PySem.F.plainAttrs_str PySem.F.slot_str_startswith PySem.F.type_str_startswith oB qN (.inr<|.inl rfl) (s.E F k d i) (s.E F k d j) m b.1 q
  split at h
  .next l=>
   subst l;let⟨z,v,i,j,rfl⟩:=dj h;exact nC g k.hK PySem.F.plainAttrs_str PySem.F.slot_str_join PySem.F.type_str_join q0 (by rw[k.hK];exact xz) (.inr<|.inl rfl) (s.E F k d i) (s.E F k d j) m b.1 q
  .cases h
 .let⟨C,A⟩:=cS h;cases xBe C;let⟨z,v,y,i,j,D,rfl⟩:=io A;rw[xCj,xCh,xCj,xCh] at b;exact Aw g k.hK PySem.F.plainAttrs_dict PySem.F.slot_dict_get PySem.F.type_dict_get (uE (by have:=k.hr.un;lia)) xC (.inr<|.inr rfl) (s.E F k d i) (s.E F k d j) (s.E F k d D) m b.1 b.2.1 q
 .cases h
set_option tactic.hygienic true
def AI{M:B6}{t:TTx Prop}(s:Snd P w base B up G lv n)(F:Fc P w base B up G lv c)(k:Cok P w base B lv c X)(C:Pz c X Ex)(h:cpT c (n+1) M e=some t):FT X B G Ex e t/\(M=true->FE X B G Ex e (cB t))/\∀op vs p,e=Expr.BoolOp op vs p->FW X B G Ex e t:=by
 have g:=F.g;have R:X.A.units+100<cLine:=by have:=k.hr.un;lia
 change eT (cps n) _ _ _=_ at h;unfold eT at h;cases e <;> dsimp only at h <;> try (cases h;done)
 case UnaryOp op a p=>
  cases op <;> dsimp only at h <;> try (cases h;done)
  let⟨x,l,rfl⟩:=dh h;let⟨i,q2,_⟩:=s.T F k C l;exact⟨Bg g i,λv=>rV g (q2 v) i.m,nofun⟩
 case BoolOp op vs p=>
  match vs,h with
  |[],h=>cases h
  |[a],h=>
   let⟨i,q2,_⟩:=s.T F k C h;cases op with
   |And=>exact⟨(wg i).ft,λv=>wn<|q2 v,λ_ _ _ _=>wg i⟩
   |Or=>exact⟨(we i).ft,λv=>wn<|q2 v,λ_ _ _ _=>we i⟩
  |a::b::r,h=>
   cases op with
   |And=>
    let⟨x,y,l,D,rfl⟩:=dj h;let⟨i,q2,_⟩:=s.T F k C l;let⟨O,N,q5⟩:=s.T F k C D;exact⟨(Ai g i<|q5 _ _ _ rfl).ft,λv=>yI g (q2 v) i.m (N v) O.m,λ_ _ _ _=>Ai g i<|q5 _ _ _ rfl⟩
   |Or=>
    let⟨x,y,l,D,rfl⟩:=dj h;let⟨i,q2,_⟩:=s.T F k C l;let⟨O,N,q5⟩:=s.T F k C D;exact⟨(Ah g i<|q5 _ _ _ rfl).ft,λv=>An g (q2 v) i.m (N v) O.m,λ_ _ _ _=>Ah g i<|q5 _ _ _ rfl⟩
 case Compare a ops bs p=>
  match ops,bs,h with
  |[],_,h=>cases h
  |[op],[],h=>cases h
  |[op],[b],h=>
   dsimp only at h;split at h
   .next j q=>
    let⟨x,l,rfl⟩:=dh h;let⟨i,q2⟩:=rD g (p:=.isN) (f:=id) (j:=j) (p1:=q) (pos:=p) (λv S=>by cases v <;> rfl) xD nofun nofun<|s.E F k C l;exact⟨i,λ_=>q2,nofun⟩
   .let⟨l,D⟩:=cS h;let⟨pm,x,y,I,L,K,rfl⟩:=io D;let⟨i,q2⟩:=yR g (pos:=p) k.hK R I l (s.E F k C L)<|s.E F k C K;exact⟨i,λ_=>q2,nofun⟩
  |[op],_::_::_,h=>cases h
  |[p1,p2],[b,d],h=>
   dsimp only at h;let⟨l,D⟩:=cS h;rw[xCh] at l;split at D
   .next pm Z Y W=>
    let⟨x,y,z,I,L,K,rfl⟩:=io D;let⟨i,q2⟩:=AD g (pos:=p) Y W l.2 (s.E F k C I) (s.E F k C L)<|s.E F k C K;exact⟨i,λ_=>q2,nofun⟩
   .cases D
  |[_,_],[],h=>cases h
  |[_,_],[_],h=>cases h
  |[_,_],_::_::_::_,h=>cases h
  |_::_::_::_,_,h=>cases h
 case Call f as Q p=>
  let⟨x,l,rfl⟩:=dh h;have q:=s.E F k C l;exact⟨wj g q λ_=>rfl,λ_=>uX g q,nofun⟩
 case IfExp q a b p=>
  let⟨l,D⟩:=cS h;let⟨x,y,z,I,L,K,rfl⟩:=io D;exact⟨Bj g (s.T F k C I).1 (s.T F k C L).1 (s.T F k C K).1,λz=>(by subst z;cases l),nofun⟩
 case Attribute o f p=>
  let⟨l,D⟩:=cS h;let⟨x,I,rfl⟩:=dh D;exact⟨wl g k.hK (s.E F k C I) λ_=>rfl,λz=>(by subst z;cases l),nofun⟩
 case Name x p=>
  cases M with
  |true=>
   let⟨x,l,rfl⟩:=dh h;have q:=s.E F k C l;exact⟨wj g q λ_=>rfl,λ_=>uX g q,nofun⟩
  |false=>
   let⟨x,I,rfl⟩:=dh h;exact⟨wl g k.hK (s.E F k C I) λ_=>rfl,λz=>(nomatch z),nofun⟩
set_option tactic.hygienic false
end
section
variable{P:Program}{w:World}{base:Heap}{B:Bs}{up:B0<|Str×Str}{G:C8}{lv n:Nat}{c:Ct}{X:Cx}{Ex:St->XK}
set_option tactic.hygienic true
def Bc{one:B6}{t:C5}(s:Snd P w base B up G lv n)(F:Fc P w base B up G lv c)(k:Cok P w base B lv c X)(i:Pz c X Ex)(C:one=false->∃ts k p,tg=Expr.Tuple ts k p)(h:cpI c (n+1) one e=some t):FI X B G Ex tg e t:=by
 have g:=F.g;have bl:∀{x y:Str},(isB c x&&decide (x=y))=true->x=y/\Gl X y/\X.mg y=none:=λ{x y} h=>by
  rw[xCh] at h;cases xBe h.2;let⟨a,d⟩:=fE h.1;exact⟨rfl,k.gl a,by rw[k.hM];exact F.bl d⟩
 change eI (cps n) _ _ _=_ at h;unfold eI at h;split at h
 .next x p as q=>
  split at h
  .next m=>
   let⟨rfl,l,j⟩:=bl m;split at h
   .let⟨a,d⟩:=cS h;let⟨z,b,rfl⟩:=dh d;exact yB g l j (s.E F k i b) a
   .let⟨a,d⟩:=cS h;rw[xCh] at a;let⟨z,v,b,A,rfl⟩:=dj d;exact yA g l j (s.E F k i b) (s.E F k i A) a.1 a.2
   .cases h
  split at h
  .next m=>
   let⟨rfl,l,j⟩:=bl m;split at h
   .let⟨a,d⟩:=cS h;rw[xCh,xCh] at a;let⟨z,v,b,A,rfl⟩:=dj d;let⟨ts,kk,D,rfl⟩:=C (by simpa using a.1.1);exact Ag g k.hK l j (s.E F k i b) (s.E F k i A) a.1.2 a.2
   .cases h
  split at h
  .next m=>
   let⟨rfl,l,j⟩:=bl m;split at h
   .let⟨a,d⟩:=cS h;rw[xCh] at a;let⟨z,b,rfl⟩:=dh d;let⟨ts,kk,D,rfl⟩:=C (by simpa using a.1);exact Ar g l j (s.E F k i b) a.2
   .cases h
  .let⟨z,b,rfl⟩:=dh h;exact wm g k.hK<|s.E F k i b
 .let⟨z,b,rfl⟩:=dh h;exact wm g k.hK<|s.E F k i b
set_option tactic.hygienic false
def pC(h:tg1 tg=false):∃ts k p,tg=Expr.Tuple ts k p:=by
 cases tg <;> first|exact⟨_,_,_,rfl⟩|cases h
set_option tactic.hygienic true
def vV{m:B6}{b:B4}{a:B0 Comprehension}{sc:Scope}{p:Pos}{t:C5}(s:Snd P w base B up G lv n)(F:Fc P w base B up G lv c)(k:Cok P w base B lv c X)(R:Pz c X Ex)(h:eE (cps n) c m (.ListComp b a sc p)=some t):FE X B G Ex (.ListComp b a sc p) t/\∀{i:Nat}{y:Str}{py spos:Pos},X.N.Nodup->X.N[i]?=some y->X.env.scope.names.lookup y=some .local->swapsWith (.ListComp b a sc p) (some<|.Name y py) spos.line X.env=pure true->FS X B G Ex (.Assign [.Name y py] (.ListComp b a sc p) spos) (sA i t):=by
 have g:=F.g;unfold eE at h;dsimp only at h
 replace h:=(cS h).2
 split at h
 .next tg q Q=>
  split at h
  .next cs is one M O e1 e2 e3 e4=>
   let⟨D,A⟩:=cS h;simp only[xCh,Bool.not_eq_true'] at D;let⟨⟨⟨Y,l⟩,hns⟩,his⟩:=D;let⟨cl,cp⟩:=vk k Y l e1;have ck:∀C d H j,Cok P w base B lv (cty c sc)<|zAo X (locs sc.names++frees sc.names) sc cl C d H j:=λ_ _ _ _=>sG k l;have L:∀C d H j,FE (zAo X (locs sc.names++frees sc.names) sc cl C d H j) B G (λ_ _ _ _=>False) b O:=λC d H j=>s.E F.re (ck C d H j) pzF e4;have K:=λC d H j=>vy (G:=G) (ck C d H j) e2;have h1:one=true->is.length=1:=(K 0 X.s₀ X.H₀ []).2;have T:∀kk∈is,kk<(locs sc.names).length:=λkk hk=>xCo<|xCx.mp his kk hk;have W:∀v,foldedSetIterable q X.env v=pure v:=λv=>by cases q <;> first|rfl|cases hns
   have Z:FI X B G Ex tg q M:=s.I F k R (λz=>pC z) e3;split at A
   .cases A;exact Bh g h1 T k.calm cp Z (λC d H j=>(K C d H j).1) L W (L 0 X.s₀ X.H₀ []).m
   .cases A
  .cases h
 .cases h
def Bq{m:B6}{t:C5}(s:Snd P w base B up G lv n)(F:Fc P w base B up G lv c)(k:Cok P w base B lv c X)(I:Pz c X Ex)(h:cpE c (n+1) m e=some t):FE X B G Ex e t:=by
 have g:=F.g;have O:=k.hK;have hu:X.A.units+1<cLine:=by have:=k.hr.un;lia
 change eE (cps n) _ _ _=_ at h;unfold eE at h;cases e <;> dsimp only at h <;> try (cases h;done)
 case Name x p=>
  split at h
  .next i hi=>
   cases h;let⟨a,b,d⟩:=wy k hi;let⟨d1,d2,_⟩:=c7 d;exact f_v g a b d1 d2
  .split at h
   .next u hq=>
    cases h;let⟨R,Y⟩:=fF hq;let⟨v,val,m1,r1,r2⟩:=F.con Y;exact f_c (jf (k.gl R) (by rw[k.hM];exact m1) r1 (c7<|dw R).1) r2
   .cases h
 case Constant kk j p=>
  split at h <;> try (cases h;done)
  .cases h;exact f_c xo λ_=>rfl
  .cases h;exact f_c qz λ_=>rfl
  .cases h;exact f_c vL λ_=>rfl
  .cases h;exact f_c lr λ_=>rfl
 case BinOp a op b p=>
  let⟨pm,x,y,l,K,L,rfl⟩:=io h;have N:=s.E F k I K;have M:=s.E F k I L;cases op <;> cases l
  .exact lL g zV (by rw[O];exact zQ) N M
  .exact lL g xH zA N M
  .cases m
   .exact lL g (OpR.or uy ux) zF N M
   .exact lL g xI xy N M
  .exact lL g xL zG N M
  .exact lL g xJ zB N M
  .exact lL g qQ xB N M
 case UnaryOp op a p=>
  cases op <;> dsimp only at h <;> try (cases h;done)
  .let⟨x,l,rfl⟩:=dh h;let⟨R,Y,_⟩:=s.T F k I l;exact rV g (Y rfl) R.m
  .let⟨x,l,rfl⟩:=dh h;exact Bd g wz zE<|s.E F k I l
 case BoolOp op vs p=>
  let⟨x,l,rfl⟩:=dh h;exact(s.T F k I l).2.1 rfl
 case Compare a ops bs p=>
  let⟨x,l,rfl⟩:=dh h;exact(s.T F k I l).2.1 rfl
 case IfExp q a b p=>
  let⟨x,y,z,l,K,L,rfl⟩:=io h;exact Bk g (s.T F k I l).1 (s.E F k I K)<|s.E F k I L
 case Tuple es kk p=>
  let⟨l,K⟩:=cS h;let⟨x,L,rfl⟩:=dh K;exact Aj g (s.A F k I L).1<|xCo l
 case List es p=>
  let⟨x,L,rfl⟩:=dh h;exact Ao g (s.A F k I L).1
 case Dict ks vs p=>
  split at h
  .cases h;exact Bo g
  .next Z=>
   split at h
   .next kk hk=>
    let⟨l,K⟩:=cS h;let⟨x,L,rfl⟩:=dh K;rw[xCh,xCh] at l;have W:=Nat.eq_of_beq_eq_true l.2;let⟨k1,k2⟩:=jq hk;refine As g (s.D F k I L hk W) l.1.1 W (k1.trans W) k2 (λz=>?_)<|xCo l.1.2;subst z;have:vs=[]:=by
     have:=k1.trans W;exact List.eq_nil_of_length_eq_zero (by simpa using this.symm)
    exact Z rfl this
   .cases h
 case Subscript a b p=>
  split at h
  .split at h
   .let⟨x,y,l,K,rfl⟩:=dj h;exact Ak g O (s.E F k I l)<|s.E F k I K
   .let⟨x,y,l,K,rfl⟩:=dj h;exact Am g O (s.E F k I l)<|s.E F k I K
   .cases h
  .let⟨l,K⟩:=cS h;let⟨x,y,L,h4,rfl⟩:=dj K;exact Bi g (AG hu) (by rw[O,k.hw];exact yk F.kdf) (s.E F k I L) (s.E F k I h4)<|qo l
 case Attribute o f p=>
  let⟨l,K⟩:=cS h;let⟨x,L,rfl⟩:=dh K;rw[xCh] at l;let⟨y,hy,e⟩:=xCy.mp l.2;cases xBe e;exact Aq g O F.clf hy (s.E F k I L) l.1
 case Call f as kws p=>
  split at h
  .let⟨l,K⟩:=cS h;exact s.C F k I l K
  .cases h
 case ListComp elt Q sc p=>exact(vV s F k I<|show eE (cps n) c m (.ListComp elt Q sc p)=some t from h).1
def Bu{m:B6}{f:B4}{t:C5}(s:Snd P w base B up G lv n)(F:Fc P w base B up G lv c)(k:Cok P w base B lv c X)(q:Pz c X Ex)(j:as.all zAb=true)(h:cpC c (n+1) m f as pos=some t):FE X B G Ex (.Call f as [] pos) t:=by
 have g:=F.g;have K:=k.hK;have hr:zBe lv X.A:=k.hr.mono<|Nat.le_succ _;change eC (cps n) _ _ _ _ _=_ at h;unfold eC at h;cases f <;> dsimp only at h <;> try (cases h;done)
 case Name x p=>
  split at h
  .next i np df mp e=>
   let⟨O,Y⟩:=fF e;let⟨a,d,l,D,rfl⟩:=dj h;let⟨f,fd,ps,m1,kp,FO,T⟩:=F.fn Y;let⟨L,dvs,dv,N,R,b3⟩:=T D;let⟨A1,A2,_⟩:=s.A F k q l;exact yH g (k.f FO) hr (k.gl O) (by rw[k.hM];exact m1) (by rw[K];exact kp) (by rw[K];exact N) R b3 q.pass (c7<|dw O).1 A1 A2 L j
  .next i np df e=>
   let⟨O,Y⟩:=fF e;let⟨_,h⟩:=cS h;let⟨a,d,l,D,rfl⟩:=dj h;let⟨cc,f,fd,ps,c1,m1,mk,FO,T⟩:=F.cl Y;let⟨L,dvs,dv,N,R,b3⟩:=T D;let⟨A1,A2,_⟩:=s.A F k q l;exact yD g c1 (by rw[K];exact mk) (k.f FO) k.hr (k.gl O) (by rw[k.hM];exact m1) (by rw[K];exact N) R b3 (c7<|dw O).1 A1 A2 L j
  .cases h
  .let⟨hb,h⟩:=cS h;split at h
   .next a=>
    rw[xCj,xCh] at j;split at h
    .next y _ b _=>
     split at h
     .next L e2=>
      cases xBe L;cases xBe e2;let⟨l,D⟩:=cS h;rw[xCh] at l;let⟨z,I,rfl⟩:=dh D;let⟨W,a2⟩:=fE hb;let⟨N,R⟩:=fE l.1;exact rX g k.calm (k.gl W) (by rw[k.hM];exact F.bl a2) (k.gl N) (by rw[k.hM];exact F.bl R) (s.E F k q I) l.2
     .let⟨pm,z,l,D,rfl⟩:=dj h;exact sO F k l hb j.1<|s.E F k q D
    .let⟨pm,z,l,D,rfl⟩:=dj h;exact sO F k l hb j.1<|s.E F k q D
   .next a b=>
    rw[xCj,xCh,xCj,xCh] at j;split at h
    .next L=>
     cases xBe L;let⟨W,a2⟩:=fE hb;have z1:X.mg "isinstance"=none:=by rw[k.hM];exact F.bl a2
     split at h
     .next y py=>
      split at h
      .next ty Q=>
       let⟨l,D⟩:=cS h;let⟨z,I,rfl⟩:=dh D;let⟨N,R⟩:=fE l;have z2:X.mg y=none:=by rw[k.hM];exact F.bl R
       let⟨n1,_,n2⟩:=c7<|dw N;unfold zH9 at Q;split at Q
       .next e=>subst e;cases Q;exact nB g K F.clt F.k1 (k.gl W) z1 (k.gl N) z2 (by decide +kernel) n2 n1 (s.E F k q I) j.1
       split at Q
       .next e=>subst e;cases Q;exact nB g K F.clt F.k2 (k.gl W) z1 (k.gl N) z2 (by decide +kernel) n2 n1 (s.E F k q I) j.1
       split at Q
       .next e=>subst e;cases Q;exact nB g K F.clt F.k3 (k.gl W) z1 (k.gl N) z2 (by decide +kernel) n2 n1 (s.E F k q I) j.1
       split at Q
       .next e=>subst e;cases Q;exact nB g K F.clt F.k4 (k.gl W) z1 (k.gl N) z2 (by decide +kernel) n2 n1 (s.E F k q I) j.1
       .cases Q
      .cases h
     .cases h
    .let⟨pm,z,v,l,D,I,rfl⟩:=io h;exact yT F k l hb j.1 j.2.1 (s.E F k q D)<|s.E F k q I
   .cases h
 case Attribute o a apos=>
  let⟨l,h⟩:=cS h;rw[xCh] at l;have h29:as.length<29:=xCo l.2;split at h
  .next C i np e=>
   let⟨D,h⟩:=cS h;let⟨z,v,d,I,h4,h5,rfl⟩:=io h;let⟨rfl,L⟩:=zF5 h5;let⟨cc,f,fd,ps,u1,cls,Z,FO,bd⟩:=F.ms e;let⟨A1,A2,_⟩:=s.A F k q h4;exact yC g u1 (by rw[K];exact cls) (by rw[K];exact Z) (k.f FO) hr (by rw[K];exact bd) .nil (λ_=>rfl) q.pass (s.E F k q I) A1 A2 L j<|uG (vn D) j h29 l.1
  .split at h
   .next y py=>
    split at h
    .next kvs no e=>
     let⟨D,h⟩:=cS h;cases xBe D;let⟨O,Y⟩:=fF e;let⟨v,val,m1,r1,r2⟩:=F.con Y;let⟨pp,rfl,T⟩:=r2 ⟨λ_=>none,[],[]⟩;rw[show val=.ref pp from r1] at m1;have kf:KdF X.w B:=by rw[k.hw];exact F.kdf
     split at h
     .next L=>
      rw[xCj,xCh] at j;let⟨z,I,rfl⟩:=dh h;exact yF g K kf T (k.gl O) (by rw[k.hM];exact m1) (c7<|dw O).1 (s.E F k q I) j.1 l.1
     .next L e2=>
      rw[xCj,xCh,xCj,xCh] at j;let⟨z,v,I,h4,rfl⟩:=dj h;exact yE g K kf T (k.gl O) (by rw[k.hM];exact m1) (c7<|dw O).1 (s.E F k q I) (s.E F k q h4) j.1 j.2.1 l.1
     .cases h
    .exact s.M F k q j l.1 h
   .exact s.M F k q j l.1 h
set_option tactic.hygienic false
theorem snd:∀n,Snd P w base B up G lv n
 |0=>zJ3
 |n+1=>⟨Bq<|snd n,Bu<|snd n,A6<|snd n,Bv<|snd n,Br<|snd n,AI<|snd n,Bc<|snd n⟩
end
structure zHy(P:Program)(w:World)(base:Heap)(B:Bs)(up:B0 (Str×Str))(G:C8)(lv n:Nat):Prop where
 S:∀{c X Ex s t},Fc P w base B up G lv c->Cok P w base B lv c X->Cz c X Ex->cpS c n s=some t->FS X B G Ex s t
 L:∀{c X Ex s t},Fc P w base B up G lv c->Cok P w base B lv c X->Cz c X Ex->zF7 c n s=some t->FSs X B G Ex s t
section
variable{P:Program}{w:World}{base:Heap}{B:Bs}{up:B0<|Str×Str}{G:C8}{lv n:Nat}{c:Ct}{X:Cx}{Ex:St->XK}
theorem Cok.lp(k:Cok P w base B lv c X):Cok P w base B lv c X.lp:=⟨k.hP,k.hw,k.hK,k.hM,k.hb,k.N,k.nd,k.vis,k.loc,k.lc,k.gl,k.calm,k.hr,k.bk,k.cap⟩
theorem Cok.trial{Z:B0<|B5×Obj}{E:B2->B3->Prop}(k:Cok P w base B lv c X):Cok P w base B lv c<|X.trial Z E:=⟨k.hP,k.hw,k.hK,k.hM,k.hb,k.N,k.nd,k.vis,k.loc,k.lc,k.gl,k.calm,k.hr,k.bk,k.cap⟩
def wH{one:B6}(h:zGj c tg=some (is,one)):one=true->is.length=1:=by
 cases tg <;> try (cases h;done)
 .let⟨i,a,e⟩:=dh<|show o1 _ _=_ from h;cases e;exact λ_=>rfl
 .let⟨i,a,e⟩:=dh<|show o1 _ _=_ from h;cases e;exact nofun
def tI{st:Stmt}(g:zB1 up G):FS X B G Ex st sZ:=⟨λ_ _ _ _ _ _ ⟨_,_,_,_,_,h⟩=>(g.no h).elim,⟨λ_ h=>(g.no h).elim⟩⟩
set_option tactic.hygienic true
def uU{i:Nat}(h:zI5 c e=some i):∃x p,e=.Name x p/\vIx c x=some i:=by
 cases e <;> try (cases h;done)
 next x p=>
 change(if _ then vIx c x else none)=_ at h;split at h
 .exact⟨x,p,rfl,h⟩
 .cases h
set_option tactic.hygienic false
def AH{p:Pos}{i:Nat}(F:Fc P w base B up G lv c)(k:Cok P w base B lv c X)(h:vIx c x=some i)(a:Pz c X Ex):FE X B G Ex (.Name x p)<|cV i:=(snd 1).E (m:=false) F k a (by show(match vIx c x with|some i=>some (cV i)|none=>_)=_;rw[h])
set_option tactic.hygienic true
theorem ya{m:B6}{t:C5}{i:Nat}(F:Fc P w base B up G lv c)(k:Cok P w base B lv c X)(C:Pz c X Ex)(D:zBa e=false)(h:cpE c n m e=some t)(j:X.N[i]?=some y)(I:Loc X.env.scope y)(E:X.fn y=true\/X.env.scope.names.lookup y=some .local):FS X B G Ex (.Assign [.Name y py] e spos)<|sA i t:=by
 cases n with
 |zero=>cases h
 |succ n=>
  cases e <;> try (cases D;done)
  .next b a sc p=>
   let⟨A,l⟩:=vV (snd n) F k C<|show eE (cps n) c m (.ListComp b a sc p)=some t from h;have d:swapsWith (.ListComp b a sc p) (some<|.Name y py) spos.line X.env=pure (X.env.blockKind==ScopeKind.function&&X.env.kindOf y==some NameKind.local&&py.line==p.line&&!sc.names.any λq=>q.1==y&&(q.2==NameKind.local||q.2==NameKind.cell)):=rfl;cases hb:(X.env.blockKind==ScopeKind.function&&X.env.kindOf y==some NameKind.local&&py.line==p.line&&!sc.names.any λq=>q.1==y&&(q.2==NameKind.local||q.2==NameKind.cell)) with
   |false=>exact pS F.g A k.nd j I (d.trans<|by rw[hb]) E
   |true=>
    refine l k.nd j ?_ (d.trans<|by rw[hb]);simp only[xCh] at hb;exact eq_of_beq hb.1.1.2
  .cases h
  .cases h
set_option tactic.hygienic false
def rF{o:B1 NameKind}(h:zEu o=true):o=some .local:=by
 unfold zEu at h;split at h
 .rfl
 .cases h
def xt{m pt pp:Pos}{l d:B4}{i j kt kk:Nat}{a b:C5}(g:zB1 up G)(F:Fc P w base B up G lv c)(k:Cok P w base B lv c X)(h:zHd c x y m py l d=true)(Z:lIx c x=some i)(Y:lIx c y=some j)(L:FE X B G Ex l a)(K:FE X B G Ex d b):FS X B G Ex (.Assign [.Tuple [.Name x m,.Name y py] kt pt] (.Tuple [l,d] kk pp) spos)<|sPr i j a b:=by
 unfold zHd at h;simp only[xCh] at h;let⟨⟨⟨⟨⟨⟨⟨⟨W,T⟩,h3⟩,h4⟩,h5⟩,h6⟩,h7⟩,h8⟩,h9⟩:=h;have q:x≠y:=by simpa using T
 have I:=k.lc<|rF h3;have E:=k.lc<|rF h4;let⟨D,a2,_⟩:=fg k Z;let⟨M,b2,_⟩:=fg k Y;erw[AJ g k.calm k.nd D M (λz=>q<|by rw[z,M] at D;cases D;rfl) I E L K h6 h7];have Q:py.line=m.line:=eq_of_beq h5;have R:([x,y]:B7).eraseDups.length=2:=by
  have:(y==x)=false:=beq_eq_false_iff_ne.mpr<|Ne.symm q;simp[List.eraseDups,List.eraseDupsBy,List.eraseDupsBy.loop,this]
 have A:(foldedForSure 8 l&&foldedForSure 8 d)=false:=by rw[Bool.not_eq_true'] at h8;exact h8
 have hk:(constantsAlone 8 l&&constantsAlone 8 d)=false:=by rw[Bool.not_eq_true'] at h9;exact h9
 unfold swappedStores;dsimp only;have C:=k.bk (by simpa using W);rw[xCf<|by rw[C];simp];rw[xCf (λhh=>by
  simp only[List.any_cons,List.any_nil,Bool.or_false,Bool.or_eq_true] at hh;rcases hh with hh|hh
  .clear A hk h8 h9 L;cases l <;> first|(cases h6;done)|(cases hh;done)
  .clear A hk h8 h9 K;cases d <;> first|(cases h7;done)|(cases hh;done))]
 have O:(Expr.Name x m).pos=m:=rfl;have N:(Expr.Name y py).pos=py:=rfl;simp only[List.filterMap_cons,List.filterMap_nil,List.head?_cons,Option.map_some,Option.getD_some,O,N,I,E,Q,beq_self_eq_true,Bool.and_self,if_true,xCg];rw[xCf (by rw[R];simp),xCf (by rw[xCj,xCj,List.all_nil,Bool.and_true,A];decide),xCf<|by rw[xCj,xCj,List.all_nil,Bool.and_true,hk];decide]
set_option tactic.hygienic true
def AM{st:Stmt}{t:C4}(s:zHy P w base B up G lv n)(F:Fc P w base B up G lv c)(k:Cok P w base B lv c X)(cz:Cz c X Ex)(h:cpS c (n+1) st=some t):FS X B G Ex st t:=by
 have g:=F.g;have hK:=k.hK;have K:=cz.ca;have C:=cz.pz;have hu:X.A.units+1<cLine:=by have:=k.hr.un;lia
 have hh:X.A.handled=none:=k.hr.hd;change eS n (cpt n) _ _=_ at h;unfold eS at h;cases st <;> dsimp only at h <;> try (cases h;done)
 case Pass p=>cases h;exact wM g
 case Expr e p=>
  let⟨d,h⟩:=cS h;let⟨x,l,rfl⟩:=dh h;exact AR g ((snd n).E F k C l) d
 case Return e p=>
  split at h
  .split at h
   .next i hi=>
    cases h;let⟨x,q,rfl,hv⟩:=uU hi;exact vF g<|Ap g<|AH F k hv C
   .let⟨x,l,rfl⟩:=dh h;exact vF g<|(snd n).E F k C l
  .cases h
 case If q a b p=>
  let⟨x,y,z,d,l,Q,rfl⟩:=io h;exact AO g ((snd n).T F k C d).1 (s.L F k cz l)<|s.L F k cz Q
 case While q b orelse p=>
  split at h
  .let⟨x,y,d,l,rfl⟩:=dj h;exact tH g ((snd n).T F.nt k.lp.nt ⟨K.lp.pass,nofun⟩ d).1<|s.L F.nt k.lp.nt ⟨K.lp,nofun⟩ l
  .cases h
 case For tg it b orelse p=>
  split at h
  .split at h
   .next is one e=>
    let⟨d,h⟩:=cS h;rw[xCh] at d;let⟨x,y,l,Q,rfl⟩:=dj h;exact zb g (wH e) k.calm ((snd n).I F k C (λz=>pC z) l) (vy k.lp e).1 (s.L F.nt k.lp.nt ⟨K.lp,nofun⟩ Q) (λv=>by cases it <;> first|rfl|cases d.1)
   .cases h
  .cases h
 case Assign tgs e p=>
  split at h
  .let⟨N,h⟩:=cS h;split at h
   .next x px=>
    let⟨i,y,d,l,rfl⟩:=dj h;let⟨Y,a2,a3⟩:=fg k d;cases hn:zBa e with
    |true=>exact pS g ((snd n).E F k C l) k.nd Y a2 (fj hn) a3
    |false=>exact ya F k C hn l Y a2 a3
   .next es j pt=>
    have N:zBa e=true:=by simpa [zGo] using N
    split at h
    .next d=>
     let⟨is,y,l,Q,rfl⟩:=dj h;let⟨Y,a2⟩:=zBk k l;exact y8 g hK k.calm k.nd ((snd n).E F k C Q) a2 Y (by unfold swapsWithSole;exact fj N) (by cases e <;> first|rfl|cases d)
    .split at h
     .next x px y py a b kk pp=>
      let⟨d,h⟩:=cS h;let⟨i1,j1,ta,D,R,e3,h⟩:=vR h;let⟨tb,e4,rfl⟩:=dh h;exact xt g F k d D R ((snd n).E F k C e3)<|(snd n).E F k C e4
     .cases h
   .next o f po=>
    have N:zBa e=true:=by simpa [zGo] using N
    let⟨d,h⟩:=cS h;let⟨x,y,l,Q,rfl⟩:=dj h;let⟨f',hy,ee⟩:=xCy.mp d;cases xBe ee;exact zc g hK F.clf hy ((snd n).E F k C l) ((snd n).E F k C Q) N
   .next o i po=>
    have N:zBa e=true:=by simpa [zGo] using N
    let⟨d,h⟩:=cS h;let⟨x,y,z,l,Q,h4,rfl⟩:=io h;exact wN g hu ((snd n).E F k C l) ((snd n).E F k C Q) ((snd n).E F k C h4) d N
   .cases h
  .cases h
 case Raise e cau p=>
  let⟨⟨x,px,as,q⟩,h0,hA⟩:=xCi.mp h;clear h;let⟨fs,e,W⟩:=xCi.mp hA;clear hA;let⟨rfl,rfl⟩:=wQ h0;let⟨M,q2⟩:=fF<|pe e;cases fs with
  |nil=>
   let⟨d,O⟩:=cS W;cases List.isEmpty_iff.mp d;cases O;let⟨cc,m1,D,R,e3⟩:=F.x0 q2;rw[<- hK] at D R e3;exact pR g K hh D R e3 (k.gl M) (by rw[k.hM];exact m1) m1 (c7<|dw M).1
  |cons f fr=>
   let⟨d,O⟩:=cS W;clear W;let⟨a,ha,hD⟩:=xCi.mp O;clear O;cases List.isEmpty_iff.mp d;cases eZ ha;let⟨d,hE⟩:=cS hD;let⟨z,l,rfl⟩:=dh hE;let⟨cc,f',fd,s0,m1,D,FO,bd,R,e3,e4,_,_⟩:=F.x1 q2;rw[<- hK] at D bd R e3 e4;have FO:=k.f FO;rw[<- hK] at FO;exact pQ g K hh D FO k.hr bd R e3 e4 (k.gl M) (by rw[k.hM];exact m1) m1 (c7<|dw M).1 ((snd n).E F k C l) d
 case Try b hs orelse fin p=>
  split at h
  .next hr h0=>
   let⟨hg,W⟩:=cS h;let⟨fs,D,O⟩:=xCi.mp W;let⟨d,hD⟩:=cS O;cases List.isEmpty_iff.mp d;let⟨i,tt,i1,i3,rfl⟩:=dj hD;rw[xCh] at hg;cases List.isEmpty_iff.mp hg.1;cases List.isEmpty_iff.mp hg.2;let⟨M,q2⟩:=fF<|pe D;let⟨Y,a2,a3⟩:=fg k i1;let⟨cc,m1,x1,x2,x3⟩:=F.x0 q2;rw[<- hK] at x2;rw[yx h0];exact wL g k.nd Y a2 a3 (s.L F.nt k.nt ⟨K,nofun⟩ i3).m (λZ E' Ex' ca'=>s.L F.nt k.trial.nt ⟨ca',nofun⟩ i3) (k.gl M) (by rw[k.hM];exact m1) (λz=>by rw[k.hM]) (c7<|dw M).1 (jB x2) K.hs K.hf
  let⟨⟨x,px,e,y,py,z,pz,f,pf,pa,ph⟩,h0,hA⟩:=xCi.mp h;clear h;let⟨hg,W⟩:=cS hA;clear hA;let⟨fs,D,O⟩:=xCi.mp W;clear W;let⟨gf,eg,hD⟩:=xCi.mp O;clear O;let⟨d,hE⟩:=cS hD;clear hD;let⟨i,j,tt,i1,i2,i3,hF⟩:=vR hE;clear hE;let⟨hij,hG⟩:=cS hF;clear hF;cases hG;cases yw h0;rw[xCh] at hg;cases List.isEmpty_iff.mp hg.1;cases List.isEmpty_iff.mp hg.2;cases eZ eg;let⟨M,q2⟩:=fF<|pe D;simp only[xCh,decide_eq_true_eq] at d;let⟨⟨⟨rfl,rfl⟩,hl⟩,hn⟩:=d;let⟨cc,f',fd,s0,m1,x1,FO,bd,x2,x3,x4,x5,x6⟩:=F.x1 q2;rw[<- hK] at x3 x5 x6;let⟨Y,_,_⟩:=fg k i1;let⟨b1,b2,b3⟩:=fg k i2;let⟨n1,n2,_⟩:=c7 hn;refine y9 g (s.L F.nt k.nt ⟨K,nofun⟩ i3).m (λZ E' Ex' ca'=>s.L F.nt k.trial.nt ⟨ca',nofun⟩ i3) k.nd Y ?_ b1 b2 b3 ?_ (k.gl M) (by rw[k.hM];exact m1) (λz=>by rw[k.hM]) (c7<|dw M).1 x5 x6 x3 K.hs K.hf n1 n2
  .unfold zEu at hl;split at hl
   .next R=>exact k.lc R
   .cases hl
  .intro z;subst z;simp at hij
def y4{st:B0 Stmt}{t:C4}(s:zHy P w base B up G lv n)(F:Fc P w base B up G lv c)(k:Cok P w base B lv c X)(b:Cz c X Ex)(h:zF7 c (n+1) st=some t):FSs X B G Ex st t:=by
 change eL (cpt n) _ _=_ at h;unfold eL at h;split at h
 .cases h;exact za F.g
 .next a r=>
  let⟨x,y,i,d,rfl⟩:=dj h;cases i;refine wO F.g ?_<|s.L F k b d;cases e:(cpt n).S c a with
  |none=>exact tI F.g
  |some z=>exact s.S F k b e
set_option tactic.hygienic false
theorem zG1:∀n,zHy P w base B up G lv n
 |0=>⟨(λ_ _ _ h=>nomatch (show none=some _ from h)),(λ_ _ _ h=>nomatch (show none=some _ from h))⟩
 |n+1=>⟨AM<|zG1 n,y4<|zG1 n⟩
end
structure De where
 np:Nat
 n:Nat
 t:C4
noncomputable def zAk(x:C7)(k:C6):Ee Prop:={nx:=λ_ S=>k .non S,rt:=k,bk:=λ_ _=>False,ct:=λ_ _=>False,x:=λe _ S=>x e S}
noncomputable def stU(n:Nat)(vs:B8):Sg:=vs.map some++List.replicate (n-vs.length) none
noncomputable def zGf(up:B0<|Str×Str)(fw:Nat)(call:Nat->B8->So->C7->C6->Prop):C8:={fail:=False,fuel:=fw,prim:=λp vs S x k=>Box<|prP up p vs S k,call:=call,br:=λb p q=>Box<|if b=true then p Unit.unit else q Unit.unit}
structure zEp(tab:Nat->B1 De)(G:C8)(i:Nat)(vs:B8)(S:So)(x:C7)(k:C6):Prop where
 ex:∃(x':C7) (k':C6) (de:De),(∀e S,x' e S->x e S)/\(∀v S,k' v S->k v S)/\tab i=some de/\vs.length=de.np/\de.t G (stU de.n vs) S (zAk x' k')
noncomputable def zA2(up:B0<|Str×Str)(tab:Nat->B1 De)(fw:Nat):Nat->C8
 |0=>zGf up fw λ_ _ _ _ _=>False
 |d+1=>zGf up fw<|zEp tab<|zA2 up tab fw d
theorem zFq{up:B0<|Str×Str}{tab:Nat->B1 De}:∀d,zB1 up (zA2 up tab fw d)
 |0=>⟨rfl,λ_ _ _ _ _=>rfl,λ_ _ _=>rfl,λ_ _ h=>h⟩
 |d+1=>⟨rfl,λ_ _ _ _ _=>rfl,λ_ _ _=>rfl,λc hk ⟨a,b,i,h1,h2,g⟩=>⟨a,b,i,λe S z=>c e S<|h1 e S z,λv S z=>hk v S<|h2 v S z,g⟩⟩
def zHn{up:B0<|Str×Str}{tab:Nat->B1 De}{d i:Nat}{x:C7}{k:C6}{a:De}(e:tab i=some a)(b:vs.length=a.np)(h:a.t (zA2 up tab fw d) (stU a.n vs) S<|zAk x k):(zA2 up tab fw<|d+1).call i vs S x k:=
 zEp.mk ⟨x,k,a,λ_ _ z=>z,λ_ _ z=>z,e,b,h⟩
structure zCq(K:xFr)(x qual:Str)(st:Stmt)(f:B5)(fd:FuncData):Prop where
 ex:∃(oc:B2) (od:B1 B5) (dv kV doc pm:B2) (an:B1 B5) (cdv ct:B2) (osl:Array (B1 B2)),
  fd=PySem.W.fnOf x qual (zAq st) (zAh st) (zAd st) dv kV doc pm an cdv ct/\K.lookup f=some ⟨oc,od,.func fd,osl⟩/\PySem.W.codeIn K cdv qual=true
section
variable{P:Program}{w:World}{B:Bs}{base:Heap}{up:B0<|Str×Str}{tab:Nat->B1 De}{fw d i fu:Nat}{c:Ct}{x qual:Str}{st:Stmt}{f:B5}{fd:FuncData}{N ps:B7}{de:De}
def zCq.okX{K:xFr}{l:Str->B1 B2}{k:Nat}{sp:Sp}(F:zCq K x qual st f fd)(S:zBf N ps<|zAd st)(len:∀vs H Q E,sp vs H Q E->vs.length=ps.length)(g:∀(b:B2)(A:Around)(a:B0 Env)(s:B3)(H:Hp)(vs:B0 V)(Q:VK)(E:XK),zBe k (A.deeper<|envOfC qual (zAd st) s.heap.objs.size f b)->sp vs H Q E ->
   ∃t,PSs (zD1 (CXo P w) P w K l base N qual (zAd st) f b A a s H E) (zAh st) t/\t {nx:=λ_ H'=>Q .non H',rt:=Q} (start N vs) H):zA5 P w K l base (CXo P w) (k+1) f fd ps sp:=by
 let⟨G,D,I,kV,C,pm,L,b,ct,m,rfl,q,j⟩:=F.ex;exact Af q j S len λA a s H vs Q E hr h=>g b A a s H vs Q E hr h
theorem j9:∀{l:B8}{n i:Nat}{v:U},nth (l.map some++List.replicate n none) i=some v->l[i]?=some v
 |[],n,i,v,h=>by
  exfalso;rw[List.map_nil,xC6] at h;revert h;induction n generalizing i with
  |zero=>intro h;cases h
  |succ n a=>
   cases i with
   |zero=>intro h;cases h
   |succ i=>exact a (i:=i)
 |u::l,n,0,v,h=>h
 |u::l,n,i+1,v,h=>by simpa using j9 (l:=l) (n:=n) (i:=i) h
def pJ{W:Wd}{us:B8}{vs:B0 V}(r:Rvs B W us vs):Rg B W (stU N.length us)<|start N vs:=by
 have b:=r.length;refine⟨?_,λi v h=>?_⟩
 .unfold stU L2.start;rw[xAb,xAb,xAa,xAa,xCu,xCu,b]
 .let⟨u,e,a⟩:=r.get<|j9 h;refine⟨u,?_,a⟩;unfold L2.start;have g:i<vs.length:=(xAq.mp e).1;rw[List.getElem?_append_left (by simpa using g),xAw,e];rfl
def uV(F:zCq B.K x qual st f fd)(S:zBf N ps<|zAd st)(hN:c.N=N)(a:c.sc=(zAd st).names)(ht:tab i=some de)(q:de.np=ps.length)(hn:de.n=N.length)(cp:zF7 c fu (zAh st)=some de.t)(FC:Fc P w base B up (zA2 up tab fw d) (2*d+1) c) :
  zA5 P w B.K B.mg base (CXo P w) (2*(d+1)+1) f fd ps (spF B (zA2 up tab fw<|d+1) i de.np):=by
 refine zCq.okX (k:=2*d+2) F S (λvs H Q E h=>by rw[h.1,q]) λD A g s H vs Q E hr l=>?_;let⟨hl,W,us,S0,T,R,hc⟩:=l;let⟨I,Y,de',Z,hk,e,hl',b⟩:=zEp.ex hc;rw[ht] at e;cases e;have ck:Cok P w base B (2*d+1) c<|zD1 (CXo P w) P w B.K B.mg base N qual (zAd st) f D A g s H E:=by
  refine⟨rfl,rfl,rfl,rfl,rfl,hN.symm,S.nd,λ{x} h=>?_,λ{x} h=>?_,λ{x} h=>?_,λ{x} h=>?_,rfl,hr,λ_=>(by show(if(zAd st).kind.isAnnotationScope then ScopeKind.function else(zAd st).kind)=_;rw[S.kind];rfl),λ_ {x} h=>?_⟩
  .unfold isV at h;rw[cw,a] at h;split at h <;> first|cases h;done|skip
   .next e=>exact .inl e
   .next e=>exact .inr (.inl e)
   .next e=>exact .inr (.inr e)
  .unfold isL at h;rw[cw,a] at h;split at h <;> first|cases h;done|skip
   .next e=>exact⟨.inl e,.inl rfl⟩
   .next e=>exact⟨.inr e,.inl rfl⟩
  .rw[cw,a] at h;exact h
  .unfold isG at h;rw[xCh,cw,a] at h;have G:=h.1;split at G
   .next e=>exact e
   .cases G
  .rw[cw,a] at h;exact⟨h,ie h⟩
 have fs:=(zG1 fu).L FC ck ⟨ig.cat,λ_=>ig⟩ cp;refine⟨_,fs.p,W,stU N.length us,S0,T,pJ R,?_⟩;rw[hn] at b;refine fs.m.m (E:=zAk I Y) ⟨λO S1 z=>?_,λv S1 z=>hk v S1 z,λ_ _ z=>False.elim z,λ_ _ z=>False.elim z,λe O S1 z=>?_⟩ b
 .exact λW' τ H' le j X=>hk _ _ z W' .non H' le j rfl
 .exact λW' τ C dx H' le M X=>Z _ _ z W' C dx H' le M
end
structure Row where
 x:Str
 qual:Str
 i:Nat
 st:Stmt
 ps:B7
 N:B7
 mu:B7
 t:C4
structure Tb where
 gl:B0 (Str×Gd)
 ms:B0 (Str×Str×Nat×Nat)
 fl:B7
 bl:B7
 ini:B7
 isc:B7
def Tb.ct(b:Tb)(N a:B7)(st:Stmt):Ct:=⟨N,(zAd st).names,b.gl,b.ms,a,b.fl,b.bl,b.ini,b.isc,false,true⟩
noncomputable def zFe:B0 Row->Nat->B1 De
 |[],_=>none
 |r::l,i=>match Nat.beq r.i i with
  |true=>some ⟨r.ps.length,r.N.length,r.t⟩
  |false=>zFe l i
structure zEv(b:Tb)(tab:Nat->B1 De)(r:Row):Prop where
 S:zBf r.N r.ps (zAd r.st)
 cp:∃fu,zF7 (b.ct r.N r.mu r.st) fu (zAh r.st)=some r.t
 ta:tab r.i=some ⟨r.ps.length,r.N.length,r.t⟩
def Dfl(B:Bs)(fd:FuncData)(ps:B7)(b:Nat)(d:B8):Prop:=∀{n ds},dflt b n d=some ds->n+ds.length=b/\∃a c,zAv B.K fd ps c/\zAi a c/\∀W,Rvs B W ds a
structure Pf(P:Program)(w:World)(base:Heap)(B:Bs)(up:B0 (Str×Str))(b:Tb)(rows:B0 Row):Prop where
 fn:∀{x i np df mp},zAt x b.gl=some (.fn i np df mp)->∃r f fd,r∈rows/\r.i=i/\r.ps.length=np/\B.mg x=some (.ref f)/\PySem.W.keepIn B.K (.ref f)=true/\zCq B.K r.x r.qual r.st f fd/\Dfl B fd r.ps np df
 cl:∀{x i np df},zAt x b.gl=some (.cl i np df)->∃r cc f fd,r∈rows/\r.i=i/\r.ps.length=np/\B.cl x cc/\B.mg x=some (.ref cc)/\Mk B.K cc f/\zCq B.K r.x r.qual r.st f fd/\Dfl B fd r.ps np df
 ms:∀{m C i np},zAt m b.ms=some (C,i,np)->∃r cc f fd,r∈rows/\r.i=i/\r.ps.length=np/\(∀c',B.cl C c'->c'=cc)/\Cls B.K cc/\zEn B.K cc m f/\zCq B.K r.x r.qual r.st f fd/\zAv B.K fd r.ps []
 con:∀{x u},zAt x b.gl=some (.con u)->∃v val,B.mg x=some val/\zAj v val/\∀W,Rv B W u v
 x0:∀{x},zAt x b.gl=some (.xc [])->∃cc,B.mg x=some (.ref cc)/\PySem.W.excIn B.K cc bmV "ValueError.__new__"=true/\zCd B.K cc=true/\PySem.W.keepIn B.K (.ref cc)=true
 x1:∀{x f},zAt x b.gl=some (.xc [f])->∃cc f' fd s0,B.mg x=some (.ref cc)/\XMk B.K cc f'/\zA5 P w B.K B.mg base (CXo P w) 1 f' fd [s0,f] (zFa B.K f)/\zAv B.K fd [s0,f] []/\XSt B.K cc/\zAw B.K cc f/\zCd B.K cc=true/\zA8 B.K cc cc/\XGt B.K cc
 bl:∀{x},x∈b.bl->B.mg x=none
 k1:zCw B "int"
 k2:zCw B "bool"
 k3:zCw B "str"
 k4:zCw B "tuple"
 clf:ClF B b.fl
 clt:ClT B
 kdf:KdF w B
section
variable{P:Program}{w:World}{base:Heap}{B:Bs}{up:B0<|Str×Str}{b:Tb}{rows:B0 Row}{tab:Nat->B1 De}{fw:Nat}
def zCe(a:∀r∈rows,zEv b tab r)(hr:r∈rows){f:B5}(F:zCq B.K r.x r.qual r.st f fd):∀d,(∀N g st,Fc P w base B up (zA2 up tab fw d) (2*d+1)<|b.ct N g st)->zA5 P w B.K B.mg base (CXo P w) (2*(d+1)+1) f fd r.ps (spF B (zA2 up tab fw<|d+1) r.i r.ps.length):=λd h=>
 let ⟨S,⟨_,j⟩,ta⟩:=a r hr
 uV (c:=b.ct r.N r.mu r.st) F S rfl rfl ta rfl rfl j (h _ _ _)
def zg{f:B5}:zA5 P w B.K B.mg base (CXo P w) (2*0+1) f fd r.ps<|spF B (zA2 up tab fw 0) r.i r.ps.length:=
 ⟨λ_ _ _ _ h=>h.1,λ_ _ _ _ _ _ _ _ _ _ _ _ _ h=>by let⟨_,_,_,_,_,_,h⟩:=h;exact False.elim h⟩
def wc(p:Pf P w base B up b rows)(C:∀r∈rows,zEv b tab r)(d:Nat)(ok:∀{r:Row}{f:B5}{fd:FuncData},r∈rows->zCq B.K r.x r.qual r.st f fd->zA5 P w B.K B.mg base (CXo P w) (2*d+1) f fd r.ps (spF B (zA2 up tab fw d) r.i r.ps.length))(N q:B7)(st:Stmt):Fc P w base B up (zA2 up tab fw d) (2*d+1) (b.ct N q st) where
 g:=zFq d
 fn:=λh=>by
  let⟨r,f,fd,hr,rfl,rfl,c,a,F,j⟩:=p.fn h;exact⟨f,fd,r.ps,c,a,ok hr F,j⟩
 cl:=λh=>by
  let⟨r,l,f,fd,hr,rfl,rfl,c,a,k,F,j⟩:=p.cl h;exact⟨l,f,fd,r.ps,c,a,k,ok hr F,j⟩
 ms:=λh=>by
  let⟨r,l,f,fd,hr,rfl,rfl,c,a,k,F,j⟩:=p.ms h;exact⟨l,f,fd,r.ps,c,a,k,ok hr F,j⟩
 con:=p.con
 x0:=p.x0
 x1:=λh=>by
  let⟨l,A,fd,m,c,a,F,k⟩:=p.x1 h;exact⟨l,A,fd,m,c,a,F.mono (),k⟩
 bl:=p.bl
 k1:=p.k1
 k2:=p.k2
 k3:=p.k3
 k4:=p.k4
 clf:=p.clf
 clt:=p.clt
 kdf:=p.kdf
theorem rT(p:Pf P w base B up b rows)(a:∀r∈rows,zEv b tab r):∀(d:Nat)(N c:B7)(st:Stmt),Fc P w base B up (zA2 up tab fw d) (2*d+1) (b.ct N c st)
 |0=>wc p a 0 λ_ _=>zg
 |d+1=>wc p a (d+1) λhr F=>zCe a hr F d<|rT p a d
def yV(p:Pf P w base B up b rows)(a:∀r∈rows,zEv b tab r)(hr:r∈rows){f:B5}(F:zCq B.K r.x r.qual r.st f fd)(d:Nat):zA5 P w B.K B.mg base (CXo P w) (2*(d+1)+1) f fd r.ps<|spF B (zA2 up tab fw<|d+1) r.i r.ps.length:=zCe a hr F d<|rT p a d
end
noncomputable def zI2:B1 NameKind->B6
 |some .local=>true
 |some .cell=>true
 |_=>false
noncomputable def zEd:NameKind->B6
 |.free=>false
 |_=>true
noncomputable def eqL:B7->B7->B6
 |[],[]=>true
 |x::r,y::s=>decide (x=y)&&eqL r s
 |_,_=>false
theorem si:∀{a b:B7},eqL a b=true->a=b
 |[],[],_=>rfl
 |[],_::_,h=>by cases h
 |_::_,[],h=>by cases h
 |x::r,y::s,h=>by
  simp only[eqL,xCh,decide_eq_true_eq] at h;rw[h.1,si h.2]
def scB(N ps:B7)(sc:Scope):B6:=decide (sc.kind=.function)&&(!sc.isCoroutine&&(!sc.isGenerator&&(zBi N&&(eqL (N.take ps.length) ps&&(ps.all (λx=>zI2<|zAt x sc.names)&&sc.names.all λy=>zEd y.2)))))
def kX{N ps:B7}{sc:Scope}(h:scB N ps sc=true):zBf N ps sc:=by
 simp only[scB,xCh,Bool.not_eq_true'] at h;let⟨l,k,j,i,g,d,c⟩:=h;refine⟨xBe l,k,j,d0 i,si g,λx b=>?_,λy a e=>?_⟩
 .have:=xCx.mp d x b;rw[cw] at this;unfold zI2 at this;split at this
  .next e=>exact .inl e
  .next e=>exact .inr e
  .cases this
 .have:=xCx.mp c y a;rw[e] at this;cases this
def zJ6{b:Tb}{tab:Nat->B1 De}(d:scB r.N r.ps (zAd r.st)=true)(c:zF7 (b.ct r.N r.mu r.st) 100 (zAh r.st)=some r.t)(a:tab r.i=some ⟨r.ps.length,r.N.length,r.t⟩):zEv b tab r:=⟨kX d,⟨_,c⟩,a⟩
def alln{p:J->Prop}:∀x∈([]:B0 J),p x:=λ_ h=>nomatch h
def allc{p:J->Prop}{a:J}{l:B0 J}(h:p a)(r:∀x∈l,p x):∀x∈a::l,p x:=List.forall_mem_cons.mpr ⟨h,r⟩
def dG{v:J}{l:B0<|Str×J}(h:zAt x l=some v):(x,v)∈l:=dn (by rw[<- cw];exact h)
noncomputable def mkB(K:xFr)(g:Str->B1 B2)(d:B0<|Str×B5)(b:B0<|B5×B0 (Str×U)×B7):Bs:=⟨K,g,λp a no=>(p,a,no)∈b,λC c=>(C,c)∈d⟩
noncomputable def zFv{J:Type}:B1 (B1 J)->B6
 |some none=>true
 |_=>false
def jr{o:B1<|B1 J}(h:zFv o=true):o=some none:=by
 unfold zFv at h;split at h
 .rfl
 .cases h
def zDl(K:xFr)(C:B5)(fl:B7):B6:=fl.all λf=>zFv<|PySem.W.findIn K (.ref C) f
def mgB(K:xFr)(l:B7):B6:=l.all λx=>zFv<|PySem.W.nsIn K mainGlobals x
def nsB(K:xFr)(p:B5)(l:B7):B6:=l.all λx=>zFv<|PySem.W.nsIn K p x
noncomputable def eqO:B1 B6->B6->B6
 |some true,true=>true
 |some false,false=>true
 |_,_=>false
def sf{o:B1 B6}{b:B6}(h:eqO o b=true):o=some b:=by
 unfold eqO at h;split at h <;> first|rfl|cases h
def zCy(K:xFr)(n:String)(a:B0<|Str×B5):B6:=(tys.all λt=>eqO (PySem.W.kitOne K (.type t)<|.type n)<|zFu t n)&&a.all λc=>eqO (PySem.W.kitOne K (.ref c.2)<|.type n)<|zFu "object" n
section
variable{K:xFr}{mg:Str->B1 B2}{cls:B0<|Str×B5}{kds:B0<|B5×B0 (Str×U)×B7}{up:B0<|Str×Str}
def zGn{n:String}(h:zCy K n cls=true):zCw (mkB K mg cls kds) n:=by
 simp only[zCy,xCh,xCx] at h;exact⟨λt a=>sf<|h.1 t a,λ{C c} b=>sf<|h.2 (C,c) b⟩
def clF{fl:B7}(g:∀p∈cls,Cls K p.2)(d:∀p∈cls,zDl K p.2 fl=true):ClF (mkB K mg cls kds) fl:=⟨λ{C c} a=>g (C,c) a,λ{C c f} a b=>jr<|xCx.mp (d (C,c) a) f b⟩
variable{x qual:Str}{st:Stmt}{f:B5}{fd:FuncData}{ps:B7}{ds es:C3}
def Fun.fa(F:Fun K x qual st f fd):zCq K x qual st f fd:=by
 let⟨h,g,kV,c,pm,j,d,ct,a,e,i,b⟩:=F.ex;exact⟨h,g,_,kV,c,pm,j,d,ct,a,e,i,b⟩
def BdC(r:Row):Prop:=∀(kV a pm:B2)(c:B1 B5)(b ct:B2)(us:C3),us.length=r.ps.length->bindArgs (PySem.W.fnOf r.x r.qual (zAq r.st) (zAh r.st) (zAd r.st) .none kV a pm c b ct) ⟨us,[]⟩=pure (r.ps.zip us)
def zI6(F:Fun K r.x r.qual r.st f fd)(b:BdC r):Dfl (mkB K mg cls kds) fd r.ps r.ps.length []:=λ{n ds} h=>by
 let⟨rfl,e⟩:=zF5 h;exact⟨by simpa using e,[],[],F.binds b,.nil,λ_=>rfl⟩
end
def zDh(P:Program)(w:World)(d:Heap)(B:Bs)(up:B0<|Str×Str)(b:Tb)(rows:B0 Row):Str×Gd->Prop
 |(x,.fn i c g _)=>∃r f fd,r∈rows/\r.i=i/\r.ps.length=c/\B.mg x=some (.ref f)/\PySem.W.keepIn B.K (.ref f)=true/\zCq B.K r.x r.qual r.st f fd/\Dfl B fd r.ps c g
 |(x,.cl i c g)=>∃r a f fd,r∈rows/\r.i=i/\r.ps.length=c/\B.cl x a/\B.mg x=some (.ref a)/\Mk B.K a f/\zCq B.K r.x r.qual r.st f fd/\Dfl B fd r.ps c g
 |(x,.xc [])=>∃a,B.mg x=some (.ref a)/\PySem.W.excIn B.K a bmV "ValueError.__new__"=true/\zCd B.K a=true/\PySem.W.keepIn B.K (.ref a)=true
 |(x,.xc [f])=>∃a j fd h,B.mg x=some (.ref a)/\XMk B.K a j/\zA5 P w B.K B.mg d (CXo P w) 1 j fd [h,f] (zFa B.K f)/\zAv B.K fd [h,f] []/\XSt B.K a/\zAw B.K a f/\zCd B.K a=true/\zA8 B.K a a/\XGt B.K a
 |(_,.xc _)=>True
 |(x,.con u)=>∃v val,B.mg x=some val/\zAj v val/\∀W,Rv B W u v
def zH1(B:Bs)(rows:B0 Row)(p:Str×Str×Nat×Nat):Prop:=∃r a f fd,r∈rows/\r.i=p.2.2.1/\r.ps.length=p.2.2.2/\(∀b,B.cl p.2.1 b->b=a)/\Cls B.K a/\zEn B.K a p.1 f/\zCq B.K r.x r.qual r.st f fd/\zAv B.K fd r.ps []
def zt{P:Program}{w:World}{a:Heap}{up:B0<|Str×Str}{b:Tb}{rows:B0 Row}(c:∀p∈b.gl,zDh P w a B up b rows p)(g:∀p∈b.ms,zH1 B rows p)(d:∀x∈b.bl,B.mg x=none)(k1:zCw B "int")(k2:zCw B "bool")(k3:zCw B "str")(k4:zCw B "tuple")(clf:ClF B b.fl)(clt:ClT B)(kdf:KdF w B):Pf P w a B up b rows where
 fn:=λh=>c _<|dG h
 cl:=λh=>c _<|dG h
 ms:=λh=>g _<|dG h
 con:=λh=>c _<|dG h
 x0:=λh=>c _<|dG h
 x1:=λh=>c _<|dG h
 bl:=λh=>d _ h
 k1:=k1
 k2:=k2
 k3:=k3
 k4:=k4
 clf:=clf
 clt:=clt
 kdf:=kdf
def DnR(K:xFr)(r:Row):Prop:=∃(f:B5) (fd:FuncData),PySem.W.nsIn K mainGlobals r.x=some (some<|.ref f)/\Fun K r.x r.qual r.st f fd
def MdR(K:xFr)(C:B5)(r:Row):Prop:=∃(f:B5) (fd:FuncData),PySem.W.findIn K (.ref C) r.x=some (some<|.ref f)/\PySem.W.isFn K (.ref f)=true/\PySem.W.keepIn K (.ref f)=true/\Fun K r.x r.qual r.st f fd
section
variable{K:xFr}{f T C:B5}{oc kV dc pm cd ct:B2}{od an:B1 B5}{sl:Array<|B1 B2}{nm q:Str}{st:Stmt}{m:Str}{i:Nat}{ps N mu:B7}{t:C4}{d:B2}{oT:Obj}{n:Nat}
def dnr(g:PySem.W.nsIn K mainGlobals nm=some (some<|.ref f))(c:K.lookup f=some ⟨oc,od,.func<|PySem.W.fnOf nm q (zAq st) (zAh st) (zAd st) .none kV dc pm an cd ct,sl⟩)(b:PySem.W.codeIn K cd q=true)(a:PySem.W.keepIn K (.ref f)=true):DnR K ⟨nm,q,i,st,ps,N,mu,t⟩:=⟨f,_,g,lK c b a⟩
def mdr(h:PySem.W.findIn K (.ref C) m=some (some<|.ref f))(b:PySem.W.isFn K (.ref f)=true)(g:K.lookup f=some ⟨oc,od,.func<|PySem.W.fnOf m q (zAq st) (zAh st) (zAd st) .none kV dc pm an cd ct,sl⟩)(c:PySem.W.codeIn K cd q=true)(a:PySem.W.keepIn K (.ref f)=true):MdR K C ⟨m,q,i,st,ps,N,mu,t⟩:=⟨f,_,h,b,a,lK g c a⟩
end
section
variable{P:Program}{w:World}{base h:Heap}{K:xFr}{mg:Str->B1 B2}{cls:B0<|Str×B5}{kds:B0<|B5×B0 (Str×U)×B7}{up:B0<|Str×Str}{b:Tb}{rows:B0 Row}{r:Row}{mp:B0 B6}{x C:Str}{cc a:B5}{i:Int}{tk:Tok}
def cr(X:K.In h)(G:h.Ns mainGlobals mg)(d:DnR K r)(hr:r∈rows)(g:BdC r):zDh P w base (mkB K mg cls kds) up b rows (r.x,.fn r.i r.ps.length [] mp):=
 let ⟨f,fd,c,F⟩:=d
 ⟨r,f,fd,hr,rfl,rfl,PySem.W.mg_of X G c,F.kp,Fun.fa F,zI6 F g⟩
structure CsR(K:xFr)(C:B5)(n:Str):Prop where
 at_:PySem.W.nsIn K mainGlobals n=some (some (.ref C))
 cls:Cls K C
 mks:PySem.W.makesIn K C=true
 kp:PySem.W.keepIn K (.ref C)=true
 ha:PySem.W.findIn K (.ref C) "__class__"=some (some (.builtin "object.__class__"))
 hm:PySem.W.mroIn K C (.type "object")=some true
def wa(X:K.In h)(G:h.Ns mainGlobals mg)(c:CsR K cc C)(d:MdR K cc r)(j:r.x="__init__")(hr:r∈rows)(k:(C,cc)∈cls)(q:BdC r):zDh P w base (mkB K mg cls kds) up b rows (C,.cl r.i r.ps.length []):=by
 let⟨f,fd,m,l,kp,F⟩:=d;have g:PySem.W.findIn K (.ref cc) "__init__"=some (some<|.ref f):=by rw[<- j];exact m
 refine⟨r,cc,f,fd,hr,rfl,rfl,k,PySem.W.mg_of X G c.at_,⟨c.mks,g,l,c.kp⟩,Fun.fa F,zI6 F q⟩
theorem uniq:∀{cls:B0<|Str×B5}{C:Str}{c g:B5},zBi (cls.map (·.1))=true->(C,c)∈cls->(C,g)∈cls->g=c:=λ{cls C c g} d h1 h2=>by
 have d:=d0 d;clear ‹zBi _=true›;induction cls with
 |nil=>cases h1
 |cons p r j=>
  rw[xBs,xCb] at d;rcases xAv.mp h1 with e1|h1 <;> rcases xAv.mp h2 with e2|h2
  .rw[<- e1] at e2;cases e2;rfl
  .exact absurd (xA2.mpr ⟨_,h2,by rw[<- e1]⟩) d.1
  .exact absurd (xA2.mpr ⟨_,h1,by rw[<- e2]⟩) d.1
  .exact j h1 h2 d.2
def en(g:zBi (cls.map (·.1))=true)(c:CsR K cc C)(d:MdR K cc r)(hr:r∈rows)(j:(C,cc)∈cls)(m:BdC r):zH1 (mkB K mg cls kds) rows (r.x,C,r.i,r.ps.length):=
 let ⟨f,fd,l,k,kp,F⟩:=d
 ⟨r,cc,f,fd,hr,rfl,rfl,λq h=>uniq g j h,c.cls,⟨l,k,kp⟩,Fun.fa F,F.binds m⟩
def gc(X:K.In h)(G:h.Ns mainGlobals mg)(e:PySem.W.nsIn K mainGlobals x=some (some<|.int i tk)):zDh P w base (mkB K mg cls kds) up b rows (x,.con<|.int i):=⟨.int i,_,PySem.W.mg_of X G e,⟨_,rfl⟩,λ_=>rfl⟩
def rQ{z:Str}(X:K.In h)(G:h.Ns mainGlobals mg)(e:PySem.W.nsIn K mainGlobals x=some (some<|.str z tk)):zDh P w base (mkB K mg cls kds) up b rows (x,.con<|.str z):=⟨.str z,_,PySem.W.mg_of X G e,⟨_,rfl⟩,λ_=>rfl⟩
theorem gE{B:Bs}{W:Wd}{β:Type}{f:β->U}{g:β->V}(h:∀x,Rv B W (f x)<|g x):∀(l:B0 β),Rvs B W (l.map f) (l.map g)
 |[]=>rfl
 |x::l=>⟨g x,l.map g,rfl,h x,gE h l⟩
def ye{l:B7}(h:∀H,SqT B.K H a<|l.map .str)(W:Wd):Rv B W (.kt<|l.map .str)<|.ref a:=⟨a,_,rfl,h,gE (f:=U.str) (g:=V.str) (λ_=>rfl) l⟩
def yf{l:B'}(h:∀H,SqT B.K H a<|l.map .int)(W:Wd):Rv B W (.kt<|l.map .int)<|.ref a:=⟨a,_,rfl,h,gE (f:=U.int) (g:=V.int) (λ_=>rfl) l⟩
def v6{u:U}(X:K.In h)(G:h.Ns mainGlobals mg)(e:PySem.W.nsIn K mainGlobals x=some (some<|.ref a))(r:∀W,Rv (mkB K mg cls kds) W u<|.ref a):zDh P w base (mkB K mg cls kds) up b rows (x,.con u):=⟨.ref a,_,PySem.W.mg_of X G e,rfl,r⟩
def v7{c:B0<|Str×U}{no:B7}(X:K.In h)(G:h.Ns mainGlobals mg)(e:PySem.W.nsIn K mainGlobals x=some (some<|.ref a))(d:(a,c,no)∈kds):zDh P w base (mkB K mg cls kds) up b rows (x,.con<|.kd c no):=⟨.ref a,_,PySem.W.mg_of X G e,rfl,λ_=>⟨a,rfl,d⟩⟩
structure zJi(w:World)(B:Bs)(q:B5×B0 (Str×U)×B7):Prop where
 d:KD w B.K q.1
 y:∀e∈q.2.1,∃u val,PySem.W.nsIn B.K q.1 e.1=some (some val)/\zAj u val/\∀W,Rv B W e.2 u
 n:nsB B.K q.1 q.2.2=true
def kdF(j:∀q∈kds,zJi w (mkB K mg cls kds) q):KdF w<|mkB K mg cls kds:=
 ⟨λ{p c no} g=>(j _ g).d,λ{p c no x v} g k=>(j _ g).y _<|dG k,λ{p c no x} g l=>jr<|xCx.mp (j _ g).n x l⟩
def clT(k:∀p∈cls,Cls K p.2/\PySem.W.findIn K (.ref p.2) "__class__"=some (some<|.builtin "object.__class__")/\PySem.W.mroIn K p.2 (.type "object")=some true)(g:PySem.W.specialIn K (.builtin "object.__class__") "__get__"=some (some<|.builtin "getset_descriptor.__get__"))(d:PySem.W.takesIn K (.builtin "object.__class__")=some true):ClT<|mkB K mg cls kds:=
 ⟨λ{C c H a A fs} j e=>let ⟨q,m,l⟩:=k (C,c) j;.ins e q m g d l⟩
def v5(X:K.In h)(G:h.Ns mainGlobals mg)(e:PySem.W.nsIn K mainGlobals x=some (some<|.ref a))(g:PySem.W.excIn K a bmV "ValueError.__new__"=true)(d:zCd K a=true)(c:PySem.W.keepIn K (.ref a)=true):zDh P w base (mkB K mg cls kds) up b rows (x,.xc []):=⟨a,PySem.W.mg_of X G e,g,d,c⟩
def zDk(K:xFr)(n:Nat):Sp:=λvs H Q _=>∃(a:B5) (c:B'),vs=[.ref a]/\c.length<=n/\SqL K H a (c.map V.int)/\∀H',Q (.bl true) H'
def yb{G:C8}{i:Nat}(g:zB1 up G)(math:∀ns:B',ns.length<=n->G.call i [.kl<|ns.map U.int] [] (λ_ _=>False) (λv _=>v=.bl true)):∀vs H Q E,zDk B.K n vs H Q E->spF B G i 1 vs H Q E:=λvs H Q E c=>by
 let⟨a,ns,e,k,j,q⟩:=c;subst e;erw[<-⟨rfl,⟨H,[],[]⟩,[.kl<|ns.map U.int],[],⟨λ_ _ h=>h,rfl,λ_ _ _ h=>(by cases h),λ_ _ h=>(by cases h),λ_ h=>(by cases h)⟩,⟨.ref a,[],rfl,⟨a,ns.map V.int,rfl,j,gE (f:=U.int) (g:=V.int) (λ_=>rfl) ns⟩,rfl⟩,?_⟩,<-g.call (λ_ _ z=>z.elim) (λv S z=>?_)<|math ns k];subst z;exact λW' u H' le l d=>by rw[show u=.bl true from d];exact q H'
end
section
variable{P:Program}{w:World}{base h:Heap}{K:xFr}{mg:Str->B1 B2}{cls:B0<|Str×B5}{kds:B0<|B5×B0 (Str×U)×B7}{up:B0<|Str×Str}{b:Tb}{rows:B0 Row}{x qual s0 fld:Str}{a f:B5}{fd:FuncData}{st:Stmt}
def yW{p1 p2:Pos}(F:zCq K x qual st f fd)(M:zAh st=[.Assign [.Attribute (.Name s0 p1) fld p2] (.Name fld p3) p4])(S:zBf [s0,fld] [s0,fld]<|zAd st)(O:okN s0=true)(N:okN fld=true):zA5 P w K mg base (CXo P w) 1 f fd [s0,fld]<|zFa K fld:=by
 refine F.okX S (λvs H Q E h=>?_) λT A c s H vs Q E hr h=>?_
 .let⟨e,C,v,rfl,_⟩:=h;rfl
 .let⟨e,C,v,rfl,I,d,k,q⟩:=h;let⟨G,D,_⟩:=c7 O;let⟨m,l,_⟩:=c7 N;have j:Vis (zAd st) s0:=(S.par s0 ⋯).imp id .inl;have g:Vis (zAd st) fld:=(S.par fld ⋯).imp id .inl;rw[M];refine⟨_,i8<|tQ (je (i:=0) rfl j G D) (je (i:=1) rfl g m l) rfl,?_⟩;exact⟨_,rfl,_,rfl,e,C,rfl,I,d,k,λR L=>q R L⟩
def v4{p1 p2:Pos}(X:K.In h)(G:h.Ns mainGlobals mg)(e:PySem.W.nsIn K mainGlobals x=some (some<|.ref a))(c:XC K a)(i:PySem.W.findIn K (.ref a) fld=some none)(j:PySem.W.mroIn K a (.ref a)=some true)(k:PySem.W.findIn K (.ref a) "__init__"=some (some<|.ref f))(i1:PySem.W.isFn K (.ref f)=true)(F:Fun K "__init__" qual st f fd)(l:zAh st=[.Assign [.Attribute (.Name s0 p1) fld p2] (.Name fld p3) p4])(S:zBf [s0,fld] [s0,fld]<|zAd st)(q:okN s0=true)(m:okN fld=true)(A:∀(kV d pm:B2)(C:B1 B5)(g ct:B2)(us:C3),us.length=[s0,fld].length->bindArgs (PySem.W.fnOf "__init__" qual (zAq st) (zAh st) (zAd st) .none kV d pm C g ct) ⟨us,[]⟩=pure ([s0,fld].zip us)):zDh P w base (mkB K mg cls kds) up b rows (x,.xc [fld]):=
 ⟨a,f,fd,s0,PySem.W.mg_of X G e,c.mkx k i1,yW (Fun.fa F) l S q m,F.binds A,c.st,i,c.f,⟨c.f,c.f,j⟩,c.gt⟩
end
end Fx
namespace Fx
open PySem L2
variable{kvs:B0<|Key×U}
section
variable{up:B0<|Str×Str}{tab:Nat->B1 De}{fw d:Nat}{p:Pm}{vs:B8}{S S':So}{x:C7}{k:C6}{v:U}{a b:Unit->Prop}
def pm(e:pr up p vs S=.ok v S')(h:k v S'):(zA2 up tab fw d).prim p vs S x k:=by
 rw[(zFq (up:=up) (tab:=tab) (fw:=fw) d).prim];exact⟨by unfold prP;rw[e];exact h⟩
def brT(h:a Unit.unit):(zA2 up tab fw d).br true a b:=by
 rw[(zFq (up:=up) (tab:=tab) (fw:=fw) d).br];exact⟨by rw[xCg rfl];exact h⟩
def brF(h:b Unit.unit):(zA2 up tab fw d).br false a b:=by
 rw[(zFq (up:=up) (tab:=tab) (fw:=fw) d).br];exact⟨by rw[xCf ∅];exact h⟩
def tX{xs:B8}{j:Nat}(h:xs[j]?=some v):pr up .ix [.kl xs,.int j] S=.ok v S:=by
 show opt (atI xs (j:Int)) S=_;rw[dQ h];rfl
end
section
variable{up:B0<|Str×Str}{S S':So}{p q:Nat}{o o':Ob}{C f m:Str}{fs fs':B0<|Str×U}{v u:U}{xs ys:B8}
theorem zBt{J:Type}:∀{l:B0 J}{p:Nat}{o:J},at? l p=some o->p<l.length
 |_::_,0,_,_=>⋯
 |_::l,p+1,_,h=>by have:=zBt (l:=l) h;simp;lia
theorem zAc{J:Type}:∀{l:B0 J}{p:Nat}{o o':J},at? l p=some o->at? (set l p o') p=some o'
 |_::_,0,_,_,_=>rfl
 |_::l,p+1,_,_,h=>zAc (l:=l) h
theorem zHv{J:Type}:∀{l:B0 J}{p q:Nat}{o:J},p≠q->at? (set l p o) q=at? l q
 |[],_,_,_,_=>rfl
 |_::_,0,0,_,h=>absurd rfl h
 |_::_,0,_+1,_,_=>rfl
 |_::_,_+1,0,_,_=>rfl
 |_::l,p+1,q+1,_,h=>zHv (l:=l) ()
theorem zBb{J:Type}:∀{l:B0 J}{p:Nat}{o:J},(set l p o).length=l.length
 |[],_,_=>rfl
 |_::_,0,_=>rfl
 |_::l,p+1,_=>congrArg (·+1)<|zBb (l:=l)
theorem zBu{J:Type}:∀{l t:B0 J}{p:Nat}{o:J},at? l p=some o->at? (l++t) p=some o
 |_::_,_,0,_,h=>h
 |_::l,_,p+1,_,h=>zBu (l:=l) h
theorem zA3{J:Type}:∀{l:B0 J}{o:J},at? (l++[o]) l.length=some o
 |[],_=>rfl
 |_::l,_=>zA3 (l:=l)
theorem zAa{J:Type}:∀{l:B0 J}{p:Nat}{o o':J},set (set l p o) p o'=set l p o'
 |[],_,_,_=>rfl
 |_::_,0,_,_=>rfl
 |x::l,p+1,_,_=>congrArg (x::·)<|zAa (l:=l)
def du(h:at? S p=some (.ins C fs))(e:zAt f fs=some v):pr up (.fld f) [.ref p] S=.ok v S:=by
 show zC2 p S _=_;unfold zC2;rw[h];show opt (zAt f fs) S=_;rw[e];rfl
def i9(h:at? S p=some (.ins C fs))(e:putF f v fs=fs')(a:Nat.ble fs.length 900=true):pr up (.setf f) [.ref p,v] S=.ok .non (set S p<|.ins C fs'):=by
 show zC2 p S _=_;unfold zC2;rw[h];dsimp only;rw[a,e]
def zBd{n:Nat}{r:Res}(h:n<=sizeLine):fits n r=r:=by
 unfold fits;rw[xDk h]
def cZ(h:at? S p=some (.lst xs))(a:xs.length+1<=sizeLine):pr up .app [.ref p,v] S=.ok .non (set S p<|.lst<|xs++[v]):=by
 show zCi p S _=_;unfold zCi;rw[h];exact zBd a
def xf(h:at? S p=some (.lst<|xs++[v])):pr up .pop [.ref p] S=.ok v (set S p<|.lst xs):=by
 show zCi p S _=_;unfold zCi;rw[h];dsimp only;rw[List.getLast?_concat,List.dropLast_concat]
def cv(h:at? S p=some (.lst xs)):pr up (.typ "list") [.ref p] S=.ok (.ref p) S:=by
 delta pr;dsimp only[tyU];rw[h];rfl
def cm(h:at? S p=some (.ins C fs))(e:zAt m fs=none):pr up (.cls C m) [.ref p] S=.ok (.ref p) S:=by
 show zC2 p S _=_;unfold zC2;rw[h];dsimp only;rw[xBd rfl,e]
def dN(h:at? S p=some (.lst xs)):pr up .len [.ref p] S=.ok (.int xs.length) S:=by
 show zDn (.ref p) S=_;unfold zDn;dsimp only;rw[h]
def tW(h:at? S p=some (.dct kvs)):pr up .len [.ref p] S=.ok (.int kvs.length) S:=by
 show zDn (.ref p) S=_;unfold zDn;dsimp only;rw[h]
def xb(h:at? S p=some (.lst xs)):pr up .tru [.ref p] S=.ok (.bl (!xs.isEmpty)) S:=by
 show obB (zEy S<|.ref p) id S=_;unfold zEy;dsimp only;rw[h];rfl
def tV{x:Str}(h:at? S p=some (.dct kvs))(a:kvs.length+1<=sizeLine):pr up .seti [.ref p,.str x,v] S=.ok .non (set S p<|.dct<|putK (.inr x) v kvs):=by
 show zB5 p (.str x) v S=_;unfold zB5;rw[h];exact zBd a
def fX{x:Str}(h:at? S p=some (.dct kvs))(e:zCc (.inr x) kvs=some v):pr up .ix [.ref p,.str x] S=.ok v S:=by
 show ixU (.ref p) (.str x) S=_;unfold ixU;dsimp only;rw[h];show opt (zCc (.inr x) kvs) S=_;rw[e];rfl
end
end Fx
namespace K02
open PySem L2 Fx
variable{mg:Str->B1 B2}{cls:B0<|Str×B5}{kds:B0<|B5×B0 (Str×U)×B7}{l is:B9}{fw j D h pq e w' e':Nat}{m lo hi mi pp wi:Int}{S:So}{v u9:U}{N:Str->Prop}{y s so:Str}{A B:Pg}{L vs ys:B8}{c:Nat->Int}{xx:C7}{a1 a2 a3 a5 a7 a8 a10 a11 a13 a12 a4 a6:B1 U}{th ns:B7}{E:Ee Prop}{kk:Sg->So->Prop}{items:B0<|Str×U}{as:B0 Pg}{acc:B0<|Nat×B9}{its:Ims}
noncomputable def top(i:Nat):Stmt:=PySem.Challenge.pw_spacewright_k02_programs_written.main.body.getD i<|.Pass ⟨0,0,0,0⟩
noncomputable def cq:B0<|Str×U:=[("number",(.kt [(.str "number")])),("name",(.kt [(.str "used")])),("fn",(.kt [(.str "names"),(.str "part")])),("call",(.kt [(.str "part"),(.str "parts")])),("let",(.kt [(.str "name"),(.str "part"),(.str "part")])),("set",(.kt [(.str "used"),(.str "part")])),("do",(.kt [(.str "part"),(.str "part")])),("if",(.kt [(.str "part"),(.str "part"),(.str "part")])),("math",(.kt [(.str "op"),(.str "part"),(.str "part")])),("make",(.kt [(.str "word"),(.str "parts")])),("match",(.kt [(.str "part"),(.str "word"),(.str "names"),(.str "part"),(.str "part")])),("raise",(.kt [(.str "word"),(.str "part")])),("try",(.kt [(.str "part"),(.str "word"),(.str "name"),(.str "part")])),("tell",(.kt [(.str "part")])),("ask",(.kt []))]
noncomputable def cY:B7:=["numbers","","Fn"]
noncomputable def dF:U:=.kd cq cY
noncomputable def eQ:B0<|Str×U:=[("fn",(.kt [(.int<|2),(.int<|3)])),("let",(.kt [(.int<|2),(.int<|4)])),("match",(.kt [(.int<|4),(.int<|5)])),("try",(.kt [(.int<|4),(.int<|5)]))]
noncomputable def dR:B7:=["number","name","call","set","do","if","math","make","raise","tell","ask"]
noncomputable def rC:U:=.kd eQ dR
noncomputable def Tl(x:Str)(i n:Nat):Str×Gd:=(x,.cl i n [])
noncomputable def Ju(x:Str)(i n:Nat)(m:B0 B6):Str×Gd:=(x,.fn i n [] m)
noncomputable def Jk(x:Str)(i n:Nat):Str×Gd:=Ju x i n []
noncomputable def Tc(x:Str)(u:U):Str×Gd:=(x,.con u)
noncomputable def gls:B0<|Str×Gd:=[(("BadText"),.xc [("place")]),(("NoName"),.xc [("place")]),Jk "is_number" 2 1,Jk "form_of" 3 1,Jk "told_anew" 4 2,Jk "is_word" 5 1,Jk "is_name" 6 1,Jk "is_place" 7 1,Jk "is_written_number" 8 1,Jk "plain" 9 1,Tl "Checker" 10 1,Jk "checked_row" 14 1,Jk "checked_names" 15 1,Jk "fits" 16 3,Jk "checked_program" 17 1,Jk "write_program" 18 1,Jk "text_of" 19 1,Jk "texts_of" 20 2,Jk "in_brackets" 21 1,Jk "read_program" 22 1,Jk "words_of" 23 1,Jk "is_number_word" 24 2,Tl "Reader" 25 2,Jk "_law_cell" 36 2,Jk "_law_heads" 37 0,Jk "_law_names" 38 2,Jk "_law_drawn" 39 3,Jk "_law_state" 40 4,Ju "_law_take" 41 2 [true,false],Ju "_law_place" 42 1 [true],Jk "_law_atom" 43 2,Jk "_law_some" 44 4,Jk "_law_unlike" 45 2,Jk "_law_loop" 46 4,Jk "_law_bind" 47 5,Jk "_law_word" 48 1,Jk "_law_plain" 49 5,Jk "_law_helper" 50 4,Jk "_law_part" 51 4,Jk "_law_sorts" 52 1,Jk "_law_text" 53 1,Jk "_law_long" 54 2,Jk "_law_moved" 55 2,Jk "_law_read" 56 1,Jk "_law_unwritten" 57 1,Jk "law" 58 1,(("SpaceError"),.xc []),(("NoPart"),.xc []),Tc "MOST_PARTS"<|.int<|300,Tc "MOST_WITHIN"<|.int<|20,Tc "MOST_IN_ROW"<|.int<|4,Tc "LAST_PLACE"<|.int<|599,Tc "LETTERS"<|.str "abcdefghijklmnopqrstuvwxyz",Tc "OPS"<|.kt [(.str "add"),(.str "sub"),(.str "mul"),(.str "less"),(.str "same")],Tc "HEADS"<|.kt [(.str "fn"),(.str "call"),(.str "let"),(.str "set"),(.str "do"),(.str "if"),(.str "add"),(.str "sub"),(.str "mul"),(.str "less"),(.str "same"),(.str "make"),(.str "match"),(.str "raise"),(.str "try"),(.str "tell"),(.str "ask")],Tc "FORMS" dF,Tc "SCOPES" rC,Tc "MOST_SIGNS"<|.int<|600,Tc "MOST_FIGURES"<|.int<|12,Tc "FIGURES"<|.str "0123456789"]
noncomputable def mss:B0<|Str×Str×Nat×Nat:=[("check_part","Checker",11,4),("check_place","Checker",12,2),("check_thing","Checker",13,5),("coming","Reader",26,1),("take","Reader",27,1),("take_bracket","Reader",28,2),("refuse_more","Reader",29,1),("read_part","Reader",30,3),("read_bracketed","Reader",31,3),("read_thing","Reader",32,4),("read_used","Reader",33,2),("read_parts","Reader",34,3),("read_names","Reader",35,1)]
noncomputable def fls:B7:=["tag","fields","place","params","body","scope","inside","part","last","height","calls","places","inputs","taken","most","log","deeds","deepest","world","jobs","pile","set_ones","words","signs","at","missing"]
noncomputable def bls:B7:=["len","isinstance","abs","int","tuple","list","dict","all","any","max","min","range","zip","reversed","set","str","bool","sorted","enumerate","repr"]
noncomputable def ups:B0<|Str×Str:=[("SpaceError","ValueError"),("BadText","SpaceError"),("NoName","SpaceError"),("NoPart","SpaceError")]
noncomputable def tb:Tb:=⟨gls,mss,fls,bls,["Function"],["Block","Function"]⟩
abbrev st0:Stmt:=zAn (top 2) 0
abbrev st1:Stmt:=zAn (top 3) 0
def J0:C5:=cV 0
def J3:C5:=cV 1
def J7:C5:=cV 2
def J6:C5:=cV 3
def Ja:C5:=cV 4
def Jf:C5:=cV 5
def Jm:C5:=cV 6
def Jp:C5:=cV 7
def Jy:C5:=cV 8
def Jz:C5:=cV 9
def Y9:C5:=cV 10
def Ya:C5:=cV 11
def Yc:C5:=cV 12
def Yb:C5:=cV 13
def Jh:C5:=cC<|.int 0
def Ji:C5:=cC<|.int 1
def Jq:C5:=cC<|.int 2
def Jx:C5:=cC<|.int 3
def Y4:C5:=cC<|.int 4
def Y3:C5:=cC<|.int 5
def Y7:C5:=cC<|.int 6
def Y8:C5:=cC<|.int 7
def Je(i:Int):C5:=cC<|.int i
def J2(x:Str):C5:=cC<|.str x
def J8(a b:C5):C5:=cP .ix<|zAz a b
def Jr(x:Str)(a:C5):C5:=cP (.fld x)<|aC a aN
def J4(p:Pm)(a:C5):C5:=cP p<|aC a aN
def J1(p:Pm)(a b:C5):C5:=cP p<|zAz a b
def Jd(a b:C5):TTx Prop:=tB<|cP .eq<|zAz a b
def Jn(i:Nat)(a:C9):C5:=cF i a []
def Jb(i:Nat)(a:C5):C5:=cF i (aC a aN) []
def Jl(i:Nat)(a b:C5):C5:=cF i (aC a<|aC b aN) []
def Jg(a:C5):C9:=(aC a aN)
def Y5(a:C5):C5:=cT<|aC a aN
def Y6(a b:C5):C9:=(aC a<|aC b aN)
def Y2(a b:C5):C5:=cT<|aC a<|aC b aN
def Y0(a b c:C5):C9:=(aC a<|aC b<|aC c aN)
def Js(a b c:C5):C5:=cT<|aC a<|aC b<|aC c aN
def Jo(a b c d:C5):C9:=(aC a<|aC b<|aC c<|aC d aN)
def Jv(a b c d:C5):C5:=cT<|aC a<|aC b<|aC c<|aC d aN
def Jt(a b c d e:C5):C9:=(aC a<|aC b<|aC c<|aC d<|aC e aN)
def Y1(a b c d e:C5):C5:=cT<|aC a<|aC b<|aC c<|aC d<|aC e aN
def J5(a:C5):C4:=sQ (sR a) sN
def Jc(a:C4):C4:=sQ a sN
def J9(t:TTx Prop)(a:C4):C4:=sI t a sN
def zJg:C4:=sQ (sE<|cBM "list" .ext (cV 2)<|aC (Jl 20 J6 Ja) aN) sN
def zJd:C4:=(Jc<|sI (Jd J7<|J2 "N") (Jc<|sE<|cBM "list" .app J3<|Jg<|J1 (.add false) (J1 (.add false) (J2 "(")<|cBM "str" .join (J2 " ")<|Jg J6)<|J2 ")")<|Jc<|sI (Jd J7<|J2 "S") (Jc<|sA 1<|J1 (.add true) J3<|cLx (J4 .seq J6) [1] true 2 []<|Jb 53 J3)<|Jc<|sI (Jd J7<|J2 "E") (Jc<|sE<|cBM "list" .app J3<|Jg<|Jb 53 J6)<|Jc<|sE<|cBM "list" .app J3<|Jg J6)
def zEk:C4:=(sQ (sE<|cBM "list" .app Jm<|Jg<|Jl 55 Jp J7)<|Jc<|sA 2<|J1 (.add false) (J1 (.add false) J7<|J4 .len<|Jb 53 Jp) Ji)
def zJc:C4:=(Jc<|sI (Jd Ja<|J2 "S") (sQ (sA 6<|cP (.lst true) aN)<|sQ (sF (J4 .seq Jf) [7] true zEk)<|Jc<|sE<|cBM "list" .app J6<|Jg<|J4 .tupOf Jm)<|sQ (sE<|cBM "list" .app J6<|Jg Jf)<|sQ (J9 (Jd Ja<|J2 "E")<|Jc<|sP .seti (Jl 55 Jf J7)<|zAz J6<|J4 .neg Ji)<|Jc<|sA 2<|J1 (.add false) (J1 (.add false) J7<|Jl 54 Ja Jf) Ji)
def bd9:C4:=sQ (sA 9<|J1 (.add false) J7<|Jl 4 Jf<|J4 .len Jf)<|Jc<|sE<|cBM "list" .app Jf<|Jg<|cM "Checker" "check_thing" 13 J0 (Jo Jp Jy Jz J6) []
def zHs:C4:=(Jc<|J9 (tNt<|tB<|Jb 57 Jp)<|J5<|cC<|.bl false)
def zFb:C4:=(sQ (sA 13<|Jv (J2 "call") (J8 Jm<|Je 9) (Js (J2 "name") (J8 Jm<|Je 10) Ja)<|Y5<|Js (J2 "number") (J8 Jm<|Je 11)<|Jl 41 J0<|Je 8)<|sQ (sA 11<|Jv (J2 "do") (Jb 42 J0) (Jv (J2 "set") (Jb 42 J0) Ja Yc) Yb)<|J5<|Y1 (J2 "let") (J8 Jm<|Je 12) Ja (Js (J2 "number") (J8 Jm<|Je 13) Jh) Ya)
def zFc:C4:=(sQ (sA 12<|Jv (J2 "fn") (J8 Jm Y7) (Y5 Jf)<|Y1 (J2 "if") (J8 Jm Y8) (Js (J2 "name") (J8 Jm<|Je 8) Jf) Ya Jz) zFb)
def rz3:C4:=(sA 11<|Jv (J2 "do") (J8 Jm Jx) Jy<|Jv (J2 "call") (J8 Jm Y4) (Js (J2 "name") (J8 Jm Y3) Ja)<|Y5 Y9)
def zFd:C4:=(sQ rz3 zFc)
def rz4:C4:=(sA 10<|Y1 (J2 "math") (J8 Jm Jh) (J2 "sub") (Js (J2 "name") (J8 Jm Ji) Jf)<|Js (J2 "number") (J8 Jm Jq) Ji)
def zJ5:C4:=(sQ rz4 zFd)
def zEb:C4:=(sQ (J9 (tAn (tB<|J1 .lt Ja<|Je 14)<|tB<|J1 .gt J6 Jx)<|J5<|Jn 50<|Jo J0 J3 J7 J6)<|J5<|Jn 49<|Jt J0 J3 J7 (J1 .sub J6 Ji)<|J1 .mod (J1 .sub Ja<|Je 10)<|Je 12)
def zIc:C4:=(sQ (J9 (tB<|J1 .lt Ja<|Je 10)<|J5<|Jn 47<|Jt J0 J3 J7 (J1 .sub J6 Ji)<|J8 (cP (.lst false)<|aC Ji<|aC Ji<|Jt Jh Ji Jq Jx Ji)<|J1 .sub Ja Jx)<|sQ (J9 (tAn (tB<|J1 .lt Ja<|Je 12)<|tAn (tB<|J1 .gt J6 Y8)<|tB<|J1 .gt (J8 J0<|J2 "parts")<|Je 20)<|J5<|Jn 46<|Jo J0 J3 J7 J6) zEb)
def zId:C4:=(sQ (sA 3<|Jl 41 J0<|Je 10)<|sQ (J9 (Jd J6<|Je 9)<|Jc<|sA 3<|J1 .sub (Jl 41 J0<|J1 .pow (Je 10)<|Je 12)<|Jl 41 J0<|J1 .pow (Je 10)<|Je 12)<|J5<|Js (J2 "number") J7 J6)
def zG5:C4:=(sQ (sA 7<|Jn 51<|Jo J0 J3 J7 J6)<|sQ (J9 (Jd Ja Jx)<|J5<|Jv (J2 "raise") Jf (Jb 48 J0) Jp)<|sQ (J9 (Jd Ja Y4)<|J5<|Jv (J2 "call") Jf Jp<|Jn 44<|Jo J0 J3 J7 J6)<|sQ (J9 (Jd Ja Y3)<|J5<|Js (J2 "tell") Jf Jp)<|sQ (sA 8<|Jn 51<|Jo J0 J3 J7 J6)<|sQ (J9 (Jd Ja Y7)<|J5<|Y1 (J2 "if") Jf Jp Jy<|Jn 51<|Jo J0 J3 J7 J6)<|sQ (J9 (tB<|J1 .lt Ja<|Je 9)<|J5<|Y1 (J2 "math") Jf (J8 (cP (.lst false)<|Jt (J2 "add") (J2 "sub") (J2 "mul") (J2 "less")<|J2 "same")<|Jl 41 J0 Y3) Jp Jy)<|J5<|Jv (J2 "do") Jf Jp Jy)
def zHu:C4:=(Jc<|sI (Jd Ja<|J2 " ") (Jc<|sA 2<|cC<|.bl false)<|Jc<|sI (tB<|J1 .inn Ja<|J2 "()") (sQ (sE<|cBM "list" .app J3<|Jg<|Y2 J6 Ja)<|Jc<|sA 2<|cC<|.bl false)<|Jc<|sI (tB<|J4 .tru J7) (sQ (sU [5,6]<|cBM "list" .pop J3 aN)<|Jc<|sE<|cBM "list" .app J3<|Jg<|Y2 Jf<|J1 (.add false) Jm Ja)<|sQ (sE<|cBM "list" .app J3<|Jg<|Y2 J6 Ja)<|Jc<|sA 2<|cC<|.bl true)
def zJe:C4:=(sQ (sU [2,3]<|cM "Reader" "take" 27 J0 aN [])<|sQ (J9 (tOr' (tNt<|tB<|Jb 6 J6)<|tOr' (tB<|J1 .inn J6 J3)<|Jd (J4 .len J3) Y4)<|Jc<|sX "BadText" ["place"]<|Jg J7)<|Jc<|sE<|cBM "list" .app J3<|Jg J6)
def zJf:C4:=(Jc<|sE<|cBM "list" .app J6<|Jg<|cM "Reader" "read_part" 30 J0 (Y6 J3 J7) [])
def zHt:C4:=sQ (sA 9<|J1 (.add false) J3<|Jl 4 Jp<|J4 .len Jp)<|Jc<|sE<|cBM "list" .app Jp<|Jg<|cM "Reader" "read_thing" 32 J0 (Y0 Jy Jz J7) []
def inb:C4:=(sQ (sA 9<|J1 (.add false) (J1 .fdiv J0<|Je 64)<|J1 .mul Jy<|J1 .fdiv J0<|Je 1664)<|sQ (J9 (Jd Jy Ja)<|Jc<|sA 9<|J1 (.add false) Jz Jm)<|Jc<|sA 7<|J1 (.add false) Jp<|J8 J7<|J1 .mod Jz<|Je 26)
def oub:C4:=(sQ (sA 7<|J2 "")<|sQ (sF (J4 .rng1 J6) [8] true inb)<|Jc<|sE<|cBM "list" .app Jf<|Jg<|J1 (.add false) Jp<|J1 .mul (J2 "z")<|J4 .int1<|cB<|tB<|J1 .inn Jp<|Jn 37 aN)
def rz1:C4:=(sQ (sA 2<|J1 .mod (J8 J0<|J2 "number") J3)<|sQ (sP .seti (J1 .fdiv (J8 J0<|J2 "number") J3)<|zAz J0<|J2 "number")<|J5 J7)
def rz2:C4:=(sQ (J9 (Jd (Jl 41 J0 Jq) Ji)<|Jc<|sA 9<|Jv (J2 "do") (Jb 42 J0) Jz<|Jn 51<|Jo J0 J3 (J1 (.add false) J7<|J4 (.lst false) Ja)<|J1 .sub J6 Jx)<|J5<|Y1 (J2 "let") Jp Ja Jm Jz)
def rz5:C4:=(sQ (J9 (Jd Ja Jh)<|J5<|Jv (J2 "fn") Jf Jm<|Jn 51<|Jo J0 J3 (J1 (.add false) J7<|J4 (.lstOf false) Jm) J6)<|sQ (J9 (Jd Ja Ji)<|sQ (sA 8<|Jn 51<|Jo J0 J3 J7 J6)<|J5<|Y1 (J2 "let") Jf Jp Jy<|Jn 51<|Jo J0 J3 (J1 (.add false) J7<|J4 (.lst false) Jp) J6)<|sQ (sA 9<|Jb 48 J0)<|sQ (sA 8<|Jn 51<|Jo J0 J3 J7 J6)<|sQ (J9 (Jd Ja Jq)<|sQ (sA 10<|Jn 51<|Jo J0 J3 (J1 (.add false) J7<|J4 (.lstOf false) Jm) J6)<|J5<|cT<|aC (J2 "match")<|aC Jf<|Jt Jy Jz Jm Y9<|Jn 51<|Jo J0 J3 J7 J6)<|J5<|cT<|aC (J2 "try")<|Jt Jf Jy Jz Jp<|Jn 51<|Jo J0 J3 (J1 (.add false) J7<|J4 (.lst false) Jp) J6)
def rz6:C4:=(sQ (J9 (tNt<|tCh .le .le Ji (J4 .len J7) J3)<|J5<|cC<|.bl false)<|sQ (J9 (tNt<|tB<|J4 .all<|cLx (J4 .seq J7) [1] true 2 []<|cB<|tB<|J1 .inn J3<|J2 "0123456789")<|J5<|cC<|.bl false)<|J5<|cB<|tOr' (Jd J0<|J2 "0")<|tB<|J1 .ne (J8 J7 Jh)<|J2 "0")
def t2:C4:=(J5<|cB<|tAn (tB<|J4 (.isT "int") J0)<|tNt<|tB<|J4 (.isT "bool") J0)
noncomputable def Jw(x q:Str)(i:Nat)(s:Stmt)(ps b a:B7)(t:C4):Fx.Row:=⟨x,q,i,s,ps,ps++b,a,t⟩
noncomputable def Jj(x:Str):Nat->Stmt->B7->B7->B7->C4->Fx.Row:=Jw x x
noncomputable def r2:Fx.Row:=Jj "is_number" 2 (top 6) ["thing"] [] [] t2
def t3:C4:=(J5<|cIf (tB<|J4 (.isT "str") J0) (J1 .get1 (cC dF) J0)<|cC .non)
noncomputable def r3:Fx.Row:=Jj "form_of" 3 (top 17) ["kind"] [] [] t3
def t4:C4:=(sQ (sU [2,3]<|cP .get2<|Y0 (cC rC) (J8 J0 Jh)<|Y2 (cC .non)<|cC .non)<|sQ (J9 (tB<|J1 .ne J3 J6)<|J5<|cT aN)<|sQ (sA 4<|J8 J0 J7)<|J5<|cIf (tB<|J4 (.isT "tuple") Ja) Ja<|Y5 Ja)
noncomputable def r4:Fx.Row:=Jj "told_anew" 4 (top 18) ["part","index"] ["names_at","scope_at","names"] [] t4
def t5:C4:=(sQ (J9 (tOr' (tNt<|tB<|J4 (.isT "str") J0)<|tNt<|tCh .le .le Ji (J4 .len J0)<|Je 8)<|J5<|cC<|.bl false)<|J5<|J4 .all<|cLx (J4 .seq J0) [1] true 2 []<|cB<|tB<|J1 .inn J3<|J2 "abcdefghijklmnopqrstuvwxyz")
noncomputable def r5:Fx.Row:=Jj "is_word" 5 (top 19) ["thing"] [] [] t5
def t6:C4:=(J5<|cB<|tAn (tB<|Jb 5 J0)<|tB<|J1 .nin J0<|cC<|.kt [(.str "fn"),(.str "call"),(.str "let"),(.str "set"),(.str "do"),(.str "if"),(.str "add"),(.str "sub"),(.str "mul"),(.str "less"),(.str "same"),(.str "make"),(.str "match"),(.str "raise"),(.str "try"),(.str "tell"),(.str "ask")])
noncomputable def r6:Fx.Row:=Jj "is_name" 6 (top 20) ["thing"] [] [] t6
def t7:C4:=(J5<|cB<|tAn (tB<|Jb 2 J0)<|tCh .le .le Jh J0<|Je 599)
noncomputable def r7:Fx.Row:=Jj "is_place" 7 (top 21) ["thing"] [] [] t7
def t8:C4:=(J5<|cB<|tAn (tB<|Jb 2 J0)<|tB<|J1 .lt (J4 .abs J0)<|J1 .pow (Je 10)<|Je 12)
noncomputable def r8:Fx.Row:=Jj "is_written_number" 8 (top 22) ["thing"] [] [] t8
def t9:C4:=(sQ (J9 (tB<|J4 (.isT "tuple") J0)<|J5<|J1 (.add false) (cT aN) J0)<|sQ (J9 (tB<|J4 (.isT "str") J0)<|J5<|cBM "str" .join (J2 "")<|Jg<|J4 (.lst false) J0)<|sQ (J9 (tB<|Jb 2 J0)<|J5<|J4 .int1 J0)<|J5 J0)
noncomputable def r9:Fx.Row:=Jj "plain" 9 (top 23) ["thing"] [] [] t9
def t10:C4:=(Jc<|sP (.setf "places") (cP (.dct []) aN)<|Jg J0)
def r10:Fx.Row:=Jw "__init__" "Checker.__init__" 10 (zAn (top 24) 0) ["self"] [] [] t10
def t11:C4:=(sQ (sA 4<|Jb 9 J3)<|sQ (J9 (tOr' (tNt<|tB<|J4 (.isT "tuple") Ja)<|tB<|J1 .lt (J4 .len Ja) Jq)<|Jc<|sX "NoPart" [] aN)<|sQ (sA 5<|J1 (.lst true) (Jb 9<|J8 Ja Jh)<|Jb 9<|J8 Ja Ji)<|sQ (sA 6<|Jb 3<|J8 Jf Jh)<|sQ (J9 (tOr' (tB<|J4 .isN Jm)<|tB<|J1 .ne (J4 .len Ja)<|J1 (.add false) Jq<|J4 .len Jm)<|Jc<|sX "NoPart" [] aN)<|sQ (sE<|cM "Checker" "check_place" 12 J0 (Jg<|J8 Jf Ji) [])<|sQ (J9 (tB<|J1 .nin (J8 Jf Jh)<|Y2 (J2 "number")<|J2 "name")<|Jc<|sA 3<|J1 (.add false) J6 Ji)<|sQ (J9 (tB<|J1 .gt J6<|Je 20)<|Jc<|sX "NoPart" [] aN)<|sQ (sF (J1 .zip Jm<|J1 (.sl false true false) Ja Jq) [7,8] false<|bd9)<|J5<|J4 .tupOf Jf)
def r11:Fx.Row:=Jw "check_part" "Checker.check_part" 11 (zAn (top 24) 1) ["self","thing","there","within"] ["part","known","form","sort","inner","scope"] ["known"] t11
def t12:C4:=(sQ (J9 (tOr' (tNt<|tB<|Jb 7 J3)<|tB<|J1 .inn J3<|Jr "places" J0)<|Jc<|sX "NoPart" [] aN)<|sQ (sP .seti (cC<|.bl true)<|zAz (Jr "places" J0) J3)<|Jc<|J9 (tB<|J1 .gt (J4 .len<|Jr "places" J0)<|Je 300)<|Jc<|sX "NoPart" [] aN)
def r12:Fx.Row:=Jw "check_place" "Checker.check_place" 12 (zAn (top 24) 2) ["self","place"] [] [] t12
def t13:C4:=(sQ (J9 (Jd J3<|J2 "part")<|J5<|cM "Checker" "check_part" 11 J0 (Y0 J7 J6 Ja) [])<|sQ (J9 (Jd J3<|J2 "parts")<|J5<|J4 .tupOf<|cLx (J4 .seq<|Jb 14 J7) [1] true 2 [4,3,0]<|cM "Checker" "check_part" 11 Ja (Y0 J3 J6 J7) [])<|sQ (J9 (Jd J3<|J2 "names")<|J5<|Jb 15 J7)<|sQ (sA 5<|Jb 9 J7)<|sQ (J9 (tNt<|tB<|Jn 16<|Y0 J3 Jf J6)<|Jc<|sX "NoPart" [] aN)<|J5 Jf)
def r13:Fx.Row:=Jw "check_thing" "Checker.check_thing" 13 (zAn (top 24) 3) ["self","sort","thing","there","within"] ["single"] [] t13
def t14:C4:=(sQ (sA 1<|Jb 9 J0)<|sQ (J9 (tOr' (tNt<|tB<|J4 (.isT "tuple") J3)<|tB<|J1 .gt (J4 .len J3) Y4)<|Jc<|sX "NoPart" [] aN)<|J5 J3)
noncomputable def r14:Fx.Row:=Jj "checked_row" 14 (top 25) ["thing"] ["row"] [] t14
def t15:C4:=(sQ (sA 1<|J4 .tupOf<|cLx (J4 .seq<|Jb 14 J0) [1] true 2 []<|Jb 9 J3)<|sQ (J9 (tOr' (tNt<|tB<|J4 .all<|cLx (J4 .seq J3) [1] true 2 []<|Jb 6 J3)<|tB<|J1 .lt (J4 .lenset J3)<|J4 .len J3)<|Jc<|sX "NoPart" [] aN)<|J5 J3)
noncomputable def r15:Fx.Row:=Jj "checked_names" 15 (top 26) ["thing"] ["names"] [] t15
def t16:C4:=(sQ (J9 (Jd J0<|J2 "number")<|J5<|Jb 8 J3)<|sQ (J9 (Jd J0<|J2 "op")<|J5<|cB<|tAn (tB<|Jb 5 J3)<|tB<|J1 .inn J3<|cC<|.kt [(.str "add"),(.str "sub"),(.str "mul"),(.str "less"),(.str "same")])<|sQ (J9 (Jd J0<|J2 "word")<|J5<|Jb 5 J3)<|sQ (J9 (Jd J0<|J2 "used")<|J5<|cB<|tAn (tB<|Jb 6 J3)<|tB<|J1 .inn J3 J7)<|J5<|Jb 6 J3)
noncomputable def r16:Fx.Row:=Jj "fits" 16 (top 27) ["sort","thing","there"] [] [] t16
def t17:C4:=(J5<|cM "Checker" "check_part" 11 (cK "Checker" 10 aN []) (Y0 J0 (cT aN) Jh) [])
noncomputable def r17:Fx.Row:=Jj "checked_program" 17 (top 28) ["thing"] [] [] t17
def t18:C4:=(J5<|Jb 19<|Jb 17 J0)
noncomputable def r18:Fx.Row:=Jj "write_program" 18 (top 33) ["thing"] [] [] t18
def t19:C4:=(sQ (sA 1<|J8 J0 Jh)<|sQ (J9 (Jd J3<|J2 "number")<|J5<|J4 .str1<|J8 J0 Jq)<|sQ (J9 (Jd J3<|J2 "name")<|J5<|J8 J0 Jq)<|sQ (sA 2<|cIf (Jd J3<|J2 "math") (cP (.lst true) aN)<|J4 (.lst true) J3)<|sQ (sF (J1 .zip (Jb 3 J3)<|J1 (.sl false true false) J0 Jq) [3,4] false<|Jc<|sE<|cBM "list" .ext J7<|Jg<|Jl 20 J6 Ja)<|J5<|Jb 21 J7)
noncomputable def r19:Fx.Row:=Jj "text_of" 19 (top 34) ["part"] ["kind","words","sort","thing"] ["words"] t19
def t20:C4:=(sQ (J9 (Jd J0<|J2 "part")<|J5<|J4 (.lst false)<|Jb 19 J3)<|sQ (J9 (Jd J0<|J2 "parts")<|J5<|cLx (J4 .seq J3) [1] true 2 []<|Jb 19 J3)<|sQ (J9 (Jd J0<|J2 "names")<|J5<|J4 (.lst false)<|Jb 21 J3)<|J5<|J4 (.lst false) J3)
noncomputable def r20:Fx.Row:=Jj "texts_of" 20 (top 35) ["sort","thing"] [] [] t20
def t21:C4:=(J5<|J1 (.add false) (J1 (.add false) (J2 "(")<|cBM "str" .join (J2 " ")<|Jg J0)<|J2 ")")
noncomputable def r21:Fx.Row:=Jj "in_brackets" 21 (top 36) ["words"] [] [] t21
def t22:C4:=(sQ (J9 (tNt<|tB<|J4 (.isT "str") J0)<|Jc<|sX "BadText" ["place"]<|Jg Jh)<|sQ (sA 1<|Jb 9 J0)<|sQ (J9 (tB<|J1 .gt (J4 .len J3)<|Je 600)<|Jc<|sX "BadText" ["place"]<|Jg<|Je 600)<|sQ (sA 2<|cK "Reader" 25 (Jg J3) [])<|sQ (sA 3<|cM "Reader" "read_part" 30 J7 (Y6 (cT aN) Jh) [])<|sQ (sE<|cM "Reader" "refuse_more" 29 J7 aN [])<|sQ (J9 (tB<|J4 .tru<|Jr "missing" J7)<|Jc<|sX "NoName" ["place"]<|Jg<|J8 (Jr "missing" J7) Jh)<|J5 J6)
noncomputable def r22:Fx.Row:=Jj "read_program" 22 (top 37) ["text"] ["signs","reader","program"] [] t22
def t23:C4:=(sQ (sA 1<|cP (.lst true) aN)<|sQ (sA 2<|cC<|.bl false)<|sQ (sF (J4 .enm J0) [3,4] false zHu)<|J5 J3)
noncomputable def r23:Fx.Row:=Jj "words_of" 23 (top 38) ["text"] ["words","goes_on","place","sign","begun","word"] ["words"] t23
def t24:C4:=(sQ (sA 2<|cIf (tB<|cBM "str" .starts J0<|Jg<|J2 "-") (J1 (.sl false true false) J0 Ji) J0) rz6)
noncomputable def r24:Fx.Row:=Jj "is_number_word" 24 (top 39) ["word","most"] ["figures"] [] t24
def t25:C4:=(sQ (sP (.setf "words") (Jb 23 J3)<|Jg J0)<|sQ (sP (.setf "signs") (J4 .len J3)<|Jg J0)<|sQ (sP (.setf "at") Jh<|Jg J0)<|Jc<|sP (.setf "missing") (cP (.lst true) aN)<|Jg J0)
def r25:Fx.Row:=Jw "__init__" "Reader.__init__" 25 (zAn (top 40) 0) ["self","text"] [] [] t25
def t26:C4:=(sQ (J9 (Jd (Jr "at" J0)<|J4 .len<|Jr "words" J0)<|Jc<|sX "BadText" ["place"]<|Jg<|Jr "signs" J0)<|J5<|J8 (Jr "words" J0)<|Jr "at" J0)
def r26:Fx.Row:=Jw "coming" "Reader.coming" 26 (zAn (top 40) 1) ["self"] [] [] t26
def t27:C4:=(sQ (sA 1<|cM "Reader" "coming" 26 J0 aN [])<|sQ (sP (.setf "at") (J1 (.add true) (Jr "at" J0) Ji)<|Jg J0)<|J5 J3)
def r27:Fx.Row:=Jw "take" "Reader.take" 27 (zAn (top 40) 2) ["self"] ["word"] [] t27
def t28:C4:=(sQ (sU [2,3]<|cM "Reader" "take" 27 J0 aN [])<|Jc<|J9 (tB<|J1 .ne J6 J3)<|Jc<|sX "BadText" ["place"]<|Jg J7)
def r28:Fx.Row:=Jw "take_bracket" "Reader.take_bracket" 28 (zAn (top 40) 3) ["self","bracket"] ["place","word"] [] t28
def t29:C4:=(Jc<|J9 (tB<|J1 .lt (Jr "at" J0)<|J4 .len<|Jr "words" J0)<|Jc<|sX "BadText" ["place"]<|Jg<|J8 (J8 (Jr "words" J0)<|Jr "at" J0) Jh)
def r29:Fx.Row:=Jw "refuse_more" "Reader.refuse_more" 29 (zAn (top 40) 4) ["self"] [] [] t29
def t30:C4:=(sQ (sU [3,4]<|cM "Reader" "coming" 26 J0 aN [])<|sQ (J9 (tAn (Jd Ja<|J2 "(")<|tB<|J1 .lt J7<|Je 20)<|J5<|cM "Reader" "read_bracketed" 31 J0 (Y6 J3<|J1 (.add false) J7 Ji) [])<|sQ (J9 (tB<|Jl 24 Ja<|Je 12)<|sQ (sE<|cM "Reader" "take" 27 J0 aN [])<|J5<|Js (J2 "number") J6<|J4 .int1 Ja)<|J5<|Js (J2 "name") J6<|cM "Reader" "read_used" 33 J0 (Jg J3) [])
def r30:Fx.Row:=Jw "read_part" "Reader.read_part" 30 (zAn (top 40) 5) ["self","there","within"] ["place","word"] [] t30
def t31:C4:=(sQ (sA 3<|J8 (cM "Reader" "take" 27 J0 aN []) Jh)<|sQ (sU [4,5]<|cM "Reader" "coming" 26 J0 aN [])<|sQ (J9 (tB<|J1 .nin Jf<|cC<|.kt [(.str "fn"),(.str "call"),(.str "let"),(.str "set"),(.str "do"),(.str "if"),(.str "add"),(.str "sub"),(.str "mul"),(.str "less"),(.str "same"),(.str "make"),(.str "match"),(.str "raise"),(.str "try"),(.str "tell"),(.str "ask")])<|Jc<|sX "BadText" ["place"]<|Jg Ja)<|sQ (sA 6<|cIf (tB<|J1 .inn Jf<|cC<|.kt [(.str "add"),(.str "sub"),(.str "mul"),(.str "less"),(.str "same")]) (J2 "math") Jf)<|sQ (J9 (tB<|J1 .ne Jm<|J2 "math")<|Jc<|sE<|cM "Reader" "take" 27 J0 aN [])<|sQ (sA 7<|J1 (.lst true) Jm J6)<|sQ (sF (J4 .seq<|Jb 3 Jm) [8] true<|zHt)<|sQ (sE<|cM "Reader" "take_bracket" 28 J0 (Jg<|J2 ")") [])<|J5<|J4 .tupOf Jp)
def r31:Fx.Row:=Jw "read_bracketed" "Reader.read_bracketed" 31 (zAn (top 40) 6) ["self","there","within"] ["place","head_place","head","kind","known","sort","scope"] ["known"] t31
def t32:C4:=(sQ (J9 (Jd J3<|J2 "part")<|J5<|cM "Reader" "read_part" 30 J0 (Y6 J7 J6) [])<|sQ (J9 (Jd J3<|J2 "parts")<|J5<|cM "Reader" "read_parts" 34 J0 (Y6 J7 J6) [])<|sQ (J9 (Jd J3<|J2 "names")<|J5<|cM "Reader" "read_names" 35 J0 aN [])<|sQ (J9 (Jd J3<|J2 "used")<|J5<|cM "Reader" "read_used" 33 J0 (Jg J7) [])<|sQ (sU [4,5]<|cM "Reader" "take" 27 J0 aN [])<|sQ (J9 (tNt<|tIi (Jd J3<|J2 "name") (tB<|Jb 6 Jf)<|tB<|Jb 5 Jf)<|Jc<|sX "BadText" ["place"]<|Jg Ja)<|J5 Jf)
def r32:Fx.Row:=Jw "read_thing" "Reader.read_thing" 32 (zAn (top 40) 7) ["self","sort","there","within"] ["place","word"] [] t32
def t33:C4:=(sQ (sU [2,3]<|cM "Reader" "take" 27 J0 aN [])<|sQ (J9 (tNt<|tB<|Jb 6 J6)<|Jc<|sX "BadText" ["place"]<|Jg J7)<|sQ (J9 (tB<|J1 .nin J6 J3)<|Jc<|sE<|cBM "list" .app (Jr "missing" J0)<|Jg J7)<|J5 J6)
def r33:Fx.Row:=Jw "read_used" "Reader.read_used" 33 (zAn (top 40) 8) ["self","there"] ["place","word"] [] t33
def t34:C4:=(sQ (sA 3<|cP (.lst true) aN)<|sQ (sW (tAn (tB<|J1 .lt (J4 .len J6) Y4)<|tB<|J1 .ne (J8 (cM "Reader" "coming" 26 J0 aN []) Ji)<|J2 ")") zJf)<|J5<|J4 .tupOf J6)
def r34:Fx.Row:=Jw "read_parts" "Reader.read_parts" 34 (zAn (top 40) 9) ["self","there","within"] ["parts"] ["parts"] t34
def t35:C4:=(sQ (sE<|cM "Reader" "take_bracket" 28 J0 (Jg<|J2 "(") [])<|sQ (sA 1<|cP (.lst true) aN)<|sQ (sW (tB<|J1 .ne (J8 (cM "Reader" "coming" 26 J0 aN []) Ji)<|J2 ")") zJe)<|sQ (sE<|cM "Reader" "take" 27 J0 aN [])<|J5<|J4 .tupOf J3)
def r35:Fx.Row:=Jw "read_names" "Reader.read_names" 35 (zAn (top 40) 10) ["self"] ["names","place","word"] ["names"] t35
def t36:C4:=(sQ (J9 (tB<|J1 .lt J3<|J4 .len J0)<|J5<|J8 J0 J3)<|sQ (J9 (Jd J0<|cP (.lst false) aN)<|J5<|J1 .mod (J1 .mul J3<|Je 48271)<|Je 65537)<|J5<|J1 (.add false) (J1 .mod (J1 .mul (J8 J0<|J1 .mod J3<|J4 .len J0)<|Je 48271)<|Je 2147483647)<|J1 .mul (Je 7919) J3)
noncomputable def r36:Fx.Row:=Jj "_law_cell" 36 (top 42) ["_law_script","_law_k"] [] [] t36
def t37:C4:=(sQ (sA 0<|cP (.lst false)<|aC (J2 "fn")<|aC (J2 "call")<|aC (J2 "let")<|aC (J2 "set")<|Jt (J2 "do") (J2 "if") (J2 "add") (J2 "sub")<|J2 "mul")<|J5<|J1 (.add false) J0<|cP (.lst false)<|aC (J2 "less")<|aC (J2 "same")<|aC (J2 "make")<|Jt (J2 "match") (J2 "raise") (J2 "try") (J2 "tell")<|J2 "ask")
noncomputable def r37:Fx.Row:=Jj "_law_heads" 37 (top 43) [] ["_law_some_here"] [] t37
def t38:C4:=(sQ (sA 2<|J2 "abcdefghijklmnopqrstuvwxyz")<|sQ (sA 3<|J1 (.add false) Ji<|J1 .mod J0<|Je 8)<|sQ (sA 4<|J1 .mod (J1 .fdiv J0<|Je 8) J6)<|sQ (sA 5<|cP (.lst true) aN)<|sQ (sF (J4 .rng1 J3) [6] true oub)<|J5<|J4 .frz Jf)
noncomputable def r38:Fx.Row:=Jj "_law_names" 38 (top 44) ["_law_cell_here","_law_many"] ["_law_letters","_law_size","_law_at","_law_found","_law_k","_law_word_here","_law_j","_law_step"] ["_law_found","!_law_found"] t38
def t39:C4:=(sQ (sA 3<|J1 .mul (Jl 36 J0 Jq)<|J4 .int1<|cB<|Jd (J1 .mod (Jl 36 J0 Ji) Jq) Jh)<|sQ (sA 4<|J1 (.add false) Ji<|J1 .mod (J1 .fdiv (Jl 36 J0 Ji) Jq)<|Je 60)<|sQ (sA 5<|Jn 40<|Jo (Jl 36 J0 Jx) J6 Ja<|J1 .fdiv (Jl 36 J0 Ji)<|Je 120)<|J5<|Jn 51<|Jo Jf J3 J7<|J1 (.add false) Ji<|J1 .mod (J1 .fdiv (Jl 36 J0 Jh) Y8)<|Je 14)
noncomputable def r39:Fx.Row:=Jj "_law_drawn" 39 (top 45) ["_law_script","_law_names_here","_law_scope"] ["_law_seed","_law_parts","_law_state_here"] [] t39
def t40:C4:=(sQ (sA 4<|J1 .max J0<|J1 .sub (J4 .neg Ji) J0)<|J5<|cP (.dct ["number","seed","parts","places","shift"])<|Jt Ja (J1 .mod J3<|Je 2147483646) J7 Jh<|J1 .mod J6<|Je 600)
noncomputable def r40:Fx.Row:=Jj "_law_state" 40 (top 46) ["_law_cell_here","_law_seed","_law_parts","_law_shift"] ["_law_number"] [] t40
def t41:C4:=(sQ (J9 (tAn (Jd (J8 J0<|J2 "number") Jh)<|tB<|J1 .gt (J8 J0<|J2 "seed") Jh)<|sQ (sP .seti (J1 .mod (J1 .mul (J8 J0<|J2 "seed")<|Je 48271)<|Je 2147483647)<|zAz J0<|J2 "seed")<|Jc<|sP .seti (J1 .mod (J1 .mul (J8 J0<|J2 "seed")<|J8 J0<|J2 "seed")<|Je 2147483629)<|zAz J0<|J2 "number") rz1)
noncomputable def r41:Fx.Row:=Jj "_law_take" 41 (top 47) ["_law_state_here","_law_many"] ["_law_digit"] ["_law_state_here"] t41
def t42:C4:=(sQ (sP .seti (J1 (.add true) (J8 J0<|J2 "places") Ji)<|zAz J0<|J2 "places")<|sQ (sP .seti (J1 .sub (J8 J0<|J2 "parts") Ji)<|zAz J0<|J2 "parts")<|J5<|J1 .mod (J1 (.add false) (J1 .mul Y8<|J8 J0<|J2 "places")<|J8 J0<|J2 "shift")<|Je 600)
noncomputable def r42:Fx.Row:=Jj "_law_place" 42 (top 48) ["_law_state_here"] [] ["_law_state_here"] t42
def t43:C4:=(sQ (sA 2<|Jb 42 J0)<|sQ (J9 (tAn (tB<|J1 .ne J3<|cP (.lst false) aN)<|tB<|J1 .gt (Jl 41 J0 Jx) Jh)<|J5<|Js (J2 "name") J7<|J8 J3<|Jl 41 J0<|J4 .len J3) zId)
noncomputable def r43:Fx.Row:=Jj "_law_atom" 43 (top 49) ["_law_state_here","_law_scope"] ["_law_place_here","_law_number"] [] t43
def t44:C4:=(J5<|J4 .tupOf<|cLx (J4 .rng1<|Jl 41 J0 Y3) [1] true 2 [0,2,1,3]<|Jn 51<|Jo J7 Ja J6 Jf)
noncomputable def r44:Fx.Row:=Jj "_law_some" 44 (top 50) ["_law_state_here","_law_names_here","_law_scope","_law_deep"] [] [] t44
def t45:C4:=(sQ (sA 2<|Jl 41 J0<|J4 .len J3)<|sQ (sA 3<|J1 .min (Jl 41 J0 Y3)<|J4 .len J3)<|J5<|J4 .tupOf<|cLx (J4 .rng1 J6) [1] true 2 [1,2]<|J8 J7<|J1 .mod (J1 (.add false) J6 J3)<|J4 .len J7)
noncomputable def r45:Fx.Row:=Jj "_law_unlike" 45 (top 51) ["_law_state_here","_law_names_here"] ["_law_first","_law_many"] [] t45
def t46:C4:=(sQ (sPr 4 5 (J8 J3<|Jl 41 J0<|J4 .len J3)<|J2 "n")<|sQ (sA 6<|cLx (J4 .rng1<|Je 14) [1] true 2 [0]<|Jb 42 J7)<|sQ (sA 7<|J1 (.add false) J7<|J1 (.lst false) Ja Jf)<|sQ (sA 8<|Jn 51<|Jo J0 J3 Jp<|J1 .sub J6 Y7)<|sQ (sA 9<|Jn 51<|Jo J0 J3 Jp<|J1 .sub J6 Y7)<|sQ rz4 zFd)
noncomputable def r46:Fx.Row:=Jj "_law_loop" 46 (top 52) ["_law_state_here","_law_names_here","_law_scope","_law_deep"] ["_law_f","_law_n","_law_p","_law_wide","_law_body","_law_end","_law_less","_law_again","_law_step","_law_start"] [] t46
def t47:C4:=(sQ (sA 5<|Jb 42 J0)<|sQ (sA 6<|Jl 45 J0 J3)<|sQ (sA 7<|J8 J3<|Jl 41 J0<|J4 .len J3) rz5)
noncomputable def r47:Fx.Row:=Jj "_law_bind" 47 (top 53) ["_law_state_here","_law_names_here","_law_scope","_law_deep","_law_way"] ["_law_place_here","_law_some_here","_law_one","_law_begin","_law_tag","_law_yes"] [] t47
def t48:C4:=(J5<|J8 (cP (.lst false)<|aC (J2 "kind")<|Jt (J2 "odd") (J2 "big") (J2 "a") (J2 "b")<|J2 "ab")<|Jl 41 J0 Y7)
noncomputable def r48:Fx.Row:=Jj "_law_word" 48 (top 54) ["_law_state_here"] [] [] t48
def t49:C4:=(sQ (sA 5<|Jb 42 J0)<|sQ (J9 (tAn (Jd Ja Jh)<|tB<|J1 .ne J7<|cP (.lst false) aN)<|sQ (sA 6<|J8 J7<|Jl 41 J0<|J4 .len J7)<|J5<|Jv (J2 "set") Jf Jm<|Jn 51<|Jo J0 J3 J7 J6)<|sQ (J9 (Jd Ja Ji)<|J5<|Jv (J2 "make") Jf (Jb 48 J0)<|Jn 44<|Jo J0 J3 J7 J6)<|sQ (J9 (Jd Ja Jq)<|J5<|Y2 (J2 "ask") Jf) zG5)
noncomputable def r49:Fx.Row:=Jj "_law_plain" 49 (top 55) ["_law_state_here","_law_names_here","_law_scope","_law_deep","_law_way"] ["_law_place_here","_law_one","_law_first","_law_other"] [] t49
def t50:C4:=(sQ (sA 4<|J8 J3<|Jl 41 J0<|J4 .len J3)<|sQ (sA 5<|Jl 45 J0 J3)<|sQ (sA 6<|Jv (J2 "fn") (Jb 42 J0) Jf<|Jn 51<|Jo J0 J3 (J1 (.add false) J7<|J4 (.lstOf false) Jf)<|J1 .sub J6 Jx)<|sQ (sA 7<|Jb 42 J0)<|sQ (sA 8<|J4 .tupOf<|cLx (J4 .seq Jf) [1] true 2 [0,2,1,4,3]<|Jn 51<|Jo J7 Ja (J1 (.add false) J6<|J4 (.lst false) Jf)<|J1 .sub Jm Jx)<|sQ (sA 9<|Jv (J2 "call") (Jb 42 J0) (Js (J2 "name") (Jb 42 J0) Ja) Jy) rz2)
noncomputable def r50:Fx.Row:=Jj "_law_helper" 50 (top 56) ["_law_state_here","_law_names_here","_law_scope","_law_deep"] ["_law_f","_law_some_here","_law_wide","_law_place_here","_law_args","_law_call"] [] t50
def t51:C4:=(sQ (sA 4<|Jl 41 J0<|Je 26)<|sQ (J9 (tOr' (tB<|J1 .lt Ja Jx)<|tOr' (tB<|J1 .le J6 Jh)<|tB<|J1 .le (J8 J0<|J2 "parts") Jh)<|J5<|Jl 43 J0 J7) zIc)
noncomputable def r51:Fx.Row:=Jj "_law_part" 51 (top 57) ["_law_state_here","_law_names_here","_law_scope","_law_deep"] ["_law_way"] [] t51
def t52:C4:=(sQ (J9 (tB<|J1 .inn J0<|cT<|aC (J2 "number")<|aC (J2 "name")<|aC (J2 "ask")<|Jt (J2 "tell") (J2 "do") (J2 "if") (J2 "fn")<|J2 "call")<|sQ (sA 1<|cP (.dct ["number","name","ask","tell","do","if"])<|aC (J2 "n")<|Jt (J2 "u") (J2 "") (J2 "E") (J2 "EE")<|J2 "EEE")<|J5<|cBM "dict" .dget J3<|zAz J0<|J8 (J1 (.lst false) (J2 "NE")<|J2 "ES")<|J4 .int1<|cB<|Jd J0<|J2 "call")<|sQ (sA 2<|cP (.dct ["let","set","math","make","match","raise","try"])<|aC (J2 "xEE")<|aC (J2 "uE")<|Jt (J2 "oEE") (J2 "wS") (J2 "EwNEE") (J2 "wE")<|J2 "EwxE")<|J5<|J8 J7 J0)
noncomputable def r52:Fx.Row:=Jj "_law_sorts" 52 (top 58) ["_law_kind"] ["_law_plain_here","_law_found"] [] t52
def t53:C4:=(sQ (J9 (tOr' (Jd (J8 J0 Jh)<|J2 "number")<|Jd (J8 J0 Jh)<|J2 "name")<|J5<|J4 .str1<|J8 J0 Jq)<|sQ (sA 1<|J1 .mulT (J4 (.lst false)<|J8 J0 Jh)<|J4 .int1<|cB<|tB<|J1 .ne (J8 J0 Jh)<|J2 "math")<|sQ (sF (J1 .zip (Jb 52<|J8 J0 Jh)<|J1 (.sl false true false) J0 Jq) [2,3] false zJd)<|J5<|J1 (.add false) (J1 (.add false) (J2 "(")<|cBM "str" .join (J2 " ")<|Jg J3)<|J2 ")")
noncomputable def r53:Fx.Row:=Jj "_law_text" 53 (top 59) ["_law_part_here"] ["_law_words","_law_sort","_law_field"] ["_law_words"] t53
def t54:C4:=(sQ (J9 (Jd J0<|J2 "N")<|J5<|J4 .len<|J1 (.add false) (J1 (.add false) (J2 "(")<|cBM "str" .join (J2 " ")<|Jg J3)<|J2 ")")<|sQ (J9 (Jd J0<|J2 "E")<|J5<|J4 .len<|Jb 53 J3)<|J5<|J4 .len J3)
noncomputable def r54:Fx.Row:=Jj "_law_long" 54 (top 60) ["_law_sort","_law_field"] [] [] t54
def t55:C4:=(sQ (J9 (tOr' (Jd (J8 J0 Jh)<|J2 "number")<|Jd (J8 J0 Jh)<|J2 "name")<|J5<|Js (J8 J0 Jh) J3<|J8 J0 Jq)<|sQ (sA 2<|J1 (.add false) (J1 (.add false) J3 Jq)<|J4 .len<|J8 J0 Jh)<|sQ (J9 (Jd (J8 J0 Jh)<|J2 "math")<|Jc<|sA 2<|J1 (.add false) J3 Ji)<|sQ (sA 3<|cP (.lst true) aN)<|sQ (sF (J1 .zip (Jb 52<|J8 J0 Jh)<|J1 (.sl false true false) J0 Jq) [4,5] false<|Jc<|sI (Jd Ja<|J2 "S") (sQ (sA 6<|cP (.lst true) aN)<|sQ (sF (J4 .seq Jf) [7] true zEk)<|Jc<|sE<|cBM "list" .app J6<|Jg<|J4 .tupOf Jm)<|sQ (sE<|cBM "list" .app J6<|Jg Jf)<|sQ (J9 (Jd Ja<|J2 "E")<|Jc<|sP .seti (Jl 55 Jf J7)<|zAz J6<|J4 .neg Ji)<|Jc<|sA 2<|J1 (.add false) (J1 (.add false) J7<|Jl 54 Ja Jf) Ji)<|J5<|J4 .tupOf<|J1 (.add false) (J1 (.lst false) (J8 J0 Jh) J3) J6)
noncomputable def r55:Fx.Row:=Jj "_law_moved" 55 (top 61) ["_law_part_here","_law_at"] ["_law_here","_law_fields","_law_sort","_law_field","_law_some_here","_law_one"] ["_law_some_here","_law_fields"] t55
def t56:C4:=(sQ (sA 1<|cC .non)<|sQ (sT "BadText" 2 1 "place"<|Jc<|sA 1<|Jb 22 J0)<|J5 J3)
noncomputable def r56:Fx.Row:=Jj "_law_read" 56 (top 62) ["_law_text_here"] ["_law_told","e"] [] t56
def t57:C4:=(sQ (sA 1<|cC<|.bl false)<|sQ (sTa "NoPart" 1 (.bl true)<|Jc<|sE<|Jb 18 J0)<|J5 J3)
noncomputable def r57:Fx.Row:=Jj "_law_unwritten" 57 (top 63) ["_law_thing"] ["_law_told"] [] t57
def t58:C4:=(sQ (sA 1<|Jl 36 J0 Jh)<|sQ (sA 2<|Jl 38 (J1 .fdiv J3<|Je 100)<|J1 (.add false) Jx<|J1 .mod J3 Y4)<|sQ (sA 3<|Jn 39<|Y0 J0 J7<|cP (.lst false) aN)<|sQ (sA 4<|Jb 53 J6)<|sQ (sA 5<|Jb 18 J6)<|sQ (J9 (tOr' (tNt<|tB<|J4 (.isT "str") Jf)<|tB<|J1 .ne Jf Ja)<|J5<|cC<|.bl false)<|sQ (sA 6<|Je 600)<|sQ (J9 (tB<|J1 .le (J4 .len Ja)<|Je 600)<|Jc<|sA 6<|Jl 55 J6 Jh)<|sQ (J9 (tB<|J1 .ne (J4 .repr<|Jb 56 Ja)<|J4 .repr Jm)<|J5<|cC<|.bl false)<|sQ (sF (J4 .seq<|cP (.lst false)<|aC (Js (J2 "name") (J8 J6 Ji)<|J8 J7 Jh)<|aC (J1 (.add false) J6<|Y5<|J8 J6 Ji)<|Jt (J4 (.lstOf false) J6) Ja (cC .non) Y3<|cT aN) [7] true zHs)<|J5<|cB<|Jd (Jb 18 J6) Ja)
noncomputable def r58:Fx.Row:=Jj "law" 58 (top 64) ["_law_script"] ["_law_cell_here","_law_names_here","_law_program","_law_text_here","_law_found","_law_due","_law_thing"] [] t58
def rows:B0 Fx.Row:=[r2,r3,r4,r5,r6,r7,r8,r9,r10,r11,r12,r13,r14,r15,r16,r17,r18,r19,r20,r21,r22,r23,r24,r25,r26,r27,r28,r29,r30,r31,r32,r33,r34,r35,r36,r37,r38,r39,r40,r41,r42,r43,r44,r45,r46,r47,r48,r49,r50,r51,r52,r53,r54,r55,r56,r57,r58]
def tab:Nat->B1 De:=zFe rows
def zG6:∀r∈rows,zEv tb tab r:=by
 repeat' first|exact alln|refine allc (zJ6 (by kernel_rfl) (by kernel_rfl)<|by kernel_rfl) ?_
def zKe{J:Type}{l:B0 J}(h:l.length=0):l=[]:=List.eq_nil_of_length_eq_zero h
def bd0{r:Fx.Row}(d:r.ps.length=0)(h:∀(kV a pm:B2)(g:B1 B5)(b ct :B2),bindArgs (PySem.W.fnOf r.x r.qual (zAq r.st) (zAh r.st) (zAd r.st) .none kV a pm g b ct) ⟨[],[]⟩=pure (r.ps.zip []):=by intros;rfl):BdC r:=λ_ _ _ _ _ _ us hl=>by
 obtain rfl:=zKe<|hl.trans d;exact h ..
def bd1{r:Fx.Row}(g:r.ps.length=1)(h:∀(kV a pm:B2)(i:B1 B5)(b ct d:B2),bindArgs (PySem.W.fnOf r.x r.qual (zAq r.st) (zAh r.st) (zAd r.st) .none kV a pm i b ct) ⟨[d],[]⟩=pure (r.ps.zip [d]):=by intros;rfl):BdC r:=λ_ _ _ _ _ _ us hl=>by
 let⟨_,rfl⟩:=zI1<|hl.trans g;exact h ..
def bd2{r:Fx.Row}(i:r.ps.length=2)(h:∀(kV a pm:B2)(k:B1 B5)(b ct g d:B2),bindArgs (PySem.W.fnOf r.x r.qual (zAq r.st) (zAh r.st) (zAd r.st) .none kV a pm k b ct) ⟨[g,d],[]⟩=pure (r.ps.zip [g,d]):=by intros;rfl):BdC r:=λ_ _ _ _ _ _ us hl=>by
 let⟨_,_,rfl⟩:=zGm<|hl.trans i;exact h ..
def bd3{r:Fx.Row}(k:r.ps.length=3)(h:∀(kV a pm:B2)(n:B1 B5)(b ct i g d:B2),bindArgs (PySem.W.fnOf r.x r.qual (zAq r.st) (zAh r.st) (zAd r.st) .none kV a pm n b ct) ⟨[i,g,d],[]⟩=pure (r.ps.zip [i,g,d]):=by intros;rfl):BdC r:=λ_ _ _ _ _ _ us hl=>by
 let⟨_,_,_,rfl⟩:=zI0<|hl.trans k;exact h ..
def bd4{r:Fx.Row}(n:r.ps.length=4)(h:∀(kV a pm:B2)(o:B1 B5)(b ct k i g d:B2),bindArgs (PySem.W.fnOf r.x r.qual (zAq r.st) (zAh r.st) (zAd r.st) .none kV a pm o b ct) ⟨[k,i,g,d],[]⟩=pure (r.ps.zip [k,i,g,d]):=by intros;rfl):BdC r:=λ_ _ _ _ _ _ us hl=>by
 let⟨_,_,_,_,rfl⟩:=zIz<|hl.trans n;exact h ..
def bd5{r:Fx.Row}(o:r.ps.length=5)(h:∀(kV a pm:B2)(p:B1 B5)(b ct n k i g d:B2),bindArgs (PySem.W.fnOf r.x r.qual (zAq r.st) (zAh r.st) (zAd r.st) .none kV a pm p b ct) ⟨[n,k,i,g,d],[]⟩=pure (r.ps.zip [n,k,i,g,d]):=by intros;rfl):BdC r:=λ_ _ _ _ _ _ us hl=>by
 let⟨_,_,_,_,_,rfl⟩:=zKd<|hl.trans o;exact h ..
section
variable{K:xFr}{f C:B5}{oc kV dc pm cd ct mc:B2}{od an:B1 B5}{sl:Array<|B1 B2}{nm q:Str}{st:Stmt}
def csr(p:PySem.W.nsIn K mainGlobals nm=some (some<|.ref C))(o:PySem.W.plainGet K C Str.empty=true)(n:PySem.W.hasDictIn K C=true)(k:PySem.W.plainOver K C=true)(i:PySem.W.findIn K (.ref C) "__setattr__"=some (some<|.builtin "object.__setattr__"))(g:PySem.W.makesIn K C=true)(d:PySem.W.keepIn K (.ref C)=true)(b:PySem.W.findIn K (.ref C) "__class__"=some (some<|.builtin "object.__class__"))(a:PySem.W.mroIn K C (.type "object")=some true):CsR K C nm:=⟨p,⟨o,n,k,i⟩,g,d,b,a⟩
def TxA(K:xFr)(t:B5)(xs:B0 V):Prop:=∀H,SqT K H t xs
def tup_is{t:B5}{d:B1 B5}{its:Array B2}{n:Nat}{sl:Array<|B1 B2}{xs:B0 V}(h:K.lookup t=some ⟨.type "tuple",d,.seq its n,sl⟩)(b:its.size<=1000)(a:zAi xs its.toList):TxA K t xs:=λH=>.inr ⟨_,its,n,h,rfl,rfl,zFs (),a⟩
def ktS{l:B7}(h:TxA K C<|l.map V.str)(W:Wd):Rv (mkB K mg cls kds) W (.kt<|l.map U.str)<|.ref C:=ye (B:=mkB K mg cls kds) h W
def ktI{l:B'}(h:TxA K C<|l.map V.int)(W:Wd):Rv (mkB K mg cls kds) W (.kt<|l.map U.int)<|.ref C:=yf (B:=mkB K mg cls kds) h W
def XdR(K:xFr)(C:B5)(q:Str)(st:Stmt):Prop:=∃(f:B5) (a:FuncData),PySem.W.findIn K (.ref C) "__init__"=some (some<|.ref f)/\PySem.W.isFn K (.ref f)=true/\Fun K "__init__" q st f a
def xdr(i:PySem.W.findIn K (.ref C) "__init__"=some (some<|.ref f))(a:PySem.W.isFn K (.ref f)=true)(g:K.lookup f=some ⟨oc,od,.func<|PySem.W.fnOf "__init__" q (zAq st) (zAh st) (zAd st) .none kV dc pm an cd ct,sl⟩)(d:PySem.W.codeIn K cd q=true)(b:PySem.W.keepIn K (.ref f)=true):XdR K C q st:=⟨f,_,i,a,lK g d b⟩
end
noncomputable def cl8(cChecker cReader:B5):B0<|Str×B5:=[("Checker",cChecker),("Reader",cReader)]
def mr{r:Fx.Row}(i:Nat)(h:rows[i]?=some r):r∈rows:=xAc h
def all_mk{l:PySem.W.OpenLaw}{w:World}{K:xFr}{h:Heap}{fa aC g I C R P cC a1 b aY ad ab aW aT aU aX aZ aV aa aO aM aN aP aR k aK aS aQ aL:B5}{d:Nat}(X:K.In h)(G:h.Ns mainGlobals mg)(hfa:mg "law"=some (.ref fa)){aw:Tok}{ak:Tok}{ah:Tok}{av:Tok}{bo:Tok}{ax:Array DictEntry}{cE:Nat}{al:Array DictEntry}{br:Nat}{au:Tok}{af:Tok}{bR:Tok}(o:CsR K aC "Checker")(ay:zDl K aC fls=true)(n:CsR K g "Reader")(bp:zDl K g fls=true)(cA:zCy K "int" (cl8 aC g)=true)(b1:zCy K "bool" (cl8 aC g)=true)(cB:zCy K "str" (cl8 aC g)=true)(bO:zCy K "tuple" (cl8 aC g)=true)(cG:mgB K bls=true)(hn_:W.specialIn K (.builtin "object.__class__") "__get__"=some (some<|.builtin "getset_descriptor.__get__"))(ht_:W.takesIn K (.builtin "object.__class__")=some true)(d2:DnR K r2)(d3:DnR K r3)(d4:DnR K r4)(d5:DnR K r5)(d6:DnR K r6)(d7:DnR K r7)(d8:DnR K r8)(d9:DnR K r9)(d10:MdR K aC r10)(d11:MdR K aC r11)(d12:MdR K aC r12)(d13:MdR K aC r13)(d14:DnR K r14)(d15:DnR K r15)(d16:DnR K r16)(d17:DnR K r17)(d18:DnR K r18)(d19:DnR K r19)(d20:DnR K r20)(d21:DnR K r21)(d22:DnR K r22)(d23:DnR K r23)(d24:DnR K r24)(d25:MdR K g r25)(d26:MdR K g r26)(d27:MdR K g r27)(d28:MdR K g r28)(d29:MdR K g r29)(d30:MdR K g r30)(d31:MdR K g r31)(d32:MdR K g r32)(d33:MdR K g r33)(d34:MdR K g r34)(d35:MdR K g r35)(d36:DnR K r36)(d37:DnR K r37)(d38:DnR K r38)(d39:DnR K r39)(d40:DnR K r40)(d41:DnR K r41)(d42:DnR K r42)(d43:DnR K r43)(d44:DnR K r44)(d45:DnR K r45)(d46:DnR K r46)(d47:DnR K r47)(d48:DnR K r48)(d49:DnR K r49)(d50:DnR K r50)(d51:DnR K r51)(d52:DnR K r52)(d53:DnR K r53)(d54:DnR K r54)(d55:DnR K r55)(d56:DnR K r56)(d57:DnR K r57)(M:DnR K r58)(a3:W.nsIn K mainGlobals "BadText"=some (some<|.ref I))(a2:XC K I)(az:W.findIn K (.ref I) "place"=some none)(bC:W.mroIn K I (.ref I)=some true)(bF:XdR K I "BadText.__init__" st0)(bZ:W.nsIn K mainGlobals "NoName"=some (some<|.ref C))(bU:XC K C)(bG:W.findIn K (.ref C) "place"=some none)(bd:W.mroIn K C (.ref C)=some true)(bM:XdR K C "NoName.__init__" st1)(aj:W.nsIn K mainGlobals "SpaceError"=some (some<|.ref R))(ao:W.excIn K R bmV "ValueError.__new__"=true)(ar:zCd K R=true)(aq:W.keepIn K (.ref R)=true)(be:W.nsIn K mainGlobals "NoPart"=some (some<|.ref P))(bi:W.excIn K P bmV "ValueError.__new__"=true)(bJ:zCd K P=true)(bI:W.keepIn K (.ref P)=true)(am:W.nsIn K mainGlobals "MOST_PARTS"=some (some<|.int 300 aw))(ag:W.nsIn K mainGlobals "MOST_WITHIN"=some (some<|.int 20 ak))(ae:W.nsIn K mainGlobals "MOST_IN_ROW"=some (some<|.int 4 ah))(ap:W.nsIn K mainGlobals "LAST_PLACE"=some (some<|.int 599 av))(a9:W.nsIn K mainGlobals "LETTERS"=some (some<|.str "abcdefghijklmnopqrstuvwxyz" bo))(cF:W.nsIn K mainGlobals "OPS"=some (some<|.ref cC))(cI:TxA K cC<|(["add","sub","mul","less","same"]:B7).map V.str)(bu:W.nsIn K mainGlobals "HEADS"=some (some<|.ref a1))(cD:TxA K a1<|(["fn","call","let","set","do","if","add","sub","mul","less","same","make","match","raise","try","tell","ask"]:B7).map V.str)(bt:W.nsIn K mainGlobals "FORMS"=some (some<|.ref b))(bs:K.lookup b=some ⟨.type "dict",none,.dict ax cE,#[]⟩)(b2:PySem.W.KeysLit w.params ax.toList)(b8:(b==sysModules)=false)(bx:nsB K b cY=true)(bq:W.nsIn K b "number"=some (some<|.ref aY))(b6:TxA K aY<|(["number"]:B7).map V.str)(bK:W.nsIn K b "name"=some (some<|.ref ad))(b5:TxA K ad<|(["used"]:B7).map V.str)(bg:W.nsIn K b "fn"=some (some<|.ref ab))(bv:TxA K ab<|(["names","part"]:B7).map V.str)(bY:W.nsIn K b "call"=some (some<|.ref aW))(b9:TxA K aW<|(["part","parts"]:B7).map V.str)(bk:W.nsIn K b "let"=some (some<|.ref aT))(b0:TxA K aT<|(["name","part","part"]:B7).map V.str)(bS:W.nsIn K b "set"=some (some<|.ref aU))(bw:TxA K aU<|(["used","part"]:B7).map V.str)(bT:W.nsIn K b "do"=some (some<|.ref aX))(b4:TxA K aX<|(["part","part"]:B7).map V.str)(bX:W.nsIn K b "if"=some (some<|.ref aZ))(b7:TxA K aZ<|(["part","part","part"]:B7).map V.str)(bh:W.nsIn K b "math"=some (some<|.ref aV))(bz:TxA K aV<|(["op","part","part"]:B7).map V.str)(bP:W.nsIn K b "make"=some (some<|.ref aa))(b3:TxA K aa<|(["word","parts"]:B7).map V.str)(a0:W.nsIn K b "match"=some (some<|.ref aO))(bN:TxA K aO<|(["part","word","names","part","part"]:B7).map V.str)(bA:W.nsIn K b "raise"=some (some<|.ref aM))(bL:TxA K aM<|(["word","part"]:B7).map V.str)(a7:W.nsIn K b "try"=some (some<|.ref aN))(ba:TxA K aN<|(["part","word","name","part"]:B7).map V.str)(bE:W.nsIn K b "tell"=some (some<|.ref aP))(bf:TxA K aP<|(["part"]:B7).map V.str)(a8:W.nsIn K b "ask"=some (some<|.ref aR))(bV:TxA K aR<|([]:B7).map V.str)(bj:W.nsIn K mainGlobals "SCOPES"=some (some<|.ref k))(bc:K.lookup k=some ⟨.type "dict",none,.dict al br,#[]⟩)(bb:PySem.W.KeysLit w.params al.toList)(bQ:(k==sysModules)=false)(bH:nsB K k dR=true)(a6:W.nsIn K k "fn"=some (some<|.ref aK))(bm:TxA K aK<|([2,3]:B').map V.int)(bD:W.nsIn K k "let"=some (some<|.ref aS))(bl:TxA K aS<|([2,4]:B').map V.int)(a4:W.nsIn K k "match"=some (some<|.ref aQ))(bW:TxA K aQ<|([4,5]:B').map V.int)(bB:W.nsIn K k "try"=some (some<|.ref aL))(bn:TxA K aL<|([4,5]:B').map V.int)(ai:W.nsIn K mainGlobals "MOST_SIGNS"=some (some<|.int 600 au))(ac:W.nsIn K mainGlobals "MOST_FIGURES"=some (some<|.int 12 af))(a5:W.nsIn K mainGlobals "FIGURES"=some (some<|.str "0123456789" bR))(cH:∀ns:B',ns.length<=63->(zA2 ups tab fw<|d+1).call 58 [.kl<|ns.map U.int] [] (λ_ _=>False) (λv _=>v=.bl true))
  :∃O:FuncData,(∀(s:B3)(v:B2),BindsTo s O ⟨[v],[]⟩ [("_law_script",v)])/\∀a:Heap,K.In a->a.Ns mainGlobals mg->zA5 l.prog w K mg a (CXo l.prog w) (2*(d+1)+1) fa O ["_law_script"] (zDk K 63):=by
 have hgl:∀a,∀p∈gls,zDh l.prog w a (mkB K mg (cl8 aC g) [(b,cq,cY),(k,eQ,dR)]) ups tb rows p:=λa=>(allc (let ⟨_,_,T,i1,F⟩:=bF;v4 (s0:="self") X G a3 a2 az bC T i1 F rfl (kX<|by kernel_rfl) rfl rfl (λ_ _ _ _ _ _ us hl=>by let⟨_,_,rfl⟩:=zGm<|show us.length=2 from hl;exact rfl))
   (allc (let ⟨_,_,T,i1,F⟩:=bM;v4 (s0:="self") X G bZ bU bG bd T i1 F rfl (kX<|by kernel_rfl) rfl rfl (λ_ _ _ _ _ _ us hl=>by let⟨_,_,rfl⟩:=zGm<|show us.length=2 from hl;exact rfl))
   (allc (cr X G d2 (mr 0 rfl)<|bd1 rfl)
   (allc (cr X G d3 (mr 1 rfl)<|bd1 rfl)
   (allc (cr X G d4 (mr 2 rfl)<|bd2 rfl)
   (allc (cr X G d5 (mr 3 rfl)<|bd1 rfl)
   (allc (cr X G d6 (mr 4 rfl)<|bd1 rfl)
   (allc (cr X G d7 (mr 5 rfl)<|bd1 rfl)
   (allc (cr X G d8 (mr 6 rfl)<|bd1 rfl)
   (allc (cr X G d9 (mr 7 rfl)<|bd1 rfl)
   (allc (wa X G o d10 rfl (mr 8 rfl) (xAc (i:=0) rfl)<|bd1 rfl)
   (allc (cr X G d14 (mr 12 rfl)<|bd1 rfl)
   (allc (cr X G d15 (mr 13 rfl)<|bd1 rfl)
   (allc (cr X G d16 (mr 14 rfl)<|bd3 rfl)
   (allc (cr X G d17 (mr 15 rfl)<|bd1 rfl)
   (allc (cr X G d18 (mr 16 rfl)<|bd1 rfl)
   (allc (cr X G d19 (mr 17 rfl)<|bd1 rfl)
   (allc (cr X G d20 (mr 18 rfl)<|bd2 rfl)
   (allc (cr X G d21 (mr 19 rfl)<|bd1 rfl)
   (allc (cr X G d22 (mr 20 rfl)<|bd1 rfl)
   (allc (cr X G d23 (mr 21 rfl)<|bd1 rfl)
   (allc (cr X G d24 (mr 22 rfl)<|bd2 rfl)
   (allc (wa X G n d25 rfl (mr 23 rfl) (xAc (i:=1) rfl)<|bd2 rfl)
   (allc (cr X G d36 (mr 34 rfl)<|bd2 rfl)
   (allc (cr X G d37 (mr 35 rfl)<|bd0 rfl)
   (allc (cr X G d38 (mr 36 rfl)<|bd2 rfl)
   (allc (cr X G d39 (mr 37 rfl)<|bd3 rfl)
   (allc (cr X G d40 (mr 38 rfl)<|bd4 rfl)
   (allc (cr X G d41 (mr 39 rfl)<|bd2 rfl)
   (allc (cr X G d42 (mr 40 rfl)<|bd1 rfl)
   (allc (cr X G d43 (mr 41 rfl)<|bd2 rfl)
   (allc (cr X G d44 (mr 42 rfl)<|bd4 rfl)
   (allc (cr X G d45 (mr 43 rfl)<|bd2 rfl)
   (allc (cr X G d46 (mr 44 rfl)<|bd4 rfl)
   (allc (cr X G d47 (mr 45 rfl)<|bd5 rfl)
   (allc (cr X G d48 (mr 46 rfl)<|bd1 rfl)
   (allc (cr X G d49 (mr 47 rfl)<|bd5 rfl)
   (allc (cr X G d50 (mr 48 rfl)<|bd4 rfl)
   (allc (cr X G d51 (mr 49 rfl)<|bd4 rfl)
   (allc (cr X G d52 (mr 50 rfl)<|bd1 rfl)
   (allc (cr X G d53 (mr 51 rfl)<|bd1 rfl)
   (allc (cr X G d54 (mr 52 rfl)<|bd2 rfl)
   (allc (cr X G d55 (mr 53 rfl)<|bd2 rfl)
   (allc (cr X G d56 (mr 54 rfl)<|bd1 rfl)
   (allc (cr X G d57 (mr 55 rfl)<|bd1 rfl)
   (allc (cr X G M (mr 56 rfl)<|show BdC r58 from bd1 rfl)
   (allc (v5 X G aj ao ar aq)
   (allc (v5 X G be bi bJ bI)
   (allc (gc X G am)
   (allc (gc X G ag)
   (allc (gc X G ae)
   (allc (gc X G ap)
   (allc (rQ X G a9)
   (allc (v6 X G cF λW=>(ktS cI) W)
   (allc (v6 X G bu λW=>(ktS cD) W)
   (allc (v7 X G bt<|xAc (i:=0) rfl)
   (allc (v7 X G bj<|xAc (i:=1) rfl)
   (allc (gc X G ai)
   (allc (gc X G ac)
   (allc (rQ X G a5)
   alln))))))))))))))))))))))))))))))))))))))))))))))))))))))))))))
 have Z:∀p∈mss,zH1 (mkB K mg (cl8 aC g) [(b,cq,cY),(k,eQ,dR)]) rows p:=(allc (en (by kernel_rfl) o d11 (mr 9 rfl) (xAc (i:=0) rfl)<|bd4 rfl)
   (allc (en (by kernel_rfl) o d12 (mr 10 rfl) (xAc (i:=0) rfl)<|bd2 rfl)
   (allc (en (by kernel_rfl) o d13 (mr 11 rfl) (xAc (i:=0) rfl)<|bd5 rfl)
   (allc (en (by kernel_rfl) n d26 (mr 24 rfl) (xAc (i:=1) rfl)<|bd1 rfl)
   (allc (en (by kernel_rfl) n d27 (mr 25 rfl) (xAc (i:=1) rfl)<|bd1 rfl)
   (allc (en (by kernel_rfl) n d28 (mr 26 rfl) (xAc (i:=1) rfl)<|bd2 rfl)
   (allc (en (by kernel_rfl) n d29 (mr 27 rfl) (xAc (i:=1) rfl)<|bd1 rfl)
   (allc (en (by kernel_rfl) n d30 (mr 28 rfl) (xAc (i:=1) rfl)<|bd3 rfl)
   (allc (en (by kernel_rfl) n d31 (mr 29 rfl) (xAc (i:=1) rfl)<|bd3 rfl)
   (allc (en (by kernel_rfl) n d32 (mr 30 rfl) (xAc (i:=1) rfl)<|bd4 rfl)
   (allc (en (by kernel_rfl) n d33 (mr 31 rfl) (xAc (i:=1) rfl)<|bd2 rfl)
   (allc (en (by kernel_rfl) n d34 (mr 32 rfl) (xAc (i:=1) rfl)<|bd3 rfl)
   (allc (en (by kernel_rfl) n d35 (mr 33 rfl) (xAc (i:=1) rfl)<|bd1 rfl)
   alln)))))))))))))
 have J:∀p∈(cl8 aC g),Cls K p.2/\W.findIn K (.ref p.2) "__class__"=some (some<|.builtin "object.__class__")/\W.mroIn K p.2 (.type "object")=some true:=(allc ⟨o.cls,o.ha,o.hm⟩
   (allc ⟨n.cls,n.ha,n.hm⟩
   alln))
 have Y:∀p∈(cl8 aC g),zDl K p.2 fls=true:=(allc ay
   (allc bp
   alln))
 have hkd:∀q∈([(b,cq,cY),(k,eQ,dR)]:B0<|B5×B0 (Str×U)×B7),zJi w (mkB K mg (cl8 aC g) [(b,cq,cY),(k,eQ,dR)]) q:=(allc ⟨⟨_,_,bs,b2,b8⟩,(allc ⟨.ref aY,_,bq,rfl,λW=>(ktS b6) W⟩<|allc ⟨.ref ad,_,bK,rfl,λW=>(ktS b5) W⟩<|allc ⟨.ref ab,_,bg,rfl,λW=>(ktS bv) W⟩<|allc ⟨.ref aW,_,bY,rfl,λW=>(ktS b9) W⟩<|allc ⟨.ref aT,_,bk,rfl,λW=>(ktS b0) W⟩<|allc ⟨.ref aU,_,bS,rfl,λW=>(ktS bw) W⟩<|allc ⟨.ref aX,_,bT,rfl,λW=>(ktS b4) W⟩<|allc ⟨.ref aZ,_,bX,rfl,λW=>(ktS b7) W⟩<|allc ⟨.ref aV,_,bh,rfl,λW=>(ktS bz) W⟩<|allc ⟨.ref aa,_,bP,rfl,λW=>(ktS b3) W⟩<|allc ⟨.ref aO,_,a0,rfl,λW=>(ktS bN) W⟩<|allc ⟨.ref aM,_,bA,rfl,λW=>(ktS bL) W⟩<|allc ⟨.ref aN,_,a7,rfl,λW=>(ktS ba) W⟩<|allc ⟨.ref aP,_,bE,rfl,λW=>(ktS bf) W⟩<|allc ⟨.ref aR,_,a8,rfl,λW=>(ktS bV) W⟩ alln),bx⟩
   (allc ⟨⟨_,_,bc,bb,bQ⟩,(allc ⟨.ref aK,_,a6,rfl,λW=>(ktI bm) W⟩<|allc ⟨.ref aS,_,bD,rfl,λW=>(ktI bl) W⟩<|allc ⟨.ref aQ,_,a4,rfl,λW=>(ktI bW) W⟩<|allc ⟨.ref aL,_,bB,rfl,λW=>(ktI bn) W⟩ alln),bH⟩
   alln))
 have pf:∀a,Pf l.prog w a (mkB K mg (cl8 aC g) [(b,cq,cY),(k,eQ,dR)]) ups tb rows:=λa=>
  zt (hgl a) Z (λx hx=>W.mg_none_of X G<|jr<|xCx.mp cG x hx) (zGn cA) (zGn b1) (zGn cB) (zGn bO) (clF (λp hp=>(J p hp).1) Y) (clT J hn_ ht_) (kdF hkd)
 let⟨f,O,h0,F⟩:=M;have e:=hfa.symm.trans<|W.mg_of X G h0;cases e;refine⟨O,λs v=>?_,λa _ _=>?_⟩
 .let⟨oc,od,kV,doc,pm,an,cdv,ct,osl,rfl,_⟩:=F.ex;exact .of_eq<|(show BdC r58 from bd1 rfl) kV doc pm an cdv ct [v] rfl
 .exact(yV (fw:=fw) (pf a) zG6 (r:=r58) (mr 56 rfl) (Fun.fa F) d).imp λvs H Q E z=>yb (B:=mkB K mg (cl8 aC g) [(b,cq,cY),(k,eQ,dR)]) (zFq<|d+1) cH vs H Q E z
@[irreducible] noncomputable def Gd (fw d:Nat):C8:=zA2 ups tab fw d
def iQ{d:Nat}:Gd fw d=zA2 ups tab fw d:=by unfold Gd;rfl
section
variable{fw d i:Nat}{p:Pm}{vs:B8}{S S':So}{x:C7}{k:C6}{v:U}{a b:Unit->Prop}{de:De}
def pd(e:pr ups p vs S=.ok v S')(h:k v S'):(Gd fw d).prim p vs S x k:=by rw[iQ];exact pm e h
def pv(v:U)(h:k v S)(e:pr ups p vs S=.ok v S:=by rfl):(Gd fw d).prim p vs S x k:=pd e h
def bT(h:a Unit.unit):(Gd fw d).br true a b:=by rw[iQ];exact brT h
def bF(h:b Unit.unit):(Gd fw d).br false a b:=by rw[iQ];exact brF h
def bI{c:B6}(h1:c=true->a Unit.unit)(h2:c=false->b Unit.unit):(Gd fw d).br c a b:=by
 cases c
 .exact bF<|h2 rfl
 .exact bT<|h1 rfl
def cd(de:De)(h:de.t (Gd fw d) (stU de.n vs) S<|zAk x k)(e:tab i=some de:=by kernel_rfl)(g:vs.length=de.np:=by rfl):(Gd fw<|d+1).call i vs S x k:=by
 rw[iQ] at h⊢;exact zHn e g h
theorem fuel:(Gd fw d).fuel=fw:=by
 rw[iQ];cases d <;> rfl
end
structure Sx where
 n:Int
 s:Int
 a:Int
 k:Int
 h:Int
noncomputable def Sx.kv(x:Sx):B0<|Key×U:=[(.inr "number",.int x.n),(.inr "seed",.int x.s),(.inr "parts",.int x.a),(.inr "places",.int x.k),(.inr "shift",.int x.h)]
structure Bl(x:Sx)(i:Nat)(as:B8)(lv:Nat)(v:U)(x':Sx):Prop where
 h:∀{fw d p:Nat}{S:So}{xx:C7}{K:C6},at? S p=some (.dct x.kv)->K v (set S p (.dct x'.kv))->(Gd fw (d+lv)).call i (.ref p::as) S xx K
theorem zB6{J:Type}:∀{l:B0 J}{p:Nat}{o:J},at? l p=some o->set l p o=l
 |_::_,0,_,h=>by cases h;rfl
 |_::l,p+1,o,h=>congrArg _<|zB6 (l:=l) h
def Sx.ok(x:Sx):Prop:=0<=x.n/\0<=x.s/\x.s<2147483647
noncomputable def Sx.fl(x:Sx):Sx:=if x.n=0/\x.s>0 then{x with s:=x.s*48271%2147483647,n:=(x.s*48271%2147483647)*(x.s*48271%2147483647)%2147483629} else x
def Sx.fl_ok{x:Sx}(h:x.ok):x.fl.ok:=by
 let⟨d,b,a⟩:=h;unfold Sx.fl;split
 .exact⟨xBa _ ∅,xBa _ ∅,xBb _ ∅⟩
 .exact⟨d,b,a⟩
noncomputable def Sx.dg(x:Sx)(m:Int):Int:=x.fl.n%m
noncomputable def Sx.tk(x:Sx)(m:Int):Sx:={x.fl with n:=x.fl.n / m}
def Sx.tk_ok{x:Sx}(h:x.ok)(a:0<m):(x.tk m).ok:=by
 let⟨g,d,b⟩:=x.fl_ok h;exact⟨Int.ediv_nonneg g<|Int.le_of_lt a,d,b⟩
def sml(a:Int):Prop:=-(10^40)<a/\a<10^40
def lb{a b:Int}(g:sml a)(d:sml b):pr ups .mul [.int a,.int b] S=.ok (.int<|a*b) S:=by
 show(match decide (a.natAbs<2^150/\b.natAbs<2^150\/b.natAbs<2^60\/a.natAbs<2^60) with|true=>Res.ok (.int<|a*b) S|false=>.stuck)=_;unfold sml at g d;rw[xBd<|.inl ⟨(),()⟩]
def fb{a:Int}(h:0<m/\m<=10^18):pr ups .fdiv [.int a,.int m] S=.ok (.int<|a / m) S:=by
 show(match decide (0<m/\m<=10^18) with|true=>Res.ok (.int<|a / m) S|false=>.stuck)=_;rw[xBd h]
def cX{a:Int}(h:0<m):pr ups .mod [.int a,.int m] S=.ok (.int<|a%m) S:=by
 show(match decide (0<m) with|true=>Res.ok (.int<|a%m) S|false=>.stuck)=_;rw[xBd h]
def cL{a b:Int}:pr ups .eq [.int a,.int b] S=.ok (.bl<|decide<|a=b) S:=rfl
section
variable{fw d p:Nat}{S:So}{x:Sx}
def yd(h:at? S p=some (.dct x.kv)):pr ups .ix [.ref p,.str "number"] S=.ok (.int x.n) S:=fX h rfl
def uL(h:at? S p=some (.dct x.kv)):pr ups .ix [.ref p,.str "seed"] S=.ok (.int x.s) S:=fX h rfl
def rA(h:at? S p=some (.dct x.kv)):pr ups .ix [.ref p,.str "parts"] S=.ok (.int x.a) S:=fX h rfl
def Ad(h:at? S p=some (.dct x.kv)):pr ups .ix [.ref p,.str "places"] S=.ok (.int x.k) S:=fX h rfl
def Bb(h:at? S p=some (.dct x.kv)):pr ups .ix [.ref p,.str "shift"] S=.ok (.int x.h) S:=fX h rfl
def gW{x':Sx}{f:Str}(h:at? S p=some (.dct x.kv))(e:putK (.inr f) v x.kv=x'.kv):pr ups .seti [.ref p,.str f,v] S=.ok .non (set S p<|.dct x'.kv):=by
 rw[<- e];exact tV h (by show 5+1<=2^24;decide)
end
def cJ{x:Sx}(r:x.ok)(k:0<m/\m<=10 ^ 18):Bl x 41 [.int m] 1 (.int<|x.dg m)<|x.tk m:=⟨λ{fw d p S xx K} h hk=>by
 erw[cd ⟨2,3,t41⟩];have i:∀{S:So},at? S p=some (.dct x.fl.kv)->K (.int<|x.dg m) (set S p<|.dct (x.tk m).kv)->rz1 (Gd fw d) [some<|.ref p,some<|.int m,none] S (zAk xx K):=λ{S} h hk=>by
  erw[pd (yd h),pd (cX k.1),pd (yd h),pd (fb k),pd (gW (x':=x.tk m) h rfl),<-hk]
 erw[pd (yd h),pd cL];by_cases h0:x.n=0
 .rw[xBd h0];erw[bT,pd (uL h),pv (.bl<|decide<|0<x.s)];by_cases h1:0<x.s
  .have e:x.fl={x with s:=x.s*48271%2147483647,n:=(x.s*48271%2147483647)*(x.s*48271%2147483647)%2147483629}:=xCg ⟨h0,h1⟩;have w:=r.2.2;rw[xBd h1];erw[bT,pd (uL h),pd (lb (a:=x.s) (b:=48271) (by unfold sml;lia)<|by unfold sml;decide),pd (cX ∅)];obtain⟨q,o⟩:0<=x.s*48271%2147483647/\x.s*48271%2147483647<2147483647:=⟨xBa _ ∅,xBb _ ∅⟩
   generalize x.s*48271%2147483647=s' at e q o⊢;erw[pd (gW (x':={x with s:=s'}) h rfl)];have g:=zAc (o':=Ob.dct ({x with s:=s'}:Sx).kv) h;erw[pd (uL g),pd (uL g),pd (lb (a:=s') (b:=s') (by unfold sml;lia)<|by unfold sml;lia),pd (cX ∅),pd (gW (x':=x.fl) g<|by rw[e];rfl)];exact i (zAc g) (by rw[zAa,zAa];exact hk)
  .have e:x.fl=x:=xCf λz=>h1 z.2;rw[xCn h1];erw[bF];exact i (by rw[e];exact h) hk
 .have e:x.fl=x:=xCf λz=>h0 z.1;rw[xCn h0];refine bF ?_;refine bF ?_;exact i (by rw[e];exact h) hk⟩
noncomputable def Sx.nx(x:Sx):Sx:={x with k:=x.k+1,a:=x.a-1}
noncomputable def Sx.pl(x:Sx):Int:=(7*(x.k+1)+x.h)%600
def cu{x:Sx}(n:0<=x.k/\x.k<=10000):Bl x 42 [] 1 (.int x.pl) x.nx:=⟨λ{fw d p S xx K} h hk=>by
 refine cd ⟨1,1,t42⟩ ?_;refine pd (Ad h) ?_;refine pv (.int<|x.k+1) ?_;refine pd (gW (x':={x with k:=x.k+1}) h rfl) ?_;have g:=zAc (o':=Ob.dct ({x with k:=x.k+1}:Sx).kv) h;refine pd (rA g) ?_;refine pv (.int<|x.a-1) ?_;refine pd (gW (x':=x.nx) g rfl) ?_;have i:=zAc (o':=Ob.dct x.nx.kv) g;refine pd (Ad i) ?_;refine pd (lb (a:=7) (b:=x.k+1) (by unfold sml;decide)<|by unfold sml;lia) ?_;refine pd (Bb i) ?_;refine pv (.int<|7*(x.k+1)+x.h) ?_;refine pv (.int x.pl) ?_;rw[zAa];exact hk⟩
inductive Pg where
 |num (pl n:Int)|nam (pl:Int) (x:Str)|fn (pl:Int) (xs:List Str) (b:Pg)|call (pl:Int) (f:Pg) (as:List Pg)|lt (pl:Int) (x:Str) (a b:Pg)|st (pl:Int) (x:Str) (a:Pg)|dd (pl:Int) (a b:Pg)|iff (pl:Int) (a b c:Pg)
 |math (pl:Int) (o:Str) (a b:Pg)|make (pl:Int) (t:Str) (as:List Pg)|mat (pl:Int) (a:Pg) (t:Str) (xs:List Str) (b c:Pg)|rai (pl:Int) (w:Str) (a:Pg)|try_ (pl:Int) (a:Pg) (w x:Str) (b:Pg)|tell (pl:Int) (a:Pg)|ask (pl:Int)
mutual
noncomputable def Pg.u:Pg->U
 |.num pl n=>.tup [.str "number",.int pl,.int n]
 |.nam pl x=>.tup [.str "name",.int pl,.str x]
 |.fn pl xs b=>.tup [.str "fn",.int pl,.tup<|xs.map .str,b.u]
 |.call pl f as=>.tup [.str "call",.int pl,f.u,.tup<|Pg.us as]
 |.lt pl x a b=>.tup [.str "let",.int pl,.str x,a.u,b.u]
 |.st pl x a=>.tup [.str "set",.int pl,.str x,a.u]
 |.dd pl a b=>.tup [.str "do",.int pl,a.u,b.u]
 |.iff pl a b c=>.tup [.str "if",.int pl,a.u,b.u,c.u]
 |.math pl o a b=>.tup [.str "math",.int pl,.str o,a.u,b.u]
 |.make pl t as=>.tup [.str "make",.int pl,.str t,.tup<|Pg.us as]
 |.mat pl a t xs b c=>.tup [.str "match",.int pl,a.u,.str t,.tup<|xs.map .str,b.u,c.u]
 |.rai pl w a=>.tup [.str "raise",.int pl,.str w,a.u]
 |.try_ pl a w x b=>.tup [.str "try",.int pl,a.u,.str w,.str x,b.u]
 |.tell pl a=>.tup [.str "tell",.int pl,a.u]
 |.ask pl=>.tup [.str "ask",.int pl]
noncomputable def Pg.us:B0 Pg->B8
 |[]=>[]
 |a::r=>a.u::Pg.us r
end
variable{x:Sx}{sc:B7}
noncomputable def scU(sc:B7):U:=.lst<|sc.map .str
def fM:pr ups .ne [scU sc,.lst []] S=.ok (.bl (!sc.isEmpty)) S:=by
 cases sc <;> rfl
def Sx.dg_lt(a:0<m):0<=x.dg m/\x.dg m<m:=⟨xBa _ (),xBb _ a⟩
def e8{i:Int}(h:0<=i/\i<sc.length):∃w∈sc,∀{S:So},pr ups .ix [scU sc,.int i] S=.ok (.str w) S:=by
 let⟨j,rfl⟩:=Int.eq_ofNat_of_zero_le h.1;have a:j<sc.length:=by lia
 refine⟨sc[j],List.getElem_mem a,λ{S}=>?_⟩;show opt (atI (sc.map U.str) (j:Int)) S=_;rw[dQ (v:=.str sc[j])<|by rw[xAw,xAk a];rfl];rfl
def dM:pr ups .len [scU sc] S=.ok (.int sc.length) S:=by
 show Res.ok (.int ((sc.map U.str).length:Nat)) S=_;rw[xAa]
structure Sx.Le(x x':Sx):Prop where
 ok:x'.ok
 a:x'.a=x.a
 k:x'.k=x.k
 h:x'.h=x.h
def Sx.fl_le:x.fl.a=x.a/\x.fl.k=x.k/\x.fl.h=x.h:=by
 unfold Sx.fl;split <;> exact⟨rfl,rfl,rfl⟩
def Sx.tk_le(a:x.ok)(b:0<m):x.Le<|x.tk m:=⟨x.tk_ok a b,x.fl_le.1,x.fl_le.2.1,x.fl_le.2.2⟩
theorem Sx.Le.trans{y z:Sx}(h:x.Le y)(g:y.Le z):x.Le z:=⟨g.ok,g.a.trans h.a,g.k.trans h.k,g.h.trans h.h⟩
def At(sc:B7)(pl:Int)(P:Pg):Prop:=(∃w∈sc,P=.nam pl w)\/∃n,-(10^12)<n/\n<10^12/\P=.num pl n
def zFl{pl:Int}(g:x.ok):∃n x',-(10^12)<n/\n<10^12/\x.Le x'/\∀{fw d p:Nat}{S:So}{xx:C7}{K:C6}{a1 a3:B1 U},at? S p=some (.dct x.kv)->K (Pg.num pl n).u (set S p<|.dct x'.kv)->zId (Gd fw<|d+1) [some<|.ref p,a1,some<|.int pl,a3] S (zAk xx K):=by
 have a:=x.tk_le (m:=10) g ∅;have w:=x.dg_lt (m:=10) ∅;by_cases h9:x.dg 10=9
 .have b:=(x.tk 10).tk_le (m:=10^12) a.ok ∅;have k:=((x.tk 10).tk<|10^12).tk_le (m:=10^12) b.ok ∅;have r:=(x.tk 10).dg_lt (m:=10^12) ∅;have q:=((x.tk 10).tk<|10^12).dg_lt (m:=10^12) ∅;refine⟨(x.tk 10).dg (10^12)-((x.tk 10).tk<|10^12).dg (10^12),_,(),(),(a.trans b).trans k,λ{fw d p S xx K a1 a3} h hk=>?_⟩
  .erw[(cJ g ∅).h h];have i:=zAc (o':=Ob.dct (x.tk 10).kv) h;erw[pd cL];rw[xBd h9];erw[bT,pv (.int<|10^12),(cJ a.ok ∅).h i];have o:=zAc (o':=Ob.dct ((x.tk 10).tk<|10^12).kv) i;erw[pv (.int<|10^12),(cJ b.ok ∅).h o,pv (.int<|(x.tk 10).dg (10^12)-((x.tk 10).tk<|10^12).dg (10^12))];rw[zAa,zAa];exact hk
 .erw[<-⟨x.dg 10,x.tk 10,(),(),a,λ{fw d p S xx K a1 a3} h hk=>?_⟩,(cJ g ∅).h h,pd cL];rw[xCn h9];erw[bF];exact hk
def Sx.nx_ok(h:x.ok):x.nx.ok:=h
theorem vp(C:x.ok)(hk:0<=x.k/\x.k<=10000)(H:sc.length<=1000):∃P x',At sc x.pl P/\x.nx.Le x'/\Bl x 43 [scU sc] 2 P.u x':=by
 have o1:=x.nx_ok C;cases he:sc.isEmpty with
 |true=>
  let⟨n,x',o,i,le,N⟩:=zFl (x:=x.nx) (pl:=x.pl) o1;erw[<-⟨.num x.pl n,x',.inr ⟨n,o,i,rfl⟩,le,⟨λ{fw d p S xx K} h a=>?_⟩⟩,cd ⟨2,4,t43⟩,(cu hk).h h,pv (.lst []),pd fM];rw[he];erw[bF,bF];exact N (zAc h) (by rw[zAa];exact a)
 |false=>
  have b:=x.nx.tk_le (m:=3) o1 ∅;have q:0<(sc.length:Int):=by
   cases sc with
   |nil=>cases he
   |cons _ _=>rw[xAo];lia
  by_cases hd:0<x.nx.dg 3
  .have r:=(x.nx.tk 3).tk_le (m:=sc.length) b.ok q;let⟨w,F,e⟩:=e8 (sc:=sc)<|(x.nx.tk 3).dg_lt q;erw[<-⟨.nam x.pl w,_,.inl ⟨w,F,rfl⟩,b.trans r,⟨λ{fw d p S xx K} h a=>?_⟩⟩,cd ⟨2,4,t43⟩,(cu hk).h h];have g:=zAc (o':=Ob.dct x.nx.kv) h;erw[pv (.lst []),pd fM];rw[he];erw[bT,(cJ o1 ∅).h g];have G:=zAc (o':=Ob.dct (x.nx.tk 3).kv) g;erw[pv (.bl<|decide<|0<x.nx.dg 3)];rw[xBd hd];erw[bT,pd dM,(cJ b.ok ⟨q,()⟩).h G,pd e];rw[zAa,zAa];exact a
  .let⟨n,x',o,i,le,N⟩:=zFl (x:=x.nx.tk 3) (pl:=x.pl) b.ok;erw[<-⟨.num x.pl n,x',.inr ⟨n,o,i,rfl⟩,b.trans le,⟨λ{fw d p S xx K} h a=>?_⟩⟩,cd ⟨2,4,t43⟩,(cu hk).h h];have g:=zAc (o':=Ob.dct x.nx.kv) h;erw[pv (.lst []),pd fM];rw[he];erw[bT,(cJ o1 ∅).h g,pv (.bl<|decide<|0<x.nx.dg 3)];rw[xCn hd];erw[bF];exact N (zAc g) (by rw[zAa,zAa];exact a)
section
variable{x:Sx}{sc ws:B7}
noncomputable def wds:B7:=["kind","odd","big","a","b","ab"]
def gy(a:x.ok):∃w x',w∈wds/\x.Le x'/\Bl x 48 [] 2 (.str w) x':=by
 have b:=x.tk_le (m:=6) a ∅;let⟨w,g,e⟩:=e8 (sc:=wds) (i:=x.dg 6) (x.dg_lt (m:=6) ∅);erw[<-⟨w,_,g,b,⟨λ{fw d p S xx K} h hk=>?_⟩⟩,cd ⟨1,1,t48⟩,pv (scU wds),(cJ a ∅).h h,pd e,<-hk]
def jV{j:Int}(h:0<=j/\j<=1000):pr ups .rng1 [.int j] S=.ok (.tup<|zB8 0 j.toNat) S:=by
 delta pr;dsimp only;rw[xBd ()]
theorem zA6:∀{n:Nat}{lo:Int},(zB8 lo n).length=n
 |0,_=>rfl
 |n+1,lo=>congrArg (·+1)<|zA6 (n:=n)
noncomputable def zDd(ws:B7)(f k:Nat):Str:=ws.getD ((f+k)%ws.length) ""
def qV{f k:Nat}(h:3<=ws.length/\ws.length<=6):zDd ws f k∈ws:=by
 unfold zDd;have a:(f+k)%ws.length<ws.length:=Nat.mod_lt _ (by omega);rw[xBz,xAk a];exact List.getElem_mem a
def zo{f k:Nat}(h:3<=ws.length/\ws.length<=6):pr ups .ix [scU ws,.int<|((f:Int)+k)%ws.length] S=.ok (.str<|zDd ws f k) S:=by
 have a:(f+k)%ws.length<ws.length:=Nat.mod_lt _ (by omega);rw[show((f:Int)+k)%ws.length=(((f+k)%ws.length:Nat):Int) by rw[Int.natCast_emod];rfl];show opt (atI (ws.map U.str) (((f+k)%ws.length:Nat):Int)) S=_;rw[dQ (v:=.str<|zDd ws f k)<|by unfold zDd;rw[xAw,xAk a,xBz,xAk a];rfl];rfl
theorem vT{f:Nat}{fw d:Nat}{S:So}{K:C6}(h:3<=ws.length/\ws.length<=6):∀{n lo:Nat}{ys:B8},K (.lst<|ys++(List.range' lo n).map λk=>.str<|zDd ws f k) S->lcK (Gd fw d) (zCu [1] true [none,none,some<|scU ws,some<|.int f] (J8 J7<|J1 .mod (J1 (.add false) J6 J3)<|J4 .len J7)<|Gd fw d) (zB8 (lo:Int) n) ys S K
 |0,lo,ys,hk=>by
  rw[List.range'_zero,List.map_nil,xB0] at hk;exact hk
 |n+1,lo,ys,hk=>by
  erw[pv (.int<|(f:Int)+lo),pd dM,pd (cX (m:=ws.length) ()),pd (zo h),vT h (n:=n) (lo:=lo+1) (ys:=ys++[.str<|zDd ws f lo])];rw[xAx];exact hk
def xW{L f a b:Nat}(i:a<L)(g:b<L)(q:(f+a)%L=(f+b)%L):a=b:=by
 have m1:=Nat.div_add_mod (f+a) L;have d:=Nat.div_add_mod (f+b) L;rw[q] at m1;generalize (f+a) / L=u at m1;generalize (f+b) / L=v at d;generalize (f+b)%L=r at m1 d;rcases Nat.lt_trichotomy u v with y|y|y
 .obtain⟨t,rfl⟩:∃t,v=u+1+t:=⟨v-(u+1),()⟩
  rw[Nat.mul_add,Nat.mul_add] at d;have:=xBn<|L*t;lia
 .subst y;lia
 .obtain⟨t,rfl⟩:∃t,u=v+1+t:=⟨u-(v+1),()⟩
  rw[Nat.mul_add,Nat.mul_add] at m1;have:=xBn<|L*t;lia
structure Nms(ws xs:B7):Prop where
 sub:∀y∈xs,y∈ws
 few:xs.length<=4
 nd:xs.Nodup
def xR{f n:Nat}(h:3<=ws.length/\ws.length<=6)(r:ws.Nodup)(w:n<=4)(C:n<=ws.length):Nms ws<|(List.range' 0 n).map<|zDd ws f:=by
 refine⟨λy p=>?_,by rw[xAa,List.length_range'];exact w,?_⟩
 .let⟨k,_,rfl⟩:=xA2.mp p;exact qV h
 .refine List.pairwise_map.mpr ((List.nodup_range' (step:=1)).imp_of_mem λ{a b} o i z e=>z ?_);have o:=(List.mem_range'_1.mp o).2;have i:=(List.mem_range'_1.mp i).2;unfold zDd at e;have g:(f+a)%ws.length<ws.length:=Nat.mod_lt _ (by omega);have d:(f+b)%ws.length<ws.length:=Nat.mod_lt _ (by omega);rw[xBz,xBz,xAk g,xAk d] at e;have hp:=List.pairwise_iff_getElem.mp r;have e:ws[(f+a)%ws.length]=ws[(f+b)%ws.length]:=e;rcases Nat.lt_trichotomy ((f+a)%ws.length) ((f+b)%ws.length) with q|q|q
  .exact absurd e<|hp _ _ g d q
  .exact xW (by omega) (by omega) q
  .exact absurd e.symm<|hp _ _ d g q
def iw(i:x.ok)(h:3<=ws.length/\ws.length<=6)(w:ws.Nodup):∃xs x',Nms ws xs/\x.Le x'/\Bl x 45 [scU ws] 2 (.tup<|xs.map .str) x':=by
 have a:=x.tk_le (m:=ws.length) i (by omega);have r:=(x.tk ws.length).tk_le (m:=5) a.ok ∅;let⟨H,J⟩:=x.dg_lt (m:=ws.length) (by omega);let⟨G,I⟩:=(x.tk ws.length).dg_lt (m:=5) ∅;let⟨f,C⟩:=Int.eq_ofNat_of_zero_le H;let⟨n,b⟩:=Int.eq_ofNat_of_zero_le G;have g:n-(n-ws.length)<=4/\n-(n-ws.length)<=ws.length:=by omega
 refine⟨(List.range' 0<|n - (n - ws.length)).map<|zDd ws f,_,xR h w g.1 g.2,a.trans r,⟨λ{fw d p S xx K} o hk=>?_⟩⟩;refine cd ⟨2,4,t45⟩ ?_;refine pd dM ?_;refine(cJ i ⟨by omega,by omega⟩).h o ?_;have F:=zAc (o':=Ob.dct (x.tk ws.length).kv) o;refine(cJ a.ok ∅).h F ?_;refine pd dM ?_;rw[C,b];refine pv (.int ((n - (n - ws.length):Nat):Int)) ?_ (by
  show Res.ok (.int<|if(ws.length:Int)<n then(ws.length:Int) else n) _=_;by_cases q:(ws.length:Int)<n
  .rw[xCg q];congr 2;omega
  .rw[xCf q];congr 2;omega)
 erw[pd (jV<|by omega)];rw[xC3];generalize n-(n-ws.length)=n at g hk⊢;refine bI (λ_=>?_) λz=>?_
 .erw[vT (lo:=0) h];rw[xC6];erw[pv (.tup<|(List.range' 0 n).map λk=>.str<|zDd ws f k)];rw[zAa];rw[List.map_map] at hk;exact hk
 .rw[zA6,xDk<|show n<=sizeLine by show n<=2^24;omega] at z;cases z
end
structure Nmz(N:Str->Prop)(xs:B7):Prop where
 ok:∀y∈xs,N y
 few:xs.length<=4
 nd:xs.Nodup
noncomputable def ops:B7:=["add","sub","mul","less","same"]
inductive Wf(N:Str->Prop):List Str->Nat->Pg->Prop where
 |num {sc:List Str} {d:Nat} {pl n:Int} (h1:-(10^12)<n) (h2:n<10^12):Wf N sc d (.num pl n)
 |nam {sc:List Str} {d:Nat} {pl:Int} {x:Str} (h:x∈sc):Wf N sc d (.nam pl x)
 |fn {sc xs:List Str} {d:Nat} {pl:Int} {b:Pg} (h:Nmz N xs) (hb:Wf N (sc++xs) d b):Wf N sc (d+1) (.fn pl xs b)
 |call {sc:List Str} {d:Nat} {pl:Int} {f:Pg} {as:List Pg} (hf:Wf N sc d f) (h:∀a∈as,Wf N sc d a) (h4:as.length<=4):Wf N sc (d+1) (.call pl f as)
 |lt {sc:List Str} {d:Nat} {pl:Int} {x:Str} {a b:Pg} (hx:N x) (ha:Wf N sc d a) (hb:Wf N (sc++[x]) d b):Wf N sc (d+1) (.lt pl x a b)
 |st {sc:List Str} {d:Nat} {pl:Int} {x:Str} {a:Pg} (hx:x∈sc) (ha:Wf N sc d a):Wf N sc (d+1) (.st pl x a)
 |dd {sc:List Str} {d:Nat} {pl:Int} {a b:Pg} (ha:Wf N sc d a) (hb:Wf N sc d b):Wf N sc (d+1) (.dd pl a b)
 |iff {sc:List Str} {d:Nat} {pl:Int} {a b c:Pg} (ha:Wf N sc d a) (hb:Wf N sc d b) (hc:Wf N sc d c):Wf N sc (d+1) (.iff pl a b c)
 |math {sc:List Str} {d:Nat} {pl:Int} {o:Str} {a b:Pg} (ho:o∈ops) (ha:Wf N sc d a) (hb:Wf N sc d b):Wf N sc (d+1) (.math pl o a b)
 |make {sc:List Str} {d:Nat} {pl:Int} {t:Str} {as:List Pg} (ht:t∈wds) (h:∀a∈as,Wf N sc d a) (h4:as.length<=4):Wf N sc (d+1) (.make pl t as)
 |mat {sc xs:List Str} {d:Nat} {pl:Int} {t:Str} {a b c:Pg} (ht:t∈wds) (hx:Nmz N xs) (ha:Wf N sc d a) (hb:Wf N (sc++xs) d b) (hc:Wf N sc d c):Wf N sc (d+1) (.mat pl a t xs b c)
 |rai {sc:List Str} {d:Nat} {pl:Int} {w:Str} {a:Pg} (hw:w∈wds) (ha:Wf N sc d a):Wf N sc (d+1) (.rai pl w a)
 |try_ {sc:List Str} {d:Nat} {pl:Int} {w x:Str} {a b:Pg} (hw:w∈wds) (hx:N x) (ha:Wf N sc d a) (hb:Wf N (sc++[x]) d b):Wf N sc (d+1) (.try_ pl a w x b)
 |tell {sc:List Str} {d:Nat} {pl:Int} {a:Pg} (ha:Wf N sc d a):Wf N sc (d+1) (.tell pl a)
 |ask {sc:List Str} {d:Nat} {pl:Int}:Wf N sc (d+1) (.ask pl)
theorem Wf.up{sc:B7}{d:Nat}{P:Pg}(h:Wf N sc d P):∀{e:Nat},d<=e->Wf N sc e P:=by
 induction h with
 |num G F=>intro e _;exact .num G F
 |nam h=>intro e _;exact .nam h
 |fn h k r=>intro e b;obtain⟨e,rfl⟩:∃e',e=e'+1:=⟨e-1,()⟩;exact .fn h (r ())
 |call H h q i1 i2=>intro e b;obtain⟨e,rfl⟩:∃e',e=e'+1:=⟨e-1,()⟩;exact .call (i1 ()) (λa g=>i2 a g ()) q
 |lt i g k i1 i2=>intro e b;obtain⟨e,rfl⟩:∃e',e=e'+1:=⟨e-1,()⟩;exact .lt i (i1 ()) (i2 ())
 |st i g i1=>intro e b;obtain⟨e,rfl⟩:∃e',e=e'+1:=⟨e-1,()⟩;exact .st i (i1 ())
 |dd g k i1 i2=>intro e b;obtain⟨e,rfl⟩:∃e',e=e'+1:=⟨e-1,()⟩;exact .dd (i1 ()) (i2 ())
 |iff g k C i1 i2 n=>intro e b;obtain⟨e,rfl⟩:∃e',e=e'+1:=⟨e-1,()⟩;exact .iff (i1 ()) (i2 ()) (n ())
 |math w g k i1 i2=>intro e b;obtain⟨e,rfl⟩:∃e',e=e'+1:=⟨e-1,()⟩;exact .math w (i1 ()) (i2 ())
 |make p h q i2=>intro e b;obtain⟨e,rfl⟩:∃e',e=e'+1:=⟨e-1,()⟩;exact .make p (λa g=>i2 a g ()) q
 |mat p i g k C i1 i2 n=>intro e b;obtain⟨e,rfl⟩:∃e',e=e'+1:=⟨e-1,()⟩;exact .mat p i (i1 ()) (i2 ()) (n ())
 |rai o g i1=>intro e b;obtain⟨e,rfl⟩:∃e',e=e'+1:=⟨e-1,()⟩;exact .rai o (i1 ())
 |try_ o i g k i1 i2=>intro e b;obtain⟨e,rfl⟩:∃e',e=e'+1:=⟨e-1,()⟩;exact .try_ o i (i1 ()) (i2 ())
 |tell g i1=>intro e b;obtain⟨e,rfl⟩:∃e',e=e'+1:=⟨e-1,()⟩;exact .tell (i1 ())
 |ask=>intro e b;obtain⟨e,rfl⟩:∃e',e=e'+1:=⟨e-1,()⟩;exact .ask
mutual
noncomputable def Pg.pls:Pg->B'
 |.num pl _=>[pl]
 |.nam pl _=>[pl]
 |.fn pl _ b=>pl::b.pls
 |.call pl f as=>pl::(f.pls++Pg.plss as)
 |.lt pl _ a b=>pl::(a.pls++b.pls)
 |.st pl _ a=>pl::a.pls
 |.dd pl a b=>pl::(a.pls++b.pls)
 |.iff pl a b c=>pl::(a.pls++(b.pls++c.pls))
 |.math pl _ a b=>pl::(a.pls++b.pls)
 |.make pl _ as=>pl::Pg.plss as
 |.mat pl a _ _ b c=>pl::(a.pls++(b.pls++c.pls))
 |.rai pl _ a=>pl::a.pls
 |.try_ pl a _ _ b=>pl::(a.pls++b.pls)
 |.tell pl a=>pl::a.pls
 |.ask pl=>[pl]
noncomputable def Pg.plss:B0 Pg->B'
 |[]=>[]
 |a::r=>a.pls++Pg.plss r
end
noncomputable def zBw(h k:Int):Int:=(7*k+h)%600
def Ks(h lo hi:Int)(pls:B'):Prop:=∃ks:B',pls=ks.map (zBw h)/\ks.Nodup/\∀k∈ks,lo<k/\k<=hi
def Ks.nil{h:Int}:Ks h lo hi []:=⟨[],rfl,List.nodup_nil,λ_ z=>(nomatch z)⟩
def Ks.one{h k:Int}(b:lo<k)(a:k<=hi):Ks h lo hi [zBw h k]:=⟨[k],rfl,xCb.mpr ⟨⋯,List.nodup_nil⟩,λq z=>by rw[xAm.mp z];exact⟨b,a⟩⟩
def Ks.app{h:Int}{l r:B'}(a:Ks h lo mi l)(b:Ks h mi hi r)(F:lo<=mi)(C:mi<=hi):Ks h lo hi<|l++r:=by
 let⟨o,rfl,n,g⟩:=a;let⟨p,rfl,i,d⟩:=b;refine⟨o++p,by rw[xAi],xBq.mpr ⟨n,i,λx w y q e=>?_⟩,λk hk=>?_⟩
 .have:=g x w;have:=d y q;lia
 .rcases xAj.mp hk with z|z
  .have:=g k z;lia
  .have:=d k z;lia
def Ks.cons{h k:Int}{r:B'}(g:lo<k)(a:k<=mi)(b:Ks h mi hi r)(d:mi<=hi):Ks h lo hi<|zBw h k::r:=(Ks.one g a).app b () d
structure Iv(pp:Int)(x:Sx):Prop where
 ok:x.ok
 a:x.a=pp-x.k/\0<=pp/\pp<=80
 k:0<=x.k/\x.k<=10000
structure Pt(pp:Int)(N:Str->Prop)(sc:B7)(dm:Nat)(x:Sx)(P:Pg)(x':Sx):Prop where
 wf:Wf N sc dm P
 iv:Iv pp x'
 h:x'.h=x.h
 ks:Ks x.h x.k x'.k P.pls
 lo:x.k<x'.k
 at80:pp<=x.k->x'.k=x.k+1
 hi:x'.k<=x.k+1\/x'.k<=pp+2+6*dm
def vo{sc:B7}{x:Sx}{dm:Nat}(b:Iv pp x)(hk:x.k<10000)(q:sc.length<=1000):∃P x',Pt pp N sc dm x P x'/\Bl x 43 [scU sc] 2 P.u x':=by
 let⟨P,x',o,le,B⟩:=vp (sc:=sc) b.ok b.k q;have r:x'.k=x.k+1:=le.k;have G:x'.a=x.a-1:=le.a;have F:=b.a;have C:=b.k;have p:Ks x.h x.k x'.k [x.pl]:=Ks.one (k:=x.k+1) () ();refine⟨P,x',⟨?_,⟨le.ok,(),()⟩,le.h,?_,(),λ_=>r,.inl ()⟩,B⟩
 .rcases o with ⟨w,i,rfl⟩|⟨n,g,d,rfl⟩
  .exact .nam i
  .exact .num g d
 .rcases o with ⟨w,i,rfl⟩|⟨n,g,d,rfl⟩ <;> exact p
section
variable{pp:Int}{N:Str->Prop}{ws sc:B7}{x x':Sx}{dm:Nat}{dp:Int}
def Bl.up{i a lv':Nat}{as:B8}(b:Bl x i as a v x')(h:a<=lv'):Bl x i as lv' v x':=⟨λ{fw d p S xx K} g hk=>by
 have:=b.h (fw:=fw) (d:=d+(lv'-a)) (xx:=xx) g hk;rw[show d+(lv'-a)+a=d+lv' by lia] at this;exact this⟩
def PH(pp:Int)(N:Str->Prop)(ws:B7)(dm:Nat):Prop:=∀{x:Sx}{sc:B7}{dp:Int},Iv pp x->x.k+40*dm<=2000->sc.length+10*dm<=500->dp<=dm->∃P x',Pt pp N sc dm x P x'/\Bl x 51 [scU ws,scU sc,.int dp] (3*dm+3) P.u x'
structure Pts(pp:Int)(N:Str->Prop)(sc:B7)(dm:Nat)(x:Sx)(as:B0 Pg)(x':Sx):Prop where
 wf:∀a∈as,Wf N sc dm a
 iv:Iv pp x'
 h:x'.h=x.h
 ks:Ks x.h x.k x'.k (Pg.plss as)
 lo:x.k<=x'.k
 at80:pp<=x.k->x'.k=x.k+as.length
 hi:x'.k<=x.k+as.length\/x'.k<=pp+2+6*dm+as.length
theorem pW(H:PH pp N ws dm)(o:sc.length+10*dm<=500)(r:dp<=dm):∀{n:Nat}{x:Sx},Iv pp x->x.k+40*dm+10*n<=2000->n<=4->pp+2+6*dm+40*dm<=1900->∃as x',as.length=n/\Pts pp N sc dm x as x'/\∀{fw d p lo:Nat}{S:So}{K:C6}{ys:B8},at? S p=some (.dct x.kv)->K (.lst<|ys++Pg.us as) (set S p<|.dct x'.kv)->lcK (Gd fw<|d+(3*dm+3)) (zCu [1] true [none,none,some<|.ref p,some<|scU sc,some<|scU ws,some<|.int dp] (Jn 51<|Jo J7 Ja J6 Jf)<|Gd fw<|d+(3*dm+3)) (zB8 (lo:Int) n) ys S K
 | 0,x,g,_,_,_=>⟨[],x,rfl,⟨λ_ z=>(nomatch z),g,rfl,.nil,Int.le_refl _,λ_=>⋯,.inl ⋯⟩,λ{fw d p lo S K ys} h hk=>by
  rw[Pg.us,xB0,zB6 h] at hk;exact hk⟩
 |n+1,x,g,hk,O,J=>by
  let⟨P,C,p1,M⟩:=H (x:=x) (sc:=sc) (dp:=dp) g () o r;have F:=p1.lo;have I:=p1.hi;let⟨as,w,e,q,f⟩:=pW H o r (n:=n) (x:=C) p1.iv () () J;have b:=q.lo;have G:=q.hi;have a1:=p1.at80;have a2:=q.at80;refine⟨P::as,w,by rw[xAo,e],⟨λa ha=>?_,q.iv,q.h.trans p1.h,?_,(),λz=>?_,?_⟩,λ{fw d p lo S K ys} h hk=>?_⟩
  .rcases xAv.mp ha with rfl|ha
   .exact p1.wf
   .exact q.wf a ha
  .have i:=q.ks;rw[p1.h] at i;exact p1.ks.app i () b
  .rw[xAo];have:=a1 z;have:=a2 ();lia
  .rw[xAo];lia
  .erw[M.h h,f (lo:=lo+1) (zAc h)];rw[zAa,xAx];exact hk
def ml(H:PH pp N ws dm)(C:sc.length+10*dm<=500)(F:dp<=dm)(g:Iv pp x)(hk:x.k+40*dm+40<=2000)(M:dm<=20):∃as x',as.length<=4/\Pts pp N sc dm x as x'/\Bl x 44 [scU ws,scU sc,.int dp] (3*dm+4) (.tup<|Pg.us as) x':=by
 have J:=g.a;have b:=x.tk_le (m:=5) g.ok ∅;let⟨I,O⟩:=x.dg_lt (m:=5) ∅;let⟨n,w⟩:=Int.eq_ofNat_of_zero_le I;have i1:Iv pp<|x.tk 5:=⟨b.ok,by rw[b.a,b.k];exact g.a,by rw[b.k];exact g.k⟩
 let⟨as,r,e,q,f⟩:=pW (n:=n) H C F i1 (by rw[b.k];lia) () ();have G:(x.tk 5).k=x.k:=b.k;have o:(x.tk 5).h=x.h:=b.h;erw[<-⟨as,r,(),⟨q.wf,q.iv,by rw[q.h,o],by have:=q.ks;rw[G,o] at this;exact this,by have:=q.lo;lia,λz=>by have:=q.at80 ();lia,by have:=q.hi;lia⟩,⟨λ{fw d p S xx K} h i=>?_⟩⟩,cd ⟨4,4,t44⟩,(cJ g.ok ∅).h h];rw[w];erw[pd (jV ())];rw[xC3];refine bI (λ_=>?_) λz=>?_
 .erw[f (lo:=0) (zAc h)];rw[xC6];erw[pv (.tup<|Pg.us as)];rw[zAa];exact i
 .rw[zA6,xDk<|show n<=sizeLine by show n<=2^24;lia] at z;cases z
end
section
variable{pp:Int}{N:Str->Prop}{ws sc:B7}{x x':Sx}{e:Nat}{dp way:Int}
structure Pn(pp:Int)(N:Str->Prop)(sc:B7)(dm:Nat)(x:Sx)(P:Pg)(x':Sx):Prop where
 wf:Wf N sc dm P
 iv:Iv pp x'
 h:x'.h=x.h
 ks:Ks x.h x.k x'.k P.pls
 lo:x.k<x'.k
 hi:x'.k<=pp+2+6*dm
theorem Iv.nx(h:Iv pp x)(hk:x.k<10000):Iv pp x.nx:=⟨h.ok,by show x.a-1=pp-(x.k+1)/\0<=pp/\pp<=80;have:=h.a;lia,by show 0<=x.k+1/\x.k+1<=10000;have:=h.k;lia⟩
def Iv.le{y:Sx}(h:Iv pp x)(l:x.Le y):Iv pp y:=⟨l.ok,by rw[l.a,l.k];exact h.a,by rw[l.k];exact h.k⟩
def dZ{P:Pg}{r:B'}(g:x.k<pp)(d:P.pls=x.pl::r)(a:Wf N sc (e+1) P)(b:Iv pp x')(h:x'.h=x.h)(ks:Ks x.h (x.k+1) x'.k r)(lo:x.k+1<=x'.k)(hi:x'.k<=pp+8+6*e):Pn pp N sc (e+1) x P x':=by
 refine⟨a,b,h,?_,(),()⟩;rw[d];exact Ks.cons (k:=x.k+1) () (Int.le_refl _) ks lo
def og(b:Iv pp x)(g:x.k<pp):∃P x',Pn pp N sc (e+1) x P x'/\Bl x 49 [scU ws,scU sc,.int dp,.int 2] (3*e+5) P.u x':=by
 have i:=b.a;erw[<-⟨.ask x.pl,x.nx,dZ g rfl .ask (b.nx ()) rfl .nil (Int.le_refl _) (by show x.k+1<=_;lia),⟨λ{fw d p S xx K} h hk=>?_⟩⟩,cd (d:=d+(3*e+4)) ⟨5,9,t49⟩,((cu b.k).up ()).h h,<-pv (.bl false)<|bF<|bF ?_,<-pv (.bl false)<|bF ?_,<-pv (.bl true)<|bT ?_,<-hk]
def lh(H:PH pp N ws e)(he:e<=14)(Q:sc.length+10*e<=500)(R:dp<=e)(g:Iv pp x)(o:x.k<pp):∃P x',Pn pp N sc (e+1) x P x'/\Bl x 49 [scU ws,scU sc,.int dp,.int 1] (3*e+5) P.u x':=by
 have I:=g.a;have i1:=g.nx ();have Z:=g.k;have I:=g.a;have Y:x.nx.k=x.k+1:=rfl;let⟨w,i,O,n,X⟩:=gy i1.ok;have i2:=i1.le n;have M:i.k=x.k+1:=n.k;let⟨as,G,J,q,W⟩:=ml H Q R i2 () ();have a:=q.at80;have b:=q.hi;have c:=q.lo;have C:i.h=x.h:=n.h;erw[<-⟨.make x.pl w as,G,dZ (r:=Pg.plss as) o rfl (.make O q.wf J) q.iv (by rw[q.h,C]) (by have:=q.ks;rw[C,M] at this;exact this) () (),⟨λ{fw d p S xx K} h hk=>?_⟩⟩,cd (d:=d+(3*e+4)) ⟨5,9,t49⟩,((cu g.k).up ()).h h];have F:=zAc (o':=Ob.dct x.nx.kv) h;erw[<-pv (.bl false)<|bF<|bF ?_,<-pv (.bl true)<|bT ?_,(X.up ()).h F];have T:=zAc (o':=Ob.dct i.kv) F;erw[(W.up ()).h T];rw[zAa,zAa];exact hk
end
section
variable{pp:Int}{N:Str->Prop}{ws sc:B7}{x x':Sx}{e:Nat}{dp way:Int}
def oa(H:PH pp N ws e)(he:e<=14)(Q:sc.length+10*e<=500)(R:dp<=e)(g:Iv pp x)(o:x.k<pp)(C:sc.isEmpty=false):∃P x',Pn pp N sc (e+1) x P x'/\Bl x 49 [scU ws,scU sc,.int dp,.int 0] (3*e+5) P.u x':=by
 have J:=g.a;have i1:=g.nx ();have Z:=g.k;have J:=g.a;have Y:x.nx.k=x.k+1:=rfl;have n:0<(sc.length:Int):=by
  cases sc with
  |nil=>cases C
  |cons _ _=>rw[xAo];lia
 have i:=x.nx.tk_le (m:=sc.length) i1.ok n;let⟨w,O,W⟩:=e8 (sc:=sc)<|x.nx.dg_lt n;have i2:=i1.le i;have M:(x.nx.tk sc.length).k=x.k+1:=i.k;have F:(x.nx.tk sc.length).h=x.h:=i.h;let⟨P,I,q,X⟩:=H (x:=x.nx.tk sc.length) (sc:=sc) (dp:=dp) i2 () Q R;have a:=q.at80;have b:=q.hi;have c:=q.lo;erw[<-⟨.st x.pl w P,I,dZ (r:=P.pls) o rfl (.st O q.wf) q.iv (by rw[q.h,F]) (by have:=q.ks;rw[F,M] at this;exact this) () (),⟨λ{fw d p S xx K} h hk=>?_⟩⟩,cd (d:=d+(3*e+4)) ⟨5,9,t49⟩,((cu g.k).up ()).h h];have G:=zAc (o':=Ob.dct x.nx.kv) h;erw[<-pv (.bl true)<|bT ?_,pv (.lst []),pd fM];rw[C];erw[bT,pd dM,((cJ i1.ok ⟨n,()⟩).up ()).h G];have T:=zAc (o':=Ob.dct (x.nx.tk sc.length).kv) G;erw[pd W,(X.up ()).h T];rw[zAa,zAa];exact hk
def jZ(H:PH pp N ws e)(Z:e<=14)(M:sc.length+10*e<=500)(O:dp<=e)(g:Iv pp x)(C:x.k<pp):∃P x',Pn pp N sc (e+1) x P x'/\Bl x 49 [scU ws,scU sc,.int dp,.int 3] (3*e+5) P.u x':=by
 have G:=g.a;have i1:=g.nx ();have Y:=g.k;have G:=g.a;have X:x.nx.k=x.k+1:=rfl;let⟨P,n,q,W⟩:=H (x:=x.nx) (sc:=sc) (dp:=dp) i1 () M O;let⟨w,i,J,o,T⟩:=gy q.iv.ok;have a:=q.at80;have b:=q.hi;have c:=q.lo;have I:i.k=n.k:=o.k;have Q:i.h=n.h:=o.h;erw[<-⟨.rai x.pl w P,i,dZ (r:=P.pls) C rfl (.rai J q.wf) (q.iv.le o) (by rw[Q,q.h];rfl) (by have:=q.ks;rw[I];exact this) () (),⟨λ{fw d p S xx K} h hk=>?_⟩⟩,cd (d:=d+(3*e+4)) ⟨5,9,t49⟩,((cu g.k).up ()).h h];have F:=zAc (o':=Ob.dct x.nx.kv) h;erw[<-pv (.bl false)<|bF<|bF<|pv (.bl false)<|bF<|pv (.bl false)<|bF ?_,(W.up ()).h F];have R:=zAc (o':=Ob.dct n.kv) F;erw[<-pv (.bl true)<|bT ?_,(T.up ()).h R];rw[zAa,zAa];exact hk
def lj(H:PH pp N ws e)(X:e<=14)(o:sc.length+10*e<=500)(w:dp<=e)(g:Iv pp x)(i:x.k<pp):∃P x',Pn pp N sc (e+1) x P x'/\Bl x 49 [scU ws,scU sc,.int dp,.int 4] (3*e+5) P.u x':=by
 have I:=g.a;have i1:=g.nx ();have W:=g.k;have I:=g.a;have T:x.nx.k=x.k+1:=rfl;let⟨P,n,q,R⟩:=H (x:=x.nx) (sc:=sc) (dp:=dp) i1 () o w;have a:=q.at80;have b:=q.hi;have c:=q.lo;let⟨as,G,J,r,Q⟩:=ml H o w q.iv () ();have Z:=r.at80;have Y:=r.hi;have O:=r.lo;have C:n.h=x.h:=q.h;erw[<-⟨.call x.pl P as,G,dZ (r:=P.pls++Pg.plss as) i rfl (.call q.wf r.wf J) r.iv (by rw[r.h,C]) (by have k:=r.ks;rw[C] at k;exact Ks.app q.ks k () O) () (),⟨λ{fw d p S xx K} h hk=>?_⟩⟩,cd (d:=d+(3*e+4)) ⟨5,9,t49⟩,((cu g.k).up ()).h h];have F:=zAc (o':=Ob.dct x.nx.kv) h;erw[<-pv (.bl false)<|bF<|bF<|pv (.bl false)<|bF<|pv (.bl false)<|bF ?_,(R.up ()).h F];have M:=zAc (o':=Ob.dct n.kv) F;erw[<-pv (.bl false)<|bF<|pv (.bl true)<|bT ?_,(Q.up ()).h M];rw[zAa,zAa];exact hk
def ld(H:PH pp N ws e)(M:e<=14)(w:sc.length+10*e<=500)(C:dp<=e)(g:Iv pp x)(i:x.k<pp):∃P x',Pn pp N sc (e+1) x P x'/\Bl x 49 [scU ws,scU sc,.int dp,.int 5] (3*e+5) P.u x':=by
 have o:=g.a;have i1:=g.nx ();have J:=g.k;have o:=g.a;have I:x.nx.k=x.k+1:=rfl;let⟨P,n,q,G⟩:=H (x:=x.nx) (sc:=sc) (dp:=dp) i1 () w C;have a:=q.at80;have b:=q.hi;have c:=q.lo;erw[<-⟨.tell x.pl P,n,dZ (r:=P.pls) i rfl (.tell q.wf) q.iv q.h q.ks () (),⟨λ{fw d p S xx K} h hk=>?_⟩⟩,cd (d:=d+(3*e+4)) ⟨5,9,t49⟩,((cu g.k).up ()).h h];have F:=zAc (o':=Ob.dct x.nx.kv) h;erw[<-pv (.bl false)<|bF<|bF<|pv (.bl false)<|bF<|pv (.bl false)<|bF ?_,(G.up ()).h F,<-pv (.bl false)<|bF<|pv (.bl false)<|bF<|pv (.bl true)<|bT ?_];rw[zAa];exact hk
def qp(H:PH pp N ws e)(he:e<=14)(o:sc.length+10*e<=500)(w:dp<=e)(g:Iv pp x)(C:x.k<pp):∃P x',Pn pp N sc (e+1) x P x'/\Bl x 49 [scU ws,scU sc,.int dp,.int 6] (3*e+5) P.u x':=by
 have T:=g.a;have i1:=g.nx ();have k0:=g.k;have T:=g.a;have k1:x.nx.k=x.k+1:=rfl;let⟨P,n,q,Z⟩:=H (x:=x.nx) (sc:=sc) (dp:=dp) i1 () o w;have a:=q.at80;have b:=q.hi;have c:=q.lo;let⟨Q,i,r,Y⟩:=H (x:=n) (sc:=sc) (dp:=dp) q.iv () o w;have a':=r.at80;have b':=r.hi;have c':=r.lo;let⟨R,O,t,X⟩:=H (x:=i) (sc:=sc) (dp:=dp) r.iv () o w;have a'':=t.at80;have b'':=t.hi;have c'':=t.lo;have I:n.h=x.h:=q.h;have G:i.h=x.h:=r.h.trans I;erw[<-⟨.iff x.pl P Q R,O,dZ (r:=P.pls++(Q.pls++R.pls)) C rfl (.iff q.wf r.wf t.wf) t.iv (by rw[t.h,G]) (by have k:=r.ks;rw[I] at k;have F:=t.ks;rw[G] at F;exact Ks.app q.ks (k.app F () ()) () ()) () (),⟨λ{fw d p S xx K} h hk=>?_⟩⟩,cd (d:=d+(3*e+4)) ⟨5,9,t49⟩,((cu g.k).up ()).h h];have M:=zAc (o':=Ob.dct x.nx.kv) h;erw[<-pv (.bl false)<|bF<|bF<|pv (.bl false)<|bF<|pv (.bl false)<|bF ?_,(Z.up ()).h M];have J:=zAc (o':=Ob.dct n.kv) M;erw[<-pv (.bl false)<|bF<|pv (.bl false)<|bF<|pv (.bl false)<|bF ?_,(Y.up ()).h J];have W:=zAc (o':=Ob.dct i.kv) J;erw[<-pv (.bl true)<|bT ?_,(X.up ()).h W];rw[zAa,zAa,zAa];exact hk
end
section
variable{pp:Int}{N:Str->Prop}{ws sc:B7}{x x':Sx}{e:Nat}{dp way:Int}
def wD(H:PH pp N ws e)(he:e<=14)(O:sc.length+10*e<=500)(R:dp<=e)(G:Iv pp x)(w:x.k<pp)(hw:way=0\/7<=way):∃P x',Pn pp N sc (e+1) x P x'/\∀{fw d p:Nat}{S:So}{xx:C7}{K:C6}{a6 a7 a8:B1 U},at? S p=some (.dct x.nx.kv)->K P.u (set S p<|.dct x'.kv)->zG5 (Gd fw<|d+(3*e+4)) [some<|.ref p,some<|scU ws,some<|scU sc,some<|.int dp,some<|.int way,some<|.int x.pl,a6,a7,a8] S (zAk xx K):=by
 have Z:=G.a;have i1:=G.nx ();have k0:=G.k;have Z:=G.a;have k1:x.nx.k=x.k+1:=rfl;let⟨P,F,q,Y⟩:=H (x:=x.nx) (sc:=sc) (dp:=dp) i1 () O R;have a:=q.at80;have b:=q.hi;have c:=q.lo;let⟨Q,g,r,X⟩:=H (x:=F) (sc:=sc) (dp:=dp) q.iv () O R;have a':=r.at80;have b':=r.hi;have c':=r.lo;have W:F.h=x.h:=q.h;have T:g.h=x.h:=r.h.trans W;have M:Ks x.h (x.k+1) g.k<|P.pls++Q.pls:=by
  have k:=r.ks;rw[W] at k;exact Ks.app q.ks k () ()
 have n:∀{j:Int},j=3\/j=4\/j=5\/j=6->decide (way=j)=false:=λ{j} hj=>xCn ();by_cases h9:way<9
 .have J:=g.tk_le (m:=5) r.iv.ok ∅;let⟨o,ho,eo⟩:=e8 (sc:=ops) (i:=g.dg 5) (g.dg_lt (m:=5) ∅);have k4:(g.tk 5).k=g.k:=J.k;have h4:(g.tk 5).h=g.h:=J.h;erw[<-⟨.math x.pl o P Q,g.tk 5,dZ (r:=P.pls++Q.pls) w rfl (.math ho q.wf r.wf) (r.iv.le J) (by rw[h4,T]) (by rw[k4];exact M) () (),λ{fw d p S xx K a6 a7 a8} C hk=>?_⟩,(Y.up ()).h C];have I:=zAc (o':=Ob.dct F.kv) C;erw[pd cL];rw[n<|.inl rfl];refine bF<|pd cL ?_;rw[n<|.inr<|.inl rfl];refine bF<|pd cL ?_;rw[n<|.inr<|.inr<|.inl rfl];erw[bF,(X.up ()).h I];have g3:=zAc (o':=Ob.dct g.kv) I;erw[pd cL];rw[n<|.inr<|.inr<|.inr rfl];erw[bF,pv (.bl<|decide<|way<9)];rw[xBd h9];erw[bT,pv (scU ops),((cJ r.iv.ok ∅).up ()).h g3,pd eo];rw[zAa,zAa];exact hk
 .erw[<-⟨.dd x.pl P Q,g,dZ (r:=P.pls++Q.pls) w rfl (.dd q.wf r.wf) r.iv T M () (),λ{fw d p S xx K a6 a7 a8} C hk=>?_⟩,(Y.up ()).h C];have I:=zAc (o':=Ob.dct F.kv) C;erw[pd cL];rw[n<|.inl rfl];refine bF<|pd cL ?_;rw[n<|.inr<|.inl rfl];refine bF<|pd cL ?_;rw[n<|.inr<|.inr<|.inl rfl];erw[bF,(X.up ()).h I,pd cL];rw[n<|.inr<|.inr<|.inr rfl];erw[bF,pv (.bl<|decide<|way<9)];rw[xCn h9];erw[bF];rw[zAa];exact hk
def qr(H:PH pp N ws e)(i:e<=14)(g:sc.length+10*e<=500)(n:dp<=e)(b:Iv pp x)(a:x.k<pp)(C:0<=way/\way<12):∃P x',Pn pp N sc (e+1) x P x'/\Bl x 49 [scU ws,scU sc,.int dp,.int way] (3*e+5) P.u x':=by
 have o:(way=0/\sc.isEmpty=true\/7<=way)->∃P x',Pn pp N sc (e+1) x P x'/\Bl x 49 [scU ws,scU sc,.int dp,.int way] (3*e+5) P.u x':=λr=>by
  let⟨P,x',q,f⟩:=wD (way:=way) H i g n b a ();erw[<-⟨P,x',q,⟨λ{fw d p S xx K} h hk=>?_⟩⟩,cd (d:=d+(3*e+4)) ⟨5,9,t49⟩,((cu b.k).up ()).h h];have w:=zAc (o':=Ob.dct x.nx.kv) h;erw[pd cL];have go:(sQ (J9 (Jd Ja Ji)<|J5<|Jv (J2 "make") Jf (Jb 48 J0)<|Jn 44<|Jo J0 J3 J7 J6)<|sQ (J9 (Jd Ja Jq)<|J5<|Y2 (J2 "ask") Jf) zG5) (Gd fw<|d+(3*e+4)) [some<|.ref p,some<|scU ws,some<|scU sc,some<|.int dp,some<|.int way,some<|.int x.pl,none,none,none] (set S p<|.dct x.nx.kv)<|zAk xx K:=by
   erw[pd cL];rw[xCn ()];refine bF<|pd cL ?_;rw[xCn ()];erw[bF];exact f w (by rw[zAa];exact hk)
  by_cases h0:way=0
  .rw[xBd h0];erw[bT,pv (.lst []),pd fM];rw[show sc.isEmpty=true by rcases r with z|z;exact z.2;lia];erw[bF];exact go
  .rw[xCn h0];refine bF<|bF ?_;exact go
 rcases(show way=0\/way=1\/way=2\/way=3\/way=4\/way=5\/way=6\/7<=way by lia) with h|h|h|h|h|h|h|h
 .cases hs:sc.isEmpty with
  |true=>exact o (.inl ⟨h,hs⟩)
  |false=>rw[h];exact oa H i g n b a hs
 .rw[h];exact lh H i g n b a
 .rw[h];exact og b a
 .rw[h];exact jZ H i g n b a
 .rw[h];exact lj H i g n b a
 .rw[h];exact ld H i g n b a
 .rw[h];exact qp H i g n b a
 .exact o<|.inr h
end
section
variable{pp:Int}{N:Str->Prop}{ws sc:B7}{x x':Sx}{e:Nat}{dp way:Int}
def fc{xs:B7}(h:sc.length+xs.length<=1000):pr ups (.add false) [scU sc,scU xs] S=.ok (scU<|sc++xs) S:=by
 show fits ((sc.map U.str).length+(xs.map U.str).length) (.ok (.lst<|sc.map .str++xs.map .str) S)=_;rw[zBd (by rw[xAa,xAa];show _<=2^24;lia),<- xAi];rfl
def qi{xs:B7}:pr ups (.lstOf false) [.tup<|xs.map .str] S=.ok (scU xs) S:=rfl
def Nms.z{xs:B7}(h:Nms ws xs)(b:∀y∈ws,N y):Nmz N xs:=⟨λy a=>b y<|h.sub y a,h.few,h.nd⟩
def gK(o:Iv pp x)(hk:x.k<9000)(G:3<=ws.length/\ws.length<=6)(F:ws.Nodup):∃xs y q,Nms ws xs/\y∈ws/\x.nx.Le q/\∀{fw d p:Nat}{S:So}{xx:C7}{K:C6}{dp way:Int},at? S p=some (.dct x.kv)->rz5 (Gd fw<|d+2) [some<|.ref p,some<|scU ws,some<|scU sc,some<|.int dp,some<|.int way,some<|.int x.pl,some<|.tup<|xs.map .str,some<|.str y,none,none,none] (set S p<|.dct q.kv) (zAk xx K)->(Gd fw<|d+3).call 47 [.ref p,scU ws,scU sc,.int dp,.int way] S xx K:=by
 have M:=o.a;have i1:=o.nx ();let⟨xs,b,n,g,J⟩:=iw (ws:=ws) i1.ok G F;have w:=b.tk_le (m:=ws.length) g.ok ();let⟨y,C,I⟩:=e8 (sc:=ws) (i:=b.dg ws.length) (b.dg_lt (m:=ws.length) ());erw[<-⟨xs,y,b.tk ws.length,n,C,g.trans w,λ{fw d p S xx K dp way} h hk=>?_⟩,cd (d:=d+2) ⟨5,11,t47⟩,((cu o.k).up ()).h h];have r:=zAc (o':=Ob.dct x.nx.kv) h;erw[J.h r];have H:=zAc (o':=Ob.dct b.kv) r;erw[pd dM,((cJ g.ok ⟨(),()⟩).up ()).h H,pd I];rw[zAa,zAa];exact hk
end
section
variable{pp:Int}{N:Str->Prop}{ws sc:B7}{x x':Sx}{e:Nat}{dp way:Int}
def bind_fn(H:PH pp N ws e)(R:∀y∈ws,N y)(T:3<=ws.length/\ws.length<=6)(O:ws.Nodup)(he:e<=14)(hl:sc.length+10*(e+1)<=500)(Q:dp<=e)(i:Iv pp x)(w:x.k<pp):∃P x',Pn pp N sc (e+1) x P x'/\Bl x 47 [scU ws,scU sc,.int dp,.int 0] (3*e+5) P.u x':=by
 have I:=i.a;have i1:=i.nx ();have k0:=i.k;have I:=i.a;have Z:x.nx.k=x.k+1:=rfl;let⟨C,y,n,g,hy,o,f⟩:=gK (sc:=sc) i () T O;have M:=i1.le o;have J:n.k=x.k+1:=o.k;have F:n.h=x.h:=o.h;have X:=g.few;let⟨P,G,q,Y⟩:=H (x:=n) (sc:=sc++C) (dp:=dp) M () (by rw[xAb];lia) Q;have a:=q.at80;have b:=q.hi;have c:=q.lo;erw[<-⟨.fn x.pl C P,G,dZ (r:=P.pls) w rfl (.fn (g.z R) q.wf) q.iv (by rw[q.h,F]) (by have:=q.ks;rw[F,J] at this;exact this) () (),⟨λ{fw d p S xx K} h hk=>?_⟩⟩,f (d:=d+(3*e+2)) h];have W:=zAc (o':=Ob.dct n.kv) h;erw[<-pv (.bl true)<|bT ?_,pd qi,pd (fc ()),(Y.up (lv':=3*e+4) ()).h (d:=d) W];rw[zAa];exact hk
def tj(H:PH pp N ws e)(Z:∀y∈ws,N y)(h5:3<=ws.length/\ws.length<=6)(Y:ws.Nodup)(he:e<=14)(hl:sc.length+10*(e+1)<=500)(F:dp<=e)(g:Iv pp x)(w:x.k<pp):∃P x',Pn pp N sc (e+1) x P x'/\Bl x 47 [scU ws,scU sc,.int dp,.int 1] (3*e+5) P.u x':=by
 have O:=g.a;have i1:=g.nx ();have k0:=g.k;have O:=g.a;have k1:x.nx.k=x.k+1:=rfl;let⟨xs,y,i,X,W,o,f⟩:=gK (sc:=sc) g () h5 Y;have T:=i1.le o;have R:i.k=x.k+1:=o.k;have I:i.h=x.h:=o.h;let⟨P,n,q,b4⟩:=H (x:=i) (sc:=sc) (dp:=dp) T () () F;have a:=q.at80;have b:=q.hi;have c:=q.lo;let⟨Q,M,r,b5⟩:=H (x:=n) (sc:=sc++[y]) (dp:=dp) q.iv () (by rw[xAb,xAt];lia) F;have a':=r.at80;have b':=r.hi;have c':=r.lo;have G:n.h=x.h:=q.h.trans I;erw[<-⟨.lt x.pl y P Q,M,dZ (r:=P.pls++Q.pls) w rfl (.lt (Z y W) q.wf r.wf) r.iv (by rw[r.h,G]) (by have k:=r.ks;rw[G] at k;have C:=q.ks;rw[I,R] at C;exact Ks.app C k () ()) () (),⟨λ{fw d p S xx K} h hk=>?_⟩⟩,f (d:=d+(3*e+2)) h];have J:=zAc (o':=Ob.dct i.kv) h;erw[<-pv (.bl false)<|bF<|pv (.bl true)<|bT ?_,(b4.up (lv':=3*e+4) ()).h (d:=d) J];have g4:=zAc (o':=Ob.dct n.kv) J;erw[pv (scU [y]),pd (fc<|by rw[xAt];lia),(b5.up (lv':=3*e+4) ()).h (d:=d) g4];rw[zAa,zAa];exact hk
def td(H:PH pp N ws e)(hN:∀y∈ws,N y)(h5:3<=ws.length/\ws.length<=6)(hn:ws.Nodup)(he:e<=14)(hl:sc.length+10*(e+1)<=500)(J:dp<=e)(i:Iv pp x)(M:x.k<pp):∃P x',Pn pp N sc (e+1) x P x'/\Bl x 47 [scU ws,scU sc,.int dp,.int 2] (3*e+5) P.u x':=by
 have pa:=i.a;have i1:=i.nx ();have k0:=i.k;have pa:=i.a;have k1:x.nx.k=x.k+1:=rfl;let⟨O,y,x3,g,hy,I,f⟩:=gK (sc:=sc) i () h5 hn;have few:=g.few;have W:=i1.le I;let⟨w,o,hw,G,b4⟩:=gy W.ok;have i4:=W.le G;have k4:o.k=x.k+1:=G.k.trans I.k;have Y:o.h=x.h:=G.h.trans I.h;let⟨P,F,q,b5⟩:=H (x:=o) (sc:=sc) (dp:=dp) i4 () () J;have a:=q.at80;have b:=q.hi;have c:=q.lo;let⟨Q,C,r,b6⟩:=H (x:=F) (sc:=sc++O) (dp:=dp) q.iv () (by rw[xAb];lia) J;have a':=r.at80;have b':=r.hi;have c':=r.lo;let⟨R,x7,t,b7⟩:=H (x:=C) (sc:=sc) (dp:=dp) r.iv () () J;have a'':=t.at80;have b'':=t.hi;have c'':=t.lo;have n:F.h=x.h:=q.h.trans Y;have X:C.h=x.h:=r.h.trans n;erw[<-⟨.mat x.pl P w O Q R,x7,dZ (r:=P.pls++(Q.pls++R.pls)) M rfl (.mat hw (g.z hN) q.wf r.wf t.wf) t.iv (by rw[t.h,X]) (by have k:=r.ks;rw[n] at k;have T:=t.ks;rw[X] at T;have k'':=q.ks;rw[Y,k4] at k'';exact Ks.app k'' (k.app T () ()) () ()) () (),⟨λ{fw d p S xx K} h hk=>?_⟩⟩,f (d:=d+(3*e+2)) h];have g3:=zAc (o':=Ob.dct x3.kv) h;erw[<-pv (.bl false)<|bF<|pv (.bl false)<|bF ?_,(b4.up (lv':=3*e+4) ()).h (d:=d) g3];have g4:=zAc (o':=Ob.dct o.kv) g3;erw[(b5.up (lv':=3*e+4) ()).h (d:=d) g4];have Z:=zAc (o':=Ob.dct F.kv) g4;erw[<-pv (.bl true)<|bT ?_,pd qi,pd (fc ()),(b6.up (lv':=3*e+4) ()).h (d:=d) Z];have g6:=zAc (o':=Ob.dct C.kv) Z;erw[(b7.up (lv':=3*e+4) ()).h (d:=d) g6];rw[zAa,zAa,zAa,zAa];exact hk
def sY(H:PH pp N ws e)(hN:∀y∈ws,N y)(h5:3<=ws.length/\ws.length<=6)(hn:ws.Nodup)(he:e<=14)(hl:sc.length+10*(e+1)<=500)(M:dp<=e)(g:Iv pp x)(G:x.k<pp)(J:3<=way):∃P x',Pn pp N sc (e+1) x P x'/\Bl x 47 [scU ws,scU sc,.int dp,.int way] (3*e+5) P.u x':=by
 have Y:=g.a;have i1:=g.nx ();have k0:=g.k;have Y:=g.a;have k1:x.nx.k=x.k+1:=rfl;let⟨xs,y,X,hxs,hy,F,f⟩:=gK (sc:=sc) g () h5 hn;have I:=i1.le F;let⟨w,n,J,C,b4⟩:=gy I.ok;have i4:=I.le C;have Z:n.k=x.k+1:=C.k.trans F.k;have O:n.h=x.h:=C.h.trans F.h;let⟨P,o,q,b5⟩:=H (x:=n) (sc:=sc) (dp:=dp) i4 () () M;have a:=q.at80;have b:=q.hi;have c:=q.lo;let⟨Q,W,r,b6⟩:=H (x:=o) (sc:=sc++[y]) (dp:=dp) q.iv () (by rw[xAb,xAt];lia) M;have a':=r.at80;have b':=r.hi;have c':=r.lo;have i:o.h=x.h:=q.h.trans O;erw[<-⟨.try_ x.pl P w y Q,W,dZ (r:=P.pls++Q.pls) G rfl (.try_ J (hN y hy) q.wf r.wf) r.iv (by rw[r.h,i]) (by have k:=r.ks;rw[i] at k;have k'':=q.ks;rw[O,Z] at k'';exact Ks.app k'' k () ()) () (),⟨λ{fw d p S xx K} h hk=>?_⟩⟩,f (d:=d+(3*e+2)) h];have T:=zAc (o':=Ob.dct X.kv) h;erw[pd cL];rw[xCn ()];refine bF<|pd cL ?_;rw[xCn ()];erw[bF,(b4.up (lv':=3*e+4) ()).h (d:=d) T];have R:=zAc (o':=Ob.dct n.kv) T;erw[(b5.up (lv':=3*e+4) ()).h (d:=d) R];have g5:=zAc (o':=Ob.dct o.kv) R;erw[pd cL];rw[xCn ()];erw[bF,pv (scU [y]),pd (fc<|by rw[xAt];lia),(b6.up (lv':=3*e+4) ()).h (d:=d) g5];rw[zAa,zAa,zAa];exact hk
def vm(H:PH pp N ws e)(o:∀y∈ws,N y)(p:3<=ws.length/\ws.length<=6)(d:ws.Nodup)(i:e<=14)(g:sc.length+10*(e+1)<=500)(n:dp<=e)(b:Iv pp x)(a:x.k<pp)(q:0<=way):∃P x',Pn pp N sc (e+1) x P x'/\Bl x 47 [scU ws,scU sc,.int dp,.int way] (3*e+5) P.u x':=by
 rcases(show way=0\/way=1\/way=2\/3<=way by lia) with h|h|h|h
 .rw[h];exact bind_fn H o p d i g n b a
 .rw[h];exact tj H o p d i g n b a
 .rw[h];exact td H o p d i g n b a
 .exact sY H o p d i g n b a h
end
section
variable{pp:Int}{N:Str->Prop}{ws sc:B7}{x x':Sx}{e:Nat}{dp way:Int}
def Ks.ins{h:Int}{l m r:B'}(a:Ks h lo mi<|l++r)(b:Ks h mi hi m)(K:lo<=mi)(J:mi<=hi):Ks h lo hi<|l++(m++r):=by
 let⟨I,e,C,g⟩:=a;let⟨H,rfl,w,n⟩:=b;let⟨G,F,rfl,rfl,rfl⟩:=List.map_eq_append_iff.mp e.symm;let⟨q,p,o⟩:=xBq.mp C;refine⟨G++(H++F),by rw[xAi,xAi],xBq.mpr ⟨q,xBq.mpr ⟨w,p,λx d y i e=>?_⟩,λx d y i e=>?_⟩,λk hk=>?_⟩
 .have:=g y<|xBt _ i;have:=n x d;lia
 .rcases xAj.mp i with z|z
  .have:=g x<|xBw _ d;have:=n y z;lia
  .exact o x d y z e
 .rcases xAj.mp hk with z|z
  .have:=g k<|xBw _ z;lia
  .rcases xAj.mp z with z|z
   .have:=n k z;lia
   .have:=g k<|xBt _ z;lia
def eJ{a b:Int}:pr ups .sub [.int a,.int b] S=.ok (.int<|a-b) S:=rfl
theorem pU{y:Str}(H:PH pp N ws e)(i:(sc++[y]).length+10*e<=500)(I:dp<=e+3):∀{xs:B7}{x:Sx},Iv pp x->x.k+40*e+10*xs.length<=2000->xs.length<=4->pp+2+6*e+40*e<=1900->∃as x',as.length=xs.length/\Pts pp N (sc++[y]) e x as x'/\∀{fw d p:Nat}{S:So}{K:C6}{ys:B8},at? S p=some (.dct x.kv)->K (.lst<|ys++Pg.us as) (set S p<|.dct x'.kv)->lcK (Gd fw<|d+(3*e+4)) (zCu [1] true [none,none,some<|.ref p,some<|scU sc,some<|scU ws,some<|.str y,some<|.int dp] (Jn 51<|Jo J7 Ja (J1 (.add false) J6<|J4 (.lst false) Jf)<|J1 .sub Jm Jx)<|Gd fw<|d+(3*e+4)) (xs.map .str) ys S K
 | [],x,g,_,_,_=>⟨[],x,rfl,⟨λ_ z=>(nomatch z),g,rfl,.nil,Int.le_refl _,λ_=>⋯,.inl ⋯⟩,λ{fw d p S K ys} h hk=>by
  rw[Pg.us,xB0,zB6 h] at hk;exact hk⟩
 |z::xs,x,g,hk,C,J=>by
  rw[xAo] at hk C;let⟨P,r,p1,M⟩:=H (x:=x) (sc:=sc++[y]) (dp:=dp-3) g () i ();have w:=p1.lo;have G:=p1.hi;let⟨as,o,e',q,f⟩:=pU H i I (xs:=xs) (x:=r) p1.iv () () J;have b:=q.lo;have F:=q.hi;have a1:=p1.at80;have a2:=q.at80;refine⟨P::as,o,by rw[xAo,xAo,e'],⟨λa ha=>?_,q.iv,q.h.trans p1.h,?_,(),λz=>?_,?_⟩,λ{fw d p S K ys} h hk=>?_⟩
  .rcases xAv.mp ha with rfl|ha
   .exact p1.wf
   .exact q.wf a ha
  .have n:=q.ks;rw[p1.h] at n;exact p1.ks.app n () b
  .rw[xAo];have:=a1 z;have:=a2 ();lia
  .rw[xAo];lia
  .erw[pv (scU [y]),pd (fc<|by rw[xAb] at i;lia),pd eJ,(M.up (lv':=3*e+4) ()).h (d:=d) h,f (zAc h)];rw[zAa,xAx];exact hk
end
section
variable{pp:Int}{N:Str->Prop}{ws sc:B7}{x x':Sx}{e:Nat}{dp way:Int}
def oJ(H:PH pp N ws e)(T:∀y∈ws,N y)(h5:3<=ws.length/\ws.length<=6)(hn:ws.Nodup)(he:e<=11)(hl:sc.length+10*(e+3)<=500)(hd:dp<=e+3)(G:Iv pp x)(h80:x.k<pp):∃P x',Pn pp N sc (e+3) x P x'/\Bl x 50 [scU ws,scU sc,.int dp] (3*e+5) P.u x':=by
 have k0:=G.k;have pa:=G.a;have l1:=x.tk_le (m:=ws.length) G.ok ();let⟨y,hy,ey⟩:=e8 (sc:=ws) (i:=x.dg ws.length) (x.dg_lt (m:=ws.length) ());let⟨xs,x2,F,O,b2⟩:=iw (ws:=ws) l1.ok h5 hn;have Q:=l1.trans O;have Y:=F.few;have i2:=G.le Q;have k2:x2.k=x.k:=Q.k;have X:x2.h=x.h:=Q.h;have j2:=i2.nx ();have m2:x2.nx.k=x.k+1:=by show x2.k+1=_;lia
 let⟨B,x3,q,b3⟩:=H (x:=x2.nx) (sc:=sc++xs) (dp:=dp-3) j2 () (by rw[xAb];lia) ();have a:=q.at80;have b:=q.hi;have c:=q.lo;have W:x3.h=x.h:=q.h.trans X;have j3:=q.iv.nx ();have m3:x3.nx.k=x3.k+1:=rfl;let⟨as,x5,n4,r,f⟩:=pU (sc:=sc) (y:=y) (dp:=dp) (xs:=xs) (x:=x3.nx) H (by rw[xAb,xAt];lia) hd j3 () Y ();have a':=r.at80;have b':=r.hi;have c':=r.lo;have n:x5.h=x.h:=r.h.trans W;have j5:=r.iv.nx ();have m5:x5.nx.k=x5.k+1:=rfl;have I:=j5.nx ();have m6:x5.nx.nx.k=x5.k+2:=by show x5.k+1+1=_;lia
 have M:=x5.nx.nx.tk_le (m:=2) I.ok ∅;have R:=I.le M;have m7:(x5.nx.nx.tk 2).k=x5.k+2:=M.k.trans m6;have J:(x5.nx.nx.tk 2).h=x.h:=M.h.trans n;have k3:Ks x.h x.k x3.k<|x2.pl::B.pls:=by
  have k:=q.ks;rw[m2,show x2.nx.h=x.h from X] at k;have:=Ks.cons (h:=x.h) (lo:=x.k) (k:=x.k+1) () (Int.le_refl _) k ();rw[show x2.pl=zBw x.h (x.k+1) by show zBw x2.h (x2.k+1)=_;rw[X,k2]];exact this
 have k4:Ks x.h x.k (x3.k+1)<|x3.pl::(x2.pl::B.pls):=by
  have o:Ks x.h x3.k (x3.k+1) [x3.pl]:=by
   rw[show x3.pl=zBw x.h (x3.k+1) by show zBw x3.h (x3.k+1)=_;rw[W]];exact Ks.one () ()
  exact Ks.ins (l:=[]) k3 o () ()
 have kC:Ks x.h (x3.k+1) (x5.k+2)<|x5.pl::x5.nx.pl::Pg.plss as:=by
  have k:=r.ks;rw[m3,show x3.nx.h=x.h from W] at k;have o:Ks x.h x5.k (x5.k+2) [x5.pl,x5.nx.pl]:=by
   rw[show x5.pl=zBw x.h (x5.k+1) by show zBw x5.h (x5.k+1)=_;rw[n],show x5.nx.pl=zBw x.h (x5.k+2) by show zBw x5.h (x5.k+1+1)=_;rw[n];exact congrArg _ ()];exact Ks.cons () (Int.le_refl _) (Ks.one () ()) ()
  exact Ks.ins (l:=[]) k o () ()
 have wF:Wf N sc (e+2)<|.fn x2.pl xs B:=(Wf.fn (F.z T) q.wf).up ();have wC:Wf N (sc++[y]) (e+1)<|.call x5.pl (.nam x5.nx.pl y) as:=.call (.nam ⋯) r.wf ();have C:∀{fw d p:Nat}{S:So}{xx:C7}{K:C6},at? S p=some (.dct x.kv)->(at? (set S p<|.dct x5.nx.nx.kv) p=some (.dct x5.nx.nx.kv)->rz2 (Gd fw<|d+(3*e+4)) [some<|.ref p,some<|scU ws,some<|scU sc,some<|.int dp,some<|.str y,some<|.tup<|xs.map .str,some<|Pg.u<|.fn x2.pl xs B,some<|.int x3.pl,some<|.tup<|Pg.us as,some<|Pg.u<|.call x5.pl (.nam x5.nx.pl y) as] (set S p<|.dct x5.nx.nx.kv) (zAk xx K))->(Gd fw<|d+(3*e+5)).call 50 [.ref p,scU ws,scU sc,.int dp] S xx K:=λ{fw d p S xx K} h hk=>by
  erw[cd (d:=d+(3*e+4)) ⟨4,10,t50⟩,pd dM,((cJ G.ok ⟨(),()⟩).up (lv':=3*e+4) ()).h (d:=d) h];have g1:=zAc (o':=Ob.dct (x.tk ws.length).kv) h;erw[pd ey,(b2.up (lv':=3*e+4) ()).h (d:=d) g1];have g2:=zAc (o':=Ob.dct x2.kv) g1;erw[((cu i2.k).up (lv':=3*e+4) ()).h (d:=d) g2];have g3:=zAc (o':=Ob.dct x2.nx.kv) g2;erw[pd qi,pd (fc ()),pd eJ,(b3.up (lv':=3*e+4) ()).h (d:=d) g3];have g4:=zAc (o':=Ob.dct x3.kv) g3;erw[((cu q.iv.k).up (lv':=3*e+4) ()).h (d:=d) g4];have g5:=zAc (o':=Ob.dct x3.nx.kv) g4;erw[pv (.tup<|xs.map .str),<-bI (λ_=>?_) λz=>?_]
  .erw[f g5];rw[xC6];erw[pv (.tup<|Pg.us as)];have g6:=zAc (o':=Ob.dct x5.kv) g5;erw[((cu r.iv.k).up (lv':=3*e+4) ()).h (d:=d) g6];have g7:=zAc (o':=Ob.dct x5.nx.kv) g6;erw[((cu j5.k).up (lv':=3*e+4) ()).h (d:=d) g7];rw[zAa,zAa,zAa,zAa,zAa,zAa,zAa];exact hk<|zAc h
  .rw[xAa,xDk<|show xs.length<=sizeLine by show _<=2^24;lia] at z;cases z
 by_cases hb:x5.nx.nx.dg 2=1
 .let⟨D,w,t,Z⟩:=H (x:=(x5.nx.nx.tk 2).nx) (sc:=sc++[y]) (dp:=dp-3) (R.nx ()) (by show(x5.nx.nx.tk 2).k+1+_<=_;lia) (by rw[xAb,xAt];lia) ();have m8:(x5.nx.nx.tk 2).nx.k=x5.k+3:=by show(x5.nx.nx.tk 2).k+1=_;lia
  have a'':=t.at80;have b'':=t.hi;have c'':=t.lo;have kD:Ks x.h (x3.k+1) w.k<|(x5.nx.nx.tk 2).pl::(x5.pl::x5.nx.pl::Pg.plss as)++D.pls:=by
   have o:Ks x.h (x5.k+2) (x5.k+3) [(x5.nx.nx.tk 2).pl]:=by
    rw[show(x5.nx.nx.tk 2).pl=zBw x.h (x5.k+3) by show zBw (x5.nx.nx.tk 2).h ((x5.nx.nx.tk 2).k+1)=_;rw[J,m7];congr 1;lia];exact Ks.one () ()
   have k:=t.ks;rw[m8,show(x5.nx.nx.tk 2).nx.h=x.h from J] at k;exact Ks.app (Ks.ins (l:=[]) kC o () ()) k () ()
  erw[<-⟨.lt x3.pl y (.fn x2.pl xs B)<|.dd (x5.nx.nx.tk 2).pl (.call x5.pl (.nam x5.nx.pl y) as) D,w,⟨.lt (T y hy) wF (.dd wC<|t.wf.up ()),t.iv,t.h.trans J,k4.app kD () (),(),()⟩,⟨λ{fw d p S xx K} h hk=>?_⟩⟩,<-C h λg=>?_,((cJ I.ok ∅).up (lv':=3*e+4) ()).h (d:=d) g];have g8:=zAc (o':=Ob.dct (x5.nx.nx.tk 2).kv) g;erw[pd cL];rw[xBd hb];erw[bT,((cu R.k).up (lv':=3*e+4) ()).h (d:=d) g8];have g9:=zAc (o':=Ob.dct (x5.nx.nx.tk 2).nx.kv) g8;erw[pv (scU [y]),pd (fc<|by rw[xAt];lia),pd eJ,(Z.up (lv':=3*e+4) ()).h (d:=d) g9];rw[zAa,zAa,zAa];exact hk
 .erw[<-⟨.lt x3.pl y (.fn x2.pl xs B)<|.call x5.pl (.nam x5.nx.pl y) as,x5.nx.nx.tk 2,⟨.lt (T y hy) wF (wC.up ()),R,J,by rw[m7];exact k4.app kC () (),(),()⟩,⟨λ{fw d p S xx K} h hk=>?_⟩⟩,<-C h λg=>?_,((cJ I.ok ∅).up (lv':=3*e+4) ()).h (d:=d) g,pd cL];rw[xCn hb];erw[bF];rw[zAa];exact hk
end
section
variable{pp:Int}{N:Str->Prop}{ws sc:B7}{x x':Sx}{e:Nat}{dp way:Int}
noncomputable def nxs:Nat->Sx->Sx
 |0,x=>x
 |n+1,x=>nxs n x.nx
noncomputable def pln:Nat->Sx->B'
 |0,_=>[]
 |n+1,x=>x.pl::pln n x.nx
theorem lB:∀{n:Nat}{x:Sx},Iv pp x->x.k+n<=9000->Iv pp (nxs n x)/\(nxs n x).k=x.k+n/\(nxs n x).h=x.h
 |0,x,d,_=>⟨d,by show x.k=_;lia,rfl⟩
 |n+1,x,d,hk=>by
  have g:x.nx.k=x.k+1:=rfl;let⟨a,b,c⟩:=lB (n:=n) (d.nx ()) ();exact⟨a,by show(nxs n x.nx).k=_;lia,c⟩
theorem pV:∀{n:Nat}{x:Sx}{lo fw d p:Nat}{S:So}{K:C6}{ys:B8},Iv pp x->x.k+n<=9000->at? S p=some (.dct x.kv)->K (.lst<|ys++(pln n x).map .int) (set S p<|.dct (nxs n x).kv)->lcK (Gd fw<|d+2) (zCu [1] true [none,none,some<|.ref p] (Jb 42 J7)<|Gd fw<|d+2) (zB8 (lo:Int) n) ys S K
 |0,x,lo,fw,d,p,S,K,ys,a,_,h,hk=>by
  rw[pln,List.map_nil,xB0,nxs,zB6 h] at hk;exact hk
 |n+1,x,lo,fw,d,p,S,K,ys,a,g,h,hk=>by
  have b:x.nx.k=x.k+1:=rfl;erw[((cu a.k).up (lv':=2) ()).h (d:=d) h,pV (lo:=lo+1) (a.nx ()) () (zAc h)];rw[zAa,xAx];exact hk
def zKf{h k:Int}:Ks h k (k+14)<|[k+13,k+14,k+7,k+8,k+9,k+4,k+5,k+6,k+1,k+2,k+3,k+10,k+11,k+12].map<|zBw h:=by
 refine⟨_,rfl,?_,λj d=>?_⟩
 .have:[(13:Int),14,7,8,9,4,5,6,1,2,3,10,11,12].Nodup:=by decide
  exact List.Pairwise.map (λj=>k+j) (λa b h=>by omega) this
 .simp only[xAv,xBv,or_false] at d;omega
end
section
variable{pp:Int}{N:Str->Prop}{ws sc:B7}{x x':Sx}{e:Nat}{dp way:Int}
noncomputable def zFr(z:Sx)(y:Str)(A B:Pg)(d s m:Int):Pg:=.lt (nxs 12 z).pl y (.num (nxs 13 z).pl 0)<|.dd d (.st s y<|.fn (nxs 6 z).pl ["n"]<|.iff (nxs 7 z).pl (.nam (nxs 8 z).pl "n") (.dd (nxs 3 z).pl A<|.call (nxs 4 z).pl (.nam (nxs 5 z).pl y) [.math (nxs 0 z).pl "sub" (.nam (nxs 1 z).pl "n")<|.num (nxs 2 z).pl 1]) B)<|.call (nxs 9 z).pl (.nam (nxs 10 z).pl y) [.num (nxs 11 z).pl m]
def zZ{z:Sx}{d s:Int}(k:N "n")(i:N y)(n:2<=e)(g:Wf N (sc++[y,"n"]) e A)(hB:Wf N (sc++[y,"n"]) e B)(p:0<=m/\m<8):Wf N sc (e+6)<|zFr z y A B d s m:=by
 have o:sc++[y,"n"]=sc++[y]++[("n":Str)]:=by simp
 rw[o] at g hB;have hq:Wf N (sc++[y]++[("n":Str)]) 2<|.call (nxs 4 z).pl (.nam (nxs 5 z).pl y) [.math (nxs 0 z).pl "sub" (.nam (nxs 1 z).pl "n")<|.num (nxs 2 z).pl 1]:=by
  refine .call (.nam ⋯) (λa b=>?_) (by rw[xAt];decide);rw[xAm.mp b];exact .math ∅ (.nam ⋯) (.num ∅ ∅)
 have hr:Wf N (sc++[y]) (e+4)<|.call (nxs 9 z).pl (.nam (nxs 10 z).pl y) [.num (nxs 11 z).pl m]:=by
  refine .call (.nam ⋯) (λa b=>?_) (by rw[xAt];decide);rw[xAm.mp b];exact .num () ()
 refine .lt i (.num ∅ ∅)<|.dd (.st ⋯<|.fn ⟨λq hq=>?_,∅,⋯⟩<|.iff (.nam ⋯) (.dd g<|hq.up n)<|hB.up ()) hr;rw[xAm.mp hq];exact k
def Ac{z:Sx}{d s q o w:Int}{h k:Int}(g:∀i:Nat,i<14->(nxs i z).pl=zBw h (k+i+1))(T:Ks h (k+14) q A.pls)(R:Ks h q o B.pls)(Q:Ks h o w [d,s])(P:k+14<=q)(O:q<=o)(M:o<=w):Ks h k w (zFr z y A B d s m).pls:=by
 have b:=zKf (h:=h) (k:=k);have e':[k+13,k+14,k+7,k+8,k+9,k+4,k+5,k+6,k+1,k+2,k+3,k+10,k+11,k+12].map (zBw h)=[(nxs 12 z).pl,(nxs 13 z).pl,(nxs 6 z).pl,(nxs 7 z).pl,(nxs 8 z).pl,(nxs 3 z).pl,(nxs 4 z).pl,(nxs 5 z).pl,(nxs 0 z).pl,(nxs 1 z).pl,(nxs 2 z).pl,(nxs 9 z).pl,(nxs 10 z).pl,(nxs 11 z).pl]:=by
  rw[g 0 ∅,g 1 ∅,g 2 ∅,g 3 ∅,g 4 ∅,g 5 ∅,g 6 ∅,g 7 ∅,g 8 ∅,g 9 ∅,g 10 ∅,g 11 ∅,g 12 ∅,g 13 ∅];simp only[xBs,List.map_nil,Int.add_assoc];rfl
 rw[e'] at b;have Y:=Ks.ins (l:=[(nxs 12 z).pl,(nxs 13 z).pl,(nxs 6 z).pl,(nxs 7 z).pl,(nxs 8 z).pl,(nxs 3 z).pl]) (r:=[(nxs 4 z).pl,(nxs 5 z).pl,(nxs 0 z).pl,(nxs 1 z).pl,(nxs 2 z).pl,(nxs 9 z).pl,(nxs 10 z).pl,(nxs 11 z).pl]) b T () P;have X:=Ks.ins (l:=[(nxs 12 z).pl,(nxs 13 z).pl,(nxs 6 z).pl,(nxs 7 z).pl,(nxs 8 z).pl,(nxs 3 z).pl]++(A.pls++[(nxs 4 z).pl,(nxs 5 z).pl,(nxs 0 z).pl,(nxs 1 z).pl,(nxs 2 z).pl])) (r:=[(nxs 9 z).pl,(nxs 10 z).pl,(nxs 11 z).pl]) (by simpa using Y) R () O;have W:=Ks.ins (l:=[(nxs 12 z).pl,(nxs 13 z).pl]) (r:=[(nxs 6 z).pl,(nxs 7 z).pl,(nxs 8 z).pl,(nxs 3 z).pl]++(A.pls++([(nxs 4 z).pl,(nxs 5 z).pl,(nxs 0 z).pl,(nxs 1 z).pl,(nxs 2 z).pl]++(B.pls++[(nxs 9 z).pl,(nxs 10 z).pl,(nxs 11 z).pl])))) (by simpa using X) Q () M;have p1:∀p n,(Pg.num p n).pls=[p]:=λ_ _=>rfl;have p2:∀p x,(Pg.nam p x).pls=[p]:=λ_ _=>rfl;have K:∀p x b,(Pg.fn p x b).pls=p::b.pls:=λ_ _ _=>rfl;have J:∀p a b,(Pg.call p a [b]).pls=p::(a.pls++(b.pls++[])):=λ_ _ _=>rfl;have I:∀p x a b,(Pg.lt p x a b).pls=p::(a.pls++b.pls):=λ_ _ _ _=>rfl;have H:∀p x a,(Pg.st p x a).pls=p::a.pls:=λ_ _ _=>rfl;have G:∀p a b,(Pg.dd p a b).pls=p::(a.pls++b.pls):=λ_ _ _=>rfl;have F:∀p a b c,(Pg.iff p a b c).pls=p::(a.pls++(b.pls++c.pls)):=λ_ _ _ _=>rfl;have C:∀p x a b,(Pg.math p x a b).pls=p::(a.pls++b.pls):=λ_ _ _ _=>rfl;simpa [zFr,p1,p2,K,J,I,H,G,F,C] using W
end
section
variable{pp:Int}{N:Str->Prop}{ws sc:B7}{x x':Sx}{e:Nat}{dp way:Int}
structure Ixs(L:B8)(c:Nat->Int):Prop where
 h:∀{i:Nat}{S:So},i<14->pr ups .ix [.lst L,.int (i:Int)] S=.ok (.int (c i)) S
def z9{z:Sx}{a:U}(b:Ixs L c)(g:Iv pp z)(hk:z.k<9000){d p:Nat}{K:C6}{C:B1 U}(h:at? S p=some (.dct z.kv))(k:K (.tup [.str "let",.int<|c 12,.str y,.tup [.str "number",.int<|c 13,.int 0],.tup [.str "do",.int (z.tk 8).pl,.tup [.str "set",.int (z.tk 8).nx.pl,.str y,a],.tup [.str "call",.int<|c 9,.tup [.str "name",.int<|c 10,.str y],.tup [.tup [.str "number",.int<|c 11,.int<|z.dg 8]]]]])<|set S p<|.dct (z.tk 8).nx.nx.kv):zFb (Gd fw<|d+2) [some<|.ref p,a1,a2,a3,some<|.str y,a5,some<|.lst L,a7,a8,C,a10,a11,some a,a13] S<|zAk xx K:=by
 have n:=z.tk_le (m:=8) g.ok ∅;have o:=g.le n;have F:(z.tk 8).k=z.k:=n.k;have r:=o.nx ();erw[pd (b.h (i:=9) ∅),pd (b.h (i:=10) ∅),pd (b.h (i:=11) ∅),((cJ g.ok ∅).up (lv':=2) ()).h (d:=d) h];have q:=zAc (o':=Ob.dct (z.tk 8).kv) h;erw[((cu o.k).up (lv':=2) ()).h (d:=d) q];have w:=zAc (o':=Ob.dct (z.tk 8).nx.kv) q;erw[((cu r.k).up (lv':=2) ()).h (d:=d) w,pd (b.h (i:=12) ∅),pd (b.h (i:=13) ∅)];rw[zAa,zAa];exact k
end
def Aa{z:Sx}{n:Str}{a:U}(b:Ixs L c)(g:Iv pp z)(hk:z.k<9000){d p:Nat}{K:C6}(h:at? S p=some (.dct z.kv))(k:K (.tup [.str "let",.int<|c 12,.str y,.tup [.str "number",.int<|c 13,.int 0],.tup [.str "do",.int (z.tk 8).pl,.tup [.str "set",.int (z.tk 8).nx.pl,.str y,.tup [.str "fn",.int<|c 6,.tup [.str n],.tup [.str "if",.int<|c 7,.tup [.str "name",.int<|c 8,.str n],a,u9]]],.tup [.str "call",.int<|c 9,.tup [.str "name",.int<|c 10,.str y],.tup [.tup [.str "number",.int<|c 11,.int<|z.dg 8]]]]])<|set S p<|.dct (z.tk 8).nx.nx.kv):zFc (Gd fw<|d+2) [some<|.ref p,a1,a2,a3,some<|.str y,some<|.str n,some<|.lst L,a7,a8,some u9,a10,some a,a12,a13] S<|zAk xx K:=by
 erw[pd (b.h (i:=6) ∅),pd (b.h (i:=7) ∅),pd (b.h (i:=8) ∅),<-z9 b g hk h k]
noncomputable def lpU(c:Nat->Int)(y n:Str)(a b l:U)(d s m:Int):U:=.tup [.str "let",.int<|c 12,.str y,.tup [.str "number",.int<|c 13,.int 0],.tup [.str "do",.int d,.tup [.str "set",.int s,.str y,.tup [.str "fn",.int<|c 6,.tup [.str n],.tup [.str "if",.int<|c 7,.tup [.str "name",.int<|c 8,.str n],.tup [.str "do",.int<|c 3,a,.tup [.str "call",.int<|c 4,.tup [.str "name",.int<|c 5,.str y],.tup [l]]],b]]],.tup [.str "call",.int<|c 9,.tup [.str "name",.int<|c 10,.str y],.tup [.tup [.str "number",.int<|c 11,.int m]]]]]
section
variable{L:B8}{c:Nat->Int}{y n:Str}{u8 u9 u10:U}{fw d p:Nat}{S:So}{E:Ee Prop}{a1 a2 a3 a7 a10 a11 a12 a13:B1 U}{t:C4}
def x8(a:Ixs L c)(k:t (Gd fw<|d+2) [some<|.ref p,a1,a2,a3,some<|.str y,some<|.str n,some<|.lst L,a7,some u8,some u9,some u10,some<|.tup [.str "do",.int<|c 3,u8,.tup [.str "call",.int<|c 4,.tup [.str "name",.int<|c 5,.str y],.tup [u10]]],a12,a13] S E):(sQ rz3 t) (Gd fw<|d+2) [some<|.ref p,a1,a2,a3,some<|.str y,some<|.str n,some<|.lst L,a7,some u8,some u9,some u10,a11,a12,a13] S E:=by
 erw[pd (a.h (i:=3) ∅),pd (a.h (i:=4) ∅),pd (a.h (i:=5) ∅),<-k]
def x9(a:Ixs L c)(k:t (Gd fw<|d+2) [some<|.ref p,a1,a2,a3,some<|.str y,some<|.str n,some<|.lst L,a7,some u8,some u9,some<|.tup [.str "math",.int<|c 0,.str "sub",.tup [.str "name",.int<|c 1,.str n],.tup [.str "number",.int<|c 2,.int 1]],a11,a12,a13] S E):(sQ rz4 t) (Gd fw<|d+2) [some<|.ref p,a1,a2,a3,some<|.str y,some<|.str n,some<|.lst L,a7,some u8,some u9,a10,a11,a12,a13] S E:=by
 erw[pd (a.h (i:=0) ∅),pd (a.h (i:=1) ∅),pd (a.h (i:=2) ∅),<-k]
end
def Ab{z:Sx}{n:Str}{b:U}(a:Ixs L c)(g:Iv pp z)(hk:z.k<9000){d p:Nat}{K:C6}(h:at? S p=some (.dct z.kv))(k:K (lpU c y n b u9 (.tup [.str "math",.int<|c 0,.str "sub",.tup [.str "name",.int<|c 1,.str n],.tup [.str "number",.int<|c 2,.int 1]]) (z.tk 8).pl (z.tk 8).nx.pl<|z.dg 8)<|set S p<|.dct (z.tk 8).nx.nx.kv):zJ5 (Gd fw<|d+2) [some<|.ref p,a1,a2,a3,some<|.str y,some<|.str n,some<|.lst L,a7,some b,some u9,a10,a11,a12,a13] S<|zAk xx K:=x9 a<|x8 a<|Aa a g hk h k
section
variable{pp:Int}{N:Str->Prop}{ws sc:B7}{x x':Sx}{e:Nat}{dp way:Int}
theorem mZ:∀{n i:Nat}{x:Sx},i<n->(pln n x)[i]?=some (nxs i x).pl
 |n+1,0,x,_=>rfl
 |n+1,i+1,x,h=>mZ (n:=n) (i:=i) (x:=x.nx) ()
def xg:Ixs ((pln 14 x).map .int) λi=>(nxs i x).pl:=⟨λ{i S} h=>by
 show opt (atI ((pln 14 x).map U.int) (i:Int)) S=_;rw[dQ (v:=.int (nxs i x).pl)<|by rw[xAw,mZ h];rfl];rfl⟩
def A7{z:Sx}{d s:Int}:lpU (λi=>(nxs i z).pl) y "n" A.u B.u (.tup [.str "math",.int (nxs 0 z).pl,.str "sub",.tup [.str "name",.int (nxs 1 z).pl,.str "n"],.tup [.str "number",.int (nxs 2 z).pl,.int 1]]) d s m=(zFr z y A B d s m).u:=rfl
def mL{a b:Int}:pr ups .sub [.int a,.int b] S=.ok (.int<|a-b) S:=rfl
def uJ(H:PH pp N ws e)(hN:∀y∈ws,N y)(M:N "n")(h5:3<=ws.length/\ws.length<=6)(he:2<=e/\e<=8)(hl:sc.length+10*(e+6)<=500)(hd:dp<=e+6)(o:Iv pp x)(h60:x.k<pp-20):∃P x',Pn pp N sc (e+6) x P x'/\Bl x 46 [scU ws,scU sc,.int dp] (3*e+5) P.u x':=by
 have k0:=o.k;have pa:=o.a;have C:=x.tk_le (m:=ws.length) o.ok ();let⟨y,hy,ey⟩:=e8 (sc:=ws) (i:=x.dg ws.length) (x.dg_lt (m:=ws.length) ());have i1:=o.le C;have J:(x.tk ws.length).k=x.k:=C.k;have F:(x.tk ws.length).h=x.h:=C.h;have tb:=(cJ o.ok (m:=ws.length) ⟨(),()⟩)
 generalize x.tk ws.length=z at C i1 J F tb;let⟨i2,W,h2⟩:=lB (n:=14) i1 ();have O:=λ{fw d p:Nat} {S:So} {K:C6}=>pV (n:=14) (x:=z) (lo:=0) (fw:=fw) (d:=d) (p:=p) (S:=S) (K:=K) (ys:=[]) i1 ();have hz:∀i:Nat,i<14->(nxs i z).pl=zBw x.h (x.k+i+1):=λi hi=>by
  let⟨_,a,b⟩:=lB (n:=i) i1 ();show zBw (nxs i z).h ((nxs i z).k+1)=_;rw[a,b,F,J]
 generalize hw:nxs 14 z=w at i2 W h2 O;have ls:(sc++[y,("n":Str)]).length=sc.length+2:=by rw[xAb];rfl
 let⟨A,G,q,b3⟩:=H (x:=w) (sc:=sc++[y,"n"]) (dp:=dp-6) i2 () () ();have a:=q.at80;have b:=q.hi;have c:=q.lo;let⟨B,x4,r,b4⟩:=H (x:=G) (sc:=sc++[y,"n"]) (dp:=dp-6) q.iv () () ();have a':=r.at80;have b':=r.hi;have c':=r.lo;have X:G.h=x.h:=q.h.trans<|h2.trans F;have h4:x4.h=x.h:=r.h.trans X;have I:=x4.tk_le (m:=8) r.iv.ok ∅;have i5:=r.iv.le I;have T:(x4.tk 8).k=x4.k:=I.k;have g:(x4.tk 8).h=x.h:=I.h.trans h4;have i7:=(i5.nx ()).nx (by show(x4.tk 8).k+1<_;lia);have kx:(x4.tk 8).nx.nx.k=x4.k+2:=by show(x4.tk 8).k+1+1=_;lia
 have R:=q.ks;rw[h2.trans F,W,J] at R;have Q:=r.ks;rw[X] at Q;have kC:Ks x.h x4.k (x4.k+2) [(x4.tk 8).pl,(x4.tk 8).nx.pl]:=by
  rw[show(x4.tk 8).pl=zBw x.h (x4.k+1) by show zBw (x4.tk 8).h ((x4.tk 8).k+1)=_;rw[g,T],show(x4.tk 8).nx.pl=zBw x.h (x4.k+2) by show zBw (x4.tk 8).h ((x4.tk 8).k+1+1)=_;rw[g,T];congr 1;lia];exact Ks.cons () (Int.le_refl _) (Ks.one () ()) ()
 have kk:=Ac (z:=z) (y:=y) (A:=A) (B:=B) (m:=x4.dg 8) hz R Q kC () () ();have wf:=zZ (N:=N) (sc:=sc) (z:=z) (A:=A) (B:=B) (d:=(x4.tk 8).pl) (s:=(x4.tk 8).nx.pl) M (hN y hy) he.1 q.wf r.wf (x4.dg_lt (m:=8) ∅);erw[<-⟨zFr z y A B (x4.tk 8).pl (x4.tk 8).nx.pl<|x4.dg 8,(x4.tk 8).nx.nx,⟨wf,i7,g,by rw[kx];exact kk,(),()⟩,⟨λ{fw d p S xx K} h hk=>?_⟩⟩,cd (d:=d+(3*e+4)) ⟨4,14,t46⟩,pd dM,(tb.up (lv':=3*e+4) ()).h (d:=d) h];have g1:=zAc (o':=Ob.dct z.kv) h;erw[pd ey,pd (jV ∅)];refine bI (λ_=>?_) λz=>by cases z
 erw[O (d:=d+(3*e+2)) g1];have Z:=zAc (o':=Ob.dct w.kv) g1;erw[pv (scU [y,"n"]),pd (fc<|by show _+2<=_;lia),pd mL,(b3.up (lv':=3*e+4) ()).h (d:=d) Z];have Y:=zAc (o':=Ob.dct G.kv) Z;erw[pd mL,(b4.up (lv':=3*e+4) ()).h (d:=d) Y];have g4:=zAc (o':=Ob.dct x4.kv) Y;erw[Ab (d:=d+(3*e+2)) xg r.iv () g4];rw[A7,zAa,zAa,zAa,zAa];exact hk
end
section
variable{pp:Int}{N:Str->Prop}{ws sc:B7}{x x':Sx}{e dm:Nat}{dp way:Int}
def w6(h:3<=way/\way<10):∃w,0<=w/\pr ups .ix [.lst [.int 1,.int 1,.int 0,.int 1,.int 2,.int 3,.int 1],.int<|way-3] S=.ok (.int w) S:=by
 rcases(show way=3\/way=4\/way=5\/way=6\/way=7\/way=8\/way=9 by lia) with h|h|h|h|h|h|h <;> rw[h]
 .exact⟨1,∅,rfl⟩
 .exact⟨1,∅,rfl⟩
 .exact⟨0,∅,rfl⟩
 .exact⟨1,∅,rfl⟩
 .exact⟨2,∅,rfl⟩
 .exact⟨3,∅,rfl⟩
 .exact⟨1,∅,rfl⟩
def RsP(pp:Int)(N:Str->Prop)(ws sc:B7)(dm:Nat)(dp way:Int)(x:Sx)(t:C4):Prop:=∃P x',Pn pp N sc dm x P x'/\∀{fw d p:Nat}{S:So}{xx:C7}{K:C6},at? S p=some (.dct x.kv)->K P.u (set S p<|.dct x'.kv)->t (Gd fw<|d+(3*dm+2)) [some<|.ref p,some<|scU ws,some<|scU sc,some<|.int dp,some<|.int way] S (zAk xx K)
def AS(G:10<=way)(w:∀y∈ws,N y)(C:3<=ws.length/\ws.length<=6)(i:ws.Nodup)(F:dm<=14)(IH:∀e<dm,PH pp N ws e)(n:Iv pp x)(a:x.k<pp)(o:sc.length+10*dm<=500)(r:dp<=dm)(H:0<dp):RsP pp N ws sc dm dp way x zEb:=by
 by_cases hh:way<14/\3<dp
 .obtain⟨e,rfl⟩:∃e,dm=e+3:=⟨dm-3,()⟩
  let⟨P,x',q,b⟩:=oJ (sc:=sc) (dp:=dp) (IH e ()) w C i () o r n a;erw[<-⟨P,x',q,λ{fw d p S xx K} h hk=>?_⟩,pv (.bl<|decide<|way<14)];rw[xBd hh.1];erw[bT,pv (.bl<|decide<|3<dp)];rw[xBd hh.2];erw[bT];exact(b.up (lv':=3*(e+3)+2) ()).h (d:=d) h hk
 .obtain⟨e,rfl⟩:∃e,dm=e+1:=⟨dm-1,()⟩
  let⟨P,x',q,b⟩:=qr (sc:=sc) (dp:=dp-1) (way:=(way-10)%12) (IH e ()) () () () n a ⟨xBa _ ∅,xBb _ ∅⟩;refine⟨P,x',q,λ{fw d p S xx K} h hk=>?_⟩;have g:(J5<|Jn 49<|Jt J0 J3 J7 (J1 .sub J6 Ji)<|J1 .mod (J1 .sub Ja<|Je 10)<|Je 12) (Gd fw<|d+(3*(e+1)+2)) [some<|.ref p,some<|scU ws,some<|scU sc,some<|.int dp,some<|.int way] S<|zAk xx K:=by
   erw[pd eJ,pd eJ,pd (cX ∅)];exact(b.up (lv':=3*(e+1)+2) ()).h (d:=d) h hk
  erw[pv (.bl<|decide<|way<14)];by_cases h1:way<14
  .rw[xBd h1];erw[bT,pv (.bl<|decide<|3<dp)];rw[xCn ()];exact bF g
  .rw[xCn h1];exact bF<|bF g
def AU(O:3<=way)(H:∀y∈ws,N y)(F:N "n")(I:3<=ws.length/\ws.length<=6)(n:ws.Nodup)(J:dm<=14)(IH:∀e<dm,PH pp N ws e)(i:Iv pp x)(o:x.k<pp)(G:sc.length+10*dm<=500)(M:dp<=dm)(Q:0<dp):RsP pp N ws sc dm dp way x zIc:=by
 by_cases h10:way<10
 .obtain⟨e,rfl⟩:∃e,dm=e+1:=⟨dm-1,()⟩
  let⟨w,C,r⟩:=w6 (S:=[]) ⟨O,h10⟩;let⟨P,x',q,b⟩:=vm (sc:=sc) (dp:=dp-1) (way:=w) (IH e ()) H I n () G () i o C;erw[<-⟨P,x',q,λ{fw d p S xx K} h hk=>?_⟩,pv (.bl<|decide<|way<10)];rw[xBd h10];erw[bT,pd eJ,pv (.lst [.int 1,.int 1,.int 0,.int 1,.int 2,.int 3,.int 1]),pd eJ,<-pd (v:=.int w) (S':=S) ?_ ?_]
  .have T:∀S:So,pr ups .ix [.lst [.int 1,.int 1,.int 0,.int 1,.int 2,.int 3,.int 1],.int<|way-3] S=opt (atI [.int 1,.int 1,.int 0,.int 1,.int 2,.int 3,.int 1]<|way-3) S:=λ_=>rfl;rw[T] at r⊢;cases ho:atI ([.int 1,.int 1,.int 0,.int 1,.int 2,.int 3,.int 1]:B8) (way-3) with
   |none=>rw[ho] at r;cases r
   |some v=>rw[ho] at r;cases r;rfl
  .exact(b.up (lv':=3*(e+1)+2) ()).h (d:=d) h hk
 .by_cases hh:way<12/\7<dp/\x.k<pp-20
  .obtain⟨e,rfl⟩:∃e,dm=e+6:=⟨dm-6,()⟩
   let⟨P,x',q,b⟩:=uJ (sc:=sc) (dp:=dp) (IH e ()) H F I () G M i hh.2.2;refine⟨P,x',q,λ{fw d p S xx K} h hk=>?_⟩;have R:=i.a;erw[pv (.bl<|decide<|way<10)];rw[xCn h10];erw[bF,pv (.bl<|decide<|way<12)];rw[xBd hh.1];erw[bT,pv (.bl<|decide<|7<dp)];rw[xBd hh.2.1];erw[bT,pd (rA h),pv (.bl<|decide<|20<x.a)];rw[xBd ()];erw[bT];exact(b.up (lv':=3*(e+6)+2) ()).h (d:=d) h hk
  .let⟨P,x',q,b⟩:=AS () H I n J IH i o G M Q (way:=way);refine⟨P,x',q,λ{fw d p S xx K} h hk=>?_⟩;have R:=i.a;have g:zEb (Gd fw<|d+(3*dm+2)) [some<|.ref p,some<|scU ws,some<|scU sc,some<|.int dp,some<|.int way] S<|zAk xx K:=b h hk;erw[pv (.bl<|decide<|way<10)];rw[xCn h10];erw[bF,pv (.bl<|decide<|way<12)];by_cases h1:way<12
   .rw[xBd h1];erw[bT,pv (.bl<|decide<|7<dp)];by_cases h2:7<dp
    .rw[xBd h2];erw[bT,pd (rA h),pv (.bl<|decide<|20<x.a)];rw[xCn ()];exact bF g
    .rw[xCn h2];exact bF<|bF g
   .rw[xCn h1];exact bF<|bF g
def ue(J:∀y∈ws,N y)(F:N "n")(M:3<=ws.length/\ws.length<=6)(C:ws.Nodup)(G:dm<=14)(IH:∀e<dm,PH pp N ws e):PH pp N ws dm:=λ{x sc dp} w hk H I=>by
 have o:=x.tk_le (m:=26) w.ok ∅;have i1:=w.le o;have O:=x.dg_lt (m:=26) ∅;have r:(x.tk 26).k=x.k:=o.k;have i:(x.tk 26).h=x.h:=o.h;have a1:=i1.a;have tb:=cJ w.ok (m:=26) ∅;generalize x.tk 26=z at o i1 r i a1 tb;generalize x.dg 26=way at O tb;by_cases hA:way<3\/dp<=0\/z.a<=0
 .let⟨P,x',q,b⟩:=vo (N:=N) (sc:=sc) (dm:=dm) i1 () ();erw[<-⟨P,x',⟨q.wf,q.iv,q.h.trans i,by have:=q.ks;rw[i,r] at this;exact this,by have:=q.lo;lia,λz=>by have:=q.at80 ();lia,by have:=q.hi;lia⟩,⟨λ{fw d p S xx K} h hk=>?_⟩⟩,cd (d:=d+(3*dm+2)) ⟨4,5,t51⟩,(tb.up (lv':=3*dm+2) ()).h (d:=d) h];have n:=zAc (o':=Ob.dct z.kv) h;have g:(Gd fw<|d+(3*dm+2)).call 43 [.ref p,scU sc] (set S p<|.dct z.kv) xx K:=(b.up (lv':=3*dm+2) ()).h (d:=d) n (by rw[zAa];exact hk);erw[pv (.bl<|decide<|way<3)];by_cases c1:way<3
  .rw[xBd c1];exact bT<|bT g
  .rw[xCn c1];erw[bF,pv (.bl<|decide<|dp<=0)];by_cases c2:dp<=0
   .rw[xBd c2];exact bT<|bT g
   .rw[xCn c2];erw[bF,pd (rA n),pv (.bl<|decide<|z.a<=0)];rw[xBd ()];exact bT g
 .let⟨P,x',q,b⟩:=AU () J F M C G IH i1 () H I () (way:=way);erw[<-⟨P,x',⟨q.wf,q.iv,q.h.trans i,by have:=q.ks;rw[i,r] at this;exact this,by have:=q.lo;lia,λz=>(),.inr q.hi⟩,⟨λ{fw d p S xx K} h hk=>?_⟩⟩,cd (d:=d+(3*dm+2)) ⟨4,5,t51⟩,(tb.up (lv':=3*dm+2) ()).h (d:=d) h];have n:=zAc (o':=Ob.dct z.kv) h;erw[pv (.bl<|decide<|way<3)];rw[xCn ()];erw[bF,pv (.bl<|decide<|dp<=0)];rw[xCn ()];erw[bF,pd (rA n),pv (.bl<|decide<|z.a<=0)];rw[xCn ()];erw[bF];exact b n (by rw[zAa];exact hk)
theorem qw(g:∀y∈ws,N y)(b:N "n")(i:3<=ws.length/\ws.length<=6)(a:ws.Nodup):∀{n dm:Nat},dm<n->dm<=14->PH pp N ws dm
 |n+1,dm,h,d=>ue g b i a d λe k=>qw g b i a (n:=n) () ()
end
noncomputable def ltrs:Str:="abcdefghijklmnopqrstuvwxyz"
noncomputable def chs(w:Str):B8:=w.cps.toList.map λc=>.str ⟨#[c]⟩
def inL(c:U):B6:=match inU [] c (.str ltrs) with
 |some b=>b
 |none=>false
def zAp(w:Str):B6:=Nat.ble 1 w.length&&Nat.ble w.length 8&&(chs w).all inL
noncomputable def zBh:B7:=["fn","call","let","set","do","if","add","sub","mul","less","same","make","match","raise","try","tell","ask"]
def zAg(w:Str):B6:=zAp w&&!zBc (.str w) (zBh.map .str)
noncomputable def zBg(is:B9):Str:=⟨(is.map (97+·)).toArray⟩
noncomputable def ltU(i:Nat):U:=.str ⟨#[97+i]⟩
def zKh:∀i<26,inL (ltU i)=true:=by decide +kernel
def iR:(zBg is).length=is.length:=by
 show(is.map (97+·)).toArray.size=_;simp
def tu(g:1<=is.length)(d:is.length<=8)(h:∀i∈is,i<26):zAp (zBg is)=true:=by
 unfold zAp;rw[iR,xDk g,xDk d];show(chs<|zBg is).all inL=true;refine xCx.mpr λc a=>?_;unfold chs zBg at a;let⟨j,b,rfl⟩:=xA2.mp a;let⟨i,hi,rfl⟩:=xA2.mp (show j∈is.map (97+·) by simpa using b);exact zKh i<|h i hi
def yZ{a b:B9}(h:a[j]?≠b[j]?):zBg a≠zBg b:=λe=>h (by
 have:a.map (97+·)=b.map (97+·):=by
  have:=congrArg (λw:Str=>w.cps.toList) e;simpa [zBg] using this
 have:=congrArg (·[j]?) this;simp only[xAw] at this;cases ha:a[j]? <;> cases hb:b[j]? <;> rw[ha,hb] at this <;> simp at this⊢
 lia)
def xU:zAg "n"=true:=by decide +kernel
def n0{i:Int}(h:0<=i/\i<26):pr ups .ix [.str ltrs,.int i] S=.ok (ltU i.toNat) S:=by
 let⟨j,rfl⟩:=Int.eq_ofNat_of_zero_le h.1;have a:j<26:=by lia
 have key:∀j<26,ltrs.cps.toList[j]?=some (97+j):=by decide +kernel
 show(match atI ltrs.cps.toList (j:Int) with|some c=>fits ltrs.length (.ok (.str ⟨#[c]⟩) S)|none=>.stuck)=_;rw[dQ<|key j a];dsimp only;rw[zBd<|by show _<=2^24;decide +kernel];rfl
section
variable{up:B0<|Str×Str}{S T:So}{p q k:Nat}{o o1 o2 o':Ob}{v w:U}{r:B8}{a b C f:Str}{fs fs':B0<|Str×U}
def cR(h:a=b):pr up .eq [.str a,.str b] S=.ok (.bl true) S:=by
 show Res.ok (.bl<|decide<|a=b) S=_;rw[xBd h]
def cn(h:a≠b):pr up .eq [.str a,.str b] S=.ok (.bl false) S:=by
 show Res.ok (.bl<|decide<|a=b) S=_;rw[xCn h]
def e9{xs:B8}(h:xs[j]?=some v):pr up .ix [.tup xs,.int j] S=.ok v S:=by
 show opt (atI xs (j:Int)) S=_;rw[dQ h];rfl
def cy:pr up .ix [.tup<|v::r,.int 0] S=.ok v S:=e9 (j:=0) rfl
def eK:pr up .ix [.tup<|w::v::r,.int 1] S=.ok v S:=e9 (j:=1) rfl
def atN(h:p≠q)(d:at? S q=some o2):at? (set S p o') q=some o2:=by
 rw[zHv h];exact d
def atK(g:at? S p=some o1)(d:at? S q=some o2)(h:o1≠o2):at? (set S p o') q=some o2:=atN (λe=>h<|by rw[e,d] at g;cases g;rfl) d
theorem zDs:∀{S T:So}{k:Nat},at? (S++T) (S.length+k)=at? T k
 |[],T,k=>⋯
 |_::S,T,k=>by
  rw[xAo,show S.length+1+k=(S.length+k)+1 by lia];exact zDs (S:=S)
theorem zDu:∀{S T:So}{k:Nat},set (S++T) (S.length+k) o=S++set T k o
 |[],T,k=>⋯
 |x::S,T,k=>by
  rw[xAo,show S.length+1+k=(S.length+k)+1 by lia];exact congrArg (x::·)<|zDu (S:=S)
def ua:pr up (.dct []) [] (S++T)=.ok (.ref<|S.length+T.length) (S++(T++[.dct []])):=by
 show Res.ok (.ref (S++T).length) (S++T++[.dct []])=_;rw[xAb,xAx]
def qg(k:Nat)(h:at? T k=some (.ins C fs))(e:putF f v fs=fs')(d:Nat.ble fs.length 900=true):pr up (.setf f) [.ref<|S.length+k,v] (S++T)=.ok .non (S++set T k (.ins C fs')):=by
 rw[i9 (by rw[zDs];exact h) e d,zDu]
end
local macro_rules | `(tactic| walk_at "w")=>`(tactic| repeat first | refine pd (cR rfl) ?_ | refine pd (cn (by first | assumption | decide)) ?_ | refine pd (du (by assumption) rfl) ?_ | refine bT ?_ | refine bF ?_ | refine pd (cm (by assumption) rfl) ?_ | refine pd (cv (by assumption)) ?_ | refine pd (by rfl) ?_ | refine pd cy ?_)
section
variable{fw d n e:Nat}{S S1 S2 S':So}{x xc:C7}{K:C6}{u v P:U}{w:Str}{xs:B8}{i:Int}
noncomputable def pvB:U->B6
 |.non=>true
 |.bl _=>true
 |.int _=>true
 |.str w=>Nat.ble w.length 1000
 |.tup xs=>Nat.ble xs.length 1000
 |.lst _=>true
 |_=>false
noncomputable def zKa:U->B6
 |.int _=>true
 |_=>false
def gb(a:pvB v=true)(hk:K (.bl<|zKa v) S):(Gd fw<|d+1).call 2 [v] S x K:=by
 erw[cd ⟨1,1,t2⟩];cases v <;> try (cases a;done)
 all_goals
  walk_at"w"
  exact hk
theorem db(a:pvB v=true)(hk:K v S):(Gd fw<|d+2).call 9 [v] S x K:=by
 erw[cd ⟨1,1,t9⟩];cases v with
 |tup xs=>
  walk_at"w"
  have h:=xCo a;erw[pd (v:=.tup xs) (S':=S) (zBd<|by show 0+xs.length<=2^24;lia),<-hk]
 |str w=>
  have h:=xCo a;walk_at"w"
  refine pd (v:=.str w) (S':=S) ?_ hk;show(match decide (([w].map λy:Str=>y.length).sum+1*("":Str).length<=16777216) with|true=>Res.ok (.str<|Builtin.Str.glued "" [w]) S|false=>.stuck)=_;rw[xBd<|by rw[show("":Str).length=0 by decide +kernel];show w.length+0+0<=_;lia];rfl
 |non=>walk_at"w";erw[gb rfl];walk_at"w";exact hk
 |bl b=>walk_at"w";erw[gb rfl];walk_at"w";exact hk
 |int i=>walk_at"w";erw[gb rfl];walk_at"w";exact hk
 |lst xs=>walk_at"w";erw[gb rfl];walk_at"w";exact hk
 |_=>cases a
def uP{c:Nat}:inU S (.str ⟨#[c]⟩) (.str ltrs)=some (inL<|.str ⟨#[c]⟩):=rfl
set_option tactic.hygienic true
theorem vX:∀{cs:B9}{ys:B8},K (.lst<|ys++cs.map λc=>.bl<|inL<|.str ⟨#[c]⟩) S->lcK (Gd fw d) (zCu [1] true [none,none] (cB<|tB<|J1 .inn J3<|J2 ltrs)<|Gd fw d) (cs.map λc=>.str ⟨#[c]⟩) ys S K
 |[],ys,hk=>by
  rw[List.map_nil,xB0] at hk;exact hk
 |c::cs,ys,hk=>by
  refine pd (v:=.bl<|inL<|.str ⟨#[c]⟩) (S':=S) ?_ ?_
  .show obB (inU S (.str ⟨#[c]⟩)<|.str ltrs) id S=_;rw[uP];rfl
  .erw[vX (cs:=cs) (ys:=ys++[.bl<|inL<|.str ⟨#[c]⟩])];rw[xAx];exact hk
set_option tactic.hygienic false
theorem gJ{J:Type}{f:J->B6}:∀{cs:B0 J},blL (cs.map λc=>U.bl<|f c)=some (cs.map f)
 |[]=>rfl
 |_::cs=>by show(blL _).map _=_;rw[gJ];rfl
def zCk:U->B6
 |.str w=>zAp w
 |_=>false
def uO(b:w.length<=1000)(hk:K (.bl<|zAp w) S):(Gd fw<|d+1).call 5 [.str w] S x K:=by
 unfold zAp at hk;erw[cd ⟨1,1,t5⟩];walk_at"w"
 erw[pd (v:=.int w.length) (S':=S) (zBd<|by show _<=2^24;lia),pd (v:=.bl<|decide<|(1:Int)<=w.length) (S':=S) rfl];by_cases h1:1<=w.length
 .rw[xBd ()];erw[bT,pd (v:=.bl<|decide<|(w.length:Int)<=8) (S':=S) rfl];by_cases h2:w.length<=8
  .rw[xBd ()];erw[bF,pv (.tup<|w.cps.toList.map λc=>.str ⟨#[c]⟩)];have a:(w.cps.toList.map λc=>U.str ⟨#[c]⟩).length<=sizeLine:=by
    show _<=2^24;have:(w.cps.toList.map λc=>U.str ⟨#[c]⟩).length=w.length:=by rw[xAa];rfl
    lia
   erw[<-bI (λ_=>?_) λz=>absurd (xDk a) (by rw[z];decide),vX (ys:=[]),<-pd (v:=.bl<|(w.cps.toList.map λc=>inL<|.str ⟨#[c]⟩).all id) (S':=S) ?_ ?_]
   .show(match blL ([]++w.cps.toList.map λc=>U.bl<|inL<|.str ⟨#[c]⟩) with|some bs=>Res.ok (.bl<|bs.all id) S|none=>.stuck)=_;rw[xC6,gJ]
   .rw[xDk h1,xDk h2] at hk;have:(w.cps.toList.map λc=>inL<|.str ⟨#[c]⟩).all id=(chs w).all inL:=by
     unfold chs;rw[List.all_map,List.all_map];rfl
    rw[this];exact hk
  .rw[xCn ()];erw[bT];rw[Bool.eq_false_iff.mpr λz=>h2<|xCo z,xDe,Bool.false_and] at hk;exact hk
 .rw[xCn ()];erw[bF,bT];rw[Bool.eq_false_iff.mpr λz=>h1<|xCo z,Bool.false_and,Bool.false_and] at hk;exact hk
theorem isw(a:pvB v=true)(hk:K (.bl<|zCk v) S):(Gd fw<|d+1).call 5 [v] S x K:=by
 cases v with
 |str w=>exact uO (xCo a) hk
 |non=>refine cd ⟨1,1,t5⟩ ?_;walk_at"w";exact hk
 |bl b=>refine cd ⟨1,1,t5⟩ ?_;walk_at"w";exact hk
 |int i=>refine cd ⟨1,1,t5⟩ ?_;walk_at"w";exact hk
 |tup xs=>refine cd ⟨1,1,t5⟩ ?_;walk_at"w";exact hk
 |lst xs=>refine cd ⟨1,1,t5⟩ ?_;walk_at"w";exact hk
 |_=>cases a
def zBr:U->B6
 |.str w=>zAg w
 |_=>false
def iq(h:zCk v=true):∃w,v=.str w/\zAp w=true:=by
 cases v <;> try (cases h;done)
 exact⟨_,rfl,h⟩
def oA(h:zBr v=true):∃w,v=.str w/\zAg w=true:=by
 cases v <;> try (cases h;done)
 exact⟨_,rfl,h⟩
def qX:zBr v=(zCk v&&match v with|.str w=>!zBc (.str w) (zBh.map .str)|_=>false):=by
 cases v <;> rfl
theorem isn(a:pvB v=true)(hk:K (.bl<|zBr v) S):(Gd fw<|d+2).call 6 [v] S x K:=by
 rw[qX] at hk;erw[cd ⟨1,1,t6⟩,isw a];cases hw:zCk v with
 |false=>
  rw[hw] at hk;exact bF hk
 |true=>
  let⟨w,rfl,_⟩:=iq hw;rw[hw] at hk;erw[bT,<-pd (v:=.bl (!zBc (.str w) (zBh.map .str))) (S':=S) rfl hk]
def opV:U->B6
 |.str w=>zAp w&&zBc (.str w) [.str "add",.str "sub",.str "mul",.str "less",.str "same"]
 |_=>false
theorem fq:∀{th:B7},(th.map U.str).all zAr=true
 |[]=>rfl
 |_::th=>by rw[xBs,xCj,fq];rfl
def zF2(s:Str)(v:U)(th:B7):B6:=
 if s="number" then(match v with|.int i=>decide (-(10^12)<i/\i<10^12)|_=>false)
 else if s="op" then opV v
 else if s="word" then zCk v
 else if s="used" then zBr v&&(match v with|.str w=>zBc (.str w) (th.map .str)|_=>false)
 else zBr v
set_option tactic.hygienic true
def zAs(a:pvB v=true)(hk:K (.bl<|zF2 s v th) S):(Gd fw<|d+3).call 16 [.str s,v,.tup<|th.map .str] S x K:=by
 unfold zF2 at hk;erw[cd ⟨3,3,t16⟩];by_cases h1:s="number"
 .subst h1;rw[xCg rfl] at hk;walk_at"w"
  erw[cd ⟨1,1,t8⟩,gb a];cases v with
  |int i=>
   erw[bT,pv (.int<|if i<0 then -i else i),pv (.int<|10^12),<-pd (v:=.bl<|decide (-(10^12)<i/\i<10^12)) (S':=S) ?_ hk];show Res.ok (.bl<|decide<|(if i<0 then -i else i)<10^12) S=_;congr 2;erw[decide_eq_decide.mpr];split <;> lia
  |_=>exact bF hk
 rw[xCf h1] at hk;erw[pd (cn h1),bF];by_cases h2:s="op"
 .subst h2;rw[xCg rfl] at hk;erw[pd (cR rfl),bT,isw a];cases hw:zCk v with
  |false=>
   erw[bF];have:opV v=false:=by
    cases v <;> try rfl
    next w=>show(zAp w&&_)=false;rw[show zAp w=false from hw];rfl
   rw[this] at hk;exact hk
  |true=>
   let⟨w,rfl,b⟩:=iq hw;erw[bT,pd (v:=.bl<|zBc (.str w) [.str "add",.str "sub",.str "mul",.str "less",.str "same"]) (S':=S) rfl];rw[show opV (.str w)=(zAp w&&zBc (.str w) [.str "add",.str "sub",.str "mul",.str "less",.str "same"]) from rfl,b] at hk;exact hk
 rw[xCf h2] at hk;erw[pd (cn h2),bF];by_cases h3:s="word"
 .subst h3;rw[xCg rfl] at hk;erw[pd (cR rfl),bT,<-isw a hk]
 rw[xCf h3] at hk;erw[pd (cn h3),bF];by_cases h4:s="used"
 .subst h4;rw[xCg rfl] at hk;erw[pd (cR rfl),bT,isn a];cases hw:zBr v with
  |false=>
   rw[hw] at hk;exact bF hk
  |true=>
   let⟨w,rfl,b⟩:=oA hw;rw[hw] at hk;erw[bT,<-pd (v:=.bl<|zBc (.str w)<|th.map .str) (S':=S) ?_ hk];show obB (if(zAr (.str w)&&(th.map U.str).all zAr)=true then some (zBc (.str w)<|th.map U.str) else none) id S=_;rw[fq];rfl
 rw[xCf h4] at hk;erw[pd (cn h4),bF,<-isn a hk]
set_option tactic.hygienic false
end
section
variable{fw d n e:Nat}{S S1 S2 S':So}{x:C7}{K:C6}{u v P:U}{w:Str}{xs:B8}{i pl:Int}{h pq kq:Nat}{ps pls:B'}{th nn:B7}
noncomputable def plK(ps:B'):B0<|Key×U:=ps.map λi=>(Sum.inl i,.bl true)
structure ChS(h pq:Nat)(ps:B')(S:So):Prop where
 ob:at? S h=some (.ins "Checker" [("places",.ref pq)])
 di:at? S pq=some (.dct (plK ps))
 le:ps.length<=300
structure Pc(pq:Nat)(S S':So):Prop where
 len:S.length<=S'.length
 ky:∀{q o},q≠pq->at? S q=some o->at? S' q=some o
def Pc.trans(h1:Pc pq S S1)(g:Pc pq S1 S2):Pc pq S S2:=⟨xCk h1.len g.len,λa b=>g.ky a<|h1.ky a b⟩
def Pc.refl:Pc pq S S:=⟨xAg _,λ_ b=>b⟩
def Pc.app{T:So}:Pc pq S<|S++T:=⟨⋯,λ_ b=>zBu b⟩
theorem nz:∀{ps:B'},pl∉ps->zCc (.inl pl) (plK ps)=none
 |[],_=>rfl
 |a::ps,h=>by
  show(if(Sum.inl a:Key)=.inl pl then _ else zCc (.inl pl) (plK ps))=_;rw[xCf (by intro z;injection z with z;exact h (by rw[z];exact xAr ..)),nz λz=>h<|xAs _ z]
theorem tm:∀{ps:B'},pl∉ps->((plK ps).any λkv=>decide<|kv.1=.inl pl)=false
 |[],_=>rfl
 |a::ps,h=>by
  show(decide ((Sum.inl a:Key)=.inl pl)||(plK ps).any _)=_;rw[xCn (by intro z;injection z with z;exact h (by rw[z];exact xAr ..)),tm λz=>h<|xAs _ z];rfl
def tM(a:pl∉ps):putK (.inl pl) (.bl true) (plK ps)=plK (ps++[pl]):=by
 unfold Fx.putK;rw[tm a];simp[plK]
noncomputable def NP:Xc:=⟨"NoPart",[]⟩
noncomputable def plA(pl:Int)(ps:B'):B1<|B':=if 0<=pl/\pl<=599/\pl∉ps/\ps.length<300 then some (ps++[pl]) else none
def atD{p q:Nat}{C:Str}{fs:B0<|Str×U}{kv:B0<|Key×U}(a:at? S p=some (.ins C fs))(b:at? S q=some (.dct kv)):p≠q:=λe=>by rw[e,b] at a;cases a
def wu(C:ChS h pq ps S)(hk:∀o,plA pl ps=some o->∀S',ChS h pq o S'->Pc pq S S'->K .non S')(q:plA pl ps≠none):(Gd fw<|d+3).call 12 [.ref h,.int pl] S x K:=by
 erw[cd ⟨2,2,t12⟩,cd ⟨1,1,t7⟩,gb rfl,bT,pd (v:=.bl<|decide<|(0:Int)<=pl) (S':=S) rfl];by_cases g1:0<=pl
 case neg=>
  exact absurd (xCf λz=>g1 z.1) q
 rw[xBd g1];erw[bT,pd (v:=.bl<|decide<|pl<=(599:Int)) (S':=S) rfl];by_cases g2:pl<=599
 case neg=>
  exact absurd (xCf λz=>g2 z.2.1) q
 rw[xBd g2];erw[bF];have p:=C.ob;have k:=C.di;erw[pd (du p rfl),<-pd (v:=.bl (zCc (.inl pl)<|plK ps).isSome) (S':=S) ?_ ?_]
 .show obB (inU S (.int pl)<|.ref pq) id S=_;unfold inU;dsimp only;rw[k];rfl
 by_cases g3:pl∈ps
 case pos=>
  exact absurd (xCf λz=>z.2.2.1 g3) q
 rw[nz g3];erw[bF,pd (du p rfl)];have G:(plK ps).length=ps.length:=by simp[plK]
 have F:=C.le;refine pd (v:=.non) (S':=set S pq<|.dct<|plK<|ps++[pl]) ?_ ?_
 .show zB5 pq (.int pl) (.bl true) S=_;unfold zB5;rw[k];show fits _ _=_;rw[zBd (by show _<=2^24;lia),tM g3]
 have C':ps.length<300->ChS h pq (ps++[pl]) (set S pq<|.dct<|plK<|ps++[pl]):=λg=>⟨atK k p (λz=>nomatch z),zAc k,by rw[xAb];show ps.length+1<=300;lia⟩
 have C1:at? (set S pq<|.dct<|plK<|ps++[pl]) pq=some (.dct<|plK<|ps++[pl]):=zAc k;have P':Pc pq S<|set S pq<|.dct<|plK<|ps++[pl]:=⟨by rw[zBb];exact xAg _,λa b=>atN (Ne.symm a) b⟩
 have r:=P'.ky (atD p k) p;erw[pd (du r rfl),pd (tW C1),pd (v:=.bl<|decide<|(300:Int)<(plK<|ps++[pl]).length) (S':=set S pq<|.dct<|plK<|ps++[pl]) rfl];by_cases g4:ps.length<300
 .rw[xCn<|by simp[plK];lia];erw[bF,<-hk _ (xCg ⟨g1,g2,g3,g4⟩) _ (C' g4) P']
 .exact absurd (xCf λz=>g4 z.2.2.2) q
structure TA(vs:B8)(nn:B7):Prop where
 h:∀{fw d:Nat}{S:So}{kq:Nat}{x:C7}{K:C6},at? S kq=some (.lst vs)->K (.tup (nn.map .str)) S->(Gd fw (d+1)).call 4 [.ref kq,.int vs.length] S x K
def cx{up:B0<|Str×Str}(a:at? S kq=some (.lst xs))(b:xs[j]?=some v):pr up .ix [.ref kq,.int j] S=.ok v S:=by
 show ixU (.ref kq) (.int j) S=_;unfold ixU;dsimp only;rw[a];show opt (atI xs (j:Int)) S=_;rw[dQ b];rfl
def tD{k:Str}{r:B8}(g:zAt k eQ=none)(b:(dR.any λy=>decide<|y=k)=true):TA (.str k::r) []:=⟨λ{fw d S kq x K} a hk=>by
 erw[cd ⟨2,5,t4⟩,pd (cx (j:=0) a rfl),<-pd (v:=.tup [.non,.non]) (S':=S) ?_ ?_]
 .delta pr;dsimp only[rC];rw[g,b]
 walk_at"w"
 exact hk⟩
def vE{p:U}:TA [.str "fn",p] []:=⟨λ{fw d S kq x K} a hk=>by
 erw[cd ⟨2,5,t4⟩,pd (cx (j:=0) a rfl)];walk_at"w"
 exact hk⟩
def pG{p:U}:TA [.str "fn",p,.tup<|ns.map .str] ns:=⟨λ{fw d S kq x K} a hk=>by
 erw[cd ⟨2,5,t4⟩,pd (cx (j:=0) a rfl)];walk_at"w"
 erw[pd (cx (j:=2) a rfl)];walk_at"w"
 exact hk⟩
def pF{p:U}:TA [.str "let",p] []:=⟨λ{fw d S kq x K} a hk=>by
 erw[cd ⟨2,5,t4⟩,pd (cx (j:=0) a rfl)];walk_at"w"
 exact hk⟩
def mf{p q:U}:TA [.str "let",p,q] []:=⟨λ{fw d S kq x K} a hk=>by
 erw[cd ⟨2,5,t4⟩,pd (cx (j:=0) a rfl)];walk_at"w"
 exact hk⟩
def md{p q:U}:TA [.str "let",p,.str y,q] [y]:=⟨λ{fw d S kq x K} a hk=>by
 erw[cd ⟨2,5,t4⟩,pd (cx (j:=0) a rfl)];walk_at"w"
 erw[pd (cx (j:=2) a rfl)];walk_at"w"
 exact hk⟩
def pE{p:U}:TA [.str "try",p] []:=⟨λ{fw d S kq x K} a hk=>by
 erw[cd ⟨2,5,t4⟩,pd (cx (j:=0) a rfl)];walk_at"w"
 exact hk⟩
def l9{p q:U}:TA [.str "try",p,q] []:=⟨λ{fw d S kq x K} a hk=>by
 erw[cd ⟨2,5,t4⟩,pd (cx (j:=0) a rfl)];walk_at"w"
 exact hk⟩
def l8{p q r:U}:TA [.str "try",p,q,r] []:=⟨λ{fw d S kq x K} a hk=>by
 erw[cd ⟨2,5,t4⟩,pd (cx (j:=0) a rfl)];walk_at"w"
 exact hk⟩
def lZ{p q r:U}:TA [.str "try",p,q,r,.str y] [y]:=⟨λ{fw d S kq x K} a hk=>by
 erw[cd ⟨2,5,t4⟩,pd (cx (j:=0) a rfl)];walk_at"w"
 erw[pd (cx (j:=4) a rfl)];walk_at"w"
 exact hk⟩
def vD{p:U}:TA [.str "match",p] []:=⟨λ{fw d S kq x K} a hk=>by
 erw[cd ⟨2,5,t4⟩,pd (cx (j:=0) a rfl)];walk_at"w"
 exact hk⟩
def vC{p q:U}:TA [.str "match",p,q] []:=⟨λ{fw d S kq x K} a hk=>by
 erw[cd ⟨2,5,t4⟩,pd (cx (j:=0) a rfl)];walk_at"w"
 exact hk⟩
def vB{p q r:U}:TA [.str "match",p,q,r] []:=⟨λ{fw d S kq x K} a hk=>by
 erw[cd ⟨2,5,t4⟩,pd (cx (j:=0) a rfl)];walk_at"w"
 exact hk⟩
def vA{p q r:U}:TA [.str "match",p,q,r,.tup<|ns.map .str] ns:=⟨λ{fw d S kq x K} a hk=>by
 erw[cd ⟨2,5,t4⟩,pd (cx (j:=0) a rfl)];walk_at"w"
 erw[pd (cx (j:=4) a rfl)];walk_at"w"
 exact hk⟩
def vz{p q r s u:U}:TA [.str "match",p,q,r,s,u] []:=⟨λ{fw d S kq x K} a hk=>by
 erw[cd ⟨2,5,t4⟩,pd (cx (j:=0) a rfl)];walk_at"w"
 exact hk⟩
def zCe(h:xs.length<=4)(hk:K (.tup xs) S):(Gd fw<|d+3).call 14 [.tup xs] S x K:=by
 erw[cd ⟨1,2,t14⟩,db (xDk<|show xs.length<=1000 by lia),pv (.bl true),bF,pv (.int xs.length),pd (v:=.bl<|decide<|(4:Int)<xs.length) (S':=S) rfl];rw[xCn ()];erw[bF];exact hk
theorem vU:∀{xs ys:B8},(∀y∈xs,pvB y=true)->K (.lst<|ys++xs) S->lcK (Gd fw<|d+2) (zCu [1] true [none,none] (Jb 9 J3)<|Gd fw<|d+2) xs ys S K
 |[],ys,_,hk=>by
  rw[xB0] at hk;exact hk
 |y::xs,ys,h,hk=>by
  erw[db (h y<|xAr ..),vU (xs:=xs) (λz a=>h z<|xAs _ a)];rw[xAx];exact hk
theorem vW:∀{xs ys:B8},(∀y∈xs,pvB y=true)->K (.lst<|ys++xs.map λv=>.bl<|zBr v) S->lcK (Gd fw<|d+2) (zCu [1] true [none,none] (Jb 6 J3)<|Gd fw<|d+2) xs ys S K
 |[],ys,_,hk=>by
  rw[List.map_nil,xB0] at hk;exact hk
 |y::xs,ys,h,hk=>by
  erw[isn (h y<|xAr ..),vW (xs:=xs) (λz a=>h z<|xAs _ a)];rw[xAx];exact hk
theorem jO:∀{xs:B7},zCx (xs.map .str)=some xs
 |[]=>rfl
 |x::xs=>by
  show(zCx<|xs.map .str).map _=_;rw[jO];rfl
def gi{n:Nat}(h:n<=1000):Nat.ble n sizeLine=true:=xDk (by show n<=2^24;lia)
set_option tactic.hygienic true
def xS(h:Nmz (zAg ·=true) ns)(hk:K (.tup<|ns.map .str) S):(Gd fw<|d+4).call 15 [.tup<|ns.map .str] S x K:=by
 have g:=h.few;have a:(ns.map U.str).length=ns.length:=xAa ..;have b:∀y∈ns.map U.str,pvB y=true:=λy k=>by
  let⟨w,o,rfl⟩:=xA2.mp k;have:=h.ok w o;unfold zAg zAp at this;rw[xCh,xCh,xCh] at this;have:=xCo this.1.1.2;exact xDk ()
 erw[cd ⟨1,2,t15⟩,zCe (d:=d) (by rw[a];exact g),pv (.tup<|ns.map .str),<-bI (c:=Nat.ble (ns.map U.str).length sizeLine) (λ_=>?_) λz=>absurd (gi (n:=(ns.map U.str).length)<|by rw[a];lia) (by rw[z];decide),vU (d:=d+1) b];rw[xC6];erw[pv (.tup<|ns.map .str),pv (.tup<|ns.map .str),<-bI (c:=Nat.ble (ns.map U.str).length sizeLine) (λ_=>?_) λz=>absurd (gi (n:=(ns.map U.str).length)<|by rw[a];lia) (by rw[z];decide),vW (d:=d+1) b];rw[xC6];refine pd (v:=.bl true) (S':=S) ?_ ?_
 .show(match blL ((ns.map U.str).map λv=>U.bl<|zBr v) with|some bs=>Res.ok (.bl<|bs.all id) S|none=>.stuck)=_;rw[gJ];dsimp only;rw[List.all_map,List.all_map,show ns.all ((id ∘ zBr) ∘ U.str)=true from xCx.mpr h.ok]
 erw[bF,<-pd (v:=.int ns.length) (S':=S) ?_ ?_]
 .show(match zCx (ns.map U.str) with|some ws=>(match decide (ws.length<=4/\ws.Nodup) with|true=>Res.ok (.int ws.length) S|false=>.stuck)|none=>.stuck)=_;rw[jO];dsimp only;rw[xBd ⟨g,h.nd⟩]
 erw[pd (v:=.int ns.length) (S':=S) (by show Res.ok (.int ((ns.map U.str).length:Nat)) S=_;rw[a]),pd (v:=.bl false) (S':=S) (by show Res.ok (.bl<|decide<|(ns.length:Int)<ns.length) S=_;rw[xCn ()]),bF,<-hk]
set_option tactic.hygienic false
end
structure zD6(s:Str)(v:U)(f:B'->B1 (B'))(th:B7)(wi:Int)(D:Nat):Prop where
 h:∀{fw d h pq:Nat}{ps:B'}{S:So}{x:C7}{K:C6},D<=d->ChS h pq ps S->(∀ps',f ps=some ps'->∀S',ChS h pq ps' S'->Pc pq S S'->K v S')->f ps≠none->(Gd fw d).call 13 [.ref h,.str s,v,.tup (th.map .str),.int wi] S x K
structure Chk(v:U)(f:B'->B1 (B'))(th:B7)(wi:Int)(D:Nat):Prop where
 h:∀{fw d h pq:Nat}{ps:B'}{S:So}{x:C7}{K:C6},D<=d->ChS h pq ps S->(∀ps',f ps=some ps'->∀S',ChS h pq ps' S'->Pc pq S S'->K v S')->f ps≠none->(Gd fw d).call 11 [.ref h,v,.tup (th.map .str),.int wi] S x K
inductive Its(th:List Str)(wi:Int)(D:Nat):List U->List (Str×U)->(List Int->Option (List Int))->Prop
 |nil {vs:List U}:Its th wi D vs [] some
 |cons {vs:List U} {s:Str} {v:U} {nn:List Str} {r:List (Str×U)} {f g:List Int->Option (List Int)} (t:TA vs nn) (c:zD6 s v f (th++nn) wi D) (hn:nn.length<=10) (i:Its th wi D (vs++[v]) r g):Its th wi D vs ((s,v)::r) λps=>(f ps).bind g
theorem yr{d kq:Nat}(hD:D<=d+1)(X:th.length<=1000):∀{vs:B8}{items:B0<|Str×U}{f:B'->B1 (B')},Its th wi D vs items f->∀{S:So}{ps:B'}{a b c:B1 U},ChS h pq ps S->kq≠pq->at? S kq=some (.lst vs)->vs.length+items.length<=100 ->
  (∀k,f ps=some k->∀S' a b c,ChS h pq k S'->S.length<=S'.length->(∀{q o},q≠pq->q≠kq->at? S q=some o->at? S' q=some o)->at? S' kq=some (.lst (vs++items.map (·.2)))->kk [some<|.ref h,a1,some<|.tup<|th.map .str,some<|.int wi,a4,some<|.ref kq,a6,a,b,c] S') ->
  f ps≠none ->
  zB2 (items.map λp=>U.tup [.str p.1,p.2]) (λw σ1 S2 nx=>tgt [7,8] false (Gd fw<|d+1) w σ1 λσ2=>bd9 (Gd fw<|d+1) σ2 S2<|lpE E nx) [some<|.ref h,a1,some<|.tup<|th.map .str,some<|.int wi,a4,some<|.ref kq,a6,a,b,c] S kk:=by
 intro vs items f Z;induction Z with
 |nil=>
  intro S ps a b c C H hk Q n K;erw[n ps rfl S a b c C (xAg _) (λ_ _ z=>z)];rw[List.map_nil,xB0];exact hk
 |@cons vs s v R r f g t ci Y i W=>
  intro S ps a b c C H hk Q n K;have h1:=C.ob;rw[xBs,zB2];erw[pd (dN hk),t.h hk,<-pd (v:=.tup<|(th++R).map .str) (S':=S) ?_ ?_]
  .show fits _ _=_;rw[zBd (by show _<=2^24;rw[xAa,xAa];lia),xAi]
  erw[pd (cv hk),pd (cm h1 rfl),<-ci.h hD C (λJ I S1 C1 p1=>?_) λI=>K (by show(f ps).bind g=none;rw[I];rfl)];have F:=p1.ky H hk;simp only[xAo] at Q;erw[pd (cZ F<|by show _<=2^24;lia)];have C2:ChS h pq J<|set S1 kq<|.lst<|vs++[v]:=⟨atK F C1.ob (λz=>nomatch z),atN H C1.di,C1.le⟩
  refine W C2 H (zAc F) (by simp;lia) (λk M S' a b c C' ln T G=>?_) λM=>K (by show(f ps).bind g=_;rw[I];exact M)
  .erw[n k (by show(f ps).bind g=_;rw[I];exact M) S' a b c C' (by rw[zBb] at ln;exact xCk p1.len ln) (λP O z=>T P O<|atN (Ne.symm O)<|p1.ky P z)];rw[xAx] at G;exact G
def zHm{a b:U}{r:B8}:pr ups (.sl false true false) [.tup<|a::b::r,.int 2] []=.ok (.tup r) []:=by
 show slice false (.tup<|a::b::r) (some ((2:Nat):Int)) none []=_;unfold slice;dsimp only;rw[HT.sIx_nat,show min 2 (a::b::r).length=2 by simp,xCn ()];dsimp only;congr 2;unfold zF6;rw[HT.sIx_nat,show min 2 (a::b::r).length=2 by simp,HT.sIx_none];simp
def gQ{a b:U}{r:B8}:pr ups (.sl false true false) [.tup<|a::b::r,.int 2] S=.ok (.tup r) S:=by
 have e:∀S,pr ups (.sl false true false) [.tup<|a::b::r,.int 2] S=slice false (.tup<|a::b::r) (some 2) none S:=λ_=>rfl;have:=zHm (a:=a) (b:=b) (r:=r);rw[e] at this⊢;unfold slice at this⊢;dsimp only at this⊢;split at this
 .cases this
 .injection this with this _;rw[this]
theorem lW:∀{its:B0<|Str×U},zBq (its.map λp=>.str p.1) (its.map (·.2))=its.map λp=>.tup [.str p.1,p.2]
 |[]=>rfl
 |p::its=>by
  show U.tup [.str p.1,p.2]::zBq _ _=_;rw[lW];rfl
noncomputable def ndF(wi pl:Int)(g:B'->B1 (B'))(ps:B'):B1<|B':=(plA pl ps).bind λq=>if wi<=20 then g q else none
theorem ic{P:U}{k:Str}{pl wi':Int}{g:B'->B1 (B')}{b:B6}(H:P=.tup (.str k::.int pl::items.map (·.2)))(hf:zAt k cq=some (.kt<|items.map λp=>.str p.1))(hw:(!zBc (.str k) [.str "number",.str "name"])=b)(w:wi'=if b then wi+1 else wi)(R:k.length<=1000)(hil:items.length<=10)(Q:th.length<=1000)(hD:4<=D)(hI:wi'<=20->Its th wi' D [.str k,.int pl] items g):Chk P (ndF wi' pl g) th wi<|D+1:=by
 refine⟨?_⟩;intro fw d h pq Z S x K hd C hk O;obtain⟨d,rfl⟩:∃d',d=d'+4:=⟨d-4,()⟩
 erw[cd ⟨4,10,t11⟩];rw[H];have i:(items.map (·.2)).length=items.length:=xAa ..;erw[db (xDk<|by simp only[xAo,i];lia),pv (.bl true),bF,pd (v:=.int (items.length+2:Nat)) (S':=S) (by show Res.ok (.int ((items.map (·.2)).length+1+1:Nat)) S=_;rw[i]),pd (v:=.bl false) (S':=S) (by show Res.ok (.bl<|decide<|((items.length+2:Nat):Int)<2) S=_;rw[xCn ()]),bF,pd cy,db (xDk R),pd eK,db rfl,pd (v:=.ref S.length) (S':=S++[.lst [.str k,.int pl]]) (by rfl)];have n:at? (S++[Ob.lst [.str k,.int pl]]) S.length=some (.lst [.str k,.int pl]):=zA3;have C1:ChS h pq Z<|S++[.lst [.str k,.int pl]]:=⟨zBu C.ob,zBu C.di,C.le⟩
 have hq:S.length≠pq:=by have:=zBt C.di;lia
 have r:S.length<=(S++[Ob.lst [.str k,.int pl]]).length:=⋯
 have ky1:∀{q o},at? S q=some o->at? (S++[Ob.lst [.str k,.int pl]]) q=some o:=λz=>zBu z;generalize S++[Ob.lst [.str k,.int pl]]=T at n C1 r ky1⊢;erw[pd (cx (j:=0) n rfl),cd ⟨1,1,t3⟩,pv (.bl true),bT,pd (v:=.kt<|items.map λp=>.str p.1) (S':=T) (by delta pr;dsimp only[dF];rw[hf]),pv (.bl false),bF,pd (v:=.int (items.length+2:Nat)) (S':=T) (by show Res.ok (.int ((items.map (·.2)).length+1+1:Nat)) T=_;rw[i]),pd (v:=.int items.length) (S':=T) (by show Res.ok (.int ((items.map λp=>U.str p.1).length:Nat)) T=_;rw[xAa]),pv (.int<|2+items.length),pd (v:=.bl false) (S':=T) (by show Res.ok (.bl (!(decide<|((items.length+2:Nat):Int)=2+items.length))) T=_;rw[xBd ()];rfl),bF];have h1:=C1.ob;erw[pd (cm h1 rfl),pd (cx (j:=1) n rfl),<-wu (d:=d) C1 (λJ Y T2 C2 p2=>?_) λY=>O (by unfold ndF;rw[Y];rfl)];have F:=p2.ky hq n;erw[pd (cx (j:=0) F rfl),pd (v:=.bl b) (S':=T2) (by show obB (some<|zBc (.str k) [.str "number",.str "name"]) not T2=_;rw[<- hw];rfl)];have I:ndF wi' pl g Z=if wi'<=20 then g J else none:=by unfold ndF;rw[Y];rfl
 have G:∀{c1 c2 c3:B1 U},(sQ (J9 (tB<|J1 .gt J6<|Je 20)<|Jc<|sX "NoPart" [] aN)<|sQ (sF (J1 .zip Jm<|J1 (.sl false true false) Ja Jq) [7,8] false bd9)<|J5<|J4 .tupOf Jf) (Gd fw<|d+3) [some<|.ref h,some P,some<|.tup<|th.map .str,some<|.int wi',some P,some<|.ref S.length,some<|.kt<|items.map λp=>.str p.1,c1,c2,c3] T2<|zAk x K:=by
  intro c1 c2 c3;erw[pd (v:=.bl<|decide<|(20:Int)<wi') (S':=T2) rfl];by_cases h20:wi'<=20
  case neg=>
   exact absurd (by rw[I,xCf h20]) O
  rw[xCn ()];rw[xCg h20] at I;erw[bF];rw[H];erw[pd gQ,<-pd (v:=.tup<|items.map λp=>.tup [.str p.1,p.2]) (S':=T2) ?_ ?_]
  .show(match Nat.beq (items.map λp:Str×U=>U.str p.1).length (items.map λp:Str×U=>p.2).length with|true=>Res.ok (.tup<|zBq (items.map λp:Str×U=>U.str p.1) (items.map λp:Str×U=>p.2)) T2|false=>.stuck)=_;rw[i,xAa,show Nat.beq items.length items.length=true from Nat.beq_refl _,lW]
  refine yr (d:=d+2) (D:=D) () Q (hI h20) C2 hq F (by show 2+items.length<=100;lia) (λM X S' a b c C' ln ky W=>?_) λX=>O (by rw[I,X])
  .erw[pd (v:=.tup (.str k::.int pl::items.map (·.2))) (S':=S') (by show zA1 (.ref S.length) S'=_;unfold zA1;dsimp only[lsU];rw[W];rfl)];rw[<- H];exact hk M (by rw[I,X]) S' C' ⟨xCk r<|xCk p2.len ln,λn1 z=>ky n1 (by have:=zBt z;lia)<|p2.ky n1<|ky1 z⟩
 rw[<- H];cases b with
 |true=>
  erw[bT,pd (v:=.int wi') (S':=T2) (by rw[w];rfl),<-G]
 |false=>
  erw[bF];rw[show wi=wi' by rw[w];rfl];exact G
section
variable{th:B7}{wi pl i:Int}{w y t k:Str}{p q v a b:U}{r xs:B8}{D D':Nat}{f g:B'->B1 (B')}{s:Str}
def Chk.mono(h:Chk v f th wi D)(d:D<=D'):Chk v f th wi D':=⟨λa=>h.h<|xCk d a⟩
def zD6.mono(h:zD6 s v f th wi D)(d:D<=D'):zD6 s v f th wi D':=⟨λa=>h.h<|xCk d a⟩
structure Kp(S S':So):Prop where
 len:S.length<=S'.length
 ky:∀{q:Nat}{o:Ob},at? S q=some o->at? S' q=some o
def Kp.trans{S1 S2:So}(h1:Kp S S1)(d:Kp S1 S2):Kp S S2:=⟨xCk h1.len d.len,λa=>d.ky<|h1.ky a⟩
def Kp.refl:Kp S S:=⟨xAg _,λz=>z⟩
def Kp.app{T:So}:Kp S<|S++T:=⟨⋯,λb=>zBu b⟩
structure Rf(v:U):Prop where
 h:∀{fw d h:Nat}{S:So}{x:C7}{K:C6}{th wi:U},(∀S',Kp S S'->x NP S')->(Gd fw (d+4)).call 11 [.ref h,v,th,wi] S x K
noncomputable def zJn:U->B6
 |.tup _=>true
 |_=>false
theorem lS(o:pvB v=true)(C:zJn v=false):Rf v:=⟨λ{fw d h S x K th wi} n=>by
 erw[cd ⟨4,10,t11⟩,db (d:=d+1) o];have n:=n S Kp.refl;cases v with
 |tup xs=>cases C
 |non=>walk_at"w";exact n
 |bl b=>walk_at"w";exact n
 |int i=>walk_at"w";exact n
 |str w=>walk_at"w";exact n
 |lst xs=>walk_at"w";exact n
 |_=>cases o⟩
def oR(o:xs.length<2):Rf<|.tup xs:=⟨λ{fw d h S x K th wi} n=>by
 refine cd ⟨4,10,t11⟩ ?_;refine db (d:=d+1) (xDk ()) ?_;refine pv (.bl true) ?_;refine bF ?_;refine pv (.int xs.length) ?_;refine pd (v:=.bl<|decide<|(xs.length:Int)<2) (S':=S) rfl ?_;rw[xBd ()];refine bT ?_;exact n S Kp.refl⟩
def vi{t:C4}{d:Nat}{x:C7}{K:C6}{th:U}{wi:U}(C:r.length<=100)(o:pvB a=true)(n:pvB b=true)(hk:t (Gd fw<|d+2) [some<|.ref h,some<|.tup<|a::b::r,some th,some wi,some<|.tup<|a::b::r,some<|.ref S.length,none,none,none,none] (S++[.lst [a,b]])<|zAk x K) :
  (sQ (sA 4<|Jb 9 J3)<|sQ (J9 (tOr' (tNt<|tB<|J4 (.isT "tuple") Ja)<|tB<|J1 .lt (J4 .len Ja) Jq)<|Jc<|sX "NoPart" [] aN)<|sQ (sA 5<|J1 (.lst true) (Jb 9<|J8 Ja Jh)<|Jb 9<|J8 Ja Ji) t) (Gd fw<|d+2) [some<|.ref h,some<|.tup<|a::b::r,some th,some wi,none,none,none,none,none,none] S (zAk x K):=by
 erw[db (d:=d) (xDk<|by simp only[xAo];lia),pv (.bl true),bF,pv (.int (r.length+1+1:Nat)),pd (v:=.bl false) (S':=S) (by show Res.ok (.bl<|decide<|((r.length+1+1:Nat):Int)<2) S=_;rw[xCn ()]),bF,pd cy,db (d:=d) o,pd eK,db (d:=d) n,pd (v:=.ref S.length) (S':=S++[.lst [a,b]]) (by rfl),<-hk]
def vj{fs:B8}(G:r.length<=100)(C:k.length<=1000)(I:pvB b=true)(H:zAt k cq=some (.kt fs))(F:fs.length≠r.length):Rf<|.tup<|.str k::b::r:=⟨λ{fw d h S x K th wi} o=>by
 refine cd ⟨4,10,t11⟩ ?_;refine vi (d:=d+1) G (xDk C) I ?_;have n:at? (S++[Ob.lst [.str k,b]]) S.length=some (.lst [.str k,b]):=zA3;have P1:Kp S<|S++[Ob.lst [.str k,b]]:=Kp.app;generalize S++[Ob.lst [.str k,b]]=T at n P1⊢;have o:=o T P1;refine pd (cx (j:=0) n rfl) ?_;refine cd ⟨1,1,t3⟩ ?_;refine pv (.bl true) ?_;refine bT ?_;refine pd (v:=.kt fs) (S':=T) (by delta pr;dsimp only[dF];rw[H]) ?_;refine pv (.bl false) ?_;refine bF ?_;refine pv (.int (r.length+1+1:Nat)) ?_;refine pv (.int fs.length) ?_;refine pv (.int<|2+fs.length) ?_;refine pd (v:=.bl true) (S':=T) (by show Res.ok (.bl (!(decide<|((r.length+1+1:Nat):Int)=2+fs.length))) T=_;rw[xCn ()];rfl) ?_;refine bT ?_;exact o⟩
def AC(O:s≠"part")(M:s≠"parts")(J:s≠"names")(n:pvB v=true)(F:zF2 s v th=true):zD6 s v some th wi 4:=⟨λ{fw d h pq o S x K} I C hk H=>by
 obtain⟨d,rfl⟩:∃G,d=G+4:=⟨d-4,()⟩
 erw[cd ⟨5,6,t13⟩];walk_at"w"
 refine db n ?_;refine zAs n ?_;rw[F];refine bF ?_;exact hk o rfl S C Pc.refl⟩
def sJ(o:Nmz (zAg ·=true) ns):zD6 "names" (.tup<|ns.map .str) some th wi 5:=⟨λ{fw d h pq n S x K} H C hk G=>by
 obtain⟨d,rfl⟩:∃F,d=F+5:=⟨d-5,()⟩
 erw[cd ⟨5,6,t13⟩];walk_at"w"
 exact xS (d:=d) o (hk n rfl S C Pc.refl)⟩
def vg(c:Chk p f th wi D):zD6 "part" p f th wi<|D+1:=⟨λ{fw d h pq F S x K} G C hk n=>by
 obtain⟨d,rfl⟩:∃o,d=o+1:=⟨d-1,()⟩
 erw[cd ⟨5,6,t13⟩];have H:=C.ob;walk_at"w"
 exact c.h () C hk n⟩
inductive zEx(th:List Str)(wi:Int)(D:Nat):List U->(List Int->Option (List Int))->Prop
 |nil:zEx th wi D [] some
 |cons {p:U} {r:List U} {f g:List Int->Option (List Int)} (h:Chk p f th wi D) (i:zEx th wi D r g):zEx th wi D (p::r) λps=>(f ps).bind g
theorem rl{d:Nat}{K:C6}(M:D<=d):∀{Ps:B8}{f:B'->B1 (B')},zEx th wi D Ps f->∀{ys:B8}{ps:B'}{S:So},ChS h pq ps S->(∀n,f ps=some n->∀S',ChS h pq n S'->Pc pq S S'->K (.lst<|ys++Ps) S')->f ps≠none ->
  lcK (Gd fw d) (zCu [1] true [none,none,some<|.int wi,some<|.tup<|th.map .str,some<|.ref h] (cM "Checker" "check_part" 11 Ja (Y0 J3 J6 J7) [])<|Gd fw d) Ps ys S K:=by
 intro Ps f c;induction c with
 |nil=>
  intro ys ps S C hk G;have:=hk ps rfl S C Pc.refl;rw[xB0] at this;exact this
 |@cons p r f g c i J=>
  intro ys ps S C hk G;erw[pd (cm (C:="Checker") C.ob rfl),<-c.h M C (λI o S1 C1 p1=>?_) λo=>G (by show(f ps).bind g=_;rw[o];rfl),<-J C1 (λF H S2 C2 p2=>?_) λH=>G (by show(f ps).bind g=_;rw[o];exact H)];have:=hk F (by show(f ps).bind g=_;rw[o];exact H) S2 C2<|p1.trans p2;rw[xAx];exact this
def sH{Ps:B8}(c:zEx th wi D Ps f)(H:Ps.length<=4)(O:4<=D):zD6 "parts" (.tup Ps) f th wi<|D+1:=⟨λ{fw d h pq J S x K} M C hk G=>by
 obtain⟨d,rfl⟩:∃I,d=I+4:=⟨d-4,()⟩
 erw[cd ⟨5,6,t13⟩];have P:=C.ob;walk_at"w"
 erw[zCe (d:=d) H];walk_at"w"
 erw[<-bI (c:=Nat.ble Ps.length sizeLine) (λ_=>?_) λz=>absurd (gi (n:=Ps.length) ()) (by rw[z];decide),<-rl () c (ys:=[]) C (λo e S' C' F=>?_) G];walk_at"w"
 exact hk o e S' C' F⟩
end
section
variable{th sc:B7}{wi pl i:Int}{w y t k:Str}{p q v a b:U}{r xs:B8}{D D' d:Nat}{f g:B'->B1 (B')}{s:Str}
def Chk.to(h:Chk v f th wi D)(e:f=g):Chk v g th wi D:=e▸h
inductive Tr where
 |nd (pl:Int) (up:Bool) (cs:List Tr)
mutual
noncomputable def Tr.ck:Tr->Int->B'->B1 (B')
 |.nd pl up n,wi=>ndF (if up then wi+1 else wi) pl<|Tr.cks n<|if up then wi+1 else wi
noncomputable def Tr.cks:B0 Tr->Int->B'->B1 (B')
 |[],_=>some
 |c::r,wi=>λn=>(c.ck wi n).bind<|Tr.cks r wi
end
mutual
noncomputable def Pg.tr:Pg->Tr
 |.num pl _=>.nd pl false []
 |.nam pl _=>.nd pl false []
 |.fn pl _ b=>.nd pl true [b.tr]
 |.call pl f as=>.nd pl true<|f.tr::Pg.trs as
 |.lt pl _ a b=>.nd pl true [a.tr,b.tr]
 |.st pl _ a=>.nd pl true [a.tr]
 |.dd pl a b=>.nd pl true [a.tr,b.tr]
 |.iff pl a b c=>.nd pl true [a.tr,b.tr,c.tr]
 |.math pl _ a b=>.nd pl true [a.tr,b.tr]
 |.make pl _ as=>.nd pl true<|Pg.trs as
 |.mat pl a _ _ b c=>.nd pl true [a.tr,b.tr,c.tr]
 |.rai pl _ a=>.nd pl true [a.tr]
 |.try_ pl a _ _ b=>.nd pl true [a.tr,b.tr]
 |.tell pl a=>.nd pl true [a.tr]
 |.ask pl=>.nd pl true []
noncomputable def Pg.trs:B0 Pg->B0 Tr
 |[]=>[]
 |a::r=>a.tr::Pg.trs r
end
def nM:(λps=>(f ps).bind some)=f:=funext λps=>by cases f ps <;> rfl
theorem eG:∀{th:B7},w∈th->zBc (.str w) (th.map U.str)=true
 |y::th,h=>by
  show((y==w)||zBc (.str w) (th.map U.str))=true;rcases xAv.mp h with rfl|h
  .rw[show(w==w)=true by exact beq_self_eq_true w];rfl
  .rw[eG h,Bool.or_true]
def wlen(h:zAp w=true):w.length<=1000:=by
 unfold zAp at h;rw[xCh,xCh] at h;have:=xCo h.1.2;lia
def nword(h:zAg w=true):zAp w=true:=by
 unfold zAg at h;rw[xCh] at h;exact h.1
def oword(h:opV (.str w)=true):zAp w=true:=by
 have h:(zAp w&&_)=true:=h;rw[xCh] at h;exact h.1
variable{vs:B8}{nn:B7}{it:B0<|Str×U}
def Its.to(h:Its th wi D vs it f)(e:f=g):Its th wi D vs it g:=e▸h
def i1(t:TA vs nn)(H:s≠"part")(G:s≠"parts")(F:s≠"names")(n:pvB v=true)(C:zF2 s v (th++nn)=true)(i:Its th wi D (vs++[v]) it f)(o:nn.length<=10:=by simp)(I:5<=D:=by lia):Its th wi D vs ((s,v)::it) f:=
 (Its.cons t ((AC H G F n C).mono ()) o i).to rfl
def pvS(h:zAp w=true):pvB (.str w)=true:=xDk<|wlen h
def zDo(t:TA vs nn)(h:zAp w=true)(i:Its th wi D (vs++[.str w]) it f)(n:nn.length<=10:=by simp)(o:5<=D:=by lia):Its th wi D vs (("word",.str w)::it) f:=i1 t ∅ ∅ ∅ (pvS h) h i n o
def iOp(t:TA vs nn)(h:opV (.str w)=true)(i:Its th wi D (vs++[.str w]) it f)(n:nn.length<=10:=by simp)(o:5<=D:=by lia):Its th wi D vs (("op",.str w)::it) f:=i1 t ∅ ∅ ∅ (pvS<|oword h) h i n o
def zFz(t:TA vs nn)(h:zAg w=true)(i:Its th wi D (vs++[.str w]) it f)(n:nn.length<=10:=by simp)(o:5<=D:=by lia):Its th wi D vs (("name",.str w)::it) f:=i1 t ∅ ∅ ∅ (pvS<|nword h) h i n o
def zFx(t:TA vs nn)(h:zAg w=true)(o:w∈th)(i:Its th wi D (vs++[.str w]) it f)(n:nn.length<=10:=by simp)(C:5<=D:=by lia):Its th wi D vs (("used",.str w)::it) f:=
 i1 t ∅ ∅ ∅ (pvS<|nword h) (by show(zAg w&&zBc (.str w) ((th++nn).map .str))=true;rw[h,eG<|xBw _ o];rfl) i n C
def zDz{xs:B7}(t:TA vs nn)(h:Nmz (zAg ·=true) xs)(i:Its th wi D (vs++[.tup<|xs.map .str]) it f)(n:nn.length<=10:=by simp)(o:5<=D:=by lia):Its th wi D vs (("names",.tup<|xs.map .str)::it) f:=(Its.cons t ((sJ h).mono o) n i).to rfl
def zA7(t:TA vs nn)(c:Chk p f (th++nn) wi<|2*d+9)(i:Its th wi (2*d+10) (vs++[p]) it g)(n:nn.length<=10:=by simp):Its th wi (2*d+10) vs (("part",p)::it) λps=>(f ps).bind g:=.cons t (vg c) n i
def ap0(c:Chk p f th wi D):Chk p f (th++[]) wi D:=by rw[xB0];exact c
def tn{k:Str}{r:B8}(o:zAt k eQ=none:=by rfl)(n:(dR.any λy=>decide<|y=k)=true:=by decide):TA (.str k::r) []:=tD o n
theorem pj:∀{as:B0 Pg},(Pg.us as).length=as.length
 |[]=>rfl
 |_::r=>congrArg (·+1)<|pj (as:=r)
theorem mD{wi:Int}:∀{as:B0 Pg},(∀a∈as,Chk a.u (a.tr.ck wi) th wi D)->zEx th wi D (Pg.us as) (Tr.cks (Pg.trs as) wi)
 |[],_=>.nil
 |a::r,h=>.cons (h a<|xAr ..)<|mD λb n=>h b<|xAs _ n
def zDy(t:TA vs [])(h:∀a∈as,Chk a.u (a.tr.ck wi) th wi<|2*d+9)(n:as.length<=4)(i:Its th wi (2*d+10) (vs++[.tup<|Pg.us as]) it g):Its th wi (2*d+10) vs (("parts",.tup<|Pg.us as)::it) λps=>(Tr.cks (Pg.trs as) wi ps).bind g:=
 .cons t (sH (by rw[xB0];exact mD h) (by rw[pj];exact n) ()) ⋯ i
def kd{k:Str}(n:th.length<=1000)(H:Its th (wi+1) (2*d+10) [.str k,.int pl] items g)(G:zAt k cq=some (.kt<|items.map λp=>.str p.1):=by rfl)(F:(!zBc (.str k) [.str "number",.str "name"])=true:=by rfl)(o:k.length<=1000:=by decide)(C:items.length<=10:=by simp):Chk (.tup (.str k::.int pl::items.map (·.2))) (ndF (wi+1) pl g) th wi<|2*(d+1)+9:=
 ic (b:=true) (wi':=wi+1) (D:=2*d+10) rfl G F rfl o C n () λ_=>H
def cO{sc xs:B7}(a:∀y∈sc,zAg y=true)(b:∀y∈xs,zAg y=true):∀y∈sc++xs,zAg y=true:=λy z=>(xAj.mp z).elim (a y)<|b y
def dE(e:zAg y=true):∀z∈[y],zAg z=true:=λz n=>by rw[xAm.mp n];exact e
def dt:∀w∈wds,zAp w=true:=by decide +kernel
def xE:∀w∈ops,opV (.str w)=true:=by decide +kernel
theorem wx{P:Pg}(h:Wf (zAg ·=true) sc d P):(∀y∈sc,zAg y=true)->sc.length+5*d<=1000->∀wi,Chk P.u (P.tr.ck wi) sc wi<|2*d+9:=by
 induction h with
 |@num sc d pl n a b=>
  intro C F wi;exact((ic (items:=[("number",.int n)]) (b:=false) (wi':=wi) (D:=5) rfl (by rfl) (by rfl) rfl ∅ ⋯ () () λ_=>i1 tn ∅ ∅ ∅ rfl (by show decide _=true;exact xBd ⟨a,b⟩) .nil).mono ()).to rfl
 |@nam sc d pl x h=>
  intro C F wi;exact((ic (items:=[("used",.str x)]) (b:=false) (wi':=wi) (D:=5) rfl (by rfl) (by rfl) rfl ∅ ⋯ () () λ_=>zFx tn (C x h) h .nil).mono ()).to rfl
 |@fn sc xs d pl b h I Q=>
  intro C F wi;have O:=h.few;exact(kd (items:=[("names",.tup<|xs.map .str),("part",b.u)]) ()<|zDz vE h<|zA7 pG (Q (cO C h.ok) (by rw[xAb];lia)<|wi+1) .nil ()).to rfl
 |@call sc d pl f as W h M i1 i2=>
  intro C F wi;exact(kd (items:=[("part",f.u),("parts",.tup<|Pg.us as)]) ()<|zA7 tn (ap0<|i1 C ()<|wi+1)<|zDy tn (λa H=>i2 a H C ()<|wi+1) M .nil).to (by rw[nM];rfl)
 |@lt sc d pl x a b G H I i1 i2=>
  intro C F wi;exact(kd (items:=[("name",.str x),("part",a.u),("part",b.u)]) ()<|zFz pF G<|zA7 mf (ap0<|i1 C ()<|wi+1)<|zA7 md (i2 (cO C<|dE G) (by rw[xAb];simp;lia)<|wi+1) .nil).to rfl
 |@st sc d pl x a G H i1=>
  intro C F wi;exact(kd (items:=[("used",.str x),("part",a.u)]) ()<|zFx tn (C x G) G<|zA7 tn (ap0<|i1 C ()<|wi+1) .nil).to rfl
 |@dd sc d pl a b H I i1 i2=>
  intro C F wi;exact(kd (items:=[("part",a.u),("part",b.u)]) ()<|zA7 tn (ap0<|i1 C ()<|wi+1)<|zA7 tn (ap0<|i2 C ()<|wi+1) .nil).to rfl
 |@iff sc d pl a b c H I T i1 i2 i3=>
  intro C F wi;exact(kd (items:=[("part",a.u),("part",b.u),("part",c.u)]) ()<|zA7 tn (ap0<|i1 C ()<|wi+1)<|zA7 tn (ap0<|i2 C ()<|wi+1)<|zA7 tn (ap0<|i3 C ()<|wi+1) .nil).to rfl
 |@math sc d pl o a b R H I i1 i2=>
  intro C F wi;exact(kd (items:=[("op",.str o),("part",a.u),("part",b.u)]) ()<|iOp tn (xE _ R)<|zA7 tn (ap0<|i1 C ()<|wi+1)<|zA7 tn (ap0<|i2 C ()<|wi+1) .nil).to rfl
 |@make sc d pl t as K h M i2=>
  intro C F wi;exact(kd (items:=[("word",.str t),("parts",.tup<|Pg.us as)]) ()<|zDo tn (dt _ K)<|zDy tn (λa H=>i2 a H C ()<|wi+1) M .nil).to (by rw[nM];rfl)
 |@mat sc xs d pl t a b c K G H I T i1 i2 i3=>
  intro C F wi;have O:=G.few;exact(kd (items:=[("part",a.u),("word",.str t),("names",.tup<|xs.map .str),("part",b.u),("part",c.u)]) ()<|zA7 vD (ap0<|i1 C ()<|wi+1)<|zDo vC (dt _ K)<|zDz vB G<|zA7 vA (i2 (cO C G.ok) (by rw[xAb];lia)<|wi+1) (zA7 vz (ap0<|i3 C ()<|wi+1) .nil) ()).to rfl
 |@rai sc d pl w a J H i1=>
  intro C F wi;exact(kd (items:=[("word",.str w),("part",a.u)]) ()<|zDo tn (dt _ J)<|zA7 tn (ap0<|i1 C ()<|wi+1) .nil).to rfl
 |@try_ sc d pl w x a b J G H I i1 i2=>
  intro C F wi;exact(kd (items:=[("part",a.u),("word",.str w),("name",.str x),("part",b.u)]) ()<|zA7 pE (ap0<|i1 C ()<|wi+1)<|zDo l9 (dt _ J)<|zFz l8 G<|zA7 lZ (i2 (cO C<|dE G) (by rw[xAb];simp;lia)<|wi+1) .nil).to rfl
 |@tell sc d pl a H i1=>
  intro C F wi;exact(kd (items:=[("part",a.u)]) ()<|zA7 tn (ap0<|i1 C ()<|wi+1) .nil).to rfl
 |@ask sc d pl=>
  intro C F wi;exact(kd (items:=[]) () .nil).to rfl
end
def okP(pl:Int):Prop:=0<=pl/\pl<=599
mutual
noncomputable def Tr.pls:Tr->B'
 |.nd pl _ a=>pl::Tr.plss a
noncomputable def Tr.plss:B0 Tr->B'
 |[]=>[]
 |c::r=>c.pls++Tr.plss r
end
mutual
def Tr.ok:Tr->Int->Prop
 |.nd pl up a,wi=>okP pl/\(if up then wi+1 else wi)<=20/\Tr.oks a (if up then wi+1 else wi)
def Tr.oks:B0 Tr->Int->Prop
 |[],_=>True
 |c::r,wi=>c.ok wi/\Tr.oks r wi
end
def qu{pl:Int}{ps:B'}(a:okP pl)(d:pl∉ps)(b:ps.length<300):plA pl ps=some (ps++[pl]):=xCg ⟨a.1,a.2,d,b⟩
mutual
theorem Tr.ck_good:∀{T:Tr}{wi:Int}{ps:B'},T.ok wi->(ps++T.pls).Nodup->(ps++T.pls).length<=300->T.ck wi ps=some (ps++T.pls)
 |.nd pl up a,wi,ps,⟨n,k,i⟩,d,b=>by
  have e:ps++(pl::Tr.plss a)=ps++[pl]++Tr.plss a:=⋯
  have d:(ps++(pl::Tr.plss a)).Nodup:=d;have b:(ps++(pl::Tr.plss a)).length<=300:=b;show(plA pl ps).bind (λq=>if(if up then wi+1 else wi)<=20 then Tr.cks a (if up then wi+1 else wi) q else none)=some (ps++(pl::Tr.plss a));rw[e] at d b⊢;have g:=(xBq.mp d).1;rw[qu n (λz=>(xBq.mp g).2.2 pl z pl (xAm.mpr rfl) rfl)<|by rw[xAb,xAb] at b;simp at b;lia];show(if(if up then wi+1 else wi)<=20 then Tr.cks a (if up then wi+1 else wi) (ps++[pl]) else none)=_;rw[xCg k];exact Tr.cks_good i d b
theorem Tr.cks_good:∀{cs:B0 Tr}{wi:Int}{ps:B'},Tr.oks cs wi->(ps++Tr.plss cs).Nodup->(ps++Tr.plss cs).length<=300->Tr.cks cs wi ps=some (ps++Tr.plss cs)
 |[],_,ps,_,_,_=>by show some ps=some (ps++[]);rw[xB0]
 |c::r,wi,ps,⟨g,d⟩,a,b=>by
  have e:ps++(c.pls++Tr.plss r)=ps++c.pls++Tr.plss r:=(xAx ..).symm;have a:(ps++(c.pls++Tr.plss r)).Nodup:=a;have b:(ps++(c.pls++Tr.plss r)).length<=300:=b;show(c.ck wi ps).bind (Tr.cks r wi)=some (ps++(c.pls++Tr.plss r));rw[e] at a b⊢;rw[Tr.ck_good g (xBq.mp a).1<|by rw[xAb] at b;lia];exact Tr.cks_good d a b
end
variable{f:B'->B1 (B')}{v:U}{D fw d:Nat}{S:So}{x:C7}{K:C6}
def vM{T T':So}(p:Pc S.length.succ (S++T) T'):Kp S T':=⟨by have:=p.len;rw[xAb] at this;lia,λ{q o} z=>p.ky (by have:=zBt z;lia)<|zBu z⟩
def chd(hk:ChS S.length S.length.succ [] (S++[.ins "Checker" [("places",.ref<|S.length+1)],.dct []])->(Gd fw<|d+1).call 11 [.ref S.length,v,.tup [],.int 0] (S++[.ins "Checker" [("places",.ref<|S.length+1)],.dct []]) x K):(Gd fw<|d+2).call 17 [v] S x K:=by
 erw[cd ⟨1,1,t17⟩,pd (v:=.ref S.length) (S':=S++[.ins "Checker" []]) (by rfl),cd ⟨1,1,t10⟩,pd ua,pd (qg 0 rfl (by rfl) rfl)];have C:ChS S.length (S.length+1) []<|S++[.ins "Checker" [("places",.ref<|S.length+1)],.dct []]:=⟨zDs (k:=0),zDs,xBn _⟩
 have a:=C.ob;erw[pd (cm (C:="Checker") a rfl),<-hk C]
def checked(c:Chk v f [] 0 D)(b:D<=d+1)(e:(f []).isSome=true)(hk:∀S',Kp S S'->K v S'):(Gd fw<|d+2).call 17 [v] S x K:=chd λC=>c.h b C (λ_ _ S' _ a=>hk S'<|vM a) λz=>by rw[z] at e;cases e
def refused(r:Rf v)(a:∀S',Kp S S'->x NP S'):(Gd fw<|d+5).call 17 [v] S x K:=chd λ_=>r.h λS' k=>a S'<|Kp.app.trans k
theorem lA{wi:Int}:∀{as:B0 Pg},(∀a∈as,a.tr.ok wi)->Tr.oks (Pg.trs as) wi
 |[],_=>trivial
 |a::r,h=>⟨h a<|xAr ..,lA λb g=>h b<|xAs _ g⟩
mutual
theorem cN:∀{P:Pg},P.tr.pls=P.pls
 |.num ..=>rfl
 |.nam ..=>rfl
 |.fn pl _ b=>by show pl::(b.tr.pls++[])=pl::b.pls;rw[cN,xB0]
 |.call pl f as=>by show pl::(f.tr.pls++Tr.plss (Pg.trs as))=pl::(f.pls++Pg.plss as);rw[cN,jd]
 |.lt pl _ a b=>by show pl::(a.tr.pls++(b.tr.pls++[]))=pl::(a.pls++b.pls);rw[cN,cN,xB0]
 |.st pl _ a=>by show pl::(a.tr.pls++[])=pl::a.pls;rw[cN,xB0]
 |.dd pl a b=>by show pl::(a.tr.pls++(b.tr.pls++[]))=pl::(a.pls++b.pls);rw[cN,cN,xB0]
 |.iff pl a b c=>by show pl::(a.tr.pls++(b.tr.pls++(c.tr.pls++[])))=pl::(a.pls++(b.pls++c.pls));rw[cN,cN,cN,xB0]
 |.math pl _ a b=>by show pl::(a.tr.pls++(b.tr.pls++[]))=pl::(a.pls++b.pls);rw[cN,cN,xB0]
 |.make pl _ as=>by show pl::Tr.plss (Pg.trs as)=pl::Pg.plss as;rw[jd]
 |.mat pl a _ _ b c=>by show pl::(a.tr.pls++(b.tr.pls++(c.tr.pls++[])))=pl::(a.pls++(b.pls++c.pls));rw[cN,cN,cN,xB0]
 |.rai pl _ a=>by show pl::(a.tr.pls++[])=pl::a.pls;rw[cN,xB0]
 |.try_ pl a _ _ b=>by show pl::(a.tr.pls++(b.tr.pls++[]))=pl::(a.pls++b.pls);rw[cN,cN,xB0]
 |.tell pl a=>by show pl::(a.tr.pls++[])=pl::a.pls;rw[cN,xB0]
 |.ask ..=>rfl
theorem jd:∀{as:B0 Pg},Tr.plss (Pg.trs as)=Pg.plss as
 |[]=>rfl
 |a::r=>by show a.tr.pls++Tr.plss (Pg.trs r)=a.pls++Pg.plss r;rw[cN,jd]
end
theorem yX{sc:B7}{d:Nat}{P:Pg}(h:Wf (zAg ·=true) sc d P):∀{wi:Int},wi+d<=20->(∀p∈P.pls,okP p)->P.tr.ok wi:=by
 have i:∀{x:Int}{r:B'},(∀p∈x::r,okP p)->okP x/\∀p∈r,okP p:=λh=>⟨h _<|xAr ..,λp z=>h p<|xAs _ z⟩
 have k:∀{r s:B'},(∀p∈r++s,okP p)->(∀p∈r,okP p)/\∀p∈s,okP p:=λh=>⟨λp z=>h p<|xBw _ z,λp z=>h p<|xBt _ z⟩
 have l3:∀{as:B0 Pg}{a:Pg},(∀p∈Pg.plss as,okP p)->a∈as->∀p∈a.pls,okP p:=λ{as a} h ha=>by
  induction as with
  |nil=>cases ha
  |cons b r F=>
   rcases xAv.mp ha with rfl|ha
   .exact(k h).1
   .exact F (k h).2 ha
 induction h with
 |num a b=>intro wi n g;exact⟨(i g).1,by show wi<=20;lia,trivial⟩
 |nam h=>intro wi n g;exact⟨(i g).1,by show wi<=20;lia,trivial⟩
 |fn h o G=>intro wi n g;exact⟨(i g).1,by show wi+1<=20;lia,G () (i g).2,trivial⟩
 |call O h J i1 i2=>intro wi n g;exact⟨(i g).1,by show wi+1<=20;lia,i1 () (k (i g).2).1,lA λa ha=>i2 a ha ()<|l3 (k (i g).2).2 ha⟩
 |lt w ha o i1 i2=>intro wi n g;exact⟨(i g).1,by show wi+1<=20;lia,i1 () (k (i g).2).1,i2 () (k (i g).2).2,trivial⟩
 |st w ha i1=>intro wi n g;exact⟨(i g).1,by show wi+1<=20;lia,i1 () (i g).2,trivial⟩
 |dd ha o i1 i2=>intro wi n g;exact⟨(i g).1,by show wi+1<=20;lia,i1 () (k (i g).2).1,i2 () (k (i g).2).2,trivial⟩
 |iff ha o I i1 i2 q=>intro wi n g;exact⟨(i g).1,by show wi+1<=20;lia,i1 () (k (i g).2).1,i2 () (k (k (i g).2).2).1,q () (k (k (i g).2).2).2,trivial⟩
 |math M ha o i1 i2=>intro wi n g;exact⟨(i g).1,by show wi+1<=20;lia,i1 () (k (i g).2).1,i2 () (k (i g).2).2,trivial⟩
 |make H h J i2=>intro wi n g;exact⟨(i g).1,by show wi+1<=20;lia,lA λa ha=>i2 a ha ()<|l3 (i g).2 ha⟩
 |mat H w ha o I i1 i2 q=>intro wi n g;exact⟨(i g).1,by show wi+1<=20;lia,i1 () (k (i g).2).1,i2 () (k (k (i g).2).2).1,q () (k (k (i g).2).2).2,trivial⟩
 |rai C ha i1=>intro wi n g;exact⟨(i g).1,by show wi+1<=20;lia,i1 () (i g).2,trivial⟩
 |try_ C w ha o i1 i2=>intro wi n g;exact⟨(i g).1,by show wi+1<=20;lia,i1 () (k (i g).2).1,i2 () (k (i g).2).2,trivial⟩
 |tell ha i1=>intro wi n g;exact⟨(i g).1,by show wi+1<=20;lia,i1 () (i g).2,trivial⟩
 |ask=>intro wi n g;exact⟨(i g).1,by show wi+1<=20;lia,trivial⟩
noncomputable def mkS(l:B9):Str:=⟨l.toArray⟩
noncomputable def tl(w:Str):B9:=w.cps.toList
def zY{w:Str}:mkS (tl w)=w:=rfl
def y3:tl (mkS l)=l:=rfl
def eO:(mkS l).length=l.length:=by show l.toArray.size=_;simp
def zAf{w:Str}:(tl w).length=w.length:=by show w.cps.toList.length=w.cps.size;simp
def xX{a b:B9}:mkS a++mkS b=mkS (a++b):=by show(⟨a.toArray++b.toArray⟩:Str)=⟨(a++b).toArray⟩;rw[List.append_toArray]
noncomputable def fl(ws:B0<|B9):B9:=ws.flatMap (32::·)
noncomputable def jn:B0 (B9)->B9
 |[]=>[]
 |a::r=>a++fl r
def jw{a:B9}{r:B0<|B9}:fl (a::r)=32::(a++fl r):=rfl
def yz{a b:B0<|B9}:fl (a++b)=fl a++fl b:=by unfold fl;rw[List.flatMap_append]
theorem kF:∀{r:B0<|B9}{acc:Array Nat},(r.map mkS).foldl (λacc p=>acc++(mkS [32]).cps++p.cps) acc=acc++(fl r).toArray
 |[],acc=>by simp[fl]
 |b::r,acc=>by
  rw[xBs,List.foldl_cons,kF,jw];show acc++[32].toArray++b.toArray++(fl r).toArray=_;simp[Array.append_assoc]
theorem uS:∀{ws:B0<|B9},Builtin.Str.glued (mkS [32]) (ws.map mkS)=mkS (jn ws)
 |[]=>by decide +kernel
 |a::r=>by
  show(⟨(r.map mkS).foldl (λacc p=>acc++(mkS [32]).cps++p.cps) a.toArray⟩:Str)=⟨(a++fl r).toArray⟩;rw[kF];simp
theorem mh:∀{ws:B0<|B9},zCx (ws.map λw=>.str<|mkS w)=some (ws.map mkS)
 |[]=>rfl
 |a::r=>by
  show(zCx<|r.map λw=>.str<|mkS w).map _=_;rw[mh];rfl
noncomputable def ln(ws:B0<|B9):Nat:=(ws.map λl=>l.length+1).sum
theorem fG:∀{ws:B0<|B9},(fl ws).length=ln ws
 |[]=>rfl
 |a::r=>by
  rw[jw];show(a++fl r).length+1=a.length+1+ln r;rw[xAb,fG];lia
theorem pH:∀{ws:B0<|B9},((ws.map mkS).map λy:Str=>y.length).sum+ws.length=ln ws
 |[]=>rfl
 |a::r=>by
  show(mkS a).length+((r.map mkS).map λy:Str=>y.length).sum+(r.length+1)=a.length+1+ln r;rw[eO,<- pH (ws:=r)];lia
theorem fh{ws:B0<|B9}:ln ws<=(jn ws).length+1:=by
 cases ws with
 |nil=>exact xBn _
 |cons a r=>
  show a.length+1+ln r<=(a++fl r).length+1;rw[xAb,fG];lia
def cU{a b:B0<|B9}:ln (a++b)=ln a+ln b:=by unfold ln;rw[xAi,List.sum_append]
theorem fQ:∀{ws:B0<|B9},ws.length<=ln ws
 |[]=>xAg _
 |a::r=>by show r.length+1<=a.length+1+ln r;have:=fQ (ws:=r);lia
set_option genSizeOf true
mutual
inductive Tm where
 |num (pl n:Int)|nam (pl:Int) (x:Str)|nd (k:Str) (pl:Int) (its:Ims)
inductive Ims where
 |nil|e (t:Tm) (r:Ims)|s (ts:Tms) (r:Ims)|n (xs:List Str) (r:Ims)|w (so x:Str) (r:Ims)
inductive Tms where
 |nil|cons (t:Tm) (r:Tms)
end
set_option genSizeOf false
mutual
noncomputable def Tm.u:Tm->U
 |.num pl n=>.tup [.str "number",.int pl,.int n]
 |.nam pl x=>.tup [.str "name",.int pl,.str x]
 |.nd k pl its=>.tup<|.str k::.int pl::its.us
noncomputable def Ims.us:Ims->B8
 |.nil=>[]
 |.e t r=>t.u::r.us
 |.s ts r=>.tup ts.us::r.us
 |.n a r=>.tup (a.map .str)::r.us
 |.w _ x r=>.str x::r.us
noncomputable def Tms.us:Tms->B8
 |.nil=>[]
 |.cons t r=>t.u::r.us
end
noncomputable def Ims.ss:Ims->B7
 |.nil=>[]
 |.e _ r=>"part"::r.ss
 |.s _ r=>"parts"::r.ss
 |.n _ r=>"names"::r.ss
 |.w so _ r=>so::r.ss
noncomputable def dg(n:Int):B9:=tl<|PySem.Str.ofString<|toString n
noncomputable def kw(k:Str):B0<|B9:=if k="math" then[] else[tl k]
noncomputable def br(l:B9):B9:=40::(l++[41])
mutual
noncomputable def Tm.tx:Tm->B9
 |.num _ n=>dg n
 |.nam _ x=>tl x
 |.nd k _ its=>br<|jn<|kw k++its.ws
noncomputable def Ims.ws:Ims->B0 (B9)
 |.nil=>[]
 |.e t r=>t.tx::r.ws
 |.s ts r=>ts.txs++r.ws
 |.n xs r=>br (jn<|xs.map tl)::r.ws
 |.w _ x r=>tl x::r.ws
noncomputable def Tms.txs:Tms->B0 (B9)
 |.nil=>[]
 |.cons t r=>t.tx::r.txs
end
noncomputable def hr(k:Str)(o:Nat):Nat:=if k="math" then o+1 else o+2+k.length
mutual
noncomputable def Tm.mv:Tm->Nat->Tm
 |.num _ n,o=>.num o n
 |.nam _ x,o=>.nam o x
 |.nd k _ its,o=>.nd k o<|its.mv<|hr k o
noncomputable def Ims.mv:Ims->Nat->Ims
 |.nil,_=>.nil
 |.e t r,o=>.e (t.mv o)<|r.mv<|o+t.tx.length+1
 |.s ts r,o=>.s (ts.mv o)<|r.mv<|o+ln ts.txs
 |.n xs r,o=>.n xs<|r.mv<|o+(br<|jn<|xs.map tl).length+1
 |.w so x r,o=>.w so x<|r.mv<|o+x.length+1
noncomputable def Tms.mv:Tms->Nat->Tms
 |.nil,_=>.nil
 |.cons t r,o=>.cons (t.mv o)<|r.mv<|o+t.tx.length+1
end
noncomputable def nmk:B7->Nat->B0 (Nat×B9)
 |[],_=>[]
 |x::a,o=>(o,tl x)::nmk a (o+x.length+1)
noncomputable def hk(k:Str)(o:Nat):B0<|Nat×B9:=if k="math" then[] else[(o+1,tl k)]
mutual
noncomputable def Tm.tk:Tm->Nat->B0 (Nat×B9)
 |.num _ n,o=>[(o,dg n)]
 |.nam _ x,o=>[(o,tl x)]
 |.nd k _ its,o=>(o,[40])::(hk k o++(its.tk (hr k o)++[(o+1+(jn<|kw k++its.ws).length,[41])]))
noncomputable def Ims.tk:Ims->Nat->B0 (Nat×B9)
 |.nil,_=>[]
 |.e t r,o=>t.tk o++r.tk (o+t.tx.length+1)
 |.s ts r,o=>ts.tk o++r.tk (o+ln ts.txs)
 |.n xs r,o=>((o,[40])::(nmk xs (o+1)++[(o+1+(jn<|xs.map tl).length,[41])]))++r.tk (o+(br<|jn<|xs.map tl).length+1)
 |.w _ x r,o=>(o,tl x)::r.tk (o+x.length+1)
noncomputable def Tms.tk:Tms->Nat->B0 (Nat×B9)
 |.nil,_=>[]
 |.cons t r,o=>t.tk o++r.tk (o+t.tx.length+1)
end
noncomputable def pls(acc:B0<|Nat×B9)(c:Nat):B0<|Nat×B9:=acc.dropLast++(acc.getLast?.map λp=>(p.1,p.2++[c])).toList
noncomputable def scan:B9->Nat->B6->B0 (Nat×B9)->B0 (Nat×B9)
 |[],_,_,acc=>acc
 |c::r,o,g,acc=>if c=32 then scan r (o+1) false acc else if c=40\/c=41 then scan r (o+1) false (acc++[(o,[c])]) else if g then scan r (o+1) true (pls acc c) else scan r (o+1) true (acc++[(o,[c])])
def cln(l:B9):Prop:=l≠[]/\∀c∈l,c≠32/\c≠40/\c≠41/\c<200
def mX{b:Nat}{w:B9}{c:Nat}:pls (acc++[(b,w)]) c=acc++[(b,w++[c])]:=by
 unfold pls;simp
theorem mz:∀{w r:B9}{o b:Nat}{v:B9}{acc:B0<|Nat×B9},(∀c∈w,c≠32/\c≠40/\c≠41/\c<200)->scan (w++r) o true (acc++[(b,v)])=scan r (o+w.length) true (acc++[(b,v++w)])
 |[],r,o,b,v,acc,_=>by rw[xB0];rfl
 |c::w,r,o,b,v,acc,h=>by
  let⟨g,k,i⟩:=h c<|xAr ..;show scan (c::(w++r)) _ _ _=_;rw[scan,xCf g,xCf (),xCg rfl,mX,mz λd a=>h d<|xAs _ a,xAo,xAx];rw[show o+1+w.length=o+(w.length+1) by lia];rfl
theorem dl{w r:B9}{o:Nat}(h:cln w):scan (w++r) o false acc=scan r (o+w.length) true (acc++[(o,w)]):=by
 let⟨g,h⟩:=h;cases w with
 |nil=>exact absurd rfl g
 |cons c w=>
  let⟨b,k,i⟩:=h c<|xAr ..;show scan (c::(w++r)) _ _ _=_;rw[scan,xCf b,xCf (),xCf ∅,mz λd a=>h d<|xAs _ a,xAo];rw[show o+1+w.length=o+(w.length+1) by lia];rfl
def fK{r:B9}{o:Nat}{g:B6}:scan (32::r) o g acc=scan r (o+1) false acc:=by rw[scan,xCg rfl]
def my{r:B9}{o:Nat}{g:B6}:scan (40::r) o g acc=scan r (o+1) false (acc++[(o,[40])]):=by rw[scan,xCf ∅,xCg ∅]
def dL{r:B9}{o:Nat}{g:B6}:scan (41::r) o g acc=scan r (o+1) false (acc++[(o,[41])]):=by rw[scan,xCf ∅,xCg ∅]
def m1(k:Str)(its:Ims):Prop:=k="math"->∃so x r,its=.w so x r
mutual
def Tm.cl:Tm->Prop
 |.num _ n=>cln<|dg n
 |.nam _ x=>cln<|tl x
 |.nd k _ its=>cln (tl k)/\m1 k its/\its.cl
def Ims.cl:Ims->Prop
 |.nil=>True
 |.e t r=>t.cl/\r.cl
 |.s ts r=>ts.cl/\r.cl
 |.n a r=>(∀x∈a,cln<|tl x)/\r.cl
 |.w _ x r=>cln (tl x)/\r.cl
def Tms.cl:Tms->Prop
 |.nil=>True
 |.cons t r=>t.cl/\r.cl
end
theorem jS:∀{xs:B7}{r:B9}{o:Nat}{g:B6}{acc:B0<|Nat×B9},(∀x∈xs,cln<|tl x)->scan (fl (xs.map tl)++41::r) o g acc=scan (41::r) (o+(fl<|xs.map tl).length) false (acc++nmk xs (o+1))
 |[],r,o,g,acc,_=>by
  rw[show nmk [] (o+1)=[] from rfl,xB0];show scan (41::r) o g acc=scan (41::r) o false acc;rw[dL,dL]
 |x::xs,r,o,g,acc,h=>by
  rw[xBs,jw];show scan (32::(tl x++fl (xs.map tl)++41::r)) o g acc=_;rw[fK,xAx,dl<|h x<|xAr ..,jS λy a=>h y<|xAs _ a];rw[xAo,xAb,zAf,xAx,show o+1+x.length+(fl<|xs.map tl).length=o+(x.length+(fl<|xs.map tl).length+1) by lia];rfl
theorem kW{xs:B7}{r:B9}{o:Nat}{g:B6}(h:∀x∈xs,cln<|tl x):scan (br (jn<|xs.map tl)++r) o g acc=scan r (o+(br<|jn<|xs.map tl).length) false (acc++((o,[40])::(nmk xs (o+1)++[(o+1+(jn<|xs.map tl).length,[41])]))):=by
 show scan (40::(jn (xs.map tl)++[41]++r)) o g acc=scan r (o+((jn (xs.map tl)++[41]).length+1)) false _;rw[my,xAx,xAb];cases xs with
 |nil=>
  show scan (41::r) _ _ _=_;rw[dL,xAx];rfl
 |cons x xs=>
  show scan (tl x++fl (xs.map tl)++([41]++r)) (o+1) false _=_;rw[xAx,dl<|h x<|xAr ..];show scan (fl (xs.map tl)++41::r) _ _ _=_;rw[jS λy a=>h y<|xAs _ a,dL];show scan r (o+1+(tl x).length+(fl<|xs.map tl).length+1) false _=scan r (o+((tl x++fl (xs.map tl)).length+1+1)) false (acc++((o,[40])::(((o+1,tl x)::nmk xs (o+1+x.length+1))++[(o+1+(tl x++fl (xs.map tl)).length,[41])])));rw[xAb,zAf];rw[show o+1+x.length+(fl<|xs.map tl).length+1=o+(x.length+(fl<|xs.map tl).length+1+1) by lia,show o+1+(x.length+(fl<|xs.map tl).length)=o+1+x.length+(fl<|xs.map tl).length by lia];simp
mutual
theorem iZ:∀{t:Tm}{r:B9}{o:Nat}{acc:B0<|Nat×B9},t.cl->∃g,scan (t.tx++r) o false acc=scan r (o+t.tx.length) g (acc++t.tk o)
 |.num _ n,r,o,acc,h=>⟨true,dl h⟩
 |.nam _ x,r,o,acc,h=>⟨true,dl h⟩
 |.nd k _ its,r,o,acc,⟨w,p,hi⟩=>by
  refine⟨false,?_⟩;show scan (40::(jn (kw k++its.ws)++[41]++r)) o false acc=scan r (o+((jn (kw k++its.ws)++[41]).length+1)) false (acc++((o,[40])::(hk k o++(its.tk (hr k o)++[(o+1+(jn<|kw k++its.ws).length,[41])]))));rw[my,xAx];by_cases e:k="math"
  .let⟨so,x,q,rfl⟩:=p e;have i:kw k=[]:=xCg e;have b:hk k o=[]:=xCg e;have a:hr k o=o+1:=xCg e;rw[i,b,a];show scan (tl x++fl q.ws++41::r) (o+1) false _=scan r (o+((tl x++fl q.ws++[41]).length+1)) false (acc++((o,[40])::((o+1,tl x)::q.tk (o+1+x.length+1)++[(o+1+(tl x++fl q.ws).length,[41])])));rw[xAx,dl hi.1,dY hi.2,dL];rw[zAf,xAb,xAb,zAf,show o+1+x.length+(fl q.ws).length+1=o+(x.length+(fl q.ws).length+[41].length+1) by simp;lia,show o+1+(x.length+(fl q.ws).length)=o+1+x.length+(fl q.ws).length by lia];simp
  .have i:kw k=[tl k]:=xCf e;have b:hk k o=[(o+1,tl k)]:=xCf e;have a:hr k o=o+2+k.length:=xCf e;rw[i,b,a];show scan (tl k++fl its.ws++41::r) (o+1) false _=scan r (o+((tl k++fl its.ws++[41]).length+1)) false (acc++((o,[40])::((o+1,tl k)::(its.tk (o+2+k.length)++[(o+1+(tl k++fl its.ws).length,[41])]))));rw[xAx,dl w,dY hi,dL];rw[zAf,xAb,xAb,zAf,show o+1+k.length+1=o+2+k.length by lia,show o+1+k.length+(fl its.ws).length+1=o+(k.length+(fl its.ws).length+[41].length+1) by simp;lia,show o+1+(k.length+(fl its.ws).length)=o+1+k.length+(fl its.ws).length by lia];simp
theorem dY:∀{i:Ims}{r:B9}{o:Nat}{g:B6}{acc:B0<|Nat×B9},i.cl->scan (fl i.ws++41::r) o g acc=scan (41::r) (o+(fl i.ws).length) false (acc++i.tk (o+1))
 |.nil,r,o,g,acc,_=>by
  show scan (41::r) o g acc=scan (41::r) o false (acc++[]);rw[dL,dL,xB0]
 |.e t q,r,o,g,acc,⟨b,a⟩=>by
  let⟨k,e⟩:=iZ (t:=t) (r:=fl q.ws++41::r) (o:=o+1) (acc:=acc) b;show scan (32::(t.tx++fl q.ws++41::r)) o g acc=scan (41::r) (o+((t.tx++fl q.ws).length+1)) false (acc++(t.tk (o+1)++q.tk (o+1+t.tx.length+1)));rw[fK,xAx,e,dY a,xAb,show o+1+t.tx.length+(fl q.ws).length=o+(t.tx.length+(fl q.ws).length+1) by lia,xAx]
 |.s ts q,r,o,g,acc,⟨b,a⟩=>by
  let⟨k,e⟩:=jR (t:=ts) (r:=fl q.ws++41::r) (o:=o) (g:=g) (acc:=acc) b;show scan (fl (ts.txs++q.ws)++41::r) o g acc=scan (41::r) (o+(fl<|ts.txs++q.ws).length) false (acc++(ts.tk (o+1)++q.tk (o+1+ln ts.txs)));rw[yz,xAx,e,dY a,xAb,fG,fG,show o+1+ln ts.txs=o+ln ts.txs+1 by lia,show o+ln ts.txs+ln q.ws=o+(ln ts.txs+ln q.ws) by lia,xAx]
 |.n xs q,r,o,g,acc,⟨b,a⟩=>by
  show scan (32::(br (jn<|xs.map tl)++fl q.ws++41::r)) o g acc=scan (41::r) (o+((br (jn<|xs.map tl)++fl q.ws).length+1)) false (acc++(((o+1,[40])::(nmk xs (o+1+1)++[(o+1+1+(jn<|xs.map tl).length,[41])]))++q.tk (o+1+(br<|jn<|xs.map tl).length+1)));rw[fK,xAx,kW b,dY a,xAb,show o+1+(br<|jn<|xs.map tl).length+(fl q.ws).length=o+((br<|jn<|xs.map tl).length+(fl q.ws).length+1) by lia,xAx]
 |.w _ x q,r,o,g,acc,⟨b,a⟩=>by
  show scan (32::(tl x++fl q.ws++41::r)) o g acc=scan (41::r) (o+((tl x++fl q.ws).length+1)) false (acc++((o+1,tl x)::q.tk (o+1+x.length+1)));rw[fK,xAx,dl b,dY a,xAb,zAf,show o+1+x.length+(fl q.ws).length=o+(x.length+(fl q.ws).length+1) by lia,xAx];rfl
theorem jR:∀{t:Tms}{r:B9}{o:Nat}{g:B6}{acc:B0<|Nat×B9},t.cl->∃g',scan (fl t.txs++r) o g acc=scan r (o+ln t.txs) g' (acc++t.tk (o+1))
 |.nil,r,o,g,acc,_=>⟨g,by show scan r o g acc=scan r o g (acc++[]);rw[xB0]⟩
 |.cons t q,r,o,g,acc,⟨i,b⟩=>by
  let⟨k,p⟩:=iZ (t:=t) (r:=fl q.txs++r) (o:=o+1) (acc:=acc) i;let⟨a,n⟩:=jR (t:=q) (r:=r) (o:=o+1+t.tx.length) (g:=k) (acc:=acc++t.tk (o+1)) b;refine⟨a,?_⟩;show scan (32::(t.tx++fl q.txs++r)) o g acc=scan r (o+(t.tx.length+1+ln q.txs)) a (acc++(t.tk (o+1)++q.tk (o+1+t.tx.length+1)));rw[fK,xAx,p,n,show o+1+t.tx.length+ln q.txs=o+(t.tx.length+1+ln q.txs) by lia,xAx]
end
section
variable{fw d q:Nat}{S S1 S2 S':So}{x xc:C7}{K:C6}{v:U}{k:Str}{n:Int}
noncomputable def stU(w:B9):U:=.str<|mkS w
noncomputable def big:Nat:=1000000
def nX:("(":Str)=mkS [40]:=by decide +kernel
def kY:(")":Str)=mkS [41]:=by decide +kernel
def zd:(" ":Str)=mkS [32]:=by decide +kernel
def fO{m:B6}{a b:B9}(h:a.length+b.length<=16000000):pr ups (.add m) [.str<|mkS a,.str<|mkS b] S=.ok (.str<|mkS<|a++b) S:=by
 show fits ((mkS a).length+(mkS b).length) (Res.ok (.str<|mkS a++mkS b) S)=_;rw[zBd (by rw[eO,eO];show _<=2^24;lia),xX]
def ja{p:Nat}{xs:B8}(h:at? S p=some (.lst xs))(a:xs.length+ys.length<=16000000):pr ups .ext [.ref p,.lst ys] S=.ok .non (set S p<|.lst<|xs++ys):=by
 show zCi p S _=_;unfold zCi;rw[h];exact zBd (by show _<=2^24;lia)
def jY{ws:B0<|B9}(h:lsJ S v=some (ws.map stU))(a:ln ws<=10*big):pr ups .join [.str " ",v] S=.ok (.str<|mkS<|jn ws) S:=by
 have a:ln ws<=10000000:=a;show(match zE9 (.str " "),lsJ S v with|some s,some xs=>(match zCx xs with|some ws=>(match decide ((ws.map λy:Str=>y.length).sum+ws.length*s.length<=16777216) with|true=>Res.ok (.str<|Builtin.Str.glued s ws) S|false=>.stuck)|none=>.stuck)|_,_=>.stuck)=_;rw[h];dsimp only[zE9];rw[show zCx (ws.map stU)=some (ws.map mkS) from mh];dsimp only;have:=pH (ws:=ws);rw[zd,xBd (by rw[eO,xAa];simp only[xAo,List.length_nil];lia),uS]
def rG{ws:B0<|B9}(h:lsJ S v=some (ws.map stU))(g:ln ws<=10*big)(hk:K (.str<|mkS<|br<|jn ws) S):(Gd fw<|d+1).call 21 [v] S x K:=by
 have o:(jn ws).length<=ln ws:=by
  cases ws with
  |nil=>exact xBn _
  |cons a r=>show(a++fl r).length<=a.length+1+ln r;rw[xAb,fG];lia
 have i:ln ws<=10000000:=g;erw[cd ⟨1,1,t21⟩,pv (.str " "),pd (jY h g),pd (v:=.str<|mkS<|40::jn ws) (S':=S) (by rw[nX];exact fO (a:=[40]) (by simp;lia)),pd (v:=.str<|mkS<|br<|jn ws) (S':=S) (by rw[kY];exact fO (a:=40::jn ws) (b:=[41]) (by simp;lia)),<-hk]
def mO(h:n.natAbs<10^12):pr ups .str1 [.int n] S=.ok (stU<|dg n) S:=by
 show(match decide (n.natAbs.log2<1920) with|true=>Res.ok (.str<|PySem.Str.ofString<|toString n) S|false=>.stuck)=_;rw[xBd<|Row.log_small h];rfl
structure Kq(q:Nat)(S S':So):Prop where
 len:S.length<=S'.length
 ky:∀{a:Nat}{o:Ob},a≠q->at? S a=some o->at? S' a=some o
def Kq.trans(a:Kq q S S1)(b:Kq q S1 S2):Kq q S S2:=⟨xCk a.len b.len,λn z=>b.ky n<|a.ky n z⟩
def Kp.kq(h:Kp S S'):Kq q S S':=⟨h.len,λ_ z=>h.ky z⟩
def Kq.refl:Kq q S S:=⟨xAg _,λ_ z=>z⟩
theorem Kq.set{o:Ob}:Kq q S<|set S q o:=⟨by rw[zBb];exact xAg _,λa b=>atN (Ne.symm a) b⟩
def Kq.kp(h:Kq S.length S S'):Kp S S':=⟨h.len,λz=>h.ky (by have:=zBt z;lia) z⟩
noncomputable def Tms.sz:Tms->Nat
 |.nil=>0
 |.cons _ r=>r.sz+1
noncomputable def Ims.sz:Ims->Nat
 |.nil=>0
 |.e _ r=>r.sz+1
 |.s _ r=>r.sz+1
 |.n _ r=>r.sz+1
 |.w _ _ r=>r.sz+1
mutual
noncomputable def Tm.dp:Tm->Nat
 |.num ..=>0
 |.nam ..=>0
 |.nd _ _ its=>its.dp+1
noncomputable def Ims.dp:Ims->Nat
 |.nil=>0
 |.e t r=>max t.dp r.dp
 |.s ts r=>max ts.dp r.dp
 |.n _ r=>r.dp
 |.w _ _ r=>r.dp
noncomputable def Tms.dp:Tms->Nat
 |.nil=>0
 |.cons t r=>max t.dp r.dp
end
noncomputable def zEt(so:Str):Nat:=if so="op" then 111 else if so="word" then 119 else if so="name" then 120 else 117
noncomputable def Ims.ls:Ims->B9
 |.nil=>[]
 |.e _ r=>69::r.ls
 |.s _ r=>83::r.ls
 |.n _ r=>78::r.ls
 |.w so _ r=>zEt so::r.ls
def Ls(k:Str)(i:Ims):Prop:=∀{fw d:Nat}{S:So}{x:C7}{K:C6},(∀S',Kp S S'->K (.str<|mkS i.ls) S')->(Gd fw<|d+1).call 52 [.str k] S x K
mutual
def Tm.fm:Tm->Prop
 |.num _ n=>n.natAbs<10^12
 |.nam ..=>True
 |.nd k _ its=>(k≠"number"/\k≠"name"/\zAt k cq=some (.kt<|its.ss.map .str)/\its.sz<=5/\k.length<=100/\Ls k its)/\its.fm
def Ims.fm:Ims->Prop
 |.nil=>True
 |.e t r=>t.fm/\r.fm
 |.s ts r=>(ts.fm/\ts.sz<=4)/\r.fm
 |.n a r=>a.length<=4/\r.fm
 |.w so _ r=>(so≠"part"/\so≠"parts"/\so≠"names")/\r.fm
def Tms.fm:Tms->Prop
 |.nil=>True
 |.cons t r=>t.fm/\r.fm
end
noncomputable def Ims.zp:Ims->B8
 |.nil=>[]
 |.e t r=>.tup [.str "part",t.u]::r.zp
 |.s ts r=>.tup [.str "parts",.tup ts.us]::r.zp
 |.n xs r=>.tup [.str "names",.tup<|xs.map .str]::r.zp
 |.w so x r=>.tup [.str so,.str x]::r.zp
theorem jE:∀{i:Ims},zBq (i.ss.map .str) i.us=i.zp
 |.nil=>rfl
 |.e _ r=>by show _::zBq (r.ss.map .str) r.us=_;rw[jE];rfl
 |.s _ r=>by show _::zBq (r.ss.map .str) r.us=_;rw[jE];rfl
 |.n _ r=>by show _::zBq (r.ss.map .str) r.us=_;rw[jE];rfl
 |.w _ _ r=>by show _::zBq (r.ss.map .str) r.us=_;rw[jE];rfl
theorem eR:∀{i:Ims},i.us.length=i.sz
 |.nil=>rfl
 |.e _ r=>congrArg (·+1)<|eR (i:=r)
 |.s _ r=>congrArg (·+1)<|eR (i:=r)
 |.n _ r=>congrArg (·+1)<|eR (i:=r)
 |.w _ _ r=>congrArg (·+1)<|eR (i:=r)
theorem fT:∀{i:Ims},i.ss.length=i.sz
 |.nil=>rfl
 |.e _ r=>congrArg (·+1)<|fT (i:=r)
 |.s _ r=>congrArg (·+1)<|fT (i:=r)
 |.n _ r=>congrArg (·+1)<|fT (i:=r)
 |.w _ _ r=>congrArg (·+1)<|fT (i:=r)
theorem kT:∀{t:Tms},t.us.length=t.sz
 |.nil=>rfl
 |.cons _ r=>congrArg (·+1)<|kT (t:=r)
theorem iU:∀{t:Tms},t.txs.length=t.sz
 |.nil=>rfl
 |.cons _ r=>congrArg (·+1)<|iU (t:=r)
def dH:(br l).length=l.length+2:=by show(l++[41]).length+1=_;rw[xAb];rfl
theorem gA:∀{xs:B7},xs.map U.str=(xs.map tl).map stU
 |[]=>rfl
 |_::xs=>congrArg (_::·)<|gA (xs:=xs)
mutual
theorem pB:∀{t:Tm},t.fm->t.tx.length<=big->∀{fw d:Nat}{S:So}{x:C7}{K:C6},2*t.dp+1<=d->(∀S',Kp S S'->K (stU t.tx) S')->(Gd fw d).call 19 [t.u] S x K
 |.num pl n,i,w,fw,d,S,x,K,o,hk=>by
  obtain⟨d,rfl⟩:∃e,d=e+1:=⟨d-1,()⟩
  erw[cd ⟨1,5,t19⟩,pd cy,pd (cR rfl),bT,pd (e9 (j:=2) rfl),pd (mO i),<-hk S Kp.refl]
 |.nam pl y,i,w,fw,d,S,x,K,o,hk=>by
  obtain⟨d,rfl⟩:∃e,d=e+1:=⟨d-1,()⟩
  erw[cd ⟨1,5,t19⟩,pd cy,pd (cn ∅),bF,pd (cR rfl),bT,pd (e9 (j:=2) rfl),<-hk S Kp.refl]
 |.nd k pl its,⟨⟨J,I,H,M,_⟩,i⟩,w,fw,d,S,x,K,o,hk=>by
  have o:2*(its.dp+1)+1<=d:=o;obtain⟨d,rfl⟩:∃e,d=e+3:=⟨d-3,()⟩
  have C:ln (kw k++its.ws)<=big+1:=by
   have:(br<|jn<|kw k++its.ws).length<=big:=w;rw[dH] at this;have:=fh (ws:=kw k++its.ws);lia
  erw[cd ⟨1,5,t19⟩,pd cy,pd (cn J),bF,pd (cn I),bF];have g:∀{T:So}{a3 a4:B1 U},at? T S.length=some (.lst<|(kw k).map stU)->Kq S.length S T->(sQ (sF (J1 .zip (Jb 3 J3)<|J1 (.sl false true false) J0 Jq) [3,4] false zJg)<|J5<|Jb 21 J7) (Gd fw<|d+2) [some (Tm.nd k pl its).u,some<|.str k,some<|.ref S.length,a3,a4] T (zAk x K):=λ{T a3 a4} G kp=>by
   refine cd ⟨1,1,t3⟩ ?_;refine pv (.bl true) ?_;refine bT ?_;refine pd (v:=.kt<|its.ss.map .str) (S':=T) (by delta pr;dsimp only[dF];rw[H]) ?_;refine pd (gQ (a:=.str k) (b:=.int pl) (r:=its.us)) ?_;refine pd (v:=.tup its.zp) (S':=T) (by
    show(match Nat.beq (its.ss.map U.str).length its.us.length with|true=>Res.ok (.tup<|zBq (its.ss.map .str) its.us) T|false=>.stuck)=_;rw[xAa,fT,eR,show Nat.beq its.sz its.sz=true from Nat.beq_refl _,jE]) ?_
   erw[<-gN (d:=d) i (by rw[<- cU];exact C) () (ws:=kw k) G λS' a b F p=>?_,rG (d:=d+1) (ws:=kw k++its.ws) (by show(match at? S' S.length with|some (.lst xs)=>some xs|_=>none)=_;rw[p]) (xCk C ∅),<-hk S' (kp.trans F).kp]
  by_cases e:k="math"
  .erw[pd (cR e),bT,pd (v:=.ref S.length) (S':=S++[.lst []]) rfl];exact g (by rw[show kw k=[] from xCg e];exact zA3)<|Kp.kq Kp.app
  .erw[pd (cn e),bF,pd (v:=.ref S.length) (S':=S++[.lst [.str k]]) rfl];exact g (by rw[show kw k=[tl k] from xCf e];exact zA3)<|Kp.kq Kp.app
theorem gN:∀{i:Ims},i.fm->∀{ws:B0<|B9},ln ws+ln i.ws<=big+1->∀{fw d q:Nat}{S:So}{E:Ee Prop}{kk:Sg->So->Prop}{J a1 a3 a4:B1 U},2*i.dp+1<=d+1->at? S q=some (.lst<|ws.map stU) ->
  (∀S' a b,Kq q S S'->at? S' q=some (.lst<|(ws++i.ws).map stU)->kk [J,a1,some<|.ref q,a,b] S') ->
  zB2 i.zp (λw σ1 S2 nx=>tgt [3,4] false (Gd fw<|d+2) w σ1 λσ2=>zJg (Gd fw<|d+2) σ2 S2<|lpE E nx) [J,a1,some<|.ref q,a3,a4] S kk
 |.nil,_,ws,_,fw,d,q,S,E,kk,J,a1,a3,a4,p,g,hk=>hk S a3 a4 Kq.refl (by rw[show Ims.nil.ws=[] from rfl,xB0];exact g)
 |.e t r,⟨O,I⟩,ws,C,fw,d,q,S,E,kk,J,a1,a3,a4,p,g,hk=>by
  have p:2*max t.dp r.dp+1<=d+1:=p;have C:ln ws+(t.tx.length+1+ln r.ws)<=big+1:=C;erw[pd (cv g),cd ⟨2,2,t20⟩,pd (cR rfl),bT,<-pB (d:=d+1) O () () λS1 G=>?_,pv (.lst [stU t.tx])];have M:=fQ (ws:=ws);have H:big=1000000:=rfl;erw[pd (ja (G.ky g)<|by simp;lia),<-gN I (ws:=ws++[t.tx]) (by rw[cU];show ln ws+(t.tx.length+1+0)+_<=_;lia) () (by rw[xAi];exact zAc (G.ky g)) λS' a b F o=>?_];exact hk S' a b (G.kq.trans<|Kq.set.trans F) (by rw[o,xAx];rfl)
 |.s ts r,⟨⟨O,T⟩,I⟩,ws,C,fw,d,q,S,E,kk,J,a1,a3,a4,p,g,hk=>by
  have p:2*max ts.dp r.dp+1<=d+1:=p;have C:ln ws+ln (ts.txs++r.ws)<=big+1:=C;rw[cU] at C;erw[pd (cv g),cd ⟨2,2,t20⟩,pd (cn ∅),bF,pd (cR rfl),bT,pv (.tup ts.us),<-bI (λ_=>?_) λz=>absurd (gi (n:=ts.us.length)<|by rw[kT];lia) (by rw[z];decide),<-pA (d:=d) O () () (ys:=[]) λS1 G=>?_];have M:=fQ (ws:=ws);have W:=iU (t:=ts);have H:big=1000000:=rfl;rw[xC6];erw[pd (ja (G.ky g)<|by simp;lia),<-gN I (ws:=ws++ts.txs) (by rw[cU];lia) () (by rw[xAi];exact zAc (G.ky g)) λS' a b F o=>?_];exact hk S' a b (G.kq.trans<|Kq.set.trans F) (by rw[o,xAx];rfl)
 |.n xs r,⟨T,I⟩,ws,C,fw,d,q,S,E,kk,J,a1,a3,a4,p,g,hk=>by
  have p:2*r.dp+1<=d+1:=p;have C:ln ws+((br<|jn<|xs.map tl).length+1+ln r.ws)<=big+1:=C;have X:=fh (ws:=xs.map tl);have hr:=dH (l:=jn<|xs.map tl);have H:big=1000000:=rfl;erw[pd (cv g),cd ⟨2,2,t20⟩,pd (cn ∅),bF,pd (cn ∅),bF,pd (cR rfl),bT,rG (d:=d) (ws:=xs.map tl) (by rw[gA];rfl) (),pv (.lst [stU<|br<|jn<|xs.map tl])];have M:=fQ (ws:=ws);erw[pd (ja g<|by simp;lia),<-gN I (ws:=ws++[br<|jn<|xs.map tl]) (by rw[cU];show ln ws+((br<|jn<|xs.map tl).length+1+0)+_<=_;lia) () (by rw[xAi];exact zAc g) λS' a b F o=>?_];exact hk S' a b (Kq.set.trans F) (by rw[o,xAx];rfl)
 |.w so y r,⟨⟨R,Q,P⟩,I⟩,ws,C,fw,d,q,S,E,kk,J,a1,a3,a4,p,g,hk=>by
  have p:2*r.dp+1<=d+1:=p;have C:ln ws+((tl y).length+1+ln r.ws)<=big+1:=C;have H:big=1000000:=rfl;erw[pd (cv g),cd ⟨2,2,t20⟩,pd (cn R),bF,pd (cn Q),bF,pd (cn P),bF,pv (.lst [stU<|tl y])];have M:=fQ (ws:=ws);erw[pd (ja g<|by simp;lia),<-gN I (ws:=ws++[tl y]) (by rw[cU];show ln ws+((tl y).length+1+0)+_<=_;lia) () (by rw[xAi];exact zAc g) λS' a b F o=>?_];exact hk S' a b (Kq.set.trans F) (by rw[o,xAx];rfl)
theorem pA:∀{t:Tms},t.fm->ln t.txs<=big+1->∀{fw d:Nat}{S:So}{K:C6}{ys:B8},2*t.dp+1<=d+1->(∀S',Kp S S'->K (.lst<|ys++t.txs.map stU) S')->lcK (Gd fw<|d+1) (zCu [1] true [none,none] (Jb 19 J3)<|Gd fw<|d+1) t.us ys S K
 |.nil,_,_,fw,d,S,K,ys,a,hk=>by
  have:=hk S Kp.refl;rw[show Tms.nil.txs.map stU=[] from rfl,xB0] at this;exact this
 |.cons t r,⟨o,i⟩,b,fw,d,S,K,ys,a,hk=>by
  have a:2*max t.dp r.dp+1<=d+1:=a;have b:t.tx.length+1+ln r.txs<=big+1:=b;erw[<-pB (d:=d+1) o () () λS1 k1=>?_,<-pA (t:=r) i () () λS2 g=>?_];have:=hk S2<|k1.trans g;rw[xAx];exact this
end
end
section
variable{fw d q:Nat}{S S1 S2 S':So}{x xc:C7}{K:C6}{v:U}{k:Str}{n:Int}
noncomputable def hs1:B7:=["number","name","ask","tell","do","if","fn","call"]
noncomputable def dc1:B0<|Key×U:=[(.inr "number",.str "n"),(.inr "name",.str "u"),(.inr "ask",.str ""),(.inr "tell",.str "E"),(.inr "do",.str "EE"),(.inr "if",.str "EEE")]
noncomputable def dc2:B0<|Key×U:=[(.inr "let",.str "xEE"),(.inr "set",.str "uE"),(.inr "math",.str "oEE"),(.inr "make",.str "wS"),(.inr "match",.str "EwNEE"),(.inr "raise",.str "wE"),(.inr "try",.str "EwxE")]
def zEq{k:Str}(h:zBc (.str k) (hs1.map .str)=true)(e:(match zCc (.inr k) dc1 with|some v=>v|none=>.str<|if k="call" then "ES" else "NE")=v)(hk:∀S',Kp S S'->K v S'):(Gd fw<|d+1).call 52 [.str k] S x K:=by
 refine cd ⟨1,3,t52⟩ ?_;refine pd (v:=.bl true) (S':=S) (by show obB (some<|zBc (.str k)<|hs1.map .str) id S=_;rw[h];rfl) ?_;refine bT ?_;refine pd (v:=.ref S.length) (S':=S++[.dct dc1]) rfl ?_;have a:at? (S++[Ob.dct dc1]) S.length=some (.dct dc1):=zA3;have kp:Kp S<|S++[Ob.dct dc1]:=Kp.app;generalize S++[Ob.dct dc1]=T at a kp ⊢;refine pd (v:=.ref S.length) (S':=T) (by
  show(match tyU T (.ref S.length) with|some t=>(match t == "dict" with|true=>Res.ok (.ref S.length) T|false=>.stuck)|none=>.stuck)=_;unfold tyU;dsimp only;rw[a];rfl) ?_
 erw[pv (.lst [.str "NE",.str "ES"]),pd (v:=.bl<|decide<|k="call") (S':=T) rfl,pv (.int<|if decide (k="call") then 1 else 0),pd (v:=.str<|if k="call" then "ES" else "NE") (S':=T) (by by_cases g:k="call" <;> simp only[g,decide_true,decide_false,if_true,if_false] <;> rfl),<-pd (v:=v) (S':=T) ?_<|hk T kp];delta pr;dsimp only[zEh];rw[a];dsimp only;rw[<- e];cases zCc (Sum.inr k) dc1 <;> rfl
def zEa{k:Str}(h:zBc (.str k) (hs1.map .str)=false)(e:zCc (.inr k) dc2=some v)(hk:∀S',Kp S S'->K v S'):(Gd fw<|d+1).call 52 [.str k] S x K:=by
 erw[cd ⟨1,3,t52⟩,pd (v:=.bl false) (S':=S) (by show obB (some<|zBc (.str k)<|hs1.map .str) id S=_;rw[h];rfl),bF,pd (v:=.ref S.length) (S':=S++[.dct dc2]) rfl];have a:at? (S++[Ob.dct dc2]) S.length=some (.dct dc2):=zA3;have kp:Kp S<|S++[Ob.dct dc2]:=Kp.app;generalize S++[Ob.dct dc2]=T at a kp⊢;refine pd (fX a ?_)<|hk T kp;exact e
noncomputable def zl(c:Nat)(v:U):U:=.tup [.str ⟨#[c]⟩,v]
noncomputable def Ims.zl:Ims->B8
 |.nil=>[]
 |.e t r=>K02.zl 69 t.u::r.zl
 |.s ts r=>K02.zl 83 (.tup ts.us)::r.zl
 |.n xs r=>K02.zl 78 (.tup<|xs.map .str)::r.zl
 |.w so x r=>K02.zl (zEt so) (.str x)::r.zl
theorem jF:∀{i:Ims},zBq (i.ls.map λc=>.str ⟨#[c]⟩) i.us=i.zl
 |.nil=>rfl
 |.e _ r=>by show _::zBq (r.ls.map λc=>.str ⟨#[c]⟩) r.us=_;rw[jF];rfl
 |.s _ r=>by show _::zBq (r.ls.map λc=>.str ⟨#[c]⟩) r.us=_;rw[jF];rfl
 |.n _ r=>by show _::zBq (r.ls.map λc=>.str ⟨#[c]⟩) r.us=_;rw[jF];rfl
 |.w _ _ r=>by show _::zBq (r.ls.map λc=>.str ⟨#[c]⟩) r.us=_;rw[jF];rfl
theorem gV:∀{i:Ims},i.ls.length=i.sz
 |.nil=>rfl
 |.e _ r=>congrArg (·+1)<|gV (i:=r)
 |.s _ r=>congrArg (·+1)<|gV (i:=r)
 |.n _ r=>congrArg (·+1)<|gV (i:=r)
 |.w _ _ r=>congrArg (·+1)<|gV (i:=r)
def vI{i:Ims}:pr ups .zip [.str<|mkS i.ls,.tup i.us] S=.ok (.tup i.zl) S:=by
 show(match Nat.beq (i.ls.map λc=>U.str ⟨#[c]⟩).length i.us.length with|true=>Res.ok (.tup<|zBq (i.ls.map λc=>.str ⟨#[c]⟩) i.us) S|false=>.stuck)=_;rw[xAa,gV,eR,show Nat.beq i.sz i.sz=true from Nat.beq_refl _,jF]
def dI{c:Nat}(e:s=mkS [c]):∀{b:Nat},pr ups .eq [.str ⟨#[b]⟩,.str s] S=.ok (.bl<|decide<|b=c) S:=by
 intro b;show Res.ok (.bl<|decide<|(⟨#[b]⟩:Str)=s) S=_;rw[e];congr 2;refine decide_eq_decide.mpr ⟨λh=>?_,λh=>by rw[h];rfl⟩;have:=congrArg tl h;exact(List.cons.inj this).1
def c_N:("N":Str)=mkS [78]:=by decide +kernel
def c_S:("S":Str)=mkS [83]:=by decide +kernel
def c_E:("E":Str)=mkS [69]:=by decide +kernel
def rj:zEt so≠78/\zEt so≠83/\zEt so≠69:=by
 unfold zEt;split
 .decide
 .split
  .decide
  .split <;> decide
def ub{p:Nat}{xs:B8}(h:at? S p=some (.lst xs))(a:xs.length+ys.length<=16000000):pr ups (.add true) [.ref p,.lst ys] S=.ok (.ref S.length) (S++[.lst<|xs++ys]):=by
 show zGg true (.ref p) (.lst ys) S=_;unfold zGg;show(match lsT S (.ref p),lsT S (.lst ys) with|some xs,some ys=>fits (xs.length+ys.length) (mkL true (xs++ys) S)|_,_=>Res.stuck)=_;rw[show lsT S (.ref p)=some xs by show(match at? S p with|some (.lst xs)=>some xs|_=>none)=_;rw[h]];exact zBd (by show _<=2^24;lia)
def lT{G:C8}{e:C5}{O:Sg}{ws:B0<|B9}(p:G=Gd fw d)(g:ln ws<=10*big)(o:∀{kk:C6},(∀v,lsJ S v=some (ws.map stU)->kk v S)->e G O S x kk)(hk:K (stU<|br<|jn ws) S):(J1 (.add false) (J1 (.add false) (J2 "(")<|cBM "str" .join (J2 " ")<|Jg e)<|J2 ")") G O S x K:=by
 subst p;have w:(jn ws).length<=ln ws:=by
  cases ws with
  |nil=>exact xBn _
  |cons a r=>show(a++fl r).length<=a.length+1+ln r;rw[xAb,fG];lia
 have i:ln ws<=10000000:=g;erw[pv (.str " "),<-o λv h=>?_,pd (jY h g),pd (v:=.str<|mkS<|40::jn ws) (S':=S) (by rw[nX];exact fO (a:=[40]) (by simp;lia)),pd (v:=.str<|mkS<|br<|jn ws) (S':=S) (by rw[kY];exact fO (a:=40::jn ws) (b:=[41]) (by simp;lia)),<-hk]
def uI{p:Nat}{xs:B8}(h:at? S p=some (.lst xs)):lsJ S (.ref p)=some xs:=by
 show(match at? S p with|some (.lst xs)=>some xs|_=>none)=_;rw[h]
def lG{S0:So}{q:Nat}{o:Ob}(h:Kp S0 S)(a:S0.length<=q):Kp S0<|set S q o:=⟨by rw[zBb];exact h.len,λz=>atN (by have:=zBt z;lia)<|h.ky z⟩
mutual
theorem kr:∀{t:Tm},t.fm->t.tx.length<=big->∀{fw d:Nat}{S:So}{x:C7}{K:C6},t.dp+1<=d->(∀S',Kp S S'->K (stU t.tx) S')->(Gd fw d).call 53 [t.u] S x K
 |.num pl n,g,p,fw,d,S,x,K,i,hk=>by
  obtain⟨d,rfl⟩:∃e,d=e+1:=⟨d-1,()⟩
  erw[cd ⟨1,4,t53⟩,pd cy,pd (cR rfl),bT,bT,pd (e9 (j:=2) rfl),pd (mO g),<-hk S Kp.refl]
 |.nam pl y,g,p,fw,d,S,x,K,i,hk=>by
  obtain⟨d,rfl⟩:∃e,d=e+1:=⟨d-1,()⟩
  erw[cd ⟨1,4,t53⟩,pd cy,pd (cn ∅),bF,pd cy,pd (cR rfl),bT,pd (e9 (j:=2) rfl),pv (.str y),<-hk S Kp.refl]
 |.nd k pl its,⟨⟨M,J,R,Q,P,H⟩,g⟩,p,fw,d,S,x,K,i,hk=>by
  have i:its.dp+1+1<=d:=i;obtain⟨d,rfl⟩:∃e,d=e+2:=⟨d-2,()⟩
  have F:ln (kw k++its.ws)<=big+1:=by
   have:(br<|jn<|kw k++its.ws).length<=big:=p;rw[dH] at this;have:=fh (ws:=kw k++its.ws);lia
  erw[cd ⟨1,4,t53⟩,pd cy,pd (cn M),bF,pd cy,pd (cn J),bF,pd cy,pv (.lst [.str k]),pd cy,pd (v:=.bl (!decide (k="math"))) (S':=S) rfl,pd (v:=.int<|if(!decide (k="math")) then 1 else 0) (S':=S) rfl,<-pd (v:=.ref S.length) (S':=S++[.lst<|(kw k).map stU]) ?_ ?_]
  .unfold kw;by_cases e:k="math"
   .rw[xBd e,xCg e];rfl
   .rw[xCn e,xCf e];rfl
  have C:at? (S++[Ob.lst<|(kw k).map stU]) S.length=some (.lst<|(kw k).map stU):=zA3;have kp:Kp S<|S++[Ob.lst<|(kw k).map stU]:=Kp.app;have I:S.length<=S.length:=xAg _;generalize S++[Ob.lst<|(kw k).map stU]=T at C kp⊢;erw[pd cy,<-H λT1 w=>?_,pd (gQ (a:=.str k) (b:=.int pl) (r:=its.us)),pd vI,<-gU (d:=d) (N:=S.length) (S0:=S) g (ws:=kw k) (by rw[<- cU];exact F) () (w.ky C) (xAg _) (kp.trans w) λS' O a b G o=>?_,<-lT (fw:=fw) (d:=d+1) rfl (xCk F ∅) (λh=>h _<|uI o)<|hk S' G]
theorem gU:∀{i:Ims},i.fm->∀{ws:B0<|B9},ln ws+ln i.ws<=big+1->∀{fw d q N:Nat}{S S0:So}{E:Ee Prop}{kk:Sg->So->Prop}{O a3 a4:B1 U},i.dp+1<=d+1->at? S q=some (.lst<|ws.map stU)->S0.length<=q->Kp S0 S ->
  (∀S' F a b,Kp S0 S'->at? S' F=some (.lst<|(ws++i.ws).map stU)->kk [O,some<|.ref F,a,b] S') ->
  zB2 i.zl (λw σ1 S2 nx=>tgt [2,3] false (Gd fw<|d+1) w σ1 λσ2=>zJd (Gd fw<|d+1) σ2 S2<|lpE E nx) [O,some<|.ref q,a3,a4] S kk
 |.nil,_,ws,_,fw,d,q,N,S,S0,E,kk,O,a3,a4,p,o,G,kp,hk=>hk S q a3 a4 kp (by rw[show Ims.nil.ws=[] from rfl,xB0];exact o)
 |.e t r,⟨Q,M⟩,ws,C,fw,d,q,N,S,S0,E,kk,O,a3,a4,p,o,G,kp,hk=>by
  have p:max t.dp r.dp+1<=d+1:=p;have C:ln ws+(t.tx.length+1+ln r.ws)<=big+1:=C;have P:=fQ (ws:=ws);have J:big=1000000:=rfl;erw[pd (dI c_N),bF,pd (dI c_S),bF,pd (dI c_E),bT,pd (cv o),<-kr (d:=d+1) Q () () λS1 I=>?_,pd (cZ (I.ky o)<|by show _<=2^24;simp;lia),<-gU (N:=N) (S0:=S0) M (ws:=ws++[t.tx]) (by rw[cU];show ln ws+(t.tx.length+1+0)+_<=_;lia) () (by rw[xAi];exact zAc (I.ky o)) G (lG (kp.trans I) G) λS' F a b H g=>?_];exact hk S' F a b H (by rw[g,xAx];rfl)
 |.s ts r,⟨⟨Q,X⟩,M⟩,ws,C,fw,d,q,N,S,S0,E,kk,O,a3,a4,p,o,G,kp,hk=>by
  have p:max ts.dp r.dp+1<=d+1:=p;have C:ln ws+ln (ts.txs++r.ws)<=big+1:=C;rw[cU] at C;have P:=fQ (ws:=ws);have Y:=iU (t:=ts);have J:big=1000000:=rfl;erw[pd (dI c_N),bF,pd (dI c_S),bT,pv (.tup ts.us),<-bI (λ_=>?_) λz=>absurd (gi (n:=ts.us.length)<|by rw[kT];lia) (by rw[z];decide),<-rh (d:=d) Q () () (ys:=[]) λS1 I=>?_];rw[xC6];erw[pd (ub (I.ky o)<|by simp;lia),<-gU (N:=N) (S0:=S0) M (ws:=ws++ts.txs) (by rw[cU];lia) () (by rw[xAi];exact zA3) (xCk kp.len I.len) ((kp.trans I).trans Kp.app) λS' F a b H g=>?_];exact hk S' F a b H (by rw[g,xAx];rfl)
 |.n xs r,⟨X,M⟩,ws,C,fw,d,q,N,S,S0,E,kk,O,a3,a4,p,o,G,kp,hk=>by
  have p:r.dp+1<=d+1:=p;have C:ln ws+((br<|jn<|xs.map tl).length+1+ln r.ws)<=big+1:=C;have Z:=fh (ws:=xs.map tl);have hr:=dH (l:=jn<|xs.map tl);have P:=fQ (ws:=ws);have J:big=1000000:=rfl;erw[pd (dI c_N),bT,pd (cv o),lT (fw:=fw) (d:=d+1) (ws:=xs.map tl) rfl () (λh=>h _<|by rw[gA];rfl),pd (cZ o<|by show _<=2^24;simp;lia),<-gU (N:=N) (S0:=S0) M (ws:=ws++[br<|jn<|xs.map tl]) (by rw[cU];show ln ws+((br<|jn<|xs.map tl).length+1+0)+_<=_;lia) () (by rw[xAi];exact zAc o) G (lG kp G) λS' F a b H g=>?_];exact hk S' F a b H (by rw[g,xAx];rfl)
 |.w so y r,⟨_,M⟩,ws,C,fw,d,q,N,S,S0,E,kk,O,a3,a4,p,o,G,kp,hk=>by
  have p:r.dp+1<=d+1:=p;have C:ln ws+((tl y).length+1+ln r.ws)<=big+1:=C;have P:=fQ (ws:=ws);have J:big=1000000:=rfl;let⟨W,T,R⟩:=rj (so:=so);erw[pd (dI c_N)];rw[xCn W];erw[bF,pd (dI c_S)];rw[xCn T];erw[bF,pd (dI c_E)];rw[xCn R];erw[bF,pd (cv o),pd (cZ o<|by show _<=2^24;simp;lia),<-gU (N:=N) (S0:=S0) M (ws:=ws++[tl y]) (by rw[cU];show ln ws+((tl y).length+1+0)+_<=_;lia) () (by rw[xAi];exact zAc o) G (lG kp G) λS' F a b H g=>?_];exact hk S' F a b H (by rw[g,xAx];rfl)
theorem rh:∀{t:Tms},t.fm->ln t.txs<=big+1->∀{fw d:Nat}{S:So}{K:C6}{ys:B8},t.dp+1<=d+1->(∀S',Kp S S'->K (.lst<|ys++t.txs.map stU) S')->lcK (Gd fw<|d+1) (zCu [1] true [none,none] (Jb 53 J3)<|Gd fw<|d+1) t.us ys S K
 |.nil,_,_,fw,d,S,K,ys,a,hk=>by
  have:=hk S Kp.refl;rw[show Tms.nil.txs.map stU=[] from rfl,xB0] at this;exact this
 |.cons t r,⟨o,i⟩,b,fw,d,S,K,ys,a,hk=>by
  have a:max t.dp r.dp+1<=d+1:=a;have b:t.tx.length+1+ln r.txs<=big+1:=b;erw[<-kr (d:=d+1) o () () λS1 k1=>?_,<-rh (t:=r) i () () λS2 g=>?_];have:=hk S2<|k1.trans g;rw[xAx];exact this
end
end
section
variable{fw d q:Nat}{S S1 S2 S':So}{x xc:C7}{K:C6}{v:U}{k:Str}{n:Int}
def dA{w:B9}(h:w.length<=16000000):pr ups .len [.str<|mkS w] S=.ok (.int w.length) S:=by
 show zDn (.str<|mkS w) S=_;unfold zDn;dsimp only;rw[eO,zBd<|by show _<=2^24;lia]
def c9{m:B6}{a b:Nat}:pr ups (.add m) [.int a,.int b] S=.ok (.int ((a+b:Nat):Int)) S:=by
 show Res.ok (.int<|(a:Int)+b) S=_;congr 2
def tT{xs:B8}{y:U}(h:at? S q=some (.lst<|xs++[y])):pr ups .seti [.ref q,.int (-1),v] S=.ok .non (set S q<|.lst<|xs++[v]):=by
 show zB5 q (.int (-1)) v S=_;unfold zB5;rw[h];have e:ixN (xs++[y]).length (-1)=some xs.length:=by
  unfold ixN;rw[xCf ∅,xAb];rw[xCg<|by simp;lia];congr 1;simp;lia
 show(match ixN (xs++[y]).length (-1) with|some j=>Res.ok .non (set S q<|.lst<|set (xs++[y]) j v)|none=>.stuck)=_;rw[e];have:∀{xs:B8},set (xs++[y]) xs.length v=xs++[v]:=λ{xs}=>by
  induction xs with
  |nil=>rfl
  |cons a r b=>exact congrArg (a::·) b
 show Res.ok .non (Fx.set S q<|.lst<|Fx.set (xs++[y]) xs.length v)=_;rw[this]
def Ba{t:Tm}(b:t.fm)(i:t.tx.length<=big)(o:t.dp+2<=d)(hk:∀S',Kp S S'->K (.int t.tx.length) S'):(Gd fw d).call 54 [.str ⟨#[69]⟩,t.u] S x K:=by
 have g:big=1000000:=rfl;obtain⟨d,rfl⟩:∃e,d=e+1:=⟨d-1,()⟩
 erw[cd ⟨2,2,t54⟩,pd (dI c_N),bF,pd (dI c_E),bT,<-kr b i () λS1 a=>?_,pd (dA ()),<-hk S1 a]
def A9{xs:B7}(g:(br<|jn<|xs.map tl).length<=big)(hk:K (.int (br<|jn<|xs.map tl).length) S):(Gd fw<|d+1).call 54 [.str ⟨#[78]⟩,.tup<|xs.map .str] S x K:=by
 have a:big=1000000:=rfl;have b:=fh (ws:=xs.map tl);have hr:=dH (l:=jn<|xs.map tl);erw[cd ⟨2,2,t54⟩,pd (dI c_N),bT,lT (fw:=fw) (d:=d) (ws:=xs.map tl) rfl () (λh=>h _<|by rw[gA];rfl),pd (dA ()),<-hk]
def A8{c:Nat}(g:c≠78)(b:c≠69)(i:y.length<=big)(hk:K (.int y.length) S):(Gd fw<|d+1).call 54 [.str ⟨#[c]⟩,.str y] S x K:=by
 have a:big=1000000:=rfl;erw[cd ⟨2,2,t54⟩,pd (dI c_N)];rw[xCn g];erw[bF,pd (dI c_E)];rw[xCn b];erw[bF,pd (v:=.int y.length) (S':=S) (by have:=dA (S:=S) (w:=tl y) (by rw[zAf];lia);rw[zAf] at this;exact this)];exact hk
theorem ki:∀{i:Ims}{o:Nat},(i.mv o).sz=i.sz
 |.nil,_=>rfl
 |.e _ r,_=>congrArg (·+1)<|ki (i:=r)
 |.s _ r,_=>congrArg (·+1)<|ki (i:=r)
 |.n _ r,_=>congrArg (·+1)<|ki (i:=r)
 |.w _ _ r,_=>congrArg (·+1)<|ki (i:=r)
mutual
theorem qZ:∀{t:Tm},t.fm->t.tx.length<=big->∀{fw d o:Nat}{S:So}{x:C7}{K:C6},t.dp+2<=d->(∀S',Kp S S'->K (t.mv o).u S')->(Gd fw d).call 55 [t.u,.int o] S x K
 |.num pl n,C,F,fw,d,o,S,x,K,i,hk=>by
  obtain⟨d,rfl⟩:∃e,d=e+1:=⟨d-1,()⟩
  erw[cd ⟨2,8,t55⟩,pd cy,pd (cR rfl),bT,bT,pd cy,pd (e9 (j:=2) rfl),<-hk S Kp.refl]
 |.nam pl y,C,F,fw,d,o,S,x,K,i,hk=>by
  obtain⟨d,rfl⟩:∃e,d=e+1:=⟨d-1,()⟩
  erw[cd ⟨2,8,t55⟩,pd cy,pd (cn ∅),bF,pd cy,pd (cR rfl),bT,pd cy,pd (e9 (j:=2) rfl),<-hk S Kp.refl]
 |.nd k pl its,⟨⟨P,O,X,W,R,J⟩,C⟩,F,fw,d,o,S,x,K,i,hk=>by
  have i:its.dp+1+2<=d:=i;obtain⟨d,rfl⟩:∃e,d=e+3:=⟨d-3,()⟩
  have M:ln (kw k++its.ws)<=big+1:=by
   have:(br<|jn<|kw k++its.ws).length<=big:=F;rw[dH] at this;have:=fh (ws:=kw k++its.ws);lia
  rw[cU] at M;erw[cd ⟨2,8,t55⟩,pd cy,pd (cn P),bF,pd cy,pd (cn O),bF,pd (c9 (a:=o) (b:=2)),pd cy,pd (v:=.int k.length) (S':=S) (by have:=dA (S:=S) (w:=tl k) (by rw[zAf];lia);rw[zAf] at this;exact this),pd (c9 (a:=o+2) (b:=k.length)),pd cy];have g:∀{a3 a4 a5 a6 a7:B1 U},(sQ (sA 3<|cP (.lst true) aN)<|sQ (sF (J1 .zip (Jb 52<|J8 J0 Jh)<|J1 (.sl false true false) J0 Jq) [4,5] false zJc)<|J5<|J4 .tupOf<|J1 (.add false) (J1 (.lst false) (J8 J0 Jh) J3) J6) (Gd fw<|d+2) [some (Tm.nd k pl its).u,some<|.int o,some<|.int (hr k o:Nat),a3,a4,a5,a6,a7] S<|zAk x K:=λ{a3 a4 a5 a6 a7}=>by
   erw[pd (v:=.ref S.length) (S':=S++[.lst []]) rfl];have H:at? (S++[Ob.lst []]) S.length=some (.lst []):=zA3;have kp:Kq S.length S<|S++[Ob.lst []]:=Kp.kq Kp.app;generalize S++[Ob.lst []]=T at H kp⊢;erw[pd cy,<-J λT1 G=>?_,pd (gQ (a:=.str k) (b:=.int pl) (r:=its.us)),pd vI,<-gR (d:=d) C (o:=hr k o) (fs:=[]) () (by simp;lia) () (G.ky H) λS' Q b1 b2 Z Y I p=>?_,pd cy,pv (.lst [.str k,.int o]),<-pd (v:=.lst<|.str k::.int o::(its.mv<|hr k o).us) (S':=S') ?_ ?_]
   .show(match lsT S' (.lst [.str k,.int o]),lsT S' (.ref S.length) with|some xs,some ys=>fits (xs.length+ys.length) (mkL false (xs++ys) S')|_,_=>Res.stuck)=_;rw[show lsT S' (.ref S.length)=some ((its.mv<|hr k o).us) by show(match at? S' S.length with|some (.lst xs)=>some xs|_=>none)=_;rw[p];rfl];exact zBd (by rw[eR,ki];show 2+its.sz<=2^24;lia)
   .erw[pv (.tup<|.str k::.int o::(its.mv<|hr k o).us),<-hk S' ((kp.trans G.kq).trans I).kp]
  by_cases e:k="math"
  .erw[pd (cR e),bT,pd (c9 (a:=o) (b:=1))];rw[show hr k o=o+1 from xCg e] at g;exact g
  .erw[pd (cn e),bF];rw[show hr k o=o+2+k.length from xCf e] at g;exact g
theorem gR:∀{i:Ims},i.fm->∀{fw d q o:Nat}{S:So}{E:Ee Prop}{kk:Sg->So->Prop}{Q a1 a4 a5 a6 a7:B1 U}{fs:B8},ln i.ws<=big+1->fs.length+i.sz<=1000->i.dp+2<=d+2->at? S q=some (.lst fs) ->
  (∀S' o' M J I H,Kq q S S'->at? S' q=some (.lst<|fs++(i.mv o).us)->kk [Q,a1,some<|.int (o':Nat),some<|.ref q,M,J,I,H] S') ->
  zB2 i.zl (λw σ1 S2 nx=>tgt [4,5] false (Gd fw<|d+2) w σ1 λσ2=>zJc (Gd fw<|d+2) σ2 S2<|lpE E nx) [Q,a1,some<|.int o,some<|.ref q,a4,a5,a6,a7] S kk
 |.nil,_,fw,d,q,o,S,E,kk,Q,a1,a4,a5,a6,a7,fs,C,F,G,g,hk=>hk S o a4 a5 a6 a7 Kq.refl (by rw[show(Ims.nil.mv o).us=[] from rfl,xB0];exact g)
 |.e t r,⟨Y,P⟩,fw,d,q,o,S,E,kk,Q,a1,a4,a5,a6,a7,fs,C,F,G,g,hk=>by
  have G:max t.dp r.dp+2<=d+2:=G;have C:t.tx.length+1+ln r.ws<=big+1:=C;have F:fs.length+(r.sz+1)<=1000:=F;erw[pd (dI c_S),bF,pd (cv g),pd (cZ g<|by show _<=2^24;lia)];have R:at? (Fx.set S q<|Ob.lst<|fs++[t.u]) q=some (.lst<|fs++[t.u]):=zAc g;have q1:Kq q S<|Fx.set S q<|Ob.lst<|fs++[t.u]:=Kq.set;generalize Fx.set S q (Ob.lst<|fs++[t.u])=T at R q1⊢;erw[pd (dI c_E),bT,<-qZ (d:=d+2) (o:=o) Y () () λS1 k1=>?_,pv (.int (-1)),pd (tT<|k1.ky R)];have Z:at? (Fx.set S1 q<|Ob.lst<|fs++[(t.mv o).u]) q=some (.lst<|fs++[(t.mv o).u]):=zAc<|k1.ky R;have q2:Kq q T<|Fx.set S1 q<|Ob.lst<|fs++[(t.mv o).u]:=k1.kq.trans Kq.set;generalize Fx.set S1 q (Ob.lst<|fs++[(t.mv o).u])=T2 at Z q2⊢;erw[<-Ba (d:=d+2) Y () () λS2 k2=>?_,pd (c9 (a:=o) (b:=t.tx.length)),pd (c9 (a:=o+t.tx.length) (b:=1)),<-gR P (o:=o+t.tx.length+1) (fs:=fs++[(t.mv o).u]) () (by simp;lia) () (k2.ky Z) λS' o' M J I H O p=>?_];exact hk S' o' M J I H (q1.trans<|q2.trans<|k2.kq.trans O) (by rw[p,xAx];rfl)
 |.s ts r,⟨⟨Y,h4⟩,P⟩,fw,d,q,o,S,E,kk,Q,a1,a4,a5,a6,a7,fs,C,F,G,g,hk=>by
  have G:max ts.dp r.dp+2<=d+2:=G;have C:ln (ts.txs++r.ws)<=big+1:=C;rw[cU] at C;have F:fs.length+(r.sz+1)<=1000:=F;erw[pd (dI c_S),bT,pd (v:=.ref S.length) (S':=S++[.lst []]) rfl];have R:at? (S++[Ob.lst []]) S.length=some (.lst []):=zA3;have kp:Kp S<|S++[Ob.lst []]:=Kp.app;have hn:q≠S.length:=by have:=zBt g;lia
  have e1:Kq S.length S<|S++[Ob.lst []]:=kp.kq;generalize S++[Ob.lst []]=T at R e1⊢;erw[pv (.tup ts.us),<-qY (d:=d) Y (o:=o) (fs:=[]) () (by simp;lia) () R λS1 H k1 Z=>?_];have g3:at? S1 q=some (.lst fs):=k1.ky hn<|e1.ky hn g;erw[pd (cv g3),pd (v:=.tup (ts.mv o).us) (S':=S1) (by show zA1 (.ref S.length) S1=_;unfold zA1;dsimp only[lsU];rw[Z];rfl),pd (cZ g3<|by show _<=2^24;lia),<-gR P (o:=o+ln ts.txs) (fs:=fs++[.tup (ts.mv o).us]) () (by simp;lia) () (zAc g3) λS' o' M J I H O p=>?_,<-hk S' o' M J I H ⟨?_,λ{a ob} ha X=>?_⟩ (by rw[p,xAx];rfl)]
  .have:=O.len;rw[zBb] at this;exact xCk (xCk e1.len k1.len) this
  .have W:a≠S.length:=by have:=zBt X;lia
   exact O.ky ha<|Kq.set.ky ha<|k1.ky W<|e1.ky W X
 |.n xs r,⟨h4,P⟩,fw,d,q,o,S,E,kk,Q,a1,a4,a5,a6,a7,fs,C,F,G,g,hk=>by
  have G:r.dp+2<=d+2:=G;have C:(br<|jn<|xs.map tl).length+1+ln r.ws<=big+1:=C;have F:fs.length+(r.sz+1)<=1000:=F;erw[pd (dI c_S),bF,pd (cv g),pd (cZ g<|by show _<=2^24;lia),pd (dI c_E),bF,A9 (d:=d+1) (),pd (c9 (a:=o) (b:=(br<|jn<|xs.map tl).length)),pd (c9 (a:=o+(br<|jn<|xs.map tl).length) (b:=1)),<-gR P (o:=o+(br<|jn<|xs.map tl).length+1) (fs:=fs++[.tup<|xs.map .str]) () (by simp;lia) () (zAc g) λS' o' M J I H O p=>?_];exact hk S' o' M J I H (Kq.set.trans O) (by rw[p,xAx];rfl)
 |.w so y r,⟨_,P⟩,fw,d,q,o,S,E,kk,Q,a1,a4,a5,a6,a7,fs,C,F,G,g,hk=>by
  have G:r.dp+2<=d+2:=G;have C:(tl y).length+1+ln r.ws<=big+1:=C;rw[zAf] at C;have F:fs.length+(r.sz+1)<=1000:=F;let⟨n1,n2,n3⟩:=rj (so:=so);erw[pd (dI c_S)];rw[xCn n2];erw[bF,pd (cv g),pd (cZ g<|by show _<=2^24;lia),pd (dI c_E)];rw[xCn n3];erw[bF,A8 (d:=d+1) n1 n3 (),pd (c9 (a:=o) (b:=y.length)),pd (c9 (a:=o+y.length) (b:=1)),<-gR P (o:=o+y.length+1) (fs:=fs++[.str y]) () (by simp;lia) () (zAc g) λS' o' M J I H O p=>?_];exact hk S' o' M J I H (Kq.set.trans O) (by rw[p,xAx];rfl)
theorem qY:∀{t:Tms},t.fm->∀{fw d q o:Nat}{S:So}{E:Ee Prop}{kk:Sg->So->Prop}{i a1 a3 a4 a5 a7:B1 U}{fs:B8},ln t.txs<=big+1->fs.length+t.sz<=1000->t.dp+2<=d+2->at? S q=some (.lst fs) ->
  (∀S' H,Kq q S S'->at? S' q=some (.lst<|fs++(t.mv o).us)->kk [i,a1,some<|.int ((o+ln t.txs:Nat):Int),a3,a4,a5,some<|.ref q,H] S') ->
  zB2 t.us (λw σ1 S2 nx=>tgt [7] true (Gd fw<|d+2) w σ1 λσ2=>zEk (Gd fw<|d+2) σ2 S2<|lpE E nx) [i,a1,some<|.int o,a3,a4,a5,some<|.ref q,a7] S kk
 |.nil,_,fw,d,q,o,S,E,kk,i,a1,a3,a4,a5,a7,fs,G,p,F,g,hk=>hk S a7 Kq.refl (by rw[show(Tms.nil.mv o).us=[] from rfl,xB0];exact g)
 |.cons t r,⟨J,Q⟩,fw,d,q,o,S,E,kk,i,a1,a3,a4,a5,a7,fs,G,p,F,g,hk=>by
  have F:max t.dp r.dp+2<=d+2:=F;have G:t.tx.length+1+ln r.txs<=big+1:=G;have P:big=1000000:=rfl;have p:fs.length+(r.sz+1)<=1000:=p;erw[pd (cv g),<-qZ (d:=d+2) (o:=o) J () () λS1 k1=>?_,pd (cZ (k1.ky g)<|by show _<=2^24;lia)];have M:at? (Fx.set S1 q<|Ob.lst<|fs++[(t.mv o).u]) q=some (.lst<|fs++[(t.mv o).u]):=zAc<|k1.ky g;have I:Kq q S<|Fx.set S1 q<|Ob.lst<|fs++[(t.mv o).u]:=k1.kq.trans Kq.set;generalize Fx.set S1 q (Ob.lst<|fs++[(t.mv o).u])=T2 at M I⊢;erw[<-kr (d:=d+2) J () () λS2 k2=>?_,pd (dA ()),pd (c9 (a:=o) (b:=t.tx.length)),pd (c9 (a:=o+t.tx.length) (b:=1)),<-qY (t:=r) Q (o:=o+t.tx.length+1) (fs:=fs++[(t.mv o).u]) () (by simp;lia) () (k2.ky M) λS' H O C=>?_];have:=hk S' H (I.trans<|k2.kq.trans O) (by rw[C,xAx];rfl);rw[show o+ln (Tms.cons t r).txs=o+t.tx.length+1+ln r.txs by show o+(t.tx.length+1+ln r.txs)=_;lia] at this;exact this
end
end
section
variable{fw d q:Nat}{S S1 S2 S':So}{x xc:C7}{K:C6}{v:U}{k:Str}{n:Int}
noncomputable def tkU(p:Nat×B9):U:=.tup [.int p.1,stU p.2]
def qj{c:Nat}{w:Str}:pr ups .inn [.str ⟨#[c]⟩,.str w] S=.ok (.bl<|decide<|c∈tl w) S:=by
 show obB (some (!(Builtin.Str.occurrences w ⟨#[c]⟩ 0 w.length 1).isEmpty)) id S=_;rw[show(!(Builtin.Str.occurrences w ⟨#[c]⟩ 0 w.length 1).isEmpty)=decide (c∈tl w) from StrLaws.found_one w c];rfl
def AK:tl ("()":Str)=[40,41]:=by decide +kernel
def AQ:tl ("0123456789":Str)=[48,49,50,51,52,53,54,55,56,57]:=by decide +kernel
noncomputable def ch(c:Nat):U:=.str ⟨#[c]⟩
theorem jJ{E:Ee Prop}{kk:Sg->So->Prop}{M:B1 U}:∀{l:B9}{o:Nat}{g:B6}{acc:B0<|Nat×B9}{S:So}{a3 a4 a5 a6:B1 U},at? S q=some (.lst<|acc.map tkU)->(g=true->∃a b w,acc=a++[(b,w)])->(∀p∈acc,p.2.length+l.length<=100000)->acc.length+l.length<=100000 ->
  (∀S' g' a3 a4 a5 a6,Kq q S S'->at? S' q=some (.lst<|(scan l o g acc).map tkU)->kk [M,some<|.ref q,some<|.bl g',a3,a4,a5,a6] S') ->
  zB2 (zDq o<|l.map ch) (λw σ1 S2 nx=>tgt [3,4] false (Gd fw d) w σ1 λσ2=>zHu (Gd fw d) σ2 S2<|lpE E nx) [M,some<|.ref q,some<|.bl g,a3,a4,a5,a6] S kk
 |[],o,g,acc,S,a3,a4,a5,a6,i,Q,R,P,hk=>hk S g a3 a4 a5 a6 Kq.refl i
 |c::l,o,g,acc,S,a3,a4,a5,a6,i,Q,R,P,hk=>by
  have C:∀p∈acc,p.2.length+(l.length+1)<=100000:=R;have G:acc.length+(l.length+1)<=100000:=P;have e1:(o:Int)+1=((o+1:Nat):Int):=()
  have go:∀{acc':B0<|Nat×B9}{g':B6}{S1:So}{Z Y X W:B1 U},scan (c::l) o g acc=scan l (o+1) g' acc'->at? S1 q=some (.lst<|acc'.map tkU)->Kq q S S1->(g'=true->∃a b w,acc'=a++[(b,w)])->(∀p∈acc',p.2.length+l.length<=100000)->acc'.length+l.length<=100000->zB2 (zDq ((o:Int)+1)<|l.map ch) (λw σ1 S2 nx=>tgt [3,4] false (Gd fw d) w σ1 λσ2=>zHu (Gd fw d) σ2 S2<|lpE E nx) [M,some<|.ref q,some<|.bl g',Z,Y,X,W] S1 kk:=λ{acc' g' S1 Z Y X W} e I k1 J F h3=>by
   rw[e1];exact jJ I J F h3 λS' g2 a3 a4 a5 a6 k2 h=>hk S' g2 a3 a4 a5 a6 (k1.trans k2) (by rw[e];exact h)
  have one:∀{T:So},at? T q=some (.lst<|acc.map tkU)->pr ups .app [.ref q,.tup [.int o,ch c]] T=.ok .non (Fx.set T q<|.lst<|(acc++[(o,[c])]).map tkU):=λ{T} h=>by
   rw[cZ h (by show _<=2^24;rw[xAa];lia),xAi];rfl
  have r:(∀p∈acc++[(o,[c])],p.2.length+l.length<=100000)/\(acc++[(o,[c])]).length+l.length<=100000:=by
   refine⟨λp hp=>?_,by rw[xAb];simp;lia⟩;rcases xAj.mp hp with hp|hp
   .have:=C p hp;lia
   .rw[xAm.mp hp];show 1+l.length<=_;lia
  erw[pd (dI zd)];by_cases h1:c=32
  .rw[xBd h1];erw[bT];exact go (acc':=acc) (g':=false) (by rw[scan,xCg h1]) i Kq.refl nofun (λp hp=>by have:=C p hp;lia) ()
  rw[xCn h1];erw[bF,pd qj];rw[AK];by_cases F:c=40\/c=41
  .rw[xBd<|by simpa using F];erw[bT,pd (cv i),pd (one i),<-go (acc':=acc++[(o,[c])]) (g':=false) (by rw[scan,xCf h1,xCg F]) (zAc i) Kq.set nofun r.1 r.2]
  rw[xCn<|by simpa using F];erw[bF,pv (.bl g)];cases g with
  |false=>
   erw[bF,pd (cv i),pd (one i)];exact go (acc':=acc++[(o,[c])]) (g':=true) (by rw[scan,xCf h1,xCf F];rfl) (zAc i) Kq.set (λ_=>⟨acc,o,[c],rfl⟩) r.1 r.2
  |true=>
   let⟨a,b,w,rfl⟩:=Q rfl;have hw:w.length+(l.length+1)<=100000:=C (b,w) ⋯;have hla:a.length+1+(l.length+1)<=100000:=by rw[xAb] at G;exact G
   erw[bT,pd (cv i),pd (xf (xs:=a.map tkU) (v:=tkU (b,w))<|by rw[i,xAi];rfl)];have H:at? (Fx.set S q<|Ob.lst<|a.map tkU) q=some (.lst<|a.map tkU):=zAc i;have O:Kq q S<|Fx.set S q<|Ob.lst<|a.map tkU:=Kq.set;generalize Fx.set S q (Ob.lst<|a.map tkU)=T at H O⊢;erw[pv (tkU (b,w)),pd (cv H),pd (fO (a:=w) (b:=[c])<|by simp;lia),pd (v:=.non) (S':=Fx.set T q<|.lst<|(a++[(b,w++[c])]).map tkU) (by rw[cZ H (by show _<=2^24;rw[xAa];lia),xAi];rfl),<-go (acc':=a++[(b,w++[c])]) (g':=true) (by rw[scan,xCf h1,xCf F,xCg rfl,mX]) (zAc H) (O.trans Kq.set) (λ_=>⟨a,b,w++[c],rfl⟩) (λp hp=>?_) (by rw[xAb];simp;lia)];rcases xAj.mp hp with hp|hp
   .have:=C p<|xBw _ hp;lia
   .rw[xAm.mp hp];show(w++[c]).length+_<=_;rw[xAb];simp;lia
def pi(i:l.length<=50000)(hk:∀S',Kp S S'->at? S' S.length=some (.lst<|(scan l 0 false []).map tkU)->K (.ref S.length) S'):(Gd fw<|d+1).call 23 [.str<|mkS l] S x K:=by
 erw[cd ⟨1,7,t23⟩,pd (v:=.ref S.length) (S':=S++[.lst []]) rfl];have a:at? (S++[Ob.lst []]) S.length=some (.lst []):=zA3;have kp:Kq S.length S<|S++[Ob.lst []]:=Kp.kq Kp.app;generalize S++[Ob.lst []]=T at a kp⊢;erw[pd (v:=.tup<|zDq 0<|l.map ch) (S':=T) rfl,<-jJ (o:=0) (g:=false) (acc:=[]) a nofun nofun (by simp;lia) λS' p a3 a4 a5 a6 b h=>?_];exact hk S' (kp.trans b).kp h
noncomputable def fgB(c:Nat):B6:=decide<|c∈[48,49,50,51,52,53,54,55,56,57]
theorem vY:∀{cs:B9}{ys:B8},K (.lst<|ys++cs.map λc=>.bl<|fgB c) S->lcK (Gd fw d) (zCu [1] true [none,none] (cB<|tB<|J1 .inn J3<|J2 "0123456789")<|Gd fw d) (cs.map λc=>.str ⟨#[c]⟩) ys S K
 |[],ys,hk=>by
  rw[List.map_nil,xB0] at hk;exact hk
 |c::cs,ys,hk=>by
  erw[pd (v:=.bl<|fgB c) (S':=S) (by rw[qj,AQ];rfl),vY (cs:=cs) (ys:=ys++[.bl<|fgB c])];rw[xAx];exact hk
theorem qU{w f:B9}{sg:U}(i:f.length<=13)(a:1<=f.length->f.length<=12->f.all fgB=true->K (.bl<|decide (w=[48])||!decide (f.head?=some 48)) S)(b:¬ (1<=f.length/\f.length<=12/\f.all fgB=true)->K (.bl false) S):rz6 (Gd fw d) [some<|stU w,some<|.int 12,some<|stU f] S<|zAk x K:=by
 erw[pd (dA ()),pd (v:=.bl<|decide<|(1:Int)<=f.length) (S':=S) rfl];by_cases h1:1<=f.length
 case neg=>
  rw[xCn ()];erw[bF,bT,<-b λz=>h1 z.1]
 rw[xBd ()];erw[bT,pd (v:=.bl<|decide<|(f.length:Int)<=12) (S':=S) rfl];by_cases h2:f.length<=12
 case neg=>
  rw[xCn ()];erw[bT,<-b λz=>h2 z.2.1]
 rw[xBd ()];erw[bF,pv (.tup<|f.map λc=>.str ⟨#[c]⟩),<-bI (λ_=>?_) λz=>absurd (gi (n:=(f.map λc=>U.str ⟨#[c]⟩).length)<|by rw[xAa];lia) (by rw[z];decide),vY (ys:=[])];rw[xC6];refine pd (v:=.bl<|f.all fgB) (S':=S) ?_ ?_
 .show(match blL (f.map λc=>U.bl<|fgB c) with|some bs=>Res.ok (.bl<|bs.all id) S|none=>.stuck)=_;rw[gJ];dsimp only;rw[List.all_map];rfl
 cases ha:f.all fgB with
 |false=>
  erw[bT];exact b λz=>by rw[ha] at z;exact nomatch z.2.2
 |true=>
  erw[bF];have a:=a h1 h2 ha;have g:("0":Str)=mkS [48]:=by decide +kernel
  refine pd (v:=.bl<|decide<|w=[48]) (S':=S) ?_ ?_
  .show Res.ok (.bl<|decide<|mkS w=("0":Str)) S=_;rw[g];congr 2;exact decide_eq_decide.mpr ⟨λh=>congrArg tl h,λh=>by rw[h]⟩
  by_cases hw:w=[48]
  .rw[xBd hw] at a⊢;erw[bT,<-a]
  .rw[xCn hw] at a⊢;erw[bF];cases f with
   |nil=>exact absurd h1 ∅
   |cons c f=>
    refine pd (v:=.str ⟨#[c]⟩) (S':=S) ?_ ?_
    .show(match atI (tl<|mkS<|c::f) (0:Nat) with|some c=>fits (mkS<|c::f).length (Res.ok (.str ⟨#[c]⟩) S)|none=>.stuck)=_;rw[y3,dQ (v:=c) rfl];exact zBd (by rw[eO];show _<=2^24;lia)
    .refine pd (v:=.bl (!decide (c=48))) (S':=S) ?_ ?_
     .show Res.ok (.bl (!decide ((⟨#[c]⟩:Str)="0"))) S=_;rw[g];congr 3;exact decide_eq_decide.mpr ⟨λh=>(List.cons.inj<|congrArg tl h).1,λh=>by rw[h];rfl⟩
     .have e:decide ((c::f).head?=some 48)=decide (c=48):=decide_eq_decide.mpr ⟨λh=>xB3 h,λh=>by rw[h];rfl⟩;rw[e] at a;exact a
def AN:("-":Str)=Row.one 45:=by decide +kernel
def qh{w:B9}:pr ups .starts [stU w,.str "-"] S=.ok (.bl<|decide<|w.head?=some 45) S:=by
 show Res.ok (.bl<|decide (0+("-":Str).length<=(mkS w).length)&&Builtin.Str.subAt (mkS w) "-" 0) S=_;rw[AN,Row.starts_eq];rfl
def tS{w:B9}(h:0<w.length)(a:w.length<=16000000):pr ups (.sl false true false) [stU w,.int 1] S=.ok (stU<|w.drop 1) S:=by
 show(match Nat.ble (mkS w).length sizeLine with|true=>Res.ok (.str<|Txt.slice (mkS w) (some 1) none) S|false=>.stuck)=_;rw[eO,xDk (show w.length<=sizeLine by show _<=2^24;lia),Row.slice_tail<|by rw[eO];exact h];rfl
def vt(h:∀c∈l,48<=c/\c<=57):l.all fgB=true:=xCx.mpr λc a=>by
 have b:48<=c/\c<=57:=h c a;obtain⟨j,rfl⟩:∃j,c=48+j:=⟨c-48,()⟩
 have:∀j<10,fgB (48+j)=true:=∅
 exact this j ()
def xQ(h:n.natAbs<10^12)(hk:K (.bl true) S):(Gd fw<|d+1).call 24 [stU<|dg n,.int 12] S x K:=by
 let⟨⟨y,a,e⟩,_,g⟩:=Row.num_int h;have g:(dg n).length<=13:=by
  show(tl<|PySem.Str.ofString<|toString n).length<=13;rw[zAf];exact g
 have C:=a.few;have w:=a.pos;erw[cd ⟨2,3,t24⟩,pv (stU<|dg n),pd qh];have b:∀{f:B9},(f=tl y)->(dg n=[48]\/f.head?≠some 48)->rz6 (Gd fw d) [some<|stU<|dg n,some<|.int 12,some<|stU f] S (zAk x K):=λ{f} p ho=>by
  subst p;refine qU (sg:=.non) (by rw[zAf];lia) (λ_ _ _=>?_) λz=>absurd ⟨by rw[zAf];lia,by rw[zAf];lia,vt λc o=>a.dig c o⟩ z;rcases ho with ho|ho
  .rw[xBd ho];exact hk
  .rw[xCn ho,Bool.not_false,Bool.or_true];exact hk
 have e:dg n=tl y\/(dg n=45::tl y/\(tl y).head?≠some 48):=by
  rcases e with e|⟨e,e2⟩
  .exact .inl<|congrArg tl e
  .exact .inr ⟨(congrArg tl e).trans<|Row.tl_app _ _,e2⟩
 rcases e with e|⟨e,e2⟩
 .have i:(dg n).head?≠some 45:=λz=>by
   rw[e] at z;cases hy:tl y with
   |nil=>rw[hy] at z;cases z
   |cons c r=>
    rw[hy] at z;have:=a.dig c (by show c∈tl y;rw[hy];exact xAr ..);have:=xB3 z;lia
  rw[xCn i];erw[bF,b e];rcases a.lead with q|q
  .exact .inl (by rw[e,q];rfl)
  .exact .inr (by rw[e];exact q)
 .rw[xBd<|by rw[e];rfl];erw[bT,pd (tS (by rw[e];simp) ())];exact b (by rw[e];rfl) (.inr<|by rw[e];exact e2)
theorem zW{w:B9}(a:w≠[])(b:w.length<=8)(h:∀c∈w,97<=c/\c<=122)(hk:K (.bl false) S):(Gd fw<|d+1).call 24 [stU w,.int 12] S x K:=by
 erw[cd ⟨2,3,t24⟩,pv (stU w),pd qh];cases w with
 |nil=>exact absurd rfl a
 |cons c w=>
  have g:=h c<|xAr ..;rw[xCn λz=>by have:=xB3 z;lia];erw[bF,<-qU (sg:=.non) () (λ_ _ z=>?_) λ_=>hk];rw[xCj,xCh] at z;obtain⟨j,rfl⟩:∃j,c=97+j:=⟨c-97,()⟩
  have:∀j<26,fgB (97+j)=false:=∅
  rw[this j ()] at z;exact nomatch z.1
def tY(h:n.natAbs<10^12):pr ups .int1 [stU<|dg n] S=.ok (.int n) S:=by
 let⟨_,e,a⟩:=Row.num_int h;have e:PySem.intText? (mkS<|dg n)=some n:=e;have a:(mkS<|dg n).length<=13:=a;unfold stU;delta pr;dsimp only;rw[e];dsimp only;rw[xDk<|show(mkS<|dg n).length<=640 by lia]
end
section
variable{fw d q h wq mq a:Nat}{S S1 S2 S':So}{x xc:C7}{K:C6}{v:U}{n wi:Int}{W rest:B8}{th:B7}
structure RdS(h wq mq:Nat)(W:B8)(n:Int)(a:Nat)(S:So):Prop where
 ob:at? S h=some (.ins "Reader" [("words",.ref wq),("signs",.int n),("at",.int a),("missing",.ref mq)])
 wd:at? S wq=some (.lst W)
 ms:at? S mq=some (.lst [])
def RdS.kp(R:RdS h wq mq W n a S)(k:Kp S S'):RdS h wq mq W n a S':=⟨k.ky R.ob,k.ky R.wd,k.ky R.ms⟩
def RdS.kq(R:RdS h wq mq W n a S)(k:Kq q S S')(g:q≠h)(b:q≠wq)(i:q≠mq):RdS h wq mq W n a S':=⟨k.ky (Ne.symm g) R.ob,k.ky (Ne.symm b) R.wd,k.ky (Ne.symm i) R.ms⟩
def dropc{l:B8}{a:Nat}{r:B8}(h:l.drop a=v::r):l[a]?=some v/\l.drop (a+1)=r:=by
 refine⟨?_,?_⟩
 .have:=congrArg (·[0]?) h;simpa using this
 .rw[<- List.tail_drop,h];rfl
def xY{l:B8}{a:Nat}(h:l[a]?=some v):a<l.length:=(xAq.mp h).1
def cW(R:RdS h wq mq W n a S)(b:W[a]?=some v)(hk:K v S):(Gd fw<|d+1).call 26 [.ref h] S x K:=by
 have g:=xY b;erw[cd ⟨1,1,t26⟩,pd (du R.ob rfl),pd (du R.ob rfl),pd (dN R.wd),pd cL];rw[xCn ()];erw[bF,pd (du R.ob rfl),pd (du R.ob rfl),pd (cx R.wd b)];exact hk
def dJ(R:RdS h wq mq W n a S)(g:W[a]?=some v)(hk:∀S',RdS h wq mq W n (a+1) S'->Kq h S S'->K v S'):(Gd fw<|d+2).call 27 [.ref h] S x K:=by
 erw[cd ⟨1,2,t27⟩,pd (cm (C:="Reader") R.ob rfl),cW R g,pd (du R.ob rfl),pd (c9 (a:=a) (b:=1)),pd (i9 (fs':=[("words",.ref wq),("signs",.int n),("at",.int (a+1:Nat)),("missing",.ref mq)]) R.ob rfl rfl),<-hk _ ⟨zAc R.ob,atK R.ob R.wd (λz=>nomatch z),atK R.ob R.ms λz=>nomatch z⟩ Kq.set]
def fC{w u:B9}:pr ups .ne [stU w,stU u] S=.ok (.bl (!decide (w=u))) S:=by
 show Res.ok (.bl (!decide (mkS w=mkS u))) S=_;congr 3;exact decide_eq_decide.mpr ⟨λh=>congrArg tl h,λh=>by rw[h]⟩
def jN{p:Nat}{b:Str}(R:RdS h wq mq W n a S)(i:W[a]?=some (tkU (p,tl b)))(hk:∀S',RdS h wq mq W n (a+1) S'->Kq h S S'->K .non S'):(Gd fw<|d+3).call 28 [.ref h,.str b] S x K:=by
 erw[cd ⟨2,4,t28⟩,pd (cm (C:="Reader") R.ob rfl),<-dJ R i λS1 R1 g=>?_,pv (tkU (p,tl b)),pd (v:=.bl false) (S':=S1) (by have:=fC (S:=S1) (w:=tl b) (u:=tl b);rw[xBd rfl] at this;exact this),bF,<-hk S1 R1 g]
def em(h:zAg y=true):1<=y.length/\y.length<=8:=by
 unfold zAg zAp at h;rw[xCh,xCh,xCh] at h;exact⟨xCo h.1.1.1,xCo h.1.1.2⟩
def pvN(h:y.length<=1000):pvB (.str y)=true:=xDk h
def vG{p:Nat}(b:zAg y=true)(k:y∈th)(R:RdS h wq mq W n a S)(i:W[a]?=some (tkU (p,tl y)))(hk:∀S',RdS h wq mq W n (a+1) S'->Kq h S S'->K (.str y) S'):(Gd fw<|d+3).call 33 [.ref h,.tup<|th.map .str] S x K:=by
 erw[cd ⟨2,4,t33⟩,pd (cm (C:="Reader") R.ob rfl),<-dJ R i λS1 R1 g=>?_,pv (tkU (p,tl y)),isn (d:=d) (v:=.str y) (pvN (by have:=em b;lia))];rw[show zBr (.str y)=true from b];erw[bF,<-pd (v:=.bl false) (S':=S1) ?_ ?_]
 .show obB (if(zAr (.str y)&&(th.map U.str).all zAr)=true then some (zBc (.str y)<|th.map U.str) else none) not S1=_;rw[fq,eG k];rfl
 erw[bF,<-hk S1 R1 g]
def ze{p:Nat}(R:RdS h wq mq W n a S)(G:W[a]?=some (tkU (p,tl y)))(g:(so="name"/\zAg y=true)\/((so="word"\/so="op")/\zAp y=true))(hk:∀S',RdS h wq mq W n (a+1) S'->Kq h S S'->K (.str y) S'):(Gd fw<|d+3).call 32 [.ref h,.str so,.tup<|th.map .str,.int wi] S x K:=by
 have ne:so≠"part"/\so≠"parts"/\so≠"names"/\so≠"used":=by rcases g with ⟨rfl,_⟩|⟨rfl|rfl,_⟩ <;> decide
 let⟨F,w,r,o⟩:=ne;erw[cd ⟨4,6,t32⟩,pd (cn F),bF,pd (cn w),bF,pd (cn r),bF,pd (cn o),bF,pd (cm (C:="Reader") R.ob rfl),<-dJ R G λS1 R1 i=>?_,pv (tkU (p,tl y))];rcases g with ⟨rfl,k⟩|⟨g,b⟩
 .erw[pd (cR rfl),bT,isn (d:=d) (v:=.str y) (pvN (by have:=em k;lia))];rw[show zBr (.str y)=true from k];erw[bF];exact hk S1 R1 i
 .have H:y.length<=8:=by
   unfold zAp at b;rw[xCh,xCh] at b;exact xCo b.1.2
  erw[pd (cn<|by rcases g with rfl|rfl <;> decide),bF,isw (d:=d+1) (v:=.str y) (pvN ())];rw[show zCk (.str y)=true from b];erw[bF];exact hk S1 R1 i
noncomputable def tU(l:B0<|Nat×B9):B8:=l.map tkU
def gO{l r:B0<|Nat×B9}:tU (l++r)=tU l++tU r:=xAi
def zJ1:TTx Prop:=(tB<|J1 .ne (J8 (cM "Reader" "coming" 26 J0 aN []) Ji)<|J2 ")")
theorem jD:∀{xs:B7}{y:Str},y∉xs->zBc (.str y) (xs.map U.str)=false
 |[],_,_=>rfl
 |z::xs,y,h=>by
  show((z==y)||zBc (.str y) (xs.map .str))=false;rw[jD λw=>h<|xAs _ w,Bool.or_false];exact beq_eq_false_iff_ne.mpr λe=>h (by rw[e];exact xAr ..)
theorem kh{E:Ee Prop}{kk:Sg->So->Prop}:∀{ys xs:B7}{o a e m:Nat}{S:So}{a2 a3:B1 U},RdS h wq mq W n a S->q≠h->q≠wq->q≠mq->at? S q=some (.lst<|xs.map .str)->(∀y∈ys,zAg y=true)->(xs++ys).Nodup->(xs++ys).length<=4->W.drop a=tU (nmk ys o)++tkU (e,[41])::rest->ys.length<m ->
  (∀S' a2 a3,RdS h wq mq W n (a+ys.length) S'->at? S' q=some (.lst<|(xs++ys).map .str)->(∀{b P},b≠h->b≠q->at? S b=some P->at? S' b=some P)->S.length<=S'.length->kk [some<|.ref h,some<|.ref q,a2,a3] S') ->
  whK (λσ1 S1 k=>zJ1 (Gd fw<|d+2) σ1 S1 (λx S2=>E.x x σ1 S2) k) (λσ1 S1 nx=>zJe (Gd fw<|d+2) σ1 S1<|lpE E nx) (Gd fw<|d+2).br (Gd fw<|d+2).fail m [some<|.ref h,some<|.ref q,a2,a3] S kk
 |ys,xs,o,a,e,0,S,a2,a3,R,i,F,J,H,I,p,Y,O,M,hk=>absurd M<|Nat.not_lt_zero _
 |[],xs,o,a,e,m+1,S,a2,a3,R,i,F,J,H,I,p,Y,O,M,hk=>by
  rw[whK];let⟨G,hr⟩:=dropc<|show W.drop a=tkU (e,[41])::rest from O;erw[pd (cm (C:="Reader") R.ob rfl),cW R G,pd eK,pd (v:=.bl false) (S':=S) (by rw[kY];exact fC (w:=[41]) (u:=[41])),bF];exact hk S a2 a3 R (by rw[xB0];exact H) (λ_ _ z=>z)<|xAg _
 |y::ys,xs,o,a,e,m+1,S,a2,a3,R,i,F,J,H,I,p,Y,O,M,hk=>by
  rw[whK];let⟨G,hr⟩:=dropc<|show W.drop a=tkU (o,tl y)::(tU (nmk ys<|o+y.length+1)++tkU (e,[41])::rest) from O;have Q:=I y<|xAr ..;have T:tl y≠[41]:=λz=>by
   have:y=mkS [41]:=by rw[<- zY (w:=y),z]
   subst this;exact absurd Q (by decide +kernel)
  erw[pd (cm (C:="Reader") R.ob rfl),cW R G,pd eK,pd (v:=.bl true) (S':=S) (by rw[kY];have:=fC (S:=S) (w:=tl y) (u:=[41]);rw[xCn T] at this;exact this),bT,pd (cm (C:="Reader") R.ob rfl),<-dJ R G λS1 R1 k1=>?_];have g:=k1.ky i H;erw[pv (tkU (o,tl y)),isn (d:=d) (v:=.str y) (pvN (by have:=em Q;lia))];rw[show zBr (.str y)=true from Q];erw[bF];have hd':=p;have hy:y∉xs:=λz=>(xBq.mp p).2.2 y z y (xAr ..) rfl;refine pd (v:=.bl false) (S':=S1) ?_ ?_
  .show obB (inU S1 (.str y)<|.ref q) id S1=_;unfold inU;dsimp only;rw[g];show obB (if(zAr (.str y)&&(xs.map U.str).all zAr)=true then some (zBc (.str y)<|xs.map U.str) else none) id S1=_;rw[fq,jD hy];rfl
  erw[bF,pd (dN g)];rw[xAb,xAo] at Y;erw[pd cL];rw[xCn<|by rw[xAa];lia];erw[bF,pd (cv g),pd (v:=.non) (S':=Fx.set S1 q<|.lst<|(xs++[y]).map .str) (by show pr ups .app [.ref q,.str y] S1=_;rw[cZ (v:=.str y) g (by show _<=2^24;rw[xAa];lia),xAi];rfl)];have R2:RdS h wq mq W n (a+1)<|Fx.set S1 q<|.lst<|(xs++[y]).map .str:=R1.kq Kq.set i F J;refine kh (ys:=ys) (xs:=xs++[y]) (o:=o+y.length+1) (e:=e) R2 i F J (zAc g) (λz hz=>I z<|xAs _ hz) (by rw[xAx];exact p) (by rw[xAb,xAb];simp;lia) hr (by simp at M;lia) λS' a2 a3 R3 X ky ln=>?_;refine hk S' a2 a3 (by rw[xAo,show a+(ys.length+1)=a+1+ys.length by lia];exact R3) (by rw[X,xAx];rfl) (λ{b P} Z r z=>ky Z r<|atN (Ne.symm r)<|k1.ky Z z) (xCk k1.len<|by rw[zBb] at ln;exact ln)
theorem jl:∀{ys:B7}{o:Nat},(nmk ys o).length=ys.length
 |[],_=>rfl
 |_::ys,o=>congrArg (·+1)<|jl (ys:=ys)
def zh{ys:B7}{o p:Nat}(hf:10<=fw)(R:RdS h wq mq W n a S)(M:∀y∈ys,zAg y=true)(O:ys.Nodup)(Q:ys.length<=4)(P:W.drop a=tkU (p,[40])::(tU (nmk ys o)++tkU (e,[41])::rest))(hk:∀S',RdS h wq mq W n (a+(ys.length+2)) S'->Kq h S S'->K (.tup<|ys.map .str) S'):(Gd fw<|d+4).call 35 [.ref h] S x K:=by
 let⟨J,hr⟩:=dropc P;erw[cd ⟨1,4,t35⟩,pd (cm (C:="Reader") R.ob rfl),<-jN (d:=d) (b:="(") (p:=p) R (by rw[nX];exact J) λS1 R1 H=>?_,pd (v:=.ref S1.length) (S':=S1++[.lst []]) rfl];have I:at? (S1++[Ob.lst []]) S1.length=some (.lst []):=zA3;have R2:RdS h wq mq W n (a+1)<|S1++[Ob.lst []]:=R1.kp Kp.app;have l1:=zBt R1.ob;have Z:=zBt R1.wd;have Y:=zBt R1.ms;have k2:Kp S1<|S1++[Ob.lst []]:=Kp.app;generalize S1++[Ob.lst []]=T at I R2 k2⊢;show whK _ _ _ _ (Gd fw<|d+3).fuel _ _ _;rw[fuel];refine kh (d:=d+1) (ys:=ys) (xs:=[]) (o:=o) (e:=e) R2 () () () I M (by simpa using O) (by simpa using Q) hr () λS' a2 a3 R3 w ky ln=>?_;have k:W.drop (a+1+ys.length)=tkU (e,[41])::rest:=by
  rw[<- List.drop_drop,hr,<- jl (ys:=ys) (o:=o),<- xAa (as:=nmk ys o) tkU];exact List.drop_left
 let⟨i,_⟩:=dropc k;erw[pd (cm (C:="Reader") R3.ob rfl),<-dJ (d:=d+1) R3 i λS4 R4 g=>?_];have r:=g.ky () w;erw[pd (v:=.tup<|ys.map .str) (S':=S4) (by show zA1 (.ref S1.length) S4=_;unfold zA1;dsimp only[lsU];rw[r];rfl),<-hk S4 (by rw[show a+(ys.length+2)=a+1+ys.length+1 by lia];exact R4) ⟨xCk H.len<|xCk k2.len<|xCk ln g.len,λ{b X} F z=>?_⟩];have G:=H.ky F z;exact g.ky F<|ky F (by have:=zBt G;lia)<|k2.ky G
structure RdP(tk:B0 (Nat×B9))(v:U)(th:B7)(wi:Int)(D:Nat):Prop where
 hd:∃p w r,tk=(p,w)::r/\w≠[41]
 h:∀{fw d h wq mq a:Nat}{W rest:B8}{n:Int}{S:So}{x:C7}{K:C6},D<=d->10<=fw->RdS h wq mq W n a S->W.drop a=tU tk++rest->(∀S',RdS h wq mq W n (a+tk.length) S'->Kq h S S'->K v S')->(Gd fw d).call 30 [.ref h,.tup (th.map .str),.int wi] S x K
structure RdI(so:Str)(tk:B0 (Nat×B9))(v:U)(th:B7)(wi:Int)(D:Nat):Prop where
 h:∀{fw d h wq mq a:Nat}{W rest:B8}{n:Int}{S:So}{x:C7}{K:C6},D<=d->10<=fw->RdS h wq mq W n a S->W.drop a=tU tk++rest->(so="parts"->∃p r,rest=tkU (p,[41])::r)->(∀S',RdS h wq mq W n (a+tk.length) S'->Kq h S S'->K v S')->(Gd fw d).call 32 [.ref h,.str so,.tup (th.map .str),.int wi] S x K
variable{D D':Nat}{tk:B0<|Nat×B9}
def RdP.mono(h:RdP tk v th wi D)(b:D<=D'):RdP tk v th wi D':=⟨h.hd,λa=>h.h<|xCk b a⟩
def yv(h:RdP tk v th wi D):RdI "part" tk v th wi<|D+1:=⟨λ{fw d k wq mq a W rest n S x K} i b R g _ hk=>by
 obtain⟨d,rfl⟩:∃e,d=e+1:=⟨d-1,()⟩
 refine cd ⟨4,6,t32⟩ ?_;refine pd (cR rfl) ?_;refine bT ?_;refine pd (cm (C:="Reader") R.ob rfl) ?_;exact h.h () b R g hk⟩
def yt{p:Nat}(b:(so="name"/\zAg y=true)\/((so="word"\/so="op")/\zAp y=true)):RdI so [(p,tl y)] (.str y) th wi 3:=⟨λ{fw d o wq mq a W rest n S x K} k i R g _ hk=>by
 obtain⟨d,rfl⟩:∃e,d=e+3:=⟨d-3,()⟩
 exact ze R (dropc<|show W.drop a=tkU (p,tl y)::rest from g).1 b hk⟩
def yu{p:Nat}(b:zAg y=true)(g:y∈th):RdI "used" [(p,tl y)] (.str y) th wi 4:=⟨λ{fw d r wq mq a W rest n S x K} o k R i _ hk=>by
 obtain⟨d,rfl⟩:∃e,d=e+4:=⟨d-4,()⟩
 refine cd ⟨4,6,t32⟩ ?_;refine pd (cn ∅) ?_;refine bF ?_;refine pd (cn ∅) ?_;refine bF ?_;refine pd (cn ∅) ?_;refine bF ?_;refine pd (cR rfl) ?_;refine bT ?_;refine pd (cm (C:="Reader") R.ob rfl) ?_;exact vG b g R (dropc<|show W.drop a=tkU (p,tl y)::rest from i).1 hk⟩
def uR{ys:B7}{o p:Nat}(i:∀y∈ys,zAg y=true)(r:ys.Nodup)(w:ys.length<=4):RdI "names" ((p,[40])::(nmk ys o++[(e,[41])])) (.tup<|ys.map .str) th wi 5:=⟨λ{fw d G wq mq a W rest n S x K} F k R b _ hk=>by
 obtain⟨d,rfl⟩:∃e,d=e+5:=⟨d-5,()⟩
 refine cd ⟨4,6,t32⟩ ?_;refine pd (cn ∅) ?_;refine bF ?_;refine pd (cn ∅) ?_;refine bF ?_;refine pd (cR rfl) ?_;refine bT ?_;refine pd (cm (C:="Reader") R.ob rfl) ?_;have b:W.drop a=tkU (p,[40])::(tU (nmk ys o++[(e,[41])])++rest):=b;rw[gO,xAx] at b;refine zh (d:=d) k R i r w b λS' R' g=>hk S' ?_ g;rw[xAo,xAb,jl];exact R'⟩
inductive zEw(th:List Str)(wi:Int)(D:Nat):List (Nat×List Nat)->List U->Prop
 |nil:zEw th wi D [] []
 |cons {tk r:List (Nat×List Nat)} {v:U} {vs:List U} (h:RdP tk v th wi D) (i:zEw th wi D r vs):zEw th wi D (tk++r) (v::vs)
def zJ2:TTx Prop:=(tAn (tB<|J1 .lt (J4 .len J6) Y4)<|tB<|J1 .ne (J8 (cM "Reader" "coming" 26 J0 aN []) Ji)<|J2 ")")
theorem qL{r:B0<|Nat×B9}(hD:D<=d+1)(hf:10<=fw)(hI:zEw th wi D r vs):∀{xs:B8}{a e m:Nat}{S:So},RdS h wq mq W n a S->q≠h->q≠wq->q≠mq->at? S q=some (.lst xs)->(xs++vs).length<=4->W.drop a=tU r++tkU (e,[41])::rest->vs.length<m ->
  (∀S',RdS h wq mq W n (a+r.length) S'->at? S' q=some (.lst<|xs++vs)->(∀{b O},b≠h->b≠q->at? S b=some O->at? S' b=some O)->S.length<=S'.length->kk [some<|.ref h,some<|.tup<|th.map .str,some<|.int wi,some<|.ref q] S') ->
  whK (λσ1 S1 k=>zJ2 (Gd fw<|d+1) σ1 S1 (λx S2=>E.x x σ1 S2) k) (λσ1 S1 nx=>zJf (Gd fw<|d+1) σ1 S1<|lpE E nx) (Gd fw<|d+1).br (Gd fw<|d+1).fail m [some<|.ref h,some<|.tup<|th.map .str,some<|.int wi,some<|.ref q] S kk:=by
 induction hI with
 |nil=>
  intro xs a e m S R M Q X o h4 F J hk;cases m with
  |zero=>exact absurd J (Nat.not_lt_zero _)
  |succ m=>
   rw[whK];have I:=hk S R (by rw[xB0];exact o) (λ_ _ z=>z)<|xAg _;erw[pd (dN o),pd (v:=.bl<|decide<|(xs.length:Int)<4) (S':=S) rfl];by_cases g:xs.length<4
   .rw[xBd ()];erw[bT];let⟨hv,_⟩:=dropc<|show W.drop a=tkU (e,[41])::rest from F;erw[pd (cm (C:="Reader") R.ob rfl),cW R hv,pd eK,pd (v:=.bl false) (S':=S) (by rw[kY];exact fC (w:=[41]) (u:=[41]))];exact bF I
   .rw[xCn ()];erw[bF,<-bF I]
 |@cons tk r v vs hp i ih=>
  intro xs a e m S R M Q X o h4 F J hk;cases m with
  |zero=>exact absurd J (Nat.not_lt_zero _)
  |succ m=>
   rw[whK];let⟨p,w,r0,e0,P⟩:=hp.hd;rw[gO,xAx] at F;have Z:W.drop a=tkU (p,w)::(tU r0++(tU r++tkU (e,[41])::rest)):=by rw[F,e0];rfl
   rw[xAb,xAo] at h4;erw[pd (dN o),pd (v:=.bl true) (S':=S) (by show Res.ok (.bl<|decide<|(xs.length:Int)<4) S=_;rw[xBd ()]),bT,pd (cm (C:="Reader") R.ob rfl),cW R (dropc Z).1,pd eK,pd (v:=.bl true) (S':=S) (by rw[kY];have:=fC (S:=S) (w:=w) (u:=[41]);rw[xCn P] at this;exact this),bT,pd (cv o),pd (cm (C:="Reader") R.ob rfl),<-hp.h hD hf R F λS1 R1 k1=>?_];have G:=k1.ky M o;erw[pd (cZ G<|by show _<=2^24;lia)];have R2:RdS h wq mq W n (a+tk.length)<|Fx.set S1 q<|.lst<|xs++[v]:=R1.kq Kq.set M Q X;have Y:W.drop (a+tk.length)=tU r++tkU (e,[41])::rest:=by
    rw[<- List.drop_drop,F,<- xAa (as:=tk) tkU];exact List.drop_left
   refine ih (xs:=xs++[v]) (e:=e) R2 M Q X (zAc G) (by simp;lia) Y (by simp at J;lia) λS' R3 T ky ln=>?_;exact hk S' (by rw[xAb,<- Nat.add_assoc];exact R3) (by rw[T,xAx];rfl) (λ{b O} hb H z=>ky hb H<|atN (Ne.symm H)<|k1.ky hb z) (xCk k1.len<|by rw[zBb] at ln;exact ln)
def uQ(H:zEw th wi D tk vs)(I:vs.length<=4)(Y:3<=D):RdI "parts" tk (.tup vs) th wi<|D+2:=⟨λ{fw d J wq mq a W rest n S x K} X w R G o hk=>by
 obtain⟨d,rfl⟩:∃e,d=e+3:=⟨d-3,()⟩
 let⟨p,r,rfl⟩:=o rfl;refine cd ⟨4,6,t32⟩ ?_;refine pd (cn ∅) ?_;refine bF ?_;refine pd (cR rfl) ?_;refine bT ?_;refine pd (cm (C:="Reader") R.ob rfl) ?_;refine cd (d:=d+1) ⟨3,4,t34⟩ ?_;refine pd (v:=.ref S.length) (S':=S++[.lst []]) rfl ?_;have i:at? (S++[Ob.lst []]) S.length=some (.lst []):=zA3;have R2:RdS J wq mq W n a<|S++[Ob.lst []]:=R.kp Kp.app;have Q:=zBt R.ob;have P:=zBt R.wd;have O:=zBt R.ms;have k2:Kp S<|S++[Ob.lst []]:=Kp.app;generalize S++[Ob.lst []]=T at i R2 k2⊢;show whK _ _ _ _ (Gd fw<|d+1).fuel _ _ _;rw[fuel];refine qL (d:=d) (q:=S.length) (e:=p) (xs:=[]) () w H R2 () () () i (by simpa using I) G () λS' R3 g k ln=>?_;refine pd (v:=.tup vs) (S':=S') (by show zA1 (.ref S.length) S'=_;unfold zA1;dsimp only[lsU];rw[g];rfl) ?_;exact hk S' R3 ⟨xCk k2.len ln,λ{b M} F z=>k F (by have:=zBt z;lia)<|k2.ky z⟩⟩
end
section
variable{fw d q h wq mq a:Nat}{S S1 S2 S':So}{x xc:C7}{K:C6}{v:U}{n wi:Int}{W rest:B8}{th:B7}
def jb{w u:B9}:pr ups .eq [stU w,stU u] S=.ok (.bl<|decide<|w=u) S:=by
 show Res.ok (.bl<|decide<|mkS w=mkS u) S=_;congr 2;exact decide_eq_decide.mpr ⟨λh=>congrArg tl h,λh=>by rw[h]⟩
def sy(h:n.natAbs<10^12):dg n≠[]/\∀c∈dg n,c=45\/(48<=c/\c<=57):=by
 let⟨⟨y,fy,e⟩,_,_⟩:=Row.num_int h;have b:tl y≠[]:=λz=>by
  have:=fy.pos;rw[<- zAf,z] at this;exact xBo _ this
 rcases e with e|⟨e,_⟩
 .have e:dg n=tl y:=congrArg tl e;rw[e];exact⟨b,λc hc=>.inr<|fy.dig c hc⟩
 .have e:dg n=45::tl y:=(congrArg tl e).trans<|Row.tl_app _ _;rw[e];refine⟨nofun,λc hc=>?_⟩;rcases xAv.mp hc with rfl|hc
  .exact .inl rfl
  .exact .inr<|fy.dig c hc
def yL(h:n.natAbs<10^12):cln<|dg n:=⟨(sy h).1,λc b=>by rcases(sy h).2 c b with z|z <;> lia⟩
def gx(h:zAp y=true):tl y≠[]/\y.length<=8/\∀c∈tl y,97<=c/\c<=122:=by
 unfold zAp at h;rw[xCh,xCh] at h;let⟨⟨g,k⟩,h3⟩:=h;have g:=xCo g;refine⟨λz=>by rw[<- zAf,z] at g;exact absurd g ∅,xCo k,λc i=>?_⟩;have:=xCx.mp h3 (.str ⟨#[c]⟩)<|xA2.mpr ⟨c,i,rfl⟩;have e:inL (.str ⟨#[c]⟩)=decide (c∈tl ltrs):=by
  show(match some (!(Builtin.Str.occurrences ltrs ⟨#[c]⟩ 0 ltrs.length 1).isEmpty) with|some b=>b|none=>false)=_;exact StrLaws.found_one ltrs c
 rw[e] at this;exact(show ∀z∈tl ltrs,97<=z/\z<=122 by decide +kernel) c<|xBe this
def fH(h:zAp y=true):cln<|tl y:=⟨(gx h).1,λc b=>by have:=(gx h).2.2 c b;lia⟩
def dC(h:zAg y=true):zAp y=true:=by
 unfold zAg at h;rw[xCh] at h;exact h.1
def jm{w:B9}{b:Nat}(h:∀c∈w,c≠b):w≠[b]:=λz=>h b (by rw[z];exact xAm.mpr rfl) rfl
def wR{o:Nat}(h:n.natAbs<10^12):RdP [(o,dg n)] (.tup [.str "number",.int o,.int n]) th wi 4:=by
 have g:=sy h;refine⟨⟨o,dg n,[],rfl,jm λc z=>by rcases g.2 c z with z|z <;> lia⟩,λ{fw d G wq mq a W rest p S x K} F r R k hk=>?_⟩;obtain⟨d,rfl⟩:∃e,d=e+4:=⟨d-4,()⟩
 let⟨b,hr⟩:=dropc<|show W.drop a=tkU (o,dg n)::rest from k;erw[cd ⟨3,5,t30⟩,pd (cm (C:="Reader") R.ob rfl),cW (d:=d+2) R b,pv (tkU (o,dg n)),pd (v:=.bl false) (S':=S) (by rw[nX];have:=jb (S:=S) (w:=dg n) (u:=[40]);rw[xCn<|jm λc z=>by rcases g.2 c z with z|z <;> lia] at this;exact this),bF,bF,xQ (d:=d+2) h,bT,pd (cm (C:="Reader") R.ob rfl),<-dJ (d:=d+1) R b λS1 R1 i=>?_,pd (tY h),<-hk S1 R1 i]
def wS{o:Nat}(i:zAg y=true)(p:y∈th):RdP [(o,tl y)] (.tup [.str "name",.int o,.str y]) th wi 4:=by
 let⟨G,F,b⟩:=gx<|dC i;refine⟨⟨o,tl y,[],rfl,jm λc z=>by have:=b c z;lia⟩,λ{fw d M wq mq a W rest H S x K} J I R r hk=>?_⟩;obtain⟨d,rfl⟩:∃e,d=e+4:=⟨d-4,()⟩
 let⟨g,hr⟩:=dropc<|show W.drop a=tkU (o,tl y)::rest from r;erw[cd ⟨3,5,t30⟩,pd (cm (C:="Reader") R.ob rfl),cW (d:=d+2) R g,pv (tkU (o,tl y)),pd (v:=.bl false) (S':=S) (by rw[nX];have:=jb (S:=S) (w:=tl y) (u:=[40]);rw[xCn (jm λc z=>by have:=b c z;lia)] at this;exact this),bF,bF,zW (d:=d+2) G (by rw[zAf];exact F) b,bF,pd (cm (C:="Reader") R.ob rfl),<-vG (d:=d) i p R g λS1 R1 k=>?_,<-hk S1 R1 k]
inductive Rts(th:List Str)(wi:Int)(D:Nat):List U->List (Str×List (Nat×List Nat)×U)->Prop
 |nil {vs:List U}:Rts th wi D vs []
 |cons {vs:List U} {so:Str} {tk:List (Nat×List Nat)} {v:U} {nn:List Str} {r:List (Str×List (Nat×List Nat)×U)} (t:TA vs nn) (c:RdI so tk v (th++nn) wi D) (hn:nn.length<=10) (hl:so="parts"->r=[]) (i:Rts th wi D (vs++[v]) r):Rts th wi D vs ((so,tk,v)::r)
noncomputable def tks(r:B0<|Str×B0 (Nat×B9)×U):B0<|Nat×B9:=r.flatMap (·.2.1)
variable{D:Nat}
theorem wP{kq:Nat}(hD:D<=d+1)(hf:10<=fw)(hth:th.length<=1000):∀{vs:B8}{r:B0<|Str×B0 (Nat×B9)×U},Rts th wi D vs r->∀{S:So}{a:Nat}{a8 g:B1 U},RdS h wq mq W n a S->kq≠h->kq≠wq->kq≠mq->at? S kq=some (.lst vs)->vs.length+r.length<=100->W.drop a=tU (tks r)++tkU (e,[41])::rest ->
  (∀S' a8 g,RdS h wq mq W n (a+(tks r).length) S'->S.length<=S'.length->(∀{b M},b≠h->b≠kq->at? S b=some M->at? S' b=some M)->at? S' kq=some (.lst (vs++r.map (·.2.2)))->kk [some<|.ref h,some<|.tup<|th.map .str,some<|.int wi,a3,a4,a5,a6,some<|.ref kq,a8,g] S') ->
  zB2 (r.map λp=>U.str p.1) (λw σ1 S2 nx=>tgt [8] true (Gd fw<|d+1) w σ1 λσ2=>zHt (Gd fw<|d+1) σ2 S2<|lpE E nx) [some<|.ref h,some<|.tup<|th.map .str,some<|.int wi,a3,a4,a5,a6,some<|.ref kq,a8,g] S kk:=by
 intro vs r hI;induction hI with
 |nil=>
  intro S a a8 g R I P O hk H J k;erw[k S a8 g R (xAg _) (λ_ _ z=>z)];rw[List.map_nil,xB0];exact hk
 |@cons vs so tk v X r t c hnn hl i Z=>
  intro S a a8 g R I P O hk H J k;simp only[xAo] at H;have T:tks ((so,tk,v)::r)=tk++tks r:=rfl;rw[T,gO,xAx] at J;rw[xBs,zB2];erw[pd (dN hk),t.h hk,<-pd (v:=.tup<|(th++X).map .str) (S':=S) ?_ ?_]
  .show fits _ _=_;rw[zBd (by show _<=2^24;rw[xAa,xAa];lia),xAi]
  erw[pd (cv hk),pd (cm (C:="Reader") R.ob rfl),<-c.h hD hf R J (λz=>⟨e,rest,by rw[hl z];rfl⟩) λS1 R1 k1=>?_];have o:=k1.ky I hk;erw[pd (cZ o<|by show _<=2^24;lia)];have Q:W.drop (a+tk.length)=tU (tks r)++tkU (e,[41])::rest:=by
   rw[<- List.drop_drop,J,<- xAa (as:=tk) tkU];exact List.drop_left
  erw[<-Z (R1.kq Kq.set I P O) I P O (zAc o) (by simp;lia) Q λS' a8 g R' ln Y F=>?_,k S' a8 g (by rw[T,xAb,<- Nat.add_assoc];exact R') (xCk k1.len<|by rw[zBb] at ln;exact ln) (λ{b M} H G z=>Y H G<|atN (Ne.symm G)<|k1.ky H z)];rw[xAx] at F;exact F
def xF:∀w∈ops,w∈zBh:=by decide +kernel
def mE{k:Str}{o:Nat}{pre:B0<|Nat×B9}{r:B0<|Str×B0 (Nat×B9)×U}(hw:wi<20)(hf:zAt k cq=some (.kt<|r.map λp=>.str p.1))(hil:r.length<=10)(M:th.length<=1000)(hD:4<=D)(hI:Rts th (wi+1) D [.str k,.int o] r)(F:(k="math"/\pre=[]/\∃p i q,tks r=(p,tl i)::q/\i∈ops)\/(k≠"math"/\(∃p,pre=[(p,tl k)])/\k∈zBh/\k∉ops)):RdP ((o,[40])::(pre++(tks r++[(e,[41])]))) (.tup (.str k::.int o::r.map (·.2.2))) th wi<|D+2:=by
 refine⟨⟨o,[40],_,rfl,∅⟩,λ{fw d h wq mq a W rest n S x K} i Q R Y hk=>?_⟩;obtain⟨d,rfl⟩:∃e,d=e+6:=⟨d-6,()⟩
 have Y:W.drop a=tkU (o,[40])::(tU (pre++(tks r++[(e,[41])]))++rest):=Y;let⟨hv,hr⟩:=dropc Y;rw[gO,gO,xAx,xAx] at hr;have hr:W.drop (a+1)=tU pre++(tU (tks r)++tkU (e,[41])::rest):=hr;erw[cd ⟨3,5,t30⟩,pd (cm (C:="Reader") R.ob rfl),cW (d:=d+4) R hv,pv (tkU (o,[40])),pd (v:=.bl true) (S':=S) (by rw[nX];have:=jb (S:=S) (w:=[40]) (u:=[40]);rw[xBd rfl] at this;exact this),bT,pd (v:=.bl true) (S':=S) (by show Res.ok (.bl<|decide<|wi<20) S=_;rw[xBd hw]),bT,pd (cm (C:="Reader") R.ob rfl),pv (.int<|wi+1),cd (d:=d+4) ⟨3,10,t31⟩,pd (cm (C:="Reader") R.ob rfl),<-dJ (d:=d+2) R hv λS1 R1 k1=>?_,pd cy]
 -- what comes behind the head
 have H:∀{S2:So}{b:Nat}{a4 a5:B1 U},RdS h wq mq W n b S2->Kq h S S2->W.drop b=tU (tks r)++tkU (e,[41])::rest->b+(tks r).length+1=a+((o,[40])::(pre++(tks r++[(e,[41])]))).length->(sQ (sA 7<|J1 (.lst true) Jm J6)<|sQ (sF (J4 .seq<|Jb 3 Jm) [8] true zHt)<|sQ (sE<|cM "Reader" "take_bracket" 28 J0 (Jg<|J2 ")") [])<|J5<|J4 .tupOf Jp) (Gd fw<|d+4) [some<|.ref h,some<|.tup<|th.map .str,some<|.int<|wi+1,some<|.int o,a4,a5,some<|.str k,none,none,none] S2 (zAk x K):=λ{S2 b a4 a5} R2 I G hb=>by
  erw[pd (v:=.ref S2.length) (S':=S2++[.lst [.str k,.int o]]) rfl];have hq:at? (S2++[Ob.lst [.str k,.int o]]) S2.length=some (.lst [.str k,.int o]):=zA3;have R3:RdS h wq mq W n b<|S2++[Ob.lst [.str k,.int o]]:=R2.kp Kp.app;have l1:=zBt R2.ob;have l2:=zBt R2.wd;have l3:=zBt R2.ms;have k3:Kp S2<|S2++[Ob.lst [.str k,.int o]]:=Kp.app;generalize S2++[Ob.lst [.str k,.int o]]=T at hq R3 k3⊢;erw[cd (d:=d+3) ⟨1,1,t3⟩,pv (.bl true),bT,pd (v:=.kt<|r.map λp=>.str p.1) (S':=T) (by delta pr;dsimp only[dF];rw[hf]),pv (.tup<|r.map λp=>.str p.1),<-wP (d:=d+3) (kq:=S2.length) (e:=e) () Q M hI R3 () () () hq (by show 2+r.length<=100;lia) G λS' a8 a9 R4 ln ky P=>?_,pd (cm (C:="Reader") R4.ob rfl)];have X:W.drop (b+(tks r).length)=tkU (e,[41])::rest:=by
   rw[<- List.drop_drop,G,<- xAa (as:=tks r) tkU];exact List.drop_left
  refine jN (d:=d+1) (b:=")") (p:=e) R4 (by rw[kY];exact(dropc X).1) λS5 R5 J=>?_;have O:=J.ky () P;erw[pd (v:=.tup (.str k::.int o::r.map (·.2.2))) (S':=S5) (by show zA1 (.ref S2.length) S5=_;unfold zA1;dsimp only[lsU];rw[O];rfl),<-hk S5 (by rw[<- hb];exact R5) ⟨xCk I.len<|xCk k3.len<|xCk ln J.len,λ{c ob} F z=>?_⟩];have Z:=I.ky F z;exact J.ky F<|ky F (by have:=zBt Z;lia)<|k3.ky Z
 rcases F with ⟨rfl,rfl,p,i,qq,e1,ho⟩|⟨n1,⟨p,rfl⟩,hh,no⟩
 .have g:W.drop (a+1)=tkU (p,tl i)::(tU qq++tkU (e,[41])::rest):=by rw[hr,e1];rfl
  erw[pd (cm (C:="Reader") R1.ob rfl),cW (d:=d+3) R1 (dropc g).1,pv (tkU (p,tl i)),pd (v:=.bl false) (S':=S1) (by show Res.ok (.bl (!zBc (.str i) (zBh.map .str))) S1=_;rw[eG<|xF _ ho];rfl),bF,pd (v:=.bl true) (S':=S1) (by show Res.ok (.bl<|zBc (.str i)<|ops.map .str) S1=_;rw[eG ho]),bT,pd (v:=.bl false) (S':=S1) rfl,bF];exact H R1 k1 hr (by simp;lia)
 .have g:W.drop (a+1)=tkU (p,tl k)::(tU (tks r)++tkU (e,[41])::rest):=hr;erw[pd (cm (C:="Reader") R1.ob rfl),cW (d:=d+3) R1 (dropc g).1,pv (tkU (p,tl k)),pd (v:=.bl false) (S':=S1) (by show Res.ok (.bl (!zBc (.str k) (zBh.map .str))) S1=_;rw[eG hh];rfl),bF,pd (v:=.bl false) (S':=S1) (by show Res.ok (.bl<|zBc (.str k)<|ops.map .str) S1=_;rw[jD no]),bF,pd (v:=.bl true) (S':=S1) (by show Res.ok (.bl (!decide (k="math"))) S1=_;rw[xCn n1];rfl),bT,pd (cm (C:="Reader") R1.ob rfl),<-dJ (d:=d+2) R1 (dropc g).1 λS2 R2 I=>?_];exact H R2 (k1.trans I) (dropc g).2 (by simp;lia)
end
mutual
noncomputable def Pg.t:Pg->Tm
 |.num pl n=>.num pl n
 |.nam pl x=>.nam pl x
 |.fn pl g b=>.nd "fn" pl<|.n g<|.e b.t .nil
 |.call pl f as=>.nd "call" pl<|.e f.t<|.s (Pg.ts as) .nil
 |.lt pl x a b=>.nd "let" pl<|.w "name" x<|.e a.t<|.e b.t .nil
 |.st pl x a=>.nd "set" pl<|.w "used" x<|.e a.t .nil
 |.dd pl a b=>.nd "do" pl<|.e a.t<|.e b.t .nil
 |.iff pl a b c=>.nd "if" pl<|.e a.t<|.e b.t<|.e c.t .nil
 |.math pl o a b=>.nd "math" pl<|.w "op" o<|.e a.t<|.e b.t .nil
 |.make pl t as=>.nd "make" pl<|.w "word" t<|.s (Pg.ts as) .nil
 |.mat pl a t g b c=>.nd "match" pl<|.e a.t<|.w "word" t<|.n g<|.e b.t<|.e c.t .nil
 |.rai pl w a=>.nd "raise" pl<|.w "word" w<|.e a.t .nil
 |.try_ pl a w x b=>.nd "try" pl<|.e a.t<|.w "word" w<|.w "name" x<|.e b.t .nil
 |.tell pl a=>.nd "tell" pl<|.e a.t .nil
 |.ask pl=>.nd "ask" pl .nil
noncomputable def Pg.ts:B0 Pg->Tms
 |[]=>.nil
 |a::r=>.cons a.t<|Pg.ts r
end
structure Gt(d:Nat)(P:Pg):Prop where
 u:P.t.u=P.u
 cl:P.t.cl
 fm:P.t.fm
 dp:P.t.dp<=d
 lg:P.t.tx.length+1<=100*P.pls.length
structure Gts(d:Nat)(as:B0 Pg):Prop where
 u:(Pg.ts as).us=Pg.us as
 cl:(Pg.ts as).cl
 fm:(Pg.ts as).fm
 dp:(Pg.ts as).dp<=d
 lg:ln (Pg.ts as).txs<=100*(Pg.plss as).length
 sz:(Pg.ts as).sz=as.length
theorem gts{d:Nat}:∀{as:B0 Pg},(∀a∈as,Gt d a)->Gts d as
 |[],_=>⟨rfl,trivial,trivial,xBn _,xBn _,rfl⟩
 |a::r,h=>by
  have g:=h a<|xAr ..;have i:=gts λb k=>h b<|xAs _ k;refine⟨?_,⟨g.cl,i.cl⟩,⟨g.fm,i.fm⟩,Nat.max_le.mpr ⟨g.dp,i.dp⟩,?_,congrArg (·+1) i.sz⟩
  .show a.t.u::(Pg.ts r).us=a.u::Pg.us r;rw[g.u,i.u]
  .show a.t.tx.length+1+ln (Pg.ts r).txs<=100*(a.pls++Pg.plss r).length;have:=g.lg;have:=i.lg;rw[xAb];lia
theorem qW:∀{xs:B7},(∀y∈xs,zAg y=true)->ln (xs.map tl)<=9*xs.length
 |[],_=>xAg _
 |y::xs,h=>by
  have:=qW λz a=>h z<|xAs _ a;have:=em<|h y<|xAr ..;show(tl y).length+1+ln (xs.map tl)<=9*(xs.length+1);rw[zAf];lia
theorem vZ{ws:B0<|B9}:(jn ws).length<=ln ws:=by
 cases ws with
 |nil=>exact xBn _
 |cons a r=>show(a++fl r).length<=a.length+1+ln r;rw[xAb,fG];lia
def vN:∀w∈ops,zAp w=true:=by decide +kernel
structure Gi(d:Nat)(its:Ims)(us:B8)(b:Nat):Prop where
 u:its.us=us
 cl:its.cl
 fm:its.fm
 dp:its.dp<=d
 lg:ln its.ws<=b
variable{d b:Nat}{r:Ims}{us:B8}{P:Pg}{as:B0 Pg}{xs:B7}{so x k:Str}
def giZ:Gi d .nil [] 0:=⟨rfl,trivial,trivial,xBn _,xBn _⟩
def giE(g:Gt d P)(i:Gi d r us b):Gi d (.e P.t r) (P.u::us)<|100*P.pls.length+b:=⟨by show P.t.u::r.us=_;rw[g.u,i.u],⟨g.cl,i.cl⟩,⟨g.fm,i.fm⟩,Nat.max_le.mpr ⟨g.dp,i.dp⟩,Nat.add_le_add g.lg i.lg⟩
def giS(g:Gts d as)(a:as.length<=4)(i:Gi d r us b):Gi d (.s (Pg.ts as) r) (.tup (Pg.us as)::us)<|100*(Pg.plss as).length+b:=⟨by show U.tup (Pg.ts as).us::r.us=_;rw[g.u,i.u],⟨g.cl,i.cl⟩,⟨⟨g.fm,by rw[g.sz];exact a⟩,i.fm⟩,Nat.max_le.mpr ⟨g.dp,i.dp⟩,by show ln ((Pg.ts as).txs++r.ws)<=_;rw[cU];exact Nat.add_le_add g.lg i.lg⟩
def giN(h:Nmz (zAg ·=true) xs)(i:Gi d r us b):Gi d (.n xs r) (.tup (xs.map .str)::us)<|41+b:=⟨congrArg (_::·) i.u,⟨λy a=>fH<|dC<|h.ok y a,i.cl⟩,⟨h.few,i.fm⟩,i.dp,by
 have:=vZ (ws:=xs.map tl);have:=qW h.ok;have:=h.few;refine Nat.add_le_add ?_ i.lg;show(br<|jn<|xs.map tl).length+1<=41;rw[dH];lia⟩
def giW(h:zAp x=true)(i:Gi d r us b)(n:so≠"part"/\so≠"parts"/\so≠"names":=by decide):Gi d (.w so x r) (.str x::us)<|9+b:=⟨congrArg (_::·) i.u,⟨fH h,i.cl⟩,⟨n,i.fm⟩,i.dp,Nat.add_le_add (by show(tl x).length+1<=9;rw[zAf];have:=(gx h).2.1;lia) i.lg⟩
def giK{pl:Int}(i:Gi d r us b)(e:P.t=.nd k pl r)(C:P.u=.tup (.str k::.int pl::us))(F:b+10<=100*P.pls.length)(o:Ls k r)(p:m1 k r)(a:r.sz<=5:=by exact xCo rfl)(q:zAt k cq=some (.kt<|r.ss.map .str):=by rfl)(g:zAp k=true:=by decide +kernel)(n:k≠"number"/\k≠"name"/\k.length<=6:=by decide):Gt (d+1) P:=by
 refine⟨?_,?_,?_,?_,?_⟩
 .rw[e,C,<- i.u];rfl
 .rw[e];exact⟨fH g,p,i.cl⟩
 .rw[e];exact⟨⟨n.1,n.2.1,q,a,xCk n.2.2 ∅,o⟩,i.fm⟩
 .rw[e];exact Nat.succ_le_succ i.dp
 .rw[e];show(br<|jn<|kw k++r.ws).length+1<=_;rw[dH];have w:=vZ (ws:=kw k++r.ws);rw[cU] at w;have G:ln (kw k)<=7:=by
   unfold kw;split
   .exact xBn _
   .show(tl k).length+1+0<=7;rw[zAf];have:=n.2.2;lia
  have:=i.lg;lia
theorem yY{sc:B7}{d:Nat}{P:Pg}(h:Wf (zAg ·=true) sc d P):(∀y∈sc,zAg y=true)->Gt d P:=by
 have no:∀{k:Str}{i:Ims},k≠"math"->m1 k i:=λh z=>absurd z h;have g:∀{a b:B'},(a++b).length=a.length+b.length:=xAb;induction h with
 |@num sc d pl n a b=>
  intro hs;have I:n.natAbs<10^12:=by lia
  refine⟨rfl,yL I,I,xBn _,?_⟩;let⟨_,_,R⟩:=Row.num_int I;show(tl<|Row.tx n).length+1<=100*1;rw[zAf];lia
 |@nam sc d pl x h=>
  intro hs;refine⟨rfl,fH<|dC<|hs x h,trivial,xBn _,?_⟩;have:=em<|hs x h;show(tl x).length+1<=100*1;rw[zAf];lia
 |@fn sc xs d pl b h C M=>
  intro hs;exact giK (k:="fn") (giN h<|giE (M<|cO hs h.ok) giZ) rfl rfl (by show _<=100*(b.pls.length+1);(try simp only[g]);lia) (λhk=>zEq (by kernel_rfl) (by kernel_rfl) hk) (no ∅)
 |@call sc d pl f as T h J i1 i2=>
  intro hs;exact giK (k:="call") (giE (i1 hs)<|giS (gts λa p=>i2 a p hs) J giZ) rfl rfl (by show _<=100*((f.pls++Pg.plss as).length+1);(try simp only[g]);lia) (λhk=>zEq (by kernel_rfl) (by kernel_rfl) hk) (no ∅)
 |@lt sc d pl x a b q p C i1 i2=>
  intro hs;exact giK (k:="let") (giW (dC q)<|giE (i1 hs)<|giE (i2<|cO hs<|dE q) giZ) rfl rfl (by show _<=100*((a.pls++b.pls).length+1);(try simp only[g]);lia) (λhk=>zEa (by kernel_rfl) (by kernel_rfl) hk) (no ∅)
 |@st sc d pl x a q p i1=>
  intro hs;exact giK (k:="set") (giW (dC<|hs x q)<|giE (i1 hs) giZ) rfl rfl (by show _<=100*(a.pls.length+1);(try simp only[g]);lia) (λhk=>zEa (by kernel_rfl) (by kernel_rfl) hk) (no ∅)
 |@dd sc d pl a b p C i1 i2=>
  intro hs;exact giK (k:="do") (giE (i1 hs)<|giE (i2 hs) giZ) rfl rfl (by show _<=100*((a.pls++b.pls).length+1);(try simp only[g]);lia) (λhk=>zEq (by kernel_rfl) (by kernel_rfl) hk) (no ∅)
 |@iff sc d pl a b c p C Q i1 i2 F=>
  intro hs;exact giK (k:="if") (giE (i1 hs)<|giE (i2 hs)<|giE (F hs) giZ) rfl rfl (by show _<=100*((a.pls++(b.pls++c.pls)).length+1);(try simp only[g]);lia) (λhk=>zEq (by kernel_rfl) (by kernel_rfl) hk) (no ∅)
 |@math sc d pl o a b O p C i1 i2=>
  intro hs;exact giK (k:="math") (giW (vN o O)<|giE (i1 hs)<|giE (i2 hs) giZ) rfl rfl (by show _<=100*((a.pls++b.pls).length+1);(try simp only[g]);lia) (λhk=>zEa (by kernel_rfl) (by kernel_rfl) hk) (λ_=>⟨_,_,_,rfl⟩)
 |@make sc d pl t as H h J i2=>
  intro hs;exact giK (k:="make") (giW (dt t H)<|giS (gts λa p=>i2 a p hs) J giZ) rfl rfl (by show _<=100*((Pg.plss as).length+1);(try simp only[g]);lia) (λhk=>zEa (by kernel_rfl) (by kernel_rfl) hk) (no ∅)
 |@mat sc xs d pl t a b c H q p C Q i1 i2 F=>
  intro hs;exact giK (k:="match") (giE (i1 hs)<|giW (dt t H)<|giN q<|giE (i2<|cO hs q.ok)<|giE (F hs) giZ) rfl rfl (by show _<=100*((a.pls++(b.pls++c.pls)).length+1);(try simp only[g]);lia) (λhk=>zEa (by kernel_rfl) (by kernel_rfl) hk) (no ∅)
 |@rai sc d pl w a G p i1=>
  intro hs;exact giK (k:="raise") (giW (dt w G)<|giE (i1 hs) giZ) rfl rfl (by show _<=100*(a.pls.length+1);(try simp only[g]);lia) (λhk=>zEa (by kernel_rfl) (by kernel_rfl) hk) (no ∅)
 |@try_ sc d pl w x a b G q p C i1 i2=>
  intro hs;exact giK (k:="try") (giE (i1 hs)<|giW (dt w G)<|giW (dC q)<|giE (i2<|cO hs<|dE q) giZ) rfl rfl (by show _<=100*((a.pls++b.pls).length+1);(try simp only[g]);lia) (λhk=>zEa (by kernel_rfl) (by kernel_rfl) hk) (no ∅)
 |@tell sc d pl a p i1=>
  intro hs;exact giK (k:="tell") (giE (i1 hs) giZ) rfl rfl (by show _<=100*(a.pls.length+1);(try simp only[g]);lia) (λhk=>zEq (by kernel_rfl) (by kernel_rfl) hk) (no ∅)
 |@ask sc d pl=>
  intro hs;exact giK (k:="ask") (giZ) rfl rfl (by show _<=100*(0+1);(try simp only[g]);lia) (λhk=>zEq (by kernel_rfl) (by kernel_rfl) hk) (no ∅)
noncomputable def Ims.itm:Ims->Nat->B0 (Str×B0 (Nat×B9)×U)
 |.nil,_=>[]
 |.e t r,o=>("part",t.tk o,(t.mv o).u)::r.itm (o+t.tx.length+1)
 |.s ts r,o=>("parts",ts.tk o,.tup (ts.mv o).us)::r.itm (o+ln ts.txs)
 |.n xs r,o=>("names",(o,[40])::(nmk xs (o+1)++[(o+1+(jn<|xs.map tl).length,[41])]),.tup<|xs.map .str)::r.itm (o+(br<|jn<|xs.map tl).length+1)
 |.w so x r,o=>(so,[(o,tl x)],.str x)::r.itm (o+x.length+1)
theorem f8:∀{i:Ims}{o:Nat},tks (i.itm o)=i.tk o
 |.nil,_=>rfl
 |.e t r,o=>congrArg (t.tk o++·) f8
 |.s ts r,o=>congrArg (ts.tk o++·) f8
 |.n xs r,o=>congrArg (_++·) f8
 |.w so x r,o=>congrArg ((o,tl x)::·) f8
theorem f7:∀{i:Ims}{o:Nat},(i.itm o).map (·.2.2)=(i.mv o).us
 |.nil,_=>rfl
 |.e t r,o=>congrArg (_::·) f7
 |.s ts r,o=>congrArg (_::·) f7
 |.n xs r,o=>congrArg (_::·) f7
 |.w so x r,o=>congrArg (_::·) f7
theorem f9:∀{i:Ims}{o:Nat},((i.itm o).map λp=>U.str p.1)=i.ss.map .str
 |.nil,_=>rfl
 |.e t r,o=>congrArg (_::·) f9
 |.s ts r,o=>congrArg (_::·) f9
 |.n xs r,o=>congrArg (_::·) f9
 |.w so x r,o=>congrArg (_::·) f9
theorem fo:∀{i:Ims}{o:Nat},(i.itm o).length=i.sz
 |.nil,_=>rfl
 |.e t r,o=>congrArg (·+1) fo
 |.s ts r,o=>congrArg (·+1) fo
 |.n xs r,o=>congrArg (·+1) fo
 |.w so x r,o=>congrArg (·+1) fo
section
variable{th sc nn:B7}{vs:B8}{wi:Int}{d o D:Nat}{r:Ims}{v:U}{tk:B0<|Nat×B9}
def RdI.mono{D':Nat}(h:RdI so tk v th wi D)(g:D<=D'):RdI so tk v th wi D':=⟨λa=>h.h<|xCk g a⟩
def rE{t:Tm}(a:TA vs nn)(c:RdP (t.tk o) (t.mv o).u (th++nn) wi<|4*d+4)(i:Rts th wi (4*d+6) (vs++[(t.mv o).u])<|r.itm<|o+t.tx.length+1)(g:nn.length<=10:=by simp):Rts th wi (4*d+6) vs<|(Ims.e t r).itm o:=.cons a ((yv c).mono ()) g (λz=>absurd z ∅) i
def rE0{t:Tm}(a:TA vs [])(c:RdP (t.tk o) (t.mv o).u th wi<|4*d+4)(i:Rts th wi (4*d+6) (vs++[(t.mv o).u])<|r.itm<|o+t.tx.length+1):Rts th wi (4*d+6) vs<|(Ims.e t r).itm o:=rE a (by rw[xB0];exact c) i
def rW{x:Str}(g:TA vs nn)(a:(so="name"/\zAg x=true)\/((so="word"\/so="op")/\zAp x=true))(i:Rts th wi (4*d+6) (vs++[.str x])<|r.itm<|o+x.length+1)(n:nn.length<=10:=by simp):Rts th wi (4*d+6) vs<|(Ims.w so x r).itm o:=.cons g ((yt a).mono ()) n (λz=>by rcases a with ⟨e,_⟩|⟨e|e,_⟩ <;> rw[e] at z <;> exact absurd z ∅) i
def rU{x:Str}(a:TA vs [])(n:zAg x=true)(g:x∈th)(i:Rts th wi (4*d+6) (vs++[.str x])<|r.itm<|o+x.length+1):Rts th wi (4*d+6) vs<|(Ims.w "used" x r).itm o:=.cons a ((yu n<|by rw[xB0];exact g).mono ()) ⋯ (λz=>absurd z ∅) i
def rN{xs:B7}(a:TA vs nn)(h:Nmz (zAg ·=true) xs)(i:Rts th wi (4*d+6) (vs++[.tup<|xs.map .str])<|r.itm<|o+(br<|jn<|xs.map tl).length+1)(g:nn.length<=10:=by simp):Rts th wi (4*d+6) vs<|(Ims.n xs r).itm o:=.cons a ((uR h.ok h.nd h.few).mono ()) g (λz=>absurd z ∅) i
theorem rps{D:Nat}:∀{as:B0 Pg}{o:Nat},(∀a∈as,∀o,RdP (a.t.tk o) (a.t.mv o).u th wi D)->zEw th wi D ((Pg.ts as).tk o) ((Pg.ts as).mv o).us
 |[],_,_=>.nil
 |a::as,o,h=>.cons (h a (xAr ..) o)<|rps λb g=>h b<|xAs _ g
theorem vx:∀{as:B0 Pg}{o:Nat},((Pg.ts as).mv o).us.length=as.length
 |[],_=>rfl
 |_::r,_=>congrArg (·+1)<|vx (as:=r)
def rS(g:TA vs [])(h:∀a∈as,∀o,RdP (a.t.tk o) (a.t.mv o).u th wi<|4*d+4)(n:as.length<=4):Rts th wi (4*d+6) vs<|(Ims.s (Pg.ts as) .nil).itm o:=.cons g ((uQ (D:=4*d+4) (rps λa i o=>by rw[xB0];exact h a i o) (by rw[vx];exact n) ()).mono ()) ⋯ (λ_=>rfl) .nil
def rK{k:Str}{pl:Int}(a:th.length<=1000)(C:wi+1<=20)(w:Rts th (wi+1) (4*d+6) [.str k,.int o]<|its.itm<|hr k o)(q:zAt k cq=some (.kt<|its.ss.map .str):=by rfl)(i:its.sz<=10:=by exact xCo rfl)(g:k≠"math":=by decide)(p:k∈zBh:=by decide)(n:k∉ops:=by decide):RdP ((Tm.nd k pl its).tk o) ((Tm.nd k pl its).mv o).u th wi<|4*(d+1)+4:=by
 have:=mE (k:=k) (o:=o) (e:=o+1+(jn<|kw k++its.ws).length) (pre:=hk k o) (r:=its.itm<|hr k o) (th:=th) (wi:=wi) (D:=4*d+6) () (by rw[f9];exact q) (by rw[fo];exact i) a () w<|.inr ⟨g,⟨o+1,xCf g⟩,p,n⟩;rw[f8,f7] at this;exact this
def rM{pl:Int}{x:Str}(a:th.length<=1000)(q:wi+1<=20)(i:x∈ops)(p:Rts th (wi+1) (4*d+6) [.str "math",.int o]<|(Ims.w "op" x its).itm<|hr "math" o)(n:zAt "math" cq=some (.kt<|(Ims.w "op" x its).ss.map .str):=by rfl)(g:(Ims.w "op" x its).sz<=10:=by exact xCo rfl):RdP ((Tm.nd "math" pl<|.w "op" x its).tk o) ((Tm.nd "math" pl<|.w "op" x its).mv o).u th wi<|4*(d+1)+4:=by
 have:=mE (k:="math") (o:=o) (e:=o+1+(jn<|kw "math"++(Ims.w "op" x its).ws).length) (pre:=hk "math" o) (r:=(Ims.w "op" x its).itm<|hr "math" o) (th:=th) (wi:=wi) (D:=4*d+6) () (by rw[f9];exact n) (by rw[fo];exact g) a () p<|.inl ⟨rfl,xCg rfl,_,x,_,rfl,i⟩;rw[f8,f7] at this;exact this
theorem wT{P:Pg}(h:Wf (zAg ·=true) sc d P):(∀y∈sc,zAg y=true)->sc.length+5*d<=1000->∀{wi:Int}(o:Nat),wi+d<=20->RdP (P.t.tk o) (P.t.mv o).u sc wi (4*d+4):=by
 induction h with
 |@num sc d pl n a b=>
  intro g p wi o i;exact(wR ()).mono ()
 |@nam sc d pl x h=>
  intro g p wi o i;exact(wS (g x h) h).mono ()
 |@fn sc xs d pl b h G Q=>
  intro g p wi o i;have M:=h.few;exact rK () () (rN vE h<|rE pG (Q (cO g h.ok) (by rw[xAb];lia) _ ()) .nil ())
 |@call sc d pl f as T h J i1 i2=>
  intro g p wi o i;exact rK () () (rE0 tn (i1 g () _ ())<|rS tn (λa C o=>i2 a C g () o ()) J)
 |@lt sc d pl x a b q C G i1 i2=>
  intro g p wi o i;exact rK () () (rW pF (.inl ⟨rfl,q⟩)<|rE0 mf (i1 g () _ ())<|rE md (i2 (cO g<|dE q) (by rw[xAb];simp;lia) _ ()) .nil)
 |@st sc d pl x a q C i1=>
  intro g p wi o i;exact rK () () (rU tn (g x q) q<|rE0 tn (i1 g () _ ()) .nil)
 |@dd sc d pl a b C G i1 i2=>
  intro g p wi o i;exact rK () () (rE0 tn (i1 g () _ ())<|rE0 tn (i2 g () _ ()) .nil)
 |@iff sc d pl a b c C G R i1 i2 H=>
  intro g p wi o i;exact rK () () (rE0 tn (i1 g () _ ())<|rE0 tn (i2 g () _ ())<|rE0 tn (H g () _ ()) .nil)
 |@math sc d pl x a b O C G i1 i2=>
  intro g p wi o i;exact rM () () O (rW tn (.inr ⟨.inr rfl,vN x O⟩)<|rE0 tn (i1 g () _ ())<|rE0 tn (i2 g () _ ()) .nil)
 |@make sc d pl t as I h J i2=>
  intro g p wi o i;exact rK () () (rW tn (.inr ⟨.inl rfl,dt t I⟩)<|rS tn (λa C o=>i2 a C g () o ()) J)
 |@mat sc xs d pl t a b c I q C G R i1 i2 H=>
  intro g p wi o i;have M:=q.few;exact rK () () (rE0 vD (i1 g () _ ())<|rW vC (.inr ⟨.inl rfl,dt t I⟩)<|rN vB q<|rE vA (i2 (cO g q.ok) (by rw[xAb];lia) _ ()) (rE0 vz (H g () _ ()) .nil) ())
 |@rai sc d pl w a F C i1=>
  intro g p wi o i;exact rK () () (rW tn (.inr ⟨.inl rfl,dt w F⟩)<|rE0 tn (i1 g () _ ()) .nil)
 |@try_ sc d pl w x a b F q C G i1 i2=>
  intro g p wi o i;exact rK () () (rE0 pE (i1 g () _ ())<|rW l9 (.inr ⟨.inl rfl,dt w F⟩)<|rW l8 (.inl ⟨rfl,q⟩)<|rE lZ (i2 (cO g<|dE q) (by rw[xAb];simp;lia) _ ()) .nil)
 |@tell sc d pl a C i1=>
  intro g p wi o i;exact rK () () (rE0 tn (i1 g () _ ()) .nil)
 |@ask sc d pl=>
  intro g p wi o i;exact rK () () .nil
end
structure Rq(d:PyData)(w e:Nat):Prop where
 sh:d.showable=true
 nd:d.hasDict=false
 dp:d.depth<=e
 wt:d.weight<=w
 ls:d.leavesShort 13=true
structure Rqs(ds:B0 PyData)(w e:Nat):Prop where
 sh:PyData.showableAll ds=true
 nd:PyData.hasDictAll ds=false
 dp:PyData.depthAll ds<=e
 wt:PyData.weightAll ds<=w
 ls:PyData.leavesShortAll 13 ds=true
section
variable{d:PyData}{ds:B0 PyData}{w w1 w2 e:Nat}{x:Str}{i:Int}
def Rqs.nil:Rqs [] w e:=⟨rfl,rfl,xBn _,xBn _,rfl⟩
def Rqs.cons(a:Rq d w1 e)(b:Rqs ds w2 e):Rqs (d::ds) (w1+1+w2) e:=by
 refine⟨?_,?_,Nat.max_le.mpr ⟨a.dp,b.dp⟩,?_,?_⟩
 .show(d.showable&&PyData.showableAll ds)=true;rw[a.sh,b.sh];rfl
 .show(d.hasDict||PyData.hasDictAll ds)=false;rw[a.nd,b.nd];rfl
 .show d.weight+1+PyData.weightAll ds<=_;have:=a.wt;have:=b.wt;lia
 .show(d.leavesShort 13&&PyData.leavesShortAll 13 ds)=true;rw[a.ls,b.ls];rfl
def Rqs.tup(a:Rqs ds w e):Rq (.tuple ds) w<|e+1:=⟨a.sh,a.nd,Nat.succ_le_succ a.dp,a.wt,a.ls⟩
def Rqs.up(a:Rqs ds w e)(h:w<=w')(g:e<=e'):Rqs ds w' e':=⟨a.sh,a.nd,xCk a.dp g,xCk a.wt h,a.ls⟩
def Rq.up(a:Rq d w e)(h:w<=w')(g:e<=e'):Rq d w' e':=⟨a.sh,a.nd,xCk a.dp g,xCk a.wt h,a.ls⟩
theorem Rq.str(h:∀c∈tl x,c<200):Rq (.str x) x.length e:=⟨rfl,rfl,xBn _,xAg _,xCx.mpr λc a=>xBd<|Nat.lt_trans (h c a) ∅⟩
theorem Rq.int(h:i.natAbs<10^12):Rq (.int i) 41 e:=by
 refine⟨xBd<|Row.log_small h,rfl,xBn _,?_,xBd<|PyData.shown_int_le h⟩;show(if i==0 then 0 else i.natAbs.log2+1)<=41;split
 .exact xBn _
 .next g=>
  have a:i.natAbs≠0:=λz=>g (by rw[Int.natAbs_eq_zero.mp z];rfl);have:=(Nat.log2_lt a).mpr (Nat.lt_trans h<|show 10^12<2^40 by decide);lia
def nK(h:cln l):∀c∈l,c<200:=λc a=>(h.2 c a).2.2.2
def zA0(g:zCn v=some d)(a:zAu vs=some ds):zAu (v::vs)=some (d::ds):=by
 show(zCn v).bind (λd=>(zAu vs).map (d::·))=_;rw[g,a];rfl
def zDr(a:zAu vs=some ds):zCn (.tup vs)=some (.tuple ds):=by
 show(zAu vs).map PyData.tuple=_;rw[a];rfl
theorem sv:∀{xs:B7},(∀y∈xs,cln<|tl y)->∃ds,zAu (xs.map .str)=some ds/\Rqs ds (ln<|xs.map tl) 0
 |[],_=>⟨[],rfl,.nil⟩
 |y::xs,h=>by
  let⟨ds,e,r⟩:=sv λz a=>h z<|xAs _ a;refine⟨.str y::ds,zA0 rfl e,?_⟩;show Rqs _ ((tl y).length+1+ln (xs.map tl)) 0;rw[zAf];exact .cons (.str<|nK<|h y<|xAr ..) r
mutual
theorem su:∀{t:Tm}{o:Nat},t.fm->t.cl->o+t.tx.length<=big->∃vs ds,(t.mv o).u=.tup vs/\zAu vs=some ds/\Rqs ds (200*t.tx.length) (2*t.dp)
 |.num _ n,o,p,g,a=>by
  have C:1<=(dg n).length:=List.length_pos_iff.mpr g.1;have a:o+(dg n).length<=1000000:=a;refine⟨_,_,rfl,zA0 rfl<|zA0 rfl<|zA0 rfl rfl,?_⟩;have:=Rqs.cons (e:=0) (Rq.str (x:="number")<|by decide +kernel)<|.cons (Rq.int (i:=(o:Int)) ())<|.cons (Rq.int (i:=n) p)<|.nil (w:=0);refine this.up ?_<|xBn _;show("number":Str).length+1+(41+1+(41+1+0))<=200*(dg n).length;rw[show("number":Str).length=6 by decide +kernel];lia
 |.nam _ x,o,p,g,a=>by
  have C:1<=(tl x).length:=List.length_pos_iff.mpr g.1;have a:o+(tl x).length<=1000000:=a;rw[zAf] at C a;refine⟨_,_,rfl,zA0 rfl<|zA0 rfl<|zA0 rfl rfl,?_⟩;have:=Rqs.cons (e:=0) (Rq.str (x:="name")<|by decide +kernel)<|.cons (Rq.int (i:=(o:Int)) ())<|.cons (Rq.str (x:=x)<|nK g)<|.nil (w:=0);refine this.up ?_<|xBn _;show("name":Str).length+1+(41+1+(x.length+1+0))<=200*(tl x).length;rw[show("name":Str).length=4 by decide +kernel,zAf];lia
 |.nd k _ its,o,⟨⟨_,_,_,I,hk,_⟩,p⟩,⟨g,_,hi⟩,a=>by
  have a:o+(br<|jn<|kw k++its.ws).length<=1000000:=a;rw[dH] at a;have G:=fh (ws:=kw k++its.ws);rw[cU] at G;have q:hr k o+ln its.ws<=big:=by
   show _<=1000000;unfold hr;by_cases e:k="math"
   .rw[xCg e];lia
   .have:ln (kw k)=k.length+1:=by
     rw[show kw k=[tl k] from xCf e];show(tl k).length+1+0=_;rw[zAf]
    rw[xCf e];lia
  let⟨ds,H,F⟩:=hV (i:=its) (o:=hr k o) p hi q;refine⟨_,_,rfl,zA0 rfl<|zA0 rfl H,?_⟩;have:=Rqs.cons (Rq.str (x:=k) (e:=2*its.dp+2)<|nK g)<|.cons (Rq.int (i:=(o:Int)) ()) F;refine this.up ?_<|xAg _;show k.length+1+(41+1+(200*ln its.ws+its.sz))<=200*(br<|jn<|kw k++its.ws).length;rw[dH];lia
theorem hV:∀{i:Ims}{o:Nat},i.fm->i.cl->o+ln i.ws<=big->∃ds,zAu (i.mv o).us=some ds/\Rqs ds (200*ln i.ws+i.sz) (2*i.dp+2)
 |.nil,o,_,_,_=>⟨[],rfl,.nil⟩
 |.e t r,o,⟨H,g⟩,⟨C,q⟩,a=>by
  have a:o+(t.tx.length+1+ln r.ws)<=big:=a;let⟨vs,I,M,G,F⟩:=su (t:=t) (o:=o) H C ();let⟨ds,p,r2⟩:=hV (i:=r) (o:=o+t.tx.length+1) g q ();refine⟨_,zA0 (by rw[M];exact zDr G) p,?_⟩;have J:(Ims.e t r).dp=max t.dp r.dp:=rfl;refine(Rqs.cons (F.tup.up (xAg _) ())<|r2.up (xAg _)<|show 2*r.dp+2<=2*(Ims.e t r).dp+2 by lia).up ?_<|xAg _;show 200*t.tx.length+1+(200*ln r.ws+r.sz)<=200*(t.tx.length+1+ln r.ws)+(r.sz+1);lia
 |.s ts r,o,⟨⟨H,Q⟩,g⟩,⟨C,q⟩,a=>by
  have a:o+ln (ts.txs++r.ws)<=big:=a;rw[cU] at a;let⟨I,G,F⟩:=sk (t:=ts) (o:=o) H C ();let⟨ds,p,r2⟩:=hV (i:=r) (o:=o+ln ts.txs) g q ();refine⟨_,zA0 (zDr G) p,?_⟩;have J:(Ims.s ts r).dp=max ts.dp r.dp:=rfl;refine(Rqs.cons (F.tup.up (xAg _) ())<|r2.up (xAg _)<|show 2*r.dp+2<=2*(Ims.s ts r).dp+2 by lia).up ?_<|xAg _;show 200*ln ts.txs+1+(200*ln r.ws+r.sz)<=200*ln (ts.txs++r.ws)+(r.sz+1);rw[cU];lia
 |.n xs r,o,⟨H,g⟩,⟨C,q⟩,a=>by
  have a:o+((br<|jn<|xs.map tl).length+1+ln r.ws)<=big:=a;let⟨I,G,F⟩:=sv C;let⟨ds,p,r2⟩:=hV (i:=r) (o:=o+(br<|jn<|xs.map tl).length+1) g q ();have O:=fh (ws:=xs.map tl);erw[<-⟨_,zA0 (zDr G) p,?_⟩,<-(Rqs.cons (F.tup.up (xAg _) ())<|r2.up (xAg _)<|show 2*r.dp+2<=2*(Ims.n xs r).dp+2 from xAg _).up ?_<|xAg _];show ln (xs.map tl)+1+(200*ln r.ws+r.sz)<=200*((br<|jn<|xs.map tl).length+1+ln r.ws)+(r.sz+1);rw[dH];lia
 |.w so x r,o,⟨_,g⟩,⟨C,q⟩,a=>by
  have a:o+((tl x).length+1+ln r.ws)<=big:=a;rw[zAf] at a;let⟨ds,p,r2⟩:=hV (i:=r) (o:=o+x.length+1) g q ();erw[<-⟨_,zA0 rfl p,?_⟩,<-(Rqs.cons (Rq.str (x:=x)<|nK C)<|r2.up (xAg _)<|show 2*r.dp+2<=2*(Ims.w so x r).dp+2 from xAg _).up ?_<|xAg _];show x.length+1+(200*ln r.ws+r.sz)<=200*((tl x).length+1+ln r.ws)+(r.sz+1);rw[zAf];lia
theorem sk:∀{t:Tms}{o:Nat},t.fm->t.cl->o+ln t.txs<=big->∃ds,zAu (t.mv o).us=some ds/\Rqs ds (200*ln t.txs) (2*t.dp+1)
 |.nil,o,_,_,_=>⟨[],rfl,.nil⟩
 |.cons t r,o,⟨p,n⟩,⟨H,G⟩,a=>by
  have a:o+(t.tx.length+1+ln r.txs)<=big:=a;let⟨vs,J,F,C,g⟩:=su (t:=t) (o:=o) p H ();let⟨ds,q,r2⟩:=sk (t:=r) (o:=o+t.tx.length+1) n G ();refine⟨_,zA0 (by rw[F];exact zDr C) q,?_⟩;have I:(Tms.cons t r).dp=max t.dp r.dp:=rfl;refine(Rqs.cons (g.tup.up (xAg _) ())<|r2.up (xAg _)<|show 2*r.dp+1<=2*(Tms.cons t r).dp+1 by lia).up ?_<|xAg _;show 200*t.tx.length+1+200*ln r.txs<=200*(t.tx.length+1+ln r.txs);lia
end
def zf{t:Tm}(a:t.fm)(n:t.cl)(H:t.tx.length<=600)(I:t.dp<=20):∃z:Str,∀S,pr ups .repr [(t.mv 0).u] S=.ok (.str z) S:=by
 let⟨vs,ds,C,p,r⟩:=su (t:=t) (o:=0) a n (by show 0+_<=1000000;lia);refine⟨(PyData.tuple ds).shown,λS=>?_⟩;have q:=r.tup;have G:=PyData.shown_le 13 ∅ (.tuple ds) q.ls;have F:=q.wt;have g:=q.dp;rw[C];show(match zAu vs with|some ds=>(match(PyData.tuple ds).showable&&!(PyData.tuple ds).hasDict&&Nat.ble (PyData.tuple ds).depth 60&&Nat.ble (PyData.tuple ds).shown.length sizeLine with|true=>Res.ok (.str (PyData.tuple ds).shown) S|false=>.stuck)|none=>.stuck)=_;rw[p];dsimp only;rw[q.sh,q.nd,xDk (show(PyData.tuple ds).depth<=60 by lia),xDk<|show(PyData.tuple ds).shown.length<=sizeLine by show _<=2^24;lia];rfl
end
section
variable{fw d:Nat}{S:So}{x:C7}{K:C6}{xs:B'}
def fN{a b:Int}(h:a.natAbs<2^60\/b.natAbs<2^60):pr ups .mul [.int a,.int b] S=.ok (.int<|a*b) S:=by
 show(match decide (a.natAbs<2^150/\b.natAbs<2^150\/b.natAbs<2^60\/a.natAbs<2^60) with|true=>Res.ok (.int<|a*b) S|false=>.stuck)=_;rw[xBd<|.inr h.symm]
noncomputable def cl(xs:B')(k:Nat):Int:=if k<xs.length then xs.getD k 0 else if xs=[] then(k:Int)*48271%65537 else xs.getD (k%xs.length) 0*48271%2147483647+7919*k
def v3(h:j<xs.length):pr ups .ix [.kl<|xs.map .int,.int (j:Nat)] S=.ok (.int<|xs.getD j 0) S:=by
 have e:xs.getD j 0=xs[j]:=by rw[xBz,xAk h];rfl
 rw[e];exact tX (v:=.int xs[j]) (by rw[xAw,xAk h];rfl)
def eU{k:Nat}(g:k<=1000)(hk:K (.int<|cl xs k) S):(Gd fw<|d+1).call 36 [.kl<|xs.map .int,.int (k:Nat)] S x K:=by
 unfold cl at hk;erw[cd ⟨2,2,t36⟩,pd (v:=.int xs.length) (S':=S) (by show Res.ok (.int ((xs.map U.int).length:Nat)) S=_;rw[xAa]),pv (.bl<|decide<|(k:Int)<xs.length)];by_cases h:k<xs.length
 .rw[xBd ()];rw[xCg h] at hk;erw[bT,<-pd (v3 h) hk]
 rw[xCn ()];rw[xCf h] at hk;erw[bF,pv (.lst []),pd (v:=.bl (xs.map U.int).isEmpty) (S':=S) rfl];by_cases h0:xs=[]
 .rw[xCg h0] at hk;rw[h0];erw[bT,pd (fN<|.inr ∅),<-pd (cX ∅) hk]
 rw[xCf h0] at hk;have a:0<xs.length:=List.length_pos_iff.mpr h0;rw[show(xs.map U.int).isEmpty=false by rw[List.isEmpty_eq_false_iff];simpa using h0];erw[bF,pd (v:=.int xs.length) (S':=S) (by show Res.ok (.int ((xs.map U.int).length:Nat)) S=_;rw[xAa]),pd (v:=.int ((k%xs.length:Nat):Int)) (S':=S) (by rw[Int.natCast_emod];exact cX ()),pd (v3<|Nat.mod_lt _ a),pd (fN<|.inr ∅),pd (cX ∅),pd (fN<|.inl ∅),<-pv (.int<|xs.getD (k%xs.length) 0*48271%2147483647+7919*k) hk]
noncomputable def lg(c:Int)(a k j:Nat):Nat:=((c / 64+(j:Int)*(c / 1664)+(if j=a then(k:Int) else 0))%26).toNat
noncomputable def cds(c:Int)(a k sz:Nat):B9:=(List.range sz).map<|lg c a k
def nmz(w:Str):Str:=if zBc (.str w) (zBh.map .str)=true then w++"z" else w
def nm(c:Int)(a k sz:Nat):Str:=nmz<|zBg<|cds c a k sz
def tZ{q:Nat}{xs:B8}(h:at? S q=some (.lst xs)):pr ups .frz [.ref q] S=.ok (.lst xs) (set S q .dead):=by
 show zCi q S _=_;unfold zCi;rw[h]
def rO(hk:K (scU zBh) S):(Gd fw<|d+1).call 37 [] S x K:=by
 erw[cd ⟨0,1,t37⟩,pv (scU ["fn","call","let","set","do","if","add","sub","mul"]),pv (scU ["less","same","make","match","raise","try","tell","ask"]),<-pv (scU zBh) hk]
def tw{i:Nat}:zBg is++(⟨#[97+i]⟩:Str)=zBg (is++[i]):=by
 show(⟨(is.map (97+·)).toArray++#[97+i]⟩:Str)=⟨((is++[i]).map (97+·)).toArray⟩;simp
def jc{a b:Str}(h:a.length+b.length<=10000):pr ups (.add false) [.str a,.str b] S=.ok (.str<|a++b) S:=zBd (by show _<=2^24;lia)
theorem kz{c:Int}{a k:Nat}{E:Ee Prop}{kk:Sg->So->Prop}{a1 a3 a5:B1 U}:∀{n j:Nat}{is:B9}{a8 i:B1 U},is.length+n<=100->j+n<=100->(∀a8 i,kk [some<|.int c,a1,some<|.str ltrs,a3,some<|.int (a:Nat),a5,some<|.int (k:Nat),some<|.str<|zBg<|is++(List.range' j n).map (lg c a k),a8,i] S) ->
  zB2 (zB8 (j:Nat) n) (λw σ1 S2 nx=>tgt [8] true (Gd fw d) w σ1 λσ2=>inb (Gd fw d) σ2 S2<|lpE E nx) [some<|.int c,a1,some<|.str ltrs,a3,some<|.int (a:Nat),a5,some<|.int (k:Nat),some<|.str<|zBg is,a8,i] S kk
 |0,j,is,a8,i,_,_,hk=>by
  have:=hk a8 i;rw[List.range'_zero,List.map_nil,xB0] at this;exact this
 |n+1,j,is,a8,i,q,p,hk=>by
  erw[pd (fb ∅),pd (fb ∅),pd (fN<|.inl ()),pv (.int<|c / 64+(j:Int)*(c / 1664)),pd cL];have o:∀{v:Int},v=c / 64+(j:Int)*(c / 1664)+(if j=a then(k:Int) else 0)->(Jc<|sA 7<|J1 (.add false) Jp<|J8 J7<|J1 .mod Jz<|Je 26) (Gd fw d) [some<|.int c,a1,some<|.str ltrs,a3,some<|.int (a:Nat),a5,some<|.int (k:Nat),some<|.str<|zBg is,some<|.int (j:Nat),some<|.int v] S (lpE E λσ1 S1=>zB2 (zB8 ((j:Nat)+1) n) (λw σ1 S2 nx=>tgt [8] true (Gd fw d) w σ1 λσ2=>inb (Gd fw d) σ2 S2<|lpE E nx) σ1 S1 kk):=λ{v} e=>by
   erw[pd (cX ∅),pd (n0 ⟨xBa _ ∅,xBb _ ∅⟩)];rw[show(v%26).toNat=lg c a k j by rw[e];rfl];erw[pd (v:=.str<|zBg<|is++[lg c a k j]) (S':=S) (by rw[<- tw];exact jc (by rw[iR];show _+1<=_;lia)),<-kz (n:=n) (j:=j+1) (is:=is++[lg c a k j]) (by simp;lia) () λa8 i=>?_];have:=hk a8 i;rw[xAx];exact this
  by_cases g:j=a
  .rw[xBd ()];erw[bT,pv (.int<|c / 64+(j:Int)*(c / 1664)+k),<-o (by rw[xCg g])]
  .rw[xCn ()];erw[bF,<-o (by rw[xCf g,Int.add_zero])]
def zn{j:Int}(h:j=0\/j=1):pr ups .mul [.str "z",.int j] S=.ok (.str<|if j=1 then "z" else Str.empty) S:=by
 show(match decide (0<=j/\j<=1) with|true=>fits ("z":Str).length (.ok (.str<|if j=1 then "z" else Str.empty) S)|false=>.stuck)=_;rw[xBd ()];exact zBd (by rw[show("z":Str).length=1 by decide +kernel];show 1<=2^24;decide)
theorem j8{c:Int}{sz a q:Nat}{E:Ee Prop}{kk:Sg->So->Prop}{a1:B1 U}(I:sz<=8):∀{n k:Nat}{ws:B7}{S:So}{a6 a7 a8 g:B1 U},ws.length+n<=100->k+n<=100->at? S q=some (.lst<|ws.map .str) ->
  (∀S' a6 a7 a8 g,S'.length=S.length->(∀{p o},p≠q->at? S p=some o->at? S' p=some o)->at? S' q=some (.lst<|(ws++(List.range' k n).map λk=>nm c a k sz).map .str)->kk [some<|.int c,a1,some<|.str ltrs,some<|.int (sz:Nat),some<|.int (a:Nat),some<|.ref q,a6,a7,a8,g] S') ->
  zB2 (zB8 (k:Nat) n) (λw σ1 S2 nx=>tgt [6] true (Gd fw<|d+1) w σ1 λσ2=>oub (Gd fw<|d+1) σ2 S2<|lpE E nx) [some<|.int c,a1,some<|.str ltrs,some<|.int (sz:Nat),some<|.int (a:Nat),some<|.ref q,a6,a7,a8,g] S kk
 |0,k,ws,S,a6,a7,a8,g,_,_,i,hk=>hk S a6 a7 a8 g rfl (λ_ z=>z) (by rw[List.range'_zero,List.map_nil,xB0];exact i)
 |n+1,k,ws,S,a6,a7,a8,g,Q,O,i,hk=>by
  erw[pd (jV ())];rw[xC3];refine kz (n:=sz) (j:=0) (is:=[]) (by simp;lia) () λa8 g=>?_;rw[xC6,show(List.range' 0 sz).map (lg c a k)=cds c a k sz by unfold cds;rw[List.range_eq_range']];erw[pd (cv i),rO,pd (v:=.bl<|zBc (.str<|zBg<|cds c a k sz)<|zBh.map .str) (S':=S) rfl];have F:(zBg<|cds c a k sz).length=sz:=by rw[iR];unfold cds;rw[xAa,List.length_range]
  have H:(("z":Str)).length=1:=by decide +kernel
  have C:∀{w:Str},w=nm c a k sz->at? (set S q<|.lst<|ws.map .str++[.str w]) q=some (.lst<|(ws++[nm c a k sz]).map .str):=λ{w} e=>by
   rw[e,zAc i,xAi];rfl
  have go:∀{w:Str}{g:B1 U},w=nm c a k sz->zB2 (zB8 ((k:Nat)+1) n) (λw σ1 S2 nx=>tgt [6] true (Gd fw<|d+1) w σ1 λσ2=>oub (Gd fw<|d+1) σ2 S2<|lpE E nx) [some<|.int c,a1,some<|.str ltrs,some<|.int (sz:Nat),some<|.int (a:Nat),some<|.ref q,some<|.int (k:Nat),some<|.str<|zBg<|cds c a k sz,a8,g] (set S q<|.lst<|ws.map .str++[.str w]) kk:=λ{w g} e=>by
   erw[<-j8 I (n:=n) (k:=k+1) (ws:=ws++[nm c a k sz]) (by simp;lia) () (C e) λS' a6 a7 a8 g M J G=>?_,hk S' a6 a7 a8 g (by rw[M,zBb]) (λn z=>J n<|atN (Ne.symm n) z)];rw[xAx] at G;exact G
  cases hb2:zBc (.str<|zBg<|cds c a k sz) (zBh.map .str) with
  |true=>
   erw[pv (.int 1),pd (v:=.str "z") (S':=S) (zn<|.inr rfl),pd (jc<|by rw[F,H];lia),pd (cZ i<|by rw[xAa];show _<=2^24;lia)];exact go (by unfold nm nmz;rw[xCg hb2])
  |false=>
   refine pv (.int 0) ?_;refine pd (v:=.str Str.empty) (S':=S) (zn<|.inl rfl) ?_;refine pd (v:=.str<|zBg<|cds c a k sz) (S':=S) (by
    have:zBg (cds c a k sz)++Str.empty=zBg (cds c a k sz):=by show(⟨_++#[]⟩:Str)=_;rw[Array.append_empty]
    have h:=jc (S:=S) (a:=zBg<|cds c a k sz) (b:=Str.empty) (by rw[F];show sz+0<=_;lia)
    rwa[this] at h) ?_
   erw[pd (cZ i<|by rw[xAa];show _<=2^24;lia)];exact go (by unfold nm nmz;rw[xCf<|by rw[hb2];decide])
def tq:∀w∈zBh,zAg (w++"z")=true/\w.length<=7:=by
 have:zBh.all (λw=>zAg (w++"z")&&Nat.ble w.length 7)=true:=by decide +kernel
 intro w a;have:=xCx.mp this w a;rw[xCh] at this;exact⟨this.1,xCo this.2⟩
theorem nP{w:Str}:∀{l:B7},zBc (.str w) (l.map .str)=true->w∈l
 |y::l,h=>by
  have h:((y==w)||zBc (.str w) (l.map .str))=true:=h;rw[Bool.or_eq_true] at h;rcases h with h|h
  .rw[eq_of_beq h];exact xAr ..
  .exact xAs _<|nP h
theorem uC{c:Int}{a k sz:Nat}(h:1<=sz/\sz<=8):zAg (nm c a k sz)=true:=by
 have g:zAp (zBg<|cds c a k sz)=true:=tu (by unfold cds;simp;lia) (by unfold cds;simp;lia) λi hi=>by
  unfold cds at hi;let⟨j,_,rfl⟩:=xA2.mp hi;unfold lg;have:=xBa (c / 64+(j:Int)*(c / 1664)+(if j=a then(k:Int) else 0)) (show(26:Int)≠0 by decide);have:=xBb (c / 64+(j:Int)*(c / 1664)+(if j=a then(k:Int) else 0)) (show(0:Int)<26 by decide);lia
 unfold nm nmz;cases hb:zBc (.str<|zBg<|cds c a k sz) (zBh.map .str) with
 |true=>
  rw[xCg rfl];exact(tq _<|nP hb).1
 |false=>
  rw[xCf ∅];unfold zAg;rw[g,hb];rfl
def zX{c:Int}{a k g sz:Nat}(C:a<sz)(hk:k<20)(w:g<20)(h:k≠g):nm c a k sz≠nm c a g sz:=by
 have i:zBg (cds c a k sz)≠zBg (cds c a g sz):=yZ (j:=a) (by
  unfold cds;rw[xAw,xAw,xAk<|by simpa using C];intro e;have e:some (lg c a k a)=some (lg c a g a):=by simpa using e
  injection e with e;unfold lg at e;rw[xCg rfl,xCg rfl] at e;lia)
 have n:∀{k:Nat},(zBg<|cds c a k sz).length=sz:=λ{k}=>by rw[iR];unfold cds;rw[xAa,List.length_range]
 have o:(("z":Str)).length=1:=by decide +kernel
 have p:∀{u v:Str},(u++v).length=u.length+v.length:=λ{u v}=>by show(u.cps++v.cps).size=_;rw[Array.size_append];rfl
 unfold nm nmz;intro e;split at e <;> split at e
 .exact i (by
   have H:(zBg<|cds c a k sz).cps++("z":Str).cps=(zBg<|cds c a g sz).cps++("z":Str).cps:=congrArg Str.cps e;have q:=congrArg Array.toList H;rw[Array.toList_append,Array.toList_append] at q;have G:=List.append_cancel_right q;have F:(zBg<|cds c a k sz).cps=(zBg<|cds c a g sz).cps:=Array.toList_inj.mp G;show(⟨(zBg<|cds c a k sz).cps⟩:Str)=⟨(zBg<|cds c a g sz).cps⟩;rw[F])
 .have:=congrArg Str.length e;rw[p,n,n,o] at this;lia
 .have:=congrArg Str.length e;rw[p,n,n,o] at this;lia
 .exact i e
set_option tactic.hygienic true
def zBk{c:Int}{n:Nat}(I:3<=n/\n<=6):∃ws:B7,(3<=ws.length/\ws.length<=6)/\ws.Nodup/\(∀y∈ws,zAg y=true)/\∀{fw d:Nat}{S:So}{x:C7}{K:C6},(∀S',Kp S S'->K (scU ws) S')->(Gd fw<|d+2).call 38 [.int c,.int (n:Nat)] S x K:=by
 let⟨g,H⟩:=Int.eq_ofNat_of_zero_le (xBa c<|show(8:Int)≠0 by decide);have G:=xBb c (show(0:Int)<8 by decide);have q:0<((1+g:Nat):Int):=by lia
 let⟨a,O⟩:=Int.eq_ofNat_of_zero_le (xBa (c / 8)<|show((1+g:Nat):Int)≠0 by lia);have M:=xBb (c / 8) q;refine⟨(List.range' 0 n).map λk=>nm c a k<|1+g,by rw[xAa,List.length_range'];exact I,?_,λy F=>?_,λ{fw d S x K} hk=>?_⟩
 .refine List.pairwise_map.mpr ((List.nodup_range' (step:=1)).imp_of_mem λ{i j} hi J z=>zX () ?_ ?_ z)
  .have:=(List.mem_range'_1.mp hi).2;lia
  .have:=(List.mem_range'_1.mp J).2;lia
 .let⟨k,_,rfl⟩:=xA2.mp F;exact uC ()
 .erw[cd (d:=d+1) ⟨2,10,t38⟩,pd (cX ∅)];rw[H];erw[pd (v:=.int ((1+g:Nat):Int)) (S':=S) (by show Res.ok (.int<|(1:Int)+g) S=_;congr 2),pd (fb ∅),pd (cX q)];rw[O];erw[pd (v:=.ref S.length) (S':=S++[.lst []]) rfl];have C:at? (S++[Ob.lst []]) S.length=some (.lst<|([]:B7).map .str):=zA3;have kp:Kp S<|S++[Ob.lst []]:=Kp.app;generalize S++[Ob.lst []]=T at C kp⊢;erw[pd (jV ())];rw[xC3];erw[<-j8 (sz:=1+g) () (n:=n) (k:=0) (ws:=[]) (by simp;lia) () C λS' a6 a7 a8 W R e2 Q=>?_,pd (tZ Q),<-hk _ ⟨by rw[zBb,R];exact kp.len,λ{p o} z=>?_⟩];have w:p≠S.length:=by have:=zBt z;lia
  exact atN (Ne.symm w)<|e2 w<|kp.ky z
set_option tactic.hygienic false
end
section
variable{fw d:Nat}{S:So}{x:C7}{K:C6}{xs:B'}{ws:B7}
theorem pig:∀{m:Nat}{l:B'},l.Nodup->(∀k∈l,0<k/\k<=m)->l.length<=m
 |0,[],_,_=>xAg _
 |0,k::l,_,h=>by have:=h k<|xAr ..;omega
 |m+1,l,a,h=>by
  by_cases hm:(m+1:Int)∈l
  .have g:=pig (m:=m) (a.erase (m+1:Int)) λk hk=>by
    let⟨n,i⟩:=a.mem_erase_iff.mp hk;have:=h k i;omega
   rw[List.length_erase_of_mem hm] at g;omega
  .have g:=pig (m:=m) a λk hk=>by
    have:=h k hk;have:k≠m+1:=λe=>hm (by rw[<- e];exact hk);omega
   omega
noncomputable def sx0(pp c s h:Int):Sx:=⟨if -1-c>c then -1-c else c,s%2147483646,pp,0,h%600⟩
def pI{c s h:Int}(hk:K (.ref S.length)<|S++[.dct (sx0 pp c s h).kv]):(Gd fw<|d+1).call 40 [.int c,.int s,.int pp,.int h] S x K:=by
 erw[cd ⟨4,5,t40⟩,pv (.int (-1)),pv (.int (-1-c)),pv (.int<|if -1-c>c then -1-c else c),pd (cX ∅),pd (cX ∅),pd (v:=.ref S.length) (S':=S++[.dct (sx0 pp c s h).kv]) (by rfl),<-hk]
def wJ{c s h:Int}(a:0<=pp/\pp<=80):Iv pp<|sx0 pp c s h:=by
 refine⟨⟨?_,xBa _ ∅,?_⟩,⟨(by show pp=pp-0;lia),a⟩,⟨Int.le_refl _,by show(0:Int)<=10000;decide⟩⟩
 .show 0<=(if -1-c>c then -1-c else c);split <;> lia
 .show s%2147483646<2147483647;have:=xBb s (show(0:Int)<2147483646 by decide);lia
structure zD4(P:Pg):Prop where
 wf:Wf (zAg ·=true) [] 14 P
 nd:P.pls.Nodup
 le:P.pls.length<=300
 rg:∀p∈P.pls,okP p
def sw(xs:B')(F:3<=ws.length/\ws.length<=6)(i:ws.Nodup)(M:∀y∈ws,zAg y=true):∃P,zD4 P/\∀{fw d:Nat}{S:So}{x:C7}{K:C6},(∀S',Kp S S'->K P.u S')->(Gd fw<|d+60).call 39 [.kl<|xs.map .int,scU ws,.lst []] S x K:=by
 have O:0<=1+cl xs 1 / 2%60/\1+cl xs 1 / 2%60<=80:=()
 have Q:0<=cl xs 0 / 7%14/\cl xs 0 / 7%14<14:=()
 generalize hs:cl xs 2*(if decide (cl xs 1%2=0)=true then(1:Int) else 0)=s;let⟨P,I,q,b⟩:=qw (pp:=1+cl xs 1 / 2%60) (N:=(zAg ·=true)) (ws:=ws) M xU F i (n:=15) (dm:=14) ∅ ∅ (x:=sx0 (1+cl xs 1 / 2%60) (cl xs 3) s<|cl xs 1 / 120) (sc:=[]) (dp:=1+cl xs 0 / 7%14) (wJ O) (by show(0:Int)+40*(14:Nat)<=2000;decide) ∅ ();have hi:I.k<=166:=by
  have:=q.hi;have e:(sx0 (1+cl xs 1 / 2%60) (cl xs 3) s<|cl xs 1 / 120).k=0:=rfl;lia
 let⟨J,e,w,g⟩:=q.ks;have g:∀k∈J,0<k/\k<=166:=λk hk=>by have:=g k hk;have e:(sx0 (1+cl xs 1 / 2%60) (cl xs 3) s<|cl xs 1 / 120).k=0:=rfl;lia
 have F:=pig (m:=166) w g;refine⟨P,⟨q.wf,?_,by rw[e,xAa];lia,λp C=>?_⟩,λ{fw d S x K} hk=>?_⟩
 .rw[e];refine List.pairwise_map.mpr (w.imp_of_mem λ{a b} H G z e=>z ?_);have H:=g a H;have G:=g b G;unfold zBw at e;lia
 .rw[e] at C;let⟨k,_,rfl⟩:=xA2.mp C;unfold zBw okP;lia
 .erw[cd (d:=d+59) ⟨3,6,t39⟩,eU (d:=d+58) (k:=2) ∅,eU (d:=d+58) (k:=1) ∅,pd (cX ∅),pd cL,pv (.int<|if decide (cl xs 1%2=0)=true then 1 else 0),pd (fN<|.inr<|by split <;> decide)];rw[hs];erw[eU (d:=d+58) (k:=1) ∅,pd (fb ∅),pd (cX ∅),pv (.int<|1+cl xs 1 / 2%60),eU (d:=d+58) (k:=3) ∅,eU (d:=d+58) (k:=1) ∅,pd (fb ∅),pI (d:=d+58),eU (d:=d+58) (k:=0) ∅,pd (fb ∅),pd (cX ∅),pv (.int<|1+cl xs 0 / 7%14),(b.up (lv':=59) ∅).h (d:=d) zA3,<-hk _ ⟨by rw[zBb,xAb];lia,λ{p o} z=>?_⟩];have lp:=zBt z;rw[zHv ()];exact zBu z
def zD4.chk{P:Pg}(h:zD4 P):Chk P.u (P.tr.ck 0) [] 0 37:=wx h.wf (λ_ z=>nomatch z) ∅ 0
def zD4.yes{P:Pg}(h:zD4 P):(P.tr.ck 0 []).isSome=true:=by
 rw[Tr.ck_good (yX h.wf ∅ h.rg) (by rw[cN];exact h.nd)<|by rw[cN];exact h.le];rfl
end
section
variable{fw d q h wq mq a:Nat}{S S1 S2 S':So}{x xc:C7}{K:C6}{v:U}{n wi pl:Int}{W rest:B8}{th:B7}{T:Tm}{P:Pg}{f:B'->B1 (B')}{D:Nat}
def qt{w:B9}(g:w.length<=big)(hk:K (stU w) S):(Gd fw<|d+2).call 9 [stU w] S x K:=by
 have g:w.length<=1000000:=g;erw[cd ⟨1,1,t9⟩,pv (.bl false),bF,pv (.bl true),bT,pv (.str ""),pv (.lst [stU w]),<-pd (v:=stU w) (S':=S) ?_ hk];show(match decide (([mkS w].map λy:Str=>y.length).sum+1*("":Str).length<=16777216) with|true=>Res.ok (.str<|Builtin.Str.glued "" [mkS w]) S|false=>.stuck)=_;rw[xBd<|by rw[show("":Str).length=0 by decide +kernel];show(mkS w).length+0+0<=_;rw[eO];lia];rfl
def vh{w:B9}(i:w.length<=big):Rf<|stU w:=⟨λ{fw d h S x K th wi} g=>by
 refine cd ⟨4,10,t11⟩ ?_;refine qt (d:=d+1) i ?_;refine pv (.bl false) ?_;refine bT ?_;refine bT ?_;exact g S Kp.refl⟩
def jI(h:zD4 P)(g:Gt 14 P)(hk:∀S',Kp S S'->K (stU P.t.tx) S'):(Gd fw<|d+60).call 18 [P.u] S x K:=by
 have o:P.t.tx.length<=big:=by
  have:=g.lg;have:=h.le;show _<=1000000;lia
 have p:=g.dp;erw[cd (d:=d+59) ⟨1,1,t18⟩,<-checked (d:=d+57) h.chk () h.yes λS1 k1=>?_];rw[<- g.u];exact pB g.fm o () λS2 i=>hk S2<|k1.trans i
def UW(v:U):Prop:=∀{fw d:Nat}{S:So}{x:C7}{K:C6},(∀S',Kp S S'->K (.bl true) S')->(Gd fw<|d+60).call 57 [v] S x K
def iu(c:Rf v):UW v:=λ{fw d S x K} hk=>by
 erw[cd (d:=d+59) ⟨1,2,t57⟩,cd (d:=d+58) ⟨1,1,t18⟩,<-refused (d:=d+53) c λS1 g=>?_,<-hk S1 g]
def zq{k:Str}{r:B8}(h:P.u=.tup (.str k::.int pl::r)):pl∈P.pls:=by
 cases P <;> (cases h;exact xAr ..)
def uD(C:ChS h pq [] S)(G:okP pl)(o:y.length<=1000)(w:∀S',Pc pq S S'->x NP S'):(Gd fw<|d+5).call 11 [.ref h,.tup [.str "name",.int pl,.str y],.tup [],.int 0] S x K:=by
 erw[cd ⟨4,10,t11⟩,db (d:=d+2) rfl,pv (.bl true),bF,pv (.int 3),pv (.bl false),bF,pd cy,db (d:=d+2) rfl,pd eK,db (d:=d+2) rfl,pd (v:=.ref S.length) (S':=S++[.lst [.str "name",.int pl]]) (by rfl)];have i:at? (S++[Ob.lst [.str "name",.int pl]]) S.length=some (.lst [.str "name",.int pl]):=zA3;have C1:ChS h pq []<|S++[.lst [.str "name",.int pl]]:=⟨zBu C.ob,zBu C.di,C.le⟩
 have F:S.length≠pq:=by have:=zBt C.di;lia
 have P1:Pc pq S<|S++[Ob.lst [.str "name",.int pl]]:=Pc.app;generalize S++[Ob.lst [.str "name",.int pl]]=T at i C1 P1⊢;erw[pd (cx (j:=0) i rfl),cd ⟨1,1,t3⟩,pv (.bl true),bT,pv (.kt [.str "used"]),pv (.bl false),bF,pv (.int 3),pv (.int 1),pv (.int 3),pv (.bl false),bF];have I:=C1.ob;erw[pd (cm I rfl),pd (cx (j:=1) i rfl),<-wu (d:=d+1) C1 (λp J T2 C2 p2=>?_) (by rw[qu (ps:=[]) G (λz=>nomatch z) ∅];exact λz=>nomatch z)];have g:=p2.ky F i;have H:=C2.ob;erw[pd (cx (j:=0) g rfl),pv (.bl false),bF,pv (.bl false),bF,pd gQ,pv (.tup [.tup [.str "used",.str y]]),pd (dN g),(tn (k:="name") (r:=[.int pl])).h (d:=d+3) g,pv (.tup []),pd (cv g),pd (cm H rfl),cd (d:=d+3) ⟨5,6,t13⟩];walk_at"w"
 erw[db (d:=d+1) (pvN o),zAs (th:=[]) (pvN o)];rw[show zF2 "used" (.str y) []=false from xDe _];erw[bT];exact w T2<|P1.trans p2
def tz(i:okP pl)(g:y.length<=1000):UW<|.tup [.str "name",.int pl,.str y]:=λ{fw d S x K} hk=>by
 erw[cd (d:=d+59) ⟨1,2,t57⟩,cd (d:=d+58) ⟨1,1,t18⟩,<-chd (d:=d+56) λC=>?_,<-uD (d:=d+52) C i g λS1 p1=>?_,<-hk S1<|vM p1]
theorem wI(g:T.fm):∃(k:Str) (pl:Int) (r fs:B8),T.u=.tup (.str k::.int pl::r)/\zAt k cq=some (.kt fs)/\fs.length=r.length/\r.length<=10/\k.length<=100:=by
 cases T with
 |num pl n=>exact⟨"number",pl,[.int n],[.str "number"],rfl,rfl,rfl,⋯,∅⟩
 |nam pl y=>exact⟨"name",pl,[.str y],[.str "used"],rfl,rfl,rfl,⋯,∅⟩
 |nd k pl its=>
  let⟨⟨_,_,i,o,hk,_⟩,_⟩:=g;exact⟨k,pl,its.us,_,rfl,i,by rw[xAa,fT,eR],by rw[eR];lia,hk⟩
def stf{C:Str}{fs fs':B0<|Str×U}(h:at? S q=some (.ins C fs))(e:putF s v fs=fs')(g:Nat.ble fs.length 900=true)(hk:∀S',at? S' q=some (.ins C fs')->Kq q S S'->K .non S'):(Gd fw d).prim (.setf s) [.ref q,v] S x K:=pd (i9 h e g)<|hk _ (zAc h) Kq.set
def tJ(h:zD4 P)(g:Gt 14 P)(Y:10<=fw)(hk:P.t.tx.length<=600->∀S',Kp S S'->K (P.t.mv 0).u S')(X:600<P.t.tx.length->∀S',Kp S S'->x ⟨"BadText",[("place",.int 600)]⟩ S'):(Gd fw<|d+70).call 22 [stU P.t.tx] S x K:=by
 have hb:P.t.tx.length<=big:=by
  have:=g.lg;have:=h.le;show _<=1000000;lia
 have Z:big=1000000:=rfl;erw[cd (d:=d+69) ⟨1,4,t22⟩,pv (.bl true),bF,qt (d:=d+67) hb,pd (dA ()),pd (v:=.bl<|decide<|(600:Int)<P.t.tx.length) (S':=S) rfl];by_cases hl:P.t.tx.length<=600
 case neg=>
  rw[xBd ()];erw[bT,<-X () S Kp.refl]
 rw[xCn ()];erw[bF,pd (v:=.ref S.length) (S':=S++[.ins "Reader" []]) (by rfl),cd (d:=d+68) ⟨2,2,t25⟩];have w:Kp S<|S++[.ins "Reader" []]:=Kp.app;have o1:at? (S++[Ob.ins "Reader" []]) S.length=some (.ins "Reader" []):=zA3;have J:S.length<(S++[Ob.ins "Reader" []]).length:=by simp
 generalize S++[Ob.ins "Reader" []]=T1 at w o1 J⊢;refine pi (d:=d+67) () λT2 k2 F=>?_;have l2:=zBt<|k2.ky o1;erw[<-stf (k2.ky o1) rfl rfl λT3 o3 Q=>?_,pd (dA ()),<-stf o3 rfl rfl λT4 I k4=>?_,<-stf I rfl rfl λT5 p O=>?_,pd (v:=.ref T5.length) (S':=T5++[.lst []]) rfl];have l5:=zBt p;refine stf (zBu p) rfl rfl λT7 H i=>?_;let⟨gg,e⟩:=iZ (t:=P.t) (r:=[]) (o:=0) (acc:=[]) g.cl;rw[xB0] at e;have e:scan P.t.tx 0 false []=P.t.tk 0:=e;rw[e] at F;have kk:=Q.trans<|k4.trans O;have R:RdS S.length T1.length T5.length (tU<|P.t.tk 0) P.t.tx.length 0 T7:=⟨H,i.ky ()<|zBu<|kk.ky () F,i.ky () zA3⟩
 have G:=(w.trans k2).kq.trans<|kk.trans<|(Kp.kq Kp.app).trans i;erw[pd (cm (C:="Reader") R.ob rfl),<-(wT h.wf (λ_ z=>nomatch z) ∅ (wi:=0) 0 ∅).h () Y R (rest:=[]) (by rw[xB0];rfl) λT8 R8 M=>?_,pd (cm (C:="Reader") R8.ob rfl),cd (d:=d+68) ⟨1,1,t29⟩,pd (du R8.ob rfl),pd (du R8.ob rfl),pd (dN R8.wd),<-pd (v:=.bl false) (S':=T8) ?_ ?_]
 .show Res.ok (.bl<|decide<|((0+(P.t.tk 0).length:Nat):Int)<((tU<|P.t.tk 0).length:Nat)) T8=_;rw[xCn<|by unfold tU;rw[xAa];lia]
 erw[bF,pd (du R8.ob rfl),pd (xb R8.ms),bF,<-hk hl T8 (G.trans M).kp]
def vS(h:zD4 P)(g:Gt 14 P)(w:10<=fw)(hk:P.t.tx.length<=600->∀S',Kp S S'->K (P.t.mv 0).u S')(p:600<P.t.tx.length->∀S',Kp S S'->K (.int 600) S'):(Gd fw<|d+71).call 56 [stU P.t.tx] S x K:=by
 erw[cd (d:=d+70) ⟨1,3,t56⟩,<-tJ (d:=d) h g w (λo S1 i=>?_) λo S1 i=>?_]
 .exact hk o S1 i
 .exact p o S1 i
theorem vw{E:Ee Prop}{kk:Sg->So->Prop}{g a1 a2 a3 a4 a5 a6:B1 U}:∀{vs:B8}{S:So}{a7:B1 U},(∀v∈vs,UW v)->(∀S' a7,Kp S S'->kk [g,a1,a2,a3,a4,a5,a6,a7] S') ->
  zB2 vs (λw σ1 S2 nx=>tgt [7] true (Gd fw<|d+60) w σ1 λσ2=>zHs (Gd fw<|d+60) σ2 S2<|lpE E nx) [g,a1,a2,a3,a4,a5,a6,a7] S kk
 |[],S,a7,_,hk=>hk S a7 Kp.refl
 |v::vs,S,a7,h,hk=>by
  erw[<-h v (xAr ..) λS1 k1=>?_,bF,<-vw (vs:=vs) (λw o=>h w<|xAs _ o) λS2 p i=>hk S2 p<|k1.trans i]
def yc(xs:B')(J:10<=fw)(hk:∀S,K (.bl true) S):(Gd fw<|d+80).call 58 [.kl<|xs.map .int] S x K:=by
 let⟨n,X⟩:=Int.eq_ofNat_of_zero_le (xBa (cl xs 0)<|show(4:Int)≠0 by decide);have R:=xBb (cl xs 0) (show(0:Int)<4 by decide);let⟨ws,Q,F,hN,W⟩:=zBk (c:=cl xs 0 / 100) (n:=3+n) ();let⟨P,ok,dr⟩:=sw xs Q F hN;have g:=yY ok.wf λ_ z=>nomatch z;have G:P.t.tx.length<=big:=by
  have:=g.lg;have:=ok.le;show _<=1000000;lia
 have Y:big=1000000:=rfl;have hd:=g.dp;let⟨y,O,Z⟩:=e8 (sc:=ws) (i:=0) ⟨∅,()⟩;have ly:=em<|hN y O;let⟨k,pl,r,fs,C,e1,e2,e3,e4⟩:=wI g.fm;rw[g.u] at C;erw[cd (d:=d+79) ⟨1,8,t58⟩,eU (d:=d+78) (k:=0) ∅];generalize hc0:cl xs 0=c0 at *;erw[pd (fb ∅),pd (cX ∅)];rw[X];erw[pd (v:=.int ((3+n:Nat):Int)) (S':=S) (by show Res.ok (.int<|(3:Int)+n) S=_;congr 2),<-W (d:=d+77) λS1 k1=>?_,pv (.lst []),<-dr (d:=d+19) λS2 k2=>?_];rw[<- g.u];refine kr (d:=d+79) g.fm G () λS3 k3=>?_;rw[g.u];erw[<-jI (d:=d+19) ok g λS4 k4=>?_,pv (.bl true),bF,pd (v:=.bl false) (S':=S4) (by have:=fC (S:=S4) (w:=P.t.tx) (u:=P.t.tx);rw[xBd rfl] at this;exact this),bF,pd (dA ()),pd (v:=.bl<|decide<|(P.t.tx.length:Int)<=600) (S':=S4) rfl];have p:∀{S5:So}{a6:B1 U},(sQ (sF (J4 .seq<|cP (.lst false)<|aC (Js (J2 "name") (J8 J6 Ji)<|J8 J7 Jh)<|aC (J1 (.add false) J6<|Y5<|J8 J6 Ji)<|Jt (J4 (.lstOf false) J6) Ja (cC .non) Y3<|cT aN) [7] true zHs)<|J5<|cB<|Jd (Jb 18 J6) Ja) (Gd fw<|d+79) [some<|.kl<|xs.map .int,some<|.int c0,some<|scU ws,some P.u,some<|stU P.t.tx,some<|stU P.t.tx,a6,none] S5<|zAk x K:=λ{S5 a6}=>by
  rw[C];erw[pd eK,pd Z,pd eK,pd (v:=.tup<|.str k::.int pl::(r++[.int pl])) (S':=S5) (by show fits _ _=_;exact zBd (by show(r.length+1+1)+1<=2^24;lia)),pv (.lst<|.str k::.int pl::r),pv (.lst [.tup [.str "name",.int pl,.str y],.tup<|.str k::.int pl::(r++[.int pl]),.lst<|.str k::.int pl::r,stU P.t.tx,.non,.int 5,.tup []]),pv (.tup [.tup [.str "name",.int pl,.str y],.tup<|.str k::.int pl::(r++[.int pl]),.lst<|.str k::.int pl::r,stU P.t.tx,.non,.int 5,.tup []]),<-vw (d:=d+19) (λv I=>?_) λS6 a7 H=>?_]
  .simp only[xAv,xBv,or_false] at I;rcases I with rfl|rfl|rfl|rfl|rfl|rfl|rfl
   .exact tz (ok.rg _<|zq C) ()
   .exact iu (vj (k:=k) (b:=.int pl) (r:=r++[.int pl]) (fs:=fs) (by simp;lia) () rfl e1<|by simp;lia)
   .exact iu<|lS rfl rfl
   .exact iu<|vh G
   .exact iu<|lS rfl rfl
   .exact iu<|lS rfl rfl
   .exact iu (oR ⋯)
  .rw[<- C];erw[<-jI (d:=d+19) ok g λS7 k7=>?_,pd (v:=.bl true) (S':=S7) (by have:=jb (S:=S7) (w:=P.t.tx) (u:=P.t.tx);rw[xBd rfl] at this;exact this),<-hk S7]
 by_cases hl:P.t.tx.length<=600
 .rw[xBd ()];erw[bT];rw[<- g.u];refine qZ (d:=d+79) (o:=0) g.fm G () λS5 k5=>?_;let⟨z,M⟩:=zf g.fm g.cl hl ();rw[g.u];erw[<-vS (d:=d+8) ok g J (λ_ S6 H=>?_) λh=>absurd hl (),pd (M S6),pd (M S6),pd (v:=.bl false) (S':=S6) (by show Res.ok (.bl (!decide (z=z))) S6=_;rw[xBd rfl];rfl),bF];exact p
 .rw[xCn ()];erw[bF,<-vS (d:=d+8) ok g J (λh=>absurd h hl) λ_ S6 H=>?_,pd (v:=stU<|dg 600) (S':=S6) (by show(match decide ((600:Int).natAbs.log2<1920) with|true=>Res.ok (.str<|PySem.Str.ofString<|toString (600:Int)) S6|false=>.stuck)=_;rw[xBd<|Row.log_small ∅];rfl),pd (v:=stU<|dg 600) (S':=S6) (by show(match decide ((600:Int).natAbs.log2<1920) with|true=>Res.ok (.str<|PySem.Str.ofString<|toString (600:Int)) S6|false=>.stuck)=_;rw[xBd<|Row.log_small ∅];rfl),pd (v:=.bl false) (S':=S6) (by have:=fC (S:=S6) (w:=dg 600) (u:=dg 600);rw[xBd rfl] at this;exact this),bF,<-p]
def math:∀ns:B',ns.length<=63->(zA2 ups tab 1000000<|80+1).call 58 [.kl<|ns.map U.int] [] (λ_ _=>False) (λv _=>v=.bl true):=λns g=>by
 have:=yc ns (fw:=1000000) (d:=1) (S:=[]) (x:=λ_ _=>False) (K:=λv _=>v=.bl true) ∅ λ_=>rfl;rw[iQ] at this;exact this
end
def walk{l:PySem.W.OpenLaw}{q:Program}{i:B7}{XP:(Str->B1 B2)->Heap->Prop}{YP:World->Heap->Prop}{d:DefRec}{K:Params->xFr}(C:l.most=some 63)(o:d.params.defaults=[])(H:∀(w:World)(h:Heap),YP w h->(K w.params).In h)(F:∀(w:World)(mg:Str->B1 B2)(fa:B5)(h:Heap),(K w.params).In h->h.Ns mainGlobals mg->mg d.name=some (.ref fa) ->
   ∃p:FuncData,(∀(s:B3)(u:B2),BindsTo s p ⟨[u],[]⟩ [("_law_script",u)])/\∀g:Heap,(K w.params).In g->g.Ns mainGlobals mg->zA5 l.prog w (K w.params) mg g (CXo l.prog w) (2*(80+1)+1) fa p ["_law_script"] (zDk (K w.params) 63)) :
  PySem.W.WalkO q i XP YP l.row.toRowW d [] (λf vs=>PySem.call f vs):=
 L2.walk_of (n:=63) (k:=2*(80+1)+1) (x:="_law_script") (CX:=λw=>CXo l.prog w) (sp:=λw=>zDk (K w.params) 63) C ∅ o ⟨rfl,∅,∅,rfl⟩ H F (λ_ _ a ns G _ I=>⟨a,ns,rfl,G,I,λ_=>rfl⟩) λ_ _ _ _ _ ⟨_,_,_,_,_,_,_,_,_,_,_,_,_,z⟩=>z
end K02
end
namespace PySem.W.Fast
noncomputable abbrev tw6760384358117306129:PySem.Program:=PySem.Challenge.pw_spacewright_k02_programs_written
theorem te6760384358117306129:PySem.Challenge.pw_spacewright_k02_programs_written=tw6760384358117306129:=rfl
theorem te13052408679150730464:True:=⟨⟩
theorem te2469009164876924479:True:=⟨⟩
theorem te16555476440528808052:True:=⟨⟩
theorem te4868988410673395695:True:=⟨⟩
theorem te5452508617037859911:True:=⟨⟩
end PySem.W.Fast
open Fx in
set_option maxHeartbeats 0 in
open PySem PySem.W PyProof.Rows in
theorem PySem.Challenge.cw_spacewright_k02_programs_written_holds : PySem.Challenge.rw_spacewright_k02_programs_written.Holds := by
  w_on;o_law;k_head;(case hw=>w_witness2);k_fill
  refine K02.walk (l := PySem.Challenge.rw_spacewright_k02_programs_written) rfl rfl (fun w h Y=>PySem.W.kIn_of Y) ?F;case F =>
    intro w mg fa h KX G hmg;refine' K02.all_mk KX G hmg (K02.csr ..) ?_ (K02.csr ..) ?_ ?_ ?_ ?_ ?_ ?_ ?_ ?_ (dnr ..) (dnr ..) (dnr ..) (dnr ..) (dnr ..) (dnr ..) (dnr ..) (dnr ..) (mdr ..) (mdr ..) (mdr ..) (mdr ..) (dnr ..) (dnr ..) (dnr ..) (dnr ..) (dnr ..) (dnr ..) (dnr ..) (dnr ..) (dnr ..) (dnr ..) (dnr ..) (mdr ..) (mdr ..) (mdr ..) (mdr ..) (mdr ..) (mdr ..) (mdr ..) (mdr ..) (mdr ..) (mdr ..) (mdr ..) (dnr ..) (dnr ..) (dnr ..) (dnr ..) (dnr ..) (dnr ..) (dnr ..) (dnr ..) (dnr ..) (dnr ..) (dnr ..) (dnr ..) (dnr ..) (dnr ..) (dnr ..) (dnr ..) (dnr ..) (dnr ..) (dnr ..) (dnr ..) (dnr ..) (dnr ..) (dnr ..) ?_ ⟨?_, ?_, ?_, ?_, ?_, ?_, ?_, ?_, ?_⟩ ?_ ?_ (K02.xdr ..) ?_ ⟨?_, ?_, ?_, ?_, ?_, ?_, ?_, ?_, ?_⟩ ?_ ?_ (K02.xdr ..) ?_ ?_ ?_ ?_ ?_ ?_ ?_ ?_ ?_ ?_ ?_ ?_ ?_ ?_ (K02.tup_is ?_ ?_ ?_) ?_ (K02.tup_is ?_ ?_ ?_) ?_ ?_ ?gkFORMS ?goFORMS ?_ ?_ (K02.tup_is ?_ ?_ ?_) ?_ (K02.tup_is ?_ ?_ ?_) ?_ (K02.tup_is ?_ ?_ ?_) ?_ (K02.tup_is ?_ ?_ ?_) ?_ (K02.tup_is ?_ ?_ ?_) ?_ (K02.tup_is ?_ ?_ ?_) ?_ (K02.tup_is ?_ ?_ ?_) ?_ (K02.tup_is ?_ ?_ ?_) ?_ (K02.tup_is ?_ ?_ ?_) ?_ (K02.tup_is ?_ ?_ ?_) ?_ (K02.tup_is ?_ ?_ ?_) ?_ (K02.tup_is ?_ ?_ ?_) ?_ (K02.tup_is ?_ ?_ ?_) ?_ (K02.tup_is ?_ ?_ ?_) ?_ (K02.tup_is ?_ ?_ ?_) ?_ ?_ ?gkSCOPES ?goSCOPES ?_ ?_ (K02.tup_is ?_ ?_ ?_) ?_ (K02.tup_is ?_ ?_ ?_) ?_ (K02.tup_is ?_ ?_ ?_) ?_ (K02.tup_is ?_ ?_ ?_) ?_ ?_ ?_ K02.math;any_goals k_is
    (case gkFORMS=>exact ⟨⟨_,_,rfl,rfl⟩,⟨_,_,rfl,rfl⟩,⟨_,_,rfl,rfl⟩,⟨_,_,rfl,rfl⟩,⟨_,_,rfl,rfl⟩,⟨_,_,rfl,rfl⟩,⟨_,_,rfl,rfl⟩,⟨_,_,rfl,rfl⟩,⟨_,_,rfl,rfl⟩,⟨_,_,rfl,rfl⟩,⟨_,_,rfl,rfl⟩,⟨_,_,rfl,rfl⟩,⟨_,_,rfl,rfl⟩,⟨_,_,rfl,rfl⟩,⟨_,_,rfl,rfl⟩,True.intro⟩)
    (case goFORMS=>rfl)
    (case gkSCOPES=>exact ⟨⟨_,_,rfl,rfl⟩,⟨_,_,rfl,rfl⟩,⟨_,_,rfl,rfl⟩,⟨_,_,rfl,rfl⟩,True.intro⟩)
    (case goSCOPES=>rfl)
    all_goals first | kernel_rfl | decide | (repeat' first | exact .nil | refine .cons ⟨_, rfl⟩ ?_)
