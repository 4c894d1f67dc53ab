import PyProof.Rows.All
import Wide.All
import OpenK.AllK
import Wide.FinOn
import Lean
import PyProof.EqAt
import PyProof.EqKinds
import PyProof.TupleCall
import PyProof.NeKinds
import KE.KTryMore
import PyProof.NsDelKeeps
import PySem.SetTable
import PyProof.StrLawsChain
import PyProof.StrBlockL
import KE.KIntText
import PyProof.DictTable
import PyProof.SliceStr2
import PyProof.MeetsStr
import PyProof.StrWalks
import PyProof.TupleKey
import PyProof.SetKind
import PyProof.Rows.SetFrom
import PyProof.ZipIter
import PyProof.Rows.ZipGen
import PyProof.LayNew
import PyProof.ExcInit
import PyProof.ExcClass3
import PyProof.EnumFor
import PyProof.EnumMake
import PyProof.EnumStmt
import PyProof.Rows.StrNews
import KE.KDictSum
import KE.KSortTup
import PyProof.DictWalks
import PyProof.DictRoadsH
import PyProof.DictKeyH
import PyProof.AutoSeq1
import PySem.Challenge.RW_chalkline_k57_no_sum
set_option Elab.async false
set_option linter.all false
set_option compiler.extract_closed false
set_option maxRecDepth 100000
set_option maxHeartbeats 1000000
section
open PySem PyProof.Rows
abbrev xFg:=PySem.W.Frag
abbrev xaa:=@wpAny_bind
abbrev xab:=@decide_eq_true
abbrev xad:=@Heap.get?_push_of_some
abbrev xae:=@decide_eq_false
abbrev xaf:=@Nat.le_refl
abbrev xag:=@absurd
abbrev xah:=@List.getElem?_eq_some_iff
abbrev xai:=@List.getElem?_set_ne
abbrev xaj:=@of_decide_eq_true
abbrev xak:=@List.length_append
abbrev xal:=@List.mem_cons
abbrev xam:=@Heap.lt_size
abbrev xan:=@List.length_cons
abbrev xao:=@if_neg
abbrev xap:=@Nat.lt_of_lt_of_le
abbrev xaq:=@List.countP_append
abbrev xar:=@List.mem_cons_of_mem
abbrev xas:=@List.size_toArray
abbrev xat:=@List.length_map
abbrev xau:=@if_pos
abbrev xav:=@Nat.le_trans
abbrev xaw:=@wpAny_pure
abbrev xax:=@Bool.and_eq_true
abbrev xay:=@PySem.W.mg_of
abbrev xaz:=@Heap.get?_push_size
abbrev xa0:=@List.replicate_succ
abbrev xa1:=@Bool.false_ne_true
abbrev xa2:=@List.not_mem_nil
abbrev xa3:=@List.getElem?_set_self
abbrev xa4:=@List.mem_cons_self
abbrev xa5:=@List.append_assoc
abbrev xa6:=@Ne.symm
abbrev xa7:=@Nat.ne_of_lt
abbrev xa8:=@List.countP_cons
abbrev xa9:=@PySem.W.mg_none_of
abbrev xba:=@Option.some.inj
abbrev xbb:=@List.length_replicate
abbrev xbc:=@Bool.eq_iff_iff
abbrev xbd:=@List.getElem?_eq_getElem
abbrev xbe:=@List.mem_append_right
abbrev xbf:=@List.map_append
abbrev xbg:=@List.all_eq_true
abbrev xbh:=@List.append_nil
abbrev xbi:=@List.length_take
abbrev xbj:=@List.length_drop
abbrev xbk:=@Int.toNat_natCast
abbrev xbl:=@List.map_cons
abbrev xbm:=@List.exists_cons_of_ne_nil
abbrev xbn:=@List.mem_append
abbrev xbo:=@List.getElem?_append_left
abbrev xbp:=@List.getElem?_map
abbrev xbq:=@List.cons_append
abbrev xbr:=@Heap.get?_update_other
abbrev xbs:=@List.length_nil
abbrev xbt:=@List.dropLast_concat
abbrev xbu:=@List.flatten_cons
abbrev xbv:=@Array.length_toList
abbrev xbw:=@Nat.lt_irrefl
abbrev xbx:=@Array.getElem?_eq_some_iff
abbrev xby:=@List.getElem_mem
abbrev xbz:=@Nat.zero_le
abbrev xb0:=@List.length_eq_zero_iff
abbrev xb1:=@List.takeWhile_cons
abbrev xb2:=@List.lookup_cons
abbrev xb3:=@List.mem_map
abbrev xb4:=@List.forIn_cons
abbrev xb5:=@List.eq_nil_or_concat
abbrev xb6:=@List.concat_eq_append
abbrev xb7:=@Nat.min_eq_left
abbrev xb8:=@List.getElem?_append_right
abbrev xb9:=@Classical.byContradiction
abbrev xca:=@Option.isSome_iff_exists
abbrev xcb:=@Array.toList_inj
abbrev xcc:=@Nat.zero_add
abbrev xcd:=@List.eq_of_mem_replicate
abbrev xcf:=@List.length_pos_iff
abbrev xcg:=@List.getElem?_replicate
abbrev xch:=@Int.emod_lt_of_pos
abbrev xci:=@List.mem_singleton
abbrev xcj:=@List.reverse_replicate
abbrev xck:=@Nat.ne_of_gt
abbrev xcl:=@Heap.size_push
abbrev xcm:=@List.map_map
abbrev xcn:=@List.mem_of_getElem?
abbrev xco:=@Nat.le_add_right
abbrev xcp:=@Nat.length_toDigits_le_iff
abbrev xcq:=@List.filterMap_cons
abbrev xcr:=@List.reverse_append
abbrev xcs:=@List.dropWhile_cons
abbrev xct:=@List.nodup_cons
abbrev xcu:=@List.drop_eq_getElem_cons
abbrev xcv:=@Int.emod_nonneg
abbrev xcw:=@List.getLast?_eq_some_iff
abbrev xcx:=@Nat.le_of_lt
abbrev xcy:=@Nat.lt_of_le_of_lt
abbrev xcz:=@List.mem_range
abbrev xc0:=@Heap.get?_push_at
abbrev xc1:=@List.foldl_append
abbrev xc2:=@Nat.le_of_not_lt
abbrev xc3:=@Option.bind_some
abbrev xc4:=@List.drop_append
abbrev xc5:=@List.drop_length
abbrev xc6:=@Heap.get?_update_self
abbrev xc7:=@List.foldl_cons
abbrev xc8:=@List.nil_append
abbrev xc9:=@Bool.or_eq_true
abbrev xda:=@List.replicate_succ'
abbrev xdb:=@List.getElem?_range
abbrev xdc:=@Bool.false_and
abbrev xdd:=@Bool.and_false
abbrev xde:=@List.drop_zero
end
open PySem
section
namespace L2
open PySem.Spec PyProof.Rows
abbrev Key:=Sum Int Str
def AV:Key->Value->Bool
 |.inl k,v=>Value.isInt k v
 |.inr x,v=>Value.isStrOf x v
def PX(w:World):Key->Int
 |.inl k=>hashInt k
 |.inr x=>hashStr w x
theorem jV:∀{k:Key} {v:Value},AV k v=true->(∃i t,k=Sum.inl i/\v=Value.int i t)\/(∃x t,k=Sum.inr x/\v=Value.str x t)
 |.inl i,v,h=>by
  obtain⟨t,e⟩:=Value.isInt_shape (k:=i) (v:=v) h
  exact .inl ⟨i,t,rfl,e⟩
 |.inr x,v,h=>by
  obtain⟨t,e⟩:=Value.isStrOf_shape (x:=x) (v:=v) h
  exact .inr ⟨x,t,rfl,e⟩
theorem PY(a b:Int):decide ((Sum.inl a:Key)=Sum.inl b)=(a==b):=by
 by_cases e:a=b
 ·subst e;simp
 ·have h:¬(Sum.inl a:Key)=Sum.inl b:=fun q=>e (Sum.inl.inj q)
  rw[xae h]
  exact(beq_eq_false_iff_ne.mpr e).symm
theorem PZ(a b:Str):decide ((Sum.inr a:Key)=Sum.inr b)=decide (a=b):=by
 by_cases e:a=b
 ·subst e;simp
 ·have h:¬(Sum.inr a:Key)=Sum.inr b:=fun q=>e (Sum.inr.inj q)
  rw[xae h,xae e]
theorem P0(a:Int)(b:Str):decide ((Sum.inl a:Key)=Sum.inr b)=false:=xae (fun q=>nomatch q)
theorem P1(a:Str)(b:Int):decide ((Sum.inr a:Key)=Sum.inl b)=false:=xae (fun q=>nomatch q)
def AW(prog:Program)(w:World):PySem.KeyKind prog w Key where
 is:=AV
 hash:=PX w
 inj:=fun v a b ha hb=>by
  rcases jV ha with⟨i,t,rfl,rfl⟩|⟨x,t,rfl,rfl⟩
  ·rcases jV hb with⟨j,u,rfl,e⟩|⟨y,u,rfl,e⟩
   ·injection e with e1 _;rw[e1]
   ·exact nomatch e
  ·rcases jV hb with⟨j,u,rfl,e⟩|⟨y,u,rfl,e⟩
   ·exact nomatch e
   ·injection e with e1 _;rw[e1]
 byValue:=fun k v h=>by
  rcases jV h with⟨i,t,rfl,rfl⟩|⟨x,t,rfl,rfl⟩<;>rfl
 pyHash:=fun hv h=>by
  rcases jV hv with⟨i,t,rfl,rfl⟩|⟨x,t,rfl,rfl⟩
  ·exact wpAny_pyHash_int h
  ·exact wpAny_pyHash_str h
 eqBool:=fun hu hv h=>by
  rcases jV hu with⟨i,t,rfl,rfl⟩|⟨x,t,rfl,rfl⟩
  ·rcases jV hv with⟨j,u,rfl,rfl⟩|⟨y,u,rfl,rfl⟩
   ·rw[PY] at h;exact wpAny_eqBool_int h
   ·rw[P0] at h;exact SeqAt.EqAt.int_str i t y u _ _ _ _ h
  ·rcases jV hv with⟨j,u,rfl,rfl⟩|⟨y,u,rfl,rfl⟩
   ·rw[P1] at h;exact SeqAt.EqAt.str_int x t j u _ _ _ _ h
   ·rw[PZ] at h;exact wpAny_eqBool_str h
 «strs»:=fun k x t v h=>by
  rcases jV h with⟨i,u,rfl,e⟩|⟨y,u,rfl,e⟩
  ·exact nomatch e
  ·injection e with e1 _
   subst e1
   cases v<;>rfl
end L2
namespace L2
open PySem.Spec PyProof.Rows
inductive V where
 |non|bl (b:Bool)|int (i:Int)|str (x:Str)|byt (b:Array UInt8)|flt (b:UInt64)|ref (a:Addr)|ty (n:String)
 deriving DecidableEq
def aR:V->Value->Prop
 |.non,u=>u=Value.none
 |.bl b,u=>u=Value.bool b
 |.int i,u=>∃t,u=Value.int i t
 |.str x,u=>∃t,u=Value.str x t
 |.byt b,u=>∃t,u=Value.bytes b t
 |.flt b,u=>∃t,u=Value.float b t
 |.ref a,u=>u=Value.ref a
 |.ty n,u=>u=Value.type n
abbrev aX:List V->List Value->Prop:=Paired aR
theorem aX.length{xs:List V}{us:List Value}(r:aX xs us):xs.length=us.length:=Paired.length r
theorem aX.get:∀{xs:List V} {us:List Value} {i:Nat} {x:V},aX xs us->xs[i]? = some x->∃u,us[i]? = some u/\aR x u
 |_,_,_,_,.nil,e=>by simp at e
 |_,_,0,_,.cons r _,e=>by simp at e;subst e;exact⟨_,rfl,r⟩
 |_,_,i+1,x,.cons _ t,e=>by
  obtain⟨u,h1,h2⟩:=aX.get (i:=i) (x:=x) t (by simpa using e)
  exact⟨u,by simpa using h1,h2⟩
theorem aX.append:∀{xs ys:List V} {us ws:List Value},aX xs us->aX ys ws->aX (xs++ys) (us++ws)
 |_,_,_,_,.nil,s=>s
 |_,_,_,_,.cons r t,s=>.cons r (aX.append t s)
theorem aX.take:∀{xs:List V} {us:List Value} (n:Nat),aX xs us->aX (xs.take n) (us.take n)
 |_,_,0,_=>.nil
 |_,_,_+1,.nil=>.nil
 |_,_,n+1,.cons r t=>.cons r (aX.take n t)
theorem aX.drop:∀{xs:List V} {us:List Value} (n:Nat),aX xs us->aX (xs.drop n) (us.drop n)
 |_,_,0,r=>r
 |_,_,_+1,.nil=>.nil
 |_,_,n+1,.cons _ t=>aX.drop n t
def AX:Option V->Option Value->Prop
 |some v,some u=>aR v u
 |none,none=>True
 |_,_=>False
def KV{κ:Type}:List (κ×V)->List (κ×Value)->Prop:=Paired fun (p:κ×V) (q:κ×Value)=>p.1=q.1/\aR p.2 q.2
def kV:Key->V
 |.inl i=>.int i
 |.inr x=>.str x
inductive HO where
 |lst (xs:List V)
 |tup (xs:List V)
 |dK (kvs:List (Key×V))|dT (kvs:List (List Key×V))
 |set (S:Int->Bool) (n:Nat)
 |ins (C dx:Addr) (fs:List (Str×V))
 |own (x:Addr)
 |xd (fs:List (Str×V))
 |met (f x:Addr)
 |rng (lo hi:Int)
 |frz (o:Obj) (u:HO)
 |tbl (ps:Array Value)
 |ext (φ:Heap->Prop)
abbrev Hp:=Addr->Option HO
def aS(H:Hp)(a:Addr)(o:HO):Hp:=fun b=>if b=a then some o else H b
theorem cK{H:Hp}{a:Addr}{o:HO}:aS H a o a=some o:=by unfold aS;rw[xau rfl]
theorem bM{H:Hp}{a b:Addr}{o:HO}(h:b≠a):aS H a o b=H b:=by unfold aS;rw[xao h]
theorem cS{H:Hp}{a b:Addr}{o:HO}(h:H a=some o)(h':H b=none):a≠b:=by
 intro e;subst e;rw[h] at h';cases h'
def kJ(h:Heap)(a:Addr)(items:Array Value):Prop:=∃o,h.get? a=some o/\o.cls=.type "tuple"/\(∃n,o.data=.seq items n)/\o.dict=none
theorem kJ.tup{h:Heap}{a:Addr}{items:Array Value}(x:kJ h a items):IsTup h a items:=by
 obtain⟨o,e,c,d,_⟩:=x;exact⟨o,e,c,d⟩
theorem kJ.new(h:Heap)(items:Array Value):kJ (h.push { cls:=.type "tuple",data:=.seq items }) h.objs.size items:=⟨_,xaz h rfl,rfl,⟨0,rfl⟩,rfl⟩
section
variable(P:Program)(w:World)
def fQ(H:Hp)(h:Heap)(a:Addr):HO->Prop
 |.lst xs=>xs.length<=sizeLine/\∃(its:List Value) (n:Nat),aX xs its/\h.get? a=some { cls:=.type "list",data:=.seq its.toArray n }
 |.tup xs=>xs.length<=sizeLine/\∃its:List Value,aX xs its/\kJ h a its.toArray
 |.dK kvs=>kvs.length<=sizeLine/\(a==sysModules)=false/\∃vs,KV kvs vs/\h.DictOf (AW P w) a vs
 |.dT kvs=>kvs.length<=sizeLine/\(a==sysModules)=false/\∃xs:List (List Key×Addr×Value),
   Paired (fun (p:List Key×V) (q:List Key×Addr×Value)=>p.1=q.1/\H q.2.1=some (.tup (p.1.map kV))/\aR p.2 q.2.2) kvs xs/\
   ∃o es ep,h.get? a=some o/\o.ExactDict/\o.data=.dict es ep/\es.toList=xs.map (entryOfKey (tupleKind (AW P w)))/\(xs.map (·.1)).Nodup
 |.set S n=>h.SetOf (intKind P w) a S n
 |.ins C dx fs=>H dx=some (.own a)/\fs.length<=1000/\dx≠a/\h.get? a=some (PySem.W.instObj C dx)/\
   ∃mA,h.Ns1 dx mA/\(∀f,AX (fs.lookup f) (mA f))/\PySem.Within mA (fs.map (·.1))
 |.own _=>∃o,h.get? a=some o
 |.xd fs=>∃mA,h.Ns1 a mA/\∀f,AX (fs.lookup f) (mA f)
 |.rng lo hi=>∃t u v,h.get? a=some { cls:=.type "range",data:=.fields #[.int lo t,.int hi u,.int 1 v] }
 |.frz o u=>h.get? a=some o/\fQ H h a u
 |.tbl ps=>h.get? a=some { cls:=.none,data:=.fields ps }
 |.met f x=>h.get? a=some (PySem.W.methodObj (.ref f) (.ref x))
 |.ext φ=>φ h/\(∃o,h.get? a=some o)/\∀h1 h2:Heap,φ h1->(∀o,h1.get? a=some o->h2.get? a=some o)->φ h2
def cY(H:Hp)(h:Heap):Prop:=∀a o,H a=some o->fQ P w H h a o
end
section
variable{P:Program}{w:World}{H H':Hp}{h h':Heap}{a:Addr}{o:HO}
theorem fQ.lt(x:fQ P w H h a o):a<h.objs.size:=by
 cases o with
 |lst xs=>obtain⟨_,_,_,_,e⟩:=x;exact xam e
 |tup xs=>obtain⟨_,_,_,p⟩:=x;exact p.tup.lt
 |dK kvs=>obtain⟨_,_,_,_,o,_,_,e,_⟩:=x;exact xam e
 |dT kvs=>obtain⟨_,_,_,_,o,_,_,e,_⟩:=x;exact xam e
 |set S n=>obtain⟨o,_,_,_,e,_⟩:=x;exact xam e
 |ins C dx fs=>obtain⟨_,_,_,e,_⟩:=x;exact xam e
 |own y=>obtain⟨_,e⟩:=x;exact xam e
 |xd fs=>obtain⟨_,⟨_,_,_,e,_⟩,_⟩:=x;exact xam e
 |rng lo hi=>obtain⟨_,_,_,e⟩:=x;exact xam e
 |frz ob u=>obtain⟨e,_⟩:=x;exact xam e
 |tbl ps=>exact xam (show h.get? a=some _ from x)
 |met f y=>exact xam (show h.get? a=some _ from x)
 |ext φ=>obtain⟨_,⟨_,e⟩,_⟩:=x;exact xam e
theorem Paired.mapP{α β:Type}{F G:α->β->Prop}:∀{l₁:List α} {l₂:List β},Paired F l₁ l₂->(∀a b,F a b->G a b)->Paired G l₁ l₂
 |_,_,.nil,_=>.nil
 |_,_,.cons r t,f=>.cons (f _ _ r) (Paired.mapP t f)
theorem fQ.stay(x:fQ P w H h a o)(k:∀b u,(b=a\/H b=some (.own a))->h.get? b=some u->h'.get? b=some u)
  (ho:∀b,H b=some (.own a)->H' b=some (.own a)) (ht:∀b xs,H b=some (.tup xs)->H' b=some (.tup xs)):fQ P w H' h' a o:=by
 induction o with
 |lst xs=>obtain⟨z,its,n,r,e⟩:=x;exact⟨z,its,n,r,k _ _ (.inl rfl) e⟩
 |tup xs=>obtain⟨z,its,r,ob,e,c⟩:=x;exact⟨z,its,r,ob,k _ _ (.inl rfl) e,c⟩
 |dK kvs=>obtain⟨z,y,vs,r,ob,es,ep,e,c⟩:=x;exact⟨z,y,vs,r,ob,es,ep,k _ _ (.inl rfl) e,c⟩
 |dT kvs=>
  obtain⟨z,y,xs,r,ob,es,ep,e,c⟩:=x
  exact⟨z,y,xs,Paired.mapP r fun p q z=>⟨z.1,ht _ _ z.2.1,z.2.2⟩,ob,es,ep,k _ _ (.inl rfl) e,c⟩
 |set S n=>obtain⟨ob,es,ep,t,e,c⟩:=x;exact⟨ob,es,ep,t,k _ _ (.inl rfl) e,c⟩
 |ins C dx fs=>
  obtain⟨d,z,ne,e,mA,⟨od,es,ep,e2,c⟩,r⟩:=x
  exact⟨ho _ d,z,ne,k _ _ (.inl rfl) e,mA,⟨od,es,ep,k _ _ (.inr d) e2,c⟩,r⟩
 |own y=>obtain⟨ob,e⟩:=x;exact⟨ob,k _ _ (.inl rfl) e⟩
 |xd fs=>obtain⟨mA,⟨od,es,ep,e,c⟩,r⟩:=x;exact⟨mA,⟨od,es,ep,k _ _ (.inl rfl) e,c⟩,r⟩
 |rng lo hi=>obtain⟨t,u,v,e⟩:=x;exact⟨t,u,v,k _ _ (.inl rfl) e⟩
 |frz ob u ih=>obtain⟨e,q⟩:=x;exact⟨k _ _ (.inl rfl) e,ih q⟩
 |tbl ps=>
  have e:h.get? a=some { cls:=.none,data:=.fields ps }:=x
  show h'.get? a=some { cls:=.none,data:=.fields ps }
  exact k a _ (.inl rfl) e
 |met f y=>
  have e:h.get? a=some (PySem.W.methodObj (.ref f) (.ref y)):=x
  show h'.get? a=some (PySem.W.methodObj (.ref f) (.ref y))
  exact k a _ (.inl rfl) e
 |ext φ=>obtain⟨p,⟨o,e⟩,st⟩:=x;exact⟨st _ _ p fun o q=>k _ _ (.inl rfl) q,⟨o,k _ _ (.inl rfl) e⟩,st⟩
theorem cY.lt(x:cY P w H h)(e:H a=some o):a<h.objs.size:=(x a o e).lt
theorem cY.fresh(x:cY P w H h)(e:h.objs.size<=a):H a=none:=by
 cases q:H a with
 |none=>rfl
 |some u=>exact xag (xap (x.lt q) e) (xbw _)
theorem cY.kept(x:cY P w H h)(k:∀b u,h.get? b=some u->h'.get? b=some u):cY P w H h':=fun a o e=>
 (x a o e).stay (fun b u _ q=>k b u q) (fun _ q=>q) fun _ _ q=>q
theorem cY.laid(x:cY P w H h)(k:∀b u,h.get? b=some u->h'.get? b=some u)(hp:h.objs.size<=a)(new:fQ P w (aS H a o) h' a o):cY P w (aS H a o) h':=fun b u e=>by
 have hn:=x.fresh hp
 by_cases hb:b=a
 ·subst hb;rw[cK] at e;cases e;exact new
 ·rw[bM hb] at e
  exact(x b u e).stay (fun c v _ q=>k c v q) (fun c q=>by rw[bM (cS q hn)];exact q) fun c xs q=>by rw[bM (cS q hn)];exact q
end
def Rd(H:Hp)(a:Addr)(u:HO):Prop:=H a=some u\/∃o,H a=some (.frz o u)
theorem Rd.ok{P:Program}{w:World}{H:Hp}{h:Heap}{a:Addr}{u:HO}(r:Rd H a u)(x:cY P w H h):fQ P w H h a u:=by
 rcases r with r|⟨o,r⟩
 ·exact x a u r
 ·obtain⟨_,q⟩:=x a _ r
  exact q
def rM:Option HO->Prop
 |some (.lst _)=>True
 |some (.dK _)=>True
 |some (.dT _)=>True
 |some (.set _ _)=>True
 |some (.ins _ _ _)=>True
 |some (.ext _)=>True
 |_=>False
section
variable{P:Program}{w:World}{H:Hp}{h h':Heap}{x e:Addr}{o':HO}
theorem cY.write(ok:cY P w H h)(mu:rM (H x))(he:e=x\/H e=some (.own x))(k:∀b u,b≠e->h.get? b=some u->h'.get? b=some u)(heo:∃u,h'.get? e=some u)
  (new:fQ P w (aS H x o') h' x o'):cY P w (aS H x o') h':=fun b u q=>by
 have nown:∀c y,H c=some (.own y)->c≠x:=fun c y r z=>by subst z;rw[r] at mu;exact mu
 have ntup:∀c xs,H c=some (.tup xs)->c≠x:=fun c xs r z=>by subst z;rw[r] at mu;exact mu
 by_cases hb:b=x
 ·subst hb;rw[cK] at q;cases q;exact new
 ·rw[bM hb] at q
  by_cases hbe:b=e
  ·have q':H b=some (.own x):=by
    rcases he with z|z
    ·exact xag (hbe.trans z) hb
    ·rw[hbe];exact z
   rw[q] at q';cases q'
   obtain⟨v,hv⟩:=heo
   exact⟨v,by rw[hbe];exact hv⟩
  ·refine(ok b u q).stay (fun c v hc r=>k c v ?_ r) (fun c r=>by rw[bM (nown c b r)];exact r) fun c xs r=>by rw[bM (ntup c xs r)];exact r
   rcases hc with rfl|hc
   ·exact hbe
   ·rintro rfl
    rcases he with z|z
    ·exact nown c b hc z
    ·rw[hc] at z;cases z;exact hb rfl
end
structure Un(fs ex:List Addr)(H H':Hp)(h h':Heap):Prop where
 keep:∀b o,h.get? b=some o->H b=none->b∉fs->b∉ex->h'.get? b=some o
 slot:∀b o,h.get? b=some o->H b=none->b∈fs->b∉ex->∃sl,h'.get? b=some { o with slots:=sl }
 free:∀b o,h.get? b=some o->H b=none->b∉ex->H' b=none
 there:∀b o,h.get? b=some o->b∉ex->∃o',h'.get? b=some o'
 tups:∀b xs,H b=some (.tup xs)->H' b=some (.tup xs)
 frzs:∀b o u,H b=some (.frz o u)->H' b=some (.frz o u)
 tbls:∀b ps,H b=some (.tbl ps)->∃more,H' b=some (.tbl (ps++more))
section
variable{fs fs' ex ex':List Addr}{H H1 H2:Hp}{h h1 h2 h':Heap}{a x e:Addr}{o:HO}
theorem Un.any(u:Un fs ex H H1 h h1){b:Addr}{ob:Obj}(q:h.get? b=some ob)(n:H b=none)(hx:b∉ex):∃sl,h1.get? b=some { ob with slots:=sl }:=by
 by_cases hb:b∈fs
 ·exact u.slot b ob q n hb hx
 ·exact⟨ob.slots,u.keep b ob q n hb hx⟩
theorem Un.kept(k:∀b u,h.get? b=some u->h'.get? b=some u):Un fs ex H H h h':=
 ⟨fun b ob q _ _ _=>k b ob q,fun b ob q _ _ _=>⟨ob.slots,k b ob q⟩,fun _ _ _ n _=>n,fun b ob q _=>⟨ob,k b ob q⟩,fun _ _ q=>q,fun _ _ _ q=>q,fun _ ps q=>⟨#[],by rw[q];simp⟩⟩
theorem Un.refl:Un fs ex H H h h:=Un.kept fun _ _ q=>q
theorem Un.laid(k:∀b u,h.get? b=some u->h'.get? b=some u)(hp:h.objs.size<=a)(hn:H a=none):Un fs ex H (aS H a o) h h' where
 keep:=fun b u q _ _ _=>k b u q
 slot:=fun b u q _ _ _=>⟨u.slots,k b u q⟩
 free:=fun b u q n _=>by rw[bM (xa7 (xap (xam q) hp))];exact n
 there:=fun b u q _=>⟨u,k b u q⟩
 tups:=fun b xs q=>by rw[bM (cS q hn)];exact q
 frzs:=fun b u xs q=>by rw[bM (cS q hn)];exact q
 tbls:=fun b ps q=>⟨#[],by rw[bM (cS q hn),q];simp⟩
theorem Un.write(mu:rM (H x))(he:e=x\/H e=some (.own x))(k:∀b u,b≠e->h.get? b=some u->h'.get? b=some u)(heo:∃u,h'.get? e=some u):Un fs ex H (aS H x o) h h':=by
 have hx:∀b,H b=none->b≠x:=fun b n z=>by subst z;rw[n] at mu;exact mu
 have hb:∀b,H b=none->b≠e:=fun b n z=>by
  subst z
  rcases he with r|r
  ·exact hx b n r
  ·rw[n] at r;cases r
 have hm:∀b u,H b=some u->¬rM (some u)->b≠x:=fun b u q nm z=>by subst z;rw[q] at mu;exact nm mu
 refine⟨fun b u q n _ _=>k b u (hb b n) q,fun b u q n _ _=>⟨u.slots,k b u (hb b n) q⟩,fun b u q n _=>by rw[bM (hx b n)];exact n,fun b u q _=>?_,
  fun b xs q=>by rw[bM (hm b _ q fun z=>z)];exact q,fun b u xs q=>by rw[bM (hm b _ q fun z=>z)];exact q,fun b ps q=>⟨#[],by rw[bM (hm b _ q fun z=>z),q];simp⟩⟩
 by_cases hbe:b=e
 ·subst hbe;exact heo
 ·exact⟨u,k b u hbe q⟩
end
def trk(h:Heap)(H:Hp):List Addr:=(List.range h.objs.size).filter fun a=>(H a).isSome
def jW(h:Heap)(H:Hp):Heap:=PySem.W.hideAll h (trk h H)
theorem P2(h:Heap)(H:Hp):(jW h H).objs.size=h.objs.size:=PySem.W.hideAll_size _ _
theorem P3{h:Heap}{H:Hp}{b:Addr}{o:Obj}(e:h.get? b=some o)(n:H b=none):(jW h H).get? b=some o:=
 PySem.W.hideAll_get _ e fun hm=>by
  have q:(H b).isSome=true:=(List.mem_filter.mp hm).2
  rw[n] at q;simp at q
theorem P4{h:Heap}{H:Hp}{b:Addr}{o:Obj}(e:(jW h H).get? b=some o):h.get? b=some o/\H b=none:=by
 have e':h.get? b=some o:=PySem.W.of_hideAll (trk h H) e
 refine⟨e',?_⟩
 cases q:H b with
 |none=>rfl
 |some x=>
  have hm:b∈trk h H:=List.mem_filter.mpr ⟨xcz.mpr (xam e'),by simp[q]⟩
  have z:(jW h H).get? b=none:=PySem.W.hideAll_none (trk h H) hm
  rw[z] at e;cases e
def P5(g h:Heap)(L:Addr):List (Addr×Obj):=(List.range h.objs.size).filterMap fun a=>if a=L\/(g.get? a).isSome=true then none else (h.get? a).map fun o=>(a,o)
def rest(g h:Heap)(L d:Addr):List (Addr×Obj):=(P5 g h L).filter fun p=>decide (p.1≠d)
end L2
namespace L2
open PySem.Spec PyProof.Rows
structure Mod(K:xFg)(mg:Str->Option Value)(base:Heap):Prop where
 kin:K.In base
 glob:base.Ns mainGlobals mg
 blt:∃mb,base.Ns builtinsNs mb/\∀x:Str,x≠"__name__"->mb x=bootBuiltins x
 nolimit:base.NoLimit
structure Cx where
 prog:Program
 w:World
 K:xFg
 mg:Str->Option Value
 base:Heap
 A:Around
 N:List Str
 s₀:Shared
 H₀:Hp
 env:Env
 outer:List Env
 stack:List Env
 ex:List Addr
 fn:Str->Bool
 calm:Bool
 pn:List (Addr×Obj)
 xe:Value->Shared->Prop
def cA(l:List Env):List Addr:=l.filterMap (·.frame)
abbrev Cx.fs(X:Cx):List Addr:=cA X.outer
def cT(sc:Scope)(x:Str):Prop:=sc.names.lookup x=some .local\/sc.names.lookup x=some .cell\/sc.names.lookup x=some .free
def iL(sc:Scope)(x:Str):Prop:=sc.names.lookup x=some .local\/sc.names.lookup x=some .cell
def AY(env:Env)(h:Heap)(m:Str->Option Value)(x:Str)(u:Value):Prop:=
 (env.kindOf x=some .local/\m x=some u)\/((env.kindOf x=some .cell\/env.kindOf x=some .free)/\∃c,env.cells.lookup x=some c/\h.IsCell c (some u))
structure Cx.Ok(X:Cx):Prop where
 mod:Mod X.K X.mg X.base
 kind:X.env.scope.kind=.function
 glob:X.env.globals=mainGlobals
 blt:X.env.builtins=builtinsNs
 above:X.s₀.heap.objs.size<=X.env.locals
 inj:∀x y c,X.env.cells.lookup x=some c->X.env.cells.lookup y=some c->x=y
 has:∀x,(X.env.kindOf x=some .cell\/X.env.kindOf x=some .free)->∃c,X.env.cells.lookup x=some c
 cab:∀x c,X.fn x=true->X.env.cells.lookup x=some c->X.s₀.heap.objs.size<=c
 hd:X.calm=true->X.A.handled=none
 frames:X.A.frames=some X.stack
 stk:X.stack=X.outer\/(X.stack=X.env::X.outer/\X.env.frame=some X.env.locals)
 exf:∀b∈X.ex,b≠X.env.locals/\∀x c,X.env.cells.lookup x=some c->c≠b
 bs:∀b o,X.base.get? b=some o->X.s₀.heap.get? b=some o/\X.H₀ b=none
 bsz:X.base.objs.size<=X.s₀.heap.objs.size
 noex:∀b o,X.base.get? b=some o->b∉X.ex
 exfs:∀b∈X.ex,b∉X.fs
 funs:X.s₀.heap.FunFrames X.base X.outer
 frf:∀b∈X.fs,X.H₀ b=none
structure aF(X:Cx)(pins:List (Addr×Obj))(O:List (Option V))(H:Hp)(s:Shared):Prop where
 ok:X.Ok
 os:s.os=X.s₀.os
 bare:AllBare s.gens
 base:Un X.fs X.ex X.H₀ H X.s₀.heap s.heap
 loc:∃m,s.heap.Ns X.env.locals m/\∀(i:Nat) (x:Str) (v:V),X.N[i]? = some x->O[i]? = some (some v)->cT X.env.scope x->∃u,aR v u/\AY X.env s.heap m x u
 cell:∀x c,X.env.cells.lookup x=some c->∃v,s.heap.IsCell c v
 free:H X.env.locals=none
 freeC:∀x c,X.env.cells.lookup x=some c->H c=none
 pin:∀p∈X.pn++pins,s.heap.get? p.1=some p.2/\H p.1=none/\p.1≠X.env.locals/\p.1∉X.fs/\∀v,p.2.data≠.cell v
 hok:cY X.prog X.w H s.heap
 len:O.length=X.N.length
section
variable{X:Cx}{pins:List (Addr×Obj)}{O:List (Option V)}{H H':Hp}{s:Shared}{h':Heap}
theorem Cx.Ok.nofr(ok:X.Ok){b:Addr}{o:Obj}(e:X.base.get? b=some o):b∉X.fs:=fun hb=>by
 have:=(ok.funs.mem hb).1
 rw[e] at this;cases this
theorem aF.bs(I:aF X pins O H s):∀b o,X.base.get? b=some o->s.heap.get? b=some o/\H b=none:=fun b o e=>
 ⟨I.base.keep b o (I.ok.bs b o e).1 (I.ok.bs b o e).2 (I.ok.nofr e) (I.ok.noex b o e),I.base.free b o (I.ok.bs b o e).1 (I.ok.bs b o e).2 (I.ok.noex b o e)⟩
theorem aF.bk(I:aF X pins O H s):∀b o,X.base.get? b=some o->s.heap.get? b=some o:=fun b o e=>(I.bs b o e).1
theorem aF.mod(I:aF X pins O H s):Mod X.K X.mg X.base:=I.ok.mod
theorem aF.kIn(I:aF X pins O H s):X.K.In s.heap:=I.ok.mod.kin.keeps I.bk
theorem aF.fr(I:aF X pins O H s):∃m,Fr X.base X.env.locals s.heap m:=
 let⟨m,hn,_⟩:=I.loc
 ⟨m,hn,I.bk,xav I.ok.bsz I.ok.above⟩
theorem aF.lt(I:aF X pins O H s):X.env.locals<s.heap.objs.size:=let⟨_,hn,_⟩:=I.loc;hn.lt
theorem aF.sz(I:aF X pins O H s):X.s₀.heap.objs.size<=s.heap.objs.size:=xav I.ok.above (xcx I.lt)
theorem aF.nofs(I:aF X pins O H s){a:Addr}(h:s.heap.objs.size<=a):a∉X.fs:=fun hb=>by
 obtain⟨_,o,ho,_⟩:=I.ok.funs.mem hb
 exact xag (xap (xam ho) (xav I.sz h)) (xbw _)
theorem aF.cne(I:aF X pins O H s):∀x c,X.env.cells.lookup x=some c->c≠X.env.locals:=fun x c e z=>by
 obtain⟨v,o,ho,hd⟩:=I.cell x c e
 obtain⟨m,⟨o',es,ep,ho',hd',_⟩,_⟩:=I.loc
 rw[z,ho'] at ho;cases ho;rw[hd'] at hd;cases hd
theorem aF.funs(I:aF X pins O H s):s.heap.FunFrames X.base X.outer:=by
 have all:∀(l:List Env),(∀b∈cA l,b∈X.fs)->X.s₀.heap.FunFrames X.base l->s.heap.FunFrames X.base l:=by
  intro l
  induction l with
  |nil=>intro _ _;trivial
  |cons env r ih=>
   intro hs hl
   obtain⟨hk,⟨L,o,hf,hn,ho,hd⟩,hr⟩:=hl
   have hL:L∈X.fs:=hs L (by unfold cA;rw[xcq,hf];exact xa4)
   obtain⟨sl,e⟩:=I.base.slot L o ho (I.ok.frf L hL) hL fun z=>I.ok.exfs L z hL
   exact⟨hk,⟨L,_,hf,hn,e,hd⟩,ih (fun b hb=>hs b (by unfold cA;rw[xcq,hf];exact xar _ hb)) hr⟩
 exact all X.outer (fun _ hb=>hb) I.ok.funs
theorem aF.stack(I:aF X pins O H s):s.heap.FunFrames X.base X.stack:=by
 rcases I.ok.stk with e|⟨e,hf⟩
 ·rw[e];exact I.funs
 ·rw[e]
  obtain⟨m,hn,_⟩:=I.loc
  refine .cons (by rw[I.ok.kind];decide) hf hn ?_ I.funs
  exact Heap.get?_none_of_le (xav I.ok.bsz I.ok.above)
theorem aF.stkSub(I:aF X pins O H s):∀b∈cA X.stack,b∈X.env.locals::X.fs:=fun b hb=>by
 rcases I.ok.stk with e|⟨e,hf⟩
 ·rw[e] at hb;exact xar _ hb
 ·rw[e] at hb
  unfold cA at hb
  rw[xcq,hf] at hb
  exact hb
theorem aF.stkFree(I:aF X pins O H s):∀b∈cA X.stack,H b=none:=fun b hb=>by
 rcases xal.mp (I.stkSub b hb) with e|hb
 ·rw[e];exact I.free
 ·obtain⟨_,o,ho,_⟩:=I.ok.funs.mem hb
  exact I.base.free b o ho (I.ok.frf b hb) fun z=>I.ok.exfs b z hb
theorem aF.step{g':Array GenState}{t':Nat}{d':Drawn}{ch:List Addr}(I:aF X pins O H s)
  (hch:∀b∈ch,(b∈X.ex\/X.s₀.heap.objs.size<=b)/\b≠X.env.locals/\(∀x c,X.env.cells.lookup x=some c->c≠b)/\∀p∈X.pn++pins,p.1≠b)
  (keep:∀b o,b≠X.env.locals->b∉X.fs->b∉ch->s.heap.get? b=some o->H b=none->h'.get? b=some o)
  (slot:∀b o,b≠X.env.locals->b∈X.fs->b∉ch->s.heap.get? b=some o->H b=none->∃sl,h'.get? b=some { o with slots:=sl }) (free:∀b o,b∉ch->s.heap.get? b=some o->H b=none->H' b=none)
  (there:∀b o,b∉ch->s.heap.get? b=some o->∃o',h'.get? b=some o')
  (tups:∀b xs,H b=some (.tup xs)->H' b=some (.tup xs)) (frzs:∀b o u,H b=some (.frz o u)->H' b=some (.frz o u)) (tbls:∀b ps,H b=some (.tbl ps)->∃more,H' b=some (.tbl (ps++more)))
  (ns:∀m,s.heap.Ns X.env.locals m->h'.Ns X.env.locals m) (hok:cY X.prog X.w H' h') (hg:AllBare g') :
  aF X pins O H' { s with heap:=h',gens:=g',drawn:=d',toks:=t' }:=by
 have neL:∀b o,X.s₀.heap.get? b=some o->b≠X.env.locals:=fun b o e=>xa7 (xap (xam e) I.ok.above)
 have neC:∀b o,X.s₀.heap.get? b=some o->b∉X.ex->b∉ch:=fun b o e hx hb=>by
  rcases(hch b hb).1 with z|z
  ·exact hx z
  ·exact xag (xap (xam e) z) (xbw _)
 have cellK:∀x c,X.env.cells.lookup x=some c->∀v,s.heap.IsCell c v->h'.IsCell c v:=fun x c e v ⟨o,ho,hd⟩=>by
  have nch:c∉ch:=fun z=>(hch c z).2.2.1 x c e rfl
  by_cases hc:c∈X.fs
  ·obtain⟨sl,q⟩:=slot c o (I.cne x c e) hc nch ho (I.freeC x c e)
   exact⟨_,q,hd⟩
  ·exact⟨o,keep c o (I.cne x c e) hc nch ho (I.freeC x c e),hd⟩
 refine⟨I.ok,I.os,hg,⟨fun b o e n hb hx=>?_,fun b o e n hb hx=>?_,fun b o e n hx=>?_,fun b o e hx=>?_,fun b xs e=>tups b xs (I.base.tups b xs e),fun b o xs e=>frzs b o xs (I.base.frzs b o xs e),fun b ps e=>?_⟩,?_,fun x c e=>?_,?_,fun x c e=>?_,fun p hp=>?_,hok,I.len⟩
 ·exact keep b o (neL b o e) hb (neC b o e hx) (I.base.keep b o e n hb hx) (I.base.free b o e n hx)
 ·obtain⟨sl,e1⟩:=I.base.slot b o e n hb hx
  obtain⟨sl',e2⟩:=slot b _ (neL b o e) hb (neC b o e hx) e1 (I.base.free b o e n hx)
  exact⟨sl',e2⟩
 ·obtain⟨o',e1⟩:=I.base.there b o e hx
  exact free b o' (neC b o e hx) e1 (I.base.free b o e n hx)
 ·obtain⟨o',e1⟩:=I.base.there b o e hx
  exact there b o' (neC b o e hx) e1
 ·obtain⟨m1,e1⟩:=I.base.tbls b ps e
  obtain⟨m2,e2⟩:=tbls b _ e1
  exact⟨m1++m2,by rw[e2,Array.append_assoc]⟩
 ·obtain⟨m,hn,hl⟩:=I.loc
  refine⟨m,ns m hn,fun i x v e1 e2 e3=>?_⟩
  obtain⟨u,r,l⟩:=hl i x v e1 e2 e3
  refine⟨u,r,?_⟩
  rcases l with l|⟨k,c,e,z⟩
  ·exact .inl l
  ·exact .inr ⟨k,c,e,cellK x c e _ z⟩
 ·obtain⟨v,z⟩:=I.cell x c e
  exact⟨v,cellK x c e v z⟩
 ·obtain⟨m,⟨o,_,_,ho,_⟩,_⟩:=I.loc
  exact free _ o (fun z=>(hch _ z).2.1 rfl) ho I.free
 ·obtain⟨v,o,ho,hd⟩:=I.cell x c e
  exact free c o (fun z=>(hch c z).2.2.1 x c e rfl) ho (I.freeC x c e)
 ·obtain⟨e,n,ne,nf,d⟩:=I.pin p hp
  have nch:p.1∉ch:=fun z=>(hch p.1 z).2.2.2 p hp rfl
  exact⟨keep p.1 p.2 ne nf nch e n,free p.1 p.2 nch e n,ne,nf,d⟩
theorem aF.un{t':Nat}(I:aF X pins O H s)(u:Un X.fs [] H H' s.heap h')(hok:cY X.prog X.w H' h'):aF X pins O H' { s with heap:=h',toks:=t' }:=by
 obtain⟨m,⟨o,es,ep,ho,r⟩,_⟩:=id I.loc
 obtain⟨sl,hL⟩:=u.any ho I.free (by simp)
 exact I.step (g':=s.gens) (d':=s.drawn) (ch:=[]) (fun _ z=>nomatch z) (fun b o _ hb _ e n=>u.keep b o e n hb (by simp)) (fun b o _ hb _ e n=>u.slot b o e n hb (by simp)) (fun b o _ e n=>u.free b o e n (by simp)) (fun b o _ e=>u.there b o e (by simp)) u.tups u.frzs u.tbls (fun m' hm=>by
  obtain⟨o',es',ep',ho',r'⟩:=hm
  rw[ho] at ho';cases ho'
  exact⟨_,es',ep',hL,r'⟩) hok I.bare
theorem aF.call{g':Array GenState}{t':Nat}{d':Drawn}{ch:List Addr}(I:aF X pins O H s)(u:Un (cA X.stack) ch H H' s.heap h')(hok:cY X.prog X.w H' h')(hg:AllBare g')
  (hch:∀b∈ch,(b∈X.ex\/X.s₀.heap.objs.size<=b)/\b≠X.env.locals/\(∀x c,X.env.cells.lookup x=some c->c≠b)/\∀p∈X.pn++pins,p.1≠b) :
  aF X pins O H' { s with heap:=h',gens:=g',drawn:=d',toks:=t' }:=by
 obtain⟨m,⟨o,es,ep,ho,r⟩,_⟩:=id I.loc
 obtain⟨sl,hL⟩:=u.any ho I.free fun z=>(hch _ z).2.1 rfl
 exact I.step (ch:=ch) hch (fun b o hL hb hc e n=>u.keep b o e n (fun z=>(xal.mp (I.stkSub b z)).elim hL hb) hc) (fun b o _ _ hc e n=>u.any e n hc) (fun b o hc e n=>u.free b o e n hc) (fun b o hc e=>u.there b o e hc) u.tups u.frzs u.tbls (fun m' hm=>by
  obtain⟨o',es',ep',ho',r'⟩:=hm
  rw[ho] at ho';cases ho'
  exact⟨_,es',ep',hL,r'⟩) hok hg
theorem aF.turned{t':Nat}{it:Addr}(I:aF X pins O H s)(k:∀b o,b≠it->s.heap.get? b=some o->h'.get? b=some o)(hn:H it=none)(hL:it≠X.env.locals)
  (h1:it∈X.ex\/X.s₀.heap.objs.size<=it) (h2:∀x c,X.env.cells.lookup x=some c->c≠it) (h3:∀p∈X.pn++pins,p.1≠it):aF X pins O H { s with heap:=h',toks:=t' }:=by
 have nit:∀b u,H b=some u->b≠it:=fun b u e z=>by rw[z,hn] at e;cases e
 refine I.step (g':=s.gens) (d':=s.drawn) (ch:=[it]) (fun b hb=>?_) (fun b o _ _ hc e _=>k b o (fun z=>hc (by simp[z])) e) (fun b o _ _ hc e _=>⟨o.slots,k b o (fun z=>hc (by simp[z])) e⟩) (fun _ _ _ _ n=>n)
  (fun b o hc e=>⟨o,k b o (fun z=>hc (by simp[z])) e⟩) (fun _ _ e=>e) (fun _ _ _ e=>e) (fun b ps e=>⟨#[],by rw[e];simp⟩) (fun m hm=>?_) (fun b u e=>?_) I.bare
 ·have e:b=it:=by simpa using hb
  subst e
  exact⟨h1,hL,h2,h3⟩
 ·obtain⟨o,es,ep,ho,r⟩:=hm
  exact⟨o,es,ep,k _ o (xa6 hL) ho,r⟩
 ·refine(I.hok b u e).stay (fun c v hc q=>k c v ?_ q) (fun _ q=>q) fun _ _ q=>q
  rcases hc with z|z
  ·rw[z];exact nit b u e
  ·exact nit c _ z
theorem aF.tok(I:aF X pins O H s)(t:Nat):aF X pins O H { s with toks:=t }:=I.un (h':=s.heap) (t':=t) Un.refl I.hok
theorem aF.kept{t':Nat}(I:aF X pins O H s)(k:∀b u,s.heap.get? b=some u->h'.get? b=some u):aF X pins O H { s with heap:=h',toks:=t' }:=I.un (Un.kept k) (I.hok.kept k)
theorem aF.laid{a:Addr}{o:HO}{t':Nat}(I:aF X pins O H s)(k:∀b u,s.heap.get? b=some u->h'.get? b=some u)(hp:s.heap.objs.size<=a)(new:fQ X.prog X.w (aS H a o) h' a o) :
  aF X pins O (aS H a o) { s with heap:=h',toks:=t' }:=I.un (Un.laid k hp (I.hok.fresh hp)) (I.hok.laid k hp new)
theorem aF.write{x e:Addr}{o:HO}{t':Nat}(I:aF X pins O H s)(mu:rM (H x))(he:e=x\/H e=some (.own x))(k:∀b u,b≠e->s.heap.get? b=some u->h'.get? b=some u)(heo:∃u,h'.get? e=some u)
  (new:fQ X.prog X.w (aS H x o) h' x o):aF X pins O (aS H x o) { s with heap:=h',toks:=t' }:=I.un (Un.write mu he k heo) (I.hok.write mu he k heo new)
theorem aF.weak{O':List (Option V)}(I:aF X pins O H s)(hl:O'.length=O.length)(w:∀(i:Nat) v,O'[i]? = some (some v)->O[i]? = some (some v)):aF X pins O' H s:=
 ⟨I.ok,I.os,I.bare,I.base,let⟨m,hn,hl'⟩:=I.loc;⟨m,hn,fun i x v e1 e2 e3=>hl' i x v e1 (w i v e2) e3⟩,I.cell,I.free,I.freeC,I.pin,I.hok,hl.trans I.len⟩
theorem aF.pins_of{pins':List (Addr×Obj)}(I:aF X pins O H s)(h:∀p∈pins',s.heap.get? p.1=some p.2/\H p.1=none/\p.1≠X.env.locals/\p.1∉X.fs/\∀v,p.2.data≠.cell v):aF X pins' O H s:=
 ⟨I.ok,I.os,I.bare,I.base,I.loc,I.cell,I.free,I.freeC,fun p hp=>(xbn.mp hp).elim (fun z=>I.pin p (List.mem_append_left _ z)) (h p),I.hok,I.len⟩
theorem vP{N:List Str}(hN:N.Nodup){i j:Nat}{x:Str}(a:N[i]? = some x)(b:N[j]? = some x):i=j:=by
 obtain⟨h1,e1⟩:=xah.mp a
 obtain⟨h2,e2⟩:=xah.mp b
 exact(List.getElem_inj hN).mp (e1.trans e2.symm)
theorem P6{M:Model}{A:Around}{E:Value->Shared->Prop}{i:Nat}{x:Str}{v:V}{u:Value}{Q:Unit->Shared->Prop}(I:aF X pins O H s)(hN:X.N.Nodup)(hi:X.N[i]? = some x)(hx:iL X.env.scope x)(r:aR v u)
  (h:∀s',aF X pins (O.set i (some v)) H s'->(∃a,Heap.SameBut a s.heap s'.heap/\(a=X.env.locals\/X.env.cells.lookup x=some a))->Q () s') (hf:X.fn x=true\/X.env.scope.names.lookup x=some .local:=by first|exact .inl rfl|exact .inr rfl|assumption):wpAny M A (storeName X.env x u) Q E s:=by
 obtain⟨m,hn,hl⟩:=id I.loc
 have hcls:(X.env.scope.kind==.class||(X.env.scope.kind==.module&&X.env.locals != X.env.globals))=false:=by rw[I.ok.kind];rfl
 have hiO:i<O.length:=by rw[I.len];exact(xah.mp hi).1
 have cne:=I.cne
 have tracked:∀{a:Addr} {h':Heap},(∃o,s.heap.get? a=some o/\H a=none)->Heap.SameBut a s.heap h'->cY X.prog X.w H h':=fun {a h'} ha hs b ob e=>by
  obtain⟨_,_,hfree⟩:=ha
  refine(I.hok b ob e).stay (fun c w' hc q=>(hs.2 c ?_).trans q) (fun _ q=>q) fun _ _ q=>q
  rintro rfl
  rcases hc with rfl|hc
  ·rw[hfree] at e;cases e
  ·rw[hfree] at hc;cases hc
 rcases hx with hk|hk
 ·refine wpAny_storeName_local hk hn (fun h' hn' hs=>?_) hcls
  obtain⟨oL,_,_,hoL,_⟩:=id hn
  refine h _ ⟨I.ok,I.os,I.bare,⟨fun b o e n hb hx=>?_,fun b o e n hb hx=>?_,I.base.free,fun b o e hx=>?_,I.base.tups,I.base.frzs,I.base.tbls⟩,⟨_,hn',fun j y v' e1 e2 e3=>?_⟩,fun y c e=>?_,I.free,I.freeC,fun p hp=>?_,tracked ⟨oL,hoL,I.free⟩ hs,by simpa using I.len⟩ ⟨_,hs,.inl rfl⟩
  ·exact(hs.2 b (xa7 (xap (xam e) I.ok.above))).trans (I.base.keep b o e n hb hx)
  ·obtain⟨sl,e1⟩:=I.base.slot b o e n hb hx
   exact⟨sl,(hs.2 b (xa7 (xap (xam e) I.ok.above))).trans e1⟩
  ·obtain⟨o',e1⟩:=I.base.there b o e hx
   exact⟨o',(hs.2 b (xa7 (xap (xam e) I.ok.above))).trans e1⟩
  ·by_cases hj:j=i
   ·subst hj
    rw[hi] at e1;cases e1
    rw[xa3 hiO] at e2
    cases e2
    exact⟨u,r,.inl ⟨hk,by simp⟩⟩
   ·rw[xai (xa6 hj)] at e2
    obtain⟨u',r',q⟩:=hl j y v' e1 e2 e3
    refine⟨u',r',?_⟩
    rcases q with⟨k,e⟩|⟨k,c,e,z⟩
    ·refine .inl ⟨k,?_⟩
     have:y≠x:=fun e=>hj (vP hN e1 (e▸hi))
     simp[this,e]
    ·exact .inr ⟨k,c,e,z.sameBut hs (cne y c e)⟩
  ·obtain⟨w',z⟩:=I.cell y c e
   exact⟨w',z.sameBut hs (cne y c e)⟩
  ·obtain⟨e,n,ne,nf,d⟩:=I.pin p hp
   exact⟨(hs.2 p.1 ne).trans e,n,ne,nf,d⟩
 ·have hfn:X.fn x=true:=by
   rcases hf with z|z
   ·exact z
   ·rw[z] at hk;cases hk
  obtain⟨c,hc⟩:=I.ok.has x (.inl hk)
  obtain⟨w',z⟩:=I.cell x c hc
  refine wpAny_storeName_cell I.ok.kind hk hc z (fun h' hc' hs=>?_)
  obtain⟨oc,hoc,hocd⟩:=id z
  refine h { s with heap:=h' } ⟨I.ok,I.os,I.bare,⟨fun b o e n hb hx=>?_,fun b o e n hb hx=>?_,I.base.free,fun b o e hx=>?_,I.base.tups,I.base.frzs,I.base.tbls⟩,⟨m,hn.sameBut hs (xa6 (cne x c hc)),fun j y v' e1 e2 e3=>?_⟩,fun y c' e=>?_,I.free,I.freeC,fun p hp=>?_,tracked ⟨oc,hoc,I.freeC x c hc⟩ hs,by simpa using I.len⟩ ⟨c,hs,.inr hc⟩
  ·exact(hs.2 b (xa7 (xap (xam e) (I.ok.cab x c hfn hc)))).trans (I.base.keep b o e n hb hx)
  ·obtain⟨sl,e1⟩:=I.base.slot b o e n hb hx
   exact⟨sl,(hs.2 b (xa7 (xap (xam e) (I.ok.cab x c hfn hc)))).trans e1⟩
  ·obtain⟨o',e1⟩:=I.base.there b o e hx
   exact⟨o',(hs.2 b (xa7 (xap (xam e) (I.ok.cab x c hfn hc)))).trans e1⟩
  ·by_cases hj:j=i
   ·subst hj
    rw[hi] at e1;cases e1
    rw[xa3 hiO] at e2
    cases e2
    exact⟨u,r,.inr ⟨.inl hk,c,hc,hc'⟩⟩
   ·rw[xai (xa6 hj)] at e2
    obtain⟨u',r',q⟩:=hl j y v' e1 e2 e3
    refine⟨u',r',?_⟩
    rcases q with q|⟨k,c',e,z'⟩
    ·exact .inl q
    ·refine .inr ⟨k,c',e,z'.sameBut hs ?_⟩
     rintro rfl
     exact hj (vP hN e1 (I.ok.inj _ _ _ e hc▸hi))
  ·by_cases hcc:c'=c
   ·subst hcc;exact⟨_,hc'⟩
   ·obtain⟨w2,z2⟩:=I.cell y c' e
    exact⟨w2,z2.sameBut hs hcc⟩
  ·obtain⟨e,n,ne,nf,d⟩:=I.pin p hp
   refine⟨(hs.2 p.1 ?_).trans e,n,ne,nf,d⟩
   intro q
   rw[q,hoc] at e
   have q':oc=p.2:=xba e
   exact d w' (by rw[<- q'];exact hocd)
theorem vQ{M:Model}{A:Around}{E:Value->Shared->Prop}{i:Nat}{x:Str}{v:V}{u:Value}{Q:Unit->Shared->Prop}(I:aF X pins O H s)(hN:X.N.Nodup)(hi:X.N[i]? = some x)(hx:iL X.env.scope x)(r:aR v u)
  (h:∀s',aF X pins (O.set i (some v)) H s'->Q () s') (hf:X.fn x=true\/X.env.scope.names.lookup x=some .local:=by first|exact .inl rfl|exact .inr rfl|assumption):wpAny M A (storeName X.env x u) Q E s:=
 P6 I hN hi hx r (fun s' I' _=>h s' I') hf
theorem aF.call'{s':Shared}{ch:List Addr}(I:aF X pins O H s)(ho:s'.os=s.os)(u:Un (cA X.stack) ch H H' s.heap s'.heap)(hok:cY X.prog X.w H' s'.heap)(hg:AllBare s'.gens)
  (hch:∀b∈ch,(b∈X.ex\/X.s₀.heap.objs.size<=b)/\b≠X.env.locals/\(∀x c,X.env.cells.lookup x=some c->c≠b)/\∀p∈X.pn++pins,p.1≠b):aF X pins O H' s':=by
 obtain⟨h',g',d',t',o'⟩:=s'
 have e:o'=s.os:=ho
 subst e
 exact I.call (g':=g') (t':=t') (d':=d') u hok hg hch
end
abbrev XK:=Value->Option Addr->Hp->Prop
abbrev St:=List (Option V)
abbrev VK:=V->Hp->Prop
abbrev TE:=St->Hp->VK->Prop
abbrev TT:=St->Hp->(Bool->Hp->Prop)->Prop
abbrev TA:=St->Hp->(List V->Hp->Prop)->Prop
structure gN where
 nx:St->Hp->Prop
 rt:VK
 bk:St->Hp->Prop:=fun _ _=>False
 ct:St->Hp->Prop:=fun _ _=>False
abbrev TS:=gN->St->Hp->Prop
def EP(X:Cx)(pins:List (Addr×Obj))(O:St)(Q:VK)(u:Value)(s':Shared):Prop:=∃v H',aF X pins O H' s'/\aR v u/\Q v H'
def TP(X:Cx)(pins:List (Addr×Obj))(O:St)(Q:Bool->Hp->Prop)(b:Bool)(s':Shared):Prop:=∃H',aF X pins O H' s'/\Q b H'
def AP(X:Cx)(pins:List (Addr×Obj))(O:St)(Q:List V->Hp->Prop)(us:List Value)(s':Shared):Prop:=∃vs H',aF X pins O H' s'/\aX vs us/\Q vs H'
def SP(X:Cx)(pins:List (Addr×Obj))(D:gN)(f:Flow)(s':Shared):Prop:=
 match f with
 |.next=>∃O' H',aF X pins O' H' s'/\D.nx O' H'
 |.brk=>∃O' H',aF X pins O' H' s'/\D.bk O' H'
 |.cont=>∃O' H',aF X pins O' H' s'/\D.ct O' H'
 |.ret u=>∃v O' H',aF X pins O' H' s'/\aR v u/\D.rt v H'
def PE(X:Cx)(e:Expr)(t:TE):Prop:=
 ∀(pins:List (Addr×Obj)) (s:Shared) (O:St) (H:Hp) (Q:VK),aF X pins O H s->t O H Q->wpAny (model X.prog X.w) X.A (eval e X.env) (EP X pins O Q) X.xe s
def PT(X:Cx)(e:Expr)(t:TT):Prop:=
 ∀(pins:List (Addr×Obj)) (s:Shared) (O:St) (H:Hp) (Q:Bool->Hp->Prop),aF X pins O H s->t O H Q->wpAny (model X.prog X.w) X.A (isTrue e X.env (eval e X.env)) (TP X pins O Q) X.xe s
def PW(X:Cx)(e:Expr)(t:TT):Prop:=
 ∀(whole:Sem Value) (pins:List (Addr×Obj)) (s:Shared) (O:St) (H:Hp) (Q:Bool->Hp->Prop),aF X pins O H s->t O H Q->wpAny (model X.prog X.w) X.A (isTrue e X.env whole) (TP X pins O Q) X.xe s
def PA(X:Cx)(es:List Expr)(t:TA):Prop:=
 ∀(pos:Pos) (pins:List (Addr×Obj)) (s:Shared) (O:St) (H:Hp) (Q:List V->Hp->Prop),aF X pins O H s->t O H Q->wpAny (model X.prog X.w) X.A (spliced (backTo pos (starEach es X.env))) (AP X pins O Q) X.xe s
def PS(X:Cx)(st:Stmt)(t:TS):Prop:=
 ∀(pins:List (Addr×Obj)) (s:Shared) (O:St) (H:Hp) (D:gN),aF X pins O H s->t D O H->wpAny (model X.prog X.w) X.A (exec st X.env) (SP X pins D) X.xe s
def dY(X:Cx)(st:List Stmt)(t:TS):Prop:=
 ∀(pins:List (Addr×Obj)) (s:Shared) (O:St) (H:Hp) (D:gN),aF X pins O H s->t D O H->wpAny (model X.prog X.w) X.A (execs st X.env) (SP X pins D) X.xe s
theorem aT{α:Type}{t:Sem α}{Q Q':α->Shared->Prop}{M:Model}{A:Around}{E:Value->Shared->Prop}{s:Shared}(h:wpAny M A t Q E s)(hQ:∀a s,Q a s->Q' a s):wpAny M A t Q' E s:=wpAny_mono h hQ fun _ _ x=>x
end L2
namespace L2
open PySem.Spec PyProof.Rows
section
variable{X:Cx}
theorem bin{a b:Expr}{ta tb:TE}(ha:PE X a ta)(hb:PE X b tb){pins:List (Addr×Obj)}{s:Shared}{O:St}{H:Hp}{R:V->V->Hp->Prop}(I:aF X pins O H s)(h:ta O H fun x H1=>tb O H1 fun y H2=>R x y H2)
  {α:Type} {Q:α->Shared->Prop} {f:Value->Value->Sem α}
  (hf:∀v u s2 x y H2,aF X pins O H2 s2->aR x v->aR y u->R x y H2->wpAny (model X.prog X.w) X.A (f v u) Q X.xe s2) :
  wpAny (model X.prog X.w) X.A (eval a X.env) (fun v s₁=>wpAny (model X.prog X.w) X.A (eval b X.env) (fun u s₂=>wpAny (model X.prog X.w) X.A (f v u) Q X.xe s₂) X.xe s₁) X.xe s:=by
 refine aT (ha pins s O H _ I h) fun v s1 ⟨x,H1,I1,r1,q1⟩=>?_
 refine aT (hb pins s1 O H1 _ I1 q1) fun u s2 ⟨y,H2,I2,r2,q2⟩=>?_
 exact hf v u s2 x y H2 I2 r1 r2 q2
def AZ(i:Nat):TE:=fun O H Q=>∃v,O[i]? = some (some v)/\Q v H
def tC(v:V):TE:=fun _ H Q=>Q v H
theorem P7{i:Nat}{x:Str}{pos:Pos}(hN:X.N[i]? = some x)(hv:cT X.env.scope x)(hd:(x==("__debug__":Str))=false:=by decide)(hcd:(x==("__classdict__":Str))=false:=by decide):PE X (.Name x pos) (AZ i):=by
 intro pins s O H Q I h
 obtain⟨v,e,h⟩:=h
 obtain⟨m,hn,hl⟩:=I.loc
 obtain⟨u,r,l⟩:=hl i x v hN e hv
 have fin:EP X pins O Q u s:=⟨v,H,I,r,h⟩
 rcases l with⟨hk,hm⟩|⟨hk,c,hc,hcell⟩
 ·exact wpAny_Name (wpAny_loadName_local I.ok.kind hk hn hm fin) hd
 ·rcases hk with hk|hk
  ·exact wpAny_Name (wpAny_loadName_cell I.ok.kind hk hc hcell fin) hd
  ·exact wpAny_Name (wpAny_loadName_free I.ok.kind hk hc hcell fin hcd) hd
theorem P8{i j pos}:PE X (.Constant (.int i) j pos) (tC (.int i)):=fun _ _ _ H _ I h=>wpAny_Constant_int ⟨.int i,H,I.tok _,⟨_,rfl⟩,h⟩
theorem P9{b j pos}:PE X (.Constant (.bool b) j pos) (tC (.bl b)):=fun _ _ _ H _ I h=>Constant_bool ⟨.bl b,H,I,rfl,h⟩
theorem QA{j pos}:PE X (.Constant .none j pos) (tC .non):=fun _ _ _ H _ I h=>Constant_none ⟨.non,H,I,rfl,h⟩
theorem QB{x j pos}:PE X (.Constant (.str x) j pos) (tC (.str x)):=fun _ _ _ H _ I h=>Calls.Constant_str ⟨.str x,H,I.tok _,⟨_,rfl⟩,h⟩
def Gl(X:Cx)(x:Str):Prop:=X.env.kindOf x=some .globalImplicit
theorem mY{E:Value->Shared->Prop}{pins:List (Addr×Obj)}{s:Shared}{O:St}{H:Hp}{x:Str}{u:Value}{pos:Pos}{Q:Value->Shared->Prop}(I:aF X pins O H s)(hg:Gl X x)(hm:X.mg x=some u)(h:Q u s)
  (hd:(x==("__debug__":Str))=false:=by decide):wpAny (model X.prog X.w) X.A (eval (.Name x pos) X.env) Q E s:=
 Calls.Name_function_global I.ok.kind hg (Calls.loadGlobal_global (by rw[I.ok.glob];exact I.mod.glob.keeps I.bk) hm h) hd
theorem lQ{E:Value->Shared->Prop}{pins:List (Addr×Obj)}{s:Shared}{O:St}{H:Hp}{x:Str}{u:Value}{pos:Pos}{Q:Value->Shared->Prop}(I:aF X pins O H s)(hg:Gl X x)(hm:X.mg x=none)(hv:bootBuiltins x=some u)(h:Q u s)
  (hn:x≠"__name__":=by decide) (hd:(x==("__debug__":Str))=false:=by decide):wpAny (model X.prog X.w) X.A (eval (.Name x pos) X.env) Q E s:=by
 obtain⟨mb,h1,h2⟩:=I.mod.blt
 exact Calls.Name_function_global I.ok.kind hg (Calls.loadGlobal_builtin (by rw[I.ok.glob];exact I.mod.glob.keeps I.bk) hm (by rw[I.ok.blt];exact h1.keeps I.bk) ((h2 x hn).trans hv) h) hd
theorem A0{x:Str}{v:V}{u:Value}{pos:Pos}(hg:Gl X x)(hm:X.mg x=some u)(r:aR v u)(hd:(x==("__debug__":Str))=false:=by decide):PE X (.Name x pos) (tC v):=
 fun _ _ _ H _ I h=>mY I hg hm ⟨v,H,I,r,h⟩ hd
theorem QC{x:Str}{v:V}{u:Value}{pos:Pos}(hg:Gl X x)(hm:X.mg x=none)(hv:bootBuiltins x=some u)(r:aR v u)(hn:x≠"__name__":=by decide)(hd:(x==("__debug__":Str))=false:=by decide):PE X (.Name x pos) (tC v):=
 fun _ _ _ H _ I h=>lQ I hg hm hv ⟨v,H,I,r,h⟩ hn hd
variable{a b:Expr}{ta tb:TE}{pos:Pos}
def PC(X:Cx)(op:CmpOp)(a b:Expr)(t:TE):Prop:=
 ∀(pins:List (Addr×Obj)) (s:Shared) (O:St) (H:Hp) (Q:VK),aF X pins O H s->t O H Q->
  wpAny (model X.prog X.w) X.A (eval a X.env) (fun v s₁=>wpAny (model X.prog X.w) X.A (eval b X.env) (fun u s₂=>wpAny (model X.prog X.w) X.A (compareOp op v u) (EP X pins O Q) X.xe s₂) X.xe s₁) X.xe s
theorem cL(b:Expr){op:CmpOp}(h:op≠.In)(h2:op≠.NotIn):behindInMarks op b=false:=by
 have e1:(op==CmpOp.In)=false:=by cases op<;>first|rfl|exact xag rfl h
 have e2:(op==CmpOp.NotIn)=false:=by cases op<;>first|rfl|exact xag rfl h2
 cases b<;>simp[behindInMarks,e1,e2]
def tB(t:TE):TT:=fun O H Q=>t O H fun x H1=>∃c,x=.bl c/\Q c H1
theorem pt_cmp{op:CmpOp}{t:TE}(h:PC X op a b t)(h1:behindInMarks op b=false:=by first|exact cL _ (by decide) (by decide)|rfl):PT X (.Compare a [op] [b] pos) (tB t):=by
 intro pins s O H Q I hw
 refine wpAny_isTrue_Compare1 (aT (h pins s O H _ I hw) fun v s1 h1=>aT h1 fun u s2 h2=>aT h2 fun c s3 ⟨x,H1,I1,r1,q1⟩=>?_) h1
 obtain⟨d,rfl,q⟩:=q1
 cases r1
 exact wpAny_truthy_bool ⟨H1,I1,q⟩
theorem QD{e:Expr}{t:TE}(h:PE X e t)(he:∀whole,isTrue e X.env whole=(do let v<-whole;standAt e.pos;holding [v] (truthy v)):=by intro _;rfl):PT X e (tB t):=by
 intro pins s O H Q I hw
 refine isTrue_plain (aT (h pins s O H _ I hw) fun v s1 ⟨x,H1,I1,r1,q1⟩=>?_) (he _)
 obtain⟨d,rfl,q⟩:=q1
 cases r1
 exact wpAny_truthy_bool ⟨H1,I1,q⟩
variable{tA tB':TT}{rest:List Expr}
def QE(t u:TT):TT:=fun O H Q=>t O H fun c H1=>if c=true then u O H1 Q else Q false H1
def tOr(t u:TT):TT:=fun O H Q=>t O H fun c H1=>if c=true then Q true H1 else u O H1 Q
def QG(t:TT):TT:=fun O H Q=>t O H fun c H1=>Q (!c) H1
theorem QH(ha:PT X a tA):PW X (.BoolOp .And [a] pos) tA:=by
 intro wh pins s O H Q I h
 refine isTrue_and (aT (ha pins s O H Q I h) fun c s1 e=>?_)
 cases c with
 |true=>exact isTrue_and_nil e
 |false=>exact e
theorem QI(ha:PT X a tA):PW X (.BoolOp .Or [a] pos) tA:=by
 intro wh pins s O H Q I h
 refine isTrue_or (aT (ha pins s O H Q I h) fun c s1 e=>?_)
 cases c with
 |false=>exact isTrue_or_nil e
 |true=>exact e
theorem QJ(ha:PT X a tA)(hb:PW X (.BoolOp .And (b::rest) pos) tB'):PW X (.BoolOp .And (a::b::rest) pos) (QE tA tB'):=by
 intro wh pins s O H Q I h
 refine isTrue_and (aT (ha pins s O H _ I h) fun c s1 ⟨H1,I1,q1⟩=>?_)
 cases c with
 |true=>exact hb wh pins s1 O H1 Q I1 q1
 |false=>exact⟨H1,I1,q1⟩
theorem QK(ha:PT X a tA)(hb:PW X (.BoolOp .Or (b::rest) pos) tB'):PW X (.BoolOp .Or (a::b::rest) pos) (tOr tA tB'):=by
 intro wh pins s O H Q I h
 refine isTrue_or (aT (ha pins s O H _ I h) fun c s1 ⟨H1,I1,q1⟩=>?_)
 cases c with
 |true=>exact⟨H1,I1,q1⟩
 |false=>exact hb wh pins s1 O H1 Q I1 q1
theorem QL(ha:PT X a tA):PT X (.UnaryOp .Not a pos) (QG tA):=by
 intro pins s O H Q I h
 exact isTrue_not (ha pins s O H (fun c H1=>Q (!c) H1) I h)
def QM(ta tb:TE):TE:=fun O H Q=>ta O H fun x H1=>∃c,x=.bl c/\if c=true then tb O H1 Q else Q (.bl false) H1
def QN(ta:TE):TE:=fun O H Q=>ta O H fun x H1=>∃c,x=.bl c/\Q (.bl (!c)) H1
theorem QO{op}{t:TE}(h:PE X a t):PE X (.BoolOp op [a] pos) t:=fun pins s O H Q I hw=>BoolOp_one (h pins s O H Q I hw)
theorem QP(ha:PE X a ta)(hb:PE X (.BoolOp .And (b::rest) pos) tb):PE X (.BoolOp .And (a::b::rest) pos) (QM ta tb):=by
 intro pins s O H Q I h
 refine BoolOp_and (aT (ha pins s O H _ I h) fun v s1 ⟨x,H1,I1,r1,q1⟩=>?_)
 obtain⟨c,rfl,q1⟩:=q1
 cases r1
 refine wpAny_truthy_bool ?_
 cases c with
 |true=>exact hb pins s1 O H1 Q I1 q1
 |false=>exact⟨.bl false,H1,I1,rfl,q1⟩
theorem QQ(ha:PE X a ta):PE X (.UnaryOp .Not a pos) (QN ta):=by
 intro pins s O H Q I h
 refine UnaryOp_ (aT (ha pins s O H _ I h) fun v s1 ⟨x,H1,I1,r1,q1⟩=>?_)
 obtain⟨c,rfl,q1⟩:=q1
 cases r1
 exact not_of (wpAny_truthy_bool ⟨.bl (!c),H1,I1,rfl,q1⟩)
end
end L2
namespace L2
open PySem.Spec PyProof.Rows
def bD(K:xFg)(H:Hp)(a:Addr)(xs:List V):Prop:=
 Rd H a (.lst xs)\/
  ∃(o:Obj) (its:Array Value) (n:Nat),K.lookup a=some o/\o.cls=.type "list"/\o.dict=none/\o.data=.seq its n/\its.size<=sizeLine/\aX xs its.toList
def bO(K:xFg)(H:Hp)(a:Addr)(xs:List V):Prop:=
 Rd H a (.tup xs)\/
  ∃(o:Obj) (its:Array Value) (n:Nat),K.lookup a=some o/\o.cls=.type "tuple"/\o.data=.seq its n/\its.size<=sizeLine/\aX xs its.toList/\o.dict=none
def QR:Value->Option V
 |.none=>some .non
 |.bool b=>some (.bl b)
 |.int i _=>some (.int i)
 |.str x _=>some (.str x)
 |.bytes b _=>some (.byt b)
 |.float b _=>some (.flt b)
 |.ref a=>some (.ref a)
 |.type n=>some (.ty n)
 |_=>none
theorem aR.abs{x:V}{u:Value}(r:aR x u):QR u=some x:=by
 cases x with
 |non=>cases r;rfl
 |bl _=>cases r;rfl
 |int _=>obtain⟨t,rfl⟩:=r;rfl
 |str _=>obtain⟨t,rfl⟩:=r;rfl
 |byt _=>obtain⟨t,rfl⟩:=r;rfl
 |flt _=>obtain⟨t,rfl⟩:=r;rfl
 |ref _=>cases r;rfl
 |ty _=>cases r;rfl
theorem aR.inj{x y:V}{u:Value}(r:aR x u)(q:aR y u):x=y:=xba (r.abs.symm.trans q.abs)
theorem aX.inj:∀{xs ys:List V} {us:List Value},aX xs us->aX ys us->xs=ys
 |_,_,_,.nil,.nil=>rfl
 |_,_,_,.cons r t,.cons r' t'=>by rw[r.inj r',aX.inj t t']
section
variable{X:Cx}{pins:List (Addr×Obj)}{O:St}{H:Hp}{s:Shared}{a:Addr}{xs ys:List V}
theorem bD.of{K:xFg}(h:H a=some (.lst xs)):bD K H a xs:=.inl (.inl h)
theorem bO.of{K:xFg}(h:H a=some (.tup xs)):bO K H a xs:=.inl (.inl h)
theorem aF.list(I:aF X pins O H s)(h:bD X.K H a xs):∃its:List Value,aX xs its/\PlainL s.heap a its.toArray/\xs.length<=sizeLine:=by
 rcases h with h|⟨o,its,n,hk,hc,hd,hs,hz,r⟩
 ·obtain⟨z,its,n,r,e⟩:=h.ok I.hok
  exact⟨its,r,⟨_,n,e,rfl,rfl,rfl⟩,z⟩
 ·refine⟨its.toList,r,⟨o,n,I.kIn a o hk,hc,hd,by simpa using hs⟩,?_⟩
  have e:=r.length
  simp only[xbv] at e
  omega
theorem aF.tupN(I:aF X pins O H s)(h:bO X.K H a xs):∃its:List Value,aX xs its/\kJ s.heap a its.toArray/\xs.length<=sizeLine:=by
 rcases h with h|⟨o,its,n,hk,hc,hs,hz,r,hd⟩
 ·obtain⟨z,its,r,p⟩:=h.ok I.hok
  exact⟨its,r,p,z⟩
 ·refine⟨its.toList,r,⟨o,I.kIn a o hk,hc,⟨n,by simpa using hs⟩,hd⟩,?_⟩
  have e:=r.length
  simp only[xbv] at e
  omega
theorem aF.tuple(I:aF X pins O H s)(h:bO X.K H a xs):∃its:List Value,aX xs its/\IsTup s.heap a its.toArray/\xs.length<=sizeLine:=by
 obtain⟨its,r,p,z⟩:=I.tupN h
 exact⟨its,r,p.tup,z⟩
theorem aF.list_inj(I:aF X pins O H s)(h:bD X.K H a xs)(h':bD X.K H a ys):xs=ys:=by
 obtain⟨its,r,⟨o,n,e,_,_,d⟩,_⟩:=I.list h
 obtain⟨its',r',⟨o',n',e',_,_,d'⟩,_⟩:=I.list h'
 rw[e] at e';cases e'
 rw[d] at d'
 injection d' with d1 _
 have:its=its':=by simpa using congrArg Array.toList d1
 subst this
 exact r.inj r'
theorem aF.tuple_inj(I:aF X pins O H s)(h:bO X.K H a xs)(h':bO X.K H a ys):xs=ys:=by
 obtain⟨its,r,⟨o,e,_,n,d⟩,_⟩:=I.tuple h
 obtain⟨its',r',⟨o',e',_,n',d'⟩,_⟩:=I.tuple h'
 rw[e] at e';cases e'
 rw[d] at d'
 injection d' with d1 _
 have:its=its':=by simpa using congrArg Array.toList d1
 subst this
 exact r.inj r'
end
abbrev Cx.wish(X:Cx)(E:Value->Shared->Prop):Cx:={ X with xe:=E }
abbrev Cx.nox(X:Cx):Cx:=X.wish fun _ _=>False
theorem Cx.Ok.wish{X:Cx}(ok:X.Ok)(E:Value->Shared->Prop):(X.wish E).Ok:=
 ⟨ok.mod,ok.kind,ok.glob,ok.blt,ok.above,ok.inj,ok.has,ok.cab,ok.hd,ok.frames,ok.stk,ok.exf,ok.bs,ok.bsz,ok.noex,ok.exfs,ok.funs,ok.frf⟩
theorem Cx.Ok.unwish{X:Cx}{E:Value->Shared->Prop}(ok:(X.wish E).Ok):X.Ok:=
 ⟨ok.mod,ok.kind,ok.glob,ok.blt,ok.above,ok.inj,ok.has,ok.cab,ok.hd,ok.frames,ok.stk,ok.exf,ok.bs,ok.bsz,ok.noex,ok.exfs,ok.funs,ok.frf⟩
section
variable{X:Cx}{pins:List (Addr×Obj)}{O:St}{H:Hp}{s:Shared}{E:Value->Shared->Prop}
theorem aF.wish(I:aF X pins O H s)(E:Value->Shared->Prop):aF (X.wish E) pins O H s:=⟨I.ok.wish E,I.os,I.bare,I.base,I.loc,I.cell,I.free,I.freeC,I.pin,I.hok,I.len⟩
theorem aF.unwish(I:aF (X.wish E) pins O H s):aF X pins O H s:=⟨I.ok.unwish,I.os,I.bare,I.base,I.loc,I.cell,I.free,I.freeC,I.pin,I.hok,I.len⟩
end
section
variable{X:Cx}{st:Stmt}{rest:List Stmt}{t u:TS}{e:Expr}{te:TE}{pos:Pos}
def QS:TS:=fun D O H=>D.nx O H
def QT(t u:TS):TS:=fun D O H=>t { D with nx:=u D } O H
theorem A1:dY X [] QS:=fun _ _ O H _ I h=>wpAny_execs_nil ⟨O,H,I,h⟩
theorem A2(h1:PS X st t)(h2:dY X rest u):dY X (st::rest) (QT t u):=by
 intro pins s O H D I h
 refine wpAny_execs_cons (aT (h1 pins s O H { D with nx:=u D } I h) fun f s1 q=>?_)
 cases f with
 |next=>
  obtain⟨O',H',I',q⟩:=q
  exact h2 pins s1 O' H' D I' q
 |ret v=>exact q
 |brk=>exact q
 |cont=>exact q
theorem A3(h1:PS X st t):dY X [st] t:=by
 intro pins s O H D I h
 refine wpAny_execs_cons (aT (h1 pins s O H D I h) fun f s1 q=>?_)
 cases f with
 |next=>exact wpAny_execs_nil q
 |ret v=>exact q
 |brk=>exact q
 |cont=>exact q
theorem aF.quiet{pins:List (Addr×Obj)}{O:St}{H:Hp}{s:Shared}(I:aF X pins O H s):interactive X.env=false:=by simp[interactive,I.ok.kind]
def QU(te:TE):TS:=fun D O H=>te O H fun _ H1=>D.nx O H1
theorem i0(he:PE X e te)(hs:swapsWith e none pos.line X.env=pure false:=by rfl):PS X (.Expr e pos) (QU te):=by
 intro pins s O H D I h
 exact wpAny_Expr_any (aT (he pins s O H _ I h) fun v s1 ⟨x,H1,I1,r1,q1⟩=>⟨O,H1,I1,q1⟩) I.quiet hs
def QV(te:TE):TS:=fun D O H=>te O H D.rt
theorem QW(he:PE X e te):PS X (.Return (some e) pos) (QV te):=by
 intro pins s O H D I h
 exact wpAny_Return_some (aT (he pins s O H _ I h) fun v s1 ⟨x,H1,I1,r1,q1⟩=>⟨x,O,H1,I1,r1,q1⟩)
def QX(c:TT)(t u:TS):TS:=fun D O H=>c O H fun b H1=>if b=true then t D O H1 else u D O H1
theorem A4{c:Expr}{a b:List Stmt}{tc:TT}(hc:PT X c tc)(ha:dY X a t)(hb:dY X b u):PS X (.If c a b pos) (QX tc t u):=by
 intro pins s O H D I h
 refine wpAny_If (aT (hc pins s O H _ I h) fun d s1 ⟨H1,I1,q1⟩=>?_)
 cases d with
 |true=>exact ha pins s1 O H1 D I1 q1
 |false=>exact hb pins s1 O H1 D I1 q1
end
abbrev TG:=V->St->Hp->(St->Hp->Prop)->Prop
abbrev i6:=List V->St->Hp->(St->Hp->Prop)->Prop
def PG(X:Cx)(target:Expr)(t:TG):Prop:=
 ∀(pins:List (Addr×Obj)) (s:Shared) (O:St) (H:Hp) (v:V) (u:Value) (Q:St->Hp->Prop),aF X pins O H s->aR v u->t v O H Q->
  wpAny (model X.prog X.w) X.A (assign target X.env u) (fun _ s'=>∃O' H',aF X pins O' H' s'/\Q O' H') X.xe s
def mZ(X:Cx)(ts:List Expr)(t:i6):Prop:=
 ∀(pins:List (Addr×Obj)) (s:Shared) (O:St) (H:Hp) (vs:List V) (us:List Value) (Q:St->Hp->Prop),aF X pins O H s->aX vs us->t vs O H Q->
  wpAny (model X.prog X.w) X.A (assignInOrder ((assignEach ts X.env).map (·.2)) us) (fun _ s'=>∃O' H',aF X pins O' H' s'/\Q O' H') X.xe s
abbrev TSet:=V->V->V->Hp->(Hp->Prop)->Prop
section
variable{X:Cx}{pos:Pos}
def oW(i:Nat):TG:=fun v O H Q=>Q (O.set i (some v)) H
theorem A5{i:Nat}{x:Str}(hN:X.N.Nodup)(hi:X.N[i]? = some x)(hx:iL X.env.scope x)(hf:X.fn x=true\/X.env.scope.names.lookup x=some .local:=by first|exact .inl rfl|exact .inr rfl|assumption):PG X (.Name x pos) (oW i):=by
 intro pins s O H v u Q I r h
 exact wpAny_assign_Name (vQ I hN hi hx r (fun s' I'=>⟨_,H,I',h⟩) hf)
def A6:i6:=fun vs O H Q=>vs=[]/\Q O H
def A7(t:TG)(u:i6):i6:=fun vs O H Q=>∃v r,vs=v::r/\t v O H fun O' H'=>u r O' H' Q
theorem QY:mZ X [] A6:=by
 intro pins s O H vs us Q I r h
 obtain⟨e,h⟩:=h
 subst e
 cases r
 exact assignInOrder_nil ⟨O,H,I,h⟩
theorem QZ{e:Expr}{es:List Expr}{t:TG}{u:i6}(h1:PG X e t)(h2:mZ X es u)
  (hs:(assignEach (e::es) X.env).map (·.2)=assign e X.env::(assignEach es X.env).map (·.2):=by rfl):mZ X (e::es) (A7 t u):=by
 intro pins s O H vs us Q I r h
 obtain⟨v,vr,e1,h⟩:=h
 subst e1
 cases r with
 |cons r rr=>
  rw[hs]
  refine assignInOrder_cons (aT (h1 pins s O H _ _ _ I r h) fun _ s1 ⟨σ1,H1,I1,q1⟩=>?_)
  exact h2 pins s1 σ1 H1 _ _ Q I1 rr q1
def Q0(K:xFg)(n:Nat)(t:i6):TG:=fun v O H Q=>∃a xs,v=.ref a/\bO K H a xs/\xs.length=n/\t xs O H Q
theorem Q1{es:List Expr}{k:Nat}{t:i6}{n:Nat}(hc:X.calm=true)(h:mZ X es t)
  (hn:(assignEach es X.env).length=n:=by rfl) (hst:(assignEach es X.env).findIdx? (·.1)=none:=by rfl):PG X (.Tuple es k pos) (Q0 X.K n t):=by
 intro pins s O H v u Q I r hw
 obtain⟨a,xs,e1,hq,hl,hw⟩:=hw
 subst e1
 cases r
 obtain⟨its,rv,ht,hz⟩:=I.tuple hq
 refine assign_Tuple_tuple (I.ok.hd hc) ht (by simp[hn,<- hl,rv.length]) hst fun h' hx=>?_
 have I1:aF X pins O H { s with heap:=h' }:=I.kept (t':=s.toks) fun b o e=>hx b o (xa7 (xam e)) e
 exact h pins _ O H xs _ Q I1 (by simpa using rv) hw
def gSub(to ti:TE)(t:TSet):TG:=fun v O H Q=>to O H fun o H1=>ti O H1 fun i H2=>t o i v H2 fun H3=>Q O H3
def vR(te:TE)(g:TG):TS:=fun D O H=>te O H fun x H1=>g x O H1 D.nx
theorem m7{i:Nat}{x:Str}{e:Expr}{te:TE}{pos':Pos}(hN:X.N.Nodup)(hi:X.N[i]? = some x)(hx:iL X.env.scope x)(he:PE X e te)(hs:swapsWith e (some (.Name x pos')) pos.line X.env=pure false:=by rfl)(hf:X.fn x=true\/X.env.scope.names.lookup x=some .local:=by first|exact .inl rfl|exact .inr rfl|assumption) :
  PS X (.Assign [.Name x pos'] e pos) (vR te (oW i)):=by
 intro pins s O H D I h
 refine wpAny_Assign_Name (aT (he pins s O H _ I h) fun v s1 ⟨y,H1,I1,r1,q1⟩=>?_) hs
 exact vQ I1 hN hi hx r1 (fun s2 I2=>⟨_,H1,I2,q1⟩) hf
end
section
variable{X:Cx}{pos:Pos}
def Q2(c:TT)(tb:TS):TS:=fun D O H=>∃W:Nat->St->Hp->Prop,(∃m,W m O H)/\∀m O H,W m O H->
 c O H fun b H1=>if b=true then ∃N:St->Hp->Prop,(∀O' H',N O' H'->∃m',m'<m/\W m' O' H')/\tb { D with nx:=N,ct:=N,bk:=D.nx } O H1 else D.nx O H1
theorem A8{c:Expr}{body:List Stmt}{tc:TT}{tb:TS}(hp:PassesOwn (model X.prog X.w) X.A X.env X.xe)(hc:PT X c tc)(hb:dY X body tb):PS X (.While c body [] pos) (Q2 tc tb):=by
 intro pins s O H D I h
 obtain⟨W,⟨m0,w0⟩,turn⟩:=h
 refine wpAny_While (codeAny_whileLoop (fun n s'=>∃O' H',aF X pins O' H' s'/\W n O' H') ?_ m0 ⟨O,H,I,w0⟩)
 rintro n s1 ⟨σ1,H1,I1,w1⟩
 refine wpAny_passesOwn hp (aT (hc pins s1 σ1 H1 _ I1 (turn n σ1 H1 w1)) fun b s2 ⟨H2,I2,q2⟩=>?_)
 cases b with
 |true=>
  obtain⟨N,hN,q2⟩:=q2
  rw[xau rfl]
  refine wpAny_passesOwn hp (aT (hb pins s2 σ1 H2 _ I2 q2) fun f s3 q3=>?_)
  cases f with
  |next=>
   obtain⟨σ3,H3,I3,n3⟩:=q3
   obtain⟨m',hm,w3⟩:=hN σ3 H3 n3
   exact⟨m',hm,σ3,H3,I3,w3⟩
  |cont=>
   obtain⟨σ3,H3,I3,n3⟩:=q3
   obtain⟨m',hm,w3⟩:=hN σ3 H3 n3
   exact⟨m',hm,σ3,H3,I3,w3⟩
  |brk=>exact q3
  |ret v=>exact q3
 |false=>
  rw[xao xa1]
  exact wpAny_execs_nil ⟨σ1,H2,I2,q2⟩
end
structure It where
 go:Nat->Hp->Prop
 yld:Nat->Hp->V->Hp->Prop
 stop:Nat->Hp->Prop
def gO(X:Cx)(pins:List (Addr×Obj))(H:Hp)(b:Addr):Prop:=
 H b=none/\b≠X.env.locals/\b∉X.fs/\(b∈X.ex\/X.s₀.heap.objs.size<=b)/\(∀x c,X.env.cells.lookup x=some c->c≠b)/\∀p∈X.pn++pins,p.1≠b
theorem aF.fpOk{X:Cx}{pins:List (Addr×Obj)}{O:St}{H H':Hp}{s:Shared}{b:Addr}(I:aF X pins O H s)(hb:s.heap.objs.size<=b)(hn:H' b=none):gO X pins H' b:=by
 refine⟨hn,xck (xap I.lt hb),I.nofs hb,.inr (xav I.sz hb),fun x c e z=>?_,fun p hp z=>?_⟩
 ·obtain⟨v,q⟩:=I.cell x c e
  exact xag (xap q.lt (by rw[z];exact hb)) (xbw _)
 ·exact xag (xap (xam (I.pin p hp).1) (by rw[z];exact hb)) (xbw _)
structure kK(P:Program)(w:World)(K:xFg)(tg:Expr)(J:It)(fp:List Addr)(it:Addr)(tn:Nat->Heap->Prop):Prop where
 mem:it∈fp
 obj:∀i h,tn i h->∀b∈fp,∃o,h.get? b=some o/\∀v,o.data≠.cell v
 keep:∀i h h',tn i h->(∀b∈fp,∀o,h.get? b=some o->h'.get? b=some o)->tn i h'
 item:∀(X:Cx),X.prog=P->X.w=w->X.K=K->X.calm=true->∀(i:Nat) (pins:List (Addr×Obj)) (s:Shared) (O:St) (H:Hp) (E:Value->Shared->Prop),aF X pins O H s->(∀b∈fp,gO X pins H b)->tn i s.heap->J.go i H->
  wpAny (model P w) X.A (pyNext (.ref it)) (fun r s1=>∃u,r=some u/\
   wpAny (model P w) X.A (letOwnedTupleGo tg (.ref it) u) (fun _ s2=>∃x H',aF X pins O H' s2/\aR x u/\J.yld i H x H'/\tn (i+1) s2.heap/\∀b∈fp,H' b=none) E s1) E s
 done:∀(X:Cx),X.prog=P->X.w=w->X.K=K->X.calm=true->∀(i:Nat) (pins:List (Addr×Obj)) (s:Shared) (O:St) (H:Hp) (E:Value->Shared->Prop),aF X pins O H s->(∀b∈fp,gO X pins H b)->tn i s.heap->J.stop i H->
  wpAny (model P w) X.A (pyNext (.ref it)) (fun r s1=>r=none/\aF X pins O H s1) E s
 self:∀(A:Around) (i:Nat) (s:Shared) (Q:Value->Shared->Prop) (E:Value->Shared->Prop),tn i s.heap->Q (.ref it) s->wpAny (model P w) A (pyIter (.ref it)) Q E s
abbrev TI:=St->Hp->(It->Hp->Prop)->Prop
def PIE(X:Cx)(pins:List (Addr×Obj))(O:St)(tg:Expr)(R:It->Hp->Prop)(itv:Value)(s2:Shared):Prop:=
 ∃(it:Addr) (fp:List Addr) (tn:Nat->Heap->Prop) (J:It) (H':Hp),itv=.ref it/\aF X pins O H' s2/\kK X.prog X.w X.K tg J fp it tn/\tn 0 s2.heap/\(∀b∈fp,gO X pins H' b)/\R J H'
def PI(X:Cx)(tg iter:Expr)(wi:TI):Prop:=
 ∀(pins:List (Addr×Obj)) (s:Shared) (O:St) (H:Hp) (R:It->Hp->Prop),aF X pins O H s->wi O H R->
  wpAny (model X.prog X.w) X.A (eval iter X.env) (fun v s1=>wpAny (model X.prog X.w) X.A (pyIter v) (PIE X pins O tg R) X.xe s1) X.xe s
theorem rN{M:Model}{A:Around}{E:Value->Shared->Prop}{s:Shared}{tg:Expr}{it:Addr}{u:Value}{o:Obj}{n:String}{vs:Array Value}{Q:Unit->Shared->Prop}(ho:s.heap.get? it=some o)(hc:o.cls=.type n)(hd:o.data=.fields vs)
  (hn:["enumerate","zip","dict_itemiterator","dict_reverseitemiterator","odict_iterator","itertools.zip_longest","itertools.pairwise"].contains n=false) (hQ:Q () s):wpAny M A (letOwnedTupleGo tg (.ref it) u) Q E s:=by
 unfold letOwnedTupleGo
 cases tg<;>first
  |exact xaw hQ
  |(cases u<;>first
    |exact xaw hQ
    | (refine xaa (wpAny_load ho ?_)
       rw[hc,hd]
       show wpAny M A (if (["enumerate","zip","dict_itemiterator","dict_reverseitemiterator","odict_iterator","itertools.zip_longest","itertools.pairwise"].contains n&&vs[0]? == some (rawInt _))=true then _ else _) Q E s
       rw[xao (by intro h;rw[hn,xdc] at h;cases h)]
       exact xaw hQ))
def m8(K:xFg)(a:Addr):It:=
 ⟨fun i H=>∃xs x,bD K H a xs/\xs[i]? = some x,fun i H x H'=>H'=H/\∀xs,bD K H a xs->xs[i]? = some x,fun i H=>∃xs,bD K H a xs/\xs.length<=i⟩
def m9(K:xFg)(a:Addr):It:=
 ⟨fun i H=>∃xs x,bO K H a xs/\xs[i]? = some x,fun i H x H'=>H'=H/\∀xs,bO K H a xs->xs[i]? = some x,fun i H=>∃xs,bO K H a xs/\xs.length<=i⟩
def oX(lo:Int)(n:Nat):It:=⟨fun i _=>i<n,fun i H x H'=>H'=H/\x=.int (lo+i),fun i _=>n<=i⟩
theorem Q3{P:Program}{w:World}{K:xFg}{tg:Expr}(a it:Addr):kK P w K tg (m8 K a) [it] it (fun i h=>h.IsListIter it a i) where
 mem:=by simp
 obj:=fun i h st b hb=>by
  have e:b=it:=by simpa using hb
  subst e
  obtain⟨o,e,c,d⟩:=st
  exact⟨o,e,fun v z=>by rw[d] at z;cases z⟩
 keep:=fun i h h' st k=>st.at fun o e=>k it (by simp) o e
 item:=by
  intro X hP hw hK hc i pins s O H E I hf st hg
  subst hP hw hK
  obtain⟨xs,x,hq,hx⟩:=hg
  obtain⟨its,rv,p,hz⟩:=I.list hq
  obtain⟨u,hu,ru⟩:=rv.get hx
  obtain⟨f0,f1,f2,f3,f4,f5⟩:=hf it (by simp)
  refine wpAny_pyNext_list_item st p.isList (x:=u) (by simpa using hu) fun h' st' sb=>?_
  have I1:aF X pins O H { s with heap:=h' }:=I.turned (t':=s.toks) (fun b o hb e=>(sb.2 b hb).trans e) f0 f1 f3 f4 f5
  obtain⟨o,e,c,d⟩:=id st'
  exact⟨u,rfl,rN (s:={ s with heap:=h' }) e c d (by decide) ⟨x,H,I1,ru,⟨rfl,fun ys hy=>by rw[I.list_inj hy hq];exact hx⟩,st',fun b hb=>(hf b hb).1⟩⟩
 done:=by
  intro X hP hw hK hc i pins s O H E I hf st hg
  subst hP hw hK
  obtain⟨xs,hq,hx⟩:=hg
  obtain⟨its,rv,p,hz⟩:=I.list hq
  obtain⟨f0,f1,f2,f3,f4,f5⟩:=hf it (by simp)
  have hl:=rv.length
  exact wpAny_pyNext_list_end (I.ok.hd hc) st p.isList (by simp;omega) fun h' eb=>⟨rfl,I.turned (t':=s.toks) (fun b o hb e=>eb b o hb e) f0 f1 f3 f4 f5⟩
 self:=fun _ _ _ _ _ st h=>wpAny_pyIter_listiter st h
theorem Q4{P:Program}{w:World}{K:xFg}{tg:Expr}(a it:Addr):kK P w K tg (m9 K a) [it] it (fun i h=>h.IsTupleIter it a i) where
 mem:=by simp
 obj:=fun i h st b hb=>by
  have e:b=it:=by simpa using hb
  subst e
  obtain⟨o,e,c,d⟩:=st
  exact⟨o,e,fun v z=>by rw[d] at z;cases z⟩
 keep:=fun i h h' st k=>st.at fun o e=>k it (by simp) o e
 item:=by
  intro X hP hw hK hc i pins s O H E I hf st hg
  subst hP hw hK
  obtain⟨xs,x,hq,hx⟩:=hg
  obtain⟨its,rv,p,hz⟩:=I.tuple hq
  obtain⟨u,hu,ru⟩:=rv.get hx
  obtain⟨f0,f1,f2,f3,f4,f5⟩:=hf it (by simp)
  refine wpAny_pyNext_tuple_item st (show s.heap.IsTuple a its.toArray from p) (x:=u) (by simpa using hu) fun h' st' sb=>?_
  have I1:aF X pins O H { s with heap:=h' }:=I.turned (t':=s.toks) (fun b o hb e=>(sb.2 b hb).trans e) f0 f1 f3 f4 f5
  obtain⟨o,e,c,d⟩:=id st'
  exact⟨u,rfl,rN (s:={ s with heap:=h' }) e c d (by decide) ⟨x,H,I1,ru,⟨rfl,fun ys hy=>by rw[I.tuple_inj hy hq];exact hx⟩,st',fun b hb=>(hf b hb).1⟩⟩
 done:=by
  intro X hP hw hK hc i pins s O H E I hf st hg
  subst hP hw hK
  obtain⟨xs,hq,hx⟩:=hg
  obtain⟨its,rv,p,hz⟩:=I.tuple hq
  obtain⟨f0,f1,f2,f3,f4,f5⟩:=hf it (by simp)
  have hl:=rv.length
  exact wpAny_pyNext_tuple_end (I.ok.hd hc) st (show s.heap.IsTuple a its.toArray from p) (by simp;omega) fun h' eb=>⟨rfl,I.turned (t':=s.toks) (fun b o hb e=>eb b o hb e) f0 f1 f3 f4 f5⟩
 self:=fun _ _ _ _ _ st h=>wpAny_pyIter_tupleiter st h
theorem Q5{P:Program}{w:World}{K:xFg}{tg:Expr}(it:Addr)(lo:Int)(n:Nat):kK P w K tg (oX lo n) [it] it (fun i h=>IsRangeIter h it (lo+(i:Nat)*1) ((n:Int)-(i:Nat)) 1) where
 mem:=by simp
 obj:=fun i h st b hb=>by
  have e:b=it:=by simpa using hb
  subst e
  exact⟨_,st,fun v z=>by
   have z':Data.fields _=Data.cell v:=z
   cases z'⟩
 keep:=fun i h h' st k=>k it (by simp) _ st
 item:=by
  intro X hP hw hK hc i pins s O H E I hf st hg
  subst hP hw hK
  obtain⟨f0,f1,f2,f3,f4,f5⟩:=hf it (by simp)
  have W:=Walks.range (prog:=X.prog) (w:=X.w) (I.ok.hd hc) it lo 1 n
  refine W.item i s _ _ hg st fun v h' tk hv st' kk=>?_
  obtain⟨t,rfl⟩:=hv
  have I1:aF X pins O H { s with heap:=h',toks:=tk }:=I.turned (fun b o hb e=>kk b o (by simpa using hb) e) f0 f1 f3 f4 f5
  refine⟨_,rfl,rN (s:={ s with heap:=h',toks:=tk }) (n:="range_iterator") st' rfl rfl (by decide) ⟨.int (lo+i),H,I1,⟨t,?_⟩,⟨rfl,rfl⟩,st',fun b hb=>(hf b hb).1⟩⟩
  rw[Int.mul_one]
 done:=by
  intro X hP hw hK hc i pins s O H E I hf st hg
  subst hP hw hK
  obtain⟨f0,f1,f2,f3,f4,f5⟩:=hf it (by simp)
  exact wpAny_pyNext_range_end (I.ok.hd hc) st (by have:n<=i:=hg;omega) fun h' eb=>⟨rfl,I.turned (t':=s.toks) (fun b o hb e=>eb b o hb e) f0 f1 f3 f4 f5⟩
 self:=fun _ _ _ _ _ st h=>wpAny_pyIter_rangeiter st h
end L2
namespace L2
open PySem.Spec PyProof.Rows
section
variable{X:Cx}{tg:Expr}
def BA(K:xFg)(tl:TE):TI:=fun O H R=>tl O H fun x H1=>∃a,x=.ref a/\(∃xs,bD K H1 a xs)/\R (m8 K a) H1
def BB(K:xFg)(tl:TE):TI:=fun O H R=>tl O H fun x H1=>∃a,x=.ref a/\(∃xs,bO K H1 a xs)/\R (m9 K a) H1
theorem Q6{l:Expr}{tl:TE}(hl:PE X l tl):PI X tg l (BA X.K tl):=by
 intro pins s O H R I h
 refine aT (hl pins s O H _ I h) fun v s1 ⟨x,H1,I1,r1,q1⟩=>?_
 obtain⟨a,e,⟨xs,hq⟩,q⟩:=q1
 subst e
 cases r1
 obtain⟨its,rv,p,hz⟩:=I1.list hq
 refine wpAny_pyIter_list p.isList ?_
 refine⟨s1.heap.objs.size,[s1.heap.objs.size],_,_,H1,rfl,I1.kept (t':=s1.toks) fun b o e=>xad _ e,Q3 a _,⟨_,xaz _ rfl,rfl,rfl⟩,fun b hb=>?_,q⟩
 have e:b=s1.heap.objs.size:=by simpa using hb
 subst e
 exact I1.fpOk (xaf _) (I1.hok.fresh (xaf _))
theorem Q7{l:Expr}{tl:TE}(hl:PE X l tl):PI X tg l (BB X.K tl):=by
 intro pins s O H R I h
 refine aT (hl pins s O H _ I h) fun v s1 ⟨x,H1,I1,r1,q1⟩=>?_
 obtain⟨a,e,⟨xs,hq⟩,q⟩:=q1
 subst e
 cases r1
 obtain⟨its,rv,p,hz⟩:=I1.tuple hq
 refine wpAny_pyIter_tuple (show s1.heap.IsTuple a its.toArray from p) ?_
 refine⟨s1.heap.objs.size,[s1.heap.objs.size],_,_,H1,rfl,I1.kept (t':=s1.toks) fun b o e=>xad _ e,Q4 a _,⟨_,xaz _ rfl,rfl,rfl⟩,fun b hb=>?_,q⟩
 have e:b=s1.heap.objs.size:=by simpa using hb
 subst e
 exact I1.fpOk (xaf _) (I1.hok.fresh (xaf _))
theorem BC{pins:List (Addr×Obj)}{O:St}{H:Hp}{s:Shared}{R:It->Hp->Prop}{E:Value->Shared->Prop}{lo hi:Int}{t u v:Tok}{tk:Nat}(I:aF X pins O H s)(h1:-(2^62)<=lo)(h2:lo<2^62)(h3:-(2^62)<=hi)(h4:hi<2^62)
  (q:R (oX lo (hi-lo).toNat) H):wpAny (model X.prog X.w) X.A (pyIter (.ref s.heap.objs.size)) (PIE X pins O tg R) E { s with heap:=s.heap.push { cls:=.type "range",data:=.fields #[.int lo t,.int hi u,.int 1 v] },toks:=tk }:=by
 refine wpAny_pyIter_range (IsRange.new ..) (small_one h1 h2 h3 h4) ?_
 have I1:aF X pins O H { s with heap:=s.heap.push { cls:=.type "range",data:=.fields #[.int lo t,.int hi u,.int 1 v] },toks:=tk }:=I.kept fun b o e=>xad _ e
 refine⟨(s.heap.push { cls:=.type "range",data:=.fields #[.int lo t,.int hi u,.int 1 v] }).objs.size,[(s.heap.push { cls:=.type "range",data:=.fields #[.int lo t,.int hi u,.int 1 v] }).objs.size],_,_,H,rfl,
  I1.kept (t':=tk) fun b o e=>xad _ e,Q5 _ lo (hi-lo).toNat,?_,fun b hb=>?_,q⟩
 ·have e1:lo+((0:Nat):Int)*1=lo:=by simp
  have e2:(((hi-lo).toNat:Nat):Int)-((0:Nat):Int)=Builtin.Range.rangeSize lo hi 1:=by rw[rangeSize_one];split<;>omega
  show IsRangeIter _ _ (lo+((0:Nat):Int)*1) ((((hi-lo).toNat:Nat):Int)-((0:Nat):Int)) 1
  rw[e1,e2]
  exact xaz _ rfl
 ·have e:b=(s.heap.push { cls:=.type "range",data:=.fields #[.int lo t,.int hi u,.int 1 v] }).objs.size:=by simpa using hb
  subst e
  exact I1.fpOk (xaf _) (I1.hok.fresh (xaf _))
def Q8(ta:TA):TI:=fun O H R=>ta O H fun vs H1=>∃j:Int,vs=[.int j]/\-(2^62)<=j/\j<2^62/\R (oX 0 j.toNat) H1
def Q9(ta:TA):TI:=fun O H R=>ta O H fun vs H1=>∃i j:Int,vs=[.int i,.int j]/\(-(2^62)<=i/\i<2^62/\-(2^62)<=j/\j<2^62)/\R (oX i (j-i).toNat) H1
theorem RA{a:Expr}{ta:TA}{p pos:Pos}(hg:Gl X "range")(hm:X.mg "range"=none)(ha:PA X [a] ta)(hs:starEach [a] X.env=[(false,eval a X.env)]:=by rfl):PI X tg (.Call (.Name "range" p) [a] [] pos) (Q8 ta):=by
 intro pins s O H R I h
 refine Call_ (lQ I hg hm boot_range (PyProof.Rows.callWith_type1 (aT (ha pos pins s O H _ I h) fun us s1 ⟨vs,H1,I1,r1,q1⟩=>?_) hs rfl))
 obtain⟨j,e,q1,q2,q⟩:=q1
 subst e
 cases r1 with
 |cons r rr=>
  cases rr
  obtain⟨t,rfl⟩:=r
  exact call_range_1 (BC I1 (by omega) (by omega) q1 q2 (by simpa using q))
theorem RB{a b:Expr}{ta:TA}{p pos:Pos}(hg:Gl X "range")(hm:X.mg "range"=none)(ha:PA X [a,b] ta)(hs:starEach [a,b] X.env=[(false,eval a X.env),(false,eval b X.env)]:=by rfl)(hs2:starEach [b] X.env=[(false,eval b X.env)]:=by rfl) :
  PI X tg (.Call (.Name "range" p) [a,b] [] pos) (Q9 ta):=by
 intro pins s O H R I h
 refine Call_ (lQ I hg hm boot_range (PyProof.Rows.callWith_type1 (aT (ha pos pins s O H _ I h) fun us s1 ⟨vs,H1,I1,r1,q1⟩=>?_) (by rw[hs,hs2]) (by rw[hs2];rfl)))
 obtain⟨i,j,e,⟨q1,q2,q3,q4⟩,q⟩:=q1
 subst e
 cases r1 with
 |cons r rr=>
  cases rr with
  |cons r' rr=>
   cases rr
   obtain⟨t,rfl⟩:=r
   obtain⟨t',rfl⟩:=r'
   exact call_range_2 (BC I1 q1 q2 q3 q4 q)
def RC(wi:TI)(g:TG)(tb:TS):TS:=fun D O H=>wi O H fun J H1=>∃W:Nat->Nat->St->Hp->Prop,(∃m,W 0 m O H1)/\∀i m O H,W i m O H->
 (J.stop i H/\D.nx O H)\/(J.go i H/\∃N:St->Hp->Prop,(∀O' H',N O' H'->∃m',m'<m/\W (i+1) m' O' H')/\∀x H',J.yld i H x H'->g x O H' fun σ2 H2=>tb { D with nx:=N,ct:=N,bk:=D.nx } σ2 H2)
def oY(fp:List Addr)(h:Heap):List (Addr×Obj):=fp.filterMap fun b=>(h.get? b).map fun o=>(b,o)
theorem rO{fp:List Addr}{h:Heap}{b:Addr}{o:Obj}(hb:b∈fp)(e:h.get? b=some o):(b,o)∈oY fp h:=List.mem_filterMap.mpr ⟨b,hb,by rw[e];rfl⟩
theorem RD{fp:List Addr}{h:Heap}{p:Addr×Obj}(hp:p∈oY fp h):p.1∈fp/\h.get? p.1=some p.2:=by
 obtain⟨b,hb,e⟩:=List.mem_filterMap.mp hp
 cases q:h.get? b with
 |none=>rw[q] at e;cases e
 |some o=>
  rw[q] at e
  have e':(b,o)=p:=xba e
  subst e'
  exact⟨hb,q⟩
theorem aF.pinned{pins:List (Addr×Obj)}{O:St}{H:Hp}{s:Shared}{fp:List Addr}(I:aF X pins O H s)(hf:∀b∈fp,gO X pins H b)(ho:∀b∈fp,∃o,s.heap.get? b=some o/\∀v,o.data≠.cell v):aF X (pins++oY fp s.heap) O H s:=
 I.pins_of fun p hp=>(xbn.mp hp).elim (fun z=>I.pin p (xbe _ z)) fun z=>by
  obtain⟨hb,e⟩:=RD z
  obtain⟨f0,f1,f2,_⟩:=hf p.1 hb
  obtain⟨o,e',d⟩:=ho p.1 hb
  rw[e] at e';cases e'
  exact⟨e,f0,f1,f2,d⟩
theorem aF.unpinned{pins pl:List (Addr×Obj)}{O:St}{H:Hp}{s:Shared}(I:aF X (pins++pl) O H s):aF X pins O H s:=I.pins_of fun p hp=>I.pin p (xbe _ (List.mem_append_left _ hp))
theorem BD{iter:Expr}{body:List Stmt}{wi:TI}{g:TG}{tb:TS}{pos:Pos}(hp:PassesOwn (model X.prog X.w) X.A X.env X.xe)(hc:X.calm=true)(hi:PI X tg iter wi)(hg:PG X tg g)(hb:dY X body tb)
  (hs:∀x,foldedSetIterable iter X.env x=pure x:=by intro _;rfl):PS X (.For tg iter body [] pos) (RC wi g tb):=by
 intro pins s O H D I h
 refine wpAny_For (aT (hi pins s O H _ I h) fun v s1 h1=>aT h1 fun itv s2 h2=>?_) hs
 obtain⟨it,fp,tn,J,H2,e,I2,T,st2,f2,W,⟨m0,w0⟩,turn⟩:=h2
 subst e
 have stat:∀{H':Hp},(∀b∈fp,H' b=none)->∀b∈fp,gO X pins H' b:=fun hn b hb=>⟨hn b hb,(f2 b hb).2⟩
 refine codeAny_forLoop_any (fun n s'=>∃i O' H',aF X pins O' H' s'/\tn i s'.heap/\(∀b∈fp,H' b=none)/\W i n O' H') ?_ m0 ⟨0,O,H2,I2,st2,fun b hb=>(f2 b hb).1,w0⟩
 rintro n s3 ⟨i,σ3,H3,I3,st3,fr3,w3⟩
 rcases turn i n σ3 H3 w3 with⟨stop,qn⟩|⟨go,N,hN,step⟩
 ·refine wpAny_passesOwn hp (aT (T.done X rfl rfl rfl hc i pins s3 σ3 H3 X.xe I3 (stat fr3) st3 stop) fun r s4 ⟨hr,I4⟩=>?_)
  subst hr
  exact wpAny_execs_nil ⟨σ3,H3,I4,qn⟩
 ·refine wpAny_passesOwn hp (aT (T.item X rfl rfl rfl hc i pins s3 σ3 H3 X.xe I3 (stat fr3) st3 go) fun r s4 ⟨u,hr,h4⟩=>?_)
  subst hr
  refine wpAny_passesOwn hp (aT h4 fun _ s5 ⟨x,H5,I5,r5,y5,st5,fr5⟩=>?_)
  have I5':=I5.pinned (stat fr5) (T.obj _ _ st5)
  refine wpAny_passesOwn hp (aT (hg _ s5 σ3 H5 x u _ I5' r5 (step x H5 y5)) fun _ s6 ⟨σ6,H6,I6,q6⟩=>?_)
  refine wpAny_passesOwn hp (aT (hb _ s6 σ6 H6 _ I6 q6) fun f s7 q7=>?_)
  have again:∀{σ7:St} {H7:Hp},aF X (pins++oY fp s5.heap) σ7 H7 s7->N σ7 H7->∃m,m<n/\∃i O' H',aF X pins O' H' s7/\tn i s7.heap/\(∀b∈fp,H' b=none)/\W i m O' H':=fun {σ7 H7} I7 n7=>by
   obtain⟨m',hm,w7⟩:=hN σ7 H7 n7
   refine⟨m',hm,i+1,σ7,H7,I7.unpinned,T.keep _ _ _ st5 fun b hb o e=>(I7.pin (b,o) (xbe _ (xbe _ (rO hb e)))).1,fun b hb=>?_,w7⟩
   obtain⟨o,e,d⟩:=T.obj _ _ st5 b hb
   exact(I7.pin (b,o) (xbe _ (xbe _ (rO hb e)))).2.1
  cases f with
  |next=>obtain⟨σ7,H7,I7,n7⟩:=q7;exact again I7 n7
  |cont=>obtain⟨σ7,H7,I7,n7⟩:=q7;exact again I7 n7
  |brk=>obtain⟨σ7,H7,I7,q7⟩:=q7;exact⟨σ7,H7,I7.unpinned,q7⟩
  |ret v=>obtain⟨x7,σ7,H7,I7,r7,q7⟩:=q7;exact⟨x7,σ7,H7,I7.unpinned,r7,q7⟩
end
end L2
namespace L2
open PySem.Spec PyProof.Rows
abbrev R2:=V->V->Hp->VK->Prop
def bR(X:Cx)(f:Value->Value->Sem Value)(r:R2):Prop:=
 ∀(pins:List (Addr×Obj)) (s:Shared) (O:St) (H:Hp) (x y:V) (v u:Value) (Q:VK),aF X pins O H s->aR x v->aR y u->r x y H Q->
  wpAny (model X.prog X.w) X.A (f v u) (EP X pins O Q) X.xe s
def rP(X:Cx)(f:Value->Sem Value)(r:V->Hp->VK->Prop):Prop:=
 ∀(pins:List (Addr×Obj)) (s:Shared) (O:St) (H:Hp) (x:V) (v:Value) (Q:VK),aF X pins O H s->aR x v->r x H Q->
  wpAny (model X.prog X.w) X.A (f v) (EP X pins O Q) X.xe s
def eR(X:Cx)(f:Value)(r:List V->Hp->VK->Prop):Prop:=
 ∀(pins:List (Addr×Obj)) (s:Shared) (O:St) (H:Hp) (xs:List V) (us:List Value) (Q:VK),aF X pins O H s->aX xs us->r xs H Q->
  wpAny (model X.prog X.w) X.A (call f us) (EP X pins O Q) X.xe s
def nA(r:R2)(ta tb:TE):TE:=fun O H Q=>ta O H fun x H1=>tb O H1 fun y H2=>r x y H2 Q
def tUn(r:V->Hp->VK->Prop)(ta:TE):TE:=fun O H Q=>ta O H fun x H1=>r x H1 Q
def rI(C:Int->Int->Prop)(g:Int->Int->V):R2:=fun x y H Q=>∃i j,x=.int i/\y=.int j/\C i j/\Q (g i j) H
def jX(g:Int->Int->V):R2:=fun x y H Q=>∃i j,x=.int i/\y=.int j/\Q (g i j) H
def rU(g:Int->V):V->Hp->VK->Prop:=fun x H Q=>∃i,x=.int i/\Q (g i) H
section
variable{X:Cx}{a b c:Expr}{ta tb tc:TE}{pos:Pos}
theorem rQ(ha:PE X a ta)(hb:PE X b tb){pins:List (Addr×Obj)}{s:Shared}{O:St}{H:Hp}{R:V->V->Hp->Prop}(I:aF X pins O H s)
  (h:ta O H fun x H1=>tb O H1 fun y H2=>R x y H2) {Q:Value->Shared->Prop} {f:Value->Value->Sem Value}
  (hf:∀v u s2 x y H2,aF X pins O H2 s2->aR x v->aR y u->R x y H2->wpAny (model X.prog X.w) X.A (f v u) Q X.xe s2) :
  wpAny (model X.prog X.w) X.A (eval a X.env) (fun v s₁=>wpAny (model X.prog X.w) X.A (eval b X.env) (fun u s₂=>wpAny (model X.prog X.w) X.A (f v u) Q X.xe s₂) X.xe s₁) X.xe s:=by
 refine aT (ha pins s O H _ I h) fun v s1 ⟨x,H1,I1,r1,q1⟩=>?_
 refine aT (hb pins s1 O H1 _ I1 q1) fun u s2 ⟨y,H2,I2,r2,q2⟩=>?_
 exact hf v u s2 x y H2 I2 r1 r2 q2
theorem BE{op:Operator}{r:R2}(ho:bR X (binaryOp op) r)(ha:PE X a ta)(hb:PE X b tb):PE X (.BinOp a op b pos) (nA r ta tb):=by
 intro pins s O H Q I h
 exact wpAny_BinOp (rQ ha hb I h fun v u s2 x y H2 I2 rx ry q=>ho pins s2 O H2 x y v u Q I2 rx ry q)
theorem RF{op:UnaryOp}{r:V->Hp->VK->Prop}(ho:rP X (unaryOp op) r)(ha:PE X a ta):PE X (.UnaryOp op a pos) (tUn r ta):=by
 intro pins s O H Q I h
 exact UnaryOp_ (aT (ha pins s O H _ I h) fun v s1 ⟨x,H1,I1,r1,q1⟩=>ho pins s1 O H1 x v Q I1 r1 q1)
theorem oZ{f:Value->Value->Sem Value}{C:Int->Int->Prop}{g:Int->Int->Int}
  (rule:∀(i j:Int) (t u:Tok) (s:Shared) (Q:Value->Shared->Prop) (E:Value->Shared->Prop),C i j->Q (.int (g i j) s.toks) { s with toks:=s.toks+1 }->wpAny (model X.prog X.w) X.A (f (.int i t) (.int j u)) Q E s) :
  bR X f (rI C fun i j=>.int (g i j)):=by
 intro pins s O H x y v u Q I rx ry h
 obtain⟨i,j,rfl,rfl,hc,q⟩:=h
 obtain⟨t,rfl⟩:=rx
 obtain⟨t',rfl⟩:=ry
 exact rule i j t t' s _ _ hc ⟨.int (g i j),H,I.tok _,⟨_,rfl⟩,q⟩
theorem RG{f:Value->Value->Sem Value}{g:Int->Int->Int}
  (rule:∀(i j:Int) (t u:Tok) (s:Shared) (Q:Value->Shared->Prop) (E:Value->Shared->Prop),Q (.int (g i j) s.toks) { s with toks:=s.toks+1 }->wpAny (model X.prog X.w) X.A (f (.int i t) (.int j u)) Q E s) :
  bR X f (jX fun i j=>.int (g i j)):=by
 intro pins s O H x y v u Q I rx ry h
 obtain⟨i,j,rfl,rfl,q⟩:=h
 obtain⟨t,rfl⟩:=rx
 obtain⟨t',rfl⟩:=ry
 exact rule i j t t' s _ _ ⟨.int (g i j),H,I.tok _,⟨_,rfl⟩,q⟩
theorem rR{f:Value->Value->Sem Value}{g:Int->Int->Bool}
  (rule:∀(i j:Int) (t u:Tok) (s:Shared) (Q:Value->Shared->Prop) (E:Value->Shared->Prop),Q (.bool (g i j)) s->wpAny (model X.prog X.w) X.A (f (.int i t) (.int j u)) Q E s) :
  bR X f (jX fun i j=>.bl (g i j)):=by
 intro pins s O H x y v u Q I rx ry h
 obtain⟨i,j,rfl,rfl,q⟩:=h
 obtain⟨t,rfl⟩:=rx
 obtain⟨t',rfl⟩:=ry
 exact rule i j t t' s _ _ ⟨.bl (g i j),H,I,rfl,q⟩
def RH(i j:Int):Prop:=0<=j/\j<=1000000/\i.natAbs<2^64
theorem RI:bR X (binaryOp .Add) (jX fun i j=>.int (i+j)):=RG fun _ _ _ _ _ _ _ q=>add_int q
theorem RJ:bR X (binaryOp .Mod) (rI (fun _ j=>j≠0) fun i j=>.int (i.fmod j)):=oZ fun _ _ _ _ _ _ _ hc q=>mod_int' hc q
theorem RK:bR X (binaryOp .Pow) (rI RH fun i j=>.int (i^j.toNat)):=oZ fun _ _ _ _ _ _ _ hc q=>pow_int_small hc.1 hc.2.1 hc.2.2 q
theorem unI{f:Value->Sem Value}{g:Int->Int}
  (rule:∀(i:Int) (t:Tok) (s:Shared) (Q:Value->Shared->Prop) (E:Value->Shared->Prop),Q (.int (g i) s.toks) { s with toks:=s.toks+1 }->wpAny (model X.prog X.w) X.A (f (.int i t)) Q E s) :
  rP X f (rU fun i=>.int (g i)):=by
 intro pins s O H x v Q I rx h
 obtain⟨i,rfl,q⟩:=h
 obtain⟨t,rfl⟩:=rx
 exact rule i t s _ _ ⟨.int (g i),H,I.tok _,⟨_,rfl⟩,q⟩
theorem RM:rP X (unaryOp .USub) (rU fun i=>.int (-i)):=unI fun _ _ _ _ _ q=>neg_int q
end
section
variable{X:Cx}{a b c:Expr}{ta tb tc:TE}{pos:Pos}
theorem o0{pins:List (Addr×Obj)}{O:St}{H:Hp}{s:Shared}{Q:VK}{k k':Bool}(I:aF X pins O H s)(q:Q (.bl k) H)(e:k=k'):EP X pins O Q (.bool k') s:=by
 subst e
 exact⟨.bl k,H,I,rfl,q⟩
theorem RN:bR X (compareOp .Lt) (jX fun i j=>.bl (decide (i<j))):=rR fun _ _ _ _ _ _ _ q=>lt_int q
theorem RO:bR X (compareOp .LtE) (jX fun i j=>.bl (decide (i<=j))):=rR fun _ _ _ _ _ _ _ q=>le_int q
theorem RP:bR X (compareOp .Gt) (jX fun i j=>.bl (decide (j<i))):=rR fun _ _ _ _ _ _ _ q=>gt_int q
theorem RQ:bR X (compareOp .GtE) (jX fun i j=>.bl (decide (j<=i))):=rR fun _ _ _ _ _ _ _ q=>ge_int q
theorem RS:bR X (compareOp .In) (fun x y H Q=>∃i j,x=.str i/\y=.str j/\Q (.bl (!(Builtin.Str.occurrences j i 0 j.length 1).isEmpty)) H):=by
 intro pins s O H x y v u Q I rx ry h
 obtain⟨i,j,rfl,rfl,q⟩:=h
 obtain⟨t,rfl⟩:=rx
 obtain⟨t',rfl⟩:=ry
 exact in_str (o0 I q rfl)
theorem RT:bR X (compareOp .Is) (fun x y H Q=>y=.non/\Q (.bl (decide (x=.non))) H):=by
 intro pins s O H x y v u Q I rx ry h
 obtain⟨rfl,q⟩:=h
 cases ry
 refine is_none_gen (o0 I q ?_)
 cases x<;>first
  |(cases rx;rfl)
  |(obtain⟨t,rfl⟩:=rx;rfl)
theorem RU:bR X (compareOp .IsNot) (fun x y H Q=>y=.non/\Q (.bl (!decide (x=.non))) H):=by
 intro pins s O H x y v u Q I rx ry h
 obtain⟨rfl,q⟩:=h
 cases ry
 refine isnot_none_gen (o0 I q ?_)
 cases x<;>first
  |(cases rx;rfl)
  |(obtain⟨t,rfl⟩:=rx;rfl)
theorem bR.or{f:Value->Value->Sem Value}{r r':R2}(h:bR X f r)(h':bR X f r'):bR X f (fun x y H Q=>r x y H Q\/r' x y H Q):=by
 intro pins s O H x y v u Q I rx ry q
 rcases q with q|q
 ·exact h pins s O H x y v u Q I rx ry q
 ·exact h' pins s O H x y v u Q I rx ry q
theorem RV{op:CmpOp}{r:R2}(ho:bR X (compareOp op) r)(ha:PE X a ta)(hb:PE X b tb)(hm:behindInMarks op b=false):PE X (.Compare a [op] [b] pos) (nA r ta tb):=by
 intro pins s O H Q I h
 exact wpAny_Compare1 (rQ ha hb I h fun v u s2 x y H2 I2 rx ry q=>ho pins s2 O H2 x y v u Q I2 rx ry q) hm
def vS(t:TE):TT:=fun O H Q=>t O H fun x H'=>∃k,x=.bl k/\Q k H'
theorem RX{op:CmpOp}{r:R2}(ho:bR X (compareOp op) r)(ha:PE X a ta)(hb:PE X b tb)(hm:behindInMarks op b=false):PT X (.Compare a [op] [b] pos) (vS (nA r ta tb)):=by
 intro pins s O H Q I h
 refine wpAny_isTrue_Compare1 (aT (ha pins s O H _ I h) fun v s1 ⟨x,H1,I1,r1,q1⟩=>aT (hb pins s1 O H1 _ I1 q1) fun u s2 ⟨y,H2,I2,r2,q2⟩=>
  aT (ho pins s2 O H2 x y v u _ I2 r1 r2 q2) fun c s3 ⟨z,H3,I3,r3,k,e,q3⟩=>?_) hm
 subst e
 cases r3
 exact wpAny_truthy_bool ⟨H3,I3,q3⟩
def BF(r r':R2)(ta tb tc:TE):TE:=fun O H Q=>ta O H fun x H1=>tb O H1 fun y H2=>r x y H2 fun z H3=>∃k,z=.bl k/\
 (if k=true then tc O H3 fun w' H4=>r' y w' H4 Q else Q (.bl false) H3)
theorem RY{op op':CmpOp}{r r':R2}(ho:bR X (compareOp op) r)(ho':bR X (compareOp op') r')(ha:PE X a ta)(hb:PE X b tb)(hc:PE X c tc)
  (hm:lastMarks [op,op'] [b,c]=false:=by with_unfolding_all rfl):PT X (.Compare a [op,op'] [b,c] pos) (vS (BF r r' ta tb tc)):=by
 intro pins s O H Q I h
 refine isTrue_chain (aT (ha pins s O H _ I h) fun v s1 ⟨x,H1,I1,r1,q1⟩=>test_link (aT (hb pins s1 O H1 _ I1 q1) fun u s2 ⟨y,H2,I2,r2,q2⟩=>
  aT (ho pins s2 O H2 x y v u _ I2 r1 r2 q2) fun d s3 ⟨z,H3,I3,r3,k,e,q3⟩=>?_)) hm
 subst e
 cases r3
 refine wpAny_truthy_bool ?_
 cases k with
 |false=>
  obtain⟨k',e',q'⟩:=q3
  cases e'
  exact ite_ff ⟨H3,I3,q'⟩
 |true=>
  refine ite_tt (test_last (aT (hc pins s3 O H3 _ I3 q3) fun w' s4 ⟨z',H4,I4,r4,q4⟩=>aT (ho' pins s4 O H4 y z' u w' _ I4 r2 r4 q4) fun d' s5 ⟨z2,H5,I5,r5,k2,e2,q5⟩=>?_))
  subst e2
  cases r5
  exact wpAny_truthy_bool ⟨H5,I5,q5⟩
theorem rS:(sizeLine:Nat)<2^63:=by rw[sizeLine_eq];decide
theorem RZ:bR X (binaryOp .Add) (fun x y H Q=>∃i j,x=.str i/\y=.str j/\i.length+j.length<=sizeLine/\Q (.str (i++j)) H):=by
 intro pins s O H x y v u Q I rx ry h
 obtain⟨i,j,rfl,rfl,hz,q⟩:=h
 obtain⟨t,rfl⟩:=rx
 obtain⟨t',rfl⟩:=ry
 exact add_str (fun t' tk=>⟨.str (i++j),H,I.tok _,⟨_,rfl⟩,q⟩) hz
def BG(b:Expr):Prop:=∀o i,subscripted b false o i=operate [o,i] (getItem o i)
theorem R0(ha:PE X a ta)(hb:PE X b tb)(hs:BG b) :
  PE X (.Subscript a b pos) (nA (fun x y H Q=>∃z i c,x=.str z/\y=.int i/\0<=i/\i<2^63/\i<z.length/\z.cps[i.toNat]? = some c/\Q (.str ⟨#[c]⟩) H) ta tb):=by
 intro pins s O H Q I h
 refine Subscript_ (rQ ha hb I h fun v u s2 x y H2 I2 rx ry q=>?_)
 obtain⟨z,i,c,rfl,rfl,h0,h63,h1,hc,q⟩:=q
 obtain⟨t,rfl⟩:=rx
 obtain⟨t',rfl⟩:=ry
 have e:seqIndex? i z.length=some i.toNat:=PySem.StrLaws.seqIndex_nonneg h0 h1
 exact tail_any (typeIs_str s2 z t) slot_str_getitem.lookup (getItem_str (c:=c) (by
  have e1:decide (i < -(2^63:Int))=false:=xae (by omega)
  have e2:decide (i ≥ 2^63)=false:=xae (by omega)
  rw[e1,e2]<;>rfl) (by rw[e];exact hc) ⟨.str ⟨#[c]⟩,H2,I2.tok _,⟨_,rfl⟩,q⟩) (hs _ _)
theorem lR{x:V}{us:List Value}(r:aX [x] us):∃u,us=[u]/\aR x u:=by
 cases r with
 |cons r1 r2=>cases r2;exact⟨_,rfl,r1⟩
theorem rT{x y:V}{us:List Value}(r:aX [x,y] us):∃u w',us=[u,w']/\aR x u/\aR y w':=by
 cases r with
 |cons r1 r2=>
  cases r2 with
  |cons r3 r4=>cases r4;exact⟨_,_,rfl,r1,r3⟩
theorem R1(hc:X.calm=true):eR X (.builtin "max") (fun xs H Q=>∃i j,xs=[.int i,.int j]/\Q (.int (if j>i then j else i)) H):=by
 intro pins s O H xs us Q I r h
 obtain⟨i,j,rfl,q⟩:=h
 obtain⟨u,w',rfl,⟨t,rfl⟩,⟨t',rfl⟩⟩:=rT r
 refine max_two_ints (I.ok.hd hc) fun h' tk k=>⟨_,H,I.kept k,?_,q⟩
 by_cases hj:j>i
 ·rw[xau hj,xau hj];exact⟨_,rfl⟩
 ·rw[xao hj,xao hj];exact⟨_,rfl⟩
theorem R3(hc:X.calm=true):eR X (.builtin "min") (fun xs H Q=>∃i j,xs=[.int i,.int j]/\Q (.int (if j<i then j else i)) H):=by
 intro pins s O H xs us Q I r h
 obtain⟨i,j,rfl,q⟩:=h
 obtain⟨u,w',rfl,⟨t,rfl⟩,⟨t',rfl⟩⟩:=rT r
 refine min_two_ints (I.ok.hd hc) fun h' tk k=>⟨_,H,I.kept k,?_,q⟩
 by_cases hj:j<i
 ·rw[xau hj,xau hj];exact⟨_,rfl⟩
 ·rw[xao hj,xao hj];exact⟨_,rfl⟩
theorem R4:eR X (.type "int") (fun xs H Q=>(∃i,xs=[.int i]/\Q (.int i) H)\/∃k,xs=[.bl k]/\Q (.int (if k then 1 else 0)) H):=by
 intro pins s O H xs us Q I r h
 rcases h with⟨i,rfl,q⟩|⟨k,rfl,q⟩
 ·obtain⟨u,rfl,t,rfl⟩:=lR r
  exact call_int_int ⟨.int i,H,I,⟨_,rfl⟩,q⟩
 ·obtain⟨u,rfl,r1⟩:=lR r
  cases r1
  exact call_int_bool ⟨.int (if k then 1 else 0),H,I.tok _,⟨_,rfl⟩,q⟩
theorem R5:eR X (.type "str") (fun xs H Q=>∃i,xs=[.int i]/\i.natAbs.log2<1920/\Q (.str (toString i)) H):=by
 intro pins s O H xs us Q I r h
 obtain⟨i,rfl,hz,q⟩:=h
 obtain⟨u,rfl,t,rfl⟩:=lR r
 exact PySem.P.str_of_int hz ⟨.str _,H,I.tok _,⟨_,rfl⟩,q⟩
end
end L2
namespace L2
open PySem.Spec PyProof.Rows
structure c6(k:Nat)(A:Around):Prop where
 hd:A.handled=none
 dp:A.depth+3*k+5<recursionLimit
 un:A.units+16*k+200<cLine
theorem c6.mono{j k:Nat}{A:Around}(r:c6 k A)(h:j<=k):c6 j A:=⟨r.hd,by have:=r.dp;omega,by have:=r.un;omega⟩
theorem c6.deeper{k:Nat}{A:Around}(r:c6 (k+1) A)(env:Env):c6 k (A.deeper env):=
 ⟨r.hd,by have:=r.dp;show A.depth+1+3*k+5<_;omega,by have:=r.un;show A.units+3+16*k+200<_;omega⟩
theorem c6.depth{k:Nat}{A:Around}(r:c6 k A):A.depth<recursionLimit:=by have:=r.dp;omega
def BH:TA:=fun _ H Q=>Q [] H
def R6(ta:TE)(tr:TA):TA:=fun O H Q=>ta O H fun x H1=>tr O H1 fun xs H2=>Q (x::xs) H2
section
variable{X:Cx}{e:Expr}{es:List Expr}{te:TE}{t:TA}{pos:Pos}
theorem iM:PA X [] BH:=fun _ _ _ _ H Q I h=>Calls.spliced_nil ⟨[],H,I,.nil,h⟩
theorem dZ(ha:PE X e te)(hr:PA X es t)(hs:starEach (e::es) X.env=(false,eval e X.env)::starEach es X.env:=by rfl):PA X (e::es) (R6 te t):=by
 intro pos pins s O H Q I h
 rw[hs]
 show wpAny _ _ (spliced ((false,eval e X.env)::backTo pos (starEach es X.env))) _ _ s
 refine Calls.spliced_cons (aT (ha pins s O H _ I h) fun u s1 ⟨x,H1,I1,r1,q1⟩=>?_)
 exact aT (hr pos pins s1 O H1 _ I1 q1) fun us s2 ⟨xs,H2,I2,r2,q2⟩=>⟨x::xs,H2,I2,.cons r1 r2,q2⟩
def R7(t:TA):TE:=fun O H Q=>t O H fun xs H1=>xs.length<=sizeLine/\∀p,H1 p=none->Q (.ref p) (aS H1 p (.tup xs))
def R8(t:TA):TE:=fun O H Q=>t O H fun xs H1=>xs.length<=sizeLine/\∀p,H1 p=none->Q (.ref p) (aS H1 p (.lst xs))
theorem rV{x1}(h:PA X es t):PE X (.Tuple es x1 pos) (R7 t):=by
 intro pins s O H Q I hq
 refine wpAny_Tuple_spliced (aT (h pos pins s O H _ I hq) fun us s1 ⟨xs,H1,I1,r,z,q⟩=>⟨by rw[<- r.length];exact z,?_⟩)
 have hf:H1 s1.heap.objs.size=none:=I1.hok.fresh (xaf _)
 refine⟨.ref s1.heap.objs.size,aS H1 s1.heap.objs.size (.tup xs),I1.laid (t':=s1.toks) (fun b u e=>xad _ e) (xaf _) ?_,rfl,q _ hf⟩
 exact⟨z,us,r,⟨_,xaz _ rfl,rfl,⟨_,rfl⟩,rfl⟩⟩
theorem R9(h:PA X es t):PE X (.List es pos) (R8 t):=by
 intro pins s O H Q I hq
 refine wpAny_List_spliced (aT (h pos pins s O H _ I hq) fun us s1 ⟨xs,H1,I1,r,z,q⟩=>⟨by rw[<- r.length];exact z,?_⟩)
 have hf:H1 s1.heap.objs.size=none:=I1.hok.fresh (xaf _)
 refine⟨.ref s1.heap.objs.size,aS H1 s1.heap.objs.size (.lst xs),I1.laid (t':=s1.toks) (fun b u e=>xad _ e) (xaf _) ?_,rfl,q _ hf⟩
 exact⟨z,us,0,r,xaz _ rfl⟩
end
abbrev Sp:=List V->Hp->VK->XK->Prop
abbrev eN:=List Env->Hp->Shared->XK->Value->Shared->Prop
structure rW(P:Program)(w:World)(K:xFg)(mg:Str->Option Value)(base:Heap)(A:Around)(outer:List Env)(s:Shared)(H:Hp):Prop where
 frames:A.frames=some outer
 mod:Mod K mg base
 bs:∀b o,base.get? b=some o->s.heap.get? b=some o/\H b=none
 bsz:base.objs.size<=s.heap.objs.size
 funs:s.heap.FunFrames base outer
 frf:∀b∈cA outer,H b=none
 hok:cY P w H s.heap
 bare:AllBare s.gens
def CE(outer:List Env)(P:Program)(w:World)(H:Hp)(s:Shared)(Q:VK)(u:Value)(s':Shared):Prop:=
 ∃v H',s'.os=s.os/\AllBare s'.gens/\Un (cA outer) [] H H' s.heap s'.heap/\cY P w H' s'.heap/\aR v u/\Q v H'
def CR(CX:eN)(outer:List Env)(P:Program)(w:World)(H:Hp)(s:Shared)(Q:VK)(E:XK)(r:Result)(s':Shared):Prop:=
 match r with
 |.ok (.ret u)=>CE outer P w H s Q u s'
 |.ok _=>False
 |.error e=>CX outer H s E e s'
structure dN(P:Program)(w:World)(K:xFg)(mg:Str->Option Value)(base:Heap)(CX:eN)(k:Nat)(f:Addr)(fd:FuncData)(ps:List Str)(sp:Sp):Prop where
 len:∀vs H Q E,sp vs H Q E->vs.length=ps.length
 run:∀(A:Around) (outer:List Env) (s:Shared) (H:Hp) (args:Args) (us:List Value) (vs:List V) (Q:VK) (E:XK),c6 k A->rW P w K mg base A outer s H->BindsTo s fd args (ps.zip us)->aX vs us->sp vs H Q E->
  codeAny (model P w) A (.call (.ref f) args) (CR CX outer P w H s Q E) s
theorem dN.mono{P:Program}{w:World}{K:xFg}{mg:Str->Option Value}{base:Heap}{CX:eN}{j k:Nat}{f:Addr}{fd:FuncData}{ps:List Str}{sp:Sp}(F:dN P w K mg base CX j f fd ps sp)(h:j<=k) :
  dN P w K mg base CX k f fd ps sp:=⟨F.len,fun A outer s H args us vs Q E hr=>F.run A outer s H args us vs Q E (hr.mono h)⟩
theorem dN.imp{P:Program}{w:World}{K:xFg}{mg:Str->Option Value}{base:Heap}{CX:eN}{k:Nat}{f:Addr}{fd:FuncData}{ps:List Str}{sp sp':Sp}(F:dN P w K mg base CX k f fd ps sp)
  (h:∀vs H Q E,sp' vs H Q E->sp vs H Q E):dN P w K mg base CX k f fd ps sp':=
 ⟨fun vs H Q E q=>F.len vs H Q E (h _ _ _ _ q),fun A outer s H args us vs Q E hr he hb hv hs=>F.run A outer s H args us vs Q E hr he hb hv (h _ _ _ _ hs)⟩
section
variable{X:Cx}{pins:List (Addr×Obj)}{O:St}{H:Hp}{s s':Shared}
theorem aF.env0(I:aF X pins O H s):rW X.prog X.w X.K X.mg X.base X.A X.stack s H:=
 ⟨I.ok.frames,I.ok.mod,I.bs,xav I.ok.bsz I.sz,I.stack,I.stkFree,I.hok,I.bare⟩
theorem aF.after{Q:VK}{u:Value}(I:aF X pins O H s)(h:CE X.stack X.prog X.w H s Q u s'):EP X pins O Q u s':=by
 obtain⟨v,H',os,bare,un,hok,r,q⟩:=h
 obtain⟨hh,g,d,t,os'⟩:=s'
 obtain rfl:os'=s.os:=os
 exact⟨v,H',I.call (h':=hh) (g':=g) (d':=d) (t':=t) (ch:=[]) un hok bare (fun b z=>xag z (by simp)),r,q⟩
end
def BI(sp:Sp)(dvs:List V)(E:XK)(t:TA):TE:=fun O H Q=>t O H fun vs H1=>sp (vs++dvs) H1 Q E
def iN(K:xFg)(fd:FuncData)(ps:List Str)(ds:List Value):Prop:=
 ∀(s:Shared) (us:List Value),K.In s.heap->(us++ds).length=ps.length->BindsTo s fd ⟨us,[]⟩ (ps.zip (us++ds))
theorem iN.all{K:xFg}{fd:FuncData}{ps:List Str}(h:∀us:List Value,us.length=ps.length->bindArgs fd ⟨us,[]⟩=pure (ps.zip us)):iN K fd ps []:=fun s us _ hl=>by
 rw[xbh] at hl ⊢
 exact .of_eq (h us hl)
def nB(CX:eN)(X:Cx)(E:XK):Prop:=∀(pins:List (Addr×Obj)) (O:St) (H:Hp) (s:Shared) (e:Value) (s':Shared),aF X pins O H s->CX X.stack H s E e s'->X.xe e s'
section
variable{X:Cx}{CX:eN}{k:Nat}{f C:Addr}{fd:FuncData}{ps:List Str}{sp:Sp}{dvs:List V}{ds:List Value}{E:XK}{x m:Str}{p pos apos:Pos}{e o:Expr}{es:List Expr}{ta:TE}{t:TA}
theorem BJ{pins:List (Addr×Obj)}{O:St}{H:Hp}{s:Shared}{Q:VK}{us:List Value}{vs:List V}(F:dN X.prog X.w X.K X.mg X.base CX k f fd ps sp)(hr:c6 k X.A)(hb:iN X.K fd ps ds)(hd:aX dvs ds)(hx:nB CX X E)
  (I:aF X pins O H s) (r:aX vs us) (h:sp (vs++dvs) H Q E):wpAny (model X.prog X.w) X.A (call (.ref f) us) (EP X pins O Q) X.xe s:=by
 have r2:aX (vs++dvs) (us++ds):=r.append hd
 have hl:(us++ds).length=ps.length:=by rw[<- r2.length];exact F.len _ _ _ _ h
 refine wpAny_call (codeAny_mono (F.run X.A X.stack s H ⟨us,[]⟩ (us++ds) (vs++dvs) Q E hr I.env0 (hb s us I.kIn hl) r2 h) fun r s' hq=>?_)
 cases r with
 |error e=>exact hx pins O H s e s' I hq
 |ok fl=>
  cases fl with
  |ret u=>exact I.after hq
  |next=>exact False.elim hq
  |brk=>exact False.elim hq
  |cont=>exact False.elim hq
theorem vT(F:dN X.prog X.w X.K X.mg X.base CX k f fd ps sp)(hr:c6 k X.A)(hg:Gl X x)(hm:X.mg x=some (.ref f))(hk:PySem.W.keepIn X.K (.ref f)=true)(hb:iN X.K fd ps ds)(hd:aX dvs ds)(hx:nB CX X E)
  (ha:PA X (e::es) t) (hdb:(x==("__debug__":Str))=false:=by decide) (he:starEach (e::es) X.env=(false,eval e X.env)::starEach es X.env:=by rfl) (hpl:(backTo pos (starEach es X.env)).any (·.1)=false:=by rfl) :
  PE X (.Call (.Name x p) (e::es) [] pos) (BI sp dvs E t):=by
 intro pins s O H Q I h
 refine wpAny_Call_Name_kw (mY I hg hm ?_ hdb)
 refine PySem.W.callWith_K (h₀:=X.base) I.ok.mod.kin hk (aT (ha pos pins s O H _ I h) fun us s1 ⟨vs,H1,I1,r,q⟩=>⟨I1.kIn,?_⟩) he hpl
 exact BJ F hr hb hd hx I1 r q
theorem SA(F:dN X.prog X.w X.K X.mg X.base CX k f fd ps sp)(hr:c6 k X.A)(hg:Gl X x)(hm:X.mg x=some (.ref f))(hk:PySem.W.keepIn X.K (.ref f)=true)(hb:iN X.K fd ps ds)(hd:aX dvs ds)(hx:nB CX X E)
  (hdb:(x==("__debug__":Str))=false:=by decide):PE X (.Call (.Name x p) [] [] pos) (BI sp dvs E BH):=by
 intro pins s O H Q I h
 refine wpAny_Call_Name_kw (mY I hg hm ?_ hdb)
 exact PySem.W.callWith_K0 I.kIn hk (BJ (us:=[]) F hr hb hd hx I .nil h)
end
structure i7(N P:List Str)(sc:Scope):Prop where
 kind:sc.kind=.function
 co:sc.isCoroutine=false
 gen:sc.isGenerator=false
 nd:N.Nodup
 pre:N.take P.length=P
 par:∀x∈P,sc.names.lookup x=some .local\/sc.names.lookup x=some .cell
 nofree:∀y∈sc.names,y.2≠.free
theorem BK{kindOf:Str->Option NameKind}{x:Str}:∀{binds:List (Str×Value)} {m:Str->Option Value},(∀v,(x,v)∉binds)->bindL kindOf binds m x=m x
 |[],_,_=>rfl
 |(n,v)::r,m,h=>by
  unfold bindL
  rw[BK fun w hw=>h w (xar _ hw)]
  split
  ·have:x≠n:=by rintro rfl;exact h v xa4
   simp[this]
  ·rfl
theorem BL{kindOf:Str->Option NameKind}{x:Str}:∀{binds:List (Str×Value)} {m:Str->Option Value},(∀v,(x,v)∉binds)->bindC kindOf binds m x=m x
 |[],_,_=>rfl
 |(n,v)::r,m,h=>by
  unfold bindC
  rw[BL fun w hw=>h w (xar _ hw)]
  split
  ·rfl
  ·have:x≠n:=by rintro rfl;exact h v xa4
   simp[this]
theorem BM{kindOf:Str->Option NameKind}{x:Str}{v:Value}:∀{P:List Str} {vs:List Value} {i:Nat} {m:Str->Option Value},P.Nodup->P[i]? = some x->vs[i]? = some v->kindOf x=some .local->
  bindL kindOf (P.zip vs) m x=some v
 |[],_,_,_,_,h,_,_=>by simp at h
 |_::_,[],_,_,_,_,h,_=>by simp at h
 |p::P,w::vs,0,m,nd,h1,h2,hk=>by
  simp at h1 h2;subst h1;subst h2
  show bindL kindOf ((p,w)::P.zip vs) m p=_
  unfold bindL
  rw[BK fun v hv=>(xct.mp nd).1 (List.of_mem_zip hv).1,xau hk]
  simp
 |p::P,w::vs,i+1,m,nd,h1,h2,hk=>by
  show bindL kindOf ((p,w)::P.zip vs) m x=_
  unfold bindL
  exact BM (i:=i) (xct.mp nd).2 (by simpa using h1) (by simpa using h2) hk
theorem BN{kindOf:Str->Option NameKind}{x:Str}{v:Value}:∀{P:List Str} {vs:List Value} {i:Nat} {m:Str->Option Value},P.Nodup->P[i]? = some x->vs[i]? = some v->kindOf x≠some .local->
  bindC kindOf (P.zip vs) m x=some v
 |[],_,_,_,_,h,_,_=>by simp at h
 |_::_,[],_,_,_,_,h,_=>by simp at h
 |p::P,w::vs,0,m,nd,h1,h2,hk=>by
  simp at h1 h2;subst h1;subst h2
  show bindC kindOf ((p,w)::P.zip vs) m p=_
  unfold bindC
  rw[BL fun v hv=>(xct.mp nd).1 (List.of_mem_zip hv).1,xao hk]
  simp
 |p::P,w::vs,i+1,m,nd,h1,h2,hk=>by
  show bindC kindOf ((p,w)::P.zip vs) m x=_
  unfold bindC
  exact BN (i:=i) (xct.mp nd).2 (by simpa using h1) (by simpa using h2) hk
def start(N:List Str)(vs:List V):St:=vs.map some++List.replicate (N.length-vs.length) none
def dG(CX:eN)(P:Program)(w:World)(K:xFg)(mg:Str->Option Value)(base:Heap)(N:List Str)(qual:Str)(scope:Scope)(f:Addr)(cd:Value)(A:Around)(outer:List Env)(s:Shared)(H:Hp)(E:XK):Cx where
 prog:=P
 w:=w
 K:=K
 mg:=mg
 base:=base
 A:=A.deeper (envOfC qual scope s.heap.objs.size f cd)
 N:=N
 s₀:=s
 H₀:=H
 env:=envOfC qual scope s.heap.objs.size f cd
 outer:=outer
 stack:=envOfC qual scope s.heap.objs.size f cd::outer
 ex:=[]
 calm:=true
 fn:=fun _=>true
 pn:=[]
 xe:=fun e s'=>wpAny (model P w) (A.deeper (envOfC qual scope s.heap.objs.size f cd)) (leaving (envOfC qual scope s.heap.objs.size f cd) e) (fun _ s''=>CX outer H s E e s'') (fun e' s''=>CX outer H s E e' s'') s'
theorem BO{sc:Scope}{n:Nat}{x:Str}(h:sc.names.lookup x=some .cell):∃c,(cellsFrom n sc.names []).lookup x=some c:=by
 have q:=PySem.W.cellsFrom_some sc.names n [] (.inl h)
 exact xca.mp q
theorem SB{CX:eN}{P:Program}{w:World}{K:xFg}{mg:Str->Option Value}{base:Heap}{N ps:List Str}{qual:Str}{scope:Scope}{f:Addr}{cd:Value}{A:Around}{outer:List Env}{s s1:Shared}{H:Hp}{E:XK}{us:List Value}{vs:List V}
  (S:i7 N ps scope) (hd:A.handled=none) (e0:rW P w K mg base A outer s H) (hl:vs.length=ps.length) (r:aX vs us)
  (x:InCallC s s.heap.objs.size (bindL (envOfC qual scope s.heap.objs.size f cd).kindOf (ps.zip us) fun _=>none) (cellsFrom (s.heap.objs.size+1) scope.names []) (bindC (envOfC qual scope s.heap.objs.size f cd).kindOf (ps.zip us) fun _=>none) s1) :
  aF (dG CX P w K mg base N qual scope f cd A outer s H E) [] (start N vs) H s1:=by
 have hpl:ps.length<=N.length:=by have:=congrArg List.length S.pre;rw[xbi] at this;omega
 obtain⟨h1,tk,rfl,hk⟩:=x.done
 have noA:∀b:Addr,b∉(dG CX P w K mg base N qual scope f cd A outer s H E).ex:=fun b z=>xag (show b∈([]:List Addr) from z) (by simp)
 refine⟨⟨e0.mod,S.kind,rfl,rfl,xaf _,fun y z c h1 h2=>?_,fun y hy=>?_,fun y c _ h=>?_,fun _=>hd,Around.frames_deeper e0.frames,.inr ⟨rfl,rfl⟩,fun b z=>xag z (noA b),e0.bs,e0.bsz,fun b _ _=>noA b,fun b z=>xag z (noA b),e0.funs,e0.frf⟩,
  rfl,e0.bare,Un.kept hk,⟨_,x.toInCall.ns,fun i y v h1 h2 h3=>?_⟩,fun y c h=>⟨_,x.cell y c h⟩,e0.hok.fresh (xaf _),fun y c h=>?_,fun p hp=>xag (show p∈([]:List (Addr×Obj)) from hp) (by simp),e0.hok.kept hk,?_⟩
 ·exact name_of_addr x.apart (PySem.mem_of_lookup h1) (PySem.mem_of_lookup h2)
 ·have hy:scope.names.lookup y=some .cell\/scope.names.lookup y=some .free:=hy
  rcases hy with hy|hy
  ·exact BO hy
  ·exact xag rfl (S.nofree _ (PySem.mem_of_lookup hy))
 ·exact xcx (x.above y c (PySem.mem_of_lookup h))
 ·have hi:i<vs.length:=by
   unfold start at h2
   by_cases hi:i<vs.length
   ·exact hi
   ·rw[xb8 (by simpa using hi)] at h2
    rw[xcg] at h2
    split at h2<;>cases h2
  have ha:vs[i]? = some v:=by
   unfold start at h2
   rw[xbo (by simpa using hi),xbp] at h2
   cases e:vs[i]? with
   |none=>rw[e] at h2;cases h2
   |some a=>rw[e] at h2;cases h2;rfl
  obtain⟨u,hu,rv⟩:=r.get ha
  have hp:ps[i]? = some y:=by
   rw[<- S.pre,List.getElem?_take_of_lt (by omega)];exact h1
  have ndP:ps.Nodup:=by rw[<- S.pre];exact S.nd.sublist (List.take_sublist _ _)
  refine⟨u,rv,?_⟩
  rcases S.par y (xcn hp) with k|k
  ·exact .inl ⟨k,BM ndP hp hu k⟩
  ·obtain⟨c,e⟩:=BO (n:=s.heap.objs.size+1) k
   refine .inr ⟨.inl k,c,e,?_⟩
   have q:=x.cell y c e
   rw[BN ndP hp hu (by show scope.names.lookup y≠_;rw[k];decide)] at q
   exact q
 ·exact e0.hok.fresh (xcx (x.above y c (PySem.mem_of_lookup h)))
 ·unfold start
  show _=N.length
  rw[xak,xat,xbb]
  omega
theorem SC{CX:eN}{P:Program}{w:World}{K:xFg}{mg:Str->Option Value}{base:Heap}{k:Nat}{f:Addr}{name qual:Str}{params:Arguments}{body:List Stmt}{scope:Scope}{dV kV doc pm cdv ct oc:Value}{an od:Option Addr}
  {osl:Array (Option Value)} {N ps:List Str} {sp:Sp} (lk:K.lookup f=some ⟨oc,od,.func (PySem.W.fnOf name qual params body scope dV kV doc pm an cdv ct),osl⟩) (hcd:PySem.W.codeIn K cdv qual=true) (S:i7 N ps scope)
  (len:∀vs H Q E,sp vs H Q E->vs.length=ps.length)
  (hbody : ∀ (A : Around) (outer : List Env) (s : Shared) (H : Hp) (vs : List V) (Q : VK) (E : XK), c6 k (A.deeper (envOfC qual scope s.heap.objs.size f cdv)) -> sp vs H Q E ->
   ∃t,dY (dG CX P w K mg base N qual scope f cdv A outer s H E) body t/\t { nx:=fun _ H'=>Q .non H',rt:=Q } (start N vs) H) :
  dN P w K mg base CX (k+1) f (PySem.W.fnOf name qual params body scope dV kV doc pm an cdv ct) ps sp:=by
 refine⟨len,fun A outer s H args us vs Q E hr e0 hb r hsp=>?_⟩
 have hl:=len _ _ _ _ hsp
 have KX:K.In s.heap:=e0.mod.kin.keeps fun b o e=>(e0.bs b o e).1
 have lim:s.heap.NoLimit:=e0.mod.nolimit.keeps fun b o e=>(e0.bs b o e).1
 have hkind:∀y∈ps.zip us,scope.names.lookup y.1=some .local\/(scope.names.lookup y.1=some .cell/\((cellsFrom (s.heap.objs.size+1) scope.names []).lookup y.1).isSome=true):=fun⟨n,v⟩ hy=>by
  rcases S.par n (List.of_mem_zip hy).1 with q|q
  ·exact .inl q
  ·exact .inr ⟨q,PySem.W.cellsFrom_some _ _ _ (.inl q)⟩
 refine codeAny_call_function hr.depth (KX _ _ lk) rfl S.co S.gen rfl (PySem.W.codeRec_of KX hcd) (hb _ _ _ _ ?_)
 refine wpAny_newFunctionEnv_cells S.kind hkind fun env he s1 x=>?_
 subst he
 refine⟨lim.keeps x.toInCall.keep,codeAny_func ?_⟩
 obtain⟨t,ht,hq⟩:=hbody A outer s H vs Q E (hr.deeper _) hsp
 have I:aF (dG CX P w K mg base N qual scope f cdv A outer s H E) [] (start N vs) H s1:=SB S hr.hd e0 hl r x
 refine wpAny_mono (ht [] s1 (start N vs) H _ I hq) (fun fl s' hs=>?_) fun e s' hs=>hs
 have fin:∀{O':St} {H':Hp} {v:V} {u:Value},aF (dG CX P w K mg base N qual scope f cdv A outer s H E) [] O' H' s'->aR v u->Q v H'->CE outer P w H s Q u s':=
  fun {O' H' v u} J rv q=>⟨v,H',J.os,J.bare,J.base,J.hok,rv,q⟩
 cases fl with
 |ret u=>
  obtain⟨v,O',H',J,rv,q⟩:=hs
  exact fin J rv q
 |next=>
  obtain⟨O',H',J,q⟩:=hs
  exact fin (v:=V.non) (u:=Value.none) J rfl q
 |brk=>
  obtain⟨_,_,_,q⟩:=hs
  exact False.elim q
 |cont=>
  obtain⟨_,_,_,q⟩:=hs
  exact False.elim q
end L2
namespace L2
open PySem.Spec PyProof.Rows
section
variable{X:Cx}{x:Str}{p pos:Pos}{e:Expr}{es:List Expr}{t:TA}{id T:String}{r:List V->Hp->VK->Prop}
def tCB(r:List V->Hp->VK->Prop)(t:TA):TE:=fun O H Q=>t O H fun vs H1=>r vs H1 Q
theorem SD(hc:eR X (.builtin id) r)(hg:Gl X x)(hm:X.mg x=none)(hv:bootBuiltins x=some (.builtin id))(ha:PA X (e::es) t)(hn:x≠"__name__":=by decide)(hdb:(x==("__debug__":Str))=false:=by decide)
  (he:starEach (e::es) X.env=(false,eval e X.env)::starEach es X.env:=by rfl) (hpl:(backTo pos (starEach es X.env)).any (·.1)=false:=by rfl):PE X (.Call (.Name x p) (e::es) [] pos) (tCB r t):=by
 intro pins s O H Q I h
 refine wpAny_Call_Name_kw (lQ I hg hm hv ?_ hn hdb)
 exact PyProof.Rows.callWith_builtin1 (aT (ha pos pins s O H _ I h) fun us s1 ⟨vs,H1,I1,r1,q1⟩=>hc pins s1 O H1 vs us Q I1 r1 q1) he hpl
theorem SE(hc:eR X (.type T) r)(hg:Gl X x)(hm:X.mg x=none)(hv:bootBuiltins x=some (.type T))(ha:PA X (e::es) t)(hn:x≠"__name__":=by decide)(hdb:(x==("__debug__":Str))=false:=by decide)
  (he:starEach (e::es) X.env=(false,eval e X.env)::starEach es X.env:=by rfl) (hpl:(backTo pos (starEach es X.env)).any (·.1)=false:=by rfl):PE X (.Call (.Name x p) (e::es) [] pos) (tCB r t):=by
 intro pins s O H Q I h
 refine wpAny_Call_Name_kw (lQ I hg hm hv ?_ hn hdb)
 exact PyProof.Rows.callWith_type1 (aT (ha pos pins s O H _ I h) fun us s1 ⟨vs,H1,I1,r1,q1⟩=>hc pins s1 O H1 vs us Q I1 r1 q1) he hpl
end
end L2
namespace HT
open PyProof.Rows
section
variable{prog:Program}{w:World}{A:Around}{E:Value->Shared->Prop}{s:Shared}
theorem cat_tup{t b:Addr}{vs ws:List Value}{Q:Value->Shared->Prop}(ht:IsTup s.heap t vs.toArray)(hb:IsTup s.heap b ws.toArray)(hv:vs≠[])
  (h1:ws=[]->Q (.ref t) s) (h2:ws≠[]->Q (.ref s.heap.objs.size) { s with heap:=s.heap.push { cls:=.type "tuple",data:=.seq (vs++ws).toArray } })
  (hsz:vs.length+ws.length<=sizeLine):wpAny (model prog w) A (binaryOp .Add (.ref t) (.ref b)) Q E s:=by
 obtain⟨⟨cls,dd,data,sl⟩,ho,hc,n,hd⟩:=id ht
 obtain⟨⟨cls2,dd2,data2,sl2⟩,ho2,hc2,n2,hd2⟩:=id hb
 simp only at hc hd hc2 hd2
 subst hc hd hc2 hd2
 have e:vs.toArray++ws.toArray=(vs++ws).toArray:=by simp
 by_cases hw:ws=[]
 ·exact concat_meets ⟨_,ho,rfl⟩ ⟨_,ho2,rfl⟩ noFill_tuple_add seq_tuple_add PySem.F.slot_tuple_add PySem.F.entry_tuple_add (PySem.F.args_tuple_add_2 _ _)
   (tuple_addW1 t b vs.toArray ws.toArray n n2 dd dd2 sl sl2 (by simpa using hv) (by simp[hw])) ⟨ho,ho2,h1 hw⟩
 ·refine concat_meets ⟨_,ho,rfl⟩ ⟨_,ho2,rfl⟩ noFill_tuple_add seq_tuple_add PySem.F.slot_tuple_add PySem.F.entry_tuple_add (PySem.F.args_tuple_add_2 _ _)
   (tuple_addW2 t b vs.toArray ws.toArray n n2 dd dd2 sl sl2 (by simpa using hv) (by simpa using hw) (by rw[xas,xas];exact hsz)) ⟨ho,ho2,?_⟩
  rw[e]
  exact h2 hw
def sIx(n d:Nat):Option Int->Nat
 |none=>d
 |some v=>if v<0 then (v+(n:Int)).toNat else min v.toNat n
theorem sIx_none(n d:Nat):sIx n d none=d:=rfl
theorem sIx_nat(n d k:Nat):sIx n d (some (k:Int))=min k n:=by
 show (if (k:Int)<0 then ((k:Int)+(n:Int)).toNat else min (k:Int).toNat n)=min k n
 rw[xao (by omega),xbk]
theorem sIx_le(n d:Nat)(hd:d<=n)(o:Option Int):sIx n d o<=n:=by
 cases o with
 |none=>exact hd
 |some v=>
  show (if v<0 then (v+(n:Int)).toNat else min v.toNat n)<=n
  by_cases hv:v<0
  ·rw[xau hv];omega
  ·rw[xao hv];exact Nat.min_le_right _ _
theorem BQ(v:Int)(n d:Nat):(if v<0 then max (v+(n:Int)) 0 else min v (n:Int))=((sIx n d (some v):Nat):Int):=by
 show (if v<0 then max (v+(n:Int)) 0 else min v (n:Int))=(((if v<0 then (v+(n:Int)).toNat else min v.toNat n):Nat):Int)
 by_cases hv:v<0
 ·simp only[xau hv];omega
 ·simp only[xao hv];omega
theorem SF(lo hi:Option Int)(n:Nat):Builtin.Slice.sliceAdjust lo hi 1 (n:Int)=(((sIx n 0 lo:Nat):Int),((sIx n n hi:Nat):Int)):=by
 have h1:¬((1:Int)<0):=by omega
 unfold Builtin.Slice.sliceAdjust
 simp only[h1,if_false]
 refine Prod.ext ?_ ?_
 ·cases lo with
  |none=>rfl
  |some v=>exact BQ v n 0
 ·cases hi with
  |none=>rfl
  |some v=>exact BQ v n n
theorem SG(i j:Nat):Builtin.Slice.slicePlaces (i:Int) (j:Int) 1=j-i:=by
 unfold Builtin.Slice.slicePlaces
 have h1:(1:Int)>0:=by omega
 simp only[h1,if_true,Int.ediv_one]
 split<;>omega
theorem BR{v:Value}{o:Option Int}{Q:Option Int->Shared->Prop}(p:IsPart v o)(h:Q o s):wpAny (model prog w) A (Builtin.Slice.slicePartIndex v) Q E s:=by
 cases p with
 |none=>exact slicePart_none h
 |int i t=>exact slicePart_int h
theorem SH{sl:Addr}{vl vu:Value}{lo hi:Option Int}{n:Nat}{Q:Int×Int×Nat->Shared->Prop}(hs:s.heap.IsSliceOf sl vl vu .none)(pl:IsPart vl lo)(pu:IsPart vu hi)
  (h:Q (((sIx n 0 lo:Nat):Int),1,sIx n n hi-sIx n 0 lo) s):wpAny (model prog w) A (Builtin.Slice.sliceApplied (.ref sl) (pure (n:Int))) Q E s:=by
 obtain⟨os,hos,hcs,hds⟩:=id hs
 unfold Builtin.Slice.sliceApplied Builtin.Slice.sliceFields
 refine xaa (xaa (wpAny_field hos hds (x:=vl) rfl (xaa (wpAny_field hos hds (x:=vu) rfl (xaa (wpAny_field hos hds (x:=.none) rfl (xaw ?_)))))))
 refine xaa (slicePart_none ?_)
 show wpAny _ _ (if ((1:Int)==0)=true then _ else _) _ _ s
 rw[xao (by decide)]
 refine xaa (BR pl (xaa (BR pu (xaa (xaw ?_)))))
 show wpAny _ _ (match Builtin.Slice.sliceAdjust lo hi 1 (n:Int) with|(lo,hi)=>pure (lo,(1:Int),Builtin.Slice.slicePlaces lo hi 1)) _ _ s
 rw[SF lo hi n]
 show wpAny _ _ (pure (((sIx n 0 lo:Nat):Int),(1:Int),Builtin.Slice.slicePlaces ((sIx n 0 lo:Nat):Int) ((sIx n n hi:Nat):Int) 1)) _ _ s
 rw[SG]
 exact xaw h
theorem SI(xs:Array Value)(i k:Nat):((List.range k).filterMap fun (m:Nat)=>xs[((i:Int)+(m:Int)*1).toNat]?).toArray=((xs.toList.drop i).take k).toArray:=by
 have e:(fun (m:Nat)=>xs[((i:Int)+(m:Int)*1).toNat]?)=fun m=>xs[i+m]?:=by
  funext m
  have:((i:Int)+(m:Int)*1).toNat=i+m:=by omega
  rw[this]
 rw[e]
 have:=pick_run xs i k
 rw[List.filterMap_map] at this
 have e2:((fun x=>xs[x]?) ∘ fun x=>i+x)=fun m=>xs[i+m]?:=rfl
 rw[e2] at this
 rw[this]
theorem getItem_tuple_cut{t sl:Addr}{items:Array Value}{vl vu:Value}{lo hi:Option Int}{Q:Value->Shared->Prop}(ht:IsTup s.heap t items)(hs:s.heap.IsSliceOf sl vl vu .none)(pl:IsPart vl lo)(pu:IsPart vu hi)
  (hw:¬(sIx items.size 0 lo=0/\sIx items.size items.size hi=items.size))
  (h:Q (.ref s.heap.objs.size) { s with heap:=s.heap.push { cls:=.type "tuple",data:=.seq ((items.toList.drop (sIx items.size 0 lo)).take (sIx items.size items.size hi-sIx items.size 0 lo)).toArray } })
  (hsz:items.size<=sizeLine):wpAny (model prog w) A (getItem (.ref t) (.ref sl)) Q E s:=by
 have htake:sizeOk (.seq ((items.toList.drop (sIx items.size 0 lo)).take (sIx items.size items.size hi-sIx items.size 0 lo)).toArray):=by
  show ((items.toList.drop (sIx items.size 0 lo)).take (sIx items.size items.size hi-sIx items.size 0 lo)).toArray.size<=sizeLine
  rw[xas,xbi,xbj,xbv]
  omega
 have hj:sIx items.size items.size hi<=items.size:=sIx_le _ _ (xaf _) hi
 obtain⟨os,hos,hcs,hds⟩:=id hs
 have hTs:s.TypeIs (.ref sl) "slice":=⟨os,hos,hcs⟩
 unfold getItem
 try with_reducible refine wpAny_holding ?_
 first|refine xaa (xaw ?_)|skip
 refine xaa (wpAny_sequenceKey ht.typeIs (by decide) ?_)
 refine xaa (wpAny_callSpecial?_slot (name:=Str.ofString "__getitem__") ht.typeIs PyProof.Rows.slot_tuple_getitem
  (wpAny_call_entry PyProof.Rows.slot_tuple_getitem ht.typeIs entry_tuple_getitem ?_ (args_tuple_getitem _ _)))
 show wpAny _ _ (Builtin.Tuple.tupleItemsOf (.ref t) >>= _) _ _ s
 refine xaa (tupleItemsOf_ ht ?_)
 refine xaa (wpAny_typeOf hTs ?_)
 rw[xau (by decide)]
 refine xaa (SH hs pl pu ?_)
 have hno:¬((((sIx items.size 0 lo:Nat):Int)==0&&(1:Int)==1&&(sIx items.size items.size hi-sIx items.size 0 lo)==items.size)=true):=by
  intro q
  rw[xax,xax] at q
  have q1:((sIx items.size 0 lo:Nat):Int)=0:=eq_of_beq q.1.1
  have q2:sIx items.size items.size hi-sIx items.size 0 lo=items.size:=eq_of_beq q.2
  exact hw ⟨by omega,by omega⟩
 show wpAny _ _ (if (((sIx items.size 0 lo:Nat):Int)==0&&(1:Int)==1&&(sIx items.size items.size hi-sIx items.size 0 lo)==items.size)=true then _ else _) _ _ s
 rw[xao hno,SI]
 first
  |exact xaa (m:=Builtin.Tuple.tupleExact _) (wpAny_newObj_type (xaw ⟨_,rfl,xaw h⟩) htake)
  |exact xaa (m:=Builtin.Tuple.tupleExact _) (wpAny_newObj_type (xaa (xaw (xaw ⟨_,rfl,xaw h⟩))) htake)
  |exact xaa (xaa (m:=Builtin.Tuple.tupleExact _) (wpAny_newObj_type (xaw (xaw ⟨_,rfl,xaw h⟩)) htake))
  |exact xaa (xaa (m:=Builtin.Tuple.tupleExact _) (wpAny_newObj_type (xaw ⟨_,rfl,xaw h⟩) htake))
end
end HT
namespace L2
open PySem.Spec PyProof.Rows
abbrev TO:=St->Hp->(Option Int->Hp->Prop)->Prop
def PO(X:Cx)(e:Option Expr)(t:TO):Prop:=
 ∀(pins:List (Addr×Obj)) (s:Shared) (O:St) (H:Hp) (Q:Option Int->Hp->Prop),aF X pins O H s->t O H Q->
  wpAny (model X.prog X.w) X.A (evalPart e X.env) (fun u s'=>∃o H',aF X pins O H' s'/\IsPart u o/\Q o H') X.xe s
def SJ:TO:=fun _ H Q=>Q none H
def SK(t:TE):TO:=fun O H Q=>t O H fun x H1=>∃i,x=.int i/\Q (some i) H1
section
variable{X:Cx}{e:Expr}{te:TE}{lo hi:Option Expr}{tl th:TO}{pos p2:Pos}
theorem SL:PO X none SJ:=by
 intro pins s O H Q I h
 rw[evalPart_none]
 exact xaw ⟨none,H,I,.none,h⟩
theorem SM(h:PE X e te):PO X (some e) (SK te):=by
 intro pins s O H Q I hw
 rw[evalPart_some]
 refine aT (h pins s O H _ I hw) fun u s1 ⟨x,H1,I1,r1,q1⟩=>?_
 obtain⟨i,rfl,q⟩:=q1
 obtain⟨t,rfl⟩:=r1
 exact⟨some i,H1,I1,.int i t,q⟩
def kL(X:Cx)(r:V->Option Int->Option Int->Hp->VK->Prop):Prop:=
 ∀(pins:List (Addr×Obj)) (s:Shared) (O:St) (H:Hp) (x:V) (v vl vu:Value) (lo hi:Option Int) (sl:Addr) (Q:VK),aF X pins O H s->aR x v->s.heap.IsSliceOf sl vl vu .none->IsPart vl lo->IsPart vu hi->r x lo hi H Q->
  ∃T id,typeLookup (.type T) "__getitem__"=pure (some (.builtin id))/\s.TypeIs v T/\wpAny (model X.prog X.w) X.A (getItem v (.ref sl)) (EP X pins O Q) X.xe s
theorem kL.or{r r':V->Option Int->Option Int->Hp->VK->Prop}(h:kL X r)(h':kL X r'):kL X (fun x lo hi H Q=>r x lo hi H Q\/r' x lo hi H Q):=by
 intro pins s O H x v vl vu lo hi sl Q I rx hs pl pu q
 rcases q with q|q
 ·exact h pins s O H x v vl vu lo hi sl Q I rx hs pl pu q
 ·exact h' pins s O H x v vl vu lo hi sl Q I rx hs pl pu q
def tSl(r:V->Option Int->Option Int->Hp->VK->Prop)(te:TE)(tl th:TO):TE:=fun O H Q=>te O H fun x H1=>tl O H1 fun l H2=>th O H2 fun u H3=>r x l u H3 Q
theorem BS{r:V->Option Int->Option Int->Hp->VK->Prop}(hr:kL X r)(he:PE X e te)(hl:PO X lo tl)(hu:PO X hi th):PE X (.Subscript e (.Slice lo hi none p2) pos) (tSl r te tl th):=by
 intro pins s O H Q I h
 refine Subscript_ (aT (he pins s O H _ I h) fun v s1 ⟨x,H1,I1,r1,q1⟩=>?_)
 refine wpAny_Slice (aT (hl pins s1 O H1 _ I1 q1) fun vl s2 ⟨l,H2,I2,pl,q2⟩=>aT (hu pins s2 O H2 _ I2 q2) fun vu s3 ⟨u,H3,I3,pu,q3⟩=>?_)
 rw[evalPart_none]
 refine xaw ?_
 have I4:aF X pins O H3 { s3 with heap:=s3.heap.push { cls:=.type "slice",data:=.fields #[vl,vu,.none] } }:=I3.kept (t':=s3.toks) fun b ob q=>xad _ q
 obtain⟨T,id,hT,ht,hg⟩:=hr pins { s3 with heap:=s3.heap.push { cls:=.type "slice",data:=.fields #[vl,vu,.none] } } O H3 x v vl vu l u s3.heap.objs.size Q I4 r1 (Heap.IsSliceOf.new ..) pl pu q3
 show wpAny (model X.prog X.w) X.A (subscriptTail e (.Slice lo hi none p2) v (.ref s3.heap.objs.size)) (EP X pins O Q) X.xe { s3 with heap:=s3.heap.push { cls:=.type "slice",data:=.fields #[vl,vu,.none] } }
 exact tail_any (ops:=[.ref s3.heap.objs.size,v]) ht hT hg (by with_unfolding_all rfl)
def i8(xs:List V)(lo hi:Option Int):List V:=(xs.drop (HT.sIx xs.length 0 lo)).take (HT.sIx xs.length xs.length hi-HT.sIx xs.length 0 lo)
theorem BT(xs:List V)(lo hi:Option Int):(i8 xs lo hi).length<=xs.length:=by
 unfold i8
 rw[xbi,xbj]
 omega
def SO(K:xFg):V->Option Int->Option Int->Hp->VK->Prop:=fun x lo hi H Q=>∃a xs,x=.ref a/\bO K H a xs/\
 ¬(HT.sIx xs.length 0 lo=0/\HT.sIx xs.length xs.length hi=xs.length)/\∀p,H p=none->Q (.ref p) (aS H p (.tup (i8 xs lo hi)))
theorem SQ:kL X (SO X.K):=by
 intro pins s O H x v vl vu lo hi sl Q I rx hs pl pu h
 obtain⟨a,xs,rfl,hx,hw,q⟩:=h
 cases rx
 obtain⟨its,r,ht,hz⟩:=I.tuple hx
 have hlen:its.toArray.size=xs.length:=by rw[xas];exact r.length.symm
 refine⟨"tuple",_,PyProof.Rows.slot_tuple_getitem.lookup,ht.typeIs,?_⟩
 refine HT.getItem_tuple_cut ht hs pl pu (by rw[hlen];exact hw) ?_ (by rw[hlen];exact hz)
 rw[hlen]
 refine⟨.ref s.heap.objs.size,_,I.laid (t':=s.toks) (o:=.tup (i8 xs lo hi)) (fun b ob q=>xad _ q) (xaf _) ?_,rfl,q _ (I.hok.fresh (xaf _))⟩
 exact⟨xav (BT xs lo hi) hz,_,(r.drop (HT.sIx xs.length 0 lo)).take (HT.sIx xs.length xs.length hi-HT.sIx xs.length 0 lo),kJ.new _ _⟩
def BU(K:xFg):R2:=fun x y H Q=>∃a b xs ys,x=.ref a/\y=.ref b/\bO K H a xs/\bO K H b ys/\xs≠[]/\xs.length+ys.length<=sizeLine/\
 (ys=[]->Q (.ref a) H)/\(ys≠[]->∀p,H p=none->Q (.ref p) (aS H p (.tup (xs++ys))))
theorem aX.nil_iff{xs:List V}{us:List Value}(r:aX xs us):us=[]↔xs=[]:=by
 cases r with
 |nil=>simp
 |cons _ _=>simp
theorem SR:bR X (binaryOp .Add) (BU X.K):=by
 intro pins s O H x y v u Q I rx ry h
 obtain⟨a,b,xs,ys,rfl,rfl,ha,hb,hx,hz,q1,q2⟩:=h
 cases rx
 cases ry
 obtain⟨its,r1,p1,_⟩:=I.tuple ha
 obtain⟨its2,r2,p2,_⟩:=I.tuple hb
 refine HT.cat_tup p1 p2 (fun z=>hx (r1.nil_iff.mp z)) (fun z=>⟨.ref a,H,I,rfl,q1 (r2.nil_iff.mp z)⟩) (fun z=>?_) (by rw[<- r1.length,<- r2.length];exact hz)
 refine⟨.ref s.heap.objs.size,_,I.laid (t':=s.toks) (o:=.tup (xs++ys)) (fun b ob q=>xad _ q) (xaf _) ?_,rfl,q2 (fun w=>z (r2.nil_iff.mpr w)) _ (I.hok.fresh (xaf _))⟩
 exact⟨by rw[xak];exact hz,_,r1.append r2,kJ.new _ _⟩
end
end L2
namespace L2
open PySem.Spec PyProof.Rows
def i9(n:Nat)(i:Int):Option Nat:=if 0<=i then (if i<n then some i.toNat else none) else if -(n:Int)<=i then some (i+n).toNat else none
def eS{α:Type}(xs:List α)(i:Int):Option α:=(i9 xs.length i).bind fun j=>xs[j]?
theorem SS{n:Nat}{i:Int}{j:Nat}(h:i9 n i=some j):seqIndex? i n=some j/\j<n/\-(n:Int)<=i/\i<n:=by
 unfold i9 at h
 by_cases h0:0<=i
 ·rw[xau h0] at h
  by_cases h1:i<n
  ·rw[xau h1] at h
   have e:i.toNat=j:=xba h
   exact⟨by rw[seqIndex_of h0 h1,e],by omega,by omega,h1⟩
  ·rw[xao h1] at h;cases h
 ·rw[xao h0] at h
  by_cases h1:-(n:Int)<=i
  ·rw[xau h1] at h
   have e:(i+n).toNat=j:=xba h
   exact⟨by rw[seqIndex_neg (by omega) h1,e],by omega,h1,by omega⟩
  ·rw[xao h1] at h;cases h
theorem BV{α:Type}{xs:List α}{i:Int}{v:α}(h:eS xs i=some v):∃j,seqIndex? i xs.length=some j/\xs[j]? = some v/\j<xs.length/\-(xs.length:Int)<=i/\i<xs.length:=by
 unfold eS at h
 cases e:i9 xs.length i with
 |none=>rw[e] at h;cases h
 |some j=>
  rw[e] at h
  obtain⟨h1,h2,h3,h4⟩:=SS e
  exact⟨j,h1,h,h2,h3,h4⟩
theorem SU{α:Type}{xs:List α}{j:Nat}{v:α}(h:xs[j]? = some v):eS xs (j:Int)=some v:=by
 have hj:j<xs.length:=(xah.mp h).1
 have e:i9 xs.length (j:Int)=some j:=by
  unfold i9
  rw[xau (by omega),xau (by omega)];simp
 unfold eS;rw[e];exact h
theorem SV{α:Type}(xs:List α)(v:α):eS (xs++[v]) (-1)=some v:=by
 have hl:(xs++[v]).length=xs.length+1:=by simp
 have e:i9 (xs++[v]).length (-1)=some xs.length:=by
  unfold i9
  rw[hl,xao (by decide),xau (by omega)]
  congr 1
  omega
 unfold eS
 rw[e]
 show (xs++[v])[xs.length]? = some v
 simp
def BW(b:Expr):Prop:=∀o i,subscripted b false o i=operate [o,i] (getItem o i)
def lS(X:Cx)(r:R2):Prop:=
 ∀(value slice:Expr) (pins:List (Addr×Obj)) (s:Shared) (O:St) (H:Hp) (x y:V) (v u:Value) (Q:VK),aF X pins O H s->aR x v->aR y u->r x y H Q->
  subscripted slice false v u=operate [v,u] (getItem v u)->wpAny (model X.prog X.w) X.A (subscriptTail value slice v u) (EP X pins O Q) X.xe s
def MtR(X:Cx)(id:String)(r:V->List V->Hp->VK->Prop):Prop:=
 ∀(pins:List (Addr×Obj)) (s:Shared) (O:St) (H:Hp) (x:V) (xs:List V) (v:Value) (us:List Value) (Q:VK),aF X pins O H s->aR x v->aX xs us->r x xs H Q->
  wpAny (model X.prog X.w) X.A (call (.builtin id) (v::us)) (EP X pins O Q) X.xe s
section
variable{X:Cx}{a b:Expr}{ta tb:TE}{pos:Pos}
theorem lS.or{r r':R2}(h:lS X r)(h':lS X r'):lS X (fun x y H Q=>r x y H Q\/r' x y H Q):=by
 intro value slice pins s O H x y v u Q I rx ry q hs
 rcases q with q|q
 ·exact h value slice pins s O H x y v u Q I rx ry q hs
 ·exact h' value slice pins s O H x y v u Q I rx ry q hs
theorem SW{r:R2}(hr:lS X r)(ha:PE X a ta)(hb:PE X b tb)(hs:BW b):PE X (.Subscript a b pos) (nA r ta tb):=by
 intro pins s O H Q I h
 exact Subscript_ (rQ ha hb I h fun v u s2 x y H2 I2 rx ry q=>hr a b pins s2 O H2 x y v u Q I2 rx ry q (hs _ _))
def BY(K:xFg):R2:=fun x y H Q=>∃p xs i v,x=.ref p/\y=.int i/\bD K H p xs/\eS xs i=some v/\Q v H
def BZ(K:xFg):R2:=fun x y H Q=>∃p xs i v,x=.ref p/\y=.int i/\bO K H p xs/\eS xs i=some v/\Q v H
def rIxS:R2:=fun x y H Q=>∃z i c,x=.str z/\y=.int i/\z.length<=sizeLine/\eS z.cps.toList i=some c/\Q (.str ⟨#[c]⟩) H
theorem SX:lS X (BY X.K):=by
 intro value slice pins s O H x y v u Q I rx ry h hs
 obtain⟨p,xs,i,z,rfl,rfl,hq,he,q⟩:=h
 cases rx
 obtain⟨t,rfl⟩:=ry
 obtain⟨its,r,pl,hz⟩:=I.list hq
 obtain⟨j,h1,h2,h3,h4,h5⟩:=BV he
 obtain⟨w,ew,rw'⟩:=r.get h2
 have hl:=r.length
 have hn:=rS
 have fin:EP X pins O Q w s:=⟨z,H,I,rw',q⟩
 by_cases h0:0<=i
 ·have hj:i.toNat=j:=by
   rw[seqIndex_of h0 h5] at h1
   exact xba h1
  exact item_listR pl.isList h0 (by omega) (by rw[hj];simpa using ew) fin hs
 ·have hj:(i+(its.toArray.size:Int)).toNat=j:=by
   rw[seqIndex_neg (by omega) h4] at h1
   rw[xas,<- hl]
   exact xba h1
  exact subscriptTail_builtinR (x:=w) pl.isList.typeIs slot_list_getitem.lookup
   (wpAny_getItem_list_neg (Q:=fun r s'=>r=w/\EP X pins O Q r s') pl.isList (by omega) (by rw[xas]<;>omega) (by omega) (by rw[hj];simpa using ew) ⟨rfl,fin⟩) hs
theorem SY:lS X (BZ X.K):=by
 intro value slice pins s O H x y v u Q I rx ry h hs
 obtain⟨p,xs,i,z,rfl,rfl,hq,he,q⟩:=h
 cases rx
 obtain⟨t,rfl⟩:=ry
 obtain⟨its,r,pl,hz⟩:=I.tuple hq
 obtain⟨j,h1,h2,h3,h4,h5⟩:=BV he
 obtain⟨w,ew,rw'⟩:=r.get h2
 have hl:=r.length
 have hn:=rS
 have fin:EP X pins O Q w s:=⟨z,H,I,rw',q⟩
 exact subscriptTail_builtinR (x:=w) pl.typeIs slot_tuple_getitem.lookup
  (getItem_tuple (j:=j) (Q:=fun r s'=>r=w/\EP X pins O Q r s') pl (by omega) (by omega) (by rw[xas,<- hl];exact h1) (by simpa using ew) ⟨rfl,fin⟩) hs
theorem SZ(lo hi:Option Int)(n:Nat):(sliceBounds lo hi none n).1=((HT.sIx n 0 lo:Nat):Int)/\(sliceBounds lo hi none n).2.1=((HT.sIx n n hi:Nat):Int)/\(sliceBounds lo hi none n).2.2=1:=by
 refine⟨?_,?_,rfl⟩
 ·cases lo with
  |none=>simp[sliceBounds,HT.sIx]
  |some i=>
   simp only[sliceBounds,HT.sIx,Option.getD_none,show (1:Int)>0 by decide,if_true]
   by_cases h:i<0
   ·simp only[h,if_true]<;>omega
   ·simp only[h,if_false]<;>omega
 ·cases hi with
  |none=>simp[sliceBounds,HT.sIx]
  |some i=>
   simp only[sliceBounds,HT.sIx,Option.getD_none,show (1:Int)>0 by decide,if_true]
   by_cases h:i<0
   ·simp only[h,if_true]<;>omega
   ·simp only[h,if_false]<;>omega
theorem S0(its:List Value)(lo hi:Option Int):slicePick its.toArray lo hi none=((its.drop (HT.sIx its.length 0 lo)).take (HT.sIx its.length its.length hi-HT.sIx its.length 0 lo)).toArray:=by
 obtain⟨h1,h2,h3⟩:=SZ lo hi its.toArray.size
 unfold slicePick
 rw[h1,h2,h3]
 simp only[sliceRange_one,pick_run,xas]<;>rfl
def S3(K:xFg):V->Option Int->Option Int->Hp->VK->Prop:=fun x lo hi H Q=>∃a xs,x=.ref a/\bD K H a xs/\∀p,H p=none->Q (.ref p) (aS H p (.lst (i8 xs lo hi)))
theorem S4:kL X (S3 X.K):=by
 intro pins s O H x v vl vu lo hi sl Q I rx hs pl pu h
 obtain⟨a,xs,rfl,hx,q⟩:=h
 cases rx
 obtain⟨its,r,ht,hz⟩:=I.list hx
 have hlen:=r.length
 refine⟨"list",_,slot_list_getitem.lookup,ht.isList.typeIs,?_⟩
 refine wpAny_getItem_list_slice ht.isList hs pl pu .none (by simp) ?_ (by rw[xas]<;>omega)
 rw[S0,<- hlen]
 refine⟨.ref s.heap.objs.size,_,I.laid (t':=s.toks) (o:=.lst (i8 xs lo hi)) (fun b ob q=>xad _ q) (xaf _) ?_,rfl,q _ (I.hok.fresh (xaf _))⟩
 exact⟨xav (BT xs lo hi) hz,_,0,(r.drop (HT.sIx xs.length 0 lo)).take (HT.sIx xs.length xs.length hi-HT.sIx xs.length 0 lo),xaz _ rfl⟩
def lT:V->Bool
 |.non=>true
 |.bl _=>true
 |.int _=>true
 |.str _=>true
 |_=>false
def o6:V->V->Bool
 |.non,.non=>true
 |.bl a,.bl b=>a==b
 |.bl a,.int b=>(if a then 1 else 0)==b
 |.int a,.bl b=>a==(if b then 1 else 0)
 |.int a,.int b=>a==b
 |.str a,.str b=>a==b
 |_,_=>false
theorem S5{A:Around}{s:Shared}{y x:V}{u v:Value}(ry:aR y u)(rx:aR x v)(fy:lT y=true)(fx:lT x=true):SeqAt.EqAt A s u v (o6 y x):=by
 cases y with
 |non=>
  cases ry
  cases x with
  |non=>cases rx;exact SeqAt.EqAt.same _
  |bl b=>cases rx;exact SeqAt.EqAt.none_bool b
  |int b=>obtain⟨t,rfl⟩:=rx;exact SeqAt.EqAt.none_int b t
  |str b=>obtain⟨t,rfl⟩:=rx;exact SeqAt.EqAt.none_str b t
  |_=>exact xag (show false=true from fx) xa1
 |bl a=>
  cases ry
  cases x with
  |non=>cases rx;exact SeqAt.EqAt.bool_none a
  |bl b=>cases rx;exact SeqAt.EqAt.bool_bool a b
  |int b=>obtain⟨t,rfl⟩:=rx;exact SeqAt.EqAt.bool_int a b t
  |str b=>obtain⟨t,rfl⟩:=rx;exact SeqAt.EqAt.bool_str a b t
  |_=>exact xag (show false=true from fx) xa1
 |int a=>
  obtain⟨t',rfl⟩:=ry
  cases x with
  |non=>cases rx;exact SeqAt.EqAt.int_none a t'
  |bl b=>cases rx;exact SeqAt.EqAt.int_bool a t' b
  |int b=>obtain⟨t,rfl⟩:=rx;exact SeqAt.EqAt.int_int a t' b t
  |str b=>obtain⟨t,rfl⟩:=rx;exact SeqAt.EqAt.int_str a t' b t
  |_=>exact xag (show false=true from fx) xa1
 |str a=>
  obtain⟨t',rfl⟩:=ry
  cases x with
  |non=>cases rx;exact SeqAt.EqAt.str_none a t'
  |bl b=>cases rx;exact SeqAt.EqAt.str_bool a t' b
  |int b=>obtain⟨t,rfl⟩:=rx;exact SeqAt.EqAt.str_int a t' b t
  |str b=>obtain⟨t,rfl⟩:=rx;exact SeqAt.EqAt.str_str a t' b t
  |_=>exact xag (show false=true from fx) xa1
 |_=>exact xag (show false=true from fy) xa1
theorem S6:bR X (compareOp .NotIn) (fun x y H Q=>∃i j,x=.str i/\y=.str j/\Q (.bl (!(!(Builtin.Str.occurrences j i 0 j.length 1).isEmpty))) H):=by
 intro pins s O H x y v u Q I rx ry h
 obtain⟨i,j,rfl,rfl,q⟩:=h
 obtain⟨t,rfl⟩:=rx
 obtain⟨t',rfl⟩:=ry
 exact notIn_str ⟨.bl _,H,I,rfl,q⟩
theorem S7:eR X (.builtin "len") (fun xs H Q=>∃p ys,xs=[.ref p]/\(bD X.K H p ys\/bO X.K H p ys)/\Q (.int ys.length) H):=by
 intro pins s O H xs us Q I r h
 obtain⟨p,ys,rfl,hq,q⟩:=h
 obtain⟨u,rfl,rx⟩:=lR r
 cases rx
 have hn:=rS
 rcases hq with hq|hq
 ·obtain⟨its,r',pl,hz⟩:=I.list hq
  have hlen:=r'.length
  exact Calls.call_len_list pl.isList (by simp only[xas]<;>omega) ⟨.int ys.length,H,I.tok _,⟨s.toks+1,by rw[xas,hlen]⟩,q⟩
 ·obtain⟨its,r',pl,hz⟩:=I.tuple hq
  have hlen:=r'.length
  exact len_tuple pl (by simp only[xas]<;>omega) ⟨.int ys.length,H,I.tok _,⟨s.toks+1,by rw[xas,hlen]⟩,q⟩
theorem S8:eR X (.builtin "len") (fun xs H Q=>∃z,xs=[.str z]/\z.length<=sizeLine/\Q (.int z.length) H):=by
 intro pins s O H xs us Q I r h
 obtain⟨z,rfl,hz,q⟩:=h
 obtain⟨u,rfl,t,rfl⟩:=lR r
 have hn:=rS
 exact len_str (by omega) ⟨.int z.length,H,I.tok _,⟨_,rfl⟩,q⟩
theorem eR.or{f:Value}{r r':List V->Hp->VK->Prop}(h:eR X f r)(h':eR X f r'):eR X f (fun xs H Q=>r xs H Q\/r' xs H Q):=by
 intro pins s O H xs us Q I rs q
 rcases q with q|q
 ·exact h pins s O H xs us Q I rs q
 ·exact h' pins s O H xs us Q I rs q
def vU(K:xFg)(T:String)(x:V)(H:Hp):Prop:=match x with
 |.str _=>T="str"
 |.int _=>T="int"
 |.ref p=>(T="list"/\∃xs,bD K H p xs)\/(T="tuple"/\∃xs,bO K H p xs)\/
   (T="dict"/\((∃kvs,H p=some (.dK kvs))\/∃kvs,H p=some (.dT kvs)))\/(T="set"/\∃S n,H p=some (.set S n))
 |_=>False
theorem B0{pins:List (Addr×Obj)}{O:St}{H:Hp}{s:Shared}{T:String}{x:V}{v:Value}(I:aF X pins O H s)(r:aR x v)(ty:vU X.K T x H) :
  s.TypeIs v T/\∀a,v=.ref a->∃ob,s.heap.get? a=some ob/\ob.dict=none:=by
 cases x with
 |str z=>
  obtain⟨t,rfl⟩:=r
  cases (show T="str" from ty)
  exact⟨typeIs_str s z t,fun _ e=>nomatch e⟩
 |int i=>
  obtain⟨t,rfl⟩:=r
  cases (show T="int" from ty)
  exact⟨typeIs_int s i t,fun _ e=>nomatch e⟩
 |ref p=>
  cases r
  rcases ty with⟨rfl,xs,hq⟩|⟨rfl,xs,hq⟩|⟨rfl,hk⟩|⟨rfl,S,n,hk⟩
  ·obtain⟨its,_,pl,_⟩:=I.list hq
   refine⟨pl.isList.typeIs,fun a e=>?_⟩
   cases e
   obtain⟨o,n,e,c,hd,_⟩:=pl
   exact⟨o,e,hd⟩
  ·obtain⟨its,_,⟨o,e1,hc,_,hd⟩,_⟩:=I.tupN hq
   refine⟨⟨o,e1,hc⟩,fun a e=>?_⟩
   cases e
   exact⟨o,e1,hd⟩
  ·have z:∃o,s.heap.get? p=some o/\o.ExactDict:=by
    rcases hk with⟨kvs,hk⟩|⟨kvs,hk⟩
    ·obtain⟨_,_,_,_,o,_,_,e,ex,_⟩:=I.hok p _ hk
     exact⟨o,e,ex⟩
    ·obtain⟨_,_,_,_,o,_,_,e,ex,_⟩:=I.hok p _ hk
     exact⟨o,e,ex⟩
   obtain⟨o,e,ex⟩:=z
   refine⟨⟨o,e,ex.1⟩,fun a e2=>?_⟩
   cases e2
   exact⟨o,e,ex.2.1⟩
  ·obtain⟨o,_,_,_,e,ex,_⟩:=I.hok p _ hk
   refine⟨⟨o,e,ex.1⟩,fun a e2=>?_⟩
   cases e2
   exact⟨o,e,ex.2.1⟩
 |_=>exact False.elim ty
def S9(K:xFg)(T:String)(r:V->List V->Hp->VK->Prop)(to:TE):TE:=fun O H Q=>to O H fun x H1=>vU K T x H1/\r x [] H1 Q
def tBM(K:xFg)(T:String)(r:V->List V->Hp->VK->Prop)(to:TE)(t:TA):TE:=fun O H Q=>to O H fun x H1=>vU K T x H1/\t O H1 fun xs H2=>r x xs H2 Q
variable{o e:Expr}{es:List Expr}{to:TE}{t:TA}{name:Str}{apos cpos:Pos}{T id:String}{r:V->List V->Hp->VK->Prop}
theorem nE(pa:PlainAttrs T)(slot:Slot T name id)(hty:typeOf (.builtin id)=pure (.type "method_descriptor"))(hm:MtR X id r)(ho:PE X o to)
  (hbase:attributeBase o name X.env (eval o X.env)=eval o X.env:=by rfl) (hline:(apos.endLine==cpos.line)=true:=by rfl):PE X (.Call (.Attribute o name apos) [] [] cpos) (S9 X.K T r to):=by
 intro pins s O H Q I h
 refine wpAny_Call_method0_late hbase hline (aT (ho pins s O H _ I h) fun v s1 ⟨x,H1,I1,r1,ty,q1⟩=>?_)
 obtain⟨h1,h2⟩:=B0 I1 r1 ty
 exact⟨T,id,pa,slot,hty,h1,h2,Calls.callWith_builtin rfl (PySem.evalArgs_none (hm pins s1 O H1 x [] v [] Q I1 r1 .nil q1))⟩
theorem iO(pa:PlainAttrs T)(slot:Slot T name id)(hty:typeOf (.builtin id)=pure (.type "method_descriptor"))(hm:MtR X id r)(ho:PE X o to)(ha:PA X (e::es) t)
  (hbase:attributeBase o name X.env (eval o X.env)=eval o X.env:=by rfl)
  (hfew : ((backTo cpos (starEach (e :: es) X.env)).all (fun x => !x.1) && (backToKw cpos (keywordEach [] X.env)).all (fun x => x.1.isSome)
   && decide ((e::es).length+([]:List Keyword).length+(if ([]:List Keyword).isEmpty then 0 else 1)<30))=true:=by rfl)
  (hline:(apos.endLine==cpos.line)=true:=by rfl) (hs:starEach (e::es) X.env=(false,eval e X.env)::starEach es X.env:=by rfl) (hplain:(backTo cpos (starEach es X.env)).any (·.1)=false:=by rfl) :
  PE X (.Call (.Attribute o name apos) (e::es) [] cpos) (tBM X.K T r to t):=by
 intro pins s O H Q I h
 refine wpAny_Call_method_late hbase hfew hline rfl (aT (ho pins s O H _ I h) fun v s1 ⟨x,H1,I1,r1,ty,q1⟩=>?_)
 obtain⟨h1,h2⟩:=B0 I1 r1 ty
 refine⟨T,id,pa,slot,hty,h1,h2,?_⟩
 have hA:=ha cpos pins s1 O H1 _ I1 q1
 rw[hs] at hA ⊢
 refine Calls.callWith_builtin (by show (false||(backTo cpos (starEach es X.env)).any (·.1))=false;rw[hplain]<;>rfl) (Calls.evalArgs_plain ?_)
 exact aT hA fun us s2 ⟨vs,H2,I2,r2,q2⟩=>hm pins s2 O H2 x vs v us Q I2 r1 r2 q2
end
end L2
namespace L2
open PySem.Spec PyProof.Rows
def kM(X:Cx)(id:String)(r:V->List V->Hp->VK->Prop):Prop:=
 ∀(pins:List (Addr×Obj)) (s:Shared) (O:St) (H:Hp) (x:V) (xs:List V) (v:Value) (us:List Value) (Q:VK),aF X pins O H s->aR x v->aX xs us->r x xs H Q->
  wpAny (model X.prog X.w) X.A (call (.builtin id) (v::us)) (EP X pins O Q) X.xe s
theorem aX.one:∀{x:V} {us:List Value},aX [x] us->∃u,us=[u]/\aR x u
 |_,_,.cons r .nil=>⟨_,rfl,r⟩
theorem aX.zero:∀{us:List Value},aX [] us->us=[]
 |_,.nil=>rfl
theorem aX.dropLast{xs:List V}{us:List Value}(h:aX xs us):aX xs.dropLast us.dropLast:=by
 induction h with
 |nil=>exact .nil
 |cons r t ih=>
  cases t with
  |nil=>exact .nil
  |cons q t'=>exact .cons r ih
theorem aX.rep{xs:List V}{us:List Value}(h:aX xs us):∀k:Nat,aX (List.replicate k xs).flatten (List.replicate k us).flatten
 |0=>.nil
 |k+1=>by
  rw[xa0,xa0,xbu,xbu]
  exact aX.append h (aX.rep h k)
theorem TC{α:Type}(l:List α):l.eraseIdx (l.length-1)=l.dropLast:=by
 induction l with
 |nil=>rfl
 |cons a r ih=>
  cases r with
  |nil=>rfl
  |cons b r=>
   have e:(a::b::r).length-1=((b::r).length-1)+1:=by
    have h1:(a::b::r).length=r.length+2:=rfl
    have h2:(b::r).length=r.length+1:=rfl
    omega
   rw[e,List.eraseIdx_cons_succ,ih]
   all_goals rfl
theorem B2(its:List Value):∀(k:Nat) (acc:List Value),
  List.foldl (fun x1 x2=>x1++x2) acc.toArray (List.replicate k its.toArray)=(acc++(List.replicate k its).flatten).toArray
 |0,acc=>by simp
 |k+1,acc=>by
  have e:acc.toArray++its.toArray=(acc++its).toArray:=by simp
  have e2:(acc++its)++(List.replicate k its).flatten=acc++(List.replicate (k+1) its).flatten:=by
   rw[xa0,xbu,xa5]
  rw[<- e2,<- B2 its k (acc++its),<- e,xa0,xc7]
section
variable{X:Cx}{pins:List (Addr×Obj)}{O:St}{H:Hp}{s:Shared}{l b:Addr}{xs ys zs:List V}
theorem aF.lset{its its':List Value}{n:Nat}{f:Array Value->Array Value}{t':Nat}(I:aF X pins O H s)(hH:H l=some (.lst xs))
  (e:s.heap.get? l=some { cls:=.type "list",data:=.seq its.toArray n }) (hf:f its.toArray=its'.toArray) (hv:aX ys its') (hz:ys.length<=sizeLine) :
  aF X pins O (aS H l (.lst ys)) { s with heap:=s.heap.update l (Obj.mapSeq f),toks:=t' }:=by
 have q:=PySem.IsL.update e f
 rw[hf] at q
 refine I.write (x:=l) (e:=l) (by rw[hH];exact trivial) (.inl rfl) (fun b' u hb hu=>(xbr s.heap (Obj.mapSeq f) (xa6 hb)).trans hu) ⟨_,q⟩ ?_
 exact⟨hz,its',_,hv,q⟩
theorem aF.lnew{its:List Value}{t':Nat}(I:aF X pins O H s)(hv:aX ys its)(hz:ys.length<=sizeLine) :
  aF X pins O (aS H s.heap.objs.size (.lst ys)) { s with heap:=s.heap.push { cls:=.type "list",data:=.seq its.toArray },toks:=t' }:=
 I.laid (fun _ _ q=>xad _ q) (xaf _) ⟨hz,its,0,hv,xaz _ rfl⟩
theorem aF.fresh(I:aF X pins O H s):H s.heap.objs.size=none:=I.hok.fresh (xaf _)
theorem aF.lstM(I:aF X pins O H s)(hH:H l=some (.lst xs)):xs.length<=sizeLine/\∃(its:List Value) (n:Nat),aX xs its/\xs.length=its.length/\s.heap.get? l=some { cls:=.type "list",data:=.seq its.toArray n }:=by
 obtain⟨z,its,n,r,e⟩:=I.hok l _ hH
 exact⟨z,its,n,r,r.length,e⟩
theorem B3{n:Nat}(h:n<=sizeLine):Builtin.List.listTooLong n=false:=by
 unfold Builtin.List.listTooLong
 exact xae (by omega)
end
section
variable{X:Cx}
def TD:V->List V->Hp->VK->Prop:=fun x vs H Q=>∃l xs y,x=.ref l/\vs=[y]/\H l=some (.lst xs)/\xs.length<sizeLine/\Q .non (aS H l (.lst (xs++[y])))
theorem o7:kM X "list.append" TD:=by
 intro pins s O H x vs v us Q I rx rv h
 obtain⟨l,xs,y,rfl,rfl,hH,hz,q⟩:=h
 cases rx
 obtain⟨u,rfl,ru⟩:=rv.one
 obtain⟨z,its,n,r,hl,e⟩:=I.lstM hH
 refine call_meets F.slot_list_append ⟨_,e,rfl⟩ F.entry_list_append (F.args_list_append_2 _ _) (PySem.list_append l its.toArray n u (by rw[xas];omega)) ⟨e,?_⟩
 refine⟨.non,_,I.lset (its':=its++[u]) hH e (by simp) (r.append (.cons ru .nil)) ?_,rfl,q⟩
 rw[xak,List.length_singleton]
 omega
def TF:V->List V->Hp->VK->Prop:=fun x vs H Q=>∃l xs y,x=.ref l/\vs=[]/\H l=some (.lst xs)/\xs[xs.length-1]? = some y/\Q y (aS H l (.lst xs.dropLast))
theorem nF:kM X "list.pop" TF:=by
 intro pins s O H x vs v us Q I rx rv h
 obtain⟨l,xs,y,rfl,rfl,hH,hy,q⟩:=h
 cases rx
 have hus:=rv.zero
 subst hus
 obtain⟨z,its,n,r,hl,e⟩:=I.lstM hH
 obtain⟨u,hu,ru⟩:=r.get hy
 have hy':its.toArray[its.toArray.size-1]? = some u:=by
  show its.toArray[its.length-1]? = some u
  rw[<- Array.getElem?_toList,<- hl]
  exact hu
 refine call_meets F.slot_list_pop ⟨_,e,rfl⟩ F.entry_list_pop (F.args_list_pop_1 _) (MeetsSeq.list_pop_last l its.toArray n u hy' (by rw[xas];omega)) ⟨e,?_⟩
 refine⟨y,_,I.lset (its':=its.dropLast) hH e ?_ r.dropLast ?_,ru,q⟩
 ·show its.toArray.eraseIdxIfInBounds (its.toArray.size-1)=its.dropLast.toArray
  rw[xas,List.eraseIdxIfInBounds_toArray,TC]
 ·rw[List.length_dropLast]
  omega
def TH:R2:=fun x y H Q=>∃l k xs,x=.ref l/\y=.int k/\H l=some (.lst xs)/\-(2^63)<=k/\k<2^63/\xs.length*k.toNat<=sizeLine/\
 ∀p,H p=none->Q (.ref p) (aS H p (.lst (List.replicate k.toNat xs).flatten))
theorem B4{α:Type}(xs:List α)(k:Nat):(List.replicate k xs).flatten.length=k*xs.length:=by
 induction k with
 |zero=>simp
 |succ k ih=>rw[xa0,xbu,xak,ih,Nat.succ_mul,Nat.add_comm]
theorem TJ:bR X (binaryOp .Mult) TH:=by
 intro pins s O H x y v u Q I rx ry h
 obtain⟨l,k,xs,rfl,rfl,hH,h1,h2,hz,q⟩:=h
 cases rx
 obtain⟨t,rfl⟩:=ry
 obtain⟨z,its,n,r,hl,e⟩:=I.lstM hH
 have hlen:its.toArray.size*k.toNat<=sizeLine:=by rw[xas,<- hl];exact hz
 have hcap:¬its.toArray.size*k.toNat>(2^63-1)/8:=by
  have:(sizeLine:Nat)<=(2^63-1)/8:=by decide
  omega
 have hfit:¬(!Builtin.List.listFitsIndex k)=true:=by
  rw[fitsIndex_both h1 h2]
  exact xa1
 have hlong:¬Builtin.List.listTooLong (its.toArray.size*k.toNat)=true:=by
  rw[B3 hlen]
  exact xa1
 have hnew:List.foldl (fun x1 x2=>x1++x2) #[] (List.replicate (if its.toArray.isEmpty=true then 0 else k.toNat) its.toArray)=(List.replicate k.toNat its).flatten.toArray:=by
  have f0:∀m:Nat,List.foldl (fun x1 x2=>x1++x2) #[] (List.replicate m its.toArray)=(List.replicate m its).flatten.toArray:=fun m=>by
   have:=B2 its m []
   rw[xc8] at this
   exact this
  rw[f0]
  cases its with
  |nil=>simp
  |cons a r'=>rw[xao (by simp)]
 refine wpAny_binaryOp_repeat_ref (T:="list") (U:="int") (by decide) ⟨_,e,rfl⟩ (fun s'=>typeIs_int s' k t) noFill_list_mul F.fills_int_mul F.slot_int_rmul repeat_list F.slot_int_index.lookup
  (call_meets F.slot_int_rmul (typeIs_int s k t) F.entry_int_rmul (F.args_int_rmul_2 _ _) (int___rmul___int_list k t l its.toArray n)
   ⟨e,rfl,⟨_,e,rfl⟩,call_meets F.slot_list_mul ⟨_,e,rfl⟩ F.entry_list_mul (F.args_list_mul_2 _ _) (AutoListH.list___mul___list_int_3 l its.toArray n k t hfit hcap hlong) ⟨e,?_⟩⟩)
 rw[hnew]
 exact⟨.ref _,_,I.lnew (t':=s.toks) (r.rep k.toNat) (by rw[B4,Nat.mul_comm];exact hz),rfl,q _ I.fresh⟩
end
end L2
namespace Att
open PySem.W PySem.Calls PyProof.Rows
theorem TK{P:Params}{h:Heap}:∀(ns:List Int) (vs:List Value),WellAll P h vs (ns.map WData.int)->IntsAre vs ns:=by
 intro ns
 induction ns with
 |nil=>
  intro vs w
  rw[List.map_nil] at w
  cases w
  exact .nil
 |cons n ns ih=>
  intro vs w
  rw[xbl] at w
  cases w with
  |cons a b=>
   cases a
   exact .cons _ _ (ih _ b)
theorem TL{l:OpenLaw}{n:Nat}(hn:l.most=some n){P:Params}{h:Heap}{args:List WData}{vals:List Value}
  (hpre:l.row.toRowW.claim.pre args=true) (hwl:WellAll P h vals args) :
  ∃a vs ns,vals=[Value.ref a]/\args=[WData.list (ns.map WData.int)]/\h.get? a=some { cls:=.type "list",data:=.seq vs.toArray }/\IntsAre vs ns/\ns.length<=n:=by
 have hsh:WShape.hasAll [] args [.list .int]=true:=(pre_splitW hpre).1
 have hc:l.pre.holds [] { args:=args }=true:=(pre_splitW hpre).2
 obtain⟨d,r,rfl,h1,h2⟩:=hasAllW_cons hsh
 obtain rfl:=hasAllW_nil h2
 obtain⟨xs,rfl,h3⟩:=hasW_list h1
 obtain⟨ns,rfl⟩:=items_int h3
 have hlen:ns.length<=n:=by
  unfold OpenLaw.pre at hc
  have h4:(WTm.not (.lt (.lit (.int (n:Int))) (.len (.arg 0)))).holds [] { args:=[.list (ns.map .int)] }=true:=by
   have h4:=(holds_andW hc).1
   rw[hn] at h4
   exact h4
  have h5:=condW_of h4 (w_not (w_lt w_lit (w_len_list (w_arg rfl))))
  rw[xat] at h5
  refine xc2 fun q=>?_
  have q':(n:Int)<((ns.length:Nat):Int):=by omega
  first
   |(rw[xab q'] at h5;exact xag h5 (by decide))
   |(simp at h5;omega)
 cases hwl with
 |cons w1 w2=>
  cases w2
  cases w1 with
  |list ho hall=>exact⟨_,_,ns,rfl,rfl,ho,TK ns _ hall,hlen⟩
theorem TM(l:OpenLaw)(args:List WData):l.row.toRowW.claim.post args (.bool true) args=true:=
 postW_of (r:=l.row.toRowW) (X:=(true==true))
  (show WShape.has [] (.bool true) .bool=true by first|rfl|decide|simp[WShape.has,WShape.arms,WShape.armsAll])
  (show (WTm.eq .res (.lit (.bool true))).value [] { args:=args,res:=some (.bool true),after:=args }=some (.bool (true==true)) from w_eq_bool (w_res rfl) w_lit) rfl
theorem attach_call{l:OpenLaw}{n:Nat}{q:Program}{loose:List Str}{XP:(Str->Option Value)->Heap->Prop}{YP:World->Heap->Prop}{d:DefRec}
  (hn:l.most=some n) (hdf:d.params.defaults=[])
  (call : ∀ (w : World) (s₀ s₁ : Shared) (mg mb : Str -> Option Value) (fa : Addr) (o : Obj) (pm cd doc : Value) (a : Addr) (vs : List Value) (ns : List Int),
   Ground q loose [] XP w s₀ mg mb s₁.heap->YP w s₁.heap->
   s₁.heap.get? fa=some o->o.data=.func (docDef d.name d.params d.body d.scope pm cd doc)->s₁.heap.CodeRec cd d.name->mg d.name=some (.ref fa)->
   s₁.heap.get? a=some { cls:=.type "list",data:=.seq vs.toArray }->IntsAre vs ns->ns.length<=n->s₁.gens=#[]->
   codeAny (model l.prog w) callerA (.call (.ref fa) ⟨[.ref a],[]⟩) (fun r s'=>r=.ok (.ret (.bool true))/\OldK s₁.heap s'.heap/\s'.os=s₁.os/\AllBare s'.gens) s₁) :
  WalkO q loose XP YP l.row.toRowW d [] (fun f vs=>PySem.call f vs):=by
 intro w s₀ s₁ mg mb G Y fa o pm cd doc dV kV ho hd hcd hD hmg hg args vals as hpre hlay hrd hwl hlo
 obtain rfl:dV=.none:=Dflts.none hD hdf
 obtain rfl:kV=.none:=Dflts.noKw hD
 obtain⟨a,vs,ns,rfl,rfl,hobj,hints,hlen⟩:=TL hn hpre hwl
 refine enter_call (codeAny_mono (call w s₀ s₁ mg mb fa o pm cd doc a vs ns G Y ho (fd_plain hd) hcd hmg hobj hints hlen hg) fun r s' hq=>?_)
 obtain⟨rfl,h2,h3,h4⟩:=hq
 exact⟨.inl ⟨.bool true,.bool true,[],rfl,fun _=>rfl,.bool true,TM l _,fun _=>⟨List.Pairwise.nil,fun _ hm=>(nomatch hm)⟩⟩,h2,h3,h4⟩
end Att
namespace L2
open PySem.Spec PyProof.Rows
theorem B5:∀{vs:List Value} {ns:List Int},IntsAre vs ns->aX (ns.map V.int) vs
 |_,_,.nil=>.nil
 |_,_,.cons n t h=>.cons ⟨t,rfl⟩ (B5 h)
def vV(H:Hp):Prop:=∀b,H b=none\/∃o xs,H b=some (.frz o (.lst xs))
theorem TN{P:Program}{w:World}{K:xFg}{mg mb:Str->Option Value}{CX:eN}{k:Nat}{fa a:Addr}{fd:FuncData}{x:Str}{sp:Sp}{s₁:Shared}{vs:List Value}{ns:List Int}
  (KX:K.In s₁.heap) (hns:s₁.heap.Ns mainGlobals mg) (hb:s₁.heap.Ns builtinsNs mb) (hbb:∀x:Str,x≠"__name__"->mb x=bootBuiltins x) (hlim:s₁.heap.NoLimit) (hg:s₁.gens=#[])
  (ha:s₁.heap.get? a=some { cls:=.type "list",data:=.seq vs.toArray }) (hi:IntsAre vs ns) (hl:ns.length<=sizeLine) (hr:c6 k callerA)
  (F:∀base:Heap,K.In base->base.Ns mainGlobals mg->dN P w K mg base CX k fa fd [x] sp) (hbind:∀(s:Shared) (u:Value),BindsTo s fd ⟨[u],[]⟩ [(x,u)])
  (hsp:∀H:Hp,vV H->bD K H a (ns.map V.int)->sp [.ref a] H (fun v _=>v=.bl true) fun _ _ _=>False)
  (hCX:∀H e s',CX [] H s₁ (fun _ _ _=>False) e s'->False) :
  codeAny (model P w) callerA (.call (.ref fa) ⟨[.ref a],[]⟩) (fun r s'=>r=.ok (.ret (.bool true))/\OldK s₁.heap s'.heap/\s'.os=s₁.os/\AllBare s'.gens) s₁:=by
 have rv:=B5 hi
 have lenV:=hi.length
 have core:∀H:Hp,vV H->bD K H a (ns.map V.int)->cY P w H s₁.heap->(∀b,H b≠none->b=a)->(H a≠none->K.lookup a=none)->
   codeAny (model P w) callerA (.call (.ref fa) ⟨[.ref a],[]⟩) (fun r s'=>r=.ok (.ret (.bool true))/\OldK s₁.heap s'.heap/\s'.os=s₁.os/\AllBare s'.gens) s₁:=by
  intro H hO hS hok hA hK
  have base_of:∀{b:Addr} {o:Obj},s₁.heap.get? b=some o->H b=none->(jW s₁.heap H).get? b=some o:=fun e n=>P3 e n
  have noA:∀{b:Addr} {o:Obj} {es:Array DictEntry} {ep:Nat},s₁.heap.get? b=some o->o.data=.dict es ep->H b=none:=fun {b o es ep} e d=>by
   cases q:H b with
   |none=>rfl
   |some u=>
    have e':b=a:=hA b (by rw[q];simp)
    subst e'
    rw[ha] at e;cases e
    have d':Data.seq vs.toArray _=Data.dict es ep:=d
    cases d'
  have nsK:∀{b:Addr} {m:Str->Option Value},s₁.heap.Ns b m->(jW s₁.heap H).Ns b m:=fun {b m} ⟨o,es,ep,e,d,r⟩=>⟨o,es,ep,base_of e (noA e d),d,r⟩
  have hKb:K.In (jW s₁.heap H):=fun b o e=>base_of (KX b o e) (by
   cases q:H b with
   |none=>rfl
   |some u=>
    have e':b=a:=hA b (by rw[q];simp)
    subst e'
    rw[hK (by rw[q];simp)] at e;cases e)
  have hM:Mod K mg (jW s₁.heap H):=⟨hKb,nsK hns,⟨mb,nsK hb,hbb⟩,let⟨mc,h1,h2⟩:=hlim;⟨mc,nsK h1,h2⟩⟩
  have e0:rW P w K mg (jW s₁.heap H) callerA [] s₁ H:=⟨rfl,hM,fun b o e=>P4 e,Nat.le_of_eq (P2 _ _),trivial,fun b hb=>xag (show b∈([]:List Addr) from hb) (by simp),hok,.of_eq hg⟩
  refine codeAny_mono ((F _ hKb (nsK hns)).run callerA [] s₁ H ⟨[.ref a],[]⟩ [.ref a] [.ref a] _ _ hr e0 (hbind s₁ (.ref a)) (.cons rfl .nil) (hsp H hO hS)) fun r s' h=>?_
  cases r with
  |error e=>exact(hCX H e s' h).elim
  |ok fl=>
   cases fl with
   |next=>exact False.elim h
   |brk=>exact False.elim h
   |cont=>exact False.elim h
   |ret u=>
    obtain⟨v,H',os,bare,un,hok',r',q⟩:=h
    have q':v=.bl true:=q
    subst q'
    obtain rfl:u=Value.bool true:=r'
    refine⟨rfl,OldK.of_keep fun b o e=>?_,os,bare⟩
    cases q:H b with
    |none=>exact un.keep b o e q (by intro z;exact xag (show b∈([]:List Addr) from z) (by simp)) (by simp)
    |some u=>
     rcases hO b with z|⟨ob,xs,z⟩
     ·rw[q] at z;cases z
     ·have z2:=un.frzs b ob _ z
      obtain⟨e1,_⟩:=hok b _ z
      obtain⟨e2,_⟩:=hok' b _ z2
      rw[e] at e1;cases e1
      exact e2
 cases hk:K.lookup a with
 |some o=>
  have e:=KX a o hk
  rw[ha] at e
  cases e
  refine core (fun _=>none) (fun _=>.inl rfl) (.inr ⟨_,vs.toArray,_,hk,rfl,rfl,rfl,by rw[xas,lenV];exact hl,by simpa using rv⟩) (fun b u z=>by have z':(none:Option HO)=some u:=z;cases z') (fun b z=>xag rfl z) fun z=>xag rfl z
 |none=>
  refine core (fun b=>if b=a then some (.frz { cls:=.type "list",data:=.seq vs.toArray } (.lst (ns.map V.int))) else none) (fun b=>?_) (.inl (.inr ⟨{ cls:=.type "list",data:=.seq vs.toArray },xau rfl⟩)) (fun b u z=>?_) (fun b z=>?_) fun _=>hk
  ·by_cases hb:b=a
   ·exact .inr ⟨_,_,xau hb⟩
   ·exact .inl (xao hb)
  ·by_cases hb:b=a
   ·have z':=(xau hb).symm.trans z
    cases z'
    subst hb
    exact⟨ha,by rw[xat];exact hl,vs,_,rv,ha⟩
   ·have z':=(xao hb).symm.trans z
    cases z'
  ·by_cases hb:b=a
   ·exact hb
   ·exact xag (xao hb) z
end L2
namespace L2
open PySem.Spec PyProof.Rows
theorem walk_of{l:PySem.W.OpenLaw}{n k:Nat}{q:Program}{loose:List Str}{XP:(Str->Option Value)->Heap->Prop}{YP:World->Heap->Prop}{d:DefRec}{K:Params->xFg}{CX:World->eN}{sp:World->Sp}{x:Str}
  (hn:l.most=some n) (hn2:n<=sizeLine) (hdf:d.params.defaults=[]) (hr:c6 k callerA)
  (hY:∀(w:World) (h:Heap),YP w h->(K w.params).In h)
  (F : ∀ (w : World) (mg : Str -> Option Value) (fa : Addr) (h : Heap), (K w.params).In h -> h.Ns mainGlobals mg -> mg d.name = some (.ref fa) ->
   ∃fd:FuncData,(∀(s:Shared) (u:Value),BindsTo s fd ⟨[u],[]⟩ [(x,u)])/\
    ∀base:Heap,(K w.params).In base->base.Ns mainGlobals mg->dN l.prog w (K w.params) mg base (CX w) k fa fd [x] (sp w))
  (hsp:∀(w:World) (H:Hp) (a:Addr) (ns:List Int),ns.length<=n->vV H->bD (K w.params) H a (ns.map V.int)->sp w [.ref a] H (fun v _=>v=.bl true) fun _ _ _=>False)
  (hCX:∀(w:World) (H:Hp) (s:Shared) (e:Value) (s':Shared),CX w [] H s (fun _ _ _=>False) e s'->False) :
  PySem.W.WalkO q loose XP YP l.row.toRowW d [] (fun f vs=>PySem.call f vs):=by
 refine Att.attach_call hn hdf fun w s₀ s₁ mg mb fa o pm cd doc a vs ns G Y ho hd hcd hmg hobj hints hlen hg=>?_
 have KX:=hY w _ Y
 obtain⟨fd,hb,hF⟩:=F w mg fa _ KX G.T.g hmg
 exact TN KX G.T.g G.T.b G.T.builtins G.T.nolimit hg hobj hints (xav hlen hn2) hr hF hb (fun H hO hS=>hsp w H a ns hlen hO hS) fun H e s'=>hCX w H s₁ e s'
end L2
namespace L2
open PySem.Spec PyProof.Rows
def kN(s:Stmt):Arguments:=match s with
 |.FunctionDef _ a _ _ _ _ _ _ _ _=>a
 |_=>{ posonlyargs:=[],args:=[],vararg:=none,kwonlyargs:=[],kw_defaults:=[],kwarg:=none,defaults:=[] }
def gE(s:Stmt):List Stmt:=match s with
 |.FunctionDef _ _ b _ _ _ _ _ _ _=>b
 |_=>[]
def cP(s:Stmt):Scope:=match s with
 |.FunctionDef _ _ _ _ _ _ sc _ _ _=>sc
 |_=>{ kind:=.function,names:=[],isGenerator:=false,isCoroutine:=false }
abbrev E0:XK:=fun _ _ _=>False
structure jA(K:xFg)(x qual:Str)(st:Stmt)(f:Addr)(fd:FuncData):Prop where
 ex:∃(oc:Value) (od:Option Addr) (kV doc pm:Value) (an:Option Addr) (cdv ct:Value) (osl:Array (Option Value)),
  fd=PySem.W.fnOf x qual (kN st) (gE st) (cP st) .none kV doc pm an cdv ct/\K.lookup f=some ⟨oc,od,.func fd,osl⟩/\PySem.W.codeIn K cdv qual=true
 kp:PySem.W.keepIn K (.ref f)=true
section
variable{P:Program}{w:World}{K:xFg}{mg:Str->Option Value}{base:Heap}
theorem jA.binds{x qual:Str}{st:Stmt}{f:Addr}{fd:FuncData}{ps:List Str}(F:jA K x qual st f fd)
  (h:∀(kV doc pm:Value) (an:Option Addr) (cdv ct:Value) (us:List Value),us.length=ps.length->bindArgs (PySem.W.fnOf x qual (kN st) (gE st) (cP st) .none kV doc pm an cdv ct) ⟨us,[]⟩=pure (ps.zip us)):iN K fd ps []:=by
 obtain⟨oc,od,kV,doc,pm,an,cdv,ct,osl,rfl,lk,hcd⟩:=F.ex
 exact .all (h kV doc pm an cdv ct)
theorem B6{x qual:Str}{st:Stmt}{f:Addr}{oc:Value}{od an:Option Addr}{osl:Array (Option Value)}{kV doc pm cdv ct:Value}(l:K.lookup f=some ⟨oc,od,.func (PySem.W.fnOf x qual (kN st) (gE st) (cP st) .none kV doc pm an cdv ct),osl⟩)
  (c:PySem.W.codeIn K cdv qual=true) (k:PySem.W.keepIn K (.ref f)=true):jA K x qual st f (PySem.W.fnOf x qual (kN st) (gE st) (cP st) .none kV doc pm an cdv ct):=⟨⟨oc,od,kV,doc,pm,an,cdv,ct,osl,rfl,l,c⟩,k⟩
end
theorem TQ{n:Nat}(h:n<=1000):n<sizeLine:=xcy h (by decide)
section
variable{X:Cx}
theorem pv(i:Nat){x:Str}{pos:Pos}(hN:X.N[i]? = some x:=by rfl)(hv:cT X.env.scope x:=by first|exact Or.inl rfl|exact Or.inr (Or.inl rfl)|exact Or.inr (Or.inr rfl))(hd:(x==("__debug__":Str))=false:=by decide)
  (hcd:(x==("__classdict__":Str))=false:=by decide):PE X (.Name x pos) (AZ i):=P7 hN hv hd hcd
end
theorem rX{A B:Prop}(h:B):if false=true then A else B:=by
 rw[xao xa1]
 exact h
theorem rY{A B:Prop}(h:A):if true=true then A else B:=by
 rw[xau rfl]
 exact h
def aH(H H':Hp):Prop:=∀b o,H b=some o->H' b=some o
theorem aH.refl(H:Hp):aH H H:=fun _ _ h=>h
theorem aH.trans{H H1 H2:Hp}(a:aH H H1)(b:aH H1 H2):aH H H2:=fun c o h=>b c o (a c o h)
theorem aH.free{H H':Hp}(e:aH H H'){l:Addr}(h:H' l=Option.none):H l=Option.none:=by
 cases q:H l with
 |none=>rfl
 |some o=>
  rw[e l o q] at h
  cases h
theorem aH.seq{K:xFg}{H H':Hp}{a:Addr}{xs:List V}(e:aH H H')(h:bD K H a xs):bD K H' a xs:=by
 rcases h with (h|⟨o,h⟩)|h
 ·exact .inl (.inl (e _ _ h))
 ·exact .inl (.inr ⟨o,e _ _ h⟩)
 ·exact .inr h
end L2
end
namespace L2
open PySem.Spec PyProof.Rows
theorem B7{α β:Type}(g:β->α->β):∀{l:List α} {f:α->β->Sem (ForInStep β)} (c:β),(∀x∈l,∀c,f x c=pure (.yield (g c x)))->forIn l c f=pure (l.foldl g c)
 |[],_,_,_=>rfl
 |x::l,f,c,h=>by
  rw[xb4,h x xa4 c,pure_bind]
  exact B7 g (g c x) fun y hy=>h y (xar _ hy)
def iP(env:Env)(cs:List (Str×Addr))(x:Str×NameKind):List (Str×Addr):=
 if (x.2==NameKind.free)=true then (x.1,(env.cells.lookup x.1).getD 0)::cs else cs
def nG(env:Env)(names:List (Str×NameKind)):List (Str×Addr):=names.foldl (iP env) []
theorem TR{env:Env}{scope:Scope}(h:∀x∈scope.names,x.2=.free->∃c,env.cells.lookup x.1=some c):closureFor scope env=pure (nG env scope.names):=by
 simp only[closureFor]
 rw[B7 (iP env) [] (fun x hx c=>by
  obtain⟨n,k⟩:=x
  by_cases hk:k=.free
  ·obtain⟨a,e⟩:=h (n,k) hx hk
   have e':env.cells.lookup n=some a:=e
   subst hk
   simp[iP,cellOf,e']
  ·have hb:(k==NameKind.free)=false:=by simpa using hk
   simp[iP,hb])]
 rfl
theorem vW{env:Env}:∀(l:List (Str×NameKind)) (acc:List (Str×Addr)),(∀x∈l,x.2=.free->∃c,env.cells.lookup x.1=some c)->(∀y c,acc.lookup y=some c->env.cells.lookup y=some c)->
  ∀y c,(l.foldl (iP env) acc).lookup y=some c->env.cells.lookup y=some c
 |[],acc,_,ha,y,c,e=>ha y c e
 |x::l,acc,h,ha,y,c,e=>by
  refine vW l (iP env acc x) (fun z hz=>h z (xar _ hz)) (fun z d q=>?_) y c e
  unfold iP at q
  split at q
  ·rename_i hk
   obtain⟨a,ea⟩:=h x xa4 (by simpa using hk)
   rw[xb2] at q
   cases hz:z==x.1 with
   |true=>
    rw[hz] at q
    rw[ea] at q
    have:z=x.1:=by simpa using hz
    rw[this,ea];simpa using q
   |false=>rw[hz] at q;exact ha z d q
  ·exact ha z d q
theorem vX{env:Env}:∀(l:List (Str×NameKind)) (acc:List (Str×Addr)) (y:Str),((∃c,acc.lookup y=some c)\/(y,NameKind.free)∈l)->∃c,(l.foldl (iP env) acc).lookup y=some c
 |[],acc,y,h=>by
  rcases h with h|h
  ·exact h
  ·exact xag h (by simp)
 |x::l,acc,y,h=>by
  refine vX l (iP env acc x) y ?_
  rcases h with⟨c,h⟩|h
  ·left
   unfold iP
   split
   ·rw[xb2]
    cases hz:y==x.1 with
    |true=>exact⟨_,rfl⟩
    |false=>exact⟨c,h⟩
   ·exact⟨c,h⟩
  ·rcases xal.mp h with e|h
   ·left
    subst e
    unfold iP
    rw[xau (by rfl),xb2]
    simp
   ·exact .inr h
theorem lU{scope:Scope}{env:Env}:∀{names:List (Str×NameKind)} {x:Str} {k:NameKind},
  (names.map fun (n,k)=>if (k==NameKind.free&&env.scope.kind==.function&&env.kindOf n==some .cell) then (n,NameKind.cell) else (n,k)).lookup x=some k->
  names.lookup x=some k\/(k=.cell/\names.lookup x=some .free)
 |[],_,_,h=>by simp at h
 |(n,k')::r,x,k,h=>by
  change List.lookup x ((if (k'==NameKind.free&&env.scope.kind==.function&&env.kindOf n==some .cell)=true then (n,NameKind.cell) else (n,k'))::_)=some k at h
  by_cases hc:(k'==NameKind.free&&env.scope.kind==.function&&env.kindOf n==some .cell)=true
  ·rw[xau hc,xb2] at h
   rw[xb2]
   cases hx:x==n with
   |true=>
    rw[hx] at h
    have hk:k'=.free:=by
     simp only[xax,beq_iff_eq] at hc
     exact hc.1.1
    subst hk
    have h':NameKind.cell=k:=by simpa using h
    exact .inr ⟨h'.symm,rfl⟩
   |false=>rw[hx] at h;exact lU (scope:=scope) h
  ·rw[xao hc,xb2] at h
   rw[xb2]
   cases hx:x==n with
   |true=>rw[hx] at h;exact .inl h
   |false=>rw[hx] at h;exact lU (scope:=scope) h
def vY(k:Nat)(NY N:List Str)(sc:Scope):Bool:=
 NY.length==k+N.length&&((NY.drop k).zip N).all fun p=>(sc.names.lookup p.1).isNone||(p.1==p.2&&sc.names.lookup p.1 != some .local)
structure LC(X:Cx)(k:Nat)(scope:Scope)(NY:List Str):Prop where
 cells:∀y∈scope.names,y.2≠.cell
 kind:scope.kind=.function
 names:∀y∈scope.names,y.2=.local->scope.names.lookup y.1=some .local
 free:∀y∈scope.names,y.2=.free->X.env.kindOf y.1=some .cell\/X.env.kindOf y.1=some .free
 ny:vY k NY X.N scope=true
 nd:NY.Nodup
def B8(k:Nat)(N:List Str)(sc0 scope:Scope)(NY:List Str):Bool:=
 (scope.names.all fun y=>y.2 != .cell)&&(scope.kind==.function)&&(scope.names.all fun y=>y.2 != .local||scope.names.lookup y.1==some .local) &&
 (scope.names.all fun y=>y.2 != .free||sc0.names.lookup y.1==some .cell||sc0.names.lookup y.1==some .free)&&vY k NY N scope&&decide NY.Nodup
theorem LC.of{X:Cx}{k:Nat}{N NY:List Str}{sc0 scope:Scope}(hN:X.N=N)(hs:X.env.scope=sc0)(h:B8 k N sc0 scope NY=true):LC X k scope NY:=by
 unfold B8 at h
 simp only[xax,xbg,xc9,bne_iff_ne,beq_iff_eq,ne_eq] at h
 obtain⟨⟨⟨⟨⟨h1,h2⟩,h3⟩,h4⟩,h5⟩,h6⟩:=h
 refine⟨h1,h2,fun y hy e=>?_,fun y hy e=>?_,by rw[hN];exact h5,xaj h6⟩
 ·rcases h3 y hy with z|z
  ·exact xag e z
  ·exact z
 ·show X.env.scope.names.lookup y.1=_\/X.env.scope.names.lookup y.1=_
  rw[hs]
  rcases h4 y hy with (z|z)|z
  ·exact xag e z
  ·exact .inl z
  ·exact .inr z
def dH(X:Cx)(scope:Scope)(NY:List Str)(s₀:Shared)(H₀:Hp)(C:Addr)(ex:List Addr):Cx:=
 { X with N:=NY,s₀:=s₀,H₀:=H₀,env:=compEnvC scope (nG X.env scope.names) C X.env,outer:=X.stack,ex:=ex,fn:=fun _=>false,pn:=[],xe:=fun _ _=>False }
def jY(X:Cx)(cs:List Expr)(t:TT):Prop:=
 ∀(pins:List (Addr×Obj)) (s:Shared) (O:St) (H:Hp) (Q:Bool->Hp->Prop),aF X pins O H s->t O H Q->
  wpAny (model X.prog X.w) X.A (forIn cs true fun c r=>if r=true then do let ok<-isTrue c X.env (eval c X.env);pure (ForInStep.yield ok) else pure (ForInStep.yield r)) (TP X pins O Q) X.xe s
def TU:TT:=fun _ H Q=>Q true H
theorem TV{X:Cx}:jY X [] TU:=fun _ _ _ H _ I h=>wpAny_tests_nil ⟨H,I,h⟩
theorem TW{X:Cx}{c:Expr}{t:TT}(hc:PT X c t):jY X [c] t:=fun pins s O H Q I h=>wpAny_tests_one (hc pins s O H Q I h)
def vZ(O σ2:St):Prop:=σ2.length=O.length/\∀(j:Nat) (v:V),O[j]? = some (some v)->σ2[j]? = some (some v)
def tLC(k:Nat)(wi:TI)(g:TG)(tc:TT)(te:TE):TE:=fun O H Q=>wi O H fun J H1=>∃W:Nat->Nat->List V->Hp->Prop,(∃m,W 0 m [] H1)/\∀i m ys H,W i m ys H->ys.length<sizeLine/\
 ((J.stop i H /\ ∀ D, H D = none -> Q (.ref D) (aS H D (.lst ys))) \/
  (J.go i H/\∃N:List V->Hp->Prop,(∀ys' H',N ys' H'->∃m',m'<m/\W (i+1) m' ys' H')/\
    ∀v H',J.yld i H v H'->g v (List.replicate k none++O) H' fun σ2 H2=>vZ (List.replicate k none++O) σ2/\
      tc σ2 H2 fun b H3=>if b=true then te σ2 H3 fun y H4=>N (ys++[y]) H4 else N ys H3))
theorem wA{α:Type}{t:Sem α}{Q Q':α->Shared->Prop}{M:Model}{A:Around}{E:Value->Shared->Prop}{s:Shared}(h:wpAny M A t Q (fun _ _=>False) s)(hQ:∀a s,Q a s->Q' a s):wpAny M A t Q' E s:=
 wpAny_mono h hQ fun _ _ z=>False.elim z
section
variable{prog:Program}{w:World}{A:Around}{R:Result->Shared->Prop}{s:Shared}
theorem TX{elt tg iter:Expr}{ifs:List Expr}{scope:Scope}{pos:Pos}{it acc:Value}{env:Env}(W:Nat->Shared->Prop)
  (turn : ∀ n s, W n s -> ∀ E', wpAny (model prog w) A (pyNext it) (fun r s1 => match r with
   |none=>R (.ok .next) s1
   |some v=>wpAny (model prog w) A (letOwnedTupleGo tg it v) (fun _ s2=>wpAny (model prog w) A (assign tg env v) (fun _ s3=>
     wpAny (model prog w) A (forIn ifs true fun c r=>if r=true then do let ok<-isTrue c env (eval c env);pure (ForInStep.yield ok) else pure (ForInStep.yield r)) (fun ok s4=>
      if ok=true then wpAny (model prog w) A (eval elt env) (fun x s5=>wpAny (model prog w) A (call (.builtin "list.append") [acc,x]) (fun _ s6=>∃m,m<n/\W m s6) E' s5) E' s4
      else ∃m,m<n/\W m s4) E' s3) E' s2) E' s1) E' s)
  (n:Nat) (h:W n s):codeAny (model prog w) A (.compLoop (.ListComp elt [⟨tg,iter,ifs,0⟩] scope pos) 0 it acc env) R s:=by
 refine codeAny_loop rfl W (fun n s hW=>?_) n h
 show wpAny _ A ((compTurn (.ListComp elt [⟨tg,iter,ifs,0⟩] scope pos) 0 it acc env).onRaise (fun x=>do noteFrame x env;theTreesLotGoes x)) _ _ s
 refine wpAny_noted ?_
 rw[compTurn_list]
 refine xaa (wpAny_standAt (xaa (aT (turn n s hW _) fun r s1 h1=>?_)))
 cases r with
 |none=>exact xaw h1
 |some v=>
  refine xaa (aT h1 fun _ s2 h2=>xaa (aT h2 fun _ s3 h3=>xaa (aT h3 fun ok s4 h4=>?_)))
  cases ok with
  |false=>exact xaw ⟨rfl,h4⟩
  |true=>exact xaa (xaa (aT h4 fun x s5 h5=>xaa (aT h5 fun _ s6 h6=>xaw (xaw ⟨rfl,h6⟩))))
end
section
variable{X:Cx}{pins:List (Addr×Obj)}{O:St}{H2:Hp}{s2:Shared}{scope:Scope}{NY:List Str}{k:Nat}{C D:Addr}{fp:List Addr}
theorem TY(I2:aF X pins O H2 s2)(lc:LC X k scope NY)(hf:∀b∈fp,gO X pins H2 b)(hfl:∀b∈fp,b<s2.heap.objs.size)(hC:s2.heap.objs.size<=C):(dH X scope NY s2 H2 C fp).Ok:=by
 have hfree:∀x∈scope.names,x.2=.free->∃c,X.env.cells.lookup x.1=some c:=fun x hx e=>I2.ok.has x.1 (lc.free x hx e)
 have sub:∀x c,(nG X.env scope.names).lookup x=some c->X.env.cells.lookup x=some c:=vW scope.names [] hfree (fun y c e=>by simp at e)
 refine⟨I2.ok.mod,?_,I2.ok.glob,I2.ok.blt,hC,fun x y c e1 e2=>I2.ok.inj x y c (sub x c e1) (sub y c e2),fun x hx=>?_,fun x c z=>xag z (by show ¬(false=true);decide),I2.ok.hd,I2.ok.frames,.inl rfl,fun b hb=>⟨xa7 (xap (hfl b hb) hC),fun x c e=>(hf b hb).2.2.2.2.1 x c (sub x c e)⟩,
  I2.bs,xav I2.ok.bsz I2.sz,fun b o e hb=>?_,fun b hb z=>?_,I2.stack,I2.stkFree⟩
 ·show (relabel scope X.env).kind=.function
  exact lc.kind
 ·have hx:(relabel scope X.env).names.lookup x=some .cell\/(relabel scope X.env).names.lookup x=some .free:=hx
  have key:scope.names.lookup x=some .free:=by
   rcases hx with hx|hx
   ·rcases lU (scope:=scope) hx with z|⟨_,z⟩
    ·exact xag rfl (lc.cells _ (PySem.mem_of_lookup z))
    ·exact z
   ·rcases lU (scope:=scope) hx with z|⟨_,z⟩
    ·exact z
    ·exact z
  exact vX scope.names [] x (.inr (PySem.mem_of_lookup key))
 ·have q:b∈X.ex\/X.s₀.heap.objs.size<=b:=(hf b hb).2.2.2.1
  rcases q with q|q
  ·exact I2.ok.noex b o e q
  ·exact xag (xap (xam e) (xav I2.ok.bsz q)) (xbw _)
 ·rcases xal.mp (I2.stkSub b z) with e|e
  ·exact(hf b hb).2.1 e
  ·exact(hf b hb).2.2.1 e
theorem TZ{h1:Heap}{tk:Nat}{m:Str->Option Value}{oD:Obj}(I2:aF X pins O H2 s2)(lc:LC X k scope NY)(hf:∀b∈fp,gO X pins H2 b)(hfl:∀b∈fp,b<s2.heap.objs.size)(hC:s2.heap.objs.size<=C)(hD:s2.heap.objs.size<=D)(hDC:D≠C)
  (old:∀b o,s2.heap.get? b=some o->h1.get? b=some o) (hn:h1.Ns C m) (ho:h1.get? D=some oD) (hoD:∀v,oD.data≠.cell v) :
  aF (dH X scope NY s2 H2 C fp) [(D,oD)] (List.replicate k none++O) H2 { s2 with heap:=h1,toks:=tk }:=by
 have hfree:∀x∈scope.names,x.2=.free->∃c,X.env.cells.lookup x.1=some c:=fun x hx e=>I2.ok.has x.1 (lc.free x hx e)
 have sub:∀x c,(nG X.env scope.names).lookup x=some c->X.env.cells.lookup x=some c:=vW scope.names [] hfree (fun y c e=>by simp at e)
 have hny:=lc.ny
 unfold vY at hny
 simp only[xax,beq_iff_eq,xbg,xc9,bne_iff_ne,ne_eq] at hny
 obtain⟨hlen,hz⟩:=hny
 refine⟨TY I2 lc hf hfl hC,rfl,I2.bare,Un.kept old,⟨m,hn,fun i x v e1 e2 e3=>?_⟩,fun x c e=>?_,I2.hok.fresh hC,fun x c e=>I2.freeC x c (sub x c e),fun p hp=>?_,I2.hok.kept old,?_⟩
 ·have e1:NY[i]? = some x:=e1
  have hik:k<=i:=by
   refine xc2 fun z=>?_
   rw[xbo (by simpa using z),xcg,xau z] at e2
   cases e2
  rw[xb8 (by simpa using hik),xbb] at e2
  have hi2:i-k<X.N.length:=by
   rw[<- I2.len];exact(xah.mp e2).1
  obtain⟨y,ey⟩:∃y,X.N[i-k]? = some y:=⟨_,xbd hi2⟩
  have em:(x,y)∈(NY.drop k).zip X.N:=by
   refine xcn (i:=i-k) ?_
   rw[List.getElem?_zip_eq_some]
   refine⟨?_,ey⟩
   rw[List.getElem?_drop,show k+(i-k)=i by omega];exact e1
  have e3:cT (relabel scope X.env) x:=e3
  have kf:scope.names.lookup x=some .free:=by
   have kk:∃q,scope.names.lookup x=some q:=by
    rcases e3 with z|z|z<;>rcases lU (scope:=scope) z with z|⟨_,z⟩<;>exact⟨_,z⟩
   have zz:=hz (x,y) em
   have nl:scope.names.lookup x≠some .local:=by
    rcases zz with zz|zz
    ·obtain⟨q,hq⟩:=kk
     have zz:(scope.names.lookup x).isNone=true:=zz
     rw[hq] at zz;cases zz
    ·exact zz.2
   rcases e3 with z|z|z<;>rcases lU (scope:=scope) z with z|⟨_,z⟩
   ·exact xag z nl
   ·exact z
   ·exact xag rfl (lc.cells _ (PySem.mem_of_lookup z))
   ·exact z
   ·exact z
   ·exact z
  have exy:x=y:=by
   rcases hz (x,y) em with zz|zz
   ·have zz:(scope.names.lookup x).isNone=true:=zz
    rw[kf] at zz;cases zz
   ·exact zz.1
  subst exy
  obtain⟨mX,hnX,hlX⟩:=I2.loc
  have hk:=lc.free (x,.free) (PySem.mem_of_lookup kf) rfl
  have hk:X.env.kindOf x=some .cell\/X.env.kindOf x=some .free:=hk
  obtain⟨u,ru,lu⟩:=hlX (i-k) x v ey e2 (.inr hk)
  refine⟨u,ru,?_⟩
  rcases lu with⟨z,_⟩|⟨_,c,hc,hcell⟩
  ·rcases hk with q|q<;>rw[q] at z<;>cases z
  ·obtain⟨c',hc'⟩:=vX (env:=X.env) scope.names [] x (.inr (PySem.mem_of_lookup kf))
   have:c'=c:=by
    have q:=sub x c' hc'
    rw[hc] at q;exact(xba q).symm
   subst this
   refine .inr ⟨?_,c',hc',hcell.keeps old⟩
   show (relabel scope X.env).names.lookup x=some .cell\/(relabel scope X.env).names.lookup x=some .free
   rcases e3 with z|z
   ·rcases lU (scope:=scope) z with z|⟨z,_⟩
    ·rw[kf] at z;cases z
    ·cases z
   ·exact z
 ·obtain⟨v,z⟩:=I2.cell x c (sub x c e)
  exact⟨v,z.keeps old⟩
 ·have e:p=(D,oD):=by simpa [dH] using hp
  subst e
  refine⟨ho,I2.hok.fresh hD,hDC,fun z=>?_,hoD⟩
  have z:D∈cA X.stack:=z
  rcases xal.mp (I2.stkSub D z) with q|q
  ·exact xag (xap I2.lt hD) (by rw[q];exact xbw _)
  ·exact I2.nofs hD q
 ·show (List.replicate k none++O).length=NY.length
  rw[hlen,xak,xbb,I2.len]
theorem T0{H4:Hp}{s4:Shared}{O':St}{ys:List V}{us:List Value}(I2:aF X pins O H2 s2)(hf:∀b∈fp,gO X pins H2 b)(hC:s2.heap.objs.size<=C)(hD:s2.heap.objs.size<=D)
  (I4:aF (dH X scope NY s2 H2 C fp) [(D,LCg.lst us)] O' H4 s4) (rv:aX ys us) (hz:ys.length<=sizeLine):aF X pins O (aS H4 D (.lst ys)) s4:=by
 obtain⟨pD,nD,neD,nfD,dD⟩:=I4.pin (D,LCg.lst us) (by simp)
 have u0:Un (cA X.stack) fp H2 H4 s2.heap s4.heap:=I4.base
 have neb:∀b o,s2.heap.get? b=some o->b≠D:=fun b o e=>xa7 (xap (xam e) hD)
 have hok:cY X.prog X.w (aS H4 D (.lst ys)) s4.heap:=fun b u e=>by
  by_cases hb:b=D
  ·subst hb
   rw[cK] at e;cases e
   exact⟨hz,us,us.length,rv,pD⟩
  ·rw[bM hb] at e
   exact(I4.hok b u e).stay (fun _ _ _ q=>q) (fun c q=>by rw[bM (cS q nD)];exact q) fun c xs q=>by rw[bM (cS q nD)];exact q
 refine I2.call' (ch:=fp) I4.os ⟨u0.keep,u0.slot,fun b o e n hx=>?_,u0.there,fun b xs q=>?_,fun b o u q=>?_,fun b ps q=>?_⟩ hok I4.bare fun b hb=>⟨(hf b hb).2.2.2.1,(hf b hb).2.1,(hf b hb).2.2.2.2.1,(hf b hb).2.2.2.2.2⟩
 ·rw[bM (neb b o e)];exact u0.free b o e n hx
 ·have z:=u0.tups b xs q
  rw[bM (cS z nD)];exact z
 ·have z:=u0.frzs b o u q
  rw[bM (cS z nD)];exact z
 ·obtain⟨more,z⟩:=u0.tbls b ps q
  exact⟨more,by rw[bM (cS z nD)];exact z⟩
end
theorem T1{X:Cx}{tg elt iter:Expr}{ifs:List Expr}{scope:Scope}{pos:Pos}{NY:List Str}{k:Nat}{g:TG}{tc:TT}{te:TE}(hc:X.calm=true)(lc:LC X k scope NY)
  (hb:∀(s₀:Shared) (H₀:Hp) (C:Addr) (ex:List Addr),NY.Nodup->PG (dH X scope NY s₀ H₀ C ex) tg g/\jY (dH X scope NY s₀ H₀ C ex) ifs tc/\PE (dH X scope NY s₀ H₀ C ex) elt te)
  {pins:List (Addr×Obj)} {O:St} {H2:Hp} {s2:Shared} {it:Addr} {fp:List Addr} {tn:Nat->Heap->Prop} {J:It} {RR:Value->Addr->Result->Shared->Prop} {E:Value->Shared->Prop} {Fin:List V->Hp->Prop}
  (I2:aF X pins O H2 s2) (T:kK X.prog X.w X.K tg J fp it tn) (st2:tn 0 s2.heap) (f2:∀b∈fp,gO X pins H2 b) {W:Nat->Nat->List V->Hp->Prop} {m0:Nat} (w0:W 0 m0 [] H2)
  (turn : ∀ i m ys H, W i m ys H -> ys.length < sizeLine /\ ((J.stop i H /\ Fin ys H) \/ (J.go i H /\ ∃ N : List V -> Hp -> Prop, (∀ ys' H', N ys' H' -> ∃ m', m' < m /\ W (i + 1) m' ys' H') /\
   ∀v H',J.yld i H v H'->g v (List.replicate k none++O) H' fun σ2 H2=>vZ (List.replicate k none++O) σ2/\tc σ2 H2 fun b H3=>if b=true then te σ2 H3 fun y H4=>N (ys++[y]) H4 else N ys H3)))
  (fin:∀(C D:Addr) (H4:Hp) (s4:Shared) (ys:List V) (m:Str->Option Value),s2.heap.objs.size<=C->H4 D=none->H4 C=none->D≠C->s4.heap.Ns C m->aF X pins O (aS H4 D (.lst ys)) s4->Fin ys H4->RR (.ref D) C (.ok .next) s4) :
  wpAny (model X.prog X.w) X.A (newList []) (fun acc s3=>wpAny (model X.prog X.w) X.A (newFunctionEnv scope X.env.globals (nG X.env scope.names) [] X.env.qual none .none (some X.env)) (fun cenv s4=>
   codeAny (model X.prog X.w) X.A (.compStart (.ListComp elt [⟨tg,iter,ifs,0⟩] scope pos) 0 (.ref it) acc { cenv with scope:=relabel scope X.env }) (RR acc cenv.locals) s4) E s3) E s2:=by
 refine wpAny_newObj_type (wpAny_newFunctionEnv lc.cells (by intro y hy;simp at hy) (fun h1 hns1 hsb1=>?_) lc.kind)
 dsimp only at hns1 hsb1 ⊢
 generalize hG:s2.heap.push { cls:=.type "list",dict:=none,data:=.seq ([]:List Value).toArray }=G at hns1 hsb1 ⊢
 have hC:G.objs.size=s2.heap.objs.size+1:=by rw[<- hG,xcl]
 have hCle:s2.heap.objs.size<=G.objs.size:=by omega
 have hDC:s2.heap.objs.size≠G.objs.size:=by omega
 have hfl:∀b∈fp,b<s2.heap.objs.size:=fun b hb=>by obtain⟨o,e,_⟩:=T.obj 0 _ st2 b hb;exact xam e
 have old:∀b o,s2.heap.get? b=some o->h1.get? b=some o:=fun b o e=>by
  have lt:=xam e
  refine hsb1.extBut b o (xa7 (xap lt hCle)) (xad _ ?_)
  rw[<- hG];exact xad _ e
 have hacc:h1.get? s2.heap.objs.size=some (LCg.lst []):=by
  refine hsb1.extBut _ _ hDC (xad _ ?_)
  rw[<- hG];exact xaz _ rfl
 have dl:∀(us:List Value) v,(LCg.lst us).data≠.cell v:=fun us v z=>by
  have z':Data.seq us.toArray us.length=Data.cell v:=z
  cases z'
 have I3:=TZ (h1:=h1) (tk:=s2.toks+([]:List (Str×Value)).length) I2 lc f2 hfl hCle (xaf _) hDC old hns1 hacc (dl [])
 have fpY:∀{us:List Value} {H':Hp},(∀b∈fp,H' b=none)->∀b∈fp,gO (dH X scope NY s2 H2 G.objs.size fp) [(s2.heap.objs.size,LCg.lst us)] H' b:=fun {us H'} hn b hb=>by
  have lt:=hfl b hb
  have okY:=I3.ok
  refine⟨hn b hb,(okY.exf b hb).1,okY.exfs b hb,.inl hb,(okY.exf b hb).2,fun p hp=>?_⟩
  have e:p=(s2.heap.objs.size,LCg.lst us):=by simpa [dH] using hp
  subst e
  exact xck lt
 obtain⟨hg,ht,he⟩:=hb s2 H2 G.objs.size fp lc.nd
 have loop:∀s3:Shared,s3={ s2 with heap:=h1,toks:=s2.toks+([]:List (Str×Value)).length }->
   codeAny (model X.prog X.w) X.A (.compLoop (.ListComp elt [⟨tg,iter,ifs,0⟩] scope pos) 0 (.ref it) (.ref s2.heap.objs.size) (compEnvC scope (nG X.env scope.names) G.objs.size X.env)) (RR (.ref s2.heap.objs.size) G.objs.size) s3:=by
  rintro s3 rfl
  refine TX (fun n s'=>∃i H' ys us,aF (dH X scope NY s2 H2 G.objs.size fp) [(s2.heap.objs.size,LCg.lst us)] (List.replicate k none++O) H' s'/\aX ys us/\tn i s'.heap/\(∀b∈fp,H' b=none)/\W i n ys H') ?_ m0
   ⟨0,H2,[],[],I3,.nil,T.keep _ _ _ st2 fun b _ o e=>old b o e,fun b hb=>(f2 b hb).1,w0⟩
  rintro n s3 ⟨i,H3,ys,us,I3,rv,st3,fr3,w3⟩ E'
  obtain⟨hsz,hturn⟩:=turn i n ys H3 w3
  rcases hturn with⟨stop,qn⟩|⟨go,N,hN,step⟩
  ·refine aT (T.done (dH X scope NY s2 H2 G.objs.size fp) rfl rfl rfl hc i _ s3 _ H3 E' I3 (fpY fr3) st3 stop) fun r s4 ⟨hr,I4⟩=>?_
   subst hr
   obtain⟨m4,hn4,_⟩:=I4.loc
   exact fin _ _ H3 s4 ys m4 hCle (I4.pin (s2.heap.objs.size,LCg.lst us) (by simp)).2.1 I4.free hDC hn4 (T0 I2 f2 hCle (xaf _) I4 rv (xcx hsz)) qn
  ·refine aT (T.item (dH X scope NY s2 H2 G.objs.size fp) rfl rfl rfl hc i _ s3 _ H3 E' I3 (fpY fr3) st3 go) fun r s4 ⟨u,hr,h4⟩=>?_
   subst hr
   refine aT h4 fun _ s5 ⟨x,H5,I5,r5,y5,st5,fr5⟩=>?_
   have I5':=I5.pinned (fpY fr5) (T.obj _ _ st5)
   refine wA (hg _ s5 _ H5 x u _ I5' r5 (step x H5 y5)) fun _ s6 ⟨σ6,H6,I6,sub6,q6⟩=>?_
   have keep:∀{σ7:St} {H7:Hp} {s7:Shared},aF (dH X scope NY s2 H2 G.objs.size fp) ([(s2.heap.objs.size,LCg.lst us)]++oY fp s5.heap) σ7 H7 s7->tn (i+1) s7.heap/\(∀b∈fp,H7 b=none):=fun {σ7 H7 s7} I7=>by
    refine⟨T.keep _ _ _ st5 fun b hb o e=>(I7.pin (b,o) (xbe _ (xbe _ (rO hb e)))).1,fun b hb=>?_⟩
    obtain⟨o,e,d⟩:=T.obj _ _ st5 b hb
    exact(I7.pin (b,o) (xbe _ (xbe _ (rO hb e)))).2.1
   refine wA (ht _ s6 σ6 H6 _ I6 q6) fun ok s7 ⟨H7,I7,q7⟩=>?_
   cases ok with
   |false=>
    rw[xao xa1] at q7 ⊢
    obtain⟨m',hm,w7⟩:=hN _ _ q7
    obtain⟨k1,k2⟩:=keep I7
    exact⟨m',hm,i+1,H7,ys,us,(I7.weak (by rw[I7.len,I5.len]) sub6.2).unpinned,rv,k1,k2,w7⟩
   |true=>
    rw[xau rfl] at q7 ⊢
    refine wA (he _ s7 σ6 H7 _ I7 q7) fun y s8 ⟨v,H8,I8,r8,q8⟩=>?_
    obtain⟨m',hm,w8⟩:=hN _ _ q8
    obtain⟨k1,k2⟩:=keep I8
    obtain⟨pD,nD,neD,nfD,dD⟩:=I8.pin (s2.heap.objs.size,LCg.lst us) (by simp)
    have hul:us.toArray.size<=sizeLine:=by rw[xas,<- rv.length];exact xcx hsz
    refine append_at pD (fun h9 sb9 hD9=>?_) hul
    have I8':aF (dH X scope NY s2 H2 G.objs.size fp) [] (List.replicate k none++O) H8 s8:=(I8.weak (by rw[I8.len,I5.len]) sub6.2).pins_of fun p hp=>xag hp (by simp)
    have hDfp:s2.heap.objs.size∉fp:=fun z=>xbw _ (hfl _ z)
    have I9:aF (dH X scope NY s2 H2 G.objs.size fp) [] (List.replicate k none++O) H8 { s8 with heap:=h9 }:=
     I8'.turned (t':=s8.toks) (it:=s2.heap.objs.size) (fun b o hb e=>(sb9.2 b hb).trans e) nD neD (.inr (xaf _)) (fun x c e z=>by
      obtain⟨v',o',e1,e2⟩:=I8.cell x c e
      rw[z,pD] at e1
      have e1':LCg.lst us=o':=xba e1
      rw[<- e1'] at e2
      exact dl us v' e2) (fun p hp=>xag hp (by simp[dH]))
    refine⟨m',hm,i+1,H8,ys++[v],us++[y],I9.pins_of fun p hp=>?_,rv.append (.cons r8 .nil),T.keep _ _ _ k1 fun b hb o e=>(sb9.2 b fun z=>hDfp (z▸hb)).trans e,k2,w8⟩
    have e:p=(s2.heap.objs.size,LCg.lst (us++[y])):=by simpa using hp
    subst e
    exact⟨hD9.trans (congrArg some (LCg.lst_snoc us y)),nD,neD,nfD,dl _⟩
 exact codeAny_compStart_list (loop _ rfl) (T.self _ 0 _ _ _ (T.keep _ _ _ st2 fun b _ o e=>old b o e) (loop _ rfl))
section
variable{X:Cx}{tg elt iter:Expr}{ifs:List Expr}{scope:Scope}{pos:Pos}{NY:List Str}{k:Nat}{wi:TI}{g:TG}{tc:TT}{te:TE}
theorem T2(hc:X.calm=true)(lc:LC X k scope NY)(hi:PI X tg iter wi)
  (hb:∀(s₀:Shared) (H₀:Hp) (C:Addr) (ex:List Addr),NY.Nodup->PG (dH X scope NY s₀ H₀ C ex) tg g/\jY (dH X scope NY s₀ H₀ C ex) ifs tc/\PE (dH X scope NY s₀ H₀ C ex) elt te)
  (hs:∀x,foldedSetIterable iter X.env x=pure x:=by intro _;rfl):PE X (.ListComp elt [⟨tg,iter,ifs,0⟩] scope pos) (tLC k wi g tc te):=by
 intro pins s O H Q I h
 rw[eval_ListComp]
 refine wpAny_comprehension_free (use:=none) rfl hs (TR fun x hx e=>I.ok.has x.1 (lc.free x hx e)) lc.kind lc.names (aT (hi pins s O H _ I h) fun v s1 h1=>aT h1 fun itv s2 h2=>?_)
 obtain⟨it,fp,tn,J,H2,e,I2,T,st2,f2,W,⟨m0,w0⟩,turn⟩:=h2
 subst e
 refine T1 (RR:=fun acc C=>compPost (model X.prog X.w) X.A X.xe none (EP X pins O Q) acc C) hc lc hb I2 T st2 f2 w0 turn fun C D H4 s4 ys m hC nD nC hDC hn I4 q=>?_
 refine⟨m,hn,fun h' sb=>?_⟩
 have hCn:aS H4 D (.lst ys) C=none:=by rw[bM (xa6 hDC)];exact nC
 obtain⟨f0,f1,f2',f3,f4,f5⟩:=I2.fpOk (H':=aS H4 D (.lst ys)) hC hCn
 exact⟨.ref D,_,I4.turned (t':=s4.toks) (fun b o hb e=>(sb.2 b hb).trans e) f0 f1 f3 f4 f5,rfl,q D nD⟩
end
end L2
namespace L2
open PySem.Spec PyProof.Rows
theorem T4{n k:Nat}(hk:0<k)(h:n<2^k):n.log2<k:=by
 rcases Nat.eq_zero_or_pos n with h0|hp
 ·rw[h0];simpa using hk
 ·exact(Nat.log2_lt (xck hp)).mpr h
section
variable{X:Cx}
theorem T5:bR X (compareOp .Is) (fun x y H Q=>∃a b,x=.bl a/\y=.bl b/\Q (.bl (a==b)) H):=by
 intro pins s O H x y v u Q I rx ry h
 obtain⟨a,b,rfl,rfl,q⟩:=h
 cases rx
 cases ry
 exact is_bool (o0 I q rfl)
theorem T6:bR X (compareOp .IsNot) (fun x y H Q=>∃a b,x=.bl a/\y=.bl b/\Q (.bl (a != b)) H):=by
 intro pins s O H x y v u Q I rx ry h
 obtain⟨a,b,rfl,rfl,q⟩:=h
 cases rx
 cases ry
 exact isnot_bool (o0 I q rfl)
def T7(K:xFg)(n:Nat)(t:i6):TG:=fun v O H Q=>∃a xs,v=.ref a/\bD K H a xs/\xs.length=n/\t xs O H Q
theorem T8{es:List Expr}{k:Nat}{t:i6}{n:Nat}{pos:Pos}(hc:X.calm=true)(h:mZ X es t)
  (hn:(assignEach es X.env).length=n:=by rfl) (hst:(assignEach es X.env).findIdx? (·.1)=none:=by rfl):PG X (.Tuple es k pos) (T7 X.K n t):=by
 intro pins s O H v u Q I r hw
 obtain⟨a,xs,e1,hq,hl,hw⟩:=hw
 subst e1
 cases r
 obtain⟨its,rv,pl,hz⟩:=I.list hq
 have hsz:(assignEach es X.env).length=its.toArray.size:=by simp[hn,<- hl,rv.length]
 rw[assign_Tuple]
 refine xaa (wpAny_standAt ?_)
 unfold unpack
 rw[hsz,hst]
 refine xaa (wpAny_holding (PySem.W.kun_itemsOf (I.ok.hd hc) pl.isList fun h' hx=>?_))
 have I1:aF X pins O H { s with heap:=h' }:=I.kept (t':=s.toks) fun b o e=>hx b o (xa7 (xam e)) e
 exact h pins _ O H xs _ Q I1 (by simpa using rv) hw
end
end L2
namespace L2
open PySem.Spec PyProof.Rows
theorem T9{H:Hp}{p:Addr}(h:H p=none)(o:HO):aH H (aS H p o):=fun b u q=>by rw[bM (cS q h)];exact q
theorem aH.tup{K:xFg}{H H':Hp}{a:Addr}{xs:List V}(e:aH H H')(h:bO K H a xs):bO K H' a xs:=by
 rcases h with (h|⟨o,h⟩)|h
 ·exact .inl (.inl (e _ _ h))
 ·exact .inl (.inr ⟨o,e _ _ h⟩)
 ·exact .inr h
theorem UA{n:Nat}(h:n<=1000):n<=sizeLine:=xcx (TQ h)
section
variable{K:xFg}{a:Addr}{xs:List V}{H:Hp}
theorem lgo(h:bD K H a xs):(m8 K a).stop xs.length H/\∀i,i<xs.length->(m8 K a).go i H/\∀v H',(m8 K a).yld i H v H'->H'=H/\xs[i]? = some v:=
 ⟨⟨xs,h,xaf _⟩,fun i hi=>⟨⟨xs,xs[i],h,by simp[hi]⟩,fun v H' y=>⟨y.1,y.2 xs h⟩⟩⟩
theorem tgo(h:bO K H a xs):(m9 K a).stop xs.length H/\∀i,i<xs.length->(m9 K a).go i H/\∀v H',(m9 K a).yld i H v H'->H'=H/\xs[i]? = some v:=
 ⟨⟨xs,h,xaf _⟩,fun i hi=>⟨⟨xs,xs[i],h,by simp[hi]⟩,fun v H' y=>⟨y.1,y.2 xs h⟩⟩⟩
end
end L2
namespace L2
open PySem.Spec PyProof.Rows
structure gZ(B:Heap)(l:List Env)(x:Addr)(cls:Value)(dct:Option Addr)(fl:Value)(h:Heap):Prop where
 stays:B.StaysIn h
 new:B.get? x=none
 frames:h.FunFrames B l
 obj:∃ox vs T oT ts,h.get? x=some ox/\ox.cls=cls/\ox.dict=dct/\ox.data=.fields vs/\vs[1]? = some (.ref T)/\B.get? T=none/\T≠x/\h.get? T=some oT/\oT.data=.fields ts/\ts[3]? = some fl
theorem UB(o:Obj)(f:Array Value->Array Value):(o.mapFields f).dict=o.dict:=by
 obtain⟨c,d,dt,sl⟩:=o;cases dt<;>rfl
section
variable{M:Model}{A:Around}{E:Value->Shared->Prop}{s:Shared}{B:Heap}{env:Env}{outer:List Env}{L x:Addr}{Q:Unit->Shared->Prop}
theorem lV{h:Heap}{y:Addr}{oy:Obj}{ws:Array Value}(ey:h.get? y=some oy)(dy:oy.data=.fields ws){b:Addr}{o:Obj}(eb:h.get? b=some o)(nf:∀us,o.data≠.fields us):b≠y:=fun z=>by
 rw[z,ey] at eb
 have z':oy=o:=xba eb
 rw[<- z'] at nf
 exact nf ws dy
theorem CC{ox:Obj}{vs:Array Value}{head:Value}{hadNext:Bool}(hfr:A.frames=some (env::outer))(hl:s.heap.FunFrames B (env::outer))(hf:env.frame=some L)
  (ex:s.heap.get? x=some ox) (hB:B.StaysIn s.heap) (nx:B.get? x=none) (dx:ox.data=.fields vs) (sz:1<vs.size)
  (k:∀h',gZ B (env::outer) x ox.cls ox.dict (rawInt L) h'->s.heap.UpToSlots h'->Q () { s with heap:=h' }) :
  wpAny M A (do let a<-frameOf env;let pl<-entryPlaceOf L hadNext;let b<-EntryCells.newEntry head a .none (rawInt L) .none pl;setField (.ref x) 1 b) Q E s:=by
 have nfr:x∉(env::outer).filterMap (·.frame):=fun hm=>by
  obtain⟨_,o,ho,nf⟩:=hl.mem hm
  exact lV ex dx ho nf rfl
 refine xaa (wpAny_frameOf_fun hfr hl hf fun g1 so=>xaa (wpAny_entryPlaceOf fun pl hpl=>?_))
 unfold EntryCells.newEntry newFields
 refine xaa (wpAny_newObj_type ?_ (hpl.sizeOk5 _ _ _ _ _))
 have ex1:g1.get? x=some ox:=(so.2.1 x nfr).trans ex
 have B1:B.StaysIn g1:=fun b o eb=>(so.2.1 b fun hm=>by rw[(hl.mem hm).1] at eb;cases eb).trans (hB b o eb)
 generalize eo:({ cls:=.type "traceback",dict:=none,data:=.fields ([head,.ref L,.none,rawInt L,.none]++(if pl.isEmpty then List.replicate 6 Value.none else pl)).toArray }:Obj)=ob
 have ex2:=xad (h:=g1) ob ex1
 refine wpAny_setField ex2 dx sz (k _ ?_ ?_)
 ·have Tx:g1.objs.size≠x:=xck (xam ex1)
  have d3:=Obj.data_mapFields dx (·.setIfInBounds 1 (Value.ref g1.objs.size))
  have e3:=xc6 (Obj.mapFields (·.setIfInBounds 1 (Value.ref g1.objs.size))) ex2 (Obj.isFreed_of_fields d3)
  have freeOb:ob.isFreed=false:=by rw[<- eo];rfl
  have T3:=(xbr (g1.push ob) (Obj.mapFields (·.setIfInBounds 1 (Value.ref g1.objs.size))) (xa6 Tx)).trans (xaz g1 freeOb)
  refine⟨fun b o eb=>?_,nx,hl.of_keeps fun b o eb nf=>?_,_,_,g1.objs.size,ob,_,e3,Obj.cls_mapFields _ _,UB _ _,d3,by simp[sz],B1.fresh,Tx,T3,by rw[<- eo],?_⟩
  ·rw[xbr _ _ (fun z=>by rw[<- z,nx] at eb;cases eb)]
   exact xad _ (B1 b o eb)
  ·obtain⟨sl,q⟩:=so.2.2 b o eb
   refine⟨{ o with slots:=sl },?_,rfl⟩
   rw[xbr _ _ (xa6 (lV ex dx eb nf))]
   exact xad _ q
  ·rcases hpl with rfl|⟨_,_,_,_,_,_,_,rfl⟩<;>simp
 ·intro b o eb nf
  obtain⟨sl,q⟩:=so.2.2 b o eb
  refine⟨sl,?_⟩
  rw[xbr _ _ (xa6 (lV ex dx eb nf))]
  exact xad _ q
theorem UC{ox:Obj}{vs:Array Value}(hfr:A.frames=some (env::outer))(hl:s.heap.FunFrames B (env::outer))(hf:env.frame=some L)
  (ex:s.heap.get? x=some ox) (hB:B.StaysIn s.heap) (nx:B.get? x=none) (dx:ox.data=.fields vs) (v1:vs[1]? = some .none)
  (k:∀h',gZ B (env::outer) x ox.cls ox.dict (rawInt L) h'->s.heap.UpToSlots h'->Q () { s with heap:=h' }):wpAny M A (noteFrame (.ref x) env) Q E s:=by
 unfold noteFrame
 simp only[hf]
 refine xaa (wpAny_field ex dx v1 ?_)
 rw[xao (show ¬((Value.none != Value.none)=true) by decide)]
 exact CC hfr hl hf ex hB nx dx (xbx.mp v1).1 k
theorem CD{cls:Value}{dct:Option Addr}(hfr:A.frames=some (env::outer))(hf:env.frame=some L)(F:gZ B (env::outer) x cls dct .none s.heap)
  (k:∀h',gZ B (env::outer) x cls dct (rawInt L) h'->s.heap.UpToSlots h'->Q () { s with heap:=h' }):wpAny M A (noteFrame (.ref x) env) Q E s:=by
 obtain⟨ox,vs,T,oT,ts,ex,hc,hd,dx,v1,nT,Tx,eT,dT,t3⟩:=F.obj
 subst hc hd
 unfold noteFrame
 simp only[hf]
 refine xaa (wpAny_field ex dx v1 ?_)
 rw[xau (show (Value.ref T != Value.none)=true by simp)]
 refine xaa (wpAny_field eT dT t3 ?_)
 rw[xao (show ¬((Value.none==rawInt L)=true) by simp[rawInt])]
 refine xaa (wpAny_setField eT dT (xbx.mp t3).1 ?_)
 have oth:∀b,b≠T->(s.heap.update T (Obj.mapFields (·.setIfInBounds 3 Value.none))).get? b=s.heap.get? b:=fun b hb=>xbr _ _ (xa6 hb)
 have up:s.heap.UpToSlots (s.heap.update T (Obj.mapFields (·.setIfInBounds 3 Value.none))):=fun b o eb nf=>⟨o.slots,(oth b (lV eT dT eb nf)).trans eb⟩
 refine CC hfr (F.frames.of_keeps fun b o eb nf=>⟨o,(oth b (lV eT dT eb nf)).trans eb,rfl⟩) hf ((oth x (xa6 Tx)).trans ex) (fun b o eb=>(oth b fun z=>by rw[z,nT] at eb;cases eb).trans (F.stays b o eb)) F.new dx
  (xbx.mp v1).1 fun h' f u=>k h' f (up.trans u)
theorem rZ{l:List Env}{cls fl:Value}{dct:Option Addr}(F:gZ B l x cls dct fl s.heap)
  (k:∀h',gZ B l x cls dct .none h'->s.heap.UpToSlots h'->Q () { s with heap:=h' }):wpAny M A (setFlight (.ref x) none) Q E s:=by
 obtain⟨ox,vs,T,oT,ts,ex,hc,hd,dx,v1,nT,Tx,eT,dT,t3⟩:=F.obj
 have sz:3<ts.size:=(xbx.mp t3).1
 unfold setFlight
 refine xaa (wpAny_field ex dx v1 ?_)
 rw[xau (show (Value.ref T != Value.none)=true by simp)]
 have oth:∀b,b≠T->(s.heap.update T (Obj.mapFields (·.setIfInBounds 3 ((none:Option Addr).elim Value.none fun f=>rawInt f)))).get? b=s.heap.get? b:=fun b hb=>xbr _ _ (xa6 hb)
 refine wpAny_setField eT dT sz (k _ ⟨fun b o eb=>(oth b fun z=>by rw[z,nT] at eb;cases eb).trans (F.stays b o eb),F.new,F.frames.of_keeps fun b o eb nf=>⟨o,(oth b (lV eT dT eb nf)).trans eb,rfl⟩,
  ox,vs,T,_,_,(oth x (xa6 Tx)).trans ex,hc,hd,dx,v1,nT,Tx,xc6 _ eT (Obj.isFreed_of_fields (Obj.data_mapFields dT _)),Obj.data_mapFields dT _,by simp[sz]⟩
  fun b o eb nf=>⟨o.slots,(oth b (lV eT dT eb nf)).trans eb⟩)
theorem gZ.out{cls:Value}{dct:Option Addr}{fl:Value}{h:Heap}(F:gZ B (env::outer) x cls dct fl h):gZ B outer x cls dct fl h:=⟨F.stays,F.new,F.frames.2.2,F.obj⟩
end
end L2
namespace L2
open PySem.Spec PyProof.Rows
theorem fQ.there{P:Program}{w:World}{H:Hp}{h:Heap}{a:Addr}{o:HO}(x:fQ P w H h a o):∃ob,h.get? a=some ob:=by
 cases o with
 |lst xs=>obtain⟨_,_,_,_,e⟩:=x;exact⟨_,e⟩
 |tup xs=>obtain⟨_,_,_,ob,e,_⟩:=x;exact⟨ob,e⟩
 |dK kvs=>obtain⟨_,_,_,_,o,_,_,e,_⟩:=x;exact⟨o,e⟩
 |dT kvs=>obtain⟨_,_,_,_,o,_,_,e,_⟩:=x;exact⟨o,e⟩
 |set S n=>obtain⟨o,_,_,_,e,_⟩:=x;exact⟨o,e⟩
 |ins C dx fs=>obtain⟨_,_,_,e,_⟩:=x;exact⟨_,e⟩
 |own y=>exact x
 |xd fs=>obtain⟨_,⟨o,_,_,e,_⟩,_⟩:=x;exact⟨o,e⟩
 |rng lo hi=>obtain⟨_,_,_,e⟩:=x;exact⟨_,e⟩
 |frz ob u=>obtain⟨e,_⟩:=x;exact⟨_,e⟩
 |tbl ps=>exact⟨_,(show h.get? a=some _ from x)⟩
 |met f y=>exact⟨_,(show h.get? a=some _ from x)⟩
 |ext φ=>exact x.2.1
structure InB(B:Heap)(fs:List Addr)(h0:Heap)(H':Hp)(h':Heap):Prop where
 old:∀b o,h0.get? b=some o->b∉fs->∀o',h'.get? b=some o'->B.get? b=some o'
 trk:∀b u,H' b=some u->∀o',h'.get? b=some o'->B.get? b=some o'
def cC(P:Program)(w:World):eN:=fun outer H s E e s'=>∃(x C:Addr) (dct:Option Addr) (H':Hp) (B:Heap),e=.ref x/\s'.os=s.os/\AllBare s'.gens/\Un (cA outer) [] H H' s.heap s'.heap/\cY P w H' s'.heap/\
 gZ B outer x (.ref C) dct .none s'.heap/\InB B (cA outer) s.heap H' s'.heap/\H' x=none/\E (.ref C) dct H'
section
variable{X:Cx}{pins:List (Addr×Obj)}{O:St}{H H':Hp}{s s':Shared}{x C:Addr}{B:Heap}{E:XK}{dct:Option Addr}{M:Model}{EE:Value->Shared->Prop}
theorem CG{env:Env}{outer:List Env}{L:Addr}(hf:env.frame=some L):cA (env::outer)=L::cA outer:=by
 unfold cA;rw[xcq,hf]
theorem UD{h':Heap}{args:List Value}{tk:Nat}(I:aF X pins O H s)(hst:X.stack=X.env::X.outer)(hf:X.env.frame=some X.env.locals)(hex:X.ex=[])(m:Heap.MadeExcOf s.heap h' x (.ref C) args)(hE:E (.ref C) none H) :
  wpAny M X.A (leaving X.env (.ref x)) (fun _ s2=>cC X.prog X.w X.outer X.H₀ X.s₀ E (.ref x) s2) EE { s with heap:=h',toks:=tk }:=by
 have stk:=I.stack
 have hfr:X.A.frames=some (X.env::X.outer):=by rw[<- hst];exact I.ok.frames
 rw[hst] at stk
 have fc:cA (X.env::X.outer)=X.env.locals::X.fs:=CG hf
 have hin:∀env∈(X.env::X.outer),∀b,env.frame=some b->b∈cA (X.env::X.outer):=fun env he b hb=>List.mem_filterMap.mpr ⟨env,he,hb⟩
 generalize eB:PySem.W.hideAll s.heap (cA (X.env::X.outer))=B
 have inB:∀b o,s.heap.get? b=some o->b∉cA (X.env::X.outer)->B.get? b=some o:=fun b o e n=>by rw[<- eB];exact PySem.W.hideAll_get _ e n
 have ofB:∀b o,B.get? b=some o->s.heap.get? b=some o:=fun b o e=>by rw[<- eB] at e;exact PySem.W.of_hideAll _ e
 have fl0:s.heap.FunFrames B (X.env::X.outer):=by rw[<- eB];exact PySem.W.funFrames_hide stk hin
 have nx:B.get? x=none:=by
  cases q:B.get? x with
  |none=>rfl
  |some o=>have:=ofB x o q;rw[m.new] at this;cases this
 obtain⟨t,et,_,_⟩:=m.there
 have tfree:∀b u,H b=some u->b∉cA (X.env::X.outer):=fun b u e hb=>by
  have:=I.stkFree b (by rw[hst];exact hb)
  rw[e] at this;cases this
 have hHx:H x=none:=by
  cases q:H x with
  |none=>rfl
  |some u=>
   obtain⟨ob,e⟩:=(I.hok x u q).there
   rw[m.new] at e;cases e
 unfold leaving
 refine xaa (UC (s:={ s with heap:=h',toks:=tk }) hfr (fl0.of_keeps fun b o e _=>⟨o,m.keeps b o e,rfl⟩) hf et (fun b o e=>m.keeps b o (ofB b o e)) nx rfl rfl fun h1 F1 u1=>rZ F1 fun h2 F2 u2=>?_)
 have up:s.heap.UpToSlots h2:=(Heap.UpToSlots.of_keeps m.keeps).trans (u1.trans u2)
 have keep2:∀b o,s.heap.get? b=some o->b∉cA (X.env::X.outer)->h2.get? b=some o:=fun b o e n=>F2.stays b o (inB b o e n)
 have below:∀b o,X.s₀.heap.get? b=some o->b∉X.fs->b∉cA (X.env::X.outer):=fun b o e nb hb=>by
  rw[fc] at hb
  rcases xal.mp hb with z|z
  ·exact xag (xap (xam e) I.ok.above) (by rw[z];exact xbw _)
  ·exact nb z
 have noex:∀b,b∉X.ex:=fun b z=>by rw[hex] at z;cases z
 have slot2:∀b o,s.heap.get? b=some o->b∈X.fs->∃sl,h2.get? b=some { o with slots:=sl }:=fun b o e hb=>by
  obtain⟨_,o1,e1,nf⟩:=stk.mem (b:=b) (by show b∈cA (X.env::X.outer);rw[fc];exact xar _ hb)
  rw[e] at e1;cases e1
  exact up b o e nf
 refine⟨x,C,none,H,B,rfl,I.os,I.bare,⟨fun b o e n hb _=>keep2 b o (I.base.keep b o e n hb (noex b)) (below b o e hb),fun b o e n hb _=>?_,fun b o e n _=>I.base.free b o e n (noex b),fun b o e _=>?_,I.base.tups,I.base.frzs,I.base.tbls⟩,
  fun b u e=>(I.hok b u e).stay (fun c v hc q=>keep2 c v q ?_) (fun _ q=>q) fun _ _ q=>q,F2.out,⟨fun b o e nb o' e'=>?_,fun b u e o' e'=>?_⟩,hHx,hE⟩
 ·obtain⟨sl,e1⟩:=I.base.slot b o e n hb (noex b)
  obtain⟨sl2,e2⟩:=slot2 b _ e1 hb
  exact⟨sl2,e2⟩
 ·obtain⟨o1,e1⟩:=I.base.there b o e (noex b)
  by_cases hb:b∈X.fs
  ·obtain⟨sl2,e2⟩:=slot2 b _ e1 hb
   exact⟨_,e2⟩
  ·exact⟨o1,keep2 b o1 e1 (below b o e hb)⟩
 ·rcases hc with z|z
  ·rw[z];exact tfree b u e
  ·exact tfree c _ z
 ·obtain⟨o1,e1⟩:=I.base.there b o e (noex b)
  have q:=inB b o1 e1 (below b o e nb)
  rw[F2.stays b o1 q] at e'
  cases e';exact q
 ·obtain⟨o1,e1⟩:=(I.hok b u e).there
  have q:=inB b o1 e1 (tfree b u e)
  rw[F2.stays b o1 q] at e'
  cases e';exact q
theorem UE{e:Value}(I:aF X pins O H s)(hst:X.stack=X.env::X.outer)(hf:X.env.frame=some X.env.locals)(hex:X.ex=[])(h:cC X.prog X.w X.stack H s E e s') :
  wpAny M X.A (leaving X.env e) (fun _ s2=>cC X.prog X.w X.outer X.H₀ X.s₀ E e s2) EE s':=by
 obtain⟨x,C,dct,H',B,rfl,ho,hg,un,hok,F,ib,nx,hE⟩:=h
 have stk:=I.stack
 have hfr:X.A.frames=some (X.env::X.outer):=by rw[<- hst];exact I.ok.frames
 rw[hst] at stk F ib un
 have fc:cA (X.env::X.outer)=X.env.locals::X.fs:=CG hf
 unfold leaving
 refine xaa (CD hfr hf F fun h1 F1 u1=>rZ F1 fun h2 F2 u2=>?_)
 have up:s'.heap.UpToSlots h2:=u1.trans u2
 have below:∀b o,X.s₀.heap.get? b=some o->b∉X.fs->b∉cA (X.env::X.outer):=fun b o e nb hb=>by
  rw[fc] at hb
  rcases xal.mp hb with z|z
  ·exact xag (xap (xam e) I.ok.above) (by rw[z];exact xbw _)
  ·exact nb z
 have inFs:∀b,b∈X.fs->b∈cA (X.env::X.outer):=fun b hb=>by rw[fc];exact xar _ hb
 have noex:∀b,b∉X.ex:=fun b z=>by rw[hex] at z;cases z
 have no0:∀b:Addr,b∉([]:List Addr):=fun b=>by simp
 have slot2:∀b o,s.heap.get? b=some o->H b=none->b∈X.fs->∃sl,h2.get? b=some { o with slots:=sl }:=fun b o e n hb=>by
  obtain⟨_,o1,e1,nf⟩:=stk.mem (b:=b) (inFs b hb)
  rw[e] at e1;cases e1
  obtain⟨sl,e2⟩:=un.slot b o e n (inFs b hb) (no0 b)
  obtain⟨sl2,e3⟩:=up b _ e2 nf
  exact⟨sl2,e3⟩
 have free1:∀b o,X.s₀.heap.get? b=some o->X.H₀ b=none->H b=none:=fun b o e n=>I.base.free b o e n (noex b)
 refine⟨x,C,dct,H',B,rfl,ho.trans I.os,hg,⟨fun b o e n hb _=>?_,fun b o e n hb _=>?_,fun b o e n _=>?_,fun b o e _=>?_,fun b xs q=>un.tups b xs (I.base.tups b xs q),fun b o u q=>un.frzs b o u (I.base.frzs b o u q),fun b ps q=>?_⟩,
  fun b u e=>(hok b u e).stay (fun c v hc q=>F2.stays c v ?_) (fun _ q=>q) fun _ _ q=>q,F2.out,⟨fun b o e nb o' e'=>?_,fun b u e o' e'=>?_⟩,nx,hE⟩
 ·have e1:=I.base.keep b o e n hb (noex b)
  have e2:=un.keep b o e1 (free1 b o e n) (below b o e hb) (no0 b)
  exact F2.stays b o (ib.old b o e1 (below b o e hb) o e2)
 ·obtain⟨sl,e1⟩:=I.base.slot b o e n hb (noex b)
  obtain⟨sl2,e2⟩:=slot2 b _ e1 (free1 b o e n) hb
  exact⟨sl2,e2⟩
 ·obtain⟨o1,e1⟩:=I.base.there b o e (noex b)
  exact un.free b o1 e1 (free1 b o e n) (no0 b)
 ·obtain⟨o1,e1⟩:=I.base.there b o e (noex b)
  obtain⟨o2,e2⟩:=un.there b o1 e1 (no0 b)
  by_cases hb:b∈X.fs
  ·have n:H b=none:=I.stkFree b (by rw[hst];exact inFs b hb)
   obtain⟨sl2,e3⟩:=slot2 b _ e1 n hb
   exact⟨_,e3⟩
  ·exact⟨o2,F2.stays b o2 (ib.old b o1 e1 (below b o e hb) o2 e2)⟩
 ·obtain⟨m1,e1⟩:=I.base.tbls b ps q
  obtain⟨m2,e2⟩:=un.tbls b _ e1
  exact⟨m1++m2,by rw[e2,Array.append_assoc]⟩
 ·rcases hc with z|z
  ·subst z;exact ib.trk c u e v q
  ·exact ib.trk c _ z v q
 ·obtain⟨o1,e1⟩:=I.base.there b o e (noex b)
  obtain⟨o2,e2⟩:=un.there b o1 e1 (no0 b)
  have q:=ib.old b o1 e1 (below b o e nb) o2 e2
  rw[F2.stays b o2 q] at e'
  cases e';exact q
 ·obtain⟨o1,e1⟩:=(hok b u e).there
  have q:=ib.trk b u e o1 e1
  rw[F2.stays b o1 q] at e'
  cases e';exact q
def jB(x C:Addr)(dct:Option Addr):HO:=.ext fun h=>∃o,h.get? x=some o/\o.cls=.ref C/\o.dict=dct/\PySem.W.notCls o=true
theorem CH{h3:Heap}{tk:Nat}(I:aF X pins O H s)(ho:s'.os=s.os)(hg:AllBare s'.gens)(un:Un (cA X.stack) [] H H' s.heap s'.heap)(hok:cY X.prog X.w H' s'.heap)(F:gZ B X.stack x (.ref C) dct .none h3)
  (ib:InB B (cA X.stack) s.heap H' s'.heap) (up:s'.heap.UpToSlots h3) (nx:H' x=none):aF X pins O (aS H' x (jB x C dct)) { s' with heap:=h3,toks:=tk }:=by
 have stk:=I.stack
 have no0:∀b:Addr,b∉([]:List Addr):=fun b=>by simp
 have nex:∀b o,s.heap.get? b=some o->b∉cA X.stack->b≠x:=fun b o e nb z=>by
  obtain⟨o2,e2⟩:=un.there b o e (no0 b)
  have q:=ib.old b o e nb o2 e2
  rw[z,F.new] at q;cases q
 have nfx:∀b,b∈cA X.stack->b≠x:=fun b hb z=>by
  obtain⟨_,o1,e1,nf⟩:=F.frames.mem (b:=b) hb
  obtain⟨ox,vs,T,oT,ts,ex,_,_,dx,_⟩:=F.obj
  rw[z,ex] at e1;cases e1
  exact nf vs dx
 have ne:∀b o,s.heap.get? b=some o->b≠x:=fun b o e=>by
  by_cases hb:b∈cA X.stack
  ·exact nfx b hb
  ·exact nex b o e hb
 have hok3:cY X.prog X.w (aS H' x (jB x C dct)) h3:=fun b u e=>by
  by_cases hb:b=x
  ·subst hb
   rw[cK] at e;cases e
   obtain⟨ox,vs,T,oT,ts,ex,hc,hd,dx,_⟩:=F.obj
   have nc:PySem.W.notCls ox=true:=by unfold PySem.W.notCls;rw[dx]
   exact⟨⟨ox,ex,hc,hd,nc⟩,⟨ox,ex⟩,fun h1 h2 ⟨o,q,r⟩ k=>⟨o,k o q,r⟩⟩
  ·rw[bM hb] at e
   refine(hok b u e).stay (fun c v hc q=>F.stays c v ?_) (fun c q=>by rw[bM (cS q nx)];exact q) fun c xs q=>by rw[bM (cS q nx)];exact q
   rcases hc with z|z
   ·subst z;exact ib.trk c u e v q
   ·exact ib.trk c _ z v q
 have U:Un (cA X.stack) [] H (aS H' x (jB x C dct)) s.heap h3:=by
  refine⟨fun b o e n hb _=>?_,fun b o e n hb _=>?_,fun b o e n _=>?_,fun b o e _=>?_,fun b xs q=>?_,fun b o u q=>?_,fun b ps q=>?_⟩
  ·exact F.stays b o (ib.old b o e hb o (un.keep b o e n hb (no0 b)))
  ·obtain⟨sl,e1⟩:=un.slot b o e n hb (no0 b)
   obtain⟨_,o1,e2,nf⟩:=stk.mem (b:=b) hb
   rw[e] at e2;cases e2
   obtain⟨sl2,e3⟩:=up b _ e1 nf
   exact⟨sl2,e3⟩
  ·rw[bM (ne b o e)];exact un.free b o e n (no0 b)
  ·obtain⟨o2,e2⟩:=un.there b o e (no0 b)
   by_cases hb:b∈cA X.stack
   ·have n:H b=none:=I.stkFree b hb
    obtain⟨sl,e1⟩:=un.slot b o e n hb (no0 b)
    obtain⟨_,o1,e3,nf⟩:=stk.mem (b:=b) hb
    rw[e] at e3;cases e3
    obtain⟨sl2,e4⟩:=up b _ e1 nf
    exact⟨_,e4⟩
   ·exact⟨o2,F.stays b o2 (ib.old b o e hb o2 e2)⟩
  ·have z:=un.tups b xs q
   rw[bM (cS z nx)];exact z
  ·have z:=un.frzs b o u q
   rw[bM (cS z nx)];exact z
  ·obtain⟨more,z⟩:=un.tbls b ps q
   exact⟨more,by rw[bM (cS z nx)];exact z⟩
 have J:=I.call (g':=s'.gens) (t':=tk) (d':=s'.drawn) (ch:=[]) U hok3 hg (fun b z=>xag z (no0 b))
 obtain⟨hh,g,d,t,os⟩:=s'
 have e:os=s.os:=ho
 subst e
 exact J
end
end L2
namespace L2
open PySem.Spec PyProof.Rows PySem.W
section
variable{prog:Program}{w:World}{A:Around}{E:Value->Shared->Prop}{s:Shared}{K:Frag}{x D:Addr}{ox:Obj}{od:Option Obj}{name:Str}{tk:Tok}
theorem UF{M:Model}{nameV:Value}{Q:Unit->Shared->Prop}(X:K.In s.heap)(I:InstAt s.heap x ox D od)(hb:mroIn K D (.type "BaseException")=some true)(hq:Q () s) :
  wpAny M A (checkBuiltinCall "BaseException.__getattribute__" ⟨[.ref x,nameV],[]⟩) Q E s:=by
 have hk:builtinKind "BaseException.__getattribute__"=some .slot:=by decide +kernel
 have hsp:splitId "BaseException.__getattribute__"=some ("BaseException","__getattribute__"):=by decide +kernel
 have ha:=F.args_bexc_ga (.ref x) nameV
 obtain⟨hh,g,d,t,os⟩:=s
 have L0:Looks M hh (isInstance (.ref x) (.type "BaseException")) true:=(I.type (M:=M)).andThen (looks_mroIn X hb)
 simp only[checkBuiltinCall,hk,hsp]
 refine xaa (L0.at ?_)
 repeat (any_goals (first|assumption|wp_step))
theorem UG{R:Result->Shared->Prop}{g a:Value}(X:K.In s.heap)(I:InstAt s.heap x ox D od)(hb:mroIn K D (.type "BaseException")=some true)(hf:findObj K D od name=some (.bind g a))
  (h:wpAny (model prog w) A.in1 (call g [a,.ref x,.ref D]) (fun v s'=>R (.ok (.ret v)) s') (fun e s'=>R (.error e) s') s) :
  codeAny (model prog w) A (.call (.builtin "BaseException.__getattribute__") ⟨[.ref x,.str name tk],[]⟩) R s:=by
 refine codeAny_call_builtin F.attr_ValueError.ga.plain F.entry_bexc_ga (UF X I hb ?_)
 obtain⟨hh,gg,d,t,os⟩:=s
 have L0:=I.type (M:=model prog w)
 have L1:=looks_find (M:=model prog w) X I hf
 unfold Builtin.«object.__getattribute__»
 refine xaa (wpAny_of_eq (a:=(Value.ref x,[Value.str name tk])) rfl ?_)
 refine xaa (wpAny_of_eq (a:=name) rfl ?_)
 refine xaa (L0.at (xaa (L1.at ?_)))
 show wpAny _ _ (do ret (<- holding [a] (call g [a,Value.ref x,Value.ref D]))) _ _ _
 exact xaa (wpAny_holding (wpAny_mono h (fun v s' q=>xaw q) fun e s' q=>q))
theorem UH{a g:Value}(hc:(clsIn K D).isSome=true)(ha:findIn K (.ref D) name=some (some a))(hg:specialIn K a "__get__"=some (some g))(ht:takesIn K a=some true):findObj K D od name=some (.bind g a):=by
 obtain⟨cd,hc⟩:=xca.mp hc
 unfold findObj
 rw[hc,xc3,ha,xc3]
 simp[hg,ht]
structure lW(K:Frag)(D:Addr):Prop where
 cls:(clsIn K D).isSome=true
 ga:findIn K (.ref D) "__getattribute__"=some (some (.builtin "BaseException.__getattribute__"))
 gh:findIn K (.ref D) "__getattr__"=some none
 base:mroIn K D (.type "BaseException")=some true
 obj:mroIn K D (.type "object")=some true
 ca:findIn K (.ref D) "__class__"=some (some (.builtin "object.__class__"))
 cg:specialIn K (.builtin "object.__class__") "__get__"=some (some (.builtin "getset_descriptor.__get__"))
 ct:takesIn K (.builtin "object.__class__")=some true
theorem UI{Q:Option Value->Shared->Prop}(c:lW K D)(X:K.In s.heap)(I:InstAt s.heap x ox D od)(h:Q (some (.ref D)) { s with toks:=s.toks+1 }) :
  wpAny (model prog w) A (getAttr? (.ref x) "__class__") Q E s:=by
 obtain⟨hh,gg,d,t,os⟩:=s
 have L0:=I.type (M:=model prog w)
 have L1:=looks_findIn (M:=model prog w) X c.ga
 have L2:=looks_findIn (M:=model prog w) X c.gh
 have hf:findObj K D od "__class__"=some (.bind (.builtin "getset_descriptor.__get__") (.builtin "object.__class__")):=UH c.cls c.ca c.cg c.ct
 have hx1:(onTheHeap (Value.ref D)&&Value.builtin "BaseException.__getattribute__"==Value.builtin "object.__getattribute__")=false:=by
  rw[show (Value.builtin "BaseException.__getattribute__"==Value.builtin "object.__getattribute__")=false by decide +kernel];rfl
 unfold getAttr? getAttrBy? getAttrBy
 refine xaa (wpAny_mkText (xaa (wpAny_attempt (wpAny_holding (xaa (L0.at (xaa (L1.at ?_))))))))
 dsimp only
 rw[hx1,xao xa1]
 unfold getAttrByItsOwn
 refine xaa ?_
 show wpAny _ _ (typeLookup (.ref D) "__getattr__") _ _ _
 refine L2.at ?_
 refine xaa (wpAny_attempt (wpAny_holding ?_))
 show wpAny _ _ (boundAndCalled (.builtin "BaseException.__getattribute__") (.ref x) (.str "__class__" t)) _ _ _
 unfold boundAndCalled
 refine xaa (wpAny_of_eq (F.attr_ValueError.ga.bind (.ref x)) ?_)
 refine wpAny_call (UG X I c.base hf ?_)
 refine wpAny_call (class_get X I c.obj ?_)
 exact handed_on rfl (xaw h)
theorem UJ(c:lW K D):KitX K (.ref x) (.ref D) (fun h=>∃ox od,InstAt h x ox D od) where
 ty:=fun _ _ _ ⟨_,_,I⟩=>I.type
 it:=fun _ _ X _=>by
  obtain⟨cdD,hcD⟩:=xca.mp c.cls
  unfold clsIn at hcD
  split at hcD
  ·rename_i c' d' cd' sl' ho
   intro A' Q' E' s' k q
   unfold isType loadHead
   exact xaa (wpAny_loadPart (k _ _ (X _ _ ho)) (xaw q))
  ·cases hcD
 ne:=fun h tp dd its n sl X htp=>by
  obtain⟨cdD,hcD⟩:=xca.mp c.cls
  refine Bool.eq_false_iff.mpr fun q=>?_
  have e:D=tp:=Value.ref.inj (beq_iff_eq.mp q)
  subst e
  unfold clsIn at hcD
  split at hcD
  ·rename_i c' d' cd' sl' ho
   have z:=(X _ _ ho).symm.trans htp
   cases z
  ·cases hcD
 ca:=fun X ⟨_,_,I⟩ k=>UI c X I k
end
end L2
namespace L2
open PySem.Spec PyProof.Rows
section
variable{P:Program}{w:World}{K:xFg}{mg:Str->Option Value}{base:Heap}
theorem jA.okX{CX:eN}{x qual:Str}{st:Stmt}{f:Addr}{fd:FuncData}{N ps:List Str}{k:Nat}{sp:Sp}(F:jA K x qual st f fd)(S:i7 N ps (cP st))(len:∀vs H Q E,sp vs H Q E->vs.length=ps.length)
  (hbody : ∀ (cdv : Value) (A : Around) (outer : List Env) (s : Shared) (H : Hp) (vs : List V) (Q : VK) (E : XK), c6 k (A.deeper (envOfC qual (cP st) s.heap.objs.size f cdv)) -> sp vs H Q E ->
   ∃t,dY (dG CX P w K mg base N qual (cP st) f cdv A outer s H E) (gE st) t/\t { nx:=fun _ H'=>Q .non H',rt:=Q } (start N vs) H):dN P w K mg base CX (k+1) f fd ps sp:=by
 obtain⟨oc,od,kV,doc,pm,an,cdv,ct,osl,rfl,lk,hcd⟩:=F.ex
 exact SC lk hcd S len fun A outer s H vs Q E hr hsp=>hbody cdv A outer s H vs Q E hr hsp
theorem wB{N:List Str}{qual:Str}{scope:Scope}{f:Addr}{cdv:Value}{A:Around}{outer:List Env}{s:Shared}{H:Hp}{E:XK}:nB (cC P w) (dG (cC P w) P w K mg base N qual scope f cdv A outer s H E) E:=
 fun pins O H1 s1 e s' I h=>UE (X:=dG (cC P w) P w K mg base N qual scope f cdv A outer s H E) I rfl rfl rfl h
theorem CI{X:Cx}:nB (cC P w) X E0:=fun _ _ _ _ _ _ _ h=>by
 obtain⟨_,_,_,_,_,_,_,_,_,_,_,_,_,z⟩:=h
 exact z.elim
end
theorem UK{K:xFg}{h:Heap}{C:Addr}{bmB:List Value}{newId:String}(X:K.In h)(q:PySem.W.excIn K C bmB newId=true) :
  ∃bm N nm qn bs hdct sn sub ab col dd k0 k1 k2 k3 k5 mN,h.get? C=some (excClassObj nm qn C N bs bm hdct sn sub ab col dd k0 k1 k2 k3 k5 newId)/\h.Ns N mN/\mN "__init__"=none/\OwnTail h bmB bm:=by
 unfold PySem.W.excIn at q
 split at q
 ·rename_i dd cd sl lk
  split at q
  ·rename_i C' bm k0 k1 k2 k3 nn k5 hm hs
   simp only[xax,beq_iff_eq,Bool.not_eq_true'] at q
   obtain⟨⟨⟨⟨⟨rfl,rfl⟩,hdel⟩,ht⟩,hok⟩,hni⟩:=q
   obtain⟨nm,bs,mro,ns,qn,hd,sn,sub,ab,col,del⟩:=cd
   dsimp only at hm hdel hok hni
   subst hm hdel
   obtain rfl:sl=#[k0,k1,k2,k3,some (.builtin nn),k5]:=by
    obtain⟨l⟩:=sl
    simp only at hs
    rw[hs]
   exact⟨bm,ns,nm,qn,bs,hd,sn,sub,ab,col,dd,k0,k1,k2,k3,k5,_,X _ _ lk,.of_isNs (PySem.W.isNs_of_in X hok),PySem.W.nsMap_none_of_in X hok hni,PySem.W.tail_of_in X ht⟩
  ·cases q
 ·cases q
def UL(C:Addr)(ta:TA)(E:XK):TS:=fun _ O H=>ta O H fun vs H1=>vs.length<=sizeLine/\E (.ref C) none H1
section
variable{P:Program}{w:World}{K:xFg}{mg:Str->Option Value}{base:Heap}{N:List Str}{qual:Str}{scope:Scope}{f:Addr}{cdv:Value}{A:Around}{outer:List Env}{s0:Shared}{H0:Hp}{E:XK}
theorem CJ{x:Str}{C:Addr}{e0:Expr}{rest:List Expr}{np cpos pos:Pos}{ta:TA}(q:PySem.W.excIn K C [.type "ValueError",.type "Exception",.type "BaseException",.type "object"] "ValueError.__new__"=true)
  (hg:Gl (dG (cC P w) P w K mg base N qual scope f cdv A outer s0 H0 E) x) (hm:mg x=some (.ref C)) (ha:PA (dG (cC P w) P w K mg base N qual scope f cdv A outer s0 H0 E) (e0::rest) ta)
  (hdb:(x==("__debug__":Str))=false:=by decide)
  (he:starEach (e0::rest) (envOfC qual scope s0.heap.objs.size f cdv)=(false,eval e0 (envOfC qual scope s0.heap.objs.size f cdv))::starEach rest (envOfC qual scope s0.heap.objs.size f cdv):=by rfl)
  (hpl:(backTo cpos (starEach rest (envOfC qual scope s0.heap.objs.size f cdv))).any (·.1)=false:=by rfl) :
  PS (dG (cC P w) P w K mg base N qual scope f cdv A outer s0 H0 E) (.Raise (some (.Call (.Name x np) (e0::rest) [] cpos)) none pos) (UL C ta E):=by
 intro pins s O H D I h
 obtain⟨bm,Nn,nm,qn,bs,hdct,sn,sub,ab,col,dd,k0,k1,k2,k3,k5,mN,hC,hN,hni,T⟩:=UK I.mod.kin q
 refine wpAny_Raise_call_subT (C:=C) (nm:=nm) (q:=qn) (N:=Nn) (bs:=bs) (bm:=bm) (hdct:=hdct) (sn:=sn) (sub:=sub) (ab:=ab) (col:=col) (dd:=dd) (k0:=k0) (k1:=k1) (k2:=k2) (k3:=k3) (k5:=k5)
  PySem.F.excBase_ValueError (mN:=mN) (T.hasType PySem.F.excBase_ValueError.hasBase) (I.ok.hd rfl) (by
   show (backTo cpos (starEach (e0::rest) (envOfC qual scope s0.heap.objs.size f cdv))).any (·.1)=false
   rw[he];show (false||(backTo cpos (starEach rest (envOfC qual scope s0.heap.objs.size f cdv))).any (·.1))=false;rw[hpl];rfl) hni (mY I hg hm ⟨rfl,?_⟩ hdb)
 have ha':=ha cpos pins s O H _ I h
 show wpAny _ _ (evalArgs (.ref C) true (backTo cpos (starEach (e0::rest) (envOfC qual scope s0.heap.objs.size f cdv))) []) _ _ _
 change wpAny _ _ (spliced (backTo cpos (starEach (e0::rest) (envOfC qual scope s0.heap.objs.size f cdv)))) _ _ _ at ha'
 rw[he] at ha' ⊢
 refine Calls.evalArgs_plain (aT ha' fun us s2 ⟨vs,H1,I1,r,hz,hE⟩=>?_)
 have hl:us.length<=sizeLine:=by rw[<- r.length];exact hz
 exact⟨rfl,hl,I1.bk _ _ hC,hN.keeps I1.bk,T.keeps I1.bk,fun h' e m=>UD (tk:=s2.toks) I1 rfl rfl rfl m hE⟩
end
end L2
namespace L2
open PySem.Spec PyProof.Rows
abbrev sA:=St->Hp->VK->XK->Prop
abbrev kO:=gN->XK->St->Hp->Prop
def XP(X:Cx)(CX:eN)(pins:List (Addr×Obj))(O:St)(E:XK)(e:Value)(s':Shared):Prop:=∃s1 H1,aF X pins O H1 s1/\CX X.stack H1 s1 E e s'
def PEX(X:Cx)(CX:eN)(e:Expr)(t:sA):Prop:=
 ∀(pins:List (Addr×Obj)) (s:Shared) (O:St) (H:Hp) (Q:VK) (E:XK),aF X pins O H s->t O H Q E->wpAny (model X.prog X.w) X.A (eval e X.env) (EP X pins O Q) (XP X CX pins O E) s
def lX(X:Cx)(CX:eN)(st:Stmt)(t:kO):Prop:=
 ∀(pins:List (Addr×Obj)) (s:Shared) (O:St) (H:Hp) (D:gN) (E:XK),aF X pins O H s->t D E O H->wpAny (model X.prog X.w) X.A (exec st X.env) (SP X pins D) (XP X CX pins O E) s
def wC(X:Cx)(CX:eN)(st:List Stmt)(t:kO):Prop:=
 ∀(pins:List (Addr×Obj)) (s:Shared) (O:St) (H:Hp) (D:gN) (E:XK),aF X pins O H s->t D E O H->wpAny (model X.prog X.w) X.A (execs st X.env) (SP X pins D) (XP X CX pins O E) s
section
variable{X:Cx}{CX:eN}{k:Nat}{f:Addr}{fd:FuncData}{ps:List Str}{sp:Sp}{dvs:List V}{ds:List Value}{x:Str}{p pos:Pos}{e:Expr}{es:List Expr}{t:TA}
def CL(sp:Sp)(dvs:List V)(t:TA):sA:=fun O H Q E=>t O H fun vs H1=>sp (vs++dvs) H1 Q E
theorem UM(F:dN X.prog X.w X.K X.mg X.base CX k f fd ps sp)(hr:c6 k X.A)(hg:Gl X x)(hm:X.mg x=some (.ref f))(hk:PySem.W.keepIn X.K (.ref f)=true)(hb:iN X.K fd ps ds)(hd:aX dvs ds)
  (ha:PA X.nox (e::es) t) (hdb:(x==("__debug__":Str))=false:=by decide) (he:starEach (e::es) X.env=(false,eval e X.env)::starEach es X.env:=by rfl) (hpl:(backTo pos (starEach es X.env)).any (·.1)=false:=by rfl) :
  PEX X CX (.Call (.Name x p) (e::es) [] pos) (CL sp dvs t):=by
 intro pins s O H Q E I h
 refine wpAny_Call_Name_kw (mY I hg hm ?_ hdb)
 refine PySem.W.callWith_K (h₀:=X.base) I.ok.mod.kin hk (wpAny_mono (ha pos pins s O H _ (I.wish _) h) (fun us s1 ⟨vs,H1,I1',r,q⟩=>?_) fun _ _ z=>False.elim z) he hpl
 have I1:aF X pins O H1 s1:=I1'.unwish
 refine⟨I1.kIn,?_⟩
 have r2:aX (vs++dvs) (us++ds):=r.append hd
 have hl:(us++ds).length=ps.length:=by rw[<- r2.length];exact F.len _ _ _ _ q
 refine wpAny_call (codeAny_mono (F.run X.A X.stack s1 H1 ⟨us,[]⟩ (us++ds) (vs++dvs) Q E hr I1.env0 (hb s1 us I1.kIn hl) r2 q) fun r s' hq=>?_)
 cases r with
 |error e=>exact⟨s1,H1,I1,hq⟩
 |ok fl=>
  cases fl with
  |ret u=>exact I1.after hq
  |next=>exact False.elim hq
  |brk=>exact False.elim hq
  |cont=>exact False.elim hq
def UN(t:sA):kO:=fun D E O H=>t O H (fun _ H1=>D.nx O H1) E
theorem UO{te:sA}(he:PEX X CX e te)(hs:swapsWith e none pos.line X.env=pure false:=by rfl):lX X CX (.Expr e pos) (UN te):=by
 intro pins s O H D E I h
 exact wpAny_Expr_any (aT (he pins s O H _ E I h) fun v s1 ⟨y,H1,I1,r1,q1⟩=>⟨O,H1,I1,q1⟩) I.quiet hs
theorem UP{st:Stmt}{ts:kO}(h1:lX X CX st ts):wC X CX [st] ts:=by
 intro pins s O H D E I h
 refine wpAny_execs_cons (aT (h1 pins s O H D E I h) fun fl s1 q=>?_)
 cases fl with
 |next=>exact wpAny_execs_nil q
 |ret v=>exact q
 |brk=>exact q
 |cont=>exact q
end
theorem aF.gone{X:Cx}{pins:List (Addr×Obj)}{O:St}{H:Hp}{s:Shared}{h':Heap}{m:Str->Option Value}{n:Str}{v:Option Value}{i:Nat}{tk:Nat}(I:aF X pins O H s)(hN:X.N.Nodup)(hi:X.N[i]? = some n)
  (hm:∀(j:Nat) (y:Str) (v:V),X.N[j]? = some y->O[j]? = some (some v)->cT X.env.scope y->∃u,aR v u/\AY X.env s.heap m y u) (hn:h'.Ns X.env.locals (fun y=>if y=n then v else m y)) (hs:Heap.SameBut X.env.locals s.heap h') :
  aF X pins (O.set i none) H { s with heap:=h',toks:=tk }:=by
 have neL:∀b o,X.s₀.heap.get? b=some o->b≠X.env.locals:=fun b o e=>xa7 (xap (xam e) I.ok.above)
 have hiO:i<O.length:=by rw[I.len];exact(xah.mp hi).1
 refine⟨I.ok,I.os,I.bare,⟨fun b o e nn hb hx=>(hs.2 b (neL b o e)).trans (I.base.keep b o e nn hb hx),fun b o e nn hb hx=>?_,I.base.free,fun b o e hx=>?_,I.base.tups,I.base.frzs,I.base.tbls⟩,⟨_,hn,fun j y v' e1 e2 e3=>?_⟩,fun y c e=>?_,I.free,I.freeC,fun p hp=>?_,fun b ob e=>?_,by simpa using I.len⟩
 ·obtain⟨sl,e1⟩:=I.base.slot b o e nn hb hx
  exact⟨sl,(hs.2 b (neL b o e)).trans e1⟩
 ·obtain⟨o',e1⟩:=I.base.there b o e hx
  exact⟨o',(hs.2 b (neL b o e)).trans e1⟩
 ·have hj:j≠i:=fun z=>by rw[z,xa3 hiO] at e2;cases e2
  rw[xai (xa6 hj)] at e2
  obtain⟨u,r,l⟩:=hm j y v' e1 e2 e3
  refine⟨u,r,?_⟩
  rcases l with⟨k,e⟩|⟨k,c,e,z⟩
  ·have ny:y≠n:=fun z=>hj (vP hN e1 (z▸hi))
   exact .inl ⟨k,by simp[ny,e]⟩
  ·exact .inr ⟨k,c,e,z.sameBut hs (I.cne y c e)⟩
 ·obtain⟨w',z⟩:=I.cell y c e
  exact⟨w',z.sameBut hs (I.cne y c e)⟩
 ·obtain⟨e,nn,ne,nf,d⟩:=I.pin p hp
  exact⟨(hs.2 p.1 ne).trans e,nn,ne,nf,d⟩
 ·refine(I.hok b ob e).stay (fun c w' hc q=>(hs.2 c ?_).trans q) (fun _ q=>q) fun _ _ q=>q
  rintro rfl
  rcases hc with z|z
  ·rw[<- z,I.free] at e;cases e
  ·rw[I.free] at z;cases z
def hdl(X:Cx)(x:Addr):Cx:={ X with A:=X.A.mark (some (.ref x)),calm:=false,xe:=fun _ _=>False }
section
variable{X:Cx}{pins:List (Addr×Obj)}{O:St}{H:Hp}{s:Shared}{x:Addr}
theorem aF.hdl(I:aF X pins O H s)(x:Addr):aF (hdl X x) pins O H s:=
 ⟨⟨I.ok.mod,I.ok.kind,I.ok.glob,I.ok.blt,I.ok.above,I.ok.inj,I.ok.has,I.ok.cab,fun z=>xag z (by show ¬(false=true);decide),I.ok.frames,I.ok.stk,I.ok.exf,I.ok.bs,I.ok.bsz,I.ok.noex,I.ok.exfs,I.ok.funs,I.ok.frf⟩,I.os,I.bare,I.base,I.loc,I.cell,I.free,I.freeC,I.pin,I.hok,I.len⟩
theorem aF.unhdl(I:aF (L2.hdl X x) pins O H s)(ok:X.Ok):aF X pins O H s:=⟨ok,I.os,I.bare,I.base,I.loc,I.cell,I.free,I.freeC,I.pin,I.hok,I.len⟩
end
def UQ(K:xFg)(Dc:Addr)(i:Nat)(tb:kO)(th:TS):TS:=fun D O H=>∃E:XK,tb D E O H/\∀(C:Addr) (dct:Option Addr) (H':Hp) (x:Addr),E (.ref C) dct H'->H' x=none->
 PySem.W.exmOne K (.ref C) (.ref Dc)=some true/\th { nx:=fun O' H''=>D.nx (O'.set i none) H'',rt:=fun _ _=>False } (O.set i (some (.ref x))) (aS H' x (jB x C dct))
theorem UR{X:Cx}{body:List Stmt}{c n:Str}{np hpos pos:Pos}{b0:Stmt}{suite:List Stmt}{tb:kO}{th:TS}{i:Nat}{Dc:Addr}(hst:X.stack=X.env::X.outer)(hf:X.env.frame=some X.env.locals)
  (hN:X.N.Nodup) (hi:X.N[i]? = some n) (hn:X.env.scope.names.lookup n=some .local) (hg:Gl X c) (hm:X.mg c=some (.ref Dc)) (hb:wC X (cC X.prog X.w) body tb) (hh:∀x,dY (hdl X x) (b0::suite) th)
  (hdb:(c==("__debug__":Str))=false:=by decide):PS X (.Try body [.ExceptHandler (some (.Name c np)) (some n) (b0::suite) hpos] [] [] pos) (UQ X.K Dc i tb th):=by
 intro pins s O H D I h
 obtain⟨Ex,hbody,hhand⟩:=h
 refine wpAny_Try_except (wpAny_mono (hb pins s O H D Ex I hbody) (fun fl s1 q=>?_) (fun e s1 q=>?_))
 ·cases fl with
  |next=>exact wpAny_execs_nil q
  |ret v=>exact q
  |brk=>exact q
  |cont=>exact q
 obtain⟨s2,H2,I2,x,C,dct,H',B,rfl,ho,hg',un,hok,F,ib,nx,hE⟩:=q
 obtain⟨hx,hth⟩:=hhand C dct H' x hE nx
 have hfr:X.A.frames=some (X.env::X.outer):=by rw[<- hst];exact I.ok.frames
 have F':gZ B (X.env::X.outer) x (.ref C) dct .none s1.heap:=by rw[<- hst];exact F
 refine CD hfr hf F' fun h1 F1 u1=>rZ F1 fun h2 F2 u2=>?_
 have I3:=CH (tk:=s1.toks) I2 ho hg' un hok (hst▸F2) ib (u1.trans u2) nx
 refine wpAny_handleBy_cons (codeAny_handlers_test ?_) (by intro z;cases z)
 refine mY (X:=hdl X x) (I3.hdl x) hg hm ?_ hdb
 obtain⟨ox,vs,T,oT,ts,ex,hcl,_⟩:=F2.obj
 have LT:PySem.W.Looks (model X.prog X.w) h2 (typeOf (.ref x)) (.ref C):=hcl▸(PySem.W.Looks.ld ex).andThen .now
 refine(PySem.W.exm_one (M:=model X.prog X.w) I3.kIn LT hx) _ _ _ _ (fun _ _ e=>e) ?_
 refine codeAny_handlers_suite_as ?_
 refine rZ F2 fun h3 F3 u3=>?_
 have I4:=CH (tk:=s1.toks) I2 ho hg' un hok (hst▸F3) ib (u1.trans (u2.trans u3)) nx
 refine vQ (X:=hdl X x) (v:=.ref x) (I4.hdl x) hN hi (.inl hn) rfl (fun s5 I5=>?_) (.inr hn)
 refine wpAny_mono (hh x pins s5 _ _ _ I5 hth) (fun fl s6 q6=>?_) fun _ _ z=>False.elim z
 cases fl with
 |ret v=>obtain⟨_,_,_,_,_,z⟩:=q6;exact False.elim z
 |brk=>obtain⟨_,_,_,z⟩:=q6;exact False.elim z
 |cont=>obtain⟨_,_,_,z⟩:=q6;exact False.elim z
 |next=>
  obtain⟨σ6,H6,I6,q⟩:=q6
  have I7:aF X pins σ6 H6 s6:=I6.unhdl I.ok
  obtain⟨m,hnm,hl⟩:=I7.loc
  have hp:(X.env.scope.kind==.class||(X.env.scope.kind==.module&&X.env.locals != X.env.globals))=false:=by rw[I.ok.kind];rfl
  exact wpAny_nameGoes_keeps hn hnm hp fun h' v hn' hs'=>⟨_,H6,I7.gone hN hi hl hn' hs',q⟩
theorem US{X:Cx}:eR X (.builtin "isinstance") (fun xs H Q=>∃(a C:Addr) (c:V) (cv:Value) (b:Bool),xs=[.ref a,c]/\H a=some (jB a C none)/\((∃D,c=.ref D/\cv=.ref D)\/∃T,c=.ty T/\cv=.type T)/\lW X.K C/\PySem.W.kitOne X.K (.ref C) cv=some b/\Q (.bl b) H):=by
 intro pins s O H xs us Q I r h
 obtain⟨a,C,c,cv,b,rfl,ha,hc,ec,hk,q⟩:=h
 obtain⟨u,w',rfl,ru,rw'⟩:=rT r
 obtain rfl:u=Value.ref a:=ru
 have e:w'=cv:=by
  rcases hc with⟨D,rfl,rfl⟩|⟨T,rfl,rfl⟩
  ·exact rw'
  ·exact rw'
 subst e
 obtain⟨⟨o,e1,e2,e3,e4⟩,_,_⟩:=I.hok a _ ha
 have hI:PySem.W.InstAt s.heap a o C none:=⟨e1,e2,e4,by rw[e3];trivial⟩
 exact PySem.W.kia_one (UJ ec) I.kIn ⟨o,none,hI⟩ hk (fun z=>nomatch z) fun tk=>⟨.bl b,H,I.tok tk,rfl,q⟩
end L2
namespace L2
open PySem.Spec PyProof.Rows
section
variable{X:Cx}
theorem UT(bs:List Bool):(List.range bs.length).all (fun i=>bs.getD i false)=bs.all id:=by
 rw[xbc]
 simp only[xbg,xcz,id]
 constructor
 ·intro h b hb
  obtain⟨i,hi,rfl⟩:=List.mem_iff_getElem.mp hb
  have q:=h i hi
  simpa [List.getD,hi] using q
 ·intro h i hi
  have q:=h _ (xby hi)
  simpa [List.getD,hi] using q
theorem UU{bs:List Bool}{its:List Value}(r:aX (bs.map V.bl) its){i:Nat}{v:Value}(h:its.toArray[i]? = some v):v=.bool (bs.getD i false):=by
 have hl:=r.length
 rw[xat] at hl
 have hi:i<bs.length:=by
  rw[hl]
  have:its[i]? = some v:=by simpa using h
  exact(xah.mp this).1
 obtain⟨u,hu,ru⟩:=r.get (i:=i) (x:=.bl bs[i]) (by simp[hi])
 have e:its[i]? = some v:=by simpa using h
 rw[hu] at e
 cases e
 rw[show v=.bool bs[i] from ru]
 simp[List.getD,hi]
theorem UV(hc:X.calm=true):eR X (.builtin "all") (fun xs H Q=>∃(p:Addr) (bs:List Bool),xs=[.ref p]/\bD X.K H p (bs.map V.bl)/\Q (.bl (bs.all id)) H):=by
 intro pins s O H xs us Q I r h
 obtain⟨p,bs,rfl,hq,q⟩:=h
 obtain⟨u,rfl,e⟩:=lR r
 cases e
 obtain⟨its,rv,pl,hz⟩:=I.list hq
 have hl:its.toArray.size=bs.length:=by rw[xas,<- rv.length,xat]
 have hlt:p<s.heap.objs.size:=by obtain⟨o,e,_⟩:=pl.isList;exact xam e
 refine call_all_walk (wpAny_pyIter_list pl.isList ⟨_,_,_,_,_,_,fun i=>bs.getD i false,rfl,Walks.list (A:=X.A.in1) (I.ok.hd hc) s.heap.objs.size p (xa7 hlt) its.toArray,⟨⟨_,xaz _ rfl,rfl,rfl⟩,pl.isList.push _⟩,fun i v s' Q' E' hv hQ=>?_,fun h' tk k=>?_⟩)
 ·rw[UU rv hv];exact wpAny_truthy_bool hQ
 ·refine⟨.bl (bs.all id),H,I.kept fun b o e=>k b o (fun z=>xa7 (xam e) (by simpa using z)) (xad _ e),?_,q⟩
  rw[hl,UT];rfl
end
end L2
namespace SetT
open PySem.SetTable
def iter(t:SetTable):Nat->Probe->Probe
 |0,p=>p
 |k+1,p=>iter t k (t.advance p)
def start(mask i perturb:Nat):Probe:={ j:=i,more:=runEnd mask i-i,i,perturb,dummy:=none }
def five(mask:Nat):Nat->Nat->Nat
 |0,i=>i
 |n+1,i=>five mask n ((i*5+1)%(mask+1))
end SetT
namespace TxtA
open PySem.StrLaws PySem.Builtin.Str
def flat(y:List Nat):List (List Nat)->List Nat
 |[]=>[]
 |[r]=>r
 |r::r'::rs=>r++y++flat y (r'::rs)
def dO(w:Nat):Nat->List (List Nat)->List Nat
 |_,[]=>[]
 |_,[_]=>[]
 |n,r::r'::rs=>(n+r.length)::dO w (n+r.length+w) (r'::rs)
def Hit(l y:List Nat)(i:Nat):Prop:=(l.drop i).take y.length=y
theorem sB{l t:List Nat}{c i:Nat}(h:Hit l (c::t) i):l[i]? = some c:=by
 unfold Hit at h
 have:((l.drop i).take (c::t).length)[0]? = some c:=by rw[h];rfl
 rw[List.getElem?_take,xau (by simp)] at this
 rw[List.getElem?_drop] at this
 simpa using this
theorem UW(x y:Str)(hy:y.cps.toList≠[])(i:Nat):At x y x.length i↔Hit x.cps.toList y.cps.toList i:=by
 have ly:y.length=y.cps.toList.length:=by simp[Str.length]
 have lx:x.length=x.cps.toList.length:=by simp[Str.length]
 unfold At Hit
 rw[subAt_eq,ly,lx]
 constructor
 ·rintro⟨_,h⟩;exact eq_of_beq h
 ·intro h
  refine⟨?_,by rw[h];simp⟩
  have e:=congrArg List.length h
  rw[xbi,xbj] at e
  have:y.cps.toList.length≠0:=by simpa using hy
  omega
theorem sC(x y:Str)(lim:Nat):∀(l:List Nat) (st:Array Nat×Nat),(∀i∈l,¬(st.2<=i/\At x y x.length i))->(forIn l st (occBody x y x.length lim)).run=st
 |[],st,_=>rfl
 |a::l,st,h=>by
  rw[xb4]
  unfold occBody
  have c:¬(((st.fst.size<lim/\st.snd<=a)/\a+y.length<=x.length)/\subAt x y a=true):=fun q=>h a (xa4 ..) ⟨q.1.1.2,q.1.2,q.2⟩
  rw[xao c]
  exact sC x y lim l st fun i hi=>h i (xar _ hi)
theorem UX(x y:Str)(lim:Nat){a:Nat}{l:List Nat}{st:Array Nat×Nat}(hs:st.1.size<lim)(hf:st.2<=a)(h:At x y x.length a) :
  (forIn (a::l) st (occBody x y x.length lim)).run=(forIn l (st.1.push a,a+y.length) (occBody x y x.length lim)).run:=by
 rw[xb4]
 have c:((st.fst.size<lim/\st.snd<=a)/\a+y.length<=x.length)/\subAt x y a=true:=⟨⟨⟨hs,hf⟩,h.1⟩,h.2⟩
 show (occBody x y x.length lim a st >>= _).run=_
 unfold occBody
 rw[xau c]
 rfl
theorem CM(x y:Str)(lim:Nat)(l l':List Nat)(st:Array Nat×Nat):(forIn (l++l') st (occBody x y x.length lim)).run=(forIn l' (forIn l st (occBody x y x.length lim)).run (occBody x y x.length lim)).run:=by
 induction l generalizing st with
 |nil=>rfl
 |cons a l ih=>
  rw[xbq,xb4,xb4]
  unfold occBody
  split
  ·exact ih _
  ·exact ih _
theorem sE(w:Nat):∀(rows:List (List Nat)) (n k:Nat),k∈dO w n rows->n<=k
 |[],_,_,h=>by simp[dO] at h
 |[_],_,_,h=>by simp[dO] at h
 |r::r'::rs,n,k,h=>by
  rw[dO,xal] at h
  rcases h with rfl|h
  ·omega
  ·have:=sE w (r'::rs) _ _ h;omega
theorem UY{l:List Nat}{pre r post:List Nat}{i c:Nat}(hl:l=pre++(r++post))(h1:pre.length<=i)(h2:i<pre.length+r.length)(h:l[i]? = some c):c∈r:=by
 rw[hl,xb8 h1,xbo (by omega)] at h
 exact xcn h
def o8(c:Nat)(t r:List Nat):Prop:=∀i,i<r.length->∀p,(p=[]\/p.head? = some c)->¬Hit (r++p) (c::t) i
theorem UZ{c:Nat}{t r:List Nat}(h:c∉r):o8 c t r:=fun i hi p _ q=>by
 have:=sB q
 rw[xbo hi] at this
 exact h (xcn this)
theorem CN{pre l y:List Nat}{i:Nat}(h:pre.length<=i):Hit (pre++l) y i↔Hit l y (i-pre.length):=by
 unfold Hit
 rw[xc4,List.drop_of_length_le h,xc8]
theorem CO{c:Nat}{t:List Nat}(hc:c∉t):∀(rows:List (List Nat)),(∀r∈rows,o8 c t r)->∀(pre:List Nat) (i:Nat),pre.length<=i->(Hit (pre++flat (c::t) rows) (c::t) i↔i∈dO (t.length+1) pre.length rows)
 |[],_,pre,i,hi=>by
  constructor
  ·intro h
   have:=sB h
   rw[flat,xbh,List.getElem?_eq_none hi] at this
   cases this
  ·intro h;simp[dO] at h
 |[r],hr,pre,i,hi=>by
  constructor
  ·intro h
   rw[flat,CN hi] at h
   by_cases hl:i-pre.length<r.length
   ·exact xag (by rw[xbh];exact h) (hr r (by simp) _ hl [] (.inl rfl))
   ·have:=sB h
    rw[List.getElem?_eq_none (by omega)] at this
    cases this
  ·intro h;simp[dO] at h
 |r::r'::rs,hr,pre,i,hi=>by
  have e:pre++flat (c::t) (r::r'::rs)=pre++(r++((c::t)++flat (c::t) (r'::rs))):=by rw[flat,xa5]
  have e2:pre++flat (c::t) (r::r'::rs)=(pre++r++(c::t))++flat (c::t) (r'::rs):=by rw[e];simp[xa5]
  rw[dO,xal]
  by_cases h1:i<pre.length+r.length
  ·constructor
   ·intro h
    rw[e,CN hi] at h
    exact xag h (hr r (by simp) _ (by omega) _ (.inr rfl))
   ·rintro(h|h)
    ·omega
    ·have:=sE _ _ _ _ h;omega
  ·by_cases h2:i=pre.length+r.length
   ·constructor
    ·intro _;exact .inl h2
    ·intro _
     unfold Hit
     rw[e,h2,<- xa5,List.drop_left' (by simp),List.take_left' rfl]
   ·by_cases h3:i<pre.length+r.length+(t.length+1)
    ·constructor
     ·intro h
      have e3:pre++flat (c::t) (r::r'::rs)=(pre++r++[c])++(t++flat (c::t) (r'::rs)):=by rw[e];simp[xa5]
      exact xag (UY e3 (by simp;omega) (by simp;omega) (sB h)) hc
     ·rintro(h|h)
      ·omega
      ·have:=sE _ _ _ _ h;omega
    ·have ih:=CO hc (r'::rs) (fun q hq=>hr q (xar _ hq)) (pre++r++(c::t)) i (by simp;omega)
     rw[e2,ih,show (pre++r++(c::t)).length=pre.length+r.length+(t.length+1) by simp;omega]
     constructor
     ·exact .inr
     ·rintro(h|h)
      ·omega
      ·exact h
theorem U0{x y:Str}{c:Nat}{t:List Nat}(hy:y.cps.toList=c::t)(hc:c∉t)(lim:Nat):∀(rows:List (List Nat)),rows≠[]->(∀r∈rows,o8 c t r)->∀(pre:List Nat),x.cps.toList=pre++flat (c::t) rows->∀(st:Array Nat) (free:Nat),free<=pre.length->st.size+rows.length<=lim->
  (forIn (List.range' pre.length ((flat (c::t) rows).length+1)) (st,free) (occBody x y x.length lim)).run.1.toList=st.toList++dO (t.length+1) pre.length rows:=by
 have ly:y.length=t.length+1:=by rw[show y.length=y.cps.toList.length by simp[Str.length],hy];rfl
 have ati:∀{rows:List (List Nat)} {pre:List Nat} (hx:x.cps.toList=pre++flat (c::t) rows) (hr:∀r∈rows,o8 c t r) {i:Nat},pre.length<=i->(At x y x.length i↔i∈dO (t.length+1) pre.length rows):=fun {rows pre} hx hr {i} hi=>by
  rw[UW x y (by rw[hy];simp),hx,hy];exact CO hc _ hr _ i hi
 intro rows
 induction rows with
 |nil=>intro h;exact xag rfl h
 |cons r rs ih=>
  intro _ hr pre hx st free hf hs
  cases rs with
  |nil=>
   rw[sC x y lim _ _ fun i hi q=>?_]
   ·simp[dO]
   ·have:=(ati hx hr (by simp[List.mem_range'] at hi;omega)).mp q.2
    simp[dO] at this
  |cons r' rs=>
   have lf:(flat (c::t) (r::r'::rs)).length+1=r.length+(1+(t.length+((flat (c::t) (r'::rs)).length+1))):=by rw[flat];simp;omega
   have sp:List.range' pre.length ((flat (c::t) (r::r'::rs)).length+1)=List.range' pre.length r.length++((pre.length+r.length)::(List.range' (pre.length+r.length+1) t.length++List.range' (pre.length+r.length+(t.length+1)) ((flat (c::t) (r'::rs)).length+1))):=by
    rw[lf,<- List.range'_append_1,Nat.add_comm 1,List.range'_succ,<- List.range'_append_1,show pre.length+r.length+1+t.length=pre.length+r.length+(t.length+1) by omega]
   have e2:x.cps.toList=(pre++r++(c::t))++flat (c::t) (r'::rs):=by rw[hx,flat];simp[xa5]
   have lp:(pre++r++(c::t)).length=pre.length+r.length+(t.length+1):=by simp;omega
   rw[sp,CM,sC x y lim (List.range' pre.length r.length) (st,free) fun i hi q=>?_]
   ·rw[UX x y lim (by show st.size<lim;simp at hs;omega) (by show free<=_;omega) ((ati hx hr (by omega)).mpr (by rw[dO];exact xa4 ..)),CM,sC x y lim (List.range' (pre.length+r.length+1) t.length) _ fun i hi q=>?_]
    ·have:=ih (by simp) (fun q hq=>hr q (xar _ hq)) (pre++r++(c::t)) e2 (st.push (pre.length+r.length)) (pre.length+r.length+y.length) (by rw[lp,ly];omega) (by simp at hs ⊢;omega)
     rw[lp] at this
     rw[this,dO]
     simp
    ·have h1:=q.1
     simp[List.mem_range'] at hi
     have h2:pre.length+r.length+y.length<=i:=h1
     rw[ly] at h2
     omega
   ·simp[List.mem_range'] at hi
    have:=(ati hx hr (by omega)).mp q.2
    rw[dO,xal] at this
    rcases this with h|h
    ·omega
    ·have:=sE _ _ _ _ h;omega
def ofL(l:List Nat):Str:=⟨l.toArray⟩
theorem CP{x:Str}{y:List Nat}:∀(rows:List (List Nat)),rows≠[]->∀(pre:List Nat),x.cps.toList=pre++flat y rows->partsFrom x y.length pre.length (dO y.length pre.length rows)=rows.map ofL
 |[],h,_,_=>xag rfl h
 |[r],_,pre,hx=>by
  rw[dO,partsFrom,xbl,List.map_nil]
  congr 1
  apply Str.ext'
  apply xcb.mp
  rw[strSub_toList,hx,flat,List.drop_left]
  have lx:x.length=pre.length+r.length:=by rw[show x.length=x.cps.toList.length by simp[Str.length],hx,flat];simp
  rw[lx,show pre.length+r.length-pre.length=r.length by omega,List.take_length]
  rfl
 |r::r'::rs,_,pre,hx=>by
  have e2:x.cps.toList=(pre++r++y)++flat y (r'::rs):=by rw[hx,flat];simp[xa5]
  have ih:=CP (r'::rs) (by simp) (pre++r++y) e2
  rw[show (pre++r++y).length=pre.length+r.length+y.length by simp;omega] at ih
  rw[dO,partsFrom,ih,show List.map ofL (r::r'::rs)=ofL r::List.map ofL (r'::rs) from rfl]
  congr 1
  apply Str.ext'
  apply xcb.mp
  rw[strSub_toList,hx,flat,List.drop_left,xa5,show pre.length+r.length-pre.length=r.length by omega,List.take_left' rfl]
  rfl
theorem CQ(c:Nat)(t:List Nat):∀rows:List (List Nat),rows.length<=(flat (c::t) rows).length+1
 |[]=>by simp
 |[r]=>by simp
 |r::r'::rs=>by
  have:=CQ c t (r'::rs)
  rw[flat]
  simp at this ⊢
  omega
theorem U1{w n:Nat}:∀{rows:List (List Nat)},rows≠[]->dO w n rows=[]->∃r,rows=[r]
 |[],h,_=>xag rfl h
 |[r],_,_=>⟨r,rfl⟩
 |r::r'::rs,_,h=>by rw[dO] at h;cases h
theorem U2{c:Nat}{t:List Nat}{rows:List (List Nat)}(hc:c∉t)(hk:∀k∈c::t,k<256)(hne:rows≠[])(hr:∀r∈rows,o8 c t r):Txt.split (ofL (flat (c::t) rows)) (ofL (c::t))=rows.map ofL:=by
 have xl:(ofL (flat (c::t) rows)).cps.toList=[]++flat (c::t) rows:=by simp[ofL]
 have yl:(ofL (c::t)).cps.toList=c::t:=by simp[ofL]
 have lx:(ofL (flat (c::t) rows)).length=(flat (c::t) rows).length:=by simp[ofL,Str.length]
 have ly:(ofL (c::t)).length=(c::t).length:=by simp[ofL,Str.length]
 have occ:occurrences (ofL (flat (c::t) rows)) (ofL (c::t)) 0 (ofL (flat (c::t) rows)).length ((ofL (flat (c::t) rows)).length+1)=dO (t.length+1) 0 rows:=by
  rw[occ_eq]
  have:=U0 (x:=ofL (flat (c::t) rows)) (y:=ofL (c::t)) yl hc ((ofL (flat (c::t) rows)).length+1) rows hne hr [] xl #[] 0 (xaf _) (by rw[lx];simpa using CQ c t rows)
  rw[show (ofL (flat (c::t) rows)).length+1-0=(flat (c::t) rows).length+1 by rw[lx];omega]
  simpa using this
 have one:∀r,rows=[r]->[ofL (flat (c::t) rows)]=rows.map ofL:=fun r e=>by rw[e];rfl
 have ky:PySem.Builtin.Str.strKind (ofL (c::t))=1:=by
  unfold PySem.Builtin.Str.strKind
  rw[xau]
  simpa [ofL] using hk
 have kx:1<=PySem.Builtin.Str.strKind (ofL (flat (c::t) rows)):=by
  unfold PySem.Builtin.Str.strKind
  split
  ·exact xaf _
  ·split<;>decide
 unfold Txt.split
 split
 ·rename_i h
  simp only[xc9,decide_eq_true_eq] at h
  rcases h with h|h
  ·match rows,hne with
   |[r],_=>exact one r rfl
   |r::r'::rs,_=>
    rw[lx,ly] at h
    rw[flat] at h
    simp at h
    omega
  ·omega
 ·split
  ·rename_i h
   rw[occ] at h
   obtain⟨r,e⟩:=U1 hne (by simpa using h)
   exact one r e
  ·rw[occ,partsBetween_eq,ly]
   have:=CP (x:=ofL (flat (c::t) rows)) (y:=c::t) rows hne [] xl
   simpa using this
theorem U3{c:Nat}{t:List Nat}{rows:List (List Nat)}(hc:c∉t)(hk:∀k∈c::t,k<256)(hne:rows≠[])(hr:∀r∈rows,c∉r):Txt.split (ofL (flat (c::t) rows)) (ofL (c::t))=rows.map ofL:=
 U2 hc hk hne fun r h=>UZ (hr r h)
theorem wD(y:List Nat):∀rows:List (List Nat),Str.join (ofL y) (rows.map ofL)=ofL (flat y rows)
 |[]=>rfl
 |[r]=>rfl
 |r::r'::rs=>by
  have ih:=wD y (r'::rs)
  show ofL r++ofL y++Str.join (ofL y) ((r'::rs).map ofL)=_
  rw[ih,flat]
  apply Str.ext'
  simp[ofL,Str.cps_append]
end TxtA
namespace TxtA
open PySem.StrLaws PySem.Builtin.Str PySem.NumText
def bB(n:Nat):List Nat:=(Nat.toDigits 10 n).map Char.toNat
theorem ofS(n:Nat):Str.ofString (toString ((n:Nat):Int))=ofL (bB n):=Str.ext' (xcb.mp (by rw[PySem.W.KIN.signs_num];simp[ofL,bB]))
theorem sF(n:Nat):digitsVal (bB n)=n:=PySem.W.KIN.val_back n
theorem digs_all(n:Nat):AllDigits (bB n):=by
 intro c hc
 obtain⟨ch,hch,e⟩:=xb3.mp hc
 have r:=PyProof.Rows.digit_range (Nat.isDigit_of_mem_toDigits (by decide) (by decide) hch)
 rw[<- e]
 exact r
theorem o9(n:Nat):bB n≠[]:=fun e=>by
 have h3:Nat.toDigits 10 n=[]:=List.map_eq_nil_iff.mp e
 exact xag h3 Nat.toDigits_ne_nil
theorem wE{n k:Nat}(h0:0<k)(h:n<10^k):(bB n).length<=k:=by
 unfold bB
 rw[xat]
 exact(xcp (by decide) h0).mpr h
theorem CS{n:Nat}(h:n<10^70):intText? (ofL (bB n))=some (n:Int):=by
 have l:(ofL (bB n)).length=(bB n).length:=by simp[ofL,Str.length]
 have e:(ofL (bB n)).cps.toList=bB n:=by simp[ofL]
 have:=intText_digits (x:=ofL (bB n)) (by rw[e];exact digs_all n) (by rw[e];exact o9 n) (by rw[l];exact xav (wE (by decide) h) (by decide))
 rw[e,sF] at this
 exact this
theorem CT{n:Nat}{cs:List Nat}(h:bB n=48::cs):cs=[]:=by
 have hv:=sF n
 have ha:=digs_all n
 rw[h] at hv ha
 rw[digitsVal_zero] at hv
 have hc:AllDigits cs:=fun c hc=>ha c (xar _ hc)
 have ht:=toDigits_all cs hc
 rw[hv] at ht
 have hl:=congrArg List.length h
 rw[bB,xat,ht,xan] at hl
 have le:(cs.dropWhile (· == 48)).length<=cs.length:=len_dropWhile _ _
 cases hd:cs.dropWhile (· == 48) with
 |nil=>
  rw[hd] at hl
  simp at hl
  exact hl
 |cons c r=>
  rw[hd] at hl le
  simp at hl le
  omega
end TxtA
namespace DL
open L2
inductive D where
 |non|bl (b:Bool)|int (i:Int)|str (x:Str)|ty (n:String)|cls (c:Str)
 |tup (xs:List D)|lst (xs:List D)|dct (ks:List Key) (vs:List D)|exc (c:Str) (as:List D)
instance:Inhabited D:=⟨.non⟩
inductive R (α:Type) where
 |ok (a:α)|err (e:D)|bad
def R.bind{α β:Type}:R α->(α->R β)->R β
 |.ok a,k=>k a
 |.err e,_=>.err e
 |.bad,_=>.bad
theorem R.ok_bind{α β:Type}(a:α)(k:α->R β):(R.ok a).bind k=k a:=rfl
def RW{α:Type}(r:R α)(Q:α->Prop)(E:D->Prop):Prop:=match r with
 |.ok a=>Q a
 |.err e=>E e
 |.bad=>False
theorem RW.mono{α:Type}{r:R α}{Q Q':α->Prop}{E E':D->Prop}(h:RW r Q E)(hq:∀a,r=.ok a->Q a->Q' a)(he:∀e,E e->E' e):RW r Q' E':=by
 cases r with
 |ok a=>exact hq a rfl h
 |err e=>exact he e h
 |bad=>exact h
theorem RW.of_bind{α β:Type}{r:R α}{k:α->R β}{Q:β->Prop}{E:D->Prop}(h:RW (r.bind k) Q E):RW r (fun a=>RW (k a) Q E) E:=by
 cases r with
 |ok a=>exact h
 |err e=>exact h
 |bad=>exact h
def kP:List Str:=["ChalkError","NoPlace","Same","NoFloor","Endless","NoDeed","NoText","NoName","TooMany","NoChange","NoFrame","NoValue","Unlike","NoRatio","NoBow","NoRow"]
def cF(c d:Str):Option Bool:=bif kP.contains c&&kP.contains d then some (c==d||d=="ChalkError") else none
structure fR(K:xFg)(mg:Str->Option Value)(c:Str)(C:Addr):Prop where
 here:mg c=some (.ref C)
 exc:lW K C
 isi:∀d Dd b,cF c d=some b->mg d=some (.ref Dd)->PySem.W.kitOne K (.ref C) (.ref Dd)=some b
 val:PySem.W.kitOne K (.ref C) (.type "ValueError")=some true
 ctc:∀d Dd,cF c d=some true->mg d=some (.ref Dd)->PySem.W.exmOne K (.ref C) (.ref Dd)=some true
def pA(G:Hp)(dct:Option Addr)(vs:List V):Prop:=(dct=none/\vs=[])\/∃dx v,dct=some dx/\vs=[v]/\G dx=some (.xd [("at",v)])
mutual
def aQ(K:xFg)(mg:Str->Option Value)(G:Hp):D->V->Prop
 |.non,v=>v=.non
 |.bl b,v=>v=.bl b
 |.int i,v=>v=.int i
 |.str x,v=>v=.str x
 |.ty n,v=>v=.ty n
 |.cls c,v=>∃C,v=.ref C/\mg c=some (.ref C)
 |.tup ds,v=>∃a vs,v=.ref a/\bO K G a vs/\Reps K mg G ds vs
 |.lst ds,v=>∃a vs,v=.ref a/\bD K G a vs/\Reps K mg G ds vs
 |.dct ks ds,v=>∃a vs,v=.ref a/\Rd G a (.dK (ks.zip vs))/\ks.length=vs.length/\Reps K mg G ds vs
 |.exc c as,v=>∃x C dct vs,v=.ref x/\G x=some (jB x C dct)/\fR K mg c C/\pA G dct vs/\Reps K mg G as vs
def Reps(K:xFg)(mg:Str->Option Value)(G:Hp):List D->List V->Prop
 |[],vs=>vs=[]
 |d::ds,vs=>∃v r,vs=v::r/\aQ K mg G d v/\Reps K mg G ds r
end
def CU(K:xFg)(mg:Str->Option Value)(G:Hp)(e:D)(C:Addr)(dct:Option Addr):Prop:=∃c as vs,e=.exc c as/\fR K mg c C/\pA G dct vs/\Reps K mg G as vs
section
variable{K:xFg}{mg:Str->Option Value}{G G' H H':Hp}
theorem aH.sqT{a:Addr}{xs:List V}(e:aH G G')(h:bO K G a xs):bO K G' a xs:=e.tup h
theorem aH.rd{a:Addr}{u:HO}(e:aH G G')(h:Rd G a u):Rd G' a u:=by
 rcases h with h|⟨o,h⟩
 ·exact .inl (e _ _ h)
 ·exact .inr ⟨o,e _ _ h⟩
theorem pA.mono{dct:Option Addr}{vs:List V}(e:aH G G')(h:pA G dct vs):pA G' dct vs:=by
 rcases h with h|⟨dx,v,h1,h2,h3⟩
 ·exact .inl h
 ·exact .inr ⟨dx,v,h1,h2,e _ _ h3⟩
mutual
theorem aQ.mono(e:aH G G'):∀{d:D} {v:V},aQ K mg G d v->aQ K mg G' d v
 |.non,_,h=>h
 |.bl _,_,h=>h
 |.int _,_,h=>h
 |.str _,_,h=>h
 |.ty _,_,h=>h
 |.cls _,_,h=>h
 |.tup _,_,⟨a,vs,h1,h2,h3⟩=>⟨a,vs,h1,aH.sqT e h2,Reps.mono e h3⟩
 |.lst _,_,⟨a,vs,h1,h2,h3⟩=>⟨a,vs,h1,e.seq h2,Reps.mono e h3⟩
 |.dct _ _,_,⟨a,vs,h1,h2,h3,h4⟩=>⟨a,vs,h1,aH.rd e h2,h3,Reps.mono e h4⟩
 |.exc _ _,_,⟨x,C,dct,vs,h1,h2,h3,h4,h5⟩=>⟨x,C,dct,vs,h1,e _ _ h2,h3,h4.mono e,Reps.mono e h5⟩
theorem Reps.mono(e:aH G G'):∀{ds:List D} {vs:List V},Reps K mg G ds vs->Reps K mg G' ds vs
 |[],_,h=>h
 |_::_,_,⟨v,r,h1,h2,h3⟩=>⟨v,r,h1,aQ.mono e h2,Reps.mono e h3⟩
end
theorem Reps.length:∀{ds:List D} {vs:List V},Reps K mg G ds vs->ds.length=vs.length
 |[],_,h=>by cases h;rfl
 |_::_,_,⟨v,r,h1,_,h3⟩=>by cases h1;rw[xan,xan,Reps.length h3]
theorem Reps.nil:Reps K mg G [] []:=rfl
theorem Reps.cons{d:D}{v:V}{ds:List D}{vs:List V}(h:aQ K mg G d v)(t:Reps K mg G ds vs):Reps K mg G (d::ds) (v::vs):=⟨v,vs,rfl,h,t⟩
theorem Reps.append:∀{ds es:List D} {vs ws:List V},Reps K mg G ds vs->Reps K mg G es ws->Reps K mg G (ds++es) (vs++ws)
 |[],_,_,_,h,t=>by cases h;exact t
 |_::_,_,_,_,⟨v,r,h1,h2,h3⟩,t=>by cases h1;exact⟨v,r++_,rfl,h2,h3.append t⟩
theorem Reps.get:∀{ds:List D} {vs:List V} {i:Nat} {d:D},Reps K mg G ds vs->ds[i]? = some d->∃v,vs[i]? = some v/\aQ K mg G d v
 |[],_,_,_,_,e=>by simp at e
 |_::_,_,0,_,⟨v,r,h1,h2,_⟩,e=>by simp at e;subst e;subst h1;exact⟨v,rfl,h2⟩
 |_::ds,_,i+1,d,⟨v,r,h1,_,h3⟩,e=>by
  subst h1
  obtain⟨w,e1,e2⟩:=Reps.get (i:=i) (d:=d) h3 (by simpa using e)
  exact⟨w,by simpa using e1,e2⟩
theorem Reps.drop:∀{ds:List D} {vs:List V} (n:Nat),Reps K mg G ds vs->Reps K mg G (ds.drop n) (vs.drop n)
 |_,_,0,h=>h
 |[],_,_+1,h=>by cases h;exact rfl
 |_::_,_,n+1,⟨_,_,h1,_,h3⟩=>by subst h1;exact h3.drop n
theorem Reps.take:∀{ds:List D} {vs:List V} (n:Nat),Reps K mg G ds vs->Reps K mg G (ds.take n) (vs.take n)
 |_,_,0,h=>by simp only[List.take_zero];exact rfl
 |[],_,_+1,h=>by cases h;exact rfl
 |_::_,_,n+1,⟨v,_,h1,h2,h3⟩=>by subst h1;exact⟨v,_,rfl,h2,h3.take n⟩
theorem Reps.ints(ns:List Int):Reps K mg G (ns.map D.int) (ns.map V.int):=by
 induction ns with
 |nil=>exact rfl
 |cons n r ih=>exact⟨_,_,rfl,rfl,ih⟩
theorem Reps.of_ints:∀{ns:List Int} {vs:List V},Reps K mg G (ns.map D.int) vs->vs=ns.map V.int
 |[],_,h=>h
 |_::_,_,⟨_,_,h1,h2,h3⟩=>by subst h1;cases h2;rw[Reps.of_ints h3];rfl
theorem Reps.of_bools:∀{bs:List Bool} {vs:List V},Reps K mg G (bs.map D.bl) vs->vs=bs.map V.bl
 |[],_,h=>h
 |_::_,_,⟨_,_,h1,h2,h3⟩=>by subst h1;cases h2;rw[Reps.of_bools h3];rfl
theorem Reps.at{ds:List D}{vs:List V}{i:Int}{d:D}(h:Reps K mg G ds vs)(e:eS ds i=some d):∃v,eS vs i=some v/\aQ K mg G d v:=by
 unfold eS at e ⊢
 rw[h.length] at e
 cases q:i9 vs.length i with
 |none=>rw[q] at e;cases e
 |some j=>rw[q] at e;exact h.get e
structure aN(G H G' H':Hp):Prop where
 g:aH G G'
 h:aH H H'
 e:aH G' H'
 c:∀a o,H a=some o->G a=none->G' a=none
theorem aN.refl(e:aH G H):aN G H G H:=⟨aH.refl _,aH.refl _,e,fun _ _ _ h=>h⟩
theorem aN.trans{G1 H1:Hp}(a:aN G H G1 H1)(b:aN G1 H1 G' H'):aN G H G' H':=
 ⟨a.g.trans b.g,a.h.trans b.h,b.e,fun x o p q=>b.c x o (a.h x o p) (a.c x o p q)⟩
theorem kQ{p:Addr}{o:HO}(h:H p=none):aH H (aS H p o):=T9 h o
theorem aN.pub{p:Addr}{o:HO}(e:aH G H)(h:H p=none):aN G H (aS G p o) (aS H p o):=by
 refine⟨kQ (e.free h),kQ h,fun b u q=>?_,fun a u p1 q1=>?_⟩
 ·by_cases hb:b=p
  ·subst hb;rw[cK] at q ⊢;exact q
  ·rw[bM hb] at q ⊢;exact e b u q
 ·have hb:a≠p:=cS p1 h
  rw[bM hb];exact q1
theorem aN.hid{p:Addr}{o:HO}(e:aH G H)(h:H p=none):aN G H G (aS H p o):=
 ⟨aH.refl _,kQ h,e.trans (kQ h),fun _ _ _ q=>q⟩
theorem aN.heap(e:aH G H)(h:aH H H'):aN G H G H':=⟨aH.refl _,h,e.trans h,fun _ _ _ q=>q⟩
end
abbrev DSt:=List (Option D)
structure bX(K:xFg)(mg:Str->Option Value)(Od:DSt)(O:St)(G H:Hp):Prop where
 ext:aH G H
 len:Od.length=O.length
 val:∀(i:Nat) (d:D),Od[i]? = some (some d)->∃v,O[i]? = some (some v)/\aQ K mg G d v
section
variable{K:xFg}{mg:Str->Option Value}{G G' H H':Hp}{Od:DSt}{O:St}
theorem bX.step(o:bX K mg Od O G H)(s:aN G H G' H'):bX K mg Od O G' H':=
 ⟨s.e,o.len,fun i d q=>let⟨v,h1,h2⟩:=o.val i d q;⟨v,h1,h2.mono s.g⟩⟩
theorem bX.set{i:Nat}{d:D}{v:V}(o:bX K mg Od O G H)(h:aQ K mg G d v):bX K mg (Od.set i (some d)) (O.set i (some v)) G H:=by
 refine⟨o.ext,by simp[o.len],fun j e q=>?_⟩
 by_cases hj:j=i
 ·subst hj
  have hl:j<Od.length:=by have:=(xah.mp q).1;simpa using this
  rw[xa3 hl] at q
  cases q
  exact⟨v,by rw[xa3 (by rw[<- o.len];exact hl)],h⟩
 ·rw[xai (xa6 hj)] at q ⊢
  exact o.val j e q
theorem bX.cons{x:Option D}{y:Option V}(o:bX K mg Od O G H)(h:∀d,x=some d->∃v,y=some v/\aQ K mg G d v):bX K mg (x::Od) (y::O) G H:=by
 refine⟨o.ext,by simp[o.len],fun j e q=>?_⟩
 cases j with
 |zero=>
  have q':x=some e:=by simpa using q
  obtain⟨v,h1,h2⟩:=h e q'
  exact⟨v,by simp[h1],h2⟩
 |succ j=>exact o.val j e (by simpa using q)
theorem bX.nones(o:bX K mg Od O G H):∀k:Nat,bX K mg (List.replicate k none++Od) (List.replicate k none++O) G H
 |0=>o
 |k+1=>(bX.nones o k).cons (x:=none) (y:=none) (fun d e=>by cases e)
end
section
variable(K:xFg)(mg:Str->Option Value)(E:XK)
def aM(Q:VK)(G H:Hp)(d:D):Prop:=∀v G' H',aN G H G' H'->aQ K mg G' d v->Q v H'
def jZ(Q:Bool->Hp->Prop)(G H:Hp)(b:Bool):Prop:=∀G' H',aN G H G' H'->Q b H'
def pB(Q:List V->Hp->Prop)(G H:Hp)(ds:List D):Prop:=∀vs G' H',aN G H G' H'->Reps K mg G' ds vs->Q vs H'
def lY(Q:VK)(G H:Hp)(ds:List D):Prop:=∀a vs G' H',aN G H G' H'->H a=none->H' a=some (.lst vs)->G' a=none->Reps K mg G' ds vs->Q (.ref a) H'
def aV(G H:Hp)(e:D):Prop:=∀G' H' C dct,aN G H G' H'->CU K mg G' e C dct->E (.ref C) dct H'
def tE(f:DSt->R D):TE:=fun O H Q=>∃G Od,bX K mg Od O G H/\RW (f Od) (aM K mg Q G H) (aV K mg E G H)
def tT(f:DSt->R Bool):TT:=fun O H Q=>∃G Od,bX K mg Od O G H/\RW (f Od) (jZ Q G H) (aV K mg E G H)
def wF(f:DSt->R (List D)):TA:=fun O H Q=>∃G Od,bX K mg Od O G H/\RW (f Od) (pB K mg Q G H) (aV K mg E G H)
def wG(f:DSt->R (List D)):TE:=fun O H Q=>∃G Od,bX K mg Od O G H/\RW (f Od) (lY K mg Q G H) (aV K mg E G H)
end
def DE(X:Cx)(E:XK)(e:Expr)(f:DSt->R D):Prop:=PE X e (tE X.K X.mg E f)
def DT(X:Cx)(E:XK)(e:Expr)(f:DSt->R Bool):Prop:=PT X e (tT X.K X.mg E f)
def DW(X:Cx)(E:XK)(e:Expr)(f:DSt->R Bool):Prop:=PW X e (tT X.K X.mg E f)
def DA(X:Cx)(E:XK)(es:List Expr)(f:DSt->R (List D)):Prop:=PA X es (wF X.K X.mg E f)
def DF(X:Cx)(E:XK)(e:Expr)(f:DSt->R (List D)):Prop:=PE X e (wG X.K X.mg E f)
section
variable{X:Cx}{E:XK}{K:xFg}{mg:Str->Option Value}{G G1 H H1:Hp}
theorem PE.mono'{e:Expr}{t t':TE}(h:PE X e t)(m:∀O H Q,t' O H Q->t O H Q):PE X e t':=fun pins s O H Q I q=>h pins s O H Q I (m O H Q q)
theorem PT.mono'{e:Expr}{t t':TT}(h:PT X e t)(m:∀O H Q,t' O H Q->t O H Q):PT X e t':=fun pins s O H Q I q=>h pins s O H Q I (m O H Q q)
theorem PW.mono'{e:Expr}{t t':TT}(h:PW X e t)(m:∀O H Q,t' O H Q->t O H Q):PW X e t':=fun wh pins s O H Q I q=>h wh pins s O H Q I (m O H Q q)
theorem PA.mono'{es:List Expr}{t t':TA}(h:PA X es t)(m:∀O H Q,t' O H Q->t O H Q):PA X es t':=fun pos pins s O H Q I q=>h pos pins s O H Q I (m O H Q q)
theorem PS.mono'{st:Stmt}{t t':TS}(h:PS X st t)(m:∀D O H,t' D O H->t D O H):PS X st t':=fun pins s O H D I q=>h pins s O H D I (m D O H q)
theorem dY.mono'{st:List Stmt}{t t':TS}(h:dY X st t)(m:∀D O H,t' D O H->t D O H):dY X st t':=fun pins s O H D I q=>h pins s O H D I (m D O H q)
theorem aM.step{Q:VK}{d:D}(h:aM K mg Q G H d)(s:aN G H G1 H1):aM K mg Q G1 H1 d:=fun v G' H' s' r=>h v G' H' (s.trans s') r
theorem aV.step{e:D}(h:aV K mg E G H e)(s:aN G H G1 H1):aV K mg E G1 H1 e:=fun G' H' C dct s' r=>h G' H' C dct (s.trans s') r
theorem jZ.step{Q:Bool->Hp->Prop}{b:Bool}(h:jZ Q G H b)(s:aN G H G1 H1):jZ Q G1 H1 b:=fun G' H' s'=>h G' H' (s.trans s')
theorem aM.now{Q:VK}{d:D}{v:V}(h:aM K mg Q G H d)(e:aH G H)(r:aQ K mg G d v):Q v H:=h v G H (.refl e) r
theorem DF.de{e:Expr}{f:DSt->R (List D)}(h:DF X E e f):DE X E e (fun O=>(f O).bind fun ds=>.ok (.lst ds)):=by
 refine PE.mono' h fun O H Q ⟨G,Od,ok,q⟩=>⟨G,Od,ok,q.of_bind.mono (fun ds _ q=>?_) fun _ z=>z⟩
 intro a vs G' H' s n e g r
 have q':aM X.K X.mg Q G H (.lst ds):=q
 have sg:aH G' (aS G' a (.lst vs)):=kQ g
 refine q' (.ref a) (aS G' a (.lst vs)) H' ⟨s.g.trans sg,s.h,fun b u p=>?_,fun b u p1 p2=>?_⟩ ⟨a,vs,rfl,bD.of cK,r.mono sg⟩
 ·by_cases hb:b=a
  ·subst hb;rw[cK] at p;cases p;exact e
  ·rw[bM hb] at p;exact s.e b u p
 ·have hb:b≠a:=cS p1 n
  rw[bM hb];exact s.c b u p1 p2
def aB(i:Nat):DSt->R D:=fun O=>match O[i]? with
 |some (some d)=>.ok d
 |_=>.bad
theorem U5(i:Nat){x:Str}{pos:Pos}(hN:X.N[i]? = some x:=by rfl)(hv:cT X.env.scope x:=by first|exact Or.inl rfl|exact Or.inr (Or.inl rfl)|exact Or.inr (Or.inr rfl))(hd:(x==("__debug__":Str))=false:=by decide)
  (hcd:(x==("__classdict__":Str))=false:=by decide):DE X E (.Name x pos) (aB i):=by
 refine PE.mono' (pv i hN hv hd hcd) fun O H Q ⟨G,Od,ok,q⟩=>?_
 unfold aB at q
 split at q
 ·rename_i d e
  obtain⟨v,h1,h2⟩:=ok.val i d e
  exact⟨v,h1,aM.now q ok.ext h2⟩
 ·exact q.elim
def eC(d:D):DSt->R D:=fun _=>.ok d
theorem eO{i j pos}:DE X E (.Constant (.int i) j pos) (eC (.int i)):=PE.mono' P8 fun _ _ _ ⟨_,_,ok,q⟩=>aM.now q ok.ext rfl
theorem U6{b j pos}:DE X E (.Constant (.bool b) j pos) (eC (.bl b)):=PE.mono' P9 fun _ _ _ ⟨_,_,ok,q⟩=>aM.now q ok.ext rfl
theorem pC{j pos}:DE X E (.Constant .none j pos) (eC .non):=PE.mono' QA fun _ _ _ ⟨_,_,ok,q⟩=>aM.now q ok.ext rfl
theorem sG{x j pos}:DE X E (.Constant (.str x) j pos) (eC (.str x)):=PE.mono' QB fun _ _ _ ⟨_,_,ok,q⟩=>aM.now q ok.ext rfl
theorem CV{x:Str}{d:D}{v:V}{u:Value}{pos:Pos}(hm:X.mg x=some u)(r:aR v u)(rp:∀G,aQ X.K X.mg G d v)(hg:Gl X x:=by rfl)(hd:(x==("__debug__":Str))=false:=by decide):DE X E (.Name x pos) (eC d):=
 PE.mono' (A0 hg hm r hd) fun _ _ _ ⟨_,_,ok,q⟩=>aM.now q ok.ext (rp _)
theorem CW{x:Str}{C:Addr}{pos:Pos}(hm:X.mg x=some (.ref C))(hg:Gl X x:=by rfl)(hd:(x==("__debug__":Str))=false:=by decide):DE X E (.Name x pos) (eC (.cls x)):=
 CV hm (v:=.ref C) rfl (fun _=>⟨C,rfl,hm⟩) hg hd
theorem j0{x:Str}{n:String}{pos:Pos}(hm:X.mg x=none)(hv:bootBuiltins x=some (.type n):=by rfl)(hg:Gl X x:=by rfl)(hn:x≠"__name__":=by decide)(hd:(x==("__debug__":Str))=false:=by decide):DE X E (.Name x pos) (eC (.ty n)):=
 PE.mono' (QC hg hm hv (v:=.ty n) rfl hn hd) fun _ _ _ ⟨_,_,ok,q⟩=>aM.now q ok.ext rfl
def fS(K:xFg)(mg:Str->Option Value)(r:R2)(g:D->D->R D):Prop:=
 ∀(G H:Hp) (a b:D) (x y:V) (Q:VK),aH G H->aQ K mg G a x->aQ K mg G b y->RW (g a b) (aM K mg Q G H) (fun _=>False)->r x y H Q
def aC(g:D->D->R D)(fa fb:DSt->R D):DSt->R D:=fun O=>(fa O).bind fun x=>(fb O).bind fun y=>g x y
theorem fJ{f:DSt->R D}{α:Type}{k:D->R α}{O:St}{H:Hp}{Q:VK}{P:Hp->Hp->α->Prop}{G:Hp}{Od:DSt}
  (ok:bX K mg Od O G H) (q:RW ((f Od).bind k) (P G H) (aV K mg E G H))
  (h:∀d v G' H',aN G H G' H'->bX K mg Od O G' H'->aQ K mg G' d v->RW (k d) (P G H) (aV K mg E G' H')->Q v H'):tE K mg E f O H Q:=
 ⟨G,Od,ok,q.of_bind.mono (fun d _ q v G' H' s r=>h d v G' H' s (ok.step s) r (q.mono (fun _ _ z=>z) fun e z=>z.step s)) fun _ z=>z⟩
theorem wH{α:Type}{r:R α}{Q:α->Prop}{E':D->Prop}(hr:∀e,r≠.err e)(h:RW r Q E'):RW r Q (fun _=>False):=by
 cases r with
 |ok a=>exact h
 |err e=>exact xag rfl (hr e)
 |bad=>exact h
def fT(g:D->D->R D):Prop:=∀a b e,g a b≠.err e
theorem pE{r:R2}{g:D->D->R D}(hd:fS X.K X.mg r g)(hn:fT g){fa fb:DSt->R D}{O:St}{H:Hp}{Q:VK}(h:tE X.K X.mg E (aC g fa fb) O H Q):nA r (tE X.K X.mg E fa) (tE X.K X.mg E fb) O H Q:=by
 obtain⟨G,Od,ok,q⟩:=h
 refine fJ (P:=aM X.K X.mg Q) ok q fun a x G1 H1 s1 ok1 r1 q1=>?_
 refine fJ (P:=fun _ _=>aM X.K X.mg Q G H) ok1 q1 fun b y G2 H2 s2 ok2 r2 q2=>?_
 exact hd G2 H2 a b x y Q ok2.ext (r1.mono s2.g) r2 (wH (hn a b) (q2.mono (fun _ _ z=>z.step (s1.trans s2)) fun _ z=>z))
variable{a b c:Expr}{fa fb fc:DSt->R D}{pos:Pos}
theorem lZ{op:Operator}{r:R2}{g:D->D->R D}(ho:bR X (binaryOp op) r)(hd:fS X.K X.mg r g)(hn:fT g)(ha:DE X E a fa)(hb:DE X E b fb):DE X E (.BinOp a op b pos) (aC g fa fb):=
 PE.mono' (BE ho ha hb) fun _ _ _ h=>pE hd hn h
theorem U7{op:CmpOp}{r:R2}{g:D->D->R D}(ho:bR X (compareOp op) r)(hd:fS X.K X.mg r g)(hn:fT g)(ha:DE X E a fa)(hb:DE X E b fb)(hm:behindInMarks op b=false:=by first|exact cL _ (by decide) (by decide)|rfl):DE X E (.Compare a [op] [b] pos) (aC g fa fb):=
 PE.mono' (RV ho ha hb hm) fun _ _ _ h=>pE hd hn h
def g6:D->R Bool
 |.bl b=>.ok b
 |_=>.bad
def aJ(f:DSt->R D):DSt->R Bool:=fun O=>(f O).bind g6
theorem wI{t:TE}{f:DSt->R D}(h:∀O H Q,tE X.K X.mg E f O H Q->t O H Q){O:St}{H:Hp}{Q:Bool->Hp->Prop}(q:tT X.K X.mg E (aJ f) O H Q):vS t O H Q:=by
 obtain⟨G,Od,ok,q⟩:=q
 refine h O H _ ⟨G,Od,ok,q.of_bind.mono (fun d _ q v G' H' s r=>?_) fun _ z=>z⟩
 cases d with
 |bl k=>cases r;exact⟨k,rfl,(show jZ Q G H k from q) G' H' s⟩
 |_=>exact(show False from q).elim
theorem U8{op:CmpOp}{r:R2}{g:D->D->R D}(ho:bR X (compareOp op) r)(hd:fS X.K X.mg r g)(hn:fT g)(ha:DE X E a fa)(hb:DE X E b fb)(hm:behindInMarks op b=false:=by first|exact cL _ (by decide) (by decide)|rfl):DT X E (.Compare a [op] [b] pos) (aJ (aC g fa fb)):=
 PT.mono' (RX ho ha hb hm) fun _ _ _ q=>wI (fun _ _ _ h=>pE hd hn h) q
def hR(g g':D->D->R D)(fa fb fc:DSt->R D):DSt->R D:=fun O=>(fa O).bind fun x=>(fb O).bind fun y=>(g x y).bind fun z=>(g6 z).bind fun k=>bif k then (fc O).bind fun w=>g' y w else .ok (.bl false)
theorem U9{r r':R2}{g g':D->D->R D}(hd:fS X.K X.mg r g)(hn:fT g)(hd':fS X.K X.mg r' g')(hn':fT g'){O:St}{H:Hp}{Q:VK}(h:tE X.K X.mg E (hR g g' fa fb fc) O H Q) :
  BF r r' (tE X.K X.mg E fa) (tE X.K X.mg E fb) (tE X.K X.mg E fc) O H Q:=by
 obtain⟨G,Od,ok,q⟩:=h
 refine fJ (P:=aM X.K X.mg Q) ok q fun a x G1 H1 s1 ok1 r1 q1=>?_
 refine fJ (P:=fun _ _=>aM X.K X.mg Q G H) ok1 q1 fun b y G2 H2 s2 ok2 r2 q2=>?_
 refine hd G2 H2 a b x y _ ok2.ext (r1.mono s2.g) r2 ?_
 have s12:=s1.trans s2
 cases ez:g a b with
 |bad=>rw[ez] at q2;exact q2.elim
 |err e=>exact xag ez (hn a b e)
 |ok z=>
  rw[ez] at q2
  intro v G3 H3 s3 r3
  cases z with
  |bl k=>
   cases r3
   have ok3:=ok2.step s3
   have s13:=s12.trans s3
   refine⟨k,rfl,?_⟩
   cases k with
   |false=>
    rw[xao xa1]
    have q3:aM X.K X.mg Q G H (.bl false):=q2
    exact q3 _ G3 H3 s13 rfl
   |true=>
    rw[xau rfl]
    have q3:RW ((fc Od).bind fun w=>g' b w) (aM X.K X.mg Q G H) (aV X.K X.mg E G2 H2):=q2
    refine fJ (k:=fun w=>g' b w) (P:=fun _ _=>aM X.K X.mg Q G H) ok3 (q3.mono (fun _ _ z=>z) fun _ z=>z.step s3) fun c w G4 H4 s4 ok4 r4 q4=>?_
    exact hd' G4 H4 b c y w Q ok4.ext (r2.mono (s3.g.trans s4.g)) r4 (wH (hn' b c) (q4.mono (fun _ _ z=>z.step (s13.trans s4)) fun _ z=>z))
  |_=>exact(show False from q2).elim
theorem VA{op op':CmpOp}{r r':R2}{g g':D->D->R D}(ho:bR X (compareOp op) r)(hd:fS X.K X.mg r g)(hn:fT g)(ho':bR X (compareOp op') r')(hd':fS X.K X.mg r' g')(hn':fT g')(ha:DE X E a fa)(hb:DE X E b fb)(hc:DE X E c fc)
  (hm:lastMarks [op,op'] [b,c]=false:=by with_unfolding_all rfl):DT X E (.Compare a [op,op'] [b,c] pos) (aJ (hR g g' fa fb fc)):=
 PT.mono' (RY ho ho' ha hb hc hm) fun _ _ _ q=>wI (fun _ _ _ h=>U9 hd hn hd' hn' h) q
theorem kR{e:Expr}{f:DSt->R D}(h:DE X E e f)(he:∀whole,isTrue e X.env whole=(do let v<-whole;standAt e.pos;holding [v] (truthy v)):=by intro _;rfl):DT X E e (aJ f):=
 PT.mono' (QD h he) fun O H Q q=>wI (t:=tE X.K X.mg E f) (fun _ _ _ h=>h) q
theorem DW.dt{e:Expr}{f:DSt->R Bool}(h:DW X E e f):DT X E e f:=h _
variable{rest:List Expr}{ga gb:DSt->R Bool}
def eP(fa fb:DSt->R Bool):DSt->R Bool:=fun O=>(fa O).bind fun k=>bif k then fb O else .ok false
def fU(fa fb:DSt->R Bool):DSt->R Bool:=fun O=>(fa O).bind fun k=>bif k then .ok true else fb O
def eU(fa:DSt->R Bool):DSt->R Bool:=fun O=>(fa O).bind fun k=>.ok (!k)
theorem wJ{f:DSt->R Bool}{α:Type}{k:Bool->R α}{O:St}{H:Hp}{Q:Bool->Hp->Prop}{P:α->Prop}{G:Hp}{Od:DSt}
  (ok:bX K mg Od O G H) (q:RW ((f Od).bind k) P (aV K mg E G H))
  (h:∀b G' H',aN G H G' H'->bX K mg Od O G' H'->RW (k b) P (aV K mg E G' H')->Q b H'):tT K mg E f O H Q:=
 ⟨G,Od,ok,q.of_bind.mono (fun d _ q G' H' s=>h d G' H' s (ok.step s) (q.mono (fun _ _ z=>z) fun e z=>z.step s)) fun _ z=>z⟩
theorem nH(ha:DT X E a ga):DW X E (.BoolOp .And [a] pos) ga:=QH ha
theorem kS(ha:DT X E a ga):DW X E (.BoolOp .Or [a] pos) ga:=QI ha
theorem j5(ha:DT X E a ga)(hb:DW X E (.BoolOp .And (b::rest) pos) gb):DW X E (.BoolOp .And (a::b::rest) pos) (eP ga gb):=by
 refine PW.mono' (QJ ha hb) fun O H Q ⟨G,Od,ok,q⟩=>?_
 refine wJ ok q fun k G' H' s ok' q'=>?_
 cases k with
 |true=>rw[xau rfl];exact⟨G',Od,ok',q'.mono (fun _ _ z=>z.step s) fun _ z=>z⟩
 |false=>rw[xao xa1];exact(show jZ Q G H false from q') G' H' s
theorem l0(ha:DT X E a ga)(hb:DW X E (.BoolOp .Or (b::rest) pos) gb):DW X E (.BoolOp .Or (a::b::rest) pos) (fU ga gb):=by
 refine PW.mono' (QK ha hb) fun O H Q ⟨G,Od,ok,q⟩=>?_
 refine wJ ok q fun k G' H' s ok' q'=>?_
 cases k with
 |true=>rw[xau rfl];exact(show jZ Q G H true from q') G' H' s
 |false=>rw[xao xa1];exact⟨G',Od,ok',q'.mono (fun _ _ z=>z.step s) fun _ z=>z⟩
theorem kT(ha:DT X E a ga):DT X E (.UnaryOp .Not a pos) (eU ga):=by
 refine PT.mono' (QL ha) fun O H Q ⟨G,Od,ok,q⟩=>?_
 exact wJ ok q fun k G' H' s _ q'=>(show jZ Q G H (!k) from q') G' H' s
def hU(fa fb:DSt->R D):DSt->R D:=fun O=>(fa O).bind fun x=>(g6 x).bind fun k=>bif k then fb O else .ok (.bl false)
def vOr(fa fb:DSt->R D):DSt->R D:=fun O=>(fa O).bind fun x=>(g6 x).bind fun k=>bif k then .ok (.bl true) else fb O
def wK(fa:DSt->R D):DSt->R D:=fun O=>(fa O).bind fun x=>(g6 x).bind fun k=>.ok (.bl !k)
theorem wL{op}{f:DSt->R D}(h:DE X E a f):DE X E (.BoolOp op [a] pos) f:=QO h
theorem nI(ha:DE X E a fa)(hb:DE X E (.BoolOp .And (b::rest) pos) fb):DE X E (.BoolOp .And (a::b::rest) pos) (hU fa fb):=by
 refine PE.mono' (QP ha hb) fun O H Q ⟨G,Od,ok,q⟩=>?_
 refine fJ (P:=aM X.K X.mg Q) ok q fun d v G' H' s ok' r q'=>?_
 cases d with
 |bl k=>
  cases r
  refine⟨k,rfl,?_⟩
  cases k with
  |true=>rw[xau rfl];exact⟨G',Od,ok',q'.mono (fun _ _ z=>z.step s) fun _ z=>z⟩
  |false=>rw[xao xa1];exact(show aM X.K X.mg Q G H (.bl false) from q') _ G' H' s rfl
 |_=>exact(show False from q').elim
theorem VC(ha:DE X E a fa):DE X E (.UnaryOp .Not a pos) (wK fa):=by
 refine PE.mono' (QQ ha) fun O H Q ⟨G,Od,ok,q⟩=>?_
 refine fJ (P:=aM X.K X.mg Q) ok q fun d v G' H' s ok' r q'=>?_
 cases d with
 |bl k=>cases r;exact⟨k,rfl,(show aM X.K X.mg Q G H (.bl !k) from q') _ G' H' s rfl⟩
 |_=>exact(show False from q').elim
def eIf(c:DSt->R Bool)(fa fb:DSt->R D):DSt->R D:=fun O=>(c O).bind fun k=>bif k then fa O else fb O
def UnD(K:xFg)(mg:Str->Option Value)(r:V->Hp->VK->Prop)(g:D->R D):Prop:=
 ∀(G H:Hp) (a:D) (x:V) (Q:VK),aH G H->aQ K mg G a x->RW (g a) (aM K mg Q G H) (fun _=>False)->r x H Q
def fD(g:D->R D)(fa:DSt->R D):DSt->R D:=fun O=>(fa O).bind g
theorem VF{op:UnaryOp}{r:V->Hp->VK->Prop}{g:D->R D}(ho:rP X (unaryOp op) r)(hd:UnD X.K X.mg r g)(hn:∀a e,g a≠.err e)(ha:DE X E a fa):DE X E (.UnaryOp op a pos) (fD g fa):=by
 refine PE.mono' (RF ho ha) fun O H Q ⟨G,Od,ok,q⟩=>?_
 refine fJ (P:=aM X.K X.mg Q) ok q fun d v G' H' s ok' r q'=>?_
 exact hd G' H' d v Q ok'.ext r (wH (hn d) (q'.mono (fun _ _ z=>z.step s) fun _ z=>z))
def aD:DSt->R (List D):=fun _=>.ok []
def aA(fa:DSt->R D)(fs:DSt->R (List D)):DSt->R (List D):=fun O=>(fa O).bind fun x=>(fs O).bind fun xs=>.ok (x::xs)
variable{es:List Expr}{fs:DSt->R (List D)}
theorem eA:DA X E [] aD:=PA.mono' iM fun O H Q ⟨G,Od,ok,q⟩=>(show pB X.K X.mg Q G H [] from q) [] G H (.refl ok.ext) Reps.nil
theorem cM(ha:DE X E a fa)(hr:DA X E es fs)(hs:starEach (a::es) X.env=(false,eval a X.env)::starEach es X.env:=by rfl):DA X E (a::es) (aA fa fs):=by
 refine PA.mono' (dZ ha hr hs) fun O H Q ⟨G,Od,ok,q⟩=>?_
 refine fJ (P:=pB X.K X.mg Q) ok q fun d v G' H' s ok' r q'=>?_
 refine⟨G',Od,ok',q'.of_bind.mono (fun ds _ z vs G2 H2 s2 r2=>?_) fun _ z=>z⟩
 exact(show pB X.K X.mg Q G H (d::ds) from z) _ G2 H2 (s.trans s2) (Reps.cons (r.mono s2.g) r2)
def jC(n:Nat):Bool:=decide (n<=1000)
theorem wM{n:Nat}(h:jC n=true):n<=sizeLine:=UA (xaj h)
def fE(fs:DSt->R (List D)):DSt->R D:=fun O=>(fs O).bind fun ds=>bif jC ds.length then .ok (.tup ds) else .bad
theorem CY{α:Type}{k:List D->R α}{O:St}{H:Hp}{Q:List V->Hp->Prop}{P:α->Prop}{G:Hp}{Od:DSt}
  (ok:bX K mg Od O G H) (q:RW ((fs Od).bind k) P (aV K mg E G H))
  (h:∀ds vs G' H',aN G H G' H'->bX K mg Od O G' H'->Reps K mg G' ds vs->RW (k ds) P (aV K mg E G' H')->Q vs H'):wF K mg E fs O H Q:=
 ⟨G,Od,ok,q.of_bind.mono (fun ds _ q vs G' H' s r=>h ds vs G' H' s (ok.step s) r (q.mono (fun _ _ z=>z) fun e z=>z.step s)) fun _ z=>z⟩
theorem VG{x1}(h:DA X E es fs):DE X E (.Tuple es x1 pos) (fE fs):=by
 refine PE.mono' (rV h) fun O H Q ⟨G,Od,ok,q⟩=>?_
 refine CY (P:=aM X.K X.mg Q G H) ok q fun ds vs G' H' s ok' r q'=>?_
 cases hf:jC ds.length with
 |false=>rw[hf] at q';exact(show False from q').elim
 |true=>
  rw[hf] at q'
  have q2:aM X.K X.mg Q G H (.tup ds):=q'
  refine⟨by rw[<- r.length];exact wM hf,fun p hp=>?_⟩
  have s2:aN G' H' (aS G' p (.tup vs)) (aS H' p (.tup vs)):=.pub ok'.ext hp
  exact q2 _ _ _ (s.trans s2) ⟨p,vs,rfl,bO.of cK,r.mono s2.g⟩
def bP(fs:DSt->R (List D)):DSt->R (List D):=fun O=>(fs O).bind fun ds=>bif jC ds.length then .ok ds else .bad
theorem VH(h:DA X E es fs):DF X E (.List es pos) (bP fs):=by
 refine PE.mono' (R9 h) fun O H Q ⟨G,Od,ok,q⟩=>?_
 refine CY (P:=lY X.K X.mg Q G H) ok q fun ds vs G' H' s ok' r q'=>?_
 cases hf:jC ds.length with
 |false=>rw[hf] at q';exact(show False from q').elim
 |true=>
  rw[hf] at q'
  have q2:lY X.K X.mg Q G H ds:=q'
  refine⟨by rw[<- r.length];exact wM hf,fun p hp=>?_⟩
  exact q2 p vs G' _ (s.trans (.hid ok'.ext hp)) (s.h.free hp) cK (ok'.ext.free hp) r
def aW:D->D->R D
 |.tup xs,.int i=>match eS xs i with
  |some d=>.ok d
  |none=>.bad
 |.lst xs,.int i=>match eS xs i with
  |some d=>.ok d
  |none=>.bad
 |_,_=>.bad
theorem VI:fT aW:=by
 intro a b e h
 cases a<;>cases b<;>simp only[aW] at h<;>first|exact xag h (by simp)|(split at h<;>cases h)
theorem VJ:fS K mg (fun x y H Q=>BY K x y H Q\/BZ K x y H Q) aW:=by
 intro G H a b x y Q e ra rb q
 cases b with
 |int i=>
  cases rb
  cases a with
  |lst xs=>
   obtain⟨p,vs,rfl,h1,h2⟩:=ra
   cases ed:eS xs i with
   |none=>simp only[aW,ed] at q;exact q.elim
   |some d=>
    simp only[aW,ed] at q
    obtain⟨v,h3,h4⟩:=h2.at ed
    exact .inl ⟨p,vs,i,v,rfl,rfl,e.seq h1,h3,aM.now q e h4⟩
  |tup xs=>
   obtain⟨p,vs,rfl,h1,h2⟩:=ra
   cases ed:eS xs i with
   |none=>simp only[aW,ed] at q;exact q.elim
   |some d=>
    simp only[aW,ed] at q
    obtain⟨v,h3,h4⟩:=h2.at ed
    exact .inr ⟨p,vs,i,v,rfl,rfl,aH.sqT e h1,h3,aM.now q e h4⟩
  |_=>exact(show False from q).elim
 |_=>cases a<;>exact(show False from q).elim
theorem VL(ha:DE X E a fa)(hb:DE X E b fb)(hs:BW b:=by intro _ _;rfl):DE X E (.Subscript a b pos) (aC aW fa fb):=
 PE.mono' (SW (SX.or SY) ha hb hs) fun _ _ _ h=>pE VJ VI h
end
def l5(K:xFg)(mg:Str->Option Value)(m:List D->R D):Sp:=fun vs H Q E=>∃G ds,aH G H/\Reps K mg G ds vs/\RW (m ds) (aM K mg Q G H) (aV K mg E G H)
structure aU(P:Program)(w:World)(K:xFg)(mg:Str->Option Value)(base:Heap)(k:Nat)(x:Str)(m:List D->R D):Prop where
 ex:∃(f:Addr) (fd:FuncData) (ps:List Str),dN P w K mg base (cC P w) k f fd ps (l5 K mg m)/\mg x=some (.ref f)/\PySem.W.keepIn K (.ref f)=true/\iN K fd ps []
theorem aU.mono{P:Program}{w:World}{K:xFg}{mg:Str->Option Value}{base:Heap}{j k:Nat}{x:Str}{m:List D->R D}(F:aU P w K mg base j x m)(h:j<=k):aU P w K mg base k x m:=by
 obtain⟨f,fd,ps,h1,h2⟩:=F.ex
 exact⟨f,fd,ps,h1.mono h,h2⟩
structure XC(X:Cx)(E:XK)(k:Nat):Prop where
 calm:X.calm=true
 room:c6 k X.A
 pass:nB (cC X.prog X.w) X E
def a7(m:List D->R D)(fs:DSt->R (List D)):DSt->R D:=fun O=>(fs O).bind m
def hV(K:xFg)(mg:Str->Option Value)(r:List V->Hp->VK->Prop)(g:List D->R D):Prop:=
 ∀(G H:Hp) (ds:List D) (vs:List V) (Q:VK),aH G H->Reps K mg G ds vs->RW (g ds) (aM K mg Q G H) (fun _=>False)->r vs H Q
def R.noerr{α:Type}:R α->R α
 |.ok a=>.ok a
 |_=>.bad
def aG(g:List D->R D)(fs:DSt->R (List D)):DSt->R D:=fun O=>(fs O).bind fun ds=>(g ds).noerr
theorem nJ{α:Type}{r:R α}{Q:α->Prop}{E':D->Prop}(h:RW r.noerr Q E'):∃a,r=.ok a/\Q a:=by
 cases r with
 |ok a=>exact⟨a,rfl,h⟩
 |err e=>exact(show False from h).elim
 |bad=>exact(show False from h).elim
section
variable{X:Cx}{E:XK}{k:Nat}{x:Str}{m:List D->R D}{p pos:Pos}{e:Expr}{es:List Expr}{fs:DSt->R (List D)}
theorem VM(C:XC X E k)(F:aU X.prog X.w X.K X.mg X.base k x m)(ha:DA X E (e::es) fs)(hg:Gl X x:=by rfl)(hdb:(x==("__debug__":Str))=false:=by decide)
  (he:starEach (e::es) X.env=(false,eval e X.env)::starEach es X.env:=by rfl) (hpl:(backTo pos (starEach es X.env)).any (·.1)=false:=by rfl):DE X E (.Call (.Name x p) (e::es) [] pos) (a7 m fs):=by
 obtain⟨f,fd,ps,h1,h2,h3,h4⟩:=F.ex
 refine PE.mono' (vT h1 C.room hg h2 h3 h4 .nil C.pass ha hdb he hpl) fun O H Q ⟨G,Od,ok,q⟩=>?_
 refine⟨G,Od,ok,q.of_bind.mono (fun ds hds z vs G' H' s r=>?_) fun _ z=>z⟩
 show l5 X.K X.mg m (vs++[]) H' Q E
 rw[xbh]
 exact⟨G',ds,s.e,r,z.mono (fun _ _ z=>z.step s) fun _ z=>z.step s⟩
theorem VN(C:XC X E k)(F:aU X.prog X.w X.K X.mg X.base k x m)(hg:Gl X x:=by rfl)(hdb:(x==("__debug__":Str))=false:=by decide):DE X E (.Call (.Name x p) [] [] pos) (a7 m aD):=by
 obtain⟨f,fd,ps,h1,h2,h3,h4⟩:=F.ex
 refine PE.mono' (SA h1 C.room hg h2 h3 h4 .nil C.pass hdb) fun O H Q ⟨G,Od,ok,q⟩=>?_
 exact⟨G,[],ok.ext,Reps.nil,q⟩
theorem pF{id:String}{r:List V->Hp->VK->Prop}{g:List D->R D}(hc:eR X (.builtin id) r)(hd:hV X.K X.mg r g)(hm:X.mg x=none)(hv:bootBuiltins x=some (.builtin id))(ha:DA X E (e::es) fs)(hg:Gl X x:=by rfl)(hn:x≠"__name__":=by decide)(hdb:(x==("__debug__":Str))=false:=by decide)
  (he:starEach (e::es) X.env=(false,eval e X.env)::starEach es X.env:=by rfl) (hpl:(backTo pos (starEach es X.env)).any (·.1)=false:=by rfl):DE X E (.Call (.Name x p) (e::es) [] pos) (aG g fs):=by
 refine PE.mono' (SD hc hg hm hv ha hn hdb he hpl) fun O H Q ⟨G,Od,ok,q⟩=>?_
 refine⟨G,Od,ok,q.of_bind.mono (fun ds _ z vs G' H' s r=>?_) fun _ z=>z⟩
 obtain⟨d,e1,z⟩:=nJ z
 exact hd G' H' ds vs Q s.e r (by rw[e1];exact z.step s)
theorem wN{T:String}{r:List V->Hp->VK->Prop}{g:List D->R D}(hc:eR X (.type T) r)(hd:hV X.K X.mg r g)(hm:X.mg x=none)(ha:DA X E (e::es) fs)(hv:bootBuiltins x=some (.type T):=by rfl)(hg:Gl X x:=by rfl)(hn:x≠"__name__":=by decide)(hdb:(x==("__debug__":Str))=false:=by decide)
  (he:starEach (e::es) X.env=(false,eval e X.env)::starEach es X.env:=by rfl) (hpl:(backTo pos (starEach es X.env)).any (·.1)=false:=by rfl):DE X E (.Call (.Name x p) (e::es) [] pos) (aG g fs):=by
 refine PE.mono' (SE hc hg hm hv ha hn hdb he hpl) fun O H Q ⟨G,Od,ok,q⟩=>?_
 refine⟨G,Od,ok,q.of_bind.mono (fun ds _ z vs G' H' s r=>?_) fun _ z=>z⟩
 obtain⟨d,e1,z⟩:=nJ z
 exact hd G' H' ds vs Q s.e r (by rw[e1];exact z.step s)
end
def setAll{α:Type}:List (Option α)->List Nat->List α->List (Option α)
 |O,k::ks,v::vs=>setAll (O.set k (some v)) ks vs
 |O,_,_=>O
theorem CZ{α:Type}:∀(ks:List Nat) (O:List (Option α)) (vs:List α),(setAll O ks vs).length=O.length
 |[],_,_=>by unfold setAll;rfl
 |_::_,_,[]=>by unfold setAll;rfl
 |_::ks,O,_::vs=>by unfold setAll;rw[CZ ks];simp
theorem C0{α:Type}{j:Nat}:∀(ks:List Nat) (O:List (Option α)) (vs:List α),j∉ks->(setAll O ks vs)[j]? = O[j]?
 |[],_,_,_=>by unfold setAll;rfl
 |_::_,_,[],_=>by unfold setAll;rfl
 |k::ks,O,_::vs,h=>by
  unfold setAll
  rw[C0 ks _ vs fun z=>h (xar _ z),xai (fun z=>h (by rw[<- z];exact xa4))]
def tG(K:xFg)(mg:Str->Option Value)(ks:List Nat)(gp:D->R (List D)):TG:=fun v O H Q=>∃G d,aH G H/\aQ K mg G d v/\RW (gp d) (fun us=>∀ws,Reps K mg G us ws->Q (setAll O ks ws) H) (fun _=>False)
def DG(X:Cx)(tg:Expr)(ks:List Nat)(gp:D->R (List D)):Prop:=PG X tg (tG X.K X.mg ks gp)
def bQ:D->R (List D):=fun d=>.ok [d]
def dI(n:Nat):D->R (List D)
 |.tup ds=>bif ds.length==n then .ok ds else .bad
 |.lst ds=>bif ds.length==n then .ok ds else .bad
 |_=>.bad
section
variable{X:Cx}{pos:Pos}
theorem PG.mono'{tg:Expr}{t t':TG}(h:PG X tg t)(m:∀v O H Q,t' v O H Q->t v O H Q):PG X tg t':=fun pins s O H v u Q I r q=>h pins s O H v u Q I r (m v O H Q q)
theorem PG.or{tg:Expr}{t t':TG}(h:PG X tg t)(h':PG X tg t'):PG X tg (fun v O H Q=>t v O H Q\/t' v O H Q):=fun pins s O H v u Q I r q=>by
 rcases q with q|q
 ·exact h pins s O H v u Q I r q
 ·exact h' pins s O H v u Q I r q
theorem VO(i:Nat){x:Str}(hN:X.N.Nodup)(hi:X.N[i]? = some x:=by rfl)(hx:iL X.env.scope x:=by first|exact Or.inl rfl|exact Or.inr rfl)(hf:X.fn x=true\/X.env.scope.names.lookup x=some .local:=by first|exact .inl rfl|exact .inr rfl|assumption):DG X (.Name x pos) [i] bQ:=
 PG.mono' (A5 hN hi hx hf) fun v O H Q ⟨G,d,e,r,q⟩=>by
  have q':=(show ∀ws,Reps X.K X.mg G [d] ws->Q (setAll O [i] ws) H from q) [v] (Reps.cons r Reps.nil)
  exact q'
def wO:List Nat->i6
 |[]=>A6
 |i::r=>A7 (oW i) (wO r)
theorem wP:∀(ks:List Nat) (vs:List V) (O:St) (H:Hp) (Q:St->Hp->Prop),vs.length=ks.length->Q (setAll O ks vs) H->wO ks vs O H Q
 |[],[],_,_,_,_,q=>⟨rfl,q⟩
 |i::r,v::vs,O,H,Q,hl,q=>⟨v,vs,rfl,wP r vs _ H Q (by simpa using hl) q⟩
theorem VP{es:List Expr}{k:Nat}(ks:List Nat)(n:Nat)(hc:X.calm=true)(h:mZ X es (wO ks))(hk:ks.length=n:=by rfl)
  (hn:(assignEach es X.env).length=n:=by rfl) (hst:(assignEach es X.env).findIdx? (·.1)=none:=by rfl):DG X (.Tuple es k pos) ks (dI n):=by
 refine PG.mono' (PG.or (Q1 hc h hn hst) (T8 hc h hn hst)) fun v O H Q ⟨G,d,e,r,q⟩=>?_
 cases d with
 |tup ds=>
  obtain⟨a,vs,rfl,h1,h2⟩:=r
  by_cases hd:ds.length=n
  ·have q':∀ws,Reps X.K X.mg G ds ws->Q (setAll O ks ws) H:=by
    simp only[dI,hd,beq_self_eq_true,cond_true] at q;exact q
   exact .inl ⟨a,vs,rfl,aH.sqT e h1,by rw[<- h2.length];exact hd,wP ks vs O H Q (by rw[<- h2.length,hd,hk]) (q' vs h2)⟩
  ·have:(ds.length==n)=false:=by simpa using hd
   simp only[dI,this,cond_false] at q;exact q.elim
 |lst ds=>
  obtain⟨a,vs,rfl,h1,h2⟩:=r
  by_cases hd:ds.length=n
  ·have q':∀ws,Reps X.K X.mg G ds ws->Q (setAll O ks ws) H:=by
    simp only[dI,hd,beq_self_eq_true,cond_true] at q;exact q
   exact .inr ⟨a,vs,rfl,e.seq h1,by rw[<- h2.length];exact hd,wP ks vs O H Q (by rw[<- h2.length,hd,hk]) (q' vs h2)⟩
  ·have:(ds.length==n)=false:=by simpa using hd
   simp only[dI,this,cond_false] at q;exact q.elim
 |_=>exact(show False from q).elim
end
theorem bX.setAll{K:xFg}{mg:Str->Option Value}{G H:Hp}:∀{ks:List Nat} {us:List D} {ws:List V} {Od:DSt} {O:St},bX K mg Od O G H->Reps K mg G us ws->bX K mg (setAll Od ks us) (setAll O ks ws) G H
 |[],_,_,_,_,o,_=>by unfold DL.setAll;exact o
 |_::_,[],_,_,_,o,h=>by cases h;unfold DL.setAll;exact o
 |k::ks,_::_,_,_,_,o,⟨v,r,h1,h2,h3⟩=>by subst h1;unfold DL.setAll;exact bX.setAll (o.set h2) h3
structure fK(K:xFg)(mg:Str->Option Value)(J:It)(G:Hp)(ds:List D):Prop where
 stop:∀H,aH G H->J.stop ds.length H
 turn:∀(H:Hp) (i:Nat) (d:D),aH G H->ds[i]? = some d->J.go i H/\∀x H',J.yld i H x H'->∀G1,aH G G1->aH G1 H->∃G2,aN G1 H G2 H'/\aQ K mg G2 d x
def tI(K:xFg)(mg:Str->Option Value)(E:XK)(f:DSt->R (List D)):TI:=fun O H R=>∃G Od,bX K mg Od O G H/\RW (f Od) (fun ds=>∀J G' H',aN G H G' H'->fK K mg J G' ds->R J H') (aV K mg E G H)
def DI(X:Cx)(E:XK)(tg iter:Expr)(f:DSt->R (List D)):Prop:=PI X tg iter (tI X.K X.mg E f)
section
variable{X:Cx}{E:XK}{tg:Expr}
theorem PI.mono'{iter:Expr}{t t':TI}(h:PI X tg iter t)(m:∀O H R,t' O H R->t O H R):PI X tg iter t':=fun pins s O H R I q=>h pins s O H R I (m O H R q)
theorem fK.list{K:xFg}{mg:Str->Option Value}{G:Hp}{a:Addr}{vs:List V}{ds:List D}(h:bD K G a vs)(r:Reps K mg G ds vs):fK K mg (m8 K a) G ds:=by
 refine⟨fun H e=>by rw[r.length];exact(lgo (e.seq h)).1,fun H i d e hd=>?_⟩
 have hi:i<vs.length:=by rw[<- r.length];exact(xah.mp hd).1
 obtain⟨g1,g2⟩:=(lgo (e.seq h)).2 i hi
 refine⟨g1,fun x H' y G1 e1 e2=>?_⟩
 obtain⟨rfl,hx⟩:=g2 x H' y
 obtain⟨v,h1,h2⟩:=r.get hd
 rw[hx] at h1;cases h1
 exact⟨G1,.refl e2,h2.mono e1⟩
theorem fK.tup{K:xFg}{mg:Str->Option Value}{G:Hp}{a:Addr}{vs:List V}{ds:List D}(h:bO K G a vs)(r:Reps K mg G ds vs):fK K mg (m9 K a) G ds:=by
 refine⟨fun H e=>by rw[r.length];exact(tgo (aH.sqT e h)).1,fun H i d e hd=>?_⟩
 have hi:i<vs.length:=by rw[<- r.length];exact(xah.mp hd).1
 obtain⟨g1,g2⟩:=(tgo (aH.sqT e h)).2 i hi
 refine⟨g1,fun x H' y G1 e1 e2=>?_⟩
 obtain⟨rfl,hx⟩:=g2 x H' y
 obtain⟨v,h1,h2⟩:=r.get hd
 rw[hx] at h1;cases h1
 exact⟨G1,.refl e2,h2.mono e1⟩
def cH(lo:Int)(n:Nat):List D:=(List.range n).map fun (i:Nat)=>D.int (lo+(i:Int))
theorem fK.rng{K:xFg}{mg:Str->Option Value}{G:Hp}(lo:Int)(n:Nat):fK K mg (oX lo n) G (cH lo n):=by
 have hl:(cH lo n).length=n:=by simp[cH]
 refine⟨fun H e=>by rw[hl];exact xaf _,fun H i d e hd=>?_⟩
 have hi:i<n:=by have:=(xah.mp hd).1;omega
 refine⟨hi,fun x H' y G1 e1 e2=>?_⟩
 obtain⟨rfl,rfl⟩:=y
 have:d=.int (lo+(i:Int)):=by simp[cH,hi] at hd;exact hd.symm
 subst this
 exact⟨G1,.refl e2,rfl⟩
def C1:D->R (List D)
 |.tup ds=>.ok ds
 |.lst ds=>.ok ds
 |_=>.bad
def hZ(f:DSt->R D):DSt->R (List D):=fun O=>(f O).bind C1
theorem VQ{l:Expr}{f:DSt->R D}(hl:DE X E l f):DI X E tg l (hZ f):=by
 have hL:PI X tg l (BA X.K (tE X.K X.mg E f)):=Q6 hl
 have hT:PI X tg l (BB X.K (tE X.K X.mg E f)):=Q7 hl
 intro pins s O H R I ⟨G,Od,ok,q⟩
 cases hf:f Od with
 |bad=>unfold hZ at q;rw[hf] at q;exact(show False from q).elim
 |err e=>
  unfold hZ at q;rw[hf] at q
  refine hL pins s O H R I ⟨G,Od,ok,?_⟩
  rw[hf];exact q
 |ok d=>
  unfold hZ at q;rw[hf] at q
  cases d with
  |lst ds=>
   have q':∀J G' H',aN G H G' H'->fK X.K X.mg J G' ds->R J H':=q
   refine hL pins s O H R I ⟨G,Od,ok,?_⟩
   rw[hf]
   rintro v G' H' st ⟨a,vs,rfl,h1,h2⟩
   exact⟨a,rfl,⟨vs,st.e.seq h1⟩,q' _ G' H' st (.list h1 h2)⟩
  |tup ds=>
   have q':∀J G' H',aN G H G' H'->fK X.K X.mg J G' ds->R J H':=q
   refine hT pins s O H R I ⟨G,Od,ok,?_⟩
   rw[hf]
   rintro v G' H' st ⟨a,vs,rfl,h1,h2⟩
   exact⟨a,rfl,⟨vs,aH.sqT st.e h1⟩,q' _ G' H' st (.tup h1 h2)⟩
  |_=>exact(show False from q).elim
def fL(i:Int):Bool:=Nat.blt i.natAbs 1073741824
theorem wQ{i:Int}(h:fL i=true):-(2^30)<=i/\i<2^30:=by
 unfold fL at h
 rw[Nat.blt_eq] at h
 omega
def iA:List D->R (List D)
 |[.int j]=>bif fL j then .ok (cH 0 j.toNat) else .bad
 |_=>.bad
def nK:List D->R (List D)
 |[.int i,.int j]=>bif fL i&&fL j then .ok (cH i (j-i).toNat) else .bad
 |_=>.bad
def eV(g:List D->R (List D))(fs:DSt->R (List D)):DSt->R (List D):=fun O=>(fs O).bind g
variable{fs:DSt->R (List D)}{a b c:Expr}{p pos:Pos}
theorem VR(hm:X.mg "range"=none)(ha:DA X E [a] fs)(hg:Gl X "range":=by rfl)(hs:starEach [a] X.env=[(false,eval a X.env)]:=by rfl):DI X E tg (.Call (.Name "range" p) [a] [] pos) (eV iA fs):=by
 refine PI.mono' (RA hg hm ha hs) fun O H R ⟨G,Od,ok,q⟩=>?_
 refine⟨G,Od,ok,q.of_bind.mono (fun ds _ z vs G' H' s r=>?_) fun _ z=>z⟩
 match ds,z,r with
 |[.int j],z,r=>
  obtain rfl:=Reps.of_ints (ns:=[j]) r
  cases hj:fL j with
  |false=>simp only[iA,hj,cond_false] at z;exact z.elim
  |true=>
   simp only[iA,hj,cond_true] at z
   have:=wQ hj
   exact⟨j,rfl,by omega,by omega,z _ G' H' s (.rng 0 _)⟩
theorem VS(hm:X.mg "range"=none)(ha:DA X E [a,b] fs)(hg:Gl X "range":=by rfl)(hs:starEach [a,b] X.env=[(false,eval a X.env),(false,eval b X.env)]:=by rfl)(hs2:starEach [b] X.env=[(false,eval b X.env)]:=by rfl) :
  DI X E tg (.Call (.Name "range" p) [a,b] [] pos) (eV nK fs):=by
 refine PI.mono' (RB hg hm ha hs hs2) fun O H R ⟨G,Od,ok,q⟩=>?_
 refine⟨G,Od,ok,q.of_bind.mono (fun ds _ z vs G' H' s r=>?_) fun _ z=>z⟩
 match ds,z,r with
 |[.int i,.int j],z,r=>
  obtain rfl:=Reps.of_ints (ns:=[i,j]) r
  cases hj:(fL i&&fL j) with
  |false=>simp only[nK,hj,cond_false] at z;exact z.elim
  |true=>
   simp only[nK,hj,cond_true] at z
   rw[xax] at hj
   have h1:=wQ hj.1
   have h2:=wQ hj.2
   exact⟨i,j,rfl,⟨by omega,by omega,by omega,by omega⟩,z _ G' H' s (.rng i _)⟩
end
def fM(ks:List Nat)(gp:D->R (List D))(c:DSt->R Bool)(e:DSt->R D)(O:DSt):List D->R (List D)
 |[]=>.ok []
 |d::ds=>(gp d).bind fun us=>(c (setAll O ks us)).bind fun k=>bif k then (e (setAll O ks us)).bind fun y=>(fM ks gp c e O ds).bind fun ys=>.ok (y::ys) else fM ks gp c e O ds
def most(n:Nat):Bool:=decide (n<sizeLine)
def fF(k:Nat)(ks:List Nat)(fi:DSt->R (List D))(gp:D->R (List D))(c:DSt->R Bool)(e:DSt->R D):DSt->R (List D):=fun O=>(fi O).bind fun ds=>bif most ds.length then (fM ks gp c e (List.replicate k none++O) ds).noerr else .bad
def jD:DSt->R Bool:=fun _=>.ok true
def wR(X:Cx)(E:XK)(cs:List Expr)(f:DSt->R Bool):Prop:=jY X cs (tT X.K X.mg E f)
theorem jY.mono'{X:Cx}{cs:List Expr}{t t':TT}(h:jY X cs t)(m:∀O H Q,t' O H Q->t O H Q):jY X cs t':=fun pins s O H Q I q=>h pins s O H Q I (m O H Q q)
theorem wS{X:Cx}{E:XK}:wR X E [] jD:=jY.mono' TV fun O H Q ⟨G,Od,ok,q⟩=>(show jZ Q G H true from q) G H (.refl ok.ext)
theorem wT{X:Cx}{E:XK}{c:Expr}{f:DSt->R Bool}(h:DT X E c f):wR X E [c] f:=TW h
theorem RW.ok_of{α:Type}{r:R α}{a:α}{Q:α->Prop}{E:D->Prop}(e:r=.ok a)(h:Q a):RW r Q E:=by rw[e];exact h
theorem sH{α β:Type}{r:R α}{k:α->R β}{b:β}(h:r.bind k=.ok b):∃a,r=.ok a/\k a=.ok b:=by
 cases r with
 |ok a=>exact⟨a,rfl,h⟩
 |err e=>cases h
 |bad=>cases h
section
variable{X:Cx}{E:XK}{tg elt iter:Expr}{ifs:List Expr}{scope:Scope}{pos:Pos}{NY:List Str}{k:Nat}{ks:List Nat}{fi:DSt->R (List D)}{gp:D->R (List D)}{fc:DSt->R Bool}{fe:DSt->R D}
theorem VT{k:Nat}{ks:List Nat}{O:St}(h:ks.all (fun i=>decide (i<k))=true)(ws:List V):vZ (List.replicate k none++O) (setAll (List.replicate k none++O) ks ws):=by
 refine⟨CZ _ _ _,fun j v e=>?_⟩
 rw[C0 _ _ _ fun hj=>?_]
 ·exact e
 ·have hk:j<k:=xaj (xbg.mp h j hj)
  rw[xbo (by simpa using hk),xcg,xau hk] at e
  cases e
theorem VU{te:TE}{tc:TT}(hk:ks.all (fun i=>decide (i<k))=true){O:St}{H:Hp}{Q:VK}
  (h:wG X.K X.mg E (fF k ks fi gp fc fe) O H Q):tLC k (tI X.K X.mg E fi) (tG X.K X.mg ks gp) (tT X.K X.mg E0 fc) (tE X.K X.mg E0 fe) O H Q:=by
 obtain⟨G,Od,ok,q⟩:=h
 refine⟨G,Od,ok,q.of_bind.mono (fun ds _ z J G1 H1 s1 it=>?_) fun _ z=>z⟩
 cases hm:most ds.length with
 |false=>rw[hm] at z;exact(show False from z).elim
 |true=>
  rw[hm] at z
  obtain⟨tot,ht,z⟩:=nJ (show RW (fM ks gp fc fe (List.replicate k none++Od) ds).noerr _ _ from z)
  have hlt:ds.length<sizeLine:=xaj hm
  have ok1:=ok.step s1
  refine⟨fun i m ys H'=>m=ds.length-i/\i<=ds.length/\∃G' yd rest,aN G1 H1 G' H'/\Reps X.K X.mg G' yd ys/\yd.length<=i/\fM ks gp fc fe (List.replicate k none++Od) (ds.drop i)=.ok rest/\tot=yd++rest,
   ⟨ds.length,by simp,xbz _,G1,[],tot,.refl ok1.ext,Reps.nil,xbz _,ht,rfl⟩,?_⟩
  rintro i m ys H' ⟨rfl,hi,G',yd,rest,s,r,hyl,hr,rfl⟩
  refine⟨by rw[<- r.length];omega,?_⟩
  by_cases hlt2:i<ds.length
  ·right
   obtain⟨d,hd⟩:∃d,ds[i]? = some d:=⟨ds[i],by simp[hlt2]⟩
   obtain⟨g1,g2⟩:=it.turn H' i d (s.g.trans s.e) hd
   have hdrop:ds.drop i=d::ds.drop (i+1):=by
    rw[xcu hlt2]
    congr 1
    exact xba ((xbd hlt2).symm.trans hd)
   rw[hdrop] at hr
   refine⟨g1,fun ys' H''=>∃G' yd rest,aN G1 H1 G' H''/\Reps X.K X.mg G' yd ys'/\yd.length<=i+1/\fM ks gp fc fe (List.replicate k none++Od) (ds.drop (i+1))=.ok rest/\_=yd++rest,fun ys' H'' h=>⟨ds.length-(i+1),by omega,rfl,hlt2,h⟩,fun v H'' hy=>?_⟩
   obtain⟨G2,s2,rv⟩:=g2 v H'' hy G' s.g s.e
   unfold fM at hr
   obtain⟨us,e1,hr⟩:=sH hr
   obtain⟨kk,e2,hr⟩:=sH hr
   have s12:=s.trans s2
   have okN:bX X.K X.mg (List.replicate k none++Od) (List.replicate k none++O) G2 H'':=(ok1.step s12).nones k
   refine⟨G2,d,s2.e,rv,RW.ok_of e1 fun ws rws=>⟨VT hk ws,?_⟩⟩
   have okS:=okN.setAll (ks:=ks) rws
   refine⟨G2,_,okS,RW.ok_of e2 fun G3 H3 s3=>?_⟩
   cases kk with
   |false=>
    rw[xao xa1]
    exact⟨G3,yd,rest,s12.trans s3,r.mono (s2.g.trans s3.g),by omega,hr,rfl⟩
   |true=>
    rw[xau rfl]
    obtain⟨y,e3,hr⟩:=sH (show (fe (setAll (List.replicate k none++Od) ks us)).bind _=_ from hr)
    obtain⟨ys2,e4,hr⟩:=sH hr
    cases hr
    refine⟨G3,_,okS.step s3,RW.ok_of e3 fun w G4 H4 s4 r4=>?_⟩
    exact⟨G4,yd++[y],ys2,(s12.trans s3).trans s4,(r.mono ((s2.g.trans s3.g).trans s4.g)).append (Reps.cons r4 Reps.nil),by simp;omega,e4,by simp⟩
  ·left
   have hi2:i=ds.length:=by omega
   subst hi2
   refine⟨it.stop H' (s.g.trans s.e),fun Dd hD=>?_⟩
   rw[xc5] at hr
   have hre:rest=[]:=by unfold fM at hr;cases hr;rfl
   subst hre
   rw[xbh] at z
   have st:=(s1.trans s)
   exact z Dd ys G' _ (st.trans (.hid st.e hD)) (st.h.free hD) cK (st.e.free hD) r
theorem nL(C:X.calm=true)(lc:LC X k scope NY)(hk:ks.all (fun i=>decide (i<k))=true)(hi:DI X E tg iter fi)
  (hb:∀(s₀:Shared) (H₀:Hp) (C:Addr) (ex:List Addr),NY.Nodup->DG (dH X scope NY s₀ H₀ C ex) tg ks gp/\wR (dH X scope NY s₀ H₀ C ex) E0 ifs fc/\DE (dH X scope NY s₀ H₀ C ex) E0 elt fe)
  (hs:∀x,foldedSetIterable iter X.env x=pure x:=by intro _;rfl):DF X E (.ListComp elt [⟨tg,iter,ifs,0⟩] scope pos) (fF k ks fi gp fc fe):=
 PE.mono' (T2 (g:=tG X.K X.mg ks gp) (tc:=tT X.K X.mg E0 fc) (te:=tE X.K X.mg E0 fe) C lc hi (fun s0 H0 Ca ex nd=>hb s0 H0 Ca ex nd) hs) fun _ _ _ h=>VU (te:=tE X.K X.mg E0 fe) (tc:=tT X.K X.mg E0 fc) hk h
end
end DL
namespace DL
open L2
mutual
def imm:D->Bool
 |.lst _=>false
 |.dct _ _=>false
 |.tup ds=>imms ds
 |.exc _ as=>imms as
 |.non=>true
 |.bl _=>true
 |.int _=>true
 |.str _=>true
 |.ty _=>true
 |.cls _=>true
def imms:List D->Bool
 |[]=>true
 |d::ds=>imm d&&imms ds
end
def pG(G G':Hp):Prop:=∀a o,G a=some o->(∀xs,o≠.lst xs)->G' a=some o
section
variable{K:xFg}{mg:Str->Option Value}{G G' H H' H0:Hp}
theorem pG.sqT{a:Addr}{xs:List V}(e:pG G G')(h:bO K G a xs):bO K G' a xs:=by
 rcases h with (h|⟨o,h⟩)|h
 ·exact .inl (.inl (e _ _ h fun xs z=>by cases z))
 ·exact .inl (.inr ⟨o,e _ _ h fun xs z=>by cases z⟩)
 ·exact .inr h
mutual
theorem aQ.imm(e:pG G G'):∀{d:D} {v:V},imm d=true->aQ K mg G d v->aQ K mg G' d v
 |.non,_,_,h=>h
 |.bl _,_,_,h=>h
 |.int _,_,_,h=>h
 |.str _,_,_,h=>h
 |.ty _,_,_,h=>h
 |.cls _,_,_,h=>h
 |.tup _,_,i,⟨a,vs,h1,h2,h3⟩=>⟨a,vs,h1,e.sqT h2,Reps.imm e (by unfold DL.imm at i;exact i) h3⟩
 |.lst _,_,i,_=>by unfold DL.imm at i;cases i
 |.dct _ _,_,i,_=>by unfold DL.imm at i;cases i
 |.exc _ _,_,i,⟨x,C,dct,vs,h1,h2,h3,h4,h5⟩=>⟨x,C,dct,vs,h1,e _ _ h2 fun xs z=>(by unfold jB at z;cases z),h3,by
   rcases h4 with h|⟨dx,v,q1,q2,q3⟩
   ·exact .inl h
   ·exact .inr ⟨dx,v,q1,q2,e _ _ q3 fun xs z=>by cases z⟩,Reps.imm e (by unfold DL.imm at i;exact i) h5⟩
theorem Reps.imm(e:pG G G'):∀{ds:List D} {vs:List V},imms ds=true->Reps K mg G ds vs->Reps K mg G' ds vs
 |[],_,_,h=>h
 |_::_,_,i,⟨v,r,h1,h2,h3⟩=>by
  unfold imms at i
  rw[xax] at i
  exact⟨v,r,h1,aQ.imm e i.1 h2,Reps.imm e i.2 h3⟩
end
end
structure Ok(K:xFg)(mg:Str->Option Value)(H0:Hp)(own:List Nat)(Od:DSt)(O:St)(G H:Hp):Prop where
 ext:aH G H
 len:Od.length=O.length
 val:∀(i:Nat) (d:D),i∉own->Od[i]? = some (some d)->∃v,O[i]? = some (some v)/\aQ K mg G d v
 mine:∀(i:Nat) (d:D),i∈own->Od[i]? = some (some d)->∃a ds vs,O[i]? = some (some (.ref a))/\d=.lst ds/\H a=some (.lst vs)/\G a=none/\H0 a=none/\Reps K mg G ds vs
 dj:∀(i j:Nat) (a:Addr) (d d':D),i∈own->j∈own->Od[i]? = some (some d)->Od[j]? = some (some d')->O[i]? = some (some (.ref a))->O[j]? = some (some (.ref a))->i=j
def eW(own:List Nat):Nat->DSt->DSt
 |_,[]=>[]
 |i,d::ds=>(bif own.contains i then none else d)::eW own (i+1) ds
def mask(own:List Nat)(O:DSt):DSt:=eW own 0 O
theorem C2{own:List Nat}:∀(O:DSt) (k i:Nat) (d:D),(eW own k O)[i]? = some (some d)->k+i∉own/\O[i]? = some (some d)
 |[],_,_,_,h=>by unfold eW at h;simp at h
 |x::O,k,0,d,h=>by
  unfold eW at h
  simp only[List.getElem?_cons_zero,Option.some.injEq] at h
  cases hc:own.contains k with
  |true=>rw[hc] at h;cases h
  |false=>
   rw[hc] at h
   have h':x=some d:=h
   subst h'
   exact⟨by simpa using hc,rfl⟩
 |x::O,k,i+1,d,h=>by
  unfold eW at h
  have:=C2 O (k+1) i d (by simpa using h)
  rw[show k+(i+1)=k+1+i by omega]
  exact⟨this.1,by simpa using this.2⟩
theorem C3{own:List Nat}:∀(O:DSt) (k:Nat),(eW own k O).length=O.length
 |[],_=>rfl
 |_::O,k=>by unfold eW;simp[C3 O]
def sI(own:List Nat)(Od:DSt)(O:St)(b:Addr):Prop:=∃i d,i∈own/\Od[i]? = some (some d)/\O[i]? = some (some (.ref b))
open Classical in
noncomputable def iB(own:List Nat)(Od:DSt)(O:St)(G H:Hp):Hp:=fun b=>if sI own Od O b then H b else G b
open Classical in
noncomputable def nM(own:List Nat)(Od:DSt)(O:St)(G:Hp):Hp:=fun b=>if sI own Od O b then none else G b
section
variable{K:xFg}{mg:Str->Option Value}{G G' G0 H H' H0:Hp}{own:List Nat}{Od:DSt}{O:St}
theorem Ok.masked(o:Ok K mg H0 own Od O G H):bX K mg (mask own Od) O G H:=
 ⟨o.ext, by unfold mask; rw [C3]; exact o.len, fun i d h => by
  have:=C2 Od 0 i d h
  rw[xcc] at this
  exact o.val i d this.1 this.2⟩
theorem Ok.zero(o:bX K mg Od O G H):Ok K mg H0 [] Od O G H:=
 ⟨o.ext,o.len,fun i d _ h=>o.val i d h,fun i d h=>xag h (by simp),fun i j a d d' h=>xag h (by simp)⟩
theorem Ok.step(o:Ok K mg H0 own Od O G H)(s:aN G H G' H'):Ok K mg H0 own Od O G' H':=
 ⟨s.e, o.len, fun i d hi h => let ⟨v, h1, h2⟩ := o.val i d hi h; ⟨v, h1, h2.mono s.g⟩, fun i d hi h => by
  obtain⟨a,ds,vs,h1,h2,h3,h4,h5,h6⟩:=o.mine i d hi h
  exact⟨a,ds,vs,h1,h2,s.h _ _ h3,s.c _ _ h3 h4,h5,h6.mono s.g⟩,o.dj⟩
theorem Ok.notOwn(o:Ok K mg H0 own Od O G H){b:Addr}{u:HO}(h:G b=some u):¬sI own Od O b:=by
 rintro⟨i,d,h1,h2,h3⟩
 obtain⟨a,ds,vs,q1,q2,q3,q4,_⟩:=o.mine i d h1 h2
 rw[q1] at h3
 cases h3
 rw[q4] at h;cases h
theorem Ok.ownLst(o:Ok K mg H0 own Od O G H){b:Addr}(h:sI own Od O b):(∃vs,H b=some (.lst vs))/\G b=none/\H0 b=none:=by
 obtain⟨i,d,h1,h2,h3⟩:=h
 obtain⟨a,ds,vs,q1,q2,q3,q4,q5,_⟩:=o.mine i d h1 h2
 rw[q1] at h3
 cases h3
 exact⟨⟨vs,q3⟩,q4,q5⟩
theorem Ok.pub(o:Ok K mg H0 own Od O G H):bX K mg Od O (iB own Od O G H) H/\aH G (iB own Od O G H):=by
 have sg:aH G (iB own Od O G H):=fun b u h=>by unfold iB;rw[xao (o.notOwn h)];exact h
 refine⟨⟨fun b u h=>?_,o.len,fun i d h=>?_⟩,sg⟩
 ·unfold iB at h
  split at h
  ·exact h
  ·exact o.ext b u h
 ·by_cases hi:i∈own
  ·obtain⟨a,ds,vs,q1,rfl,q3,q4,q5,q6⟩:=o.mine i d hi h
   refine⟨_,q1,a,vs,rfl,bD.of ?_,q6.mono sg⟩
   unfold iB
   rw[xau ⟨i,_,hi,h,q1⟩];exact q3
  ·obtain⟨v,h1,h2⟩:=o.val i d hi h
   exact⟨v,h1,h2.mono sg⟩
theorem Ok.pubStep(o:Ok K mg H0 own Od O G H)(s0:aN G0 H0 G H):aN G0 H0 (iB own Od O G H) H:=by
 refine⟨s0.g.trans o.pub.2,s0.h,o.pub.1.ext,fun b u h1 h2=>?_⟩
 unfold iB
 rw[xao fun z=>by rw[(o.ownLst z).2.2] at h1;cases h1]
 exact s0.c b u h1 h2
theorem Ok.drop(o:Ok K mg H0 own Od O G H)(s:aH H H'):Ok K mg H0 own Od O G H':=
 o.step (.heap o.ext s)
theorem Ok.hide(o:Ok K mg H0 own Od O G H)(s:aN (iB own Od O G H) H G' H'):aN G H (nM own Od O G') H'/\pG G' (nM own Od O G'):=by
 refine⟨⟨fun b u h=>?_,s.h,fun b u h=>?_,fun b u h1 h2=>?_⟩,fun b u h1 h2=>?_⟩
 ·unfold nM
  rw[xao (o.notOwn h)]
  exact s.g b u (o.pub.2 b u h)
 ·unfold nM at h
  split at h
  ·cases h
  ·exact s.e b u h
 ·unfold nM
  split
  ·rfl
  ·rename_i n
   refine s.c b u h1 ?_
   unfold iB
   rw[xao n];exact h2
 ·unfold nM
  rw[xao fun z=>?_]
  ·exact h1
  ·obtain⟨⟨vs,q⟩,_⟩:=o.ownLst z
   have:iB own Od O G H b=some (.lst vs):=by unfold iB;rw[xau z];exact q
   have:=s.g b _ this
   rw[h1] at this;cases this
   exact h2 vs rfl
theorem pH{α:Type}{l:List (Option α)}{i:Nat}{x d:α}(h:(l.set i (some x))[i]? = some (some d)):d=x/\i<l.length:=by
 have hl:i<l.length:=by have:=(xah.mp h).1;simpa using this
 rw[xa3 hl] at h
 cases h
 exact⟨rfl,hl⟩
theorem Ok.set{i:Nat}{d:D}{v:V}(o:Ok K mg H0 own Od O G H)(hi:i∉own)(h:aQ K mg G d v):Ok K mg H0 own (Od.set i (some d)) (O.set i (some v)) G H:=by
 have ne:∀{j:Nat},j∈own->j≠i:=fun hj z=>hi (z▸hj)
 refine⟨o.ext,by simp[o.len],fun j e hj q=>?_,fun j e hj q=>?_,fun j k a d1 d2 h1 h2 h3 h4 h5 h6=>?_⟩
 ·by_cases hji:j=i
  ·subst hji
   obtain⟨rfl,hl⟩:=pH q
   exact⟨v,by rw[xa3 (by rw[<- o.len];exact hl)],h⟩
  ·rw[xai (xa6 hji)] at q ⊢
   exact o.val j e hj q
 ·rw[xai (xa6 (ne hj))] at q ⊢
  exact o.mine j e hj q
 ·rw[xai (xa6 (ne h1))] at h3 h5
  rw[xai (xa6 (ne h2))] at h4 h6
  exact o.dj j k a d1 d2 h1 h2 h3 h4 h5 h6
theorem Ok.setAll:∀{ks:List Nat} {us:List D} {ws:List V} {Od:DSt} {O:St},Ok K mg H0 own Od O G H->(∀k∈ks,k∉own)->Reps K mg G us ws->Ok K mg H0 own (DL.setAll Od ks us) (DL.setAll O ks ws) G H
 |[],_,_,_,_,o,_,_=>by unfold DL.setAll;exact o
 |_::_,[],_,_,_,o,_,h=>by cases h;unfold DL.setAll;exact o
 |k::ks,_::_,_,_,_,o,hk,⟨v,r,h1,h2,h3⟩=>by
  subst h1;unfold DL.setAll
  exact Ok.setAll (o.set (hk k xa4) h2) (fun j hj=>hk j (xar _ hj)) h3
theorem Ok.new{i:Nat}{ds:List D}{vs:List V}{a:Addr}{own':List Nat}(o:Ok K mg H0 own Od O G H)(s:aN G H G' H')(n:H a=none)(e:H' a=some (.lst vs))(g:G' a=none)(n0:H0 a=none)(r:Reps K mg G' ds vs)
  (hown:∀j,j∈own'↔j=i\/j∈own):Ok K mg H0 own' (Od.set i (some (.lst ds))) (O.set i (some (.ref a))) G' H':=by
 have o':=o.step s
 have away:∀{j:Nat} {d:D},j∈own->j≠i->Od[j]? = some (some d)->O[j]? = some (some (.ref a))->False:=fun {j d} hj _ hd hs=>by
  obtain⟨b,_,_,q1,_,q3,_⟩:=o.mine j d hj hd
  rw[q1] at hs;cases hs
  rw[n] at q3;cases q3
 refine⟨o'.ext,by simp[o.len],fun j d hj q=>?_,fun j d hj q=>?_,fun j k b d1 d2 h1 h2 h3 h4 h5 h6=>?_⟩
 ·have hji:j≠i:=fun z=>hj ((hown j).mpr (.inl z))
  rw[xai (xa6 hji)] at q ⊢
  exact o'.val j d (fun z=>hj ((hown j).mpr (.inr z))) q
 ·by_cases hji:j=i
  ·subst hji
   obtain⟨rfl,hl⟩:=pH q
   exact⟨a,ds,vs,by rw[xa3 (by rw[<- o.len];exact hl)],rfl,e,g,n0,r⟩
  ·rw[xai (xa6 hji)] at q ⊢
   exact o'.mine j d (((hown j).mp hj).resolve_left hji) q
 ·by_cases hji:j=i
  ·by_cases hki:k=i
   ·rw[hji,hki]
   ·subst hji
    obtain⟨rfl,hl⟩:=pH h3
    rw[xa3 (by rw[<- o.len];exact hl)] at h5
    cases h5
    rw[xai (xa6 hki)] at h4 h6
    exact(away (((hown k).mp h2).resolve_left hki) hki h4 h6).elim
  ·by_cases hki:k=i
   ·subst hki
    obtain⟨rfl,hl⟩:=pH h4
    rw[xa3 (by rw[<- o.len];exact hl)] at h6
    cases h6
    rw[xai (xa6 hji)] at h3 h5
    exact(away (((hown j).mp h1).resolve_left hji) hji h3 h5).elim
   ·rw[xai (xa6 hji)] at h3 h5
    rw[xai (xa6 hki)] at h4 h6
    exact o.dj j k b d1 d2 (((hown j).mp h1).resolve_left hji) (((hown k).mp h2).resolve_left hki) h3 h4 h5 h6
theorem Ok.write{i:Nat}{d:D}{ds:List D}{vs:List V}{a:Addr}(o:Ok K mg H0 own Od O G H)(hi:i∈own)(hd:Od[i]? = some (some d))(ha:O[i]? = some (some (.ref a)))(r:Reps K mg G ds vs) :
  Ok K mg H0 own (Od.set i (some (.lst ds))) O G (aS H a (.lst vs)):=by
 obtain⟨b,ds0,vs0,q1,q2,q3,q4,q5,q6⟩:=o.mine i d hi hd
 rw[ha] at q1;cases q1
 have hl:i<Od.length:=(xah.mp hd).1
 refine⟨fun b u h=>?_,by simp[o.len],fun j e hj q=>?_,fun j e hj q=>?_,fun j k b d1 d2 h1 h2 h3 h4 h5 h6=>?_⟩
 ·rw[bM (cS h q4)];exact o.ext b u h
 ·have hji:j≠i:=fun z=>hj (z▸hi)
  rw[xai (xa6 hji)] at q
  exact o.val j e hj q
 ·by_cases hji:j=i
  ·subst hji
   obtain⟨rfl,_⟩:=pH q
   exact⟨a,ds,vs,ha,rfl,cK,q4,q5,r⟩
  ·rw[xai (xa6 hji)] at q
   obtain⟨c,es,ws,p1,p2,p3,p4⟩:=o.mine j e hj q
   have hc:c≠a:=fun z=>by subst z;exact hji (o.dj j i c e d hj hi q hd p1 ha)
   exact⟨c,es,ws,p1,p2,by rw[bM hc];exact p3,p4⟩
 ·have back:∀{j:Nat} {e:D},(Od.set i (some (.lst ds)))[j]? = some (some e)->∃e',Od[j]? = some (some e'):=fun {j e} q=>by
   by_cases hji:j=i
   ·exact⟨d,hji▸hd⟩
   ·rw[xai (xa6 hji)] at q;exact⟨e,q⟩
  obtain⟨e1,h3⟩:=back h3
  obtain⟨e2,h4⟩:=back h4
  exact o.dj j k b e1 e2 h1 h2 h3 h4 h5 h6
theorem aN.write{a:Addr}{o u:HO}(s0:aN G0 H0 G H)(n:H0 a=none)(g:G a=none):aN G0 H0 G (aS H a u):=
 ⟨s0.g,fun b v h=>by rw[bM (cS h n)];exact s0.h b v h,fun b v h=>by rw[bM (cS h g)];exact s0.e b v h,s0.c⟩
theorem Ok.release{i:Nat}{own':List Nat}(o:Ok K mg H0 own Od O G H)(s0:aN G0 H0 G H)(hi:i∈own)(hown:∀j,j∈own'↔j≠i/\j∈own):∃G',Ok K mg H0 own' Od O G' H/\aN G0 H0 G' H/\aH G G':=by
 by_cases hb:∃d,Od[i]? = some (some d)
 ·obtain⟨d,hd⟩:=hb
  obtain⟨a,ds,vs,q1,rfl,q3,q4,q5,q6⟩:=o.mine i d hi hd
  have sg:aH G (aS G a (.lst vs)):=kQ q4
  have eh:aH (aS G a (.lst vs)) H:=fun b u h=>by
   by_cases hb:b=a
   ·subst hb;rw[cK] at h;cases h;exact q3
   ·rw[bM hb] at h;exact o.ext b u h
  refine⟨aS G a (.lst vs),⟨eh,o.len,fun j e hj q=>?_,fun j e hj q=>?_,fun j k b d1 d2 h1 h2 h3 h4 h5 h6=>?_⟩,⟨s0.g.trans sg,s0.h,eh,fun b u h1 h2=>?_⟩,sg⟩
  ·by_cases hji:j=i
   ·subst hji
    rw[hd] at q;cases q
    exact⟨_,q1,a,vs,rfl,bD.of cK,q6.mono sg⟩
   ·obtain⟨v,h1,h2⟩:=o.val j e (fun z=>hj ((hown j).mpr ⟨hji,z⟩)) q
    exact⟨v,h1,h2.mono sg⟩
  ·obtain⟨hji,hj'⟩:=(hown j).mp hj
   obtain⟨c,es,ws,p1,p2,p3,p4,p5,p6⟩:=o.mine j e hj' q
   have hc:c≠a:=fun z=>by subst z;exact hji (o.dj j i c e _ hj' hi q hd p1 q1)
   exact⟨c,es,ws,p1,p2,p3,by rw[bM hc];exact p4,p5,p6.mono sg⟩
  ·exact o.dj j k b d1 d2 ((hown j).mp h1).2 ((hown k).mp h2).2 h3 h4 h5 h6
  ·rw[bM (cS h1 q5)];exact s0.c b u h1 h2
 ·refine⟨G,⟨o.ext,o.len,fun j e hj q=>?_,fun j e hj q=>o.mine j e ((hown j).mp hj).2 q,fun j k b d1 d2 h1 h2=>o.dj j k b d1 d2 ((hown j).mp h1).2 ((hown k).mp h2).2⟩,s0,aH.refl _⟩
  have hji:j≠i:=fun z=>hb ⟨e,z▸q⟩
  exact o.val j e (fun z=>hj ((hown j).mpr ⟨hji,z⟩)) q
end
inductive aE where
 |nx (O:DSt)|rt (d:D)|bk (O:DSt)|ct (O:DSt)|rf (ds:List D)
section
variable(K:xFg)(mg:Str->Option Value)(E:XK)
def bW(G0 H0:Hp)(own' ol:List Nat)(Dn:gN)(G:Hp):aE->Prop
 |.nx Od'=>∀O' G' H',Ok K mg H0 own' Od' O' G' H'->aN G0 H0 G' H'->aH G G'->Dn.nx O' H'
 |.bk Od'=>∀O' G' H',Ok K mg H0 ol Od' O' G' H'->aN G0 H0 G' H'->aH G G'->Dn.bk O' H'
 |.ct Od'=>∀O' G' H',Ok K mg H0 ol Od' O' G' H'->aN G0 H0 G' H'->aH G G'->Dn.ct O' H'
 |.rt d=>∀v G' H',aN G0 H0 G' H'->aQ K mg G' d v->Dn.rt v H'
 |.rf ds=>∀a vs G' H',aN G0 H0 G' H'->H0 a=none->H' a=some (.lst vs)->G' a=none->Reps K mg G' ds vs->Dn.rt (.ref a) H'
def tS(G0 H0:Hp)(own own' ol:List Nat)(f:DSt->R aE):TS:=fun Dn O H=>∃G Od,Ok K mg H0 own Od O G H/\aN G0 H0 G H/\RW (f Od) (bW K mg G0 H0 own' ol Dn G) (aV K mg E G0 H0)
end
theorem bW.shift{K:xFg}{mg:Str->Option Value}{G0 H0 G G':Hp}{own' ol:List Nat}{Dn:gN}(s:aH G G'){o:aE}(h:bW K mg G0 H0 own' ol Dn G o):bW K mg G0 H0 own' ol Dn G' o:=by
 cases o with
 |nx _=>exact fun a b c d e f=>h a b c d e (s.trans f)
 |bk _=>exact fun a b c d e f=>h a b c d e (s.trans f)
 |ct _=>exact fun a b c d e f=>h a b c d e (s.trans f)
 |rt _=>exact h
 |rf _=>exact h
def DS(X:Cx)(E:XK)(own own' ol:List Nat)(st:Stmt)(f:DSt->R aE):Prop:=∀G0,PS X st (tS X.K X.mg E G0 X.H₀ own own' ol f)
def fV(X:Cx)(E:XK)(own own' ol:List Nat)(st:List Stmt)(f:DSt->R aE):Prop:=∀G0,dY X st (tS X.K X.mg E G0 X.H₀ own own' ol f)
def aO(f g:DSt->R aE):DSt->R aE:=fun O=>(f O).bind fun o=>match o with
 |.nx O'=>g O'
 |o=>.ok o
def bY:DSt->R aE:=fun O=>.ok (.nx O)
section
variable{X:Cx}{E:XK}{own own1 own2 own' ol:List Nat}{st:Stmt}{rest:List Stmt}{f g:DSt->R aE}{pos:Pos}
theorem c7:fV X E own own ol [] bY:=fun G0=>dY.mono' A1 fun Dn O H ⟨G,Od,ok,s0,q⟩=>(show bW X.K X.mg G0 X.H₀ own ol Dn G (.nx Od) from q) O G H ok s0 (aH.refl _)
theorem aP(h1:DS X E own own1 ol st f)(h2:fV X E own1 own2 ol rest g):fV X E own own2 ol (st::rest) (aO f g):=fun G0=>dY.mono' (A2 (h1 G0) (h2 G0)) fun Dn O H ⟨G,Od,ok,s0,q⟩=>by
 refine⟨G,Od,ok,s0,q.of_bind.mono (fun o _ z=>?_) fun _ z=>z⟩
 cases o with
 |nx σ1=>
  intro O' G' H' ok' s' e'
  exact⟨G',σ1,ok',s',(show RW (g σ1) _ _ from z).mono (fun o _ z=>z.shift e') fun _ z=>z⟩
 |rt d=>exact z
 |rf d=>exact z
 |bk d=>exact z
 |ct d=>exact z
theorem cI(h1:DS X E own own1 ol st f):fV X E own own1 ol [st] f:=fun G0=>A3 (h1 G0)
theorem sJ(i:Nat)(hi:own.contains i=true)(ho:own'=own.filter fun j=>j != i)(h:fV X E own' own2 ol rest g):fV X E own own2 ol rest g:=fun G0=>dY.mono' (h G0) fun Dn O H ⟨G,Od,ok,s0,q⟩=>by
 obtain⟨G',ok',s',e'⟩:=ok.release (i:=i) (own':=own') s0 (by simpa using hi) fun j=>by subst ho;simp[and_comm]
 exact⟨G',Od,ok',s',q.mono (fun o _ z=>z.shift e') fun _ z=>z⟩
def bI(fe:DSt->R D):DSt->R aE:=fun O=>(fe O).bind fun d=>.ok (.rt d)
theorem l6{e:Expr}{fe:DSt->R D}(h:DE X E e fe):DS X E own own' ol (.Return (some e) pos) (bI fe):=fun G0=>PS.mono' (QW h) fun Dn O H ⟨G,Od,ok,s0,q⟩=>by
 have s1:=ok.pubStep s0
 exact⟨_,Od,ok.pub.1,q.of_bind.mono (fun d _ z v G' H' s r=>(show bW X.K X.mg G0 X.H₀ own' ol Dn G (.rt d) from z) v G' H' (s1.trans s) r) fun _ z=>z.step s1⟩
def bT(c:DSt->R Bool)(f g:DSt->R aE):DSt->R aE:=fun O=>(c O).bind fun k=>bif k then f O else g O
theorem cU{c:Expr}{a b:List Stmt}{fc:DSt->R Bool}(hc:DT X E c fc)(ha:fV X E own own' ol a f)(hb:fV X E own own' ol b g):DS X E own own' ol (.If c a b pos) (bT fc f g):=fun G0=>
 PS.mono' (A4 hc (ha G0) (hb G0)) fun Dn O H ⟨G,Od,ok,s0,q⟩=>by
 have s1:=ok.pubStep s0
 refine⟨_,Od,ok.pub.1,q.of_bind.mono (fun k _ z G' H' s=>?_) fun _ z=>z.step s1⟩
 have ok':=ok.drop s.h
 have s':aN G0 X.H₀ G H':=s0.trans (.heap ok.ext s.h)
 cases k with
 |true=>exact rY ⟨G,Od,ok',s',z⟩
 |false=>exact rX ⟨G,Od,ok',s',z⟩
def wU(fe:DSt->R D):DSt->R aE:=fun O=>(fe O).bind fun _=>.ok (.nx O)
def j6(own:List Nat)(i:Nat)(fe:DSt->R D):DSt->R aE:=fun O=>(fe (mask own O)).bind fun d=>.ok (.nx (O.set i (some d)))
def bN(i:Nat)(fe:DSt->R D):DSt->R aE:=fun O=>(fe O).bind fun d=>.ok (.nx (O.set i (some d)))
def VV(i:Nat)(fe:DSt->R D):DSt->R aE:=fun O=>(fe O).bind fun d=>bif imm d then .ok (.nx (O.set i (some d))) else .bad
theorem l7{own:List Nat}{i:Nat}(h:own.contains i=false):i∉own:=by simpa using h
theorem sK(O:DSt):mask [] O=O:=by
 have:∀(O:DSt) (k:Nat),eW [] k O=O:=fun O=>by
  induction O with
  |nil=>intro k;rfl
  |cons d ds ih=>intro k;unfold eW;rw[ih];rfl
 exact this O 0
theorem C4{te:TE}{fe:DSt->R D}{i:Nat}{G0:Hp}(h:∀O H Q,tE X.K X.mg E fe O H Q->te O H Q)(ho:own.contains i=false){Dn:gN}{O:St}{H:Hp}(q:tS X.K X.mg E G0 X.H₀ own own ol (j6 own i fe) Dn O H):vR te (oW i) Dn O H:=by
 obtain⟨G,Od,ok,s0,q⟩:=q
 refine h O H _ ⟨G,mask own Od,ok.masked,q.of_bind.mono (fun d _ z v G' H' s r=>?_) fun _ z=>z.step s0⟩
 exact(show bW X.K X.mg G0 X.H₀ own ol Dn G (.nx (Od.set i (some d))) from z) _ G' H' ((ok.step s).set (l7 ho) r) (s0.trans s) s.g
def l8(own:List Nat)(i:Nat)(fe:DSt->R (List D)):DSt->R aE:=fun O=>(fe (mask own O)).bind fun ds=>.ok (.nx (O.set i (some (.lst ds))))
def pI(own:List Nat)(i:Nat):List Nat:=if own.contains i then own else i::own
theorem VW{own:List Nat}{i j:Nat}:j∈pI own i↔j=i\/j∈own:=by
 unfold pI
 split
 ·rename_i h
  have hi:i∈own:=by simpa using h
  exact⟨.inr,fun h=>h.elim (fun e=>e▸hi) id⟩
 ·simp
theorem VX{te:TE}{fe:DSt->R (List D)}{i:Nat}{G0:Hp}(h:∀O H Q,wG X.K X.mg E fe O H Q->te O H Q){Dn:gN}{O:St}{H:Hp}(q:tS X.K X.mg E G0 X.H₀ own (pI own i) ol (l8 own i fe) Dn O H):vR te (oW i) Dn O H:=by
 obtain⟨G,Od,ok,s0,q⟩:=q
 refine h O H _ ⟨G,mask own Od,ok.masked,q.of_bind.mono (fun ds _ z a vs G' H' s n e g r=>?_) fun _ z=>z.step s0⟩
 exact(show bW X.K X.mg G0 X.H₀ (pI own i) ol Dn G (.nx (Od.set i (some (.lst ds)))) from z) _ G' H' (ok.new s n e g (s0.h.free n) r fun j=>VW) (s0.trans s) s.g
variable{i:Nat}{x:Str}{e:Expr}{pos':Pos}{fe:DSt->R D}{fl:DSt->R (List D)}
theorem VY(i:Nat)(hN:X.N.Nodup)(he:DE X E e fe)(ho:own.contains i=false:=by rfl)(hi:X.N[i]? = some x:=by rfl)(hx:iL X.env.scope x:=by first|exact Or.inl rfl|exact Or.inr rfl)(hs:swapsWith e (some (.Name x pos')) pos.line X.env=pure false:=by rfl)
  (hf:X.fn x=true\/X.env.scope.names.lookup x=some .local:=by first|exact .inl rfl|exact .inr rfl|assumption):DS X E own own ol (.Assign [.Name x pos'] e pos) (j6 own i fe):=fun G0=>
 PS.mono' (m7 hN hi hx he hs hf) fun Dn O H q=>C4 (fun _ _ _ z=>z) ho q
theorem VZ(i:Nat)(hN:X.N.Nodup)(he:DE X E e fe)(hi:X.N[i]? = some x:=by rfl)(hx:iL X.env.scope x:=by first|exact Or.inl rfl|exact Or.inr rfl)(hs:swapsWith e (some (.Name x pos')) pos.line X.env=pure false:=by rfl)
  (hf:X.fn x=true\/X.env.scope.names.lookup x=some .local:=by first|exact .inl rfl|exact .inr rfl|assumption):DS X E [] [] ol (.Assign [.Name x pos'] e pos) (bN i fe):=fun G0=>by
 have:bN i fe=j6 [] i fe:=by funext O;unfold bN j6;rw[sK]
 rw[this]
 exact PS.mono' (m7 hN hi hx he hs hf) fun Dn O H q=>C4 (fun _ _ _ z=>z) rfl q
theorem V0(i:Nat)(hN:X.N.Nodup)(he:DF X E e fl)(hw:own'=pI own i:=by rfl)(hi:X.N[i]? = some x:=by rfl)(hx:iL X.env.scope x:=by first|exact Or.inl rfl|exact Or.inr rfl)(hs:swapsWith e (some (.Name x pos')) pos.line X.env=pure false:=by rfl)
  (hf:X.fn x=true\/X.env.scope.names.lookup x=some .local:=by first|exact .inl rfl|exact .inr rfl|assumption):DS X E own own' ol (.Assign [.Name x pos'] e pos) (l8 own i fl):=fun G0=>by
 subst hw;exact PS.mono' (m7 hN hi hx he hs hf) fun Dn O H q=>VX (fun _ _ _ z=>z) q
def bE(fl:DSt->R (List D)):DSt->R D:=fun O=>(fl O).bind fun ds=>.ok (.lst ds)
theorem DF.val(h:DF X E e fl):DE X E e (bE fl):=h.de
variable{tg elt iter:Expr}{ifs:List Expr}{scope:Scope}{NY:List Str}{k:Nat}{ks:List Nat}{fi:DSt->R (List D)}{gp:D->R (List D)}{fc:DSt->R Bool}{lpos:Pos}
def V1(own:List Nat)(ks:List Nat)(gp:D->R (List D))(fe:DSt->R D):DSt->R aE:=fun O=>(fe (mask own O)).bind fun d=>(gp d).noerr.bind fun us=>.ok (.nx (setAll O ks us))
def V2(own:List Nat)(i j:Nat)(fs:DSt->R (List D)):DSt->R aE:=fun O=>(fs (mask own O)).bind fun ds=>match ds with
 |[a,b]=>.ok (.nx ((O.set i (some a)).set j (some b)))
 |_=>.bad
def aK(O:DSt)(i:Nat):R (List D):=match O[i]? with
 |some (some (.lst ds))=>.ok ds
 |_=>.bad
def l9(own:List Nat)(i:Nat)(fe:DSt->R D):DSt->R aE:=fun O=>(aK O i).bind fun ds=>(fe (mask own O)).bind fun d=>bif most ds.length then .ok (.nx (O.set i (some (.lst (ds++[d]))))) else .bad
def V3(i:Nat)(fe:DSt->R D):DSt->R aE:=fun O=>(aK O i).bind fun ds=>(fe O).bind fun d=>bif most ds.length&&imm d then .ok (.nx (O.set i (some (.lst (ds++[d]))))) else .bad
theorem dP{O:DSt}{i:Nat}{ds:List D}(h:aK O i=.ok ds):O[i]? = some (some (.lst ds)):=by
 unfold aK at h
 split at h
 ·cases h;assumption
 ·cases h
theorem eX{O:DSt}{i:Nat}{e:D}:aK O i≠.err e:=by
 unfold aK
 split<;>simp
theorem V4(i:Nat){apos cpos:Pos}{np:Pos}(he:DE X E e fe)(ho:own.contains i=true:=by rfl)(hN:X.N[i]? = some x:=by rfl)(hv:cT X.env.scope x:=by first|exact Or.inl rfl|exact Or.inr (Or.inl rfl)|exact Or.inr (Or.inr rfl))(hd:(x==("__debug__":Str))=false:=by decide)
  (hcd:(x==("__classdict__":Str))=false:=by decide)
  (hbase:attributeBase (.Name x np) "append" X.env (eval (.Name x np) X.env)=eval (.Name x np) X.env:=by rfl)
  (hfew:((backTo cpos (starEach [e] X.env)).all (fun x=>!x.1)&&(backToKw cpos (keywordEach [] X.env)).all (fun x=>x.1.isSome)&&decide ([e].length+([]:List Keyword).length+(if ([]:List Keyword).isEmpty then 0 else 1)<30))=true:=by rfl)
  (hline:(apos.endLine==cpos.line)=true:=by rfl) (hs:starEach [e] X.env=(false,eval e X.env)::starEach [] X.env:=by rfl) (hplain:(backTo cpos (starEach [] X.env)).any (·.1)=false:=by rfl)
  (hsw:swapsWith (.Call (.Attribute (.Name x np) "append" apos) [e] [] cpos) none pos.line X.env=pure false:=by rfl) :
  DS X E own own ol (.Expr (.Call (.Attribute (.Name x np) "append" apos) [e] [] cpos) pos) (l9 own i fe):=fun G0=>
 PS.mono' (i0 (iO PySem.F.plainAttrs_list PySem.F.slot_list_append PySem.F.type_list_append o7 (pv i hN hv hd hcd) (cM he eA hs) hbase hfew hline hs hplain) hsw) fun Dn O H ⟨G,Od,ok,s0,q⟩=>by
 have q1:=q.of_bind
 cases hL:aK Od i with
 |bad=>rw[hL] at q1;exact q1.elim
 |err e=>exact xag hL eX
 |ok ds=>
  rw[hL] at q1
  have q2:RW ((fe (mask own Od)).bind fun d=>bif most ds.length then R.ok (.nx (Od.set i (some (.lst (ds++[d]))))) else .bad) (bW X.K X.mg G0 X.H₀ own ol Dn G) (aV X.K X.mg E G0 X.H₀):=q1
  have hd:=dP hL
  have hi:i∈own:=by simpa using ho
  obtain⟨a,ds',vs,p1,p2,p3,p4,p5,p6⟩:=ok.mine i _ hi hd
  cases p2
  refine⟨_,p1,.inl ⟨rfl,_,bD.of p3⟩,?_⟩
  refine⟨G,mask own Od,ok.masked,(show RW ((aA fe aD) (mask own Od)) _ _ from ?_)⟩
  unfold aA
  have q3:=q2.of_bind
  cases hf:fe (mask own Od) with
  |bad=>rw[hf] at q3;exact q3.elim
  |err e=>rw[hf] at q3;exact(show aV X.K X.mg E G0 X.H₀ e from q3).step s0
  |ok d=>
   rw[hf] at q3
   rintro ws G' H' s ⟨v,_,e1,r1,r2⟩
   subst e1
   cases r2
   cases hm:most ds.length with
   |false=>rw[hm] at q3;exact(show False from q3).elim
   |true=>
    rw[hm] at q3
    have hlt:ds.length<sizeLine:=xaj hm
    have ok':=ok.step s
    refine⟨a,vs,v,rfl,rfl,s.h _ _ p3,by rw[<- p6.length];exact hlt,?_⟩
    exact(show bW X.K X.mg G0 X.H₀ own ol Dn G (.nx (Od.set i (some (.lst (ds++[d]))))) from q3) O G' _ (ok'.write hi hd p1 ((p6.mono s.g).append (Reps.cons r1 Reps.nil))) ((s0.trans s).write (o:=.lst vs) p5 (s.c _ _ p3 p4)) s.g
end
def cQ(ks:List Nat)(gp:D->R (List D))(fb:DSt->R aE):List D->DSt->R aE
 |[],O=>.ok (.nx O)
 |d::ds,O=>(gp d).noerr.bind fun us=>(fb (setAll O ks us)).bind fun o=>match o with
  |.nx O'=>cQ ks gp fb ds O'
  |.ct O'=>cQ ks gp fb ds O'
  |.bk O'=>.ok (.nx O')
  |.rt d=>.ok (.rt d)
  |.rf d=>.ok (.rf d)
def gF(own ks:List Nat)(gp:D->R (List D))(fi:DSt->R (List D))(fb:DSt->R aE):DSt->R aE:=fun O=>(fi (mask own O)).bind fun ds=>cQ ks gp fb ds O
structure XL(X:Cx):Prop where
 own:PassesOwn (model X.prog X.w) X.A X.env X.xe
section
variable{X:Cx}{E:XK}{own ol ks:List Nat}{tg iter:Expr}{body:List Stmt}{gp:D->R (List D)}{fi:DSt->R (List D)}{fb:DSt->R aE}{pos:Pos}
theorem j7(L:XL X)(hc:X.calm=true)(hi:DI X E tg iter fi)(hg:DG X tg ks gp)(hb:fV X E own own own body fb)(ho:ks.all (fun i=>!own.contains i)=true:=by rfl)(hs:∀x,foldedSetIterable iter X.env x=pure x:=by intro _;rfl) :
  DS X E own own ol (.For tg iter body [] pos) (gF own ks gp fi fb):=fun G0=>PS.mono' (BD L.own hc hi hg (hb G0) hs) fun Dn O H ⟨G,Od,ok,s0,q⟩=>by
 refine⟨G,mask own Od,ok.masked,q.of_bind.mono (fun ds _ z J G1 H1 s1 it=>?_) fun _ z=>z.step s0⟩
 have hko:∀k∈ks,k∉own:=fun k hk=>by simpa using xbg.mp ho k hk
 refine⟨fun i m O' H'=>m=ds.length-i/\i<=ds.length/\∃G' Od',Ok X.K X.mg X.H₀ own Od' O' G' H'/\aH G1 G'/\aN G0 X.H₀ G' H'/\RW (cQ ks gp fb (ds.drop i) Od') (bW X.K X.mg G0 X.H₀ own ol Dn G1) (aV X.K X.mg E G0 X.H₀),
  ⟨ds.length,by simp,xbz _,G1,Od,ok.step s1,aH.refl _,s0.trans s1,z.mono (fun _ _ z=>z.shift s1.g) fun _ z=>z⟩,?_⟩
 rintro i m O' H' ⟨rfl,hi,G',Od',ok',e',s',w⟩
 by_cases hlt:i<ds.length
 ·right
  obtain⟨d,hd⟩:∃d,ds[i]? = some d:=⟨ds[i],by simp[hlt]⟩
  obtain⟨g1,g2⟩:=it.turn H' i d (e'.trans ok'.ext) hd
  have hdrop:ds.drop i=d::ds.drop (i+1):=by
   rw[xcu hlt]
   congr 1
   exact xba ((xbd hlt).symm.trans hd)
  rw[hdrop] at w
  refine⟨g1,fun σ2 H2=>i+1<=ds.length/\∃G' Od',Ok X.K X.mg X.H₀ own Od' σ2 G' H2/\aH G1 G'/\aN G0 X.H₀ G' H2/\RW (cQ ks gp fb (ds.drop (i+1)) Od') (bW X.K X.mg G0 X.H₀ own ol Dn G1) (aV X.K X.mg E G0 X.H₀),
   fun σ2 H2 ⟨h1,h2⟩=>⟨ds.length-(i+1),by omega,rfl,h1,h2⟩,fun x H2 hy=>?_⟩
  obtain⟨G2,s2,r2⟩:=g2 x H2 hy G' e' ok'.ext
  unfold cQ at w
  obtain⟨us,e1,w⟩:=nJ w.of_bind
  refine⟨G2,d,s2.e,r2,RW.ok_of e1 fun ws rws=>?_⟩
  have ok2:=(ok'.step s2).setAll hko rws
  refine⟨G2,_,ok2,s'.trans s2,w.of_bind.mono (fun o _ z=>?_) fun _ z=>z⟩
  cases o with
  |nx σ3=>exact fun σ4 G4 H4 ok4 s4 e4=>⟨hlt,G4,σ3,ok4,(e'.trans s2.g).trans e4,s4,z⟩
  |ct σ3=>exact fun σ4 G4 H4 ok4 s4 e4=>⟨hlt,G4,σ3,ok4,(e'.trans s2.g).trans e4,s4,z⟩
  |bk σ3=>exact fun σ4 G4 H4 ok4 s4 e4=>(show bW X.K X.mg G0 X.H₀ own ol Dn G1 (.nx σ3) from z) σ4 G4 H4 ok4 s4 ((e'.trans s2.g).trans e4)
  |rt d=>exact z
  |rf d=>exact z
 ·left
  have hi2:i=ds.length:=by omega
  subst hi2
  rw[xc5] at w
  refine⟨it.stop H' (e'.trans ok'.ext),?_⟩
  unfold cQ at w
  exact(show bW X.K X.mg G0 X.H₀ own ol Dn G1 (.nx Od') from w) O' G' H' ok' s' e'
def cB(c:DSt->R Bool)(fb:DSt->R aE):Nat->DSt->R aE
 |0,_=>.bad
 |n+1,O=>(c O).bind fun k=>bif k then (fb O).bind fun o=>match o with
   |.nx O'=>cB c fb n O'
   |.ct O'=>cB c fb n O'
   |.bk O'=>.ok (.nx O')
   |.rt d=>.ok (.rt d)
   |.rf d=>.ok (.rf d)
  else .ok (.nx O)
open Classical in
noncomputable def dB(c:DSt->R Bool)(fb:DSt->R aE):DSt->R aE:=fun O=>if h:∃n,cB c fb n O≠.bad then cB c fb (Classical.choose h) O else .bad
theorem sL{c:DSt->R Bool}{fb:DSt->R aE}:∀(n:Nat) (O:DSt) (r:R aE),cB c fb n O=r->r≠.bad->∀k,cB c fb (n+k) O=r
 |0,O,r,h,hr,k=>xag h.symm hr
 |n+1,O,r,h,hr,k=>by
  rw[show n+1+k=(n+k)+1 by omega]
  unfold cB at h ⊢
  cases hc:c O with
  |bad=>rw[hc] at h;exact xag h.symm hr
  |err e=>rw[hc] at h;exact h
  |ok b=>
   rw[hc] at h
   cases b with
   |false=>exact h
   |true=>
    have h':(fb O).bind (fun o=>match o with
     |.nx O'=>cB c fb n O'
     |.ct O'=>cB c fb n O'
     |.bk O'=>.ok (.nx O')
     |.rt d=>.ok (.rt d)
     |.rf d=>.ok (.rf d))=r:=h
    show (fb O).bind (fun o=>match o with
     |.nx O'=>cB c fb (n+k) O'
     |.ct O'=>cB c fb (n+k) O'
     |.bk O'=>.ok (.nx O')
     |.rt d=>.ok (.rt d)
     |.rf d=>.ok (.rf d))=r
    cases hf:fb O with
    |bad=>rw[hf] at h';exact xag h'.symm hr
    |err e=>rw[hf] at h';exact h'
    |ok o=>
     rw[hf] at h'
     cases o with
     |nx O'=>exact sL n O' r h' hr k
     |ct O'=>exact sL n O' r h' hr k
     |bk O'=>exact h'
     |rt d=>exact h'
     |rf d=>exact h'
theorem jE{c:DSt->R Bool}{fb:DSt->R aE}{n:Nat}{O:DSt}{r:R aE}(h:cB c fb n O=r)(hr:r≠.bad):dB c fb O=r:=by
 unfold dB
 have hx:∃n,cB c fb n O≠.bad:=⟨n,by rw[h];exact hr⟩
 rw[dif_pos hx]
 have h1:=Classical.choose_spec hx
 have a:=sL _ O _ rfl h1 n
 have b:=sL _ O _ h hr (Classical.choose hx)
 rw[Nat.add_comm] at b
 rw[<- a,b]
theorem C5(c:DSt->R Bool)(fb:DSt->R aE)(O:DSt):dB c fb O=(c O).bind fun k=>bif k then (fb O).bind fun o=>match o with
   |.nx O'=>dB c fb O'
   |.ct O'=>dB c fb O'
   |.bk O'=>.ok (.nx O')
   |.rt d=>.ok (.rt d)
   |.rf d=>.ok (.rf d)
  else .ok (.nx O):=by
 cases hc:c O with
 |bad=>
  unfold dB
  rw[dif_neg]
  ·rfl
  ·rintro⟨n,h⟩
   cases n with
   |zero=>exact h rfl
   |succ n=>unfold cB at h;rw[hc] at h;exact h rfl
 |err e=>exact jE (n:=1) (by unfold cB;rw[hc];rfl) (by simp[R.bind])
 |ok b=>
  cases b with
  |false=>exact jE (n:=1) (by unfold cB;rw[hc];rfl) (by simp[R.bind])
  |true=>
   show dB c fb O=(fb O).bind _
   cases hf:fb O with
   |bad=>
    unfold dB
    rw[dif_neg]
    ·rfl
    ·rintro⟨n,h⟩
     cases n with
     |zero=>exact h rfl
     |succ n=>unfold cB at h;rw[hc] at h;simp only[R.bind,cond_true] at h;rw[hf] at h;exact h rfl
   |err e=>exact jE (n:=1) (by unfold cB;rw[hc];show (fb O).bind _=_;rw[hf];rfl) (by simp[R.bind])
   |ok o=>
    have go:∀O',(∀n,cB c fb (n+1) O=cB c fb n O')->dB c fb O=dB c fb O':=fun O' hn=>by
     by_cases hx:∃n,cB c fb n O'≠.bad
     ·obtain⟨n,h⟩:=hx
      rw[jE (n:=n) rfl h,jE (n:=n+1) (hn n) h]
     ·have:dB c fb O'=.bad:=by unfold dB;rw[dif_neg hx]
      rw[this]
      unfold dB
      rw[dif_neg]
      rintro⟨n,h⟩
      cases n with
      |zero=>exact h rfl
      |succ n=>rw[hn n] at h;exact hx ⟨n,h⟩
    cases o with
    |nx O'=>exact go O' fun n=>by unfold cB;rw[hc];show (fb O).bind _=_;rw[hf];cases n<;>rfl
    |ct O'=>exact go O' fun n=>by unfold cB;rw[hc];show (fb O).bind _=_;rw[hf];cases n<;>rfl
    |bk O'=>exact jE (n:=1) (by unfold cB;rw[hc];show (fb O).bind _=_;rw[hf];rfl) (by simp[R.bind])
    |rt d=>exact jE (n:=1) (by unfold cB;rw[hc];show (fb O).bind _=_;rw[hf];rfl) (by simp[R.bind])
    |rf d=>exact jE (n:=1) (by unfold cB;rw[hc];show (fb O).bind _=_;rw[hf];rfl) (by simp[R.bind])
theorem V5{c:Expr}{fc:DSt->R Bool}(L:XL X)(hc:DT X E c fc)(hb:fV X E own own own body fb):DS X E own own ol (.While c body [] pos) (dB fc fb):=fun G0=>PS.mono' (A8 L.own hc (hb G0)) fun Dn O H ⟨G,Od,ok,s0,q⟩=>by
 have hx:∃n,cB fc fb n Od≠.bad:=by
  by_cases hx:∃n,cB fc fb n Od≠.bad
  ·exact hx
  ·unfold dB at q;rw[dif_neg hx] at q;exact(show False from q).elim
 obtain⟨n,hn⟩:=hx
 rw[jE rfl hn] at q
 refine⟨fun m O' H'=>∃G' Od',Ok X.K X.mg X.H₀ own Od' O' G' H'/\aH G G'/\aN G0 X.H₀ G' H'/\RW (cB fc fb m Od') (bW X.K X.mg G0 X.H₀ own ol Dn G) (aV X.K X.mg E G0 X.H₀),⟨n,G,Od,ok,aH.refl _,s0,q⟩,?_⟩
 rintro m σ1 H1 ⟨G1,Od1,ok1,e1,s1,w⟩
 cases m with
 |zero=>exact(show False from w).elim
 |succ m=>
  unfold cB at w
  have sp:=ok1.pubStep s1
  refine⟨_,Od1,ok1.pub.1,w.of_bind.mono (fun k _ z G' H' s=>?_) fun _ z=>z.step sp⟩
  have ok':=ok1.drop s.h
  have s':aN G0 X.H₀ G1 H':=s1.trans (.heap ok1.ext s.h)
  cases k with
  |true=>
   refine rY ?_
   refine⟨fun σ2 H2=>∃G' Od',Ok X.K X.mg X.H₀ own Od' σ2 G' H2/\aH G G'/\aN G0 X.H₀ G' H2/\RW (cB fc fb m Od') (bW X.K X.mg G0 X.H₀ own ol Dn G) (aV X.K X.mg E G0 X.H₀),fun σ2 H2 h=>⟨m,Nat.lt_succ_self _,h⟩,?_⟩
   refine⟨G1,Od1,ok',s',(show RW ((fb Od1).bind _) _ _ from z).of_bind.mono (fun o _ z=>?_) fun _ z=>z⟩
   cases o with
   |nx σ3=>exact fun σ4 G4 H4 ok4 s4 e4=>⟨G4,σ3,ok4,e1.trans e4,s4,z⟩
   |ct σ3=>exact fun σ4 G4 H4 ok4 s4 e4=>⟨G4,σ3,ok4,e1.trans e4,s4,z⟩
   |bk σ3=>exact fun σ4 G4 H4 ok4 s4 e4=>(show bW X.K X.mg G0 X.H₀ own ol Dn G (.nx σ3) from z) σ4 G4 H4 ok4 s4 (e1.trans e4)
   |rt d=>exact z
   |rf d=>exact z
  |false=>
   refine rX ?_
   exact(show bW X.K X.mg G0 X.H₀ own ol Dn G (.nx Od1) from z) σ1 G1 H' ok' s' e1
end
def eY(n:Nat)(ds:List D):DSt:=ds.map some++List.replicate (n-ds.length) none
def fin:R aE->R D
 |.ok (.rt d)=>.ok d
 |.ok (.rf ds)=>.ok (.lst ds)
 |.ok (.nx _)=>.ok .non
 |.ok _=>.bad
 |.err e=>.err e
 |.bad=>.bad
def bV(n nN:Nat)(body:DSt->R aE):List D->R D:=fun ds=>bif ds.length==n then fin (body (eY nN ds)) else .bad
theorem Reps.startOk{K:xFg}{mg:Str->Option Value}{G H:Hp}(e:aH G H):∀{ds:List D} {vs:List V} (k:Nat),Reps K mg G ds vs->bX K mg (ds.map some++List.replicate k none) (vs.map some++List.replicate k none) G H
 |[],_,k,h=>by
  cases h
  have:=bX.nones (K:=K) (mg:=mg) (G:=G) (H:=H) (Od:=[]) (O:=[]) ⟨e,rfl,fun i d q=>by simp at q⟩ k
  simpa using this
 |d::ds,_,k,⟨v,r,h1,h2,h3⟩=>by
  subst h1
  exact(Reps.startOk e k h3).cons (x:=some d) (y:=some v) fun d' q=>by cases q;exact⟨v,rfl,h2⟩
section
variable{P:Program}{w:World}{K:xFg}{mg:Str->Option Value}{base:Heap}
theorem aU.mk'{x qual:Str}{st:Stmt}{f:Addr}{fd:FuncData}{N ps:List Str}{k n nN:Nat}{own':List Nat}{body:DSt->R aE}(F:jA K x qual st f fd)(S:i7 N ps (cP st))(hm:mg x=some (.ref f))(b:iN K fd ps [])
  (hn:ps.length=n) (hN:N.length=nN)
  (hb:∀(X:Cx) (E:XK),(∃cdv A outer s H,X=dG (cC P w) P w K mg base N qual (cP st) f cdv A outer s H E)->XC X E k->XL X->fV X E [] own' [] (gE st) body):aU P w K mg base (k+1) x (bV n nN body):=by
 refine⟨f,fd,ps,F.okX S (fun vs H Q E h=>?_) (fun cdv A outer s H vs Q E hr hsp=>?_),hm,F.kp,b⟩
 ·obtain⟨G,ds,e,r,q⟩:=h
  by_cases hd:ds.length=n
  ·rw[<- r.length,hd,hn]
  ·have:(ds.length==n)=false:=by simpa using hd
   unfold bV at q
   rw[this] at q
   exact(show False from q).elim
 ·obtain⟨G,ds,e,r,q⟩:=hsp
  have hd:ds.length=n:=by
   by_cases hd:ds.length=n
   ·exact hd
   ·have:(ds.length==n)=false:=by simpa using hd
    unfold bV at q
    rw[this] at q
    exact(show False from q).elim
  unfold bV at q
  rw[show (ds.length==n)=true by simpa using hd] at q
  have q':RW (fin (body (eY nN ds))) (aM K mg Q G H) (aV K mg E G H):=q
  refine⟨_,hb _ E ⟨cdv,A,outer,s,H,rfl⟩ ⟨rfl,hr,wB⟩ ⟨PassesOwn.leaving⟩ G,G,eY nN ds,?_,.refl e,?_⟩
  ·have:=Reps.startOk e (N.length-vs.length) r
   unfold L2.start eY
   rw[<- hN,r.length]
   exact .zero this
  ·cases hbd:body (eY nN ds) with
   |bad=>rw[hbd] at q';exact q'
   |err e=>rw[hbd] at q';exact q'
   |ok o=>
    rw[hbd] at q'
    cases o with
    |rt d=>exact fun v G' H' s r=>(show aM K mg Q G H d from q') v G' H' s r
    |rf es=>
     intro a vs G' H' s n e g r
     have q2:aM K mg Q G H (.lst es):=q'
     have sg:aH G' (aS G' a (.lst vs)):=kQ g
     refine q2 (.ref a) (aS G' a (.lst vs)) H' ⟨s.g.trans sg,s.h,fun b u p=>?_,fun b u p1 p2=>?_⟩ ⟨a,vs,rfl,bD.of cK,r.mono sg⟩
     ·by_cases hb:b=a
      ·subst hb;rw[cK] at p;cases p;exact e
      ·rw[bM hb] at p;exact s.e b u p
     ·have hb:b≠a:=cS p1 n
      rw[bM hb];exact s.c b u p1 p2
    |nx O=>exact fun O' G' H' ok s _=>(show aM K mg Q G H .non from q') .non G' H' s rfl
    |bk O=>exact(show False from q').elim
    |ct O=>exact(show False from q').elim
end
theorem XC.lc{X:Cx}{E:XK}{k:Nat}(C:XC X E k)(scope:Scope)(NY:List Str)(s0:Shared)(H0:Hp)(Ca:Addr)(ex:List Addr):XC (dH X scope NY s0 H0 Ca ex) E0 k:=⟨C.calm,C.room,CI⟩
end DL
namespace DL
open L2
mutual
def bA:D->D->Bool
 |.non,.non=>true
 |.bl a,.bl b=>a==b
 |.int a,.int b=>a==b
 |.str a,.str b=>a==b
 |.bl a,.int b=>(if a then (1:Int) else 0)==b
 |.int a,.bl b=>a==(if b then (1:Int) else 0)
 |.tup xs,.tup ys=>eqDs xs ys
 |.lst xs,.lst ys=>eqDs xs ys
 |_,_=>false
def eqDs:List D->List D->Bool
 |[],[]=>true
 |x::xs,y::ys=>bA x y&&eqDs xs ys
 |_,_=>false
end
def cE:Nat->D->Bool
 |_,.non=>true
 |_,.bl _=>true
 |_,.int _=>true
 |_,.str _=>true
 |n+1,.tup xs=>xs.all (cE n)
 |n+1,.lst xs=>xs.all (cE n)
 |_,_=>false
theorem sM:∀(xs ys:List D),((List.range (min xs.length ys.length)).all (fun j=>bA (xs.getD j .non) (ys.getD j .non))&&xs.length==ys.length)=eqDs xs ys
 |[],[]=>by unfold eqDs;rfl
 |[],_::_=>by unfold eqDs;simp
 |_::_,[]=>by unfold eqDs;simp
 |x::xs,y::ys=>by
  unfold eqDs
  rw[<- sM xs ys]
  simp only[xan,Nat.succ_min_succ,List.range_succ_eq_map,List.all_cons,List.getD_cons_zero,List.all_map,Bool.and_assoc]
  congr 2
  rw[xbc];simp
theorem wV:∀(n:Nat) (d:D),cE n d=true->bA d d=true:=by
 intro n
 induction n with
 |zero=>intro d h;cases d<;>first|(simp[cE] at h;done)|(unfold bA;simp;done)
 |succ n ih=>
  have hl:∀xs:List D,xs.all (cE n)=true->eqDs xs xs=true:=fun xs=>by
   induction xs with
   |nil=>intro _;unfold eqDs;rfl
   |cons x xs ihx=>
    intro h
    rw[List.all_cons,xax] at h
    unfold eqDs
    rw[ih x h.1,ihx h.2];rfl
  intro d h
  cases d with
  |tup xs=>unfold bA;exact hl xs (by unfold cE at h;exact h)
  |lst xs=>unfold bA;exact hl xs (by unfold cE at h;exact h)
  |_=>first|(simp[cE] at h;done)|(unfold bA;simp;done)
def eJ:D->Option V
 |.non=>some .non
 |.bl b=>some (.bl b)
 |.int i=>some (.int i)
 |.str x=>some (.str x)
 |_=>none
theorem gG{K:xFg}{mg:Str->Option Value}{G:Hp}{d:D}{v x:V}(h:eJ d=some v)(r:aQ K mg G d x):x=v/\lT v=true:=by
 cases d<;>first|(simp[eJ] at h;done)|(simp only[eJ,Option.some.injEq] at h;subst h;simp only[aQ] at r;exact⟨r,rfl⟩)
theorem V6{d d':D}{v v':V}(h:eJ d=some v)(h':eJ d'=some v'):bA d d'=o6 v v':=by
 cases d<;>first|(simp[eJ] at h;done)|(simp only[eJ,Option.some.injEq] at h;subst h;cases d'<;>first|(simp[eJ] at h';done)|(simp only[eJ,Option.some.injEq] at h';subst h';unfold bA o6;first|rfl|simp))
theorem C6{d d':D}{v:V}(h:eJ d=some v)(h':eJ d'=some v):d=d':=by
 cases d<;>first|(simp[eJ] at h;done)|(simp only[eJ,Option.some.injEq] at h;subst h;cases d'<;>first|(simp[eJ] at h';done)|(simp only[eJ,Option.some.injEq] at h';cases h';rfl))
theorem iC{n:Nat}{d:D}(h:cE n d=true):(∃v,eJ d=some v)\/(∃m xs,n=m+1/\d=.tup xs/\xs.all (cE m)=true)\/(∃m xs,n=m+1/\d=.lst xs/\xs.all (cE m)=true):=by
 cases d with
 |tup xs=>cases n with
  |zero=>simp[cE] at h
  |succ m=>exact .inr (.inl ⟨m,xs,rfl,rfl,by unfold cE at h;exact h⟩)
 |lst xs=>cases n with
  |zero=>simp[cE] at h
  |succ m=>exact .inr (.inr ⟨m,xs,rfl,rfl,by unfold cE at h;exact h⟩)
 |non=>exact .inl ⟨_,rfl⟩
 |bl b=>exact .inl ⟨_,rfl⟩
 |int i=>exact .inl ⟨_,rfl⟩
 |str x=>exact .inl ⟨_,rfl⟩
 |_=>simp[cE] at h
section
variable{X:Cx}{pins:List (Addr×Obj)}{O:St}{G H:Hp}{s:Shared}
theorem C7(I:aF X pins O H s){a:Addr}{xs ys:List V}(h1:bO X.K H a xs)(h2:bD X.K H a ys):False:=by
 obtain⟨_,_,⟨o,e,c,_⟩,_⟩:=I.tuple h1
 obtain⟨_,_,⟨o',_,e',c',_⟩,_⟩:=I.list h2
 rw[e] at e';cases e'
 rw[c] at c'
 exact xag c' (by simp)
theorem sN{v:V}{a:Addr}(h:lT v=true):v≠.ref a:=by rintro rfl;cases h
theorem wW(I:aF X pins O H s)(e:aH G H):∀(n:Nat) {d d':D} {v:V},cE n d=true->cE n d'=true->aQ X.K X.mg G d v->aQ X.K X.mg G d' v->d=d':=by
 intro n
 induction n with
 |zero=>
  intro d d' v h h' r r'
  rcases iC h with⟨w,hw⟩|⟨_,_,z,_⟩|⟨_,_,z,_⟩<;>try omega
  rcases iC h' with⟨w',hw'⟩|⟨_,_,z,_⟩|⟨_,_,z,_⟩<;>try omega
  have e1:=(gG hw r).1
  have e2:=(gG hw' r').1
  rw[<- e1] at hw;rw[<- e2] at hw'
  exact C6 hw hw'
 |succ n ih=>
  have hl:∀(xs ys:List D) (vs:List V),xs.all (cE n)=true->ys.all (cE n)=true->Reps X.K X.mg G xs vs->Reps X.K X.mg G ys vs->xs=ys:=by
   intro xs
   induction xs with
   |nil=>
    intro ys vs _ _ r r'
    cases r
    cases ys with
    |nil=>rfl
    |cons y ys=>obtain⟨_,_,z,_⟩:=r';cases z
   |cons x xs ihx=>
    intro ys vs h h' r r'
    obtain⟨v,t,rfl,r1,r2⟩:=r
    cases ys with
    |nil=>cases r'
    |cons y ys=>
     obtain⟨v',t',z,r1',r2'⟩:=r'
     cases z
     rw[List.all_cons,xax] at h h'
     rw[ih h.1 h'.1 r1 r1',ihx ys _ h.2 h'.2 r2 r2']
  intro d d' v h h' r r'
  rcases iC h with⟨w,hw⟩|⟨m,xs,hm,rfl,hx⟩|⟨m,xs,hm,rfl,hx⟩
  ·rcases iC h' with⟨w',hw'⟩|⟨m',ys,hm',rfl,hy⟩|⟨m',ys,hm',rfl,hy⟩
   ·have e1:=(gG hw r).1
    have e2:=(gG hw' r').1
    rw[<- e1] at hw;rw[<- e2] at hw'
    exact C6 hw hw'
   ·obtain⟨e1,e2⟩:=gG hw r
    obtain⟨a,vs,z,_⟩:=r'
    exact xag (e1.symm.trans z) (sN e2)
   ·obtain⟨e1,e2⟩:=gG hw r
    obtain⟨a,vs,z,_⟩:=r'
    exact xag (e1.symm.trans z) (sN e2)
  ·obtain rfl:n=m:=by omega
   obtain⟨a,vs,rfl,q1,q2⟩:=r
   rcases iC h' with⟨w',hw'⟩|⟨m',ys,hm',rfl,hy⟩|⟨m',ys,hm',rfl,hy⟩
   ·obtain⟨e1,e2⟩:=gG hw' r'
    exact xag e1.symm (sN e2)
   ·obtain rfl:n=m':=by omega
    obtain⟨a',vs',z,q1',q2'⟩:=r'
    cases z
    have:=I.tuple_inj (aH.sqT e q1) (aH.sqT e q1')
    subst this
    rw[hl xs ys _ hx hy q2 q2']
   ·obtain⟨a',vs',z,q1',q2'⟩:=r'
    cases z
    exact(C7 I (aH.sqT e q1) (e.seq q1')).elim
  ·obtain rfl:n=m:=by omega
   obtain⟨a,vs,rfl,q1,q2⟩:=r
   rcases iC h' with⟨w',hw'⟩|⟨m',ys,hm',rfl,hy⟩|⟨m',ys,hm',rfl,hy⟩
   ·obtain⟨e1,e2⟩:=gG hw' r'
    exact xag e1.symm (sN e2)
   ·obtain⟨a',vs',z,q1',q2'⟩:=r'
    cases z
    exact(C7 I (aH.sqT e q1') (e.seq q1)).elim
   ·obtain rfl:n=m':=by omega
    obtain⟨a',vs',z,q1',q2'⟩:=r'
    cases z
    have:=I.list_inj (e.seq q1) (e.seq q1')
    subst this
    rw[hl xs ys _ hx hy q2 q2']
theorem C8{α:Type}{us:List α}{j:Nat}(h:j<us.toArray.size):us.toArray[j]=us[j]'(by simpa using h):=by simp
theorem C9{α:Type}{xs:List α}{d:α}{j:Nat}(h:j<xs.length):xs.getD j d=xs[j]:=by simp[List.getD,h]
open SeqAt in
theorem sO{A:Around}{n:Nat}(ih:∀{d d':D} {x x':V} {u u':Value},cE n d=true->cE n d'=true->aQ X.K X.mg G d x->aR x u->aQ X.K X.mg G d' x'->aR x' u'->EqAt A s u u' (bA d d'))
  {xs ys:List D} {vs ws:List V} {us us':List Value} (h:xs.all (cE n)=true) (h':ys.all (cE n)=true) (r:Reps X.K X.mg G xs vs) (q:aX vs us) (r':Reps X.K X.mg G ys ws) (q':aX ws us') :
  ∀j (h1:j<us.toArray.size) (h2:j<us'.toArray.size),EqAt A s us.toArray[j] us'.toArray[j] (bA (xs.getD j .non) (ys.getD j .non)):=by
 intro j h1 h2
 have l1:j<vs.length:=by rw[q.length];simpa using h1
 have l2:j<ws.length:=by rw[q'.length];simpa using h2
 have l3:j<xs.length:=by rw[r.length];exact l1
 have l4:j<ys.length:=by rw[r'.length];exact l2
 obtain⟨v,e1,e2⟩:=r.get (i:=j) (d:=xs[j]) (by simp[l3])
 obtain⟨w,e3,e4⟩:=r'.get (i:=j) (d:=ys[j]) (by simp[l4])
 obtain⟨u,e5,e6⟩:=q.get e1
 obtain⟨u',e7,e8⟩:=q'.get e3
 have z1:us.toArray[j]=u:=by rw[C8 h1];exact(xah.mp e5).2
 have z2:us'.toArray[j]=u':=by rw[C8 h2];exact(xah.mp e7).2
 rw[z1,z2,C9 l3,C9 l4]
 exact ih (xbg.mp h _ (xby l3)) (xbg.mp h' _ (xby l4)) e2 e6 e4 e8
theorem DB(A:Around):A.in1.units=A.units+1:=rfl
open SeqAt in
theorem V7{A:Around}{x x':V}{u u':Value}(q:aR x u)(q':aR x' u')(f:lT x=true)(f':lT x'=true):RcAt A s u u' (o6 x x')/\RcNeAt A s u u' (!o6 x x'):=by
 cases x with
 |non=>
  cases (show u=Value.none from q)
  cases x' with
  |non=>cases (show u'=Value.none from q');exact⟨RcAt.none_none,RcNeAt.none_none⟩
  |bl b=>cases (show u'=Value.bool b from q');exact⟨RcAt.none_bool b,RcNeAt.none_bool b⟩
  |int b=>obtain⟨tb,rfl⟩:=(show ∃t,u'=Value.int b t from q');exact⟨RcAt.none_int b tb,RcNeAt.none_int b tb⟩
  |str b=>obtain⟨tb,rfl⟩:=(show ∃t,u'=Value.str b t from q');exact⟨RcAt.none_str b tb,RcNeAt.none_str b tb⟩
  |_=>cases f'
 |bl a=>
  cases (show u=Value.bool a from q)
  cases x' with
  |non=>cases (show u'=Value.none from q');exact⟨RcAt.bool_none a,RcNeAt.bool_none a⟩
  |bl b=>cases (show u'=Value.bool b from q');exact⟨RcAt.bool_bool a b,RcNeAt.bool_bool a b⟩
  |int b=>obtain⟨tb,rfl⟩:=(show ∃t,u'=Value.int b t from q');exact⟨RcAt.bool_int a b tb,RcNeAt.bool_int a b tb⟩
  |str b=>obtain⟨tb,rfl⟩:=(show ∃t,u'=Value.str b t from q');exact⟨RcAt.bool_str a b tb,RcNeAt.bool_str a b tb⟩
  |_=>cases f'
 |int a=>
  obtain⟨ta,rfl⟩:=(show ∃t,u=Value.int a t from q)
  cases x' with
  |non=>cases (show u'=Value.none from q');exact⟨RcAt.int_none a ta,RcNeAt.int_none a ta⟩
  |bl b=>cases (show u'=Value.bool b from q');exact⟨RcAt.int_bool a ta b,RcNeAt.int_bool a ta b⟩
  |int b=>obtain⟨tb,rfl⟩:=(show ∃t,u'=Value.int b t from q');exact⟨RcAt.int_int a ta b tb,RcNeAt.int_int a ta b tb⟩
  |str b=>obtain⟨tb,rfl⟩:=(show ∃t,u'=Value.str b t from q');exact⟨RcAt.int_str a ta b tb,RcNeAt.int_str a ta b tb⟩
  |_=>cases f'
 |str a=>
  obtain⟨ta,rfl⟩:=(show ∃t,u=Value.str a t from q)
  cases x' with
  |non=>cases (show u'=Value.none from q');exact⟨RcAt.str_none a ta,RcNeAt.str_none a ta⟩
  |bl b=>cases (show u'=Value.bool b from q');exact⟨RcAt.str_bool a ta b,RcNeAt.str_bool a ta b⟩
  |int b=>obtain⟨tb,rfl⟩:=(show ∃t,u'=Value.int b t from q');exact⟨RcAt.str_int a ta b tb,RcNeAt.str_int a ta b tb⟩
  |str b=>obtain⟨tb,rfl⟩:=(show ∃t,u'=Value.str b t from q');exact⟨RcAt.str_str a ta b tb,RcNeAt.str_str a ta b tb⟩
  |_=>cases f'
 |_=>cases f
open SeqAt in
theorem sP{A:Around}{x:V}{u:Value}{b:Addr}{items:Array Value}(fx:lT x=true)(q:aR x u)(hA:A.units<cLine)(h:s.heap.IsTuple b items\/s.heap.IsList b items):EqAt A s u (.ref b) false/\EqAt A s (.ref b) u false/\RcAt A s u (.ref b) false/\RcAt A s (.ref b) u false/\RcNeAt A s u (.ref b) true/\RcNeAt A s (.ref b) u true:=by
 cases x with
 |non=>
  obtain rfl:u=Value.none:=q
  rcases h with h|h
  ·exact⟨EqAt.none_tuple h hA,EqAt.tuple_none h hA,RcAt.none_tuple h hA,RcAt.tuple_none h hA,RcNeAt.none_tuple h hA,RcNeAt.tuple_none h hA⟩
  ·exact⟨EqAt.none_list h hA,EqAt.list_none h hA,RcAt.none_list h hA,RcAt.list_none h hA,RcNeAt.none_list h hA,RcNeAt.list_none h hA⟩
 |bl a=>
  obtain rfl:u=Value.bool a:=q
  rcases h with h|h
  ·exact⟨EqAt.bool_tuple _ h hA,EqAt.tuple_bool _ h hA,RcAt.bool_tuple _ h hA,RcAt.tuple_bool _ h hA,RcNeAt.bool_tuple _ h hA,RcNeAt.tuple_bool _ h hA⟩
  ·exact⟨EqAt.bool_list _ h hA,EqAt.list_bool _ h hA,RcAt.bool_list _ h hA,RcAt.list_bool _ h hA,RcNeAt.bool_list _ h hA,RcNeAt.list_bool _ h hA⟩
 |int a=>
  obtain⟨t,rfl⟩:∃t,u=Value.int a t:=q
  rcases h with h|h
  ·exact⟨EqAt.int_tuple _ _ h hA,EqAt.tuple_int _ _ h hA,RcAt.int_tuple _ _ h hA,RcAt.tuple_int _ _ h hA,RcNeAt.int_tuple _ _ h hA,RcNeAt.tuple_int _ _ h hA⟩
  ·exact⟨EqAt.int_list _ _ h hA,EqAt.list_int _ _ h hA,RcAt.int_list _ _ h hA,RcAt.list_int _ _ h hA,RcNeAt.int_list _ _ h hA,RcNeAt.list_int _ _ h hA⟩
 |str a=>
  obtain⟨t,rfl⟩:∃t,u=Value.str a t:=q
  rcases h with h|h
  ·exact⟨EqAt.str_tuple _ _ h hA,EqAt.tuple_str _ _ h hA,RcAt.str_tuple _ _ h hA,RcAt.tuple_str _ _ h hA,RcNeAt.str_tuple _ _ h hA,RcNeAt.tuple_str _ _ h hA⟩
  ·exact⟨EqAt.str_list _ _ h hA,EqAt.list_str _ _ h hA,RcAt.str_list _ _ h hA,RcAt.list_str _ _ h hA,RcNeAt.str_list _ _ h hA,RcNeAt.list_str _ _ h hA⟩
 |_=>cases fx
theorem pJ{xs ys:List D}:bA (.tup xs) (.tup ys)=eqDs xs ys/\bA (.lst xs) (.lst ys)=eqDs xs ys/\bA (.tup xs) (.lst ys)=false/\bA (.lst xs) (.tup ys)=false:=by
 refine⟨?_,?_,?_,?_⟩<;>(unfold bA;rfl)
theorem sQ{d:D}{v:V}{ys:List D}(h:eJ d=some v):bA d (.tup ys)=false/\bA d (.lst ys)=false/\bA (.tup ys) d=false/\bA (.lst ys) d=false:=by
 cases d<;>first|(simp[eJ] at h;done)|(refine⟨?_,?_,?_,?_⟩<;>(unfold bA;rfl))
set_option maxHeartbeats 4000000 in
open SeqAt in
theorem wX(I:aF X pins O H s)(e:aH G H):∀(n:Nat) {A:Around} {d d':D} {x x':V} {u u':Value},A.units+n<cLine->cE n d=true->cE n d'=true->aQ X.K X.mg G d x->aR x u->aQ X.K X.mg G d' x'->aR x' u'->
  EqAt A s u u' (bA d d')/\RcAt A s u u' (bA d d')/\RcNeAt A s u u' (!bA d d'):=by
 have ff:∀{A:Around} {d d':D} {v v' x x':V} {u u':Value},eJ d=some v->eJ d'=some v'->aQ X.K X.mg G d x->aR x u->aQ X.K X.mg G d' x'->aR x' u'->EqAt A s u u' (bA d d')/\RcAt A s u u' (bA d d')/\RcNeAt A s u u' (!bA d d'):=by
  intro A d d' v v' x x' u u' hv hv' r q r' q'
  obtain⟨rfl,f1⟩:=gG hv r
  obtain⟨rfl,f2⟩:=gG hv' r'
  rw[V6 hv hv']
  exact⟨S5 q q' f1 f2,V7 q q' f1 f2⟩
 have seq:∀{d:D} {m:Nat} {xs:List D} {x:V} {u:Value},d=.tup xs\/d=.lst xs->aQ X.K X.mg G d x->aR x u->∃b items,u=.ref b/\(s.heap.IsTuple b items\/s.heap.IsList b items):=by
  intro d m xs x u hd r q
  rcases hd with rfl|rfl
  ·obtain⟨a,vs,rfl,q1,q2⟩:=r
   obtain⟨us,v1,t1,_⟩:=I.tuple (aH.sqT e q1)
   exact⟨a,_,q,.inl t1⟩
  ·obtain⟨a,vs,rfl,q1,q2⟩:=r
   obtain⟨us,v1,t1,_⟩:=I.list (e.seq q1)
   exact⟨a,_,q,.inr t1.isList⟩
 intro n
 induction n with
 |zero=>
  intro A d d' x x' u u' hu h h' r q r' q'
  rcases iC h with⟨w,hw⟩|⟨_,_,z,_⟩|⟨_,_,z,_⟩<;>try omega
  rcases iC h' with⟨w',hw'⟩|⟨_,_,z,_⟩|⟨_,_,z,_⟩<;>try omega
  exact ff hw hw' r q r' q'
 |succ n ih=>
  intro A d d' x x' u u' hu h h' r q r' q'
  have hA:A.units<cLine:=by omega
  have ih':∀{d d':D} {x x':V} {u u':Value},cE n d=true->cE n d'=true->aQ X.K X.mg G d x->aR x u->aQ X.K X.mg G d' x'->aR x' u'->EqAt A.in1 s u u' (bA d d'):=
   fun a b c d e f=>(ih (A:=A.in1) (by rw[DB];omega) a b c d e f).1
  rcases iC h with⟨w,hw⟩|⟨m,xs,hm,rfl,hx⟩|⟨m,xs,hm,rfl,hx⟩
  ·rcases iC h' with⟨w',hw'⟩|⟨m',ys,hm',rfl,hy⟩|⟨m',ys,hm',rfl,hy⟩
   ·exact ff hw hw' r q r' q'
   ·obtain⟨rfl,f1⟩:=gG hw r
    obtain⟨b,items,rfl,hb⟩:=seq (m:=m') (.inl rfl) r' q'
    obtain⟨z1,_,z3,_,z5,_⟩:=sP f1 q hA hb
    rw[(sQ hw).1];exact⟨z1,z3,z5⟩
   ·obtain⟨rfl,f1⟩:=gG hw r
    obtain⟨b,items,rfl,hb⟩:=seq (m:=m') (.inr rfl) r' q'
    obtain⟨z1,_,z3,_,z5,_⟩:=sP f1 q hA hb
    rw[(sQ hw).2.1];exact⟨z1,z3,z5⟩
  ·obtain rfl:n=m:=by omega
   rcases iC h' with⟨w',hw'⟩|⟨m',ys,hm',rfl,hy⟩|⟨m',ys,hm',rfl,hy⟩
   ·obtain⟨rfl,f1⟩:=gG hw' r'
    obtain⟨b,items,rfl,hb⟩:=seq (m:=n) (.inl rfl) r q
    obtain⟨_,z2,_,z4,_,z6⟩:=sP f1 q' hA hb
    rw[(sQ hw').2.2.1];exact⟨z2,z4,z6⟩
   ·obtain rfl:n=m':=by omega
    have hr:=r;have hr':=r'
    obtain⟨a,vs,rfl,q1,q2⟩:=r
    obtain rfl:u=Value.ref a:=q
    obtain⟨us,v1,t1,_⟩:=I.tuple (aH.sqT e q1)
    obtain⟨b,ws,rfl,q1',q2'⟩:=r'
    obtain rfl:u'=Value.ref b:=q'
    obtain⟨us',v1',t1',_⟩:=I.tuple (aH.sqT e q1')
    have t1:s.heap.IsTuple a us.toArray:=t1
    have t1':s.heap.IsTuple b us'.toArray:=t1'
    have z:=RcAt.tuples t1 t1' hA (sO ih' hx hy q2 v1 q2' v1')
    have zn:=RcNeAt.tuples t1 t1' hA (sO ih' hx hy q2 v1 q2' v1')
    have hz:((List.range (min us.toArray.size us'.toArray.size)).all (fun j=>bA (xs.getD j .non) (ys.getD j .non))&&us.toArray.size==us'.toArray.size)=bA (.tup xs) (.tup ys):=by
     rw[pJ.1,<- sM]
     simp only[xas,<- v1.length,<- v1'.length,<- q2.length,<- q2'.length]
    rw[hz] at z zn
    refine⟨?_,z,zn⟩
    by_cases hab:a=b
    ·subst hab
     have ed:=wW I e (n+1) h h' hr hr'
     rw[ed,wV _ _ h'];exact EqAt.same _
    ·exact EqAt.of_refs hab z
   ·obtain⟨a,vs,rfl,q1,q2⟩:=r
    obtain rfl:u=Value.ref a:=q
    obtain⟨us,v1,t1,_⟩:=I.tuple (aH.sqT e q1)
    obtain⟨b,ws,rfl,q1',q2'⟩:=r'
    obtain rfl:u'=Value.ref b:=q'
    obtain⟨us',v1',t1',_⟩:=I.list (e.seq q1')
    have t1:s.heap.IsTuple a us.toArray:=t1
    rw[pJ.2.2.1]
    exact⟨EqAt.tuple_list t1 t1'.isList hA,RcAt.tuple_list t1 t1'.isList hA,RcNeAt.tuple_list t1 t1'.isList hA⟩
  ·obtain rfl:n=m:=by omega
   rcases iC h' with⟨w',hw'⟩|⟨m',ys,hm',rfl,hy⟩|⟨m',ys,hm',rfl,hy⟩
   ·obtain⟨rfl,f1⟩:=gG hw' r'
    obtain⟨b,items,rfl,hb⟩:=seq (m:=n) (.inr rfl) r q
    obtain⟨_,z2,_,z4,_,z6⟩:=sP f1 q' hA hb
    rw[(sQ hw').2.2.2];exact⟨z2,z4,z6⟩
   ·obtain⟨a,vs,rfl,q1,q2⟩:=r
    obtain rfl:u=Value.ref a:=q
    obtain⟨us,v1,t1,_⟩:=I.list (e.seq q1)
    obtain⟨b,ws,rfl,q1',q2'⟩:=r'
    obtain rfl:u'=Value.ref b:=q'
    obtain⟨us',v1',t1',_⟩:=I.tuple (aH.sqT e q1')
    have t1':s.heap.IsTuple b us'.toArray:=t1'
    rw[pJ.2.2.2]
    exact⟨EqAt.list_tuple t1.isList t1' hA,RcAt.list_tuple t1.isList t1' hA,RcNeAt.list_tuple t1.isList t1' hA⟩
   ·obtain rfl:n=m':=by omega
    have hr:=r;have hr':=r'
    obtain⟨a,vs,rfl,q1,q2⟩:=r
    obtain rfl:u=Value.ref a:=q
    obtain⟨us,v1,t1,_⟩:=I.list (e.seq q1)
    obtain⟨b,ws,rfl,q1',q2'⟩:=r'
    obtain rfl:u'=Value.ref b:=q'
    obtain⟨us',v1',t1',_⟩:=I.list (e.seq q1')
    have both:RcAt A s (.ref a) (.ref b) (bA (.lst xs) (.lst ys))/\RcNeAt A s (.ref a) (.ref b) (!bA (.lst xs) (.lst ys)):=by
     by_cases hl:us.toArray.size=us'.toArray.size
     ·have z:=RcAt.lists t1.isList t1'.isList hl hA (sO ih' hx hy q2 v1 q2' v1')
      have zn:=RcNeAt.lists t1.isList t1'.isList hl hA (sO ih' hx hy q2 v1 q2' v1')
      have hz:(List.range us.toArray.size).all (fun j=>bA (xs.getD j .non) (ys.getD j .non))=bA (.lst xs) (.lst ys):=by
       have hl':xs.length=ys.length:=by rw[q2.length,q2'.length,v1.length,v1'.length];simpa using hl
       rw[pJ.2.1,<- sM,hl',Nat.min_self,xas,<- v1.length,<- q2.length,hl']
       simp
      rw[hz] at z zn
      exact⟨z,zn⟩
     ·have z:=RcAt.lists_lengths t1.isList t1'.isList (by simpa using hl) hA
      have zn:=RcNeAt.lists_lengths t1.isList t1'.isList (by simpa using hl) hA
      have hz:bA (.lst xs) (.lst ys)=false:=by
       have hl':¬xs.length=ys.length:=by rw[q2.length,q2'.length,v1.length,v1'.length];simpa using hl
       rw[pJ.2.1,<- sM]
       simp[hl']
      rw[hz]
      exact⟨z,zn⟩
    refine⟨?_,both⟩
    by_cases hab:a=b
    ·subst hab
     have ed:=wW I e (n+1) h h' hr hr'
     rw[ed,wV _ _ h'];exact EqAt.same _
    ·exact EqAt.of_refs hab both.1
end
end DL
namespace DL
open L2 PyProof.Rows
def B(n:Nat)(i:Int):Prop:=i.natAbs<2^n
theorem B.of{n:Nat}{i:Int}{k:Nat}(h:i.natAbs<=k)(hk:k<2^n:=by decide +kernel):B n i:=xcy h hk
theorem B.log{n:Nat}{i:Int}(h:B n i)(hn:0<n):i.natAbs.log2<n:=T4 hn h
def iD(i:Int):Bool:=decide (i.natAbs.log2<60000000)
theorem V8{n:Nat}{i:Int}(h:B n i)(hn:n<=60000000:=by decide):iD i=true:=by
 refine xab ?_
 cases n with
 |zero=>
  have:i.natAbs=0:=by unfold B at h;omega
  rw[this];decide
 |succ k=>exact xap (h.log (Nat.succ_pos _)) hn
theorem V9{i j:Int}(a:iD i=true)(b:iD j=true):IntMulOk i j:=by
 have h1:i.natAbs.log2<60000000:=xaj a
 have h2:j.natAbs.log2<60000000:=xaj b
 have bits:∀k:Int,k.natAbs.log2<60000000->Builtin.Int.intBits k<=60000000:=fun k h=>by
  unfold Builtin.Int.intBits
  split
  ·exact xbz _
  ·omega
 have b1:=bits i h1
 have b2:=bits j h2
 unfold IntMulOk
 intro z
 simp only[xax,decide_eq_true_eq,Builtin.Int.intTooBig] at z
 have e:=z.2
 have l:(bitsLine:Int)=134217728:=by decide
 rw[l] at e
 omega
def nO(i:Int):Bool:=decide (i≠0/\i.natAbs.log2<9000)
theorem WA{n:Nat}{i:Int}(h:B n i)(h0:i≠0)(hn:n<=9000:=by decide):nO i=true:=by
 refine xab ⟨h0,?_⟩
 cases n with
 |zero=>
  have:i.natAbs=0:=by unfold B at h;omega
  omega
 |succ k=>exact xap (h.log (Nat.succ_pos _)) hn
def wY(i j:Int):Bool:=decide (0<=j/\j<=1000000/\i.natAbs<2^64)
section
variable{X:Cx}{K:xFg}{mg:Str->Option Value}
def gI(C:Int->Int->Bool)(h:Int->Int->Int):D->D->R D
 |.int i,.int j=>bif C i j then .ok (.int (h i j)) else .bad
 |_,_=>.bad
def gB(h:Int->Int->Bool):D->D->R D
 |.int i,.int j=>.ok (.bl (h i j))
 |_,_=>.bad
theorem pK{C:Int->Int->Bool}{h:Int->Int->Int}:fT (gI C h):=by
 intro a b e
 cases a<;>cases b<;>simp only[gI]<;>first|(intro z;cases z)|(intro z;revert z;cases C _ _<;>simp[cond])
theorem sR{h:Int->Int->Bool}:fT (gB h):=by
 intro a b e
 cases a<;>cases b<;>simp only[gB]<;>(intro z;cases z)
theorem pL{C:Int->Int->Bool}{C':Int->Int->Prop}{h:Int->Int->Int}(hc:∀i j,C i j=true->C' i j):fS K mg (rI C' fun i j=>.int (h i j)) (gI C h):=by
 intro G H a b x y Q e ra rb q
 cases a with
 |int i=>cases b with
  |int j=>
   cases ra;cases rb
   cases hC:C i j with
   |false=>simp only[gI,hC,cond_false] at q;exact q.elim
   |true=>
    simp only[gI,hC,cond_true] at q
    exact⟨i,j,rfl,rfl,hc i j hC,aM.now q e rfl⟩
  |_=>exact(show False from q).elim
 |_=>exact(show False from q).elim
theorem sS{h:Int->Int->Bool}:fS K mg (jX fun i j=>.bl (h i j)) (gB h):=by
 intro G H a b x y Q e ra rb q
 cases a with
 |int i=>cases b with
  |int j=>cases ra;cases rb;exact⟨i,j,rfl,rfl,aM.now q e rfl⟩
  |_=>exact(show False from q).elim
 |_=>exact(show False from q).elim
theorem WB:bR X (binaryOp .Mult) (rI (fun i j=>iD i=true/\iD j=true) fun i j=>.int (i*j)):=oZ fun _ _ _ _ _ _ _ hc q=>mul_int q (V9 hc.1 hc.2)
theorem WC:bR X (binaryOp .FloorDiv) (rI (fun _ j=>nO j=true) fun i j=>.int (i.fdiv j)):=oZ fun i j _ _ _ _ _ hc q=>by
 have h:=xaj (p:=j≠0/\j.natAbs.log2<9000) hc
 exact floordiv_int h.1 q (.inl (PyProof.noPylong_of_log2 h.2))
def DC(K:xFg):R2:=fun x y H Q=>∃l b xs zs,x=.ref l/\y=.ref b/\bD K H l xs/\bD K H b zs/\xs.length+zs.length<=sizeLine/\∀p,H p=none->Q (.ref p) (aS H p (.lst (xs++zs)))
theorem WD:bR X (binaryOp .Add) (DC X.K):=by
 intro pins s O H x y v u Q I rx ry h
 obtain⟨l,b,xs,zs,rfl,rfl,hH,hB,hz,q⟩:=h
 cases rx
 cases ry
 obtain⟨its,r,pl,_⟩:=I.list hH
 obtain⟨its2,r2,pl2,_⟩:=I.list hB
 obtain⟨⟨cls,dd,data,sl⟩,ho,hc,n,hd⟩:=id pl.isList
 obtain⟨⟨cls2,dd2,data2,sl2⟩,ho2,hc2,n2,hd2⟩:=id pl2.isList
 simp only at hc hd hc2 hd2
 subst hc hd hc2 hd2
 refine concat_meets ⟨_,ho,rfl⟩ ⟨_,ho2,rfl⟩ noFill_list_add seq_list_add PySem.F.slot_list_add PySem.F.entry_list_add (PySem.F.args_list_add_2 _ _) (list_addW l b its.toArray its2.toArray n n2 dd dd2 sl sl2 (by rw[xas,xas,<- r.length,<- r2.length];exact hz)) ⟨ho,ho2,?_⟩
 have ea:its.toArray++its2.toArray=(its++its2).toArray:=by simp
 rw[ea]
 exact⟨.ref _,_,I.lnew (t':=s.toks) (r.append r2) (by rw[xak];exact hz),rfl,q _ I.fresh⟩
def bL(n:Nat):Bool:=decide (n<=sizeLine)
def aL:D->D->R D
 |.int i,.int j=>.ok (.int (i+j))
 |.str x,.str y=>bif bL (x.length+y.length) then .ok (.str (x++y)) else .bad
 |.lst xs,.lst ys=>bif bL (xs.length+ys.length) then .ok (.lst (xs++ys)) else .bad
 |.tup xs,.tup ys=>bif bL (xs.length+ys.length) && !xs.isEmpty then .ok (.tup (xs++ys)) else .bad
 |_,_=>.bad
theorem WE:fT aL:=by
 intro a b e
 cases a<;>cases b<;>simp only[aL]<;>first|(intro z;cases z;done)|(generalize bL _=k;cases k<;>simp[cond]<;>(try (generalize List.isEmpty _=k2;cases k2<;>simp)))
abbrev WF(K:xFg):R2:=fun x y H Q=>jX (fun i j=>.int (i+j)) x y H Q\/((∃i j,x=.str i/\y=.str j/\i.length+j.length<=sizeLine/\Q (.str (i++j)) H)\/(DC K x y H Q\/BU K x y H Q))
theorem WG:fS K mg (WF K) aL:=by
 intro G H a b x y Q e ra rb q
 cases a with
 |int i=>cases b with
  |int j=>cases ra;cases rb;exact .inl ⟨i,j,rfl,rfl,aM.now q e rfl⟩
  |_=>exact(show False from q).elim
 |str i=>cases b with
  |str j=>
   cases ra;cases rb
   cases hC:bL (i.length+j.length) with
   |false=>simp only[aL,hC,cond_false] at q;exact q.elim
   |true=>
    simp only[aL,hC,cond_true] at q
    exact .inr (.inl ⟨i,j,rfl,rfl,xaj hC,aM.now q e rfl⟩)
  |_=>exact(show False from q).elim
 |lst xs=>cases b with
  |lst ys=>
   obtain⟨p,vs,rfl,h1,h2⟩:=ra
   obtain⟨p',ws,rfl,h1',h2'⟩:=rb
   cases hC:bL (xs.length+ys.length) with
   |false=>simp only[aL,hC,cond_false] at q;exact q.elim
   |true=>
    simp only[aL,hC,cond_true] at q
    refine .inr (.inr (.inl ⟨p,p',vs,ws,rfl,rfl,e.seq h1,e.seq h1',by rw[<- h2.length,<- h2'.length];exact xaj hC,fun l hl=>?_⟩))
    have s:=aN.pub (o:=.lst (vs++ws)) e hl
    exact(show aM K mg Q G H (.lst (xs++ys)) from q) _ _ _ s ⟨l,_,rfl,bD.of cK,(h2.append h2').mono s.g⟩
  |_=>exact(show False from q).elim
 |tup xs=>cases b with
  |tup ys=>
   obtain⟨p,vs,rfl,h1,h2⟩:=ra
   obtain⟨p',ws,rfl,h1',h2'⟩:=rb
   cases hC:(bL (xs.length+ys.length) && !xs.isEmpty) with
   |false=>simp only[aL,hC,cond_false] at q;exact q.elim
   |true=>
    simp only[aL,hC,cond_true] at q
    rw[xax] at hC
    have q':aM K mg Q G H (.tup (xs++ys)):=q
    refine .inr (.inr (.inr ⟨p,p',vs,ws,rfl,rfl,aH.sqT e h1,aH.sqT e h1',fun z=>?_,by rw[<- h2.length,<- h2'.length];exact xaj hC.1,fun z=>?_,fun z l hl=>?_⟩))
    ·subst z
     have:=h2.length
     have hx:xs=[]:=xb0.mp this
     subst hx;simp at hC
    ·subst z
     have:=h2'.length
     have hy:ys=[]:=xb0.mp this
     subst hy
     rw[xbh] at q'
     exact q'.now e ⟨p,vs,rfl,h1,h2⟩
    ·have s:=aN.pub (o:=.tup (vs++ws)) e hl
     exact q' _ _ _ s ⟨l,_,rfl,bO.of cK,(h2.append h2').mono s.g⟩
  |_=>exact(show False from q).elim
 |_=>exact(show False from q).elim
abbrev gSub:D->D->R D:=gI (fun _ _=>true) fun i j=>i-j
abbrev iQ:D->D->R D:=gI (fun i j=>iD i&&iD j) fun i j=>i*j
abbrev dQ:D->D->R D:=gI (fun _ j=>nO j) fun i j=>i.fdiv j
abbrev bK:D->D->R D:=gI (fun _ j=>decide (j≠0)) fun i j=>i.fmod j
abbrev pM:D->D->R D:=gI wY fun i j=>i^j.toNat
abbrev WH:D->D->R D:=gI (fun _ j=>decide (0<=j)) fun i j=>i/2^j.toNat
variable{E:XK}{a b c:Expr}{fa fb fc:DSt->R D}{pos:Pos}
theorem WI(ha:DE X E a fa)(hb:DE X E b fb):DE X E (.BinOp a .Add b pos) (aC aL fa fb):=lZ (RI.or (RZ.or (WD.or SR))) WG WE ha hb
theorem WJ(ha:DE X E a fa)(hb:DE X E b fb):DE X E (.BinOp a .Sub b pos) (aC gSub fa fb):=
 lZ (r:=rI (fun _ _=>True) fun i j=>.int (i-j)) (oZ fun _ _ _ _ _ _ _ _ q=>sub_int q) (pL fun _ _ _=>trivial) pK ha hb
theorem WK(ha:DE X E a fa)(hb:DE X E b fb):DE X E (.BinOp a .Mult b pos) (aC iQ fa fb):=lZ WB (pL fun i j h=>by simpa using h) pK ha hb
theorem WL(ha:DE X E a fa)(hb:DE X E b fb):DE X E (.BinOp a .FloorDiv b pos) (aC dQ fa fb):=lZ WC (pL fun i j h=>h) pK ha hb
theorem WM(ha:DE X E a fa)(hb:DE X E b fb):DE X E (.BinOp a .Mod b pos) (aC bK fa fb):=lZ RJ (pL fun i j h=>xaj h) pK ha hb
theorem WN(ha:DE X E a fa)(hb:DE X E b fb):DE X E (.BinOp a .Pow b pos) (aC pM fa fb):=lZ RK (pL fun i j h=>xaj (p:=0<=j/\j<=1000000/\i.natAbs<2^64) h) pK ha hb
def gP:D->R D
 |.int i=>.ok (.int (-i))
 |_=>.bad
theorem WO(ha:DE X E a fa):DE X E (.UnaryOp .USub a pos) (fD gP fa):=by
 refine VF RM (fun G H d x Q e r q=>?_) (fun d e=>?_) ha
 ·cases d with
  |int i=>cases r;exact⟨i,rfl,aM.now q e rfl⟩
  |_=>exact(show False from q).elim
 ·cases d<;>simp[gP]
structure gH(X:Cx)(op:CmpOp)(g:D->D->R D):Prop where
 ex:∃r,bR X (compareOp op) r/\fS X.K X.mg r g/\fT g
abbrev sT:D->D->R D:=gB fun i j=>decide (i<j)
abbrev eZ:D->D->R D:=gB fun i j=>decide (i<=j)
abbrev dR:D->D->R D:=gB fun i j=>decide (j<i)
abbrev wZ:D->D->R D:=gB fun i j=>decide (j<=i)
theorem w6:gH X .Lt sT:=⟨_,RN,sS,sR⟩
theorem mB:gH X .LtE eZ:=⟨_,RO,sS,sR⟩
theorem gJ:gH X .Gt dR:=⟨_,RP,sS,sR⟩
theorem DD:gH X .GtE wZ:=⟨_,RQ,sS,sR⟩
def fW(a b:D):Bool:=cE 9 a&&cE 9 b
def bG(a b:D):R D:=bif fW a b then .ok (.bl (bA a b)) else .bad
def fN(a b:D):R D:=bif fW a b then .ok (.bl (!bA a b)) else .bad
def DJ(K:xFg)(mg:Str->Option Value)(neg:Bool):R2:=fun x y H Q=>∃G d d',aH G H/\aQ K mg G d x/\aQ K mg G d' y/\fW d d'=true/\Q (.bl (bif neg then !bA d d' else bA d d')) H
theorem WP{k:Nat}(r:c6 k X.A):bR X (compareOp .Eq) (DJ X.K X.mg false):=by
 intro pins s O H x y v u Q I rx ry h
 obtain⟨G,d,d',e,r1,r2,c,q⟩:=h
 unfold fW at c
 rw[xax] at c
 have hu:X.A.units+9<cLine:=by have:=r.un;omega
 exact(wX I e 9 hu c.1 c.2 r1 rx r2 ry).2.1 _ _ _ _ ⟨.bl _,H,I,rfl,q⟩
theorem WQ{k:Nat}(r:c6 k X.A):bR X (compareOp .NotEq) (DJ X.K X.mg true):=by
 intro pins s O H x y v u Q I rx ry h
 obtain⟨G,d,d',e,r1,r2,c,q⟩:=h
 unfold fW at c
 rw[xax] at c
 have hu:X.A.units+9<cLine:=by have:=r.un;omega
 exact(wX I e 9 hu c.1 c.2 r1 rx r2 ry).2.2 _ _ _ _ ⟨.bl _,H,I,rfl,q⟩
theorem DK{k:Nat}(C:XC X E k):gH X .Eq bG:=⟨_,WP C.room,fun G H a b x y Q e ra rb q=>by
 unfold bG at q
 cases hc:fW a b with
 |false=>rw[hc] at q;exact q.elim
 |true=>rw[hc] at q;exact⟨G,a,b,e,ra,rb,hc,aM.now q e rfl⟩,fun a b e=>by unfold bG;cases fW a b<;>simp[cond]⟩
theorem DM{k:Nat}(C:XC X E k):gH X .NotEq fN:=⟨_,WQ C.room,fun G H a b x y Q e ra rb q=>by
 unfold fN at q
 cases hc:fW a b with
 |false=>rw[hc] at q;exact q.elim
 |true=>rw[hc] at q;exact⟨G,a,b,e,ra,rb,hc,aM.now q e rfl⟩,fun a b e=>by unfold fN;cases fW a b<;>simp[cond]⟩
def mC:D->Bool
 |.non=>true
 |_=>false
def iR:D->D->R D
 |d,.non=>.ok (.bl (mC d))
 |.bl a,.bl b=>.ok (.bl (a==b))
 |_,_=>.bad
def pN:D->D->R D
 |d,.non=>.ok (.bl (!mC d))
 |.bl a,.bl b=>.ok (.bl (a != b))
 |_,_=>.bad
theorem DN{G:Hp}{d:D}{x:V}(r:aQ K mg G d x):decide (x=.non)=mC d:=by
 have nr:∀a:Addr,decide (V.ref a=V.non)=false:=fun a=>by simp
 cases d with
 |non=>cases r;rfl
 |bl b=>cases r;rfl
 |int i=>cases r;rfl
 |str y=>cases r;rfl
 |ty n=>cases r;rfl
 |cls c=>obtain⟨C,rfl,_⟩:=r;exact nr _
 |tup xs=>obtain⟨a,vs,rfl,_⟩:=r;exact nr _
 |lst xs=>obtain⟨a,vs,rfl,_⟩:=r;exact nr _
 |dct ks xs=>obtain⟨a,vs,rfl,_⟩:=r;exact nr _
 |exc c as=>obtain⟨a,C,dct,vs,rfl,_⟩:=r;exact nr _
theorem sU:gH X .Is iR:=⟨_,RT.or T5,fun G H a b x y Q e ra rb q=>by
 cases b with
 |non=>cases rb;exact .inl ⟨rfl,by rw[DN ra];cases a<;>exact aM.now q e rfl⟩
 |bl k=>cases a with
  |bl k'=>cases ra;cases rb;exact .inr ⟨k',k,rfl,rfl,aM.now q e rfl⟩
  |_=>exact(show False from q).elim
 |_=>cases a<;>exact(show False from q).elim,fun a b e=>by cases a<;>cases b<;>simp[iR]⟩
theorem DP:gH X .IsNot pN:=⟨_,RU.or T6,fun G H a b x y Q e ra rb q=>by
 cases b with
 |non=>cases rb;exact .inl ⟨rfl,by rw[DN ra];cases a<;>exact aM.now q e rfl⟩
 |bl k=>cases a with
  |bl k'=>cases ra;cases rb;exact .inr ⟨k',k,rfl,rfl,aM.now q e rfl⟩
  |_=>exact(show False from q).elim
 |_=>cases a<;>exact(show False from q).elim,fun a b e=>by cases a<;>cases b<;>simp[pN]⟩
theorem DQ{op:CmpOp}{g:D->D->R D}(cf:gH X op g)(ha:DE X E a fa)(hb:DE X E b fb)(hm:behindInMarks op b=false:=by first|exact cL _ (by decide) (by decide)|rfl):DE X E (.Compare a [op] [b] pos) (aC g fa fb):=by
 obtain⟨r,h1,h2,h3⟩:=cf.ex
 exact U7 h1 h2 h3 ha hb hm
theorem dJ{op:CmpOp}{g:D->D->R D}(cf:gH X op g)(ha:DE X E a fa)(hb:DE X E b fb)(hm:behindInMarks op b=false:=by first|exact cL _ (by decide) (by decide)|rfl):DT X E (.Compare a [op] [b] pos) (aJ (aC g fa fb)):=by
 obtain⟨r,h1,h2,h3⟩:=cf.ex
 exact U8 h1 h2 h3 ha hb hm
theorem w9{op op':CmpOp}{g g':D->D->R D}(cf:gH X op g)(cf':gH X op' g')(ha:DE X E a fa)(hb:DE X E b fb)(hc:DE X E c fc)(hm:lastMarks [op,op'] [b,c]=false:=by with_unfolding_all rfl):DT X E (.Compare a [op,op'] [b,c] pos) (aJ (hR g g' fa fb fc)):=by
 obtain⟨r,h1,h2,h3⟩:=cf.ex
 obtain⟨r',h1',h2',h3'⟩:=cf'.ex
 exact VA h1 h2 h3 h1' h2' h3' ha hb hc hm
end
end DL
namespace DL
open L2 PyProof.Rows
section
variable{X:Cx}{E:XK}{K:xFg}{mg:Str->Option Value}{G H:Hp}
theorem WR:bootBuiltins "all"=some (.builtin "all"):=by rfl
theorem WS:bootBuiltins "isinstance"=some (.builtin "isinstance"):=by rfl
theorem xA:bootBuiltins "int"=some (.type "int"):=by rfl
theorem WT:bootBuiltins "bool"=some (.type "bool"):=by rfl
theorem pO:bootBuiltins "str"=some (.type "str"):=by rfl
theorem DR:bootBuiltins "tuple"=some (.type "tuple"):=by rfl
theorem WU:bootBuiltins "ValueError"=some (.type "ValueError"):=by rfl
theorem Reps.one{d:D}{vs:List V}(h:Reps K mg G [d] vs):∃v,vs=[v]/\aQ K mg G d v:=by
 obtain⟨v,r,rfl,h2,h3⟩:=h
 cases h3
 exact⟨v,rfl,h2⟩
theorem Reps.two{d d':D}{vs:List V}(h:Reps K mg G [d,d'] vs):∃v w,vs=[v,w]/\aQ K mg G d v/\aQ K mg G d' w:=by
 obtain⟨v,r,rfl,h2,h3⟩:=h
 obtain⟨w,rfl,h4⟩:=h3.one
 exact⟨v,w,rfl,h2,h4⟩
def g1{α:Type}(g:D->R α):List D->R α
 |[d]=>g d
 |_=>.bad
def g2{α:Type}(g:D->D->R α):List D->R α
 |[d,e]=>g d e
 |_=>.bad
theorem pP{r:List V->Hp->VK->Prop}{g:D->R D}(h:∀(G H:Hp) (d:D) (v:V) (Q:VK),aH G H->aQ K mg G d v->RW (g d) (aM K mg Q G H) (fun _=>False)->r [v] H Q):hV K mg r (g1 g):=by
 intro G H ds vs Q e rp q
 match ds,rp,q with
 |[],rp,q=>exact(show False from q).elim
 |[d],rp,q=>obtain⟨v,rfl,h1⟩:=rp.one;exact h G H d v Q e h1 q
 |_::_::_,rp,q=>exact(show False from q).elim
theorem xB{r:List V->Hp->VK->Prop}{g:D->D->R D}(h:∀(G H:Hp) (d d':D) (v v':V) (Q:VK),aH G H->aQ K mg G d v->aQ K mg G d' v'->RW (g d d') (aM K mg Q G H) (fun _=>False)->r [v,v'] H Q):hV K mg r (g2 g):=by
 intro G H ds vs Q e rp q
 match ds,rp,q with
 |[],rp,q=>exact(show False from q).elim
 |[d],rp,q=>exact(show False from q).elim
 |[d,d'],rp,q=>obtain⟨v,w,rfl,h1,h2⟩:=rp.two;exact h G H d d' v w Q e h1 h2 q
 |_::_::_::_,rp,q=>exact(show False from q).elim
variable{x:Str}{p pos:Pos}{e:Expr}{es:List Expr}{fs:DSt->R (List D)}
def xC:D->R D
 |.lst xs=>.ok (.int xs.length)
 |.tup xs=>.ok (.int xs.length)
 |.str y=>bif bL y.length then .ok (.int y.length) else .bad
 |_=>.bad
abbrev aY:=g1 xC
theorem WV:hV K mg (fun xs H Q=>(∃p ys,xs=[.ref p]/\(bD K H p ys\/bO K H p ys)/\Q (.int ys.length) H)\/(∃z,xs=[.str z]/\z.length<=sizeLine/\Q (.int z.length) H)) aY:=pP fun G H d v Q e r q=>by
 cases d with
 |lst xs=>
  obtain⟨a,vs,rfl,h1,h2⟩:=r
  exact .inl ⟨a,vs,rfl,.inl (e.seq h1),by rw[<- h2.length];exact aM.now q e rfl⟩
 |tup xs=>
  obtain⟨a,vs,rfl,h1,h2⟩:=r
  exact .inl ⟨a,vs,rfl,.inr (aH.sqT e h1),by rw[<- h2.length];exact aM.now q e rfl⟩
 |str y=>
  cases r
  cases hC:bL y.length with
  |false=>simp only[xC,hC,cond_false] at q;exact q.elim
  |true=>simp only[xC,hC,cond_true] at q;exact .inr ⟨y,rfl,xaj hC,aM.now q e rfl⟩
 |_=>exact(show False from q).elim
theorem DU(hm:X.mg "len"=none)(ha:DA X E (e::es) fs)(hg:Gl X "len":=by rfl)(he:starEach (e::es) X.env=(false,eval e X.env)::starEach es X.env:=by rfl)(hpl:(backTo pos (starEach es X.env)).any (·.1)=false:=by rfl):DE X E (.Call (.Name "len" p) (e::es) [] pos) (aG aY fs):=
 pF (S7.or S8) WV hm PySem.boot_len ha hg (by decide) (by decide) he hpl
def WW:D->R D
 |.int i=>.ok (.int (i.natAbs:Int))
 |_=>.bad
abbrev WX:=g1 WW
def WY:D->D->R D
 |.int i,.int j=>.ok (.int (min i j))
 |_,_=>.bad
def WZ:D->D->R D
 |.int i,.int j=>.ok (.int (max i j))
 |_,_=>.bad
abbrev kU:=g2 WY
abbrev kW:=g2 WZ
theorem W0:hV K mg (fun xs H Q=>∃i j,xs=[.int i,.int j]/\Q (.int (if j<i then j else i)) H) kU:=xB fun G H d d' v v' Q e r r' q=>by
 cases d with
 |int i=>cases d' with
  |int j=>
   cases r;cases r'
   have ea:(if j<i then j else i)=min i j:=by split<;>omega
   exact⟨i,j,rfl,by rw[ea];exact aM.now q e rfl⟩
  |_=>exact(show False from q).elim
 |_=>exact(show False from q).elim
theorem W1:hV K mg (fun xs H Q=>∃i j,xs=[.int i,.int j]/\Q (.int (if j>i then j else i)) H) kW:=xB fun G H d d' v v' Q e r r' q=>by
 cases d with
 |int i=>cases d' with
  |int j=>
   cases r;cases r'
   have ea:(if j>i then j else i)=max i j:=by split<;>omega
   exact⟨i,j,rfl,by rw[ea];exact aM.now q e rfl⟩
  |_=>exact(show False from q).elim
 |_=>exact(show False from q).elim
theorem W2(hc:X.calm=true)(hm:X.mg "min"=none)(ha:DA X E (e::es) fs)(hg:Gl X "min":=by rfl)(he:starEach (e::es) X.env=(false,eval e X.env)::starEach es X.env:=by rfl)(hpl:(backTo pos (starEach es X.env)).any (·.1)=false:=by rfl):DE X E (.Call (.Name "min" p) (e::es) [] pos) (aG kU fs):=
 pF (R3 hc) W0 hm PyProof.Rows.boot_min ha hg (by decide) (by decide) he hpl
theorem W3(hc:X.calm=true)(hm:X.mg "max"=none)(ha:DA X E (e::es) fs)(hg:Gl X "max":=by rfl)(he:starEach (e::es) X.env=(false,eval e X.env)::starEach es X.env:=by rfl)(hpl:(backTo pos (starEach es X.env)).any (·.1)=false:=by rfl):DE X E (.Call (.Name "max" p) (e::es) [] pos) (aG kW fs):=
 pF (R1 hc) W1 hm PyProof.Rows.boot_max ha hg (by decide) (by decide) he hpl
def DV:List D->Option (List Int)
 |[]=>some []
 |.int i::r=>(DV r).map (i::·)
 |_=>none
def kX:List D->Option (List Bool)
 |[]=>some []
 |.bl b::r=>(kX r).map (b::·)
 |_=>none
theorem DX:∀{ds:List D} {bs:List Bool},kX ds=some bs->ds=bs.map D.bl
 |[],ns,h=>by simp only[kX,Option.some.injEq] at h;subst h;rfl
 |.bl i::r,ns,h=>by
  simp only[kX,Option.map_eq_some_iff] at h
  obtain⟨ms,h1,rfl⟩:=h
  rw[DX h1];rfl
theorem xD:∀bs:List Bool,kX (bs.map D.bl)=some bs
 |[]=>rfl
 |n::r=>by rw[xbl];unfold kX;rw[xD r];rfl
def sum1:D->R D
 |.lst xs=>match DV xs with
  |some ns=>.ok (.int ns.sum)
  |none=>.bad
 |_=>.bad
def mD:D->R D
 |.lst xs=>match kX xs with
  |some bs=>.ok (.bl (bs.all id))
  |none=>.bad
 |_=>.bad
abbrev nP:=g1 mD
theorem W4:hV K mg (fun xs H Q=>∃(p:Addr) (bs:List Bool),xs=[.ref p]/\bD K H p (bs.map V.bl)/\Q (.bl (bs.all id)) H) nP:=pP fun G H d v Q e r q=>by
 cases d with
 |lst xs=>
  obtain⟨a,vs,rfl,h1,h2⟩:=r
  cases hn:kX xs with
  |none=>simp only[mD,hn] at q;exact q.elim
  |some ns=>
   simp only[mD,hn] at q
   rw[DX hn] at h2
   rw[Reps.of_bools h2] at h1
   exact⟨a,ns,rfl,e.seq h1,aM.now q e rfl⟩
 |_=>exact(show False from q).elim
theorem DY(hc:X.calm=true)(hm:X.mg "all"=none)(ha:DA X E (e::es) fs)(hg:Gl X "all":=by rfl)(he:starEach (e::es) X.env=(false,eval e X.env)::starEach es X.env:=by rfl)(hpl:(backTo pos (starEach es X.env)).any (·.1)=false:=by rfl):DE X E (.Call (.Name "all" p) (e::es) [] pos) (aG nP fs):=
 pF (UV hc) W4 hm WR ha hg (by decide) (by decide) he hpl
def W5:D->R D
 |.int i=>.ok (.int i)
 |.bl b=>.ok (.int (if b then 1 else 0))
 |_=>.bad
abbrev eD:=g1 W5
theorem W6:hV K mg (fun xs H Q=>(∃i,xs=[.int i]/\Q (.int i) H)\/∃k,xs=[.bl k]/\Q (.int (if k then 1 else 0)) H) eD:=pP fun G H d v Q e r q=>by
 cases d with
 |int i=>cases r;exact .inl ⟨i,rfl,aM.now q e rfl⟩
 |bl b=>cases r;exact .inr ⟨b,rfl,aM.now q e rfl⟩
 |_=>exact(show False from q).elim
theorem W7(hm:X.mg "int"=none)(ha:DA X E (e::es) fs)(hg:Gl X "int":=by rfl)(he:starEach (e::es) X.env=(false,eval e X.env)::starEach es X.env:=by rfl)(hpl:(backTo pos (starEach es X.env)).any (·.1)=false:=by rfl):DE X E (.Call (.Name "int" p) (e::es) [] pos) (aG eD fs):=
 wN R4 W6 hm ha xA hg (by decide) (by decide) he hpl
def W8(g:List D->R (List D))(fs:DSt->R (List D)):DSt->R (List D):=fun O=>(fs O).bind fun ds=>(g ds).noerr
def xE:D->Option String
 |.non=>some "NoneType"
 |.bl _=>some "bool"
 |.int _=>some "int"
 |.str _=>some "str"
 |.tup _=>some "tuple"
 |.lst _=>some "list"
 |.dct _ _=>some "dict"
 |_=>none
def pQ(T:String):Bool:=["int","bool","str","tuple","list","dict"].contains T
def sV(t T:String):Bool:=t==T||(t=="bool"&&T=="int")
theorem mE(t T:String)(ht:["NoneType","bool","int","str","tuple","list","dict"].contains t=true)(hT:pQ T=true):PySem.W.kitOne K (.type t) (.type T)=some (sV t T):=by
 simp only[List.contains_eq_mem,xal,xa2,or_false,decide_eq_true_eq] at ht
 simp only[pQ,List.contains_eq_mem,xal,xa2,or_false,decide_eq_true_eq] at hT
 rcases ht with rfl|rfl|rfl|rfl|rfl|rfl|rfl<;>rcases hT with rfl|rfl|rfl|rfl|rfl|rfl<;>rfl
end
end DL
namespace DL
open L2 PyProof.Rows
section
variable{X:Cx}{E:XK}{K:xFg}{mg:Str->Option Value}{G H:Hp}
variable{x:Str}{p pos:Pos}{e:Expr}{es:List Expr}{fs:DSt->R (List D)}
def DZ(K:xFg)(mg:Str->Option Value):List V->Hp->VK->Prop:=fun xs H Q=>∃G d T v b,xs=[v,.ty T]/\aH G H/\aQ K mg G d v/\(∃t,xE d=some t/\pQ T=true/\b=sV t T)/\Q (.bl b) H
theorem W9:eR X (.builtin "isinstance") (DZ X.K X.mg):=by
 intro pins s O H xs us Q I r h
 obtain⟨G,d,T,v,b,rfl,e,rp,⟨t,ht,hT,rfl⟩,q⟩:=h
 obtain⟨u,w',rfl,ru,rw'⟩:=rT r
 cases (show w'=Value.type T from rw')
 have fin:∀tk,EP X pins O Q (.bool (sV t T)) { s with toks:=tk }:=fun tk=>⟨.bl _,H,I.tok tk,rfl,q⟩
 cases d with
 |non=>cases ht;cases rp;cases (show u=Value.none from ru);exact PySem.W.kia_one PySem.W.kitx_none I.kIn True.intro (mE _ _ rfl hT) (fun z=>nomatch z) fin
 |bl y=>cases ht;cases rp;cases (show u=Value.bool y from ru);exact PySem.W.kia_one PySem.W.kitx_bool I.kIn True.intro (mE _ _ rfl hT) (fun z=>nomatch z) fin
 |int i=>cases ht;cases rp;obtain⟨tk,rfl⟩:=(show ∃tk,u=Value.int i tk from ru);exact PySem.W.kia_one PySem.W.kitx_int I.kIn True.intro (mE _ _ rfl hT) (fun z=>nomatch z) fin
 |str y=>cases ht;cases rp;obtain⟨tk,rfl⟩:=(show ∃tk,u=Value.str y tk from ru);exact PySem.W.kia_one PySem.W.kitx_str I.kIn True.intro (mE _ _ rfl hT) (fun z=>nomatch z) fin
 |tup ds=>
  cases ht
  obtain⟨a,vs,rfl,h1,h2⟩:=rp
  cases (show u=Value.ref a from ru)
  obtain⟨_,_,⟨o,h3,h4,_⟩,_⟩:=I.tuple (aH.sqT e h1)
  exact PySem.W.kia_one PySem.W.kitx_tuple I.kIn ⟨o,h3,h4⟩ (mE _ _ rfl hT) (fun z=>nomatch z) fin
 |lst ds=>
  cases ht
  obtain⟨a,vs,rfl,h1,h2⟩:=rp
  cases (show u=Value.ref a from ru)
  obtain⟨_,_,⟨o,n,h3,h4,_⟩,_⟩:=I.list (e.seq h1)
  exact PySem.W.kia_one PySem.W.kitx_list I.kIn ⟨o,h3,h4⟩ (mE _ _ rfl hT) (fun z=>nomatch z) fin
 |dct ks ds=>
  cases ht
  obtain⟨a,vs,rfl,h1,_⟩:=rp
  cases (show u=Value.ref a from ru)
  obtain⟨_,_,_,_,p⟩:=(show fQ X.prog X.w H s.heap a (.dK (ks.zip vs)) from (aH.rd e h1).ok I.hok)
  obtain⟨o,es,ep,h3,h4,_⟩:=p
  exact PySem.W.kia_one PySem.W.kitx_dict I.kIn ⟨o,h3,h4.1⟩ (mE _ _ rfl hT) (fun z=>nomatch z) fin
 |_=>cases ht
abbrev XA(K:xFg):List V->Hp->VK->Prop:=fun xs H Q=>∃(a C:Addr) (c:V) (cv:Value) (b:Bool),xs=[.ref a,c]/\H a=some (jB a C none)/\((∃D,c=.ref D/\cv=.ref D)\/∃T,c=.ty T/\cv=.type T)/\lW K C/\PySem.W.kitOne K (.ref C) cv=some b/\Q (.bl b) H
def bH:D->D->R D
 |d,.ty T=>match xE d with
  |some t=>bif pQ T then .ok (.bl (sV t T)) else .bad
  |none=>match d with
   |.exc _ []=>bif T=="ValueError" then .ok (.bl true) else .bad
   |_=>.bad
 |.exc c [],.cls d=>match cF c d with
  |some b=>.ok (.bl b)
  |none=>.bad
 |_,_=>.bad
theorem XB:hV K mg (fun xs H Q=>DZ K mg xs H Q\/XA K xs H Q) (g2 bH):=xB fun G H d d' v v' Q e r r' q=>by
 have exc:∀{c as},d=.exc c as->as=[]->∃a C,v=.ref a/\H a=some (jB a C none)/\fR K mg c C:=fun {c as} hd ha=>by
  subst hd;subst ha
  obtain⟨a,C,dct,vs,rfl,h2,h3,h4,h5⟩:=r
  cases h5
  rcases h4 with⟨rfl,_⟩|⟨dx,w,_,z,_⟩
  ·exact⟨a,C,rfl,e _ _ h2,h3⟩
  ·cases z
 cases d' with
 |ty T=>
  cases r'
  cases ht:xE d with
  |some t=>
   cases hT:pQ T with
   |false=>simp only[bH,ht,hT,cond_false] at q;exact q.elim
   |true=>simp only[bH,ht,hT,cond_true] at q;exact .inl ⟨G,d,T,v,_,rfl,e,r,⟨t,ht,hT,rfl⟩,aM.now q e rfl⟩
  |none=>
   cases d with
   |exc c as=>
    cases as with
    |nil=>
     cases hT:T=="ValueError" with
     |false=>simp only[bH,ht,hT,cond_false] at q;exact q.elim
     |true=>
      simp only[bH,ht,hT,cond_true] at q
      obtain⟨a,C,rfl,h1,h2⟩:=exc rfl rfl
      have:=eq_of_beq hT
      subst this
      exact .inr ⟨a,C,_,_,true,rfl,h1,.inr ⟨_,rfl,rfl⟩,h2.exc,h2.val,aM.now q e rfl⟩
    |cons b bs=>simp only[bH,ht] at q;exact q.elim
   |_=>simp only[bH,ht] at q;exact q.elim
 |cls c'=>
  cases d with
  |exc c as=>
   cases as with
   |nil=>
    obtain⟨Dd,rfl,hD⟩:=r'
    cases hs:cF c c' with
    |none=>simp only[bH,hs] at q;exact q.elim
    |some b=>
     simp only[bH,hs] at q
     obtain⟨a,C,rfl,h1,h2⟩:=exc rfl rfl
     exact .inr ⟨a,C,_,_,b,rfl,h1,.inl ⟨Dd,rfl,rfl⟩,h2.exc,h2.isi c' Dd b hs hD,aM.now q e rfl⟩
   |cons b bs=>exact(show False from q).elim
  |_=>exact(show False from q).elim
 |_=>cases d<;>first|exact(show False from q).elim|(rename_i as;cases as<;>exact(show False from q).elim)
theorem jF(hm:X.mg "isinstance"=none)(ha:DA X E (e::es) fs)(hg:Gl X "isinstance":=by rfl)(he:starEach (e::es) X.env=(false,eval e X.env)::starEach es X.env:=by rfl)(hpl:(backTo pos (starEach es X.env)).any (·.1)=false:=by rfl):DE X E (.Call (.Name "isinstance" p) (e::es) [] pos) (aG (g2 bH) fs):=
 pF (W9.or US) XB hm WS ha hg (by decide) (by decide) he hpl
def tO(K:xFg)(mg:Str->Option Value)(E:XK)(f:DSt->R (Option Int)):TO:=fun O H Q=>∃G Od,bX K mg Od O G H/\RW (f Od) (fun o=>∀G' H',aN G H G' H'->Q o H') (aV K mg E G H)
def DO(X:Cx)(E:XK)(e:Option Expr)(f:DSt->R (Option Int)):Prop:=PO X e (tO X.K X.mg E f)
def cR:DSt->R (Option Int):=fun _=>.ok none
def asI:D->R (Option Int)
 |.int i=>.ok (some i)
 |_=>.bad
def bJ(f:DSt->R D):DSt->R (Option Int):=fun O=>(f O).bind asI
theorem PO.mono'{e:Option Expr}{t t':TO}(h:PO X e t)(m:∀O H Q,t' O H Q->t O H Q):PO X e t':=fun pins s O H Q I q=>h pins s O H Q I (m O H Q q)
theorem XF:DO X E none cR:=PO.mono' SL fun O H Q ⟨G,Od,ok,q⟩=>(show ∀G' H',aN G H G' H'->Q none H' from q) G H (.refl ok.ext)
theorem XG{f:DSt->R D}(h:DE X E e f):DO X E (some e) (bJ f):=PO.mono' (SM h) fun O H Q ⟨G,Od,ok,q⟩=>⟨G,Od,ok,q.of_bind.mono (fun d _ z v G' H' s r=>by
 cases d with
 |int i=>cases r;exact⟨i,rfl,(show ∀G' H',aN G H G' H'->Q (some i) H' from z) G' H' s⟩
 |_=>exact(show False from z).elim) fun _ z=>z⟩
def bZ{α:Type}(xs:List α)(lo hi:Option Int):List α:=(xs.drop (HT.sIx xs.length 0 lo)).take (HT.sIx xs.length xs.length hi-HT.sIx xs.length 0 lo)
def D1{α:Type}(xs:List α)(lo hi:Option Int):Bool:=decide (HT.sIx xs.length 0 lo=0/\HT.sIx xs.length xs.length hi=xs.length)
def xF:D->Option Int->Option Int->R D
 |.lst xs,lo,hi=>.ok (.lst (bZ xs lo hi))
 |.tup xs,lo,hi=>bif D1 xs lo hi then .bad else .ok (.tup (bZ xs lo hi))
 |_,_,_=>.bad
def kY(fe:DSt->R D)(fl fh:DSt->R (Option Int)):DSt->R D:=fun O=>(fe O).bind fun d=>(fl O).bind fun lo=>(fh O).bind fun hi=>xF d lo hi
theorem Reps.cut{ds:List D}{vs:List V}(h:Reps K mg G ds vs)(lo hi:Option Int):Reps K mg G (bZ ds lo hi) (i8 vs lo hi):=by
 unfold bZ i8
 rw[h.length]
 exact(h.drop _).take _
theorem XH{fe:DSt->R D}{lo hi:Option Expr}{fl fh:DSt->R (Option Int)}{p2:Pos}(he:DE X E e fe)(hl:DO X E lo fl)(hh:DO X E hi fh):DE X E (.Subscript e (.Slice lo hi none p2) pos) (kY fe fl fh):=by
 refine PE.mono' (BS (S4.or SQ) he hl hh) fun O H Q ⟨G,Od,ok,q⟩=>?_
 refine fJ (P:=aM X.K X.mg Q) ok q fun d v G1 H1 s1 ok1 r1 q1=>?_
 refine⟨G1,Od,ok1,q1.of_bind.mono (fun l _ q2 G2 H2 s2=>?_) fun _ z=>z⟩
 refine⟨G2,Od,ok1.step s2,q2.of_bind.mono (fun u _ q3 G3 H3 s3=>?_) fun _ z=>z.step s2⟩
 have s:=(s1.trans s2).trans s3
 have r3:=r1.mono (s2.g.trans s3.g)
 cases d with
 |lst xs=>
  obtain⟨a,vs,rfl,h1,h2⟩:=r3
  refine .inl ⟨a,vs,rfl,s3.e.seq h1,fun pp hp=>?_⟩
  have sp:=aN.pub (o:=.lst (i8 vs l u)) s3.e hp
  exact(show aM X.K X.mg Q G H (.lst (bZ xs l u)) from q3) _ _ _ (s.trans sp) ⟨pp,_,rfl,bD.of cK,(h2.cut l u).mono sp.g⟩
 |tup xs=>
  obtain⟨a,vs,rfl,h1,h2⟩:=r3
  cases hw:D1 xs l u with
  |true=>simp only[xF,hw,cond_true] at q3;exact q3.elim
  |false=>
   simp only[xF,hw,cond_false] at q3
   refine .inr ⟨a,vs,rfl,aH.sqT s3.e h1,by rw[<- h2.length];exact of_decide_eq_false hw,fun pp hp=>?_⟩
   have sp:=aN.pub (o:=.tup (i8 vs l u)) s3.e hp
   exact(show aM X.K X.mg Q G H (.tup (bZ xs l u)) from q3) _ _ _ (s.trans sp) ⟨pp,_,rfl,bO.of cK,(h2.cut l u).mono sp.g⟩
 |_=>exact(show False from q3).elim
end
def D2(c:Str)(fs:DSt->R (List D)):DSt->R aE:=fun O=>(fs O).bind fun ds=>bif jC ds.length then .err (.exc c []) else .bad
section
variable{P:Program}{w:World}{K:xFg}{mg:Str->Option Value}{base:Heap}{N:List Str}{qual:Str}{scope:Scope}{f:Addr}{cdv:Value}{A:Around}{outer:List Env}{s0:Shared}{H0:Hp}{E:XK}{own own' ol:List Nat}
theorem XI{x:Str}{C:Addr}{e0:Expr}{rest:List Expr}{np cpos pos:Pos}{fs:DSt->R (List D)}(q:PySem.W.excIn K C [.type "ValueError",.type "Exception",.type "BaseException",.type "object"] "ValueError.__new__"=true)(hx:fR K mg x C)
  (ha:DA (dG (cC P w) P w K mg base N qual scope f cdv A outer s0 H0 E) E (e0::rest) fs) (hg:Gl (dG (cC P w) P w K mg base N qual scope f cdv A outer s0 H0 E) x:=by rfl)
  (hdb:(x==("__debug__":Str))=false:=by decide)
  (he:starEach (e0::rest) (envOfC qual scope s0.heap.objs.size f cdv)=(false,eval e0 (envOfC qual scope s0.heap.objs.size f cdv))::starEach rest (envOfC qual scope s0.heap.objs.size f cdv):=by rfl)
  (hpl:(backTo cpos (starEach rest (envOfC qual scope s0.heap.objs.size f cdv))).any (·.1)=false:=by rfl) :
  DS (dG (cC P w) P w K mg base N qual scope f cdv A outer s0 H0 E) E own own' ol (.Raise (some (.Call (.Name x np) (e0::rest) [] cpos)) none pos) (D2 x fs):=fun G0=>
 PS.mono' (CJ q hg hx.here ha hdb he hpl) fun Dn O H ⟨G,Od,ok,s1,z⟩=>by
 have sp:=ok.pubStep s1
 refine⟨_,Od,ok.pub.1,z.of_bind.mono (fun ds _ z vs G' H' s r=>?_) fun _ z=>z.step sp⟩
 cases hf:jC ds.length with
 |false=>rw[hf] at z;exact(show False from z).elim
 |true=>
  rw[hf] at z
  refine⟨by rw[<- r.length];exact wM hf,?_⟩
  exact(show aV K mg E G0 H0 (.exc x []) from z) G' H' C none (sp.trans s) ⟨x,[],[],rfl,hx,.inl ⟨rfl,rfl⟩,Reps.nil⟩
end
def kZ(c:Str):DSt->R aE:=fun _=>.err (.exc c [])
theorem nQ{P:Program}{w:World}{K:xFg}{mg:Str->Option Value}{base:Heap}{N:List Str}{qual:Str}{scope:Scope}{f:Addr}{cdv:Value}{A:Around}{outer:List Env}{s0:Shared}{H0:Hp}{E:XK}{own own' ol:List Nat}{x t:Str}{C:Addr}{np cpos pos tp:Pos}{j}(q:PySem.W.excIn K C [.type "ValueError",.type "Exception",.type "BaseException",.type "object"] "ValueError.__new__"=true)(hx:fR K mg x C)
  (hg:Gl (dG (cC P w) P w K mg base N qual scope f cdv A outer s0 H0 E) x:=by rfl) (hdb:(x==("__debug__":Str))=false:=by decide) :
  DS (dG (cC P w) P w K mg base N qual scope f cdv A outer s0 H0 E) E own own' ol (.Raise (some (.Call (.Name x np) [.Constant (.str t) j tp] [] cpos)) none pos) (kZ x):=
 XI (fs:=aA (eC (.str t)) aD) q hx (cM sG eA) hg hdb
section
variable(K:xFg)(mg:Str->Option Value)
def tSX(G0 H0:Hp)(f:DSt->R aE):kO:=fun Dn E O H=>∃G Od,bX K mg Od O G H/\aN G0 H0 G H/\RW (f Od) (bW K mg G0 H0 [] [] Dn G) (aV K mg E G H)
end
def DSX(X:Cx)(st:Stmt)(f:DSt->R aE):Prop:=∀G0,lX X (cC X.prog X.w) st (tSX X.K X.mg G0 X.H₀ f)
def D5(X:Cx)(st:List Stmt)(f:DSt->R aE):Prop:=∀G0,wC X (cC X.prog X.w) st (tSX X.K X.mg G0 X.H₀ f)
theorem lX.mono'{X:Cx}{CX:eN}{st:Stmt}{t t':kO}(h:lX X CX st t)(m:∀D E O H,t' D E O H->t D E O H):lX X CX st t':=fun pins s O H D E I q=>h pins s O H D E I (m D E O H q)
section
variable{X:Cx}{ol:List Nat}{k:Nat}{x y:Str}{m:List D->R D}{p pos cpos npos:Pos}{e:Expr}{es:List Expr}{fs:DSt->R (List D)}{f g:DSt->R aE}
theorem XJ{st:Stmt}(h:DSX X st f):D5 X [st] f:=fun G0=>UP (h G0)
def sW(m:List D->R D)(fs:DSt->R (List D)):DSt->R D:=fun O=>(fs O).noerr.bind m
theorem XM{G0 G H:Hp}{Od:DSt}{O:L2.St}{Q:VK}{E:XK}{S:D->R aE}{PO:aE->Prop}(ok:bX X.K X.mg Od O G H)(q:RW ((sW m fs Od).bind S) PO (aV X.K X.mg E G H))
  (h:∀d v G' H',aN G H G' H'->aQ X.K X.mg G' d v->RW (S d) PO (aV X.K X.mg E G H)->Q v H'):CL (l5 X.K X.mg m) [] (wF X.K X.mg E0 fs) O H Q E:=by
 obtain⟨ds,e1,q⟩:=nJ q.of_bind.of_bind
 refine⟨G,Od,ok,RW.ok_of e1 fun vs G' H' s r=>?_⟩
 show l5 X.K X.mg m (vs++[]) H' _ E
 rw[xbh]
 exact⟨G',ds,s.e,r,q.mono (fun d _ z v G2 H2 s2 r2=>h d v G2 H2 (s.trans s2) r2 z) fun _ z=>z.step s⟩
theorem XN(hr:c6 k X.A)(F:aU X.prog X.w X.K X.mg X.base k x m)(ha:DA X.nox E0 (e::es) fs)(hg:Gl X x:=by rfl)(hdb:(x==("__debug__":Str))=false:=by decide)
  (he:starEach (e::es) X.env=(false,eval e X.env)::starEach es X.env:=by rfl) (hpl:(backTo cpos (starEach es X.env)).any (·.1)=false:=by rfl) (hs:swapsWith (.Call (.Name x p) (e::es) [] cpos) none pos.line X.env=pure false:=by rfl) :
  DSX X (.Expr (.Call (.Name x p) (e::es) [] cpos) pos) (wU (sW m fs)):=fun G0=>by
 obtain⟨fa,fd,ps,h1,h2,h3,h4⟩:=F.ex
 refine lX.mono' (UO (UM (dvs:=[]) (ds:=[]) h1 hr hg h2 h3 h4 .nil ha hdb he hpl) hs) fun Dn E O H ⟨G,Od,ok,s0,q⟩=>?_
 exact XM (G0:=G0) ok q fun d v G' H' s r z=>(show bW X.K X.mg G0 X.H₀ [] [] Dn G (.nx Od) from z) O G' H' (.zero (ok.step s)) (s0.trans s) s.g
def sX(i:Nat)(c:Str)(body hnd:DSt->R aE):DSt->R aE:=fun O=>match body O with
 |.ok o=>.ok o
 |.err (.exc cc as)=>bif cF cc c==some true then (hnd (O.set i (some (.exc cc as)))).noerr.bind fun o=>match o with
   |.nx O'=>.ok (.nx (O'.set i none))
   |_=>.bad
  else .bad
 |_=>.bad
theorem Ok.unset{K:xFg}{mg:Str->Option Value}{H0 G H:Hp}{Od:DSt}{O:L2.St}{i:Nat}{own:List Nat}(o:Ok K mg H0 own Od O G H)(hi:i∉own):Ok K mg H0 own (Od.set i none) (O.set i none) G H:=by
 have back:∀{j:Nat} {d:D},(Od.set i none)[j]? = some (some d)->j≠i/\Od[j]? = some (some d):=fun {j d} q=>by
  by_cases hj:j=i
  ·subst hj
   have hl:j<Od.length:=by have:=(xah.mp q).1;simpa using this
   rw[xa3 hl] at q;cases q
  ·rw[xai (xa6 hj)] at q;exact⟨hj,q⟩
 refine⟨o.ext,by simp[o.len],fun j d hj q=>?_,fun j d hj q=>?_,fun j l a d1 d2 h1 h2 h3 h4 h5 h6=>?_⟩
 ·obtain⟨hj',q'⟩:=back q
  rw[xai (xa6 hj')];exact o.val j d hj q'
 ·obtain⟨hj',q'⟩:=back q
  rw[xai (xa6 hj')];exact o.mine j d hj q'
 ·obtain⟨hj',q3⟩:=back h3
  obtain⟨hl',q4⟩:=back h4
  rw[xai (xa6 hj')] at h5
  rw[xai (xa6 hl')] at h6
  exact o.dj j l a d1 d2 h1 h2 q3 q4 h5 h6
theorem XO(i:Nat){E:XK}{body:List Stmt}{c n:Str}{np hpos:Pos}{b0:Stmt}{suite:List Stmt}{Dc:Addr}(hst:X.stack=X.env::X.outer)(hf:X.env.frame=some X.env.locals)(hN:X.N.Nodup)
  (hm:X.mg c=some (.ref Dc)) (hb:D5 X body f) (hh:∀x,fV (hdl X x) E0 [] [] [] (b0::suite) g) (hi:X.N[i]? = some n:=by rfl) (hn:X.env.scope.names.lookup n=some .local:=by rfl) (hg:Gl X c:=by rfl)
  (hdb:(c==("__debug__":Str))=false:=by decide):DS X E [] [] [] (.Try body [.ExceptHandler (some (.Name c np)) (some n) (b0::suite) hpos] [] [] pos) (sX i c f g):=fun G0=>
 PS.mono' (UR (th:=tS X.K X.mg E0 G0 X.H₀ [] [] [] g) hst hf hN hi hn hg hm (hb G0) (fun x=>hh x G0) hdb) fun Dn O H ⟨G,Od,ok,s0,q⟩=>by
 have ok0:bX X.K X.mg Od O G H:=by have:=ok.masked;rw[sK] at this;exact this
 unfold sX at q
 cases hbd:f Od with
 |bad=>rw[hbd] at q;exact(show False from q).elim
 |ok o=>
  rw[hbd] at q
  exact⟨fun _ _ _=>False,⟨G,Od,ok0,s0,RW.ok_of hbd q⟩,fun C dct H' x z=>z.elim⟩
 |err ex=>
  rw[hbd] at q
  cases ex with
  |exc cc as=>
   cases hsub:(cF cc c==some true) with
   |false=>simp only[hsub,cond_false] at q;exact q.elim
   |true=>
    simp only[hsub,cond_true] at q
    obtain⟨o,ho1,q⟩:=nJ q.of_bind
    refine⟨fun cv dct H'=>∃C G',cv=.ref C/\aN G H G' H'/\CU X.K X.mg G' (.exc cc as) C dct,⟨G,Od,ok0,s0,?_⟩,?_⟩
    ·rw[hbd]
     exact fun G' H' C dct s r=>⟨C,G',rfl,s,r⟩
    ·rintro C dct H' x ⟨C',G',e1,s',hr⟩ nx
     cases e1
     obtain⟨c2,as2,vs,e2,hxc,hd,hrs⟩:=hr
     cases e2
     refine⟨hxc.ctc c Dc (eq_of_beq hsub) hm,?_⟩
     have sp:=aN.pub (o:=jB x C dct) s'.e nx
     have st:=s'.trans sp
     refine⟨_,Od.set i (some (.exc cc as)),.zero ((ok0.step st).set ⟨x,C,dct,vs,rfl,cK,hxc,hd.mono sp.g,hrs.mono sp.g⟩),s0.trans st,RW.ok_of ho1 ?_⟩
     cases o with
     |nx σ1=>
      have q':bW X.K X.mg G0 X.H₀ [] [] Dn G (.nx (σ1.set i none)):=q
      exact fun σ2 G2 H2 ok2 s2 e2=>q' _ G2 H2 (ok2.unset (by simp)) s2 (st.g.trans e2)
     |_=>exact(show False from q).elim
  |_=>exact(show False from q).elim
end
end DL
namespace DL
open L2 PyProof.Rows
theorem eE{n nN:Nat}{b:DSt->R aE}{ds:List D}{O:DSt}(hl:ds.length=n)(hs:eY nN ds=O):bV n nN b ds=fin (b O):=by
 subst hl;subst hs;unfold bV;rw[beq_self_eq_true];rfl
theorem XC.nox{X:Cx}{E:XK}{k:Nat}(C:XC X E k):XC X.nox E0 k:=⟨C.calm,C.room,CI⟩
theorem XQ{X:Cx}{E:XK}{x:Str}{d:D}{pos:Pos}(h:∃u v,X.mg x=some u/\aR v u/\∀G,aQ X.K X.mg G d v)(hg:Gl X x:=by rfl)(hd:(x==("__debug__":Str))=false:=by decide):DE X E (.Name x pos) (eC d):=by
 obtain⟨u,v,h1,h2,h3⟩:=h
 exact CV h1 h2 h3 hg hd
section
variable{K:xFg}{mg:Str->Option Value}
def mF(c d:Str):Bool:=c==d||d=="ChalkError"
def k4(K:xFg)(mg:Str->Option Value)(C:Addr)(d:Str)(b:Bool):Prop:=
 (∀D,mg d=some (.ref D)->PySem.W.kitOne K (.ref C) (.ref D)=some b)/\(b=true->∀D,mg d=some (.ref D)->PySem.W.exmOne K (.ref C) (.ref D)=some true)
theorem fR.mk'{c:Str}{C:Addr}(here:mg c=some (.ref C))(exc:lW K C)(val:PySem.W.kitOne K (.ref C) (.type "ValueError")=some true)(rows:∀d∈kP,k4 K mg C d (mF c d)):fR K mg c C:=by
 have sub:∀d b,cF c d=some b->d∈kP/\b=mF c d:=fun d b h=>by
  unfold cF at h
  cases hc:(kP.contains c&&kP.contains d) with
  |false=>rw[hc] at h;cases h
  |true=>
   rw[hc] at h
   have h':some (c==d||d=="ChalkError")=some b:=h
   rw[xax] at hc
   exact⟨by simpa using hc.2,by cases h';rfl⟩
 refine⟨here,exc,fun d Dd b h hd=>?_,val,fun d Dd h hd=>?_⟩
 ·obtain⟨h1,rfl⟩:=sub d b h
  exact(rows d h1).1 Dd hd
 ·obtain⟨h1,h2⟩:=sub d true h
  exact(rows d h1).2 h2.symm Dd hd
theorem k4.of{C D0:Addr}{d:Str}{b:Bool}(h:mg d=some (.ref D0))(t:PySem.W.kitOne K (.ref C) (.ref D0)=some b)(u:b=true->PySem.W.exmOne K (.ref C) (.ref D0)=some true):k4 K mg C d b:=
 ⟨fun D hD=>by rw[h] at hD;cases hD;exact t,fun hb D hD=>by rw[h] at hD;cases hD;exact u hb⟩
theorem k4.no{C:Addr}{d:Str}{b:Bool}(h:mg d=none):k4 K mg C d b:=⟨fun D hD=>(by rw[h] at hD;cases hD),fun _ D hD=>(by rw[h] at hD;cases hD)⟩
end
section
variable{P:Program}{w:World}{K:xFg}{mg:Str->Option Value}{base:Heap}
theorem XR{x qual:Str}{st:Stmt}{f:Addr}{fd:FuncData}{N ps:List Str}{k n nN:Nat}{own':List Nat}{body:DSt->R aE}(F:jA K x qual st f fd)(S:i7 N ps (cP st))
  (hn:ps.length=n) (hN:N.length=nN)
  (hb:∀(X:Cx) (E:XK),(∃cdv A outer s H,X=dG (cC P w) P w K mg base N qual (cP st) f cdv A outer s H E)->XC X E k->XL X->fV X E [] own' [] (gE st) body):dN P w K mg base (cC P w) (k+1) f fd ps (l5 K mg (bV n nN body)):=by
 refine F.okX S (fun vs H Q E h=>?_) (fun cdv A outer s H vs Q E hr hsp=>?_)
 ·obtain⟨G,ds,e,r,q⟩:=h
  by_cases hd:ds.length=n
  ·rw[<- r.length,hd,hn]
  ·have:(ds.length==n)=false:=by simpa using hd
   unfold bV at q
   rw[this] at q
   exact(show False from q).elim
 ·obtain⟨G,ds,e,r,q⟩:=hsp
  have hd:ds.length=n:=by
   by_cases hd:ds.length=n
   ·exact hd
   ·have:(ds.length==n)=false:=by simpa using hd
    unfold bV at q
    rw[this] at q
    exact(show False from q).elim
  unfold bV at q
  rw[show (ds.length==n)=true by simpa using hd] at q
  have q':RW (fin (body (eY nN ds))) (aM K mg Q G H) (aV K mg E G H):=q
  refine⟨_,hb _ E ⟨cdv,A,outer,s,H,rfl⟩ ⟨rfl,hr,wB⟩ ⟨PassesOwn.leaving⟩ G,G,eY nN ds,?_,.refl e,?_⟩
  ·have:=Reps.startOk e (N.length-vs.length) r
   unfold L2.start eY
   rw[<- hN,r.length]
   exact .zero this
  ·cases hbd:body (eY nN ds) with
   |bad=>rw[hbd] at q';exact q'
   |err e=>rw[hbd] at q';exact q'
   |ok o=>
    rw[hbd] at q'
    cases o with
    |rt d=>exact fun v G' H' s r=>(show aM K mg Q G H d from q') v G' H' s r
    |rf es=>
     intro a vs G' H' s n e g r
     have q2:aM K mg Q G H (.lst es):=q'
     have sg:aH G' (aS G' a (.lst vs)):=kQ g
     refine q2 (.ref a) (aS G' a (.lst vs)) H' ⟨s.g.trans sg,s.h,fun b u p=>?_,fun b u p1 p2=>?_⟩ ⟨a,vs,rfl,bD.of cK,r.mono sg⟩
     ·by_cases hb:b=a
      ·subst hb;rw[cK] at p;cases p;exact e
      ·rw[bM hb] at p;exact s.e b u p
     ·have hb:b≠a:=cS p1 n
      rw[bM hb];exact s.c b u p1 p2
    |nx O=>exact fun O' G' H' ok s _=>(show aM K mg Q G H .non from q') .non G' H' s rfl
    |bk O=>exact(show False from q').elim
    |ct O=>exact(show False from q').elim
def sY(K:xFg):Sp:=fun vs H Q _=>∃(a:Addr) (ns:List Int),vs=[.ref a]/\bD K H a (ns.map V.int)/\ns.length<=63/\∀H',Q (.bl true) H'
theorem XS{k:Nat}{f:Addr}{fd:FuncData}{m:List D->R D}(F:dN P w K mg base (cC P w) k f fd ["_law_script"] (l5 K mg m))(hm:∀ns:List Int,ns.length<=63->m [.lst (ns.map .int)]=.ok (.bl true)) :
  dN P w K mg base (cC P w) k f fd ["_law_script"] (sY K):=F.imp fun vs H Q E h=>by
 obtain⟨a,ns,rfl,hS,hl,q⟩:=h
 refine⟨H,[.lst (ns.map .int)],aH.refl _,Reps.cons ⟨a,_,rfl,hS,Reps.ints ns⟩ Reps.nil,RW.ok_of (hm ns hl) fun v G' H' s r=>?_⟩
 cases r;exact q H'
end
theorem walkD{l:PySem.W.OpenLaw}{q:Program}{loose:List Str}{XP:(Str->Option Value)->Heap->Prop}{YP:World->Heap->Prop}{d:DefRec}{K:Params->xFg}(k:Nat)(hr:c6 k callerA)(hn:l.most=some 63)(hdf:d.params.defaults=[])
  (hY:∀(w:World) (h:Heap),YP w h->(K w.params).In h)
  (F : ∀ (w : World) (mg : Str -> Option Value) (fa : Addr) (h : Heap), (K w.params).In h -> h.Ns mainGlobals mg -> mg d.name = some (.ref fa) ->
   ∃fd:FuncData,(∀(s:Shared) (u:Value),BindsTo s fd ⟨[u],[]⟩ [("_law_script",u)])/\∀base:Heap,(K w.params).In base->base.Ns mainGlobals mg->dN l.prog w (K w.params) mg base (cC l.prog w) k fa fd ["_law_script"] (sY (K w.params))) :
  PySem.W.WalkO q loose XP YP l.row.toRowW d [] (fun f vs=>PySem.call f vs):=
 L2.walk_of (n:=63) (k:=k) (x:="_law_script") (CX:=fun w=>cC l.prog w) (sp:=fun w=>sY (K w.params)) hn (by decide) hdf hr hY F (fun _ _ a ns hl _ hS=>⟨a,ns,rfl,hS,hl,fun _=>rfl⟩) fun w H s e s' z=>by
  obtain⟨_,_,_,_,_,_,_,_,_,_,_,_,_,z⟩:=z
  exact z.elim
end DL
namespace DL
open L2
def eQ(r:R aE)(g:DSt->R aE):R aE:=r.bind fun o=>match o with
 |.nx O'=>g O'
 |o=>.ok o
theorem c4(f g:DSt->R aE)(O:DSt):aO f g O=eQ (f O) g:=rfl
theorem sZ(O:DSt)(g:DSt->R aE):eQ (.ok (.nx O)) g=g O:=rfl
theorem D6(d:D)(g:DSt->R aE):eQ (.ok (.rt d)) g=.ok (.rt d):=rfl
theorem D7(O:DSt)(g:DSt->R aE):eQ (.ok (.bk O)) g=.ok (.bk O):=rfl
theorem D8(O:DSt)(g:DSt->R aE):eQ (.ok (.ct O)) g=.ok (.ct O):=rfl
theorem D9(e:D)(g:DSt->R aE):eQ (.err e) g=.err e:=rfl
theorem EA(O:DSt):bY O=.ok (.nx O):=rfl
theorem EB(d:D)(O:DSt):aB 0 (some d::O)=.ok d:=rfl
theorem EC(n:Nat)(x:Option D)(O:DSt):aB (n+1) (x::O)=aB n O:=rfl
theorem ED(d:D)(O:DSt):eC d O=.ok d:=rfl
def nR(g:D->D->R D)(a b:R D):R D:=a.bind fun x=>b.bind fun y=>g x y
theorem EF(g:D->D->R D)(fa fb:DSt->R D)(O:DSt):aC g fa fb O=nR g (fa O) (fb O):=rfl
theorem nS(g:D->D->R D)(x y:D):nR g (.ok x) (.ok y)=g x y:=rfl
def unK(g:D->R D)(a:R D):R D:=a.bind g
theorem EH(g:D->R D)(fa:DSt->R D)(O:DSt):fD g fa O=unK g (fa O):=rfl
theorem EI(g:D->R D)(x:D):unK g (.ok x)=g x:=rfl
def xG(m:List D->R D)(a:R (List D)):R D:=a.bind m
theorem EJ(m:List D->R D)(fs:DSt->R (List D))(O:DSt):a7 m fs O=xG m (fs O):=rfl
theorem EK(m:List D->R D)(ds:List D):xG m (.ok ds)=m ds:=rfl
theorem EM(m:List D->R D)(e:D):xG m (.err e)=.err e:=rfl
def EN(m:List D->R D)(a:R (List D)):R D:=a.noerr.bind m
theorem EO(m:List D->R D)(fs:DSt->R (List D))(O:DSt):sW m fs O=EN m (fs O):=rfl
theorem EQ(m:List D->R D)(ds:List D):EN m (.ok ds)=m ds:=rfl
def ER(g:List D->R D)(a:R (List D)):R D:=a.bind fun ds=>(g ds).noerr
theorem ES(g:List D->R D)(fs:DSt->R (List D))(O:DSt):aG g fs O=ER g (fs O):=rfl
theorem ET(g:List D->R D)(ds:List D):ER g (.ok ds)=(g ds).noerr:=rfl
def EU(g:List D->R (List D))(a:R (List D)):R (List D):=a.bind fun ds=>(g ds).noerr
theorem EV(g:List D->R (List D))(fs:DSt->R (List D))(O:DSt):W8 g fs O=EU g (fs O):=rfl
theorem EW(g:List D->R (List D))(ds:List D):EU g (.ok ds)=(g ds).noerr:=rfl
theorem EY{α:Type}(a:α):(R.ok a).noerr=.ok a:=rfl
theorem EZ(O:DSt):aD O=.ok []:=rfl
def xH(a:R D)(b:R (List D)):R (List D):=a.bind fun x=>b.bind fun xs=>.ok (x::xs)
theorem E1(fa:DSt->R D)(fs:DSt->R (List D))(O:DSt):aA fa fs O=xH (fa O) (fs O):=rfl
theorem E2(x:D)(xs:List D):xH (.ok x) (.ok xs)=.ok (x::xs):=rfl
theorem E3(e:D)(b:R (List D)):xH (.err e) b=.err e:=rfl
def j8(a:R (List D)):R D:=a.bind fun ds=>bif jC ds.length then .ok (.tup ds) else .bad
theorem E4(fs:DSt->R (List D))(O:DSt):fE fs O=j8 (fs O):=rfl
theorem E5:j8 (.ok [])=.ok (.tup []):=rfl
theorem E6(a:D):j8 (.ok [a])=.ok (.tup [a]):=rfl
theorem E7(a b:D):j8 (.ok [a,b])=.ok (.tup [a,b]):=rfl
theorem E8(a b c:D):j8 (.ok [a,b,c])=.ok (.tup [a,b,c]):=rfl
theorem E9(a b c d:D):j8 (.ok [a,b,c,d])=.ok (.tup [a,b,c,d]):=rfl
theorem FB(a b c d e:D):j8 (.ok [a,b,c,d,e])=.ok (.tup [a,b,c,d,e]):=rfl
theorem FC(a b c d e f:D):j8 (.ok [a,b,c,d,e,f])=.ok (.tup [a,b,c,d,e,f]):=rfl
theorem FE(a b c d e f g h i:D):j8 (.ok [a,b,c,d,e,f,g,h,i])=.ok (.tup [a,b,c,d,e,f,g,h,i]):=rfl
def j9(a:R (List D)):R (List D):=a.bind fun ds=>bif jC ds.length then .ok ds else .bad
theorem FF(fs:DSt->R (List D))(O:DSt):bP fs O=j9 (fs O):=rfl
theorem FG:j9 (.ok [])=.ok []:=rfl
theorem FH(a:D):j9 (.ok [a])=.ok [a]:=rfl
theorem FI(a b:D):j9 (.ok [a,b])=.ok [a,b]:=rfl
theorem FJ(a b c:D):j9 (.ok [a,b,c])=.ok [a,b,c]:=rfl
theorem FK(a b c d:D):j9 (.ok [a,b,c,d])=.ok [a,b,c,d]:=rfl
theorem FL(a b c d e:D):j9 (.ok [a,b,c,d,e])=.ok [a,b,c,d,e]:=rfl
theorem FM(a b c d e f:D):j9 (.ok [a,b,c,d,e,f])=.ok [a,b,c,d,e,f]:=rfl
def xI(a:R (List D)):R D:=a.bind fun ds=>.ok (.lst ds)
theorem FN(fl:DSt->R (List D))(O:DSt):bE fl O=xI (fl O):=rfl
theorem FO(ds:List D):xI (.ok ds)=.ok (.lst ds):=rfl
def xJ(a:R D):R Bool:=a.bind g6
theorem FP(f:DSt->R D)(O:DSt):aJ f O=xJ (f O):=rfl
theorem FQ(b:Bool):xJ (.ok (.bl b))=.ok b:=rfl
def s9(a:R Bool)(fb:DSt->R Bool)(O:DSt):R Bool:=a.bind fun k=>bif k then fb O else .ok false
theorem FR(fa fb:DSt->R Bool)(O:DSt):eP fa fb O=s9 (fa O) fb O:=rfl
theorem FS(fb:DSt->R Bool)(O:DSt):s9 (.ok true) fb O=fb O:=rfl
theorem FT(fb:DSt->R Bool)(O:DSt):s9 (.ok false) fb O=.ok false:=rfl
def xK(a:R Bool)(fb:DSt->R Bool)(O:DSt):R Bool:=a.bind fun k=>bif k then .ok true else fb O
theorem FU(fa fb:DSt->R Bool)(O:DSt):fU fa fb O=xK (fa O) fb O:=rfl
theorem FV(fb:DSt->R Bool)(O:DSt):xK (.ok true) fb O=.ok true:=rfl
theorem FW(fb:DSt->R Bool)(O:DSt):xK (.ok false) fb O=fb O:=rfl
def FX(a:R Bool):R Bool:=a.bind fun k=>.ok (!k)
theorem FY(fa:DSt->R Bool)(O:DSt):eU fa O=FX (fa O):=rfl
theorem FZ(b:Bool):FX (.ok b)=.ok (!b):=rfl
def xL(a:R D)(fb:DSt->R D)(O:DSt):R D:=a.bind fun x=>(g6 x).bind fun k=>bif k then fb O else .ok (.bl false)
theorem GA(fa fb:DSt->R D)(O:DSt):hU fa fb O=xL (fa O) fb O:=rfl
theorem GB(fb:DSt->R D)(O:DSt):xL (.ok (.bl true)) fb O=fb O:=rfl
theorem GC(fb:DSt->R D)(O:DSt):xL (.ok (.bl false)) fb O=.ok (.bl false):=rfl
def xM(a:R D)(fb:DSt->R D)(O:DSt):R D:=a.bind fun x=>(g6 x).bind fun k=>bif k then .ok (.bl true) else fb O
theorem GD(fa fb:DSt->R D)(O:DSt):vOr fa fb O=xM (fa O) fb O:=rfl
theorem GF(fb:DSt->R D)(O:DSt):xM (.ok (.bl true)) fb O=.ok (.bl true):=rfl
theorem GG(fb:DSt->R D)(O:DSt):xM (.ok (.bl false)) fb O=fb O:=rfl
def GH(a:R D):R D:=a.bind fun x=>(g6 x).bind fun k=>.ok (.bl !k)
theorem GI(fa:DSt->R D)(O:DSt):wK fa O=GH (fa O):=rfl
theorem GJ(b:Bool):GH (.ok (.bl b))=.ok (.bl !b):=rfl
def xN(c:R Bool)(fa fb:DSt->R D)(O:DSt):R D:=c.bind fun k=>bif k then fa O else fb O
theorem GK(c:DSt->R Bool)(fa fb:DSt->R D)(O:DSt):eIf c fa fb O=xN (c O) fa fb O:=rfl
theorem GL(fa fb:DSt->R D)(O:DSt):xN (.ok true) fa fb O=fa O:=rfl
theorem GM(fa fb:DSt->R D)(O:DSt):xN (.ok false) fa fb O=fb O:=rfl
def tD(c:R Bool)(f g:DSt->R aE)(O:DSt):R aE:=c.bind fun k=>bif k then f O else g O
theorem fX(c:DSt->R Bool)(f g:DSt->R aE)(O:DSt):bT c f g O=tD (c O) f g O:=rfl
theorem GN(f g:DSt->R aE)(O:DSt):tD (.ok true) f g O=f O:=rfl
theorem GO(f g:DSt->R aE)(O:DSt):tD (.ok false) f g O=g O:=rfl
def GP(g g':D->D->R D)(a b c:R D):R D:=a.bind fun x=>b.bind fun y=>(g x y).bind fun z=>(g6 z).bind fun k=>bif k then c.bind fun w=>g' y w else .ok (.bl false)
theorem GQ(g g':D->D->R D)(fa fb fc:DSt->R D)(O:DSt):hR g g' fa fb fc O=GP g g' (fa O) (fb O) (fc O):=rfl
theorem GR(p q:Int->Int->Bool)(i j k:Int):GP (gB p) (gB q) (.ok (.int i)) (.ok (.int j)) (.ok (.int k))=.ok (.bl (p i j&&q j k)):=by
 show (bif p i j then R.ok (D.bl (q j k)) else R.ok (D.bl false))=_
 cases p i j<;>rfl
def GS(i:Nat)(l:R (List D))(a:R D)(O:DSt):R aE:=l.bind fun ds=>a.bind fun d=>bif most ds.length then .ok (.nx (O.set i (some (.lst (ds++[d]))))) else .bad
theorem xO(own:List Nat)(i:Nat)(fe:DSt->R D)(O:DSt):l9 own i fe O=GS i (aK O i) (fe (mask own O)) O:=rfl
theorem GU{n:Nat}(h:n<=1000000):most n=true:=xab (xcy h (by decide))
theorem GV(i:Nat)(ds:List D)(d:D)(O:DSt)(h:ds.length<=1000000):GS i (.ok ds) (.ok d) O=.ok (.nx (O.set i (some (.lst (ds++[d]))))):=by
 show (bif most ds.length then _ else _)=_
 rw[GU h];rfl
def GW(i:Nat)(l:R (List D))(a:R D)(O:DSt):R aE:=l.bind fun ds=>a.bind fun d=>bif most ds.length&&imm d then .ok (.nx (O.set i (some (.lst (ds++[d]))))) else .bad
theorem GX(i:Nat)(fe:DSt->R D)(O:DSt):V3 i fe O=GW i (aK O i) (fe O) O:=rfl
theorem XT(i:Nat)(ds:List D)(d:D)(O:DSt)(h:ds.length<=1000000)(h':imm d=true):GW i (.ok ds) (.ok d) O=.ok (.nx (O.set i (some (.lst (ds++[d]))))):=by
 show (bif most ds.length&&imm d then _ else _)=_
 rw[GU h,h'];rfl
theorem GY(ds:List D)(O:DSt):aK (some (.lst ds)::O) 0=.ok ds:=rfl
theorem GZ(x:Option D)(O:DSt)(n:Nat):aK (x::O) (n+1)=aK O n:=rfl
theorem gQ{i:Int}(h1:-(10^100)<=i)(h2:i<=10^100):iD i=true:=V8 (n:=400) (B.of (k:=10^100) (by omega))
theorem HA{i:Int}(h1:-(10^100)<=i)(h2:i<=10^100)(h:i≠0):nO i=true:=WA (n:=400) (B.of (k:=10^100) (by omega)) h
def xP(a:R D):R aE:=a.bind fun d=>.ok (.rt d)
theorem HB(fe:DSt->R D)(O:DSt):bI fe O=xP (fe O):=rfl
theorem HC(d:D):xP (.ok d)=.ok (.rt d):=rfl
theorem HD(e:D):xP (.err e)=.err e:=rfl
def xQ(a:R D)(O:DSt):R aE:=a.bind fun _=>.ok (.nx O)
theorem HE(fe:DSt->R D)(O:DSt):wU fe O=xQ (fe O) O:=rfl
theorem HF(d:D)(O:DSt):xQ (.ok d) O=.ok (.nx O):=rfl
theorem HG(e:D)(O:DSt):xQ (.err e) O=.err e:=rfl
def tF(i:Nat)(a:R D)(O:DSt):R aE:=a.bind fun d=>.ok (.nx (O.set i (some d)))
theorem jG(i:Nat)(fe:DSt->R D)(O:DSt):bN i fe O=tF i (fe O) O:=rfl
theorem xR(own:List Nat)(i:Nat)(fe:DSt->R D)(O:DSt):j6 own i fe O=tF i (fe (mask own O)) O:=rfl
theorem xS(i:Nat)(d:D)(O:DSt):tF i (.ok d) O=.ok (.nx (O.set i (some d))):=rfl
theorem HH(i:Nat)(e:D)(O:DSt):tF i (.err e) O=.err e:=rfl
def HI(i:Nat)(a:R D)(O:DSt):R aE:=a.bind fun d=>bif imm d then .ok (.nx (O.set i (some d))) else .bad
theorem XU(i:Nat)(fe:DSt->R D)(O:DSt):VV i fe O=HI i (fe O) O:=rfl
theorem XV(i:Nat)(d:D)(O:DSt)(h:imm d=true):HI i (.ok d) O=.ok (.nx (O.set i (some d))):=by
 show (bif imm d then _ else _)=_
 rw[h];rfl
def HJ(i:Nat)(a:R (List D))(O:DSt):R aE:=a.bind fun ds=>.ok (.nx (O.set i (some (.lst ds))))
theorem HK(own:List Nat)(i:Nat)(fe:DSt->R (List D))(O:DSt):l8 own i fe O=HJ i (fe (mask own O)) O:=rfl
theorem HL(i:Nat)(ds:List D)(O:DSt):HJ i (.ok ds) O=.ok (.nx (O.set i (some (.lst ds)))):=rfl
def pR(ks:List Nat)(gp:D->R (List D))(a:R D)(O:DSt):R aE:=a.bind fun d=>(gp d).noerr.bind fun us=>.ok (.nx (setAll O ks us))
theorem HM(own ks:List Nat)(gp:D->R (List D))(fe:DSt->R D)(O:DSt):V1 own ks gp fe O=pR ks gp (fe (mask own O)) O:=rfl
theorem HN(i j:Nat)(a b:D)(O:DSt):pR [i,j] (dI 2) (.ok (.tup [a,b])) O=.ok (.nx ((O.set i (some a)).set j (some b))):=rfl
theorem HP(i j:Nat)(a b:D)(O:DSt):pR [i,j] (dI 2) (.ok (.lst [a,b])) O=.ok (.nx ((O.set i (some a)).set j (some b))):=rfl
theorem HQ(i j k:Nat)(a b c:D)(O:DSt):pR [i,j,k] (dI 3) (.ok (.tup [a,b,c])) O=.ok (.nx (((O.set i (some a)).set j (some b)).set k (some c))):=rfl
theorem HR(i j k:Nat)(a b c:D)(O:DSt):pR [i,j,k] (dI 3) (.ok (.lst [a,b,c])) O=.ok (.nx (((O.set i (some a)).set j (some b)).set k (some c))):=rfl
def HS(i j:Nat)(a:R (List D))(O:DSt):R aE:=a.bind fun ds=>match ds with
 |[a,b]=>.ok (.nx ((O.set i (some a)).set j (some b)))
 |_=>.bad
theorem HU(own:List Nat)(i j:Nat)(fs:DSt->R (List D))(O:DSt):V2 own i j fs O=HS i j (fs (mask own O)) O:=rfl
theorem HV(i j:Nat)(a b:D)(O:DSt):HS i j (.ok [a,b]) O=.ok (.nx ((O.set i (some a)).set j (some b))):=rfl
def HW(c:Str)(a:R (List D)):R aE:=a.bind fun ds=>bif jC ds.length then .err (.exc c []) else .bad
theorem HX(c:Str)(fs:DSt->R (List D))(O:DSt):D2 c fs O=HW c (fs O):=rfl
theorem HY(c:Str)(a:D):HW c (.ok [a])=.err (.exc c []):=rfl
theorem HZ(c:Str)(O:DSt):kZ c O=.err (.exc c []):=rfl
def xT(i:Nat)(c:Str)(r:R aE)(hnd:DSt->R aE)(O:DSt):R aE:=match r with
 |.ok o=>.ok o
 |.err (.exc cc as)=>bif cF cc c==some true then (hnd (O.set i (some (.exc cc as)))).noerr.bind fun o=>match o with
   |.nx O'=>.ok (.nx (O'.set i none))
   |_=>.bad
  else .bad
 |_=>.bad
theorem H9(i:Nat)(c:Str)(body hnd:DSt->R aE)(O:DSt):sX i c body hnd O=xT i c (body O) hnd O:=rfl
theorem IA(i:Nat)(c:Str)(o:aE)(hnd:DSt->R aE)(O:DSt):xT i c (.ok o) hnd O=.ok o:=rfl
def IB(i:Nat)(r:R aE):R aE:=r.noerr.bind fun o=>match o with
 |.nx O'=>.ok (.nx (O'.set i none))
 |_=>.bad
theorem IC(i:Nat)(O:DSt):IB i (.ok (.nx O))=.ok (.nx (O.set i none)):=rfl
theorem ID(i:Nat)(c cc:Str)(as:List D)(hnd:DSt->R aE)(O:DSt)(h:cF cc c=some true):xT i c (.err (.exc cc as)) hnd O=IB i (hnd (O.set i (some (.exc cc as)))):=by
 show (bif cF cc c==some true then _ else _)=_
 rw[h];rfl
theorem IE(d:D):fin (.ok (.rt d))=.ok d:=rfl
theorem IF(O:DSt):fin (.ok (.nx O))=.ok .non:=rfl
theorem IG(e:D):fin (.err e)=.err e:=rfl
theorem xU(i j:Int):aL (.int i) (.int j)=.ok (.int (i+j)):=rfl
theorem IH(i j:Int):gSub (.int i) (.int j)=.ok (.int (i-j)):=rfl
theorem kA(i j:Int)(hi:iD i=true)(hj:iD j=true):iQ (.int i) (.int j)=.ok (.int (i*j)):=by
 show (bif iD i&&iD j then _ else _)=_
 rw[hi,hj];rfl
theorem mG(i j:Int)(h:nO j=true)(h0:0<j):dQ (.int i) (.int j)=.ok (.int (i/j)):=by
 show (bif nO j then R.ok (D.int (i.fdiv j)) else .bad)=_
 rw[h,Int.fdiv_eq_ediv_of_nonneg _ (Int.le_of_lt h0)];rfl
theorem fO(i j:Int)(h0:0<j):bK (.int i) (.int j)=.ok (.int (i%j)):=by
 have:decide (j≠0)=true:=xab (by omega)
 show (bif decide (j≠0) then R.ok (D.int (i.fmod j)) else .bad)=_
 rw[this,Int.fmod_eq_emod_of_nonneg _ (Int.le_of_lt h0)];rfl
theorem XW(i j:Int)(h:wY i j=true):pM (.int i) (.int j)=.ok (.int (i^j.toNat)):=by
 show (bif wY i j then _ else _)=_
 rw[h];rfl
theorem XY(i j:Int)(h:0<=j):WH (.int i) (.int j)=.ok (.int (i/2^j.toNat)):=by
 show (bif decide (0<=j) then _ else _)=_
 rw[xab h];rfl
theorem II(i:Int):gP (.int i)=.ok (.int (-i)):=rfl
theorem IJ(i j:Int):sT (.int i) (.int j)=.ok (.bl (decide (i<j))):=rfl
theorem IK(i j:Int):eZ (.int i) (.int j)=.ok (.bl (decide (i<=j))):=rfl
theorem IL(i j:Int):dR (.int i) (.int j)=.ok (.bl (decide (j<i))):=rfl
theorem IM(i j:Int):wZ (.int i) (.int j)=.ok (.bl (decide (j<=i))):=rfl
theorem mH{a b:D}(h:fW a b=true):bG a b=.ok (.bl (bA a b)):=by unfold bG;rw[h];rfl
theorem tH{a b:D}(h:fW a b=true):fN a b=.ok (.bl (!bA a b)):=by unfold fN;rw[h];rfl
theorem xV(i j:Int):bA (.int i) (.int j)=decide (i=j):=by unfold bA;rfl
theorem xW(i j:Int):bG (.int i) (.int j)=.ok (.bl (decide (i=j))):=by rw[mH rfl,xV]
theorem IN(i j:Int):fN (.int i) (.int j)=.ok (.bl (!decide (i=j))):=by rw[tH rfl,xV]
theorem IP(i j:Bool):bG (.bl i) (.bl j)=.ok (.bl (i==j)):=by rw[mH rfl];unfold bA;rfl
theorem IQ(i j:Bool):fN (.bl i) (.bl j)=.ok (.bl (!(i==j))):=by rw[tH rfl];unfold bA;rfl
abbrev t3(x y z:Int):D:=.tup [.int x,.int y,.int z]
abbrev l3(x y z:Int):D:=.lst [.int x,.int y,.int z]
theorem IR:∀(ns ms:List Int),eqDs (ns.map D.int) (ms.map D.int)=decide (ns=ms)
 |[],[]=>by unfold eqDs;rfl
 |[],_::_=>by unfold eqDs;rfl
 |_::_,[]=>by unfold eqDs;rfl
 |n::ns,m::ms=>by
  show eqDs (D.int n::ns.map D.int) (D.int m::ms.map D.int)=_
  unfold eqDs
  rw[IR ns ms,xV,xbc]
  simp
theorem xX(a b c x y z:Int):bA (t3 a b c) (t3 x y z)=decide (a=x/\b=y/\c=z):=by
 have:=IR [a,b,c] [x,y,z]
 unfold bA
 rw[show ([D.int a,.int b,.int c]:List D)=[a,b,c].map D.int from rfl,show ([D.int x,.int y,.int z]:List D)=[x,y,z].map D.int from rfl,this,xbc]
 simp
theorem XZ(a b c x y z:Int):bA (l3 a b c) (l3 x y z)=decide (a=x/\b=y/\c=z):=by
 have:=xX a b c x y z
 unfold bA at this ⊢
 exact this
theorem IS(a b c x y z:Int):bG (t3 a b c) (t3 x y z)=.ok (.bl (decide (a=x/\b=y/\c=z))):=by rw[mH rfl,xX]
theorem IT(a b c x y z:Int):fN (t3 a b c) (t3 x y z)=.ok (.bl (!decide (a=x/\b=y/\c=z))):=by rw[tH rfl,xX]
theorem IU(a b c x y z:Int):bG (l3 a b c) (l3 x y z)=.ok (.bl (decide (a=x/\b=y/\c=z))):=by rw[mH rfl,XZ]
theorem IV(a b:Bool):iR (.bl a) (.bl b)=.ok (.bl (a==b)):=rfl
theorem IW(a b:Bool):pN (.bl a) (.bl b)=.ok (.bl (a != b)):=rfl
theorem IX(d:D):iR d .non=.ok (.bl (mC d)):=by cases d<;>rfl
theorem IY(d:D):pN d .non=.ok (.bl (!mC d)):=by cases d<;>rfl
theorem IZ(a b c:D):aW (.tup [a,b,c]) (.int 0)=.ok a:=rfl
theorem I0(a b c:D):aW (.tup [a,b,c]) (.int 1)=.ok b:=rfl
theorem JA(a b c:D):aW (.tup [a,b,c]) (.int 2)=.ok c:=rfl
theorem JB(a b c:D):aW (.lst [a,b,c]) (.int 0)=.ok a:=rfl
theorem JC(a b c:D):aW (.lst [a,b,c]) (.int 1)=.ok b:=rfl
theorem JD(a b c:D):aW (.lst [a,b,c]) (.int 2)=.ok c:=rfl
theorem pS{xs:List D}{j:Nat}{d:D}(h:xs[j]? = some d):aW (.lst xs) (.int (j:Int))=.ok d:=by
 show (match eS xs (j:Int) with|some d=>R.ok d|none=>.bad)=_
 rw[SU h]
theorem X0(xs:List D)(d:D):aW (.lst (xs++[d])) (.int (-1))=.ok d:=by
 show (match eS (xs++[d]) (-1) with|some d=>R.ok d|none=>.bad)=_
 rw[SV]
theorem JE(xs:List D):aY [.lst xs]=.ok (.int xs.length):=rfl
theorem JF:aY [.tup []]=.ok (.int 0):=rfl
theorem JG(a:D):aY [.tup [a]]=.ok (.int 1):=rfl
theorem JH(a b:D):aY [.tup [a,b]]=.ok (.int 2):=rfl
theorem JI(a b c:D):aY [.tup [a,b,c]]=.ok (.int 3):=rfl
theorem JJ(a b c d:D):aY [.tup [a,b,c,d]]=.ok (.int 4):=rfl
theorem JK(i:Int):WX [.int i]=.ok (.int (i.natAbs:Int)):=rfl
theorem JL(i j:Int):kU [.int i,.int j]=.ok (.int (min i j)):=rfl
theorem JM(i j:Int):kW [.int i,.int j]=.ok (.int (max i j)):=rfl
theorem JN(b:Bool):eD [.bl b]=.ok (.int (if b then 1 else 0)):=rfl
theorem JO(i:Int):g2 bH [.int i,.ty "int"]=.ok (.bl true):=rfl
theorem JP(i:Int):g2 bH [.int i,.ty "bool"]=.ok (.bl false):=rfl
theorem JQ(i:Bool):g2 bH [.bl i,.ty "bool"]=.ok (.bl true):=rfl
theorem JR(i:Bool):g2 bH [.bl i,.ty "int"]=.ok (.bl true):=rfl
theorem JS(xs:List D):g2 bH [.tup xs,.ty "tuple"]=.ok (.bl true):=rfl
theorem JT(xs:List D):g2 bH [.lst xs,.ty "list"]=.ok (.bl true):=rfl
theorem JU(xs:List D):g2 bH [.lst xs,.ty "tuple"]=.ok (.bl false):=rfl
theorem JV(xs:List D):g2 bH [.tup xs,.ty "list"]=.ok (.bl false):=rfl
theorem e9{c d:Str}{b:Bool}(h:cF c d=some b):g2 bH [.exc c [],.cls d]=.ok (.bl b):=by
 show (match cF c d with|some b=>R.ok (D.bl b)|none=>.bad)=_
 rw[h]
theorem JW(c:Str):g2 bH [.exc c [],.ty "ValueError"]=.ok (.bl true):=rfl
theorem xY(j:Int)(h:fL j=true):iA [.int j]=.ok (cH 0 j.toNat):=by
 show (bif fL j then _ else _)=_
 rw[h];rfl
theorem JX(i j:Int)(h:fL i=true)(h':fL j=true):nK [.int i,.int j]=.ok (cH i (j-i).toNat):=by
 show (bif fL i&&fL j then _ else _)=_
 rw[h,h'];rfl
theorem pT{i:Int}(h:-1000000000<=i)(h':i<=1000000000):fL i=true:=by
 unfold fL
 rw[Nat.blt_eq]
 omega
def JY(g:List D->R (List D))(a:R (List D)):R (List D):=a.bind g
theorem JZ(g:List D->R (List D))(fs:DSt->R (List D))(O:DSt):eV g fs O=JY g (fs O):=(rfl)
theorem J0(g:List D->R (List D))(ds:List D):JY g (.ok ds)=g ds:=(rfl)
def xZ(a:R D):R (List D):=a.bind C1
theorem J1(f:DSt->R D)(O:DSt):hZ f O=xZ (f O):=rfl
theorem J2(xs:List D):xZ (.ok (.tup xs))=.ok xs:=rfl
theorem J3(xs:List D):xZ (.ok (.lst xs))=.ok xs:=rfl
def J4(ks:List Nat)(gp:D->R (List D))(fb:DSt->R aE)(a:R (List D))(O:DSt):R aE:=a.bind fun ds=>cQ ks gp fb ds O
theorem J5(own ks:List Nat)(gp:D->R (List D))(fi:DSt->R (List D))(fb:DSt->R aE)(O:DSt):gF own ks gp fi fb O=J4 ks gp fb (fi (mask own O)) O:=rfl
theorem J6(ks:List Nat)(gp:D->R (List D))(fb:DSt->R aE)(ds:List D)(O:DSt):J4 ks gp fb (.ok ds) O=cQ ks gp fb ds O:=rfl
def eF(r:R aE)(k:DSt->R aE):R aE:=r.bind fun o=>match o with
 |.nx O'=>k O'
 |.ct O'=>k O'
 |.bk O'=>.ok (.nx O')
 |.rt d=>.ok (.rt d)
 |.rf d=>.ok (.rf d)
theorem iS(O:DSt)(k:DSt->R aE):eF (.ok (.nx O)) k=k O:=rfl
theorem J7(O:DSt)(k:DSt->R aE):eF (.ok (.ct O)) k=k O:=rfl
theorem J8(O:DSt)(k:DSt->R aE):eF (.ok (.bk O)) k=.ok (.nx O):=rfl
theorem J9(d:D)(k:DSt->R aE):eF (.ok (.rt d)) k=.ok (.rt d):=rfl
theorem KA(d:D)(k:DSt->R aE):eF (.err d) k=.err d:=rfl
theorem x8(ks:List Nat)(gp:D->R (List D))(fb:DSt->R aE)(O:DSt):cQ ks gp fb [] O=.ok (.nx O):=rfl
theorem jH(i:Nat)(fb:DSt->R aE)(d:D)(ds:List D)(O:DSt):cQ [i] bQ fb (d::ds) O=eF (fb (O.set i (some d))) (cQ [i] bQ fb ds):=by
 show (fb (O.set i (some d))).bind _=_
 unfold eF
 cases fb (O.set i (some d)) with
 |ok o=>cases o<;>rfl
 |err e=>rfl
 |bad=>rfl
theorem KB{i:Nat}{fb:DSt->R aE}(I:DSt->Prop):∀(ds:List D),(∀d∈ds,∀O,I O->∃O',(fb (O.set i (some d))=.ok (.nx O')\/fb (O.set i (some d))=.ok (.ct O'))/\I O')->∀O,I O->∃O',cQ [i] bQ fb ds O=.ok (.nx O')/\I O'
 |[],_,O,h=>⟨O,rfl,h⟩
 |d::ds,hs,O,h=>by
  obtain⟨σ1,h1,h2⟩:=hs d xa4 O h
  obtain⟨σ2,h3,h4⟩:=KB I ds (fun d' hd=>hs d' (xar _ hd)) σ1 h2
  refine⟨σ2,?_,h4⟩
  rw[jH]
  rcases h1 with h1|h1<;>rw[h1]
  ·exact h3
  ·exact h3
theorem x9{i:Nat}{fb:DSt->R aE}(I:Nat->DSt->Prop)(ds:List D)(hs:∀(k:Nat) (d:D) (O:DSt),ds[k]? = some d->I k O->∃O',(fb (O.set i (some d))=.ok (.nx O')\/fb (O.set i (some d))=.ok (.ct O'))/\I (k+1) O')(O:DSt)(h:I 0 O):∃O',cQ [i] bQ fb ds O=.ok (.nx O')/\I ds.length O':=by
 have go:∀(ds:List D) (n:Nat),(∀(k:Nat) (d:D) (O:DSt),ds[k]? = some d->I (n+k) O->∃O',(fb (O.set i (some d))=.ok (.nx O')\/fb (O.set i (some d))=.ok (.ct O'))/\I (n+k+1) O')->∀O,I n O->∃O',cQ [i] bQ fb ds O=.ok (.nx O')/\I (n+ds.length) O':=by
  intro ds
  induction ds with
  |nil=>intro n _ O h;exact⟨O,rfl,h⟩
  |cons d ds ih=>
   intro n hs O h
   obtain⟨σ1,h1,h2⟩:=hs 0 d O rfl h
   obtain⟨σ2,h3,h4⟩:=ih (n+1) (fun k d' O hd hI=>by
    have:=hs (k+1) d' O (by simpa using hd) (by rw[show n+(k+1)=n+1+k by omega];exact hI)
    rw[show n+(k+1)+1=n+1+k+1 by omega] at this
    exact this) σ1 h2
   refine⟨σ2,?_,by rw[xan,show n+(ds.length+1)=n+1+ds.length by omega];exact h4⟩
   rw[jH]
   rcases h1 with h1|h1<;>rw[h1]
   ·exact h3
   ·exact h3
 obtain⟨O',h1,h2⟩:=go ds 0 (fun k d O hd hI=>by
  rw[xcc] at hI ⊢
  exact hs k d O hd hI) O h
 exact⟨O',h1,by rw[xcc] at h2;exact h2⟩
theorem KC{c:DSt->R Bool}{fb:DSt->R aE}{O O':DSt}(h:c O=.ok true)(h':fb O=.ok (.nx O')):dB c fb O=dB c fb O':=by rw[C5,h];show (fb O).bind _=_;rw[h'];rfl
theorem tJ{c:DSt->R Bool}{fb:DSt->R aE}{O:DSt}(h:c O=.ok false):dB c fb O=.ok (.nx O):=by rw[C5,h];rfl
def nU(k:Nat)(ks:List Nat)(a:R (List D))(gp:D->R (List D))(c:DSt->R Bool)(e:DSt->R D)(O:DSt):R (List D):=a.bind fun ds=>bif most ds.length then (fM ks gp c e (List.replicate k none++O) ds).noerr else .bad
theorem yA(k:Nat)(ks:List Nat)(fi:DSt->R (List D))(gp:D->R (List D))(c:DSt->R Bool)(e:DSt->R D)(O:DSt):fF k ks fi gp c e O=nU k ks (fi O) gp c e O:=rfl
theorem k6{n:Nat}(h:n<=1000000):most n=true:=xab (xcy h (by decide))
theorem KD{ds:List D}{e:DSt->R D}{O:DSt}{g:D->D}(hl:ds.length<=1000000)(h:∀d∈ds,e (some d::O)=.ok (g d)):nU 1 [0] (.ok ds) bQ jD e O=.ok (ds.map g):=by
 have go:∀ds:List D,(∀d∈ds,e (some d::O)=.ok (g d))->fM [0] bQ jD e (List.replicate 1 none++O) ds=.ok (ds.map g):=by
  intro ds
  induction ds with
  |nil=>intro _;rfl
  |cons d ds ih=>
   intro h
   show (e (some d::O)).bind (fun y=>(fM [0] bQ jD e (List.replicate 1 none++O) ds).bind fun ys=>.ok (y::ys))=_
   rw[h d xa4,ih fun d' hd=>h d' (xar _ hd)];rfl
 show (bif most ds.length then _ else _)=_
 rw[k6 hl,go ds h];rfl
end DL
namespace DL
open L2 PyProof.Rows
section
variable{X:Cx}{E:XK}{e:Expr}{te:TE}{pos:Pos}
def putK(i:Nat)(l:R (List D))(a k:R D)(O:DSt):R aE:=l.bind fun ds=>a.bind fun d=>k.bind fun kd=>match kd with
 |.int n=>match i9 ds.length n with
  |some j=>.ok (.nx (O.set i (some (.lst (ds.set j d)))))
  |none=>.bad
 |_=>.bad
variable{own ol:List Nat}{x:Str}{k:Expr}{fk fe:DSt->R D}{np tpos:Pos}
end
section
variable{X:Cx}{E:XK}{K:xFg}{mg:Str->Option Value}{p pos:Pos}{e:Expr}{es:List Expr}{fs:DSt->R (List D)}
def tK:D->R D
 |.int i=>bif decide (i.natAbs.log2<1920) then .ok (.str (toString i)) else .bad
 |_=>.bad
abbrev tM:=g1 tK
theorem X1:hV K mg (fun xs H Q=>∃i,xs=[.int i]/\i.natAbs.log2<1920/\Q (.str (toString i)) H) tM:=pP fun G H d v Q e r q=>by
 cases d with
 |int i=>
  cases r
  cases hC:decide (i.natAbs.log2<1920) with
  |false=>simp only[tK,hC,cond_false] at q;exact q.elim
  |true=>simp only[tK,hC,cond_true] at q;exact⟨i,rfl,xaj hC,aM.now q e rfl⟩
 |_=>exact(show False from q).elim
theorem X2(hm:X.mg "str"=none)(ha:DA X E (e::es) fs)(hg:Gl X "str":=by rfl)(he:starEach (e::es) X.env=(false,eval e X.env)::starEach es X.env:=by rfl)(hpl:(backTo pos (starEach es X.env)).any (·.1)=false:=by rfl):DE X E (.Call (.Name "str" p) (e::es) [] pos) (aG tM fs):=
 wN R5 X1 hm ha pO hg (by decide) (by decide) he hpl
end
end DL
namespace DL
open PySem.Spec PyProof.Rows L2
section
variable{X:Cx}{E:XK}{pos:Pos}
theorem X3{pins:List (Addr×Obj)}{O:L2.St}{H:Hp}{s:Shared}(I:aF X pins O H s):sysModules<s.heap.objs.size:=
 Nat.lt_trans (by decide) (show mainGlobals<s.heap.objs.size from (I.mod.glob.keeps I.bk).lt)
theorem X4:PE X (.Dict [] [] pos) (fun _ H Q=>∀p,H p=none->Q (.ref p) (aS H p (.dK []))):=fun pins s O H Q I h=>
 wpAny_Dict_empty ⟨.ref s.heap.objs.size,_,I.laid (a:=s.heap.objs.size) (o:=.dK []) (t':=s.toks) (fun _ _ q=>xad _ q) (xaf _)
  ⟨xbz _,beq_eq_false_iff_ne.mpr (xa6 (xa7 (X3 I))),[],.nil,Heap.DictOf.new s.heap⟩,rfl,h _ (I.hok.fresh (xaf _))⟩
theorem X5:DE X E (.Dict [] [] pos) (eC (.dct [] [])):=PE.mono' X4 fun O H Q ⟨G,Od,ok,q⟩ p hp=>by
 have sp:=aN.pub (o:=.dK []) ok.ext hp
 exact(show aM X.K X.mg Q G H (.dct [] []) from q) _ _ _ sp ⟨p,[],rfl,.inl cK,rfl,Reps.nil⟩
end
end DL
namespace DL
open L2 PyProof.Rows
theorem X6(l:Addr)(items:Array Value)(n:Nat)(b:Addr)(items2:Array Value)(n2:Nat)(dd:Option Addr)(sl:Array (Option Value))(hc0:¬(!items.isEmpty&&Builtin.List.listTooLong (items.size+items2.size))=true)(hc1:items.size<=sizeLine)(hs2:items.size+items2.size<=sizeLine+1) :
  Meets (Builtin.«list.extend» ⟨[.ref l,.ref b],[]⟩) (fun _ R s=>s.heap.get? l=some { cls:=.type "list",dict:=none,data:=.seq items n,slots:=#[] }/\s.heap.get? b=some { cls:=.type "list",dict:=dd,data:=.seq items2 n2,slots:=sl }/\R (.ok (.ret Value.none)) { s with heap:=s.heap.update l (Obj.mapSeq fun x=>x++items2),toks:=s.toks }):=
 .of_wp fun _ _ _ _ s q=>by
  obtain⟨hp,gg,dr,tk,os⟩:=s
  obtain⟨e1,e2,q⟩:=q
  have i1:=AutoSeq1.idx_int
  have i2:=AutoSeq1.sub_tuple_tuple
  have i3:=AutoSeq1.sub_list_list
  have i4:=AutoSeq1.sub_tuple_list
  have i5:=AutoSeq1.sub_list_tuple
  have room:(items++items2).size<=sizeLine+1:=by
   rw[Array.size_append]
   exact hs2
  wp_walk using (wpAny_updateSeq e1 rfl (hz:=hc1) (_hz':=room)),wpAny_loadPart' e1,wpAny_loadPart' e2
  exact⟨_,rfl,q⟩
section
variable{X:Cx}
def X7(K:xFg):V->List V->Hp->VK->Prop:=fun x vs H Q=>∃l b xs zs,x=.ref l/\vs=[.ref b]/\H l=some (.lst xs)/\bD K H b zs/\xs.length+zs.length<=sizeLine/\Q .non (aS H l (.lst (xs++zs)))
theorem X8:kM X "list.extend" (X7 X.K):=by
 intro pins s O H x vs v us Q I rx rv h
 obtain⟨l,b,xs,zs,rfl,rfl,hH,hB,hz,q⟩:=h
 cases rx
 obtain⟨u,rfl,ru⟩:=rv.one
 cases ru
 obtain⟨z,its,n,r,hl,e⟩:=I.lstM hH
 obtain⟨its2,r2,pl2,z2⟩:=I.list hB
 have hl2:=r2.length
 obtain⟨⟨cls2,dd2,data2,sl2⟩,ho2,hc2,n2,hd2⟩:=id pl2.isList
 simp only at hc2 hd2
 subst hc2 hd2
 have hsz:its.toArray.size+its2.toArray.size<=sizeLine:=by rw[xas,xas];omega
 have hlong:¬(!its.toArray.isEmpty&&Builtin.List.listTooLong (its.toArray.size+its2.toArray.size))=true:=by
  rw[B3 hsz,xdd]
  exact xa1
 refine call_meets F.slot_list_extend ⟨_,e,rfl⟩ F.entry_list_extend (F.args_list_extend_2 _ _)
  (X6 l its.toArray n b its2.toArray n2 dd2 sl2 hlong (by rw[xas];omega) (by omega)) ⟨e,ho2,?_⟩
 refine⟨.non,_,I.lset (its':=its++its2) hH e (by simp) (r.append r2) ?_,rfl,q⟩
 rw[xak]
 omega
end
end DL
namespace DL
open L2 PyProof.Rows
def iT(d:D)(xs:List D):Bool:=xs.any fun y=>bA y d
def fY(d:D)(xs:List D):Bool:=cE 9 d&&xs.all (cE 9)
def cV:D->D->R D
 |d,.lst xs=>bif fY d xs then .ok (.bl (iT d xs)) else .bad
 |d,.tup xs=>bif fY d xs then .ok (.bl (iT d xs)) else .bad
 |.str i,.str j=>.ok (.bl (!(Builtin.Str.occurrences j i 0 j.length 1).isEmpty))
 |_,_=>.bad
def eG:D->D->R D
 |d,.lst xs=>bif fY d xs then .ok (.bl (!iT d xs)) else .bad
 |d,.tup xs=>bif fY d xs then .ok (.bl (!iT d xs)) else .bad
 |.str i,.str j=>.ok (.bl (!(!(Builtin.Str.occurrences j i 0 j.length 1).isEmpty)))
 |_,_=>.bad
section
variable{X:Cx}{E:XK}
theorem KF{K:xFg}{mg:Str->Option Value}{G:Hp}{d:D}(f:Value->Bool):∀{ds:List D} {vs:List V} {its:List Value},(∀d' v' u,d'∈ds->aQ K mg G d' v'->aR v' u->f u=bA d' d)->Reps K mg G ds vs->aX vs its->its.any f=ds.any fun y=>bA y d
 |[],_,_,_,r,t=>by cases r;cases t;rfl
 |d'::ds,_,_,h,⟨v,vs,e,r1,r2⟩,t=>by
  subst e
  cases t with
  |cons q t=>
   rw[List.any_cons,List.any_cons,h d' _ _ xa4 r1 q,KF f (fun d'' v'' u hd=>h d'' v'' u (xar _ hd)) r2 t]
theorem KG{K:xFg}{mg:Str->Option Value}{G:Hp}:∀{ds:List D} {vs:List V} {its:List Value},Reps K mg G ds vs->aX vs its->∀u∈its,∃d' v',d'∈ds/\aQ K mg G d' v'/\aR v' u
 |[],_,_,r,t,u,hu=>by cases r;cases t;cases hu
 |d'::ds,_,_,⟨v,vs,e,r1,r2⟩,t,u,hu=>by
  subst e
  cases t with
  |cons q t=>
   rcases xal.mp hu with rfl|hu
   ·exact⟨d',v,xa4,r1,q⟩
   ·obtain⟨d'',v'',h1,h2,h3⟩:=KG r2 t u hu
    exact⟨d'',v'',xar _ h1,h2,h3⟩
def KH(K:xFg)(mg:Str->Option Value)(neg:Bool):R2:=fun x y H Q=>∃G d ds p vs,aH G H/\aQ K mg G d x/\y=.ref p/\(bD K G p vs\/bO K G p vs)/\Reps K mg G ds vs/\fY d ds=true/\Q (.bl (bif neg then !iT d ds else iT d ds)) H
open Classical in
theorem tN{pins:List (Addr×Obj)}{O:L2.St}{G H:Hp}{s:Shared}(I:aF X pins O H s){k:Nat}(r:c6 k X.A)(e:aH G H){d:D}{x:V}{v:Value}{ds:List D}{vs:List V}{its:List Value}(rx:aQ X.K X.mg G d x)(qx:aR x v)(rs:Reps X.K X.mg G ds vs)(t:aX vs its)(h:fY d ds=true) :
  ∃f:Value->Bool,(∀u∈its,SeqAt.EqAt X.A.in1 s u v (f u))/\its.any f=iT d ds:=by
 unfold fY at h
 rw[xax,xbg] at h
 obtain⟨h1,h2⟩:=h
 have key:∀d' v' u,d'∈ds->aQ X.K X.mg G d' v'->aR v' u->decide (∃d'' v'',d''∈ds/\aQ X.K X.mg G d'' v''/\aR v'' u/\bA d'' d=true)=bA d' d:=by
  intro d' v' u hd r1 q1
  by_cases hq:bA d' d=true
  ·rw[hq];exact xab ⟨d',v',hd,r1,q1,hq⟩
  ·rw[Bool.not_eq_true] at hq
   rw[hq]
   refine xae ?_
   rintro⟨d'',v'',hd',r2,q2,hq'⟩
   have ev:=q1.inj q2
   subst ev
   have:=wW I e 9 (h2 _ hd) (h2 _ hd') r1 r2
   subst this
   rw[hq] at hq';cases hq'
 refine⟨fun u=>decide (∃d'' v'',d''∈ds/\aQ X.K X.mg G d'' v''/\aR v'' u/\bA d'' d=true),fun u hu=>?_,KF _ key rs t⟩
 obtain⟨d',v',hd,r1,q1⟩:=KG rs t u hu
 show SeqAt.EqAt X.A.in1 s u v (decide _)
 rw[key d' v' u hd r1 q1]
 exact(wX I e 9 (by rw[DB];have:=r.un;omega) (h2 _ hd) h1 r1 q1 rx qx).1
theorem X9{k:Nat}(r:c6 k X.A):bR X (compareOp .In) (KH X.K X.mg false):=by
 intro pins s O H x y v u Q I rx ry h
 obtain⟨G,d,ds,p,vs,e,r1,rfl,hq,rs,c,q⟩:=h
 cases ry
 rcases hq with hq|hq
 ·obtain⟨its,t,pl,hz⟩:=I.list (e.seq hq)
  obtain⟨f,h1,h2⟩:=tN I r e r1 rx rs t c
  refine SeqAt.in_listAt f pl.isList (fun w hw=>h1 w (by simpa using hw)) ⟨.bl _,H,I,rfl,?_⟩
  rw[show its.toArray.any f=its.any f by simp,h2];exact q
 ·obtain⟨its,t,pl,hz⟩:=I.tuple (aH.sqT e hq)
  obtain⟨f,h1,h2⟩:=tN I r e r1 rx rs t c
  refine SeqAt.in_tupleAt f pl (fun w hw=>h1 w (by simpa using hw)) ⟨.bl _,H,I,rfl,?_⟩
  rw[show its.toArray.any f=its.any f by simp,h2];exact q
theorem YA{k:Nat}(r:c6 k X.A):bR X (compareOp .NotIn) (KH X.K X.mg true):=by
 intro pins s O H x y v u Q I rx ry h
 obtain⟨G,d,ds,p,vs,e,r1,rfl,hq,rs,c,q⟩:=h
 cases ry
 rcases hq with hq|hq
 ·obtain⟨its,t,pl,hz⟩:=I.list (e.seq hq)
  obtain⟨f,h1,h2⟩:=tN I r e r1 rx rs t c
  refine SeqAt.notIn_listAt f pl.isList (fun w hw=>h1 w (by simpa using hw)) ⟨.bl _,H,I,rfl,?_⟩
  rw[show its.toArray.any f=its.any f by simp,h2];exact q
 ·obtain⟨its,t,pl,hz⟩:=I.tuple (aH.sqT e hq)
  obtain⟨f,h1,h2⟩:=tN I r e r1 rx rs t c
  refine SeqAt.notIn_tupleAt f pl (fun w hw=>h1 w (by simpa using hw)) ⟨.bl _,H,I,rfl,?_⟩
  rw[show its.toArray.any f=its.any f by simp,h2];exact q
abbrev KI(neg:Bool):R2:=fun x y H Q=>∃i j,x=.str i/\y=.str j/\Q (.bl (bif neg then !(!(Builtin.Str.occurrences j i 0 j.length 1).isEmpty) else !(Builtin.Str.occurrences j i 0 j.length 1).isEmpty)) H
theorem YB{k:Nat}(C:XC X E k):gH X .In cV:=⟨_,(X9 C.room).or (RS:bR X _ (KI false)),fun G H a b x y Q e ra rb q=>by
 cases b with
 |lst xs=>
  obtain⟨p,vs,rfl,h1,h2⟩:=rb
  cases hc:fY a xs with
  |false=>simp only[cV,hc,cond_false] at q;exact q.elim
  |true=>simp only[cV,hc,cond_true] at q;exact .inl ⟨G,a,xs,p,vs,e,ra,rfl,.inl h1,h2,hc,aM.now q e rfl⟩
 |tup xs=>
  obtain⟨p,vs,rfl,h1,h2⟩:=rb
  cases hc:fY a xs with
  |false=>simp only[cV,hc,cond_false] at q;exact q.elim
  |true=>simp only[cV,hc,cond_true] at q;exact .inl ⟨G,a,xs,p,vs,e,ra,rfl,.inr h1,h2,hc,aM.now q e rfl⟩
 |str j=>cases a with
  |str i=>cases ra;cases rb;exact .inr ⟨i,j,rfl,rfl,aM.now q e rfl⟩
  |_=>exact(show False from q).elim
 |_=>cases a<;>exact(show False from q).elim,fun a b e=>by
  cases b with
  |lst xs=>simp only[cV];cases fY a xs<;>simp[cond]
  |tup xs=>simp only[cV];cases fY a xs<;>simp[cond]
  |_=>cases a<;>simp[cV]⟩
theorem YC{k:Nat}(C:XC X E k):gH X .NotIn eG:=⟨_,(YA C.room).or (S6:bR X _ (KI true)),fun G H a b x y Q e ra rb q=>by
 cases b with
 |lst xs=>
  obtain⟨p,vs,rfl,h1,h2⟩:=rb
  cases hc:fY a xs with
  |false=>simp only[eG,hc,cond_false] at q;exact q.elim
  |true=>simp only[eG,hc,cond_true] at q;exact .inl ⟨G,a,xs,p,vs,e,ra,rfl,.inl h1,h2,hc,aM.now q e rfl⟩
 |tup xs=>
  obtain⟨p,vs,rfl,h1,h2⟩:=rb
  cases hc:fY a xs with
  |false=>simp only[eG,hc,cond_false] at q;exact q.elim
  |true=>simp only[eG,hc,cond_true] at q;exact .inl ⟨G,a,xs,p,vs,e,ra,rfl,.inr h1,h2,hc,aM.now q e rfl⟩
 |str j=>cases a with
  |str i=>cases ra;cases rb;exact .inr ⟨i,j,rfl,rfl,aM.now q e rfl⟩
  |_=>exact(show False from q).elim
 |_=>cases a<;>exact(show False from q).elim,fun a b e=>by
  cases b with
  |lst xs=>simp only[eG];cases fY a xs<;>simp[cond]
  |tup xs=>simp only[eG];cases fY a xs<;>simp[cond]
  |_=>cases a<;>simp[eG]⟩
end
end DL
namespace DL
open L2 PyProof.Rows
def sign(c:Nat):Str:=⟨#[c]⟩
def tP(z:Str):It:=⟨fun i _=>i<z.cps.size,fun i H x H'=>H'=H/\∃c,z.cps[i]? = some c/\x=.str (sign c),fun i _=>z.cps.size<=i⟩
theorem KJ{P:Program}{w:World}{K:xFg}{tg:Expr}(z:Str)(it:Addr)(nm:String)(t:Tok)(hnm:nm="str_ascii_iterator"\/nm="str_iterator"):kK P w K tg (tP z) [it] it (fun i h=>h.IsStrIter it nm z t i) where
 mem:=by simp
 obj:=fun i h st b hb=>by
  have e:b=it:=by simpa using hb
  subst e
  obtain⟨o,e,c,d⟩:=st
  exact⟨o,e,fun v z=>by rw[d] at z;cases z⟩
 keep:=fun i h h' st k=>by
  obtain⟨o,e,r⟩:=st
  exact⟨o,k it (by simp) o e,r⟩
 item:=by
  intro X hP hw hK hc i pins s O H E I hf st hg
  subst hP hw hK
  obtain⟨f0,f1,f2,f3,f4,f5⟩:=hf it (by simp)
  have go:∀(W:Walks X.prog X.w X.A it [it] [it] z.cps.size (SignAt z) (fun i h=>h.IsStrIter it nm z t i)),wpAny (model X.prog X.w) X.A (pyNext (.ref it)) (fun r s1=>∃u,r=some u/\wpAny (model X.prog X.w) X.A (letOwnedTupleGo tg (.ref it) u) (fun _ s2=>∃x H',aF X pins O H' s2/\aR x u/\(tP z).yld i H x H'/\s2.heap.IsStrIter it nm z t (i+1)/\∀b∈[it],H' b=none) E s1) E s:=by
   intro W
   refine W.item i s _ _ hg st fun v h' tk hv st' kk=>?_
   obtain⟨c,u,hc',rfl⟩:=hv
   have I1:aF X pins O H { s with heap:=h',toks:=tk }:=I.turned (fun b o hb e=>kk b o (by simpa using hb) e) f0 f1 f3 f4 f5
   obtain⟨o,e,cl,d⟩:=id st'
   exact⟨_,rfl,rN (s:={ s with heap:=h',toks:=tk }) e cl d (by rcases hnm with rfl|rfl<;>decide) ⟨.str (sign c),H,I1,⟨u,rfl⟩,⟨rfl,c,hc',rfl⟩,st',fun b hb=>(hf b hb).1⟩⟩
  rcases hnm with rfl|rfl
  ·exact go (Walks.strAscii (I.ok.hd hc) it z t)
  ·exact go (Walks.strWide (I.ok.hd hc) it z t)
 done:=by
  intro X hP hw hK hc i pins s O H E I hf st hg
  subst hP hw hK
  obtain⟨f0,f1,f2,f3,f4,f5⟩:=hf it (by simp)
  rcases hnm with rfl|rfl
  ·exact wpAny_pyNext_ascii_end (I.ok.hd hc) st (by have:z.cps.size<=i:=hg;simp;omega) fun h' eb=>⟨rfl,I.turned (t':=s.toks) (fun b o hb e=>eb b o hb e) f0 f1 f3 f4 f5⟩
  ·exact wpAny_pyNext_wide_end (I.ok.hd hc) st (by have:z.cps.size<=i:=hg;simp;omega) fun h' eb=>⟨rfl,I.turned (t':=s.toks) (fun b o hb e=>eb b o hb e) f0 f1 f3 f4 f5⟩
 self:=fun A i s Q E st h=>by
  rcases hnm with rfl|rfl
  ·exact wpAny_pyIter_striter_ascii st h
  ·exact wpAny_pyIter_striter_wide st h
section
variable{X:Cx}{E:XK}{tg:Expr}
def KK(tl:TE):TI:=fun O H R=>tl O H fun x H1=>∃z,x=.str z/\R (tP z) H1
theorem YD{l:Expr}{tl:TE}(hl:PE X l tl):PI X tg l (KK tl):=by
 intro pins s O H R I h
 refine aT (hl pins s O H _ I h) fun v s1 ⟨x,H1,I1,r1,q1⟩=>?_
 obtain⟨z,e,q⟩:=q1
 subst e
 obtain⟨t,rfl⟩:=r1
 have fpo:∀b∈[s1.heap.objs.size],gO X pins H1 b:=fun b hb=>by
  have e:b=s1.heap.objs.size:=by simpa using hb
  subst e
  exact I1.fpOk (xaf _) (I1.hok.fresh (xaf _))
 cases ha:z.cps.all (· < 128)
 ·exact wpAny_pyIter_wide ha ⟨s1.heap.objs.size,[s1.heap.objs.size],_,_,H1,rfl,I1.kept (t':=s1.toks) fun b o e=>xad _ e,KJ z _ "str_iterator" t (.inr rfl),⟨_,xaz _ rfl,rfl,rfl⟩,fpo,q⟩
 ·exact wpAny_pyIter_ascii ha ⟨s1.heap.objs.size,[s1.heap.objs.size],_,_,H1,rfl,I1.kept (t':=s1.toks) fun b o e=>xad _ e,KJ z _ "str_ascii_iterator" t (.inl rfl),⟨_,xaz _ rfl,rfl,rfl⟩,fpo,q⟩
def iE(z:Str):List D:=z.cps.toList.map fun c=>.str (sign c)
def yB:D->R (List D)
 |.str z=>.ok (iE z)
 |_=>.bad
def fG(f:DSt->R D):DSt->R (List D):=fun O=>(f O).bind yB
theorem fK.text{K:xFg}{mg:Str->Option Value}{G:Hp}(z:Str):fK K mg (tP z) G (iE z):=by
 have hl:(iE z).length=z.cps.size:=by simp[iE]
 refine⟨fun H e=>by rw[hl];exact xaf _,fun H i d e hd=>?_⟩
 have hi:i<z.cps.size:=by have:=(xah.mp hd).1;omega
 refine⟨hi,fun x H' y G1 e1 e2=>?_⟩
 obtain⟨rfl,c,hc,rfl⟩:=y
 have:d=.str (sign c):=by
  unfold iE at hd
  rw[xbp,Array.getElem?_toList,hc] at hd
  simpa using hd.symm
 subst this
 exact⟨G1,.refl e2,rfl⟩
theorem YE{l:Expr}{f:DSt->R D}(hl:DE X E l f):DI X E tg l (fG f):=by
 have hT:PI X tg l (KK (tE X.K X.mg E f)):=YD hl
 intro pins s O H R I ⟨G,Od,ok,q⟩
 refine hT pins s O H R I ⟨G,Od,ok,?_⟩
 refine q.of_bind.mono (fun d _ z=>?_) fun _ z=>z
 rintro v G' H' st r
 cases d with
 |str y=>
  cases r
  exact⟨y,rfl,(show ∀J G' H',aN G H G' H'->fK X.K X.mg J G' (iE y)->R J H' from z) _ G' H' st (.text y)⟩
 |_=>exact(show False from z).elim
variable{a b:Expr}{fa fb:DSt->R D}{pos:Pos}
def cG:D->D->R D
 |.str z,.int i=>bif decide (0<=i)&&Nat.blt i.natAbs 1073741824 then (match z.cps[i.toNat]? with
  |some c=>.ok (.str (sign c))
  |none=>.bad) else .bad
 |_,_=>.bad
abbrev rIxS:R2:=fun x y H Q=>∃z i c,x=.str z/\y=.int i/\0<=i/\i<2^63/\i<z.length/\z.cps[i.toNat]? = some c/\Q (.str ⟨#[c]⟩) H
theorem YF:fT cG:=by
 intro a b e h
 cases a with
 |str z=>cases b with
  |int i=>
   cases hC:(decide (0<=i)&&Nat.blt i.natAbs 1073741824) with
   |false=>simp only[cG,hC,cond_false] at h;cases h
   |true=>
    simp only[cG,hC,cond_true] at h
    split at h<;>cases h
  |_=>cases h
 |_=>cases b<;>cases h
theorem YG{K:xFg}{mg:Str->Option Value}:fS K mg rIxS cG:=by
 intro G H a b x y Q e ra rb q
 cases a with
 |str z=>cases b with
  |int i=>
   cases ra;cases rb
   cases hC:(decide (0<=i)&&Nat.blt i.natAbs 1073741824) with
   |false=>simp only[cG,hC,cond_false] at q;exact q.elim
   |true=>
    simp only[cG,hC,cond_true] at q
    rw[xax,decide_eq_true_eq,Nat.blt_eq] at hC
    cases hc:z.cps[i.toNat]? with
    |none=>rw[hc] at q;exact q.elim
    |some c=>
     rw[hc] at q
     have hlt:i.toNat<z.cps.size:=(xbx.mp hc).1
     have hlt':i<(z.length:Int):=by
      show i<(z.cps.size:Int)
      omega
     exact⟨z,i,c,rfl,rfl,hC.1,by omega,hlt',hc,aM.now q e rfl⟩
  |_=>exact(show False from q).elim
 |_=>cases b<;>exact(show False from q).elim
theorem YH(ha:DE X E a fa)(hb:DE X E b fb)(hs:BG b:=by intro _ _;rfl):DE X E (.Subscript a b pos) (aC cG fa fb):=
 PE.mono' (R0 ha hb hs) fun _ _ _ h=>pE YG YF h
def iF:Option Int->Option (Int×Tok):=fun o=>o.map fun i=>(i,0)
def jI(z:Str)(lo hi:Option Int):Str:=if (slicePicked z (iF lo) (iF hi) none).length==z.length then z else ⟨((slicePicked z (iF lo) (iF hi) none).filterMap (z.cps[·]?)).toArray⟩
def YI:V->Option Int->Option Int->Hp->VK->Prop:=fun x lo hi H Q=>∃z,x=.str z/\(jI z lo hi).length<=sizeLine/\Q (.str (jI z lo hi)) H
theorem KL{v:Value}{o:Option Int}(h:IsPart v o):∃l:Option (Int×Tok),v=partValue l/\l.map (·.1)=o:=by
 cases h with
 |none=>exact⟨none,rfl,rfl⟩
 |int i t=>exact⟨some (i,t),rfl,rfl⟩
theorem YJ:kL X YI:=by
 intro pins s O H x v vl vu lo hi sl Q I rx hs pl pu h
 obtain⟨z,rfl,hz,q⟩:=h
 obtain⟨t,rfl⟩:=rx
 obtain⟨l,rfl,hl⟩:=KL pl
 obtain⟨u,rfl,hu⟩:=KL pu
 refine⟨"str",_,PySem.F.slot_str_getitem.lookup,typeIs_str s z t,?_⟩
 refine wpAny_getItem_str_slice (l:=l) (u:=u) (st:=none) hs rfl ?_
 have e:slicePicked z l u none=slicePicked z (iF lo) (iF hi) none:=by
  unfold slicePicked iF
  rw[hl,hu]
  cases lo<;>cases hi<;>rfl
 unfold sliceMade
 rw[e]
 unfold jI at hz q
 by_cases hp:((slicePicked z (iF lo) (iF hi) none).length==z.length)=true
 ·rw[xau hp] at hz q
  rw[xau (by rw[hp];rfl)]
  exact⟨.str z,H,I,⟨t,rfl⟩,q⟩
 ·rw[xao hp] at hz q
  rw[xao (by rw[Bool.not_eq_true] at hp;rw[hp];simp)]
  exact⟨hz,.str _,H,I.tok _,⟨_,rfl⟩,q⟩
def tQ:D->Option Int->Option Int->R D
 |.str z,lo,hi=>bif bL (jI z lo hi).length then .ok (.str (jI z lo hi)) else .bad
 |_,_,_=>.bad
def cN(fe:DSt->R D)(fl fh:DSt->R (Option Int)):DSt->R D:=fun O=>(fe O).bind fun d=>(fl O).bind fun lo=>(fh O).bind fun hi=>tQ d lo hi
theorem YK{e:Expr}{fe:DSt->R D}{lo hi:Option Expr}{fl fh:DSt->R (Option Int)}{p2:Pos}(he:DE X E e fe)(hl:DO X E lo fl)(hh:DO X E hi fh):DE X E (.Subscript e (.Slice lo hi none p2) pos) (cN fe fl fh):=by
 refine PE.mono' (BS YJ he hl hh) fun O H Q ⟨G,Od,ok,q⟩=>?_
 refine fJ (P:=aM X.K X.mg Q) ok q fun d v G1 H1 s1 ok1 r1 q1=>?_
 refine⟨G1,Od,ok1,q1.of_bind.mono (fun l _ z G2 H2 s2=>?_) fun _ z=>z⟩
 refine⟨G2,Od,ok1.step s2,z.of_bind.mono (fun u _ z G3 H3 s3=>?_) fun _ z=>z.step s2⟩
 cases d with
 |str y=>
  cases r1
  cases hC:bL (jI y l u).length with
  |false=>simp only[tQ,hC,cond_false] at z;exact z.elim
  |true=>
   simp only[tQ,hC,cond_true] at z
   exact⟨y,rfl,xaj hC,aM.now ((show aM X.K X.mg Q G H (.str (jI y l u)) from z).step ((s1.trans s2).trans s3)) s3.e rfl⟩
 |_=>exact(show False from z).elim
def jJ(sep:Str):List Str->Str
 |[y]=>y
 |ys=>Builtin.Str.glued sep ys
def eH:List D->Option (List Str)
 |[]=>some []
 |.str y::ds=>(eH ds).map (y::·)
 |_=>none
theorem Reps.strs{K:xFg}{mg:Str->Option Value}{G:Hp}:∀{ds:List D} {ys:List Str} {vs:List V},eH ds=some ys->Reps K mg G ds vs->vs=ys.map V.str
 |[],_,_,h,r=>by cases h;cases r;rfl
 |.str y::ds,_,_,h,⟨v,t,e1,r1,r2⟩=>by
  subst e1
  cases hd:eH ds with
  |none=>simp[eH,hd] at h
  |some ys'=>
   simp[eH,hd] at h
   subst h
   rw[Reps.strs hd r2]
   have:v=V.str y:=r1
   rw[this];rfl
 |.non::_,_,_,h,_=>by simp[eH] at h
 |.bl _::_,_,_,h,_=>by simp[eH] at h
 |.int _::_,_,_,h,_=>by simp[eH] at h
 |.ty _::_,_,_,h,_=>by simp[eH] at h
 |.cls _::_,_,_,h,_=>by simp[eH] at h
 |.tup _::_,_,_,h,_=>by simp[eH] at h
 |.lst _::_,_,_,h,_=>by simp[eH] at h
 |.dct _ _::_,_,_,h,_=>by simp[eH] at h
 |.exc _ _::_,_,_,h,_=>by simp[eH] at h
theorem KM:∀{ys:List Str} {us:List Value},aX (ys.map V.str) us->∃l:List (Str×Tok),us=strValues l/\l.map (·.1)=ys
 |[],_,h=>by cases h;exact⟨[],rfl,rfl⟩
 |y::ys,_,h=>by
  cases h with
  |cons q t=>
   obtain⟨l,rfl,hl⟩:=KM t
   obtain⟨tk,rfl⟩:=q
   exact⟨(y,tk)::l,rfl,by rw[xbl,hl]⟩
def sumL(sep:Str)(ys:List Str):Nat:=ys.toArray.foldl (· + ·.length+sep.length) 0
def YL(K:xFg):V->List V->Hp->VK->Prop:=fun x vs H Q=>∃sep b ys,x=.str sep/\vs=[.ref b]/\bD K H b (ys.map V.str)/\sumL sep ys<=sizeLine/\(jJ sep ys).length<=sizeLine/\Q (.str (jJ sep ys)) H
theorem YM:kM X "str.join" (YL X.K):=by
 intro pins s O H x vs v us Q I rx rv h
 obtain⟨sep,b,ys,rfl,rfl,hB,hz,hz2,q⟩:=h
 obtain⟨t,rfl⟩:=rx
 obtain⟨u,rfl,ru⟩:=rv.one
 cases ru
 obtain⟨its,r,pl,_⟩:=I.list hB
 obtain⟨l,rfl,hl⟩:=KM r
 subst hl
 refine call_meets F.slot_str_join (typeIs_str s sep t) F.entry_str_join (F.args_str_join_2 _ _) (meets_str_join_list sep t b l (xae (by show ¬sizeLine<_;exact Nat.not_lt.mpr hz))) ⟨pl.isList,?_⟩
 match l,hz2,q with
 |[],hz2,q=>exact⟨hz2,.str _,H,I.tok _,⟨_,rfl⟩,q⟩
 |[p],hz2,q=>exact⟨.str _,H,I,⟨_,rfl⟩,q⟩
 |_::_::_,hz2,q=>exact⟨hz2,.str _,H,I.tok _,⟨_,rfl⟩,q⟩
def jK(sep:D)(d:D):R D:=match sep,d with
 |.str z,.lst ds=>match eH ds with
  |some ys=>bif bL (sumL z ys)&&bL (jJ z ys).length then .ok (.str (jJ z ys)) else .bad
  |none=>.bad
 |_,_=>.bad
def YN(fe:DSt->R D)(O:DSt):D->R D
 |.str z=>(fe O).bind fun d=>jK (.str z) d
 |_=>.bad
def yC(fo fe:DSt->R D):DSt->R D:=fun O=>(fo O).bind fun z=>YN fe O z
theorem YO{o e:Expr}{fo fe:DSt->R D}{apos cpos:Pos}(ho:DE X E o fo)(he:DE X E e fe)
  (hbase:attributeBase o "join" X.env (eval o X.env)=eval o X.env:=by rfl)
  (hfew:((backTo cpos (starEach [e] X.env)).all (fun x=>!x.1)&&(backToKw cpos (keywordEach [] X.env)).all (fun x=>x.1.isSome)&&decide ([e].length+([]:List Keyword).length+(if ([]:List Keyword).isEmpty then 0 else 1)<30))=true:=by rfl)
  (hline:(apos.endLine==cpos.line)=true:=by rfl) (hs:starEach [e] X.env=(false,eval e X.env)::starEach [] X.env:=by rfl) (hplain:(backTo cpos (starEach [] X.env)).any (·.1)=false:=by rfl) :
  DE X E (.Call (.Attribute o "join" apos) [e] [] cpos) (yC fo fe):=by
 refine PE.mono' (iO PySem.F.plainAttrs_str PySem.F.slot_str_join PySem.F.type_str_join YM ho (cM he eA hs) hbase hfew hline hs hplain) fun O H Q ⟨G,Od,ok,q⟩=>?_
 refine fJ (P:=aM X.K X.mg Q) ok q fun z x G1 H1 s1 ok1 r1 q1=>?_
 cases z with
 |str y=>
  cases r1
  refine⟨rfl,G1,Od,ok1,(show RW ((aA fe aD) Od) _ _ from ?_)⟩
  unfold aA
  have q2:=(show RW ((fe Od).bind fun d=>jK (.str y) d) _ _ from q1).of_bind
  cases hf:fe Od with
  |bad=>rw[hf] at q2;exact q2.elim
  |err e=>rw[hf] at q2;exact(show aV X.K X.mg E G1 H1 e from q2)
  |ok d=>
   rw[hf] at q2
   have q3:RW (jK (.str y) d) (aM X.K X.mg Q G H) (aV X.K X.mg E G1 H1):=q2
   rintro ws G2 H2 s2 ⟨v,_,e1,r3,r4⟩
   subst e1
   cases r4
   cases d with
   |lst ds=>
    obtain⟨b,vs,rfl,hb,hv⟩:=r3
    cases hs':eH ds with
    |none=>simp only[jK,hs'] at q3;exact q3.elim
    |some ys=>
     have ev:=Reps.strs hs' hv
     subst ev
     cases hC:(bL (sumL y ys)&&bL (jJ y ys).length) with
     |false=>simp only[jK,hs',hC,cond_false] at q3;exact q3.elim
     |true=>
      simp only[jK,hs',hC,cond_true] at q3
      rw[xax] at hC
      exact⟨y,b,ys,rfl,rfl,s2.e.seq hb,xaj hC.1,xaj hC.2,aM.now ((show aM X.K X.mg Q G H (.str (jJ y ys)) from q3).step (s1.trans s2)) s2.e rfl⟩
   |_=>exact(show False from q3).elim
 |_=>exact(show False from q1).elim
theorem yD:∀l:List (Str×Tok),aX (l.map fun p=>V.str p.1) (strValues l)
 |[]=>.nil
 |p::l=>.cons ⟨p.2,rfl⟩ (yD l)
theorem KN{K:xFg}{mg:Str->Option Value}{G:Hp}:∀l:List (Str×Tok),Reps K mg G (l.map fun p=>D.str p.1) (l.map fun p=>V.str p.1)
 |[]=>Reps.nil
 |p::l=>Reps.cons rfl (KN l)
theorem YQ{K:xFg}{mg:Str->Option Value}{G:Hp}{a:Addr}{its:Array Value}{n:Nat}{sl:Array (Option Value)}{l:List (Str×Tok)}(lk:K.lookup a=some ⟨.type "tuple",none,.seq its n,sl⟩)(h:its.toList=strValues l)(hz:l.length<=100):aQ K mg G (.tup (l.map fun p=>D.str p.1)) (.ref a):=by
 refine⟨a,_,rfl,.inr ⟨_,its,n,lk,rfl,rfl,?_,by rw[h];exact yD l,rfl⟩,KN l⟩
 rw[<- xbv,h]
 unfold strValues
 rw[xat]
 exact xav hz (by decide)
end
end DL
namespace DL
open L2 PyProof.Rows
section
variable{prog:Program}{w:World}{A:Around}{E:Value->Shared->Prop}{s:Shared}
theorem items_int{ks:List Int}{vs:List Value}(h:ItemsAre (intKind prog w) ks vs):∀v∈vs,∃i t,v=.int i t:=by
 induction h with
 |nil=>intro v hv;cases hv
 |cons q _ ih=>
  intro v hv
  rcases xal.mp hv with rfl|hv
  ·cases v with
   |int i t=>exact⟨i,t,rfl⟩
   |_=>cases q
  ·exact ih v hv
structure TSet(prog:Program)(w:World)(h:Heap)(a:Addr)(o:Obj)(es:Array (Int×Value))(ep:Nat)(t:SetTable)(kss:List (List Int)):Prop where
 get:h.get? a=some o
 ex:o.ExactSet
 dat:o.data=.set es ep t
 dm:t.dummies=#[]
 pl:t.place.size=es.size
 msk:(t.mask=7/\es.size<=4)\/(t.mask=31/\es.size<=18)
 n:es.size=kss.length
 el:∀e∈es.toList,∃c ls,e.2=.ref c/\IsTupleKey (intKind prog w) h ls c/\ls∈kss
variable{h:Heap}{a:Addr}{o:Obj}{es:Array (Int×Value)}{ep:Nat}{t:SetTable}{kss:List (List Int)}
end
end DL
namespace L2
open PyProof.Rows
section
variable{prog:Program}{w:World}{A:Around}{E:Value->Shared->Prop}{s:Shared}
theorem KO{it t:Addr}{k:Nat}{its:Array Value}{x:Value}{Q:Value->Shared->Prop}(st:s.heap.IsTupleIter it t k)(ht:s.heap.IsTuple t its)(hx:its[k]? = some x)
  (q:∀g,g.IsTupleIter it t (k+1)->Heap.SameBut it s.heap g->Q x { s with heap:=g }):wpAny (model prog w) A (Builtin.SmallTypes.nextOf (.ref it)) Q E s:=by
 obtain⟨o,eo,co,d⟩:=id st
 obtain⟨l,el,_,n,dl⟩:=ht
 unfold Builtin.SmallTypes.nextOf
 apply xaa
 refine wpAny_callSpecial?_slot (name:="__next__") st.typeIs F.slot_tuple_iterator_next ?_
 refine wpAny_call_entry F.slot_tuple_iterator_next st.typeIs F.entry_tuple_iterator_next ?_ (F.args_tuple_iterator_next_1 _)
 show wpAny _ _ (field (.ref it) 0 >>= _) _ _ s
 apply xaa
 refine wpAny_field eo d (x:=.ref t) rfl ?_
 show wpAny _ _ (if (Value.ref t==.none)=true then _ else _) _ _ s
 have nn:¬(Value.ref t==.none)=true:=xa1
 rw[xao nn]
 show wpAny _ _ (field (.ref it) 1 >>= _) _ _ s
 apply xaa
 refine wpAny_field eo d (x:=.int k 0) rfl ?_
 show wpAny _ _ (seqItems? (.ref t) >>= _) _ _ s
 apply xaa
 refine wpAny_seqItems el dl ?_
 simp only[hx,xbk]
 apply xaa
 refine wpAny_setField eo d (by simp) (xaw ⟨x,rfl,xaw (q _ ⟨_,xc6 _ eo (Obj.isFreed_of_fields (Obj.data_mapFields d _)),(Obj.cls_mapFields ..).trans co,?_⟩ (.update ..))⟩)
 rw[Obj.data_mapFields d];simp[rawInt]
theorem YR{it t:Addr}{k:Nat}{its:Array Value}{Q:Value->Shared->Prop}(hh:A.handled=none)(st:s.heap.IsTupleIter it t k)(ht:s.heap.IsTuple t its)(hx:its[k]? = none)
  (q:∀g e,Heap.ExtBut it s.heap g->(∃o,g.get? e=some o/\o.cls=.type "StopIteration")->E (.ref e) { s with heap:=g }):wpAny (model prog w) A (Builtin.SmallTypes.nextOf (.ref it)) Q E s:=by
 obtain⟨o,eo,co,d⟩:=id st
 obtain⟨l,el,_,n,dl⟩:=ht
 unfold Builtin.SmallTypes.nextOf
 apply xaa
 refine wpAny_callSpecial?_slot (name:="__next__") st.typeIs F.slot_tuple_iterator_next ?_
 refine wpAny_call_entry F.slot_tuple_iterator_next st.typeIs F.entry_tuple_iterator_next ?_ (F.args_tuple_iterator_next_1 _)
 show wpAny _ _ (field (.ref it) 0 >>= _) _ _ s
 apply xaa
 refine wpAny_field eo d (x:=.ref t) rfl ?_
 show wpAny _ _ (if (Value.ref t==.none)=true then _ else _) _ _ s
 have nn:¬(Value.ref t==.none)=true:=xa1
 rw[xao nn]
 show wpAny _ _ (field (.ref it) 1 >>= _) _ _ s
 apply xaa
 refine wpAny_field eo d (x:=.int k 0) rfl ?_
 show wpAny _ _ (seqItems? (.ref t) >>= _) _ _ s
 apply xaa
 refine wpAny_seqItems el dl ?_
 simp only[hx,xbk]
 apply xaa;apply wpAny_rule;apply xaa
 refine wpAny_setField eo d (by simp) ?_
 show wpAny _ _ (newExc (.type "StopIteration") [] >>= _) _ _ _
 apply xaa
 simp only[newExc,newTuple]
 apply xaa
 refine wpAny_newObj_type ?_ (by size_fits)
 apply xaa (m:=firstArgMember _ _)
 refine wpAny_of_eq (a:=Value.none) (by first|rfl|(simp only[firstArgMember];rfl)) ?_
 refine wpAny_newObj_type ?_ (by size_fits)
 simp only[raiseNew]
 apply xaa
 refine wpAny_handled ?_
 first|rw[show A.in1.handled=none from hh]|rw[hh]
 exact xaa (xaw (wpAny_throw (q _ _ (((Heap.SameBut.update ..).extBut.push _).push _) ⟨_,xaz _ rfl,rfl⟩)))
structure iU(h:Heap)(z TI TO i1 i2 t1 t2:Addr)(k:Nat)(xs ys:Array Value)(f:Value):Prop where
 z:IsZip h z TI TO f
 ti:IsPair h TI (.ref i1) (.ref i2)
 to:∃a b,IsPair h TO a b
 i1:h.IsTupleIter i1 t1 k
 i2:h.IsTupleIter i2 t2 k
 t1:h.IsTuple t1 xs
 t2:h.IsTuple t2 ys
theorem iU.next{z TI TO i1 i2 t1 t2:Addr}{k:Nat}{xs ys:Array Value}{x y:Value}{Q:Value->Shared->Prop}(D:ZipApart z TI TO i1 i2 t1 t2)(Z:iU s.heap z TI TO i1 i2 t1 t2 k xs ys .none)(hx:xs[k]? = some x)(hy:ys[k]? = some y)
  (q:∀g,iU g z TI TO i1 i2 t1 t2 (k+1) xs ys (rawInt s.heap.objs.size)->IsPair g s.heap.objs.size x y->g.objs.size=s.heap.objs.size+1->(∀c o,c≠z->c≠TO->c≠i1->c≠i2->s.heap.get? c=some o->g.get? c=some o)->Q (.ref s.heap.objs.size) { s with heap:=g }) :
  wpAny (model prog w) A (Builtin.«zip.__next__» ⟨[.ref z],[]⟩) (fun fin s'=>∃v,fin=.done (.ret v)/\Q v s') E s:=by
 obtain⟨a,b,hTO⟩:=Z.to
 show wpAny _ _ (field (.ref z) 2 >>= _) _ _ _
 apply xaa
 refine wpAny_field Z.z rfl (x:=.bool false) rfl ?_
 show wpAny _ _ (field (.ref z) 3 >>= _) _ _ _
 apply xaa
 refine wpAny_field Z.z rfl (x:=.ref TI) rfl ?_
 apply xaa
 refine wpAny_seqItems Z.ti rfl ?_
 show wpAny _ _ (Builtin.SmallTypes.ownedTupleIsFree (.ref z) >>= _) _ _ _
 apply xaa
 unfold Builtin.SmallTypes.ownedTupleIsFree
 apply xaa
 refine wpAny_field Z.z rfl (x:=.none) rfl (xaw ?_)
 simp only[if_true]
 apply xaa;apply wpAny_rule;apply xaa
 refine wpAny_field Z.z rfl (x:=.ref TO) rfl ?_
 apply xaa
 refine wpAny_setField_rec Z.z (by simp) fun g1 z1 s1=>?_
 have z1:IsZip g1 z TI TO .ellipsis:=z1
 apply xaa
 simp only[List.zipIdx_cons,List.zipIdx_nil,xb4,List.forIn_nil]
 apply xaa;apply xaa;apply wpAny_onRaise
 show wpAny _ _ (Builtin.SmallTypes.nextOf (.ref i1) >>= _) _ _ _
 apply xaa
 refine KO (Z.i1.extBut s1.extBut D.i1z) (Z.t1.extBut s1.extBut D.l1z) hx fun g2 j2 s2=>xaw ?_
 have o2:IsPair g2 TO a b:=s2.extBut _ _ D.TOi1 (s1.extBut _ _ D.TOz hTO)
 apply xaa
 refine wpAny_seqItems o2 rfl ?_
 apply xaa
 refine wpAny_updateSeq_pair o2 fun g3 o3 s3=>?_
 have o3:IsPair g3 TO x b:=o3
 apply xaa
 refine wpAny_letGo (xaw ?_)
 apply xaa;apply xaa;apply wpAny_onRaise
 show wpAny _ _ (Builtin.SmallTypes.nextOf (.ref i2) >>= _) _ _ _
 apply xaa
 have u3:∀c o,c≠z->c≠TO->c≠i1->s.heap.get? c=some o->g3.get? c=some o:=fun c o n1 n2 n3 e=>s3.extBut _ _ n2 (s2.extBut _ _ n3 (s1.extBut _ _ n1 e))
 refine KO (Z.i2.at fun o e=>u3 _ o D.i2z D.TOi2.symm D.i12.symm e) (Z.t2.at fun o e=>u3 _ o D.l2z D.l2TO D.l2i1 e) hy fun g4 j4 s4=>xaw ?_
 have o4:IsPair g4 TO x b:=s4.extBut _ _ D.TOi2 o3
 apply xaa
 refine wpAny_seqItems o4 rfl ?_
 apply xaa
 refine wpAny_updateSeq_pair o4 fun g5 o5 s5=>?_
 have o5:IsPair g5 TO x y:=o5
 apply xaa
 refine wpAny_letGo (xaw (xaw ?_))
 apply xaa
 refine wpAny_seqItems o5 rfl ?_
 apply xaa
 refine wpAny_newTuple ?_
 have sz:g5.objs.size=s.heap.objs.size:=s5.1.trans (s4.1.trans (s3.1.trans (s2.1.trans s1.1)))
 have z5:IsZip g5 z TI TO .ellipsis:=s5.extBut _ _ D.TOz.symm (s4.extBut _ _ D.i2z.symm (s3.extBut _ _ D.TOz.symm (s2.extBut _ _ D.i1z.symm z1)))
 have u5:∀c o,c≠z->c≠TO->c≠i1->c≠i2->s.heap.get? c=some o->g5.get? c=some o:=fun c o n1 n2 n3 n4 e=>s5.extBut _ _ n2 (s4.extBut _ _ n4 (u3 c o n1 n2 n3 e))
 have a5:g5.IsTupleIter i1 t1 (k+1):=j2.at fun o e=>s5.extBut _ _ D.TOi1.symm (s4.extBut _ _ D.i12 (s3.extBut _ _ D.TOi1.symm e))
 have b5:g5.IsTupleIter i2 t2 (k+1):=j4.at fun o e=>s5.extBut _ _ D.TOi2.symm e
 have lz:z<g5.objs.size:=xam z5
 show wpAny _ _ (Builtin.SmallTypes.ownedTupleHandOut (.ref z) (.ref g5.objs.size) >>= _) _ _ _
 apply xaa
 unfold Builtin.SmallTypes.ownedTupleHandOut
 have z6:IsZip (g5.push { cls:=.type "tuple",data:=.seq #[x,y] }) z TI TO .ellipsis:=xad _ z5
 apply xaa
 refine wpAny_setField_rec z6 (by simp) fun g7 z7 s7=>?_
 have z7:IsZip g7 z TI TO (rawInt g5.objs.size):=z7
 refine wpAny_setField_rec z7 (by simp) fun g8 z8 s8=>?_
 have z8:IsZip g8 z TI TO (rawInt g5.objs.size):=z8
 have up:∀c o,c≠z->g5.get? c=some o->g8.get? c=some o:=fun c o n e=>s8.extBut _ _ n (s7.extBut _ _ n (xad _ e))
 have p8:IsPair g8 g5.objs.size x y:=s8.extBut _ _ (xck lz) (s7.extBut _ _ (xck lz) (xaz _ rfl))
 have w8:g8.objs.size=g5.objs.size+1:=s8.1.trans (s7.1.trans (xcl ..))
 rw[sz] at z8 p8 w8
 refine xaw ⟨_,rfl,?_⟩
 show Q (.ref g5.objs.size) _
 rw[sz]
 have nT:∀c o,s.heap.get? c=some o->c≠z->c≠TO->c≠i1->c≠i2->g8.get? c=some o:=fun c o e n1 n2 n3 n4=>up c o n1 (u5 c o n1 n2 n3 n4 e)
 exact q g8 ⟨z8,nT _ _ Z.ti D.TIz D.TITO D.TIi1 D.TIi2,⟨_,_,up _ _ D.TOz o5⟩,a5.at fun o e=>up _ o D.i1z e,b5.at fun o e=>up _ o D.i2z e,Z.t1.at fun o e=>nT _ o e D.l1z D.l1TO D.l1i1 D.l1i2,Z.t2.at fun o e=>nT _ o e D.l2z D.l2TO D.l2i1 D.l2i2⟩ p8 w8 fun c o n1 n2 n3 n4 e=>nT c o e n1 n2 n3 n4
theorem iU.last{z TI TO i1 i2 t1 t2:Addr}{k:Nat}{xs ys:Array Value}{Q:Fin->Shared->Prop}(hh:A.handled=none)(D:ZipApart z TI TO i1 i2 t1 t2)(Z:iU s.heap z TI TO i1 i2 t1 t2 k xs ys .none)(hx:xs[k]? = none)
  (q:∀g e,(∀c o,c≠z->c≠TO->c≠i1->c≠i2->s.heap.get? c=some o->g.get? c=some o)->(∃o,g.get? e=some o/\o.cls=.type "StopIteration")->E (.ref e) { s with heap:=g }) :
  wpAny (model prog w) A (Builtin.«zip.__next__» ⟨[.ref z],[]⟩) Q E s:=by
 show wpAny _ _ (field (.ref z) 2 >>= _) _ _ _
 apply xaa
 refine wpAny_field Z.z rfl (x:=.bool false) rfl ?_
 show wpAny _ _ (field (.ref z) 3 >>= _) _ _ _
 apply xaa
 refine wpAny_field Z.z rfl (x:=.ref TI) rfl ?_
 apply xaa
 refine wpAny_seqItems Z.ti rfl ?_
 show wpAny _ _ (Builtin.SmallTypes.ownedTupleIsFree (.ref z) >>= _) _ _ _
 apply xaa
 unfold Builtin.SmallTypes.ownedTupleIsFree
 apply xaa
 refine wpAny_field Z.z rfl (x:=.none) rfl (xaw ?_)
 simp only[if_true]
 apply xaa;apply wpAny_rule;apply xaa
 refine wpAny_field Z.z rfl (x:=.ref TO) rfl ?_
 apply xaa
 refine wpAny_setField_rec Z.z (by simp) fun g1 z1 s1=>?_
 have z1:IsZip g1 z TI TO .ellipsis:=z1
 apply xaa
 simp only[List.zipIdx_cons,List.zipIdx_nil,xb4,List.forIn_nil]
 apply xaa;apply xaa;apply wpAny_onRaise
 show wpAny _ _ (Builtin.SmallTypes.nextOf (.ref i1) >>= _) _ _ _
 apply xaa
 refine YR hh (Z.i1.extBut s1.extBut D.i1z) (Z.t1.extBut s1.extBut D.l1z) hx fun g2 e s2 he=>?_
 obtain⟨o,eo,co⟩:=he
 have z2:IsZip g2 z TI TO .ellipsis:=s2 _ _ D.i1z.symm z1
 have ez:e≠z:=fun w=>by subst w;rw[z2] at eo;cases eo;simp at co
 refine wpAny_setField_rec z2 (by simp) fun g3 _ s3=>?_
 exact q g3 e (fun c o n1 _ n3 _ w=>s3.extBut _ _ n1 (s2 _ _ n3 (s1.extBut _ _ n1 w))) ⟨o,s3.extBut _ _ ez eo,co⟩
theorem YS{z TI TO i1 i2 t1 t2:Addr}{k:Nat}{xs ys:Array Value}{x y:Value}{Q:Option Value->Shared->Prop}(D:ZipApart z TI TO i1 i2 t1 t2)(Z:iU s.heap z TI TO i1 i2 t1 t2 k xs ys .none)(hx:xs[k]? = some x)(hy:ys[k]? = some y)
  (q:∀g,iU g z TI TO i1 i2 t1 t2 (k+1) xs ys (rawInt s.heap.objs.size)->IsPair g s.heap.objs.size x y->g.objs.size=s.heap.objs.size+1->(∀c o,c≠z->c≠TO->c≠i1->c≠i2->s.heap.get? c=some o->g.get? c=some o)->Q (some (.ref s.heap.objs.size)) { s with heap:=g }) :
  wpAny (model prog w) A (pyNext (.ref z)) Q E s:=by
 have T:s.TypeIs (.ref z) "zip":=⟨_,Z.z,rfl⟩
 unfold pyNext
 apply xaa;apply wpAny_attempt
 refine wpAny_callSpecial?_slot (name:="__next__") T F.slot_zip_next ?_
 refine wpAny_call_entry F.slot_zip_next T F.entry_zip_next ?_ (F.args_zip_next_1 _)
 exact Z.next D hx hy fun g a1 a2 a3 a4=>xaw (q g a1 a2 a3 a4)
theorem YT{z TI TO i1 i2 t1 t2:Addr}{k:Nat}{xs ys:Array Value}{Q:Option Value->Shared->Prop}(hh:A.handled=none)(D:ZipApart z TI TO i1 i2 t1 t2)(Z:iU s.heap z TI TO i1 i2 t1 t2 k xs ys .none)(hx:xs[k]? = none)
  (q:∀g,(∀c o,c≠z->c≠TO->c≠i1->c≠i2->s.heap.get? c=some o->g.get? c=some o)->Q none { s with heap:=g }):wpAny (model prog w) A (pyNext (.ref z)) Q E s:=by
 have T:s.TypeIs (.ref z) "zip":=⟨_,Z.z,rfl⟩
 unfold pyNext
 apply xaa;apply wpAny_attempt
 refine wpAny_callSpecial?_slot (name:="__next__") T F.slot_zip_next ?_
 refine wpAny_call_entry F.slot_zip_next T F.entry_zip_next ?_ (F.args_zip_next_1 _)
 refine Z.last hh D hx fun g e hk he=>?_
 obtain⟨o,ho,hc⟩:=he
 apply xaa
 exact wpAny_isInstance (T:="StopIteration") (b:=true) ⟨o,ho,hc⟩ isSubtype_stop (xaw (q _ hk))
def dS(t:Addr):Obj:={ cls:=.type "tuple_iterator",data:=.fields #[.ref t,.int 0 0] }
def gK(a b:Value):Obj:={ cls:=.type "tuple",data:=.seq #[a,b] }
def zp0(TI TO:Addr):Obj:={ cls:=.type "zip",data:=.fields #[.none,.bool false,.bool false,.ref TI,.ref TO] }
def k7(h:Heap)(t1 t2:Addr):Heap:=
 ((((h.push (dS t1)).push (dS t2)).push (gK (.ref h.objs.size) (.ref (h.push (dS t1)).objs.size))).push (gK .none .none)).push (zp0 ((h.push (dS t1)).push (dS t2)).objs.size (((h.push (dS t1)).push (dS t2)).push (gK (.ref h.objs.size) (.ref (h.push (dS t1)).objs.size))).objs.size)
theorem YU(t1 t2:Addr)(xs ys:Array Value):Meets (Builtin.«zip.__new__» ⟨[.type "zip",.ref t1,.ref t2],[]⟩) (fun _ R s=>s.heap.IsTuple t1 xs/\s.heap.IsTuple t2 ys/\
  R (.ok (.ret (.ref ((((s.heap.push (dS t1)).push (dS t2)).push (gK (.ref s.heap.objs.size) (.ref (s.heap.push (dS t1)).objs.size))).push (gK .none .none)).objs.size))) { s with heap:=k7 s.heap t1 t2 }):=
 .of_wp fun prog w A R s h=>by
  obtain⟨hp,g,d,tk,os⟩:=s;obtain⟨h1,h2,h⟩:=h
  have sub:=sub_zip
  have L1:Heap.IsTuple (Shared.heap ⟨hp,g,d,tk,os⟩) t1 xs:=h1
  have L2:Heap.IsTuple (Shared.heap ⟨hp.push { cls:=.type "tuple_iterator",data:=.fields #[.ref t1,.int 0 0] },g,d,tk,os⟩) t2 ys:=h2.at fun o e=>xad _ e
  wp_walk using wpAny_pyIter_tuple L1,wpAny_pyIter_tuple L2
  exact⟨_,rfl,h⟩
theorem YV{t1 t2:Addr}{xs ys:Array Value}{Q:Value->Shared->Prop}(h1:s.heap.IsTuple t1 xs)(h2:s.heap.IsTuple t2 ys)
  (q:∀g,iU g (s.heap.objs.size+4) (s.heap.objs.size+2) (s.heap.objs.size+3) s.heap.objs.size (s.heap.objs.size+1) t1 t2 0 xs ys .none->(∀c o,s.heap.get? c=some o->g.get? c=some o)->Q (.ref (s.heap.objs.size+4)) { s with heap:=g }) :
  wpAny (model prog w) A (call (.type "zip") [.ref t1,.ref t2]) Q E s:=by
 refine callType_new F.called_zip (by decide) (F.typeCall_zip_2 _ _) (F.newCall_zip_2 _ _) (fun obj=>F.args_object_init_3 obj _ _) F.entry_zip_new (YU t1 t2 xs ys) ⟨h1,h2,?_⟩
 have a1:(s.heap.push (dS t1)).objs.size=s.heap.objs.size+1:=xcl ..
 have a2:((s.heap.push (dS t1)).push (dS t2)).objs.size=s.heap.objs.size+2:=by rw[xcl,a1]
 have a3:(((s.heap.push (dS t1)).push (dS t2)).push (gK (.ref s.heap.objs.size) (.ref (s.heap.push (dS t1)).objs.size))).objs.size=s.heap.objs.size+3:=by rw[xcl,a2]
 have a4:((((s.heap.push (dS t1)).push (dS t2)).push (gK (.ref s.heap.objs.size) (.ref (s.heap.push (dS t1)).objs.size))).push (gK .none .none)).objs.size=s.heap.objs.size+4:=by rw[xcl,a3]
 have k:∀c o,s.heap.get? c=some o->(k7 s.heap t1 t2).get? c=some o:=fun c o e=>xad _ (xad _ (xad _ (xad _ (xad _ e))))
 have b5:(k7 s.heap t1 t2).get? (s.heap.objs.size+4)=some (zp0 (s.heap.objs.size+2) (s.heap.objs.size+3)):=by
  unfold k7;rw[a2,a3];exact xc0 a4.symm rfl
 have b4:(k7 s.heap t1 t2).get? (s.heap.objs.size+3)=some (gK .none .none):=xad _ (xc0 a3.symm rfl)
 have b3:(k7 s.heap t1 t2).get? (s.heap.objs.size+2)=some (gK (.ref s.heap.objs.size) (.ref (s.heap.objs.size+1))):=xad _ (xad _ (by rw[a1];exact xc0 a2.symm rfl))
 have b2:(k7 s.heap t1 t2).get? (s.heap.objs.size+1)=some (dS t2):=xad _ (xad _ (xad _ (xc0 a1.symm rfl)))
 have b1:(k7 s.heap t1 t2).get? s.heap.objs.size=some (dS t1):=xad _ (xad _ (xad _ (xad _ (xaz _ rfl))))
 show _/\_
 rw[a4]
 exact⟨⟨_,b5,rfl⟩,q _ ⟨b5,b3,⟨_,_,b4⟩,⟨_,b1,rfl,rfl⟩,⟨_,b2,rfl,rfl⟩,h1.at fun o e=>k _ o e,h2.at fun o e=>k _ o e⟩ k⟩
end
section
variable{X:Cx}{pins:List (Addr×Obj)}{O:St}{H:Hp}{s:Shared}{h':Heap}
theorem aF.turnedL{t':Nat}{ch:List Addr}(I:aF X pins O H s)(k:∀b o,b∉ch->s.heap.get? b=some o->h'.get? b=some o)(f:∀b∈ch,gO X pins H b):aF X pins O H { s with heap:=h',toks:=t' }:=by
 have nit:∀b u,H b=some u->b∉ch:=fun b u e z=>by rw[(f b z).1] at e;cases e
 refine I.step (g':=s.gens) (d':=s.drawn) (ch:=ch) (fun b hb=>?_) (fun b o _ _ hc e _=>k b o hc e) (fun b o _ _ hc e _=>⟨o.slots,k b o hc e⟩) (fun _ _ _ _ n=>n) (fun b o hc e=>⟨o,k b o hc e⟩) (fun _ _ e=>e) (fun _ _ _ e=>e) (fun b ps e=>⟨#[],by rw[e];simp⟩) (fun m hm=>?_) (fun b u e=>?_) I.bare
 ·obtain⟨_,f1,_,f3,f4,f5⟩:=f b hb
  exact⟨f3,f1,f4,f5⟩
 ·obtain⟨o,es,ep,ho,r⟩:=hm
  exact⟨o,es,ep,k _ o (fun z=>(f _ z).2.1 rfl) ho,r⟩
 ·refine(I.hok b u e).stay (fun c v hc q=>k c v ?_ q) (fun _ q=>q) fun _ _ q=>q
  rcases hc with z|z
  ·rw[z];exact nit b u e
  ·exact nit c _ z
end
def yE(K:xFg)(a b:Addr):It:=
 ⟨fun i H => ∃ xs ys x y, bO K H a xs /\ bO K H b ys /\ xs[i]? = some x /\ ys[i]? = some y,
  fun i H v H'=>∃T x y,v=.ref T/\H T=none/\H'=aS H T (.tup [x,y])/\(∀xs,bO K H a xs->xs[i]? = some x)/\∀ys,bO K H b ys->ys[i]? = some y,
  fun i H=>∃xs ys,bO K H a xs/\bO K H b ys/\xs.length<=i⟩
structure ZT(z TI TO i1 i2 a b:Addr)(k:Nat)(h:Heap):Prop where
 z:IsZip h z TI TO .none
 ti:IsPair h TI (.ref i1) (.ref i2)
 to:∃u v,IsPair h TO u v
 i1:h.IsTupleIter i1 a k
 i2:h.IsTupleIter i2 b k
theorem YW{P:Program}{w:World}{K:xFg}{es:List Expr}{ct:Nat}{ps:Pos}{z TI TO i1 i2 a b:Addr}(D:ZipApart z TI TO i1 i2 a b):kK P w K (.Tuple es ct ps) (yE K a b) [z,TI,TO,i1,i2] z (ZT z TI TO i1 i2 a b) where
 mem:=by simp
 obj:=fun i h st c hc=>by
  simp only[xal,xa2,or_false] at hc
  rcases hc with rfl|rfl|rfl|rfl|rfl
  ·exact⟨_,st.z,fun v q=>by cases q⟩
  ·exact⟨_,st.ti,fun v q=>by cases q⟩
  ·obtain⟨u,v,e⟩:=st.to
   exact⟨_,e,fun v q=>by cases q⟩
  ·obtain⟨o,e,c,d⟩:=st.i1
   exact⟨o,e,fun v q=>by rw[d] at q;cases q⟩
  ·obtain⟨o,e,c,d⟩:=st.i2
   exact⟨o,e,fun v q=>by rw[d] at q;cases q⟩
 keep:=fun i h h' st k=>by
  obtain⟨u,v,e⟩:=st.to
  exact⟨k _ (by simp) _ st.z,k _ (by simp) _ st.ti,⟨u,v,k _ (by simp) _ e⟩,st.i1.at fun o e=>k _ (by simp) o e,st.i2.at fun o e=>k _ (by simp) o e⟩
 item:=by
  intro X hP hw hK hc i pins s O H E I hf st hg
  subst hP hw hK
  obtain⟨xs,ys,x,y,h1,h2,hx,hy⟩:=hg
  obtain⟨its,rv,p,_⟩:=I.tuple h1
  obtain⟨jts,rw',p',_⟩:=I.tuple h2
  obtain⟨u,hu,ru⟩:=rv.get hx
  obtain⟨v,hv,rr⟩:=rw'.get hy
  have Z:iU s.heap z TI TO i1 i2 a b i its.toArray jts.toArray .none:=⟨st.z,st.ti,st.to,st.i1,st.i2,p,p'⟩
  refine YS D Z (x:=u) (y:=v) (by simpa using hu) (by simpa using hv) fun g Zg pg sg kg=>⟨_,rfl,?_⟩
  refine wpAny_letOwnedTupleGo_zip Zg.z fun g' zg sb=>?_
  have lz:z<s.heap.objs.size:=xam st.z
  have I1:aF X pins O (aS H s.heap.objs.size (.tup [x,y])) { s with heap:=s.heap.push (gK u v),toks:=s.toks }:=
   I.laid (fun _ _ q=>xad _ q) (xaf _) ⟨by show 2<=sizeLine;decide,[u,v],.cons ru (.cons rr .nil),⟨_,xaz _ rfl,rfl,⟨0,rfl⟩,rfl⟩⟩
  have fr:∀c∈[z,TI,TO,i1,i2],c≠s.heap.objs.size:=fun c hc e=>by
   simp only[xal,xa2,or_false] at hc
   obtain⟨u,v,eTO⟩:=st.to
   obtain⟨o1,q1,_⟩:=st.i1
   obtain⟨o2,q2,_⟩:=st.i2
   rcases hc with rfl|rfl|rfl|rfl|rfl
   ·exact xa7 lz e
   ·exact xa7 (xam st.ti) e
   ·exact xa7 (xam eTO) e
   ·exact xa7 (xam q1) e
   ·exact xa7 (xam q2) e
  have I2:aF X pins O (aS H s.heap.objs.size (.tup [x,y])) { s with heap:=g',toks:=s.toks }:=by
   refine aF.turnedL (s:={ s with heap:=s.heap.push (gK u v),toks:=s.toks }) (h':=g') (t':=s.toks) (ch:=[z,TI,TO,i1,i2]) I1 (fun c o hc e=>?_) fun c hc=>?_
   ·have cz:c≠z:=fun q=>hc (by simp[q])
    rcases Heap.get?_push_cases e with⟨rfl,rfl⟩|e
    ·exact sb.extBut _ _ cz pg
    ·exact sb.extBut _ _ cz (kg c o cz (fun q=>hc (by simp[q])) (fun q=>hc (by simp[q])) (fun q=>hc (by simp[q])) e)
   ·exact⟨by rw[bM (fr c hc)];exact(hf c hc).1,(hf c hc).2⟩
  obtain⟨u',v',eTO⟩:=Zg.to
  refine⟨.ref s.heap.objs.size,_,I2,rfl,⟨_,x,y,rfl,I.fresh,rfl,fun zs hz=>by rw[I.tuple_inj hz h1];exact hx,fun zs hz=>by rw[I.tuple_inj hz h2];exact hy⟩,⟨zg,sb.extBut _ _ D.TIz Zg.ti,⟨u',v',sb.extBut _ _ D.TOz eTO⟩,Zg.i1.at fun o e=>sb.extBut _ _ D.i1z e,Zg.i2.at fun o e=>sb.extBut _ _ D.i2z e⟩,fun c hc=>by rw[bM (fr c hc)];exact(hf c hc).1⟩
 done:=by
  intro X hP hw hK hc i pins s O H E I hf st hg
  subst hP hw hK
  obtain⟨xs,ys,h1,h2,hx⟩:=hg
  obtain⟨its,rv,p,_⟩:=I.tuple h1
  obtain⟨jts,rw',p',_⟩:=I.tuple h2
  have Z:iU s.heap z TI TO i1 i2 a b i its.toArray jts.toArray .none:=⟨st.z,st.ti,st.to,st.i1,st.i2,p,p'⟩
  have hl:=rv.length
  refine YT (I.ok.hd hc) D Z (by simp;omega) fun g kg=>⟨rfl,I.turnedL (t':=s.toks) (ch:=[z,TI,TO,i1,i2]) (fun c o hc e=>?_) hf⟩
  exact kg c o (fun q=>hc (by simp[q])) (fun q=>hc (by simp[q])) (fun q=>hc (by simp[q])) (fun q=>hc (by simp[q])) e
 self:=fun _ _ _ _ _ st h=>wpAny_pyIter_zip st.z h
end L2
namespace DL
open L2 PyProof.Rows
section
variable{X:Cx}{E:XK}
def YX(K:xFg)(ta:TA):TI:=fun O H R=>ta O H fun vs H1=>∃a b,vs=[.ref a,.ref b]/\(∃xs,bO K H1 a xs)/\(∃ys,bO K H1 b ys)/\R (yE K a b) H1
theorem YY{a b:Expr}{ta:TA}{p pos ps:Pos}{es:List Expr}{ct:Nat}(hg:Gl X "zip")(hm:X.mg "zip"=none)(ha:PA X [a,b] ta)(hs:starEach [a,b] X.env=[(false,eval a X.env),(false,eval b X.env)]:=by rfl)(hs2:starEach [b] X.env=[(false,eval b X.env)]:=by rfl) :
  PI X (.Tuple es ct ps) (.Call (.Name "zip" p) [a,b] [] pos) (YX X.K ta):=by
 intro pins s O H R I h
 refine Call_ (lQ I hg hm boot_zip (PyProof.Rows.callWith_type1 (aT (ha pos pins s O H _ I h) fun us s1 ⟨vs,H1,I1,r1,q1⟩=>?_) (by rw[hs,hs2]) (by rw[hs2];rfl)))
 obtain⟨a,b,e,⟨xs,hx⟩,⟨ys,hy⟩,q⟩:=q1
 subst e
 cases r1 with
 |cons r rr=>
  cases rr with
  |cons r' rr=>
   cases rr
   cases r
   cases r'
   obtain⟨its,_,p1,_⟩:=I1.tuple hx
   obtain⟨jts,_,p2,_⟩:=I1.tuple hy
   have l1:a<s1.heap.objs.size:=by obtain⟨o,e,_⟩:=p1;exact xam e
   have l2:b<s1.heap.objs.size:=by obtain⟨o,e,_⟩:=p2;exact xam e
   refine YV p1 p2 fun g Z kg=>?_
   refine wpAny_pyIter_zip Z.z ?_
   refine⟨_,[s1.heap.objs.size+4,s1.heap.objs.size+2,s1.heap.objs.size+3,s1.heap.objs.size,s1.heap.objs.size+1],_,_,H1,rfl,I1.kept (t':=s1.toks) kg,YW (zipApart_new l1 l2),⟨Z.z,Z.ti,Z.to,Z.i1,Z.i2⟩,fun c hc=>?_,q⟩
   have hc:s1.heap.objs.size<=c:=by
    simp only[xal,xa2,or_false] at hc
    rcases hc with rfl|rfl|rfl|rfl|rfl
    ·exact xco _ _
    ·exact xco _ _
    ·exact xco _ _
    ·exact xaf _
    ·exact xco _ _
   exact I1.fpOk hc (I1.hok.fresh hc)
def jL(xs ys:List D):List D:=List.zipWith (fun x y=>.tup [x,y]) xs ys
def pU:List D->R (List D)
 |[.tup xs,.tup ys]=>bif xs.length==ys.length then .ok (jL xs ys) else .bad
 |_=>.bad
theorem fK.zip{K:xFg}{mg:Str->Option Value}{G:Hp}{a b:Addr}{vs us:List V}{xs ys:List D}(h:bO K G a vs)(h':bO K G b us)(r:Reps K mg G xs vs)(r':Reps K mg G ys us)(hl:xs.length=ys.length):fK K mg (yE K a b) G (jL xs ys):=by
 have ln:(jL xs ys).length=vs.length:=by unfold jL;rw[List.length_zipWith,<- hl,Nat.min_self,r.length]
 refine⟨fun H e=>⟨vs,us,aH.sqT e h,aH.sqT e h',by rw[ln];exact xaf _⟩,fun H i d e hd=>?_⟩
 obtain⟨x,y,hx,hy,rfl⟩:∃x y,xs[i]? = some x/\ys[i]? = some y/\d=.tup [x,y]:=by
  unfold jL at hd
  rw[List.getElem?_zipWith] at hd
  cases ex:xs[i]? with
  |none=>rw[ex] at hd;cases hd
  |some x=>
   cases ey:ys[i]? with
   |none=>rw[ex,ey] at hd;cases hd
   |some y=>rw[ex,ey] at hd;exact⟨x,y,rfl,rfl,(xba hd).symm⟩
 obtain⟨v,hv,rv⟩:=r.get hx
 obtain⟨u,hu,ru⟩:=r'.get hy
 refine⟨⟨vs,us,v,u,aH.sqT e h,aH.sqT e h',hv,hu⟩,?_⟩
 rintro _ H' ⟨T,v',u',rfl,hn,rfl,q1,q2⟩ G1 e1 e2
 have z1:=q1 _ (aH.sqT e h)
 have z2:=q2 _ (aH.sqT e h')
 rw[hv] at z1;cases z1
 rw[hu] at z2;cases z2
 have st:=aN.pub (o:=.tup [v,u]) e2 hn
 exact⟨aS G1 T (.tup [v,u]),st,T,[v,u],rfl,bO.of cK,.cons (rv.mono (e1.trans st.g)) (.cons (ru.mono (e1.trans st.g)) rfl)⟩
theorem YZ{a b:Expr}{fs:DSt->R (List D)}{p pos ps:Pos}{es:List Expr}{ct:Nat}(hm:X.mg "zip"=none)(ha:DA X E [a,b] fs)(hg:Gl X "zip":=by rfl)(hs:starEach [a,b] X.env=[(false,eval a X.env),(false,eval b X.env)]:=by rfl)(hs2:starEach [b] X.env=[(false,eval b X.env)]:=by rfl) :
  DI X E (.Tuple es ct ps) (.Call (.Name "zip" p) [a,b] [] pos) (eV pU fs):=by
 refine PI.mono' (YY hg hm ha hs hs2) fun O H R ⟨G,Od,ok,q⟩=>?_
 refine⟨G,Od,ok,q.of_bind.mono (fun ds _ z vs G' H' s r=>?_) fun _ z=>z⟩
 match ds,z,r with
 |[.tup xs,.tup ys],z,r=>
  obtain⟨v,r1,rfl,⟨a,as,rfl,h1,k1⟩,r2⟩:=r
  obtain⟨v',r3,rfl,⟨b,bs,rfl,h2,k2⟩,r4⟩:=r2
  cases r4
  cases hl:(xs.length==ys.length) with
  |false=>simp only[pU,hl,cond_false] at z;exact z.elim
  |true=>
   simp only[pU,hl,cond_true] at z
   exact⟨a,b,rfl,⟨as,aH.sqT s.e h1⟩,⟨bs,aH.sqT s.e h2⟩,z _ G' H' s (.zip h1 h2 k1 k2 (by simpa using hl))⟩
end
end DL
section
namespace L2
open PyProof.Rows
def yF(K:xFg)(a:Addr):It:=
 ⟨fun i H => ∃ xs x, bD K H a xs /\ xs[i]? = some x,
  fun i H v H'=>∃T x,v=.ref T/\H T=none/\H'=aS H T (.tup [.int i,x])/\∀xs,bD K H a xs->xs[i]? = some x,
  fun i H=>∃xs,bD K H a xs/\xs.length<=i⟩
structure EL(e it a:Addr)(k:Nat)(h:Heap):Prop where
 e:∃old,IsEnum h e it k old
 it:h.IsListIter it a k
theorem KQ{P:Program}{w:World}{K:xFg}{es:List Expr}{ct:Nat}{ps:Pos}{e it a:Addr}(ne:e≠it):kK P w K (.Tuple es ct ps) (yF K a) [e,it] e (EL e it a) where
 mem:=by simp
 obj:=fun i h st c hc=>by
  simp only[xal,xa2,or_false] at hc
  rcases hc with rfl|rfl
  ·obtain⟨old,q⟩:=st.e
   exact⟨_,q,fun v q=>by cases q⟩
  ·obtain⟨o,e,c,d⟩:=st.it
   exact⟨o,e,fun v q=>by rw[d] at q;cases q⟩
 keep:=fun i h h' st k=>by
  obtain⟨old,q⟩:=st.e
  exact⟨⟨old,k _ (by simp) _ q⟩,st.it.at fun o e=>k _ (by simp) o e⟩
 item:=by
  intro X hP hw hK hc i pins s O H E I hf st hg
  subst hP hw hK
  obtain⟨xs,x,h1,hx⟩:=hg
  obtain⟨its,rv,p,_⟩:=I.list h1
  obtain⟨u,hu,ru⟩:=rv.get hx
  obtain⟨old,q0⟩:=st.e
  refine wpAny_pyNext_enum_item q0 st.it p.isList (x:=u) (by simpa using hu) ne fun g Zz Zi pg sg kg=>⟨_,rfl,?_⟩
  refine wpAny_letOwnedTupleGo_enum Zz fun g' zg sb=>?_
  obtain⟨oi,qi,_⟩:=st.it
  have I1:aF X pins O (aS H s.heap.objs.size (.tup [.int i,x])) { s with heap:=s.heap.push (gK (.int i s.toks) u),toks:=s.toks }:=
   I.laid (fun _ _ q=>xad _ q) (xaf _) ⟨by show 2<=sizeLine;decide,[.int i s.toks,u],.cons ⟨s.toks,rfl⟩ (.cons ru .nil),⟨_,xaz _ rfl,rfl,⟨0,rfl⟩,rfl⟩⟩
  have fr:∀c∈[e,it],c≠s.heap.objs.size:=fun c hc ec=>by
   simp only[xal,xa2,or_false] at hc
   rcases hc with rfl|rfl
   ·exact xa7 (xam q0) ec
   ·exact xa7 (xam qi) ec
  have I2:aF X pins O (aS H s.heap.objs.size (.tup [.int i,x])) { s with heap:=g',toks:=s.toks+1 }:=by
   refine aF.turnedL (s:={ s with heap:=s.heap.push (gK (.int i s.toks) u),toks:=s.toks }) (h':=g') (t':=s.toks+1) (ch:=[e,it]) I1 (fun c o hc ec=>?_) fun c hc=>?_
   ·have cz:c≠e:=fun q=>hc (by simp[q])
    rcases Heap.get?_push_cases ec with⟨rfl,rfl⟩|ec
    ·exact sb.extBut _ _ cz pg
    ·exact sb.extBut _ _ cz (kg c o cz (fun q=>hc (by simp[q])) ec)
   ·exact⟨by rw[bM (fr c hc)];exact(hf c hc).1,(hf c hc).2⟩
  refine⟨.ref s.heap.objs.size,_,I2,rfl,⟨_,x,rfl,I.fresh,rfl,fun zs hz=>by rw[I.list_inj hz h1];exact hx⟩,⟨⟨_,by simpa using zg⟩,Zi.at fun o eo=>sb.extBut _ _ ne.symm eo⟩,fun c hc=>by rw[bM (fr c hc)];exact(hf c hc).1⟩
 done:=by
  intro X hP hw hK hc i pins s O H E I hf st hg
  subst hP hw hK
  obtain⟨xs,h1,hx⟩:=hg
  obtain⟨its,rv,p,_⟩:=I.list h1
  obtain⟨old,q0⟩:=st.e
  have hl:=rv.length
  refine wpAny_pyNext_enum_end (I.ok.hd hc) q0 st.it p.isList (by simp;omega) fun g kg=>⟨rfl,I.turnedL (t':=s.toks) (ch:=[e,it]) (fun c o hc ec=>?_) hf⟩
  exact kg c o (fun q=>hc (by simp[q])) ec
 self:=fun A i s Q E st h=>by
  obtain⟨old,q0⟩:=st.e
  exact wpAny_pyIter_enum q0 h
end L2
namespace DL
open L2 PyProof.Rows
section
variable{X:Cx}{E:XK}
def Y0(K:xFg)(ta:TA):TI:=fun O H R=>ta O H fun vs H1=>∃a,vs=[.ref a]/\(∃xs,bD K H1 a xs)/\R (yF K a) H1
theorem Y1:bootBuiltins "enumerate"=some (.type "enumerate"):=by decide +kernel
theorem Y2{a:Expr}{ta:TA}{p pos ps:Pos}{es:List Expr}{ct:Nat}(hg:Gl X "enumerate")(hm:X.mg "enumerate"=none)(ha:PA X [a] ta)(hs:starEach [a] X.env=[(false,eval a X.env)]:=by rfl) :
  PI X (.Tuple es ct ps) (.Call (.Name "enumerate" p) [a] [] pos) (Y0 X.K ta):=by
 intro pins s O H R I h
 refine Call_ (lQ I hg hm Y1 (PyProof.Rows.callWith_type1 (aT (ha pos pins s O H _ I h) fun us s1 ⟨vs,H1,I1,r1,q1⟩=>?_) hs rfl))
 obtain⟨a,e,⟨xs,hx⟩,q⟩:=q1
 subst e
 cases r1 with
 |cons r rr=>
  cases rr
  cases r
  obtain⟨its,_,p1,_⟩:=I1.list hx
  refine call_enumerate_list p1.isList fun g zz zi _ kg=>?_
  have st:EL (s1.heap.objs.size+1) s1.heap.objs.size a 0 g:=⟨⟨_,zz⟩,zi⟩
  have ne:s1.heap.objs.size+1≠s1.heap.objs.size:=xck (Nat.lt_succ_self _)
  refine(KQ (P:=X.prog) (w:=X.w) (K:=X.K) (es:=es) (ct:=ct) (ps:=ps) ne).self X.A 0 { s1 with heap:=g } _ _ st ?_
  refine⟨_,[s1.heap.objs.size+1,s1.heap.objs.size],_,_,H1,rfl,I1.kept (t':=s1.toks) kg,KQ ne,st,fun c hc=>?_,q⟩
  have hc:s1.heap.objs.size<=c:=by
   simp only[xal,xa2,or_false] at hc
   rcases hc with rfl|rfl
   ·exact xco _ _
   ·exact xaf _
  exact I1.fpOk hc (I1.hok.fresh hc)
def gR(k:Nat):List D->List D
 |[]=>[]
 |d::ds=>.tup [.int k,d]::gR (k+1) ds
theorem KR:∀(ds:List D) (k:Nat),(gR k ds).length=ds.length
 |[],_=>rfl
 |_::ds,k=>by rw[gR,xan,xan,KR ds]
theorem KS:∀(ds:List D) (k i:Nat) (d:D),(gR k ds)[i]? = some d->∃x,ds[i]? = some x/\d=.tup [.int ((k+i:Nat):Int),x]
 |[],_,i,d,h=>by cases i<;>cases h
 |y::ds,k,0,d,h=>⟨y,rfl,(xba h).symm⟩
 |y::ds,k,i+1,d,h=>by
  obtain⟨x,h1,h2⟩:=KS ds (k+1) i d h
  exact⟨x,h1,by rw[h2,show k+1+i=k+(i+1) by omega]⟩
def yG:List D->R (List D)
 |[.lst xs]=>.ok (gR 0 xs)
 |_=>.bad
theorem fK.enum{K:xFg}{mg:Str->Option Value}{G:Hp}{a:Addr}{vs:List V}{xs:List D}(h:bD K G a vs)(r:Reps K mg G xs vs):fK K mg (yF K a) G (gR 0 xs):=by
 refine⟨fun H e=>⟨vs,e.seq h,by rw[KR,r.length];exact xaf _⟩,fun H i d e hd=>?_⟩
 obtain⟨x,hx,rfl⟩:=KS xs 0 i d hd
 obtain⟨v,hv,rv⟩:=r.get hx
 refine⟨⟨vs,v,e.seq h,hv⟩,?_⟩
 rintro _ H' ⟨T,v',rfl,hn,rfl,q1⟩ G1 e1 e2
 have z1:=q1 _ (e.seq h)
 rw[hv] at z1;cases z1
 have st:=aN.pub (o:=.tup [.int i,v]) e2 hn
 exact⟨aS G1 T (.tup [.int i,v]),st,T,[.int i,v],rfl,bO.of cK,.cons (by rw[xcc];rfl) (.cons (rv.mono (e1.trans st.g)) rfl)⟩
theorem Y3{a:Expr}{fs:DSt->R (List D)}{p pos ps:Pos}{es:List Expr}{ct:Nat}(hm:X.mg "enumerate"=none)(ha:DA X E [a] fs)(hg:Gl X "enumerate":=by rfl)(hs:starEach [a] X.env=[(false,eval a X.env)]:=by rfl) :
  DI X E (.Tuple es ct ps) (.Call (.Name "enumerate" p) [a] [] pos) (eV yG fs):=by
 refine PI.mono' (Y2 hg hm ha hs) fun O H R ⟨G,Od,ok,q⟩=>?_
 refine⟨G,Od,ok,q.of_bind.mono (fun ds _ z vs G' H' s r=>?_) fun _ z=>z⟩
 match ds,z,r with
 |[.lst xs],z,r=>
  obtain⟨v,r1,rfl,⟨a,as,rfl,h1,k1⟩,r2⟩:=r
  cases r2
  exact⟨a,rfl,⟨as,s.e.seq h1⟩,z _ G' H' s (.enum h1 k1)⟩
end
end DL
end
namespace DL
open L2 PyProof.Rows
section
variable{P:Program}{w:World}{K:xFg}{mg:Str->Option Value}{base:Heap}{x:Str}{st:Stmt}{f:Addr}{fd:FuncData}{N ps:List Str}{k n nN:Nat}{own':List Nat}{body:DSt->R aE}
structure FD(K:xFg)(x:Str)(st:Stmt):Prop where
 ex:∃f fd,PySem.W.nsIn K mainGlobals x=some (some (.ref f))/\jA K x x st f fd
theorem FD.mk'{oc:Value}{od an:Option Addr}{osl:Array (Option Value)}{kV doc pm cdv ct:Value}(a:PySem.W.nsIn K mainGlobals x=some (some (.ref f)))(l:K.lookup f=some ⟨oc,od,.func (PySem.W.fnOf x x (kN st) (gE st) (cP st) .none kV doc pm an cdv ct),osl⟩)
  (c:PySem.W.codeIn K cdv x=true) (k:PySem.W.keepIn K (.ref f)=true):FD K x st:=⟨f,_,a,B6 l c k⟩
structure FA(K:xFg)(mg:Str->Option Value)(x:Str)(st:Stmt)(ps:List Str)(f:Addr)(fd:FuncData):Prop where
 F:jA K x x st f fd
 m:mg x=some (.ref f)
 b:iN K fd ps []
theorem FD.go{h:Heap}(d:FD K x st)(X:K.In h)(G:h.Ns mainGlobals mg)(ps:List Str)
  (b:∀(kV doc pm:Value) (an:Option Addr) (cdv ct:Value) (us:List Value),us.length=ps.length->bindArgs (PySem.W.fnOf x x (kN st) (gE st) (cP st) .none kV doc pm an cdv ct) ⟨us,[]⟩=pure (ps.zip us)):∃f fd,FA K mg x st ps f fd:=by
 obtain⟨f,fd,a,F⟩:=d.ex
 exact⟨f,fd,F,xay X G a,F.binds b⟩
abbrev XX(P:Program)(w:World)(K:xFg)(mg:Str->Option Value)(base:Heap)(x:Str)(st:Stmt)(f:Addr)(N:List Str)(k:Nat)(D:Cx->XK->Prop):Prop:=
 ∀cdv A outer s H E,XC (dG (cC P w) P w K mg base N x (cP st) f cdv A outer s H E) E k->XL (dG (cC P w) P w K mg base N x (cP st) f cdv A outer s H E)->N.Nodup->D (dG (cC P w) P w K mg base N x (cP st) f cdv A outer s H E) E
theorem FA.ok(F:FA K mg x st ps f fd)(S:i7 N ps (cP st))(hn:ps.length=n)(hN:N.length=nN)
  (hb:XX P w K mg base x st f N k fun X E=>fV X E [] own' [] (gE st) body):aU P w K mg base (k+1) x (bV n nN body):=
 aU.mk' F.F S F.m F.b hn hN fun X E hX C L=>by
  obtain⟨cdv,A,outer,s,H,rfl⟩:=hX
  exact hb cdv A outer s H E C L S.nd
end
end DL
namespace DL
open L2 PyProof.Rows
section
variable{X:Cx}{E:XK}{K:xFg}{mg:Str->Option Value}{p pos:Pos}{e:Expr}{es:List Expr}{fs:DSt->R (List D)}
def Y4:V->List V->Hp->VK->Prop:=fun x vs H Q=>∃a b,x=.str a/\vs=[.str b]/\(b.length==0)=false/\a.length+2<=sizeLine/\∀p,H p=none->Q (.ref p) (aS H p (.lst ((Txt.split a b).map V.str)))
theorem Y5(x y:Str):(Txt.split x y).length<=x.length+2:=by
 unfold Txt.split
 split
 ·exact Nat.succ_le_of_lt (by simp)
 ·split
  ·exact Nat.succ_le_of_lt (by simp)
  ·have e1:=StrLaws.occ_length_le x y 0 x.length (x.length+1)
   rw[length_partsBetween];omega
theorem Y6:kM X "str.split" Y4:=by
 intro pins s O H x vs v us Q I rx rv h
 obtain⟨a,b,rfl,rfl,hy,hz,q⟩:=h
 obtain⟨t,rfl⟩:=rx
 obtain⟨u,rfl,ru⟩:=rv.one
 obtain⟨tb,rfl⟩:=ru
 have fin:∀(l:List (Str×Tok)) (tk:Nat),l.map (·.1)=Txt.split a b->EP X pins O Q (.ref s.heap.objs.size) { s with heap:=s.heap.push { cls:=.type "list",data:=.seq (strValues l).toArray },toks:=tk }:=fun l tk e=>by
  have hf:H s.heap.objs.size=none:=I.hok.fresh (xaf _)
  refine⟨.ref s.heap.objs.size,aS H s.heap.objs.size (.lst ((Txt.split a b).map V.str)),I.laid (t':=tk) (fun b u e=>xad _ e) (xaf _) ?_,rfl,q _ hf⟩
  refine⟨by rw[xat];exact xav (Y5 a b) hz,strValues l,0,by rw[<- e,xcm];exact yD l,xaz _ rfl⟩
 have hn:(Builtin.Str.partsBetween a (Builtin.Str.occurrences a b 0 a.length (a.length+1)) b.length).length<=sizeLine:=by
  have e1:=StrLaws.occ_length_le a b 0 a.length (a.length+1)
  rw[length_partsBetween];omega
 cases h1:(decide (a.length<b.length)||decide (Builtin.Str.strKind a<Builtin.Str.strKind b))
 ·cases hf:(Builtin.Str.occurrences a b 0 a.length (a.length+1)).isEmpty
  ·refine call_meets F.slot_str_split (typeIs_str _ _ _) F.entry_str_split (F.args_str_split_2 _ _) (meets_str_split_sep a b t tb h1 hy hf (by omega) hn) ?_
   show wants _ _ _ { s with toks:=_,heap:=s.heap.push { cls:=.type "list",data:=.seq (strsFrom s.toks (Builtin.Str.partsBetween a (Builtin.Str.occurrences a b 0 a.length (a.length+1)) b.length)).toArray } }
   rw[strsFrom_eq]
   exact fin (numbered s.toks _) _ ((numbered_texts _ _).trans ((xao (ne_true_of_eq_false h1)).trans (xao (ne_true_of_eq_false hf))).symm)
  ·exact call_meets F.slot_str_split (typeIs_str _ _ _) F.entry_str_split (F.args_str_split_2 _ _) (meets_str_split_not_found a b t tb h1 hy hf) (fin [(a,t)] s.toks ((xao (ne_true_of_eq_false h1)).trans (xau hf)).symm)
 ·exact call_meets F.slot_str_split (typeIs_str _ _ _) F.entry_str_split (F.args_str_split_2 _ _) (meets_str_split_cannot_occur a b t tb h1) (fin [(a,t)] s.toks (xau h1).symm)
def k8:D->D->R (List D)
 |.str x,.str y=>bif (!(y.length==0))&&bL (x.length+2) then .ok ((Txt.split x y).map D.str) else .bad
 |_,_=>.bad
def Y7(fe:DSt->R D)(O:DSt):D->R (List D)
 |.str z=>(fe O).bind fun d=>k8 (.str z) d
 |_=>.bad
def yH(fo fe:DSt->R D):DSt->R (List D):=fun O=>(fo O).bind fun z=>Y7 fe O z
theorem KT{G:Hp}:∀ys:List Str,Reps K mg G (ys.map D.str) (ys.map V.str)
 |[]=>Reps.nil
 |_::ys=>Reps.cons rfl (KT ys)
theorem Y8{o e:Expr}{fo fe:DSt->R D}{apos cpos:Pos}(ho:DE X E o fo)(he:DE X E e fe)
  (hbase:attributeBase o "split" X.env (eval o X.env)=eval o X.env:=by rfl)
  (hfew:((backTo cpos (starEach [e] X.env)).all (fun x=>!x.1)&&(backToKw cpos (keywordEach [] X.env)).all (fun x=>x.1.isSome)&&decide ([e].length+([]:List Keyword).length+(if ([]:List Keyword).isEmpty then 0 else 1)<30))=true:=by rfl)
  (hline:(apos.endLine==cpos.line)=true:=by rfl) (hs:starEach [e] X.env=(false,eval e X.env)::starEach [] X.env:=by rfl) (hplain:(backTo cpos (starEach [] X.env)).any (·.1)=false:=by rfl) :
  DF X E (.Call (.Attribute o "split" apos) [e] [] cpos) (yH fo fe):=by
 refine PE.mono' (iO PySem.F.plainAttrs_str PySem.F.slot_str_split PySem.F.type_str_split Y6 ho (cM he eA hs) hbase hfew hline hs hplain) fun O H Q ⟨G,Od,ok,q⟩=>?_
 refine fJ (P:=lY X.K X.mg Q) ok q fun z x G1 H1 s1 ok1 r1 q1=>?_
 cases z with
 |str y=>
  cases r1
  refine⟨rfl,G1,Od,ok1,(show RW ((aA fe aD) Od) _ _ from ?_)⟩
  unfold aA
  have q2:=(show RW ((fe Od).bind fun d=>k8 (.str y) d) _ _ from q1).of_bind
  cases hf:fe Od with
  |bad=>rw[hf] at q2;exact q2.elim
  |err e=>rw[hf] at q2;exact(show aV X.K X.mg E G1 H1 e from q2)
  |ok d=>
   rw[hf] at q2
   have q3:RW (k8 (.str y) d) (lY X.K X.mg Q G H) (aV X.K X.mg E G1 H1):=q2
   rintro ws G2 H2 s2 ⟨v,_,e1,r3,r4⟩
   subst e1
   cases r4
   cases d with
   |str z=>
    cases r3
    cases hC:((!(z.length==0))&&bL (y.length+2)) with
    |false=>simp only[k8,hC,cond_false] at q3;exact q3.elim
    |true=>
     simp only[k8,hC,cond_true] at q3
     rw[xax,Bool.not_eq_true'] at hC
     refine⟨y,z,rfl,rfl,hC.1,xaj hC.2,fun p hp=>?_⟩
     have st:=s1.trans s2
     have sp:=aN.hid (o:=.lst ((Txt.split y z).map V.str)) s2.e hp
     exact(show lY X.K X.mg Q G H ((Txt.split y z).map D.str) from q3) p _ G2 _ (st.trans sp) (st.h.free hp) cK (s2.e.free hp) (KT _)
   |_=>exact(show False from q3).elim
 |_=>exact(show False from q1).elim
theorem Y9:eR X (.type "int") (fun xs H Q=>∃x n,xs=[.str x]/\x.length<=640/\PySem.intText? x=some n/\Q (.int n) H):=by
 intro pins s O H xs us Q I r h
 obtain⟨x,n,rfl,hl,hn,q⟩:=h
 obtain⟨u,rfl,t,rfl⟩:=lR r
 exact call_int_1 (PySem.W.KIN.gives_text hl hn).meets ⟨typeIs_int _ _ _,.int n,H,I.tok _,⟨_,rfl⟩,q⟩
def k9:D->R D
 |.str x=>match PySem.intText? x with
  |some n=>bif decide (x.length<=640) then .ok (.int n) else .bad
  |none=>.bad
 |_=>.bad
abbrev nV:=g1 k9
theorem ZA:hV K mg (fun xs H Q=>∃x n,xs=[.str x]/\x.length<=640/\PySem.intText? x=some n/\Q (.int n) H) nV:=pP fun G H d v Q e r q=>by
 cases d with
 |str x=>
  cases r
  cases hT:PySem.intText? x with
  |none=>simp only[k9,hT] at q;exact q.elim
  |some n=>
   cases hC:decide (x.length<=640) with
   |false=>simp only[k9,hT,hC,cond_false] at q;exact q.elim
   |true=>simp only[k9,hT,hC,cond_true] at q;exact⟨x,n,rfl,xaj hC,hT,aM.now q e rfl⟩
 |_=>exact(show False from q).elim
theorem ZB(hm:X.mg "int"=none)(ha:DA X E (e::es) fs)(hg:Gl X "int":=by rfl)(he:starEach (e::es) X.env=(false,eval e X.env)::starEach es X.env:=by rfl)(hpl:(backTo pos (starEach es X.env)).any (·.1)=false:=by rfl):DE X E (.Call (.Name "int" p) (e::es) [] pos) (aG nV fs):=
 wN Y9 ZA hm ha xA hg (by decide) (by decide) he hpl
end
end DL
namespace DL
open L2 PyProof.Rows
theorem Reps.rep{K:xFg}{mg:Str->Option Value}{G:Hp}{ds:List D}{vs:List V}(h:Reps K mg G ds vs):∀k:Nat,Reps K mg G (List.replicate k ds).flatten (List.replicate k vs).flatten
 |0=>Reps.nil
 |k+1=>by
  rw[xa0,xa0,xbu,xbu]
  exact h.append (Reps.rep h k)
end DL
namespace DL
open PySem.W PyProof.Rows
section
variable{n:Nat}{lt:Nat->Nat->Bool}
abbrev sg(p:Array Nat)(i:Nat):Nat:=p.getD i 0
def Dn(lt:Nat->Nat->Bool)(p:Array Nat)(m:Nat):Prop:=∀i j,i<j->j<m->lt (sg p j) (sg p i)=true
end
end DL
section
set_option maxHeartbeats 2000000
namespace DL
open L2 PyProof.Rows
theorem KU{own:List Nat}:∀(O:DSt) (k j:Nat) (x:Option D),own.contains (k+j)=true->eW own k (O.set j x)=eW own k O
 |[],_,_,_,_=>rfl
 |d::ds,k,0,x,h=>by
  show (bif own.contains k then none else x)::eW own (k+1) ds=(bif own.contains k then none else d)::eW own (k+1) ds
  rw[show own.contains k=true from h];rfl
 |d::ds,k,j+1,x,h=>by
  show (bif own.contains k then none else d)::eW own (k+1) (ds.set j x)=(bif own.contains k then none else d)::eW own (k+1) ds
  rw[KU ds (k+1) j x (by rw[show k+1+j=k+(j+1) by omega];exact h)]
end DL
end
namespace DL
open L2 PyProof.Rows
section
variable{K:xFg}{mg:Str->Option Value}{c d:Str}{C D0:Addr}
def NR(K:xFg)(C:Addr)(c d:Str):Prop:=PySem.W.nsIn K mainGlobals d=some none\/∃D0,PySem.W.nsIn K mainGlobals d=some (some (.ref D0))/\PySem.W.kitOne K (.ref C) (.ref D0)=some (mF c d)/\(mF c d=true->PySem.W.exmOne K (.ref C) (.ref D0)=some true)
theorem NR.no(a:PySem.W.nsIn K mainGlobals d=some none):NR K C c d:=.inl a
theorem NR.ff(h:mF c d=false)(a:PySem.W.nsIn K mainGlobals d=some (some (.ref D0)))(t:PySem.W.kitOne K (.ref C) (.ref D0)=some false):NR K C c d:=.inr ⟨D0,a,by rw[h];exact t,fun z=>by rw[h] at z;cases z⟩
theorem NR.tt(h:mF c d=true)(a:PySem.W.nsIn K mainGlobals d=some (some (.ref D0)))(t:PySem.W.kitOne K (.ref C) (.ref D0)=some true)(u:PySem.W.exmOne K (.ref C) (.ref D0)=some true):NR K C c d:=.inr ⟨D0,a,by rw[h];exact t,fun _=>u⟩
theorem NR.row{h:Heap}(r:NR K C c d)(X:K.In h)(G:h.Ns mainGlobals mg):k4 K mg C d (mF c d):=by
 rcases r with a|⟨D0,a,t,u⟩
 ·exact k4.no (xa9 X G a)
 ·exact k4.of (xay X G a) t u
structure XD(K:xFg)(c:Str):Prop where
 ex:∃C,PySem.W.nsIn K mainGlobals c=some (some (.ref C))/\PySem.W.excIn K C [.type "ValueError",.type "Exception",.type "BaseException",.type "object"] "ValueError.__new__"=true/\lW K C/\PySem.W.kitOne K (.ref C) (.type "ValueError")=some true/\∀d∈kP,NR K C c d
theorem XD.mk'(e:PySem.W.nsIn K mainGlobals c=some (some (.ref C)))(y:PySem.W.excIn K C [.type "ValueError",.type "Exception",.type "BaseException",.type "object"] "ValueError.__new__"=true)
  (ga:PySem.W.findIn K (.ref C) "__getattribute__"=some (some (.builtin "BaseException.__getattribute__"))) (gh:PySem.W.findIn K (.ref C) "__getattr__"=some none) (bs:PySem.W.mroIn K C (.type "BaseException")=some true) (ob:PySem.W.mroIn K C (.type "object")=some true) (ca:PySem.W.findIn K (.ref C) "__class__"=some (some (.builtin "object.__class__")))
  (cg:PySem.W.specialIn K (.builtin "object.__class__") "__get__"=some (some (.builtin "getset_descriptor.__get__"))) (ct:PySem.W.takesIn K (.builtin "object.__class__")=some true) (vv:PySem.W.kitOne K (.ref C) (.type "ValueError")=some true)
  (r0:NR K C c "ChalkError") (r1:NR K C c "NoPlace") (r2:NR K C c "Same") (r3:NR K C c "NoFloor") (r4:NR K C c "Endless") (r5:NR K C c "NoDeed") (r6:NR K C c "NoText") (r7:NR K C c "NoName") (r8:NR K C c "TooMany") (r9:NR K C c "NoChange") (r10:NR K C c "NoFrame") (r11:NR K C c "NoValue") (r12:NR K C c "Unlike") (r13:NR K C c "NoRatio") (r14:NR K C c "NoBow") (r15:NR K C c "NoRow"):XD K c:=by
 refine⟨C,e,y,⟨by (obtain⟨_,hc,_⟩:=PySem.W.kw_along ga;rw[hc];rfl),ga,gh,bs,ob,ca,cg,ct⟩,vv,fun d hd=>?_⟩
 simp only[kP,xal,xa2,or_false] at hd
 rcases hd with rfl|rfl|rfl|rfl|rfl|rfl|rfl|rfl|rfl|rfl|rfl|rfl|rfl|rfl|rfl|rfl<;>assumption
theorem XD.go{h:Heap}(x:XD K c)(X:K.In h)(G:h.Ns mainGlobals mg):∃C,mg c=some (.ref C)/\PySem.W.excIn K C [.type "ValueError",.type "Exception",.type "BaseException",.type "object"] "ValueError.__new__"=true/\fR K mg c C:=by
 obtain⟨C,e,y,ec,vv,r⟩:=x.ex
 exact⟨C,xay X G e,y,fR.mk' (xay X G e) ec vv fun d hd=>(r d hd).row X G⟩
end
end DL
namespace DL
open PySem
theorem us0{P:List Value->Prop}(h:P []):∀us:List Value,us.length=0->P us:=fun us hl=>by
 cases us with
 |nil=>exact h
 |cons=>cases hl
theorem us1{P:List Value->Prop}(h:∀a,P [a]):∀us:List Value,us.length=1->P us:=fun us hl=>by
 cases us with
 |nil=>cases hl
 |cons a us=>exact us0 (P:=fun l=>P (a::l)) (h a) us (Nat.succ.inj hl)
theorem us2{P:List Value->Prop}(h:∀a b,P [a,b]):∀us:List Value,us.length=2->P us:=fun us hl=>by
 cases us with
 |nil=>cases hl
 |cons a us=>exact us1 (P:=fun l=>P (a::l)) (h a) us (Nat.succ.inj hl)
theorem us3{P:List Value->Prop}(h:∀a b c,P [a,b,c]):∀us:List Value,us.length=3->P us:=fun us hl=>by
 cases us with
 |nil=>cases hl
 |cons a us=>exact us2 (P:=fun l=>P (a::l)) (h a) us (Nat.succ.inj hl)
theorem us4{P:List Value->Prop}(h:∀a b c d,P [a,b,c,d]):∀us:List Value,us.length=4->P us:=fun us hl=>by
 cases us with
 |nil=>cases hl
 |cons a us=>exact us3 (P:=fun l=>P (a::l)) (h a) us (Nat.succ.inj hl)
theorem us5{P:List Value->Prop}(h:∀a b c d e,P [a,b,c,d,e]):∀us:List Value,us.length=5->P us:=fun us hl=>by
 cases us with
 |nil=>cases hl
 |cons a us=>exact us4 (P:=fun l=>P (a::l)) (h a) us (Nat.succ.inj hl)
end DL
namespace DL
open L2 PyProof.Rows
variable{X:Cx}{E:XK}{own ol:List Nat}{x y:Str}{pos pos' np:Pos}
def tR(i j:Nat):DSt->R aE:=fun O=>(aK O i).bind fun ds=>match ds[ds.length-1]? with
 |some d=>.ok (.nx ((O.set i (some (.lst ds.dropLast))).set j (some d)))
 |none=>.bad
theorem Reps.dropLast{K:xFg}{mg:Str->Option Value}{G:Hp}{ds:List D}{vs:List V}(h:Reps K mg G ds vs):Reps K mg G ds.dropLast vs.dropLast:=by
 rw[List.dropLast_eq_take,List.dropLast_eq_take,h.length];exact h.take _
theorem K2(i j:Nat){apos cpos:Pos}(hN:X.N.Nodup)(ho:own.contains i=true:=by rfl)(ho':own.contains j=false:=by rfl)(hi:X.N[i]? = some x:=by rfl)(hj:X.N[j]? = some y:=by rfl)(hv:cT X.env.scope x:=by first|exact Or.inl rfl|exact Or.inr (Or.inl rfl)|exact Or.inr (Or.inr rfl))(hd:(x==("__debug__":Str))=false:=by decide)
  (hcd:(x==("__classdict__":Str))=false:=by decide) (hy:iL X.env.scope y:=by first|exact Or.inl rfl|exact Or.inr rfl)
  (hbase:attributeBase (.Name x np) "pop" X.env (eval (.Name x np) X.env)=eval (.Name x np) X.env:=by rfl) (hline:(apos.endLine==cpos.line)=true:=by rfl)
  (hs:swapsWith (.Call (.Attribute (.Name x np) "pop" apos) [] [] cpos) (some (.Name y pos')) pos.line X.env=pure false:=by rfl)
  (hf:X.fn y=true\/X.env.scope.names.lookup y=some .local:=by first|exact .inl rfl|exact .inr rfl|assumption) :
  DS X E own own ol (.Assign [.Name y pos'] (.Call (.Attribute (.Name x np) "pop" apos) [] [] cpos) pos) (tR i j):=fun G0=>
 PS.mono' (m7 hN hj hy (nE PySem.F.plainAttrs_list PySem.F.slot_list_pop PySem.F.type_list_pop nF (pv i hi hv hd hcd) hbase hline) hs hf) fun Dn O H ⟨G,Od,ok,s0,q⟩=>by
 have q1:=q.of_bind
 cases hL:aK Od i with
 |bad=>rw[hL] at q1;exact q1.elim
 |err e=>exact xag hL eX
 |ok ds=>
  rw[hL] at q1
  have hd:=dP hL
  have hm:i∈own:=by simpa using ho
  obtain⟨a,ds',vs,p1,p2,p3,p4,p5,p6⟩:=ok.mine i _ hm hd
  cases p2
  cases hg:ds[ds.length-1]? with
  |none=>
   have q2:RW (match ds[ds.length-1]? with
    |some d=>R.ok (.nx ((Od.set i (some (.lst ds.dropLast))).set j (some d)))
    |none=>.bad) (bW X.K X.mg G0 X.H₀ own ol Dn G) (aV X.K X.mg E G0 X.H₀):=q1
   rw[hg] at q2;exact(show False from q2).elim
  |some d=>
   have q2:RW (match ds[ds.length-1]? with
    |some d=>R.ok (.nx ((Od.set i (some (.lst ds.dropLast))).set j (some d)))
    |none=>.bad) (bW X.K X.mg G0 X.H₀ own ol Dn G) (aV X.K X.mg E G0 X.H₀):=q1
   rw[hg] at q2
   obtain⟨v,hv',r⟩:=p6.get hg
   rw[p6.length] at hv'
   refine⟨_,p1,.inl ⟨rfl,_,bD.of p3⟩,a,vs,v,rfl,rfl,p3,hv',?_⟩
   exact(show bW X.K X.mg G0 X.H₀ own ol Dn G (.nx ((Od.set i (some (.lst ds.dropLast))).set j (some d))) from q2) _ G _ ((ok.write hm hd p1 p6.dropLast).set (l7 ho') r) (s0.write (o:=.lst vs) p5 p4) (aH.refl _)
end DL
namespace DL
open L2 PyProof.Rows
variable{P:Program}{w:World}{K:xFg}{mg:Str->Option Value}{base:Heap}{x:Str}{st:Stmt}{ps N:List Str}{f:Addr}{fd:FuncData}{k n nN:Nat}{own':List Nat}
def K3:List D->R D:=fun _=>.bad
def lA(g:(List D->R D)->List D->R D):Nat->List D->R D
 |0=>K3
 |n+1=>g (lA g n)
theorem FA.bad(F:FA K mg x st ps f fd)(S:i7 N ps (cP st)):aU P w K mg base (k+1) x K3:=by
 refine⟨f,fd,ps,F.F.okX S (fun vs H Q E h=>?_) (fun cdv A outer s H vs Q E hr hsp=>?_),F.m,F.F.kp,F.b⟩
 ·obtain⟨G,ds,e,r,q⟩:=h
  exact(show False from q).elim
 ·obtain⟨G,ds,e,r,q⟩:=hsp
  exact(show False from q).elim
theorem FA.deep(F:FA K mg x st ps f fd)(S:i7 N ps (cP st))(hn:ps.length=n)(hN:N.length=nN){body:(List D->R D)->DSt->R aE}
  (hb:∀(j:Nat) (m:List D->R D),aU P w K mg base (k+1+j) x m->XX P w K mg base x st f N (k+1+j) fun X E=>fV X E [] own' [] (gE st) (body m)) :
  ∀j,aU P w K mg base (k+1+j) x (lA (fun m=>bV n nN (body m)) j)
 |0=>FA.bad F S
 |j+1=>F.ok S hn hN (hb j _ (FA.deep F S hn hN hb j))
end DL
namespace DL
open L2 PyProof.Rows
variable{X:Cx}{E:XK}{own ol:List Nat}{x y:Str}{pos np nq:Pos}{e1 e2:Expr}{f1 f2:DSt->R D}
def pV(own:List Nat)(i j:Nat)(f1 f2:DSt->R D):DSt->R aE:=fun O=>(aK O i).bind fun _=>(f1 (mask own O)).bind fun d1=>(aK O j).bind fun ds=>match ds[ds.length-1]? with
 |some d=>(f2 (mask own (O.set j (some (.lst ds.dropLast))))).bind fun d2=>(aK (O.set j (some (.lst ds.dropLast))) i).bind fun xs=>bif most xs.length then .ok (.nx ((O.set j (some (.lst ds.dropLast))).set i (some (.lst (xs++[.tup [d1,d,d2]]))))) else .bad
 |none=>.bad
theorem ZD(i j:Nat){apos bpos cpos dpos tpos:Pos}{x1}(h1:DE X E e1 f1)(h2:DE X E e2 f2)(ho:own.contains i=true:=by rfl)(ho':own.contains j=true:=by rfl)(hN:X.N[i]? = some x:=by rfl)(hM:X.N[j]? = some y:=by rfl)
  (hv:cT X.env.scope x:=by first|exact Or.inl rfl|exact Or.inr (Or.inl rfl)|exact Or.inr (Or.inr rfl)) (hd:(x==("__debug__":Str))=false:=by decide) (hcd:(x==("__classdict__":Str))=false:=by decide)
  (hv':cT X.env.scope y:=by first|exact Or.inl rfl|exact Or.inr (Or.inl rfl)|exact Or.inr (Or.inr rfl)) (hd':(y==("__debug__":Str))=false:=by decide) (hcd':(y==("__classdict__":Str))=false:=by decide)
  (hbase:attributeBase (.Name x np) "append" X.env (eval (.Name x np) X.env)=eval (.Name x np) X.env:=by rfl) (hbase':attributeBase (.Name y nq) "pop" X.env (eval (.Name y nq) X.env)=eval (.Name y nq) X.env:=by rfl)
  (hfew:((backTo cpos (starEach [.Tuple [e1,.Call (.Attribute (.Name y nq) "pop" bpos) [] [] dpos,e2] x1 tpos] X.env)).all (fun x=>!x.1)&&(backToKw cpos (keywordEach [] X.env)).all (fun x=>x.1.isSome)&&decide ([Expr.Tuple [e1,.Call (.Attribute (.Name y nq) "pop" bpos) [] [] dpos,e2] x1 tpos].length+([]:List Keyword).length+(if ([]:List Keyword).isEmpty then 0 else 1)<30))=true:=by rfl)
  (hline:(apos.endLine==cpos.line)=true:=by rfl) (hline':(bpos.endLine==dpos.line)=true:=by rfl)
  (hs:starEach [.Tuple [e1,.Call (.Attribute (.Name y nq) "pop" bpos) [] [] dpos,e2] x1 tpos] X.env=(false,eval (.Tuple [e1,.Call (.Attribute (.Name y nq) "pop" bpos) [] [] dpos,e2] x1 tpos) X.env)::starEach [] X.env:=by rfl) (hplain:(backTo cpos (starEach [] X.env)).any (·.1)=false:=by rfl)
  (hs1:starEach [e1,.Call (.Attribute (.Name y nq) "pop" bpos) [] [] dpos,e2] X.env=(false,eval e1 X.env)::starEach [.Call (.Attribute (.Name y nq) "pop" bpos) [] [] dpos,e2] X.env:=by rfl)
  (hs2:starEach [.Call (.Attribute (.Name y nq) "pop" bpos) [] [] dpos,e2] X.env=(false,eval (.Call (.Attribute (.Name y nq) "pop" bpos) [] [] dpos) X.env)::starEach [e2] X.env:=by rfl)
  (hs3:starEach [e2] X.env=(false,eval e2 X.env)::starEach [] X.env:=by rfl)
  (hsw:swapsWith (.Call (.Attribute (.Name x np) "append" apos) [.Tuple [e1,.Call (.Attribute (.Name y nq) "pop" bpos) [] [] dpos,e2] x1 tpos] [] cpos) none pos.line X.env=pure false:=by rfl) :
  DS X E own own ol (.Expr (.Call (.Attribute (.Name x np) "append" apos) [.Tuple [e1,.Call (.Attribute (.Name y nq) "pop" bpos) [] [] dpos,e2] x1 tpos] [] cpos) pos) (pV own i j f1 f2):=fun G0=>
 PS.mono' (i0 (iO PySem.F.plainAttrs_list PySem.F.slot_list_append PySem.F.type_list_append o7 (pv i hN hv hd hcd)
  (dZ (rV (dZ h1 (dZ (nE PySem.F.plainAttrs_list PySem.F.slot_list_pop PySem.F.type_list_pop nF (pv j hM hv' hd' hcd') hbase' hline') (dZ h2 iM hs3) hs2) hs1)) iM hs) hbase hfew hline hs hplain) hsw) fun Dn O H ⟨G,Od,ok,s0,q⟩=>by
 have hi:i∈own:=by simpa using ho
 have hj:j∈own:=by simpa using ho'
 have q0:=q.of_bind
 cases hL:aK Od i with
 |bad=>rw[hL] at q0;exact q0.elim
 |err e=>exact xag hL eX
 |ok xs0=>
  rw[hL] at q0
  obtain⟨a,_,vs0,p1,_,p0,_⟩:=ok.mine i _ hi (dP hL)
  refine⟨_,p1,.inl ⟨rfl,_,bD.of p0⟩,?_⟩
  refine⟨G,mask own Od,ok.masked,(show RW ((f1 (mask own Od)).bind _) (bW X.K X.mg G0 X.H₀ own ol Dn G) (aV X.K X.mg E G0 X.H₀) from q0).of_bind.mono (fun d1 _ q1 v1 G1 H1 st1 r1=>?_) fun _ z=>z.step s0⟩
  have ok1:=ok.step st1
  have s1:=s0.trans st1
  have q2:=q1.of_bind
  cases hJ:aK Od j with
  |bad=>rw[hJ] at q2;exact q2.elim
  |err e=>exact xag hJ eX
  |ok ds=>
   rw[hJ] at q2
   obtain⟨b,ds',vs,p3,p4,p5,p6,p7,p8⟩:=ok1.mine j _ hj (dP hJ)
   cases p4
   cases hg:ds[ds.length-1]? with
   |none=>
    have q3:RW (match ds[ds.length-1]? with
     |some d=>(f2 (mask own (Od.set j (some (.lst ds.dropLast))))).bind fun d2=>(aK (Od.set j (some (.lst ds.dropLast))) i).bind fun xs=>bif most xs.length then R.ok (.nx ((Od.set j (some (.lst ds.dropLast))).set i (some (.lst (xs++[.tup [d1,d,d2]]))))) else .bad
     |none=>.bad) (bW X.K X.mg G0 X.H₀ own ol Dn G) (aV X.K X.mg E G0 X.H₀):=q2
    rw[hg] at q3;exact(show False from q3).elim
   |some d=>
    have q3:RW (match ds[ds.length-1]? with
     |some d=>(f2 (mask own (Od.set j (some (.lst ds.dropLast))))).bind fun d2=>(aK (Od.set j (some (.lst ds.dropLast))) i).bind fun xs=>bif most xs.length then R.ok (.nx ((Od.set j (some (.lst ds.dropLast))).set i (some (.lst (xs++[.tup [d1,d,d2]]))))) else .bad
     |none=>.bad) (bW X.K X.mg G0 X.H₀ own ol Dn G) (aV X.K X.mg E G0 X.H₀):=q2
    rw[hg] at q3
    obtain⟨v,hv1,rv⟩:=p8.get hg
    rw[p8.length] at hv1
    refine⟨_,p3,.inl ⟨rfl,_,bD.of p5⟩,b,vs,v,rfl,rfl,p5,hv1,?_⟩
    have ok2:=ok1.write hj (dP hJ) p3 p8.dropLast
    have s2:=s1.write (o:=.lst vs) (u:=.lst vs.dropLast) p7 p6
    refine⟨G1,mask own (Od.set j (some (.lst ds.dropLast))),ok2.masked,(show RW ((f2 (mask own (Od.set j (some (.lst ds.dropLast))))).bind _) (bW X.K X.mg G0 X.H₀ own ol Dn G) (aV X.K X.mg E G0 X.H₀) from q3).of_bind.mono (fun d2 _ q4 v2 G3 H3 st3 r3=>?_) fun _ z=>z.step s2⟩
    refine⟨by show 3<=sizeLine;decide,fun p hp=>?_⟩
    have ok3:=ok2.step st3
    have sp:aN G3 H3 (aS G3 p (.tup [v1,v,v2])) (aS H3 p (.tup [v1,v,v2])):=.pub ok3.ext hp
    have ok4:=ok3.step sp
    have q5:=q4.of_bind
    cases hI:aK (Od.set j (some (.lst ds.dropLast))) i with
    |bad=>rw[hI] at q5;exact q5.elim
    |err e=>exact xag hI eX
    |ok xs=>
     rw[hI] at q5
     have q6:RW (bif most xs.length then R.ok (.nx ((Od.set j (some (.lst ds.dropLast))).set i (some (.lst (xs++[.tup [d1,d,d2]]))))) else .bad) (bW X.K X.mg G0 X.H₀ own ol Dn G) (aV X.K X.mg E G0 X.H₀):=q5
     obtain⟨a',xs',ws,p9,p10,p11,p12,p13,p14⟩:=ok4.mine i _ hi (dP hI)
     cases p10
     rw[p1] at p9
     cases p9
     cases hm:most xs.length with
     |false=>rw[hm] at q6;exact(show False from q6).elim
     |true=>
      rw[hm] at q6
      have hlt:xs.length<sizeLine:=xaj hm
      refine⟨a,ws,.ref p,rfl,rfl,p11,by rw[<- p14.length];exact hlt,?_⟩
      have rt:aQ X.K X.mg (aS G3 p (.tup [v1,v,v2])) (.tup [d1,d,d2]) (.ref p):=⟨p,[v1,v,v2],rfl,bO.of cK,Reps.cons (r1.mono (st3.g.trans sp.g)) (Reps.cons (rv.mono (st3.g.trans sp.g)) (Reps.cons (r3.mono sp.g) Reps.nil))⟩
      exact(show bW X.K X.mg G0 X.H₀ own ol Dn G (.nx ((Od.set j (some (.lst ds.dropLast))).set i (some (.lst (xs++[.tup [d1,d,d2]]))))) from q6) O _ _ (ok4.write hi (dP hI) p1 (p14.append (Reps.cons rt Reps.nil))) ((s2.trans (st3.trans sp)).write (o:=.lst ws) p13 p12) (st1.g.trans (st3.g.trans sp.g))
end DL
namespace L2
open PySem.Spec PyProof.Rows
section
variable{κ:Type}[DecidableEq κ]
def putK(kvs:List (κ×V))(k:κ)(v:V):List (κ×V):=
 if (kvs.any fun kv=>decide (kv.1=k))=true then kvs.map (fun kv=>if kv.1=k then (kv.1,v) else kv) else kvs++[(k,v)]
end
def K4(i:Expr):Prop:=∀ov iv,subscripted i false ov iv=operate [ov,iv] (getItem ov iv)
theorem ZE{prog:Program}{w:World}{A:Around}{E:Value->Shared->Prop}{s:Shared}{env:Env}{value slice:Expr}{pos:Pos}{T id:String}{Q:Value->Shared->Prop}
  (hl:typeLookup (.type T) "__getitem__"=pure (some (.builtin id))) (hs:K4 slice)
  (h:wpAny (model prog w) A (eval value env) (fun o s₁=>wpAny (model prog w) A (eval slice env) (fun i s₂=>s₂.TypeIs o T/\wpAny (model prog w) A (getItem o i) Q E s₂) E s₁) E s) :
  wpAny (model prog w) A (eval (.Subscript value slice pos) env) Q E s:=by
 refine Subscript_ (wpAny_mono h (fun o s₁ h₁=>wpAny_mono h₁ (fun i s₂ h₂=>?_) fun _ _ x=>x) fun _ _ x=>x)
 obtain⟨hT,h₂⟩:=h₂
 unfold subscriptTail
 refine xaa ?_
 rw[getitemInPython_of_ne hT.not_modules]
 refine xaa (wpAny_specialOf hT hl ?_)
 have fin:wpAny (model prog w) A (subscripted slice false o i) (fun r s₃=>wpAny (model prog w) A (letTemporaryGo value o r >>= fun _=>pure r) Q E s₃) E s₂:=by
  rw[hs o i]
  exact wpAny_operating (wpAny_mono h₂ (fun r s₃ h₃=>xaa (wpAny_letTemporaryGo (xaw h₃))) fun _ _ x=>x)
 first
  |exact xaw (xaa fin)
  |exact xaa (xaw (xaa fin))
  |exact xaa fin
end L2
section
set_option maxHeartbeats 2000000
namespace DL
open L2 PyProof.Rows
def nW:DSt->R DSt:=fun O=>.ok O
def eI(f g:DSt->R DSt):DSt->R DSt:=fun O=>(f O).bind g
def iG(c:DSt->R Bool)(f g:DSt->R DSt):DSt->R DSt:=fun O=>(c O).bind fun k=>bif k then f O else g O
def iH(k:Nat)(fb:DSt->R DSt):List D->DSt->R DSt
 |[],O=>.ok O
 |d::ds,O=>(fb (O.set k (some d))).bind (iH k fb ds)
end DL
end
namespace DL
open L2 PyProof.Rows
variable{X:Cx}{E:XK}{own ol:List Nat}{x y:Str}{pos np nq:Pos}{e1 e2:Expr}{f1 f2:DSt->R D}
def pW(own:List Nat)(i j:Nat)(f1 f2:DSt->R D):DSt->R aE:=fun O=>(aK O i).bind fun _=>(f1 O).bind fun d1=>bif imm d1 then (aK O j).bind fun ds=>match ds[ds.length-1]? with
 |some d=>(f2 (mask own (O.set j (some (.lst ds.dropLast))))).bind fun d2=>(aK (O.set j (some (.lst ds.dropLast))) i).bind fun xs=>bif most xs.length then .ok (.nx ((O.set j (some (.lst ds.dropLast))).set i (some (.lst (xs++[.tup [d1,d,d2]]))))) else .bad
 |none=>.bad
 else .bad
theorem ZF(i j:Nat){apos bpos cpos dpos tpos:Pos}{x1}(h1:DE X E e1 f1)(h2:DE X E e2 f2)(ho:own.contains i=true:=by rfl)(ho':own.contains j=true:=by rfl)(hN:X.N[i]? = some x:=by rfl)(hM:X.N[j]? = some y:=by rfl)
  (hv:cT X.env.scope x:=by first|exact Or.inl rfl|exact Or.inr (Or.inl rfl)|exact Or.inr (Or.inr rfl)) (hd:(x==("__debug__":Str))=false:=by decide) (hcd:(x==("__classdict__":Str))=false:=by decide)
  (hv':cT X.env.scope y:=by first|exact Or.inl rfl|exact Or.inr (Or.inl rfl)|exact Or.inr (Or.inr rfl)) (hd':(y==("__debug__":Str))=false:=by decide) (hcd':(y==("__classdict__":Str))=false:=by decide)
  (hbase:attributeBase (.Name x np) "append" X.env (eval (.Name x np) X.env)=eval (.Name x np) X.env:=by rfl) (hbase':attributeBase (.Name y nq) "pop" X.env (eval (.Name y nq) X.env)=eval (.Name y nq) X.env:=by rfl)
  (hfew:((backTo cpos (starEach [.Tuple [e1,.Call (.Attribute (.Name y nq) "pop" bpos) [] [] dpos,e2] x1 tpos] X.env)).all (fun x=>!x.1)&&(backToKw cpos (keywordEach [] X.env)).all (fun x=>x.1.isSome)&&decide ([Expr.Tuple [e1,.Call (.Attribute (.Name y nq) "pop" bpos) [] [] dpos,e2] x1 tpos].length+([]:List Keyword).length+(if ([]:List Keyword).isEmpty then 0 else 1)<30))=true:=by rfl)
  (hline:(apos.endLine==cpos.line)=true:=by rfl) (hline':(bpos.endLine==dpos.line)=true:=by rfl)
  (hs:starEach [.Tuple [e1,.Call (.Attribute (.Name y nq) "pop" bpos) [] [] dpos,e2] x1 tpos] X.env=(false,eval (.Tuple [e1,.Call (.Attribute (.Name y nq) "pop" bpos) [] [] dpos,e2] x1 tpos) X.env)::starEach [] X.env:=by rfl) (hplain:(backTo cpos (starEach [] X.env)).any (·.1)=false:=by rfl)
  (hs1:starEach [e1,.Call (.Attribute (.Name y nq) "pop" bpos) [] [] dpos,e2] X.env=(false,eval e1 X.env)::starEach [.Call (.Attribute (.Name y nq) "pop" bpos) [] [] dpos,e2] X.env:=by rfl)
  (hs2:starEach [.Call (.Attribute (.Name y nq) "pop" bpos) [] [] dpos,e2] X.env=(false,eval (.Call (.Attribute (.Name y nq) "pop" bpos) [] [] dpos) X.env)::starEach [e2] X.env:=by rfl)
  (hs3:starEach [e2] X.env=(false,eval e2 X.env)::starEach [] X.env:=by rfl)
  (hsw:swapsWith (.Call (.Attribute (.Name x np) "append" apos) [.Tuple [e1,.Call (.Attribute (.Name y nq) "pop" bpos) [] [] dpos,e2] x1 tpos] [] cpos) none pos.line X.env=pure false:=by rfl) :
  DS X E own own ol (.Expr (.Call (.Attribute (.Name x np) "append" apos) [.Tuple [e1,.Call (.Attribute (.Name y nq) "pop" bpos) [] [] dpos,e2] x1 tpos] [] cpos) pos) (pW own i j f1 f2):=fun G0=>
 PS.mono' (i0 (iO PySem.F.plainAttrs_list PySem.F.slot_list_append PySem.F.type_list_append o7 (pv i hN hv hd hcd)
  (dZ (rV (dZ h1 (dZ (nE PySem.F.plainAttrs_list PySem.F.slot_list_pop PySem.F.type_list_pop nF (pv j hM hv' hd' hcd') hbase' hline') (dZ h2 iM hs3) hs2) hs1)) iM hs) hbase hfew hline hs hplain) hsw) fun Dn O H ⟨G,Od,ok,s0,q⟩=>by
 have hi:i∈own:=by simpa using ho
 have hj:j∈own:=by simpa using ho'
 have q0:=q.of_bind
 cases hL:aK Od i with
 |bad=>rw[hL] at q0;exact q0.elim
 |err e=>exact xag hL eX
 |ok xs0=>
  rw[hL] at q0
  obtain⟨a,_,vs0,p1,_,p0,_⟩:=ok.mine i _ hi (dP hL)
  refine⟨_,p1,.inl ⟨rfl,_,bD.of p0⟩,?_⟩
  refine⟨_,Od,ok.pub.1,(show RW ((f1 Od).bind _) (bW X.K X.mg G0 X.H₀ own ol Dn G) (aV X.K X.mg E G0 X.H₀) from q0).of_bind.mono (fun d1 _ q1 v1 Gp H1 stp rp=>?_) fun _ z=>z.step (ok.pubStep s0)⟩
  cases him:imm d1 with
  |false=>rw[him] at q1;exact(show False from q1).elim
  |true=>
  rw[him] at q1
  obtain⟨G1,st1,r1⟩:∃G1,aN G H G1 H1/\aQ X.K X.mg G1 d1 v1:=⟨_,(ok.hide stp).1,rp.imm (ok.hide stp).2 him⟩
  have ok1:=ok.step st1
  have s1:=s0.trans st1
  have q1:RW ((aK Od j).bind _) (bW X.K X.mg G0 X.H₀ own ol Dn G) (aV X.K X.mg E G0 X.H₀):=q1
  have q2:=q1.of_bind
  cases hJ:aK Od j with
  |bad=>rw[hJ] at q2;exact q2.elim
  |err e=>exact xag hJ eX
  |ok ds=>
   rw[hJ] at q2
   obtain⟨b,ds',vs,p3,p4,p5,p6,p7,p8⟩:=ok1.mine j _ hj (dP hJ)
   cases p4
   cases hg:ds[ds.length-1]? with
   |none=>
    have q3:RW (match ds[ds.length-1]? with
     |some d=>(f2 (mask own (Od.set j (some (.lst ds.dropLast))))).bind fun d2=>(aK (Od.set j (some (.lst ds.dropLast))) i).bind fun xs=>bif most xs.length then R.ok (.nx ((Od.set j (some (.lst ds.dropLast))).set i (some (.lst (xs++[.tup [d1,d,d2]]))))) else .bad
     |none=>.bad) (bW X.K X.mg G0 X.H₀ own ol Dn G) (aV X.K X.mg E G0 X.H₀):=q2
    rw[hg] at q3;exact(show False from q3).elim
   |some d=>
    have q3:RW (match ds[ds.length-1]? with
     |some d=>(f2 (mask own (Od.set j (some (.lst ds.dropLast))))).bind fun d2=>(aK (Od.set j (some (.lst ds.dropLast))) i).bind fun xs=>bif most xs.length then R.ok (.nx ((Od.set j (some (.lst ds.dropLast))).set i (some (.lst (xs++[.tup [d1,d,d2]]))))) else .bad
     |none=>.bad) (bW X.K X.mg G0 X.H₀ own ol Dn G) (aV X.K X.mg E G0 X.H₀):=q2
    rw[hg] at q3
    obtain⟨v,hv1,rv⟩:=p8.get hg
    rw[p8.length] at hv1
    refine⟨_,p3,.inl ⟨rfl,_,bD.of p5⟩,b,vs,v,rfl,rfl,p5,hv1,?_⟩
    have ok2:=ok1.write hj (dP hJ) p3 p8.dropLast
    have s2:=s1.write (o:=.lst vs) (u:=.lst vs.dropLast) p7 p6
    refine⟨G1,mask own (Od.set j (some (.lst ds.dropLast))),ok2.masked,(show RW ((f2 (mask own (Od.set j (some (.lst ds.dropLast))))).bind _) (bW X.K X.mg G0 X.H₀ own ol Dn G) (aV X.K X.mg E G0 X.H₀) from q3).of_bind.mono (fun d2 _ q4 v2 G3 H3 st3 r3=>?_) fun _ z=>z.step s2⟩
    refine⟨by show 3<=sizeLine;decide,fun p hp=>?_⟩
    have ok3:=ok2.step st3
    have sp:aN G3 H3 (aS G3 p (.tup [v1,v,v2])) (aS H3 p (.tup [v1,v,v2])):=.pub ok3.ext hp
    have ok4:=ok3.step sp
    have q5:=q4.of_bind
    cases hI:aK (Od.set j (some (.lst ds.dropLast))) i with
    |bad=>rw[hI] at q5;exact q5.elim
    |err e=>exact xag hI eX
    |ok xs=>
     rw[hI] at q5
     have q6:RW (bif most xs.length then R.ok (.nx ((Od.set j (some (.lst ds.dropLast))).set i (some (.lst (xs++[.tup [d1,d,d2]]))))) else .bad) (bW X.K X.mg G0 X.H₀ own ol Dn G) (aV X.K X.mg E G0 X.H₀):=q5
     obtain⟨a',xs',ws,p9,p10,p11,p12,p13,p14⟩:=ok4.mine i _ hi (dP hI)
     cases p10
     rw[p1] at p9
     cases p9
     cases hm:most xs.length with
     |false=>rw[hm] at q6;exact(show False from q6).elim
     |true=>
      rw[hm] at q6
      have hlt:xs.length<sizeLine:=xaj hm
      refine⟨a,ws,.ref p,rfl,rfl,p11,by rw[<- p14.length];exact hlt,?_⟩
      have rt:aQ X.K X.mg (aS G3 p (.tup [v1,v,v2])) (.tup [d1,d,d2]) (.ref p):=⟨p,[v1,v,v2],rfl,bO.of cK,Reps.cons (r1.mono (st3.g.trans sp.g)) (Reps.cons (rv.mono (st3.g.trans sp.g)) (Reps.cons (r3.mono sp.g) Reps.nil))⟩
      exact(show bW X.K X.mg G0 X.H₀ own ol Dn G (.nx ((Od.set j (some (.lst ds.dropLast))).set i (some (.lst (xs++[.tup [d1,d,d2]]))))) from q6) O _ _ (ok4.write hi (dP hI) p1 (p14.append (Reps.cons rt Reps.nil))) ((s2.trans (st3.trans sp)).write (o:=.lst ws) p13 p12) (st1.g.trans (st3.g.trans sp.g))
end DL
section
set_option maxHeartbeats 2000000
namespace DL
open L2 PyProof.Rows
abbrev ow(L:List (Nat×Addr)):List Nat:=L.map (·.1)
def Lk(L:List (Nat×Addr))(Od:DSt)(O:L2.St):Prop:=∀p∈L,O[p.1]? = some (some (.ref p.2))/\∃ds,Od[p.1]? = some (some (.lst ds))
section
variable{L:List (Nat×Addr)}{Od:DSt}{O:L2.St}
theorem Lk.set{j:Nat}{x:Option D}{y:Option V}(h:Lk L Od O)(hj:j∉ow L):Lk L (Od.set j x) (O.set j y):=fun p hp=>by
 obtain⟨h1,ds,h2⟩:=h p hp
 have hne:j≠p.1:=fun e=>hj (e▸xb3.mpr ⟨p,hp,rfl⟩)
 exact⟨by rw[xai hne];exact h1,ds,by rw[xai hne];exact h2⟩
theorem Lk.write{i:Nat}{ds:List D}(h:Lk L Od O):Lk L (Od.set i (some (.lst ds))) O:=fun p hp=>by
 obtain⟨h1,ds',h2⟩:=h p hp
 refine⟨h1,?_⟩
 by_cases e:i=p.1
 ·subst e
  exact⟨ds,xa3 (xah.mp h2).1⟩
 ·exact⟨ds',by rw[xai e];exact h2⟩
end
section
variable(K:xFg)(mg:Str->Option Value)(E:XK)
def cZ(G0 H0:Hp)(L:List (Nat×Addr))(Dn:gN)(G:Hp)(Od':DSt):Prop:=∀O' G' H',Ok K mg H0 (ow L) Od' O' G' H'->Lk L Od' O'->aN G0 H0 G' H'->aH G G'->Dn.nx O' H'
def tL(G0 H0:Hp)(L:List (Nat×Addr))(f:DSt->R DSt):TS:=fun Dn O H=>∃G Od,Ok K mg H0 (ow L) Od O G H/\Lk L Od O/\aN G0 H0 G H/\RW (f Od) (cZ K mg G0 H0 L Dn G) (aV K mg E G0 H0)
end
theorem cZ.shift{K:xFg}{mg:Str->Option Value}{G0 H0 G G':Hp}{L:List (Nat×Addr)}{Dn:gN}(s:aH G G'){o:DSt}(h:cZ K mg G0 H0 L Dn G o):cZ K mg G0 H0 L Dn G' o:=fun a b c d l e f=>h a b c d l e (s.trans f)
def DH(X:Cx)(E:XK)(L:List (Nat×Addr))(st:Stmt)(f:DSt->R DSt):Prop:=∀G0 H0,PS X st (tL X.K X.mg E G0 H0 L f)
def kB(X:Cx)(E:XK)(L:List (Nat×Addr))(st:List Stmt)(f:DSt->R DSt):Prop:=∀G0 H0,dY X st (tL X.K X.mg E G0 H0 L f)
def pX(own:List Nat)(j:Nat)(fe:DSt->R D):DSt->R DSt:=fun O=>(fe (mask own O)).bind fun d=>.ok (O.set j (some d))
def pY(i j:Nat):DSt->R DSt:=fun O=>(aK O i).bind fun ds=>match ds[ds.length-1]? with
 |some d=>.ok ((O.set i (some (.lst ds.dropLast))).set j (some d))
 |none=>.bad
def pZ(i:Nat):DSt->R DSt:=fun O=>(aK O i).bind fun ds=>match ds[ds.length-1]? with
 |some _=>.ok (O.set i (some (.lst ds.dropLast)))
 |none=>.bad
def nX(own:List Nat)(i:Nat)(fe:DSt->R D):DSt->R DSt:=fun O=>(aK O i).bind fun ds=>(fe (mask own O)).bind fun d=>bif most ds.length then .ok (O.set i (some (.lst (ds++[d])))) else .bad
def yI(own:List Nat)(i:Nat)(fe:DSt->R D):DSt->R DSt:=fun O=>(aK O i).bind fun ds=>(fe (mask own O)).bind fun d=>match d with
 |.lst es=>bif bL (ds.length+es.length) then .ok (O.set i (some (.lst (ds++es)))) else .bad
 |_=>.bad
def qA(own:List Nat)(i j:Nat)(f1 f2:DSt->R D):DSt->R DSt:=fun O=>(aK O i).bind fun xs=>(aK O j).bind fun ds=>match ds[ds.length-1]? with
 |some d=>(f1 (mask own O)).bind fun d1=>(f2 (mask own O)).bind fun d2=>bif most xs.length&&decide (i≠j) then .ok ((O.set j (some (.lst ds.dropLast))).set i (some (.lst (xs++[.tup [d,d1,d2]])))) else .bad
 |none=>.bad
def kC(f:DSt->R DSt):DSt->R aE:=fun O=>(f O).bind fun O'=>.ok (.nx O')
def tU:aE->R DSt
 |.nx O=>.ok O
 |_=>.bad
noncomputable def yJ(c:DSt->R Bool)(f:DSt->R DSt):DSt->R DSt:=fun O=>(dB c (kC f) O).bind tU
def yK(own:List Nat)(k:Nat)(fi:DSt->R (List D))(fb:DSt->R DSt):DSt->R DSt:=fun O=>(fi (mask own O)).bind fun ds=>iH k fb ds O
section
variable{X:Cx}{E:XK}{L:List (Nat×Addr)}{st:Stmt}{rest:List Stmt}{f g:DSt->R DSt}{pos np pos' nq:Pos}{x y:Str}{e e1 e2 c:Expr}{fe f1 f2:DSt->R D}{fc:DSt->R Bool}
theorem yL:kB X E L [] nW:=fun G0 H0=>dY.mono' A1 fun Dn O H ⟨G,Od,ok,lk,s0,q⟩=>(show cZ X.K X.mg G0 H0 L Dn G Od from q) O G H ok lk s0 (aH.refl _)
theorem lB(h1:DH X E L st f):kB X E L [st] f:=fun G0 H0=>A3 (h1 G0 H0)
theorem iV(h1:DH X E L st f)(h2:kB X E L rest g):kB X E L (st::rest) (eI f g):=fun G0 H0=>dY.mono' (A2 (h1 G0 H0) (h2 G0 H0)) fun Dn O H ⟨G,Od,ok,lk,s0,q⟩=>by
 refine⟨G,Od,ok,lk,s0,q.of_bind.mono (fun σ1 _ z=>?_) fun _ z=>z⟩
 intro O' G' H' ok' lk' s' e'
 exact⟨G',σ1,ok',lk',s',(show RW (g σ1) _ _ from z).mono (fun o _ z=>z.shift e') fun _ z=>z⟩
theorem yM{a b:List Stmt}(hc:DT X E c fc)(ha:kB X E L a f)(hb:kB X E L b g):DH X E L (.If c a b pos) (iG fc f g):=fun G0 H0=>
 PS.mono' (A4 hc (ha G0 H0) (hb G0 H0)) fun Dn O H ⟨G,Od,ok,lk,s0,q⟩=>by
 refine⟨_,Od,ok.pub.1,q.of_bind.mono (fun k _ z G' H' s=>?_) fun _ z=>z.step (ok.pubStep s0)⟩
 have ok':=ok.drop s.h
 have s':aN G0 H0 G H':=s0.trans (.heap ok.ext s.h)
 cases k with
 |true=>exact rY ⟨G,Od,ok',lk,s',(show RW (f Od) _ _ from z)⟩
 |false=>exact rX ⟨G,Od,ok',lk,s',(show RW (g Od) _ _ from z)⟩
theorem K5(j:Nat)(hN:X.N.Nodup)(he:DE X E e fe)(ho:(ow L).contains j=false:=by rfl)(hi:X.N[j]? = some x:=by rfl)(hx:iL X.env.scope x:=by first|exact Or.inl rfl|exact Or.inr rfl)(hs:swapsWith e (some (.Name x pos')) pos.line X.env=pure false:=by rfl)
  (hf:X.fn x=true\/X.env.scope.names.lookup x=some .local:=by first|exact .inl rfl|exact .inr rfl|assumption):DH X E L (.Assign [.Name x pos'] e pos) (pX (ow L) j fe):=fun G0 H0=>
 PS.mono' (m7 hN hi hx he hs hf) fun Dn O H ⟨G,Od,ok,lk,s0,q⟩=>by
 refine⟨G,mask (ow L) Od,ok.masked,q.of_bind.mono (fun d _ z v G' H' s r=>?_) fun _ z=>z.step s0⟩
 exact(show cZ X.K X.mg G0 H0 L Dn G (Od.set j (some d)) from z) _ G' H' ((ok.step s).set (l7 ho) r) (lk.set (l7 ho)) (s0.trans s) s.g
theorem K6(i j:Nat){apos cpos:Pos}(hN:X.N.Nodup)(ho:(ow L).contains i=true:=by rfl)(ho':(ow L).contains j=false:=by rfl)(hi:X.N[i]? = some x:=by rfl)(hj:X.N[j]? = some y:=by rfl)(hv:cT X.env.scope x:=by first|exact Or.inl rfl|exact Or.inr (Or.inl rfl)|exact Or.inr (Or.inr rfl))(hd:(x==("__debug__":Str))=false:=by decide)
  (hcd:(x==("__classdict__":Str))=false:=by decide) (hy:iL X.env.scope y:=by first|exact Or.inl rfl|exact Or.inr rfl)
  (hbase:attributeBase (.Name x np) "pop" X.env (eval (.Name x np) X.env)=eval (.Name x np) X.env:=by rfl) (hline:(apos.endLine==cpos.line)=true:=by rfl)
  (hs:swapsWith (.Call (.Attribute (.Name x np) "pop" apos) [] [] cpos) (some (.Name y pos')) pos.line X.env=pure false:=by rfl)
  (hf:X.fn y=true\/X.env.scope.names.lookup y=some .local:=by first|exact .inl rfl|exact .inr rfl|assumption) :
  DH X E L (.Assign [.Name y pos'] (.Call (.Attribute (.Name x np) "pop" apos) [] [] cpos) pos) (pY i j):=fun G0 H0=>
 PS.mono' (m7 hN hj hy (nE PySem.F.plainAttrs_list PySem.F.slot_list_pop PySem.F.type_list_pop nF (pv i hi hv hd hcd) hbase hline) hs hf) fun Dn O H ⟨G,Od,ok,lk,s0,q⟩=>by
 have q1:=q.of_bind
 cases hL:aK Od i with
 |bad=>rw[hL] at q1;exact q1.elim
 |err e=>exact xag hL eX
 |ok ds=>
  rw[hL] at q1
  have hd:=dP hL
  have hm:i∈ow L:=by simpa using ho
  obtain⟨a,ds',vs,p1,p2,p3,p4,p5,p6⟩:=ok.mine i _ hm hd
  cases p2
  have q2:RW (match ds[ds.length-1]? with
   |some d=>R.ok ((Od.set i (some (.lst ds.dropLast))).set j (some d))
   |none=>.bad) (cZ X.K X.mg G0 H0 L Dn G) (aV X.K X.mg E G0 H0):=q1
  cases hg:ds[ds.length-1]? with
  |none=>rw[hg] at q2;exact(show False from q2).elim
  |some d=>
   rw[hg] at q2
   obtain⟨v,hv',r⟩:=p6.get hg
   rw[p6.length] at hv'
   refine⟨_,p1,.inl ⟨rfl,_,bD.of p3⟩,a,vs,v,rfl,rfl,p3,hv',?_⟩
   exact(show cZ X.K X.mg G0 H0 L Dn G ((Od.set i (some (.lst ds.dropLast))).set j (some d)) from q2) _ G _ ((ok.write hm hd p1 p6.dropLast).set (l7 ho') r) (lk.write.set (l7 ho')) (s0.write (o:=.lst vs) p5 p4) (aH.refl _)
theorem ZG(i:Nat){apos cpos:Pos}(ho:(ow L).contains i=true:=by rfl)(hi:X.N[i]? = some x:=by rfl)(hv:cT X.env.scope x:=by first|exact Or.inl rfl|exact Or.inr (Or.inl rfl)|exact Or.inr (Or.inr rfl))(hd:(x==("__debug__":Str))=false:=by decide)
  (hcd:(x==("__classdict__":Str))=false:=by decide)
  (hbase:attributeBase (.Name x np) "pop" X.env (eval (.Name x np) X.env)=eval (.Name x np) X.env:=by rfl) (hline:(apos.endLine==cpos.line)=true:=by rfl)
  (hs:swapsWith (.Call (.Attribute (.Name x np) "pop" apos) [] [] cpos) none pos.line X.env=pure false:=by rfl) :
  DH X E L (.Expr (.Call (.Attribute (.Name x np) "pop" apos) [] [] cpos) pos) (pZ i):=fun G0 H0=>
 PS.mono' (i0 (nE PySem.F.plainAttrs_list PySem.F.slot_list_pop PySem.F.type_list_pop nF (pv i hi hv hd hcd) hbase hline) hs) fun Dn O H ⟨G,Od,ok,lk,s0,q⟩=>by
 have q1:=q.of_bind
 cases hL:aK Od i with
 |bad=>rw[hL] at q1;exact q1.elim
 |err e=>exact xag hL eX
 |ok ds=>
  rw[hL] at q1
  have hd:=dP hL
  have hm:i∈ow L:=by simpa using ho
  obtain⟨a,ds',vs,p1,p2,p3,p4,p5,p6⟩:=ok.mine i _ hm hd
  cases p2
  have q2:RW (match ds[ds.length-1]? with
   |some d=>R.ok (Od.set i (some (.lst ds.dropLast)))
   |none=>.bad) (cZ X.K X.mg G0 H0 L Dn G) (aV X.K X.mg E G0 H0):=q1
  cases hg:ds[ds.length-1]? with
  |none=>rw[hg] at q2;exact(show False from q2).elim
  |some d=>
   rw[hg] at q2
   obtain⟨v,hv',r⟩:=p6.get hg
   rw[p6.length] at hv'
   refine⟨_,p1,.inl ⟨rfl,_,bD.of p3⟩,a,vs,v,rfl,rfl,p3,hv',?_⟩
   exact(show cZ X.K X.mg G0 H0 L Dn G (Od.set i (some (.lst ds.dropLast))) from q2) _ G _ (ok.write hm hd p1 p6.dropLast) lk.write (s0.write (o:=.lst vs) p5 p4) (aH.refl _)
theorem K7(i:Nat){apos cpos:Pos}(he:DE X E e fe)(ho:(ow L).contains i=true:=by rfl)(hN:X.N[i]? = some x:=by rfl)(hv:cT X.env.scope x:=by first|exact Or.inl rfl|exact Or.inr (Or.inl rfl)|exact Or.inr (Or.inr rfl))(hd:(x==("__debug__":Str))=false:=by decide)
  (hcd:(x==("__classdict__":Str))=false:=by decide)
  (hbase:attributeBase (.Name x np) "append" X.env (eval (.Name x np) X.env)=eval (.Name x np) X.env:=by rfl)
  (hfew:((backTo cpos (starEach [e] X.env)).all (fun x=>!x.1)&&(backToKw cpos (keywordEach [] X.env)).all (fun x=>x.1.isSome)&&decide ([e].length+([]:List Keyword).length+(if ([]:List Keyword).isEmpty then 0 else 1)<30))=true:=by rfl)
  (hline:(apos.endLine==cpos.line)=true:=by rfl) (hs:starEach [e] X.env=(false,eval e X.env)::starEach [] X.env:=by rfl) (hplain:(backTo cpos (starEach [] X.env)).any (·.1)=false:=by rfl)
  (hsw:swapsWith (.Call (.Attribute (.Name x np) "append" apos) [e] [] cpos) none pos.line X.env=pure false:=by rfl) :
  DH X E L (.Expr (.Call (.Attribute (.Name x np) "append" apos) [e] [] cpos) pos) (nX (ow L) i fe):=fun G0 H0=>
 PS.mono' (i0 (iO PySem.F.plainAttrs_list PySem.F.slot_list_append PySem.F.type_list_append o7 (pv i hN hv hd hcd) (dZ he iM hs) hbase hfew hline hs hplain) hsw) fun Dn O H ⟨G,Od,ok,lk,s0,q⟩=>by
 have q1:=q.of_bind
 cases hL:aK Od i with
 |bad=>rw[hL] at q1;exact q1.elim
 |err e=>exact xag hL eX
 |ok ds=>
  rw[hL] at q1
  have hd:=dP hL
  have hi:i∈ow L:=by simpa using ho
  obtain⟨a,ds',vs,p1,p2,p3,p4,p5,p6⟩:=ok.mine i _ hi hd
  cases p2
  refine⟨_,p1,.inl ⟨rfl,_,bD.of p3⟩,G,mask (ow L) Od,ok.masked,(show RW ((fe (mask (ow L) Od)).bind _) _ _ from q1).of_bind.mono (fun d _ z v G' H' s r=>?_) fun _ z=>z.step s0⟩
  have z:RW (bif most ds.length then R.ok (Od.set i (some (.lst (ds++[d])))) else .bad) (cZ X.K X.mg G0 H0 L Dn G) (aV X.K X.mg E G0 H0):=z
  cases hm:most ds.length with
  |false=>rw[hm] at z;exact(show False from z).elim
  |true=>
   rw[hm] at z
   have hlt:ds.length<sizeLine:=xaj hm
   have ok':=ok.step s
   refine⟨a,vs,v,rfl,rfl,s.h _ _ p3,by rw[<- p6.length];exact hlt,?_⟩
   exact(show cZ X.K X.mg G0 H0 L Dn G (Od.set i (some (.lst (ds++[d])))) from z) O G' _ (ok'.write hi hd p1 ((p6.mono s.g).append (Reps.cons r Reps.nil))) lk.write ((s0.trans s).write (o:=.lst vs) p5 (s.c _ _ p3 p4)) s.g
theorem ZH(i:Nat){apos cpos:Pos}(he:DE X E e fe)(ho:(ow L).contains i=true:=by rfl)(hN:X.N[i]? = some x:=by rfl)(hv:cT X.env.scope x:=by first|exact Or.inl rfl|exact Or.inr (Or.inl rfl)|exact Or.inr (Or.inr rfl))(hd:(x==("__debug__":Str))=false:=by decide)
  (hcd:(x==("__classdict__":Str))=false:=by decide)
  (hbase:attributeBase (.Name x np) "extend" X.env (eval (.Name x np) X.env)=eval (.Name x np) X.env:=by rfl)
  (hfew:((backTo cpos (starEach [e] X.env)).all (fun x=>!x.1)&&(backToKw cpos (keywordEach [] X.env)).all (fun x=>x.1.isSome)&&decide ([e].length+([]:List Keyword).length+(if ([]:List Keyword).isEmpty then 0 else 1)<30))=true:=by rfl)
  (hline:(apos.endLine==cpos.line)=true:=by rfl) (hs:starEach [e] X.env=(false,eval e X.env)::starEach [] X.env:=by rfl) (hplain:(backTo cpos (starEach [] X.env)).any (·.1)=false:=by rfl)
  (hsw:swapsWith (.Call (.Attribute (.Name x np) "extend" apos) [e] [] cpos) none pos.line X.env=pure false:=by rfl) :
  DH X E L (.Expr (.Call (.Attribute (.Name x np) "extend" apos) [e] [] cpos) pos) (yI (ow L) i fe):=fun G0 H0=>
 PS.mono' (i0 (iO PySem.F.plainAttrs_list PySem.F.slot_list_extend PySem.F.type_list_extend X8 (pv i hN hv hd hcd) (dZ he iM hs) hbase hfew hline hs hplain) hsw) fun Dn O H ⟨G,Od,ok,lk,s0,q⟩=>by
 have q1:=q.of_bind
 cases hL:aK Od i with
 |bad=>rw[hL] at q1;exact q1.elim
 |err e=>exact xag hL eX
 |ok ds=>
  rw[hL] at q1
  have hd:=dP hL
  have hi:i∈ow L:=by simpa using ho
  obtain⟨a,ds',vs,p1,p2,p3,p4,p5,p6⟩:=ok.mine i _ hi hd
  cases p2
  refine⟨_,p1,.inl ⟨rfl,_,bD.of p3⟩,G,mask (ow L) Od,ok.masked,(show RW ((fe (mask (ow L) Od)).bind _) _ _ from q1).of_bind.mono (fun d _ z v G' H' s r=>?_) fun _ z=>z.step s0⟩
  cases d with
  |lst es=>
   obtain⟨b,ys,rfl,hb,hy⟩:=r
   have z:RW (bif bL (ds.length+es.length) then R.ok (Od.set i (some (.lst (ds++es)))) else .bad) (cZ X.K X.mg G0 H0 L Dn G) (aV X.K X.mg E G0 H0):=z
   cases hm:bL (ds.length+es.length) with
   |false=>rw[hm] at z;exact(show False from z).elim
   |true=>
    rw[hm] at z
    have hle:ds.length+es.length<=sizeLine:=xaj hm
    have ok':=ok.step s
    refine⟨a,b,vs,ys,rfl,rfl,s.h _ _ p3,s.e.seq hb,by rw[<- p6.length,<- hy.length];exact hle,?_⟩
    exact(show cZ X.K X.mg G0 H0 L Dn G (Od.set i (some (.lst (ds++es)))) from z) O G' _ (ok'.write hi hd p1 ((p6.mono s.g).append hy)) lk.write ((s0.trans s).write (o:=.lst vs) p5 (s.c _ _ p3 p4)) s.g
  |_=>exact(show False from z).elim
end
end DL
end
section
set_option maxHeartbeats 2000000
namespace DL
open L2 PyProof.Rows
def tV(c:Str):DSt->R DSt:=fun _=>.err (.exc c [])
section
variable{P:Program}{w:World}{K:xFg}{mg:Str->Option Value}{base:Heap}{N:List Str}{qual:Str}{scope:Scope}{f:Addr}{cdv:Value}{A:Around}{outer:List Env}{s0:Shared}{H1:Hp}{E:XK}{L:List (Nat×Addr)}
theorem yN{x t:Str}{C:Addr}{np cpos pos tp:Pos}{j}(q:PySem.W.excIn K C [.type "ValueError",.type "Exception",.type "BaseException",.type "object"] "ValueError.__new__"=true)(hx:fR K mg x C)
  (hg:Gl (dG (cC P w) P w K mg base N qual scope f cdv A outer s0 H1 E) x:=by rfl) (hdb:(x==("__debug__":Str))=false:=by decide) :
  DH (dG (cC P w) P w K mg base N qual scope f cdv A outer s0 H1 E) E L (.Raise (some (.Call (.Name x np) [.Constant (.str t) j tp] [] cpos)) none pos) (tV x):=fun G0 H0=>
 PS.mono' (CJ q hg hx.here (cM (sG (x:=t)) (eA (E:=E))) hdb) fun Dn O H ⟨G,Od,ok,lk,s1,z⟩=>by
 have sp:=ok.pubStep s1
 refine⟨_,Od,ok.pub.1,?_⟩
 show pB K mg _ _ _ [.str t]
 intro vs G' H' s r
 refine⟨by rw[<- r.length];show 1<=sizeLine;decide,?_⟩
 exact(show aV K mg E G0 H0 (.exc x []) from z) G' H' C none (sp.trans s) ⟨x,[],[],rfl,hx,.inl ⟨rfl,rfl⟩,Reps.nil⟩
end
section
variable{X:Cx}{E:XK}{L:List (Nat×Addr)}{st:Stmt}{rest body:List Stmt}{f g:DSt->R DSt}{pos np pos' nq:Pos}{x y:Str}{e e1 e2 c iter:Expr}{fe f1 f2:DSt->R D}{fc:DSt->R Bool}{fi:DSt->R (List D)}
theorem ZI(k:Nat){tp:Pos}(Lo:XL X)(hc:X.calm=true)(hi:DI X E (.Name x tp) iter fi)(hg:DG X (.Name x tp) [k] bQ)(hb:kB X E L body f)(ho:(ow L).contains k=false:=by rfl)(hs:∀x,foldedSetIterable iter X.env x=pure x:=by intro _;rfl) :
  DH X E L (.For (.Name x tp) iter body [] pos) (yK (ow L) k fi f):=fun G0 H0=>PS.mono' (BD Lo.own hc hi hg (hb G0 H0) hs) fun Dn O H ⟨G,Od,ok,lk,s0,q⟩=>by
 refine⟨G,mask (ow L) Od,ok.masked,q.of_bind.mono (fun ds _ z J G1 H1 s1 it=>?_) fun _ z=>z.step s0⟩
 have hk:=l7 ho
 refine⟨fun n m O' H'=>m=ds.length-n/\n<=ds.length/\∃G' Od',Ok X.K X.mg H0 (ow L) Od' O' G' H'/\Lk L Od' O'/\aH G1 G'/\aN G0 H0 G' H'/\RW (iH k f (ds.drop n) Od') (cZ X.K X.mg G0 H0 L Dn G1) (aV X.K X.mg E G0 H0),
  ⟨ds.length,by simp,xbz _,G1,Od,ok.step s1,lk,aH.refl _,s0.trans s1,(show RW (iH k f ds Od) _ _ from z).mono (fun _ _ z=>z.shift s1.g) fun _ z=>z⟩,?_⟩
 rintro n m O' H' ⟨rfl,hn,G',Od',ok',lk',e',s',w⟩
 by_cases hlt:n<ds.length
 ·right
  obtain⟨d,hd⟩:∃d,ds[n]? = some d:=⟨ds[n],by simp[hlt]⟩
  obtain⟨g1,g2⟩:=it.turn H' n d (e'.trans ok'.ext) hd
  have hdrop:ds.drop n=d::ds.drop (n+1):=by
   rw[xcu hlt]
   congr 1
   exact xba ((xbd hlt).symm.trans hd)
  rw[hdrop] at w
  refine⟨g1,fun σ2 H2=>n+1<=ds.length/\∃G' Od',Ok X.K X.mg H0 (ow L) Od' σ2 G' H2/\Lk L Od' σ2/\aH G1 G'/\aN G0 H0 G' H2/\RW (iH k f (ds.drop (n+1)) Od') (cZ X.K X.mg G0 H0 L Dn G1) (aV X.K X.mg E G0 H0),
   fun σ2 H2 ⟨h1,h2⟩=>⟨ds.length-(n+1),by omega,rfl,h1,h2⟩,fun x H2 hy=>?_⟩
  obtain⟨G2,s2,r2⟩:=g2 x H2 hy G' e' ok'.ext
  unfold iH at w
  refine⟨G2,d,s2.e,r2,RW.ok_of (a:=[d]) rfl fun ws rws=>?_⟩
  obtain⟨v,r,rfl,r3,r4⟩:=rws
  cases r4
  have ok2:=(ok'.step s2).set (i:=k) hk r3
  refine⟨G2,_,ok2,lk'.set hk,s'.trans s2,w.of_bind.mono (fun o _ z=>?_) fun _ z=>z⟩
  exact fun σ4 G4 H4 ok4 lk4 s4 e4=>⟨hlt,G4,o,ok4,lk4,(e'.trans s2.g).trans e4,s4,z⟩
 ·left
  have hn2:n=ds.length:=by omega
  subst hn2
  rw[xc5] at w
  refine⟨it.stop H' (e'.trans ok'.ext),?_⟩
  unfold iH at w
  exact(show cZ X.K X.mg G0 H0 L Dn G1 Od' from w) O' G' H' ok' lk' s' e'
theorem ZJ(Lo:XL X)(hc:DT X E c fc)(hb:kB X E L body f):DH X E L (.While c body [] pos) (yJ fc f):=fun G0 H0=>PS.mono' (A8 Lo.own hc (hb G0 H0)) fun Dn O H ⟨G,Od,ok,lk,s0,q⟩=>by
 have q:=(show RW ((dB fc (kC f) Od).bind tU) _ _ from q).of_bind
 have hx:∃n,cB fc (kC f) n Od≠.bad:=by
  by_cases hx:∃n,cB fc (kC f) n Od≠.bad
  ·exact hx
  ·unfold dB at q;rw[dif_neg hx] at q;exact(show False from q).elim
 obtain⟨n,hn⟩:=hx
 rw[jE rfl hn] at q
 refine⟨fun m O' H'=>∃G' Od',Ok X.K X.mg H0 (ow L) Od' O' G' H'/\Lk L Od' O'/\aH G G'/\aN G0 H0 G' H'/\RW (cB fc (kC f) m Od') (fun o=>RW (tU o) (cZ X.K X.mg G0 H0 L Dn G) (aV X.K X.mg E G0 H0)) (aV X.K X.mg E G0 H0),⟨n,G,Od,ok,lk,aH.refl _,s0,q⟩,?_⟩
 rintro m σ1 H1 ⟨G1,Od1,ok1,lk1,e1,s1,w⟩
 cases m with
 |zero=>exact(show False from w).elim
 |succ m=>
  unfold cB at w
  have sp:=ok1.pubStep s1
  refine⟨_,Od1,ok1.pub.1,w.of_bind.mono (fun k _ z G' H' s=>?_) fun _ z=>z.step sp⟩
  have ok':=ok1.drop s.h
  have s':aN G0 H0 G1 H':=s1.trans (.heap ok1.ext s.h)
  cases k with
  |true=>
   refine rY ?_
   refine⟨fun σ2 H2=>∃G' Od',Ok X.K X.mg H0 (ow L) Od' σ2 G' H2/\Lk L Od' σ2/\aH G G'/\aN G0 H0 G' H2/\RW (cB fc (kC f) m Od') (fun o=>RW (tU o) (cZ X.K X.mg G0 H0 L Dn G) (aV X.K X.mg E G0 H0)) (aV X.K X.mg E G0 H0),fun σ2 H2 h=>⟨m,Nat.lt_succ_self _,h⟩,?_⟩
   refine⟨G1,Od1,ok',lk1,s',(show RW (((f Od1).bind fun O'=>R.ok (aE.nx O')).bind _) _ _ from z).of_bind.of_bind.mono (fun σ3 _ z=>?_) fun _ z=>z⟩
   exact fun σ4 G4 H4 ok4 lk4 s4 e4=>⟨G4,σ3,ok4,lk4,e1.trans e4,s4,z⟩
  |false=>
   refine rX ?_
   exact(show cZ X.K X.mg G0 H0 L Dn G Od1 from z) σ1 G1 H' ok' lk1 s' e1
theorem ZK(i j:Nat){apos bpos cpos dpos tpos:Pos}{x1}(h1:DE X E e1 f1)(h2:DE X E e2 f2)(ho:(ow L).contains i=true:=by rfl)(ho':(ow L).contains j=true:=by rfl)(hN:X.N[i]? = some x:=by rfl)(hM:X.N[j]? = some y:=by rfl)
  (hv:cT X.env.scope x:=by first|exact Or.inl rfl|exact Or.inr (Or.inl rfl)|exact Or.inr (Or.inr rfl)) (hd:(x==("__debug__":Str))=false:=by decide) (hcd:(x==("__classdict__":Str))=false:=by decide)
  (hv':cT X.env.scope y:=by first|exact Or.inl rfl|exact Or.inr (Or.inl rfl)|exact Or.inr (Or.inr rfl)) (hd':(y==("__debug__":Str))=false:=by decide) (hcd':(y==("__classdict__":Str))=false:=by decide)
  (hbase:attributeBase (.Name x np) "append" X.env (eval (.Name x np) X.env)=eval (.Name x np) X.env:=by rfl) (hbase':attributeBase (.Name y nq) "pop" X.env (eval (.Name y nq) X.env)=eval (.Name y nq) X.env:=by rfl)
  (hfew:((backTo cpos (starEach [.Tuple [.Call (.Attribute (.Name y nq) "pop" bpos) [] [] dpos,e1,e2] x1 tpos] X.env)).all (fun x=>!x.1)&&(backToKw cpos (keywordEach [] X.env)).all (fun x=>x.1.isSome)&&decide ([Expr.Tuple [.Call (.Attribute (.Name y nq) "pop" bpos) [] [] dpos,e1,e2] x1 tpos].length+([]:List Keyword).length+(if ([]:List Keyword).isEmpty then 0 else 1)<30))=true:=by rfl)
  (hline:(apos.endLine==cpos.line)=true:=by rfl) (hline':(bpos.endLine==dpos.line)=true:=by rfl)
  (hs:starEach [.Tuple [.Call (.Attribute (.Name y nq) "pop" bpos) [] [] dpos,e1,e2] x1 tpos] X.env=(false,eval (.Tuple [.Call (.Attribute (.Name y nq) "pop" bpos) [] [] dpos,e1,e2] x1 tpos) X.env)::starEach [] X.env:=by rfl) (hplain:(backTo cpos (starEach [] X.env)).any (·.1)=false:=by rfl)
  (hs1:starEach [.Call (.Attribute (.Name y nq) "pop" bpos) [] [] dpos,e1,e2] X.env=(false,eval (.Call (.Attribute (.Name y nq) "pop" bpos) [] [] dpos) X.env)::starEach [e1,e2] X.env:=by rfl)
  (hs2:starEach [e1,e2] X.env=(false,eval e1 X.env)::starEach [e2] X.env:=by rfl)
  (hs3:starEach [e2] X.env=(false,eval e2 X.env)::starEach [] X.env:=by rfl)
  (hsw:swapsWith (.Call (.Attribute (.Name x np) "append" apos) [.Tuple [.Call (.Attribute (.Name y nq) "pop" bpos) [] [] dpos,e1,e2] x1 tpos] [] cpos) none pos.line X.env=pure false:=by rfl) :
  DH X E L (.Expr (.Call (.Attribute (.Name x np) "append" apos) [.Tuple [.Call (.Attribute (.Name y nq) "pop" bpos) [] [] dpos,e1,e2] x1 tpos] [] cpos) pos) (qA (ow L) i j f1 f2):=fun G0 H0=>
 PS.mono' (i0 (iO PySem.F.plainAttrs_list PySem.F.slot_list_append PySem.F.type_list_append o7 (pv i hN hv hd hcd)
  (dZ (rV (dZ (nE PySem.F.plainAttrs_list PySem.F.slot_list_pop PySem.F.type_list_pop nF (pv j hM hv' hd' hcd') hbase' hline') (dZ h1 (dZ h2 iM hs3) hs2) hs1)) iM hs) hbase hfew hline hs hplain) hsw) fun Dn O H ⟨G,Od,ok,lk,s0,q⟩=>by
 have hi:i∈ow L:=by simpa using ho
 have hj:j∈ow L:=by simpa using ho'
 have q0:=q.of_bind
 cases hL:aK Od i with
 |bad=>rw[hL] at q0;exact q0.elim
 |err e=>exact xag hL eX
 |ok xs=>
  rw[hL] at q0
  have hdi:=dP hL
  obtain⟨a,xs',vs0,p1,px,p0,pg,ph,pr⟩:=ok.mine i _ hi hdi
  cases px
  refine⟨_,p1,.inl ⟨rfl,_,bD.of p0⟩,?_⟩
  have q1:=(show RW ((aK Od j).bind _) (cZ X.K X.mg G0 H0 L Dn G) (aV X.K X.mg E G0 H0) from q0).of_bind
  cases hJ:aK Od j with
  |bad=>rw[hJ] at q1;exact q1.elim
  |err e=>exact xag hJ eX
  |ok ds=>
   rw[hJ] at q1
   have hdj:=dP hJ
   obtain⟨b,ds',vs,p3,p4,p5,p6,p7,p8⟩:=ok.mine j _ hj hdj
   cases p4
   have q2:RW (match ds[ds.length-1]? with
    |some d=>(f1 (mask (ow L) Od)).bind fun d1=>(f2 (mask (ow L) Od)).bind fun d2=>bif most xs.length&&decide (i≠j) then R.ok ((Od.set j (some (.lst ds.dropLast))).set i (some (.lst (xs++[.tup [d,d1,d2]])))) else .bad
    |none=>.bad) (cZ X.K X.mg G0 H0 L Dn G) (aV X.K X.mg E G0 H0):=q1
   cases hg:ds[ds.length-1]? with
   |none=>rw[hg] at q2;exact(show False from q2).elim
   |some d=>
    rw[hg] at q2
    obtain⟨v,hv1,rv⟩:=p8.get hg
    rw[p8.length] at hv1
    refine⟨_,p3,.inl ⟨rfl,_,bD.of p5⟩,b,vs,v,rfl,rfl,p5,hv1,?_⟩
    have ok1:=ok.write hj hdj p3 p8.dropLast
    have lk1:Lk L (Od.set j (some (.lst ds.dropLast))) O:=lk.write
    have s1:=s0.write (o:=.lst vs) (u:=.lst vs.dropLast) p7 p6
    have em:mask (ow L) (Od.set j (some (.lst ds.dropLast)))=mask (ow L) Od:=KU Od 0 j _ (by rw[xcc];exact ho')
    have q3:=(show RW ((f1 (mask (ow L) Od)).bind _) (cZ X.K X.mg G0 H0 L Dn G) (aV X.K X.mg E G0 H0) from q2).of_bind
    refine⟨G,mask (ow L) Od,by rw[<- em];exact ok1.masked,q3.mono (fun d1 _ q4 v1 G1 H1 st1 r1=>?_) fun _ z=>z.step s1⟩
    have ok2:=ok1.step st1
    refine⟨G1,mask (ow L) Od,by rw[<- em];exact ok2.masked,(show RW ((f2 (mask (ow L) Od)).bind _) (cZ X.K X.mg G0 H0 L Dn G) (aV X.K X.mg E G0 H0) from q4).of_bind.mono (fun d2 _ q5 v2 G2 H2 st2 r2=>?_) fun _ z=>z.step (s1.trans st1)⟩
    have ok3:=ok2.step st2
    refine⟨by show 3<=sizeLine;decide,fun p hp=>?_⟩
    have sp:aN G2 H2 (aS G2 p (.tup [v,v1,v2])) (aS H2 p (.tup [v,v1,v2])):=.pub ok3.ext hp
    have ok4:=ok3.step sp
    have q6:RW (bif most xs.length&&decide (i≠j) then R.ok ((Od.set j (some (.lst ds.dropLast))).set i (some (.lst (xs++[.tup [d,d1,d2]])))) else .bad) (cZ X.K X.mg G0 H0 L Dn G) (aV X.K X.mg E G0 H0):=q5
    cases hm:(most xs.length&&decide (i≠j)) with
    |false=>rw[hm] at q6;exact(show False from q6).elim
    |true=>
     rw[hm] at q6
     obtain⟨m1,m2⟩:=Bool.and_eq_true_iff.mp hm
     have hij:i≠j:=xaj m2
     have hlt:xs.length<sizeLine:=xaj m1
     have hdi':(Od.set j (some (.lst ds.dropLast)))[i]? = some (some (.lst xs)):=by rw[xai (xa6 hij)];exact hdi
     obtain⟨a',xs',ws,t1,t2,t3,t4,t5,t6⟩:=ok4.mine i _ hi hdi'
     cases t2
     rw[p1] at t1
     cases t1
     refine⟨a,ws,.ref p,rfl,rfl,t3,by rw[<- t6.length];exact hlt,?_⟩
     have gg:=st1.g.trans (st2.g.trans sp.g)
     have rt:aQ X.K X.mg (aS G2 p (.tup [v,v1,v2])) (.tup [d,d1,d2]) (.ref p):=⟨p,[v,v1,v2],rfl,bO.of cK,Reps.cons (rv.mono gg) (Reps.cons (r1.mono (st2.g.trans sp.g)) (Reps.cons (r2.mono sp.g) Reps.nil))⟩
     exact(show cZ X.K X.mg G0 H0 L Dn G ((Od.set j (some (.lst ds.dropLast))).set i (some (.lst (xs++[.tup [d,d1,d2]])))) from q6) O _ _ (ok4.write hi hdi' p1 (t6.append (Reps.cons rt Reps.nil))) lk1.write ((s1.trans (st1.trans (st2.trans sp))).write (o:=.lst ws) t5 t4) gg
end
end DL
end
section
set_option maxHeartbeats 2000000
namespace DL
open L2 PyProof.Rows
def gS(a b:Addr)(H:Hp):Hp:=fun c=>if c=a\/c=b then none else H c
structure In2(K:xFg)(mg:Str->Option Value)(i j:Nat)(ds:List D)(vs:List V)(a b:Addr)(xs ys:List D)(G H:Hp):Prop where
 ext:aH G H
 ab:a≠b
 ij:i≠j
 ga:G a=none
 gb:G b=none
 la:∃us,H a=some (.lst us)/\Reps K mg G xs us
 lb:∃us,H b=some (.lst us)/\Reps K mg G ys us
 len:ds.length=vs.length
 di:ds[i]? = some (.lst xs)
 dj:ds[j]? = some (.lst ys)
 vi:vs[i]? = some (.ref a)
 vj:vs[j]? = some (.ref b)
 oth:∀k d,k≠i->k≠j->ds[k]? = some d->∃v,vs[k]? = some v/\aQ K mg G d v
def ZM(K:xFg)(mg:Str->Option Value)(i j:Nat)(a b:Addr)(G H:Hp)(Q:VK)(O':DSt):Prop:=
 ∀xs' ys',O'[i]? = some (some (.lst xs'))->O'[j]? = some (some (.lst ys'))->∀G' H' us ws,H' a=some (.lst us)->H' b=some (.lst ws)->G' a=none->G' b=none->Reps K mg G' xs' us->Reps K mg G' ys' ws->aN G (gS a b H) G' H'->Q .non H'
def spO(K:xFg)(mg:Str->Option Value)(i j:Nat)(m:List D->R DSt):Sp:=fun vs H Q E=>∃G ds a b xs ys,In2 K mg i j ds vs a b xs ys G H/\RW (m ds) (ZM K mg i j a b G H Q) (aV K mg E G (gS a b H))
structure eK(P:Program)(w:World)(K:xFg)(mg:Str->Option Value)(base:Heap)(k:Nat)(x:Str)(i j:Nat)(m:List D->R DSt):Prop where
 ex:∃(f:Addr) (fd:FuncData) (ps:List Str),dN P w K mg base (cC P w) k f fd ps (spO K mg i j m)/\mg x=some (.ref f)/\PySem.W.keepIn K (.ref f)=true/\iN K fd ps []
theorem eK.mono{P:Program}{w:World}{K:xFg}{mg:Str->Option Value}{base:Heap}{l k:Nat}{x:Str}{i j:Nat}{m:List D->R DSt}(F:eK P w K mg base l x i j m)(h:l<=k):eK P w K mg base k x i j m:=by
 obtain⟨f,fd,ps,h1,h2⟩:=F.ex
 exact⟨f,fd,ps,h1.mono h,h2⟩
def lC(n nN:Nat)(body:DSt->R DSt):List D->R DSt:=fun ds=>bif ds.length==n then body (eY nN ds) else .bad
theorem tW{n nN:Nat}{b:DSt->R DSt}{ds:List D}(h:ds.length=n):lC n nN b ds=b (eY nN ds):=by
 unfold lC;rw[show (ds.length==n)=true by simpa using h];rfl
theorem ZO{n k:Nat}{ds:List D}{d:D}(h:(eY n ds)[k]? = some (some d)):ds[k]? = some d:=by
 unfold eY at h
 by_cases hk:k<ds.length
 ·rw[xbo (by simpa using hk),xbp] at h
  obtain⟨x,h1,h2⟩:=Option.map_eq_some_iff.mp h
  cases h2;exact h1
 ·rw[xb8 (by simpa using hk),xcg] at h
  split at h<;>cases h
theorem qB{α:Type}{n k:Nat}{ds:List α}{d:α}(h:ds[k]? = some d):(ds.map some++List.replicate n none)[k]? = some (some d):=by
 have hk:=(xah.mp h).1
 rw[xbo (by simpa using hk),xbp,h];rfl
section
variable{P:Program}{w:World}{K:xFg}{mg:Str->Option Value}{base:Heap}{x:Str}{st:Stmt}{ps N:List Str}{f:Addr}{fd:FuncData}{k n nN i j:Nat}{body:DSt->R DSt}
theorem FA.okO(F:FA K mg x st ps f fd)(S:i7 N ps (cP st))(hn:ps.length=n)(hN:N.length=nN)
  (hb:∀a b,XX P w K mg base x st f N k fun X E=>kB X E [(i,a),(j,b)] (gE st) body):eK P w K mg base (k+1) x i j (lC n nN body):=by
 refine⟨f,fd,ps,F.F.okX S (fun vs H Q E h=>?_) (fun cdv A outer s H vs Q E hr hsp=>?_),F.m,F.F.kp,F.b⟩
 ·obtain⟨G,ds,a,b,xs,ys,I,q⟩:=h
  by_cases hd:ds.length=n
  ·rw[<- I.len,hd,hn]
  ·have:(ds.length==n)=false:=by simpa using hd
   unfold lC at q
   rw[this] at q
   exact(show False from q).elim
 ·obtain⟨G,ds,a,b,xs,ys,I,q⟩:=hsp
  have hd:ds.length=n:=by
   by_cases hd:ds.length=n
   ·exact hd
   ·have:(ds.length==n)=false:=by simpa using hd
    unfold lC at q
    rw[this] at q
    exact(show False from q).elim
  rw[tW hd] at q
  obtain⟨us,ha1,ha2⟩:=I.la
  obtain⟨ws,hb1,hb2⟩:=I.lb
  have si:(eY nN ds)[i]? = some (some (.lst xs)):=qB I.di
  have sj:(eY nN ds)[j]? = some (some (.lst ys)):=qB I.dj
  have vi:(L2.start N vs)[i]? = some (some (.ref a)):=qB I.vi
  have vj:(L2.start N vs)[j]? = some (some (.ref b)):=qB I.vj
  have ha0:gS a b H a=none:=by unfold gS;rw[xau (.inl rfl)]
  have hb0:gS a b H b=none:=by unfold gS;rw[xau (.inr rfl)]
  refine⟨_,hb a b cdv A outer s H E ⟨rfl,hr,wB⟩ ⟨PassesOwn.leaving⟩ S.nd G (gS a b H),G,eY nN ds,⟨I.ext,?_,?_,?_,?_⟩,?_,⟨aH.refl _,?_,I.ext,fun _ _ _ h=>h⟩,q.mono (fun O' _ z=>?_) fun _ z=>z⟩
  ·unfold L2.start eY
   rw[xak,xak,xat,xat,xbb,xbb,hN,I.len]
  ·intro l d hl h
   have hl:l≠i/\l≠j:=by simpa using hl
   obtain⟨v,h1,h2⟩:=I.oth l d hl.1 hl.2 (ZO h)
   exact⟨v,qB h1,h2⟩
  ·intro l d hl h
   have hl:l=i\/l=j:=by simpa using hl
   rcases hl with rfl|rfl
   ·rw[si] at h;cases h
    exact⟨a,xs,us,vi,rfl,ha1,I.ga,ha0,ha2⟩
   ·rw[sj] at h;cases h
    exact⟨b,ys,ws,vj,rfl,hb1,I.gb,hb0,hb2⟩
  ·intro l l' c d d' hl hl' _ _ h h'
   have hl:l=i\/l=j:=by simpa using hl
   have hl':l'=i\/l'=j:=by simpa using hl'
   rcases hl with rfl|rfl<;>rcases hl' with rfl|rfl
   ·rfl
   ·rw[vi] at h;rw[vj] at h';cases h;cases h';exact xag rfl I.ab
   ·rw[vj] at h;rw[vi] at h';cases h;cases h';exact xag rfl I.ab
   ·rfl
  ·intro p hp
   have hp:p=(i,a)\/p=(j,b):=by simpa using hp
   rcases hp with rfl|rfl
   ·exact⟨vi,xs,si⟩
   ·exact⟨vj,ys,sj⟩
  ·intro c u h
   unfold gS at h
   split at h
   ·cases h
   ·exact h
  ·intro τ G' H' ok lk s _
   obtain⟨t1,xs',t2⟩:=lk (i,a) (by simp)
   obtain⟨t3,ys',t4⟩:=lk (j,b) (by simp)
   obtain⟨a',_,us',m1,m2,m3,m4,m5,m6⟩:=ok.mine i _ (by simp) t2
   obtain⟨b',_,ws',n1,n2,n3,n4,n5,n6⟩:=ok.mine j _ (by simp) t4
   cases m2;cases n2
   rw[t1] at m1;rw[t3] at n1
   cases m1;cases n1
   exact z xs' ys' t2 t4 G' H' us' ws' m3 n3 m4 n4 m6 n6 s
end
section
variable{K:xFg}{mg:Str->Option Value}{G G' G0 H H' H0:Hp}{own:List Nat}{Od:DSt}{O:L2.St}{a b:Addr}{i j:Nat}
theorem yO{c:Addr}{u:HO}(h:H c=some u)(ha:c≠a)(hb:c≠b):gS a b H c=some u:=by
 unfold gS;rw[xao (fun z=>z.elim ha hb)];exact h
theorem aN.called(s0:aN G0 H0 G H)(s:aN G (gS a b H) G' H')(ha:H0 a=none)(hb:H0 b=none):aN G0 H0 G' H':=
 ⟨s0.g.trans s.g,fun c u h=>s.h c u (yO (s0.h c u h) (cS h ha) (cS h hb)),s.e,fun c u h1 h2=>s.c c u (yO (s0.h c u h1) (cS h1 ha) (cS h1 hb)) (s0.c c u h1 h2)⟩
theorem aV.called{E:XK}{e:D}(h:aV K mg E G0 H0 e)(s0:aN G0 H0 G H)(ha:H0 a=none)(hb:H0 b=none):aV K mg E G (gS a b H) e:=fun G' H' C dct s r=>h G' H' C dct (s0.called s ha hb) r
theorem Ok.called{di dj:D}{xs ys:List D}{us ws:List V}(o:Ok K mg H0 own Od O G H)(hi:i∈own)(hj:j∈own)(hij:i≠j)(hdi:Od[i]? = some (some di))(hdj:Od[j]? = some (some dj))(hai:O[i]? = some (some (.ref a)))(haj:O[j]? = some (some (.ref b)))
  (s:aN G (gS a b H) G' H') (h1:H' a=some (.lst us)) (h2:H' b=some (.lst ws)) (g1:G' a=none) (g2:G' b=none) (r1:Reps K mg G' xs us) (r2:Reps K mg G' ys ws) (n1:H0 a=none) (n2:H0 b=none) :
  Ok K mg H0 own ((Od.set i (some (.lst xs))).set j (some (.lst ys))) O G' H':=by
 have li:=(xah.mp hdi).1
 have lj:=(xah.mp hdj).1
 have gi:((Od.set i (some (.lst xs))).set j (some (.lst ys)))[i]? = some (some (.lst xs)):=by rw[xai (xa6 hij),xa3 li]
 have gj:((Od.set i (some (.lst xs))).set j (some (.lst ys)))[j]? = some (some (.lst ys)):=by rw[xa3 (by simpa using lj)]
 have go:∀k,k≠i->k≠j->((Od.set i (some (.lst xs))).set j (some (.lst ys)))[k]? = Od[k]?:=fun k h1 h2=>by rw[xai (xa6 h2),xai (xa6 h1)]
 refine⟨s.e,by rw[List.length_set,List.length_set];exact o.len,fun k d hk h=>?_,fun k d hk h=>?_,fun k l c d d' hk hl h h' e e'=>?_⟩
 ·have h1:k≠i:=fun e=>hk (e▸hi)
  have h2:k≠j:=fun e=>hk (e▸hj)
  rw[go k h1 h2] at h
  obtain⟨v,z1,z2⟩:=o.val k d hk h
  exact⟨v,z1,z2.mono s.g⟩
 ·by_cases e1:k=i
  ·subst e1;rw[gi] at h;cases h
   exact⟨a,xs,us,hai,rfl,h1,g1,n1,r1⟩
  ·by_cases e2:k=j
   ·subst e2;rw[gj] at h;cases h
    exact⟨b,ys,ws,haj,rfl,h2,g2,n2,r2⟩
   ·rw[go k e1 e2] at h
    obtain⟨c,zs,vs,z1,z2,z3,z4,z5,z6⟩:=o.mine k d hk h
    have ca:c≠a:=fun e=>e1 (o.dj k i a _ _ hk hi h hdi (e▸z1) hai)
    have cb:c≠b:=fun e=>e2 (o.dj k j b _ _ hk hj h hdj (e▸z1) haj)
    have hh:=yO (a:=a) (b:=b) z3 ca cb
    exact⟨c,zs,vs,z1,z2,s.h _ _ hh,s.c _ _ hh z4,z5,z6.mono s.g⟩
 ·have old:∀k d,k∈own->((Od.set i (some (.lst xs))).set j (some (.lst ys)))[k]? = some (some d)->∃d',Od[k]? = some (some d'):=fun k d hk h=>by
   by_cases e1:k=i
   ·exact⟨_,e1▸hdi⟩
   ·by_cases e2:k=j
    ·exact⟨_,e2▸hdj⟩
    ·rw[go k e1 e2] at h;exact⟨d,h⟩
  obtain⟨x1,y1⟩:=old k d hk h
  obtain⟨x2,y2⟩:=old l d' hl h'
  exact o.dj k l c x1 x2 hk hl y1 y2 e e'
end
def qC(own:List Nat)(i j:Nat)(m:List D->R DSt)(fe:DSt->R D):DSt->R DSt:=fun O=>(fe (mask own O)).bind fun d=>(aK O i).bind fun xs=>(aK O j).bind fun ys=>(m [d,.lst xs,.lst ys]).bind fun τ=>(aK τ 1).bind fun xs'=>(aK τ 2).bind fun ys'=>.ok ((O.set i (some (.lst xs'))).set j (some (.lst ys')))
def gT(own:List Nat)(i j:Nat)(m:List D->R DSt)(fe:DSt->R D):DSt->R DSt:=fun O=>(aK O i).bind fun xs=>(aK O j).bind fun ys=>(fe (mask own O)).bind fun d=>(m [.lst xs,.lst ys,d]).bind fun τ=>(aK τ 0).bind fun xs'=>(aK τ 1).bind fun ys'=>.ok ((O.set i (some (.lst xs'))).set j (some (.lst ys')))
section
variable{X:Cx}{E:XK}{own:List Nat}{fe:DSt->R D}{e:Expr}{f x y:Str}{k i j:Nat}{m:List D->R DSt}{p np nq cpos pos:Pos}
def tCO(X:Cx)(E:XK)(G0 H0:Hp)(own:List Nat)(g:DSt->R DSt):TE:=fun O H Q=>∃G Od,Ok X.K X.mg H0 own Od O G H/\aN G0 H0 G H/\RW (g Od) (fun Od'=>∀G' H',Ok X.K X.mg H0 own Od' O G' H'->aN G0 H0 G' H'->aH G G'->Q .non H') (aV X.K X.mg E G0 H0)
theorem ZP(C:XC X E k)(F:eK X.prog X.w X.K X.mg X.base k f 1 2 m)(he:DE X E e fe){G0 H0:Hp}(ho:own.contains i=true)(ho':own.contains j=true)(hij:i≠j)(hN:X.N[i]? = some x)(hM:X.N[j]? = some y)
  (hv:cT X.env.scope x) (hd:(x==("__debug__":Str))=false) (hcd:(x==("__classdict__":Str))=false) (hv':cT X.env.scope y) (hd':(y==("__debug__":Str))=false) (hcd':(y==("__classdict__":Str))=false) (hg:Gl X f) (hdb:(f==("__debug__":Str))=false)
  (hs1:starEach [e,.Name x np,.Name y nq] X.env=(false,eval e X.env)::starEach [.Name x np,.Name y nq] X.env) (hs2:starEach [.Name x np,.Name y nq] X.env=(false,eval (.Name x np) X.env)::starEach [.Name y nq] X.env) (hs3:starEach [.Name y nq] X.env=(false,eval (.Name y nq) X.env)::starEach [] X.env)
  (hpl:(backTo cpos (starEach [.Name x np,.Name y nq] X.env)).any (·.1)=false):PE X (.Call (.Name f p) [e,.Name x np,.Name y nq] [] cpos) (tCO X E G0 H0 own (qC own i j m fe)):=by
 obtain⟨fa,fd,ps,h1,h2,h3,h4⟩:=F.ex
 refine PE.mono' (vT h1 C.room hg h2 h3 h4 .nil C.pass (dZ he (dZ (pv i hN hv hd hcd) (dZ (pv j hM hv' hd' hcd') iM hs3) hs2) hs1) hdb hs1 hpl) fun O H Q ⟨G,Od,ok,s0,q⟩=>?_
 have hi:i∈own:=by simpa using ho
 have hj:j∈own:=by simpa using ho'
 refine⟨G,mask own Od,ok.masked,q.of_bind.mono (fun d _ z v G1 H1 s1 r=>?_) fun _ z=>z.step s0⟩
 have ok1:=ok.step s1
 have s01:=s0.trans s1
 have z:=(show RW ((aK Od i).bind _) _ _ from z).of_bind
 cases hL:aK Od i with
 |bad=>rw[hL] at z;exact z.elim
 |err e=>exact xag hL eX
 |ok xs=>
  rw[hL] at z
  have z:=(show RW ((aK Od j).bind _) _ _ from z).of_bind
  cases hJ:aK Od j with
  |bad=>rw[hJ] at z;exact z.elim
  |err e=>exact xag hJ eX
  |ok ys=>
   rw[hJ] at z
   have hdi:=dP hL
   have hdj:=dP hJ
   obtain⟨a,_,us,p1,p2,p3,p4,p5,p6⟩:=ok1.mine i _ hi hdi
   obtain⟨b,_,ws,n1,n2,n3,n4,n5,n6⟩:=ok1.mine j _ hj hdj
   cases p2;cases n2
   refine⟨_,p1,_,n1,?_⟩
   have hab:a≠b:=fun e=>hij (ok1.dj i j a _ _ hi hj hdi hdj p1 (e▸n1))
   refine⟨G1,[d,.lst xs,.lst ys],a,b,xs,ys,⟨ok1.ext,hab,by decide,p4,n4,⟨us,p3,p6⟩,⟨ws,n3,n6⟩,rfl,rfl,rfl,rfl,rfl,fun l d' hl1 hl2 h=>?_⟩,(show RW ((m [d,.lst xs,.lst ys]).bind _) _ _ from z).of_bind.mono (fun τ _ z=>?_) fun _ z=>z.called s01 p5 n5⟩
   ·match l,hl1,hl2,h with
    |0,_,_,h=>cases h;exact⟨v,rfl,r⟩
    |1,hl1,_,_=>exact xag rfl hl1
    |2,_,hl2,_=>exact xag rfl hl2
    |l+3,_,_,h=>simp at h
   ·intro xs' ys' t1 t2 G' H' us' ws' q1 q2 q3 q4 q5 q6 s2
    rw[show aK τ 1=.ok xs' from by unfold aK;rw[t1]] at z
    have z:RW ((aK τ 2).bind _) _ _:=z
    rw[show aK τ 2=.ok ys' from by unfold aK;rw[t2]] at z
    exact(show ∀G' H',Ok X.K X.mg H0 own ((Od.set i (some (.lst xs'))).set j (some (.lst ys'))) O G' H'->aN G0 H0 G' H'->aH G G'->Q .non H' from z) G' H' (ok1.called hi hj hij hdi hdj p1 n1 s2 q1 q2 q3 q4 q5 q6 p5 n5) (s01.called s2 p5 n5) (s1.g.trans s2.g)
theorem K9(C:XC X E k)(F:eK X.prog X.w X.K X.mg X.base k f 0 1 m)(he:DE X E e fe){G0 H0:Hp}(ho:own.contains i=true)(ho':own.contains j=true)(hij:i≠j)(hN:X.N[i]? = some x)(hM:X.N[j]? = some y)
  (hv:cT X.env.scope x) (hd:(x==("__debug__":Str))=false) (hcd:(x==("__classdict__":Str))=false) (hv':cT X.env.scope y) (hd':(y==("__debug__":Str))=false) (hcd':(y==("__classdict__":Str))=false) (hg:Gl X f) (hdb:(f==("__debug__":Str))=false)
  (hs1:starEach [.Name x np,.Name y nq,e] X.env=(false,eval (.Name x np) X.env)::starEach [.Name y nq,e] X.env) (hs2:starEach [.Name y nq,e] X.env=(false,eval (.Name y nq) X.env)::starEach [e] X.env) (hs3:starEach [e] X.env=(false,eval e X.env)::starEach [] X.env)
  (hpl:(backTo cpos (starEach [.Name y nq,e] X.env)).any (·.1)=false):PE X (.Call (.Name f p) [.Name x np,.Name y nq,e] [] cpos) (tCO X E G0 H0 own (gT own i j m fe)):=by
 obtain⟨fa,fd,ps,h1,h2,h3,h4⟩:=F.ex
 refine PE.mono' (vT h1 C.room hg h2 h3 h4 .nil C.pass (dZ (pv i hN hv hd hcd) (dZ (pv j hM hv' hd' hcd') (dZ he iM hs3) hs2) hs1) hdb hs1 hpl) fun O H Q ⟨G,Od,ok,s0,q⟩=>?_
 have hi:i∈own:=by simpa using ho
 have hj:j∈own:=by simpa using ho'
 have z:=q.of_bind
 cases hL:aK Od i with
 |bad=>rw[hL] at z;exact z.elim
 |err e=>exact xag hL eX
 |ok xs=>
  rw[hL] at z
  have z:=(show RW ((aK Od j).bind _) _ _ from z).of_bind
  cases hJ:aK Od j with
  |bad=>rw[hJ] at z;exact z.elim
  |err e=>exact xag hJ eX
  |ok ys=>
   rw[hJ] at z
   have hdi:=dP hL
   have hdj:=dP hJ
   obtain⟨a,_,_,p1,_⟩:=ok.mine i _ hi hdi
   obtain⟨b,_,_,n1,_⟩:=ok.mine j _ hj hdj
   refine⟨_,p1,_,n1,G,mask own Od,ok.masked,(show RW ((fe (mask own Od)).bind _) _ _ from z).of_bind.mono (fun d _ z v G1 H1 s1 r=>?_) fun _ z=>z.step s0⟩
   have ok1:=ok.step s1
   have s01:=s0.trans s1
   obtain⟨a',_,us,p1',p2,p3,p4,p5,p6⟩:=ok1.mine i _ hi hdi
   obtain⟨b',_,ws,n1',n2,n3,n4,n5,n6⟩:=ok1.mine j _ hj hdj
   cases p2;cases n2
   rw[p1] at p1';cases p1'
   rw[n1] at n1';cases n1'
   have hab:a≠b:=fun e=>hij (ok1.dj i j a _ _ hi hj hdi hdj p1 (e▸n1))
   refine⟨G1,[.lst xs,.lst ys,d],a,b,xs,ys,⟨ok1.ext,hab,by decide,p4,n4,⟨us,p3,p6⟩,⟨ws,n3,n6⟩,rfl,rfl,rfl,rfl,rfl,fun l d' hl1 hl2 h=>?_⟩,(show RW ((m [.lst xs,.lst ys,d]).bind _) _ _ from z).of_bind.mono (fun τ _ z=>?_) fun _ z=>z.called s01 p5 n5⟩
   ·match l,hl1,hl2,h with
    |0,hl1,_,_=>exact xag rfl hl1
    |1,_,hl2,_=>exact xag rfl hl2
    |2,_,_,h=>cases h;exact⟨v,rfl,r⟩
    |l+3,_,_,h=>simp at h
   ·intro xs' ys' t1 t2 G' H' us' ws' q1 q2 q3 q4 q5 q6 s2
    rw[show aK τ 0=.ok xs' from by unfold aK;rw[t1]] at z
    have z:RW ((aK τ 1).bind _) _ _:=z
    rw[show aK τ 1=.ok ys' from by unfold aK;rw[t2]] at z
    exact(show ∀G' H',Ok X.K X.mg H0 own ((Od.set i (some (.lst xs'))).set j (some (.lst ys'))) O G' H'->aN G0 H0 G' H'->aH G G'->Q .non H' from z) G' H' (ok1.called hi hj hij hdi hdj p1 n1 s2 q1 q2 q3 q4 q5 q6 p5 n5) (s01.called s2 p5 n5) (s1.g.trans s2.g)
variable{ol:List Nat}{L:List (Nat×Addr)}
def qD(g:DSt->R DSt):DSt->R aE:=kC g
theorem LA(i j:Nat)(C:XC X E k)(F:eK X.prog X.w X.K X.mg X.base k f 1 2 m)(he:DE X E e fe)(ho:own.contains i=true:=by rfl)(ho':own.contains j=true:=by rfl)(hij:i≠j:=by decide)(hN:X.N[i]? = some x:=by rfl)(hM:X.N[j]? = some y:=by rfl)
  (hv:cT X.env.scope x:=by first|exact Or.inl rfl|exact Or.inr (Or.inl rfl)|exact Or.inr (Or.inr rfl)) (hd:(x==("__debug__":Str))=false:=by decide) (hcd:(x==("__classdict__":Str))=false:=by decide) (hv':cT X.env.scope y:=by first|exact Or.inl rfl|exact Or.inr (Or.inl rfl)|exact Or.inr (Or.inr rfl)) (hd':(y==("__debug__":Str))=false:=by decide) (hcd':(y==("__classdict__":Str))=false:=by decide) (hg:Gl X f:=by rfl) (hdb:(f==("__debug__":Str))=false:=by decide)
  (hs1:starEach [e,.Name x np,.Name y nq] X.env=(false,eval e X.env)::starEach [.Name x np,.Name y nq] X.env:=by rfl) (hs2:starEach [.Name x np,.Name y nq] X.env=(false,eval (.Name x np) X.env)::starEach [.Name y nq] X.env:=by rfl) (hs3:starEach [.Name y nq] X.env=(false,eval (.Name y nq) X.env)::starEach [] X.env:=by rfl)
  (hpl:(backTo cpos (starEach [.Name x np,.Name y nq] X.env)).any (·.1)=false:=by rfl) (hsw:swapsWith (.Call (.Name f p) [e,.Name x np,.Name y nq] [] cpos) none pos.line X.env=pure false:=by rfl) :
  DS X E own own ol (.Expr (.Call (.Name f p) [e,.Name x np,.Name y nq] [] cpos) pos) (qD (qC own i j m fe)):=fun G0=>
 PS.mono' (i0 (ZP (G0:=G0) (H0:=X.H₀) C F he ho ho' hij hN hM hv hd hcd hv' hd' hcd' hg hdb hs1 hs2 hs3 hpl) hsw) fun Dn O H ⟨G,Od,ok,s0,q⟩=>
 ⟨G,Od,ok,s0,q.of_bind.mono (fun O' _ z G' H' ok' s' e'=>(show bW X.K X.mg G0 X.H₀ own ol Dn G (.nx O') from z) O G' H' ok' s' e') fun _ z=>z⟩
theorem ZQ(i j:Nat)(C:XC X E k)(F:eK X.prog X.w X.K X.mg X.base k f 0 1 m)(he:DE X E e fe)(ho:own.contains i=true:=by rfl)(ho':own.contains j=true:=by rfl)(hij:i≠j:=by decide)(hN:X.N[i]? = some x:=by rfl)(hM:X.N[j]? = some y:=by rfl)
  (hv:cT X.env.scope x:=by first|exact Or.inl rfl|exact Or.inr (Or.inl rfl)|exact Or.inr (Or.inr rfl)) (hd:(x==("__debug__":Str))=false:=by decide) (hcd:(x==("__classdict__":Str))=false:=by decide) (hv':cT X.env.scope y:=by first|exact Or.inl rfl|exact Or.inr (Or.inl rfl)|exact Or.inr (Or.inr rfl)) (hd':(y==("__debug__":Str))=false:=by decide) (hcd':(y==("__classdict__":Str))=false:=by decide) (hg:Gl X f:=by rfl) (hdb:(f==("__debug__":Str))=false:=by decide)
  (hs1:starEach [.Name x np,.Name y nq,e] X.env=(false,eval (.Name x np) X.env)::starEach [.Name y nq,e] X.env:=by rfl) (hs2:starEach [.Name y nq,e] X.env=(false,eval (.Name y nq) X.env)::starEach [e] X.env:=by rfl) (hs3:starEach [e] X.env=(false,eval e X.env)::starEach [] X.env:=by rfl)
  (hpl:(backTo cpos (starEach [.Name y nq,e] X.env)).any (·.1)=false:=by rfl) (hsw:swapsWith (.Call (.Name f p) [.Name x np,.Name y nq,e] [] cpos) none pos.line X.env=pure false:=by rfl) :
  DS X E own own ol (.Expr (.Call (.Name f p) [.Name x np,.Name y nq,e] [] cpos) pos) (qD (gT own i j m fe)):=fun G0=>
 PS.mono' (i0 (K9 (G0:=G0) (H0:=X.H₀) C F he ho ho' hij hN hM hv hd hcd hv' hd' hcd' hg hdb hs1 hs2 hs3 hpl) hsw) fun Dn O H ⟨G,Od,ok,s0,q⟩=>
 ⟨G,Od,ok,s0,q.of_bind.mono (fun O' _ z G' H' ok' s' e'=>(show bW X.K X.mg G0 X.H₀ own ol Dn G (.nx O') from z) O G' H' ok' s' e') fun _ z=>z⟩
theorem ZR{Od Od':DSt}(h:gT own i j m fe Od=.ok Od'):∃i j xs ys,Od'=(Od.set i (some (.lst xs))).set j (some (.lst ys)):=by
 unfold gT at h
 cases h1:aK Od i with
 |bad=>rw[h1] at h;cases h
 |err e=>rw[h1] at h;cases h
 |ok xs=>
  rw[h1] at h
  cases h2:aK Od j with
  |bad=>rw[R.ok_bind,h2] at h;cases h
  |err e=>rw[R.ok_bind,h2] at h;cases h
  |ok ys=>
   rw[R.ok_bind,h2,R.ok_bind] at h
   cases h3:fe (mask own Od) with
   |bad=>rw[h3] at h;cases h
   |err e=>rw[h3] at h;cases h
   |ok d=>
    rw[h3,R.ok_bind] at h
    cases h4:m [.lst xs,.lst ys,d] with
    |bad=>rw[h4] at h;cases h
    |err e=>rw[h4] at h;cases h
    |ok τ=>
     rw[h4,R.ok_bind] at h
     cases h5:aK τ 0 with
     |bad=>rw[h5] at h;cases h
     |err e=>rw[h5] at h;cases h
     |ok xs'=>
      rw[h5,R.ok_bind] at h
      cases h6:aK τ 1 with
      |bad=>rw[h6] at h;cases h
      |err e=>rw[h6] at h;cases h
      |ok ys'=>rw[h6] at h;cases h;exact⟨_,_,_,_,rfl⟩
theorem LB(i j:Nat)(C:XC X E k)(F:eK X.prog X.w X.K X.mg X.base k f 0 1 m)(he:DE X E e fe)(ho:(ow L).contains i=true:=by rfl)(ho':(ow L).contains j=true:=by rfl)(hij:i≠j:=by decide)(hN:X.N[i]? = some x:=by rfl)(hM:X.N[j]? = some y:=by rfl)
  (hv:cT X.env.scope x:=by first|exact Or.inl rfl|exact Or.inr (Or.inl rfl)|exact Or.inr (Or.inr rfl)) (hd:(x==("__debug__":Str))=false:=by decide) (hcd:(x==("__classdict__":Str))=false:=by decide) (hv':cT X.env.scope y:=by first|exact Or.inl rfl|exact Or.inr (Or.inl rfl)|exact Or.inr (Or.inr rfl)) (hd':(y==("__debug__":Str))=false:=by decide) (hcd':(y==("__classdict__":Str))=false:=by decide) (hg:Gl X f:=by rfl) (hdb:(f==("__debug__":Str))=false:=by decide)
  (hs1:starEach [.Name x np,.Name y nq,e] X.env=(false,eval (.Name x np) X.env)::starEach [.Name y nq,e] X.env:=by rfl) (hs2:starEach [.Name y nq,e] X.env=(false,eval (.Name y nq) X.env)::starEach [e] X.env:=by rfl) (hs3:starEach [e] X.env=(false,eval e X.env)::starEach [] X.env:=by rfl)
  (hpl:(backTo cpos (starEach [.Name y nq,e] X.env)).any (·.1)=false:=by rfl) (hsw:swapsWith (.Call (.Name f p) [.Name x np,.Name y nq,e] [] cpos) none pos.line X.env=pure false:=by rfl) :
  DH X E L (.Expr (.Call (.Name f p) [.Name x np,.Name y nq,e] [] cpos) pos) (gT (ow L) i j m fe):=fun G0 H0=>
 PS.mono' (i0 (K9 (G0:=G0) (H0:=H0) C F he ho ho' hij hN hM hv hd hcd hv' hd' hcd' hg hdb hs1 hs2 hs3 hpl) hsw) fun Dn O H ⟨G,Od,ok,lk,s0,q⟩=>
 ⟨G,Od,ok,s0,q.mono (fun O' hr z G' H' ok' s' e'=>(show cZ X.K X.mg G0 H0 L Dn G O' from z) O G' H' ok' (by obtain⟨_,_,_,_,rfl⟩:=ZR hr;exact lk.write.write) s' e') fun _ z=>z⟩
end
end DL
end
section
set_option maxHeartbeats 2000000
namespace DL
open L2 PyProof.Rows
section
variable{X:Cx}{E:XK}
def ZS:V->List V->Hp->VK->Prop:=fun x vs H Q=>∃z y,x=.str z/\vs=[.str y]/\z.length<=sizeLine/\Q (.str (Txt.lstripChars z y)) H
theorem ZU:kM X "str.lstrip" ZS:=by
 intro pins s O H x vs v us Q I rx rv h
 obtain⟨z,y,rfl,rfl,hz,q⟩:=h
 obtain⟨t,rfl⟩:=rx
 obtain⟨u,rfl,ru⟩:=rv.one
 obtain⟨t',rfl⟩:=ru
 exact PyProof.Rows.SCL.lstripChars (fun t2 k hl=>⟨.str _,H,I.tok _,⟨_,rfl⟩,q⟩) hz
def qE:D->D->R D
 |.str z,.str y=>bif bL z.length then .ok (.str (Txt.lstripChars z y)) else .bad
 |_,_=>.bad
def ZV(fe:DSt->R D)(O:DSt):D->R D
 |.str z=>(fe O).bind fun d=>qE (.str z) d
 |_=>.bad
def yP(fo fe:DSt->R D):DSt->R D:=fun O=>(fo O).bind fun z=>ZV fe O z
theorem ZW{o e:Expr}{fo fe:DSt->R D}{apos cpos:Pos}(ho:DE X E o fo)(he:DE X E e fe)
  (hbase:attributeBase o "lstrip" X.env (eval o X.env)=eval o X.env:=by rfl)
  (hfew:((backTo cpos (starEach [e] X.env)).all (fun x=>!x.1)&&(backToKw cpos (keywordEach [] X.env)).all (fun x=>x.1.isSome)&&decide ([e].length+([]:List Keyword).length+(if ([]:List Keyword).isEmpty then 0 else 1)<30))=true:=by rfl)
  (hline:(apos.endLine==cpos.line)=true:=by rfl) (hs:starEach [e] X.env=(false,eval e X.env)::starEach [] X.env:=by rfl) (hplain:(backTo cpos (starEach [] X.env)).any (·.1)=false:=by rfl) :
  DE X E (.Call (.Attribute o "lstrip" apos) [e] [] cpos) (yP fo fe):=by
 refine PE.mono' (iO PySem.F.plainAttrs_str PySem.F.slot_str_lstrip PySem.F.type_str_lstrip ZU ho (cM he eA hs) hbase hfew hline hs hplain) fun O H Q ⟨G,Od,ok,q⟩=>?_
 refine fJ (P:=aM X.K X.mg Q) ok q fun z x G1 H1 s1 ok1 r1 q1=>?_
 cases z with
 |str y=>
  cases r1
  refine⟨rfl,G1,Od,ok1,(show RW ((aA fe aD) Od) _ _ from ?_)⟩
  unfold aA
  have q2:=(show RW ((fe Od).bind fun d=>qE (.str y) d) _ _ from q1).of_bind
  cases hf:fe Od with
  |bad=>rw[hf] at q2;exact q2.elim
  |err e=>rw[hf] at q2;exact(show aV X.K X.mg E G1 H1 e from q2)
  |ok d=>
   rw[hf] at q2
   have q3:RW (qE (.str y) d) (aM X.K X.mg Q G H) (aV X.K X.mg E G1 H1):=q2
   rintro ws G2 H2 s2 ⟨v,_,e1,r3,r4⟩
   subst e1
   cases r4
   cases d with
   |str c=>
    cases r3
    cases hC:bL y.length with
    |false=>simp only[qE,hC,cond_false] at q3;exact q3.elim
    |true=>
     simp only[qE,hC,cond_true] at q3
     exact⟨y,c,rfl,rfl,xaj hC,aM.now ((show aM X.K X.mg Q G H (.str (Txt.lstripChars y c)) from q3).step (s1.trans s2)) s2.e rfl⟩
   |_=>exact(show False from q3).elim
 |_=>exact(show False from q1).elim
def ZX:V->List V->Hp->VK->Prop:=fun x vs H Q=>∃z y,x=.str z/\vs=[.str y]/\z.length<=sizeLine/\Q (.str (Txt.rstripChars z y)) H
theorem ZY:kM X "str.rstrip" ZX:=by
 intro pins s O H x vs v us Q I rx rv h
 obtain⟨z,y,rfl,rfl,hz,q⟩:=h
 obtain⟨t,rfl⟩:=rx
 obtain⟨u,rfl,ru⟩:=rv.one
 obtain⟨t',rfl⟩:=ru
 exact PyProof.Rows.SCL.rstripChars (fun t2 k hl=>⟨.str _,H,I.tok _,⟨_,rfl⟩,q⟩) hz
def qF:D->D->R D
 |.str z,.str y=>bif bL z.length then .ok (.str (Txt.rstripChars z y)) else .bad
 |_,_=>.bad
def ZZ(fe:DSt->R D)(O:DSt):D->R D
 |.str z=>(fe O).bind fun d=>qF (.str z) d
 |_=>.bad
def yQ(fo fe:DSt->R D):DSt->R D:=fun O=>(fo O).bind fun z=>ZZ fe O z
theorem Z0{o e:Expr}{fo fe:DSt->R D}{apos cpos:Pos}(ho:DE X E o fo)(he:DE X E e fe)
  (hbase:attributeBase o "rstrip" X.env (eval o X.env)=eval o X.env:=by rfl)
  (hfew:((backTo cpos (starEach [e] X.env)).all (fun x=>!x.1)&&(backToKw cpos (keywordEach [] X.env)).all (fun x=>x.1.isSome)&&decide ([e].length+([]:List Keyword).length+(if ([]:List Keyword).isEmpty then 0 else 1)<30))=true:=by rfl)
  (hline:(apos.endLine==cpos.line)=true:=by rfl) (hs:starEach [e] X.env=(false,eval e X.env)::starEach [] X.env:=by rfl) (hplain:(backTo cpos (starEach [] X.env)).any (·.1)=false:=by rfl) :
  DE X E (.Call (.Attribute o "rstrip" apos) [e] [] cpos) (yQ fo fe):=by
 refine PE.mono' (iO PySem.F.plainAttrs_str PySem.F.slot_str_rstrip PySem.F.type_str_rstrip ZY ho (cM he eA hs) hbase hfew hline hs hplain) fun O H Q ⟨G,Od,ok,q⟩=>?_
 refine fJ (P:=aM X.K X.mg Q) ok q fun z x G1 H1 s1 ok1 r1 q1=>?_
 cases z with
 |str y=>
  cases r1
  refine⟨rfl,G1,Od,ok1,(show RW ((aA fe aD) Od) _ _ from ?_)⟩
  unfold aA
  have q2:=(show RW ((fe Od).bind fun d=>qF (.str y) d) _ _ from q1).of_bind
  cases hf:fe Od with
  |bad=>rw[hf] at q2;exact q2.elim
  |err e=>rw[hf] at q2;exact(show aV X.K X.mg E G1 H1 e from q2)
  |ok d=>
   rw[hf] at q2
   have q3:RW (qF (.str y) d) (aM X.K X.mg Q G H) (aV X.K X.mg E G1 H1):=q2
   rintro ws G2 H2 s2 ⟨v,_,e1,r3,r4⟩
   subst e1
   cases r4
   cases d with
   |str c=>
    cases r3
    cases hC:bL y.length with
    |false=>simp only[qF,hC,cond_false] at q3;exact q3.elim
    |true=>
     simp only[qF,hC,cond_true] at q3
     exact⟨y,c,rfl,rfl,xaj hC,aM.now ((show aM X.K X.mg Q G H (.str (Txt.rstripChars y c)) from q3).step (s1.trans s2)) s2.e rfl⟩
   |_=>exact(show False from q3).elim
 |_=>exact(show False from q1).elim
def Z1(K:xFg):V->List V->Hp->VK->Prop:=fun x vs H Q=>∃(b:Addr) (ys:List Str) (y:Str),x=.ref b/\vs=[.str y]/\bD K H b (ys.map V.str)/\Q (.int (Spec.countIn (PyData.str y) (ys.map PyData.str))) H
theorem LD:∀{ys:List Str} {us:List Value},aX (ys.map V.str) us->StrsAre us ys
 |[],_,h=>by cases h;exact .nil
 |y::ys,_,h=>by
  cases h with
  |cons q t=>
   obtain⟨tk,rfl⟩:=q
   exact .cons _ _ (LD t)
theorem Z2:kM X "list.count" (Z1 X.K):=by
 intro pins s O H x vs v us Q I rx rv h
 obtain⟨b,ys,y,rfl,rfl,hB,q⟩:=h
 cases rx
 obtain⟨u,rfl,ru⟩:=rv.one
 obtain⟨t',rfl⟩:=ru
 obtain⟨its,r,pl,_⟩:=I.list hB
 exact PyProof.Rows.count_list_strs pl.isList (LD r) ⟨.int _,H,I.tok _,⟨_,rfl⟩,q⟩
def mI:D->D->R D
 |.lst ds,.str y=>match eH ds with
  |some ys=>.ok (.int (Spec.countIn (PyData.str y) (ys.map PyData.str)))
  |none=>.bad
 |_,_=>.bad
def Z3(fe:DSt->R D)(O:DSt):D->R D
 |.lst ds=>(fe O).bind fun d=>mI (.lst ds) d
 |_=>.bad
def tX(fo fe:DSt->R D):DSt->R D:=fun O=>(fo O).bind fun z=>Z3 fe O z
theorem Z4{o e:Expr}{fo fe:DSt->R D}{apos cpos:Pos}(ho:DE X E o fo)(he:DE X E e fe)
  (hbase:attributeBase o "count" X.env (eval o X.env)=eval o X.env:=by rfl)
  (hfew:((backTo cpos (starEach [e] X.env)).all (fun x=>!x.1)&&(backToKw cpos (keywordEach [] X.env)).all (fun x=>x.1.isSome)&&decide ([e].length+([]:List Keyword).length+(if ([]:List Keyword).isEmpty then 0 else 1)<30))=true:=by rfl)
  (hline:(apos.endLine==cpos.line)=true:=by rfl) (hs:starEach [e] X.env=(false,eval e X.env)::starEach [] X.env:=by rfl) (hplain:(backTo cpos (starEach [] X.env)).any (·.1)=false:=by rfl) :
  DE X E (.Call (.Attribute o "count" apos) [e] [] cpos) (tX fo fe):=by
 refine PE.mono' (iO PySem.F.plainAttrs_list PySem.F.slot_list_count PySem.F.type_list_count Z2 ho (cM he eA hs) hbase hfew hline hs hplain) fun O H Q ⟨G,Od,ok,q⟩=>?_
 refine fJ (P:=aM X.K X.mg Q) ok q fun z x G1 H1 s1 ok1 r1 q1=>?_
 cases z with
 |lst ds=>
  obtain⟨a,vs,rfl,h1,h2⟩:=r1
  refine⟨.inl ⟨rfl,_,s1.e.seq h1⟩,G1,Od,ok1,(show RW ((aA fe aD) Od) _ _ from ?_)⟩
  unfold aA
  have q2:=(show RW ((fe Od).bind fun d=>mI (.lst ds) d) _ _ from q1).of_bind
  cases hf:fe Od with
  |bad=>rw[hf] at q2;exact q2.elim
  |err e=>rw[hf] at q2;exact(show aV X.K X.mg E G1 H1 e from q2)
  |ok d=>
   rw[hf] at q2
   have q3:RW (mI (.lst ds) d) (aM X.K X.mg Q G H) (aV X.K X.mg E G1 H1):=q2
   rintro ws G2 H2 s2 ⟨v,_,e1,r3,r4⟩
   subst e1
   cases r4
   cases d with
   |str c=>
    cases r3
    cases hs':eH ds with
    |none=>simp only[mI,hs'] at q3;exact q3.elim
    |some ys=>
     simp only[mI,hs'] at q3
     have ev:=Reps.strs hs' h2
     subst ev
     exact⟨a,ys,c,rfl,rfl,s2.e.seq (s2.g.seq h1),aM.now ((show aM X.K X.mg Q G H (.int (Spec.countIn (PyData.str c) (ys.map PyData.str))) from q3).step (s1.trans s2)) s2.e rfl⟩
   |_=>exact(show False from q3).elim
 |_=>exact(show False from q1).elim
structure tY(K:xFg)(mg:Str->Option Value)(w:World)(x:Str)(tb:List (Str×Int)):Prop where
 ex:∃a es n,mg x=some (.ref a)/\List.lookup a K=some { cls:=.type "dict",data:=.dict es n }/\PySem.W.KeysLit w.params es.toList/\∀p∈tb,∃t,PySem.W.nsIn K a p.1=some (some (.int p.2 t))
def nY(tb:List (Str×Int)):D->R D
 |.str x=>match tb.find? (fun p=>decide (p.1=x)) with
  |some p=>.ok (.int p.2)
  |none=>.bad
 |_=>.bad
theorem Z5{x:Str}{tb:List (Str×Int)}{e:Expr}{fe:DSt->R D}{p pos:Pos}(T:tY X.K X.mg X.w x tb)(he:DE X E e fe)(hg:Gl X x:=by rfl)(hd:(x==("__debug__":Str))=false:=by decide)(hs:K4 e:=by intro _ _;rfl) :
  DE X E (.Subscript (.Name x p) e pos) (fD (nY tb) fe):=by
 obtain⟨a,es,n,h1,h2,h3,h4⟩:=T.ex
 intro pins s O H Q I h
 refine ZE PySem.F.slot_dict_getitem.lookup hs (aT (A0 hg h1 (v:=.ref a) rfl hd pins s O H (fun x H1=>x=.ref a/\H1=H) I ⟨rfl,rfl⟩) fun u s1 ⟨x1,H1,I1,rx,e1,e2⟩=>?_)
 subst e1 e2
 obtain rfl:u=Value.ref a:=rx
 obtain⟨G,Od,ok,q⟩:=h
 refine aT (he pins s1 O H1 (fun y H2=>∃k v,y=.str k/\(k,v)∈tb/\Q (.int v) H2) I1 ⟨G,Od,ok,q.of_bind.mono (fun d _ z v G' H' st r=>?_) fun _ z=>z⟩) fun iv s2 ⟨y,H2,I2,ry,k,v,ey,hm,q2⟩=>?_
 ·cases d with
  |str k=>
   cases r
   simp only[nY] at z
   cases hf:tb.find? (fun p=>decide (p.1=k)) with
   |none=>rw[hf] at z;exact(show False from z).elim
   |some pr=>
    rw[hf] at z
    have h5:=List.find?_some hf
    have h6:=List.mem_of_find?_eq_some hf
    have h5:pr.1=k:=xaj h5
    exact⟨k,pr.2,rfl,by rw[<- h5];exact h6,(show aM X.K X.mg Q G H1 (.int pr.2) from z) _ G' H' st rfl⟩
  |_=>exact(show False from z).elim
 ·subst ey
  obtain⟨t,rfl⟩:=(show ∃t,iv=Value.str k t from ry)
  obtain⟨t2,h5⟩:=h4 _ hm
  obtain⟨m,fr⟩:=I2.fr
  have hget:s2.heap.get? a=some { cls:=.type "dict",data:=.dict es n }:=I2.kIn a _ h2
  refine⟨⟨_,hget,rfl⟩,PySem.W.topGetDict_K fr I2.ok.mod.kin h2 h3 h5 ⟨.int v,H2,I2.tok _,⟨t2,rfl⟩,q2⟩⟩
end
end DL
end
namespace DL
open L2
def jM(z:Str)(k:Nat):Str:=⟨(List.replicate k z.cps).foldl (·++·) #[]⟩
theorem LF(z:Str)(k:Nat):(jM z k).cps.toList=(List.replicate k z.cps.toList).flatten:=by
 have go:∀(k:Nat) (acc:Array Nat),((List.replicate k z.cps).foldl (·++·) acc).toList=acc.toList++(List.replicate k z.cps.toList).flatten:=by
  intro k
  induction k with
  |zero=>intro acc;simp
  |succ k ih=>intro acc;rw[xa0,xa0,xc7,ih];simp
 exact go k #[]
theorem Z6(z:Str)(k:Nat):(jM z k).length=z.length*k:=by
 show (jM z k).cps.size=z.cps.size*k
 rw[<- xbv,LF,B4,xbv,Nat.mul_comm]
def LG:R2:=fun x y H Q=>∃z k,x=.str z/\y=.int k/\1<=z.length/\2<=k/\z.length*k.toNat<=100000/\Q (.str (jM z k.toNat)) H
theorem Z7{X:Cx}:bR X (binaryOp .Mult) LG:=by
 intro pins s O H x y v u Q I rx ry h
 obtain⟨z,k,rfl,rfl,h1,h2,h3,q⟩:=h
 obtain⟨t,rfl⟩:=rx
 obtain⟨t',rfl⟩:=ry
 have hk:k.toNat<=100000:=xav (Nat.le_mul_of_pos_left _ h1) h3
 have hz:z.length<=100000:=xav (Nat.le_mul_of_pos_right _ (by omega)) h3
 have hne:(k==1||z.length==0)=false:=by
  rw[Bool.or_eq_false_iff]
  refine⟨beq_eq_false_iff_ne.mpr (by omega),beq_eq_false_iff_ne.mpr (by omega)⟩
 refine P.mul_str ?_ ?_ ?_ ?_
 ·rw[xae (by omega),xae (by omega)];rfl
 ·intro _ _
  have:(100000:Int)<=(2^63-1)/k:=Int.le_ediv_of_mul_le (by omega) (by omega)
  omega
 ·intro _ _
  exact xae (Nat.not_lt.mpr (xav h3 (by decide)))
 ·rw[xao (by omega),xao (by rw[hne];decide)]
  exact⟨by show (jM z k.toNat).length<=sizeLine;rw[Z6];exact xav h3 (by decide),.str (jM z k.toNat),H,I.tok _,⟨_,rfl⟩,q⟩
def bU:D->D->R D
 |.str z,.int k=>bif decide (1<=z.length/\2<=k/\z.length*k.toNat<=100000) then .ok (.str (jM z k.toNat)) else .bad
 |_,_=>.bad
theorem Z8:fT bU:=by
 intro a b e
 cases a<;>cases b<;>simp only[bU]<;>first|(intro z;cases z;done)|(intro z;revert z;rename_i z k;cases (decide (1<=z.length/\2<=k/\z.length*k.toNat<=100000))<;>simp[cond])
theorem Z9{K:xFg}{mg:Str->Option Value}:fS K mg LG bU:=by
 intro G H a b x y Q e ra rb q
 cases a with
 |str z=>cases b with
  |int k=>
   cases ra;cases rb
   cases hC:decide (1<=z.length/\2<=k/\z.length*k.toNat<=100000) with
   |false=>simp only[bU,hC,cond_false] at q;exact q.elim
   |true=>
    simp only[bU,hC,cond_true] at q
    obtain⟨h1,h2,h3⟩:=xaj hC
    exact⟨z,k,rfl,rfl,h1,h2,h3,aM.now q e rfl⟩
  |_=>exact(show False from q).elim
 |_=>exact(show False from q).elim
section
variable{X:Cx}{E:XK}{a b:Expr}{fa fb:DSt->R D}{pos:Pos}
theorem zaa(ha:DE X E a fa)(hb:DE X E b fb):DE X E (.BinOp a .Mult b pos) (aC bU fa fb):=lZ Z7 Z9 Z8 ha hb
end
def tZ(ds:List D):D->R (List D)
 |.int k=>bif decide (0<=k/\k<=100000)&&bL (ds.length*k.toNat) then .ok (List.replicate k.toNat ds).flatten else .bad
 |_=>.bad
def qG(fl:DSt->R (List D))(fe:DSt->R D):DSt->R (List D):=fun O=>(fl O).bind fun ds=>(fe O).bind fun d=>tZ ds d
theorem zab{X:Cx}{E:XK}{a b:Expr}{pos:Pos}{fl:DSt->R (List D)}{fe:DSt->R D}(ha:DF X E a fl)(hb:DE X E b fe):DF X E (.BinOp a .Mult b pos) (qG fl fe):=PE.mono' (BE TJ ha hb) fun O H Q ⟨G,Od,ok,q⟩=>by
 refine⟨G,Od,ok,q.of_bind.mono (fun ds _ q1 p vs G1 H1 s1 n0 h1 g1 r1=>?_) fun _ z=>z⟩
 have ok1:=ok.step s1
 refine⟨G1,Od,ok1,q1.of_bind.mono (fun d _ q2 v G2 H2 s2 r2=>?_) fun _ z=>z.step s1⟩
 cases d with
 |int k=>
  cases r2
  cases hC:(decide (0<=k/\k<=100000)&&bL (ds.length*k.toNat)) with
  |false=>simp only[tZ,hC,cond_false] at q2;exact q2.elim
  |true=>
   simp only[tZ,hC,cond_true] at q2
   rw[xax] at hC
   have hk:=xaj hC.1
   refine⟨p,k,vs,rfl,rfl,s2.h _ _ h1,by omega,by omega,?_,fun l hl=>?_⟩
   ·rw[<- r1.length];exact xaj hC.2
   ·have st:=s1.trans s2
    exact(show lY X.K X.mg Q G H (List.replicate k.toNat ds).flatten from q2) l _ G2 _ (st.trans (.hid st.e hl)) (st.h.free hl) cK (st.e.free hl) ((r1.mono s2.g).rep _)
 |_=>exact(show False from q2).elim
end DL
namespace Mir
open L2 DL
def nZ:D:=.str "0123456789"
noncomputable def yR:DSt->R aE:=(bI (aG nV (aA (aB 0) aD)))
noncomputable def yS:DSt->R aE:=(aO (bT (eP (aJ (aC bG (aC cG (aB 0) (eC (.int 0))) (eC (.str "0")))) (aJ (aC fN (aB 0) (eC (.str "0"))))) (kZ "NoText") bY) yR)
noncomputable def qH:DSt->R aE:=(aO (bT (fU (aJ (aC bG (aB 0) (eC (.str "")))) (eU (aJ (aG nP (aA (bE (fF 1 [0] (fG (aB 0)) bQ jD (aC cV (aB 0) (eC nZ)))) aD))))) (kZ "NoText") bY) yS)
noncomputable def mJ:List D->R D:=bV 1 1 qH
theorem LH(a0:D):mJ [a0]=fin (qH [some a0]):=eE (b:=qH) rfl rfl
def t0:D:=.int 8
def yT:D:=.str "abcdefghijklmnopqrstuvwxyz"
noncomputable def LI:DSt->R aE:=(bI (aG nP (aA (bE (fF 1 [0] (fG (aB 0)) bQ jD (aC cV (aB 0) (eC yT)))) aD)))
noncomputable def t7:DSt->R aE:=(aO (bT (fU (eU (aJ (aG (g2 bH) (aA (aB 0) (aA (eC (.ty "str")) aD))))) (eU (aJ (hR eZ eZ (eC (.int 1)) (aG aY (aA (aB 0) aD)) (eC t0))))) (bI (eC (.bl false))) bY) LI)
noncomputable def n8:List D->R D:=bV 1 1 t7
theorem zac(a0:D):n8 [a0]=fin (t7 [some a0]):=eE (b:=t7) rfl rfl
def lD:List (Str×Int):=[("(",0),("+",1),("-",1),("*",2),("/",2)]
noncomputable def qI:DSt->R Bool:=(eP (aJ (aC dR (aG aY (aA (aB 1) aD)) (eC (.int 0)))) (aJ (aC wZ (fD (nY lD) (aC aW (aB 1) (fD gP (eC (.int 1))))) (aB 2))))
noncomputable def LJ:DSt->R DSt:=(qA [0,1] 0 1 (aB 4) (aB 3))
noncomputable def LK:DSt->R DSt:=(eI (pY 0 4) LJ)
noncomputable def yU:DSt->R DSt:=(eI (pY 0 3) LK)
noncomputable def t8:DSt->R DSt:=(yJ qI yU)
noncomputable def gL:List D->R DSt:=lC 3 5 t8
theorem zad(a0:D)(a1:D)(a2:D):gL [a0,a1,a2]=t8 [some a0,some a1,some a2,none,none]:=tW (b:=t8) rfl
def qJ:D:=.int 9
noncomputable def yV:DSt->R aE:=(bI (fE (aA (eC (.str "number")) (aA (a7 mJ (aA (aB 0) aD)) aD))))
noncomputable def yW:DSt->R aE:=(aO (bT (aJ (aC dR (aG aY (aA (aB 0) aD)) (eC qJ))) (kZ "NoText") bY) yV)
noncomputable def qK:DSt->R aE:=(aO (bT (aJ (a7 n8 (aA (aB 0) aD))) (bI (fE (aA (eC (.str "name")) (aA (aB 0) aD)))) bY) yW)
noncomputable def jN:List D->R D:=bV 1 1 qK
theorem LL(a0:D):jN [a0]=fin (qK [some a0]):=eE (b:=qK) rfl rfl
def qL:D:=.int 8
noncomputable def LM:DSt->R DSt:=(tV "NoText")
noncomputable def yX:DSt->R DSt:=(tV "NoText")
noncomputable def yY:DSt->R DSt:=(pZ 2)
noncomputable def yZ:DSt->R DSt:=(eI (iG (aJ (aC bG (aG aY (aA (aB 2) aD)) (eC (.int 0)))) yX nW) yY)
noncomputable def iI:DSt->R DSt:=(eI (gT [1,2] 1 2 gL (eC (.int 1))) yZ)
noncomputable def LN:DSt->R DSt:=(yK [1,2] 5 (eV iA (aA (aC gSub (aG aY (aA (aB 3) aD)) (aG aY (aA (aB 4) aD))) aD)) iI)
noncomputable def LO:DSt->R DSt:=(eI (nX [1,2] 1 (a7 jN (aA (aB 4) aD))) LN)
noncomputable def t9:DSt->R DSt:=(eI (pX [1,2] 4 (yQ (aB 3) (eC (.str ")")))) LO)
noncomputable def uA:DSt->R DSt:=(eI (iG (aJ (aC dR (tX (aB 2) (eC (.str "("))) (eC qL))) LM nW) t9)
noncomputable def LP:DSt->R DSt:=(eI (yI [1,2] 2 (bE (qG (bP (aA (eC (.str "(")) aD)) (aC gSub (aG aY (aA (aB 0) aD)) (aG aY (aA (aB 3) aD)))))) uA)
noncomputable def uB:DSt->R DSt:=(eI (pX [1,2] 3 (yP (aB 0) (eC (.str "(")))) LP)
noncomputable def fZ:List D->R DSt:=lC 3 6 uB
theorem zae(a0:D)(a1:D)(a2:D):fZ [a0,a1,a2]=uB [some a0,some a1,some a2,none,none,none]:=tW (b:=uB) rfl
def qM:D:=.tup [.str "+",.str "-",.str "*",.str "/"]
noncomputable def zaf:DSt->R DSt:=(tV "NoText")
noncomputable def LQ:DSt->R DSt:=(nX [1,2] 2 (aB 0))
noncomputable def LS:DSt->R DSt:=(eI (gT [1,2] 1 2 gL (fD (nY lD) (aB 0))) LQ)
noncomputable def qN:DSt->R DSt:=(eI (iG (aJ (aC eG (aB 0) (eC qM))) zaf nW) LS)
noncomputable def iJ:List D->R DSt:=lC 3 3 qN
theorem LU(a0:D)(a1:D)(a2:D):iJ [a0,a1,a2]=qN [some a0,some a1,some a2]:=tW (b:=qN) rfl
def uC:D:=.int 60
noncomputable def fH:DSt->R aE:=(bT (aJ (aC bG (aC bK (aB 4) (eC (.int 2))) (eC (.int 0)))) (qD (qC [3,2] 2 3 fZ (aB 5))) (qD (qC [3,2] 2 3 iJ (aB 5))))
noncomputable def LV:DSt->R aE:=(bI (aC aW (aB 2) (eC (.int 0))))
noncomputable def mK:DSt->R aE:=(aO (bT (aJ (aC dR (aG aY (aA (aB 3) aD)) (eC (.int 0)))) (kZ "NoText") bY) LV)
noncomputable def uD:DSt->R aE:=(aO (qD (gT [3,2] 2 3 gL (eC (.int 1)))) mK)
noncomputable def mL:DSt->R aE:=(aO (gF [3,2] [4,5] (dI 2) (eV yG (aA (aB 1) aD)) fH) uD)
noncomputable def LW:DSt->R aE:=(aO (l8 [2] 3 (bP aD)) mL)
noncomputable def LX:DSt->R aE:=(aO (l8 [] 2 (bP aD)) LW)
noncomputable def LY:DSt->R aE:=(aO (bT (fU (aJ (aC bG (aC bK (aG aY (aA (aB 1) aD)) (eC (.int 2))) (eC (.int 0)))) (aJ (aC dR (aC dQ (aG aY (aA (aB 1) aD)) (eC (.int 2))) (eC uC)))) (kZ "NoText") bY) LX)
noncomputable def LZ:DSt->R aE:=(aO (bN 1 (bE (yH (aB 0) (eC (.str " "))))) LY)
noncomputable def qO:DSt->R aE:=(aO (bT (eU (aJ (aG (g2 bH) (aA (aB 0) (aA (eC (.ty "str")) aD))))) (kZ "NoText") bY) LZ)
noncomputable def fA:List D->R D:=bV 1 6 qO
theorem L3(a0:D):fA [a0]=fin (qO [some a0,none,none,none,none,none]):=eE (b:=qO) rfl rfl
noncomputable def L4:DSt->R aE:=(bI (eC (.int 0)))
noncomputable def uE:DSt->R aE:=(aO (bT (aJ (aC sT (aB 1) (aG aY (aA (aB 0) aD)))) (bI (aC aW (aB 0) (aB 1))) bY) L4)
noncomputable def jO:List D->R D:=bV 2 2 uE
theorem zag(a0:D)(a1:D):jO [a0,a1]=fin (uE [some a0,some a1]):=eE (b:=uE) rfl rfl
noncomputable def uF:DSt->R aE:=(bI (hU (aG (g2 bH) (aA (aB 0) (aA (eC (.ty "int")) aD))) (wK (aG (g2 bH) (aA (aB 0) (aA (eC (.ty "bool")) aD))))))
noncomputable def n9:List D->R D:=bV 1 1 uF
theorem zah(a0:D):n9 [a0]=fin (uF [some a0]):=eE (b:=uF) rfl rfl
noncomputable def L5:DSt->R aE:=(bI (aC bK (aC iQ (aB 2) (aB 2)) (eC (.int 2305843009213693951))))
noncomputable def L6:DSt->R aE:=(aO (bN 2 (aC bK (aC aL (aC aL (aC iQ (aB 2) (aB 2)) (aC iQ (aC iQ (eC (.int 69621)) (aB 1)) (aB 1))) (aB 1)) (eC (.int 2305843009213693951)))) L5)
noncomputable def L7:DSt->R aE:=(aO (bN 2 (aC bK (aB 2) (eC (.int 2305843009213693951)))) L6)
noncomputable def uG:DSt->R aE:=(aO (bN 2 (aC aL (aC aL (aC iQ (aC aL (aC bK (aB 0) (eC (.int 1000000007))) (eC (.int 1))) (eC (.int 6364136223846793005))) (aC iQ (aC iQ (eC (.int 7919)) (aB 1)) (aB 1))) (aC iQ (eC (.int 31)) (aB 1)))) L7)
noncomputable def lE:List D->R D:=bV 2 3 uG
theorem zai(a0:D)(a1:D):lE [a0,a1]=fin (uG [some a0,some a1,none]):=eE (b:=uG) rfl rfl
noncomputable def L8:DSt->R aE:=(j6 [2] 3 (aC dQ (aB 3) (aC pM (eC (.int 10)) (eC (.int 6)))))
noncomputable def L9:DSt->R aE:=(aO (l9 [2] 2 (aC bK (aB 3) (aC pM (eC (.int 10)) (eC (.int 6))))) L8)
noncomputable def qP:DSt->R aE:=(bT (eP (aJ (aC bG (aC bK (aB 0) (eC (.int 2))) (eC (.int 0)))) (aJ (aC dR (aB 3) (eC (.int 0))))) L9 (l9 [2] 2 (aC bK (a7 lE (aA (aB 0) (aA (aB 4) aD))) (aC pM (eC (.int 10)) (eC (.int 6))))))
noncomputable def MA:DSt->R aE:=(bI (aB 2))
noncomputable def MB:DSt->R aE:=(aO (gF [2] [4] bQ (eV iA (aA (aB 1) aD)) qP) MA)
noncomputable def MC:DSt->R aE:=(aO (j6 [2] 3 (aC dQ (aB 0) (eC (.int 2)))) MB)
noncomputable def uH:DSt->R aE:=(aO (l8 [] 2 (bP aD)) MC)
noncomputable def iW:List D->R D:=bV 2 5 uH
theorem zaj(a0:D)(a1:D):iW [a0,a1]=fin (uH [some a0,some a1,none,none,none]):=eE (b:=uH) rfl rfl
noncomputable def qQ:DSt->R aE:=(bN 4 (aC aL (aB 4) (aC cG (aB 2) (aC bK (aC dQ (aC aW (aB 3) (eC (.int 11))) (aC aW (bE (bP (aA (eC (.int 1)) (aA (eC (.int 26)) (aA (eC (.int 676)) (aA (eC (.int 17576)) (aA (eC (.int 5)) (aA (eC (.int 9)) (aA (eC (.int 77)) aD))))))))) (aB 5))) (eC (.int 26))))))
noncomputable def MD:DSt->R aE:=(bI (bE (fF 1 [0] (eV iA (aA (aB 1) aD)) bQ jD (aC aL (aC cG (aB 3) (aC bK (aC aL (aC aW (aB 4) (eC (.int 9))) (aB 0)) (eC (.int 26)))) (aB 5)))))
noncomputable def ME:DSt->R aE:=(aO (bT (aJ (aC bG (aC bK (aC aW (aB 3) (eC (.int 8))) (eC (.int 4))) (eC (.int 1)))) (bI (kY (bE (bP (aA (eC (.str "end")) (aA (eC (.str "x")) (aA (eC (.str "times")) (aA (eC (.str "rule")) (aA (eC (.str "ends")) (aA (eC (.str "xx")) aD)))))))) cR (bJ (aB 1)))) bY) MD)
noncomputable def MF:DSt->R aE:=(aO (gF [] [5] bQ (eV iA (aA (aC bK (aC aW (aB 3) (eC (.int 10))) (eC (.int 8))) aD)) qQ) ME)
noncomputable def MG:DSt->R aE:=(aO (bN 4 (eC (.str ""))) MF)
noncomputable def MH:DSt->R aE:=(aO (bN 3 (a7 iW (aA (aB 0) (aA (eC (.int 12)) aD)))) MG)
noncomputable def uI:DSt->R aE:=(aO (bN 2 (eC (.str "abcdefghijklmnopqrstuvwxyz"))) MH)
noncomputable def oA:List D->R D:=bV 2 6 uI
theorem zak(a0:D)(a1:D):oA [a0,a1]=fin (uI [some a0,some a1,none,none,none,none]):=eE (b:=uI) rfl rfl
noncomputable def MI:DSt->R aE:=(bI (fE (aA (eC (.str "number")) (aA (aC aW (bE (bP (aA (aC bK (aC aW (aB 0) (eC (.int 3))) (eC (.int 10))) (aA (aC bK (aC aW (aB 0) (eC (.int 3))) (eC (.int 10))) (aA (aC aW (aB 0) (eC (.int 3))) (aA (aC aL (aC iQ (aC aW (aB 0) (eC (.int 3))) (eC (.int 1000))) (aC bK (aC aW (aB 0) (eC (.int 4))) (eC (.int 1000)))) aD)))))) (aC bK (aC aW (aB 0) (eC (.int 5))) (eC (.int 4)))) aD))))
noncomputable def uJ:DSt->R aE:=(aO (bT (aJ (aC dR (aC bK (aC aW (aB 0) (eC (.int 2))) (eC (.int 3))) (eC (.int 0)))) (bI (fE (aA (eC (.str "name")) (aA (aC aW (aB 1) (aC bK (aC aW (aB 0) (eC (.int 3))) (aG aY (aA (aB 1) aD)))) aD)))) bY) MI)
noncomputable def kD:List D->R D:=bV 2 2 uJ
theorem zal(a0:D)(a1:D):kD [a0,a1]=fin (uJ [some a0,some a1]):=eE (b:=uJ) rfl rfl
noncomputable def MJ:DSt->R aE:=(pV [2] 2 2 (aC cG (eC (.str "+-*/")) (aC bK (aC aW (aB 4) (eC (.int 1))) (eC (.int 4)))) (aB 5))
noncomputable def MK:DSt->R aE:=(aO (tR 2 5) MJ)
noncomputable def ML:DSt->R aE:=(bT (eP (aJ (aC dR (aG aY (aA (aB 2) aD)) (eC (.int 1)))) (aJ (aC bG (aC bK (aC aW (aB 4) (eC (.int 0))) (eC (.int 2))) (eC (.int 0))))) MK (l9 [2] 2 (a7 kD (aA (aB 4) (aA (aB 1) aD)))))
noncomputable def mM:DSt->R aE:=(aO (j6 [2] 4 (a7 iW (aA (aB 3) (aA (eC (.int 6)) aD)))) ML)
noncomputable def uK:DSt->R Bool:=(aJ (aC dR (aG aY (aA (aB 2) aD)) (eC (.int 1))))
noncomputable def MM:DSt->R aE:=(pW [2] 2 2 (aC cG (eC (.str "-+/*")) (aC bK (aG aY (aA (aB 2) aD)) (eC (.int 4)))) (aB 5))
noncomputable def y0:DSt->R aE:=(aO (tR 2 5) MM)
noncomputable def MN:DSt->R aE:=(bI (aC aW (aB 2) (eC (.int 0))))
noncomputable def MO:DSt->R aE:=(aO (dB uK y0) MN)
noncomputable def MP:DSt->R aE:=(aO (gF [2] [3] bQ (hZ (aB 0)) mM) MO)
noncomputable def uL:DSt->R aE:=(aO (l8 [] 2 (bP aD)) MP)
noncomputable def oB:List D->R D:=bV 2 6 uL
theorem zam(a0:D)(a1:D):oB [a0,a1]=fin (uL [some a0,some a1,none,none,none,none]):=eE (b:=uL) rfl rfl
noncomputable def MQ(m:List D->R D):DSt->R aE:=(bI (aB 3))
noncomputable def MR(m:List D->R D):DSt->R aE:=(aO (bT (aJ (aC sT (aB 2) (aB 1))) (bI (aC aL (aC aL (eC (.str "(")) (aB 3)) (eC (.str ")")))) bY) (MQ m))
noncomputable def MS(m:List D->R D):DSt->R aE:=(aO (bN 3 (yC (eC (.str " ")) (bE (bP (aA (a7 m (aA (aC aW (aB 0) (eC (.int 1))) (aA (aB 2) aD))) (aA (aC aW (aB 0) (eC (.int 0))) (aA (a7 m (aA (aC aW (aB 0) (eC (.int 2))) (aA (aC aL (aB 2) (eC (.int 1))) aD))) aD))))))) (MR m))
noncomputable def MT(m:List D->R D):DSt->R aE:=(aO (bN 2 (aC aL (eC (.int 1)) (aG eD (aA (aC cV (aC aW (aB 0) (eC (.int 0))) (eC (.str "*/"))) aD)))) (MS m))
noncomputable def y6(m:List D->R D):DSt->R aE:=(aO (bT (aJ (aC bG (aC aW (aB 0) (eC (.int 0))) (eC (.str "number")))) (bI (aG tM (aA (aC aW (aB 0) (eC (.int 1))) aD))) bY) (MT m))
noncomputable def lF(m:List D->R D):DSt->R aE:=(aO (bT (aJ (aC bG (aC aW (aB 0) (eC (.int 0))) (eC (.str "name")))) (bI (aC aW (aB 0) (eC (.int 1)))) bY) (y6 m))
noncomputable def jP:Nat->List D->R D:=lA fun m=>bV 2 4 (lF m)
noncomputable def oC:List D->R D:=jP 64
theorem y7(n:Nat)(a0:D)(a1:D):jP (n+1) [a0,a1]=fin (lF (jP n) [some a0,some a1,none,none]):=show bV 2 4 (lF (jP n)) [a0,a1]=_ from eE (b:=lF (jP n)) rfl rfl
noncomputable def uM(m:List D->R D):DSt->R aE:=(bT (eU (aJ (a7 m (aA (aB 2) (aA (aB 3) aD))))) (bI (eC (.bl false))) bY)
noncomputable def MU(m:List D->R D):DSt->R aE:=(bI (eC (.bl true)))
noncomputable def MV(m:List D->R D):DSt->R aE:=(aO (gF [] [2,3] (dI 2) (eV pU (aA (aB 0) (aA (aB 1) aD))) (uM m)) (MU m))
noncomputable def MW(m:List D->R D):DSt->R aE:=(aO (bT (fU (eU (aJ (aG (g2 bH) (aA (aB 0) (aA (eC (.ty "tuple")) aD))))) (aJ (aC fN (aG aY (aA (aB 0) aD)) (aG aY (aA (aB 1) aD))))) (bI (eC (.bl false))) bY) (MV m))
noncomputable def MX(m:List D->R D):DSt->R aE:=(bI (hU (a7 n9 (aA (aB 0) aD)) (aC bG (aB 0) (aB 1))))
noncomputable def y8(m:List D->R D):DSt->R aE:=(aO (bT (aJ (aG (g2 bH) (aA (aB 1) (aA (eC (.ty "str")) aD)))) (bI (hU (aG (g2 bH) (aA (aB 0) (aA (eC (.ty "str")) aD))) (aC bG (aB 0) (aB 1)))) bY) (MX m))
noncomputable def lG(m:List D->R D):DSt->R aE:=(aO (bT (aJ (aG (g2 bH) (aA (aB 1) (aA (eC (.ty "tuple")) aD)))) (MW m) bY) (y8 m))
noncomputable def gU:Nat->List D->R D:=lA fun m=>bV 2 4 (lG m)
noncomputable def uN:List D->R D:=gU 64
theorem y9(n:Nat)(a0:D)(a1:D):gU (n+1) [a0,a1]=fin (lG (gU n) [some a0,some a1,none,none]):=show bV 2 4 (lG (gU n)) [a0,a1]=_ from eE (b:=lG (gU n)) rfl rfl
noncomputable def MY:DSt->R aE:=(bI (hU (aC bG (aB 1) (eC (.int 1))) (hU (aG (g2 bH) (aA (aB 0) (aA (eC (.cls "ChalkError")) aD))) (aG (g2 bH) (aA (aB 0) (aA (eC (.ty "ValueError")) aD))))))
noncomputable def MZ:DSt->R aE:=(aO (bN 1 (aC aL (aC aL (aC aL (aB 1) (aG eD (aA (aG (g2 bH) (aA (aB 0) (aA (eC (.cls "NoRatio")) aD))) aD))) (aG eD (aA (aG (g2 bH) (aA (aB 0) (aA (eC (.cls "NoBow")) aD))) aD))) (aG eD (aA (aG (g2 bH) (aA (aB 0) (aA (eC (.cls "NoRow")) aD))) aD)))) MY)
noncomputable def M0:DSt->R aE:=(aO (bN 1 (aC aL (aC aL (aC aL (aB 1) (aG eD (aA (aG (g2 bH) (aA (aB 0) (aA (eC (.cls "NoFrame")) aD))) aD))) (aG eD (aA (aG (g2 bH) (aA (aB 0) (aA (eC (.cls "NoValue")) aD))) aD))) (aG eD (aA (aG (g2 bH) (aA (aB 0) (aA (eC (.cls "Unlike")) aD))) aD)))) MZ)
noncomputable def M1:DSt->R aE:=(aO (bN 1 (aC aL (aC aL (aC aL (aB 1) (aG eD (aA (aG (g2 bH) (aA (aB 0) (aA (eC (.cls "NoName")) aD))) aD))) (aG eD (aA (aG (g2 bH) (aA (aB 0) (aA (eC (.cls "TooMany")) aD))) aD))) (aG eD (aA (aG (g2 bH) (aA (aB 0) (aA (eC (.cls "NoChange")) aD))) aD)))) M0)
noncomputable def M2:DSt->R aE:=(aO (bN 1 (aC aL (aC aL (aC aL (aB 1) (aG eD (aA (aG (g2 bH) (aA (aB 0) (aA (eC (.cls "Endless")) aD))) aD))) (aG eD (aA (aG (g2 bH) (aA (aB 0) (aA (eC (.cls "NoDeed")) aD))) aD))) (aG eD (aA (aG (g2 bH) (aA (aB 0) (aA (eC (.cls "NoText")) aD))) aD)))) M1)
noncomputable def uO:DSt->R aE:=(aO (bN 1 (aC aL (aC aL (aG eD (aA (aG (g2 bH) (aA (aB 0) (aA (eC (.cls "NoPlace")) aD))) aD)) (aG eD (aA (aG (g2 bH) (aA (aB 0) (aA (eC (.cls "Same")) aD))) aD))) (aG eD (aA (aG (g2 bH) (aA (aB 0) (aA (eC (.cls "NoFloor")) aD))) aD)))) M2)
noncomputable def oE:List D->R D:=bV 1 2 uO
theorem zan(a0:D):oE [a0]=fin (uO [some a0,none]):=eE (b:=uO) rfl rfl
noncomputable def zA:DSt->R aE:=(bI (hU (aC pN (aB 1) (eC .non)) (hU (aG (g2 bH) (aA (aB 1) (aA (eC (.cls "NoText")) aD))) (a7 oE (aA (aB 1) aD)))))
noncomputable def zB:DSt->R aE:=(aO (sX 2 "ChalkError" (wU (sW fA (aA (aB 0) aD))) (bN 1 (aB 2))) zA)
noncomputable def qR:DSt->R aE:=(aO (bN 1 (eC .non)) zB)
noncomputable def gV:List D->R D:=bV 1 3 qR
theorem M3(a0:D):gV [a0]=fin (qR [some a0,none,none]):=eE (b:=qR) rfl rfl
noncomputable def zao:DSt->R aE:=(bI (aB 0))
noncomputable def zap:DSt->R aE:=(aO (bN 0 (aC aL (aB 0) (bE (bP (aA (eC (.str "a + (b * c")) (aA (eC (.str "(a + b) c")) (aA (eC (.str "a,b")) (aA (eC (.str "(((a)))")) (aA (eC (.str " a")) (aA (eC (.str "a ")) (aA (eC (.str "a\n")) (aA (eC (.str "\ta")) (aA (eC (.str "a\n+ b")) (aA (eC (.str "a + b\n")) aD)))))))))))))) zao)
noncomputable def zaq:DSt->R aE:=(aO (bN 0 (aC aL (aB 0) (bE (bP (aA (eC (.str "1234567890")) (aA (eC (.str "123456789")) (aA (eC (.str "abcdefgh")) (aA (eC (.str "abcdefghi")) (aA (eC (.str "aB")) (aA (eC (.str "a1")) (aA (eC (.str "1a")) (aA (eC (.str "a_b")) aD)))))))))))) zap)
noncomputable def zar:DSt->R aE:=(aO (bN 0 (aC aL (aB 0) (bE (bP (aA (eC (.str "a : b")) (aA (eC (.str "01")) (aA (eC (.str "00")) (aA (eC (.str "0")) (aA (eC (.str "1.5")) aD))))))))) zaq)
noncomputable def zas:DSt->R aE:=(aO (bN 0 (aC aL (aB 0) (bE (bP (aA (eC (.str "( a)")) (aA (eC (.str "(a )")) (aA (eC (.str "(a)(b)")) (aA (eC (.str "(a) (b)")) (aA (eC (.str "(a + b")) (aA (eC (.str "a + b)")) (aA (eC (.str "((a)")) (aA (eC (.str "a * / b")) (aA (eC (.str "a x b")) aD))))))))))))) zar)
noncomputable def zat:DSt->R aE:=(aO (bN 0 (aC aL (aB 0) (bE (bP (aA (eC (.str "- a")) (aA (eC (.str "-1")) (aA (eC (.str "a - -1")) (aA (eC (.str "()")) (aA (eC (.str "(")) (aA (eC (.str ")")) aD)))))))))) zas)
noncomputable def zau:DSt->R aE:=(aO (bN 0 (bE (bP (aA (eC (.str "")) (aA (eC (.str " ")) (aA (eC (.str "a b")) (aA (eC (.str "a +b")) (aA (eC (.str "a+ b")) (aA (eC (.str "a+b")) (aA (eC (.str "a  + b")) (aA (eC (.str "a + ")) (aA (eC (.str "+ a")) (aA (eC (.str "a +")) (aA (eC (.str "a + + b")) aD)))))))))))))) zat)
noncomputable def qS:List D->R D:=bV 0 1 zau
noncomputable def M4:DSt->R aE:=(bI (fE (aA (eC (.str "number")) (aA (aG nV (aA (aB 0) aD)) aD))))
noncomputable def M5:DSt->R aE:=(aO (bT (eP (aJ (aC dR (aG aY (aA (aB 0) aD)) (eC (.int 1)))) (aJ (aC bG (aC cG (aB 0) (eC (.int 0))) (eC (.str "0"))))) (bI (eC .non)) bY) M4)
noncomputable def M6:DSt->R aE:=(aO (bT (fU (eU (aJ (hR eZ eZ (eC (.int 1)) (aG aY (aA (aB 0) aD)) (eC (.int 9))))) (aJ (aC fN (bE (fF 1 [0] (fG (aB 0)) bQ (aJ (aC eG (aB 0) (eC (.str "0123456789")))) (aB 0))) (bE (bP aD))))) (bI (eC .non)) bY) M5)
noncomputable def uP:DSt->R aE:=(aO (bT (eP (aJ (hR eZ eZ (eC (.int 1)) (aG aY (aA (aB 0) aD)) (eC (.int 8)))) (aJ (aC bG (bE (fF 1 [0] (fG (aB 0)) bQ (aJ (aC eG (aB 0) (eC (.str "abcdefghijklmnopqrstuvwxyz")))) (aB 0))) (bE (bP aD))))) (bI (fE (aA (eC (.str "name")) (aA (aB 0) aD)))) bY) M6)
noncomputable def oF:List D->R D:=bV 1 1 uP
theorem zav(a0:D):oF [a0]=fin (uP [some a0]):=eE (b:=uP) rfl rfl
noncomputable def M7:DSt->R aE:=(bT (eP (aJ (aC bG (aB 2) (eC (.int 0)))) (eP (aJ (aC cV (aC cG (aB 0) (aB 4)) (aB 1))) (eP (aJ (aC bG (cN (aB 0) (bJ (aC gSub (aB 4) (eC (.int 1)))) (bJ (aB 4))) (eC (.str " ")))) (aJ (aC bG (cN (aB 0) (bJ (aC aL (aB 4) (eC (.int 1)))) (bJ (aC aL (aB 4) (eC (.int 2))))) (eC (.str " "))))))) (bN 3 (aB 4)) bY)
noncomputable def oG:DSt->R aE:=(aO (bN 2 (aC gSub (aC aL (aB 2) (aG eD (aA (aC bG (aC cG (aB 0) (aB 4)) (eC (.str "("))) aD))) (aG eD (aA (aC bG (aC cG (aB 0) (aB 4)) (eC (.str ")"))) aD)))) M7)
noncomputable def M8:DSt->R aE:=(bI (aB 3))
noncomputable def M9:DSt->R aE:=(aO (gF [] [4] bQ (eV iA (aA (aG aY (aA (aB 0) aD)) aD)) oG) M8)
noncomputable def NA:DSt->R aE:=(aO (bN 3 (fD gP (eC (.int 1)))) M9)
noncomputable def uQ:DSt->R aE:=(aO (bN 2 (eC (.int 0))) NA)
noncomputable def oH:List D->R D:=bV 2 5 uQ
theorem zaw(a0:D)(a1:D):oH [a0,a1]=fin (uQ [some a0,some a1,none,none,none]):=eE (b:=uQ) rfl rfl
noncomputable def zC(m:List D->R D):DSt->R aE:=(bI (fE (aA (aC cG (aB 0) (aB 3)) (aA (aB 4) (aA (aB 5) aD)))))
noncomputable def NB(m:List D->R D):DSt->R aE:=(aO (bT (fU (aJ (aC iR (aB 4) (eC .non))) (aJ (aC iR (aB 5) (eC .non)))) (bI (eC .non)) bY) (zC m))
noncomputable def NC(m:List D->R D):DSt->R aE:=(aO (bN 5 (a7 m (aA (cN (aB 0) (bJ (aC aL (aB 3) (eC (.int 2)))) cR) (aA (aB 1) aD)))) (NB m))
noncomputable def ND(m:List D->R D):DSt->R aE:=(aO (bN 4 (a7 m (aA (cN (aB 0) cR (bJ (aC gSub (aB 3) (eC (.int 1))))) (aA (aB 1) aD)))) (NC m))
noncomputable def zD(m:List D->R D):DSt->R aE:=(bT (aJ (aC dR (aB 3) (eC (.int 0)))) (ND m) bY)
noncomputable def lH(m:List D->R D):DSt->R aE:=(aO (bN 3 (a7 oH (aA (aB 0) (aA (aB 2) aD)))) (zD m))
noncomputable def zE(m:List D->R D):DSt->R aE:=(bI (a7 oF (aA (aB 0) aD)))
noncomputable def zF(m:List D->R D):DSt->R aE:=(aO (bT (eP (aJ (aC bG (cN (aB 0) cR (bJ (eC (.int 1)))) (eC (.str "(")))) (eP (aJ (aC bG (cN (aB 0) (bJ (fD gP (eC (.int 1)))) cR) (eC (.str ")")))) (aJ (aC dR (aB 1) (eC (.int 0)))))) (bI (a7 m (aA (cN (aB 0) (bJ (eC (.int 1))) (bJ (fD gP (eC (.int 1))))) (aA (aC gSub (aB 1) (eC (.int 1))) aD)))) bY) (zE m))
noncomputable def oI(m:List D->R D):DSt->R aE:=(aO (gF [] [2] bQ (hZ (bE (bP (aA (eC (.str "+-")) (aA (eC (.str "*/")) aD))))) (lH m)) (zF m))
noncomputable def dU:Nat->List D->R D:=lA fun m=>bV 2 6 (oI m)
noncomputable def uR:List D->R D:=dU 64
theorem zax(n:Nat)(a0:D)(a1:D):dU (n+1) [a0,a1]=fin (oI (dU n) [some a0,some a1,none,none,none,none]):=show bV 2 6 (oI (dU n)) [a0,a1]=_ from eE (b:=oI (dU n)) rfl rfl
noncomputable def zG:DSt->R aE:=(bI (aC aL (aC aL (aC aL (aC aL (cN (aB 0) cR (bJ (aG kU (aA (aB 3) (aA (aB 5) aD))))) (eC (.str "("))) (cN (aB 0) (bJ (aG kU (aA (aB 3) (aA (aB 5) aD)))) (bJ (aG kW (aA (aB 3) (aA (aB 5) aD)))))) (eC (.str ")"))) (cN (aB 0) (bJ (aG kW (aA (aB 3) (aA (aB 5) aD)))) cR)))
noncomputable def zH:DSt->R aE:=(aO (bN 5 (aC bK (aC dQ (aB 1) (eC (.int 7))) (aC aL (aG aY (aA (aB 0) aD)) (eC (.int 1))))) zG)
noncomputable def NF:DSt->R aE:=(bI (aC aW (aB 6) (aC bK (aC dQ (aB 1) (eC (.int 5))) (aG aY (aA (aB 6) aD)))))
noncomputable def zI:DSt->R aE:=(aO (bN 6 (a7 qS aD)) NF)
noncomputable def NG:DSt->R aE:=(bI (aC aL (aC aL (cN (aB 0) cR (bJ (aB 3))) (aB 4)) (cN (aB 0) (bJ (aB 3)) cR)))
noncomputable def NH:DSt->R aE:=(aO (bT (aJ (aC bG (aB 2) (eC (.int 3)))) zI bY) NG)
noncomputable def NI:DSt->R aE:=(aO (bT (aJ (aC bG (aB 2) (eC (.int 2)))) zH bY) NH)
noncomputable def NJ:DSt->R aE:=(aO (bT (aJ (aC bG (aB 2) (eC (.int 1)))) (bI (aC aL (aC aL (cN (aB 0) cR (bJ (aB 3))) (aB 4)) (cN (aB 0) (bJ (aC aL (aB 3) (eC (.int 1)))) cR))) bY) NI)
noncomputable def zJ:DSt->R aE:=(aO (bT (aJ (aC bG (aB 2) (eC (.int 0)))) (bI (aC aL (cN (aB 0) cR (bJ (aB 3))) (cN (aB 0) (bJ (aC aL (aB 3) (eC (.int 1)))) cR))) bY) NJ)
noncomputable def zK:DSt->R aE:=(aO (bN 4 (aC cG (eC (.str "ab019 +-*/()  x,A=")) (aC bK (aC dQ (aB 1) (eC (.int 5000))) (eC (.int 18))))) zJ)
noncomputable def zL:DSt->R aE:=(aO (bN 3 (aC bK (aC dQ (aB 1) (eC (.int 5))) (aC aL (aG aY (aA (aB 0) aD)) (eC (.int 1))))) zK)
noncomputable def uS:DSt->R aE:=(aO (bN 2 (aC bK (aB 1) (eC (.int 5)))) zL)
noncomputable def qT:List D->R D:=bV 2 7 uS
theorem zay(a0:D)(a1:D):qT [a0,a1]=fin (uS [some a0,some a1,none,none,none,none,none]):=eE (b:=uS) rfl rfl
noncomputable def zM:DSt->R aE:=(bI (a7 uN (aA (a7 fA (aA (aB 0) aD)) (aA (aB 1) aD))))
noncomputable def NK:DSt->R aE:=(aO (bT (fU (aJ (aC iR (aB 1) (eC .non))) (aJ (aC dR (aG aY (aA (bE (fF 1 [0] (fG (aB 0)) bQ (aJ (aC cV (aB 0) (eC (.str "+-*/")))) (aB 0))) aD)) (eC (.int 60))))) (bI (a7 gV (aA (aB 0) aD))) bY) zM)
noncomputable def uT:DSt->R aE:=(aO (bN 1 (a7 uR (aA (aB 0) (aA (eC (.int 8)) aD)))) NK)
noncomputable def iK:List D->R D:=bV 1 2 uT
theorem zaz(a0:D):iK [a0]=fin (uT [some a0,none]):=eE (b:=uT) rfl rfl
noncomputable def NL:DSt->R aE:=(bT (eU (aJ (a7 gV (aA (aC aW (bE (bP (aA (eC .non) (aA (eC (.int 1)) (aA (eC (.bl true)) (aA (bE (bP (aA (eC (.str "a")) aD))) (aA (fE (aA (eC (.str "name")) (aA (eC (.str "a")) aD))) (aA (eC (.dct [] [])) (aA (bE (bP aD)) (aA (fE aD) aD)))))))))) (aC bK (aB 4) (eC (.int 8)))) aD)))) (bI (eC (.bl false))) bY)
noncomputable def zN:DSt->R aE:=(aO (bT (eU (aJ (a7 iK (aA (a7 qT (aA (aB 1) (aA (aB 4) aD))) aD)))) (bI (eC (.bl false))) bY) NL)
noncomputable def NM:DSt->R aE:=(aO (bT (aJ (aC bG (aC bK (aB 3) (eC (.int 2))) (eC (.int 1)))) (bN 4 (a7 lE (aA (aB 3) (aA (aB 2) aD)))) bY) zN)
noncomputable def NN:DSt->R aE:=(aO (bN 4 (aC dQ (aB 3) (eC (.int 2)))) NM)
noncomputable def qU:DSt->R aE:=(aO (bN 3 (a7 jO (aA (aB 0) (aA (aB 2) aD)))) NN)
noncomputable def kE:DSt->R aE:=(bT (eU (aJ (a7 gV (aA (aB 7) aD)))) (bI (eC (.bl false))) bY)
noncomputable def zO:DSt->R aE:=(bI (hU (a7 iK (aA (aB 5) aD)) (hU (a7 iK (aA (aC aL (aB 5) (eC (.str " * b"))) aD)) (hU (a7 iK (aA (aB 6) aD)) (a7 iK (aA (aC aL (aC aL (eC (.str "(")) (aB 6)) (eC (.str ")"))) aD))))))
noncomputable def NO:DSt->R aE:=(aO (gF [] [7] bQ (hZ (bE (bP (aA (aC bU (eC (.str "(")) (eC (.int 5000))) (aA (aC aL (aC aL (aC bU (eC (.str "(")) (eC (.int 5000))) (eC (.str "a"))) (aC bU (eC (.str ")")) (eC (.int 5000)))) (aA (aC aL (eC (.str "a")) (aC bU (eC (.str " + a")) (eC (.int 4000)))) (aA (aC aL (aC aL (eC (.str "a")) (aC bU (eC (.str " * a")) (eC (.int 4000)))) (eC (.str ")"))) aD))))))) kE) zO)
noncomputable def NP:DSt->R aE:=(aO (bN 6 (aC aL (aC aL (aC bU (eC (.str "(")) (eC (.int 8))) (eC (.str "a"))) (aC bU (eC (.str ")")) (eC (.int 8))))) NO)
noncomputable def zP:DSt->R aE:=(aO (bN 5 (aC aL (eC (.str "a")) (aC bU (eC (.str " + a")) (eC (.int 60))))) NP)
noncomputable def NQ:DSt->R aE:=(aO (gF [] [2] bQ (eV nK (aA (eC (.int 40)) (aA (aG kW (aA (eC (.int 41)) (aA (aG kU (aA (aG aY (aA (aB 0) aD)) (aA (eC (.int 60)) aD))) aD))) aD))) qU) zP)
noncomputable def NS:DSt->R aE:=(aO (bT (eU (aJ (a7 iK (aA (aB 1) aD)))) (bI (eC (.bl false))) bY) NQ)
noncomputable def uU:DSt->R aE:=(aO (bN 1 (a7 oC (aA (a7 oB (aA (aC aL (kY (aB 0) (bJ (eC (.int 1))) (bJ (eC (.int 13)))) (bE (bP (aA (eC (.int 1)) aD)))) (aA (a7 oA (aA (a7 jO (aA (aB 0) (aA (eC (.int 0)) aD))) (aA (eC (.int 5)) aD))) aD))) (aA (eC (.int 0)) aD)))) NS)
noncomputable def uV:List D->R D:=bV 1 8 uU
theorem zaA(a0:D):uV [a0]=fin (uU [some a0,none,none,none,none,none,none,none]):=eE (b:=uU) rfl rfl
end Mir
section
open L2 DL Mir
local macro_rules | `(tactic| kd_p)=>`(tactic| simp only[c4,sZ,D6,D7,D8,D9,EA,EB,EC,ED,EF,nS,EH,EI,EJ,EK,EM,EO,EQ,ES,ET,EV,EW,EY,EZ,E1,E2,E3,E4,E5,E6,E7,E8,E9,FB,FC,FE,FF,FG,FH,FI,FJ,FK,FL,FM,FN,FO,FP,FQ,FR,FS,FT,FU,FV,FW,FY,FZ,GA,GB,GC,GD,GF,GG,GI,GJ,GK,GL,GM,fX,GN,GO,GQ,GR,xO,GX,GY,GZ,HB,HC,HD,HE,HF,HG,jG,xR,xS,HH,HK,HL,HM,HN,HP,HQ,HR,HU,HV,HX,HY,HZ,H9,IA,IC,IE,IF,IG,xU,IH,II,IJ,IK,IL,IM,xW,IN,IP,IQ,IS,IT,IU,IV,IW,IX,IY,mC,IZ,I0,JA,JB,JC,JD,JE,JF,JG,JH,JI,JJ,eq_self,decide_true,decide_false,Int.reduceEq,Int.reduceLT,Int.reduceLE,Int.reduceNeg,Int.reduceToNat,JK,JL,JM,JN,JO,JP,JQ,JR,JS,JT,JU,JV,JW,JZ,J0,J1,J2,J3,J5,J6,jH,x8,iS,J7,J8,J9,KA,yA,sK,mask,eW,List.contains_cons,List.contains_nil,Bool.or_false,Bool.false_or,Bool.true_or,Bool.or_true,Nat.reduceBEq,Nat.reduceAdd,xcc,cond_true,cond_false,List.set_cons_zero,List.set_cons_succ,Bool.not_true,Bool.not_false,Bool.not_not,Bool.true_and,xdc,Bool.and_true,xdd])
local macro_rules | `(tactic| walk_at "side")=>`(tactic| first|assumption|decide|omega|(refine gQ ?_ ?_<;>omega)|(refine HA ?_ ?_ ?_<;>omega)|(refine pT ?_ ?_<;>omega)|(simp only[xan,xbs,xak,xat];omega))
local macro_rules | `(tactic| kpf_c)=>`(tactic| simp(disch:=walk_at "side") only [c4,sZ,D6,D7,D8,D9,EA,EB,EC,ED,EF,nS,EH,EI,EJ,EK,EM,EO,EQ,ES,ET,EV,EW,EY,EZ,E1,E2,E3,E4,E5,E6,E7,E8,E9,FB,FC,FE,FF,FG,FH,FI,FJ,FK,FL,FM,FN,FO,FP,FQ,FR,FS,FT,FU,FV,FW,FY,FZ,GA,GB,GC,GD,GF,GG,GI,GJ,GK,GL,GM,fX,GN,GO,GQ,GR,xO,GX,GY,GZ,HB,HC,HD,HE,HF,HG,jG,xR,xS,HH,HK,HL,HM,HN,HP,HQ,HR,HU,HV,HX,HY,HZ,H9,IA,IC,IE,IF,IG,xU,IH,II,IJ,IK,IL,IM,xW,IN,IP,IQ,IS,IT,IU,IV,IW,IX,IY,mC,IZ,I0,JA,JB,JC,JD,JE,JF,JG,JH,JI,JJ,eq_self,decide_true,decide_false,Int.reduceEq,Int.reduceLT,Int.reduceLE,Int.reduceNeg,Int.reduceToNat,JK,JL,JM,JN,JO,JP,JQ,JR,JS,JT,JU,JV,JW,JZ,J0,J1,J2,J3,J5,J6,jH,x8,iS,J7,J8,J9,KA,yA,sK,mask,eW,List.contains_cons,List.contains_nil,Bool.or_false,Bool.false_or,Bool.true_or,Bool.or_true,Nat.reduceBEq,Nat.reduceAdd,xcc,cond_true,cond_false,List.set_cons_zero,List.set_cons_succ,Bool.not_true,Bool.not_false,Bool.not_not,Bool.true_and,xdc,Bool.and_true,xdd,kA,mG,fO,XW,XY,xY,JX,GV,XT,XV,XU])
open L2 DL Mir
namespace LmA
theorem gA{i j:Int}(h:0<j):0<=i%j/\i%j<j:=⟨xcv _ (by omega),xch _ h⟩
theorem NT(c k:Int)(h0:0<=k)(h1:k<=1000):∃r,lE [.int c,.int k]=.ok (.int r)/\0<=r/\r<2305843009213693951:=by
 rw[zai];unfold uG L7 L6 L5;kd_p
 have m1:=gA (i:=c) (j:=1000000007) (by decide)
 rw[fO _ _ (by decide)];kd_p
 rw[kA _ _ (gQ (by omega) (by omega)) (by decide +kernel),kA _ k (by decide +kernel) (gQ (by omega) (by omega))];kd_p
 rw[kA _ k (gQ (by omega) (by omega)) (gQ (by omega) (by omega)),kA _ k (by decide +kernel) (gQ (by omega) (by omega))];kd_p
 rw[fO _ _ (by decide)];kd_p
 generalize ((c%1000000007+1)*6364136223846793005+7919*k*k+31*k)=v
 have m2:=gA (i:=v) (j:=2305843009213693951) (by decide)
 generalize v%2305843009213693951=u at m2 ⊢
 rw[kA u u (gQ (by omega) (by omega)) (gQ (by omega) (by omega)),kA _ k (by decide +kernel) (gQ (by omega) (by omega))];kd_p
 rw[kA _ k (gQ (by omega) (by omega)) (gQ (by omega) (by omega))];kd_p
 rw[fO _ _ (by decide)];kd_p
 generalize (u*u+69621*k*k+k)=t
 have m3:=gA (i:=t) (j:=2305843009213693951) (by decide)
 generalize t%2305843009213693951=q at m3 ⊢
 rw[kA q q (gQ (by omega) (by omega)) (gQ (by omega) (by omega))];kd_p
 rw[fO _ _ (by decide)];kd_p
 exact⟨_,rfl,gA (by decide)⟩
theorem zaB(i:Int):n9 [.int i]=.ok (.bl true):=by
 rw[zah];unfold uF;kd_p
end LmA
open L2 DL Mir
open L2 DL Mir
open L2 DL Mir
namespace Lk42
open LmA
theorem eSl_to(fe f:DSt->R D)(O:DSt)(ds:List D)(n:Nat)(h1:fe O=.ok (.lst ds))(h2:f O=.ok (.int (n:Int))):kY fe cR (bJ f) O=.ok (.lst (ds.take n)):=by
 unfold kY cR bJ
 rw[h1,h2]
 show R.ok (D.lst (bZ ds none (some (n:Int))))=_
 unfold bZ
 rw[HT.sIx_none,HT.sIx_nat,xde,Nat.sub_zero,<- List.take_eq_take_min]
end Lk42
open L2 DL Mir
namespace LmB
open LmA
theorem gAll_bls(bs:List Bool):nP [.lst (bs.map D.bl)]=.ok (.bl (bs.all id)):=by
 show mD (.lst (bs.map D.bl))=_
 simp only[mD,xD]
theorem lc_mapP{α:Type}{xs:List α}{f:α->D}{e:DSt->R D}{O:DSt}{g:α->D}(hl:xs.length<=1000000)(h:∀a∈xs,e (some (f a)::O)=.ok (g a)):nU 1 [0] (.ok (xs.map f)) bQ jD e O=.ok (xs.map g):=by
 have go:∀xs:List α,(∀a∈xs,e (some (f a)::O)=.ok (g a))->fM [0] bQ jD e (List.replicate 1 none++O) (xs.map f)=.ok (xs.map g):=by
  intro xs
  induction xs with
  |nil=>intro _;rfl
  |cons d ds ih=>
   intro h
   show (e (some (f d)::O)).bind (fun y=>(fM [0] bQ jD e (List.replicate 1 none++O) (ds.map f)).bind fun ys=>.ok (y::ys))=_
   rw[h d xa4,ih fun d' hd=>h d' (xar _ hd)];rfl
 show (bif most (xs.map f).length then _ else _)=_
 rw[k6 (by rw[xat];exact hl),go xs h];rfl
end LmB
open L2 DL Mir
open L2 DL Mir
open L2 DL Mir
open L2 DL Mir
open L2 DL Mir
open L2 DL Mir
open L2 DL Mir
open L2 DL Mir
open L2 DL Mir
open L2 DL Mir
namespace LmC
open LmA LmB
theorem rngD_mem{lo:Int}{n:Nat}{d:D}:d∈cH lo n↔∃k:Nat,k<n/\d=.int (lo+(k:Int)):=by
 unfold cH
 rw[xb3]
 exact⟨fun⟨k,h1,h2⟩=>⟨k,xcz.mp h1,h2.symm⟩,fun⟨k,h1,h2⟩=>⟨k,xcz.mpr h1,h2.symm⟩⟩
def cell(ns:List Int)(k:Nat):Int:=ns.getD k 0
theorem uW(ns:List Int)(k:Nat):jO [.lst (ns.map .int),.int (k:Int)]=.ok (.int (cell ns k)):=by
 rw[zag];unfold uE L4;kd_p
 rw[xat]
 by_cases h:k<ns.length
 ·rw[xab (by omega)];kd_p
  rw[pS (d:=.int ns[k]) (by simp[h])];kd_p
  simp[cell,h]
 ·rw[xae (by omega)];kd_p
  simp[cell,h]
end LmC
open L2 DL Mir
open L2 DL Mir
open L2 DL Mir
namespace LmW
open LmA LmB LmC
structure Dd where
 w:Bool
 a:Nat
 b:Nat
end LmW
open L2 DL Mir
namespace LmX
open LmA LmB LmC LmW
theorem eSl_mid(fe f g:DSt->R D)(O:DSt)(ds:List D)(a b:Nat)(h1:fe O=.ok (.lst ds))(h2:f O=.ok (.int (a:Int)))(h3:g O=.ok (.int (b:Int))):kY fe (bJ f) (bJ g) O=.ok (.lst ((ds.drop (min a ds.length)).take (min b ds.length-min a ds.length))):=by
 unfold kY bJ
 rw[h1,h2,h3]
 show R.ok (D.lst (bZ ds (some (a:Int)) (some (b:Int))))=_
 unfold bZ
 rw[HT.sIx_nat,HT.sIx_nat]
end LmX
open L2 DL Mir
open L2 DL Mir
namespace LmY
open LmA LmB LmW LmX TxtA
theorem zaC{n:Nat}(h:n<10^70):(bB n).length<=70:=wE (by decide) h
theorem zaD{n:Nat}(h:n<10^70):tM [.int (n:Int)]=.ok (.str (ofL (bB n))):=by
 show tK (.int (n:Int))=_
 have hl:((n:Int)).natAbs.log2<1920:=by
  rw[Int.natAbs_natCast]
  have:n.log2<=n:=Nat.log2_le_self n
  by_cases h0:n=0
  ·rw[h0];decide
  ·exact(Nat.log2_lt h0).mpr (xap h (by decide))
 show (bif decide (((n:Int)).natAbs.log2<1920) then R.ok (D.str (toString ((n:Nat):Int))) else .bad)=_
 rw[xab hl,cond_true]
 show R.ok (D.str (Str.ofString (toString ((n:Nat):Int))))=_
 rw[ofS]
theorem zQ:∀ys:List Str,eH (ys.map D.str)=some ys
 |[]=>rfl
 |y::ys=>by
  show (eH (ys.map D.str)).map (y::·)=_
  rw[zQ ys];rfl
theorem NU(z:Str)(ys:List Str):jJ z ys=Str.join z ys:=by
 unfold jJ
 split
 ·rfl
 ·exact StrLaws.glued_eq_join z ys
theorem zaE(z:Str)(ys:List Str):sumL z ys=(ys.map (·.length)).sum+ys.length*z.length:=StrLaws.joinTotal z ys
theorem join_ok{y:List Nat}{rows:List (List Nat)}{B:Nat}(hB:∀r∈rows,r.length<=B)(h:rows.length*B+rows.length*y.length<=10000000):jK (.str (ofL y)) (.lst ((rows.map ofL).map D.str))=.ok (.str (ofL (TxtA.flat y rows))):=by
 have lo:∀l:List Nat,(ofL l).length=l.length:=fun l=>by simp[ofL,Str.length]
 have h1:sumL (ofL y) (rows.map ofL)<=10000000:=by
  rw[zaE,lo,xat]
  have:=StrLaws.sumLen_le (B:=B) (rows.map ofL) (fun s hs=>by obtain⟨r,hr,rfl⟩:=xb3.mp hs;rw[lo];exact hB r hr)
  rw[xat] at this
  omega
 have h2:(jJ (ofL y) (rows.map ofL)).length<=10000000:=by
  rw[NU,wD,lo]
  have fl:∀rows:List (List Nat),(∀r∈rows,r.length<=B)->(TxtA.flat y rows).length<=rows.length*B+rows.length*y.length:=by
   intro rows
   induction rows with
   |nil=>intro _;simp[TxtA.flat]
   |cons r rs ih=>
    intro hr
    cases rs with
    |nil=>have:=hr r (by simp);simp[TxtA.flat];omega
    |cons r' rs=>
     have a1:=hr r (by simp)
     have a2:=ih fun q hq=>hr q (xar _ hq)
     rw[TxtA.flat]
     simp only[xak,xan] at a2 ⊢
     rw[Nat.add_mul (rs.length+1) 1 B,Nat.add_mul (rs.length+1) 1 y.length]
     omega
  exact xav (fl rows hB) h
 unfold jK
 simp only[zQ]
 rw[show (bL (sumL (ofL y) (rows.map ofL))&&bL (jJ (ofL y) (rows.map ofL)).length)=true from by
  rw[xax];exact⟨xab (xav h1 (by decide)),xab (xav h2 (by decide))⟩,cond_true,NU,wD]
theorem zaF{n c:Nat}(h:c∈bB n):48<=c/\c<=57:=digs_all n c h
theorem zaG{c:Nat}{t:List Nat}{rows:List (List Nat)}(hc:c∉t)(hk:∀k∈c::t,k<256)(hne:rows≠[])(hr:∀r∈rows,c∉r)(hl:(TxtA.flat (c::t) rows).length<=10000000):k8 (.str (ofL (TxtA.flat (c::t) rows))) (.str (ofL (c::t)))=.ok ((rows.map ofL).map D.str):=by
 have lo:∀l:List Nat,(ofL l).length=l.length:=fun l=>by simp[ofL,Str.length]
 unfold k8
 show (bif (!((ofL (c::t)).length==0))&&bL ((ofL (TxtA.flat (c::t) rows)).length+2) then R.ok ((Txt.split _ _).map D.str) else .bad)=_
 rw[U3 hc hk hne hr,lo,lo]
 rw[show (!((c::t).length==0)&&bL ((TxtA.flat (c::t) rows).length+2))=true from by
  rw[xax];exact⟨by simp,xab (by show _<=16777216;omega)⟩,cond_true]
theorem uX(a b:Str):bG (.str a) (.str b)=.ok (.bl (a==b)):=rfl
theorem NV(a b:Str):fN (.str a) (.str b)=.ok (.bl (!(a==b))):=rfl
theorem ofL_inj{a b:List Nat}(h:ofL a=ofL b):a=b:=by
 have:=congrArg (fun s:Str=>s.cps.toList) h
 simpa [ofL] using this
theorem lI{a b:List Nat}(h:a≠b):(ofL a==ofL b)=false:=by
 cases e:(ofL a==ofL b)
 ·rfl
 ·exact xag (ofL_inj (eq_of_beq e)) h
theorem NW:∀c:Nat,48<=c/\c<=57->cV (.str (sign c)) nZ=.ok (.bl true):=by
 intro c h
 show R.ok (D.bl (!(Builtin.Str.occurrences ("0123456789":Str) ⟨#[c]⟩ 0 ("0123456789":Str).length 1).isEmpty))=_
 rw[StrLaws.found_one,show ("0123456789":Str).cps.toList=[48,49,50,51,52,53,54,55,56,57] from rfl]
 rw[xab (by simp only[xal,xa2,or_false];omega)]
theorem zaH{n:Nat}(h:n<10^70):mJ [.str (ofL (bB n))]=.ok (.int (n:Int)):=by
 have hl:=zaC h
 have lo:∀l:List Nat,(ofL l).length=l.length:=fun l=>by simp[ofL,Str.length]
 obtain⟨c,cs,hc⟩:=xbm (o9 n)
 rw[LH];unfold qH;kd_p
 rw[show (D.str "")=.str (ofL []) from rfl,uX,lI (o9 n)];kd_p
 rw[show fG (aB 0) [some (.str (ofL (bB n)))]=.ok ((bB n).map fun c=>.str (sign c)) from rfl,LmB.lc_mapP (g:=fun _=>.bl true) (by omega) (fun c hc=>by kd_p;exact NW c (zaF hc))];kd_p
 rw[show ((bB n).map fun _=>D.bl true)=((bB n).map fun _=>true).map D.bl from by rw[xcm];rfl,LmB.gAll_bls,show ((bB n).map fun _=>true).all id=true from by simp];kd_p
 unfold yS;kd_p
 rw[show cG (.str (ofL (bB n))) (.int 0)=.ok (.str (sign c)) from by rw[hc];rfl];kd_p
 rw[show (D.str "0")=.str (ofL [48]) from rfl,uX];kd_p
 have fin:fin (yR [some (.str (ofL (bB n)))])=.ok (.int (n:Int)):=by
  unfold yR;kd_p
  rw[show nV [.str (ofL (bB n))]=.ok (.int (n:Int)) from by
   show k9 (.str (ofL (bB n)))=_
   unfold k9
   simp only[CS h]
   rw[show decide ((ofL (bB n)).length<=640)=true from xab (by rw[lo];omega)];rfl];kd_p
 by_cases h0:c=48
 ·subst h0
  have:=CT hc
  subst this
  rw[show (sign 48==ofL [48])=true from by decide];kd_p
  rw[show fN (.str (ofL (bB n))) (.str (ofL [48]))=.ok (.bl false) from by rw[NV,hc,show (ofL [48]==ofL [48])=true from by decide];rfl];kd_p
  exact fin
 ·rw[show (sign c==ofL [48])=false from lI (a:=[c]) (by simpa using h0)];kd_p
  exact fin
end LmY
open L2 DL Mir
namespace LmWa
open LmA LmY TxtA
theorem NX(c:Int)(N:Nat)(hN:N<=1000):∃ns:List Int,iW [.int c,.int (N:Int)]=.ok (.lst (ns.map .int))/\ns.length=N/\∀n∈ns,0<=n/\n<1000000:=by
 rw[zaj];unfold uH;kd_p
 unfold MC;kpf_c
 unfold MB;kpf_c
 rw[xbk]
 have turn:∀(j:Nat) (d:D) (O:DSt),(cH 0 N)[j]? = some d->(∃(ns:List Int) (v:Int) (a:Option D),O=[some (.int c),some (.int (N:Int)),some (.lst (ns.map .int)),some (.int v),a]/\ns.length=j/\∀n∈ns,0<=n/\n<1000000)->∃O',(qP (O.set 4 (some d))=.ok (.nx O')\/qP (O.set 4 (some d))=.ok (.ct O'))/\∃(ns:List Int) (v:Int) (a:Option D),O'=[some (.int c),some (.int (N:Int)),some (.lst (ns.map .int)),some (.int v),a]/\ns.length=j+1/\∀n∈ns,0<=n/\n<1000000:=by
  rintro j d O hd ⟨ns,v,a,rfl,hl,hb⟩
  have hj:j<N:=by
   have:=(xah.mp hd).1
   simpa [cH] using this
  obtain rfl:d=.int (j:Int):=by
   unfold cH at hd
   rw[xbp,xdb hj] at hd
   simpa using hd.symm
  have put:∀x:Int,0<=x->x<1000000->(ns++[x]).length=j+1/\∀n∈ns++[x],0<=n/\n<1000000:=fun x h0 h1=>by
   refine⟨by simp[hl],fun n hn=>?_⟩
   rcases xbn.mp hn with hn|hn
   ·exact hb n hn
   ·rw[xci.mp hn];exact⟨h0,h1⟩
  unfold qP;kpf_c
  obtain⟨k,hk⟩:∃k,s9 (.ok (decide (c%2=0))) (aJ (aC dR (aB 3) (eC (.int 0)))) [some (.int c),some (.int (N:Int)),some (.lst (ns.map .int)),some (.int v),some (.int (j:Int))]=.ok k:=by
   cases decide (c%2=0)
   ·exact⟨_,rfl⟩
   ·kd_p;exact⟨_,rfl⟩
  rw[hk]
  cases k with
  |true=>
   kd_p
   unfold L9;kpf_c
   have e:=gA (i:=v) (j:=10^6) (by decide)
   unfold L8;kpf_c
   obtain⟨p1,p2⟩:=put (v%10^6) (by omega) (by omega)
   exact⟨_,.inl rfl,ns++[v%10^6],v/10^6,some (.int (j:Int)),by rw[xbf];rfl,p1,p2⟩
  |false=>
   kd_p
   obtain⟨r,er,r0,r1⟩:=NT c (j:Int) (by omega) (by omega)
   rw[er];kpf_c
   have e:=gA (i:=r) (j:=10^6) (by decide)
   obtain⟨p1,p2⟩:=put (r%10^6) (by omega) (by omega)
   exact⟨_,.inl rfl,ns++[r%10^6],v,some (.int (j:Int)),by rw[xbf];rfl,p1,p2⟩
 obtain⟨O',e,ns,v,a,rfl,hl,hb⟩:=x9 (i:=4) (fb:=qP) _ _ turn [some (.int c),some (.int (N:Int)),some (.lst []),some (.int (c/2)),none] ⟨[],c/2,none,rfl,rfl,by simp⟩
 rw[e];kd_p
 unfold MA;kd_p
 exact⟨ns,rfl,by rw[hl];simp[cH],hb⟩
theorem zaI{S:Str}{n:Nat}(hS:S.cps.size=n)(hn:n<=1000){r:Int}(h0:0<=r)(h1:r<(n:Int)):∃c,cG (.str S) (.int r)=.ok (.str (sign c)):=by
 have hlt:r.toNat<S.cps.size:=by omega
 refine⟨S.cps[r.toNat],?_⟩
 show (bif decide (0<=r)&&Nat.blt r.natAbs 1073741824 then (match S.cps[r.toNat]? with|some c=>R.ok (D.str (sign c))|none=>.bad) else .bad)=_
 rw[xab h0,show Nat.blt r.natAbs 1073741824=true from by rw[Nat.blt_eq];omega,Array.getElem?_eq_getElem hlt];rfl
end LmWa
open L2 DL Mir
namespace LmWb
open LmA LmY LmWa TxtA
inductive Sg where|plus|minus|times|over
def Sg.str:Sg->Str
 |.plus=>"+"|.minus=>"-"|.times=>"*"|.over=>"/"
inductive Tr where
 |nm (x:Str)|nb (i:Int)|op (s:Sg) (a b:Tr)
def Tr.d:Tr->D
 |.nm x=>.tup [.str "name",.str x]
 |.nb i=>.tup [.str "number",.int i]
 |.op s a b=>.tup [.str s.str,a.d,b.d]
def Tr.many:Tr->Nat
 |.nm _=>1|.nb _=>1|.op _ a b=>a.many+b.many
theorem Tr.pos:∀t:Tr,0<t.many
 |.nm _=>Nat.one_pos|.nb _=>Nat.one_pos
 |.op _ a b=>by have:=a.pos;show 0<a.many+b.many;omega
end LmWb
open L2 DL Mir
namespace LmWc
open LmA LmY LmWa LmWb TxtA
theorem qV(a b:D):aW (.tup [a,b]) (.int 0)=.ok a:=(rfl)
theorem qW(a b:D):aW (.tup [a,b]) (.int 1)=.ok b:=(rfl)
end LmWc
open L2 DL Mir
namespace LmWd
open LmA LmY LmWa LmWb LmWc TxtA
theorem NZ{i j:Nat}{O:DSt}{xs:List D}{d:D}(h:aK O i=.ok (xs++[d])):tR i j O=.ok (.nx ((O.set i (some (.lst xs))).set j (some d))):=by
 show (aK O i).bind _=_
 rw[h]
 show (match (xs++[d])[(xs++[d]).length-1]? with
  |some d'=>R.ok (aE.nx ((O.set i (some (.lst (xs++[d]).dropLast))).set j (some d')))
  |none=>.bad)=_
 have e:(xs++[d])[(xs++[d]).length-1]? = some d:=by simp
 rw[e]
 simp
end LmWd
open L2 DL Mir
open L2 DL Mir
namespace LmWf
open LmA LmY LmWa LmWb LmWc TxtA
theorem jQ(ns:List Int)(hb:∀n∈ns,0<=n/\n<1000000)(j:Nat)(h:j<ns.length):∃d:Int,aW (.lst (ns.map .int)) (.int (j:Int))=.ok (.int d)/\0<=d/\d<1000000:=
 ⟨ns[j],pS (by rw[xbp,xbd h];rfl),(hb _ (xby h)).1,(hb _ (xby h)).2⟩
structure Pn(x:Str):Prop where
 ex:∃l:List Nat,x=ofL l/\l.length<=8/\l≠[]/\∀c∈l,97<=c/\c<=122
def dL:Tr->Prop
 |.nm x=>Pn x
 |.nb i=>0<=i/\i<1000000000
 |.op _ a b=>dL a/\dL b
theorem zaJ(dg:List Int)(hl:dg.length=6)(hb:∀n∈dg,0<=n/\n<1000000)(ns:List Str)(hn:ns.length=5)(hp:∀x∈ns,Pn x):∃t:Tr,kD [.lst (dg.map .int),.lst (ns.map .str)]=.ok t.d/\dL t/\t.many=1:=by
 obtain⟨d2,g2,a2,b2⟩:=jQ dg hb 2 (by omega)
 obtain⟨d3,g3,a3,b3⟩:=jQ dg hb 3 (by omega)
 obtain⟨d4,g4,a4,b4⟩:=jQ dg hb 4 (by omega)
 obtain⟨d5,g5,a5,b5⟩:=jQ dg hb 5 (by omega)
 have g2:aW (.lst (dg.map .int)) (.int 2)=.ok (.int d2):=g2
 have g3:aW (.lst (dg.map .int)) (.int 3)=.ok (.int d3):=g3
 have g4:aW (.lst (dg.map .int)) (.int 4)=.ok (.int d4):=g4
 have g5:aW (.lst (dg.map .int)) (.int 5)=.ok (.int d5):=g5
 rw[zal];unfold uJ;kd_p
 rw[g2];kpf_c
 by_cases h:0<d2%3
 ·rw[xab h];kd_p
  rw[g3];kd_p
  rw[fO _ _ (by rw[xat,hn];decide)];kd_p
  have m:=gA (i:=d3) (j:=((ns.map D.str).length:Int)) (by rw[xat,hn];decide)
  rw[xat,hn] at m ⊢
  obtain⟨j,hj⟩:∃j:Nat,d3%((5:Nat):Int)=(j:Int):=⟨(d3%((5:Nat):Int)).toNat,by omega⟩
  have hj5:j<ns.length:=by omega
  rw[hj,pS (d:=.str ns[j]) (by rw[xbp,xbd hj5];rfl)];kd_p
  exact⟨.nm ns[j],rfl,hp _ (xby hj5),rfl⟩
 ·rw[xae h];kd_p
  unfold MI;kd_p
  rw[g3,g4,g5];kpf_c
  have m3:=gA (i:=d3) (j:=10) (by decide)
  have m4:=gA (i:=d4) (j:=1000) (by decide)
  obtain⟨p,ep,hp1,hp2⟩:∃p:Int,aW (.lst [.int (d3%10),.int (d3%10),.int d3,.int (d3*1000+d4%1000)]) (.int (d5%4))=.ok (.int p)/\0<=p/\p<1000000000:=by
   have:d5%4=0\/d5%4=1\/d5%4=2\/d5%4=3:=by omega
   rcases this with h|h|h|h<;>rw[h]
   ·exact⟨_,rfl,by omega,by omega⟩
   ·exact⟨_,rfl,by omega,by omega⟩
   ·exact⟨_,rfl,by omega,by omega⟩
   ·exact⟨_,rfl,by omega,by omega⟩
  rw[ep];kd_p
  exact⟨.nb p,rfl,⟨hp1,hp2⟩,rfl⟩
end LmWf
open L2 DL Mir
namespace LmWg
open LmA LmY LmWa LmWb LmWc LmWf TxtA
def lJ:Str:="abcdefghijklmnopqrstuvwxyz"
theorem N0(r:Int)(h0:0<=r)(h1:r<26):cG (.str lJ) (.int r)=.ok (.str (ofL [97+r.toNat])):=by
 obtain⟨j,rfl⟩:∃j:Nat,r=(j:Int):=⟨r.toNat,by omega⟩
 have hj:j<26:=by omega
 have hc:lJ.cps=((List.range 26).map (97 + ·)).toArray:=by rfl
 show (bif decide (0<=(j:Int))&&Nat.blt (j:Int).natAbs 1073741824 then (match lJ.cps[(j:Int).toNat]? with
  |some c=>R.ok (D.str (sign c))
  |none=>.bad) else .bad)=_
 rw[xab h0,show Nat.blt (j:Int).natAbs 1073741824=true from by rw[Nat.blt_eq];omega,hc,xbk]
 rw[List.getElem?_toArray,xbp,xdb hj]
 rfl
theorem zaK(a b:List Nat):(ofL a:Str)++ofL b=ofL (a++b):=by
 show (⟨(ofL a).cps++(ofL b).cps⟩:Str)=_
 unfold ofL
 simp
theorem dC{a b:List Nat}(h:a.length+b.length<=1000000):aL (.str (ofL a)) (.str (ofL b))=.ok (.str (ofL (a++b))):=by
 show (bif bL ((ofL a).length+(ofL b).length) then R.ok (D.str (ofL a++ofL b)) else .bad)=_
 rw[show bL ((ofL a).length+(ofL b).length)=true from xab (by show a.toArray.size+b.toArray.size<=_;rw[xas,xas];exact xav h (by decide)),zaK];rfl
theorem ofL_inj{a b:List Nat}(h:ofL a=ofL b):a=b:=by
 have:=congrArg (fun z:Str=>z.cps.toList) h
 simpa [ofL] using this
theorem zaL(c:Int):∃ns:List Str,oA [.int c,.int 5]=.ok (.lst (ns.map .str))/\ns.length=5/\ns.Nodup/\∀x∈ns,Pn x:=by
 obtain⟨ns,e,hl,hb⟩:=NX c 12 (by decide)
 have e:iW [.int c,.int 12]=.ok (.lst (ns.map .int)):=e
 obtain⟨d8,g8,a8,b8⟩:=jQ ns hb 8 (by omega)
 obtain⟨d9,g9,a9,b9⟩:=jQ ns hb 9 (by omega)
 obtain⟨d10,g10,a10,b10⟩:=jQ ns hb 10 (by omega)
 obtain⟨d11,g11,a11,b11⟩:=jQ ns hb 11 (by omega)
 have g8:aW (.lst (ns.map .int)) (.int 8)=.ok (.int d8):=g8
 have g9:aW (.lst (ns.map .int)) (.int 9)=.ok (.int d9):=g9
 have g10:aW (.lst (ns.map .int)) (.int 10)=.ok (.int d10):=g10
 have g11:aW (.lst (ns.map .int)) (.int 11)=.ok (.int d11):=g11
 rw[zak];unfold uI MH MG MF;kd_p
 rw[e];kd_p
 rw[g10];kpf_c
 have m10:=gA (i:=d10) (j:=8) (by decide)
 rw[show ("abcdefghijklmnopqrstuvwxyz":Str)=lJ from rfl,show (D.str "")=.str (ofL []) from rfl]
 have turn:∀(j:Nat) (d:D) (O:DSt),(cH 0 (d10%8).toNat)[j]? = some d->(∃(l:List Nat) (z:Option D),O=[some (.int c),some (.int 5),some (.str lJ),some (.lst (ns.map .int)),some (.str (ofL l)),z]/\l.length=j/\∀c∈l,97<=c/\c<=122)->
   ∃O',(qQ (O.set 5 (some d))=.ok (.nx O')\/qQ (O.set 5 (some d))=.ok (.ct O'))/\∃(l:List Nat) (z:Option D),O'=[some (.int c),some (.int 5),some (.str lJ),some (.lst (ns.map .int)),some (.str (ofL l)),z]/\l.length=j+1/\∀c∈l,97<=c/\c<=122:=by
  rintro j d O hd ⟨l,z,rfl,hl,hc⟩
  have hj:j<(d10%8).toNat:=by
   have:=(xah.mp hd).1
   simpa [cH] using this
  obtain rfl:d=.int (j:Int):=by
   unfold cH at hd
   rw[xbp,xdb hj] at hd
   simpa using hd.symm
  unfold qQ;kd_p
  rw[g11]
  rw[show j9 (.ok [D.int 1,.int 26,.int 676,.int 17576,.int 5,.int 9,.int 77])=.ok [D.int 1,.int 26,.int 676,.int 17576,.int 5,.int 9,.int 77] from rfl];kd_p
  obtain⟨q,hq,hq0,hq1⟩:∃q:Int,aW (.lst [.int 1,.int 26,.int 676,.int 17576,.int 5,.int 9,.int 77]) (.int (j:Int))=.ok (.int q)/\0<q/\q<=20000:=by
   have:j=0\/j=1\/j=2\/j=3\/j=4\/j=5\/j=6:=by omega
   rcases this with rfl|rfl|rfl|rfl|rfl|rfl|rfl
   ·exact⟨1,rfl,by decide,by decide⟩
   ·exact⟨26,rfl,by decide,by decide⟩
   ·exact⟨676,rfl,by decide,by decide⟩
   ·exact⟨17576,rfl,by decide,by decide⟩
   ·exact⟨5,rfl,by decide,by decide⟩
   ·exact⟨9,rfl,by decide,by decide⟩
   ·exact⟨77,rfl,by decide,by decide⟩
  rw[hq];kd_p
  rw[mG _ _ (HA (by omega) (by omega) (by omega)) hq0];kd_p
  rw[fO _ _ (by decide)];kd_p
  have m:=gA (i:=d11/q) (j:=26) (by decide)
  rw[N0 _ m.1 m.2];kd_p
  rw[dC (by simp;omega)];kd_p
  refine⟨_,.inl rfl,l++[97+(d11/q%26).toNat],_,rfl,by simp[hl],fun x hx=>?_⟩
  rcases xbn.mp hx with h|h
  ·exact hc x h
  ·rw[xci.mp h];omega
 obtain⟨O',e2,l,z,rfl,hl2,hc⟩:=x9 (i:=5) (fb:=qQ) _ _ turn [some (.int c),some (.int 5),some (.str lJ),some (.lst (ns.map .int)),some (.str (ofL [])),none] ⟨[],none,rfl,rfl,by simp⟩
 have hl7:l.length<=7:=by
  have:(cH 0 (d10%8).toNat).length=(d10%8).toNat:=by simp[cH]
  omega
 rw[e2];kd_p
 unfold ME;kd_p
 rw[g8];kpf_c
 by_cases h:d8%4=1
 ·rw[xab h];kd_p
  rw[Lk42.eSl_to _ _ _ [D.str "end",.str "x",.str "times",.str "rule",.str "ends",.str "xx"] 5 rfl rfl];kd_p
  refine⟨["end","x","times","rule","ends"],rfl,rfl,by decide,fun x hx=>?_⟩
  simp only[xal,xa2,or_false] at hx
  rcases hx with rfl|rfl|rfl|rfl|rfl
  ·exact⟨[101,110,100],rfl,by decide,by decide,by decide⟩
  ·exact⟨[120],rfl,by decide,by decide,by decide⟩
  ·exact⟨[116,105,109,101,115],rfl,by decide,by decide,by decide⟩
  ·exact⟨[114,117,108,101],rfl,by decide,by decide,by decide⟩
  ·exact⟨[101,110,100,115],rfl,by decide,by decide,by decide⟩
 ·rw[xae h];kd_p
  unfold MD;kpf_c
  have nm:∀k:Int,nR aL (nR cG (.ok (.str lJ)) (nR bK (nR aL (.ok (.int d9)) (.ok (.int k))) (.ok (.int 26)))) (.ok (.str (ofL l)))=.ok (.str (ofL ((97+((d9+k)%26).toNat)::l))):=fun k=>by
   have m:=gA (i:=d9+k) (j:=26) (by decide)
   rw[nS,xU,nS,fO _ _ (by decide),nS,N0 _ m.1 m.2,nS,dC (by simp;omega)];rfl
  rw[show cH 0 5=[D.int 0,.int 1,.int 2,.int 3,.int 4] from rfl]
  rw[KD (g:=fun d=>match d with|.int k=>.str (ofL ((97+((d9+k)%26).toNat)::l))|_=>.non) (by decide) (fun d hd=>?_)]
  ·kd_p
   refine⟨[0,1,2,3,4].map fun k:Int=>ofL ((97+((d9+k)%26).toNat)::l),rfl,rfl,?_,fun x hx=>?_⟩
   ·have ne:∀i j:Int,0<=i->i<5->0<=j->j<5->i≠j->ofL ((97+((d9+i)%26).toNat)::l)≠ofL ((97+((d9+j)%26).toNat)::l):=fun i j h1 h2 h3 h4 h5 h6=>by
     have:=ofL_inj h6
     injection this with h7 _
     omega
    simp only[xbl,List.map_nil,xct,xal,xa2,or_false,not_or,not_false_eq_true,List.nodup_nil,and_true]
    refine⟨⟨?_,?_,?_,?_⟩,⟨?_,?_,?_⟩,⟨?_,?_⟩,?_⟩<;>exact ne _ _ (by decide) (by decide) (by decide) (by decide) (by decide)
   ·obtain⟨k,hk,rfl⟩:=xb3.mp hx
    refine⟨_,rfl,by simp;omega,by simp,fun y hy=>?_⟩
    rcases xal.mp hy with rfl|hy
    ·have:=gA (i:=d9+k) (j:=26) (by decide);omega
    ·exact hc y hy
  ·simp only[xal,xa2,or_false] at hd
   rcases hd with rfl|rfl|rfl|rfl|rfl<;>(kd_p;rw[g9];exact nm _)
end LmWg
open L2 DL Mir
namespace LmWh
open LmA LmY LmWa LmWb LmWc LmWd LmWf LmWg TxtA
def gW(ts:List Tr):Nat:=(ts.map Tr.many).sum
theorem mO(ts:List Tr)(t:Tr):gW (ts++[t])=gW ts+t.many:=by unfold gW;simp
theorem zR:∀ts:List Tr,ts.length<=gW ts
 |[]=>xbz _
 |t::ts=>by have:=zR ts;have:=t.pos;unfold gW at *;simp only[xbl,List.sum_cons,xan];omega
theorem sg1(r:Int)(h0:0<=r)(h1:r<4):∃s:Sg,cG (.str "+-*/") (.int r)=.ok (.str s.str):=by
 have:r=0\/r=1\/r=2\/r=3:=by omega
 rcases this with rfl|rfl|rfl|rfl
 ·exact⟨.plus,rfl⟩
 ·exact⟨.minus,rfl⟩
 ·exact⟨.times,rfl⟩
 ·exact⟨.over,rfl⟩
theorem sg2(r:Int)(h0:0<=r)(h1:r<4):∃s:Sg,cG (.str "-+/*") (.int r)=.ok (.str s.str):=by
 have:r=0\/r=1\/r=2\/r=3:=by omega
 rcases this with rfl|rfl|rfl|rfl
 ·exact⟨.minus,rfl⟩
 ·exact⟨.plus,rfl⟩
 ·exact⟨.over,rfl⟩
 ·exact⟨.times,rfl⟩
section
variable{a b z3 z4:Option D}{xs:List D}{d x d1:D}{f1:DSt->R D}
theorem zaO(h:f1 [a,b,none,z3,z4,some x]=.ok d1)(hl:xs.length<=1000000) :
  pV [2] 2 2 f1 (aB 5) [a,b,some (.lst (xs++[d])),z3,z4,some x]=.ok (.nx [a,b,some (.lst (xs++[.tup [d1,d,x]])),z3,z4,some x]):=by
 unfold pV
 rw[show aK [a,b,some (.lst (xs++[d])),z3,z4,some x] 2=.ok (xs++[d]) from rfl,show mask [2] [a,b,some (.lst (xs++[d])),z3,z4,some x]=[a,b,none,z3,z4,some x] from rfl,h]
 show (match (xs++[d])[(xs++[d]).length-1]? with
  |some e=>R.bind (.ok x) fun d2=>R.bind (.ok (xs++[d]).dropLast) fun ys=>bif most ys.length then R.ok (aE.nx [a,b,some (.lst (ys++[D.tup [d1,e,d2]])),z3,z4,some x]) else .bad
  |none=>.bad)=_
 have e:(xs++[d])[(xs++[d]).length-1]? = some d:=by simp
 rw[e,xbt]
 show (bif most xs.length then R.ok (aE.nx [a,b,some (.lst (xs++[.tup [d1,d,x]])),z3,z4,some x]) else .bad)=_
 rw[k6 hl];rfl
theorem zaP(h:f1 [a,b,some (.lst (xs++[d])),z3,z4,some x]=.ok d1)(hi:imm d1=true)(hl:xs.length<=1000000) :
  pW [2] 2 2 f1 (aB 5) [a,b,some (.lst (xs++[d])),z3,z4,some x]=.ok (.nx [a,b,some (.lst (xs++[.tup [d1,d,x]])),z3,z4,some x]):=by
 unfold pW
 rw[show aK [a,b,some (.lst (xs++[d])),z3,z4,some x] 2=.ok (xs++[d]) from rfl,h]
 show (bif imm d1 then (match (xs++[d])[(xs++[d]).length-1]? with
  |some e=>R.bind (.ok x) fun d2=>R.bind (.ok (xs++[d]).dropLast) fun ys=>bif most ys.length then R.ok (aE.nx [a,b,some (.lst (ys++[D.tup [d1,e,d2]])),z3,z4,some x]) else .bad
  |none=>.bad) else .bad)=_
 have e:(xs++[d])[(xs++[d]).length-1]? = some d:=by simp
 rw[hi,e,xbt]
 show (bif most xs.length then R.ok (aE.nx [a,b,some (.lst (xs++[.tup [d1,d,x]])),z3,z4,some x]) else .bad)=_
 rw[k6 hl];rfl
end
theorem N1{α:Type}(ts:List α)(h:1<ts.length):∃us a b,ts=us++[a]++[b]:=by
 rcases xb5 ts with rfl|⟨l,b,rfl⟩
 ·simp at h
 ·rw[xb6] at *
  rcases xb5 l with rfl|⟨us,a,rfl⟩
  ·simp at h
  ·exact⟨us,a,b,by rw[xb6]⟩
section
variable(C:D)(ns:List Str)(hn:ns.length=5)(hp:∀x∈ns,Pn x)
theorem zaQ(z3 z4:Option D):∀(n:Nat) (ts:List Tr) (z5:Option D),ts.length=n->1<=n->n<=1000->(∀t∈ts,dL t)->∃(t:Tr) (z:Option D),dB uK y0 [some C,some (.lst (ns.map .str)),some (.lst (ts.map Tr.d)),z3,z4,z5]=.ok (.nx [some C,some (.lst (ns.map .str)),some (.lst [t.d]),z3,z4,z])/\dL t/\t.many=gW ts:=by
 intro n
 induction n with
 |zero=>intro ts z5 h1 h2;omega
 |succ n ih=>
  intro ts z5 h1 h2 h3 hg
  by_cases hn1:n=0
  ·subst hn1
   match ts,h1 with
   |[t],_=>
    refine⟨t,z5,?_,hg t (by simp),by unfold gW;simp⟩
    rw[tJ (by unfold uK;kd_p;rfl)];rfl
  ·obtain⟨us,a,b,rfl⟩:=N1 ts (by omega)
   have hlu:us.length+2=n+1:=by simp at h1;omega
   have m:=gA (i:=(((us++[a]).map Tr.d).length:Int)) (j:=4) (by decide)
   obtain⟨s,hs⟩:=sg2 _ m.1 m.2
   obtain⟨t,z,e1,e2,e3⟩:=ih (us++[.op s a b]) (some b.d) (by simp;omega) (by omega) (by omega) (fun t ht=>by
    rcases xbn.mp ht with h|h
    ·exact hg t (by simp[h])
    ·rw[xci.mp h];exact⟨hg a (by simp),hg b (by simp)⟩)
   refine⟨t,z,?_,e2,by rw[e3,mO,mO,mO];show gW us+(a.many+b.many)=_;omega⟩
   rw[KC (O':=[some C,some (.lst (ns.map .str)),some (.lst ((us++[Tr.op s a b]).map Tr.d)),z3,z4,some b.d]) ?_ ?_,e1]
   ·unfold uK;kd_p
    rw[xab (by simp;omega)]
   ·unfold y0 MM
    rw[c4,NZ (xs:=(us++[a]).map Tr.d) (d:=b.d) (by rw[xbf (l₂:=[b])];rfl),sZ]
    show pW [2] 2 2 _ (aB 5) [some C,some (.lst (ns.map .str)),some (.lst ((us++[a]).map Tr.d)),z3,z4,some b.d]=_
    rw[xbf] at m hs ⊢
    rw[show [a].map Tr.d=[a.d] from rfl] at *
    rw[zaP (d1:=.str s.str) ?_ rfl (by simp;omega)]
    ·rw[xbf];rfl
    ·kd_p
     rw[fO _ _ (by decide)];kd_p
     exact hs
include hn hp in
theorem zaR(cs:List Int)(h1:cs≠[])(h2:cs.length<=1000):∃t:Tr,oB [.lst (cs.map .int),.lst (ns.map .str)]=.ok t.d/\dL t/\t.many<=cs.length:=by
 rw[zam];unfold uL MP MO MN;kd_p
 have turn:∀(j:Nat) (d:D) (O:DSt),(cs.map D.int)[j]? = some d->(∃(ts:List Tr) (z3 z4 z5:Option D),O=[some (.lst (cs.map .int)),some (.lst (ns.map .str)),some (.lst (ts.map Tr.d)),z3,z4,z5]/\(0<j->ts≠[])/\gW ts<=j/\∀t∈ts,dL t)->
   ∃O',(mM (O.set 3 (some d))=.ok (.nx O')\/mM (O.set 3 (some d))=.ok (.ct O'))/\∃(ts:List Tr) (z3 z4 z5:Option D),O'=[some (.lst (cs.map .int)),some (.lst (ns.map .str)),some (.lst (ts.map Tr.d)),z3,z4,z5]/\(0<j+1->ts≠[])/\gW ts<=j+1/\∀t∈ts,dL t:=by
  rintro j d O hd ⟨ts,z3,z4,z5,rfl,h0,hm,hg⟩
  have hj:j<cs.length:=by
   have:=(xah.mp hd).1
   simpa using this
  have hlt:=zR ts
  obtain⟨c,rfl⟩:∃c,d=.int c:=by
   rw[xbp,xbd hj] at hd
   exact⟨_,(xba hd).symm⟩
  obtain⟨dg,e,hl,hb⟩:=NX c 6 (by decide)
  have e:iW [.int c,.int 6]=.ok (.lst (dg.map .int)):=e
  obtain⟨d0,g0,a0,b0⟩:=jQ dg hb 0 (by omega)
  obtain⟨d1,g1,a1,b1⟩:=jQ dg hb 1 (by omega)
  have g0:aW (.lst (dg.map .int)) (.int 0)=.ok (.int d0):=g0
  have g1:aW (.lst (dg.map .int)) (.int 1)=.ok (.int d1):=g1
  have set4:∀g,eQ (j6 [2] 4 (a7 iW (aA (aB 3) (aA (eC (.int 6)) aD))) [some (.lst (cs.map .int)),some (.lst (ns.map .str)),some (.lst (ts.map Tr.d)),some (.int c),z4,z5]) g=g [some (.lst (cs.map .int)),some (.lst (ns.map .str)),some (.lst (ts.map Tr.d)),some (.int c),some (.lst (dg.map .int)),z5]:=fun g=>by
   rw[xR,show a7 iW (aA (aB 3) (aA (eC (.int 6)) aD)) (mask [2] [some (.lst (cs.map .int)),some (.lst (ns.map .str)),some (.lst (ts.map Tr.d)),some (.int c),z4,z5])=.ok (.lst (dg.map .int)) from e,xS];rfl
  show ∃O',(mM [some (.lst (cs.map .int)),some (.lst (ns.map .str)),some (.lst (ts.map Tr.d)),some (.int c),z4,z5]=.ok (.nx O')\/mM [some (.lst (cs.map .int)),some (.lst (ns.map .str)),some (.lst (ts.map Tr.d)),some (.int c),z4,z5]=.ok (.ct O'))/\_
  unfold mM
  rw[c4,set4]
  have push:∃O',(l9 [2] 2 (a7 kD (aA (aB 4) (aA (aB 1) aD))) [some (.lst (cs.map .int)),some (.lst (ns.map .str)),some (.lst (ts.map Tr.d)),some (.int c),some (.lst (dg.map .int)),z5]=.ok (.nx O')\/l9 [2] 2 (a7 kD (aA (aB 4) (aA (aB 1) aD))) [some (.lst (cs.map .int)),some (.lst (ns.map .str)),some (.lst (ts.map Tr.d)),some (.int c),some (.lst (dg.map .int)),z5]=.ok (.ct O'))/\
    ∃(ts:List Tr) (z3 z4 z5:Option D),O'=[some (.lst (cs.map .int)),some (.lst (ns.map .str)),some (.lst (ts.map Tr.d)),z3,z4,z5]/\(0<j+1->ts≠[])/\gW ts<=j+1/\∀t∈ts,dL t:=by
   obtain⟨t,et,gt,mt⟩:=zaJ dg hl hb ns hn hp
   refine⟨_,.inl ?_,ts++[t],some (.int c),some (.lst (dg.map .int)),z5,rfl,by simp,by rw[mO,mt];omega,fun u hu=>?_⟩
   ·rw[xO,show aK [some (.lst (cs.map .int)),some (.lst (ns.map .str)),some (.lst (ts.map Tr.d)),some (.int c),some (.lst (dg.map .int)),z5] 2=.ok (ts.map Tr.d) from rfl,
     show a7 kD (aA (aB 4) (aA (aB 1) aD)) (mask [2] [some (.lst (cs.map .int)),some (.lst (ns.map .str)),some (.lst (ts.map Tr.d)),some (.int c),some (.lst (dg.map .int)),z5])=.ok t.d from et,GV _ _ _ _ (by simp;omega),xbf];rfl
   ·rcases xbn.mp hu with h|h
    ·exact hg u h
    ·rw[xci.mp h];exact gt
  unfold ML;kd_p
  by_cases hlen:1<ts.length
  ·rw[xab (by simp;omega)];kd_p
   rw[g0];kpf_c
   by_cases he:d0%2=0
   ·rw[xab he];kd_p
    obtain⟨us,a,b,rfl⟩:=N1 ts hlen
    have m:=gA (i:=d1) (j:=4) (by decide)
    obtain⟨s,hs⟩:=sg1 _ m.1 m.2
    refine⟨_,.inl ?_,us++[.op s a b],some (.int c),some (.lst (dg.map .int)),some b.d,rfl,by simp,?_,fun u hu=>?_⟩
    ·unfold MK MJ
     rw[c4,NZ (xs:=us.map Tr.d++[a.d]) (d:=b.d) (by rw[xbf,xbf];rfl),sZ]
     show pV [2] 2 2 _ (aB 5) [some (.lst (cs.map .int)),some (.lst (ns.map .str)),some (.lst (us.map Tr.d++[a.d])),some (.int c),some (.lst (dg.map .int)),some b.d]=_
     rw[zaO (d1:=.str s.str) ?_ (by simp only[xak,xat,xan,xbs] at hlt ⊢;omega)]
     ·rw[xbf];rfl
     ·kd_p
      rw[g1];kpf_c
      exact hs
    ·rw[mO]
     rw[mO,mO] at hm
     show gW us+(a.many+b.many)<=_
     omega
    ·rcases xbn.mp hu with h|h
     ·exact hg u (by simp[h])
     ·rw[xci.mp h];exact⟨hg a (by simp),hg b (by simp)⟩
   ·rw[xae he];kd_p
    exact push
  ·rw[xae (by simp;omega)];kd_p
   exact push
 obtain⟨O',e,ts,z3,z4,z5,rfl,hne,hm,hg⟩:=x9 (i:=3) (fb:=mM) _ _ turn [some (.lst (cs.map .int)),some (.lst (ns.map .str)),some (.lst []),none,none,none] ⟨[],none,none,none,rfl,by simp,by simp[gW],by simp⟩
 rw[xat] at hne hm
 rw[e];kd_p
 have hc:0<cs.length:=xcf.mpr h1
 obtain⟨t,z,e1,e2,e3⟩:=zaQ (.lst (cs.map .int)) ns z3 z4 ts.length ts z5 rfl (xcf.mpr (hne hc)) (by have:=zR ts;omega) hg
 rw[e1];kd_p
 exact⟨t,rfl,e2,by omega⟩
end
end LmWh
open L2 DL Mir
open L2 DL Mir
namespace Lk31
open LmA
theorem zaS(f:DSt->R D)(O:DSt):fG f O=(f O).bind yB:=rfl
def inT(i j:Str):Bool:=!(Builtin.Str.occurrences j i 0 j.length 1).isEmpty
theorem gNin_ss(i j:Str):eG (.str i) (.str j)=.ok (.bl (!inT i j)):=rfl
theorem gLen_s{z:Str}(h:z.length<=1000):aY [.str z]=.ok (.int z.length):=by
 show (bif bL z.length then _ else _)=_
 rw[show bL z.length=true from xab (xav h (by decide))];rfl
theorem gAll_bls(bs:List Bool):nP [.lst (bs.map D.bl)]=.ok (.bl (bs.all id)):=by
 show mD (.lst (bs.map D.bl))=_
 simp only[mD,xD]
theorem zaT(z:Str):(iE z).length=z.length:=by
 unfold iE
 rw[xat,xbv];rfl
def isW(z:Str):Bool:=decide (1<=(z.length:Int))&&decide ((z.length:Int)<=8)&&(z.cps.toList.all fun c=>inT (sign c) "abcdefghijklmnopqrstuvwxyz")
theorem is_word_s{z:Str}(h:z.length<=1000):n8 [.str z]=.ok (.bl (isW z)):=by
 rw[zac];unfold t7;kd_p
 rw[show g2 bH [.str z,.ty "str"]=.ok (.bl true) from rfl];kd_p
 rw[gLen_s h];kd_p
 rw[show t0=.int 8 from rfl];kd_p
 cases hc:(decide (1<=(z.length:Int))&&decide ((z.length:Int)<=8)) with
 |false=>
  kd_p
  unfold isW;rw[hc];rfl
 |true=>
  kd_p
  unfold LI;kd_p
  rw[zaS];kd_p
  rw[show (R.ok (D.str z)).bind yB=.ok (iE z) from rfl,KD (g:=fun d=>match d with|.str y=>.bl (inT y "abcdefghijklmnopqrstuvwxyz")|d=>d) (by rw[zaT];omega) (fun d hd=>?_)]
  ·kd_p
   rw[show (iE z).map (fun d=>match d with|.str y=>D.bl (inT y "abcdefghijklmnopqrstuvwxyz")|d=>d)=(z.cps.toList.map fun c=>inT (sign c) "abcdefghijklmnopqrstuvwxyz").map D.bl from by unfold iE;rw[xcm,xcm];rfl,gAll_bls,List.all_map];kd_p
   unfold isW;rw[hc,Bool.true_and]
   rfl
  ·unfold iE at hd
   obtain⟨c,_,rfl⟩:=xb3.mp hd
   kd_p
   rfl
end Lk31
open L2 DL Mir
namespace LmWj
open LmA LmY LmWa LmWb LmWc LmWd LmWf LmWg LmWh TxtA
theorem zS{p:Nat->Bool}{c:Nat}(hc:p c=true){r:List Nat}(hr:∀x∈r.head?,p x=false):∀n:Nat,List.takeWhile p (List.replicate n c++r)=List.replicate n c
 |0=>by
  rw[List.replicate_zero,xc8]
  cases r with
  |nil=>rfl
  |cons x r=>rw[xb1,hr x (by simp)];rfl
 |n+1=>by
  rw[xa0,xbq,xb1,hc]
  show c::List.takeWhile p (List.replicate n c++r)=_
  rw[zS hc hr n]
theorem zaU(n:Nat)(r:List Nat)(hr:∀x∈r.head?,x≠40):Txt.lstripChars (ofL (List.replicate n 40++r)) "("=ofL r:=by
 unfold Txt.lstripChars
 rw[PyProof.Rows.stripBy_eq]
 have g:∀c,("(":Str).cps.contains c=(c==40):=fun c=>by
  show (#[40]:Array Nat).contains c=_
  rw[xbc];simp
 have lo:stripLo ("(":Str).cps.contains true (ofL (List.replicate n 40++r))=n:=by
  unfold stripLo
  rw[xau rfl]
  show (List.takeWhile _ (List.replicate n 40++r).toArray.toList).length=n
  rw[zS (c:=40) (by rw[g];rfl) (fun x hx=>by rw[g];simpa using hr x hx)]
  simp
 have hi:∀k,stripHi ("(":Str).cps.contains false (ofL (List.replicate n 40++r)) k=n+r.length:=fun k=>by
  unfold stripHi
  rw[xao (by simp)]
  show (List.replicate n 40++r).toArray.size=_
  simp
 rw[hi,lo]
 show (⟨(List.replicate n 40++r).toArray.extract n (n+r.length)⟩:Str)=⟨r.toArray⟩
 congr 1
 apply xcb.mp
 simp
theorem zaV(n:Nat)(r:List Nat)(hr:∀x∈r.getLast?,x≠41):Txt.rstripChars (ofL (r++List.replicate n 41)) ")"=ofL r:=by
 unfold Txt.rstripChars
 rw[PyProof.Rows.stripBy_eq]
 have g:∀c,(")":Str).cps.contains c=(c==41):=fun c=>by
  show (#[41]:Array Nat).contains c=_
  rw[xbc];simp
 have lo:stripLo (")":Str).cps.contains false (ofL (r++List.replicate n 41))=0:=by
  unfold stripLo;rw[xao (by simp)]
 have hi:stripHi (")":Str).cps.contains true (ofL (r++List.replicate n 41)) 0=r.length:=by
  unfold stripHi
  rw[xau rfl]
  show (r++List.replicate n 41).toArray.size-(List.takeWhile _ (List.drop 0 (r++List.replicate n 41).toArray.toList).reverse).length=_
  rw[xde,xcr,xcj,zS (c:=41) (by rw[g];rfl) (fun x hx=>by rw[g];rw[List.head?_reverse] at hx;simpa using hr x hx)]
  simp
 rw[lo,hi]
 show (⟨(r++List.replicate n 41).toArray.extract 0 r.length⟩:Str)=⟨r.toArray⟩
 congr 1
 apply xcb.mp
 simp
def b7:Tr->List Nat
 |.nm x=>x.cps.toList
 |.nb i=>bB i.toNat
 |.op _ _ _=>[]
def Tr.leaf:Tr->Bool
 |.op _ _ _=>false
 |_=>true
theorem lK{t:Tr}(hl:Tr.leaf t=true)(hg:dL t):b7 t≠[]/\(b7 t).length<=9/\∀c∈b7 t,c≠40/\c≠41/\c≠32:=by
 cases t with
 |nm x=>
  obtain⟨l,rfl,h1,h2,h3⟩:=hg.ex
  refine⟨by show l.toArray.toList≠[];simpa using h2,by show l.toArray.toList.length<=9;simp;omega,fun c hc=>?_⟩
  have:=h3 c (by simpa [b7,ofL] using hc)
  omega
 |nb i=>
  obtain⟨h1,h2⟩:=hg
  have hm:i.toNat<10^9:=by omega
  refine⟨o9 _,wE (by decide) hm,fun c hc=>?_⟩
  have:=digs_all _ c hc
  obtain⟨q1,q2⟩:48<=c/\c<=57:=this
  omega
 |op s a b=>cases hl
theorem uY(c:Nat):Lk31.inT (sign c) "abcdefghijklmnopqrstuvwxyz"=decide (97<=c/\c<=122):=by
 show (!(Builtin.Str.occurrences ("abcdefghijklmnopqrstuvwxyz":Str) ⟨#[c]⟩ 0 ("abcdefghijklmnopqrstuvwxyz":Str).length 1).isEmpty)=_
 rw[StrLaws.found_one,show ("abcdefghijklmnopqrstuvwxyz":Str).cps.toList=(List.range 26).map (97 + ·) from rfl]
 rw[decide_eq_decide]
 simp only[xb3,xcz]
 constructor
 ·rintro⟨a,h1,h2⟩;omega
 ·intro h;exact⟨c-97,by omega,by omega⟩
theorem zaW{t:Tr}(hl:Tr.leaf t=true)(hg:dL t):jN [.str (ofL (b7 t))]=.ok t.d:=by
 have lo:∀l:List Nat,(ofL l).length=l.length:=fun l=>by simp[ofL,Str.length]
 obtain⟨h1,h2,h3⟩:=lK hl hg
 have hw:=Lk31.is_word_s (z:=ofL (b7 t)) (by rw[lo];omega)
 rw[LL];unfold qK;kd_p
 rw[hw];kd_p
 cases t with
 |nm x=>
  obtain⟨l,rfl,q1,q2,q3⟩:=hg.ex
  have ea:b7 (.nm (ofL l))=l:=by show l.toArray.toList=l;simp
  rw[ea] at *
  have:Lk31.isW (ofL l)=true:=by
   unfold Lk31.isW
   rw[lo]
   have hp:0<l.length:=xcf.mpr q2
   rw[xab (by omega),xab (by omega)]
   show (true&&true&&l.toArray.toList.all fun c=>Lk31.inT (sign c) "abcdefghijklmnopqrstuvwxyz")=true
   simp only[Bool.true_and,xbg,List.toList_toArray]
   intro c hc
   rw[uY,xab (q3 c hc)]
  rw[this];kd_p
  rfl
 |nb i=>
  obtain⟨q1,q2⟩:=hg
  have hm:i.toNat<10^9:=by omega
  have h2:(bB i.toNat).length<=9:=h2
  show fin (eQ (tD (xJ (.ok (.bl (Lk31.isW (ofL (bB i.toNat)))))) _ _ [some (.str (ofL (bB i.toNat)))]) _)=_
  have:Lk31.isW (ofL (bB i.toNat))=false:=by
   unfold Lk31.isW
   obtain⟨c,cs,hc⟩:=xbm (o9 i.toNat)
   have hd:=digs_all i.toNat c (by rw[hc];simp)
   obtain⟨d1,d2⟩:48<=c/\c<=57:=hd
   rw[hc]
   have:((ofL (c::cs)).cps.toList.all fun c=>Lk31.inT (sign c) "abcdefghijklmnopqrstuvwxyz")=false:=by
    show ((c::cs).toArray.toList.all fun c=>Lk31.inT (sign c) "abcdefghijklmnopqrstuvwxyz")=false
    rw[List.toList_toArray,List.all_cons,uY,xae (by omega),xdc]
   rw[this,xdd]
  rw[this];kd_p
  unfold yW yV;kd_p
  rw[Lk31.gLen_s (by rw[lo];omega),show qJ=.int 9 from rfl,lo];kd_p
  rw[xae (by omega)];kd_p
  rw[zaH (xap hm (by decide))];kd_p
  rw[show ((i.toNat:Nat):Int)=i by omega];rfl
 |op s a b=>cases hl
end LmWj
open L2 DL Mir
namespace LmWk
open LmA LmY LmWa LmWb LmWc LmWd LmWf LmWg LmWh LmWj TxtA
inductive Sy where|opn|sig (s:Sg)
def Sy.str:Sy->Str
 |.opn=>"("|.sig s=>s.str
def aI:Sg->Nat
 |.plus=>1|.minus=>1|.times=>2|.over=>2
def Sy.b:Sy->Nat
 |.opn=>0|.sig s=>aI s
def sD(S:List Tr):List D:=S.reverse.map Tr.d
def gD(G:List Sy):List D:=G.reverse.map fun y=>.str y.str
theorem uZ(t:Tr)(S:List Tr):sD (t::S)=sD S++[t.d]:=by unfold sD;simp
theorem qX(y:Sy)(G:List Sy):gD (y::G)=gD G++[.str y.str]:=by unfold gD;simp
theorem N2(S:List Tr):(sD S).length=S.length:=by unfold sD;simp
theorem oJ(G:List Sy):(gD G).length=G.length:=by unfold gD;simp
def bS:List Sy->Nat
 |[]=>0
 |.opn::G=>bS G
 |.sig _::G=>bS G+1
def aZ:List Sy->Nat
 |[]=>0
 |.opn::G=>aZ G+1
 |.sig _::G=>aZ G
def join(k:Nat):List Sy->List Tr->List Tr×List Sy
 |.sig s::G,b::a::S=>if k<=aI s then join k G (.op s a b::S) else (b::a::S,.sig s::G)
 |G,S=>(S,G)
theorem oK(k:Nat)(G:List Sy)(S:List Tr):join k (.opn::G) S=(S,.opn::G):=by unfold join;rfl
theorem oM(k:Nat)(S:List Tr):join k [] S=(S,[]):=by unfold join;rfl
theorem oN(k:Nat)(s:Sg)(G:List Sy)(a b:Tr)(S:List Tr):join k (.sig s::G) (b::a::S)=if k<=aI s then join k G (.op s a b::S) else (b::a::S,.sig s::G):=by rw[join]
theorem mP(k:Nat):∀(G:List Sy) (S:List Tr),bS G+1=S.length->bS (join k G S).2+1=(join k G S).1.length/\(join k G S).2.length<=G.length/\(join k G S).1.length<=S.length/\aZ (join k G S).2=aZ G
 |[],S,h=>by rw[oM];exact⟨h,xaf _,xaf _,rfl⟩
 |.opn::G,S,h=>by rw[oK];exact⟨h,xaf _,xaf _,rfl⟩
 |.sig s::G,[],h=>by simp[bS] at h
 |.sig s::G,[a],h=>by simp[bS] at h
 |.sig s::G,b::a::S,h=>by
  rw[oN]
  by_cases hk:k<=aI s
  ·rw[xau hk]
   have:=mP k G (.op s a b::S) (by simp[bS] at h ⊢;omega)
   simp only[xan] at this ⊢
   exact⟨this.1,by omega,by omega,this.2.2.2⟩
  ·rw[xao hk];exact⟨h,xaf _,xaf _,rfl⟩
theorem N3{i j:Nat}{O:DSt}{xs:List D}{d:D}(h:aK O i=.ok (xs++[d])):pY i j O=.ok ((O.set i (some (.lst xs))).set j (some d)):=by
 show (aK O i).bind _=_
 rw[h]
 show (match (xs++[d])[(xs++[d]).length-1]? with
  |some d'=>R.ok ((O.set i (some (.lst (xs++[d]).dropLast))).set j (some d'))
  |none=>.bad)=_
 have e:(xs++[d])[(xs++[d]).length-1]? = some d:=by simp
 rw[e,xbt]
theorem N4(y:Sy):nY lD (.str y.str)=.ok (.int (y.b:Int)):=by
 cases y with
 |opn=>rfl
 |sig s=>cases s<;>rfl
theorem N5(k:Nat):∀(G:List Sy) (S:List Tr) (z3 z4:Option D),1<=k->bS G+1=S.length->G.length<=100000->S.length<=100000->
  ∃z3' z4',dB qI (kC yU) [some (.lst (sD S)),some (.lst (gD G)),some (.int (k:Int)),z3,z4]=.ok (.nx [some (.lst (sD (join k G S).1)),some (.lst (gD (join k G S).2)),some (.int (k:Int)),z3',z4'])
 |[],S,z3,z4,hk,h,hG,hS=>by
  refine⟨z3,z4,?_⟩
  rw[tJ (by unfold qI;kd_p;rfl),oM]
 |y::G,S,z3,z4,hk,h,hG,hS=>by
  have hc:qI [some (.lst (sD S)),some (.lst (gD (y::G))),some (.int (k:Int)),z3,z4]=.ok (decide ((k:Int)<=(y.b:Int))):=by
   unfold qI;kd_p
   rw[xab (by rw[oJ];simp)];kd_p
   rw[qX,X0];kd_p
   rw[N4];kd_p
  cases y with
  |opn=>
   refine⟨z3,z4,?_⟩
   rw[xae (by show ¬(k:Int)<=((0:Nat):Int);omega)] at hc
   rw[tJ hc,oK]
  |sig s=>
   match S,h with
   |[],h=>simp[bS] at h
   |[a],h=>simp[bS] at h
   |b::a::S,h=>
    rw[oN]
    by_cases hks:k<=aI s
    ·rw[xab (by show (k:Int)<=((aI s:Nat):Int);omega)] at hc
     rw[xau hks]
     obtain⟨z3',z4',e⟩:=N5 k G (.op s a b::S) (some b.d) (some a.d) hk (by simp[bS] at h ⊢;omega) (by simp at hG;omega) (by simp at hS ⊢;omega)
     refine⟨z3',z4',?_⟩
     rw[KC hc (O':=[some (.lst (sD (.op s a b::S))),some (.lst (gD G)),some (.int (k:Int)),some b.d,some a.d]) ?_,e]
     unfold kC yU LK LJ eI
     rw[N3 (xs:=sD (a::S)) (d:=b.d) (by rw[uZ b];rfl)]
     show R.bind (R.bind (pY 0 4 [some (.lst (sD (a::S))),some (.lst (gD (.sig s::G))),some (.int (k:Int)),some b.d,z4]) _) _=_
     rw[N3 (xs:=sD S) (d:=a.d) (by rw[uZ a];rfl)]
     show R.bind (qA [0,1] 0 1 (aB 4) (aB 3) [some (.lst (sD S)),some (.lst (gD (.sig s::G))),some (.int (k:Int)),some b.d,some a.d]) _=_
     have ha:qA [0,1] 0 1 (aB 4) (aB 3) [some (.lst (sD S)),some (.lst (gD (.sig s::G))),some (.int (k:Int)),some b.d,some a.d]=.ok [some (.lst (sD (.op s a b::S))),some (.lst (gD G)),some (.int (k:Int)),some b.d,some a.d]:=by
      unfold qA
      rw[show aK [some (.lst (sD S)),some (.lst (gD (.sig s::G))),some (.int (k:Int)),some b.d,some a.d] 0=.ok (sD S) from rfl,show aK [some (.lst (sD S)),some (.lst (gD (.sig s::G))),some (.int (k:Int)),some b.d,some a.d] 1=.ok (gD (.sig s::G)) from rfl,R.ok_bind,R.ok_bind]
      rw[qX]
      have e2:(gD G++[D.str (Sy.sig s).str])[(gD G++[D.str (Sy.sig s).str]).length-1]? = some (.str (Sy.sig s).str):=by simp
      simp only[e2]
      show (bif most (sD S).length&&decide ((0:Nat)≠1) then R.ok [some (D.lst (sD S++[.tup [.str s.str,a.d,b.d]])),some (.lst (gD G++[D.str (Sy.sig s).str]).dropLast),some (.int (k:Int)),some b.d,some a.d] else .bad)=_
      rw[k6 (by rw[N2];simp at hS;omega),xbt,uZ];rfl
     rw[ha];rfl
    ·rw[xae (by show ¬(k:Int)<=((aI s:Nat):Int);omega)] at hc
     rw[xao hks]
     exact⟨z3,z4,tJ hc⟩
theorem join_ok(k:Nat)(G:List Sy)(S:List Tr)(hk:1<=k)(h:bS G+1=S.length)(hG:G.length<=100000)(hS:S.length<=100000):∃τ,gL [.lst (sD S),.lst (gD G),.int (k:Int)]=.ok τ/\aK τ 0=.ok (sD (join k G S).1)/\aK τ 1=.ok (gD (join k G S).2):=by
 obtain⟨z3,z4,e⟩:=N5 k G S none none hk h hG hS
 rw[zad];unfold t8 yJ
 rw[e]
 exact⟨_,rfl,rfl,rfl⟩
end LmWk
open L2 DL Mir
namespace LmWl
open LmA LmY LmWa LmWb LmWc LmWd LmWf LmWg LmWh LmWj LmWk TxtA
theorem lo(l:List Nat):(ofL l).length=l.length:=by simp[ofL,Str.length]
theorem u4{own:List Nat}{i j:Nat}{fe:DSt->R D}{O:DSt}{S:List Tr}{G:List Sy}{k:Nat}(h1:aK O i=.ok (sD S))(h2:aK O j=.ok (gD G))(h3:fe (mask own O)=.ok (.int (k:Int)))(hk:1<=k)(h:bS G+1=S.length)(hG:G.length<=100000)(hS:S.length<=100000) :
  gT own i j gL fe O=.ok ((O.set i (some (.lst (sD (join k G S).1)))).set j (some (.lst (gD (join k G S).2)))):=by
 obtain⟨τ,e1,e2,e3⟩:=join_ok k G S hk h hG hS
 unfold gT
 rw[h1,R.ok_bind,h2,R.ok_bind,h3,R.ok_bind,e1,R.ok_bind,e2,R.ok_bind,e3];rfl
def cJ:Nat->List Tr×List Sy->Option (List Tr×List Sy)
 |0,p=>some p
 |n+1,p=>match join 1 p.2 p.1 with
  |(S,.opn::G)=>cJ n (S,G)
  |_=>none
theorem N6{i:Nat}{O:DSt}{xs:List D}{d:D}(h:aK O i=.ok (xs++[d])):pZ i O=.ok (O.set i (some (.lst xs))):=by
 show (aK O i).bind _=_
 rw[h]
 show (match (xs++[d])[(xs++[d]).length-1]? with
  |some d'=>R.ok (O.set i (some (.lst (xs++[d]).dropLast)))
  |none=>.bad)=_
 have e:(xs++[d])[(xs++[d]).length-1]? = some d:=by simp
 rw[e,xbt]
theorem N7(w b c:Option D):∀(ds:List D) (S:List Tr) (G:List Sy) (z:Option D) (S':List Tr) (G':List Sy),bS G+1=S.length->G.length<=100000->S.length<=100000->cJ ds.length (S,G)=some (S',G')->
  ∃z',iH 5 iI ds [w,some (.lst (sD S)),some (.lst (gD G)),b,c,z]=.ok [w,some (.lst (sD S')),some (.lst (gD G')),b,c,z']
 |[],S,G,z,S',G',_,_,_,h=>by
  cases h
  exact⟨z,rfl⟩
 |d::ds,S,G,z,S',G',hw,hG,hS,h=>by
  obtain⟨j1,j2,j3,j4⟩:=mP 1 G S hw
  rw[xan,cJ] at h
  cases hj:join 1 G S with
  |mk S1 G1=>
   rw[hj] at j1 j2 j3
   simp only[hj] at h
   match G1,h with
   |[],h=>cases h
   |.sig _::_,h=>cases h
   |.opn::G2,h=>
    have h:cJ ds.length (S1,G2)=some (S',G'):=h
    obtain⟨z',e⟩:=N7 w b c ds S1 G2 (some d) S' G' j1 (by simp at j2;omega) (by have:S1.length<=S.length:=j3;omega) h
    refine⟨z',?_⟩
    show (iI [w,some (.lst (sD S)),some (.lst (gD G)),b,c,some d]).bind (iH 5 iI ds)=_
    have hb:iI [w,some (.lst (sD S)),some (.lst (gD G)),b,c,some d]=.ok [w,some (.lst (sD S1)),some (.lst (gD G2)),b,c,some d]:=by
     unfold iI yZ yY eI
     rw[u4 (S:=S) (G:=G) (k:=1) rfl rfl rfl (by decide) hw hG hS,R.ok_bind,hj]
     show R.bind (iG _ yX nW [w,some (.lst (sD S1)),some (.lst (gD (.opn::G2))),b,c,some d]) _=_
     have hc:aJ (aC bG (aG aY (aA (aB 2) aD)) (eC (.int 0))) [w,some (.lst (sD S1)),some (.lst (gD (.opn::G2))),b,c,some d]=.ok false:=by
      kd_p
      rw[xae (by rw[oJ];simp;omega)]
     unfold iG
     rw[hc]
     show pZ 2 [w,some (.lst (sD S1)),some (.lst (gD (.opn::G2))),b,c,some d]=_
     rw[N6 (xs:=gD G2) (d:=.str Sy.opn.str) (by rw[qX];rfl)];rfl
    rw[hb]
    exact e
theorem zaX(o:Nat)(G:List Sy):gD G++List.replicate o (.str "(")=gD (List.replicate o .opn++G):=by
 unfold gD
 rw[xcr,xbf,xcj,List.map_replicate];rfl
theorem zaY(G:List Sy):eH (gD G)=some (G.reverse.map Sy.str):=by
 unfold gD
 have:=zQ (G.reverse.map Sy.str)
 rw[xcm] at this
 exact this
theorem u6:∀(A B:List Sy),aZ (A++B)=aZ A+aZ B
 |[],B=>by simp[aZ]
 |.opn::A,B=>by show aZ (A++B)+1=aZ A+1+aZ B;rw[u6 A B];omega
 |.sig _::A,B=>by show aZ (A++B)=aZ A+aZ B;exact u6 A B
theorem zT:∀(A:List Sy),aZ A.reverse=aZ A
 |[]=>rfl
 |.opn::A=>by rw[List.reverse_cons,u6,zT A];simp[aZ]
 |.sig _::A=>by rw[List.reverse_cons,u6,zT A];simp[aZ]
theorem u7(o:Nat)(G:List Sy):aZ (List.replicate o .opn++G)=o+aZ G:=by
 induction o with
 |zero=>simp
 |succ o ih=>rw[xa0,xbq];show aZ (List.replicate o .opn++G)+1=_;rw[ih];omega
theorem N8(o:Nat)(G:List Sy):bS (List.replicate o .opn++G)=bS G:=by
 induction o with
 |zero=>simp
 |succ o ih=>rw[xa0,xbq];exact ih
theorem zU:∀(A:List Sy),Spec.countIn (PyData.str "(") ((A.map Sy.str).map PyData.str)=(aZ A:Int)
 |[]=>rfl
 |.opn::A=>by
  rw[xbl,xbl,Spec.countIn.eq_2,zU A,show Spec.same (PyData.str (Sy.opn).str) (PyData.str "(")=true from by decide +kernel,xau rfl]
  show (1:Int)+_=((aZ A+1:Nat):Int)
  omega
 |.sig s::A=>by
  rw[xbl,xbl,Spec.countIn.eq_2,zU A,show Spec.same (PyData.str (Sy.sig s).str) (PyData.str "(")=false from by cases s<;>decide +kernel,xao (by simp)]
  show (0:Int)+_=(aZ A:Int)
  omega
def c8(o:Nat)(t:Tr)(c:Nat):List Nat:=List.replicate o 40++(b7 t++List.replicate c 41)
theorem N9{o:Nat}{r:List Nat}(hr:∀x∈r.head?,x≠40)(ho:o<=10000)(hrl:r.length<=10000)(S:List Tr)(G:List Sy)(hG:G.length<=1000) :
  fZ [.str (ofL (List.replicate o 40++r)),.lst (sD S),.lst (gD G)]=uA [some (.str (ofL (List.replicate o 40++r))),some (.lst (sD S)),some (.lst (gD (List.replicate o .opn++G))),some (.str (ofL (r))),none,none]:=by
 have lw:(List.replicate o 40++r).length=o+r.length:=by simp
 rw[zae];unfold uB LP eI
 have e1:pX [1,2] 3 (yP (aB 0) (eC (.str "("))) [some (.str (ofL (List.replicate o 40++r))),some (.lst (sD S)),some (.lst (gD G)),none,none,none]=.ok [some (.str (ofL (List.replicate o 40++r))),some (.lst (sD S)),some (.lst (gD G)),some (.str (ofL (r))),none,none]:=by
  show R.bind (bif bL (ofL (List.replicate o 40++r)).length then R.ok (D.str (Txt.lstripChars (ofL (List.replicate o 40++r)) "(")) else .bad) _=_
  rw[show bL (ofL (List.replicate o 40++r)).length=true from xab (by rw[lo,lw];exact xav (show _<=20000 by omega) (by decide)),zaU o r hr];rfl
 rw[e1,R.ok_bind]
 have e2:yI [1,2] 2 (bE (qG (bP (aA (eC (.str "(")) aD)) (aC gSub (aG aY (aA (aB 0) aD)) (aG aY (aA (aB 3) aD))))) [some (.str (ofL (List.replicate o 40++r))),some (.lst (sD S)),some (.lst (gD G)),some (.str (ofL (r))),none,none]=.ok [some (.str (ofL (List.replicate o 40++r))),some (.lst (sD S)),some (.lst (gD (List.replicate o .opn++G))),some (.str (ofL (r))),none,none]:=by
  have er:bE (qG (bP (aA (eC (.str "(")) aD)) (aC gSub (aG aY (aA (aB 0) aD)) (aG aY (aA (aB 3) aD)))) [some (.str (ofL (List.replicate o 40++r))),none,none,some (.str (ofL (r))),none,none]=.ok (.lst (List.replicate o (.str "("))):=by
   have en:aC gSub (aG aY (aA (aB 0) aD)) (aG aY (aA (aB 3) aD)) [some (.str (ofL (List.replicate o 40++r))),none,none,some (.str (ofL (r))),none,none]=.ok (.int (o:Int)):=by
    kd_p
    have gl:∀l:List Nat,l.length<=20000->aY [.str (ofL l)]=.ok (.int (l.length:Int)):=fun l h=>by
     show (bif bL (ofL l).length then _ else _)=_
     rw[show bL (ofL l).length=true from xab (by rw[lo];exact xav h (by decide))]
     show R.ok (D.int ((ofL l).length:Int))=_
     rw[lo]
    rw[gl _ (by rw[lw];omega),gl _ (by omega)];kd_p
    rw[lw]
    congr 2
    omega
   show R.bind (R.bind (aC gSub (aG aY (aA (aB 0) aD)) (aG aY (aA (aB 3) aD)) [some (.str (ofL (List.replicate o 40++r))),none,none,some (.str (ofL (r))),none,none]) fun d=>tZ [.str "("] d) _=_
   rw[en]
   show R.bind (bif decide (0<=(o:Int)/\(o:Int)<=100000)&&bL (1*(o:Int).toNat) then R.ok (List.replicate (o:Int).toNat [D.str "("]).flatten else .bad) _=_
   rw[xab (by omega),show bL (1*(o:Int).toNat)=true from xab (by exact xav (show _<=100000 by omega) (by decide)),xbk]
   show R.ok (D.lst (List.replicate o [D.str "("]).flatten)=_
   rw[List.flatten_replicate_singleton]
  show R.bind (bE (qG (bP (aA (eC (.str "(")) aD)) (aC gSub (aG aY (aA (aB 0) aD)) (aG aY (aA (aB 3) aD)))) [some (.str (ofL (List.replicate o 40++r))),none,none,some (.str (ofL (r))),none,none]) _=_
  rw[er]
  show (bif bL ((gD G).length+(List.replicate o (D.str "(")).length) then R.ok _ else .bad)=_
  rw[show bL ((gD G).length+(List.replicate o (D.str "(")).length)=true from xab (by rw[oJ,xbb];exact xav (show _<=20000 by omega) (by decide)),<- zaX];rfl
 rw[e2,R.ok_bind]
end LmWl
open L2 DL Mir
namespace LmWm
open LmA LmY LmWa LmWb LmWc LmWd LmWf LmWg LmWh LmWj LmWk LmWl TxtA
abbrev nt:D:=.exc "NoText" []
theorem zaZ(s:Sg){S:List Tr}{G:List Sy}(hG:G.length<=1000)(hS:S.length<=1000)(hw:bS G+1=S.length) :
  ∃τ,iJ [.str s.str,.lst (sD S),.lst (gD G)]=.ok τ/\aK τ 1=.ok (sD (join (aI s) G S).1)/\aK τ 2=.ok (gD (.sig s::(join (aI s) G S).2)):=by
 obtain⟨j1,j2,j3,j4⟩:=mP (aI s) G S hw
 have hb:1<=aI s:=by cases s<;>decide
 rw[LU];unfold qN LS LQ eI iG
 rw[show aJ (aC eG (aB 0) (eC qM)) [some (.str s.str),some (.lst (sD S)),some (.lst (gD G))]=.ok false from by cases s<;>rfl]
 show ∃τ,R.bind (gT [1,2] 1 2 gL (fD (nY lD) (aB 0)) [some (.str s.str),some (.lst (sD S)),some (.lst (gD G))]) (nX [1,2] 2 (aB 0))=.ok τ/\_
 rw[u4 (S:=S) (G:=G) (k:=aI s) rfl rfl (N4 (.sig s)) hb hw (by omega) (by omega),R.ok_bind]
 show ∃τ,(bif most (gD (join (aI s) G S).2).length then R.ok [some (.str s.str),some (D.lst (sD (join (aI s) G S).1)),some (D.lst (gD (join (aI s) G S).2++[.str s.str]))] else .bad)=.ok τ/\_
 rw[k6 (by rw[oJ];omega),qX]
 exact⟨_,rfl,rfl,rfl⟩
end LmWm
open L2 DL Mir
namespace LmWn
open LmWb LmWf LmWj LmWk LmWl LmWm
inductive c9 where|side (o:Nat) (t:Tr) (c:Nat)|sign (s:Sg)
abbrev cO:=List Tr×List Sy
def step:c9->cO->R cO
 |.side o t c,p=>if 8<aZ p.2+o then .err nt else match cJ c (t::p.1,List.replicate o .opn++p.2) with
  |some q=>.ok q
  |none=>.bad
 |.sign s,p=>.ok ((join (aI s) p.2 p.1).1,.sig s::(join (aI s) p.2 p.1).2)
def run:List c9->cO->R cO
 |[],p=>.ok p
 |i::is,p=>(step i p).bind (run is)
theorem OA:∀(A B:List c9) (p:cO),run (A++B) p=(run A p).bind (run B)
 |[],_,_=>rfl
 |i::A,B,p=>by
  show (step i p).bind (run (A++B))=((step i p).bind (run A)).bind (run B)
  cases step i p with
  |ok q=>exact OA A B q
  |err e=>rfl
  |bad=>rfl
def kF:List c9->List c9
 |.side o t c::is=>.side (o+1) t c::is
 |is=>is
def fB:List c9->List c9
 |[]=>[]
 |[.side o t c]=>[.side o t (c+1)]
 |[.sign s]=>[.sign s]
 |i::j::is=>i::fB (j::is)
def eL(N:Nat):Bool->List c9->Prop
 |true,.side o t c::is=>Tr.leaf t=true/\dL t/\o<=N/\c<=N/\eL N false is
 |false,.sign _::is=>eL N true is
 |false,[]=>True
 |_,_=>False
theorem oO{M N:Nat}(h:M<=N):∀{b:Bool} {is:List c9},eL M b is->eL N b is
 |true,.side o t c::is,⟨h1,h2,h3,h4,h5⟩=>⟨h1,h2,by omega,by omega,oO h h5⟩
 |false,.sign _::is,h'=>oO (b:=true) (is:=is) h h'
 |false,[],_=>trivial
 |true,[],h'=>h'
 |true,.sign _::_,h'=>h'
 |false,.side _ _ _::_,h'=>h'
theorem zV{N:Nat}{s:Sg}{B:List c9}(hB:eL N true B):∀{b:Bool} {A:List c9},eL N b A->eL N b (A++.sign s::B)
 |true,.side o t c::is,⟨h1,h2,h3,h4,h5⟩=>⟨h1,h2,h3,h4,zV hB h5⟩
 |false,.sign _::is,h'=>zV (b:=true) (A:=is) hB h'
 |false,[],_=>hB
 |true,[],h'=>h'.elim
 |true,.sign _::_,h'=>h'.elim
 |false,.side _ _ _::_,h'=>h'.elim
theorem za0{N:Nat}{is:List c9}(h:eL N true is):eL (N+1) true (kF is):=by
 match is,h with
 |.side o t c::is,⟨h1,h2,h3,h4,h5⟩=>exact⟨h1,h2,by omega,by omega,oO (by omega) h5⟩
 |[],h=>exact h.elim
 |.sign _::_,h=>exact h.elim
theorem qY{N:Nat}:∀{b:Bool} {is:List c9},eL N b is->eL (N+1) b (fB is)
 |true,[.side o t c],⟨h1,h2,h3,h4,h5⟩=>⟨h1,h2,by omega,by omega,trivial⟩
 |true,.side o t c::j::is,⟨h1,h2,h3,h4,h5⟩=>⟨h1,h2,by omega,by omega,qY (b:=false) (is:=j::is) h5⟩
 |false,[],_=>trivial
 |false,[.sign s],h=>h.elim
 |false,.sign s::j::is,h=>qY (b:=true) (is:=j::is) h
 |true,[],h=>h.elim
 |true,.sign _::_,h=>h.elim
 |false,.side _ _ _::_,h=>h.elim
theorem OB:∀(n:Nat) (p:cO),cJ (n+1) p=(cJ n p).bind (cJ 1)
 |0,p=>rfl
 |n+1,p=>by
  rw[cJ]
  conv=>rhs;rw[cJ]
  cases hj:join 1 p.2 p.1 with
  |mk S G=>
   match G with
   |[]=>rfl
   |.sig _::_=>rfl
   |.opn::G=>exact OB n (S,G)
def lL(p:cO):R cO:=match cJ 1 p with
 |some q=>.ok q
 |none=>.bad
theorem za1{N:Nat}{is:List c9}(h:eL N true is)(S:List Tr)(G:List Sy):run (kF is) (S,G)=run is (S,.opn::G):=by
 match is,h with
 |.side o t c::is,_=>
  show (step (.side (o+1) t c) (S,G)).bind (run is)=(step (.side o t c) (S,.opn::G)).bind (run is)
  congr 1
  unfold step
  have e1:aZ G+(o+1)=aZ (.opn::G)+o:=by show aZ G+(o+1)=aZ G+1+o;omega
  have e2:List.replicate (o+1) Sy.opn++G=List.replicate o .opn++(.opn::G):=by rw[xda,xa5];rfl
  simp only[e1,e2]
 |[],h=>exact h.elim
 |.sign _::_,h=>exact h.elim
theorem zW{N:Nat}:∀{b:Bool} {is:List c9},eL N b is->is≠[]->∀p:cO,run (fB is) p=(run is p).bind lL
 |true,[.side o t c],_,_,p=>by
  show (step (.side o t (c+1)) p).bind (run [])=((step (.side o t c) p).bind (run [])).bind lL
  unfold step
  by_cases h:8<aZ p.2+o
  ·simp only[h,if_true];rfl
  ·simp only[h,if_false]
   rw[OB]
   cases cJ c (t::p.1,List.replicate o .opn++p.2) with
   |none=>rfl
   |some q=>
    show (match cJ 1 q with|some r=>R.ok r|none=>R.bad).bind (run [])=lL q
    unfold lL
    cases cJ 1 q<;>rfl
 |true,.side o t c::j::is,h,_,p=>by
  show (step (.side o t c) p).bind (run (fB (j::is)))=((step (.side o t c) p).bind (run (j::is))).bind lL
  cases step (.side o t c) p with
  |ok q=>exact zW (b:=false) h.2.2.2.2 nofun q
  |err e=>rfl
  |bad=>rfl
 |false,[.sign s],h,_,_=>h.elim
 |false,.sign s::j::is,h,_,p=>by
  show (step (.sign s) p).bind (run (fB (j::is)))=((step (.sign s) p).bind (run (j::is))).bind lL
  exact zW (b:=true) (is:=j::is) h nofun _
 |false,[],_,hn,_=>xag rfl hn
 |true,[],h,_,_=>h.elim
 |true,.sign _::_,h,_,_=>h.elim
 |false,.side _ _ _::_,h,_,_=>h.elim
def lM(G:List Sy)(l:Nat):Prop:=∀y∈G.head?,y.b<l
theorem za2{k:Nat}{G:List Sy}(h:lM G k)(S:List Tr):join k G S=(S,G):=by
 match G,S,h with
 |[],S,_=>exact oM k S
 |.opn::G,S,_=>exact oK k G S
 |.sig s::G,[],_=>unfold join;rfl
 |.sig s::G,[a],_=>unfold join;rfl
 |.sig s::G,b::a::S,h=>
  rw[oN,xao]
  have:aI s<k:=h (.sig s) (by simp)
  omega
def Done(l:Nat)(t:Tr)(S:List Tr)(G:List Sy)(p:cO):Prop:=(∀k,1<=k->k<=l->join k p.2 p.1=join k G (t::S))/\bS p.2+1=p.1.length/\aZ p.2=aZ G
end LmWn
open L2 DL Mir
namespace LmWo
open LmA LmY LmWa LmWb LmWc LmWd LmWf LmWg LmWh LmWj LmWk LmWl LmWm LmWn TxtA
def bC:Sg->Nat
 |.plus=>43|.minus=>45|.times=>42|.over=>47
theorem zX(s:Sg):s.str=ofL [bC s]:=by cases s<;>rfl
def c5:c9->List Nat
 |.side o t c=>c8 o t c
 |.sign s=>[bC s]
def cD:Tr->Nat->List Nat
 |.op s a b,k=>if aI s<k then 40::(flat [32] [cD a (aI s),[bC s],cD b (aI s+1)]++[41]) else flat [32] [cD a (aI s),[bC s],cD b (aI s+1)]
 |t,_=>b7 t
theorem flat_cons(y:List Nat)(r:List Nat){B:List (List Nat)}(h:B≠[]):flat y (r::B)=r++y++flat y B:=by
 cases B with
 |nil=>exact xag rfl h
 |cons b B=>rfl
theorem zY(y:List Nat){B:List (List Nat)}(hB:B≠[]):∀{A:List (List Nat)},A≠[]->flat y (A++B)=flat y A++y++flat y B
 |[],h=>xag rfl h
 |[a],_=>flat_cons y a hB
 |a::a'::A,_=>by
  rw[xbq,flat_cons y a (by simp),zY y hB (A:=a'::A) (by simp),flat_cons y a (by simp)]
  simp only[xa5]
theorem mQ{N:Nat}{is:List c9}(h:eL N true is):is≠[]:=by
 rintro rfl;exact h.elim
theorem za4{N:Nat}{is:List c9}(h:eL N true is):flat [32] ((kF is).map c5)=40::flat [32] (is.map c5):=by
 match is,h with
 |.side o t c::is,_=>
  show flat [32] (c8 (o+1) t c::is.map c5)=40::flat [32] (c8 o t c::is.map c5)
  have e:c8 (o+1) t c=40::c8 o t c:=by unfold c8;rw[xa0];rfl
  rw[e]
  cases is<;>rfl
 |[],h=>exact h.elim
 |.sign _::_,h=>exact h.elim
theorem zZ{N:Nat}:∀{b:Bool} {is:List c9},eL N b is->is≠[]->flat [32] ((fB is).map c5)=flat [32] (is.map c5)++[41]
 |true,[.side o t c],_,_=>by
  show c8 o t (c+1)=c8 o t c++[41]
  unfold c8
  rw[xda]
  simp only[xa5]
 |true,.side o t c::j::is,h,_=>by
  have ih:=zZ (b:=false) (is:=j::is) h.2.2.2.2 nofun
  have hn:fB (j::is)≠[]:=fun hz=>by rw[hz] at ih;exact xag (congrArg List.length ih) (by simp[TxtA.flat])
  show flat [32] (c8 o t c::(fB (j::is)).map c5)=flat [32] (c8 o t c::(j::is).map c5)++[41]
  rw[flat_cons _ _ (by simpa using hn),flat_cons _ _ (by simp),ih]
  simp only[xa5]
 |false,.sign s::j::is,h,_=>by
  have ih:=zZ (b:=true) (is:=j::is) h nofun
  have hn:fB (j::is)≠[]:=fun hz=>by rw[hz] at ih;exact xag (congrArg List.length ih) (by simp[TxtA.flat])
  show flat [32] ([bC s]::(fB (j::is)).map c5)=flat [32] ([bC s]::(j::is).map c5)++[41]
  rw[flat_cons _ _ (by simpa using hn),flat_cons _ _ (by simp),ih]
  simp only[xa5]
 |false,[],_,hn=>xag rfl hn
 |false,[.sign s],h,_=>h.elim
 |true,[],h,_=>h.elim
 |true,.sign _::_,h,_=>h.elim
 |false,.side _ _ _::_,h,_=>h.elim
theorem OC{N:Nat}{is:List c9}(h:eL N true is):flat [32] ((kF (fB is)).map c5)=40::(flat [32] (is.map c5)++[41]):=by
 rw[za4 (qY (b:=true) h),zZ (b:=true) h (mQ h)]
theorem z0(t:Tr):c8 0 t 0=b7 t:=by unfold c8;simp
theorem qZ:∀(t:Tr) (k:Nat),dL t->(cD t k).length+5<=15*t.many
 |.nm x,_,h=>by have:=(lK (t:=.nm x) rfl h).2.1;show (b7 (.nm x)).length+5<=15*1;omega
 |.nb x,_,h=>by have:=(lK (t:=.nb x) rfl h).2.1;show (b7 (.nb x)).length+5<=15*1;omega
 |.op s a b,k,h=>by
  have ia:=qZ a (aI s) h.1
  have ib:=qZ b (aI s+1) h.2
  have hm:(Tr.op s a b).many=a.many+b.many:=rfl
  have hb:(flat [32] [cD a (aI s),[bC s],cD b (aI s+1)]).length=(cD a (aI s)).length+(cD b (aI s+1)).length+3:=by
   simp only[TxtA.flat,xak,xan,xbs];omega
  unfold cD
  by_cases hk:aI s<k
  ·rw[xau hk];simp only[xak,xan,xbs,hb];omega
  ·rw[xao hk,hb];omega
theorem rA(s:Sg):bC s≠40/\bC s≠41:=by cases s<;>decide
theorem z9:∀(t:Tr) (n:Nat) (k:Nat),dL t->t.many<=n->t.many<=1000->jP n [t.d,.int (k:Int)]=.ok (.str (ofL (cD t k)))
 |.nm x,n,k,hg,hn,_=>by
  obtain⟨j,rfl⟩:∃j,n=j+1:=⟨n-1,by have:1<=n:=hn;omega⟩
  rw[y7];unfold lF;kd_p
  unfold Tr.d;simp only[qV,qW];kd_p
  rw[show bG (.str "name") (.str "name")=.ok (.bl true) from rfl];kd_p
  simp only[qV,qW];kd_p
  show R.ok (D.str x)=.ok (.str (ofL x.cps.toList))
  obtain⟨l,rfl,_⟩:=hg.ex
  simp[ofL]
 |.nb i,n,k,hg,hn,_=>by
  obtain⟨j,rfl⟩:∃j,n=j+1:=⟨n-1,by have:1<=n:=hn;omega⟩
  obtain⟨h1,h2⟩:=hg
  obtain⟨m,rfl⟩:∃m:Nat,i=(m:Int):=⟨i.toNat,by omega⟩
  rw[y7];unfold lF y6;kd_p
  unfold Tr.d;simp only[qV,qW];kd_p
  rw[show bG (.str "number") (.str "name")=.ok (.bl false) from rfl];kd_p
  simp only[qV,qW];kd_p
  rw[show bG (.str "number") (.str "number")=.ok (.bl true) from rfl];kd_p
  simp only[qV,qW];kd_p
  have hm:m<10^10:=by omega
  rw[zaD (xap hm (by decide))];kd_p
  rfl
 |.op s a b,n,k,hg,hn,h2=>by
  have pa:=a.pos
  have pb:=b.pos
  have hm:(Tr.op s a b).many=a.many+b.many:=rfl
  obtain⟨j,rfl⟩:∃j,n=j+1:=⟨n-1,by omega⟩
  have la:=qZ a (aI s) hg.1
  have lb:=qZ b (aI s+1) hg.2
  rw[y7];unfold lF y6 MT;kd_p
  unfold Tr.d;kd_p
  rw[show bG (.str s.str) (.str "name")=.ok (.bl false) from by cases s<;>rfl];kd_p
  rw[show bG (.str s.str) (.str "number")=.ok (.bl false) from by cases s<;>rfl];kd_p
  obtain⟨bb,hbb,hcl⟩:∃bb,cV (.str s.str) (.str "*/")=.ok (.bl bb)/\(1+if bb=true then (1:Int) else 0)=(aI s:Int):=by
   cases s
   ·exact⟨false,by show R.ok (D.bl _)=_;congr 2;decide +kernel,rfl⟩
   ·exact⟨false,by show R.ok (D.bl _)=_;congr 2;decide +kernel,rfl⟩
   ·exact⟨true,by show R.ok (D.bl _)=_;congr 2;decide +kernel,rfl⟩
   ·exact⟨true,by show R.ok (D.bl _)=_;congr 2;decide +kernel,rfl⟩
  rw[hbb];kd_p
  rw[hcl]
  have ea:=z9 a j (aI s) hg.1 (by omega) (by omega)
  have eb:=z9 b j (aI s+1) hg.2 (by omega) (by omega)
  rw[show ((aI s+1:Nat):Int)=(aI s:Int)+1 by omega] at eb
  have hj:yC (eC (.str " ")) (bE (bP (aA (a7 (jP j) (aA (aC aW (aB 0) (eC (.int 1))) (aA (aB 2) aD))) (aA (aC aW (aB 0) (eC (.int 0))) (aA (a7 (jP j) (aA (aC aW (aB 0) (eC (.int 2))) (aA (aC aL (aB 2) (eC (.int 1))) aD))) aD))))) [some (.tup [.str s.str,a.d,b.d]),some (.int (k:Int)),some (.int (aI s:Int)),none]=.ok (.str (ofL (TxtA.flat [32] [cD a (aI s),[bC s],cD b (aI s+1)]))):=by
   show ((bE (bP (aA (a7 (jP j) (aA (aC aW (aB 0) (eC (.int 1))) (aA (aB 2) aD))) (aA (aC aW (aB 0) (eC (.int 0))) (aA (a7 (jP j) (aA (aC aW (aB 0) (eC (.int 2))) (aA (aC aL (aB 2) (eC (.int 1))) aD))) aD))))) [some (.tup [.str s.str,a.d,b.d]),some (.int (k:Int)),some (.int (aI s:Int)),none]).bind (fun x=>jK (.str " ") x)=_
   kd_p
   rw[ea,eb];kd_p
   rw[zX]
   show jK (.str (ofL [32])) (.lst (([cD a (aI s),[bC s],cD b (aI s+1)].map ofL).map D.str))=_
   refine LmY.join_ok (B:=15000) (fun r hr=>?_) (by show 3*15000+3*1<=10000000;decide)
   simp only[xal,xa2,or_false] at hr
   rcases hr with rfl|rfl|rfl
   ·omega
   ·simp
   ·omega
  have hfl:(TxtA.flat [32] [cD a (aI s),[bC s],cD b (aI s+1)]).length=(cD a (aI s)).length+(cD b (aI s+1)).length+3:=by
   simp only[TxtA.flat,xak,xan,xbs];omega
  rw[cD]
  generalize TxtA.flat [32] [cD a (aI s),[bC s],cD b (aI s+1)]=L at hj hfl
  unfold MS
  rw[c4,jG]
  rw[hj];kd_p
  unfold MR MQ;kd_p
  by_cases hc:aI s<k
  ·rw[xab (by omega),xau hc];kd_p
   rw[show (D.str "(")=.str (ofL [40]) from rfl,dC (by simp;omega)];kd_p
   rw[show (D.str ")")=.str (ofL [41]) from rfl,dC (by simp;omega)];kd_p
   rfl
  ·rw[xae (by omega),xao hc];kd_p
theorem za5:∀is:List c9,(kF is).length=is.length
 |[]=>rfl
 |.side _ _ _::_=>rfl
 |.sign _::_=>rfl
theorem AA:∀is:List c9,(fB is).length=is.length
 |[]=>rfl
 |[.side _ _ _]=>rfl
 |[.sign _]=>rfl
 |.side _ _ _::j::is=>by show (fB (j::is)).length+1=_;rw[AA (j::is)];rfl
 |.sign _::j::is=>by show (fB (j::is)).length+1=_;rw[AA (j::is)];rfl
theorem mR(s:Sg):1<=aI s:=by cases s<;>decide
theorem AB{N:Nat}:∀{b:Bool} {is:List c9},eL N b is->∀r∈is.map c5,32∉r/\r.length<=2*N+9
 |true,.side o t c::is,⟨h1,h2,h3,h4,h5⟩,r,hr=>by
  rw[xbl] at hr
  rcases xal.mp hr with rfl|hr
  ·obtain⟨a1,a2,a3⟩:=lK h1 h2
   show 32∉c8 o t c/\(c8 o t c).length<=_
   unfold c8
   refine⟨fun hm=>?_,by simp;omega⟩
   rcases xbn.mp hm with hm|hm
   ·exact xag (xcd hm) (by decide)
   rcases xbn.mp hm with hm|hm
   ·exact(a3 32 hm).2.2 rfl
   ·exact xag (xcd hm) (by decide)
  ·exact AB h5 r hr
 |false,.sign s::is,h,r,hr=>by
  rw[xbl] at hr
  rcases xal.mp hr with rfl|hr
  ·show 32∉[bC s]/\1<=_
   refine⟨?_,by omega⟩
   cases s<;>decide
  ·exact AB (b:=true) h r hr
 |false,[],_,r,hr=>by simp at hr
 |true,[],h,_,_=>h.elim
 |true,.sign _::_,h,_,_=>h.elim
 |false,.side _ _ _::_,h,_,_=>h.elim
end LmWo
open L2 DL Mir
namespace LmXa
open LmWb LmWf LmWj LmWk LmWl LmWm LmWn LmWo
inductive Pt where|leaf (t:Tr)|brk (p:Pt)|op (s:Sg) (a b:Pt)
def Pt.tree:Pt->Tr
 |.leaf t=>t|.brk p=>p.tree|.op s a b=>.op s a.tree b.tree
def Pt.text:Pt->List Nat
 |.leaf t=>b7 t
 |.brk p=>40::(p.text++[41])
 |.op s a b=>a.text++32::bC s::32::b.text
def Pt.lev:Pt->Nat
 |.leaf _=>3|.brk _=>3|.op s _ _=>aI s
def Pt.gram:Pt->Prop
 |.leaf t=>Tr.leaf t=true/\dL t
 |.brk p=>p.gram
 |.op s a b=>a.gram/\b.gram/\aI s<=a.lev/\aI s<b.lev
def Pt.dep:Pt->Nat
 |.leaf _=>0|.brk p=>p.dep+1|.op _ a b=>max a.dep b.dep
def Pt.ops:Pt->Nat
 |.leaf _=>0|.brk p=>p.ops|.op _ a b=>a.ops+b.ops+1
def Pt.size:Pt->Nat
 |.leaf _=>0|.brk p=>p.size+1|.op _ a b=>a.size+b.size+1
def tr(S:List Pt):List Tr:=S.map Pt.tree
theorem AC(s:Sg):aI s<3:=by cases s<;>decide
def pre:List Pt->List Sy->List Nat
 |S,.opn::G=>pre S G++[40]
 |p::S,.sig s::G=>pre S G++(p.text++[32,bC s,32])
 |_,_=>[]
def gM:List Pt->List Sy->Prop
 |S,.opn::G=>gM S G
 |p::S,.sig s::G=>gM S G/\p.gram/\aI s<=p.lev/\aZ G+p.dep<=8/\lM G (aI s)
 |[],[]=>True
 |_,_=>False
structure lN(p:Pt)(S:List Pt)(G:List Sy):Prop where
 wf:gM S G
 gr:p.gram
 top:lM G p.lev
 dep:aZ G+p.dep<=8
def done(p:Pt)(S:List Pt)(G:List Sy):List Nat:=pre S G++p.text
theorem gM.opn{S:List Pt}{G:List Sy}:gM S (.opn::G)↔gM S G:=by cases S<;>exact Iff.rfl
theorem OE(S:List Pt)(G:List Sy):pre S (.opn::G)=pre S G++[40]:=by cases S<;>rfl
theorem u8{k:Nat}(hk:1<=k):∀(G:List Sy) (p:Pt) (S:List Pt),lN p S G->k<=p.lev->
  ∃p' S' G',join k G (p.tree::tr S)=(p'.tree::tr S',G')/\lN p' S' G'/\done p' S' G'=done p S G/\lM G' k/\k<=p'.lev
 |[],p,S,h,hl=>⟨p,S,[],oM _ _,h,rfl,fun y hy=>by simp at hy,hl⟩
 |.opn::G,p,S,h,hl=>⟨p,S,.opn::G,oK _ _ _,h,rfl,fun y hy=>by
   have:y=.opn:=by simpa using hy.symm
   rw[this];show 0<k;omega,hl⟩
 |.sig s::G,p,[],h,hl=>h.wf.elim
 |.sig s::G,p,a::S,h,hl=>by
  obtain⟨w1,w2,w3,w4,w5⟩:=h.wf
  have ht:aI s<p.lev:=h.top (.sig s) (by simp)
  have hd:aZ G+p.dep<=8:=h.dep
  show ∃p' S' G',join k (.sig s::G) (p.tree::a.tree::tr S)=_/\_
  rw[oN]
  by_cases hks:k<=aI s
  ·rw[xau hks]
   obtain⟨p',S',G',e1,e2,e3,e4⟩:=u8 hk G (.op s a p) S ⟨w1,⟨w2,h.gr,w3,ht⟩,w5,by show aZ G+max a.dep p.dep<=8;omega⟩ hks
   refine⟨p',S',G',e1,e2,e3.trans ?_,e4⟩
   show pre S G++(a.text++32::bC s::32::p.text)=pre S G++(a.text++[32,bC s,32])++p.text
   simp
  ·rw[xao hks]
   refine⟨p,a::S,.sig s::G,rfl,h,rfl,fun y hy=>?_,hl⟩
   have:y=.sig s:=by simpa using hy.symm
   rw[this];show aI s<k;omega
theorem OF:∀(c:Nat) (G:List Sy) (p:Pt) (S:List Pt) (q:cO),lN p S G->p.lev=3->cJ c (p.tree::tr S,G)=some q->
  ∃p' S',q.1=p'.tree::tr S'/\lN p' S' q.2/\p'.lev=3/\done p' S' q.2=done p S G++List.replicate c 41
 |0,G,p,S,q,h,h3,hc=>by cases hc;exact⟨p,S,rfl,h,h3,by simp⟩
 |c+1,G,p,S,q,h,h3,hc=>by
  obtain⟨p1,S1,G1,e1,e2,e3,e4,e5⟩:=u8 (k:=1) (xaf _) G p S h (by omega)
  rw[cJ] at hc
  simp only[e1] at hc
  match G1,e2,e3,hc with
  |[],_,_,hc=>cases hc
  |.sig _::_,_,_,hc=>cases hc
  |.opn::G2,e2,e3,hc=>
   have hc:cJ c ((Pt.brk p1).tree::tr S1,G2)=some q:=hc
   have hd:aZ G2+1+p1.dep<=8:=e2.dep
   obtain⟨p',S',f1,f2,f3,f4⟩:=OF c G2 (.brk p1) S1 q ⟨gM.opn.mp e2.wf,e2.gr,fun y _=>by
    cases y with
    |opn=>show 0<3;decide
    |sig s=>exact AC s,by show aZ G2+(p1.dep+1)<=8;omega⟩ rfl hc
   refine⟨p',S',f1,f2,f3,f4.trans ?_⟩
   rw[<- e3]
   show pre S1 G2++40::(p1.text++[41])++_=pre S1 (.opn::G2)++p1.text++_
   rw[OE,xa0]
   simp
theorem AD:∀(o:Nat) (S:List Pt) (G:List Sy),(gM S (List.replicate o Sy.opn++G)↔gM S G)/\pre S (List.replicate o Sy.opn++G)=pre S G++List.replicate o 40
 |0,S,G=>by simp
 |o+1,S,G=>by
  obtain⟨h1,h2⟩:=AD o S G
  rw[xa0,xbq,OE,h2,xa5,<- xda]
  exact⟨gM.opn.trans h1,rfl⟩
theorem za6{o c:Nat}{t:Tr}{S:List Pt}{G:List Sy}{q:cO}(hl:Tr.leaf t=true)(hg:dL t)(h:gM S G)(ho:aZ G+o<=8)(hc:cJ c (t::tr S,List.replicate o Sy.opn++G)=some q) :
  ∃p S',q.1=p.tree::tr S'/\lN p S' q.2/\p.lev=3/\done p S' q.2=pre S G++c8 o t c:=by
 obtain⟨p,S',f1,f2,f3,f4⟩:=OF c (List.replicate o Sy.opn++G) (.leaf t) S q ⟨(AD o S G).1.mpr h,⟨hl,hg⟩,fun y _=>by
  cases y with
  |opn=>show 0<3;decide
  |sig s=>exact AC s,by rw[u7];show o+aZ G+0<=8;omega⟩ rfl hc
 refine⟨p,S',f1,f2,f3,f4.trans ?_⟩
 unfold done c8
 rw[(AD o S G).2]
 show pre S G++List.replicate o 40++b7 t++_=_
 simp
theorem za7(s:Sg){p:Pt}{S:List Pt}{G:List Sy}(h:lN p S G)(h3:p.lev=3) :
  ∃S' G',((join (aI s) G (p.tree::tr S)).1,Sy.sig s::(join (aI s) G (p.tree::tr S)).2)=(tr S',G')/\gM S' G'/\pre S' G'=done p S G++[32,bC s,32]:=by
 obtain⟨p',S',G',e1,e2,e3,e4,e5⟩:=u8 (mR s) G p S h (by have:=AC s;omega)
 refine⟨p'::S',.sig s::G',by rw[e1];rfl,⟨e2.wf,e2.gr,e5,e2.dep,e4⟩,?_⟩
 rw[<- e3]
 show pre S' G'++(p'.text++_)=pre S' G'++p'.text++_
 rw[xa5]
def dW:Pt->List c9
 |.leaf t=>[.side 0 t 0]
 |.brk p=>kF (fB (dW p))
 |.op s a b=>dW a++.sign s::dW b
theorem jR:∀(p:Pt),p.gram->eL (2*p.size+1) true (dW p)
 |.leaf t,h=>⟨h.1,h.2,by omega,by omega,trivial⟩
 |.brk p,h=>by
  have hc:=qY (b:=true) (jR p h)
  exact oO (by show 2*p.size+1+1+1<=2*(p.size+1)+1;omega) (za0 hc)
 |.op s a b,h=>zV (oO (by show 2*b.size+1<=2*(a.size+b.size+1)+1;omega) (jR b h.2.1)) (oO (by show 2*a.size+1<=2*(a.size+b.size+1)+1;omega) (jR a h.1))
theorem u9:∀(p:Pt),p.gram->TxtA.flat [32] ((dW p).map c5)=p.text
 |.leaf t,_=>z0 t
 |.brk p,h=>by
  have:=u9 p h
  show TxtA.flat [32] ((kF (fB (dW p))).map c5)=_
  rw[OC (jR p h),this];rfl
 |.op s a b,h=>by
  have na:=mQ (jR a h.1)
  have nb:=mQ (jR b h.2.1)
  show TxtA.flat [32] ((dW a++.sign s::dW b).map c5)=_
  rw[xbf,zY _ (by simp) (by simpa using na),u9 a h.1]
  show _++TxtA.flat [32] ([bC s]::(dW b).map c5)=_
  rw[flat_cons _ _ (by simpa using nb),u9 b h.2.1]
  show _=a.text++32::bC s::32::b.text
  simp
theorem vA:∀(t:Pt) (l:Nat) (S:List Tr) (G:List Sy),t.gram->1<=l->l<=t.lev->lM G l->bS G=S.length->aZ G+t.dep<=8->
  ∃p,run (dW t) (S,G)=.ok p/\Done l t.tree S G p
 |.leaf x,l,S,G,hg,hl,hv,ht,hs,h=>by
  refine⟨(x::S,G),?_,fun k _ _=>rfl,by show bS G+1=S.length+1;omega,rfl⟩
  show (if 8<aZ G+0 then R.err nt else R.ok (x::S,G)).bind (run [])=_
  rw[xao (by have:aZ G+0<=8:=h;omega)];rfl
 |.brk t,l,S,G,hg,hl,hv,ht,hs,h=>by
  have ai:=jR t hg
  have ht2:lM (.opn::G) 1:=fun y hy=>by
   have:y=.opn:=by simpa using hy.symm
   rw[this];show 0<1;omega
  have h:aZ G+(t.dep+1)<=8:=h
  have lv:1<=t.lev:=by
   cases t with
   |leaf _=>show 1<=3;decide
   |brk _=>show 1<=3;decide
   |op s _ _=>exact mR s
  obtain⟨p,e1,d1,d2,d3⟩:=vA t 1 S (.opn::G) hg (xaf _) lv ht2 hs (by show aZ G+1+t.dep<=8;omega)
  refine⟨(t.tree::S,G),?_,fun k _ _=>rfl,by show bS G+1=S.length+1;omega,rfl⟩
  show run (kF (fB (dW t))) (S,G)=_
  rw[za1 (qY (b:=true) ai),zW (b:=true) ai (mQ ai),e1]
  show lL p=_
  unfold lL cJ
  rw[d1 1 (xaf _) (xaf _),oK];rfl
 |.op s a b,l,S,G,hg,hl,hv,ht,hs,h=>by
  have hb1:=mR s
  have hv:l<=aI s:=hv
  have h:aZ G+max a.dep b.dep<=8:=h
  have ht':lM G (aI s):=fun y hy=>xap (ht y hy) hv
  have ht1:lM (.sig s::G) (aI s+1):=fun y hy=>by
   have:y=.sig s:=by simpa using hy.symm
   rw[this];show aI s<aI s+1;omega
  obtain⟨p,e1,d1,d2,d3⟩:=vA a (aI s) S G hg.1 hb1 hg.2.2.1 ht' hs (by omega)
  obtain⟨q,f1,f2,f3,f4⟩:=vA b (aI s+1) (a.tree::S) (.sig s::G) hg.2.1 (by omega) hg.2.2.2 ht1 (by show bS G+1=S.length+1;omega) (by show aZ G+b.dep<=8;omega)
  refine⟨q,?_,fun k hk1 hk2=>?_,f3,by rw[f4];rfl⟩
  ·show run (dW a++.sign s::dW b) (S,G)=_
   rw[OA,e1]
   show (step (.sign s) p).bind (run (dW b))=_
   have hst:step (.sign s) p=.ok (a.tree::S,.sig s::G):=by
    show R.ok ((join (aI s) p.2 p.1).1,.sig s::(join (aI s) p.2 p.1).2)=_
    rw[d1 (aI s) hb1 (xaf _),za2 ht']
   rw[hst]
   exact f1
  ·rw[f2 k hk1 (by omega),oN,xau (by omega)];rfl
theorem rB:∀(p:Pt),(dW p).length=2*p.ops+1
 |.leaf _=>rfl
 |.brk p=>by show (kF (fB (dW p))).length=_;rw[za5,AA,rB p];rfl
 |.op s a b=>by
  show (dW a++.sign s::dW b).length=2*(a.ops+b.ops+1)+1
  rw[xak,xan,rB a,rB b];omega
end LmXa
open L2 DL Mir
namespace LmXb
open LmWb LmWf LmWj LmWk LmWl LmWm LmWn LmWo LmXa
def cW:Nat->Nat->Bool
 |1,c=>c==43||c==45
 |2,c=>c==42||c==47
 |_,_=>false
def oP(c:Nat):Option Sg:=if c=43 then some .plus else if c=45 then some .minus else if c=42 then some .times else if c=47 then some .over else none
theorem rC(s:Sg):oP (bC s)=some s:=by cases s<;>rfl
theorem za8(k:Nat)(s:Sg)(h:aI s≠k):cW k (bC s)=false:=by
 match k with
 |0=>rfl
 |1=>cases s<;>first|rfl|exact xag rfl h
 |2=>cases s<;>first|rfl|exact xag rfl h
 |k+3=>rfl
theorem za9(s:Sg):cW (aI s) (bC s)=true:=by cases s<;>rfl
theorem rD{k c:Nat}(h:cW k c=true):∃s,c=bC s/\aI s=k:=by
 match k with
 |0=>cases h
 |1=>
  have:c=43\/c=45:=by simpa [cW] using h
  rcases this with rfl|rfl
  ·exact⟨.plus,rfl,rfl⟩
  ·exact⟨.minus,rfl,rfl⟩
 |2=>
  have:c=42\/c=47:=by simpa [cW] using h
  rcases this with rfl|rfl
  ·exact⟨.times,rfl,rfl⟩
  ·exact⟨.over,rfl,rfl⟩
 |k+3=>cases h
def dd(d:Int)(c:Nat):Int:=d+(if c=40 then 1 else 0)-(if c=41 then 1 else 0)
theorem jS{c:Nat}(h:c≠40/\c≠41)(d:Int):dd d c=d:=by unfold dd;rw[xao h.1,xao h.2];omega
def dp(l:List Nat):Int:=l.foldl dd 0
theorem OG(d:Int):∀(l:List Nat) (e:Int),l.foldl dd (d+e)=d+l.foldl dd e
 |[],_=>rfl
 |c::l,e=>by
  rw[xc7,xc7,<- OG d l]
  congr 1
  unfold dd
  omega
theorem oQ(a b:List Nat):dp (a++b)=dp a+dp b:=by
 unfold dp
 rw[xc1]
 have:=OG (a.foldl dd 0) b 0
 rw[Int.add_zero] at this
 exact this
def dA(k:Nat):Option Nat->Int->Nat->Option Nat->List Nat->Option Nat
 |_,_,_,acc,[]=>acc
 |pv,d,i,acc,c::r=>dA k (some c) (dd d c) (i+1) (if dd d c=0/\cW k c=true/\pv=some 32/\r.head? = some 32 then some i else acc) r
def last(k:Nat)(l:List Nat):Option Nat:=dA k none 0 0 none l
def Hit(k:Nat)(l:List Nat)(i:Nat):Prop:=∃l1 c l2,l=l1++32::c::32::l2/\i=l1.length+1/\cW k c=true/\dp l1=0
theorem AE{k c:Nat}(h:cW k c=true):c≠40/\c≠41:=by
 obtain⟨s,rfl,_⟩:=rD h
 exact rA s
theorem zba(k:Nat)(m:List Nat)(c:Nat)(r:List Nat):Hit k (m++c::r) m.length↔(dd (dp m) c=0/\cW k c=true/\m.getLast? = some 32/\r.head? = some 32):=by
 constructor
 ·rintro⟨l1,c1,l2,e,hi,hs,hd⟩
  have e':m++c::r=(l1++[32])++c1::32::l2:=by rw[e];simp
  obtain⟨rfl,e2⟩:=List.append_inj e' (by simp;omega)
  injection e2 with e3 e4
  subst e3 e4
  refine⟨?_,hs,by simp,rfl⟩
  rw[jS (AE hs),oQ,hd];rfl
 ·rintro⟨h1,h2,h3,h4⟩
  rw[jS (AE h2)] at h1
  obtain⟨l1,rfl⟩:∃l1,m=l1++[32]:=by
   obtain⟨l1,e⟩:=xcw.mp h3
   exact⟨l1,e⟩
  obtain⟨l2,rfl⟩:∃l2,r=32::l2:=by
   cases r with
   |nil=>cases h4
   |cons x r=>injection h4 with h4;subst h4;exact⟨r,rfl⟩
  refine⟨l1,c,l2,by simp,by simp,h2,?_⟩
  rw[oQ] at h1
  have:dp [32]=0:=rfl
  omega
theorem AF(k:Nat):∀(r m:List Nat) (acc:Option Nat),
  (dA k m.getLast? (dp m) m.length acc r=acc/\∀i,Hit k (m++r) i->i<m.length)\/(∃i,dA k m.getLast? (dp m) m.length acc r=some i/\m.length<=i/\Hit k (m++r) i/\∀j,Hit k (m++r) j->j<=i)
 |[],m,acc=>.inl ⟨rfl,fun i ⟨l1,c,l2,e,hi,_⟩=>by
   rw[xbh] at e
   rw[e,hi];simp⟩
 |c::r,m,acc=>by
  have em:m++c::r=(m++[c])++r:=by simp
  have e1:(m++[c]).getLast? = some c:=by simp
  have e2:dp (m++[c])=dd (dp m) c:=by unfold dp;rw[xc1];rfl
  have e3:(m++[c]).length=m.length+1:=by simp
  have hf:=zba k m c r
  have ih:=fun acc=>AF k r (m++[c]) acc
  rw[e1,e2,e3,<- em] at ih
  rw[dA]
  by_cases hc:dd (dp m) c=0/\cW k c=true/\m.getLast? = some 32/\r.head? = some 32
  ·rw[xau hc]
   rcases ih (some m.length) with⟨h1,h2⟩|⟨i,h1,h2,h3,h4⟩
   ·exact .inr ⟨m.length,h1,xaf _,hf.mpr hc,fun j hj=>by have:=h2 j hj;omega⟩
   ·exact .inr ⟨i,h1,by omega,h3,h4⟩
  ·rw[xao hc]
   rcases ih acc with⟨h1,h2⟩|⟨i,h1,h2,h3,h4⟩
   ·refine .inl ⟨h1,fun i hi=>?_⟩
    have:=h2 i hi
    rcases Nat.lt_or_ge i m.length with h|h
    ·exact h
    ·have:i=m.length:=by omega
     subst this
     exact xag (hf.mp hi) hc
   ·exact .inr ⟨i,h1,by omega,h3,h4⟩
theorem rE{k:Nat}{l:List Nat}:last k l=none↔∀i,¬Hit k l i:=by
 have h:(last k l=none/\∀i,Hit k l i->i<0)\/(∃i,last k l=some i/\0<=i/\Hit k l i/\∀j,Hit k l j->j<=i):=AF k l [] none
 rcases h with⟨h1,h2⟩|⟨i,h1,_,h3,h4⟩
 ·exact⟨fun _ i hi=>by have:=h2 i hi;omega,fun _=>h1⟩
 ·rw[h1]
  exact⟨fun h=>(by cases h),fun h=>xag h3 (h i)⟩
theorem vB{k:Nat}{l:List Nat}{i:Nat}(h:last k l=some i):Hit k l i/\∀j,Hit k l j->j<=i:=by
 have h':(last k l=none/\∀i,Hit k l i->i<0)\/(∃i,last k l=some i/\0<=i/\Hit k l i/\∀j,Hit k l j->j<=i):=AF k l [] none
 rcases h' with⟨h1,h2⟩|⟨j,h1,_,h3,h4⟩
 ·rw[h] at h1;cases h1
 ·rw[h] at h1;cases h1;exact⟨h3,h4⟩
theorem AG(k:Nat)(d:Int)(r:List Nat):∀(l:List Nat) (pv:Option Nat) (i:Nat) (acc:Option Nat),(∀c∈l,(c≠40/\c≠41)/\cW k c=false)->∃pv',dA k pv d i acc (l++r)=dA k pv' d (i+l.length) acc r
 |[],pv,i,acc,_=>⟨pv,rfl⟩
 |c::l,pv,i,acc,h=>by
  obtain⟨h1,h2⟩:=h c (by simp)
  obtain⟨pv',e⟩:=AG k d r l (some c) (i+1) acc (fun x hx=>h x (by simp[hx]))
  refine⟨pv',?_⟩
  rw[xbq,dA,jS h1,xao (by rw[h2];simp),e,xan]
  congr 1
  omega
theorem vC{t:Tr}(hl:Tr.leaf t=true)(hg:dL t)(k:Nat):∀c∈b7 t,(c≠40/\c≠41)/\cW k c=false:=fun c hc=>by
 obtain⟨h1,h2,h3⟩:=lK hl hg
 refine⟨⟨(h3 c hc).1,(h3 c hc).2.1⟩,?_⟩
 have:(97<=c/\c<=122)\/(48<=c/\c<=57):=by
  cases t with
  |nm x=>
   obtain⟨l,rfl,_,_,q⟩:=hg.ex
   exact .inl (q c (by simpa [b7,TxtA.ofL] using hc))
  |nb i=>exact .inr (TxtA.digs_all i.toNat c hc)
  |op _ _ _=>cases hl
 match k with
 |0=>rfl
 |1=>show (c==43||c==45)=false;rw[beq_eq_false_iff_ne.mpr (by omega),beq_eq_false_iff_ne.mpr (by omega)];rfl
 |2=>show (c==42||c==47)=false;rw[beq_eq_false_iff_ne.mpr (by omega),beq_eq_false_iff_ne.mpr (by omega)];rfl
 |k+3=>rfl
theorem iX(k:Nat)(pv:Option Nat)(d:Int)(i:Nat)(acc:Option Nat)(c:Nat)(r:List Nat)(h:dd d c≠0\/cW k c=false):dA k pv d i acc (c::r)=dA k (some c) (dd d c) (i+1) acc r:=by
 rw[dA,xao]
 rintro⟨h1,h2,_⟩
 rcases h with h|h
 ·exact h h1
 ·rw[h] at h2;cases h2
theorem rF(k:Nat):cW k 32=false/\cW k 40=false/\cW k 41=false:=by
 match k with
 |0=>exact⟨rfl,rfl,rfl⟩
 |1=>exact⟨rfl,rfl,rfl⟩
 |2=>exact⟨rfl,rfl,rfl⟩
 |k+3=>exact⟨rfl,rfl,rfl⟩
theorem mS(k:Nat):∀(p:Pt),p.gram->∀(d:Int),(1<=d\/(d=0/\k<p.lev))->∀(pv:Option Nat) (i:Nat) (acc:Option Nat) (r:List Nat),∃pv',dA k pv d i acc (p.text++r)=dA k pv' d (i+p.text.length) acc r
 |.leaf t,hg,d,hd,pv,i,acc,r=>AG k d r (b7 t) pv i acc (vC hg.1 hg.2 k)
 |.brk p,hg,d,hd,pv,i,acc,r=>by
  obtain⟨s1,s2,s3⟩:=rF k
  obtain⟨pv',e⟩:=mS k p hg (d+1) (.inl (by omega)) (some 40) (i+1) acc (41::r)
  refine⟨some 41,?_⟩
  show dA k pv d i acc (40::(p.text++[41])++r)=_
  rw[show 40::(p.text++[41])++r=40::(p.text++41::r) by simp,iX _ _ _ _ _ _ _ (.inr s2),show dd d 40=d+1 by unfold dd;simp,e,iX _ _ _ _ _ _ _ (.inr s3),show dd (d+1) 41=d by unfold dd;simp]
  congr 1
  show i+1+p.text.length+1=i+(40::(p.text++[41])).length
  simp;omega
 |.op s a b,hg,d,hd,pv,i,acc,r=>by
  obtain⟨s1,s2,s3⟩:=rF k
  have hb:aI s<=a.lev:=hg.2.2.1
  have hb':aI s<b.lev:=hg.2.2.2
  have hd':1<=d\/(d=0/\k<aI s):=hd
  obtain⟨pv1,e1⟩:=mS k a hg.1 d (by rcases hd' with h|⟨h,h'⟩;exact .inl h;exact .inr ⟨h,by omega⟩) pv i acc (32::bC s::32::(b.text++r))
  obtain⟨pv2,e2⟩:=mS k b hg.2.1 d (by rcases hd' with h|⟨h,h'⟩;exact .inl h;exact .inr ⟨h,by omega⟩) (some 32) (i+a.text.length+3) acc r
  refine⟨pv2,?_⟩
  show dA k pv d i acc (a.text++32::bC s::32::b.text++r)=_
  rw[show a.text++32::bC s::32::b.text++r=a.text++32::bC s::32::(b.text++r) by simp,e1,iX _ _ _ _ _ _ _ (.inr s1),show dd d 32=d from jS (by decide) d,iX _ _ _ _ _ _ _ (by
   rcases hd' with h|⟨h,h'⟩
   ·exact .inl (by rw[jS (rA s)];omega)
   ·exact .inr (za8 k s (by omega))),jS (rA s),iX _ _ _ _ _ _ _ (.inr s1),show dd d 32=d from jS (by decide) d,e2]
  congr 1
  show i+a.text.length+3+b.text.length=i+(a.text++32::bC s::32::b.text).length
  simp;omega
theorem AH(k:Nat):∀(p:Pt),p.gram->∀(pv:Option Nat) (i:Nat) (acc:Option Nat) (r:List Nat),∃pv' acc',dA k pv 0 i acc (p.text++r)=dA k pv' 0 (i+p.text.length) acc' r
 |.leaf t,hg,pv,i,acc,r=>by
  obtain⟨pv',e⟩:=AG k 0 r (b7 t) pv i acc (vC hg.1 hg.2 k)
  exact⟨pv',acc,e⟩
 |.brk p,hg,pv,i,acc,r=>by
  by_cases hk:k<3
  ·obtain⟨pv',e⟩:=mS k (.brk p) hg 0 (.inr ⟨rfl,hk⟩) pv i acc r
   exact⟨pv',acc,e⟩
  ·obtain⟨s1,s2,s3⟩:=rF k
   obtain⟨pv',e⟩:=mS k p hg 1 (.inl (by omega)) (some 40) (i+1) acc (41::r)
   refine⟨some 41,acc,?_⟩
   show dA k pv 0 i acc (40::(p.text++[41])++r)=_
   rw[show 40::(p.text++[41])++r=40::(p.text++41::r) by simp,iX _ _ _ _ _ _ _ (.inr s2),show dd 0 40=1 from rfl,e,iX _ _ _ _ _ _ _ (.inr s3),show dd 1 41=0 from rfl]
   congr 1
   show i+1+p.text.length+1=i+(40::(p.text++[41])).length
   simp;omega
 |.op s a b,hg,pv,i,acc,r=>by
  obtain⟨s1,s2,s3⟩:=rF k
  obtain⟨pv1,acc1,e1⟩:=AH k a hg.1 pv i acc (32::bC s::32::(b.text++r))
  have e0:∃acc2,dA k (some 32) 0 (i+a.text.length+1) acc1 (bC s::32::(b.text++r))=dA k (some (bC s)) 0 (i+a.text.length+2) acc2 (32::(b.text++r)):=by
   rw[dA,jS (rA s)];exact⟨_,rfl⟩
  obtain⟨acc2,e0⟩:=e0
  obtain⟨pv2,acc3,e2⟩:=AH k b hg.2.1 (some 32) (i+a.text.length+3) acc2 r
  refine⟨pv2,acc3,?_⟩
  show dA k pv 0 i acc (a.text++32::bC s::32::b.text++r)=_
  rw[show a.text++32::bC s::32::b.text++r=a.text++32::bC s::32::(b.text++r) by simp,e1,iX _ _ _ _ _ _ _ (.inr s1),show dd 0 32=0 from rfl,e0,iX _ _ _ _ _ _ _ (.inr s1),show dd 0 32=0 from rfl,e2]
  congr 1
  show i+a.text.length+3+b.text.length=i+(a.text++32::bC s::32::b.text).length
  simp;omega
theorem rG{k:Nat}{p:Pt}(hg:p.gram)(h:k<p.lev):last k p.text=none:=by
 obtain⟨pv,e⟩:=mS k p hg 0 (.inr ⟨rfl,h⟩) none 0 none []
 rw[xbh] at e
 exact e
theorem zbb{s:Sg}{a b:Pt}(hg:(Pt.op s a b).gram):last (aI s) (Pt.op s a b).text=some (a.text.length+1):=by
 obtain⟨s1,s2,s3⟩:=rF (aI s)
 obtain⟨pv1,acc1,e1⟩:=AH (aI s) a hg.1 none 0 none (32::bC s::32::b.text)
 obtain⟨pv2,e2⟩:=mS (aI s) b hg.2.1 0 (.inr ⟨rfl,hg.2.2.2⟩) (some 32) (0+a.text.length+1+1+1) (some (0+a.text.length+1)) []
 rw[xbh] at e2
 show dA (aI s) none 0 0 none (a.text++32::bC s::32::b.text)=_
 rw[e1,iX _ _ _ _ _ _ _ (.inr s1),show dd 0 32=0 from rfl,dA,jS (rA s),xau ⟨rfl,za9 s,rfl,rfl⟩,iX _ _ _ _ _ _ _ (.inr s1),show dd 0 32=0 from rfl,e2]
 show some (0+a.text.length+1)=_
 rw[xcc]
end LmXb
open L2 DL Mir
namespace LmXc
open LmWb LmWf LmWj LmWk LmWl LmWm LmWn LmWo LmXa LmXb TxtA
def jT(l:List Nat)(t:Tr):Prop:=Tr.leaf t=true/\dL t/\b7 t=l
open Classical in
noncomputable def fC(l:List Nat):Option Tr:=if h:∃t,jT l t then some h.choose else none
theorem mT{l:List Nat}{t:Tr}(h:fC l=some t):jT l t:=by
 unfold fC at h
 split at h
 ·rename_i h'
  cases h
  exact h'.choose_spec
 ·cases h
theorem jT.inj{l:List Nat}{t u:Tr}(h:jT l t)(h':jT l u):t=u:=by
 obtain⟨a1,a2,a3⟩:=h
 obtain⟨b1,b2,b3⟩:=h'
 have e:b7 t=b7 u:=a3.trans b3.symm
 cases t with
 |op _ _ _=>cases a1
 |nm x=>cases u with
  |op _ _ _=>cases b1
  |nm y=>
   obtain⟨l1,rfl,_⟩:=a2.ex
   obtain⟨l2,rfl,_⟩:=b2.ex
   have:l1=l2:=by simpa [b7,ofL] using e
   rw[this]
  |nb i=>
   obtain⟨l1,rfl,q1,q2,q3⟩:=a2.ex
   obtain⟨c,cs,hc⟩:=xbm q2
   have h1:=q3 c (by rw[hc];simp)
   have h2:48<=c/\c<=57:=digs_all i.toNat c (by
    have e:l1=bB i.toNat:=by simpa [b7,ofL] using e
    rw[<- e,hc];simp)
   omega
 |nb i=>cases u with
  |op _ _ _=>cases b1
  |nm y=>
   obtain⟨l1,rfl,q1,q2,q3⟩:=b2.ex
   obtain⟨c,cs,hc⟩:=xbm q2
   have h1:=q3 c (by rw[hc];simp)
   have h2:48<=c/\c<=57:=digs_all i.toNat c (by
    have e:bB i.toNat=l1:=by simpa [b7,ofL] using e
    rw[e,hc];simp)
   omega
  |nb j=>
   have e:bB i.toNat=bB j.toNat:=e
   have:=congrArg PySem.NumText.digitsVal e
   rw[sF,sF] at this
   have h1:=a2.1
   have h2:=b2.1
   congr 1
   omega
theorem rH{l:List Nat}{t:Tr}(h:jT l t):fC l=some t:=by
 unfold fC
 rw[dif_pos ⟨t,h⟩]
 congr 1
 exact jT.inj (Exists.choose_spec (⟨t,h⟩:∃t,jT l t)) h
theorem zbc{l:List Nat}(h:fC l=none):∀t,¬jT l t:=fun t ht=>by rw[rH ht] at h;cases h
def mk(c:Option Nat)(a b:Option Tr):Option Tr:=match a,b,c.bind oP with
 |some a,some b,some s=>some (.op s a b)
 |_,_,_=>none
noncomputable def LR:Nat->List Nat->Nat->Option Tr
 |0,_,_=>none
 |n+1,l,left=>match last 1 l with
  |some i=>mk l[i]? (LR n (l.take (i-1)) left) (LR n (l.drop (i+2)) left)
  |none=>match last 2 l with
   |some i=>mk l[i]? (LR n (l.take (i-1)) left) (LR n (l.drop (i+2)) left)
   |none=>if l.head? = some 40/\l.getLast? = some 41/\0<left then LR n l.tail.dropLast (left-1) else fC l
theorem cut{l l1 l2:List Nat}{c:Nat}(e:l=l1++32::c::32::l2):l[l1.length+1]? = some c/\l.take (l1.length+1-1)=l1/\l.drop (l1.length+1+2)=l2:=by
 subst e
 refine⟨by simp,by simp,?_⟩
 rw[show l1++32::c::32::l2=(l1++[32,c,32])++l2 by simp,xc4]
 simp
theorem AI{k k':Nat}{l1 l2:List Nat}{c j:Nat}(hs:cW k' c=true)(hd:dp l1=0)(h:Hit k l2 j):Hit k (l1++32::c::32::l2) (l1.length+3+j):=by
 obtain⟨m1,c1,m2,rfl,rfl,h3,h4⟩:=h
 refine⟨l1++32::c::32::m1,c1,m2,by simp,by simp;omega,h3,?_⟩
 rw[show l1++32::c::32::m1=l1++([32]++([c]++([32]++m1))) by simp,oQ,oQ,oQ,oQ,hd,h4]
 have:dp [c]=0:=jS (AE hs) 0
 rw[this];rfl
theorem zbd{k:Nat}{l1 r:List Nat}{j:Nat}(h:Hit k l1 j):Hit k (l1++r) j:=by
 obtain⟨m1,c1,m2,rfl,rfl,h3,h4⟩:=h
 exact⟨m1,c1,m2++r,by simp,rfl,h3,h4⟩
theorem OH{c:Option Nat}{a b:Option Tr}{t:Tr}(h:mk c a b=some t):∃a' b' s c',a=some a'/\b=some b'/\c=some c'/\oP c'=some s/\t=.op s a' b':=by
 unfold mk at h
 split at h
 ·rename_i a' b' s h3
  obtain⟨c',rfl,h4⟩:=Option.bind_eq_some_iff.mp h3
  cases h
  exact⟨a',b',s,c',rfl,rfl,rfl,h4,rfl⟩
 ·cases h
theorem mU:∀(n:Nat) (l:List Nat) (left:Nat) (t:Tr),LR n l left=some t->∃p:Pt,p.text=l/\p.tree=t/\p.gram/\p.dep<=left/\(last 1 l=none->2<=p.lev)/\(last 1 l=none->last 2 l=none->p.lev=3)
 |0,_,_,_,h=>by cases h
 |n+1,l,left,t,h=>by
  rw[LR] at h
  cases h1:last 1 l with
  |some i=>
   simp only[h1] at h
   obtain⟨a,b,s,c,ea,eb,ec,es,rfl⟩:=OH h
   obtain⟨⟨l1,c',l2,el,rfl,hs,hd⟩,hm⟩:=vB h1
   obtain⟨q1,q2,q3⟩:=cut el
   rw[q1] at ec;cases ec
   rw[q2] at ea
   rw[q3] at eb
   obtain⟨s',rfl,hb⟩:=rD hs
   rw[rC] at es;cases es
   obtain⟨pa,a1,a2,a3,a4,a5,a6⟩:=mU n l1 left a ea
   obtain⟨pb,b1,b2,b3,b4,b5,b6⟩:=mU n l2 left b eb
   have n2:last 1 l2=none:=rE.mpr fun j hj=>by
    have:=hm _ (by rw[el];exact AI hs hd hj)
    omega
   have lv:1<=pa.lev:=by
    cases pa with
    |leaf _=>show 1<=3;decide
    |brk _=>show 1<=3;decide
    |op s _ _=>exact mR s
   have lb:=b5 n2
   refine⟨.op s pa pb,?_,by show Tr.op s pa.tree pb.tree=_;rw[a2,b2],⟨a3,b3,by omega,by omega⟩,Nat.max_le.mpr ⟨a4,b4⟩,fun h=>(by cases h),fun h=>(by cases h)⟩
   show pa.text++32::bC s::32::pb.text=l
   rw[a1,b1,el]
  |none=>
   simp only[h1] at h
   have no1:=rE.mp h1
   cases h2:last 2 l with
   |some i=>
    simp only[h2] at h
    obtain⟨a,b,s,c,ea,eb,ec,es,rfl⟩:=OH h
    obtain⟨⟨l1,c',l2,el,rfl,hs,hd⟩,hm⟩:=vB h2
    obtain⟨q1,q2,q3⟩:=cut el
    rw[q1] at ec;cases ec
    rw[q2] at ea
    rw[q3] at eb
    obtain⟨s',rfl,hb⟩:=rD hs
    rw[rC] at es;cases es
    obtain⟨pa,a1,a2,a3,a4,a5,a6⟩:=mU n l1 left a ea
    obtain⟨pb,b1,b2,b3,b4,b5,b6⟩:=mU n l2 left b eb
    have n1:last 1 l1=none:=rE.mpr fun j hj=>no1 j (by rw[el];exact zbd hj)
    have n2:last 1 l2=none:=rE.mpr fun j hj=>no1 _ (by rw[el];exact AI hs hd hj)
    have n3:last 2 l2=none:=rE.mpr fun j hj=>by
     have:=hm _ (by rw[el];exact AI hs hd hj)
     omega
    have la:=a5 n1
    have lb:=b6 n2 n3
    refine⟨.op s pa pb,?_,by show Tr.op s pa.tree pb.tree=_;rw[a2,b2],⟨a3,b3,by omega,by omega⟩,Nat.max_le.mpr ⟨a4,b4⟩,fun _=>(by show 2<=aI s;omega),fun _ h=>(by cases h)⟩
    show pa.text++32::bC s::32::pb.text=l
    rw[a1,b1,el]
   |none=>
    simp only[h2] at h
    by_cases hc:l.head? = some 40/\l.getLast? = some 41/\0<left
    ·rw[xau hc] at h
     obtain⟨p,b1,b2,b3,b4,_,_⟩:=mU n _ _ t h
     refine⟨.brk p,?_,b2,b3,by show p.dep+1<=left;omega,fun _=>by show 2<=3;decide,fun _ _=>rfl⟩
     show 40::(p.text++[41])=l
     rw[b1]
     obtain⟨h3,h4,h5⟩:=hc
     cases l with
     |nil=>cases h3
     |cons x l=>
      injection h3 with h3
      subst h3
      obtain⟨m,hm⟩:=xcw.mp h4
      cases m with
      |nil=>simp at hm
      |cons y m=>
       injection hm with hm1 hm2
       rw[hm2]
       simp
    ·rw[xao hc] at h
     obtain⟨b1,b2,b3⟩:=mT h
     exact⟨.leaf t,b3,rfl,⟨b1,b2⟩,xbz _,fun _=>by show 2<=3;decide,fun _ _=>rfl⟩
theorem vD:∀(p:Pt) (n left:Nat),p.gram->p.size+1<=n->p.dep<=left->LR n p.text left=some p.tree
 |.leaf t,n,left,hg,hn,hd=>by
  obtain⟨j,rfl⟩:∃j,n=j+1:=⟨n-1,by omega⟩
  rw[LR]
  simp only[rG (k:=1) (p:=.leaf t) hg (by show _<3;decide),rG (k:=2) (p:=.leaf t) hg (by show _<3;decide)]
  rw[xao,show (Pt.leaf t).text=b7 t from rfl,rH ⟨hg.1,hg.2,rfl⟩];rfl
  rintro⟨h1,_⟩
  exact((lK hg.1 hg.2).2.2 40 (List.mem_of_mem_head? h1)).1 rfl
 |.brk p,n,left,hg,hn,hd=>by
  obtain⟨j,rfl⟩:∃j,n=j+1:=⟨n-1,by omega⟩
  have hd:p.dep+1<=left:=hd
  have hn:p.size+1+1<=j+1:=hn
  rw[LR]
  simp only[rG (k:=1) (p:=.brk p) hg (by show _<3;decide),rG (k:=2) (p:=.brk p) hg (by show _<3;decide)]
  rw[xau ⟨rfl,by show ((40::p.text)++[41]).getLast? = some 41;exact List.getLast?_concat,by omega⟩]
  show LR j (p.text++[41]).dropLast (left-1)=_
  rw[xbt]
  exact vD p j (left-1) hg (by omega) (by omega)
 |.op s a b,n,left,hg,hn,hd=>by
  obtain⟨j,rfl⟩:∃j,n=j+1:=⟨n-1,by omega⟩
  have hd:max a.dep b.dep<=left:=hd
  have hn:a.size+b.size+1+1<=j+1:=hn
  have ea:=vD a j left hg.1 (by omega) (by omega)
  have eb:=vD b j left hg.2.1 (by omega) (by omega)
  obtain⟨q1,q2,q3⟩:=cut (l:=(Pt.op s a b).text) (l1:=a.text) (l2:=b.text) (c:=bC s) rfl
  have fin:mk (Pt.op s a b).text[a.text.length+1]? (LR j ((Pt.op s a b).text.take (a.text.length+1-1)) left) (LR j ((Pt.op s a b).text.drop (a.text.length+1+2)) left)=some (.op s a.tree b.tree):=by
   rw[q1,q2,q3,ea,eb]
   unfold mk
   rw[xc3,rC]
  have hl:=zbb hg
  rw[LR]
  rcases(show aI s=1\/aI s=2 by cases s<;>simp[aI]) with hb|hb
  ·rw[hb] at hl
   simp only[hl]
   exact fin
  ·rw[hb] at hl
   simp only[rG (k:=1) (p:=.op s a b) hg (by show 1<aI s;omega),hl]
   exact fin
end LmXc
open L2 DL Mir
open L2 DL Mir
namespace LmO
open LmA LmB LmW LmX LmY TxtA
def cutW:List Nat->List (List Nat)
 |[]=>[[]]
 |c::r=>if c=32 then []::cutW r else match cutW r with
  |w::ws=>(c::w)::ws
  |[]=>[[c]]
theorem cutW_ne:∀r,cutW r≠[]
 |[]=>by simp[cutW]
 |c::r=>by
  unfold cutW
  split
  ·simp
  ·split<;>simp
theorem cutW_no:∀r,∀w∈cutW r,(32:Nat)∉w
 |[],w,h=>by simp[cutW] at h;simp[h]
 |c::r,w,h=>by
  have ih:=cutW_no r
  unfold cutW at h
  split at h
  ·rcases xal.mp h with rfl|h
   ·simp
   ·exact ih w h
  ·rename_i hc
   split at h
   ·rename_i w' ws e
    rw[e] at ih
    rcases xal.mp h with rfl|h
    ·intro q
     rcases xal.mp q with q|q
     ·exact hc q.symm
     ·exact ih w' (by simp) q
    ·exact ih w (xar _ h)
   ·rename_i e
    exact xag e (cutW_ne r)
theorem flat_cons(y r:List Nat){rs:List (List Nat)}(h:rs≠[]):TxtA.flat y (r::rs)=r++y++TxtA.flat y rs:=by
 obtain⟨q,qs,rfl⟩:=xbm h
 rfl
theorem flat_cutW:∀r,TxtA.flat [32] (cutW r)=r
 |[]=>rfl
 |c::r=>by
  have ih:=flat_cutW r
  unfold cutW
  split
  ·rename_i hc
   rw[flat_cons _ _ (cutW_ne r),ih,hc];rfl
  ·split
   ·rename_i w ws e
    rw[e] at ih
    cases ws with
    |nil=>rw[<- ih];rfl
    |cons q qs=>rw[<- ih];rfl
   ·rename_i e
    exact xag e (cutW_ne r)
theorem zbe{w:List Nat}(h:(32:Nat)∉w)(r:List Nat):cutW (w++32::r)=w::cutW r:=by
 induction w with
 |nil=>simp[cutW]
 |cons c w ih=>
  have hc:¬c=32:=fun z=>h (by rw[z];exact xa4)
  rw[xbq,cutW,xao hc,ih fun q=>h (xar _ q)]
theorem cutW_one{w:List Nat}(h:(32:Nat)∉w):cutW w=[w]:=by
 induction w with
 |nil=>rfl
 |cons c w ih=>
  have hc:¬c=32:=fun z=>h (by rw[z];exact xa4)
  rw[cutW,xao hc,ih fun q=>h (xar _ q)]
theorem cutW_flat:∀{ws:List (List Nat)},ws≠[]->(∀w∈ws,(32:Nat)∉w)->cutW (TxtA.flat [32] ws)=ws
 |[],h,_=>xag rfl h
 |[w],_,h=>cutW_one (h w (by simp))
 |w::w'::ws,_,h=>by
  rw[TxtA.flat,xa5,List.singleton_append,zbe (h w (by simp)),cutW_flat (by simp) fun q hq=>h q (xar _ hq)]
theorem words_okF(r:List Nat)(hl:r.length<=10000000):k8 (.str (ofL r)) (.str " ")=.ok (((cutW r).map ofL).map D.str):=by
 have e:=zaG (c:=32) (t:=[]) (rows:=cutW r) (by simp) (by decide) (cutW_ne r) (cutW_no r) (by rw[flat_cutW];exact hl)
 rw[flat_cutW] at e
 exact e
abbrev nt:D:=.exc "NoText" []
theorem zbf:∀c:Nat,¬(48<=c/\c<=57)->cV (.str (sign c)) nZ=.ok (.bl false):=by
 intro c h
 show R.ok (D.bl (!(Builtin.Str.occurrences ("0123456789":Str) ⟨#[c]⟩ 0 ("0123456789":Str).length 1).isEmpty))=_
 rw[StrLaws.found_one,show ("0123456789":Str).cps.toList=[48,49,50,51,52,53,54,55,56,57] from rfl]
 rw[xae (by simp only[xal,xa2,or_false];omega)]
theorem zbg(c:Nat):cV (.str (sign c)) nZ=.ok (.bl (decide (48<=c/\c<=57))):=by
 by_cases h:48<=c/\c<=57
 ·rw[xab h,NW c h]
 ·rw[xae h,zbf c h]
structure BadN(w:List Nat):Prop where
 len:w.length<=1000
 bad:w=[]\/(∃c∈w,¬(48<=c/\c<=57))\/∃x r,w=48::x::r
theorem read_number_bad{w:List Nat}(h:BadN w):mJ [.str (ofL w)]=.err nt:=by
 have hl:=h.len
 rw[LH];unfold qH;kd_p
 by_cases h0:w=[]
 ·subst h0
  rw[show bG (.str (ofL [])) (.str "")=.ok (.bl true) from rfl];kd_p
 ·rw[show (D.str "")=.str (ofL []) from rfl,uX,lI h0];kd_p
  rw[show fG (aB 0) [some (.str (ofL w))]=.ok (w.map fun c=>.str (sign c)) from rfl,LmB.lc_mapP (g:=fun c=>.bl (decide (48<=c/\c<=57))) (by omega) (fun c hc=>by kd_p;exact zbg c)];kd_p
  rw[show (w.map fun c=>D.bl (decide (48<=c/\c<=57)))=(w.map fun c=>decide (48<=c/\c<=57)).map D.bl from by rw[xcm];rfl,LmB.gAll_bls];kd_p
  cases ha:(w.map fun c=>decide (48<=c/\c<=57)).all id with
  |false=>kd_p
  |true=>
   kd_p
   have hd:∀c∈w,48<=c/\c<=57:=fun c hc=>by
    have:=xbg.mp ha (decide (48<=c/\c<=57)) (xb3.mpr ⟨c,hc,rfl⟩)
    exact xaj this
   rcases h.bad with h1|⟨c,hc,h1⟩|⟨x,r,rfl⟩
   ·exact xag h1 h0
   ·exact xag (hd c hc) h1
   ·unfold yS;kd_p
    rw[show cG (.str (ofL (48::x::r))) (.int 0)=.ok (.str (sign 48)) from rfl];kd_p
    rw[show (D.str "0")=.str (ofL [48]) from rfl,uX];kd_p
    rw[show (sign 48==ofL [48])=true from by decide];kd_p
    rw[show fN (.str (ofL (48::x::r))) (.str (ofL [48]))=.ok (.bl true) from by rw[NV,lI (by simp)];rfl];kd_p
end LmO
open L2 DL Mir
namespace LmXd
open LmWb LmWf LmWj LmWk LmWl LmWm LmWn LmWo LmXa LmXb LmXc TxtA
def fP(w:List Nat):Nat:=(w.takeWhile (· == 40)).length
def rest(w:List Nat):List Nat:=w.dropWhile (· == 40)
def gC(w:List Nat):Nat:=((rest w).reverse.takeWhile (· == 41)).length
def eM(w:List Nat):List Nat:=((rest w).reverse.dropWhile (· == 41)).reverse
theorem AJ(k:Nat):∀w:List Nat,w.takeWhile (· == k)=List.replicate (w.takeWhile (· == k)).length k
 |[]=>rfl
 |c::w=>by
  by_cases h:c=k
  ·subst h
   rw[xb1,xau (by simp),xan,xa0,<- AJ c w]
  ·rw[xb1,xao (by simpa using h)];rfl
theorem AK(w:List Nat):w=List.replicate (fP w) 40++rest w:=by
 have:=List.takeWhile_append_dropWhile (p:=(· == 40)) (l:=w)
 rw[AJ] at this
 exact this.symm
theorem OI(w:List Nat):rest w=eM w++List.replicate (gC w) 41:=by
 have:=List.takeWhile_append_dropWhile (p:=(· == 41)) (l:=(rest w).reverse)
 rw[AJ] at this
 have:=congrArg List.reverse this
 rw[xcr,List.reverse_reverse,xcj] at this
 exact this.symm
theorem AL(k:Nat):∀(w:List Nat),∀x∈(w.dropWhile (· == k)).head?,x≠k
 |[],x,h=>by cases h
 |c::w,x,h=>by
  by_cases hc:c=k
  ·rw[xcs,xau (by simpa using hc)] at h
   exact AL k w x h
  ·rw[xcs,xao (by simpa using hc)] at h
   have:x=c:=by simpa using h.symm
   rw[this];exact hc
theorem OJ(w:List Nat):∀x∈(rest w).head?,x≠40:=AL 40 w
theorem zbi(w:List Nat):∀x∈(eM w).getLast?,x≠41:=fun x hx=>by
 unfold eM at hx
 rw[List.getLast?_reverse] at hx
 exact AL 41 _ x hx
theorem vE(k:Nat)(r:List Nat)(hr:∀x∈r.head?,x≠k):∀n:Nat,(List.replicate n k++r).takeWhile (· == k)=List.replicate n k/\(List.replicate n k++r).dropWhile (· == k)=r
 |0=>by
  rw[List.replicate_zero,xc8]
  cases r with
  |nil=>exact⟨rfl,rfl⟩
  |cons x r=>
   have:=hr x (by simp)
   rw[xb1,xcs,xao (by simpa using this),xao (by simpa using this)]
   exact⟨rfl,rfl⟩
 |n+1=>by
  obtain⟨h1,h2⟩:=vE k r hr n
  rw[xa0,xbq,xb1,xcs,xau (by simp),xau (by simp),h1,h2]
  exact⟨rfl,rfl⟩
theorem zbj{o c:Nat}{t:Tr}(hl:Tr.leaf t=true)(hg:dL t):fP (c8 o t c)=o/\eM (c8 o t c)=b7 t/\gC (c8 o t c)=c:=by
 obtain⟨h1,h2,h3⟩:=lK hl hg
 have hr:∀x∈(b7 t++List.replicate c 41).head?,x≠40:=fun x hx=>by
  obtain⟨a,as,ha⟩:=xbm h1
  rw[ha] at hx h3
  have:x=a:=by simpa using hx.symm
  rw[this]
  exact(h3 a (by simp)).1
 obtain⟨e1,e2⟩:=vE 40 _ hr o
 have e3:rest (c8 o t c)=b7 t++List.replicate c 41:=e2
 have e4:(rest (c8 o t c)).reverse=List.replicate c 41++(b7 t).reverse:=by rw[e3,xcr,xcj]
 obtain⟨f1,f2⟩:=vE 41 (b7 t).reverse (fun x hx=>by
  rw[List.head?_reverse] at hx
  exact(h3 x (List.mem_of_getLast? hx)).2.1) c
 refine⟨?_,?_,?_⟩
 ·show (List.takeWhile _ (List.replicate o 40++(b7 t++List.replicate c 41))).length=o
  rw[e1,xbb]
 ·unfold eM;rw[e4,f2,List.reverse_reverse]
 ·unfold gC;rw[e4,f1,xbb]
noncomputable def dM(w:List Nat)(p:cO):R cO:=if 8<aZ p.2+fP w then .err nt else match fC (eM w) with
 |none=>.err nt
 |some t=>match cJ (gC w) (t::p.1,List.replicate (fP w) Sy.opn++p.2) with
  |some q=>.ok q
  |none=>.err nt
def mV:List Nat->Option Sg
 |[c]=>oP c
 |_=>none
def fI(w:List Nat)(p:cO):R cO:=match mV w with
 |some s=>.ok ((join (aI s) p.2 p.1).1,.sig s::(join (aI s) p.2 p.1).2)
 |none=>.err nt
noncomputable def dE:Bool->List (List Nat)->cO->R cO
 |_,[],p=>.ok p
 |true,w::ws,p=>(dM w p).bind (dE false ws)
 |false,w::ws,p=>(fI w p).bind (dE true ws)
def iY(q:cO):R Tr:=match join 1 q.2 q.1 with
 |(t::_,[])=>.ok t
 |_=>.err nt
noncomputable def lO(ws:List (List Nat)):R Tr:=(dE true ws ([],[])).bind iY
theorem zbk{c:Nat}{s:Sg}(h:oP c=some s):c=bC s:=by
 unfold oP at h
 split at h
 ·cases h;assumption
 split at h
 ·cases h;assumption
 split at h
 ·cases h;assumption
 split at h
 ·cases h;assumption
 cases h
theorem OK{w:List Nat}{s:Sg}(h:mV w=some s):w=[bC s]:=by
 match w,h with
 |[c],h=>rw[zbk h]
theorem OL{w:List Nat}{S:List Pt}{G:List Sy}{q:cO}(h:dM w (tr S,G)=.ok q)(hw:gM S G) :
  ∃p S',q.1=p.tree::tr S'/\lN p S' q.2/\p.lev=3/\done p S' q.2=pre S G++w:=by
 unfold dM at h
 split at h
 ·cases h
 rename_i h8
 have h8:¬8<aZ G+fP w:=h8
 split at h
 ·cases h
 rename_i t ht
 obtain⟨l1,l2,l3⟩:=mT ht
 split at h
 ·rename_i q' hc
  cases h
  obtain⟨p,S',f1,f2,f3,f4⟩:=za6 l1 l2 hw (by omega) hc
  refine⟨p,S',f1,f2,f3,f4.trans ?_⟩
  congr 1
  conv=>rhs;rw[AK w,OI w]
  unfold c8
  rw[l3]
 ·cases h
theorem OM:∀(ws:List (List Nat)) (S:List Pt) (G:List Sy) (q:cO),dE true ws (tr S,G)=.ok q->gM S G->ws.length%2=1->
  ∃p S',q.1=p.tree::tr S'/\lN p S' q.2/\done p S' q.2=pre S G++TxtA.flat [32] ws
 |[],_,_,_,_,_,h=>by cases h
 |[w],S,G,q,h,hw,_=>by
  have h:(dM w (tr S,G)).bind (dE false [])=.ok q:=h
  cases hs:dM w (tr S,G) with
  |ok q1=>
   rw[hs] at h
   cases h
   obtain⟨p,S',f1,f2,f3,f4⟩:=OL hs hw
   exact⟨p,S',f1,f2,f4⟩
  |err e=>rw[hs] at h;cases h
  |bad=>rw[hs] at h;cases h
 |w::v::ws,S,G,q,h,hw,hl=>by
  have h:(dM w (tr S,G)).bind (dE false (v::ws))=.ok q:=h
  cases hs:dM w (tr S,G) with
  |ok q1=>
   rw[hs] at h
   have h:(fI v q1).bind (dE true ws)=.ok q:=h
   obtain⟨p,S',f1,f2,f3,f4⟩:=OL hs hw
   cases hv:mV v with
   |none=>unfold fI at h;rw[hv] at h;cases h
   |some s=>
    unfold fI at h
    rw[hv] at h
    have h:dE true ws ((join (aI s) q1.2 q1.1).1,.sig s::(join (aI s) q1.2 q1.1).2)=.ok q:=h
    obtain⟨S2,G2,e1,e2,e3⟩:=za7 s f2 f3
    rw[f1,e1] at h
    have hl':ws.length%2=1:=by simp only[xan] at hl;omega
    obtain⟨p',S'',g1,g2,g3⟩:=OM ws S2 G2 q h e2 hl'
    refine⟨p',S'',g1,g2,g3.trans ?_⟩
    have hne:ws≠[]:=fun hz=>by rw[hz] at hl';cases hl'
    rw[e3,f4,flat_cons _ _ (by simp),flat_cons _ _ hne,OK hv]
    simp
  |err e=>rw[hs] at h;cases h
  |bad=>rw[hs] at h;cases h
theorem zbl{ws:List (List Nat)}{t:Tr}(h:lO ws=.ok t)(hl:ws.length%2=1):∃p:Pt,p.text=TxtA.flat [32] ws/\p.tree=t/\p.gram/\p.dep<=8:=by
 unfold lO at h
 cases hr:dE true ws ([],[]) with
 |ok q=>
  rw[hr] at h
  have h:iY q=.ok t:=h
  obtain⟨p,S',f1,f2,f3⟩:=OM ws [] [] q hr trivial hl
  obtain⟨p',S2,G2,e1,e2,e3,e4,e5⟩:=u8 (k:=1) (xaf _) q.2 p S' f2 (by
   cases p with
   |leaf _=>show 1<=3;decide
   |brk _=>show 1<=3;decide
   |op s _ _=>exact mR s)
  unfold iY at h
  rw[f1,e1] at h
  match G2,S2,e2,e3,h with
  |[],[],e2,e3,h=>
   cases h
   exact⟨p',e3.trans (f3.trans (by show []++_=_;rfl)),rfl,e2.gr,by have:0+p'.dep<=8:=e2.dep;omega⟩
  |[],_::_,e2,_,_=>exact e2.wf.elim
  |_::_,_,_,_,h=>cases h
 |err e=>rw[hr] at h;cases h
 |bad=>rw[hr] at h;cases h
theorem AM{N:Nat}:∀(b:Bool) (is:List c9) (p q:cO),eL N b is->run is p=.ok q->dE b (is.map c5) p=.ok q
 |true,.side o t c::is,p,q,h,hr=>by
  obtain⟨w1,w2,w3⟩:=zbj (o:=o) (c:=c) h.1 h.2.1
  have hr:(if 8<aZ p.2+o then R.err nt else match cJ c (t::p.1,List.replicate o Sy.opn++p.2) with|some q=>R.ok q|none=>.bad).bind (run is)=.ok q:=hr
  show (dM (c8 o t c) p).bind (dE false (is.map c5))=_
  unfold dM
  rw[w1,w2,w3,rH ⟨h.1,h.2.1,rfl⟩]
  by_cases h8:8<aZ p.2+o
  ·rw[xau h8] at hr;cases hr
  ·rw[xao h8] at hr ⊢
   show (match cJ c (t::p.1,List.replicate o Sy.opn++p.2) with|some q=>R.ok q|none=>R.err nt).bind _=_
   cases hc:cJ c (t::p.1,List.replicate o Sy.opn++p.2) with
   |none=>rw[hc] at hr;cases hr
   |some q1=>
    rw[hc] at hr
    exact AM false is q1 q h.2.2.2.2 hr
 |false,.sign s::is,p,q,h,hr=>by
  show (fI [bC s] p).bind (dE true (is.map c5))=_
  have:mV [bC s]=some s:=rC s
  unfold fI
  rw[this]
  exact AM true is _ q h hr
 |false,[],p,q,_,hr=>hr
 |true,[],_,_,h,_=>h.elim
 |true,.sign _::_,_,_,h,_=>h.elim
 |false,.side _ _ _::_,_,_,h,_=>h.elim
theorem zbm(p:Pt)(hg:p.gram)(hd:p.dep<=8):lO ((dW p).map c5)=.ok p.tree:=by
 have lv:1<=p.lev:=by
  cases p with
  |leaf _=>show 1<=3;decide
  |brk _=>show 1<=3;decide
  |op s _ _=>exact mR s
 obtain⟨q,e,d1,d2,d3⟩:=vA p 1 [] [] hg (xaf _) lv (fun y hy=>by simp at hy) rfl (by show 0+p.dep<=8;omega)
 unfold lO
 rw[AM true (dW p) ([],[]) q (jR p hg) e]
 show iY q=_
 unfold iY
 rw[d1 1 (xaf _) (xaf _),oM]
def dX(c:Nat):Bool:=c==42||c==43||c==45||c==47
def bF(c:Nat):Bool:=c==40||dX c
theorem vF{t:Tr}(hl:Tr.leaf t=true)(hg:dL t):∀c∈b7 t,dX c=false/\bF c=false:=fun c hc=>by
 obtain⟨h1,h2⟩:=vC hl hg 1 c hc
 obtain⟨_,h3⟩:=vC hl hg 2 c hc
 have a:c≠43/\c≠45:=by simpa [cW] using h2
 have b:c≠42/\c≠47:=by simpa [cW] using h3
 have:dX c=false:=by unfold dX;simp[a.1,a.2,b.1,b.2]
 refine⟨this,?_⟩
 unfold bF
 rw[this];simp[h1.1]
theorem oR{f:Nat->Bool}{l:List Nat}(h:∀c∈l,f c=false):l.countP f=0:=List.countP_eq_zero.mpr fun c hc=>by rw[h c hc];simp
theorem oS:∀p:Pt,p.gram->p.text.countP dX=p.ops
 |.leaf t,h=>oR fun c hc=>(vF h.1 h.2 c hc).1
 |.brk p,h=>by
  show (40::(p.text++[41])).countP dX=p.ops
  rw[xa8,xaq,oS p h];rfl
 |.op s a b,h=>by
  show (a.text++32::bC s::32::b.text).countP dX=a.ops+b.ops+1
  rw[xaq,xa8,xa8,xa8,oS a h.1,oS b h.2.1,show dX (bC s)=true by cases s<;>rfl,show dX 32=false from rfl]
  simp;omega
theorem vG:∀p:Pt,p.gram->p.text.countP bF=p.size
 |.leaf t,h=>oR fun c hc=>(vF h.1 h.2 c hc).2
 |.brk p,h=>by
  show (40::(p.text++[41])).countP bF=p.size+1
  rw[xa8,xaq,vG p h];rfl
 |.op s a b,h=>by
  show (a.text++32::bC s::32::b.text).countP bF=a.size+b.size+1
  rw[xaq,xa8,xa8,xa8,vG a h.1,vG b h.2.1,show bF (bC s)=true by cases s<;>rfl,show bF 32=false from rfl]
  simp;omega
noncomputable def sumL(ws:List (List Nat)):R Tr:=if ws.length%2=0\/60<ws.length/2 then .err nt else lO ws
theorem ON{p:Pt}(hg:p.gram):LmO.cutW p.text=(dW p).map c5:=by
 rw[<- u9 p hg,LmO.cutW_flat (by simpa using mQ (jR p hg)) (fun v hv=>(AB (b:=true) (jR p hg) v hv).1)]
theorem zbn{l:List Nat}(hM:l.countP bF<=63) :
  (∀t,LR 64 l 8=some t->l.countP dX<=60->sumL (LmO.cutW l)=.ok t)/\(LR 64 l 8=none\/60<l.countP dX->∀t,sumL (LmO.cutW l)≠.ok t):=by
 constructor
 ·intro t h hS
  obtain⟨p,rfl,e2,e3,e4,_⟩:=mU 64 _ 8 t h
  rw[ON e3]
  have hl:((dW p).map c5).length=2*p.ops+1:=by rw[xat,rB]
  have ho:p.ops<=60:=by rw[<- oS p e3];exact hS
  unfold sumL
  rw[xao (by rw[hl];omega),zbm p e3 e4,e2]
 ·intro h t ht
  unfold sumL at ht
  split at ht
  ·cases ht
  rename_i hn
  obtain⟨p,e1,e2,e3,e4⟩:=zbl ht (by omega)
  rw[LmO.flat_cutW] at e1
  subst e1
  have hz:p.size<=63:=by rw[<- vG p e3];exact hM
  have hc:=vD p 64 8 e3 (by omega) e4
  rcases h with h|h
  ·rw[h] at hc;cases hc
  ·rw[oS p e3] at h
   rw[ON e3,xat,rB] at hn
   omega
theorem OO(w:List Nat)(p:cO):(∃q,dM w p=.ok q)\/dM w p=.err nt:=by
 unfold dM
 split
 ·exact .inr rfl
 split
 ·exact .inr rfl
 split
 ·exact .inl ⟨_,rfl⟩
 ·exact .inr rfl
theorem vH:∀(b:Bool) (ws:List (List Nat)) (p:cO),(∃q,dE b ws p=.ok q)\/dE b ws p=.err nt
 |_,[],p=>.inl ⟨p,by cases ‹Bool›<;>rfl⟩
 |true,w::ws,p=>by
  show (∃q,(dM w p).bind (dE false ws)=.ok q)\/(dM w p).bind (dE false ws)=.err nt
  rcases OO w p with⟨q,h⟩|h
  ·rw[h];exact vH false ws q
  ·rw[h];exact .inr rfl
 |false,w::ws,p=>by
  show (∃q,(fI w p).bind (dE true ws)=.ok q)\/(fI w p).bind (dE true ws)=.err nt
  unfold fI
  split
  ·exact vH true ws _
  ·exact .inr rfl
theorem zbo(ws:List (List Nat)):(∃t,sumL ws=.ok t)\/sumL ws=.err nt:=by
 unfold sumL
 split
 ·exact .inr rfl
 unfold lO
 rcases vH true ws ([],[]) with⟨q,h⟩|h
 ·rw[h]
  show (∃t,iY q=.ok t)\/iY q=.err nt
  unfold iY
  split
  ·exact .inl ⟨_,rfl⟩
  ·exact .inr rfl
 ·rw[h];exact .inr rfl
end LmXd
open L2 DL Mir
namespace LmWp
open LmA LmY LmWa LmWb LmWc LmWd LmWf LmWg LmWh LmWj LmWk LmWl LmWm LmWn LmWo TxtA
theorem rJ:∀G:List Sy,G.length=bS G+aZ G
 |[]=>rfl
 |.opn::G=>by have:=rJ G;show G.length+1=bS G+(aZ G+1);omega
 |.sig _::G=>by have:=rJ G;show G.length+1=bS G+1+aZ G;omega
theorem OP:∀(n:Nat) (S:List Tr) (G:List Sy) (q:cO),cJ n (S,G)=some q->bS G+1=S.length->bS q.2+1=q.1.length/\q.1.length<=S.length/\aZ q.2<=aZ G
 |0,S,G,q,h,hw=>by cases h;exact⟨hw,xaf _,xaf _⟩
 |n+1,S,G,q,h,hw=>by
  obtain⟨j1,j2,j3,j4⟩:=mP 1 G S hw
  rw[cJ] at h
  cases hj:join 1 G S with
  |mk S1 G1=>
   rw[hj] at j1 j2 j3 j4
   simp only[hj] at h
   match G1,h with
   |[],h=>cases h
   |.sig _::_,h=>cases h
   |.opn::G2,h=>
    obtain⟨a,b,c⟩:=OP n S1 G2 q h j1
    have j3:S1.length<=S.length:=j3
    have j4:aZ G2+1=aZ G:=j4
    exact⟨a,by omega,by omega⟩
theorem forL_two(i j:Nat)(fb:DSt->R aE)(x y:D)(ds:List D)(O:DSt):cQ [i,j] (dI 2) fb (.tup [x,y]::ds) O=eF (fb ((O.set i (some x)).set j (some y))) (cQ [i,j] (dI 2) fb ds):=by
 show (fb ((O.set i (some x)).set j (some y))).bind _=_
 unfold eF
 cases fb ((O.set i (some x)).set j (some y)) with
 |ok o=>cases o<;>rfl
 |err e=>rfl
 |bad=>rfl
abbrev st(w ws:Option D)(p:cO)(a b:Option D):DSt:=[w,ws,some (.lst (sD p.1)),some (.lst (gD p.2)),a,b]
theorem OQ{j:Nat}(w ws:Option D)(p:cO)(b:Option D):aJ (aC bG (aC bK (aB 4) (eC (.int 2))) (eC (.int 0))) (st w ws p (some (.int (j:Int))) b)=.ok (decide (j%2=0)):=by
 kpf_c
 congr 1
 rw[xbc];simp;omega
theorem OR{j:Nat}(hj:j%2=0)(w ws:Option D)(S:List Tr)(G:List Sy)(d:D):fH (st w ws (S,G) (some (.int (j:Int))) (some d))=(fZ [d,.lst (sD S),.lst (gD G)]).bind fun τ=>(aK τ 1).bind fun xs'=>(aK τ 2).bind fun ys'=>.ok (.nx [w,ws,some (.lst xs'),some (.lst ys'),some (.int (j:Int)),some d]):=by
 unfold fH
 rw[fX,OQ,xab hj]
 show R.bind (qC [3,2] 2 3 fZ (aB 5) (st w ws (S,G) (some (.int (j:Int))) (some d))) _=_
 show R.bind (R.bind (fZ [d,.lst (sD S),.lst (gD G)]) _) _=_
 cases fZ [d,.lst (sD S),.lst (gD G)] with
 |err e=>rfl
 |bad=>rfl
 |ok τ=>
  show R.bind (R.bind (aK τ 1) _) _=R.bind (aK τ 1) _
  cases aK τ 1 with
  |err e=>rfl
  |bad=>rfl
  |ok xs=>
   show R.bind (R.bind (aK τ 2) _) _=R.bind (aK τ 2) _
   cases aK τ 2<;>rfl
theorem zbp{j:Nat}(hj:j%2=1)(w ws:Option D)(S:List Tr)(G:List Sy)(d:D):fH (st w ws (S,G) (some (.int (j:Int))) (some d))=(iJ [d,.lst (sD S),.lst (gD G)]).bind fun τ=>(aK τ 1).bind fun xs'=>(aK τ 2).bind fun ys'=>.ok (.nx [w,ws,some (.lst xs'),some (.lst ys'),some (.int (j:Int)),some d]):=by
 unfold fH
 rw[fX,OQ,xae (by omega)]
 show R.bind (R.bind (iJ [d,.lst (sD S),.lst (gD G)]) _) _=_
 cases iJ [d,.lst (sD S),.lst (gD G)] with
 |err e=>rfl
 |bad=>rfl
 |ok τ=>
  show R.bind (R.bind (aK τ 1) _) _=R.bind (aK τ 1) _
  cases aK τ 1 with
  |err e=>rfl
  |bad=>rfl
  |ok xs=>
   show R.bind (R.bind (aK τ 2) _) _=R.bind (aK τ 2) _
   cases aK τ 2<;>rfl
def Wf:Bool->cO->Prop
 |true,p=>bS p.2=p.1.length/\aZ p.2<=8
 |false,p=>bS p.2+1=p.1.length/\aZ p.2<=8
end LmWp
open L2 DL Mir
namespace LmXe
open LmA LmY LmWa LmWb LmWc LmWd LmWf LmWg LmWh LmWj LmWk LmWl LmWm LmWn LmWo LmWp LmXa LmXb LmXc LmXd TxtA
theorem OS{n:Nat}(h:n<10):bB n=[48+n]:=by
 unfold bB
 rw[Nat.toDigits_of_lt_base h]
 rcases(show n=0\/n=1\/n=2\/n=3\/n=4\/n=5\/n=6\/n=7\/n=8\/n=9 by omega) with rfl|rfl|rfl|rfl|rfl|rfl|rfl|rfl|rfl|rfl<;>rfl
theorem zbq{n:Nat}(h:10<=n):bB n=bB (n/10)++[48+n%10]:=by
 have e:bB (n%10)=[48+n%10]:=OS (by omega)
 have e2:bB n=bB (n/10)++[(Nat.digitChar (n%10)).toNat]:=by
  unfold bB
  rw[Nat.toDigits_of_base_le (by decide) h,xbf];rfl
 unfold bB at e
 rw[Nat.toDigits_of_lt_base (Nat.mod_lt _ (by decide))] at e
 rw[e2]
 exact congrArg _ e
theorem OT:∀(n:Nat) (l:List Nat),l.length=n->l≠[]->(∀c∈l,48<=c/\c<=57)->(∀x r,l≠48::x::r)->bB (PySem.NumText.digitsVal l)=l:=by
 intro n
 induction n with
 |zero=>intro l h1 h2;exact xag (xb0.mp h1) h2
 |succ n ih=>
  intro l h1 h2 h3 h4
  rcases xb5 l with h|⟨m,c,h⟩
  ·exact xag h h2
  ·rw[xb6] at h
   subst h
   have hc:=h3 c (by simp)
   have hv:PySem.NumText.digitsVal (m++[c])=PySem.NumText.digitsVal m*10+(c-48):=by unfold PySem.NumText.digitsVal;rw[xc1];rfl
   rw[hv]
   cases m with
   |nil=>
    rw[show PySem.NumText.digitsVal []=0 from rfl,OS (by omega)]
    show [48+(0*10+(c-48))]=[c]
    congr 1
    omega
   |cons x m=>
    have hm:=ih (x::m) (by simpa using h1) (by simp) (fun y hy=>h3 y (by simp only[xbq,xal,xbn] at hy ⊢;rcases hy with h|h;exact .inl h;exact .inr (.inl h))) (fun y r e=>by
     rw[e] at h4
     exact h4 y (r++[c]) (by simp))
    have hp:PySem.NumText.digitsVal (x::m)≠0:=fun e=>by
     rw[e] at hm
     rw[show bB 0=[48] from rfl] at hm
     injection hm with a b
     subst a b
     exact h4 c [] rfl
    rw[zbq (by omega),show (PySem.NumText.digitsVal (x::m)*10+(c-48))/10=PySem.NumText.digitsVal (x::m) by omega,hm]
    congr 2
    omega
theorem zbr{l:List Nat}(h:fC l=none):(l=[]\/8<l.length\/∃c∈l,¬(97<=c/\c<=122))/\(l=[]\/9<l.length\/(∃c∈l,¬(48<=c/\c<=57))\/∃x r,l=48::x::r):=by
 have hn:=zbc h
 constructor
 ·refine xb9 fun hx=>?_
  have h1:l≠[]:=fun e=>hx (.inl e)
  have h2:l.length<=8:=xc2 fun e=>hx (.inr (.inl e))
  have h3:∀c∈l,97<=c/\c<=122:=fun c hc=>xb9 fun e=>hx (.inr (.inr ⟨c,hc,e⟩))
  exact hn (.nm (ofL l)) ⟨rfl,⟨l,rfl,h2,h1,h3⟩,by simp[b7,ofL]⟩
 ·refine xb9 fun hx=>?_
  have h1:l≠[]:=fun e=>hx (.inl e)
  have h2:l.length<=9:=xc2 fun e=>hx (.inr (.inl e))
  have h3:∀c∈l,48<=c/\c<=57:=fun c hc=>xb9 fun e=>hx (.inr (.inr (.inl ⟨c,hc,e⟩)))
  have h4:∀x r,l≠48::x::r:=fun x r e=>hx (.inr (.inr (.inr ⟨x,r,e⟩)))
  have hb:=OT l.length l rfl h1 h3 h4
  have hv:PySem.NumText.digitsVal l<10^9:=by
   have:(bB (PySem.NumText.digitsVal l)).length<=9:=by rw[hb];exact h2
   unfold bB at this
   rw[xat] at this
   exact(xcp (by decide) (by decide)).mp this
  refine hn (.nb (PySem.NumText.digitsVal l:Nat)) ⟨rfl,⟨by omega,by omega⟩,?_⟩
  show bB ((PySem.NumText.digitsVal l:Nat):Int).toNat=l
  rw[xbk,hb]
theorem zbs(l:List Nat):Lk31.isW (ofL l)=true↔(l≠[]/\l.length<=8/\∀c∈l,97<=c/\c<=122):=by
 unfold Lk31.isW
 rw[lo,show (ofL l).cps.toList=l by simp[ofL]]
 simp only[xax,decide_eq_true_eq,xbg,uY]
 constructor
 ·rintro⟨⟨h1,h2⟩,h3⟩
  exact⟨fun e=>by rw[e] at h1;simp at h1,by omega,h3⟩
 ·rintro⟨h1,h2,h3⟩
  have:=xcf.mpr h1
  exact⟨⟨by omega,by omega⟩,h3⟩
theorem zbt{l:List Nat}(hl:l.length<=1000)(h:fC l=none):jN [.str (ofL l)]=.err nt:=by
 obtain⟨n1,n2⟩:=zbr h
 have hw:Lk31.isW (ofL l)=false:=by
  cases e:Lk31.isW (ofL l) with
  |false=>rfl
  |true=>
   obtain⟨h1,h2,h3⟩:=(zbs l).mp e
   rcases n1 with n|n|⟨c,hc,n⟩
   ·exact xag n h1
   ·omega
   ·exact xag (h3 c hc) n
 rw[LL];unfold qK;kd_p
 rw[Lk31.is_word_s (by rw[lo];omega),hw];kd_p
 unfold yW;kd_p
 rw[Lk31.gLen_s (by rw[lo];omega),show qJ=.int 9 from rfl,lo];kd_p
 by_cases h9:9<l.length
 ·rw[xab (by omega)];kd_p
 ·rw[xae (by omega)];kd_p
  unfold yV;kd_p
  rw[LmO.read_number_bad ⟨hl,by
   rcases n2 with n|n|n|n
   ·exact .inl n
   ·omega
   ·exact .inr (.inl n)
   ·exact .inr (.inr n)⟩];kd_p
  rfl
theorem OU:∀(G:List Sy) (S:List Tr),bS G+1=S.length->∀s G',(join 1 G S).2≠.sig s::G'
 |[],S,_,s,G'=>by rw[oM];exact nofun
 |.opn::G,S,_,s,G'=>by rw[oK];exact nofun
 |.sig _::G,[],h,_,_=>by simp[bS] at h
 |.sig _::G,[a],h,_,_=>by simp[bS] at h
 |.sig s::G,b::a::S,h,s',G'=>by
  rw[oN,xau (mR s)]
  exact OU G (.op s a b::S) (by simp[bS] at h ⊢;omega) s' G'
theorem OV(w b c:Option D):∀(ds:List D) (S:List Tr) (G:List Sy) (z:Option D),bS G+1=S.length->G.length<=100000->S.length<=100000->cJ ds.length (S,G)=none->
  iH 5 iI ds [w,some (.lst (sD S)),some (.lst (gD G)),b,c,z]=.err nt
 |[],S,G,z,_,_,_,h=>by cases h
 |d::ds,S,G,z,hw,hG,hS,h=>by
  obtain⟨j1,j2,j3,j4⟩:=mP 1 G S hw
  have jt:=OU G S hw
  rw[xan,cJ] at h
  show (iI [w,some (.lst (sD S)),some (.lst (gD G)),b,c,some d]).bind (iH 5 iI ds)=_
  unfold iI yZ yY eI
  rw[u4 (S:=S) (G:=G) (k:=1) rfl rfl rfl (by decide) hw hG hS,R.ok_bind]
  cases hj:join 1 G S with
  |mk S1 G1=>
   rw[hj] at j1 j2 j3 jt
   simp only[hj] at h
   show R.bind (R.bind (iG _ yX nW [w,some (.lst (sD S1)),some (.lst (gD G1)),b,c,some d]) _) _=_
   have hc:aJ (aC bG (aG aY (aA (aB 2) aD)) (eC (.int 0))) [w,some (.lst (sD S1)),some (.lst (gD G1)),b,c,some d]=.ok (decide (((gD G1).length:Int)=0)):=by
    kd_p
   unfold iG
   rw[hc]
   match G1,h,j1,j2,jt with
   |[],h,_,_,_=>rfl
   |.sig s::G2,_,_,_,jt=>exact xag rfl (jt s G2)
   |.opn::G2,h,j1,j2,_=>
    have h:cJ ds.length (S1,G2)=none:=h
    rw[xae (by rw[oJ];simp;omega)]
    show R.bind (pZ 2 [w,some (.lst (sD S1)),some (.lst (gD (.opn::G2))),b,c,some d]) _=_
    rw[N6 (xs:=gD G2) (d:=.str Sy.opn.str) (by rw[qX];rfl)]
    exact OV w b c ds S1 G2 (some d) j1 (by simp at j2;omega) (by have:S1.length<=S.length:=j3;omega) h
theorem OW(w b z4 z5:Option D)(A:List Sy)(S:List Tr):aJ (aC dR (tX (aB 2) (eC (.str "("))) (eC qL)) [w,some (.lst (sD S)),some (.lst (gD A)),b,z4,z5]=.ok (decide (8<(aZ A:Int))):=by
 kd_p
 have ec:tX (aB 2) (eC (.str "(")) [w,some (.lst (sD S)),some (.lst (gD A)),b,z4,z5]=.ok (.int (aZ A:Int)):=by
  show mI (.lst (gD A)) (.str "(")=_
  unfold mI
  simp only[zaY]
  rw[zU,zT]
 rw[ec,show qL=.int 8 from rfl];kd_p
theorem OX{w:List Nat}(hl:fP w<=10000)(hl':(rest w).length<=10000){S:List Tr}{G:List Sy}(hG:G.length<=1000)(h:8<aZ G+fP w):fZ [.str (ofL w),.lst (sD S),.lst (gD G)]=.err nt:=by
 have e:=AK w
 have:=N9 (OJ w) (o:=fP w) (by omega) (by omega) S G hG
 rw[<- e] at this
 rw[this]
 unfold uA LM eI iG
 rw[OW,u7,xab (by omega)];rfl
theorem zbu{w:List Nat}(hl:w.length<=900){S:List Tr}{G:List Sy}(hG:G.length<=1000)(hS:S.length<=1000)(hw:bS G=S.length) :
  (∀q,dM w (S,G)=.ok q->∃τ,fZ [.str (ofL w),.lst (sD S),.lst (gD G)]=.ok τ/\aK τ 1=.ok (sD q.1)/\aK τ 2=.ok (gD q.2))/\(dM w (S,G)=.err nt->fZ [.str (ofL w),.lst (sD S),.lst (gD G)]=.err nt):=by
 have e:=AK w
 have er:=OI w
 have hlen:=congrArg List.length e
 have hlr:=congrArg List.length er
 rw[xak,xbb] at hlen hlr
 by_cases h8:8<aZ G+fP w
 ·have:dM w (S,G)=.err nt:=by unfold dM;rw[xau h8]
  rw[this]
  exact⟨fun q hq=>(by cases hq),fun _=>OX (by omega) (by omega) hG h8⟩
 have hst:=N9 (OJ w) (o:=fP w) (by omega) (by omega) S G hG
 rw[<- e] at hst
 have hsw:dM w (S,G)=match fC (eM w) with
  |none=>.err nt
  |some t=>match cJ (gC w) (t::S,List.replicate (fP w) Sy.opn++G) with
   |some q=>.ok q
   |none=>.err nt:=by unfold dM;rw[xao h8];try rfl
 rw[hst,hsw]
 unfold uA eI iG
 rw[OW,u7,xae (by omega)]
 generalize hA:List.replicate (fP w) Sy.opn++G=A
 have hwA:bS A=S.length:=by rw[<- hA,N8,hw]
 have hAl:A.length<=2000:=by rw[<- hA,xak,xbb];omega
 show (∀q,_->∃τ,t9 [some (.str (ofL w)),some (.lst (sD S)),some (.lst (gD A)),some (.str (ofL (rest w))),none,none]=.ok τ/\_)/\(_->t9 [some (.str (ofL w)),some (.lst (sD S)),some (.lst (gD A)),some (.str (ofL (rest w))),none,none]=.err nt)
 unfold t9 LO LN eI
 have e1:pX [1,2] 4 (yQ (aB 3) (eC (.str ")"))) [some (.str (ofL w)),some (.lst (sD S)),some (.lst (gD A)),some (.str (ofL (rest w))),none,none]=.ok [some (.str (ofL w)),some (.lst (sD S)),some (.lst (gD A)),some (.str (ofL (rest w))),some (.str (ofL (eM w))),none]:=by
  show R.bind (bif bL (ofL (rest w)).length then R.ok (D.str (Txt.rstripChars (ofL (rest w)) ")")) else .bad) _=_
  have hrs:=zaV (gC w) (eM w) (zbi w)
  rw[<- er] at hrs
  rw[show bL (ofL (rest w)).length=true from xab (by rw[lo];exact xav (show _<=3000 by omega) (by decide)),hrs];rfl
 rw[e1,R.ok_bind]
 cases hf:fC (eM w) with
 |none=>
  have e2:nX [1,2] 1 (a7 jN (aA (aB 4) aD)) [some (.str (ofL w)),some (.lst (sD S)),some (.lst (gD A)),some (.str (ofL (rest w))),some (.str (ofL (eM w))),none]=.err nt:=by
   show R.bind (jN [.str (ofL (eM w))]) _=_
   rw[zbt (by omega) hf];rfl
  rw[e2]
  exact⟨fun q hq=>(by cases hq),fun _=>rfl⟩
 |some t=>
  obtain⟨l1,l2,l3⟩:=mT hf
  have e2:nX [1,2] 1 (a7 jN (aA (aB 4) aD)) [some (.str (ofL w)),some (.lst (sD S)),some (.lst (gD A)),some (.str (ofL (rest w))),some (.str (ofL (eM w))),none]=.ok [some (.str (ofL w)),some (.lst (sD (t::S))),some (.lst (gD A)),some (.str (ofL (rest w))),some (.str (ofL (eM w))),none]:=by
   show R.bind (jN [.str (ofL (eM w))]) _=_
   rw[<- l3,zaW l1 l2]
   show (bif most (sD S).length then R.ok _ else .bad)=_
   rw[k6 (by rw[N2];omega),uZ,l3];rfl
  rw[e2,R.ok_bind]
  have e3:eV iA (aA (aC gSub (aG aY (aA (aB 3) aD)) (aG aY (aA (aB 4) aD))) aD) [some (.str (ofL w)),none,none,some (.str (ofL (rest w))),some (.str (ofL (eM w))),none]=.ok (cH 0 (gC w)):=by
   have gl:∀l:List Nat,l.length<=3000->aY [.str (ofL l)]=.ok (.int (l.length:Int)):=fun l h=>by
    show (bif bL (ofL l).length then _ else _)=_
    rw[show bL (ofL l).length=true from xab (by rw[lo];exact xav h (by decide))]
    show R.ok (D.int ((ofL l).length:Int))=_
    rw[lo]
   kd_p
   rw[gl _ (by omega),gl _ (by omega)];kd_p
   rw[hlr,xY _ (pT (by omega) (by omega))]
   congr 2
   omega
  have hfo:∀σ5,yK [1,2] 5 (eV iA (aA (aC gSub (aG aY (aA (aB 3) aD)) (aG aY (aA (aB 4) aD))) aD)) iI [some (.str (ofL w)),some (.lst σ5),some (.lst (gD A)),some (.str (ofL (rest w))),some (.str (ofL (eM w))),none]=iH 5 iI (cH 0 (gC w)) [some (.str (ofL w)),some (.lst σ5),some (.lst (gD A)),some (.str (ofL (rest w))),some (.str (ofL (eM w))),none]:=fun σ5=>by
   show R.bind (eV iA (aA (aC gSub (aG aY (aA (aB 3) aD)) (aG aY (aA (aB 4) aD))) aD) [some (.str (ofL w)),none,none,some (.str (ofL (rest w))),some (.str (ofL (eM w))),none]) _=_
   rw[e3];rfl
  rw[hfo]
  have hrl:(cH 0 (gC w)).length=gC w:=by simp[cH]
  show (∀q,(match cJ (gC w) (t::S,A) with|some q=>R.ok q|none=>R.err nt)=.ok q->_)/\((match cJ (gC w) (t::S,A) with|some q=>R.ok q|none=>R.err nt)=.err nt->_)
  cases hc:cJ (gC w) (t::S,A) with
  |none=>
   rw[OV _ _ _ (cH 0 (gC w)) (t::S) A none (by rw[hwA];rfl) (by omega) (by simp;omega) (by rw[hrl];exact hc)]
   exact⟨fun q hq=>(by cases hq),fun _=>rfl⟩
  |some q1=>
   obtain⟨S',G'⟩:=q1
   obtain⟨z,e4⟩:=N7 (some (.str (ofL w))) (some (.str (ofL (rest w)))) (some (.str (ofL (eM w)))) (cH 0 (gC w)) (t::S) A none S' G' (by rw[hwA];rfl) (by omega) (by simp;omega) (by rw[hrl];exact hc)
   rw[e4]
   refine⟨fun q hq=>?_,fun hq=>(by cases hq)⟩
   cases hq
   exact⟨_,rfl,rfl,rfl⟩
end LmXe
open L2 DL Mir
namespace LmXf
open LmA LmY LmWa LmWb LmWc LmWd LmWf LmWg LmWh LmWj LmWk LmWl LmWm LmWn LmWo LmWp LmXa LmXb LmXc LmXd LmXe TxtA
theorem zbv{w:List Nat}(h:mV w=none):w≠[43]/\w≠[45]/\w≠[42]/\w≠[47]:=by
 refine⟨?_,?_,?_,?_⟩<;>(rintro rfl;cases h)
theorem zbw{w:List Nat}{S:List Tr}{G:List Sy}(hG:G.length<=1000)(hS:S.length<=1000)(hw:bS G+1=S.length) :
  (∀q,fI w (S,G)=.ok q->∃τ,iJ [.str (ofL w),.lst (sD S),.lst (gD G)]=.ok τ/\aK τ 1=.ok (sD q.1)/\aK τ 2=.ok (gD q.2))/\(fI w (S,G)=.err nt->iJ [.str (ofL w),.lst (sD S),.lst (gD G)]=.err nt):=by
 unfold fI
 cases h:mV w with
 |some s=>
  refine⟨fun q hq=>?_,fun hq=>(by cases hq)⟩
  cases hq
  rw[OK h,<- zX]
  exact zaZ s hG hS hw
 |none=>
  refine⟨fun q hq=>(by cases hq),fun _=>?_⟩
  obtain⟨h1,h2,h3,h4⟩:=zbv h
  rw[LU];unfold qN eI iG
  have hn:aJ (aC eG (aB 0) (eC qM)) [some (.str (ofL w)),some (.lst (sD S)),some (.lst (gD G))]=.ok true:=by
   have e:iT (.str (ofL w)) [.str (ofL [43]),.str (ofL [45]),.str (ofL [42]),.str (ofL [47])]=false:=by
    rw[show iT (.str (ofL w)) [.str (ofL [43]),.str (ofL [45]),.str (ofL [42]),.str (ofL [47])]=((ofL [43]==ofL w)||((ofL [45]==ofL w)||((ofL [42]==ofL w)||((ofL [47]==ofL w)||false)))) from by unfold iT;simp only[List.any_cons,List.any_nil];unfold bA;rfl,lI (xa6 h1),lI (xa6 h2),lI (xa6 h3),lI (xa6 h4)];rfl
   show R.bind (R.ok (D.bl (!iT (.str (ofL w)) [.str (ofL [43]),.str (ofL [45]),.str (ofL [42]),.str (ofL [47])]))) g6=_
   rw[e];rfl
  rw[hn];rfl
def dF(ws:List (List Nat)):List D:=(ws.map ofL).map D.str
theorem zbx{w:List Nat}{S:List Tr}{G:List Sy}{q:cO}(h:dM w (S,G)=.ok q)(hw:bS G=S.length):bS q.2+1=q.1.length/\q.1.length<=S.length+1/\aZ q.2<=8:=by
 unfold dM at h
 split at h
 ·cases h
 rename_i h8
 have h8:¬8<aZ G+fP w:=h8
 split at h
 ·cases h
 split at h
 ·rename_i t ht q' hc
  cases h
  obtain⟨c1,c2,c3⟩:=OP _ _ _ _ hc (by rw[N8];show bS G+1=S.length+1;omega)
  rw[u7] at c3
  have c3:aZ q.2<=fP w+aZ G:=c3
  exact⟨c1,c2,by omega⟩
 ·cases h
theorem AN(w0 ws0:Option D):∀(b:Bool) (ws:List (List Nat)) (p:cO) (j:Nat) (a c:Option D),(∀w∈ws,w.length<=900)->(b=true↔j%2=0)->(b=true↔ws.length%2=1)->Wf b p->p.1.length+ws.length<=200->
  (∀q,dE b ws p=.ok q->Wf false q/\q.1.length<=200/\∃a' c',cQ [4,5] (dI 2) fH (gR j (dF ws)) (st w0 ws0 p a c)=.ok (.nx (st w0 ws0 q a' c')))/\(dE b ws p=.err nt->cQ [4,5] (dI 2) fH (gR j (dF ws)) (st w0 ws0 p a c)=.err nt)
 |true,[],p,j,a,c,_,_,h,_,_=>by have:=h.mp rfl;cases this
 |false,[],p,j,a,c,_,_,_,hw,hl=>⟨fun q hq=>by cases hq;exact⟨hw,by have:p.1.length+0<=200:=hl;omega,a,c,rfl⟩,fun he=>by cases he⟩
 |true,w::ws,(S,G),j,a,c,hle,hb,ho,⟨hw,h8⟩,hl=>by
  have hj:j%2=0:=hb.mp rfl
  have hw:bS G=S.length:=hw
  have h8:aZ G<=8:=h8
  have hl:S.length+(ws.length+1)<=200:=hl
  have hG:G.length<=1000:=by have:=rJ G;omega
  have hodd:=ho.mp rfl
  rw[xan] at hodd
  have hf:cQ [4,5] (dI 2) fH (gR j (dF (w::ws))) (st w0 ws0 (S,G) a c)=eF (fH (st w0 ws0 (S,G) (some (.int (j:Int))) (some (.str (ofL w))))) (cQ [4,5] (dI 2) fH (gR (j+1) (dF ws))):=forL_two 4 5 _ _ _ _ _
  have hr:dE true (w::ws) (S,G)=(dM w (S,G)).bind (dE false ws):=rfl
  rw[hf,hr,OR hj]
  obtain⟨s1,s2⟩:=zbu (hle w (by simp)) hG (show S.length<=1000 by omega) hw
  rcases OO w (S,G) with⟨q,hq⟩|hq
  ·obtain⟨τ,e1,e2,e3⟩:=s1 q hq
   obtain⟨c1,c2,c3⟩:=zbx hq hw
   rw[hq,show ((fZ [.str (ofL w),.lst (sD S),.lst (gD G)]).bind fun τ=>(aK τ 1).bind fun xs'=>(aK τ 2).bind fun ys'=>R.ok (aE.nx [w0,ws0,some (.lst xs'),some (.lst ys'),some (.int (j:Int)),some (.str (ofL w))]))=.ok (.nx (st w0 ws0 q (some (.int (j:Int))) (some (.str (ofL w))))) from by rw[e1,R.ok_bind,e2,R.ok_bind,e3];rfl,iS]
   exact AN w0 ws0 false ws q (j+1) _ _ (fun v hv=>hle v (by simp[hv])) ⟨fun h=>(by cases h),fun h=>(by omega)⟩ ⟨fun h=>(by cases h),fun h=>(by omega)⟩ ⟨c1,c3⟩ (by omega)
  ·rw[hq,s2 hq]
   exact⟨fun q hq=>(by cases hq),fun _=>rfl⟩
 |false,w::ws,(S,G),j,a,c,hle,hb,ho,⟨hw,h8⟩,hl=>by
  have hj:j%2=1:=by
   rcases Nat.mod_two_eq_zero_or_one j with hz|hz
   ·exact xag (hb.mpr hz) (by simp)
   ·exact hz
  have hev:(w::ws).length%2=0:=by
   rcases Nat.mod_two_eq_zero_or_one (w::ws).length with hz|hz
   ·exact hz
   ·exact xag (ho.mpr hz) (by simp)
  rw[xan] at hev
  have hw:bS G+1=S.length:=hw
  have h8:aZ G<=8:=h8
  have hl:S.length+(ws.length+1)<=200:=hl
  have hG:G.length<=1000:=by have:=rJ G;omega
  have hf:cQ [4,5] (dI 2) fH (gR j (dF (w::ws))) (st w0 ws0 (S,G) a c)=eF (fH (st w0 ws0 (S,G) (some (.int (j:Int))) (some (.str (ofL w))))) (cQ [4,5] (dI 2) fH (gR (j+1) (dF ws))):=forL_two 4 5 _ _ _ _ _
  have hr:dE false (w::ws) (S,G)=(fI w (S,G)).bind (dE true ws):=rfl
  rw[hf,hr,zbp hj]
  obtain⟨s1,s2⟩:=zbw (w:=w) hG (show S.length<=1000 by omega) hw
  cases hs:mV w with
  |some s=>
   have hq:fI w (S,G)=.ok ((join (aI s) G S).1,.sig s::(join (aI s) G S).2):=by unfold fI;rw[hs]
   obtain⟨τ,e1,e2,e3⟩:=s1 _ hq
   obtain⟨j1,j2,j3,j4⟩:=mP (aI s) G S hw
   rw[hq,show ((iJ [.str (ofL w),.lst (sD S),.lst (gD G)]).bind fun τ=>(aK τ 1).bind fun xs'=>(aK τ 2).bind fun ys'=>R.ok (aE.nx [w0,ws0,some (.lst xs'),some (.lst ys'),some (.int (j:Int)),some (.str (ofL w))]))=.ok (.nx (st w0 ws0 ((join (aI s) G S).1,.sig s::(join (aI s) G S).2) (some (.int (j:Int))) (some (.str (ofL w))))) from by rw[e1,R.ok_bind,e2,R.ok_bind,e3];rfl,iS]
   exact AN w0 ws0 true ws (_,_) (j+1) _ _ (fun v hv=>hle v (by simp[hv])) ⟨fun _=>(by omega),fun _=>rfl⟩ ⟨fun _=>(by omega),fun _=>rfl⟩ ⟨j1,by show aZ (join (aI s) G S).2<=8;omega⟩ (by show (join (aI s) G S).1.length+ws.length<=200;omega)
  |none=>
   have hq:fI w (S,G)=.err nt:=by unfold fI;rw[hs]
   rw[hq,s2 hq]
   exact⟨fun q hq=>(by cases hq),fun _=>rfl⟩
theorem zby{l w:List Nat}(h:w∈LmO.cutW l):w.length<=l.length:=by
 have h2:∀ws:List (List Nat),∀w∈ws,w.length<=(TxtA.flat [32] ws).length:=by
  intro ws
  induction ws with
  |nil=>intro w hw;simp at hw
  |cons v ws ih=>
   intro w hw
   cases ws with
   |nil=>simp at hw;subst hw;exact xaf _
   |cons u ws=>
    rw[flat_cons _ _ (by simp)]
    simp only[xak,xan,xbs]
    rcases xal.mp hw with rfl|hw
    ·omega
    ·have:=ih w hw;omega
 have:=h2 (LmO.cutW l) w h
 rw[LmO.flat_cutW] at this
 exact this
theorem AO(l:List Nat)(hl:l.length<=100000):∀(ok:Bool),(ok=decide ((LmO.cutW l).length%2=1/\(LmO.cutW l).length/2<=60))->
  fA [.str (ofL l)]=bif ok then fin (mL (st (some (.str (ofL l))) (some (.lst (dF (LmO.cutW l)))) ([],[]) none none)) else .err nt:=by
 intro ok hok
 have e:yH (aB 0) (eC (.str " ")) [some (.str (ofL l)),none,none,none,none,none]=.ok (dF (LmO.cutW l)):=LmO.words_okF l (by omega)
 rw[L3];unfold qO;kd_p
 rw[show ∀x:Str,g2 bH [.str x,.ty "str"]=.ok (.bl true) from fun _=>rfl];kd_p
 unfold LZ;kd_p
 rw[e];kd_p
 unfold LY;kd_p
 have hw:(dF (LmO.cutW l)).length=(LmO.cutW l).length:=by unfold dF;simp
 have hm:bK (.int ((dF (LmO.cutW l)).length:Int)) (.int 2)=.ok (.int (((LmO.cutW l).length%2:Nat):Int)):=by
  rw[hw]
  kpf_c
  congr 2
 have hd:dQ (.int ((dF (LmO.cutW l)).length:Int)) (.int 2)=.ok (.int (((LmO.cutW l).length/2:Nat):Int)):=by
  rw[hw,mG _ _ (by decide +kernel) (by decide)]
  congr 2
 rw[hm];kd_p
 generalize (LmO.cutW l).length=n at *
 by_cases h0:n%2=0
 ·rw[xab (by omega)];kd_p
  rw[hok,xae (by omega)];rfl
 ·rw[xae (by omega)];kd_p
  rw[hd];kd_p
  rw[show uC=.int 60 from rfl];kd_p
  by_cases h6:60<n/2
  ·rw[xab (by omega)];kd_p
   rw[hok,xae (by omega)];rfl
  ·rw[xae (by omega)];kd_p
   rw[hok,xab (by omega)]
   unfold LX;kd_p
   unfold LW;kd_p
   rfl
theorem OY(l:List Nat):gF [3,2] [4,5] (dI 2) (eV yG (aA (aB 1) aD)) fH (st (some (.str (ofL l))) (some (.lst (dF (LmO.cutW l)))) ([],[]) none none)=cQ [4,5] (dI 2) fH (gR 0 (dF (LmO.cutW l))) (st (some (.str (ofL l))) (some (.lst (dF (LmO.cutW l)))) ([],[]) none none):=rfl
theorem zbz(l:List Nat)(hl:l.length<=900):(∀t,LmXd.sumL (LmO.cutW l)=.ok t->fA [.str (ofL l)]=.ok t.d)/\(LmXd.sumL (LmO.cutW l)=.err nt->fA [.str (ofL l)]=.err nt):=by
 have hh:=AO l (by omega) _ rfl
 rw[hh]
 unfold LmXd.sumL
 by_cases hc:(LmO.cutW l).length%2=0\/60<(LmO.cutW l).length/2
 ·rw[xau hc,xae (by omega)]
  exact⟨fun t ht=>(by cases ht),fun _=>rfl⟩
 rw[xao hc,xab (by omega)]
 obtain⟨l1,l2⟩:=AN (some (.str (ofL l))) (some (.lst (dF (LmO.cutW l)))) true (LmO.cutW l) ([],[]) 0 none none (fun w hw=>xav (zby hw) hl) ⟨fun _=>rfl,fun _=>rfl⟩ ⟨fun _=>(by omega),fun _=>rfl⟩ ⟨rfl,by decide⟩ (by show 0+_<=200;omega)
 show (∀t,lO (LmO.cutW l)=.ok t->fin (mL _)=.ok t.d)/\(_->fin (mL _)=.err nt)
 unfold mL lO
 rw[c4,OY]
 rcases vH true (LmO.cutW l) ([],[]) with⟨q,hr⟩|hr
 ·obtain⟨⟨w1,w2⟩,w3,a,c,e⟩:=l1 q hr
  rw[e,hr]
  have w1:bS q.2+1=q.1.length:=w1
  have w2:aZ q.2<=8:=w2
  have hG:=rJ q.2
  have hcj:=u4 (own:=[3,2]) (i:=2) (j:=3) (fe:=eC (.int 1)) (O:=st (some (.str (ofL l))) (some (.lst (dF (LmO.cutW l)))) q a c) (S:=q.1) (G:=q.2) (k:=1) rfl rfl rfl (by decide) w1 (by omega) (by omega)
  obtain⟨j1,j2,j3,j4⟩:=mP 1 q.2 q.1 w1
  show (∀t,iY q=.ok t->fin (uD _)=.ok t.d)/\(iY q=.err nt->fin (uD _)=.err nt)
  unfold uD iY
  rw[c4]
  show (∀t,_->fin (eQ ((gT [3,2] 2 3 gL (eC (.int 1)) (st (some (.str (ofL l))) (some (.lst (dF (LmO.cutW l)))) q a c)).bind fun O=>.ok (.nx O)) mK)=_)/\(_->fin (eQ ((gT [3,2] 2 3 gL (eC (.int 1)) (st (some (.str (ofL l))) (some (.lst (dF (LmO.cutW l)))) q a c)).bind fun O=>.ok (.nx O)) mK)=_)
  rw[hcj]
  cases hj:join 1 q.2 q.1 with
  |mk S1 G1=>
   rw[hj] at j1
   show (∀t,_->fin (mK [some (.str (ofL l)),some (.lst (dF (LmO.cutW l))),some (.lst (sD S1)),some (.lst (gD G1)),a,c])=_)/\(_->fin (mK [some (.str (ofL l)),some (.lst (dF (LmO.cutW l))),some (.lst (sD S1)),some (.lst (gD G1)),a,c])=_)
   have h7:fin (mK [some (.str (ofL l)),some (.lst (dF (LmO.cutW l))),some (.lst (sD S1)),some (.lst (gD G1)),a,c])=bif decide (0<((gD G1).length:Int)) then .err nt else aW (.lst (sD S1)) (.int 0):=by
    unfold mK;kd_p
    cases decide (0<((gD G1).length:Int)) with
    |true=>rfl
    |false=>
     unfold LV
     show fin ((aW (.lst (sD S1)) (.int 0)).bind fun d=>.ok (.rt d))=_
     cases aW (.lst (sD S1)) (.int 0)<;>rfl
   rw[h7,oJ]
   match S1,G1,j1 with
   |t::S2,[],j1=>
    have:S2=[]:=by
     have j1:0+1=S2.length+1:=j1
     exact xb0.mp (by omega)
    subst this
    exact⟨fun u hu=>(by cases hu;rfl),fun hu=>(by cases hu)⟩
   |[],_,j1=>have j1:_+1=0:=j1;omega
   |t::S2,y::G2,j1=>
    rw[xab (by simp)]
    exact⟨fun u hu=>(by cases hu),fun _=>rfl⟩
 ·rw[l2 hr,hr]
  exact⟨fun t ht=>(by cases ht),fun _=>rfl⟩
end LmXf
open L2 DL Mir
namespace LmXg
open LmA LmY LmWa LmWb LmWc LmWd LmWf LmWg LmWh LmWj LmWk LmWl LmWm LmWn LmWo LmWp LmXa LmXb LmXc LmXd LmXe LmXf TxtA
theorem OZ(n d:Nat)(o:Option Int)(hd:d<=n):(match o with|none=>(d:Int)|some i=>max 0 (min (if i<0 then i+(n:Int) else i) (n:Int)))=((HT.sIx n d o:Nat):Int):=by
 cases o with
 |none=>rfl
 |some i=>
  show max 0 (min (if i<0 then i+(n:Int) else i) (n:Int))=(((if i<0 then (i+(n:Int)).toNat else min i.toNat n):Nat):Int)
  by_cases h:i<0
  ·rw[xau h,xau h];omega
  ·rw[xao h,xao h];omega
theorem zbA(n:Nat)(lo hi:Option Int):Builtin.Str.strSliceIndices lo hi 1 n=(List.range (HT.sIx n n hi-HT.sIx n 0 lo)).map (fun k=>HT.sIx n 0 lo+k):=by
 have h1:=OZ n 0 lo (xbz _)
 have h2:=OZ n n hi (xaf _)
 have l1:=HT.sIx_le n 0 (xbz _) lo
 have l2:=HT.sIx_le n n (xaf _) hi
 generalize HT.sIx n 0 lo=a at *
 generalize HT.sIx n n hi=b at *
 have e:Builtin.Str.strSliceIndices lo hi 1 n=sliceRange (a:Int) (b:Int) 1:=by
  rw[<- h1,<- h2]
  unfold Builtin.Str.strSliceIndices
  simp only[show (1:Int)>0 by decide,if_true]
  rfl
 rw[e]
 unfold sliceRange
 simp only[show (1:Int)>0 by decide,if_true]
 by_cases h:(a:Int)<b
 ·rw[xau h,show (((b:Int)-a+1-1)/1).toNat=b-a by rw[Int.ediv_one];omega]
  refine List.map_congr_left fun k _=>?_
  omega
 ·rw[xao h,show b-a=0 by omega];rfl
theorem zbB(l:List Nat)(lo hi:Option Int):jI (ofL l) lo hi=ofL (bZ l lo hi):=by
 have hp:slicePicked (ofL l) (iF lo) (iF hi) none=(List.range (HT.sIx l.length l.length hi-HT.sIx l.length 0 lo)).map (fun k=>HT.sIx l.length 0 lo+k):=by
  rw[<- zbA,<- LmWl.lo l]
  unfold slicePicked iF
  cases lo<;>cases hi<;>rfl
 have l1:=HT.sIx_le l.length 0 (xbz _) lo
 have l2:=HT.sIx_le l.length l.length (xaf _) hi
 unfold jI bZ
 rw[hp,xat,List.length_range,LmWl.lo l]
 generalize HT.sIx l.length 0 lo=a at *
 generalize HT.sIx l.length l.length hi=b at *
 by_cases h:(b-a==l.length)=true
 ·rw[xau h]
  have h:=eq_of_beq h
  rcases Nat.eq_zero_or_pos l.length with hz|hz
  ·rw[xb0.mp hz];simp
  ·rw[show a=0 by omega,show b-0=l.length by omega,xde,List.take_length]
 ·rw[xao h]
  have:((List.range (b-a)).map (fun k=>a+k)).filterMap ((ofL l).cps[·]?)=(l.drop a).take (b-a):=by
   rcases Nat.lt_or_ge b a with hab|hab
   ·rw[show b-a=0 by omega];simp
   ·have:=StrLaws.picks l (b-a) a (by omega)
    simpa [ofL] using this
  rw[this];rfl
theorem zbC(l:List Nat)(h:l.length<=1000000)(lo hi:Option Int):tQ (.str (ofL l)) lo hi=.ok (.str (ofL (bZ l lo hi))):=by
 show (bif bL (jI (ofL l) lo hi).length then _ else _)=_
 rw[zbB,show bL (ofL (bZ l lo hi)).length=true from xab (by
  rw[LmWl.lo _]
  refine xav ?_ (xav h (by decide))
  unfold bZ
  rw[xbi,xbj]
  omega)];rfl
theorem gX{fe:DSt->R D}{fl fh:DSt->R (Option Int)}{O:DSt}{l:List Nat}{lo hi:Option Int}(h1:fe O=.ok (.str (ofL l)))(h2:fl O=.ok lo)(h3:fh O=.ok hi)(h:l.length<=1000000):cN fe fl fh O=.ok (.str (ofL (bZ l lo hi))):=by
 unfold cN
 rw[h1,R.ok_bind,h2,R.ok_bind,h3,R.ok_bind,zbC l h]
theorem vI(l:List Nat)(n:Nat):bZ l none (some (n:Int))=l.take n:=by
 unfold bZ
 rw[HT.sIx_none,HT.sIx_nat,xde,Nat.sub_zero,<- List.take_eq_take_min]
theorem vJ(l:List Nat)(n:Nat):bZ l (some (n:Int)) none=l.drop n:=by
 unfold bZ
 rw[HT.sIx_none,HT.sIx_nat]
 rcases Nat.lt_or_ge l.length n with h|h
 ·rw[Nat.min_eq_right (by omega),xc5,List.drop_eq_nil_of_le (by omega)];simp
 ·rw[xb7 h,List.take_of_length_le (by rw[xbj];omega)]
theorem zbD(l:List Nat):bZ l (some (-1)) none=l.drop (l.length-1):=by
 unfold bZ
 rw[HT.sIx_none]
 have:HT.sIx l.length 0 (some (-1))=l.length-1:=by
  show (if (-1:Int)<0 then ((-1:Int)+(l.length:Int)).toNat else min (-1:Int).toNat l.length)=_
  rw[xau (by decide)];omega
 rw[this,List.take_of_length_le (by rw[xbj];omega)]
theorem zbE(l:List Nat):bZ (40::(l++[41])) (some 1) (some (-1))=l:=by
 unfold bZ
 have e1:HT.sIx (40::(l++[41])).length 0 (some 1)=1:=by
  have:=HT.sIx_nat (40::(l++[41])).length 0 1
  rw[show ((1:Nat):Int)=1 from rfl] at this
  rw[this];simp
 have e2:HT.sIx (40::(l++[41])).length (40::(l++[41])).length (some (-1))=l.length+1:=by
  show (if (-1:Int)<0 then ((-1:Int)+((40::(l++[41])).length:Int)).toNat else min (-1:Int).toNat (40::(l++[41])).length)=_
  rw[xau (by decide)];simp;omega
 rw[e1,e2]
 show (l++[41]).take (l.length+1-1)=l
 simp
theorem zbF(m:List Nat)(c:Nat)(r:List Nat):(bZ (m++c::r) (some ((m.length:Int)-1)) (some (m.length:Int))=[32]↔m.getLast? = some 32)/\(bZ (m++c::r) (some ((m.length:Int)+1)) (some ((m.length:Int)+2))=[32]↔r.head? = some 32):=by
 constructor
 ·rcases xb5 m with rfl|⟨m',x,h⟩
  ·have:bZ ([]++c::r) (some ((([]:List Nat).length:Int)-1)) (some (([]:List Nat).length:Int))=[]:=by
    unfold bZ
    have e2:HT.sIx ([]++c::r).length ([]++c::r).length (some (([]:List Nat).length:Int))=0:=by rw[HT.sIx_nat];simp
    rw[e2];simp
   rw[this];simp
  ·rw[xb6] at h
   subst h
   have:bZ (m'++[x]++c::r) (some (((m'++[x]).length:Int)-1)) (some ((m'++[x]).length:Int))=[x]:=by
    rw[show (((m'++[x]).length:Int)-1)=((m'.length:Nat):Int) by simp,show ((m'++[x]).length:Int)=((m'.length+1:Nat):Int) by simp]
    unfold bZ
    rw[HT.sIx_nat,HT.sIx_nat,xb7 (by simp),xb7 (by simp),show m'.length+1-m'.length=1 by omega,xa5,xc4]
    simp
   rw[this];simp
 ·rw[show ((m.length:Int)+1)=((m.length+1:Nat):Int) by omega,show ((m.length:Int)+2)=((m.length+2:Nat):Int) by omega]
  unfold bZ
  rw[HT.sIx_nat,HT.sIx_nat,xb7 (show m.length+1<=(m++c::r).length by simp)]
  cases r with
  |nil=>simp
  |cons x r=>
   rw[xb7 (by simp),show m.length+2-(m.length+1)=1 by omega,show m++c::x::r=(m++[c])++x::r by simp,xc4]
   simp
theorem mW(a b:List Nat):bG (.str (ofL a)) (.str (ofL b))=.ok (.bl (decide (a=b))):=by
 rw[mH (show fW (.str (ofL a)) (.str (ofL b))=true from rfl)]
 congr 2
 unfold bA
 show decide (ofL a=ofL b)=_
 rw[decide_eq_decide]
 exact⟨LmWg.ofL_inj,fun h=>by rw[h]⟩
theorem AQ{l:List Nat}{i c:Nat}(h:l[i]? = some c)(hl:l.length<=1000000):cG (.str (ofL l)) (.int (i:Int))=.ok (.str (ofL [c])):=by
 have hi:i<l.length:=(xah.mp h).1
 have e:(ofL l).cps[(i:Int).toNat]? = some c:=by rw[xbk];simpa [ofL] using h
 have hb:Nat.blt (i:Int).natAbs 1073741824=true:=by rw[Int.natAbs_natCast];exact Nat.ble_eq.mpr (show i+1<=1073741824 by omega)
 show (bif decide (0<=(i:Int))&&Nat.blt (i:Int).natAbs 1073741824 then (match (ofL l).cps[(i:Int).toNat]? with
  |some c=>R.ok (D.str (sign c))
  |none=>.bad) else .bad)=_
 rw[e,hb,xab (by omega)];rfl
def lP:Option Nat->Int
 |none=>-1
 |some i=>(i:Int)
theorem O0(c:Nat):cV (.str (ofL [c])) (.str "+-")=.ok (.bl (cW 1 c)):=by
 show R.ok (D.bl (!(Builtin.Str.occurrences ("+-":Str) ⟨#[c]⟩ 0 ("+-":Str).length 1).isEmpty))=_
 rw[StrLaws.found_one,show ("+-":Str).cps.toList=[43,45] from rfl]
 congr 2
 rw[xbc];simp[cW]
theorem O1(c:Nat):cV (.str (ofL [c])) (.str "*/")=.ok (.bl (cW 2 c)):=by
 show R.ok (D.bl (!(Builtin.Str.occurrences ("*/":Str) ⟨#[c]⟩ 0 ("*/":Str).length 1).isEmpty))=_
 rw[StrLaws.found_one,show ("*/":Str).cps.toList=[42,47] from rfl]
 congr 2
 rw[xbc];simp[cW]
section
variable{k:Nat}{sg:Str}(hsg:∀c:Nat,cV (.str (ofL [c])) (.str sg)=.ok (.bl (cW k c)))
include hsg
theorem zbG(m:List Nat)(c:Nat)(r:List Nat)(hl:(m++c::r).length<=1000)(acc:Option Nat):∃acc',oG [some (.str (ofL (m++c::r))),some (.str sg),some (.int (dp m)),some (.int (lP acc)),some (.int (m.length:Int))]=.ok (.nx [some (.str (ofL (m++c::r))),some (.str sg),some (.int (dd (dp m) c)),some (.int (lP acc')),some (.int (m.length:Int))])/\acc'=(if dd (dp m) c=0/\cW k c=true/\m.getLast? = some 32/\r.head? = some 32 then some m.length else acc):=by
 refine⟨_,?_,rfl⟩
 obtain⟨o1,o2⟩:=zbF m c r
 have hx:cG (.str (ofL (m++c::r))) (.int (m.length:Int))=.ok (.str (ofL [c])):=AQ (by simp) (by omega)
 unfold oG;kd_p
 rw[hx];kd_p
 rw[show (D.str "(")=.str (ofL [40]) from rfl,show (D.str ")")=.str (ofL [41]) from rfl,mW,mW];kd_p
 have hd:(dp m+if decide ([c]=[40])=true then (1:Int) else 0)-(if decide ([c]=[41])=true then (1:Int) else 0)=dd (dp m) c:=by unfold dd;simp
 rw[hd]
 generalize hg:dd (dp m) c=g
 unfold M7;kd_p
 by_cases h0:g=0
 ·rw[xab h0];kd_p
  rw[hx];kd_p
  rw[hsg];kd_p
  cases hs:cW k c with
  |false=>
   kd_p
   rw[xao (by simp)]
  |true=>
   kd_p
   rw[gX (l:=m++c::r) (lo:=some ((m.length:Int)-1)) (hi:=some (m.length:Int)) rfl rfl rfl (by omega)];kd_p
   rw[show (D.str " ")=.str (ofL [32]) from rfl,mW];kd_p
   by_cases h1:m.getLast? = some 32
   ·rw[xab (o1.mpr h1)];kd_p
    rw[gX (l:=m++c::r) (lo:=some ((m.length:Int)+1)) (hi:=some ((m.length:Int)+2)) rfl rfl rfl (by omega)];kd_p
    rw[mW];kd_p
    by_cases h2:r.head? = some 32
    ·rw[xab (o2.mpr h2)];kd_p
     rw[xau ⟨h0,trivial,h1,h2⟩];rfl
    ·rw[xae (fun e=>h2 (o2.mp e))];kd_p
     rw[xao (fun e=>h2 e.2.2.2)]
   ·rw[xae (fun e=>h1 (o1.mp e))];kd_p
    rw[xao (fun e=>h1 e.2.2.1)]
 ·rw[xae h0];kd_p
  rw[xao (fun e=>h0 e.1)]
theorem O2:∀(r m:List Nat) (acc:Option Nat) (z:Option D),(m++r).length<=1000->∃d z',cQ [4] bQ oG (cH (m.length:Int) r.length) [some (.str (ofL (m++r))),some (.str sg),some (.int (dp m)),some (.int (lP acc)),z]=.ok (.nx [some (.str (ofL (m++r))),some (.str sg),some (.int d),some (.int (lP (dA k m.getLast? (dp m) m.length acc r))),z'])
 |[],m,acc,z,_=>⟨_,z,rfl⟩
 |c::r,m,acc,z,hl=>by
  obtain⟨acc',e1,e2⟩:=zbG hsg m c r hl acc
  have em:m++c::r=(m++[c])++r:=by simp
  obtain⟨d,z',e3⟩:=O2 r (m++[c]) acc' (some (.int (m.length:Int))) (by rw[<- em];exact hl)
  have f1:(m++[c]).getLast? = some c:=by simp
  have f2:dp (m++[c])=dd (dp m) c:=by unfold dp;rw[xc1];rfl
  have f3:(m++[c]).length=m.length+1:=by simp
  rw[f1,f2,f3,<- em] at e3
  refine⟨d,z',?_⟩
  have hr:cH (m.length:Int) (c::r).length=.int (m.length:Int)::cH ((m.length+1:Nat):Int) r.length:=by
   unfold cH
   rw[xan,List.range_succ_eq_map,xbl,xcm]
   rw[show (m.length:Int)+((0:Nat):Int)=(m.length:Int) by omega]
   congr 1
   refine List.map_congr_left fun i _=>?_
   show D.int ((m.length:Int)+((i+1:Nat):Int))=D.int (((m.length+1:Nat):Int)+(i:Int))
   congr 1;omega
  rw[hr,jH]
  show eF (oG [some (.str (ofL (m++c::r))),some (.str sg),some (.int (dp m)),some (.int (lP acc)),some (.int (m.length:Int))]) _=_
  rw[e1,iS,e3,e2];rfl
theorem O3(l:List Nat)(hl:l.length<=1000):oH [.str (ofL l),.str sg]=.ok (.int (lP (last k l))):=by
 obtain⟨d,z,e⟩:=O2 hsg l [] none none (by simpa using hl)
 rw[zaw];unfold uQ NA M9;kd_p
 rw[Lk31.gLen_s (by rw[LmWl.lo];omega),LmWl.lo];kd_p
 rw[xY _ (pT (by omega) (by omega)),xbk];kd_p
 rw[show cQ [4] bQ oG (cH 0 l.length) [some (.str (ofL l)),some (.str sg),some (.int 0),some (.int (-1)),none]=_ from e];kd_p
 unfold M8;kd_p
 rfl
end
end LmXg
open L2 DL Mir
namespace Lk56
open LmA LmY LmWa LmWb LmWc LmWd LmWf LmWg LmWh LmWj LmWk LmWl LmWm LmWn LmWo LmWp TxtA
open LmC (cell uW)
theorem alone_ok:oE [nt]=.ok (.bl true):=by
 rw[zan];unfold uO M2 M1 M0 MZ MY;kd_p
 simp only[e9 (show cF "NoText" "NoPlace"=some false by decide +kernel),e9 (show cF "NoText" "Same"=some false by decide +kernel),e9 (show cF "NoText" "NoFloor"=some false by decide +kernel),e9 (show cF "NoText" "Endless"=some false by decide +kernel),e9 (show cF "NoText" "NoDeed"=some false by decide +kernel),e9 (show cF "NoText" "NoText"=some true by decide +kernel),e9 (show cF "NoText" "NoName"=some false by decide +kernel),e9 (show cF "NoText" "TooMany"=some false by decide +kernel),e9 (show cF "NoText" "NoChange"=some false by decide +kernel),e9 (show cF "NoText" "NoFrame"=some false by decide +kernel),e9 (show cF "NoText" "NoValue"=some false by decide +kernel),e9 (show cF "NoText" "Unlike"=some false by decide +kernel),e9 (show cF "NoText" "NoRatio"=some false by decide +kernel),e9 (show cF "NoText" "NoBow"=some false by decide +kernel),e9 (show cF "NoText" "NoRow"=some false by decide +kernel),e9 (show cF "NoText" "ChalkError"=some true by decide +kernel)]
 kd_p
 rfl
theorem vK(n:Nat)(x:Str):gU (n+1) [.str x,.str x]=.ok (.bl true):=by
 rw[y9];unfold lG;kd_p
 rw[show g2 bH [.str x,.ty "tuple"]=.ok (.bl false) from rfl];kd_p
 unfold y8;kd_p
 rw[show g2 bH [.str x,.ty "str"]=.ok (.bl true) from rfl];kd_p
 rw[show g2 bH [.str x,.ty "str"]=.ok (.bl true) from rfl];kd_p
 rw[mH (show fW (.str x) (.str x)=true from rfl),wV 9 (.str x) rfl];kd_p
theorem zbH(n:Nat)(i:Int):gU (n+1) [.int i,.int i]=.ok (.bl true):=by
 rw[y9];unfold lG;kd_p
 rw[show g2 bH [.int i,.ty "tuple"]=.ok (.bl false) from rfl];kd_p
 unfold y8;kd_p
 rw[show g2 bH [.int i,.ty "str"]=.ok (.bl false) from rfl];kd_p
 unfold MX;kd_p
 rw[zaB];kd_p
theorem O4(n:Nat)(x y:Option D):∀(ds:List D) (a b:Option D),(∀d∈ds,gU n [d,d]=.ok (.bl true))->∃a' b',cQ [2,3] (dI 2) (uM (gU n)) (jL ds ds) [x,y,a,b]=.ok (.nx [x,y,a',b'])
 |[],a,b,_=>⟨a,b,rfl⟩
 |d::ds,a,b,h=>by
  obtain⟨a',b',e⟩:=O4 n x y ds (some d) (some d) (fun d' hd=>h d' (by simp[hd]))
  refine⟨a',b',?_⟩
  rw[show jL (d::ds) (d::ds)=.tup [d,d]::jL ds ds from rfl,forL_two]
  show eF (uM (gU n) [x,y,some d,some d]) _=_
  unfold uM;kd_p
  rw[h d (by simp)];kd_p
  exact e
theorem AR(n:Nat)(ds:List D)(h:∀d∈ds,gU n [d,d]=.ok (.bl true)):gU (n+1) [.tup ds,.tup ds]=.ok (.bl true):=by
 obtain⟨a,b,e⟩:=O4 n (some (.tup ds)) (some (.tup ds)) ds none none h
 rw[y9];unfold lG;kd_p
 unfold MW;kd_p
 rw[show aY [.tup ds]=.ok (.int (ds.length:Int)) from rfl];kd_p
 unfold MV;kd_p
 rw[show pU [.tup ds,.tup ds]=.ok (jL ds ds) from by
  show (bif ds.length==ds.length then R.ok (jL ds ds) else .bad)=_
  rw[beq_self_eq_true];rfl];kd_p
 rw[e];kd_p
 unfold MU;kd_p
theorem like_ok:∀(t:Tr) (n:Nat),t.many<=n->gU (n+1) [t.d,t.d]=.ok (.bl true)
 |.nm x,n,h=>by
  obtain⟨j,rfl⟩:∃j,n=j+1:=⟨n-1,by have:1<=n:=h;omega⟩
  refine AR _ _ fun d hd=>?_
  simp only[xal,xa2,or_false] at hd
  rcases hd with rfl|rfl
  ·exact vK _ _
  ·exact vK _ _
 |.nb x,n,h=>by
  obtain⟨j,rfl⟩:∃j,n=j+1:=⟨n-1,by have:1<=n:=h;omega⟩
  refine AR _ _ fun d hd=>?_
  simp only[xal,xa2,or_false] at hd
  rcases hd with rfl|rfl
  ·exact vK _ _
  ·exact zbH _ _
 |.op s a b,n,h=>by
  have pa:=a.pos
  have pb:=b.pos
  have hm:(Tr.op s a b).many=a.many+b.many:=rfl
  obtain⟨j,rfl⟩:∃j,n=j+1:=⟨n-1,by omega⟩
  refine AR _ _ fun d hd=>?_
  simp only[xal,xa2,or_false] at hd
  rcases hd with rfl|rfl|rfl
  ·exact vK _ _
  ·exact like_ok a j (by omega)
  ·exact like_ok b j (by omega)
theorem refused_ok{l:List Nat}(h:fA [.str (ofL l)]=.err nt):gV [.str (ofL l)]=.ok (.bl true):=by
 rw[M3];unfold qR zB zA;kd_p
 rw[h];kd_p
 rw[ID _ _ _ _ _ _ (show cF "NoText" "ChalkError"=some true by decide +kernel)];kd_p
 rw[e9 (show cF "NoText" "NoText"=some true by decide +kernel)];kd_p
 rw[alone_ok];kd_p
end Lk56
open L2 DL Mir
namespace LmXh
open LmA LmY LmWa LmWb LmWc LmWd LmWf LmWg LmWh LmWj LmWk LmWl LmWm LmWn LmWo LmWp LmXa LmXb LmXc LmXd LmXe LmXf LmXg TxtA
def cX:Option Tr->D
 |none=>.non
 |some t=>t.d
theorem O5{α:Type}{xs:List α}{f:α->D}{c:DSt->R Bool}{O:DSt}{p:α->Bool}(hl:xs.length<=1000000)(hc:∀a∈xs,c (some (f a)::O)=.ok (p a)):nU 1 [0] (.ok (xs.map f)) bQ c (aB 0) O=.ok ((xs.filter p).map f):=by
 have go:∀xs:List α,(∀a∈xs,c (some (f a)::O)=.ok (p a))->fM [0] bQ c (aB 0) (List.replicate 1 none++O) (xs.map f)=.ok ((xs.filter p).map f):=by
  intro xs
  induction xs with
  |nil=>intro _;rfl
  |cons d ds ih=>
   intro hc
   have ih':=ih (fun d' hd=>hc d' (xar _ hd))
   show (c (some (f d)::O)).bind (fun k=>bif k then (aB 0 (some (f d)::O)).bind (fun y=>(fM [0] bQ c (aB 0) (List.replicate 1 none++O) (ds.map f)).bind fun ys=>.ok (y::ys)) else fM [0] bQ c (aB 0) (List.replicate 1 none++O) (ds.map f))=_
   rw[hc d xa4,ih']
   cases hp:p d with
   |true=>rw[List.filter_cons_of_pos hp];rfl
   |false=>rw[List.filter_cons_of_neg (by rw[hp];exact xa1)];rfl
 show (bif most (xs.map f).length then _ else _)=_
 rw[k6 (by rw[xat];exact hl),go xs hc];rfl
theorem O6(l:List Nat):bG (.lst (l.map fun c=>D.str (sign c))) (.lst [])=.ok (.bl l.isEmpty)/\fN (.lst (l.map fun c=>D.str (sign c))) (.lst [])=.ok (.bl (!l.isEmpty)):=by
 have h:fW (.lst (l.map fun c=>D.str (sign c))) (.lst [])=true:=by
  unfold fW
  have:cE 9 (.lst (l.map fun c=>D.str (sign c)))=true:=by
   show (l.map fun c=>D.str (sign c)).all (cE 8)=true
   rw[xbg]
   intro d hd
   obtain⟨c,_,rfl⟩:=xb3.mp hd
   rfl
  rw[this];rfl
 rw[mH h,tH h]
 have:bA (.lst (l.map fun c=>D.str (sign c))) (.lst [])=l.isEmpty:=by
  cases l with
  |nil=>unfold bA eqDs;rfl
  |cons c l=>rw[xbl];unfold bA eqDs;rfl
 rw[this]
 exact⟨rfl,rfl⟩
theorem O7{l:List Nat}{q:Nat->Prop}[DecidablePred q]:(l.filter fun c=>!decide (q c)).isEmpty=decide (∀c∈l,q c):=by
 rw[xbc,List.isEmpty_iff,List.filter_eq_nil_iff,decide_eq_true_iff]
 refine forall_congr' fun c=>forall_congr' fun _=>?_
 simp
theorem zbI(c:Nat):eG (.str (sign c)) (.str "0123456789")=.ok (.bl (!decide (48<=c/\c<=57))):=by
 show R.ok (D.bl (!(!(Builtin.Str.occurrences ("0123456789":Str) ⟨#[c]⟩ 0 ("0123456789":Str).length 1).isEmpty)))=_
 rw[StrLaws.found_one,show ("0123456789":Str).cps.toList=[48,49,50,51,52,53,54,55,56,57] from rfl]
 congr 3
 rw[decide_eq_decide]
 simp only[xal,xa2,or_false]
 omega
theorem zbJ(c:Nat):eG (.str (sign c)) (.str "abcdefghijklmnopqrstuvwxyz")=.ok (.bl (!decide (97<=c/\c<=122))):=by
 rw[Lk31.gNin_ss,uY]
theorem O8(l:List Nat)(hl:l.length<=1000)(k:Nat):aJ (hR eZ eZ (eC (.int 1)) (aG aY (aA (aB 0) aD)) (eC (.int (k:Int)))) [some (.str (ofL l))]=.ok (decide (l≠[]/\l.length<=k)):=by
 kd_p
 rw[Lk31.gLen_s (by rw[LmWl.lo];omega),LmWl.lo];kd_p
 congr 1
 rw[xbc,xax,decide_eq_true_iff,decide_eq_true_iff,decide_eq_true_iff]
 have:=xcf (l:=l)
 constructor
 ·rintro⟨h1,h2⟩
  exact⟨this.mp (by omega),by omega⟩
 ·rintro⟨h1,h2⟩
  have:=this.mpr h1
  exact⟨by omega,by omega⟩
theorem O9(l:List Nat)(hl:l.length<=1000)(y:Str)(q:Nat->Prop)[DecidablePred q](hq:∀c,eG (.str (sign c)) (.str y)=.ok (.bl (!decide (q c)))):bE (fF 1 [0] (fG (aB 0)) bQ (aJ (aC eG (aB 0) (eC (.str y)))) (aB 0)) [some (.str (ofL l))]=.ok (.lst ((l.filter fun c=>!decide (q c)).map fun c=>.str (sign c))):=by
 show R.bind (nU 1 [0] (.ok (l.map fun c=>.str (sign c))) bQ (aJ (aC eG (aB 0) (eC (.str y)))) (aB 0) [some (.str (ofL l))]) _=_
 rw[O5 (f:=fun c=>D.str (sign c)) (p:=fun c=>!decide (q c)) (by omega) (fun c _=>by
  kd_p
  rw[hq];rfl)]
 rfl
theorem jU{f g:DSt->R D}{op:D->D->R D}{O:DSt}{a b:D}(hf:f O=.ok a)(hg:g O=.ok b):aJ (aC op f g) O=(op a b).bind g6:=by
 unfold aJ aC
 rw[hf,R.ok_bind,hg,R.ok_bind]
open Classical in
theorem zbK(l:List Nat)(hl:l.length<=1000):oF [.str (ofL l)]=.ok (cX (fC l)):=by
 have c1:(eP (aJ (hR eZ eZ (eC (.int 1)) (aG aY (aA (aB 0) aD)) (eC (.int 8)))) (aJ (aC bG (bE (fF 1 [0] (fG (aB 0)) bQ (aJ (aC eG (aB 0) (eC (.str "abcdefghijklmnopqrstuvwxyz")))) (aB 0))) (bE (bP aD))))) [some (.str (ofL l))]=.ok (decide ((l≠[]/\l.length<=8)/\∀c∈l,97<=c/\c<=122)):=by
  unfold eP
  rw[show aJ (hR eZ eZ (eC (.int 1)) (aG aY (aA (aB 0) aD)) (eC (.int 8))) [some (.str (ofL l))]=_ from O8 l hl 8]
  by_cases h:l≠[]/\l.length<=8
  ·rw[xab h]
   show aJ _ _=_
   rw[jU (O9 l hl _ (fun c=>97<=c/\c<=122) zbJ) (b:=.lst []) rfl]
   rw[(O6 _).1,O7]
   show R.ok _=R.ok _
   congr 1
   rw[xbc,decide_eq_true_iff,decide_eq_true_iff]
   exact⟨fun e=>⟨h,e⟩,fun e=>e.2⟩
  ·rw[xae h,xae (fun e=>h e.1)];rfl
 have c2:(fU (eU (aJ (hR eZ eZ (eC (.int 1)) (aG aY (aA (aB 0) aD)) (eC (.int 9))))) (aJ (aC fN (bE (fF 1 [0] (fG (aB 0)) bQ (aJ (aC eG (aB 0) (eC (.str "0123456789")))) (aB 0))) (bE (bP aD))))) [some (.str (ofL l))]=.ok (!decide ((l≠[]/\l.length<=9)/\∀c∈l,48<=c/\c<=57)):=by
  unfold fU eU
  rw[show aJ (hR eZ eZ (eC (.int 1)) (aG aY (aA (aB 0) aD)) (eC (.int 9))) [some (.str (ofL l))]=_ from O8 l hl 9]
  by_cases h:l≠[]/\l.length<=9
  ·rw[xab h]
   show aJ _ _=_
   rw[jU (O9 l hl _ (fun c=>48<=c/\c<=57) zbI) (b:=.lst []) rfl]
   rw[(O6 _).2,O7]
   show R.ok _=R.ok _
   congr 2
   rw[xbc,decide_eq_true_iff,decide_eq_true_iff]
   exact⟨fun e=>⟨h,e⟩,fun e=>e.2⟩
  ·rw[xae h,xae (fun e=>h e.1)];rfl
 rw[zav];unfold uP
 rw[c4,fX,c1]
 by_cases hA:(l≠[]/\l.length<=8)/\∀c∈l,97<=c/\c<=122
 ·rw[xab hA,rH (t:=.nm (ofL l)) ⟨rfl,⟨l,rfl,hA.1.2,hA.1.1,hA.2⟩,by simp[b7,ofL]⟩];kd_p
  rfl
 rw[xae hA];kd_p
 unfold M6
 rw[c4,fX,c2]
 have noN:∀t,jT l t->∃i,t=.nb i:=fun t ⟨h1,h2,h3⟩=>by
  cases t with
  |op _ _ _=>cases h1
  |nb i=>exact⟨i,rfl⟩
  |nm x=>
   obtain⟨m,rfl,q1,q2,q3⟩:=h2.ex
   have e:m=l:=by simpa [b7,ofL] using h3
   subst e
   exact xag ⟨⟨q2,q1⟩,q3⟩ hA
 by_cases hB:(l≠[]/\l.length<=9)/\∀c∈l,48<=c/\c<=57
 ·rw[xab hB];kd_p
  unfold M5
  have c3:(eP (aJ (aC dR (aG aY (aA (aB 0) aD)) (eC (.int 1)))) (aJ (aC bG (aC cG (aB 0) (eC (.int 0))) (eC (.str "0"))))) [some (.str (ofL l))]=.ok (decide (1<l.length/\l.head? = some 48)):=by
   kd_p
   rw[Lk31.gLen_s (by rw[LmWl.lo];omega),LmWl.lo];kd_p
   by_cases h1:1<l.length
   ·rw[xab (by omega)];kd_p
    obtain⟨x,r,hx⟩:=xbm hB.1.1
    rw[show cG (.str (ofL l)) (.int 0)=.ok (.str (ofL [x])) from AQ (i:=0) (by rw[hx];rfl) (by omega)];kd_p
    rw[show (D.str "0")=.str (ofL [48]) from rfl,mW];kd_p
    congr 1
    rw[xbc,decide_eq_true_iff,decide_eq_true_iff,hx]
    simp
    exact fun _=>(by rw[hx] at h1;simp at h1;exact h1)
   ·rw[xae (by omega),xae (fun e=>h1 e.1)];kd_p
  rw[c4,fX,c3]
  by_cases hC:1<l.length/\l.head? = some 48
  ·rw[xab hC];kd_p
   have:fC l=none:=by
    cases hf:fC l with
    |none=>rfl
    |some t=>
     obtain⟨i,rfl⟩:=noN t (mT hf)
     have h3:bB i.toNat=l:=(mT hf).2.2
     cases l with
     |nil=>simp at hC
     |cons x r=>
      have:x=48:=by simpa using hC.2
      subst this
      have:=CT h3
      subst this
      simp at hC
   rw[this];rfl
  ·rw[xae hC];kd_p
   have h4:∀x r,l≠48::x::r:=fun x r e=>hC (by rw[e];simp)
   have hb:=OT l.length l rfl hB.1.1 hB.2 h4
   have hv:PySem.NumText.digitsVal l<10^9:=by
    have:(bB (PySem.NumText.digitsVal l)).length<=9:=by rw[hb];exact hB.1.2
    unfold bB at this
    rw[xat] at this
    exact(xcp (by decide) (by decide)).mp this
   have hL:fC l=some (.nb (PySem.NumText.digitsVal l:Nat)):=rH ⟨rfl,⟨by omega,by omega⟩,by show bB ((PySem.NumText.digitsVal l:Nat):Int).toNat=l;rw[xbk,hb]⟩
   rw[hL]
   unfold M4;kd_p
   have hi:nV [.str (ofL l)]=.ok (.int (PySem.NumText.digitsVal l:Nat)):=by
    show k9 (.str (ofL l))=_
    unfold k9
    have:=CS (n:=PySem.NumText.digitsVal l) (xap hv (by decide))
    rw[hb] at this
    simp only[this]
    rw[show decide ((ofL l).length<=640)=true from xab (by rw[LmWl.lo];omega)];rfl
   rw[hi];kd_p
   rfl
 ·rw[xae hB];kd_p
  have:fC l=none:=by
   cases hf:fC l with
   |none=>rfl
   |some t=>
    obtain⟨i,rfl⟩:=noN t (mT hf)
    obtain⟨h1,h2,h3⟩:=mT hf
    obtain⟨a1,a2,a3⟩:=lK h1 h2
    rw[h3] at a1 a2
    exact xag ⟨⟨a1,a2⟩,fun c hc=>digs_all i.toNat c (by have h3:bB i.toNat=l:=h3;rw[h3];exact hc)⟩ hB
  rw[this];rfl
end LmXh
open L2 DL Mir
namespace LmXi
open LmA LmY LmWa LmWb LmWc LmWd LmWf LmWg LmWh LmWj LmWk LmWl LmWm LmWn LmWo LmWp LmXa LmXb LmXc LmXd LmXe LmXf LmXg LmXh TxtA
theorem AS(o:Option Tr):iR (cX o) .non=.ok (.bl o.isNone):=by
 cases o with
 |none=>rfl
 |some t=>cases t<;>rfl
theorem mk_d{c:Option Nat}{s:Sg}(h:c=some (bC s))(a b:Tr):mk c (some a) (some b)=some (.op s a b):=by
 subst h
 unfold mk
 rw[xc3,rC]
section
variable{j k:Nat}{sg:Str}(hsg:∀c:Nat,cV (.str (ofL [c])) (.str sg)=.ok (.bl (cW k c))){l:List Nat}(hl:l.length<=900)
include hsg hl
theorem PB(h:last k l=none)(left:Nat)(z3 z4 z5:Option D):lH (dU j) [some (.str (ofL l)),some (.int (left:Int)),some (.str sg),z3,z4,z5]=.ok (.nx [some (.str (ofL l)),some (.int (left:Int)),some (.str sg),some (.int (-1)),z4,z5]):=by
 unfold lH;kd_p
 rw[O3 hsg l (by omega),h];kd_p
 unfold zD;kd_p
 rw[show lP none=-1 from rfl,show decide ((0:Int) < -1)=false from rfl];kd_p
theorem PD{i:Nat}(h:last k l=some i)(left:Nat){A B:Option Tr}(ha:dU j [.str (ofL (l.take (i-1))),.int (left:Int)]=.ok (cX A))(hb:dU j [.str (ofL (l.drop (i+2))),.int (left:Int)]=.ok (cX B))(z3 z4 z5:Option D) :
  lH (dU j) [some (.str (ofL l)),some (.int (left:Int)),some (.str sg),z3,z4,z5]=.ok (.rt (cX (mk l[i]? A B))):=by
 obtain⟨⟨l1,c,l2,el,hi,hs,hd⟩,_⟩:=vB h
 obtain⟨q1,q2,q3⟩:=cut el
 obtain⟨s,hc,hbn⟩:=rD hs
 have hx:l[i]? = some (bC s):=by rw[hi,q1,hc]
 unfold lH;kd_p
 rw[O3 hsg l (by omega),h,show lP (some i)=(i:Int) from rfl];kd_p
 unfold zD;kd_p
 rw[xab (show (0:Int)<(i:Int) by omega)];kd_p
 unfold ND
 rw[c4,jG]
 have e1:a7 (dU j) (aA (cN (aB 0) cR (bJ (aC gSub (aB 3) (eC (.int 1))))) (aA (aB 1) aD)) [some (.str (ofL l)),some (.int (left:Int)),some (.str sg),some (.int (i:Int)),z4,z5]=.ok (cX A):=by
  have:=gX (fe:=aB 0) (fl:=cR) (fh:=bJ (aC gSub (aB 3) (eC (.int 1)))) (O:=[some (.str (ofL l)),some (.int (left:Int)),some (.str sg),some (.int (i:Int)),z4,z5]) (l:=l) (lo:=none) (hi:=some ((i:Int)-1)) rfl rfl rfl (by omega)
  rw[show ((i:Int)-1)=((i-1:Nat):Int) by omega,vI] at this
  kd_p
  rw[this];kd_p
  exact ha
 rw[e1];kd_p
 unfold NC
 rw[c4,jG]
 have e2:a7 (dU j) (aA (cN (aB 0) (bJ (aC aL (aB 3) (eC (.int 2)))) cR) (aA (aB 1) aD)) [some (.str (ofL l)),some (.int (left:Int)),some (.str sg),some (.int (i:Int)),some (cX A),z5]=.ok (cX B):=by
  have:=gX (fe:=aB 0) (fl:=bJ (aC aL (aB 3) (eC (.int 2)))) (fh:=cR) (O:=[some (.str (ofL l)),some (.int (left:Int)),some (.str sg),some (.int (i:Int)),some (cX A),z5]) (l:=l) (lo:=some ((i:Int)+2)) (hi:=none) rfl rfl rfl (by omega)
  rw[show ((i:Int)+2)=((i+2:Nat):Int) by omega,vJ] at this
  kd_p
  rw[this];kd_p
  exact hb
 rw[e2];kd_p
 unfold NB
 have hO:(fU (aJ (aC iR (aB 4) (eC .non))) (aJ (aC iR (aB 5) (eC .non)))) [some (.str (ofL l)),some (.int (left:Int)),some (.str sg),some (.int (i:Int)),some (cX A),some (cX B)]=.ok (A.isNone||B.isNone):=by
  unfold fU
  rw[jU (a:=cX A) (b:=.non) rfl rfl,jU (a:=cX B) (b:=.non) rfl rfl,AS,AS]
  cases A.isNone<;>rfl
 rw[c4,fX,hO]
 cases A with
 |none=>rfl
 |some a=>
  cases B with
  |none=>rfl
  |some b=>
   show zC (dU j) [some (.str (ofL l)),some (.int (left:Int)),some (.str sg),some (.int (i:Int)),some (cX (some a)),some (cX (some b))]=_
   unfold zC;kd_p
   rw[AQ hx (by omega)];kd_p
   rw[mk_d hx,<- zX];rfl
end
theorem zbM{l l1 l2:List Nat}{c k:Nat}(e:l=l1++32::c::32::l2)(h:cW k c=true):l.countP bF=l1.countP bF+l2.countP bF+1:=by
 obtain⟨s,rfl,_⟩:=rD h
 rw[e,xaq,xa8,xa8,xa8,show bF (bC s)=true by cases s<;>rfl,show bF 32=false from rfl]
 simp;omega
theorem vL:∀(n:Nat) (l:List Nat) (left:Nat),l.countP bF+1<=n->l.length<=900->dU n [.str (ofL l),.int (left:Int)]=.ok (cX (LR n l left))
 |0,_,_,h,_=>xag h (by omega)
 |j+1,l,left,h,hl=>by
  have sub:∀(k i:Nat),last k l=some i->dU j [.str (ofL (l.take (i-1))),.int (left:Int)]=.ok (cX (LR j (l.take (i-1)) left))/\dU j [.str (ofL (l.drop (i+2))),.int (left:Int)]=.ok (cX (LR j (l.drop (i+2)) left)):=fun k i hi=>by
   obtain⟨⟨l1,c,l2,el,hi,hs,hd⟩,_⟩:=vB hi
   obtain⟨q1,q2,q3⟩:=cut el
   have hc:=zbM el hs
   rw[hi,q2,q3]
   have hlen:=congrArg List.length el
   rw[xak,xan,xan,xan] at hlen
   exact⟨vL j l1 left (by omega) (by omega),vL j l2 left (by omega) (by omega)⟩
  rw[zax];unfold oI;kd_p
  rw[LR]
  cases h1:last 1 l with
  |some i=>
   obtain⟨ha,hb⟩:=sub 1 i h1
   show fin (eQ (eF (lH (dU j) [some (.str (ofL l)),some (.int (left:Int)),some (.str "+-"),none,none,none]) _) _)=_
   rw[PD O0 hl h1 left ha hb];rfl
  |none=>
   show fin (eQ (eF (lH (dU j) [some (.str (ofL l)),some (.int (left:Int)),some (.str "+-"),none,none,none]) _) _)=_
   rw[PB O0 hl h1 left,iS,jH]
   show fin (eQ (eF (lH (dU j) [some (.str (ofL l)),some (.int (left:Int)),some (.str "*/"),some (.int (-1)),none,none]) _) _)=_
   cases h2:last 2 l with
   |some i=>
    obtain⟨ha,hb⟩:=sub 2 i h2
    rw[PD O1 hl h2 left ha hb];rfl
   |none=>
    rw[PB O1 hl h2 left,iS]
    show fin (zF (dU j) [some (.str (ofL l)),some (.int (left:Int)),some (.str "*/"),some (.int (-1)),none,none])=.ok (cX (if l.head? = some 40/\l.getLast? = some 41/\0<left then LR j l.tail.dropLast (left-1) else fC l))
    generalize hσ:([some (.str (ofL l)),some (.int (left:Int)),some (.str "*/"),some (.int (-1)),none,none]:DSt)=O
    have t1:aJ (aC bG (cN (aB 0) cR (bJ (eC (.int 1)))) (eC (.str "("))) O=.ok (decide (l.head? = some 40)):=by
     have:=gX (fe:=aB 0) (fl:=cR) (fh:=bJ (eC (.int 1))) (O:=O) (l:=l) (lo:=none) (hi:=some ((1:Nat):Int)) (by rw[<- hσ];rfl) (by rw[<- hσ];rfl) (by rw[<- hσ];rfl) (by omega)
     rw[vI] at this
     rw[jU this (b:=.str (ofL [40])) rfl,mW]
     show R.ok _=R.ok _
     congr 1
     rw[decide_eq_decide]
     cases l with
     |nil=>simp
     |cons x l=>simp
    have t2:aJ (aC bG (cN (aB 0) (bJ (fD gP (eC (.int 1)))) cR) (eC (.str ")"))) O=.ok (decide (l.getLast? = some 41)):=by
     have:=gX (fe:=aB 0) (fl:=bJ (fD gP (eC (.int 1)))) (fh:=cR) (O:=O) (l:=l) (lo:=some (-1)) (hi:=none) (by rw[<- hσ];rfl) (by rw[<- hσ];rfl) (by rw[<- hσ];rfl) (by omega)
     rw[zbD] at this
     rw[jU this (b:=.str (ofL [41])) rfl,mW]
     show R.ok _=R.ok _
     congr 1
     rw[decide_eq_decide]
     rcases xb5 l with rfl|⟨m,x,e⟩
     ·simp
     ·rw[xb6] at e
      subst e
      simp
    have t3:aJ (aC dR (aB 1) (eC (.int 0))) O=.ok (decide (0<left)):=by
     rw[jU (a:=.int (left:Int)) (b:=.int 0) (by rw[<- hσ];rfl) rfl]
     show R.ok _=R.ok _
     congr 1
     rw[decide_eq_decide]
     omega
    have t:(eP (aJ (aC bG (cN (aB 0) cR (bJ (eC (.int 1)))) (eC (.str "(")))) (eP (aJ (aC bG (cN (aB 0) (bJ (fD gP (eC (.int 1)))) cR) (eC (.str ")")))) (aJ (aC dR (aB 1) (eC (.int 0)))))) O=.ok (decide (l.head? = some 40/\l.getLast? = some 41/\0<left)):=by
     unfold eP
     rw[t1,t2,t3,Bool.decide_and,Bool.decide_and]
     cases decide (l.head? = some 40)<;>cases decide (l.getLast? = some 41)<;>cases decide (0<left)<;>rfl
    unfold zF
    rw[c4,fX,t]
    by_cases hc:l.head? = some 40/\l.getLast? = some 41/\0<left
    ·rw[xab hc,xau hc]
     obtain⟨c1,c2,c3⟩:=hc
     obtain⟨m,rfl⟩:∃m,l=40::(m++[41]):=by
      cases l with
      |nil=>cases c1
      |cons x l=>
       injection c1 with c1
       subst c1
       obtain⟨m,hm⟩:=xcw.mp c2
       cases m with
       |nil=>simp at hm
       |cons y m=>injection hm with hm1 hm2;exact⟨m,by rw[hm2];simp⟩
     have hcm:(40::(m++[41])).countP bF=m.countP bF+1:=by rw[xa8,xaq];rfl
     have ih:=vL j m (left-1) (by omega) (by simp at hl;omega)
     show fin (eQ (R.bind (a7 (dU j) (aA (cN (aB 0) (bJ (eC (.int 1))) (bJ (fD gP (eC (.int 1))))) (aA (aC gSub (aB 1) (eC (.int 1))) aD)) O) fun d=>.ok (.rt d)) _)=_
     have e1:a7 (dU j) (aA (cN (aB 0) (bJ (eC (.int 1))) (bJ (fD gP (eC (.int 1))))) (aA (aC gSub (aB 1) (eC (.int 1))) aD)) O=.ok (cX (LR j m (left-1))):=by
      have:=gX (fe:=aB 0) (fl:=bJ (eC (.int 1))) (fh:=bJ (fD gP (eC (.int 1)))) (O:=O) (l:=40::(m++[41])) (lo:=some 1) (hi:=some (-1)) (by rw[<- hσ];rfl) (by rw[<- hσ];rfl) (by rw[<- hσ];rfl) (by omega)
      rw[zbE] at this
      rw[<- hσ] at this ⊢
      kd_p
      rw[this];kd_p
      rw[show (left:Int)-1=((left-1:Nat):Int) by omega]
      exact ih
     rw[e1,show (40::(m++[41])).tail.dropLast=m by show (m++[41]).dropLast=m;exact xbt];rfl
    ·rw[xae hc,xao hc]
     show fin (zE (dU j) O)=_
     unfold zE
     rw[<- hσ];kd_p
     rw[zbK l (by omega)];kd_p
theorem vM:∀p:Pt,p.gram->p.tree.many=p.ops+1
 |.leaf t,h=>by
  cases t with
  |nm _=>rfl
  |nb _=>rfl
  |op _ _ _=>cases h.1
 |.brk p,h=>vM p h
 |.op s a b,h=>by
  have ia:=vM a h.1
  have ib:=vM b h.2.1
  show a.tree.many+b.tree.many=a.ops+b.ops+1+1
  omega
theorem zbN(c:Nat):cV (.str (sign c)) (.str "+-*/")=.ok (.bl (dX c)):=by
 show R.ok (D.bl (!(Builtin.Str.occurrences ("+-*/":Str) ⟨#[c]⟩ 0 ("+-*/":Str).length 1).isEmpty))=_
 rw[StrLaws.found_one,show ("+-*/":Str).cps.toList=[43,45,42,47] from rfl]
 congr 2
 rw[xbc]
 simp only[decide_eq_true_iff,xal,xa2,or_false,dX,xc9,beq_iff_eq]
 omega
theorem oU(l:List Nat)(hl:l.length<=900)(hM:l.countP bF<=63):iK [.str (ofL l)]=.ok (.bl true):=by
 obtain⟨a1,a2⟩:=zbn hM
 obtain⟨s1,s2⟩:=zbz l hl
 have hr:uR [.str (ofL l),.int 8]=.ok (cX (LR 64 l 8)):=vL 64 l 8 (by omega) hl
 have hf:bE (fF 1 [0] (fG (aB 0)) bQ (aJ (aC cV (aB 0) (eC (.str "+-*/")))) (aB 0)) [some (.str (ofL l)),some (cX (LR 64 l 8))]=.ok (.lst ((l.filter dX).map fun c=>.str (sign c))):=by
  show R.bind (nU 1 [0] (.ok (l.map fun c=>.str (sign c))) bQ (aJ (aC cV (aB 0) (eC (.str "+-*/")))) (aB 0) [some (.str (ofL l)),some (cX (LR 64 l 8))]) _=_
  rw[O5 (f:=fun c=>D.str (sign c)) (p:=dX) (by omega) (fun c _=>by
   kd_p
   rw[zbN];rfl)]
  rfl
 have ref:(LR 64 l 8=none\/60<l.countP dX)->gV [.str (ofL l)]=.ok (.bl true):=fun h=>by
  rcases zbo (LmO.cutW l) with⟨t,ht⟩|ht
  ·exact xag ht (a2 h t)
  ·exact Lk56.refused_ok (s2 ht)
 rw[zaz];unfold uT;kd_p
 rw[hr];kd_p
 unfold NK
 have hg:aJ (aC dR (aG aY (aA (bE (fF 1 [0] (fG (aB 0)) bQ (aJ (aC cV (aB 0) (eC (.str "+-*/")))) (aB 0))) aD)) (eC (.int 60))) [some (.str (ofL l)),some (cX (LR 64 l 8))]=.ok (decide (60<l.countP dX)):=by
  have:aG aY (aA (bE (fF 1 [0] (fG (aB 0)) bQ (aJ (aC cV (aB 0) (eC (.str "+-*/")))) (aB 0))) aD) [some (.str (ofL l)),some (cX (LR 64 l 8))]=.ok (.int (l.countP dX:Int)):=by
   kd_p
   rw[<- yA,show xI (fF 1 [0] (fG (aB 0)) bQ (aJ (aC cV (aB 0) (eC (.str "+-*/")))) (aB 0) [some (.str (ofL l)),some (cX (LR 64 l 8))])=_ from hf];kd_p
   rw[xat,List.countP_eq_length_filter]
  rw[jU this (b:=.int 60) rfl]
  show R.ok _=R.ok _
  congr 1
  rw[decide_eq_decide]
  omega
 have hO:(fU (aJ (aC iR (aB 1) (eC .non))) (aJ (aC dR (aG aY (aA (bE (fF 1 [0] (fG (aB 0)) bQ (aJ (aC cV (aB 0) (eC (.str "+-*/")))) (aB 0))) aD)) (eC (.int 60))))) [some (.str (ofL l)),some (cX (LR 64 l 8))]=.ok ((LR 64 l 8).isNone||decide (60<l.countP dX)):=by
  unfold fU
  rw[jU (a:=cX (LR 64 l 8)) (b:=.non) rfl rfl,hg,AS]
  cases (LR 64 l 8).isNone<;>rfl
 rw[c4,fX,hO]
 by_cases hc:LR 64 l 8=none\/60<l.countP dX
 ·have:((LR 64 l 8).isNone||decide (60<l.countP dX))=true:=by
   rcases hc with h|h
   ·rw[h];rfl
   ·rw[xab h,Bool.or_true]
  rw[this];kd_p
  rw[ref hc];kd_p
 ·cases hL:LR 64 l 8 with
  |none=>exact xag (.inl hL) hc
  |some t=>
   have hS:¬60<l.countP dX:=fun e=>hc (.inr e)
   rw[xae hS]
   obtain⟨p,rfl,e2,e3,e4,_⟩:=mU 64 _ 8 t hL
   have hm:t.many<=61:=by rw[<- e2,vM p e3,<- oS p e3];omega
   show fin (zM [some (.str (ofL p.text)),some t.d])=_
   unfold zM;kd_p
   rw[s1 t (a1 t hL (by omega))];kd_p
   rw[show uN [t.d,t.d]=.ok (.bl true) from Lk56.like_ok t 63 (by omega)];kd_p
end LmXi
open L2 DL Mir
namespace LmXj
open LmA LmY LmWa LmWb LmWc LmWd LmWf LmWg LmWh LmWj LmWk LmWl LmWm LmWn LmWo LmWp LmXa LmXb LmXc LmXd LmXe LmXf LmXg LmXh LmXi TxtA
structure gY(d:D):Prop where
 ex:∃l,d=.str (ofL l)/\l.length<=900/\l.countP bF<=63
theorem gY.right{d:D}(h:gY d):iK [d]=.ok (.bl true):=by
 obtain⟨l,rfl,h1,h2⟩:=h.ex
 exact oU l h1 h2
theorem AT:∀(t:Tr) (k:Nat),dL t->(cD t k).countP bF+2<=2*t.many
 |.nm x,k,h=>by
  show (b7 (.nm x)).countP bF+2<=2*1
  rw[oR fun c hc=>(vF (t:=.nm x) rfl h c hc).2];omega
 |.nb x,k,h=>by
  show (b7 (.nb x)).countP bF+2<=2*1
  rw[oR fun c hc=>(vF (t:=.nb x) rfl h c hc).2];omega
 |.op s a b,k,h=>by
  have ia:=AT a (aI s) h.1
  have ib:=AT b (aI s+1) h.2
  have hb:(TxtA.flat [32] [cD a (aI s),[bC s],cD b (aI s+1)]).countP bF=(cD a (aI s)).countP bF+(cD b (aI s+1)).countP bF+1:=by
   show (cD a (aI s)++[32]++([bC s]++[32]++cD b (aI s+1))).countP bF=_
   rw[xaq,xaq,xaq,xaq,show [bC s].countP bF=1 by cases s<;>rfl,show [32].countP bF=0 from rfl];omega
  show _+2<=2*(a.many+b.many)
  rw[cD]
  by_cases hk:aI s<k
  ·rw[xau hk,xa8,xaq,hb,show [41].countP bF=0 from rfl,show bF 40=true from rfl];simp;omega
  ·rw[xao hk,hb];omega
def zbO:D->Bool
 |.str z=>decide (z.cps.toList.length<=900)&&decide (z.cps.toList.countP bF<=63)
 |_=>false
theorem zbP(M:List D)(h:M.all zbO=true):∀d∈M,gY d:=fun d hd=>by
 have:=xbg.mp h d hd
 cases d with
 |str z=>
  have h:(decide (z.cps.toList.length<=900)&&decide (z.cps.toList.countP bF<=63))=true:=this
  rw[xax] at h
  exact⟨z.cps.toList,by simp[ofL],xaj h.1,xaj h.2⟩
 |_=>cases this
theorem zbQ:∃M:List D,qS []=.ok (.lst M)/\M.length=49/\∀d∈M,gY d:=
 ⟨_,rfl,rfl,zbP _ (by decide +kernel)⟩
theorem PF(l:List Nat)(n:Nat):(l.take n).countP bF<=l.countP bF:=(List.take_sublist n l).countP_le
theorem PH(l:List Nat)(n:Nat):(l.drop n).countP bF<=l.countP bF:=(List.drop_sublist n l).countP_le
section
variable{l:List Nat}(hl:l.length<=200)(hc:l.countP bF<=24)(n:Int)
include hl hc
theorem two(x y z:List Nat)(a b:Nat)(hx:x=l.take a)(hz:z=l.drop b)(hy:y.length<=1):gY (.str (ofL (x++y++z))):=by
 refine⟨x++y++z,rfl,?_,?_⟩
 ·have h1:x.length<=200:=by rw[hx,xbi];omega
  have h2:z.length<=200:=by rw[hz,xbj];omega
  simp only[xak];omega
 ·have h1:x.countP bF<=24:=by rw[hx];exact xav (PF l a) hc
  have h2:z.countP bF<=24:=by rw[hz];exact xav (PH l b) hc
  have h3:y.countP bF<=y.length:=List.countP_le_length
  rw[xaq,xaq];omega
theorem zbR(a b:Nat)(hab:a<=b)(hb:b<=l.length):gY (.str (ofL (l.take a++[40]++bZ l (some (a:Int)) (some (b:Int))++[41]++l.drop b))):=by
 have hcut:bZ l (some (a:Int)) (some (b:Int))=(l.drop a).take (b-a):=by
  unfold bZ
  rw[HT.sIx_nat,HT.sIx_nat,xb7 hb,xb7 (show a<=l.length by omega)]
 have hj:l.take a++(l.drop a).take (b-a)=l.take b:=by
  have:=List.take_add (l:=l) (i:=a) (j:=b-a)
  rw[show a+(b-a)=b by omega] at this
  exact this.symm
 refine⟨_,rfl,?_,?_⟩
 ·have h1:(l.take a).length<=200:=by rw[xbi];omega
  have h2:(bZ l (some (a:Int)) (some (b:Int))).length<=200:=by rw[hcut,xbi,xbj];omega
  have h3:(l.drop b).length<=200:=by rw[xbj];omega
  simp only[xak,xan,xbs];omega
 ·have h1:(l.take a).countP bF+((l.drop a).take (b-a)).countP bF<=24:=by
   rw[<- xaq,hj];exact xav (PF l b) hc
  have h2:(l.drop b).countP bF<=24:=xav (PH l b) hc
  rw[hcut,xaq,xaq,xaq,xaq,show [40].countP bF=1 from rfl,show [41].countP bF=0 from rfl]
  omega
theorem PJ(x:Int):∃a:Nat,x%((l.length:Int)+1)=(a:Int)/\a<=l.length:=by
 have h1:=xcv x (show (l.length:Int)+1≠0 by omega)
 have h2:=xch x (show 0<(l.length:Int)+1 by omega)
 exact⟨(x%((l.length:Int)+1)).toNat,by omega,by omega⟩
theorem zbS:∃d,qT [.str (ofL l),.int n]=.ok d/\gY d:=by
 obtain⟨a,ea,ha⟩:=PJ hl hc (n/5)
 obtain⟨b,eb,hb⟩:=PJ hl hc (n/7)
 have gl:aY [.str (ofL l)]=.ok (.int (l.length:Int)):=by rw[Lk31.gLen_s (by rw[LmWl.lo];omega),LmWl.lo]
 have ga:bK (.int (n/5)) (.int ((l.length:Int)+1))=.ok (.int (a:Int)):=by rw[fO _ _ (by omega),ea]
 have gb:bK (.int (n/7)) (.int ((l.length:Int)+1))=.ok (.int (b:Int)):=by rw[fO _ _ (by omega),eb]
 obtain⟨c,gc⟩:∃c,cG (.str "ab019 +-*/()  x,A=") (.int (n/5000%18))=.ok (.str (sign c)):=zaI (n:=18) rfl (by decide) (xcv _ (by decide)) (xch _ (by decide))
 have gc:cG (.str "ab019 +-*/()  x,A=") (.int (n/5000%18))=.ok (.str (ofL [c])):=gc
 have d5:dQ (.int n) (.int 5)=.ok (.int (n/5)):=mG _ _ (by decide +kernel) (by decide)
 have d7:dQ (.int n) (.int 7)=.ok (.int (n/7)):=mG _ _ (by decide +kernel) (by decide)
 have dk:dQ (.int n) (.int 5000)=.ok (.int (n/5000)):=mG _ _ (by decide +kernel) (by decide)
 have m5:bK (.int n) (.int 5)=.ok (.int (n%5)):=fO _ _ (by decide)
 have mk':bK (.int (n/5000)) (.int 18)=.ok (.int (n/5000%18)):=fO _ _ (by decide)
 rw[zay];unfold uS
 rw[c4,jG,show aC bK (aB 1) (eC (.int 5)) [some (.str (ofL l)),some (.int n),none,none,none,none,none]=.ok (.int (n%5)) from m5]
 show ∃d,fin (zL [some (.str (ofL l)),some (.int n),some (.int (n%5)),none,none,none,none])=.ok d/\gY d
 unfold zL
 rw[c4,jG,show aC bK (aC dQ (aB 1) (eC (.int 5))) (aC aL (aG aY (aA (aB 0) aD)) (eC (.int 1))) [some (.str (ofL l)),some (.int n),some (.int (n%5)),none,none,none,none]=.ok (.int (a:Int)) from by
  show R.bind (dQ (.int n) (.int 5)) (fun x=>R.bind (R.bind (aY [.str (ofL l)]).noerr fun y=>aL y (.int 1)) fun y=>bK x y)=_
  rw[d5,gl]
  exact ga]
 show ∃d,fin (zK [some (.str (ofL l)),some (.int n),some (.int (n%5)),some (.int (a:Int)),none,none,none])=.ok d/\gY d
 unfold zK
 rw[c4,jG,show aC cG (eC (.str "ab019 +-*/()  x,A=")) (aC bK (aC dQ (aB 1) (eC (.int 5000))) (eC (.int 18))) [some (.str (ofL l)),some (.int n),some (.int (n%5)),some (.int (a:Int)),none,none,none]=.ok (.str (ofL [c])) from by
  show R.bind (R.bind (dQ (.int n) (.int 5000)) fun x=>bK x (.int 18)) (fun y=>cG (.str "ab019 +-*/()  x,A=") y)=_
  rw[dk,R.ok_bind,mk',R.ok_bind,gc]]
 show ∃d,fin (zJ [some (.str (ofL l)),some (.int n),some (.int (n%5)),some (.int (a:Int)),some (.str (ofL [c])),none,none])=.ok d/\gY d
 generalize hr:n%5=r
 have tk:∀(z5 z6:Option D),cN (aB 0) cR (bJ (aB 3)) [some (.str (ofL l)),some (.int n),some (.int r),some (.int (a:Int)),some (.str (ofL [c])),z5,z6]=.ok (.str (ofL (l.take a))):=fun z5 z6=>by
  rw[gX (l:=l) (lo:=none) (hi:=some (a:Int)) rfl rfl rfl (by omega),vI]
 have dr:∀(z5 z6:Option D),cN (aB 0) (bJ (aB 3)) cR [some (.str (ofL l)),some (.int n),some (.int r),some (.int (a:Int)),some (.str (ofL [c])),z5,z6]=.ok (.str (ofL (l.drop a))):=fun z5 z6=>by
  rw[gX (l:=l) (lo:=some (a:Int)) (hi:=none) rfl rfl rfl (by omega),vJ]
 have dr1:∀(z5 z6:Option D),cN (aB 0) (bJ (aC aL (aB 3) (eC (.int 1)))) cR [some (.str (ofL l)),some (.int n),some (.int r),some (.int (a:Int)),some (.str (ofL [c])),z5,z6]=.ok (.str (ofL (l.drop (a+1)))):=fun z5 z6=>by
  rw[gX (l:=l) (lo:=some ((a:Int)+1)) (hi:=none) rfl rfl rfl (by omega),show (a:Int)+1=((a+1:Nat):Int) by omega,vJ]
 have lt:(l.take a).length<=200:=by rw[xbi];omega
 have ld:∀k,(l.drop k).length<=200:=fun k=>by rw[xbj];omega
 have eq:∀k:Int,aJ (aC bG (aB 2) (eC (.int k))) [some (.str (ofL l)),some (.int n),some (.int r),some (.int (a:Int)),some (.str (ofL [c])),none,none]=.ok (decide (r=k)):=fun k=>by rw[jU rfl rfl,xW];rfl
 unfold zJ
 rw[c4,fX,eq]
 by_cases h0:r=0
 ·rw[xab h0];kd_p
  rw[tk,dr1];kd_p
  rw[dC (by have:=ld (a+1);omega)];kd_p
  refine⟨_,rfl,?_⟩
  have:=two hl hc (l.take a) [] (l.drop (a+1)) a (a+1) rfl rfl (by simp)
  rwa [xbh] at this
 rw[xae h0];kd_p
 unfold NJ
 rw[c4,fX,eq]
 by_cases h1:r=1
 ·rw[xab h1];kd_p
  rw[tk,dr1];kd_p
  rw[dC (by simp;omega)];kd_p
  rw[dC (by have:=ld (a+1);simp;omega)];kd_p
  exact⟨_,rfl,two hl hc (l.take a) [c] (l.drop (a+1)) a (a+1) rfl rfl (by simp)⟩
 rw[xae h1];kd_p
 unfold NI
 rw[c4,fX,eq]
 by_cases h2:r=2
 ·rw[xab h2]
  show ∃d,fin (eQ (zH [some (.str (ofL l)),some (.int n),some (.int r),some (.int (a:Int)),some (.str (ofL [c])),none,none]) _)=.ok d/\gY d
  unfold zH
  rw[c4,jG,show aC bK (aC dQ (aB 1) (eC (.int 7))) (aC aL (aG aY (aA (aB 0) aD)) (eC (.int 1))) [some (.str (ofL l)),some (.int n),some (.int r),some (.int (a:Int)),some (.str (ofL [c])),none,none]=.ok (.int (b:Int)) from by
   show R.bind (dQ (.int n) (.int 7)) (fun x=>R.bind (R.bind (aY [.str (ofL l)]).noerr fun y=>aL y (.int 1)) fun y=>bK x y)=_
   rw[d7,gl]
   exact gb]
  show ∃d,fin (eQ (zG [some (.str (ofL l)),some (.int n),some (.int r),some (.int (a:Int)),some (.str (ofL [c])),some (.int (b:Int)),none]) _)=.ok d/\gY d
  unfold zG;kd_p
  have mn:∀z:Option D,aG kU (aA (aB 3) (aA (aB 5) aD)) [some (.str (ofL l)),some (.int n),some (.int r),some (.int (a:Int)),some (.str (ofL [c])),some (.int (b:Int)),z]=.ok (.int ((min a b:Nat):Int)):=fun z=>by
   show R.ok (D.int (min (a:Int) (b:Int)))=_
   congr 2;omega
  have mx:∀z:Option D,aG kW (aA (aB 3) (aA (aB 5) aD)) [some (.str (ofL l)),some (.int n),some (.int r),some (.int (a:Int)),some (.str (ofL [c])),some (.int (b:Int)),z]=.ok (.int ((max a b:Nat):Int)):=fun z=>by
   show R.ok (D.int (max (a:Int) (b:Int)))=_
   congr 2;omega
  have os:∀(f:DSt->R D) (O:DSt) (i:Int),f O=.ok (.int i)->bJ f O=.ok (some i):=fun f O i h=>by unfold bJ;rw[h];rfl
  rw[gX (l:=l) (lo:=none) (hi:=some ((min a b:Nat):Int)) rfl rfl (os _ _ _ (mn _)) (by omega),gX (l:=l) (lo:=some ((min a b:Nat):Int)) (hi:=some ((max a b:Nat):Int)) rfl (os _ _ _ (mn _)) (os _ _ _ (mx _)) (by omega),gX (l:=l) (lo:=some ((max a b:Nat):Int)) (hi:=none) rfl (os _ _ _ (mx _)) rfl (by omega),vI,vJ];kd_p
  have l1:(l.take (min a b)).length<=200:=by rw[xbi];omega
  have l2:(bZ l (some ((min a b:Nat):Int)) (some ((max a b:Nat):Int))).length<=200:=by unfold bZ;rw[xbi,xbj];omega
  have l3:=ld (max a b)
  rw[show (D.str "(")=.str (ofL [40]) from rfl,dC (by simp;omega)];kd_p
  rw[dC (by simp only[xak,xan,xbs];omega)];kd_p
  rw[show (D.str ")")=.str (ofL [41]) from rfl,dC (by simp only[xak,xan,xbs];omega)];kd_p
  rw[dC (by simp only[xak,xan,xbs];omega)];kd_p
  exact⟨_,rfl,zbR hl hc (min a b) (max a b) (by omega) (by omega)⟩
 rw[xae h2];kd_p
 unfold NH
 rw[c4,fX,eq]
 by_cases h3:r=3
 ·rw[xab h3]
  obtain⟨M,hM,hlen,hF⟩:=zbQ
  show ∃d,fin (eQ (zI [some (.str (ofL l)),some (.int n),some (.int r),some (.int (a:Int)),some (.str (ofL [c])),none,none]) _)=.ok d/\gY d
  unfold zI;kd_p
  rw[hM];kd_p
  unfold NF;kd_p
  rw[d5];kd_p
  rw[hlen]
  have k0:=xcv (n/5) (show (49:Int)≠0 by decide)
  have k1:=xch (n/5) (show (0:Int)<49 by decide)
  obtain⟨k,hk⟩:∃k:Nat,n/5%49=(k:Int):=⟨(n/5%49).toNat,by omega⟩
  rw[show bK (.int (n/5)) (.int ((49:Nat):Int))=.ok (.int (k:Int)) from by rw[fO _ _ (by decide)];show R.ok (D.int (n/5%49))=_;rw[hk]];kd_p
  have hkl:k<M.length:=by omega
  rw[pS (d:=M[k]) (xbd hkl)];kd_p
  exact⟨_,rfl,hF _ (xby hkl)⟩
 rw[xae h3];kd_p
 unfold NG;kd_p
 rw[tk,dr];kd_p
 rw[dC (by simp;omega)];kd_p
 rw[dC (by have:=ld a;simp;omega)];kd_p
 exact⟨_,rfl,two hl hc (l.take a) [c] (l.drop a) a a rfl rfl (by simp)⟩
end
end LmXj
open L2 DL Mir
namespace Lk57
open LmA LmY LmWa LmWb LmWc LmWd LmWf LmWg LmWh LmWj LmWk LmWl LmWm LmWn LmWo LmWp LmXa LmXb LmXc LmXd LmXe LmXf LmXg LmXh LmXi LmXj TxtA
open LmC (cell uW)
theorem PK{d:D}(h:fA [d]=.err nt):gV [d]=.ok (.bl true):=by
 rw[M3];unfold qR zB zA;kd_p
 rw[h];kd_p
 rw[ID _ _ _ _ _ _ (show cF "NoText" "ChalkError"=some true by decide +kernel)];kd_p
 rw[e9 (show cF "NoText" "NoText"=some true by decide +kernel)];kd_p
 rw[Lk56.alone_ok];kd_p
theorem zbT{d:D}(h:g2 bH [d,.ty "str"]=.ok (.bl false)):fA [d]=.err nt:=by
 rw[L3];unfold qO;kd_p
 rw[h];kd_p
def rK:List D:=[.non,.int 1,.bl true,.lst [.str "a"],.tup [.str "name",.str "a"],.dct [] [],.lst [],.tup []]
theorem zbU:∀d∈rK,gV [d]=.ok (.bl true):=fun d hd=>by
 refine PK (zbT ?_)
 unfold rK at hd
 simp only[xal,xa2,or_false] at hd
 rcases hd with rfl|rfl|rfl|rfl|rfl|rfl|rfl|rfl<;>rfl
theorem zbV{m:List D->R D}{f:DSt->R D}{O:DSt}{d:D}(h:f O=.ok d):a7 m (aA f aD) O=m [d]:=by
 unfold a7 aA aD
 rw[h];rfl
theorem zbW(z:List Nat)(k:Nat):jM (ofL z) k=ofL (List.replicate k z).flatten:=by
 have:=LF (ofL z) k
 have e:(ofL z).cps.toList=z:=by simp[ofL]
 rw[e] at this
 show (⟨(jM (ofL z) k).cps⟩:Str)=⟨(List.replicate k z).flatten.toArray⟩
 congr 1
 apply xcb.mp
 rw[this]
theorem rL(z:List Nat)(k:Nat)(h1:1<=z.length)(h2:2<=k)(h3:z.length*k<=100000):bU (.str (ofL z)) (.int (k:Int))=.ok (.str (ofL (List.replicate k z).flatten)):=by
 show (bif decide (1<=(ofL z).length/\2<=(k:Int)/\(ofL z).length*(k:Int).toNat<=100000) then R.ok (D.str (jM (ofL z) (k:Int).toNat)) else .bad)=_
 rw[LmWl.lo,xbk,xab ⟨h1,by omega,h3⟩,zbW];rfl
theorem iZ(z:List Nat)(k:Nat):(List.replicate k z).flatten.length=k*z.length:=by
 induction k with
 |zero=>simp
 |succ k ih=>rw[xa0,xbu,xak,ih,Nat.succ_mul];omega
theorem vN(f:Nat->Bool)(z:List Nat)(k:Nat):(List.replicate k z).flatten.countP f=k*z.countP f:=by
 induction k with
 |zero=>simp
 |succ k ih=>rw[xa0,xbu,xaq,ih,Nat.succ_mul];omega
theorem PL:∀ws:List (List Nat),ws≠[]->(∀w∈ws,(32:Nat)∉w)->(TxtA.flat [32] ws).countP (· == 32)+1=ws.length
 |[],h,_=>xag rfl h
 |[w],_,h=>by
  show w.countP (· == 32)+1=1
  rw[oR fun c hc=>beq_eq_false_iff_ne.mpr fun e=>h w (by simp) (by rw[<- e];exact hc)]
 |w::v::ws,_,h=>by
  have ih:=PL (v::ws) (by simp) (fun u hu=>h u (by simp only[xal] at hu ⊢;exact .inr hu))
  rw[flat_cons _ _ (by simp),xaq,xaq,oR (l:=w) fun c hc=>beq_eq_false_iff_ne.mpr fun e=>h w (by simp) (by rw[<- e];exact hc),show [32].countP (· == 32)=1 from rfl,xan,<- ih]
  omega
theorem zbX(l:List Nat):(LmO.cutW l).length=l.countP (· == 32)+1:=by
 have:=PL (LmO.cutW l) (LmO.cutW_ne l) (LmO.cutW_no l)
 rw[LmO.flat_cutW] at this
 exact this.symm
theorem zbY{l:List Nat}(hl:l.length<=100000)(h:122<=l.countP (· == 32)):fA [.str (ofL l)]=.err nt:=by
 rw[AO l hl _ rfl,zbX,xae (by omega)];rfl
theorem PM{o:Nat}{r:List Nat}(ho:8<o)(ho':o<=10000)(hr:∀x∈r.head?,x≠40)(hrl:r.length<=10000)(h32:(32:Nat)∉r):fA [.str (ofL (List.replicate o 40++r))]=.err nt:=by
 obtain⟨e1,e2⟩:=vE 40 r hr o
 have h32':(32:Nat)∉List.replicate o 40++r:=fun h=>by
  rcases xbn.mp h with h|h
  ·exact xag (xcd h) (by decide)
  ·exact h32 h
 have hop:fP (List.replicate o 40++r)=o:=by unfold fP;rw[e1,xbb]
 have hre:LmXd.rest (List.replicate o 40++r)=r:=e2
 have hs:=OX (w:=List.replicate o 40++r) (by rw[hop];exact ho') (by rw[hre];exact hrl) (S:=[]) (G:=[]) (by simp) (by rw[hop];show 8<0+o;omega)
 rw[AO _ (by simp;omega) true (by rw[LmO.cutW_one h32'];exact(xab (by simp)).symm)]
 show fin (mL _)=_
 unfold mL
 rw[c4,OY,LmO.cutW_one h32']
 show fin (eQ (cQ [4,5] (dI 2) fH (.tup [.int ((0:Nat):Int),.str (ofL (List.replicate o 40++r))]::[]) (st (some (.str (ofL (List.replicate o 40++r)))) (some (.lst (dF [List.replicate o 40++r]))) ([],[]) none none)) _)=_
 rw[LmWp.forL_two]
 show fin (eQ (eF (fH (st (some (.str (ofL (List.replicate o 40++r)))) (some (.lst (dF [List.replicate o 40++r]))) ([],[]) (some (.int ((0:Nat):Int))) (some (.str (ofL (List.replicate o 40++r)))))) _) _)=_
 rw[OR (j:=0) rfl,show fZ [.str (ofL (List.replicate o 40++r)),.lst (sD []),.lst (gD [])]=.err nt from hs]
 rfl
section
variable(ns:List Int)(h:ns.length<=63){l:List Nat}(hl:l.length<=200)(hc:l.countP bF<=24)
include hl hc
theorem zbZ(k:Nat)(hk:k<=60)(z3 z4 z5 z6 z7:Option D):∃y3 y4,qU [some (.lst (ns.map .int)),some (.str (ofL l)),some (.int (k:Int)),z3,z4,z5,z6,z7]=.ok (.nx [some (.lst (ns.map .int)),some (.str (ofL l)),some (.int (k:Int)),y3,y4,z5,z6,z7]):=by
 have ck:jO [.lst (ns.map .int),.int (k:Int)]=.ok (.int (cell ns k)):=uW ns k
 obtain⟨r,er,r0,r1⟩:=NT (cell ns k) (k:Int) (by omega) (by omega)
 have d2:dQ (.int (cell ns k)) (.int 2)=.ok (.int (cell ns k/2)):=mG _ _ (by decide +kernel) (by decide)
 have m2:bK (.int (cell ns k)) (.int 2)=.ok (.int (cell ns k%2)):=fO _ _ (by decide)
 have go:∀n:Int,zN [some (.lst (ns.map .int)),some (.str (ofL l)),some (.int (k:Int)),some (.int (cell ns k)),some (.int n),z5,z6,z7]=.ok (.nx [some (.lst (ns.map .int)),some (.str (ofL l)),some (.int (k:Int)),some (.int (cell ns k)),some (.int n),z5,z6,z7]):=fun n=>by
  obtain⟨d,ed,hd⟩:=zbS hl hc n
  unfold zN;kd_p
  rw[ed];kd_p
  rw[hd.right];kd_p
  unfold NL
  have k0:=xcv n (show (8:Int)≠0 by decide)
  have k1:=xch n (show (0:Int)<8 by decide)
  obtain⟨j,hj⟩:∃j:Nat,n%8=(j:Int):=⟨(n%8).toNat,by omega⟩
  have hjl:j<rK.length:=by show j<8;omega
  have hx:aC aW (bE (bP (aA (eC .non) (aA (eC (.int 1)) (aA (eC (.bl true)) (aA (bE (bP (aA (eC (.str "a")) aD))) (aA (fE (aA (eC (.str "name")) (aA (eC (.str "a")) aD))) (aA (eC (.dct [] [])) (aA (bE (bP aD)) (aA (fE aD) aD)))))))))) (aC bK (aB 4) (eC (.int 8))) [some (.lst (ns.map .int)),some (.str (ofL l)),some (.int (k:Int)),some (.int (cell ns k)),some (.int n),z5,z6,z7]=.ok rK[j]:=by
   show R.bind (bK (.int n) (.int 8)) (fun y=>aW (.lst rK) y)=_
   rw[fO _ _ (by decide),hj]
   exact pS (xbd hjl)
  have hq:eU (aJ (a7 gV (aA (aC aW (bE (bP (aA (eC .non) (aA (eC (.int 1)) (aA (eC (.bl true)) (aA (bE (bP (aA (eC (.str "a")) aD))) (aA (fE (aA (eC (.str "name")) (aA (eC (.str "a")) aD))) (aA (eC (.dct [] [])) (aA (bE (bP aD)) (aA (fE aD) aD)))))))))) (aC bK (aB 4) (eC (.int 8)))) aD))) [some (.lst (ns.map .int)),some (.str (ofL l)),some (.int (k:Int)),some (.int (cell ns k)),some (.int n),z5,z6,z7]=.ok false:=by
   have:a7 gV (aA (aC aW (bE (bP (aA (eC .non) (aA (eC (.int 1)) (aA (eC (.bl true)) (aA (bE (bP (aA (eC (.str "a")) aD))) (aA (fE (aA (eC (.str "name")) (aA (eC (.str "a")) aD))) (aA (eC (.dct [] [])) (aA (bE (bP aD)) (aA (fE aD) aD)))))))))) (aC bK (aB 4) (eC (.int 8)))) aD) [some (.lst (ns.map .int)),some (.str (ofL l)),some (.int (k:Int)),some (.int (cell ns k)),some (.int n),z5,z6,z7]=.ok (.bl true):=by
    rw[zbV hx]
    exact zbU _ (xby hjl)
   unfold eU aJ
   rw[this];rfl
  rw[fX,hq];rfl
 unfold qU;kd_p
 rw[ck];kd_p
 unfold NN;kd_p
 rw[d2];kd_p
 unfold NM;kd_p
 rw[m2];kd_p
 by_cases h1:cell ns k%2=1
 ·rw[xab h1];kd_p
  rw[er];kd_p
  rw[go r]
  exact⟨_,_,rfl⟩
 ·rw[xae h1];kd_p
  rw[go (cell ns k/2)]
  exact⟨_,_,rfl⟩
end
theorem vO(x0 x1 x2 x3 x4 x5 x6 x7:Option D)(d:D)(h:fA [d]=.err nt):kE [x0,x1,x2,x3,x4,x5,x6,some d]=.ok (.nx [x0,x1,x2,x3,x4,x5,x6,some d]):=by
 unfold kE;kd_p
 rw[PK h];kd_p
def kG:List Nat:=[97]++(List.replicate 60 [32,43,32,97]).flatten
def kH:List Nat:=(List.replicate 8 [40]).flatten++[97]++(List.replicate 8 [41]).flatten
theorem zb0:aC aL (eC (.str "a")) (aC bU (eC (.str " + a")) (eC (.int 60)))=fun _=>.ok (.str (ofL kG)):=by
 funext O
 have h:=rL [32,43,32,97] 60 (by decide) (by decide) (by decide)
 have h':=dC (a:=[97]) (b:=(List.replicate 60 [32,43,32,97]).flatten) (by rw[iZ];decide)
 show R.bind (bU (.str (ofL [32,43,32,97])) (.int ((60:Nat):Int))) (fun y=>aL (.str (ofL [97])) y)=_
 rw[h,R.ok_bind,h',kG]
theorem zb1:aC aL (aC aL (aC bU (eC (.str "(")) (eC (.int 8))) (eC (.str "a"))) (aC bU (eC (.str ")")) (eC (.int 8)))=fun _=>.ok (.str (ofL kH)):=by
 funext O
 have h1:=rL [40] 8 (by decide) (by decide) (by decide)
 have h2:=rL [41] 8 (by decide) (by decide) (by decide)
 have h3:=dC (a:=(List.replicate 8 [40]).flatten) (b:=[97]) (by rw[iZ];decide)
 have h4:=dC (a:=(List.replicate 8 [40]).flatten++[97]) (b:=(List.replicate 8 [41]).flatten) (by rw[xak,iZ,iZ];decide)
 show R.bind (R.bind (bU (.str (ofL [40])) (.int ((8:Nat):Int))) fun x=>aL x (.str (ofL [97]))) (fun x=>R.bind (bU (.str (ofL [41])) (.int ((8:Nat):Int))) fun y=>aL x y)=_
 rw[h1,R.ok_bind,h3,R.ok_bind,h2,R.ok_bind,h4,kH]
def fa(k:Nat):List Nat:=List.replicate k 40
def fb(k:Nat):List Nat:=List.replicate k 40++([97]++List.replicate k 41)
def fc(c k:Nat):List Nat:=[97]++(List.replicate k [32,c,32,97]).flatten
theorem zb2(c k:Nat):(List.replicate k [c]).flatten=List.replicate k c:=List.flatten_replicate_singleton
section
variable(k:Nat)(h1:9<=k)(h2:k<=5000)
include h1 h2
theorem AU(c:Nat):bU (.str (ofL [c])) (.int (k:Int))=.ok (.str (ofL (List.replicate k c))):=by
 rw[rL [c] k (xaf 1) (by omega) (by show 1*k<=100000;omega),zb2]
theorem zb3(O:DSt):aC bU (eC (.str "(")) (eC (.int (k:Int))) O=.ok (.str (ofL (fa k))):=AU k h1 h2 40
theorem zb4(O:DSt):aC aL (aC aL (aC bU (eC (.str "(")) (eC (.int (k:Int)))) (eC (.str "a"))) (aC bU (eC (.str ")")) (eC (.int (k:Int)))) O=.ok (.str (ofL (fb k))):=by
 show R.bind (R.bind (bU (.str (ofL [40])) (.int (k:Int))) fun x=>aL x (.str (ofL [97]))) (fun x=>R.bind (bU (.str (ofL [41])) (.int (k:Int))) fun y=>aL x y)=_
 rw[AU k h1 h2,R.ok_bind,dC (by simp;omega),R.ok_bind,AU k h1 h2,R.ok_bind,dC (by simp;omega),xa5];rfl
theorem PN(c:Nat):bU (.str (ofL [32,c,32,97])) (.int (k:Int))=.ok (.str (ofL (List.replicate k [32,c,32,97]).flatten)):=
 rL [32,c,32,97] k (show 1<=4 by decide) (by omega) (by show 4*k<=100000;omega)
theorem zb5(O:DSt):aC aL (eC (.str "a")) (aC bU (eC (.str " + a")) (eC (.int (k:Int)))) O=.ok (.str (ofL (fc 43 k))):=by
 show R.bind (bU (.str (ofL [32,43,32,97])) (.int (k:Int))) (fun y=>aL (.str (ofL [97])) y)=_
 rw[PN k h1 h2,R.ok_bind,dC (by rw[iZ];show 1+k*4<=1000000;omega)];rfl
theorem zb6(O:DSt):aC aL (aC aL (eC (.str "a")) (aC bU (eC (.str " * a")) (eC (.int (k:Int))))) (eC (.str ")")) O=.ok (.str (ofL (fc 42 k++[41]))):=by
 show R.bind (R.bind (bU (.str (ofL [32,42,32,97])) (.int (k:Int))) (fun y=>aL (.str (ofL [97])) y)) (fun x=>aL x (.str (ofL [41])))=_
 rw[PN k h1 h2,R.ok_bind,dC (by rw[iZ];show 1+k*4<=1000000;omega),R.ok_bind,dC (by rw[xak,iZ];show 1+k*4+1<=1000000;omega)];rfl
theorem zb7:fA [.str (ofL (fa k))]=.err nt:=by
 have:=PM (o:=k) (r:=[]) (by omega) (by omega) (fun x hx=>by simp at hx) (by simp) (by simp)
 rw[xbh] at this
 exact this
theorem zb8:fA [.str (ofL (fb k))]=.err nt:=
 PM (o:=k) (r:=[97]++List.replicate k 41) (by omega) (by omega) (fun x hx=>by
  have:x=97:=by simpa using hx.symm
  omega) (by simp;omega) (fun hm=>by
  rcases xbn.mp hm with hm|hm
  ·simp at hm
  ·exact xag (xcd hm) (by decide))
end
theorem zb9(c k:Nat):(fc c k).length=1+k*4:=by unfold fc;rw[xak,iZ];rfl
theorem zca(f:Nat->Bool)(c k:Nat):(fc c k).countP f=[97].countP f+k * [32,c,32,97].countP f:=by unfold fc;rw[xaq,vN]
theorem PP(c k:Nat)(hc:c≠32)(t:List Nat)(h1:122<=k)(h2:k<=5000)(ht:t.length<=1):fA [.str (ofL (fc c k++t))]=.err nt:=by
 refine zbY (by rw[xak,zb9];omega) ?_
 rw[xaq,zca]
 have:[32,c,32,97].countP (· == 32)=2:=by
  rw[xa8,xa8,xa8,xa8,show (c==32)=false from beq_eq_false_iff_ne.mpr hc];rfl
 rw[this];omega
theorem oV{f k:DSt->R aE}{O O':DSt}(h:f O=.ok (.nx O')):aO f k O=k O':=by
 rw[c4,h];rfl
theorem five(x0 x1 x2 x3 x4 x5 x6:Option D)(k j:Nat)(h1:122<=k)(h2:k<=5000)(h3:122<=j)(h4:j<=5000):∃z,gF [] [7] bQ (hZ (bE (bP (aA (aC bU (eC (.str "(")) (eC (.int (k:Int)))) (aA (aC aL (aC aL (aC bU (eC (.str "(")) (eC (.int (k:Int)))) (eC (.str "a"))) (aC bU (eC (.str ")")) (eC (.int (k:Int))))) (aA (aC aL (eC (.str "a")) (aC bU (eC (.str " + a")) (eC (.int (j:Int))))) (aA (aC aL (aC aL (eC (.str "a")) (aC bU (eC (.str " * a")) (eC (.int (j:Int))))) (eC (.str ")"))) aD))))))) kE [x0,x1,x2,x3,x4,x5,x6,none]=.ok (.nx [x0,x1,x2,x3,x4,x5,x6,z]):=by
 have ea:=zb3 k (by omega) h2
 have eb:=zb4 k (by omega) h2
 have ec:=zb5 j (by omega) h4
 have ed:=zb6 j (by omega) h4
 have na:=zb7 k (by omega) h2
 have nb:=zb8 k (by omega) h2
 have nc:=PP 43 j (by decide) [] h3 h4 (by simp)
 have nd:=PP 42 j (by decide) [41] h3 h4 (by simp)
 rw[xbh] at nc
 generalize aC bU (eC (.str "(")) (eC (.int (k:Int)))=A at ea eb ⊢
 generalize aC aL (aC aL A (eC (.str "a"))) (aC bU (eC (.str ")")) (eC (.int (k:Int))))=B at eb ⊢
 generalize aC aL (eC (.str "a")) (aC bU (eC (.str " + a")) (eC (.int (j:Int))))=C at ec ⊢
 generalize aC aL (aC aL (eC (.str "a")) (aC bU (eC (.str " * a")) (eC (.int (j:Int))))) (eC (.str ")"))=E at ed ⊢
 generalize D.str (ofL (fa k))=a at ea na
 generalize D.str (ofL (fb k))=b at eb nb
 generalize D.str (ofL (fc 43 j))=c at ec nc
 generalize D.str (ofL (fc 42 j++[41]))=d at ed nd
 have hl:hZ (bE (bP (aA A (aA B (aA C (aA E aD)))))) (mask [] [x0,x1,x2,x3,x4,x5,x6,none])=.ok [a,b,c,d]:=by
  unfold hZ bE bP aA aD
  simp only[ea,eb,ec,ed,R.ok_bind]
  rfl
 refine⟨some d,?_⟩
 show (hZ (bE (bP (aA A (aA B (aA C (aA E aD)))))) (mask [] [x0,x1,x2,x3,x4,x5,x6,none])).bind (fun ds=>cQ [7] bQ kE ds [x0,x1,x2,x3,x4,x5,x6,none])=_
 rw[hl,R.ok_bind,jH]
 show eF (kE [x0,x1,x2,x3,x4,x5,x6,some a]) _=_
 rw[vO _ _ _ _ _ _ _ none a na,iS,jH]
 show eF (kE [x0,x1,x2,x3,x4,x5,x6,some b]) _=_
 rw[vO _ _ _ _ _ _ _ none b nb,iS,jH]
 show eF (kE [x0,x1,x2,x3,x4,x5,x6,some c]) _=_
 rw[vO _ _ _ _ _ _ _ none c nc,iS,jH]
 show eF (kE [x0,x1,x2,x3,x4,x5,x6,some d]) _=_
 rw[vO _ _ _ _ _ _ _ none d nd,iS,x8]
theorem six(x0 x1 x2 x3 x4 x7:Option D)(a b:List Nat)(ha:a.length<=800)(ha':a.countP bF<=60)(hb:b.length<=800)(hb':b.countP bF<=60):fin (zO [x0,x1,x2,x3,x4,some (.str (ofL a)),some (.str (ofL b)),x7])=.ok (.bl true):=by
 unfold zO;kd_p
 rw[oU a (by omega) (by omega)];kd_p
 rw[show (D.str " * b")=.str (ofL [32,42,32,98]) from rfl,dC (by simp;omega)];kd_p
 rw[oU (a++[32,42,32,98]) (by simp;omega) (by rw[xaq,show [32,42,32,98].countP bF=1 from rfl];omega)];kd_p
 rw[oU b (by omega) (by omega)];kd_p
 rw[show (D.str "(")=.str (ofL [40]) from rfl,dC (by simp;omega)];kd_p
 rw[show (D.str ")")=.str (ofL [41]) from rfl,dC (by simp;omega)];kd_p
 rw[oU ([40]++b++[41]) (by simp;omega) (by rw[xaq,xaq,show [40].countP bF=1 from rfl,show [41].countP bF=0 from rfl];omega)];kd_p
theorem PQ:kG.length<=800/\kG.countP bF<=60:=by
 unfold kG
 rw[xak,xaq,iZ,vN];decide
theorem PR:kH.length<=800/\kH.countP bF<=60:=by
 unfold kH
 rw[xak,xak,xaq,xaq,iZ,iZ,vN,vN];decide
theorem PU{i:Nat}{f:DSt->R D}{d:D}(h:f=fun _=>.ok d)(O:DSt):bN i f O=.ok (.nx (O.set i (some d))):=by subst h;rfl
theorem zcc(x0 x1 x2 x3 x4:Option D):fin (zP [x0,x1,x2,x3,x4,none,none,none])=.ok (.bl true):=by
 obtain⟨z,e5⟩:=five x0 x1 x2 x3 x4 (some (.str (ofL kG))) (some (.str (ofL kH))) 5000 4000 (by decide) (by decide) (by decide) (by decide)
 have e6:=six x0 x1 x2 x3 x4 z kG kH PQ.1 PQ.2 PR.1 PR.2
 rw[show ((5000:Nat):Int)=5000 from rfl,show ((4000:Nat):Int)=4000 from rfl] at e5
 unfold zP
 rw[oV (PU zb0 _)]
 unfold NP
 rw[oV (PU zb1 _)]
 unfold NO
 rw[show (([x0,x1,x2,x3,x4,none,none,none]:DSt).set 5 (some (.str (ofL kG)))).set 6 (some (.str (ofL kH)))=[x0,x1,x2,x3,x4,some (.str (ofL kG)),some (.str (ofL kH)),none] from rfl,oV e5]
 exact e6
theorem zcd(t:Tr)(hg:dL t)(hm:t.many<=13):∃L,oC [t.d,.int 0]=.ok (.str (ofL L))/\L.length<=200/\L.countP bF<=24:=by
 have e:=z9 t 64 0 hg (by omega) (by omega)
 have h1:=qZ t 0 hg
 have h2:=AT t 0 hg
 exact⟨cD t 0,e,by omega,by omega⟩
abbrev s8(ns:List Int)(x1 x2 x3 x4:Option D):DSt:=[some (.lst (ns.map .int)),x1,x2,x3,x4,none,none,none]
theorem zce(ns:List Int):∃L,a7 oC (aA (a7 oB (aA (aC aL (kY (aB 0) (bJ (eC (.int 1))) (bJ (eC (.int 13)))) (bE (bP (aA (eC (.int 1)) aD)))) (aA (a7 oA (aA (a7 jO (aA (aB 0) (aA (eC (.int 0)) aD))) (aA (eC (.int 5)) aD))) aD))) (aA (eC (.int 0)) aD)) (s8 ns none none none none)=.ok (.str (ofL L))/\L.length<=200/\L.countP bF<=24:=by
 obtain⟨xs,ex,h5,hnd,hp⟩:=zaL (cell ns 0)
 have c0:jO [.lst (ns.map .int),.int 0]=.ok (.int (cell ns 0)):=uW ns 0
 kd_p
 rw[LmX.eSl_mid _ _ _ _ (ns.map D.int) 1 13 rfl rfl rfl]
 obtain⟨cs,ec,hc⟩:∃cs:List Int,((ns.map D.int).drop (min 1 (ns.map D.int).length)).take (min 13 (ns.map D.int).length-min 1 (ns.map D.int).length)=cs.map D.int/\cs.length<=12:=by
  refine⟨(ns.drop (min 1 (ns.map D.int).length)).take (min 13 (ns.map D.int).length-min 1 (ns.map D.int).length),by rw[List.map_take,List.map_drop],?_⟩
  rw[xbi,xbj,xat]
  omega
 rw[ec];kd_p
 rw[show aL (.lst (cs.map D.int)) (.lst [.int 1])=.ok (.lst ((cs++[1]).map .int)) from by
  show (bif bL ((cs.map D.int).length+1) then R.ok (D.lst (cs.map D.int++[.int 1])) else .bad)=_
  rw[show bL ((cs.map D.int).length+1)=true from xab (by rw[xat];exact xav (show cs.length+1<=63 by omega) (by decide)),xbf];rfl]
 rw[c0];kd_p
 rw[ex];kd_p
 obtain⟨t,et,hg,hm⟩:=zaR xs h5 hp (cs++[1]) (by simp) (by simp;omega)
 have hm:t.many<=13:=by simp at hm;omega
 rw[et];kd_p
 exact zcd t hg hm
theorem zcf(ns:List Int)(L:List Nat)(hl:L.length<=200)(hc:L.countP bF<=24):bT (eU (aJ (a7 iK (aA (aB 1) aD)))) (bI (eC (.bl false))) bY (s8 ns (some (.str (ofL L))) none none none)=.ok (.nx (s8 ns (some (.str (ofL L))) none none none)):=by
 kd_p
 rw[oU L (by omega) (by omega)];kd_p
theorem zcg(ns:List Int)(h:ns.length<=63)(L:List Nat)(hl:L.length<=200)(hc:L.countP bF<=24):∃z2 z3 z4,gF [] [2] bQ (eV nK (aA (eC (.int 40)) (aA (aG kW (aA (eC (.int 41)) (aA (aG kU (aA (aG aY (aA (aB 0) aD)) (aA (eC (.int 60)) aD))) aD))) aD))) qU (s8 ns (some (.str (ofL L))) none none none)=.ok (.nx (s8 ns (some (.str (ofL L))) z2 z3 z4)):=by
 obtain⟨O',e,z2,z3,z4,rfl⟩:=KB (i:=2) (fb:=qU) (fun O=>∃z2 z3 z4:Option D,O=s8 ns (some (.str (ofL L))) z2 z3 z4) (cH 40 ((((max 41 (min ns.length 60)):Nat):Int)-40).toNat) (by
  rintro d hd O ⟨z2,z3,z4,rfl⟩
  obtain⟨k,hk,rfl⟩:=LmC.rngD_mem.mp hd
  obtain⟨y3,y4,e⟩:=zbZ ns hl hc (40+k) (by omega) z3 z4 none none none
  rw[show (((40+k:Nat)):Int)=40+(k:Int) by omega] at e
  exact⟨_,.inl e,some (.int (40+(k:Int))),y3,y4,rfl⟩) (s8 ns (some (.str (ofL L))) none none none) ⟨none,none,none,rfl⟩
 refine⟨z2,z3,z4,?_⟩
 kd_p
 rw[show (max 41 (min ((ns.map D.int).length:Int) 60))=(((max 41 (min ns.length 60)):Nat):Int) from by rw[xat];omega,JX _ _ (pT (by omega) (by omega)) (pT (by omega) (by omega))];kd_p
 exact e
theorem zch{i:Nat}{f:DSt->R D}{d:D}{O:DSt}(h:f (mask [] O)=.ok d)(h':f O=.ok d):bN i f O=.ok (.nx (O.set i (some d))):=by
 rw[jG]
 first|rw[h']|rw[h]
 rfl
theorem law_ok(ns:List Int)(h:ns.length<=63):uV [.lst (ns.map .int)]=.ok (.bl true):=by
 obtain⟨L,e0,hl,hc⟩:=zce ns
 have e1:=zcf ns L hl hc
 obtain⟨z2,z3,z4,e2⟩:=zcg ns h L hl hc
 rw[zaA]
 unfold uU
 rw[oV (zch e0 e0),List.set_cons_succ,List.set_cons_zero]
 unfold NS
 rw[oV e1]
 unfold NQ
 rw[oV e2]
 exact zcc _ _ _ _ _
end Lk57
end
section
namespace Kx
open L2 DL Mir
local macro_rules | `(tactic| kst_p1)=>`(tactic| (first|exact Or.inl rfl|exact Or.inr (Or.inl rfl)|exact Or.inr (Or.inr rfl)))
local macro_rules | `(tactic| walk_at "o2")=>`(tactic| (first|exact Or.inl rfl|exact Or.inr rfl))
local macro_rules | `(tactic| walk_at "o4")=>`(tactic| (first|exact .inl rfl|exact .inr rfl|assumption))
local macro_rules | `(tactic| walk_at "C")=>`(tactic| first|assumption|exact XC.lc (by assumption) _ _ _ _ _ _|exact XC.nox (by assumption))
local macro_rules | `(tactic| walk_at "H")=>`(tactic| first|assumption|exact XC.calm (by walk_at "C")|rfl)
local macro_rules | `(tactic| walk_at "F")=>`(tactic| first|exact w6|exact mB|exact gJ|exact DD|exact sU|exact DP|exact DK (by walk_at "C")|exact DM (by walk_at "C")|exact YB (by walk_at "C")|exact YC (by walk_at "C"))
local macro_rules | `(tactic| walk_at "E")=>`(tactic| first|((with_reducible refine @U5 _ _ _ _ _ ?_ ?_ ?_ ?_);rfl;(first|exact Or.inl rfl|exact Or.inr (Or.inl rfl)|exact Or.inr (Or.inr rfl));decide;decide)|((with_reducible refine @cM _ _ _ _ _ _ ?_ ?_ ?_);walk_at "E";walk_at "E";rfl)|((with_reducible refine @eA _ _))|((with_reducible refine @eO _ _ _ _ _))|((with_reducible refine @sG _ _ _ _ _))|((with_reducible refine @WI _ _ _ _ _ _ _ ?_ ?_);walk_at "E";walk_at "E")|((with_reducible refine @VM _ _ _ _ _ _ _ _ _ _ (by walk_at "C") ?_ ?_ ?_ ?_ ?_ ?_);walk_at "H";walk_at "E";rfl;decide;rfl;rfl)|((with_reducible refine @VL _ _ _ _ _ _ _ ?_ ?_ ?_);walk_at "E";walk_at "E";(intro _ _;rfl))|((with_reducible refine @WM _ _ _ _ _ _ _ ?_ ?_);walk_at "E";walk_at "E")|((with_reducible refine @dJ _ _ _ _ _ _ _ _ _ ?_ ?_ ?_ ?_);walk_at "F";walk_at "E";walk_at "E";(first|exact cL _ (by decide) (by decide)|rfl))|((with_reducible refine @DU _ _ _ _ _ _ _ ?_ ?_ ?_ ?_ ?_);walk_at "H";walk_at "E";rfl;rfl;rfl)|((with_reducible refine @VH _ _ _ _ _ ?_);walk_at "E")|((with_reducible refine @XG _ _ _ _ ?_);walk_at "E")|((with_reducible refine @DF.val _ _ _ _ ?_);walk_at "E")|((with_reducible refine @W7 _ _ _ _ _ _ _ ?_ ?_ ?_ ?_ ?_);walk_at "H";walk_at "E";rfl;rfl;rfl)|((with_reducible refine @jF _ _ _ _ _ _ _ ?_ ?_ ?_ ?_ ?_);walk_at "H";walk_at "E";rfl;rfl;rfl)|((with_reducible refine @CW _ _ _ _ _ (by assumption) ?_ ?_);rfl;decide)|((with_reducible refine @YK _ _ _ _ _ _ _ _ _ _ ?_ ?_ ?_);walk_at "E";walk_at "E";walk_at "E")|((with_reducible refine @XF _ _))|((with_reducible refine @YH _ _ _ _ _ _ _ ?_ ?_ ?_);walk_at "E";walk_at "E";(intro _ _;rfl))|((with_reducible refine @WK _ _ _ _ _ _ _ ?_ ?_);walk_at "E";walk_at "E")|((with_reducible refine @WL _ _ _ _ _ _ _ ?_ ?_);walk_at "E";walk_at "E")|((with_reducible refine @VG _ _ _ _ _ _ ?_);walk_at "E")|((with_reducible refine @U6 _ _ _ _ _))|((with_reducible refine @DQ _ _ _ _ _ _ _ _ _ ?_ ?_ ?_ ?_);walk_at "F";walk_at "E";walk_at "E";(first|exact cL _ (by decide) (by decide)|rfl))|((with_reducible refine @zaa _ _ _ _ _ _ _ ?_ ?_);walk_at "E";walk_at "E")|((with_reducible refine @XQ _ _ _ _ _ ?_ ?_ ?_);walk_at "H";rfl;decide)|((with_reducible refine @WJ _ _ _ _ _ _ _ ?_ ?_);walk_at "E";walk_at "E")|((with_reducible refine @VR _ _ _ _ _ _ _ ?_ ?_ ?_ ?_);walk_at "H";walk_at "E";rfl;rfl)|((with_reducible refine @YE _ _ _ _ _ ?_);walk_at "E")|((with_reducible refine @pC _ _ _ _))|((with_reducible refine @kT _ _ _ _ _ ?_);walk_at "E")|((with_reducible refine @nI _ _ _ _ _ _ _ _ ?_ ?_);walk_at "E";walk_at "E")|((with_reducible refine @nH _ _ _ _ _ ?_);walk_at "E")|((with_reducible refine @WO _ _ _ _ _ ?_);walk_at "E")|((with_reducible refine @j5 _ _ _ _ _ _ _ _ ?_ ?_);walk_at "E";walk_at "E")|((with_reducible refine @WN _ _ _ _ _ _ _ ?_ ?_);walk_at "E";walk_at "E")|((with_reducible refine @VQ _ _ _ _ _ ?_);walk_at "E")|((with_reducible refine @W2 _ _ _ _ _ _ _ ?_ ?_ ?_ ?_ ?_ ?_);walk_at "H";walk_at "H";walk_at "E";rfl;rfl;rfl)|((with_reducible refine @W3 _ _ _ _ _ _ _ ?_ ?_ ?_ ?_ ?_ ?_);walk_at "H";walk_at "H";walk_at "E";rfl;rfl;rfl)|((with_reducible refine @ZB _ _ _ _ _ _ _ ?_ ?_ ?_ ?_ ?_);walk_at "H";walk_at "E";rfl;rfl;rfl)|((with_reducible refine @DW.dt _ _ _ _ ?_);walk_at "E")|((with_reducible refine @Z5 _ _ _ _ _ _ _ _ ?_ ?_ ?_ ?_ ?_);walk_at "H";walk_at "E";rfl;decide;(intro _ _;rfl))|((with_reducible refine @XH _ _ _ _ _ _ _ _ _ _ ?_ ?_ ?_);walk_at "E";walk_at "E";walk_at "E")|((with_reducible refine @X2 _ _ _ _ _ _ _ ?_ ?_ ?_ ?_ ?_);walk_at "H";walk_at "E";rfl;rfl;rfl)|((with_reducible refine @YO _ _ _ _ _ _ _ _ ?_ ?_ ?_ ?_ ?_ ?_ ?_);walk_at "E";walk_at "E";rfl;rfl;rfl;rfl;rfl)|((with_reducible refine @kS _ _ _ _ _ ?_);walk_at "E")|((with_reducible refine @YZ _ _ _ _ _ _ _ _ _ _ ?_ ?_ ?_ ?_ ?_);walk_at "H";walk_at "E";rfl;rfl;rfl)|((with_reducible refine @ZW _ _ _ _ _ _ _ _ ?_ ?_ ?_ ?_ ?_ ?_ ?_);walk_at "E";walk_at "E";rfl;rfl;rfl;rfl;rfl)|((with_reducible refine @zab _ _ _ _ _ _ _ ?_ ?_);walk_at "E";walk_at "E")|((with_reducible refine @Z4 _ _ _ _ _ _ _ _ ?_ ?_ ?_ ?_ ?_ ?_ ?_);walk_at "E";walk_at "E";rfl;rfl;rfl;rfl;rfl)|((with_reducible refine @Z0 _ _ _ _ _ _ _ _ ?_ ?_ ?_ ?_ ?_ ?_ ?_);walk_at "E";walk_at "E";rfl;rfl;rfl;rfl;rfl)|((with_reducible refine @Y8 _ _ _ _ _ _ _ _ ?_ ?_ ?_ ?_ ?_ ?_ ?_);walk_at "E";walk_at "E";rfl;rfl;rfl;rfl;rfl)|((with_reducible refine @Y3 _ _ _ _ _ _ _ _ _ ?_ ?_ ?_ ?_);walk_at "H";walk_at "E";rfl;rfl)|((with_reducible refine @VN _ _ _ _ _ _ _ (by walk_at "C") ?_ ?_ ?_);walk_at "H";rfl;decide)|((with_reducible refine @VS _ _ _ _ _ _ _ _ ?_ ?_ ?_ ?_ ?_);walk_at "H";walk_at "E";rfl;rfl;rfl)|((with_reducible refine @X5 _ _ _))|((with_reducible refine @kR _ _ _ _ ?_ ?_);walk_at "E";(intro _;rfl))|((with_reducible refine @wL _ _ _ _ _ _ ?_);walk_at "E")|((refine @eO _ _ _ _ _))|((refine @sG _ _ _ _ _))|((refine @dJ _ _ _ _ _ _ _ _ _ ?_ ?_ ?_ ?_);walk_at "F";walk_at "E";walk_at "E";(first|exact cL _ (by decide) (by decide)|rfl))|((refine @CW _ _ _ _ _ (by assumption) ?_ ?_);rfl;decide)|((refine @kT _ _ _ _ _ ?_);walk_at "E")|((refine @nH _ _ _ _ _ ?_);walk_at "E")|((refine @j5 _ _ _ _ _ _ _ _ ?_ ?_);walk_at "E";walk_at "E")|((refine @DW.dt _ _ _ _ ?_);walk_at "E")|((refine @kS _ _ _ _ _ ?_);walk_at "E")|((refine @kR _ _ _ _ ?_ ?_);walk_at "E";(intro _;rfl)))
local macro_rules | `(tactic| walk_at "GS")=>`(tactic| first|exact @QY _|((refine @QZ _ _ _ _ _ ?_ ?_ ?_);((refine @A5 _ _ _ _ ?_ ?_ ?_ ?_);assumption;rfl;(first|exact Or.inl rfl|exact Or.inr rfl);(first|exact .inl rfl|exact .inr rfl|assumption));walk_at "GS";rfl))
local macro_rules | `(tactic| walk_at "G")=>`(tactic| first|((with_reducible refine @VO _ _ _ _ ?_ ?_ ?_ ?_);assumption;rfl;(first|exact Or.inl rfl|exact Or.inr rfl);(first|exact .inl rfl|exact .inr rfl|assumption))|((with_reducible refine @VP _ _ _ _ _ _ ?_ ?_ ?_ ?_ ?_);walk_at "H";walk_at "GS";rfl;rfl;rfl))
local macro_rules | `(tactic| walk_at "s3")=>`(tactic| exact @l6 _ _ _ _ _ _ _ _ (by walk_at "E"))
local macro_rules | `(tactic| kst_p)=>`(tactic| exact @VZ _ _ _ _ _ _ _ _ _ (by assumption) (by walk_at "E") (by rfl) (by walk_at "o2") (by rfl) (by walk_at "o4"))
local macro_rules | `(tactic| walk_at "s5")=>`(tactic| exact @V0 _ _ _ _ _ _ _ _ _ _ _ (by assumption) (by walk_at "E") (by rfl) (by rfl) (by walk_at "o2") (by rfl) (by walk_at "o4"))
local macro_rules | `(tactic| walk_at "s1")=>`(tactic| exact @VY _ _ _ _ _ _ _ _ _ _ (by assumption) (by walk_at "E") (by rfl) (by rfl) (by walk_at "o2") (by rfl) (by walk_at "o4"))
local macro_rules | `(tactic| walk_at "s7")=>`(tactic| exact @V4 _ _ _ _ _ _ _ _ _ _ _ _ (by walk_at "E") (by rfl) (by rfl) (by kst_p1) (by decide) (by decide) (by rfl) (by rfl) (by rfl) (by rfl) (by rfl) (by rfl))
local macro_rules | `(tactic| kd_p1)=>`(tactic| exact(@cI _ _ _ _ _ _ _ (by walk_at "s3")))
local macro_rules | `(tactic| walk_at "I3")=>`(tactic| exact(@cU _ _ _ _ _ _ _ _ _ _ _ _ (by walk_at "E") (by kd_p1) (@c7 _ _ _ _)))
set_option maxHeartbeats 4000000
variable{P:Program}{w:World}{K:xFg}{mg:Str->Option Value}{base:Heap}{f:Addr}{fd:FuncData}{k:Nat}
local macro_rules | `(tactic| kst_p2)=>`(tactic| exact⟨rfl,rfl,rfl,by decide +kernel,rfl,by decide +kernel,by decide +kernel⟩)
local macro_rules | `(tactic| walk_at "b0")=>`(tactic| exact fun _ _ _ _ _ _=>us0 (rfl))
local macro_rules | `(tactic| walk_at "b1")=>`(tactic| exact fun _ _ _ _ _ _=>us1 (fun _=>rfl))
local macro_rules | `(tactic| walk_at "b2")=>`(tactic| exact fun _ _ _ _ _ _=>us2 (fun _ _=>rfl))
local macro_rules | `(tactic| walk_at "b3")=>`(tactic| exact fun _ _ _ _ _ _=>us3 (fun _ _ _=>rfl))
local macro_rules | `(tactic| walk_at "b4")=>`(tactic| exact fun _ _ _ _ _ _=>us4 (fun _ _ _ _=>rfl))
local macro_rules | `(tactic| walk_at "b5")=>`(tactic| exact fun _ _ _ _ _ _=>us5 (fun _ _ _ _ _=>rfl))
def top(i:Nat):Stmt:=PySem.Challenge.pw_chalkline_k57_no_sum.main.body.getD i (.Pass ⟨0,0,0,0⟩)
theorem zci(F:FA K mg "_law_part" (top 43) ["_law_tree_here","_law_least"] f fd)(q0:mg "str"=none)(q1:mg "int"=none):aU P w K mg base (k+1+64) "_law_part" oC:=show aU P w K mg base (k+1+64) "_law_part" (lA (fun m=>bV 2 4 (lF m)) 64) from F.deep (own':=[]) (N:=["_law_tree_here","_law_least","_law_close","_law_text"]) (by kst_p2) rfl rfl (fun j m F__law_part _ _ _ _ _ _ C L nd=>(@aP _ _ _ _ _ _ _ _ _ _ (by walk_at "I3") (@aP _ _ _ _ _ _ _ _ _ _ (by walk_at "I3") (@aP _ _ _ _ _ _ _ _ _ _ (by kst_p) (@aP _ _ _ _ _ _ _ _ _ _ (by kst_p) (@aP _ _ _ _ _ _ _ _ _ _ (@cU _ _ _ _ _ _ _ _ _ _ _ _ (@dJ _ _ _ _ _ _ _ _ _ (@w6 _) (by walk_at "E") (by walk_at "E") (by first|exact cL _ (by decide) (by decide)|rfl)) (by kd_p1) (@c7 _ _ _ _)) (by kd_p1))))))) 64
theorem zcj(F:FA K mg "_law_mixed" (top 38) ["_law_cell_here","_law_k"] f fd):aU P w K mg base (k+1) "_law_mixed" lE:=F.ok (own':=[]) (N:=["_law_cell_here","_law_k","_law_number"]) (by kst_p2) rfl rfl fun _ _ _ _ _ _ C L nd=>(@aP _ _ _ _ _ _ _ _ _ _ (by kst_p) (@aP _ _ _ _ _ _ _ _ _ _ (by kst_p) (@aP _ _ _ _ _ _ _ _ _ _ (by kst_p) (by kd_p1))))
theorem zck(F:FA K mg "_law_digits" (top 39) ["_law_cell_here","_law_many"] f fd)(q1:mg "range"=none)(q0:aU P w K mg base k "_law_mixed" lE):aU P w K mg base (k+1) "_law_digits" iW:=F.ok (own':=[]) (N:=["_law_cell_here","_law_many","_law_found","_law_number","_law_k"]) (by kst_p2) rfl rfl fun _ _ _ _ _ _ C L nd=>(@aP _ _ _ _ _ _ _ _ _ _ (by walk_at "s5") (@aP _ _ _ _ _ _ _ _ _ _ (by walk_at "s1") (@aP _ _ _ _ _ _ _ _ _ _ (@j7 _ _ _ _ _ _ _ _ _ _ _ _ L C.calm (by walk_at "E") (by walk_at "G") (@cI _ _ _ _ _ _ _ (@cU _ _ _ _ _ _ _ _ _ _ _ _ (@DW.dt _ _ _ _ (@j5 _ _ _ _ _ _ _ _ (by walk_at "E") (@nH _ _ _ _ _ (@dJ _ _ _ _ _ _ _ _ _ (@gJ _) (by walk_at "E") (@eO _ _ _ _ _) (by first|exact cL _ (by decide) (by decide)|rfl))))) (@aP _ _ _ _ _ _ _ _ _ _ (by walk_at "s7") (@cI _ _ _ _ _ _ _ (by walk_at "s1"))) (@cI _ _ _ _ _ _ _ (by walk_at "s7")))) (by rfl) (by intro _;rfl)) (@sJ _ _ _ _ _ _ _ _ 2 (by rfl) (by rfl) (by kd_p1)))))
theorem zcl(F:FA K mg "_law_leaf" (top 41) ["_law_digits_here","_law_names"] f fd)(q0:mg "len"=none):aU P w K mg base (k+1) "_law_leaf" kD:=F.ok (own':=[]) (N:=["_law_digits_here","_law_names"]) (by kst_p2) rfl rfl fun _ _ _ _ _ _ C L nd=>(@aP _ _ _ _ _ _ _ _ _ _ (@cU _ _ _ _ _ _ _ _ _ _ _ _ (@dJ _ _ _ _ _ _ _ _ _ (@gJ _) (by walk_at "E") (@eO _ _ _ _ _) (by first|exact cL _ (by decide) (by decide)|rfl)) (by kd_p1) (@c7 _ _ _ _)) (by kd_p1))
theorem zcm(F:FA K mg "_law_tree" (top 42) ["_law_cells","_law_names"] f fd)(q2:mg "len"=none)(q0:aU P w K mg base k "_law_digits" iW)(q1:aU P w K mg base k "_law_leaf" kD):aU P w K mg base (k+1) "_law_tree" oB:=F.ok (own':=[]) (N:=["_law_cells","_law_names","_law_stack","_law_cell_here","_law_digits_here","_law_other"]) (by kst_p2) rfl rfl fun _ _ _ _ _ _ C L nd=>(@aP _ _ _ _ _ _ _ _ _ _ (by walk_at "s5") (@aP _ _ _ _ _ _ _ _ _ _ (@j7 _ _ _ _ _ _ _ _ _ _ _ _ L C.calm (by walk_at "E") (by walk_at "G") (@aP _ _ _ _ _ _ _ _ _ _ (by walk_at "s1") (@cI _ _ _ _ _ _ _ (@cU _ _ _ _ _ _ _ _ _ _ _ _ (@DW.dt _ _ _ _ (@j5 _ _ _ _ _ _ _ _ (@dJ _ _ _ _ _ _ _ _ _ (@gJ _) (by walk_at "E") (@eO _ _ _ _ _) (by first|exact cL _ (by decide) (by decide)|rfl)) (by walk_at "E"))) (@aP _ _ _ _ _ _ _ _ _ _ (@K2 _ _ _ _ _ _ _ _ _ 2 5 _ _ nd (by rfl) (by rfl) (by rfl) (by rfl) (by kst_p1) (by decide) (by decide) (by walk_at "o2") (by rfl) (by rfl) (by rfl) (by walk_at "o4")) (@cI _ _ _ _ _ _ _ (@ZD _ _ _ _ _ _ _ _ _ _ _ _ _ 2 2 _ _ _ _ _ _ (by walk_at "E") (by walk_at "E") (by rfl) (by rfl) (by rfl) (by rfl) (by kst_p1) (by decide) (by decide) (by kst_p1) (by decide) (by decide) (by rfl) (by rfl) (by rfl) (by rfl) (by rfl) (by rfl) (by rfl) (by rfl) (by rfl) (by rfl) (by rfl)))) (@cI _ _ _ _ _ _ _ (by walk_at "s7"))))) (by rfl) (by intro _;rfl)) (@aP _ _ _ _ _ _ _ _ _ _ (@V5 _ _ _ _ _ _ _ _ _ L (@dJ _ _ _ _ _ _ _ _ _ (@gJ _) (by walk_at "E") (@eO _ _ _ _ _) (by first|exact cL _ (by decide) (by decide)|rfl)) (@aP _ _ _ _ _ _ _ _ _ _ (@K2 _ _ _ _ _ _ _ _ _ 2 5 _ _ nd (by rfl) (by rfl) (by rfl) (by rfl) (by kst_p1) (by decide) (by decide) (by walk_at "o2") (by rfl) (by rfl) (by rfl) (by walk_at "o4")) (@cI _ _ _ _ _ _ _ (@ZF _ _ _ _ _ _ _ _ _ _ _ _ _ 2 2 _ _ _ _ _ _ (by walk_at "E") (by walk_at "E") (by rfl) (by rfl) (by rfl) (by rfl) (by kst_p1) (by decide) (by decide) (by kst_p1) (by decide) (by decide) (by rfl) (by rfl) (by rfl) (by rfl) (by rfl) (by rfl) (by rfl) (by rfl) (by rfl) (by rfl) (by rfl))))) (@sJ _ _ _ _ _ _ _ _ 2 (by rfl) (by rfl) (by kd_p1)))))
theorem zcn(F:FA K mg "_law_leaf_of" (top 49) ["_law_text"] f fd)(q0:mg "len"=none)(q1:mg "int"=none):aU P w K mg base (k+1) "_law_leaf_of" oF:=F.ok (own':=[]) (N:=["_law_text"]) (by kst_p2) rfl rfl fun _ _ _ _ _ _ C L nd=>(@aP _ _ _ _ _ _ _ _ _ _ (@cU _ _ _ _ _ _ _ _ _ _ _ _ (@DW.dt _ _ _ _ (@j5 _ _ _ _ _ _ _ _ (@w9 _ _ _ _ _ _ _ _ _ _ _ _ _ (@mB _) (@mB _) (@eO _ _ _ _ _) (by walk_at "E") (@eO _ _ _ _ _) (by with_unfolding_all rfl)) (@nH _ _ _ _ _ (@dJ _ _ _ _ _ _ _ _ _ (@DK _ _ _ C) (@DF.val _ _ _ _ (@nL _ _ _ _ _ _ _ _ _ _ _ _ _ _ _ C.calm (LC.of (k:=1) (NY:=["_law_sign","_law_text"]) (N:=["_law_text"]) (sc0:=(cP (top 49))) rfl rfl (by decide +kernel)) rfl (by walk_at "E") (fun _ _ _ _ nd2=>⟨(by walk_at "G"),(@wT _ _ _ _ (by walk_at "E")),(by walk_at "E")⟩) (by intro _;rfl))) (by walk_at "E") (by first|exact cL _ (by decide) (by decide)|rfl))))) (by kd_p1) (@c7 _ _ _ _)) (@aP _ _ _ _ _ _ _ _ _ _ (@cU _ _ _ _ _ _ _ _ _ _ _ _ (@DW.dt _ _ _ _ (@l0 _ _ _ _ _ _ _ _ (@kT _ _ _ _ _ (@w9 _ _ _ _ _ _ _ _ _ _ _ _ _ (@mB _) (@mB _) (@eO _ _ _ _ _) (by walk_at "E") (@eO _ _ _ _ _) (by with_unfolding_all rfl))) (@kS _ _ _ _ _ (@dJ _ _ _ _ _ _ _ _ _ (@DM _ _ _ C) (@DF.val _ _ _ _ (@nL _ _ _ _ _ _ _ _ _ _ _ _ _ _ _ C.calm (LC.of (k:=1) (NY:=["_law_sign","_law_text"]) (N:=["_law_text"]) (sc0:=(cP (top 49))) rfl rfl (by decide +kernel)) rfl (by walk_at "E") (fun _ _ _ _ nd2=>⟨(by walk_at "G"),(@wT _ _ _ _ (by walk_at "E")),(by walk_at "E")⟩) (by intro _;rfl))) (by walk_at "E") (by first|exact cL _ (by decide) (by decide)|rfl))))) (by kd_p1) (@c7 _ _ _ _)) (@aP _ _ _ _ _ _ _ _ _ _ (@cU _ _ _ _ _ _ _ _ _ _ _ _ (@DW.dt _ _ _ _ (@j5 _ _ _ _ _ _ _ _ (@dJ _ _ _ _ _ _ _ _ _ (@gJ _) (by walk_at "E") (@eO _ _ _ _ _) (by first|exact cL _ (by decide) (by decide)|rfl)) (by walk_at "E"))) (by kd_p1) (@c7 _ _ _ _)) (by kd_p1))))
theorem zco(F:FA K mg "_law_last" (top 50) ["_law_text","_law_signs"] f fd)(q0:mg "range"=none)(q1:mg "len"=none)(q2:mg "int"=none):aU P w K mg base (k+1) "_law_last" oH:=F.ok (own':=[]) (N:=["_law_text","_law_signs","_law_deep_here","_law_found","_law_at"]) (by kst_p2) rfl rfl fun _ _ _ _ _ _ C L nd=>(@aP _ _ _ _ _ _ _ _ _ _ (by kst_p) (@aP _ _ _ _ _ _ _ _ _ _ (by kst_p) (@aP _ _ _ _ _ _ _ _ _ _ (@j7 _ _ _ _ _ _ _ _ _ _ _ _ L C.calm (by walk_at "E") (by walk_at "G") (@aP _ _ _ _ _ _ _ _ _ _ (by kst_p) (@cI _ _ _ _ _ _ _ (@cU _ _ _ _ _ _ _ _ _ _ _ _ (by walk_at "E") (@cI _ _ _ _ _ _ _ (by kst_p)) (@c7 _ _ _ _)))) (by rfl) (by intro _;rfl)) (by kd_p1))))
theorem zcp(F:FA K mg "_law_read" (top 51) ["_law_text","_law_left"] f fd)(q1:aU P w K mg base k "_law_last" oH)(q0:aU P w K mg base k "_law_leaf_of" oF):aU P w K mg base (k+1+64) "_law_read" uR:=show aU P w K mg base (k+1+64) "_law_read" (lA (fun m=>bV 2 6 (oI m)) 64) from F.deep (own':=[]) (N:=["_law_text","_law_left","_law_signs","_law_at","_law_one","_law_other"]) (by kst_p2) rfl rfl (fun j m F__law_read _ _ _ _ _ _ C L nd=>have q1:=aU.mono q1 (show k<=k+1+j by omega);have q0:=aU.mono q0 (show k<=k+1+j by omega);(@aP _ _ _ _ _ _ _ _ _ _ (@j7 _ _ _ _ _ _ _ _ _ _ _ _ L C.calm (by walk_at "E") (by walk_at "G") (@aP _ _ _ _ _ _ _ _ _ _ (by kst_p) (@cI _ _ _ _ _ _ _ (@cU _ _ _ _ _ _ _ _ _ _ _ _ (@dJ _ _ _ _ _ _ _ _ _ (@gJ _) (by walk_at "E") (@eO _ _ _ _ _) (by first|exact cL _ (by decide) (by decide)|rfl)) (@aP _ _ _ _ _ _ _ _ _ _ (by kst_p) (@aP _ _ _ _ _ _ _ _ _ _ (by kst_p) (@aP _ _ _ _ _ _ _ _ _ _ (@cU _ _ _ _ _ _ _ _ _ _ _ _ (@DW.dt _ _ _ _ (@l0 _ _ _ _ _ _ _ _ (@dJ _ _ _ _ _ _ _ _ _ (@sU _) (by walk_at "E") (@pC _ _ _ _) (by first|exact cL _ (by decide) (by decide)|rfl)) (@kS _ _ _ _ _ (@dJ _ _ _ _ _ _ _ _ _ (@sU _) (by walk_at "E") (@pC _ _ _ _) (by first|exact cL _ (by decide) (by decide)|rfl))))) (by kd_p1) (@c7 _ _ _ _)) (by kd_p1)))) (@c7 _ _ _ _)))) (by rfl) (by intro _;rfl)) (@aP _ _ _ _ _ _ _ _ _ _ (@cU _ _ _ _ _ _ _ _ _ _ _ _ (@DW.dt _ _ _ _ (@j5 _ _ _ _ _ _ _ _ (by walk_at "E") (@j5 _ _ _ _ _ _ _ _ (by walk_at "E") (@nH _ _ _ _ _ (@dJ _ _ _ _ _ _ _ _ _ (@gJ _) (by walk_at "E") (@eO _ _ _ _ _) (by first|exact cL _ (by decide) (by decide)|rfl)))))) (by kd_p1) (@c7 _ _ _ _)) (by kd_p1)))) 64
theorem zcq(F:FA K mg "_law_whole" (top 37) ["_law_found"] f fd)(q0:mg "isinstance"=none)(q2:mg "int"=none)(q1:mg "bool"=none):aU P w K mg base (k+1) "_law_whole" n9:=F.ok (own':=[]) (N:=["_law_found"]) (by kst_p2) rfl rfl fun _ _ _ _ _ _ C L nd=>(@cI _ _ _ _ _ _ _ (@l6 _ _ _ _ _ _ _ _ (@nI _ _ _ _ _ _ _ _ (@jF _ _ _ _ _ _ _ q0 (@cM _ _ _ _ _ _ (by walk_at "E") (@cM _ _ _ _ _ _ (@j0 _ _ _ _ _ q2 xA (by rfl) (by decide) (by decide)) (@eA _ _) (by rfl)) (by rfl)) (by rfl) (by rfl) (by rfl)) (@wL _ _ _ _ _ _ (@VC _ _ _ _ _ (@jF _ _ _ _ _ _ _ q0 (@cM _ _ _ _ _ _ (by walk_at "E") (@cM _ _ _ _ _ _ (@j0 _ _ _ _ _ q1 WT (by rfl) (by decide) (by decide)) (@eA _ _) (by rfl)) (by rfl)) (by rfl) (by rfl) (by rfl)))))))
theorem zcr(F:FA K mg "_law_like" (top 45) ["_law_found","_law_due"] f fd)(q0:mg "isinstance"=none)(q2:mg "tuple"=none)(q3:mg "len"=none)(q4:mg "zip"=none)(q5:mg "str"=none)(q1:aU P w K mg base k "_law_whole" n9):aU P w K mg base (k+1+64) "_law_like" uN:=show aU P w K mg base (k+1+64) "_law_like" (lA (fun m=>bV 2 4 (lG m)) 64) from F.deep (own':=[]) (N:=["_law_found","_law_due","_law_one","_law_other"]) (by kst_p2) rfl rfl (fun j m F__law_like _ _ _ _ _ _ C L nd=>have q1:=aU.mono q1 (show k<=k+1+j by omega);(@aP _ _ _ _ _ _ _ _ _ _ (@cU _ _ _ _ _ _ _ _ _ _ _ _ (@kR _ _ _ _ (@jF _ _ _ _ _ _ _ q0 (@cM _ _ _ _ _ _ (by walk_at "E") (@cM _ _ _ _ _ _ (@j0 _ _ _ _ _ q2 DR (by rfl) (by decide) (by decide)) (@eA _ _) (by rfl)) (by rfl)) (by rfl) (by rfl) (by rfl)) (by intro _;rfl)) (@aP _ _ _ _ _ _ _ _ _ _ (@cU _ _ _ _ _ _ _ _ _ _ _ _ (@DW.dt _ _ _ _ (@l0 _ _ _ _ _ _ _ _ (@kT _ _ _ _ _ (@kR _ _ _ _ (@jF _ _ _ _ _ _ _ q0 (@cM _ _ _ _ _ _ (by walk_at "E") (@cM _ _ _ _ _ _ (@j0 _ _ _ _ _ q2 DR (by rfl) (by decide) (by decide)) (@eA _ _) (by rfl)) (by rfl)) (by rfl) (by rfl) (by rfl)) (by intro _;rfl))) (by walk_at "E"))) (by kd_p1) (@c7 _ _ _ _)) (@aP _ _ _ _ _ _ _ _ _ _ (@j7 _ _ _ _ _ _ _ _ _ _ _ _ L C.calm (by walk_at "E") (by walk_at "G") (@cI _ _ _ _ _ _ _ (by walk_at "I3")) (by rfl) (by intro _;rfl)) (by kd_p1))) (@c7 _ _ _ _)) (@aP _ _ _ _ _ _ _ _ _ _ (@cU _ _ _ _ _ _ _ _ _ _ _ _ (@kR _ _ _ _ (@jF _ _ _ _ _ _ _ q0 (@cM _ _ _ _ _ _ (by walk_at "E") (@cM _ _ _ _ _ _ (@j0 _ _ _ _ _ q5 pO (by rfl) (by decide) (by decide)) (@eA _ _) (by rfl)) (by rfl)) (by rfl) (by rfl) (by rfl)) (by intro _;rfl)) (@cI _ _ _ _ _ _ _ (@l6 _ _ _ _ _ _ _ _ (@nI _ _ _ _ _ _ _ _ (@jF _ _ _ _ _ _ _ q0 (@cM _ _ _ _ _ _ (by walk_at "E") (@cM _ _ _ _ _ _ (@j0 _ _ _ _ _ q5 pO (by rfl) (by decide) (by decide)) (@eA _ _) (by rfl)) (by rfl)) (by rfl) (by rfl) (by rfl)) (by walk_at "E")))) (@c7 _ _ _ _)) (by kd_p1)))) 64
theorem zcs(F:FA K mg "join_sides" (top 34) ["sides","signs","least"] f fd)(q1:mg "len"=none)(q0:tY K mg w "BINDS" lD):eK P w K mg base (k+1) "join_sides" 0 1 gL:=F.okO (N:=["sides","signs","least","other","one"]) (by kst_p2) rfl rfl fun _ _ _ _ _ _ _ _ C L nd=>(@lB _ _ _ _ _ (@ZJ _ _ _ _ _ _ _ _ L (@DW.dt _ _ _ _ (@j5 _ _ _ _ _ _ _ _ (@dJ _ _ _ _ _ _ _ _ _ (@gJ _) (by walk_at "E") (@eO _ _ _ _ _) (by first|exact cL _ (by decide) (by decide)|rfl)) (@nH _ _ _ _ _ (@dJ _ _ _ _ _ _ _ _ _ (@DD _) (by walk_at "E") (by walk_at "E") (by first|exact cL _ (by decide) (by decide)|rfl))))) (@iV _ _ _ _ _ _ _ (@K6 _ _ _ _ _ _ _ _ 0 3 _ _ nd (by rfl) (by rfl) (by rfl) (by rfl) (by kst_p1) (by decide) (by decide) (by walk_at "o2") (by rfl) (by rfl) (by rfl) (by walk_at "o4")) (@iV _ _ _ _ _ _ _ (@K6 _ _ _ _ _ _ _ _ 0 4 _ _ nd (by rfl) (by rfl) (by rfl) (by rfl) (by kst_p1) (by decide) (by decide) (by walk_at "o2") (by rfl) (by rfl) (by rfl) (by walk_at "o4")) (@lB _ _ _ _ _ (@ZK _ _ _ _ _ _ _ _ _ _ _ _ 0 1 _ _ _ _ _ _ (by walk_at "E") (by walk_at "E") (by rfl) (by rfl) (by rfl) (by rfl) (by kst_p1) (by decide) (by decide) (by kst_p1) (by decide) (by decide) (by rfl) (by rfl) (by rfl) (by rfl) (by rfl) (by rfl) (by rfl) (by rfl) (by rfl) (by rfl) (by rfl)))))))
theorem zct(F:FA K mg "is_word" (top 23) ["thing"] f fd)(q1:mg "isinstance"=none)(q3:mg "str"=none)(q4:mg "len"=none)(q5:mg "all"=none)(q0:∃u v,mg "MOST_LETTERS"=some u/\aR v u/\∀G,aQ K mg G t0 v)(q2:∃u v,mg "LETTERS"=some u/\aR v u/\∀G,aQ K mg G yT v):aU P w K mg base (k+1) "is_word" n8:=F.ok (own':=[]) (N:=["thing"]) (by kst_p2) rfl rfl fun _ _ _ _ _ _ C L nd=>(@aP _ _ _ _ _ _ _ _ _ _ (@cU _ _ _ _ _ _ _ _ _ _ _ _ (@DW.dt _ _ _ _ (@l0 _ _ _ _ _ _ _ _ (@kT _ _ _ _ _ (@kR _ _ _ _ (@jF _ _ _ _ _ _ _ q1 (@cM _ _ _ _ _ _ (by walk_at "E") (@cM _ _ _ _ _ _ (@j0 _ _ _ _ _ q3 pO (by rfl) (by decide) (by decide)) (@eA _ _) (by rfl)) (by rfl)) (by rfl) (by rfl) (by rfl)) (by intro _;rfl))) (@kS _ _ _ _ _ (@kT _ _ _ _ _ (@w9 _ _ _ _ _ _ _ _ _ _ _ _ _ (@mB _) (@mB _) (@eO _ _ _ _ _) (by walk_at "E") (by walk_at "E") (by with_unfolding_all rfl)))))) (by kd_p1) (@c7 _ _ _ _)) (@cI _ _ _ _ _ _ _ (@l6 _ _ _ _ _ _ _ _ (@DY _ _ _ _ _ _ _ C.calm q5 (@cM _ _ _ _ _ _ (@DF.val _ _ _ _ (@nL _ _ _ _ _ _ _ _ _ _ _ _ _ _ _ C.calm (LC.of (k:=1) (NY:=["sign","thing"]) (N:=["thing"]) (sc0:=(cP (top 23))) rfl rfl (by decide +kernel)) rfl (by walk_at "E") (fun _ _ _ _ nd2=>⟨(by walk_at "G"),(@wS _ _),(by walk_at "E")⟩) (by intro _;rfl))) (@eA _ _) (by rfl)) (by rfl) (by rfl) (by rfl)))))
theorem zcu(F:FA K mg "read_number" (top 19) ["word"] f fd){q1:Addr}(q2:mg "NoText"=some (.ref q1))(q3:PySem.W.excIn K q1 [.type "ValueError",.type "Exception",.type "BaseException",.type "object"] "ValueError.__new__"=true)(q4:fR K mg "NoText" q1)(q5:mg "all"=none)(q6:mg "int"=none)(q0:∃u v,mg "FIGURES"=some u/\aR v u/\∀G,aQ K mg G nZ v):aU P w K mg base (k+1) "read_number" mJ:=F.ok (own':=[]) (N:=["word"]) (by kst_p2) rfl rfl fun _ _ _ _ _ _ C L nd=>(@aP _ _ _ _ _ _ _ _ _ _ (@cU _ _ _ _ _ _ _ _ _ _ _ _ (@DW.dt _ _ _ _ (@l0 _ _ _ _ _ _ _ _ (by walk_at "E") (@kS _ _ _ _ _ (@kT _ _ _ _ _ (@kR _ _ _ _ (@DY _ _ _ _ _ _ _ C.calm q5 (@cM _ _ _ _ _ _ (@DF.val _ _ _ _ (@nL _ _ _ _ _ _ _ _ _ _ _ _ _ _ _ C.calm (LC.of (k:=1) (NY:=["sign","word"]) (N:=["word"]) (sc0:=(cP (top 19))) rfl rfl (by decide +kernel)) rfl (by walk_at "E") (fun _ _ _ _ nd2=>⟨(by walk_at "G"),(@wS _ _),(by walk_at "E")⟩) (by intro _;rfl))) (@eA _ _) (by rfl)) (by rfl) (by rfl) (by rfl)) (by intro _;rfl)))))) (@cI _ _ _ _ _ _ _ (@nQ _ _ _ _ _ _ _ _ _ _ _ _ _ _ _ _ _ _ _ _ _ _ _ _ _ _ q3 q4 (by rfl) (by decide))) (@c7 _ _ _ _)) (@aP _ _ _ _ _ _ _ _ _ _ (@cU _ _ _ _ _ _ _ _ _ _ _ _ (by walk_at "E") (@cI _ _ _ _ _ _ _ (@nQ _ _ _ _ _ _ _ _ _ _ _ _ _ _ _ _ _ _ _ _ _ _ _ _ _ _ q3 q4 (by rfl) (by decide))) (@c7 _ _ _ _)) (by kd_p1)))
theorem zcv(F:FA K mg "read_core" (top 32) ["word"] f fd){q3:Addr}(q4:mg "NoText"=some (.ref q3))(q5:PySem.W.excIn K q3 [.type "ValueError",.type "Exception",.type "BaseException",.type "object"] "ValueError.__new__"=true)(q6:fR K mg "NoText" q3)(q7:mg "len"=none)(q0:∃u v,mg "MOST_FIGURES"=some u/\aR v u/\∀G,aQ K mg G qJ v)(q2:aU P w K mg base k "is_word" n8)(q1:aU P w K mg base k "read_number" mJ):aU P w K mg base (k+1) "read_core" jN:=F.ok (own':=[]) (N:=["word"]) (by kst_p2) rfl rfl fun _ _ _ _ _ _ C L nd=>(@aP _ _ _ _ _ _ _ _ _ _ (by walk_at "I3") (@aP _ _ _ _ _ _ _ _ _ _ (@cU _ _ _ _ _ _ _ _ _ _ _ _ (@dJ _ _ _ _ _ _ _ _ _ (@gJ _) (by walk_at "E") (by walk_at "E") (by first|exact cL _ (by decide) (by decide)|rfl)) (@cI _ _ _ _ _ _ _ (@nQ _ _ _ _ _ _ _ _ _ _ _ _ _ _ _ _ _ _ _ _ _ _ _ _ _ _ q5 q6 (by rfl) (by decide))) (@c7 _ _ _ _)) (by kd_p1)))
theorem zcw(F:FA K mg "read_side" (top 31) ["word","sides","signs"] f fd){q3:Addr}(q4:mg "NoText"=some (.ref q3))(q5:PySem.W.excIn K q3 [.type "ValueError",.type "Exception",.type "BaseException",.type "object"] "ValueError.__new__"=true)(q6:fR K mg "NoText" q3)(q8:mg "len"=none)(q7:mg "range"=none)(q0:∃u v,mg "MOST_DEEP"=some u/\aR v u/\∀G,aQ K mg G qL v)(q2:aU P w K mg base k "read_core" jN)(q1:eK P w K mg base k "join_sides" 0 1 gL):eK P w K mg base (k+1) "read_side" 1 2 fZ:=F.okO (N:=["word","sides","signs","bare","core","turn"]) (by kst_p2) rfl rfl fun _ _ _ _ _ _ _ _ C L nd=>(@iV _ _ _ _ _ _ _ (@K5 _ _ _ _ _ _ _ _ 3 nd (by walk_at "E") (by rfl) (by rfl) (by walk_at "o2") (by rfl) (by walk_at "o4")) (@iV _ _ _ _ _ _ _ (@ZH _ _ _ _ _ _ _ _ 2 _ _ (by walk_at "E") (by rfl) (by rfl) (by kst_p1) (by decide) (by decide) (by rfl) (by rfl) (by rfl) (by rfl) (by rfl) (by rfl)) (@iV _ _ _ _ _ _ _ (@yM _ _ _ _ _ _ _ _ _ _ (@dJ _ _ _ _ _ _ _ _ _ (@gJ _) (by walk_at "E") (by walk_at "E") (by first|exact cL _ (by decide) (by decide)|rfl)) (@lB _ _ _ _ _ (@yN _ _ _ _ _ _ _ _ _ _ _ _ _ _ _ _ _ _ _ _ _ _ _ _ q5 q6 (by rfl) (by decide))) (@yL _ _ _)) (@iV _ _ _ _ _ _ _ (@K5 _ _ _ _ _ _ _ _ 4 nd (by walk_at "E") (by rfl) (by rfl) (by walk_at "o2") (by rfl) (by walk_at "o4")) (@iV _ _ _ _ _ _ _ (@K7 _ _ _ _ _ _ _ _ 1 _ _ (by walk_at "E") (by rfl) (by rfl) (by kst_p1) (by decide) (by decide) (by rfl) (by rfl) (by rfl) (by rfl) (by rfl) (by rfl)) (@lB _ _ _ _ _ (@ZI _ _ _ _ _ _ _ _ _ 5 _ L C.calm (by walk_at "E") (by walk_at "G") (@iV _ _ _ _ _ _ _ (@LB _ _ _ _ _ _ _ _ _ _ _ _ _ _ _ 1 2 C q1 (@eO _ _ _ _ _) (by rfl) (by rfl) (by decide) (by rfl) (by rfl) (by kst_p1) (by decide) (by decide) (by kst_p1) (by decide) (by decide) (by rfl) (by decide) (by rfl) (by rfl) (by rfl) (by rfl) (by rfl)) (@iV _ _ _ _ _ _ _ (@yM _ _ _ _ _ _ _ _ _ _ (by walk_at "E") (@lB _ _ _ _ _ (@yN _ _ _ _ _ _ _ _ _ _ _ _ _ _ _ _ _ _ _ _ _ _ _ _ q5 q6 (by rfl) (by decide))) (@yL _ _ _)) (@lB _ _ _ _ _ (@ZG _ _ _ _ _ _ 2 _ _ (by rfl) (by rfl) (by kst_p1) (by decide) (by decide) (by rfl) (by rfl) (by rfl))))) (by rfl) (by intro _;rfl))))))))
theorem zcx(F:FA K mg "read_sign" (top 33) ["word","sides","signs"] f fd){q2:Addr}(q3:mg "NoText"=some (.ref q2))(q4:PySem.W.excIn K q2 [.type "ValueError",.type "Exception",.type "BaseException",.type "object"] "ValueError.__new__"=true)(q5:fR K mg "NoText" q2)(q1:∃u v,mg "SIGNS"=some u/\aR v u/\∀G,aQ K mg G qM v)(q6:tY K mg w "BINDS" lD)(q0:eK P w K mg base k "join_sides" 0 1 gL):eK P w K mg base (k+1) "read_sign" 1 2 iJ:=F.okO (N:=["word","sides","signs"]) (by kst_p2) rfl rfl fun _ _ _ _ _ _ _ _ C L nd=>(@iV _ _ _ _ _ _ _ (@yM _ _ _ _ _ _ _ _ _ _ (by walk_at "E") (@lB _ _ _ _ _ (@yN _ _ _ _ _ _ _ _ _ _ _ _ _ _ _ _ _ _ _ _ _ _ _ _ q4 q5 (by rfl) (by decide))) (@yL _ _ _)) (@iV _ _ _ _ _ _ _ (@LB _ _ _ _ _ _ _ _ _ _ _ _ _ _ _ 1 2 C q0 (by walk_at "E") (by rfl) (by rfl) (by decide) (by rfl) (by rfl) (by kst_p1) (by decide) (by decide) (by kst_p1) (by decide) (by decide) (by rfl) (by decide) (by rfl) (by rfl) (by rfl) (by rfl) (by rfl)) (@lB _ _ _ _ _ (@K7 _ _ _ _ _ _ _ _ 2 _ _ (by walk_at "E") (by rfl) (by rfl) (by kst_p1) (by decide) (by decide) (by rfl) (by rfl) (by rfl) (by rfl) (by rfl) (by rfl)))))
theorem zcy(F:FA K mg "read_sum" (top 30) ["text"] f fd){q6:Addr}(q7:mg "NoText"=some (.ref q6))(q8:PySem.W.excIn K q6 [.type "ValueError",.type "Exception",.type "BaseException",.type "object"] "ValueError.__new__"=true)(q9:fR K mg "NoText" q6)(q1:mg "isinstance"=none)(q10:mg "str"=none)(q11:mg "len"=none)(q3:mg "enumerate"=none)(q0:∃u v,mg "MOST_SIGNS"=some u/\aR v u/\∀G,aQ K mg G uC v)(q4:eK P w K mg base k "read_side" 1 2 fZ)(q5:eK P w K mg base k "read_sign" 1 2 iJ)(q2:eK P w K mg base k "join_sides" 0 1 gL):aU P w K mg base (k+1) "read_sum" fA:=F.ok (own':=[]) (N:=["text","words","sides","signs","at","word"]) (by kst_p2) rfl rfl fun _ _ _ _ _ _ C L nd=>(@aP _ _ _ _ _ _ _ _ _ _ (@cU _ _ _ _ _ _ _ _ _ _ _ _ (@kT _ _ _ _ _ (@kR _ _ _ _ (@jF _ _ _ _ _ _ _ q1 (@cM _ _ _ _ _ _ (by walk_at "E") (@cM _ _ _ _ _ _ (@j0 _ _ _ _ _ q10 pO (by rfl) (by decide) (by decide)) (@eA _ _) (by rfl)) (by rfl)) (by rfl) (by rfl) (by rfl)) (by intro _;rfl))) (@cI _ _ _ _ _ _ _ (@nQ _ _ _ _ _ _ _ _ _ _ _ _ _ _ _ _ _ _ _ _ _ _ _ _ _ _ q8 q9 (by rfl) (by decide))) (@c7 _ _ _ _)) (@aP _ _ _ _ _ _ _ _ _ _ (by kst_p) (@aP _ _ _ _ _ _ _ _ _ _ (@cU _ _ _ _ _ _ _ _ _ _ _ _ (@DW.dt _ _ _ _ (@l0 _ _ _ _ _ _ _ _ (by walk_at "E") (@kS _ _ _ _ _ (@dJ _ _ _ _ _ _ _ _ _ (@gJ _) (by walk_at "E") (by walk_at "E") (by first|exact cL _ (by decide) (by decide)|rfl))))) (@cI _ _ _ _ _ _ _ (@nQ _ _ _ _ _ _ _ _ _ _ _ _ _ _ _ _ _ _ _ _ _ _ _ _ _ _ q8 q9 (by rfl) (by decide))) (@c7 _ _ _ _)) (@aP _ _ _ _ _ _ _ _ _ _ (by walk_at "s5") (@aP _ _ _ _ _ _ _ _ _ _ (by walk_at "s5") (@aP _ _ _ _ _ _ _ _ _ _ (@j7 _ _ _ _ _ _ _ _ _ _ _ _ L C.calm (by walk_at "E") (by walk_at "G") (@cI _ _ _ _ _ _ _ (@cU _ _ _ _ _ _ _ _ _ _ _ _ (by walk_at "E") (@cI _ _ _ _ _ _ _ (@LA _ _ _ _ _ _ _ _ _ _ _ _ _ _ _ _ 2 3 C q4 (by walk_at "E") (by rfl) (by rfl) (by decide) (by rfl) (by rfl) (by kst_p1) (by decide) (by decide) (by kst_p1) (by decide) (by decide) (by rfl) (by decide) (by rfl) (by rfl) (by rfl) (by rfl) (by rfl))) (@cI _ _ _ _ _ _ _ (@LA _ _ _ _ _ _ _ _ _ _ _ _ _ _ _ _ 2 3 C q5 (by walk_at "E") (by rfl) (by rfl) (by decide) (by rfl) (by rfl) (by kst_p1) (by decide) (by decide) (by kst_p1) (by decide) (by decide) (by rfl) (by decide) (by rfl) (by rfl) (by rfl) (by rfl) (by rfl))))) (by rfl) (by intro _;rfl)) (@aP _ _ _ _ _ _ _ _ _ _ (@ZQ _ _ _ _ _ _ _ _ _ _ _ _ _ _ _ _ 2 3 C q2 (@eO _ _ _ _ _) (by rfl) (by rfl) (by decide) (by rfl) (by rfl) (by kst_p1) (by decide) (by decide) (by kst_p1) (by decide) (by decide) (by rfl) (by decide) (by rfl) (by rfl) (by rfl) (by rfl) (by rfl)) (@sJ _ _ _ _ _ _ _ _ 3 (by rfl) (by rfl) (@sJ _ _ _ _ _ _ _ _ 2 (by rfl) (by rfl) (@aP _ _ _ _ _ _ _ _ _ _ (@cU _ _ _ _ _ _ _ _ _ _ _ _ (@dJ _ _ _ _ _ _ _ _ _ (@gJ _) (by walk_at "E") (@eO _ _ _ _ _) (by first|exact cL _ (by decide) (by decide)|rfl)) (@cI _ _ _ _ _ _ _ (@nQ _ _ _ _ _ _ _ _ _ _ _ _ _ _ _ _ _ _ _ _ _ _ _ _ _ _ q8 q9 (by rfl) (by decide))) (@c7 _ _ _ _)) (by kd_p1)))))))))))
theorem zcz(F:FA K mg "_law_alone" (top 47) ["_law_error"] f fd){q6:Addr}(q7:mg "NoPlace"=some (.ref q6)){q32:Addr}(q33:mg "Same"=some (.ref q32)){q8:Addr}(q9:mg "NoFloor"=some (.ref q8)){q10:Addr}(q11:mg "Endless"=some (.ref q10)){q20:Addr}(q21:mg "NoDeed"=some (.ref q20)){q22:Addr}(q23:mg "NoText"=some (.ref q22)){q24:Addr}(q25:mg "NoName"=some (.ref q24)){q12:Addr}(q13:mg "TooMany"=some (.ref q12)){q4:Addr}(q5:mg "NoChange"=some (.ref q4)){q14:Addr}(q15:mg "NoFrame"=some (.ref q14)){q16:Addr}(q17:mg "NoValue"=some (.ref q16)){q26:Addr}(q27:mg "Unlike"=some (.ref q26)){q18:Addr}(q19:mg "NoRatio"=some (.ref q18)){q28:Addr}(q29:mg "NoBow"=some (.ref q28)){q30:Addr}(q31:mg "NoRow"=some (.ref q30)){q0:Addr}(q1:mg "ChalkError"=some (.ref q0))(q34:mg "int"=none)(q2:mg "isinstance"=none)(q3:mg "ValueError"=none):aU P w K mg base (k+1) "_law_alone" oE:=F.ok (own':=[]) (N:=["_law_error","_law_many"]) (by kst_p2) rfl rfl fun _ _ _ _ _ _ C L nd=>(@aP _ _ _ _ _ _ _ _ _ _ (by kst_p) (@aP _ _ _ _ _ _ _ _ _ _ (by kst_p) (@aP _ _ _ _ _ _ _ _ _ _ (by kst_p) (@aP _ _ _ _ _ _ _ _ _ _ (by kst_p) (@aP _ _ _ _ _ _ _ _ _ _ (by kst_p) (@cI _ _ _ _ _ _ _ (@l6 _ _ _ _ _ _ _ _ (@nI _ _ _ _ _ _ _ _ (by walk_at "E") (@nI _ _ _ _ _ _ _ _ (by walk_at "E") (@wL _ _ _ _ _ _ (@jF _ _ _ _ _ _ _ q2 (@cM _ _ _ _ _ _ (by walk_at "E") (@cM _ _ _ _ _ _ (@j0 _ _ _ _ _ q3 WU (by rfl) (by decide) (by decide)) (@eA _ _) (by rfl)) (by rfl)) (by rfl) (by rfl) (by rfl))))))))))))
theorem zcA(F:FA K mg "_law_refused" (top 46) ["_law_thing"] f fd){q0:Addr}(q1:mg "ChalkError"=some (.ref q0)){q5:Addr}(q6:mg "NoText"=some (.ref q5))(q2:mg "isinstance"=none)(q4:aU P w K mg base k "read_sum" fA)(q3:aU P w K mg base k "_law_alone" oE):aU P w K mg base (k+1) "_law_refused" gV:=F.ok (own':=[]) (N:=["_law_thing","_law_kept","_law_error"]) (by kst_p2) rfl rfl fun _ _ _ _ _ _ C L nd=>(@aP _ _ _ _ _ _ _ _ _ _ (by kst_p) (@aP _ _ _ _ _ _ _ _ _ _ (@XO _ _ _ _ 2 _ _ _ _ _ _ _ _ _ rfl rfl nd q1 (@XJ _ _ _ (@XN _ _ _ _ _ _ _ _ _ _ C.room q4 (by walk_at "E") (by rfl) (by decide) (by rfl) (by rfl) (by rfl))) (fun _=>(@cI _ _ _ _ _ _ _ (by kst_p))) (by rfl) (by rfl) (by rfl) (by decide)) (@cI _ _ _ _ _ _ _ (@l6 _ _ _ _ _ _ _ _ (@nI _ _ _ _ _ _ _ _ (@DQ _ _ _ _ _ _ _ _ _ (@DP _) (by walk_at "E") (@pC _ _ _ _) (by first|exact cL _ (by decide) (by decide)|rfl)) (by walk_at "E"))))))
theorem zcB(F:FA K mg "_law_right" (top 53) ["_law_text"] f fd)(q4:mg "len"=none)(q1:aU P w K mg base k "_law_read" uR)(q0:aU P w K mg base k "_law_refused" gV)(q2:aU P w K mg base k "_law_like" uN)(q3:aU P w K mg base k "read_sum" fA):aU P w K mg base (k+1) "_law_right" iK:=F.ok (own':=[]) (N:=["_law_text","_law_due"]) (by kst_p2) rfl rfl fun _ _ _ _ _ _ C L nd=>(@aP _ _ _ _ _ _ _ _ _ _ (by kst_p) (@aP _ _ _ _ _ _ _ _ _ _ (@cU _ _ _ _ _ _ _ _ _ _ _ _ (@DW.dt _ _ _ _ (@l0 _ _ _ _ _ _ _ _ (@dJ _ _ _ _ _ _ _ _ _ (@sU _) (by walk_at "E") (@pC _ _ _ _) (by first|exact cL _ (by decide) (by decide)|rfl)) (@kS _ _ _ _ _ (@dJ _ _ _ _ _ _ _ _ _ (@gJ _) (@DU _ _ _ _ _ _ _ q4 (@cM _ _ _ _ _ _ (@DF.val _ _ _ _ (@nL _ _ _ _ _ _ _ _ _ _ _ _ _ _ _ C.calm (LC.of (k:=1) (NY:=["_law_sign","_law_text","_law_due"]) (N:=["_law_text","_law_due"]) (sc0:=(cP (top 53))) rfl rfl (by decide +kernel)) rfl (by walk_at "E") (fun _ _ _ _ nd2=>⟨(by walk_at "G"),(@wT _ _ _ _ (by walk_at "E")),(by walk_at "E")⟩) (by intro _;rfl))) (@eA _ _) (by rfl)) (by rfl) (by rfl) (by rfl)) (@eO _ _ _ _ _) (by first|exact cL _ (by decide) (by decide)|rfl))))) (by kd_p1) (@c7 _ _ _ _)) (by kd_p1)))
theorem zcC(F:FA K mg "_law_cell" (top 36) ["_law_script","_law_k"] f fd)(q0:mg "len"=none):aU P w K mg base (k+1) "_law_cell" jO:=F.ok (own':=[]) (N:=["_law_script","_law_k"]) (by kst_p2) rfl rfl fun _ _ _ _ _ _ C L nd=>(@aP _ _ _ _ _ _ _ _ _ _ (@cU _ _ _ _ _ _ _ _ _ _ _ _ (@dJ _ _ _ _ _ _ _ _ _ (@w6 _) (by walk_at "E") (by walk_at "E") (by first|exact cL _ (by decide) (by decide)|rfl)) (by kd_p1) (@c7 _ _ _ _)) (by kd_p1))
theorem zcD(F:FA K mg "_law_words" (top 40) ["_law_cell_here","_law_many"] f fd)(q1:mg "range"=none)(q0:aU P w K mg base k "_law_digits" iW):aU P w K mg base (k+1) "_law_words" oA:=F.ok (own':=[]) (N:=["_law_cell_here","_law_many","_law_letters","_law_digits_here","_law_tail","_law_j"]) (by kst_p2) rfl rfl fun _ _ _ _ _ _ C L nd=>(@aP _ _ _ _ _ _ _ _ _ _ (by kst_p) (@aP _ _ _ _ _ _ _ _ _ _ (by kst_p) (@aP _ _ _ _ _ _ _ _ _ _ (by kst_p) (@aP _ _ _ _ _ _ _ _ _ _ (@j7 _ _ _ _ _ _ _ _ _ _ _ _ L C.calm (by walk_at "E") (by walk_at "G") (@cI _ _ _ _ _ _ _ (by kst_p)) (by rfl) (by intro _;rfl)) (@aP _ _ _ _ _ _ _ _ _ _ (by walk_at "I3") (@cI _ _ _ _ _ _ _ (@l6 _ _ _ _ _ _ _ _ (@DF.val _ _ _ _ (@nL _ _ _ _ _ _ _ _ _ _ _ _ _ _ _ C.calm (LC.of (k:=1) (NY:=["_law_k","_law_cell_here","_law_many","_law_letters","_law_digits_here","_law_tail","_law_j"]) (N:=["_law_cell_here","_law_many","_law_letters","_law_digits_here","_law_tail","_law_j"]) (sc0:=(cP (top 40))) rfl rfl (by decide +kernel)) rfl (by walk_at "E") (fun _ _ _ _ nd2=>⟨(by walk_at "G"),(@wS _ _),(by walk_at "E")⟩) (by intro _;rfl))))))))))
theorem zcE(F:FA K mg "_law_menu" (top 48) [] f fd):aU P w K mg base (k+1) "_law_menu" qS:=F.ok (own':=[]) (N:=["_law_some"]) (by kst_p2) rfl rfl fun _ _ _ _ _ _ C L nd=>(@aP _ _ _ _ _ _ _ _ _ _ (by kst_p) (@aP _ _ _ _ _ _ _ _ _ _ (by kst_p) (@aP _ _ _ _ _ _ _ _ _ _ (by kst_p) (@aP _ _ _ _ _ _ _ _ _ _ (by kst_p) (@aP _ _ _ _ _ _ _ _ _ _ (by kst_p) (@aP _ _ _ _ _ _ _ _ _ _ (by kst_p) (by kd_p1)))))))
theorem zcF(F:FA K mg "_law_spoilt" (top 52) ["_law_text","_law_number"] f fd)(q1:mg "len"=none)(q2:mg "min"=none)(q3:mg "max"=none)(q0:aU P w K mg base k "_law_menu" qS):aU P w K mg base (k+1) "_law_spoilt" qT:=F.ok (own':=[]) (N:=["_law_text","_law_number","_law_way","_law_at","_law_sign","_law_to","_law_menu_here"]) (by kst_p2) rfl rfl fun _ _ _ _ _ _ C L nd=>(@aP _ _ _ _ _ _ _ _ _ _ (by kst_p) (@aP _ _ _ _ _ _ _ _ _ _ (by kst_p) (@aP _ _ _ _ _ _ _ _ _ _ (by kst_p) (@aP _ _ _ _ _ _ _ _ _ _ (by walk_at "I3") (@aP _ _ _ _ _ _ _ _ _ _ (by walk_at "I3") (@aP _ _ _ _ _ _ _ _ _ _ (@cU _ _ _ _ _ _ _ _ _ _ _ _ (by walk_at "E") (@aP _ _ _ _ _ _ _ _ _ _ (by kst_p) (by kd_p1)) (@c7 _ _ _ _)) (@aP _ _ _ _ _ _ _ _ _ _ (@cU _ _ _ _ _ _ _ _ _ _ _ _ (by walk_at "E") (@aP _ _ _ _ _ _ _ _ _ _ (by kst_p) (by kd_p1)) (@c7 _ _ _ _)) (by kd_p1))))))))
abbrev kI:Stmt:=top 54
theorem PV:i7 ["_law_script","_law_text","_law_k","_law_cell_here","_law_number","_law_long","_law_deep_here","_law_far"] ["_law_script"] (cP kI):=by kst_p2
theorem zcG(F:jA K "law" "law" kI f fd)(q8:mg "range"=none)(q9:mg "max"=none)(q10:mg "min"=none)(q11:mg "len"=none)(q5:aU P w K mg base k "_law_part" oC)(q6:aU P w K mg base k "_law_tree" oB)(q2:aU P w K mg base k "_law_words" oA)(q7:aU P w K mg base k "_law_cell" jO)(q3:aU P w K mg base k "_law_right" iK)(q4:aU P w K mg base k "_law_mixed" lE)(q1:aU P w K mg base k "_law_spoilt" qT)(q0:aU P w K mg base k "_law_refused" gV):dN P w K mg base (cC P w) (k+1) f fd ["_law_script"] (l5 K mg uV):=by
 refine XR (own':=[]) F PV rfl rfl fun X E hX C L=>?_
 obtain⟨cdv,A,outer,s,H,rfl⟩:=hX
 have nd:=PV.nd
 exact(@aP _ _ _ _ _ _ _ _ _ _ (by kst_p) (@aP _ _ _ _ _ _ _ _ _ _ (by walk_at "I3") (@aP _ _ _ _ _ _ _ _ _ _ (@j7 _ _ _ _ _ _ _ _ _ _ _ _ L C.calm (by walk_at "E") (by walk_at "G") (@aP _ _ _ _ _ _ _ _ _ _ (by kst_p) (@aP _ _ _ _ _ _ _ _ _ _ (by kst_p) (@aP _ _ _ _ _ _ _ _ _ _ (@cU _ _ _ _ _ _ _ _ _ _ _ _ (by walk_at "E") (@cI _ _ _ _ _ _ _ (by kst_p)) (@c7 _ _ _ _)) (@aP _ _ _ _ _ _ _ _ _ _ (by walk_at "I3") (@cI _ _ _ _ _ _ _ (by walk_at "I3")))))) (by rfl) (by intro _;rfl)) (@aP _ _ _ _ _ _ _ _ _ _ (by kst_p) (@aP _ _ _ _ _ _ _ _ _ _ (by kst_p) (@aP _ _ _ _ _ _ _ _ _ _ (@j7 _ _ _ _ _ _ _ _ _ _ _ _ L C.calm (by walk_at "E") (by walk_at "G") (@cI _ _ _ _ _ _ _ (by walk_at "I3")) (by rfl) (by intro _;rfl)) (by kd_p1)))))))
set_option maxHeartbeats 4000000 in
theorem all_mk{l:PySem.W.OpenLaw}{w:World}{K:xFg}{h:Heap}{mg:Str->Option Value}{fa f24:Addr}(X:K.In h)(G:h.Ns mainGlobals mg)(hfa:mg "law"=some (.ref fa))
  {od24 an24:Option Addr} {sl24:Array (Option Value)} {oc24 kV24 dc24 pm24 cd24 ct24:Value}
  {C_ChalkError C_NoPlace C_Same C_NoFloor C_Endless C_NoDeed C_NoName C_TooMany C_NoChange C_NoFrame C_NoValue C_Unlike C_NoRatio C_NoBow C_NoRow:Addr}
  (d0:FD K "_law_part" (top 43))
  (d1:FD K "_law_mixed" (top 38))
  (d2:FD K "_law_digits" (top 39))
  (d3:FD K "_law_leaf" (top 41))
  (d4:FD K "_law_tree" (top 42))
  (d5:FD K "_law_leaf_of" (top 49))
  (d6:FD K "_law_last" (top 50))
  (d7:FD K "_law_read" (top 51))
  (d8:FD K "_law_whole" (top 37))
  (d9:FD K "_law_like" (top 45))
  (d10:FD K "join_sides" (top 34))
  (d11:FD K "is_word" (top 23))
  (d12:FD K "read_number" (top 19))
  (d13:FD K "read_core" (top 32))
  (d14:FD K "read_side" (top 31))
  (d15:FD K "read_sign" (top 33))
  (d16:FD K "read_sum" (top 30))
  (d17:FD K "_law_alone" (top 47))
  (d18:FD K "_law_refused" (top 46))
  (d19:FD K "_law_right" (top 53))
  (d20:FD K "_law_cell" (top 36))
  (d21:FD K "_law_words" (top 40))
  (d22:FD K "_law_menu" (top 48))
  (d23:FD K "_law_spoilt" (top 52))
  (a24:PySem.W.nsIn K mainGlobals "law"=some (some (.ref f24))) (l24:K.lookup f24=some ⟨oc24,od24,.func (PySem.W.fnOf "law" "law" (kN kI) (gE kI) (cP kI) .none kV24 dc24 pm24 an24 cd24 ct24),sl24⟩) (c24:PySem.W.codeIn K cd24 "law"=true) (k24:PySem.W.keepIn K (.ref f24)=true)
  (xd_NoText:XD K "NoText")
  (z_str:PySem.W.nsIn K mainGlobals "str"=some none)
  (z_int:PySem.W.nsIn K mainGlobals "int"=some none)
  (z_range:PySem.W.nsIn K mainGlobals "range"=some none)
  (z_len:PySem.W.nsIn K mainGlobals "len"=some none)
  (z_isinstance:PySem.W.nsIn K mainGlobals "isinstance"=some none)
  (z_bool:PySem.W.nsIn K mainGlobals "bool"=some none)
  (z_tuple:PySem.W.nsIn K mainGlobals "tuple"=some none)
  (z_zip:PySem.W.nsIn K mainGlobals "zip"=some none)
  (z_all:PySem.W.nsIn K mainGlobals "all"=some none)
  (z_enumerate:PySem.W.nsIn K mainGlobals "enumerate"=some none)
  (z_ValueError:PySem.W.nsIn K mainGlobals "ValueError"=some none)
  (z_min:PySem.W.nsIn K mainGlobals "min"=some none)
  (z_max:PySem.W.nsIn K mainGlobals "max"=some none)
  (e_ChalkError:PySem.W.nsIn K mainGlobals "ChalkError"=some (some (.ref C_ChalkError)))
  (e_NoPlace:PySem.W.nsIn K mainGlobals "NoPlace"=some (some (.ref C_NoPlace)))
  (e_Same:PySem.W.nsIn K mainGlobals "Same"=some (some (.ref C_Same)))
  (e_NoFloor:PySem.W.nsIn K mainGlobals "NoFloor"=some (some (.ref C_NoFloor)))
  (e_Endless:PySem.W.nsIn K mainGlobals "Endless"=some (some (.ref C_Endless)))
  (e_NoDeed:PySem.W.nsIn K mainGlobals "NoDeed"=some (some (.ref C_NoDeed)))
  (e_NoName:PySem.W.nsIn K mainGlobals "NoName"=some (some (.ref C_NoName)))
  (e_TooMany:PySem.W.nsIn K mainGlobals "TooMany"=some (some (.ref C_TooMany)))
  (e_NoChange:PySem.W.nsIn K mainGlobals "NoChange"=some (some (.ref C_NoChange)))
  (e_NoFrame:PySem.W.nsIn K mainGlobals "NoFrame"=some (some (.ref C_NoFrame)))
  (e_NoValue:PySem.W.nsIn K mainGlobals "NoValue"=some (some (.ref C_NoValue)))
  (e_Unlike:PySem.W.nsIn K mainGlobals "Unlike"=some (some (.ref C_Unlike)))
  (e_NoRatio:PySem.W.nsIn K mainGlobals "NoRatio"=some (some (.ref C_NoRatio)))
  (e_NoBow:PySem.W.nsIn K mainGlobals "NoBow"=some (some (.ref C_NoBow)))
  (e_NoRow:PySem.W.nsIn K mainGlobals "NoRow"=some (some (.ref C_NoRow)))
  {t_MOST_LETTERS:Tok} (q_MOST_LETTERS:PySem.W.nsIn K mainGlobals "MOST_LETTERS"=some (some (.int 8 t_MOST_LETTERS)))
  {t_LETTERS:Tok} (q_LETTERS:PySem.W.nsIn K mainGlobals "LETTERS"=some (some (.str "abcdefghijklmnopqrstuvwxyz" t_LETTERS)))
  {t_FIGURES:Tok} (q_FIGURES:PySem.W.nsIn K mainGlobals "FIGURES"=some (some (.str "0123456789" t_FIGURES)))
  {t_MOST_FIGURES:Tok} (q_MOST_FIGURES:PySem.W.nsIn K mainGlobals "MOST_FIGURES"=some (some (.int 9 t_MOST_FIGURES)))
  {t_MOST_DEEP:Tok} (q_MOST_DEEP:PySem.W.nsIn K mainGlobals "MOST_DEEP"=some (some (.int 8 t_MOST_DEEP)))
  {a_SIGNS:Addr} {t0_SIGNS t1_SIGNS t2_SIGNS t3_SIGNS:Tok} {n_SIGNS:Nat} {sl_SIGNS:Array (Option Value)} (q_SIGNS:PySem.W.nsIn K mainGlobals "SIGNS"=some (some (.ref a_SIGNS))) (lq_SIGNS:K.lookup a_SIGNS=some ⟨.type "tuple",none,.seq #[.str "+" t0_SIGNS,.str "-" t1_SIGNS,.str "*" t2_SIGNS,.str "/" t3_SIGNS] n_SIGNS,sl_SIGNS⟩)
  {t_MOST_SIGNS:Tok} (q_MOST_SIGNS:PySem.W.nsIn K mainGlobals "MOST_SIGNS"=some (some (.int 60 t_MOST_SIGNS)))
  {a_BINDS:Addr} {es_BINDS:Array DictEntry} {n_BINDS:Nat} {t0_BINDS t1_BINDS t2_BINDS t3_BINDS t4_BINDS:Tok} (q_BINDS:PySem.W.nsIn K mainGlobals "BINDS"=some (some (.ref a_BINDS))) (lq_BINDS:K.lookup a_BINDS=some ⟨.type "dict",none,.dict es_BINDS n_BINDS,#[]⟩) (kq_BINDS:PySem.W.KeysLit w.params es_BINDS.toList)
  (tq0_BINDS:PySem.W.nsIn K a_BINDS "("=some (some (.int 0 t0_BINDS)))
  (tq1_BINDS:PySem.W.nsIn K a_BINDS "+"=some (some (.int 1 t1_BINDS)))
  (tq2_BINDS:PySem.W.nsIn K a_BINDS "-"=some (some (.int 1 t2_BINDS)))
  (tq3_BINDS:PySem.W.nsIn K a_BINDS "*"=some (some (.int 2 t3_BINDS)))
  (tq4_BINDS:PySem.W.nsIn K a_BINDS "/"=some (some (.int 2 t4_BINDS)))
  (hlaw:∀ns:List Int,ns.length<=63->uV [.lst (ns.map .int)]=.ok (.bl true))
  : ∃fd:FuncData,(∀(s:Shared) (v:Value),BindsTo s fd ⟨[v],[]⟩ [("_law_script",v)])/\∀base:Heap,K.In base->base.Ns mainGlobals mg->dN l.prog w K mg base (cC l.prog w) 68 fa fd ["_law_script"] (sY K):=by
 have e:=hfa.symm.trans (xay X G a24)
 cases e
 obtain⟨f0,v0,F0⟩:=d0.go X G ["_law_tree_here","_law_least"] (by walk_at "b2")
 obtain⟨f1,v1,F1⟩:=d1.go X G ["_law_cell_here","_law_k"] (by walk_at "b2")
 obtain⟨f2,v2,F2⟩:=d2.go X G ["_law_cell_here","_law_many"] (by walk_at "b2")
 obtain⟨f3,v3,F3⟩:=d3.go X G ["_law_digits_here","_law_names"] (by walk_at "b2")
 obtain⟨f4,v4,F4⟩:=d4.go X G ["_law_cells","_law_names"] (by walk_at "b2")
 obtain⟨f5,v5,F5⟩:=d5.go X G ["_law_text"] (by walk_at "b1")
 obtain⟨f6,v6,F6⟩:=d6.go X G ["_law_text","_law_signs"] (by walk_at "b2")
 obtain⟨f7,v7,F7⟩:=d7.go X G ["_law_text","_law_left"] (by walk_at "b2")
 obtain⟨f8,v8,F8⟩:=d8.go X G ["_law_found"] (by walk_at "b1")
 obtain⟨f9,v9,F9⟩:=d9.go X G ["_law_found","_law_due"] (by walk_at "b2")
 obtain⟨f10,v10,F10⟩:=d10.go X G ["sides","signs","least"] (by walk_at "b3")
 obtain⟨f11,v11,F11⟩:=d11.go X G ["thing"] (by walk_at "b1")
 obtain⟨f12,v12,F12⟩:=d12.go X G ["word"] (by walk_at "b1")
 obtain⟨f13,v13,F13⟩:=d13.go X G ["word"] (by walk_at "b1")
 obtain⟨f14,v14,F14⟩:=d14.go X G ["word","sides","signs"] (by walk_at "b3")
 obtain⟨f15,v15,F15⟩:=d15.go X G ["word","sides","signs"] (by walk_at "b3")
 obtain⟨f16,v16,F16⟩:=d16.go X G ["text"] (by walk_at "b1")
 obtain⟨f17,v17,F17⟩:=d17.go X G ["_law_error"] (by walk_at "b1")
 obtain⟨f18,v18,F18⟩:=d18.go X G ["_law_thing"] (by walk_at "b1")
 obtain⟨f19,v19,F19⟩:=d19.go X G ["_law_text"] (by walk_at "b1")
 obtain⟨f20,v20,F20⟩:=d20.go X G ["_law_script","_law_k"] (by walk_at "b2")
 obtain⟨f21,v21,F21⟩:=d21.go X G ["_law_cell_here","_law_many"] (by walk_at "b2")
 obtain⟨f22,v22,F22⟩:=d22.go X G [] (by walk_at "b0")
 obtain⟨f23,v23,F23⟩:=d23.go X G ["_law_text","_law_number"] (by walk_at "b2")
 have F24:=B6 (st:=kI) l24 c24 k24
 have m24:=xay X G a24
 obtain⟨C_NoText,c_NoText,y_NoText,x_NoText⟩:=xd_NoText.go X G
 have n_str:=xa9 X G z_str
 have n_int:=xa9 X G z_int
 have n_range:=xa9 X G z_range
 have n_len:=xa9 X G z_len
 have n_isinstance:=xa9 X G z_isinstance
 have n_bool:=xa9 X G z_bool
 have n_tuple:=xa9 X G z_tuple
 have n_zip:=xa9 X G z_zip
 have n_all:=xa9 X G z_all
 have n_enumerate:=xa9 X G z_enumerate
 have n_ValueError:=xa9 X G z_ValueError
 have n_min:=xa9 X G z_min
 have n_max:=xa9 X G z_max
 have c_ChalkError:=xay X G e_ChalkError
 have c_NoPlace:=xay X G e_NoPlace
 have c_Same:=xay X G e_Same
 have c_NoFloor:=xay X G e_NoFloor
 have c_Endless:=xay X G e_Endless
 have c_NoDeed:=xay X G e_NoDeed
 have c_NoName:=xay X G e_NoName
 have c_TooMany:=xay X G e_TooMany
 have c_NoChange:=xay X G e_NoChange
 have c_NoFrame:=xay X G e_NoFrame
 have c_NoValue:=xay X G e_NoValue
 have c_Unlike:=xay X G e_Unlike
 have c_NoRatio:=xay X G e_NoRatio
 have c_NoBow:=xay X G e_NoBow
 have c_NoRow:=xay X G e_NoRow
 refine⟨PySem.W.fnOf "law" "law" (kN kI) (gE kI) (cP kI) .none kV24 dc24 pm24 an24 cd24 ct24,fun s v=>.of_eq rfl,fun base _ _=>?_⟩
 have k_MOST_LETTERS_is:∃u v,mg "MOST_LETTERS"=some u/\aR v u/\∀G,aQ K mg G t0 v:=⟨_,.int 8,xay X G q_MOST_LETTERS,⟨_,rfl⟩,fun _=>rfl⟩
 have k_LETTERS_is:∃u v,mg "LETTERS"=some u/\aR v u/\∀G,aQ K mg G yT v:=⟨_,.str "abcdefghijklmnopqrstuvwxyz",xay X G q_LETTERS,⟨_,rfl⟩,fun _=>rfl⟩
 have k_FIGURES_is:∃u v,mg "FIGURES"=some u/\aR v u/\∀G,aQ K mg G nZ v:=⟨_,.str "0123456789",xay X G q_FIGURES,⟨_,rfl⟩,fun _=>rfl⟩
 have k_MOST_FIGURES_is:∃u v,mg "MOST_FIGURES"=some u/\aR v u/\∀G,aQ K mg G qJ v:=⟨_,.int 9,xay X G q_MOST_FIGURES,⟨_,rfl⟩,fun _=>rfl⟩
 have k_MOST_DEEP_is:∃u v,mg "MOST_DEEP"=some u/\aR v u/\∀G,aQ K mg G qL v:=⟨_,.int 8,xay X G q_MOST_DEEP,⟨_,rfl⟩,fun _=>rfl⟩
 have k_SIGNS_is:∃u v,mg "SIGNS"=some u/\aR v u/\∀G,aQ K mg G qM v:=⟨_,.ref a_SIGNS,xay X G q_SIGNS,rfl,fun _=>YQ (l:=[("+",t0_SIGNS),("-",t1_SIGNS),("*",t2_SIGNS),("/",t3_SIGNS)]) lq_SIGNS rfl (show 4<=100 by decide)⟩
 have k_MOST_SIGNS_is:∃u v,mg "MOST_SIGNS"=some u/\aR v u/\∀G,aQ K mg G uC v:=⟨_,.int 60,xay X G q_MOST_SIGNS,⟨_,rfl⟩,fun _=>rfl⟩
 have T_BINDS:tY K mg w "BINDS" lD:=⟨a_BINDS,es_BINDS,n_BINDS,xay X G q_BINDS,lq_BINDS,kq_BINDS,fun p hp=>by
  simp only[lD,xal,xa2,or_false] at hp
  rcases hp with rfl|rfl|rfl|rfl|rfl
  ·exact⟨_,tq0_BINDS⟩
  ·exact⟨_,tq1_BINDS⟩
  ·exact⟨_,tq2_BINDS⟩
  ·exact⟨_,tq3_BINDS⟩
  ·exact⟨_,tq4_BINDS⟩⟩
 have G0:aU l.prog w K mg base 65 "_law_part" oC:=zci (k:=0) F0 n_str n_int
 have G1:aU l.prog w K mg base 1 "_law_mixed" lE:=zcj (k:=0) F1
 have G2:=zck (k:=1) F2 n_range G1
 have G3:aU l.prog w K mg base 1 "_law_leaf" kD:=zcl (k:=0) F3 n_len
 have G4:=zcm (k:=2) F4 n_len G2 (G3.mono (by decide:1<=2))
 have G5:aU l.prog w K mg base 1 "_law_leaf_of" oF:=zcn (k:=0) F5 n_len n_int
 have G6:aU l.prog w K mg base 1 "_law_last" oH:=zco (k:=0) F6 n_range n_len n_int
 have G7:=zcp (k:=1) F7 G6 G5
 have G8:aU l.prog w K mg base 1 "_law_whole" n9:=zcq (k:=0) F8 n_isinstance n_int n_bool
 have G9:=zcr (k:=1) F9 n_isinstance n_tuple n_len n_zip n_str G8
 have G10:eK l.prog w K mg base 1 "join_sides" 0 1 gL:=zcs (k:=0) F10 n_len T_BINDS
 have G11:aU l.prog w K mg base 1 "is_word" n8:=zct (k:=0) F11 n_isinstance n_str n_len n_all k_MOST_LETTERS_is k_LETTERS_is
 have G12:aU l.prog w K mg base 1 "read_number" mJ:=zcu (k:=0) F12 c_NoText y_NoText x_NoText n_all n_int k_FIGURES_is
 have G13:=zcv (k:=1) F13 c_NoText y_NoText x_NoText n_len k_MOST_FIGURES_is G11 G12
 have G14:eK l.prog w K mg base 3 "read_side" 1 2 fZ:=zcw (k:=2) F14 c_NoText y_NoText x_NoText n_len n_range k_MOST_DEEP_is G13 (G10.mono (by decide:1<=2))
 have G15:eK l.prog w K mg base 2 "read_sign" 1 2 iJ:=zcx (k:=1) F15 c_NoText y_NoText x_NoText k_SIGNS_is T_BINDS G10
 have G16:=zcy (k:=3) F16 c_NoText y_NoText x_NoText n_isinstance n_str n_len n_enumerate k_MOST_SIGNS_is G14 (G15.mono (by decide:2<=3)) (G10.mono (by decide:1<=3))
 have G17:aU l.prog w K mg base 1 "_law_alone" oE:=zcz (k:=0) F17 c_NoPlace c_Same c_NoFloor c_Endless c_NoDeed c_NoText c_NoName c_TooMany c_NoChange c_NoFrame c_NoValue c_Unlike c_NoRatio c_NoBow c_NoRow c_ChalkError n_int n_isinstance n_ValueError
 have G18:=zcA (k:=4) F18 c_ChalkError c_NoText n_isinstance G16 (G17.mono (by decide:1<=4))
 have G19:=zcB (k:=66) F19 n_len G7 (G18.mono (by decide:5<=66)) G9 (G16.mono (by decide:4<=66))
 have G20:aU l.prog w K mg base 1 "_law_cell" jO:=zcC (k:=0) F20 n_len
 have G21:=zcD (k:=2) F21 n_range G2
 have G22:aU l.prog w K mg base 1 "_law_menu" qS:=zcE (k:=0) F22
 have G23:=zcF (k:=1) F23 n_len n_min n_max G22
 exact XS (zcG (P:=l.prog) (w:=w) (base:=base) (k:=67) F24 n_range n_max n_min n_len (G0.mono (by decide:65<=67)) (G4.mono (by decide:3<=67)) (G21.mono (by decide:3<=67)) (G20.mono (by decide:1<=67)) G19 (G1.mono (by decide:1<=67)) (G23.mono (by decide:2<=67)) (G18.mono (by decide:5<=67))) hlaw
end Kx
structure PySem.W.Fast:Prop where
 (tw10007166580501126013 tw10038510630948248905 tw10068911001536486140 tw1016106249936702994 tw10174124878494803578 tw10192569874994957633 tw1021632907328642710 tw10222435934923895179 tw10241485106199791241 tw10331746064126589466 tw1040586372505352222 tw10485573530731278676 tw10557804212932176514 tw10596002937351831687 tw1066982527401769378 tw10716441911938025691 tw10761361395147624570 tw10770736376732270265 tw10780197989038454309 tw10846141042657065684 tw10857386723181387595 tw10860538029138711746 tw1086378269854237537 tw1098429608074328879 tw11148228860459907305 tw11151062943944863996 tw1121068045127495208 tw11300341429294262558 tw11354675686257567547 tw11397785307443513018 tw11626637499937995545 tw11723750532725962009 tw11737473513308308430 tw11778831826125865206 tw11791406517336782896 tw11858009630435804261 tw11866202883747667025 tw11881931480978955825 tw1188769501822408575 tw11924699316070761981
  tw11976436987135326063 tw1202840729621412182 tw12169882310609393723 tw12246080072826311873 tw12287453969430881584 tw12319852892491610397 tw12365452447327841017 tw12403501271363546260 tw12441075141429545860 tw12448265020015626081 tw12530635511619984076 tw12544114616605455046 tw12646934377699179983 tw12685954283953295020 tw12753437113699309375 tw12836222363737844000 tw12901926959362021526 tw1291202771743177761 tw12949394996322378187 tw12991771085620713823 tw13008357561542131407 tw1302145558011345895 tw1302447623294147076 tw13026693433130231425 tw13101603266833438042 tw13125081237962043576 tw1315947600994570309 tw13168415575255096036 tw13199802784824749751 tw13205228493924688340 tw13207759195101587511 tw13218643583115373113 tw13265111797764117729 tw13271006716893008945 tw13370595505698458674 tw13375701485967060541 tw13432042848396682740 tw13529629397409447702 tw13590002281759061439 tw13595085361408371433
  tw13630142101692142865 tw13631458016131439445 tw13673597772889979286 tw13805257557242693172 tw13880120361795524434 tw13951933263832465412 tw13961904077368116449 tw14093528385260968219 tw14174577213352159340 tw14209868355496829148 tw14247697727353852818 tw14293860750057624200 tw14474628586753860786 tw1448289404917804705 tw14515851758313574489 tw14556700375814044875 tw14719343165846964551 tw14777462919942912370 tw14871323586002322490 tw1493011377555806716 tw14977844516815057056 tw15001797698897119699 tw15027482887867330432 tw15062388764518627800 tw15188610182178952693 tw15229735488069835400 tw15275746894616968153 tw15327742298485504919 tw15338207322006906028 tw15389251982338420726 tw15549136206779860731 tw15681077653623042081 tw15704297803334739062 tw1570749137657043455 tw15724257627520039325 tw1573194835611327124 tw15843194744451945804 tw15872999387645463430 tw15879581923704883210 tw15913456706401901116
  tw15958866728999534969 tw15980706880270042981 tw16052851907265155813 tw16238602952138792342 tw16260001680133148464 tw16303035349698401550 tw16412528066737023987 tw16416713079457122323 tw16422725684875107424 tw16573990251535842626 tw16759885314673884307 tw16947648771532194876 tw17070174612352294180 tw17076483017737710398 tw17296873222707625012 tw17406057252653056051 tw17436692107370558533 tw17442031586889497423 tw17476893307386296543 tw17515414857819845361 tw17575927895363677797 tw17613014253080816455 tw17636376020850043473 tw17665497098035933199 tw1774684118389294874 tw17794591251328913317 tw17846869081739481060 tw17847382785919226943 tw17862668241470313217 tw1813749890829501759 tw18203317072771251406 tw1831817361956026467 tw18376373406326756921 tw18390767786112827976 tw18400452107800519889 tw1842899111974182587 tw18438733645457388278 tw1860547871383247262 tw1918278945530162767 tw1937141634728375938
  tw2130240362661888145 tw2139799049886546852 tw2166592854086138132 tw2195017817599798083 tw2216967092448556351 tw226166081325976743 tw2348236904613805417 tw2352220949891799015 tw2433240271914317646 tw2592458112912096202 tw2634124485275745739 tw2641175782990379135 tw2772319823181770431 tw2800668024277034865 tw2840005363669985018 tw28508865549475311 tw2959020075883087668 tw312438731081918332 tw315049966908905534 tw316478666471017636 tw318401828510864767 tw3230135032715093824 tw3256337246476287971 tw3317644674078541983 tw3394876444124583117 tw3412314344622939006 tw3423262306433974563 tw3424573245194433839 tw3436430245014830013 tw3492805067868585387 tw3565567129326323611 tw3584677957937399809 tw3600421727978133025 tw3624873414409840997 tw3647439717657869419 tw3655326367570683884 tw3690284825950128037 tw3748918012742667764 tw37644498048175279 tw3867098397301854295
  tw3913067949475827056 tw3918035757457963337 tw3948732026605572684 tw3952268524450163763 tw395877187306560895 tw4045161516087151856 tw4129590279139687623 tw420344947609491772 tw4238755225699354156 tw4505073863104407617 tw4610974459984102572 tw4694131558671392606 tw4718393288360575968 tw4742896306421015486 tw4847628520592345657 tw4877395662227417774 tw4900216201055416287 tw4933416156574931080 tw494316796943855701 tw5000749817048470806 tw5034021925204225424 tw5060570004121908889 tw5120570458264373135 tw512197627303781783 tw5125362432795587585 tw5162481813022223461 tw5354320136791151665 tw5381617549985387119 tw5399911437440430656 tw5430102300281306597 tw5622108197825769082 tw5699642567659040938 tw5705590954805364720 tw5713717741858430749 tw5795709000284293607 tw5892183908757024295 tw5997114643114996616 tw6003951783379511628 tw6029748269884293239 tw6076623190704626946
  tw6116320299828728217 tw6139555815002993816 tw616587507585582105 tw6245701567494526981 tw6270550426606305896 tw631388389845459334 tw639760729713732724 tw6540126724679913350 tw6570285685867861684 tw6595625552194320127 tw6613855562218117902 tw6675678823267630353 tw6683170880096092507 tw6783016727449589422 tw6832168861106288996 tw6869303936578263706 tw6938133700411497436 tw6962216701140122219 tw7035767037324782436 tw710844272885150061 tw7123534989556759447 tw712465817494190099 tw7200136304443028058 tw7219329578268190250 tw7230992638142682030 tw7244855975775082233 tw7254004276723868419 tw7303527480212882331 tw7304053016452990142 tw7460347072117401689 tw7526281131488851454 tw7566012364743095634 tw7569412638383815842 tw7570673617061357567 tw7732802279722159017 tw7837646483674871590 tw7854831764380250896 tw7865011900213306022 tw7917703661272949633 tw7922838975043840295
  tw8030361092663590682 tw8056113243418045573 tw8154067325508976912 tw8212774009019047278 tw8261981469260415515 tw829976083153218370 tw8303678270533026372 tw8511710046882349867 tw8512457586975618332 tw8531518267617806960 tw8539240153178034238 tw8546193396166385463 tw8557507890364528206 tw8613864762359898768 tw8621335762346409593 tw8626208128034800101 tw8634870048946857491 tw8679981965718473003 tw8719493036982248537 tw8770574779731334413 tw8785160793499500966 tw8905445670032349699 tw8912988776595869758 tw8914294229919370791 tw9010294347451381112 tw9022864143136560606 tw9090091298545543099 tw9132194999244183048 tw9135426750630073853 tw9235822100890090203 tw9281791650727814485 tw9332818325048210330 tw9343500104610100561 tw9435020266221545449 tw9529799877331478955 tw9562983844037361048 tw9775787939724145753 tw9776492025684448966 tw9792440825349379068 tw986523114481279004:True)
open PySem.W PyProof.Rows
local macro_rules | `(tactic| walk_at "KQ")=>`(tactic| (repeat' first|exact True.intro|refine⟨⟨_,_,rfl,rfl⟩,?_⟩|refine⟨_,_⟩))
local macro_rules | `(tactic| walk_at "FD")=>`(tactic| (refine' DL.FD.mk' ?a ?l ?c ?k;(case a=>k_is);(case l=>k_is);(case c=>k_is);(case k=>k_is)))
local macro_rules | `(tactic| walk_at "NR")=>`(tactic| first|(refine' DL.NR.ff ?h ?a ?t;(case h=>decide);(case a=>k_is);(case t=>kit_is))|(refine' DL.NR.tt ?h ?a ?t ?u;(case h=>decide);(case a=>k_is);(case t=>kit_is);(case u=>kts_exm))|(refine' DL.NR.no ?a;(case a=>k_is)))
local macro_rules | `(tactic| walk_at "XD")=>`(tactic| (refine' DL.XD.mk' ?e ?y ?g ?i ?b ?o ?a ?s ?t ?v ?r0 ?r1 ?r2 ?r3 ?r4 ?r5 ?r6 ?r7 ?r8 ?r9 ?r10 ?r11 ?r12 ?r13 ?r14 ?r15;(case e=>k_is);(case y=>k_exc);(case g|i|b|o|a|s|t=>k_is);(case v=>kit_is);(case r0|r1|r2|r3|r4|r5|r6|r7|r8|r9|r10|r11|r12|r13|r14|r15=>walk_at "NR")))
set_option maxRecDepth 100000 in
set_option maxHeartbeats 0 in
theorem PySem.Challenge.cw_chalkline_k57_no_sum_holds : PySem.Challenge.rw_chalkline_k57_no_sum.Holds := by
 w_on;o_law;k_head;(case hw=>w_witness2)
 k_fill
 refine DL.walkD (l:=PySem.Challenge.rw_chalkline_k57_no_sum) 68 ⟨rfl,by decide,by decide⟩ rfl rfl (fun w h Y=>PySem.W.kIn_of Y) ?F
 case F=>
  intro w mg fa h KX G hmg
  refine' Kx.all_mk KX G hmg ?d0 ?d1 ?d2 ?d3 ?d4 ?d5 ?d6 ?d7 ?d8 ?d9 ?d10 ?d11 ?d12 ?d13 ?d14 ?d15 ?d16 ?d17 ?d18 ?d19 ?d20 ?d21 ?d22 ?d23 ?a24 ?l24 ?c24 ?k24 ?xd_NoText ?z_str ?z_int ?z_range ?z_len ?z_isinstance ?z_bool ?z_tuple ?z_zip ?z_all ?z_enumerate ?z_ValueError ?z_min ?z_max ?e_ChalkError ?e_NoPlace ?e_Same ?e_NoFloor ?e_Endless ?e_NoDeed ?e_NoName ?e_TooMany ?e_NoChange ?e_NoFrame ?e_NoValue ?e_Unlike ?e_NoRatio ?e_NoBow ?e_NoRow ?q_MOST_LETTERS ?q_LETTERS ?q_FIGURES ?q_MOST_FIGURES ?q_MOST_DEEP ?q_SIGNS ?lq_SIGNS ?q_MOST_SIGNS ?q_BINDS ?lq_BINDS ?kq_BINDS ?tq0_BINDS ?tq1_BINDS ?tq2_BINDS ?tq3_BINDS ?tq4_BINDS ?hlaw
  (case d0|d1|d2|d3|d4|d5|d6|d7|d8|d9|d10|d11|d12|d13|d14|d15|d16|d17|d18|d19|d20|d21|d22|d23=>walk_at "FD")
  (case a24|l24|c24|k24=>k_is)
  (case xd_NoText=>walk_at "XD")
  (case z_str|z_int|z_range|z_len|z_isinstance|z_bool|z_tuple|z_zip|z_all|z_enumerate|z_ValueError|z_min|z_max|e_ChalkError|e_NoPlace|e_Same|e_NoFloor|e_Endless|e_NoDeed|e_NoName|e_TooMany|e_NoChange|e_NoFrame|e_NoValue|e_Unlike|e_NoRatio|e_NoBow|e_NoRow|q_MOST_LETTERS|q_LETTERS|q_FIGURES|q_MOST_FIGURES|q_MOST_DEEP|q_SIGNS|lq_SIGNS|q_MOST_SIGNS|q_BINDS|lq_BINDS=>k_is)
  (case kq_BINDS=>walk_at "KQ")
  (case tq0_BINDS|tq1_BINDS|tq2_BINDS|tq3_BINDS|tq4_BINDS=>k_is)
  (case hlaw=>exact Lk57.law_ok)
end